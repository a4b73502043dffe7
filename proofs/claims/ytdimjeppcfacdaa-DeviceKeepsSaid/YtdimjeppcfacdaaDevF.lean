/- Append of package device. -/
import Derived.Test.YtdimjeppcfacdaaDevE
import Derived.BigQuiet
import Derived.Deep.QuietTactic
namespace Go.Proofs.Ytdimjeppcfacdaa
open Go.RowKit
attribute [-go_sem] Builtin.append_

/-- An append of whatever bytes to a row, as an equation. -/
theorem run_append_bytes (W : World) (v : Value) (n : Nat) (xs : List Value) (hown : W.ownsRow 0 5 1 v n xs) (B : Nat) (sv : Value) (l : List Nat) (hS : Sl encY B W sv l) (hm : n + l.length ≤ 1073741824) :
    ∃ v' w', (Builtin.append_ #[22, 22] 22 #[v, sv]).run Try.prog W = .ok v' w' ∧ w'.ownsRow 0 5 1 v' (n + l.length) (xs ++ l.map encY) ∧ W.grownBy w' v.ownBlock ∧ (v'.ownBlock = v.ownBlock ∨ v'.ownBlock = some W.heap.size) := by
  obtain ⟨i0, hi, hz0, hz1, hz2⟩ := info_parts info8
  rcases hS with ⟨rfl, ao, c0, rfl, hao⟩ | ⟨b, off, cap, rfl, hb, hcap, hc⟩
  · cases ao with
    | some ad =>
      obtain ⟨v', w', h1, h2, h3, _, h5⟩ := run_append_own_at (P := Try.prog) W 0 22 22 5 i0 (.int .u8 0) 1 1 Try.underlying22 hi hz0 hz1 hz2 rfl (by decide) v n xs hown ad 0 c0 [] rfl (fun j u hu => by simp at hu) (fun u hu => by cases hu) (by unfold maxLen; simp at hm; omega) (by simp at hm; omega) (Nat.zero_le _)
      exact ⟨v', w', h1, h2, h3, h5⟩
    | none =>
      obtain rfl := hao rfl
      exact ⟨v, W, run_append_owned_none (P := Try.prog) (w := W) 0 22 22 5 i0 1 Try.underlying22 hi v n xs hown, by simpa using hown, World.grownBy.refl _ _, .inl rfl⟩
  · obtain ⟨v', w', h1, h2, h3, _, h5⟩ := run_append_own_at (P := Try.prog) W 0 22 22 5 i0 (.int .u8 0) 1 1 Try.underlying22 hi hz0 hz1 hz2 rfl (by decide) v n xs hown ⟨b, off, none⟩ l.length cap (l.map encY) (by simp) (fun j u hu => by
      rw [List.getElem?_map] at hu
      cases hj : l[j]? with
      | none => rw [hj] at hu; cases hu
      | some y => rw [hj] at hu; cases hu; rw [show (⟨b, off, none⟩ : Addr).add j = ⟨b, off + j, none⟩ from by unfold Addr.add; split <;> simp_all]; exact hc j y hj) (encY_one l) (by unfold maxLen; omega) (by omega) (Nat.zero_le _)
    exact ⟨v', w', h1, h2, h3, h5⟩
theorem But.grown {own : List Nat} {A B C : World} {row : Option Nat} (h : But own A B) (hg : B.grownBy C row) (hr : ∀ g, row = some g → g ∈ own) : But own A C :=
  ⟨hg.os.trans h.os, hg.tape.trans h.tape, hg.output.trans h.output, Nat.le_trans h.size hg.size, fun k hk hn => (hg.block k (Nat.lt_of_lt_of_le hk h.size) (fun e => hn (hr k e.symm))).trans (h.block k hk hn)⟩
theorem turn_b0 (D : DevS) (n : Nat) : (D.turn n).r0 = D.r0 := rfl
theorem Row.grown {W W' : World} {v : Value} {l : List Nat} {row : Option Nat} (h : Row W v l) (hg : W.grownBy W' row) (hn : ∀ g, v.ownBlock = some g → row ≠ some g) : Row W' v l := by
  obtain ⟨h1, h2⟩ := h
  refine ⟨h1, ?_⟩
  rcases h2 with h2 | ⟨g, cap, cur, hv, hg0, hh, r⟩
  · exact .inl h2
  · exact .inr ⟨g, cap, cur, hv, hg0, (hg.block g (Array.getElem?_eq_some_iff.1 hh).1 (fun e => hn g (by rw [hv]; rfl) e.symm)).trans hh, r⟩

/-- A region's row was appended to, its field set anew. -/
theorem Dev.grow0 {own : List Nat} {W W' : World} {b : Nat} {D : DevS} {v0 v1 v : Value} {l : List Nat} (h : Dev own W b D v0 v1) (hown : W'.ownsRow 0 5 1 v (D.r0.length + l.length) (D.r0.map encY ++ l.map encY)) (hg : W.grownBy W' v0.ownBlock) (hat : v.ownBlock = v0.ownBlock ∨ v.ownBlock = some W.heap.size)
    (hl : D.r0.length + l.length ≤ D.cap) (hb : ∀ x ∈ l, x < 256) : DevTo own W b (D.put 0 (D.r0 ++ l)) (W'.setCell ⟨b, 1, none⟩ v) := by
  have hbut : But own W W' := (But.refl _ _).grown hg (fun g e => (h.o0 g e).1)
  have hrow : Row W' v (D.r0 ++ l) := by
    unfold Row
    rw [List.length_append, List.map_append]; exact hown
  have hne : v0.ownBlock ≠ some b := h.r0.ne h.blk
  have hblk : DevB W' b D.cap v0 v1 D.down D.left D.turned := (hg.block b h.blk.lt (fun e => hne e.symm)).trans h.blk
  have hlt : ∀ g, v.ownBlock = some g → g < W'.heap.size := hrow.lt
  have hother : Row W' v1 D.r1 := h.r1.grown hg (fun g e e2 => (h.o0 g e2).2 e)
  have ownlt : ∀ k ∈ own, k < W'.heap.size := fun k hk => Nat.lt_of_lt_of_le (h.lt k hk) hg.size
  have hlen : (D.r0 ++ l).length ≤ D.cap := by rw [List.length_append]; exact hl
  have hby : ∀ x ∈ D.r0 ++ l, x < 256 := fun x hx => (List.mem_append.1 hx).elim (h.ok.b0 x) (hb x)
  have hset : But [b] W' (W'.setCell ⟨b, 1, none⟩ v) := (But.refl _ _).set (by simp) _
  have hrow2 : Row (W'.setCell ⟨b, 1, none⟩ v) v (D.r0 ++ l) := hrow.but hset (fun g hg' hk => by simp at hk; subst hk; exact hrow.ne hblk hg')
  have hother2 : Row (W'.setCell ⟨b, 1, none⟩ v) v1 D.r1 := hother.but hset (fun g hg' hk => by simp at hk; subst hk; exact hother.ne hblk hg')
  refine ⟨v.ownBlock.toList ++ own, v, v1, ⟨hblk.set_r0 v, hrow2, hother2, by simp [h.bo], ?_, ?_, fun k hk => ?_, ⟨h.ok.cap, hlen, h.ok.l1, hby, h.ok.b1, h.ok.lf, h.ok.tn⟩⟩, hbut.set h.bo _, fun k hk => ?_⟩
  · intro g hg'
    refine ⟨by simp [hg'], fun e => ?_⟩
    rcases hat with e1 | e1
    · rw [hg'] at e1; exact (h.o0 g e1.symm).2 e
    · rw [hg'] at e1; cases e1; exact absurd (h.r1.lt _ e) (by omega)
  · intro g hg'; simp [h.o1 g hg']
  · have hz : (W'.setCell ⟨b, 1, none⟩ v).heap.size = W'.heap.size := by simp [World.setCell]
    rw [hz]
    rcases List.mem_append.1 hk with hk | hk
    · exact hlt k (by simpa using hk)
    · exact ownlt k hk
  · rcases List.mem_append.1 hk with hk | hk
    · have hk' : v.ownBlock = some k := by simpa using hk
      rcases hat with e | e
      · rw [hk'] at e; exact .inl ((h.o0 k e.symm).1)
      · rw [hk'] at e; cases e; exact .inr (Nat.le_refl _)
    · exact .inl hk

set_option maxRecDepth 100000 in
set_option maxHeartbeats 4000000 in
theorem append0_any {own : List Nat} {b : Nat} {D : DevS} {v0 v1 : Value} (pa : Option Addr) (n c : Nat) (l : List Nat) (hlb : ∀ x ∈ l, x < 256) (hfit : l.length ≤ D.cap - D.r0.length) (hd : D.down = false) (w : World) (h : Dev own w b D v0 v1) (hS : Sl encY w.heap.size w (.slice pa n c) l) (ho : Off own (.slice pa n c)) :
    Calls Try.prog 84 #[.pointer (some ⟨b, 0, none⟩), .int .i64 0, .slice pa n c] w fun e w' =>
      e = .returned (.int .i64 (downE l.length D.left)) ∧ DevTo own w b ((D.turn l.length).put 0 (D.r0 ++ l.take (doneN l.length D.left))) w' := by
  have c3 := h.blk.c3
  rw [hd] at c3
  have c0 := h.blk.c0
  have hl := h.ok.l0
  have hcap := h.ok.cap
  obtain rfl := hS.len
  have hcc := hS.capb
  have HH := Lib.hid (fun p w => dhas_any p 0 w)
  rw [show regB 0 = true from rfl] at HH
  obtain ⟨a, c', e0, hcc'⟩ := h.r0.form
  subst e0
  have cF := h.blk.c1
  obtain ⟨q, hq⟩ : ∃ q, l.length = q := ⟨_, rfl⟩
  have hle : doneN q D.left ≤ q := Nat.min_le_left _ _
  have HQ := Lib.hid hq
  rw [hq] at hfit hcc ho hS ⊢
  have HT := Lib.hid (fun (nq : Nat) => dturn_any q (by omega) h.ok.lf h.ok.tn (w.drewN nq) (v0 := (.slice a D.r0.length c')) (v1 := v1) (dn := D.down) (cap := D.cap) h.blk)
  obtain ⟨k, hk⟩ : ∃ k, doneN q D.left = k := ⟨_, rfl⟩
  rw [hk] at hle HT ⊢
  have HFIN : Hid (∀ (w1 : World), But [b] w w1 → DevB w1 b D.cap (.slice a D.r0.length c') v1 (D.down || decide (D.left < q)) (D.left - k) (turnedN D.turned k) →
      ∃ (p2 : Option Addr) (n2 c2 : Nat) (w2 : World), (Builtin.append_ #[22, 22] 22 #[.slice a D.r0.length c', .slice pa k c]).run Try.prog w1.drew = .ok (.slice p2 n2 c2) w2 ∧ w2.cell? ⟨b, 1, none⟩ = some (.slice a D.r0.length c') ∧ w2.frozen? ⟨b, 1, none⟩ = false ∧
        DevTo own w b ((D.turn q).put 0 (D.r0 ++ l.take k)) (w2.setCell ⟨b, 1, none⟩ (.slice p2 n2 c2))) := Lib.hid (by
    intro w1 hb1 hblk
    have hd1 := h.turned q hb1 (by rw [hk]; exact hblk)
    have hd2 := hd1.drew
    have hb2 : But own w w1 := hb1.more (fun x hx => by simp at hx; subst hx; exact .inl h.bo)
    have hS1 := (hS.but hb2 ho).take (k := k) hle
    have htl : (l.take k).length = k := by rw [List.length_take]; omega
    obtain ⟨v', w2, r1, r2, r3, r4⟩ := run_append_bytes w1.drew _ _ _ hd2.r0 _ _ (l.take k) hS1 (by rw [turn_r0, htl]; omega)
    have hg := hd2.grow0 r2 r3 r4 (by rw [turn_r0, turn_cap, htl]; omega) (fun x hx => hlb x (List.mem_of_mem_take hx))
    have hne : (Value.slice a D.r0.length c').ownBlock ≠ some b := hd2.r0.ne hd2.blk
    have hblk2 : DevB w2 b D.cap (.slice a D.r0.length c') v1 (D.down || decide (D.left < q)) (D.left - k) (turnedN D.turned k) := (r3.block b hd2.blk.lt (fun e => hne e.symm)).trans hblk.drew
    obtain ⟨p2, n2, c2, rfl⟩ : ∃ p2 n2 c2, v' = .slice p2 n2 c2 := by
      rcases r2.2 with ⟨e, _⟩ | ⟨g, cap, cur, e, _⟩
      · exact ⟨_, _, _, e⟩
      · exact ⟨_, _, _, e⟩
    refine ⟨p2, n2, c2, w2, r1, hblk2.c1, hblk2.frozen 1, ?_⟩
    obtain ⟨own', v0', v1', g1, g2, g3⟩ := hg
    exact ⟨own', v0', v1', g1, hb2.drew.trans g2 (fun k hk => .inl hk), fun k hk => (g3 k hk).elim .inl (fun h4 => .inr (Nat.le_trans hb2.size h4))⟩)
  obtain ⟨m, hm⟩ : ∃ m, D.r0.length = m := ⟨_, rfl⟩
  rw [hm] at hl cF hcc' HT HFIN hfit
  have hgt : ((q : Int) > (D.cap : Int) - (m : Int)) ↔ False := by
    constructor
    · intro h; omega
    · intro h; exact h.elim
  have hdec : decide ((D.cap : Int) - (m : Int) < (q : Int)) = false := decide_eq_false (by omega)
  have hkc : k ≤ c := by omega
  clear hgt hk h hS ho hm hq hd hlb
  obtain ⟨cp, hcp⟩ : ∃ cp, D.cap = cp := ⟨_, rfl⟩
  rw [hcp] at c0 hl hfit hcap hdec
  clear hcp
  go_enter Try.func84, Try.ntmps84
  go_wp2_with (go_at_call 94; refine (HH.out _ _).mono ?_; rintro e w' ⟨rfl, rfl⟩)
  go_quiet (fail)
  go_wp2_with (go_at_call 119; refine (HT.out _).mono ?_; rintro e w1 ⟨rfl, hblk, hb1, hz1⟩; obtain ⟨p2, n2, c2, w2, hrun, hc2, hf2, hto⟩ := HFIN.out w1 ⟨hb1.os, hb1.tape, hb1.output, hb1.size, hb1.block⟩ hblk; have cG := hblk.c1; have fG := hblk.frozen 1; have HTO := Lib.hid hto; clear hblk hb1 hz1 hto HFIN)
  go_region
  all_goals go_wp2
  all_goals go_ret
  all_goals exact ⟨rfl, HTO.out⟩

/-- A region's row was appended to, its field set anew. -/
theorem Dev.grow1 {own : List Nat} {W W' : World} {b : Nat} {D : DevS} {v0 v1 v : Value} {l : List Nat} (h : Dev own W b D v0 v1) (hown : W'.ownsRow 0 5 1 v (D.r1.length + l.length) (D.r1.map encY ++ l.map encY)) (hg : W.grownBy W' v1.ownBlock) (hat : v.ownBlock = v1.ownBlock ∨ v.ownBlock = some W.heap.size)
    (hl : D.r1.length + l.length ≤ D.cap) (hb : ∀ x ∈ l, x < 256) : DevTo own W b (D.put 1 (D.r1 ++ l)) (W'.setCell ⟨b, 2, none⟩ v) := by
  have hbut : But own W W' := (But.refl _ _).grown hg (fun g e => h.o1 g e)
  have hrow : Row W' v (D.r1 ++ l) := by
    unfold Row
    rw [List.length_append, List.map_append]; exact hown
  have hne : v1.ownBlock ≠ some b := h.r1.ne h.blk
  have hblk : DevB W' b D.cap v0 v1 D.down D.left D.turned := (hg.block b h.blk.lt (fun e => hne e.symm)).trans h.blk
  have hlt : ∀ g, v.ownBlock = some g → g < W'.heap.size := hrow.lt
  have hother : Row W' v0 D.r0 := h.r0.grown hg (fun g e e2 => (h.o0 g e).2 e2)
  have ownlt : ∀ k ∈ own, k < W'.heap.size := fun k hk => Nat.lt_of_lt_of_le (h.lt k hk) hg.size
  have hlen : (D.r1 ++ l).length ≤ D.cap := by rw [List.length_append]; exact hl
  have hby : ∀ x ∈ D.r1 ++ l, x < 256 := fun x hx => (List.mem_append.1 hx).elim (h.ok.b1 x) (hb x)
  have hset : But [b] W' (W'.setCell ⟨b, 2, none⟩ v) := (But.refl _ _).set (by simp) _
  have hrow2 : Row (W'.setCell ⟨b, 2, none⟩ v) v (D.r1 ++ l) := hrow.but hset (fun g hg' hk => by simp at hk; subst hk; exact hrow.ne hblk hg')
  have hother2 : Row (W'.setCell ⟨b, 2, none⟩ v) v0 D.r0 := hother.but hset (fun g hg' hk => by simp at hk; subst hk; exact hother.ne hblk hg')
  refine ⟨v.ownBlock.toList ++ own, v0, v, ⟨hblk.set_r1 v, hother2, hrow2, by simp [h.bo], ?_, ?_, fun k hk => ?_, ⟨h.ok.cap, h.ok.l0, hlen, h.ok.b0, hby, h.ok.lf, h.ok.tn⟩⟩, hbut.set h.bo _, fun k hk => ?_⟩
  · intro g hg'
    refine ⟨by simp [(h.o0 g hg').1], fun e => ?_⟩
    rcases hat with e1 | e1
    · rw [e] at e1; exact (h.o0 g hg').2 e1.symm
    · rw [e] at e1; cases e1; exact absurd (h.r0.lt _ hg') (by omega)
  · intro g hg'; simp [hg']
  · have hz : (W'.setCell ⟨b, 2, none⟩ v).heap.size = W'.heap.size := by simp [World.setCell]
    rw [hz]
    rcases List.mem_append.1 hk with hk | hk
    · exact hlt k (by simpa using hk)
    · exact ownlt k hk
  · rcases List.mem_append.1 hk with hk | hk
    · have hk' : v.ownBlock = some k := by simpa using hk
      rcases hat with e | e
      · rw [hk'] at e; exact .inl (h.o1 k e.symm)
      · rw [hk'] at e; cases e; exact .inr (Nat.le_refl _)
    · exact .inl hk

set_option maxRecDepth 100000 in
set_option maxHeartbeats 4000000 in
theorem append1_any {own : List Nat} {b : Nat} {D : DevS} {v0 v1 : Value} (pa : Option Addr) (n c : Nat) (l : List Nat) (hlb : ∀ x ∈ l, x < 256) (hfit : l.length ≤ D.cap - D.r1.length) (hd : D.down = false) (w : World) (h : Dev own w b D v0 v1) (hS : Sl encY w.heap.size w (.slice pa n c) l) (ho : Off own (.slice pa n c)) :
    Calls Try.prog 84 #[.pointer (some ⟨b, 0, none⟩), .int .i64 1, .slice pa n c] w fun e w' =>
      e = .returned (.int .i64 (downE l.length D.left)) ∧ DevTo own w b ((D.turn l.length).put 1 (D.r1 ++ l.take (doneN l.length D.left))) w' := by
  have c3 := h.blk.c3
  rw [hd] at c3
  have c0 := h.blk.c0
  have hl := h.ok.l1
  have hcap := h.ok.cap
  obtain rfl := hS.len
  have hcc := hS.capb
  have HH := Lib.hid (fun p w => dhas_any p 1 w)
  rw [show regB 1 = true from rfl] at HH
  obtain ⟨a, c', e1, hcc'⟩ := h.r1.form
  subst e1
  have cF := h.blk.c2
  obtain ⟨q, hq⟩ : ∃ q, l.length = q := ⟨_, rfl⟩
  have hle : doneN q D.left ≤ q := Nat.min_le_left _ _
  have HQ := Lib.hid hq
  rw [hq] at hfit hcc ho hS ⊢
  have HT := Lib.hid (fun (nq : Nat) => dturn_any q (by omega) h.ok.lf h.ok.tn (w.drewN nq) (v0 := v0) (v1 := (.slice a D.r1.length c')) (dn := D.down) (cap := D.cap) h.blk)
  obtain ⟨k, hk⟩ : ∃ k, doneN q D.left = k := ⟨_, rfl⟩
  rw [hk] at hle HT ⊢
  have HFIN : Hid (∀ (w1 : World), But [b] w w1 → DevB w1 b D.cap v0 (.slice a D.r1.length c') (D.down || decide (D.left < q)) (D.left - k) (turnedN D.turned k) →
      ∃ (p2 : Option Addr) (n2 c2 : Nat) (w2 : World), (Builtin.append_ #[22, 22] 22 #[.slice a D.r1.length c', .slice pa k c]).run Try.prog w1.drew = .ok (.slice p2 n2 c2) w2 ∧ w2.cell? ⟨b, 2, none⟩ = some (.slice a D.r1.length c') ∧ w2.frozen? ⟨b, 2, none⟩ = false ∧
        DevTo own w b ((D.turn q).put 1 (D.r1 ++ l.take k)) (w2.setCell ⟨b, 2, none⟩ (.slice p2 n2 c2))) := Lib.hid (by
    intro w1 hb1 hblk
    have hd1 := h.turned q hb1 (by rw [hk]; exact hblk)
    have hd2 := hd1.drew
    have hb2 : But own w w1 := hb1.more (fun x hx => by simp at hx; subst hx; exact .inl h.bo)
    have hS1 := (hS.but hb2 ho).take (k := k) hle
    have htl : (l.take k).length = k := by rw [List.length_take]; omega
    obtain ⟨v', w2, r1, r2, r3, r4⟩ := run_append_bytes w1.drew _ _ _ hd2.r1 _ _ (l.take k) hS1 (by rw [turn_r1, htl]; omega)
    have hg := hd2.grow1 r2 r3 r4 (by rw [turn_r1, turn_cap, htl]; omega) (fun x hx => hlb x (List.mem_of_mem_take hx))
    have hne : (Value.slice a D.r1.length c').ownBlock ≠ some b := hd2.r1.ne hd2.blk
    have hblk2 : DevB w2 b D.cap v0 (.slice a D.r1.length c') (D.down || decide (D.left < q)) (D.left - k) (turnedN D.turned k) := (r3.block b hd2.blk.lt (fun e => hne e.symm)).trans hblk.drew
    obtain ⟨p2, n2, c2, rfl⟩ : ∃ p2 n2 c2, v' = .slice p2 n2 c2 := by
      rcases r2.2 with ⟨e, _⟩ | ⟨g, cap, cur, e, _⟩
      · exact ⟨_, _, _, e⟩
      · exact ⟨_, _, _, e⟩
    refine ⟨p2, n2, c2, w2, r1, hblk2.c2, hblk2.frozen 2, ?_⟩
    obtain ⟨own', v0', v1', g1, g2, g3⟩ := hg
    exact ⟨own', v0', v1', g1, hb2.drew.trans g2 (fun k hk => .inl hk), fun k hk => (g3 k hk).elim .inl (fun h4 => .inr (Nat.le_trans hb2.size h4))⟩)
  obtain ⟨m, hm⟩ : ∃ m, D.r1.length = m := ⟨_, rfl⟩
  rw [hm] at hl cF hcc' HT HFIN hfit
  have hgt : ((q : Int) > (D.cap : Int) - (m : Int)) ↔ False := by
    constructor
    · intro h; omega
    · intro h; exact h.elim
  have hdec : decide ((D.cap : Int) - (m : Int) < (q : Int)) = false := decide_eq_false (by omega)
  have hkc : k ≤ c := by omega
  clear hgt hk h hS ho hm hq hd hlb
  obtain ⟨cp, hcp⟩ : ∃ cp, D.cap = cp := ⟨_, rfl⟩
  rw [hcp] at c0 hl hfit hcap hdec
  clear hcp
  go_enter Try.func84, Try.ntmps84
  go_wp2_with (go_at_call 94; refine (HH.out _ _).mono ?_; rintro e w' ⟨rfl, rfl⟩)
  go_quiet (fail)
  go_wp2_with (go_at_call 119; refine (HT.out _).mono ?_; rintro e w1 ⟨rfl, hblk, hb1, hz1⟩; obtain ⟨p2, n2, c2, w2, hrun, hc2, hf2, hto⟩ := HFIN.out w1 ⟨hb1.os, hb1.tape, hb1.output, hb1.size, hb1.block⟩ hblk; have cG := hblk.c2; have fG := hblk.frozen 2; have HTO := Lib.hid hto; clear hblk hb1 hz1 hto HFIN)
  go_region
  all_goals go_wp2
  all_goals go_ret
  all_goals exact ⟨rfl, HTO.out⟩

/-- What an append, or a truncation, comes to. -/
def appS (D : DevS) (i : Int) (l : List Nat) : DevS × Int :=
  if D.down = true then (D, 30) else if regB i = false then (D, 1) else if D.cap - (D.row i).length < l.length then (D, 6) else ((D.turn l.length).put i (D.row i ++ l.take (doneN l.length D.left)), downE l.length D.left)
def truncS (D : DevS) (i n : Int) : DevS × Int :=
  if D.down = true then (D, 30) else if regB i = false ∨ n < 0 ∨ ((D.row i).length : Int) < n then (D, 1)
  else ((D.turn ((D.row i).length - n.toNat)).put i ((D.row i).take ((D.row i).length - doneN ((D.row i).length - n.toNat) D.left)), downE ((D.row i).length - n.toNat) D.left)

set_option maxHeartbeats 1000000 in
theorem appdown_any {own : List Nat} {b : Nat} {D : DevS} {v0 v1 : Value} (i : Int) (sv : Value) (hd : D.down = true) (w : World) (h : Dev own w b D v0 v1) :
    Calls Try.prog 84 #[.pointer (some ⟨b, 0, none⟩), .int .i64 i, sv] w fun e w' => e = .returned (.int .i64 30) ∧ DevTo own w b D w' := by
  have c3 := h.blk.c3
  rw [hd] at c3
  have HD := Lib.hid (h.same (Below.refl _ _))
  clear h hd
  go_enter Try.func84, Try.ntmps84
  go_wp2
  go_ret
  exact ⟨rfl, HD.out⟩
set_option maxHeartbeats 1000000 in
theorem appreg_any {own : List Nat} {b : Nat} {D : DevS} {v0 v1 : Value} (i : Int) (hi : regB i = false) (sv : Value) (hd : D.down = false) (w : World) (h : Dev own w b D v0 v1) :
    Calls Try.prog 84 #[.pointer (some ⟨b, 0, none⟩), .int .i64 i, sv] w fun e w' => e = .returned (.int .i64 1) ∧ DevTo own w b D w' := by
  have c3 := h.blk.c3
  rw [hd] at c3
  have HD := Lib.hid (h.same (Below.refl _ _))
  have HH := Lib.hid (fun p w => dhas_any p i w)
  rw [hi] at HH
  clear h hd hi
  go_enter Try.func84, Try.ntmps84
  go_wp2_with (go_at_call 94; refine (HH.out _ _).mono ?_; rintro e w' ⟨rfl, rfl⟩)
  go_ret
  exact ⟨rfl, HD.out⟩

set_option maxRecDepth 100000 in
set_option maxHeartbeats 1000000 in
theorem appfull0_any {own : List Nat} {b : Nat} {D : DevS} {v0 v1 : Value} (pa : Option Addr) (n c : Nat) (hfull : D.cap - D.r0.length < n) (hd : D.down = false) (w : World) (h : Dev own w b D v0 v1) :
    Calls Try.prog 84 #[.pointer (some ⟨b, 0, none⟩), .int .i64 0, .slice pa n c] w fun e w' => e = .returned (.int .i64 6) ∧ DevTo own w b D w' := by
  have c3 := h.blk.c3
  rw [hd] at c3
  have c0 := h.blk.c0
  have hl := h.ok.l0
  have hcap := h.ok.cap
  have HD := Lib.hid (fun (nq : Nat) => (show DevTo own w b D (w.drewN nq) from h.same ⟨rfl, rfl, rfl, Nat.le_refl _, fun _ _ => rfl⟩))
  have HH := Lib.hid (fun p w => dhas_any p 0 w)
  rw [show regB 0 = true from rfl] at HH
  obtain ⟨a, c', e0, hcc'⟩ := h.r0.form
  subst e0
  have cF := h.blk.c1
  obtain ⟨m, hm⟩ : ∃ m, D.r0.length = m := ⟨_, rfl⟩
  obtain ⟨cp, hcp⟩ : ∃ cp, D.cap = cp := ⟨_, rfl⟩
  rw [hm] at hl cF hcc' hfull
  rw [hcp] at c0 hl hcap hfull
  have hdec : decide ((cp : Int) - (m : Int) < (n : Int)) = true := decide_eq_true (by omega)
  clear hcp hm h hd
  go_enter Try.func84, Try.ntmps84
  go_wp2_with (go_at_call 94; refine (HH.out _ _).mono ?_; rintro e w' ⟨rfl, rfl⟩)
  go_quiet (fail)
  go_wp2
  go_ret
  exact ⟨rfl, HD.out _⟩

set_option maxRecDepth 100000 in
set_option maxHeartbeats 1000000 in
theorem appfull1_any {own : List Nat} {b : Nat} {D : DevS} {v0 v1 : Value} (pa : Option Addr) (n c : Nat) (hfull : D.cap - D.r1.length < n) (hd : D.down = false) (w : World) (h : Dev own w b D v0 v1) :
    Calls Try.prog 84 #[.pointer (some ⟨b, 0, none⟩), .int .i64 1, .slice pa n c] w fun e w' => e = .returned (.int .i64 6) ∧ DevTo own w b D w' := by
  have c3 := h.blk.c3
  rw [hd] at c3
  have c0 := h.blk.c0
  have hl := h.ok.l1
  have hcap := h.ok.cap
  have HD := Lib.hid (fun (nq : Nat) => (show DevTo own w b D (w.drewN nq) from h.same ⟨rfl, rfl, rfl, Nat.le_refl _, fun _ _ => rfl⟩))
  have HH := Lib.hid (fun p w => dhas_any p 1 w)
  rw [show regB 1 = true from rfl] at HH
  obtain ⟨a, c', e1, hcc'⟩ := h.r1.form
  subst e1
  have cF := h.blk.c2
  obtain ⟨m, hm⟩ : ∃ m, D.r1.length = m := ⟨_, rfl⟩
  obtain ⟨cp, hcp⟩ : ∃ cp, D.cap = cp := ⟨_, rfl⟩
  rw [hm] at hl cF hcc' hfull
  rw [hcp] at c0 hl hcap hfull
  have hdec : decide ((cp : Int) - (m : Int) < (n : Int)) = true := decide_eq_true (by omega)
  clear hcp hm h hd
  go_enter Try.func84, Try.ntmps84
  go_wp2_with (go_at_call 94; refine (HH.out _ _).mono ?_; rintro e w' ⟨rfl, rfl⟩)
  go_quiet (fail)
  go_wp2
  go_ret
  exact ⟨rfl, HD.out _⟩
end Go.Proofs.Ytdimjeppcfacdaa
