/- Load of package device. -/
import Derived.Test.YtdimjeppcfacdaaDevC
import Derived.RegionTactic
import Derived.BigRegion
import Derived.Deep.RegionWith
namespace Go.Proofs.Ytdimjeppcfacdaa
open Go.RowKit

/-- What stands in a slice does not lie among a device's own blocks. -/
def Off (own : List Nat) (sv : Value) : Prop := ∀ ad n c, sv = .slice (some ad) n c → 0 < n → ad.block ∉ own
theorem Sl.but {own : List Nat} {W W' : World} {sv : Value} {l : List Nat} (h : Sl encY W.heap.size W sv l) (hb : But own W W') (ho : Off own sv) : Sl encY W'.heap.size W' sv l := by
  rcases h with h | ⟨b, off, cap, e, hlt, hcap, hc⟩
  · exact .inl h
  · rcases Nat.eq_zero_or_pos l.length with h0 | h0
    · rw [e, h0]
      obtain rfl := List.eq_nil_of_length_eq_zero h0
      exact .inl ⟨rfl, _, _, rfl, fun h => by cases h⟩
    · exact .inr ⟨b, off, cap, e, Nat.lt_of_lt_of_le hlt hb.size, hcap, fun j x hj => (World.cell?_of_block (hb.block b hlt (ho _ _ _ e h0))).trans (hc j x hj)⟩
theorem Off.cut {own : List Nat} {a : Option Addr} {n c k d : Nat} (h : Off own (.slice a n c)) (hk : k ≤ n) : Off own (.slice a k d) := fun ad m c' e h0 => by
  cases e; exact h ad n c rfl (by omega)
theorem Off.more {own own' : List Nat} {a : Option Addr} {n c : Nat} {W : World} (h : Off own (.slice a n c)) (hS : ∃ l, Sl encY W.heap.size W (.slice a n c) l) (hs : ∀ k ∈ own', k ∈ own ∨ W.heap.size ≤ k) : Off own' (.slice a n c) := fun ad m c' e h0 hk => by
  obtain ⟨l, hS⟩ := hS
  cases e
  rcases hs _ hk with h1 | h1
  · exact h ad n c rfl h0 h1
  · rcases hS with ⟨rfl, a', c', e, _⟩ | ⟨b, off, cap, e, hlt, _⟩
    · cases e; omega
    · cases e; simp at h1; omega
/-- A device came to D'. -/
def DevTo (own : List Nat) (w : World) (b : Nat) (D' : DevS) (w' : World) : Prop :=
  ∃ own' v0' v1', Dev own' w' b D' v0' v1' ∧ But own w w' ∧ ∀ k ∈ own', k ∈ own ∨ w.heap.size ≤ k
theorem Dev.same {own : List Nat} {w w' : World} {b : Nat} {D : DevS} {v0 v1 : Value} (h : Dev own w b D v0 v1) (hb : Below w.heap.size w w') : DevTo own w b D w' := ⟨own, v0, v1, h.below hb, But.of_below hb, fun _ hk => .inl hk⟩
theorem Row.base {W : World} {base : Nat} {v : Value} {l : List Nat} (h : W.ownsRow base 5 1 v l.length (l.map encY)) : Row W v l := by
  obtain ⟨h1, h2⟩ := h
  refine ⟨h1, ?_⟩
  rcases h2 with h2 | ⟨g, cap, cur, hv, hg, r⟩
  · exact .inl h2
  · exact .inr ⟨g, cap, cur, hv, Nat.zero_le _, r⟩

theorem Dev.set0 {own own' : List Nat} {W : World} {b : Nat} {D : DevS} {v0 v1 v : Value} {l : List Nat} (h : Dev own W b D v0 v1) (hv : Row W v l) (hs : ∀ k ∈ own, k ∈ own') (hlt : ∀ k ∈ own', k < W.heap.size) (hg : ∀ g, v.ownBlock = some g → g ∈ own' ∧ v1.ownBlock ≠ some g)
    (hl : l.length ≤ D.cap) (hb : ∀ x ∈ l, x < 256) : Dev own' (W.setCell ⟨b, 1, none⟩ v) b { D with r0 := l } v v1 := by
  have hbut : But [b] W (W.setCell ⟨b, 1, none⟩ v) := (But.refl _ _).set (by simp) _
  refine ⟨h.blk.set_r0 v, ?_, ?_, hs b h.bo, ?_, ?_, fun k hk => by have := hlt k hk; simpa [World.setCell] using this, ⟨h.ok.cap, ?_, ?_, ?_, ?_, h.ok.lf, h.ok.tn⟩⟩
  · exact hv.but hbut (fun g hg hk => by simp at hk; subst hk; exact hv.ne h.blk hg)
  · exact h.r1.but hbut (fun g hg hk => by simp at hk; subst hk; exact h.r1.ne h.blk hg)
  · exact hg
  · exact fun g hg => hs g (h.o1 g hg)
  · exact hl
  · exact h.ok.l1
  · exact hb
  · exact h.ok.b1


theorem Dev.set1 {own own' : List Nat} {W : World} {b : Nat} {D : DevS} {v0 v1 v : Value} {l : List Nat} (h : Dev own W b D v0 v1) (hv : Row W v l) (hs : ∀ k ∈ own, k ∈ own') (hlt : ∀ k ∈ own', k < W.heap.size) (hg : ∀ g, v.ownBlock = some g → g ∈ own' ∧ v0.ownBlock ≠ some g)
    (hl : l.length ≤ D.cap) (hb : ∀ x ∈ l, x < 256) : Dev own' (W.setCell ⟨b, 2, none⟩ v) b { D with r1 := l } v0 v := by
  have hbut : But [b] W (W.setCell ⟨b, 2, none⟩ v) := (But.refl _ _).set (by simp) _
  refine ⟨h.blk.set_r1 v, ?_, ?_, hs b h.bo, ?_, ?_, fun k hk => by have := hlt k hk; simpa [World.setCell] using this, ⟨h.ok.cap, ?_, ?_, ?_, ?_, h.ok.lf, h.ok.tn⟩⟩
  · exact h.r0.but hbut (fun g hg hk => by simp at hk; subst hk; exact h.r0.ne h.blk hg)
  · exact hv.but hbut (fun g hg hk => by simp at hk; subst hk; exact hv.ne h.blk hg)
  · exact fun g hg' => ⟨hs g (h.o0 g hg').1, fun e => (hg g e).2 hg'⟩
  · exact fun g e => (hg g e).1
  · exact h.ok.l0
  · exact hl
  · exact h.ok.b0
  · exact hb


theorem put_0 (D : DevS) (l : List Nat) : D.put 0 l = { D with r0 := l } := rfl
set_option maxRecDepth 100000 in
set_option maxHeartbeats 2000000 in
theorem load0_any {own : List Nat} {b : Nat} {D : DevS} {v0 v1 : Value} (a : Option Addr) (n c : Nat) (l : List Nat) (hl : Bytes l) (w : World) (h : Dev own w b D v0 v1) (hS : Sl encY w.heap.size w (.slice a n c) l) :
    Calls Try.prog 60 #[.pointer (some ⟨b, 0, none⟩), .int .i64 0, .slice a n c] w fun e w' => e = .returned (.tuple #[]) ∧ DevTo own w b (D.put 0 (l.take (min l.length D.cap))) w' := by
  have c0 := h.blk.c0
  have hcap := h.ok.cap
  obtain rfl := hS.len
  have hcc := hS.capb
  have HH := Lib.hid (fun p w => dhas_any p 0 w)
  rw [show regB 0 = true from rfl] at HH
  obtain ⟨k, hk⟩ : ∃ k, min l.length D.cap = k := ⟨_, rfl⟩
  rw [hk]
  have hkl : k ≤ l.length := by omega
  have HC := Lib.hid (fun (W : World) (hb : Below w.heap.size w W) => copied_any a k c (l.take k) (by have := hl.1; simp; omega) W (((hS.take hkl).below hb).mono hb.size))
  have htl : (l.take k).length = k := by simp; omega
  rw [htl] at HC
  have HD := Lib.hid h
  have HTL := Lib.hid htl
  have HB : Hid (∀ x ∈ l.take k, x < 256) := Lib.hid fun x hx => hl.2 x (List.mem_of_mem_take hx)
  have hlt := h.blk.lt
  have hcf := h.blk.frozen 1
  obtain ⟨vo, hvo⟩ : ∃ vo, w.cell? ⟨b, 1, none⟩ = some vo := ⟨_, h.blk.c1⟩
  obtain ⟨n, hn⟩ : ∃ n, l.length = n := ⟨_, rfl⟩
  obtain ⟨cp, hcp⟩ : ∃ cp, D.cap = cp := ⟨_, rfl⟩
  have hl1 := hl.1
  rw [hn] at hk hkl hcc hl1 ⊢
  rw [hcp] at hk hcap c0
  have hkc : k ≤ cp := by omega
  have hfin : ∀ (w1 : World) (g : Nat), w1.ownsRow w.heap.size 5 1 (.slice (some ⟨g, 0, none⟩) k k) k ((l.take k).map encY) → Below w.heap.size w w1 → DevTo own w b (D.put 0 (l.take k)) (w1.setCell ⟨b, 1, none⟩ (.slice (some ⟨g, 0, none⟩) k k)) := by
    intro w1 g hown hb
    have hd := HD.out.below hb
    have hrow : Row w1 (.slice (some ⟨g, 0, none⟩) k k) (l.take k) := Row.base (by rw [HTL.out]; exact hown)
    have hgw : w.heap.size ≤ g := (World.ownsRow.lt hown g rfl).1
    have hglt : g < w1.heap.size := (World.ownsRow.lt hown g rfl).2
    refine ⟨g :: own, _, _, hd.set0 hrow (fun k hk => by simp [hk]) (fun k hk => ?_) (fun g' hg' => ?_) (by rw [HTL.out, hcp]; exact hkc) HB.out, ?_, ?_⟩
    · rcases List.mem_cons.1 hk with rfl | hk
      · exact hglt
      · exact hd.lt k hk
    · obtain rfl : g = g' := by simpa [Value.ownBlock] using hg'
      exact ⟨by simp, fun e => by have := HD.out.r1.lt g e; omega⟩
    · exact (But.of_below hb).set (HD.out.bo) _
    · intro k hk
      rcases List.mem_cons.1 hk with rfl | hk
      · exact .inr hgw
      · exact .inl hk
  have HF := Lib.hid hfin
  by_cases hle : (n : Int) ≤ (cp : Int)
  · obtain rfl : k = n := by omega
    clear hfin hk hcp HTL HB h hS hl htl HD
    go_enter Try.func60, Try.ntmps60
    go_wp2_with (go_at_call 94; refine (HH.out _ _).mono ?_; rintro e w' ⟨rfl, rfl⟩)
    go_region_with (go_at_call 93; refine (HC.out _ (Below.refl _ _).drew).mono ?_; rintro e w1 ⟨g, rfl, hown, hb1⟩; have hb2 : Below w.heap.size w w1 := ⟨hb1.os, hb1.tape, hb1.output, hb1.size, hb1.block⟩; have hcw : w1.cell? ⟨b, 1, none⟩ = some vo := (hb2.cell (p := ⟨b, 1, none⟩) hlt).trans hvo; have hfw : w1.frozen? ⟨b, 1, none⟩ = false := (hb2.frozen (p := ⟨b, 1, none⟩) hlt).trans hcf; have HOW := Lib.hid hown; clear hown hb1)
    all_goals go_wp2
    all_goals go_end0
    all_goals exact ⟨rfl, HF.out _ _ HOW.out hb2⟩
  · obtain rfl : k = cp := by omega
    clear hfin hk hn HTL HB h hS hl htl HD
    go_enter Try.func60, Try.ntmps60
    go_wp2_with (go_at_call 94; refine (HH.out _ _).mono ?_; rintro e w' ⟨rfl, rfl⟩)
    go_region_with (go_at_call 93; refine (HC.out _ (Below.refl _ _).drew).mono ?_; rintro e w1 ⟨g, rfl, hown, hb1⟩; have hb2 : Below w.heap.size w w1 := ⟨hb1.os, hb1.tape, hb1.output, hb1.size, hb1.block⟩; have hcw : w1.cell? ⟨b, 1, none⟩ = some vo := (hb2.cell (p := ⟨b, 1, none⟩) hlt).trans hvo; have hfw : w1.frozen? ⟨b, 1, none⟩ = false := (hb2.frozen (p := ⟨b, 1, none⟩) hlt).trans hcf; have HOW := Lib.hid hown; clear hown hb1)
    all_goals go_wp2
    all_goals go_end0
    all_goals exact ⟨rfl, HF.out _ _ HOW.out hb2⟩

theorem put_1 (D : DevS) (l : List Nat) : D.put 1 l = { D with r1 := l } := rfl
set_option maxRecDepth 100000 in
set_option maxHeartbeats 2000000 in
theorem load1_any {own : List Nat} {b : Nat} {D : DevS} {v0 v1 : Value} (a : Option Addr) (n c : Nat) (l : List Nat) (hl : Bytes l) (w : World) (h : Dev own w b D v0 v1) (hS : Sl encY w.heap.size w (.slice a n c) l) :
    Calls Try.prog 60 #[.pointer (some ⟨b, 0, none⟩), .int .i64 1, .slice a n c] w fun e w' => e = .returned (.tuple #[]) ∧ DevTo own w b (D.put 1 (l.take (min l.length D.cap))) w' := by
  have c0 := h.blk.c0
  have hcap := h.ok.cap
  obtain rfl := hS.len
  have hcc := hS.capb
  have HH := Lib.hid (fun p w => dhas_any p 1 w)
  rw [show regB 1 = true from rfl] at HH
  obtain ⟨k, hk⟩ : ∃ k, min l.length D.cap = k := ⟨_, rfl⟩
  rw [hk]
  have hkl : k ≤ l.length := by omega
  have HC := Lib.hid (fun (W : World) (hb : Below w.heap.size w W) => copied_any a k c (l.take k) (by have := hl.1; simp; omega) W (((hS.take hkl).below hb).mono hb.size))
  have htl : (l.take k).length = k := by simp; omega
  rw [htl] at HC
  have HD := Lib.hid h
  have HTL := Lib.hid htl
  have HB : Hid (∀ x ∈ l.take k, x < 256) := Lib.hid fun x hx => hl.2 x (List.mem_of_mem_take hx)
  have hlt := h.blk.lt
  have hcf := h.blk.frozen 2
  obtain ⟨vo, hvo⟩ : ∃ vo, w.cell? ⟨b, 2, none⟩ = some vo := ⟨_, h.blk.c2⟩
  obtain ⟨n, hn⟩ : ∃ n, l.length = n := ⟨_, rfl⟩
  obtain ⟨cp, hcp⟩ : ∃ cp, D.cap = cp := ⟨_, rfl⟩
  have hl1 := hl.1
  rw [hn] at hk hkl hcc hl1 ⊢
  rw [hcp] at hk hcap c0
  have hkc : k ≤ cp := by omega
  have hfin : ∀ (w1 : World) (g : Nat), w1.ownsRow w.heap.size 5 1 (.slice (some ⟨g, 0, none⟩) k k) k ((l.take k).map encY) → Below w.heap.size w w1 → DevTo own w b (D.put 1 (l.take k)) (w1.setCell ⟨b, 2, none⟩ (.slice (some ⟨g, 0, none⟩) k k)) := by
    intro w1 g hown hb
    have hd := HD.out.below hb
    have hrow : Row w1 (.slice (some ⟨g, 0, none⟩) k k) (l.take k) := Row.base (by rw [HTL.out]; exact hown)
    have hgw : w.heap.size ≤ g := (World.ownsRow.lt hown g rfl).1
    have hglt : g < w1.heap.size := (World.ownsRow.lt hown g rfl).2
    refine ⟨g :: own, _, _, hd.set1 hrow (fun k hk => by simp [hk]) (fun k hk => ?_) (fun g' hg' => ?_) (by rw [HTL.out, hcp]; exact hkc) HB.out, ?_, ?_⟩
    · rcases List.mem_cons.1 hk with rfl | hk
      · exact hglt
      · exact hd.lt k hk
    · obtain rfl : g = g' := by simpa [Value.ownBlock] using hg'
      exact ⟨by simp, fun e => by have := HD.out.r0.lt g e; omega⟩
    · exact (But.of_below hb).set (HD.out.bo) _
    · intro k hk
      rcases List.mem_cons.1 hk with rfl | hk
      · exact .inr hgw
      · exact .inl hk
  have HF := Lib.hid hfin
  by_cases hle : (n : Int) ≤ (cp : Int)
  · obtain rfl : k = n := by omega
    clear hfin hk hcp HTL HB h hS hl htl HD
    go_enter Try.func60, Try.ntmps60
    go_wp2_with (go_at_call 94; refine (HH.out _ _).mono ?_; rintro e w' ⟨rfl, rfl⟩)
    go_region_with (go_at_call 93; refine (HC.out _ (Below.refl _ _).drew).mono ?_; rintro e w1 ⟨g, rfl, hown, hb1⟩; have hb2 : Below w.heap.size w w1 := ⟨hb1.os, hb1.tape, hb1.output, hb1.size, hb1.block⟩; have hcw : w1.cell? ⟨b, 2, none⟩ = some vo := (hb2.cell (p := ⟨b, 2, none⟩) hlt).trans hvo; have hfw : w1.frozen? ⟨b, 2, none⟩ = false := (hb2.frozen (p := ⟨b, 2, none⟩) hlt).trans hcf; have HOW := Lib.hid hown; clear hown hb1)
    all_goals go_wp2
    all_goals go_end0
    all_goals exact ⟨rfl, HF.out _ _ HOW.out hb2⟩
  · obtain rfl : k = cp := by omega
    clear hfin hk hn HTL HB h hS hl htl HD
    go_enter Try.func60, Try.ntmps60
    go_wp2_with (go_at_call 94; refine (HH.out _ _).mono ?_; rintro e w' ⟨rfl, rfl⟩)
    go_region_with (go_at_call 93; refine (HC.out _ (Below.refl _ _).drew).mono ?_; rintro e w1 ⟨g, rfl, hown, hb1⟩; have hb2 : Below w.heap.size w w1 := ⟨hb1.os, hb1.tape, hb1.output, hb1.size, hb1.block⟩; have hcw : w1.cell? ⟨b, 2, none⟩ = some vo := (hb2.cell (p := ⟨b, 2, none⟩) hlt).trans hvo; have hfw : w1.frozen? ⟨b, 2, none⟩ = false := (hb2.frozen (p := ⟨b, 2, none⟩) hlt).trans hcf; have HOW := Lib.hid hown; clear hown hb1)
    all_goals go_wp2
    all_goals go_end0
    all_goals exact ⟨rfl, HF.out _ _ HOW.out hb2⟩

set_option maxHeartbeats 400000 in
theorem loadn_any {own : List Nat} {b : Nat} {D : DevS} {v0 v1 : Value} (i : Int) (hi : regB i = false) (sv : Value) (w : World) (h : Dev own w b D v0 v1) :
    Calls Try.prog 60 #[.pointer (some ⟨b, 0, none⟩), .int .i64 i, sv] w fun e w' => e = .returned (.tuple #[]) ∧ DevTo own w b D w' := by
  have HH := Lib.hid (fun p w => dhas_any p i w)
  rw [hi] at HH
  have HD := Lib.hid (h.same (Below.refl _ _))
  clear h hi
  go_enter Try.func60, Try.ntmps60
  go_wp2_with (go_at_call 94; refine (HH.out _ _).mono ?_; rintro e w' ⟨rfl, rfl⟩)
  go_end0
  exact ⟨rfl, HD.out⟩
end Go.Proofs.Ytdimjeppcfacdaa
