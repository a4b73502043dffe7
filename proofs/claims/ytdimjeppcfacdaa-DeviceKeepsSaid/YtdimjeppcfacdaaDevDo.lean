/- A step of both devices. -/
import Derived.Test.YtdimjeppcfacdaaDevSame
import Derived.Test.YtdimjeppcfacdaaDevSm
import Derived.Test.YtdimjeppcfacdaaDevAlive
namespace Go.Proofs.Ytdimjeppcfacdaa

section
open Go.RowKit
set_option linter.unusedVariables false
attribute [local go_sem] Oper.semAt_some

theorem off_old {n : Nat} {W : World} {sv : Value} {l : List Nat} (h : Sl encY n W sv l) (own : List Nat) (ho : ∀ k ∈ own, n ≤ k) : Off own sv := fun ad m c e h0 hk => by
  rcases h with ⟨rfl, a, c', e', _⟩ | ⟨b, off, cap, e', hb, _⟩
  · rw [e] at e'; cases e'; omega
  · rw [e] at e'; cases e'; have := ho _ hk; simp at this; omega
theorem Off.own' {own own' : List Nat} {W : World} {sv : Value} {l : List Nat} (h : Off own sv) (hS : Sl encY W.heap.size W sv l) (hs : ∀ k ∈ own', k ∈ own ∨ W.heap.size ≤ k) : Off own' sv := fun ad m c e h0 hk => by
  rcases hs _ hk with h1 | h1
  · exact h ad m c e h0 h1
  · exact off_old hS [ad.block] (fun k hk => by simp at hk; subst hk; exact h1) ad m c e h0 (by simp)
theorem Off.cons {M : Nat} {own : List Nat} {sv : Value} (h : Off [M] sv) (h2 : Off own sv) : Off (M :: own) sv := fun ad m c e h0 hk => by
  rcases List.mem_cons.1 hk with h1 | h1
  · exact h ad m c e h0 (by simp [h1])
  · exact h2 ad m c e h0 h1
/-- The worlds ahead of the device's step and behind it; block M is written meanwhile. -/
structure CD (own : List Nat) (w4 : World) (b M : Nat) (D : DevS) (v0 v1 : Value) (D' : DevS) (d : Bool) (W : World) : Prop where
  but : But (M :: own) w4 W
  box : ∃ x0 x1 x2 x3 x4 x5, W.heap[M]? = some (.cells #[x0, x1, x2, x3, x4, x5] 32 (0, 0))
  pre : d = false → Dev own W b D v0 v1
  post : d = true → ∃ own' v0' v1', Dev own' W b D' v0' v1' ∧ ∀ k ∈ own', k ∈ own ∨ w4.heap.size ≤ k
theorem CD.drew {own : List Nat} {w4 : World} {b M : Nat} {D D' : DevS} {v0 v1 : Value} {d : Bool} {W : World} (h : CD own w4 b M D v0 v1 D' d W) : CD own w4 b M D v0 v1 D' d W.drew :=
  ⟨h.but.drew, h.box, fun e => (h.pre e).drew, fun e => by obtain ⟨o, x, y, h1, h2⟩ := h.post e; exact ⟨o, x, y, h1.drew, h2⟩⟩
/-- Block M is as it was, or holds o. -/
def ExtM (M : Nat) (o : Obj) (A B : World) : Prop := B.heap[M]? = A.heap[M]? ∨ B.heap[M]? = some o
theorem ExtM.refl (M : Nat) (o : Obj) (A : World) : ExtM M o A A := .inl rfl
/-- The device's step. -/
theorem CD.step {own : List Nat} {w4 : World} {b M : Nat} {D D' : DevS} {v0 v1 : Value} {W W' : World} (h : CD own w4 b M D v0 v1 D' false W) (hM : M < w4.heap.size) (hMo : M ∉ own) (hT : DevTo own W b D' W') : CD own w4 b M D v0 v1 D' true W' ∧ W'.heap[M]? = W.heap[M]? := by
  obtain ⟨o, x, y, h1, h2, h3⟩ := hT
  have hMM := h2.block M (Nat.lt_of_lt_of_le hM h.but.size) hMo
  refine ⟨⟨h.but.trans' (h2.more fun k hk => .inl (List.mem_cons_of_mem _ hk)), ?_, (fun e => by cases e), fun _ => ⟨o, x, y, h1, fun k hk => (h3 k hk).elim .inl (fun h4 => .inr (Nat.le_trans h.but.size h4))⟩⟩, hMM⟩
  obtain ⟨x0, x1, x2, x3, x4, x5, hx⟩ := h.box
  exact ⟨x0, x1, x2, x3, x4, x5, hMM.trans hx⟩
/-- The box is written. -/
theorem CD.put {own : List Nat} {w4 : World} {b M : Nat} {D D' : DevS} {v0 v1 : Value} {d : Bool} {W : World} (h : CD own w4 b M D v0 v1 D' d W) (hM : M < w4.heap.size) (hMo : M ∉ own) {u0 u1 u2 u3 u4 u5 : Value} :
    CD own w4 b M D v0 v1 D' d ((((((W.setCell ⟨M, 0, none⟩ u0).setCell ⟨M, 1, none⟩ u1).setCell ⟨M, 2, none⟩ u2).setCell ⟨M, 3, none⟩ u3).setCell ⟨M, 4, none⟩ u4).setCell ⟨M, 5, none⟩ u5) ∧ ((((((W.setCell ⟨M, 0, none⟩ u0).setCell ⟨M, 1, none⟩ u1).setCell ⟨M, 2, none⟩ u2).setCell ⟨M, 3, none⟩ u3).setCell ⟨M, 4, none⟩ u4).setCell ⟨M, 5, none⟩ u5).heap[M]? = some (.cells #[u0, u1, u2, u3, u4, u5] 32 (0, 0)) := by
  obtain ⟨x0, x1, x2, x3, x4, x5, hx⟩ := h.box
  have hset := heap_set6 (v0 := u0) (v1 := u1) (v2 := u2) (v3 := u3) (v4 := u4) (v5 := u5) hx
  have hbut := set6_but W M (v0 := u0) (v1 := u1) (v2 := u2) (v3 := u3) (v4 := u4) (v5 := u5)
  refine ⟨⟨h.but.trans' (hbut.more fun k hk => by simp at hk; subst hk; exact .inl (by simp)), ⟨_, _, _, _, _, _, hset⟩, fun e => (h.pre e).but hbut (fun k hk hk2 => by simp at hk2; subst hk2; exact hMo hk), fun e => ?_⟩, hset⟩
  obtain ⟨o, x, y, h1, h2⟩ := h.post e
  refine ⟨o, x, y, h1.but hbut (fun k hk hk2 => ?_), h2⟩
  simp at hk2
  subst hk2
  rcases h2 _ hk with h3 | h3
  · exact hMo h3
  · omega
def doR (R : RefS) (o : OpS) : RefS :=
  if o.kind = 0 ∨ o.kind = 1 then (appR R o.region o.data).1 else if o.kind = 2 then (truncR R o.region o.n).1 else if o.kind = 3 then cutR R o.n else if o.kind = 4 then restoreR R else if o.kind = 5 then loadR R o.region o.data else R
def doD (D : DevS) (o : OpS) : DevS :=
  if o.kind = 0 ∨ o.kind = 1 then (appS D o.region o.data).1 else if o.kind = 2 then (truncS D o.region o.n).1 else if o.kind = 3 then cutS D o.n else if o.kind = 4 then restoreS D else if o.kind = 5 then loadS D o.region o.data else D
def doB (D : DevS) (R : RefS) (o : OpS) : Bool :=
  if o.kind = 0 ∨ o.kind = 1 then decide ((appS D o.region o.data).2 = (appR R o.region o.data).2) else if o.kind = 2 then decide ((truncS D o.region o.n).2 = (truncR R o.region o.n).2) else true
/-- Both came to this. -/
def DoTo (own : List Nat) (w : World) (b : Nat) (D' : DevS) (R' : RefS) (ok : Bool) (e : Ending) (w' : World) : Prop :=
  ∃ own' v0' v1' A' B', e = .returned (.tuple #[R'.val A' B', .bool ok]) ∧ Dev own' w' b D' v0' v1' ∧ RefAt w' R' A' B' ∧ Off own' A' ∧ Off own' B' ∧ But own w w' ∧ ∀ k ∈ own', k ∈ own ∨ w.heap.size ≤ k

theorem do_end {own : List Nat} {w w4 W : World} {b M : Nat} {D D' : DevS} {R' : RefS} {A' B' v0 v1 : Value} (hw : Below w.heap.size w w4) (hM : w.heap.size ≤ M) (hC : CD own w4 b M D v0 v1 D' true W) (hR : RefAt w4 R' A' B') (oa : Off own A') (ob : Off own B') (ma : Off [M] A') (mb : Off [M] B') :
    ∃ own' v0' v1', Dev own' W b D' v0' v1' ∧ RefAt W R' A' B' ∧ Off own' A' ∧ Off own' B' ∧ But own w W ∧ ∀ k ∈ own', k ∈ own ∨ w.heap.size ≤ k := by
  obtain ⟨o, x, y, h1, h2⟩ := hC.post rfl
  exact ⟨o, x, y, h1, hR.but hC.but (ma.cons oa) (mb.cons ob), oa.own' hR.a h2, ob.own' hR.b h2, ((But.of_below hw).more (own' := own) (fun k hk => .inl hk)).trans hC.but (fun k hk => by
    rcases List.mem_cons.1 hk with h3 | h3
    · subst h3; exact .inr hM
    · exact .inl h3), fun k hk => (h2 k hk).elim .inl (fun h => .inr (Nat.le_trans hw.size h))⟩

/-- A step that is handed over as an aggregate. -/
abbrev OpS.val (o : OpS) (a : Option Addr) (c : Nat) : Value := .agg #[.int .i64 o.kind, .int .i64 o.region, .int .i64 o.n, .slice a o.data.length c]

theorem new3 (w : World) (o1 o2 o3 : Obj) : (((w.alloc o1).alloc o2).alloc o3).heap[w.heap.size + 1 + 1]? = some o3 := by
  have := World.alloc_heap_new ((w.alloc o1).alloc o2) o3
  simp only [World.size_alloc] at this
  exact this
theorem new3_below (w : World) (o1 o2 o3 : Obj) : Below w.heap.size w (((w.alloc o1).alloc o2).alloc o3) := (new2_below w o1 o2).alloc (by simp; omega) _

set_option maxRecDepth 100000 in
set_option maxHeartbeats 8000000 in
theorem do_app0 {own : List Nat} {b : Nat} {D : DevS} {v0 v1 : Value} {R : RefS} {A B : Value} (o : OpS) (ok : o.Ok) (hk : o.kind = 0) (hl : o.data.length ≤ 1048576) (ht : R.tn ≤ 1099511627776) (pa : Option Addr) (pc : Nat) (w : World) (h : Dev own w b D v0 v1) (hR : RefAt w R A B) (oa : Off own A) (ob : Off own B) (hS : Sl encY w.heap.size w (.slice pa o.data.length pc) o.data) (od : Off own (.slice pa o.data.length pc)) :
    Calls Try.prog 22 #[.pointer (some ⟨b, 0, none⟩), R.val A B, o.val pa pc] w (DoTo own w b (appS D o.region o.data).1 (appR R o.region o.data).1 (decide ((appS D o.region o.data).2 = (appR R o.region o.data).2))) := by
  have HD := Lib.hid h
  have HR := Lib.hid hR
  have HOA := Lib.hid oa
  have HOB := Lib.hid ob
  have HOK := Lib.hid ok
  have HRA := Lib.hid (fun (W : World) (hb : Below w.heap.size w W) => rapp_any (R := R) (A := A) (B := B) o.region pa o.data.length pc o.data hl ht W (hR.below hb) ((hS.below hb).mono hb.size))
  obtain ⟨a0, c0, rfl⟩ := hR.a.form
  obtain ⟨a1, c1, rfl⟩ := hR.b.form
  obtain ⟨kd, rg, nn, dt⟩ := o
  obtain ⟨cap, r0, r1, down, lf, tn⟩ := R
  dsimp only [OpS.val, RefS.val] at hk hl hS od HRA HOK HR HOA HOB ⊢
  have HS := Lib.hid hS
  have HOD := Lib.hid od
  obtain ⟨n0, hn0⟩ : ∃ n0, r0.length = n0 := ⟨_, rfl⟩
  obtain ⟨n1, hn1⟩ : ∃ n1, r1.length = n1 := ⟨_, rfl⟩
  obtain ⟨q, hq⟩ : ∃ q, dt.length = q := ⟨_, rfl⟩
  rw [hq] at HS HOD HRA ⊢
  rw [hn0] at HR HOA HRA ⊢
  rw [hn1] at HR HOB HRA ⊢
  obtain ⟨RR, hRR⟩ : ∃ RR, appR ⟨cap, r0, r1, down, lf, tn⟩ rg dt = RR := ⟨_, rfl⟩
  rw [hRR] at HRA ⊢
  obtain ⟨⟨cap', r0', r1', down', lf', tn'⟩, er⟩ := RR
  obtain ⟨DD, hDD⟩ : ∃ DD, appS D rg dt = DD := ⟨_, rfl⟩
  have HDD := Lib.hid hDD
  rw [hDD]
  obtain ⟨D', ed⟩ := DD
  dsimp only at HRA ⊢
  subst hk
  have hblt := h.blk.lt
  have HLT := Lib.hid h.lt
  clear h hR oa ob ok hS od hn0 hn1 hq hRR hDD ht hl
  have hz := zrd
  have hAS : Sl encY w.heap.size w (.slice a0 n0 c0) r0 := HR.out.a
  have hBS : Sl encY w.heap.size w (.slice a1 n1 c1) r1 := HR.out.b
  have MA : Hid (Off [w.heap.size + 1 + 1] (.slice a0 n0 c0)) := Lib.hid (off_old hAS _ (fun k hk => by simp at hk; omega))
  have MB : Hid (Off [w.heap.size + 1 + 1] (.slice a1 n1 c1)) := Lib.hid (off_old hBS _ (fun k hk => by simp at hk; omega))
  clear hAS hBS
  go_enter Try.func22, Try.ntmps22
  go_wp2_with fail
  obtain ⟨w1, hw1⟩ : ∃ w1, (((w.alloc (.cells #[.slice a0 n0 c0, .slice a1 n1 c1, .int .i64 (cap : Nat), .int .i64 lf, .bool down, .int .i64 (tn : Nat)] 32)).alloc (.cells #[.int .i64 0, .int .i64 rg, .int .i64 nn, .slice pa q pc] 36)).alloc (.cells #[.slice none 0 0, .slice none 0 0, .int .i64 0, .int .i64 0, .bool false, .int .i64 0] 32)) = w1 := ⟨_, rfl⟩
  rw [hw1]
  have rO : w1.heap[w.heap.size + 1]? = some (.cells #[.int .i64 0, .int .i64 rg, .int .i64 nn, .slice pa q pc] 36 (0, 0)) := by rw [← hw1, Below.heap_alloc _ _ _ (by simp)]; exact new2 w _ _
  have rR : w1.heap[w.heap.size + 1 + 1]? = some (.cells #[.slice none 0 0, .slice none 0 0, .int .i64 0, .int .i64 0, .bool false, .int .i64 0] 32 (0, 0)) := by rw [← hw1]; exact new3 w _ _ _
  have hb1 : Below w.heap.size w w1 := by rw [← hw1]; exact new3_below w _ _ _
  have hz1 : w1.heap.size = w.heap.size + 1 + 1 + 1 := by rw [← hw1]; simp
  clear hw1
  refine (HRA.out w1 hb1).mono ?_
  rintro e w2 ⟨A', B', rfl, hR2, hF2, hb2⟩
  obtain ⟨a0', c0', hA'⟩ := hR2.a.form
  obtain ⟨a1', c1', hB'⟩ := hR2.b.form
  dsimp only at hA' hB'
  subst hA'
  subst hB'
  obtain ⟨n0', hn0'⟩ : ∃ n, r0'.length = n := ⟨_, rfl⟩
  obtain ⟨n1', hn1'⟩ : ∃ n, r1'.length = n := ⟨_, rfl⟩
  rw [hn0', hn1'] at hR2 hF2 ⊢
  clear hn0' hn1'
  have hb02 : Below w.heap.size w w2 := hb1.trans (hb2.mono hb1.size)
  have hO2 := (hb2.block _ (by omega)).trans rO
  have hRR2 := (hb2.block _ (by omega)).trans rR
  have h2z := hb2.size
  have HZ2 : Hid (w.heap.size + 1 + 1 + 1 ≤ w2.heap.size) := Lib.hid (by omega)
  have FO := Lib.hid (hF2 own (fun k hk => by have := HLT.out k hk; omega) HOA.out HOB.out)
  have FM := Lib.hid (hF2 [w.heap.size + 1 + 1] (fun k hk => by simp at hk; omega) MA.out MB.out)
  have HO2 := Lib.hid hO2
  have HRR2 := Lib.hid hRR2
  have HB02 := Lib.hid hb02
  have HR2 := Lib.hid hR2
  clear hb02 hO2 hRR2 h2z hF2 hR2 hb2 hb1 hz1 rO rR HRA MA MB
  go_wp2_with fail
  obtain ⟨w4, hw4⟩ : ∃ w4, w2.alloc (.cells #[.slice a0' n0' c0', .slice a1' n1' c1', .int .i64 (cap' : Nat), .int .i64 lf', .bool down', .int .i64 (tn' : Nat)] 32) = w4 := ⟨_, rfl⟩
  rw [hw4]
  have hb24 : Below w2.heap.size w2 w4 := by rw [← hw4]; exact (Below.refl _ _).alloc (Nat.le_refl _) _
  have hX4 : w4.heap[w2.heap.size]? = some (.cells #[.slice a0' n0' c0', .slice a1' n1' c1', .int .i64 (cap' : Nat), .int .i64 lf', .bool down', .int .i64 (tn' : Nat)] 32 (0, 0)) := by rw [← hw4]; exact World.alloc_heap_new _ _
  have HX4 := Lib.hid hX4
  have hx4 := (Array.getElem?_eq_some_iff.1 hX4).1
  have hb04 : Below w.heap.size w w4 := HB02.out.trans (hb24.mono HB02.out.size)
  have HB04 := Lib.hid hb04
  have HO4 := Lib.hid ((hb24.block _ (by have := HZ2.out; omega)).trans HO2.out)
  have HR4 := Lib.hid (HR2.out.below hb24)
  have hD4 := (HD.out.below HB02.out).below hb24
  have hC4 : CD own w4 b (w.heap.size + 1 + 1) D v0 v1 D' false w4 := ⟨But.refl _ _, ⟨_, _, _, _, _, _, (hb24.block _ (by have := HZ2.out; omega)).trans HRR2.out⟩, fun _ => hD4, fun e => by cases e⟩
  have HC4 := Lib.hid hC4
  have hM4 : w.heap.size + 1 + 1 < w4.heap.size := by have := HZ2.out; have := hb24.size; omega
  have hMo : w.heap.size + 1 + 1 ∉ own := fun hk => by have := HLT.out _ hk; omega
  have HMO := Lib.hid hMo
  have HZ4 : Hid (w.heap.size + 1 < w4.heap.size ∧ w.heap.size + 1 ≠ w.heap.size + 1 + 1 ∧ w2.heap.size ≠ w.heap.size + 1 + 1 ∧ w2.heap.size ∉ own ∧ w.heap.size + 1 ∉ own) := Lib.hid (by
    have := HZ2.out
    exact ⟨by omega, by omega, by omega, fun hk => by have := HLT.out _ hk; omega, fun hk => by have := HLT.out _ hk; omega⟩)
  clear hw4 hb24 hX4 hb04 hD4 hC4 hMo HO2 HRR2 HB02 HR2
  refine region_once1 (l := [_, _, _, _, _, _, _, _, _, _]) (s := _) (by kernel_rfl) (by decide +kernel) (by decide +kernel) (fun v => { tmps := #[.pointer (some ⟨b, 0, none⟩), rdV (.slice a0 n0 c0) (.slice a1 n1 c1) cap lf down tn, .agg #[.int .i64 0, .int .i64 rg, .int .i64 nn, .slice pa q pc], undef, .pointer (some ⟨w.heap.size, 0, none⟩), .pointer (some ⟨w.heap.size + 1, 0, none⟩), .pointer (some ⟨w.heap.size + 1 + 1, 0, none⟩), .bool false, .pointer (some ⟨w2.heap.size, 0, none⟩), .int .i64 er, undef, undef, .pointer (some ⟨w.heap.size + 1, 0, none⟩), .int .i64 0, .bool true, .bool true, undef,
      .tuple #[rdV (.slice a0' n0' c0') (.slice a1' n1' c1') cap' lf' down' tn', .int .i64 er], .agg #[.slice a0 n0 c0, .slice a1 n1 c1, .int .i64 (cap : Nat), .int .i64 lf, .bool down, .int .i64 (tn : Nat)], .pointer (some ⟨w.heap.size + 1, 1, none⟩), .int .i64 rg, .pointer (some ⟨w.heap.size + 1, 3, none⟩), .slice pa q pc, .tuple #[rdV (.slice a0' n0' c0') (.slice a1' n1' c1') cap' lf' down' tn', .int .i64 er], rdV (.slice a0' n0' c0') (.slice a1' n1' c1') cap' lf' down' tn', .int .i64 er, v 0, v 1, v 2, v 3, v 4, v 5, v 6, v 7, v 8, undef, undef, undef, undef, undef, undef, undef, undef, undef, undef, undef, undef, undef, undef, undef, undef, undef, undef, undef, undef, undef, undef, undef, undef, undef, undef, undef, undef, undef, undef, undef, undef, undef, undef, undef, undef, undef, undef, undef, undef, undef, undef, undef, undef, undef, undef, undef, undef, undef, undef, undef], defers := [] }) 6 (by decide) (CD own w4 b (w.heap.size + 1 + 1) D v0 v1 D') (fun i' u W => match i' with
    | 0 => u = rdV (.slice a0' n0' c0') (.slice a1' n1' c1') cap' lf' down' tn'
    | 1 => u = .pointer (some ⟨b, 0, none⟩)
    | 2 => u = .pointer (some ⟨w.heap.size + 1, 1, none⟩)
    | 3 => u = .int .i64 rg
    | 4 => u = .pointer (some ⟨w.heap.size + 1, 3, none⟩)
    | 5 => u = .slice pa q pc
    | 6 => u = .int .i64 ed
    | 7 => u = .int .i64 er
    | 8 => u = .bool (decide (ed = er))
    | 9 => W.heap[w.heap.size + 1 + 1]? = some (.cells #[.slice a0' n0' c0', .slice a1' n1' c1', .int .i64 (cap' : Nat), .int .i64 lf', .bool down', .int .i64 (tn' : Nat)] 32 (0, 0))
    | _ => True) (ExtM (w.heap.size + 1 + 1) (.cells #[.slice a0' n0' c0', .slice a1' n1' c1', .int .i64 (cap' : Nat), .int .i64 lf', .bool down', .int .i64 (tn' : Nat)] 32 (0, 0))) ?hV (fun _ => undef) ?h0 ?hop ?hend
  case h0 => exact HC4.out.drew
  case hV =>
    intro i' u A B h hx
    match i', h with
    | 9, h => exact hx.elim (fun e => e.trans h) id
    | 0, h => exact h
    | 1, h => exact h
    | 2, h => exact h
    | 3, h => exact h
    | 4, h => exact h
    | 5, h => exact h
    | 6, h => exact h
    | 7, h => exact h
    | 8, h => exact h
    | n + 10, h => trivial
  case hop =>
    simp only [AllOnce]
    refine ⟨?o0, ?o1, ?o2, ?o3, ?o4, ?o5, ?o6, ?o7, ?o8, ?o9, trivial⟩
    all_goals intro d v W hdc hc hd Q hQ
    all_goals simp [Region.binds] at hd
    all_goals rw [if_pos (show Region.wanted _ _ = true from rfl)]
    case o0 =>
      have rW := (hc.but.block w2.heap.size hx4 (by have := HZ4.out; simp [this])).trans HX4.out
      have k0 : W.cell? ⟨w2.heap.size, 0, none⟩ = some (.slice a0' n0' c0') := cell_of_row W _ 0 _ _ _ rW
      have k1 : W.cell? ⟨w2.heap.size, 1, none⟩ = some (.slice a1' n1' c1') := cell_of_row W _ 1 _ _ _ rW
      have k2 : W.cell? ⟨w2.heap.size, 2, none⟩ = some (.int .i64 (cap' : Nat)) := cell_of_row W _ 2 _ _ _ rW
      have k3 : W.cell? ⟨w2.heap.size, 3, none⟩ = some (.int .i64 lf') := cell_of_row W _ 3 _ _ _ rW
      have k4 : W.cell? ⟨w2.heap.size, 4, none⟩ = some (.bool down') := cell_of_row W _ 4 _ _ _ rW
      have k5 : W.cell? ⟨w2.heap.size, 5, none⟩ = some (.int .i64 (tn' : Nat)) := cell_of_row W _ 5 _ _ _ rW
      have HC := Lib.hid hc
      clear rW hc
      go_wp2
      exact ⟨_, rfl, ExtM.refl _ _ _, rfl, by simpa using HC.out⟩
    case o1 => have HC := Lib.hid hc; clear hc; go_wp2; exact ⟨_, rfl, ExtM.refl _ _ _, rfl, by simpa using HC.out⟩
    case o2 => have HC := Lib.hid hc; clear hc; go_wp2; exact ⟨_, rfl, ExtM.refl _ _ _, rfl, by simpa using HC.out⟩
    case o3 =>
      have rW := (hc.but.block (w.heap.size + 1) HZ4.out.1 (by have := HZ4.out; simp [this])).trans HO4.out
      have k1 : W.cell? ⟨w.heap.size + 1, 1, none⟩ = some (.int .i64 rg) := cell_of_row W _ 1 _ _ _ rW
      have HC := Lib.hid hc; clear rW hc
      go_wp2
      first | exact ⟨_, rfl, ExtM.refl _ _ _, rfl, by simpa using HC.out⟩ | (refine ⟨_, ?_, ExtM.refl _ _ _, rfl, by simpa using HC.out⟩; simp [updV, hd])
    case o4 => have HC := Lib.hid hc; clear hc; go_wp2; exact ⟨_, rfl, ExtM.refl _ _ _, rfl, by simpa using HC.out⟩
    case o5 =>
      have rW := (hc.but.block (w.heap.size + 1) HZ4.out.1 (by have := HZ4.out; simp [this])).trans HO4.out
      have k3 : W.cell? ⟨w.heap.size + 1, 3, none⟩ = some (.slice pa q pc) := cell_of_row W _ 3 _ _ _ rW
      have HC := Lib.hid hc; clear rW hc
      go_wp2
      first | exact ⟨_, rfl, ExtM.refl _ _ _, rfl, by simpa using HC.out⟩ | (refine ⟨_, ?_, ExtM.refl _ _ _, rfl, by simpa using HC.out⟩; simp [updV, hd])
    case o6 =>
      have hdf := hdc (by trivial)
      subst hdf
      obtain ⟨h1, h2, h3⟩ := hd
      have hS4 : Sl encY w4.heap.size w4 (.slice pa q pc) dt := (HS.out.below HB04.out).mono HB04.out.size
      have hoM : Off [w.heap.size + 1 + 1] (.slice pa q pc) := off_old HS.out _ (fun k hk => by simp at hk; omega)
      have HAP := Lib.hid (app_any rg pa q pc dt HOK.out.data W (hc.pre rfl) (hS4.but hc.but (hoM.cons HOD.out)) HOD.out)
      rw [HDD.out] at HAP
      have HC := Lib.hid hc
      clear hc hS4 hoM
      go_wp2_with fail
      refine HAP.out.mono ?_
      rintro e W' ⟨rfl, hT⟩
      obtain ⟨hC', hM'⟩ := HC.out.step hM4 HMO.out hT
      have HC' := Lib.hid hC'
      have HM' := Lib.hid hM'
      clear hT hC' hM'
      go_wp2
      refine ⟨.int .i64 ed, ?_, .inl HM'.out, rfl, HC'.out⟩
      simp [updV, h1, h2, h3]
    case o7 => have HC := Lib.hid hc; clear hc; go_wp2; exact ⟨_, rfl, ExtM.refl _ _ _, rfl, by simpa using HC.out⟩
    case o8 =>
      have HC := Lib.hid hc; clear hc
      obtain ⟨h1, h2⟩ := hd
      go_wp2
      refine ⟨.bool (decide (ed = er)), ?_, ExtM.refl _ _ _, rfl, by simpa using HC.out⟩
      simp [updV, h1, h2, Bool.beq_eq_decide_eq]
    case o9 =>
      obtain ⟨x0, x1, x2, x3, x4, x5, hx⟩ := hc.box
      have k0 : W.cell? ⟨w.heap.size + 1 + 1, 0, none⟩ = some x0 := cell_of_row W _ 0 _ _ _ hx
      have k1 : W.cell? ⟨w.heap.size + 1 + 1, 1, none⟩ = some x1 := cell_of_row W _ 1 _ _ _ hx
      have k2 : W.cell? ⟨w.heap.size + 1 + 1, 2, none⟩ = some x2 := cell_of_row W _ 2 _ _ _ hx
      have k3 : W.cell? ⟨w.heap.size + 1 + 1, 3, none⟩ = some x3 := cell_of_row W _ 3 _ _ _ hx
      have k4 : W.cell? ⟨w.heap.size + 1 + 1, 4, none⟩ = some x4 := cell_of_row W _ 4 _ _ _ hx
      have k5 : W.cell? ⟨w.heap.size + 1 + 1, 5, none⟩ = some x5 := cell_of_row W _ 5 _ _ _ hx
      have f0 := frozen_of_row W (w.heap.size + 1 + 1) 0 _ _ hx
      have f1 := frozen_of_row W (w.heap.size + 1 + 1) 1 _ _ hx
      have f2 := frozen_of_row W (w.heap.size + 1 + 1) 2 _ _ hx
      have f3 := frozen_of_row W (w.heap.size + 1 + 1) 3 _ _ hx
      have f4 := frozen_of_row W (w.heap.size + 1 + 1) 4 _ _ hx
      have f5 := frozen_of_row W (w.heap.size + 1 + 1) 5 _ _ hx
      have hput := hc.put hM4 HMO.out (u0 := .slice a0' n0' c0') (u1 := .slice a1' n1' c1') (u2 := .int .i64 (cap' : Nat)) (u3 := .int .i64 lf') (u4 := .bool down') (u5 := .int .i64 (tn' : Nat))
      have HP := Lib.hid hput
      clear hx hc hput
      have hd0 : v 0 = rdV (.slice a0' n0' c0') (.slice a1' n1' c1') cap' lf' down' tn' := by first | exact hd | exact hd.1
      clear hd
      rw [hd0]
      go_wp2
      refine ⟨undef, ?_, .inr HP.out.2, HP.out.2, by simpa using HP.out.1⟩
      simp [updV, hd0]
  case hend =>
    intro v W hc hv
    have h8 : v 8 = .bool (decide (ed = er)) := hv 8 (by decide)
    have h9 : W.heap[w.heap.size + 1 + 1]? = _ := hv 9 (by decide)
    have HE := Lib.hid (do_end HB04.out (by omega) hc HR4.out FO.out.1 FO.out.2 FM.out.1 FM.out.2)
    have H9 := Lib.hid h9
    clear hv hc h9
    intro Qx hQx
    rw [if_pos (show Region.wanted _ _ = true from rfl)]
    go_wp2
    refine bodyPost_ret (rd_res2 _ 6 7 rfl _ _ (w.heap.size + 1 + 1) _ _ _ _ _ _ _ rfl rfl H9.out) rfl ?_
    obtain ⟨o', x', y', g1, g2, g3, g4, g5, g6⟩ := HE.out
    exact ⟨o', x', y', _, _, rfl, g1, g2, g3, g4, g5, g6⟩
end

section
open Go.RowKit
set_option linter.unusedVariables false
attribute [local go_sem] Oper.semAt_some

set_option maxRecDepth 100000 in
set_option maxHeartbeats 8000000 in
theorem do_app1 {own : List Nat} {b : Nat} {D : DevS} {v0 v1 : Value} {R : RefS} {A B : Value} (o : OpS) (ok : o.Ok) (hk : o.kind = 1) (hl : o.data.length ≤ 1048576) (ht : R.tn ≤ 1099511627776) (pa : Option Addr) (pc : Nat) (w : World) (h : Dev own w b D v0 v1) (hR : RefAt w R A B) (oa : Off own A) (ob : Off own B) (hS : Sl encY w.heap.size w (.slice pa o.data.length pc) o.data) (od : Off own (.slice pa o.data.length pc)) :
    Calls Try.prog 22 #[.pointer (some ⟨b, 0, none⟩), R.val A B, o.val pa pc] w (DoTo own w b (appS D o.region o.data).1 (appR R o.region o.data).1 (decide ((appS D o.region o.data).2 = (appR R o.region o.data).2))) := by
  have HD := Lib.hid h
  have HR := Lib.hid hR
  have HOA := Lib.hid oa
  have HOB := Lib.hid ob
  have HOK := Lib.hid ok
  have HRA := Lib.hid (fun (W : World) (hb : Below w.heap.size w W) => rapp_any (R := R) (A := A) (B := B) o.region pa o.data.length pc o.data hl ht W (hR.below hb) ((hS.below hb).mono hb.size))
  obtain ⟨a0, c0, rfl⟩ := hR.a.form
  obtain ⟨a1, c1, rfl⟩ := hR.b.form
  obtain ⟨kd, rg, nn, dt⟩ := o
  obtain ⟨cap, r0, r1, down, lf, tn⟩ := R
  dsimp only [OpS.val, RefS.val] at hk hl hS od HRA HOK HR HOA HOB ⊢
  have HS := Lib.hid hS
  have HOD := Lib.hid od
  obtain ⟨n0, hn0⟩ : ∃ n0, r0.length = n0 := ⟨_, rfl⟩
  obtain ⟨n1, hn1⟩ : ∃ n1, r1.length = n1 := ⟨_, rfl⟩
  obtain ⟨q, hq⟩ : ∃ q, dt.length = q := ⟨_, rfl⟩
  rw [hq] at HS HOD HRA ⊢
  rw [hn0] at HR HOA HRA ⊢
  rw [hn1] at HR HOB HRA ⊢
  obtain ⟨RR, hRR⟩ : ∃ RR, appR ⟨cap, r0, r1, down, lf, tn⟩ rg dt = RR := ⟨_, rfl⟩
  rw [hRR] at HRA ⊢
  obtain ⟨⟨cap', r0', r1', down', lf', tn'⟩, er⟩ := RR
  obtain ⟨DD, hDD⟩ : ∃ DD, appS D rg dt = DD := ⟨_, rfl⟩
  have HDD := Lib.hid hDD
  rw [hDD]
  obtain ⟨D', ed⟩ := DD
  dsimp only at HRA ⊢
  subst hk
  have hblt := h.blk.lt
  have HLT := Lib.hid h.lt
  clear h hR oa ob ok hS od hn0 hn1 hq hRR hDD ht hl
  have hz := zrd
  have hAS : Sl encY w.heap.size w (.slice a0 n0 c0) r0 := HR.out.a
  have hBS : Sl encY w.heap.size w (.slice a1 n1 c1) r1 := HR.out.b
  have MA : Hid (Off [w.heap.size + 1 + 1] (.slice a0 n0 c0)) := Lib.hid (off_old hAS _ (fun k hk => by simp at hk; omega))
  have MB : Hid (Off [w.heap.size + 1 + 1] (.slice a1 n1 c1)) := Lib.hid (off_old hBS _ (fun k hk => by simp at hk; omega))
  clear hAS hBS
  go_enter Try.func22, Try.ntmps22
  go_wp2_with fail
  obtain ⟨w1, hw1⟩ : ∃ w1, (((w.alloc (.cells #[.slice a0 n0 c0, .slice a1 n1 c1, .int .i64 (cap : Nat), .int .i64 lf, .bool down, .int .i64 (tn : Nat)] 32)).alloc (.cells #[.int .i64 1, .int .i64 rg, .int .i64 nn, .slice pa q pc] 36)).alloc (.cells #[.slice none 0 0, .slice none 0 0, .int .i64 0, .int .i64 0, .bool false, .int .i64 0] 32)) = w1 := ⟨_, rfl⟩
  rw [hw1]
  have rO : w1.heap[w.heap.size + 1]? = some (.cells #[.int .i64 1, .int .i64 rg, .int .i64 nn, .slice pa q pc] 36 (0, 0)) := by rw [← hw1, Below.heap_alloc _ _ _ (by simp)]; exact new2 w _ _
  have rR : w1.heap[w.heap.size + 1 + 1]? = some (.cells #[.slice none 0 0, .slice none 0 0, .int .i64 0, .int .i64 0, .bool false, .int .i64 0] 32 (0, 0)) := by rw [← hw1]; exact new3 w _ _ _
  have hb1 : Below w.heap.size w w1 := by rw [← hw1]; exact new3_below w _ _ _
  have hz1 : w1.heap.size = w.heap.size + 1 + 1 + 1 := by rw [← hw1]; simp
  clear hw1
  refine (HRA.out w1 hb1).mono ?_
  rintro e w2 ⟨A', B', rfl, hR2, hF2, hb2⟩
  obtain ⟨a0', c0', hA'⟩ := hR2.a.form
  obtain ⟨a1', c1', hB'⟩ := hR2.b.form
  dsimp only at hA' hB'
  subst hA'
  subst hB'
  obtain ⟨n0', hn0'⟩ : ∃ n, r0'.length = n := ⟨_, rfl⟩
  obtain ⟨n1', hn1'⟩ : ∃ n, r1'.length = n := ⟨_, rfl⟩
  rw [hn0', hn1'] at hR2 hF2 ⊢
  clear hn0' hn1'
  have hb02 : Below w.heap.size w w2 := hb1.trans (hb2.mono hb1.size)
  have hO2 := (hb2.block _ (by omega)).trans rO
  have hRR2 := (hb2.block _ (by omega)).trans rR
  have h2z := hb2.size
  have HZ2 : Hid (w.heap.size + 1 + 1 + 1 ≤ w2.heap.size) := Lib.hid (by omega)
  have FO := Lib.hid (hF2 own (fun k hk => by have := HLT.out k hk; omega) HOA.out HOB.out)
  have FM := Lib.hid (hF2 [w.heap.size + 1 + 1] (fun k hk => by simp at hk; omega) MA.out MB.out)
  have HO2 := Lib.hid hO2
  have HRR2 := Lib.hid hRR2
  have HB02 := Lib.hid hb02
  have HR2 := Lib.hid hR2
  clear hb02 hO2 hRR2 h2z hF2 hR2 hb2 hb1 hz1 rO rR HRA MA MB
  go_wp2_with fail
  obtain ⟨w4, hw4⟩ : ∃ w4, w2.alloc (.cells #[.slice a0' n0' c0', .slice a1' n1' c1', .int .i64 (cap' : Nat), .int .i64 lf', .bool down', .int .i64 (tn' : Nat)] 32) = w4 := ⟨_, rfl⟩
  rw [hw4]
  have hb24 : Below w2.heap.size w2 w4 := by rw [← hw4]; exact (Below.refl _ _).alloc (Nat.le_refl _) _
  have hX4 : w4.heap[w2.heap.size]? = some (.cells #[.slice a0' n0' c0', .slice a1' n1' c1', .int .i64 (cap' : Nat), .int .i64 lf', .bool down', .int .i64 (tn' : Nat)] 32 (0, 0)) := by rw [← hw4]; exact World.alloc_heap_new _ _
  have HX4 := Lib.hid hX4
  have hx4 := (Array.getElem?_eq_some_iff.1 hX4).1
  have hb04 : Below w.heap.size w w4 := HB02.out.trans (hb24.mono HB02.out.size)
  have HB04 := Lib.hid hb04
  have HO4 := Lib.hid ((hb24.block _ (by have := HZ2.out; omega)).trans HO2.out)
  have HR4 := Lib.hid (HR2.out.below hb24)
  have hD4 := (HD.out.below HB02.out).below hb24
  have hC4 : CD own w4 b (w.heap.size + 1 + 1) D v0 v1 D' false w4 := ⟨But.refl _ _, ⟨_, _, _, _, _, _, (hb24.block _ (by have := HZ2.out; omega)).trans HRR2.out⟩, fun _ => hD4, fun e => by cases e⟩
  have HC4 := Lib.hid hC4
  have hM4 : w.heap.size + 1 + 1 < w4.heap.size := by have := HZ2.out; have := hb24.size; omega
  have hMo : w.heap.size + 1 + 1 ∉ own := fun hk => by have := HLT.out _ hk; omega
  have HMO := Lib.hid hMo
  have HZ4 : Hid (w.heap.size + 1 < w4.heap.size ∧ w.heap.size + 1 ≠ w.heap.size + 1 + 1 ∧ w2.heap.size ≠ w.heap.size + 1 + 1 ∧ w2.heap.size ∉ own ∧ w.heap.size + 1 ∉ own) := Lib.hid (by
    have := HZ2.out
    exact ⟨by omega, by omega, by omega, fun hk => by have := HLT.out _ hk; omega, fun hk => by have := HLT.out _ hk; omega⟩)
  clear hw4 hb24 hX4 hb04 hD4 hC4 hMo HO2 HRR2 HB02 HR2
  refine region_once1 (l := [_, _, _, _, _, _, _, _, _, _]) (s := _) (by kernel_rfl) (by decide +kernel) (by decide +kernel) (fun v => { tmps := #[.pointer (some ⟨b, 0, none⟩), rdV (.slice a0 n0 c0) (.slice a1 n1 c1) cap lf down tn, .agg #[.int .i64 1, .int .i64 rg, .int .i64 nn, .slice pa q pc], undef, .pointer (some ⟨w.heap.size, 0, none⟩), .pointer (some ⟨w.heap.size + 1, 0, none⟩), .pointer (some ⟨w.heap.size + 1 + 1, 0, none⟩), .bool false, .pointer (some ⟨w2.heap.size, 0, none⟩), .int .i64 er, undef, undef, .pointer (some ⟨w.heap.size + 1, 0, none⟩), .int .i64 1, .bool true, .bool false, .bool true,
      .tuple #[rdV (.slice a0' n0' c0') (.slice a1' n1' c1') cap' lf' down' tn', .int .i64 er], .agg #[.slice a0 n0 c0, .slice a1 n1 c1, .int .i64 (cap : Nat), .int .i64 lf, .bool down, .int .i64 (tn : Nat)], .pointer (some ⟨w.heap.size + 1, 1, none⟩), .int .i64 rg, .pointer (some ⟨w.heap.size + 1, 3, none⟩), .slice pa q pc, .tuple #[rdV (.slice a0' n0' c0') (.slice a1' n1' c1') cap' lf' down' tn', .int .i64 er], rdV (.slice a0' n0' c0') (.slice a1' n1' c1') cap' lf' down' tn', .int .i64 er, v 0, v 1, v 2, v 3, v 4, v 5, v 6, v 7, v 8, undef, undef, undef, undef, undef, undef, undef, undef, undef, undef, undef, undef, undef, undef, undef, undef, undef, undef, undef, undef, undef, undef, undef, undef, undef, undef, undef, undef, undef, undef, undef, undef, undef, undef, undef, undef, undef, undef, undef, undef, undef, undef, undef, undef, undef, undef, undef, undef, undef, undef, undef], defers := [] }) 6 (by decide) (CD own w4 b (w.heap.size + 1 + 1) D v0 v1 D') (fun i' u W => match i' with
    | 0 => u = rdV (.slice a0' n0' c0') (.slice a1' n1' c1') cap' lf' down' tn'
    | 1 => u = .pointer (some ⟨b, 0, none⟩)
    | 2 => u = .pointer (some ⟨w.heap.size + 1, 1, none⟩)
    | 3 => u = .int .i64 rg
    | 4 => u = .pointer (some ⟨w.heap.size + 1, 3, none⟩)
    | 5 => u = .slice pa q pc
    | 6 => u = .int .i64 ed
    | 7 => u = .int .i64 er
    | 8 => u = .bool (decide (ed = er))
    | 9 => W.heap[w.heap.size + 1 + 1]? = some (.cells #[.slice a0' n0' c0', .slice a1' n1' c1', .int .i64 (cap' : Nat), .int .i64 lf', .bool down', .int .i64 (tn' : Nat)] 32 (0, 0))
    | _ => True) (ExtM (w.heap.size + 1 + 1) (.cells #[.slice a0' n0' c0', .slice a1' n1' c1', .int .i64 (cap' : Nat), .int .i64 lf', .bool down', .int .i64 (tn' : Nat)] 32 (0, 0))) ?hV (fun _ => undef) ?h0 ?hop ?hend
  case h0 => exact HC4.out.drew
  case hV =>
    intro i' u A B h hx
    match i', h with
    | 9, h => exact hx.elim (fun e => e.trans h) id
    | 0, h => exact h
    | 1, h => exact h
    | 2, h => exact h
    | 3, h => exact h
    | 4, h => exact h
    | 5, h => exact h
    | 6, h => exact h
    | 7, h => exact h
    | 8, h => exact h
    | n + 10, h => trivial
  case hop =>
    simp only [AllOnce]
    refine ⟨?o0, ?o1, ?o2, ?o3, ?o4, ?o5, ?o6, ?o7, ?o8, ?o9, trivial⟩
    all_goals intro d v W hdc hc hd Q hQ
    all_goals simp [Region.binds] at hd
    all_goals rw [if_pos (show Region.wanted _ _ = true from rfl)]
    case o0 =>
      have rW := (hc.but.block w2.heap.size hx4 (by have := HZ4.out; simp [this])).trans HX4.out
      have k0 : W.cell? ⟨w2.heap.size, 0, none⟩ = some (.slice a0' n0' c0') := cell_of_row W _ 0 _ _ _ rW
      have k1 : W.cell? ⟨w2.heap.size, 1, none⟩ = some (.slice a1' n1' c1') := cell_of_row W _ 1 _ _ _ rW
      have k2 : W.cell? ⟨w2.heap.size, 2, none⟩ = some (.int .i64 (cap' : Nat)) := cell_of_row W _ 2 _ _ _ rW
      have k3 : W.cell? ⟨w2.heap.size, 3, none⟩ = some (.int .i64 lf') := cell_of_row W _ 3 _ _ _ rW
      have k4 : W.cell? ⟨w2.heap.size, 4, none⟩ = some (.bool down') := cell_of_row W _ 4 _ _ _ rW
      have k5 : W.cell? ⟨w2.heap.size, 5, none⟩ = some (.int .i64 (tn' : Nat)) := cell_of_row W _ 5 _ _ _ rW
      have HC := Lib.hid hc
      clear rW hc
      go_wp2
      exact ⟨_, rfl, ExtM.refl _ _ _, rfl, by simpa using HC.out⟩
    case o1 => have HC := Lib.hid hc; clear hc; go_wp2; exact ⟨_, rfl, ExtM.refl _ _ _, rfl, by simpa using HC.out⟩
    case o2 => have HC := Lib.hid hc; clear hc; go_wp2; exact ⟨_, rfl, ExtM.refl _ _ _, rfl, by simpa using HC.out⟩
    case o3 =>
      have rW := (hc.but.block (w.heap.size + 1) HZ4.out.1 (by have := HZ4.out; simp [this])).trans HO4.out
      have k1 : W.cell? ⟨w.heap.size + 1, 1, none⟩ = some (.int .i64 rg) := cell_of_row W _ 1 _ _ _ rW
      have HC := Lib.hid hc; clear rW hc
      go_wp2
      first | exact ⟨_, rfl, ExtM.refl _ _ _, rfl, by simpa using HC.out⟩ | (refine ⟨_, ?_, ExtM.refl _ _ _, rfl, by simpa using HC.out⟩; simp [updV, hd])
    case o4 => have HC := Lib.hid hc; clear hc; go_wp2; exact ⟨_, rfl, ExtM.refl _ _ _, rfl, by simpa using HC.out⟩
    case o5 =>
      have rW := (hc.but.block (w.heap.size + 1) HZ4.out.1 (by have := HZ4.out; simp [this])).trans HO4.out
      have k3 : W.cell? ⟨w.heap.size + 1, 3, none⟩ = some (.slice pa q pc) := cell_of_row W _ 3 _ _ _ rW
      have HC := Lib.hid hc; clear rW hc
      go_wp2
      first | exact ⟨_, rfl, ExtM.refl _ _ _, rfl, by simpa using HC.out⟩ | (refine ⟨_, ?_, ExtM.refl _ _ _, rfl, by simpa using HC.out⟩; simp [updV, hd])
    case o6 =>
      have hdf := hdc (by trivial)
      subst hdf
      obtain ⟨h1, h2, h3⟩ := hd
      have hS4 : Sl encY w4.heap.size w4 (.slice pa q pc) dt := (HS.out.below HB04.out).mono HB04.out.size
      have hoM : Off [w.heap.size + 1 + 1] (.slice pa q pc) := off_old HS.out _ (fun k hk => by simp at hk; omega)
      have HAP := Lib.hid (app_any rg pa q pc dt HOK.out.data W (hc.pre rfl) (hS4.but hc.but (hoM.cons HOD.out)) HOD.out)
      rw [HDD.out] at HAP
      have HC := Lib.hid hc
      clear hc hS4 hoM
      go_wp2_with fail
      refine HAP.out.mono ?_
      rintro e W' ⟨rfl, hT⟩
      obtain ⟨hC', hM'⟩ := HC.out.step hM4 HMO.out hT
      have HC' := Lib.hid hC'
      have HM' := Lib.hid hM'
      clear hT hC' hM'
      go_wp2
      refine ⟨.int .i64 ed, ?_, .inl HM'.out, rfl, HC'.out⟩
      simp [updV, h1, h2, h3]
    case o7 => have HC := Lib.hid hc; clear hc; go_wp2; exact ⟨_, rfl, ExtM.refl _ _ _, rfl, by simpa using HC.out⟩
    case o8 =>
      have HC := Lib.hid hc; clear hc
      obtain ⟨h1, h2⟩ := hd
      go_wp2
      refine ⟨.bool (decide (ed = er)), ?_, ExtM.refl _ _ _, rfl, by simpa using HC.out⟩
      simp [updV, h1, h2, Bool.beq_eq_decide_eq]
    case o9 =>
      obtain ⟨x0, x1, x2, x3, x4, x5, hx⟩ := hc.box
      have k0 : W.cell? ⟨w.heap.size + 1 + 1, 0, none⟩ = some x0 := cell_of_row W _ 0 _ _ _ hx
      have k1 : W.cell? ⟨w.heap.size + 1 + 1, 1, none⟩ = some x1 := cell_of_row W _ 1 _ _ _ hx
      have k2 : W.cell? ⟨w.heap.size + 1 + 1, 2, none⟩ = some x2 := cell_of_row W _ 2 _ _ _ hx
      have k3 : W.cell? ⟨w.heap.size + 1 + 1, 3, none⟩ = some x3 := cell_of_row W _ 3 _ _ _ hx
      have k4 : W.cell? ⟨w.heap.size + 1 + 1, 4, none⟩ = some x4 := cell_of_row W _ 4 _ _ _ hx
      have k5 : W.cell? ⟨w.heap.size + 1 + 1, 5, none⟩ = some x5 := cell_of_row W _ 5 _ _ _ hx
      have f0 := frozen_of_row W (w.heap.size + 1 + 1) 0 _ _ hx
      have f1 := frozen_of_row W (w.heap.size + 1 + 1) 1 _ _ hx
      have f2 := frozen_of_row W (w.heap.size + 1 + 1) 2 _ _ hx
      have f3 := frozen_of_row W (w.heap.size + 1 + 1) 3 _ _ hx
      have f4 := frozen_of_row W (w.heap.size + 1 + 1) 4 _ _ hx
      have f5 := frozen_of_row W (w.heap.size + 1 + 1) 5 _ _ hx
      have hput := hc.put hM4 HMO.out (u0 := .slice a0' n0' c0') (u1 := .slice a1' n1' c1') (u2 := .int .i64 (cap' : Nat)) (u3 := .int .i64 lf') (u4 := .bool down') (u5 := .int .i64 (tn' : Nat))
      have HP := Lib.hid hput
      clear hx hc hput
      have hd0 : v 0 = rdV (.slice a0' n0' c0') (.slice a1' n1' c1') cap' lf' down' tn' := by first | exact hd | exact hd.1
      clear hd
      rw [hd0]
      go_wp2
      refine ⟨undef, ?_, .inr HP.out.2, HP.out.2, by simpa using HP.out.1⟩
      simp [updV, hd0]
  case hend =>
    intro v W hc hv
    have h8 : v 8 = .bool (decide (ed = er)) := hv 8 (by decide)
    have h9 : W.heap[w.heap.size + 1 + 1]? = _ := hv 9 (by decide)
    have HE := Lib.hid (do_end HB04.out (by omega) hc HR4.out FO.out.1 FO.out.2 FM.out.1 FM.out.2)
    have H9 := Lib.hid h9
    clear hv hc h9
    intro Qx hQx
    rw [if_pos (show Region.wanted _ _ = true from rfl)]
    go_wp2
    refine bodyPost_ret (rd_res2 _ 6 7 rfl _ _ (w.heap.size + 1 + 1) _ _ _ _ _ _ _ rfl rfl H9.out) rfl ?_
    obtain ⟨o', x', y', g1, g2, g3, g4, g5, g6⟩ := HE.out
    exact ⟨o', x', y', _, _, rfl, g1, g2, g3, g4, g5, g6⟩
end

section
open Go.RowKit
set_option linter.unusedVariables false
attribute [local go_sem] Oper.semAt_some

set_option maxRecDepth 100000 in
set_option maxHeartbeats 8000000 in
theorem do_trunc {own : List Nat} {b : Nat} {D : DevS} {v0 v1 : Value} {R : RefS} {A B : Value} (o : OpS) (ok : o.Ok) (hk : o.kind = 2) (hl : o.data.length ≤ 1048576) (ht : R.tn ≤ 1099511627776) (pa : Option Addr) (pc : Nat) (w : World) (h : Dev own w b D v0 v1) (hR : RefAt w R A B) (oa : Off own A) (ob : Off own B) (hS : Sl encY w.heap.size w (.slice pa o.data.length pc) o.data) (od : Off own (.slice pa o.data.length pc)) :
    Calls Try.prog 22 #[.pointer (some ⟨b, 0, none⟩), R.val A B, o.val pa pc] w (DoTo own w b (truncS D o.region o.n).1 (truncR R o.region o.n).1 (decide ((truncS D o.region o.n).2 = (truncR R o.region o.n).2))) := by
  have HD := Lib.hid h
  have HR := Lib.hid hR
  have HOA := Lib.hid oa
  have HOB := Lib.hid ob
  have HOK := Lib.hid ok
  have HRA := Lib.hid (fun (W : World) (hb : Below w.heap.size w W) => rtrunc_any (R := R) (A := A) (B := B) o.region o.n ht W (hR.below hb))
  obtain ⟨a0, c0, rfl⟩ := hR.a.form
  obtain ⟨a1, c1, rfl⟩ := hR.b.form
  obtain ⟨kd, rg, nn, dt⟩ := o
  obtain ⟨cap, r0, r1, down, lf, tn⟩ := R
  dsimp only [OpS.val, RefS.val] at hk hl hS od HRA HOK HR HOA HOB ⊢
  have HS := Lib.hid hS
  have HOD := Lib.hid od
  obtain ⟨n0, hn0⟩ : ∃ n0, r0.length = n0 := ⟨_, rfl⟩
  obtain ⟨n1, hn1⟩ : ∃ n1, r1.length = n1 := ⟨_, rfl⟩
  obtain ⟨q, hq⟩ : ∃ q, dt.length = q := ⟨_, rfl⟩
  rw [hq] at HS HOD ⊢
  rw [hn0] at HR HOA HRA ⊢
  rw [hn1] at HR HOB HRA ⊢
  obtain ⟨RR, hRR⟩ : ∃ RR, truncR ⟨cap, r0, r1, down, lf, tn⟩ rg nn = RR := ⟨_, rfl⟩
  rw [hRR] at HRA ⊢
  obtain ⟨⟨cap', r0', r1', down', lf', tn'⟩, er⟩ := RR
  obtain ⟨DD, hDD⟩ : ∃ DD, truncS D rg nn = DD := ⟨_, rfl⟩
  have HDD := Lib.hid hDD
  rw [hDD]
  obtain ⟨D', ed⟩ := DD
  dsimp only at HRA ⊢
  subst hk
  have hblt := h.blk.lt
  have HLT := Lib.hid h.lt
  clear h hR oa ob ok hS od hn0 hn1 hq hRR hDD ht hl
  have hz := zrd
  have hAS : Sl encY w.heap.size w (.slice a0 n0 c0) r0 := HR.out.a
  have hBS : Sl encY w.heap.size w (.slice a1 n1 c1) r1 := HR.out.b
  have MA : Hid (Off [w.heap.size + 1 + 1] (.slice a0 n0 c0)) := Lib.hid (off_old hAS _ (fun k hk => by simp at hk; omega))
  have MB : Hid (Off [w.heap.size + 1 + 1] (.slice a1 n1 c1)) := Lib.hid (off_old hBS _ (fun k hk => by simp at hk; omega))
  clear hAS hBS
  go_enter Try.func22, Try.ntmps22
  go_wp2_with fail
  obtain ⟨w1, hw1⟩ : ∃ w1, (((w.alloc (.cells #[.slice a0 n0 c0, .slice a1 n1 c1, .int .i64 (cap : Nat), .int .i64 lf, .bool down, .int .i64 (tn : Nat)] 32)).alloc (.cells #[.int .i64 2, .int .i64 rg, .int .i64 nn, .slice pa q pc] 36)).alloc (.cells #[.slice none 0 0, .slice none 0 0, .int .i64 0, .int .i64 0, .bool false, .int .i64 0] 32)) = w1 := ⟨_, rfl⟩
  rw [hw1]
  have rO : w1.heap[w.heap.size + 1]? = some (.cells #[.int .i64 2, .int .i64 rg, .int .i64 nn, .slice pa q pc] 36 (0, 0)) := by rw [← hw1, Below.heap_alloc _ _ _ (by simp)]; exact new2 w _ _
  have rR : w1.heap[w.heap.size + 1 + 1]? = some (.cells #[.slice none 0 0, .slice none 0 0, .int .i64 0, .int .i64 0, .bool false, .int .i64 0] 32 (0, 0)) := by rw [← hw1]; exact new3 w _ _ _
  have hb1 : Below w.heap.size w w1 := by rw [← hw1]; exact new3_below w _ _ _
  have hz1 : w1.heap.size = w.heap.size + 1 + 1 + 1 := by rw [← hw1]; simp
  clear hw1
  refine (HRA.out w1 hb1).mono ?_
  rintro e w2 ⟨A', B', rfl, hR2, hF2, hb2⟩
  obtain ⟨a0', c0', hA'⟩ := hR2.a.form
  obtain ⟨a1', c1', hB'⟩ := hR2.b.form
  dsimp only at hA' hB'
  subst hA'
  subst hB'
  obtain ⟨n0', hn0'⟩ : ∃ n, r0'.length = n := ⟨_, rfl⟩
  obtain ⟨n1', hn1'⟩ : ∃ n, r1'.length = n := ⟨_, rfl⟩
  rw [hn0', hn1'] at hR2 hF2 ⊢
  clear hn0' hn1'
  have hb02 : Below w.heap.size w w2 := hb1.trans (hb2.mono hb1.size)
  have hO2 := (hb2.block _ (by omega)).trans rO
  have hRR2 := (hb2.block _ (by omega)).trans rR
  have h2z := hb2.size
  have HZ2 : Hid (w.heap.size + 1 + 1 + 1 ≤ w2.heap.size) := Lib.hid (by omega)
  have FO := Lib.hid (hF2 own (fun k hk => by have := HLT.out k hk; omega) HOA.out HOB.out)
  have FM := Lib.hid (hF2 [w.heap.size + 1 + 1] (fun k hk => by simp at hk; omega) MA.out MB.out)
  have HO2 := Lib.hid hO2
  have HRR2 := Lib.hid hRR2
  have HB02 := Lib.hid hb02
  have HR2 := Lib.hid hR2
  clear hb02 hO2 hRR2 h2z hF2 hR2 hb2 hb1 hz1 rO rR HRA MA MB
  go_wp2_with fail
  obtain ⟨w4, hw4⟩ : ∃ w4, w2.alloc (.cells #[.slice a0' n0' c0', .slice a1' n1' c1', .int .i64 (cap' : Nat), .int .i64 lf', .bool down', .int .i64 (tn' : Nat)] 32) = w4 := ⟨_, rfl⟩
  rw [hw4]
  have hb24 : Below w2.heap.size w2 w4 := by rw [← hw4]; exact (Below.refl _ _).alloc (Nat.le_refl _) _
  have hX4 : w4.heap[w2.heap.size]? = some (.cells #[.slice a0' n0' c0', .slice a1' n1' c1', .int .i64 (cap' : Nat), .int .i64 lf', .bool down', .int .i64 (tn' : Nat)] 32 (0, 0)) := by rw [← hw4]; exact World.alloc_heap_new _ _
  have HX4 := Lib.hid hX4
  have hx4 := (Array.getElem?_eq_some_iff.1 hX4).1
  have hb04 : Below w.heap.size w w4 := HB02.out.trans (hb24.mono HB02.out.size)
  have HB04 := Lib.hid hb04
  have HO4 := Lib.hid ((hb24.block _ (by have := HZ2.out; omega)).trans HO2.out)
  have HR4 := Lib.hid (HR2.out.below hb24)
  have hD4 := (HD.out.below HB02.out).below hb24
  have hC4 : CD own w4 b (w.heap.size + 1 + 1) D v0 v1 D' false w4 := ⟨But.refl _ _, ⟨_, _, _, _, _, _, (hb24.block _ (by have := HZ2.out; omega)).trans HRR2.out⟩, fun _ => hD4, fun e => by cases e⟩
  have HC4 := Lib.hid hC4
  have hM4 : w.heap.size + 1 + 1 < w4.heap.size := by have := HZ2.out; have := hb24.size; omega
  have hMo : w.heap.size + 1 + 1 ∉ own := fun hk => by have := HLT.out _ hk; omega
  have HMO := Lib.hid hMo
  have HZ4 : Hid (w.heap.size + 1 < w4.heap.size ∧ w.heap.size + 1 ≠ w.heap.size + 1 + 1 ∧ w2.heap.size ≠ w.heap.size + 1 + 1 ∧ w2.heap.size ∉ own ∧ w.heap.size + 1 ∉ own) := Lib.hid (by
    have := HZ2.out
    exact ⟨by omega, by omega, by omega, fun hk => by have := HLT.out _ hk; omega, fun hk => by have := HLT.out _ hk; omega⟩)
  clear hw4 hb24 hX4 hb04 hD4 hC4 hMo HO2 HRR2 HB02 HR2
  refine region_once1 (l := [_, _, _, _, _, _, _, _, _, _]) (s := _) (by kernel_rfl) (by decide +kernel) (by decide +kernel) (fun v => { tmps := #[.pointer (some ⟨b, 0, none⟩), rdV (.slice a0 n0 c0) (.slice a1 n1 c1) cap lf down tn, .agg #[.int .i64 2, .int .i64 rg, .int .i64 nn, .slice pa q pc], undef, .pointer (some ⟨w.heap.size, 0, none⟩), .pointer (some ⟨w.heap.size + 1, 0, none⟩), .pointer (some ⟨w.heap.size + 1 + 1, 0, none⟩), .bool false, undef, undef, .pointer (some ⟨w2.heap.size, 0, none⟩), .int .i64 er, .pointer (some ⟨w.heap.size + 1, 0, none⟩), .int .i64 2, .bool false, .bool false, .bool false, undef, undef, undef, undef, undef, undef, undef, undef, undef, undef, undef, undef, undef, undef, undef, undef, undef, undef, .bool true, .bool true,
      .tuple #[rdV (.slice a0' n0' c0') (.slice a1' n1' c1') cap' lf' down' tn', .int .i64 er], .agg #[.slice a0 n0 c0, .slice a1 n1 c1, .int .i64 (cap : Nat), .int .i64 lf, .bool down, .int .i64 (tn : Nat)], .pointer (some ⟨w.heap.size + 1, 1, none⟩), .int .i64 rg, .pointer (some ⟨w.heap.size + 1, 2, none⟩), .int .i64 nn, .tuple #[rdV (.slice a0' n0' c0') (.slice a1' n1' c1') cap' lf' down' tn', .int .i64 er], rdV (.slice a0' n0' c0') (.slice a1' n1' c1') cap' lf' down' tn', .int .i64 er, v 0, v 1, v 2, v 3, v 4, v 5, v 6, v 7, v 8, undef, undef, undef, undef, undef, undef, undef, undef, undef, undef, undef, undef, undef, undef, undef, undef, undef, undef, undef, undef, undef, undef, undef, undef, undef, undef, undef, undef, undef, undef, undef], defers := [] }) 6 (by decide) (CD own w4 b (w.heap.size + 1 + 1) D v0 v1 D') (fun i' u W => match i' with
    | 0 => u = rdV (.slice a0' n0' c0') (.slice a1' n1' c1') cap' lf' down' tn'
    | 1 => u = .pointer (some ⟨b, 0, none⟩)
    | 2 => u = .pointer (some ⟨w.heap.size + 1, 1, none⟩)
    | 3 => u = .int .i64 rg
    | 4 => u = .pointer (some ⟨w.heap.size + 1, 2, none⟩)
    | 5 => u = .int .i64 nn
    | 6 => u = .int .i64 ed
    | 7 => u = .int .i64 er
    | 8 => u = .bool (decide (ed = er))
    | 9 => W.heap[w.heap.size + 1 + 1]? = some (.cells #[.slice a0' n0' c0', .slice a1' n1' c1', .int .i64 (cap' : Nat), .int .i64 lf', .bool down', .int .i64 (tn' : Nat)] 32 (0, 0))
    | _ => True) (ExtM (w.heap.size + 1 + 1) (.cells #[.slice a0' n0' c0', .slice a1' n1' c1', .int .i64 (cap' : Nat), .int .i64 lf', .bool down', .int .i64 (tn' : Nat)] 32 (0, 0))) ?hV (fun _ => undef) ?h0 ?hop ?hend
  case h0 => exact HC4.out.drew
  case hV =>
    intro i' u A B h hx
    match i', h with
    | 9, h => exact hx.elim (fun e => e.trans h) id
    | 0, h => exact h
    | 1, h => exact h
    | 2, h => exact h
    | 3, h => exact h
    | 4, h => exact h
    | 5, h => exact h
    | 6, h => exact h
    | 7, h => exact h
    | 8, h => exact h
    | n + 10, h => trivial
  case hop =>
    simp only [AllOnce]
    refine ⟨?o0, ?o1, ?o2, ?o3, ?o4, ?o5, ?o6, ?o7, ?o8, ?o9, trivial⟩
    all_goals intro d v W hdc hc hd Q hQ
    all_goals simp [Region.binds] at hd
    all_goals rw [if_pos (show Region.wanted _ _ = true from rfl)]
    case o0 =>
      have rW := (hc.but.block w2.heap.size hx4 (by have := HZ4.out; simp [this])).trans HX4.out
      have k0 : W.cell? ⟨w2.heap.size, 0, none⟩ = some (.slice a0' n0' c0') := cell_of_row W _ 0 _ _ _ rW
      have k1 : W.cell? ⟨w2.heap.size, 1, none⟩ = some (.slice a1' n1' c1') := cell_of_row W _ 1 _ _ _ rW
      have k2 : W.cell? ⟨w2.heap.size, 2, none⟩ = some (.int .i64 (cap' : Nat)) := cell_of_row W _ 2 _ _ _ rW
      have k3 : W.cell? ⟨w2.heap.size, 3, none⟩ = some (.int .i64 lf') := cell_of_row W _ 3 _ _ _ rW
      have k4 : W.cell? ⟨w2.heap.size, 4, none⟩ = some (.bool down') := cell_of_row W _ 4 _ _ _ rW
      have k5 : W.cell? ⟨w2.heap.size, 5, none⟩ = some (.int .i64 (tn' : Nat)) := cell_of_row W _ 5 _ _ _ rW
      have HC := Lib.hid hc
      clear rW hc
      go_wp2
      exact ⟨_, rfl, ExtM.refl _ _ _, rfl, by simpa using HC.out⟩
    case o1 => have HC := Lib.hid hc; clear hc; go_wp2; exact ⟨_, rfl, ExtM.refl _ _ _, rfl, by simpa using HC.out⟩
    case o2 => have HC := Lib.hid hc; clear hc; go_wp2; exact ⟨_, rfl, ExtM.refl _ _ _, rfl, by simpa using HC.out⟩
    case o3 =>
      have rW := (hc.but.block (w.heap.size + 1) HZ4.out.1 (by have := HZ4.out; simp [this])).trans HO4.out
      have k1 : W.cell? ⟨w.heap.size + 1, 1, none⟩ = some (.int .i64 rg) := cell_of_row W _ 1 _ _ _ rW
      have HC := Lib.hid hc; clear rW hc
      go_wp2
      first | exact ⟨_, rfl, ExtM.refl _ _ _, rfl, by simpa using HC.out⟩ | (refine ⟨_, ?_, ExtM.refl _ _ _, rfl, by simpa using HC.out⟩; simp [updV, hd])
    case o4 => have HC := Lib.hid hc; clear hc; go_wp2; exact ⟨_, rfl, ExtM.refl _ _ _, rfl, by simpa using HC.out⟩
    case o5 =>
      have rW := (hc.but.block (w.heap.size + 1) HZ4.out.1 (by have := HZ4.out; simp [this])).trans HO4.out
      have k2 : W.cell? ⟨w.heap.size + 1, 2, none⟩ = some (.int .i64 nn) := cell_of_row W _ 2 _ _ _ rW
      have HC := Lib.hid hc; clear rW hc
      go_wp2
      first | exact ⟨_, rfl, ExtM.refl _ _ _, rfl, by simpa using HC.out⟩ | (refine ⟨_, ?_, ExtM.refl _ _ _, rfl, by simpa using HC.out⟩; simp [updV, hd])
    case o6 =>
      have hdf := hdc (by trivial)
      subst hdf
      obtain ⟨h1, h2, h3⟩ := hd
      have HAP := Lib.hid (trunc_any rg nn W (hc.pre rfl))
      rw [HDD.out] at HAP
      have HC := Lib.hid hc
      clear hc
      go_wp2_with fail
      refine HAP.out.mono ?_
      rintro e W' ⟨rfl, hT⟩
      obtain ⟨hC', hM'⟩ := HC.out.step hM4 HMO.out hT
      have HC' := Lib.hid hC'
      have HM' := Lib.hid hM'
      clear hT hC' hM'
      go_wp2
      refine ⟨.int .i64 ed, ?_, .inl HM'.out, rfl, HC'.out⟩
      simp [updV, h1, h2, h3]
    case o7 => have HC := Lib.hid hc; clear hc; go_wp2; exact ⟨_, rfl, ExtM.refl _ _ _, rfl, by simpa using HC.out⟩
    case o8 =>
      have HC := Lib.hid hc; clear hc
      obtain ⟨h1, h2⟩ := hd
      go_wp2
      refine ⟨.bool (decide (ed = er)), ?_, ExtM.refl _ _ _, rfl, by simpa using HC.out⟩
      simp [updV, h1, h2, Bool.beq_eq_decide_eq]
    case o9 =>
      obtain ⟨x0, x1, x2, x3, x4, x5, hx⟩ := hc.box
      have k0 : W.cell? ⟨w.heap.size + 1 + 1, 0, none⟩ = some x0 := cell_of_row W _ 0 _ _ _ hx
      have k1 : W.cell? ⟨w.heap.size + 1 + 1, 1, none⟩ = some x1 := cell_of_row W _ 1 _ _ _ hx
      have k2 : W.cell? ⟨w.heap.size + 1 + 1, 2, none⟩ = some x2 := cell_of_row W _ 2 _ _ _ hx
      have k3 : W.cell? ⟨w.heap.size + 1 + 1, 3, none⟩ = some x3 := cell_of_row W _ 3 _ _ _ hx
      have k4 : W.cell? ⟨w.heap.size + 1 + 1, 4, none⟩ = some x4 := cell_of_row W _ 4 _ _ _ hx
      have k5 : W.cell? ⟨w.heap.size + 1 + 1, 5, none⟩ = some x5 := cell_of_row W _ 5 _ _ _ hx
      have f0 := frozen_of_row W (w.heap.size + 1 + 1) 0 _ _ hx
      have f1 := frozen_of_row W (w.heap.size + 1 + 1) 1 _ _ hx
      have f2 := frozen_of_row W (w.heap.size + 1 + 1) 2 _ _ hx
      have f3 := frozen_of_row W (w.heap.size + 1 + 1) 3 _ _ hx
      have f4 := frozen_of_row W (w.heap.size + 1 + 1) 4 _ _ hx
      have f5 := frozen_of_row W (w.heap.size + 1 + 1) 5 _ _ hx
      have hput := hc.put hM4 HMO.out (u0 := .slice a0' n0' c0') (u1 := .slice a1' n1' c1') (u2 := .int .i64 (cap' : Nat)) (u3 := .int .i64 lf') (u4 := .bool down') (u5 := .int .i64 (tn' : Nat))
      have HP := Lib.hid hput
      clear hx hc hput
      have hd0 : v 0 = rdV (.slice a0' n0' c0') (.slice a1' n1' c1') cap' lf' down' tn' := by first | exact hd | exact hd.1
      clear hd
      rw [hd0]
      go_wp2
      refine ⟨undef, ?_, .inr HP.out.2, HP.out.2, by simpa using HP.out.1⟩
      simp [updV, hd0]
  case hend =>
    intro v W hc hv
    have h8 : v 8 = .bool (decide (ed = er)) := hv 8 (by decide)
    have h9 : W.heap[w.heap.size + 1 + 1]? = _ := hv 9 (by decide)
    have HE := Lib.hid (do_end HB04.out (by omega) hc HR4.out FO.out.1 FO.out.2 FM.out.1 FM.out.2)
    have H9 := Lib.hid h9
    clear hv hc h9
    intro Qx hQx
    rw [if_pos (show Region.wanted _ _ = true from rfl)]
    go_wp2
    refine bodyPost_ret (rd_res2 _ 6 7 rfl _ _ (w.heap.size + 1 + 1) _ _ _ _ _ _ _ rfl rfl H9.out) rfl ?_
    obtain ⟨o', x', y', g1, g2, g3, g4, g5, g6⟩ := HE.out
    exact ⟨o', x', y', _, _, rfl, g1, g2, g3, g4, g5, g6⟩
end

section
open Go.RowKit
set_option linter.unusedVariables false
attribute [local go_sem] Oper.semAt_some

theorem do_end2 {own own2 : List Nat} {w w1 w2 w3 : World} {b M : Nat} {D' : DevS} {R' : RefS} {A' B' x y : Value} {u0 u1 u2 u3 u4 u5 : Value} (hw : Below w.heap.size w w1) (hM : w.heap.size ≤ M) (hM1 : M < w1.heap.size) (hown : ∀ k ∈ own, k < w.heap.size)
    (hD : Dev own2 w2 b D' x y) (b2 : But own w1 w2) (s2 : ∀ k ∈ own2, k ∈ own ∨ w1.heap.size ≤ k) (hb3 : Below w2.heap.size w2 w3) (hR : RefAt w3 R' A' B') (oa : Off own2 A') (ob : Off own2 B') (ma : Off [M] A') (mb : Off [M] B') :
    ∃ own' v0' v1', Dev own' ((((((w3.setCell ⟨M, 0, none⟩ u0).setCell ⟨M, 1, none⟩ u1).setCell ⟨M, 2, none⟩ u2).setCell ⟨M, 3, none⟩ u3).setCell ⟨M, 4, none⟩ u4).setCell ⟨M, 5, none⟩ u5) b D' v0' v1' ∧ RefAt ((((((w3.setCell ⟨M, 0, none⟩ u0).setCell ⟨M, 1, none⟩ u1).setCell ⟨M, 2, none⟩ u2).setCell ⟨M, 3, none⟩ u3).setCell ⟨M, 4, none⟩ u4).setCell ⟨M, 5, none⟩ u5) R' A' B' ∧ Off own' A' ∧ Off own' B' ∧
      But own w ((((((w3.setCell ⟨M, 0, none⟩ u0).setCell ⟨M, 1, none⟩ u1).setCell ⟨M, 2, none⟩ u2).setCell ⟨M, 3, none⟩ u3).setCell ⟨M, 4, none⟩ u4).setCell ⟨M, 5, none⟩ u5) ∧ ∀ k ∈ own', k ∈ own ∨ w.heap.size ≤ k := by
  have hbut := set6_but w3 M (v0 := u0) (v1 := u1) (v2 := u2) (v3 := u3) (v4 := u4) (v5 := u5)
  have hMo : M ∉ own2 := fun hk => by
    rcases s2 M hk with h | h
    · have := hown M h; omega
    · omega
  refine ⟨own2, x, y, (hD.below hb3).but hbut (fun k hk hk2 => ?_), hR.but hbut ma mb, oa, ob, ?_, fun k hk => (s2 k hk).elim .inl (fun h => .inr (Nat.le_trans hw.size h))⟩
  · simp at hk2
    subst hk2
    exact hMo hk
  · refine ((((But.of_below hw).more (own' := own) (fun k hk => .inl hk)).trans' b2).trans' ((But.of_below hb3).more (own' := own) (fun k hk => .inl hk))).trans hbut (fun k hk => ?_)
    simp at hk
    subst hk
    exact .inr hM

set_option maxRecDepth 100000 in
set_option maxHeartbeats 8000000 in
theorem do_cut {own : List Nat} {b : Nat} {D : DevS} {v0 v1 : Value} {R : RefS} {A B : Value} (o : OpS) (ok : o.Ok) (hk : o.kind = 3) (hl : o.data.length ≤ 1048576) (pa : Option Addr) (pc : Nat) (w : World) (h : Dev own w b D v0 v1) (hR : RefAt w R A B) (oa : Off own A) (ob : Off own B) (hS : Sl encY w.heap.size w (.slice pa o.data.length pc) o.data) (od : Off own (.slice pa o.data.length pc)) :
    Calls Try.prog 22 #[.pointer (some ⟨b, 0, none⟩), R.val A B, o.val pa pc] w (DoTo own w b (cutS D o.n) (cutR R o.n) true) := by
  have HD := Lib.hid h
  have HR := Lib.hid hR
  have HOA := Lib.hid oa
  have HOB := Lib.hid ob
  have HOK := Lib.hid ok
  obtain ⟨a0, c0, hA0⟩ := hR.a.form
  obtain ⟨a1, c1, hB0⟩ := hR.b.form
  subst hA0
  subst hB0
  obtain ⟨kd, rg, nn, dt⟩ := o
  obtain ⟨RR, hRR⟩ : ∃ RR, cutR R nn = RR := ⟨_, rfl⟩
  obtain ⟨cap, r0, r1, down, lf, tn⟩ := R
  dsimp only [OpS.val, RefS.val] at hk hl hS od HOK HR HOA HOB ⊢
  rw [hRR]
  have HS := Lib.hid hS
  have HOD := Lib.hid od
  have HRR := Lib.hid hRR
  obtain ⟨cap', r0', r1', down', lf', tn'⟩ := RR
  obtain ⟨n0, hn0⟩ : ∃ n0, r0.length = n0 := ⟨_, rfl⟩
  obtain ⟨n1, hn1⟩ : ∃ n1, r1.length = n1 := ⟨_, rfl⟩
  obtain ⟨q, hq⟩ : ∃ q, dt.length = q := ⟨_, rfl⟩
  rw [hq] at HS HOD hl ⊢
  rw [hn0] at HR HOA ⊢
  rw [hn1] at HR HOB ⊢
  subst hk
  have HLT := Lib.hid h.lt
  have hHN := HOK.out.n
  dsimp only at hHN
  have hn2 := hHN.2
  clear h hR oa ob ok hS od hn0 hn1 hq hHN hRR
  have hz := zrd
  have hAS : Sl encY w.heap.size w (.slice a0 n0 c0) r0 := HR.out.a
  have hBS : Sl encY w.heap.size w (.slice a1 n1 c1) r1 := HR.out.b
  have MA : Hid (Off [w.heap.size + 1 + 1] (.slice a0 n0 c0)) := Lib.hid (off_old hAS _ (fun k hk => by simp at hk; omega))
  have MB : Hid (Off [w.heap.size + 1 + 1] (.slice a1 n1 c1)) := Lib.hid (off_old hBS _ (fun k hk => by simp at hk; omega))
  clear hAS hBS
  go_enter Try.func22, Try.ntmps22
  go_wp2_with fail
  obtain ⟨w1, hw1⟩ : ∃ w1, (((w.alloc (.cells #[.slice a0 n0 c0, .slice a1 n1 c1, .int .i64 (cap : Nat), .int .i64 lf, .bool down, .int .i64 (tn : Nat)] 32)).alloc (.cells #[.int .i64 3, .int .i64 rg, .int .i64 nn, .slice pa q pc] 36)).alloc (.cells #[.slice none 0 0, .slice none 0 0, .int .i64 0, .int .i64 0, .bool false, .int .i64 0] 32)) = w1 := ⟨_, rfl⟩
  rw [hw1]
  have rX : w1.heap[w.heap.size]? = some (.cells #[.slice a0 n0 c0, .slice a1 n1 c1, .int .i64 (cap : Nat), .int .i64 lf, .bool down, .int .i64 (tn : Nat)] 32 (0, 0)) := by rw [← hw1, Below.heap_alloc _ _ _ (by simp; omega), Below.heap_alloc _ _ _ (by simp)]; exact World.alloc_heap_new w _
  have rO : w1.heap[w.heap.size + 1]? = some (.cells #[.int .i64 3, .int .i64 rg, .int .i64 nn, .slice pa q pc] 36 (0, 0)) := by rw [← hw1, Below.heap_alloc _ _ _ (by simp)]; exact new2 w _ _
  have rR : w1.heap[w.heap.size + 1 + 1]? = some (.cells #[.slice none 0 0, .slice none 0 0, .int .i64 0, .int .i64 0, .bool false, .int .i64 0] 32 (0, 0)) := by rw [← hw1]; exact new3 w _ _ _
  have hb1 : Below w.heap.size w w1 := by rw [← hw1]; exact new3_below w _ _ _
  have hz1 : w1.heap.size = w.heap.size + 1 + 1 + 1 := by rw [← hw1]; simp
  have hS1 : Sl encY w1.heap.size w1 (.slice pa q pc) dt := (HS.out.below hb1).mono hb1.size
  have hno : ∀ k, w.heap.size ≤ k → k ∉ own := fun k hk hk2 => by have := HLT.out k hk2; omega
  clear hw1
  refine (cut_to nn hn2 w1 (HD.out.below hb1)).mono ?_
  rintro e w2 ⟨rfl, own2, x2, y2, d2, b2, s2⟩
  have hRw2 := (HR.out.below hb1).but b2 HOA.out HOB.out
  have o2a := HOA.out.own' (HR.out.below hb1).a s2
  have o2b := HOB.out.own' (HR.out.below hb1).b s2
  have rX2 := (b2.block _ (by omega) (hno _ (by omega))).trans rX
  have rO2 := (b2.block _ (by omega) (hno _ (by omega))).trans rO
  have rR2 := (b2.block _ (by omega) (hno _ (by omega))).trans rR
  have hS2 : Sl encY w2.heap.size w2 (.slice pa q pc) dt := hS1.but b2 HOD.out
  have hz2 := b2.size
  have HRF := Lib.hid (rcut_to nn hn2 w2 hRw2)
  rw [HRR.out] at HRF
  dsimp only [RefS.val] at HRF
  have k0 : w2.cell? ⟨w.heap.size, 0, none⟩ = some (.slice a0 n0 c0) := cell_of_row w2 _ 0 _ _ _ rX2
  have k1 : w2.cell? ⟨w.heap.size, 1, none⟩ = some (.slice a1 n1 c1) := cell_of_row w2 _ 1 _ _ _ rX2
  have k2 : w2.cell? ⟨w.heap.size, 2, none⟩ = some (.int .i64 (cap : Nat)) := cell_of_row w2 _ 2 _ _ _ rX2
  have k3 : w2.cell? ⟨w.heap.size, 3, none⟩ = some (.int .i64 lf) := cell_of_row w2 _ 3 _ _ _ rX2
  have k4 : w2.cell? ⟨w.heap.size, 4, none⟩ = some (.bool down) := cell_of_row w2 _ 4 _ _ _ rX2
  have k5 : w2.cell? ⟨w.heap.size, 5, none⟩ = some (.int .i64 (tn : Nat)) := cell_of_row w2 _ 5 _ _ _ rX2
  have l1 : w2.cell? ⟨w.heap.size + 1, 1, none⟩ = some (.int .i64 rg) := cell_of_row w2 _ 1 _ _ _ rO2
  have l2 : w2.cell? ⟨w.heap.size + 1, 2, none⟩ = some (.int .i64 nn) := cell_of_row w2 _ 2 _ _ _ rO2
  have l3 : w2.cell? ⟨w.heap.size + 1, 3, none⟩ = some (.slice pa q pc) := cell_of_row w2 _ 3 _ _ _ rO2
  have HR2 := Lib.hid rR2
  have HB1 := Lib.hid hb1
  have HB2 := Lib.hid b2
  have HS2 := Lib.hid s2
  have HD2 := Lib.hid d2
  have HO2 := Lib.hid (And.intro o2a o2b)
  have HZ2 : Hid (w.heap.size + 1 + 1 + 1 = w1.heap.size ∧ w1.heap.size ≤ w2.heap.size) := Lib.hid ⟨hz1.symm, hz2⟩
  clear rX2 rO2 rR2 rX rO rR hb1 b2 s2 d2 hRw2 hS1 hS2 hno hz1 hz2 o2a o2b
  go_wp2_with fail
  refine HRF.out.mono ?_
  rintro e w3 ⟨A', B', rfl, hR3, hF3, hb3⟩
  obtain ⟨a0', c0', hA'⟩ := hR3.a.form
  obtain ⟨a1', c1', hB'⟩ := hR3.b.form
  dsimp only at hA' hB'
  subst hA'
  subst hB'
  obtain ⟨n0', hn0'⟩ : ∃ n, r0'.length = n := ⟨_, rfl⟩
  obtain ⟨n1', hn1'⟩ : ∃ n, r1'.length = n := ⟨_, rfl⟩
  rw [hn0', hn1'] at hR3 hF3 ⊢
  clear hn0' hn1'
  have rR3 := (hb3.block _ (by have := HZ2.out; omega)).trans HR2.out
  have r0 : w3.cell? ⟨w.heap.size + 1 + 1, 0, none⟩ = some (.slice none 0 0) := cell_of_row w3 _ 0 _ _ _ rR3
  have r1 : w3.cell? ⟨w.heap.size + 1 + 1, 1, none⟩ = some (.slice none 0 0) := cell_of_row w3 _ 1 _ _ _ rR3
  have r2 : w3.cell? ⟨w.heap.size + 1 + 1, 2, none⟩ = some (.int .i64 0) := cell_of_row w3 _ 2 _ _ _ rR3
  have r3 : w3.cell? ⟨w.heap.size + 1 + 1, 3, none⟩ = some (.int .i64 0) := cell_of_row w3 _ 3 _ _ _ rR3
  have r4 : w3.cell? ⟨w.heap.size + 1 + 1, 4, none⟩ = some (.bool false) := cell_of_row w3 _ 4 _ _ _ rR3
  have r5 : w3.cell? ⟨w.heap.size + 1 + 1, 5, none⟩ = some (.int .i64 0) := cell_of_row w3 _ 5 _ _ _ rR3
  have g0 := frozen_of_row w3 (w.heap.size + 1 + 1) 0 _ _ rR3
  have g1 := frozen_of_row w3 (w.heap.size + 1 + 1) 1 _ _ rR3
  have g2 := frozen_of_row w3 (w.heap.size + 1 + 1) 2 _ _ rR3
  have g3 := frozen_of_row w3 (w.heap.size + 1 + 1) 3 _ _ rR3
  have g4 := frozen_of_row w3 (w.heap.size + 1 + 1) 4 _ _ rR3
  have g5 := frozen_of_row w3 (w.heap.size + 1 + 1) 5 _ _ rR3
  have FO := hF3 own2 HD2.out.lt HO2.out.1 HO2.out.2
  have FM := hF3 [w.heap.size + 1 + 1] (fun k hk => by have := HZ2.out; simp at hk; omega) MA.out MB.out
  have HE := Lib.hid (do_end2 (u0 := .slice a0' n0' c0') (u1 := .slice a1' n1' c1') (u2 := .int .i64 (cap' : Nat)) (u3 := .int .i64 lf') (u4 := .bool down') (u5 := .int .i64 (tn' : Nat)) HB1.out (by omega) (by have := HZ2.out; omega) HLT.out HD2.out HB2.out HS2.out hb3 hR3 FO.1 FO.2 FM.1 FM.2)
  have HR3 := Lib.hid rR3
  clear rR3 hR3 hF3 hb3 FO FM
  go_wp2
  refine bodyPost_ret (rd_res2 _ 6 7 rfl _ _ (w.heap.size + 1 + 1) _ _ _ _ _ _ _ rfl rfl (heap_set6 HR3.out)) rfl ?_
  obtain ⟨o', x', y', e1, e2, e3, e4, e5, e6⟩ := HE.out
  exact ⟨o', x', y', _, _, rfl, e1, e2, e3, e4, e5, e6⟩

set_option maxRecDepth 100000 in
set_option maxHeartbeats 8000000 in
theorem do_restore {own : List Nat} {b : Nat} {D : DevS} {v0 v1 : Value} {R : RefS} {A B : Value} (o : OpS) (ok : o.Ok) (hk : o.kind = 4) (hl : o.data.length ≤ 1048576) (pa : Option Addr) (pc : Nat) (w : World) (h : Dev own w b D v0 v1) (hR : RefAt w R A B) (oa : Off own A) (ob : Off own B) (hS : Sl encY w.heap.size w (.slice pa o.data.length pc) o.data) (od : Off own (.slice pa o.data.length pc)) :
    Calls Try.prog 22 #[.pointer (some ⟨b, 0, none⟩), R.val A B, o.val pa pc] w (DoTo own w b (restoreS D) (restoreR R) true) := by
  have HD := Lib.hid h
  have HR := Lib.hid hR
  have HOA := Lib.hid oa
  have HOB := Lib.hid ob
  have HOK := Lib.hid ok
  obtain ⟨a0, c0, hA0⟩ := hR.a.form
  obtain ⟨a1, c1, hB0⟩ := hR.b.form
  subst hA0
  subst hB0
  obtain ⟨kd, rg, nn, dt⟩ := o
  obtain ⟨RR, hRR⟩ : ∃ RR, restoreR R = RR := ⟨_, rfl⟩
  obtain ⟨cap, r0, r1, down, lf, tn⟩ := R
  dsimp only [OpS.val, RefS.val] at hk hl hS od HOK HR HOA HOB ⊢
  rw [hRR]
  have HS := Lib.hid hS
  have HOD := Lib.hid od
  have HRR := Lib.hid hRR
  obtain ⟨cap', r0', r1', down', lf', tn'⟩ := RR
  obtain ⟨n0, hn0⟩ : ∃ n0, r0.length = n0 := ⟨_, rfl⟩
  obtain ⟨n1, hn1⟩ : ∃ n1, r1.length = n1 := ⟨_, rfl⟩
  obtain ⟨q, hq⟩ : ∃ q, dt.length = q := ⟨_, rfl⟩
  rw [hq] at HS HOD hl ⊢
  rw [hn0] at HR HOA ⊢
  rw [hn1] at HR HOB ⊢
  subst hk
  have HLT := Lib.hid h.lt
  have hHN := HOK.out.n
  dsimp only at hHN
  have hn2 := hHN.2
  clear h hR oa ob ok hS od hn0 hn1 hq hHN hRR
  have hz := zrd
  have hAS : Sl encY w.heap.size w (.slice a0 n0 c0) r0 := HR.out.a
  have hBS : Sl encY w.heap.size w (.slice a1 n1 c1) r1 := HR.out.b
  have MA : Hid (Off [w.heap.size + 1 + 1] (.slice a0 n0 c0)) := Lib.hid (off_old hAS _ (fun k hk => by simp at hk; omega))
  have MB : Hid (Off [w.heap.size + 1 + 1] (.slice a1 n1 c1)) := Lib.hid (off_old hBS _ (fun k hk => by simp at hk; omega))
  clear hAS hBS
  go_enter Try.func22, Try.ntmps22
  go_wp2_with fail
  obtain ⟨w1, hw1⟩ : ∃ w1, (((w.alloc (.cells #[.slice a0 n0 c0, .slice a1 n1 c1, .int .i64 (cap : Nat), .int .i64 lf, .bool down, .int .i64 (tn : Nat)] 32)).alloc (.cells #[.int .i64 4, .int .i64 rg, .int .i64 nn, .slice pa q pc] 36)).alloc (.cells #[.slice none 0 0, .slice none 0 0, .int .i64 0, .int .i64 0, .bool false, .int .i64 0] 32)) = w1 := ⟨_, rfl⟩
  rw [hw1]
  have rX : w1.heap[w.heap.size]? = some (.cells #[.slice a0 n0 c0, .slice a1 n1 c1, .int .i64 (cap : Nat), .int .i64 lf, .bool down, .int .i64 (tn : Nat)] 32 (0, 0)) := by rw [← hw1, Below.heap_alloc _ _ _ (by simp; omega), Below.heap_alloc _ _ _ (by simp)]; exact World.alloc_heap_new w _
  have rO : w1.heap[w.heap.size + 1]? = some (.cells #[.int .i64 4, .int .i64 rg, .int .i64 nn, .slice pa q pc] 36 (0, 0)) := by rw [← hw1, Below.heap_alloc _ _ _ (by simp)]; exact new2 w _ _
  have rR : w1.heap[w.heap.size + 1 + 1]? = some (.cells #[.slice none 0 0, .slice none 0 0, .int .i64 0, .int .i64 0, .bool false, .int .i64 0] 32 (0, 0)) := by rw [← hw1]; exact new3 w _ _ _
  have hb1 : Below w.heap.size w w1 := by rw [← hw1]; exact new3_below w _ _ _
  have hz1 : w1.heap.size = w.heap.size + 1 + 1 + 1 := by rw [← hw1]; simp
  have hS1 : Sl encY w1.heap.size w1 (.slice pa q pc) dt := (HS.out.below hb1).mono hb1.size
  have hno : ∀ k, w.heap.size ≤ k → k ∉ own := fun k hk hk2 => by have := HLT.out k hk2; omega
  clear hw1
  refine (restore_to w1 (HD.out.below hb1)).mono ?_
  rintro e w2 ⟨rfl, own2, x2, y2, d2, b2, s2⟩
  have hRw2 := (HR.out.below hb1).but b2 HOA.out HOB.out
  have o2a := HOA.out.own' (HR.out.below hb1).a s2
  have o2b := HOB.out.own' (HR.out.below hb1).b s2
  have rX2 := (b2.block _ (by omega) (hno _ (by omega))).trans rX
  have rO2 := (b2.block _ (by omega) (hno _ (by omega))).trans rO
  have rR2 := (b2.block _ (by omega) (hno _ (by omega))).trans rR
  have hS2 : Sl encY w2.heap.size w2 (.slice pa q pc) dt := hS1.but b2 HOD.out
  have hz2 := b2.size
  have HRF := Lib.hid (rrestore_to w2 hRw2)
  rw [HRR.out] at HRF
  dsimp only [RefS.val] at HRF
  have k0 : w2.cell? ⟨w.heap.size, 0, none⟩ = some (.slice a0 n0 c0) := cell_of_row w2 _ 0 _ _ _ rX2
  have k1 : w2.cell? ⟨w.heap.size, 1, none⟩ = some (.slice a1 n1 c1) := cell_of_row w2 _ 1 _ _ _ rX2
  have k2 : w2.cell? ⟨w.heap.size, 2, none⟩ = some (.int .i64 (cap : Nat)) := cell_of_row w2 _ 2 _ _ _ rX2
  have k3 : w2.cell? ⟨w.heap.size, 3, none⟩ = some (.int .i64 lf) := cell_of_row w2 _ 3 _ _ _ rX2
  have k4 : w2.cell? ⟨w.heap.size, 4, none⟩ = some (.bool down) := cell_of_row w2 _ 4 _ _ _ rX2
  have k5 : w2.cell? ⟨w.heap.size, 5, none⟩ = some (.int .i64 (tn : Nat)) := cell_of_row w2 _ 5 _ _ _ rX2
  have l1 : w2.cell? ⟨w.heap.size + 1, 1, none⟩ = some (.int .i64 rg) := cell_of_row w2 _ 1 _ _ _ rO2
  have l2 : w2.cell? ⟨w.heap.size + 1, 2, none⟩ = some (.int .i64 nn) := cell_of_row w2 _ 2 _ _ _ rO2
  have l3 : w2.cell? ⟨w.heap.size + 1, 3, none⟩ = some (.slice pa q pc) := cell_of_row w2 _ 3 _ _ _ rO2
  have HR2 := Lib.hid rR2
  have HB1 := Lib.hid hb1
  have HB2 := Lib.hid b2
  have HS2 := Lib.hid s2
  have HD2 := Lib.hid d2
  have HO2 := Lib.hid (And.intro o2a o2b)
  have HZ2 : Hid (w.heap.size + 1 + 1 + 1 = w1.heap.size ∧ w1.heap.size ≤ w2.heap.size) := Lib.hid ⟨hz1.symm, hz2⟩
  clear rX2 rO2 rR2 rX rO rR hb1 b2 s2 d2 hRw2 hS1 hS2 hno hz1 hz2 o2a o2b
  go_wp2_with fail
  refine HRF.out.mono ?_
  rintro e w3 ⟨A', B', rfl, hR3, hF3, hb3⟩
  obtain ⟨a0', c0', hA'⟩ := hR3.a.form
  obtain ⟨a1', c1', hB'⟩ := hR3.b.form
  dsimp only at hA' hB'
  subst hA'
  subst hB'
  obtain ⟨n0', hn0'⟩ : ∃ n, r0'.length = n := ⟨_, rfl⟩
  obtain ⟨n1', hn1'⟩ : ∃ n, r1'.length = n := ⟨_, rfl⟩
  rw [hn0', hn1'] at hR3 hF3 ⊢
  clear hn0' hn1'
  have rR3 := (hb3.block _ (by have := HZ2.out; omega)).trans HR2.out
  have r0 : w3.cell? ⟨w.heap.size + 1 + 1, 0, none⟩ = some (.slice none 0 0) := cell_of_row w3 _ 0 _ _ _ rR3
  have r1 : w3.cell? ⟨w.heap.size + 1 + 1, 1, none⟩ = some (.slice none 0 0) := cell_of_row w3 _ 1 _ _ _ rR3
  have r2 : w3.cell? ⟨w.heap.size + 1 + 1, 2, none⟩ = some (.int .i64 0) := cell_of_row w3 _ 2 _ _ _ rR3
  have r3 : w3.cell? ⟨w.heap.size + 1 + 1, 3, none⟩ = some (.int .i64 0) := cell_of_row w3 _ 3 _ _ _ rR3
  have r4 : w3.cell? ⟨w.heap.size + 1 + 1, 4, none⟩ = some (.bool false) := cell_of_row w3 _ 4 _ _ _ rR3
  have r5 : w3.cell? ⟨w.heap.size + 1 + 1, 5, none⟩ = some (.int .i64 0) := cell_of_row w3 _ 5 _ _ _ rR3
  have g0 := frozen_of_row w3 (w.heap.size + 1 + 1) 0 _ _ rR3
  have g1 := frozen_of_row w3 (w.heap.size + 1 + 1) 1 _ _ rR3
  have g2 := frozen_of_row w3 (w.heap.size + 1 + 1) 2 _ _ rR3
  have g3 := frozen_of_row w3 (w.heap.size + 1 + 1) 3 _ _ rR3
  have g4 := frozen_of_row w3 (w.heap.size + 1 + 1) 4 _ _ rR3
  have g5 := frozen_of_row w3 (w.heap.size + 1 + 1) 5 _ _ rR3
  have FO := hF3 own2 HD2.out.lt HO2.out.1 HO2.out.2
  have FM := hF3 [w.heap.size + 1 + 1] (fun k hk => by have := HZ2.out; simp at hk; omega) MA.out MB.out
  have HE := Lib.hid (do_end2 (u0 := .slice a0' n0' c0') (u1 := .slice a1' n1' c1') (u2 := .int .i64 (cap' : Nat)) (u3 := .int .i64 lf') (u4 := .bool down') (u5 := .int .i64 (tn' : Nat)) HB1.out (by omega) (by have := HZ2.out; omega) HLT.out HD2.out HB2.out HS2.out hb3 hR3 FO.1 FO.2 FM.1 FM.2)
  have HR3 := Lib.hid rR3
  clear rR3 hR3 hF3 hb3 FO FM
  go_wp2
  refine bodyPost_ret (rd_res2 _ 6 7 rfl _ _ (w.heap.size + 1 + 1) _ _ _ _ _ _ _ rfl rfl (heap_set6 HR3.out)) rfl ?_
  obtain ⟨o', x', y', e1, e2, e3, e4, e5, e6⟩ := HE.out
  exact ⟨o', x', y', _, _, rfl, e1, e2, e3, e4, e5, e6⟩

set_option maxRecDepth 100000 in
set_option maxHeartbeats 8000000 in
theorem do_load {own : List Nat} {b : Nat} {D : DevS} {v0 v1 : Value} {R : RefS} {A B : Value} (o : OpS) (ok : o.Ok) (hk : o.kind = 5) (hl : o.data.length ≤ 1048576) (pa : Option Addr) (pc : Nat) (w : World) (h : Dev own w b D v0 v1) (hR : RefAt w R A B) (oa : Off own A) (ob : Off own B) (hS : Sl encY w.heap.size w (.slice pa o.data.length pc) o.data) (od : Off own (.slice pa o.data.length pc)) :
    Calls Try.prog 22 #[.pointer (some ⟨b, 0, none⟩), R.val A B, o.val pa pc] w (DoTo own w b (loadS D o.region o.data) (loadR R o.region o.data) true) := by
  have HD := Lib.hid h
  have HR := Lib.hid hR
  have HOA := Lib.hid oa
  have HOB := Lib.hid ob
  have HOK := Lib.hid ok
  obtain ⟨a0, c0, hA0⟩ := hR.a.form
  obtain ⟨a1, c1, hB0⟩ := hR.b.form
  subst hA0
  subst hB0
  obtain ⟨kd, rg, nn, dt⟩ := o
  obtain ⟨RR, hRR⟩ : ∃ RR, loadR R rg dt = RR := ⟨_, rfl⟩
  obtain ⟨cap, r0, r1, down, lf, tn⟩ := R
  dsimp only [OpS.val, RefS.val] at hk hl hS od HOK HR HOA HOB ⊢
  rw [hRR]
  have HS := Lib.hid hS
  have HOD := Lib.hid od
  have HRR := Lib.hid hRR
  obtain ⟨cap', r0', r1', down', lf', tn'⟩ := RR
  obtain ⟨n0, hn0⟩ : ∃ n0, r0.length = n0 := ⟨_, rfl⟩
  obtain ⟨n1, hn1⟩ : ∃ n1, r1.length = n1 := ⟨_, rfl⟩
  obtain ⟨q, hq⟩ : ∃ q, dt.length = q := ⟨_, rfl⟩
  rw [hq] at HS HOD hl ⊢
  rw [hn0] at HR HOA ⊢
  rw [hn1] at HR HOB ⊢
  subst hk
  have HLT := Lib.hid h.lt
  have hHN := HOK.out.n
  dsimp only at hHN
  have hn2 := hHN.2
  clear h hR oa ob ok hS od hn0 hn1 hq hHN hRR
  have hz := zrd
  have hAS : Sl encY w.heap.size w (.slice a0 n0 c0) r0 := HR.out.a
  have hBS : Sl encY w.heap.size w (.slice a1 n1 c1) r1 := HR.out.b
  have MA : Hid (Off [w.heap.size + 1 + 1] (.slice a0 n0 c0)) := Lib.hid (off_old hAS _ (fun k hk => by simp at hk; omega))
  have MB : Hid (Off [w.heap.size + 1 + 1] (.slice a1 n1 c1)) := Lib.hid (off_old hBS _ (fun k hk => by simp at hk; omega))
  clear hAS hBS
  go_enter Try.func22, Try.ntmps22
  go_wp2_with fail
  obtain ⟨w1, hw1⟩ : ∃ w1, (((w.alloc (.cells #[.slice a0 n0 c0, .slice a1 n1 c1, .int .i64 (cap : Nat), .int .i64 lf, .bool down, .int .i64 (tn : Nat)] 32)).alloc (.cells #[.int .i64 5, .int .i64 rg, .int .i64 nn, .slice pa q pc] 36)).alloc (.cells #[.slice none 0 0, .slice none 0 0, .int .i64 0, .int .i64 0, .bool false, .int .i64 0] 32)) = w1 := ⟨_, rfl⟩
  rw [hw1]
  have rX : w1.heap[w.heap.size]? = some (.cells #[.slice a0 n0 c0, .slice a1 n1 c1, .int .i64 (cap : Nat), .int .i64 lf, .bool down, .int .i64 (tn : Nat)] 32 (0, 0)) := by rw [← hw1, Below.heap_alloc _ _ _ (by simp; omega), Below.heap_alloc _ _ _ (by simp)]; exact World.alloc_heap_new w _
  have rO : w1.heap[w.heap.size + 1]? = some (.cells #[.int .i64 5, .int .i64 rg, .int .i64 nn, .slice pa q pc] 36 (0, 0)) := by rw [← hw1, Below.heap_alloc _ _ _ (by simp)]; exact new2 w _ _
  have rR : w1.heap[w.heap.size + 1 + 1]? = some (.cells #[.slice none 0 0, .slice none 0 0, .int .i64 0, .int .i64 0, .bool false, .int .i64 0] 32 (0, 0)) := by rw [← hw1]; exact new3 w _ _ _
  have hb1 : Below w.heap.size w w1 := by rw [← hw1]; exact new3_below w _ _ _
  have hz1 : w1.heap.size = w.heap.size + 1 + 1 + 1 := by rw [← hw1]; simp
  have hS1 : Sl encY w1.heap.size w1 (.slice pa q pc) dt := (HS.out.below hb1).mono hb1.size
  have hno : ∀ k, w.heap.size ≤ k → k ∉ own := fun k hk hk2 => by have := HLT.out k hk2; omega
  clear hw1
  refine (load_any rg pa q pc dt ⟨by have := HS.out.len; omega, HOK.out.data⟩ w1 (HD.out.below hb1) hS1).mono ?_
  rintro e w2 ⟨rfl, own2, x2, y2, d2, b2, s2⟩
  have hRw2 := (HR.out.below hb1).but b2 HOA.out HOB.out
  have o2a := HOA.out.own' (HR.out.below hb1).a s2
  have o2b := HOB.out.own' (HR.out.below hb1).b s2
  have rX2 := (b2.block _ (by omega) (hno _ (by omega))).trans rX
  have rO2 := (b2.block _ (by omega) (hno _ (by omega))).trans rO
  have rR2 := (b2.block _ (by omega) (hno _ (by omega))).trans rR
  have hS2 : Sl encY w2.heap.size w2 (.slice pa q pc) dt := hS1.but b2 HOD.out
  have hz2 := b2.size
  have HRF := Lib.hid (rload_to rg pa q pc dt w2 hRw2 hS2)
  rw [HRR.out] at HRF
  dsimp only [RefS.val] at HRF
  have k0 : w2.cell? ⟨w.heap.size, 0, none⟩ = some (.slice a0 n0 c0) := cell_of_row w2 _ 0 _ _ _ rX2
  have k1 : w2.cell? ⟨w.heap.size, 1, none⟩ = some (.slice a1 n1 c1) := cell_of_row w2 _ 1 _ _ _ rX2
  have k2 : w2.cell? ⟨w.heap.size, 2, none⟩ = some (.int .i64 (cap : Nat)) := cell_of_row w2 _ 2 _ _ _ rX2
  have k3 : w2.cell? ⟨w.heap.size, 3, none⟩ = some (.int .i64 lf) := cell_of_row w2 _ 3 _ _ _ rX2
  have k4 : w2.cell? ⟨w.heap.size, 4, none⟩ = some (.bool down) := cell_of_row w2 _ 4 _ _ _ rX2
  have k5 : w2.cell? ⟨w.heap.size, 5, none⟩ = some (.int .i64 (tn : Nat)) := cell_of_row w2 _ 5 _ _ _ rX2
  have l1 : w2.cell? ⟨w.heap.size + 1, 1, none⟩ = some (.int .i64 rg) := cell_of_row w2 _ 1 _ _ _ rO2
  have l2 : w2.cell? ⟨w.heap.size + 1, 2, none⟩ = some (.int .i64 nn) := cell_of_row w2 _ 2 _ _ _ rO2
  have l3 : w2.cell? ⟨w.heap.size + 1, 3, none⟩ = some (.slice pa q pc) := cell_of_row w2 _ 3 _ _ _ rO2
  have HR2 := Lib.hid rR2
  have HB1 := Lib.hid hb1
  have HB2 := Lib.hid b2
  have HS2 := Lib.hid s2
  have HD2 := Lib.hid d2
  have HO2 := Lib.hid (And.intro o2a o2b)
  have HZ2 : Hid (w.heap.size + 1 + 1 + 1 = w1.heap.size ∧ w1.heap.size ≤ w2.heap.size) := Lib.hid ⟨hz1.symm, hz2⟩
  clear rX2 rO2 rR2 rX rO rR hb1 b2 s2 d2 hRw2 hS1 hS2 hno hz1 hz2 o2a o2b
  go_wp2_with fail
  refine HRF.out.mono ?_
  rintro e w3 ⟨A', B', rfl, hR3, hF3, hb3⟩
  obtain ⟨a0', c0', hA'⟩ := hR3.a.form
  obtain ⟨a1', c1', hB'⟩ := hR3.b.form
  dsimp only at hA' hB'
  subst hA'
  subst hB'
  obtain ⟨n0', hn0'⟩ : ∃ n, r0'.length = n := ⟨_, rfl⟩
  obtain ⟨n1', hn1'⟩ : ∃ n, r1'.length = n := ⟨_, rfl⟩
  rw [hn0', hn1'] at hR3 hF3 ⊢
  clear hn0' hn1'
  have rR3 := (hb3.block _ (by have := HZ2.out; omega)).trans HR2.out
  have r0 : w3.cell? ⟨w.heap.size + 1 + 1, 0, none⟩ = some (.slice none 0 0) := cell_of_row w3 _ 0 _ _ _ rR3
  have r1 : w3.cell? ⟨w.heap.size + 1 + 1, 1, none⟩ = some (.slice none 0 0) := cell_of_row w3 _ 1 _ _ _ rR3
  have r2 : w3.cell? ⟨w.heap.size + 1 + 1, 2, none⟩ = some (.int .i64 0) := cell_of_row w3 _ 2 _ _ _ rR3
  have r3 : w3.cell? ⟨w.heap.size + 1 + 1, 3, none⟩ = some (.int .i64 0) := cell_of_row w3 _ 3 _ _ _ rR3
  have r4 : w3.cell? ⟨w.heap.size + 1 + 1, 4, none⟩ = some (.bool false) := cell_of_row w3 _ 4 _ _ _ rR3
  have r5 : w3.cell? ⟨w.heap.size + 1 + 1, 5, none⟩ = some (.int .i64 0) := cell_of_row w3 _ 5 _ _ _ rR3
  have g0 := frozen_of_row w3 (w.heap.size + 1 + 1) 0 _ _ rR3
  have g1 := frozen_of_row w3 (w.heap.size + 1 + 1) 1 _ _ rR3
  have g2 := frozen_of_row w3 (w.heap.size + 1 + 1) 2 _ _ rR3
  have g3 := frozen_of_row w3 (w.heap.size + 1 + 1) 3 _ _ rR3
  have g4 := frozen_of_row w3 (w.heap.size + 1 + 1) 4 _ _ rR3
  have g5 := frozen_of_row w3 (w.heap.size + 1 + 1) 5 _ _ rR3
  have FO := hF3 own2 HD2.out.lt HO2.out.1 HO2.out.2
  have FM := hF3 [w.heap.size + 1 + 1] (fun k hk => by have := HZ2.out; simp at hk; omega) MA.out MB.out
  have HE := Lib.hid (do_end2 (u0 := .slice a0' n0' c0') (u1 := .slice a1' n1' c1') (u2 := .int .i64 (cap' : Nat)) (u3 := .int .i64 lf') (u4 := .bool down') (u5 := .int .i64 (tn' : Nat)) HB1.out (by omega) (by have := HZ2.out; omega) HLT.out HD2.out HB2.out HS2.out hb3 hR3 FO.1 FO.2 FM.1 FM.2)
  have HR3 := Lib.hid rR3
  clear rR3 hR3 hF3 hb3 FO FM
  go_wp2
  refine bodyPost_ret (rd_res2 _ 6 7 rfl _ _ (w.heap.size + 1 + 1) _ _ _ _ _ _ _ rfl rfl (heap_set6 HR3.out)) rfl ?_
  obtain ⟨o', x', y', e1, e2, e3, e4, e5, e6⟩ := HE.out
  exact ⟨o', x', y', _, _, rfl, e1, e2, e3, e4, e5, e6⟩
end

section
open Go.RowKit
set_option linter.unusedVariables false
attribute [local go_sem] Oper.semAt_some

set_option maxRecDepth 100000 in
set_option maxHeartbeats 8000000 in
theorem do_none {own : List Nat} {b : Nat} {D : DevS} {v0 v1 : Value} {R : RefS} {A B : Value} (o : OpS) (k0 : ¬ o.kind = 0) (k1 : ¬ o.kind = 1) (k2 : ¬ o.kind = 2) (k3 : ¬ o.kind = 3) (k4 : ¬ o.kind = 4) (k5 : ¬ o.kind = 5) (pa : Option Addr) (pc : Nat) (w : World) (h : Dev own w b D v0 v1) (hR : RefAt w R A B) (oa : Off own A) (ob : Off own B) :
    Calls Try.prog 22 #[.pointer (some ⟨b, 0, none⟩), R.val A B, o.val pa pc] w (DoTo own w b D R true) := by
  have HD := Lib.hid h
  have HR := Lib.hid hR
  have HOA := Lib.hid oa
  have HOB := Lib.hid ob
  obtain ⟨a0, c0, hA0⟩ := hR.a.form
  obtain ⟨a1, c1, hB0⟩ := hR.b.form
  subst hA0
  subst hB0
  obtain ⟨kd, rg, nn, dt⟩ := o
  obtain ⟨cap, r0, r1, down, lf, tn⟩ := R
  dsimp only [OpS.val, RefS.val] at k0 k1 k2 k3 k4 k5 HR HOA HOB ⊢
  obtain ⟨n0, hn0⟩ : ∃ n0, r0.length = n0 := ⟨_, rfl⟩
  obtain ⟨n1, hn1⟩ : ∃ n1, r1.length = n1 := ⟨_, rfl⟩
  obtain ⟨q, hq⟩ : ∃ q, dt.length = q := ⟨_, rfl⟩
  rw [hq]
  rw [hn0] at HR HOA ⊢
  rw [hn1] at HR HOB ⊢
  have HLT := Lib.hid h.lt
  clear h hR oa ob hn0 hn1 hq
  have hz := zrd
  have e0 : (kd == 0) = false := beq_eq_false_iff_ne.2 k0
  have e1 : (kd == 1) = false := beq_eq_false_iff_ne.2 k1
  have e2 : (kd == 2) = false := beq_eq_false_iff_ne.2 k2
  have e3 : (kd == 3) = false := beq_eq_false_iff_ne.2 k3
  have e4 : (kd == 4) = false := beq_eq_false_iff_ne.2 k4
  have e5 : (kd == 5) = false := beq_eq_false_iff_ne.2 k5
  have hAS : Sl encY w.heap.size w (.slice a0 n0 c0) r0 := HR.out.a
  have hBS : Sl encY w.heap.size w (.slice a1 n1 c1) r1 := HR.out.b
  have MA : Hid (Off [w.heap.size + 1 + 1] (.slice a0 n0 c0)) := Lib.hid (off_old hAS _ (fun k hk => by simp at hk; omega))
  have MB : Hid (Off [w.heap.size + 1 + 1] (.slice a1 n1 c1)) := Lib.hid (off_old hBS _ (fun k hk => by simp at hk; omega))
  clear hAS hBS
  go_enter Try.func22, Try.ntmps22
  go_wp2_with fail
  refine bodyPost_ret (rd_res2 _ 6 7 rfl _ _ (w.heap.size + 1 + 1) _ _ _ _ _ _ _ rfl rfl (new3 _ _ _ _)) rfl ?_
  have hb1 := new3_below w (.cells #[.slice a0 n0 c0, .slice a1 n1 c1, .int .i64 (cap : Nat), .int .i64 lf, .bool down, .int .i64 (tn : Nat)] 32) (.cells #[.int .i64 kd, .int .i64 rg, .int .i64 nn, .slice pa q pc] 36) (.cells #[.slice a0 n0 c0, .slice a1 n1 c1, .int .i64 (cap : Nat), .int .i64 lf, .bool down, .int .i64 (tn : Nat)] 32)
  exact ⟨own, v0, v1, _, _, rfl, HD.out.below hb1, HR.out.below hb1, HOA.out, HOB.out, But.of_below hb1, fun k hk => .inl hk⟩

theorem do_any {own : List Nat} {b : Nat} {D : DevS} {v0 v1 : Value} {R : RefS} {A B : Value} (o : OpS) (ok : o.Ok) (hl : o.data.length ≤ 1048576) (ht : R.tn ≤ 1099511627776) (pa : Option Addr) (pc : Nat) (w : World) (h : Dev own w b D v0 v1) (hR : RefAt w R A B) (oa : Off own A) (ob : Off own B) (hS : Sl encY w.heap.size w (.slice pa o.data.length pc) o.data) (od : Off own (.slice pa o.data.length pc)) :
    Calls Try.prog 22 #[.pointer (some ⟨b, 0, none⟩), R.val A B, o.val pa pc] w (DoTo own w b (doD D o) (doR R o) (doB D R o)) := by
  unfold doD doR doB
  by_cases k0 : o.kind = 0
  · rw [if_pos (.inl k0), if_pos (.inl k0), if_pos (.inl k0)]; exact do_app0 o ok k0 hl ht pa pc w h hR oa ob hS od
  by_cases k1 : o.kind = 1
  · rw [if_pos (.inr k1), if_pos (.inr k1), if_pos (.inr k1)]; exact do_app1 o ok k1 hl ht pa pc w h hR oa ob hS od
  have k01 : ¬ (o.kind = 0 ∨ o.kind = 1) := fun e => e.elim k0 k1
  rw [if_neg k01, if_neg k01, if_neg k01]
  by_cases k2 : o.kind = 2
  · rw [if_pos k2, if_pos k2, if_pos k2]; exact do_trunc o ok k2 hl ht pa pc w h hR oa ob hS od
  rw [if_neg k2, if_neg k2, if_neg k2]
  by_cases k3 : o.kind = 3
  · rw [if_pos k3, if_pos k3]; exact do_cut o ok k3 hl pa pc w h hR oa ob hS od
  rw [if_neg k3, if_neg k3]
  by_cases k4 : o.kind = 4
  · rw [if_pos k4, if_pos k4]; exact do_restore o ok k4 hl pa pc w h hR oa ob hS od
  rw [if_neg k4, if_neg k4]
  by_cases k5 : o.kind = 5
  · rw [if_pos k5, if_pos k5]; exact do_load o ok k5 hl pa pc w h hR oa ob hS od
  rw [if_neg k5, if_neg k5]
  exact do_none o k0 k1 k2 k3 k4 k5 pa pc w h hR oa ob
theorem do_twin {k : Nat} {D : DevS} {R : RefS} (h : Twin k D R) (hk : k ≤ 40) (ok : D.Ok) (o : OpS) : doB D R o = true ∧ Twin (k + 1) (doD D o) (doR R o) := by
  unfold doD doR doB
  split
  · have := twin_app h hk ok o.region o.data; exact ⟨decide_eq_true this.1, this.2⟩
  · split
    · have := twin_trunc h hk ok o.region o.n; exact ⟨decide_eq_true this.1, this.2⟩
    · refine ⟨rfl, ?_⟩
      split
      · exact twin_cut h _
      · split
        · exact twin_restore h
        · split
          · exact twin_load h _ _
          · exact h.more
end

section
open Go.RowKit
set_option linter.unusedVariables false

/-- A block that holds the document's device holds no bytes. -/
theorem off_dev {n : Nat} {W : World} {X : Nat} {sv : Value} {l : List Nat} {a0 a1 : Option Addr} {n0 c0 n1 c1 : Nat} {x2 x3 x5 : Int} {x4 : Bool} (h : Sl encY n W sv l) (hX : W.heap[X]? = some (.cells #[.slice a0 n0 c0, .slice a1 n1 c1, .int .i64 x2, .int .i64 x3, .bool x4, .int .i64 x5] 32 (0, 0))) : Off [X] sv := fun ad m c e h0 hk => by
  rcases h with ⟨rfl, a, c', e', _⟩ | ⟨b, off, cap, e', hb, _, hc⟩
  · rw [e] at e'; cases e'; omega
  · rw [e] at e'
    simp only [Value.slice.injEq, Option.some.injEq] at e'
    obtain ⟨rfl, hm, _⟩ := e'
    simp at hk
    subst hk
    have h1 := hc 0 (l[0]'(by omega)) (List.getElem?_eq_getElem _)
    simp only [World.cell?, hX, Nat.add_zero] at h1
    match off, h1 with
    | 0, h1 => simp [encY] at h1
    | 1, h1 => simp [encY] at h1
    | 2, h1 => simp [encY] at h1
    | 3, h1 => simp [encY] at h1
    | 4, h1 => simp [encY] at h1
    | 5, h1 => simp [encY] at h1
    | k + 6, h1 => simp at h1
/-- Behind k steps: the device at b, the document's at X. -/
structure PlayI (w : World) (b X k : Nat) (wr : World) : Prop where
  has : ∃ own D R A B v0 v1, Dev own wr b D v0 v1 ∧ RefAt wr R A B ∧ Twin k D R ∧ Off own A ∧ Off own B ∧ X ∉ own ∧ (∀ k ∈ own, w.heap.size ≤ k) ∧
    wr.heap[X]? = some (.cells #[A, B, .int .i64 (R.cap : Nat), .int .i64 R.lf, .bool R.down, .int .i64 (R.tn : Nat)] 32 (0, 0))
  below : Below w.heap.size w wr
end
end Go.Proofs.Ytdimjeppcfacdaa
