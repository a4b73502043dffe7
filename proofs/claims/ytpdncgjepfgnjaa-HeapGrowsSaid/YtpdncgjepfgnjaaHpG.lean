/- A heap of int64 that grows while it is drained. -/
import Derived.Test.YtpdncgjepfgnjaaHpFZ
namespace Go.Proofs.Ytpdncgjepfgnjaa
open Go.RowKit
set_option linter.unusedVariables false

theorem ordGrow : OrdZ 22 (fun x => x) := by
  refine ⟨enters_of Try.func22 (by kernel_rfl) rfl, fun x y w => ?_⟩
  unfold valZ
  go_enter Try.func22, Try.ntmps22
  go_wp2
  go_ret
  exact ⟨rfl, Below.refl _ _⟩

/-- Where the drained heap stands: what is in it, how much has come, the last that came. -/
structure GrS where
  own : List Nat
  l : List (Int × Int)
  S : List (Int × Int)
  puts : Int
  n : Nat
  last : Int
/-- The boxes, in the order in which they were made. -/
structure GrB where
  s : Nat
  r : Nat
  x : Nat
  n : Nat
  l : Nat
  h : Nat
  B : Nat
structure GrB.Ok (k : GrB) (w : World) : Prop where
  a : w.heap.size ≤ k.s
  b : k.s < k.r
  c : k.r < k.x
  d : k.x < k.n
  e : k.n < k.l
  f : k.l < k.h
  g : k.h < k.B
structure GrH (b : Nat) (k : GrB) (step : Int) (w : World) (s : GrS) (W : World) : Prop where
  heap : ∃ v, HeapZ s.own W b (.func (.func 22) #[] #[]) v s.l s.puts
  rep : Rep (fun x : Int => x) s.l s.S s.puts
  stp : W.heap[k.s]? = some (.cells #[.int .i64 step] 2 (0, 0))
  res : W.heap[k.r]? = some (.cells #[.bool false] 4 (0, 0))
  hbx : W.heap[k.x]? = some (.cells #[.pointer (some ⟨b, 0, none⟩)] 48 (0, 0))
  num : W.heap[k.n]? = some (.cells #[.int .i64 s.n] 3 (0, 0))
  lst : W.heap[k.l]? = some (.cells #[.int .i64 s.last] 2 (0, 0))
  ptr : W.heap[k.h]? = some (.cells #[.pointer (some ⟨b, 0, none⟩)] 48 (0, 0))
  own : ∀ j ∈ s.own, w.heap.size ≤ j ∧ j ≠ k.s ∧ j ≠ k.r ∧ j ≠ k.x ∧ j ≠ k.n ∧ j ≠ k.l ∧ j ≠ k.h ∧ j ≠ k.B ∧ j ≠ k.B + 1
  bel : Below w.heap.size w W
section
variable {b : Nat} {k : GrB} {step : Int} {w : World} {s : GrS} {W W' : World}
theorem lt_some {W : World} {i : Nat} {o : Obj} (h : W.heap[i]? = some o) : i < W.heap.size := (Array.getElem?_eq_some_iff.1 h).1
theorem GrH.keep (h : GrH b k step w s W) {own2 : List Nat} (hb : But own2 W W') (ho : ∀ j ∈ own2, j ∉ s.own ∧ w.heap.size ≤ j ∧ j ≠ k.s ∧ j ≠ k.r ∧ j ≠ k.x ∧ j ≠ k.n ∧ j ≠ k.l ∧ j ≠ k.h) : GrH b k step w s W' := by
  obtain ⟨v, hv⟩ := h.heap
  exact ⟨⟨v, hv.but hb (fun j hj hj2 => (ho j hj2).1 hj)⟩, h.rep,
    (hb.block _ (lt_some h.stp) (fun e => (ho _ e).2.2.1 rfl)).trans h.stp, (hb.block _ (lt_some h.res) (fun e => (ho _ e).2.2.2.1 rfl)).trans h.res, (hb.block _ (lt_some h.hbx) (fun e => (ho _ e).2.2.2.2.1 rfl)).trans h.hbx,
    (hb.block _ (lt_some h.num) (fun e => (ho _ e).2.2.2.2.2.1 rfl)).trans h.num, (hb.block _ (lt_some h.lst) (fun e => (ho _ e).2.2.2.2.2.2.1 rfl)).trans h.lst, (hb.block _ (lt_some h.ptr) (fun e => (ho _ e).2.2.2.2.2.2.2 rfl)).trans h.ptr,
    h.own, h.bel.trans (hb.below (fun j hj => (ho j hj).2.1) h.bel.size)⟩
theorem GrH.below (h : GrH b k step w s W) (hb : Below W.heap.size W W') : GrH b k step w s W' := h.keep (own2 := []) (But.of_below hb) (fun j hj => by cases hj)
theorem GrH.noRec (hk : k.Ok w) : NoRec k.B (GrH b k step w s) := fun W o j hj h => h.keep (But.putObj W j o) (fun i hi => by
  obtain ⟨h1, h2, h3, h4, h5, h6, h7⟩ := hk
  simp at hi; subst hi
  refine ⟨fun hm => ?_, ?_⟩
  · obtain ⟨_, _, _, _, _, _, _, q1, q2⟩ := h.own _ hm
    rcases hj with e | e
    · exact q1 e
    · exact q2 e
  · rcases hj with rfl | rfl <;> exact ⟨by omega, by omega, by omega, by omega, by omega, by omega, by omega⟩)
/-- The heap has been worked on, in its own blocks or in new ones. -/
theorem GrH.turn (hk : k.Ok w) (h : GrH b k step w s W) {own' : List Nat} {l' S' : List (Int × Int)} {puts' : Int} (hb : But s.own W W') (hh : ∃ v, HeapZ own' W' b (.func (.func 22) #[] #[]) v l' puts') (hr : Rep (fun x : Int => x) l' S' puts')
    (ho : ∀ j ∈ own', j ∈ s.own ∨ W.heap.size ≤ j) (hB : own' = s.own ∨ k.B + 2 ≤ W.heap.size) : GrH b k step w { s with own := own', l := l', S := S', puts := puts' } W' := by
  obtain ⟨h1, h2, h3, h4, h5, h6, h7⟩ := hk
  have q := h.own
  refine ⟨hh, hr, (hb.block _ (lt_some h.stp) (fun e => (q _ e).2.1 rfl)).trans h.stp, (hb.block _ (lt_some h.res) (fun e => (q _ e).2.2.1 rfl)).trans h.res, (hb.block _ (lt_some h.hbx) (fun e => (q _ e).2.2.2.1 rfl)).trans h.hbx,
    (hb.block _ (lt_some h.num) (fun e => (q _ e).2.2.2.2.1 rfl)).trans h.num, (hb.block _ (lt_some h.lst) (fun e => (q _ e).2.2.2.2.2.1 rfl)).trans h.lst, (hb.block _ (lt_some h.ptr) (fun e => (q _ e).2.2.2.2.2.2.1 rfl)).trans h.ptr,
    fun j hj => ?_, h.bel.trans (hb.below (fun j hj => (q j hj).1) h.bel.size)⟩
  have hj : j ∈ own' := hj
  rcases hB with e | e
  · rw [e] at hj; exact q j hj
  · rcases ho j hj with hj | hj
    · exact q j hj
    · exact ⟨by omega, by omega, by omega, by omega, by omega, by omega, by omega, by omega, by omega⟩
theorem GrH.set (hk : k.Ok w) (h : GrH b k step w s W) (x : Int) (m : Nat) : GrH b k step w { s with last := x, n := m } ((W.setCell ⟨k.l, 0, none⟩ (.int .i64 x)).setCell ⟨k.n, 0, none⟩ (.int .i64 m)) := by
  obtain ⟨h1, h2, h3, h4, h5, h6, h7⟩ := hk
  have hb : But [k.l, k.n] W ((W.setCell ⟨k.l, 0, none⟩ (.int .i64 x)).setCell ⟨k.n, 0, none⟩ (.int .i64 m)) := ((But.refl _ W).set (.inl (by simp)) _).set (.inl (by simp)) _
  have hne : ∀ j, j ≠ k.l → j ≠ k.n → j ∉ [k.l, k.n] := fun j e1 e2 => by simp [e1, e2]
  obtain ⟨v, hv⟩ := h.heap
  refine ⟨⟨v, hv.but hb (fun j hj => hne j (h.own j hj).2.2.2.2.2.1 (h.own j hj).2.2.2.2.1)⟩, h.rep,
    (hb.block _ (lt_some h.stp) (hne _ (by omega) (by omega))).trans h.stp, (hb.block _ (lt_some h.res) (hne _ (by omega) (by omega))).trans h.res, (hb.block _ (lt_some h.hbx) (hne _ (by omega) (by omega))).trans h.hbx, ?_, ?_,
    (hb.block _ (lt_some h.ptr) (hne _ (by omega) (by omega))).trans h.ptr, h.own, h.bel.trans (hb.below (fun j hj => by simp at hj; omega) h.bel.size)⟩
  · have := heap_setCell_same (W.setCell ⟨k.l, 0, none⟩ (.int .i64 x)) k.n 0 _ _ (.int .i64 m) ((Below.heap_setCell W ⟨k.l, 0, none⟩ (.int .i64 x) k.n (by show k.n ≠ k.l; omega)).trans h.num)
    simpa using this
  · have := heap_setCell_same W k.l 0 _ _ (.int .i64 x) h.lst
    refine (Below.heap_setCell (W.setCell ⟨k.l, 0, none⟩ (.int .i64 x)) ⟨k.n, 0, none⟩ (.int .i64 m) k.l (by show k.l ≠ k.n; omega)).trans ?_
    simpa using this
end
def GrS.pop (s : GrS) : GrS := { s with l := takeL' (ahK (fun x : Int => x)) s.l, S := s.S.tail }
/-- A round's end without one put, and with one. -/
def GrS.nop (s : GrS) (x : Int) : GrS := { s with l := takeL' (ahK (fun x : Int => x)) s.l, S := s.S.tail, last := x, n := s.n + 1 }
theorem sameRec_but {own2 : List Nat} {B : Nat} {V U : World} (hb : But own2 V U) (h1 : B ∉ own2) (h2 : B + 1 ∉ own2) (hz : B + 2 ≤ V.heap.size) : SameRec B V U := ⟨hb.block B (by omega) h1, hb.block (B + 1) (by omega) h2⟩
theorem GrH.put {b : Nat} {k : GrB} {step : Int} {w : World} {s : GrS} {W : World} (hk : k.Ok w) (h : GrH b k step w s W) (hB : k.B + 2 ≤ W.heap.size) (y : Int) (hl : s.S.length ≤ 1000) (h0 : 0 ≤ s.puts) (h1 : s.puts ≤ 1000) :
    Calls Try.prog 25 #[.pointer (some ⟨b, 0, none⟩), .int .i64 y] W fun e W' => e = .returned (.tuple #[]) ∧ ∃ own' l', GrH b k step w { s with own := own', l := l', S := insS (fun x : Int => x) s.S (y, s.puts + 1), puts := s.puts + 1 } W' ∧ But s.own W W' := by
  obtain ⟨v, hv⟩ := h.heap
  have hln := h.rep.len
  refine (putZ ordGrow y (by omega) h0 (by omega) W hv).mono ?_
  rintro e W' ⟨rfl, g, v', q1, q2, q3⟩
  refine ⟨rfl, g :: s.own, _, h.turn hk q2 ⟨v', q1⟩ (h.rep.put y) (fun j hj => ?_) (.inr hB), q2⟩
  rcases List.mem_cons.1 hj with rfl | hj
  · exact q3
  · exact .inl hj
theorem GrH.nop' {b : Nat} {k : GrB} {step : Int} {w : World} {s : GrS} {V : World} {sn : Nat} {x : Int} (hk : k.Ok w) (h : GrH b k step w s.pop V) (hn : s.n = sn) (hz : k.B + 2 ≤ V.heap.size) :
    GrH b k step w (s.nop x) ((V.setCell ⟨k.l, 0, none⟩ (.int .i64 x)).setCell ⟨k.n, 0, none⟩ (.int .i64 ((sn : Int) + 1))) ∧ SameRec k.B V ((V.setCell ⟨k.l, 0, none⟩ (.int .i64 x)).setCell ⟨k.n, 0, none⟩ (.int .i64 ((sn : Int) + 1))) := by
  have h1 := h.set hk x (sn + 1)
  have e : ({ s.pop with last := x, n := sn + 1 } : GrS) = s.nop x := by unfold GrS.nop GrS.pop; rw [hn]
  rw [e, show ((sn + 1 : Nat) : Int) = (sn : Int) + 1 from by simp] at h1
  obtain ⟨q1, q2, q3, q4, q5, q6, q7⟩ := hk
  refine ⟨h1, sameRec_but (own2 := [k.l, k.n]) (((But.refl _ V).set (.inl (by simp)) _).set (.inl (by simp)) _) (by simp; omega) (by simp; omega) hz⟩
/-- What the numbers keep. -/
structure GrP (L0 : Nat) (s : GrS) : Prop where
  cnt : s.n + s.S.length ≤ 100 + min s.n 50
  ge : L0 ≤ s.n + s.S.length
  puts : 0 ≤ s.puts ∧ s.puts ≤ 100 + (min s.n 50 : Nat)
  low : ∀ y ∈ s.S, s.last ≤ y.1
  rng : ∀ y ∈ s.S, -9223372036854775808 ≤ y.1 ∧ y.1 ≤ 9223372036854775807
def GrS.rank (s : GrS) : Nat := s.S.length + (50 - s.n)
theorem GrP.first {L0 : Nat} {s : GrS} {S' : List (Int × Int)} {x p : Int} (h : GrP L0 s) (hr : InOrder (ahK (fun x : Int => x)) s.S) (e : s.S = (x, p) :: S') : s.last ≤ x ∧ (-9223372036854775808 ≤ x ∧ x ≤ 9223372036854775807) ∧ ∀ y ∈ S', x ≤ y.1 := by
  refine ⟨h.low (x, p) (by rw [e]; exact List.mem_cons_self), h.rng (x, p) (by rw [e]; exact List.mem_cons_self), fun y hy => ?_⟩
  rw [e] at hr
  have := (List.pairwise_cons.1 hr).1 y hy
  rw [le_K] at this
  rcases this with h1 | ⟨h1, _⟩ <;> (simp at h1; omega)
theorem GrP.nop {L0 : Nat} {s : GrS} {S' : List (Int × Int)} {x p : Int} (h : GrP L0 s) (hr : InOrder (ahK (fun x : Int => x)) s.S) (e : s.S = (x, p) :: S') : GrP L0 (s.nop x) ∧ (s.nop x).rank < s.rank := by
  obtain ⟨f1, f2, f3⟩ := h.first hr e
  have hc := h.cnt
  have hg := h.ge
  have hp := h.puts
  rw [e] at hc hg
  simp only [List.length_cons] at hc hg
  refine ⟨⟨?_, ?_, ?_, fun y hy => ?_, fun y hy => ?_⟩, ?_⟩
  · simp only [GrS.nop, e, List.tail_cons]; omega
  · simp only [GrS.nop, e, List.tail_cons]; omega
  · simp only [GrS.nop]; omega
  · simp only [GrS.nop, e, List.tail_cons] at hy ⊢
    exact f3 y hy
  · simp only [GrS.nop, e, List.tail_cons] at hy
    exact h.rng y (by rw [e]; exact List.mem_cons_of_mem _ hy)
  · simp only [GrS.rank, GrS.nop, e, List.tail_cons, List.length_cons]; omega
theorem GrP.put {L0 : Nat} {s : GrS} {S' : List (Int × Int)} {x p step : Int} (h : GrP L0 s) (hr : InOrder (ahK (fun x : Int => x)) s.S) (e : s.S = (x, p) :: S') (hn : s.n + 1 ≤ 50) (hx : x < 1152921504606846976) (hs : 0 ≤ step ∧ step ≤ 8) (own' : List Nat) (l' : List (Int × Int)) :
    GrP L0 { (s.nop x) with own := own', l := l', S := insS (fun x : Int => x) S' (x + step, s.puts + 1), puts := s.puts + 1 } ∧ GrS.rank { (s.nop x) with own := own', l := l', S := insS (fun x : Int => x) S' (x + step, s.puts + 1), puts := s.puts + 1 } < s.rank := by
  obtain ⟨f1, f2, f3⟩ := h.first hr e
  have hc := h.cnt
  have hg := h.ge
  have hp := h.puts
  have hi := ins_perm (fun x : Int => x) (x + step, s.puts + 1) S'
  have hl := hi.length_eq
  rw [e] at hc hg
  simp only [List.length_cons] at hc hg hl
  refine ⟨⟨?_, ?_, ?_, fun y hy => ?_, fun y hy => ?_⟩, ?_⟩
  · simp only [GrS.nop, hl]; omega
  · simp only [GrS.nop, hl]; omega
  · simp only [GrS.nop]; omega
  · simp only [GrS.nop] at hy ⊢
    rcases List.mem_cons.1 (hi.subset hy) with rfl | hy
    · show x ≤ x + step; omega
    · exact f3 y hy
  · simp only [GrS.nop] at hy
    rcases List.mem_cons.1 (hi.subset hy) with rfl | hy
    · show -9223372036854775808 ≤ x + step ∧ x + step ≤ 9223372036854775807
      omega
    · exact h.rng y (by rw [e]; exact List.mem_cons_of_mem _ hy)
  · simp only [GrS.rank, GrS.nop, e, hl, List.length_cons]; omega
theorem GrP.round {L0 : Nat} {s : GrS} {S' : List (Int × Int)} {x p : Int} {sn : Nat} {sla : Int} (h : GrP L0 s) (hr : InOrder (ahK (fun x : Int => x)) s.S) (e : s.S = (x, p) :: S') (hn : s.n = sn) (hl : s.last = sla) :
    decide (x < sla) = false ∧ decide (200 < ((sn : Int) + 1)) = false ∧ wrap64 ((sn : Int) + 1) = (sn : Int) + 1 ∧ (s.nop x).S.length ≤ 1000 ∧ 0 ≤ (s.nop x).puts ∧ (s.nop x).puts ≤ 1000 ∧ -9223372036854775808 ≤ x := by
  obtain ⟨f1, f2, f3⟩ := h.first hr e
  have hc := h.cnt
  have hp := h.puts
  rw [e] at hc
  simp only [List.length_cons] at hc
  subst hn hl
  have h150 : s.n ≤ 150 := by omega
  refine ⟨decide_eq_false (by omega), decide_eq_false (by omega), by unfold wrap64; omega, ?_, ?_, ?_, f2.1⟩
  · simp only [GrS.nop, e, List.tail_cons]; omega
  · simp only [GrS.nop]; omega
  · simp only [GrS.nop]; omega
/-- Drain's promise for such a caller. -/
theorem grC {b L0 : Nat} {k : GrB} {step : Int} {w : World} (hk : k.Ok w) :
    DrainCZ (fun x : Int => x) 22 b k.h k.B GrS.own GrS.l GrS.puts GrS.rank (fun s W => GrH b k step w s W ∧ GrP L0 s) (fun s x W => GrH b k step w s.pop W ∧ GrP L0 s ∧ InOrder (ahK (fun x : Int => x)) s.S ∧ ∃ p S', s.S = (x, p) :: S') (fun s s' => s'.rank < s.rank) (fun s _ => s.S = []) where
  heap := fun s W h => h.1.heap
  box := fun s W h => by have := cell_of_row W k.h 0 _ _ _ h.1.ptr; simpa using this
  rec0 := fun s W h => ⟨fun hm => (h.1.own _ hm).2.2.2.2.2.2.2.1 rfl, fun hm => (h.1.own _ hm).2.2.2.2.2.2.2.2 rfl⟩
  few := fun s W h => by
    have h1 := h.1.rep.len
    have h2 := h.2.cnt
    omega
  step := fun s W W' h hl hb hh => by
    obtain ⟨hH, hP⟩ := h
    have hlen := hH.rep.len
    cases e : s.S with
    | nil =>
      rw [e] at hlen
      exact absurd (List.eq_nil_of_length_eq_zero hlen.symm) hl
    | cons x S' =>
      have hr := hH.rep
      rw [e] at hr
      obtain ⟨r1, r2⟩ := hr.take
      refine ⟨?_, hP, by rw [← e]; exact hH.rep.ord, x.2, S', by rw [r1]⟩
      have := hH.turn hk (own' := s.own) hb hh r2 (fun j hj => .inl hj) (.inl rfl)
      have e2 : s.pop = { s with own := s.own, l := takeL' (ahK (fun x : Int => x)) s.l, S := S', puts := s.puts } := by unfold GrS.pop; rw [e]; rfl
      rw [e2]; exact this
  done := fun s W W' h hl hb hh => by
    obtain ⟨hH, hP⟩ := h
    have hlen := hH.rep.len
    have hl0 : s.l = [] := hl
    have h1 := hH.turn hk (own' := s.own) (l' := []) (S' := s.S) (puts' := s.puts) hb hh (by have := hH.rep; rw [hl0] at this; exact this) (fun j hj => .inl hj) (.inl rfl)
    refine ⟨s, ⟨?_, hP⟩, ?_⟩
    · have e2 : s = { s with own := s.own, l := [], S := s.S, puts := s.puts } := by rw [← hl0]
      rw [e2]; exact h1
    · rw [hl0] at hlen
      exact List.eq_nil_of_length_eq_zero hlen
  rank := fun s s' h => h
theorem grow_le {n : Nat} (h : n + 1 ≤ 50) : decide (((n : Int) + 1) ≤ 50) = true := decide_eq_true (by omega)
theorem grow_gt {n : Nat} (h : ¬ n + 1 ≤ 50) : decide (((n : Int) + 1) ≤ 50) = false := decide_eq_false (by omega)
theorem grow_sum {x step : Int} (h : -9223372036854775808 ≤ x) (h1 : x < 1152921504606846976) (h2 : 0 ≤ step) (h3 : step ≤ 8) : wrap64 (x + step) = x + step := by unfold wrap64; omega
theorem results_cell1 {fn : Func} {p : Tmp} {ty : TypeId} (h : fn.results = #[.cell p ty]) (tmps : Array Value) (P : Program) (w : World) :
    (results fn tmps).run P w = ((asAddr (tmps.getD p undef)).run P w).andThen fun a w₁ => ((loadVar ty a).run P w₁).andThen fun v w₂ => .ok v w₂ := by
  simp only [results, h]
  simp [Sem.run_bind, Result.andThen]
  cases Sem.run P (asAddr (tmps[p]?.getD undef)) w with
  | ok a w1 => simp only; cases Sem.run P (loadVar ty a) w1 <;> rfl
  | halt h1 w1 => rfl
theorem i64_and7 (n : Int) : bits .and .i64 n 7 = n % 8 := by
  have h127 : (BitVec.ofInt 64 7).toNat = 2 ^ 3 - 1 := by decide
  have key : (BitVec.ofInt 64 n &&& BitVec.ofInt 64 7).toNat = (n % ((2 ^ 64 : Nat) : Int)).toNat % 2 ^ 3 := by
    rw [BitVec.toNat_and, BitVec.toNat_ofInt, h127, Nat.and_two_pow_sub_one_eq_mod]
  show IntKind.i64.wrap ((BitVec.ofInt 64 n &&& BitVec.ofInt 64 7).toNat : Nat) = n % 8
  rw [key, IntKind.wrap_i64]
  omega
theorem step_i64 (n : Int) : ∃ q : Int, 0 ≤ q ∧ q ≤ 8 ∧ wrap64 (1 + bits .and .i64 n 7) = q := by
  refine ⟨1 + n % 8, by omega, by omega, ?_⟩
  rw [i64_and7]
  unfold wrap64
  omega
theorem start_two {w w1 : World} {a c : Array Value} {t u : TypeId} (hb : Below ((w.alloc (.cells a t)).alloc (.cells c u)).heap.size ((w.alloc (.cells a t)).alloc (.cells c u)) w1) :
    w.heap.size + 2 ≤ w1.heap.size ∧ w1.heap[w.heap.size]? = some (.cells a t (0, 0)) ∧ w1.heap[w.heap.size + 1]? = some (.cells c u (0, 0)) ∧ Below w.heap.size w w1 := by
  have h1 := hb.size
  simp only [World.size_alloc] at h1
  refine ⟨h1, (hb.block _ (by simp; omega)).trans ((heap_alloc_old' _ _ _ (by simp)).trans (World.alloc_heap_new w _)), (hb.block _ (by simp)).trans ?_, (((Below.refl w.heap.size w).alloc (Nat.le_refl _) _).alloc (by simp) _).trans (hb.mono (by simp; omega))⟩
  have := World.alloc_heap_new (w.alloc (.cells a t)) (.cells c u)
  rw [World.size_alloc] at this
  exact this
theorem ofS_mem {key : Int → Int} : ∀ (n : Nat) (xs : List Int), xs.length = n → ∀ y ∈ ofS key xs, y.1 ∈ xs
  | 0, xs, h => by
    obtain rfl := List.eq_nil_of_length_eq_zero h
    intro y hy; cases hy
  | n + 1, xs, h => by
    rcases List.eq_nil_or_concat xs with rfl | ⟨ys, x, rfl⟩
    · cases h
    · intro y hy
      rw [List.concat_eq_append] at hy h ⊢
      rw [ofS_snoc] at hy
      rcases List.mem_cons.1 ((ins_perm key (x, (ys.length : Int) + 1) (ofS key ys)).subset hy) with rfl | hy
      · simp
      · exact List.mem_append_left _ (ofS_mem n ys (by simpa using h) y hy)
end Go.Proofs.Ytpdncgjepfgnjaa
