/- For whatever row of steps, with the power going at any byte of each of them, law WholeJournal answers true: a journal that is opened anew behind each has all or nothing of the step that was cut, and all of the others. No condition. -/
import Derived.Test.YtpllbojmonfeiaaTopW
import Derived.Test.YtpllbojmonfeiaaRefF
import Derived.Test.YtpllbojmonfeiaaOpen
namespace Go.Proofs.Ytpllbojmonfeiaa.wholeJournal
open Go.ChangeShapes Go.WideShapes Go.ChangeAt Go.RowKit Go.Proofs.Ytpllbojmonfeiaa Go.Proofs.Ytpllbojmonfeiaa.SumM
set_option linter.unusedVariables false
attribute [local go_sem] Oper.semAt_some
theorem i64_andK (n : Int) (k : Nat) (m : Int) (hm : (BitVec.ofInt 64 m).toNat = 2 ^ k - 1) (hk : k ≤ 62) : bits .and .i64 n m = n % (2 ^ k : Nat) := by
  have h64 : (2 : Nat) ^ k ≤ 2 ^ 62 := Nat.pow_le_pow_right (by decide) hk
  have hd : (2 : Nat) ^ k ∣ 2 ^ 64 := Nat.pow_dvd_pow 2 (by omega)
  have hp := Nat.two_pow_pos k
  have key : (BitVec.ofInt 64 n &&& BitVec.ofInt 64 m).toNat = (n % ((2 ^ 64 : Nat) : Int)).toNat % 2 ^ k := by
    rw [BitVec.toNat_and, BitVec.toNat_ofInt, hm, Nat.and_two_pow_sub_one_eq_mod]
  show IntKind.i64.wrap ((BitVec.ofInt 64 n &&& BitVec.ofInt 64 m).toNat : Nat) = _
  rw [key]
  have h0 : 0 ≤ n % ((2 ^ 64 : Nat) : Int) := Int.emod_nonneg _ (by decide)
  have h1 : (((n % ((2 ^ 64 : Nat) : Int)).toNat % 2 ^ k : Nat) : Int) = n % ((2 ^ k : Nat) : Int) := by
    rw [Int.natCast_emod, Int.toNat_of_nonneg h0]
    exact Int.emod_emod_of_dvd n (Int.natCast_dvd_natCast.2 hd)
  rw [h1, IntKind.wrap_i64]
  have h2 := Int.emod_nonneg n (show ((2 ^ k : Nat) : Int) ≠ 0 by omega)
  have h3 := Int.emod_lt_of_pos n (show (0 : Int) < ((2 ^ k : Nat) : Int) by omega)
  omega
theorem and4095 (a : Int) : ∃ t : Nat, bits .and .i64 a 4095 = (t : Int) ∧ t < 4096 := ⟨(a % 4096).toNat, by rw [i64_andK a 12 4095 (by decide) (by decide)]; omega, by omega⟩
theorem sum_take_le : ∀ (l : List Nat) (k : Nat), (l.take k).sum ≤ l.sum
  | [], k => by simp
  | x :: xs, 0 => by simp
  | x :: xs, k + 1 => by
    have := sum_take_le xs k
    simp only [List.take_succ_cons, List.sum_cons]; omega
theorem heavy_le {a n : Nat} (ha : a < 127) (hn : n ≤ 20000) : heavyN (a + 1) n ≤ n + 58 := by
  have h1 : (uv (a + 1)).length = 1 := by rw [uv_lt (by omega)]; rfl
  have hp : piecesN n ≤ 5 := by unfold piecesN; split <;> omega
  have h2 : (uv (piecesN n)).length = 1 := by rw [uv_lt (by omega)]; rfl
  unfold heavyN headB
  rw [List.length_append, h1, h2]
  omega
theorem grown_self (W : World) (r : Option Nat) : W.grownBy W r := ⟨rfl, rfl, rfl, Nat.le_refl _, fun _ _ _ => rfl⟩
/-- A row of rows that is one's own, its rows whosoever's. -/
theorem parts_row {n : Nat} {W : World} {rv : Value} {ys : List CX} (h3 : W.ownsRow n yssT 1 rv ys.length (ys.map Prod.snd)) (h4 : ∀ y ∈ ys, Sl encY W.heap.size W y.2 y.1) : Parts W.heap.size W rv (ys.map Prod.fst) := by
  rcases Nat.eq_zero_or_pos ys.length with h0 | h0
  · obtain ⟨a, c, hv⟩ := own_form h3
    rw [h0] at hv
    obtain rfl := List.eq_nil_of_length_eq_zero h0
    exact .inl ⟨rfl, a, c, hv⟩
  · rcases h3.2 with ⟨_, e⟩ | ⟨g, cap, cur, hv, hg, hcur, _⟩
    · omega
    · refine .inr ⟨g, 0, cap, by rw [List.length_map]; exact hv, (Array.getElem?_eq_some_iff.1 hcur).1, fun j l hj => ?_⟩
      rw [List.getElem?_map] at hj
      cases hy : ys[j]? with
      | none => rw [hy] at hj; cases hj
      | some y =>
        rw [hy] at hj
        cases hj
        rw [hv] at h3
        obtain ⟨g', hg', hc'⟩ := own_cell h3 (i := j) (u := y.2) (by rw [List.getElem?_map, hy]; rfl)
        cases hg'
        exact ⟨y.2, by rw [Nat.zero_add]; exact hc', h4 y (List.mem_of_getElem? hy)⟩
theorem kps_up {w W : World} {sv : Value} {xs : List KpS} (hb : Below w.heap.size w W) (h : Kps w.heap.size w sv xs) : Kps W.heap.size W sv xs := (Kps.below hb h).mono hb.size
/-- Are they the same? They are. -/
theorem kept_same {n base : Nat} {A : List Nat} {W : World} {sv rv sv2 rv2 : Value} {S : List Nat} {R : List (List Nat)} (h : HasAt n W sv rv S R) (h2 : NowK W base A sv2 rv2 S R) (hf : FewL S R) :
    Calls Try.prog 27 #[kpV sv rv, kpV sv2 rv2] W fun e w' => e = .returned (.bool true) ∧ Below W.heap.size W w' := by
  have hS := Sl.of_owns h.1
  have hP := recs_parts h.2
  obtain ⟨ys, y1, y2, y3⟩ := h2.rows
  have hP2 := parts_row y2 (fun y hy => (y3 y hy).1)
  rw [y1] at hP2
  have hS2 := h2.sl
  obtain ⟨a1, c1, rfl⟩ := hS.form
  obtain ⟨a3, c3, rfl⟩ := hP.form
  obtain ⟨a2, c2, rfl⟩ := hS2.form
  obtain ⟨a4, c4, rfl⟩ := hP2.form
  have h := ksame_any a1 a2 S.length c1 S.length c2 a3 a4 R.length c3 R.length c4 S S R R W hS hS2 hP hP2 hf.1 hf.1 hf.2.1 hf.2.1 hf.2.2 hf.2.2
  rw [show (decide (S = S) && decide (R = R)) = true from by simp] at h
  exact h
theorem kept_st {w W : World} {own : List Nat} {jb b : Nat} {D : DevS} {r a c f : Nat} (h : St w W own jb b D r a c f) :
    Calls Try.prog 28 #[.pointer (some ⟨jb, 0, none⟩)] W fun e W' => ∃ sv rv, e = .returned (kpV sv rv) ∧ HasAt W.heap.size W' sv rv (snapL (D.row (r : Nat))) (recsL (D.row (r : Nat))) ∧ Below W.heap.size W W' := by
  obtain ⟨x, y, d⟩ := h.dev
  exact kept_any W d h.jrn
/-- The loop over the lengths. -/
def LenI (w : World) (l0 : List KpS) (k : Nat) (wr : World) : Prop := (∀ x ∈ l0.take k, x.data.length ≤ 4096) ∧ Below w.heap.size w wr
/-- Between two steps. -/
def WI (w : World) (jb b nb B K : Nat) (wr : World) : Prop := ∃ own D r a c f S R sv rv, St w wr own jb b D r a c f ∧ D.cap = 12000 ∧ snapL (D.row ((r : Nat) : Int)) = S ∧ recsL (D.row ((r : Nat) : Int)) = R ∧
  wr.heap[nb]? = some (.cells (kpC sv rv) kpT (0, 0)) ∧ NowK wr (nb + 1) (nb :: jb :: own) sv rv S R ∧ nb ∉ jb :: own ∧ f ≤ B ∧ a ≤ K
theorem take_sum_le {l : List KpS} {k : Nat} (h : ∀ x ∈ l.take k, x.data.length ≤ 4096) : ((l.take k).map fun x => x.data.length).sum ≤ 4096 * k := by
  have h1 : ∀ (m : List KpS), (∀ x ∈ m, x.data.length ≤ 4096) → (m.map fun x => x.data.length).sum ≤ 4096 * m.length := by
    intro m
    induction m with
    | nil => intro _; simp
    | cons x xs ih =>
      intro hm
      have h2 := ih (fun y hy => hm y (by simp [hy]))
      have h3 := hm x (by simp)
      simp only [List.map_cons, List.sum_cons, List.length_cons]; omega
  have h2 := h1 _ h
  have h3 : (l.take k).length ≤ k := by rw [List.length_take]; omega
  omega
/-- In a step, before it is taken. -/
def WA (w : World) (jb b nb ob : Nat) (opc : Array Value) (r a c f : Nat) (S : List Nat) (R : List (List Nat)) (sv rv : Value) (wx : World) : Prop := ∃ own D, St w wx own jb b D r a c f ∧ D.cap = 12000 ∧ snapL (D.row ((r : Nat) : Int)) = S ∧ recsL (D.row ((r : Nat) : Int)) = R ∧
  wx.heap[nb]? = some (.cells (kpC sv rv) kpT (0, 0)) ∧ NowK wx (nb + 1) (nb :: jb :: own) sv rv S R ∧ nb ∉ jb :: own ∧ wx.heap[ob]? = some (.cells opc 52 (0, 0)) ∧ ob ∉ nb :: jb :: own
theorem not_more {own own' : List Nat} {jb k : Nat} {W : World} (h : k ∉ jb :: own) (hlt : k < W.heap.size) (hs : ∀ k ∈ own', k ∈ own ∨ W.heap.size ≤ k) : k ∉ jb :: own' := fun hm => by
  rcases List.mem_cons.1 hm with h1 | h1
  · exact h (by rw [h1]; exact List.mem_cons_self ..)
  · rcases hs k h1 with h2 | h2
    · exact h (List.mem_cons_of_mem _ h2)
    · omega
theorem nowk_but_to {W W' : World} {base : Nat} {A A' B : List Nat} {sv rv : Value} {S : List Nat} {R : List (List Nat)} (h : NowK W base A sv rv S R) (hb : But B W W') (hBA : ∀ k ∈ B, k ∈ A ∨ W.heap.size ≤ k) (hAB : ∀ k ∈ A', k ∈ A ∨ W.heap.size ≤ k) : NowK W' base A' sv rv S R := by
  have hb' : But A W W' := hb.more hBA
  obtain ⟨ys, y1, y2, y3⟩ := h.rows
  exact ⟨h.sl.but hb' h.so, h.so.to h.sl hAB, ⟨ys, y1, own_butG y2 hb' h.ro, fun y hy => ⟨(y3 y hy).1.but hb' (y3 y hy).2, (y3 y hy).2.to (y3 y hy).1 hAB⟩⟩, (h.to hAB).ro⟩
theorem WA.to_cut {w W W' : World} {jb b nb ob : Nat} {opc : Array Value} {r a c f : Nat} {S : List Nat} {R : List (List Nat)} {sv rv : Value} {own own' : List Nat} {D D' : DevS} (_h : WA w jb b nb ob opc r a c f S R sv rv W)
    (h1 : St w W own jb b D r a c f) (h2 : D.cap = 12000) (h3 : snapL (D.row ((r : Nat) : Int)) = S) (h4 : recsL (D.row ((r : Nat) : Int)) = R) (h5 : W.heap[nb]? = some (.cells (kpC sv rv) kpT (0, 0))) (h6 : NowK W (nb + 1) (nb :: jb :: own) sv rv S R) (h7 : nb ∉ jb :: own) (h8 : W.heap[ob]? = some (.cells opc 52 (0, 0))) (h9 : ob ∉ nb :: jb :: own)
    (q1 : St w W' own' jb b D' r a c f) (q2 : But own W W') (q3 : ∀ k ∈ own', k ∈ own ∨ W.heap.size ≤ k) (e1 : D'.cap = D.cap) (e2 : D'.row ((r : Nat) : Int) = D.row ((r : Nat) : Int)) (e3 : True = True) : WA w jb b nb ob opc r a c f S R sv rv W' := by
  have hnlt := (Array.getElem?_eq_some_iff.1 h5).1
  have holt := (Array.getElem?_eq_some_iff.1 h8).1
  have hm : ∀ k ∈ nb :: jb :: own', k ∈ nb :: jb :: own ∨ W.heap.size ≤ k := fun k hk => by
    rcases List.mem_cons.1 hk with h | h
    · exact .inl (by rw [h]; exact List.mem_cons_self ..)
    · rcases List.mem_cons.1 h with h | h
      · exact .inl (by rw [h]; exact List.mem_cons_of_mem _ (List.mem_cons_self ..))
      · rcases q3 k h with h | h
        · exact .inl (List.mem_cons_of_mem _ (List.mem_cons_of_mem _ h))
        · exact .inr h
  refine ⟨own', D', q1, e1.trans h2, by rw [e2]; exact h3, by rw [e2]; exact h4, (q2.block nb hnlt (fun h => h7 (List.mem_cons_of_mem _ h))).trans h5, nowk_but_to h6 q2 (fun k hk => ?_) hm, not_more h7 hnlt q3, (q2.block ob holt (fun h => h9 (List.mem_cons_of_mem _ (List.mem_cons_of_mem _ h)))).trans h8, fun h => ?_⟩
  · exact .inl (List.mem_cons_of_mem _ (List.mem_cons_of_mem _ hk))
  · rcases hm ob h with h | h
    · exact h9 h
    · omega
/-- What the switch leaves: the journal has what comes next, or the power has gone and what was is still to be had. -/
def SWK (w : World) (b nb xb B K : Nat) (jv g : Value) (wr : World) : Prop :=
  (∃ jb own D r a c f S R svN rvN sv rv, g = .int .i64 0 ∧ jv = .pointer (some ⟨jb, 0, none⟩) ∧ St w wr own jb b D r a c f ∧ D.cap = 12000 ∧ snapL (D.row ((r : Nat) : Int)) = S ∧ recsL (D.row ((r : Nat) : Int)) = R ∧
    wr.heap[nb]? = some (.cells (kpC svN rvN) kpT (0, 0)) ∧ wr.heap[xb]? = some (.cells (kpC sv rv) kpT (0, 0)) ∧ NowK wr (nb + 1) (xb :: nb :: jb :: own) sv rv S R ∧ nb ∉ jb :: own ∧ xb ∉ jb :: own ∧ f ≤ B ∧ a ≤ K) ∨
  (∃ own D r a c f S R sv rv svX rvX, g = .int .i64 30 ∧ LivAt w wr own b D r a c f S R ∧ D.cap = 12000 ∧
    wr.heap[nb]? = some (.cells (kpC sv rv) kpT (0, 0)) ∧ wr.heap[xb]? = some (.cells (kpC svX rvX) kpT (0, 0)) ∧ NowK wr (nb + 1) (xb :: nb :: own) sv rv S R ∧ nb ∉ own ∧ xb ∉ own ∧ f ≤ B ∧ a ≤ K)
theorem now_sub {W : World} {base : Nat} {A B : List Nat} {sv rv : Value} {S : List Nat} {R : List (List Nat)} (h : NowK W base A sv rv S R) (hs : ∀ k ∈ B, k ∈ A) : NowK W base B sv rv S R := h.to fun k hk => .inl (hs k hk)
theorem cons2 {x n z : Nat} {own own' : List Nat} (hs : ∀ k ∈ own', k ∈ own ∨ z ≤ k) : ∀ k ∈ x :: n :: own', k ∈ x :: n :: own ∨ z ≤ k := fun k hk => by
  simp only [List.mem_cons] at hk ⊢
  rcases hk with h | h | h
  · exact .inl (.inl h)
  · exact .inl (.inr (.inl h))
  · rcases hs k h with h1 | h1
    · exact .inl (.inr (.inr h1))
    · exact .inr h1
theorem cons1 {x z : Nat} {own own' : List Nat} (hs : ∀ k ∈ own', k ∈ own ∨ z ≤ k) : ∀ k ∈ x :: own', k ∈ x :: own ∨ z ≤ k := fun k hk => by
  simp only [List.mem_cons] at hk ⊢
  rcases hk with h | h
  · exact .inl (.inl h)
  · rcases hs k h with h1 | h1
    · exact .inl (.inr h1)
    · exact .inr h1
theorem drop_j {x n j z : Nat} {own own' : List Nat} (hs : ∀ k ∈ own', k ∈ own ∨ z ≤ k) : ∀ k ∈ x :: n :: own', k ∈ x :: n :: j :: own ∨ z ≤ k := fun k hk => by
  rcases cons2 (x := x) (n := n) hs k hk with h | h
  · simp only [List.mem_cons] at h ⊢
    rcases h with h | h | h
    · exact .inl (.inl h)
    · exact .inl (.inr (.inl h))
    · exact .inl (.inr (.inr (.inr h)))
  · exact .inr h
theorem off_low {w : World} {sv : Value} {l A : List Nat} (h : Sl encY w.heap.size w sv l) (hA : ∀ k ∈ A, w.heap.size ≤ k) : Off A sv := fun ad n c e hn hm => by
  have h1 := sl_lt h ad n c e hn
  have := hA _ hm
  omega
/-- A struct of two cells that is stored cell by cell. -/
def setK (W : World) (xb : Nat) (sv rv : Value) : World := (W.setCell ⟨xb, 0, none⟩ sv).setCell ⟨xb, 1, none⟩ rv
theorem setK_but (W : World) (xb : Nat) (sv rv : Value) : But [xb] W (setK W xb sv rv) := by
  unfold setK
  exact ((But.refl _ _).set (by simp) _).set (by simp) _
theorem setK_heap {W : World} {xb : Nat} {sv rv sv2 rv2 : Value} (h : W.heap[xb]? = some (.cells (kpC sv2 rv2) kpT (0, 0))) : (setK W xb sv rv).heap[xb]? = some (.cells (kpC sv rv) kpT (0, 0)) := by
  unfold setK
  have h0 := heap_setCell_same (W) xb 0 _ kpT sv h
  have h1 := heap_setCell_same (_) xb 1 _ kpT rv h0
  refine h1.trans ?_
  simp [kpC]
/-- Between a step and what is made of it: next is what the journal has. -/
def KNK (w : World) (b nb xb B K : Nat) (jv : Value) (wr : World) : Prop :=
  ∃ jb own D r a c f S R svN rvN sv rv, jv = .pointer (some ⟨jb, 0, none⟩) ∧ St w wr own jb b D r a c f ∧ D.cap = 12000 ∧ snapL (D.row ((r : Nat) : Int)) = S ∧ recsL (D.row ((r : Nat) : Int)) = R ∧
    wr.heap[nb]? = some (.cells (kpC svN rvN) kpT (0, 0)) ∧ wr.heap[xb]? = some (.cells (kpC sv rv) kpT (0, 0)) ∧ NowK wr (nb + 1) (xb :: nb :: jb :: own) sv rv S R ∧ nb ∉ jb :: own ∧ xb ∉ jb :: own ∧ f ≤ B ∧ a ≤ K
/-- Behind a step whose power went: what was is still to be had. -/
def KDK (w : World) (b nb xb B K : Nat) (wr : World) : Prop :=
  ∃ own D r a c f S R sv rv svX rvX, LivAt w wr own b D r a c f S R ∧ D.cap = 12000 ∧ D.down = false ∧ D.cap ≤ D.left ∧
    wr.heap[nb]? = some (.cells (kpC sv rv) kpT (0, 0)) ∧ wr.heap[xb]? = some (.cells (kpC svX rvX) kpT (0, 0)) ∧ NowK wr (nb + 1) (xb :: nb :: own) sv rv S R ∧ nb ∉ own ∧ xb ∉ own ∧ f ≤ B ∧ a ≤ K
def RSK (w : World) (b nb xb B K : Nat) (jv g : Value) (wr : World) : Prop := (g = .int .i64 0 ∧ KNK w b nb xb B K jv wr) ∨ (g = .int .i64 30 ∧ KDK w b nb xb B K wr)
theorem KNK.step {w W W' : World} {b nb xb B K jb : Nat} {own own' : List Nat} {D D' : DevS} {r a c f : Nat} {S : List Nat} {R : List (List Nat)} {svN rvN sv rv : Value} (h2 : D.cap = 12000) (h3 : snapL (D.row ((r : Nat) : Int)) = S) (h4 : recsL (D.row ((r : Nat) : Int)) = R)
    (h5 : W.heap[nb]? = some (.cells (kpC svN rvN) kpT (0, 0))) (h6 : W.heap[xb]? = some (.cells (kpC sv rv) kpT (0, 0))) (h7 : NowK W (nb + 1) (xb :: nb :: jb :: own) sv rv S R) (h8 : nb ∉ jb :: own) (h9 : xb ∉ jb :: own) (h10 : f ≤ B) (h11 : a ≤ K)
    (q1 : St w W' own' jb b D' r a c f) (q2 : But own W W') (q3 : ∀ k ∈ own', k ∈ own ∨ W.heap.size ≤ k) (e1 : D'.cap = D.cap) (e2 : D'.row ((r : Nat) : Int) = D.row ((r : Nat) : Int)) : KNK w b nb xb B K (.pointer (some ⟨jb, 0, none⟩)) W' := by
  have hnlt := (Array.getElem?_eq_some_iff.1 h5).1
  have hxlt := (Array.getElem?_eq_some_iff.1 h6).1
  exact ⟨jb, own', D', r, a, c, f, S, R, _, _, _, _, rfl, q1, e1.trans h2, by rw [e2]; exact h3, by rw [e2]; exact h4, (q2.block nb hnlt (fun h => h8 (List.mem_cons_of_mem _ h))).trans h5, (q2.block xb hxlt (fun h => h9 (List.mem_cons_of_mem _ h))).trans h6, nowk_but_to h7 q2 (fun k hk => .inl (List.mem_cons_of_mem _ (List.mem_cons_of_mem _ (List.mem_cons_of_mem _ hk)))) (cons2 (cons1 q3)), not_more h8 hnlt q3, not_more h9 hxlt q3, h10, h11⟩
theorem KDK.step {w W W' : World} {b nb xb B K : Nat} {own own' : List Nat} {D D' : DevS} {r a c f : Nat} {S : List Nat} {R : List (List Nat)} {sv rv svX rvX : Value} (h2 : D.cap = 12000)
    (h5 : W.heap[nb]? = some (.cells (kpC sv rv) kpT (0, 0))) (h6 : W.heap[xb]? = some (.cells (kpC svX rvX) kpT (0, 0))) (h7 : NowK W (nb + 1) (xb :: nb :: own) sv rv S R) (h8 : nb ∉ own) (h9 : xb ∉ own) (h10 : f ≤ B) (h11 : a ≤ K)
    (q1 : LivAt w W' own' b D' r a c f S R) (q2 : But own W W') (q3 : ∀ k ∈ own', k ∈ own ∨ W.heap.size ≤ k) (e1 : D'.cap = D.cap) (e2 : D'.down = false) (e3 : D'.left = 9223372036854775807) : KDK w b nb xb B K W' := by
  have hnlt := (Array.getElem?_eq_some_iff.1 h5).1
  have hxlt := (Array.getElem?_eq_some_iff.1 h6).1
  exact ⟨own', D', r, a, c, f, S, R, _, _, _, _, q1, e1.trans h2, e2, by rw [e3, e1, h2]; decide, (q2.block nb hnlt h8).trans h5, (q2.block xb hxlt h9).trans h6, nowk_but_to h7 q2 (fun k hk => .inl (List.mem_cons_of_mem _ (List.mem_cons_of_mem _ hk))) (cons2 q3), jo_more h8 hnlt q3, jo_more h9 hxlt q3, h10, h11⟩
theorem nowk_base {W : World} {base base' : Nat} {A : List Nat} {sv rv : Value} {S : List Nat} {R : List (List Nat)} (h : NowK W base A sv rv S R) (hb : base' ≤ base) : NowK W base' A sv rv S R := by
  obtain ⟨ys, y1, y2, y3⟩ := h.rows
  exact ⟨h.sl, h.so, ⟨ys, y1, own_base y2 hb, y3⟩, h.ro⟩

set_option maxRecDepth 100000 in
set_option maxHeartbeats 2000000 in
theorem walk (w : World) (p0 : Option Addr) (n0 c0 : Nat) (l0 : List KpS) (S0 : Kps w.heap.size w (.slice p0 n0 c0) l0) (b0 : (∀ x ∈ l0, x.Ok) ∧ l0.length ≤ Go.maxLen) :
    Calls Try.prog 6 #[.slice p0 n0 c0] w fun e w' => e = .returned (.bool true) ∧ Below w.heap.size w w' := by
  obtain rfl := S0.len
  have HS := Lib.hid S0
  have HOK := Lib.hid b0.1
  have hmx : l0.length ≤ 9223372036854775807 := by have := b0.2; unfold Go.maxLen at this; omega
  obtain ⟨n, hn⟩ : ∃ n, l0.length = n := ⟨_, rfl⟩
  have HN := Lib.hid hn
  rw [hn] at HS hmx ⊢
  clear hn S0 b0
  obtain ⟨i1, hi1, hy0, hy1, hy2⟩ := info_parts infoB
  go_enter Try.func6, Try.ntmps6
  go_wp2_with fail
  refine (sound_any _).mono ?_
  rintro e w1 ⟨rfl, hb1⟩
  have HB1 := Lib.hid hb1
  clear hb1
  go_wp2_with fail
  go_loopw [3, 18] (fun s i wr => ∃ k : Nat, k ≤ n ∧ i = .int .i64 k ∧ (∃ s' : Int, s = .int .i64 s' ∧ (k ≤ 30 → s' = (((l0.take k).map fun x => x.data.length).sum : Nat))) ∧ LenI w l0 k wr) (fun _ i _ => n - (intOf i).toNat)
  case atStart => exact ⟨0, Nat.zero_le _, rfl, ⟨0, rfl, fun _ => by simp⟩, fun x hx => (by simp at hx), HB1.out⟩
  case round =>
    obtain ⟨k, hk, rfl, ⟨s', rfl, hsum⟩, hL⟩ := hrel
    obtain ⟨wo, hwo⟩ : ∃ wo, wo = wr := ⟨_, rfl⟩
    subst hwo
    have hbo := hL.2
    by_cases hlt : k < n
    · obtain ⟨x, hx⟩ : ∃ x, l0[k]? = some x := ⟨l0[k]'(by rw [HN.out]; exact hlt), List.getElem?_eq_getElem _⟩
      obtain ⟨pb, off, va, vc, rfl, hpb, e0, e1, e2, eS⟩ := HS.out.at_ hx
      have cf0 := (hbo.cell (p := ⟨pb, off + k * 3, none⟩) hpb).trans e0
      have cf1 := (hbo.cell (p := ⟨pb, off + k * 3 + 1, none⟩) hpb).trans e1
      have cf2 := (hbo.cell (p := ⟨pb, off + k * 3 + 2, none⟩) hpb).trans e2
      have hki : (k : Int) < n := by omega
      have hk0 : (0 : Int) ≤ k := by omega
      have hst4 := sum_take (l := l0.map fun x => x.data.length) (k := k) (x := x.data.length) (by rw [List.getElem?_map, hx]; rfl)
      rw [← List.map_take, ← List.map_take] at hst4
      have htk : l0.take (k + 1) = l0.take k ++ [x] := by rw [List.take_add_one, hx]; rfl
      have hle := take_sum_le hL.1
      obtain ⟨q, hq⟩ : ∃ q, x.data.length = q := ⟨_, rfl⟩
      rw [hq] at cf2 hst4
      have HB := Lib.hid hbo
      have HL := Lib.hid hL.1
      have HTK := Lib.hid htk
      have HQ := Lib.hid hq
      have HST := Lib.hid hst4
      have HSUM := Lib.hid hsum
      have hA : Below wo.heap.size wo (wo.alloc (.cells #[.int .i64 x.kind, .int .i64 x.cut, .slice va q vc] 52)) := (Below.refl _ _).alloc (Nat.le_refl _) _
      have HBA := Lib.hid (hbo.trans (hA.mono hbo.size))
      have hle' := Lib.hid hle
      clear hx e0 e1 e2 eS hbo hL hst4 htk hsum hA hq hle HB1
      by_cases h4 : 4096 < q
      · have h4i : (4096 : Int) < q := by omega
        go_wp2_with fail
        go_ret
        exact ⟨rfl, HBA.out⟩
      · have h4i : ¬ (4096 : Int) < q := by omega
        go_wp2_with fail
        go_roundw
        case rel =>
          refine ⟨k + 1, by omega, by go_num, ⟨_, rfl, fun h30 => ?_⟩, fun y hy => ?_, HBA.out⟩
          · rw [HSUM.out (by omega), HST.out]
            have := hle'.out
            first | omega | (unfold wrap64; omega)
          · rw [HTK.out] at hy
            rcases List.mem_append.1 hy with h | h
            · exact HL.out y h
            · simp at h; subst h; rw [HQ.out]; omega
        case measure => simp [intOf]; omega
    · obtain rfl : k = n := by omega
      have hki : ¬ (k : Int) < k := by omega
      have hall : ∀ x ∈ l0, x.data.length ≤ 4096 := fun x hx => hL.1 x (by rw [List.take_of_length_le (by rw [HN.out]; exact Nat.le_refl _)]; exact hx)
      have hsm : k ≤ 30 → s' = ((l0.map fun x => x.data.length).sum : Nat) := fun h => by
        have h2 := hsum h
        rw [List.take_of_length_le (by rw [HN.out]; exact Nat.le_refl _)] at h2
        exact h2
      have HALL := Lib.hid hall
      have HB := Lib.hid hbo
      clear hall hsum hL hbo HB1
      by_cases h30 : 30 < k
      · have h30i : (30 : Int) < k := by omega
        clear hsm
        go_wp2_with fail
        go_ret
        exact ⟨rfl, HB.out⟩
      · have h30i : ¬ (30 : Int) < k := by omega
        have hsv := hsm (by omega)
        clear hsm
        obtain ⟨T, hT⟩ : ∃ T, (l0.map fun x => x.data.length).sum = T := ⟨_, rfl⟩
        rw [hT] at hsv
        subst hsv
        have HT := Lib.hid hT
        clear hT
        by_cases h10 : 10000 < T
        · have h10i : (10000 : Int) < T := by omega
          go_wp2_with fail
          go_ret
          exact ⟨rfl, HB.out⟩
        · have h10i : ¬ (10000 : Int) < T := by omega
          have hwo := HB.out.size
          go_wp2_with fail
          refine (new_any 12000 wo).mono ?_
          rintro e w3 ⟨rfl, d3, hb3⟩
          have hB3 := HB.out.trans (hb3.mono hwo)
          have HNW := Lib.hid (new_st (w := w) hB3 d3 (fun k hk => by simp at hk; omega) rfl rfl rfl (by show 16 ≤ 9223372036854775807; decide))
          have hz3 := hB3.size
          clear hB3 d3 hb3
          go_wp2_with fail
          refine HNW.out.mono ?_
          rintro e w4 (⟨_, rfl, own4, D4, hst4, hf0, hf1, hc4, hl4⟩ | ⟨hc16, _⟩)
          rotate_left
          · exact absurd hc16 (by decide)
          have hcap4 : D4.cap = 12000 := hc4.trans (by decide)
          have hk4 := kept_begin (age := 1) (snap := []) (by decide) (by decide) (fun x hx => by cases hx) (by decide)
          have hs4 : snapL (D4.row ((0 : Nat) : Int)) = [] := by rw [show D4.row ((0 : Nat) : Int) = D4.r0 from rfl, hf0]; exact hk4.2.1
          have hr4 : recsL (D4.row ((0 : Nat) : Int)) = [] := by rw [show D4.row ((0 : Nat) : Int) = D4.r0 from rfl, hf0]; exact hk4.2.2
          obtain ⟨w6, hw6⟩ : ∃ W, w4.alloc (.cells (kpC (.slice none 0 0) (.slice none 0 0)) kpT) = W := ⟨_, rfl⟩
          have hb6 : Below w4.heap.size w4 w6 := by rw [← hw6]; exact (Below.refl _ _).alloc (Nat.le_refl _) _
          have hN6 : w6.heap[w4.heap.size]? = some (.cells (kpC (.slice none 0 0) (.slice none 0 0)) kpT (0, 0)) := by rw [← hw6]; exact World.alloc_heap_new w4 _
          have hlt4 : ∀ k ∈ own4, k < w4.heap.size := fun k hk => by obtain ⟨x, y, d⟩ := hst4.dev; exact d.lt k hk
          have hj4 : w3.heap.size < w4.heap.size := hst4.jrn.lt
          have hWI : WI w w3.heap.size wo.heap.size w4.heap.size 16 1 w6 := ⟨own4, D4, 0, 1, 0, 16, [], [], .slice none 0 0, .slice none 0 0, hst4.below hb6, hcap4, hs4, hr4, hN6, ⟨Sl.nil _ _ _, fun ad n c e => (by cases e), ⟨[], rfl, World.ownsRow_nil _ _ _ _, fun y hy => (by cases hy)⟩, fun g hg => (by cases hg)⟩, fun hm => by
            rcases List.mem_cons.1 hm with h | h
            · omega
            · have := hlt4 _ h; omega, Nat.le_refl _, Nat.le_refl _⟩
          have hwn : w.heap.size ≤ w4.heap.size := hst4.bel.size
          have HWI := Lib.hid hWI
          have HW6 := Lib.hid hw6
          clear hf0 hf1 hc4 hl4 hst4 hk4 hs4 hr4 hcap4 HNW hWI hw6 hb6 hN6 hlt4 HB
          obtain ⟨nb, hnb⟩ : ∃ k, w4.heap.size = k := ⟨_, rfl⟩
          obtain ⟨jb0, hjb0⟩ : ∃ k, w3.heap.size = k := ⟨_, rfl⟩
          obtain ⟨b, hb⟩ : ∃ k, wo.heap.size = k := ⟨_, rfl⟩
          have hbw : w.heap.size ≤ b := by rw [← hb]; exact hwo
          rw [hnb] at HWI hj4 hwn
          rw [hjb0] at HWI hj4
          rw [hb] at HWI
          go_wp2_with fail
          go_loopw [7, 50] (fun jv i wr => ∃ m jb : Nat, m ≤ k ∧ i = .int .i64 m ∧ jv = .pointer (some ⟨jb, 0, none⟩) ∧ WI w jb b nb (16 + ((l0.take m).map fun x => x.data.length).sum + 42 * m) (m + 1) wr) (fun _ i _ => k - (intOf i).toNat)
          case atStart =>
            have e7 := HW6.out
            unfold kpC kpT at e7
            rw [e7]
            exact ⟨0, jb0, Nat.zero_le _, rfl, rfl, by simpa using HWI.out⟩
          case round =>
            obtain ⟨m, jb, hm, rfl, rfl, hP⟩ := hrel
            obtain ⟨wr2, hwr2⟩ : ∃ wo, wo = wr := ⟨_, rfl⟩
            subst hwr2
            by_cases hlt2 : m < k
            rotate_left
            · obtain rfl : m = k := by omega
              have hmi : ¬ (m : Int) < m := by omega
              obtain ⟨_, _, _, _, _, _, _, _, _, _, hst, _⟩ := hP
              have HBL := Lib.hid hst.bel
              clear hst HWI HW6
              go_wp2_with fail
              go_ret
              exact ⟨rfl, HBL.out⟩
            clear hnb hjb0 hb HWI HW6
            obtain ⟨own, D, r, a, c, f, S, R, sv, rv, hst, hcap, hsn, hrc, hN, hnow, hno, hfB, haB⟩ := hP
            obtain ⟨sa, sc, ra, rc, rfl, rfl⟩ := hnow.form
            obtain ⟨x, hx⟩ : ∃ x, l0[m]? = some x := ⟨l0[m]'(by rw [HN.out]; exact hlt2), List.getElem?_eq_getElem _⟩
            obtain ⟨pb, off, va, vc, rfl, hpb, e0, e1, e2, eS⟩ := HS.out.at_ hx
            have hxm := List.mem_of_getElem? hx
            have hbo := hst.bel
            have cf0 := (hbo.cell (p := ⟨pb, off + m * 3, none⟩) hpb).trans e0
            have cf1 := (hbo.cell (p := ⟨pb, off + m * 3 + 1, none⟩) hpb).trans e1
            have cf2 := (hbo.cell (p := ⟨pb, off + m * 3 + 2, none⟩) hpb).trans e2
            have hmi : (m : Int) < k := by omega
            have hm0 : (0 : Int) ≤ m := by omega
            have hq4 := HALL.out x hxm
            have hst4 := sum_take (l := l0.map fun x => x.data.length) (k := m) (x := x.data.length) (by rw [List.getElem?_map, hx]; rfl)
            have hle := sum_take_le (l0.map fun x => x.data.length) (m + 1)
            rw [HT.out] at hle
            rw [← List.map_take, ← List.map_take] at hst4
            rw [← List.map_take] at hle
            obtain ⟨s0, hs0⟩ : ∃ s0, ((l0.take m).map fun x => x.data.length).sum = s0 := ⟨_, rfl⟩
            obtain ⟨s1, hs1⟩ : ∃ s1, ((l0.take (m + 1)).map fun x => x.data.length).sum = s1 := ⟨_, rfl⟩
            rw [hs0] at hfB hst4
            rw [hs1] at hst4 hle
            have HS1 := Lib.hid hs1
            obtain ⟨kd, ct, dt⟩ := x
            dsimp only at cf0 cf1 cf2 eS hq4 hst4
            have HDB : Hid (Bytes dt) := Lib.hid ⟨by omega, (HOK.out ⟨kd, ct, dt⟩ hxm).data⟩
            obtain ⟨q, hq⟩ : ∃ q, dt.length = q := ⟨_, rfl⟩
            rw [hq] at cf2 eS hq4 hst4
            have HQ := Lib.hid hq
            have hA : Below wr2.heap.size wr2 (wr2.alloc (.cells #[.int .i64 kd, .int .i64 ct, .slice va q vc] 52)) := (Below.refl _ _).alloc (Nat.le_refl _) _
            obtain ⟨wA, hwA⟩ : ∃ wA, wr2.alloc (.cells #[.int .i64 kd, .int .i64 ct, .slice va q vc] 52) = wA := ⟨_, rfl⟩
            have hEA : wA.heap[wr2.heap.size]? = some (.cells #[.int .i64 kd, .int .i64 ct, .slice va q vc] 52 (0, 0)) := by rw [← hwA]; exact World.alloc_heap_new _ _
            rw [hwA] at hA
            have hAz : wr2.heap.size < wA.heap.size := (Array.getElem?_eq_some_iff.1 hEA).1
            have hnz : nb < wr2.heap.size := (Array.getElem?_eq_some_iff.1 hN).1
            have hlo : ∀ g ∈ own, g < wr2.heap.size := fun g hg => by obtain ⟨x, y, d⟩ := hst.dev; exact d.lt g hg
            have hjl := hst.jrn.lt
            have hWA : WA w jb b nb wr2.heap.size #[.int .i64 kd, .int .i64 ct, .slice va q vc] r a c f S R (.slice sa S.length sc) (.slice ra R.length rc) wA :=
              ⟨own, D, hst.below hA, hcap, hsn, hrc, (hA.block nb hnz).trans hN, hnow.but (But.of_below hA) (fun _ h => .inl h), hno, hEA, fun hm => by
                rcases List.mem_cons.1 hm with h | h
                · omega
                · rcases List.mem_cons.1 h with h | h
                  · omega
                  · have := hlo _ h; omega⟩
            have HWA := Lib.hid hWA
            have HWE := Lib.hid hwA
            have HES := Lib.hid eS
            obtain ⟨ob, hob⟩ : ∃ o, wr2.heap.size = o := ⟨_, rfl⟩
            have hnob : nb < ob := by omega
            have cE1 : wA.cell? ⟨wr2.heap.size, 1, none⟩ = some (.int .i64 ct) := cell_of_row wA _ 1 _ _ _ hEA
            clear hx e0 e1 e2 eS hxm hbo hA hwA hst hN hnow hno hcap hsn hrc hs0 hs1 hWA hlo hjl hEA
            go_upto_region 21 with fail
            rw [HWE.out]
            rw [hob] at HWA cE1
            clear HWE hob
            go_upto_if 56 with fail
            go_cut [] from 56 to 62 (fun wx => WA w jb b nb ob #[.int .i64 kd, .int .i64 ct, .slice va q vc] r a c f S R (.slice sa S.length sc) (.slice ra R.length rc) wx)
            case first =>
              by_cases hct : ct ≥ 0
              · have hct1 : decide ((0 : Int) ≤ ct) = true := decide_eq_true hct
                have hct2 : (0 : Int) ≤ ct := hct
                obtain ⟨t, ht, htl⟩ := and4095 ct
                obtain ⟨own, D, hst, h2, h3, h4, h5, h6, h7, h8, h9⟩ := HWA.out
                have HCT := Lib.hid (cut_st hst (t : Int) (by omega))
                have HFIN := Lib.hid (fun (W' : World) (own' : List Nat) (q1 : St w W' own' jb b (cutS D (t : Int)) r a c f) (q2 : But own wA W') (q3 : ∀ k ∈ own', k ∈ own ∨ wA.heap.size ≤ k) => (WA.to_cut ⟨own, D, hst, h2, h3, h4, h5, h6, h7, h8, h9⟩ hst h2 h3 h4 h5 h6 h7 h8 h9 q1 q2 q3 rfl rfl rfl : WA w jb b nb ob #[.int .i64 kd, .int .i64 ct, .slice va q vc] r a c f S R (.slice sa S.length sc) (.slice ra R.length rc) W'))
                clear hst h2 h3 h4 h5 h6 h7 h8 h9 hct
                go_wp2_with fail
                refine HCT.out.mono ?_
                rintro e w5 ⟨rfl, own5, q1, q2, q3⟩
                have HF := Lib.hid (HFIN.out w5 own5 q1 q2 q3)
                clear q1 q2 q3
                go_wp2_with fail
                go_meet
                exact HF.out
              · have hct1 : decide ((0 : Int) ≤ ct) = false := decide_eq_false hct
                have hct2 : ¬ (0 : Int) ≤ ct := hct
                clear hct
                go_wp2_with fail
                go_meet
                exact HWA.out
            case rest =>
              obtain ⟨own, D, hst, hcap, hsn, hrc, hN, hnow, hno, hE, hoo⟩ := hcut
              obtain ⟨xb, hxb⟩ : ∃ x, wc.heap.size = x := ⟨_, rfl⟩
              obtain ⟨wN, hwN⟩ : ∃ W, wc.alloc (.cells (kpC (.slice sa S.length sc) (.slice ra R.length rc)) kpT) = W := ⟨_, rfl⟩
              have hbN : Below wc.heap.size wc wN := by rw [← hwN]; exact (Below.refl _ _).alloc (Nat.le_refl _) _
              have hXN : wN.heap[xb]? = some (.cells (kpC (.slice sa S.length sc) (.slice ra R.length rc)) kpT (0, 0)) := by rw [← hwN, ← hxb]; exact World.alloc_heap_new _ _
              have hNlt : nb < xb := by rw [← hxb]; exact (Array.getElem?_eq_some_iff.1 hN).1
              have hElt : ob < xb := by rw [← hxb]; exact (Array.getElem?_eq_some_iff.1 hE).1
              have hlo : ∀ g ∈ own, g < xb := fun g hg => by rw [← hxb]; obtain ⟨x, y, d⟩ := hst.dev; exact d.lt g hg
              have hjl : jb < xb := by rw [← hxb]; exact hst.jrn.lt
              have hdn := hst.ok.down
              have hXlt : xb < wN.heap.size := (Array.getElem?_eq_some_iff.1 hXN).1
              have hNN := (hbN.block nb (by omega)).trans hN
              have hEN := (hbN.block ob (by omega)).trans hE
              have hnowN : NowK wN (nb + 1) (xb :: nb :: jb :: own) (.slice sa S.length sc) (.slice ra R.length rc) S R := nowk_but_to hnow (But.of_below hbN) (fun _ h => .inl h) (fun k hk => by
                rcases List.mem_cons.1 hk with h | h
                · exact .inr (by omega)
                · exact .inl h)
              have hxo : xb ∉ jb :: own := fun hm => by
                rcases List.mem_cons.1 hm with h | h
                · omega
                · have := hlo _ h; omega
              have kn0 : wc.cell? ⟨nb, 0, none⟩ = some (.slice sa S.length sc) := cell_of_row wc _ 0 _ _ _ hN
              have kn1 : wc.cell? ⟨nb, 1, none⟩ = some (.slice ra R.length rc) := cell_of_row wc _ 1 _ _ _ hN
              have cE0 : wN.cell? ⟨ob, 0, none⟩ = some (.int .i64 kd) := cell_of_row wN _ 0 _ _ _ hEN
              have cE2 : wN.cell? ⟨ob, 2, none⟩ = some (.slice va q vc) := cell_of_row wN _ 2 _ _ _ hEN
              have HST := Lib.hid (hst.below hbN)
              have HNN := Lib.hid hNN
              have HXN := Lib.hid hXN
              have HEN := Lib.hid hEN
              have HNOW := Lib.hid hnowN
              have HNO := Lib.hid hno
              have HXO := Lib.hid hxo
              have HOO := Lib.hid hoo
              have HCAP := Lib.hid hcap
              have HSN := Lib.hid hsn
              have HRC := Lib.hid hrc
              have HLO := Lib.hid hlo
              have HWN := Lib.hid hwN
              have HXB := Lib.hid hxb
              clear HWA cE1 hst hcap hsn hrc hN hnow hno hE hoo hbN hwN hNN hXN hEN hnowN hxo hlo hxb
              go_upto_region 24 with fail
              have e7 := HWN.out
              unfold kpC kpT at e7
              rw [e7, HXB.out]
              clear e7 HWN HXB kn0 kn1
              go_upto_block 4 with fail
              go_cut [7, 13] from 65 to 96 (fun jv g wx => SWK w b nb xb (16 + s1 + 42 * (m + 1)) (m + 2) jv g wx)
              case first =>
                go_upto_if 70 with fail
                go_cut [70] from 71 to 74 (fun cv wx => cv = .bool (decide (kd = 0 ∨ kd = 1 ∨ kd = 2)) ∧ wx = wN)
                case first =>
                  by_cases h0 : kd = 0
                  · have h0b : (kd == (0 : Int)) = true := beq_iff_eq.2 h0
                    have hd : decide (kd = 0 ∨ kd = 1 ∨ kd = 2) = true := decide_eq_true (.inl h0)
                    have HDC := Lib.hid hd
                    clear hd
                    go_wp2_with fail
                    go_meet
                    exact ⟨by rw [HDC.out, h0b], rfl⟩
                  · have h0b : (kd == (0 : Int)) = false := beq_eq_false_iff_ne.2 h0
                    by_cases h1 : kd = 1
                    · have h1b : (kd == (1 : Int)) = true := beq_iff_eq.2 h1
                      have HDC : Hid (decide (kd = 0 ∨ kd = 1 ∨ kd = 2) = true) := Lib.hid (decide_eq_true (.inr (.inl h1)))
                      go_wp2_with fail
                      go_meet
                      exact ⟨by rw [HDC.out], rfl⟩
                    · have h1b : (kd == (1 : Int)) = false := beq_eq_false_iff_ne.2 h1
                      by_cases h2 : kd = 2
                      · have h2b : (kd == (2 : Int)) = true := beq_iff_eq.2 h2
                        have HDC : Hid (decide (kd = 0 ∨ kd = 1 ∨ kd = 2) = true) := Lib.hid (decide_eq_true (.inr (.inr h2)))
                        go_wp2_with fail
                        go_meet
                        exact ⟨by rw [HDC.out], rfl⟩
                      · have h2b : (kd == (2 : Int)) = false := beq_eq_false_iff_ne.2 h2
                        have HDC : Hid (decide (kd = 0 ∨ kd = 1 ∨ kd = 2) = false) := Lib.hid (decide_eq_false (by omega))
                        go_wp2_with fail
                        go_meet
                        exact ⟨by rw [HDC.out], rfl⟩
                case rest =>
                  obtain ⟨rfl, hwc⟩ := hcut
                  rw [hwc]
                  clear hwc
                  have hwx : w.heap.size ≤ xb := by omega
                  have hjw : w.heap.size ≤ jb := HST.out.jl
                  by_cases h012 : kd = 0 ∨ kd = 1 ∨ kd = 2
                  · have hd := decide_eq_true h012
                    rw [hd]
                    clear hd
                    have hS := Sl.below HST.out.bel HES.out
                    have HAP := Lib.hid (append_keep HST.out HSN.out HRC.out va vc dt HDB.out (by rw [HQ.out]; exact hS.mono HST.out.bel.size) (fun h4 => by rw [HQ.out] at h4 ⊢; have := HCAP.out; omega))
                    rw [HQ.out] at HAP
                    clear hS
                    go_wp2_with fail
                    refine HAP.out.mono ?_
                    rintro e w8 ⟨er, own8, rfl, hb8, hs8, hcs⟩
                    have hN8 := (hb8.block nb (by omega) HNO.out).trans HNN.out
                    have hX8 := (hb8.block xb hXlt HXO.out).trans HXN.out
                    have hE8 := (hb8.block ob (by omega) (fun h => HOO.out (List.mem_cons_of_mem _ h))).trans HEN.out
                    have hnow8 : NowK w8 (nb + 1) (xb :: nb :: jb :: own8) (.slice sa S.length sc) (.slice ra R.length rc) S R := nowk_but_to HNOW.out hb8 (fun k h => .inl (List.mem_cons_of_mem _ (List.mem_cons_of_mem _ h))) (cons2 (cons1 hs8))
                    have hno8 := not_more HNO.out (by omega) hs8
                    have hxo8 := not_more HXO.out hXlt hs8
                    have hz8 := hb8.size
                    have hd2 : (er = 0 ∧ ∃ D2, St w w8 own8 jb b D2 r a (c + 1) (f + (q + 7)) ∧ D2.cap = D.cap ∧ snapL (D2.row (r : Nat)) = S ∧ recsL (D2.row (r : Nat)) = R ++ [dt]) ∨ (er = 30 ∧ ∃ D2, LivAt w w8 own8 b D2 r a c f S R ∧ D2.cap = D.cap) := by
                      rcases hcs with ⟨_, h, _⟩ | ⟨h, _, h3⟩ | ⟨h, _, h3⟩
                      · omega
                      · exact .inl ⟨h, by rw [HQ.out] at h3; exact h3⟩
                      · exact .inr ⟨h, h3⟩
                    have HN8 := Lib.hid hN8
                    have HX8 := Lib.hid hX8
                    have HE8 := Lib.hid hE8
                    have HNOW8 := Lib.hid hnow8
                    have HNO8 := Lib.hid hno8
                    have HXO8 := Lib.hid hxo8
                    have HD2 := Lib.hid hd2
                    clear hN8 hX8 hE8 hnow8 hno8 hxo8 hb8 hs8 hcs hd2 HAP
                    go_upto_region 31 with fail
                    have hsz8 : xb < w8.heap.size := by omega
                    have hjb8 : jb < w8.heap.size := by
                      have h1 := HST.out.jrn.lt
                      omega
                    have hL8 : ∀ g ∈ own8, g < w8.heap.size := fun g hg => by
                      rcases HD2.out with ⟨_, D2, h, _⟩ | ⟨_, D2, h, _⟩
                      · obtain ⟨x, y, d⟩ := h.dev; exact d.lt g hg
                      · obtain ⟨x, y, d⟩ := h.dev; exact d.lt g hg
                    have HL8 := Lib.hid hL8
                    have hRl : R.length ≤ 1048576 := by have h := (few_of HST.out.row).2.1; rw [HRC.out] at h; exact h
                    obtain ⟨ysv, hysv⟩ : ∃ ysv : List Value, w8.ownsRow (nb + 1) yssT 1 (.slice ra R.length rc) R.length ysv ∧ ysv.length = R.length ∧ ∃ ys : List CX, ys.map Prod.fst = R ∧ ys.map Prod.snd = ysv ∧ ∀ y ∈ ys, Sl encY w8.heap.size w8 y.2 y.1 ∧ Off (xb :: nb :: jb :: own8) y.2 := by
                      obtain ⟨ys, h2', h3', h4'⟩ := HNOW8.out.rows
                      have hl : ys.length = R.length := by rw [← h2', List.length_map]
                      exact ⟨ys.map Prod.snd, by rw [hl] at h3'; exact h3', by rw [List.length_map, hl], ys, h2', rfl, h4'⟩
                    obtain ⟨hrow8, hyl, hysd⟩ := hysv
                    have HROW8 := Lib.hid hrow8
                    have HYSD := Lib.hid hysd
                    have HYL := Lib.hid hyl
                    clear hrow8 hysd hyl hL8
                    refine region_invV (l := _) (by kernel_rfl) (by decide +kernel) (fun v => { tmps := #[Value.slice (some ⟨pb, off, none⟩) k c0, undef, u2, Value.int IntKind.i64 (T : Int), undef, u5, Value.pointer (some ⟨b, 0, none⟩), Value.pointer (some ⟨jb, 0, none⟩), u8, Value.pointer (some ⟨nb, 0, none⟩), undef, Value.pointer (some ⟨ob, 0, none⟩), Value.pointer (some ⟨xb, 0, none⟩), Value.int IntKind.i64 er, Value.bool true, Value.bool false, Value.slice (some ⟨pb, off, none⟩) k c0, Value.int IntKind.i64 (k : Int), Value.int IntKind.i64 (k : Int), Value.bool false, u20, u21, u22, u23, u24, u25, u26, u27, u28, u29, u30, u31, Value.slice (some ⟨pb, off, none⟩) k c0, Value.int IntKind.i64 (k : Int), Value.bool false, Value.bool false, Value.int IntKind.i64 (T : Int), Value.bool false, Value.bool false, Value.pointer (some ⟨b, 0, none⟩), Value.tuple #[Value.pointer (some ⟨jb0, 0, none⟩), Value.int IntKind.i64 0], Value.pointer (some ⟨b, 0, none⟩), Value.tuple #[Value.pointer (some ⟨jb0, 0, none⟩), Value.int IntKind.i64 0], Value.pointer (some ⟨jb0, 0, none⟩), Value.int IntKind.i64 0, Value.int IntKind.i64 0, Value.bool false, Value.agg #[Value.slice none 0 0, Value.slice none 0 0], Value.slice (some ⟨pb, off, none⟩) k c0, Value.int IntKind.i64 (k : Int), Value.int IntKind.i64 (m : Int), Value.bool true, Value.pointer (some ⟨pb, off + m * 3, none⟩), Value.agg #[Value.int IntKind.i64 kd, Value.int IntKind.i64 ct, Value.slice va q vc], Value.pointer (some ⟨ob, 1, none⟩), Value.int IntKind.i64 ct, u56, u57, u58, u59, u60, u61, Value.agg #[Value.slice sa S.length sc, Value.slice ra R.length rc], Value.pointer (some ⟨ob, 0, none⟩), Value.int IntKind.i64 kd, u65, u66, u67, u68, u69, Value.bool true, u71, u72, u73, Value.pointer (some ⟨jb, 0, none⟩), Value.pointer (some ⟨ob, 2, none⟩), Value.slice va q vc, Value.int IntKind.i64 er, v 0, v 1, v 2, v 3, v 4, v 5, v 6, v 7, v 8, u87, u88, u89, u90, u91, u92, u93, u94, u95, u96, u97, u98, u99, u100, u101, u102, u103, u104, u105, u106, u107, u108, u109, u110, u111, u112, u113, u114, u115, u116, u117, u118, u119, u120, u121, u122, u123, u124, u125, u126, u127, u128, u129, u130, u131, u132, u133, u134, u135], defers := [] }) (NK w8 w8.heap.size xb (.slice sa S.length sc) R.length ysv (.slice va q vc)) (fun i u _ => match i with
                      | 1 => u = .pointer (some ⟨nb, 1, none⟩)
                      | 2 => u = .slice ra R.length rc
                      | 4 => u = .pointer (some ⟨ob, 2, none⟩)
                      | 5 => u = .slice va q vc
                      | 8 => u = .pointer (some ⟨xb, 1, none⟩)
                      | _ => True) (fun _ _ _ => True) (fun i j u w w' _ h _ => h) (fun j => [u78, u79, u80, u81, u82, u83, u84, u85, u86].getD j undef) (NK.drew ⟨Nat.le_refl _, Below.refl _ _, fun _ _ _ => rfl, fun _ => rfl, (fun e => by cases e), (fun e => by cases e), (fun e => by cases e), (fun e => by cases e), (fun e => by cases e), (fun e => by cases e), (fun e => by cases e), (fun e => by cases e)⟩) ?hop ?hend
                    case hop =>
                      simp only [AllDoV]
                      refine ⟨?o0, ?o1, ?o2, ?o3, ?o4, ?o5, ?o6, ?o7, ?o8, ?o9, trivial⟩
                      all_goals intro L v W hG hLf hd Q hQ
                      all_goals simp [Region.binds] at hd
                      all_goals rw [if_pos (show Region.wanted _ _ = true from rfl)]
                      case o0 =>
                        go_wp2
                        exact ⟨_, rfl, trivial, trivial, hG.lit0 hsz8 hLf⟩
                      case o1 =>
                        go_wp2
                        exact ⟨_, rfl, trivial, rfl, hG.upd _ (by decide) (by decide) (by decide) (by decide) (by decide)⟩
                      case o2 =>
                        have hv1 : v 1 = .pointer (some ⟨nb, 1, none⟩) := hd.2
                        have cN : W.cell? ⟨nb, 1, none⟩ = some (.slice ra R.length rc) := cell_of_row W _ 1 _ _ _ ((hG.kp nb (by omega) (by omega)).trans HN8.out)
                        rw [hv1]
                        go_wp2
                        refine ⟨.slice ra R.length rc, ?_, trivial, rfl, hG.upd _ (by decide) (by decide) (by decide) (by decide) (by decide)⟩
                        simp [updV, hv1]
                      case o3 =>
                        obtain ⟨h0, h2, hv2'⟩ := hd
                        have hv2 : v 2 = .slice ra R.length rc := hv2'
                        have hO := hG.o0 h0 hLf
                        have hz := hG.sz
                        rcases HROW8.out.2 with ⟨er0, en0⟩ | ⟨g, cap, cur, ev, hg0, hgh, _⟩
                        · have hl0 : ysv = [] := List.eq_nil_of_length_eq_zero (by rw [HYL.out]; exact en0)
                          have hx2 : v 2 = .slice none 0 0 := by rw [hv2, er0]
                          have hG3 := hG.app3 hsz8 h0 hLf (v 0) (by rw [hl0, en0]; exact hO) (grown_self W _) hG.bel (.inl rfl)
                          have HG3 := Lib.hid hG3
                          clear hl0 er0 en0 hG3 hv2 hv2'
                          refine wpList_append_own_none rfl _ _ 34 rfl w8.heap.size yssT i1 1 Try.underlying34 hi1 (v 0) 0 [] rfl hO hx2 ?_
                          go_wp2
                          first | (refine ⟨v 0, ?_, trivial, trivial, HG3.out⟩; simp [updV]; done) | (refine ⟨v 0, ?_, HG3.out⟩; simp [updV]; done) | (refine ⟨v 0, ?_, HG3.out⟩; simp [updV, hx2]; done)
                        · have hgx : g ≠ xb := fun e => HNOW8.out.ro g (by rw [ev]; rfl) (by rw [e]; exact List.mem_cons_self ..)
                          cases ev
                          have hgs := (Array.getElem?_eq_some_iff.1 hgh).1
                          refine wpList_append_own_at _ rfl _ _ 34 rfl w8.heap.size yssT i1 (.slice none 0 0) 1 24 Try.underlying34 hi1 hy0 hy1 hy2 rfl (by decide) (v 0) 0 [] rfl hO ⟨g, 0, none⟩ R.length rc ysv hv2 (by rw [HYL.out, Nat.mul_one]) (fun j u hj => ?_) (fun u hu => ?_) (by unfold maxLen; omega) (by omega) hz ?_
                          · obtain ⟨g', hg', hc'⟩ := own_cell HROW8.out hj
                            cases hg'
                            have : W.cell? ⟨g, j, none⟩ = some u := (World.cell?_of_block (a := ⟨g, j, none⟩) (hG.kp g hgs hgx)).trans hc'
                            cases j with
                            | zero => simpa [Addr.add] using this
                            | succ j => simpa [Addr.add] using this
                          · obtain ⟨ys, _, rfl, hsl⟩ := HYSD.out
                            obtain ⟨y, hy, rfl⟩ := List.mem_map.1 hu
                            obtain ⟨ya, yc, e⟩ := (hsl y hy).1.form
                            rw [e]; rfl
                          · intro v' W3 q1 q2 _ q3
                            rw [Nat.zero_add, List.nil_append] at q1
                            go_wp2
                            have hG3 := hG.app3 hsz8 h0 hLf v' q1 q2 (hG.bel.grown q2 (Nat.zero_le _) (fun _ _ => Nat.zero_le _)) q3
                            first | (refine ⟨v', ?_, trivial, trivial, hG3⟩; simp [updV, hv2]; done) | (refine ⟨v', ?_, hG3⟩; simp [updV, hv2]; done)
                      case o4 =>
                        go_wp2
                        exact ⟨_, rfl, trivial, rfl, hG.upd _ (by decide) (by decide) (by decide) (by decide) (by decide)⟩
                      case o5 =>
                        have hv4 : v 4 = .pointer (some ⟨ob, 2, none⟩) := hd.2
                        have cE : W.cell? ⟨ob, 2, none⟩ = some (.slice va q vc) := cell_of_row W _ 2 _ _ _ ((hG.kp ob (by omega) (by omega)).trans HE8.out)
                        rw [hv4]
                        go_wp2
                        refine ⟨.slice va q vc, ?_, trivial, rfl, hG.upd _ (by decide) (by decide) (by decide) (by decide) (by decide)⟩
                        simp [updV, hv4]
                      case o6 =>
                        have hv5 : v 5 = .slice va q vc := hd.2
                        rw [hv5]
                        go_wp2
                        refine ⟨.slice (some ⟨W.heap.size, 0, none⟩) 1 1, ?_, trivial, trivial, hG.lit6 hsz8 hLf⟩
                        simp [updV, hv5]
                      case o7 =>
                        have h3 : L 3 = true := hd.1
                        have h6 : L 6 = true := by first | exact hd.2.1 | exact hd.2
                        have hO := hG.o3 h3 hLf
                        obtain ⟨g, hv6, hg0, hgc, _, _⟩ := hG.o6 h6 hLf
                        have hz := hG.sz
                        refine wpList_append_own_at _ rfl _ _ 34 rfl w8.heap.size yssT i1 (.slice none 0 0) 1 24 Try.underlying34 hi1 hy0 hy1 hy2 rfl (by decide) (v 3) R.length ysv rfl hO ⟨g, 0, none⟩ 1 1 [.slice va q vc] hv6 rfl (one_cellK hgc) (by simp [Value.oneCell']) (by unfold maxLen; omega) (by omega) hz ?_
                        intro v' W3 q1 q2 _ q3
                        go_wp2
                        have hG7 := hG.app7 hsz8 h3 h6 hLf v' q1 q2 (hG.bel.grown q2 (Nat.zero_le _) (fun _ _ => Nat.zero_le _))
                        first | (refine ⟨v', ?_, trivial, trivial, hG7⟩; simp [updV, hv6]; done) | (refine ⟨v', ?_, hG7⟩; simp [updV, hv6]; done)
                      case o8 =>
                        go_wp2
                        exact ⟨_, rfl, trivial, rfl, hG.upd _ (by decide) (by decide) (by decide) (by decide) (by decide)⟩
                      case o9 =>
                        have hv8 : v 8 = .pointer (some ⟨xb, 1, none⟩) := hd.1.2
                        have h7 : L 7 = true := hd.2.1
                        obtain ⟨ea, ec, e7⟩ := own_form (hG.o7 h7)
                        have rX := (hG.nx hLf).trans HX8.out
                        have cX : W.cell? ⟨xb, 1, none⟩ = some (.slice ra R.length rc) := cell_of_row W _ 1 _ _ _ rX
                        have fX := frozen_of_row W xb 1 _ _ rX
                        have hG9 := hG.st9 (sv2 := .slice sa S.length sc) HX8.out hsz8 h7 hLf undef
                        rw [e7] at hG9
                        rw [hv8, e7]
                        go_wp2
                        refine ⟨undef, ?_, trivial, trivial, hG9⟩
                        simp [updV, hv8, e7]
                    case hend =>
                      intro L v W hG hv
                      have l7 := (hv 7 (by decide)).1
                      have l9 := (hv 9 (by decide)).1
                      have hR := hG.o7 l7
                      have hXW := hG.x9 l9
                      obtain ⟨ea, ec, e7⟩ := own_form hR
                      rw [e7] at hR hXW
                      have hbt : But [xb] w8 W := ⟨hG.bel.os, hG.bel.tape, hG.bel.output, hG.sz, fun k hk hn => hG.kp k hk (by simpa using hn)⟩
                      have hzW := hG.sz
                      have hNW := (hG.kp nb (by omega) (by omega)).trans HN8.out
                      have hwx1 : ∀ k ∈ [xb], w.heap.size ≤ k := fun k hk => by simp at hk; omega
                      have hox : ∀ k ∈ own8, k ∉ [xb] := fun k hk hm => by simp at hm; subst hm; exact HXO8.out (List.mem_cons_of_mem _ hk)
                      have hsw : SWK w b nb xb (16 + s1 + 42 * (m + 1)) (m + 2) (.pointer (some ⟨jb, 0, none⟩)) (.int .i64 er) W := by
                        rcases HD2.out with ⟨he, D2, h1, h2, h3, h4⟩ | ⟨he, D2, h1, h2⟩
                        · subst he
                          have h1W := h1.but hbt hox (by simp; omega) hwx1
                          have hlow : ∀ k ∈ xb :: nb :: jb :: own8, w.heap.size ≤ k := fun k hk => by
                            simp only [List.mem_cons] at hk
                            rcases hk with rfl | rfl | rfl | hk
                            · exact hwx
                            · exact hwn
                            · exact hjw
                            · exact h1.lo _ hk
                          have hlt8 : ∀ k ∈ xb :: nb :: jb :: own8, k < w8.heap.size := fun k hk => by
                            simp only [List.mem_cons] at hk
                            rcases hk with rfl | rfl | rfl | hk
                            · exact hsz8
                            · omega
                            · exact hjb8
                            · exact HL8.out _ hk
                          have hb' : But (xb :: nb :: jb :: own8) w8 W := hbt.more (fun k hk => .inl (by simp at hk; rw [hk]; exact List.mem_cons_self ..))
                          refine .inl ⟨jb, own8, D2, r, a, c + 1, f + (q + 7), S, R ++ [dt], _, _, .slice sa S.length sc, .slice ea (R.length + 1) ec, rfl, rfl, h1W, h2.trans HCAP.out, h3, h4, hNW, hXW, ⟨HNOW8.out.sl.but hb' HNOW8.out.so, HNOW8.out.so, ?_, ?_⟩, HNO8.out, HXO8.out, by omega, by omega⟩
                          · obtain ⟨ys, y1, y2, y3⟩ := HYSD.out
                            refine ⟨ys ++ [(dt, .slice va q vc)], by rw [List.map_append, y1]; rfl, ?_, ?_⟩
                            · have hyl2 : ys.length = R.length := by rw [← y1, List.length_map]
                              rw [List.length_append, List.map_append, y2, hyl2]
                              exact own_base hR (by omega)
                            · intro y hy
                              rcases List.mem_append.1 hy with h | h
                              · exact ⟨(y3 y h).1.but hb' (y3 y h).2, (y3 y h).2⟩
                              · simp at h
                                subst h
                                exact ⟨(Sl.below h1W.bel HES.out).mono h1W.bel.size, off_low HES.out hlow⟩
                          · intro g hg hm
                            have h5 := (World.ownsRow.lt hR g hg).1
                            have h6 := hlt8 g hm
                            omega
                        · subst he
                          refine .inr ⟨own8, D2, r, a, c, f, S, R, .slice sa S.length sc, .slice ra R.length rc, .slice sa S.length sc, .slice ea (R.length + 1) ec, rfl, h1.but hbt hox hwx1, h2.trans HCAP.out, hNW, hXW, ?_, fun h => HNO8.out (List.mem_cons_of_mem _ h), fun h => HXO8.out (List.mem_cons_of_mem _ h), by omega, by omega⟩
                          exact nowk_but_to HNOW8.out hbt (fun k h => .inl (by simp at h; rw [h]; exact List.mem_cons_self ..)) (drop_j fun k h => .inl h)
                      have HSW := Lib.hid hsw
                      clear hsw hR hXW hbt hNW
                      rw [e7]
                      go_wp2_with fail
                      go_meet
                      exact HSW.out
                  · have hd := decide_eq_false h012
                    rw [hd]
                    clear hd
                    by_cases h3 : kd = 3
                    · have h3b : (kd == (3 : Int)) = true := beq_iff_eq.2 h3
                      have hS := Sl.below HST.out.bel HES.out
                      have HLW := HST.out.lo
                      have hoff : Off own (.slice va q vc) := off_low HES.out HLW
                      have hhv := heavy_le (a := a) (n := q) (by omega) (by omega)
                      have HHV := Lib.hid hhv
                      have HCP := Lib.hid (compact_keep HST.out HSN.out HRC.out va vc dt HDB.out (by rw [HQ.out]; exact hS.mono HST.out.bel.size) (by rw [HQ.out]; exact hoff) (by omega) (by rw [HQ.out, HCAP.out]; omega))
                      rw [HQ.out] at HCP
                      clear hS hoff hhv HLW
                      go_wp2_with fail
                      refine HCP.out.mono ?_
                      rintro e w8 ⟨er, own8, rfl, hb8, hs8, hcs⟩
                      have hN8 := (hb8.block nb (by omega) HNO.out).trans HNN.out
                      have hX8 := (hb8.block xb hXlt HXO.out).trans HXN.out
                      have hE8 := (hb8.block ob (by omega) (fun h => HOO.out (List.mem_cons_of_mem _ h))).trans HEN.out
                      have hno8 := not_more HNO.out (by omega) hs8
                      have hxo8 := not_more HXO.out hXlt hs8
                      have hz8 := hb8.size
                      have hnow8 : NowK w8 (nb + 1) (xb :: nb :: jb :: own8) (.slice sa S.length sc) (.slice ra R.length rc) S R := nowk_but_to HNOW.out hb8 (fun k h => .inl (List.mem_cons_of_mem _ (List.mem_cons_of_mem _ h))) (cons2 (cons1 hs8))
                      have cE : w8.cell? ⟨ob, 2, none⟩ = some (.slice va q vc) := cell_of_row w8 _ 2 _ _ _ hE8
                      have kx0 : w8.cell? ⟨xb, 0, none⟩ = some (.slice sa S.length sc) := cell_of_row w8 _ 0 _ _ _ hX8
                      have kx1 : w8.cell? ⟨xb, 1, none⟩ = some (.slice ra R.length rc) := cell_of_row w8 _ 1 _ _ _ hX8
                      have fx0 := frozen_of_row w8 xb 0 _ _ hX8
                      have fx1 := frozen_of_row w8 xb 1 _ _ hX8
                      obtain ⟨W, hW⟩ : ∃ W, setK w8 xb (.slice va q vc) (.slice none 0 0) = W := ⟨_, rfl⟩
                      have hbt : But [xb] w8 W := by rw [← hW]; exact setK_but _ _ _ _
                      have hXW : W.heap[xb]? = some (.cells (kpC (.slice va q vc) (.slice none 0 0)) kpT (0, 0)) := by rw [← hW]; exact setK_heap hX8
                      have hNW := (hbt.block nb (by omega) (by simp; omega)).trans hN8
                      have hwx1 : ∀ k ∈ [xb], w.heap.size ≤ k := fun k hk => by simp at hk; omega
                      have hox : ∀ k ∈ own8, k ∉ [xb] := fun k hk hm => by simp at hm; subst hm; exact hxo8 (List.mem_cons_of_mem _ hk)
                      have hsw : SWK w b nb xb (16 + s1 + 42 * (m + 1)) (m + 2) (.pointer (some ⟨jb, 0, none⟩)) (.int .i64 er) W := by
                        rw [HQ.out] at hcs
                        have hhv := HHV.out
                        rcases hcs with ⟨he, D2, h1, h2, h3', h4⟩ | ⟨he, D2, h1, h2⟩
                        · subst he
                          have h1W := h1.but hbt hox (by simp; omega) hwx1
                          have hlow : ∀ k ∈ xb :: nb :: jb :: own8, w.heap.size ≤ k := fun k hk => by
                            simp only [List.mem_cons] at hk
                            rcases hk with rfl | rfl | rfl | hk
                            · exact hwx
                            · exact hwn
                            · exact hjw
                            · exact h1.lo _ hk
                          exact .inl ⟨jb, own8, D2, 1 - r, a + 1, 0, heavyN (a + 1) q, dt, [], _, _, .slice va q vc, .slice none 0 0, rfl, rfl, h1W, h2.trans HCAP.out, h3', h4, hNW, hXW, ⟨(Sl.below h1W.bel HES.out).mono h1W.bel.size, off_low HES.out hlow, ⟨[], rfl, World.ownsRow_nil _ _ _ _, fun y hy => (by cases hy)⟩, fun g hg => (by cases hg)⟩, hno8, hxo8, by omega, by omega⟩
                        · subst he
                          refine .inr ⟨own8, D2, r, a, c, f, S, R, .slice sa S.length sc, .slice ra R.length rc, .slice va q vc, .slice none 0 0, rfl, h1.but hbt hox hwx1, h2.trans HCAP.out, hNW, hXW, ?_, fun h => hno8 (List.mem_cons_of_mem _ h), fun h => hxo8 (List.mem_cons_of_mem _ h), by omega, by omega⟩
                          exact nowk_but_to hnow8 hbt (fun k h => .inl (by simp at h; rw [h]; exact List.mem_cons_self ..)) (drop_j fun k h => .inl h)
                      have HSW := Lib.hid hsw
                      have HWE := Lib.hid hW
                      clear h3 h012 hsw hXW hbt hNW hW hN8 hX8 hE8 hno8 hxo8 hnow8 hb8 hs8 hcs HCP hox
                      go_wp2_with fail
                      go_meet
                      have e7 := HWE.out
                      unfold setK at e7
                      rw [e7]
                      exact HSW.out
                    · have h3b : (kd == (3 : Int)) = false := beq_eq_false_iff_ne.2 h3
                      have HOP := Lib.hid (open_keep (HST.out.livAt HSN.out HRC.out) HST.out.ok.down)
                      clear h3 h012
                      go_wp2_with fail
                      refine HOP.out.mono ?_
                      rintro e w8 ⟨own8, D2, hb8, hs8, hc8, hcs⟩
                      have hn0 : nb ∉ own := fun h => HNO.out (List.mem_cons_of_mem _ h)
                      have hx0 : xb ∉ own := fun h => HXO.out (List.mem_cons_of_mem _ h)
                      have hN8 := (hb8.block nb (by omega) hn0).trans HNN.out
                      have hX8 := (hb8.block xb hXlt hx0).trans HXN.out
                      rcases hcs with ⟨rfl, hst8, hsn8, hrc8⟩ | ⟨_, rfl, hl8⟩
                      · obtain ⟨j8, hj8⟩ : ∃ j, wN.heap.size = j := ⟨_, rfl⟩
                        rw [hj8] at hst8 ⊢
                        have hsw : SWK w b nb xb (16 + s1 + 42 * (m + 1)) (m + 2) (.pointer (some ⟨j8, 0, none⟩)) (.int .i64 0) w8 := by
                          have hcj : ∀ k ∈ j8 :: own8, k ∈ jb :: own ∨ wN.heap.size ≤ k := fun k hk => by
                            rcases List.mem_cons.1 hk with h | h
                            · exact .inr (by omega)
                            · rcases hs8 k h with h | h
                              · exact .inl (List.mem_cons_of_mem _ h)
                              · exact .inr h
                          refine .inl ⟨j8, own8, D2, r, a, c, f, S, R, _, _, _, _, rfl, rfl, hst8, hc8.trans HCAP.out, hsn8, hrc8, hN8, hX8, nowk_but_to HNOW.out hb8 (fun k h => .inl (List.mem_cons_of_mem _ (List.mem_cons_of_mem _ (List.mem_cons_of_mem _ h)))) (cons2 hcj), fun h => ?_, fun h => ?_, by omega, by omega⟩
                          · rcases hcj _ h with h | h
                            · exact HNO.out h
                            · omega
                          · rcases hcj _ h with h | h
                            · exact HXO.out h
                            · omega
                        have HSW := Lib.hid hsw
                        clear hsw hst8 hsn8 hrc8 hN8 hX8 hb8 hs8 hc8 hn0 hx0 hj8 HOP
                        go_wp2_with fail
                        go_meet
                        exact HSW.out
                      · have hsw : SWK w b nb xb (16 + s1 + 42 * (m + 1)) (m + 2) (.pointer none) (.int .i64 30) w8 := by
                          refine .inr ⟨own8, D2, r, a, c, f, S, R, _, _, _, _, rfl, hl8, hc8.trans HCAP.out, hN8, hX8, nowk_but_to HNOW.out hb8 (fun k h => .inl (List.mem_cons_of_mem _ (List.mem_cons_of_mem _ (List.mem_cons_of_mem _ h)))) (drop_j hs8), fun h => ?_, fun h => ?_, by omega, by omega⟩
                          · rcases hs8 _ h with h | h
                            · exact hn0 h
                            · omega
                          · rcases hs8 _ h with h | h
                            · exact hx0 h
                            · omega
                        have HSW := Lib.hid hsw
                        clear hsw hl8 hN8 hX8 hb8 hs8 hc8 hn0 hx0 HOP
                        go_wp2_with fail
                        go_meet
                        exact HSW.out
              case rest =>
                clear HST HNN HXN HEN HNOW HNO HXO HOO HCAP HSN HRC HLO HES HDB cE0 cE2
                go_upto_region 35 with fail
                go_cut [] from 96 to 97 (fun wx => RSK w b nb xb (16 + s1 + 42 * (m + 1)) (m + 2) u7 u13 wx)
                case first =>
                  rcases hcut with ⟨jb2, own2, D2, r2, a2, c2, f2, S2, R2, svN, rvN, sv, rv, rfl, rfl, hst, hcap, hsn, hrc, hN, hX, hnow, hno, hxo, hfB2, haB2⟩ | ⟨own2, D2, r2, a2, c2, f2, S2, R2, sv, rv, svX, rvX, rfl, hlv, hcap, hN, hX, hnow, hno, hxo, hfB2, haB2⟩
                  · have HRS := Lib.hid (restore_st hst)
                    have HFIN := Lib.hid (fun (W' : World) (own' : List Nat) (q1 : St w W' own' jb2 b (restoreS D2) r2 a2 c2 f2) (q2 : But own2 wc W') (q3 : ∀ k ∈ own', k ∈ own2 ∨ wc.heap.size ≤ k) => KNK.step (w := w) (b := b) hcap hsn hrc hN hX hnow hno hxo hfB2 haB2 q1 q2 q3 rfl rfl)
                    clear hst hcap hsn hrc hN hX hnow hno hxo hfB2 haB2
                    go_wp2_with fail
                    refine HRS.out.mono ?_
                    rintro e w9 ⟨rfl, own9, q1, q2, q3⟩
                    have HF := Lib.hid (HFIN.out w9 own9 q1 q2 q3)
                    clear q1 q2 q3
                    go_wp2_with fail
                    go_meet
                    exact .inl ⟨rfl, HF.out⟩
                  · have HRS := Lib.hid (restore_keep hlv)
                    have HFIN := Lib.hid (fun (W' : World) (own' : List Nat) (q1 : LivAt w W' own' b (restoreS D2) r2 a2 c2 f2 S2 R2) (q2 : But own2 wc W') (q3 : ∀ k ∈ own', k ∈ own2 ∨ wc.heap.size ≤ k) => KDK.step (w := w) (b := b) hcap hN hX hnow hno hxo hfB2 haB2 q1 q2 q3 rfl rfl rfl)
                    clear hlv hcap hN hX hnow hno hxo hfB2 haB2
                    go_wp2_with fail
                    refine HRS.out.mono ?_
                    rintro e w9 ⟨rfl, own9, q1, q2, q3⟩
                    have HF := Lib.hid (HFIN.out w9 own9 q1 q2 q3)
                    clear q1 q2 q3
                    go_wp2_with fail
                    go_meet
                    exact .inr ⟨rfl, HF.out⟩
                case rest =>
                  obtain ⟨er, her, hkn⟩ : ∃ er : Int, u13 = .int .i64 er ∧ ((er = 0 ∧ KNK w b nb xb (16 + s1 + 42 * (m + 1)) (m + 2) u7 wc) ∨ (er = 30 ∧ KDK w b nb xb (16 + s1 + 42 * (m + 1)) (m + 2) wc)) := by
                    rcases hcut with ⟨h1, h2⟩ | ⟨h1, h2⟩
                    · exact ⟨0, h1, .inl ⟨rfl, h2⟩⟩
                    · exact ⟨30, h1, .inr ⟨rfl, h2⟩⟩
                  subst her
                  obtain ⟨wR, hwR⟩ : ∃ x, x = wc := ⟨_, rfl⟩
                  subst hwR
                  have HKN := Lib.hid hkn
                  have he6 : (er == (6 : Int)) = false := beq_eq_false_iff_ne.2 (by rcases hkn with ⟨h, _⟩ | ⟨h, _⟩ <;> omega)
                  clear hkn
                  go_upto_region 38 with fail
                  go_cut [105] from 98 to 104 (fun cv wx => cv = .bool false ∧ wx = wR)
                  case first =>
                    rcases HKN.out with ⟨rfl, _⟩ | ⟨rfl, _⟩
                    · go_wp2_with fail
                      go_meet
                      exact ⟨rfl, rfl⟩
                    · go_wp2_with fail
                      go_meet
                      exact ⟨rfl, rfl⟩
                  case rest =>
                    obtain ⟨rfl, hwc⟩ := hcut
                    rw [hwc]
                    clear hwc
                    go_upto_if 107 with fail
                    go_cut [7, 8] from 106 to 128 (fun jv ev wx => KNK w b nb xb (16 + s1 + 42 * (m + 1)) (m + 2) jv wx)
                    case first =>
                      rcases HKN.out with ⟨rfl, hk⟩ | ⟨rfl, hk⟩
                      · have HK := Lib.hid hk
                        clear hk
                        go_wp2_with fail
                        go_meet
                        exact HK.out
                      · obtain ⟨own2, D2, r2, a2, c2, f2, S2, R2, sv, rv, svX, rvX, hlv, hcap, hdn2, hlf, hN, hX, hnow, hno, hxo, hfB2, haB2⟩ := hk
                        have HOP := Lib.hid (open_keep hlv hdn2)
                        have HLF := Lib.hid hlf
                        have HDN2 := Lib.hid hdn2
                        have HCAP := Lib.hid hcap
                        have HN1 := Lib.hid hN
                        have HX1 := Lib.hid hX
                        have HNOW := Lib.hid hnow
                        have HNO := Lib.hid hno
                        have HXO := Lib.hid hxo
                        clear hlv hcap hdn2 hlf hN hX hnow hno hxo he6
                        go_wp2_with fail
                        refine HOP.out.mono ?_
                        rintro e w9 ⟨own9, D9, hb9, hs9, hc9, hcs⟩
                        rcases hcs with ⟨rfl, hst9, hsn9, hrc9⟩ | ⟨h, _⟩
                        rotate_left
                        · exact absurd h (by have := HLF.out; omega)
                        have hnR := (Array.getElem?_eq_some_iff.1 HN1.out).1
                        have hxR := (Array.getElem?_eq_some_iff.1 HX1.out).1
                        have hN9 := (hb9.block nb hnR HNO.out).trans HN1.out
                        have hX9 := (hb9.block xb hxR HXO.out).trans HX1.out
                        obtain ⟨j9, hj9⟩ : ∃ j, wR.heap.size = j := ⟨_, rfl⟩
                        have hs9' := hs9
                        rw [hj9] at hst9 hs9' hnR hxR ⊢
                        have hcj : ∀ k ∈ j9 :: own9, k ∈ own2 ∨ j9 ≤ k := fun k hk => by
                          rcases List.mem_cons.1 hk with h | h
                          · exact .inr (by omega)
                          · exact hs9' k h
                        have hno9 : nb ∉ j9 :: own9 := fun h => by
                          rcases hcj _ h with h | h
                          · exact HNO.out h
                          · omega
                        have hxo9 : xb ∉ j9 :: own9 := fun h => by
                          rcases hcj _ h with h | h
                          · exact HXO.out h
                          · omega
                        have hnow9 : NowK w9 (nb + 1) (xb :: nb :: j9 :: own9) sv rv S2 R2 := nowk_but_to HNOW.out hb9 (fun k hk => .inl (List.mem_cons_of_mem _ (List.mem_cons_of_mem _ hk))) (by rw [hj9]; exact cons2 hcj)
                        have HST9 := Lib.hid hst9
                        have HSN9 := Lib.hid hsn9
                        have HRC9 := Lib.hid hrc9
                        have HN9 := Lib.hid hN9
                        have HX9 := Lib.hid hX9
                        have HNOW9 := Lib.hid hnow9
                        have HNO9 := Lib.hid hno9
                        have HXO9 := Lib.hid hxo9
                        have HC9 := Lib.hid (hc9.trans HCAP.out)
                        clear hst9 hsn9 hrc9 hN9 hX9 hnow9 hno9 hxo9 hcj hs9 hs9' hb9 hc9 hj9 HOP HLF
                        go_upto_region 44 with fail
                        have hXlt9 := (Array.getElem?_eq_some_iff.1 HX9.out).1
                        have hNlt9 := (Array.getElem?_eq_some_iff.1 HN9.out).1
                        have hfw := few_of HST9.out.row
                        rw [HSN9.out, HRC9.out] at hfw
                        have HFW := Lib.hid hfw
                        clear hfw
                        refine region_rel (l := _) (by kernel_rfl) (by decide +kernel) (fun v => { tmps := #[Value.slice (some ⟨pb, off, none⟩) k c0, undef, u2, Value.int IntKind.i64 (T : Int), undef, u5, Value.pointer (some ⟨b, 0, none⟩), Value.pointer (some ⟨j9, 0, none⟩), Value.int IntKind.i64 0, Value.pointer (some ⟨nb, 0, none⟩), undef, Value.pointer (some ⟨ob, 0, none⟩), Value.pointer (some ⟨xb, 0, none⟩), Value.int IntKind.i64 30, Value.bool true, Value.bool false, Value.slice (some ⟨pb, off, none⟩) k c0, Value.int IntKind.i64 (k : Int), Value.int IntKind.i64 (k : Int), Value.bool false, u20, u21, u22, u23, u24, u25, u26, u27, u28, u29, u30, u31, Value.slice (some ⟨pb, off, none⟩) k c0, Value.int IntKind.i64 (k : Int), Value.bool false, Value.bool false, Value.int IntKind.i64 (T : Int), Value.bool false, Value.bool false, Value.pointer (some ⟨b, 0, none⟩), Value.tuple #[Value.pointer (some ⟨jb0, 0, none⟩), Value.int IntKind.i64 0], Value.pointer (some ⟨b, 0, none⟩), Value.tuple #[Value.pointer (some ⟨jb0, 0, none⟩), Value.int IntKind.i64 0], Value.pointer (some ⟨jb0, 0, none⟩), Value.int IntKind.i64 0, Value.int IntKind.i64 0, Value.bool false, Value.agg #[Value.slice none 0 0, Value.slice none 0 0], Value.slice (some ⟨pb, off, none⟩) k c0, Value.int IntKind.i64 (k : Int), Value.int IntKind.i64 (m : Int), Value.bool true, Value.pointer (some ⟨pb, off + m * 3, none⟩), Value.agg #[Value.int IntKind.i64 kd, Value.int IntKind.i64 ct, Value.slice va q vc], Value.pointer (some ⟨ob, 1, none⟩), Value.int IntKind.i64 ct, u56, u57, u58, u59, u60, u61, Value.agg #[Value.slice sa S.length sc, Value.slice ra R.length rc], Value.pointer (some ⟨ob, 0, none⟩), Value.int IntKind.i64 kd, u65, u66, u67, u68, u69, u70, u71, u72, u73, u74, u75, u76, u77, u78, u79, u80, u81, u82, u83, u84, u85, u86, u87, u88, u89, u90, u91, u92, u93, u94, u95, u96, u97, u98, u99, u100, u101, u102, u103, u104, Value.bool false, Value.int IntKind.i64 30, Value.bool true, Value.tuple #[Value.pointer (some ⟨j9, 0, none⟩), Value.int IntKind.i64 0], Value.pointer (some ⟨b, 0, none⟩), Value.tuple #[Value.pointer (some ⟨j9, 0, none⟩), Value.int IntKind.i64 0], Value.pointer (some ⟨j9, 0, none⟩), Value.int IntKind.i64 0, Value.int IntKind.i64 0, Value.bool false, v 0, v 1, v 2, v 3, v 4, v 5, v 6, v 7, v 8, v 9, v 10, v 11, u127, u128, u129, u130, u131, u132, u133, u134, u135], defers := [] }) (fun Wx => Below w9.heap.size w9 Wx) (fun i u Wx => match i with
                          | 0 => u = .pointer (some ⟨j9, 0, none⟩)
                          | 1 => ∃ m sv rv, u = kpV sv rv ∧ HasAt m Wx sv rv S2 R2
                          | 2 => u = kpV sv rv
                          | 3 => u = .bool true
                          | 4 => u = .bool false
                          | 5 => u = .bool false
                          | 6 => u = undef
                          | 7 => u = undef
                          | 8 => u = undef
                          | 9 => u = undef
                          | 10 => u = undef
                          | 11 => u = .bool false
                          | _ => True) (fun A B => Below A.heap.size A B) ?hC ?hV (fun j => [u115, u116, u117, u118, u119, u120, u121, u122, u123, u124, u125, u126].getD j undef) ?h0 ?hop ?hend
                        case hC => exact fun A B h h2 => h.trans (h2.mono h.size)
                        case h0 => exact (Below.refl _ _).drew
                        case hV =>
                          intro i' u A B h hx
                          match i', h with
                          | 0, h => exact h
                          | 1, ⟨m, sv, rv, e, h⟩ => exact ⟨m, sv, rv, e, h.below hx⟩
                          | 2, h => exact h
                          | 3, h => exact h
                          | 4, h => exact h
                          | 5, h => exact h
                          | 6, h => exact h
                          | 7, h => exact h
                          | 8, h => exact h
                          | 9, h => exact h
                          | 10, h => exact h
                          | 11, h => exact h
                          | n + 12, h => trivial
                        case hop =>
                          simp only [AllDo]
                          refine ⟨?o0, ?o1, ?o2, ?o3, ?o4, ?o5, ?o6, ?o7, ?o8, ?o9, ?o10, ?o11, trivial⟩
                          all_goals intro v Wx hc hd Q hQ
                          all_goals simp [Region.binds] at hd
                          case o0 =>
                            rw [if_pos (show Region.wanted _ _ = true from rfl)]
                            go_wp2
                            exact ⟨_, rfl, Below.refl _ _, rfl⟩
                          case o1 =>
                            rw [if_pos (show Region.wanted _ _ = true from rfl)]
                            rw [hd]
                            have HHS := Lib.hid (kept_st (HST9.out.below hc))
                            rw [HSN9.out, HRC9.out] at HHS
                            go_wp2_with fail
                            refine HHS.out.mono ?_
                            rintro e W' ⟨sv', rv', rfl, hh, hb'⟩
                            go_wp2
                            refine ⟨kpV sv' rv', ?_, hb', _, sv', rv', rfl, hh⟩
                            simp [updV, hd]
                          case o2 =>
                            rw [if_pos (show Region.wanted _ _ = true from rfl)]
                            have rN := (hc.block nb hNlt9).trans HN9.out
                            have k0 : Wx.cell? ⟨nb, 0, none⟩ = some sv := cell_of_row Wx _ 0 _ _ _ rN
                            have k1 : Wx.cell? ⟨nb, 1, none⟩ = some rv := cell_of_row Wx _ 1 _ _ _ rN
                            go_wp2
                            exact ⟨kpV sv rv, rfl, Below.refl _ _, rfl⟩
                          case o3 =>
                            rw [if_pos (show Region.wanted _ _ = true from rfl)]
                            obtain ⟨⟨m', sv', rv', e1, hh⟩, e2, _⟩ := hd
                            have HSM := Lib.hid (kept_same hh (nowk_but_to HNOW9.out (But.of_below hc) (fun _ h => .inl h) (fun _ h => .inl h)) HFW.out)
                            rw [e1, e2]
                            clear hh
                            go_wp2_with fail
                            refine HSM.out.mono ?_
                            rintro e W' ⟨rfl, hb'⟩
                            go_wp2
                            refine ⟨.bool true, ?_, hb', rfl⟩
                            simp [updV, e1, e2]
                          case o4 =>
                            rw [if_pos (show Region.wanted _ _ = true from rfl)]
                            rw [hd]
                            go_wp2
                            refine ⟨.bool false, ?_, Below.refl _ _, rfl⟩
                            simp [updV, hd]
                          case o5 =>
                            rw [if_pos (show Region.wanted _ _ = true from rfl)]
                            have h4 : v 4 = .bool false := by simp [hd]
                            rw [h4]
                            go_wp2
                            refine ⟨.bool false, ?_, Below.refl _ _, rfl⟩
                            simp [updV, h4]
                          case o6 =>
                            have h5 : v 5 = .bool false := by simp [hd]
                            rw [h5, if_neg (show ¬ Region.wanted _ _ = true from by exact Bool.false_ne_true)]
                            exact hQ _ _ ⟨undef, by simp [updV, h5, Act.put], Below.refl _ _, rfl⟩
                          case o7 =>
                            have h5 : v 5 = .bool false := by simp [hd]
                            rw [h5, if_neg (show ¬ Region.wanted _ _ = true from by exact Bool.false_ne_true)]
                            exact hQ _ _ ⟨undef, by simp [updV, h5, Act.put], Below.refl _ _, rfl⟩
                          case o8 =>
                            have h5 : v 5 = .bool false := by simp [hd]
                            rw [h5, if_neg (show ¬ Region.wanted _ _ = true from by exact Bool.false_ne_true)]
                            exact hQ _ _ ⟨undef, by simp [updV, h5, Act.put], Below.refl _ _, rfl⟩
                          case o9 =>
                            have h5 : v 5 = .bool false := by simp [hd]
                            rw [h5, if_neg (show ¬ Region.wanted _ _ = true from by exact Bool.false_ne_true)]
                            exact hQ _ _ ⟨undef, by simp [updV, h5, Act.put], Below.refl _ _, rfl⟩
                          case o10 =>
                            have h5 : v 5 = .bool false := by simp [hd]
                            rw [h5, if_neg (show ¬ Region.wanted _ _ = true from by exact Bool.false_ne_true)]
                            exact hQ _ _ ⟨undef, by simp [updV, h5, Act.put], Below.refl _ _, rfl⟩
                          case o11 =>
                            have h5 : v 5 = .bool false := by simp [hd]
                            have h10 : v 10 = undef := by simp [hd]
                            rw [if_pos (show Region.wanted _ _ = true from rfl)]
                            rw [h5, h10]
                            go_wp2
                            first | exact ⟨.bool false, rfl, Below.refl _ _, rfl⟩ | (refine ⟨.bool false, ?_, Below.refl _ _, rfl⟩; simp [updV, h5, h10]; done)
                        case hend =>
                          intro v Wx hc hv
                          have h11 : v 11 = .bool false := hv 11 (by decide)
                          have hstx := HST9.out.below hc
                          have HHS := Lib.hid (kept_st hstx)
                          rw [HSN9.out, HRC9.out] at HHS
                          have HSTX := Lib.hid hstx
                          have hNX := (hc.block nb hNlt9).trans HN9.out
                          have hXX := (hc.block xb hXlt9).trans HX9.out
                          have hltX : ∀ k ∈ xb :: nb :: j9 :: own9, k < Wx.heap.size := fun k hk => by
                            simp only [List.mem_cons] at hk
                            rcases hk with rfl | rfl | rfl | hk
                            · exact (Array.getElem?_eq_some_iff.1 hXX).1
                            · exact (Array.getElem?_eq_some_iff.1 hNX).1
                            · exact hstx.jrn.lt
                            · obtain ⟨x, y, d⟩ := hstx.dev; exact d.lt k hk
                          have HNX := Lib.hid hNX
                          have HXX := Lib.hid hXX
                          have HLTX := Lib.hid hltX
                          clear hstx hNX hXX hltX
                          rw [h11]
                          clear h11 hv
                          go_upto_region 46 with fail
                          go_wp2_with fail
                          refine HHS.out.mono ?_
                          rintro e w10 ⟨sv', rv', rfl, hh, hb10⟩
                          obtain ⟨ga, gc, rfl⟩ := own_form hh.1
                          obtain ⟨gra, grc, rfl⟩ := (recs_parts hh.2).form
                          have hnX := HLTX.out nb (List.mem_cons_of_mem _ (List.mem_cons_self ..))
                          have hxX := HLTX.out xb (List.mem_cons_self ..)
                          have hX10 := (hb10.block xb hxX).trans HXX.out
                          have hN10 := (hb10.block nb hnX).trans HNX.out
                          have hnow10 : NowK w10 (nb + 1) (xb :: nb :: j9 :: own9) (.slice ga S2.length gc) (.slice gra R2.length grc) S2 R2 := nowk_base (has_now hh HLTX.out) (by omega)
                          have kx0 : w10.cell? ⟨xb, 0, none⟩ = some svX := cell_of_row w10 _ 0 _ _ _ hX10
                          have kx1 : w10.cell? ⟨xb, 1, none⟩ = some rvX := cell_of_row w10 _ 1 _ _ _ hX10
                          have fx0 := frozen_of_row w10 xb 0 _ _ hX10
                          have fx1 := frozen_of_row w10 xb 1 _ _ hX10
                          obtain ⟨W, hW⟩ : ∃ W, setK w10 xb (.slice ga S2.length gc) (.slice gra R2.length grc) = W := ⟨_, rfl⟩
                          have hbt : But [xb] w10 W := by rw [← hW]; exact setK_but _ _ _ _
                          have hXW : W.heap[xb]? = some (.cells (kpC (.slice ga S2.length gc) (.slice gra R2.length grc)) kpT (0, 0)) := by rw [← hW]; exact setK_heap hX10
                          have hz10 := hb10.size
                          have hNW := (hbt.block nb (by omega) (by simp; omega)).trans hN10
                          have hkn : KNK w b nb xb (16 + s1 + 42 * (m + 1)) (m + 2) (.pointer (some ⟨j9, 0, none⟩)) W := by
                            have hox : ∀ k ∈ own9, k ∉ [xb] := fun k hk hm => by simp at hm; subst hm; exact HXO9.out (List.mem_cons_of_mem _ hk)
                            have hjx : j9 ∉ [xb] := fun hm => by simp at hm; exact HXO9.out (by rw [hm]; exact List.mem_cons_self ..)
                            have hwx1 : ∀ k ∈ [xb], w.heap.size ≤ k := fun k hk => by simp at hk; omega
                            exact ⟨j9, own9, D9, r2, a2, c2, f2, S2, R2, sv, rv, _, _, rfl, (HSTX.out.below hb10).but hbt hox hjx hwx1, HC9.out, HSN9.out, HRC9.out, hNW, hXW, nowk_but_to hnow10 hbt (fun k h => .inl (by simp at h; rw [h]; exact List.mem_cons_self ..)) (fun _ h => .inl h), HNO9.out, HXO9.out, hfB2, haB2⟩
                          have HKN2 := Lib.hid hkn
                          have HWE := Lib.hid hW
                          clear hkn hW hNW hXW hbt hnow10 hX10 hN10 hb10 hh
                          go_wp2_with fail
                          go_meet
                          have e7 := HWE.out
                          unfold setK at e7
                          rw [e7]
                          exact HKN2.out
                    case rest =>
                      obtain ⟨j3, own3, D3, r3, a3, c3, f3, S3, R3, svN, rvN, sv3, rv3, rfl, hst, hcap, hsn, hrc, hN, hX, hnow, hno, hxo, hfB3, haB3⟩ := hcut
                      obtain ⟨sa3, sc3, ra3, rc3, rfl, rfl⟩ := hnow.form
                      have hnc : nb < wc.heap.size := (Array.getElem?_eq_some_iff.1 hN).1
                      have kx0 : wc.cell? ⟨xb, 0, none⟩ = some (.slice sa3 S3.length sc3) := cell_of_row wc _ 0 _ _ _ hX
                      have kx1 : wc.cell? ⟨xb, 1, none⟩ = some (.slice ra3 R3.length rc3) := cell_of_row wc _ 1 _ _ _ hX
                      have kn0 : wc.cell? ⟨nb, 0, none⟩ = some svN := cell_of_row wc _ 0 _ _ _ hN
                      have kn1 : wc.cell? ⟨nb, 1, none⟩ = some rvN := cell_of_row wc _ 1 _ _ _ hN
                      have fn0 := frozen_of_row wc nb 0 _ _ hN
                      have fn1 := frozen_of_row wc nb 1 _ _ hN
                      obtain ⟨W, hW⟩ : ∃ W, setK wc nb (.slice sa3 S3.length sc3) (.slice ra3 R3.length rc3) = W := ⟨_, rfl⟩
                      have hbt : But [nb] wc W := by rw [← hW]; exact setK_but _ _ _ _
                      have hNW : W.heap[nb]? = some (.cells (kpC (.slice sa3 S3.length sc3) (.slice ra3 R3.length rc3)) kpT (0, 0)) := by rw [← hW]; exact setK_heap hN
                      have hwx1 : ∀ k ∈ [nb], w.heap.size ≤ k := fun k hk => by simp at hk; omega
                      have hox : ∀ k ∈ own3, k ∉ [nb] := fun k hk hm => by simp at hm; subst hm; exact hno (List.mem_cons_of_mem _ hk)
                      have hjx : j3 ∉ [nb] := fun hm => by simp at hm; exact hno (by rw [hm]; exact List.mem_cons_self ..)
                      have hstW := hst.but hbt hox hjx hwx1
                      have hnowW : NowK W (nb + 1) (nb :: j3 :: own3) (.slice sa3 S3.length sc3) (.slice ra3 R3.length rc3) S3 R3 := nowk_but_to hnow hbt (fun k h => .inl (by simp at h; rw [h]; exact List.mem_cons_of_mem _ (List.mem_cons_self ..))) (fun k h => .inl (List.mem_cons_of_mem _ h))
                      have HST := Lib.hid hstW
                      have HNW := Lib.hid hNW
                      have HNOW2 := Lib.hid hnowW
                      have HNO2 := Lib.hid hno
                      have HCAP2 := Lib.hid hcap
                      have HSN2 := Lib.hid hsn
                      have HRC2 := Lib.hid hrc
                      have HWE := Lib.hid hW
                      clear hbt hNW hox hjx hwx1 hstW hnowW hst hnow hN hX hno hxo hcap hsn hrc hW he6 HKN
                      go_upto_region 48 with fail
                      have e7 := HWE.out
                      unfold setK at e7
                      rw [e7]
                      clear e7 HWE kx0 kx1 kn0 kn1 fn0 fn1
                      have hfw := few_of HST.out.row
                      rw [HSN2.out, HRC2.out] at hfw
                      have HFW := Lib.hid hfw
                      have hNlt := (Array.getElem?_eq_some_iff.1 HNW.out).1
                      clear hfw
                      refine region_rel (l := _) (by kernel_rfl) (by decide +kernel) (fun v => { tmps := #[Value.slice (some ⟨pb, off, none⟩) k c0, undef, u2, Value.int IntKind.i64 (T : Int), undef, u5, Value.pointer (some ⟨b, 0, none⟩), Value.pointer (some ⟨j3, 0, none⟩), u8, Value.pointer (some ⟨nb, 0, none⟩), undef, Value.pointer (some ⟨ob, 0, none⟩), Value.pointer (some ⟨xb, 0, none⟩), Value.int IntKind.i64 er, Value.bool true, Value.bool false, Value.slice (some ⟨pb, off, none⟩) k c0, Value.int IntKind.i64 (k : Int), Value.int IntKind.i64 (k : Int), Value.bool false, u20, u21, u22, u23, u24, u25, u26, u27, u28, u29, u30, u31, Value.slice (some ⟨pb, off, none⟩) k c0, Value.int IntKind.i64 (k : Int), Value.bool false, Value.bool false, Value.int IntKind.i64 (T : Int), Value.bool false, Value.bool false, Value.pointer (some ⟨b, 0, none⟩), Value.tuple #[Value.pointer (some ⟨jb0, 0, none⟩), Value.int IntKind.i64 0], Value.pointer (some ⟨b, 0, none⟩), Value.tuple #[Value.pointer (some ⟨jb0, 0, none⟩), Value.int IntKind.i64 0], Value.pointer (some ⟨jb0, 0, none⟩), Value.int IntKind.i64 0, Value.int IntKind.i64 0, Value.bool false, Value.agg #[Value.slice none 0 0, Value.slice none 0 0], Value.slice (some ⟨pb, off, none⟩) k c0, Value.int IntKind.i64 (k : Int), Value.int IntKind.i64 (m : Int), Value.bool true, Value.pointer (some ⟨pb, off + m * 3, none⟩), Value.agg #[Value.int IntKind.i64 kd, Value.int IntKind.i64 ct, Value.slice va q vc], Value.pointer (some ⟨ob, 1, none⟩), Value.int IntKind.i64 ct, u56, u57, u58, u59, u60, u61, Value.agg #[Value.slice sa S.length sc, Value.slice ra R.length rc], Value.pointer (some ⟨ob, 0, none⟩), Value.int IntKind.i64 kd, u65, u66, u67, u68, u69, u70, u71, u72, u73, u74, u75, u76, u77, u78, u79, u80, u81, u82, u83, u84, u85, u86, u87, u88, u89, u90, u91, u92, u93, u94, u95, u96, u97, u98, u99, u100, u101, u102, u103, u104, Value.bool false, u106, u107, u108, u109, u110, u111, u112, u113, u114, u115, u116, u117, u118, u119, u120, u121, u122, u123, u124, u125, u126, u127, u128, Value.agg #[Value.slice sa3 S3.length sc3, Value.slice ra3 R3.length rc3], v 0, v 1, v 2, v 3, v 4, u135], defers := [] }) (fun Wx => Below W.heap.size W Wx) (fun i u Wx => match i with
                        | 0 => u = .pointer (some ⟨j3, 0, none⟩)
                        | 1 => ∃ m sv rv, u = kpV sv rv ∧ HasAt m Wx sv rv S3 R3
                        | 2 => u = kpV (.slice sa3 S3.length sc3) (.slice ra3 R3.length rc3)
                        | 3 => u = .bool true
                        | 4 => u = .bool false
                        | _ => True) (fun A B => Below A.heap.size A B) ?hC ?hV (fun j => [u130, u131, u132, u133, u134].getD j undef) ?h0 ?hop ?hend
                      case hC => exact fun A B h h2 => h.trans (h2.mono h.size)
                      case h0 => exact (Below.refl _ _).drew
                      case hV =>
                        intro i' u A B h hx
                        match i', h with
                        | 0, h => exact h
                        | 1, ⟨m, sv, rv, e, h⟩ => exact ⟨m, sv, rv, e, h.below hx⟩
                        | 2, h => exact h
                        | 3, h => exact h
                        | 4, h => exact h
                        | n + 5, h => trivial
                      case hop =>
                        simp only [AllDo]
                        refine ⟨?o0, ?o1, ?o2, ?o3, ?o4, trivial⟩
                        all_goals intro v Wx hc hd Q hQ
                        all_goals simp [Region.binds] at hd
                        all_goals rw [if_pos (show Region.wanted _ _ = true from rfl)]
                        case o0 =>
                          go_wp2
                          exact ⟨_, rfl, Below.refl _ _, rfl⟩
                        case o1 =>
                          rw [hd]
                          have HHS := Lib.hid (kept_st (HST.out.below hc))
                          rw [HSN2.out, HRC2.out] at HHS
                          go_wp2_with fail
                          refine HHS.out.mono ?_
                          rintro e W' ⟨sv, rv, rfl, hh, hb'⟩
                          go_wp2
                          refine ⟨kpV sv rv, ?_, hb', _, sv, rv, rfl, hh⟩
                          simp [updV, hd]
                        case o2 =>
                          have rN := (hc.block nb hNlt).trans HNW.out
                          have k0 : Wx.cell? ⟨nb, 0, none⟩ = some (.slice sa3 S3.length sc3) := cell_of_row Wx _ 0 _ _ _ rN
                          have k1 : Wx.cell? ⟨nb, 1, none⟩ = some (.slice ra3 R3.length rc3) := cell_of_row Wx _ 1 _ _ _ rN
                          go_wp2
                          exact ⟨kpV (.slice sa3 S3.length sc3) (.slice ra3 R3.length rc3), rfl, Below.refl _ _, rfl⟩
                        case o3 =>
                          obtain ⟨⟨m', sv, rv, e1, hh⟩, e2, _⟩ := hd
                          have HSM := Lib.hid (kept_same hh (nowk_but_to HNOW2.out (But.of_below hc) (fun _ h => .inl h) (fun _ h => .inl h)) HFW.out)
                          rw [e1, e2]
                          clear hh
                          go_wp2_with fail
                          refine HSM.out.mono ?_
                          rintro e W' ⟨rfl, hb'⟩
                          go_wp2
                          refine ⟨.bool true, ?_, hb', rfl⟩
                          simp [updV, e1, e2]
                        case o4 =>
                          rw [hd]
                          go_wp2
                          refine ⟨.bool false, ?_, Below.refl _ _, rfl⟩
                          simp [updV, hd]
                      case hend =>
                        intro v Wx hc hv
                        have h4 : v 4 = .bool false := hv 4 (by decide)
                        have hWI : WI w j3 b nb (16 + ((l0.take (m + 1)).map fun x => x.data.length).sum + 42 * (m + 1)) (m + 1 + 1) Wx := ⟨own3, D3, r3, a3, c3, f3, S3, R3, .slice sa3 S3.length sc3, .slice ra3 R3.length rc3, HST.out.below hc, HCAP2.out, HSN2.out, HRC2.out, (hc.block nb hNlt).trans HNW.out, nowk_but_to HNOW2.out (But.of_below hc) (fun _ h => .inl h) (fun _ h => .inl h), HNO2.out, by rw [HS1.out]; exact hfB3, haB3⟩
                        have HWI2 := Lib.hid hWI
                        clear hWI
                        rw [h4]
                        go_wp2_with fail
                        go_roundw
                        case rel => exact ⟨m + 1, j3, by omega, by go_num, rfl, HWI2.out⟩
                        case measure => simp [intOf]; omega


set_option maxRecDepth 100000 in
theorem lifted (os : Os) (started : os.Started) (H : Type) (enc : TypeId × Value → H) :
    ReturnsInHanded {} Try.checked os 6 .any (Rows.wholeJournalSpec.pre6 enc Try.prog Try.f6 Rows.wholeJournalRow.domain false) (Rows.wholeJournalSpec.post enc Try.prog Try.f6 false true false false) := by
  refine returnsInHanded_of_change (C := Try.checked) own started (by kernel_rfl) Try.func6
    (ChangeSpec.witness6 (enc := enc) (C := Try.checked) false ⟨#[], #[.slice none 0 0], []⟩ 8 (by kernel_rfl) (by kernel_rfl) (by kernel_rfl) (by kernel_rfl)) ?_
  intro W base args ds gs before hval0 hW hcnd _
  have hval : ∀ (j : Nat) t v, Try.f6.params[j]? = some t → args[j]? = some v → Value.okWide Try.prog W .any base t v := hval0
  have hW' := hW
  obtain ⟨p, q, hA0, hV, rfl, hfz, hnd⟩ := hW
  have hA : DataW.TrodAll enc Try.prog W 0 (fun _ => true) true Try.f6.params.toList args.toList ds p := hA0
  rw [Try.params6] at hA hval
  have hAk := hA
  obtain ⟨v0, vs0, d0, ds0, p0', q0, hargs, rfl, rfl, h0, r0⟩ := trodAll_cons hA
  obtain ⟨rfl, rfl, rfl⟩ := trodAll_nil r0
  obtain rfl : args = #[v0] := by cases args; simp_all
  obtain ⟨rfl, rfl⟩ := trodVars_none hV
  simp only [List.append_nil] at hW' hAk
  have hlt := fun x hx => hW'.lt x hx
  clear hA0 hval0
  obtain ⟨p0, n0, c0, l0, rfl, S0, b0⟩ := open_keeps (okWide_slice Try.underlying50 (hval 0 50 v0 rfl rfl)) h0
  refine (walk W p0 n0 c0 l0 S0 b0).mono fun e W' ⟨he, hg⟩ => ?_
  subst he
  have hargs := trodAll_below hg _ _ _ _ (by intro t ht; simp only [List.mem_cons, List.not_mem_nil, or_false] at ht; revert t; rintro t rfl; exact ⟨by kernel_rfl, of_decide_eq_true (by kernel_rfl)⟩) hAk (fun x hx => by simpa using hlt x hx)
  exact ⟨_, rfl, _, _, _, [], _, [], hW', (trodAll_cons_mk (shut_bool Try.underlying4 _) trodAll_mk0), hargs, rfl, hg.frame _, fun h => by cases h⟩

theorem over : Rows.wholeJournalRow.holds Try.pinned (OpenSpec.ofChange Rows.wholeJournalSpec) :=
  OpenClaim.holds_of_wide 6 Try.f6 rfl rfl rfl rfl rfl rfl rfl ⟨rfl, rfl, rfl, rfl, rfl⟩ rfl rfl rfl rfl rfl (by kernel_rfl) Try.func6 (by kernel_rfl)
    (of_decide_eq_true (by kernel_rfl)) (by unfold Func.isWrapper; first | (rw [if_pos (by decide +kernel)]; kernel_rfl) | (rw [if_neg (by decide +kernel)]; exact ⟨rfl, rfl⟩))
    (fun os started H enc _ => lifted os started H enc)

theorem proved : Rows.WholeJournalSaid :=
  over
end Go.Proofs.Ytpllbojmonfeiaa.wholeJournal
