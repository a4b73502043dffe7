/- A heap in memory: what is collected of it while it is drained. -/
import Derived.Test.YtpdncgjepfgnjaaHpF
import Derived.Maps.OwnIn
namespace Go.Proofs.Ytpdncgjepfgnjaa
open Go.RowKit
set_option linter.unusedVariables false
attribute [local go_sem] Oper.semAt_some

def thingsP (x : Int × Int) : List Value := [.int .i64 x.1, .int .i64 x.2]
def flatVP (l : List (Int × Int)) : List Value := l.flatMap thingsP
theorem flatVP_app (l : List (Int × Int)) (x : Int × Int) : flatVP (l ++ [x]) = flatVP l ++ [.int .i64 x.1, .int .i64 x.2] := by unfold flatVP; rw [List.flatMap_append]; rfl
theorem flatVP_len : ∀ l : List (Int × Int), (flatVP l).length = l.length * 2
  | [] => rfl
  | x :: l => by
    have := flatVP_len l
    unfold flatVP at this ⊢
    rw [List.flatMap_cons, List.length_append, this]
    simp [thingsP]; omega
theorem flatVP_get : ∀ (l : List (Int × Int)) (i : Nat) (x : Int × Int), l[i]? = some x → (flatVP l)[i * 2]? = some (.int .i64 x.1) ∧ (flatVP l)[i * 2 + 1]? = some (.int .i64 x.2)
  | [], i, x, h => by simp at h
  | y :: l, 0, x, h => by
    simp at h; subst h
    simp [flatVP, thingsP]
  | y :: l, i + 1, x, h => by
    have := flatVP_get l i x (by simpa using h)
    have e : flatVP (y :: l) = thingsP y ++ flatVP l := by unfold flatVP; rw [List.flatMap_cons]
    have hl : (thingsP y).length = 2 := rfl
    rw [e]
    refine ⟨?_, ?_⟩
    · rw [List.getElem?_append_right (by omega), show (i + 1) * 2 - (thingsP y).length = i * 2 from by rw [hl]; omega]; exact this.1
    · rw [List.getElem?_append_right (by omega), show (i + 1) * 2 + 1 - (thingsP y).length = i * 2 + 1 from by rw [hl]; omega]; exact this.2
/-- What is owned can be read. -/
theorem PrsP.of_owns {W : World} {base : Nat} {v : Value} {xs : List (Int × Int)} (h : W.ownsRow base 27 2 v xs.length (flatVP xs)) : PrsP W.heap.size W v xs := by
  rcases h.2 with ⟨rfl, h0⟩ | ⟨g, cap, cur, e, _, hg, hn, _, _, _⟩
  · exact .inl ⟨List.eq_nil_of_length_eq_zero h0, none, 0, rfl⟩
  · subst e
    refine .inr ⟨g, 0, cap, rfl, (Array.getElem?_eq_some_iff.1 hg).1, hn, fun j x hj => ?_⟩
    have hlt : j < xs.length := (List.getElem?_eq_some_iff.1 hj).1
    obtain ⟨f1, f2⟩ := flatVP_get xs j x hj
    rw [Nat.zero_add]
    exact ⟨by rw [h.cellAt _ (by omega)]; exact f1, by rw [h.cellAt _ (by omega)]; exact f2⟩
theorem infoTP : (Try.prog.info? 27).map (fun i => (i.zero, i.size, i.bytes)) = some (some (.agg #[.int .i64 0, .int .i64 0]), 2, 16) := by kernel_rfl

/-- What stays while a heap is drained and what comes is kept in a row: kp have been taken, ko are kept. -/
structure DrnJ (key : Int × Int → Int) (of b Bh Bo B : Nat) (own : List Nat) (puts : Int) (S : List ((Int × Int) × Int)) (w0 : World) (kp ko : Nat) (l : List ((Int × Int) × Int)) (W : World) : Prop where
  heap : ∃ v, HeapP own W b (.func (.func of) #[] #[]) v l puts
  rep : Rep key l (S.drop kp) puts
  le : kp ≤ S.length ∧ ko ≤ kp
  ptr : W.heap[Bh]? = some (.cells #[.pointer (some ⟨b, 0, none⟩)] 24 (0, 0))
  out : ∃ v, Boxed W Bo 29 v ∧ W.ownsRow w0.heap.size 27 2 v ko (flatVP ((S.take ko).map Prod.fst)) ∧ ∀ g, v.ownBlock = some g → g ≠ B ∧ g ≠ B + 1 ∧ g ≠ Bo ∧ g ≠ Bh ∧ g ∉ own
  free : ∀ k ∈ own, k ≠ B ∧ k ≠ B + 1 ∧ k ≠ Bo ∧ k ≠ Bh
  but : But (Bo :: own) w0 W
  ne : Bo ≠ B ∧ Bo ≠ B + 1 ∧ Bo ≠ Bh ∧ Bh ≠ B ∧ Bh ≠ B + 1
section
variable {key : Int × Int → Int} {of b Bh Bo B : Nat} {own : List Nat} {puts : Int} {S : List ((Int × Int) × Int)} {w0 : World} {kp ko : Nat} {l : List ((Int × Int) × Int)} {W : World}
/-- What turns none of its blocks leaves it as it was. -/
theorem DrnJ.keep (h : DrnJ key of b Bh Bo B own puts S w0 kp ko l W) {own2 : List Nat} {W' : World} (hb : But own2 W W') (ho : ∀ k ∈ own2, k ∉ own ∧ k ≠ Bh ∧ k ≠ Bo ∧ w0.heap.size ≤ k ∧ ∀ v, Boxed W Bo 29 v → v.ownBlock ≠ some k) : DrnJ key of b Bh Bo B own puts S w0 kp ko l W' := by
  obtain ⟨v, hv⟩ := h.heap
  obtain ⟨u, h1, h2, h3⟩ := h.out
  refine ⟨⟨v, hv.but hb (fun k hk hk2 => (ho k hk2).1 hk)⟩, h.rep, h.le, (hb.block Bh (Array.getElem?_eq_some_iff.1 h.ptr).1 (fun hk => (ho _ hk).2.1 rfl)).trans h.ptr,
    ⟨u, (hb.block Bo h1.lt (fun hk => (ho _ hk).2.2.1 rfl)).trans h1, row_but h2 hb (fun g hg hk => (ho _ hk).2.2.2.2 u h1 hg), h3⟩, h.free, h.but.trans hb (fun k hk => .inr (ho k hk).2.2.2.1), h.ne⟩
theorem DrnJ.noRec (hB : w0.heap.size ≤ B) : NoRec B (DrnJ key of b Bh Bo B own puts S w0 kp ko l) := fun W o k hk h =>
  h.keep (But.putObj W k o) (fun j hj => by
    simp at hj; subst hj
    obtain ⟨u, h1, h2, h3⟩ := h.out
    have hn := h.ne
    rcases hk with rfl | rfl
    · exact ⟨fun hm => (h.free _ hm).1 rfl, fun e => hn.2.2.2.1 e.symm, fun e => hn.1 e.symm, hB, fun v hv e => (h3 _ (boxed_eq hv h1 ▸ e)).1 rfl⟩
    · exact ⟨fun hm => (h.free _ hm).2.1 rfl, fun e => hn.2.2.2.2 e.symm, fun e => hn.2.1 e.symm, by omega, fun v hv e => (h3 _ (boxed_eq hv h1 ▸ e)).2.1 rfl⟩)
theorem DrnJ.alloc (h : DrnJ key of b Bh Bo B own puts S w0 kp ko l W) (o : Obj) : DrnJ key of b Bh Bo B own puts S w0 kp ko l (W.alloc o) := h.keep (own2 := []) (But.of_below ((Below.refl _ _).alloc (Nat.le_refl _) _)) (fun k hk => by cases hk)
/-- The first one is taken out. -/
theorem DrnJ.pop (h : DrnJ key of b Bh Bo B own puts S w0 kp ko l W) (hl : l ≠ []) {W' : World} (hb : But own W W') (hh : ∃ v, HeapP own W' b (.func (.func of) #[] #[]) v (takeL' (ahK key) l) puts) :
    DrnJ key of b Bh Bo B own puts S w0 (kp + 1) ko (takeL' (ahK key) l) W' ∧ S[kp]? = some (at' l 0) := by
  obtain ⟨u, h1, h2, h3⟩ := h.out
  have hlen := h.rep.len
  have hlt : kp < S.length := by
    apply Decidable.byContradiction
    intro hge
    rw [List.drop_of_length_le (by omega)] at hlen
    exact hl (List.eq_nil_of_length_eq_zero hlen.symm)
  have hd : S.drop kp = S[kp] :: S.drop (kp + 1) := List.drop_eq_getElem_cons hlt
  have hr := h.rep
  rw [hd] at hr
  obtain ⟨r1, r2⟩ := hr.take
  refine ⟨⟨hh, r2, ⟨hlt, by have := h.le.2; omega⟩, (hb.block Bh (Array.getElem?_eq_some_iff.1 h.ptr).1 (fun hk => (h.free _ hk).2.2.2 rfl)).trans h.ptr,
    ⟨u, (hb.block Bo h1.lt (fun hk => (h.free _ hk).2.2.1 rfl)).trans h1, row_but h2 hb (fun g hg hk => (h3 g hg).2.2.2.2 hk), h3⟩, h.free, h.but.trans hb (fun k hk => .inl (List.mem_cons_of_mem _ hk)), h.ne⟩, ?_⟩
  rw [List.getElem?_eq_getElem hlt, r1]
/-- One more is kept. -/
theorem DrnJ.app (h : DrnJ key of b Bh Bo B own puts S w0 kp ko l W) {x : Int × Int} {p : Int} (hx : S[ko]? = some (x, p)) (hlt : ko < kp) (hz : B + 2 ≤ W.heap.size) {v v' : Value} (hv : Boxed W Bo 29 v) (ob : Obj) {w1 : World}
    (hown : w1.ownsRow w0.heap.size 27 2 v' (ko + 1) (flatVP ((S.take ko).map Prod.fst) ++ [.int .i64 x.1, .int .i64 x.2])) (hg : (W.alloc ob).grownBy w1 v.ownBlock) (hat : v'.ownBlock = v.ownBlock ∨ v'.ownBlock = some (W.alloc ob).heap.size) :
    DrnJ key of b Bh Bo B own puts S w0 kp (ko + 1) l (w1.setCell ⟨Bo, 0, none⟩ v') ∧ SameRec B W (w1.setCell ⟨Bo, 0, none⟩ v') := by
  obtain ⟨u, h1, h2, h3⟩ := h.out
  obtain rfl := boxed_eq hv h1
  have hlv := World.ownsRow.lt h2
  have hBo := h1.lt
  have hsz := hg.size
  have hsame : ∀ k, k < W.heap.size → v.ownBlock ≠ some k → k ≠ Bo → (w1.setCell ⟨Bo, 0, none⟩ v').heap[k]? = W.heap[k]? := fun k hk hne hkb => by
    rw [Below.heap_setCell _ _ _ _ (by simpa using hkb), hg.block k (by simp; omega) (fun e => hne e.symm), heap_alloc_old' W ob k hk]
  obtain ⟨vv, hv2⟩ := h.heap
  have hbut : But (Bo :: (match v.ownBlock with | some g => [g] | none => [])) W (w1.setCell ⟨Bo, 0, none⟩ v') :=
    (((But.refl _ W).alloc ob).grown hg (fun k hk => .inl (by rw [hk]; simp))).set (.inl (by simp)) _
  have hvo : ∀ k ∈ (match v.ownBlock with | some g => [g] | none => []), v.ownBlock = some k := fun k hk => by
    cases e : v.ownBlock with
    | none => rw [e] at hk; cases hk
    | some g => rw [e] at hk; simp at hk; rw [hk]
  have hne := h.ne
  refine ⟨⟨⟨vv, hv2.but hbut (fun k hko hk2 => ?_)⟩, h.rep, ⟨h.le.1, hlt⟩, ?_, ⟨v', ?_, ?_, fun g hg' => ?_⟩, h.free, h.but.trans hbut (fun k hk => ?_), h.ne⟩, hsame B (by omega) (fun e => (h3 _ e).1 rfl) (fun e => hne.1 e.symm), hsame (B + 1) (by omega) (fun e => (h3 _ e).2.1 rfl) (fun e => hne.2.1 e.symm)⟩
  · rcases List.mem_cons.1 hk2 with rfl | hk2
    · exact (h.free _ hko).2.2.1 rfl
    · exact (h3 _ (hvo _ hk2)).2.2.2.2 hko
  · exact (hsame Bh (Array.getElem?_eq_some_iff.1 h.ptr).1 (fun e => (h3 _ e).2.2.2.1 rfl) (fun e => hne.2.2.1 e.symm)).trans h.ptr
  · have hb1 : Boxed w1 Bo 29 v := (hv.alloc ob).kept hg (fun e => (h3 _ e.symm).2.2.1 rfl)
    exact hb1.set v'
  · rw [take_snoc hx, List.map_append]
    show World.ownsRow _ _ _ _ _ _ (flatVP (_ ++ [x]))
    rw [flatVP_app]
    refine row_but hown ((But.refl [Bo] w1).set (.inl (by simp)) _) (fun g hg' hk => ?_)
    simp at hk
    subst hk
    rcases hat with e | e
    · exact (h3 g (e ▸ hg')).2.2.1 rfl
    · rw [hg'] at e; simp at e; omega
  · rcases hat with e | e
    · exact h3 g (e ▸ hg')
    · rw [hg'] at e
      have hgz : g = W.heap.size + 1 := by simpa using e
      have hbh := (Array.getElem?_eq_some_iff.1 h.ptr).1
      exact ⟨by omega, by omega, by omega, by omega, fun hm => by have := hv2.lt _ hm; omega⟩
  · rcases List.mem_cons.1 hk with rfl | hk
    · exact .inl (List.mem_cons_self)
    · exact .inr (hlv _ (hvo _ hk)).1
end
end Go.Proofs.Ytpdncgjepfgnjaa
