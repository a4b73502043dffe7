/- slices.SortFunc over atoms, in order of their sets. -/
import Derived.Test.YtfgppkmhjjnnnaaDoorAtoN
import Derived.Test.YtfgppkmhjjnnnaaDoorShelfS
import Derived.Shelf.SlSortCmp.NoneTotal
namespace Go.Proofs.YtfgppkmhjjnnnaaDoor
open Go.RowKit Go.Shelf Go.Lib Go.Sort
set_option linter.unusedVariables false
attribute [local go_sem] Oper.semAt_some

abbrev At := {x : Ent // okS x.1}
instance : Inhabited At := ⟨⟨(0, 0), by unfold okS; decide⟩⟩
def encA (x : At) : List Value := [.int .u64 (x.1.1 : Nat), .int .i64 x.1.2]
def cfA (x y : At) : Int := cmpS x.1.1 y.1.1
theorem ltA (x y : At) : ltOf cfA x y = ltS x.1.1 y.1.1 := rfl
theorem swoA : SWO (ltOf cfA) where
  irrefl x := by rw [ltA]; exact sOrd.irr _
  trans x y z h1 h2 := by rw [ltA] at *; exact sOrd.trans _ _ _ h1 h2
  ntrans x y z h1 h2 := by
    rw [ltA] at *
    cases h : ltS x.1.1 z.1.1 with
    | false => rfl
    | true =>
      exfalso
      by_cases e : x.1.1 = y.1.1
      · rw [e, h2] at h; cases h
      · have := sOrd.trans _ _ _ (sOrd.total _ _ e h1) h
        rw [h2] at this; cases this
theorem flatK_A (d : Array At) : (flatK encA 2 d).toList = flatVE (d.toList.map Subtype.val) := by
  apply List.ext_getElem?
  intro t
  by_cases ht : t < d.size * 2
  · have hi : t / 2 < d.size := by omega
    have hx : (d.toList.map Subtype.val)[t / 2]? = some (d[t / 2]'hi).1 := by simp [hi]
    obtain ⟨h0, h1⟩ := flatVE_get _ _ _ hx
    have e : (flatK encA 2 d).toList[t]? = some ((encA d[t / 2]!)[t % 2]!) := by
      unfold flatK
      simp [ht]
    rw [e, getElem!_pos d (t / 2) hi]
    rcases Nat.mod_two_eq_zero_or_one t with hm | hm
    · have e2 : t / 2 * 2 = t := by omega
      rw [e2] at h0
      rw [h0, hm]; rfl
    · have e2 : t / 2 * 2 + 1 = t := by omega
      rw [e2] at h1
      rw [h1, hm]; rfl
  · have h1 : (flatK encA 2 d).toList.length ≤ t := by simp; omega
    have h2 : (flatVE (d.toList.map Subtype.val)).length ≤ t := by rw [flatVE_len]; simp; omega
    rw [List.getElem?_eq_none h1, List.getElem?_eq_none h2]
section
variable {W : World} {base g n cap : Nat} {l : List Ent} {d : Array At}
theorem holdsA (hd : d.toList.map Subtype.val = l) (h : W.ownsRow base 28 2 (.slice (some ⟨g, 0, none⟩) n cap) n (flatVE l)) : HoldsK encA 2 W g 0 d := by
  obtain ⟨hl, h2⟩ := h
  rcases h2 with ⟨e, _⟩ | ⟨g', cap', cur, e, _, hg, hn, _, hc, ht⟩
  · cases e
  · cases e
    have hds : d.size = n := by
      rw [flatVE_len] at hl
      have := congrArg List.length hd
      simp at this
      omega
    intro j hj
    rw [size_flatK, hds] at hj
    have hjc : j < cur.size := by
      rw [hc]
      have := Nat.mul_le_mul_right 2 hn
      omega
    refine ⟨?_, frozen_of_row W g _ _ _ hg⟩
    have e1 : (flatK encA 2 d).toList[j]? = cur.toList[j]? := by
      rw [flatK_A, hd, ← ht, List.getElem?_take, if_pos hj]
    have e2 : (flatK encA 2 d)[j]! = cur[j] := by
      have hjs : j < (flatK encA 2 d).size := by rw [size_flatK, hds]; exact hj
      rw [getElem!_pos _ j hjs]
      have e3 : (flatK encA 2 d)[j]? = some cur[j] := by simpa [hjc] using e1
      rw [Array.getElem?_eq_getElem hjs] at e3
      exact Option.some.inj e3
    rw [Nat.zero_add, show id (flatK encA 2 d)[j]! = (flatK encA 2 d)[j]! from rfl, e2]
    exact cell_of_row W g j _ _ _ hg |>.trans (by simp [hjc])
theorem blockA {o : Obj} (hg : W.heap[g]? = some o) (m : Nat) (d' : Array At) (os : Array Obj) (hlt : g < W.heap.size) : (sortWorldK encA 2 W g 0 m d' os).heap[g]? = some (onCells (putCells id 0 (flatK encA 2 d')) o) := by
  unfold sortWorldK putRowK putRow
  rw [heap_grow_old _ _ (by simpa [mapBlock, ahead] using hlt)]
  simp only [mapBlock, Array.getElem?_modify, if_true]
  rw [show (Sort.ahead W m).heap = W.heap from rfl, hg]
  rfl
theorem butA (m : Nat) (d' : Array At) (os : Array Obj) : But [g] W (sortWorldK encA 2 W g 0 m d' os) := by
  unfold sortWorldK putRowK putRow
  refine ⟨rfl, rfl, rfl, by simp [grow, mapBlock, ahead], fun k hk hne => ?_⟩
  rw [heap_grow_old _ _ (by simpa [mapBlock, ahead] using hk)]
  simp only [mapBlock, Array.getElem?_modify]
  rw [if_neg (fun e => hne (by simp [e]))]
  rfl
theorem rowA (d' : Array At) (hs : d'.size = n) (m : Nat) (os : Array Obj) (h : W.ownsRow base 28 2 (.slice (some ⟨g, 0, none⟩) n cap) n (flatVE l)) :
    (sortWorldK encA 2 W g 0 m d' os).ownsRow base 28 2 (.slice (some ⟨g, 0, none⟩) n cap) n (flatVE (d'.toList.map Subtype.val)) := by
  obtain ⟨hl, h2⟩ := h
  rcases h2 with ⟨e, _⟩ | ⟨g', cap', cur, e, hb, hg, hn, hm, hc, ht⟩
  · cases e
  · cases e
    have hglt : g < W.heap.size := (Array.getElem?_eq_some_iff.1 hg).1
    have hnc : n * 2 ≤ cur.size := by rw [hc]; exact Nat.mul_le_mul_right 2 hn
    refine ⟨by rw [flatVE_len]; simp [hs], .inr ⟨g, cap, putCells id 0 (flatK encA 2 d') cur, rfl, hb, by rw [blockA hg m d' os hglt]; rfl, hn, hm, by simp [putCells, hc], ?_⟩⟩
    rw [← flatK_A]
    apply List.ext_getElem?
    intro t
    rw [List.getElem?_take]
    by_cases h : t < n * 2
    · rw [if_pos h]
      have htc : t < cur.size := by omega
      have hts : t < (flatK encA 2 d').size := by rw [size_flatK, hs]; exact h
      simp [putCells, htc, hts, getElem!_pos (flatK encA 2 d') t hts]
      simp [hs, h]
    · rw [if_neg h, List.getElem?_eq_none (by simp [hs]; omega)]
end
set_option maxRecDepth 100000 in
theorem cmpW_any (a b : Nat) (w : World) (ha : okS a) (hb : okS b) :
    Calls Tryd.prog 36 #[.int .u64 (a : Nat), .int .u64 (b : Nat)] w fun e w' => e = .returned (.int .i64 (cmpS a b)) ∧ w' = w.alloc (.cells #[.int .i64 (cmpV (cnt a) (cnt b)), .int .i64 (cmpV a b)] 3) := by
  have hor : cmpS a b = orV (cmpV (cnt a) (cnt b)) (cmpV a b) := rfl
  rw [hor]
  clear hor
  have HO : ∀ x y : Int, Hid (Calls Tryd.prog 45 #[.slice (some ⟨w.heap.size, 0, none⟩) 2 2] (w.alloc (.cells #[.int .i64 x, .int .i64 y] 3)) fun e w' => e = .returned (.int .i64 (orV x y)) ∧ (w.alloc (.cells #[.int .i64 x, .int .i64 y] 3)) = w') :=
    fun x y => Lib.hid (or_any _ x y _ (cell_new_row _ _ _ 0) (cell_new_row _ _ _ 1))
  have HO' := Lib.hid HO; clear HO
  unfold okS at ha hb
  go_enter Tryd.func36, Tryd.ntmps36
  go_wp2_with (first | (go_at_call 27; refine (count_any _ _ (by assumption)).mono ?_; rintro e w' ⟨rfl, rfl⟩) | (go_at_call 46; refine (compareI_any _ _ _).mono ?_; rintro e w' ⟨rfl, rfl⟩) | (go_at_call 47; refine (compareU_any _ _ _).mono ?_; rintro e w' ⟨rfl, rfl⟩) | (go_at_call 45; refine ((HO'.out _ _).out).mono ?_; rintro e w' ⟨rfl, rfl⟩))
  go_ret
  exact ⟨rfl, rfl⟩
set_option maxRecDepth 100000 in
theorem ordCmp (x y : At) (W : World) : Calls Tryd.prog 35 #[.agg #[.int .u64 (x.1.1 : Nat), .int .i64 x.1.2], .agg #[.int .u64 (y.1.1 : Nat), .int .i64 y.1.2]] W fun e w' => e = .returned (.int .i64 (cfA x y)) ∧ ∃ q os', w' = grow (W.drewN q) os' := by
  have hcon := fun W' => cmpW_any x.1.1 y.1.1 W' x.2 y.2
  unfold cfA
  generalize cmpS x.1.1 y.1.1 = r at hcon ⊢
  have HC := Lib.hid hcon
  clear hcon
  go_enter Tryd.func35, Tryd.ntmps35
  go_wp2_with (go_at_call 36; refine (HC.out _).mono ?_; rintro e w' ⟨rfl, rfl⟩)
  go_ret
  exact ⟨rfl, 0, _, by rw [alloc_eq_grow, alloc_eq_grow, alloc_eq_grow, grow_grow, grow_grow]; rfl⟩
theorem cmpLaysA (blk off size : Nat) (w : World) : CmpLays Tryd.prog 35 #[] encA 2 cfA blk off size w := fun _ _ _ _ x y => ordCmp x y _

theorem sort_any {W : World} {base : Nat} {v : Value} {l : List Ent} (hok : ∀ x ∈ l, okS x.1) (hlen : l.length ≤ 1000000) (h : W.ownsRow base 28 2 v l.length (flatVE l)) (hbase : base ≤ W.heap.size) :
    Calls Tryd.prog 34 #[v, .func (.func 35) #[] #[]] W fun e w' => e = .returned (.tuple #[]) ∧ ∃ S, S.Perm l ∧ (S.Pairwise fun x y => ltS y.1 x.1 = false) ∧ w'.ownsRow base 28 2 v S.length (flatVE S) ∧ ∃ own, (∀ k ∈ own, v.ownBlock = some k) ∧ But own W w' := by
  rcases h.2 with ⟨rfl, h0⟩ | ⟨g, cap, cur, rfl, hb, hg, hn, hm, hc, ht⟩
  · have hl : l = [] := List.eq_nil_of_length_eq_zero h0
    subst hl
    refine (AnyF.slices_SortFunc_none Tryd.sortA none 0 _ W).mono ?_
    rintro e w' ⟨rfl, rfl⟩
    exact ⟨rfl, [], List.Perm.refl _, List.Pairwise.nil, h, [], fun _ hk => (nomatch hk), But.refl _ _⟩
  · obtain ⟨d, hd⟩ : ∃ d : Array At, d.toList.map Subtype.val = l := ⟨(l.attach.map fun x => (⟨x.1, hok x.1 x.2⟩ : At)).toArray, by rw [List.toList_toArray, List.map_map]; exact List.attach_map_subtype_val l⟩
    have hds : d.size = l.length := by have := congrArg List.length hd; simpa using this
    have hglt : g < W.heap.size := (Array.getElem?_eq_some_iff.1 hg).1
    have hH := holdsA hd h
    rw [← hds]
    have hcon := AnyQ.slices_SortFunc Tryd.sortA 2 Tryd.isAgg28 Tryd.sizeOf28 encA (fun _ => rfl) (fun x v hv => by simp [encA] at hv; rcases hv with rfl | rfl <;> rfl) cfA swoA 35 #[] g 0 cap d W (enters_of Tryd.func35 (by kernel_rfl) rfl) (cmpLaysA g 0 d.size W) hH hglt (by omega)
    refine Calls.mono hcon ?_
    rintro e w' ⟨rfl, d', m, os, ⟨p1, _, p3⟩, hs, rfl⟩
    have hds' : d'.size = l.length := p1.trans hds
    refine ⟨rfl, d'.toList.map Subtype.val, ?_, ?_, ?_, [g], fun k hk => by simp at hk; rw [hk]; rfl, butA m d' os⟩
    · rw [← hd]
      refine List.Perm.map _ ?_
      have e1 : d'.extract 0 d.size = d' := by rw [← p1]; simp
      have e2 : d.extract 0 d.size = d := by simp
      rw [e1, e2] at p3
      exact p3
    · rw [List.pairwise_map, List.pairwise_iff_getElem]
      intro i j hi hj hij
      simp at hi hj
      have h2 := hs i j (Nat.zero_le _) hij (by omega)
      rw [ltA, getElem!_pos d' i hi, getElem!_pos d' j hj] at h2
      simpa using h2
    · have hr := rowA d' hds' m os h
      have : (d'.toList.map Subtype.val).length = l.length := by simp [hds']
      rw [this, hds]
      exact hr
end Go.Proofs.YtfgppkmhjjnnnaaDoor
