/- saleroomlaw07.same: a journal and the document's, that are the same. -/
import Derived.Test.YtpllbojmonfeiaaRefDj
import Derived.Test.YtpllbojmonfeiaaRegionSeq
import Derived.Test.YtpllbojmonfeiaaJrnAl
namespace Go.Proofs.Ytpllbojmonfeiaa
open Go.RowKit SumM
set_option linter.unusedVariables false
attribute [local go_sem] Oper.semAt_some

theorem cnt_recs {D : DevS} {r a c f : Nat} (ok : D.Ok) (h : JOk D r a c f) : c = (recsL (D.row (r : Nat))).length := by
  obtain ⟨ks, h1, h2, h3, _, _, h6⟩ := clean_reg (ok.row (r : Nat)).2 h.kept h.age h.fin
  rw [h1]
  unfold recsL
  rw [bods_taken h2 h3, ← h6]
  unfold cntK bodK
  rw [List.length_map]
theorem row_eq {D : DevS} {r : Nat} (h : r = 0 ∨ r = 1) : (if r = 0 then D.r0 else D.r1) = D.row (r : Nat) := by rcases h with rfl | rfl <;> rfl
/-- What has tells, told as one value. -/
def HasS (W : World) (u : Value) (S : List Nat) (R : List (List Nat)) : Prop := ∃ n sv rv, u = hasV sv rv ∧ HasAt n W sv rv S R
theorem HasS.below {W W' : World} {u : Value} {S : List Nat} {R : List (List Nat)} (h : HasS W u S R) (hb : Below W.heap.size W W') : HasS W' u S R := by
  obtain ⟨n, sv, rv, e, h⟩ := h
  exact ⟨n, sv, rv, e, h.below hb⟩
def SlS (W : World) (u : Value) (l : List Nat) : Prop := ∃ p n c, u = .slice p n c ∧ Sl encY W.heap.size W (.slice p n c) l
theorem SlS.below {W W' : World} {u : Value} {l : List Nat} (h : SlS W u l) (hb : Below W.heap.size W W') : SlS W' u l := by
  obtain ⟨p, n, c, e, h⟩ := h
  exact ⟨p, n, c, e, (h.below hb).mono hb.size⟩
theorem dbytes_st {w W : World} {own : List Nat} {jb b : Nat} {D : DevS} {r a c f : Nat} (k : Nat) (h : St w W own jb b D r a c f) :
    Calls Try.prog 33 #[.pointer (some ⟨b, 0, none⟩), .int .i64 (k : Nat)] W fun e W' => ∃ v, e = .returned v ∧ SlS W' v (D.row (k : Nat)) ∧ Below W.heap.size W W' := by
  obtain ⟨x, y, d⟩ := h.dev
  refine (bytes_any (k : Nat) W d).mono ?_
  rintro e W' ⟨v, rfl, hown, hb⟩
  have hs := Sl.of_owns hown
  obtain ⟨p, n, c, rfl⟩ := ownsRow_form hown
  exact ⟨_, rfl, ⟨p, n, c, rfl, hs⟩, hb⟩
/-- The document's Same, of what has tells and of a document's journal. -/
theorem dsame_has {n : Nat} {W : World} {sv rv : Value} {S : List Nat} {R : List (List Nat)} (h : HasAt n W sv rv S R) {p0 p1 ps pr : Option Addr} {n0 c0 n1 c1 ns cs nr cr : Nat} {cap reg ag en : Int}
    (hJ : Sl encY W.heap.size W (.slice ps ns cs) S ∧ Parts W.heap.size W (.slice pr nr cr) R) (hf : FewL S R) (_ : True) :
    Calls Try.prog 14 #[hasV sv rv, jdV (.slice p0 n0 c0) (.slice p1 n1 c1) cap reg ag (.slice ps ns cs) (.slice pr nr cr) en] W fun e w' => e = .returned (.bool true) ∧ Below W.heap.size W w' := by
  have hS := Sl.of_owns h.1
  have hP := recs_parts h.2
  obtain ⟨a1, k1, rfl⟩ := hS.form
  obtain ⟨a3, k3, rfl⟩ := hP.form
  have := rsame_any none 0 0 none 0 0 0 0 0 0 p0 n0 c0 p1 n1 c1 cap reg ag en a1 ps S.length k1 ns cs a3 pr R.length k3 nr cr S S R R W hS hJ.1 hP hJ.2 hf.1 hf.1 hf.2.1 hf.2.1 hf.2.2 hf.2.2
  rw [decide_eq_true rfl, decide_eq_true rfl] at this
  exact this
structure SnRc (W : World) (ps pr : Option Addr) (ns cs nr cr : Nat) (S : List Nat) (R : List (List Nat)) : Prop where
  s : Sl encY W.heap.size W (.slice ps ns cs) S
  r : Parts W.heap.size W (.slice pr nr cr) R
theorem SnRc.below {W W' : World} {ps pr : Option Addr} {ns cs nr cr : Nat} {S : List Nat} {R : List (List Nat)} (h : SnRc W ps pr ns cs nr cr S R) {B : World} (hb : Below B.heap.size B W') (he : B = W) : SnRc W' ps pr ns cs nr cr S R := by
  subst he
  exact ⟨(h.s.below hb).mono hb.size, (h.r.below hb).mono hb.size⟩

set_option maxRecDepth 100000 in
set_option maxHeartbeats 16000000 in
theorem jsame_any {w0 w : World} {own : List Nat} {jb b : Nat} {D : DevS} {r a c f : Nat} (h : St w0 w own jb b D r a c f) (v : Value) {E : List Nat} (hJ : DocJ E w v D.r0 D.r1 D.cap r a f) :
    Calls Try.prog 30 #[.pointer (some ⟨b, 0, none⟩), .pointer (some ⟨jb, 0, none⟩), v] w fun e w' => e = .returned (.bool true) ∧ Below w.heap.size w w' := by
  have hz := zjd
  obtain ⟨p0, p1, ps, pr, n0, c0, n1, c1, ns, cs, nr, cr, rfl, h1, h2, h3, h4', _, _, _⟩ := hJ.val
  have h4 := h4'.parts
  clear h4'
  rw [row_eq h.ok.reg] at h3 h4
  have hcn := cnt_recs h.dok h.ok
  have hnl := h4.len
  have hfw := few_of h.row
  have hcl := cnt_le h.dok h.ok
  have hcc : c = nr := by rw [hcn, hnl]
  obtain ⟨N, hN⟩ : ∃ N, w.heap.size = N := ⟨_, rfl⟩
  obtain ⟨w1, hw1⟩ : ∃ w1, w.alloc (.cells (jdC (.slice p0 n0 c0) (.slice p1 n1 c1) (D.cap : Nat) (r : Nat) (a : Nat) (.slice ps ns cs) (.slice pr nr cr) (f : Nat)) rjT) = w1 := ⟨_, rfl⟩
  have rJ : w1.heap[N]? = some (.cells (jdC (.slice p0 n0 c0) (.slice p1 n1 c1) (D.cap : Nat) (r : Nat) (a : Nat) (.slice ps ns cs) (.slice pr nr cr) (f : Nat)) rjT (0, 0)) := by rw [← hw1, ← hN]; exact World.alloc_heap_new w _
  have hb1 : Below w.heap.size w w1 := by rw [← hw1]; exact (Below.refl _ _).alloc (Nat.le_refl _) _
  have HST := Lib.hid (h.below hb1)
  have HJX := Lib.hid rJ
  have HSR : Hid (SnRc w1 ps pr ns cs nr cr (snapL (D.row (r : Nat))) (recsL (D.row (r : Nat)))) := Lib.hid ⟨(h3.below hb1).mono hb1.size, (h4.below hb1).mono hb1.size⟩
  have HS0 := Lib.hid ((h1.below hb1).mono hb1.size)
  have HS1 := Lib.hid ((h2.below hb1).mono hb1.size)
  have HL0 : Hid (D.r0.length ≤ 1048576) := Lib.hid (Nat.le_trans h.dok.l0 h.dok.cap)
  have HL1 : Hid (D.r1.length ≤ 1048576) := Lib.hid (Nat.le_trans h.dok.l1 h.dok.cap)
  have HFW := Lib.hid hfw
  have HB1 := Lib.hid hb1
  have HNN := Lib.hid hN
  have HW1 := Lib.hid hw1
  have hc1 : c ≤ 1048576 := hcl.1
  have hf1 : f ≤ 1048576 := hcl.2.1
  have hd1 : D.cap ≤ 1048576 := h.dok.cap
  have hcf : f ≤ D.cap := hcl.2.2
  have HCC := Lib.hid hcc
  clear h hJ h1 h2 h3 h4 hcn hnl hfw hcl hN hw1 rJ hb1
  subst hcc
  go_enter Try.func30, Try.ntmps30
  go_upto_region 1 with fail
  rw [HNN.out, HW1.out]
  clear HW1
  refine region_seq (l := [_, _, _, _, _, _, _, _, _, _, _, _, _, _, _, _, _, _, _, _, _, _, _, _, _, _, _, _, _, _, _, _, _, _, _, _, _, _, _, _, _, _, _]) (t := [_]) (by kernel_rfl) (by decide +kernel) (by decide +kernel) (fun v => { tmps := #[Value.pointer (some ⟨b, 0, none⟩), Value.pointer (some ⟨jb, 0, none⟩), jdV (Value.slice p0 n0 c0) (Value.slice p1 n1 c1) ((D.cap : Int)) ((r : Int)) ((a : Int)) (Value.slice ps ns cs) (Value.slice pr c cr) (f : Int), undef, undef, Value.pointer (some ⟨N, 0, none⟩), Value.bool false, v 0, v 1, v 2, v 3, v 4, v 5, v 6, v 7, v 8, v 9, v 10, v 11, v 12, v 13, v 14, v 15, v 16, v 17, v 18, v 19, v 20, v 21, v 22, v 23, v 24, v 25, v 26, v 27, v 28, v 29, v 30, v 31, v 32, v 33, v 34, v 35, v 36, v 37, v 38, v 39, v 40, v 41, v 42], defers := [] }) (fun W => Below w1.heap.size w1 W) (fun i' u W => match i' with
        | 0 => u = .pointer (some ⟨jb, 0, none⟩)
        | 1 => HasS W u (snapL (D.row (r : Nat))) (recsL (D.row (r : Nat)))
        | 2 => u = jdV (.slice p0 n0 c0) (.slice p1 n1 c1) (D.cap : Nat) (r : Nat) (a : Nat) (.slice ps ns cs) (.slice pr c cr) (f : Nat)
        | 3 => u = .bool true
        | 4 => u = .bool true
        | 5 => u = .pointer (some ⟨jb, 0, none⟩)
        | 6 => u = .int .i64 (c : Nat)
        | 7 => u = .pointer (some ⟨N, 6, none⟩)
        | 8 => u = .slice pr c cr
        | 9 => u = .int .i64 (c : Nat)
        | 10 => u = .bool true
        | 11 => u = .bool true
        | 12 => u = .bool true
        | 13 => u = .pointer (some ⟨jb, 0, none⟩)
        | 14 => u = .int .u64 (a : Nat)
        | 15 => u = .pointer (some ⟨N, 4, none⟩)
        | 16 => u = .int .u64 (a : Nat)
        | 17 => u = .bool true
        | 18 => u = .bool true
        | 19 => u = .bool true
        | 20 => u = .pointer (some ⟨jb, 0, none⟩)
        | 21 => u = .int .i64 ((D.cap : Int) - (f : Nat))
        | 22 => u = .pointer (some ⟨N, 2, none⟩)
        | 23 => u = .int .i64 (D.cap : Nat)
        | 24 => u = .pointer (some ⟨N, 7, none⟩)
        | 25 => u = .int .i64 (f : Nat)
        | 26 => u = .int .i64 ((D.cap : Int) - (f : Nat))
        | 27 => u = .bool true
        | 28 => u = .bool true
        | 29 => u = .bool true
        | 30 => u = .pointer (some ⟨b, 0, none⟩)
        | 31 => SlS W u D.r0
        | 32 => u = .pointer (some ⟨N, 0, none⟩)
        | 33 => u = .slice p0 n0 c0
        | 34 => u = .bool true
        | 35 => u = .bool true
        | 36 => u = .bool true
        | 37 => u = .pointer (some ⟨b, 0, none⟩)
        | 38 => SlS W u D.r1
        | 39 => u = .pointer (some ⟨N, 1, none⟩)
        | 40 => u = .slice p1 n1 c1
        | 41 => u = .bool true
        | 42 => u = .bool true
        | _ => True) (fun A B => Below A.heap.size A B) ?hC ?hV (fun _ => undef) ?h0 ?hop ?hend
  case hC => exact fun A B h h2 => h.trans (h2.mono h.size)
  case h0 => exact (Below.refl _ w1).drew
  case hV =>
        intro i' u A B h hx
        match i', h with
          | 0, h => exact h
          | 1, h => exact h.below hx
          | 2, h => exact h
          | 3, h => exact h
          | 4, h => exact h
          | 5, h => exact h
          | 6, h => exact h
          | 7, h => exact h
          | 8, h => exact h
          | 9, h => exact h
          | 10, h => exact h
          | 11, h => exact h
          | 12, h => exact h
          | 13, h => exact h
          | 14, h => exact h
          | 15, h => exact h
          | 16, h => exact h
          | 17, h => exact h
          | 18, h => exact h
          | 19, h => exact h
          | 20, h => exact h
          | 21, h => exact h
          | 22, h => exact h
          | 23, h => exact h
          | 24, h => exact h
          | 25, h => exact h
          | 26, h => exact h
          | 27, h => exact h
          | 28, h => exact h
          | 29, h => exact h
          | 30, h => exact h
          | 31, h => exact h.below hx
          | 32, h => exact h
          | 33, h => exact h
          | 34, h => exact h
          | 35, h => exact h
          | 36, h => exact h
          | 37, h => exact h
          | 38, h => exact h.below hx
          | 39, h => exact h
          | 40, h => exact h
          | 41, h => exact h
          | 42, h => exact h
          | k + 43, h => trivial
  case hop =>
          simp only [AllDo]
          refine ⟨?o0, ?o1, ?o2, ?o3, ?o4, ?o5, ?o6, ?o7, ?o8, ?o9, ?o10, ?o11, ?o12, ?o13, ?o14, ?o15, ?o16, ?o17, ?o18, ?o19, ?o20, ?o21, ?o22, ?o23, ?o24, ?o25, ?o26, ?o27, ?o28, ?o29, ?o30, ?o31, ?o32, ?o33, ?o34, ?o35, ?o36, ?o37, ?o38, ?o39, ?o40, ?o41, ?o42, trivial⟩
          all_goals intro v W hc hd Q hQ
          all_goals simp [Region.binds] at hd
          case o0 =>
            first | rw [if_pos (show Region.wanted _ _ = true from rfl)] | (simp only [hd]; rw [if_pos (show Region.wanted _ _ = true from rfl)])
            go_wp2
            first | exact ⟨by simp [updV, hd], Below.refl _ _⟩ | exact ⟨by simp [updV], Below.refl _ _⟩ | (refine ⟨_, ?_, Below.refl _ _, rfl⟩; simp [updV, hd])
          case o1 =>
            have HH := Lib.hid (has_st (HST.out.below hc))
            go_wp2_with fail
            refine HH.out.mono ?_
            rintro e W' ⟨sv, rv, rfl, hh, hb'⟩
            have HX : Hid (HasS W' (hasV sv rv) (snapL (D.row (r : Nat))) (recsL (D.row (r : Nat)))) := Lib.hid ⟨W.heap.size, sv, rv, rfl, hh⟩
            clear hh
            obtain ⟨VV, hVV⟩ : ∃ VV, hasV sv rv = VV := ⟨_, rfl⟩
            rw [hVV] at HX ⊢
            clear hVV
            go_wp2
            first | exact ⟨VV, by simp [updV, hd], hb', HX.out⟩ | exact ⟨by simp [updV, hd], hb', HX.out⟩
          case o2 =>
            have jc0 := (cellsJ8 ((hc.block N (Array.getElem?_eq_some_iff.1 HJX.out).1).trans HJX.out)).1
            have jc1 := (cellsJ8 ((hc.block N (Array.getElem?_eq_some_iff.1 HJX.out).1).trans HJX.out)).2.1
            have jc2 := (cellsJ8 ((hc.block N (Array.getElem?_eq_some_iff.1 HJX.out).1).trans HJX.out)).2.2.1
            have jc3 := (cellsJ8 ((hc.block N (Array.getElem?_eq_some_iff.1 HJX.out).1).trans HJX.out)).2.2.2.1
            have jc4 := (cellsJ8 ((hc.block N (Array.getElem?_eq_some_iff.1 HJX.out).1).trans HJX.out)).2.2.2.2.1
            have jc5 := (cellsJ8 ((hc.block N (Array.getElem?_eq_some_iff.1 HJX.out).1).trans HJX.out)).2.2.2.2.2.1
            have jc6 := (cellsJ8 ((hc.block N (Array.getElem?_eq_some_iff.1 HJX.out).1).trans HJX.out)).2.2.2.2.2.2.1
            have jc7 := (cellsJ8 ((hc.block N (Array.getElem?_eq_some_iff.1 HJX.out).1).trans HJX.out)).2.2.2.2.2.2.2.1
            first | rw [if_pos (show Region.wanted _ _ = true from rfl)] | (simp only [hd]; rw [if_pos (show Region.wanted _ _ = true from rfl)])
            go_wp2
            first | exact ⟨by simp [updV, hd], Below.refl _ _⟩ | exact ⟨by simp [updV], Below.refl _ _⟩ | (refine ⟨_, ?_, Below.refl _ _, rfl⟩; simp [updV, hd])
          case o3 =>
            obtain ⟨⟨nn, sv, rv, h1, hh⟩, h2⟩ : HasS W (v 1) _ _ ∧ v 2 = _ := by first | exact hd | exact ⟨hd.1, hd.2.1⟩
            have HSM := Lib.hid (dsame_has (p0 := p0) (p1 := p1) (n0 := n0) (c0 := c0) (n1 := n1) (c1 := c1) (cap := (D.cap : Nat)) (reg := (r : Nat)) (ag := (a : Nat)) (en := (f : Nat)) hh ⟨((HSR.out.s.below hc).mono hc.size), ((HSR.out.r.below hc).mono hc.size)⟩ HFW.out trivial)
            clear hh hd
            go_wp2_with fail
            refine HSM.out.mono ?_
            rintro e W' ⟨rfl, hb'⟩
            go_wp2
            first | exact ⟨by simp [updV, h1, h2], hb'⟩ | exact ⟨.bool true, by simp [updV, h1, h2], hb', rfl⟩
          case o4 =>
            first | rw [if_pos (show Region.wanted _ _ = true from rfl)] | (simp only [hd]; rw [if_pos (show Region.wanted _ _ = true from rfl)])
            go_wp2
            first | exact ⟨by simp [updV, hd], Below.refl _ _⟩ | exact ⟨by simp [updV], Below.refl _ _⟩ | (refine ⟨_, ?_, Below.refl _ _, rfl⟩; simp [updV, hd])
          case o5 =>
            first | rw [if_pos (show Region.wanted _ _ = true from rfl)] | (simp only [hd]; rw [if_pos (show Region.wanted _ _ = true from rfl)])
            go_wp2
            first | exact ⟨by simp [updV, hd], Below.refl _ _⟩ | exact ⟨by simp [updV], Below.refl _ _⟩ | (refine ⟨_, ?_, Below.refl _ _, rfl⟩; simp [updV, hd])
          case o6 =>
            have HH := Lib.hid (count_any W (HST.out.below hc).jrn)
            first | rw [if_pos (show Region.wanted _ _ = true from rfl)] | (simp only [hd]; rw [if_pos (show Region.wanted _ _ = true from rfl)])
            go_wp2_with fail
            refine HH.out.mono ?_
            rintro e W' ⟨rfl, rfl⟩
            go_wp2
            first | exact ⟨by simp [updV, hd], Below.refl _ _⟩ | exact ⟨.int .i64 (c : Nat), by simp [updV, hd], Below.refl _ _, rfl⟩
          case o7 =>
            first | rw [if_pos (show Region.wanted _ _ = true from rfl)] | (simp only [hd]; rw [if_pos (show Region.wanted _ _ = true from rfl)])
            go_wp2
            first | exact ⟨by simp [updV, hd], Below.refl _ _⟩ | exact ⟨by simp [updV], Below.refl _ _⟩ | (refine ⟨_, ?_, Below.refl _ _, rfl⟩; simp [updV, hd])
          case o8 =>
            have jc6 := (cellsJ8 ((hc.block N (Array.getElem?_eq_some_iff.1 HJX.out).1).trans HJX.out)).2.2.2.2.2.2.1
            first | rw [if_pos (show Region.wanted _ _ = true from rfl)] | (simp only [hd]; rw [if_pos (show Region.wanted _ _ = true from rfl)])
            go_wp2
            first | exact ⟨by simp [updV, hd], Below.refl _ _⟩ | exact ⟨by simp [updV], Below.refl _ _⟩ | (refine ⟨_, ?_, Below.refl _ _, rfl⟩; simp [updV, hd])
          case o9 =>
            first | rw [if_pos (show Region.wanted _ _ = true from rfl)] | (simp only [hd]; rw [if_pos (show Region.wanted _ _ = true from rfl)])
            go_wp2
            first | exact ⟨by simp [updV, hd], Below.refl _ _⟩ | exact ⟨by simp [updV], Below.refl _ _⟩ | (refine ⟨_, ?_, Below.refl _ _, rfl⟩; simp [updV, hd])
          case o10 =>
            first | rw [if_pos (show Region.wanted _ _ = true from rfl)] | (simp only [hd]; rw [if_pos (show Region.wanted _ _ = true from rfl)])
            go_wp2
            first | exact ⟨by simp [updV, hd], Below.refl _ _⟩ | exact ⟨by simp [updV], Below.refl _ _⟩ | (refine ⟨_, ?_, Below.refl _ _, rfl⟩; simp [updV, hd])
          case o11 =>
            first | rw [if_pos (show Region.wanted _ _ = true from rfl)] | (simp only [hd]; rw [if_pos (show Region.wanted _ _ = true from rfl)])
            go_wp2
            first | exact ⟨by simp [updV, hd], Below.refl _ _⟩ | exact ⟨by simp [updV], Below.refl _ _⟩ | (refine ⟨_, ?_, Below.refl _ _, rfl⟩; simp [updV, hd])
          case o12 =>
            first | rw [if_pos (show Region.wanted _ _ = true from rfl)] | (simp only [hd]; rw [if_pos (show Region.wanted _ _ = true from rfl)])
            go_wp2
            first | exact ⟨by simp [updV, hd], Below.refl _ _⟩ | exact ⟨by simp [updV], Below.refl _ _⟩ | (refine ⟨_, ?_, Below.refl _ _, rfl⟩; simp [updV, hd])
          case o13 =>
            first | rw [if_pos (show Region.wanted _ _ = true from rfl)] | (simp only [hd]; rw [if_pos (show Region.wanted _ _ = true from rfl)])
            go_wp2
            first | exact ⟨by simp [updV, hd], Below.refl _ _⟩ | exact ⟨by simp [updV], Below.refl _ _⟩ | (refine ⟨_, ?_, Below.refl _ _, rfl⟩; simp [updV, hd])
          case o14 =>
            have HH := Lib.hid (age_any W (HST.out.below hc).jrn)
            first | rw [if_pos (show Region.wanted _ _ = true from rfl)] | (simp only [hd]; rw [if_pos (show Region.wanted _ _ = true from rfl)])
            go_wp2_with fail
            refine HH.out.mono ?_
            rintro e W' ⟨rfl, rfl⟩
            go_wp2
            first | exact ⟨by simp [updV, hd], Below.refl _ _⟩ | exact ⟨.int .u64 (a : Nat), by simp [updV, hd], Below.refl _ _, rfl⟩
          case o15 =>
            first | rw [if_pos (show Region.wanted _ _ = true from rfl)] | (simp only [hd]; rw [if_pos (show Region.wanted _ _ = true from rfl)])
            go_wp2
            first | exact ⟨by simp [updV, hd], Below.refl _ _⟩ | exact ⟨by simp [updV], Below.refl _ _⟩ | (refine ⟨_, ?_, Below.refl _ _, rfl⟩; simp [updV, hd])
          case o16 =>
            have jc4 := (cellsJ8 ((hc.block N (Array.getElem?_eq_some_iff.1 HJX.out).1).trans HJX.out)).2.2.2.2.1
            first | rw [if_pos (show Region.wanted _ _ = true from rfl)] | (simp only [hd]; rw [if_pos (show Region.wanted _ _ = true from rfl)])
            go_wp2
            first | exact ⟨by simp [updV, hd], Below.refl _ _⟩ | exact ⟨by simp [updV], Below.refl _ _⟩ | (refine ⟨_, ?_, Below.refl _ _, rfl⟩; simp [updV, hd])
          case o17 =>
            first | rw [if_pos (show Region.wanted _ _ = true from rfl)] | (simp only [hd]; rw [if_pos (show Region.wanted _ _ = true from rfl)])
            go_wp2
            first | exact ⟨by simp [updV, hd], Below.refl _ _⟩ | exact ⟨by simp [updV], Below.refl _ _⟩ | (refine ⟨_, ?_, Below.refl _ _, rfl⟩; simp [updV, hd])
          case o18 =>
            first | rw [if_pos (show Region.wanted _ _ = true from rfl)] | (simp only [hd]; rw [if_pos (show Region.wanted _ _ = true from rfl)])
            go_wp2
            first | exact ⟨by simp [updV, hd], Below.refl _ _⟩ | exact ⟨by simp [updV], Below.refl _ _⟩ | (refine ⟨_, ?_, Below.refl _ _, rfl⟩; simp [updV, hd])
          case o19 =>
            first | rw [if_pos (show Region.wanted _ _ = true from rfl)] | (simp only [hd]; rw [if_pos (show Region.wanted _ _ = true from rfl)])
            go_wp2
            first | exact ⟨by simp [updV, hd], Below.refl _ _⟩ | exact ⟨by simp [updV], Below.refl _ _⟩ | (refine ⟨_, ?_, Below.refl _ _, rfl⟩; simp [updV, hd])
          case o20 =>
            first | rw [if_pos (show Region.wanted _ _ = true from rfl)] | (simp only [hd]; rw [if_pos (show Region.wanted _ _ = true from rfl)])
            go_wp2
            first | exact ⟨by simp [updV, hd], Below.refl _ _⟩ | exact ⟨by simp [updV], Below.refl _ _⟩ | (refine ⟨_, ?_, Below.refl _ _, rfl⟩; simp [updV, hd])
          case o21 =>
            have HH := Lib.hid (room_st (HST.out.below hc))
            first | rw [if_pos (show Region.wanted _ _ = true from rfl)] | (simp only [hd]; rw [if_pos (show Region.wanted _ _ = true from rfl)])
            go_wp2_with fail
            refine HH.out.mono ?_
            rintro e W' ⟨rfl, hb'⟩
            go_wp2
            first | exact ⟨by simp [updV, hd], hb'⟩ | exact ⟨.int .i64 ((D.cap : Int) - (f : Nat)), by simp [updV, hd], hb', rfl⟩
          case o22 =>
            first | rw [if_pos (show Region.wanted _ _ = true from rfl)] | (simp only [hd]; rw [if_pos (show Region.wanted _ _ = true from rfl)])
            go_wp2
            first | exact ⟨by simp [updV, hd], Below.refl _ _⟩ | exact ⟨by simp [updV], Below.refl _ _⟩ | (refine ⟨_, ?_, Below.refl _ _, rfl⟩; simp [updV, hd])
          case o23 =>
            have jc2 := (cellsJ8 ((hc.block N (Array.getElem?_eq_some_iff.1 HJX.out).1).trans HJX.out)).2.2.1
            first | rw [if_pos (show Region.wanted _ _ = true from rfl)] | (simp only [hd]; rw [if_pos (show Region.wanted _ _ = true from rfl)])
            go_wp2
            first | exact ⟨by simp [updV, hd], Below.refl _ _⟩ | exact ⟨by simp [updV], Below.refl _ _⟩ | (refine ⟨_, ?_, Below.refl _ _, rfl⟩; simp [updV, hd])
          case o24 =>
            first | rw [if_pos (show Region.wanted _ _ = true from rfl)] | (simp only [hd]; rw [if_pos (show Region.wanted _ _ = true from rfl)])
            go_wp2
            first | exact ⟨by simp [updV, hd], Below.refl _ _⟩ | exact ⟨by simp [updV], Below.refl _ _⟩ | (refine ⟨_, ?_, Below.refl _ _, rfl⟩; simp [updV, hd])
          case o25 =>
            have jc7 := (cellsJ8 ((hc.block N (Array.getElem?_eq_some_iff.1 HJX.out).1).trans HJX.out)).2.2.2.2.2.2.2.1
            first | rw [if_pos (show Region.wanted _ _ = true from rfl)] | (simp only [hd]; rw [if_pos (show Region.wanted _ _ = true from rfl)])
            go_wp2
            first | exact ⟨by simp [updV, hd], Below.refl _ _⟩ | exact ⟨by simp [updV], Below.refl _ _⟩ | (refine ⟨_, ?_, Below.refl _ _, rfl⟩; simp [updV, hd])
          case o26 =>
            first | rw [if_pos (show Region.wanted _ _ = true from rfl)] | (simp only [hd]; rw [if_pos (show Region.wanted _ _ = true from rfl)])
            go_wp2
            first | exact ⟨by simp [updV, hd], Below.refl _ _⟩ | exact ⟨by simp [updV], Below.refl _ _⟩ | (refine ⟨_, ?_, Below.refl _ _, rfl⟩; simp [updV, hd])
          case o27 =>
            first | rw [if_pos (show Region.wanted _ _ = true from rfl)] | (simp only [hd]; rw [if_pos (show Region.wanted _ _ = true from rfl)])
            go_wp2
            first | exact ⟨by simp [updV, hd], Below.refl _ _⟩ | exact ⟨by simp [updV], Below.refl _ _⟩ | (refine ⟨_, ?_, Below.refl _ _, rfl⟩; simp [updV, hd])
          case o28 =>
            first | rw [if_pos (show Region.wanted _ _ = true from rfl)] | (simp only [hd]; rw [if_pos (show Region.wanted _ _ = true from rfl)])
            go_wp2
            first | exact ⟨by simp [updV, hd], Below.refl _ _⟩ | exact ⟨by simp [updV], Below.refl _ _⟩ | (refine ⟨_, ?_, Below.refl _ _, rfl⟩; simp [updV, hd])
          case o29 =>
            first | rw [if_pos (show Region.wanted _ _ = true from rfl)] | (simp only [hd]; rw [if_pos (show Region.wanted _ _ = true from rfl)])
            go_wp2
            first | exact ⟨by simp [updV, hd], Below.refl _ _⟩ | exact ⟨by simp [updV], Below.refl _ _⟩ | (refine ⟨_, ?_, Below.refl _ _, rfl⟩; simp [updV, hd])
          case o30 =>
            first | rw [if_pos (show Region.wanted _ _ = true from rfl)] | (simp only [hd]; rw [if_pos (show Region.wanted _ _ = true from rfl)])
            go_wp2
            first | exact ⟨by simp [updV, hd], Below.refl _ _⟩ | exact ⟨by simp [updV], Below.refl _ _⟩ | (refine ⟨_, ?_, Below.refl _ _, rfl⟩; simp [updV, hd])
          case o31 =>
            have HH := Lib.hid (dbytes_st 0 (HST.out.below hc))
            first | rw [if_pos (show Region.wanted _ _ = true from rfl)] | (simp only [hd]; rw [if_pos (show Region.wanted _ _ = true from rfl)])
            go_wp2_with fail
            refine HH.out.mono ?_
            rintro e W' ⟨vv, rfl, hs, hb'⟩
            have HX := Lib.hid hs
            clear hs
            go_wp2
            first | exact ⟨vv, by simp [updV, hd], hb', HX.out⟩ | exact ⟨by simp [updV, hd], hb', HX.out⟩
          case o32 =>
            first | rw [if_pos (show Region.wanted _ _ = true from rfl)] | (simp only [hd]; rw [if_pos (show Region.wanted _ _ = true from rfl)])
            go_wp2
            first | exact ⟨by simp [updV, hd], Below.refl _ _⟩ | exact ⟨by simp [updV], Below.refl _ _⟩ | (refine ⟨_, ?_, Below.refl _ _, rfl⟩; simp [updV, hd])
          case o33 =>
            have jc0 := (cellsJ8 ((hc.block N (Array.getElem?_eq_some_iff.1 HJX.out).1).trans HJX.out)).1
            first | rw [if_pos (show Region.wanted _ _ = true from rfl)] | (simp only [hd]; rw [if_pos (show Region.wanted _ _ = true from rfl)])
            go_wp2
            first | exact ⟨by simp [updV, hd], Below.refl _ _⟩ | exact ⟨by simp [updV], Below.refl _ _⟩ | (refine ⟨_, ?_, Below.refl _ _, rfl⟩; simp [updV, hd])
          case o34 =>
            obtain ⟨h1, h2, h3⟩ : SlS W (v 31) D.r0 ∧ v 33 = _ ∧ v 29 = .bool true := by first | exact ⟨hd.1, hd.2.1, hd.2.2⟩ | exact ⟨hd.1, hd.2.1, hd.2.2.2⟩
            obtain ⟨x, xn, xk, hxv, hxs⟩ := h1
            have HSM := Lib.hid (sameY_any x _ xn xk _ _ D.r0 D.r0 W HL0.out HL0.out hxs (HS0.out.below hc |>.mono hc.size))
            rw [decide_eq_true rfl] at HSM
            clear hxs
            simp only [h3]
            rw [if_pos (show Region.wanted _ _ = true from rfl)]
            go_wp2_with fail
            refine HSM.out.mono ?_
            rintro e W' ⟨rfl, hb'⟩
            go_wp2
            first | exact ⟨by simp [updV, hxv, h2, h3], hb'⟩ | exact ⟨.bool true, by simp [updV, hxv, h2, h3], hb', rfl⟩
          case o35 =>
            first | rw [if_pos (show Region.wanted _ _ = true from rfl)] | (simp only [hd]; rw [if_pos (show Region.wanted _ _ = true from rfl)])
            go_wp2
            first | exact ⟨by simp [updV, hd], Below.refl _ _⟩ | exact ⟨by simp [updV], Below.refl _ _⟩ | (refine ⟨_, ?_, Below.refl _ _, rfl⟩; simp [updV, hd])
          case o36 =>
            first | rw [if_pos (show Region.wanted _ _ = true from rfl)] | (simp only [hd]; rw [if_pos (show Region.wanted _ _ = true from rfl)])
            go_wp2
            first | exact ⟨by simp [updV, hd], Below.refl _ _⟩ | exact ⟨by simp [updV], Below.refl _ _⟩ | (refine ⟨_, ?_, Below.refl _ _, rfl⟩; simp [updV, hd])
          case o37 =>
            first | rw [if_pos (show Region.wanted _ _ = true from rfl)] | (simp only [hd]; rw [if_pos (show Region.wanted _ _ = true from rfl)])
            go_wp2
            first | exact ⟨by simp [updV, hd], Below.refl _ _⟩ | exact ⟨by simp [updV], Below.refl _ _⟩ | (refine ⟨_, ?_, Below.refl _ _, rfl⟩; simp [updV, hd])
          case o38 =>
            have HH := Lib.hid (dbytes_st 1 (HST.out.below hc))
            first | rw [if_pos (show Region.wanted _ _ = true from rfl)] | (simp only [hd]; rw [if_pos (show Region.wanted _ _ = true from rfl)])
            go_wp2_with fail
            refine HH.out.mono ?_
            rintro e W' ⟨vv, rfl, hs, hb'⟩
            have HX := Lib.hid hs
            clear hs
            go_wp2
            first | exact ⟨vv, by simp [updV, hd], hb', HX.out⟩ | exact ⟨by simp [updV, hd], hb', HX.out⟩
          case o39 =>
            first | rw [if_pos (show Region.wanted _ _ = true from rfl)] | (simp only [hd]; rw [if_pos (show Region.wanted _ _ = true from rfl)])
            go_wp2
            first | exact ⟨by simp [updV, hd], Below.refl _ _⟩ | exact ⟨by simp [updV], Below.refl _ _⟩ | (refine ⟨_, ?_, Below.refl _ _, rfl⟩; simp [updV, hd])
          case o40 =>
            have jc1 := (cellsJ8 ((hc.block N (Array.getElem?_eq_some_iff.1 HJX.out).1).trans HJX.out)).2.1
            first | rw [if_pos (show Region.wanted _ _ = true from rfl)] | (simp only [hd]; rw [if_pos (show Region.wanted _ _ = true from rfl)])
            go_wp2
            first | exact ⟨by simp [updV, hd], Below.refl _ _⟩ | exact ⟨by simp [updV], Below.refl _ _⟩ | (refine ⟨_, ?_, Below.refl _ _, rfl⟩; simp [updV, hd])
          case o41 =>
            obtain ⟨h1, h2, h3⟩ : SlS W (v 38) D.r1 ∧ v 40 = _ ∧ v 36 = .bool true := by first | exact ⟨hd.1, hd.2.1, hd.2.2⟩ | exact ⟨hd.1, hd.2.1, hd.2.2.2⟩
            obtain ⟨x, xn, xk, hxv, hxs⟩ := h1
            have HSM := Lib.hid (sameY_any x _ xn xk _ _ D.r1 D.r1 W HL1.out HL1.out hxs (HS1.out.below hc |>.mono hc.size))
            rw [decide_eq_true rfl] at HSM
            clear hxs
            simp only [h3]
            rw [if_pos (show Region.wanted _ _ = true from rfl)]
            go_wp2_with fail
            refine HSM.out.mono ?_
            rintro e W' ⟨rfl, hb'⟩
            go_wp2
            first | exact ⟨by simp [updV, hxv, h2, h3], hb'⟩ | exact ⟨.bool true, by simp [updV, hxv, h2, h3], hb', rfl⟩
          case o42 =>
            first | rw [if_pos (show Region.wanted _ _ = true from rfl)] | (simp only [hd]; rw [if_pos (show Region.wanted _ _ = true from rfl)])
            go_wp2
            first | exact ⟨by simp [updV, hd], Below.refl _ _⟩ | exact ⟨by simp [updV], Below.refl _ _⟩ | (refine ⟨_, ?_, Below.refl _ _, rfl⟩; simp [updV, hd])
  case hend =>
          intro v W hc hv
          have e42 : v 42 = .bool true := hv 42 (by decide)
          have HBW : Hid (Below w.heap.size w W) := Lib.hid (HB1.out.trans (hc.mono HB1.out.size))
          clear hc hv
          simp only [SeqDoes]
          intro Q1 hQ1
          rw [if_pos (show Region.wanted _ _ = true from rfl)]
          go_wp2
          go_ret
          exact ⟨rfl, HBW.out⟩

end Go.Proofs.Ytpllbojmonfeiaa
