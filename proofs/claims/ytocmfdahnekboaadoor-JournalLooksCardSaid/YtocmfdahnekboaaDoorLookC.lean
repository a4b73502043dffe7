/- journal.Look$1: the frames of a region, one by one, and the rest. -/
import Derived.Test.YtocmfdahnekboaaDoorLookB
import Derived.Test.YtocmfdahnekboaaDoorRangeA
namespace Go.Proofs.YtocmfdahnekboaaDoor
open Go.RowKit Go.Shelf
set_option linter.unusedVariables false
attribute [local go_sem] Oper.semAt_some

abbrev yieldLT : TypeId := 64
abbrev gT : Nat := 0
theorem Tens.obj {w : World} (h : Tens w) : ∃ o, w.heap[gT]? = some o ∧ ∀ W : World, W.heap[gT]? = some o → Tens W := by
  have hg : Tryd.prog.globalNamed "internal/strconv.uint64pow10" = some gT := by kernel_rfl
  cases e : w.heap[gT]? with
  | none =>
    unfold Tens Lib.TabIs World.var? at h
    rw [hg] at h
    simp [e] at h
  | some o =>
    refine ⟨o, rfl, fun W hW => ?_⟩
    unfold Tens Lib.TabIs World.var? at h ⊢
    rw [hg] at h ⊢
    simp only [Option.bind_some, e, hW] at h ⊢
    exact h
theorem own_below2 {β : Type} {B : Nat} {I : β → World → Prop} (h : OwnFrom B I) {s : β} {A C : World} (hi : I s A) (hb : Below A.heap.size A C) : I s C := h s A C none hi (grown_of_below hb) (fun r e => by cases e)
theorem keepsFrom_below {B : Nat} {A C : World} (hb : Below A.heap.size A C) : KeepsFrom B A C := ⟨hb.size, fun k o hk h1 h2 => (hb.block k (Array.getElem?_eq_some_iff.1 h1).1).trans h1⟩
/-- What stays while the frames are gone through. -/
def LkI (J : List LX → World → Prop) (YB EB S l N : Nat) (oT : Obj) (pre : List FX) (W : World) : Prop :=
  J (pre.map fun x => lookF x.1) W ∧ Boxed W YB yieldLT (.func (.yield l) #[] #[]) ∧ Boxed W EB 3 (.int .i64 (endOf (pre.map Prod.fst) : Nat)) ∧ Boxed W S 3 (.int .i64 (N : Nat)) ∧ W.heap[gT]? = some oT
def LkX (Jx : List LX → World → Prop) (cd : Code) (pre : List FX) (W : World) : Prop := cd = .ret ∧ Jx (pre.map fun x => lookF x.1) W
theorem LkI.own {J : List LX → World → Prop} {YB EB S l N B0 B : Nat} {oT : Obj} (hJ : OwnFrom B0 J) (hB : B0 ≤ B) (hY : YB < B) (hE : EB < B) (hS : S < B) (hg : gT < B) : OwnFrom B (LkI J YB EB S l N oT) := fun pre A C row ⟨h1, h2, h3, h4, h5⟩ hg' hr =>
  ⟨OwnFrom.le hJ hB _ A C row h1 hg' hr, keeps_block hg' hr hY h2, keeps_block hg' hr hE h3, keeps_block hg' hr hS h4, keeps_block hg' hr hg h5⟩
theorem LkX.own {Jx : List LX → World → Prop} {B0 B : Nat} (hJx : OwnFrom B0 Jx) (hB : B0 ≤ B) (cd : Code) : OwnFrom B (LkX Jx cd) := fun pre A C row ⟨h0, h⟩ hg hr => ⟨h0, OwnFrom.le hJx hB _ A C row h hg hr⟩
def lkA (A : Act) (z : Nat) (x : FX) (a' : Act) (W : World) : Prop :=
  ∃ Bx va vc, z ≤ Bx ∧ x.2 = .slice va x.1.2.2.length vc ∧ FrameAt W Bx x ∧ a' = { tmps := ((((A.tmps.setIfInBounds 8 (.int .i64 x.1.1)).setIfInBounds 9 (.agg #[.int .i64 x.1.2.1, x.2])).setIfInBounds 5 (.int .i64 x.1.1)).setIfInBounds 6 (.pointer (some ⟨Bx, 0, none⟩))), defers := [] }

set_option maxRecDepth 100000 in
set_option maxHeartbeats 8000000 in
theorem look1 (X S Bs g n0 : Nat) (va : Option Addr) (vc : Nat) (L : List Nat) (hL : Bytes L) (w : World) (hn0 : n0 ≤ w.heap.size) (hB : BodAt n0 w X S Bs g va vc L.length L) (oT : Obj) (hT : w.heap[gT]? = some oT) (hTT : ∀ W : World, W.heap[gT]? = some oT → Tens W) (hgT : gT < n0) :
    SeqA Fence.wide 3 Tryd.prog 26 #[.pointer (some ⟨X, 0, none⟩), .pointer (some ⟨S, 0, none⟩)] encX n0 2 [S, X, Bs, g] (fun ys => ys = lookL L) (fun pre => pre <+: lookL L) (fun _ _ => True) w := fun l J Jx W hW hwW hJ hJx hJb hJxb hJp hJxp hY h0 => by
  obtain ⟨hKX, hKB, hKg⟩ := hB.ne
  have hBW := hB.below hW
  have hTW : W.heap[gT]? = some oT := (hW.block gT (by omega)).trans hT
  have HBW := Lib.hid hBW
  have HY := Lib.hid hY
  have HJ := Lib.hid hJ
  have HJX := Lib.hid hJx
  have HJB := Lib.hid hJb
  have HJXB := Lib.hid hJxb
  have HJP := Lib.hid hJp
  have HTT := Lib.hid hTT
  have HTW := Lib.hid hTW
  have hn0W : n0 ≤ W.heap.size := Nat.le_trans hn0 hW.size
  have HL := Lib.hid hL
  have cX := hBW.bx.cell
  have hXl := hBW.bx.lt
  have hKl := hBW.bk.lt
  have hsl := hBW.sc.hs
  have hgl := hBW.sc.hg
  have hl1 := hBW.l1
  have hl2 := hBW.l2
  have hl3 := hBW.sc.l1
  have hl4 := hBW.sc.l2
  have H0 := Lib.hid h0
  clear hB hBW hW hY hJ hJx hJb hJxb hJp hJxp hL h0 hT hTT hTW
  refine callsIn_of_wp_marks Tryd.func26 rfl trivial ?_ rfl
  simp only [Tryd.ntmps26, List.size_toArray, List.length_cons, List.length_nil, Nat.reduceAdd, Nat.reduceSub, Array.replicate_succ, Array.replicate_zero, List.push_toArray, List.append_toArray, List.nil_append, List.cons_append]
  refine wpIn_wide.2 ?_
  go_wp2_with fail
  obtain ⟨w1, hw1⟩ : ∃ w1, (W.alloc (.cells #[.func (.yield l) #[] #[]] yieldLT)).alloc (.cells #[.int .i64 0] 3) = w1 := ⟨_, rfl⟩
  have hb1 : Below W.heap.size W w1 := by rw [← hw1]; exact ((Below.refl _ _).alloc (Nat.le_refl _) _).alloc (by simp) _
  have hY1 : Boxed w1 W.heap.size yieldLT (.func (.yield l) #[] #[]) := by rw [← hw1]; exact (Boxed.new W _ _).alloc _
  have hI1 : Boxed w1 (W.heap.size + 1) 3 (.int .i64 0) := by
    have := Boxed.new (W.alloc (.cells #[.func (.yield l) #[] #[]] yieldLT)) 3 (.int .i64 0)
    rw [World.size_alloc] at this; rw [← hw1]; exact this
  have hj1 : J [] w1 := by rw [← hw1]; exact HJ.out.alloc _ (HJ.out.alloc _ H0.out)
  have hz1 : w1.heap.size = W.heap.size + 2 := by rw [← hw1]; simp
  have hB1 := HBW.out.below hb1
  have hT1 : w1.heap[gT]? = some oT := (hb1.block gT (by omega)).trans HTW.out
  have hI0 : LkI J W.heap.size (W.heap.size + 1) S l L.length oT [] w1 := ⟨hj1, hY1, hI1, hB1.bk, hT1⟩
  rw [hw1]
  clear hw1 hj1 hY1 hI1 H0 hT1 HTW
  rename_i K' hKQ
  refine (wpIn_wide (n := 3)).1 ?_
  refine wpIn_act ?_
  intro A hA
  refine rangeS rfl (by omega) (gf := 61) (lb := #[.pointer (some ⟨Bs, 0, none⟩)]) (by rw [hA]; rfl) trivial (enters_of Tryd.func61 (by kernel_rfl) rfl)
    (frames1N Bs n0 [Bs, g] L HL.out va L.length vc w1 (by omega) (fun k hk => by simp at hk; omega) (.inr (by simp)) (fun ad m c' e h0 => by
      rcases hB1.sc.kv ad m c' e h0 with h | h
      · exact absurd h (Nat.not_lt_zero _)
      · exact .inr (by simp at h; simp [h])) hB1.sc.bs hB1.sc.sl) (lkA A w1.heap.size)
    (fun x a' W l o r hl ⟨Bx, va, vc, h1, h2, h3, h6⟩ => ⟨Bx, va, vc, h1, h2, h3.putObj hl, h6⟩) (fun r h => by simp at h; omega) (by omega) (Below.refl _ _) (fun _ => rfl)
    (LkI J W.heap.size (W.heap.size + 1) S l L.length oT) (LkX Jx) (LkI.own HJ.out (by omega) (by omega) (by omega) (by omega) (by omega)) (fun cd => LkX.own HJX.out (by omega) cd)
    (fun s Wx r v hr ⟨h1, h2, h3, h4, h5⟩ => ⟨HJB.out _ Wx r v (List.mem_cons_of_mem _ (List.mem_cons_of_mem _ hr)) h1, h2.other (by simp at hr; omega) v, h3.other (by simp at hr; omega) v, h4.other (by simp at hr; omega) v, (setCell_heap (by simp at hr; omega)).trans h5⟩)
    (fun cd s Wx r v hr ⟨h0, h⟩ => ⟨h0, HJXB.out _ Wx r v (List.mem_cons_of_mem _ (List.mem_cons_of_mem _ hr)) h⟩)
    hI0 ?assign ?body ?done ?stop
  case assign =>
    rintro l2 pre ⟨⟨p, kk, bd⟩, v⟩ Wa KK hi ⟨hry, hnew0⟩ hz3 hK
    obtain ⟨va', vc', hv⟩ := (show Sl encY _ Wa v bd from hry).form
    subst hv
    dsimp only [encF]
    have hiA : LkI J W.heap.size (W.heap.size + 1) S l L.length oT pre (Wa.alloc (.cells #[.int .i64 kk, .slice va' bd.length vc'] 66)) := (LkI.own (B := w1.heap.size) HJ.out (by omega) (by omega) (by omega) (by omega) (by omega)).alloc _ hi
    have HIA := Lib.hid hiA
    clear hry hiA hnew0 hi hI0
    rw [hA]
    gi_wp2
    refine hK _ _ ((KeepsOthers.alloc _ _).from _) ⟨((Below.refl n0 Wa).alloc (by omega) _), fun k h1 h2 => by omega, fun k hk => Below.heap_alloc Wa _ _ (by simp at hk; omega)⟩ HIA.out ?_
    exact ⟨Wa.heap.size, va', vc', by omega, rfl, World.alloc_heap_new Wa _, by rw [hA]; rfl⟩
  case body =>
    rintro l2 pre ⟨⟨p, kk, bd⟩, v⟩ a' Wb ⟨hj, hyb, heb, hsb, htb⟩ hp hz3 ⟨Bx, va', vc', hBx, hv, hF, rfl⟩
    dsimp only at hv
    subst hv
    unfold FrameAt at hF
    dsimp only at hF
    have hmem : (p, kk, bd) ∈ scanL L 0 := hp.subset (by simp)
    have hkk := scan_kind L HL.out.2 L.length 0 (by omega) _ hmem
    have hbound := (scan_bound L L.length 0 (by omega) _ hmem).2
    dsimp only at hkk hbound
    have hLl := HL.out.1
    have hSp : (pre.map fun x => lookF x.1) ++ [lookF (p, kk, bd)] <+: lookL L := by
      have h := hp
      rw [List.map_append] at h
      have h2 := lookL_pre (pre := pre.map Prod.fst) (x := (p, kk, bd)) h
      rw [List.map_map] at h2
      exact h2
    have HJ1 := Lib.hid hj
    have HYB := Lib.hid hyb
    have HEB := Lib.hid heb
    have HSB := Lib.hid hsb
    have HTB := Lib.hid htb
    have HF := Lib.hid hF
    have HP := Lib.hid hp
    have HSP := Lib.hid hSp
    have hBl := (Array.getElem?_eq_some_iff.1 hF).1
    have hYl := hyb.lt
    clear hj hyb heb hsb htb hF hp hSp hI0 hmem
    have HEO : Hid (endOf ((pre ++ [(((p, kk, bd), Value.slice va' bd.length vc') : FX)]).map Prod.fst) = p + (bd.length + 7)) := Lib.hid (by rw [List.map_append]; exact endOf_snoc _ _)
    have HMP : Hid (((pre ++ [(((p, kk, bd), Value.slice va' bd.length vc') : FX)]).map fun x => lookF x.1) = (pre.map fun x => lookF x.1) ++ [lookF (p, kk, bd)]) := Lib.hid (by rw [List.map_append]; rfl)
    have HLF : Hid (encX (lookF (p, kk, bd)) = #[.int .i64 (p : Nat), .string (toldB (nameB kk) bd.length)]) := Lib.hid rfl
    obtain ⟨xx, hxx⟩ : ∃ xx : FX, ((p, kk, bd), Value.slice va' bd.length vc') = xx := ⟨_, rfl⟩
    obtain ⟨yy, hyy⟩ : ∃ yy : LX, lookF (p, kk, bd) = yy := ⟨_, rfl⟩
    rw [hxx] at HEO HMP HP
    rw [hyy] at HMP HLF HSP
    have HXX := Lib.hid hxx
    obtain ⟨q, hq⟩ : ∃ q, bd.length = q := ⟨_, rfl⟩
    obtain ⟨s, hs⟩ : ∃ s, q + 7 = s := ⟨_, rfl⟩
    rw [hq] at HLF HEO HF hbound
    rw [hs] at HEO hbound
    have HQ := Lib.hid hs
    have hq7 : q ≤ 1048576 := by omega
    have HTL := Lib.hid (fun (V : World) (hT : Tens V) => told_any (nameB kk) (by have := nameB_size kk; omega) q hq7 V hT)
    have HNM := Lib.hid (fun (V : World) => name_any kk hkk.2 V)
    obtain ⟨T, hTT2⟩ : ∃ T, toldB (nameB kk) q = T := ⟨_, rfl⟩
    obtain ⟨Nm, hNm⟩ : ∃ T, nameB kk = T := ⟨_, rfl⟩
    rw [hTT2] at HLF HTL
    rw [hNm] at HTL HNM
    clear hTT2 hNm hs hyy
    rw [hA]
    dsimp only
    rw [hxx, hq]
    clear hq hxx
    gi_wp2
    refine region_seqIn (fun f => trivial) (l := [_, _, _, _, _, _, _, _, _]) (t := [_, _]) (by kernel_rfl) (by decide +kernel) (by decide +kernel) (fun v => { tmps := #[.func (.yield l) #[] #[], .pointer (some ⟨X, 0, none⟩), .pointer (some ⟨S, 0, none⟩), .pointer (some ⟨W.heap.size, 0, none⟩), .pointer (some ⟨W.heap.size + 1, 0, none⟩), .int .i64 (p : Nat), .pointer (some ⟨Bx, 0, none⟩), .func (.func 61) #[] #[.pointer (some ⟨Bs, 0, none⟩)], .int .i64 (p : Nat), .agg #[.int .i64 (kk : Nat), .slice va' q vc'], v 0, v 1, v 2, v 3, v 4, v 5, v 6, v 7, v 8, v 9, v 10, undef, undef, undef, undef, undef, undef, undef, undef, undef, undef, undef, undef, undef, undef, undef, undef], defers := [] }) (fun V => Below Wb.heap.size Wb V) (fun i u _ => match i with
      | 0 => u = .func (.yield l) #[] #[]
      | 1 => u = .int .i64 (p : Nat)
      | 2 => u = .pointer (some ⟨Bx, 0, none⟩)
      | 3 => u = .int .i64 (kk : Nat)
      | 4 => u = .string Nm
      | 5 => u = .pointer (some ⟨Bx, 1, none⟩)
      | 6 => u = .slice va' q vc'
      | 7 => u = .int .i64 (q : Nat)
      | 8 => u = .string T
      | _ => True) (fun A B => Below A.heap.size A B) ?hC ?hV (fun _ => undef) ?h0 ?hop ?hend
    case hC => exact fun A B h h2 => h.trans (h2.mono h.size)
    case hV => exact fun i u A B h _ => h
    case h0 => exact (Below.refl _ _).drew
    case hop =>
      simp only [AllDoIn]
      refine ⟨?o0, ?o1, ?o2, ?o3, ?o4, ?o5, ?o6, ?o7, ?o8, trivial⟩
      all_goals intro v Wx hc hd Q hQ
      all_goals simp [Region.binds] at hd
      all_goals rw [if_pos (show Region.wanted _ _ = true from rfl)]
      case o0 =>
        have cy := Boxed.cell (show Boxed Wx W.heap.size yieldLT (.func (.yield l) #[] #[]) from (hc.block _ hYl).trans HYB.out)
        gi_wp2
        exact ⟨_, rfl, Below.refl _ _, rfl⟩
      case o1 =>
        gi_wp2
        exact ⟨_, rfl, Below.refl _ _, rfl⟩
      case o2 =>
        gi_wp2
        exact ⟨_, rfl, Below.refl _ _, rfl⟩
      case o3 =>
        obtain ⟨f1, f2, _, _⟩ := cell2 ((hc.block Bx hBl).trans HF.out)
        rw [hd]
        gi_wp2
        refine ⟨.int .i64 (kk : Nat), ?_, Below.refl _ _, rfl⟩
        simp [updV, hd]
      case o4 =>
        rw [hd]
        gi_wp2_with (refine ⟨trivial, ?_⟩; gi_at_call 28; refine (CallsIn.inRound l2 (callsIn_wide.2 (HNM.out _))).mono ?_; rintro e w' ⟨rfl, rfl⟩)
        refine ⟨.string Nm, ?_, Below.refl _ _, rfl⟩
        simp [updV, hd]
      case o5 =>
        gi_wp2
        exact ⟨_, rfl, Below.refl _ _, rfl⟩
      case o6 =>
        obtain ⟨f1, f2, _, _⟩ := cell2 ((hc.block Bx hBl).trans HF.out)
        rw [hd]
        gi_wp2
        refine ⟨.slice va' q vc', ?_, Below.refl _ _, rfl⟩
        simp [updV, hd]
      case o7 =>
        rw [hd]
        gi_wp2
        refine ⟨.int .i64 (q : Nat), ?_, Below.refl _ _, rfl⟩
        simp [updV, hd]
      case o8 =>
        have h4 : v 4 = .string Nm := by simp_all
        have h7 : v 7 = .int .i64 (q : Nat) := by simp_all
        have HTX := Lib.hid (HTL.out Wx (HTT.out Wx ((hc.block gT (by omega)).trans HTB.out)))
        rw [h4, h7]
        clear hd
        gi_wp2_with (refine ⟨trivial, ?_⟩; gi_at_call 27; refine (CallsIn.inRound l2 (callsIn_wide.2 HTX.out)).mono ?_; rintro e w' ⟨rfl, hb'⟩)
        refine ⟨.string T, ?_, hb', rfl⟩
        simp [updV, h4, h7]
    case hend =>
      intro v Wx hc hv
      have e0 : v 0 = .func (.yield l) #[] #[] := hv 0 (by decide)
      have e1 : v 1 = .int .i64 (p : Nat) := hv 1 (by decide)
      have e8 : v 8 = .string T := hv 8 (by decide)
      have hya := HY.out (pre.map fun x => lookF x.1) yy Wx (own_below2 HJ.out HJ1.out hc) HSP.out (by have := hc.size; omega) trivial
      rw [HLF.out] at hya
      have hyb2 := YieldAt.mono (yieldAny' rfl 0 l2 hya) (R' := fun e W' => ∃ bb : Bool, e = .returned (.bool bb) ∧ KeepsFrom W.heap.size Wx W' ∧ (bb = true → J ((pre.map fun x => lookF x.1) ++ [yy]) W' ∧ Below n0 Wx W' ∧ (∀ k, W.heap.size ≤ k → k < Wx.heap.size → W'.heap[k]? = Wx.heap[k]?) ∧ ∀ k, k ∈ [S, X, Bs, g] → W'.heap[k]? = Wx.heap[k]?) ∧ (bb = false → Jx ((pre.map fun x => lookF x.1) ++ [yy]) W')) (by
        rintro e W' ⟨h1, ⟨rfl, h2, h3, h4, h5⟩ | ⟨rfl, h2⟩⟩
        · exact ⟨true, rfl, h1, (fun _ => ⟨h2, h3, h4, h5⟩), (fun h => by cases h)⟩
        · exact ⟨false, rfl, h1, (fun h => by cases h), (fun _ => h2)⟩)
      obtain ⟨fn, tmps, assign, body, hy, hR⟩ := hyb2
      have HR := Lib.hid hR
      have HC := Lib.hid hc
      have hcz := hc.size
      clear hya hR hc hv
      simp only [SeqDoesIn]
      intro Q1 hQ1
      rw [if_pos (show Region.wanted _ _ = true from rfl), e0, e1, e8]
      gi_wp2_with fail
      refine HR.out.mono ?_
      rintro e W3 ⟨bb, rfl, hq1, hq2, hq3⟩
      have hkf0 : KeepsFrom w1.heap.size Wb W3 := (keepsFrom_below HC.out).trans (KeepsFrom.raise hq1 (by omega))
      cases bb with
      | true =>
        obtain ⟨hj3, hb3, hp3, hk3⟩ := hq2 rfl
        have hF3 := (hp3 Bx (by omega) (by omega)).trans ((HC.out.block Bx hBl).trans HF.out)
        obtain ⟨f1, f2, _, _⟩ := cell2 hF3
        have hI3 : Boxed W3 (W.heap.size + 1) 3 (.int .i64 (endOf (pre.map Prod.fst) : Nat)) := (hp3 _ (by omega) (by omega)).trans ((HC.out.block _ (by have := HEB.out.lt; exact this)).trans HEB.out)
        have hY3 : Boxed W3 W.heap.size yieldLT (.func (.yield l) #[] #[]) := (hp3 _ (by omega) (by omega)).trans ((HC.out.block _ hYl).trans HYB.out)
        have hS3 : Boxed W3 S 3 (.int .i64 (L.length : Nat)) := (hk3 S (by simp)).trans ((HC.out.block _ HSB.out.lt).trans HSB.out)
        have hT3 : W3.heap[gT]? = some oT := (hb3.block gT hgT).trans ((HC.out.block gT (by omega)).trans HTB.out)
        have ce := hI3.cell
        have fe := hI3.frozen
        have hkf : KeepsFrom w1.heap.size Wb (W3.setCell ⟨W.heap.size + 1, 0, none⟩ (.int .i64 ((p : Int) + (s : Int)))) := hkf0.trans ⟨by simp, fun k o hk h1 h2 => (Below.heap_setCell W3 ⟨W.heap.size + 1, 0, none⟩ _ k (by show k ≠ W.heap.size + 1; omega)).trans h1⟩
        have hkp : KpO n0 0 [Bs, g] w1 Wb (W3.setCell ⟨W.heap.size + 1, 0, none⟩ (.int .i64 ((p : Int) + (s : Int)))) :=
          ⟨((HC.out.mono (by omega)).trans hb3).setCell (p := ⟨W.heap.size + 1, 0, none⟩) (by show n0 ≤ W.heap.size + 1; omega) _, fun k h1 h2 => by omega, fun k hk => (setCell_heap (by simp at hk; omega)).trans ((hk3 k (List.mem_cons_of_mem _ (List.mem_cons_of_mem _ hk))).trans (HC.out.block k (by simp at hk; omega)))⟩
        have hbd : LkI J W.heap.size (W.heap.size + 1) S l L.length oT (pre ++ [xx]) (W3.setCell ⟨W.heap.size + 1, 0, none⟩ (.int .i64 ((p : Int) + (s : Int)))) :=
          ⟨by rw [HMP.out]; exact HJP.out _ W3 (W.heap.size + 1) _ (by omega) (by omega) hj3, hY3.other (by omega) _, by
            have := hI3.set (.int .i64 ((p : Int) + (s : Int)))
            rw [HEO.out]
            exact this, hS3.other (by omega) _, (setCell_heap (by omega)).trans hT3⟩
        have HFIN := Lib.hid (And.intro hkf (And.intro hkp hbd))
        clear hj3 hb3 hp3 hk3 hq1 hq2 hq3 hF3 hI3 hY3 hS3 hT3 hkf0 hkf hkp hbd e0 e1 e8
        gi_wp2
        intro Q2 hQ2
        rw [if_pos (show Region.wanted _ _ = true from rfl)]
        gi_wp2_with (refine ⟨trivial, ?_⟩; gi_at_call 29; refine (CallsIn.inRound l2 (callsIn_wide.2 (weight_nat q s hq7 HQ.out _))).mono ?_; rintro e w' ⟨rfl, rfl⟩)
        exact HFIN.out
      | false =>
        have HFIN : Hid (KeepsFrom w1.heap.size Wb W3 ∧ LkX Jx .ret (pre ++ [xx]) W3) := Lib.hid ⟨hkf0, rfl, by rw [HMP.out]; exact hq3 rfl⟩
        clear hq1 hq2 hq3 hkf0 e0 e1 e8
        gi_wp2
        intro Q2 hQ2
        rw [if_pos (show Region.wanted _ _ = true from rfl)]
        gi_wp2
        exact HFIN.out
  case done =>
    rintro D zs W' hD hzs ⟨hj, hyb, heb, hsb, htb⟩ hK
    rw [hzs, endOf_scan] at heb
    have hmp : (zs.map fun x => lookF x.1) = (scanL L 0).map lookF := by rw [← hzs, List.map_map]; rfl
    rw [hmp] at hj
    have hle := scanE_le L L.length 0 (by omega) (Nat.zero_le _)
    have hLl := HL.out.1
    have cE := heb.cell
    have cS := hsb.cell
    have HK1 := Lib.hid hK
    have HJ1 := Lib.hid hj
    have HYB := Lib.hid hyb
    have HTB := Lib.hid htb
    have HDL := (Array.getElem?_eq_some_iff.1 hK).1
    have hYl := hyb.lt
    have HEB := Lib.hid heb
    have HSB := Lib.hid hsb
    have HLK : Hid (lookL L = (scanL L 0).map lookF ++ lookR L) := Lib.hid rfl
    obtain ⟨E0, hE0⟩ : ∃ E0, scanE L 0 = E0 := ⟨_, rfl⟩
    obtain ⟨N0, hN0⟩ : ∃ N0, L.length = N0 := ⟨_, rfl⟩
    rw [hE0] at cE hle HEB
    rw [hN0] at cS hle hLl HSB
    clear hj hzs hI0 hyb heb hsb htb hK hmp
    refine hKQ _ _ ?_
    refine (wpIn_wide (n := 3)).1 ?_
    by_cases hlt : E0 < N0
    rotate_left
    · have hlti : ¬ (E0 : Int) < N0 := by omega
      have HS : Hid ((scanL L 0).map lookF = lookL L) := Lib.hid (by rw [HLK.out]; unfold lookR; rw [hE0, hN0, if_neg hlt, List.append_nil])
      have HFIN : Hid ((∃ xs : List LX, xs = lookL L ∧ J xs (W'.putObj D (.deferred none))) ∨ (∃ q : List LX, q <+: lookL L ∧ Jx q (W'.putObj D (.deferred none)))) := Lib.hid (.inl ⟨_, rfl, by rw [← HS.out]; exact HJ.out.putObj _ HJ1.out (by omega) HK1.out rfl⟩)
      clear hE0 hN0 hlt
      rw [hA]
      gi_wp2
      refine ⟨by simp, .inl ⟨_, _, rfl, run_takeDeferred HK1.out, ?_⟩⟩
      exact ⟨_, results_none rfl _ _ _, ⟨_, rfl⟩, (by first | exact HFIN.out | simpa using HFIN.out)⟩
    have hlti : (E0 : Int) < N0 := by omega
    have hsub : ((N0 : Int) - (E0 : Int)) = ((N0 - E0 : Nat) : Int) := by omega
    obtain ⟨q, hq⟩ : ∃ q, N0 - E0 = q := ⟨_, rfl⟩
    rw [hq] at hsub
    have hq7 : q ≤ 1048576 := by omega
    have HTL := Lib.hid (fun (V : World) (hT : Tens V) => told_any restB (by decide) q hq7 V hT)
    have HLF : Hid (lookL L = (scanL L 0).map lookF ++ [(E0, toldB restB q)]) := Lib.hid (by rw [HLK.out]; unfold lookR; rw [hE0, hN0, if_pos hlt, hq])
    obtain ⟨T, hTT2⟩ : ∃ T, toldB restB q = T := ⟨_, rfl⟩
    rw [hTT2] at HLF HTL
    have HEX : Hid (encX (E0, T) = #[.int .i64 (E0 : Nat), .string T]) := Lib.hid rfl
    obtain ⟨yy, hyy⟩ : ∃ yy : LX, (E0, T) = yy := ⟨_, rfl⟩
    rw [hyy] at HLF HEX
    clear hTT2 hE0 hN0 hlt hq hyy HLK
    rw [hA]
    gi_wp2
    refine region_seqIn (fun f => trivial) (l := [_, _, _, _, _, _]) (t := [_]) (by kernel_rfl) (by decide +kernel) (by decide +kernel) (fun v => { tmps := #[.func (.yield l) #[] #[], .pointer (some ⟨X, 0, none⟩), .pointer (some ⟨S, 0, none⟩), .pointer (some ⟨W.heap.size, 0, none⟩), .pointer (some ⟨W.heap.size + 1, 0, none⟩), undef, undef, .func (.func 61) #[] #[.pointer (some ⟨Bs, 0, none⟩)], undef, undef, undef, undef, undef, undef, undef, undef, undef, undef, undef, undef, undef, undef, undef, undef, undef, undef, undef, .int .i64 (E0 : Nat), .int .i64 (N0 : Nat), .bool true, v 0, v 1, v 2, v 3, v 4, v 5, v 6], defers := [{ target := .collected D, args := #[] }] }) (fun V => Below W'.heap.size W' V) (fun i u _ => match i with
      | 0 => u = .func (.yield l) #[] #[]
      | 1 => u = .int .i64 (E0 : Nat)
      | 2 => u = .int .i64 (N0 : Nat)
      | 3 => u = .int .i64 (E0 : Nat)
      | 4 => u = .int .i64 (q : Nat)
      | 5 => u = .string T
      | _ => True) (fun A B => Below A.heap.size A B) ?hC ?hV (fun _ => undef) ?h0 ?hop ?hend
    case hC => exact fun A B h h2 => h.trans (h2.mono h.size)
    case hV => exact fun i u A B h _ => h
    case h0 => exact (Below.refl _ _).drew
    case hop =>
      simp only [AllDoIn]
      refine ⟨?o0, ?o1, ?o2, ?o3, ?o4, ?o5, trivial⟩
      all_goals intro v Wx hc hd Q hQ
      all_goals simp [Region.binds] at hd
      all_goals rw [if_pos (show Region.wanted _ _ = true from rfl)]
      case o0 =>
        have cy := Boxed.cell (show Boxed Wx W.heap.size yieldLT (.func (.yield l) #[] #[]) from (hc.block _ hYl).trans HYB.out)
        gi_wp2
        exact ⟨_, rfl, Below.refl _ _, rfl⟩
      case o1 =>
        have ce := Boxed.cell (show Boxed Wx (W.heap.size + 1) 3 (.int .i64 (E0 : Nat)) from (hc.block _ HEB.out.lt).trans HEB.out)
        gi_wp2
        exact ⟨_, rfl, Below.refl _ _, rfl⟩
      case o2 =>
        have ce := Boxed.cell (show Boxed Wx S 3 (.int .i64 (N0 : Nat)) from (hc.block _ HSB.out.lt).trans HSB.out)
        gi_wp2
        exact ⟨_, rfl, Below.refl _ _, rfl⟩
      case o3 =>
        have ce := Boxed.cell (show Boxed Wx (W.heap.size + 1) 3 (.int .i64 (E0 : Nat)) from (hc.block _ HEB.out.lt).trans HEB.out)
        gi_wp2
        exact ⟨_, rfl, Below.refl _ _, rfl⟩
      case o4 =>
        have h2 : v 2 = .int .i64 (N0 : Nat) := by simp_all
        have h3 : v 3 = .int .i64 (E0 : Nat) := by simp_all
        clear hd
        rw [h2, h3]
        gi_wp2
        refine ⟨.int .i64 (q : Nat), ?_, Below.refl _ _, rfl⟩
        simp [updV, h2, h3, hsub]
      case o5 =>
        have h4 : v 4 = .int .i64 (q : Nat) := by simp_all
        have HTX := Lib.hid (HTL.out Wx (HTT.out Wx ((hc.block gT (by omega)).trans HTB.out)))
        unfold restB at HTX
        clear hd
        rw [h4]
        gi_wp2_with (refine ⟨trivial, ?_⟩; gi_at_call 27; refine (callsIn_wide.2 HTX.out).mono ?_; rintro e w' ⟨rfl, hb'⟩)
        refine ⟨.string T, ?_, hb', rfl⟩
        simp [updV, h4]
    case hend =>
      intro v Wx hc hv
      have e0 : v 0 = .func (.yield l) #[] #[] := hv 0 (by decide)
      have e1 : v 1 = .int .i64 (E0 : Nat) := hv 1 (by decide)
      have e5 : v 5 = .string T := hv 5 (by decide)
      have hya := HY.out ((scanL L 0).map lookF) yy Wx (own_below2 HJ.out HJ1.out hc) (by rw [← HLF.out]; exact List.prefix_refl _) (by have := hc.size; omega) trivial
      rw [HEX.out, ← HLF.out] at hya
      have hyb2 := YieldAt.mono hya (R' := fun e W' => ∃ bb : Bool, e = .returned (.bool bb) ∧ KeepsFrom W.heap.size Wx W' ∧ (bb = true → J (lookL L) W') ∧ (bb = false → Jx (lookL L) W')) (by
        rintro e W' ⟨h1, ⟨rfl, h2, h3, h4, h5⟩ | ⟨rfl, h2⟩⟩
        · exact ⟨true, rfl, h1, (fun _ => h2), (fun h => by cases h)⟩
        · exact ⟨false, rfl, h1, (fun h => by cases h), (fun _ => h2)⟩)
      obtain ⟨fn, tmps, assign, body, hy, hR⟩ := hyb2
      have HR := Lib.hid hR
      have HC := Lib.hid hc
      have hcz := hc.size
      clear hya hR hc hv
      simp only [SeqDoesIn]
      intro Q1 hQ1
      rw [if_pos (show Region.wanted _ _ = true from rfl), e0, e1, e5]
      gi_wp2_with fail
      refine HR.out.mono ?_
      rintro e W3 ⟨bb, rfl, hq1, hq2, hq3⟩
      have hK3 := hq1.same D _ (by omega) ((HC.out.block D HDL).trans HK1.out) rfl
      have HK3 := Lib.hid hK3
      have HFIN : Hid ((∃ xs : List LX, xs = lookL L ∧ J xs (W3.putObj D (.deferred none))) ∨ (∃ q : List LX, q <+: lookL L ∧ Jx q (W3.putObj D (.deferred none)))) := Lib.hid (by
        cases bb with
        | true => exact .inl ⟨_, rfl, HJ.out.putObj _ (hq2 rfl) (by omega) hK3 rfl⟩
        | false => exact .inr ⟨_, List.prefix_refl _, HJX.out.putObj _ (hq3 rfl) (by omega) hK3 rfl⟩)
      clear hq1 hq2 hq3 hK3 e0 e1 e5
      gi_wp2
      refine ⟨by simp, .inl ⟨_, _, rfl, run_takeDeferred HK3.out, ?_⟩⟩
      exact ⟨_, results_none rfl _ _ _, ⟨_, rfl⟩, HFIN.out⟩
  case stop =>
    rintro D c' pre W' hD hp ⟨rfl, h⟩ hK
    have HK1 := Lib.hid hK
    have HE : Hid (∃ q : List LX, q <+: lookL L ∧ Jx q (W'.putObj D (.deferred none))) := Lib.hid (by
      obtain ⟨tl, htl⟩ := hp
      refine ⟨pre.map fun x => lookF x.1, ⟨tl.map lookF ++ lookR L, ?_⟩, HJX.out.putObj _ h (by omega) hK rfl⟩
      unfold lookL
      rw [← htl]
      simp)
    clear h hp hK hI0
    rw [hA]
    gi_wp2
    refine ⟨by simp, .inl ⟨_, _, rfl, run_takeDeferred HK1.out, ?_⟩⟩
    refine ⟨_, results_none rfl _ _ _, ⟨_, rfl⟩, .inr HE.out⟩
end Go.Proofs.YtocmfdahnekboaaDoor
