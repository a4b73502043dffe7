/- journal.bodies. -/
import Derived.Test.YtocmfdahnekboaaDoorJrnG
import Derived.Test.YtocmfdahnekboaaDoorJrnN
import Derived.Test.YtocmfdahnekboaaDoorRegionTail
import Derived.Test.YtocmfdahnekboaaDoorJrnX
import Derived.Test.YtocmfdahnekboaaDoorRangeR
import Derived.Test.YtocmfdahnekboaaDoorRefQ
import Derived.BigQuiet
import Derived.Deep.QuietTactic
namespace Go.Proofs.YtocmfdahnekboaaDoor
open Go.RowKit Go.Shelf
set_option linter.unusedVariables false
attribute [local go_sem] Oper.semAt_some

abbrev seqT : TypeId := 62
/-- A walk over the frames of L: its bytes are in a slice at Bs, which lie at g. -/
structure ScAt (n : Nat) (W : World) (Bs g : Nat) (va : Option Addr) (vc : Nat) (L : List Nat) : Prop where
  bs : W.cell? ⟨Bs, 0, none⟩ = some (.slice va L.length vc)
  sl : Sl encY W.heap.size W (.slice va L.length vc) L
  kv : KeptV 0 [g] (.slice va L.length vc)
  l1 : n ≤ Bs
  l2 : n ≤ g
  hs : Bs < W.heap.size
  hg : g < W.heap.size
theorem ScAt.below {n : Nat} {W W' : World} {Bs g : Nat} {va : Option Addr} {vc : Nat} {L : List Nat} (h : ScAt n W Bs g va vc L) (hb : Below W.heap.size W W') : ScAt n W' Bs g va vc L :=
  ⟨(hb.cell (p := ⟨Bs, 0, none⟩) h.hs).trans h.bs, (h.sl.below hb).mono hb.size, h.kv, h.l1, h.l2, Nat.lt_of_lt_of_le h.hs hb.size, Nat.lt_of_lt_of_le h.hg hb.size⟩
theorem ScAt.le {n m : Nat} {W : World} {Bs g : Nat} {va : Option Addr} {vc : Nat} {L : List Nat} (h : ScAt n W Bs g va vc L) (hm : m ≤ n) : ScAt m W Bs g va vc L :=
  ⟨h.bs, h.sl, h.kv, Nat.le_trans hm h.l1, Nat.le_trans hm h.l2, h.hs, h.hg⟩
/-- What bodies hands back: the walk over frames in a box, the kind in another one. -/
structure BodAt (n : Nat) (W : World) (X K Bs g : Nat) (va : Option Addr) (vc k : Nat) (L : List Nat) : Prop where
  bx : Boxed W X seqT (.func (.func 61) #[] #[.pointer (some ⟨Bs, 0, none⟩)])
  bk : Boxed W K 3 (.int .i64 (k : Nat))
  sc : ScAt n W Bs g va vc L
  l1 : n ≤ X
  l2 : n ≤ K
  ne : K ≠ X ∧ K ≠ Bs ∧ K ≠ g
theorem BodAt.below {n : Nat} {W W' : World} {X K Bs g : Nat} {va : Option Addr} {vc k : Nat} {L : List Nat} (h : BodAt n W X K Bs g va vc k L) (hb : Below W.heap.size W W') : BodAt n W' X K Bs g va vc k L :=
  ⟨(hb.block X h.bx.lt).trans h.bx, (hb.block K h.bk.lt).trans h.bk, h.sc.below hb, h.l1, h.l2, h.ne⟩
theorem BodAt.le {n m : Nat} {W : World} {X K Bs g : Nat} {va : Option Addr} {vc k : Nat} {L : List Nat} (h : BodAt n W X K Bs g va vc k L) (hm : m ≤ n) : BodAt m W X K Bs g va vc k L :=
  ⟨h.bx, h.bk, h.sc.le hm, Nat.le_trans hm h.l1, Nat.le_trans hm h.l2, h.ne⟩
/-- A slice's bytes stay as a first cell is written that holds no byte. -/
theorem sl_box {n X : Nat} {W : World} {sv v u : Value} {t : TypeId} {l : List Nat} (h : Sl encY n W sv l) (hX : Boxed W X t v) (hv : ∀ x : Nat, v ≠ encY x) : Sl encY n (W.setCell ⟨X, 0, none⟩ u) sv l := by
  rcases h with h | ⟨b, off, cap, e, hb, hcap, hc⟩
  · exact .inl h
  · refine .inr ⟨b, off, cap, e, hb, hcap, fun j x hj => ?_⟩
    have h1 := hc j x hj
    have hne : b ≠ X := by
      rintro rfl
      unfold Boxed at hX
      simp only [World.cell?, hX] at h1
      match hk : off + j, h1 with
      | 0, h1 => simp [hk] at h1; exact hv x h1
      | n + 1, h1 => simp [hk] at h1
    exact (World.cell?_of_block (a := ⟨b, off + j, none⟩) (Below.heap_setCell W ⟨X, 0, none⟩ u b hne)).trans h1

theorem store_func {P : Program} {W : World} {X : Nat} {x : Value} (f Bs : Nat) (hc : W.cell? ⟨X, 0, none⟩ = some x) (hf : W.frozen? ⟨X, 0, none⟩ = false) :
    (store ⟨X, 0, none⟩ (.func (.func f) #[] #[.pointer (some ⟨Bs, 0, none⟩)])).run P W = .ok () (W.setCell ⟨X, 0, none⟩ (.func (.func f) #[] #[.pointer (some ⟨Bs, 0, none⟩)])) := by
  rw [run_store _ _ _ _ _ rfl, hc, hf]; rfl

set_option maxRecDepth 100000 in
set_option maxHeartbeats 8000000 in
theorem bodies_any {own : List Nat} {b jb : Nat} {D : DevS} {v0 v1 : Value} {r0 : Int} {a0 c0 f0 : Nat} (k : Nat) (w : World) (hD : Dev own w b D v0 v1) (hJ : JrnAt w jb b r0 a0 c0 f0) :
    Calls Tryd.prog 34 #[.pointer (some ⟨jb, 0, none⟩), .int .i64 (k : Nat)] w fun e w' => ∃ X K Bs g va vc, e = .returned (.func (.func 50) #[] #[.pointer (some ⟨X, 0, none⟩), .pointer (some ⟨K, 0, none⟩)]) ∧ BodAt w.heap.size w' X K Bs g va vc k (D.row r0) ∧ Below w.heap.size w w' := by
  have HD := Lib.hid hD
  have HJ := Lib.hid hJ
  have hjl := hJ.lt
  have hcap := hD.ok.cap
  have hrow := hD.ok.row r0
  have hl2 : (D.row r0).length ≤ 1048576 := by omega
  obtain ⟨L, hL⟩ : ∃ L, D.row r0 = L := ⟨_, rfl⟩
  have HL := Lib.hid hL
  rw [hL] at hl2 ⊢
  have HL2 := Lib.hid hl2
  clear hD hJ hL hrow hl2 hcap
  go_enter Tryd.func34, Tryd.ntmps34
  go_wp2_with fail
  have hb1 : Below w.heap.size w (w.alloc (.cells #[.int .i64 (k : Nat)] 3)) := (Below.refl _ _).alloc (Nat.le_refl _) _
  have hK1 : Boxed (w.alloc (.cells #[.int .i64 (k : Nat)] 3)) w.heap.size 3 (.int .i64 (k : Nat)) := Boxed.new w _ _
  obtain ⟨w1, hw1⟩ : ∃ w1, w.alloc (.cells #[.int .i64 (k : Nat)] 3) = w1 := ⟨_, rfl⟩
  rw [hw1] at hb1 hK1 ⊢
  have hzw := hK1.lt
  have HB1 := Lib.hid hb1
  have HK1 := Lib.hid hK1
  clear hw1 hb1 hK1
  refine region_tail1 (l := [_, _, _, _, _, _, _, _, _, _, _]) (s := _) (by kernel_rfl) (by decide +kernel) (by decide +kernel) (fun v => { tmps := #[.pointer (some ⟨jb, 0, none⟩), .int .i64 (k : Nat), undef, .pointer (some ⟨w.heap.size, 0, none⟩), .nilFunc, v 10, v 0, v 1, v 2, v 3, v 4, v 5, v 6, v 7, v 8, v 9, undef], defers := [] }) (fun W => Below w1.heap.size w1 W) (fun i u W => match i with
    | 0 => u = .pointer (some ⟨jb, 0, none⟩)
    | 1 => u = .pointer (some ⟨jb, 0, none⟩)
    | 2 => u = .pointer (some ⟨jb, 0, none⟩)
    | 3 => u = .pointer (some ⟨b, 0, none⟩)
    | 4 => u = .pointer (some ⟨jb, 0, none⟩)
    | 5 => u = .pointer (some ⟨jb, 0, none⟩)
    | 6 => u = .pointer (some ⟨jb, 1, none⟩)
    | 7 => u = .int .i64 r0
    | 8 => ∃ p c, u = .slice p L.length c ∧ Sl encY W.heap.size W u L
    | 9 => ∃ Bs g va vc, u = .func (.func 61) #[] #[.pointer (some ⟨Bs, 0, none⟩)] ∧ ScAt w1.heap.size W Bs g va vc L
    | 10 => ∃ X, u = .pointer (some ⟨X, 0, none⟩) ∧ w1.heap.size ≤ X ∧ Boxed W X seqT .nilFunc
    | _ => True) (fun A B => Below A.heap.size A B) ?hC ?hV (fun _ => undef) ?h0 ?hop ?hend
  case hC => exact fun A B h h2 => h.trans (h2.mono h.size)
  case h0 => exact (Below.refl _ _).drew
  case hV =>
    intro i u A B h hx
    match i, h with
    | 0, h => exact h
    | 1, h => exact h
    | 2, h => exact h
    | 3, h => exact h
    | 4, h => exact h
    | 5, h => exact h
    | 6, h => exact h
    | 7, h => exact h
    | 8, ⟨p, c, e, h⟩ => exact ⟨p, c, e, (h.below hx).mono hx.size⟩
    | 9, ⟨Bs, g, va, vc, e, h⟩ => exact ⟨Bs, g, va, vc, e, h.below hx⟩
    | 10, ⟨X, e, h1, h2⟩ => exact ⟨X, e, h1, (hx.block X h2.lt).trans h2⟩
    | n + 11, h => trivial
  case hop =>
    simp only [AllDo]
    refine ⟨?o0, ?o1, ?o2, ?o3, ?o4, ?o5, ?o6, ?o7, ?o8, ?o9, ?o10, trivial⟩
    all_goals intro v W hc hd Q hQ
    all_goals simp [Region.binds] at hd
    all_goals rw [if_pos (show Region.wanted _ _ = true from rfl)]
    case o3 =>
      have hJW : JrnAt W jb b r0 a0 c0 f0 := (hc.block jb (by omega)).trans ((HB1.out.block jb hjl).trans HJ.out)
      have k0 : W.cell? ⟨jb, 0, none⟩ = some (.pointer (some ⟨b, 0, none⟩)) := cell_of_row W _ 0 _ _ _ hJW
      clear hJW
      go_wp2
      exact ⟨_, rfl, Below.refl _ _, rfl⟩
    case o7 =>
      have hJW : JrnAt W jb b r0 a0 c0 f0 := (hc.block jb (by omega)).trans ((HB1.out.block jb hjl).trans HJ.out)
      have k0 : W.cell? ⟨jb, 1, none⟩ = some (.int .i64 r0) := cell_of_row W _ 1 _ _ _ hJW
      clear hJW
      go_wp2
      exact ⟨_, rfl, Below.refl _ _, rfl⟩
    case o8 =>
      have hDW := HD.out.below (HB1.out.trans (hc.mono HB1.out.size))
      have HBY := Lib.hid (bytes_any r0 W hDW)
      rw [HL.out] at HBY
      clear hDW
      go_wp2_with fail
      refine HBY.out.mono ?_
      rintro e W' ⟨vv, rfl, hown, hb'⟩
      have hS := Sl.of_owns hown
      obtain ⟨p, c, rfl⟩ := hS.form
      have HS := Lib.hid hS
      clear hown hS HBY
      go_wp2
      refine ⟨.slice p L.length c, ?_, hb', p, c, rfl, HS.out⟩
      simp [updV, hd.1, hd.2]
    case o9 =>
      obtain ⟨⟨p, c, h8⟩, hS⟩ := hd
      rw [h8] at hS
      have HSC := Lib.hid (scan_any p L.length c L HL2.out W hS)
      have hzW := hc.size
      clear hS
      go_wp2_with fail
      refine HSC.out.mono ?_
      rintro e W' ⟨Bs, g, va, vc, rfl, hs1, hs2, hs3, hs4, hcB, hSB, hkB, hb'⟩
      have HX : Hid (ScAt w1.heap.size W' Bs g va vc L) := Lib.hid ⟨hcB, hSB, hkB, by omega, by omega, hs2, hs4⟩
      clear hcB hSB hkB HSC
      go_wp2
      refine ⟨.func (.func 61) #[] #[.pointer (some ⟨Bs, 0, none⟩)], ?_, hb', Bs, g, va, vc, rfl, HX.out⟩
      simp [updV, h8]
    case o10 =>
      have HX : Hid (Boxed (W.alloc (.cells #[.nilFunc] seqT)) W.heap.size seqT .nilFunc) := Lib.hid (Boxed.new W _ _)
      have hzW := hc.size
      go_wp2
      exact ⟨_, rfl, (Below.refl _ _).alloc (Nat.le_refl _) _, W.heap.size, rfl, hzW, HX.out⟩
    all_goals go_wp2
    all_goals exact ⟨_, rfl, Below.refl _ _, rfl⟩
  case hend =>
    intro v W hc hv
    obtain ⟨Bs, g, va, vc, e9, hsc⟩ := hv 9 (by decide)
    obtain ⟨X, e10, hX1, hX2⟩ := hv 10 (by decide)
    have hXc := hX2.cell
    have hXf := hX2.frozen
    have hXl := hX2.lt
    have hKW : Boxed W w.heap.size 3 (.int .i64 (k : Nat)) := (hc.block _ hzw).trans HK1.out
    have HBW : Hid (Below w.heap.size w W) := Lib.hid (HB1.out.trans (hc.mono HB1.out.size))
    have HU : Hid (∀ U, U = W.setCell ⟨X, 0, none⟩ (.func (.func 61) #[] #[.pointer (some ⟨Bs, 0, none⟩)]) → BodAt w.heap.size U X w.heap.size Bs g va vc k L ∧ Below w.heap.size w U) := Lib.hid (by
      rintro U rfl
      have hbt : But [X] W (W.setCell ⟨X, 0, none⟩ (.func (.func 61) #[] #[.pointer (some ⟨Bs, 0, none⟩)])) := (But.refl _ _).set (by simp) _
      have hne : Bs ≠ X := by
        rintro rfl
        have h1 := hsc.bs
        rw [hXc] at h1; cases h1
      refine ⟨⟨hX2.set _, (hbt.block _ (by omega) (by simp; omega)).trans hKW, ⟨(World.cell?_of_block (a := ⟨Bs, 0, none⟩) (hbt.block Bs hsc.hs (by simpa using hne))).trans hsc.bs, ?_, hsc.kv, Nat.le_trans HB1.out.size hsc.l1, Nat.le_trans HB1.out.size hsc.l2, by simpa using hsc.hs, by simpa using hsc.hg⟩, by omega, Nat.le_refl _, by omega, by have := hsc.l1; omega, by have := hsc.l2; omega⟩, HBW.out.setCell (p := ⟨X, 0, none⟩) (by show w.heap.size ≤ X; omega) _⟩
      have := sl_box (u := .func (.func 61) #[] #[.pointer (some ⟨Bs, 0, none⟩)]) hsc.sl hX2 (fun x e => by cases e)
      simpa using this)
    clear hc hv hsc hX2 hKW
    intro Q hQ
    rw [if_pos (show Region.wanted _ _ = true from rfl)]
    rw [e9, e10]
    have hst := store_func (P := Tryd.prog) 61 Bs hXc hXf
    go_wp2
    go_ret
    exact ⟨X, w.heap.size, Bs, g, va, vc, rfl, HU.out _ rfl⟩
end Go.Proofs.YtocmfdahnekboaaDoor

/- journal.bodies$1: the bodies of a kind, one by one. -/
namespace Go.Proofs.YtocmfdahnekboaaDoor
open Go.RowKit Go.Shelf
set_option linter.unusedVariables false
attribute [local go_sem] Oper.semAt_some

theorem yieldAny' {F : Fence} (hd : F.depth = none) {m : Nat} (m' l2 : Nat) {P : Program} {l : Nat} {args : Array Value} {W : World} {R : Ending → World → Prop} (h : YieldAt F m P l args W R) : YieldAt (F.inRound l2) m' P l args W R := by
  obtain ⟨fn, tmps, assign, body, hy, hF, hr⟩ := h
  exact ⟨fn, tmps, assign, body, hy, hF, fun c cs _ => hr c cs (fun d hd' => by rw [hd] at hd'; cases hd')⟩
/-- The bodies of a kind among those that were gone over, each with its slice. -/
def bodC (k : Nat) (pre : List FX) : List CX := (pre.filter fun x => x.1.2.1 == k).map fun x => (x.1.2.2, x.2)
theorem bodC_fst (k : Nat) (pre : List FX) : (bodC k pre).map Prod.fst = bodP k (pre.map Prod.fst) := by
  unfold bodC bodP
  rw [List.filter_map, List.map_map, List.map_map]
  rfl
theorem bodC_snoc (k : Nat) (pre : List FX) (x : FX) : bodC k (pre ++ [x]) = if x.1.2.1 = k then bodC k pre ++ [(x.1.2.2, x.2)] else bodC k pre := by
  unfold bodC
  rw [List.filter_append, List.map_append]
  by_cases hk : x.1.2.1 = k
  · rw [if_pos hk, List.filter_cons, if_pos (by simpa using hk)]; rfl
  · rw [if_neg hk, List.filter_cons, if_neg (by simpa using hk)]; simp
/-- A body that is told: it is read, and lies from a block on. -/
def RyB (n0 : Nat) (x : CX) (W : World) : Prop := Sl encY W.heap.size W x.2 x.1 ∧ NewAt n0 W x.2
theorem RyB.putO {n0 l : Nat} {x : CX} {W : World} {o : Obj} {r : Loop} (hl : W.heap[l]? = some (.loop r)) (h : RyB n0 x W) : RyB n0 x (W.putObj l o) := ⟨by have := sl_putO (o := o) h.1 hl; simpa using this, h.2.putO hl⟩
abbrev yieldT : TypeId := 91
/-- What stays while the bodies are gone through. -/
def BdI (J : List CX → World → Prop) (k YB K l : Nat) (pre : List FX) (W : World) : Prop :=
  J (bodC k pre) W ∧ (∀ x ∈ pre, x.1.2.1 ≤ k) ∧ Boxed W YB yieldT (.func (.yield l) #[] #[]) ∧ Boxed W K 3 (.int .i64 (k : Nat))
/-- Where it ends early: a higher kind has come, or no more was asked for. -/
def BdX (J Jx : List CX → World → Prop) (k : Nat) (cd : Code) (pre : List FX) (W : World) : Prop :=
  cd = .ret ∧ ((∃ p0 x, pre = p0 ++ [x] ∧ k < x.1.2.1 ∧ (∀ y ∈ p0, y.1.2.1 ≤ k) ∧ J (bodC k p0) W) ∨ ((∀ y ∈ pre, y.1.2.1 ≤ k) ∧ Jx (bodC k pre) W))
theorem BdI.own {J : List CX → World → Prop} {k YB K l B0 B : Nat} (hJ : OwnFrom B0 J) (hB : B0 ≤ B) (hY : YB < B) (hK : K < B) : OwnFrom B (BdI J k YB K l) := fun pre A C row ⟨h1, h2, h3, h4⟩ hg hr =>
  ⟨OwnFrom.le hJ hB _ A C row h1 hg hr, h2, keeps_block hg hr hY h3, keeps_block hg hr hK h4⟩
theorem BdX.own {J Jx : List CX → World → Prop} {k B0 B : Nat} (hJ : OwnFrom B0 J) (hJx : OwnFrom B0 Jx) (hB : B0 ≤ B) (cd : Code) : OwnFrom B (BdX J Jx k cd) := fun pre A C row ⟨h0, h⟩ hg hr =>
  ⟨h0, h.imp (fun ⟨p0, x, e, h1, h2, h3⟩ => ⟨p0, x, e, h1, h2, OwnFrom.le hJ hB _ A C row h3 hg hr⟩) (fun ⟨h1, h2⟩ => ⟨h1, OwnFrom.le hJx hB _ A C row h2 hg hr⟩)⟩
def bdA (n0 : Nat) (A : Act) (z : Nat) (x : FX) (a' : Act) (W : World) : Prop :=
  ∃ Bx va vc, z ≤ Bx ∧ x.2 = .slice va x.1.2.2.length vc ∧ FrameAt W Bx x ∧ Sl encY W.heap.size W x.2 x.1.2.2 ∧ NewAt n0 W x.2 ∧ a' = { tmps := (((A.tmps.setIfInBounds 7 (.int .i64 x.1.1)).setIfInBounds 8 (.agg #[.int .i64 x.1.2.1, x.2])).setIfInBounds 5 (.pointer (some ⟨Bx, 0, none⟩))), defers := [] }

set_option maxRecDepth 100000 in
set_option maxHeartbeats 8000000 in
theorem bodies1 (X K Bs g n0 k : Nat) (va : Option Addr) (vc : Nat) (L : List Nat) (hL : Bytes L) (w : World) (hn0 : n0 ≤ w.heap.size) (hB : BodAt 0 w X K Bs g va vc k L) :
    SeqP Fence.wide 3 Tryd.prog 50 #[.pointer (some ⟨X, 0, none⟩), .pointer (some ⟨K, 0, none⟩)] (fun x : CX => #[x.2]) n0 1 [K, X, Bs, g] (fun ys => ys.map Prod.fst = bodF k (scanL L 0)) (fun pre => pre.map Prod.fst <+: bodF k (scanL L 0)) (RyB (w.heap.size + 3)) w := fun l J Jx W hW hwW hJ hJx hJb hJxb hJp hJxp hY h0 => by
  obtain ⟨hKX, hKB, hKg⟩ := hB.ne
  have hBW := hB.below hW
  have HBW := Lib.hid hBW
  have HY := Lib.hid hY
  have HJ := Lib.hid hJ
  have HJX := Lib.hid hJx
  have HJB := Lib.hid hJb
  have HJXB := Lib.hid hJxb
  have hn0W : n0 ≤ W.heap.size := Nat.le_trans hn0 hW.size
  have HL := Lib.hid hL
  have cX := hBW.bx.cell
  have hXl := hBW.bx.lt
  have hKl := hBW.bk.lt
  have hsl := hBW.sc.hs
  have hgl := hBW.sc.hg
  have H0 := Lib.hid h0
  clear hB hBW hW hY hJ hJx hJb hJxb hL h0
  refine callsIn_of_wp_marks Tryd.func50 rfl trivial ?_ rfl
  simp only [Tryd.ntmps50, List.size_toArray, List.length_cons, List.length_nil, Nat.reduceAdd, Nat.reduceSub, Array.replicate_succ, Array.replicate_zero, List.push_toArray, List.append_toArray, List.nil_append, List.cons_append]
  refine wpIn_wide.2 ?_
  go_wp2_with fail
  have hb1 : Below W.heap.size W (W.alloc (.cells #[.func (.yield l) #[] #[]] yieldT)) := (Below.refl _ _).alloc (Nat.le_refl _) _
  have hY1 : Boxed (W.alloc (.cells #[.func (.yield l) #[] #[]] yieldT)) W.heap.size yieldT (.func (.yield l) #[] #[]) := Boxed.new W _ _
  have hj1 : J [] (W.alloc (.cells #[.func (.yield l) #[] #[]] yieldT)) := HJ.out.alloc _ H0.out
  have hz1 : (W.alloc (.cells #[.func (.yield l) #[] #[]] yieldT)).heap.size = W.heap.size + 1 := World.size_alloc _ _
  obtain ⟨w1, hw1⟩ : ∃ w1, W.alloc (.cells #[.func (.yield l) #[] #[]] yieldT) = w1 := ⟨_, rfl⟩
  rw [hw1] at hb1 hY1 hj1 hz1 ⊢
  have hB1 := HBW.out.below hb1
  have hI0 : BdI J k W.heap.size K l [] w1 := ⟨hj1, (fun x hx => by cases hx), hY1, hB1.bk⟩
  clear hw1 hj1 hY1 H0
  refine (wpIn_wide (n := 3)).1 ?_
  refine wpIn_act ?_
  intro A hA
  refine rangeS rfl (by omega) (gf := 61) (lb := #[.pointer (some ⟨Bs, 0, none⟩)]) (by rw [hA]; rfl) trivial (enters_of Tryd.func61 (by kernel_rfl) rfl)
    (frames1N Bs n0 [Bs, g] L HL.out va L.length vc w1 (by omega) (fun k hk => by simp at hk; omega) (.inr (by simp)) (fun ad m c' e h0 => by
      rcases hB1.sc.kv ad m c' e h0 with h | h
      · exact absurd h (Nat.not_lt_zero _)
      · exact .inr (by simp at h; simp [h])) hB1.sc.bs hB1.sc.sl) (bdA (w.heap.size + 3) A w1.heap.size)
    (fun x a' W l o r hl ⟨Bx, va, vc, h1, h2, h3, h4, h5, h6⟩ => ⟨Bx, va, vc, h1, h2, h3.putObj hl, by have := sl_putO (o := o) h4 hl; simpa using this, h5.putO hl, h6⟩) (fun r h => by simp at h; omega) (by omega) (Below.refl _ _) (fun _ => rfl)
    (BdI J k W.heap.size K l) (BdX J Jx k) (BdI.own HJ.out (by omega) (by omega) (by omega)) (fun cd => BdX.own HJ.out HJX.out (by omega) cd)
    (fun s Wx r v hr ⟨h1, h2, h3, h4⟩ => ⟨HJB.out _ Wx r v (List.mem_cons_of_mem _ (List.mem_cons_of_mem _ hr)) h1, h2, h3.other (by simp at hr; omega) v, h4.other (by simp at hr; omega) v⟩)
    (fun cd s Wx r v hr ⟨h0, h⟩ => ⟨h0, h.imp (fun ⟨p0, x, e, h1, h2, h3⟩ => ⟨p0, x, e, h1, h2, HJB.out _ Wx r v (List.mem_cons_of_mem _ (List.mem_cons_of_mem _ hr)) h3⟩) (fun ⟨h1, h2⟩ => ⟨h1, HJXB.out _ Wx r v (List.mem_cons_of_mem _ (List.mem_cons_of_mem _ hr)) h2⟩)⟩)
    hI0 ?assign ?body ?done ?stop
  case assign =>
    rintro l2 pre ⟨⟨p, kk, bd⟩, v⟩ Wa KK hi ⟨hry, hnew0⟩ hz3 hK
    have hnew := hnew0.le (show w.heap.size + 3 ≤ w1.heap.size by omega)
    clear hnew0
    obtain ⟨va', vc', hv⟩ := (show Sl encY _ Wa v bd from hry).form
    subst hv
    dsimp only [encF]
    have hryA := (hry.below ((Below.refl Wa.heap.size Wa).alloc (Nat.le_refl _) (.cells #[.int .i64 kk, .slice va' bd.length vc'] 66))).mono (m := (Wa.alloc (.cells #[.int .i64 kk, .slice va' bd.length vc'] 66)).heap.size) (by simp)
    have HRY := Lib.hid hryA
    have HNW := Lib.hid (hnew.below ((Below.refl Wa.heap.size Wa).alloc (Nat.le_refl _) (.cells #[.int .i64 kk, .slice va' bd.length vc'] 66)))
    have hiA : BdI J k W.heap.size K l pre (Wa.alloc (.cells #[.int .i64 kk, .slice va' bd.length vc'] 66)) := (BdI.own (B := w1.heap.size) HJ.out (by omega) (by omega) (by omega)).alloc _ hi
    have HIA := Lib.hid hiA
    clear hryA hry hiA hnew hi hI0
    rw [hA]
    gi_wp2
    refine hK _ _ ((KeepsOthers.alloc _ _).from _) ⟨((Below.refl n0 Wa).alloc (by omega) _), fun k h1 h2 => by omega, fun k hk => Below.heap_alloc Wa _ _ (by simp at hk; omega)⟩ HIA.out ?_
    exact ⟨Wa.heap.size, va', vc', by omega, rfl, World.alloc_heap_new Wa _, HRY.out, HNW.out, by rw [hA]; rfl⟩
  case body =>
    rintro l2 pre ⟨⟨p, kk, bd⟩, v⟩ a' Wb ⟨hj, hle, hyb, hkb⟩ hp hz3 ⟨Bx, va', vc', hBx, hv, hF, hSv, hnv, rfl⟩
    dsimp only at hv
    subst hv
    unfold FrameAt at hF
    dsimp only at hF hSv hnv
    obtain ⟨f1, f2, f3, f4⟩ := cell2 hF
    have ck := hkb.cell
    have cy := hyb.cell
    obtain ⟨tl, htl⟩ := hp
    rw [List.map_append, List.append_assoc] at htl
    have htl' : pre.map Prod.fst ++ ((p, kk, bd) :: tl) = scanL L 0 := htl
    have hbf : bodF k (scanL L 0) = (bodC k pre).map Prod.fst ++ bodF k ((p, kk, bd) :: tl) := by
      rw [← htl', bodC_fst]
      exact bodF_pre k _ _ (fun x hx => by obtain ⟨y, hy, rfl⟩ := List.mem_map.1 hx; exact hle y hy)
    have HJ1 := Lib.hid hj
    have HLE := Lib.hid hle
    have HYB := Lib.hid hyb
    have HKB := Lib.hid hkb
    have HREF : Hid (KeepsFrom w1.heap.size Wb Wb ∧ KpO n0 0 [Bs, g] w1 Wb Wb) := Lib.hid ⟨⟨Nat.le_refl _, fun _ _ _ h _ => h⟩, Below.refl _ _, fun _ _ _ => rfl, fun _ _ => rfl⟩
    clear hle hyb hkb hF hI0 htl htl' f3 f4
    rw [hA]
    by_cases hgt : k < kk
    · have hgi : ((k : Nat) : Int) < (kk : Nat) := by omega
      have HX : Hid (BdX J Jx k .ret (pre ++ [(((p, kk, bd), .slice va' bd.length vc') : FX)]) Wb) := Lib.hid ⟨rfl, .inl ⟨pre, _, rfl, hgt, HLE.out, HJ1.out⟩⟩
      clear hj hSv hnv hbf HJ1
      gi_wp2
      exact ⟨HREF.out.1, HX.out⟩
    · have hgi : ¬ ((k : Nat) : Int) < (kk : Nat) := by omega
      have HLE2 : Hid (∀ x ∈ (pre ++ [(((p, kk, bd), .slice va' bd.length vc') : FX)]), x.1.2.1 ≤ k) := Lib.hid (fun x hx => by
        rcases List.mem_append.1 hx with h | h
        · exact HLE.out x h
        · simp at h; subst h; show kk ≤ k; omega)
      by_cases hk : kk = k
      · subst hk
        have hya := HY.out (bodC kk pre) (bd, .slice va' bd.length vc') Wb hj (by
          rw [hbf, List.map_append, show bodF kk ((p, kk, bd) :: tl) = bd :: bodF kk tl from by show (if kk < kk then _ else if kk = kk then _ else _) = _; rw [if_neg (Nat.lt_irrefl _), if_pos rfl]]
          exact ⟨bodF kk tl, by simp⟩) (by omega) ⟨hSv, hnv⟩
        have hyb := YieldAt.mono (yieldAny' rfl 0 l2 hya) (R' := fun e W' => ∃ bb : Bool, e = .returned (.bool bb) ∧ KeepsFrom W.heap.size Wb W' ∧ (bb = true → J (bodC kk pre ++ [(bd, .slice va' bd.length vc')]) W' ∧ Below n0 Wb W' ∧ (∀ k, W.heap.size ≤ k → k < W.heap.size + 1 → W'.heap[k]? = Wb.heap[k]?) ∧ ∀ k, k ∈ [K, X, Bs, g] → W'.heap[k]? = Wb.heap[k]?) ∧ (bb = false → Jx (bodC kk pre ++ [(bd, .slice va' bd.length vc')]) W')) (by
          rintro e W' ⟨h1, ⟨rfl, h2, h3, h4, h5⟩ | ⟨rfl, h2⟩⟩
          · exact ⟨true, rfl, h1, (fun _ => ⟨h2, h3, h4, h5⟩), (fun h => by cases h)⟩
          · exact ⟨false, rfl, h1, (fun h => by cases h), (fun _ => h2)⟩)
        obtain ⟨fn, tmps, assign, body, hy, hR⟩ := hyb
        have HR := Lib.hid hR
        dsimp only at hy
        clear hj hSv hnv hbf HJ1 hya hR
        gi_wp2_with fail
        refine HR.out.mono ?_
        rintro e W3 ⟨bb, rfl, hq1, hq2, hq3⟩
        have hsn : bodC kk (pre ++ [(((p, kk, bd), .slice va' bd.length vc') : FX)]) = bodC kk pre ++ [(bd, .slice va' bd.length vc')] := by rw [bodC_snoc]; exact if_pos rfl
        cases bb with
        | true =>
          obtain ⟨hj3, hb3, hp3, hk3⟩ := hq2 rfl
          have HFIN : Hid (KeepsFrom w1.heap.size Wb W3 ∧ KpO n0 0 [Bs, g] w1 Wb W3 ∧ BdI J kk W.heap.size K l (pre ++ [(((p, kk, bd), .slice va' bd.length vc') : FX)]) W3) := Lib.hid ⟨KeepsFrom.raise hq1 (by omega), ⟨hb3, fun k h1 h2 => by omega, fun k hk => hk3 k (List.mem_cons_of_mem _ (List.mem_cons_of_mem _ hk))⟩,
            by rw [hsn]; exact hj3, HLE2.out, (hp3 _ (Nat.le_refl _) (by omega)).trans HYB.out, (hk3 K (by simp)).trans HKB.out⟩
          clear hj3 hb3 hp3 hk3 hq1 hq2 hq3 hsn
          gi_wp2
          exact HFIN.out
        | false =>
          have HFIN : Hid (KeepsFrom w1.heap.size Wb W3 ∧ BdX J Jx kk .ret (pre ++ [(((p, kk, bd), .slice va' bd.length vc') : FX)]) W3) := Lib.hid ⟨KeepsFrom.raise hq1 (by omega), rfl, .inr ⟨HLE2.out, by rw [hsn]; exact hq3 rfl⟩⟩
          clear hq1 hq2 hq3 hsn
          gi_wp2
          exact HFIN.out
      · have hke : (((kk : Nat) : Int) == (k : Nat)) = false := beq_eq_false_iff_ne.2 (by omega)
        have HFIN : Hid (BdI J k W.heap.size K l (pre ++ [(((p, kk, bd), .slice va' bd.length vc') : FX)]) Wb) := Lib.hid ⟨by rw [bodC_snoc, if_neg hk]; exact HJ1.out, HLE2.out, HYB.out, HKB.out⟩
        clear hj hSv hnv hbf HJ1
        gi_wp2
        refine ⟨fun _ h => (by cases h), ?_⟩
        gi_wp2
        exact ⟨HREF.out.1, HREF.out.2, HFIN.out⟩
  case done =>
    rintro D zs W' hD hzs ⟨hj, hle, _, _⟩ hK
    have HS : Hid ((bodC k zs).map Prod.fst = bodF k (scanL L 0)) := Lib.hid (by
      rw [bodC_fst, ← hzs]
      have := bodF_pre k (zs.map Prod.fst) [] (fun x hx => by obtain ⟨y, hy, rfl⟩ := List.mem_map.1 hx; exact hle y hy)
      rw [List.append_nil] at this
      rw [this]; simp [bodF])
    have HJ1 := Lib.hid hj
    have HK1 := Lib.hid hK
    clear hj hle hzs hI0
    rw [hA]
    gi_wp2
    refine ⟨by simp, .inl ⟨_, _, rfl, run_takeDeferred HK1.out, ?_⟩⟩
    refine ⟨_, results_none rfl _ _ _, ⟨_, rfl⟩, .inl ⟨_, HS.out, ?_⟩⟩
    exact HJ.out.putObj _ HJ1.out (by omega) HK1.out rfl
  case stop =>
    rintro D c' pre W' hD hp ⟨rfl, h⟩ hK
    have HK1 := Lib.hid hK
    have HE : Hid ((∃ xs : List CX, xs.map Prod.fst = bodF k (scanL L 0) ∧ J xs (W'.putObj D (.deferred none))) ∨ (∃ p : List CX, p.map Prod.fst <+: bodF k (scanL L 0) ∧ Jx p (W'.putObj D (.deferred none)))) := Lib.hid (by
      obtain ⟨tl, htl⟩ := hp
      rcases h with ⟨p0, x, rfl, h1, h2, h3⟩ | ⟨h1, h2⟩
      · refine .inl ⟨bodC k p0, ?_, HJ.out.putObj _ h3 (by omega) hK rfl⟩
        rw [bodC_fst, ← htl, List.map_append, List.append_assoc, bodF_pre k _ _ (fun y hy => by obtain ⟨z, hz, rfl⟩ := List.mem_map.1 hy; exact h2 z hz)]
        have : bodF k (x.1 :: tl) = [] := by show (if k < x.1.2.1 then _ else _) = _; rw [if_pos h1]
        rw [show ([x].map Prod.fst ++ tl) = x.1 :: tl from rfl, this, List.append_nil]
      · refine .inr ⟨bodC k pre, ?_, HJX.out.putObj _ h2 (by omega) hK rfl⟩
        rw [bodC_fst, ← htl, bodF_pre k _ _ (fun y hy => by obtain ⟨z, hz, rfl⟩ := List.mem_map.1 hy; exact h1 z hz)]
        exact List.prefix_append _ _)
    clear h hp hK hI0
    rw [hA]
    gi_wp2
    refine ⟨by simp, .inl ⟨_, _, rfl, run_takeDeferred HK1.out, ?_⟩⟩
    refine ⟨_, results_none rfl _ _ _, ⟨_, rfl⟩, HE.out⟩
end Go.Proofs.YtocmfdahnekboaaDoor

/- journal.Snapshot. -/
namespace Go.Proofs.YtocmfdahnekboaaDoor
open Go.RowKit Go.Shelf
set_option linter.unusedVariables false
attribute [local go_sem] Oper.semAt_some

/-- An append of whatever bytes to a row of the call's own, in a round. -/
theorem wpListIn_append_bytes {F : Fence} {m : Nat} (w : World) {ops : Array Oper} {rest : List Oper} {o : Oper} {a : Act} {Q : Exit → Act → World → Prop} (hgd : o.guard = none) (s x : Operand)
    (ho : o.op = .call { callee := .builtin .append, args := #[s, x], argTypes := #[22, 22] })
    (base : Nat) (v : Value) (n : Nat) (xs : List Value) (hs : a.eval s = v) (hown : w.ownsRow base 5 1 v n xs)
    (B : Nat) (sv : Value) (l : List Nat) (hx : a.eval x = sv) (hS : Sl encY B w sv l) (hm : n + l.length ≤ 1073741824) (hbase : base ≤ w.heap.size)
    (h : ∀ v' w', w'.ownsRow base 5 1 v' (n + l.length) (xs ++ l.map encY) → w.grownBy w' v.ownBlock → wpListIn F m Tryd.prog ops Q rest (a.put o.dst v') w') : wpListIn F m Tryd.prog ops Q (o :: rest) a w := by
  obtain ⟨i0, hi, hz0, hz1, hz2⟩ := info_parts info8
  rcases hS with ⟨rfl, ao, c0, rfl, hao⟩ | ⟨b, off, cap, rfl, hb, hcap, hc⟩
  · cases ao with
    | some ad => exact wpListIn_append_own w hgd s x 22 ho base 5 i0 (.int .u8 0) 1 1 Tryd.underlying22 hi hz0 hz1 hz2 rfl (by decide) v n xs hs hown ad 0 c0 [] hx rfl (fun j u hu => by simp at hu) (fun u hu => by cases hu) (by unfold maxLen; omega) (by omega) hbase (fun v' w' h1 h2 _ => h v' w' h1 h2)
    | none =>
      obtain rfl := hao rfl
      refine wpListIn_plain hgd fun K hK' => ?_
      have hrun := run_append_owned_none (P := Tryd.prog) (w := w) base 22 o.type 5 i0 1 Tryd.underlying22 hi v n xs hown
      unfold Oper.wpIn
      refine ⟨?_, ?_⟩
      · simp [Oper.about, ho, resolve, Target.leads, Sem.run_pure]
      · rw [Oper.semAt_plain F _ _ (by rw [ho]; intro c hc'; cases hc')]
        simp [execOp, ho, resolve, invoke, builtin, hs, hx, hrun, Result.andThen]
        exact hK' _ _ (h v w (by simpa using hown) (World.grownBy.refl _ _))
  · refine wpListIn_append_own w hgd s x 22 ho base 5 i0 (.int .u8 0) 1 1 Tryd.underlying22 hi hz0 hz1 hz2 rfl (by decide) v n xs hs hown ⟨b, off, none⟩ l.length cap (l.map encY) hx (by simp) (fun j u hu => ?_) (encY_one l) (by unfold maxLen; omega) (by omega) hbase (fun v' w' h1 h2 _ => h v' w' h1 h2)
    rw [List.getElem?_map] at hu
    cases hj : l[j]? with
    | none => rw [hj] at hu; cases hu
    | some y => rw [hj] at hu; cases hu; rw [show (⟨b, off, none⟩ : Addr).add j = ⟨b, off + j, none⟩ from by unfold Addr.add; split <;> simp_all]; exact hc j y hj

theorem bodF_len (k : Nat) : ∀ (ks : List (Nat × List Nat)) (a : Nat), (bodF k (posF a ks)).flatten.length ≤ (ks.map Prod.snd).flatten.length
  | [], a => Nat.le_refl _
  | x :: ks, a => by
    have ih := bodF_len k ks (a + (x.2.length + 7))
    show (if k < x.1 then [] else if x.1 = k then x.2 :: bodF k (posF (a + (x.2.length + 7)) ks) else bodF k (posF (a + (x.2.length + 7)) ks)).flatten.length ≤ _
    rw [List.map_cons, List.flatten_cons, List.length_append]
    split
    · simp
    · split
      · rw [List.flatten_cons, List.length_append]; omega
      · omega
/-- All bodies of a kind are no longer than what they stand in. -/
theorem bods_len (k : Nat) (L : List Nat) (hb : ∀ x ∈ L, x < 256) : (bodF k (scanL L 0)).flatten.length ≤ L.length := by
  obtain ⟨ks, rest, e, _, _, h⟩ := split0 L hb
  rw [h]
  refine Nat.le_trans (bodF_len k ks 0) ?_
  conv => rhs; rw [e]
  rw [List.length_append, joinF_length]
  omega
theorem bodF_count (k : Nat) : ∀ (ks : List (Nat × List Nat)) (a : Nat), (bodF k (posF a ks)).length ≤ ks.length
  | [], a => Nat.le_refl _
  | x :: ks, a => by
    have ih := bodF_count k ks (a + (x.2.length + 7))
    show (if k < x.1 then [] else if x.1 = k then x.2 :: bodF k (posF (a + (x.2.length + 7)) ks) else bodF k (posF (a + (x.2.length + 7)) ks)).length ≤ _
    rw [List.length_cons]
    split
    · simp
    · split
      · rw [List.length_cons]; omega
      · omega
theorem bods_count (k : Nat) (L : List Nat) (hb : ∀ x ∈ L, x < 256) : (bodF k (scanL L 0)).length ≤ L.length := by
  obtain ⟨ks, rest, e, _, _, h⟩ := split0 L hb
  rw [h]
  refine Nat.le_trans (bodF_count k ks 0) ?_
  conv => rhs; rw [e]
  rw [List.length_append, joinF_length]
  omega
theorem bodF_bytes (k : Nat) (L : List Nat) (hb : ∀ x ∈ L, x < 256) : ∀ y ∈ bodF k (scanL L 0), ∀ x ∈ y, x < 256 := by
  obtain ⟨ks, rest, e, hk, _, h⟩ := split0 L hb
  rw [h]
  have : ∀ (ks : List (Nat × List Nat)) (a : Nat), (∀ x ∈ ks, okF x) → ∀ y ∈ bodF k (posF a ks), ∀ x ∈ y, x < 256 := by
    intro ks
    induction ks with
    | nil => intro a _ y hy; cases hy
    | cons z zs ih =>
      intro a hz y hy
      have hy' : y ∈ (if k < z.1 then [] else if z.1 = k then z.2 :: bodF k (posF (a + (z.2.length + 7)) zs) else bodF k (posF (a + (z.2.length + 7)) zs)) := hy
      split at hy'
      · cases hy'
      · split at hy'
        · rcases List.mem_cons.1 hy' with rfl | h
          · exact (hz z (by simp)).2.2.2
          · exact ih _ (fun x hx => hz x (by simp [hx])) y h
        · exact ih _ (fun x hx => hz x (by simp [hx])) y hy'
  exact this ks 0 hk
theorem own_low {W : World} {base e s n r : Nat} {v : Value} {xs : List Value} (h : W.ownsRow base e s v n xs) (hr : r < base) (u : Value) : (W.setCell ⟨r, 0, none⟩ u).ownsRow base e s v n xs :=
  own_butG h (own := [r]) ((But.refl _ _).set (by simp) _) (fun g hg hm => by have := (World.ownsRow.lt h g hg).1; simp at hm; omega)
/-- What the snapshot is. -/
def snapL (L : List Nat) : List Nat := (bodF 2 (scanL L 0)).flatten
/-- What stays while the snapshot is put together. -/
def SnI (w w1 : World) (pre : List CX) (W : World) : Prop :=
  ∃ v, Boxed W w.heap.size 22 v ∧ W.ownsRow (w1.heap.size + 3) 5 1 v ((pre.map Prod.fst).flatten).length (((pre.map Prod.fst).flatten).map encY) ∧ Below w.heap.size w W
theorem SnI.own {w w1 : World} {B : Nat} (hB : w.heap.size < B) (hB1 : w1.heap.size ≤ B) : OwnFrom B (SnI w w1) := fun pre A C row ⟨v, h1, h2, h3⟩ hg hr =>
  ⟨v, keeps_block hg hr hB h1, own_soft h2 hg (fun r e => (hr r e).2), ownFrom_below (β := Unit) (Nat.le_refl _) (show w.heap.size ≤ B by omega) () A C row h3 hg hr⟩

set_option maxRecDepth 100000 in
set_option maxHeartbeats 8000000 in
theorem snapshot_any {own : List Nat} {b jb : Nat} {D : DevS} {v0 v1 : Value} {r0 : Int} {a0 c0 f0 : Nat} (w : World) (hD : Dev own w b D v0 v1) (hJ : JrnAt w jb b r0 a0 c0 f0) :
    Calls Tryd.prog 18 #[.pointer (some ⟨jb, 0, none⟩)] w fun e w' => ∃ v, e = .returned v ∧ w'.ownsRow w.heap.size 5 1 v (snapL (D.row r0)).length ((snapL (D.row r0)).map encY) ∧ Below w.heap.size w w' := by
  have hrow := hD.ok.row r0
  have hcap := hD.ok.cap
  have hb0 : Below w.heap.size w (w.alloc (.cells #[.slice none 0 0] 22)) := (Below.refl _ _).alloc (Nat.le_refl _) _
  have hS0 : Boxed (w.alloc (.cells #[.slice none 0 0] 22)) w.heap.size 22 (.slice none 0 0) := Boxed.new w _ _
  have HBD := Lib.hid (bodies_any 2 (w.alloc (.cells #[.slice none 0 0] 22)) (hD.below hb0) ((hb0.block jb hJ.lt).trans hJ))
  have HLB : Hid ((bodF 2 (scanL (D.row r0) 0)).flatten.length ≤ 1048576) := Lib.hid (by have := bods_len 2 (D.row r0) hrow.2; omega)
  have HBL : Hid (Bytes (D.row r0)) := Lib.hid ⟨by omega, hrow.2⟩
  have HSV : Hid (snapL (D.row r0) = (bodF 2 (scanL (D.row r0) 0)).flatten) := Lib.hid rfl
  obtain ⟨L, hL⟩ : ∃ L, D.row r0 = L := ⟨_, rfl⟩
  rw [hL] at HBD HLB HBL HSV ⊢
  obtain ⟨wa, hwa⟩ : ∃ wa, w.alloc (.cells #[.slice none 0 0] 22) = wa := ⟨_, rfl⟩
  rw [hwa] at hb0 hS0 HBD
  have HB0 := Lib.hid hb0
  have HS0 := Lib.hid hS0
  have HWA := Lib.hid hwa
  have hzl := hS0.lt
  clear hD hJ hrow hcap hL hwa hb0 hS0
  refine (callsIn_wide (n := 4)).1 ?_
  refine callsIn_of_wp_marks Tryd.func18 rfl trivial ?_ rfl
  simp only [Tryd.ntmps18, List.size_toArray, List.length_cons, List.length_nil, Nat.reduceAdd, Nat.reduceSub, Array.replicate_succ, Array.replicate_zero, List.push_toArray, List.append_toArray, List.nil_append, List.cons_append]
  refine wpIn_wide.2 ?_
  go_wp2_with fail
  rw [HWA.out]
  refine HBD.out.mono ?_
  rintro e w1 ⟨X, K, Bs, g, va, vc, rfl, hB, hb1⟩
  have hS1 : Boxed w1 w.heap.size 22 (.slice none 0 0) := (hb1.block _ hzl).trans HS0.out
  have hbw1 : Below w.heap.size w w1 := HB0.out.trans (hb1.mono (by omega))
  have hI0 : SnI w w1 [] w1 := ⟨_, hS1, World.ownsRow_nil _ _ _ _, hbw1⟩
  have hX2 := hB.bx.lt
  have hK2 := hB.bk.lt
  have hs2 := hB.sc.hs
  have hg2 := hB.sc.hg
  have hX1 := hB.l1
  have hK1 := hB.l2
  have hs1 := hB.sc.l1
  have hg1 := hB.sc.l2
  have hz1 := hb1.size
  have HI0 := Lib.hid hI0
  have HB := Lib.hid hB
  clear hI0 hS1 hbw1 hB hb1 HBD
  go_wp2_with fail
  rename_i K' hKQ
  refine (wpIn_wide (n := 4)).1 ?_
  refine wpIn_act ?_
  intro A hA
  refine rangeP rfl (by omega) (gf := 50) (lb := #[.pointer (some ⟨X, 0, none⟩), .pointer (some ⟨K, 0, none⟩)]) (by rw [hA]; rfl) trivial (enters_of Tryd.func50 (by kernel_rfl) rfl)
    (bodies1 X K Bs g w.heap.size 2 va vc L HBL.out w1 (by omega) (HB.out.le (Nat.zero_le _)))
    (fun x W l o r hl' h => RyB.putO hl' h) (fun r h => by simp at h; omega) (by omega) (Below.refl _ _) (fun _ => rfl)
    (SnI w w1) (fun _ _ _ => False) (SnI.own (by omega) (Nat.le_refl _)) (fun _ _ _ _ _ h _ _ => h)
    (fun pre W r v hr ⟨v', h1, h2, h3⟩ => by
      have hr' : r < w1.heap.size ∧ w.heap.size < r := by simp at hr; omega
      exact ⟨v', h1.other (by omega) v, own_low h2 (by omega) v, h3.setCell (p := ⟨r, 0, none⟩) (by show w.heap.size ≤ r; omega) v⟩) (fun _ _ _ _ _ _ h => h)
    (fun pre W r v hr1 hr2 ⟨v', h1, h2, h3⟩ => ⟨v', h1.other (by omega) v, own_low h2 (by omega) v, h3.setCell (p := ⟨r, 0, none⟩) (by show w.heap.size ≤ r; omega) v⟩) (fun _ _ _ _ _ _ _ h => h)
    HI0.out (fun x => { tmps := (A.tmps.setIfInBounds 7 x.2).setIfInBounds 4 x.2, defers := [] }) ?assign ?body ?done ?stop
  case assign =>
    rintro l x W KK hK
    rw [hA] at hK ⊢
    gi_wp2
    exact hK
  case body =>
    rintro l pre ⟨ck, xv⟩ W ⟨v, h1, h2, h3⟩ hp hz5 ⟨hxS, hxn⟩
    dsimp only at hxS hxn
    obtain ⟨xa, xc, hxv⟩ := hxS.form
    subst hxv
    have c1 := h1.cell
    have hlen : ((pre.map Prod.fst).flatten).length + ck.length ≤ 1073741824 := by
      obtain ⟨tl, htl⟩ := hp
      have e1 := congrArg (fun z => (List.flatten z).length) htl
      simp only [List.map_append, List.flatten_append, List.length_append] at e1
      have h5 := HLB.out
      simp at e1 h5 ⊢
      omega
    obtain ⟨PF, hPF⟩ : ∃ PF, (pre.map Prod.fst).flatten = PF := ⟨_, rfl⟩
    have HPF : Hid (∀ u : Value, ((pre ++ [((ck, u) : CX)]).map Prod.fst).flatten = PF ++ ck) := Lib.hid (fun u => by rw [List.map_append, List.flatten_append, hPF]; simp)
    rw [hPF] at h2 hlen
    obtain ⟨m, hm⟩ : ∃ m, PF.length = m := ⟨_, rfl⟩
    rw [hm] at h2 hlen
    obtain ⟨pa, pc, hpv⟩ := own_form h2
    subst hpv
    have hnb : (Value.slice pa m pc).ownBlock ≠ some w.heap.size := own_box h2 h1 (by decide)
    have HNB := Lib.hid hnb
    have H1 := Lib.hid h1
    have H2 := Lib.hid h2
    have H3 := Lib.hid h3
    have HXS := Lib.hid hxS
    have hgl : Hid (∀ gg, (Value.slice pa m pc).ownBlock = some gg → w1.heap.size + 3 ≤ gg ∧ gg < W.heap.size) := Lib.hid (fun gg hg => World.ownsRow.lt h2 gg hg)
    have HM := Lib.hid hm
    have HLN := Lib.hid hlen
    have hSW := h1.lt
    obtain ⟨q, hq⟩ : ∃ q, ck.length = q := ⟨_, rfl⟩
    have HQ := Lib.hid hq
    rw [hq] at HXS HLN ⊢
    clear h1 h2 h3 hxS hxn hp hPF hnb hm hlen hq
    rw [hA]
    gi_wp2_with (gi_at_builtin; refine wpListIn_append_bytes _ rfl _ _ rfl (w1.heap.size + 3) (.slice pa m pc) m (PF.map encY) rfl H2.out W.heap.size _ ck rfl HXS.out (by rw [HQ.out]; exact HLN.out) (by omega) ?_; intro v' w2 hown' hgrow; obtain ⟨va', vc', hvf'⟩ := own_form hown'; subst hvf'; have hb2 := boxed_grown H1.out hgrow HNB.out; have hc1 := hb2.cell; have hf1 := hb2.frozen; have HB2 := Lib.hid hb2; have HOW := Lib.hid hown'; have HGR := Lib.hid hgrow; clear hb2 hown' hgrow)
    have hbt : But (w.heap.size :: (Value.slice pa m pc).ownBlock.toList) W (w2.setCell ⟨w.heap.size, 0, none⟩ (.slice va' (m + ck.length) vc')) := ((But.refl _ W).grown HGR.out (fun gg e => by rw [e]; simp)).set (by simp) _
    have hlow : ∀ j ∈ (w.heap.size :: (Value.slice pa m pc).ownBlock.toList), j = w.heap.size ∨ w1.heap.size + 3 ≤ j := fun j hj => by
      rcases List.mem_cons.1 hj with h | h
      · exact .inl h
      · exact .inr (hgl.out j (by simpa using h)).1
    refine ⟨⟨hbt.size, fun j o hB' hk hoc => (hbt.block j (Array.getElem?_eq_some_iff.1 hk).1 (fun hm => ?_)).trans hk⟩, ⟨?_, fun j h1 h2 => hbt.block j (by omega) (fun hm => by rcases hlow j hm with h | h <;> omega), fun j hk => hbt.block j (by have := hg2; simp at hk; omega) (fun hm => ?_)⟩, ?_⟩
    · rcases List.mem_cons.1 hm with h | h
      · omega
      · obtain ⟨_, cur, hcur⟩ := own_at H2.out (by simpa using h)
        rw [hcur] at hk; cases hk; cases hoc
    · exact hbt.below (n := w.heap.size) (fun j hj => by rcases hlow j hj with h | h <;> omega) (by omega)
    · rcases hlow j hm with h | h
      · simp at hk; omega
      · simp at hk; omega
    · refine ⟨_, HB2.out.set _, ?_, ?_⟩
      · rw [HPF.out, List.length_append, HM.out, List.map_append]
        exact own_set HOW.out HB2.out (by decide)
      · exact H3.out.trans (hbt.below (n := w.heap.size) (fun j hj => by rcases hlow j hj with h | h <;> omega) H3.out.size)
  case done =>
    rintro DB zs W hDB hzs ⟨v, h1, h2, h3⟩ hK
    have e1 : (zs.map Prod.fst).flatten = snapL L := by rw [HSV.out]; exact congrArg List.flatten hzs
    rw [e1] at h2
    have c1 := h1.cell
    obtain ⟨pa, pc, hpv⟩ := own_form h2
    subst hpv
    have HK1 := Lib.hid hK
    have HFIN : Hid ((W.putObj DB (.deferred none)).ownsRow w.heap.size 5 1 (.slice pa (snapL L).length pc) (snapL L).length ((snapL L).map encY) ∧ Below w.heap.size w (W.putObj DB (.deferred none))) := Lib.hid (by
      have hp : But [DB] W (W.putObj DB (.deferred none)) := But.putObj
      refine ⟨own_base (own_butG h2 hp (fun gg hg hm => ?_)) (by omega), h3.trans (hp.below (n := w.heap.size) (by simp; omega) h3.size)⟩
      obtain ⟨_, cur, hcur⟩ := own_at h2 hg
      simp at hm; subst hm
      rw [hcur] at hK; cases hK)
    clear h1 h2 h3 hK hzs e1
    rw [hA]
    refine hKQ _ _ ?_
    go_wp2
    refine ⟨by simp, .inl ⟨_, _, rfl, run_takeDeferred HK1.out, ?_⟩⟩
    have HEND : ∀ e : Ending, e = .returned (.slice pa (snapL L).length pc) → ∃ v, e = .returned v ∧ (W.putObj DB (.deferred none)).ownsRow w.heap.size 5 1 v (snapL L).length ((snapL L).map encY) ∧ Below w.heap.size w (W.putObj DB (.deferred none)) := fun e he => ⟨_, he, HFIN.out⟩
    exact ⟨_, results_tmp rfl _ _ _, HEND _ (by first | rfl | simp)⟩
  case stop =>
    rintro D c' pre W hD hp h hK
    exact h.elim
end Go.Proofs.YtocmfdahnekboaaDoor

/- journal.Records, and the walk over records. -/
namespace Go.Proofs.YtocmfdahnekboaaDoor
open Go.RowKit Go.Shelf
set_option linter.unusedVariables false
attribute [local go_sem] Oper.semAt_some

theorem store_func2 {P : Program} {W : World} {X : Nat} {x : Value} (f A B : Nat) (hc : W.cell? ⟨X, 0, none⟩ = some x) (hf : W.frozen? ⟨X, 0, none⟩ = false) :
    (store ⟨X, 0, none⟩ (.func (.func f) #[] #[.pointer (some ⟨A, 0, none⟩), .pointer (some ⟨B, 0, none⟩)])).run P W = .ok () (W.setCell ⟨X, 0, none⟩ (.func (.func f) #[] #[.pointer (some ⟨A, 0, none⟩), .pointer (some ⟨B, 0, none⟩)])) := by
  rw [run_store _ _ _ _ _ rfl, hc, hf]; rfl
abbrev bodT : TypeId := 77
abbrev yield2T : TypeId := 79
/-- What Records hands back: the walk over bodies in a box. -/
structure RecAt (n : Nat) (W : World) (R X K Bs g : Nat) (va : Option Addr) (vc : Nat) (L : List Nat) : Prop where
  br : Boxed W R bodT (.func (.func 50) #[] #[.pointer (some ⟨X, 0, none⟩), .pointer (some ⟨K, 0, none⟩)])
  bd : BodAt n W X K Bs g va vc 4 L
  l1 : n ≤ R
theorem RecAt.below {n : Nat} {W W' : World} {R X K Bs g : Nat} {va : Option Addr} {vc : Nat} {L : List Nat} (h : RecAt n W R X K Bs g va vc L) (hb : Below W.heap.size W W') : RecAt n W' R X K Bs g va vc L :=
  ⟨(hb.block R h.br.lt).trans h.br, h.bd.below hb, h.l1⟩
theorem RecAt.le {n m : Nat} {W : World} {R X K Bs g : Nat} {va : Option Addr} {vc : Nat} {L : List Nat} (h : RecAt n W R X K Bs g va vc L) (hm : m ≤ n) : RecAt m W R X K Bs g va vc L := ⟨h.br, h.bd.le hm, Nat.le_trans hm h.l1⟩

set_option maxRecDepth 100000 in
set_option maxHeartbeats 4000000 in
theorem records_any {own : List Nat} {b jb : Nat} {D : DevS} {v0 v1 : Value} {r0 : Int} {a0 c0 f0 : Nat} (w : World) (hD : Dev own w b D v0 v1) (hJ : JrnAt w jb b r0 a0 c0 f0) :
    Calls Tryd.prog 15 #[.pointer (some ⟨jb, 0, none⟩)] w fun e w' => ∃ R X K Bs g va vc, e = .returned (.func (.func 35) #[] #[.pointer (some ⟨R, 0, none⟩)]) ∧ RecAt w.heap.size w' R X K Bs g va vc (D.row r0) ∧ Below w.heap.size w w' := by
  have HBD := Lib.hid (bodies_any 4 w hD hJ)
  obtain ⟨L, hL⟩ : ∃ L, D.row r0 = L := ⟨_, rfl⟩
  rw [hL] at HBD ⊢
  clear hD hJ hL
  go_enter Tryd.func15, Tryd.ntmps15
  go_wp2_with fail
  refine HBD.out.mono ?_
  rintro e w1 ⟨X, K, Bs, g, va, vc, rfl, hB, hb1⟩
  have hb2 : Below w1.heap.size w1 (w1.alloc (.cells #[.nilFunc] bodT)) := (Below.refl _ _).alloc (Nat.le_refl _) _
  have hR2 : Boxed (w1.alloc (.cells #[.nilFunc] bodT)) w1.heap.size bodT .nilFunc := Boxed.new w1 _ _
  have hst := store_func2 (P := Tryd.prog) 50 X K hR2.cell hR2.frozen
  have HFIN : Hid (RecAt w.heap.size (w1.alloc (.cells #[(.func (.func 50) #[] #[.pointer (some ⟨X, 0, none⟩), .pointer (some ⟨K, 0, none⟩)])] bodT)) w1.heap.size X K Bs g va vc L ∧ Below w.heap.size w (w1.alloc (.cells #[(.func (.func 50) #[] #[.pointer (some ⟨X, 0, none⟩), .pointer (some ⟨K, 0, none⟩)])] bodT))) := Lib.hid (by
    have hb3 : Below w1.heap.size w1 (w1.alloc (.cells #[(.func (.func 50) #[] #[.pointer (some ⟨X, 0, none⟩), .pointer (some ⟨K, 0, none⟩)])] bodT)) := (Below.refl _ _).alloc (Nat.le_refl _) _
    exact ⟨⟨Boxed.new w1 _ _, hB.below hb3, hb1.size⟩, hb1.trans (hb3.mono hb1.size)⟩)
  clear hB hb1 hb2 hR2 HBD
  go_wp2
  go_ret
  exact ⟨_, X, K, Bs, g, va, vc, rfl, HFIN.out⟩

/-- Records with their numbers. -/
abbrev NX := Nat × CX
def idxC (zs : List CX) : List NX := zs.zipIdx.map fun p => (p.2, p.1)
theorem idxC_snoc (zs : List CX) (x : CX) : idxC (zs ++ [x]) = idxC zs ++ [(zs.length, x)] := by
  unfold idxC
  rw [List.zipIdx_append, List.map_append]
  simp
theorem idxC_len (zs : List CX) : (idxC zs).length = zs.length := by unfold idxC; simp
/-- A record that is told: it is read, and lies from a block on. -/
def RyN2 (n0 : Nat) (x : NX) (W : World) : Prop := RyB n0 x.2 W
def RcI (J : List NX → World → Prop) (YB IB l : Nat) (pre : List CX) (W : World) : Prop :=
  J (idxC pre) W ∧ Boxed W YB yield2T (.func (.yield l) #[] #[]) ∧ Boxed W IB 3 (.int .i64 (pre.length : Nat))
def RcX (Jx : List NX → World → Prop) (cd : Code) (pre : List CX) (W : World) : Prop := cd = .ret ∧ Jx (idxC pre) W
theorem RcI.own {J : List NX → World → Prop} {YB IB l B0 B : Nat} (hJ : OwnFrom B0 J) (hB : B0 ≤ B) (hY : YB < B) (hI : IB < B) : OwnFrom B (RcI J YB IB l) := fun pre A C row ⟨h1, h2, h3⟩ hg hr =>
  ⟨OwnFrom.le hJ hB _ A C row h1 hg hr, keeps_block hg hr hY h2, keeps_block hg hr hI h3⟩
theorem RcX.own {Jx : List NX → World → Prop} {B0 B : Nat} (hJx : OwnFrom B0 Jx) (hB : B0 ≤ B) (cd : Code) : OwnFrom B (RcX Jx cd) := fun pre A C row ⟨h0, h⟩ hg hr => ⟨h0, OwnFrom.le hJx hB _ A C row h hg hr⟩

set_option maxRecDepth 100000 in
set_option maxHeartbeats 8000000 in
theorem records1 (R X K Bs g n0 : Nat) (va : Option Addr) (vc : Nat) (L : List Nat) (hL : Bytes L) (hL2 : L.length ≤ 1048576) (w : World) (hn0 : n0 ≤ w.heap.size) (hB : RecAt 0 w R X K Bs g va vc L) :
    SeqP Fence.wide 4 Tryd.prog 35 #[.pointer (some ⟨R, 0, none⟩)] (fun x : NX => #[.int .i64 (x.1 : Nat), x.2.2]) n0 5 [R, K, X, Bs, g] (fun ys => ∃ zs : List CX, ys = idxC zs ∧ zs.map Prod.fst = bodF 4 (scanL L 0)) (fun pre => ∃ zs : List CX, pre = idxC zs ∧ zs.map Prod.fst <+: bodF 4 (scanL L 0)) (RyN2 (w.heap.size + 7)) w := fun l J Jx W hW hwW hJ hJx hJb hJxb hJp hJxp hY h0 => by
  have hBW := hB.below hW
  have HBW := Lib.hid hBW
  have HY := Lib.hid hY
  have HJ := Lib.hid hJ
  have HJX := Lib.hid hJx
  have HJB := Lib.hid hJb
  have HJXB := Lib.hid hJxb
  have HJP := Lib.hid hJp
  have HJXP := Lib.hid hJxp
  have hn0W : n0 ≤ W.heap.size := Nat.le_trans hn0 hW.size
  have HL := Lib.hid hL
  have cR := hBW.br.cell
  have hRl := hBW.br.lt
  have hXl := hBW.bd.bx.lt
  have hKl := hBW.bd.bk.lt
  have hsl := hBW.bd.sc.hs
  have hgl := hBW.bd.sc.hg
  have HCN : Hid (∀ pre : List CX, pre.map Prod.fst <+: bodF 4 (scanL L 0) → pre.length ≤ 1048576) := Lib.hid (fun pre hp => by
    have h1 := hp.length_le
    have h2 := bods_count 4 L hL.2
    rw [List.length_map] at h1
    omega)
  have H0 := Lib.hid h0
  clear hB hBW hW hY hJ hJx hJb hJxb hJp hJxp hL h0
  refine callsIn_of_wp_marks Tryd.func35 rfl trivial ?_ rfl
  simp only [Tryd.ntmps35, List.size_toArray, List.length_cons, List.length_nil, Nat.reduceAdd, Nat.reduceSub, Array.replicate_succ, Array.replicate_zero, List.push_toArray, List.append_toArray, List.nil_append, List.cons_append]
  refine wpIn_wide.2 ?_
  go_wp2_with fail
  have hb1 : Below W.heap.size W ((W.alloc (.cells #[.func (.yield l) #[] #[]] yield2T)).alloc (.cells #[.int .i64 0] 3)) := ((Below.refl _ _).alloc (Nat.le_refl _) _).alloc (by simp) _
  have hY1 : Boxed ((W.alloc (.cells #[.func (.yield l) #[] #[]] yield2T)).alloc (.cells #[.int .i64 0] 3)) W.heap.size yield2T (.func (.yield l) #[] #[]) := (Boxed.new W _ _).alloc _
  have hI1 : Boxed ((W.alloc (.cells #[.func (.yield l) #[] #[]] yield2T)).alloc (.cells #[.int .i64 0] 3)) (W.heap.size + 1) 3 (.int .i64 0) := by
    have := Boxed.new (W.alloc (.cells #[.func (.yield l) #[] #[]] yield2T)) 3 (.int .i64 0)
    rw [World.size_alloc] at this; exact this
  have hj1 : J [] ((W.alloc (.cells #[.func (.yield l) #[] #[]] yield2T)).alloc (.cells #[.int .i64 0] 3)) := HJ.out.alloc _ (HJ.out.alloc _ H0.out)
  have hz1 : ((W.alloc (.cells #[.func (.yield l) #[] #[]] yield2T)).alloc (.cells #[.int .i64 0] 3)).heap.size = W.heap.size + 2 := by simp
  obtain ⟨w1, hw1⟩ : ∃ w1, (W.alloc (.cells #[.func (.yield l) #[] #[]] yield2T)).alloc (.cells #[.int .i64 0] 3) = w1 := ⟨_, rfl⟩
  rw [hw1] at hb1 hY1 hI1 hj1 hz1 ⊢
  have hB1 := HBW.out.below hb1
  have hI0 : RcI J W.heap.size (W.heap.size + 1) l [] w1 := ⟨hj1, hY1, hI1⟩
  clear hw1 hj1 hY1 hI1 H0
  refine (wpIn_wide (n := 4)).1 ?_
  refine wpIn_act ?_
  intro A hA
  refine rangeP rfl (by omega) (gf := 50) (lb := #[.pointer (some ⟨X, 0, none⟩), .pointer (some ⟨K, 0, none⟩)]) (by rw [hA]; rfl) trivial (enters_of Tryd.func50 (by kernel_rfl) rfl)
    (bodies1 X K Bs g n0 4 va vc L HL.out w1 (by omega) hB1.bd)
    (fun x W l o r hl' h => RyB.putO hl' h) (fun r h => by simp at h; omega) (by omega) (Below.refl _ _) (fun _ => rfl)
    (RcI J W.heap.size (W.heap.size + 1) l) (RcX Jx) (RcI.own HJ.out (by omega) (by omega) (by omega)) (fun cd => RcX.own HJX.out (by omega) cd)
    (fun s Wx r v hr ⟨h1, h2, h3⟩ => ⟨HJB.out _ Wx r v (List.mem_cons_of_mem _ hr) h1, h2.other (by simp at hr; omega) v, h3.other (by simp at hr; omega) v⟩)
    (fun cd s Wx r v hr ⟨h0, h⟩ => ⟨h0, HJXB.out _ Wx r v (List.mem_cons_of_mem _ hr) h⟩)
    (fun s Wx r v hr1 hr2 ⟨h1, h2, h3⟩ => ⟨HJP.out _ Wx r v (by omega) (by omega) h1, h2.other (by omega) v, h3.other (by omega) v⟩)
    (fun cd s Wx r v hr1 hr2 ⟨h0, h⟩ => ⟨h0, HJXP.out _ Wx r v (by omega) (by omega) h⟩)
    hI0 (fun x => { tmps := (A.tmps.setIfInBounds 6 x.2).setIfInBounds 4 x.2, defers := [] }) ?assign ?body ?done ?stop
  case assign =>
    rintro l2 x Wa KK hK
    rw [hA] at hK ⊢
    gi_wp2
    exact hK
  case body =>
    rintro l2 pre ⟨ck, xv⟩ Wb ⟨hj, hyb, hib⟩ hp hz5 ⟨hxS, hxn⟩
    have hcn := HCN.out _ hp
    rw [List.length_append] at hcn
    have hya := HY.out (idxC pre) (pre.length, ck, xv) Wb hj ⟨pre ++ [(ck, xv)], (idxC_snoc pre (ck, xv)).symm, hp⟩ (by omega) ⟨hxS, hxn.le (by omega)⟩
    have hyb2 := YieldAt.mono (yieldAny' rfl 1 l2 hya) (R' := fun e W' => ∃ bb : Bool, e = .returned (.bool bb) ∧ KeepsFrom W.heap.size Wb W' ∧ (bb = true → J (idxC (pre ++ [(ck, xv)])) W' ∧ Below n0 Wb W' ∧ (∀ k, W.heap.size ≤ k → k < W.heap.size + 5 → W'.heap[k]? = Wb.heap[k]?) ∧ ∀ k, k ∈ [R, K, X, Bs, g] → W'.heap[k]? = Wb.heap[k]?) ∧ (bb = false → Jx (idxC (pre ++ [(ck, xv)])) W')) (by
      rw [idxC_snoc]
      rintro e W' ⟨h1, ⟨rfl, h2, h3, h4, h5⟩ | ⟨rfl, h2⟩⟩
      · exact ⟨true, rfl, h1, (fun _ => ⟨h2, h3, h4, h5⟩), (fun h => by cases h)⟩
      · exact ⟨false, rfl, h1, (fun h => by cases h), (fun _ => h2)⟩)
    obtain ⟨fn, tmps, assign, body, hy, hR⟩ := hyb2
    have HR := Lib.hid hR
    dsimp only at hy
    have cy := hyb.cell
    have ci := hib.cell
    have HYB := Lib.hid hyb
    have HIB := Lib.hid hib
    obtain ⟨i, hi⟩ : ∃ i, pre.length = i := ⟨_, rfl⟩
    have HI := Lib.hid hi
    have hil : i ≤ 1048576 := by omega
    rw [hi] at hy ci HIB
    clear hj hxS hxn hya hR hyb hib hp hi hI0 hcn
    rw [hA]
    gi_wp2_with fail
    refine HR.out.mono ?_
    rintro e W3 ⟨bb, rfl, hq1, hq2, hq3⟩
    cases bb with
    | true =>
      obtain ⟨hj3, hb3, hp3, hk3⟩ := hq2 rfl
      have hy3 : Boxed W3 W.heap.size yield2T (.func (.yield l) #[] #[]) := (hp3 _ (Nat.le_refl _) (by omega)).trans HYB.out
      have hi3 : Boxed W3 (W.heap.size + 1) 3 (.int .i64 (i : Nat)) := (hp3 _ (by omega) (by omega)).trans HIB.out
      have ci3 := hi3.cell
      have fi3 := hi3.frozen
      have hkf : KeepsFrom w1.heap.size Wb (W3.setCell ⟨W.heap.size + 1, 0, none⟩ (.int .i64 ((i : Int) + 1))) := (KeepsFrom.raise hq1 (by omega)).trans ⟨by simp, fun k o hk h1 h2 => (Below.heap_setCell W3 ⟨W.heap.size + 1, 0, none⟩ _ k (by show k ≠ W.heap.size + 1; omega)).trans h1⟩
      have hkp : KpO n0 1 [K, X, Bs, g] w1 Wb (W3.setCell ⟨W.heap.size + 1, 0, none⟩ (.int .i64 ((i : Int) + 1))) :=
        ⟨hb3.setCell (p := ⟨W.heap.size + 1, 0, none⟩) (by show n0 ≤ W.heap.size + 1; omega) _, fun k h1 h2 => (setCell_heap (by omega)).trans (hp3 k (by omega) (by omega)), fun k hk => (setCell_heap (by simp at hk; omega)).trans (hk3 k (List.mem_cons_of_mem _ hk))⟩
      have hbd : RcI J W.heap.size (W.heap.size + 1) l (pre ++ [((ck, xv) : CX)]) (W3.setCell ⟨W.heap.size + 1, 0, none⟩ (.int .i64 ((i : Int) + 1))) :=
        ⟨HJP.out _ W3 (W.heap.size + 1) _ (by omega) (by omega) hj3, hy3.other (by omega) _, by
          have := hi3.set (.int .i64 ((i : Int) + 1))
          rw [List.length_append, List.length_singleton, HI.out]
          exact this⟩
      have HFIN := Lib.hid (And.intro hkf (And.intro hkp hbd))
      clear hj3 hb3 hp3 hk3 hq1 hq2 hq3 hy3 hi3 hkf hkp hbd
      gi_wp2
      exact HFIN.out
    | false =>
      have HFIN : Hid (KeepsFrom w1.heap.size Wb W3 ∧ RcX Jx .ret (pre ++ [((ck, xv) : CX)]) W3) := Lib.hid ⟨KeepsFrom.raise hq1 (by omega), rfl, hq3 rfl⟩
      clear hq1 hq2 hq3
      gi_wp2
      exact HFIN.out
  case done =>
    rintro D zs W' hD hzs ⟨hj, _, _⟩ hK
    have HJ1 := Lib.hid hj
    have HK1 := Lib.hid hK
    have HZ := Lib.hid hzs
    clear hj hzs hI0 hK
    rw [hA]
    go_wp2
    refine ⟨by simp, .inl ⟨_, _, rfl, run_takeDeferred HK1.out, ?_⟩⟩
    refine ⟨_, results_none rfl _ _ _, ⟨_, rfl⟩, .inl ⟨_, ⟨zs, rfl, HZ.out⟩, ?_⟩⟩
    exact HJ.out.putObj _ HJ1.out (by omega) HK1.out rfl
  case stop =>
    rintro D c' pre W' hD hp ⟨rfl, h⟩ hK
    have HJ1 := Lib.hid h
    have HK1 := Lib.hid hK
    have HZ := Lib.hid hp
    clear h hp hI0 hK
    rw [hA]
    gi_wp2
    refine ⟨by simp, .inl ⟨_, _, rfl, run_takeDeferred HK1.out, ?_⟩⟩
    refine ⟨_, results_none rfl _ _ _, ⟨_, rfl⟩, .inr ⟨_, ⟨pre, rfl, HZ.out⟩, ?_⟩⟩
    exact HJX.out.putObj _ HJ1.out (by omega) HK1.out rfl
end Go.Proofs.YtocmfdahnekboaaDoor

/- saleroomlaw07.has. -/
namespace Go.Proofs.YtocmfdahnekboaaDoor
open Go.RowKit Go.Shelf
set_option linter.unusedVariables false
attribute [local go_sem] Oper.semAt_some

abbrev yssT : TypeId := 22
/-- A document's journal that tells a snapshot and records alone. -/
abbrev hasV (sv rv : Value) : Value := .agg #[.slice none 0 0, .slice none 0 0, .int .i64 0, .int .i64 0, .int .u64 0, sv, rv, .int .i64 0]
abbrev hasC (sv rv : Value) : Array Value := #[.slice none 0 0, .slice none 0 0, .int .i64 0, .int .i64 0, .int .u64 0, sv, rv, .int .i64 0]
/-- Records in a slice of the call's own, each in a block of bytes from n on. -/
def Recs (n : Nat) (W : World) (rv : Value) (rs : List (List Nat)) : Prop :=
  ∃ ys : List CX, ys.map Prod.fst = rs ∧ W.ownsRow n yssT 1 rv ys.length (ys.map Prod.snd) ∧ ∀ y ∈ ys, Sl encY W.heap.size W y.2 y.1 ∧ NewAt n W y.2
/-- A snapshot, and records. -/
def HasAt (n : Nat) (W : World) (sv rv : Value) (S : List Nat) (rs : List (List Nat)) : Prop := W.ownsRow n 5 1 sv S.length (S.map encY) ∧ Recs n W rv rs
/-- The records that stand in a region. -/
def recsL (L : List Nat) : List (List Nat) := bodF 4 (scanL L 0)
theorem infoB : (Tryd.prog.info? 22).map (fun i => (i.zero, i.size, i.bytes)) = some (some (.slice none 0 0), 1, 24) := by kernel_rfl
theorem idxC_snd (zs : List CX) : (idxC zs).map Prod.snd = zs := by unfold idxC; rw [List.map_map]; simp [Function.comp_def]
theorem idxC_fst (zs : List CX) : (idxC zs).map Prod.fst = List.range zs.length := by
  unfold idxC
  rw [List.map_map, List.range_eq_range']
  simp [Function.comp_def]
theorem idxC_last {pre : List NX} {x : NX} {zs : List CX} (h : pre ++ [x] = idxC zs) : x.1 = pre.length := by
  have h1 := congrArg (fun l => l.map Prod.fst) h
  have h2 := congrArg List.length h
  rw [idxC_len, List.length_append, List.length_singleton] at h2
  simp only [idxC_fst] at h1
  rw [← h2, List.range_succ, List.map_append] at h1
  have h3 := List.append_inj' h1 rfl
  simpa using h3.2
theorem RyB.keep {n : Nat} {x : CX} {W W' : World} (h : RyB n x W) (hz : W.heap.size ≤ W'.heap.size) (hk : ∀ (k : Nat) (cs : Array Value) (fr : Nat × Nat), n ≤ k → W.heap[k]? = some (Obj.cells cs 5 fr) → W'.heap[k]? = some (Obj.cells cs 5 fr)) : RyB n x W' := by
  obtain ⟨h1, h2⟩ := h
  refine ⟨?_, fun ad m c e => ?_⟩
  · rcases h1 with h1 | ⟨b, off, cap, e, hb, hcap, hc⟩
    · exact .inl h1
    · obtain ⟨hn, cs, fr, hcs⟩ := h2 _ _ _ e
      have hcs' := hk _ _ _ hn hcs
      exact .inr ⟨b, off, cap, e, Nat.lt_of_lt_of_le hb hz, hcap, fun j y hj => (World.cell?_of_block (a := ⟨b, off + j, none⟩) (hcs'.trans hcs.symm)).trans (hc j y hj)⟩
  · obtain ⟨hn, cs, fr, hcs⟩ := h2 ad m c e
    exact ⟨hn, cs, fr, hk _ _ _ hn hcs⟩
theorem RyB.soft {n : Nat} {x : CX} {W W' : World} {row : Option Nat} (h : RyB n x W) (hg : W.grownBy W' row) (hr : ∀ r, row = some r → ∃ o : Obj, W.heap[r]? = some o ∧ o.isCells = false) : RyB n x W' :=
  h.keep hg.size (fun k cs fr _ hk => (hg.block k (Array.getElem?_eq_some_iff.1 hk).1 (fun e => by
    obtain ⟨o, ho, hc⟩ := hr k e.symm
    rw [hk] at ho; cases ho; cases hc)).trans hk)
theorem RyB.low {n r : Nat} {x : CX} {W : World} (h : RyB n x W) (hr : r < n) (v : Value) : RyB n x (W.setCell ⟨r, 0, none⟩ v) :=
  h.keep (by simp) (fun k cs fr hn hk => (Below.heap_setCell W ⟨r, 0, none⟩ v k (by show k ≠ r; omega)).trans hk)
theorem RyB.but {n : Nat} {own : List Nat} {x : CX} {W W' : World} (h : RyB n x W) (hb : But own W W') (ho : ∀ k ∈ own, ∀ (cs : Array Value) (fr : Nat × Nat), W.heap[k]? ≠ some (Obj.cells cs 5 fr)) : RyB n x W' :=
  h.keep hb.size (fun k cs fr _ hk => (hb.block k (Array.getElem?_eq_some_iff.1 hk).1 (fun hm => ho k hm cs fr hk)).trans hk)
theorem new_cell1 (w : World) (x : Value) (t : TypeId) : ∀ j u, [x][j]? = some u → (w.alloc (.cells #[x] t)).cell? ((⟨w.heap.size, 0, none⟩ : Addr).add j) = some u := by
  intro j u hj
  match j, hj with
  | 0, hj =>
    simp at hj; subst hj
    exact cell_new_row w #[x] t 0
  | j + 1, hj => simp at hj
set_option maxHeartbeats 4000000 in
theorem heap_set8 {W : World} {b : Nat} {t : TypeId} {x0 x1 x2 x3 x4 x5 x6 x7 v0 v1 v2 v3 v4 v5 v6 v7 : Value} (h : W.heap[b]? = some (.cells #[x0, x1, x2, x3, x4, x5, x6, x7] t (0, 0))) :
    ((((((((W.setCell ⟨b, 0, none⟩ v0).setCell ⟨b, 1, none⟩ v1).setCell ⟨b, 2, none⟩ v2).setCell ⟨b, 3, none⟩ v3).setCell ⟨b, 4, none⟩ v4).setCell ⟨b, 5, none⟩ v5).setCell ⟨b, 6, none⟩ v6).setCell ⟨b, 7, none⟩ v7).heap[b]? = some (.cells #[v0, v1, v2, v3, v4, v5, v6, v7] t (0, 0)) :=
  heap_setCell_same _ b 7 _ t v7 (heap_setCell_same _ b 6 _ t v6 (heap_setCell_same _ b 5 _ t v5 (heap_setCell_same _ b 4 _ t v4 (heap_setCell_same _ b 3 _ t v3 (heap_setCell_same _ b 2 _ t v2 (heap_setCell_same _ b 1 _ t v1 (heap_setCell_same W b 0 _ t v0 h)))))))
theorem set8_but (W : World) (b : Nat) {v0 v1 v2 v3 v4 v5 v6 v7 : Value} : But [b] W ((((((((W.setCell ⟨b, 0, none⟩ v0).setCell ⟨b, 1, none⟩ v1).setCell ⟨b, 2, none⟩ v2).setCell ⟨b, 3, none⟩ v3).setCell ⟨b, 4, none⟩ v4).setCell ⟨b, 5, none⟩ v5).setCell ⟨b, 6, none⟩ v6).setCell ⟨b, 7, none⟩ v7) :=
  ((((((((But.refl _ _).set (by simp) _).set (by simp) _).set (by simp) _).set (by simp) _).set (by simp) _).set (by simp) _).set (by simp) _).set (by simp) _
end Go.Proofs.YtocmfdahnekboaaDoor
namespace Go.Proofs.YtocmfdahnekboaaDoor
open Go.RowKit Go.Shelf
set_option linter.unusedVariables false
attribute [local go_sem] Oper.semAt_some
/-- A document's journal. -/
abbrev rjV (x0 : Option Addr) (n0 k0 : Nat) (x1 : Option Addr) (n1 k1 : Nat) (i2 i3 i4 : Int) (sv rv : Value) (i7 : Int) : Value := .agg #[.slice x0 n0 k0, .slice x1 n1 k1, .int .i64 i2, .int .i64 i3, .int .u64 i4, sv, rv, .int .i64 i7]
abbrev rjC (x0 : Option Addr) (n0 k0 : Nat) (x1 : Option Addr) (n1 k1 : Nat) (i2 i3 i4 : Int) (sv rv : Value) (i7 : Int) : Array Value := #[.slice x0 n0 k0, .slice x1 n1 k1, .int .i64 i2, .int .i64 i3, .int .u64 i4, sv, rv, .int .i64 i7]
theorem Parts.form {n : Nat} {W : World} {sv : Value} {ls : List (List Nat)} (h : Parts n W sv ls) : ∃ a c, sv = .slice a ls.length c := by
  rcases h with ⟨rfl, a, c, e⟩ | ⟨b, off, cap, e, _⟩
  · exact ⟨a, c, e⟩
  · exact ⟨_, _, e⟩
theorem parts_drew {n : Nat} {W : World} {sv : Value} {ls : List (List Nat)} (h : Parts n W sv ls) (q : Nat) : Parts n (W.drewN q) sv ls := h
theorem sl_drew {n : Nat} {W : World} {sv : Value} {l : List Nat} (h : Sl encY n W sv l) (q : Nat) : Sl encY n (W.drewN q) sv l := h
theorem drewN_add (w : World) (a b : Nat) : (w.drewN a).drewN b = w.drewN (a + b) := by simp [World.drewN, Nat.add_assoc]
theorem drewN_1 (w : World) (a : Nat) : (w.drewN a).drew = w.drewN (a + 1) := by simp [World.drewN, World.drew, Nat.add_assoc]

end Go.Proofs.YtocmfdahnekboaaDoor