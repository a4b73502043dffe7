/- Rows of entries in memory, and the document's Same. Written by tools/gen_prir.py. -/
import Derived.Test.YtpcbdjdmhemjdaaPriO
import Derived.Test.YtpcbdjdmhemjdaaHpX
import Derived.Laws.OwnMore
import Derived.Great.BuildSlice
import Derived.Maps.OwnIn
import Derived.Deep.AppendLies
import Derived.Deep.RegionLaw
import Derived.Laws.ResultCell
import Derived.Lib.SliceRun
namespace Go.Proofs.Ytpcbdjdmhemjdaa
open Go.RowKit
set_option linter.unusedVariables false
attribute [local go_sem] Oper.semAt_some

def valE (x : Ent) : Value := .agg #[.int .u64 (x.1 : Nat), .int .i64 x.2]
/-- A slice's things. -/
def EnsP (n : Nat) (W : World) (sv : Value) (xs : List Ent) : Prop :=
  (xs = [] ∧ ∃ a c, sv = .slice a 0 c) ∨ ∃ b off cap, sv = .slice (some ⟨b, off, none⟩) xs.length cap ∧ b < n ∧ xs.length ≤ cap ∧ ∀ j x, xs[j]? = some x → W.cell? ⟨b, off + j * 2, none⟩ = some (.int .u64 (x.1 : Nat)) ∧ W.cell? ⟨b, off + j * 2 + 1, none⟩ = some (.int .i64 x.2)
section
variable {n : Nat} {W : World} {a : Option Addr} {m c k : Nat} {xs : List Ent}
theorem EnsP.len (h : EnsP n W (.slice a m c) xs) : m = xs.length := by
  rcases h with ⟨rfl, _, _, e⟩ | ⟨b, off, cap, e, _⟩
  · cases e; rfl
  · cases e; rfl
theorem EnsP.at_ (h : EnsP n W (.slice a m c) xs) {x : Ent} (hx : xs[k]? = some x) :
    ∃ b off, a = some ⟨b, off, none⟩ ∧ b < n ∧ W.cell? ⟨b, off + k * 2, none⟩ = some (.int .u64 (x.1 : Nat)) ∧ W.cell? ⟨b, off + k * 2 + 1, none⟩ = some (.int .i64 x.2) := by
  rcases h with ⟨rfl, _⟩ | ⟨b, off, cap, e, hb, _, hc⟩
  · simp at hx
  · cases e
    obtain ⟨h1, h2⟩ := hc k x hx
    exact ⟨b, off, rfl, hb, h1, h2⟩
/-- What stands in a slice does not lie in these blocks. -/
def OffE (own : List Nat) (sv : Value) : Prop := ∀ ad n c, sv = .slice (some ad) n c → 0 < n → ad.block ∉ own
theorem EnsP.but {own : List Nat} {W' : World} {sv : Value} (h : EnsP n W sv xs) (hb : But own W W') (ho : OffE own sv) (hn : n ≤ W.heap.size) : EnsP n W' sv xs := by
  rcases h with h | ⟨b, off, cap, e, hlt, hcap, hc⟩
  · exact .inl h
  · rcases Nat.eq_zero_or_pos xs.length with h0 | h0
    · obtain rfl := List.eq_nil_of_length_eq_zero h0
      exact .inl ⟨rfl, _, _, by rw [e]; rfl⟩
    · have hk := hb.block b (by omega) (ho _ _ _ e h0)
      exact .inr ⟨b, off, cap, e, hlt, hcap, fun j x hj => ⟨(World.cell?_of_block (a := ⟨b, off + j * 2, none⟩) hk).trans (hc j x hj).1, (World.cell?_of_block (a := ⟨b, off + j * 2 + 1, none⟩) hk).trans (hc j x hj).2⟩⟩
theorem EnsP.below {N : Nat} {W' : World} {sv : Value} (h : EnsP n W sv xs) (hb : Below N W W') (hn : n ≤ N) : EnsP n W' sv xs := by
  rcases h with h | ⟨b, off, cap, e, hlt, hcap, hc⟩
  · exact .inl h
  · exact .inr ⟨b, off, cap, e, hlt, hcap, fun j x hj => ⟨(hb.cell (p := ⟨b, off + j * 2, none⟩) (by simp; omega)).trans (hc j x hj).1, (hb.cell (p := ⟨b, off + j * 2 + 1, none⟩) (by simp; omega)).trans (hc j x hj).2⟩⟩
theorem EnsP.mono {n' : Nat} {sv : Value} (h : EnsP n W sv xs) (hn : n ≤ n') : EnsP n' W sv xs := by
  rcases h with h | ⟨b, off, cap, e, hlt, hcap, hc⟩
  · exact .inl h
  · exact .inr ⟨b, off, cap, e, by omega, hcap, hc⟩
end

def thingsE (x : Ent) : List Value := [.int .u64 (x.1 : Nat), .int .i64 x.2]
def flatVE (l : List Ent) : List Value := l.flatMap thingsE
theorem flatVE_app (l : List Ent) (x : Ent) : flatVE (l ++ [x]) = flatVE l ++ [.int .u64 (x.1 : Nat), .int .i64 x.2] := by unfold flatVE; rw [List.flatMap_append]; rfl
theorem flatVE_len : ∀ l : List Ent, (flatVE l).length = l.length * 2
  | [] => rfl
  | x :: l => by
    have := flatVE_len l
    unfold flatVE at this ⊢
    rw [List.flatMap_cons, List.length_append, this]
    simp [thingsE]; omega
theorem flatVE_get : ∀ (l : List Ent) (i : Nat) (x : Ent), l[i]? = some x → (flatVE l)[i * 2]? = some (.int .u64 (x.1 : Nat)) ∧ (flatVE l)[i * 2 + 1]? = some (.int .i64 x.2)
  | [], i, x, h => by simp at h
  | y :: l, 0, x, h => by
    simp at h; subst h
    simp [flatVE, thingsE]
  | y :: l, i + 1, x, h => by
    have := flatVE_get l i x (by simpa using h)
    have e : flatVE (y :: l) = thingsE y ++ flatVE l := by unfold flatVE; rw [List.flatMap_cons]
    have hl : (thingsE y).length = 2 := rfl
    rw [e]
    refine ⟨?_, ?_⟩
    · rw [List.getElem?_append_right (by omega), show (i + 1) * 2 - (thingsE y).length = i * 2 from by rw [hl]; omega]; exact this.1
    · rw [List.getElem?_append_right (by omega), show (i + 1) * 2 + 1 - (thingsE y).length = i * 2 + 1 from by rw [hl]; omega]; exact this.2
/-- What is owned can be read. -/
theorem EnsP.of_owns {W : World} {base : Nat} {v : Value} {xs : List Ent} (h : W.ownsRow base 41 2 v xs.length (flatVE xs)) : EnsP W.heap.size W v xs := by
  rcases h.2 with ⟨rfl, h0⟩ | ⟨g, cap, cur, e, _, hg, hn, _, _, _⟩
  · exact .inl ⟨List.eq_nil_of_length_eq_zero h0, none, 0, rfl⟩
  · subst e
    refine .inr ⟨g, 0, cap, rfl, (Array.getElem?_eq_some_iff.1 hg).1, hn, fun j x hj => ?_⟩
    have hlt : j < xs.length := (List.getElem?_eq_some_iff.1 hj).1
    obtain ⟨f1, f2⟩ := flatVE_get xs j x hj
    rw [Nat.zero_add]
    exact ⟨by rw [h.cellAt _ (by omega)]; exact f1, by rw [h.cellAt _ (by omega)]; exact f2⟩
theorem infoTE : (Try.prog.info? 41).map (fun i => (i.zero, i.size, i.bytes)) = some (some (.agg #[.int .u64 0, .int .i64 0]), 2, 16) := by kernel_rfl

theorem own_empty (w : World) (e : TypeId) (size base : Nat) (hb : base ≤ w.heap.size) : (w.alloc (.cells #[] e)).ownsRow base e size (.slice (some ⟨w.heap.size, 0, none⟩) 0 0) 0 [] :=
  ⟨by simp, .inr ⟨w.heap.size, 0, #[], rfl, hb, World.alloc_heap_new w _, Nat.le_refl _, Nat.zero_le _, by simp, by simp⟩⟩
theorem own_form {w : World} {base e size n : Nat} {v : Value} {xs : List Value} (h : w.ownsRow base e size v n xs) : ∃ a c, v = .slice a n c := by
  rcases h.2 with ⟨rfl, e⟩ | ⟨g, cap, cur, e, _⟩
  · exact ⟨none, 0, by rw [e]⟩
  · exact ⟨_, _, e⟩

theorem own_formc {w : World} {base e size n : Nat} {v : Value} {xs : List Value} (h : w.ownsRow base e size v n xs) : ∃ a c, v = .slice a n c ∧ n ≤ c := by
  rcases h.2 with ⟨rfl, e⟩ | ⟨g, cap, cur, e, _, _, hn, _⟩
  · exact ⟨none, 0, by rw [e], by omega⟩
  · exact ⟨_, _, e, hn⟩
theorem EnsP.take {n : Nat} {W : World} {a : Option Addr} {m c k : Nat} {xs : List Ent} (h : EnsP n W (.slice a m c) xs) (hk : k ≤ m) : EnsP n W (.slice a k c) (xs.take k) := by
  rcases h with ⟨rfl, a', c', e⟩ | ⟨b, off, cap, e, hb, hcap, hc⟩
  · cases e
    obtain rfl : k = 0 := by omega
    exact .inl ⟨by simp, _, _, rfl⟩
  · cases e
    have hl : (xs.take k).length = k := by simp; omega
    refine .inr ⟨b, off, c, by rw [hl], hb, by rw [hl]; omega, fun j x hj => ?_⟩
    rw [List.getElem?_take] at hj
    split at hj
    · exact hc j x hj
    · cases hj
/-- A row that the call itself made, at B or behind it. -/
structure RowE (w : World) (v : Value) (out : List Ent) (W : World) : Prop where
  row : W.ownsRow w.heap.size 41 2 v out.length (flatVE out)
  bel : Below w.heap.size w W
theorem RowE.start (w : World) : RowE w (.slice (some ⟨w.heap.size, 0, none⟩) 0 0) [] (w.alloc (.cells #[] 41)) :=
  ⟨own_empty w _ _ _ (Nat.le_refl _), (Below.refl _ _).alloc (Nat.le_refl _) _⟩
theorem RowE.drewN {w : World} {v : Value} {out : List Ent} {W : World} (h : RowE w v out W) (q : Nat) : RowE w v out (W.drewN q) := ⟨h.row, ⟨h.bel.os, h.bel.tape, h.bel.output, h.bel.size, h.bel.block⟩⟩
theorem RowE.app {w : World} {v : Value} {out : List Ent} {W : World} (h : RowE w v out W) (x : Nat) (y : Int) (o : Obj) {v' : Value} {w1 : World} (hown : w1.ownsRow w.heap.size 41 2 v' (out.length + 1) (flatVE out ++ [.int .u64 (x : Nat), .int .i64 y])) (hg : (W.alloc o).grownBy w1 v.ownBlock) : RowE w v' (out ++ [(x, y)]) w1 := by
  have hlt := World.ownsRow.lt h.row
  exact ⟨by rw [List.length_append, flatVE_app]; exact hown, (h.bel.alloc (by have := h.bel.size; omega) _).grown hg (by have := h.bel.size; simp; omega) (fun j hj => by have := (hlt j hj).1; omega)⟩

set_option maxRecDepth 100000 in
set_option maxHeartbeats 4000000 in
theorem refSame_any (a a' : Option Addr) (n n' c c' : Nat) (l : List Ent) (hl : l.length ≤ 1073741824) (w : World) (hs : EnsP w.heap.size w (.slice a n c) l) (hs' : EnsP w.heap.size w (.slice a' n' c') l) :
    Calls Try.prog 10 #[.slice a n c, .slice a' n' c'] w fun e w' => e = .returned (.bool true) ∧ Below w.heap.size w w' := by
  obtain rfl := hs.len
  obtain rfl := hs'.len
  have HS := Lib.hid hs
  have HS' := Lib.hid hs'
  obtain ⟨n, hn⟩ : ∃ n, l.length = n := ⟨_, rfl⟩
  have HN := Lib.hid hn
  rw [hn] at hl ⊢
  clear hs hs' hn
  go_enter Try.func10, Try.ntmps10
  go_wp2
  go_loopw [5] (fun i wr => ∃ m : Nat, i = .int .i64 m ∧ m ≤ n ∧ Below w.heap.size w wr) (fun i _ => n - (intOf i).toNat)
  case atStart => exact ⟨0, rfl, Nat.zero_le _, Below.refl _ _⟩
  case round =>
    obtain ⟨m, rfl, hm, hB⟩ := hrel
    have HB := Lib.hid hB
    by_cases hlt : m < n
    · obtain ⟨⟨y, z⟩, hy⟩ : ∃ y, l[m]? = some y := ⟨_, List.getElem?_eq_getElem (by rw [HN.out]; exact hlt)⟩
      obtain ⟨g, off, rfl, hg, f0, f1⟩ := HS.out.at_ hy
      obtain ⟨g', off', rfl, hg', f0', f1'⟩ := HS'.out.at_ hy
      have d0 := (hB.cell (p := ⟨g, off + m * 2, none⟩) hg).trans f0
      have d1 := (hB.cell (p := ⟨g, off + m * 2 + 1, none⟩) hg).trans f1
      have d2 := (hB.cell (p := ⟨g', off' + m * 2, none⟩) hg').trans f0'
      have d3 := (hB.cell (p := ⟨g', off' + m * 2 + 1, none⟩) hg').trans f1'
      simp only at d0 d1 d2 d3
      have b1 : (0 : Int) ≤ m := by omega
      have b2 : (m : Int) < n := by omega
      clear hB hy f0 f1 f0' f1'
      go_upto_region 6 with fail
      go_quiet (fail)
      have HB2 : Hid (Below w.heap.size w (wr.drewN nq)) := Lib.hid ⟨HB.out.os, HB.out.tape, HB.out.output, HB.out.size, HB.out.block⟩
      obtain ⟨wq, hq⟩ : ∃ wq, wr.drewN nq = wq := ⟨_, rfl⟩
      rw [hq] at HB2 ⊢
      clear hq d0 d1 d2 d3
      go_wp2
      go_roundw
      case rel => exact ⟨m + 1, by go_num, by omega, HB2.out⟩
      case measure => simp [intOf]; omega
    · obtain rfl : m = n := by omega
      clear hB
      go_wp2
      go_ret
      exact ⟨rfl, HB.out⟩

end Go.Proofs.Ytpcbdjdmhemjdaa
