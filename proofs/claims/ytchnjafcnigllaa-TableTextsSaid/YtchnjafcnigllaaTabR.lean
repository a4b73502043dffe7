/- Rows of pairs in memory, and the document's own answers over them: Get, Put, Drop, Below, Back, From, Same. -/
import Derived.Test.YtchnjafcnigllaaTabF
import Derived.Test.YtchnjafcnigllaaHpX
import Derived.Laws.OwnMore
import Derived.Great.BuildSlice
import Derived.Maps.OwnIn
import Derived.Deep.AppendLies
import Derived.Deep.RegionLaw
import Derived.Laws.ResultCell
import Derived.Lib.SliceRun
namespace Go.Proofs.Ytchnjafcnigllaa
open Go.RowKit
set_option linter.unusedVariables false
attribute [local go_sem] Oper.semAt_some

def valP (x : Int × Int) : Value := .agg #[.int .i64 x.1, .int .i64 x.2]
/-- A slice's things. -/
def PrsP (n : Nat) (W : World) (sv : Value) (xs : List (Int × Int)) : Prop :=
  (xs = [] ∧ ∃ a c, sv = .slice a 0 c) ∨ ∃ b off cap, sv = .slice (some ⟨b, off, none⟩) xs.length cap ∧ b < n ∧ xs.length ≤ cap ∧ ∀ j x, xs[j]? = some x → W.cell? ⟨b, off + j * 2, none⟩ = some (.int .i64 x.1) ∧ W.cell? ⟨b, off + j * 2 + 1, none⟩ = some (.int .i64 x.2)
section
variable {n : Nat} {W : World} {a : Option Addr} {m c k : Nat} {xs : List (Int × Int)}
theorem PrsP.len (h : PrsP n W (.slice a m c) xs) : m = xs.length := by
  rcases h with ⟨rfl, _, _, e⟩ | ⟨b, off, cap, e, _⟩
  · cases e; rfl
  · cases e; rfl
theorem PrsP.at_ (h : PrsP n W (.slice a m c) xs) {x : Int × Int} (hx : xs[k]? = some x) :
    ∃ b off, a = some ⟨b, off, none⟩ ∧ b < n ∧ W.cell? ⟨b, off + k * 2, none⟩ = some (.int .i64 x.1) ∧ W.cell? ⟨b, off + k * 2 + 1, none⟩ = some (.int .i64 x.2) := by
  rcases h with ⟨rfl, _⟩ | ⟨b, off, cap, e, hb, _, hc⟩
  · simp at hx
  · cases e
    obtain ⟨h1, h2⟩ := hc k x hx
    exact ⟨b, off, rfl, hb, h1, h2⟩
/-- What stands in a slice does not lie in these blocks. -/
def OffP (own : List Nat) (sv : Value) : Prop := ∀ ad n c, sv = .slice (some ad) n c → 0 < n → ad.block ∉ own
theorem PrsP.but {own : List Nat} {W' : World} {sv : Value} (h : PrsP n W sv xs) (hb : But own W W') (ho : OffP own sv) (hn : n ≤ W.heap.size) : PrsP n W' sv xs := by
  rcases h with h | ⟨b, off, cap, e, hlt, hcap, hc⟩
  · exact .inl h
  · rcases Nat.eq_zero_or_pos xs.length with h0 | h0
    · obtain rfl := List.eq_nil_of_length_eq_zero h0
      exact .inl ⟨rfl, _, _, by rw [e]; rfl⟩
    · have hk := hb.block b (by omega) (ho _ _ _ e h0)
      exact .inr ⟨b, off, cap, e, hlt, hcap, fun j x hj => ⟨(World.cell?_of_block (a := ⟨b, off + j * 2, none⟩) hk).trans (hc j x hj).1, (World.cell?_of_block (a := ⟨b, off + j * 2 + 1, none⟩) hk).trans (hc j x hj).2⟩⟩
theorem PrsP.below {N : Nat} {W' : World} {sv : Value} (h : PrsP n W sv xs) (hb : Below N W W') (hn : n ≤ N) : PrsP n W' sv xs := by
  rcases h with h | ⟨b, off, cap, e, hlt, hcap, hc⟩
  · exact .inl h
  · exact .inr ⟨b, off, cap, e, hlt, hcap, fun j x hj => ⟨(hb.cell (p := ⟨b, off + j * 2, none⟩) (by simp; omega)).trans (hc j x hj).1, (hb.cell (p := ⟨b, off + j * 2 + 1, none⟩) (by simp; omega)).trans (hc j x hj).2⟩⟩
theorem PrsP.mono {n' : Nat} {sv : Value} (h : PrsP n W sv xs) (hn : n ≤ n') : PrsP n' W sv xs := by
  rcases h with h | ⟨b, off, cap, e, hlt, hcap, hc⟩
  · exact .inl h
  · exact .inr ⟨b, off, cap, e, by omega, hcap, hc⟩
end

def thingsP (x : Int × Int) : List Value := [.int .i64 x.1, .int .i64 x.2]
def flatVP (l : List (Int × Int)) : List Value := l.flatMap thingsP
theorem flatVP_app (l : List (Int × Int)) (x : Int × Int) : flatVP (l ++ [x]) = flatVP l ++ [.int .i64 x.1, .int .i64 x.2] := by unfold flatVP; rw [List.flatMap_append]; rfl
theorem flatVP_len : ∀ l : List (Int × Int), (flatVP l).length = l.length * 2
  | [] => rfl
  | x :: l => by
    have := flatVP_len l
    unfold flatVP at this ⊢
    rw [List.flatMap_cons, List.length_append, this]
    simp [thingsP]; omega
theorem flatVP_get : ∀ (l : List (Int × Int)) (i : Nat) (x : Int × Int), l[i]? = some x → (flatVP l)[i * 2]? = some (.int .i64 x.1) ∧ (flatVP l)[i * 2 + 1]? = some (.int .i64 x.2)
  | [], i, x, h => by simp at h
  | y :: l, 0, x, h => by
    simp at h; subst h
    simp [flatVP, thingsP]
  | y :: l, i + 1, x, h => by
    have := flatVP_get l i x (by simpa using h)
    have e : flatVP (y :: l) = thingsP y ++ flatVP l := by unfold flatVP; rw [List.flatMap_cons]
    have hl : (thingsP y).length = 2 := rfl
    rw [e]
    refine ⟨?_, ?_⟩
    · rw [List.getElem?_append_right (by omega), show (i + 1) * 2 - (thingsP y).length = i * 2 from by rw [hl]; omega]; exact this.1
    · rw [List.getElem?_append_right (by omega), show (i + 1) * 2 + 1 - (thingsP y).length = i * 2 + 1 from by rw [hl]; omega]; exact this.2
/-- What is owned can be read. -/
theorem PrsP.of_owns {W : World} {base : Nat} {v : Value} {xs : List (Int × Int)} (h : W.ownsRow base 41 2 v xs.length (flatVP xs)) : PrsP W.heap.size W v xs := by
  rcases h.2 with ⟨rfl, h0⟩ | ⟨g, cap, cur, e, _, hg, hn, _, _, _⟩
  · exact .inl ⟨List.eq_nil_of_length_eq_zero h0, none, 0, rfl⟩
  · subst e
    refine .inr ⟨g, 0, cap, rfl, (Array.getElem?_eq_some_iff.1 hg).1, hn, fun j x hj => ?_⟩
    have hlt : j < xs.length := (List.getElem?_eq_some_iff.1 hj).1
    obtain ⟨f1, f2⟩ := flatVP_get xs j x hj
    rw [Nat.zero_add]
    exact ⟨by rw [h.cellAt _ (by omega)]; exact f1, by rw [h.cellAt _ (by omega)]; exact f2⟩
theorem infoTP : (Try.prog.info? 41).map (fun i => (i.zero, i.size, i.bytes)) = some (some (.agg #[.int .i64 0, .int .i64 0]), 2, 16) := by kernel_rfl

theorem own_empty (w : World) (e : TypeId) (size base : Nat) (hb : base ≤ w.heap.size) : (w.alloc (.cells #[] e)).ownsRow base e size (.slice (some ⟨w.heap.size, 0, none⟩) 0 0) 0 [] :=
  ⟨by simp, .inr ⟨w.heap.size, 0, #[], rfl, hb, World.alloc_heap_new w _, Nat.le_refl _, Nat.zero_le _, by simp, by simp⟩⟩
theorem own_form {w : World} {base e size n : Nat} {v : Value} {xs : List Value} (h : w.ownsRow base e size v n xs) : ∃ a c, v = .slice a n c := by
  rcases h.2 with ⟨rfl, e⟩ | ⟨g, cap, cur, e, _⟩
  · exact ⟨none, 0, by rw [e]⟩
  · exact ⟨_, _, e⟩

theorem own_formc {w : World} {base e size n : Nat} {v : Value} {xs : List Value} (h : w.ownsRow base e size v n xs) : ∃ a c, v = .slice a n c ∧ n ≤ c := by
  rcases h.2 with ⟨rfl, e⟩ | ⟨g, cap, cur, e, _, _, hn, _⟩
  · exact ⟨none, 0, by rw [e], by omega⟩
  · exact ⟨_, _, e, hn⟩
theorem PrsP.take {n : Nat} {W : World} {a : Option Addr} {m c k : Nat} {xs : List (Int × Int)} (h : PrsP n W (.slice a m c) xs) (hk : k ≤ m) : PrsP n W (.slice a k c) (xs.take k) := by
  rcases h with ⟨rfl, a', c', e⟩ | ⟨b, off, cap, e, hb, hcap, hc⟩
  · cases e
    obtain rfl : k = 0 := by omega
    exact .inl ⟨by simp, _, _, rfl⟩
  · cases e
    have hl : (xs.take k).length = k := by simp; omega
    refine .inr ⟨b, off, c, by rw [hl], hb, by rw [hl]; omega, fun j x hj => ?_⟩
    rw [List.getElem?_take] at hj
    split at hj
    · exact hc j x hj
    · cases hj
/-- A row that the call itself made, at B or behind it. -/
structure RowC (w : World) (v : Value) (out : KV) (W : World) : Prop where
  row : W.ownsRow w.heap.size 41 2 v out.length (flatVP out)
  bel : Below w.heap.size w W
theorem RowC.start (w : World) : RowC w (.slice (some ⟨w.heap.size, 0, none⟩) 0 0) [] (w.alloc (.cells #[] 41)) :=
  ⟨own_empty w _ _ _ (Nat.le_refl _), (Below.refl _ _).alloc (Nat.le_refl _) _⟩
theorem RowC.drewN {w : World} {v : Value} {out : KV} {W : World} (h : RowC w v out W) (q : Nat) : RowC w v out (W.drewN q) := ⟨h.row, ⟨h.bel.os, h.bel.tape, h.bel.output, h.bel.size, h.bel.block⟩⟩
theorem RowC.app {w : World} {v : Value} {out : KV} {W : World} (h : RowC w v out W) (x y : Int) (o : Obj) {v' : Value} {w1 : World} (hown : w1.ownsRow w.heap.size 41 2 v' (out.length + 1) (flatVP out ++ [.int .i64 x, .int .i64 y])) (hg : (W.alloc o).grownBy w1 v.ownBlock) : RowC w v' (out ++ [(x, y)]) w1 := by
  have hlt := World.ownsRow.lt h.row
  exact ⟨by rw [List.length_append, flatVP_app]; exact hown, (h.bel.alloc (by have := h.bel.size; omega) _).grown hg (by have := h.bel.size; simp; omega) (fun j hj => by have := (hlt j hj).1; omega)⟩

/-- The document's Put. -/
def putD (k v : Int) : KV → KV
  | [] => [(k, v)]
  | (a, b) :: r => if k ≤ a then (k, v) :: ((a, b) :: r).filter (fun x => decide (x.1 ≠ k)) else (a, b) :: putD k v r
theorem insD8 (k v : Int) : ∀ l : KV, Tr.Rising ltN l → Tr.insK ltN k v l = putD k v l
  | [], h => rfl
  | (a, b) :: r, h => by
    obtain ⟨h1, h2⟩ := List.pairwise_cons.1 h
    unfold putD Tr.insK
    by_cases e : k = a
    · subst e
      rw [if_pos rfl, if_pos (Int.le_refl _), List.filter_cons, if_neg (by simp), List.filter_eq_self.2 (fun x hx => by simpa using fun e => Tr.ne_of ordN (h1 x hx) e.symm)]
    · rw [if_neg e]
      by_cases hk : k < a
      · rw [if_pos (show ltN k a = true from decide_eq_true hk), if_pos (by omega), List.filter_eq_self.2 (fun x hx => ?_)]
        rcases List.mem_cons.1 hx with rfl | hx
        · simpa using fun e2 => e e2.symm
        · have := h1 x hx
          unfold ltN at this
          simp at this ⊢
          omega
      · rw [if_neg (by unfold ltN; simp; omega), if_neg (by omega), insD8 k v r h2]
theorem putD_len (k v : Int) : ∀ l : KV, (putD k v l).length ≤ l.length + 1
  | [] => Nat.le_refl _
  | (a, b) :: r => by
    unfold putD
    split
    · have := List.length_filter_le (fun x : Int × Int => decide (x.1 ≠ k)) ((a, b) :: r)
      simp only [List.length_cons] at this ⊢
      omega
    · have := putD_len k v r
      simp only [List.length_cons]
      omega
theorem drop_cons {l : KV} {m : Nat} {y : Int × Int} (h : l[m]? = some y) : l.drop m = y :: l.drop (m + 1) := by
  obtain ⟨hq, e⟩ := List.getElem?_eq_some_iff.1 h
  rw [List.drop_eq_getElem_cons hq, e]

set_option maxRecDepth 100000 in
set_option maxHeartbeats 4000000 in
theorem refGet_any (k : Int) (a : Option Addr) (n c : Nat) (l : KV) (hl : l.length ≤ 1048576) (w : World) (hs : PrsP w.heap.size w (.slice a n c) l) :
    Calls Try.prog 37 #[.slice a n c, .int .i64 k] w fun e w' => e = .returned (.tuple #[.int .i64 ((Tr.getK k l).getD 0), .bool (Tr.getK k l).isSome]) ∧ w' = w := by
  obtain rfl := hs.len
  have HS := Lib.hid hs
  obtain ⟨n, hn⟩ : ∃ n, l.length = n := ⟨_, rfl⟩
  have HN := Lib.hid hn
  rw [hn] at hl ⊢
  clear hs hn
  go_enter Try.func37, Try.ntmps37
  go_wp2
  go_loopw [6] (fun i wr => ∃ m : Nat, i = .int .i64 m ∧ m ≤ n ∧ w = wr ∧ Tr.getK k (l.drop m) = Tr.getK k l) (fun i _ => n - (intOf i).toNat)
  case atStart => exact ⟨0, rfl, Nat.zero_le _, rfl, by first | rfl | trivial⟩
  case round =>
    obtain ⟨m, rfl, hm, rfl, hE⟩ := hrel
    by_cases hlt : m < n
    · obtain ⟨⟨y, z⟩, hy⟩ : ∃ y, l[m]? = some y := ⟨_, List.getElem?_eq_getElem (by rw [HN.out]; exact hlt)⟩
      obtain ⟨g, off, rfl, hg, d0, d1⟩ := HS.out.at_ hy
      rw [drop_cons hy] at hE
      have b1 : (0 : Int) ≤ m := by omega
      have b2 : (m : Int) < n := by omega
      simp only at d0 d1
      have HE := Lib.hid hE
      clear hE hy
      by_cases hk : y = k
      · subst hk
        go_wp2
        refine bodyPost_ret (results_tmp2 rfl _ _ _) rfl ?_
        have := HE.out
        simp only [Tr.getK, if_true] at this
        exact ⟨by rw [← this]; rfl, rfl⟩
      · have hk2 : (y == k) = false := by simpa using hk
        go_wp2
        go_roundw
        case rel =>
          refine ⟨m + 1, by go_num, by omega, trivial, ?_⟩
          rw [← HE.out]
          simp only [Tr.getK]
          rw [if_neg (fun e => hk e.symm)]
        case measure => simp [intOf]; omega
    · obtain rfl : m = n := by omega
      have hdr : l.drop m = [] := List.drop_of_length_le (by have := HN.out; omega)
      rw [hdr] at hE
      have HE := Lib.hid hE
      clear hE
      go_wp2
      refine bodyPost_ret (results_tmp2 rfl _ _ _) rfl ?_
      exact ⟨by rw [← HE.out]; rfl, rfl⟩

set_option maxRecDepth 100000 in
set_option maxHeartbeats 8000000 in
theorem refPut_any (k u : Int) (a : Option Addr) (n c : Nat) (l : KV) (hl : l.length ≤ 1048576) (w : World) (hs : PrsP w.heap.size w (.slice a n c) l) :
    Calls Try.prog 38 #[.slice a n c, .int .i64 k, .int .i64 u] w fun e w' => ∃ v, e = .returned v ∧ w'.ownsRow w.heap.size 41 2 v (putD k u l).length (flatVP (putD k u l)) ∧ Below w.heap.size w w' := by
  obtain ⟨i0, hi, hz0, hz1, hz2⟩ := info_parts infoTP
  obtain rfl := hs.len
  have HS := Lib.hid hs
  have hil := putD_len k u l
  have HIL := Lib.hid hil
  obtain ⟨n, hn⟩ : ∃ n, l.length = n := ⟨_, rfl⟩
  have HN := Lib.hid hn
  rw [hn] at hl ⊢
  clear hs hn hil
  go_enter Try.func38, Try.ntmps38
  go_wp2
  go_loopw [7, 8, 9] (fun v d i wr => ∃ (m : Nat) (out : KV) (b : Bool), d = .bool b ∧ i = .int .i64 m ∧ m ≤ n ∧ RowC w v out wr ∧ out ++ (if b = true then (l.drop m).filter (fun x => decide (x.1 ≠ k)) else putD k u (l.drop m)) = putD k u l) (fun _ _ i _ => n - (intOf i).toNat)
  case atStart => exact ⟨0, [], false, rfl, rfl, Nat.zero_le _, RowC.start w, rfl⟩
  case round =>
    obtain ⟨m, out, b, rfl, rfl, hm, hR, hout⟩ := hrel
    have hol : out.length ≤ 1048577 := by
      have h1 := congrArg List.length hout
      rw [List.length_append] at h1
      have := HN.out
      have := HIL.out
      omega
    by_cases hlt : m < n
    · obtain ⟨⟨y, z⟩, hy⟩ : ∃ y, l[m]? = some y := ⟨_, List.getElem?_eq_getElem (by rw [HN.out]; exact hlt)⟩
      obtain ⟨g, off, rfl, hg, f0, f1⟩ := HS.out.at_ hy
      have d0 := (hR.bel.cell (p := ⟨g, off + m * 2, none⟩) hg).trans f0
      have d1 := (hR.bel.cell (p := ⟨g, off + m * 2 + 1, none⟩) hg).trans f1
      rw [drop_cons hy] at hout
      simp only at d0 d1 f0 f1
      have b1 : (0 : Int) ≤ m := by omega
      have b2 : (m : Int) < n := by omega
      cases b with
      | true =>
        rw [if_pos rfl, List.filter_cons] at hout
        by_cases hk : y = k
        · subst hk
          rw [if_neg (by simp)] at hout
          have HO := Lib.hid hout
          have HRR := Lib.hid hR
          clear hout hy hR
          go_wp2
          go_roundw
          case rel => exact ⟨m + 1, out, true, rfl, by go_num, by omega, HRR.out, by rw [if_pos rfl]; exact HO.out⟩
          case measure => simp [intOf]; omega
        · rw [if_pos (by simpa using hk)] at hout
          have HO : Hid ((out ++ [(y, z)]) ++ (l.drop (m + 1)).filter (fun x => decide (x.1 ≠ k)) = putD k u l) := Lib.hid (by rw [List.append_assoc]; exact hout)
          have hkb : (y != k) = true := by simpa using hk
          have HRR := Lib.hid hR
          clear hout hy hR
          go_wp2_with (at_builtin; refine wpList_append_own_at _ rfl _ _ 25 rfl w.heap.size 41 i0 (.agg #[.int .i64 0, .int .i64 0]) 2 16 Try.underlying25 hi hz0 hz1 hz2 rfl (by decide) _ _ _ rfl (HRR.out.row.alloc _) ⟨wr.heap.size, 0, none⟩ 1 1 [.int .i64 y, .int .i64 z] rfl rfl (World.news_of_block (World.alloc_heap_new wr _)) (by simp [Value.oneCell']) (by unfold maxLen; omega) (by have := HRR.out.bel.size; omega) (by have := HRR.out.bel.size; simp; omega) ?_; intro v' A hown' hgrow _ _; have HA := Lib.hid (HRR.out.app y z _ hown' hgrow); clear hown' hgrow)
          go_roundw
          case rel => exact ⟨m + 1, out ++ [(y, z)], true, rfl, by go_num, by omega, HA.out, by rw [if_pos rfl]; exact HO.out⟩
          case measure => simp [intOf]; omega
      | false =>
        rw [if_neg (by decide)] at hout
        by_cases hky : k ≤ y
        · have e1 : putD k u ((y, z) :: l.drop (m + 1)) = (k, u) :: ((y, z) :: l.drop (m + 1)).filter (fun x => decide (x.1 ≠ k)) := if_pos hky
          rw [e1, List.filter_cons] at hout
          by_cases hk : y = k
          · subst hk
            rw [if_neg (by simp)] at hout
            have HO : Hid ((out ++ [(y, u)]) ++ (l.drop (m + 1)).filter (fun x => decide (x.1 ≠ y)) = putD y u l) := Lib.hid (by rw [List.append_assoc]; exact hout)
            have HRR := Lib.hid hR
            clear hout hy hR e1
            go_wp2_with (at_builtin; refine wpList_append_own_at _ rfl _ _ 25 rfl w.heap.size 41 i0 (.agg #[.int .i64 0, .int .i64 0]) 2 16 Try.underlying25 hi hz0 hz1 hz2 rfl (by decide) _ _ _ rfl (HRR.out.row.alloc _) ⟨wr.heap.size, 0, none⟩ 1 1 [.int .i64 y, .int .i64 u] rfl rfl (World.news_of_block (World.alloc_heap_new wr _)) (by simp [Value.oneCell']) (by unfold maxLen; omega) (by have := HRR.out.bel.size; omega) (by have := HRR.out.bel.size; simp; omega) ?_; intro v' A hown' hgrow _ _; have HA := Lib.hid (HRR.out.app y u _ hown' hgrow); clear hown' hgrow; have t0 := (HA.out.bel.cell (p := ⟨g, off + m * 2, none⟩) hg).trans f0; have t1 := (HA.out.bel.cell (p := ⟨g, off + m * 2 + 1, none⟩) hg).trans f1)
            go_roundw
            case rel => exact ⟨m + 1, out ++ [(y, u)], true, rfl, by go_num, by omega, HA.out, by rw [if_pos rfl]; exact HO.out⟩
            case measure => simp [intOf]; omega
          · rw [if_pos (by simpa using hk)] at hout
            have HO : Hid ((out ++ [(k, u)] ++ [(y, z)]) ++ (l.drop (m + 1)).filter (fun x => decide (x.1 ≠ k)) = putD k u l) := Lib.hid (by rw [List.append_assoc, List.append_assoc]; exact hout)
            have hkb : (y != k) = true := by simpa using hk
            have HRR := Lib.hid hR
            have hl2 : (out ++ [(k, u)]).length ≤ 1048578 := by simp; omega
            clear hout hy hR e1
            go_wp2_with (first | (at_builtin; refine wpList_append_own_at _ rfl _ _ 25 rfl w.heap.size 41 i0 (.agg #[.int .i64 0, .int .i64 0]) 2 16 Try.underlying25 hi hz0 hz1 hz2 rfl (by decide) _ _ _ rfl (HRR.out.row.alloc _) ⟨wr.heap.size, 0, none⟩ 1 1 [.int .i64 k, .int .i64 u] rfl rfl (World.news_of_block (World.alloc_heap_new wr _)) (by simp [Value.oneCell']) (by unfold maxLen; omega) (by have := HRR.out.bel.size; omega) (by have := HRR.out.bel.size; simp; omega) ?_; intro v' A hown' hgrow _ _; have HA := Lib.hid (HRR.out.app k u _ hown' hgrow); clear hown' hgrow; have t0 := (HA.out.bel.cell (p := ⟨g, off + m * 2, none⟩) hg).trans f0; have t1 := (HA.out.bel.cell (p := ⟨g, off + m * 2 + 1, none⟩) hg).trans f1) | (at_builtin; refine wpList_append_own_at _ rfl _ _ 25 rfl w.heap.size 41 i0 (.agg #[.int .i64 0, .int .i64 0]) 2 16 Try.underlying25 hi hz0 hz1 hz2 rfl (by decide) _ _ _ rfl (HA.out.row.alloc _) ⟨A.heap.size, 0, none⟩ 1 1 [.int .i64 y, .int .i64 z] rfl rfl (World.news_of_block (World.alloc_heap_new A _)) (by simp [Value.oneCell']) (by unfold maxLen; omega) (by have := HA.out.bel.size; omega) (by have := HA.out.bel.size; simp; omega) ?_; intro v' A2 hown' hgrow _ _; have HA2 := Lib.hid (HA.out.app y z _ hown' hgrow); clear hown' hgrow))
            go_roundw
            case rel => exact ⟨m + 1, out ++ [(k, u)] ++ [(y, z)], true, rfl, by go_num, by omega, HA2.out, by rw [if_pos rfl]; exact HO.out⟩
            case measure => simp [intOf]; omega
        · have e1 : putD k u ((y, z) :: l.drop (m + 1)) = (y, z) :: putD k u (l.drop (m + 1)) := if_neg hky
          rw [e1] at hout
          have HO : Hid ((out ++ [(y, z)]) ++ putD k u (l.drop (m + 1)) = putD k u l) := Lib.hid (by rw [List.append_assoc]; exact hout)
          have hkb : (y != k) = true := by simp; omega
          have hkc : decide (k ≤ y) = false := by simpa using hky
          have HRR := Lib.hid hR
          clear hout hy hR e1
          go_wp2_with (at_builtin; refine wpList_append_own_at _ rfl _ _ 25 rfl w.heap.size 41 i0 (.agg #[.int .i64 0, .int .i64 0]) 2 16 Try.underlying25 hi hz0 hz1 hz2 rfl (by decide) _ _ _ rfl (HRR.out.row.alloc _) ⟨wr.heap.size, 0, none⟩ 1 1 [.int .i64 y, .int .i64 z] rfl rfl (World.news_of_block (World.alloc_heap_new wr _)) (by simp [Value.oneCell']) (by unfold maxLen; omega) (by have := HRR.out.bel.size; omega) (by have := HRR.out.bel.size; simp; omega) ?_; intro v' A hown' hgrow _ _; have HA := Lib.hid (HRR.out.app y z _ hown' hgrow); clear hown' hgrow)
          go_roundw
          case rel => exact ⟨m + 1, out ++ [(y, z)], false, rfl, by go_num, by omega, HA.out, by rw [if_neg (by decide)]; exact HO.out⟩
          case measure => simp [intOf]; omega
    · obtain rfl : m = n := by omega
      have hdr : l.drop m = [] := List.drop_of_length_le (by have := HN.out; omega)
      rw [hdr] at hout
      have HRR := Lib.hid hR
      cases b with
      | true =>
        rw [if_pos rfl, List.filter_nil, List.append_nil] at hout
        subst hout
        clear hR
        go_wp2
        go_ret
        exact ⟨_, rfl, HRR.out.row, HRR.out.bel⟩
      | false =>
        rw [if_neg (by decide)] at hout
        have HO : Hid (out ++ [(k, u)] = putD k u l) := Lib.hid hout
        clear hout hR
        go_wp2_with (at_builtin; refine wpList_append_own_at _ rfl _ _ 25 rfl w.heap.size 41 i0 (.agg #[.int .i64 0, .int .i64 0]) 2 16 Try.underlying25 hi hz0 hz1 hz2 rfl (by decide) _ _ _ rfl (HRR.out.row.alloc _) ⟨wr.heap.size, 0, none⟩ 1 1 [.int .i64 k, .int .i64 u] rfl rfl (World.news_of_block (World.alloc_heap_new wr _)) (by simp [Value.oneCell']) (by unfold maxLen; omega) (by have := HRR.out.bel.size; omega) (by have := HRR.out.bel.size; simp; omega) ?_; intro v' A hown' hgrow _ _; have HA := Lib.hid (HRR.out.app k u _ hown' hgrow); clear hown' hgrow)
        go_ret
        rw [← HO.out]
        exact ⟨_, rfl, HA.out.row, HA.out.bel⟩

set_option maxRecDepth 100000 in
set_option maxHeartbeats 4000000 in
theorem refDrop_any (k : Int) (a : Option Addr) (n c : Nat) (l : KV) (hl : l.length ≤ 1048576) (w : World) (hs : PrsP w.heap.size w (.slice a n c) l) :
    Calls Try.prog 44 #[.slice a n c, .int .i64 k] w fun e w' => ∃ v, e = .returned v ∧ w'.ownsRow w.heap.size 41 2 v (l.filter (fun x : Int × Int => decide (x.1 ≠ k))).length (flatVP (l.filter (fun x : Int × Int => decide (x.1 ≠ k)))) ∧ Below w.heap.size w w' := by
  obtain ⟨i0, hi, hz0, hz1, hz2⟩ := info_parts infoTP
  obtain rfl := hs.len
  have HS := Lib.hid hs
  have HIL := Lib.hid (List.length_filter_le (fun x : Int × Int => decide (x.1 ≠ k)) l)
  obtain ⟨n, hn⟩ : ∃ n, l.length = n := ⟨_, rfl⟩
  have HN := Lib.hid hn
  rw [hn] at hl ⊢
  clear hs hn
  go_enter Try.func44, Try.ntmps44
  go_wp2
  go_loopw [5, 6] (fun v i wr => ∃ (m : Nat) (out : KV), i = .int .i64 m ∧ m ≤ n ∧ RowC w v out wr ∧ out ++ (l.drop m).filter (fun x : Int × Int => decide (x.1 ≠ k)) = l.filter (fun x : Int × Int => decide (x.1 ≠ k))) (fun _ i _ => n - (intOf i).toNat)
  case atStart => exact ⟨0, [], rfl, Nat.zero_le _, RowC.start w, rfl⟩
  case round =>
    obtain ⟨m, out, rfl, hm, hR, hout⟩ := hrel
    have hol : out.length ≤ 1048577 := by
      have h1 := congrArg List.length hout
      rw [List.length_append] at h1
      have := HN.out
      have := HIL.out
      omega
    by_cases hlt : m < n
    · obtain ⟨⟨y, z⟩, hy⟩ : ∃ y, l[m]? = some y := ⟨_, List.getElem?_eq_getElem (by rw [HN.out]; exact hlt)⟩
      obtain ⟨g, off, rfl, hg, f0, f1⟩ := HS.out.at_ hy
      have d0 := (hR.bel.cell (p := ⟨g, off + m * 2, none⟩) hg).trans f0
      have d1 := (hR.bel.cell (p := ⟨g, off + m * 2 + 1, none⟩) hg).trans f1
      rw [drop_cons hy, List.filter_cons] at hout
      simp only at d0 d1 f0 f1
      have b1 : (0 : Int) ≤ m := by omega
      have b2 : (m : Int) < n := by omega
      cases hc : (fun x : Int × Int => decide (x.1 ≠ k)) (y, z) with
      | true =>
        rw [if_pos hc] at hout
        have hkb : (y != k) = true := by simpa using hc
        have HO : Hid ((out ++ [(y, z)]) ++ (l.drop (m + 1)).filter (fun x : Int × Int => decide (x.1 ≠ k)) = l.filter (fun x : Int × Int => decide (x.1 ≠ k))) := Lib.hid (by rw [List.append_assoc]; exact hout)
        have HRR := Lib.hid hR
        clear hout hy hR hc
        go_wp2_with (at_builtin; refine wpList_append_own_at _ rfl _ _ 25 rfl w.heap.size 41 i0 (.agg #[.int .i64 0, .int .i64 0]) 2 16 Try.underlying25 hi hz0 hz1 hz2 rfl (by decide) _ _ _ rfl (HRR.out.row.alloc _) ⟨wr.heap.size, 0, none⟩ 1 1 [.int .i64 y, .int .i64 z] rfl rfl (World.news_of_block (World.alloc_heap_new wr _)) (by simp [Value.oneCell']) (by unfold maxLen; omega) (by have := HRR.out.bel.size; omega) (by have := HRR.out.bel.size; simp; omega) ?_; intro v' A hown' hgrow _ _; have HA := Lib.hid (HRR.out.app y z _ hown' hgrow); clear hown' hgrow)
        go_roundw
        case rel => exact ⟨m + 1, out ++ [(y, z)], by go_num, by omega, HA.out, HO.out⟩
        case measure => simp [intOf]; omega
      | false =>
        rw [if_neg (Bool.eq_false_iff.1 hc)] at hout
        obtain rfl : y = k := by simpa using hc
        have HO := Lib.hid hout
        have HRR := Lib.hid hR
        clear hout hy hR hc
        go_wp2
        go_roundw
        case rel => exact ⟨m + 1, out, by go_num, by omega, HRR.out, HO.out⟩
        case measure => simp [intOf]; omega
    · obtain rfl : m = n := by omega
      have hdr : l.drop m = [] := List.drop_of_length_le (by have := HN.out; omega)
      rw [hdr, List.filter_nil, List.append_nil] at hout
      subst hout
      have HRR := Lib.hid hR
      clear hR
      go_wp2
      go_ret
      exact ⟨_, rfl, HRR.out.row, HRR.out.bel⟩

set_option maxRecDepth 100000 in
set_option maxHeartbeats 4000000 in
theorem refFrom_any (k : Int) (a : Option Addr) (n c : Nat) (l : KV) (hl : l.length ≤ 1048576) (w : World) (hs : PrsP w.heap.size w (.slice a n c) l) :
    Calls Try.prog 18 #[.slice a n c, .int .i64 k] w fun e w' => ∃ v, e = .returned v ∧ w'.ownsRow w.heap.size 41 2 v (l.filter (fun x : Int × Int => !(ltN x.1 k))).length (flatVP (l.filter (fun x : Int × Int => !(ltN x.1 k)))) ∧ Below w.heap.size w w' := by
  obtain ⟨i0, hi, hz0, hz1, hz2⟩ := info_parts infoTP
  obtain rfl := hs.len
  have HS := Lib.hid hs
  have HIL := Lib.hid (List.length_filter_le (fun x : Int × Int => !(ltN x.1 k)) l)
  obtain ⟨n, hn⟩ : ∃ n, l.length = n := ⟨_, rfl⟩
  have HN := Lib.hid hn
  rw [hn] at hl ⊢
  clear hs hn
  go_enter Try.func18, Try.ntmps18
  go_wp2
  go_loopw [5, 6] (fun v i wr => ∃ (m : Nat) (out : KV), i = .int .i64 m ∧ m ≤ n ∧ RowC w v out wr ∧ out ++ (l.drop m).filter (fun x : Int × Int => !(ltN x.1 k)) = l.filter (fun x : Int × Int => !(ltN x.1 k))) (fun _ i _ => n - (intOf i).toNat)
  case atStart => exact ⟨0, [], rfl, Nat.zero_le _, RowC.start w, rfl⟩
  case round =>
    obtain ⟨m, out, rfl, hm, hR, hout⟩ := hrel
    have hol : out.length ≤ 1048577 := by
      have h1 := congrArg List.length hout
      rw [List.length_append] at h1
      have := HN.out
      have := HIL.out
      omega
    by_cases hlt : m < n
    · obtain ⟨⟨y, z⟩, hy⟩ : ∃ y, l[m]? = some y := ⟨_, List.getElem?_eq_getElem (by rw [HN.out]; exact hlt)⟩
      obtain ⟨g, off, rfl, hg, f0, f1⟩ := HS.out.at_ hy
      have d0 := (hR.bel.cell (p := ⟨g, off + m * 2, none⟩) hg).trans f0
      have d1 := (hR.bel.cell (p := ⟨g, off + m * 2 + 1, none⟩) hg).trans f1
      rw [drop_cons hy, List.filter_cons] at hout
      simp only at d0 d1 f0 f1
      have b1 : (0 : Int) ≤ m := by omega
      have b2 : (m : Int) < n := by omega
      cases hc : (fun x : Int × Int => !(ltN x.1 k)) (y, z) with
      | true =>
        rw [if_pos hc] at hout
        have hkb : decide (k ≤ y) = true := by unfold ltN at hc; simpa using hc
        have HO : Hid ((out ++ [(y, z)]) ++ (l.drop (m + 1)).filter (fun x : Int × Int => !(ltN x.1 k)) = l.filter (fun x : Int × Int => !(ltN x.1 k))) := Lib.hid (by rw [List.append_assoc]; exact hout)
        have HRR := Lib.hid hR
        clear hout hy hR hc
        go_wp2_with (at_builtin; refine wpList_append_own_at _ rfl _ _ 25 rfl w.heap.size 41 i0 (.agg #[.int .i64 0, .int .i64 0]) 2 16 Try.underlying25 hi hz0 hz1 hz2 rfl (by decide) _ _ _ rfl (HRR.out.row.alloc _) ⟨wr.heap.size, 0, none⟩ 1 1 [.int .i64 y, .int .i64 z] rfl rfl (World.news_of_block (World.alloc_heap_new wr _)) (by simp [Value.oneCell']) (by unfold maxLen; omega) (by have := HRR.out.bel.size; omega) (by have := HRR.out.bel.size; simp; omega) ?_; intro v' A hown' hgrow _ _; have HA := Lib.hid (HRR.out.app y z _ hown' hgrow); clear hown' hgrow)
        go_roundw
        case rel => exact ⟨m + 1, out ++ [(y, z)], by go_num, by omega, HA.out, HO.out⟩
        case measure => simp [intOf]; omega
      | false =>
        rw [if_neg (Bool.eq_false_iff.1 hc)] at hout
        have hkb : decide (k ≤ y) = false := by unfold ltN at hc; simpa using hc
        have HO := Lib.hid hout
        have HRR := Lib.hid hR
        clear hout hy hR hc
        go_wp2
        go_roundw
        case rel => exact ⟨m + 1, out, by go_num, by omega, HRR.out, HO.out⟩
        case measure => simp [intOf]; omega
    · obtain rfl : m = n := by omega
      have hdr : l.drop m = [] := List.drop_of_length_le (by have := HN.out; omega)
      rw [hdr, List.filter_nil, List.append_nil] at hout
      subst hout
      have HRR := Lib.hid hR
      clear hR
      go_wp2
      go_ret
      exact ⟨_, rfl, HRR.out.row, HRR.out.bel⟩

set_option maxRecDepth 100000 in
set_option maxHeartbeats 4000000 in
theorem refBelow_any (k : Int) (a : Option Addr) (n c : Nat) (l : KV) (hl : l.length ≤ 1048576) (w : World) (hs : PrsP w.heap.size w (.slice a n c) l) :
    Calls Try.prog 20 #[.slice a n c, .int .i64 k] w fun e w' => e = .returned (.tuple #[.int .i64 (((belowL k l).map Prod.fst).getD 0), .bool (belowL k l).isSome]) ∧ w' = w := by
  obtain rfl := hs.len
  have HS := Lib.hid hs
  obtain ⟨n, hn⟩ : ∃ n, l.length = n := ⟨_, rfl⟩
  have HN := Lib.hid hn
  rw [hn] at hl ⊢
  clear hs hn
  go_enter Try.func20, Try.ntmps20
  go_wp2
  go_loopw [6, 7, 8] (fun o d i wr => ∃ (m : Nat) (b : Option (Int × Int)), o = .int .i64 ((b.map Prod.fst).getD 0) ∧ d = .bool b.isSome ∧ i = .int .i64 m ∧ m ≤ n ∧ w = wr ∧ (belowL k (l.drop m)).or b = belowL k l) (fun _ _ i _ => n - (intOf i).toNat)
  case atStart => exact ⟨0, none, rfl, rfl, rfl, Nat.zero_le _, rfl, by rw [Option.or_none]; rfl⟩
  case round =>
    obtain ⟨m, b, rfl, rfl, rfl, hm, rfl, hE⟩ := hrel
    by_cases hlt : m < n
    · obtain ⟨⟨y, z⟩, hy⟩ : ∃ y, l[m]? = some y := ⟨_, List.getElem?_eq_getElem (by rw [HN.out]; exact hlt)⟩
      obtain ⟨g, off, rfl, hg, d0, d1⟩ := HS.out.at_ hy
      rw [drop_cons hy] at hE
      have b1 : (0 : Int) ≤ m := by omega
      have b2 : (m : Int) < n := by omega
      simp only at d0 d1
      have HE := Lib.hid hE
      clear hE hy
      cases hk : decide (y < k) with
      | true =>
        go_wp2
        go_roundw
        case rel =>
          refine ⟨m + 1, some (y, z), rfl, rfl, by go_num, by omega, trivial, ?_⟩
          rw [← HE.out]
          unfold belowL
          rw [List.filter_cons, if_pos (show ltN (y, z).1 k = true from hk), List.getLast?_cons]
          cases (List.filter (fun x => ltN x.fst k) (List.drop (m + 1) l)).getLast? <;> rfl
        case measure => simp [intOf]; omega
      | false =>
        go_wp2
        go_roundw
        case rel =>
          refine ⟨m + 1, b, rfl, rfl, by go_num, by omega, trivial, ?_⟩
          rw [← HE.out]
          unfold belowL
          rw [List.filter_cons, if_neg (show ¬ ltN (y, z).1 k = true from by unfold ltN; rw [hk]; decide)]
        case measure => simp [intOf]; omega
    · obtain rfl : m = n := by omega
      have hdr : l.drop m = [] := List.drop_of_length_le (by have := HN.out; omega)
      rw [hdr] at hE
      obtain rfl : b = belowL k l := hE
      clear hm
      go_wp2
      refine bodyPost_ret (results_tmp2 rfl _ _ _) rfl ?_
      exact ⟨rfl, rfl⟩

set_option maxRecDepth 100000 in
set_option maxHeartbeats 4000000 in
theorem refBack_any (a : Option Addr) (n c : Nat) (l : KV) (hl : l.length ≤ 1048576) (w : World) (hs : PrsP w.heap.size w (.slice a n c) l) :
    Calls Try.prog 16 #[.slice a n c] w fun e w' => ∃ v, e = .returned v ∧ w'.ownsRow w.heap.size 41 2 v l.length (flatVP l.reverse) ∧ Below w.heap.size w w' := by
  obtain ⟨i0, hi, hz0, hz1, hz2⟩ := info_parts infoTP
  obtain rfl := hs.len
  have HS := Lib.hid hs
  obtain ⟨n, hn⟩ : ∃ n, l.length = n := ⟨_, rfl⟩
  have HN := Lib.hid hn
  rw [hn] at hl ⊢
  clear hs hn
  go_enter Try.func16, Try.ntmps16
  go_wp2
  go_loopw [3, 4] (fun v i wr => ∃ (m : Nat), i = .int .i64 ((m : Int) - 1) ∧ m ≤ n ∧ RowC w v (l.drop m).reverse wr) (fun _ i _ => (intOf i + 1).toNat)
  case atStart => exact ⟨n, rfl, Nat.le_refl _, by rw [List.drop_of_length_le (by have := HN.out; omega)]; exact RowC.start w⟩
  case round =>
    obtain ⟨m, rfl, hm, hR⟩ := hrel
    cases m with
    | zero =>
      have HRR := Lib.hid hR
      clear hR
      go_wp2
      go_ret
      have h := HRR.out.row
      rw [List.drop_zero, List.length_reverse, HN.out] at h
      exact ⟨_, rfl, h, HRR.out.bel⟩
    | succ m =>
      obtain ⟨⟨y, z⟩, hy⟩ : ∃ y, l[m]? = some y := ⟨_, List.getElem?_eq_getElem (by rw [HN.out]; omega)⟩
      obtain ⟨g, off, rfl, hg, f0, f1⟩ := HS.out.at_ hy
      have d0 := (hR.bel.cell (p := ⟨g, off + m * 2, none⟩) hg).trans f0
      have d1 := (hR.bel.cell (p := ⟨g, off + m * 2 + 1, none⟩) hg).trans f1
      simp only at d0 d1 f0 f1
      have hi1 : ((m + 1 : Nat) : Int) - 1 = m := by omega
      rw [hi1] at *
      have b1 : (0 : Int) ≤ m := by omega
      have b2 : (m : Int) < n := by omega
      have hol : (l.drop (m + 1)).reverse.length ≤ 1048577 := by rw [List.length_reverse, List.length_drop]; have := HN.out; omega
      have HO : Hid ((l.drop (m + 1)).reverse ++ [(y, z)] = (l.drop m).reverse) := Lib.hid (by rw [drop_cons hy, List.reverse_cons])
      obtain ⟨out, ho⟩ : ∃ out, (l.drop (m + 1)).reverse = out := ⟨_, rfl⟩
      rw [ho] at hR hol HO
      have HRR := Lib.hid hR
      clear hR hy ho
      go_wp2_with (at_builtin; refine wpList_append_own_at _ rfl _ _ 25 rfl w.heap.size 41 i0 (.agg #[.int .i64 0, .int .i64 0]) 2 16 Try.underlying25 hi hz0 hz1 hz2 rfl (by decide) _ _ _ rfl (HRR.out.row.alloc _) ⟨wr.heap.size, 0, none⟩ 1 1 [.int .i64 y, .int .i64 z] rfl rfl (World.news_of_block (World.alloc_heap_new wr _)) (by simp [Value.oneCell']) (by unfold maxLen; omega) (by have := HRR.out.bel.size; omega) (by have := HRR.out.bel.size; simp; omega) ?_; intro v' A hown' hgrow _ _; have HA := Lib.hid (HRR.out.app y z _ hown' hgrow); clear hown' hgrow)
      go_roundw
      case rel => exact ⟨m, by go_num, by omega, by rw [← HO.out]; exact HA.out⟩
      case measure => simp [intOf] <;> omega
set_option maxRecDepth 100000 in
set_option maxHeartbeats 4000000 in
theorem refSame_any (a a' : Option Addr) (n n' c c' : Nat) (l : List (Int × Int)) (hl : l.length ≤ 1073741824) (w : World) (hs : PrsP w.heap.size w (.slice a n c) l) (hs' : PrsP w.heap.size w (.slice a' n' c') l) :
    Calls Try.prog 12 #[.slice a n c, .slice a' n' c'] w fun e w' => e = .returned (.bool true) ∧ Below w.heap.size w w' := by
  obtain rfl := hs.len
  obtain rfl := hs'.len
  have HS := Lib.hid hs
  have HS' := Lib.hid hs'
  obtain ⟨n, hn⟩ : ∃ n, l.length = n := ⟨_, rfl⟩
  have HN := Lib.hid hn
  rw [hn] at hl ⊢
  clear hs hs' hn
  go_enter Try.func12, Try.ntmps12
  go_wp2
  go_loopw [5] (fun i wr => ∃ m : Nat, i = .int .i64 m ∧ m ≤ n ∧ Below w.heap.size w wr) (fun i _ => n - (intOf i).toNat)
  case atStart => exact ⟨0, rfl, Nat.zero_le _, Below.refl _ _⟩
  case round =>
    obtain ⟨m, rfl, hm, hB⟩ := hrel
    have HB := Lib.hid hB
    by_cases hlt : m < n
    · obtain ⟨⟨y, z⟩, hy⟩ : ∃ y, l[m]? = some y := ⟨_, List.getElem?_eq_getElem (by rw [HN.out]; exact hlt)⟩
      obtain ⟨g, off, rfl, hg, f0, f1⟩ := HS.out.at_ hy
      obtain ⟨g', off', rfl, hg', f0', f1'⟩ := HS'.out.at_ hy
      have d0 := (hB.cell (p := ⟨g, off + m * 2, none⟩) hg).trans f0
      have d1 := (hB.cell (p := ⟨g, off + m * 2 + 1, none⟩) hg).trans f1
      have d2 := (hB.cell (p := ⟨g', off' + m * 2, none⟩) hg').trans f0'
      have d3 := (hB.cell (p := ⟨g', off' + m * 2 + 1, none⟩) hg').trans f1'
      simp only at d0 d1 d2 d3
      have b1 : (0 : Int) ≤ m := by omega
      have b2 : (m : Int) < n := by omega
      clear hB hy f0 f1 f0' f1'
      go_upto_region 6 with fail
      go_quiet (fail)
      have HB2 : Hid (Below w.heap.size w (wr.drewN nq)) := Lib.hid ⟨HB.out.os, HB.out.tape, HB.out.output, HB.out.size, HB.out.block⟩
      obtain ⟨wq, hq⟩ : ∃ wq, wr.drewN nq = wq := ⟨_, rfl⟩
      rw [hq] at HB2 ⊢
      clear hq d0 d1 d2 d3
      go_wp2
      go_roundw
      case rel => exact ⟨m + 1, by go_num, by omega, HB2.out⟩
      case measure => simp [intOf]; omega
    · obtain rfl : m = n := by omega
      clear hB
      go_wp2
      go_ret
      exact ⟨rfl, HB.out⟩

end Go.Proofs.Ytchnjafcnigllaa
