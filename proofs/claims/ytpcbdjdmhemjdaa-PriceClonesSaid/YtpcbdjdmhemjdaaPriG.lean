/- What is copied and put into rows of entries: laws of no program, then slices.Insert of one entry. -/
import Derived.Test.YtpcbdjdmhemjdaaPriF
import Derived.Lib.AppendZerosOnto
import Derived.Lib.Overlaps
import Derived.Lib.JoinLaws
namespace Go.Proofs.Ytpcbdjdmhemjdaa
open Go.RowKit
set_option linter.unusedVariables false
attribute [local go_sem] Oper.semAt_some

/-- copy into a row that is known, of elements of whatever size. -/
theorem run_copy_many {P : Program} (w : World) (dT sT ty elem : TypeId) (i : TypeInfo) (g o dLen dCap : Nat) (a : Addr) (sLen sCap : Nat) (cur : Array Value) (t : TypeId) (cs : List Value)
    (hu : P.underlying dT = some (.slice elem)) (hi : P.info? elem = some i)
    (hg : w.heap[g]? = some (.cells cur t (0, 0))) (hn : cs.length = Nat.min sLen dLen * i.size)
    (hsrc : ∀ j v, cs[j]? = some v → w.cell? (a.add j) = some v) (hfit : o + cs.length ≤ cur.size) (h1 : ∀ v ∈ cs, v.oneCell' = true) :
    (Builtin.copy_ #[dT, sT] ty #[.slice (some ⟨g, o, none⟩) dLen dCap, .slice (some a) sLen sCap]).run P w =
      .ok (goInt (Nat.min sLen dLen)) (w.setRow g (cur.toList.take o ++ cs ++ cur.toList.drop (o + cs.length)).toArray) := by
  have hl := run_loadCells_list (P := P) w a cs hsrc
  have hst := run_storeCells_at P g o t cs 0 cur w hg (by simpa using hfit) h1
  simp [Builtin.copy_, run_underlying hu, Builtin.lenOf, Builtin.firstCells, sizeOf, typeInfo, hi, ← hn, hl, hst]
/-- The cells of a row behind a copy. -/
def over (xs : List Value) (o : Nat) (cs : List Value) : List Value := xs.take o ++ (cs ++ xs.drop (o + cs.length))
theorem over_len {xs : List Value} {o : Nat} {cs : List Value} (h : o + cs.length ≤ xs.length) : (over xs o cs).length = xs.length := by unfold over; simp; omega
/-- .. in a row that is owned. -/
theorem run_copy_owned {P : Program} (w : World) (dT sT ty elem : TypeId) (i : TypeInfo) (size base g n cap o dLen dCap : Nat) (a : Addr) (sLen sCap : Nat) (xs cs : List Value)
    (hu : P.underlying dT = some (.slice elem)) (hi : P.info? elem = some i) (hs : i.size = size)
    (hown : w.ownsRow base elem size (.slice (some ⟨g, 0, none⟩) n cap) n xs) (hn : cs.length = Nat.min sLen dLen * size)
    (hsrc : ∀ j v, cs[j]? = some v → w.cell? (a.add j) = some v) (hfit : o + cs.length ≤ n * size) (h1 : ∀ v ∈ cs, v.oneCell' = true) :
    ∃ w', (Builtin.copy_ #[dT, sT] ty #[.slice (some ⟨g, o, none⟩) dLen dCap, .slice (some a) sLen sCap]).run P w = .ok (goInt (Nat.min sLen dLen)) w' ∧
      w'.ownsRow base elem size (.slice (some ⟨g, 0, none⟩) n cap) n (over xs o cs) ∧ w.grownBy w' (some g) := by
  subst hs
  obtain ⟨cur, hg, hb, hnc, hm, hcs, ht⟩ := own_cells hown
  have hle : n * i.size ≤ cap * i.size := Nat.mul_le_mul_right _ hnc
  refine ⟨_, run_copy_many w dT sT ty elem i g o dLen dCap a sLen sCap cur elem cs hu hi hg hn hsrc (by omega) h1, ⟨?_, .inr ⟨g, cap, _, rfl, hb, setRow_heap w g cur _ elem _ hg, hnc, hm, ?_, ?_⟩⟩, ⟨rfl, rfl, rfl, by simp [World.setRow], fun k _ hk => setRow_other w g k _ (fun e => hk (by simp [e]))⟩⟩
  · rw [over_len (by rw [hown.1]; exact hfit), hown.1]
  · simp; omega
  · unfold over
    rw [← ht]
    apply List.ext_getElem?
    intro k
    simp only [List.getElem?_take, List.getElem?_append, List.getElem?_drop, List.length_take, List.length_append, Array.length_toList]
    by_cases h1 : k < n * i.size
    · simp only [h1, if_true]
      have e1 : min o (cur.size) = o := by omega
      have e2 : min o (min (n * i.size) cur.size) = o := by omega
      simp only [e1, e2]
      by_cases h2 : k < o
      · have h3 : k < o + cs.length := by omega
        simp [h2, h3, h1]
      · by_cases h3 : k < o + cs.length
        · have h4 : k - o < cs.length := by omega
          simp [h2, h3, h4]
        · have h4 : ¬ k - o < cs.length := by omega
          have e3 : o + cs.length + (k - (o + cs.length)) = k := by omega
          have e4 : o + cs.length + (k - o - cs.length) = k := by omega
          simp [h2, h3, h4, e3, e4, h1]
    · have h2 : ¬ k < o := by omega
      have h3 : ¬ k - o < cs.length := by omega
      have e2 : min o (min (n * i.size) cur.size) = o := by omega
      simp [h1, h2, h3, e2]
      intro h5
      omega
/-- The operation copy for the walk, where its run is known by an equation. -/
theorem wpList_copy_run {P : Program} (w : World) {ops : Array Oper} {rest : List Oper} {o : Oper} {a : Act} {Q : Exit → Act → World → Prop} (hgd : o.guard = none) (d s : Operand) (t t' : TypeId)
    (ho : o.op = .call { callee := .builtin .copy, args := #[d, s], argTypes := #[t, t'] }) (v u : Value) (hd : a.eval d = v) (hs : a.eval s = u) {v' : Value} {w' : World}
    (hr : (Builtin.copy_ #[t, t'] o.type #[v, u]).run P w = .ok v' w') (h : wpList P ops Q rest (a.put o.dst v') w') : wpList P ops Q (o :: rest) a w := by
  refine wpList_plain hgd fun K hK => ?_
  unfold Oper.wp execOp
  simp only [ho, resolve, invoke, builtin, Sem.run_bind, Sem.run_pure, Result.andThen_ok, List.map_toArray, List.map_cons, List.map_nil, hd, hs, hr]
  exact hK _ _ h
theorem wpList_append_runP {P : Program} (w : World) {ops : Array Oper} {rest : List Oper} {o : Oper} {a : Act} {Q : Exit → Act → World → Prop} (hgd : o.guard = none) (d s : Operand) (t t' : TypeId)
    (ho : o.op = .call { callee := .builtin .append, args := #[d, s], argTypes := #[t, t'] }) (v u : Value) (hd : a.eval d = v) (hs : a.eval s = u) {v' : Value} {w' : World}
    (hr : (Builtin.append_ #[t, t'] o.type #[v, u]).run P w = .ok v' w') (h : wpList P ops Q rest (a.put o.dst v') w') : wpList P ops Q (o :: rest) a w := by
  refine wpList_plain hgd fun K hK => ?_
  unfold Oper.wp execOp
  simp only [ho, resolve, invoke, builtin, Sem.run_bind, Sem.run_pure, Result.andThen_ok, List.map_toArray, List.map_cons, List.map_nil, hd, hs, hr]
  exact hK _ _ h
theorem step_copy_run {P : Program} {ops : Array Oper} {o : Oper} {a : Act} {w : World} {K : Act → World → Prop} {Q : Exit → Act → World → Prop} {E : Prop}
    (hg : o.guard = none) (d x : Operand) (dT sT : TypeId) (hop : o.op = Op.call { callee := Callee.builtin Builtin.copy, args := #[d, x], argTypes := #[dT, sT] })
    (v u : Value) (hd : a.eval d = v) (hx : a.eval x = u) {v' : Value} {w' : World} (hr : (Builtin.copy_ #[dT, sT] o.type #[v, u]).run P w = .ok v' w') (hK : K (a.put o.dst v') w') :
    if Region.wanted o (yielded ops a.tmps) = true then Oper.wp P o a w K Q else E := by
  have hw : Region.wanted o (yielded ops a.tmps) = true := by simp [Region.wanted, hg]
  rw [if_pos hw]
  unfold Oper.wp
  simp [execOp, hop, resolve, invoke, builtin, hd, hx, hr, Result.andThen]
  exact hK
/-- A row of which one more place is taken. -/
theorem own_more {w : World} {base e size g n cap m : Nat} {xs : List Value} (h : w.ownsRow base e size (.slice (some ⟨g, 0, none⟩) n cap) n xs) (hm : n + m ≤ cap) : ∃ ys, ys.length = m * size ∧ w.ownsRow base e size (.slice (some ⟨g, 0, none⟩) (n + m) cap) (n + m) (xs ++ ys) := by
  obtain ⟨cur, hg, hb, hnc, hcm, hcs, ht⟩ := own_cells h
  have hle : (n + m) * size ≤ cap * size := Nat.mul_le_mul_right _ hm
  have he : (n + m) * size = n * size + m * size := Nat.add_mul _ _ _
  have hy : ((cur.toList.drop (n * size)).take (m * size)).length = m * size := by simp; omega
  refine ⟨(cur.toList.drop (n * size)).take (m * size), hy, ⟨by rw [List.length_append, h.1, hy, he], .inr ⟨g, cap, cur, rfl, hb, hg, hm, hcm, hcs, ?_⟩⟩⟩
  rw [he, List.take_add, ht]
/-- What stands behind both copies. -/
theorem over_up {Z : List Value} {L : List Ent} {e : Ent} {p : Nat} (hp : p ≤ L.length) (hZ : Z.length = (L.length + 1) * 2) (hh : Z.take (p * 2) = flatVE (L.take p)) :
    over (over Z ((p + 1) * 2) (flatVE (L.drop p))) (p * 2) [.int .u64 (e.1 : Nat), .int .i64 e.2] = flatVE (L.take p ++ e :: L.drop p) ∧
    over (over Z (p * 2) [.int .u64 (e.1 : Nat), .int .i64 e.2]) ((p + 1) * 2) (flatVE (L.drop p)) = flatVE (L.take p ++ e :: L.drop p) := by
  have hd : (flatVE (L.drop p)).length = (L.length - p) * 2 := by rw [flatVE_len, List.length_drop]
  have hr : flatVE (L.take p ++ e :: L.drop p) = Z.take (p * 2) ++ ([.int .u64 (e.1 : Nat), .int .i64 e.2] ++ flatVE (L.drop p)) := by rw [flatVE_append, flatVE_cons, hh]; rfl
  rw [hr]
  unfold over
  constructor
  · rw [List.take_append_of_le_length (by simp; omega), List.take_take, show min (p * 2) ((p + 1) * 2) = p * 2 from by omega]
    congr 2
    rw [List.drop_append, show (Z.take ((p + 1) * 2)).drop (p * 2 + [Value.int .u64 (e.1 : Nat), .int .i64 e.2].length) = [] from List.drop_eq_nil_of_le (by simp; omega)]
    rw [show p * 2 + [Value.int .u64 (e.1 : Nat), .int .i64 e.2].length - (Z.take ((p + 1) * 2)).length = 0 from by simp; omega]
    rw [List.drop_zero, List.nil_append, show Z.drop ((p + 1) * 2 + (flatVE (L.drop p)).length) = [] from List.drop_eq_nil_of_le (by rw [hd]; omega), List.append_nil]
  · have hl : (Z.take (p * 2)).length = p * 2 := by simp; omega
    rw [show (Z.take (p * 2) ++ ([Value.int .u64 (e.1 : Nat), .int .i64 e.2] ++ Z.drop (p * 2 + [Value.int .u64 (e.1 : Nat), .int .i64 e.2].length))).take ((p + 1) * 2) = Z.take (p * 2) ++ [Value.int .u64 (e.1 : Nat), .int .i64 e.2] from by
      rw [← List.append_assoc, List.take_append_of_le_length (by simp; omega), List.take_of_length_le (by simp; omega)]]
    rw [List.append_assoc]
    congr 2
    rw [show (Z.take (p * 2) ++ ([Value.int .u64 (e.1 : Nat), .int .i64 e.2] ++ Z.drop (p * 2 + [Value.int .u64 (e.1 : Nat), .int .i64 e.2].length))).drop ((p + 1) * 2 + (flatVE (L.drop p)).length) = [] from List.drop_eq_nil_of_le (by rw [hd]; simp; omega), List.append_nil]
end Go.Proofs.Ytpcbdjdmhemjdaa
