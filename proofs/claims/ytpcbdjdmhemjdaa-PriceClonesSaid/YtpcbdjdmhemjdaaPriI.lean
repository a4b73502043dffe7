/- price's raise: an entry is put into a row that is owned. -/
import Derived.Test.YtpcbdjdmhemjdaaPriH
namespace Go.Proofs.Ytpcbdjdmhemjdaa
open Go.RowKit
set_option linter.unusedVariables false
attribute [local go_sem] Oper.semAt_some

theorem insert_any (base n Bv p : Nat) (rv : Value) (e : Ent) (L : List Ent) (w : World) (hL : L.length = n) (hlen : n ≤ 1048576) (hp : p ≤ n) (hbase : base ≤ w.heap.size) (hBv : w.heap[Bv]? = some (.cells #[.int .u64 (e.1 : Nat), .int .i64 e.2] 41)) (hne : rv.ownBlock ≠ some Bv)
    (hrow : w.ownsRow base 41 2 rv n (flatVE L)) :
    Calls Try.prog 47 #[rv, .int .i64 p, .slice (some ⟨Bv, 0, none⟩) 1 1] w fun o w' => InsTo base n rv L e p w o w' := by
  rcases Nat.lt_or_ge p n with hlt | hge
  · rcases hrow.2 with ⟨_, h0⟩ | ⟨g, cap, cur, rfl, _⟩
    · omega
    · by_cases hroom : n + 1 ≤ cap
      · exact ins_room base n Bv p g cap e L w hL hlen hlt hroom hbase hBv (fun h => hne (by rw [h]; rfl)) hrow
      · exact ins_grow base n Bv p g cap e L w hL hlen hlt hroom hbase hBv hrow
  · obtain rfl : p = n := by omega
    exact ins_end base p Bv rv e L w hL hlen hbase hBv hrow
set_option maxRecDepth 100000 in
set_option maxHeartbeats 1000000 in
theorem delete_empty (Be c : Nat) (a : Option Addr) (e : Ent) (w : World) (he : okS e.1) (k0 : w.cell? ⟨Be, 0, none⟩ = some (.int .u64 (e.1 : Nat))) (k1 : w.cell? ⟨Be, 1, none⟩ = some (.int .i64 e.2)) (hBe : Be < w.heap.size) :
    Calls Try.prog 45 #[.slice a 0 c, .func (.func 46) #[] #[.pointer (some ⟨Be, 0, none⟩)]] w fun o w' => o = .returned (.slice a 0 c) ∧ Below w.heap.size w w' := by
  have HI := Lib.hid (index_any a 0 c Be e [] w he (fun x hx => nomatch hx) (by decide) k0 k1 hBe (.inl ⟨rfl, a, c, rfl⟩))
  clear k0 k1
  go_enter Try.func45, Try.ntmps45
  go_wp2_with fail
  refine HI.out.mono ?_
  rintro o w1 ⟨r, rfl, hf, hb⟩
  obtain rfl : r = -1 := by
    rcases hf with ⟨h, _⟩ | ⟨j, x, _, h, _⟩
    · exact h
    · simp at h
  have HB := Lib.hid hb
  clear hb hf
  go_wp2_with fail
  go_ret
  exact ⟨rfl, HB.out⟩
theorem grown_from {w W W' : World} {row : Option Nat} (hb : Below w.heap.size w W) (hg : W.grownBy W' row) : w.grownBy W' row :=
  ⟨hg.os.trans hb.os, hg.tape.trans hb.tape, hg.output.trans hb.output, Nat.le_trans hb.size hg.size, fun j hj hn => (hg.block j (Nat.lt_of_lt_of_le hj hb.size) hn).trans (hb.block j hj)⟩
theorem grown_from_but {w W W' : World} {g : Nat} (hb : But [g] w W) (hg : W.grownBy W' (some g)) : w.grownBy W' (some g) :=
  ⟨hg.os.trans hb.os, hg.tape.trans hb.tape, hg.output.trans hb.output, Nat.le_trans hb.size hg.size, fun j hj hn => (hg.block j (Nat.lt_of_lt_of_le hj hb.size) hn).trans (hb.block j hj (by simpa using hn))⟩
/-- What raise says. -/
def RaiTo (base : Nat) (rv : Value) (es : List Ent) (e : Ent) (w : World) (o : Ending) (w' : World) : Prop :=
  ∃ v', o = .returned v' ∧ w'.ownsRow base 41 2 v' (putE ltS withinB 2199023255552 es e).length (flatVE (putE ltS withinB 2199023255552 es e)) ∧ w.grownBy w' rv.ownBlock
theorem raise_math {es : List Ent} {e : Ent} {p m : Nat} (ht : Tie es) (hs : okS e.1) (hp : IsPl ltS es e.1 p) (hr : rises withinB 2199023255552 es e = true) (hm : m = (dropE withinB e (es.drop p)).length) :
    (es.take p ++ dropE withinB e (es.drop p)).length = p + m ∧ (es.take p ++ dropE withinB e (es.drop p)).take p ++ e :: (es.take p ++ dropE withinB e (es.drop p)).drop p = putE ltS withinB 2199023255552 es e ∧ (putE ltS withinB 2199023255552 es e).length = p + m + 1 := by
  have hle := hp.le
  have h1 : (es.take p).length = p := by rw [List.length_take]; omega
  have h2 : (es.take p ++ dropE withinB e (es.drop p)).take p ++ e :: (es.take p ++ dropE withinB e (es.drop p)).drop p = putE ltS withinB 2199023255552 es e := by
    rw [List.take_append_of_le_length (by omega), List.take_of_length_le (by omega), List.drop_append_of_le_length (by omega), List.drop_eq_nil_of_le (by omega), List.nil_append]
    exact raise_eq sOrd ht hs hp hr
  refine ⟨by rw [List.length_append, h1, hm], h2, ?_⟩
  rw [← h2, List.take_append_of_le_length (by omega), List.drop_append_of_le_length (by omega), List.drop_eq_nil_of_le (by omega : (es.take p).length ≤ p), List.nil_append, List.take_of_length_le (by omega : (es.take p).length ≤ p), List.length_append, List.length_cons, h1, hm]
  omega
end Go.Proofs.Ytpcbdjdmhemjdaa
