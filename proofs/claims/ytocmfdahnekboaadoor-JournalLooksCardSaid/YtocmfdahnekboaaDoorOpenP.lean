/- What comes in, opened: bytes, rows of bytes; and that it reads behind the call as it did. -/
import Derived.Test.YtocmfdahnekboaaDoorBytes
import Derived.Deep.Matrix
import Derived.Carry
import Derived.ChangeSlices
import Derived.ProofKit
import Derived.OpenShut
namespace Go.Proofs.YtocmfdahnekboaaDoor
open Go.ChangeShapes Go.WideShapes Go.ChangeAt Go.RowKit

theorem own : ownKnob Tryd.prog.godebug = none := by kernel_rfl
theorem laidOut : laidOutB Tryd.prog = true := by kernel_rfl
theorem cells8 : Tryd.prog.cellsOf 5 = 1 := by kernel_rfl

/-- All arguments read behind the call as they did. -/
theorem trodAll_below {H : Type} {enc : TypeId × Value → H} {W W' : World} (hb : Below W.heap.size W W') : ∀ (ts : List TypeId) (vs : List Value) (ds : List (DataW H)) (ps : List MemPlace),
    (∀ t ∈ ts, Tryd.prog.readableRec t = true ∧ t < Tryd.prog.types.size) → DataW.TrodAll enc Tryd.prog W 0 (fun _ => true) true ts vs ds ps → (∀ x ∈ ps, x.block < W.heap.size) →
    DataW.TrodAll enc Tryd.prog W' 0 (fun b => decide (b < W.heap.size)) true ts vs ds ps
  | [], vs, ds, ps, _, h, _ => by
    obtain ⟨rfl, rfl, rfl⟩ := trodAll_nil h
    exact trodAll_mk0
  | t :: ts, vs, ds, ps, hr, h, hlt => by
    obtain ⟨v, vs', d, ds', p, q, rfl, rfl, rfl, h1, h2⟩ := trodAll_cons h
    exact trodAll_cons_mk (Below.trod laidOut (hr t (by simp)).1 (hr t (by simp)).2 h1 hb (fun x hx => hlt x (by simp [hx]))) (trodAll_below hb ts vs' ds' q (fun t ht => hr t (by simp [ht])) h2 (fun x hx => hlt x (by simp [hx])))

theorem u8_nat {zs : List Int} (h : ∀ n ∈ zs, (Lit.int .u8 n).wf = true) : ∃ l : List Nat, zs = l.map Int.ofNat ∧ ∀ x ∈ l, x < 256 := by
  refine ⟨zs.map Int.toNat, ?_, ?_⟩
  · rw [List.map_map]
    conv => lhs; rw [← List.map_id zs]
    apply List.map_congr_left
    intro x hx
    have := bounds_u8 (h x hx)
    simp; omega
  · intro x hx
    obtain ⟨y, hy, rfl⟩ := List.mem_map.1 hx
    have := bounds_u8 (h y hy)
    omega

/-- A row of numbers' cells as a list of bytes. -/
theorem sl_of_ints {W : World} {a : Addr} {len cap : Nat} {zs : List Int} (hl : len ≤ cap) (hz : zs.length = cap) (hcell : ∀ i, i < zs.length → W.cell? (a.add i) = some (.int .u8 (zs.getD i 0))) (hwz : ∀ n ∈ zs, (Lit.int .u8 n).wf = true) :
    ∃ l : List Nat, Sl encY W.heap.size W (.slice (some a) len cap) l ∧ ∀ x ∈ l, x < 256 := by
  obtain ⟨l, rfl, hlb⟩ := u8_nat hwz
  rw [List.length_map] at hz
  by_cases h0 : len = 0
  · subst h0
    exact ⟨[], .inl ⟨rfl, some a, cap, rfl, fun h => by cases h⟩, fun x hx => by cases hx⟩
  · obtain ⟨b, off, rfl, hc⟩ := ints_at hcell (by simp; omega)
    have hlen : (l.take len).length = len := by simp; omega
    refine ⟨l.take len, .inr ⟨b, off, cap, by rw [hlen], ?_, by rw [hlen]; exact hl, fun j x hj => ?_⟩, fun x hx => hlb x (List.mem_of_mem_take hx)⟩
    · exact block_lt_of_cell (a := ⟨b, off + 0, none⟩) (hc 0 (by simp; omega))
    · rw [List.getElem?_take] at hj
      split at hj
      · rw [hc j (by simp; omega)]
        have : (l.map Int.ofNat).getD j 0 = (x : Int) := by simp [List.getD, hj]
        rw [this]; rfl
      · cases hj

theorem open_bytes {H : Type} {enc : TypeId × Value → H} {W : World} {base : Nat} {held : Bool} {v : Value} {d : DataW H} {p : List MemPlace}
    (hv : ∃ a n c, v = .slice a n c) (h : DataW.Trod enc Tryd.prog W base (fun _ => true) held 22 v d p) : ∃ a n c, ∃ l : List Nat, v = .slice a n c ∧ Sl encY W.heap.size W (.slice a n c) l ∧ ∀ x ∈ l, x < 256 := by
  obtain ⟨fuel, hf⟩ := h
  obtain ⟨a', n', c', rfl⟩ := hv
  rcases open_ints Tryd.underlying22 Tryd.underlying5 cells8 hf with ⟨hcs, _⟩ | ⟨a, len, cap, zs, hcs, _, hl, _, hz, _, hcell, hwz⟩
  · simp [Value.cells] at hcs
    obtain ⟨rfl, rfl, rfl⟩ := hcs
    exact ⟨_, _, _, [], rfl, Sl.nil _ _ _, fun x hx => by cases hx⟩
  · simp [Value.cells] at hcs
    obtain ⟨rfl, rfl, rfl⟩ := hcs
    simp only [if_true] at hz
    obtain ⟨l, h1, h2⟩ := sl_of_ints hl hz hcell hwz
    exact ⟨_, _, _, l, rfl, h1, h2⟩
end Go.Proofs.YtocmfdahnekboaaDoor

/- What comes in, opened: rows of bytes. -/
namespace Go.Proofs.YtocmfdahnekboaaDoor
open Go.ChangeShapes Go.WideShapes Go.ChangeAt Go.RowKit

theorem cellsB : Tryd.prog.cellsOf 22 = 1 := by kernel_rfl
theorem list_of_fun {α : Type} (n : Nat) (P : Nat → α → Prop) (h : ∀ i, i < n → ∃ x, P i x) : ∃ l : List α, l.length = n ∧ ∀ j x, l[j]? = some x → P j x := by
  induction n with
  | zero => exact ⟨[], rfl, fun j x hj => by simp at hj⟩
  | succ n ih =>
    obtain ⟨l, hl, hp⟩ := ih (fun i hi => h i (by omega))
    obtain ⟨x, hx⟩ := h n (by omega)
    refine ⟨l ++ [x], by simp [hl], fun j y hj => ?_⟩
    by_cases hjn : j < n
    · rw [List.getElem?_append_left (by omega)] at hj
      exact hp j y hj
    · have hlt := (List.getElem?_eq_some_iff.1 hj).1
      simp [hl] at hlt
      obtain rfl : j = n := by omega
      rw [List.getElem?_append_right (by omega), hl, Nat.sub_self] at hj
      cases hj
      exact hx

theorem open_parts {H : Type} {enc : TypeId × Value → H} {W : World} {base : Nat} {held : Bool} {v : Value} {d : DataW H} {p : List MemPlace}
    (hv : ∃ a n c, v = .slice a n c) (h : DataW.Trod enc Tryd.prog W base (fun _ => true) held 118 v d p) : ∃ a n c, ∃ ls : List (List Nat), v = .slice a n c ∧ Parts W.heap.size W (.slice a n c) ls ∧ ∀ l ∈ ls, ∀ x ∈ l, x < 256 := by
  obtain ⟨fuel, hf⟩ := h
  obtain ⟨a', n', c', rfl⟩ := hv
  rcases Deep.open_int_rows Tryd.underlying118 Tryd.underlying22 Tryd.underlying5 cellsB cells8 hf with ⟨hcs, _⟩ | ⟨a, len, cap, A, L, C, Z, hcs, _, hl, hm, _, hx⟩
  · simp [Value.cells] at hcs
    obtain ⟨rfl, rfl, rfl⟩ := hcs
    exact ⟨_, _, _, [], rfl, Parts.nil _ _, fun x hx => by cases hx⟩
  · simp [Value.cells] at hcs
    obtain ⟨rfl, rfl, rfl⟩ := hcs
    by_cases h0 : n' = 0
    · subst h0
      exact ⟨_, _, _, [], rfl, .inl ⟨rfl, _, _, rfl⟩, fun x hx => by cases hx⟩
    · obtain ⟨b, off, spot⟩ := a
      have hspot : spot = none := by simpa [Addr.add] using World.cell?_spot (hx 0 (by omega)).1
      subst hspot
      have each : ∀ i, i < n' → ∃ l : List Nat, (∃ v, W.cell? ⟨b, off + i, none⟩ = some v ∧ Sl encY W.heap.size W v l) ∧ ∀ x ∈ l, x < 256 := by
        intro i hi
        obtain ⟨e1, r1, r2, r3, r4, r5, r6⟩ := hx i (by omega)
        have e1' : W.cell? ⟨b, off + i, none⟩ = some (.slice (A i) (L i) (C i)) := by rw [← add_plain]; exact e1
        cases hA : A i with
        | none =>
          have hC := r5 hA
          have hL : L i = 0 := by omega
          rw [hA, hC, hL] at e1'
          exact ⟨[], ⟨_, e1', Sl.nil _ _ _⟩, fun x hx => by cases hx⟩
        | some a' =>
          obtain ⟨_, hc⟩ := r6 a' hA
          rw [hA] at e1'
          obtain ⟨l, h1, h2⟩ := sl_of_ints r1 r3 (by rw [r3]; exact hc) r4
          exact ⟨l, ⟨_, e1', h1⟩, h2⟩
      obtain ⟨ls, hlen, hp⟩ := list_of_fun n' _ each
      refine ⟨_, _, _, ls, rfl, .inr ⟨b, off, c', by rw [hlen], block_lt_of_cell (a := ⟨b, off + 0, none⟩) (by rw [← add_plain]; exact (hx 0 (by omega)).1), fun j l hj => (hp j l hj).1⟩, fun l hl => ?_⟩
      obtain ⟨j, hj⟩ := List.getElem?_of_mem hl
      exact (hp j l hj).2
end Go.Proofs.YtocmfdahnekboaaDoor
