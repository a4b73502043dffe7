/- What comes in, opened: bytes, rows of bytes; and that it reads behind the call as it did. -/
import Derived.Test.YtpllbojmonfeiaaBytes
import Derived.Deep.Matrix
import Derived.Carry
import Derived.ChangeSlices
import Derived.ProofKit
import Derived.OpenShut
namespace Go.Proofs.Ytpllbojmonfeiaa
open Go.ChangeShapes Go.WideShapes Go.ChangeAt Go.RowKit

theorem own : ownKnob Try.prog.godebug = none := by kernel_rfl
theorem laidOut : laidOutB Try.prog = true := by kernel_rfl
theorem cells8 : Try.prog.cellsOf 5 = 1 := by kernel_rfl

/-- All arguments read behind the call as they did. -/
theorem trodAll_below {H : Type} {enc : TypeId × Value → H} {W W' : World} (hb : Below W.heap.size W W') : ∀ (ts : List TypeId) (vs : List Value) (ds : List (DataW H)) (ps : List MemPlace),
    (∀ t ∈ ts, Try.prog.readableRec t = true ∧ t < Try.prog.types.size) → DataW.TrodAll enc Try.prog W 0 (fun _ => true) true ts vs ds ps → (∀ x ∈ ps, x.block < W.heap.size) →
    DataW.TrodAll enc Try.prog W' 0 (fun b => decide (b < W.heap.size)) true ts vs ds ps
  | [], vs, ds, ps, _, h, _ => by
    obtain ⟨rfl, rfl, rfl⟩ := trodAll_nil h
    exact trodAll_mk0
  | t :: ts, vs, ds, ps, hr, h, hlt => by
    obtain ⟨v, vs', d, ds', p, q, rfl, rfl, rfl, h1, h2⟩ := trodAll_cons h
    exact trodAll_cons_mk (Below.trod laidOut (hr t (by simp)).1 (hr t (by simp)).2 h1 hb (fun x hx => hlt x (by simp [hx]))) (trodAll_below hb ts vs' ds' q (fun t ht => hr t (by simp [ht])) h2 (fun x hx => hlt x (by simp [hx])))

theorem u8_nat {zs : List Int} (h : ∀ n ∈ zs, (Lit.int .u8 n).wf = true) : ∃ l : List Nat, zs = l.map Int.ofNat ∧ ∀ x ∈ l, x < 256 := by
  refine ⟨zs.map Int.toNat, ?_, ?_⟩
  · rw [List.map_map]
    conv => lhs; rw [← List.map_id zs]
    apply List.map_congr_left
    intro x hx
    have := bounds_u8 (h x hx)
    simp; omega
  · intro x hx
    obtain ⟨y, hy, rfl⟩ := List.mem_map.1 hx
    have := bounds_u8 (h y hy)
    omega

/-- A row of numbers' cells as a list of bytes. -/
theorem sl_of_ints {W : World} {a : Addr} {len cap : Nat} {zs : List Int} (hl : len ≤ cap) (hz : zs.length = cap) (hcell : ∀ i, i < zs.length → W.cell? (a.add i) = some (.int .u8 (zs.getD i 0))) (hwz : ∀ n ∈ zs, (Lit.int .u8 n).wf = true) :
    ∃ l : List Nat, Sl encY W.heap.size W (.slice (some a) len cap) l ∧ ∀ x ∈ l, x < 256 := by
  obtain ⟨l, rfl, hlb⟩ := u8_nat hwz
  rw [List.length_map] at hz
  by_cases h0 : len = 0
  · subst h0
    exact ⟨[], .inl ⟨rfl, some a, cap, rfl, fun h => by cases h⟩, fun x hx => by cases hx⟩
  · obtain ⟨b, off, rfl, hc⟩ := ints_at hcell (by simp; omega)
    have hlen : (l.take len).length = len := by simp; omega
    refine ⟨l.take len, .inr ⟨b, off, cap, by rw [hlen], ?_, by rw [hlen]; exact hl, fun j x hj => ?_⟩, fun x hx => hlb x (List.mem_of_mem_take hx)⟩
    · exact block_lt_of_cell (a := ⟨b, off + 0, none⟩) (hc 0 (by simp; omega))
    · rw [List.getElem?_take] at hj
      split at hj
      · rw [hc j (by simp; omega)]
        have : (l.map Int.ofNat).getD j 0 = (x : Int) := by simp [List.getD, hj]
        rw [this]; rfl
      · cases hj

theorem open_bytes {H : Type} {enc : TypeId × Value → H} {W : World} {base : Nat} {held : Bool} {v : Value} {d : DataW H} {p : List MemPlace}
    (hv : ∃ a n c, v = .slice a n c) (h : DataW.Trod enc Try.prog W base (fun _ => true) held 22 v d p) : ∃ a n c, ∃ l : List Nat, v = .slice a n c ∧ Sl encY W.heap.size W (.slice a n c) l ∧ ∀ x ∈ l, x < 256 := by
  obtain ⟨fuel, hf⟩ := h
  obtain ⟨a', n', c', rfl⟩ := hv
  rcases open_ints Try.underlying22 Try.underlying5 cells8 hf with ⟨hcs, _⟩ | ⟨a, len, cap, zs, hcs, _, hl, _, hz, _, hcell, hwz⟩
  · simp [Value.cells] at hcs
    obtain ⟨rfl, rfl, rfl⟩ := hcs
    exact ⟨_, _, _, [], rfl, Sl.nil _ _ _, fun x hx => by cases hx⟩
  · simp [Value.cells] at hcs
    obtain ⟨rfl, rfl, rfl⟩ := hcs
    simp only [if_true] at hz
    obtain ⟨l, h1, h2⟩ := sl_of_ints hl hz hcell hwz
    exact ⟨_, _, _, l, rfl, h1, h2⟩
end Go.Proofs.Ytpllbojmonfeiaa
