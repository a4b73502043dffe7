/- For the laws of the journal: a row whose bytes are turned one by one; Append in all its cases; what stays. -/
import Derived.Test.YtpllbojmonfeiaaJrnAl
import Derived.Test.YtpllbojmonfeiaaOpenJ
namespace Go.Proofs.Ytpllbojmonfeiaa
open Go.RowKit Go.Shelf SumM
set_option linter.unusedVariables false

/-- A row of bytes whose bytes are turned one by one. -/
structure IncJ (B0 : Nat) (v : Value) (n : Nat) (w0 wr : World) : Prop where
  row : ∃ xs : List Nat, (∀ x ∈ xs, x < 256) ∧ xs.length = n ∧ wr.ownsRow B0 5 1 v n (xs.map encY)
  but : But v.ownBlock.toList w0 wr
  size : wr.heap.size = w0.heap.size
theorem IncJ.start {B0 : Nat} {v : Value} {n : Nat} {w0 : World} {l : List Nat} (hb : ∀ x ∈ l, x < 256) (hl : l.length = n) (h : w0.ownsRow B0 5 1 v n (l.map encY)) : IncJ B0 v n w0 w0 := ⟨⟨l, hb, hl, h⟩, But.refl _ _, rfl⟩
theorem IncJ.step {B0 n c j : Nat} {a : Option Addr} {w0 wr : World} (h : IncJ B0 (.slice a n c) n w0 wr) (hj : j < n) :
    ∃ g x, a = some ⟨g, 0, none⟩ ∧ x < 256 ∧ wr.cell? ⟨g, j, none⟩ = some (.int .u8 (x : Nat)) ∧ wr.frozen? ⟨g, j, none⟩ = false ∧ ∀ y, y < 256 → IncJ B0 (.slice a n c) n w0 (wr.setCell ⟨g, j, none⟩ (.int .u8 (y : Nat))) := by
  obtain ⟨xs, hx, hl, hrow⟩ := h.row
  rcases hrow.2 with ⟨e0, h0⟩ | ⟨g, cap, cur, e0, _⟩
  · omega
  · simp only [Value.slice.injEq] at e0
    obtain ⟨rfl, _, rfl⟩ := e0
    obtain ⟨x, hxj⟩ : ∃ x, xs[j]? = some x := ⟨xs[j]'(by omega), List.getElem?_eq_getElem _⟩
    refine ⟨g, x, rfl, hx x (List.mem_of_getElem? hxj), ?_, hrow.frozenAt j, fun y hy => ?_⟩
    · rw [hrow.cellAt j (by omega), List.getElem?_map, hxj]; rfl
    · obtain ⟨h1, h2⟩ := hrow.stored j (.int .u8 (y : Nat))
      refine ⟨⟨xs.set j y, fun z hz => ?_, by rw [List.length_set]; exact hl, ?_⟩, h.but.set (by simp [Value.ownBlock]) _, by simp [World.setCell]; exact h.size⟩
      · rcases List.mem_or_eq_of_mem_set hz with h3 | rfl
        · exact hx z h3
        · exact hy
      · rw [List.map_set]; exact h1
theorem incr8J (x : Nat) : ∃ y : Nat, y < 256 ∧ IntKind.u8.wrap ((x : Int) + 1) = (y : Int) ∧ ((x : Int) + 1) % 256 = (y : Int) := by
  refine ⟨(x + 1) % 256, by omega, ?_, by omega⟩
  rw [IntKind.wrap_u8]
  try omega
/-- What Append answers, with power enough. -/
def AppAll (w W : World) (own : List Nat) (jb b : Nat) (D : DevS) (r a c f : Nat) (rec : List Nat) (e : Ending) (W' : World) : Prop :=
  ∃ er own' D' c' f', e = .returned (.int .i64 er) ∧ St w W' own' jb b D' r a c' f' ∧ But (jb :: own) W W' ∧ (∀ k ∈ own', k ∈ own ∨ W.heap.size ≤ k) ∧
    (if 4096 < rec.length then er = 2 ∧ D' = D ∧ c' = c ∧ f' = f else if D.cap < f + (rec.length + 7) then er = 6 ∧ D' = D ∧ c' = c ∧ f' = f else er = 0 ∧ c' = c + 1 ∧ f' = f + (rec.length + 7) ∧ AppOk D D' r rec)
theorem append_all {w W : World} {own : List Nat} {jb b : Nat} {D : DevS} {r a c f : Nat} (h : St w W own jb b D r a c f) (pa : Option Addr) (pc : Nat) (rec : List Nat) (hl : Bytes rec) (hS : Sl encY W.heap.size W (.slice pa rec.length pc) rec) (hp : rec.length + 7 ≤ D.left) :
    Calls Try.prog 20 #[.pointer (some ⟨jb, 0, none⟩), .slice pa rec.length pc] W (AppAll w W own jb b D r a c f rec) := by
  by_cases h4 : 4096 < rec.length
  · refine (append_long pa pc rec hl h4 W hS).mono ?_
    rintro e W' ⟨rfl, hb⟩
    exact ⟨2, own, D, c, f, rfl, h.below hb, But.of_below hb, fun k hk => .inl hk, by rw [if_pos h4]; exact ⟨rfl, rfl, rfl, rfl⟩⟩
  · by_cases hf : D.cap < f + (rec.length + 7)
    · refine (append_full h pa pc rec hl (by omega) hS hf).mono ?_
      rintro e W' ⟨rfl, own', h1, h2, h3⟩
      exact ⟨6, own', D, c, f, rfl, h1, h2, h3, by rw [if_neg h4, if_pos hf]; exact ⟨rfl, rfl, rfl, rfl⟩⟩
    · refine (append_st h pa pc rec hl (by omega) hS (by omega) hp).mono ?_
      rintro e W' ⟨rfl, own', D2, h1, h2, h3, h4'⟩
      exact ⟨0, own', D2, c + 1, f + (rec.length + 7), rfl, h1, h3, h4', by rw [if_neg h4, if_neg hf]; exact ⟨rfl, rfl, rfl, h2⟩⟩
/-- What a journal has lies between two marks. -/
theorem HasAt.keep {n : Nat} {W W' : World} {sv rv : Value} {S : List Nat} {rs : List (List Nat)} (h : HasAt n W sv rv S rs) (hz : W.heap.size ≤ W'.heap.size) (hk : ∀ k, n ≤ k → k < W.heap.size → W'.heap[k]? = W.heap[k]?) : HasAt n W' sv rv S rs := by
  obtain ⟨h1, ys, h2, h3, h4⟩ := h
  have own_k : ∀ {e s m : Nat} {v : Value} {xs : List Value}, W.ownsRow n e s v m xs → W'.ownsRow n e s v m xs := fun hr => by
    obtain ⟨g1, g2⟩ := hr
    refine ⟨g1, ?_⟩
    rcases g2 with g2 | ⟨g, cap, cur, hv, hg, hh, r⟩
    · exact .inl g2
    · exact .inr ⟨g, cap, cur, hv, hg, (hk g hg (Array.getElem?_eq_some_iff.1 hh).1).trans hh, r⟩
  exact ⟨own_k h1, ys, h2, own_k h3, fun y hy => by
    have := RyB.keep (n := n) (x := y) (h4 y hy) hz (fun k cs fr hk0 hkk => (hk k hk0 (Array.getElem?_eq_some_iff.1 hkk).1).trans hkk)
    exact this⟩
/-- What stays behind each step of law JournalFull. -/
def FulI (w : World) (jb b C : Nat) (wr : World) : Prop := ∃ own D c f, St w wr own jb b D 0 1 c f ∧ D.cap = C ∧ 9223372036854775807 ≤ D.left + f
end Go.Proofs.Ytpllbojmonfeiaa
