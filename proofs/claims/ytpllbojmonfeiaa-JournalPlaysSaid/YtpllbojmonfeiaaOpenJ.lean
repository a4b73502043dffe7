/- What comes in, opened: rows of steps of a journal; few steps. -/
import Derived.Test.YtpllbojmonfeiaaFrameJ
namespace Go.Proofs.Ytpllbojmonfeiaa
open Go.ChangeShapes Go.WideShapes Go.ChangeAt Go.RowKit
set_option linter.unusedVariables false

theorem cellsJ : Try.prog.cellsOf 43 = 2 := by kernel_rfl

theorem open_jops {H : Type} {enc : TypeId × Value → H} {W : World} {base : Nat} {held : Bool} {v : Value} {d : DataW H} {p : List MemPlace}
    (hv : ∃ a n c, v = .slice a n c) (h : DataW.Trod enc Try.prog W base (fun _ => true) held 40 v d p) : ∃ a n c, ∃ xs : List (Int × List Nat), v = .slice a n c ∧ Frs W.heap.size W (.slice a n c) xs ∧ (∀ x ∈ xs, ∀ y ∈ x.2, y < 256) ∧ xs.length ≤ Go.maxLen := by
  obtain ⟨fuel, hf⟩ := h
  obtain ⟨a', n', c', rfl⟩ := hv
  rcases Deep.open_slice_pairs Try.underlying40 Try.underlying43 cellsJ rfl rfl cellsI (by kernel_rfl) hf with ⟨hcs, _⟩ | ⟨a, len, cap, m, n, V0, V1, D0, D1, P0, P1, hcs, _, hl, hmax, hm, _, hx⟩
  · simp [Value.cells] at hcs
    obtain ⟨rfl, rfl, rfl⟩ := hcs
    exact ⟨_, _, _, [], rfl, .inl ⟨rfl, _, _, rfl⟩, (fun x hx => by cases hx), Nat.zero_le _⟩
  · simp [Value.cells] at hcs
    obtain ⟨rfl, rfl, rfl⟩ := hcs
    simp only [if_true] at hm
    by_cases h0 : n' = 0
    · subst h0
      exact ⟨_, _, _, [], rfl, .inl ⟨rfl, _, _, rfl⟩, (fun x hx => by cases hx), Nat.zero_le _⟩
    · obtain ⟨b, off, spot⟩ := a
      have hspot : spot = none := by
        have := (hx 0 (by omega)).1
        simpa [Addr.add] using World.cell?_spot this
      subst hspot
      have each : ∀ i, i < n' → ∃ x : Int × List Nat, (∃ a c, W.cell? ⟨b, off + i * 2, none⟩ = some (.int .i64 x.1) ∧ W.cell? ⟨b, off + i * 2 + 1, none⟩ = some (.slice a x.2.length c) ∧ Sl encY W.heap.size W (.slice a x.2.length c) x.2) ∧ ∀ y ∈ x.2, y < 256 := by
        intro i hi
        obtain ⟨e1, e2, r1, r2⟩ := hx i (by omega)
        obtain ⟨k, hk⟩ := open_int1 r1
        obtain ⟨a, n, c, l, hv, hS, hb⟩ := open_bytes1 r2
        rw [add_plain, hk] at e1
        rw [add_plain, hv] at e2
        obtain rfl := hS.len
        exact ⟨(k, l), ⟨a, c, e1, by rw [Nat.add_assoc]; exact e2, hS⟩, hb⟩
      obtain ⟨xs, hlen, hp⟩ := list_of_fun n' _ each
      refine ⟨_, _, _, xs, rfl, .inr ⟨b, off, c', by rw [hlen], block_lt_of_cell (a := ⟨b, off + 0 * 2, none⟩) (by have := (hx 0 (by omega)).1; rw [add_plain] at this; exact this), fun j x hj => (hp j x hj).1⟩, (fun x hx => ?_), by rw [hlen]; exact Nat.le_trans hl hmax⟩
      obtain ⟨j, hj⟩ := List.getElem?_of_mem hx
      exact (hp j x hj).2

/-- Where it says yes, they are few, of few bytes. -/
def JSmallTo (xs : List (Int × List Nat)) (w : World) (e : Ending) (w' : World) : Prop := ∃ b, e = .returned (.bool b) ∧ (b = true → xs.length ≤ 30 ∧ (xs.map fun x => x.2.length).sum ≤ 20000) ∧ Below w.heap.size w w'
theorem sum_take {l : List Nat} {k : Nat} {x : Nat} (h : l[k]? = some x) : (l.take (k + 1)).sum = (l.take k).sum + x := by
  rw [List.take_add_one, h]; simp
set_option maxRecDepth 100000 in
set_option maxHeartbeats 2000000 in
theorem jsmall_any (a : Option Addr) (c : Nat) (xs : List (Int × List Nat)) (hm : xs.length ≤ Go.maxLen) (w : World) (h : Frs w.heap.size w (.slice a xs.length c) xs) :
    Calls Try.prog 18 #[.slice a xs.length c] w (JSmallTo xs w) := by
  have HS := Lib.hid h
  obtain ⟨n, hn⟩ : ∃ n, xs.length = n := ⟨_, rfl⟩
  have HN := Lib.hid hn
  rw [hn] at HS hm ⊢
  have hmx : n ≤ 9223372036854775807 := by unfold Go.maxLen at hm; omega
  clear hn h hm
  go_enter Try.func18, Try.ntmps18
  go_wp2
  go_loopw [3, 8] (fun s i wr => ∃ k t : Nat, k ≤ n ∧ t ≤ 20000 ∧ i = .int .i64 k ∧ s = .int .i64 t ∧ ((xs.map fun x => x.2.length).take k).sum = t ∧ Below w.heap.size w wr) (fun _ i _ => n - (intOf i).toNat)
  case atStart => exact ⟨0, 0, Nat.zero_le _, by omega, rfl, rfl, rfl, Below.refl _ _⟩
  case round =>
    obtain ⟨k, t, hk, ht, rfl, rfl, hpre, hb⟩ := hrel
    by_cases hlt : k < n
    · obtain ⟨x, hx⟩ : ∃ x, xs[k]? = some x := ⟨xs[k]'(by rw [HN.out]; exact hlt), List.getElem?_eq_getElem _⟩
      obtain ⟨b, off, va, vc, rfl, hbw, e0, e1, eS⟩ := HS.out.at_ hx
      have c0 := (hb.cell (p := ⟨b, off + k * 2, none⟩) hbw).trans e0
      have c1 := (hb.cell (p := ⟨b, off + k * 2 + 1, none⟩) hbw).trans e1
      obtain ⟨q, hq⟩ : ∃ q, x.2.length = q := ⟨_, rfl⟩
      rw [hq] at c1
      have HX : Hid ((xs.map fun x => x.2.length)[k]? = some q) := Lib.hid (by rw [List.getElem?_map, hx, ← hq]; rfl)
      have HP := Lib.hid hpre
      have HB := Lib.hid hb
      clear hx hq hpre e0 e1 eS
      have hki : (k : Int) < n := by omega
      have hk0 : (0 : Int) ≤ k := by omega
      by_cases hbig : (20000 : Int) - (t : Int) < (q : Int)
      · go_wp2
        go_ret
        exact ⟨false, rfl, (fun h => by cases h), HB.out.alloc HB.out.size _⟩
      · go_wp2
        exact ⟨⟨k + 1, t + q, by omega, by omega, by go_num, by go_num, by rw [sum_take HX.out, HP.out], HB.out.alloc HB.out.size _⟩, by simp [intOf]; omega⟩
    · obtain rfl : k = n := by omega
      have hki : ¬ (k : Int) < k := by omega
      have HSUM : Hid ((xs.map fun x => x.2.length).sum = t) := Lib.hid (by rw [← hpre, List.take_of_length_le (by rw [List.length_map, HN.out]; exact Nat.le_refl _)])
      clear hpre
      go_wp2
      go_ret
      refine ⟨_, rfl, (fun h => ?_), hb⟩
      have h30 := of_decide_eq_true h
      exact ⟨by rw [HN.out]; omega, by rw [HSUM.out]; exact ht⟩
theorem sum_mem {l : List Nat} {x : Nat} (h : x ∈ l) : x ≤ l.sum := by
  induction l with
  | nil => cases h
  | cons y l ih =>
    rw [List.sum_cons]
    rcases List.mem_cons.1 h with rfl | h
    · omega
    · have := ih h; omega
end Go.Proofs.Ytpllbojmonfeiaa
