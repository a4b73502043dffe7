/- Small facts that the laws of layer 6 share. -/
import Derived.Test.YtocmfdahnekboaaDoorFrameAl
import Derived.Test.YtocmfdahnekboaaDoorRefF
import Derived.Test.YtocmfdahnekboaaDoorSumRef
import Derived.Test.YtocmfdahnekboaaDoorOpenP
import Derived.Test.YtocmfdahnekboaaDoorMasks
import Derived.Deep.SlicePairs
import Derived.Test.YtocmfdahnekboaaDoorRefQ
import Derived.RangeFuncBox
import Derived.Test.YtocmfdahnekboaaDoorRangeR
namespace Go.Proofs.YtocmfdahnekboaaDoor
open Go.RowKit SumM
set_option linter.unusedVariables false

theorem writeL_len (k : Int) (l : List Nat) : (writeL k l).length ≤ l.length + 7 := by
  unfold writeL
  by_cases h : writeE k l = 0
  · rw [if_pos h, frame_len]; exact Nat.le_refl _
  · rw [if_neg h]; simp
theorem writeE_zero {k : Int} {l : List Nat} (h : writeE k l = 0) : 1 ≤ k ∧ k ≤ 255 ∧ l.length ≤ 4096 := by
  unfold writeE at h
  split at h
  · cases h
  · split at h
    · cases h
    · rename_i h1 h2
      exact ⟨by omega, by omega, by omega⟩
theorem writeL_zero {k : Int} {l : List Nat} (h : writeE k l = 0) : writeL k l = frameL k.toNat l := if_pos h
theorem writeL_bad {k : Int} {l : List Nat} (h : writeE k l ≠ 0) : writeL k l = [] := if_neg h
end Go.Proofs.YtocmfdahnekboaaDoor

/- Frames one behind the other, as lists of bytes. -/
namespace Go.Proofs.YtocmfdahnekboaaDoor
open Go.RowKit SumM
set_option linter.unusedVariables false

/-- A frame that can be kept. -/
def okF (x : Nat × List Nat) : Prop := x.1 ≠ 0 ∧ x.1 < 256 ∧ x.2.length ≤ 4096 ∧ ∀ y ∈ x.2, y < 256
def joinF (ks : List (Nat × List Nat)) : List Nat := (ks.map fun x => frameL x.1 x.2).flatten
/-- The same, each with the place where it begins. -/
def posF : Nat → List (Nat × List Nat) → List (Nat × Nat × List Nat)
  | _, [] => []
  | a, x :: ks => (a, x.1, x.2) :: posF (a + (x.2.length + 7)) ks
theorem posF_len : ∀ (ks : List (Nat × List Nat)) (a : Nat), (posF a ks).length = ks.length
  | [], _ => rfl
  | x :: ks, a => by show (posF _ ks).length + 1 = _; rw [posF_len ks]; rfl
theorem posF_map : ∀ (ks : List (Nat × List Nat)) (a : Nat), (posF a ks).map Prod.snd = ks
  | [], _ => rfl
  | x :: ks, a => by show x :: (posF _ ks).map Prod.snd = _; rw [posF_map ks]
theorem joinF_snoc (ks : List (Nat × List Nat)) (x : Nat × List Nat) : joinF (ks ++ [x]) = joinF ks ++ frameL x.1 x.2 := by simp [joinF]
theorem joinF_bytes {ks : List (Nat × List Nat)} (h : ∀ x ∈ ks, okF x) : ∀ y ∈ joinF ks, y < 256 := by
  intro y hy
  obtain ⟨l, hl, hy⟩ := List.mem_flatten.1 hy
  obtain ⟨x, hx, rfl⟩ := List.mem_map.1 hl
  obtain ⟨_, h2, h3, h4⟩ := h x hx
  exact frame_bytes h2 h3 h4 y hy
theorem joinF_len {ks : List (Nat × List Nat)} {m : Nat} (h : ∀ x ∈ ks, x.2.length ≤ m) : (joinF ks).length ≤ ks.length * (m + 7) := by
  induction ks with
  | nil => simp [joinF]
  | cons x ks ih =>
    have e : joinF (x :: ks) = frameL x.1 x.2 ++ joinF ks := by simp [joinF]
    have h1 := ih (fun y hy => h y (by simp [hy]))
    have h2 := h x (by simp)
    rw [e, List.length_append, frame_len, List.length_cons, Nat.succ_mul]
    omega
theorem scan_join (rest : List Nat) (hr : rest = [] ∨ readE rest ≠ 0) : ∀ (ks : List (Nat × List Nat)) (p : List Nat), (∀ x ∈ ks, okF x) →
    scanL (p ++ (joinF ks ++ rest)) p.length = posF p.length ks ∧ scanE (p ++ (joinF ks ++ rest)) p.length = p.length + (joinF ks).length
  | [], p, _ => by
    have e : joinF [] = [] := rfl
    rw [e, List.nil_append]
    rcases hr with rfl | hr
    · rw [List.append_nil, scanL_end (Nat.le_refl _), scanE_end (Nat.le_refl _)]
      exact ⟨rfl, rfl⟩
    · have hd : (p ++ rest).drop p.length = rest := by simp
      rw [scanL_bad (by rw [hd]; exact hr), scanE_bad (by rw [hd]; exact hr)]
      exact ⟨rfl, rfl⟩
  | x :: ks, p, h => by
    obtain ⟨h1, h2, h3, h4⟩ := h x (by simp)
    have e : joinF (x :: ks) = frameL x.1 x.2 ++ joinF ks := by simp [joinF]
    have hd : (p ++ (joinF (x :: ks) ++ rest)).drop p.length = frameL x.1 x.2 ++ (joinF ks ++ rest) := by rw [List.drop_left, e, List.append_assoc]
    obtain ⟨r1, r2, r3, r4⟩ := read_frame x.1 x.2 (joinF ks ++ rest) h1 h3
    have hlt : p.length < (p ++ (joinF (x :: ks) ++ rest)).length := by
      rw [List.length_append, e, List.length_append, List.length_append, frame_len]; omega
    have ih := scan_join rest hr ks (p ++ frameL x.1 x.2) (fun y hy => h y (by simp [hy]))
    have hpl : (p ++ frameL x.1 x.2).length = p.length + (x.2.length + 7) := by rw [List.length_append, frame_len]
    have hpp : p ++ (joinF (x :: ks) ++ rest) = p ++ frameL x.1 x.2 ++ (joinF ks ++ rest) := by rw [e]; simp
    rw [hpl, ← hpp] at ih
    rw [scanL_step hlt (by rw [hd]; exact r1), scanE_step hlt (by rw [hd]; exact r1), hd, r2, r3, r4, ih.1, ih.2]
    refine ⟨rfl, ?_⟩
    rw [e, List.length_append, frame_len]; omega
theorem scan_join0 (ks : List (Nat × List Nat)) (rest : List Nat) (hr : rest = [] ∨ readE rest ≠ 0) (h : ∀ x ∈ ks, okF x) :
    scanL (joinF ks ++ rest) 0 = posF 0 ks ∧ scanE (joinF ks ++ rest) 0 = (joinF ks).length := by
  have := scan_join rest hr ks [] h
  simpa using this
theorem scanW_join (ks : List (Nat × List Nat)) (rest : List Nat) (n : Nat) (hr : (rest = [] ∧ n = 0) ∨ (rest ≠ [] ∧ readE rest = n ∧ n ≠ 0)) (h : ∀ x ∈ ks, okF x) : scanW (joinF ks ++ rest) = n := by
  have h2 := (scan_join0 ks rest (hr.imp (fun h => h.1) (fun h => by rw [h.2.1]; exact h.2.2)) h).2
  unfold scanW
  rw [h2]
  rcases hr with ⟨rfl, rfl⟩ | ⟨h0, h1, _⟩
  · rw [List.append_nil, if_pos rfl]
  · have : rest.length ≠ 0 := fun e => h0 (List.eq_nil_of_length_eq_zero e)
    rw [List.length_append, if_neg (by omega), List.drop_left, h1]

/-- What is kept of some frames. -/
def keepF : List (Int × List Nat) → List (Nat × List Nat)
  | [] => []
  | x :: xs => if writeE x.1 x.2 = 0 then (x.1.toNat, x.2) :: keepF xs else keepF xs
theorem keepF_snoc (xs : List (Int × List Nat)) (x : Int × List Nat) : keepF (xs ++ [x]) = if writeE x.1 x.2 = 0 then keepF xs ++ [(x.1.toNat, x.2)] else keepF xs := by
  induction xs with
  | nil => show keepF [x] = _; unfold keepF; split <;> rfl
  | cons y xs ih =>
    show keepF (y :: (xs ++ [x])) = _
    unfold keepF
    rw [ih]
    split <;> split <;> rfl
theorem keepF_len (xs : List (Int × List Nat)) : (keepF xs).length ≤ xs.length := by
  induction xs with
  | nil => exact Nat.le_refl _
  | cons y xs ih => unfold keepF; split <;> simp <;> omega
theorem keepF_ok {xs : List (Int × List Nat)} (h : ∀ x ∈ xs, ∀ y ∈ x.2, y < 256) : ∀ x ∈ keepF xs, okF x := by
  induction xs with
  | nil => intro x hx; cases hx
  | cons y xs ih =>
    intro x hx
    unfold keepF at hx
    split at hx
    · rename_i hz
      rcases List.mem_cons.1 hx with rfl | hx
      · obtain ⟨h1, h2, h3⟩ := writeE_zero hz
        exact ⟨by show y.1.toNat ≠ 0; omega, by show y.1.toNat < 256; omega, h3, h y (by simp)⟩
      · exact ih (fun z hz => h z (by simp [hz])) x hx
    · exact ih (fun z hz => h z (by simp [hz])) x hx
theorem keepF_short {xs : List (Int × List Nat)} {m : Nat} (h : ∀ x ∈ xs, x.2.length ≤ m) : ∀ x ∈ keepF xs, x.2.length ≤ m := by
  induction xs with
  | nil => intro x hx; cases hx
  | cons y xs ih =>
    intro x hx
    unfold keepF at hx
    split at hx
    · rcases List.mem_cons.1 hx with rfl | hx
      · exact h y (by simp)
      · exact ih (fun z hz => h z (by simp [hz])) x hx
    · exact ih (fun z hz => h z (by simp [hz])) x hx
end Go.Proofs.YtocmfdahnekboaaDoor

/- What comes in, opened: rows of frames. -/
namespace Go.Proofs.YtocmfdahnekboaaDoor
open Go.ChangeShapes Go.WideShapes Go.ChangeAt Go.RowKit
set_option linter.unusedVariables false

/-- A slice of frames. -/
def Frs (n : Nat) (W : World) (sv : Value) (xs : List (Int × List Nat)) : Prop :=
  (xs = [] ∧ ∃ a c, sv = .slice a 0 c) ∨ ∃ b off cap, sv = .slice (some ⟨b, off, none⟩) xs.length cap ∧ b < n ∧ ∀ j x, xs[j]? = some x → ∃ a c, W.cell? ⟨b, off + j * 2, none⟩ = some (.int .i64 x.1) ∧ W.cell? ⟨b, off + j * 2 + 1, none⟩ = some (.slice a x.2.length c) ∧ Sl encY n W (.slice a x.2.length c) x.2
theorem Frs.below {n : Nat} {A B : World} (h : Below n A B) {sv : Value} {xs : List (Int × List Nat)} : Frs n A sv xs → Frs n B sv xs
  | .inl e => .inl e
  | .inr ⟨b, off, cap, e, hb, hc⟩ => .inr ⟨b, off, cap, e, hb, fun j x hj => by
      obtain ⟨a, c, h1, h2, h3⟩ := hc j x hj
      exact ⟨a, c, (h.cell (p := ⟨b, off + j * 2, none⟩) hb).trans h1, (h.cell (p := ⟨b, off + j * 2 + 1, none⟩) hb).trans h2, h3.below h⟩⟩
theorem Frs.len {n : Nat} {W : World} {a : Option Addr} {m c : Nat} {xs : List (Int × List Nat)} (h : Frs n W (.slice a m c) xs) : m = xs.length := by
  rcases h with ⟨rfl, _, _, e⟩ | ⟨b, off, cap, e, _⟩
  · cases e; rfl
  · cases e; rfl
theorem Frs.at_ {n : Nat} {W : World} {a : Option Addr} {m c k : Nat} {x : Int × List Nat} {xs : List (Int × List Nat)} (h : Frs n W (.slice a m c) xs) (hx : xs[k]? = some x) :
    ∃ b off va vc, a = some ⟨b, off, none⟩ ∧ b < n ∧ W.cell? ⟨b, off + k * 2, none⟩ = some (.int .i64 x.1) ∧ W.cell? ⟨b, off + k * 2 + 1, none⟩ = some (.slice va x.2.length vc) ∧ Sl encY n W (.slice va x.2.length vc) x.2 := by
  rcases h with ⟨rfl, _⟩ | ⟨b, off, cap, e, hb, hc⟩
  · simp at hx
  · cases e
    obtain ⟨va, vc, h1, h2, h3⟩ := hc k x hx
    exact ⟨b, off, va, vc, rfl, hb, h1, h2, h3⟩

theorem cellsF : Tryd.prog.cellsOf 66 = 2 := by kernel_rfl
theorem cellsI : Tryd.prog.cellsOf 3 = 1 := by kernel_rfl
theorem open_bytes1 {H : Type} {enc : TypeId × Value → H} {W : World} {base n : Nat} {held : Bool} {v : Value} {x : DataW H × List MemPlace}
    (hf : DataW.trod enc Tryd.prog W base (fun _ => true) held n 22 [v] = some x) : ∃ a n c, ∃ l : List Nat, v = .slice a n c ∧ Sl encY W.heap.size W (.slice a n c) l ∧ ∀ x ∈ l, x < 256 := by
  rcases open_ints Tryd.underlying22 Tryd.underlying5 cells8 hf with ⟨hcs, _⟩ | ⟨a, len, cap, zs, hcs, _, hl, _, hz, _, hcell, hwz⟩
  · simp at hcs
    subst hcs
    exact ⟨_, _, _, [], rfl, Sl.nil _ _ _, fun x hx => by cases hx⟩
  · simp at hcs
    subst hcs
    simp only [if_true] at hz
    obtain ⟨l, h1, h2⟩ := sl_of_ints hl hz hcell hwz
    exact ⟨_, _, _, l, rfl, h1, h2⟩
theorem open_int1 {H : Type} {enc : TypeId × Value → H} {W : World} {base n : Nat} {held : Bool} {v : Value} {x : DataW H × List MemPlace}
    (hf : DataW.trod enc Tryd.prog W base (fun _ => true) held n 3 [v] = some x) : ∃ k : Int, v = .int .i64 k := by
  obtain ⟨k, h, _, _⟩ := DataW.trod_int Tryd.underlying3 hf
  simp at h
  exact ⟨k, h⟩

theorem open_frames {H : Type} {enc : TypeId × Value → H} {W : World} {base : Nat} {held : Bool} {v : Value} {d : DataW H} {p : List MemPlace}
    (hv : ∃ a n c, v = .slice a n c) (h : DataW.Trod enc Tryd.prog W base (fun _ => true) held 92 v d p) : ∃ a n c, ∃ xs : List (Int × List Nat), v = .slice a n c ∧ Frs W.heap.size W (.slice a n c) xs ∧ ∀ x ∈ xs, ∀ y ∈ x.2, y < 256 := by
  obtain ⟨fuel, hf⟩ := h
  obtain ⟨a', n', c', rfl⟩ := hv
  rcases Deep.open_slice_pairs Tryd.underlying92 Tryd.underlying66 cellsF rfl rfl cellsI (by kernel_rfl) hf with ⟨hcs, _⟩ | ⟨a, len, cap, m, n, V0, V1, D0, D1, P0, P1, hcs, _, hl, _, hm, _, hx⟩
  · simp [Value.cells] at hcs
    obtain ⟨rfl, rfl, rfl⟩ := hcs
    exact ⟨_, _, _, [], rfl, .inl ⟨rfl, _, _, rfl⟩, fun x hx => by cases hx⟩
  · simp [Value.cells] at hcs
    obtain ⟨rfl, rfl, rfl⟩ := hcs
    simp only [if_true] at hm
    by_cases h0 : n' = 0
    · subst h0
      exact ⟨_, _, _, [], rfl, .inl ⟨rfl, _, _, rfl⟩, fun x hx => by cases hx⟩
    · obtain ⟨b, off, spot⟩ := a
      have hspot : spot = none := by
        have := (hx 0 (by omega)).1
        simpa [Addr.add] using World.cell?_spot this
      subst hspot
      have each : ∀ i, i < n' → ∃ x : Int × List Nat, (∃ a c, W.cell? ⟨b, off + i * 2, none⟩ = some (.int .i64 x.1) ∧ W.cell? ⟨b, off + i * 2 + 1, none⟩ = some (.slice a x.2.length c) ∧ Sl encY W.heap.size W (.slice a x.2.length c) x.2) ∧ ∀ y ∈ x.2, y < 256 := by
        intro i hi
        obtain ⟨e1, e2, r1, r2⟩ := hx i (by omega)
        obtain ⟨k, hk⟩ := open_int1 r1
        obtain ⟨a, n, c, l, hv, hS, hb⟩ := open_bytes1 r2
        rw [add_plain, hk] at e1
        rw [add_plain, hv] at e2
        obtain rfl := hS.len
        exact ⟨(k, l), ⟨a, c, e1, by rw [Nat.add_assoc]; exact e2, hS⟩, hb⟩
      obtain ⟨xs, hlen, hp⟩ := list_of_fun n' _ each
      refine ⟨_, _, _, xs, rfl, .inr ⟨b, off, c', by rw [hlen], block_lt_of_cell (a := ⟨b, off + 0 * 2, none⟩) (by have := (hx 0 (by omega)).1; rw [add_plain] at this; exact this), fun j x hj => (hp j x hj).1⟩, fun x hx => ?_⟩
      obtain ⟨j, hj⟩ := List.getElem?_of_mem hx
      exact (hp j x hj).2
end Go.Proofs.YtocmfdahnekboaaDoor

/- Rows of the call's own, of bytes and of frames, side by side. -/
namespace Go.Proofs.YtocmfdahnekboaaDoor
open Go.RowKit
set_option linter.unusedVariables false

theorem infoF : (Tryd.prog.info? 66).map (fun i => (i.zero, i.size, i.bytes)) = some (some (.agg #[.int .i64 0, .slice none 0 0]), 2, 32) := by kernel_rfl
theorem own_grown {A B : World} {base e s n : Nat} {v : Value} {xs : List Value} {row : Option Nat} (h : A.ownsRow base e s v n xs) (hg : A.grownBy B row) (hn : ∀ g, v.ownBlock = some g → row ≠ some g) : B.ownsRow base e s v n xs := by
  obtain ⟨h1, h2⟩ := h
  refine ⟨h1, ?_⟩
  rcases h2 with h2 | ⟨g, cap, cur, hv, hg0, hh, r⟩
  · exact .inl h2
  · exact .inr ⟨g, cap, cur, hv, hg0, (hg.block g (Array.getElem?_eq_some_iff.1 hh).1 (fun e => hn g (by rw [hv]; rfl) e.symm)).trans hh, r⟩
theorem own_below {A B : World} {K base e s n : Nat} {v : Value} {xs : List Value} (h : A.ownsRow base e s v n xs) (hb : Below K A B) (hK : A.heap.size ≤ K) : B.ownsRow base e s v n xs := by
  obtain ⟨h1, h2⟩ := h
  refine ⟨h1, ?_⟩
  rcases h2 with h2 | ⟨g, cap, cur, hv, hg, hh, r⟩
  · exact .inl h2
  · exact .inr ⟨g, cap, cur, hv, hg, (hb.block g (Nat.lt_of_lt_of_le (Array.getElem?_eq_some_iff.1 hh).1 hK)).trans hh, r⟩
theorem own_at {A : World} {base e s n g : Nat} {v : Value} {xs : List Value} (h : A.ownsRow base e s v n xs) (hv : v.ownBlock = some g) : base ≤ g ∧ ∃ cur, A.heap[g]? = some (.cells cur e (0, 0)) := by
  rcases h.2 with ⟨e0, _⟩ | ⟨g', cap, cur, e0, hg, hh, _⟩
  · rw [e0] at hv; cases hv
  · rw [e0] at hv
    cases hv
    exact ⟨hg, cur, hh⟩
/-- Rows of unlike elements lie apart. -/
theorem own_ne {A : World} {b1 e1 s1 n1 b2 e2 s2 n2 : Nat} {v1 v2 : Value} {xs1 xs2 : List Value} (h1 : A.ownsRow b1 e1 s1 v1 n1 xs1) (h2 : A.ownsRow b2 e2 s2 v2 n2 xs2) (hne : e1 ≠ e2) : ∀ g, v1.ownBlock = some g → v2.ownBlock ≠ some g := by
  intro g hg hg2
  obtain ⟨_, c1, e3⟩ := own_at h1 hg
  obtain ⟨_, c2, e4⟩ := own_at h2 hg2
  rw [e3] at e4
  cases e4
  exact hne rfl
theorem own_box {A : World} {b1 e1 s1 n1 B : Nat} {t : TypeId} {v1 u : Value} {xs1 : List Value} (h1 : A.ownsRow b1 e1 s1 v1 n1 xs1) (h2 : Boxed A B t u) (hne : e1 ≠ t) : v1.ownBlock ≠ some B := by
  intro hg
  obtain ⟨_, c1, e3⟩ := own_at h1 hg
  rw [show A.heap[B]? = _ from h2] at e3
  cases e3
  exact hne rfl
theorem boxed_grown {A B : World} {b : Nat} {t : TypeId} {u : Value} {row : Option Nat} (h : Boxed A b t u) (hg : A.grownBy B row) (hn : row ≠ some b) : Boxed B b t u := h.kept hg (fun e => hn e.symm)
theorem boxed_below {A B : World} {K b : Nat} {t : TypeId} {u : Value} (h : Boxed A b t u) (hb : Below K A B) (hK : b < K) : Boxed B b t u := (hb.block b hK).trans h
theorem own_set {A : World} {base e s n b : Nat} {v u w : Value} {t : TypeId} {xs : List Value} (h : A.ownsRow base e s v n xs) (hb : Boxed A b t u) (hne : e ≠ t) : (A.setCell ⟨b, 0, none⟩ w).ownsRow base e s v n xs :=
  own_grown h (grownBy_setCell' A b w) (fun g hg e => by cases e; exact own_box h hb hne hg)

/-- What is kept: a kind, a body, and the slice of the body. -/
abbrev KX := (Nat × List Nat) × Value
def cellsK (ys : List KX) : List Value := ys.flatMap fun y => [.int .i64 y.1.1, y.2]
theorem cellsK_snoc (ys : List KX) (y : KX) : cellsK (ys ++ [y]) = cellsK ys ++ [.int .i64 y.1.1, y.2] := by simp [cellsK]
theorem cellsK_get : ∀ (ys : List KX) (k : Nat) (y : KX), ys[k]? = some y → (cellsK ys)[k * 2]? = some (.int .i64 y.1.1) ∧ (cellsK ys)[k * 2 + 1]? = some y.2
  | [], k, y, h => by simp at h
  | x :: ys, 0, y, h => by
    cases h
    exact ⟨rfl, rfl⟩
  | x :: ys, k + 1, y, h => by
    have ih := cellsK_get ys k y (by simpa using h)
    have e : cellsK (x :: ys) = .int .i64 x.1.1 :: x.2 :: cellsK ys := rfl
    rw [e, show (k + 1) * 2 = k * 2 + 1 + 1 from by omega]
    exact ⟨ih.1, ih.2⟩
/-- How far the frames are joined. -/
structure JI (w : World) (Br Bk : Nat) (l : List (Int × List Nat)) (k : Nat) (v : Value) (wr : World) : Prop where
  res : Boxed wr Br 4 (.bool false)
  all : wr.ownsRow w.heap.size 5 1 v (joinF (keepF (l.take k))).length ((joinF (keepF (l.take k))).map encY)
  kept : ∃ kv ys, Boxed wr Bk 92 kv ∧ wr.ownsRow w.heap.size 66 2 kv ys.length (cellsK ys) ∧ ys.map Prod.fst = keepF (l.take k) ∧ ∀ y ∈ ys, Sl encY w.heap.size w y.2 y.1.2
  b : Below w.heap.size w wr
  short : ∀ x ∈ l.take k, x.2.length ≤ 500
theorem own_base {A : World} {base base' e s n : Nat} {v : Value} {xs : List Value} (h : A.ownsRow base e s v n xs) (hb : base' ≤ base) : A.ownsRow base' e s v n xs := by
  obtain ⟨h1, h2⟩ := h
  refine ⟨h1, ?_⟩
  rcases h2 with h2 | ⟨g, cap, cur, hv, hg, r⟩
  · exact .inl h2
  · exact .inr ⟨g, cap, cur, hv, Nat.le_trans hb hg, r⟩
theorem ownsRow_empty2 (w : World) (e : TypeId) : (w.alloc (.cells #[] e)).ownsRow w.heap.size e 2 (.slice (some ⟨w.heap.size, 0, none⟩) 0 0) 0 [] :=
  ⟨rfl, .inr ⟨w.heap.size, 0, #[], rfl, Nat.le_refl _, World.alloc_heap_new w _, Nat.le_refl _, Nat.zero_le _, rfl, rfl⟩⟩
theorem own_form {A : World} {base e s n : Nat} {v : Value} {xs : List Value} (h : A.ownsRow base e s v n xs) : ∃ a c, v = .slice a n c := by
  rcases h.2 with ⟨rfl, e⟩ | ⟨g, cap, cur, e, _⟩
  · exact ⟨none, 0, by rw [e]⟩
  · exact ⟨_, _, e⟩
theorem JI.skip {w : World} {Br Bk k : Nat} {l : List (Int × List Nat)} {v : Value} {wr w2 : World} {x : Int × List Nat} (h : JI w Br Bk l k v wr) (hx : l[k]? = some x) (hz : writeE x.1 x.2 ≠ 0) (hs : x.2.length ≤ 500) (hb : Below wr.heap.size wr w2) : JI w Br Bk l (k + 1) v w2 := by
  have e : keepF (l.take (k + 1)) = keepF (l.take k) := by rw [take_one _ _ _ hx, keepF_snoc, if_neg hz]
  obtain ⟨kv, ys, h1, h2, h3, h4⟩ := h.kept
  refine ⟨boxed_below h.res hb h.res.lt, by rw [e]; exact own_below h.all hb (Nat.le_refl _), ⟨kv, ys, boxed_below h1 hb h1.lt, own_below h2 hb (Nat.le_refl _), by rw [e]; exact h3, h4⟩, h.b.trans (hb.mono h.b.size), fun y hy => ?_⟩
  rw [take_one _ _ _ hx] at hy
  rcases List.mem_append.1 hy with hy | hy
  · exact h.short y hy
  · simp at hy; rw [hy]; exact hs
theorem short_len {l : List (Int × List Nat)} {k : Nat} (h : ∀ x ∈ l.take k, x.2.length ≤ 500) (hk : k ≤ 10) : (joinF (keepF (l.take k))).length ≤ 5070 := by
  have h1 := joinF_len (keepF_short h)
  have h2 := keepF_len (l.take k)
  have h3 : (l.take k).length ≤ 10 := by rw [List.length_take]; omega
  have : (keepF (l.take k)).length * (500 + 7) ≤ 10 * 507 := Nat.mul_le_mul (by omega) (by omega)
  omega
theorem own_nb {A : World} {b1 e1 s1 n1 g : Nat} {t : TypeId} {v1 : Value} {xs1 : List Value} {cs : Array Value} {fr : Nat × Nat} (h1 : A.ownsRow b1 e1 s1 v1 n1 xs1) (h2 : A.heap[g]? = some (.cells cs t fr)) (hne : e1 ≠ t) : v1.ownBlock ≠ some g := by
  intro hg
  obtain ⟨_, c1, e3⟩ := own_at h1 hg
  rw [h2] at e3
  cases e3
  exact hne rfl
theorem below_grown2 {B : Nat} {W0 wr w1 : World} {e s : Nat} {v : Value} {n : Nat} {xs : List Value} (hown : wr.ownsRow B e s v n xs) (hB : B ≤ wr.heap.size) (hnx : Below B W0 wr) (hgrow : wr.grownBy w1 v.ownBlock) : Below B W0 w1 :=
  hnx.grown hgrow hB (fun j hj => (own_at hown hj).1)
theorem new_cells2 (w : World) (x y : Value) (t : TypeId) : ∀ j u, [x, y][j]? = some u → (w.alloc (.cells #[x, y] t)).cell? ((⟨w.heap.size, 0, none⟩ : Addr).add j) = some u := by
  intro j u hj
  rw [show (⟨w.heap.size, 0, none⟩ : Addr).add j = ⟨w.heap.size, 0 + j, none⟩ from by unfold Addr.add; split <;> simp_all, Nat.zero_add, cell_new_row]
  match j, hj with
  | 0, h => cases h; rfl
  | 1, h => cases h; rfl
  | j + 2, h => simp at h
/-- One more is kept. -/
theorem JI.keep {w : World} {Br Bk k t : Nat} {l : List (Int × List Nat)} {bd : List Nat} {v kv' : Value} {wr W : World} {ys : List KX} {vb u : Value} (h : JI w Br Bk l k v wr) (hx : l[k]? = some ((t : Int), bd)) (hz : writeE (t : Int) bd = 0) (hs : bd.length ≤ 500) (hne : Br ≠ Bk)
    {v' : Value} (hres : Boxed W Br 4 (.bool false)) (hall : W.ownsRow w.heap.size 5 1 v' ((joinF (keepF (l.take k))).length + (frameL t bd).length) ((joinF (keepF (l.take k))).map encY ++ (frameL t bd).map encY))
    (hk : Boxed W Bk 92 u) (hys : ys.map Prod.fst = keepF (l.take k)) (hkept : W.ownsRow w.heap.size 66 2 kv' (ys.length + 1) (cellsK ys ++ [.int .i64 t, vb])) (hS : ∀ y ∈ ys, Sl encY w.heap.size w y.2 y.1.2) (hSb : Sl encY w.heap.size w vb bd) (hb : Below w.heap.size w W) (hBk : w.heap.size ≤ Bk) :
    JI w Br Bk l (k + 1) v' (W.setCell ⟨Bk, 0, none⟩ kv') := by
  have e : keepF (l.take (k + 1)) = keepF (l.take k) ++ [(t, bd)] := by rw [take_one _ _ _ hx, keepF_snoc, if_pos hz]; rfl
  refine ⟨hres.other hne _, ?_, ⟨kv', ys ++ [((t, bd), vb)], hk.set _, ?_, by rw [List.map_append, hys, e]; rfl, fun y hy => ?_⟩, hb.setCell (p := ⟨Bk, 0, none⟩) hBk _, fun y hy => ?_⟩
  · rw [e, joinF_snoc, List.length_append, List.map_append]
    exact own_set hall hk (by decide)
  · rw [cellsK_snoc, List.length_append]
    exact own_set hkept hk (by decide)
  · rcases List.mem_append.1 hy with hy | hy
    · exact hS y hy
    · simp at hy; subst hy; exact hSb
  · rw [take_one _ _ _ hx] at hy
    rcases List.mem_append.1 hy with hy | hy
    · exact h.short y hy
    · simp at hy; subst hy; exact hs
def joI (w8 : World) (pre : List FX) (W : World) : Prop := Boxed W w8.heap.size 3 (.int .i64 (pre.length : Nat)) ∧ Below w8.heap.size w8 W
theorem joI_own {w8 : World} {B : Nat} (hB : w8.heap.size < B) : OwnFrom B (joI w8) := fun s W W' row ⟨h1, h2⟩ hg hr =>
  ⟨h1.kept hg (fun e => by have := (hr _ e.symm).1; omega), ownFrom_below (β := Unit) (Nat.le_refl _) (show w8.heap.size ≤ B by omega) () W W' row h2 hg hr⟩
def joA (A : Act) (z : Nat) (x : FX) (a' : Act) (W : World) : Prop :=
  ∃ Bx va vc, z ≤ Bx ∧ x.2 = .slice va x.1.2.2.length vc ∧ FrameAt W Bx x ∧ Sl encY W.heap.size W x.2 x.1.2.2 ∧ a' = { tmps := ((A.tmps.setIfInBounds 71 (.int .i64 x.1.1)).setIfInBounds 72 (.agg #[.int .i64 x.1.2.1, x.2])).setIfInBounds 16 (.pointer (some ⟨Bx, 0, none⟩)), defers := [] }
theorem Sl.putObj {W : World} {l n : Nat} {o : Obj} {r : Loop} {v : Value} {xs : List Nat} (h : Sl encY n W v xs) (hl : W.heap[l]? = some (.loop r)) : Sl encY n (W.putObj l o) v xs := by
  rcases h with h | ⟨b, off, cap, e, hb, hcap, hc⟩
  · exact .inl h
  · refine .inr ⟨b, off, cap, e, hb, hcap, fun j x hj => ?_⟩
    have hne : b ≠ l := by
      rintro rfl
      have := hc j x hj
      simp [World.cell?, hl] at this
    exact (World.cell?_of_block (a := ⟨b, off + j, none⟩) (World.putObj_heap_other hne)).trans (hc j x hj)
/-- Which frame comes next. -/
theorem next_pos {ks : List (Nat × List Nat)} {pre : List FX} {x : FX} (h : (pre ++ [x]).map Prod.fst <+: posF 0 ks) : pre.length < ks.length ∧ ks[pre.length]? = some x.1.2 := by
  have h1 : (pre ++ [x]).map (fun y => y.1.2) <+: ks := by
    have := h.map Prod.snd
    rw [posF_map, List.map_map] at this
    exact this
  obtain ⟨t, ht⟩ := h1
  have hl : pre.length < ks.length := by
    have := congrArg List.length ht
    simp at this; omega
  refine ⟨hl, ?_⟩
  rw [← ht, List.map_append, List.append_assoc, List.getElem?_append_right (by simp), List.length_map, Nat.sub_self]
  rfl
theorem own_cell {A : World} {base e s n i : Nat} {a : Option Addr} {c : Nat} {xs : List Value} {u : Value} (h : A.ownsRow base e s (.slice a n c) n xs) (hu : xs[i]? = some u) : ∃ g, a = some ⟨g, 0, none⟩ ∧ A.cell? ⟨g, i, none⟩ = some u := by
  rcases h.2 with ⟨e0, h0⟩ | ⟨g, cap, cur, e0, _, hgb, hn, _, hs, ht⟩
  · have := h.1
    subst h0
    simp at this
    rw [this] at hu; simp at hu
  · cases e0
    refine ⟨g, rfl, ?_⟩
    rw [← ht, List.getElem?_take] at hu
    split at hu
    · simp only [World.cell?, hgb]
      simpa using hu
    · cases hu
end Go.Proofs.YtocmfdahnekboaaDoor
