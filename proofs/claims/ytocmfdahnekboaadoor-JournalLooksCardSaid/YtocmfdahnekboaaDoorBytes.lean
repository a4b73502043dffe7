/- Slices of bytes as lists of numbers: appends to a row of the call's own, whatever the source. -/
import Derived.Test.YtocmfdahnekboaaDoorSlices
import Derived.OwnWalk
import Derived.Laws.AppendOwnNone
namespace Go.Proofs.YtocmfdahnekboaaDoor
open Go.RowKit

def encY (n : Nat) : Value := .int .u8 (n : Int)
theorem encY_one (l : List Nat) : ∀ u ∈ l.map encY, u.oneCell' = true := by
  intro u hu
  obtain ⟨x, _, rfl⟩ := List.mem_map.1 hu
  rfl
theorem info8 : (Tryd.prog.info? 5).map (fun i => (i.zero, i.size, i.bytes)) = some (some (.int .u8 0), 1, 1) := by kernel_rfl
def Bytes (l : List Nat) : Prop := l.length ≤ 1048576 ∧ ∀ x ∈ l, x < 256
/-- A slice of slices of bytes. -/
def Parts (n : Nat) (W : World) (sv : Value) (ls : List (List Nat)) : Prop :=
  (ls = [] ∧ ∃ a c, sv = .slice a 0 c) ∨ ∃ b off cap, sv = .slice (some ⟨b, off, none⟩) ls.length cap ∧ b < n ∧ ∀ j l, ls[j]? = some l → ∃ v, W.cell? ⟨b, off + j, none⟩ = some v ∧ Sl encY n W v l
theorem Parts.nil (n : Nat) (W : World) : Parts n W (.slice none 0 0) [] := .inl ⟨rfl, none, 0, rfl⟩
theorem Parts.below {n : Nat} {A B : World} (h : Below n A B) {sv : Value} {ls : List (List Nat)} : Parts n A sv ls → Parts n B sv ls
  | .inl e => .inl e
  | .inr ⟨b, off, cap, e, hb, hc⟩ => .inr ⟨b, off, cap, e, hb, fun j l hj => by
      obtain ⟨v, h1, h2⟩ := hc j l hj
      exact ⟨v, (h.cell (p := ⟨b, off + j, none⟩) hb).trans h1, h2.below h⟩⟩
theorem Parts.mono {n m : Nat} {A : World} (h : n ≤ m) {sv : Value} {ls : List (List Nat)} : Parts n A sv ls → Parts m A sv ls
  | .inl e => .inl e
  | .inr ⟨b, off, cap, e, hb, hc⟩ => .inr ⟨b, off, cap, e, Nat.lt_of_lt_of_le hb h, fun j l hj => by
      obtain ⟨v, h1, h2⟩ := hc j l hj
      exact ⟨v, h1, h2.mono h⟩⟩
theorem Parts.len {n : Nat} {W : World} {a : Option Addr} {m c : Nat} {ls : List (List Nat)} (h : Parts n W (.slice a m c) ls) : m = ls.length := by
  rcases h with ⟨rfl, _, _, e⟩ | ⟨b, off, cap, e, _⟩
  · cases e; rfl
  · cases e; rfl
theorem Parts.at_ {n : Nat} {W : World} {a : Option Addr} {m c k : Nat} {l : List Nat} {ls : List (List Nat)} (h : Parts n W (.slice a m c) ls) (hl : ls[k]? = some l) :
    ∃ b off, a = some ⟨b, off, none⟩ ∧ b < n ∧ ∃ v, W.cell? ⟨b, off + k, none⟩ = some v ∧ Sl encY n W v l := by
  rcases h with ⟨rfl, _⟩ | ⟨b, off, cap, e, hb, hc⟩
  · simp at hl
  · cases e; exact ⟨b, off, rfl, hb, hc k l hl⟩
theorem take_one {α : Type} (l : List α) (k : Nat) (x : α) (h : l[k]? = some x) : l.take (k + 1) = l.take k ++ [x] := by
  obtain ⟨hlt, rfl⟩ := List.getElem?_eq_some_iff.1 h
  rw [List.take_succ_eq_append_getElem hlt]

/-- How long, as a slice's value says it. -/
theorem Sl.len {α : Type} {enc : α → Value} {n : Nat} {W : World} {a : Option Addr} {m c : Nat} {xs : List α} (h : Sl enc n W (.slice a m c) xs) : m = xs.length := by
  rcases h with ⟨rfl, a', c', e, _⟩ | ⟨b, off, cap, e, _⟩
  · cases e; rfl
  · cases e; rfl
theorem Sl.form {α : Type} {enc : α → Value} {n : Nat} {W : World} {v : Value} {xs : List α} (h : Sl enc n W v xs) : ∃ a c, v = .slice a xs.length c := by
  rcases h with ⟨rfl, a', c', e, _⟩ | ⟨b, off, cap, e, _⟩
  · exact ⟨_, _, e⟩
  · exact ⟨_, _, e⟩
/-- Where an element lies. -/
theorem Sl.at_ {α : Type} {enc : α → Value} {n : Nat} {W : World} {a : Option Addr} {m c k : Nat} {x : α} {xs : List α} (h : Sl enc n W (.slice a m c) xs) (hx : xs[k]? = some x) :
    ∃ b off, a = some ⟨b, off, none⟩ ∧ b < n ∧ W.cell? ⟨b, off + k, none⟩ = some (enc x) := by
  rcases h with ⟨rfl, _⟩ | ⟨b, off, cap, e, hb, _, hc⟩
  · simp at hx
  · cases e; exact ⟨b, off, rfl, hb, hc k x hx⟩

/-- An append of whatever bytes to a row of the call's own. -/
theorem wpList_append_bytes (w : World) {ops : Array Oper} {rest : List Oper} {o : Oper} {a : Act} {Q : Exit → Act → World → Prop} (hgd : o.guard = none) (s x : Operand)
    (ho : o.op = .call { callee := .builtin .append, args := #[s, x], argTypes := #[22, 22] })
    (base : Nat) (v : Value) (n : Nat) (xs : List Value) (hs : a.eval s = v) (hown : w.ownsRow base 5 1 v n xs)
    (B : Nat) (sv : Value) (l : List Nat) (hx : a.eval x = sv) (hS : Sl encY B w sv l) (hm : n + l.length ≤ 1073741824) (hbase : base ≤ w.heap.size)
    (h : ∀ v' w', w'.ownsRow base 5 1 v' (n + l.length) (xs ++ l.map encY) → w.grownBy w' v.ownBlock → wpList Tryd.prog ops Q rest (a.put o.dst v') w') : wpList Tryd.prog ops Q (o :: rest) a w := by
  obtain ⟨i0, hi, hz0, hz1, hz2⟩ := info_parts info8
  rcases hS with ⟨rfl, ao, c0, rfl, hao⟩ | ⟨b, off, cap, rfl, hb, hcap, hc⟩
  · cases ao with
    | some ad => exact wpList_append_own w hgd s x 22 ho base 5 i0 (.int .u8 0) 1 1 Tryd.underlying22 hi hz0 hz1 hz2 rfl (by decide) v n xs hs hown ad 0 c0 [] hx rfl (fun j u hu => by simp at hu) (fun u hu => by cases hu) (by unfold maxLen; omega) (by omega) hbase (fun v' w' h1 h2 _ => h v' w' h1 h2)
    | none =>
      obtain rfl := hao rfl
      exact wpList_append_own_none hgd s x 22 ho base 5 i0 1 Tryd.underlying22 hi v n xs hs hown hx (h v w (by simpa using hown) (World.grownBy.refl _ _))
  · refine wpList_append_own w hgd s x 22 ho base 5 i0 (.int .u8 0) 1 1 Tryd.underlying22 hi hz0 hz1 hz2 rfl (by decide) v n xs hs hown ⟨b, off, none⟩ l.length cap (l.map encY) hx (by simp) (fun j u hu => ?_) (encY_one l) (by unfold maxLen; omega) (by omega) hbase (fun v' w' h1 h2 _ => h v' w' h1 h2)
    rw [List.getElem?_map] at hu
    cases hj : l[j]? with
    | none => rw [hj] at hu; cases hu
    | some y => rw [hj] at hu; cases hu; rw [show (⟨b, off, none⟩ : Addr).add j = ⟨b, off + j, none⟩ from by unfold Addr.add; split <;> simp_all]; exact hc j y hj

/-- Behind an append to what the call owns nothing that lay before it has turned. -/
theorem below_grown {B : Nat} {W0 wr w1 : World} {e : TypeId} {v : Value} {n : Nat} {xs : List Value} (hown : wr.ownsRow B e 1 v n xs) (hB : B ≤ wr.heap.size) (hnx : Below B W0 wr)
    (hgrow : wr.grownBy w1 v.ownBlock) : Below B W0 w1 := by
  refine hnx.grown hgrow hB (fun j hj => ?_)
  rcases hown.2 with ⟨rfl, _⟩ | ⟨g, cap, cur, rfl, hg, _, _⟩
  · simp [Value.ownBlock] at hj
  · obtain rfl : g = j := by simpa [Value.ownBlock] using hj
    exact hg
/-- What is owned stays so behind a call that turns nothing that was there. -/
theorem ownsRow_below {B base : Nat} {A W : World} {e : TypeId} {v : Value} {n : Nat} {xs : List Value} (h : A.ownsRow base e 1 v n xs) (hb : Below B A W) (hB : A.heap.size ≤ B) : W.ownsRow base e 1 v n xs := by
  obtain ⟨h1, h2⟩ := h
  refine ⟨h1, ?_⟩
  rcases h2 with h2 | ⟨g, cap, cur, hv, hg, hh, r⟩
  · exact .inl h2
  · exact .inr ⟨g, cap, cur, hv, hg, (hb.block g (Nat.lt_of_lt_of_le (Array.getElem?_eq_some_iff.1 hh).1 hB)).trans hh, r⟩
theorem Sl.take {α : Type} {enc : α → Value} {n : Nat} {W : World} {a : Option Addr} {m c k : Nat} {l : List α} (h : Sl enc n W (.slice a m c) l) (hk : k ≤ m) : Sl enc n W (.slice a k c) (l.take k) := by
  rcases h with ⟨rfl, a', c', e, h0⟩ | ⟨b', off', cap, e, hb, hcap, hc⟩
  · cases e
    obtain rfl : k = 0 := by omega
    exact .inl ⟨by simp, _, _, rfl, h0⟩
  · cases e
    have hl : (l.take k).length = k := by simp; omega
    refine .inr ⟨b', off', c, by rw [hl], hb, by rw [hl]; omega, fun j x hj => ?_⟩
    rw [List.getElem?_take] at hj
    split at hj
    · exact hc j x hj
    · cases hj
theorem Sl.capb {α : Type} {enc : α → Value} {n : Nat} {W : World} {a : Option Addr} {m c : Nat} {l : List α} (h : Sl enc n W (.slice a m c) l) : m ≤ c := by
  rcases h with ⟨rfl, a', c', e, h0⟩ | ⟨b', off', cap, e, hb, hcap, hc⟩
  · cases e; omega
  · cases e; exact hcap

theorem Sl.drop {α : Type} {enc : α → Value} {n : Nat} {W : World} {b off m c k : Nat} {l : List α} (h : Sl enc n W (.slice (some ⟨b, off, none⟩) m c) l) (hk : k < m) : Sl enc n W (.slice (some ⟨b, off + k, none⟩) (m - k) (c - k)) (l.drop k) := by
  rcases h with ⟨rfl, a', c', e, h0⟩ | ⟨b', off', cap, e, hb, hcap, hc⟩
  · cases e; omega
  · cases e
    have hl : (l.drop k).length = l.length - k := by simp
    refine .inr ⟨b, off + k, c - k, by rw [hl], hb, by rw [hl]; omega, fun j x hj => ?_⟩
    rw [List.getElem?_drop] at hj
    rw [Nat.add_assoc]; exact hc _ _ hj
theorem Sl.from_ {α : Type} {enc : α → Value} {n : Nat} {W : World} {b off m c k : Nat} {l : List α} (h : Sl enc n W (.slice (some ⟨b, off, none⟩) m c) l) (hk : k ≤ m) : Sl enc n W (.slice (some ⟨b, off + k, none⟩) (m - k) (c - k)) (l.drop k) := by
  rcases Nat.lt_or_ge k m with h1 | h1
  · exact h.drop h1
  · obtain rfl : k = m := by omega
    obtain rfl := h.len
    exact .inl ⟨by simp, some ⟨b, off + l.length, none⟩, c - l.length, by rw [Nat.sub_self], fun h => by cases h⟩
/-- What stands elsewhere than where a cell is set stays. -/
theorem Sl.set {α : Type} {enc : α → Value} {n : Nat} {W : World} {b off m c g j : Nat} {l : List α} (h : Sl enc n W (.slice (some ⟨b, off, none⟩) m c) l) (hg : b ≠ g) (v : Value) : Sl enc n (W.setCell ⟨g, j, none⟩ v) (.slice (some ⟨b, off, none⟩) m c) l := by
  rcases h with h | ⟨b', off', cap, e, hb, hcap, hc⟩
  · exact .inl h
  · cases e
    exact .inr ⟨b, off, c, rfl, hb, hcap, fun j' x hj => (World.cell?_of_block (Below.heap_setCell _ _ _ _ hg)).trans (hc j' x hj)⟩
end Go.Proofs.YtocmfdahnekboaaDoor
