/- Contracts as law SetBack needs them: a text read, a set told as a text, a set's items collected. -/
import Derived.Test.YtndbpmhdpjlncaaDoorSetBackM
import Derived.Test.YtndbpmhdpjlncaaDoorSetG
import Derived.Test.YtndbpmhdpjlncaaDoorSame
namespace Go.Proofs.YtndbpmhdpjlncaaDoor
open Go.RowKit Go.Shelf

attribute [local go_sem] Oper.semAt_some

def textB (s : Nat) : ByteArray := ⟨(textL s).toArray⟩
theorem text_b (s : Nat) (w : World) (hs : s < 18446744073709551616) (hE : Env w) :
    Calls Tryd.prog 29 #[.int .u64 s] w fun e w' => e = .returned (.string (textB s)) ∧ Below w.heap.size w w' := text_any s w hs hE
theorem read_b (s : ByteArray) (hl : s.size ≤ 1048576) (w : World) (hE : Env w) :
    Calls Tryd.prog 25 #[.string s] w fun e w' => e = .returned (.tuple #[.int .u64 ((readS s.data.toList).getD 0 : Nat), .int .i64 (errN (readS s.data.toList))]) ∧ Below w.heap.size w w' :=
  read_any s.data.toList (by rw [Array.length_toList]; exact hl) w hE
theorem textB_len (s : Nat) : (textB s).size ≤ 1048576 := by
  have := join_bd s
  show (textL s).toArray.size ≤ _
  simp [textL]; omega
theorem read_text (s : Nat) (hs : s < 18446744073709551616) (w : World) (hE : Env w) :
    Calls Tryd.prog 25 #[.string (textB s)] w fun e w' => e = .returned (.tuple #[.int .u64 (s : Nat), .int .i64 0]) ∧ Below w.heap.size w w' := by
  have h := read_b (textB s) (textB_len s) w hE
  have e : readS (textB s).data.toList = some s := by
    show readS (textL s).toArray.toList = _
    rw [List.toList_toArray]; exact readS_text hs
  rw [e] at h
  exact h
theorem read_none (s : ByteArray) (hl : s.size ≤ 1048576) (w : World) (hE : Env w) (h0 : readS s.data.toList = none) :
    Calls Tryd.prog 25 #[.string s] w fun e w' => e = .returned (.tuple #[.int .u64 0, .int .i64 20]) ∧ Below w.heap.size w w' := by
  have h := read_b s hl w hE
  rw [h0] at h
  exact h
theorem read_some (s : ByteArray) (c : Nat) (hl : s.size ≤ 1048576) (w : World) (hE : Env w) (h0 : readS s.data.toList = some c) :
    Calls Tryd.prog 25 #[.string s] w fun e w' => e = .returned (.tuple #[.int .u64 c, .int .i64 0]) ∧ Below w.heap.size w w' := by
  have h := read_b s hl w hE
  rw [h0] at h
  exact h
theorem textB_of {s : ByteArray} {c : Nat} (h : readS s.data.toList = some c) : textB c = s ∧ c < 18446744073709551616 := by
  obtain ⟨h1, h2⟩ := text_read h
  refine ⟨?_, h2⟩
  unfold textB; rw [h1]

/-- set.List, and set.Of of it. -/
theorem list_b (s : Nat) (w : World) (hs : s < 18446744073709551616) (hE : Env w) :
    Calls Tryd.prog 24 #[.int .u64 s] w fun e w' => ∃ a c, e = .returned (.slice a (items s).length c) ∧ Sl (Value.int .i64) w'.heap.size w' (.slice a (items s).length c) ((items s).map (fun x : Nat => (x : Int))) ∧ Below w.heap.size w w' := by
  refine (list_any s w hs hE).mono ?_
  rintro e w' ⟨v, rfl, h1, h2⟩
  have h3 := Sl.map (enc := Value.int .i64) (f := fun x : Nat => (x : Int)) (Sl.of_owns h1)
  obtain ⟨a, c, rfl⟩ := owns_slice h1
  exact ⟨a, c, rfl, h3, h2⟩
theorem coll_b (s : Nat) (w : World) (hs : s < 18446744073709551616) (hE : Env w) :
    Calls Tryd.prog 37 #[.func (.func 59) #[] #[.pointer (some ⟨w.heap.size, 0, none⟩)]] (w.alloc (.cells #[.int .u64 s] 22)) fun e w' => ∃ a c, e = .returned (.slice a (items s).length c) ∧ Sl (Value.int .i64) w'.heap.size w' (.slice a (items s).length c) ((items s).map (fun x : Nat => (x : Int))) ∧ Below w.heap.size w w' := by
  have hB0 : Below w.heap.size w (w.alloc (.cells #[.int .u64 s] 22)) := (Below.refl _ w).alloc (Nat.le_refl _) _
  have hE1 := hE.below hB0 hE.size
  refine (collectI 59 #[.pointer (some ⟨w.heap.size, 0, none⟩)] (enters_of Tryd.func59 (by kernel_rfl) rfl) (cnt s) (items s) (by have := cnt_le s; omega) (w.alloc (.cells #[.int .u64 s] 22))
    (items_stops Fence.wide 2 (fun _ => trivial) (fun h => callsIn_wide.2 h) rfl (by omega) w.heap.size _ s hs (by have := hE1.size; omega) _ (by simp) (Boxed.new w 22 (.int .u64 s)).cell hE1)).mono ?_
  rintro e w' ⟨v, rfl, h1, _, h2⟩
  have h3 := Sl.map (enc := Value.int .i64) (f := fun x : Nat => (x : Int)) (Sl.of_owns h1)
  obtain ⟨a, c, rfl⟩ := owns_slice h1
  exact ⟨a, c, rfl, h3, hB0.trans (h2.mono (by simp))⟩
theorem items_b (s : Nat) (w : World) :
    Calls Tryd.prog 38 #[.int .u64 s] w fun e w' => e = .returned (.func (.func 59) #[] #[.pointer (some ⟨w.heap.size, 0, none⟩)]) ∧ w.alloc (.cells #[.int .u64 s] 22) = w' := by
  refine (callsIn_wide.1 (items_in Fence.wide 2 (fun _ => trivial) rfl s w)).mono ?_
  rintro e w' ⟨rfl, rfl⟩
  exact ⟨rfl, rfl⟩
theorem of_back (s : Nat) (a : Option Addr) (c : Nat) (w : World) (hs : s < 18446744073709551616) (h : Sl (Value.int .i64) w.heap.size w (.slice a (items s).length c) ((items s).map (fun x : Nat => (x : Int)))) :
    Calls Tryd.prog 27 #[.slice a (items s).length c] w fun e w' => e = .returned (.int .u64 s) ∧ w = w' := by
  have h2 := of_any a (items s).length c _ w (by rw [List.length_map]; have := cnt_le s; unfold cnt at this; omega) h
  rw [ofN_items hs] at h2
  exact h2

end Go.Proofs.YtndbpmhdpjlncaaDoor
