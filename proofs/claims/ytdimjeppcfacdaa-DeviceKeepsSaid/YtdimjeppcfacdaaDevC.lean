/- A device as a whole; New, Len, Bytes. -/
import Derived.Test.YtdimjeppcfacdaaDevB
import Derived.Maps.AppendAt
namespace Go.Proofs.Ytdimjeppcfacdaa
open Go.RowKit

structure DevS where
  cap : Nat
  r0 : List Nat
  r1 : List Nat
  down : Bool
  left : Nat
  turned : Nat
def DevS.row (D : DevS) (i : Int) : List Nat := if i = 0 then D.r0 else if i = 1 then D.r1 else []
def DevS.put (D : DevS) (i : Int) (l : List Nat) : DevS := if i = 0 then { D with r0 := l } else { D with r1 := l }
structure DevS.Ok (D : DevS) : Prop where
  cap : D.cap ≤ 1048576
  l0 : D.r0.length ≤ D.cap
  l1 : D.r1.length ≤ D.cap
  b0 : ∀ x ∈ D.r0, x < 256
  b1 : ∀ x ∈ D.r1, x < 256
  lf : D.left ≤ 9223372036854775807
  tn : D.turned ≤ 1099511627776
def Row (W : World) (v : Value) (l : List Nat) : Prop := W.ownsRow 0 5 1 v l.length (l.map encY)
/-- The device at block b is D; what it has lies in the blocks own, and nowhere else. -/
structure Dev (own : List Nat) (W : World) (b : Nat) (D : DevS) (v0 v1 : Value) : Prop where
  blk : DevB W b D.cap v0 v1 D.down D.left D.turned
  r0 : Row W v0 D.r0
  r1 : Row W v1 D.r1
  bo : b ∈ own
  o0 : ∀ g, v0.ownBlock = some g → g ∈ own ∧ v1.ownBlock ≠ some g
  o1 : ∀ g, v1.ownBlock = some g → g ∈ own
  lt : ∀ k ∈ own, k < W.heap.size
  ok : D.Ok
theorem Row.sl {W : World} {v : Value} {l : List Nat} (h : Row W v l) : Sl encY W.heap.size W v l := Sl.of_owns h
theorem Row.but {W W' : World} {v : Value} {l : List Nat} {own : List Nat} (h : Row W v l) (hb : But own W W') (hn : ∀ g, v.ownBlock = some g → g ∉ own) : Row W' v l := by
  obtain ⟨h1, h2⟩ := h
  refine ⟨h1, ?_⟩
  rcases h2 with h2 | ⟨g, cap, cur, hv, hg, hh, r⟩
  · exact .inl h2
  · exact .inr ⟨g, cap, cur, hv, hg, (hb.block g (Array.getElem?_eq_some_iff.1 hh).1 (hn g (by rw [hv]; rfl))).trans hh, r⟩
/-- A row's block is none of a device's. -/
theorem Row.ne {W : World} {v : Value} {l : List Nat} (h : Row W v l) {b cap lf tn : Nat} {v0 v1 : Value} {dn : Bool} (hd : DevB W b cap v0 v1 dn lf tn) : v.ownBlock ≠ some b := by
  rcases h.2 with ⟨e, _⟩ | ⟨g, c, cur, hv, _, hh, _⟩
  · rw [e]; simp [Value.ownBlock]
  · rw [hv]
    intro e
    obtain rfl : g = b := by simpa [Value.ownBlock] using e
    unfold DevB at hd
    rw [hh] at hd
    cases hd
theorem Row.lt {W : World} {v : Value} {l : List Nat} (h : Row W v l) : ∀ g, v.ownBlock = some g → g < W.heap.size := fun g hg => (World.ownsRow.lt h g hg).2
/-- What turns none of a device's own blocks leaves it as it was. -/
theorem Dev.but {own own2 : List Nat} {W W' : World} {b : Nat} {D : DevS} {v0 v1 : Value} (h : Dev own W b D v0 v1) (hb : But own2 W W') (hn : ∀ k ∈ own, k ∉ own2) : Dev own W' b D v0 v1 :=
  ⟨h.blk.but hb (hn b h.bo), h.r0.but hb (fun g hg => hn g (h.o0 g hg).1), h.r1.but hb (fun g hg => hn g (h.o1 g hg)), h.bo, h.o0, h.o1, fun k hk => Nat.lt_of_lt_of_le (h.lt k hk) hb.size, h.ok⟩
theorem Dev.below {own : List Nat} {W W' : World} {b : Nat} {D : DevS} {v0 v1 : Value} (h : Dev own W b D v0 v1) (hb : Below W.heap.size W W') : Dev own W' b D v0 v1 := h.but (own2 := []) (But.of_below hb) fun _ _ hk => by cases hk
/-- A field of its own block was turned. -/
theorem Dev.field {own : List Nat} {W W' : World} {b : Nat} {D D' : DevS} {v0 v1 : Value} (h : Dev own W b D v0 v1) (hb : But [b] W W') (hblk : DevB W' b D'.cap v0 v1 D'.down D'.left D'.turned) (h0 : D'.r0 = D.r0) (h1 : D'.r1 = D.r1) (ok : D'.Ok) : Dev own W' b D' v0 v1 :=
  ⟨hblk, by rw [h0]; exact h.r0.but hb (fun g hg hk => by simp at hk; subst hk; exact h.r0.ne h.blk hg), by rw [h1]; exact h.r1.but hb (fun g hg hk => by simp at hk; subst hk; exact h.r1.ne h.blk hg), h.bo, h.o0, h.o1, fun k hk => Nat.lt_of_lt_of_le (h.lt k hk) hb.size, ok⟩

/-- The capacity that a device has. -/
def capN (n : Int) : Nat := min n.toNat 1048576
def newD (n : Int) : DevS := ⟨capN n, [], [], false, 9223372036854775807, 0⟩
theorem new_ok (n : Int) : (newD n).Ok := ⟨Nat.min_le_right _ _, Nat.zero_le _, Nat.zero_le _, (fun x hx => by cases hx), (fun x hx => by cases hx), Nat.le_refl _, Nat.zero_le _⟩
theorem row_nil (W : World) : Row W (.slice none 0 0) [] := World.ownsRow_nil _ _ _ _
theorem dev_new (w : World) (n : Int) : Dev [w.heap.size] (w.alloc (.cells #[.int .i64 (capN n), .slice none 0 0, .slice none 0 0, .bool false, .int .i64 9223372036854775807, .int .i64 0] 132)) w.heap.size (newD n) (.slice none 0 0) (.slice none 0 0) :=
  ⟨World.alloc_heap_new w _, row_nil _, row_nil _, by simp, fun g hg => by simp [Value.ownBlock] at hg, fun g hg => by simp [Value.ownBlock] at hg, fun k hk => by simp at hk; subst hk; simp, new_ok n⟩

set_option maxHeartbeats 400000 in
theorem new_any (n : Int) (w : World) :
    Calls Try.prog 19 #[.int .i64 n] w fun e w' => e = .returned (.pointer (some ⟨w.heap.size, 0, none⟩)) ∧ Dev [w.heap.size] w' w.heap.size (newD n) (.slice none 0 0) (.slice none 0 0) ∧ Below w.heap.size w w' := by
  have HD := Lib.hid (dev_new w n)
  have HN : Hid ((capN n : Nat) = min n.toNat 1048576) := Lib.hid rfl
  go_enter Try.func19, Try.ntmps19
  go_wp2
  all_goals go_ret
  all_goals refine ⟨rfl, ?_, (Below.refl _ _).alloc (Nat.le_refl _) _⟩
  all_goals have h1 := HD.out
  · rw [show ((capN n : Nat) : Int) = 0 from by rw [HN.out]; omega] at h1; exact h1
  · rw [show ((capN n : Nat) : Int) = 1048576 from by rw [HN.out]; omega] at h1; exact h1
  · rw [show ((capN n : Nat) : Int) = n from by rw [HN.out]; omega] at h1; exact h1

theorem row_no {D : DevS} {i : Int} (h : regB i = false) : D.row i = [] := by
  have := regB_f h
  unfold DevS.row; rw [if_neg this.1, if_neg this.2]
theorem row_0 (D : DevS) : D.row 0 = D.r0 := rfl
theorem row_1 (D : DevS) : D.row 1 = D.r1 := rfl
theorem Row.form {W : World} {v : Value} {l : List Nat} (h : Row W v l) : ∃ a c, v = .slice a l.length c ∧ l.length ≤ c := by
  rcases h.2 with ⟨rfl, e⟩ | ⟨g, cap, cur, e, _, _, hn, _⟩
  · exact ⟨none, 0, by rw [e], by omega⟩
  · exact ⟨_, _, e, hn⟩
theorem DevS.Ok.row {D : DevS} (h : D.Ok) (i : Int) : (D.row i).length ≤ D.cap ∧ ∀ x ∈ D.row i, x < 256 := by
  unfold DevS.row
  split
  · exact ⟨h.l0, h.b0⟩
  · split
    · exact ⟨h.l1, h.b1⟩
    · exact ⟨Nat.zero_le _, fun x hx => by cases hx⟩

set_option maxHeartbeats 400000 in
theorem len_any {own : List Nat} {b : Nat} {D : DevS} {v0 v1 : Value} (i : Int) (w : World) (h : Dev own w b D v0 v1) :
    Calls Try.prog 26 #[.pointer (some ⟨b, 0, none⟩), .int .i64 i] w fun e w' => e = .returned (.int .i64 (D.row i).length) ∧ w = w' := by
  have c1 := h.blk.c1
  have c2 := h.blk.c2
  obtain ⟨a0, k0, rfl, _⟩ := h.r0.form
  obtain ⟨a1, k1, rfl, _⟩ := h.r1.form
  have l0 := h.ok.l0
  have l1 := h.ok.l1
  have lc := h.ok.cap
  clear h
  cases hr : regB i with
  | false =>
    rw [row_no hr]
    clear c1 c2
    go_enter Try.func26, Try.ntmps26
    go_wp2_with (go_at_call 94; refine (dhas_any _ _ _).mono ?_; rintro e w' ⟨rfl, rfl⟩)
    go_ret
    exact ⟨rfl, rfl⟩
  | true =>
    have HH := Lib.hid (fun p w => dhas_any p i w)
    rw [hr] at HH
    rcases regB_t hr with rfl | rfl
    · rw [row_0]
      clear hr
      obtain ⟨n, hn⟩ : ∃ n, D.r0.length = n := ⟨_, rfl⟩
      rw [hn] at c1 ⊢
      clear hn c2
      go_enter Try.func26, Try.ntmps26
      go_wp2_with (go_at_call 94; refine (HH.out _ _).mono ?_; rintro e w' ⟨rfl, rfl⟩)
      go_ret
      exact ⟨rfl, rfl⟩
    · rw [row_1]
      clear hr
      obtain ⟨n, hn⟩ : ∃ n, D.r1.length = n := ⟨_, rfl⟩
      rw [hn] at c2 ⊢
      clear hn c1
      go_enter Try.func26, Try.ntmps26
      go_wp2_with (go_at_call 94; refine (HH.out _ _).mono ?_; rintro e w' ⟨rfl, rfl⟩)
      go_ret
      exact ⟨rfl, rfl⟩

set_option maxHeartbeats 400000 in
theorem bytes_any {own : List Nat} {b : Nat} {D : DevS} {v0 v1 : Value} (i : Int) (w : World) (h : Dev own w b D v0 v1) :
    Calls Try.prog 25 #[.pointer (some ⟨b, 0, none⟩), .int .i64 i] w fun e w' => ∃ v, e = .returned v ∧ w'.ownsRow w.heap.size 5 1 v (D.row i).length ((D.row i).map encY) ∧ Below w.heap.size w w' := by
  have c1 := h.blk.c1
  have c2 := h.blk.c2
  have HS0 := Lib.hid h.r0.sl
  have HS1 := Lib.hid h.r1.sl
  obtain ⟨a0, k0, rfl, _⟩ := h.r0.form
  obtain ⟨a1, k1, rfl, _⟩ := h.r1.form
  have l0 := h.ok.l0
  have l1 := h.ok.l1
  have lc := h.ok.cap
  clear h
  cases hr : regB i with
  | false =>
    rw [row_no hr]
    clear c1 c2
    go_enter Try.func25, Try.ntmps25
    go_wp2_with (go_at_call 94; refine (dhas_any _ _ _).mono ?_; rintro e w' ⟨rfl, rfl⟩)
    go_ret
    exact ⟨_, rfl, World.ownsRow_nil _ _ _ _, Below.refl _ _⟩
  | true =>
    have HH := Lib.hid (fun p w => dhas_any p i w)
    rw [hr] at HH
    rcases regB_t hr with rfl | rfl
    · rw [row_0]
      clear hr
      have HC := Lib.hid (copied_any _ _ _ D.r0 (by omega) w HS0.out)
      obtain ⟨n, hn⟩ : ∃ n, D.r0.length = n := ⟨_, rfl⟩
      rw [hn] at c1 HC ⊢
      clear hn c2
      go_enter Try.func25, Try.ntmps25
      go_wp2_with (first | (go_at_call 94; refine (HH.out _ _).mono ?_; rintro e w' ⟨rfl, rfl⟩) | (go_at_call 93; refine HC.out.mono ?_; rintro e w1 ⟨g, rfl, hown, hb⟩; have HO := Lib.hid hown; clear hown))
      go_ret
      exact ⟨_, rfl, HO.out, hb⟩
    · rw [row_1]
      clear hr
      have HC := Lib.hid (copied_any _ _ _ D.r1 (by omega) w HS1.out)
      obtain ⟨n, hn⟩ : ∃ n, D.r1.length = n := ⟨_, rfl⟩
      rw [hn] at c2 HC ⊢
      clear hn c1
      go_enter Try.func25, Try.ntmps25
      go_wp2_with (first | (go_at_call 94; refine (HH.out _ _).mono ?_; rintro e w' ⟨rfl, rfl⟩) | (go_at_call 93; refine HC.out.mono ?_; rintro e w1 ⟨g, rfl, hown, hb⟩; have HO := Lib.hid hown; clear hown))
      go_ret
      exact ⟨_, rfl, HO.out, hb⟩
end Go.Proofs.Ytdimjeppcfacdaa
