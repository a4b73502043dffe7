/- The document's own device as a whole; both devices go the same way. -/
import Derived.Test.YtdimjeppcfacdaaRefAp
import Derived.Test.YtdimjeppcfacdaaRefDu
import Derived.Test.YtdimjeppcfacdaaRefDt
namespace Go.Proofs.Ytdimjeppcfacdaa

section
open Go.RowKit
set_option linter.unusedVariables false

/-- The document's device. -/
structure RefS where
  cap : Nat
  r0 : List Nat
  r1 : List Nat
  down : Bool
  lf : Int
  tn : Nat
def RefS.row (R : RefS) (i : Int) : List Nat := if i = 0 then R.r0 else if i = 1 then R.r1 else []
def RefS.put (R : RefS) (i : Int) (l : List Nat) : RefS := if i = 0 then { R with r0 := l } else { R with r1 := l }
structure RefS.Ok (R : RefS) : Prop where
  cap : R.cap ≤ 1048576
  l0 : R.r0.length ≤ R.cap
  l1 : R.r1.length ≤ R.cap
  lf : R.lf ≤ 9223372036854775807
/-- What the document's device has stands in the world. -/
structure RefAt (w : World) (R : RefS) (A B : Value) : Prop where
  a : Sl encY w.heap.size w A R.r0
  b : Sl encY w.heap.size w B R.r1
  ok : R.Ok
/-- The device as a value. -/
abbrev RefS.val (R : RefS) (A B : Value) : Value := rdV A B R.cap R.lf R.down R.tn
theorem RefAt.below {w w' : World} {R : RefS} {A B : Value} (h : RefAt w R A B) (hb : Below w.heap.size w w') : RefAt w' R A B := ⟨(h.a.below hb).mono hb.size, (h.b.below hb).mono hb.size, h.ok⟩
theorem RefAt.but {own : List Nat} {w w' : World} {R : RefS} {A B : Value} (h : RefAt w R A B) (hb : But own w w') (oa : Off own A) (ob : Off own B) : RefAt w' R A B := ⟨h.a.but hb oa, h.b.but hb ob, h.ok⟩
/-- New rows lie off whatever was there. -/
def Fresh (w : World) (A B A' B' : Value) : Prop := ∀ own : List Nat, (∀ k ∈ own, k < w.heap.size) → Off own A → Off own B → Off own A' ∧ Off own B'
theorem Fresh.refl (w : World) (A B : Value) : Fresh w A B A B := fun _ _ h1 h2 => ⟨h1, h2⟩
theorem off_fresh {w W : World} {e n : Nat} {v : Value} {xs : List Value} (h : W.ownsRow w.heap.size e 1 v n xs) (own : List Nat) (ho : ∀ k ∈ own, k < w.heap.size) : Off own v := fun ad m c e h0 hk => by
  have hg := World.ownsRow.lt h ad.block (by rw [e]; rfl)
  have := ho _ hk
  omega
theorem fresh_put {w W : World} {e n : Nat} {q : Option Addr} {k d : Nat} {xs : List Value} {A B : Value} (i : Int) (h : W.ownsRow w.heap.size e 1 (.slice q k d) n xs) : Fresh w A B (putA i (.slice q k d) A) (putB i (.slice q k d) B) := fun own ho h1 h2 => by
  have hn := off_fresh h own ho
  unfold putA putB
  refine ⟨?_, ?_⟩
  · split
    · exact hn
    · exact h1
  · split
    · exact hn
    · exact h2
/-- The device behind so many bytes turned. -/
def RefS.turn (R : RefS) (n : Nat) : RefS := { R with lf := tLeft R.lf n, down := tDown R.down R.lf n, tn := R.tn + tDone R.lf n }
def appR (R : RefS) (i : Int) (l : List Nat) : RefS × Int :=
  if R.down = true then (R, 30) else if regB i = false then (R, 1) else if R.cap < (R.row i).length + l.length then (R, 6)
  else ((R.turn l.length).put i (R.row i ++ l.take (tDone R.lf l.length)), if tDown false R.lf l.length = true then 30 else 0)
def truncR (R : RefS) (i n : Int) : RefS × Int :=
  if R.down = true then (R, 30) else if regB i = false ∨ n < 0 ∨ ((R.row i).length : Int) < n then (R, 1)
  else ((R.turn ((R.row i).length - n.toNat)).put i ((R.row i).take ((R.row i).length - tDone R.lf ((R.row i).length - n.toNat))), if tDown false R.lf ((R.row i).length - n.toNat) = true then 30 else 0)
def loadR (R : RefS) (i : Int) (l : List Nat) : RefS := if regB i = false then R else R.put i (l.take (min l.length R.cap))
def cutR (R : RefS) (n : Int) : RefS := { R with lf := if n < 0 then -1 else n }
def restoreR (R : RefS) : RefS := { R with lf := -1, down := false }
theorem tLeft_le {lf : Int} (n : Nat) (h : lf ≤ 9223372036854775807) : tLeft lf n ≤ 9223372036854775807 := by unfold tLeft; split <;> omega
/-- A step of the document's device: it came to R', what it has is new or was there. -/
def RefTo (w : World) (R' : RefS) (A B : Value) (v : Value → Value → Value) (e : Ending) (w' : World) : Prop :=
  ∃ A' B', e = .returned (v A' B') ∧ RefAt w' R' A' B' ∧ Fresh w A B A' B' ∧ Below w.heap.size w w'

theorem put_at {w w' : World} {R R' : RefS} {A B : Value} (i : Int) (hi : regB i = true) (l : List Nat) {q : Option Addr} {k d : Nat} (h : RefAt w R A B) (h0 : R'.r0 = R.r0) (h1 : R'.r1 = R.r1) (hc : R'.cap = R.cap) (hlf : R'.lf ≤ 9223372036854775807) (hl : l.length ≤ R.cap) (hown : w'.ownsRow w.heap.size 5 1 (.slice q k d) l.length (l.map encY)) (hb : Below w.heap.size w w') :
    RefAt w' (R'.put i l) (putA i (.slice q k d) A) (putB i (.slice q k d) B) := by
  have hs : Sl encY w'.heap.size w' (.slice q k d) l := Sl.of_owns hown
  have h2 := h.below hb
  rcases regB_t hi with rfl | rfl
  · exact ⟨hs, by show Sl encY _ _ B R'.r1; rw [h1]; exact h2.b, ⟨by show R'.cap ≤ _; rw [hc]; exact h.ok.cap, by show l.length ≤ R'.cap; rw [hc]; exact hl, by show R'.r1.length ≤ R'.cap; rw [h1, hc]; exact h.ok.l1, hlf⟩⟩
  · exact ⟨by show Sl encY _ _ A R'.r0; rw [h0]; exact h2.a, hs, ⟨by show R'.cap ≤ _; rw [hc]; exact h.ok.cap, by show R'.r0.length ≤ R'.cap; rw [h0, hc]; exact h.ok.l0, by show l.length ≤ R'.cap; rw [hc]; exact hl, hlf⟩⟩

theorem rapp_any {R : RefS} {A B : Value} (i : Int) (p : Option Addr) (m c : Nat) (l : List Nat) (hl : l.length ≤ 1048576) (ht : R.tn ≤ 1099511627776) (w : World) (h : RefAt w R A B) (hT : Sl encY w.heap.size w (.slice p m c) l) :
    Calls Try.prog 88 #[R.val A B, .int .i64 i, .slice p m c] w (RefTo w (appR R i l).1 A B (fun A' B' => .tuple #[(appR R i l).1.val A' B', .int .i64 (appR R i l).2])) := by
  obtain rfl := hT.len
  obtain ⟨a0, c0, rfl⟩ := h.a.form
  obtain ⟨a1, c1, rfl⟩ := h.b.form
  obtain ⟨cap, r0, r1, down, lf, tn⟩ := R
  have hlf := h.ok.lf
  have hcap := h.ok.cap
  have hl0 := h.ok.l0
  have hl1 := h.ok.l1
  dsimp only at hlf hcap hl0 hl1 ht
  cases down with
  | true =>
    refine (rapp_down a0 a1 r0.length c0 r1.length c1 cap lf tn i p l.length c w).mono ?_
    rintro e w' ⟨rfl, hb⟩
    exact ⟨_, _, rfl, h.below hb, Fresh.refl _ _ _, hb⟩
  | false =>
    cases hr : regB i with
    | false =>
      have hi := regB_f hr
      have e0 : appR ⟨cap, r0, r1, false, lf, tn⟩ i l = (⟨cap, r0, r1, false, lf, tn⟩, 1) := by unfold appR; rw [if_neg Bool.false_ne_true, if_pos hr]
      rw [e0]
      refine (rapp_reg a0 a1 r0.length c0 r1.length c1 cap lf tn i hi.1 hi.2 p l.length c w).mono ?_
      rintro e w' ⟨rfl, hb⟩
      exact ⟨_, _, rfl, h.below hb, Fresh.refl _ _ _, hb⟩
    | true =>
      by_cases hf : cap < (RefS.row ⟨cap, r0, r1, false, lf, tn⟩ i).length + l.length
      · have e0 : appR ⟨cap, r0, r1, false, lf, tn⟩ i l = (⟨cap, r0, r1, false, lf, tn⟩, 6) := by unfold appR; rw [if_neg Bool.false_ne_true, if_neg (by rw [hr]; decide), if_pos hf]
        rw [e0]
        rcases regB_t hr with rfl | rfl
        · refine (rapp_full0 a0 a1 r0.length c0 r1.length c1 cap hcap lf tn hl0 p l.length c hl hf w).mono ?_
          rintro e w' ⟨rfl, hb⟩
          exact ⟨_, _, rfl, h.below hb, Fresh.refl _ _ _, hb⟩
        · refine (rapp_full1 a0 a1 r0.length c0 r1.length c1 cap hcap lf tn hl1 p l.length c hl hf w).mono ?_
          rintro e w' ⟨rfl, hb⟩
          exact ⟨_, _, rfl, h.below hb, Fresh.refl _ _ _, hb⟩
      · have e0 : appR ⟨cap, r0, r1, false, lf, tn⟩ i l = ((RefS.turn ⟨cap, r0, r1, false, lf, tn⟩ l.length).put i (RefS.row ⟨cap, r0, r1, false, lf, tn⟩ i ++ l.take (tDone lf l.length)), if tDown false lf l.length = true then 30 else 0) := by unfold appR; rw [if_neg Bool.false_ne_true, if_neg (by rw [hr]; decide), if_neg hf]
        rw [e0]
        rcases regB_t hr with rfl | rfl
        · have hfit : r0.length + l.length ≤ cap := by have := hf; unfold RefS.row at this; simp at this; omega
          refine (rapp_good0 a0 a1 r0.length c0 r1.length c1 cap hcap lf hlf tn ht hl0 p l.length c hfit r0 l w h.a hT).mono ?_
          rintro e w' ⟨q, k, d, rfl, hown, hb⟩
          refine ⟨_, _, rfl, put_at (R := ⟨cap, r0, r1, false, lf, tn⟩) 0 rfl _ h rfl rfl rfl (tLeft_le _ hlf) ?_ hown hb, fresh_put 0 hown, hb⟩
          show (r0 ++ l.take (tDone lf l.length)).length ≤ cap
          rw [List.length_append, List.length_take]; omega
        · have hfit : r1.length + l.length ≤ cap := by have := hf; unfold RefS.row at this; simp at this; omega
          refine (rapp_good1 a0 a1 r0.length c0 r1.length c1 cap hcap lf hlf tn ht hl1 p l.length c hfit r1 l w h.b hT).mono ?_
          rintro e w' ⟨q, k, d, rfl, hown, hb⟩
          refine ⟨_, _, rfl, put_at (R := ⟨cap, r0, r1, false, lf, tn⟩) 1 rfl _ h rfl rfl rfl (tLeft_le _ hlf) ?_ hown hb, fresh_put 1 hown, hb⟩
          show (r1 ++ l.take (tDone lf l.length)).length ≤ cap
          rw [List.length_append, List.length_take]; omega

theorem rtrunc_any {R : RefS} {A B : Value} (i n : Int) (ht : R.tn ≤ 1099511627776) (w : World) (h : RefAt w R A B) :
    Calls Try.prog 89 #[R.val A B, .int .i64 i, .int .i64 n] w (RefTo w (truncR R i n).1 A B (fun A' B' => .tuple #[(truncR R i n).1.val A' B', .int .i64 (truncR R i n).2])) := by
  obtain ⟨a0, c0, rfl⟩ := h.a.form
  obtain ⟨a1, c1, rfl⟩ := h.b.form
  obtain ⟨cap, r0, r1, down, lf, tn⟩ := R
  have hlf := h.ok.lf
  have hcap := h.ok.cap
  have hl0 := h.ok.l0
  have hl1 := h.ok.l1
  dsimp only at hlf hcap hl0 hl1 ht
  cases down with
  | true =>
    refine (rtrunc_down a0 a1 r0.length c0 r1.length c1 cap lf tn i n w).mono ?_
    rintro e w' ⟨rfl, hb⟩
    exact ⟨_, _, rfl, h.below hb, Fresh.refl _ _ _, hb⟩
  | false =>
    cases hr : regB i with
    | false =>
      have hi := regB_f hr
      have e0 : truncR ⟨cap, r0, r1, false, lf, tn⟩ i n = (⟨cap, r0, r1, false, lf, tn⟩, 1) := by unfold truncR; rw [if_neg Bool.false_ne_true, if_pos (.inl hr)]
      rw [e0]
      refine (rtrunc_reg a0 a1 r0.length c0 r1.length c1 cap lf tn i hi.1 hi.2 n w).mono ?_
      rintro e w' ⟨rfl, hb⟩
      exact ⟨_, _, rfl, h.below hb, Fresh.refl _ _ _, hb⟩
    | true =>
      by_cases hn : n < 0
      · have e0 : truncR ⟨cap, r0, r1, false, lf, tn⟩ i n = (⟨cap, r0, r1, false, lf, tn⟩, 1) := by unfold truncR; rw [if_neg Bool.false_ne_true, if_pos (.inr (.inl hn))]
        rw [e0]
        rcases regB_t hr with rfl | rfl
        · refine (rtrunc_neg0 a0 a1 r0.length c0 r1.length c1 cap lf tn n hn w).mono ?_
          rintro e w' ⟨rfl, hb⟩
          exact ⟨_, _, rfl, h.below hb, Fresh.refl _ _ _, hb⟩
        · refine (rtrunc_neg1 a0 a1 r0.length c0 r1.length c1 cap lf tn n hn w).mono ?_
          rintro e w' ⟨rfl, hb⟩
          exact ⟨_, _, rfl, h.below hb, Fresh.refl _ _ _, hb⟩
      · obtain ⟨m, rfl⟩ : ∃ m : Nat, n = (m : Int) := ⟨n.toNat, by omega⟩
        by_cases hbig : ((RefS.row ⟨cap, r0, r1, false, lf, tn⟩ i).length : Int) < (m : Int)
        · have e0 : truncR ⟨cap, r0, r1, false, lf, tn⟩ i m = (⟨cap, r0, r1, false, lf, tn⟩, 1) := by unfold truncR; rw [if_neg Bool.false_ne_true, if_pos (.inr (.inr hbig))]
          rw [e0]
          rcases regB_t hr with rfl | rfl
          · refine (rtrunc_big0 a0 a1 r0.length c0 r1.length c1 cap lf tn m hbig w).mono ?_
            rintro e w' ⟨rfl, hb⟩
            exact ⟨_, _, rfl, h.below hb, Fresh.refl _ _ _, hb⟩
          · refine (rtrunc_big1 a0 a1 r0.length c0 r1.length c1 cap lf tn m hbig w).mono ?_
            rintro e w' ⟨rfl, hb⟩
            exact ⟨_, _, rfl, h.below hb, Fresh.refl _ _ _, hb⟩
        · have e0 : truncR ⟨cap, r0, r1, false, lf, tn⟩ i m = ((RefS.turn ⟨cap, r0, r1, false, lf, tn⟩ ((RefS.row ⟨cap, r0, r1, false, lf, tn⟩ i).length - m)).put i ((RefS.row ⟨cap, r0, r1, false, lf, tn⟩ i).take ((RefS.row ⟨cap, r0, r1, false, lf, tn⟩ i).length - tDone lf ((RefS.row ⟨cap, r0, r1, false, lf, tn⟩ i).length - m))), if tDown false lf ((RefS.row ⟨cap, r0, r1, false, lf, tn⟩ i).length - m) = true then 30 else 0) := by
            unfold truncR; rw [if_neg Bool.false_ne_true, if_neg (by rintro (e | e | e); rw [hr] at e; cases e; exact hn e; exact hbig e), Int.toNat_natCast]
          rw [e0]
          rcases regB_t hr with rfl | rfl
          · have hm : m ≤ r0.length := by have := hbig; unfold RefS.row at this; simp at this; omega
            refine (rtrunc0 a0 a1 r0.length c0 r1.length c1 cap lf hlf tn ht r0 (by omega) m hm w h.a).mono ?_
            rintro e w' ⟨q, k, d, rfl, hown, hb⟩
            refine ⟨_, _, rfl, put_at (R := ⟨cap, r0, r1, false, lf, tn⟩) 0 rfl _ h rfl rfl rfl (tLeft_le _ hlf) ?_ hown hb, fresh_put 0 hown, hb⟩
            show (r0.take _).length ≤ cap
            rw [List.length_take]; omega
          · have hm : m ≤ r1.length := by have := hbig; unfold RefS.row at this; simp at this; omega
            refine (rtrunc1 a0 a1 r0.length c0 r1.length c1 cap lf hlf tn ht r1 (by omega) m hm w h.b).mono ?_
            rintro e w' ⟨q, k, d, rfl, hown, hb⟩
            refine ⟨_, _, rfl, put_at (R := ⟨cap, r0, r1, false, lf, tn⟩) 1 rfl _ h rfl rfl rfl (tLeft_le _ hlf) ?_ hown hb, fresh_put 1 hown, hb⟩
            show (r1.take _).length ≤ cap
            rw [List.length_take]; omega

theorem rload_to {R : RefS} {A B : Value} (i : Int) (p : Option Addr) (m c : Nat) (l : List Nat) (w : World) (h : RefAt w R A B) (hT : Sl encY w.heap.size w (.slice p m c) l) :
    Calls Try.prog 92 #[R.val A B, .int .i64 i, .slice p m c] w (RefTo w (loadR R i l) A B (fun A' B' => (loadR R i l).val A' B')) := by
  obtain ⟨a0, c0, rfl⟩ := h.a.form
  obtain ⟨a1, c1, rfl⟩ := h.b.form
  obtain ⟨cap, r0, r1, down, lf, tn⟩ := R
  refine (rload_any a0 a1 r0.length c0 r1.length c1 cap h.ok.cap lf down tn i p m c l w hT).mono ?_
  rintro e w' ⟨q, k, d, rfl, hown, hb⟩
  have hlen : (l.take (min l.length cap)).length ≤ cap := by rw [List.length_take]; omega
  cases hr : regB i with
  | false =>
    have hi := regB_f hr
    rw [show loadR ⟨cap, r0, r1, down, lf, tn⟩ i l = ⟨cap, r0, r1, down, lf, tn⟩ from if_pos hr]
    refine ⟨_, _, ?_, h.below hb, Fresh.refl _ _ _, hb⟩
    unfold putA putB
    rw [if_neg hi.1, if_neg hi.2]
  | true =>
    rw [show loadR ⟨cap, r0, r1, down, lf, tn⟩ i l = RefS.put ⟨cap, r0, r1, down, lf, tn⟩ i (l.take (min l.length cap)) from if_neg (by rw [hr]; decide)]
    refine ⟨_, _, ?_, put_at (R := ⟨cap, r0, r1, down, lf, tn⟩) i hr _ h rfl rfl rfl h.ok.lf hlen hown hb, fresh_put i hown, hb⟩
    rcases regB_t hr with rfl | rfl <;> rfl
theorem rcut_to {R : RefS} {A B : Value} (n : Int) (hn : n ≤ 9223372036854775807) (w : World) (h : RefAt w R A B) :
    Calls Try.prog 90 #[R.val A B, .int .i64 n] w (RefTo w (cutR R n) A B (fun A' B' => (cutR R n).val A' B')) := by
  obtain ⟨a0, c0, rfl⟩ := h.a.form
  obtain ⟨a1, c1, rfl⟩ := h.b.form
  refine (rcut_any _ _ ⟨_, _, _, rfl⟩ ⟨_, _, _, rfl⟩ R.cap R.lf R.down R.tn n w).mono ?_
  rintro e w' ⟨rfl, hb⟩
  have h2 := h.below hb
  exact ⟨_, _, rfl, ⟨h2.a, h2.b, ⟨h.ok.cap, h.ok.l0, h.ok.l1, by show (if n < 0 then (-1 : Int) else n) ≤ _; split <;> omega⟩⟩, Fresh.refl _ _ _, hb⟩
theorem rrestore_to {R : RefS} {A B : Value} (w : World) (h : RefAt w R A B) :
    Calls Try.prog 91 #[R.val A B] w (RefTo w (restoreR R) A B (fun A' B' => (restoreR R).val A' B')) := by
  obtain ⟨a0, c0, rfl⟩ := h.a.form
  obtain ⟨a1, c1, rfl⟩ := h.b.form
  refine (rrestore_any _ _ ⟨_, _, _, rfl⟩ ⟨_, _, _, rfl⟩ R.cap R.lf R.down R.tn w).mono ?_
  rintro e w' ⟨rfl, hb⟩
  have h2 := h.below hb
  exact ⟨_, _, rfl, ⟨h2.a, h2.b, ⟨h.ok.cap, h.ok.l0, h.ok.l1, by show (-1 : Int) ≤ _; decide⟩⟩, Fresh.refl _ _ _, hb⟩
theorem rnew_to (n : Int) (w : World) :
    Calls Try.prog 20 #[.int .i64 n] w fun e w' => e = .returned (RefS.val ⟨capN n, [], [], false, -1, 0⟩ (.slice none 0 0) (.slice none 0 0)) ∧ RefAt w' ⟨capN n, [], [], false, -1, 0⟩ (.slice none 0 0) (.slice none 0 0) ∧ Below w.heap.size w w' := by
  refine (rnew_any n w).mono ?_
  rintro e w' ⟨rfl, hb⟩
  exact ⟨rfl, ⟨Sl.nil _ _ _, Sl.nil _ _ _, ⟨by show capN n ≤ _; unfold capN; omega, Nat.zero_le _, Nat.zero_le _, by show (-1 : Int) ≤ _; decide⟩⟩, hb⟩
end

section
open Go.RowKit
set_option linter.unusedVariables false

/-- The device D and the document's, behind k steps. -/
structure Twin (k : Nat) (D : DevS) (R : RefS) : Prop where
  cap : D.cap = R.cap
  r0 : D.r0 = R.r0
  r1 : D.r1 = R.r1
  down : D.down = R.down
  tn : D.turned = R.tn
  tk : D.turned ≤ 1048576 * k
  lf : (R.lf = -1 ∧ 9223372036854775807 ≤ D.left + D.turned) ∨ R.lf = (D.left : Int)
theorem Twin.row {k : Nat} {D : DevS} {R : RefS} (h : Twin k D R) (i : Int) : D.row i = R.row i := by unfold DevS.row RefS.row; rw [h.r0, h.r1]
theorem Twin.more {k : Nat} {D : DevS} {R : RefS} (h : Twin k D R) : Twin (k + 1) D R := ⟨h.cap, h.r0, h.r1, h.down, h.tn, by have := h.tk; omega, h.lf⟩
theorem twin_new (n : Int) : Twin 0 (newD n) ⟨capN n, [], [], false, -1, 0⟩ := ⟨rfl, rfl, rfl, rfl, rfl, Nat.zero_le _, .inl ⟨rfl, by show 9223372036854775807 ≤ 9223372036854775807 + 0; omega⟩⟩
theorem twin_done {k : Nat} {D : DevS} {R : RefS} (h : Twin k D R) (hk : k ≤ 40) (n : Nat) (hn : n ≤ 1048576) : doneN n D.left = tDone R.lf n := by
  have ht := h.tk
  unfold doneN tDone
  rcases h.lf with ⟨e, h2⟩ | e
  · rw [e, if_neg (by omega)]; omega
  · rw [e]
    by_cases h2 : D.left < n
    · rw [if_pos (by omega)]; omega
    · rw [if_neg (by omega)]; omega
theorem twin_down {k : Nat} {D : DevS} {R : RefS} (h : Twin k D R) (hk : k ≤ 40) (n : Nat) (hn : n ≤ 1048576) (d : Bool) : (d || decide (D.left < n)) = tDown d R.lf n := by
  have ht := h.tk
  unfold tDown
  congr 1
  rcases h.lf with ⟨e, h2⟩ | e
  · rw [e, decide_eq_false (by omega), decide_eq_false (by omega)]
  · rw [e]
    by_cases h2 : D.left < n
    · rw [decide_eq_true h2, decide_eq_true (by omega)]
    · rw [decide_eq_false h2, decide_eq_false (by omega)]
theorem twin_downE {k : Nat} {D : DevS} {R : RefS} (h : Twin k D R) (hk : k ≤ 40) (n : Nat) (hn : n ≤ 1048576) : downE n D.left = if tDown false R.lf n = true then 30 else 0 := by
  rw [← twin_down h hk n hn false, Bool.false_or]
  unfold downE
  by_cases h2 : D.left < n
  · rw [if_pos h2, if_pos (decide_eq_true h2)]
  · rw [if_neg h2, if_neg (by rw [decide_eq_false h2]; decide)]
theorem twin_turn {k : Nat} {D : DevS} {R : RefS} (h : Twin k D R) (hk : k ≤ 40) (n : Nat) (hn : n ≤ 1048576) : Twin (k + 1) (D.turn n) (R.turn n) := by
  have ht := h.tk
  have hd := twin_done h hk n hn
  have hle : doneN n D.left ≤ n := Nat.min_le_left _ _
  have hle2 : doneN n D.left ≤ D.left := Nat.min_le_right _ _
  have e1 : turnedN D.turned (doneN n D.left) = D.turned + doneN n D.left := by unfold turnedN; omega
  refine ⟨h.cap, h.r0, h.r1, ?_, ?_, ?_, ?_⟩
  · show (D.down || decide (D.left < n)) = tDown R.down R.lf n
    rw [twin_down h hk n hn, h.down]
  · show turnedN D.turned (doneN n D.left) = R.tn + tDone R.lf n
    rw [e1, h.tn, hd]
  · show turnedN D.turned (doneN n D.left) ≤ _
    rw [e1]; omega
  · show (tLeft R.lf n = -1 ∧ 9223372036854775807 ≤ (D.left - doneN n D.left) + turnedN D.turned (doneN n D.left)) ∨ tLeft R.lf n = ((D.left - doneN n D.left : Nat) : Int)
    rw [e1]
    unfold tLeft
    rw [← hd]
    rcases h.lf with ⟨e, h2⟩ | e
    · exact .inl ⟨by rw [e]; rfl, by omega⟩
    · right
      rw [e, if_neg (by omega)]
      omega
theorem Twin.put {k : Nat} {D : DevS} {R : RefS} (h : Twin k D R) (i : Int) (l : List Nat) : Twin k (D.put i l) (R.put i l) := by
  unfold DevS.put RefS.put
  split
  · exact ⟨h.cap, rfl, h.r1, h.down, h.tn, h.tk, h.lf⟩
  · exact ⟨h.cap, h.r0, rfl, h.down, h.tn, h.tk, h.lf⟩
theorem twin_app {k : Nat} {D : DevS} {R : RefS} (h : Twin k D R) (hk : k ≤ 40) (ok : D.Ok) (i : Int) (l : List Nat) : (appS D i l).2 = (appR R i l).2 ∧ Twin (k + 1) (appS D i l).1 (appR R i l).1 := by
  have hrow := h.row i
  have hcap := h.cap
  have hdn := h.down
  have hok := ok.cap
  have hrl := (ok.row i).1
  unfold appS appR
  rw [← hrow, ← hcap, ← hdn]
  by_cases h1 : D.down = true
  · rw [if_pos h1, if_pos h1]; exact ⟨rfl, h.more⟩
  · rw [if_neg h1, if_neg h1]
    by_cases h2 : regB i = false
    · rw [if_pos h2, if_pos h2]; exact ⟨rfl, h.more⟩
    · rw [if_neg h2, if_neg h2]
      by_cases h3 : D.cap - (D.row i).length < l.length
      · rw [if_pos h3, if_pos (by omega)]; exact ⟨rfl, h.more⟩
      · rw [if_neg h3, if_neg (by omega)]
        have hn : l.length ≤ 1048576 := by omega
        rw [← twin_done h hk _ hn]
        exact ⟨twin_downE h hk _ hn, (twin_turn h hk _ hn).put i _⟩
theorem twin_trunc {k : Nat} {D : DevS} {R : RefS} (h : Twin k D R) (hk : k ≤ 40) (ok : D.Ok) (i n : Int) : (truncS D i n).2 = (truncR R i n).2 ∧ Twin (k + 1) (truncS D i n).1 (truncR R i n).1 := by
  have hrow := h.row i
  have hcap := h.cap
  have hdn := h.down
  have hok := ok.cap
  have hrl := (ok.row i).1
  unfold truncS truncR
  rw [← hrow, ← hdn]
  by_cases h1 : D.down = true
  · rw [if_pos h1, if_pos h1]; exact ⟨rfl, h.more⟩
  · rw [if_neg h1, if_neg h1]
    by_cases h2 : regB i = false ∨ n < 0 ∨ ((D.row i).length : Int) < n
    · rw [if_pos h2, if_pos h2]; exact ⟨rfl, h.more⟩
    · rw [if_neg h2, if_neg h2]
      have hn : (D.row i).length - n.toNat ≤ 1048576 := by omega
      rw [← twin_done h hk _ hn]
      exact ⟨twin_downE h hk _ hn, (twin_turn h hk _ hn).put i _⟩
theorem twin_load {k : Nat} {D : DevS} {R : RefS} (h : Twin k D R) (i : Int) (l : List Nat) : Twin (k + 1) (loadS D i l) (loadR R i l) := by
  unfold loadS loadR
  rw [← h.cap]
  split
  · exact h.more
  · exact h.more.put i _
theorem twin_cut {k : Nat} {D : DevS} {R : RefS} (h : Twin k D R) (n : Int) : Twin (k + 1) (cutS D n) (cutR R n) := by
  refine ⟨h.cap, h.r0, h.r1, h.down, h.tn, h.more.tk, ?_⟩
  show ((if n < 0 then (-1 : Int) else n) = -1 ∧ 9223372036854775807 ≤ cutN n + D.turned) ∨ (if n < 0 then (-1 : Int) else n) = (cutN n : Int)
  unfold cutN
  by_cases h0 : n < 0
  · rw [if_pos h0, if_pos h0]; exact .inl ⟨rfl, by omega⟩
  · rw [if_neg h0, if_neg h0]; exact .inr (by omega)
theorem twin_restore {k : Nat} {D : DevS} {R : RefS} (h : Twin k D R) : Twin (k + 1) (restoreS D) (restoreR R) :=
  ⟨h.cap, h.r0, h.r1, rfl, h.tn, h.more.tk, .inl ⟨rfl, by show 9223372036854775807 ≤ 9223372036854775807 + D.turned; omega⟩⟩
end
end Go.Proofs.Ytdimjeppcfacdaa
