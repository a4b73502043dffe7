/- The contract of set.Read. -/
import Derived.Test.YtndbpmhdpjlncaaDoorReadI
namespace Go.Proofs.YtndbpmhdpjlncaaDoor
open Go.RowKit Go.Shelf

attribute [local go_sem] Oper.semAt_some

/-- One word more is read, if it tells an item behind all that are there. -/
def rdStep (o : Option Nat) (l : List UInt8) : Option Nat := o.bind fun got => (readL l).bind fun i => if got / 2 ^ i = 0 then some (got ||| 2 ^ i) else none
def rdAll (ls : List (List UInt8)) : Option Nat := ls.foldl rdStep (some 0)
def inner1 (l : List UInt8) : List UInt8 := Lib.trimPrefix l [123]
def inner2 (l : List UInt8) : List UInt8 := Lib.trimSuffix (inner1 l) [125]
/-- The set of a text. -/
def readS (l : List UInt8) : Option Nat :=
  if Lib.hasPrefix l [123] = true ∧ Lib.hasSuffix (inner1 l) [125] = true then (if inner2 l = [] then some 0 else rdAll (splitC (inner2 l))) else none
def errN (o : Option Nat) : Int := if o.isSome = true then 0 else 20
theorem rdAll_snoc (pre : List (List UInt8)) (x : List UInt8) : rdAll (pre ++ [x]) = rdStep (rdAll pre) x := by simp [rdAll]
theorem rdAll_prefix {pre zs : List (List UInt8)} (h : pre <+: zs) (hn : rdAll pre = none) : rdAll zs = none := by
  obtain ⟨r, rfl⟩ := h
  unfold rdAll at hn ⊢
  rw [List.foldl_append, hn]
  induction r with
  | nil => rfl
  | cons x r ih => exact ih
theorem readL_lt {l : List UInt8} {i : Nat} (h : readL l = some i) : i < 64 := by
  unfold readL at h
  split at h
  · split at h
    · rename_i hh
      have := itemB_t hh.1
      cases h; omega
    · cases h
  · cases h
theorem KeepsFrom.of_below {W W' : World} (B : Nat) (h : Below W.heap.size W W') : KeepsFrom B W W' := ⟨h.size, fun k _ _ h1 _ => (h.block k (Array.getElem?_eq_some_iff.1 h1).1).trans h1⟩

theorem readItem_some (l : List UInt8) (i : Nat) (hl : l.length ≤ 1048576) (w : World) (hE : Env w) (h : readL l = some i) :
    Calls Tryd.prog 50 #[.string ⟨l.toArray⟩] w fun e w' => e = .returned (.tuple #[.int .i64 i, .bool true]) ∧ Below w.heap.size w w' := by
  have := readItem_any l hl w hE
  rw [h] at this
  exact this
theorem readItem_none (l : List UInt8) (hl : l.length ≤ 1048576) (w : World) (hE : Env w) (h : readL l = none) :
    Calls Tryd.prog 50 #[.string ⟨l.toArray⟩] w fun e w' => e = .returned (.tuple #[.int .i64 0, .bool false]) ∧ Below w.heap.size w w' := by
  have := readItem_any l hl w hE
  rw [h] at this
  exact this

theorem inner1_len (l : List UInt8) : (inner1 l).length ≤ l.length := by unfold inner1 Lib.trimPrefix; split <;> simp
theorem inner2_len (l : List UInt8) : (inner2 l).length ≤ l.length := by
  refine Nat.le_trans ?_ (inner1_len l)
  unfold inner2 Lib.trimSuffix; split <;> simp

theorem read_res (tmps : Array Value) (w : World) (a b : Nat) (v1 v2 : Value) (hp : tmps.getD 2 undef = .pointer (some ⟨a, 0, none⟩)) (hq : tmps.getD 3 undef = .pointer (some ⟨b, 0, none⟩))
    (c1 : w.cell? ⟨a, 0, none⟩ = some v1) (c2 : w.cell? ⟨b, 0, none⟩ = some v2) : (results Tryd.f25 tmps).run Tryd.prog w = .ok (.tuple #[v1, v2]) w := by
  have hp' : tmps[2]?.getD undef = .pointer (some ⟨a, 0, none⟩) := by simpa using hp
  have hq' : tmps[3]?.getD undef = .pointer (some ⟨b, 0, none⟩) := by simpa using hq
  have k1 : (loadVar 22 ⟨a, 0, none⟩).run Tryd.prog w = .ok v1 w := by simp [go_sem, c1]
  have k2 : (loadVar 33 ⟨b, 0, none⟩).run Tryd.prog w = .ok v2 w := by simp [go_sem, c2]
  simp [results, hp', hq', asAddr, k1, k2]

/-- What holds between two words: what is got; the results are still nothing. -/
def InvR (B : Nat) (w : World) (pre : List (List UInt8)) (W : World) : Prop :=
  ∃ got, rdAll pre = some got ∧ got < 18446744073709551616 ∧ Boxed W (B + 1 + 1) 22 (.int .u64 (got : Nat)) ∧ Boxed W B 22 (.int .u64 0) ∧ Boxed W (B + 1) 33 (.int .i64 0) ∧ Below B w W
/-- What holds once a word has told no item that may come. -/
def StopR (B : Nat) (w : World) (c : Code) (pre : List (List UInt8)) (W : World) : Prop :=
  c = .ret ∧ rdAll pre = none ∧ Boxed W B 22 (.int .u64 0) ∧ Boxed W (B + 1) 33 (.int .i64 20) ∧ Below B w W
theorem invR_own {B B' : Nat} {w : World} (hB : B + 3 ≤ B') (hw : B ≤ w.heap.size) : OwnFrom B' (InvR B w) := fun s W W' row ⟨got, h1, h2, h3, h4, h5, h6⟩ hg hr =>
  ⟨got, h1, h2, h3.kept hg (fun e => by have := (hr _ e.symm).1; omega), h4.kept hg (fun e => by have := (hr _ e.symm).1; omega), h5.kept hg (fun e => by have := (hr _ e.symm).1; omega),
    ownFrom_below (β := Unit) hw (show B ≤ B' by omega) () W W' row h6 hg hr⟩
theorem stopR_own {B B' : Nat} {w : World} (hB : B + 3 ≤ B') (hw : B ≤ w.heap.size) (c : Code) : OwnFrom B' (StopR B w c) := fun s W W' row ⟨h1, h2, h4, h5, h6⟩ hg hr =>
  ⟨h1, h2, h4.kept hg (fun e => by have := (hr _ e.symm).1; omega), h5.kept hg (fun e => by have := (hr _ e.symm).1; omega),
    ownFrom_below (β := Unit) hw (show B ≤ B' by omega) () W W' row h6 hg hr⟩
theorem invR_cells (B : Nat) (w : World) (bs : List Nat) (hb : ∀ r ∈ bs, B + 3 ≤ r) : AbidesCells bs (InvR B w) := fun s W r v hr ⟨got, h1, h2, h3, h4, h5, h6⟩ => by
  have := hb r hr
  exact ⟨got, h1, h2, h3.other (by omega) v, h4.other (by omega) v, h5.other (by omega) v, h6.setCell (by show B ≤ r; omega) v⟩
theorem stopR_cells (B : Nat) (w : World) (bs : List Nat) (hb : ∀ r ∈ bs, B + 3 ≤ r) (c : Code) : AbidesCells bs (StopR B w c) := fun s W r v hr ⟨h1, h2, h4, h5, h6⟩ => by
  have := hb r hr
  exact ⟨h1, h2, h4.other (by omega) v, h5.other (by omega) v, h6.setCell (by show B ≤ r; omega) v⟩
theorem keeps_set {B r : Nat} {W W' : World} {t : TypeId} {v : Value} (h : KeepsFrom B W W') (hb : Boxed W' r t v) (u : Value) : KeepsFrom B W (W'.setCell ⟨r, 0, none⟩ u) :=
  ⟨Nat.le_trans h.size (by simp [World.setCell]), fun k o hk h1 h2 => by
    have h3 := h.same k o hk h1 h2
    have hne : k ≠ r := by
      rintro rfl
      rw [show W'.heap[k]? = _ from hb] at h3
      cases h3
      cases h2
    exact (Below.heap_setCell _ _ _ _ hne).trans h3⟩

theorem or_bit {got i : Nat} (hg : got < 18446744073709551616) (hi : i < 64) :
    bits .or .u64 (got : Int) (IntKind.u64.wrap (2 ^ i)) = ((got ||| 2 ^ i : Nat) : Int) ∧ got ||| 2 ^ i < 18446744073709551616 := by
  obtain ⟨p1, p2⟩ := pow_lt64 hi
  have e : ((2 : Int) ^ i) = ((2 ^ i : Nat) : Int) := by norm_cast
  exact ⟨by rw [e, wrap_u64_of _ (by omega), u64_or_nat _ _ hg (by omega)], Nat.or_lt_two_pow (n := 64) hg (by omega)⟩

set_option maxRecDepth 100000 in
set_option maxHeartbeats 4000000 in
theorem read_any (l : List UInt8) (hl : l.length ≤ 1048576) (w : World) (hE : Env w) :
    Calls Tryd.prog 25 #[.string ⟨l.toArray⟩] w fun e w' => e = .returned (.tuple #[.int .u64 ((readS l).getD 0 : Nat), .int .i64 (errN (readS l))]) ∧ Below w.heap.size w w' := by
  have HP : Hid (∀ w, CallsIn Fence.wide 2 Tryd.prog 47 #[.string ⟨l.toArray⟩, .string ⟨#[123]⟩] w fun e w' => e = .returned (.tuple #[.string ⟨(inner1 l).toArray⟩, .bool (Lib.hasPrefix l [123])]) ∧ w = w') := Lib.hid (fun w => callsIn_wide.2 (by
    refine (Tryd.strings_CutPrefix ⟨l.toArray⟩ ⟨#[123]⟩ w).mono ?_
    rintro e w' ⟨rfl, rfl⟩
    exact ⟨rfl, rfl⟩))
  have HS : Hid (∀ w, CallsIn Fence.wide 2 Tryd.prog 48 #[.string ⟨(inner1 l).toArray⟩, .string ⟨#[125]⟩] w fun e w' => e = .returned (.tuple #[.string ⟨(inner2 l).toArray⟩, .bool (Lib.hasSuffix (inner1 l) [125])]) ∧ w = w') := Lib.hid (fun w => callsIn_wide.2 (by
    refine (Tryd.strings_CutSuffix ⟨(inner1 l).toArray⟩ ⟨#[125]⟩ w (by have := inner1_len l; simp [ByteArray.size]; omega)).mono ?_
    rintro e w' ⟨rfl, rfl⟩
    exact ⟨rfl, rfl⟩))
  have hmx : Tryd.prog.follows .mixedOrders = true := by kernel_rfl
  refine (callsIn_wide (n := 3)).1 ?_
  refine callsIn_of_wp_marks Tryd.func25 rfl trivial ?_ rfl
  simp only [Tryd.ntmps25, List.size_toArray, List.length_cons, List.length_nil, Nat.reduceAdd, Nat.reduceSub, Array.replicate_succ, Array.replicate_zero, List.push_toArray, List.append_toArray, List.nil_append, List.cons_append]
  have hbad : ∀ (h1 : Lib.hasPrefix l [123] = false ∨ Lib.hasSuffix (inner1 l) [125] = false), readS l = none := by
    intro h1; unfold readS; rcases h1 with h1 | h1 <;> simp [h1]
  have x1 : ∀ v : Int, ((w.alloc (.cells #[.int .u64 0] 22)).alloc (.cells #[.int .i64 v] 33)).cell? ⟨w.heap.size, 0, none⟩ = some (.int .u64 0) := fun v => ((Boxed.new w 22 (.int .u64 0)).alloc (.cells #[.int .i64 v] 33)).cell
  have x2 : ∀ v : Int, ((w.alloc (.cells #[.int .u64 0] 22)).alloc (.cells #[.int .i64 v] 33)).cell? ⟨w.heap.size + 1, 0, none⟩ = some (.int .i64 v) := fun v => by
    have := (Boxed.new (w.alloc (.cells #[.int .u64 0] 22)) 33 (.int .i64 v)).cell
    rw [World.size_alloc] at this; exact this
  have xb : ∀ v : Int, Below w.heap.size w ((w.alloc (.cells #[.int .u64 0] 22)).alloc (.cells #[.int .i64 v] 33)) := fun v => ((Below.refl _ w).alloc (Nat.le_refl _) _).alloc (by simp) _
  cases h1 : Lib.hasPrefix l [123] with
  | false =>
    rw [hbad (.inl h1)]
    rw [h1] at HP
    gi_wp2_with (first | (refine ⟨trivial, ?_⟩; gi_at_call 47; refine (HP.out _).mono ?_; rintro e w' ⟨rfl, rfl⟩) | (refine ⟨trivial, ?_⟩; gi_at_call 48; refine (HS.out _).mono ?_; rintro e w' ⟨rfl, rfl⟩))
    refine ⟨_, read_res _ _ w.heap.size (w.heap.size + 1) _ _ rfl rfl (x1 20) (x2 20), rfl, xb 20⟩
  | true =>
    rw [h1] at HP
    cases h2 : Lib.hasSuffix (inner1 l) [125] with
    | false =>
      rw [hbad (.inr h2)]
      rw [h2] at HS
      gi_wp2_with (first | (refine ⟨trivial, ?_⟩; gi_at_call 47; refine (HP.out _).mono ?_; rintro e w' ⟨rfl, rfl⟩) | (refine ⟨trivial, ?_⟩; gi_at_call 48; refine (HS.out _).mono ?_; rintro e w' ⟨rfl, rfl⟩))
      refine ⟨_, read_res _ _ w.heap.size (w.heap.size + 1) _ _ rfl rfl (x1 20) (x2 20), rfl, xb 20⟩
    | true =>
      rw [h2] at HS
      by_cases h3 : inner2 l = []
      · rw [show readS l = some 0 from by unfold readS; simp [h1, h2, h3]]
        rw [h3] at HS
        gi_wp2_with (first | (refine ⟨trivial, ?_⟩; gi_at_call 47; refine (HP.out _).mono ?_; rintro e w' ⟨rfl, rfl⟩) | (refine ⟨trivial, ?_⟩; gi_at_call 48; refine (HS.out _).mono ?_; rintro e w' ⟨rfl, rfl⟩))
        refine ⟨_, read_res _ _ w.heap.size (w.heap.size + 1) _ _ rfl rfl (x1 0) (x2 0), rfl, xb 0⟩
      · have hne : (inner2 l).isEmpty = false := by cases h : inner2 l with
          | nil => exact absurd h h3
          | cons => rfl
        rw [show readS l = rdAll (splitC (inner2 l)) from by unfold readS; simp [h1, h2, h3]]
        gi_wp2_with (first | (refine ⟨trivial, ?_⟩; gi_at_call 47; refine (HP.out _).mono ?_; rintro e w' ⟨rfl, rfl⟩) | (refine ⟨trivial, ?_⟩; gi_at_call 48; refine (HS.out _).mono ?_; rintro e w' ⟨rfl, rfl⟩) | (refine ⟨trivial, ?_⟩; gi_at_call 49; refine (callsIn_wide.2 (splitSeq_any _ _)).mono ?_; rintro e w' ⟨rfl, rfl⟩))
        rename_i Q' K hKQ
        have hlen : (inner2 l).length ≤ 1048576 := Nat.le_trans (inner2_len l) hl
        have hcl := splitC_len (inner2 l)
        obtain ⟨l2, hl2⟩ : ∃ l2, inner2 l = l2 := ⟨_, rfl⟩
        obtain ⟨l1, hl1⟩ : ∃ l1, inner1 l = l1 := ⟨_, rfl⟩
        rw [hl2] at hlen hcl ⊢
        rw [hl1]
        have HL := Lib.hid hl2
        clear HP HS hbad h1 h2 h3 hne hl2 hl1 x1 x2 xb
        obtain ⟨W0, hW0⟩ : ∃ W0, ((((((w.alloc (Obj.cells #[Value.int IntKind.u64 0] 22)).alloc (Obj.cells #[Value.int IntKind.i64 0] 33)).alloc (Obj.cells #[Value.int IntKind.u64 0] 22)).alloc
              (Obj.cells #[Value.string ⟨l2.toArray⟩] 9)).alloc (Obj.cells #[Value.string ⟨#[44]⟩] 9)).alloc (Obj.cells #[Value.int IntKind.i64 0] 3)) = W0 := ⟨_, rfl⟩
        have z0 : W0.heap.size = w.heap.size + 6 := by rw [← hW0]; simp
        have y0 : Boxed W0 w.heap.size 22 (.int .u64 0) := by rw [← hW0]; exact ((((((Boxed.new w _ _).alloc _).alloc _).alloc _).alloc _).alloc _)
        have y1 : Boxed W0 (w.heap.size + 1) 33 (.int .i64 0) := by
          have := ((((Boxed.new (w.alloc (Obj.cells #[Value.int IntKind.u64 0] 22)) 33 (.int .i64 0)).alloc (Obj.cells #[Value.int IntKind.u64 0] 22)).alloc (Obj.cells #[Value.string ⟨l2.toArray⟩] 9)).alloc (Obj.cells #[Value.string ⟨#[44]⟩] 9)).alloc (Obj.cells #[Value.int IntKind.i64 0] 3)
          rw [hW0] at this; simp only [World.size_alloc] at this; exact this
        have y2 : Boxed W0 (w.heap.size + 1 + 1) 22 (.int .u64 0) := by
          have := (((Boxed.new ((w.alloc (Obj.cells #[Value.int IntKind.u64 0] 22)).alloc (Obj.cells #[Value.int IntKind.i64 0] 33)) 22 (.int .u64 0)).alloc (Obj.cells #[Value.string ⟨l2.toArray⟩] 9)).alloc (Obj.cells #[Value.string ⟨#[44]⟩] 9)).alloc (Obj.cells #[Value.int IntKind.i64 0] 3)
          rw [hW0] at this; simp only [World.size_alloc] at this; exact this
        have y3 : Boxed W0 (w.heap.size + 1 + 1 + 1) 9 (encB l2) := by
          have := ((Boxed.new (((w.alloc (Obj.cells #[Value.int IntKind.u64 0] 22)).alloc (Obj.cells #[Value.int IntKind.i64 0] 33)).alloc (Obj.cells #[Value.int IntKind.u64 0] 22)) 9 (.string ⟨l2.toArray⟩)).alloc (Obj.cells #[Value.string ⟨#[44]⟩] 9)).alloc (Obj.cells #[Value.int IntKind.i64 0] 3)
          rw [hW0] at this; simp only [World.size_alloc] at this; exact this
        have y4 : Boxed W0 (w.heap.size + 1 + 1 + 1 + 1) 9 (.string ⟨#[44]⟩) := by
          have := (Boxed.new ((((w.alloc (Obj.cells #[Value.int IntKind.u64 0] 22)).alloc (Obj.cells #[Value.int IntKind.i64 0] 33)).alloc (Obj.cells #[Value.int IntKind.u64 0] 22)).alloc (Obj.cells #[Value.string ⟨l2.toArray⟩] 9)) 9 (.string ⟨#[44]⟩)).alloc (Obj.cells #[Value.int IntKind.i64 0] 3)
          rw [hW0] at this; simp only [World.size_alloc] at this; exact this
        have y5 : Boxed W0 (w.heap.size + 1 + 1 + 1 + 1 + 1) 3 (.int .i64 0) := by
          have := Boxed.new (((((w.alloc (Obj.cells #[Value.int IntKind.u64 0] 22)).alloc (Obj.cells #[Value.int IntKind.i64 0] 33)).alloc (Obj.cells #[Value.int IntKind.u64 0] 22)).alloc (Obj.cells #[Value.string ⟨l2.toArray⟩] 9)).alloc (Obj.cells #[Value.string ⟨#[44]⟩] 9)) 3 (.int .i64 0)
          rw [hW0] at this; simp only [World.size_alloc] at this; exact this
        have hB0 : Below w.heap.size w W0 := by
          rw [← hW0]
          exact ((((((Below.refl _ w).alloc (Nat.le_refl _) _).alloc (by simp) _).alloc (by simp; omega) _).alloc (by simp; omega) _).alloc (by simp; omega) _).alloc (by simp; omega) _
        rw [hW0]
        clear hW0
        refine rangeO rfl (by omega) (gf := 78) (lb := #[.pointer (some ⟨w.heap.size + 1 + 1 + 1 + 1, 0, none⟩), .pointer (some ⟨w.heap.size + 1 + 1 + 1, 0, none⟩), .pointer (some ⟨w.heap.size + 1 + 1 + 1 + 1 + 1, 0, none⟩)]) rfl trivial (enters_of Tryd.func78 (by kernel_rfl) rfl)
          (split_seq w.heap.size (w.heap.size + 1 + 1 + 1) l2 hlen W0 (by omega) y3 y4 y5) (fun r h => by simp at h; omega) (by omega) (Below.refl _ _) (fun _ => rfl)
          (InvR w.heap.size w) (StopR w.heap.size w) (invR_own (by omega) (Nat.le_refl _)) (stopR_own (by omega) (Nat.le_refl _)) (invR_cells _ _ _ (fun r h => by simp at h; omega)) (stopR_cells _ _ _ (fun r h => by simp at h; omega))
          ⟨0, rfl, by omega, y2, y0, y1, hB0⟩
          (fun x => { tmps := #[.string ⟨l.toArray⟩, undef, .pointer (some ⟨w.heap.size, 0, none⟩), .pointer (some ⟨w.heap.size + 1, 0, none⟩), .string ⟨l2.toArray⟩, .bool true, .bool true, .pointer (some ⟨w.heap.size + 1 + 1, 0, none⟩), encB x, undef, undef,
            .tuple #[.string ⟨l1.toArray⟩, .bool true], .string ⟨l.toArray⟩, .tuple #[.string ⟨l1.toArray⟩, .bool true], .string ⟨l1.toArray⟩, .bool true, .tuple #[.string ⟨l2.toArray⟩, .bool true], .string ⟨l1.toArray⟩, .tuple #[.string ⟨l2.toArray⟩, .bool true],
            .string ⟨l2.toArray⟩, .bool true, .bool true, .bool false, .bool false, .bool true, .bool false, .bool false, .string ⟨l2.toArray⟩, .bool false, .string ⟨l2.toArray⟩,
            .func (.func 78) #[] #[.pointer (some ⟨w.heap.size + 1 + 1 + 1 + 1, 0, none⟩), .pointer (some ⟨w.heap.size + 1 + 1 + 1, 0, none⟩), .pointer (some ⟨w.heap.size + 1 + 1 + 1 + 1 + 1, 0, none⟩)],
            encB x, undef, undef, undef, undef, undef, undef, undef, undef, undef, undef, undef, undef, undef, undef, undef, undef, undef, undef], defers := [] }) ?assign ?body ?done ?stop
        case assign =>
          intro k x W K hK
          gi_wp2
          exact hK
        case body =>
          rintro k pre x W ⟨got, hr, hlt, g2, g0, g1, hB⟩ hp hz
          have hx : x.length ≤ 1048576 := Nat.le_trans (hcl x (hp.subset (by simp))) hlen
          have hEW := hE.below hB (by have := hE.size; omega)
          have hsn := rdAll_snoc pre x
          rw [hr] at hsn
          dsimp only [encB]
          cases hi : readL x with
          | none =>
            have HN : Hid (rdAll (pre ++ [x]) = none) := Lib.hid (by rw [hsn]; simp [rdStep, hi])
            have HR := Lib.hid (readItem_none x hx W hEW hi)
            clear hsn hi hEW hp
            gi_wp2_with (refine ⟨trivial, ?_⟩; gi_at_call 50; refine (CallsIn.inRound k (callsIn_wide.2 HR.out)).mono ?_; rintro e w1 ⟨rfl, hb1⟩; have hbw := hB.trans (hb1.mono hB.size); have g0' : Boxed w1 w.heap.size 22 (.int .u64 0) := (hb1.block _ g0.lt).trans g0; have g1' : Boxed w1 (w.heap.size + 1) 33 (.int .i64 0) := (hb1.block _ g1.lt).trans g1; have g2' : Boxed w1 (w.heap.size + 1 + 1) 22 (.int .u64 (got : Nat)) := (hb1.block _ g2.lt).trans g2; have c0 := g0'.cell; have c1 := g1'.cell; have f0 := g0'.frozen; have f1 := g1'.frozen; have c2 := g2'.cell; have f2 := g2'.frozen)
            exact ⟨keeps_set (keeps_set (KeepsFrom.of_below _ hb1) g0' _) (g1'.other (by omega) _) _, rfl, HN.out, (g0'.set _).other (by omega) _, (g1'.other (by omega) _).set _, (hbw.setCell (Nat.le_refl _) _).setCell (by simp) _⟩
          | some i =>
            have hi64 := readL_lt hi
            have HR := Lib.hid (readItem_some x i hx W hEW hi)
            by_cases hq : got / 2 ^ i = 0
            · have HN : Hid (rdAll (pre ++ [x]) = some (got ||| 2 ^ i)) := Lib.hid (by rw [hsn]; show ((readL x).bind fun i => if got / 2 ^ i = 0 then some (got ||| 2 ^ i) else none) = _; rw [hi]; exact if_pos hq)
              have hqi : (((got : Nat) : Int) / 2 ^ i) = 0 := by
                have : (((got / 2 ^ i : Nat)) : Int) = 0 := by rw [hq]; rfl
                rw [← this]; norm_cast
              clear hsn hi hEW hp
              gi_wp2_with (refine ⟨trivial, ?_⟩; gi_at_call 50; refine (CallsIn.inRound k (callsIn_wide.2 HR.out)).mono ?_; rintro e w1 ⟨rfl, hb1⟩; have hbw := hB.trans (hb1.mono hB.size); have g0' : Boxed w1 w.heap.size 22 (.int .u64 0) := (hb1.block _ g0.lt).trans g0; have g1' : Boxed w1 (w.heap.size + 1) 33 (.int .i64 0) := (hb1.block _ g1.lt).trans g1; have g2' : Boxed w1 (w.heap.size + 1 + 1) 22 (.int .u64 (got : Nat)) := (hb1.block _ g2.lt).trans g2; have c0 := g0'.cell; have c1 := g1'.cell; have f0 := g0'.frozen; have f1 := g1'.frozen; have c2 := g2'.cell; have f2 := g2'.frozen)
              obtain ⟨o1, o2⟩ := or_bit hlt hi64
              gi_region_with_o (fail)
              all_goals
                have hKp := keeps_set (KeepsFrom.of_below W0.heap.size hb1) g2' (.int .u64 ((got ||| 2 ^ i : Nat) : Int))
                refine ⟨⟨hKp.size, hKp.same⟩, ⟨((hb1.mono hB.size).setCell (by show w.heap.size ≤ w.heap.size + 1 + 1; omega) _).drew, fun k h1 h2 => by omega, fun k hk => ?_⟩, got ||| 2 ^ i, HN.out, o2, g2'.set _, g0'.other (by omega) _, g1'.other (by omega) _, (hbw.setCell (by show w.heap.size ≤ w.heap.size + 1 + 1; omega) _).drew⟩
                simp only [List.mem_cons, List.not_mem_nil, or_false] at hk
                exact (Below.heap_setCell _ _ _ _ (by show k ≠ w.heap.size + 1 + 1; omega)).trans (hb1.block k (by omega))
            · have HN : Hid (rdAll (pre ++ [x]) = none) := Lib.hid (by rw [hsn]; show ((readL x).bind fun i => if got / 2 ^ i = 0 then some (got ||| 2 ^ i) else none) = _; rw [hi]; exact if_neg hq)
              have hqi : ((((got : Nat) : Int) / 2 ^ i) != 0) = true := by
                rw [bne_iff_ne]
                intro h
                apply hq
                exact_mod_cast h
              clear hsn hi hEW hp
              gi_wp2_with (refine ⟨trivial, ?_⟩; gi_at_call 50; refine (CallsIn.inRound k (callsIn_wide.2 HR.out)).mono ?_; rintro e w1 ⟨rfl, hb1⟩; have hbw := hB.trans (hb1.mono hB.size); have g0' : Boxed w1 w.heap.size 22 (.int .u64 0) := (hb1.block _ g0.lt).trans g0; have g1' : Boxed w1 (w.heap.size + 1) 33 (.int .i64 0) := (hb1.block _ g1.lt).trans g1; have g2' : Boxed w1 (w.heap.size + 1 + 1) 22 (.int .u64 (got : Nat)) := (hb1.block _ g2.lt).trans g2; have c0 := g0'.cell; have c1 := g1'.cell; have f0 := g0'.frozen; have f1 := g1'.frozen; have c2 := g2'.cell; have f2 := g2'.frozen)
              exact ⟨keeps_set (keeps_set (KeepsFrom.of_below _ hb1) g0' _) (g1'.other (by omega) _) _, rfl, HN.out, (g0'.set _).other (by omega) _, (g1'.other (by omega) _).set _, (hbw.setCell (Nat.le_refl _) _).setCell (by simp) _⟩
        case done =>
          rintro D ys W hD rfl ⟨got, hr, hlt, g2, g0, g1, hB⟩ hK
          refine hKQ _ _ ?_
          have c2 := g2.cell
          have c0 := g0.cell
          have c1 := g1.cell
          have f0 := g0.frozen
          have f1 := g1.frozen
          gi_wp2
          have hDl := (Array.getElem?_eq_some_iff.1 hK).1
          have k0 := (g0.set (.int .u64 (got : Nat))).other (B' := w.heap.size + 1) (by omega) (.int .i64 0)
          have k1 := (g1.other (B' := w.heap.size) (by omega) (.int .u64 (got : Nat))).set (.int .i64 0)
          have hKD : ((W.setCell ⟨w.heap.size, 0, none⟩ (.int .u64 (got : Nat))).setCell ⟨w.heap.size + 1, 0, none⟩ (.int .i64 0)).heap[D]? = some (.deferred (some [])) :=
            (Below.heap_setCell _ _ _ _ (by show D ≠ w.heap.size + 1; omega)).trans ((Below.heap_setCell _ _ _ _ (by show D ≠ w.heap.size; omega)).trans hK)
          have hbD := ((hB.setCell (p := ⟨w.heap.size, 0, none⟩) (Nat.le_refl _) (.int .u64 (got : Nat))).setCell (p := ⟨w.heap.size + 1, 0, none⟩) (Nat.le_succ _) (.int .i64 0)).trans (belowK_b (w := w) (Nat.le_refl _) _ D _ (.deferred none) (by omega) hKD rfl rfl)
          have hr2 : rdAll (splitC (inner2 l)) = some got := by rw [HL.out]; exact hr
          rw [hr2]
          refine ⟨by simp, .inl ⟨_, _, rfl, run_takeDeferred hKD, ?_⟩⟩
          exact ⟨_, read_res _ _ w.heap.size (w.heap.size + 1) _ _ rfl rfl (k0.kept (grownBy_putObj' _ D (.deferred none)) (fun e => by cases e; omega)).cell (k1.kept (grownBy_putObj' _ D (.deferred none)) (fun e => by cases e; omega)).cell, rfl, hbD⟩
        case stop =>
          rintro D c pre W hD hp ⟨rfl, hn, g0, g1, hB⟩ hK
          have hn2 := rdAll_prefix hp hn
          gi_wp2
          have hr2 : rdAll (splitC (inner2 l)) = none := by rw [HL.out]; exact hn2
          rw [hr2]
          refine ⟨by simp, .inl ⟨_, _, rfl, run_takeDeferred hK, ?_⟩⟩
          exact ⟨_, read_res _ _ w.heap.size (w.heap.size + 1) _ _ rfl rfl (g0.kept (grownBy_putObj' _ D (.deferred none)) (fun e => by cases e; omega)).cell (g1.kept (grownBy_putObj' _ D (.deferred none)) (fun e => by cases e; omega)).cell, rfl,
            hB.trans (belowK_b (w := w) (Nat.le_refl _) _ D _ (.deferred none) (by omega) hK rfl rfl)⟩

end Go.Proofs.YtndbpmhdpjlncaaDoor
