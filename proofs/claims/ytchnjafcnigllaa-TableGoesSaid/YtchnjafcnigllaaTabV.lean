/- A bool that comes in; what stays while a table is turned and all of it, as it was, is told. -/
import Derived.Test.YtchnjafcnigllaaTabU
import Derived.ChangeArms
import Derived.ChangeShapes
import Derived.WideShapes
namespace Go.Proofs.Ytchnjafcnigllaa
open Go.RowKit Go.ChangeShapes Go.WideShapes
set_option linter.unusedVariables false

theorem open_bool {H : Type} {enc : TypeId × Value → H} {P : Program} {w : World} {base : Nat} {spare : Nat → Bool} {held : Bool} {r : Reach} {b0 : Nat} {t : TypeId} {v : Value} {d : DataW H} {ps : List MemPlace} (ht : P.underlying t = some .bool) (hval : Value.okWide P w r b0 t v) (hd : DataW.Trod enc P w base spare held t v d ps) :
    ∃ b, v = .bool b ∧ d = .lit (.bool b) ∧ ps = [] := by
  obtain ⟨b, rfl⟩ := okWide_bool ht hval
  obtain ⟨fuel, hf⟩ := hd
  obtain ⟨b', h, hx⟩ := DataW.trod_bool ht hf
  simp [Value.cells] at h
  subst h
  simp only [Prod.mk.injEq] at hx
  exact ⟨b, rfl, hx.1, hx.2⟩

/-- What stays while a table is turned and all of it, as it was, is told and kept in a row: what is to come, what came, what the table has. -/
structure GsJ (w0 : World) (T GB N2 q : Nat) (L : KV) (s : KV × KV × KV) (W : World) : Prop where
  but : But [T, GB, N2] w0 W
  tab : TabN W T s.2.2
  row : ∃ v, Boxed W GB 25 v ∧ W.ownsRow N2 41 2 v s.2.1.length (flatVP s.2.1) ∧ ∀ g, v.ownBlock = some g → g = N2 ∨ w0.heap.size + 2 ≤ g
  hist : s.2.1 ++ s.1 = L
  len : s.2.2.length ≤ q + s.2.1.length
  fst : s.2.1 = [] → W.heap[T]? = w0.heap[T]?
  n1 : NC W w0.heap.size
  n2 : NC W (w0.heap.size + 1)
/-- Where the blocks lie. -/
structure GsN (w0 : World) (T GB N2 : Nat) : Prop where
  t : T < N2
  n : N2 < GB
  g : GB < w0.heap.size
section
variable {w0 : World} {T GB N2 q : Nat} {L : KV} {W : World}
theorem GsJ.noRec (hN : GsN w0 T GB N2) (s : KV × KV × KV) : NoRecL w0.heap.size (GsJ w0 T GB N2 q L s) := fun W o k hk ho h => by
  have h1 := hN.t
  have h2 := hN.n
  have h3 := hN.g
  obtain ⟨v, r1, r2, r3⟩ := h.row
  have hb := But.putObj W k o
  exact ⟨h.but.trans hb (fun j hj => by simp at hj; omega), h.tab.put (by rcases hk with rfl | rfl; exact h.n1; exact h.n2),
    ⟨v, (hb.block _ r1.lt (by simp; omega)).trans r1, row_but r2 hb (fun g hg hk' => by
      have := r3 g hg
      simp at hk'
      omega), r3⟩, h.hist, h.len, fun e => (hb.block _ h.tab.lt (by simp; omega)).trans (h.fst e), h.n1.put ho, h.n2.put ho⟩
theorem GsJ.drew {s : KV × KV × KV} (h : GsJ w0 T GB N2 q L s W) : GsJ w0 T GB N2 q L s W.drew := by
  obtain ⟨v, r1, r2, r3⟩ := h.row
  exact ⟨h.but.drew, h.tab.stay (fun b cs hb => hb) rfl, ⟨v, r1, row_but (own2 := []) r2 (But.refl _ W).drew (fun _ _ hk => by cases hk), r3⟩, h.hist, h.len, h.fst, h.n1, h.n2⟩
theorem gsC {l : KV} {cs : Array Value} {f : Nat × Nat} {v0 : Value} (hT : TabN w0 T l) (hG : Boxed w0 GB 25 v0) (hN : w0.heap[N2]? = some (.cells cs 41 f)) :
    EachC w0 Prod.fst (GsJ w0 T GB N2 q L) (fun s x W => GsJ w0 T GB N2 q L s W ∧ ∃ r, s.1 = x :: r) (fun s s' => s'.1 = s.1.tail) where
  stay := fun s W h => StayN.of_but h.but (fun k hk => by
    simp at hk
    rcases hk with rfl | rfl | rfl
    · exact hT.noNode
    · intro cs' e
      have h0 : w0.heap[k]? = some (.cells #[v0] 25 (0, 0)) := hG
      rw [h0] at e
      simp at e
    · intro cs' e
      rw [hN] at e
      simp at e)
  drew := fun s W h => h.drew
  yield := fun s W x r h e => ⟨h, r, e⟩
  next := fun s s' h => h
/-- The table is turned. -/
theorem GsJ.turn {s : KV × KV × KV} {W' : World} {lt' : KV} (hN : GsN w0 T GB N2) (h : GsJ w0 T GB N2 q L s W) (hs : s.2.1 ≠ []) (hT : TabN W' T lt') (hb : But [T] W W') (hl : lt'.length ≤ q + s.2.1.length) (hz : w0.heap.size + 2 ≤ W.heap.size) : GsJ w0 T GB N2 q L (s.1, s.2.1, lt') W' := by
  have h1 := hN.t
  have h2 := hN.n
  have h3 := hN.g
  obtain ⟨v, r1, r2, r3⟩ := h.row
  exact ⟨h.but.trans hb (fun k hk => by simp at hk; subst hk; exact .inl (by simp)), hT, ⟨v, (hb.block _ r1.lt (by simp; omega)).trans r1, h.tab.row r2 hb, r3⟩, h.hist, hl, fun e => (hs e).elim,
    h.n1.but hb (by simp; omega) (by omega), h.n2.but hb (by simp; omega) (by omega)⟩
/-- One more is kept. -/
theorem GsJ.app {x : Int × Int} {r got lt : KV} (hN : GsN w0 T GB N2) (h : GsJ w0 T GB N2 q L (x :: r, got, lt) W) (hz : w0.heap.size + 2 ≤ W.heap.size) {v v' : Value} (hv : Boxed W GB 25 v) (ob : Obj) {w1 : World}
    (hown : w1.ownsRow N2 41 2 v' (got.length + 1) (flatVP got ++ [.int .i64 x.1, .int .i64 x.2])) (hg : (W.alloc ob).grownBy w1 v.ownBlock) (hat : v'.ownBlock = v.ownBlock ∨ v'.ownBlock = some (W.alloc ob).heap.size) :
    GsJ w0 T GB N2 q L (r, got ++ [x], lt) (w1.setCell ⟨GB, 0, none⟩ v') ∧ SameRec w0.heap.size W (w1.setCell ⟨GB, 0, none⟩ v') := by
  have h1 := hN.t
  have h2 := hN.n
  have h3 := hN.g
  obtain ⟨u, r1, r2, r3⟩ := h.row
  obtain rfl := boxed_eq hv r1
  have hlv := World.ownsRow.lt r2
  have hsame : ∀ k, k < W.heap.size → v.ownBlock ≠ some k → k ≠ GB → (w1.setCell ⟨GB, 0, none⟩ v').heap[k]? = W.heap[k]? := fun k hk hne hkb => by
    rw [Below.heap_setCell _ _ _ _ (by simpa using hkb), hg.block k (by simp; omega) (fun e => hne e.symm), heap_alloc_old' W ob k hk]
  have hbut : But (GB :: (match v.ownBlock with | some g => [g] | none => [])) W (w1.setCell ⟨GB, 0, none⟩ v') :=
    (((But.refl _ W).alloc ob).grown hg (fun k hk => .inl (by rw [hk]; simp))).set (.inl (by simp)) _
  have hvo : ∀ k ∈ (match v.ownBlock with | some g => [g] | none => []), v.ownBlock = some k := fun k hk => by
    cases e : v.ownBlock with
    | none => rw [e] at hk; cases hk
    | some g => rw [e] at hk; simp at hk; rw [hk]
  have hvT : v.ownBlock ≠ some T := fun e => by have := r3 _ e; omega
  have htab : TabN (w1.setCell ⟨GB, 0, none⟩ v') T lt := h.tab.stay (StayN.of_but hbut (fun k hk cs e => by
    rcases List.mem_cons.1 hk with rfl | hk
    · have h0 : W.heap[k]? = some (.cells #[v] 25 (0, 0)) := hv
      rw [h0] at e
      simp at e
    · have ho := hvo _ hk
      rcases r2.2 with ⟨e2, _⟩ | ⟨g', cap, cur, e2, _, hh, _⟩
      · rw [e2] at ho; simp [Value.ownBlock] at ho
      · rw [e2] at ho
        obtain rfl : g' = k := by simpa [Value.ownBlock] using ho
        rw [hh] at e
        simp at e)) (hsame T h.tab.lt hvT (by omega))
  have hsr : SameRec w0.heap.size W (w1.setCell ⟨GB, 0, none⟩ v') := ⟨hsame _ (by omega) (fun e => by have := r3 _ e; omega) (by omega), hsame _ (by omega) (fun e => by have := r3 _ e; omega) (by omega)⟩
  refine ⟨⟨h.but.trans hbut (fun k hk => ?_), htab, ⟨v', ?_, ?_, fun g hg' => ?_⟩, ?_, ?_, fun e => by simp at e, ?_, ?_⟩, hsr⟩
  · rcases List.mem_cons.1 hk with rfl | hk
    · exact .inl (by simp)
    · rcases r3 _ (hvo _ hk) with e | e
      · exact .inl (by simp [e])
      · exact .inr (by omega)
  · have hb1 : Boxed w1 GB 25 v := (hv.alloc ob).kept hg (fun e => by have := r3 _ e.symm; omega)
    exact hb1.set v'
  · rw [List.length_append, flatVP_app]
    refine row_but hown ((But.refl [GB] w1).set (.inl (by simp)) _) (fun g hg' hk => ?_)
    simp at hk
    subst hk
    rcases hat with e | e
    · have := r3 _ (e ▸ hg'); omega
    · rw [hg'] at e; simp at e; have := r1.lt; omega
  · rcases hat with e | e
    · exact r3 g (e ▸ hg')
    · rw [hg'] at e
      have hgz : g = W.heap.size + 1 := by simpa using e
      exact .inr (by omega)
  · have hh := h.hist
    simp only at hh ⊢
    rw [← hh]
    simp
  · have hh := h.len
    simp only at hh ⊢
    rw [List.length_append]
    omega
  · intro o e
    rw [hsr.1] at e
    exact h.n1 o e
  · intro o e
    rw [hsr.2] at e
    exact h.n2 o e
end
end Go.Proofs.Ytchnjafcnigllaa
