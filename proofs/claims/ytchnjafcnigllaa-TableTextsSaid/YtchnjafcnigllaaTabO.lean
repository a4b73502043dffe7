/- A table of all that comes: Of. -/
import Derived.Test.YtchnjafcnigllaaTabJ
import Derived.Test.YtchnjafcnigllaaRangeL
namespace Go.Proofs.Ytchnjafcnigllaa
open Go.RowKit
set_option linter.unusedVariables false
attribute [local go_sem] Oper.semAt_some eqSeq8

def putAll (acc xs : KV) : KV := xs.foldl (fun l x => Tr.insK ltN x.1 x.2 l) acc
theorem putAll_snoc (acc xs : KV) (x : Int × Int) : putAll acc (xs ++ [x]) = Tr.insK ltN x.1 x.2 (putAll acc xs) := by unfold putAll; rw [List.foldl_append]; rfl
theorem insK_len (k v : Int) : ∀ l : KV, (Tr.insK ltN k v l).length ≤ l.length + 1
  | [] => Nat.le_refl _
  | (a, b) :: r => by
    unfold Tr.insK
    split
    · simp
    · split
      · simp
      · have := insK_len k v r
        simp; omega
theorem putAll_len : ∀ (xs acc : KV), (putAll acc xs).length ≤ acc.length + xs.length
  | [], acc => by unfold putAll; simp
  | x :: xs, acc => by
    have h1 := putAll_len xs (Tr.insK ltN x.1 x.2 acc)
    have h2 := insK_len x.1 x.2 acc
    show (putAll (Tr.insK ltN x.1 x.2 acc) xs).length ≤ _
    simp; omega
/-- No cells stand in a block. -/
def NC (W : World) (B : Nat) : Prop := ∀ o, W.heap[B]? = some o → o.isCells = false
theorem NC.but {own : List Nat} {W W' : World} {B : Nat} (h : NC W B) (hb : But own W W') (ho : B ∉ own) (hl : B < W.heap.size) : NC W' B := fun o e => h o ((hb.block B hl ho).symm.trans e)
theorem NC.put {W : World} {B k : Nat} {o : Obj} (h : NC W B) (ho : o.isCells = false) : NC (W.putObj k o) B := fun o' e => by
  by_cases hk : B = k
  · subst hk
    by_cases hl : B < W.heap.size
    · rw [World.putObj_heap_same hl] at e
      cases e
      exact ho
    · have := (Array.getElem?_eq_some_iff.1 e).1
      have h2 := (But.putObj W B o).size
      simp [World.putObj] at this
      omega
  · rw [World.putObj_heap_other hk] at e
    exact h o' e
/-- A table stays where a record is put. -/
theorem TabN.put {W : World} {b k : Nat} {l : KV} {o : Obj} (h : TabN W b l) (hk : NC W k) : TabN (W.putObj k o) b l := by
  have hne : ∀ g cs t f, W.heap[g]? = some (.cells cs t f) → g ≠ k := fun g cs t f e ek => by
    subst ek
    have := hk _ e
    simp [Obj.isCells] at this
  obtain ⟨t, a, h1, h2, h3⟩ := h.at_
  exact h.stay (fun g cs hg => (World.putObj_heap_other (hne g _ _ _ hg)).trans hg) (World.putObj_heap_other (hne b _ _ _ h1))
/-- What stays between two puts of Of. -/
structure OfJ (w : World) (L : KV) (s : KV × KV) (W : World) : Prop where
  tab : TabN W w.heap.size (putAll [] s.2)
  bel : Below w.heap.size w W
  app : s.2 ++ s.1 = L
  n1 : NC W (w.heap.size + 1)
  n2 : NC W (w.heap.size + 2)
theorem OfJ.noRec (w : World) (L : KV) (s : KV × KV) : NoRecL (w.heap.size + 1) (OfJ w L s) := fun W o k hk ho h =>
  ⟨h.tab.put (by rcases hk with rfl | rfl; exact h.n1; exact h.n2), h.bel.trans ((But.putObj W k o).below (fun j hj => by simp at hj; omega) h.bel.size), h.app, h.n1.put ho, h.n2.put ho⟩
theorem ofC (w : World) (L : KV) : EachC w Prod.fst (OfJ w L) (fun s x W => OfJ w L s W ∧ ∃ r, s.1 = x :: r) (fun s s' => s'.1 = s.1.tail) where
  stay := fun s W h => StayN.of_below h.bel
  drew := fun s W h => ⟨h.tab.stay (fun b cs hb => hb) rfl, h.bel.drew, h.app, h.n1, h.n2⟩
  yield := fun s W x r h e => ⟨h, r, e⟩
  next := fun s s' h => h
set_option maxRecDepth 100000 in
set_option maxHeartbeats 8000000 in
theorem of_any (gf : Nat) (lb : Array Value) (L : KV) (hL : L.length ≤ 100000) (w : World) (heg : ∀ args w, (callFunc gf args).run Try.prog w = .ok (.enter gf args) w)
    (hS : ∀ Jx : Code → World → Prop, SeqG Fence.wide 2 Try.prog gf lb (fun x => #[.int .i64 x.1, .int .i64 x.2]) (w.heap.size + 1) (OfJ w L) (fun s x W => OfJ w L s W ∧ ∃ r, s.1 = x :: r) Jx (fun s s' => s'.1 = s.1.tail) (fun s _ => s.1 = []) (L, [])) :
    Calls Try.prog 24 #[.func (.func gf) #[] lb] w fun e w' => e = .returned (.pointer (some ⟨w.heap.size, 0, none⟩)) ∧ TabN w' w.heap.size (putAll [] L) ∧ Below w.heap.size w w' := by
  have HG := Lib.hid heg
  have HSQ := Lib.hid hS
  clear heg hS
  refine (callsIn_wide (n := 3)).1 ?_
  refine callsIn_of_wp_marks Try.func24 rfl trivial ?_ rfl
  simp only [Try.ntmps24, List.size_toArray, List.length_cons, List.length_nil, Nat.reduceAdd, Nat.reduceSub, Array.replicate_succ, Array.replicate_zero, List.push_toArray, List.append_toArray, List.nil_append, List.cons_append]
  refine wpIn_wide.2 ?_
  go_wp2_with fail
  obtain ⟨w1, hw1⟩ : ∃ w1, w.alloc (Obj.cells #[.pointer none] 73) = w1 := ⟨_, rfl⟩
  have hz1 : w1.heap.size = w.heap.size + 1 := by rw [← hw1]; simp
  have hb1 : Below w.heap.size w w1 := by rw [← hw1]; exact (Below.refl _ _).alloc (Nat.le_refl _) _
  have ht1 : TabN w1 w.heap.size [] := ⟨⟨.nil, none, by rw [← hw1]; exact World.alloc_heap_new w _, rfl, rfl⟩, List.Pairwise.nil⟩
  have HZ1 := Lib.hid hz1
  have HB1 := Lib.hid hb1
  have HT1 := Lib.hid ht1
  rw [hw1]
  clear hw1 hz1 hb1 ht1
  rename_i K hKQ
  refine (wpIn_wide (n := 3)).1 ?_
  refine wpIn_actG ?_
  intro A hA
  refine rangeL rfl (by omega) (gf := gf) (lb := lb) (by rw [hA]; rfl) trivial HG.out (encs := fun (x : Int × Int) => #[.int .i64 x.1, .int .i64 x.2]) (fun _ => rfl)
    (OfJ w L) (fun s x W => OfJ w L s W ∧ ∃ r, s.1 = x :: r)
    (fun (s : KV × KV) (x : Int × Int) a1 W => (OfJ w L s W ∧ ∃ r, s.1 = x :: r) ∧ a1 = { tmps := (((A.tmps.setIfInBounds 9 (.int .i64 x.1)).setIfInBounds 10 (.int .i64 x.2)).setIfInBounds 4 (.int .i64 x.1)).setIfInBounds 5 (.int .i64 x.2), defers := [] })
    (fun c W => False) (fun s s' => s'.1 = s.1.tail) (fun s _ => s.1 = []) (L, [])
    (fun s => by rw [HZ1.out]; exact OfJ.noRec w L s)
    (fun s x a1 W o k hk ho ⟨⟨h1, hg⟩, h5⟩ => ⟨⟨OfJ.noRec w L s W o k (by rw [HZ1.out] at hk; exact hk) ho h1, hg⟩, h5⟩)
    (fun c W o k hk ho h => h) (fun _ _ _ _ _ _ h => h) (fun r => ?start)
    (by rw [HZ1.out]; exact HSQ.out _)
    ?assign ?body ?done ?stop
  case start =>
    have e1 : (w1.alloc (.deferred (some []))).heap.size = w.heap.size + 2 := by rw [World.size_alloc, HZ1.out]
    have hb := ((Below.refl w1.heap.size w1).alloc (Nat.le_refl _) (.deferred (some []))).alloc (by simp) (.loop r)
    refine ⟨HT1.out.below hb, HB1.out.trans (hb.mono HB1.out.size), rfl, fun o e => ?_, fun o e => ?_⟩
    · rw [heap_alloc_old' _ _ _ (by omega), ← HZ1.out, World.alloc_heap_new] at e
      cases e; rfl
    · have h := World.alloc_heap_new (w1.alloc (.deferred (some []))) (.loop r)
      rw [e1] at h
      rw [h] at e
      cases e; rfl
  case assign =>
    rintro l0 s ⟨x, u⟩ W K' hj hzW hK
    rw [hA] at hK ⊢
    gi_wp2
    exact hK _ _ ⟨hj, rfl⟩ ⟨rfl, rfl⟩
  case body =>
    rintro l0 ⟨rem, out⟩ ⟨x, u⟩ a1 V ⟨⟨hj, r, hr⟩, rfl⟩ hzV
    simp only at hr
    subst hr
    rw [HZ1.out] at hzV ⊢
    have hlen := putAll_len out []
    have happ := congrArg List.length hj.app
    simp only [List.length_append, List.length_cons] at happ
    have HP := Lib.hid (tablePutN x u w.heap.size (putAll [] out) V hj.tab (by simp at hlen; omega))
    have HJ := Lib.hid hj
    clear hj hlen happ
    rw [hA]
    gi_wp2_with fail
    refine ⟨trivial, ?_⟩
    refine (callsIn_wide.2 HP.out).mono ?_
    rintro e W2 ⟨rfl, hT2, hb2⟩
    gi_wp2_with fail
    have hj := HJ.out
    refine ⟨⟨hb2.block _ (by omega) (by simp), hb2.block _ (by omega) (by simp; omega)⟩, (r, out ++ [(x, u)]), rfl, ?_, hj.bel.trans (hb2.below (fun k hk => by simp at hk; omega) hj.bel.size), by rw [← hj.app]; simp, hj.n1.but hb2 (by simp) (by omega), hj.n2.but hb2 (by simp) (by omega)⟩
    show TabN W2 w.heap.size (putAll [] (out ++ [(x, u)]))
    rw [putAll_snoc]
    exact hT2
  case done =>
    rintro ⟨rem, out⟩ W hj he hD
    simp only at he
    subst he
    have hL2 := hj.app
    rw [List.append_nil] at hL2
    simp only at hL2
    subst hL2
    rw [hA]
    refine hKQ _ _ ?_
    have hj2 := OfJ.noRec w out ([], out) W (.deferred none) _ (.inl rfl) rfl hj
    have HJ := Lib.hid hj2
    have HD := Lib.hid hD
    clear hj hj2 hD
    rw [HZ1.out] at HD ⊢
    go_wp2_with fail
    refine ⟨by simp, .inl ⟨_, _, rfl, run_takeDeferred HD.out, ?_⟩⟩
    exact ⟨_, results_tmp rfl _ _ _, rfl, HJ.out.tab, HJ.out.bel⟩
  case stop =>
    rintro c W h hD
    exact h.elim
/-- Of Back. -/
theorem ofBack (Bh b : Nat) (l : KV) (hl : l.length ≤ 100000) (w : World) (hT : TabN w b l) (hp : w.heap[Bh]? = some (.cells #[.pointer (some ⟨b, 0, none⟩)] 24 (0, 0))) :
    Calls Try.prog 24 #[.func (.func 47) #[] #[.pointer (some ⟨Bh, 0, none⟩)]] w fun e w' => e = .returned (.pointer (some ⟨w.heap.size, 0, none⟩)) ∧ TabN w' w.heap.size (putAll [] l.reverse) ∧ Below w.heap.size w w' := by
  obtain ⟨t, a, h1, h2, h3⟩ := hT.at_
  exact of_any _ _ l.reverse (by rw [List.length_reverse]; exact hl) w (enters_of Try.func47 (by kernel_rfl) rfl) (fun Jx => back1N (t := t) (a := a) (ofC w l.reverse) (fun W hW => ⟨cell_of_row W Bh 0 _ _ _ ((hW.bel.block Bh (Array.getElem?_eq_some_iff.1 hp).1).trans hp), cell_of_row W b 0 _ _ _ ((hW.bel.block b (Array.getElem?_eq_some_iff.1 h1).1).trans h1)⟩) h2 (by rw [h3]))
theorem putAll_back : ∀ (l : KV), Tr.Rising ltN l → putAll [] l.reverse = l
  | [], h => rfl
  | (a, b) :: r, h => by
    obtain ⟨h1, h2⟩ := List.pairwise_cons.1 h
    rw [List.reverse_cons, putAll_snoc, putAll_back r h2]
    cases r with
    | nil => rfl
    | cons y r' =>
      have hlt := h1 y List.mem_cons_self
      obtain ⟨c, d⟩ := y
      unfold Tr.insK
      rw [if_neg (Tr.ne_of ordN hlt), if_pos hlt]
end Go.Proofs.Ytchnjafcnigllaa
