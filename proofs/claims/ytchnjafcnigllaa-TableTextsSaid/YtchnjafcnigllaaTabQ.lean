/- A table of what is made of each: Map to numbers. -/
import Derived.Test.YtchnjafcnigllaaTabO
namespace Go.Proofs.Ytchnjafcnigllaa
open Go.RowKit
set_option linter.unusedVariables false
attribute [local go_sem] Oper.semAt_some eqSeq8

theorem made_any (b : Nat) (w : World) : Calls Try.prog 61 #[.pointer (some ⟨b, 0, none⟩)] w fun e w' => e = .returned (.pointer (some ⟨b, 0, none⟩)) ∧ w' = w := by
  go_enter Try.func61, Try.ntmps61
  go_wp2
  go_ret
  exact ⟨rfl, rfl⟩

/-- What stays between two puts of Map. -/
structure MapJ (w : World) (b : Nat) (fv : Value) (L : Go.Proofs.Ytchnjafcnigllaa.KV) (g : Int × Int → Int) (s : Go.Proofs.Ytchnjafcnigllaa.KV × Go.Proofs.Ytchnjafcnigllaa.KV) (W : World) : Prop where
  tab : TabN W (w.heap.size + 1) (s.2.map fun x => (x.1, g x))
  bel : Below w.heap.size w W
  fn : Boxed W w.heap.size 64 fv
  ptr : W.heap[w.heap.size + 2]? = some (.cells #[.pointer (some ⟨b, 0, none⟩)] 24 (0, 0))
  app : s.2 ++ s.1 = L
  n1 : NC W (w.heap.size + 3)
  n2 : NC W (w.heap.size + 4)
section
variable {w : World} {b : Nat} {fv : Value} {L : Go.Proofs.Ytchnjafcnigllaa.KV} {g : Int × Int → Int}
theorem MapJ.noRec (s : Go.Proofs.Ytchnjafcnigllaa.KV × Go.Proofs.Ytchnjafcnigllaa.KV) : NoRecL (w.heap.size + 3) (MapJ w b fv L g s) := fun W o k hk ho h =>
  ⟨h.tab.put (by rcases hk with rfl | rfl; exact h.n1; exact h.n2), h.bel.trans ((But.putObj W k o).below (fun j hj => by simp at hj; omega) h.bel.size), ((But.putObj W k o).block _ h.fn.lt (by simp; omega)).trans h.fn, ((But.putObj W k o).block _ (Array.getElem?_eq_some_iff.1 h.ptr).1 (by simp; omega)).trans h.ptr, h.app, h.n1.put ho, h.n2.put ho⟩
theorem mapC (w : World) (b : Nat) (fv : Value) (L : Go.Proofs.Ytchnjafcnigllaa.KV) (g : Int × Int → Int) : EachC w Prod.fst (MapJ w b fv L g) (fun s x W => MapJ w b fv L g s W ∧ ∃ r, s.1 = x :: r) (fun s s' => s'.1 = s.1.tail) where
  stay := fun s W h => Go.Proofs.Ytchnjafcnigllaa.StayN.of_below h.bel
  drew := fun s W h => ⟨h.tab.stay (fun b cs hb => hb) rfl, h.bel.drew, h.fn, h.ptr, h.app, h.n1, h.n2⟩
  yield := fun s W x r h e => ⟨h, r, e⟩
  next := fun s s' h => h
end
theorem ins_end (k : Int) (v : Int) (l : KV) (h : ∀ x ∈ l, ltN x.1 k = true) : Tr.insK ltN k v l = l ++ [(k, v)] := by
  have := Tr.ins_low ordN (k := k) (v := v) l [] h
  rw [List.append_nil] at this
  rw [this]
  rfl
set_option maxRecDepth 100000 in
set_option maxHeartbeats 8000000 in
theorem map_any (gf : Nat) (lb : Array Value) (g : Int × Int → Int) (b : Nat) (L : Go.Proofs.Ytchnjafcnigllaa.KV) (hL : L.length ≤ 100000) (w : World) (hT : Go.Proofs.Ytchnjafcnigllaa.TabN w b L) (heg : ∀ args w, (callFunc gf args).run Try.prog w = .ok (.enter gf args) w)
    (hF : ∀ x ∈ L, ∀ W, Below w.heap.size w W → Calls Try.prog gf (#[.int .i64 x.1, .int .i64 x.2] ++ lb) W fun e W' => e = .returned (.int .i64 (g x)) ∧ W' = W) :
    Calls Try.prog 33 #[.pointer (some ⟨b, 0, none⟩), .func (.func gf) #[] lb] w fun e w' => e = .returned (.pointer (some ⟨w.heap.size + 1, 0, none⟩)) ∧ TabN w' (w.heap.size + 1) (L.map fun x => (x.1, g x)) ∧ Below w.heap.size w w' := by
  have HG := Lib.hid heg
  have HF := Lib.hid hF
  have HRI := Lib.hid hT.rise
  have HMD := Lib.hid (fun W => made_any b W)
  have HAL := Lib.hid (fun W => Go.Proofs.Ytchnjafcnigllaa.allN b W)
  have HT := Lib.hid hT
  clear heg hF hT
  refine (callsIn_wide (n := 3)).1 ?_
  refine callsIn_of_wp_marks Try.func33 rfl trivial ?_ rfl
  simp only [Try.ntmps33, List.size_toArray, List.length_cons, List.length_nil, Nat.reduceAdd, Nat.reduceSub, Array.replicate_succ, Array.replicate_zero, List.push_toArray, List.append_toArray, List.nil_append, List.cons_append]
  refine wpIn_wide.2 ?_
  go_wp2_with fail
  refine (HMD.out _).mono ?_
  rintro e w0 ⟨rfl, rfl⟩
  go_wp2_with fail
  refine (HAL.out _).mono ?_
  rintro e w0' ⟨rfl, rfl⟩
  go_wp2_with fail
  obtain ⟨w1, hw1⟩ : ∃ w1, ((w.alloc (Obj.cells #[.func (.func gf) #[] lb] 64)).alloc (Obj.cells #[.pointer none] 73)).alloc (Obj.cells #[.pointer (some ⟨b, 0, none⟩)] 24) = w1 := ⟨_, rfl⟩
  have hz1 : w1.heap.size = w.heap.size + 3 := by rw [← hw1]; simp
  have hb1 : Below w.heap.size w w1 := by rw [← hw1]; exact (((Below.refl _ _).alloc (Nat.le_refl _) _).alloc (by simp) _).alloc (by simp; omega) _
  have e1 : (w.alloc (Obj.cells #[.func (.func gf) #[] lb] 64)).heap.size = w.heap.size + 1 := by simp
  have e2 : ((w.alloc (Obj.cells #[.func (.func gf) #[] lb] 64)).alloc (Obj.cells #[.pointer none] 73)).heap.size = w.heap.size + 2 := by simp
  have ht0 : TabN ((w.alloc (Obj.cells #[.func (.func gf) #[] lb] 64)).alloc (Obj.cells #[.pointer none] 73)) (w.heap.size + 1) [] := ⟨⟨.nil, none, by have h := World.alloc_heap_new (w.alloc (Obj.cells #[.func (.func gf) #[] lb] 64)) (Obj.cells #[.pointer none] 73); rw [e1] at h; exact h, rfl, rfl⟩, List.Pairwise.nil⟩
  have ht1 : TabN w1 (w.heap.size + 1) [] := by rw [← hw1]; exact ht0.below ((Below.refl _ _).alloc (Nat.le_refl _) _)
  have hf1 : Boxed w1 w.heap.size 64 (.func (.func gf) #[] lb) := by rw [← hw1]; exact ((Boxed.new w _ _).alloc _).alloc _
  have hp1 : w1.heap[w.heap.size + 2]? = some (.cells #[.pointer (some ⟨b, 0, none⟩)] 24 (0, 0)) := by
    have h := World.alloc_heap_new ((w.alloc (Obj.cells #[.func (.func gf) #[] lb] 64)).alloc (Obj.cells #[.pointer none] 73)) (Obj.cells #[.pointer (some ⟨b, 0, none⟩)] 24)
    rw [e2, hw1] at h
    exact h
  have HZ1 := Lib.hid hz1
  have HB1 := Lib.hid hb1
  have HT1 := Lib.hid ht1
  have HF1 := Lib.hid hf1
  have HP1 := Lib.hid hp1
  rw [hw1]
  clear hw1 hz1 hb1 ht1 hf1 hp1 e1 e2 ht0
  rename_i K hKQ
  refine (wpIn_wide (n := 3)).1 ?_
  refine wpIn_actG ?_
  intro A hA
  obtain ⟨t, a, h1, h2, h3⟩ := HT.out.at_
  have HA1 := Lib.hid h1
  have HA2 := Lib.hid h2
  have HA3 := Lib.hid h3
  clear h1 h2 h3
  refine rangeL rfl (by omega) (gf := 45) (lb := #[.pointer (some ⟨w.heap.size + 2, 0, none⟩)]) (by rw [hA]; rfl) trivial (enters_of Try.func45 (by kernel_rfl) rfl) (encs := fun (x : Int × Int) => #[.int .i64 x.1, .int .i64 x.2]) (fun _ => rfl)
    (MapJ w b (.func (.func gf) #[] lb) L g) (fun s x W => MapJ w b (.func (.func gf) #[] lb) L g s W ∧ ∃ r, s.1 = x :: r)
    (fun (s : Go.Proofs.Ytchnjafcnigllaa.KV × Go.Proofs.Ytchnjafcnigllaa.KV) (x : Int × Int) a1 W => (MapJ w b (.func (.func gf) #[] lb) L g s W ∧ ∃ r, s.1 = x :: r) ∧ a1 = { tmps := (((A.tmps.setIfInBounds 11 (.int .i64 x.1)).setIfInBounds 12 (.int .i64 x.2)).setIfInBounds 6 (.int .i64 x.1)).setIfInBounds 7 (.int .i64 x.2), defers := [] })
    (fun c W => False) (fun s s' => s'.1 = s.1.tail) (fun s _ => s.1 = []) (L, [])
    (fun s => by rw [HZ1.out]; exact MapJ.noRec s)
    (fun s x a1 W o k hk ho ⟨⟨h1, hg⟩, h5⟩ => ⟨⟨MapJ.noRec s W o k (by rw [HZ1.out] at hk; exact hk) ho h1, hg⟩, h5⟩)
    (fun c W o k hk ho h => h) (fun _ _ _ _ _ _ h => h) (fun r => ?start)
    (all1N (b := b) (t := t) (a := a) (mapC w b _ L g) (fun W hW => ⟨cell_of_row W _ 0 _ _ _ hW.ptr, cell_of_row W b 0 _ _ _ ((hW.bel.block b (Array.getElem?_eq_some_iff.1 HA1.out).1).trans HA1.out)⟩) HA2.out HA3.out.symm)
    ?assign ?body ?done ?stop
  case start =>
    have e1 : (w1.alloc (.deferred (some []))).heap.size = w.heap.size + 4 := by rw [World.size_alloc, HZ1.out]
    have hb := ((Below.refl w1.heap.size w1).alloc (Nat.le_refl _) (.deferred (some []))).alloc (by simp) (.loop r)
    refine ⟨HT1.out.below hb, HB1.out.trans (hb.mono HB1.out.size), (HF1.out.alloc _).alloc _, (hb.block _ (by rw [HZ1.out]; omega)).trans HP1.out, rfl, fun o e => ?_, fun o e => ?_⟩
    · rw [heap_alloc_old' _ _ _ (by omega), ← HZ1.out, World.alloc_heap_new] at e
      cases e; rfl
    · have h := World.alloc_heap_new (w1.alloc (.deferred (some []))) (.loop r)
      rw [e1] at h
      rw [h] at e
      cases e; rfl
  case assign =>
    rintro l0 s ⟨x, u⟩ W K' hj hzW hK
    rw [hA] at hK ⊢
    gi_wp2
    exact hK _ _ ⟨hj, rfl⟩ ⟨rfl, rfl⟩
  case body =>
    rintro l0 ⟨rem, out⟩ ⟨x, u⟩ a1 V ⟨⟨hj, r, hr⟩, rfl⟩ hzV
    simp only at hr
    subst hr
    rw [HZ1.out] at hzV ⊢
    have happ := congrArg List.length hj.app
    simp only [List.length_append, List.length_cons] at happ
    have hri := HRI.out
    rw [← hj.app] at hri
    obtain ⟨_, _, hlow, _, _⟩ := Tr.rising_parts ordN hri
    have hins := ins_end x (g (x, u)) (out.map fun x => (x.1, g x)) (fun y hy => by
      obtain ⟨z, hz, rfl⟩ := List.mem_map.1 hy
      exact hlow z hz)
    have HP := Lib.hid (tablePutN x (g (x, u)) (w.heap.size + 1) (out.map fun x => (x.1, g x)) V hj.tab (by rw [List.length_map]; omega))
    rw [hins] at HP
    have HFX := Lib.hid (HF.out (x, u) (by rw [← hj.app]; simp) V hj.bel)
    have hc := hj.fn.cell
    have HJ := Lib.hid hj
    clear hj happ hri hlow hins
    rw [hA]
    gi_wp2_with fail
    refine ⟨trivial, ?_⟩
    rw [HG.out]
    refine ⟨by intro _; first | omega | simp, ?_⟩
    refine (callsIn_wide.2 HFX.out).mono ?_
    rintro e W2 ⟨rfl, rfl⟩
    gi_wp2_with fail
    refine ⟨trivial, ?_⟩
    refine (callsIn_wide.2 HP.out).mono ?_
    rintro e W2 ⟨rfl, hT2, hb2⟩
    gi_wp2_with fail
    have hj := HJ.out
    refine ⟨⟨hb2.block _ (by omega) (by simp), hb2.block _ (by omega) (by simp)⟩, (r, out ++ [(x, u)]), rfl, ?_, hj.bel.trans (hb2.below (fun k hk => by simp at hk; omega) hj.bel.size), (hb2.block _ hj.fn.lt (by simp)).trans hj.fn, (hb2.block _ (Array.getElem?_eq_some_iff.1 hj.ptr).1 (by simp)).trans hj.ptr, by rw [← hj.app]; simp, hj.n1.but hb2 (by simp) (by omega), hj.n2.but hb2 (by simp) (by omega)⟩
    show TabN W2 (w.heap.size + 1) ((out ++ [(x, u)]).map fun x => (x.1, g x))
    rw [List.map_append]
    exact hT2
  case done =>
    rintro ⟨rem, out⟩ W hj he hD
    simp only at he
    subst he
    have hL2 := hj.app
    rw [List.append_nil] at hL2
    simp only at hL2
    subst hL2
    rw [hA]
    refine hKQ _ _ ?_
    have hj2 := MapJ.noRec ([], out) W (.deferred none) _ (.inl rfl) rfl hj
    have HJ := Lib.hid hj2
    have HD := Lib.hid hD
    clear hj hj2 hD
    rw [HZ1.out] at HD ⊢
    go_wp2_with fail
    refine ⟨by simp, .inl ⟨_, _, rfl, run_takeDeferred HD.out, ?_⟩⟩
    exact ⟨_, results_tmp rfl _ _ _, rfl, HJ.out.tab, HJ.out.bel⟩
  case stop =>
    rintro c W h hD
    exact h.elim
end Go.Proofs.Ytchnjafcnigllaa
