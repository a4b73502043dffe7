/- A table's All and Back, as promises for whatever the caller's invariant is. -/
import Derived.Test.YtfgppkmhjjnnnaaDoorTabUG
namespace Go.Proofs.YtfgppkmhjjnnnaaDoor
open Go.RowKit
set_option linter.unusedVariables false
attribute [local go_sem] Oper.semAt_some

theorem allN (b : Nat) (w : World) :
    Calls Tryd.prog 33 #[.pointer (some ⟨b, 0, none⟩)] w fun e w' => e = .returned (.func (.func 41) #[] #[.pointer (some ⟨w.heap.size, 0, none⟩)]) ∧ w' = w.alloc (.cells #[.pointer (some ⟨b, 0, none⟩)] 53) := by
  go_enter Tryd.func33, Tryd.ntmps33
  go_wp2
  go_ret
  exact ⟨rfl, rfl⟩
set_option maxHeartbeats 2000000 in
theorem all1N {σ : Type} {W0 : World} {rest : σ → KV} {J : σ → World → Prop} {Jm : σ → Int × Int → World → Prop} {Jx : Code → World → Prop} {Af : σ → σ → Prop} {B Bh b : Nat} {a : Option Addr} {t : TrN} {s0 : σ} (hC : EachC W0 rest J Jm Af)
    (hbox : ∀ W, J s0 W → W.cell? ⟨Bh, 0, none⟩ = some (.pointer (some ⟨b, 0, none⟩)) ∧ W.cell? ⟨b, 0, none⟩ = some (.pointer a)) (ht : AtN W0 t (.pointer a)) (hr : rest s0 = t.list) :
    SeqG Fence.wide 2 Tryd.prog 41 #[.pointer (some ⟨Bh, 0, none⟩)] (fun (x : Int × Int) => #[.int .u64 x.1, .int .i64 x.2]) B J Jm Jx Af (fun s _ => rest s = []) s0 := by
  intro l Rd Dn W hRd hDn hRz hDz hR0 hJ0 hY
  obtain ⟨c0, c1⟩ := hbox W hJ0
  have HE := Lib.hid (eachFalseN (lx := l) (Dn := Dn) (Jx := Jx) hC hRd hY t _ [] s0 W ht hJ0 hR0 (by rw [hr, walk_rise, List.append_nil]))
  clear hC hY hRd hRz hDz hR0 hJ0 hr ht hbox
  refine callsIn_of_wp Tryd.func41 rfl trivial ?_ rfl
  simp only [Tryd.ntmps41, List.size_toArray, List.length_cons, List.length_nil, Nat.reduceAdd, Nat.reduceSub, Array.replicate_succ, Array.replicate_zero, List.push_toArray, List.append_toArray, List.nil_append, List.cons_append]
  gi_wp2_with fail
  refine ⟨trivial, ?_⟩
  refine (callsIn_wide.2 HE.out).mono ?_
  rintro e W2 (⟨rfl, hR2, s2, hr2, hJ2⟩ | ⟨rfl, c, hD, hX⟩)
  · gi_wp2
    refine bodyPost_end (results_none rfl _ _ _) rfl ?_
    exact ⟨⟨_, rfl⟩, .inl ⟨hR2, s2, hr2, hJ2⟩⟩
  · gi_wp2
    refine bodyPost_end (results_none rfl _ _ _) rfl ?_
    exact ⟨⟨_, rfl⟩, .inr ⟨c, hD, hX⟩⟩
end Go.Proofs.YtfgppkmhjjnnnaaDoor