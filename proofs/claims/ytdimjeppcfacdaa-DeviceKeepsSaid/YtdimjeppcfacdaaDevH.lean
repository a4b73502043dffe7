/- Clone of package device. -/
import Derived.Test.YtdimjeppcfacdaaDevG
namespace Go.Proofs.Ytdimjeppcfacdaa
open Go.RowKit

/-- How far a clone has come: its fields, of k regions new memory. -/
structure CloneTo (w : World) (D : DevS) (v0 v1 : Value) (k : Nat) (wr : World) : Prop where
  ex : ∃ u0 u1, DevB wr w.heap.size D.cap u0 u1 D.down D.left D.turned ∧ (k = 0 → u0 = v0) ∧ (k ≤ 1 → u1 = v1) ∧
    (1 ≤ k → wr.ownsRow (w.heap.size + 1) 5 1 u0 D.r0.length (D.r0.map encY)) ∧ (2 ≤ k → wr.ownsRow (w.heap.size + 1) 5 1 u1 D.r1.length (D.r1.map encY) ∧ ∀ g, u0.ownBlock = some g → u1.ownBlock ≠ some g)
  b : Below w.heap.size w wr

theorem ownsRow_base {W : World} {base base' : Nat} {v : Value} {n : Nat} {xs : List Value} {t : TypeId} (h : W.ownsRow base t 1 v n xs) (hb : base' ≤ base) : W.ownsRow base' t 1 v n xs := by
  obtain ⟨h1, h2⟩ := h
  refine ⟨h1, ?_⟩
  rcases h2 with h2 | ⟨g, cap, cur, hv, hg, r⟩
  · exact .inl h2
  · exact .inr ⟨g, cap, cur, hv, Nat.le_trans hb hg, r⟩
theorem zdev (w : World) : (zeroValue 132).run Try.prog w = .ok (.agg #[.int .i64 0, .slice none 0 0, .slice none 0 0, .bool false, .int .i64 0, .int .i64 0]) w := by kernel_rfl

set_option maxRecDepth 100000 in
set_option maxHeartbeats 2000000 in
theorem clone_any {own : List Nat} {b : Nat} {D : DevS} {v0 v1 : Value} (w : World) (h : Dev own w b D v0 v1) :
    Calls Try.prog 23 #[.pointer (some ⟨b, 0, none⟩)] w fun e w' => ∃ own2 u0 u1, e = .returned (.pointer (some ⟨w.heap.size, 0, none⟩)) ∧ Dev own2 w' w.heap.size D u0 u1 ∧ Below w.heap.size w w' ∧ ∀ k ∈ own2, w.heap.size ≤ k := by
  have hz := zdev
  have c0 := h.blk.c0
  have c1 := h.blk.c1
  have c2 := h.blk.c2
  have c3 := h.blk.c3
  have c4 := h.blk.c4
  have c5 := h.blk.c5
  have H := Lib.hid h
  obtain ⟨a0, k0, rfl, _⟩ := h.r0.form
  obtain ⟨a1, k1, rfl, _⟩ := h.r1.form
  have hlt := h.blk.lt
  clear h
  go_enter Try.func23, Try.ntmps23
  go_wp2
  go_loopw [8] (fun i wr => ∃ k : Nat, k ≤ 2 ∧ i = .int .i64 k ∧ CloneTo w D (.slice a0 D.r0.length k0) (.slice a1 D.r1.length k1) k wr) (fun i _ => 2 - (intOf i).toNat)
  case atStart => exact ⟨0, by omega, rfl, ⟨⟨_, _, World.alloc_heap_new w _, fun _ => rfl, fun _ => rfl, fun h => by omega, fun h => by omega⟩, (Below.refl _ _).alloc (Nat.le_refl _) _⟩⟩
  case round =>
    clear c0 c1 c2 c3 c4 c5 hz
    obtain ⟨k, hk, rfl, ⟨u0, u1, hB, hu0, hu1, ho0, ho1⟩, hnx⟩ := hrel
    have hd := H.out.below hnx
    have hl0 := H.out.ok.l0
    have hl1 := H.out.ok.l1
    have hcap := H.out.ok.cap
    have hnb : w.heap.size < wr.heap.size := hB.lt
    by_cases h0 : k = 0
    · subst h0
      obtain rfl := hu0 rfl
      obtain rfl := hu1 (by omega)
      have HC := Lib.hid (copied_any _ _ _ D.r0 (by omega) wr hd.r0.sl)
      have HB := Lib.hid hB
      have HN := Lib.hid hnx
      have HL := Lib.hid hl1
      have cb := hd.blk.c1
      obtain ⟨n, hn⟩ : ∃ n, D.r0.length = n := ⟨_, rfl⟩
      have HLN := Lib.hid hn
      rw [hn] at HC cb HB ⊢
      clear hn hB hu0 hu1 ho0 ho1 hnx hd hl0 hl1 hcap
      go_wp2_with (go_at_call 93; refine HC.out.mono ?_; rintro e w2 ⟨g, rfl, hown, hb2⟩; have hB2 := HB.out.below hb2 hnb; have cc := hB2.c1; have ff := hB2.frozen 1; have HO := Lib.hid hown; have HB2 := Lib.hid hB2; clear hown hB2)
      go_roundw
      case rel =>
        have hb : Below w.heap.size w w2 := HN.out.trans (hb2.mono HN.out.size)
        refine ⟨1, by omega, by go_num, ⟨_, _, HB2.out.set_r0 _, fun h => by omega, fun _ => rfl, fun _ => ?_, fun h => by omega⟩, hb.setCell (p := ⟨w.heap.size, 1, none⟩) (Nat.le_refl _) _⟩
        rw [HLN.out]
        exact ownsRow_setCell_below (ownsRow_base HO.out hnb) (by show w.heap.size < w.heap.size + 1; omega) _
      case measure => simp [intOf]
    · by_cases h1 : k = 1
      · subst h1
        obtain rfl := hu1 (by omega)
        have ho := ho0 (by omega)
        have HC := Lib.hid (copied_any _ _ _ D.r1 (by omega) wr hd.r1.sl)
        have HB := Lib.hid hB
        have HN := Lib.hid hnx
        have HO0 := Lib.hid ho
        have cb := hd.blk.c2
        obtain ⟨n, hn⟩ : ∃ n, D.r1.length = n := ⟨_, rfl⟩
        have HLN := Lib.hid hn
        rw [hn] at HC cb HB ⊢
        clear hn hB hu0 hu1 ho0 ho1 hnx hd hl0 hl1 hcap ho h0
        go_wp2_with (go_at_call 93; refine HC.out.mono ?_; rintro e w2 ⟨g, rfl, hown, hb2⟩; have hB2 := HB.out.below hb2 hnb; have cc := hB2.c2; have ff := hB2.frozen 2; have HO := Lib.hid hown; have HB2 := Lib.hid hB2; clear hown hB2)
        go_roundw
        case rel =>
          have hb : Below w.heap.size w w2 := HN.out.trans (hb2.mono HN.out.size)
          refine ⟨2, by omega, by go_num, ⟨_, _, HB2.out.set_r1 _, fun h => by omega, fun h => by omega, fun _ => ?_, fun _ => ⟨?_, fun g' hg' e => ?_⟩⟩, hb.setCell (p := ⟨w.heap.size, 2, none⟩) (Nat.le_refl _) _⟩
          · exact ownsRow_setCell_below (ownsRow_below HO0.out hb2 (Nat.le_refl _)) (by show w.heap.size < w.heap.size + 1; omega) _
          · rw [HLN.out]
            exact ownsRow_setCell_below (ownsRow_base HO.out hnb) (by show w.heap.size < w.heap.size + 1; omega) _
          · have h3 := (World.ownsRow.lt HO.out g rfl).1
            have h4 := (World.ownsRow.lt HO0.out g' hg').2
            have h5 : g = g' := by simpa [Value.ownBlock] using e
            omega
        case measure => simp [intOf]
      · obtain rfl : k = 2 := by omega
        have r0 := ho0 (by omega)
        obtain ⟨r1, hne⟩ := ho1 (by omega)
        have hdev : Dev (w.heap.size :: (u0.ownBlock.toList ++ u1.ownBlock.toList)) wr w.heap.size D u0 u1 := by
          refine ⟨hB, Row.base r0, Row.base r1, by simp, fun g hg => ⟨by simp [hg], hne g hg⟩, fun g hg => by simp [hg], fun k hk => ?_, H.out.ok⟩
          rcases List.mem_cons.1 hk with rfl | hk
          · exact hnb
          · rcases List.mem_append.1 hk with hk | hk
            · exact (World.ownsRow.lt r0 k (by simpa using hk)).2
            · exact (World.ownsRow.lt r1 k (by simpa using hk)).2
        have hge : ∀ k ∈ w.heap.size :: (u0.ownBlock.toList ++ u1.ownBlock.toList), w.heap.size ≤ k := fun k hk => by
          rcases List.mem_cons.1 hk with rfl | hk
          · exact Nat.le_refl _
          · rcases List.mem_append.1 hk with hk | hk
            · have := (World.ownsRow.lt r0 k (by simpa using hk)).1; omega
            · have := (World.ownsRow.lt r1 k (by simpa using hk)).1; omega
        have HDV := Lib.hid hdev
        have HGE := Lib.hid hge
        clear hdev hge hne r0 r1 ho0 ho1 hu0 hu1 hB hd hl0 hl1 hcap
        go_wp2
        go_ret
        exact ⟨_, _, _, rfl, HDV.out, hnx, HGE.out⟩
end Go.Proofs.Ytdimjeppcfacdaa
