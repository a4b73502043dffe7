/- The math of a heap of things with numbers, by a key: what the document says of it, a list in order. No program is spoken of. -/
import Derived.Test.YtpdncgjepfgnjaaHeapN
namespace Go.Proofs.Ytpdncgjepfgnjaa
set_option linter.unusedVariables false

section
variable {τ : Type} (key : τ → Int)
/-- Which of two stands ahead: by the key, of the same one by the number. -/
def ahK (a b : τ × Int) : Bool := if a.2 < b.2 then !decide (key b.1 < key a.1) else decide (key a.1 < key b.1)
theorem le_K (a b : τ × Int) : Le (ahK key) a b ↔ key a.1 < key b.1 ∨ (key a.1 = key b.1 ∧ a.2 ≤ b.2) := by
  unfold Le ahK
  split
  · rename_i h
    simp only [Bool.not_eq_false', decide_eq_true_eq]
    omega
  · rename_i h
    simp only [decide_eq_false_iff_not]
    omega
theorem sound_K : Sound (ahK key) := by
  refine ⟨fun a => (le_K key a a).2 (.inr ⟨rfl, Int.le_refl _⟩), fun a b c h1 h2 => ?_, fun a b h => ?_⟩
  · rw [le_K] at h1 h2 ⊢
    omega
  · rw [le_K]
    unfold ahK at h
    split at h
    · simp only [Bool.not_eq_true', decide_eq_false_iff_not] at h; omega
    · simp only [decide_eq_true_eq] at h; omega
/-- A thing is put behind those that don't stand behind it. -/
def insS : List (τ × Int) → τ × Int → List (τ × Int)
  | [], x => [x]
  | y :: ys, x => if key x.1 < key y.1 then x :: y :: ys else y :: insS ys x
theorem ins_perm (x : τ × Int) : ∀ l : List (τ × Int), (insS key l x).Perm (x :: l)
  | [] => List.Perm.refl _
  | y :: ys => by
    unfold insS
    split
    · exact List.Perm.refl _
    · exact ((ins_perm x ys).cons y).trans (List.Perm.swap x y ys)
theorem ins_order {x : τ × Int} : ∀ {l : List (τ × Int)}, InOrder (ahK key) l → (∀ y ∈ l, y.2 ≤ x.2) → InOrder (ahK key) (insS key l x)
  | [], _, _ => List.pairwise_singleton _ _
  | y :: ys, h, hn => by
    obtain ⟨h1, h2⟩ := List.pairwise_cons.1 h
    unfold insS
    split
    · rename_i hlt
      refine List.pairwise_cons.2 ⟨fun z hz => ?_, h⟩
      rw [le_K]
      rcases List.mem_cons.1 hz with rfl | hz
      · exact .inl hlt
      · have := (le_K key y z).1 (h1 z hz)
        omega
    · rename_i hge
      refine List.pairwise_cons.2 ⟨fun z hz => ?_, ins_order h2 (fun z hz => hn z (List.mem_cons_of_mem _ hz))⟩
      rcases List.mem_cons.1 ((ins_perm key x ys).subset hz) with rfl | hz
      · rw [le_K]
        have := hn y (List.mem_cons_self)
        omega
      · exact h1 z hz
theorem anti_K {key : τ → Int} {S : List (τ × Int)} (h1 : (S.map Prod.snd).Nodup) {a b : τ × Int} (ha : a ∈ S) (hb : b ∈ S) (h : Le (ahK key) a b) (h' : Le (ahK key) b a) : a = b := by
  rw [le_K] at h h'
  have e : a.2 = b.2 := by omega
  obtain ⟨i, hi, rfl⟩ := List.getElem_of_mem ha
  obtain ⟨j, hj, rfl⟩ := List.getElem_of_mem hb
  have hij : i = j := by
    have hn := List.nodup_iff_pairwise_ne.1 h1
    rcases Nat.lt_trichotomy i j with h | h | h
    · have := List.pairwise_iff_getElem.1 hn i j (by simpa using hi) (by simpa using hj) h
      simp only [List.getElem_map] at this
      exact absurd e this
    · exact h
    · have := List.pairwise_iff_getElem.1 hn j i (by simpa using hj) (by simpa using hi) h
      simp only [List.getElem_map] at this
      exact absurd e.symm this
  subst hij
  rfl
/-- A heap's list, beside the list in order: numbers rise, none is met twice. -/
structure Rep [Inhabited τ] (l S : List (τ × Int)) (puts : Int) : Prop where
  heap : HeapL (ahK key) l
  perm : S.Perm l
  ord : InOrder (ahK key) S
  num : ∀ x ∈ S, x.2 ≤ puts
  one : (S.map Prod.snd).Nodup
variable [Inhabited τ]
theorem Rep.nil (n : Int) : Rep key ([] : List (τ × Int)) [] n := ⟨fun i h hl => (by cases hl), List.Perm.refl _, List.Pairwise.nil, fun x hx => (by cases hx), List.Pairwise.nil⟩
variable {key}
theorem Rep.len {l S : List (τ × Int)} {n : Int} (h : Rep key l S n) : S.length = l.length := h.perm.length_eq
theorem Rep.put {l S : List (τ × Int)} {n : Int} (h : Rep key l S n) (x : τ) : Rep key (putL (ahK key) l (x, n + 1)) (insS key S (x, n + 1)) (n + 1) := by
  obtain ⟨p1, p2⟩ := put_heap (sound_K key) h.heap (x, n + 1)
  have hp := ins_perm key (x, n + 1) S
  refine ⟨p1, hp.trans ((h.perm.cons _).trans p2.symm), ins_order key h.ord (fun y hy => by have := h.num y hy; show y.2 ≤ n + 1; omega), fun y hy => ?_, ?_⟩
  · rcases List.mem_cons.1 (hp.subset hy) with rfl | hy
    · exact Int.le_refl _
    · have := h.num y hy; omega
  · have h2 := (hp.map Prod.snd).symm.nodup
    refine h2 ?_
    rw [List.map_cons]
    refine List.nodup_cons.2 ⟨fun hm => ?_, h.one⟩
    obtain ⟨y, hy, e⟩ := List.mem_map.1 hm
    have h3 := h.num y hy
    have e : y.2 = n + 1 := e
    omega
/-- What is first in the heap is first in the list; the rest is the rest. -/
theorem Rep.take {l : List (τ × Int)} {x : τ × Int} {S : List (τ × Int)} {n : Int} (h : Rep key l (x :: S) n) : at' l 0 = x ∧ Rep key (takeL' (ahK key) l) S n := by
  have hl : 0 < l.length := by rw [← h.len]; simp
  obtain ⟨t1, t2⟩ := take_heap (sound_K key) h.heap hl
  have hm0 : at' l 0 ∈ x :: S := h.perm.symm.subset (t2.subset (List.mem_cons_self))
  have hx : at' l 0 = x := by
    have hxl : x ∈ l := h.perm.subset (List.mem_cons_self)
    obtain ⟨k, hk, e⟩ := List.getElem_of_mem hxl
    have h1 := h.heap.least (sound_K key) k hk
    have e2 : at' l k = x := by
      have h3 := at_get l k hk
      rw [List.getElem?_eq_getElem hk] at h3
      exact (Option.some.inj h3).symm.trans e
    rw [e2] at h1
    rcases List.mem_cons.1 hm0 with h2 | h2
    · exact h2
    · exact anti_K h.one hm0 (List.mem_cons_self) h1 ((List.pairwise_cons.1 h.ord).1 _ h2)
  refine ⟨hx, t1, ?_, (List.pairwise_cons.1 h.ord).2, fun y hy => h.num y (List.mem_cons_of_mem _ hy), (List.nodup_cons.1 h.one).2⟩
  rw [hx] at t2
  exact List.Perm.cons_inv (h.perm.trans t2.symm)
end
end Go.Proofs.Ytpdncgjepfgnjaa
