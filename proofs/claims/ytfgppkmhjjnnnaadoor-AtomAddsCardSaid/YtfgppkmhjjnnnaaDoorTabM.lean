/- The math of a table: trees of keys, what they hold as a list, what is put into them and taken out. No program is spoken of. -/
import Derived.Test.YtfgppkmhjjnnnaaDoorSlices
namespace Go.Proofs.YtfgppkmhjjnnnaaDoor
set_option linter.unusedVariables false
set_option linter.unusedSectionVars false

inductive Tr (κ ν : Type) where
  | nil : Tr κ ν
  | node : κ → ν → Tr κ ν → Tr κ ν → Tr κ ν
namespace Tr
variable {κ ν : Type}
def size : Tr κ ν → Nat
  | nil => 0
  | node _ _ l r => size l + size r + 1
def list : Tr κ ν → List (κ × ν)
  | nil => []
  | node k v l r => list l ++ (k, v) :: list r
theorem list_len : ∀ t : Tr κ ν, t.list.length = t.size
  | nil => rfl
  | node k v l r => by simp [list, size, list_len l, list_len r]; omega
/-- A side of a tree: the one of the keys below, or above. -/
def side : Tr κ ν → Bool → Tr κ ν
  | nil, _ => nil
  | node _ _ l r, b => if b then r else l
/-- The same with another side. -/
def with_ : Tr κ ν → Bool → Tr κ ν → Tr κ ν
  | nil, _, _ => nil
  | node k v l r, b, s => if b then node k v l s else node k v s r
/-- The same with another key and value of its own. -/
def holding : Tr κ ν → κ → ν → Tr κ ν
  | nil, _, _ => nil
  | node _ _ l r, k, v => node k v l r
/-- The same with the node of a side at the top. -/
def lift (t : Tr κ ν) (b : Bool) : Tr κ ν := (t.side b).with_ (!b) (t.with_ b ((t.side b).side (!b)))
/-- A side is too great for the other one. -/
def heavy (t : Tr κ ν) (b : Bool) : Bool := !(decide ((t.side b).size + (t.side (!b)).size < 2) || decide ((t.side b).size ≤ 3 * (t.side (!b)).size))
def inner (t : Tr κ ν) (b : Bool) : Bool := decide (2 * ((t.side b).side b).size ≤ ((t.side b).side (!b)).size)
def mend (t : Tr κ ν) (b : Bool) : Tr κ ν := (if t.inner b then t.with_ b ((t.side b).lift (!b)) else t).lift b
def even (t : Tr κ ν) : Tr κ ν := if t.heavy false then t.mend false else if t.heavy true then t.mend true else t
/-- What the walks ask of a tree: it is one. -/
def isNode : Tr κ ν → Bool
  | nil => false
  | _ => true
theorem pos_node : ∀ {t : Tr κ ν}, 0 < t.size → t.isNode = true
  | nil, h => by simp [size] at h
  | node .., _ => rfl
theorem node_pos : ∀ {t : Tr κ ν}, t.isNode = true → 0 < t.size
  | nil, h => by cases h
  | node .., _ => by simp [size]
theorem node_sides : ∀ {t : Tr κ ν}, t.isNode = true → t.size = (t.side false).size + (t.side true).size + 1
  | nil, h => by cases h
  | node .., _ => rfl
theorem heavy_node {t : Tr κ ν} {b : Bool} (h : t.heavy b = true) : 2 ≤ (t.side b).size := by
  simp only [heavy, Bool.not_eq_true', Bool.or_eq_false_iff, decide_eq_false_iff_not] at h
  omega
theorem inner_node {t : Tr κ ν} {b : Bool} (h : t.heavy b = true) (hi : t.inner b = true) : 0 < ((t.side b).side (!b)).size := by
  have h1 := heavy_node h
  have h2 := node_sides (pos_node (by omega : 0 < (t.side b).size))
  simp only [inner, decide_eq_true_eq] at hi
  cases b <;> simp at hi h2 ⊢ <;> omega
theorem lift_list : ∀ (t : Tr κ ν) (b : Bool), (t.side b).isNode = true → (t.lift b).list = t.list
  | nil, b, h => by cases h
  | node k v l r, false, h => by
    cases l with
    | nil => cases h
    | node k' v' l' r' => simp [lift, side, with_, list]
  | node k v l r, true, h => by
    cases r with
    | nil => cases h
    | node k' v' l' r' => simp [lift, side, with_, list]
theorem mend_list (t : Tr κ ν) (b : Bool) (h : t.heavy b = true) : (t.mend b).list = t.list := by
  have hn := pos_node (t := t.side b) (by have := heavy_node h; omega)
  unfold mend
  by_cases hi : t.inner b = true
  · rw [if_pos hi]
    have hin := pos_node (inner_node h hi)
    cases t with
    | nil => cases b <;> cases hn
    | node k v l r =>
      cases b with
      | false =>
        have hL := lift_list l true hin
        have hs : ((node k v l r).with_ false (l.lift true)).side false = l.lift true := rfl
        have hln : (l.lift true).isNode = true := pos_node (by rw [← list_len, hL, list_len]; exact node_pos hn)
        show (((node k v l r).with_ false (l.lift true)).lift false).list = _
        rw [lift_list _ false (by rw [hs]; exact hln)]
        simp [with_, list, hL]
      | true =>
        have hL := lift_list r false hin
        have hs : ((node k v l r).with_ true (r.lift false)).side true = r.lift false := rfl
        have hln : (r.lift false).isNode = true := pos_node (by rw [← list_len, hL, list_len]; exact node_pos hn)
        show (((node k v l r).with_ true (r.lift false)).lift true).list = _
        rw [lift_list _ true (by rw [hs]; exact hln)]
        simp [with_, list, hL]
  · rw [if_neg hi]
    exact lift_list t b hn
theorem even_list (t : Tr κ ν) : t.even.list = t.list := by
  unfold even
  split
  · rename_i h; exact mend_list t false h
  · split
    · rename_i h; exact mend_list t true h
    · rfl
theorem even_size (t : Tr κ ν) : t.even.size = t.size := by rw [← list_len, even_list, list_len]
theorem lift_size {t : Tr κ ν} {b : Bool} (h : (t.side b).isNode = true) : (t.lift b).size = t.size := by rw [← list_len, lift_list t b h, list_len]
/-- The last node of a side, as a tree. -/
def end_ : Tr κ ν → Bool → Tr κ ν
  | nil, _ => nil
  | node k v l r, false => if l.isNode then l.end_ false else node k v l r
  | node k v l r, true => if r.isNode then r.end_ true else node k v l r
def top? : Tr κ ν → Option (κ × ν)
  | nil => none
  | node k v _ _ => some (k, v)
theorem end_first : ∀ t : Tr κ ν, (t.end_ false).top? = t.list.head?
  | nil => rfl
  | node k v l r => by
    unfold end_
    cases l with
    | nil => rfl
    | node k' v' l' r' =>
      have := end_first (node k' v' l' r')
      show ((node k' v' l' r').end_ false).top? = _
      rw [this]
      simp only [list]
      cases (node k' v' l' r' : Tr κ ν) with
      | nil => simp
      | node => simp
theorem end_last : ∀ t : Tr κ ν, (t.end_ true).top? = t.list.getLast?
  | nil => rfl
  | node k v l r => by
    unfold end_
    cases r with
    | nil => simp [isNode, top?, list]
    | node k' v' l' r' =>
      have := end_last (node k' v' l' r')
      show ((node k' v' l' r').end_ true).top? = _
      rw [this]
      simp [list, List.getLast?_append, List.getLast?_cons]
/-- An order of keys. -/
structure Order (lt : κ → κ → Bool) : Prop where
  irr : ∀ a, lt a a = false
  trans : ∀ a b c, lt a b = true → lt b c = true → lt a c = true
  total : ∀ a b, a ≠ b → lt a b = false → lt b a = true
section
variable (lt : κ → κ → Bool) [DecidableEq κ]
/-- A list with a value by a key. -/
def insK (k : κ) (v : ν) : List (κ × ν) → List (κ × ν)
  | [] => [(k, v)]
  | (a, b) :: r => if k = a then (a, v) :: r else if lt k a then (k, v) :: (a, b) :: r else (a, b) :: insK k v r
def Rising (l : List (κ × ν)) : Prop := l.Pairwise fun x y => lt x.1 y.1 = true
/-- Where a key goes. -/
def put (k : κ) (v : ν) : Tr κ ν → Tr κ ν
  | nil => node k v nil nil
  | node a b l r => if k = a then node a v l r else if lt k a then (node a b (put k v l) r).even else (node a b l (put k v r)).even
/-- A key is taken out. -/
def drop : Tr κ ν → κ → Tr κ ν
  | nil, _ => nil
  | node a b l r, k => if k = a then (match (r.end_ false).top? with
      | none => l
      | some (k', v') => (node k' v' l (drop r k')).even) else if lt k a then (node a b (drop l k) r).even else (node a b l (drop r k)).even
def find : Tr κ ν → κ → Option ν
  | nil, _ => none
  | node a b l r, k => if k = a then some b else if lt k a then find l k else find r k
/-- The tree whose top is a key. -/
def seek (k : κ) : Tr κ ν → Tr κ ν
  | nil => nil
  | node a b l r => if k = a then node a b l r else if lt k a then seek k l else seek k r
theorem seek_find (k : κ) : ∀ t : Tr κ ν, find lt t k = (seek lt k t).top?.map Prod.snd
  | nil => rfl
  | node a b l r => by
    unfold find seek
    split
    · rfl
    · split
      · exact seek_find k l
      · exact seek_find k r
/-- The tree whose top is the greatest key below another one, or what was the best so far. -/
def under (k : κ) : Tr κ ν → Tr κ ν → Tr κ ν
  | best, nil => best
  | best, node a b l r => if lt a k then under k (node a b l r) r else under k best l
/-- The value of a key, in a list. -/
def getK (k : κ) : List (κ × ν) → Option ν
  | [] => none
  | (a, b) :: r => if k = a then some b else getK k r
variable {lt} (ho : Order lt)
include ho
theorem asym {a b : κ} (h : lt a b = true) : lt b a = false := by
  cases h2 : lt b a with
  | false => rfl
  | true =>
    have := ho.trans a b a h h2
    rw [ho.irr] at this
    cases this
theorem ne_of {a b : κ} (h : lt a b = true) : a ≠ b := fun e => by subst e; rw [ho.irr] at h; cases h
theorem ins_low {k : κ} {v : ν} : ∀ (L R : List (κ × ν)), (∀ x ∈ L, lt x.1 k = true) → insK lt k v (L ++ R) = L ++ insK lt k v R
  | [], R, h => rfl
  | (a, b) :: L, R, h => by
    have h1 : lt a k = true := h (a, b) List.mem_cons_self
    have ih := ins_low (k := k) (v := v) L R (fun x hx => h x (List.mem_cons_of_mem _ hx))
    rw [List.cons_append, insK, if_neg (fun e => ne_of ho h1 e.symm), if_neg (by rw [asym ho h1]; decide), ih]
    rfl
theorem ins_below {k : κ} {v : ν} {a : κ} {b : ν} (hk : lt k a = true) : ∀ (L R : List (κ × ν)), insK lt k v (L ++ (a, b) :: R) = insK lt k v L ++ (a, b) :: R
  | [], R => by
    show (if k = a then (a, v) :: R else if lt k a then (k, v) :: (a, b) :: R else (a, b) :: insK lt k v R) = _
    rw [if_neg (ne_of ho hk), if_pos hk]
    rfl
  | (c, d) :: L, R => by
    have ih := ins_below (v := v) (b := b) hk L R
    rw [List.cons_append, insK, insK]
    split
    · rfl
    · split
      · rfl
      · rw [ih]; rfl
theorem rising_parts {L R : List (κ × ν)} {a : κ} {b : ν} (h : Rising lt (L ++ (a, b) :: R)) : Rising lt L ∧ Rising lt R ∧ (∀ x ∈ L, lt x.1 a = true) ∧ (∀ x ∈ R, lt a x.1 = true) ∧ ∀ x ∈ L, ∀ y ∈ R, lt x.1 y.1 = true := by
  obtain ⟨h1, h2, h3⟩ := List.pairwise_append.1 h
  obtain ⟨h4, h5⟩ := List.pairwise_cons.1 h2
  exact ⟨h1, h5, fun x hx => h3 x hx (a, b) List.mem_cons_self, fun x hx => h4 x hx, fun x hx y hy => h3 x hx y (List.mem_cons_of_mem _ hy)⟩
theorem put_list (k : κ) (v : ν) : ∀ t : Tr κ ν, Rising lt t.list → (put lt k v t).list = insK lt k v t.list
  | nil, h => rfl
  | node a b l r, h => by
    obtain ⟨h1, h2, h3, h4, _⟩ := rising_parts ho h
    unfold put
    simp only [list]
    by_cases e : k = a
    · subst e
      rw [if_pos rfl, ins_low ho _ _ h3, insK, if_pos rfl]
      rfl
    · rw [if_neg e]
      by_cases hk : lt k a = true
      · rw [if_pos hk, even_list, ins_below ho hk]
        simp only [list]
        rw [put_list k v l h1]
      · have hk : lt k a = false := by simpa using hk
        have hak := ho.total k a e hk
        rw [if_neg (by rw [hk]; decide), even_list]
        simp only [list]
        rw [put_list k v r h2, ins_low ho _ _ (fun x hx => ho.trans _ _ _ (h3 x hx) hak), insK, if_neg e, if_neg (by rw [hk]; decide)]
theorem insK_rising (k : κ) (v : ν) : ∀ l : List (κ × ν), Rising lt l → Rising lt (insK lt k v l) ∧ ∀ x ∈ insK lt k v l, x.1 = k ∨ ∃ y ∈ l, y.1 = x.1
  | [], h => ⟨List.pairwise_singleton _ _, fun x hx => by simp [insK] at hx; left; rw [hx]⟩
  | (a, b) :: r, h => by
    obtain ⟨h1, h2⟩ := List.pairwise_cons.1 h
    rw [insK]
    split
    · rename_i e
      exact ⟨List.pairwise_cons.2 ⟨h1, h2⟩, fun x hx => by
        rcases List.mem_cons.1 hx with rfl | hx
        · right; exact ⟨(a, b), List.mem_cons_self, rfl⟩
        · right; exact ⟨x, List.mem_cons_of_mem _ hx, rfl⟩⟩
    · rename_i e
      split
      · rename_i hk
        exact ⟨List.pairwise_cons.2 ⟨fun y hy => by
          rcases List.mem_cons.1 hy with rfl | hy
          · exact hk
          · exact ho.trans _ _ _ hk (h1 y hy), h⟩, fun x hx => by
          rcases List.mem_cons.1 hx with rfl | hx
          · exact .inl rfl
          · exact .inr ⟨x, hx, rfl⟩⟩
      · rename_i hk
        have hk : lt k a = false := by simpa using hk
        have hak := ho.total k a e hk
        obtain ⟨i1, i2⟩ := insK_rising k v r h2
        exact ⟨List.pairwise_cons.2 ⟨fun y hy => by
          rcases i2 y hy with e2 | ⟨z, hz, e2⟩
          · rw [e2]; exact hak
          · rw [← e2]; exact h1 z hz, i1⟩, fun x hx => by
          rcases List.mem_cons.1 hx with rfl | hx
          · exact .inr ⟨_, List.mem_cons_self, rfl⟩
          · rcases i2 x hx with e2 | ⟨z, hz, e2⟩
            · exact .inl e2
            · exact .inr ⟨z, List.mem_cons_of_mem _ hz, e2⟩⟩
theorem drop_list : ∀ (t : Tr κ ν) (k : κ), Rising lt t.list → (drop lt t k).list = t.list.filter fun x => decide (x.1 ≠ k)
  | nil, k, h => rfl
  | node a b l r, k, h => by
    obtain ⟨h1, h2, h3, h4, h5⟩ := rising_parts ho h
    have lowF : (∀ x ∈ l.list, lt x.1 k = true) → l.list.filter (fun x => decide (x.1 ≠ k)) = l.list := fun hh => List.filter_eq_self.2 (fun x hx => by simpa using ne_of ho (hh x hx))
    have highF : (∀ x ∈ r.list, lt k x.1 = true) → r.list.filter (fun x => decide (x.1 ≠ k)) = r.list := fun hh => List.filter_eq_self.2 (fun x hx => by simpa using fun e => ne_of ho (hh x hx) e.symm)
    unfold drop
    simp only [list, List.filter_append, List.filter_cons]
    by_cases e : k = a
    · subst e
      rw [if_pos rfl, lowF h3, highF h4]
      simp only [ne_eq, not_true_eq_false, decide_false]
      rw [if_neg (by decide)]
      have he := end_first r
      cases hr : r.list with
      | nil =>
        rw [hr] at he
        rw [he]
        simp
      | cons y r' =>
        rw [hr] at he
        rw [he]
        obtain ⟨k', v'⟩ := y
        simp only [List.head?_cons]
        have ih := drop_list r k' h2
        rw [hr] at ih h2
        rw [even_list]
        simp only [list]
        rw [ih, List.filter_cons, if_neg (by simp), List.filter_eq_self.2 (fun x hx => by simpa using fun e => ne_of ho ((List.pairwise_cons.1 h2).1 x hx) e.symm)]
    · rw [if_neg e]
      have hne : decide ((a, b).1 ≠ k) = true := by simpa using fun e2 => e e2.symm
      rw [if_pos hne]
      by_cases hk : lt k a = true
      · rw [if_pos hk, even_list]
        simp only [list]
        rw [drop_list l k h1, highF (fun x hx => ho.trans _ _ _ hk (h4 x hx))]
      · have hk : lt k a = false := by simpa using hk
        have hak := ho.total k a e hk
        rw [if_neg (by rw [hk]; decide), even_list]
        simp only [list]
        rw [drop_list r k h2, lowF (fun x hx => ho.trans _ _ _ (h3 x hx) hak)]
theorem filter_rising (k : κ) {l : List (κ × ν)} (h : Rising lt l) : Rising lt (l.filter fun x => decide (x.1 ≠ k)) := List.Pairwise.sublist List.filter_sublist h
theorem get_low {k : κ} : ∀ (L R : List (κ × ν)), (∀ x ∈ L, lt x.1 k = true) → getK k (L ++ R) = getK k R
  | [], R, h => rfl
  | (a, b) :: L, R, h => by
    rw [List.cons_append, getK, if_neg (fun e => ne_of ho (h (a, b) List.mem_cons_self) e.symm)]
    exact get_low L R (fun x hx => h x (List.mem_cons_of_mem _ hx))
theorem get_high {k : κ} : ∀ (L : List (κ × ν)), (∀ x ∈ L, lt k x.1 = true) → getK k L = none
  | [], h => rfl
  | (a, b) :: L, h => by
    rw [getK, if_neg (ne_of ho (h (a, b) List.mem_cons_self))]
    exact get_high L (fun x hx => h x (List.mem_cons_of_mem _ hx))
theorem get_app {k : κ} : ∀ (L R : List (κ × ν)), (∀ x ∈ R, lt k x.1 = true) → getK k (L ++ R) = getK k L
  | [], R, h => get_high ho R h
  | (a, b) :: L, R, h => by
    rw [List.cons_append, getK, getK, get_app L R h]
theorem find_list (k : κ) : ∀ t : Tr κ ν, Rising lt t.list → find lt t k = getK k t.list
  | nil, h => rfl
  | node a b l r, h => by
    obtain ⟨h1, h2, h3, h4, h5⟩ := rising_parts ho h
    unfold find
    simp only [list]
    by_cases e : k = a
    · subst e
      rw [if_pos rfl, get_low ho _ _ h3, getK, if_pos rfl]
    · rw [if_neg e]
      by_cases hk : lt k a = true
      · rw [if_pos hk, find_list k l h1, get_app ho _ _ (fun x hx => by
          rcases List.mem_cons.1 hx with rfl | hx
          · exact hk
          · exact ho.trans _ _ _ hk (h4 x hx))]
      · have hk : lt k a = false := by simpa using hk
        have hak := ho.total k a e hk
        rw [if_neg (by rw [hk]; decide), find_list k r h2, get_low ho _ _ (fun x hx => ho.trans _ _ _ (h3 x hx) hak), getK, if_neg e]
omit ho
end
end Tr
theorem intOrder : Tr.Order (fun a b : Int => decide (a < b)) := ⟨fun a => by simp, fun a b c h1 h2 => by simp at *; omega, fun a b h1 h2 => by simp at *; omega⟩
end Go.Proofs.YtfgppkmhjjnnnaaDoor
