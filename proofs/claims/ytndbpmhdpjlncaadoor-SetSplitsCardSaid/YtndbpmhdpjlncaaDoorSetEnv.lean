/- What the row's list of variables gives: Env. -/
import Derived.Test.YtndbpmhdpjlncaaDoorSetF
import Derived.Lib.LaidTab
import Derived.Lib.LaidU8
import Derived.Stop.LaidErr
import Derived.LaidLaws
import Derived.MakeChecks
import Derived.Lay
import Derived.ProofKit
import Derived.OpenShut
namespace Go.Proofs.YtndbpmhdpjlncaaDoor
open Go.ChangeShapes Go.WideShapes Go.ChangeAt Go.RowKit Go.Lib

theorem iface_reads {W : World} {n nm : String} {d : DataW Unit} {g : Nat} {t : TypeId} {ms : Array (String × TypeId)} (hg : Tryd.prog.globalNamed n = some g) (ht : (Tryd.prog.globals[g]?).map (·.type) = some t) (hi : Tryd.prog.underlying t = some (.interface ms))
    (h : VarReads Tryd.prog W n (.iface nm d)) : ∃ te pe, W.cell? ⟨g, 0, none⟩ = some (.iface te pe) := by
  obtain ⟨g', t', cs, fuel, p, hg', ht', hv, hd⟩ := h
  obtain rfl := Option.some.inj (hg.symm.trans hg')
  obtain rfl := Option.some.inj (ht.symm.trans ht')
  obtain ⟨f1, u, v, hcs, _⟩ := iface_of_trod hi hd
  refine ⟨u, v, ?_⟩
  have := World.var?_cell hg hv 0
  rw [this]
  cases cs
  simp_all

theorem env_of {W : World} (h : laidMetH Tryd.prog Rows.setOrderRow.laid W) : Env W := by
  rw [Go.MakeChecks.laidMetH_plain Tryd.prog Rows.setOrderRow.laid W (by kernel_rfl)] at h
  refine ⟨?_, ?_, ?_, ?_⟩
  · have ht := tabIs_of_head (k := .u8) (zs := deBruijn64tab.map Int.ofNat) (show Tryd.prog.globalNamed "math/bits.deBruijn64tab" = some 0 by kernel_rfl) (show (Tryd.prog.globals[0]?).map (·.type) = some 102 by kernel_rfl) Tryd.underlying102 Tryd.underlying5 (by kernel_rfl) (by kernel_rfl) h.tail
    intro j hj
    rw [ht.cell (show Tryd.prog.globalNamed "math/bits.deBruijn64tab" = some 0 by kernel_rfl) j (by simpa using hj)]
    simp [List.getD, hj]
  · exact iface_reads (n := "strconv.ErrSyntax") (nm := "*errors.errorString") (by kernel_rfl) (by kernel_rfl) Tryd.underlying94 (Go.Lib.laidMet.reads h (n := "strconv.ErrSyntax") (d := Rows.laid_strconv_ErrSyntax) (by simp [Rows.setOrderRow]))
  · exact iface_reads (n := "strconv.ErrRange") (nm := "*errors.errorString") (by kernel_rfl) (by kernel_rfl) Tryd.underlying94 (Go.Lib.laidMet.reads h (n := "strconv.ErrRange") (d := Rows.laid_strconv_ErrRange) (by simp [Rows.setOrderRow]))
  · obtain ⟨g, t, cs, fuel, p, hg, ht, hv, hd⟩ := Go.Lib.laidMet.reads h (n := "math/bits.deBruijn32tab") (d := Rows.laid_math_bits_deBruijn32tab) (by simp [Rows.setOrderRow])
    obtain rfl := Option.some.inj ((show Tryd.prog.globalNamed "math/bits.deBruijn32tab" = some 7 by kernel_rfl).symm.trans hg)
    unfold World.var? at hv
    rw [hg] at hv
    simp only [Option.bind_some] at hv
    have hlt : 7 < W.heap.size := by
      rcases Nat.lt_or_ge 7 W.heap.size with h' | h'
      · exact h'
      · simp [Array.getElem?_eq_none h'] at hv
    omega
end Go.Proofs.YtndbpmhdpjlncaaDoor
