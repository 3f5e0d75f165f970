/- What the library's variables hold when a law begins. -/
import Derived.Test.YtainjdmgncicmaaDoorPost
import Derived.Test.YtainjdmgncicmaaDoorWM
import Derived.LaidMore
import Derived.MakeChecks
import Derived.Stop.LaidErr
import Derived.Lib.LaidTab
import Derived.Stop.Joined
namespace Go.Proofs.YtainjdmgncicmaaDoor
open Go.ChangeShapes Go.WideShapes Go.ChangeAt Go.RowKit

theorem pow_data : (Rows.laid_internal_strconv_uint64pow10 : DataW Unit) = Lib.tabData .u64 Lib.pow10Tab := by kernel_rfl
theorem sp_data : (Rows.laid_strings_asciiSpace : DataW Unit) = Lib.tabData .u8 Lib.asciiSpaceTab := by kernel_rfl
theorem g_pow : Tryd.prog.globalNamed "internal/strconv.uint64pow10" = some 5 := by kernel_rfl
theorem gt_pow : (Tryd.prog.globals[5]?).map (·.type) = some 132 := by kernel_rfl
theorem g_sp : Tryd.prog.globalNamed "strings.asciiSpace" = some 0 := by kernel_rfl
theorem gt_sp : (Tryd.prog.globals[0]?).map (·.type) = some 80 := by kernel_rfl
theorem g_er : Tryd.prog.globalNamed "strconv.ErrRange" = some 4 := by kernel_rfl
theorem gt_er : (Tryd.prog.globals[4]?).map (·.type) = some 64 := by kernel_rfl
theorem g_es : Tryd.prog.globalNamed "strconv.ErrSyntax" = some 3 := by kernel_rfl
theorem gt_es : (Tryd.prog.globals[3]?).map (·.type) = some 64 := by kernel_rfl
theorem star : "*" ++ "errors.errorString" = "*errors.errorString" := by decide
theorem row_err (u : TypeId) (h : Tryd.prog.typeName? 3 u = some "*errors.errorString") : u = 139 :=
  typeName_ptr_named (nm := "errors.errorString") (by rw [star]; kernel_rfl) (by kernel_rfl) (by decide) u (by rw [star]; exact h)

theorem laid_of {W : World} {x1 x2 x3 : String × DataW Unit} {r : List (String × DataW Unit)}
    (h : laidMet Tryd.prog (x1 :: x2 :: ("internal/strconv.uint64pow10", Rows.laid_internal_strconv_uint64pow10) :: ("strconv.ErrRange", Rows.laid_strconv_ErrRange) :: ("strconv.ErrSyntax", Rows.laid_strconv_ErrSyntax) :: x3 :: ("strings.asciiSpace", Rows.laid_strings_asciiSpace) :: r) W) : Laid W := by
  have h2 := h.tail.tail
  have h3 := h2.tail
  have h4 := h3.tail
  have h6 := h4.tail.tail
  rw [pow_data] at h2
  rw [sp_data] at h6
  obtain ⟨a1, s1, hv1, _⟩ := laid_sentinel h3 g_er gt_er Tryd.underlying64 row_err Tryd.underlying139 Tryd.underlying141 rfl rfl Tryd.underlying9 (by kernel_rfl) (by kernel_rfl)
  obtain ⟨a2, s2, hv2, _⟩ := laid_sentinel h4 g_es gt_es Tryd.underlying64 row_err Tryd.underlying139 Tryd.underlying141 rfl rfl Tryd.underlying9 (by kernel_rfl) (by kernel_rfl)
  exact ⟨Lib.tabIs_of_head g_sp gt_sp Tryd.underlying80 Tryd.underlying5 (by kernel_rfl) (by kernel_rfl) h6,
    Lib.tabIs_of_head g_pow gt_pow Tryd.underlying132 Tryd.underlying89 (by kernel_rfl) (by kernel_rfl) h2, ⟨_, _, hv2⟩, ⟨_, _, hv1⟩⟩

theorem door_met (os : Os) (args : Array Value) : laidMetH Tryd.prog Rows.wordsNumbersRow.laid ((World.doorLaid Tryd.prog 4000 os).forCall (fun _ _ => 0) ⟨#[], args, []⟩).memory :=
  laidMetH_of_parts3 (fuel := 8) (laidMet_of_run' 8 (by kernel_rfl) (by kernel_rfl)) (by kernel_rfl) (by kernel_rfl)
end Go.Proofs.YtainjdmgncicmaaDoor
