/- fmt's text of the law's one call, told to the byte. -/
import Derived.Test.YtgaphplndpdhaaaFmtFmt
import Derived.Stop.FmtTextVerbs
import Derived.Stop.Texts
import Derived.Stop.FmtTextKit
import Derived.Stop.JoinedTold
namespace Go.Proofs.YtgaphplndpdhaaaFmt
open Go.RowKit Go.Extern.Stop Go.Stop Go.Extern
theorem t_parse : (FmtText.parse [109, 111, 114, 101, 58, 32, 37, 119]).map FmtText.glue = some [.lit [109, 111, 114, 101, 58, 32], .verb {} 119] := by rfl
theorem t_text (said : List UInt8) : FmtText.text "fmt.errorf" (fReading said) = some ([109, 111, 114, 101, 58, 32] ++ said) := by
  rw [fReading, FmtText.text_errorf_glued t_parse (FmtText.operands_cons (FmtText.operand_error_at rfl (FmtText.unpack_pack _ (by decide)) said) FmtText.operands_nil)]
  simp [FmtText.render, FmtText.printArg_w_said]
theorem t_told (F : Interp) (said : ByteArray) (h : said.size ≤ 1000) : FmtStop.textOf (F.told "fmt.errorf" (fReading said.data.toList) 0) = ⟨([109, 111, 114, 101, 58, 32] ++ said.data.toList).toArray⟩ := by
  have hl : said.data.toList.length = said.size := rfl
  have hout := told_string F (t_text said.data.toList) (by simp; omega)
  have hl2 := Go.Kit.textOf_list F.told "fmt.errorf" (fReading said.data.toList)
  rw [hout] at hl2
  rw [← hl2]
end Go.Proofs.YtgaphplndpdhaaaFmt
