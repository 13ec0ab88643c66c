/- A clock of eight bytes that can be read holds bytes. -/
import Derived.Test.YtpbfnmokhmioaaaDoorIdentMath
namespace Go.Proofs.YtpbfnmokhmioaaaDoor
set_option maxRecDepth 100000
open Go.RowKit

theorem ok8 {b0 b1 b2 b3 b4 b5 b6 b7 : Int} (h0 : (Lit.int .u8 b0).wf = true) (h1 : (Lit.int .u8 b1).wf = true) (h2 : (Lit.int .u8 b2).wf = true) (h3 : (Lit.int .u8 b3).wf = true) (h4 : (Lit.int .u8 b4).wf = true) (h5 : (Lit.int .u8 b5).wf = true) (h6 : (Lit.int .u8 b6).wf = true) (h7 : (Lit.int .u8 b7).wf = true) : Ck.ok ⟨b0, b1, b2, b3, b4, b5, b6, b7⟩ := by
  intro z hz
  simp only [Ck.l, List.mem_cons, List.not_mem_nil, or_false] at hz
  rcases hz with rfl | rfl | rfl | rfl | rfl | rfl | rfl | rfl
  · exact byte_wf h0
  · exact byte_wf h1
  · exact byte_wf h2
  · exact byte_wf h3
  · exact byte_wf h4
  · exact byte_wf h5
  · exact byte_wf h6
  · exact byte_wf h7

end Go.Proofs.YtpbfnmokhmioaaaDoor
