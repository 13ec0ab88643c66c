/- The walk over Fresh. -/
import Derived.Test.YtpbfnmokhmioaaaDoorSeqsFreshA
import Derived.Test.YtpbfnmokhmioaaaDoorSeqsFreshB
import Derived.Test.YtpbfnmokhmioaaaDoorSeqsFreshC
import Derived.Test.YtpbfnmokhmioaaaDoorSeqsFreshD
import Derived.Test.YtpbfnmokhmioaaaDoorSeqsFreshE
namespace Go.Proofs.YtpbfnmokhmioaaaDoor
set_option maxRecDepth 100000
open Go.RowKit
set_option linter.unusedVariables false
set_option linter.unusedSimpArgs false

set_option maxHeartbeats 4000000 in
theorem fresh11_any (p m h : Nat) (b : Bk) (q : Pt) (k s : Int) (w : World) (hb : BookAt w p m h b) (hn : b.ok) (ok : ptOk q) :
    Calls Tryd.prog 14 #[.pointer (some ⟨p, 0, none⟩), .agg (ptA q), .int .i64 k, .int .i64 s] w fun e w' => e = .returned (.bool (freshOk b q k s)) ∧ BookAt w' p m h (freshB b q k s) ∧ Only [m] w.heap.size w w' := by
  by_cases h0 : longN k ≠ 0 ∧ inB s 0 65535 = true ∧ roomB b q = true
  · obtain ⟨hk, hs, hr⟩ := h0
    rcases kinds11 hk with rfl | rfl | rfl | rfl | rfl
    · exact fresh11_0 p m h b q s w hb hn ok hs hr
    · exact fresh11_1 p m h b q s w hb hn ok hs hr
    · exact fresh11_8 p m h b q s w hb hn ok hs hr
    · exact fresh11_9 p m h b q s w hb hn ok hs hr
    · exact fresh11_11 p m h b q s w hb hn ok hs hr
  · exact fresh11_no p m h b q k s w hb hn ok h0

end Go.Proofs.YtpbfnmokhmioaaaDoor
