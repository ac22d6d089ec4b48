import Derived.Test.YtcpfpnjkfahjcaaH42
import Derived.Test.YtcpfpnjkfahjcaaH43
set_option linter.unusedSimpArgs false
set_option linter.unusedVariables false
namespace Go.Proofs.Ytcpfpnjkfahjcaa
open Go.RowKit

set_option maxRecDepth 8000 in
set_option maxHeartbeats 1600000 in
theorem cut_no (a s : ByteArray) (vc : Value) (li e1 a1 : Int) (w : World) (hr : Sp.read a = .error (e1, a1)) (he : ¬ e1 = 0) : Calls Try.prog 9 #[.string a, .string s, vc, .int .i64 li] w fun e w' => e = .returned (.bool true) ∧ Upd [] w w' := by
  have HR : Hid (Sp.read a = .error (e1, a1)) := hr
  clear hr
  go_enter Try.func9, Try.ntmps9
  go_wp2_with fail
  refine (begun_any w).mono ?_
  rintro e w1 ⟨rfl, u1⟩
  have U1 : Hid (Upd [] w w1) := u1
  clear u1
  go_wp2_with fail
  refine (comp_no a e1 a1 _ HR.out).mono ?_
  rintro e w2 ⟨rfl, u2⟩
  have U2 : Hid (Upd [] w w2) := U1.out.trans u2
  clear u2
  go_wp2_with fail
  go_ret
  exact ⟨by simp [he], U2.out⟩
end Go.Proofs.Ytcpfpnjkfahjcaa
