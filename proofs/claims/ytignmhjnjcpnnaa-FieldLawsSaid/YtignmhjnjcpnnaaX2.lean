/- The laws' regions that draw their order: what is asked of each order. -/
import Derived.Test.YtignmhjnjcpnnaaCl
import Derived.Test.YtignmhjnjcpnnaaProg
import Derived.KernelRfl
namespace Go.Proofs.Ytignmhjnjcpnnaa
theorem lex4_6 : (Cl.opsAt 6 (Try.f4.body.getD .skip)).map (Region.lexB .any) = some true := by kernel_rfl
theorem lex5_17 : (Cl.opsAt 17 (Try.f5.body.getD .skip)).map (Region.lexB .any) = some true := by kernel_rfl
theorem lex6_7 : (Cl.opsAt 7 (Try.f6.body.getD .skip)).map (Region.lexB .any) = some true := by kernel_rfl
theorem lex6_10 : (Cl.opsAt 10 (Try.f6.body.getD .skip)).map (Region.lexB .any) = some true := by kernel_rfl
theorem lex7_5 : (Cl.opsAt 5 (Try.f7.body.getD .skip)).map (Region.lexB .any) = some true := by kernel_rfl
theorem lex7_7 : (Cl.opsAt 7 (Try.f7.body.getD .skip)).map (Region.lexB .any) = some true := by kernel_rfl
theorem lex8_6 : (Cl.opsAt 6 (Try.f8.body.getD .skip)).map (Region.lexB .any) = some true := by kernel_rfl
theorem lex8_10 : (Cl.opsAt 10 (Try.f8.body.getD .skip)).map (Region.lexB .any) = some true := by kernel_rfl
end Go.Proofs.Ytignmhjnjcpnnaa
