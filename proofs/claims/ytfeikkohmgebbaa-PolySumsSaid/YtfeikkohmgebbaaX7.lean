/- The order in which PolySums' region is walked, looked over. -/
import Derived.Test.YtfeikkohmgebbaaWz
import Derived.Test.YtfeikkohmgebbaaProg
import Derived.KernelRfl
namespace Go.Proofs.Ytfeikkohmgebbaa
def pi7 : List (Nat × Cl.Step) := [(0, .r), (1, .r), (2, .r), (4, .r), (5, .r), (6, .r), (8, .r), (9, .r), (10, .r), (3, .c), (7, .c), (11, .c), (12, .c), (13, .r), (14, .r), (15, .r), (16, .r), (17, .r), (19, .r), (20, .r), (21, .r), (18, .c), (22, .c), (23, .c), (24, .r), (25, .r), (26, .r), (27, .r), (28, .r), (29, .r), (31, .r), (32, .r), (33, .r), (34, .r), (36, .r), (37, .r), (38, .r), (39, .r), (30, .c), (35, .c), (40, .c), (41, .c), (42, .c), (43, .r), (44, .r), (45, .r), (46, .r), (47, .c), (48, .r), (49, .r), (50, .r), (51, .r), (52, .r), (54, .r), (56, .r), (53, .c), (55, .c), (57, .c), (58, .c), (59, .c), (60, .r), (61, .r)]
theorem way7_8 : (Cl.opsAt 8 (Try.f7.body.getD .skip)).map (fun ops => Cl.wayB .any ops 62 pi7) = some true := by kernel_rfl
end Go.Proofs.Ytfeikkohmgebbaa
