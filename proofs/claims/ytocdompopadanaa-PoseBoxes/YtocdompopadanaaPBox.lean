/- PoseBoxes: boxes meet, grow and join as the document says, for all boxes; no condition. -/
import Derived.Test.YtocdompopadanaaPBoxF
import Derived.Test.YtocdompopadanaaPsM
namespace Go.Proofs.Ytocdompopadanaa

theorem poseBoxes_holds : Rows.PoseBoxesSaid := poseBoxes.over awake6_any
#print axioms poseBoxes_holds
end Go.Proofs.Ytocdompopadanaa
