/-
  NARROWER THAN 'FOR EVERY INPUT', by the rows' own cells (each row's printed sentence says how): SealTells: laid · SealBack: laid · SealStreams: laid · SealOver: laid · SealTagged: laid · SealNew: laid.
  DERIVED. THE GIVEN ROWS OF THIS SEAT. 6 by the template 'for every input the law returns true; each argument reads behind the call as it read before'; 0 by the template 'total and deterministic' (their statements: YtboogomenmlhjaaDoorTotals.lean).
  GIVEN WITH THE SEED: the statements are not yours to turn. If you find one false, say at which input.
  Laid BY PROGRAM, IN A SANDBOX (cutbox-rows.mjs): the forced cells as the released guide's own fill.sh prints them over the translation 4a3dddebac7b3770… (all of the seat's roots in one cut). By AI agents, Wed Nov 11 2026. No macro, syntax, notation, axiom, sorry.
-/
import Derived.Test.YtboogomenmlhjaaDoorChecked
import GoSem.Claim
import GoSem.ClaimJoined
import GoSem.ClaimMapViews
import Derived.JoinedTies
import Derived.KernelRfl
namespace Go.Proofs.YtboogomenmlhjaaDoor
/- THE CELL 'sum', in the pinned program and in every row, IS THE sha256 OF THE DUMP (.gsa) THAT YtboogomenmlhjaaDoorProg.lean LOADS. Nothing in Lean hashes anything: it is a label: what it is worth is what the hold of that sum in a sandbox is worth. -/
noncomputable def Tryd.pinned : Pinned := { name := "ytboogomenmlhjaadoor", sum := "4a3dddebac7b37700551850414d32e75b2027e00c498dde4b7f6e36440e8fb5b", checked := Tryd.checked }
namespace Rows
def none {H : Type} : Left H := { results := [], args := [] }

/- WHAT THE LISTED PACKAGE-LEVEL VARIABLES READ AS WHEN THE CALL BEGINS. Each datum BY PROGRAM (the guide's laid-datum.mjs) off the statement by which the dump's own 'gosem.cut.vars' lays the variable. In a bare row this is a premise. The card (YtboogomenmlhjaaDoorCards.lean) ties it to the program's text. -/
def laid_corsned_hash_roots {H : Type} : DataW H := .agg [.lit (.int .u32 1116352408), .lit (.int .u32 1899447441), .lit (.int .u32 3049323471), .lit (.int .u32 3921009573), .lit (.int .u32 961987163), .lit (.int .u32 1508970993), .lit (.int .u32 2453635748), .lit (.int .u32 2870763221), .lit (.int .u32 3624381080), .lit (.int .u32 310598401), .lit (.int .u32 607225278), .lit (.int .u32 1426881987), .lit (.int .u32 1925078388), .lit (.int .u32 2162078206), .lit (.int .u32 2614888103), .lit (.int .u32 3248222580), .lit (.int .u32 3835390401), .lit (.int .u32 4022224774), .lit (.int .u32 264347078), .lit (.int .u32 604807628), .lit (.int .u32 770255983), .lit (.int .u32 1249150122), .lit (.int .u32 1555081692), .lit (.int .u32 1996064986), .lit (.int .u32 2554220882), .lit (.int .u32 2821834349), .lit (.int .u32 2952996808), .lit (.int .u32 3210313671), .lit (.int .u32 3336571891), .lit (.int .u32 3584528711), .lit (.int .u32 113926993), .lit (.int .u32 338241895), .lit (.int .u32 666307205), .lit (.int .u32 773529912), .lit (.int .u32 1294757372), .lit (.int .u32 1396182291), .lit (.int .u32 1695183700), .lit (.int .u32 1986661051), .lit (.int .u32 2177026350), .lit (.int .u32 2456956037), .lit (.int .u32 2730485921), .lit (.int .u32 2820302411), .lit (.int .u32 3259730800), .lit (.int .u32 3345764771), .lit (.int .u32 3516065817), .lit (.int .u32 3600352804), .lit (.int .u32 4094571909), .lit (.int .u32 275423344), .lit (.int .u32 430227734), .lit (.int .u32 506948616), .lit (.int .u32 659060556), .lit (.int .u32 883997877), .lit (.int .u32 958139571), .lit (.int .u32 1322822218), .lit (.int .u32 1537002063), .lit (.int .u32 1747873779), .lit (.int .u32 1955562222), .lit (.int .u32 2024104815), .lit (.int .u32 2227730452), .lit (.int .u32 2361852424), .lit (.int .u32 2428436474), .lit (.int .u32 2756734187), .lit (.int .u32 3204031479), .lit (.int .u32 3329325298)]

/-- 'corsnedlaw09.SealTells': WHATEVER THE INPUT: true; the input reads as it did. -/
def sealTellsSpec : ChangeSpec := { name := "sealTells", fn := fun _ => fun
  | [d1, d2, d3, d4] => { results := [.lit (.bool true)], args := [d1, d2, d3, d4] }
  | _ => none }
def sealTellsRow : OpenClaim := { program := "ytboogomenmlhjaadoor", sum := "4a3dddebac7b37700551850414d32e75b2027e00c498dde4b7f6e36440e8fb5b", func := "corsned/corsnedlaw09.SealTells", spec := "sealTells", unfollowed := true, recurses := true, named := ["corsned/hash.roots"], apart := false, laid := [("corsned/hash.roots", laid_corsned_hash_roots)] }
def SealTellsSaid : Prop := sealTellsRow.holds Tryd.pinned (OpenSpec.ofChange sealTellsSpec)

/-- ITS FALSE NEIGHBOUR: 'it returns false'. Refute it at one input. -/
def sealTellsWrong : ChangeSpec := { name := "sealTells", fn := fun _ => fun
  | [d1, d2, d3, d4] => { results := [.lit (.bool false)], args := [d1, d2, d3, d4] }
  | _ => none }
def SealTellsWrongFalsely : Prop := sealTellsRow.holds Tryd.pinned (OpenSpec.ofChange sealTellsWrong)

/-- 'corsnedlaw09.SealBack': WHATEVER THE INPUT: true; the input reads as it did. -/
def sealBackSpec : ChangeSpec := { name := "sealBack", fn := fun _ => fun
  | [d1, d2, d3] => { results := [.lit (.bool true)], args := [d1, d2, d3] }
  | _ => none }
def sealBackRow : OpenClaim := { program := "ytboogomenmlhjaadoor", sum := "4a3dddebac7b37700551850414d32e75b2027e00c498dde4b7f6e36440e8fb5b", func := "corsned/corsnedlaw09.SealBack", spec := "sealBack", unfollowed := true, recurses := true, named := ["corsned/hash.roots"], apart := false, laid := [("corsned/hash.roots", laid_corsned_hash_roots)] }
def SealBackSaid : Prop := sealBackRow.holds Tryd.pinned (OpenSpec.ofChange sealBackSpec)

/-- ITS FALSE NEIGHBOUR: 'it returns false'. Refute it at one input. -/
def sealBackWrong : ChangeSpec := { name := "sealBack", fn := fun _ => fun
  | [d1, d2, d3] => { results := [.lit (.bool false)], args := [d1, d2, d3] }
  | _ => none }
def SealBackWrongFalsely : Prop := sealBackRow.holds Tryd.pinned (OpenSpec.ofChange sealBackWrong)

/-- 'corsnedlaw09.SealStreams': WHATEVER THE INPUT: true; the input reads as it did. -/
def sealStreamsSpec : ChangeSpec := { name := "sealStreams", fn := fun _ => fun
  | [d1, d2, d3] => { results := [.lit (.bool true)], args := [d1, d2, d3] }
  | _ => none }
def sealStreamsRow : OpenClaim := { program := "ytboogomenmlhjaadoor", sum := "4a3dddebac7b37700551850414d32e75b2027e00c498dde4b7f6e36440e8fb5b", func := "corsned/corsnedlaw09.SealStreams", spec := "sealStreams", unfollowed := true, recurses := true, named := ["corsned/hash.roots"], apart := false, laid := [("corsned/hash.roots", laid_corsned_hash_roots)] }
def SealStreamsSaid : Prop := sealStreamsRow.holds Tryd.pinned (OpenSpec.ofChange sealStreamsSpec)

/-- ITS FALSE NEIGHBOUR: 'it returns false'. Refute it at one input. -/
def sealStreamsWrong : ChangeSpec := { name := "sealStreams", fn := fun _ => fun
  | [d1, d2, d3] => { results := [.lit (.bool false)], args := [d1, d2, d3] }
  | _ => none }
def SealStreamsWrongFalsely : Prop := sealStreamsRow.holds Tryd.pinned (OpenSpec.ofChange sealStreamsWrong)

/-- 'corsnedlaw09.SealOver': WHATEVER THE INPUT: true; the input reads as it did. -/
def sealOverSpec : ChangeSpec := { name := "sealOver", fn := fun _ => fun
  | [d1, d2, d3] => { results := [.lit (.bool true)], args := [d1, d2, d3] }
  | _ => none }
def sealOverRow : OpenClaim := { program := "ytboogomenmlhjaadoor", sum := "4a3dddebac7b37700551850414d32e75b2027e00c498dde4b7f6e36440e8fb5b", func := "corsned/corsnedlaw09.SealOver", spec := "sealOver", unfollowed := true, recurses := true, named := ["corsned/hash.roots"], apart := false, laid := [("corsned/hash.roots", laid_corsned_hash_roots)] }
def SealOverSaid : Prop := sealOverRow.holds Tryd.pinned (OpenSpec.ofChange sealOverSpec)

/-- ITS FALSE NEIGHBOUR: 'it returns false'. Refute it at one input. -/
def sealOverWrong : ChangeSpec := { name := "sealOver", fn := fun _ => fun
  | [d1, d2, d3] => { results := [.lit (.bool false)], args := [d1, d2, d3] }
  | _ => none }
def SealOverWrongFalsely : Prop := sealOverRow.holds Tryd.pinned (OpenSpec.ofChange sealOverWrong)

/-- 'corsnedlaw09.SealTagged': WHATEVER THE INPUT: true; the input reads as it did. -/
def sealTaggedSpec : ChangeSpec := { name := "sealTagged", fn := fun _ => fun
  | [d1, d2, d3] => { results := [.lit (.bool true)], args := [d1, d2, d3] }
  | _ => none }
def sealTaggedRow : OpenClaim := { program := "ytboogomenmlhjaadoor", sum := "4a3dddebac7b37700551850414d32e75b2027e00c498dde4b7f6e36440e8fb5b", func := "corsned/corsnedlaw09.SealTagged", spec := "sealTagged", unfollowed := true, recurses := true, named := ["corsned/hash.roots"], apart := false, laid := [("corsned/hash.roots", laid_corsned_hash_roots)] }
def SealTaggedSaid : Prop := sealTaggedRow.holds Tryd.pinned (OpenSpec.ofChange sealTaggedSpec)

/-- ITS FALSE NEIGHBOUR: 'it returns false'. Refute it at one input. -/
def sealTaggedWrong : ChangeSpec := { name := "sealTagged", fn := fun _ => fun
  | [d1, d2, d3] => { results := [.lit (.bool false)], args := [d1, d2, d3] }
  | _ => none }
def SealTaggedWrongFalsely : Prop := sealTaggedRow.holds Tryd.pinned (OpenSpec.ofChange sealTaggedWrong)

/-- 'corsnedlaw09.SealNew': WHATEVER THE INPUT: true; the input reads as it did. -/
def sealNewSpec : ChangeSpec := { name := "sealNew", fn := fun _ => fun
  | [d1, d2] => { results := [.lit (.bool true)], args := [d1, d2] }
  | _ => none }
def sealNewRow : OpenClaim := { program := "ytboogomenmlhjaadoor", sum := "4a3dddebac7b37700551850414d32e75b2027e00c498dde4b7f6e36440e8fb5b", func := "corsned/corsnedlaw09.SealNew", spec := "sealNew", unfollowed := true, recurses := true, named := ["corsned/hash.roots"], apart := false, laid := [("corsned/hash.roots", laid_corsned_hash_roots)] }
def SealNewSaid : Prop := sealNewRow.holds Tryd.pinned (OpenSpec.ofChange sealNewSpec)

/-- ITS FALSE NEIGHBOUR: 'it returns false'. Refute it at one input. -/
def sealNewWrong : ChangeSpec := { name := "sealNew", fn := fun _ => fun
  | [d1, d2] => { results := [.lit (.bool false)], args := [d1, d2] }
  | _ => none }
def SealNewWrongFalsely : Prop := sealNewRow.holds Tryd.pinned (OpenSpec.ofChange sealNewWrong)

/- THE SECOND FORM. 'bulk': how many values and letters a reading holds, each counted each time it is reached (what is shared counts as often as it is met; a slice's spare places count too). A statement '..UptoSaid' is the law's where the arguments, and the package variables that the reading takes, are together of bulk at most 1048576: NARROWER than '..Said'. Prove '..Said' where nothing that the law and all that it calls make is longer than what came in: it says more and counts as full. Else prove '..UptoSaid'. A law counts once. -/
mutual
def uptoBulk {H : Type} : DataW H → Nat
  | .lit (.string bytes) => bytes.length + 1
  | .lit _ => 1
  | .nil => 1
  | .ptr d => uptoBulk d + 1
  | .slice elems spare => uptoBulkAll elems + uptoBulkAll spare + 1
  | .agg parts => uptoBulkAll parts + 1
  | .iface _ d => uptoBulk d + 1
  | .map entries => uptoBulkEntries entries + 1
  | .held _ => 1
def uptoBulkAll {H : Type} : List (DataW H) → Nat
  | [] => 0
  | d :: r => uptoBulk d + uptoBulkAll r
def uptoBulkEntries {H : Type} : List (Lit × DataW H) → Nat
  | [] => 0
  | x :: r => uptoBulkEntry x + uptoBulkEntries r
def uptoBulkEntry {H : Type} : Lit × DataW H → Nat
  | (.string bytes, d) => bytes.length + uptoBulk d + 1
  | (_, d) => uptoBulk d + 1
 end
def uptoSmall : (H : Type) → List (DataW H) → Bool := fun _ ds => decide (uptoBulkAll ds ≤ 1048576)
def OpenSpec.upto (s : _root_.Go.ChangeSpec) : _root_.Go.OpenSpec := { _root_.Go.OpenSpec.ofChange s with cond := some uptoSmall }

/-- 'corsnedlaw09.SealTells', WHERE WHAT IT READS IS OF BULK AT MOST 1048576: true; the input reads as it did. -/
def sealTellsUptoRow : OpenClaim := { program := "ytboogomenmlhjaadoor", sum := "4a3dddebac7b37700551850414d32e75b2027e00c498dde4b7f6e36440e8fb5b", func := "corsned/corsnedlaw09.SealTells", spec := "sealTells", unfollowed := true, recurses := true, named := ["corsned/hash.roots"], apart := false, laid := [("corsned/hash.roots", laid_corsned_hash_roots)], narrowed := true }
def SealTellsUptoSaid : Prop := sealTellsUptoRow.holds Tryd.pinned (OpenSpec.upto sealTellsSpec)

/-- 'corsnedlaw09.SealBack', WHERE WHAT IT READS IS OF BULK AT MOST 1048576: true; the input reads as it did. -/
def sealBackUptoRow : OpenClaim := { program := "ytboogomenmlhjaadoor", sum := "4a3dddebac7b37700551850414d32e75b2027e00c498dde4b7f6e36440e8fb5b", func := "corsned/corsnedlaw09.SealBack", spec := "sealBack", unfollowed := true, recurses := true, named := ["corsned/hash.roots"], apart := false, laid := [("corsned/hash.roots", laid_corsned_hash_roots)], narrowed := true }
def SealBackUptoSaid : Prop := sealBackUptoRow.holds Tryd.pinned (OpenSpec.upto sealBackSpec)

/-- 'corsnedlaw09.SealStreams', WHERE WHAT IT READS IS OF BULK AT MOST 1048576: true; the input reads as it did. -/
def sealStreamsUptoRow : OpenClaim := { program := "ytboogomenmlhjaadoor", sum := "4a3dddebac7b37700551850414d32e75b2027e00c498dde4b7f6e36440e8fb5b", func := "corsned/corsnedlaw09.SealStreams", spec := "sealStreams", unfollowed := true, recurses := true, named := ["corsned/hash.roots"], apart := false, laid := [("corsned/hash.roots", laid_corsned_hash_roots)], narrowed := true }
def SealStreamsUptoSaid : Prop := sealStreamsUptoRow.holds Tryd.pinned (OpenSpec.upto sealStreamsSpec)

/-- 'corsnedlaw09.SealOver', WHERE WHAT IT READS IS OF BULK AT MOST 1048576: true; the input reads as it did. -/
def sealOverUptoRow : OpenClaim := { program := "ytboogomenmlhjaadoor", sum := "4a3dddebac7b37700551850414d32e75b2027e00c498dde4b7f6e36440e8fb5b", func := "corsned/corsnedlaw09.SealOver", spec := "sealOver", unfollowed := true, recurses := true, named := ["corsned/hash.roots"], apart := false, laid := [("corsned/hash.roots", laid_corsned_hash_roots)], narrowed := true }
def SealOverUptoSaid : Prop := sealOverUptoRow.holds Tryd.pinned (OpenSpec.upto sealOverSpec)

/-- 'corsnedlaw09.SealTagged', WHERE WHAT IT READS IS OF BULK AT MOST 1048576: true; the input reads as it did. -/
def sealTaggedUptoRow : OpenClaim := { program := "ytboogomenmlhjaadoor", sum := "4a3dddebac7b37700551850414d32e75b2027e00c498dde4b7f6e36440e8fb5b", func := "corsned/corsnedlaw09.SealTagged", spec := "sealTagged", unfollowed := true, recurses := true, named := ["corsned/hash.roots"], apart := false, laid := [("corsned/hash.roots", laid_corsned_hash_roots)], narrowed := true }
def SealTaggedUptoSaid : Prop := sealTaggedUptoRow.holds Tryd.pinned (OpenSpec.upto sealTaggedSpec)

/-- 'corsnedlaw09.SealNew', WHERE WHAT IT READS IS OF BULK AT MOST 1048576: true; the input reads as it did. -/
def sealNewUptoRow : OpenClaim := { program := "ytboogomenmlhjaadoor", sum := "4a3dddebac7b37700551850414d32e75b2027e00c498dde4b7f6e36440e8fb5b", func := "corsned/corsnedlaw09.SealNew", spec := "sealNew", unfollowed := true, recurses := true, named := ["corsned/hash.roots"], apart := false, laid := [("corsned/hash.roots", laid_corsned_hash_roots)], narrowed := true }
def SealNewUptoSaid : Prop := sealNewUptoRow.holds Tryd.pinned (OpenSpec.upto sealNewSpec)

end Rows
end Go.Proofs.YtboogomenmlhjaaDoor
