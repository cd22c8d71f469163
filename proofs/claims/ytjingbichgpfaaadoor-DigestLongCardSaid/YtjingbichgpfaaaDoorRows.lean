/-
  NARROWER THAN 'FOR EVERY INPUT', by the rows' own cells (each row's printed sentence says how): DigestOf: laid · DigestCuts: laid · DigestTwo: laid · DigestNoughts: laid · DigestLong: laid · DigestBits: laid.
  DERIVED. THE GIVEN ROWS OF THIS SEAT. 6 by the template 'for every input the law returns true; each argument reads behind the call as it read before'; 0 by the template 'total and deterministic' (their statements: YtjingbichgpfaaaDoorTotals.lean).
  GIVEN WITH THE SEED: the statements are not yours to turn. If you find one false, say at which input.
  Laid BY PROGRAM, IN A SANDBOX (cutbox-rows.mjs): the forced cells as the released guide's own fill.sh prints them over the translation ff78942ba07c0f18… (all of the seat's roots in one cut). By AI agents, Wed Nov 11 2026. No macro, syntax, notation, axiom, sorry.
-/
import Derived.Test.YtjingbichgpfaaaDoorChecked
import GoSem.Claim
import GoSem.ClaimJoined
import GoSem.ClaimMapViews
import Derived.JoinedTies
import Derived.KernelRfl
namespace Go.Proofs.YtjingbichgpfaaaDoor
/- THE CELL 'sum', in the pinned program and in every row, IS THE sha256 OF THE DUMP (.gsa) THAT YtjingbichgpfaaaDoorProg.lean LOADS. Nothing in Lean hashes anything: it is a label: what it is worth is what the hold of that sum in a sandbox is worth. -/
noncomputable def Tryd.pinned : Pinned := { name := "ytjingbichgpfaaadoor", sum := "ff78942ba07c0f18577a290471e1865b6c20cc9eb14405654b50c7e41c92b3cc", checked := Tryd.checked }
namespace Rows
def none {H : Type} : Left H := { results := [], args := [] }

/- WHAT THE LISTED PACKAGE-LEVEL VARIABLES READ AS WHEN THE CALL BEGINS. Each datum BY PROGRAM (the guide's laid-datum.mjs) off the statement by which the dump's own 'gosem.cut.vars' lays the variable. In a bare row this is a premise. The card (YtjingbichgpfaaaDoorCards.lean) ties it to the program's text. -/
def laid_bailee_digest_first {H : Type} : DataW H := .agg [.lit (.int .u32 1779033703), .lit (.int .u32 3144134277), .lit (.int .u32 1013904242), .lit (.int .u32 2773480762), .lit (.int .u32 1359893119), .lit (.int .u32 2600822924), .lit (.int .u32 528734635), .lit (.int .u32 1541459225)]
def laid_bailee_digest_ofRound {H : Type} : DataW H := .agg [.lit (.int .u32 1116352408), .lit (.int .u32 1899447441), .lit (.int .u32 3049323471), .lit (.int .u32 3921009573), .lit (.int .u32 961987163), .lit (.int .u32 1508970993), .lit (.int .u32 2453635748), .lit (.int .u32 2870763221), .lit (.int .u32 3624381080), .lit (.int .u32 310598401), .lit (.int .u32 607225278), .lit (.int .u32 1426881987), .lit (.int .u32 1925078388), .lit (.int .u32 2162078206), .lit (.int .u32 2614888103), .lit (.int .u32 3248222580), .lit (.int .u32 3835390401), .lit (.int .u32 4022224774), .lit (.int .u32 264347078), .lit (.int .u32 604807628), .lit (.int .u32 770255983), .lit (.int .u32 1249150122), .lit (.int .u32 1555081692), .lit (.int .u32 1996064986), .lit (.int .u32 2554220882), .lit (.int .u32 2821834349), .lit (.int .u32 2952996808), .lit (.int .u32 3210313671), .lit (.int .u32 3336571891), .lit (.int .u32 3584528711), .lit (.int .u32 113926993), .lit (.int .u32 338241895), .lit (.int .u32 666307205), .lit (.int .u32 773529912), .lit (.int .u32 1294757372), .lit (.int .u32 1396182291), .lit (.int .u32 1695183700), .lit (.int .u32 1986661051), .lit (.int .u32 2177026350), .lit (.int .u32 2456956037), .lit (.int .u32 2730485921), .lit (.int .u32 2820302411), .lit (.int .u32 3259730800), .lit (.int .u32 3345764771), .lit (.int .u32 3516065817), .lit (.int .u32 3600352804), .lit (.int .u32 4094571909), .lit (.int .u32 275423344), .lit (.int .u32 430227734), .lit (.int .u32 506948616), .lit (.int .u32 659060556), .lit (.int .u32 883997877), .lit (.int .u32 958139571), .lit (.int .u32 1322822218), .lit (.int .u32 1537002063), .lit (.int .u32 1747873779), .lit (.int .u32 1955562222), .lit (.int .u32 2024104815), .lit (.int .u32 2227730452), .lit (.int .u32 2361852424), .lit (.int .u32 2428436474), .lit (.int .u32 2756734187), .lit (.int .u32 3204031479), .lit (.int .u32 3329325298)]

/-- 'baileelaw02.DigestOf': WHATEVER THE INPUT: true; the input reads as it did. -/
def digestOfSpec : ChangeSpec := { name := "digestOf", fn := fun _ => fun
  | [d] => { results := [.lit (.bool true)], args := [d] }
  | _ => none }
def digestOfRow : OpenClaim := { program := "ytjingbichgpfaaadoor", sum := "ff78942ba07c0f18577a290471e1865b6c20cc9eb14405654b50c7e41c92b3cc", func := "bailee/baileelaw02.DigestOf", spec := "digestOf", named := ["bailee/digest.first", "bailee/digest.ofRound"], apart := false, laid := [("bailee/digest.first", laid_bailee_digest_first), ("bailee/digest.ofRound", laid_bailee_digest_ofRound)] }
def DigestOfSaid : Prop := digestOfRow.holds Tryd.pinned (OpenSpec.ofChange digestOfSpec)

/-- ITS FALSE NEIGHBOUR: 'it returns false'. Refute it at one input. -/
def digestOfWrong : ChangeSpec := { name := "digestOf", fn := fun _ => fun
  | [d] => { results := [.lit (.bool false)], args := [d] }
  | _ => none }
def DigestOfWrongFalsely : Prop := digestOfRow.holds Tryd.pinned (OpenSpec.ofChange digestOfWrong)

/-- 'baileelaw02.DigestCuts': WHATEVER THE INPUT: true; the input reads as it did. -/
def digestCutsSpec : ChangeSpec := { name := "digestCuts", fn := fun _ => fun
  | [d1, d2] => { results := [.lit (.bool true)], args := [d1, d2] }
  | _ => none }
def digestCutsRow : OpenClaim := { program := "ytjingbichgpfaaadoor", sum := "ff78942ba07c0f18577a290471e1865b6c20cc9eb14405654b50c7e41c92b3cc", func := "bailee/baileelaw02.DigestCuts", spec := "digestCuts", named := ["bailee/digest.first", "bailee/digest.ofRound"], apart := false, laid := [("bailee/digest.first", laid_bailee_digest_first), ("bailee/digest.ofRound", laid_bailee_digest_ofRound)] }
def DigestCutsSaid : Prop := digestCutsRow.holds Tryd.pinned (OpenSpec.ofChange digestCutsSpec)

/-- ITS FALSE NEIGHBOUR: 'it returns false'. Refute it at one input. -/
def digestCutsWrong : ChangeSpec := { name := "digestCuts", fn := fun _ => fun
  | [d1, d2] => { results := [.lit (.bool false)], args := [d1, d2] }
  | _ => none }
def DigestCutsWrongFalsely : Prop := digestCutsRow.holds Tryd.pinned (OpenSpec.ofChange digestCutsWrong)

/-- 'baileelaw02.DigestTwo': WHATEVER THE INPUT: true; the input reads as it did. -/
def digestTwoSpec : ChangeSpec := { name := "digestTwo", fn := fun _ => fun
  | [d1, d2, d3] => { results := [.lit (.bool true)], args := [d1, d2, d3] }
  | _ => none }
def digestTwoRow : OpenClaim := { program := "ytjingbichgpfaaadoor", sum := "ff78942ba07c0f18577a290471e1865b6c20cc9eb14405654b50c7e41c92b3cc", func := "bailee/baileelaw02.DigestTwo", spec := "digestTwo", named := ["bailee/digest.first", "bailee/digest.ofRound"], apart := false, laid := [("bailee/digest.first", laid_bailee_digest_first), ("bailee/digest.ofRound", laid_bailee_digest_ofRound)] }
def DigestTwoSaid : Prop := digestTwoRow.holds Tryd.pinned (OpenSpec.ofChange digestTwoSpec)

/-- ITS FALSE NEIGHBOUR: 'it returns false'. Refute it at one input. -/
def digestTwoWrong : ChangeSpec := { name := "digestTwo", fn := fun _ => fun
  | [d1, d2, d3] => { results := [.lit (.bool false)], args := [d1, d2, d3] }
  | _ => none }
def DigestTwoWrongFalsely : Prop := digestTwoRow.holds Tryd.pinned (OpenSpec.ofChange digestTwoWrong)

/-- 'baileelaw02.DigestNoughts': WHATEVER THE INPUT: true; the input reads as it did. -/
def digestNoughtsSpec : ChangeSpec := { name := "digestNoughts", fn := fun _ => fun
  | [d1, d2] => { results := [.lit (.bool true)], args := [d1, d2] }
  | _ => none }
def digestNoughtsRow : OpenClaim := { program := "ytjingbichgpfaaadoor", sum := "ff78942ba07c0f18577a290471e1865b6c20cc9eb14405654b50c7e41c92b3cc", func := "bailee/baileelaw02.DigestNoughts", spec := "digestNoughts", named := ["bailee/digest.first", "bailee/digest.ofRound"], apart := false, laid := [("bailee/digest.first", laid_bailee_digest_first), ("bailee/digest.ofRound", laid_bailee_digest_ofRound)] }
def DigestNoughtsSaid : Prop := digestNoughtsRow.holds Tryd.pinned (OpenSpec.ofChange digestNoughtsSpec)

/-- ITS FALSE NEIGHBOUR: 'it returns false'. Refute it at one input. -/
def digestNoughtsWrong : ChangeSpec := { name := "digestNoughts", fn := fun _ => fun
  | [d1, d2] => { results := [.lit (.bool false)], args := [d1, d2] }
  | _ => none }
def DigestNoughtsWrongFalsely : Prop := digestNoughtsRow.holds Tryd.pinned (OpenSpec.ofChange digestNoughtsWrong)

/-- 'baileelaw02.DigestLong': WHATEVER THE INPUT: true; the input reads as it did. -/
def digestLongSpec : ChangeSpec := { name := "digestLong", fn := fun _ => fun
  | [d1, d2, d3] => { results := [.lit (.bool true)], args := [d1, d2, d3] }
  | _ => none }
def digestLongRow : OpenClaim := { program := "ytjingbichgpfaaadoor", sum := "ff78942ba07c0f18577a290471e1865b6c20cc9eb14405654b50c7e41c92b3cc", func := "bailee/baileelaw02.DigestLong", spec := "digestLong", named := ["bailee/digest.first", "bailee/digest.ofRound"], apart := false, laid := [("bailee/digest.first", laid_bailee_digest_first), ("bailee/digest.ofRound", laid_bailee_digest_ofRound)] }
def DigestLongSaid : Prop := digestLongRow.holds Tryd.pinned (OpenSpec.ofChange digestLongSpec)

/-- ITS FALSE NEIGHBOUR: 'it returns false'. Refute it at one input. -/
def digestLongWrong : ChangeSpec := { name := "digestLong", fn := fun _ => fun
  | [d1, d2, d3] => { results := [.lit (.bool false)], args := [d1, d2, d3] }
  | _ => none }
def DigestLongWrongFalsely : Prop := digestLongRow.holds Tryd.pinned (OpenSpec.ofChange digestLongWrong)

/-- 'baileelaw02.DigestBits': WHATEVER THE INPUT: true; the input reads as it did. -/
def digestBitsSpec : ChangeSpec := { name := "digestBits", fn := fun _ => fun
  | [d1, d2] => { results := [.lit (.bool true)], args := [d1, d2] }
  | _ => none }
def digestBitsRow : OpenClaim := { program := "ytjingbichgpfaaadoor", sum := "ff78942ba07c0f18577a290471e1865b6c20cc9eb14405654b50c7e41c92b3cc", func := "bailee/baileelaw02.DigestBits", spec := "digestBits", named := ["bailee/digest.first", "bailee/digest.ofRound"], apart := false, laid := [("bailee/digest.first", laid_bailee_digest_first), ("bailee/digest.ofRound", laid_bailee_digest_ofRound)] }
def DigestBitsSaid : Prop := digestBitsRow.holds Tryd.pinned (OpenSpec.ofChange digestBitsSpec)

/-- ITS FALSE NEIGHBOUR: 'it returns false'. Refute it at one input. -/
def digestBitsWrong : ChangeSpec := { name := "digestBits", fn := fun _ => fun
  | [d1, d2] => { results := [.lit (.bool false)], args := [d1, d2] }
  | _ => none }
def DigestBitsWrongFalsely : Prop := digestBitsRow.holds Tryd.pinned (OpenSpec.ofChange digestBitsWrong)

/- THE SECOND FORM. 'bulk': how many values and letters a reading holds, each counted each time it is reached (what is shared counts as often as it is met; a slice's spare places count too). A statement '..UptoSaid' is the law's where the arguments, and the package variables that the reading takes, are together of bulk at most 1048576: NARROWER than '..Said'. Prove '..Said' where nothing that the law and all that it calls make is longer than what came in: it says more and counts as full. Else prove '..UptoSaid'. A law counts once. -/
mutual
def uptoBulk {H : Type} : DataW H → Nat
  | .lit (.string bytes) => bytes.length + 1
  | .lit _ => 1
  | .nil => 1
  | .ptr d => uptoBulk d + 1
  | .slice elems spare => uptoBulkAll elems + uptoBulkAll spare + 1
  | .agg parts => uptoBulkAll parts + 1
  | .iface _ d => uptoBulk d + 1
  | .map entries => uptoBulkEntries entries + 1
  | .held _ => 1
def uptoBulkAll {H : Type} : List (DataW H) → Nat
  | [] => 0
  | d :: r => uptoBulk d + uptoBulkAll r
def uptoBulkEntries {H : Type} : List (Lit × DataW H) → Nat
  | [] => 0
  | x :: r => uptoBulkEntry x + uptoBulkEntries r
def uptoBulkEntry {H : Type} : Lit × DataW H → Nat
  | (.string bytes, d) => bytes.length + uptoBulk d + 1
  | (_, d) => uptoBulk d + 1
 end
def uptoSmall : (H : Type) → List (DataW H) → Bool := fun _ ds => decide (uptoBulkAll ds ≤ 1048576)
def OpenSpec.upto (s : _root_.Go.ChangeSpec) : _root_.Go.OpenSpec := { _root_.Go.OpenSpec.ofChange s with cond := some uptoSmall }

/-- 'baileelaw02.DigestOf', WHERE WHAT IT READS IS OF BULK AT MOST 1048576: true; the input reads as it did. -/
def digestOfUptoRow : OpenClaim := { program := "ytjingbichgpfaaadoor", sum := "ff78942ba07c0f18577a290471e1865b6c20cc9eb14405654b50c7e41c92b3cc", func := "bailee/baileelaw02.DigestOf", spec := "digestOf", named := ["bailee/digest.first", "bailee/digest.ofRound"], apart := false, laid := [("bailee/digest.first", laid_bailee_digest_first), ("bailee/digest.ofRound", laid_bailee_digest_ofRound)], narrowed := true }
def DigestOfUptoSaid : Prop := digestOfUptoRow.holds Tryd.pinned (OpenSpec.upto digestOfSpec)

/-- 'baileelaw02.DigestCuts', WHERE WHAT IT READS IS OF BULK AT MOST 1048576: true; the input reads as it did. -/
def digestCutsUptoRow : OpenClaim := { program := "ytjingbichgpfaaadoor", sum := "ff78942ba07c0f18577a290471e1865b6c20cc9eb14405654b50c7e41c92b3cc", func := "bailee/baileelaw02.DigestCuts", spec := "digestCuts", named := ["bailee/digest.first", "bailee/digest.ofRound"], apart := false, laid := [("bailee/digest.first", laid_bailee_digest_first), ("bailee/digest.ofRound", laid_bailee_digest_ofRound)], narrowed := true }
def DigestCutsUptoSaid : Prop := digestCutsUptoRow.holds Tryd.pinned (OpenSpec.upto digestCutsSpec)

/-- 'baileelaw02.DigestTwo', WHERE WHAT IT READS IS OF BULK AT MOST 1048576: true; the input reads as it did. -/
def digestTwoUptoRow : OpenClaim := { program := "ytjingbichgpfaaadoor", sum := "ff78942ba07c0f18577a290471e1865b6c20cc9eb14405654b50c7e41c92b3cc", func := "bailee/baileelaw02.DigestTwo", spec := "digestTwo", named := ["bailee/digest.first", "bailee/digest.ofRound"], apart := false, laid := [("bailee/digest.first", laid_bailee_digest_first), ("bailee/digest.ofRound", laid_bailee_digest_ofRound)], narrowed := true }
def DigestTwoUptoSaid : Prop := digestTwoUptoRow.holds Tryd.pinned (OpenSpec.upto digestTwoSpec)

/-- 'baileelaw02.DigestNoughts', WHERE WHAT IT READS IS OF BULK AT MOST 1048576: true; the input reads as it did. -/
def digestNoughtsUptoRow : OpenClaim := { program := "ytjingbichgpfaaadoor", sum := "ff78942ba07c0f18577a290471e1865b6c20cc9eb14405654b50c7e41c92b3cc", func := "bailee/baileelaw02.DigestNoughts", spec := "digestNoughts", named := ["bailee/digest.first", "bailee/digest.ofRound"], apart := false, laid := [("bailee/digest.first", laid_bailee_digest_first), ("bailee/digest.ofRound", laid_bailee_digest_ofRound)], narrowed := true }
def DigestNoughtsUptoSaid : Prop := digestNoughtsUptoRow.holds Tryd.pinned (OpenSpec.upto digestNoughtsSpec)

/-- 'baileelaw02.DigestLong', WHERE WHAT IT READS IS OF BULK AT MOST 1048576: true; the input reads as it did. -/
def digestLongUptoRow : OpenClaim := { program := "ytjingbichgpfaaadoor", sum := "ff78942ba07c0f18577a290471e1865b6c20cc9eb14405654b50c7e41c92b3cc", func := "bailee/baileelaw02.DigestLong", spec := "digestLong", named := ["bailee/digest.first", "bailee/digest.ofRound"], apart := false, laid := [("bailee/digest.first", laid_bailee_digest_first), ("bailee/digest.ofRound", laid_bailee_digest_ofRound)], narrowed := true }
def DigestLongUptoSaid : Prop := digestLongUptoRow.holds Tryd.pinned (OpenSpec.upto digestLongSpec)

/-- 'baileelaw02.DigestBits', WHERE WHAT IT READS IS OF BULK AT MOST 1048576: true; the input reads as it did. -/
def digestBitsUptoRow : OpenClaim := { program := "ytjingbichgpfaaadoor", sum := "ff78942ba07c0f18577a290471e1865b6c20cc9eb14405654b50c7e41c92b3cc", func := "bailee/baileelaw02.DigestBits", spec := "digestBits", named := ["bailee/digest.first", "bailee/digest.ofRound"], apart := false, laid := [("bailee/digest.first", laid_bailee_digest_first), ("bailee/digest.ofRound", laid_bailee_digest_ofRound)], narrowed := true }
def DigestBitsUptoSaid : Prop := digestBitsUptoRow.holds Tryd.pinned (OpenSpec.upto digestBitsSpec)

end Rows
end Go.Proofs.YtjingbichgpfaaaDoor
