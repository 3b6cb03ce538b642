/-
  No cell of these rows narrows 'for every input' (looked for: loops, veiled, ifaces, maps, wideKeys, modest, calm, conditions, laid).
  DERIVED. THE GIVEN ROWS OF THIS SEAT. 3 by the template 'for every input the law returns true; each argument reads behind the call as it read before'; 0 by the template 'total and deterministic' (their statements: YtgdlilgkbjiiaaaTotals.lean).
  GIVEN WITH THE SEED: the statements are not yours to turn. If you find one false, say at which input.
  Laid BY PROGRAM, IN A SANDBOX (cutbox-rows.mjs): the forced cells as the released guide's own fill.sh prints them over the translation 3d2ecb4025b7f563… (all of the seat's roots in one cut). By AI agents, Wed Nov 11 2026. No macro, syntax, notation, axiom, sorry.
-/
import Derived.Test.YtgdlilgkbjiiaaaChecked
import GoSem.Claim
import GoSem.ClaimJoined
import GoSem.ClaimMapViews
import Derived.JoinedTies
import Derived.KernelRfl
namespace Go.Proofs.Ytgdlilgkbjiiaaa
/- THE CELL 'sum', in the pinned program and in every row, IS THE sha256 OF THE DUMP (.gsa) THAT YtgdlilgkbjiiaaaProg.lean LOADS. Nothing in Lean hashes anything: it is a label: what it is worth is what the hold of that sum in a sandbox is worth. -/
noncomputable def Try.pinned : Pinned := { name := "ytgdlilgkbjiiaaa", sum := "3d2ecb4025b7f563e46f11fc941b89197ef3f6699636b2d8d616af8065890249", checked := Try.checked }
namespace Rows
def none {H : Type} : Left H := { results := [], args := [] }

/-- 'relictlaw11.ArenaPlays': WHATEVER THE INPUT: true; the input reads as it did. -/
def arenaPlaysSpec : ChangeSpec := { name := "arenaPlays", fn := fun _ => fun
  | [d1, d2] => { results := [.lit (.bool true)], args := [d1, d2] }
  | _ => none }
def arenaPlaysRow : OpenClaim := { program := "ytgdlilgkbjiiaaa", sum := "3d2ecb4025b7f563e46f11fc941b89197ef3f6699636b2d8d616af8065890249", func := "relict/relictlaw11.ArenaPlays", spec := "arenaPlays", apart := false }
def ArenaPlaysSaid : Prop := arenaPlaysRow.holds Try.pinned (OpenSpec.ofChange arenaPlaysSpec)

/-- ITS FALSE NEIGHBOUR: 'it returns false'. Refute it at one input. -/
def arenaPlaysWrong : ChangeSpec := { name := "arenaPlays", fn := fun _ => fun
  | [d1, d2] => { results := [.lit (.bool false)], args := [d1, d2] }
  | _ => none }
def ArenaPlaysWrongFalsely : Prop := arenaPlaysRow.holds Try.pinned (OpenSpec.ofChange arenaPlaysWrong)

/-- 'relictlaw11.ArenaObjects': WHATEVER THE INPUT: true; the input reads as it did. -/
def arenaObjectsSpec : ChangeSpec := { name := "arenaObjects", fn := fun _ => fun
  | [d1, d2] => { results := [.lit (.bool true)], args := [d1, d2] }
  | _ => none }
def arenaObjectsRow : OpenClaim := { program := "ytgdlilgkbjiiaaa", sum := "3d2ecb4025b7f563e46f11fc941b89197ef3f6699636b2d8d616af8065890249", func := "relict/relictlaw11.ArenaObjects", spec := "arenaObjects", apart := false }
def ArenaObjectsSaid : Prop := arenaObjectsRow.holds Try.pinned (OpenSpec.ofChange arenaObjectsSpec)

/-- ITS FALSE NEIGHBOUR: 'it returns false'. Refute it at one input. -/
def arenaObjectsWrong : ChangeSpec := { name := "arenaObjects", fn := fun _ => fun
  | [d1, d2] => { results := [.lit (.bool false)], args := [d1, d2] }
  | _ => none }
def ArenaObjectsWrongFalsely : Prop := arenaObjectsRow.holds Try.pinned (OpenSpec.ofChange arenaObjectsWrong)

/-- 'relictlaw11.ArenaRooms': WHATEVER THE INPUT: true; the input reads as it did. -/
def arenaRoomsSpec : ChangeSpec := { name := "arenaRooms", fn := fun _ => fun
  | [d1, d2] => { results := [.lit (.bool true)], args := [d1, d2] }
  | _ => none }
def arenaRoomsRow : OpenClaim := { program := "ytgdlilgkbjiiaaa", sum := "3d2ecb4025b7f563e46f11fc941b89197ef3f6699636b2d8d616af8065890249", func := "relict/relictlaw11.ArenaRooms", spec := "arenaRooms", apart := false }
def ArenaRoomsSaid : Prop := arenaRoomsRow.holds Try.pinned (OpenSpec.ofChange arenaRoomsSpec)

/-- ITS FALSE NEIGHBOUR: 'it returns false'. Refute it at one input. -/
def arenaRoomsWrong : ChangeSpec := { name := "arenaRooms", fn := fun _ => fun
  | [d1, d2] => { results := [.lit (.bool false)], args := [d1, d2] }
  | _ => none }
def ArenaRoomsWrongFalsely : Prop := arenaRoomsRow.holds Try.pinned (OpenSpec.ofChange arenaRoomsWrong)

/- THE SECOND FORM. 'bulk': how many values and letters a reading holds, each counted each time it is reached (what is shared counts as often as it is met; a slice's spare places count too). A statement '..UptoSaid' is the law's where the arguments, and the package variables that the reading takes, are together of bulk at most 1048576: NARROWER than '..Said'. Prove '..Said' where nothing that the law and all that it calls make is longer than what came in: it says more and counts as full. Else prove '..UptoSaid'. A law counts once. -/
mutual
def uptoBulk {H : Type} : DataW H → Nat
  | .lit (.string bytes) => bytes.length + 1
  | .lit _ => 1
  | .nil => 1
  | .ptr d => uptoBulk d + 1
  | .slice elems spare => uptoBulkAll elems + uptoBulkAll spare + 1
  | .agg parts => uptoBulkAll parts + 1
  | .iface _ d => uptoBulk d + 1
  | .map entries => uptoBulkEntries entries + 1
  | .held _ => 1
def uptoBulkAll {H : Type} : List (DataW H) → Nat
  | [] => 0
  | d :: r => uptoBulk d + uptoBulkAll r
def uptoBulkEntries {H : Type} : List (Lit × DataW H) → Nat
  | [] => 0
  | x :: r => uptoBulkEntry x + uptoBulkEntries r
def uptoBulkEntry {H : Type} : Lit × DataW H → Nat
  | (.string bytes, d) => bytes.length + uptoBulk d + 1
  | (_, d) => uptoBulk d + 1
 end
def uptoSmall : (H : Type) → List (DataW H) → Bool := fun _ ds => decide (uptoBulkAll ds ≤ 1048576)
def OpenSpec.upto (s : _root_.Go.ChangeSpec) : _root_.Go.OpenSpec := { _root_.Go.OpenSpec.ofChange s with cond := some uptoSmall }

/-- 'relictlaw11.ArenaPlays', WHERE WHAT IT READS IS OF BULK AT MOST 1048576: true; the input reads as it did. -/
def arenaPlaysUptoRow : OpenClaim := { program := "ytgdlilgkbjiiaaa", sum := "3d2ecb4025b7f563e46f11fc941b89197ef3f6699636b2d8d616af8065890249", func := "relict/relictlaw11.ArenaPlays", spec := "arenaPlays", apart := false, narrowed := true }
def ArenaPlaysUptoSaid : Prop := arenaPlaysUptoRow.holds Try.pinned (OpenSpec.upto arenaPlaysSpec)

/-- 'relictlaw11.ArenaObjects', WHERE WHAT IT READS IS OF BULK AT MOST 1048576: true; the input reads as it did. -/
def arenaObjectsUptoRow : OpenClaim := { program := "ytgdlilgkbjiiaaa", sum := "3d2ecb4025b7f563e46f11fc941b89197ef3f6699636b2d8d616af8065890249", func := "relict/relictlaw11.ArenaObjects", spec := "arenaObjects", apart := false, narrowed := true }
def ArenaObjectsUptoSaid : Prop := arenaObjectsUptoRow.holds Try.pinned (OpenSpec.upto arenaObjectsSpec)

/-- 'relictlaw11.ArenaRooms', WHERE WHAT IT READS IS OF BULK AT MOST 1048576: true; the input reads as it did. -/
def arenaRoomsUptoRow : OpenClaim := { program := "ytgdlilgkbjiiaaa", sum := "3d2ecb4025b7f563e46f11fc941b89197ef3f6699636b2d8d616af8065890249", func := "relict/relictlaw11.ArenaRooms", spec := "arenaRooms", apart := false, narrowed := true }
def ArenaRoomsUptoSaid : Prop := arenaRoomsUptoRow.holds Try.pinned (OpenSpec.upto arenaRoomsSpec)

end Rows
end Go.Proofs.Ytgdlilgkbjiiaaa
