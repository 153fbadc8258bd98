/- A region that draws its order, whose operations read and whose callees may make memory but turn nothing that was there: one walk in the order of the text (the library's quiet walk, over the class of all worlds that keep what was there). -/
import Derived.WalkKit
import Derived.Below
import Derived.Deep.QuietTactic
import Derived.BigQuiet
namespace Go.Proofs.Ytamocjifffbhpaa.Q
open Go.RowKit
set_option linter.unusedVariables false
set_option maxRecDepth 100000

/-- a world that keeps what was there in w, below block number B -/
structure Kin (B : Nat) (w : World) where
  world : World
  keeps : Below B w world

theorem kin_some (w : World) : Nonempty (Kin w.heap.size w) := ⟨⟨w, Below.refl _ _⟩⟩

theorem region_kin {P : Program} {id : Nat} {Q : Exit → Act → World → Prop} {a : Act} {w : World} {l : List Oper} (hm : P.follows .mixedOrders = true) (hB : Region.lexB .any l.toArray = true)
    (h : wpQuiet P l.toArray (fun w' => ∃ x : Kin w.heap.size w, w' = x.world) (fun a' => ∀ w', (∃ x : Kin w.heap.size w, w' = x.world) → Q .normal a' w') l a) : (Code.region id l.toArray true).wp P Q a w :=
  wp_region_quiet (C := fun w' => ∃ x : Kin w.heap.size w, w' = x.world) hm hB ⟨⟨_, (Below.refl _ _).drew⟩, rfl⟩ (by simpa using h)

theorem calls_kin {P : Program} {f : FuncId} {args : Array Value} {v : Value} {w : World} (h : ∀ W, Calls P f args W fun e w' => e = .returned v ∧ Below W.heap.size W w') (x : Kin w.heap.size w) :
    Calls P f args x.world fun e w'' => e = .returned v ∧ ∃ y : Kin w.heap.size w, w'' = y.world :=
  (h x.world).mono fun e w'' ⟨he, hb⟩ => ⟨he, ⟨w'', x.keeps.trans (hb.mono x.keeps.size)⟩, rfl⟩

theorem cell_kin {w : World} (x : Kin w.heap.size w) (b o : Nat) (h : b < w.heap.size) : x.world.cell? ⟨b, o, none⟩ = w.cell? ⟨b, o, none⟩ := x.keeps.cell (p := ⟨b, o, none⟩) h

end Go.Proofs.Ytamocjifffbhpaa.Q
