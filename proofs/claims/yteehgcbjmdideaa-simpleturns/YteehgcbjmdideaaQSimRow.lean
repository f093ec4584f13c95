/- 'SimpleTurns' answers true whatever transducer and whatever side it is handed: Invert exchanges what each arc reads and writes and twice is the transducer again, and Project makes both words the same at side 1 and 2 and refuses every other side. Conditions: none. -/
import Derived.Test.YteehgcbjmdideaaQSimQ
import Derived.Test.YteehgcbjmdideaaQOpenF
import Derived.Test.YteehgcbjmdideaaRows
import Derived.ProofKit
import Derived.OpenShut
import Derived.Deep.DeepHandedRow
import Derived.Stop.LaidErr
namespace Go.Proofs.Yteehgcbjmdideaa
open Go.ChangeShapes Go.WideShapes Go.ChangeAt Go.RowKit
set_option maxRecDepth 100000

theorem simpleTurns_any (f : FstD) (side : Int) (fin arcs : Value) (w : World) (hf : ISlice w fin f.final) (ha : ASlice w arcs f.arcs) :
    Calls Try.prog 4 #[.agg #[.int .i64 f.states, .int .i64 f.start, fin, arcs], .int .i64 side] w fun e w' => e = .returned (.bool true) ∧ Below w.heap.size w w' := by
  by_cases hc : checkD f = 0
  · by_cases h1 : side = 1
    · exact turns_in f side fin arcs w hf ha hc h1
    · by_cases h2 : side = 2
      · exact turns_out f side fin arcs w hf ha hc h2
      · exact turns_no f side fin arcs w hf ha hc h1 h2
  · exact turns_bad f side fin arcs w hf ha _ rfl (by simpa using hc)

theorem ownKT : ownKnob Try.prog.godebug = none := by kernel_rfl
theorem laidOutKT : laidOutB Try.prog = true := by kernel_rfl

theorem turns_contract (H : Type) (enc : TypeId × Value → H) (W : World) (base : Nat) (args : Array Value) (ds gs : List (DataW H)) (before : List MemPlace)
    (hval : ∀ (j : Nat) t v, Try.f4.params[j]? = some t → args[j]? = some v → Value.okWide Try.prog W .any base t v)
    (hW : DataW.Whole enc Try.prog Try.f4.params.toList Rows.simpleTurnsSpec.vars false W args.toList ds gs before) :
    Calls Try.prog 4 args W fun e W' => ∃ v, e = .returned v ∧ Rows.simpleTurnsSpec.post enc Try.prog Try.f4 false true false false W args v W' := by
  have hW' := hW
  obtain ⟨p, q, hA0, hV, rfl, hfz, hnd⟩ := hW
  have hA : DataW.TrodAll enc Try.prog W 0 (fun _ => true) true Try.f4.params.toList args.toList ds p := hA0
  rw [Try.params4] at hA hval
  obtain ⟨v0, v1, d0, d1, p0, p1, rfl, rfl, rfl, h0, h1⟩ := trodAll_two hA
  obtain ⟨rfl, rfl⟩ := trodVars_none hV
  obtain ⟨f, fin, arcs, hv0, hI, hAr⟩ := open_fst (hval 0 25 v0 rfl rfl) h0
  obtain ⟨n, rfl, _⟩ := okWide_int Try.underlying3 (hval 1 3 v1 rfl rfl)
  have hlt : ∀ x ∈ p0 ++ p1, x.block < W.heap.size := fun x hx => hW'.lt x (by simpa using hx)
  clear hA0 hA
  subst hv0
  refine (simpleTurns_any f n _ _ W hI hAr).mono fun e W' ⟨he, hb⟩ => ?_
  subst he
  refine ⟨_, rfl, _, _, _, [], p0 ++ p1, [], hW', ?_, ?_, ?_, hb.frame _, fun h => by cases h⟩
  · exact trodAll_mk1 (shut_bool Try.underlying4 _)
  · exact trodAll_mk2 (Below.trod laidOutKT (by kernel_rfl) (of_decide_eq_true (by kernel_rfl)) h0 hb (fun x hx => hlt x (by simp [hx]))) (Below.trod laidOutKT (by kernel_rfl) (of_decide_eq_true (by kernel_rfl)) h1 hb (fun x hx => hlt x (by simp [hx])))
  · exact rfl

/-- a world and a call that fit the row -/
theorem turns_witness (os : Os) (H : Type) (enc : TypeId × Value → H) :
    ∃ (w : World) (tape : Tape) (i : Input), w.os = os ∧ (w.forCall tape i).Shaped Try.checked.prog ∧ i.vars = [] ∧ Input.okWide Try.checked.prog (w.forCall tape i) .any w.heap.size 4 i ∧
      (OpenSpec.ofChange Rows.simpleTurnsSpec).preRow enc Try.checked.prog Try.f4 Rows.simpleTurnsRow.domain false Rows.simpleTurnsRow.laid (w.forCall tape i).memory i.args ∧ ({} : Assume).holds Try.checked.prog (lone (Frame.enter Try.checked.prog 4 i.args .normal) [] (w.forCall tape i)) := by
  obtain ⟨w0, hw0⟩ : ∃ w0 : World, w0 = World.holding Try.prog os ⟨#[], #[], []⟩ := ⟨_, rfl⟩
  have hos : w0.os = os := by rw [hw0]; rfl
  have hv : (w0.forCall (fun _ _ => 0) ⟨#[], #[.agg #[.int .i64 0, .int .i64 0, .slice none 0 0, .slice none 0 0], .int .i64 0], []⟩).variablesB Try.checked.prog = true := by rw [hw0]; kernel_rfl
  have hr : ((w0.forCall (fun _ _ => 0) ⟨#[], #[.agg #[.int .i64 0, .int .i64 0, .slice none 0 0, .slice none 0 0], .int .i64 0], []⟩).heap.toList.drop Try.checked.prog.globals.size).take ((begin Try.checked.prog (fun _ _ => 0) default).world.heap.size - Try.checked.prog.globals.size) = (begin Try.checked.prog (fun _ _ => 0) default).world.heap.toList.drop Try.checked.prog.globals.size := by rw [hw0]; kernel_rfl
  have hok : Input.okWideB Try.checked.prog (w0.forCall (fun _ _ => 0) ⟨#[], #[.agg #[.int .i64 0, .int .i64 0, .slice none 0 0, .slice none 0 0], .int .i64 0], []⟩) 4 ⟨#[], #[.agg #[.int .i64 0, .int .i64 0, .slice none 0 0, .slice none 0 0], .int .i64 0], []⟩ = true := by rw [hw0]; kernel_rfl
  have hlaid : laidMet Try.prog Rows.simpleTurnsRow.laid (w0.forCall (fun _ _ => 0) ⟨#[], #[.agg #[.int .i64 0, .int .i64 0, .slice none 0 0, .slice none 0 0], .int .i64 0], []⟩).memory := laidMet_of_run' 8 (by rw [hw0]; kernel_rfl) (by rw [hw0]; kernel_rfl)
  have hx : ∃ places, DataW.whole enc Try.prog (w0.forCall (fun _ _ => 0) ⟨#[], #[.agg #[.int .i64 0, .int .i64 0, .slice none 0 0, .slice none 0 0], .int .i64 0], []⟩).memory Try.f4.params.toList Rows.simpleTurnsSpec.vars false (#[.agg #[.int .i64 0, .int .i64 0, .slice none 0 0, .slice none 0 0], .int .i64 0] : Array Value).toList 8 = some ([.agg [.lit (.int .i64 0), .lit (.int .i64 0), .nil, .nil], .lit (.int .i64 0)], [], places) := ⟨[], by rw [hw0]; kernel_rfl⟩
  obtain ⟨places, hx⟩ := hx
  exact witness_row_at (enc := enc) (C := Try.checked) false w0 #[.agg #[.int .i64 0, .int .i64 0, .slice none 0 0, .slice none 0 0], .int .i64 0] hos hv hr hok (OpenSpec.preRow_of_cond 8 hx (by kernel_rfl) (fun k hk => by cases hk) (by kernel_rfl) hlaid)

theorem turns_lifted (os : Os) (started : os.Started) (H : Type) (enc : TypeId × Value → H) (F : Stop.Interp) :
    ReturnsInHanded {} Try.checked os 4 .any ((OpenSpec.ofChange Rows.simpleTurnsSpec).preRow enc Try.prog Try.f4 Rows.simpleTurnsRow.domain false Rows.simpleTurnsRow.laid) (((OpenSpec.ofChange Rows.simpleTurnsSpec).at F).post enc Try.prog Try.f4 false true false false) := by
  refine returnsInHanded_of_row (C := Try.checked) (s := OpenSpec.ofChange Rows.simpleTurnsSpec) ownKT started (by kernel_rfl) Try.func4 (turns_witness os H enc) ?_
  intro W base args ds gs before hval hW _ _ _ _ _ _
  exact turns_contract H enc W base args ds gs before hval hW

theorem simpleTurns_holds : Rows.SimpleTurnsSaid :=
  OpenClaim.holds_of_cond 4 Try.f4 rfl rfl rfl rfl rfl rfl rfl ⟨rfl, rfl, rfl, rfl, rfl⟩ rfl rfl rfl rfl rfl (by kernel_rfl) Try.func4 (by kernel_rfl)
    (of_decide_eq_true (by kernel_rfl)) (by unfold Func.isWrapper; first | (rw [if_pos (by decide +kernel)]; kernel_rfl) | (rw [if_neg (by decide +kernel)]; exact ⟨rfl, rfl⟩))
    (fun os started H enc _ F => by rw [OpenClaim.pre_eq_preRow]; exact turns_lifted os started H enc F)

end Go.Proofs.Yteehgcbjmdideaa
