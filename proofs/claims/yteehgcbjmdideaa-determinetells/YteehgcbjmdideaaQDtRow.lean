/- 'DetermineTells' answers true whatever transducer it is handed. Conditions: none. -/
import Derived.Test.YteehgcbjmdideaaQM27
import Derived.Test.YteehgcbjmdideaaQOpenF
import Derived.Test.YteehgcbjmdideaaRows
import Derived.ProofKit
import Derived.OpenShut
import Derived.Deep.DeepHandedRow
import Derived.Stop.LaidErr
namespace Go.Proofs.Yteehgcbjmdideaa
open Go.ChangeShapes Go.WideShapes Go.ChangeAt Go.RowKit
set_option maxRecDepth 100000

theorem ownKD : ownKnob Try.prog.godebug = none := by kernel_rfl
theorem laidOutKD : laidOutB Try.prog = true := by kernel_rfl

theorem det_contract (H : Type) (enc : TypeId × Value → H) (W : World) (base : Nat) (args : Array Value) (ds gs : List (DataW H)) (before : List MemPlace)
    (hval : ∀ (j : Nat) t v, Try.f9.params[j]? = some t → args[j]? = some v → Value.okWide Try.prog W .any base t v)
    (hW : DataW.Whole enc Try.prog Try.f9.params.toList Rows.determineTellsSpec.vars false W args.toList ds gs before) :
    Calls Try.prog 9 args W fun e W' => ∃ v, e = .returned v ∧ Rows.determineTellsSpec.post enc Try.prog Try.f9 false true false false W args v W' := by
  have hW' := hW
  obtain ⟨p, q, hA0, hV, rfl, hfz, hnd⟩ := hW
  have hA : DataW.TrodAll enc Try.prog W 0 (fun _ => true) true Try.f9.params.toList args.toList ds p := hA0
  rw [Try.params9] at hA hval
  obtain ⟨v0, d0, rfl, rfl, h0⟩ := trodAll_one hA
  obtain ⟨rfl, rfl⟩ := trodVars_none hV
  obtain ⟨f, fin, arcs, hv0, hI, hAr⟩ := open_fst (hval 0 25 v0 rfl rfl) h0
  have hlt : ∀ x ∈ p, x.block < W.heap.size := fun x hx => hW'.lt x (by simp [hx])
  clear hA0 hA
  subst hv0
  refine (determineTells_any f fin arcs W hI hAr).mono fun e W' ⟨he, hb⟩ => ?_
  subst he
  refine ⟨_, rfl, _, _, _, [], p, [], hW', ?_, ?_, ?_, hb.frame _, fun h => by cases h⟩
  · exact trodAll_mk1 (shut_bool Try.underlying4 _)
  · exact trodAll_mk1 (Below.trod laidOutKD (by kernel_rfl) (of_decide_eq_true (by kernel_rfl)) h0 hb hlt)
  · exact rfl

/-- a world and a call that fit the row -/
theorem det_witness (os : Os) (H : Type) (enc : TypeId × Value → H) :
    ∃ (w : World) (tape : Tape) (i : Input), w.os = os ∧ (w.forCall tape i).Shaped Try.checked.prog ∧ i.vars = [] ∧ Input.okWide Try.checked.prog (w.forCall tape i) .any w.heap.size 9 i ∧
      (OpenSpec.ofChange Rows.determineTellsSpec).preRow enc Try.checked.prog Try.f9 Rows.determineTellsRow.domain false Rows.determineTellsRow.laid (w.forCall tape i).memory i.args ∧ ({} : Assume).holds Try.checked.prog (lone (Frame.enter Try.checked.prog 9 i.args .normal) [] (w.forCall tape i)) := by
  obtain ⟨w0, hw0⟩ : ∃ w0 : World, w0 = World.holding Try.prog os ⟨#[], #[], []⟩ := ⟨_, rfl⟩
  have hos : w0.os = os := by rw [hw0]; rfl
  have hv : (w0.forCall (fun _ _ => 0) ⟨#[], #[.agg #[.int .i64 0, .int .i64 0, .slice none 0 0, .slice none 0 0]], []⟩).variablesB Try.checked.prog = true := by rw [hw0]; kernel_rfl
  have hr : ((w0.forCall (fun _ _ => 0) ⟨#[], #[.agg #[.int .i64 0, .int .i64 0, .slice none 0 0, .slice none 0 0]], []⟩).heap.toList.drop Try.checked.prog.globals.size).take ((begin Try.checked.prog (fun _ _ => 0) default).world.heap.size - Try.checked.prog.globals.size) = (begin Try.checked.prog (fun _ _ => 0) default).world.heap.toList.drop Try.checked.prog.globals.size := by rw [hw0]; kernel_rfl
  have hok : Input.okWideB Try.checked.prog (w0.forCall (fun _ _ => 0) ⟨#[], #[.agg #[.int .i64 0, .int .i64 0, .slice none 0 0, .slice none 0 0]], []⟩) 9 ⟨#[], #[.agg #[.int .i64 0, .int .i64 0, .slice none 0 0, .slice none 0 0]], []⟩ = true := by rw [hw0]; kernel_rfl
  have hlaid : laidMet Try.prog Rows.determineTellsRow.laid (w0.forCall (fun _ _ => 0) ⟨#[], #[.agg #[.int .i64 0, .int .i64 0, .slice none 0 0, .slice none 0 0]], []⟩).memory := laidMet_of_run' 8 (by rw [hw0]; kernel_rfl) (by rw [hw0]; kernel_rfl)
  have hx : ∃ places, DataW.whole enc Try.prog (w0.forCall (fun _ _ => 0) ⟨#[], #[.agg #[.int .i64 0, .int .i64 0, .slice none 0 0, .slice none 0 0]], []⟩).memory Try.f9.params.toList Rows.determineTellsSpec.vars false (#[.agg #[.int .i64 0, .int .i64 0, .slice none 0 0, .slice none 0 0]] : Array Value).toList 8 = some ([.agg [.lit (.int .i64 0), .lit (.int .i64 0), .nil, .nil]], [], places) := ⟨[], by rw [hw0]; kernel_rfl⟩
  obtain ⟨places, hx⟩ := hx
  exact witness_row_at (enc := enc) (C := Try.checked) false w0 #[.agg #[.int .i64 0, .int .i64 0, .slice none 0 0, .slice none 0 0]] hos hv hr hok (OpenSpec.preRow_of_cond 8 hx (by kernel_rfl) (fun k hk => by cases hk) (by kernel_rfl) hlaid)

theorem det_lifted (os : Os) (started : os.Started) (H : Type) (enc : TypeId × Value → H) (F : Stop.Interp) :
    ReturnsInHanded {} Try.checked os 9 .any ((OpenSpec.ofChange Rows.determineTellsSpec).preRow enc Try.prog Try.f9 Rows.determineTellsRow.domain false Rows.determineTellsRow.laid) (((OpenSpec.ofChange Rows.determineTellsSpec).at F).post enc Try.prog Try.f9 false true false false) := by
  refine returnsInHanded_of_row (C := Try.checked) (s := OpenSpec.ofChange Rows.determineTellsSpec) ownKD started (by kernel_rfl) Try.func9 (det_witness os H enc) ?_
  intro W base args ds gs before hval hW _ _ _ _ _ _
  exact det_contract H enc W base args ds gs before hval hW

theorem determineTells_holds : Rows.DetermineTellsSaid :=
  OpenClaim.holds_of_cond 9 Try.f9 rfl rfl rfl rfl rfl rfl rfl ⟨rfl, rfl, rfl, rfl, rfl⟩ rfl rfl rfl rfl rfl (by kernel_rfl) Try.func9 (by kernel_rfl)
    (of_decide_eq_true (by kernel_rfl)) (by unfold Func.isWrapper; first | (rw [if_pos (by decide +kernel)]; kernel_rfl) | (rw [if_neg (by decide +kernel)]; exact ⟨rfl, rfl⟩))
    (fun os started H enc _ F => by rw [OpenClaim.pre_eq_preRow]; exact det_lifted os started H enc F)

end Go.Proofs.Yteehgcbjmdideaa
