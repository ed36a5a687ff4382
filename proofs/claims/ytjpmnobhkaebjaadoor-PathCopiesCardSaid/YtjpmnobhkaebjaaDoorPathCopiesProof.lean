/-
No copy of a user's path is a user's; copies of unlike users' paths, or of unlike dots, are unlike; a copy by a dot that may be is a path; the only condition is that the table of the powers of ten of the library holds what its text lays in it.
-/
import Derived.Test.YtjpmnobhkaebjaaDoorRows
import Derived.Test.YtjpmnobhkaebjaaDoorCards
import Derived.Test.YtjpmnobhkaebjaaDoorTie
import Derived.Test.YtjpmnobhkaebjaaDoorPathCode
import Derived.Stop.LaidErr
import Derived.SizedLaws
import Derived.Test.YtjpmnobhkaebjaaDoorOpen06
import Derived.Test.YtjpmnobhkaebjaaDoorLaw06Copies
import Derived.Test.YtjpmnobhkaebjaaDoorOpen
import Derived.WalkKit
import Derived.ProofKit
import Derived.OpenShut
import Derived.ChangeOld
import Derived.Below
import Derived.LaidMore
import Derived.SevenTiedAt
import Derived.Lib.LaidTab
import Derived.Test.YtjpmnobhkaebjaaDoorParts
namespace Go.Proofs.YtjpmnobhkaebjaaDoor.pathCopies
open Go.ChangeShapes Go.WideShapes Go.ChangeAt Go.RowKit
theorem own : ownKnob Tryd.prog.godebug = none := by kernel_rfl
theorem laidOut : laidOutB Tryd.prog = true := by kernel_rfl
theorem gPowType : (Tryd.prog.globals[1]?).map (·.type) = some 70 := by kernel_rfl
theorem cellsT : Tryd.prog.cellsOf 70 = 20 := by kernel_rfl
theorem cellsE : Tryd.prog.cellsOf 61 = 1 := by kernel_rfl
theorem table {W : World} (h : laidMetH Tryd.prog Rows.pathCopiesRow.laid W) : PowTab W :=
  Lib.tabIs_of_head (rest := []) gPow gPowType Tryd.underlying70 Tryd.underlying61 cellsE cellsT (laidMet.tail (laidMet.tail h))
theorem door_met (os : Os) (args : Array Value) : laidMetH Tryd.prog Rows.pathCopiesRow.laid ((World.doorLaid Tryd.prog 4000 os).forCall (fun _ _ => 0) ⟨#[], args, []⟩).memory :=
  laidMetH_of_parts3 (fuel := 8) (laidMet_of_run' 8 (by kernel_rfl) (by kernel_rfl)) (by kernel_rfl) (by kernel_rfl)
set_option maxRecDepth 100000 in
theorem lifted (os : Os) (started : os.Started) (H : Type) (enc : TypeId × Value → H) :
    ReturnsInHanded {} Tryd.checked os 6 .any (fun w args => (Rows.pathCopiesSpec.pre enc Tryd.prog Tryd.f6 [] false w args ∧ laidMetH Tryd.prog Rows.pathCopiesRow.laid w) ∧ sizedMet enc Tryd.prog Tryd.f6 (OpenSpec.ofChange Rows.pathCopiesSpec) false w args)
      (Rows.pathCopiesSpec.post enc Tryd.prog Tryd.f6 false true false false) := by
  refine returnsInHanded_of_change_and (C := Tryd.checked) (X := fun w _ => laidMetH Tryd.prog Rows.pathCopiesRow.laid w) (fun _ _ _ hh h => h.of_heap hh) own started (by kernel_rfl) Tryd.func6
    (ChangeSpec.witness_shaped (enc := enc) (C := Tryd.checked) (os := os) (X := fun w _ => laidMetH Tryd.prog Rows.pathCopiesRow.laid w) false (World.doorLaid Tryd.prog 4000 os) #[.agg #[.string ByteArray.empty, .string ByteArray.empty, .int .i64 0, .int .i64 0, .int .i64 0, .int .i64 0]] 8 rfl (World.shaped_of_RefB (by kernel_rfl) (by kernel_rfl)) (by kernel_rfl) (by kernel_rfl) (by kernel_rfl) (door_met os _)) ?_
  intro W base args ds gs before hval0 hW _ hreach hL _
  have hval : ∀ (j : Nat) t v, Tryd.f6.params[j]? = some t → args[j]? = some v → Value.okWide Tryd.prog W .any base t v := hval0
  have hW' := hW
  obtain ⟨p, q, hA0, hV, rfl, hfz, hnd⟩ := hW
  have hA : DataW.TrodAll enc Tryd.prog W 0 (fun _ => true) true Tryd.f6.params.toList args.toList ds p := hA0
  rw [Tryd.params6] at hA hval
  obtain ⟨v0, vs0, d0, ds0, p0, q0, hargs, rfl, rfl, h0, r0⟩ := trodAll_cons hA
  obtain ⟨rfl, rfl, rfl⟩ := trodAll_nil r0
  obtain rfl : args = #[v0] := by cases args; simp_all
  obtain ⟨rfl, rfl⟩ := trodVars_none hV
  have k0 := h0
  have lt0 : ∀ x ∈ p0, x.block < W.heap.size := by obtain ⟨m, hm⟩ := k0; exact DataW.trod_lt m _ _ _ hm
  obtain ⟨x0A, x0B, x0DReplica, x0DSeq, x0GReplica, x0GSeq, rfl, de0, sx0A, sx0B, sx0DReplica, sx0DSeq, sx0GReplica, sx0GSeq⟩ := open_two (hval 0 43 v0 rfl rfl) h0
  have hx0A : x0A.data.toList.length ≤ reachBytes := sized_string (sized_parts hreach (j := 0) (t := 43) (by rw [Tryd.params6]; rfl) (by rw [de0]; rfl) Tryd.underlying43) (j := 0) (t := 9) rfl rfl
  have hx0B : x0B.data.toList.length ≤ reachBytes := sized_string (sized_parts hreach (j := 0) (t := 43) (by rw [Tryd.params6]; rfl) (by rw [de0]; rfl) Tryd.underlying43) (j := 1) (t := 9) rfl rfl
  clear hA0 hval0
  obtain ⟨s0A, rfl⟩ := str_of x0A
  have hs0A : s0A.length < 1152921504606846 := by have h := hx0A; have hr : reachBytes = 140737488351232 := (by decide); rw [show (str s0A).data.toList = s0A from (by simp [str])] at h; omega
  obtain ⟨s0B, rfl⟩ := str_of x0B
  have hs0B : s0B.length < 1152921504606846 := by have h := hx0B; have hr : reachBytes = 140737488351232 := (by decide); rw [show (str s0B).data.toList = s0B from (by simp [str])] at h; omega
  have walk : Calls Tryd.prog 6 #[.agg (twoC s0A s0B x0DReplica x0DSeq x0GReplica x0GSeq)] W fun e w' => e = .returned (.bool true) ∧ Below W.heap.size W w' := by exact pathCopies_walk pathFace s0A s0B x0DReplica x0DSeq x0GReplica x0GSeq hs0A hs0B (bd_i64 sx0DReplica) (bd_i64 sx0DSeq) (bd_i64 sx0GReplica) (bd_i64 sx0GSeq) W (table hL)
  refine walk.mono fun e W' ⟨he, bel⟩ => ?_
  subst he
  exact ⟨_, rfl, _, _, _, [], _, [], hW', trodAll_mk1 (shut_bool Tryd.underlying4 _), (trodAll_cons_mk (Below.trod laidOut (by kernel_rfl) (of_decide_eq_true (by kernel_rfl)) k0 bel lt0) trodAll_mk0), rfl, bel.frame _, fun h => by cases h⟩
theorem said : Rows.PathCopiesSaid :=
  OpenClaim.holds_of_wide 6 Tryd.f6 rfl rfl rfl rfl rfl rfl rfl ⟨rfl, rfl, rfl, rfl, rfl⟩ rfl rfl rfl rfl rfl (by kernel_rfl) Tryd.func6 (by kernel_rfl)
    (of_decide_eq_true (by kernel_rfl)) (by unfold Func.isWrapper; first | (rw [if_pos (by decide +kernel)]; kernel_rfl) | (rw [if_neg (by decide +kernel)]; exact ⟨rfl, rfl⟩))
    (fun os started H enc _ => lifted os started H enc)
theorem plain (f : FuncId) (fn : Func) (hf : Tryd.pinned.checked.prog.funcNamed "bindle/bindlelaw06.PathCopies" = some f) (hfn : Tryd.pinned.checked.prog.funcs[f]? = some fn) :
    false = Tryd.pinned.checked.prog.looks [] ∧ ∀ (j : Nat) t, fn.params[j]? = some t → Tryd.pinned.checked.prog.wantsStandIn t = false := by
  obtain rfl : f = 6 := Option.some.inj ((show Tryd.prog.funcNamed "bindle/bindlelaw06.PathCopies" = some 6 by kernel_rfl).symm.trans hf) |>.symm
  obtain rfl : fn = Tryd.f6 := (Option.some.inj (Tryd.func6.symm.trans hfn)).symm
  refine ⟨by kernel_rfl, fun j t ht => ?_⟩
  rw [Tryd.params6] at ht
  have hm : t ∈ [43] := by simpa using Array.mem_of_getElem? ht
  have hall : ([43].all fun u => !Tryd.prog.wantsStandIn u) = true := by kernel_rfl
  exact (show Tryd.prog.wantsStandIn t = false by simpa using List.all_eq_true.1 hall t hm)
theorem card : Rows.PathCopiesCardSaid :=
  Claim7.holds_tied_plain_at .later [] _ _ _ _ said (fun _ h => by cases h) (by kernel_rfl) (fun _ h => by cases h) pathCopies_row_tie rfl ⟨rfl, rfl⟩ (by kernel_rfl) rfl plain (by kernel_rfl)
end Go.Proofs.YtjpmnobhkaebjaaDoor.pathCopies
