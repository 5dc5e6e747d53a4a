/- FileNames holds: whatever the input, the call returns true, and each argument reads behind it as it read before. The card: its listed variables are tied to the program's text. No condition. -/
import Derived.Test.YtpibhbjmcmfnmaaGreatDoorRows
import Derived.Test.YtpibhbjmcmfnmaaGreatDoorCards
import Derived.Test.YtpibhbjmcmfnmaaGreatDoorTie
import Derived.Test.YtpibhbjmcmfnmaaGreatDoorBag0
import Derived.WalkKit
import Derived.ProofKit
import Derived.OpenShut
import Derived.ShutString
import Derived.ChangeOld
import Derived.Below
import Derived.LaidMore
import Derived.Lay
import Derived.SevenTiedAt
import Derived.Stop.Joined
import Derived.Shelf.Vars
import Derived.LaidHandle
import Derived.RowKitTokens
import Derived.LaidLaws
import Derived.Lib.LaidTab
namespace Go.Proofs.YtpibhbjmcmfnmaaGreatDoor.fileNames
open Go.ChangeShapes Go.WideShapes Go.ChangeAt Go.RowKit
open Go.ChangeMaps (open_string shut_string)
set_option linter.unusedVariables false

theorem gE : Tryz.prog.globalNamed "errors.errorType" = some 0 := by kernel_rfl
theorem rE : (Tryz.prog.cutTypes.find? (·.1 == "internal/reflectlite.rtype")).map (·.2) = some 193 := by kernel_rfl
theorem oneE : ((List.range 403).filter fun t => Tryz.prog.rowNamed t [101, 114, 114, 111, 114]) = [35] := by kernel_rfl
theorem sizeE : Tryz.prog.types.size = 403 := by kernel_rfl
/-- What the condition gives the walk: the one cell of the variable that errors.As reads. -/
theorem typed {W : World} (h : laidMetH Tryz.prog Rows.fileNamesRow.laid W) : ErrT W := by
  have h' : laidMet Tryz.prog (Rows.fileNamesRow.laid.filter fun x => x.2.handleName?.isNone) W ∧ handlesMet Tryz.prog [("errors.errorType", Rows.laid_errors_errorType)] W := h
  obtain ⟨name, u, ty, e1, e2, e3, e4, e5⟩ := h'.2 _ (List.mem_singleton.2 rfl)
  have en : name = [101, 114, 114, 111, 114] := (Option.some.inj e1).symm
  subst en
  obtain rfl := Option.some.inj (rE.symm.trans e2)
  have hm : ty ∈ (List.range 403).filter fun t => Tryz.prog.rowNamed t [101, 114, 114, 111, 114] := List.mem_filter.2 ⟨List.mem_range.2 (by rw [← sizeE]; exact e3), e4⟩
  rw [oneE] at hm
  obtain rfl := List.mem_singleton.1 hm
  have hh : typeHandle Tryz.prog 35 = .pointer (some ⟨9, 35, none⟩) := by kernel_rfl
  rw [hh] at e5
  show W.cell? ⟨0, 0, none⟩ = _
  simpa using World.var?_cell gE e5 0
/-- A world that meets the condition. -/
noncomputable def start (os : Os) : World :=
  let u := World.holding Tryz.prog os ⟨#[], #[], []⟩
  { u with heap := u.heap.modify 0 fun
      | .cells _ t frozen => .cells #[.iface 193 (.agg #[.pointer (some ⟨9, 35, none⟩)])] t frozen
      | o => o }
noncomputable def met (os : Os) : World := (start os).layVars Tryz.prog (Rows.fileNamesRow.laid.filter fun x => x.2.handleName?.isNone)
theorem met_os (os : Os) : (met os).os = os := World.layVars_os _ _ _
theorem over_laid {P : Program} {w0 : World} {laid : List (String × DataW Unit)} (hf : w0.layFits P laid [] = true) (hi : w0.layIfaces P laid (w0.layVars P laid) = true) : laidMet P laid (w0.layVars P laid) := by
  have e1 : (laid.filter fun x => (laid.map (·.1)).contains x.1) = laid := List.filter_eq_self.2 fun x hx => List.contains_iff_mem.2 (List.mem_map.2 ⟨x, hx, rfl⟩)
  have e2 : (laid.filter fun x => !(laid.map (·.1)).contains x.1) = [] := List.filter_eq_nil_iff.2 fun x hx => by rw [List.contains_iff_mem.2 (List.mem_map.2 ⟨x, hx, rfl⟩)]; simp
  exact laidMet_layVars (w0 := w0) (laid.map (·.1)) [] (by rw [e1]) (by rw [e1]; exact hf) (by rw [e1]; exact hi) (by rw [e2]; exact LaidIn.none)
theorem met_laid (os : Os) (args : Array Value) : laidMetH Tryz.prog Rows.fileNamesRow.laid ((met os).forCall (fun _ _ => 0) ⟨#[], args, []⟩).memory :=
  laidMetH_of_parts ((over_laid (w0 := start os) (by kernel_rfl) (by kernel_rfl)).of_heap (by simp [World.memory, World.forCall, Input.heap, met])) (by kernel_rfl)
/-- What the condition gives the walk: the table, the two errors, the one cell of the variable that errors.As reads. -/
theorem typedT {W : World} (h : laidMetH Tryz.prog Rows.fileNamesRow.laid W) : Tabs W := by
  have h' : laidMet Tryz.prog (Rows.fileNamesRow.laid.filter fun x => x.2.handleName?.isNone) W ∧ handlesMet Tryz.prog [("errors.errorType", Rows.laid_errors_errorType)] W := h
  have e : (Rows.fileNamesRow.laid.filter fun x => x.2.handleName?.isNone) = [("math/bits.deBruijn32tab", Rows.laid_math_bits_deBruijn32tab), ("math/bits.deBruijn64tab", Rows.laid_math_bits_deBruijn64tab), ("internal/strconv.uint64pow10", Rows.laid_internal_strconv_uint64pow10), ("unicode/utf8.acceptRanges", Rows.laid_unicode_utf8_acceptRanges), ("strconv.ErrRange", Rows.laid_strconv_ErrRange), ("strconv.ErrSyntax", Rows.laid_strconv_ErrSyntax), ("unicode/utf8.first", Rows.laid_unicode_utf8_first)] := by kernel_rfl
  have h1 := h'.1
  rw [e] at h1
  obtain ⟨ps, hh0, _⟩ := h1
  obtain ⟨g0, t0, cs0, fu0, p0, q0, hg0, ht0, hv0, hd0, hh1, _⟩ := hh0
  obtain ⟨g1, t1, cs1, fu1, p1, q1, hg1, ht1, hv1, hd1, hh2, _⟩ := hh1
  obtain ⟨g2, t2, cs2, fu2, p2, q2, hg2, ht2, hv2, hd2, hh3, _⟩ := hh2
  obtain ⟨g3, t3, cs3, fu3, p3, q3, hg3, ht3, hv3, hd3, hh4, _⟩ := hh3
  obtain ⟨g4, t4, cs4, fu4, p4, q4, hg4, ht4, hv4, hd4, hh5, _⟩ := hh4
  obtain ⟨g5, t5, cs5, fu5, p5, q5, hg5, ht5, hv5, hd5, hh6, _⟩ := hh5
  refine ⟨typed h, ?_, ?_, ?_⟩
  · obtain rfl := Option.some.inj ((show Tryz.prog.globalNamed "internal/strconv.uint64pow10" = some 4 by kernel_rfl).symm.trans hg2)
    obtain rfl := Option.some.inj ((show (Tryz.prog.globals[4]?).map (·.type) = some 369 by kernel_rfl).symm.trans ht2)
    rw [show (Rows.laid_internal_strconv_uint64pow10 : DataW Unit) = Lib.tabData .u64 Lib.pow10Tab by kernel_rfl] at hd2
    have hc := Lib.cells_of_tab (e := 262) (n := 20) (by kernel_rfl) (by kernel_rfl) (by kernel_rfl) (by kernel_rfl) hd2
    show W.var? _ _ = _
    rw [hv2, ← hc]
  · obtain rfl := Option.some.inj ((show Tryz.prog.globalNamed "strconv.ErrSyntax" = some 2 by kernel_rfl).symm.trans hg5)
    obtain rfl := Option.some.inj ((show (Tryz.prog.globals[2]?).map (·.type) = some 35 by kernel_rfl).symm.trans ht5)
    obtain ⟨_, u, v, hc, _, _⟩ := iface_of_trod (ti := 35) Tryz.underlying35 hd5
    exact ⟨u, v, by rw [hv5, Array.eq_one_of_toList hc]⟩
  · obtain rfl := Option.some.inj ((show Tryz.prog.globalNamed "strconv.ErrRange" = some 3 by kernel_rfl).symm.trans hg4)
    obtain rfl := Option.some.inj ((show (Tryz.prog.globals[3]?).map (·.type) = some 35 by kernel_rfl).symm.trans ht4)
    obtain ⟨_, u, v, hc, _, _⟩ := iface_of_trod (ti := 35) Tryz.underlying35 hd4
    exact ⟨u, v, by rw [hv4, Array.eq_one_of_toList hc]⟩
theorem own : ownKnob Tryz.prog.godebug = none := by kernel_rfl
theorem laidOut : laidOutB Tryz.prog = true := by kernel_rfl

theorem shapedMax {W : World} (h : W.ShapedOpen Tryz.prog) : ∃ m, W.cell? ⟨1, 0, none⟩ = some (.int .i64 m) :=
  cell_of_shapedOpen_int (t := 3) (zero := #[.int .i64 0]) h (of_decide_eq_true (by kernel_rfl)) (by kernel_rfl) rfl (by kernel_rfl) (by kernel_rfl) Tryz.underlying3
set_option maxRecDepth 100000 in
theorem lifted (os : Os) (started : os.Started) (H : Type) (enc : TypeId × Value → H) :
    ReturnsInHanded {} Tryz.checked os 5 .any (fun w args => (Rows.fileNamesSpec.pre enc Tryz.prog Tryz.f5 Rows.fileNamesRow.domain false w args ∧ laidMetH Tryz.prog Rows.fileNamesRow.laid w) ∧ sizedMet enc Tryz.prog Tryz.f5 (OpenSpec.ofChange Rows.fileNamesSpec) false w args)
      (Rows.fileNamesSpec.post enc Tryz.prog Tryz.f5 false true false false) := by
  refine returnsInHanded_of_calls own started (by kernel_rfl)
    (ChangeSpec.witness_shaped (enc := enc) (C := Tryz.checked) (os := os) (X := fun w _ => laidMetH Tryz.prog Rows.fileNamesRow.laid w) false (met os) #[.string ByteArray.empty, .string ByteArray.empty] 8 (met_os os)
      (World.shaped_of_ZipB (by kernel_rfl) (by kernel_rfl)) (by kernel_rfl) (by kernel_rfl) (by kernel_rfl)
      (met_laid os _)) ?_
  intro w tape i _ hsh _ hok hpre _
  obtain ⟨_, _, _, fn, hfn, _, _, _, _, hval1⟩ := hok
  obtain rfl : fn = Tryz.f5 := Option.some.inj (hfn.symm.trans Tryz.func5)
  obtain ⟨⟨⟨ds, gs, before, hW1, hcnd⟩, hL1⟩, _⟩ := hpre
  have hW := DataW.Whole.of_heap (w' := w.forCall tape i) (by rfl) hW1
  have hL : laidMetH Tryz.prog Rows.fileNamesRow.laid (w.forCall tape i) := hL1.of_heap (by rfl)
  suffices hh : Calls Tryz.prog 5 i.args (w.forCall tape i) (fun e W' => ∃ v, e = .returned v ∧ (Rows.fileNamesSpec).post enc Tryz.prog Tryz.f5 false true false false (w.forCall tape i) i.args v W') from
    hh.mono fun e W' ⟨v, he, hp⟩ => by subst he; exact ChangeSpec.post_blind hp
  have hval0 : ∀ (j : Nat) t v, Tryz.f5.params[j]? = some t → i.args[j]? = some v → Value.okWide Tryz.prog (w.forCall tape i) .any w.heap.size t v := hval1
  clear hval1 hW1 hL1 hfn
  generalize w.heap.size = base at hval0
  generalize w.forCall tape i = W at *
  generalize i.args = args at *
  have hval : ∀ (j : Nat) t v, Tryz.f5.params[j]? = some t → args[j]? = some v → Value.okWide Tryz.prog W .any base t v := hval0
  have hW' := hW
  obtain ⟨p, q, hA0, hV, rfl, hfz, hnd⟩ := hW
  have hA : DataW.TrodAll enc Tryz.prog W 0 (fun _ => true) true Tryz.f5.params.toList args.toList ds p := hA0
  rw [Tryz.params5] at hA hval
  obtain ⟨v0, vs0, d0, ds0, p0, q0, hargs, rfl, rfl, h0, r0⟩ := trodAll_cons hA
  obtain ⟨v1, vs1, d1, ds1, p1, q1, rfl, rfl, rfl, h1, r1⟩ := trodAll_cons r0
  obtain ⟨rfl, rfl, rfl⟩ := trodAll_nil r1
  obtain rfl : args = #[v0, v1] := by cases args; simp_all
  obtain ⟨rfl, rfl⟩ := trodVars_none hV
  have k0 := h0
  have lt0 : ∀ x ∈ p0, x.block < W.heap.size := by obtain ⟨m, hm⟩ := k0; exact DataW.trod_lt m _ _ _ hm
  have k1 := h1
  have lt1 : ∀ x ∈ p1, x.block < W.heap.size := by obtain ⟨m, hm⟩ := k1; exact DataW.trod_lt m _ _ _ hm
  obtain ⟨a0, rfl, rfl, rfl, w0⟩ := open_string Tryz.underlying9 (hval 0 9 v0 rfl rfl) h0
  obtain ⟨a1, rfl, rfl, rfl, w1⟩ := open_string Tryz.underlying9 (hval 1 9 v1 rfl rfl) h1
  clear hA0 hval0
  refine (Vf.namesCall a0 a1 W w0 w1 ⟨typedT hL, shapedMax hsh⟩).mono fun e W' ⟨he, bel⟩ => ?_
  subst he
  exact ⟨_, rfl, _, _, _, [], _, [], hW', trodAll_mk1 (shut_bool Tryz.underlying4 _), (trodAll_cons_mk (shut_string Tryz.underlying9 w0) (trodAll_cons_mk (shut_string Tryz.underlying9 w1) trodAll_mk0)), rfl, bel.frame _, fun h => by cases h⟩

theorem j1 : Tryz.prog.mayEnter = true := by kernel_rfl
theorem j2 : Tryz.prog.stopsHeard = true := by kernel_rfl
theorem j3 : (Rows.fileNamesRow.lifted == Tryz.prog.liftsFinal) = true := by kernel_rfl
theorem j4 : (Tryz.prog.make == some Rows.fileNamesRow.make) = true := by kernel_rfl
theorem j5 : (Rows.fileNamesRow.inPlace == Tryz.prog.inPlace 5) = true := by kernel_rfl
theorem j6 : (Rows.fileNamesRow.unfollowed == Tryz.prog.unfollowed 5) = true := by kernel_rfl
theorem j7 : (Rows.fileNamesRow.recurses == Tryz.prog.recurses 5) = true := by kernel_rfl
theorem j8 : (Rows.fileNamesRow.named == Tryz.prog.varsNamed 5) = true := by kernel_rfl
theorem closed : joinedFacts Tryz.prog 5 Tryz.f5 Rows.fileNamesSpec Rows.fileNamesRow = true := by
  simp only [joinedFacts, j1, j2, j3, j4, j5, j6, j7, j8, Bool.and_true]
  kernel_rfl
theorem over : Rows.fileNamesRow.holds Tryz.pinned (OpenSpec.ofChange Rows.fileNamesSpec) :=
  OpenClaim.holds_of_wide 5 Tryz.f5 rfl rfl rfl rfl rfl rfl rfl ⟨rfl, rfl, rfl, rfl, rfl⟩ rfl rfl rfl rfl rfl (by kernel_rfl) Tryz.func5 closed
    (of_decide_eq_true (by kernel_rfl)) (by unfold Func.isWrapper; first | (rw [if_pos (by decide +kernel)]; kernel_rfl) | (rw [if_neg (by decide +kernel)]; exact ⟨rfl, rfl⟩))
    (fun os started H enc _ => lifted os started H enc)

theorem proved : Rows.FileNamesCardSaid :=
  Claim7.holds_tied_plain_at .later [] [.data, .data, .data, .data, .handle, .sentinel, .sentinel, .pinned] true (true, "e5195b3aeaf4a0dbf84df0ffb818a624d2d1c206853cf612eaf5a4f6e4533d01") true over (fun _ h => by cases h) (by kernel_rfl) (fun _ h => by cases h) fileNames_row_tie rfl ⟨rfl, rfl⟩ (by kernel_rfl) rfl
    (fun f fn hf hfn => by
      obtain rfl : f = 5 := Option.some.inj ((show Tryz.prog.funcNamed Tryz.f5.name = some 5 by kernel_rfl).symm.trans hf) |>.symm
      obtain rfl : fn = Tryz.f5 := (Option.some.inj (Tryz.func5.symm.trans hfn)).symm
      exact ⟨by kernel_rfl, fun j t ht => by
        rw [Tryz.params5] at ht
        have hm : t ∈ [9, 9] := by simpa using Array.mem_of_getElem? ht
        have hall : ([9, 9].all fun u => !Tryz.prog.wantsStandIn u) = true := by kernel_rfl
        exact (show Tryz.prog.wantsStandIn t = false by simpa using List.all_eq_true.1 hall t hm)⟩)
    (by kernel_rfl)
#print axioms proved
end Go.Proofs.YtpibhbjmcmfnmaaGreatDoor.fileNames
