import PyProof.Rows.All
import Wide.All
import OpenK.AllK
import Wide.FinOn
import Lean
import PyProof.EqAt
import PyProof.EqKinds
import PyProof.TupleCall
import PyProof.P3Eq
import PyProof.NeData
import PyProof.ListRange
import PyProof.Rows.CallKwBuiltin
import PyProof.Rows.Range3
import PyProof.DictWalks
import PyProof.MinMaxWalk
import PyProof.WalkInts
import PyProof.Walk
import PyProof.WalkLemmas
import PyProof.RulesTry
import OpenK.KOwn
import KE.KTryMore
import KE.RegKTryMore
import PyProof.Rows.Catch
import KE.KIsAll
import KE.RegKIsAll
import PyProof.ExcArgsOwn
import PySem.Challenge.RW_bentrows_k07_what_is_no_sheet
set_option genSizeOf false
set_option Elab.async false
noncomputable section
set_option linter.all false
set_option maxRecDepth 100000
set_option maxHeartbeats 4000000
section
abbrev FG:=PySem.W.Frag
open PySem PySem.Spec PyProof.Rows
abbrev Bv:=@wpAny_bind
abbrev Bw:=@wpAny_pure
abbrev Bx:=@wpAny_holding
abbrev By:=@List.mem_cons_self
abbrev Bz:=@List.mem_cons_of_mem
abbrev BA:=@Heap.get?_push_of_some
abbrev BB:=@Option.map_eq_some_iff
abbrev BC:=@List.mem_append_left
abbrev BD:=@List.mem_append_right
abbrev BE:=@List.mem_cons
abbrev BF:=@List.getElem?_eq_getElem
abbrev BG:=@Heap.lt_size
abbrev BH:=@List.mem_append
abbrev BI:=@Heap.get?_push_size
abbrev BJ:=@List.length_map
abbrev BK:=@List.getElem?_eq_some_iff
abbrev BL:=@List.mem_of_getElem?
abbrev BM:=@List.sublist_append_right
abbrev BN:=@List.mem_map
abbrev BO:=@List.getElem?_map
abbrev BP:=@Nat.le_refl
abbrev BQ:=@Bool.false_ne_true
abbrev BR:=@Nat.ne_of_lt
abbrev BS:=@List.size_toArray
abbrev BTz:=@List.map_cons
abbrev BU:=@decide_eq_true
abbrev BV:=@decide_eq_false
abbrev BW:=@Nat.lt_of_lt_of_le
abbrev BY:=@Heap.get?_update_self
abbrev BZ:=@List.length_append
abbrev B0:=@List.length_cons
abbrev B1:=@List.length_take
abbrev B6:=@Option.map_some
abbrev B7:=@Option.bind_eq_some_iff
abbrev B8:=@List.mem_singleton
abbrev B9:=@Bool.false_eq_true
abbrev Ca:=@List.mem_filter
abbrev Cc:=@List.getElem?_append_left
abbrev Cd:=@Heap.get?_update_other
abbrev Ce:=@wpAny_truthy_bool
abbrev Cf:=@Nat.le_trans
abbrev Cg:=@List.filter_eq_self
abbrev Ch:=@Option.some.inj
end
section
namespace L2
open PySem
def aQ (s : Stmt) : Arguments := match s with
 | .FunctionDef _ a _ _ _ _ _ _ _ _ => a
 | _ => { posonlyargs := [], args := [], vararg := none, kwonlyargs := [], kw_defaults := [], kwarg := none, defaults := [] }
def aL (s : Stmt) : List Stmt := match s with
 | .FunctionDef _ _ b _ _ _ _ _ _ _ => b
 | _ => []
def ac (s : Stmt) : Scope := match s with
 | .FunctionDef _ _ _ _ _ _ sc _ _ _ => sc
 | _ => { kind := .function, names := [], isGenerator := false, isCoroutine := false }
def qa (p : Nat × Obj) : Option (Nat × Obj) := match p.2 with
 | ⟨_, _, .freed, _⟩ => none
 | o => some (p.1, o)
def jU (h : Heap) : FG := ((List.range h.objs.size).zip h.objs.toList).filterMap qa
def aE (K : FG) (n : Str) : Addr := match PySem.W.nsIn K mainGlobals n with
 | some (some (.ref f)) => f
 | _ => 0
abbrev ph := Str × Str × Arguments × FuncBody × Scope × Addr × List (Str × Addr) × Value × Addr × Bool
def nN (K : FG) (n : Str) : Option ph := match PySem.W.nsIn K mainGlobals n with
 | some (some (.ref f)) => (match K.lookup f with
  | some ⟨_, _, .func fd, _⟩ => some (fd.name, fd.qualname, fd.params, fd.body, fd.scope, fd.globals, fd.closure, fd.defaults, fd.builtins, PySem.W.codeIn K fd.code n)
  | _ => none)
 | _ => none
def jV (n : Str) (st : Stmt) : Option ph := some (n, n, aQ st, .stmts (aL st), ac st, mainGlobals, [], .none, builtinsNs, true)
def oI (K : FG) (n : Str) : Option Int := match PySem.W.nsIn K mainGlobals n with
 | some (some (.int v _)) => some v
 | _ => none
def uM (K : FG) (n : Str) : Option Str := match PySem.W.nsIn K mainGlobals n with
 | some (some (.str v _)) => some v
 | _ => none
open PySem.W PyProof.Rows in
theorem t4 {p q : Program} {loose : List Str} {c : Shared → Bool} {α : Type} {d : Shared → α} {g : World → α} {N m : Nat} {ann : Option Value}
  (e : opening p = plainProg p.main.scope.names) (h : Nat.ble 600 N = true) (f : ∀ s, fenceModules? p s = some s)
  (sz : ∀ w : World, ((boot_heap w.params).isNs mainGlobals && (Array.mk [] : Array GenState).size == 0, (boot_heap w.params).objs.size, (boot_heap w.params).nsMap mainGlobals "__annotations__") = (true, m, ann))
  (go : ∀ (w : World) (os : OsState), (PySem.W.Fast.tw14082659384304107361 PySem.W.Fast.tw14364793385576792824 p w m ann N ⟨boot_heap w.params, Array.mk [], boot_drawn, boot_toks, os⟩ (topStub p)).map (fun s => ((staticsOk (importedModules p.main.body) (boot_heap w.params) s.heap && namesBound p s.heap && gensDone s && laidKept (boot_heap w.params) s.heap), PySem.W.Fast.tw4187177175401517315 q loose (importedModules p.main.body) c true s, d s)) = some (true, openGood q loose, g w)) : LeftO p q loose c d g N := fun w => by
 obtain ⟨⟨n, j, k, tk, os⟩, l, i⟩ := BB.mp (boot_open e h f w)
 obtain ⟨rfl, rfl, rfl, rfl⟩ : n = boot_heap w.params ∧ j = Array.mk [] ∧ k = boot_drawn ∧ tk = boot_toks := by simpa using i
 have sw := sz w
 have a := go w os
 rw [← PySem.W.Fast.te14082659384304107361, ← PySem.W.Fast.te14364793385576792824, ← PySem.W.Fast.te4187177175401517315] at a
 simp only [Prod.mk.injEq] at sw
 obtain ⟨s, o, b⟩ := BB.mp a
 simp only [Prod.mk.injEq] at b
 have tt : topFrom treeTable p w N ⟨boot_heap w.params, Array.mk [], boot_drawn, boot_toks, os⟩ = some s := by
  unfold topFrom
  dsimp only
  rw [sw.1, sw.2.1, sw.2.2, o]
  change (match staticsOk (importedModules p.main.body) (boot_heap w.params) s.heap && namesBound p s.heap && gensDone s && laidKept (boot_heap w.params) s.heap with | true => some s | false => none) = some s
  rw [b.1]
 unfold openEnds
 rw [l]
 change Option.map _ (topFrom treeTable p w N _) = _
 rw [tt]
 exact congrArg some (Prod.ext b.2.1 b.2.2)
theorem tF (h : PySem.W.Fast.tw9446332074065402090 l = true) : l.wellSaid = true := by rw [← PySem.W.Fast.te9446332074065402090] at h; exact h
abbrev mroV : List Value := [.type "ValueError", .type "Exception", .type "BaseException", .type "object"]
end L2
namespace L3
open PySem L2
def gJ (K : FG) (n : Str) : Bool := match PySem.W.nsIn K mainGlobals n with
 | some (some (.ref _)) => true
 | _ => false
abbrev pi := Bool × Option (Option Value) × Option (Option Value) × Bool × Option (Option Value) × Option Bool × Option Bool × Bool
def sT (K : FG) (r : Str) : pi := (gJ K r, PySem.W.findIn K (.ref (aE K r)) "__getattribute__", PySem.W.findIn K (.ref (aE K r)) "__getattr__", PySem.W.isClsIn K (aE K r), PySem.W.findIn K (.ref (aE K r)) "__class__", PySem.W.mroIn K (aE K r) (.type "object"), PySem.W.mroIn K (aE K r) (.type "BaseException"), PySem.W.excIn K (aE K r) mroV "ValueError.__new__")
def oU : pi := (true, some (some (.builtin "BaseException.__getattribute__")), some none, true, some (some (.builtin "object.__class__")), some true, some true, true)
def oS (K : FG) : Option (Option Value) × Option Bool := (PySem.W.specialIn K (.builtin "object.__class__") "__get__", PySem.W.takesIn K (.builtin "object.__class__"))
def ll : Option (Option Value) × Option Bool := (some (some (.builtin "getset_descriptor.__get__")), some true)
end L3
namespace Bn
open PySem L2 L3
def top (i : Nat) : Stmt := PySem.Challenge.pw_bentrows_k07_what_is_no_sheet.main.body.getD i (.Pass ⟨0, 0, 0, 0⟩)
abbrev eY : Stmt := top 13
abbrev fc : Stmt := top 14
abbrev dB : Stmt := top 23
abbrev cw : Stmt := top 24
abbrev oe : Stmt := top 25
abbrev iM : Stmt := top 26
abbrev b5 : Stmt := top 27
abbrev eZ : Stmt := top 28
abbrev c5 : Stmt := top 29
abbrev n9 : Stmt := top 31
abbrev eh : Stmt := top 32
abbrev cU : Stmt := top 33
abbrev cZ : Stmt := top 34
abbrev gp : Stmt := top 35
abbrev gl : Stmt := top 36
abbrev la : Stmt := top 41
abbrev iT : Stmt := top 42
abbrev iU : Stmt := top 43
abbrev d9 : Stmt := top 44
abbrev ee : Stmt := top 45
abbrev eg : Stmt := top 46
abbrev cV : Stmt := top 48
abbrev cW : Stmt := top 49
abbrev cX : Stmt := top 50
abbrev ff : Stmt := top 52
abbrev cr : Stmt := top 53
abbrev cu : Stmt := top 54
abbrev dz : Stmt := top 60
abbrev iV : Stmt := top 62
abbrev iS : Stmt := top 63
abbrev fh : Stmt := top 64
abbrev dA : Stmt := top 65
abbrev eW : Stmt := top 69
abbrev dy : Stmt := top 70
abbrev gx : Stmt := top 71
abbrev bG : Stmt := top 72
abbrev gq : Stmt := top 73
abbrev fg : Stmt := top 74
abbrev dw : Stmt := top 77
abbrev dn : Stmt := top 80
abbrev bZ : Stmt := top 83
abbrev dq : Stmt := top 85
abbrev du : Stmt := top 91
abbrev bX : Stmt := top 95
abbrev iL : Stmt := top 96
abbrev cY : Stmt := top 97
abbrev bY : Stmt := top 98
abbrev cy : Stmt := top 100
abbrev bM : Stmt := top 101
abbrev c0 : Stmt := top 102
abbrev dm : Stmt := top 107
abbrev iQ : Stmt := top 109
abbrev k8 : Stmt := top 110
abbrev k9 : Stmt := top 111
abbrev iN : Stmt := top 112
abbrev iR : Stmt := top 113
abbrev iP : Stmt := top 114
abbrev gu : Stmt := top 115
abbrev gv : Stmt := top 116
abbrev gw : Stmt := top 117
abbrev eX : Stmt := top 118
abbrev gr : Stmt := top 119
abbrev iO : Stmt := top 120
abbrev fT : Stmt := top 121
abbrev dsL : List (Str × Stmt) := [(("is_whole" : Str), eY), (("is_point" : Str), fc), (("are_points" : Str), dB), (("has_rising_x" : Str), cw), (("bend" : Str), oe), (("threes" : Str), iM), (("first_on_line" : Str), b5), (("is_sheet" : Str), eZ), (("check_sheet" : Str), c5), (("turn" : Str), n9), (("all_turns" : Str), eh), (("turned_over" : Str), cU), (("from_behind" : Str), cZ), (("sheared" : Str), gp), (("without" : Str), gl), (("bends" : Str), la), (("is_cup" : Str), iT), (("is_cap" : Str), iU), (("row_table" : Str), d9), (("cup_table" : Str), ee), (("cap_table" : Str), eg), (("longest_row" : Str), cV), (("longest_cup" : Str), cW), (("longest_cap" : Str), cX), (("is_paper" : Str), ff), (("is_cup_paper" : Str), cr), (("is_cap_paper" : Str), cu), (("cup_or_cap" : Str), dz), (("is_bar" : Str), iV), (("joined" : Str), iS), (("cup_ends" : Str), fh), (("cap_starts" : Str), dA), (("side_row" : Str), eW), (("is_ring_by" : Str), dy), (("is_ring" : Str), gx), (("turns_with_ring" : Str), bG), (("low_row" : Str), gq), (("high_row" : Str), fg), (("outer_ring" : Str), dw), (("rings_many" : Str), dn), (("greatest_ring" : Str), bZ), (("ring_paper" : Str), dq), (("ring_bound" : Str), du), (("places_within" : Str), bX), (("within" : Str), iL), (("is_empty_by" : Str), cY), (("is_empty_ring" : Str), bY), (("empties_many" : Str), cy), (("greatest_empty" : Str), bM), (("empty_three" : Str), c0), (("show_sheet" : Str), dm), (("_law_cell" : Str), iQ), (("_law_mix" : Str), k8), (("_law_box" : Str), k9), (("_law_take" : Str), iN), (("_law_bend" : Str), iR), (("_law_free" : Str), iP), (("_law_sheet" : Str), gu), (("_law_marks" : Str), gv), (("_law_first" : Str), gw), (("_law_second" : Str), eX), (("_law_third" : Str), gr), (("_law_said" : Str), iO), (("law" : Str), fT)]
abbrev blL : List Str := [("len" : Str), ("range" : Str), ("abs" : Str), ("divmod" : Str), ("enumerate" : Str), ("tuple" : Str), ("isinstance" : Str), ("int" : Str), ("bool" : Str), ("all" : Str), ("str" : Str), ("max" : Str), ("min" : Str), ("list" : Str), ("dict" : Str), ("repr" : Str), ("sorted" : Str), ("set" : Str), ("zip" : Str), ("reversed" : Str)]
abbrev ciL : List (Str × Int) := [(("MOST_POINTS" : Str), (24 : Int)), (("UP" : Str), (1 : Int)), (("DOWN" : Str), (-1 : Int))]
abbrev csL : List (Str × Str) := []
abbrev xrL : List String := ["NoSheet"]
abbrev xcL : List Str := [("NoSheet" : Str), ("Apart" : Str), ("Bare" : Str), ("BentError" : Str), ("NoNumber" : Str), ("NoPlace" : Str), ("NoRing" : Str), ("NoRow" : Str), ("NoText" : Str), ("OnLine" : Str), ("TooMany" : Str)]
abbrev xbL : List Str := [("ValueError" : Str)]
def qH (K : FG) : List (Option ph) × List (Option (Option Value)) × List (Option Int) × List (Option Str) × List pi × List Bool × List (Option (Option Value)) × (Option (Option Value) × Option Bool) × List (Option Bool) × List (Option Bool) := (dsL.map (fun p => nN K p.1), blL.map (PySem.W.nsIn K mainGlobals), ciL.map (fun p => oI K p.1), csL.map (fun p => uM K p.1), xrL.map (fun r : String => sT K r), xcL.map (gJ K), xbL.map (PySem.W.nsIn K mainGlobals), oS K, [PySem.W.kitOne K (.ref (aE K "NoSheet")) (.ref (aE K "Apart")), PySem.W.kitOne K (.ref (aE K "NoSheet")) (.ref (aE K "Bare")), PySem.W.kitOne K (.ref (aE K "NoSheet")) (.ref (aE K "BentError")), PySem.W.kitOne K (.ref (aE K "NoSheet")) (.ref (aE K "NoNumber")), PySem.W.kitOne K (.ref (aE K "NoSheet")) (.ref (aE K "NoPlace")), PySem.W.kitOne K (.ref (aE K "NoSheet")) (.ref (aE K "NoRing")), PySem.W.kitOne K (.ref (aE K "NoSheet")) (.ref (aE K "NoRow")), PySem.W.kitOne K (.ref (aE K "NoSheet")) (.ref (aE K "NoSheet")), PySem.W.kitOne K (.ref (aE K "NoSheet")) (.ref (aE K "NoText")), PySem.W.kitOne K (.ref (aE K "NoSheet")) (.ref (aE K "OnLine")), PySem.W.kitOne K (.ref (aE K "NoSheet")) (.ref (aE K "TooMany")), PySem.W.kitOne K (.ref (aE K "NoSheet")) (.type "ValueError")], [PySem.W.exmOne K (.ref (aE K "NoSheet")) (.ref (aE K "BentError"))])
def goodK : List (Option ph) × List (Option (Option Value)) × List (Option Int) × List (Option Str) × List pi × List Bool × List (Option (Option Value)) × (Option (Option Value) × Option Bool) × List (Option Bool) × List (Option Bool) := (dsL.map (fun p => jV p.1 p.2), blL.map (fun _ => some none), ciL.map (fun p => some p.2), csL.map (fun p => some p.2), xrL.map (fun _ : String => oU), xcL.map (fun _ => true), xbL.map (fun _ => some none), ll, [some false, some false, some true, some false, some false, some false, some false, some true, some false, some false, some false, some true], [some true])
theorem okL : PySem.Challenge.rw_bentrows_k07_what_is_no_sheet.wellSaid = true := tF (by kernel_rfl)
abbrev loL : List Str := [("BentError" : Str), ("NoSheet" : Str), ("NoPlace" : Str), ("NoNumber" : Str), ("NoRow" : Str), ("Apart" : Str), ("NoRing" : Str), ("TooMany" : Str), ("Bare" : Str), ("OnLine" : Str), ("NoText" : Str), ("is_whole" : Str), ("is_point" : Str), ("is_place" : Str), ("are_rising_places" : Str), ("check_place" : Str), ("check_whole" : Str), ("check_number" : Str), ("check_few" : Str), ("MOST_POINTS" : Str), ("are_points" : Str), ("has_rising_x" : Str), ("bend" : Str), ("threes" : Str), ("first_on_line" : Str), ("is_sheet" : Str), ("check_sheet" : Str), ("turn_at" : Str), ("turn" : Str), ("all_turns" : Str), ("turned_over" : Str), ("from_behind" : Str), ("sheared" : Str), ("without" : Str), ("UP" : Str), ("DOWN" : Str), ("row_bends" : Str), ("bends" : Str), ("is_cup" : Str), ("is_cap" : Str), ("row_table" : Str), ("cup_table" : Str), ("cap_table" : Str), ("onward_table" : Str), ("longest_row" : Str), ("longest_cup" : Str), ("longest_cap" : Str), ("has_paper_form" : Str), ("is_paper" : Str), ("is_cup_paper" : Str), ("is_cap_paper" : Str), ("LEAST_PLACES" : Str), ("MOST_PLACES" : Str), ("check_two_numbers" : Str), ("has_places" : Str), ("cup_or_cap" : Str), ("stays_below" : Str), ("is_bar" : Str), ("joined" : Str), ("cup_ends" : Str), ("cap_starts" : Str), ("LEAST_CORNERS" : Str), ("MOST_FOR_PAPERS" : Str), ("side_row" : Str), ("is_ring_by" : Str), ("is_ring" : Str), ("turns_with_ring" : Str), ("low_row" : Str), ("high_row" : Str), ("outer_row" : Str), ("ring_of_rows" : Str), ("outer_ring" : Str), ("tallies_from" : Str), ("tally_between" : Str), ("rings_many" : Str), ("longest_from" : Str), ("longest_between" : Str), ("greatest_ring" : Str), ("way_paper" : Str), ("ring_paper" : Str), ("is_way_key" : Str), ("has_way_form" : Str), ("is_way_paper" : Str), ("greatest_number" : Str), ("paper_bound" : Str), ("ring_bound" : Str), ("MOST_FOR_EMPTIES" : Str), ("fits_between" : Str), ("places_within" : Str), ("within" : Str), ("is_empty_by" : Str), ("is_empty_ring" : Str), ("empty_rings" : Str), ("empties_many" : Str), ("greatest_empty" : Str), ("empty_three" : Str), ("BLOCK_FIGURES" : Str), ("show_number" : Str), ("show_point" : Str), ("show_sheet" : Str), ("_law_cell" : Str), ("_law_mix" : Str), ("_law_box" : Str), ("_law_take" : Str), ("_law_bend" : Str), ("_law_free" : Str), ("_law_sheet" : Str), ("_law_marks" : Str), ("_law_first" : Str), ("_law_second" : Str), ("_law_third" : Str), ("_law_said" : Str)]
abbrev viL : Program := PySem.W.view PySem.Challenge.rw_bentrows_k07_what_is_no_sheet.row.prog [121]
def rnL (w : World) (os : OsState) : Option Shared := PySem.W.Fast.tw14082659384304107361 PySem.W.Fast.tw14364793385576792824 PySem.Challenge.rw_bentrows_k07_what_is_no_sheet.row.prog w 11 (some (.ref 6)) 40000 ⟨PySem.W.boot_heap w.params, Array.mk [], PySem.W.boot_drawn, PySem.W.boot_toks, os⟩ (PySem.W.topStub PySem.Challenge.rw_bentrows_k07_what_is_no_sheet.row.prog)
theorem gAL (w : World) (os : OsState) : (rnL w os).map (fun s => (PySem.W.staticsOk (importedModules PySem.Challenge.rw_bentrows_k07_what_is_no_sheet.row.prog.main.body) (PySem.W.boot_heap w.params) s.heap && PySem.W.namesBound PySem.Challenge.rw_bentrows_k07_what_is_no_sheet.row.prog s.heap && PySem.W.gensDone s && PySem.W.laidKept (PySem.W.boot_heap w.params) s.heap)) = some true := by kernel_rfl
theorem gBL (w : World) (os : OsState) : (rnL w os).map (fun s => PySem.W.Fast.tw4187177175401517315 viL loL (importedModules PySem.Challenge.rw_bentrows_k07_what_is_no_sheet.row.prog.main.body) (fun s => PySem.W.recOk (PySem.W.RowW.records PySem.Challenge.rw_bentrows_k07_what_is_no_sheet.row.toRowW) s) true s) = some (PySem.W.openGood viL loL) := by kernel_rfl
theorem gD0L (w : World) (os : OsState) : (rnL w os).map (fun s => dsL.map fun p => nN (jU s.heap) p.1) = some (dsL.map fun p => jV p.1 p.2) := by kernel_rfl
theorem gRL (w : World) (os : OsState) : (rnL w os).map (fun s => (qH (jU s.heap)).2) = some goodK.2 := by kernel_rfl
theorem leftL : PySem.W.LeftO PySem.Challenge.rw_bentrows_k07_what_is_no_sheet.row.prog viL loL (fun s => PySem.W.recOk (PySem.W.RowW.records PySem.Challenge.rw_bentrows_k07_what_is_no_sheet.row.toRowW) s) (fun s => qH (jU s.heap)) (fun _ => goodK) 40000 :=
 t4 (m := 11) (ann := some (.ref 6)) (by kernel_rfl) rfl (fun _ => rfl) (fun w => by kernel_rfl) fun w os => by
 obtain ⟨s, e, a⟩ := BB.mp (gAL w os)
 have b := gBL w os
 have r := gRL w os
 have c := gD0L w os
 rw [e] at b r c
 have b := Ch b
 have r := Ch r
 have c := Ch c
 have d : qH (jU s.heap) = goodK := Prod.ext c r
 have key : (rnL w os).map (fun s => ((PySem.W.staticsOk (importedModules PySem.Challenge.rw_bentrows_k07_what_is_no_sheet.row.prog.main.body) (PySem.W.boot_heap w.params) s.heap && PySem.W.namesBound PySem.Challenge.rw_bentrows_k07_what_is_no_sheet.row.prog s.heap && PySem.W.gensDone s && PySem.W.laidKept (PySem.W.boot_heap w.params) s.heap), PySem.W.Fast.tw4187177175401517315 viL loL (importedModules PySem.Challenge.rw_bentrows_k07_what_is_no_sheet.row.prog.main.body) (fun s => PySem.W.recOk (PySem.W.RowW.records PySem.Challenge.rw_bentrows_k07_what_is_no_sheet.row.toRowW) s) true s, qH (jU s.heap))) = some (true, PySem.W.openGood viL loL, goodK) := by
  rw [e]
  exact congrArg some (Prod.ext a (Prod.ext b d))
 exact key
end Bn
end
section
namespace L2
open PySem PySem.Spec PyProof.Rows
abbrev Key:=Sum Int Str
def nF:Key->Value->Bool
 | .inl k,v=>Value.isInt k v
 | .inr x,v=>Value.isStrOf x v
def keyH (w:World):Key->Int
 | .inl k=>hashInt k
 | .inr x=>hashStr w x
theorem bp:∀ {k:Key} {v:Value},nF k v=true->(∃ i t,k=Sum.inl i/\v=Value.int i t)\/(∃ x t,k=Sum.inr x/\v=Value.str x t)
 | .inl i,v,h=>by
  obtain ⟨t,e⟩:=Value.isInt_shape (k:=i) (v:=v) h
  exact .inl ⟨i,t,rfl,e⟩
 | .inr x,v,h=>by
  obtain ⟨t,e⟩:=Value.isStrOf_shape (x:=x) (v:=v) h
  exact .inr ⟨x,t,rfl,e⟩
theorem t7 (i:Int) (t:Tok):nF (.inl i) (.int i t)=true:=by simp [nF,Value.isInt]
theorem t6 (x:Str) (t:Tok):nF (.inr x) (.str x t)=true:=by simp [nF,Value.isStrOf]
theorem A2 (a b:Int):decide ((Sum.inl a:Key)=Sum.inl b)=(a == b):=by
 by_cases e:a=b
 ·subst e;simp
 ·have h:¬ (Sum.inl a:Key)=Sum.inl b:=fun q=>e (Sum.inl.inj q)
  rw [BV h]
  exact (beq_eq_false_iff_ne.mpr e).symm
theorem AY (a b:Str):decide ((Sum.inr a:Key)=Sum.inr b)=decide (a=b):=by
 by_cases e:a=b
 ·subst e;simp
 ·have h:¬ (Sum.inr a:Key)=Sum.inr b:=fun q=>e (Sum.inr.inj q)
  rw [BV h,BV e]
theorem A0 (a:Int) (b:Str):decide ((Sum.inl a:Key)=Sum.inr b)=false:=BV (fun q=>nomatch q)
theorem AZ (a:Str) (b:Int):decide ((Sum.inr a:Key)=Sum.inl b)=false:=BV (fun q=>nomatch q)
def bN (prog:Program) (w:World):PySem.KeyKind prog w Key where
 is:=nF
 hash:=keyH w
 inj:=fun v a b f d=>by
  rcases bp f with ⟨i,t,rfl,rfl⟩ | ⟨x,t,rfl,rfl⟩
  ·rcases bp d with ⟨j,u,rfl,e⟩ | ⟨y,u,rfl,e⟩
   ·injection e with e1 _;rw [e1]
   ·exact nomatch e
  ·rcases bp d with ⟨j,u,rfl,e⟩ | ⟨y,u,rfl,e⟩
   ·exact nomatch e
   ·injection e with e1 _;rw [e1]
 byValue:=fun k v h=>by
  rcases bp h with ⟨i,t,rfl,rfl⟩ | ⟨x,t,rfl,rfl⟩ <;> rfl
 pyHash:=fun c h=>by
  rcases bp c with ⟨i,t,rfl,rfl⟩ | ⟨x,t,rfl,rfl⟩
  ·exact wpAny_pyHash_int h
  ·exact wpAny_pyHash_str h
 eqBool:=fun hu c h=>by
  rcases bp hu with ⟨i,t,rfl,rfl⟩ | ⟨x,t,rfl,rfl⟩
  ·rcases bp c with ⟨j,u,rfl,rfl⟩ | ⟨y,u,rfl,rfl⟩
   ·rw [A2] at h;exact wpAny_eqBool_int h
   ·rw [A0] at h;exact SeqAt.EqAt.int_str i t y u _ _ _ _ h
  ·rcases bp c with ⟨j,u,rfl,rfl⟩ | ⟨y,u,rfl,rfl⟩
   ·rw [AZ] at h;exact SeqAt.EqAt.str_int x t j u _ _ _ _ h
   ·rw [AY] at h;exact wpAny_eqBool_str h
 «strs»:=fun k x t v h=>by
  rcases bp h with ⟨i,u,rfl,e⟩ | ⟨y,u,rfl,e⟩
  ·exact nomatch e
  ·injection e with e1 _
   subst e1
   cases v <;> rfl
theorem pQ (prog:Program) (w:World) (i:Int) (t:Tok):(bN prog w).is (.inl i) (.int i t)=true:=t7 i t
theorem pP (prog:Program) (w:World) (x:Str) (t:Tok):(bN prog w).is (.inr x) (.str x t)=true:=t6 x t
end L2
namespace L2
open PySem PySem.Spec PyProof.Rows
inductive V where
 | non | bl (b:Bool) | int (i:Int) | str (x:Str) | byt (b:Array UInt8) | flt (b:UInt64) | ref (a:Addr) | ty (n:String)
 deriving DecidableEq
def RelV:V->Value->Prop
 | .non,u=>u=Value.none
 | .bl b,u=>u=Value.bool b
 | .int i,u=>∃ t,u=Value.int i t
 | .str x,u=>∃ t,u=Value.str x t
 | .byt b,u=>∃ t,u=Value.bytes b t
 | .flt b,u=>∃ t,u=Value.float b t
 | .ref a,u=>u=Value.ref a
 | .ty n,u=>u=Value.type n
abbrev Vals:List V->List Value->Prop:=Paired RelV
theorem Vals.length (r:Vals xs us):xs.length=us.length:=Paired.length r
theorem Vals.get:∀ {xs:List V} {us:List Value} {i:Nat} {x:V},Vals xs us->xs[i]?=some x->∃ u,us[i]?=some u/\RelV x u
 | _,_,_,_,.nil,e=>by simp at e
 | _,_,0,_,.cons r _,e=>by simp at e;subst e;exact ⟨_,rfl,r⟩
 | _,_,i+1,x,.cons _ t,e=>by
  obtain ⟨u,h1,h2⟩:=Vals.get (i:=i) (x:=x) t (by simpa using e)
  exact ⟨u,by simpa using h1,h2⟩
theorem Vals.set (r:RelV x u):∀ {xs:List V} {us:List Value} (i:Nat),Vals xs us->Vals (xs.set i x) (us.set i u)
 | _,_,_,.nil=>.nil
 | _,_,0,.cons _ t=>.cons r t
 | _,_,i+1,.cons q t=>.cons q (Vals.set r i t)
theorem Vals.append:∀ {xs ys:List V} {us ws:List Value},Vals xs us->Vals ys ws->Vals (xs ++ ys) (us ++ ws)
 | _,_,_,_,.nil,s=>s
 | _,_,_,_,.cons r t,s=>.cons r (Vals.append t s)
theorem Vals.take:∀ {xs:List V} {us:List Value} (n:Nat),Vals xs us->Vals (xs.take n) (us.take n)
 | _,_,0,_=>.nil
 | _,_,_+1,.nil=>.nil
 | _,_,n+1,.cons r t=>.cons r (Vals.take n t)
theorem Vals.drop:∀ {xs:List V} {us:List Value} (n:Nat),Vals xs us->Vals (xs.drop n) (us.drop n)
 | _,_,0,r=>r
 | _,_,_+1,.nil=>.nil
 | _,_,n+1,.cons _ t=>Vals.drop n t
def RelO:Option V->Option Value->Prop
 | some v,some u=>RelV v u
 | none,none=>True
 | _,_=>False
def KV {κ:Type}:List (κ × V)->List (κ × Value)->Prop:=Paired fun (p:κ × V) (q:κ × Value)=>p.1=q.1/\RelV p.2 q.2
def kV:Key->V
 | .inl i=>.int i
 | .inr x=>.str x
inductive HO where
 | lst (xs:List V)
 | tup (xs:List V)
 | dK (kvs:List (Key × V)) | dT (kvs:List (List Key × V))
 | set (S:Int->Bool) (n:Nat)
 | ins (C dx:Addr) (fs:List (Str × V))
 | own (x:Addr)
 | xd (fs:List (Str × V))
 | met (f x:Addr)
 | rng (lo hi:Int)
 | frz (o:Obj) (u:HO)
 | tbl (ps:Array Value)
 | ext (φ:Heap->Prop)
abbrev Hp:=Addr->Option HO
def upd (H:Hp) (a:Addr) (o:HO):Hp:=fun b=>if b=a then some o else H b
theorem aV:upd H a o a=some o:=by unfold upd;rw [if_pos rfl]
theorem aB (h:b ≠ a):upd H a o b=H b:=by unfold upd;rw [if_neg h]
theorem ne_of {H:Hp} (h:H a=some o) (h':H b=some u) (d:o ≠ u):a ≠ b:=by
 intro e;subst e;rw [h] at h';exact d (Ch h')
theorem aT {H:Hp} (h:H a=some o) (h':H b=none):a ≠ b:=by
 intro e;subst e;rw [h] at h';cases h'
def DictOfE {prog:Program} {w:World} {κ:Type} [DecidableEq κ] (knd:KeyKind prog w κ) (h:Heap) (a:Addr) (b:List (κ × Value)):Prop :=
 ∃ o es c,h.get? a=some o/\o.ExactDict/\o.data=.dict es c/\KeysOf knd es/\Pairs knd es.toList b/\(b.map (·.1)).Nodup/\c=es.size
theorem DictOfE.of [DecidableEq κ] {knd:KeyKind prog w κ} {b:List (κ × Value)} (x:DictOfE knd h a b):h.DictOf knd a b:=let ⟨o,es,c,h1,h2,h3,f,d,e,_⟩:=x;⟨o,es,c,h1,h2,h3,f,d,e⟩
def IsTupD (h:Heap) (a:Addr) (items:Array Value):Prop:=∃ o,h.get? a=some o/\o.cls=.type "tuple"/\∃ n,(o.data,o.dict)=(Data.seq items n,none)
theorem IsTupD.tup {h:Heap} {a:Addr} {items:Array Value} (x:IsTupD h a items):IsTup h a items:=let ⟨o,e,c,n,d⟩:=x;⟨o,e,c,n,congrArg Prod.fst d⟩
theorem IsTupD.lt (x:IsTupD h a items):a < h.objs.size:=x.tup.lt
theorem IsTupD.new (h:Heap) (items:Array Value):IsTupD (h.push { cls:=.type "tuple",data:=.seq items }) h.objs.size items:=⟨_,BI h rfl,rfl,_,rfl⟩
section
variable (P:Program) (w:World)
def ObjOk (H:Hp) (h:Heap) (a:Addr):HO->Prop
 | .lst xs=>xs.length<=sizeLine/\∃ (its:List Value) (n:Nat),Vals xs its/\h.get? a=some { cls:=.type "list",data:=.seq its.toArray n }
 | .tup xs=>xs.length<=sizeLine/\∃ its:List Value,Vals xs its/\IsTupD h a its.toArray
 | .dK kvs=>kvs.length<=sizeLine/\(a == sysModules)=false/\∃ d,KV kvs d/\DictOfE (bN P w) h a d
 | .dT kvs=>kvs.length<=sizeLine/\(a == sysModules)=false/\∃ xs:List (List Key × Addr × Value),
   Paired (fun (p:List Key × V) (q:List Key × Addr × Value)=>p.1=q.1/\H q.2.1=some (.tup (p.1.map kV))/\RelV p.2 q.2.2) kvs xs /\
   ∃ o es c,h.get? a=some o/\o.ExactDict/\o.data=.dict es c/\es.toList=xs.map (entryOfKey (tupleKind (bN P w)))/\(xs.map (·.1)).Nodup/\c=es.size
 | .set S n=>h.SetOf (intKind P w) a S n
 | .ins C dx fs=>H dx=some (.own a)/\fs.length<=1000/\dx ≠ a/\h.get? a=some (PySem.W.instObj C dx) /\
   ∃ b,h.Ns1 dx b/\(∀ f,RelO (fs.lookup f) (b f))/\PySem.Within b (fs.map (·.1))
 | .own _=>∃ o,h.get? a=some o
 | .xd fs=>∃ b,h.Ns1 a b/\∀ f,RelO (fs.lookup f) (b f)
 | .rng lo hi=>∃ t u v,h.get? a=some { cls:=.type "range",data:=.fields #[.int lo t,.int hi u,.int 1 v] }
 | .frz o u=>h.get? a=some o/\ObjOk H h a u
 | .tbl ps=>h.get? a=some { cls:=.none,data:=.fields ps }
 | .met f x=>h.get? a=some (PySem.W.methodObj (.ref f) (.ref x))
 | .ext φ=>φ h/\(∃ o,h.get? a=some o)/\∀ h1 h2:Heap,φ h1->(∀ o,h1.get? a=some o->h2.get? a=some o)->φ h2
def HOk (H:Hp) (h:Heap):Prop:=∀ a o,H a=some o->ObjOk P w H h a o
end
section
variable {P:Program} {w:World} {H H':Hp} {h h':Heap} {a:Addr} {o:HO}
theorem ObjOk.lt (x:ObjOk P w H h a o):a < h.objs.size:=by
 cases o with
 | lst xs=>obtain ⟨_,_,_,_,e⟩:=x;exact BG e
 | tup xs=>obtain ⟨_,_,_,p⟩:=x;exact p.lt
 | dK kvs=>obtain ⟨_,_,_,_,o,_,_,e,_⟩:=x;exact BG e
 | dT kvs=>obtain ⟨_,_,_,_,o,_,_,e,_⟩:=x;exact BG e
 | set S n=>obtain ⟨o,_,_,_,e,_⟩:=x;exact BG e
 | ins C dx fs=>obtain ⟨_,_,_,e,_⟩:=x;exact BG e
 | own y=>obtain ⟨_,e⟩:=x;exact BG e
 | xd fs=>obtain ⟨_,⟨_,_,_,e,_⟩,_⟩:=x;exact BG e
 | rng lo hi=>obtain ⟨_,_,_,e⟩:=x;exact BG e
 | frz ob u=>obtain ⟨e,_⟩:=x;exact BG e
 | tbl ps=>exact BG (show h.get? a=some _ from x)
 | met f y=>exact BG (show h.get? a=some _ from x)
 | ext φ=>obtain ⟨_,⟨_,e⟩,_⟩:=x;exact BG e
theorem Paired.mapP:∀ {d:List α} {c:List β},Paired F d c->(∀ a b,F a b->G a b)->Paired G d c
 | _,_,.nil,_=>.nil
 | _,_,.cons r t,f=>.cons (f _ _ r) (Paired.mapP t f)
theorem ObjOk.stay (x:ObjOk P w H h a o) (k:∀ b u,(b=a\/H b=some (.own a))->h.get? b=some u->h'.get? b=some u)
  (l:∀ b,H b=some (.own a)->H' b=some (.own a)) (m:∀ b xs,H b=some (.tup xs)->H' b=some (.tup xs)):ObjOk P w H' h' a o:=by
 induction o with
 | lst xs=>obtain ⟨z,its,n,r,e⟩:=x;exact ⟨z,its,n,r,k _ _ (.inl rfl) e⟩
 | tup xs=>obtain ⟨z,its,r,ob,e,c⟩:=x;exact ⟨z,its,r,ob,k _ _ (.inl rfl) e,c⟩
 | dK kvs=>obtain ⟨z,y,A,r,ob,es,g,e,c⟩:=x;exact ⟨z,y,A,r,ob,es,g,k _ _ (.inl rfl) e,c⟩
 | dT kvs =>
  obtain ⟨z,y,xs,r,ob,es,g,e,c⟩:=x
  exact ⟨z,y,xs,Paired.mapP r fun p q z=>⟨z.1,m _ _ z.2.1,z.2.2⟩,ob,es,g,k _ _ (.inl rfl) e,c⟩
 | set S n=>obtain ⟨ob,es,g,t,e,c⟩:=x;exact ⟨ob,es,g,t,k _ _ (.inl rfl) e,c⟩
 | ins C dx fs =>
  obtain ⟨d,z,ne,e,j,⟨i,es,g,s,c⟩,r⟩:=x
  exact ⟨l _ d,z,ne,k _ _ (.inl rfl) e,j,⟨i,es,g,k _ _ (.inr d) s,c⟩,r⟩
 | own y=>obtain ⟨ob,e⟩:=x;exact ⟨ob,k _ _ (.inl rfl) e⟩
 | xd fs=>obtain ⟨j,⟨i,es,g,e,c⟩,r⟩:=x;exact ⟨j,⟨i,es,g,k _ _ (.inl rfl) e,c⟩,r⟩
 | rng lo hi=>obtain ⟨t,u,v,e⟩:=x;exact ⟨t,u,v,k _ _ (.inl rfl) e⟩
 | frz ob u ih=>obtain ⟨e,q⟩:=x;exact ⟨k _ _ (.inl rfl) e,ih q⟩
 | tbl ps =>
  have e:h.get? a=some { cls:=.none,data:=.fields ps }:=x
  show h'.get? a=some { cls:=.none,data:=.fields ps }
  exact k a _ (.inl rfl) e
 | met f y =>
  have e:h.get? a=some (PySem.W.methodObj (.ref f) (.ref y)):=x
  show h'.get? a=some (PySem.W.methodObj (.ref f) (.ref y))
  exact k a _ (.inl rfl) e
 | ext φ=>obtain ⟨p,⟨o,e⟩,st⟩:=x;exact ⟨st _ _ p fun o q=>k _ _ (.inl rfl) q,⟨o,k _ _ (.inl rfl) e⟩,st⟩
theorem HOk.lt (x:HOk P w H h) (e:H a=some o):a < h.objs.size:=(x a o e).lt
theorem HOk.fresh (x:HOk P w H h) (e:h.objs.size<=a):H a=none:=by
 cases q:H a with
 | none=>rfl
 | some u=>exact absurd (BW (x.lt q) e) (Nat.lt_irrefl _)
theorem HOk.kept (x:HOk P w H h) (k:∀ b u,h.get? b=some u->h'.get? b=some u):HOk P w H h':=fun a o e =>
 (x a o e).stay (fun b u _ q=>k b u q) (fun _ q=>q) fun _ _ q=>q
theorem HOk.laid (x:HOk P w H h) (k:∀ b u,h.get? b=some u->h'.get? b=some u) (g:h.objs.size<=a) (new:ObjOk P w (upd H a o) h' a o):HOk P w (upd H a o) h':=fun b u e=>by
 have f:=x.fresh g
 by_cases d:b=a
 ·subst d;rw [aV] at e;cases e;exact new
 ·rw [aB d] at e
  exact (x b u e).stay (fun c v _ q=>k c v q) (fun c q=>by rw [aB (aT q f)];exact q) fun c xs q=>by rw [aB (aT q f)];exact q
end
def Rd (H:Hp) (a:Addr) (u:HO):Prop:=H a=some u\/∃ o,H a=some (.frz o u)
theorem Rd.ok (r:Rd H a u) (x:HOk P w H h):ObjOk P w H h a u:=by
 rcases r with r | ⟨o,r⟩
 ·exact x a u r
 ·obtain ⟨_,q⟩:=x a _ r
  exact q
def Mut:Option HO->Prop
 | some (.lst _)=>True
 | some (.dK _)=>True
 | some (.dT _)=>True
 | some (.set _ _)=>True
 | some (.ins _ _ _)=>True
 | some (.ext _)=>True
 | _=>False
section
variable {P:Program} {w:World} {H:Hp} {h h':Heap} {x e:Addr} {o':HO}
theorem HOk.write (ok:HOk P w H h) (j:Mut (H x)) (he:e=x\/H e=some (.own x)) (k:∀ b u,b ≠ e->h.get? b=some u->h'.get? b=some u) (l:∃ u,h'.get? e=some u)
  (new:ObjOk P w (upd H x o') h' x o'):HOk P w (upd H x o') h':=fun b u q=>by
 have d:∀ c y,H c=some (.own y)->c ≠ x:=fun c y r z=>by subst z;rw [r] at j;exact j
 have f:∀ c xs,H c=some (.tup xs)->c ≠ x:=fun c xs r z=>by subst z;rw [r] at j;exact j
 by_cases i:b=x
 ·subst i;rw [aV] at q;cases q;exact new
 ·rw [aB i] at q
  by_cases a:b=e
  ·have m:H b=some (.own x):=by
    rcases he with z | z
    ·exact absurd (a.trans z) i
    ·rw [a];exact z
   rw [q] at m;cases m
   obtain ⟨v,n⟩:=l
   exact ⟨v,by rw [a];exact n⟩
  ·refine (ok b u q).stay (fun c v g r=>k c v ?_ r) (fun c r=>by rw [aB (d c b r)];exact r) fun c xs r=>by rw [aB (f c xs r)];exact r
   rcases g with rfl | g
   ·exact a
   ·rintro rfl
    rcases he with z | z
    ·exact d c b g z
    ·rw [g] at z;cases z;exact i rfl
end
structure Un (fs ex:List Addr) (H H':Hp) (h h':Heap):Prop where
 keep:∀ b o,h.get? b=some o->H b=none->b ∉ fs->b ∉ ex->h'.get? b=some o
 slot:∀ b o,h.get? b=some o->H b=none->b ∈ fs->b ∉ ex->∃ sl,h'.get? b=some { o with slots:=sl }
 free:∀ b o,h.get? b=some o->H b=none->b ∉ ex->H' b=none
 there:∀ b o,h.get? b=some o->b ∉ ex->∃ o',h'.get? b=some o'
 tups:∀ b xs,H b=some (.tup xs)->H' b=some (.tup xs)
 frzs:∀ b o u,H b=some (.frz o u)->H' b=some (.frz o u)
 tbls:∀ b ps,H b=some (.tbl ps)->∃ more,H' b=some (.tbl (ps ++ more))
section
variable {fs fs' ex ex':List Addr} {H H1 H2:Hp} {h h1 h2 h':Heap} {a x e:Addr} {o:HO}
theorem Un.any (u:Un fs ex H H1 h h1) (q:h.get? b=some ob) (n:H b=none) (c:b ∉ ex):∃ sl,h1.get? b=some { ob with slots:=sl }:=by
 by_cases a:b ∈ fs
 ·exact u.slot b ob q n a c
 ·exact ⟨ob.slots,u.keep b ob q n a c⟩
theorem Un.trans (a:Un fs ex H H1 h h1) (b:Un fs ex H1 H2 h1 h2):Un fs ex H H2 h h2 where
 keep:=fun c ob q n e d=>b.keep c ob (a.keep c ob q n e d) (a.free c ob q n d) e d
 slot:=fun c ob q n e d=>by
  obtain ⟨sl,e1⟩:=a.slot c ob q n e d
  obtain ⟨g,f⟩:=b.slot c _ e1 (a.free c ob q n d) e d
  exact ⟨g,f⟩
 free:=fun c ob q n d=>by
  obtain ⟨o',e1⟩:=a.there c ob q d
  exact b.free c o' e1 (a.free c ob q n d) d
 there:=fun c ob q d=>by
  obtain ⟨o',e1⟩:=a.there c ob q d
  exact b.there c o' e1 d
 tups:=fun c xs q=>b.tups c xs (a.tups c xs q)
 frzs:=fun c ob xs q=>b.frzs c ob xs (a.frzs c ob xs q)
 tbls:=fun c ps q=>by
  obtain ⟨i,e1⟩:=a.tbls c ps q
  obtain ⟨j,f⟩:=b.tbls c _ e1
  exact ⟨i ++ j,by rw [f,Array.append_assoc]⟩
theorem Un.kept (k:∀ b u,h.get? b=some u->h'.get? b=some u):Un fs ex H H h h' :=
 ⟨fun b ob q _ _ _=>k b ob q,fun b ob q _ _ _=>⟨ob.slots,k b ob q⟩,fun _ _ _ n _=>n,fun b ob q _=>⟨ob,k b ob q⟩,fun _ _ q=>q,fun _ _ _ q=>q,fun _ ps q=>⟨#[],by rw [q];simp⟩⟩
theorem Un.refl:Un fs ex H H h h:=Un.kept fun _ _ q=>q
theorem Un.laid (k:∀ b u,h.get? b=some u->h'.get? b=some u) (d:h.objs.size<=a) (c:H a=none):Un fs ex H (upd H a o) h h' where
 keep:=fun b u q _ _ _=>k b u q
 slot:=fun b u q _ _ _=>⟨u.slots,k b u q⟩
 free:=fun b u q n _=>by rw [aB (BR (BW (BG q) d))];exact n
 there:=fun b u q _=>⟨u,k b u q⟩
 tups:=fun b xs q=>by rw [aB (aT q c)];exact q
 frzs:=fun b u xs q=>by rw [aB (aT q c)];exact q
 tbls:=fun b ps q=>⟨#[],by rw [aB (aT q c),q];simp⟩
theorem Un.write (c:Mut (H x)) (he:e=x\/H e=some (.own x)) (k:∀ b u,b ≠ e->h.get? b=some u->h'.get? b=some u) (d:∃ u,h'.get? e=some u):Un fs ex H (upd H x o) h h':=by
 have g:∀ b,H b=none->b ≠ x:=fun b n z=>by subst z;rw [n] at c;exact c
 have f:∀ b,H b=none->b ≠ e:=fun b n z=>by
  subst z
  rcases he with r | r
  ·exact g b n r
  ·rw [n] at r;cases r
 have hm:∀ b u,H b=some u->¬ Mut (some u)->b ≠ x:=fun b u q nm z=>by subst z;rw [q] at c;exact nm c
 refine ⟨fun b u q n _ _=>k b u (f b n) q,fun b u q n _ _=>⟨u.slots,k b u (f b n) q⟩,fun b u q n _=>by rw [aB (g b n)];exact n,fun b u q _=>?_,
  fun b xs q=>by rw [aB (hm b _ q fun z=>z)];exact q,fun b u xs q=>by rw [aB (hm b _ q fun z=>z)];exact q,fun b ps q=>⟨#[],by rw [aB (hm b _ q fun z=>z),q];simp⟩⟩
 by_cases a:b=e
 ·subst a;exact d
 ·exact ⟨u,k b u a q⟩
end
def trk (h:Heap) (H:Hp):List Addr:=(List.range h.objs.size).filter fun a=>(H a).isSome
def oK (h:Heap) (H:Hp):Heap:=PySem.W.hideAll h (trk h H)
theorem t9 (h:Heap) (H:Hp):(oK h H).objs.size=h.objs.size:=PySem.W.hideAll_size _ _
theorem wk (e:h.get? b=some o) (n:H b=none):(oK h H).get? b=some o :=
 PySem.W.hideAll_get _ e fun hm=>by
  have q:(H b).isSome=true:=(Ca.mp hm).2
  rw [n] at q;simp at q
theorem xX (e:(oK h H).get? b=some o):h.get? b=some o/\H b=none:=by
 have a:h.get? b=some o:=PySem.W.of_hideAll (trk h H) e
 refine ⟨a,?_⟩
 cases q:H b with
 | none=>rfl
 | some x =>
  have hm:b ∈ trk h H:=Ca.mpr ⟨List.mem_range.mpr (BG a),by simp [q]⟩
  have z:(oK h H).get? b=none:=PySem.W.hideAll_none (trk h H) hm
  rw [z] at e;cases e
def yM (g h:Heap) (L:Addr):List (Addr × Obj):=(List.range h.objs.size).filterMap fun a=>if a=L\/(g.get? a).isSome=true then none else (h.get? a).map fun o=>(a,o)
def jE (g h:Heap) (L d:Addr):List (Addr × Obj):=(yM g h L).filter fun p=>decide (p.1 ≠ d)
end L2
namespace L2
open PySem PySem.Spec PyProof.Rows
structure Mod (K:FG) (mg:Str->Option Value) (base:Heap):Prop where
 kin:K.In base
 glob:base.Ns mainGlobals mg
 blt:∃ mb,base.Ns builtinsNs mb/\∀ x:Str,x ≠ "__name__"->mb x=bootBuiltins x
 nolimit:base.NoLimit
structure Cx where
 prog:Program
 w:World
 K:FG
 mg:Str->Option Value
 base:Heap
 A:Around
 N:List Str
 s₀:Shared
 H₀:Hp
 env:Env
 outer:List Env
 stack:List Env
 ex:List Addr
 fn:Str->Bool
 calm:Bool
 pn:List (Addr × Obj)
 xe:Value->Shared->Prop
def frs (l:List Env):List Addr:=l.filterMap (·.frame)
abbrev Cx.fs (X:Cx):List Addr:=frs X.outer
def Vis (sc:Scope) (x:Str):Prop:=sc.names.lookup x=some .local\/sc.names.lookup x=some .cell\/sc.names.lookup x=some .free
def Loc (sc:Scope) (x:Str):Prop:=sc.names.lookup x=some .local\/sc.names.lookup x=some .cell
def Look (env:Env) (h:Heap) (m:Str->Option Value) (x:Str) (u:Value):Prop :=
 (env.kindOf x=some .local/\m x=some u)\/((env.kindOf x=some .cell\/env.kindOf x=some .free)/\∃ c,env.cells.lookup x=some c/\h.IsCell c (some u))
structure Cx.Ok (X:Cx):Prop where
 mod:Mod X.K X.mg X.base
 kind:X.env.scope.kind=.function
 glob:X.env.globals=mainGlobals
 blt:X.env.builtins=builtinsNs
 above:X.s₀.heap.objs.size<=X.env.locals
 inj:∀ x y c,X.env.cells.lookup x=some c->X.env.cells.lookup y=some c->x=y
 has:∀ x,(X.env.kindOf x=some .cell\/X.env.kindOf x=some .free)->∃ c,X.env.cells.lookup x=some c
 cab:∀ x c,X.fn x=true->X.env.cells.lookup x=some c->X.s₀.heap.objs.size<=c
 hd:X.calm=true->X.A.handled=none
 frames:X.A.frames=some X.stack
 stk:X.stack=X.outer\/(X.stack=X.env :: X.outer/\X.env.frame=some X.env.locals)
 exf:∀ b ∈ X.ex,b ≠ X.env.locals/\∀ x c,X.env.cells.lookup x=some c->c ≠ b
 bs:∀ b o,X.base.get? b=some o->X.s₀.heap.get? b=some o/\X.H₀ b=none
 bsz:X.base.objs.size<=X.s₀.heap.objs.size
 noex:∀ b o,X.base.get? b=some o->b ∉ X.ex
 exfs:∀ b ∈ X.ex,b ∉ X.fs
 funs:X.s₀.heap.FunFrames X.base X.outer
 frf:∀ b ∈ X.fs,X.H₀ b=none
structure Inv (X:Cx) (pins:List (Addr × Obj)) (σ:List (Option V)) (H:Hp) (s:Shared):Prop where
 ok:X.Ok
 os:s.os=X.s₀.os
 bare:AllBare s.gens
 base:Un X.fs X.ex X.H₀ H X.s₀.heap s.heap
 loc:∃ m,s.heap.Ns X.env.locals m/\∀ (i:Nat) (x:Str) (v:V),X.N[i]?=some x->σ[i]?=some (some v)->Vis X.env.scope x->∃ u,RelV v u/\Look X.env s.heap m x u
 cell:∀ x c,X.env.cells.lookup x=some c->∃ v,s.heap.IsCell c v
 free:H X.env.locals=none
 freeC:∀ x c,X.env.cells.lookup x=some c->H c=none
 pin:∀ p ∈ X.pn ++ pins,s.heap.get? p.1=some p.2/\H p.1=none/\p.1 ≠ X.env.locals/\p.1 ∉ X.fs/\∀ v,p.2.data ≠ .cell v
 hok:HOk X.prog X.w H s.heap
 len:σ.length=X.N.length
section
variable {X:Cx} {pins:List (Addr × Obj)} {σ:List (Option V)} {H H':Hp} {s:Shared} {h':Heap}
theorem Cx.Ok.nofr (ok:X.Ok) (e:X.base.get? b=some o):b ∉ X.fs:=fun a=>by
 have:=(ok.funs.mem a).1
 rw [e] at this;cases this
theorem Inv.bs (I:Inv X pins σ H s):∀ b o,X.base.get? b=some o->s.heap.get? b=some o/\H b=none:=fun b o e =>
 ⟨I.base.keep b o (I.ok.bs b o e).1 (I.ok.bs b o e).2 (I.ok.nofr e) (I.ok.noex b o e),I.base.free b o (I.ok.bs b o e).1 (I.ok.bs b o e).2 (I.ok.noex b o e)⟩
theorem Inv.bk (I:Inv X pins σ H s):∀ b o,X.base.get? b=some o->s.heap.get? b=some o:=fun b o e=>(I.bs b o e).1
theorem Inv.mod (I:Inv X pins σ H s):Mod X.K X.mg X.base:=I.ok.mod
theorem Inv.kIn (I:Inv X pins σ H s):X.K.In s.heap:=I.ok.mod.kin.keeps I.bk
theorem Inv.lt (I:Inv X pins σ H s):X.env.locals < s.heap.objs.size:=let ⟨_,a,_⟩:=I.loc;a.lt
theorem Inv.sz (I:Inv X pins σ H s):X.s₀.heap.objs.size<=s.heap.objs.size:=Cf I.ok.above (Nat.le_of_lt I.lt)
theorem Inv.nofs (I:Inv X pins σ H s) (h:s.heap.objs.size<=a):a ∉ X.fs:=fun c=>by
 obtain ⟨_,o,b,_⟩:=I.ok.funs.mem c
 exact absurd (BW (BG b) (Cf I.sz h)) (Nat.lt_irrefl _)
theorem Inv.cne (I:Inv X pins σ H s):∀ x c,X.env.cells.lookup x=some c->c ≠ X.env.locals:=fun x c e z=>by
 obtain ⟨v,o,d,hd⟩:=I.cell x c e
 obtain ⟨m,⟨o',es,f,b,a,_⟩,_⟩:=I.loc
 rw [z,b] at d;cases d;rw [a] at hd;cases hd
theorem Inv.funs (I:Inv X pins σ H s):s.heap.FunFrames X.base X.outer:=by
 have all:∀ (l:List Env),(∀ b ∈ frs l,b ∈ X.fs)->X.s₀.heap.FunFrames X.base l->s.heap.FunFrames X.base l:=by
  intro l
  induction l with
  | nil=>intro _ _;trivial
  | cons env r ih =>
   intro d f
   obtain ⟨j,⟨L,o,hf,g,h,hd⟩,i⟩:=f
   have c:L ∈ X.fs:=d L (by unfold frs;rw [List.filterMap_cons,hf];exact By)
   obtain ⟨sl,e⟩:=I.base.slot L o h (I.ok.frf L c) c fun z=>I.ok.exfs L z c
   exact ⟨j,⟨L,_,hf,g,e,hd⟩,ih (fun b a=>d b (by unfold frs;rw [List.filterMap_cons,hf];exact Bz _ a)) i⟩
 exact all X.outer (fun _ a=>a) I.ok.funs
theorem Inv.stack (I:Inv X pins σ H s):s.heap.FunFrames X.base X.stack:=by
 rcases I.ok.stk with e | ⟨e,hf⟩
 ·rw [e];exact I.funs
 ·rw [e]
  obtain ⟨m,a,_⟩:=I.loc
  refine .cons (by rw [I.ok.kind];decide) hf a ?_ I.funs
  exact Heap.get?_none_of_le (Cf I.ok.bsz I.ok.above)
theorem Inv.stkSub (I:Inv X pins σ H s):∀ b ∈ frs X.stack,b ∈ X.env.locals :: X.fs:=fun b a=>by
 rcases I.ok.stk with e | ⟨e,hf⟩
 ·rw [e] at a;exact Bz _ a
 ·rw [e] at a
  unfold frs at a
  rw [List.filterMap_cons,hf] at a
  exact a
theorem Inv.stkFree (I:Inv X pins σ H s):∀ b ∈ frs X.stack,H b=none:=fun b a=>by
 rcases BE.mp (I.stkSub b a) with e | a
 ·rw [e];exact I.free
 ·obtain ⟨_,o,c,_⟩:=I.ok.funs.mem a
  exact I.base.free b o c (I.ok.frf b a) fun z=>I.ok.exfs b z a
theorem Inv.step {t':Nat} {ch:List Addr} (I:Inv X pins σ H s) (f:∀ b ∈ ch,(b ∈ X.ex\/X.s₀.heap.objs.size<=b)/\b ≠ X.env.locals/\(∀ x c,X.env.cells.lookup x=some c->c ≠ b)/\∀ p ∈ X.pn ++ pins,p.1 ≠ b) (keep:∀ b o,b ≠ X.env.locals->b ∉ X.fs->b ∉ ch->s.heap.get? b=some o->H b=none->h'.get? b=some o) (slot:∀ b o,b ≠ X.env.locals->b ∈ X.fs->b ∉ ch->s.heap.get? b=some o->H b=none->∃ sl,h'.get? b=some { o with slots:=sl }) (free:∀ b o,b ∉ ch->s.heap.get? b=some o->H b=none->H' b=none) (there:∀ b o,b ∉ ch->s.heap.get? b=some o->∃ o',h'.get? b=some o') (tups:∀ b xs,H b=some (.tup xs)->H' b=some (.tup xs)) (frzs:∀ b o u,H b=some (.frz o u)->H' b=some (.frz o u)) (tbls:∀ b ps,H b=some (.tbl ps)->∃ more,H' b=some (.tbl (ps ++ more))) (ns:∀ m,s.heap.Ns X.env.locals m->h'.Ns X.env.locals m) (hok:HOk X.prog X.w H' h') (M:AllBare g') :
  Inv X pins σ H' { s with heap:=h',gens:=g',drawn:=d',toks:=t' }:=by
 have y:∀ b o,X.s₀.heap.get? b=some o->b ≠ X.env.locals:=fun b o e=>BR (BW (BG e) I.ok.above)
 have h:∀ b o,X.s₀.heap.get? b=some o->b ∉ X.ex->b ∉ ch:=fun b o e a j=>by
  rcases (f b j).1 with z | z
  ·exact a z
  ·exact absurd (BW (BG e) z) (Nat.lt_irrefl _)
 have cellK:∀ x c,X.env.cells.lookup x=some c->∀ v,s.heap.IsCell c v->h'.IsCell c v:=fun x c e v ⟨o,t,hd⟩=>by
  have g:c ∉ ch:=fun z=>(f c z).2.2.1 x c e rfl
  by_cases D:c ∈ X.fs
  ·obtain ⟨sl,q⟩:=slot c o (I.cne x c e) D g t (I.freeC x c e)
   exact ⟨_,q,hd⟩
  ·exact ⟨o,keep c o (I.cne x c e) D g t (I.freeC x c e),hd⟩
 refine ⟨I.ok,I.os,M,⟨fun b o e n j a=>?_,fun b o e n j a=>?_,fun b o e n a=>?_,fun b o e a=>?_,fun b xs e=>tups b xs (I.base.tups b xs e),fun b o xs e=>frzs b o xs (I.base.frzs b o xs e),fun b ps e=>?_⟩,?_,fun x c e=>?_,?_,fun x c e=>?_,fun p E=>?_,hok,I.len⟩
 ·exact keep b o (y b o e) j (h b o e a) (I.base.keep b o e n j a) (I.base.free b o e n a)
 ·obtain ⟨sl,e1⟩:=I.base.slot b o e n j a
  obtain ⟨B,A⟩:=slot b _ (y b o e) j (h b o e a) e1 (I.base.free b o e n a)
  exact ⟨B,A⟩
 ·obtain ⟨o',e1⟩:=I.base.there b o e a
  exact free b o' (h b o e a) e1 (I.base.free b o e n a)
 ·obtain ⟨o',e1⟩:=I.base.there b o e a
  exact there b o' (h b o e a) e1
 ·obtain ⟨L,e1⟩:=I.base.tbls b ps e
  obtain ⟨G,A⟩:=tbls b _ e1
  exact ⟨L ++ G,by rw [A,Array.append_assoc]⟩
 ·obtain ⟨m,J,F⟩:=I.loc
  refine ⟨m,ns m J,fun i x v e1 A K=>?_⟩
  obtain ⟨u,r,l⟩:=F i x v e1 A K
  refine ⟨u,r,?_⟩
  rcases l with l | ⟨k,c,e,z⟩
  ·exact .inl l
  ·exact .inr ⟨k,c,e,cellK x c e _ z⟩
 ·obtain ⟨v,z⟩:=I.cell x c e
  exact ⟨v,cellK x c e v z⟩
 ·obtain ⟨m,⟨o,_,_,t,_⟩,_⟩:=I.loc
  exact free _ o (fun z=>(f _ z).2.1 rfl) t I.free
 ·obtain ⟨v,o,t,hd⟩:=I.cell x c e
  exact free c o (fun z=>(f c z).2.2.1 x c e rfl) t (I.freeC x c e)
 ·obtain ⟨e,n,ne,C,d⟩:=I.pin p E
  have g:p.1 ∉ ch:=fun z=>(f p.1 z).2.2.2 p E rfl
  exact ⟨keep p.1 p.2 ne C g e n,free p.1 p.2 g e n,ne,C,d⟩
theorem Inv.un {t':Nat} (I:Inv X pins σ H s) (u:Un X.fs [] H H' s.heap h') (hok:HOk X.prog X.w H' h'):Inv X pins σ H' { s with heap:=h',toks:=t' }:=by
 obtain ⟨m,⟨o,es,j,g,r⟩,_⟩:=id I.loc
 obtain ⟨sl,h⟩:=u.any g I.free (by simp)
 exact I.step (g':=s.gens) (d':=s.drawn) (ch:=[]) (fun _ z=>nomatch z) (fun b o _ f _ e n=>u.keep b o e n f (by simp)) (fun b o _ f _ e n=>u.slot b o e n f (by simp)) (fun b o _ e n=>u.free b o e n (by simp)) (fun b o _ e=>u.there b o e (by simp)) u.tups u.frzs u.tbls (fun k hm=>by
  obtain ⟨o',c,d,a,i⟩:=hm
  rw [g] at a;cases a
  exact ⟨_,c,d,h,i⟩) hok I.bare
theorem Inv.call {t':Nat} (I:Inv X pins σ H s) (u:Un (frs X.stack) ch H H' s.heap h') (hok:HOk X.prog X.w H' h') (q:AllBare g') (d:∀ b ∈ ch,(b ∈ X.ex\/X.s₀.heap.objs.size<=b)/\b ≠ X.env.locals/\(∀ x c,X.env.cells.lookup x=some c->c ≠ b)/\∀ p ∈ X.pn ++ pins,p.1 ≠ b) :
  Inv X pins σ H' { s with heap:=h',gens:=g',drawn:=d',toks:=t' }:=by
 obtain ⟨m,⟨o,es,t,j,r⟩,_⟩:=id I.loc
 obtain ⟨sl,i⟩:=u.any j I.free fun z=>(d _ z).2.1 rfl
 exact I.step (ch:=ch) d (fun b o i l a e n=>u.keep b o e n (fun z=>(BE.mp (I.stkSub b z)).elim i l) a) (fun b o _ _ a e n=>u.any e n a) (fun b o a e n=>u.free b o e n a) (fun b o a e=>u.there b o e a) u.tups u.frzs u.tbls (fun v hm=>by
  obtain ⟨o',g,h,f,k⟩:=hm
  rw [j] at f;cases f
  exact ⟨_,g,h,i,k⟩) hok q
theorem Inv.turned {t':Nat} (I:Inv X pins σ H s) (k:∀ b o,b ≠ it->s.heap.get? b=some o->h'.get? b=some o) (g:H it=none) (f:it ≠ X.env.locals) (h1:it ∈ X.ex\/X.s₀.heap.objs.size<=it) (h2:∀ x c,X.env.cells.lookup x=some c->c ≠ it) (h3:∀ p ∈ X.pn ++ pins,p.1 ≠ it):Inv X pins σ H { s with heap:=h',toks:=t' }:=by
 have d:∀ b u,H b=some u->b ≠ it:=fun b u e z=>by rw [z,g] at e;cases e
 refine I.step (g':=s.gens) (d':=s.drawn) (ch:=[it]) (fun b j=>?_) (fun b o _ _ a e _=>k b o (fun z=>a (by simp [z])) e) (fun b o _ _ a e _=>⟨o.slots,k b o (fun z=>a (by simp [z])) e⟩) (fun _ _ _ _ n=>n)
  (fun b o a e=>⟨o,k b o (fun z=>a (by simp [z])) e⟩) (fun _ _ e=>e) (fun _ _ _ e=>e) (fun b ps e=>⟨#[],by rw [e];simp⟩) (fun m hm=>?_) (fun b u e=>?_) I.bare
 ·have e:b=it:=by simpa using j
  subst e
  exact ⟨h1,f,h2,h3⟩
 ·obtain ⟨o,es,h,i,r⟩:=hm
  exact ⟨o,es,h,k _ o (Ne.symm f) i,r⟩
 ·refine (I.hok b u e).stay (fun c v a q=>k c v ?_ q) (fun _ q=>q) fun _ _ q=>q
  rcases a with z | z
  ·rw [z];exact d b u e
  ·exact d c _ z
theorem Inv.tok (I:Inv X pins σ H s) (t:Nat):Inv X pins σ H { s with toks:=t }:=I.un (h':=s.heap) (t':=t) Un.refl I.hok
theorem Inv.kept {t':Nat} (I:Inv X pins σ H s) (k:∀ b u,s.heap.get? b=some u->h'.get? b=some u):Inv X pins σ H { s with heap:=h',toks:=t' }:=I.un (Un.kept k) (I.hok.kept k)
theorem Inv.laid {t':Nat} (I:Inv X pins σ H s) (k:∀ b u,s.heap.get? b=some u->h'.get? b=some u) (c:s.heap.objs.size<=a) (new:ObjOk X.prog X.w (upd H a o) h' a o) :
  Inv X pins σ (upd H a o) { s with heap:=h',toks:=t' }:=I.un (Un.laid k c (I.hok.fresh c)) (I.hok.laid k c new)
theorem Inv.write {t':Nat} (I:Inv X pins σ H s) (c:Mut (H x)) (he:e=x\/H e=some (.own x)) (k:∀ b u,b ≠ e->s.heap.get? b=some u->h'.get? b=some u) (a:∃ u,h'.get? e=some u) (new:ObjOk X.prog X.w (upd H x o) h' x o):Inv X pins σ (upd H x o) { s with heap:=h',toks:=t' }:=I.un (Un.write c he k a) (I.hok.write c he k a new)
theorem Inv.pins_of (I:Inv X pins σ H s) (h:∀ p ∈ pins',s.heap.get? p.1=some p.2/\H p.1=none/\p.1 ≠ X.env.locals/\p.1 ∉ X.fs/\∀ v,p.2.data ≠ .cell v):Inv X pins' σ H s :=
 ⟨I.ok,I.os,I.bare,I.base,I.loc,I.cell,I.free,I.freeC,fun p a=>(BH.mp a).elim (fun z=>I.pin p (BC _ z)) (h p),I.hok,I.len⟩
theorem pM {N:List Str} (d:N.Nodup) {i j:Nat} (a:N[i]?=some x) (b:N[j]?=some x):i=j:=by
 obtain ⟨h1,e1⟩:=BK.mp a
 obtain ⟨h2,c⟩:=BK.mp b
 exact (List.getElem_inj d).mp (e1.trans c.symm)
theorem ni {i:Nat} (I:Inv X pins σ H s) (hN:X.N.Nodup) (hi:X.N[i]?=some x) (t:Loc X.env.scope x) (r:RelV v u) (h:∀ s',Inv X pins (σ.set i (some v)) H s'->(∃ a,Heap.SameBut a s.heap s'.heap/\(a=X.env.locals\/X.env.cells.lookup x=some a))->Q () s') (hf:X.fn x=true\/X.env.scope.names.lookup x=some .local:=by first | exact .inl rfl | exact .inr rfl | assumption):wpAny M A (storeName X.env x u) Q E s:=by
 obtain ⟨m,W,hl⟩:=id I.loc
 have L:(X.env.scope.kind == .class || (X.env.scope.kind == .module && X.env.locals != X.env.globals))=false:=by rw [I.ok.kind];rfl
 have hiσ:i < σ.length:=by rw [I.len];exact (BK.mp hi).1
 have cne:=I.cne
 have g:∀ {a:Addr} {h':Heap},(∃ o,s.heap.get? a=some o/\H a=none)->Heap.SameBut a s.heap h'->HOk X.prog X.w H h':=fun {a h'} ha f b ob e=>by
  obtain ⟨_,_,B⟩:=ha
  refine (I.hok b ob e).stay (fun c S l q=>(f.2 c ?_).trans q) (fun _ q=>q) fun _ _ q=>q
  rintro rfl
  rcases l with rfl | l
  ·rw [B] at e;cases e
  ·rw [B] at l;cases l
 rcases t with D | D
 ·refine wpAny_storeName_local D W (fun h' V f=>?_) L
  obtain ⟨oL,_,_,U,_⟩:=id W
  refine h _ ⟨I.ok,I.os,I.bare,⟨fun b o e n F t=>?_,fun b o e n F t=>?_,I.base.free,fun b o e t=>?_,I.base.tups,I.base.frzs,I.base.tbls⟩,⟨_,V,fun j y v' e1 C Y=>?_⟩,fun y c e=>?_,I.free,I.freeC,fun p hp=>?_,g ⟨oL,U,I.free⟩ f,by simpa using I.len⟩ ⟨_,f,.inl rfl⟩
  ·exact (f.2 b (BR (BW (BG e) I.ok.above))).trans (I.base.keep b o e n F t)
  ·obtain ⟨sl,e1⟩:=I.base.slot b o e n F t
   exact ⟨sl,(f.2 b (BR (BW (BG e) I.ok.above))).trans e1⟩
  ·obtain ⟨o',e1⟩:=I.base.there b o e t
   exact ⟨o',(f.2 b (BR (BW (BG e) I.ok.above))).trans e1⟩
  ·by_cases G:j=i
   ·subst G
    rw [hi] at e1;cases e1
    rw [List.getElem?_set_self hiσ] at C
    cases C
    exact ⟨u,r,.inl ⟨D,by simp⟩⟩
   ·rw [List.getElem?_set_ne (Ne.symm G)] at C
    obtain ⟨Z,r',q⟩:=hl j y v' e1 C Y
    refine ⟨Z,r',?_⟩
    rcases q with ⟨k,e⟩ | ⟨k,c,e,z⟩
    ·refine .inl ⟨k,?_⟩
     have:y ≠ x:=fun e=>G (pM hN e1 (e ▸ hi))
     simp [this,e]
    ·exact .inr ⟨k,c,e,z.sameBut f (cne y c e)⟩
  ·obtain ⟨S,z⟩:=I.cell y c e
   exact ⟨S,z.sameBut f (cne y c e)⟩
  ·obtain ⟨e,n,ne,nf,d⟩:=I.pin p hp
   exact ⟨(f.2 p.1 ne).trans e,n,ne,nf,d⟩
 ·have J:X.fn x=true:=by
   rcases hf with z | z
   ·exact z
   ·rw [z] at D;cases D
  obtain ⟨c,l⟩:=I.ok.has x (.inl D)
  obtain ⟨S,z⟩:=I.cell x c l
  refine wpAny_storeName_cell I.ok.kind D l z (fun h' O f=>?_)
  obtain ⟨oc,P,K⟩:=id z
  refine h { s with heap:=h' } ⟨I.ok,I.os,I.bare,⟨fun b o e n F t=>?_,fun b o e n F t=>?_,I.base.free,fun b o e t=>?_,I.base.tups,I.base.frzs,I.base.tbls⟩,⟨m,W.sameBut f (Ne.symm (cne x c l)),fun j y v' e1 C Y=>?_⟩,fun y T e=>?_,I.free,I.freeC,fun p hp=>?_,g ⟨oc,P,I.freeC x c l⟩ f,by simpa using I.len⟩ ⟨c,f,.inr l⟩
  ·exact (f.2 b (BR (BW (BG e) (I.ok.cab x c J l)))).trans (I.base.keep b o e n F t)
  ·obtain ⟨sl,e1⟩:=I.base.slot b o e n F t
   exact ⟨sl,(f.2 b (BR (BW (BG e) (I.ok.cab x c J l)))).trans e1⟩
  ·obtain ⟨o',e1⟩:=I.base.there b o e t
   exact ⟨o',(f.2 b (BR (BW (BG e) (I.ok.cab x c J l)))).trans e1⟩
  ·by_cases G:j=i
   ·subst G
    rw [hi] at e1;cases e1
    rw [List.getElem?_set_self hiσ] at C
    cases C
    exact ⟨u,r,.inr ⟨.inl D,c,l,O⟩⟩
   ·rw [List.getElem?_set_ne (Ne.symm G)] at C
    obtain ⟨Z,r',q⟩:=hl j y v' e1 C Y
    refine ⟨Z,r',?_⟩
    rcases q with q | ⟨k,T,e,z'⟩
    ·exact .inl q
    ·refine .inr ⟨k,T,e,z'.sameBut f ?_⟩
     rintro rfl
     exact G (pM hN e1 (I.ok.inj _ _ _ e l ▸ hi))
  ·by_cases R:T=c
   ·subst R;exact ⟨_,O⟩
   ·obtain ⟨w2,z2⟩:=I.cell y T e
    exact ⟨w2,z2.sameBut f R⟩
  ·obtain ⟨e,n,ne,nf,d⟩:=I.pin p hp
   refine ⟨(f.2 p.1 ?_).trans e,n,ne,nf,d⟩
   intro q
   rw [q,P] at e
   have q':oc=p.2:=Ch e
   exact d S (by rw [<- q'];exact K)
theorem ls {i:Nat} (I:Inv X pins σ H s) (c:X.N.Nodup) (hi:X.N[i]?=some x) (b:Loc X.env.scope x) (r:RelV v u) (h:∀ s',Inv X pins (σ.set i (some v)) H s'->Q () s') (hf:X.fn x=true\/X.env.scope.names.lookup x=some .local:=by first | exact .inl rfl | exact .inr rfl | assumption):wpAny M A (storeName X.env x u) Q E s :=
 ni I c hi b r (fun s' a _=>h s' a) hf
theorem Inv.call' (I:Inv X pins σ H s) (d:s'.os=s.os) (u:Un (frs X.stack) ch H H' s.heap s'.heap) (hok:HOk X.prog X.w H' s'.heap) (f:AllBare s'.gens) (a:∀ b ∈ ch,(b ∈ X.ex\/X.s₀.heap.objs.size<=b)/\b ≠ X.env.locals/\(∀ x c,X.env.cells.lookup x=some c->c ≠ b)/\∀ p ∈ X.pn ++ pins,p.1 ≠ b):Inv X pins σ H' s':=by
 obtain ⟨h',g',d',t',o'⟩:=s'
 have e:o'=s.os:=d
 subst e
 exact I.call (g':=g') (t':=t') (d':=d') u hok f a
end
abbrev XK:=Value->Option Addr->Hp->Prop
abbrev St:=List (Option V)
abbrev VK:=V->Hp->Prop
abbrev TE:=St->Hp->VK->Prop
abbrev TT:=St->Hp->(Bool->Hp->Prop)->Prop
abbrev TA:=St->Hp->(List V->Hp->Prop)->Prop
structure Ends where
 nx:St->Hp->Prop
 rt:VK
 bk:St->Hp->Prop:=fun _ _=>False
 ct:St->Hp->Prop:=fun _ _=>False
abbrev TS:=Ends->St->Hp->Prop
def EP (X:Cx) (pins:List (Addr × Obj)) (σ:St) (Q:VK) (u:Value) (s':Shared):Prop:=∃ v H',Inv X pins σ H' s'/\RelV v u/\Q v H'
def TP (X:Cx) (pins:List (Addr × Obj)) (σ:St) (Q:Bool->Hp->Prop) (b:Bool) (s':Shared):Prop:=∃ H',Inv X pins σ H' s'/\Q b H'
def AP (X:Cx) (pins:List (Addr × Obj)) (σ:St) (Q:List V->Hp->Prop) (us:List Value) (s':Shared):Prop:=∃ a H',Inv X pins σ H' s'/\Vals a us/\Q a H'
def SP (X:Cx) (pins:List (Addr × Obj)) (D:Ends) (f:Flow) (s':Shared):Prop :=
 match f with
 | .next=>∃ σ' H',Inv X pins σ' H' s'/\D.nx σ' H'
 | .brk=>∃ σ' H',Inv X pins σ' H' s'/\D.bk σ' H'
 | .cont=>∃ σ' H',Inv X pins σ' H' s'/\D.ct σ' H'
 | .ret u=>∃ v σ' H',Inv X pins σ' H' s'/\RelV v u/\D.rt v H'
def PE (X:Cx) (e:Expr) (t:TE):Prop :=
 ∀ (pins:List (Addr × Obj)) (s:Shared) (σ:St) (H:Hp) (Q:VK),Inv X pins σ H s->t σ H Q->wpAny (model X.prog X.w) X.A (eval e X.env) (EP X pins σ Q) X.xe s
def PT (X:Cx) (e:Expr) (t:TT):Prop :=
 ∀ (pins:List (Addr × Obj)) (s:Shared) (σ:St) (H:Hp) (Q:Bool->Hp->Prop),Inv X pins σ H s->t σ H Q->wpAny (model X.prog X.w) X.A (isTrue e X.env (eval e X.env)) (TP X pins σ Q) X.xe s
def PW (X:Cx) (e:Expr) (t:TT):Prop :=
 ∀ (whole:Sem Value) (pins:List (Addr × Obj)) (s:Shared) (σ:St) (H:Hp) (Q:Bool->Hp->Prop),Inv X pins σ H s->t σ H Q->wpAny (model X.prog X.w) X.A (isTrue e X.env whole) (TP X pins σ Q) X.xe s
theorem PW.pt (h:PW X e t):PT X e t:=h _
def PA (X:Cx) (es:List Expr) (t:TA):Prop :=
 ∀ (pos:Pos) (pins:List (Addr × Obj)) (s:Shared) (σ:St) (H:Hp) (Q:List V->Hp->Prop),Inv X pins σ H s->t σ H Q->wpAny (model X.prog X.w) X.A (spliced (backTo pos (starEach es X.env))) (AP X pins σ Q) X.xe s
def PS (X:Cx) (st:Stmt) (t:TS):Prop :=
 ∀ (pins:List (Addr × Obj)) (s:Shared) (σ:St) (H:Hp) (D:Ends),Inv X pins σ H s->t D σ H->wpAny (model X.prog X.w) X.A (exec st X.env) (SP X pins D) X.xe s
def PSs (X:Cx) (st:List Stmt) (t:TS):Prop :=
 ∀ (pins:List (Addr × Obj)) (s:Shared) (σ:St) (H:Hp) (D:Ends),Inv X pins σ H s->t D σ H->wpAny (model X.prog X.w) X.A (execs st X.env) (SP X pins D) X.xe s
theorem thn (h:wpAny M A t Q E s) (b:∀ a s,Q a s->Q' a s):wpAny M A t Q' E s:=wpAny_mono h b fun _ _ x=>x
end L2
namespace L2
open PySem PySem.Spec PyProof.Rows
section
variable {X:Cx}
theorem bin (n:PE X a ta) (l:PE X b tb) {R:V->V->Hp->Prop} (I:Inv X pins σ H s) (h:ta σ H fun x H1=>tb σ H1 fun y H2=>R x y H2) {Q:α->Shared->Prop} {f:Value->Value->Sem α} (hf:∀ v u s2 x y H2,Inv X pins σ H2 s2->RelV x v->RelV y u->R x y H2->wpAny (model X.prog X.w) X.A (f v u) Q X.xe s2) :
  wpAny (model X.prog X.w) X.A (eval a X.env) (fun v e=>wpAny (model X.prog X.w) X.A (eval b X.env) (fun u g=>wpAny (model X.prog X.w) X.A (f v u) Q X.xe g) X.xe e) X.xe s:=by
 refine thn (n pins s σ H _ I h) fun v s1 ⟨x,H1,k,c,i⟩=>?_
 refine thn (l pins s1 σ H1 _ k i) fun u s2 ⟨y,H2,j,d,m⟩=>?_
 exact hf v u s2 x y H2 j c d m
def tw (i:Nat):TE:=fun σ H Q=>∃ v,σ[i]?=some (some v)/\Q v H
def tC (v:V):TE:=fun _ H Q=>Q v H
theorem ol {i:Nat} (j:X.N[i]?=some x) (n:Vis X.env.scope x) (hd:(x == ("__debug__":Str))=false:=by decide) (d:(x == ("__classdict__":Str))=false:=by decide):PE X (.Name x pos) (tw i):=by
 intro pins s σ H Q I h
 obtain ⟨v,e,h⟩:=h
 obtain ⟨m,k,g⟩:=I.loc
 obtain ⟨u,r,l⟩:=g i x v j e n
 have fin:EP X pins σ Q u s:=⟨v,H,I,r,h⟩
 rcases l with ⟨b,hm⟩ | ⟨b,c,f,a⟩
 ·exact wpAny_Name (wpAny_loadName_local I.ok.kind b k hm fin) hd
 ·rcases b with b | b
  ·exact wpAny_Name (wpAny_loadName_cell I.ok.kind b f a fin) hd
  ·exact wpAny_Name (wpAny_loadName_free I.ok.kind b f a fin d) hd
theorem Ay:PE X (.Constant (.int i) j pos) (tC (.int i)):=fun _ _ _ H _ I h=>wpAny_Constant_int ⟨.int i,H,I.tok _,⟨_,rfl⟩,h⟩
theorem pe_bl:PE X (.Constant (.bool b) j pos) (tC (.bl b)):=fun _ _ _ H _ I h=>Constant_bool ⟨.bl b,H,I,rfl,h⟩
theorem Aw:PE X (.Constant .none j pos) (tC .non):=fun _ _ _ H _ I h=>Constant_none ⟨.non,H,I,rfl,h⟩
theorem At:PE X (.Constant (.str x) j pos) (tC (.str x)):=fun _ _ _ H _ I h=>Calls.Constant_str ⟨.str x,H,I.tok _,⟨_,rfl⟩,h⟩
def Gl (X:Cx) (x:Str):Prop:=X.env.kindOf x=some .globalImplicit
theorem gz (I:Inv X pins σ H s) (a:Gl X x) (hm:X.mg x=some u) (h:Q u s) (hd:(x == ("__debug__":Str))=false:=by decide):wpAny (model X.prog X.w) X.A (eval (.Name x pos) X.env) Q E s :=
 Calls.Name_function_global I.ok.kind a (Calls.loadGlobal_global (by rw [I.ok.glob];exact I.mod.glob.keeps I.bk) hm h) hd
theorem jP (I:Inv X pins σ H s) (b:Gl X x) (hm:X.mg x=none) (a:bootBuiltins x=some u) (h:Q u s) (c:x ≠ "__name__":=by decide) (hd:(x == ("__debug__":Str))=false:=by decide):wpAny (model X.prog X.w) X.A (eval (.Name x pos) X.env) Q E s:=by
 obtain ⟨mb,h1,h2⟩:=I.mod.blt
 exact Calls.Name_function_global I.ok.kind b (Calls.loadGlobal_builtin (by rw [I.ok.glob];exact I.mod.glob.keeps I.bk) hm (by rw [I.ok.blt];exact h1.keeps I.bk) ((h2 x c).trans a) h) hd
theorem sy (a:Gl X x) (hm:X.mg x=some u) (r:RelV v u) (hd:(x == ("__debug__":Str))=false:=by decide):PE X (.Name x pos) (tC v) :=
 fun _ _ _ H _ I h=>gz I a hm ⟨v,H,I,r,h⟩ hd
theorem lf (b:Gl X x) (hm:X.mg x=none) (a:bootBuiltins x=some u) (r:RelV v u) (c:x ≠ "__name__":=by decide) (hd:(x == ("__debug__":Str))=false:=by decide):PE X (.Name x pos) (tC v) :=
 fun _ _ _ H _ I h=>jP I b hm a ⟨v,H,I,r,h⟩ c hd
variable {a b:Expr} {ta tb:TE} {pos:Pos}
def PC (X:Cx) (op:CmpOp) (a b:Expr) (t:TE):Prop :=
 ∀ (pins:List (Addr × Obj)) (s:Shared) (σ:St) (H:Hp) (Q:VK),Inv X pins σ H s->t σ H Q ->
  wpAny (model X.prog X.w) X.A (eval a X.env) (fun v c=>wpAny (model X.prog X.w) X.A (eval b X.env) (fun u d=>wpAny (model X.prog X.w) X.A (compareOp op v u) (EP X pins σ Q) X.xe d) X.xe c) X.xe s
def tB (t:TE):TT:=fun σ H Q=>t σ H fun x H1=>∃ c,x=.bl c/\Q c H1
theorem Ak (h:PE X e t) (he:∀ whole,isTrue e X.env whole=(do let v <- whole;standAt e.pos;holding [v] (truthy v)):=by intro _;rfl):PT X e (tB t):=by
 intro pins s σ H Q I hw
 refine isTrue_plain (thn (h pins s σ H _ I hw) fun v s1 ⟨x,H1,c,a,b⟩=>?_) (he _)
 obtain ⟨d,rfl,q⟩:=b
 cases a
 exact Ce ⟨H1,c,q⟩
variable {tA tB':TT} {jE:List Expr}
def tOr (t u:TT):TT:=fun σ H Q=>t σ H fun c H1=>if c=true then Q true H1 else u σ H1 Q
def tNot (t:TT):TT:=fun σ H Q=>t σ H fun c H1=>Q (!c) H1
theorem Aj (b:PT X a tA):PW X (.BoolOp .Or [a] pos) tA:=by
 intro d pins s σ H Q I h
 refine isTrue_or (thn (b pins s σ H Q I h) fun c s1 e=>?_)
 cases c with
 | false=>exact isTrue_or_nil e
 | true=>exact e
theorem pw_or (i:PT X a tA) (g:PW X (.BoolOp .Or (b :: jE) pos) tB'):PW X (.BoolOp .Or (a :: b :: jE) pos) (tOr tA tB'):=by
 intro f pins s σ H Q I h
 refine isTrue_or (thn (i pins s σ H _ I h) fun c s1 ⟨H1,d,e⟩=>?_)
 cases c with
 | true=>exact ⟨H1,d,e⟩
 | false=>exact g f pins s1 σ H1 Q d e
theorem Al (b:PT X a tA):PT X (.UnaryOp .Not a pos) (tNot tA):=by
 intro pins s σ H Q I h
 exact isTrue_not (b pins s σ H (fun c H1=>Q (!c) H1) I h)
def yV (ta tb:TE):TE:=fun σ H Q=>ta σ H fun x H1=>∃ c,x=.bl c/\if c=true then tb σ H1 Q else Q (.bl false) H1
def yQ (ta:TE):TE:=fun σ H Q=>ta σ H fun x H1=>∃ c,x=.bl c/\Q (.bl (!c)) H1
theorem Au (h:PE X a t):PE X (.BoolOp op [a] pos) t:=fun pins s σ H Q I hw=>BoolOp_one (h pins s σ H Q I hw)
theorem AB (i:PE X a ta) (g:PE X (.BoolOp .And (b :: jE) pos) tb):PE X (.BoolOp .And (a :: b :: jE) pos) (yV ta tb):=by
 intro pins s σ H Q I h
 refine BoolOp_and (thn (i pins s σ H _ I h) fun v s1 ⟨x,H1,e,f,d⟩=>?_)
 obtain ⟨c,rfl,d⟩:=d
 cases f
 refine Ce ?_
 cases c with
 | true=>exact g pins s1 σ H1 Q e d
 | false=>exact ⟨.bl false,H1,e,rfl,d⟩
theorem Av (f:PE X a ta):PE X (.UnaryOp .Not a pos) (yQ ta):=by
 intro pins s σ H Q I h
 refine UnaryOp_ (thn (f pins s σ H _ I h) fun v s1 ⟨x,H1,d,e,b⟩=>?_)
 obtain ⟨c,rfl,b⟩:=b
 cases e
 exact not_of (Ce ⟨.bl (!c),H1,d,rfl,b⟩)
end
end L2
namespace L2
open PySem PySem.Spec PyProof.Rows
def SqL (K:FG) (H:Hp) (a:Addr) (xs:List V):Prop :=
 Rd H a (.lst xs) \/
  ∃ (o:Obj) (its:Array Value) (n:Nat),K.lookup a=some o/\o.cls=.type "list"/\o.dict=none/\o.data=.seq its n/\its.size<=sizeLine/\Vals xs its.toList
def SqT (K:FG) (H:Hp) (a:Addr) (xs:List V):Prop :=
 Rd H a (.tup xs) \/
  ∃ (o:Obj) (its:Array Value) (n:Nat),K.lookup a=some o/\o.cls=.type "tuple"/\o.data=.seq its n/\its.size<=sizeLine/\Vals xs its.toList
def absV:Value->Option V
 | .none=>some .non
 | .bool b=>some (.bl b)
 | .int i _=>some (.int i)
 | .str x _=>some (.str x)
 | .bytes b _=>some (.byt b)
 | .float b _=>some (.flt b)
 | .ref a=>some (.ref a)
 | .type n=>some (.ty n)
 | _=>none
theorem RelV.abs (r:RelV x u):absV u=some x:=by
 cases x with
 | non=>cases r;rfl
 | bl _=>cases r;rfl
 | int _=>obtain ⟨t,rfl⟩:=r;rfl
 | str _=>obtain ⟨t,rfl⟩:=r;rfl
 | byt _=>obtain ⟨t,rfl⟩:=r;rfl
 | flt _=>obtain ⟨t,rfl⟩:=r;rfl
 | ref _=>cases r;rfl
 | ty _=>cases r;rfl
theorem RelV.inj (r:RelV x u) (q:RelV y u):x=y:=Ch (r.abs.symm.trans q.abs)
theorem Vals.inj:∀ {xs ys:List V} {us:List Value},Vals xs us->Vals ys us->xs=ys
 | _,_,_,.nil,.nil=>rfl
 | _,_,_,.cons r t,.cons r' t'=>by rw [r.inj r',Vals.inj t t']
section
variable {X:Cx} {pins:List (Addr × Obj)} {σ:St} {H:Hp} {s:Shared} {a:Addr} {xs ys:List V}
theorem SqL.of {K:FG} (h:H a=some (.lst xs)):SqL K H a xs:=.inl (.inl h)
theorem SqT.of {K:FG} (h:H a=some (.tup xs)):SqT K H a xs:=.inl (.inl h)
theorem Inv.list (I:Inv X pins σ H s) (h:SqL X.K H a xs):∃ its:List Value,Vals xs its/\PlainL s.heap a its.toArray/\xs.length<=sizeLine:=by
 rcases h with h | ⟨o,its,n,d,c,hd,b,hz,r⟩
 ·obtain ⟨z,its,n,r,e⟩:=h.ok I.hok
  exact ⟨its,r,⟨_,n,e,rfl,rfl,rfl⟩,z⟩
 ·refine ⟨its.toList,r,⟨o,n,I.kIn a o d,c,hd,by simpa using b⟩,?_⟩
  have e:=r.length
  simp only [Array.length_toList] at e
  omega
theorem Inv.tuple (I:Inv X pins σ H s) (h:SqT X.K H a xs):∃ its:List Value,Vals xs its/\IsTup s.heap a its.toArray/\xs.length<=sizeLine:=by
 rcases h with h | ⟨o,its,n,d,c,b,hz,r⟩
 ·obtain ⟨z,its,r,p⟩:=h.ok I.hok
  exact ⟨its,r,p.tup,z⟩
 ·refine ⟨its.toList,r,⟨o,I.kIn a o d,c,n,by simpa using b⟩,?_⟩
  have e:=r.length
  simp only [Array.length_toList] at e
  omega
theorem Inv.list_inj (I:Inv X pins σ H s) (h:SqL X.K H a xs) (h':SqL X.K H a ys):xs=ys:=by
 obtain ⟨its,r,⟨o,n,e,_,_,d⟩,_⟩:=I.list h
 obtain ⟨its',c,⟨o',f,b,_,_,d'⟩,_⟩:=I.list h'
 rw [e] at b;cases b
 rw [d] at d'
 injection d' with d1 _
 have:its=its':=by simpa using congrArg Array.toList d1
 subst this
 exact r.inj c
theorem Inv.tuple_inj (I:Inv X pins σ H s) (h:SqT X.K H a xs) (h':SqT X.K H a ys):xs=ys:=by
 obtain ⟨its,r,⟨o,e,_,n,d⟩,_⟩:=I.tuple h
 obtain ⟨its',c,⟨o',b,_,f,d'⟩,_⟩:=I.tuple h'
 rw [e] at b;cases b
 rw [d] at d'
 injection d' with d1 _
 have:its=its':=by simpa using congrArg Array.toList d1
 subst this
 exact r.inj c
end
abbrev Cx.wish (X:Cx) (E:Value->Shared->Prop):Cx:={ X with xe:=E }
abbrev Cx.nox (X:Cx):Cx:=X.wish fun _ _=>False
theorem Cx.Ok.wish {X:Cx} (ok:X.Ok) (E:Value->Shared->Prop):(X.wish E).Ok :=
 ⟨ok.mod,ok.kind,ok.glob,ok.blt,ok.above,ok.inj,ok.has,ok.cab,ok.hd,ok.frames,ok.stk,ok.exf,ok.bs,ok.bsz,ok.noex,ok.exfs,ok.funs,ok.frf⟩
theorem Cx.Ok.unwish {X:Cx} (ok:(X.wish E).Ok):X.Ok :=
 ⟨ok.mod,ok.kind,ok.glob,ok.blt,ok.above,ok.inj,ok.has,ok.cab,ok.hd,ok.frames,ok.stk,ok.exf,ok.bs,ok.bsz,ok.noex,ok.exfs,ok.funs,ok.frf⟩
section
variable {X:Cx} {pins:List (Addr × Obj)} {σ:St} {H:Hp} {s:Shared} {E:Value->Shared->Prop}
theorem Inv.wish (I:Inv X pins σ H s) (E:Value->Shared->Prop):Inv (X.wish E) pins σ H s:=⟨I.ok.wish E,I.os,I.bare,I.base,I.loc,I.cell,I.free,I.freeC,I.pin,I.hok,I.len⟩
theorem Inv.unwish (I:Inv (X.wish E) pins σ H s):Inv X pins σ H s:=⟨I.ok.unwish,I.os,I.bare,I.base,I.loc,I.cell,I.free,I.freeC,I.pin,I.hok,I.len⟩
theorem SP.unwish (h:SP (X.wish E) pins D f s'):SP X pins D f s':=by
 cases f with
 | next=>obtain ⟨σ',H',I,q⟩:=h;exact ⟨σ',H',I.unwish,q⟩
 | brk=>obtain ⟨σ',H',I,q⟩:=h;exact ⟨σ',H',I.unwish,q⟩
 | cont=>obtain ⟨σ',H',I,q⟩:=h;exact ⟨σ',H',I.unwish,q⟩
 | ret u=>obtain ⟨v,σ',H',I,r,q⟩:=h;exact ⟨v,σ',H',I.unwish,r,q⟩
theorem PSs.nox {st:List Stmt} (h:PSs X.nox st t):PSs X st t:=fun pins s σ H D I hw =>
 wpAny_mono (h pins s σ H D (I.wish _) hw) (fun _ _ q=>q.unwish) fun _ _ z=>False.elim z
end
section
variable {X:Cx} {st:Stmt} {jE:List Stmt} {t u:TS} {e:Expr} {te:TE} {pos:Pos}
def yR:TS:=fun D σ H=>D.nx σ H
def zx (t u:TS):TS:=fun D σ H=>t { D with nx:=u D } σ H
theorem xN:PSs X [] yR:=fun _ _ σ H _ I h=>wpAny_execs_nil ⟨σ,H,I,h⟩
theorem pJ (h1:PS X st t) (h2:PSs X jE u):PSs X (st :: jE) (zx t u):=by
 intro pins s σ H D I h
 refine wpAny_execs_cons (thn (h1 pins s σ H { D with nx:=u D } I h) fun f s1 q=>?_)
 cases f with
 | next =>
  obtain ⟨σ',H',a,q⟩:=q
  exact h2 pins s1 σ' H' D a q
 | ret v=>exact q
 | brk=>exact q
 | cont=>exact q
theorem so (h1:PS X st t):PSs X [st] t:=by
 intro pins s σ H D I h
 refine wpAny_execs_cons (thn (h1 pins s σ H D I h) fun f s1 q=>?_)
 cases f with
 | next=>exact wpAny_execs_nil q
 | ret v=>exact q
 | brk=>exact q
 | cont=>exact q
theorem Inv.quiet (I:Inv X pins σ H s):interactive X.env=false:=by simp [interactive,I.ok.kind]
def yS (te:TE):TS:=fun D σ H=>te σ H fun _ H1=>D.nx σ H1
theorem xO (he:PE X e te) (c:swapsWith e none pos.line X.env=pure false:=by rfl):PS X (.Expr e pos) (yS te):=by
 intro pins s σ H D I h
 exact wpAny_Expr_any (thn (he pins s σ H _ I h) fun v s1 ⟨x,H1,a,d,b⟩=>⟨σ,H1,a,b⟩) I.quiet c
def tRet (te:TE):TS:=fun D σ H=>te σ H D.rt
theorem An (he:PE X e te):PS X (.Return (some e) pos) (tRet te):=by
 intro pins s σ H D I h
 exact wpAny_Return_some (thn (he pins s σ H _ I h) fun v s1 ⟨x,H1,a,b,c⟩=>⟨x,σ,H1,a,b,c⟩)
def tIfS (c:TT) (t u:TS):TS:=fun D σ H=>c σ H fun b H1=>if b=true then t D σ H1 else u D σ H1
theorem ps_if (j:PT X c tc) (i:PSs X a t) (g:PSs X b u):PS X (.If c a b pos) (tIfS tc t u):=by
 intro pins s σ H D I h
 refine wpAny_If (thn (j pins s σ H _ I h) fun d s1 ⟨H1,e,f⟩=>?_)
 cases d with
 | true=>exact i pins s1 σ H1 D e f
 | false=>exact g pins s1 σ H1 D e f
end
abbrev TG:=V->St->Hp->(St->Hp->Prop)->Prop
abbrev TGs:=List V->St->Hp->(St->Hp->Prop)->Prop
def PG (X:Cx) (target:Expr) (t:TG):Prop :=
 ∀ (pins:List (Addr × Obj)) (s:Shared) (σ:St) (H:Hp) (v:V) (u:Value) (Q:St->Hp->Prop),Inv X pins σ H s->RelV v u->t v σ H Q ->
  wpAny (model X.prog X.w) X.A (assign target X.env u) (fun _ s'=>∃ σ' H',Inv X pins σ' H' s'/\Q σ' H') X.xe s
def PGs (X:Cx) (b:List Expr) (t:TGs):Prop :=
 ∀ (pins:List (Addr × Obj)) (s:Shared) (σ:St) (H:Hp) (a:List V) (us:List Value) (Q:St->Hp->Prop),Inv X pins σ H s->Vals a us->t a σ H Q ->
  wpAny (model X.prog X.w) X.A (assignInOrder ((assignEach b X.env).map (·.2)) us) (fun _ s'=>∃ σ' H',Inv X pins σ' H' s'/\Q σ' H') X.xe s
abbrev Bu:=V->V->V->Hp->(Hp->Prop)->Prop
def wQ (X:Cx) (t:Bu):Prop :=
 ∀ (pins:List (Addr × Obj)) (s:Shared) (σ:St) (H:Hp) (o i v:V) (a b u:Value) (Q:Hp->Prop),Inv X pins σ H s->RelV o a->RelV i b->RelV v u->t o i v H Q ->
  wpAny (model X.prog X.w) X.A (setItem a b u) (fun _ s'=>∃ H',Inv X pins σ H' s'/\Q H') X.xe s
section
variable {X:Cx} {pos:Pos}
def sK (i:Nat):TG:=fun v σ H Q=>Q (σ.set i (some v)) H
theorem lc {i:Nat} (a:X.N.Nodup) (hi:X.N[i]?=some x) (c:Loc X.env.scope x) (hf:X.fn x=true\/X.env.scope.names.lookup x=some .local:=by first | exact .inl rfl | exact .inr rfl | assumption):PG X (.Name x pos) (sK i):=by
 intro pins s σ H v u Q I r h
 exact wpAny_assign_Name (ls I a hi c r (fun s' b=>⟨_,H,b,h⟩) hf)
def gNil:TGs:=fun a σ H Q=>a=[]/\Q σ H
def zh (t:TG) (u:TGs):TGs:=fun a σ H Q=>∃ v r,a=v :: r/\t v σ H fun σ' H'=>u r σ' H' Q
theorem su:PGs X [] gNil:=by
 intro pins s σ H a us Q I r h
 obtain ⟨e,h⟩:=h
 subst e
 cases r
 exact assignInOrder_nil ⟨σ,H,I,h⟩
theorem lH (h1:PG X e t) (h2:PGs X es u) (b:(assignEach (e :: es) X.env).map (·.2)=assign e X.env :: (assignEach es X.env).map (·.2):=by rfl):PGs X (e :: es) (zh t u):=by
 intro pins s σ H f us Q I r h
 obtain ⟨v,d,e1,h⟩:=h
 subst e1
 cases r with
 | cons r rr =>
  rw [b]
  refine assignInOrder_cons (thn (h1 pins s σ H _ _ _ I r h) fun _ s1 ⟨σ1,H1,c,a⟩=>?_)
  exact h2 pins s1 σ1 H1 _ _ Q c rr a
def gTup (K:FG) (n:Nat) (t:TGs):TG:=fun v σ H Q=>∃ a xs,v=.ref a/\SqT K H a xs/\xs.length=n/\t xs σ H Q
theorem vw {k:Nat} {n:Nat} (i:X.calm=true) (h:PGs X es t) (g:(assignEach es X.env).length=n:=by rfl) (c:(assignEach es X.env).findIdx? (·.1)=none:=by rfl):PG X (.Tuple es k pos) (gTup X.K n t):=by
 intro pins s σ H v u Q I r hw
 obtain ⟨a,xs,e1,p,f,hw⟩:=hw
 subst e1
 cases r
 obtain ⟨its,d,j,hz⟩:=I.tuple p
 refine assign_Tuple_tuple (I.ok.hd i) j (by simp [g,<- f,d.length]) c fun h' m=>?_
 have l:Inv X pins σ H { s with heap:=h' }:=I.kept (t':=s.toks) fun b o e=>m b o (BR (BG e)) e
 exact h pins _ σ H xs _ Q l (by simpa using d) hw
def gSub (to a:TE) (t:Bu):TG:=fun v σ H Q=>to σ H fun o H1=>a σ H1 fun i H2=>t o i v H2 fun b=>Q σ b
theorem Aq (l:PE X o to) (hi:PE X i ti) (g:wQ X t) (p:∀ v,assign (.Subscript o i pos) X.env v=(do
   let a <- holding [v] (eval o X.env)
   let b <- holding [v,a] (eval i X.env)
   standAt pos
   holding [v,a,b] (setItem a b v)
   release [v,a,b] []):=by intro _;rfl):PG X (.Subscript o i pos) (gSub to ti t):=by
 intro pins s σ H v u Q I r h
 rw [p]
 refine Bv (Bx (thn (l pins s σ H _ I h) fun a s1 ⟨x,H1,k,c,f⟩=>?_))
 refine Bv (Bx (thn (hi pins s1 σ H1 _ k f) fun b s2 ⟨y,H2,j,d,n⟩=>?_))
 refine Bv (wpAny_standAt (Bv (Bx (thn (g pins s2 σ H2 x y v a b u _ j c d r n) fun _ s3 ⟨e,m,q⟩=>?_))))
 exact wpAny_release ⟨σ,e,m,q⟩
def uL (te:TE) (g:TG):TS:=fun D σ H=>te σ H fun x H1=>g x σ H1 D.nx
theorem vq (he:PE X e te) (f:PG X tg g) (c:swapsWithSole [tg] e pos.line X.env=pure false:=by rfl) (hw:swappedStores [tg] e X.env=pure none:=by rfl) (h1:(assignEach [tg] X.env).map (·.2)=[assign tg X.env]:=by rfl):PS X (.Assign [tg] e pos) (uL te g):=by
 intro pins s σ H D I h
 refine wpAny_Assign_stores (thn (he pins s σ H _ I h) fun v s1 ⟨x,H1,d,a,b⟩=>?_) c hw
 rw [h1]
 exact thn (f pins s1 σ H1 x v _ d a b) fun _ s2 q=>q
theorem Am {i:Nat} (c:X.N.Nodup) (hi:X.N[i]?=some x) (j:Loc X.env.scope x) (he:PE X e te) (d:swapsWith e (some (.Name x pos')) pos.line X.env=pure false:=by rfl) (hf:X.fn x=true\/X.env.scope.names.lookup x=some .local:=by first | exact .inl rfl | exact .inr rfl | assumption) :
  PS X (.Assign [.Name x pos'] e pos) (uL te (sK i)):=by
 intro pins s σ H D I h
 refine wpAny_Assign_Name (thn (he pins s σ H _ I h) fun v s1 ⟨y,H1,g,a,b⟩=>?_) d
 exact ls g c hi j a (fun s2 f=>⟨_,H1,f,b⟩) hf
end
section
variable {X:Cx} {pos:Pos}
def uF (c:TT) (tb:TS):TS:=fun D σ H=>∃ W:Nat->St->Hp->Prop,(∃ m,W m σ H)/\∀ m σ H,W m σ H ->
 c σ H fun b H1=>if b=true then ∃ N:St->Hp->Prop,(∀ σ' H',N σ' H'->∃ a,a < m/\W a σ' H')/\tb { D with nx:=N,ct:=N,bk:=D.nx } σ H1 else D.nx σ H1
theorem vn (o:PassesOwn (model X.prog X.w) X.A X.env X.xe) (r:PT X c tc) (q:PSs X body tb):PS X (.While c body [] pos) (uF tc tb):=by
 intro pins s σ H D I h
 obtain ⟨W,⟨m0,p⟩,turn⟩:=h
 refine wpAny_While (codeAny_whileLoop (fun n s'=>∃ σ' H',Inv X pins σ' H' s'/\W n σ' H') ?_ m0 ⟨σ,H,I,p⟩)
 rintro n s1 ⟨σ1,H1,t,u⟩
 refine wpAny_passesOwn o (thn (r pins s1 σ1 H1 _ t (turn n σ1 H1 u)) fun b s2 ⟨H2,m,d⟩=>?_)
 cases b with
 | true =>
  obtain ⟨N,l,d⟩:=d
  rw [if_pos rfl]
  refine wpAny_passesOwn o (thn (q pins s2 σ1 H2 _ m d) fun f s3 e=>?_)
  cases f with
  | next =>
   obtain ⟨σ3,a,i,g⟩:=e
   obtain ⟨k,hm,j⟩:=l σ3 a g
   exact ⟨k,hm,σ3,a,i,j⟩
  | cont =>
   obtain ⟨σ3,a,i,g⟩:=e
   obtain ⟨k,hm,j⟩:=l σ3 a g
   exact ⟨k,hm,σ3,a,i,j⟩
  | brk=>exact e
  | ret v=>exact e
 | false =>
  rw [if_neg BQ]
  exact wpAny_execs_nil ⟨σ1,H2,m,d⟩
end
structure It where
 go:Nat->Hp->Prop
 yld:Nat->Hp->V->Hp->Prop
 stop:Nat->Hp->Prop
def FpOk (X:Cx) (pins:List (Addr × Obj)) (H:Hp) (b:Addr):Prop :=
 H b=none/\b ≠ X.env.locals/\b ∉ X.fs/\(b ∈ X.ex\/X.s₀.heap.objs.size<=b)/\(∀ x c,X.env.cells.lookup x=some c->c ≠ b)/\∀ p ∈ X.pn ++ pins,p.1 ≠ b
theorem Inv.fpOk (I:Inv X pins σ H s) (a:s.heap.objs.size<=b) (f:H' b=none):FpOk X pins H' b:=by
 refine ⟨f,Nat.ne_of_gt (BW I.lt a),I.nofs a,.inr (Cf I.sz a),fun x c e z=>?_,fun p d z=>?_⟩
 ·obtain ⟨v,q⟩:=I.cell x c e
  exact absurd (BW q.lt (by rw [z];exact a)) (Nat.lt_irrefl _)
 ·exact absurd (BW (BG (I.pin p d).1) (by rw [z];exact a)) (Nat.lt_irrefl _)
structure Turn (P:Program) (w:World) (K:FG) (tg:Expr) (J:It) (fp:List Addr) (it:Addr) (tn:Nat->Heap->Prop):Prop where
 mem:it ∈ fp
 obj:∀ i h,tn i h->∀ b ∈ fp,∃ o,h.get? b=some o/\∀ v,o.data ≠ .cell v
 keep:∀ i h h',tn i h->(∀ b ∈ fp,∀ o,h.get? b=some o->h'.get? b=some o)->tn i h'
 item:∀ (X:Cx),X.prog=P->X.w=w->X.K=K->X.calm=true->∀ (i:Nat) (pins:List (Addr × Obj)) (s:Shared) (σ:St) (H:Hp) (E:Value->Shared->Prop),Inv X pins σ H s->(∀ b ∈ fp,FpOk X pins H b)->tn i s.heap->J.go i H ->
  wpAny (model P w) X.A (pyNext (.ref it)) (fun r s1=>∃ u,r=some u /\
   wpAny (model P w) X.A (letOwnedTupleGo tg (.ref it) u) (fun _ s2=>∃ x H',Inv X pins σ H' s2/\RelV x u/\J.yld i H x H'/\tn (i+1) s2.heap/\∀ b ∈ fp,H' b=none) E s1) E s
 done:∀ (X:Cx),X.prog=P->X.w=w->X.K=K->X.calm=true->∀ (i:Nat) (pins:List (Addr × Obj)) (s:Shared) (σ:St) (H:Hp) (E:Value->Shared->Prop),Inv X pins σ H s->(∀ b ∈ fp,FpOk X pins H b)->tn i s.heap->J.stop i H ->
  wpAny (model P w) X.A (pyNext (.ref it)) (fun r s1=>r=none/\Inv X pins σ H s1) E s
 self:∀ (A:Around) (i:Nat) (s:Shared) (Q:Value->Shared->Prop) (E:Value->Shared->Prop),tn i s.heap->Q (.ref it) s->wpAny (model P w) A (pyIter (.ref it)) Q E s
abbrev TI:=St->Hp->(It->Hp->Prop)->Prop
def PIE (X:Cx) (pins:List (Addr × Obj)) (σ:St) (tg:Expr) (R:It->Hp->Prop) (a:Value) (s2:Shared):Prop :=
 ∃ (it:Addr) (fp:List Addr) (c:Nat->Heap->Prop) (J:It) (H':Hp),a=.ref it/\Inv X pins σ H' s2/\Turn X.prog X.w X.K tg J fp it c/\c 0 s2.heap/\(∀ b ∈ fp,FpOk X pins H' b)/\R J H'
def PI (X:Cx) (tg iter:Expr) (a:TI):Prop :=
 ∀ (pins:List (Addr × Obj)) (s:Shared) (σ:St) (H:Hp) (R:It->Hp->Prop),Inv X pins σ H s->a σ H R ->
  wpAny (model X.prog X.w) X.A (eval iter X.env) (fun v s1=>wpAny (model X.prog X.w) X.A (pyIter v) (PIE X pins σ tg R) X.xe s1) X.xe s
theorem wl (b : s.heap.get? it = some o) (d : o.cls = .type n) (hd : o.data = .fields vs) (c : ["enumerate", "zip", "dict_itemiterator", "dict_reverseitemiterator", "odict_iterator", "itertools.zip_longest", "itertools.pairwise"].contains n = false) (a : Q () s) : wpAny M A (letOwnedTupleGo tg (.ref it) u) Q E s := by
  unfold letOwnedTupleGo
  cases tg <;> first
    | exact Bw a
    | (cases u <;> first
        | exact Bw a
        | (refine Bv (wpAny_load b ?_)
           rw [d, hd]
           show wpAny M A (if (["enumerate", "zip", "dict_itemiterator", "dict_reverseitemiterator", "odict_iterator", "itertools.zip_longest", "itertools.pairwise"].contains n && vs[0]? == some (rawInt _)) = true then _ else _) Q E s
           rw [if_neg (by intro h; rw [c, Bool.false_and] at h; cases h)]
           exact Bw a))
def Itl (K:FG) (a:Addr):It :=
 ⟨fun i H=>∃ xs x,SqL K H a xs/\xs[i]?=some x,fun i H x H'=>H'=H/\∀ xs,SqL K H a xs->xs[i]?=some x,fun i H=>∃ xs,SqL K H a xs/\xs.length<=i⟩
def Itt (K:FG) (a:Addr):It :=
 ⟨fun i H=>∃ xs x,SqT K H a xs/\xs[i]?=some x,fun i H x H'=>H'=H/\∀ xs,SqT K H a xs->xs[i]?=some x,fun i H=>∃ xs,SqT K H a xs/\xs.length<=i⟩
def Itr (lo:Int) (n:Nat):It:=⟨fun i _=>i < n,fun i H x H'=>H'=H/\x=.int (lo+i),fun i _=>n<=i⟩
theorem tq {P:Program} {w:World} {K:FG} {tg:Expr} (a it:Addr):Turn P w K tg (Itl K a) [it] it (fun i h=>h.IsListIter it a i) where
 mem:=by simp
 obj:=fun i h st b f=>by
  have e:b=it:=by simpa using f
  subst e
  obtain ⟨o,e,c,d⟩:=st
  exact ⟨o,e,fun v z=>by rw [d] at z;cases z⟩
 keep:=fun i h h' st k=>st.at fun o e=>k it (by simp) o e
 item:=by
  intro X r hw n A i pins s σ H E I hf st y
  subst r hw n
  obtain ⟨xs,x,j,m⟩:=y
  obtain ⟨its,l,p,hz⟩:=I.list j
  obtain ⟨u,hu,B⟩:=l.get m
  obtain ⟨f0,f1,f2,q,f4,t⟩:=hf it (by simp)
  refine wpAny_pyNext_list_item st p.isList (x:=u) (by simpa using hu) fun h' g sb=>?_
  have D:Inv X pins σ H { s with heap:=h' }:=I.turned (t':=s.toks) (fun b o f e=>(sb.2 b f).trans e) f0 f1 q f4 t
  obtain ⟨o,e,c,d⟩:=id g
  exact ⟨u,rfl,wl (s:={ s with heap:=h' }) e c d (by decide) ⟨x,H,D,B,⟨rfl,fun ys F=>by rw [I.list_inj F j];exact m⟩,g,fun b f=>(hf b f).1⟩⟩
 done:=by
  intro X r hw n A i pins s σ H E I hf st y
  subst r hw n
  obtain ⟨xs,j,m⟩:=y
  obtain ⟨its,l,p,hz⟩:=I.list j
  obtain ⟨f0,f1,f2,q,f4,t⟩:=hf it (by simp)
  have G:=l.length
  exact wpAny_pyNext_list_end (I.ok.hd A) st p.isList (by simp;omega) fun h' C=>⟨rfl,I.turned (t':=s.toks) (fun b o f e=>C b o f e) f0 f1 q f4 t⟩
 self:=fun _ _ _ _ _ st h=>wpAny_pyIter_listiter st h
theorem qA {P:Program} {w:World} {K:FG} {tg:Expr} (a it:Addr):Turn P w K tg (Itt K a) [it] it (fun i h=>h.IsTupleIter it a i) where
 mem:=by simp
 obj:=fun i h st b f=>by
  have e:b=it:=by simpa using f
  subst e
  obtain ⟨o,e,c,d⟩:=st
  exact ⟨o,e,fun v z=>by rw [d] at z;cases z⟩
 keep:=fun i h h' st k=>st.at fun o e=>k it (by simp) o e
 item:=by
  intro X r hw n A i pins s σ H E I hf st y
  subst r hw n
  obtain ⟨xs,x,j,m⟩:=y
  obtain ⟨its,l,p,hz⟩:=I.tuple j
  obtain ⟨u,hu,B⟩:=l.get m
  obtain ⟨f0,f1,f2,q,f4,t⟩:=hf it (by simp)
  refine wpAny_pyNext_tuple_item st (show s.heap.IsTuple a its.toArray from p) (x:=u) (by simpa using hu) fun h' g sb=>?_
  have D:Inv X pins σ H { s with heap:=h' }:=I.turned (t':=s.toks) (fun b o f e=>(sb.2 b f).trans e) f0 f1 q f4 t
  obtain ⟨o,e,c,d⟩:=id g
  exact ⟨u,rfl,wl (s:={ s with heap:=h' }) e c d (by decide) ⟨x,H,D,B,⟨rfl,fun ys F=>by rw [I.tuple_inj F j];exact m⟩,g,fun b f=>(hf b f).1⟩⟩
 done:=by
  intro X r hw n A i pins s σ H E I hf st y
  subst r hw n
  obtain ⟨xs,j,m⟩:=y
  obtain ⟨its,l,p,hz⟩:=I.tuple j
  obtain ⟨f0,f1,f2,q,f4,t⟩:=hf it (by simp)
  have G:=l.length
  exact wpAny_pyNext_tuple_end (I.ok.hd A) st (show s.heap.IsTuple a its.toArray from p) (by simp;omega) fun h' C=>⟨rfl,I.turned (t':=s.toks) (fun b o f e=>C b o f e) f0 f1 q f4 t⟩
 self:=fun _ _ _ _ _ st h=>wpAny_pyIter_tupleiter st h
theorem qB {P:Program} {w:World} {K:FG} {tg:Expr} (it:Addr) (lo:Int) (n:Nat):Turn P w K tg (Itr lo n) [it] it (fun i h=>IsRangeIter h it (lo+(i:Nat) * 1) ((n:Int) - (i:Nat)) 1) where
 mem:=by simp
 obj:=fun i h st b a=>by
  have e:b=it:=by simpa using a
  subst e
  exact ⟨_,st,fun v z=>by
   have q:Data.fields _=Data.cell v:=z
   cases q⟩
 keep:=fun i h h' st k=>k it (by simp) _ st
 item:=by
  intro X g hw d j i pins s σ H E I hf st m
  subst g hw d
  obtain ⟨f0,f1,f2,f,f4,l⟩:=hf it (by simp)
  have W:=Walks.range (prog:=X.prog) (w:=X.w) (I.ok.hd j) it lo 1 n
  refine W.item i s _ _ m st fun v h' tk x c p=>?_
  obtain ⟨t,rfl⟩:=x
  have u:Inv X pins σ H { s with heap:=h',toks:=tk }:=I.turned (fun b o a e=>p b o (by simpa using a) e) f0 f1 f f4 l
  refine ⟨_,rfl,wl (s:={ s with heap:=h',toks:=tk }) (n:="range_iterator") c rfl rfl (by decide) ⟨.int (lo+i),H,u,⟨t,?_⟩,⟨rfl,rfl⟩,c,fun b a=>(hf b a).1⟩⟩
  rw [Int.mul_one]
 done:=by
  intro X g hw d j i pins s σ H E I hf st m
  subst g hw d
  obtain ⟨f0,f1,f2,f,f4,l⟩:=hf it (by simp)
  exact wpAny_pyNext_range_end (I.ok.hd j) st (by have:n<=i:=m;omega) fun h' r=>⟨rfl,I.turned (t':=s.toks) (fun b o a e=>r b o a e) f0 f1 f f4 l⟩
 self:=fun _ _ _ _ _ st h=>wpAny_pyIter_rangeiter st h
end L2
namespace L2
open PySem PySem.Spec PyProof.Rows
section
variable {X:Cx} {tg:Expr}
theorem pG {lo hi:Int} {tk:Nat} (I:Inv X pins σ H s) (h1:-(2 ^ 62)<=lo) (h2:lo < 2 ^ 62) (h3:-(2 ^ 62)<=hi) (c:hi < 2 ^ 62) (q:R (Itr lo (hi - lo).toNat) H):wpAny (model X.prog X.w) X.A (pyIter (.ref s.heap.objs.size)) (PIE X pins σ tg R) E { s with heap:=s.heap.push { cls:=.type "range",data:=.fields #[.int lo t,.int hi u,.int 1 v] },toks:=tk }:=by
 refine wpAny_pyIter_range (IsRange.new ..) (small_one h1 h2 h3 c) ?_
 have a:Inv X pins σ H { s with heap:=s.heap.push { cls:=.type "range",data:=.fields #[.int lo t,.int hi u,.int 1 v] },toks:=tk }:=I.kept fun b o e=>BA _ e
 refine ⟨(s.heap.push { cls:=.type "range",data:=.fields #[.int lo t,.int hi u,.int 1 v] }).objs.size,[(s.heap.push { cls:=.type "range",data:=.fields #[.int lo t,.int hi u,.int 1 v] }).objs.size],_,_,H,rfl,
  a.kept (t':=tk) fun b o e=>BA _ e,qB _ lo (hi - lo).toNat,?_,fun b d=>?_,q⟩
 ·have e1:lo+((0:Nat):Int) * 1=lo:=by simp
  have f:(((hi - lo).toNat:Nat):Int) - ((0:Nat):Int)=Builtin.Range.rangeSize lo hi 1:=by rw [rangeSize_one];split <;> omega
  show IsRangeIter _ _ (lo+((0:Nat):Int) * 1) ((((hi - lo).toNat:Nat):Int) - ((0:Nat):Int)) 1
  rw [e1,f]
  exact BI _ rfl
 ·have e:b=(s.heap.push { cls:=.type "range",data:=.fields #[.int lo t,.int hi u,.int 1 v] }).objs.size:=by simpa using d
  subst e
  exact a.fpOk (BP _) (a.hok.fresh (BP _))
def zf (ta:TA):TI:=fun σ H R=>ta σ H fun a H1=>∃ j:Int,a=[.int j]/\-(2 ^ 62)<=j/\j < 2 ^ 62/\R (Itr 0 j.toNat) H1
def ze (ta:TA):TI:=fun σ H R=>ta σ H fun a H1=>∃ i j:Int,a=[.int i,.int j]/\(-(2 ^ 62)<=i/\i < 2 ^ 62/\-(2 ^ 62)<=j/\j < 2 ^ 62)/\R (Itr i (j - i).toNat) H1
theorem tQ (k:Gl X "range") (hm:X.mg "range"=none) (i:PA X [a] ta) (d:starEach [a] X.env=[(false,eval a X.env)]:=by rfl):PI X tg (.Call (.Name "range" p) [a] [] pos) (zf ta):=by
 intro pins s σ H R I h
 refine Call_ (jP I k hm boot_range (PyProof.Rows.callWith_type1 (thn (i pos pins s σ H _ I h) fun us s1 ⟨l,H1,f,c,b⟩=>?_) d rfl))
 obtain ⟨j,e,b,g,q⟩:=b
 subst e
 cases c with
 | cons r rr =>
  cases rr
  obtain ⟨t,rfl⟩:=r
  exact call_range_1 (pG f (by omega) (by omega) b g (by simpa using q))
theorem tO (u:Gl X "range") (hm:X.mg "range"=none) (n:PA X [a,b] ta) (k:starEach [a,b] X.env=[(false,eval a X.env),(false,eval b X.env)]:=by rfl) (c:starEach [b] X.env=[(false,eval b X.env)]:=by rfl) :
  PI X tg (.Call (.Name "range" p) [a,b] [] pos) (ze ta):=by
 intro pins s σ H R I h
 refine Call_ (jP I u hm boot_range (PyProof.Rows.callWith_type1 (thn (n pos pins s σ H _ I h) fun us s1 ⟨v,H1,l,f,d⟩=>?_) (by rw [k,c]) (by rw [c];rfl)))
 obtain ⟨i,j,e,⟨d,m,o,g⟩,q⟩:=d
 subst e
 cases f with
 | cons r rr =>
  cases rr with
  | cons r' rr =>
   cases rr
   obtain ⟨t,rfl⟩:=r
   obtain ⟨t',rfl⟩:=r'
   exact call_range_2 (pG l d m o g q)
def tFor (b:TI) (g:TG) (tb:TS):TS:=fun D σ H=>b σ H fun J H1=>∃ W:Nat->Nat->St->Hp->Prop,(∃ m,W 0 m σ H1)/\∀ i m σ H,W i m σ H ->
 (J.stop i H/\D.nx σ H)\/(J.go i H/\∃ N:St->Hp->Prop,(∀ σ' H',N σ' H'->∃ a,a < m/\W (i+1) a σ' H')/\∀ x H',J.yld i H x H'->g x σ H' fun σ2 H2=>tb { D with nx:=N,ct:=N,bk:=D.nx } σ2 H2)
def lG (fp:List Addr) (h:Heap):List (Addr × Obj):=fp.filterMap fun b=>(h.get? b).map fun o=>(b,o)
theorem fo (a:b ∈ fp) (e:h.get? b=some o):(b,o) ∈ lG fp h:=List.mem_filterMap.mpr ⟨b,a,by rw [e];rfl⟩
theorem tU (a:p ∈ lG fp h):p.1 ∈ fp/\h.get? p.1=some p.2:=by
 obtain ⟨b,c,e⟩:=List.mem_filterMap.mp a
 cases q:h.get? b with
 | none=>rw [q] at e;cases e
 | some o =>
  rw [q] at e
  have d:(b,o)=p:=Ch e
  subst d
  exact ⟨c,q⟩
theorem Inv.pinned (I:Inv X pins σ H s) (hf:∀ b ∈ fp,FpOk X pins H b) (f:∀ b ∈ fp,∃ o,s.heap.get? b=some o/\∀ v,o.data ≠ .cell v):Inv X (pins ++ lG fp s.heap) σ H s :=
 I.pins_of fun p g=>(BH.mp g).elim (fun z=>I.pin p (BD _ z)) fun z=>by
  obtain ⟨a,e⟩:=tU z
  obtain ⟨f0,f1,f2,_⟩:=hf p.1 a
  obtain ⟨o,c,d⟩:=f p.1 a
  rw [e] at c;cases c
  exact ⟨e,f0,f1,f2,d⟩
theorem Inv.unpinned (I:Inv X (pins ++ pl) σ H s):Inv X pins σ H s:=I.pins_of fun p a=>I.pin p (BD _ (BC _ a))
theorem Ao (z:PassesOwn (model X.prog X.w) X.A X.env X.xe) (O:X.calm=true) (hi:PI X tg iter wi) (hg:PG X tg g) (k:PSs X body tb) (hs:∀ x,foldedSetIterable iter X.env x=pure x:=by intro _;rfl):PS X (.For tg iter body [] pos) (tFor wi g tb):=by
 intro pins s σ H D I h
 refine wpAny_For (thn (hi pins s σ H _ I h) fun v s1 h1=>thn h1 fun ae s2 h2=>?_) hs
 obtain ⟨it,fp,P,J,H2,e,V,T,F,f2,W,⟨m0,w0⟩,turn⟩:=h2
 subst e
 have j:∀ {H':Hp},(∀ b ∈ fp,H' b=none)->∀ b ∈ fp,FpOk X pins H' b:=fun Y b k=>⟨Y b k,(f2 b k).2⟩
 refine codeAny_forLoop_any (fun n s'=>∃ i σ' H',Inv X pins σ' H' s'/\P i s'.heap/\(∀ b ∈ fp,H' b=none)/\W i n σ' H') ?_ m0 ⟨0,σ,H2,V,F,fun b k=>(f2 b k).1,w0⟩
 rintro n s3 ⟨i,σ3,B,L,t,y,w3⟩
 rcases turn i n σ3 B w3 with ⟨stop,qn⟩ | ⟨go,N,S,step⟩
 ·refine wpAny_passesOwn z (thn (T.done X rfl rfl rfl O i pins s3 σ3 B X.xe L (j y) t stop) fun r s4 ⟨K,I4⟩=>?_)
  subst K
  exact wpAny_execs_nil ⟨σ3,B,I4,qn⟩
 ·refine wpAny_passesOwn z (thn (T.item X rfl rfl rfl O i pins s3 σ3 B X.xe L (j y) t go) fun r s4 ⟨u,K,R⟩=>?_)
  subst K
  refine wpAny_passesOwn z (thn R fun _ s5 ⟨x,M,I5,r5,y5,p,G⟩=>?_)
  have E:=I5.pinned (j G) (T.obj _ _ p)
  refine wpAny_passesOwn z (thn (hg _ s5 σ3 M x u _ E r5 (step x M y5)) fun _ U ⟨σ6,Z,I6,Q⟩=>?_)
  refine wpAny_passesOwn z (thn (k _ U σ6 Z _ I6 Q) fun f C l=>?_)
  have again:∀ {σ7:St} {a:Hp},Inv X (pins ++ lG fp s5.heap) σ7 a C->N σ7 a->∃ m,m < n/\∃ i σ' H',Inv X pins σ' H' C/\P i C.heap/\(∀ b ∈ fp,H' b=none)/\W i m σ' H':=fun {σ7 a} c q=>by
   obtain ⟨m',hm,w7⟩:=S σ7 a q
   refine ⟨m',hm,i+1,σ7,a,c.unpinned,T.keep _ _ _ p fun b k o e=>(c.pin (b,o) (BD _ (BD _ (fo k e)))).1,fun b k=>?_,w7⟩
   obtain ⟨o,e,d⟩:=T.obj _ _ p b k
   exact (c.pin (b,o) (BD _ (BD _ (fo k e)))).2.1
  cases f with
  | next=>obtain ⟨σ7,a,c,q⟩:=l;exact again c q
  | cont=>obtain ⟨σ7,a,c,q⟩:=l;exact again c q
  | brk=>obtain ⟨σ7,a,c,l⟩:=l;exact ⟨σ7,a,c.unpinned,l⟩
  | ret v=>obtain ⟨x7,σ7,a,c,r7,l⟩:=l;exact ⟨x7,σ7,a,c.unpinned,r7,l⟩
end
end L2
namespace L2
open PySem PySem.Spec PyProof.Rows
abbrev R2:=V->V->Hp->VK->Prop
def OpR (X:Cx) (f:Value->Value->Sem Value) (r:R2):Prop :=
 ∀ (pins:List (Addr × Obj)) (s:Shared) (σ:St) (H:Hp) (x y:V) (v u:Value) (Q:VK),Inv X pins σ H s->RelV x v->RelV y u->r x y H Q ->
  wpAny (model X.prog X.w) X.A (f v u) (EP X pins σ Q) X.xe s
def UnR (X:Cx) (f:Value->Sem Value) (r:V->Hp->VK->Prop):Prop :=
 ∀ (pins:List (Addr × Obj)) (s:Shared) (σ:St) (H:Hp) (x:V) (v:Value) (Q:VK),Inv X pins σ H s->RelV x v->r x H Q ->
  wpAny (model X.prog X.w) X.A (f v) (EP X pins σ Q) X.xe s
def df (X:Cx) (f:Value) (r:List V->Hp->VK->Prop):Prop :=
 ∀ (pins:List (Addr × Obj)) (s:Shared) (σ:St) (H:Hp) (xs:List V) (us:List Value) (Q:VK),Inv X pins σ H s->Vals xs us->r xs H Q ->
  wpAny (model X.prog X.w) X.A (call f us) (EP X pins σ Q) X.xe s
def tOp (r:R2) (ta tb:TE):TE:=fun σ H Q=>ta σ H fun x H1=>tb σ H1 fun y H2=>r x y H2 Q
def tUn (r:V->Hp->VK->Prop) (ta:TE):TE:=fun σ H Q=>ta σ H fun x H1=>r x H1 Q
def rI (C:Int->Int->Prop) (g:Int->Int->V):R2:=fun x y H Q=>∃ i j,x=.int i/\y=.int j/\C i j/\Q (g i j) H
def rI0 (g:Int->Int->V):R2:=fun x y H Q=>∃ i j,x=.int i/\y=.int j/\Q (g i j) H
def rU (g:Int->V):V->Hp->VK->Prop:=fun x H Q=>∃ i,x=.int i/\Q (g i) H
section
variable {X:Cx} {a b c:Expr} {ta tb tc:TE} {pos:Pos}
theorem Bk (n:PE X a ta) (l:PE X b tb) {R:V->V->Hp->Prop} (I:Inv X pins σ H s) (h:ta σ H fun x H1=>tb σ H1 fun y H2=>R x y H2) {f:Value->Value->Sem Value} (hf:∀ v u s2 x y H2,Inv X pins σ H2 s2->RelV x v->RelV y u->R x y H2->wpAny (model X.prog X.w) X.A (f v u) Q X.xe s2) :
  wpAny (model X.prog X.w) X.A (eval a X.env) (fun v e=>wpAny (model X.prog X.w) X.A (eval b X.env) (fun u g=>wpAny (model X.prog X.w) X.A (f v u) Q X.xe g) X.xe e) X.xe s:=by
 refine thn (n pins s σ H _ I h) fun v s1 ⟨x,H1,k,c,i⟩=>?_
 refine thn (l pins s1 σ H1 _ k i) fun u s2 ⟨y,H2,j,d,m⟩=>?_
 exact hf v u s2 x y H2 j c d m
theorem pe_op (d:OpR X (binaryOp op) r) (g:PE X a ta) (e:PE X b tb):PE X (.BinOp a op b pos) (tOp r ta tb):=by
 intro pins s σ H Q I h
 exact wpAny_BinOp (Bk g e I h fun v u s2 x y H2 c i f q=>d pins s2 σ H2 x y v u Q c i f q)
theorem pe_un (c:UnR X (unaryOp op) r) (e:PE X a ta):PE X (.UnaryOp op a pos) (tUn r ta):=by
 intro pins s σ H Q I h
 exact UnaryOp_ (thn (e pins s σ H _ I h) fun v s1 ⟨x,H1,b,d,f⟩=>c pins s1 σ H1 x v Q b d f)
theorem opI {g:Int->Int->Int} (rule:∀ (i j:Int) (t u:Tok) (s:Shared) (Q:Value->Shared->Prop) (E:Value->Shared->Prop),C i j->Q (.int (g i j) s.toks) { s with toks:=s.toks+1 }->wpAny (model X.prog X.w) X.A (f (.int i t) (.int j u)) Q E s) :
  OpR X f (rI C fun i j=>.int (g i j)):=by
 intro pins s σ H x y v u Q I c b h
 obtain ⟨i,j,rfl,rfl,a,q⟩:=h
 obtain ⟨t,rfl⟩:=c
 obtain ⟨t',rfl⟩:=b
 exact rule i j t t' s _ _ a ⟨.int (g i j),H,I.tok _,⟨_,rfl⟩,q⟩
theorem opI0 {g:Int->Int->Int} (rule:∀ (i j:Int) (t u:Tok) (s:Shared) (Q:Value->Shared->Prop) (E:Value->Shared->Prop),Q (.int (g i j) s.toks) { s with toks:=s.toks+1 }->wpAny (model X.prog X.w) X.A (f (.int i t) (.int j u)) Q E s) :
  OpR X f (rI0 fun i j=>.int (g i j)):=by
 intro pins s σ H x y v u Q I b a h
 obtain ⟨i,j,rfl,rfl,q⟩:=h
 obtain ⟨t,rfl⟩:=b
 obtain ⟨t',rfl⟩:=a
 exact rule i j t t' s _ _ ⟨.int (g i j),H,I.tok _,⟨_,rfl⟩,q⟩
theorem opB0 {g:Int->Int->Bool} (rule:∀ (i j:Int) (t u:Tok) (s:Shared) (Q:Value->Shared->Prop) (E:Value->Shared->Prop),Q (.bool (g i j)) s->wpAny (model X.prog X.w) X.A (f (.int i t) (.int j u)) Q E s) :
  OpR X f (rI0 fun i j=>.bl (g i j)):=by
 intro pins s σ H x y v u Q I b a h
 obtain ⟨i,j,rfl,rfl,q⟩:=h
 obtain ⟨t,rfl⟩:=b
 obtain ⟨t',rfl⟩:=a
 exact rule i j t t' s _ _ ⟨.bl (g i j),H,I,rfl,q⟩
def uC (i j:Int):Prop:=0 < j/\j < 1073741824
def wS (i j:Int):Prop:=0<=j/\j<=1000000/\i.natAbs < 2 ^ 64
def CMul (i j:Int):Prop:=(-(2 ^ 64) < i/\i < 2 ^ 64)\/(-(2 ^ 64) < j/\j < 2 ^ 64)
theorem CMul.ok {i j:Int} (h:CMul i j):IntMulOk i j:=by
 rcases h with ⟨h1,h2⟩ | ⟨h1,h2⟩
 ·exact .of_left (intBits_le_64 h1 h2)
 ·exact .of_right (intBits_le_64 h1 h2)
theorem op_add:OpR X (binaryOp .Add) (rI0 fun i j=>.int (i+j)):=opI0 fun _ _ _ _ _ _ _ q=>add_int q
theorem AC:OpR X (binaryOp .Sub) (rI0 fun i j=>.int (i - j)):=opI0 fun _ _ _ _ _ _ _ q=>sub_int q
theorem AF:OpR X (binaryOp .Mult) (rI CMul fun i j=>.int (i * j)):=opI fun _ _ _ _ _ _ _ a q=>mul_int q a.ok
theorem AG:OpR X (binaryOp .Mod) (rI (fun _ j=>0 < j) fun i j=>.int (i % j)):=opI fun i j _ _ _ _ _ a q=>by
 have h1:(0:Int) < j:=a
 exact mod_int' (by omega) (by rw [Int.fmod_eq_emod_of_nonneg i (by omega)];exact q)
theorem AD:OpR X (binaryOp .Pow) (rI wS fun i j=>.int (i ^ j.toNat)):=opI fun _ _ _ _ _ _ _ a q=>pow_int_small a.1 a.2.1 a.2.2 q
theorem unI {g:Int->Int} (rule:∀ (i:Int) (t:Tok) (s:Shared) (Q:Value->Shared->Prop) (E:Value->Shared->Prop),Q (.int (g i) s.toks) { s with toks:=s.toks+1 }->wpAny (model X.prog X.w) X.A (f (.int i t)) Q E s) :
  UnR X f (rU fun i=>.int (g i)):=by
 intro pins s σ H x v Q I a h
 obtain ⟨i,rfl,q⟩:=h
 obtain ⟨t,rfl⟩:=a
 exact rule i t s _ _ ⟨.int (g i),H,I.tok _,⟨_,rfl⟩,q⟩
theorem zr:UnR X (unaryOp .USub) (rU fun i=>.int (-i)):=unI fun _ _ _ _ _ q=>neg_int q
end
def zQ:V->V->Bool
 | .non,.non=>true | .non,.int _=>true | .int _,.non=>true | .non,.bl _=>true | .bl _,.non=>true | .non,.str _=>true | .str _,.non=>true
 | .int _,.int _=>true | .bl _,.bl _=>true | .str _,.str _=>true | .byt _,.byt _=>true
 | .int _,.str _=>true | .str _,.int _=>true | .bl _,.str _=>true | .str _,.bl _=>true
 | _,_=>false
def rEq:R2:=fun x y H Q=>zQ x y=true/\Q (.bl (decide (x=y))) H
def rNe:R2:=fun x y H Q=>zQ x y=true/\Q (.bl (!decide (x=y))) H
theorem sO {i j:Int}:decide (V.int i=V.int j)=(i == j):=by
 rw [Bool.eq_iff_iff]
 simp
theorem dec_bl {i j:Bool}:decide (V.bl i=V.bl j)=(i == j):=by
 rw [Bool.eq_iff_iff]
 simp
theorem sN:decide (V.str i=V.str j)=(i == j):=by
 rw [Bool.eq_iff_iff]
 simp
theorem sP:decide (V.byt i=V.byt j)=(i.toList == j.toList):=by
 rw [Bool.eq_iff_iff]
 cases i
 cases j
 simp
section
variable {X:Cx} {a b c:Expr} {ta tb tc:TE} {pos:Pos}
theorem aU (I:Inv X pins σ H s) (q:Q (.bl k) H) (e:k=k'):EP X pins σ Q (.bool k') s:=by
 subst e
 exact ⟨.bl k,H,I,rfl,q⟩
theorem op_eq:OpR X (compareOp .Eq) rEq:=by
 intro pins s σ H x y v u Q I c a h
 obtain ⟨b,q⟩:=h
 cases x with
 | non =>
  cases c
  cases y with
  | non=>cases a;exact PySem.EqNone.eq_none_none (aU I q (by simp))
  | bl j=>cases a;exact PySem.EqNone.eq_none_bool (aU I q (by simp))
  | int j=>obtain ⟨t',rfl⟩:=a;exact PySem.EqNone.eq_none_int (aU I q (by simp))
  | str j=>obtain ⟨t',rfl⟩:=a;exact PySem.EqNone.eq_none_str (aU I q (by simp))
  | _=>exact absurd (show false=true from b) BQ
 | bl i =>
  cases c
  cases y with
  | non=>cases a;exact PySem.EqNone.eq_bool_none (aU I q (by simp))
  | bl j=>cases a;exact eq_bool (aU I q dec_bl)
  | str j=>obtain ⟨t',rfl⟩:=a;exact PySem.EqMixed.eq_bool_str (aU I q (by simp))
  | _=>exact absurd (show false=true from b) BQ
 | int i =>
  obtain ⟨t,rfl⟩:=c
  cases y with
  | non=>cases a;exact PySem.EqNone.eq_int_none (aU I q (by simp))
  | int j=>obtain ⟨t',rfl⟩:=a;exact eq_int (aU I q sO)
  | str j=>obtain ⟨t',rfl⟩:=a;exact PySem.EqMixed.eq_int_str (aU I q (by simp))
  | _=>exact absurd (show false=true from b) BQ
 | str i =>
  obtain ⟨t,rfl⟩:=c
  cases y with
  | non=>cases a;exact PySem.EqNone.eq_str_none (aU I q (by simp))
  | bl j=>cases a;exact PySem.EqMixed.eq_str_bool (aU I q (by simp))
  | int j=>obtain ⟨t',rfl⟩:=a;exact PySem.EqMixed.eq_str_int (aU I q (by simp))
  | str j=>obtain ⟨t',rfl⟩:=a;exact eq_str (aU I q sN)
  | _=>exact absurd (show false=true from b) BQ
 | byt i =>
  obtain ⟨t,rfl⟩:=c
  cases y with
  | byt j=>obtain ⟨t',rfl⟩:=a;exact PySem.W.eq_bytes (aU I q sP)
  | _=>exact absurd (show false=true from b) BQ
 | _=>cases y <;> exact absurd (show false=true from b) BQ
theorem op_ne:OpR X (compareOp .NotEq) rNe:=by
 intro pins s σ H x y v u Q I c a h
 obtain ⟨b,q⟩:=h
 cases x with
 | non =>
  cases c
  cases y with
  | non=>cases a;exact PySem.EqNone.ne_none_none (aU I q (by simp))
  | bl j=>cases a;exact PySem.EqNone.ne_none_bool (aU I q (by simp))
  | int j=>obtain ⟨t',rfl⟩:=a;exact PySem.EqNone.ne_none_int (aU I q (by simp))
  | str j=>obtain ⟨t',rfl⟩:=a;exact PySem.EqNone.ne_none_str (aU I q (by simp))
  | _=>exact absurd (show false=true from b) BQ
 | bl i =>
  cases c
  cases y with
  | non=>cases a;exact PySem.EqNone.ne_bool_none (aU I q (by simp))
  | bl j=>cases a;exact ne_bool (aU I q (congrArg not dec_bl))
  | str j=>obtain ⟨t',rfl⟩:=a;exact PySem.EqMixed.ne_bool_str (aU I q (by simp))
  | _=>exact absurd (show false=true from b) BQ
 | int i =>
  obtain ⟨t,rfl⟩:=c
  cases y with
  | non=>cases a;exact PySem.EqNone.ne_int_none (aU I q (by simp))
  | int j=>obtain ⟨t',rfl⟩:=a;exact ne_int (aU I q (congrArg not sO))
  | str j=>obtain ⟨t',rfl⟩:=a;exact PySem.EqMixed.ne_int_str (aU I q (by simp))
  | _=>exact absurd (show false=true from b) BQ
 | str i =>
  obtain ⟨t,rfl⟩:=c
  cases y with
  | non=>cases a;exact PySem.EqNone.ne_str_none (aU I q (by simp))
  | bl j=>cases a;exact PySem.EqMixed.ne_str_bool (aU I q (by simp))
  | int j=>obtain ⟨t',rfl⟩:=a;exact PySem.EqMixed.ne_str_int (aU I q (by simp))
  | str j=>obtain ⟨t',rfl⟩:=a;exact ne_str (aU I q (congrArg not sN))
  | _=>exact absurd (show false=true from b) BQ
 | byt i =>
  obtain ⟨t,rfl⟩:=c
  cases y with
  | byt j=>obtain ⟨t',rfl⟩:=a;exact PySem.W.ne_bytes (aU I q (congrArg not sP))
  | _=>exact absurd (show false=true from b) BQ
 | _=>cases y <;> exact absurd (show false=true from b) BQ
theorem yZ:OpR X (compareOp .Lt) (rI0 fun i j=>.bl (decide (i < j))):=opB0 fun _ _ _ _ _ _ _ q=>lt_int q
theorem sA:OpR X (compareOp .LtE) (rI0 fun i j=>.bl (decide (i<=j))):=opB0 fun _ _ _ _ _ _ _ q=>le_int q
theorem AH : OpR X (compareOp .Is) (fun x y H Q => y = .non /\ Q (.bl (decide (x = .non))) H) := by
  intro pins s σ H x y v u Q I a b h
  obtain ⟨rfl, q⟩ := h
  cases b
  refine is_none_gen (aU I q ?_)
  cases x <;> first
    | (cases a; rfl)
    | (obtain ⟨t, rfl⟩ := a; rfl)
theorem OpR.or (h:OpR X f r) (h':OpR X f r'):OpR X f (fun x y H Q=>r x y H Q\/r' x y H Q):=by
 intro pins s σ H x y v u Q I b a q
 rcases q with q | q
 ·exact h pins s σ H x y v u Q I b a q
 ·exact h' pins s σ H x y v u Q I b a q
theorem jH (b : Expr) (h : op ≠ .In := by decide) (h2 : op ≠ .NotIn := by decide) : behindInMarks op b = false := by
  have e1 : (op == CmpOp.In) = false := by cases op <;> first | rfl | exact absurd rfl h
  have a : (op == CmpOp.NotIn) = false := by cases op <;> first | rfl | exact absurd rfl h2
  cases b <;> simp [behindInMarks, e1, a]
theorem xU (d:OpR X (compareOp op) r) (g:PE X a ta) (e:PE X b tb) (hm:behindInMarks op b=false):PE X (.Compare a [op] [b] pos) (tOp r ta tb):=by
 intro pins s σ H Q I h
 exact wpAny_Compare1 (Bk g e I h fun v u s2 x y H2 c i f q=>d pins s2 σ H2 x y v u Q c i f q) hm
def tTest (t:TE):TT:=fun σ H Q=>t σ H fun x H'=>∃ k,x=.bl k/\Q k H'
theorem xM (n:OpR X (compareOp op) r) (t:PE X a ta) (p:PE X b tb) (hm:behindInMarks op b=false):PT X (.Compare a [op] [b] pos) (tTest (tOp r ta tb)):=by
 intro pins s σ H Q I h
 refine wpAny_isTrue_Compare1 (thn (t pins s σ H _ I h) fun v s1 ⟨x,H1,m,d,i⟩=>thn (p pins s1 σ H1 _ m i) fun u s2 ⟨y,H2,j,f,q⟩ =>
  thn (n pins s2 σ H2 x y v u _ j d f q) fun c s3 ⟨z,g,o,l,k,e,w⟩=>?_) hm
 subst e
 cases l
 exact Ce ⟨g,o,w⟩
def qD (r b:R2) (ta tb tc:TE):TE:=fun σ H Q=>ta σ H fun x H1=>tb σ H1 fun y H2=>r x y H2 fun z a=>∃ k,z=.bl k /\
 (if k=true then tc σ a fun c d=>b y c d Q else Q (.bl false) a)
theorem vz (w:OpR X (compareOp op) r) (f:OpR X (compareOp op') r') (K:PE X a ta) (A:PE X b tb) (E:PE X c tc) (hm:lastMarks [op,op'] [b,c]=false:=by with_unfolding_all rfl):PE X (.Compare a [op,op'] [b,c] pos) (qD r r' ta tb tc):=by
 intro pins s σ H Q I h
 refine Compare_chain (thn (K pins s σ H _ I h) fun v s1 ⟨x,H1,F,m,n⟩=>chain_link (thn (A pins s1 σ H1 _ F n) fun u s2 ⟨y,H2,p,g,J⟩ =>
  thn (w pins s2 σ H2 x y v u _ p m g J) fun d s3 ⟨z,j,i,q,k,e,l⟩=>?_)) hm
 subst e
 cases q
 refine Ce ?_
 cases k with
 | false=>exact ite_ff ⟨.bl false,j,i,rfl,l⟩
 | true=>exact ite_tt (chain_last (thn (E pins s3 σ j _ i l) fun G s4 ⟨t,B,C,D,o⟩=>f pins s4 σ B y t u G Q C g D o))
theorem oD:(sizeLine:Nat) < 2 ^ 63:=by rw [sizeLine_eq];decide
theorem op_add_str:OpR X (binaryOp .Add) (fun x y H Q=>∃ i j,x=.str i/\y=.str j/\i.length+j.length<=sizeLine/\Q (.str (i ++ j)) H):=by
 intro pins s σ H x y v u Q I a b h
 obtain ⟨i,j,rfl,rfl,hz,q⟩:=h
 obtain ⟨t,rfl⟩:=a
 obtain ⟨t',rfl⟩:=b
 exact add_str (fun t' tk=>⟨.str (i ++ j),H,I.tok _,⟨_,rfl⟩,q⟩) hz
theorem kg (r:Vals [x] us):∃ u,us=[u]/\RelV x u:=by
 cases r with
 | cons r1 r2=>cases r2;exact ⟨_,rfl,r1⟩
theorem lr (r:Vals [x,y] us):∃ u a,us=[u,a]/\RelV x u/\RelV y a:=by
 cases r with
 | cons r1 r2 =>
  cases r2 with
  | cons r3 r4=>cases r4;exact ⟨_,_,rfl,r1,r3⟩
theorem wG:df X (.builtin "abs") (fun xs H Q=>∃ i,xs=[.int i]/\Q (.int (if i < 0 then -i else i)) H):=by
 intro pins s σ H xs us Q I r h
 obtain ⟨i,rfl,q⟩:=h
 obtain ⟨u,rfl,t,rfl⟩:=kg r
 exact call_abs_int fun u tk=>⟨.int (if i < 0 then -i else i),H,I.tok _,⟨_,rfl⟩,q⟩
theorem uu (b:X.calm=true):df X (.builtin "max") (fun xs H Q=>∃ i j,xs=[.int i,.int j]/\Q (.int (if j > i then j else i)) H):=by
 intro pins s σ H xs us Q I r h
 obtain ⟨i,j,rfl,q⟩:=h
 obtain ⟨u,c,rfl,⟨t,rfl⟩,⟨t',rfl⟩⟩:=lr r
 refine max_two_ints (I.ok.hd b) fun h' tk k=>⟨_,H,I.kept k,?_,q⟩
 by_cases a:j > i
 ·rw [if_pos a,if_pos a];exact ⟨_,rfl⟩
 ·rw [if_neg a,if_neg a];exact ⟨_,rfl⟩
theorem ut (b:X.calm=true):df X (.builtin "min") (fun xs H Q=>∃ i j,xs=[.int i,.int j]/\Q (.int (if j < i then j else i)) H):=by
 intro pins s σ H xs us Q I r h
 obtain ⟨i,j,rfl,q⟩:=h
 obtain ⟨u,c,rfl,⟨t,rfl⟩,⟨t',rfl⟩⟩:=lr r
 refine min_two_ints (I.ok.hd b) fun h' tk k=>⟨_,H,I.kept k,?_,q⟩
 by_cases a:j < i
 ·rw [if_pos a,if_pos a];exact ⟨_,rfl⟩
 ·rw [if_neg a,if_neg a];exact ⟨_,rfl⟩
theorem qu:df X (.builtin "divmod") (fun xs H Q=>∃ i j,xs=[.int i,.int j]/\uC i j/\∀ p,H p=none->Q (.ref p) (upd H p (.tup [.int (i / j),.int (i % j)]))):=by
 intro pins s σ H xs us Q I r h
 obtain ⟨i,j,rfl,⟨h1,h2⟩,q⟩:=h
 obtain ⟨u,c,rfl,⟨t,rfl⟩,⟨t',rfl⟩⟩:=lr r
 refine divmod_int (by omega) ?_ (.inl (PyProof.noPylong_small (by omega)))
 rw [Int.fdiv_eq_ediv_of_nonneg i (by omega),Int.fmod_eq_emod_of_nonneg i (by omega)]
 have a:H s.heap.objs.size=none:=I.hok.fresh (BP _)
 refine ⟨.ref s.heap.objs.size,_,?_,rfl,q _ a⟩
 refine I.laid (fun b o e=>BA _ e) (BP _) ⟨by simp only [B0,List.length_nil];rw [sizeLine_eq];decide,[.int (i / j) s.toks,.int (i % j) (s.toks+1)],.cons ⟨_,rfl⟩ (.cons ⟨_,rfl⟩ .nil),?_⟩
 exact ⟨_,BI s.heap rfl,rfl,0,rfl⟩
end
end L2
namespace L2
open PySem PySem.Spec PyProof.Rows
theorem RelO.some_of (r:RelO (some v) o):∃ u,o=some u/\RelV v u:=by
 cases o with
 | none=>exact (show False from r).elim
 | some u=>exact ⟨u,rfl,r⟩
end L2
namespace L2
open PySem PySem.Spec PyProof.Rows
structure Room (k:Nat) (A:Around):Prop where
 hd:A.handled=none
 dp:A.depth+3 * k+5 < recursionLimit
 un:A.units+16 * k+200 < cLine
 gd:A.guards=some []
theorem Room.mono {j k:Nat} (r:Room k A) (h:j<=k):Room j A:=⟨r.hd,by have:=r.dp;omega,by have:=r.un;omega,r.gd⟩
theorem Room.deeper {k:Nat} (r:Room (k+1) A) (env:Env):Room k (A.deeper env) :=
 ⟨r.hd,by have:=r.dp;show A.depth+1+3 * k+5 < _;omega,by have:=r.un;show A.units+3+16 * k+200 < _;omega,r.gd⟩
theorem Room.depth {k:Nat} (r:Room k A):A.depth < recursionLimit:=by have:=r.dp;omega
theorem Room.units {k:Nat} (r:Room k A):A.units+64 < cLine:=by have:=r.un;omega
def tNil:TA:=fun _ H Q=>Q [] H
def yT (ta:TE) (a:TA):TA:=fun σ H Q=>ta σ H fun x H1=>a σ H1 fun xs H2=>Q (x :: xs) H2
section
variable {X:Cx} {e:Expr} {es:List Expr} {te:TE} {t:TA} {pos:Pos}
theorem qT:PA X [] tNil:=fun _ _ _ _ H Q I h=>Calls.spliced_nil ⟨[],H,I,.nil,h⟩
theorem iX (k:PE X e te) (i:PA X es t) (d:starEach (e :: es) X.env=(false,eval e X.env) :: starEach es X.env:=by rfl):PA X (e :: es) (yT te t):=by
 intro pos pins s σ H Q I h
 rw [d]
 show wpAny _ _ (spliced ((false,eval e X.env) :: backTo pos (starEach es X.env))) _ _ s
 refine Calls.spliced_cons (thn (k pins s σ H _ I h) fun u s1 ⟨x,H1,g,a,c⟩=>?_)
 exact thn (i pos pins s1 σ H1 _ g c) fun us s2 ⟨xs,H2,f,b,j⟩=>⟨x :: xs,H2,f,.cons a b,j⟩
def tTup (t:TA):TE:=fun σ H Q=>t σ H fun xs H1=>xs.length<=sizeLine/\∀ p,H1 p=none->Q (.ref p) (upd H1 p (.tup xs))
def tLst (t:TA):TE:=fun σ H Q=>t σ H fun xs H1=>xs.length<=sizeLine/\∀ p,H1 p=none->Q (.ref p) (upd H1 p (.lst xs))
theorem As (h:PA X es t):PE X (.Tuple es x1 pos) (tTup t):=by
 intro pins s σ H Q I c
 refine wpAny_Tuple_spliced (thn (h pos pins s σ H _ I c) fun us s1 ⟨xs,H1,a,r,z,q⟩=>⟨by rw [<- r.length];exact z,?_⟩)
 have hf:H1 s1.heap.objs.size=none:=a.hok.fresh (BP _)
 refine ⟨.ref s1.heap.objs.size,upd H1 s1.heap.objs.size (.tup xs),a.laid (t':=s1.toks) (fun b u e=>BA _ e) (BP _) ?_,rfl,q _ hf⟩
 exact ⟨z,us,r,⟨_,BI _ rfl,rfl,_,rfl⟩⟩
theorem Ax (h:PA X es t):PE X (.List es pos) (tLst t):=by
 intro pins s σ H Q I c
 refine wpAny_List_spliced (thn (h pos pins s σ H _ I c) fun us s1 ⟨xs,H1,a,r,z,q⟩=>⟨by rw [<- r.length];exact z,?_⟩)
 have hf:H1 s1.heap.objs.size=none:=a.hok.fresh (BP _)
 refine ⟨.ref s1.heap.objs.size,upd H1 s1.heap.objs.size (.lst xs),a.laid (t':=s1.toks) (fun b u e=>BA _ e) (BP _) ?_,rfl,q _ hf⟩
 exact ⟨z,us,0,r,BI _ rfl⟩
end
abbrev Sp:=List V->Hp->VK->XK->Prop
abbrev CXT:=List Env->Hp->Shared->XK->Value->Shared->Prop
structure Env0 (P:Program) (w:World) (K:FG) (mg:Str->Option Value) (base:Heap) (A:Around) (outer:List Env) (s:Shared) (H:Hp):Prop where
 frames:A.frames=some outer
 mod:Mod K mg base
 bs:∀ b o,base.get? b=some o->s.heap.get? b=some o/\H b=none
 bsz:base.objs.size<=s.heap.objs.size
 funs:s.heap.FunFrames base outer
 frf:∀ b ∈ frs outer,H b=none
 hok:HOk P w H s.heap
 bare:AllBare s.gens
def CE (outer:List Env) (P:Program) (w:World) (H:Hp) (s:Shared) (Q:VK) (u:Value) (s':Shared):Prop :=
 ∃ v H',s'.os=s.os/\AllBare s'.gens/\Un (frs outer) [] H H' s.heap s'.heap/\HOk P w H' s'.heap/\RelV v u/\Q v H'
def CR (CX:CXT) (outer:List Env) (P:Program) (w:World) (H:Hp) (s:Shared) (Q:VK) (E:XK) (r:Result) (s':Shared):Prop :=
 match r with
 | .ok (.ret u)=>CE outer P w H s Q u s'
 | .ok _=>False
 | .error e=>CX outer H s E e s'
structure FnOk (P:Program) (w:World) (K:FG) (mg:Str->Option Value) (base:Heap) (CX:CXT) (k:Nat) (f:Addr) (fd:FuncData) (ps:List Str) (sp:Sp):Prop where
 len:∀ vs H Q E,sp vs H Q E->vs.length=ps.length
 run:∀ (A:Around) (outer:List Env) (s:Shared) (H:Hp) (args:Args) (us:List Value) (vs:List V) (Q:VK) (E:XK),Room k A->Env0 P w K mg base A outer s H->BindsTo s fd args (ps.zip us)->Vals vs us->sp vs H Q E ->
  codeAny (model P w) A (.call (.ref f) args) (CR CX outer P w H s Q E) s
theorem FnOk.imp {K:FG} {k:Nat} (F:FnOk P w K mg base CX k f fd ps sp) (h:∀ a H Q E,sp' a H Q E->sp a H Q E):FnOk P w K mg base CX k f fd ps sp' :=
 ⟨fun a H Q E q=>F.len a H Q E (h _ _ _ _ q),fun A outer s H args us a Q E c he d e b=>F.run A outer s H args us a Q E c he d e (h _ _ _ _ b)⟩
section
variable {X:Cx} {pins:List (Addr × Obj)} {σ:St} {H:Hp} {s s':Shared}
theorem Inv.env0 (I:Inv X pins σ H s):Env0 X.prog X.w X.K X.mg X.base X.A X.stack s H :=
 ⟨I.ok.frames,I.ok.mod,I.bs,Cf I.ok.bsz I.sz,I.stack,I.stkFree,I.hok,I.bare⟩
theorem Inv.after (I:Inv X pins σ H s) (h:CE X.stack X.prog X.w H s Q u s'):EP X pins σ Q u s':=by
 obtain ⟨v,H',os,bare,un,hok,r,q⟩:=h
 obtain ⟨c,g,d,t,a⟩:=s'
 obtain rfl:a=s.os:=os
 exact ⟨v,H',I.call (h':=c) (g':=g) (d':=d) (t':=t) (ch:=[]) un hok bare (fun b z=>absurd z (by simp)),r,q⟩
end
def tCall (sp:Sp) (dvs:List V) (E:XK) (t:TA):TE:=fun σ H Q=>t σ H fun a H1=>sp (a ++ dvs) H1 Q E
def Binds (K:FG) (fd:FuncData) (ps:List Str) (ds:List Value):Prop :=
 ∀ (s:Shared) (us:List Value),K.In s.heap->(us ++ ds).length=ps.length->BindsTo s fd ⟨us,[]⟩ (ps.zip (us ++ ds))
theorem Binds.all {K:FG} (h:∀ us:List Value,us.length=ps.length->bindArgs fd ⟨us,[]⟩=pure (ps.zip us)):Binds K fd ps []:=fun s us _ a=>by
 rw [List.append_nil] at a ⊢
 exact .of_eq (h us a)
def rV (CX:CXT) (X:Cx) (E:XK):Prop:=∀ (pins:List (Addr × Obj)) (σ:St) (H:Hp) (s:Shared) (e:Value) (s':Shared),Inv X pins σ H s->CX X.stack H s E e s'->X.xe e s'
section
variable {X:Cx} {CX:CXT} {k:Nat} {f C:Addr} {fd:FuncData} {ps:List Str} {sp:Sp} {dvs:List V} {ds:List Value} {E:XK} {x m:Str} {p pos apos:Pos} {e o:Expr} {es:List Expr} {ta:TE} {t:TA}
theorem zT (F:FnOk X.prog X.w X.K X.mg X.base CX k f fd ps sp) (c:Room k X.A) (d:Binds X.K fd ps ds) (hd:Vals dvs ds) (i:rV CX X E) (I:Inv X pins σ H s) (r:Vals vs us) (h:sp (vs ++ dvs) H Q E):wpAny (model X.prog X.w) X.A (call (.ref f) us) (EP X pins σ Q) X.xe s:=by
 have b:Vals (vs ++ dvs) (us ++ ds):=r.append hd
 have g:(us ++ ds).length=ps.length:=by rw [<- b.length];exact F.len _ _ _ _ h
 refine wpAny_call (codeAny_mono (F.run X.A X.stack s H ⟨us,[]⟩ (us ++ ds) (vs ++ dvs) Q E c I.env0 (d s us I.kIn g) b h) fun r s' a=>?_)
 cases r with
 | error e=>exact i pins σ H s e s' I a
 | ok fl =>
  cases fl with
  | ret u=>exact I.after a
  | next=>exact False.elim a
  | brk=>exact False.elim a
  | cont=>exact False.elim a
theorem xV (F:FnOk X.prog X.w X.K X.mg X.base CX k f fd ps sp) (d:Room k X.A) (m:Gl X x) (hm:X.mg x=some (.ref f)) (i:PySem.W.keepIn X.K (.ref f)=true) (g:Binds X.K fd ps ds) (hd:Vals dvs ds) (l:rV CX X E)
  (j:PA X (e :: es) t) (a:(x == ("__debug__":Str))=false:=by decide) (he:starEach (e :: es) X.env=(false,eval e X.env) :: starEach es X.env:=by rfl) (b:(backTo pos (starEach es X.env)).any (·.1)=false:=by rfl) :
  PE X (.Call (.Name x p) (e :: es) [] pos) (tCall sp dvs E t):=by
 intro pins s σ H Q I h
 refine wpAny_Call_Name_kw (gz I m hm ?_ a)
 refine PySem.W.callWith_K (h₀:=X.base) I.ok.mod.kin i (thn (j pos pins s σ H _ I h) fun us s1 ⟨n,H1,c,r,q⟩=>⟨c.kIn,?_⟩) he b
 exact zT F d g hd l c r q
end
structure FnScope (N P:List Str) (sc:Scope):Prop where
 kind:sc.kind=.function
 co:sc.isCoroutine=false
 gen:sc.isGenerator=false
 nd:N.Nodup
 pre:N.take P.length=P
 par:∀ x ∈ P,sc.names.lookup x=some .local\/sc.names.lookup x=some .cell
 nofree:∀ y ∈ sc.names,y.2 ≠ .free
theorem nU {kindOf:Str->Option NameKind}:∀ {binds:List (Str × Value)} {m:Str->Option Value},(∀ v,(x,v) ∉ binds)->bindL kindOf binds m x=m x
 | [],_,_=>rfl
 | (n,v) :: r,m,h=>by
  unfold bindL
  rw [nU fun w hw=>h w (Bz _ hw)]
  split
  ·have:x ≠ n:=by rintro rfl;exact h v By
   simp [this]
  ·rfl
theorem nW {kindOf:Str->Option NameKind}:∀ {binds:List (Str × Value)} {m:Str->Option Value},(∀ v,(x,v) ∉ binds)->bindC kindOf binds m x=m x
 | [],_,_=>rfl
 | (n,v) :: r,m,h=>by
  unfold bindC
  rw [nW fun w hw=>h w (Bz _ hw)]
  split
  ·rfl
  ·have:x ≠ n:=by rintro rfl;exact h v By
   simp [this]
theorem nV {kindOf:Str->Option NameKind}:∀ {P:List Str} {a:List Value} {i:Nat} {m:Str->Option Value},P.Nodup->P[i]?=some x->a[i]?=some v->kindOf x=some .local ->
  bindL kindOf (P.zip a) m x=some v
 | [],_,_,_,_,h,_,_=>by simp at h
 | _ :: _,[],_,_,_,_,h,_=>by simp at h
 | p :: P,w :: a,0,m,nd,h1,h2,hk=>by
  simp at h1 h2;subst h1;subst h2
  show bindL kindOf ((p,w) :: P.zip a) m p=_
  unfold bindL
  rw [nU fun v b=>(List.nodup_cons.mp nd).1 (List.of_mem_zip b).1,if_pos hk]
  simp
 | p :: P,w :: a,i+1,m,nd,h1,h2,hk=>by
  show bindL kindOf ((p,w) :: P.zip a) m x=_
  unfold bindL
  exact nV (i:=i) (List.nodup_cons.mp nd).2 (by simpa using h1) (by simpa using h2) hk
theorem nX {kindOf:Str->Option NameKind}:∀ {P:List Str} {a:List Value} {i:Nat} {m:Str->Option Value},P.Nodup->P[i]?=some x->a[i]?=some v->kindOf x ≠ some .local ->
  bindC kindOf (P.zip a) m x=some v
 | [],_,_,_,_,h,_,_=>by simp at h
 | _ :: _,[],_,_,_,_,h,_=>by simp at h
 | p :: P,w :: a,0,m,nd,h1,h2,hk=>by
  simp at h1 h2;subst h1;subst h2
  show bindC kindOf ((p,w) :: P.zip a) m p=_
  unfold bindC
  rw [nW fun v b=>(List.nodup_cons.mp nd).1 (List.of_mem_zip b).1,if_neg hk]
  simp
 | p :: P,w :: a,i+1,m,nd,h1,h2,hk=>by
  show bindC kindOf ((p,w) :: P.zip a) m x=_
  unfold bindC
  exact nX (i:=i) (List.nodup_cons.mp nd).2 (by simpa using h1) (by simpa using h2) hk
def fK (N:List Str) (a:List V):St:=a.map some ++ List.replicate (N.length - a.length) none
def dY (CX:CXT) (P:Program) (w:World) (K:FG) (mg:Str->Option Value) (base:Heap) (N:List Str) (qual:Str) (scope:Scope) (f:Addr) (cd:Value) (A:Around) (outer:List Env) (s:Shared) (H:Hp) (E:XK):Cx where
 prog:=P
 w:=w
 K:=K
 mg:=mg
 base:=base
 A:=A.deeper (envOfC qual scope s.heap.objs.size f cd)
 N:=N
 s₀:=s
 H₀:=H
 env:=envOfC qual scope s.heap.objs.size f cd
 outer:=outer
 stack:=envOfC qual scope s.heap.objs.size f cd :: outer
 ex:=[]
 calm:=true
 fn:=fun _=>true
 pn:=[]
 xe:=fun e s'=>wpAny (model P w) (A.deeper (envOfC qual scope s.heap.objs.size f cd)) (leaving (envOfC qual scope s.heap.objs.size f cd) e) (fun _ a=>CX outer H s E e a) (fun b a=>CX outer H s E b a) s'
theorem qo {sc:Scope} {n:Nat} (h:sc.names.lookup x=some .cell):∃ c,(cellsFrom n sc.names []).lookup x=some c:=by
 have q:=PySem.W.cellsFrom_some sc.names n [] (.inl h)
 exact Option.isSome_iff_exists.mp q
theorem nI {K:FG} (S:FnScope N ps scope) (hd:A.handled=none) (d:Env0 P w K mg base A outer s H) (D:vs.length=ps.length) (r:Vals vs us) (x:InCallC s s.heap.objs.size (bindL (envOfC qual scope s.heap.objs.size f cd).kindOf (ps.zip us) fun _=>none) (cellsFrom (s.heap.objs.size+1) scope.names []) (bindC (envOfC qual scope s.heap.objs.size f cd).kindOf (ps.zip us) fun _=>none) s1) :
  Inv (dY CX P w K mg base N qual scope f cd A outer s H E) [] (fK N vs) H s1:=by
 have B:ps.length<=N.length:=by have:=congrArg List.length S.pre;rw [B1] at this;omega
 obtain ⟨h1,tk,rfl,o⟩:=x.done
 have g:∀ b:Addr,b ∉ (dY CX P w K mg base N qual scope f cd A outer s H E).ex:=fun b z=>absurd (show b ∈ ([]:List Addr) from z) (by simp)
 refine ⟨⟨d.mod,S.kind,rfl,rfl,BP _,fun y z c h1 h2=>?_,fun y j=>?_,fun y c _ h=>?_,fun _=>hd,Around.frames_deeper d.frames,.inr ⟨rfl,rfl⟩,fun b z=>absurd z (g b),d.bs,d.bsz,fun b _ _=>g b,fun b z=>absurd z (g b),d.funs,d.frf⟩,
  rfl,d.bare,Un.kept o,⟨_,x.toInCall.ns,fun i y v h1 h2 h3=>?_⟩,fun y c h=>⟨_,x.cell y c h⟩,d.hok.fresh (BP _),fun y c h=>?_,fun p m=>absurd (show p ∈ ([]:List (Addr × Obj)) from m) (by simp),d.hok.kept o,?_⟩
 ·exact name_of_addr x.apart (PySem.mem_of_lookup h1) (PySem.mem_of_lookup h2)
 ·have j:scope.names.lookup y=some .cell\/scope.names.lookup y=some .free:=j
  rcases j with j | j
  ·exact qo j
  ·exact absurd rfl (S.nofree _ (PySem.mem_of_lookup j))
 ·exact Nat.le_of_lt (x.above y c (PySem.mem_of_lookup h))
 ·have hi:i < vs.length:=by
   unfold fK at h2
   by_cases hi:i < vs.length
   ·exact hi
   ·rw [List.getElem?_append_right (by simpa using hi)] at h2
    rw [List.getElem?_replicate] at h2
    split at h2 <;> cases h2
  have C:vs[i]?=some v:=by
   unfold fK at h2
   rw [Cc (by simpa using hi),BO] at h2
   cases e:vs[i]? with
   | none=>rw [e] at h2;cases h2
   | some a=>rw [e] at h2;cases h2;rfl
  obtain ⟨u,hu,t⟩:=r.get C
  have m:ps[i]?=some y:=by
   rw [<- S.pre,List.getElem?_take_of_lt (by omega)];exact h1
  have l:ps.Nodup:=by rw [<- S.pre];exact S.nd.sublist (List.take_sublist _ _)
  refine ⟨u,t,?_⟩
  rcases S.par y (BL m) with k | k
  ·exact .inl ⟨k,nV l m hu k⟩
  ·obtain ⟨c,e⟩:=qo (n:=s.heap.objs.size+1) k
   refine .inr ⟨.inl k,c,e,?_⟩
   have q:=x.cell y c e
   rw [nX l m hu (by show scope.names.lookup y ≠ _;rw [k];decide)] at q
   exact q
 ·exact d.hok.fresh (Nat.le_of_lt (x.above y c (PySem.mem_of_lookup h)))
 ·unfold fK
  show _=N.length
  rw [BZ,BJ,List.length_replicate]
  omega
theorem zj {K:FG} {k:Nat} {z kV doc pm a ct G:Value} (F:K.lookup f=some ⟨G,od,.func (PySem.W.fnOf name qual params body scope z kV doc pm an a ct),osl⟩) (l:PySem.W.codeIn K a qual=true) (S:FnScope N ps scope) (len:∀ c H Q E,sp c H Q E->c.length=ps.length) (d:∀ (A:Around) (outer:List Env) (s:Shared) (H:Hp) (c:List V) (Q:VK) (E:XK),Room k (A.deeper (envOfC qual scope s.heap.objs.size f a))->sp c H Q E ->
   ∃ t,PSs (dY CX P w K mg base N qual scope f a A outer s H E) body t/\t { nx:=fun _ H'=>Q .non H',rt:=Q } (fK N c) H) :
  FnOk P w K mg base CX (k+1) f (PySem.W.fnOf name qual params body scope z kV doc pm an a ct) ps sp:=by
 refine ⟨len,fun A outer s H args us c Q E p j D r i=>?_⟩
 have C:=len _ _ _ _ i
 have B:K.In s.heap:=j.mod.kin.keeps fun b o e=>(j.bs b o e).1
 have lim:s.heap.NoLimit:=j.mod.nolimit.keeps fun b o e=>(j.bs b o e).1
 have g:∀ y ∈ ps.zip us,scope.names.lookup y.1=some .local\/(scope.names.lookup y.1=some .cell/\((cellsFrom (s.heap.objs.size+1) scope.names []).lookup y.1).isSome=true):=fun ⟨n,v⟩ O=>by
  rcases S.par n (List.of_mem_zip O).1 with q | q
  ·exact .inl q
  ·exact .inr ⟨q,PySem.W.cellsFrom_some _ _ _ (.inl q)⟩
 refine codeAny_call_function p.depth (B _ _ F) rfl S.co S.gen rfl (PySem.W.codeRec_of B l) (D _ _ _ _ ?_)
 refine wpAny_newFunctionEnv_cells S.kind g fun env he s1 x=>?_
 subst he
 refine ⟨lim.keeps x.toInCall.keep,codeAny_func ?_⟩
 obtain ⟨t,M,L⟩:=d A outer s H c Q E (p.deeper _) i
 have I:Inv (dY CX P w K mg base N qual scope f a A outer s H E) [] (fK N c) H s1:=nI S p.hd j C r x
 refine wpAny_mono (M [] s1 (fK N c) H _ I L) (fun fl s' h=>?_) fun e s' h=>h
 have fin:∀ {σ':St} {H':Hp} {v:V} {u:Value},Inv (dY CX P w K mg base N qual scope f a A outer s H E) [] σ' H' s'->RelV v u->Q v H'->CE outer P w H s Q u s' :=
  fun {σ' H' v u} J m q=>⟨v,H',J.os,J.bare,J.base,J.hok,m,q⟩
 cases fl with
 | ret u =>
  obtain ⟨v,σ',H',J,m,q⟩:=h
  exact fin J m q
 | next =>
  obtain ⟨σ',H',J,q⟩:=h
  exact fin (v:=V.non) (u:=Value.none) J rfl q
 | brk =>
  obtain ⟨_,_,_,q⟩:=h
  exact False.elim q
 | cont =>
  obtain ⟨_,_,_,q⟩:=h
  exact False.elim q
end L2
namespace L2
open PySem PySem.Spec PyProof.Rows
section
variable {X:Cx} {x:Str} {p pos:Pos} {e:Expr} {es:List Expr} {t:TA} {id T:String} {r:List V->Hp->VK->Prop}
def tCB (r:List V->Hp->VK->Prop) (t:TA):TE:=fun σ H Q=>t σ H fun a H1=>r a H1 Q
theorem lI (g:df X (.builtin id) r) (m:Gl X x) (hm:X.mg x=none) (k:bootBuiltins x=some (.builtin id)) (j:PA X (e :: es) t) (f:x ≠ "__name__":=by decide) (a:(x == ("__debug__":Str))=false:=by decide)
  (he:starEach (e :: es) X.env=(false,eval e X.env) :: starEach es X.env:=by rfl) (b:(backTo pos (starEach es X.env)).any (·.1)=false:=by rfl):PE X (.Call (.Name x p) (e :: es) [] pos) (tCB r t):=by
 intro pins s σ H Q I h
 refine wpAny_Call_Name_kw (jP I m hm k ?_ f a)
 exact PyProof.Rows.callWith_builtin1 (thn (j pos pins s σ H _ I h) fun us s1 ⟨l,H1,i,c,d⟩=>g pins s1 σ H1 l us Q i c d) he b
theorem tR (g:df X (.type T) r) (m:Gl X x) (hm:X.mg x=none) (k:bootBuiltins x=some (.type T)) (j:PA X (e :: es) t) (f:x ≠ "__name__":=by decide) (a:(x == ("__debug__":Str))=false:=by decide)
  (he:starEach (e :: es) X.env=(false,eval e X.env) :: starEach es X.env:=by rfl) (b:(backTo pos (starEach es X.env)).any (·.1)=false:=by rfl):PE X (.Call (.Name x p) (e :: es) [] pos) (tCB r t):=by
 intro pins s σ H Q I h
 refine wpAny_Call_Name_kw (jP I m hm k ?_ f a)
 exact PyProof.Rows.callWith_type1 (thn (j pos pins s σ H _ I h) fun us s1 ⟨l,H1,i,c,d⟩=>g pins s1 σ H1 l us Q i c d) he b
end
end L2
namespace HT
open PySem PyProof.Rows
section
open PySem.SeqAt
open PySem.AutoSeq1 (wpAny_loadPart')
open PySem.MeetsSeq PySem.MeetsSeq2 PySem.MeetsSeq3
end
section
variable {prog:Program} {w:World} {A:Around} {E:Value->Shared->Prop} {s:Shared}
theorem cat_tup (l:IsTup s.heap t vs.toArray) (m:IsTup s.heap b ws.toArray) (k:vs ≠ []) (h1:ws=[]->Q (.ref t) s) (h2:ws ≠ []->Q (.ref s.heap.objs.size) { s with heap:=s.heap.push { cls:=.type "tuple",data:=.seq (vs ++ ws).toArray } }) (hsz:vs.length+ws.length<=sizeLine):wpAny (model prog w) A (binaryOp .Add (.ref t) (.ref b)) Q E s:=by
 obtain ⟨⟨cls,dd,data,sl⟩,g,j,n,hd⟩:=id l
 obtain ⟨⟨h,d,data2,f⟩,a,c,i,hd2⟩:=id m
 simp only at j hd c hd2
 subst j hd c hd2
 have e:vs.toArray ++ ws.toArray=(vs ++ ws).toArray:=by simp
 by_cases hw:ws=[]
 ·exact concat_meets ⟨_,g,rfl⟩ ⟨_,a,rfl⟩ noFill_tuple_add seq_tuple_add PySem.F.slot_tuple_add PySem.F.entry_tuple_add (PySem.F.args_tuple_add_2 _ _)
   (tuple_addW1 t b vs.toArray ws.toArray n i dd d sl f (by simpa using k) (by simp [hw])) ⟨g,a,h1 hw⟩
 ·refine concat_meets ⟨_,g,rfl⟩ ⟨_,a,rfl⟩ noFill_tuple_add seq_tuple_add PySem.F.slot_tuple_add PySem.F.entry_tuple_add (PySem.F.args_tuple_add_2 _ _)
   (tuple_addW2 t b vs.toArray ws.toArray n i dd d sl f (by simpa using k) (by simpa using hw) (by rw [BS,BS];exact hsz)) ⟨g,a,?_⟩
  rw [e]
  exact h2 hw
def sIx (n d:Nat):Option Int->Nat
 | none=>d
 | some v=>if v < 0 then (v+(n:Int)).toNat else min v.toNat n
theorem zR (n d:Nat) (hd:d<=n) (o:Option Int):sIx n d o<=n:=by
 cases o with
 | none=>exact hd
 | some v =>
  show (if v < 0 then (v+(n:Int)).toNat else min v.toNat n)<=n
  by_cases a:v < 0
  ·rw [if_pos a];omega
  ·rw [if_neg a];exact Nat.min_le_right _ _
theorem sS (v:Int) (n d:Nat):(if v < 0 then max (v+(n:Int)) 0 else min v (n:Int))=((sIx n d (some v):Nat):Int):=by
 show (if v < 0 then max (v+(n:Int)) 0 else min v (n:Int))=(((if v < 0 then (v+(n:Int)).toNat else min v.toNat n):Nat):Int)
 by_cases a:v < 0
 ·simp only [if_pos a];omega
 ·simp only [if_neg a];omega
theorem rT (lo hi:Option Int) (n:Nat):Builtin.Slice.sliceAdjust lo hi 1 (n:Int)=(((sIx n 0 lo:Nat):Int),((sIx n n hi:Nat):Int)):=by
 have h1:¬ ((1:Int) < 0):=by omega
 unfold Builtin.Slice.sliceAdjust
 simp only [h1,if_false]
 refine Prod.ext ?_ ?_
 ·cases lo with
  | none=>rfl
  | some v=>exact sS v n 0
 ·cases hi with
  | none=>rfl
  | some v=>exact sS v n n
theorem qS (i j:Nat):Builtin.Slice.slicePlaces (i:Int) (j:Int) 1=j - i:=by
 unfold Builtin.Slice.slicePlaces
 have h1:(1:Int) > 0:=by omega
 simp only [h1,if_true,Int.ediv_one]
 split <;> omega
theorem lu (p:IsPart v o) (h:Q o s):wpAny (model prog w) A (Builtin.Slice.slicePartIndex v) Q E s:=by
 cases p with
 | none=>exact slicePart_none h
 | int i t=>exact slicePart_int h
theorem eQ {sl:Addr} {d c:Value} {lo hi:Option Int} {n:Nat} (f:s.heap.IsSliceOf sl d c .none) (pl:IsPart d lo) (pu:IsPart c hi) (h:Q (((sIx n 0 lo:Nat):Int),1,sIx n n hi - sIx n 0 lo) s):wpAny (model prog w) A (Builtin.Slice.sliceApplied (.ref sl) (pure (n:Int))) Q E s:=by
 obtain ⟨os,a,e,b⟩:=id f
 unfold Builtin.Slice.sliceApplied Builtin.Slice.sliceFields
 refine Bv (Bv (wpAny_field a b (x:=d) rfl (Bv (wpAny_field a b (x:=c) rfl (Bv (wpAny_field a b (x:=.none) rfl (Bw ?_)))))))
 refine Bv (slicePart_none ?_)
 show wpAny _ _ (if ((1:Int) == 0)=true then _ else _) _ _ s
 rw [if_neg (by decide)]
 refine Bv (lu pl (Bv (lu pu (Bv (Bw ?_)))))
 show wpAny _ _ (match Builtin.Slice.sliceAdjust lo hi 1 (n:Int) with | (lo,hi)=>pure (lo,(1:Int),Builtin.Slice.slicePlaces lo hi 1)) _ _ s
 rw [rT lo hi n]
 show wpAny _ _ (pure (((sIx n 0 lo:Nat):Int),(1:Int),Builtin.Slice.slicePlaces ((sIx n 0 lo:Nat):Int) ((sIx n n hi:Nat):Int) 1)) _ _ s
 rw [qS]
 exact Bw h
theorem vv (xs:Array Value) (i k:Nat):((List.range k).filterMap fun (m:Nat)=>xs[((i:Int)+(m:Int) * 1).toNat]?).toArray=((xs.toList.drop i).take k).toArray:=by
 have e:(fun (m:Nat)=>xs[((i:Int)+(m:Int) * 1).toNat]?)=fun m=>xs[i+m]?:=by
  funext m
  have:((i:Int)+(m:Int) * 1).toNat=i+m:=by omega
  rw [this]
 rw [e]
 have:=pick_run xs i k
 rw [List.filterMap_map] at this
 have a:((fun x=>xs[x]?) ∘ fun x=>i+x)=fun m=>xs[i+m]?:=rfl
 rw [a] at this
 rw [this]
theorem getItem_tuple_cut {lo hi:Option Int} (b:IsTup s.heap t items) (g:s.heap.IsSliceOf sl vl vu .none) (pl:IsPart vl lo) (pu:IsPart vu hi) (hw:¬ (sIx items.size 0 lo=0/\sIx items.size items.size hi=items.size)) (h:Q (.ref s.heap.objs.size) { s with heap:=s.heap.push { cls:=.type "tuple",data:=.seq ((items.toList.drop (sIx items.size 0 lo)).take (sIx items.size items.size hi - sIx items.size 0 lo)).toArray } }) (hsz:items.size<=sizeLine):wpAny (model prog w) A (getItem (.ref t) (.ref sl)) Q E s:=by
 have a:sizeOk (.seq ((items.toList.drop (sIx items.size 0 lo)).take (sIx items.size items.size hi - sIx items.size 0 lo)).toArray):=by
  show ((items.toList.drop (sIx items.size 0 lo)).take (sIx items.size items.size hi - sIx items.size 0 lo)).toArray.size<=sizeLine
  rw [BS,B1,List.length_drop,Array.length_toList]
  omega
 have k:sIx items.size items.size hi<=items.size:=zR _ _ (BP _) hi
 obtain ⟨os,c,f,i⟩:=id g
 have e:s.TypeIs (.ref sl) "slice":=⟨os,c,f⟩
 unfold getItem
 try with_reducible refine Bx ?_
 first | refine Bv (Bw ?_) | skip
 refine Bv (wpAny_sequenceKey b.typeIs (by decide) ?_)
 refine Bv (wpAny_callSpecial?_slot (name:=Str.ofString "__getitem__") b.typeIs PyProof.Rows.slot_tuple_getitem
  (wpAny_call_entry PyProof.Rows.slot_tuple_getitem b.typeIs entry_tuple_getitem ?_ (args_tuple_getitem _ _)))
 show wpAny _ _ (Builtin.Tuple.tupleItemsOf (.ref t) >>= _) _ _ s
 refine Bv (tupleItemsOf_ b ?_)
 refine Bv (wpAny_typeOf e ?_)
 rw [if_pos (by decide)]
 refine Bv (eQ g pl pu ?_)
 have d:¬ ((((sIx items.size 0 lo:Nat):Int) == 0 && (1:Int) == 1 && (sIx items.size items.size hi - sIx items.size 0 lo) == items.size)=true):=by
  intro q
  rw [Bool.and_eq_true,Bool.and_eq_true] at q
  have j:((sIx items.size 0 lo:Nat):Int)=0:=eq_of_beq q.1.1
  have l:sIx items.size items.size hi - sIx items.size 0 lo=items.size:=eq_of_beq q.2
  exact hw ⟨by omega,by omega⟩
 show wpAny _ _ (if (((sIx items.size 0 lo:Nat):Int) == 0 && (1:Int) == 1 && (sIx items.size items.size hi - sIx items.size 0 lo) == items.size)=true then _ else _) _ _ s
 rw [if_neg d,vv]
 first
  | exact Bv (m:=Builtin.Tuple.tupleExact _) (wpAny_newObj_type (Bw ⟨_,rfl,Bw h⟩) a)
  | exact Bv (m:=Builtin.Tuple.tupleExact _) (wpAny_newObj_type (Bv (Bw (Bw ⟨_,rfl,Bw h⟩))) a)
  | exact Bv (Bv (m:=Builtin.Tuple.tupleExact _) (wpAny_newObj_type (Bw (Bw ⟨_,rfl,Bw h⟩)) a))
  | exact Bv (Bv (m:=Builtin.Tuple.tupleExact _) (wpAny_newObj_type (Bw ⟨_,rfl,Bw h⟩) a))
end
end HT
namespace L2
open PySem PySem.Spec PyProof.Rows
abbrev TO:=St->Hp->(Option Int->Hp->Prop)->Prop
def PO (X:Cx) (e:Option Expr) (t:TO):Prop :=
 ∀ (pins:List (Addr × Obj)) (s:Shared) (σ:St) (H:Hp) (Q:Option Int->Hp->Prop),Inv X pins σ H s->t σ H Q ->
  wpAny (model X.prog X.w) X.A (evalPart e X.env) (fun u s'=>∃ o H',Inv X pins σ H' s'/\IsPart u o/\Q o H') X.xe s
def xg:TO:=fun _ H Q=>Q none H
def tPart (t:TE):TO:=fun σ H Q=>t σ H fun x H1=>∃ i,x=.int i/\Q (some i) H1
section
variable {X:Cx} {e:Expr} {te:TE} {lo hi:Option Expr} {tl th:TO} {pos p2:Pos}
theorem xR:PO X none xg:=by
 intro pins s σ H Q I h
 rw [evalPart_none]
 exact Bw ⟨none,H,I,.none,h⟩
theorem xQ (h:PE X e te):PO X (some e) (tPart te):=by
 intro pins s σ H Q I hw
 rw [evalPart_some]
 refine thn (h pins s σ H _ I hw) fun u s1 ⟨x,H1,c,a,b⟩=>?_
 obtain ⟨i,rfl,q⟩:=b
 obtain ⟨t,rfl⟩:=a
 exact ⟨some i,H1,c,.int i t,q⟩
def SlR (X:Cx) (r:V->Option Int->Option Int->Hp->VK->Prop):Prop :=
 ∀ (pins:List (Addr × Obj)) (s:Shared) (σ:St) (H:Hp) (x:V) (v b a:Value) (lo hi:Option Int) (sl:Addr) (Q:VK),Inv X pins σ H s->RelV x v->s.heap.IsSliceOf sl b a .none->IsPart b lo->IsPart a hi->r x lo hi H Q ->
  ∃ T id,typeLookup (.type T) "__getitem__"=pure (some (.builtin id))/\s.TypeIs v T/\wpAny (model X.prog X.w) X.A (getItem v (.ref sl)) (EP X pins σ Q) X.xe s
theorem SlR.or (h:SlR X r) (h':SlR X r'):SlR X (fun x lo hi H Q=>r x lo hi H Q\/r' x lo hi H Q):=by
 intro pins s σ H x v a c lo hi sl Q I d b pl pu q
 rcases q with q | q
 ·exact h pins s σ H x v a c lo hi sl Q I d b pl pu q
 ·exact h' pins s σ H x v a c lo hi sl Q I d b pl pu q
def tSl (r:V->Option Int->Option Int->Hp->VK->Prop) (te:TE) (tl th:TO):TE:=fun σ H Q=>te σ H fun x H1=>tl σ H1 fun l H2=>th σ H2 fun u a=>r x l u a Q
theorem vx (y:SlR X r) (he:PE X e te) (i:PO X lo tl) (hu:PO X hi th):PE X (.Subscript e (.Slice lo hi none p2) pos) (tSl r te tl th):=by
 intro pins s σ H Q I h
 refine Subscript_ (thn (he pins s σ H _ I h) fun v s1 ⟨x,H1,p,f,j⟩=>?_)
 refine wpAny_Slice (thn (i pins s1 σ H1 _ p j) fun c s2 ⟨l,H2,k,pl,z⟩=>thn (hu pins s2 σ H2 _ k z) fun a s3 ⟨u,d,m,pu,B⟩=>?_)
 rw [evalPart_none]
 refine Bw ?_
 have n:Inv X pins σ d { s3 with heap:=s3.heap.push { cls:=.type "slice",data:=.fields #[c,a,.none] } }:=m.kept (t':=s3.toks) fun b ob q=>BA _ q
 obtain ⟨T,id,g,t,o⟩:=y pins { s3 with heap:=s3.heap.push { cls:=.type "slice",data:=.fields #[c,a,.none] } } σ d x v c a l u s3.heap.objs.size Q n f (Heap.IsSliceOf.new ..) pl pu B
 show wpAny (model X.prog X.w) X.A (subscriptTail e (.Slice lo hi none p2) v (.ref s3.heap.objs.size)) (EP X pins σ Q) X.xe { s3 with heap:=s3.heap.push { cls:=.type "slice",data:=.fields #[c,a,.none] } }
 exact tail_any (ops:=[.ref s3.heap.objs.size,v]) t g o (by with_unfolding_all rfl)
def qk (xs:List V) (lo hi:Option Int):List V:=(xs.drop (HT.sIx xs.length 0 lo)).take (HT.sIx xs.length xs.length hi - HT.sIx xs.length 0 lo)
theorem kB (xs:List V) (lo hi:Option Int):(qk xs lo hi).length<=xs.length:=by
 unfold qk
 rw [B1,List.length_drop]
 omega
def Ah (K:FG):V->Option Int->Option Int->Hp->VK->Prop:=fun x lo hi H Q=>∃ a xs,x=.ref a/\SqT K H a xs /\
 ¬ (HT.sIx xs.length 0 lo=0/\HT.sIx xs.length xs.length hi=xs.length)/\∀ p,H p=none->Q (.ref p) (upd H p (.tup (qk xs lo hi)))
theorem sl_tup:SlR X (Ah X.K):=by
 intro pins s σ H x v g i lo hi sl Q I f d pl pu h
 obtain ⟨a,xs,rfl,e,hw,q⟩:=h
 cases f
 obtain ⟨its,r,c,hz⟩:=I.tuple e
 have hlen:its.toArray.size=xs.length:=by rw [BS];exact r.length.symm
 refine ⟨"tuple",_,PyProof.Rows.slot_tuple_getitem.lookup,c.typeIs,?_⟩
 refine HT.getItem_tuple_cut c d pl pu (by rw [hlen];exact hw) ?_ (by rw [hlen];exact hz)
 rw [hlen]
 refine ⟨.ref s.heap.objs.size,_,I.laid (t':=s.toks) (o:=.tup (qk xs lo hi)) (fun b ob q=>BA _ q) (BP _) ?_,rfl,q _ (I.hok.fresh (BP _))⟩
 exact ⟨Cf (kB xs lo hi) hz,_,(r.drop (HT.sIx xs.length 0 lo)).take (HT.sIx xs.length xs.length hi - HT.sIx xs.length 0 lo),IsTupD.new _ _⟩
def sj (K:FG):R2:=fun x y H Q=>∃ a b xs ys,x=.ref a/\y=.ref b/\SqT K H a xs/\SqT K H b ys/\xs ≠ []/\xs.length+ys.length<=sizeLine /\
 (ys=[]->Q (.ref a) H)/\(ys ≠ []->∀ p,H p=none->Q (.ref p) (upd H p (.tup (xs ++ ys))))
theorem Vals.nil_iff (r:Vals xs us):us=[] ↔ xs=[]:=by
 cases r with
 | nil=>simp
 | cons _ _=>simp
theorem op_catT:OpR X (binaryOp .Add) (sj X.K):=by
 intro pins s σ H x y v u Q I n i h
 obtain ⟨a,b,xs,ys,rfl,rfl,k,g,l,hz,f,j⟩:=h
 cases n
 cases i
 obtain ⟨its,d,m,_⟩:=I.tuple k
 obtain ⟨e,c,p2,_⟩:=I.tuple g
 refine HT.cat_tup m p2 (fun z=>l (d.nil_iff.mp z)) (fun z=>⟨.ref a,H,I,rfl,f (c.nil_iff.mp z)⟩) (fun z=>?_) (by rw [<- d.length,<- c.length];exact hz)
 refine ⟨.ref s.heap.objs.size,_,I.laid (t':=s.toks) (o:=.tup (xs ++ ys)) (fun b ob q=>BA _ q) (BP _) ?_,rfl,j (fun w=>z (c.nil_iff.mpr w)) _ (I.hok.fresh (BP _))⟩
 exact ⟨by rw [BZ];exact hz,_,d.append c,IsTupD.new _ _⟩
end
end L2
namespace L2
open PySem PySem.Spec PyProof.Rows
def ixN (n:Nat) (i:Int):Option Nat:=if 0<=i then (if i < n then some i.toNat else none) else if -(n:Int)<=i then some (i+n).toNat else none
def atI {α:Type} (xs:List α) (i:Int):Option α:=(ixN xs.length i).bind fun j=>xs[j]?
theorem sH {n:Nat} {i:Int} {j:Nat} (h:ixN n i=some j):seqIndex? i n=some j/\j < n/\-(n:Int)<=i/\i < n:=by
 unfold ixN at h
 by_cases h0:0<=i
 ·rw [if_pos h0] at h
  by_cases h1:i < n
  ·rw [if_pos h1] at h
   have e:i.toNat=j:=Ch h
   exact ⟨by rw [seqIndex_of h0 h1,e],by omega,by omega,h1⟩
  ·rw [if_neg h1] at h;cases h
 ·rw [if_neg h0] at h
  by_cases h1:-(n:Int)<=i
  ·rw [if_pos h1] at h
   have e:(i+n).toNat=j:=Ch h
   exact ⟨by rw [seqIndex_neg (by omega) h1,e],by omega,h1,by omega⟩
  ·rw [if_neg h1] at h;cases h
theorem sZ {i:Int} (h:atI xs i=some v):∃ j,seqIndex? i xs.length=some j/\xs[j]?=some v/\j < xs.length/\-(xs.length:Int)<=i/\i < xs.length:=by
 unfold atI at h
 cases e:ixN xs.length i with
 | none=>rw [e] at h;cases h
 | some j =>
  rw [e] at h
  obtain ⟨h1,h2,h3,a⟩:=sH e
  exact ⟨j,h1,h,h2,h3,a⟩
def td (b:Expr):Prop:=∀ o i,subscripted b false o i=operate [o,i] (getItem o i)
def IxR (X:Cx) (r:R2):Prop :=
 ∀ (value slice:Expr) (pins:List (Addr × Obj)) (s:Shared) (σ:St) (H:Hp) (x y:V) (v u:Value) (Q:VK),Inv X pins σ H s->RelV x v->RelV y u->r x y H Q ->
  subscripted slice false v u=operate [v,u] (getItem v u)->wpAny (model X.prog X.w) X.A (subscriptTail value slice v u) (EP X pins σ Q) X.xe s
def MtR (X:Cx) (id:String) (r:V->List V->Hp->VK->Prop):Prop :=
 ∀ (pins:List (Addr × Obj)) (s:Shared) (σ:St) (H:Hp) (x:V) (xs:List V) (v:Value) (us:List Value) (Q:VK),Inv X pins σ H s->RelV x v->Vals xs us->r x xs H Q ->
  wpAny (model X.prog X.w) X.A (call (.builtin id) (v :: us)) (EP X pins σ Q) X.xe s
section
variable {X:Cx} {a b:Expr} {ta tb:TE} {pos:Pos}
theorem IxR.or (h:IxR X r) (h':IxR X r'):IxR X (fun x y H Q=>r x y H Q\/r' x y H Q):=by
 intro value slice pins s σ H x y v u Q I c b q a
 rcases q with q | q
 ·exact h value slice pins s σ H x y v u Q I c b q a
 ·exact h' value slice pins s σ H x y v u Q I c b q a
theorem pe_ix (e:IxR X r) (i:PE X a ta) (f:PE X b tb) (c:td b):PE X (.Subscript a b pos) (tOp r ta tb):=by
 intro pins s σ H Q I h
 exact Subscript_ (Bk i f I h fun v u s2 x y H2 d j g q=>e a b pins s2 σ H2 x y v u Q d j g q (c _ _))
def vj (K:FG):R2:=fun x y H Q=>∃ p xs i v,x=.ref p/\y=.int i/\SqL K H p xs/\atI xs i=some v/\Q v H
def vi (K:FG):R2:=fun x y H Q=>∃ p xs i v,x=.ref p/\y=.int i/\SqT K H p xs/\atI xs i=some v/\Q v H
theorem ix_list:IxR X (vj X.K):=by
 intro value slice pins s σ H x y v u Q I m k h d
 obtain ⟨p,xs,i,z,rfl,rfl,l,he,q⟩:=h
 cases m
 obtain ⟨t,rfl⟩:=k
 obtain ⟨its,r,pl,hz⟩:=I.list l
 obtain ⟨j,h1,h2,h3,g,e⟩:=sZ he
 obtain ⟨w,c,a⟩:=r.get h2
 have f:=r.length
 have n:=oD
 have fin:EP X pins σ Q w s:=⟨z,H,I,a,q⟩
 by_cases h0:0<=i
 ·have b:i.toNat=j:=by
   rw [seqIndex_of h0 e] at h1
   exact Ch h1
  exact item_listR pl.isList h0 (by omega) (by rw [b];simpa using c) fin d
 ·have b:(i+(its.toArray.size:Int)).toNat=j:=by
   rw [seqIndex_neg (by omega) g] at h1
   rw [BS,<- f]
   exact Ch h1
  exact subscriptTail_builtinR (x:=w) pl.isList.typeIs slot_list_getitem.lookup
   (wpAny_getItem_list_neg (Q:=fun r s'=>r=w/\EP X pins σ Q r s') pl.isList (by omega) (by rw [BS] <;> omega) (by omega) (by rw [b];simpa using c) ⟨rfl,fin⟩) d
theorem A3:IxR X (vi X.K):=by
 intro value slice pins s σ H x y v u Q I f d h g
 obtain ⟨p,xs,i,z,rfl,rfl,e,he,q⟩:=h
 cases f
 obtain ⟨t,rfl⟩:=d
 obtain ⟨its,r,pl,hz⟩:=I.tuple e
 obtain ⟨j,h1,h2,h3,l,k⟩:=sZ he
 obtain ⟨w,c,a⟩:=r.get h2
 have b:=r.length
 have m:=oD
 have fin:EP X pins σ Q w s:=⟨z,H,I,a,q⟩
 exact subscriptTail_builtinR (x:=w) pl.typeIs slot_tuple_getitem.lookup
  (getItem_tuple (j:=j) (Q:=fun r s'=>r=w/\EP X pins σ Q r s') pl (by omega) (by omega) (by rw [BS,<- b];exact h1) (by simpa using c) ⟨rfl,fin⟩) g
theorem qY (its:List Value) (n j:Nat) (u:Value):Obj.mapSeq (·.setIfInBounds j u) { cls:=.type "list",data:=.seq its.toArray n } = { cls:=.type "list",data:=.seq (its.set j u).toArray n }:=by
 simp [Obj.mapSeq]
theorem Inv.lst {pins:List (Addr × Obj)} {σ:St} {H:Hp} {s:Shared} {p:Addr} {xs:List V} (I:Inv X pins σ H s) (h:H p=some (.lst xs)) :
  ∃ (its:List Value) (n:Nat),Vals xs its/\s.heap.get? p=some { cls:=.type "list",data:=.seq its.toArray n }/\xs.length<=sizeLine:=by
 obtain ⟨z,its,n,r,e⟩:=I.hok p _ h
 exact ⟨its,n,r,e,z⟩
theorem Inv.lstUpd {its its':List Value} {n a:Nat} (I:Inv X pins σ H s) (h:H p=some (.lst xs)) (c:s.heap.get? p=some { cls:=.type "list",data:=.seq its.toArray n }) (hf:f { cls:=.type "list",data:=.seq its.toArray n } = { cls:=.type "list",data:=.seq its'.toArray a }) (r:Vals ys its') (hz:ys.length<=sizeLine) (t:Nat) :
  Inv X pins σ (upd H p (.lst ys)) { s with heap:=s.heap.update p f,toks:=t }:=by
 have e:(s.heap.update p f).get? p=some { cls:=.type "list",data:=.seq its'.toArray a }:=by
  rw [BY f c (by rw [hf] <;> rfl),hf]
 refine I.write (x:=p) (e:=p) (by rw [h];trivial) (.inl rfl) (fun b u d q=>(Cd _ _ (Ne.symm d)).trans q) ⟨_,e⟩ ?_
 exact ⟨hz,its',a,r,e⟩
def sf:V->V->V->Hp->(Hp->Prop)->Prop:=fun o i v H Q=>∃ p xs k j,o=.ref p/\i=.int k/\H p=some (.lst xs)/\ixN xs.length k=some j/\Q (upd H p (.lst (xs.set j v)))
theorem uO:wQ X sf:=by
 intro pins s σ H o i v x z u Q I l w g h
 obtain ⟨p,xs,k,j,rfl,rfl,f,m,q⟩:=h
 cases l
 obtain ⟨t,rfl⟩:=w
 obtain ⟨its,n,r,b,hz⟩:=I.lst f
 obtain ⟨h1,h2,h3,d⟩:=sH m
 have a:=r.length
 have y:=oD
 have e:Inv X pins σ (upd H p (.lst (xs.set j v))) { s with heap:=s.heap.update p (Obj.mapSeq (·.setIfInBounds j u)) } :=
  I.lstUpd f b (qY its n j u) (r.set g j) (by rw [List.length_set];exact hz) s.toks
 by_cases h0:0<=k
 ·have c:k.toNat=j:=by
   rw [seqIndex_of h0 d] at h1
   exact Ch h1
  exact PySem.W.ki_setAt b h0 (by omega) (by rw [BS,<- a];exact d) (by rw [c];exact ⟨_,e,q⟩)
 ·have c:(k+(its.toArray.size:Int)).toNat=j:=by
   rw [seqIndex_neg (by omega) h3] at h1
   rw [BS,<- a]
   exact Ch h1
  exact PySem.W.ki_setBack b (by omega) (by rw [BS,<- a];exact h3) (by omega) (by rw [c];exact ⟨_,e,q⟩)
theorem n4 (lo hi:Option Int) (n:Nat):(sliceBounds lo hi none n).1=((HT.sIx n 0 lo:Nat):Int)/\(sliceBounds lo hi none n).2.1=((HT.sIx n n hi:Nat):Int)/\(sliceBounds lo hi none n).2.2=1:=by
 refine ⟨?_,?_,rfl⟩
 ·cases lo with
  | none=>simp [sliceBounds,HT.sIx]
  | some i =>
   simp only [sliceBounds,HT.sIx,Option.getD_none,show (1:Int) > 0 by decide,if_true]
   by_cases h:i < 0
   ·simp only [h,if_true] <;> omega
   ·simp only [h,if_false] <;> omega
 ·cases hi with
  | none=>simp [sliceBounds,HT.sIx]
  | some i =>
   simp only [sliceBounds,HT.sIx,Option.getD_none,show (1:Int) > 0 by decide,if_true]
   by_cases h:i < 0
   ·simp only [h,if_true] <;> omega
   ·simp only [h,if_false] <;> omega
theorem mE (its:List Value) (lo hi:Option Int):slicePick its.toArray lo hi none=((its.drop (HT.sIx its.length 0 lo)).take (HT.sIx its.length its.length hi - HT.sIx its.length 0 lo)).toArray:=by
 obtain ⟨h1,h2,h3⟩:=n4 lo hi its.toArray.size
 unfold slicePick
 rw [h1,h2,h3]
 simp only [sliceRange_one,pick_run,BS] <;> rfl
def Ai (K:FG):V->Option Int->Option Int->Hp->VK->Prop:=fun x lo hi H Q=>∃ a xs,x=.ref a/\SqL K H a xs/\∀ p,H p=none->Q (.ref p) (upd H p (.lst (qk xs lo hi)))
theorem sl_list:SlR X (Ai X.K):=by
 intro pins s σ H x v g i lo hi sl Q I f d pl pu h
 obtain ⟨a,xs,rfl,e,q⟩:=h
 cases f
 obtain ⟨its,r,c,hz⟩:=I.list e
 have hlen:=r.length
 refine ⟨"list",_,slot_list_getitem.lookup,c.isList.typeIs,?_⟩
 refine wpAny_getItem_list_slice c.isList d pl pu .none (by simp) ?_ (by rw [BS] <;> omega)
 rw [mE,<- hlen]
 refine ⟨.ref s.heap.objs.size,_,I.laid (t':=s.toks) (o:=.lst (qk xs lo hi)) (fun b ob q=>BA _ q) (BP _) ?_,rfl,q _ (I.hok.fresh (BP _))⟩
 exact ⟨Cf (kB xs lo hi) hz,_,0,(r.drop (HT.sIx xs.length 0 lo)).take (HT.sIx xs.length xs.length hi - HT.sIx xs.length 0 lo),BI _ rfl⟩
def fM:V->Bool
 | .non=>true
 | .bl _=>true
 | .int _=>true
 | .str _=>true
 | _=>false
def eqV:V->V->Bool
 | .non,.non=>true
 | .bl a,.bl b=>a == b
 | .bl a,.int b=>(if a then 1 else 0) == b
 | .int a,.bl b=>a == (if b then 1 else 0)
 | .int a,.int b=>a == b
 | .str a,.str b=>a == b
 | _,_=>false
theorem Bb (d:RelV y u) (c:RelV x v) (e:fM y=true) (fx:fM x=true):SeqAt.EqAt A s u v (eqV y x):=by
 cases y with
 | non =>
  cases d
  cases x with
  | non=>cases c;exact SeqAt.EqAt.same _
  | bl b=>cases c;exact SeqAt.EqAt.none_bool b
  | int b=>obtain ⟨t,rfl⟩:=c;exact SeqAt.EqAt.none_int b t
  | str b=>obtain ⟨t,rfl⟩:=c;exact SeqAt.EqAt.none_str b t
  | _=>exact absurd (show false=true from fx) BQ
 | bl a =>
  cases d
  cases x with
  | non=>cases c;exact SeqAt.EqAt.bool_none a
  | bl b=>cases c;exact SeqAt.EqAt.bool_bool a b
  | int b=>obtain ⟨t,rfl⟩:=c;exact SeqAt.EqAt.bool_int a b t
  | str b=>obtain ⟨t,rfl⟩:=c;exact SeqAt.EqAt.bool_str a b t
  | _=>exact absurd (show false=true from fx) BQ
 | int a =>
  obtain ⟨t',rfl⟩:=d
  cases x with
  | non=>cases c;exact SeqAt.EqAt.int_none a t'
  | bl b=>cases c;exact SeqAt.EqAt.int_bool a t' b
  | int b=>obtain ⟨t,rfl⟩:=c;exact SeqAt.EqAt.int_int a t' b t
  | str b=>obtain ⟨t,rfl⟩:=c;exact SeqAt.EqAt.int_str a t' b t
  | _=>exact absurd (show false=true from fx) BQ
 | str a =>
  obtain ⟨t',rfl⟩:=d
  cases x with
  | non=>cases c;exact SeqAt.EqAt.str_none a t'
  | bl b=>cases c;exact SeqAt.EqAt.str_bool a t' b
  | int b=>obtain ⟨t,rfl⟩:=c;exact SeqAt.EqAt.str_int a t' b t
  | str b=>obtain ⟨t,rfl⟩:=c;exact SeqAt.EqAt.str_str a t' b t
  | _=>exact absurd (show false=true from fx) BQ
 | _=>exact absurd (show false=true from e) BQ
def eqU (x:V) (u:Value):Bool:=match u with
 | .none=>eqV .non x
 | .bool b=>eqV (.bl b) x
 | .int i _=>eqV (.int i) x
 | .str z _=>eqV (.str z) x
 | _=>false
theorem oP (r:RelV y u) (f:fM y=true):eqU x u=eqV y x:=by
 cases y with
 | non=>cases r;rfl
 | bl b=>cases r;rfl
 | int i=>obtain ⟨t,rfl⟩:=r;rfl
 | str z=>obtain ⟨t,rfl⟩:=r;rfl
 | _=>exact absurd (show false=true from f) BQ
theorem lL (a:RelV x v) (fx:fM x=true):∀ {xs:List V} {us:List Value},Vals xs us->xs.all fM=true->∀ u ∈ us,SeqAt.EqAt A s u v (eqU x u)
 | _,_,.nil,_=>fun u hu=>by cases hu
 | y :: xs,u :: us,.cons r t,f=>fun b hu=>by
  rw [List.all_cons,Bool.and_eq_true] at f
  rcases BE.mp hu with rfl | hu
  ·rw [oP r f.1];exact Bb r a f.1 fx
  ·exact lL a fx t f.2 b hu
theorem oX:df X (.builtin "len") (fun xs H Q=>∃ p ys,xs=[.ref p]/\(SqL X.K H p ys\/SqT X.K H p ys)/\Q (.int ys.length) H):=by
 intro pins s σ H xs us Q I r h
 obtain ⟨p,ys,rfl,a,q⟩:=h
 obtain ⟨u,rfl,c⟩:=kg r
 cases c
 have d:=oD
 rcases a with a | a
 ·obtain ⟨its,b,pl,hz⟩:=I.list a
  have hlen:=b.length
  exact Calls.call_len_list pl.isList (by simp only [BS] <;> omega) ⟨.int ys.length,H,I.tok _,⟨s.toks+1,by rw [BS,hlen]⟩,q⟩
 ·obtain ⟨its,b,pl,hz⟩:=I.tuple a
  have hlen:=b.length
  exact len_tuple pl (by simp only [BS] <;> omega) ⟨.int ys.length,H,I.tok _,⟨s.toks+1,by rw [BS,hlen]⟩,q⟩
theorem oW:df X (.type "list") (fun xs H Q=>∃ p ys,xs=[.ref p]/\(SqL X.K H p ys\/SqT X.K H p ys)/\∀ l,H l=none->Q (.ref l) (upd H l (.lst ys))):=by
 intro pins s σ H xs us Q I r h
 obtain ⟨p,ys,rfl,d,q⟩:=h
 obtain ⟨u,rfl,i⟩:=kg r
 cases i
 have fin:∀ (its:List Value),Vals ys its->ys.length<=sizeLine->∀ (h':Heap) (c:Nat),(∀ b o',s.heap.get? b=some o'->h'.get? b=some o') ->
   h'.get? s.heap.objs.size=some { cls:=.type "list",dict:=none,data:=.seq its.toArray c,slots:=#[] }->EP X pins σ Q (.ref s.heap.objs.size) { s with heap:=h' }:=fun its a hz h' c kp e =>
  ⟨.ref s.heap.objs.size,_,I.laid (t':=s.toks) kp (BP _) (show ObjOk X.prog X.w _ h' _ (.lst ys) from ⟨hz,its,c,a,e⟩),rfl,q _ (I.hok.fresh (BP _))⟩
 rcases d with d | d
 ·obtain ⟨its,a,pl,hz⟩:=I.list d
  have hlen:=a.length
  obtain ⟨o,f,g,n,hd⟩:=pl.isList
  exact call_list_seq p (.inl rfl) f g hd (fun h' c kp e=>fin its a hz h' c kp e) (by simp only [BS] <;> omega)
 ·obtain ⟨its,a,pl,hz⟩:=I.tuple d
  have hlen:=a.length
  obtain ⟨o,f,g,n,hd⟩:=pl
  exact call_list_seq p (.inr rfl) f g hd (fun h' c kp e=>fin its a hz h' c kp e) (by simp only [BS] <;> omega)
theorem mT:df X (.type "tuple") (fun xs H Q=>∃ p ys,xs=[.ref p]/\((SqL X.K H p ys/\∀ l,H l=none->Q (.ref l) (upd H l (.tup ys)))\/(SqT X.K H p ys/\Q (.ref p) H))):=by
 intro pins s σ H xs us Q I r h
 obtain ⟨p,ys,rfl,h⟩:=h
 obtain ⟨u,rfl,g⟩:=kg r
 cases g
 rcases h with ⟨a,q⟩ | ⟨a,q⟩
 ·obtain ⟨its,c,pl,hz⟩:=I.list a
  have hlen:=c.length
  refine call_tuple_list pl.isList (fun h' kp=>?_) (by simp only [BS] <;> omega)
  have d:Inv X pins σ H { s with heap:=h' }:=I.kept (t':=s.toks) kp
  have f:Inv X pins σ (upd H h'.objs.size (.tup ys)) { s with heap:=h'.push { cls:=.type "tuple",data:=.seq its.toArray } } :=
   d.laid (t':=s.toks) (fun b o e=>BA _ e) (BP _) (show ObjOk X.prog X.w _ _ _ (.tup ys) from ⟨hz,its,c,IsTupD.new _ _⟩)
  exact ⟨.ref h'.objs.size,_,f,rfl,q _ (d.hok.fresh (BP _))⟩
 ·obtain ⟨its,c,pl,hz⟩:=I.tuple a
  exact call_tuple_same pl ⟨.ref p,H,I,rfl,q⟩
def tyV (K:FG) (T:String) (x:V) (H:Hp):Prop:=match x with
 | .str _=>T = "str"
 | .int _=>T = "int"
 | .ref p=>(T = "list"/\∃ xs,SqL K H p xs)\/(T = "tuple"/\((∃ o,K.lookup p=some o/\o.cls=.type "tuple"/\o.dict=none)\/∃ xs,H p=some (.tup xs))) \/
   (T = "dict"/\((∃ a,H p=some (.dK a))\/∃ a,H p=some (.dT a)))\/(T = "set"/\∃ S n,H p=some (.set S n))
 | _=>False
theorem zu (I:Inv X pins σ H s) (r:RelV x v) (ty:tyV X.K T x H) :
  s.TypeIs v T/\∀ a,v=.ref a->∃ ob,s.heap.get? a=some ob/\ob.dict=none:=by
 cases x with
 | str z =>
  obtain ⟨t,rfl⟩:=r
  cases (show T = "str" from ty)
  exact ⟨typeIs_str s z t,fun _ e=>nomatch e⟩
 | int i =>
  obtain ⟨t,rfl⟩:=r
  cases (show T = "int" from ty)
  exact ⟨typeIs_int s i t,fun _ e=>nomatch e⟩
 | ref p =>
  cases r
  rcases ty with ⟨rfl,xs,k⟩ | ⟨rfl,⟨o,b,h,hd⟩ | ⟨xs,j⟩⟩ | ⟨rfl,b⟩ | ⟨rfl,S,n,b⟩
  ·obtain ⟨its,_,pl,_⟩:=I.list k
   refine ⟨pl.isList.typeIs,fun a e=>?_⟩
   cases e
   obtain ⟨o,n,e,c,hd,_⟩:=pl
   exact ⟨o,e,hd⟩
  ·refine ⟨⟨o,I.kIn p o b,h⟩,fun a e=>?_⟩
   cases e
   exact ⟨o,I.kIn _ o b,hd⟩
  ·obtain ⟨_,its,_,o,e,c,n,d⟩:=I.hok p _ j
   refine ⟨⟨o,e,c⟩,fun a f=>?_⟩
   cases f
   exact ⟨o,e,congrArg Prod.snd d⟩
  ·have z:∃ o,s.heap.get? p=some o/\o.ExactDict:=by
    rcases b with ⟨g,b⟩ | ⟨g,b⟩
    ·obtain ⟨_,_,_,_,o,_,_,e,ex,_⟩:=I.hok p _ b
     exact ⟨o,e,ex⟩
    ·obtain ⟨_,_,_,_,o,_,_,e,ex,_⟩:=I.hok p _ b
     exact ⟨o,e,ex⟩
   obtain ⟨o,e,ex⟩:=z
   refine ⟨⟨o,e,ex.1⟩,fun a f=>?_⟩
   cases f
   exact ⟨o,e,ex.2.1⟩
  ·obtain ⟨o,_,_,_,e,ex,_⟩:=I.hok p _ b
   refine ⟨⟨o,e,ex.1⟩,fun a f=>?_⟩
   cases f
   exact ⟨o,e,ex.2.1⟩
 | _=>exact False.elim ty
def tBM (K:FG) (T:String) (r:V->List V->Hp->VK->Prop) (to:TE) (t:TA):TE:=fun σ H Q=>to σ H fun x H1=>tyV K T x H1/\t σ H1 fun xs H2=>r x xs H2 Q
variable {o e:Expr} {es:List Expr} {to:TE} {t:TA} {name:Str} {apos cpos:Pos} {T id:String} {r:V->List V->Hp->VK->Prop}
theorem yY (y:PlainAttrs T) (slot:Slot T name id) (f:typeOf (.builtin id)=pure (.type "method_descriptor")) (hm:MtR X id r) (p:PE X o to) (u:PA X (e :: es) t)
  (b:attributeBase o name X.env (eval o X.env)=eval o X.env:=by rfl)
  (d:((backTo cpos (starEach (e :: es) X.env)).all (fun x=>!x.1) && (backToKw cpos (keywordEach [] X.env)).all (fun x=>x.1.isSome)
   && decide ((e :: es).length+([]:List Keyword).length+(if ([]:List Keyword).isEmpty then 0 else 1) < 30))=true:=by rfl)
  (c:(apos.endLine == cpos.line)=true:=by rfl) (m:starEach (e :: es) X.env=(false,eval e X.env) :: starEach es X.env:=by rfl) (a:(backTo cpos (starEach es X.env)).any (·.1)=false:=by rfl) :
  PE X (.Call (.Attribute o name apos) (e :: es) [] cpos) (tBM X.K T r to t):=by
 intro pins s σ H Q I h
 refine wpAny_Call_method_late b d c rfl (thn (p pins s σ H _ I h) fun v s1 ⟨x,H1,j,g,ty,l⟩=>?_)
 obtain ⟨h1,h2⟩:=zu j g ty
 refine ⟨T,id,y,slot,f,h1,h2,?_⟩
 have i:=u cpos pins s1 σ H1 _ j l
 rw [m] at i ⊢
 refine Calls.callWith_builtin (by show (false || (backTo cpos (starEach es X.env)).any (·.1))=false;rw [a] <;> rfl) (Calls.evalArgs_plain ?_)
 exact thn i fun us s2 ⟨w,H2,n,k,q⟩=>hm pins s2 σ H2 x w v us Q n g k q
end
end L2
namespace L2
open PySem PySem.Spec PyProof.Rows
def MtM (X:Cx) (id:String) (r:V->List V->Hp->VK->Prop):Prop :=
 ∀ (pins:List (Addr × Obj)) (s:Shared) (σ:St) (H:Hp) (x:V) (xs:List V) (v:Value) (us:List Value) (Q:VK),Inv X pins σ H s->RelV x v->Vals xs us->r x xs H Q ->
  wpAny (model X.prog X.w) X.A (call (.builtin id) (v :: us)) (EP X pins σ Q) X.xe s
theorem Vals.one:∀ {x:V} {us:List Value},Vals [x] us->∃ u,us=[u]/\RelV x u
 | _,_,.cons r .nil=>⟨_,rfl,r⟩
theorem Vals.rep (h:Vals xs us):∀ k:Nat,Vals (List.replicate k xs).flatten (List.replicate k us).flatten
 | 0=>.nil
 | k+1=>by
  rw [List.replicate_succ,List.replicate_succ,List.flatten_cons,List.flatten_cons]
  exact Vals.append h (Vals.rep h k)
section
variable {X:Cx} {pins:List (Addr × Obj)} {σ:St} {H:Hp} {s:Shared} {l b:Addr} {xs ys zs:List V}
theorem Inv.lset {its its':List Value} {n:Nat} {t':Nat} (I:Inv X pins σ H s) (c:H l=some (.lst xs)) (e:s.heap.get? l=some { cls:=.type "list",data:=.seq its.toArray n }) (hf:f its.toArray=its'.toArray) (b:Vals ys its') (hz:ys.length<=sizeLine) :
  Inv X pins σ (upd H l (.lst ys)) { s with heap:=s.heap.update l (Obj.mapSeq f),toks:=t' }:=by
 have q:=PySem.IsL.update e f
 rw [hf] at q
 refine I.write (x:=l) (e:=l) (by rw [c];exact trivial) (.inl rfl) (fun d u a hu=>(Cd s.heap (Obj.mapSeq f) (Ne.symm a)).trans hu) ⟨_,q⟩ ?_
 exact ⟨hz,its',_,b,q⟩
theorem Inv.lnew {t':Nat} (I:Inv X pins σ H s) (a:Vals ys its) (hz:ys.length<=sizeLine) :
  Inv X pins σ (upd H s.heap.objs.size (.lst ys)) { s with heap:=s.heap.push { cls:=.type "list",data:=.seq its.toArray },toks:=t' } :=
 I.laid (fun _ _ q=>BA _ q) (BP _) ⟨hz,its,0,a,BI _ rfl⟩
theorem Inv.fresh (I:Inv X pins σ H s):H s.heap.objs.size=none:=I.hok.fresh (BP _)
theorem Inv.lstM (I:Inv X pins σ H s) (a:H l=some (.lst xs)):xs.length<=sizeLine/\∃ (its:List Value) (n:Nat),Vals xs its/\xs.length=its.length/\s.heap.get? l=some { cls:=.type "list",data:=.seq its.toArray n }:=by
 obtain ⟨z,its,n,r,e⟩:=I.hok l _ a
 exact ⟨z,its,n,r,r.length,e⟩
theorem vH {n:Nat} (h:n<=sizeLine):Builtin.List.listTooLong n=false:=by
 unfold Builtin.List.listTooLong
 exact BV (by omega)
end
section
variable {X:Cx}
def sk:V->List V->Hp->VK->Prop:=fun x a H Q=>∃ l xs y,x=.ref l/\a=[y]/\H l=some (.lst xs)/\xs.length < sizeLine/\Q .non (upd H l (.lst (xs ++ [y])))
theorem tY:MtM X "list.append" sk:=by
 intro pins s σ H x g v us Q I d c h
 obtain ⟨l,xs,y,rfl,rfl,a,hz,q⟩:=h
 cases d
 obtain ⟨u,rfl,b⟩:=c.one
 obtain ⟨z,its,n,r,f,e⟩:=I.lstM a
 refine call_meets F.slot_list_append ⟨_,e,rfl⟩ F.entry_list_append (F.args_list_append_2 _ _) (PySem.list_append l its.toArray n u (by rw [BS];omega)) ⟨e,?_⟩
 refine ⟨.non,_,I.lset (its':=its ++ [u]) a e (by simp) (r.append (.cons b .nil)) ?_,rfl,q⟩
 rw [BZ,List.length_singleton]
 omega
def sh:V->List V->Hp->VK->Prop:=fun x a H Q=>∃ l b xs zs,x=.ref l/\a=[.ref b]/\H l=some (.lst xs)/\H b=some (.lst zs)/\xs.length+zs.length<=sizeLine/\Q .non (upd H l (.lst (xs ++ zs)))
theorem tW:MtM X "list.extend" sh:=by
 intro pins s σ H x y v us Q I p i h
 obtain ⟨l,b,xs,zs,rfl,rfl,d,j,hz,q⟩:=h
 cases p
 obtain ⟨u,rfl,f⟩:=i.one
 cases f
 obtain ⟨z,its,n,r,t,e⟩:=I.lstM d
 obtain ⟨w,a,k,g,m,o⟩:=I.lstM j
 have hsz:its.toArray.size+a.toArray.size<=sizeLine:=by rw [BS,BS];omega
 have c:¬ (!its.toArray.isEmpty && Builtin.List.listTooLong (its.toArray.size+a.toArray.size))=true:=by
  rw [vH hsz,Bool.and_false]
  exact BQ
 refine call_meets F.slot_list_extend ⟨_,e,rfl⟩ F.entry_list_extend (F.args_list_extend_2 _ _)
  (AutoSeq1.list_extend_list_list_0 l its.toArray n b a.toArray k c (by rw [BS];omega) (by omega)) ⟨e,o,?_⟩
 refine ⟨.non,_,I.lset (its':=its ++ a) d e (by simp) (r.append g) ?_,rfl,q⟩
 rw [BZ]
 omega
def xK:R2:=fun x y H Q=>∃ l b xs zs,x=.ref l/\y=.ref b/\H l=some (.lst xs)/\H b=some (.lst zs)/\xs.length+zs.length<=sizeLine/\∀ p,H p=none->Q (.ref p) (upd H p (.lst (xs ++ zs)))
theorem AI:OpR X (binaryOp .Add) xK:=by
 intro pins s σ H x y v u Q I m i h
 obtain ⟨l,b,xs,zs,rfl,rfl,j,d,hz,q⟩:=h
 cases m
 cases i
 obtain ⟨z,its,n,r,o,e⟩:=I.lstM j
 obtain ⟨t,a,p,c,f,g⟩:=I.lstM d
 refine PySem.P.add_list e g ?_ (by rw [BS,BS];omega)
 have k:its.toArray ++ a.toArray=(its ++ a).toArray:=by simp
 rw [k]
 exact ⟨.ref _,_,I.lnew (t':=s.toks) (r.append c) (by rw [BZ];omega),rfl,q _ I.fresh⟩
end
end L2
namespace Att
open PySem PySem.W PySem.Calls PyProof.Rows
theorem kN:∀ (ns:List Int) (c:List Value),WellAll P h c (ns.map WData.int)->IntsAre c ns:=by
 intro ns
 induction ns with
 | nil =>
  intro c w
  rw [List.map_nil] at w
  cases w
  exact .nil
 | cons n ns ih =>
  intro c w
  rw [BTz] at w
  cases w with
  | cons a b =>
   cases a
   exact .cons _ _ (ih _ b)
theorem tD {l:OpenLaw} {n:Nat} (k:l.most=some n) (b:l.row.toRowW.claim.pre args=true) (g:WellAll P h vals args) :
  ∃ a j ns,vals=[Value.ref a]/\args=[WData.list (ns.map WData.int)]/\h.get? a=some { cls:=.type "list",data:=.seq j.toArray }/\IntsAre j ns/\ns.length<=n:=by
 have f:WShape.hasAll [] args [.list .int]=true:=(pre_splitW b).1
 have i:l.pre.holds [] { args:=args }=true:=(pre_splitW b).2
 obtain ⟨d,r,rfl,h1,h2⟩:=hasAllW_cons f
 obtain rfl:=hasAllW_nil h2
 obtain ⟨xs,rfl,h3⟩:=hasW_list h1
 obtain ⟨ns,rfl⟩:=items_int h3
 have hlen:ns.length<=n:=by
  unfold OpenLaw.pre at i
  have e:(WTm.not (.lt (.lit (.int (n:Int))) (.len (.arg 0)))).holds [] { args:=[.list (ns.map .int)] }=true:=by
   have e:=(holds_andW i).1
   rw [k] at e
   exact e
  have c:=condW_of e (w_not (w_lt w_lit (w_len_list (w_arg rfl))))
  rw [BJ] at c
  refine Nat.le_of_not_lt fun q=>?_
  have m:(n:Int) < ((ns.length:Nat):Int):=by omega
  first
   | (rw [BU m] at c;exact absurd c (by decide))
   | (simp at c;omega)
 cases g with
 | cons w1 w2 =>
  cases w2
  cases w1 with
  | list ho hall=>exact ⟨_,_,ns,rfl,rfl,ho,kN ns _ hall,hlen⟩
theorem tN (l:OpenLaw) (args:List WData):l.row.toRowW.claim.post args (.bool true) args=true :=
 postW_of (r:=l.row.toRowW) (X:=(true == true))
  (show WShape.has [] (.bool true) .bool=true by first | rfl | decide | simp [WShape.has,WShape.arms,WShape.armsAll])
  (show (WTm.eq .res (.lit (.bool true))).value [] { args:=args,res:=some (.bool true),after:=args }=some (.bool (true == true)) from w_eq_bool (w_res rfl) w_lit) rfl
theorem attach_call {l:OpenLaw} {n:Nat} (u:l.most=some n) (m:d.params.defaults=[]) (call:∀ (w:World) (s₀ b:Shared) (mg mb:Str->Option Value) (g:Addr) (o:Obj) (pm cd doc:Value) (a:Addr) (c:List Value) (ns:List Int),
   Ground q loose [] XP w s₀ mg mb b.heap->YP w b.heap ->
   b.heap.get? g=some o->o.data=.func (docDef d.name d.params d.body d.scope pm cd doc)->b.heap.CodeRec cd d.name->mg d.name=some (.ref g) ->
   b.heap.get? a=some { cls:=.type "list",data:=.seq c.toArray }->IntsAre c ns->ns.length<=n->b.gens = #[] ->
   codeAny (model l.prog w) callerA (.call (.ref g) ⟨[.ref a],[]⟩) (fun r s'=>r=.ok (.ret (.bool true))/\OldK b.heap s'.heap/\s'.os=b.os/\AllBare s'.gens) b) :
  WalkO q loose XP YP l.row.toRowW d [] (fun f c=>PySem.call f c):=by
 intro w s₀ b mg mb G Y g o pm cd doc y kV v hd i p k A args vals as h s z j B
 obtain rfl:y=.none:=Dflts.none p m
 obtain rfl:kV=.none:=Dflts.noKw p
 obtain ⟨a,c,ns,rfl,rfl,e,hints,hlen⟩:=tD u h j
 refine enter_call (codeAny_mono (call w s₀ b mg mb g o pm cd doc a c ns G Y v (fd_plain hd) i k e hints hlen A) fun r s' x=>?_)
 obtain ⟨rfl,h2,h3,t⟩:=x
 exact ⟨.inl ⟨.bool true,.bool true,[],rfl,fun _=>rfl,.bool true,tN l _,fun _=>⟨List.Pairwise.nil,fun _ hm=>(nomatch hm)⟩⟩,h2,h3,t⟩
end Att
namespace L2
open PySem PySem.Spec PyProof.Rows
theorem nb:∀ {a:List Value} {ns:List Int},IntsAre a ns->Vals (ns.map V.int) a
 | _,_,.nil=>.nil
 | _,_,.cons n t h=>.cons ⟨t,rfl⟩ (nb h)
def yO (H:Hp):Prop:=∀ b,H b=none\/∃ o xs,H b=some (.frz o (.lst xs))
theorem vW {K:FG} {k:Nat} (Q:K.In s₁.heap) (A:s₁.heap.Ns mainGlobals mg) (f:s₁.heap.Ns builtinsNs mb) (D:∀ x:Str,x ≠ "__name__"->mb x=bootBuiltins x) (y:s₁.heap.NoLimit) (U:s₁.gens = #[]) (B:s₁.heap.get? a=some { cls:=.type "list",data:=.seq vs.toArray }) (hi:IntsAre vs ns) (L:ns.length<=sizeLine) (X:Room k callerA) (F:∀ base:Heap,K.In base->base.Ns mainGlobals mg->FnOk P w K mg base CX k fa fd [x] sp) (i:∀ (s:Shared) (u:Value),BindsTo s fd ⟨[u],[]⟩ [(x,u)]) (C:∀ H:Hp,yO H->SqL K H a (ns.map V.int)->sp [.ref a] H (fun v _=>v=.bl true) fun _ _ _=>False) (G:∀ H e s',CX [] H s₁ (fun _ _ _=>False) e s'->False) :
  codeAny (model P w) callerA (.call (.ref fa) ⟨[.ref a],[]⟩) (fun r s'=>r=.ok (.ret (.bool true))/\OldK s₁.heap s'.heap/\s'.os=s₁.os/\AllBare s'.gens) s₁:=by
 have M:=nb hi
 have lenV:=hi.length
 have core:∀ H:Hp,yO H->SqL K H a (ns.map V.int)->HOk P w H s₁.heap->(∀ b,H b ≠ none->b=a)->(H a ≠ none->K.lookup a=none) ->
   codeAny (model P w) callerA (.call (.ref fa) ⟨[.ref a],[]⟩) (fun r s'=>r=.ok (.ret (.bool true))/\OldK s₁.heap s'.heap/\s'.os=s₁.os/\AllBare s'.gens) s₁:=by
  intro H N S hok O T
  have c:∀ {b:Addr} {o:Obj},s₁.heap.get? b=some o->H b=none->(oK s₁.heap H).get? b=some o:=fun e n=>wk e n
  have J:∀ {b:Addr} {o:Obj} {es:Array DictEntry} {l:Nat},s₁.heap.get? b=some o->o.data=.dict es l->H b=none:=fun {b o es l} e d=>by
   cases q:H b with
   | none=>rfl
   | some u =>
    have E:b=a:=O b (by rw [q];simp)
    subst E
    rw [B] at e;cases e
    have d':Data.seq vs.toArray _=Data.dict es l:=d
    cases d'
  have g:∀ {b:Addr} {m:Str->Option Value},s₁.heap.Ns b m->(oK s₁.heap H).Ns b m:=fun {b m} ⟨o,es,l,e,d,r⟩=>⟨o,es,l,c e (J e d),d,r⟩
  have p:K.In (oK s₁.heap H):=fun b o e=>c (Q b o e) (by
   cases q:H b with
   | none=>rfl
   | some u =>
    have E:b=a:=O b (by rw [q];simp)
    subst E
    rw [T (by rw [q];simp)] at e;cases e)
  have Z:Mod K mg (oK s₁.heap H):=⟨p,g A,⟨mb,g f,D⟩,let ⟨mc,h1,h2⟩:=y;⟨mc,g h1,h2⟩⟩
  have e0:Env0 P w K mg (oK s₁.heap H) callerA [] s₁ H:=⟨rfl,Z,fun b o e=>xX e,Nat.le_of_eq (t9 _ _),trivial,fun b f=>absurd (show b ∈ ([]:List Addr) from f) (by simp),hok,.of_eq U⟩
  refine codeAny_mono ((F _ p (g A)).run callerA [] s₁ H ⟨[.ref a],[]⟩ [.ref a] [.ref a] _ _ X e0 (i s₁ (.ref a)) (.cons rfl .nil) (C H N S)) fun r s' h=>?_
  cases r with
  | error e=>exact (G H e s' h).elim
  | ok fl =>
   cases fl with
   | next=>exact False.elim h
   | brk=>exact False.elim h
   | cont=>exact False.elim h
   | ret u =>
    obtain ⟨v,H',os,bare,un,t,W,q⟩:=h
    have R:v=.bl true:=q
    subst R
    obtain rfl:u=Value.bool true:=W
    refine ⟨rfl,OldK.of_keep fun b o e=>?_,os,bare⟩
    cases q:H b with
    | none=>exact un.keep b o e q (by intro z;exact absurd (show b ∈ ([]:List Addr) from z) (by simp)) (by simp)
    | some u =>
     rcases N b with z | ⟨ob,xs,z⟩
     ·rw [q] at z;cases z
     ·have z2:=un.frzs b ob _ z
      obtain ⟨e1,_⟩:=hok b _ z
      obtain ⟨Y,_⟩:=t b _ z2
      rw [e] at e1;cases e1
      exact Y
 cases I:K.lookup a with
 | some o =>
  have e:=Q a o I
  rw [B] at e
  cases e
  refine core (fun _=>none) (fun _=>.inl rfl) (.inr ⟨_,vs.toArray,_,I,rfl,rfl,rfl,by rw [BS,lenV];exact L,by simpa using M⟩) (fun b u z=>by have j:(none:Option HO)=some u:=z;cases j) (fun b z=>absurd rfl z) fun z=>absurd rfl z
 | none =>
  refine core (fun b=>if b=a then some (.frz { cls:=.type "list",data:=.seq vs.toArray } (.lst (ns.map V.int))) else none) (fun b=>?_) (.inl (.inr ⟨{ cls:=.type "list",data:=.seq vs.toArray },if_pos rfl⟩)) (fun b u z=>?_) (fun b z=>?_) fun _=>I
  ·by_cases f:b=a
   ·exact .inr ⟨_,_,if_pos f⟩
   ·exact .inl (if_neg f)
  ·by_cases f:b=a
   ·have j:=(if_pos f).symm.trans z
    cases j
    subst f
    exact ⟨B,by rw [BJ];exact L,vs,_,M,B⟩
   ·have j:=(if_neg f).symm.trans z
    cases j
  ·by_cases f:b=a
   ·exact f
   ·exact absurd (if_neg f) z
end L2
namespace L2
open PySem PySem.Spec PyProof.Rows
end L2
namespace L2
open PySem PySem.Spec PyProof.Rows
abbrev CX0:CXT:=fun _ _ _ _ _ _=>False
abbrev E0:XK:=fun _ _ _=>False
theorem pass0:rV CX0 X E0:=fun _ _ _ _ _ _ _ h=>h.elim
structure Fun (K:FG) (x qual:Str) (st:Stmt) (f:Addr) (fd:FuncData):Prop where
 ex:∃ (oc:Value) (od:Option Addr) (kV doc pm:Value) (an:Option Addr) (cdv ct:Value) (osl:Array (Option Value)),
  fd=PySem.W.fnOf x qual (aQ st) (aL st) (ac st) .none kV doc pm an cdv ct/\K.lookup f=some ⟨oc,od,.func fd,osl⟩/\PySem.W.codeIn K cdv qual=true
 kp:PySem.W.keepIn K (.ref f)=true
section
variable {P:Program} {w:World} {K:FG} {mg:Str->Option Value} {base:Heap}
theorem Fun.ok {st:Stmt} {k:Nat} (F:Fun K x qual st f fd) (S:FnScope N ps (ac st)) (len:∀ c H Q E,sp c H Q E->c.length=ps.length) (b:∀ (a:Value) (A:Around) (outer:List Env) (s:Shared) (H:Hp) (c:List V) (Q:VK) (E:XK),Room k (A.deeper (envOfC qual (ac st) s.heap.objs.size f a))->sp c H Q E ->
   ∃ t,PSs (dY CX0 P w K mg base N qual (ac st) f a A outer s H E).nox (aL st) t/\t { nx:=fun _ H'=>Q .non H',rt:=Q } (fK N c) H):FnOk P w K mg base CX0 (k+1) f fd ps sp:=by
 obtain ⟨l,m,kV,doc,pm,an,a,ct,j,rfl,i,d⟩:=F.ex
 refine zj i d S len fun A outer s H c Q E g e=>?_
 obtain ⟨t,h,q⟩:=b a A outer s H c Q E g e
 exact ⟨t,h.nox,q⟩
theorem Fun.binds {st:Stmt} (F:Fun K x qual st f fd) (h:∀ (kV doc pm:Value) (an:Option Addr) (a ct:Value) (us:List Value),us.length=ps.length->bindArgs (PySem.W.fnOf x qual (aQ st) (aL st) (ac st) .none kV doc pm an a ct) ⟨us,[]⟩=pure (ps.zip us)):Binds K fd ps []:=by
 obtain ⟨e,g,kV,doc,pm,an,a,ct,c,rfl,d,b⟩:=F.ex
 exact .all (h kV doc pm an a ct)
theorem A7 {st:Stmt} {kV doc pm a ct:Value} (l:K.lookup f=some ⟨oc,od,.func (PySem.W.fnOf x qual (aQ st) (aL st) (ac st) .none kV doc pm an a ct),osl⟩) (c:PySem.W.codeIn K a qual=true) (k:PySem.W.keepIn K (.ref f)=true):Fun K x qual st f (PySem.W.fnOf x qual (aQ st) (aL st) (ac st) .none kV doc pm an a ct):=⟨⟨oc,od,kV,doc,pm,an,a,ct,osl,rfl,l,c⟩,k⟩
end
theorem hu_of {k:Nat} (a:Room k A):A.units+1 < cLine:=Nat.lt_of_le_of_lt (Nat.add_le_add_left (by decide:1<=64) _) a.units
theorem tz {n:Nat} (h:n<=1000):n < sizeLine:=Nat.lt_of_le_of_lt h (by decide)
def Same (H H':Hp):Prop:=∀ b o,H b=some o->H' b=some o
theorem Same.refl (H:Hp):Same H H:=fun _ _ h=>h
theorem Same.trans (a:Same H H1) (b:Same H1 H2):Same H H2:=fun c o h=>b c o (a c o h)
theorem Same.free (e:Same H H') (h:H' l=Option.none):H l=Option.none:=by
 cases q:H l with
 | none=>rfl
 | some o =>
  rw [e l o q] at h
  cases h
end L2
end
section
namespace L2
open PySem PySem.Spec PyProof.Rows
section
variable {prog:Program} {w:World} {A:Around} {E:Value->Shared->Prop} {s:Shared}
theorem pz (ty:s.TypeIs (.ref d) "dict") (h:wpAny (model prog w) A.in1 (dictSet d k v) Q E s) :
  wpAny (model prog w) A (setItem (.ref d) k v) Q E s:=by
 unfold setItem
 refine Bx (Bv (wpAny_sequenceKey ty (by decide) (Bv (wpAny_callSpecial?_slot ty slot_dict_setitem (wpAny_call_entry slot_dict_setitem ty entry_dict_setitem ?_ (args_dict_setitem _ _ _))))))
 refine Bv (wpAny_notOrdered_dict ty ?_)
 refine (?_:wpAny _ _ (dictSet d k v >>= _) _ _ s)
 exact Bv (wpAny_mono h (fun _ _ z=>Bw ⟨_,rfl,Bw z⟩) fun _ _ z=>z)
theorem nh {b:Int} {c:Nat} {F:Option Nat->Prop} (a:s.heap.get? d=some o) (g:o.ExactDict) (hd:o.data=.dict es c) (hz:es.size<=sizeLine) (find:wpAny (model prog w) A (dictFind d key b) (fun r s'=>s'=s/\F r) E s) (old:∀ i h' o',F (some i)->h'.get? d=some o'->o'.ExactDict->o'.data=.dict (es.modify i fun e=>{ e with val:=v }) c->Heap.SameBut d s.heap h'->Q () { s with heap:=h' }) (new:∀ h' o',F none->h'.get? d=some o'->o'.ExactDict->o'.data=.dict (es.push ⟨b,key,v⟩) (c+1)->Heap.SameBut d s.heap h'->Q () { s with heap:=h' }) :
  wpAny (model prog w) A (dictSetHashed d key b v) Q E s:=by
 unfold dictSetHashed
 refine Bx (Bv (wpAny_mono find ?_ fun _ _ z=>z))
 rintro (_ | i) _ ⟨rfl,f⟩
 ·exact Bv (wpAny_rule (wpAny_updateDictKeys (hz:=hz) a hd (new _ _ f (BY _ a (Obj.isFreed_of_dict (Obj.data_mapDictKeys hd _))) (g.mapDictKeys _) (Obj.data_mapDictKeys hd _) (Heap.SameBut.update ..))))
 ·exact Bv (wpAny_rule (Bv (wpAny_updateDict a hd (wpAny_point (old i _ _ f (BY _ a (Obj.isFreed_of_dict (Obj.data_mapDict hd _))) (g.mapDict _) (Obj.data_mapDict hd _) (Heap.SameBut.update ..))))))
end
section
variable {prog:Program} {w:World} {K:Type} [DecidableEq K] {A:Around} {E:Value->Shared->Prop} {s:Shared} {d:Addr} {k:K}
section
variable {knd:HeapKind prog w K}
def DictOfHE (knd:HeapKind prog w K) (h:Heap) (d:Addr) (xs:List (K × Addr × Value)):Prop :=
 ∃ o es a,h.get? d=some o/\o.ExactDict/\o.data=.dict es a/\es.toList=xs.map (entryOfKey knd)/\(∀ x ∈ xs,knd.is h x.1 x.2.1)/\(xs.map (·.1)).Nodup/\a=es.size
theorem DictOfHE.of (x:DictOfHE knd h d xs):h.DictOfH knd d xs:=let ⟨o,es,a,h1,h2,h3,e,b,c,_⟩:=x;⟨o,es,a,h1,h2,h3,e,b,c⟩
theorem tV {y:Addr × Value} (c:(xs.map (·.1)).Nodup) (h:k ∉ xs.map (·.1)):((xs ++ [(k,y)]).map (·.1)).Nodup:=by
 rw [List.map_append]
 exact List.nodup_append.mpr ⟨c,List.nodup_cons.mpr ⟨List.not_mem_nil,List.nodup_nil⟩,fun x a y b e=>h (by have:=B8.mp b;subst this;exact e ▸ a)⟩
theorem mS (hu:knd.room A) (b:knd.is s.heap k a) (hm:DictOfHE knd s.heap d xs) (n:∀ h',DictOfHE knd h' d (storedH xs k a v)->Heap.SameBut d s.heap h'->Q () { s with heap:=h',toks:=s.toks+knd.draws k }) (hsz:xs.length<=sizeLine:=by size_fits):wpAny (model prog w) A (dictSet d (.ref a) v) Q E s:=by
 obtain ⟨o,es,t,m,q,hd,he,g,l,rfl⟩:=hm
 unfold dictSet
 refine Bx (Bv (knd.pyHash hu b ?_))
 refine nh (s:={ s with toks:=s.toks+knd.draws k }) (F:=fun | none=>∀ (j:Nat) (p:Addr × Value),xs[j]? ≠ some (k,p) | some j=>∃ p,xs[j]?=some (k,p)) m q hd (size_of_entries he ▸ hsz)
  (wpAny_dictFind_heap (s:={ s with toks:=s.toks+knd.draws k }) hu b m hd he g l (fun z=>⟨rfl,z⟩) fun j p z=>⟨rfl,p,z⟩) ?_ ?_
 ·rintro i h' o' ⟨p,f⟩ g1 g2 g3 h
  have at':=storedH_old (atKey_of_get l f) a v
  refine n h' ⟨o',_,_,g1,g2,g3,?_,?_,?_,?_⟩ h <;> try rw [at']
  ·rw [Array.toList_modify,he]
   exact modify_map_putAt (entryOfKey knd) _ k v (fun _ _=>rfl) l f
  ·intro x c
   obtain ⟨y,r,rfl⟩:=BN.mp c
   have:=knd.keeps (g y r) m hd h
   by_cases e:y.1=k <;> simpa [putAt,e] using this
  ·exact (keys_map_putAt xs k v).symm ▸ l
  ·exact (Array.size_modify).symm
 ·intro h' o' f g1 g2 g3 h
  have at':=storedH_new (atKey_none_of_get f) a v
  refine n h' ⟨o',_,_,g1,g2,g3,?_,?_,?_,?_⟩ h <;> try rw [at']
  ·simp [he,entryOfKey]
  ·intro x c
   rcases BH.mp c with c | c
   ·exact knd.keeps (g x c) m hd h
   ·cases B8.mp c;exact knd.keeps b m hd h
  ·exact tV l (not_mem_keys_of_get f)
  ·simp
theorem mF (hu:knd.room A.in1) (b:knd.is s.heap k a) (hm:DictOfHE knd s.heap d xs) (c:∀ h',DictOfHE knd h' d (storedH xs k a v)->Heap.SameBut d s.heap h'->Q () { s with heap:=h',toks:=s.toks+knd.draws k }) (hsz:xs.length<=sizeLine:=by size_fits):wpAny (model prog w) A (setItem (.ref d) (.ref a) v) Q E s :=
 pz hm.of.typeIs (mS (hsz:=hsz) hu b hm c)
end
section
variable {knd:KeyKind prog w K} {key:Value}
theorem mi (a:knd.is k key=true) (hm:DictOfE knd s.heap d kvs) (m:∀ h',DictOfE knd h' d (stored kvs k v)->Heap.SameBut d s.heap h'->Q () { s with heap:=h',toks:=s.toks+1 }) (hsz:kvs.length<=sizeLine:=by size_fits):wpAny (model prog w) A (dictSet d key v) Q E s:=by
 obtain ⟨o,⟨es⟩,t,l,p,hd,j,b,c,rfl⟩:=hm
 have same:=b.findIdx k
 have hz:(⟨es⟩:Array DictEntry).size<=sizeLine:=by have:=b.length;simp at this ⊢;omega
 unfold dictSet
 refine Bx (Bv (knd.pyHash a ?_))
 refine nh (s:={ s with toks:=s.toks+1 }) (F:=fun r=>es.findIdx? (fun e=>knd.is k e.key)=r) l p hd hz
  (wpAny_dictFind_of (s:={ s with toks:=s.toks+1 }) a l hd j ⟨rfl,by simp⟩) ?_ ?_
 ·intro i h' o' f g1 g2 g3 h
  have at':stored kvs k v=_:=if_pos (any_of_findIdx_some (same.symm.trans f))
  refine m h' ⟨o',_,_,g1,g2,g3,j.modify _ _,?_,?_,(Array.size_modify).symm⟩ h <;> rw [at']
  ·simpa using b.modify c f v
  ·exact (keys_map_store kvs k v).symm ▸ c
 ·intro h' o' f g1 g2 g3 h
  have no:=not_mem_of_findIdx_none (same.symm.trans f)
  have at':stored kvs k v=_:=if_neg fun z=>by
   obtain ⟨x,g,e⟩:=List.any_eq_true.mp z
   exact no (BN.mpr ⟨x,g,of_decide_eq_true e⟩)
  refine m h' ⟨o',_,_,g1,g2,g3,j.push a _,?_,?_,by simp⟩ h <;> rw [at']
  ·simpa using b.append a (knd.hash k) v
  ·rw [List.map_append]
   exact List.nodup_append.mpr ⟨c,List.nodup_cons.mpr ⟨List.not_mem_nil,List.nodup_nil⟩,fun x g y q e=>no (by cases B8.mp q;have n:x=k:=e;exact n ▸ g)⟩
theorem lw (a:knd.is k key=true) (hm:DictOfE knd s.heap d kvs) (b:∀ h',DictOfE knd h' d (stored kvs k v)->Heap.SameBut d s.heap h'->Q () { s with heap:=h',toks:=s.toks+1 }) (hsz:kvs.length<=sizeLine:=by size_fits):wpAny (model prog w) A (setItem (.ref d) key v) Q E s :=
 pz hm.of.typeIs (mi (hsz:=hsz) a hm b)
end
end
section
variable {κ:Type} [DecidableEq κ]
def kD (a:List (κ × V)) (k:κ):Option V:=(a.find? fun b=>decide (b.1=k)).map (·.2)
def fm (a:List (κ × V)) (k:κ) (v:V):List (κ × V) :=
 if (a.any fun b=>decide (b.1=k))=true then a.map (fun b=>if b.1=k then (b.1,v) else b) else a ++ [(k,v)]
theorem iI {p:κ × V} {k:κ} (e:p.1=k):kD (p :: r) k=some p.2:=by simp [kD,List.find?_cons,e]
theorem iJ {p:κ × V} {k:κ} (e:¬ p.1=k):kD (p :: r) k=kD r k:=by simp [kD,List.find?_cons,e]
theorem pp (k:κ):∀ a:List (κ × V),(a.any fun b=>decide (b.1=k))=(kD a k).isSome
 | []=>rfl
 | p :: r=>by
  rw [List.any_cons]
  by_cases e:p.1=k
  ·simp only [iI e,BU e,Bool.true_or,Option.isSome_some]
  ·rw [iJ e,BV e,Bool.false_or];exact pp k r
theorem kr (a:List (κ × V)) (k:κ) (v:V):(fm a k v).length<=a.length+1:=by
 unfold fm
 split
 ·rw [BJ];omega
 ·rw [BZ,B0,List.length_nil];omega
theorem RelO.isSome_eq (r:RelO o u):o.isSome=u.isSome:=by
 cases o with
 | none=>cases u with
  | none=>rfl
  | some _=>exact (show False from r).elim
 | some _=>cases u with
  | none=>exact (show False from r).elim
  | some _=>rfl
theorem RelO.getD (r:RelO o u) (a:RelV d d'):RelV (o.getD d) (u.getD d'):=by
 cases o with
 | none=>cases u with
  | none=>exact a
  | some _=>exact (show False from r).elim
 | some _=>cases u with
  | none=>exact (show False from r).elim
  | some _=>exact r
theorem KV.val (r:KV kvs vs) (k:κ):RelO (kD kvs k) (valueAt vs k):=by
 unfold KV at r
 induction r with
 | nil=>exact True.intro
 | @cons p q ps qs h t ih =>
  obtain ⟨h1,h2⟩:=h
  by_cases e:p.1=k
  ·have a:q.1=k:=h1.symm.trans e
   have b:valueAt (q :: qs) k=some q.2:=by simp [valueAt,List.find?_cons,a]
   rw [iI e,b];exact h2
  ·have a:¬ q.1=k:=fun z=>e (h1.trans z)
   have b:valueAt (q :: qs) k=valueAt qs k:=by simp [valueAt,List.find?_cons,a]
   rw [iJ e,b];exact ih
theorem KV.any (r:KV kvs vs) (k:κ):(kvs.any fun a=>decide (a.1=k))=vs.any fun a=>decide (a.1=k):=by
 unfold KV at r
 induction r with
 | nil=>rfl
 | cons h t ih=>rw [List.any_cons,List.any_cons,ih,h.1]
theorem KV.repl (r:KV kvs vs) (k:κ) (b:RelV y u) :
  KV (kvs.map fun a=>if a.1=k then (a.1,y) else a) (vs.map fun a=>if a.1=k then (a.1,u) else a):=by
 unfold KV at r ⊢
 induction r with
 | nil=>exact .nil
 | @cons p q ps qs h t ih =>
  rw [BTz,BTz]
  refine .cons ?_ ih
  obtain ⟨h1,h2⟩:=h
  by_cases e:p.1=k
  ·rw [if_pos e,if_pos (h1.symm.trans e)];exact ⟨h1,b⟩
  ·rw [if_neg e,if_neg (fun z=>e (h1.trans z))];exact ⟨h1,h2⟩
theorem KV.put (r:KV kvs vs) (k:κ) (a:RelV y u):KV (fm kvs k y) (stored vs k u):=by
 unfold fm stored
 rw [r.any k]
 by_cases e:(vs.any fun b=>decide (b.1=k))=true
 ·rw [if_pos e,if_pos e];exact r.repl k a
 ·rw [if_neg e,if_neg e];exact Paired.snoc r ⟨rfl,a⟩
theorem KV.length {a:List (κ × V)} (r:KV a vs):a.length=vs.length:=Paired.length r
end
theorem wb (r:RelV (kV k) u):(bN P w).is k u=true:=by
 cases k with
 | inl i=>obtain ⟨t,e⟩:=(show ∃ t,u=Value.int i t from r);subst e;exact pQ P w i t
 | inr x=>obtain ⟨t,e⟩:=(show ∃ t,u=Value.str x t from r);subst e;exact pP P w x t
theorem nG:∀ {a:List Key} {us:List Value},Vals (a.map kV) us->ItemsAre (bN P w) a us
 | [],_,r=>by rw [List.map_nil] at r;cases r;exact .nil
 | k :: a,_,r=>by
  rw [BTz] at r
  cases r with
  | cons h t=>exact .cons (wb h) (nG t)
abbrev KT (H:Hp):List (List Key × V)->List (List Key × Addr × Value)->Prop:=Paired fun p q=>p.1=q.1/\H q.2.1=some (.tup (p.1.map kV))/\RelV p.2 q.2.2
theorem KT.val (r:KT H kvs xs) (k:List Key):RelO (kD kvs k) ((atKey xs k).map (·.2)):=by
 induction r with
 | nil=>exact True.intro
 | @cons p q ps qs h t ih =>
  obtain ⟨h1,_,h2⟩:=h
  by_cases e:p.1=k
  ·have a:q.1=k:=h1.symm.trans e
   have b:atKey (q :: qs) k=some q.2:=by simp [atKey,List.find?_cons,a]
   rw [iI e,b];exact h2
  ·have a:¬ q.1=k:=fun z=>e (h1.trans z)
   have b:atKey (q :: qs) k=atKey qs k:=by simp [atKey,List.find?_cons,a]
   rw [iJ e,b];exact ih
theorem KT.repl (r:KT H kvs xs) (k:List Key) (b:RelV y u) :
  KT H (kvs.map fun a=>if a.1=k then (a.1,y) else a) (xs.map (putAt k u)):=by
 induction r with
 | nil=>exact .nil
 | @cons p q ps qs h t ih =>
  rw [BTz,BTz]
  refine .cons ?_ ih
  obtain ⟨h1,h2,h3⟩:=h
  unfold putAt
  by_cases e:p.1=k
  ·rw [if_pos e,if_pos (h1.symm.trans e)];exact ⟨h1,h2,b⟩
  ·rw [if_neg e,if_neg (fun z=>e (h1.trans z))];exact ⟨h1,h2,h3⟩
theorem KT.put (r:KT H kvs xs) (k:List Key) (d:H b=some (.tup (k.map kV))) (a:RelV y u) :
  KT H (fm kvs k y) (storedH xs k b u):=by
 have e:(kvs.any fun c=>decide (c.1=k))=(atKey xs k).isSome:=by
  rw [pp,(r.val k).isSome_eq,Option.isSome_map]
 unfold fm storedH
 rw [e]
 by_cases q:(atKey xs k).isSome=true
 ·rw [if_pos q,if_pos q];exact r.repl k a
 ·rw [if_neg q,if_neg q];exact Paired.snoc r ⟨rfl,d,a⟩
theorem KT.keeps (r:KT H kvs xs) (a:∀ b ys,H b=some (.tup ys)->H' b=some (.tup ys)):KT H' kvs xs :=
 Paired.mapP r fun _ _ z=>⟨z.1,a _ _ z.2.1,z.2.2⟩
section
variable {P:Program} {w:World} {H:Hp} {h:Heap} {a:Addr}
theorem yX (ok:HOk P w H h) (e:Rd H a u):ObjOk P w H h a u:=e.ok ok
theorem wy (ok:HOk P w H h) (e:Rd H a (.dK kvs)):kvs.length<=sizeLine/\(a == sysModules)=false/\∃ b,KV kvs b/\DictOfE (bN P w) h a b :=
 show ObjOk P w H h a (.dK kvs) from yX ok e
theorem zm (ok:HOk P w H h) (e:Rd H a (.dK kvs)):kvs.length<=sizeLine/\(a == sysModules)=false/\∃ b,KV kvs b/\h.DictOf (bN P w) a b:=let ⟨z,y,b,r,d⟩:=wy ok e;⟨z,y,b,r,d.of⟩
theorem rA (ok:HOk P w H h) (e:H a=some (.tup (ks.map kV))):(tupleKind (bN P w)).is h ks a:=by
 obtain ⟨_,its,r,o,h1,h2,n,h3⟩:=(show ObjOk P w H h a (.tup (ks.map kV)) from ok a _ e)
 exact ⟨o,its.toArray,n,h1,h2,congrArg Prod.fst h3,by simpa using nG r⟩
theorem wv (ok:HOk P w H h) (e:Rd H a (.dT kvs)):kvs.length<=sizeLine/\(a == sysModules)=false /\
  ∃ xs,KT H kvs xs/\DictOfHE (tupleKind (bN P w)) h a xs:=by
 obtain ⟨z,y,xs,r,o,es,f,h1,h2,h3,d,c⟩:=(show ObjOk P w H h a (.dT kvs) from yX ok e)
 refine ⟨z,y,xs,r,o,es,f,h1,h2,h3,d,fun x b=>?_,c⟩
 have all:∀ {l:List (List Key × V)} {m:List (List Key × Addr × Value)},KT H l m->∀ x ∈ m,(tupleKind (bN P w)).is h x.1 x.2.1:=by
  intro l m q
  induction q with
  | nil=>intro x b;exact nomatch b
  | @cons p q ps qs hq t ih =>
   intro x b
   rcases BE.mp b with e | b
   ·subst e
    exact rA ok (by rw [<- hq.1];exact hq.2.1)
   ·exact ih x b
 exact all r x b
theorem zk (ok:HOk P w H h) (e:Rd H a (.dT kvs)):kvs.length<=sizeLine/\(a == sysModules)=false /\
  ∃ xs,KT H kvs xs/\h.DictOfH (tupleKind (bN P w)) a xs:=let ⟨z,y,xs,r,d⟩:=wv ok e;⟨z,y,xs,r,d.of⟩
end
def DGet (H:Hp) (a:Addr) (y:V) (r:Option V):Prop :=
 (∃ c k,Rd H a (.dK c)/\y=kV k/\r=kD c k)\/∃ c k b,Rd H a (.dT c)/\y=.ref b/\H b=some (.tup (k.map kV))/\r=kD c k
def DPut (H:Hp) (a:Addr) (y v:V) (H':Hp):Prop :=
 (∃ c k,H a=some (.dK c)/\y=kV k/\c.length < sizeLine/\H'=upd H a (.dK (fm c k v))) \/
 ∃ c k b,H a=some (.dT c)/\y=.ref b/\H b=some (.tup (k.map kV))/\c.length < sizeLine/\H'=upd H a (.dT (fm c k v))
theorem DGet.t (e:H a=some (.dT kvs)) (c:H b=some (.tup (k.map kV))):DGet H a (.ref b) (kD kvs k):=.inr ⟨kvs,k,b,.inl e,rfl,c,rfl⟩
theorem DPut.t (e:H a=some (.dT kvs)) (d:H b=some (.tup (k.map kV))) (c:kvs.length < sizeLine) :
  DPut H a (.ref b) v (upd H a (.dT (fm kvs k v))):=.inr ⟨kvs,k,b,e,rfl,d,c,rfl⟩
section
variable {X:Cx} {pins:List (Addr × Obj)} {σ:St} {H:Hp} {s:Shared} {a:Addr} {y v:V} {u r:Value} {o:Option V} {A:Around} {E:Value->Shared->Prop}
theorem Inv.big (I:Inv X pins σ H s):sysModules < s.heap.objs.size:=by
 have h:mainGlobals < s.heap.objs.size:=(I.mod.glob.keeps I.bk).lt
 exact Nat.lt_trans (by decide) h
theorem uk (hu:A.units+1 < cLine) (I:Inv X pins σ H s) (g:DGet H a y (some v)) (m:RelV y u) (h:∀ d s',Inv X pins σ H s'->RelV v d->Q d s') :
  wpAny (model X.prog X.w) A (getItem (.ref a) u) Q E s:=by
 rcases g with ⟨f,k,e,j,l⟩ | ⟨f,k,b,e,j,n,l⟩
 ·subst j
  obtain ⟨z,hd,q,rel,dd⟩:=zm I.hok e
  obtain ⟨d,hw,c⟩:=RelO.some_of (v:=v) (o:=valueAt q k) (by rw [l];exact rel.val k)
  exact wpAny_getItem_of (wb m) dd.mapOf hw (h d _ (I.tok _) c)
 ·subst j
  cases (show u=Value.ref b from m)
  obtain ⟨z,hd,xs,rel,dd⟩:=zk I.hok e
  obtain ⟨d,hw,c⟩:=RelO.some_of (v:=v) (o:=(atKey xs k).map (·.2)) (by rw [l];exact rel.val k)
  obtain ⟨p,r,i⟩:=BB.mp hw
  refine wpAny_getItem_heap (tupleKind_room_in1 hu) (rA I.hok n) dd r ?_
  rw [i]
  exact h d _ (I.tok _) c
theorem sQ {t':Nat} (I:Inv X pins σ H s) (d:Mut (H a)) (f:Heap.SameBut a s.heap h') (he:∃ q,h'.get? a=some q) (new:ObjOk X.prog X.w (upd H a ob) h' a ob) :
  Inv X pins σ (upd H a ob) { s with heap:=h',toks:=t' } :=
 I.write (x:=a) (e:=a) d (.inl rfl) (fun b q c z=>(f.2 b c).trans z) he new
theorem Bc (z:kvs.length<=sizeLine) (hd:(a == sysModules)=false) (rel:KV kvs vs) (dd:DictOfE (bN P w) h' a vs) :
  ObjOk P w H' h' a (.dK kvs):=⟨z,hd,vs,rel,dd⟩
theorem uj (hu:A.units+1 < cLine) (I:Inv X pins σ H s) (g:DPut H a y v H') (x:RelV y u) (t:RelV v r) (h:∀ s',Inv X pins σ H' s'->Q () s') :
  wpAny (model X.prog X.w) A (setItem (.ref a) u r) Q E s:=by
 rcases g with ⟨d,k,e,m,l,o⟩ | ⟨d,k,b,e,m,B,l,o⟩
 ·subst m o
  obtain ⟨z,hd,G,rel,dd⟩:=wy I.hok (.inl e)
  have hz:G.length<=sizeLine:=by rw [<- rel.length];exact z
  have j:(fm d k v).length<=sizeLine:=by have:=kr d k v;omega
  refine lw (hsz:=hz) (wb x) dd fun h' f n=>h _ ?_
  have he:∃ q,h'.get? a=some q:=let ⟨q,_,_,i,_⟩:=f;⟨q,i⟩
  exact sQ I (by rw [e];exact True.intro) n he (Bc j hd (rel.put k t) f)
 ·subst m o
  cases (show u=Value.ref b from x)
  obtain ⟨z,hd,xs,rel,dd⟩:=wv I.hok (.inl e)
  have hz:xs.length<=sizeLine:=by rw [<- Paired.length rel];exact z
  have j:(fm d k v).length<=sizeLine:=by have:=kr d k v;omega
  refine mF (hsz:=hz) (tupleKind_room_in1 hu) (rA I.hok B) dd fun h' f n=>h _ ?_
  obtain ⟨q,es,F,i,h2,h3,D,_,C⟩:=f
  refine sQ I (by rw [e];exact True.intro) n ⟨q,i⟩ ⟨j,hd,_,(rel.put k B t).keeps fun c ys p=>?_,q,es,F,i,h2,h3,D,C⟩
  rw [aB (ne_of p e (fun z=>nomatch z))]
  exact p
end
theorem qj (I:Inv X pins σ H s) (g:DGet H a y o):s.TypeIs (.ref a) "dict":=by
 rcases g with ⟨c,k,e,_,_⟩ | ⟨c,k,b,e,_,_,_⟩
 ·obtain ⟨_,_,d,_,dd⟩:=zm I.hok e
  exact dd.typeIs
 ·obtain ⟨_,_,xs,_,dd⟩:=zk I.hok e
  exact dd.typeIs
theorem ww (h:Heap) (a:sysModules < h.objs.size):ObjOk P w H (h.push { cls:=.type "dict",data:=.dict #[] }) h.objs.size (.dT []) :=
 ⟨Nat.zero_le _,beq_eq_false_iff_ne.mpr (Ne.symm (BR a)),[],.nil,_,#[],0,BI _ rfl,⟨rfl,rfl,rfl⟩,rfl,rfl,List.nodup_nil,rfl⟩
def zN:TE:=fun _ H Q=>∀ p,H p=none->Q (.ref p) (upd H p (.dT []))
section
variable {X:Cx} {pos:Pos}
theorem vy:PE X (.Dict [] [] pos) zN:=fun pins s σ H Q I h =>
 wpAny_Dict_empty ⟨.ref s.heap.objs.size,_,I.laid (a:=s.heap.objs.size) (o:=.dT []) (t':=s.toks) (fun _ _ q=>BA _ q) (BP _) (ww s.heap I.big),rfl,h _ (I.hok.fresh (BP _))⟩
end
end L2
namespace L2
open PySem PySem.Spec PyProof.Rows
end L2
end
section
namespace L2
open PySem PySem.Spec PyProof.Rows
def kW (cells:List (Str × Addr)) (cs:List (Str × Addr)) (x:Str × NameKind):List (Str × Addr) :=
 if x.2 == .free then (match cells.lookup x.1 with | some c=>(x.1,c) :: cs | none=>cs) else cs
def clo (cells:List (Str × Addr)) (names:List (Str × NameKind)):List (Str × Addr):=names.foldl (kW cells) []
theorem l0 {α β:Type} {f:α->β->Sem (ForInStep β)} {g:β->α->β}:∀ {l:List α} {c:β},(∀ x ∈ l,∀ c,f x c=pure (.yield (g c x)))->forIn l c f=pure (l.foldl g c)
 | [],c,_=>rfl
 | x :: l,c,h=>by
  rw [List.forIn_cons,h x By,pure_bind]
  exact l0 fun y a=>h y (Bz _ a)
theorem gh (h:∀ x ∈ scope.names,x.2=.free->∃ c,env.cells.lookup x.1=some c):closureFor scope env=pure (clo env.cells scope.names):=by
 simp only [closureFor]
 rw [l0 (g:=kW env.cells) (fun x i c=>by
  obtain ⟨n,kind⟩:=x
  unfold kW
  by_cases b:kind=.free
  ·subst b
   obtain ⟨a,e⟩:=h _ i rfl
   have f:env.cells.lookup n=some a:=e
   simp [cellOf,f]
  ·have d:(kind == NameKind.free)=false:=by simpa using b
   simp [d])]
 rfl
theorem nK:∀ {l:List (Str × NameKind)} {cs:List (Str × Addr)},(∀ y d,cs.lookup y=some d->cells.lookup y=some d)->(l.foldl (kW cells) cs).lookup x=some c->cells.lookup x=some c
 | [],cs,h,e=>h x c e
 | y :: l,cs,h,e=>by
  refine nK (l:=l) (cs:=kW cells cs y) (fun z d q=>?_) e
  unfold kW at q
  split at q
  ·cases b:cells.lookup y.1 with
   | none=>rw [b] at q;exact h z d q
   | some a =>
    rw [b] at q
    simp only [List.lookup_cons] at q
    cases hz:z == y.1 with
    | true=>rw [hz] at q;have:=eq_of_beq hz;subst this;rw [b];exact q
    | false=>rw [hz] at q;exact h z d q
  ·exact h z d q
theorem oT (e:(clo cells l).lookup x=some c):cells.lookup x=some c:=nK (fun _ _ q=>by simp at q) e
theorem l4 (d:cells.lookup x=some c):∀ {l:List (Str × NameKind)} {cs:List (Str × Addr)},cs.lookup x=some c->(l.foldl (kW cells) cs).lookup x=some c
 | [],_,e=>e
 | y :: l,cs,e=>by
  refine l4 d (l:=l) (cs:=kW cells cs y) ?_
  unfold kW
  split
  ·cases b:cells.lookup y.1 with
   | none=>exact e
   | some a =>
    simp only [List.lookup_cons]
    cases hz:x == y.1 with
    | true=>have:=eq_of_beq hz;subst this;rw [d] at b;exact b.symm
    | false=>exact e
  ·exact e
theorem nM (a:cells.lookup x=some c):∀ {l:List (Str × NameKind)} {cs:List (Str × Addr)},(x,NameKind.free) ∈ l->(l.foldl (kW cells) cs).lookup x=some c
 | [],_,m=>by simp at m
 | y :: l,cs,m=>by
  rcases BE.mp m with rfl | m
  ·refine l4 a (l:=l) ?_
   simp [kW,a]
  ·exact nM a (l:=l) (cs:=kW cells cs y) m
theorem sR (a:cells.lookup x=some c) (m:(x,NameKind.free) ∈ l):(clo cells l).lookup x=some c:=nM a m
theorem iW {env:Env}:∀ {names:List (Str × NameKind)} {x:Str},names.lookup x=some .free ->
  (names.map fun (n,k)=>if (k == NameKind.free && env.scope.kind == .function && env.kindOf n == some .cell) then (n,NameKind.cell) else (n,k)).lookup x=some .cell \/
  (names.map fun (n,k)=>if (k == NameKind.free && env.scope.kind == .function && env.kindOf n == some .cell) then (n,NameKind.cell) else (n,k)).lookup x=some .free
 | [],_,h=>by simp at h
 | (n,k) :: r,x,h=>by
  have b:=@iW env r x
  show List.lookup x ((if (k == NameKind.free && env.scope.kind == .function && env.kindOf n == some .cell)=true then (n,NameKind.cell) else (n,k)) :: _)=_ \/
   List.lookup x ((if (k == NameKind.free && env.scope.kind == .function && env.kindOf n == some .cell)=true then (n,NameKind.cell) else (n,k)) :: _)=_
  cases a:x == n with
  | true =>
   simp only [List.lookup_cons,a] at h
   cases h
   split
   ·left;simp [List.lookup_cons,a]
   ·right;simp [List.lookup_cons,a]
  | false =>
   simp only [List.lookup_cons,a] at h
   split
   ·simp only [List.lookup_cons,a];exact b h
   ·simp only [List.lookup_cons,a];exact b h
theorem lE {env:Env}:∀ {names:List (Str × NameKind)} {x:Str},(∀ y ∈ names,y.2 ≠ .cell) ->
  ((names.map fun (n,k)=>if (k == NameKind.free && env.scope.kind == .function && env.kindOf n == some .cell) then (n,NameKind.cell) else (n,k)).lookup x=some .cell \/
  (names.map fun (n,k)=>if (k == NameKind.free && env.scope.kind == .function && env.kindOf n == some .cell) then (n,NameKind.cell) else (n,k)).lookup x=some .free)->(x,NameKind.free) ∈ names
 | [],_,_,h=>by simp at h
 | (n,k) :: r,x,hc,h=>by
  have d:=@lE env r x (fun y f=>hc y (Bz _ f))
  have c:=hc (n,k) By
  have h':List.lookup x ((if (k == NameKind.free && env.scope.kind == .function && env.kindOf n == some .cell)=true then (n,NameKind.cell) else (n,k)) :: (r.map fun (n,k)=>if (k == NameKind.free && env.scope.kind == .function && env.kindOf n == some .cell) then (n,NameKind.cell) else (n,k)))=some .cell \/
   List.lookup x ((if (k == NameKind.free && env.scope.kind == .function && env.kindOf n == some .cell)=true then (n,NameKind.cell) else (n,k)) :: (r.map fun (n,k)=>if (k == NameKind.free && env.scope.kind == .function && env.kindOf n == some .cell) then (n,NameKind.cell) else (n,k)))=some .free:=h
  cases a:x == n with
  | true =>
   have e:=eq_of_beq a
   subst e
   by_cases hf:k=.free
   ·subst hf;exact By
   ·exfalso
    have b:(k == NameKind.free)=false:=by simpa using hf
    simp [b,List.lookup_cons] at h'
    rcases h' with q | q
    ·exact c q
    ·exact hf q
  | false =>
   refine Bz _ (d ?_)
   split at h'
   ·simpa only [List.lookup_cons,a] using h'
   ·simpa only [List.lookup_cons,a] using h'
def aR (X:Cx) (NY:List Str) (scope:Scope) (s:Shared) (H:Hp) (C:Addr) (fp:List Addr):Cx where
 prog:=X.prog
 w:=X.w
 K:=X.K
 mg:=X.mg
 base:=X.base
 A:=X.A
 N:=NY
 s₀:=s
 H₀:=H
 env:=compEnvC scope (clo X.env.cells scope.names) C X.env
 outer:=X.stack
 stack:=X.stack
 ex:=fp
 fn:=fun _=>false
 calm:=X.calm
 pn:=[]
 xe:=fun _ _=>False
def cap (ix:List (Option Nat)) (σ:St):St:=ix.map fun o=>match o with | some i=>(σ[i]?).getD none | none=>none
def ge (sc:Scope) (b:List Str) (a:Scope) (NY:List Str) (ix:List (Option Nat)):Bool :=
 sc.kind == .function && sc.names.all (fun y=>y.2 != .cell) && sc.names.all (fun y=>y.2 != .local || sc.names.lookup y.1 == some .local) && sc.names.all (fun y=>y.2 != .free || sc.names.lookup y.1 == some .free)
  && sc.names.all (fun y=>y.2 != .free || (a.names.lookup y.1 == some .cell || a.names.lookup y.1 == some .free))
  && ix.length == NY.length && (NY.zip ix).all fun p=>match p.2 with | none=>true | some i=>(b[i]? == some p.1) && sc.names.contains (p.1,NameKind.free)
structure CompOk (sc:Scope) (XN:List Str) (Xsc:Scope) (NY:List Str) (ix:List (Option Nat)):Prop where
 kind:sc.kind=.function
 nocell:∀ y ∈ sc.names,y.2 ≠ .cell
 loc:∀ y ∈ sc.names,y.2=.local->sc.names.lookup y.1=some .local
 fre:∀ y ∈ sc.names,y.2=.free->sc.names.lookup y.1=some .free
 out:∀ y ∈ sc.names,y.2=.free->Xsc.names.lookup y.1=some .cell\/Xsc.names.lookup y.1=some .free
 len:ix.length=NY.length
 cap:∀ (j:Nat) x i,NY[j]?=some x->ix[j]?=some (some i)->XN[i]?=some x/\(x,NameKind.free) ∈ sc.names
theorem CompOk.of (h:ge sc XN Xsc NY ix=true):CompOk sc XN Xsc NY ix:=by
 simp only [ge,Bool.and_eq_true,List.all_eq_true,beq_iff_eq] at h
 obtain ⟨⟨⟨⟨⟨⟨h1,h2⟩,h3⟩,f⟩,b⟩,c⟩,g⟩:=h
 refine ⟨h1,fun y a=>by simpa using h2 y a,fun y a e=>?_,fun y a e=>?_,fun y a e=>?_,c,fun j x i e1 d=>?_⟩
 ·have:=h3 y a;rw [e] at this;simpa using this
 ·have:=f y a;rw [e] at this;simpa using this
 ·have:=b y a;rw [e] at this;simpa using this
 ·have m:(x,some i) ∈ NY.zip ix:=by
   refine BL (i:=j) ?_
   rw [List.getElem?_zip_eq_some]
   exact ⟨e1,d⟩
  have:=g _ m
  simpa using this
section
variable {X:Cx}
theorem FpOk.of_upd (f:FpOk X pins H b) (h:b ≠ D):FpOk X pins (upd H D o) b:=⟨by rw [aB h];exact f.1,f.2⟩
theorem HOk.track (x:HOk P w H h) (f:H a=none) (new:ObjOk P w (upd H a o) h a o):HOk P w (upd H a o) h:=fun b u e=>by
 by_cases d:b=a
 ·subst d;rw [aV] at e;cases e;exact new
 ·rw [aB d] at e
  exact (x b u e).stay (fun c v _ q=>q) (fun c q=>by rw [aB (aT q f)];exact q) fun c xs q=>by rw [aB (aT q f)];exact q
def PTs (Y:Cx) (ifs:List Expr) (t:TT):Prop :=
 ∀ (pins:List (Addr × Obj)) (s:Shared) (σ:St) (H:Hp) (Q:Bool->Hp->Prop),Inv Y pins σ H s->t σ H Q ->
  wpAny (model Y.prog Y.w) Y.A (forIn ifs true fun c r=>if r=true then do let ok <- isTrue c Y.env (eval c Y.env);pure (ForInStep.yield ok) else pure (ForInStep.yield r)) (TP Y pins σ Q) Y.xe s
def tYes:TT:=fun _ H Q=>Q true H
theorem xL:PTs Y [] tYes:=fun pins s σ H Q I h=>wpAny_tests_nil ⟨H,I,h⟩
def qz (J:It) (g:TG) (tc:TT) (te:TE) (Z:List V->Hp->Prop) (τ0:St) (H1:Hp):Prop :=
 ∃ W:Nat->Nat->List V->St->Hp->Prop,(∃ m,W 0 m [] τ0 H1)/\∀ i m ys τ H,W i m ys τ H->ys.length < sizeLine /\
  ((J.stop i H/\Z ys H)\/(J.go i H/\∃ N:List V->St->Hp->Prop,(∀ a τ' H',N a τ' H'->∃ d,d < m/\W (i+1) d a τ' H')/\∀ x H',J.yld i H x H'->g x τ H' fun τ2 H2=>tc τ2 H2 fun b c =>
   if b=true then te τ2 c fun y e=>N (ys ++ [y]) τ2 e else N ys τ2 c))
def yU (a:TI) (g:TG) (tc:TT) (te:TE) (ix:List (Option Nat)):TE:=fun σ H Q =>
 a σ H fun J H1=>qz J g tc te (fun ys H2=>∀ p,H2 p=none->Q (.ref p) (upd H2 p (.lst ys))) (cap ix σ) H1
theorem rK (g:CompOk scope X.N X.env.scope NY ix) (I:Inv X pins σ H s) (f:∀ b ∈ fp,FpOk X pins H b) (n:s.heap.objs.size<=C) (t:∀ b ∈ fp,b < s.heap.objs.size) (D:s4.os=s.os) (Q:s4.gens=s.gens) (keep:∀ b o,s.heap.get? b=some o->s4.heap.get? b=some o) (ns:s4.heap.Ns C fun _=>none):Inv (aR X NY scope s H C fp) [] (cap ix σ) H s4:=by
 have E:FpOk X pins H C:=I.fpOk n (I.hok.fresh n)
 have cls:∀ x c,(clo X.env.cells scope.names).lookup x=some c->X.env.cells.lookup x=some c:=fun x c e=>oT e
 have j:∀ x,(x,NameKind.free) ∈ scope.names->∃ c,X.env.cells.lookup x=some c:=fun x m=>by
  rcases g.out _ m rfl with q | q
  ·exact I.ok.has x (.inl q)
  ·exact I.ok.has x (.inr q)
 refine ⟨⟨I.ok.mod,g.kind,I.ok.glob,I.ok.blt,n,fun x y c e1 d=>I.ok.inj x y c (cls x c e1) (cls y c d),fun x J=>?_,fun x c e _=>(BQ e).elim,fun e=>I.ok.hd e,I.ok.frames,.inl rfl,fun b h=>⟨BR (BW (t b h) n),fun x c e=>(f b h).2.2.2.2.1 x c (cls x c e)⟩,
  I.bs,Cf I.ok.bsz I.sz,fun b o e h=>?_,fun b h hz=>?_,I.stack,I.stkFree⟩,D,by rw [Q];exact I.bare,Un.kept keep,⟨_,ns,fun i x v e1 d R=>?_⟩,fun x c e=>?_,E.1,fun x c e=>I.freeC x c (cls x c e),fun p O=>absurd (show p ∈ ([]:List (Addr × Obj)) from O) (by simp),I.hok.kept keep,?_⟩
 ·have m:(x,NameKind.free) ∈ scope.names:=lE g.nocell J
  obtain ⟨c,e⟩:=j x m
  exact ⟨c,sR e m⟩
 ·rcases (f b h).2.2.2.1 with z | z
  ·exact I.ok.noex b o e z
  ·exact absurd (BW (BG e) (Cf I.ok.bsz z)) (Nat.lt_irrefl _)
 ·rcases BE.mp (I.stkSub b hz) with e | e
  ·exact (f b h).2.1 e
  ·exact (f b h).2.2.1 e
 ·-- a captured name
  have q:∃ k,ix[i]?=some (some k)/\σ[k]?=some (some v):=by
   unfold cap at d
   rw [BO] at d
   cases e:ix[i]? with
   | none=>rw [e] at d;simp at d
   | some o =>
    rw [e] at d
    cases o with
    | none=>simp at d
    | some k =>
     refine ⟨k,rfl,?_⟩
     simp only [B6,Option.some.injEq] at d
     cases e':σ[k]? with
     | none=>rw [e'] at d;simp at d
     | some o'=>rw [e'] at d;simp at d;rw [d]
  obtain ⟨k,G,ev⟩:=q
  obtain ⟨K,m⟩:=g.cap i x k e1 G
  obtain ⟨S,F,B⟩:=I.loc
  have M:Vis X.env.scope x:=by
   rcases g.out _ m rfl with q | q
   ·exact .inr (.inl q)
   ·exact .inr (.inr q)
  obtain ⟨u,r,l⟩:=B k x v K ev M
  refine ⟨u,r,.inr ?_⟩
  rcases l with ⟨A,_⟩ | ⟨_,c,P,L⟩
  ·exfalso
   rcases g.out _ m rfl with q | q
   ·have:=A.symm.trans q;cases this
   ·have:=A.symm.trans q;cases this
  ·obtain ⟨o,w,hd⟩:=L
   exact ⟨iW (g.fre _ m rfl),c,sR P m,o,keep c o w,hd⟩
 ·obtain ⟨v,o,w,hd⟩:=I.cell x c (cls x c e)
  exact ⟨v,o,keep c o w,hd⟩
 ·show (cap ix σ).length=NY.length
  unfold cap
  rw [BJ]
  exact g.len
theorem gg (I:Nat->Shared->Prop) (turn:∀ n s,I n s->wpAny (model prog w) A (pyNext it) (fun r b=>match r with
   | none=>R (.ok .next) b
   | some v=>wpAny (model prog w) A (letOwnedTupleGo target it v) (fun _ a=>wpAny (model prog w) A (assign target env v) (fun _ g =>
     wpAny (model prog w) A (forIn ifs true fun c r=>if r=true then do let ok <- isTrue c env (eval c env);pure (ForInStep.yield ok) else pure (ForInStep.yield r)) (fun ok d =>
      if ok=true then wpAny (model prog w) A (eval elt env) (fun x j =>
       wpAny (model prog w) A (call (.builtin "list.append") [acc,x]) (fun _ k=>∃ m,m < n/\I m k) (fun _ _=>False) j) (fun _ _=>False) d
      else ∃ m,m < n/\I m d) (fun _ _=>False) g) (fun _ _=>False) a) (fun _ _=>False) b) (fun _ _=>False) s) (n:Nat) (h:I n s) :
  codeAny (model prog w) A (.compLoop (.ListComp elt [⟨target,iter,ifs,0⟩] scope pos) 0 it acc env) R s:=by
 refine codeAny_loop rfl I (fun n s l=>?_) n h
 show wpAny _ A ((compTurn (.ListComp elt [⟨target,iter,ifs,0⟩] scope pos) 0 it acc env).onRaise (fun x=>do noteFrame x env;theTreesLotGoes x)) _ _ s
 refine wpAny_noted ?_
 rw [compTurn_list]
 refine Bv (wpAny_standAt (Bv (wpAny_mono (turn n s l) (fun r b i=>?_) fun _ _ h'=>h'.elim)))
 cases r with
 | none=>exact Bw i
 | some v =>
  refine Bv (wpAny_mono i (fun _ a e=>?_) fun _ _ h'=>h'.elim)
  refine Bv (wpAny_mono e (fun _ g o=>Bv (wpAny_mono o (fun ok d f=>?_) fun _ _ h'=>h'.elim)) fun _ _ h'=>h'.elim)
  cases ok with
  | false=>exact Bw ⟨rfl,f⟩
  | true =>
   exact Bv (Bv (wpAny_mono f (fun x j q=>Bv (wpAny_mono q (fun _ k p=>Bw (Bw ⟨rfl,p⟩)) fun _ _ h'=>h'.elim)) fun _ _ h'=>h'.elim))
theorem ql {RR:Value->Addr->Result->Shared->Prop} (hc:X.calm=true) (ck:CompOk scope X.N X.env.scope NY ix) (hg:∀ s H C fp,PG (aR X NY scope s H C fp) tg g) (ht:∀ s H C fp,PTs (aR X NY scope s H C fp) ifs tc) (he:∀ s H C fp,PE (aR X NY scope s H C fp) elt te) (I:Inv X pins σ H s) (T:Turn X.prog X.w X.K tg J fp it tn) (st:tn 0 s.heap) (f:∀ b ∈ fp,FpOk X pins H b) (hW:qz J g tc te Z (cap ix σ) H) (cv:∀ D C s' ys H' m,s'.heap.Ns C m->H' D=none->FpOk X pins (upd H' D (.lst ys)) C->Inv X pins σ (upd H' D (.lst ys)) s'->Z ys H'->RR (.ref D) C (.ok .next) s') :
  wpAny (model X.prog X.w) X.A (newList []) (fun acc s₃=>wpAny (model X.prog X.w) X.A (newFunctionEnv scope X.env.globals (clo X.env.cells scope.names) [] X.env.qual none .none (some X.env)) (fun F s₄ =>
   codeAny (model X.prog X.w) X.A (.compStart (.ListComp elt [⟨tg,iter,ifs,0⟩] scope pos) 0 (.ref it) acc { F with scope:=relabel scope X.env }) (RR acc F.locals) s₄) E s₃) E s:=by
 obtain ⟨W,⟨m0,w0⟩,turn⟩:=hW
 refine wpAny_newObj_type (wpAny_newFunctionEnv ck.nocell (by intro y hy;simp at hy) (fun h₁ k h=>?_) ck.kind)
 dsimp only at k h ⊢
 generalize O:s.heap.push { cls:=.type "list",dict:=none,data:=.seq ([]:List Value).toArray }=H2 at k h ⊢
 have ae:H2.objs.size=s.heap.objs.size+1:=by rw [<- O,Heap.size_push]
 have B:s.heap.objs.size ≠ H2.objs.size:=by rw [ae];exact BR (Nat.lt_succ_self _)
 have j:s.heap.objs.size<=H2.objs.size:=by rw [ae];exact Nat.le_succ _
 generalize G:s.heap.objs.size=D at *
 generalize hC:H2.objs.size=C at *
 have below:∀ b o,s.heap.get? b=some o->b < D:=fun b o e=>by rw [<- G];exact BG e
 have old:∀ b o,s.heap.get? b=some o->h₁.get? b=some o:=fun b o e=>h.extBut b o (BR (BW (below b o e) j)) (BA _ (O ▸ BA _ e))
 have P:H2.get? D=some { cls:=.type "list",dict:=none,data:=.seq ([]:List Value).toArray }:=by
  rw [<- O,<- G];exact BI _ rfl
 have U:h₁.PlainList D #[]:=⟨_,h.extBut _ _ B (BA _ P)⟩
 have ar:∀ b ∈ fp,b < s.heap.objs.size:=fun b a=>by
  obtain ⟨o,e,_⟩:=T.obj 0 _ st b a
  exact BG e
 have l:∀ b ∈ fp,b < D:=fun b a=>by rw [<- G];exact ar b a
 have IY:Inv (aR X NY scope s H C fp) [] (cap ix σ) H { s with heap:=h₁,toks:=s.toks+([]:List (Str × Value)).length } :=
  rK ck I f (by rw [G];exact j) ar rfl rfl old k
 have b4:H D=none:=I.hok.fresh (by rw [G];exact BP _)
 have t:∀ b ∈ frs X.stack,b < D:=fun b a=>by
  obtain ⟨_,o,ho,_⟩:=I.stack.mem a
  exact below b o ho
 have loop:∀ s₃:Shared,s₃ = { s with heap:=h₁,toks:=s.toks+([]:List (Str × Value)).length } ->
   codeAny (model X.prog X.w) X.A (.compLoop (.ListComp elt [⟨tg,iter,ifs,0⟩] scope pos) 0 (.ref it) (.ref D) (aR X NY scope s H C fp).env) (RR (.ref D) C) s₃:=by
  rintro s₃ rfl
  refine gg (fun n s'=>∃ i ys τ H' its,Inv (aR X NY scope s H C fp) [] τ H' s'/\H' D=none/\s'.heap.PlainList D its/\Vals ys its.toList/\tn i s'.heap/\(∀ b ∈ fp,H' b=none)/\W i n ys τ H') ?_ m0
   ⟨0,[],cap ix σ,H,#[],IY,b4,U,.nil,T.keep _ _ _ st fun b _ o e=>old b o e,fun b a=>(f b a).1,w0⟩
  rintro n s3 ⟨i,ys,τ,S,its,I3,d3,l3,v3,ax,az,w3⟩
  obtain ⟨nl,e3⟩:=id l3
  have V:Inv (aR X NY scope s H C fp) [(D,{ cls:=.type "list",data:=.seq its nl })] τ S s3:=I3.pins_of fun p hp=>by
   have e:p=(D,{ cls:=.type "list",data:=.seq its nl }):=by simpa using hp
   subst e
   exact ⟨e3,d3,B,fun z=>Nat.lt_irrefl _ (t D z),fun v z=>by cases z⟩
  have L:∀ {H':Hp} {pl:List (Addr × Obj)},(∀ b ∈ fp,H' b=none)->(∀ p ∈ pl,p.1=D)->∀ b ∈ fp,FpOk (aR X NY scope s H C fp) pl H' b:=fun hn hp b a =>
   ⟨hn b a,BR (BW (l b a) j),fun z=>by
    rcases BE.mp (I.stkSub b z) with e | e
    ·exact (f b a).2.1 e
    ·exact (f b a).2.2.1 e,.inl a,fun x c e=>(f b a).2.2.2.2.1 x c (oT e),fun p a6=>by
    have e:p.1=D:=hp p ((BH.mp a6).elim (fun z=>absurd (show p ∈ ([]:List (Addr × Obj)) from z) (by simp)) fun z=>z)
    rw [e]
    exact Nat.ne_of_gt (l b a)⟩
  obtain ⟨zl,step⟩:=turn i n ys τ S w3
  have single:∀ p ∈ [(D,({ cls:=.type "list",data:=.seq its nl }:Obj))],p.1=D:=fun p hp=>by
   have e:p=(D,{ cls:=.type "list",data:=.seq its nl }):=by simpa using hp
   rw [e]
  rcases step with ⟨stop,qn⟩ | ⟨go,N,hN,step⟩
  ·refine wpAny_mono (T.done (aR X NY scope s H C fp) rfl rfl rfl hc i _ s3 τ S (fun _ _=>False) V (L az single) ax stop) (fun r s4 ⟨hr,R⟩=>?_) fun _ _ e=>e
   subst hr
   obtain ⟨mC,b3,_⟩:=id R.loc
   obtain ⟨e4,Y,_⟩:=R.pin (D,{ cls:=.type "list",data:=.seq its nl }) (by simp [aR])
   have bt:∀ b o,s.heap.get? b=some o->b ≠ D:=fun b o e=>BR (below b o e)
   have M:=R.base
   refine cv D C s4 ys S mC b3 Y ?_ ?_ qn
   ·exact (I.fpOk (by rw [G];exact j) (by exact R.free)).of_upd (Ne.symm B)
   ·refine I.call' (ch:=fp) R.os (H':=upd S D (.lst ys)) ⟨M.keep,M.slot,fun b o e n hx=>?_,M.there,fun b xs e=>?_,fun b o u e=>?_,fun b ps e=>?_⟩ ?_ R.bare fun b a=>?_
    ·rw [aB (bt b o e)];exact M.free b o e n hx
    ·have q:=M.tups b xs e;rw [aB (aT q Y)];exact q
    ·have q:=M.frzs b o u e;rw [aB (aT q Y)];exact q
    ·obtain ⟨more,q⟩:=M.tbls b ps e;exact ⟨more,by rw [aB (aT q Y)];exact q⟩
    ·exact R.hok.track Y ⟨Nat.le_of_lt zl,its.toList,nl,v3,by simpa using e4⟩
    ·exact ⟨(f b a).2.2.2.1,(f b a).2.1,(f b a).2.2.2.2.1,(f b a).2.2.2.2.2⟩
  ·refine wpAny_mono (T.item (aR X NY scope s H C fp) rfl rfl rfl hc i _ s3 τ S (fun _ _=>False) V (L az single) ax go) (fun r s4 ⟨u,hr,h4⟩=>?_) fun _ _ e=>e
   subst hr
   refine wpAny_mono h4 (fun _ s5 ⟨x,H5,I5,r5,y5,Q,cm⟩=>?_) fun _ _ e=>e
   have b1:=I5.pinned (L cm single) (T.obj _ _ Q)
   refine wpAny_mono (hg s H C fp _ s5 τ H5 x u _ b1 r5 (step x H5 y5)) (fun _ s6 ⟨τ6,H6,I6,q6⟩=>?_) fun _ _ e=>e
   refine wpAny_mono (ht s H C fp _ s6 τ6 H6 _ I6 q6) (fun b s7 ⟨H7,I7,q7⟩=>?_) fun _ _ e=>e
   have after:∀ {s':Shared} {H':Hp},Inv (aR X NY scope s H C fp) ([(D,{ cls:=.type "list",data:=.seq its nl })] ++ lG fp s5.heap) τ6 H' s'->tn (i+1) s'.heap/\(∀ b ∈ fp,H' b=none)/\H' D=none/\s'.heap.PlainList D its:=fun {s' H'} I' =>
    ⟨T.keep _ _ _ Q fun b a o e=>(I'.pin (b,o) (BD _ (BD _ (fo a e)))).1,fun b a=>by
     obtain ⟨o,e,d⟩:=T.obj _ _ Q b a
     exact (I'.pin (b,o) (BD _ (BD _ (fo a e)))).2.1,(I'.pin (D,_) (BD _ (BC _ (B8.mpr rfl)))).2.1,
     nl,(I'.pin (D,_) (BD _ (BC _ (B8.mpr rfl)))).1⟩
   cases b with
   | false =>
    rw [if_neg BQ]
    rw [if_neg BQ] at q7
    obtain ⟨m',hm,w7⟩:=hN _ _ _ q7
    obtain ⟨a1,a2,a3,a4⟩:=after I7
    exact ⟨m',hm,i+1,ys,τ6,H7,its,I7.pins_of (fun _ z=>absurd z (by simp)),a3,a4,v3,a1,a2,w7⟩
   | true =>
    rw [if_pos rfl]
    rw [if_pos rfl] at q7
    refine wpAny_mono (he s H C fp _ s7 τ6 H7 _ I7 q7) (fun y s8 ⟨yv,H8,I8,r8,n8⟩=>?_) fun _ _ e=>e
    obtain ⟨m',hm,w8⟩:=hN _ _ _ n8
    obtain ⟨a1,a2,a3,a4⟩:=after I8
    have c3:ys.length=its.size:=by simpa using v3.length
    have hsz:its.size<=sizeLine:=by omega
    refine wpAny_list_append_plain (hsz:=hsz) a4 fun h9 l9 a5=>?_
    have I9:Inv (aR X NY scope s H C fp) [] τ6 H8 { s8 with heap:=h9,toks:=s8.toks }:=(I8.pins_of (pins':=[]) fun _ z=>absurd z (by simp)).turned (it:=D) (fun b o a e=>(a5.2 b a).trans e) a3 B (.inr (by show s.heap.objs.size<=D;rw [G];exact BP _)) (fun x c e z=>?_) fun p z=>absurd (show p ∈ ([]:List (Addr × Obj)) from z) (by simp)
    ·refine ⟨m',hm,i+1,ys ++ [yv],τ6,H8,its.push y,I9,a3,l9,?_,T.keep _ _ _ a1 fun b a o e=>(a5.2 b (BR (l b a))).trans e,a2,w8⟩
     rw [Array.toList_push]
     exact v3.append (.cons r8 .nil)
    ·obtain ⟨v,o,ho,_⟩:=I.cell x c (oT e)
     exact Nat.lt_irrefl _ (z ▸ below c o ho)
 exact codeAny_compStart_list (loop _ rfl) (T.self X.A 0 _ _ _ (T.keep _ _ _ st fun b _ o e=>old b o e) (loop _ rfl))
theorem xT (NY:List Str) (ix:List (Option Nat)) (t:X.calm=true) (hi:PI X tg iter wi) (E:∀ s H C fp,PG (aR X NY scope s H C fp) tg g) (y:∀ s H C fp,PTs (aR X NY scope s H C fp) ifs tc) (he:∀ s H C fp,PE (aR X NY scope s H C fp) elt te) (a:ge scope X.N X.env.scope NY ix=true) (r:∀ x,foldedSetIterable iter X.env x=pure x:=by intro _;rfl):PE X (.ListComp elt [⟨tg,iter,ifs,0⟩] scope pos) (yU wi g tc te ix):=by
 intro pins s σ H Q I h
 have a:=CompOk.of a
 rw [eval_ListComp]
 refine wpAny_comprehension_free (use:=none) rfl r (gh (scope:=scope) (env:=X.env) fun x m e=>?_) a.kind a.loc (thn (hi pins s σ H _ I h) fun v s1 h1=>thn h1 fun B s2 h2=>?_)
 ·rcases a.out x m e with q | q
  ·exact I.ok.has x.1 (.inl q)
  ·exact I.ok.has x.1 (.inr q)
 ·obtain ⟨it,fp,F,J,H2,e,f,T,c,f2,k⟩:=h2
  subst e
  refine ql (RR:=fun acc C=>compPost (model X.prog X.w) X.A X.xe none (EP X pins σ Q) acc C) t a E y he f T c f2 k ?_
  intro D C s' ys H' m j d i n u
  obtain ⟨f0,f1,f2,p,f4,z⟩:=i
  exact ⟨m,j,fun h' sb=>⟨.ref D,_,n.turned (t':=s'.toks) (fun b o l e=>(sb.2 b l).trans e) f0 f1 p f4 z,rfl,u D d⟩⟩
def yW (i:Nat) (a:TI) (g:TG) (tc:TT) (te:TE) (ix:List (Option Nat)):TS:=fun D σ H =>
 a σ H fun J H1=>qz J g tc te (fun ys H2=>∀ p,H2 p=none->D.nx (σ.set i (some (.ref p))) (upd H2 p (.lst ys))) (cap ix σ) H1
theorem qQ {i:Nat} (t:X.N.Nodup) (Z:X.N[i]?=some y) (L:Loc X.env.scope y) (NY:List Str) (ix:List (Option Nat)) (R:X.calm=true) (hi:PI X tg iter wi) (hg:∀ s H C fp,PG (aR X NY scope s H C fp) tg g) (U:∀ s H C fp,PTs (aR X NY scope s H C fp) ifs tc) (he:∀ s H C fp,PE (aR X NY scope s H C fp) elt te) (c:ge scope X.N X.env.scope NY ix=true) (f:swapsWith (.ListComp elt [⟨tg,iter,ifs,0⟩] scope pos) (some (.Name y py)) spos.line X.env=pure true:=by rfl) (hf:X.fn y=true\/X.env.scope.names.lookup y=some .local:=by first | exact .inl rfl | exact .inr rfl | assumption) (P:∀ x,foldedSetIterable iter X.env x=pure x:=by intro _;rfl):PS X (.Assign [.Name y py] (.ListComp elt [⟨tg,iter,ifs,0⟩] scope pos) spos) (yW i wi g tc te ix):=by
 intro pins s σ H D I h
 have c:=CompOk.of c
 rw [exec_Assign_Name_used _ _ _ _ f]
 refine Bv (wpAny_standAt (Bv ?_))
 show wpAny _ X.A (do let _ <- comprehension (.ListComp elt [⟨tg,iter,ifs,0⟩] scope pos) scope X.env _ (newList []) false (eval iter X.env) (some (assign (.Name y py) X.env))) _ _ s
 refine Bv (wpAny_mono (wpAny_comprehension_free (use:=some (assign (.Name y py) X.env)) (Q:=fun _ s'=>SP X pins D .next s') rfl P (gh (scope:=scope) (env:=X.env) fun x m e=>?_) c.kind c.loc
  (thn (hi pins s σ H _ I h) fun v s1 h1=>thn h1 fun Y s2 h2=>?_)) (fun _ s' M=>Bw (Bw M)) fun _ _ e=>e)
 ·rcases c.out x m e with q | q
  ·exact I.ok.has x.1 (.inl q)
  ·exact I.ok.has x.1 (.inr q)
 ·obtain ⟨it,fp,tn,J,H2,e,u,T,d,f2,F⟩:=h2
  subst e
  refine ql (RR:=fun acc C=>compPost (model X.prog X.w) X.A X.xe (some (assign (.Name y py) X.env)) (fun _ s'=>SP X pins D .next s') acc C) R c hg U he u T d f2 F ?_
  intro p C s' ys H' m E r B K S
  obtain ⟨f0,f1,f2,O,f4,W⟩:=B
  show wpAny _ X.A (assign (.Name y py) X.env (.ref p)) _ _ _
  refine wpAny_assign_Name (ni K t Z L (v:=.ref p) rfl (fun k l ⟨a,sb,V⟩=>?_) hf)
  have n:C ≠ a:=by
   rcases V with e | e
   ·rw [e];exact f1
   ·exact fun z=>f4 y a e z.symm
  exact ⟨m,E.sameBut sb n,fun h' j=>⟨_,_,l.turned (t':=k.toks) (fun b o G e=>(j.2 b G).trans e) f0 f1 O f4 W,S p r⟩⟩
end
end L2
end
section
namespace L2
open PySem PySem.Spec PyProof.Rows
section
variable {X:Cx}
inductive KindOf (K:FG) (H:Hp):V->String->Prop
 | int (i:Int):KindOf K H (.int i) "int"
 | bool (b:Bool):KindOf K H (.bl b) "bool"
 | str (x:Str):KindOf K H (.str x) "str"
 | non:KindOf K H .non "NoneType"
 | tuple {a:Addr} {xs:List V}:SqT K H a xs->KindOf K H (.ref a) "tuple"
 | list {a:Addr} {xs:List V}:SqL K H a xs->KindOf K H (.ref a) "list"
 | dK {a:Addr} {kvs}:H a=some (.dK kvs)->KindOf K H (.ref a) "dict"
 | dT {a:Addr} {kvs}:H a=some (.dT kvs)->KindOf K H (.ref a) "dict"
def kM (k t:String):Bool:=k == t || (k == "bool" && t == "int")
theorem Inv.clsK (I:Inv X pins σ H s) (h:KindOf X.K H (.ref a) k):∃ o,s.heap.get? a=some o/\o.cls=.type k:=by
 cases h with
 | tuple h=>obtain ⟨its,_,⟨o,e,c,_⟩,_⟩:=I.tuple h;exact ⟨o,e,c⟩
 | list h=>obtain ⟨its,_,⟨o,n,e,c,_⟩,_⟩:=I.list h;exact ⟨o,e,c⟩
 | dK h=>obtain ⟨_,_,_,_,o,_,_,e,c,_⟩:=I.hok a _ h;exact ⟨o,e,c.1⟩
 | dT h=>obtain ⟨_,_,_,_,o,_,_,e,c,_⟩:=I.hok a _ h;exact ⟨o,e,c.1⟩
theorem oY:df X (.builtin "isinstance") (fun xs H Q=>∃ x k,xs=[x,.ty "int"]/\KindOf X.K H x k/\Q (.bl (kM k "int")) H):=by
 intro pins s σ H xs us Q I r h
 obtain ⟨x,k,rfl,f,q⟩:=h
 obtain ⟨u,v,rfl,a,d⟩:=lr r
 cases (show v=Value.type "int" from d)
 cases f with
 | int i=>obtain ⟨tk,rfl⟩:=a;exact IsiPair.int_int ⟨.bl true,H,I,rfl,q⟩
 | bool b=>cases (show u=Value.bool b from a);exact IsiPair.bool_int ⟨.bl true,H,I,rfl,q⟩
 | str z=>obtain ⟨tk,rfl⟩:=a;exact IsiPair.str_int ⟨.bl false,H,I.tok _,rfl,q⟩
 | non=>cases (show u=Value.none from a);exact IsiPair.NoneType_int ⟨.bl false,H,I.tok _,rfl,q⟩
 | tuple hh=>cases a;obtain ⟨o,e,c⟩:=I.clsK (.tuple hh);exact IsiPair.tuple_int e c ⟨.bl false,H,I.tok _,rfl,q⟩
 | list hh=>cases a;obtain ⟨o,e,c⟩:=I.clsK (.list hh);exact IsiPair.list_int e c ⟨.bl false,H,I.tok _,rfl,q⟩
 | dK hh=>cases a;obtain ⟨o,e,c⟩:=I.clsK (.dK hh);exact IsiPair.dict_int e c ⟨.bl false,H,I.tok _,rfl,q⟩
 | dT hh=>cases a;obtain ⟨o,e,c⟩:=I.clsK (.dT hh);exact IsiPair.dict_int e c ⟨.bl false,H,I.tok _,rfl,q⟩
theorem mU:df X (.builtin "isinstance") (fun xs H Q=>∃ x k,xs=[x,.ty "bool"]/\KindOf X.K H x k/\Q (.bl (kM k "bool")) H):=by
 intro pins s σ H xs us Q I r h
 obtain ⟨x,k,rfl,f,q⟩:=h
 obtain ⟨u,v,rfl,a,d⟩:=lr r
 cases (show v=Value.type "bool" from d)
 cases f with
 | int i=>obtain ⟨tk,rfl⟩:=a;exact IsiPair.int_bool ⟨.bl false,H,I.tok _,rfl,q⟩
 | bool b=>cases (show u=Value.bool b from a);exact IsiPair.bool_bool ⟨.bl true,H,I,rfl,q⟩
 | str z=>obtain ⟨tk,rfl⟩:=a;exact IsiPair.str_bool ⟨.bl false,H,I.tok _,rfl,q⟩
 | non=>cases (show u=Value.none from a);exact IsiPair.NoneType_bool ⟨.bl false,H,I.tok _,rfl,q⟩
 | tuple hh=>cases a;obtain ⟨o,e,c⟩:=I.clsK (.tuple hh);exact IsiPair.tuple_bool e c ⟨.bl false,H,I.tok _,rfl,q⟩
 | list hh=>cases a;obtain ⟨o,e,c⟩:=I.clsK (.list hh);exact IsiPair.list_bool e c ⟨.bl false,H,I.tok _,rfl,q⟩
 | dK hh=>cases a;obtain ⟨o,e,c⟩:=I.clsK (.dK hh);exact IsiPair.dict_bool e c ⟨.bl false,H,I.tok _,rfl,q⟩
 | dT hh=>cases a;obtain ⟨o,e,c⟩:=I.clsK (.dT hh);exact IsiPair.dict_bool e c ⟨.bl false,H,I.tok _,rfl,q⟩
theorem ml:df X (.builtin "isinstance") (fun xs H Q=>∃ x k,xs=[x,.ty "tuple"]/\KindOf X.K H x k/\Q (.bl (kM k "tuple")) H):=by
 intro pins s σ H xs us Q I r h
 obtain ⟨x,k,rfl,f,q⟩:=h
 obtain ⟨u,v,rfl,a,d⟩:=lr r
 cases (show v=Value.type "tuple" from d)
 cases f with
 | int i=>obtain ⟨tk,rfl⟩:=a;exact IsiPair.int_tuple ⟨.bl false,H,I.tok _,rfl,q⟩
 | bool b=>cases (show u=Value.bool b from a);exact IsiPair.bool_tuple ⟨.bl false,H,I.tok _,rfl,q⟩
 | str z=>obtain ⟨tk,rfl⟩:=a;exact IsiPair.str_tuple ⟨.bl false,H,I.tok _,rfl,q⟩
 | non=>cases (show u=Value.none from a);exact IsiPair.NoneType_tuple ⟨.bl false,H,I.tok _,rfl,q⟩
 | tuple hh=>cases a;obtain ⟨o,e,c⟩:=I.clsK (.tuple hh);exact IsiPair.tuple_tuple e c ⟨.bl true,H,I,rfl,q⟩
 | list hh=>cases a;obtain ⟨o,e,c⟩:=I.clsK (.list hh);exact IsiPair.list_tuple e c ⟨.bl false,H,I.tok _,rfl,q⟩
 | dK hh=>cases a;obtain ⟨o,e,c⟩:=I.clsK (.dK hh);exact IsiPair.dict_tuple e c ⟨.bl false,H,I.tok _,rfl,q⟩
 | dT hh=>cases a;obtain ⟨o,e,c⟩:=I.clsK (.dT hh);exact IsiPair.dict_tuple e c ⟨.bl false,H,I.tok _,rfl,q⟩
theorem uA {bs:List Bool}:((List.range bs.length).all fun i=>bs.getD i false)=bs.all id:=by
 rw [Bool.eq_iff_iff]
 simp only [List.all_eq_true,List.mem_range,id]
 constructor
 ·intro h b a
  obtain ⟨i,hi,rfl⟩:=List.mem_iff_getElem.mp a
  simpa [List.getD,hi] using h i hi
 ·intro h i hi
  simpa [List.getD,hi] using h _ (List.getElem_mem hi)
theorem wF (w:X.calm=true):df X (.builtin "all") (fun xs H Q=>∃ (a:Addr) (bs:List Bool),xs=[.ref a]/\SqL X.K H a (bs.map V.bl)/\Q (.bl (bs.all id)) H):=by
 intro pins s σ H xs us Q I r h
 obtain ⟨a,bs,rfl,t,q⟩:=h
 obtain ⟨u,rfl,f⟩:=kg r
 cases f
 obtain ⟨its,l,p,hz⟩:=I.list t
 have k:=l.length
 rw [BJ] at k
 have j:a < s.heap.objs.size:=by obtain ⟨o,_,e,_⟩:=id p;exact BG e
 refine call_all_walk (wpAny_pyIter_list p.isList ?_)
 refine ⟨s.heap.objs.size,_,_,_,_,_,fun i=>bs.getD i false,rfl,Walks.list (show X.A.in1.handled=none from I.ok.hd w) s.heap.objs.size a (BR j) its.toArray,⟨⟨_,BI _ rfl,rfl,rfl⟩,p.isList.at fun o e=>BA _ e⟩,?_,?_⟩
 ·intro i v s' m C B g
  have d:its[i]?=some v:=by simpa using B
  have hi:i < bs.length:=by
   have:=(BK.mp d).1
   omega
  obtain ⟨u,hu,f⟩:=l.get (i:=i) (x:=V.bl (bs[i])) (by simp [hi])
  rw [d] at hu
  cases hu
  cases (show v=Value.bool bs[i] from f)
  refine Ce ?_
  have e:bs.getD i false=bs[i]:=by simp [List.getD,hi]
  have c:m (bs.getD i false) s':=g
  rw [e] at c
  exact c
 ·intro h' tk z
  have y:Inv X pins σ H { s with heap:=h',toks:=tk }:=I.kept fun b o e=>z b o (by
   intro hm
   have n:b=s.heap.objs.size:=by simpa using hm
   exact absurd (n ▸ BG e) (Nat.lt_irrefl _)) (BA _ e)
  refine ⟨.bl (bs.all id),H,y,?_,q⟩
  show Value.bool _=Value.bool _
  rw [BS,<- k,uA]
def Ite (K:FG) (a:Addr):It :=
 ⟨fun i H=>∃ xs x,SqL K H a xs/\xs[i]?=some x,fun i H x H'=>∃ T y,x=.ref T/\H T=none/\H'=upd H T (.tup [.int i,y])/\∀ xs,SqL K H a xs->xs[i]?=some y,fun i H=>∃ xs,SqL K H a xs/\xs.length<=i⟩
theorem Inv.two {tk:Nat} (I:Inv X pins σ H s) (g:FpOk X pins H e) (h:FpOk X pins H it) (k:∀ b o,b ≠ e->b ≠ it->s.heap.get? b=some o->h'.get? b=some o):Inv X pins σ H { s with heap:=h',toks:=tk }:=by
 have f:∀ b u,H b=some u->b ≠ e/\b ≠ it:=fun b u q=>⟨aT q g.1,aT q h.1⟩
 have d:∀ b,b ∉ [e,it]->b ≠ e/\b ≠ it:=fun b i=>⟨fun z=>i (by simp [z]),fun z=>i (by simp [z])⟩
 refine I.step (g':=s.gens) (d':=s.drawn) (ch:=[e,it]) (fun b i=>?_) (fun b o _ _ a q _=>k b o (d b a).1 (d b a).2 q) (fun b o _ _ a q _=>⟨o.slots,k b o (d b a).1 (d b a).2 q⟩) (fun _ _ _ _ n=>n)
  (fun b o a q=>⟨o,k b o (d b a).1 (d b a).2 q⟩) (fun _ _ q=>q) (fun _ _ _ q=>q) (fun b ps q=>⟨#[],by rw [q];simp⟩) (fun m hm=>?_) (fun b u q=>?_) I.bare
 ·have p:b=e\/b=it:=by simpa using i
  rcases p with rfl | rfl
  ·exact ⟨g.2.2.2.1,g.2.1,g.2.2.2.2.1,g.2.2.2.2.2⟩
  ·exact ⟨h.2.2.2.1,h.2.1,h.2.2.2.2.1,h.2.2.2.2.2⟩
 ·obtain ⟨o,es,j,l,r⟩:=hm
  exact ⟨o,es,j,k _ o (Ne.symm g.2.1) (Ne.symm h.2.1) l,r⟩
 ·refine (I.hok b u q).stay (fun c v a z=>?_) (fun _ z=>z) fun _ _ z=>z
  rcases a with a | a
  ·rw [a] at z ⊢;exact k b v (f b u q).1 (f b u q).2 z
  ·exact k c v (f c _ a).1 (f c _ a).2 z
theorem Inv.trackT (I:Inv X pins σ H s) (J:Inv X pins σ H s0) (f:s0.heap.objs.size<=T) (g:IsTupD s.heap T its.toArray) (t:Vals xs its) (hz:xs.length<=sizeLine):Inv X pins σ (upd H T (.tup xs)) s:=by
 have l:H T=none:=J.hok.fresh f
 obtain ⟨e1,F,A,a,D,z,w,r,y,h,i⟩:=id I
 have d:∀ b,H b=none->∀ o,s0.heap.get? b=some o->upd H T (.tup xs) b=none:=fun b C o e=>by
  rw [aB (BR (BW (BG e) f))];exact C
 have j:∀ b u,H b=some u->upd H T (.tup xs) b=some u:=fun b u e=>by rw [aB (aT e l)];exact e
 have k:X.s₀.heap.objs.size<=T:=Cf J.sz f
 refine ⟨e1,F,A,⟨a.keep,a.slot,fun b o q n g=>?_,a.there,fun b ys q=>j _ _ (a.tups b ys q),fun b o u q=>j _ _ (a.frzs b o u q),fun b ps q=>?_⟩,D,z,?_,fun x c q=>?_,fun p m=>?_,?_,i⟩
 ·rw [aB (BR (BW (BG q) k))];exact a.free b o q n g
 ·obtain ⟨more,G⟩:=a.tbls b ps q;exact ⟨more,j _ _ G⟩
 ·rw [aB (BR (BW J.lt f))];exact w
 ·obtain ⟨v,o,B,_⟩:=J.cell x c q
  exact d c (r x c q) o B
 ·obtain ⟨a1,a2,E⟩:=y p m
  exact ⟨a1,d p.1 a2 p.2 (J.pin p m).1,E⟩
 ·exact h.track l ⟨hz,its,t,g⟩
theorem tu {P:Program} {w:World} {K:FG} {elts:List Expr} {k:Nat} {pos:Pos} (a e it:Addr) (t:e ≠ it):Turn P w K (.Tuple elts k pos) (Ite K a) [e,it] e (fun i h=>(∃ old,IsEnum h e it i old)/\h.IsListIter it a i) where
 mem:=by simp
 obj:=fun i h st b g=>by
  obtain ⟨⟨old,he⟩,o,y,c,d⟩:=st
  have C:b=e\/b=it:=by simpa using g
  rcases C with rfl | rfl
  ·exact ⟨_,he,fun v z=>by cases z⟩
  ·exact ⟨o,y,fun v z=>by rw [d] at z;cases z⟩
 keep:=fun i h h' st k=>⟨let ⟨old,he⟩:=st.1;⟨old,k e (by simp) _ he⟩,st.2.at fun o q=>k it (by simp) o q⟩
 item:=by
  intro X F hw D O i pins s σ H E I hf st N
  subst F hw D
  obtain ⟨xs,x,A,J⟩:=N
  obtain ⟨its,B,p,hz⟩:=I.list A
  obtain ⟨u,hu,Q⟩:=B.get J
  obtain ⟨⟨old,he⟩,hit⟩:=st
  refine wpAny_pyNext_enum_item he hit p.isList (x:=u) (by simpa using hu) t fun h' L m R hsz Z=>?_
  refine ⟨_,rfl,wpAny_letOwnedTupleGo_enum L fun l j f=>?_⟩
  have n:e < s.heap.objs.size:=BG he
  have V:Inv X pins σ H { s with heap:=l,toks:=s.toks+1 }:=I.two (hf e (by simp)) (hf it (by simp)) fun b o hb1 hb2 q=>(f.2 b hb1).trans (Z b o hb1 hb2 q)
  have M:l.get? s.heap.objs.size=some { cls:=.type "tuple",data:=.seq #[.int i s.toks,u] }:=(f.2 _ (Nat.ne_of_gt n)).trans R
  have S:=V.trackT (s0:=s) (T:=s.heap.objs.size) (xs:=[.int i,x]) (its:=[.int i s.toks,u]) I (BP _) ⟨_,M,rfl,_,rfl⟩ (.cons ⟨_,rfl⟩ (.cons Q .nil)) (by show 2<=sizeLine;decide)
  refine ⟨.ref s.heap.objs.size,_,S,rfl,⟨_,x,rfl,I.hok.fresh (BP _),rfl,fun ys hy=>by rw [I.list_inj hy A];exact J⟩,⟨⟨_,by simpa using j⟩,?_⟩,fun b g=>?_⟩
  ·obtain ⟨o,y,r⟩:=m
   exact ⟨o,(f.2 it (Ne.symm t)).trans y,r⟩
  ·have G:b < s.heap.objs.size:=by
    have C:b=e\/b=it:=by simpa using g
    rcases C with rfl | rfl
    ·exact n
    ·obtain ⟨o,y,r⟩:=hit;exact BG y
   rw [aB (BR G)]
   exact (hf b g).1
 done:=by
  intro X F hw D O i pins s σ H E I hf st N
  subst F hw D
  obtain ⟨xs,A,J⟩:=N
  obtain ⟨its,B,p,hz⟩:=I.list A
  obtain ⟨⟨old,he⟩,hit⟩:=st
  have hl:=B.length
  obtain ⟨f0,f1,f2,U,f4,W⟩:=hf it (by simp)
  exact wpAny_pyNext_enum_end (I.ok.hd O) he hit p.isList (by simp;omega) fun h' Y=>⟨rfl,I.turned (t':=s.toks) (fun b o g q=>Y b o g q) f0 f1 U f4 W⟩
 self:=fun _ _ _ _ _ st h=>let ⟨_,he⟩:=st.1;wpAny_pyIter_enum he h
def zg (K:FG) (ta:TA):TI:=fun σ H R=>ta σ H fun b H1=>∃ a,b=[.ref a]/\(∃ xs,SqL K H1 a xs)/\R (Ite K a) H1
theorem xS {k:Nat} (v:Gl X "enumerate") (hm:X.mg "enumerate"=none) (r:PA X [a] ta) (o:starEach [a] X.env=[(false,eval a X.env)]:=by rfl):PI X (.Tuple elts k tp) (.Call (.Name "enumerate" p) [a] [] pos) (zg X.K ta):=by
 intro pins s σ H R I h
 refine Call_ (jP I v hm boot_enumerate (PyProof.Rows.callWith_type1 (thn (r pos pins s σ H _ I h) fun us s1 ⟨x,H1,d,g,i⟩=>?_) o rfl))
 obtain ⟨a,e,⟨xs,n⟩,q⟩:=i
 subst e
 obtain ⟨u,rfl,f⟩:=kg g
 cases f
 obtain ⟨its,w,pl,hz⟩:=d.list n
 refine call_enumerate_list pl.isList fun h' he hit hsz t=>?_
 refine wpAny_pyIter_enum he ?_
 have j:Inv X pins σ H1 { s1 with heap:=h' }:=d.kept (t':=s1.toks) t
 refine ⟨s1.heap.objs.size+1,[s1.heap.objs.size+1,s1.heap.objs.size],_,_,H1,rfl,j,tu a _ _ (Nat.succ_ne_self _),⟨⟨_,he⟩,hit⟩,fun b l=>?_,q⟩
 have c:s1.heap.objs.size<=b:=by
  have m:b=s1.heap.objs.size+1\/b=s1.heap.objs.size:=by simpa using l
  rcases m with rfl | rfl
  ·exact Nat.le_succ _
  ·exact BP _
 exact d.fpOk c (d.hok.fresh c)
end
end L2
end
section
namespace L2
open PySem PySem.Spec PyProof.Rows
structure Callee (P:Program) (w:World) (K:FG) (mg:Str->Option Value) (base:Heap) (x:Str) (k:Nat) (ps:List Str) (sp:Sp):Prop where
 ex:∃ (f:Addr) (fd:FuncData),FnOk P w K mg base CX0 k f fd ps sp/\mg x=some (.ref f)/\PySem.W.keepIn K (.ref f)=true/\Binds K fd ps []
structure DefAt (K:FG) (mg:Str->Option Value) (x:Str) (st:Stmt) (f:Addr) (fd:FuncData):Prop where
 fn:Fun K x x st f fd
 mg:mg x=some (.ref f)
def Def (K:FG) (mg:Str->Option Value) (x:Str) (st:Stmt):Prop:=∃ f fd,DefAt K mg x st f fd
theorem Def.callee {K:FG} {st:Stmt} {k:Nat} (D:Def K mg x st) (b:∀ (kV doc pm:Value) (an:Option Addr) (a ct:Value) (us:List Value),us.length=ps.length->bindArgs (PySem.W.fnOf x x (aQ st) (aL st) (ac st) .none kV doc pm an a ct) ⟨us,[]⟩=pure (ps.zip us)) (h:∀ f fd,Fun K x x st f fd->FnOk P w K mg base CX0 k f fd ps sp):Callee P w K mg base x k ps sp :=
 let ⟨f,fd,d⟩:=D
 ⟨f,fd,h f fd d.fn,d.mg,d.fn.kp,d.fn.binds b⟩
section
variable {X:Cx} {x:Str} {p pos:Pos} {e:Expr} {es:List Expr} {t:TA} {k:Nat} {ps:List Str} {sp:Sp}
def tFn (sp:Sp) (t:TA):TE:=fun σ H Q=>t σ H fun a H1=>sp a H1 Q E0
theorem pe_fn (c:Callee X.prog X.w X.K X.mg X.base x k ps sp) (g:Room k X.A) (j:PA X (e :: es) t) (n:Gl X x:=by rfl) (a:(x == ("__debug__":Str))=false:=by decide)
  (he:starEach (e :: es) X.env=(false,eval e X.env) :: starEach es X.env:=by rfl) (b:(backTo pos (starEach es X.env)).any (·.1)=false:=by rfl):PE X (.Call (.Name x p) (e :: es) [] pos) (tFn sp t):=by
 obtain ⟨f,fd,F,hm,l,i⟩:=c.ex
 have h:=xV (pos:=pos) (p:=p) (dvs:=[]) (E:=E0) F g n hm l i .nil pass0 j a he b
 intro pins s σ H Q I q
 refine h pins s σ H Q I ?_
 show t σ H fun d H1=>sp (d ++ []) H1 Q E0
 have m:t σ H (fun d H1=>sp d H1 Q E0):=q
 simpa using m
end
def But (p:Addr) (H H':Hp):Prop:=∀ b o,H b=some o->b ≠ p->H' b=some o
theorem But.trans (a:But p H H1) (b:But p H1 H2):But p H H2:=fun c o h n=>b c o (a c o h n) n
abbrev Pt:=Int × Int
def cq (p q r:Pt):Int:=(q.1 - p.1) * (r.2 - p.2) - (q.2 - p.2) * (r.1 - p.1)
def Small (p:Pt):Prop:=-(2 ^ 62) < p.1/\p.1 < 2 ^ 62/\-(2 ^ 62) < p.2/\p.2 < 2 ^ 62
def Rising (ps:List Pt):Prop:=∀ (i j:Nat) (p q:Pt),i < j->ps[i]?=some p->ps[j]?=some q->p.1 < q.1
def NoLine (ps:List Pt):Prop:=∀ (i j k:Nat) (p q r:Pt),i < j->j < k->ps[i]?=some p->ps[j]?=some q->ps[k]?=some r->cq p q r ≠ 0
structure GoodSh (ps:List Pt):Prop where
 pos:0 < ps.length
 most:ps.length<=24
 small:∀ p ∈ ps,Small p
 rising:Rising ps
 noline:NoLine ps
def ki:List Pt->List (Pt × Pt)
 | []=>[]
 | p :: r=>r.map (fun q=>(p,q)) ++ ki r
theorem nB:∀ {ps:List Pt} {i j:Nat} {p q:Pt},i < j->ps[i]?=some p->ps[j]?=some q->(p,q) ∈ ki ps
 | [],_,_,_,_,_,h,_=>by simp at h
 | a :: r,0,0,_,_,h,_,_=>by omega
 | a :: r,0,j+1,p,q,_,h1,h2=>by
  simp at h1 h2;subst h1
  exact BC _ (BN.mpr ⟨q,BL h2,rfl⟩)
 | a :: r,i+1,0,_,_,h,_,_=>by omega
 | a :: r,i+1,j+1,p,q,h,h1,h2=>BD _ (nB (ps:=r) (i:=i) (j:=j) (by omega) (by simpa using h1) (by simpa using h2))
theorem pK:∀ {ps:List Pt} {p q:Pt},(p,q) ∈ ki ps->∃ i j:Nat,i < j/\ps[i]?=some p/\ps[j]?=some q
 | [],_,_,h=>by simp [ki] at h
 | a :: r,p,q,h=>by
  rcases BH.mp h with h | h
  ·obtain ⟨z,hz,e⟩:=BN.mp h
   cases e
   obtain ⟨j,b,e⟩:=List.mem_iff_getElem.mp hz
   exact ⟨0,j+1,by omega,rfl,by simp [b,e]⟩
  ·obtain ⟨i,j,h0,h1,h2⟩:=pK h
   exact ⟨i+1,j+1,by omega,by simpa using h1,by simpa using h2⟩
theorem nz:∀ ps:List Pt,(ki ps).length<=ps.length * ps.length
 | []=>by simp [ki]
 | a :: r=>by
  have b:=nz r
  simp only [ki,BZ,BJ,B0]
  have:(r.length+1) * (r.length+1)=r.length * r.length+2 * r.length+1:=by
   rw [Nat.add_mul,Nat.mul_add];omega
  omega
def wR (ps:List Pt) (z:Pt):Prop:=∀ (i j:Nat) (p q:Pt),i < j->ps[i]?=some p->ps[j]?=some q->cq p q z ≠ 0
def above (ps:List Pt) (x y:Int):Nat:=((ki ps).filter fun pr=>decide (cq pr.1 pr.2 (x,y)<=0)).length
theorem wB {α:Type} {p q:α->Bool}:∀ {l:List α},(∀ a ∈ l,p a=true->q a=true)->(l.filter p).length<=(l.filter q).length
 | [],_=>by simp
 | a :: l,h=>by
  have d:=wB (l:=l) fun b f=>h b (Bz _ f)
  have g:=h a By
  cases c:p a with
  | true=>rw [List.filter_cons_of_pos c,List.filter_cons_of_pos (g c)];simpa using d
  | false =>
   rw [List.filter_cons_of_neg (by simp [c])]
   cases e:q a with
   | true=>rw [List.filter_cons_of_pos e];simp;omega
   | false=>rw [List.filter_cons_of_neg (by simp [e])];exact d
theorem wA {α:Type} {p q:α->Bool}:∀ {l:List α} {z:α},(∀ a ∈ l,p a=true->q a=true)->z ∈ l->q z=true->p z=false->(l.filter p).length < (l.filter q).length
 | [],_,_,hz,_,_=>by simp at hz
 | a :: l,z,h,hz,h1,h2=>by
  have d:∀ b ∈ l,p b=true->q b=true:=fun b g=>h b (Bz _ g)
  rcases BE.mp hz with rfl | hz
  ·rw [List.filter_cons_of_neg (by simp [h2]),List.filter_cons_of_pos h1]
   have:=wB d
   simp;omega
  ·have e:=wA d hz h1 h2
   have i:=h a By
   cases c:p a with
   | true=>rw [List.filter_cons_of_pos c,List.filter_cons_of_pos (i c)];simpa using e
   | false =>
    rw [List.filter_cons_of_neg (by simp [c])]
    cases f:q a with
    | true=>rw [List.filter_cons_of_pos f];simp;omega
    | false=>rw [List.filter_cons_of_neg (by simp [f])];exact e
theorem sV (p q:Pt) (x y:Int):cq p q (x,y+1)=cq p q (x,y)+(q.1 - p.1):=by
 unfold cq
 have e:(q.1 - p.1) * (y+1 - p.2)=(q.1 - p.1) * (y - p.2)+(q.1 - p.1):=by
  rw [show y+1 - p.2=(y - p.2)+1 by omega,Int.mul_add,Int.mul_one]
 show (q.1 - p.1) * (y+1 - p.2) - (q.2 - p.2) * (x - p.1)=(q.1 - p.1) * (y - p.2) - (q.2 - p.2) * (x - p.1)+(q.1 - p.1)
 rw [e];omega
theorem wO {x y:Int} (R:Rising ps) {i j:Nat} (a:i < j) (hi:ps[i]?=some p) (c:ps[j]?=some q) (h0:cq p q (x,y)=0):above ps x (y+1) < above ps x y:=by
 refine wA (z:=(p,q)) (fun pr b h=>?_) (nB a hi c) (by simp [h0]) ?_
 ·obtain ⟨e,d,h',e1,f⟩:=pK (p:=pr.1) (q:=pr.2) b
  have:=R e d _ _ h' e1 f
  have h:=of_decide_eq_true h
  rw [sV] at h
  exact BU (by omega)
 ·have:=R i j _ _ a hi c
  show decide (cq p q (x,y+1)<=0)=false
  rw [sV,h0]
  exact BV (by omega)
theorem wP (ps:List Pt) (x y:Int):above ps x y<=ps.length * ps.length:=Cf (List.length_filter_le _ _) (nz ps)
theorem de {α:Type} {l:List α} {z a:α} {i:Nat} (h:(l ++ [z])[i]?=some a):(l[i]?=some a/\i < l.length)\/(a=z/\i=l.length):=by
 by_cases hi:i < l.length
 ·rw [Cc hi] at h;exact .inl ⟨h,hi⟩
 ·rw [List.getElem?_append_right (by omega)] at h
  have:i - l.length=0:=by
   cases e:i - l.length with
   | zero=>rfl
   | succ n=>rw [e] at h;simp at h
  rw [this] at h;simp at h
  exact .inr ⟨h.symm,by omega⟩
theorem Rising.snoc (R:Rising ps) (h:∀ p ∈ ps,p.1 < z.1):Rising (ps ++ [z]):=fun i j p q a h1 h2=>by
 rcases de h1 with ⟨a1,b⟩ | ⟨rfl,b⟩
 ·rcases de h2 with ⟨a2,b2⟩ | ⟨rfl,b2⟩
  ·exact R i j p q a a1 a2
  ·exact h p (BL a1)
 ·rcases de h2 with ⟨a2,b2⟩ | ⟨rfl,b2⟩
  ·omega
  ·omega
theorem NoLine.snoc (N:NoLine ps) (F:wR ps z):NoLine (ps ++ [z]):=fun i j k p q r a c h1 h2 h3=>by
 rcases de h1 with ⟨a1,e⟩ | ⟨rfl,e⟩
 ·rcases de h2 with ⟨a2,b2⟩ | ⟨rfl,b2⟩
  ·rcases de h3 with ⟨d,b⟩ | ⟨rfl,b⟩
   ·exact N i j k p q r a c a1 a2 d
   ·exact F i j p q a a1 a2
  ·rcases de h3 with ⟨d,b⟩ | ⟨rfl,b⟩ <;> omega
 ·rcases de h2 with ⟨a2,b2⟩ | ⟨rfl,b2⟩ <;> omega
def io (a b c:Int) (p:Pt):Pt:=(a * p.1+c,b * p.2)
theorem rS (a b c:Int) (p q r:Pt):cq (io a b c p) (io a b c q) (io a b c r)=(a * b) * cq p q r:=by
 unfold cq io
 show (a * q.1+c - (a * p.1+c)) * (b * r.2 - b * p.2) - (b * q.2 - b * p.2) * (a * r.1+c - (a * p.1+c))=_
 have e1:a * q.1+c - (a * p.1+c)=a * (q.1 - p.1):=by rw [Int.mul_sub];omega
 have e:b * r.2 - b * p.2=b * (r.2 - p.2):=by rw [Int.mul_sub]
 have d:b * q.2 - b * p.2=b * (q.2 - p.2):=by rw [Int.mul_sub]
 have f:a * r.1+c - (a * p.1+c)=a * (r.1 - p.1):=by rw [Int.mul_sub];omega
 rw [e1,e,d,f,Int.mul_sub (a * b)]
 have f1:a * (q.1 - p.1) * (b * (r.2 - p.2))=a * b * ((q.1 - p.1) * (r.2 - p.2)):=by
  rw [Int.mul_assoc,Int.mul_assoc,Int.mul_left_comm (q.1 - p.1)]
 have f2:b * (q.2 - p.2) * (a * (r.1 - p.1))=a * b * ((q.2 - p.2) * (r.1 - p.1)):=by
  rw [Int.mul_comm a b,Int.mul_assoc,Int.mul_assoc,Int.mul_left_comm (q.2 - p.2)]
 rw [f1,f2]
theorem Rising.scale {a b c:Int} (h:0 < a) (R:Rising ps):Rising (ps.map (io a b c)):=fun i j p q f h1 h2=>by
 rw [BO] at h1 h2
 obtain ⟨d,e1,rfl⟩:=BB.mp h1
 obtain ⟨e,g,rfl⟩:=BB.mp h2
 have:=R i j d e f e1 g
 have h3:a * d.1 < a * e.1:=Int.mul_lt_mul_of_pos_left this h
 show a * d.1+c < a * e.1+c
 omega
theorem NoLine.scale {a b c:Int} (o:0 < a) (n:0 < b) (N:NoLine ps):NoLine (ps.map (io a b c)):=fun i j k p q r d e h1 h2 h3=>by
 rw [BO] at h1 h2 h3
 obtain ⟨f,e1,rfl⟩:=BB.mp h1
 obtain ⟨m,l,rfl⟩:=BB.mp h2
 obtain ⟨g,h,rfl⟩:=BB.mp h3
 rw [rS]
 exact Int.mul_ne_zero (Int.mul_ne_zero (by omega) (by omega)) (N i j k f m g d e e1 l h)
section InBlock
variable {X:Cx} {NY:List Str} {scope:Scope} {s:Shared} {H:Hp} {C:Addr} {fp:List Addr}
end InBlock
end L2
end
section
namespace L2
open PySem PySem.Spec PyProof.Rows
mutual
inductive DV (K:FG) (H:Hp):V->PyData->Prop
 | non:DV K H .non .none
 | bl (b:Bool):DV K H (.bl b) (.bool b)
 | int (i:Int):DV K H (.int i) (.int i)
 | str (x:Str):DV K H (.str x) (.str x)
 | tup {a:Addr} {xs:List V} {ds:List PyData}:SqT K H a xs->DVs K H xs ds->DV K H (.ref a) (.tuple ds)
 | lst {a:Addr} {xs:List V} {ds:List PyData}:SqL K H a xs->DVs K H xs ds->DV K H (.ref a) (.list ds)
inductive DVs (K:FG) (H:Hp):List V->List PyData->Prop
 | nil:DVs K H [] []
 | cons {x:V} {d:PyData} {xs:List V} {ds:List PyData}:DV K H x d->DVs K H xs ds->DVs K H (x :: xs) (d :: ds)
end
section
variable {X:Cx} {pins:List (Addr × Obj)} {σ:St} {H:Hp} {s:Shared}
mutual
theorem DV.reads (I:Inv X pins σ H s):∀ {v:V} {d:PyData} {u:Value},DV X.K H v d->RelV v u->∃ as,Reads s.heap u d as
 | _,_,u,.non,r=>by cases (show u=Value.none from r);exact ⟨_,.none⟩
 | _,_,u,.bl b,r=>by cases (show u=Value.bool b from r);exact ⟨_,.bool b⟩
 | _,_,u,.int i,r=>by obtain ⟨t,rfl⟩:=r;exact ⟨_,.int i t⟩
 | _,_,u,.str x,r=>by obtain ⟨t,rfl⟩:=r;exact ⟨_,.str x t⟩
 | _,_,u,.tup (a:=a) h rs,r=>by
  cases (show u=Value.ref a from r)
  obtain ⟨its,f,⟨o,e,c,n,d⟩,_⟩:=I.tuple h
  obtain ⟨as,q⟩:=DVs.reads I rs f
  exact ⟨_,.tuple e c d (by simpa using q)⟩
 | _,_,u,.lst (a:=a) h rs,r=>by
  cases (show u=Value.ref a from r)
  obtain ⟨its,f,⟨o,n,e,c,_,d⟩,_⟩:=I.list h
  obtain ⟨as,q⟩:=DVs.reads I rs f
  exact ⟨_,.list e c d (by simpa using q)⟩
theorem DVs.reads (I:Inv X pins σ H s):∀ {v:List V} {d:List PyData} {us:List Value},DVs X.K H v d->Vals v us->∃ as,ReadsAll s.heap us d as
 | _,_,_,.nil,.nil=>⟨_,.nil⟩
 | _,_,_,.cons h r,.cons q t=>by
  obtain ⟨as,e1⟩:=DV.reads I h q
  obtain ⟨bs,a⟩:=DVs.reads I r t
  exact ⟨_,.cons e1 a⟩
end
end
end L2
end
section
namespace L2
open PySem PySem.Spec PyProof.Rows
end L2
end
section
namespace L2
open PySem PySem.Spec PyProof.Rows
end L2
end
section
namespace L2
open PySem PySem.Spec PyProof.Rows
end L2
end
section
namespace L2
open PySem PySem.Spec PyProof.Rows
end L2
end
section
namespace L2
open PySem PySem.Spec PyProof.Rows
end L2
end
section
namespace L2
open PySem PySem.Spec PyProof.Rows
end L2
end
section
namespace L2
open PySem PySem.Spec PyProof.Rows
end L2
end
section
namespace L2
open PySem PySem.Spec PyProof.Rows
end L2
end
section
namespace L2
open PySem PySem.Spec PyProof.Rows
end L2
end
section
namespace L2
open PySem PySem.Spec PyProof.Rows
end L2
end
section
namespace PySem
open Sem (wp)
end PySem
end
section
namespace L2
open PySem PySem.Spec PyProof.Rows
end L2
end
section
namespace L2
open PySem PySem.Spec PyProof.Rows
end L2
end
section
namespace L2
open PySem PySem.Spec PyProof.Rows
section
variable {X:Cx}
theorem vL:MtR X "list.index" (fun x J H Q=>∃ (a:Addr) (xs:List V) (k:V) (j:Nat),x=.ref a/\J=[k]/\SqL X.K H a xs/\fM k=true/\xs.all fM=true/\(∃ y,xs[j]?=some y/\eqV y k=true)/\(∀ (i:Nat) (y:V),i < j->xs[i]?=some y->eqV y k=false)/\Q (.int j) H):=by
 intro pins s σ H x J v us Q I S O h
 obtain ⟨a,xs,k,j,rfl,rfl,N,P,fx,⟨y,L,R⟩,A,q⟩:=h
 cases S
 obtain ⟨u,rfl,M⟩:=kg O
 obtain ⟨its,r,⟨o,n,e,G,hd,E⟩,hz⟩:=I.list N
 obtain ⟨w,hw,p⟩:=r.get L
 have hlen:=r.length
 have T:j < its.length:=(BK.mp hw).1
 have C:∀ z ∈ xs,fM z=true:=List.all_eq_true.mp fx
 have hit:eqU k its.toArray[j]=true:=by
  have e1:its.toArray[j]=w:=by
   have:=(BK.mp hw).2
   simpa using this
  rw [e1,oP p (C y (BL L))]
  exact R
 have no:∀ m (hm:m < its.toArray.size),m < j->eqU k its.toArray[m]=false:=fun m hm g=>by
  have b:m < xs.length:=by simp at hm;omega
  obtain ⟨U,l,B⟩:=r.get (BF b)
  have e1:its.toArray[m]=U:=by
   have:=(BK.mp l).2
   simpa using this
  rw [e1,oP B (C _ (List.getElem_mem _))]
  exact A m _ g (BF b)
 have D:s.heap.get? a=some { cls:=.type "list",dict:=none,data:=.seq its.toArray n,slots:=o.slots }:=by
  rw [e]
  obtain ⟨c,d,dt,sl⟩:=o
  dsimp only at G hd E
  subst G hd E
  rfl
 have t:(j:Int) < 2 ^ 63 - 1:=by
  have:sizeLine < 2 ^ 60:=by decide
  omega
 refine call_meets F.slot_list_index ⟨_,D,rfl⟩ F.entry_list_index (F.args_list_index_2 _ _) (SeqAt.list_indexAt a its.toArray n none o.slots u (eqU k) j (by simpa using T) t hit no) ⟨D,fun z f=>lL M P r fx z (by simpa using f),?_⟩
 exact ⟨.int j,H,I.tok _,⟨_,rfl⟩,q⟩
end
end L2
end
section
namespace L2
open PySem PySem.Spec PyProof.Rows
end L2
end
section
namespace L2
open PySem PySem.W PySem.Spec PyProof.Rows
abbrev excO (a:Addr) (cls:Value):HO:=.ext fun h=>∃ o,h.get? a=some o/\o.cls=cls
abbrev kO (ob:Obj) (a:Addr) (cls:Value):HO:=.frz ob (excO a cls)
structure ExcK (K:FG) (D:Addr):Prop where
 ga:findIn K (.ref D) "__getattribute__"=some (some (.builtin "BaseException.__getattribute__"))
 gt:findIn K (.ref D) "__getattr__"=some none
 cl:(clsIn K D).isSome=true
 ca:findIn K (.ref D) "__class__"=some (some (.builtin "object.__class__"))
 sp:specialIn K (.builtin "object.__class__") "__get__"=some (some (.builtin "getset_descriptor.__get__"))
 tk:takesIn K (.builtin "object.__class__")=some true
 ob:mroIn K D (.type "object")=some true
 be:mroIn K D (.type "BaseException")=some true
structure XName (K:FG) (c:String) (D:Addr):Prop where
 ns:nsIn K mainGlobals (Str.ofString c)=some (some (.ref D))
 ex:ExcK K D
theorem XName.inj {K:FG} (a:XName K c D) (b:XName K c D'):D=D':=by
 have:=a.ns.symm.trans b.ns
 cases this
 rfl
end L2
end
section
namespace L2
open PySem
section
variable {K:FG} {h:Heap} {mg:Str->Option Value}
theorem vV {h : Heap} {i : Nat} {p : Obj} {q : Nat × Obj} (a : h.objs[i]? = some p) (e : qa (i, p) = some q) : q.1 = i /\ h.get? i = some q.2 := by
  obtain ⟨c, d, x, y⟩ := p
  unfold Heap.get?
  rw [a]
  cases x <;> first | (cases e; exact ⟨rfl, rfl⟩) | cases e
theorem jM:∀ {is:List Nat} {l:List Obj} {a:Nat} {o:Obj},(∀ (j i:Nat) (p:Obj),is[j]?=some i->l[j]?=some p->h.objs[i]?=some p)->((is.zip l).filterMap qa).lookup a=some o->h.get? a=some o
 | [],_,_,_,_,e=>by cases e
 | _ :: _,[],_,_,_,e=>by cases e
 | b :: is,p :: l,a,o,hj,e=>by
  have k:=hj 0 b p rfl rfl
  have g:∀ (j i:Nat) (p:Obj),is[j]?=some i->l[j]?=some p->h.objs[i]?=some p:=fun j i p h1 h2=>hj (j+1) i p (by simpa using h1) (by simpa using h2)
  rw [List.zip_cons_cons,List.filterMap_cons] at e
  cases d:qa (b,p) with
  | none=>rw [d] at e;exact jM g e
  | some q =>
   rw [d] at e
   obtain ⟨h1,h2⟩:=vV k d
   obtain ⟨f,m⟩:=q
   cases h1
   replace e:List.lookup a ((f,m) :: (is.zip l).filterMap qa)=some o:=e
   rw [List.lookup_cons] at e
   cases c:a == f with
   | true=>rw [c] at e;cases eq_of_beq c;cases e;exact h2
   | false=>rw [c] at e;exact jM g e
theorem fragAt_in (h:Heap):(jU h).In h:=fun _ _ e=>jM (fun j i p h1 h2=>by
 obtain ⟨a,rfl⟩:=BK.mp h1
 simpa using h2) e
def stPos (s:Stmt):Pos:=match s with
 | .FunctionDef _ _ _ _ _ _ _ _ _ p=>p
 | _=>⟨0,0,0,0⟩
theorem Bd (X:K.In h) (G:h.Ns mainGlobals mg) (e:nN K n=jV n st):Def K mg n st:=by
 unfold nN at e
 split at e
 ·rename_i f hf
  split at e
  ·rename_i c d fd sl a
   unfold jV at e
   obtain ⟨name,qual,params,body,scope,globals,closure,defaults,kw,doc,pm,an,cd,ct,bi⟩:=fd
   simp only [Option.some.injEq,Prod.mk.injEq] at e
   obtain ⟨rfl,rfl,rfl,rfl,rfl,rfl,rfl,rfl,rfl,b⟩:=e
   exact ⟨f,_,A7 (st:=st) a b (by unfold PySem.W.keepIn;simp only [a]),PySem.W.mg_of X G hf⟩
  ·cases e
 ·cases e
theorem lJ {α β:Type} {f g:α->β} {l:List α} (e:l.map f=l.map g) (i:Nat) {a:α} (h:l[i]?=some a):f a=g a:=List.map_inj_left.mp e a (BL h)
theorem av {ds:List (Str × Stmt)} (X:K.In h) (G:h.Ns mainGlobals mg) (e:ds.map (fun p=>nN K p.1)=ds.map (fun p=>jV p.1 p.2)) (i:Nat) (hi:ds[i]?=some (n,st)):Def K mg n st:=Bd X G (lJ e i hi)
theorem bV {l:List Str} (X:K.In h) (G:h.Ns mainGlobals mg) (e:l.map (PySem.W.nsIn K mainGlobals)=l.map (fun _=>some none)) (i:Nat) (hi:l[i]?=some n):mg n=none:=PySem.W.mg_none_of X G (lJ e i hi)
theorem rC {l:List (Str × Int)} {v:Int} (X:K.In h) (G:h.Ns mainGlobals mg) (e:l.map (fun p=>oI K p.1)=l.map (fun p=>some p.2)) (i:Nat) (hi:l[i]?=some (n,v)):∃ t,mg n=some (.int v t):=by
 have e:=lJ e i hi
 unfold oI at e
 dsimp only at e
 split at e
 ·rename_i b t a;cases e;exact ⟨t,PySem.W.mg_of X G a⟩
 ·cases e
theorem walk_ofS {l:PySem.W.OpenLaw} {n k:Nat} {S:FG->Prop} {sp:FG->Sp} (D:l.most=some n) (t:n<=sizeLine) (y:d.params.defaults=[]) (L:Room k callerA) (M:∀ (w:World) (h:Heap),YP w h->∃ K:FG,K.In h/\S K) (F:∀ (w:World) (mg:Str->Option Value) (i:Addr) (h:Heap) (K:FG),S K->K.In h->h.Ns mainGlobals mg->mg d.name=some (.ref i) ->
   ∃ fd:FuncData,(∀ (s:Shared) (u:Value),BindsTo s fd ⟨[u],[]⟩ [(x,u)]) /\
    ∀ base:Heap,K.In base->base.Ns mainGlobals mg->FnOk l.prog w K mg base CX k i fd [x] (sp K)) (j:∀ (K:FG) (H:Hp) (a:Addr) (ns:List Int),ns.length<=n->yO H->SqL K H a (ns.map V.int)->sp K [.ref a] H (fun v _=>v=.bl true) fun _ _ _=>False) (r:∀ (H:Hp) (s:Shared) (e:Value) (s':Shared),CX [] H s (fun _ _ _=>False) e s'->False) :
  PySem.W.WalkO q loose XP YP l.row.toRowW d [] (fun f A=>PySem.call f A):=by
 refine Att.attach_call D y fun w s₀ I mg mb i o pm cd doc a A ns G Y O hd B m c hints hlen N=>?_
 obtain ⟨K,z,p⟩:=M w _ Y
 obtain ⟨fd,E,C⟩:=F w mg i _ K p z G.T.g m
 exact vW z G.T.g G.T.b G.T.builtins G.T.nolimit N c hints (Cf hlen t) L C E (fun H J p=>j K H a ns hlen J p) fun H e s'=>r H I e s'
end
end L2
end
section
namespace L2
open PySem PySem.Spec PyProof.Rows
def NoCtx (h:Heap) (a:Addr):Prop:=∃ o b,h.get? a=some o/\o.data=.fields b/\b[2]?=some Value.none
theorem NoCtx.keep (x:NoCtx h a) (k:∀ o,h.get? a=some o->h'.get? a=some o):NoCtx h' a :=
 let ⟨o,b,e,r⟩:=x;⟨o,b,k o e,r⟩
end L2
end
section
namespace L2
open PySem PySem.Spec PyProof.Rows
def cD (Φ:Heap->Prop) {α:Type}:Sem α->Prop
 | .pure _ | .raise _ | .unsupported _ | .finish _=>True
 | .rule _ k=>cD Φ (k ())
 | .at _ k=>cD Φ (k ())
 | .point _ k=>cD Φ (k ())
 | .load _ _ k=>∀ o,cD Φ (k o)
 | .loadIfAlive _ k=>∀ o,cD Φ (k o)
 | .update a _ f k=>(∀ h,Φ h->Φ (h.update a f))/\cD Φ (k ())
 | .alloc _ k=>∀ a,cD Φ (k a)
 | .fresh k=>∀ t,cD Φ (k t)
 | .ask k=>∀ x,cD Φ (k x)
 | .handled _ k=>∀ v,cD Φ (k v)
 | .stack k=>∀ l,cD Φ (k l)
 | _=>False
theorem wX (push:∀ h o,Φ h->Φ (h.push o)) (t:Sem α):∀ {Q:α->Pos->Shared->Prop} {E:Value->Pos->Shared->Prop} {p:Pos} {s:Shared},cD Φ t->Φ s.heap->Sem.wp M Γ t Q E p s->Sem.wp M Γ t (fun a p s'=>Q a p s'/\Φ s'.heap) (fun e p s'=>E e p s'/\Φ s'.heap) p s:=by
 induction t with
 | pure a=>intro Q E p s _ f h;rw [Sem.wp] at h ⊢;exact ⟨h,f⟩
 | raise e=>intro Q E p s _ f h;rw [Sem.wp] at h ⊢;exact ⟨h,f⟩
 | unsupported w=>intro Q E p s _ f h;rw [Sem.wp] at h;exact h.elim
 | finish e=>intro Q E p s _ f h;rw [Sem.wp] at h;exact h.elim
 | rule _ k ih=>intro Q E p s c f h;rw [Sem.wp] at h ⊢;exact ih () c f h
 | «at» _ k ih=>intro Q E p s c f h;rw [Sem.wp] at h ⊢;exact ih () c f h
 | point _ k ih=>intro Q E p s c f h;rw [Sem.wp] at h ⊢;exact ih () c f h
 | load a _ k ih=>intro Q E p s c f h;rw [Sem.wp] at h ⊢;obtain ⟨o,e,h⟩:=h;exact ⟨o,e,ih o (c o) f h⟩
 | loadIfAlive a k ih=>intro Q E p s c f h;rw [Sem.wp] at h ⊢;exact ih _ (c _) f h
 | update a _ g k ih=>intro Q E p s c f h;rw [Sem.wp] at h ⊢;exact ⟨h.1,ih () c.2 (c.1 _ f) h.2⟩
 | alloc o k ih=>intro Q E p s c f h;rw [Sem.wp] at h ⊢;exact ih _ (c _) (push _ _ f) h
 | fresh k ih=>intro Q E p s c f h;rw [Sem.wp] at h ⊢;exact ih _ (c _) f h
 | ask k ih=>intro Q E p s c f h;rw [Sem.wp] at h ⊢;exact ih _ (c _) f h
 | handled _ k ih=>intro Q E p s c f h;rw [Sem.wp] at h ⊢;exact ih _ (c _) f h
 | stack k ih=>intro Q E p s c f h;rw [Sem.wp] at h ⊢;exact ih _ (c _) f h
 | _=>intro Q E p s c;exact False.elim c
theorem dO (push:∀ h o,Φ h->Φ (h.push o)) (c:cD Φ t) (f:Φ s.heap) (h:wpAny M A t Q E s):wpAny M A t (fun a s'=>Q a s'/\Φ s'.heap) (fun e s'=>E e s'/\Φ s'.heap) s :=
 fun Γ p i=>wX push t c f (h Γ p i)
theorem aN (t:Sem α):cD Φ t->(∀ a,cD Φ (f a))->cD Φ (t.bind f):=by
 induction t with
 | pure a=>exact fun _ k=>k a
 | raise e=>exact fun _ _=>trivial
 | unsupported w=>exact fun _ _=>trivial
 | finish e=>exact fun _ _=>trivial
 | rule _ k ih=>exact fun c q=>ih () c q
 | «at» _ k ih=>exact fun c q=>ih () c q
 | point _ k ih=>exact fun c q=>ih () c q
 | load a _ k ih=>exact fun c q o=>ih o (c o) q
 | loadIfAlive a k ih=>exact fun c q o=>ih o (c o) q
 | update a _ g k ih=>exact fun c q=>⟨c.1,ih () c.2 q⟩
 | alloc o k ih=>exact fun c q a=>ih a (c a) q
 | fresh k ih=>exact fun c q a=>ih a (c a) q
 | ask k ih=>exact fun c q a=>ih a (c a) q
 | handled _ k ih=>exact fun c q a=>ih a (c a) q
 | stack k ih=>exact fun c q a=>ih a (c a) q
 | _=>exact fun c _=>c.elim
end L2
end
section
namespace L2
open PySem PySem.Spec PyProof.Rows
theorem dR:∀ (h:Heap) (o:Obj),NoCtx h a->NoCtx (h.push o) a:=fun h o x=>x.keep fun _ e=>BA _ e
theorem oq {i:Nat} (hi:i ≠ 2):∀ h:Heap,NoCtx h a->NoCtx (h.update b (Obj.mapFields (·.setIfInBounds i v))) a:=fun h x=>by
 by_cases e:b=a
 ·subst e
  obtain ⟨o,d,c,hd,h2⟩:=x
  have hd2:=Obj.data_mapFields hd (·.setIfInBounds i v)
  exact ⟨_,_,BY _ c (Obj.isFreed_of_fields hd2),hd2,by rw [Array.getElem?_setIfInBounds_ne hi];exact h2⟩
 ·exact x.keep fun o q=>(Cd _ _ e).trans q
theorem pN (hf:∀ o,(f o).data=o.data):∀ h:Heap,NoCtx h a->NoCtx (h.update b f) a:=fun h x=>by
 by_cases e:b=a
 ·subst e
  obtain ⟨o,d,c,hd,h2⟩:=x
  exact ⟨f o,d,BY _ c (Obj.isFreed_of_fields ((hf o).trans hd)),(hf o).trans hd,h2⟩
 ·exact x.keep fun o q=>(Cd _ _ e).trans q
section
variable {a:Addr}
theorem mG (v:Value):cD (NoCtx · a) (fieldsOf v):=by
 unfold fieldsOf
 cases v <;> try exact trivial
 exact fun o=>by
  show cD _ (match o.data with | .fields vs=>_ | _=>_)
  split <;> exact trivial
theorem ip (v:Value) (i:Nat):cD (NoCtx · a) (field v i):=by
 unfold field
 refine aN _ (mG v) fun b=>?_
 split <;> exact trivial
theorem eJ (v:Value) {i:Nat} (hi:i ≠ 2) (x:Value):cD (NoCtx · a) (setField v i x):=by
 unfold setField
 cases v <;> try exact trivial
 exact fun o=>by
  show cD _ (match o.data with | .fields vs=>_ | _=>_)
  split
  ·split
   ·exact ⟨oq hi,trivial⟩
   ·exact trivial
  ·exact trivial
theorem fS (e:Value) (f:Option Addr):cD (NoCtx · a) (setFlight e f):=by
 unfold setFlight
 refine aN _ (ip e 1) fun tb=>?_
 split
 ·exact eJ _ (by decide) _
 ·exact trivial
theorem qI (f:Addr) (b:Bool):cD (NoCtx · a) (entryPlaceOf f b):=by
 unfold entryPlaceOf
 refine aN _ (fun _=>trivial) fun l=>?_
 split <;> exact trivial
theorem lA (t:String) (b:List Value):cD (NoCtx · a) (newFields t b):=by
 unfold newFields newObj
 dsimp only
 split
 ·exact trivial
 ·exact fun _=>trivial
theorem tG (env:Env) (b:Bool):∀ l:List Env,cD (NoCtx · a) (keptBack env b l)
 | []=>by
  simp only [keptBack]
  split
  ·exact trivial
  ·exact aN _ (aN _ (fun _=>trivial) fun _=>trivial) fun _=>trivial
 | _ :: _=>trivial
theorem ly:∀ l:List Env,cD (NoCtx · a) (readyFrames l)
 | []=>trivial
 | env :: outer=>by
  unfold readyFrames
  split
  ·refine aN _ (fun _=>trivial) fun o=>?_
   split
   ·exact trivial
   ·refine aN _ ?_ fun _=>aN _ (tG _ _ _) fun _=>aN _ ⟨pN fun _=>rfl,trivial⟩ fun _=>ly outer
    unfold behindIsImport
    split
    ·exact trivial
    ·split
     ·exact trivial
     ·exact aN _ (ip _ _) fun _=>trivial
  ·exact trivial
theorem n5 (env:Env):cD (NoCtx · a) (PySem.frameOf env):=by
 unfold PySem.frameOf
 refine aN _ (aN _ (fun _=>trivial) fun _=>trivial) fun l=>?_
 refine aN _ ?_ fun r=>?_
 ·unfold frameObject
  split
  ·exact trivial
  ·exact aN _ (ly _) fun _=>trivial
 ·split <;> exact trivial
theorem nk (e:Value) (env:Env):cD (NoCtx · a) (noteFrame e env):=by
 unfold noteFrame
 repeat' first
  | exact trivial
  | exact eJ _ (by decide) _
  | refine aN _ (ip _ _) (fun _=>?_)
  | refine aN _ (eJ _ (by decide) _) (fun _=>?_)
  | refine aN _ (n5 _) (fun _=>?_)
  | refine aN _ (qI _ _) (fun _=>?_)
  | refine aN _ (lA _ _) (fun _=>?_)
  | split
theorem iK (e:Value) (env:Env):cD (NoCtx · a) (leaving env e):=aN _ (nk e env) fun _=>fS e none
end
section
variable {M:Model} {A:Around} {E:Value->Shared->Prop} {s:Shared} {base h:Heap} {env:Env} {outer l:List Env} {L e:Addr} {cls a0:Value} {args:List Value} {Q:Unit->Shared->Prop}
theorem oE (f:A.frames=some (env :: outer)) (hf:env.frame=some L) (b:base.StaysIn h) (i:h.FunFrames base (env :: outer)) (g:Heap.MadeExcOf h s.heap e cls args)
  (j:∀ h' t,Heap.FlyingW base outer e cls (.ref t) h'->s.heap.UpToSlots h'->NoCtx h' e->Q () { s with heap:=h' }):wpAny M A (leaving env (.ref e)) Q E s:=by
 have c:NoCtx s.heap e:=by
  obtain ⟨t,he,_⟩:=g.there
  exact ⟨_,_,he,rfl,rfl⟩
 refine wpAny_mono (dO dR (iK _ _) c (wpAny_leaves_madeW (Q:=fun _ s2=>∃ h' t,s2 = { s with heap:=h' }/\Heap.FlyingW base outer e cls (.ref t) h'/\s.heap.UpToSlots h') f hf b i g fun h' t a _ _ d=>⟨h',t,rfl,a,d⟩)) (fun _ s2 q=>?_) fun _ _ z=>z.1
 obtain ⟨⟨h',t,rfl,a,d⟩,n⟩:=q
 exact j h' t a d n
theorem rq (f:A.frames=some (env :: outer)) (hf:env.frame=some L) (b:Heap.FlyingW base (env :: outer) e cls a0 s.heap) (c:NoCtx s.heap e)
  (g:∀ h',Heap.FlyingW base outer e cls a0 h'->s.heap.UpToSlots h'->NoCtx h' e->Q () { s with heap:=h' }):wpAny M A (leaving env (.ref e)) Q E s:=by
 refine wpAny_mono (dO dR (iK _ _) c (wpAny_leaves_onW (Q:=fun _ s2=>∃ h',s2 = { s with heap:=h' }/\Heap.FlyingW base outer e cls a0 h'/\s.heap.UpToSlots h') f hf b fun h' a d=>⟨h',rfl,a,d⟩)) (fun _ s2 q=>?_) fun _ _ z=>z.1
 obtain ⟨⟨h',rfl,a,d⟩,n⟩:=q
 exact g h' a d n
theorem t3 (f:A.frames=some (env :: outer)) (hf:env.frame=some L) (b:Heap.FlyingW base (env :: outer) e cls a0 s.heap) (c:NoCtx s.heap e)
  (g:∀ h',Heap.HeldW base (env :: outer) e cls a0 L h'->s.heap.UpToSlots h'->NoCtx h' e->Q () { s with heap:=h' }):wpAny M A (noteFrame (.ref e) env) Q E s:=by
 refine wpAny_mono (dO dR (nk _ _) c (wpAny_looks_onW (Q:=fun _ s2=>∃ h',s2 = { s with heap:=h' }/\Heap.HeldW base (env :: outer) e cls a0 L h'/\s.heap.UpToSlots h') f hf b fun h' a d=>⟨h',rfl,a,d⟩)) (fun _ s2 q=>?_) fun _ _ z=>z.1
 obtain ⟨⟨h',rfl,a,d⟩,n⟩:=q
 exact g h' a d n
theorem AX (b:Heap.HeldW base l e cls a0 L s.heap) (c:NoCtx s.heap e) (f:∀ h',Heap.FlyingW base l e cls a0 h'->s.heap.UpToSlots h'->NoCtx h' e->Q () { s with heap:=h' }):wpAny M A (setFlight (.ref e) none) Q E s:=by
 refine wpAny_mono (dO dR (fS _ _) c (wpAny_landsW (Q:=fun _ s2=>∃ h',s2 = { s with heap:=h' }/\Heap.FlyingW base l e cls a0 h'/\s.heap.UpToSlots h') b fun h' a d=>⟨h',rfl,a,d⟩)) (fun _ s2 q=>?_) fun _ _ z=>z.1
 obtain ⟨⟨h',rfl,a,d⟩,n⟩:=q
 exact f h' a d n
theorem oF (b:Heap.FlyingW base l e cls a0 s.heap) (c:NoCtx s.heap e) (f:∀ h',Heap.FlyingW base l e cls a0 h'->s.heap.UpToSlots h'->NoCtx h' e->Q () { s with heap:=h' }):wpAny M A (setFlight (.ref e) none) Q E s:=by
 refine wpAny_mono (dO dR (fS _ _) c (lands_againW (Q:=fun _ s2=>∃ h',s2 = { s with heap:=h' }/\Heap.FlyingW base l e cls a0 h'/\s.heap.UpToSlots h') b fun h' a d=>⟨h',rfl,a,d⟩)) (fun _ s2 q=>?_) fun _ _ z=>z.1
 obtain ⟨⟨h',rfl,a,d⟩,n⟩:=q
 exact f h' a d n
end
def NoC (ob:Obj):Prop:=∃ a,ob.data=.fields a/\a[2]?=some Value.none
def Hd (X:Cx):Prop:=∃ a ob u,X.A.handled=some (.ref a)/\X.H₀ a=some (.frz ob u)/\NoC ob
end L2
end
section
namespace L2
open PySem PySem.Spec PyProof.Rows
def Cov (fs:List Addr) (H':Hp) (h0 h' B:Heap):Prop:=∀ b o,h'.get? b=some o->b ∉ fs->(H' b ≠ none\/∃ o0,h0.get? b=some o0)->B.get? b=some o
structure Fly (P:Program) (w:World) (outer:List Env) (H:Hp) (s:Shared) (H':Hp) (a:Addr) (cls:Value) (s':Shared):Prop where
 os:s'.os=s.os
 bare:AllBare s'.gens
 un:Un (frs outer) [] H H' s.heap s'.heap
 hok:HOk P w H' s'.heap
 free:H' a=none
 new:s.heap.get? a=none
 fl:∃ B a0,Heap.FlyingW B outer a cls a0 s'.heap/\Cov (frs outer) H' s.heap s'.heap B
 ctx:NoCtx s'.heap a
def CXe (P:Program) (w:World):CXT:=fun outer H s E e s'=>∃ a cls H',e=.ref a/\Fly P w outer H s H' a cls s'/\E cls none H'
section
variable {X:Cx} {pins:List (Addr × Obj)} {σ:St} {H:Hp} {s:Shared}
theorem Inv.noLoc (I:Inv X pins σ H s) (e:X.s₀.heap.get? b=some o):b ≠ X.env.locals:=BR (BW (BG e) I.ok.above)
theorem HOk.at (ok:HOk P w H h) (e:H b ≠ none):∃ o,h.get? b=some o:=by
 cases q:H b with
 | none=>exact absurd q e
 | some u =>
  have:=ok b u q
  cases u with
  | lst xs=>obtain ⟨_,_,_,_,e⟩:=this;exact ⟨_,e⟩
  | tup xs=>obtain ⟨_,_,_,o,e,_⟩:=this;exact ⟨o,e⟩
  | dK kvs=>obtain ⟨_,_,_,_,o,_,_,e,_⟩:=this;exact ⟨o,e⟩
  | dT kvs=>obtain ⟨_,_,_,_,o,_,_,e,_⟩:=this;exact ⟨o,e⟩
  | set S n=>obtain ⟨o,_,_,_,e,_⟩:=this;exact ⟨o,e⟩
  | ins C dx fs=>obtain ⟨_,_,_,e,_⟩:=this;exact ⟨_,e⟩
  | own y=>exact this
  | xd fs=>obtain ⟨_,⟨o,_,_,e,_⟩,_⟩:=this;exact ⟨o,e⟩
  | rng lo hi=>obtain ⟨_,_,_,e⟩:=this;exact ⟨_,e⟩
  | frz ob u=>obtain ⟨e,_⟩:=this;exact ⟨_,e⟩
  | tbl ps=>exact ⟨_,this⟩
  | met f y=>exact ⟨_,this⟩
  | ext φ=>obtain ⟨_,e,_⟩:=this;exact e
theorem sF (hex:X.ex=[]) (I:Inv X pins σ H s) (k1:∀ b o,s.heap.get? b=some o->b ∉ frs X.stack->(H b ≠ none\/∃ o0,X.s₀.heap.get? b=some o0)->h'.get? b=some o) (k2:∀ b o,s.heap.get? b=some o->(∀ k,o.data ≠ .fields k)->∃ sl,h'.get? b=some { o with slots:=sl }):Un (frs X.outer) [] X.H₀ H X.s₀.heap h'/\HOk X.prog X.w H h':=by
 have g:∀ b:Addr,b ∉ X.ex:=fun b z=>by rw [hex] at z;cases z
 have out:∀ b o,X.s₀.heap.get? b=some o->b ∉ frs X.outer->b ∉ frs X.stack:=fun b o e n z=>by
  rcases BE.mp (I.stkSub b z) with z | z
  ·exact I.noLoc e z
  ·exact n z
 have f:∀ b ∈ frs X.outer,∀ o,s.heap.get? b=some o->∀ k,o.data ≠ .fields k:=fun b a o e=>by
  obtain ⟨_,o',m,d⟩:=I.funs.mem a
  rw [e] at m;cases m;exact d
 refine ⟨⟨fun b o e n a _=>?_,fun b o e n a _=>?_,fun b o e n _=>I.base.free b o e n (g b),fun b o e _=>?_,I.base.tups,I.base.frzs,I.base.tbls⟩,fun b u e=>?_⟩
 ·exact k1 b o (I.base.keep b o e n a (g b)) (out b o e a) (.inr ⟨o,e⟩)
 ·obtain ⟨sl,e1⟩:=I.base.slot b o e n a (g b)
  obtain ⟨h,j⟩:=k2 b _ e1 (f b a _ e1)
  exact ⟨h,j⟩
 ·obtain ⟨o',e1⟩:=I.base.there b o e (g b)
  by_cases a:b ∈ frs X.outer
  ·obtain ⟨sl,j⟩:=k2 b o' e1 (f b a o' e1)
   exact ⟨_,j⟩
  ·exact ⟨o',k1 b o' e1 (out b o e a) (.inr ⟨o,e⟩)⟩
 ·refine (I.hok b u e).stay (fun c v i z=>?_) (fun _ z=>z) fun _ _ z=>z
  have l:H c ≠ none:=by
   rcases i with rfl | i
   ·rw [e];intro z;cases z
   ·rw [i];intro z;cases z
  exact k1 c v z (fun a=>l (I.stkFree c a)) (.inl l)
theorem qb (hex:X.ex=[]) (I:Inv X pins σ H s) (k1:∀ b o,s.heap.get? b=some o->b ∉ frs X.stack->(H b ≠ none\/∃ o0,X.s₀.heap.get? b=some o0)->B.get? b=some o) (st:B.StaysIn h'):Cov (frs X.outer) H X.s₀.heap h' B:=fun b o e n c=>by
 have i:∀ b:Addr,b ∉ X.ex:=fun b z=>by rw [hex] at z;cases z
 have h1:∃ a,s.heap.get? b=some a/\b ∉ frs X.stack:=by
  rcases c with c | ⟨o0,f⟩
  ·obtain ⟨a,e1⟩:=I.hok.at c
   exact ⟨a,e1,fun h=>c (I.stkFree b h)⟩
  ·obtain ⟨a,e1⟩:=I.base.there b o0 f (i b)
   refine ⟨a,e1,fun z=>?_⟩
   rcases BE.mp (I.stkSub b z) with z | z
   ·exact I.noLoc f z
   ·exact n z
 obtain ⟨a,e1,g⟩:=h1
 have d:=k1 b a e1 g c
 rw [st b a d] at e
 cases e
 exact d
theorem Fly.inv (I:Inv X pins σ H s) (f:Fly X.prog X.w X.stack H s H' a cls s'):Inv X pins σ H' s' :=
 I.call' f.os f.un f.hok f.bare (fun _ z=>nomatch z)
theorem Inv.newAt (hex:X.ex=[]) (I:Inv X pins σ H s) (n:s.heap.get? a=none):X.s₀.heap.get? a=none/\H a=none:=by
 constructor
 ·cases q:X.s₀.heap.get? a with
  | none=>rfl
  | some o =>
   obtain ⟨o',e⟩:=I.base.there a o q (by rw [hex];simp)
   rw [n] at e;cases e
 ·cases q:H a with
  | none=>rfl
  | some u =>
   obtain ⟨o,e⟩:=I.hok.at (b:=a) (by rw [q];intro z;cases z)
   rw [n] at e;cases e
end
section
variable {P:Program} {w:World} {K:FG} {mg:Str->Option Value} {base:Heap} {N:List Str} {qual:Str} {scope:Scope} {f:Addr} {cd:Value} {A:Around} {outer:List Env} {s0:Shared} {H0:Hp} {E:XK} {pins:List (Addr × Obj)} {σ:St} {H:Hp} {s s':Shared}
theorem wW (I:Inv (dY (CXe P w) P w K mg base N qual scope f cd A outer s0 H0 E) pins σ H s) (d:Heap.MadeExcOf s.heap s'.heap a cls vs) (l:s'.os=s.os) (r:s'.gens=s.gens) (i:E cls none H) :
  (dY (CXe P w) P w K mg base N qual scope f cd A outer s0 H0 E).xe (.ref a) s':=by
 have c:∀ env ∈ (PyProof.Rows.envOfC qual scope s0.heap.objs.size f cd :: outer),∀ b,env.frame=some b->b ∈ frs (PyProof.Rows.envOfC qual scope s0.heap.objs.size f cd :: outer):=fun env he b m=>List.mem_filterMap.mpr ⟨env,he,m⟩
 obtain ⟨j,g⟩:=I.newAt rfl d.new
 refine oE (base:=PySem.W.hideAll s.heap (frs (PyProof.Rows.envOfC qual scope s0.heap.objs.size f cd :: outer))) (h:=s.heap) (L:=s0.heap.objs.size) I.ok.frames rfl (fun b o q=>PySem.W.of_hideAll _ q) (PySem.W.funFrames_hide I.stack c) d fun h' t f1 f4 k=>?_
 have k1:∀ b o,s.heap.get? b=some o->b ∉ frs (PyProof.Rows.envOfC qual scope s0.heap.objs.size f cd :: outer)->(PySem.W.hideAll s.heap (frs (PyProof.Rows.envOfC qual scope s0.heap.objs.size f cd :: outer))).get? b=some o:=fun b o e n=>PySem.W.hideAll_get _ e n
 obtain ⟨u,ok⟩:=sF rfl I (h':=h') (fun b o e n _=>f1.1 b o (k1 b o e n)) fun b o e hd=>by
  obtain ⟨sl,p⟩:=f4 b o (d.keeps b o e) hd
  exact ⟨sl,p⟩
 refine ⟨a,cls,H,rfl,⟨l.trans I.os,by show AllBare s'.gens;rw [r];exact I.bare,u,ok,g,j,⟨_,_,f1,qb rfl I (fun b o e n _=>k1 b o e n) f1.1⟩,k⟩,i⟩
theorem zp (I:Inv (dY (CXe P w) P w K mg base N qual scope f cd A outer s0 H0 E) pins σ H s) (h:CXe P w (PyProof.Rows.envOfC qual scope s0.heap.objs.size f cd :: outer) H s E1 e s') (j:∀ cls H',E1 cls none H'->E cls none H') :
  (dY (CXe P w) P w K mg base N qual scope f cd A outer s0 H0 E).xe e s':=by
 obtain ⟨a,cls,H',rfl,F,g⟩:=h
 have d:=Fly.inv I F
 obtain ⟨B,a0,f1,i⟩:=F.fl
 have d7:s0.heap.get? a=none:=(I.newAt rfl F.new).1
 have k1:∀ b o,s'.heap.get? b=some o->b ∉ frs (PyProof.Rows.envOfC qual scope s0.heap.objs.size f cd :: outer)->(H' b ≠ none\/∃ o0,s0.heap.get? b=some o0)->B.get? b=some o:=fun b o e n c=>by
  refine i b o e n ?_
  rcases c with c | ⟨o0,m⟩
  ·exact .inl c
  ·exact .inr (I.base.there b o0 m (fun z=>nomatch z))
 refine rq (L:=s0.heap.objs.size) I.ok.frames rfl f1 F.ctx fun h' g1 g2 k=>?_
 obtain ⟨u,ok⟩:=sF rfl d (h':=h') (fun b o e n c=>g1.1 b o (k1 b o e n c)) fun b o e hd=>by
  obtain ⟨sl,l⟩:=g2 b o e hd
  exact ⟨sl,l⟩
 exact ⟨a,cls,H',rfl,⟨d.os,d.bare,u,ok,F.free,d7,⟨B,a0,g1,qb rfl d k1 g1.1⟩,k⟩,j cls H' g⟩
end
end L2
end
section
namespace L2
open PySem PySem.Spec PyProof.Rows
structure ECls (K:FG) (mg:Str->Option Value) (x:Str) (C:Addr):Prop where
 bound:mg x=some (.ref C)
 ok:PySem.W.excIn K C mroV "ValueError.__new__"=true
theorem ug {K:FG} (X:K.In h) (q:PySem.W.excIn K C bmB nid=true) :
  ∃ bm N nm d bs hdct sn sub ab col dd k0 k1 k2 k3 k5 mN,h.get? C=some (excClassObj nm d C N bs bm hdct sn sub ab col dd k0 k1 k2 k3 k5 nid)/\h.Ns N mN/\mN "__init__"=none/\OwnTail h bmB bm:=by
 unfold PySem.W.excIn at q
 split at q
 ·rename_i dd cd sl m
  split at q
  ·rename_i s bm k0 k1 k2 k3 n k5 hm p
   have f:=Bool.and_eq_true_iff.mp q
   have i:=Bool.and_eq_true_iff.mp f.1
   have j:=Bool.and_eq_true_iff.mp i.1
   have g:=Bool.and_eq_true_iff.mp j.1
   have e:=Bool.and_eq_true_iff.mp g.1
   have e1:s=C:=beq_iff_eq.mp e.1
   have r:n=nid:=beq_iff_eq.mp e.2
   subst e1 r
   have a:cd.hasDel=false:=by
    have:=g.2
    cases o:cd.hasDel
    ·rfl
    ·rw [o] at this;cases this
   have hok:=i.2
   have b:=beq_iff_eq.mp f.2
   have c:=j.2
   obtain ⟨nm,bs,mro,ns,d,hd,sn,sub,ab,col,del⟩:=cd
   dsimp only at hm a hok b c
   subst hm a
   obtain ⟨l⟩:=sl
   have k:l=[k0,k1,k2,k3,some (.builtin n),k5]:=p
   subst k
   exact ⟨bm,ns,nm,d,bs,hd,sn,sub,ab,col,dd,k0,k1,k2,k3,k5,_,X _ _ m,.of_isNs (PySem.W.isNs_of_in X hok),PySem.W.nsMap_none_of_in X hok b,PySem.W.tail_of_in X c⟩
  ·cases q
 ·cases q
section
variable {X:Cx} {x:Str} {C:Addr} {np cpos pos:Pos} {e:Expr} {ta:TA}
def uI (b:St->Hp->Prop) (ta:TA):TS:=fun _ σ H=>ta σ H fun a H1=>a.length<=1000/\b σ H1
theorem vp (c:ECls X.K X.mg x C) (n:X.calm=true) (t:Gl X x) (hd:(x == ("__debug__":Str))=false) (o:PA X [e] ta) (f:St->Hp->Prop)
  (m:∀ (pins:List (Addr × Obj)) (σ:St) (H:Hp) (s s':Shared) (a:Addr) (g:List Value),Inv X pins σ H s->f σ H->Heap.MadeExcOf s.heap s'.heap a (.ref C) g->s'.os=s.os->s'.gens=s.gens->X.xe (.ref a) s')
  (he:starEach [e] X.env=[(false,eval e X.env)]):PS X (.Raise (some (.Call (.Name x np) [e] [] cpos)) none pos) (uI f ta):=by
 intro pins s σ H D I h
 have u:X.K.In s.heap:=I.kIn
 obtain ⟨bm,N,nm,p,bs,hdct,sn,sub,ab,col,dd,k0,k1,k2,k3,k5,mN,r,k,d,T⟩:=ug I.mod.kin c.ok
 have FB:=PySem.F.excBase_ValueError
 refine wpAny_Raise_call_subT (C:=C) (nm:=nm) (q:=p) (N:=N) (bs:=bs) (bm:=bm) (hdct:=hdct) (sn:=sn) (sub:=sub) (ab:=ab) (col:=col) (dd:=dd) (k0:=k0) (k1:=k1) (k2:=k2) (k3:=k3) (k5:=k5) FB (mN:=mN) (T.hasType FB.hasBase) (I.ok.hd n) (by rw [he];rfl) d (gz I t c.bound ⟨rfl,?_⟩ hd)
 have h1:=o cpos pins s σ H _ I h
 rw [he] at h1 ⊢
 refine Calls.evalArgs_plain (wpAny_mono h1 (fun us s1 ⟨g,H1,b,i,l,j⟩=>⟨rfl,?_,b.bk _ _ r,k.keeps b.bk,T.keeps b.bk,fun h' a hm=>?_⟩) fun _ _ y=>y)
 ·show us.length<=sizeLine
  rw [<- i.length]
  exact Nat.le_of_lt (tz l)
 ·exact m pins σ H1 s1 { s1 with heap:=h' } a us b j hm rfl rfl
end
end L2
end
section
namespace L2
open PySem PySem.Spec PyProof.Rows
section
variable {P:Program} {w:World} {outer:List Env} {H H':Hp} {s s1:Shared} {a:Addr} {cls:Value}
theorem Fly.move (F:Fly P w outer H s H' a cls s1) (q:∀ b ∈ frs outer,H' b=none) (f1:Heap.FlyingW B outer a cls a0 s1.heap) (m:Cov (frs outer) H' s.heap s1.heap B) (f2:Heap.FlyingW B outer a cls a0 h2) (up:s1.heap.UpToSlots h2) (x:NoCtx h2 a):Fly P w outer H s H' a cls { s1 with heap:=h2 }/\Cov (frs outer) H' s.heap h2 B:=by
 have k1:∀ b o,s1.heap.get? b=some o->b ∉ frs outer->(H' b ≠ none\/∃ o0,s.heap.get? b=some o0)->h2.get? b=some o:=fun b o e n g=>f2.1 b o (m b o e n g)
 have l:∀ b ∈ frs outer,∀ o,s1.heap.get? b=some o->∀ C,o.data ≠ .fields C:=fun b f o e=>by
  obtain ⟨_,o',t,d⟩:=f1.2.2.1.mem f
  rw [e] at t;cases t;exact d
 have h:Cov (frs outer) H' s.heap h2 B:=fun b o e n g=>by
  have h1:∃ p,s1.heap.get? b=some p:=by
   rcases g with g | ⟨o0,A⟩
   ·exact F.hok.at g
   ·exact F.un.there b o0 A (fun z=>nomatch z)
  obtain ⟨p,e1⟩:=h1
  have i:=m b p e1 n g
  have y:=f2.1 b p i
  rw [y] at e
  cases e
  exact i
 refine ⟨⟨F.os,F.bare,⟨fun b o e n f k=>?_,fun b o e n f k=>?_,F.un.free,fun b o e k=>?_,F.un.tups,F.un.frzs,F.un.tbls⟩,fun b u e=>?_,F.free,F.new,⟨B,a0,f2,h⟩,x⟩,h⟩
 ·exact k1 b o (F.un.keep b o e n f k) f (.inr ⟨o,e⟩)
 ·obtain ⟨sl,e1⟩:=F.un.slot b o e n f k
  obtain ⟨j,i⟩:=up b _ e1 (l b f _ e1)
  exact ⟨j,i⟩
 ·obtain ⟨o',e1⟩:=F.un.there b o e k
  by_cases f:b ∈ frs outer
  ·obtain ⟨j,i⟩:=up b o' e1 (l b f o' e1)
   exact ⟨_,i⟩
  ·exact ⟨o',k1 b o' e1 f (.inr ⟨o,e⟩)⟩
 ·refine (F.hok b u e).stay (fun c v g z=>?_) (fun _ z=>z) fun _ _ z=>z
  have r:H' c ≠ none:=by
   rcases g with rfl | g
   ·rw [e];intro z;cases z
   ·rw [g];intro z;cases z
  exact k1 c v z (fun f=>r (q c f)) (.inl r)
end
abbrev Cx.caught0 (X:Cx) (a:Addr):Cx:={ X with A:=X.A.mark (some (.ref a)),calm:=false,xe:=fun _ _=>False }
abbrev Cx.caught (X:Cx) (a:Addr) (ob:Obj) (cls:Value):Cx:={ X with A:=X.A.mark (some (.ref a)),calm:=false,xe:=fun _ _=>False,H₀:=upd X.H₀ a (kO ob a cls) }
section
variable {X:Cx} {pins:List (Addr × Obj)} {σ:St} {H H':Hp} {s s1:Shared} {a:Addr} {cls:Value}
theorem Inv.caught0 (I:Inv X pins σ H s) (a:Addr):Inv (X.caught0 a) pins σ H s :=
 ⟨⟨I.ok.mod,I.ok.kind,I.ok.glob,I.ok.blt,I.ok.above,I.ok.inj,I.ok.has,I.ok.cab,(fun h=>by cases h),I.ok.frames,I.ok.stk,I.ok.exf,I.ok.bs,I.ok.bsz,I.ok.noex,I.ok.exfs,I.ok.funs,I.ok.frf⟩,I.os,I.bare,I.base,I.loc,I.cell,I.free,I.freeC,I.pin,I.hok,I.len⟩
theorem Inv.trackX (I:Inv X pins σ H' s1) (J:Inv X pins σ H s) (new:s.heap.get? a=none) (t:H' a=none) (hex:X.ex=[]) (f:s1.heap.get? a=some ob) (g:ob.cls=cls):Inv X pins σ (upd H' a (kO ob a cls)) s1:=by
 obtain ⟨e1,M,E,d,K,D,B,y,C,h,j⟩:=id I
 have ne:∀ b o,s.heap.get? b=some o->b ≠ a:=fun b o e z=>by rw [z,new] at e;cases e
 have r:∀ b o,X.s₀.heap.get? b=some o->b ≠ a:=fun b o e=>by
  obtain ⟨o',F⟩:=J.base.there b o e (by rw [hex];simp)
  exact ne b o' F
 have l:∀ b u,H' b=some u->upd H' a (kO ob a cls) b=some u:=fun b u e=>by rw [aB (aT e t)];exact e
 refine ⟨e1,M,E,⟨d.keep,d.slot,fun b o q n G=>?_,d.there,fun b ys q=>l _ _ (d.tups b ys q),fun b o u q=>l _ _ (d.frzs b o u q),fun b ps q=>?_⟩,K,D,?_,fun x c q=>?_,fun p w=>?_,?_,j⟩
 ·rw [aB (r b o q)];exact d.free b o q n G
 ·obtain ⟨more,O⟩:=d.tbls b ps q;exact ⟨more,l _ _ O⟩
 ·obtain ⟨m,⟨o,_,_,i,_⟩,_⟩:=J.loc
  rw [aB (ne _ o i)];exact B
 ·obtain ⟨v,o,i,_⟩:=J.cell x c q
  rw [aB (ne c o i)];exact y x c q
 ·obtain ⟨a1,a2,L⟩:=C p w
  exact ⟨a1,by rw [aB (ne p.1 p.2 (J.pin p w).1)];exact a2,L⟩
 ·exact h.track t ⟨f,⟨ob,f,g⟩,⟨ob,f⟩,fun h1 h2 ⟨o,A,N⟩ k=>⟨o,k o A,N⟩⟩
theorem Inv.nameless (I:Inv X pins σ H s) {t':Nat} (B:h'.Ns X.env.locals m') (g:Heap.SameBut X.env.locals s.heap h'):Inv X pins (List.replicate X.N.length none) H { s with heap:=h',toks:=t' }:=by
 obtain ⟨e1,E,C,f,G,A,k,w,y,t,D⟩:=id I
 have a:∀ b o,X.s₀.heap.get? b=some o->b ≠ X.env.locals:=fun b o e=>I.noLoc e
 refine ⟨e1,E,C,⟨fun b o e n l h=>?_,fun b o e n l h=>?_,f.free,fun b o e h=>?_,f.tups,f.frzs,f.tbls⟩,⟨m',B,fun i x v h1 h2 h3=>?_⟩,fun x c e=>?_,k,w,fun p F=>?_,fun b u e=>?_,by rw [List.length_replicate]⟩
 ·exact (g.2 b (a b o e)).trans (f.keep b o e n l h)
 ·obtain ⟨sl,q⟩:=f.slot b o e n l h
  exact ⟨sl,(g.2 b (a b o e)).trans q⟩
 ·obtain ⟨o',q⟩:=f.there b o e h
  exact ⟨o',(g.2 b (a b o e)).trans q⟩
 ·rw [List.getElem?_replicate] at h2
  split at h2 <;> cases h2
 ·obtain ⟨v,o,q,d⟩:=A x c e
  exact ⟨v,o,(g.2 c (I.cne x c e)).trans q,d⟩
 ·obtain ⟨q,n,ne,r⟩:=y p F
  exact ⟨(g.2 p.1 ne).trans q,n,ne,r⟩
 ·refine (t b u e).stay (fun c v j z=>?_) (fun _ z=>z) fun _ _ z=>z
  have m:c ≠ X.env.locals:=fun q=>by
   rcases j with rfl | j
   ·rw [q,k] at e;cases e
   ·rw [q,k] at j;cases j
  exact (g.2 c m).trans z
theorem Inv.namelessC (I:Inv X pins σ H s) {t':Nat} (hf:X.fn n=true) (l:X.env.cells.lookup n=some c) (F:h'.IsCell c none) (g:Heap.SameBut c s.heap h'):Inv X pins (List.replicate X.N.length none) H { s with heap:=h',toks:=t' }:=by
 obtain ⟨e1,O,G,h,K,E,C,w,D,A,L⟩:=id I
 obtain ⟨v0,o0,J,M⟩:=I.cell n c l
 have B:=I.ok.cab n c hf l
 have f:∀ b o,X.s₀.heap.get? b=some o->b ≠ c:=fun b o e=>BR (BW (BG e) B)
 have t:X.env.locals ≠ c:=fun z=>I.cne n c l z.symm
 refine ⟨e1,O,G,⟨fun b o e n y k=>?_,fun b o e n y k=>?_,h.free,fun b o e k=>?_,h.tups,h.frzs,h.tbls⟩,?_,fun x j e=>?_,C,w,fun p P=>?_,fun b u e=>?_,by rw [List.length_replicate]⟩
 ·exact (g.2 b (f b o e)).trans (h.keep b o e n y k)
 ·obtain ⟨sl,q⟩:=h.slot b o e n y k
  exact ⟨sl,(g.2 b (f b o e)).trans q⟩
 ·obtain ⟨o',q⟩:=h.there b o e k
  exact ⟨o',(g.2 b (f b o e)).trans q⟩
 ·obtain ⟨m,hm,_⟩:=K
  refine ⟨m,hm.sameBut g t,fun i x v h1 h2 h3=>?_⟩
  rw [List.getElem?_replicate] at h2
  split at h2 <;> cases h2
 ·by_cases z:j=c
  ·rw [z];exact ⟨_,F⟩
  ·obtain ⟨v,o,q,d⟩:=E x j e
   exact ⟨v,o,(g.2 j z).trans q,d⟩
 ·obtain ⟨q,n,ne,r⟩:=D p P
  have z:p.1 ≠ c:=fun z=>by
   rw [z,J] at q
   cases q
   exact r.2 v0 M
  exact ⟨(g.2 p.1 z).trans q,n,ne,r⟩
 ·refine (A b u e).stay (fun j v a z=>?_) (fun _ z=>z) fun _ _ z=>z
  have hz:j ≠ c:=fun q=>by
   rcases a with rfl | a
   ·rw [q,w n c l] at e;cases e
   ·rw [q,w n c l] at a;cases a
  exact (g.2 j hz).trans z
theorem mH (d:env.scope.kind=.function) (a:env.kindOf n=some .cell) (b:env.cells.lookup n=some c) (e:s.heap.IsCell c v₀) (h:∀ h',h'.IsCell c none->Heap.SameBut c s.heap h'->Q () { s with heap:=h' }):wpAny M A (do bindName env n .none;unbindBehindTheSuite env n pos) Q E s:=by
 refine Bv (wpAny_bindName (wpAny_storeName_cell d a b e fun h1 c1 s1=>?_))
 unfold unbindBehindTheSuite
 refine wpAny_onRaise ?_
 unfold unbindName
 refine Bv (wpAny_point (Bv ?_))
 unfold deleteName
 simp only [a]
 refine Bv (wpAny_cellOf b (Bv (wpAny_cellGet c1 ?_)))
 simp only [Option.isSome_some,if_true]
 refine wpAny_cellSet c1 fun h2 c2 s2=>?_
 exact wpAny_point (h h2 c2 (s1.trans s2))
theorem Inv.caught (I:Inv X pins σ H s) (d:X.s₀.heap.get? a=none) (g:H a=some (kO ob a cls)):Inv (X.caught a ob cls) pins σ H s:=by
 have ne:∀ b o,X.s₀.heap.get? b=some o->b ≠ a:=fun b o e z=>by rw [z,d] at e;cases e
 have fr:∀ b ∈ X.fs,b ≠ a:=fun b c=>by
  obtain ⟨_,o',f,_⟩:=I.ok.funs.mem c
  exact ne b o' f
 have u:=I.base
 refine ⟨⟨I.ok.mod,I.ok.kind,I.ok.glob,I.ok.blt,I.ok.above,I.ok.inj,I.ok.has,I.ok.cab,(fun h=>by cases h),I.ok.frames,I.ok.stk,I.ok.exf,fun b o e=>⟨(I.ok.bs b o e).1,by show upd X.H₀ a _ b=none;rw [aB (ne b o (I.ok.bs b o e).1)];exact (I.ok.bs b o e).2⟩,I.ok.bsz,I.ok.noex,I.ok.exfs,I.ok.funs,fun b c=>by show upd X.H₀ a _ b=none;rw [aB (fr b c)];exact I.ok.frf b c⟩,I.os,I.bare,?_,I.loc,I.cell,I.free,I.freeC,I.pin,I.hok,I.len⟩
 show Un _ _ (upd X.H₀ a (kO ob a cls)) H _ _
 refine ⟨fun b o e n=>u.keep b o e (by rwa [aB (ne b o e)] at n),fun b o e n=>u.slot b o e (by rwa [aB (ne b o e)] at n),fun b o e n=>u.free b o e (by rwa [aB (ne b o e)] at n),u.there,fun b xs e=>?_,fun b o w e=>?_,fun b ps e=>?_⟩
 ·by_cases z:b=a
  ·subst z;rw [aV] at e;cases e
  ·rw [aB z] at e;exact u.tups b xs e
 ·by_cases z:b=a
  ·subst z;rw [aV] at e;cases e;exact g
  ·rw [aB z] at e;exact u.frzs b o w e
 ·by_cases z:b=a
  ·subst z;rw [aV] at e;cases e
  ·rw [aB z] at e;exact u.tbls b ps e
theorem Inv.uncaught (I:Inv (X.caught a ob cls) pins σ H s) (ok:X.Ok) (f:X.s₀.heap.get? a=none) (g:∀ xs,X.H₀ a ≠ some (.tup xs)) (d:∀ o w,X.H₀ a ≠ some (.frz o w)) (c:∀ ps,X.H₀ a ≠ some (.tbl ps)):Inv X pins σ H s:=by
 have ne:∀ b o,X.s₀.heap.get? b=some o->b ≠ a:=fun b o e z=>by rw [z,f] at e;cases e
 have u:Un X.fs X.ex (upd X.H₀ a (kO ob a cls)) H X.s₀.heap s.heap:=I.base
 refine ⟨ok,I.os,I.bare,?_,I.loc,I.cell,I.free,I.freeC,I.pin,I.hok,I.len⟩
 exact ⟨fun b o e n=>u.keep b o e (by rwa [aB (ne b o e)]),fun b o e n=>u.slot b o e (by rwa [aB (ne b o e)]),fun b o e n=>u.free b o e (by rwa [aB (ne b o e)]),u.there,fun b xs e=>u.tups b xs ((aB (fun z:b=a=>g xs (by rw [<- z];exact e))).trans e),fun b o w e=>u.frzs b o w ((aB (fun z:b=a=>d o w (by rw [<- z];exact e))).trans e),fun b ps e=>u.tbls b ps ((aB (fun z:b=a=>c ps (by rw [<- z];exact e))).trans e)⟩
end
end L2
end
section
namespace L2
open PySem PySem.Spec PyProof.Rows
section
variable {X:Cx} {pins:List (Addr × Obj)} {σ:St} {H H':Hp} {s s1:Shared} {a CB:Addr} {cls:Value} {D:Ends} {cx n:Str} {i:Nat} {cp hpos:Pos} {b0:Stmt} {suite:List Stmt}
theorem rD (I:Inv X pins σ H s) (F:Fly X.prog X.w X.stack H s H' a cls s1) (k:X.stack=X.env :: X.outer) (y:X.env.frame=some X.env.locals) (hex:X.ex=[]) (hN:X.N.Nodup)
  (hg:Gl X cx) (hd:(cx == ("__debug__":Str))=false) (hm:X.mg cx=some (.ref CB)) (hx:PySem.W.exmOne X.K cls (.ref CB)=some true) (hi:X.N[i]?=some n) (h:X.env.scope.names.lookup n=some .local\/(X.env.scope.names.lookup n=some .cell/\X.fn n=true))
  (hs:∀ s5 ob,Hd (X.caught a ob cls)->Inv (X.caught a ob cls) pins (σ.set i (some (.ref a))) (upd H' a (kO ob a cls)) s5->wpAny (model X.prog X.w) (X.A.mark (some (.ref a))) (execs (b0 :: suite) X.env) (fun f C=>∃ v u σ6 j,f=.ret u/\Inv (X.caught a ob cls) pins σ6 j C/\RelV v u/\D.rt v j) (fun _ _=>False) s5) :
  wpAny (model X.prog X.w) X.A (noteFrame (.ref a) X.env) (fun _ s2=>wpAny (model X.prog X.w) X.A (setFlight (.ref a) none) (fun _ s3=>wpAny (model X.prog X.w) X.A (handleBy (.ref a) X.env [.ExceptHandler (some (.Name cx cp)) (some n) (b0 :: suite) hpos]) (SP X pins D) X.xe s3) X.xe s2) X.xe s1:=by
 have hA:X.A.frames=some (X.env :: X.outer):=by rw [<- k];exact I.ok.frames
 have g:∀ b ∈ frs X.stack,H' b=none:=(Fly.inv I F).stkFree
 obtain ⟨B,a0,f1,S⟩:=F.fl
 refine t3 (outer:=X.outer) hA y (by rw [<- k];exact f1) F.ctx fun h2 held L c2=>?_
 refine AX held c2 fun h3 m Q c3=>?_
 rw [<- k] at m
 obtain ⟨U,l⟩:=F.move g f1 S m (L.trans Q) c3
 have Y:=(Fly.inv I U).caught0 a
 have E:PySem.W.Looks (model X.prog X.w) h3 (typeOf (.ref a)) cls:=by
  obtain ⟨ob,R,p⟩:=m.there
  subst p
  exact (PySem.W.Looks.ld R).andThen .now
 refine wpAny_handleBy_cons (codeAny_handlers_test (gz (X:=X.caught0 a) Y hg hm ?_ hd)) (by intro q;cases q)
 refine (PySem.W.exm_one (K:=X.K) Y.kIn E hx).here ?_
 show codeAny _ _ _ _ _
 refine codeAny_handlers_suite_as (oF m c3 fun h4 f4 M Z=>?_)
 obtain ⟨F4,ae⟩:=U.move g m l f4 M Z
 have I4:=Fly.inv I F4
 obtain ⟨G,d⟩:=I.newAt hex F.new
 obtain ⟨ob,t,O⟩:=f4.there
 have nc:NoC ob:=by
  obtain ⟨o,vs,q1,q2,q3⟩:=Z
  rw [t] at q1
  cases q1
  exact ⟨vs,q2,q3⟩
 have I5:=(I4.trackX I F.new F.free hex t O).caught (ob:=ob) (cls:=cls) G aV
 have hD:Hd (X.caught a ob cls):=⟨a,ob,excO a cls,rfl,aV,nc⟩
 refine ls (X:=X.caught a ob cls) (v:=V.ref a) I5 hN hi (h.imp id And.left) rfl (fun s5 J5=>?_) (h.elim .inr fun z=>.inl z.2)
 refine wpAny_mono (hs s5 ob hD J5) (fun f C h6=>?_) fun _ _ z=>z.elim
 obtain ⟨v,u,σ6,j,rfl,x,r,q⟩:=h6
 have un:∀ {σ7:St} {T:Shared},Inv (X.caught a ob cls) pins σ7 j T->Inv X pins σ7 j T:=fun J=>J.uncaught I.ok G (fun xs e=>by rw [I.base.tups a xs e] at d;cases d) (fun o w e=>by rw [I.base.frzs a o w e] at d;cases d) fun ps e=>by obtain ⟨_,e⟩:=I.base.tbls a ps e;rw [e] at d;cases d
 rcases h with h | ⟨h,P⟩
 case inr =>
  obtain ⟨c,p⟩:=I.ok.has n (.inl h)
  obtain ⟨v0,z0⟩:=x.cell n c p
  exact mH I.ok.kind h p z0 fun h7 c7 sb=>⟨v,_,j,(un x).namelessC (t':=C.toks) P p c7 sb,r,q⟩
 obtain ⟨m6,n6,_⟩:=x.loc
 refine wpAny_nameGoes h n6 ?_ fun h7 m7 n7 sb=>?_
 ·have:=I.ok.kind
  rw [this];rfl
 ·exact ⟨v,_,j,(x.uncaught I.ok G (fun xs e=>by rw [I.base.tups a xs e] at d;cases d) (fun o w e=>by rw [I.base.frzs a o w e] at d;cases d) fun ps e=>by obtain ⟨_,e⟩:=I.base.tbls a ps e;rw [e] at d;cases d).nameless n7 sb,r,q⟩
end
end L2
end
section
namespace L2
open PySem PySem.Spec PyProof.Rows
structure CalleeX (P:Program) (w:World) (K:FG) (mg:Str->Option Value) (base:Heap) (x:Str) (k:Nat) (ps:List Str) (sp:Sp):Prop where
 ex:∃ (f:Addr) (fd:FuncData),FnOk P w K mg base (CXe P w) k f fd ps sp/\mg x=some (.ref f)/\PySem.W.keepIn K (.ref f)=true/\Binds K fd ps []
section
variable {X:Cx} {x:Str} {p pos:Pos} {e:Expr} {es:List Expr} {t:TA} {k:Nat} {ps:List Str} {sp:Sp}
def tFnX (sp:Sp) (b:St->XK) (t:TA):TE:=fun σ H Q=>t σ H fun a H1=>sp a H1 Q (b σ)
theorem Az (c:CalleeX X.prog X.w X.K X.mg X.base x k ps sp) (l:Room k X.A) (v:∀ (pins:List (Addr × Obj)) (σ:St) (H:Hp) (s:Shared) (e:Value) (s':Shared),Inv X pins σ H s->CXe X.prog X.w X.stack H s (EE σ) e s'->X.xe e s') (n:PA X (e :: es) t) (z:Gl X x) (d:(x == ("__debug__":Str))=false) (he:starEach (e :: es) X.env=(false,eval e X.env) :: starEach es X.env) (g:(backTo pos (starEach es X.env)).any (·.1)=false):PE X (.Call (.Name x p) (e :: es) [] pos) (tFnX sp EE t):=by
 obtain ⟨f,fd,F,hm,o,m⟩:=c.ex
 intro pins s σ H Q I h
 refine wpAny_Call_Name_kw (gz I z hm ?_ d)
 refine PySem.W.callWith_K (h₀:=X.base) I.ok.mod.kin o (thn (n pos pins s σ H _ I h) fun us s1 ⟨y,H1,a,r,q⟩=>⟨a.kIn,?_⟩) he g
 have j:us.length=ps.length:=by rw [<- r.length];exact F.len _ _ _ _ q
 have i:=m s1 us a.kIn (by rw [List.append_nil];exact j)
 rw [List.append_nil] at i
 refine wpAny_call (codeAny_mono (F.run X.A X.stack s1 H1 ⟨us,[]⟩ us y Q (EE σ) l a.env0 i r q) fun r s' b=>?_)
 cases r with
 | error e=>exact v pins σ H1 s1 e s' a b
 | ok fl =>
  cases fl with
  | ret u=>exact a.after b
  | next=>exact False.elim b
  | brk=>exact False.elim b
  | cont=>exact False.elim b
end
theorem Def.calleeX {K:FG} {st:Stmt} {k:Nat} (D:Def K mg x st) (b:∀ (kV doc pm:Value) (an:Option Addr) (a ct:Value) (us:List Value),us.length=ps.length->bindArgs (PySem.W.fnOf x x (aQ st) (aL st) (ac st) .none kV doc pm an a ct) ⟨us,[]⟩=pure (ps.zip us)) (h:∀ f fd,Fun K x x st f fd->FnOk P w K mg base (CXe P w) k f fd ps sp):CalleeX P w K mg base x k ps sp:=by
 obtain ⟨f,fd,d⟩:=D
 exact ⟨f,fd,h f fd d.fn,d.mg,d.fn.kp,d.fn.binds b⟩
theorem Fun.okX {K:FG} {st:Stmt} {k:Nat} (F:Fun K x qual st f fd) (S:FnScope N ps (ac st)) (len:∀ c H Q E,sp c H Q E->c.length=ps.length) (b:∀ (a:Value) (A:Around) (outer:List Env) (s:Shared) (H:Hp) (c:List V) (Q:VK) (E:XK),Room k (A.deeper (envOfC qual (ac st) s.heap.objs.size f a))->sp c H Q E ->
   ∃ t,PSs (dY (CXe P w) P w K mg base N qual (ac st) f a A outer s H E) (aL st) t/\t { nx:=fun _ H'=>Q .non H',rt:=Q } (fK N c) H):FnOk P w K mg base (CXe P w) (k+1) f fd ps sp:=by
 obtain ⟨j,l,kV,doc,pm,an,a,ct,i,rfl,h,d⟩:=F.ex
 exact zj h d S len fun A outer s H c Q E g e=>b a A outer s H c Q E g e
structure RoomN (k:Nat) (A:Around):Prop where
 dp:A.depth+3 * k+5 < recursionLimit
 un:A.units+16 * k+200 < cLine
 gd:A.guards=some []
theorem Room.mark {k:Nat} (r:Room k A) (v:Option Value):RoomN k (A.mark v):=⟨r.dp,r.un,r.gd⟩
theorem RoomN.mono {j k:Nat} (r:RoomN k A) (h:j<=k):RoomN j A:=⟨by have:=r.dp;omega,by have:=r.un;omega,r.gd⟩
theorem RoomN.deeper {k:Nat} (r:RoomN (k+1) A) (env:Env):RoomN k (A.deeper env) :=
 ⟨by have:=r.dp;show A.depth+1+3 * k+5 < _;omega,by have:=r.un;show A.units+3+16 * k+200 < _;omega,r.gd⟩
def HdA (A:Around) (H:Hp):Prop:=∃ a ob u,A.handled=some (.ref a)/\H a=some (.frz ob u)/\NoC ob
structure FnOkN (P:Program) (w:World) (K:FG) (mg:Str->Option Value) (base:Heap) (k:Nat) (f:Addr) (fd:FuncData) (ps:List Str) (sp:Sp):Prop where
 len:∀ vs H Q E,sp vs H Q E->vs.length=ps.length
 run:∀ (A:Around) (outer:List Env) (s:Shared) (H:Hp) (args:Args) (us:List Value) (vs:List V) (Q:VK),RoomN k A->HdA A H->Env0 P w K mg base A outer s H->BindsTo s fd args (ps.zip us)->Vals vs us->sp vs H Q E0 ->
  codeAny (model P w) A (.call (.ref f) args) (CR CX0 outer P w H s Q E0) s
abbrev Cx.loud (X:Cx):Cx:={ X with calm:=false }
theorem rB {K:FG} (S:FnScope N ps scope) (a:Env0 P w K mg base A outer s H) (b:vs.length=ps.length) (r:Vals vs us) (x:InCallC s s.heap.objs.size (bindL (envOfC qual scope s.heap.objs.size f cd).kindOf (ps.zip us) fun _=>none) (cellsFrom (s.heap.objs.size+1) scope.names []) (bindC (envOfC qual scope s.heap.objs.size f cd).kindOf (ps.zip us) fun _=>none) s1) :
  Inv ((dY CX0 P w K mg base N qual scope f cd A outer s H E0).loud.wish fun _ _=>False) [] (fK N vs) H s1:=by
 have e1:Env0 P w K mg base { A with handled:=none } outer s H:=⟨a.frames,a.mod,a.bs,a.bsz,a.funs,a.frf,a.hok,a.bare⟩
 have I:=nI (CX:=CX0) (E:=E0) (qual:=qual) (f:=f) (cd:=cd) S rfl e1 b r x
 exact ⟨⟨I.ok.mod,I.ok.kind,I.ok.glob,I.ok.blt,I.ok.above,I.ok.inj,I.ok.has,I.ok.cab,(fun h=>by cases h),I.ok.frames,I.ok.stk,I.ok.exf,I.ok.bs,I.ok.bsz,I.ok.noex,I.ok.exfs,I.ok.funs,I.ok.frf⟩,I.os,I.bare,I.base,I.loc,I.cell,I.free,I.freeC,I.pin,I.hok,I.len⟩
theorem Fun.okN {K:FG} {st:Stmt} {k:Nat} (F:Fun K x qual st f fd) (S:FnScope N ps (ac st)) (len:∀ c H Q E,sp c H Q E->c.length=ps.length) (d:∀ (a:Value) (A:Around) (outer:List Env) (s:Shared) (H:Hp) (c:List V) (Q:VK),RoomN k (A.deeper (envOfC qual (ac st) s.heap.objs.size f a))->Hd ((dY CX0 P w K mg base N qual (ac st) f a A outer s H E0).loud.wish fun _ _=>False)->sp c H Q E0 ->
   ∃ t,PSs ((dY CX0 P w K mg base N qual (ac st) f a A outer s H E0).loud.wish fun _ _=>False) (aL st) t/\t { nx:=fun _ H'=>Q .non H',rt:=Q } (fK N c) H):FnOkN P w K mg base (k+1) f fd ps sp:=by
 obtain ⟨T,U,kV,doc,pm,an,a,ct,L,rfl,G,m⟩:=F.ex
 refine ⟨len,fun A outer s H args us c Q z l j D r i=>?_⟩
 have C:=len _ _ _ _ i
 have B:K.In s.heap:=j.mod.kin.keeps fun b o e=>(j.bs b o e).1
 have lim:s.heap.NoLimit:=j.mod.nolimit.keeps fun b o e=>(j.bs b o e).1
 have g:∀ y ∈ ps.zip us,(ac st).names.lookup y.1=some .local\/((ac st).names.lookup y.1=some .cell/\((cellsFrom (s.heap.objs.size+1) (ac st).names []).lookup y.1).isSome=true):=fun ⟨n,v⟩ R=>by
  rcases S.par n (List.of_mem_zip R).1 with q | q
  ·exact .inl q
  ·exact .inr ⟨q,PySem.W.cellsFrom_some _ _ _ (.inl q)⟩
 refine codeAny_call_function (by have:=z.dp;omega) (B _ _ G) rfl S.co S.gen rfl (PySem.W.codeRec_of B m) (D _ _ _ _ ?_)
 refine wpAny_newFunctionEnv_cells S.kind g fun env he s1 x=>?_
 subst he
 refine ⟨lim.keeps x.toInCall.keep,codeAny_func ?_⟩
 obtain ⟨t,O,M⟩:=d a A outer s H c Q (z.deeper _) l i
 have I:=rB (qual:=qual) (f:=f) (cd:=a) S j C r x
 refine wpAny_mono (O [] s1 (fK N c) H _ I M) (fun fl s' h=>?_) fun e s' h=>False.elim h
 have fin:∀ {σ':St} {H':Hp} {v:V} {u:Value},Inv ((dY CX0 P w K mg base N qual (ac st) f a A outer s H E0).loud.wish fun _ _=>False) [] σ' H' s'->RelV v u->Q v H'->CE outer P w H s Q u s' :=
  fun {σ' H' v u} J p q=>⟨v,H',J.os,J.bare,J.base,J.hok,p,q⟩
 cases fl with
 | ret u =>
  obtain ⟨v,σ',H',J,p,q⟩:=h
  exact fin J p q
 | next =>
  obtain ⟨σ',H',J,q⟩:=h
  exact fin (v:=V.non) (u:=Value.none) J rfl q
 | brk =>
  obtain ⟨_,_,_,q⟩:=h
  exact False.elim q
 | cont =>
  obtain ⟨_,_,_,q⟩:=h
  exact False.elim q
structure CalleeN (P:Program) (w:World) (K:FG) (mg:Str->Option Value) (base:Heap) (x:Str) (k:Nat) (ps:List Str) (sp:Sp):Prop where
 ex:∃ (f:Addr) (fd:FuncData),FnOkN P w K mg base k f fd ps sp/\mg x=some (.ref f)/\PySem.W.keepIn K (.ref f)=true/\Binds K fd ps []
theorem Def.calleeN {K:FG} {st:Stmt} {k:Nat} (D:Def K mg x st) (b:∀ (kV doc pm:Value) (an:Option Addr) (a ct:Value) (us:List Value),us.length=ps.length->bindArgs (PySem.W.fnOf x x (aQ st) (aL st) (ac st) .none kV doc pm an a ct) ⟨us,[]⟩=pure (ps.zip us)) (h:∀ f fd,Fun K x x st f fd->FnOkN P w K mg base k f fd ps sp):CalleeN P w K mg base x k ps sp:=by
 obtain ⟨f,fd,d⟩:=D
 exact ⟨f,fd,h f fd d.fn,d.mg,d.fn.kp,d.fn.binds b⟩
section
variable {X:Cx} {x:Str} {p pos:Pos} {e:Expr} {es:List Expr} {t:TA} {k:Nat} {ps:List Str} {sp:Sp}
theorem AA (c:CalleeN X.prog X.w X.K X.mg X.base x k ps sp) (y:RoomN k X.A) (l:Hd X) (z:PA X (e :: es) t) (D:Gl X x) (g:(x == ("__debug__":Str))=false)
  (he:starEach (e :: es) X.env=(false,eval e X.env) :: starEach es X.env) (i:(backTo pos (starEach es X.env)).any (·.1)=false):PE X (.Call (.Name x p) (e :: es) [] pos) (tFn sp t):=by
 obtain ⟨f,fd,F,hm,B,n⟩:=c.ex
 intro pins s σ H Q I h
 refine wpAny_Call_Name_kw (gz I D hm ?_ g)
 refine PySem.W.callWith_K (h₀:=X.base) I.ok.mod.kin B (thn (z pos pins s σ H _ I h) fun us s1 ⟨C,H1,d,r,q⟩=>⟨d.kIn,?_⟩) he i
 have m:us.length=ps.length:=by rw [<- r.length];exact F.len _ _ _ _ q
 have j:=n s1 us d.kIn (by rw [List.append_nil];exact m)
 rw [List.append_nil] at j
 refine wpAny_call (codeAny_mono (F.run X.A X.stack s1 H1 ⟨us,[]⟩ us C Q y (let ⟨a,ob,u,v,d2,o⟩:=l;⟨a,ob,u,v,d.base.frzs a ob u d2,o⟩) d.env0 j r q) fun r s' b=>?_)
 cases r with
 | error e=>exact False.elim b
 | ok fl =>
  cases fl with
  | ret u=>exact d.after b
  | next=>exact False.elim b
  | brk=>exact False.elim b
  | cont=>exact False.elim b
end
end L2
end
section
namespace L2
open PySem PySem.W PySem.Spec PySem.Calls PyProof.Rows Builtin.Getset_descriptor
structure ExcAt (h:Heap) (x D:Addr):Prop where
 ex:∃ ox,h.get? x=some ox/\ox.cls=.ref D
section
variable {prog:Program} {w:World} {A:Around} {E:Value->Shared->Prop} {s:Shared} {K:FG} {x D:Addr}
theorem ExcAt.ty (p:ExcAt h x D):Looks M h (typeOf (.ref x)) (.ref D):=by
 obtain ⟨b,e1,a⟩:=p.ex
 exact a ▸ (Looks.ld e1).andThen .now
theorem wo (k:ExcK K D) (X:K.In h):Looks M h (Builtin.ObjectAttr.find (.ref x) (.ref D) "__class__") (.bind (.builtin "getset_descriptor.__get__") (.builtin "object.__class__")):=by
 have c:=looks_findIn (M:=M) X k.ca
 have a:Looks M h (Builtin.ObjectAttr.getOf (some (.builtin "object.__class__"))) (some (.builtin "getset_descriptor.__get__")):=looks_specialIn X k.sp
 have b:Looks M h (Builtin.ObjectAttr.dataDescriptor? (some (.builtin "object.__class__")) (some (.builtin "getset_descriptor.__get__"))) (some (.builtin "getset_descriptor.__get__",.builtin "object.__class__")):=(looks_takesIn X k.tk).andThen .now
 exact c.andThen (a.andThen (b.andThen (Looks.tag .now)))
theorem yA (k:ExcK K D) (X:K.In s.heap) (p:ExcAt s.heap x D) (h:R (.ok (.ret (.ref D))) s):codeAny (model prog w) A (.call (.builtin "getset_descriptor.__get__") ⟨[.builtin "object.__class__",.ref x,tp],[]⟩) R s:=by
 obtain ⟨h0,a,c,t0,o0⟩:=s
 have b:=p.ty (M:=model prog w)
 have d:=looks_mroIn (M:=model prog w) X k.ob
 refine codeAny_call_builtin KF.slot_gs.plain KF.entry_gs (KF.slot_gs.check _ _ _ _ _ _ _ _ KF.type_class (KF.args_gs _ _ _) ?_)
 unfold Builtin.«getset_descriptor.__get__» descrGet
 rw [dga_obj]
 refine Bv (Bw ?_)
 unfold descrGetter descrCheckInstance descrNameAndClass isInstance
 simp only [KF.owner_class]
 repeat lk
 refine ⟨Code.quiet_builtin _ (by decide +kernel),codeAny_builtin KF.entry_class ?_⟩
 unfold Builtin.«object.__class__» shownTypeOf
 repeat lk
 exact h
theorem ub (k:ExcK K D) (X:K.In s.heap) (p:ExcAt s.heap x D) (h:Q (.done (.ret (.ref D))) s) :
  wpAny (model prog w) A (Builtin.«object.__getattribute__» ⟨[.ref x,.str "__class__" tk],[]⟩) Q E s:=by
 obtain ⟨h0,a,c,t0,o0⟩:=s
 have b:=p.ty (M:=model prog w)
 have d:=wo (M:=model prog w) (x:=x) k X
 unfold Builtin.«object.__getattribute__» slotArgs
 repeat lk
 show wpAny _ _ (run (.call (.builtin "getset_descriptor.__get__") ⟨[.builtin "object.__class__",.ref x,.ref D],[]⟩)) _ _ _
 refine wpAny_run (yA k X p ?_)
 exact Bw (Bw h)
theorem ue (k:ExcK K D) (X:K.In s.heap) (p:ExcAt s.heap x D) (h:Q () s):wpAny (model prog w) A (checkBuiltinCall "BaseException.__getattribute__" ⟨[.ref x,v],[]⟩) Q E s:=by
 obtain ⟨h0,b,e,t0,o0⟩:=s
 have c:=p.ty (M:=model prog w)
 have f:=looks_mroIn (M:=model prog w) X k.be
 have a:builtinKind "BaseException.__getattribute__"=some .slot:=by decide +kernel
 have b2:splitId "BaseException.__getattribute__"=some ("BaseException","__getattribute__"):=by decide +kernel
 have d:=F.args_bexc_ga (.ref x) v
 simp only [checkBuiltinCall,a,b2]
 refine Bv ?_
 unfold isInstance
 repeat lk
 exact h
theorem uc (k:ExcK K D) (X:K.In s.heap) (p:ExcAt s.heap x D) (h:Q (some (.ref D)) { s with toks:=s.toks+1 }):wpAny (model prog w) A (getAttr? (.ref x) "__class__") Q E s:=by
 obtain ⟨h0,e,f,t0,o0⟩:=s
 have b:=p.ty (M:=model prog w)
 have c:=looks_findIn (M:=model prog w) X k.ga
 have d:=looks_findIn (M:=model prog w) X k.gt
 have a:=F.excAttr_ValueError.ga.bind (.ref x)
 have ne:(onTheHeap (Value.ref D) && Value.builtin "BaseException.__getattribute__" == Value.builtin "object.__getattribute__")=false:=by
  rw [show (Value.builtin "BaseException.__getattribute__" == Value.builtin "object.__getattribute__")=false by decide +kernel];rfl
 unfold getAttr? getAttrBy? getAttrBy
 refine Bv (wpAny_mkText (Bv (wpAny_attempt (Bx (Bv (b.at (Bv (c.at ?_))))))))
 simp only [ne,B9,if_false]
 unfold getAttrByItsOwn hookBefore
 rw [show onTheHeap (Value.ref D)=true from rfl,if_pos rfl]
 refine Bv (d.at (Bv (wpAny_attempt (Bx ?_))))
 unfold callGetattribute boundAndCalled
 rw [if_neg (by decide)]
 refine Bv (wpAny_of_eq a ?_)
 refine wpAny_call (codeAny_call_builtin F.excAttr_ValueError.ga.plain F.entry_bexc_ga (ue k X p (ub k X p ?_)))
 exact handed_on rfl (Bw h)
theorem ExcK.isT (k:ExcK K D) (X:K.In h):∃ o cd,h.get? D=some o/\o.data=.cls cd:=by
 obtain ⟨cd,a⟩:=Option.isSome_iff_exists.mp k.cl
 unfold clsIn at a
 split at a
 ·rename_i b
  exact ⟨_,_,X _ _ b,rfl⟩
 ·cases a
theorem vZ (k:ExcK K D):KitX K (.ref x) (.ref D) (fun h=>ExcAt h x D) where
 ty:=fun _ _ _ p=>p.ty
 it:=fun _ _ X _=>by
  obtain ⟨o,cd,e1,a⟩:=k.isT X
  intro j r l s1 k1 b
  unfold isType loadHead
  obtain ⟨m,q,i,g⟩:=o
  dsimp only at a
  subst a
  exact Bv (wpAny_loadPart (k1 _ _ e1) (Bw b))
 ne:=fun h d dd its n sl X c=>by
  obtain ⟨o,cd,e1,a⟩:=k.isT X
  cases e:(Value.ref D == Value.ref d) with
  | false=>rfl
  | true =>
   have f:D=d:=Value.ref.inj (beq_iff_eq.mp e)
   rw [f,c] at e1
   cases e1
   cases a
 ca:=fun X p b=>uc k X p b
end
end L2
end
section
namespace L2
open PySem PySem.Spec PyProof.Rows
section
variable {X:Cx}
theorem nQ:∀ {bs:List Bool} {its:List Value},Vals (bs.map V.bl) its->its.countP (eqU (.bl k))=bs.count k
 | [],its,r=>by cases r;rfl
 | b :: bs,its,r=>by
  cases r with
  | cons h t =>
   rw [List.countP_cons,List.count_cons,nQ t,oP h rfl]
   rfl
theorem tX:MtR X "list.count" (fun x j H Q=>∃ (a:Addr) (bs:List Bool) (k:Bool),x=.ref a/\j=[.bl k]/\SqL X.K H a (bs.map V.bl)/\Q (.int (bs.count k:Nat)) H):=by
 intro pins s σ H x j v us Q I t p h
 obtain ⟨a,bs,k,rfl,rfl,m,q⟩:=h
 cases t
 obtain ⟨u,rfl,l⟩:=kg p
 obtain ⟨its,r,⟨o,n,e,i,hd,g⟩,hz⟩:=I.list m
 have f:s.heap.get? a=some { cls:=.type "list",dict:=none,data:=.seq its.toArray n,slots:=o.slots }:=by
  rw [e]
  obtain ⟨c,d,dt,sl⟩:=o
  dsimp only at i hd g
  subst i hd g
  rfl
 refine call_meets F.slot_list_count ⟨_,f,rfl⟩ F.entry_list_count (F.args_list_count_2 _ _) (SeqAt.list_countAt a its.toArray n none o.slots u (eqU (.bl k))) ⟨f,fun z b=>lL l rfl r (by simp [fM]) z (by simpa using b),?_⟩
 rw [show its.toArray.toList=its from rfl,nQ r]
 exact ⟨.int _,H,I.tok _,⟨_,rfl⟩,q⟩
end
end L2
end
section
namespace L2
open PySem PySem.Spec PyProof.Rows
end L2
end
section
namespace L3
open PySem L2
theorem nsE {α:Type} {p:α} {P:Prop} (e:(none:Option α)=some p):P:=nomatch e
inductive D where
 | non | bl (b:Bool) | int (i:Int) | str (x:Str)
 | tup (xs:List D) | lst (xs:List D) | fls (xs:List D) | dk (kvs:List (Key × D)) | dt (kvs:List (List Key × D))
 | exc (c:String) (fs:List (String × D))
def je:D->Bool
 | .lst _=>true
 | .dk _=>true
 | .dt _=>true
 | _=>false
def FzL (K:FG) (H:Hp) (a:Addr) (b:List V):Prop:=(∃ o,H a=some (.frz o (.lst b)))\/∃ (o:Obj) (its:Array Value) (n:Nat),K.lookup a=some o/\o.cls=.type "list"/\o.dict=none/\o.data=.seq its n/\its.size<=sizeLine/\Vals b its.toList
theorem FzL.sq (h:FzL K H a vs):SqL K H a vs:=h.elim (fun ⟨o,e⟩=>.inl (.inr ⟨o,e⟩)) .inr
inductive Reps (R:D->V->List Addr->Prop):List D->List V->List Addr->Prop where
 | nil:Reps R [] [] []
 | cons {d v L ds vs L'}:R d v L->Reps R ds vs L'->Reps R (d :: ds) (v :: vs) (L ++ L')
inductive Rep (K:FG) (H:Hp):D->V->List Addr->Prop where
 | non:Rep K H .non .non []
 | bl (b:Bool):Rep K H (.bl b) (.bl b) []
 | int (i:Int):Rep K H (.int i) (.int i) []
 | str (x:Str):Rep K H (.str x) (.str x) []
 | tup {xs a vs L}:H a=some (.tup vs)->Reps (Rep K H) xs vs L->Rep K H (.tup xs) (.ref a) L
 | lst {xs a vs L}:H a=some (.lst vs)->Reps (Rep K H) xs vs L->Rep K H (.lst xs) (.ref a) (a :: L)
 | lstF {xs a vs L}:FzL K H a vs->Reps (Rep K H) xs vs L->Rep K H (.fls xs) (.ref a) L
 | dK {kvs a ps L}:H a=some (.dK ps)->kvs.map (·.1)=ps.map (·.1)->Reps (Rep K H) (kvs.map (·.2)) (ps.map (·.2)) L->Rep K H (.dk kvs) (.ref a) (a :: L)
 | dT {kvs a ps L}:H a=some (.dT ps)->kvs.map (·.1)=ps.map (·.1)->Reps (Rep K H) (kvs.map (·.2)) (ps.map (·.2)) L->Rep K H (.dt kvs) (.ref a) (a :: L)
 | exc {c a D ob}:XName K c D->H a=some (kO ob a (.ref D))->Rep K H (.exc c []) (.ref a) []
def RepV (K:FG) (H:Hp) (d:D) (v:V) (L:List Addr):Prop:=match d with
 | .non=>v=.non/\L=[]
 | .bl b=>v=.bl b/\L=[]
 | .int i=>v=.int i/\L=[]
 | .str x=>v=.str x/\L=[]
 | .tup xs=>∃ a e,v=.ref a/\H a=some (.tup e)/\Reps (Rep K H) xs e L
 | .lst xs=>∃ a e L',v=.ref a/\L=a :: L'/\H a=some (.lst e)/\Reps (Rep K H) xs e L'
 | .fls xs=>∃ a e,v=.ref a/\FzL K H a e/\Reps (Rep K H) xs e L
 | .dk kvs=>∃ a ps L',v=.ref a/\L=a :: L'/\H a=some (.dK ps)/\kvs.map (·.1)=ps.map (·.1)/\Reps (Rep K H) (kvs.map (·.2)) (ps.map (·.2)) L'
 | .dt kvs=>∃ a ps L',v=.ref a/\L=a :: L'/\H a=some (.dT ps)/\kvs.map (·.1)=ps.map (·.1)/\Reps (Rep K H) (kvs.map (·.2)) (ps.map (·.2)) L'
 | .exc c fs=>fs=[]/\L=[]/\∃ a D ob,v=.ref a/\XName K c D/\H a=some (kO ob a (.ref D))
theorem Rep.view (r:Rep K H d v L):RepV K H d v L:=by
 cases r with
 | non=>exact ⟨rfl,rfl⟩
 | bl b=>exact ⟨rfl,rfl⟩
 | int i=>exact ⟨rfl,rfl⟩
 | str x=>exact ⟨rfl,rfl⟩
 | tup h r=>exact ⟨_,_,rfl,h,r⟩
 | lst h r=>exact ⟨_,_,_,rfl,rfl,h,r⟩
 | lstF h r=>exact ⟨_,_,rfl,h,r⟩
 | dK h k r=>exact ⟨_,_,_,rfl,rfl,h,k,r⟩
 | dT h k r=>exact ⟨_,_,_,rfl,rfl,h,k,r⟩
 | exc n h=>exact ⟨rfl,rfl,_,_,_,rfl,n,h⟩
def MutAt (H:Hp) (b:Addr):Prop:=(∃ xs,H b=some (.lst xs))\/(∃ ps,H b=some (.dK ps))\/∃ ps,H b=some (.dT ps)
theorem MutAt.ex (m:MutAt H b):∃ o,H b=some o:=by
 rcases m with ⟨_,h⟩ | ⟨_,h⟩ | ⟨_,h⟩ <;> exact ⟨_,h⟩
theorem MutAt.notup (m:MutAt H b) (h:H b=some (.tup vs)):False:=by
 rcases m with ⟨_,e⟩ | ⟨_,e⟩ | ⟨_,e⟩ <;> rw [e] at h <;> cases h
theorem MutAt.nofrz (m:MutAt H b) (h:H b=some (.frz o u)):False:=by
 rcases m with ⟨_,e⟩ | ⟨_,e⟩ | ⟨_,e⟩ <;> rw [e] at h <;> cases h
theorem FzL.keep {M:Addr->Prop} (h:FzL K H a vs) (k:∀ b o,H b=some o->¬ M b->H' b=some o) (hm:∀ b,M b->MutAt H b):FzL K H' a vs:=h.elim (fun ⟨o,e⟩=>.inl ⟨o,k a _ e fun z=>(hm a z).nofrz e⟩) .inr
section
variable {K:FG} {H H':Hp} {d:D} {v:V} {L:List Addr}
theorem Rep.inH (r:Rep K H d v L):∀ b ∈ L,MutAt H b:=by
 refine Rep.rec (motive_1:=fun _ _ L _=>∀ b ∈ L,MutAt H b) (motive_2:=fun _ _ L _=>∀ b ∈ L,MutAt H b) ?_ ?_ ?_ ?_ ?_ ?_ ?_ ?_ ?_ ?_ ?_ ?_ r
 ·intro b a;cases a
 ·intro _ b a;cases a
 ·intro _ b a;cases a
 ·intro _ b a;cases a
 ·intro _ _ _ _ _ _ c;exact c
 ·intro _ _ _ _ h _ c b a
  rcases BE.mp a with e | a
  ·rw [e];exact .inl ⟨_,h⟩
  ·exact c b a
 ·intro _ _ _ _ _ _ c;exact c
 ·intro _ _ _ _ h _ _ c b a
  rcases BE.mp a with e | a
  ·rw [e];exact .inr (.inl ⟨_,h⟩)
  ·exact c b a
 ·intro _ _ _ _ h _ _ c b a
  rcases BE.mp a with e | a
  ·rw [e];exact .inr (.inr ⟨_,h⟩)
  ·exact c b a
 ·intro _ _ _ _ _ _ b a;cases a
 ·intro b a;cases a
 ·intro _ _ _ _ _ _ _ _ f g b a
  rcases BH.mp a with h | h
  ·exact f b h
  ·exact g b h
theorem Reps.inH (r:Reps (Rep K H) ds vs L):∀ b ∈ L,MutAt H b:=by
 induction r with
 | nil=>intro b a;cases a
 | cons r _ ih =>
  intro b a
  rcases BH.mp a with h | h
  ·exact r.inH b h
  ·exact ih b h
theorem Rep.keep {M:Addr->Prop} (k:∀ b o,H b=some o->¬ M b->H' b=some o) (hm:∀ b,M b->MutAt H b) (r:Rep K H d v L):(∀ b ∈ L,¬ M b)->Rep K H' d v L:=by
 refine Rep.rec (motive_1:=fun d v L _=>(∀ b ∈ L,¬ M b)->Rep K H' d v L) (motive_2:=fun ds j L _=>(∀ b ∈ L,¬ M b)->Reps (Rep K H') ds j L) ?_ ?_ ?_ ?_ ?_ ?_ ?_ ?_ ?_ ?_ ?_ ?_ r
 ·intro _;exact .non
 ·intro b _;exact .bl b
 ·intro b _;exact .int b
 ·intro b _;exact .str b
 ·intro xs a j L h _ i f
  exact .tup (k a _ h fun z=>(hm a z).notup h) (i f)
 ·intro xs a j L h _ i f
  exact .lst (k a _ h (f a By)) (i fun b g=>f b (Bz _ g))
 ·intro xs a j L h _ i f
  exact .lstF (h.keep k hm) (i f)
 ·intro l a ps L h e _ i f
  exact .dK (k a _ h (f a By)) e (i fun b g=>f b (Bz _ g))
 ·intro l a ps L h e _ i f
  exact .dT (k a _ h (f a By)) e (i fun b g=>f b (Bz _ g))
 ·intro c a D ob n h _
  exact .exc n (k a _ h fun z=>(hm a z).nofrz h)
 ·intro _;exact .nil
 ·intro d v L ds j L' _ _ m p f
  exact .cons (m fun b g=>f b (BC _ g)) (p fun b g=>f b (BD _ g))
theorem Rep.same (r:Rep K H d v L) (s:Same H H'):Rep K H' d v L:=r.keep (M:=fun _=>False) (fun b o h _=>s b o h) (fun _ z=>z.elim) fun _ _ z=>z
theorem Reps.keep {M:Addr->Prop} (k:∀ b o,H b=some o->¬ M b->H' b=some o) (hm:∀ b,M b->MutAt H b) (r:Reps (Rep K H) ds vs L):(∀ b ∈ L,¬ M b)->Reps (Rep K H') ds vs L:=by
 induction r with
 | nil=>intro _;exact .nil
 | cons r _ ih=>intro c;exact .cons (r.keep k hm fun b a=>c b (BC _ a)) (ih fun b a=>c b (BD _ a))
theorem Reps.same (r:Reps (Rep K H) ds vs L) (s:Same H H'):Reps (Rep K H') ds vs L:=r.keep (M:=fun _=>False) (fun b o h _=>s b o h) (fun _ z=>z.elim) fun _ _ z=>z
end
inductive Fl where
 | u | l | z
 deriving DecidableEq
structure It3 where
 d:D
 v:V
 L:List Addr
 f:Fl
abbrev Sto:=List (Option (D × Fl))
structure Gm where
 H0:Hp
 bw:Addr->Prop
 pr:Nat->Bool
 σ0:St
 orig:Hp
 src:Addr->Prop
 lv:Nat->Option V
def OwnOk (G:Gm) (x:It3):Prop:=je x.d=true/\∃ a L',x.v=.ref a/\x.L=a :: L'/\a ∉ L'/\(x.f=.u->G.H0 a=none\/G.bw a)
structure ItOk (K:FG) (G:Gm) (H:Hp) (x:It3):Prop where
 rep:Rep K H x.d x.v x.L
 own:x.f ≠ .z->OwnOk G x
 src:∀ c ∈ x.L,G.H0 c=none\/G.src c
structure Fx (G:Gm) (H:Hp) (T:List It3) (g:Nat->Option It3):Prop where
 frT:∀ x ∈ T,x.f ≠ .z->∀ a,x.v=.ref a->G.orig a=none
 frS:∀ i x,g i=some x->G.pr i=false->x.f ≠ .z->∀ a,x.v=.ref a->G.orig a=none
 bin:∀ b,G.bw b->∃ o,H b=some o
 ob:∀ b o,G.orig b=some o->∃ o',H b=some o'
 lvS:∀ i x,g i=some x->x.f=.l->G.lv i=some x.v
def NoRoot (x y:It3):Prop:=x.f ≠ .z->∀ a,x.v=.ref a->a ∉ y.L
def Apart3 (x y:It3):Prop:=NoRoot x y/\NoRoot y x
structure Wf (K:FG) (G:Gm) (H:Hp) (σ:St) (ρ:Sto) (T:List It3) (g:Nat->Option It3):Prop where
 len:σ.length = ρ.length
 sl:∀ i,(g i).map (fun x=>(x.d,x.f))=(ρ[i]?).join
 sv:∀ i x,g i=some x->σ[i]?=some (some x.v)
 okS:∀ i x,g i=some x->ItOk K G H x
 okT:∀ x ∈ T,ItOk K G H x
 ss:∀ i j x y,i ≠ j->g i=some x->g j=some y->NoRoot x y
 st:∀ i x,g i=some x->∀ y ∈ T,Apart3 x y
 tt:T.Pairwise Apart3
 base:∀ b o,G.H0 b=some o->¬ G.bw b->H b=some o
 pro:∀ i,G.pr i=true->σ[i]?=G.σ0[i]?
 fx:Fx G H T g
structure Le (K:FG) (G:Gm) (W:D->Sto->Prop) (G0:Gm) (W0:D->Sto->Prop):Prop where
 pr:G.pr=G0.pr
 ex:∀ (H:Hp) (σ:St) (ρ:Sto) (T:List It3) (g:Nat->Option It3) (e:D),Wf K G H σ ρ T g->W e ρ->∃ ρ0 T0 g0,Wf K G0 H σ ρ0 T0 g0/\W0 e ρ0
theorem Le.refl (K:FG) (G:Gm) (W:D->Sto->Prop):Le K G W G W:=⟨rfl,fun _ _ ρ T g _ w h=>⟨ρ,T,g,w,h⟩⟩
theorem Le.trans (a:Le K G W G1 W1) (b:Le K G1 W1 G2 W2):Le K G W G2 W2:=⟨a.pr.trans b.pr,fun H σ ρ T g e w h=>by
 obtain ⟨ρ1,c,g1,d,h1⟩:=a.ex H σ ρ T g e w h
 exact b.ex H σ ρ1 c g1 e d h1⟩
section
variable {K:FG} {G:Gm} {H H':Hp} {σ:St} {ρ:Sto} {T T':List It3} {g:Nat->Option It3} {x y z:It3}
theorem ItOk.keep {M:Addr->Prop} (h:ItOk K G H x) (k:∀ b o,H b=some o->¬ M b->H' b=some o) (hm:∀ b,M b->MutAt H b) (a:∀ b ∈ x.L,¬ M b):ItOk K G H' x:=⟨h.rep.keep k hm a,h.own,h.src⟩
theorem ItOk.same (h:ItOk K G H x) (s:Same H H'):ItOk K G H' x:=⟨h.rep.same s,h.own,h.src⟩
theorem Fx.more (f:Fx G H T g) (s:∀ b o,H b=some o->∃ o',H' b=some o'):Fx G H' T g:=⟨f.frT,f.frS,fun b h=>let ⟨o,e⟩:=f.bin b h;s b o e,fun b o h=>let ⟨o',e⟩:=f.ob b o h;s b o' e,f.lvS⟩
theorem Fx.sub (f:Fx G H T g) (h:∀ x ∈ T',x ∈ T):Fx G H T' g:=⟨fun x a=>f.frT x (h x a),f.frS,f.bin,f.ob,f.lvS⟩
theorem Wf.grow (w:Wf K G H σ ρ T g) (s:Same H H'):Wf K G H' σ ρ T g :=
 ⟨w.len,w.sl,w.sv,fun i x e=>(w.okS i x e).same s,fun x a=>(w.okT x a).same s,w.ss,w.st,w.tt,fun b o e n=>s b o (w.base b o e n),w.pro,w.fx.more fun b o h=>⟨o,s b o h⟩⟩
theorem Wf.sub (w:Wf K G H σ ρ T g) (h:T'.Sublist T):Wf K G H σ ρ T' g :=
 ⟨w.len,w.sl,w.sv,w.okS,fun x a=>w.okT x (h.subset a),w.ss,fun i x e y b=>w.st i x e y (h.subset b),w.tt.sublist h,w.base,w.pro,w.fx.sub fun x a=>h.subset a⟩
def Itm (T:List It3) (g:Nat->Option It3) (y:It3):Prop:=(∃ i,g i=some y)\/y ∈ T
def dH (T:List It3) (g:Nat->Option It3) (c:Addr):Prop:=(∀ i z,g i=some z->z.f ≠ .z->z.v ≠ .ref c)/\∀ z ∈ T,z.f ≠ .z->z.v ≠ .ref c
theorem Wf.itm (w:Wf K G H σ ρ T g) (h:Itm T g y):ItOk K G H y:=by
 rcases h with ⟨i,e⟩ | h
 ·exact w.okS i y e
 ·exact w.okT y h
theorem om {α:Type} {R:α->α->Prop} {l:List α} (p:l.Pairwise R) (h:∀ a b,R a b->R b a):∀ a ∈ l,∀ b ∈ l,a ≠ b->R a b:=by
 induction p with
 | nil=>intro a e;cases e
 | @cons c l hc _ ih =>
  intro a e b d n
  rcases BE.mp e with g | e
  ·rcases BE.mp d with f | d
   ·exact absurd (g.trans f.symm) n
   ·rw [g];exact hc b d
  ·rcases BE.mp d with f | d
   ·rw [f];exact h _ _ (hc a e)
   ·exact ih a e b d n
theorem Apart3.symm (h:Apart3 x y):Apart3 y x:=⟨h.2,h.1⟩
theorem Wf.kid (w:Wf K G H σ ρ T g) (h:Itm T g y) (d:c ∈ y.L) (m:y.f ≠ .z->y.v ≠ .ref c):dH T g c:=by
 refine ⟨fun i z e hz a=>?_,fun z hm hz a=>?_⟩
 ·rcases h with ⟨j,b⟩ | k
  ·by_cases l:i=j
   ·subst l
    rw [e] at b
    cases b
    exact m hz a
   ·exact w.ss i j z y l e b hz c a d
  ·exact (w.st i z e y k).1 hz c a d
 ·rcases h with ⟨j,b⟩ | k
  ·exact (w.st j y b z hm).2 hz c a d
  ·by_cases e:z=y
   ·subst e;exact m hz a
   ·exact (om w.tt (fun _ _=>Apart3.symm) z hm y k e).1 hz c a d
structure New (K:FG) (H H':Hp) (Ks:Addr->Prop) (x:It3):Prop where
 same:Same H H'
 rep:Rep K H' x.d x.v x.L
 sub:∀ c ∈ x.L,H c=none\/Ks c
 own:x.f ≠ .z->je x.d=true/\∃ a L',x.v=.ref a/\x.L=a :: L'/\a ∉ L'/\H a=none
theorem Wf.h0none (w:Wf K G H σ ρ T g) (h:H a=none):G.H0 a=none:=by
 cases e:G.H0 a with
 | none=>rfl
 | some o =>
  by_cases b:G.bw a
  ·obtain ⟨o,e⟩:=w.fx.bin a b
   rw [h] at e;cases e
  ·have:=w.base a o e b
   rw [h] at this;cases this
theorem Wf.ornone (w:Wf K G H σ ρ T g) (h:H a=none):G.orig a=none:=by
 cases e:G.orig a with
 | none=>rfl
 | some o =>
  obtain ⟨o,e⟩:=w.fx.ob a o e
  rw [h] at e;cases e
theorem Wf.push (w:Wf K G H σ ρ T g) (n:New K H H' Ks x) (q:∀ c,Ks c->dH T g c/\(G.H0 c=none\/G.src c)):Wf K G H' σ ρ (x :: T) g:=by
 have d:=w.grow n.same
 have a1:∀ y:It3,ItOk K G H y->(∀ c,Ks c->y.f ≠ .z->y.v ≠ .ref c)->Apart3 y x:=fun y m b=>by
  refine ⟨fun hf a e hm=>?_,fun hf a e hm=>?_⟩
  ·obtain ⟨_,t,L',e1,l,_,_⟩:=m.own hf
   rw [e] at e1
   cases e1
   rcases n.sub a hm with h | h
   ·obtain ⟨o,k⟩:=(m.rep.inH a (by rw [l];exact By)).ex
    rw [h] at k;cases k
   ·exact b a h hf e
  ·obtain ⟨_,t,L',e1,l,_,h⟩:=n.own hf
   rw [e] at e1
   cases e1
   obtain ⟨o,k⟩:=(m.rep.inH a hm).ex
   rw [h] at k;cases k
 refine ⟨d.len,d.sl,d.sv,d.okS,?_,d.ss,?_,?_,d.base,d.pro,⟨fun y b hf a u=>?_,d.fx.frS,d.fx.bin,d.fx.ob,d.fx.lvS⟩⟩
 ·intro y b
  rcases BE.mp b with rfl | b
  ·refine ⟨n.rep,fun hf=>?_,fun c j=>?_⟩
   ·obtain ⟨s,a,L',e1,l,r,p⟩:=n.own hf
    exact ⟨s,a,L',e1,l,r,fun _=>.inl (w.h0none p)⟩
   ·rcases n.sub c j with h | h
    ·exact .inl (w.h0none h)
    ·exact (q c h).2
  ·exact d.okT y b
 ·intro i z e y b
  rcases BE.mp b with rfl | b
  ·exact a1 z (w.okS i z e) fun c j=>(q c j).1.1 i z e
  ·exact d.st i z e y b
 ·refine List.pairwise_cons.mpr ⟨fun y b=>(a1 y (w.okT y b) fun c j=>(q c j).1.2 y b).symm,d.tt⟩
 ·rcases BE.mp b with h | b
  ·subst h
   obtain ⟨s,t,L',e1,l,r,p⟩:=n.own hf
   rw [u] at e1
   cases e1
   exact w.ornone p
  ·exact d.fx.frT y b hf a u
def dZ (ys:List It3) (c:Addr):Prop:=∃ y ∈ ys,c ∈ y.L/\(y.f ≠ .z->y.v ≠ .ref c)
theorem Wf.kids (w:Wf K G H σ ρ T g) (a:∀ y ∈ ys,Itm T g y) (h:dZ ys c):dH T g c/\(G.H0 c=none\/G.src c):=by
 obtain ⟨y,m,b,d⟩:=h
 exact ⟨w.kid (a y m) b d,(w.itm (a y m)).src c b⟩
structure Arg (K:FG) (H:Hp) (p:It3):Prop where
 rep:Rep K H p.d p.v p.L
 own:p.f ≠ .z->je p.d=true/\∃ a L',p.v=.ref a/\p.L=a :: L'/\a ∉ L'
theorem ItOk.arg (h:ItOk K G H x):Arg K H x:=⟨h.rep,fun hf=>by
 obtain ⟨m,a,L',v1,v2,v3,_⟩:=h.own hf
 exact ⟨m,a,L',v1,v2,v3⟩⟩
end
end L3
end
section
namespace L3
open PySem L2
inductive R3 where
 | pl (i:Nat) | val (d:D) (f:Fl)
abbrev M3 (α:Type):=Sto->Option (Except D α × Sto)
abbrev EM:=M3 R3
noncomputable def ag {α β:Type} (m:M3 α) (k:α->M3 β):M3 β:=fun ρ=>match m ρ with
 | none=>none
 | some (.error e,ρ')=>some (.error e,ρ')
 | some (.ok a,ρ')=>k a ρ'
noncomputable def a9 {α:Type} (a:α):M3 α:=fun ρ=>some (.ok a,ρ)
noncomputable def ba {α:Type} (o:Option α):M3 α:=fun ρ=>o.map fun a=>(.ok a,ρ)
noncomputable def der (r:R3):M3 D:=fun ρ=>match r with
 | .pl i=>((ρ[i]?).join).map fun p=>(.ok p.1,ρ)
 | .val d _=>some (.ok d,ρ)
inductive Ar (σ:St):R3->V->List It3->Prop where
 | pl {i:Nat} {v:V}:σ[i]?=some (some v)->Ar σ (.pl i) v []
 | val (x:It3):Ar σ (.val x.d x.f) x.v [x]
def Got (K:FG) (G:Gm) (σ:St) (ρ:Sto) (T:List It3) (r:R3) (v:V) (H:Hp):Prop:=∃ Ts g,Wf K G H σ ρ (Ts ++ T) g/\Ar σ r v Ts
def tE (K:FG) (G0:Gm) (W0:D->Sto->Prop) (m:EM):TE:=fun σ H Q=>∃ G W,Le K G W G0 W0/\∃ ρ T g r ρ',Wf K G H σ ρ T g/\m ρ=some (r,ρ')/\match r with
 | .ok r=>∀ v H',Got K G σ ρ' T r v H'->Q v H'
 | .error e=>W e ρ'
def tT (K:FG) (G0:Gm) (W0:D->Sto->Prop) (m:M3 Bool):TT:=fun σ H Q=>∃ G W,Le K G W G0 W0/\∃ ρ T g r ρ',Wf K G H σ ρ T g/\m ρ=some (r,ρ')/\match r with
 | .ok b=>∀ H' g',Wf K G H' σ ρ' T g'->Q b H'
 | .error e=>W e ρ'
inductive Ars (σ:St):List R3->List V->List It3->Prop where
 | nil:Ars σ [] [] []
 | cons {r v Ts rs vs Us}:Ar σ r v Ts->Ars σ rs vs Us->Ars σ (r :: rs) (v :: vs) (Us ++ Ts)
def tA (K:FG) (G0:Gm) (W0:D->Sto->Prop) (m:M3 (List R3)):TA:=fun σ H Q=>∃ G W,Le K G W G0 W0/\∃ ρ T g r ρ',Wf K G H σ ρ T g/\m ρ=some (r,ρ')/\match r with
 | .ok rs=>∀ a H' Ts g',Wf K G H' σ ρ' (Ts ++ T) g'->Ars σ rs a Ts->Q a H'
 | .error e=>W e ρ'
inductive Flw where
 | nx | br | ct | rt (d:D) (f:Fl)
abbrev SM:=M3 Flw
def tS (K:FG) (G0:Gm) (W0:D->Sto->Prop) (m:SM):TS:=fun E σ H=>∃ G W,Le K G W G0 W0/\∃ ρ T g r ρ',Wf K G H σ ρ T g/\m ρ=some (r,ρ')/\match r with
 | .ok .nx=>∀ σ' H' g',Wf K G H' σ' ρ' T g'->E.nx σ' H'
 | .ok .br=>∀ σ' H' g',Wf K G H' σ' ρ' T g'->E.bk σ' H'
 | .ok .ct=>∀ σ' H' g',Wf K G H' σ' ρ' T g'->E.ct σ' H'
 | .ok (.rt d f)=>∀ x σ' H' g',Wf K G H' σ' ρ' (x :: T) g'->x.d=d->x.f=f->E.rt x.v H'
 | .error e=>W e ρ'
section
variable {K:FG} {G G0:Gm} {W W0:D->Sto->Prop} {H H':Hp} {σ:St} {ρ ρ':Sto} {T T':List It3} {g:Nat->Option It3} {x y z:It3} {α β:Type}
theorem aW (e:ag (der r) k ρ=some (o,ρ')):∃ d,der r ρ=some (.ok d,ρ)/\k d ρ=some (o,ρ'):=by
 cases r with
 | pl i =>
  have a:der (.pl i) ρ=((ρ[i]?).join).map fun p=>(.ok p.1,ρ):=rfl
  unfold ag at e
  rw [a] at e ⊢
  cases h:(ρ[i]?).join with
  | none=>rw [h] at e;exact nsE e
  | some p=>rw [h] at e;exact ⟨p.1,rfl,e⟩
 | val d f=>exact ⟨d,rfl,e⟩
theorem bI (e:ba o ρ=some (r,ρ')):∃ a,o=some a/\r=.ok a/\ρ' = ρ:=by
 unfold ba at e
 cases o with
 | none=>exact nsE e
 | some a=>cases e;exact ⟨a,rfl,rfl,rfl⟩
theorem Wf.slot (w:Wf K G H σ ρ T g) {i:Nat} (e:(ρ[i]?).join=some (d,f)):∃ y,g i=some y/\y.d=d/\y.f=f/\σ[i]?=some (some y.v):=by
 have h:=w.sl i
 rw [e] at h
 cases q:g i with
 | none=>rw [q] at h;exact nsE h
 | some y =>
  rw [q] at h
  cases h
  exact ⟨y,rfl,rfl,rfl,w.sv i y q⟩
theorem Ar.item (w:Wf K G H σ ρ T g) (a:Ar σ r v Ts) (j:∀ x ∈ Ts,x ∈ T) (e:der r ρ=some (.ok d,ρ)):∃ y,Itm T g y/\y.d=d/\y.v=v:=by
 cases a with
 | @pl i v h =>
  have l:der (.pl i) ρ=((ρ[i]?).join).map fun p=>(.ok p.1,ρ):=rfl
  rw [l] at e
  cases q:(ρ[i]?).join with
  | none=>rw [q] at e;exact nsE e
  | some p =>
   rw [q] at e
   obtain ⟨y,e1,c,m,b⟩:=w.slot (d:=p.1) (f:=p.2) q
   have k:p.1=d:=by cases e;rfl
   rw [h] at b
   refine ⟨y,.inl ⟨i,e1⟩,c.trans k,?_⟩
   cases b;rfl
 | val x=>cases e;exact ⟨x,.inr (j x (by simp)),rfl,rfl⟩
theorem Wf.done (w:Wf K G H σ ρ (Us ++ T) g) (a:∀ y ∈ ys,Itm (Us ++ T) g y) (n:New K H H' (dZ ys) x):Got K G σ ρ T (.val x.d x.f) x.v H' :=
 ⟨[x],g,(w.push n fun c h=>w.kids a h).sub (by simpa using List.Sublist.cons_cons x (BM Us T)),.val x⟩
theorem tE.seq (le:Le K G W G0 W0) (w:Wf K G H σ ρ T g) (e:ag ma k ρ=some (r,ρ')) (he:∀ x,r=.error x->W x ρ') (h:∀ ra ρ1,k ra ρ1=some (r,ρ')->∀ v H1,Got K G σ ρ1 T ra v H1->P v H1):tE K G0 W0 ma σ H P:=by
 unfold ag at e
 cases q:ma ρ with
 | none=>rw [q] at e;exact nsE e
 | some p =>
  obtain ⟨o,ρ1⟩:=p
  rw [q] at e
  cases o with
  | error x=>cases e;exact ⟨G,W,le,ρ,T,g,.error x,ρ',w,q,he x rfl⟩
  | ok ra=>exact ⟨G,W,le,ρ,T,g,.ok ra,ρ1,w,q,h ra ρ1 e⟩
theorem tT.seq (le:Le K G W G0 W0) (w:Wf K G H σ ρ T g) (e:ag ma k ρ=some (r,ρ')) (he:∀ x,r=.error x->W x ρ') (h:∀ b ρ1,k b ρ1=some (r,ρ')->∀ H1 g1,Wf K G H1 σ ρ1 T g1->P b H1):tT K G0 W0 ma σ H P:=by
 unfold ag at e
 cases q:ma ρ with
 | none=>rw [q] at e;exact nsE e
 | some p =>
  obtain ⟨o,ρ1⟩:=p
  rw [q] at e
  cases o with
  | error x=>cases e;exact ⟨G,W,le,ρ,T,g,.error x,ρ',w,q,he x rfl⟩
  | ok ra=>exact ⟨G,W,le,ρ,T,g,.ok ra,ρ1,w,q,h ra ρ1 e⟩
theorem tA.seq (le:Le K G W G0 W0) (w:Wf K G H σ ρ T g) (e:ag ma k ρ=some (r,ρ')) (he:∀ x,r=.error x->W x ρ') (h:∀ rs ρ1,k rs ρ1=some (r,ρ')->∀ a H1 Ts g1,Wf K G H1 σ ρ1 (Ts ++ T) g1->Ars σ rs a Ts->P a H1):tA K G0 W0 ma σ H P:=by
 unfold ag at e
 cases q:ma ρ with
 | none=>rw [q] at e;exact nsE e
 | some p =>
  obtain ⟨o,ρ1⟩:=p
  rw [q] at e
  cases o with
  | error x=>cases e;exact ⟨G,W,le,ρ,T,g,.error x,ρ',w,q,he x rfl⟩
  | ok ra=>exact ⟨G,W,le,ρ,T,g,.ok ra,ρ1,w,q,h ra ρ1 e⟩
def EndE (K:FG) (G:Gm) (W:D->Sto->Prop) (σ:St) (T:List It3) (ρ':Sto) (Q:VK):Except D R3->Prop
 | .ok r=>∀ v H',Got K G σ ρ' T r v H'->Q v H'
 | .error e=>W e ρ'
theorem EndE.err (h:EndE K G W σ T ρ' Q r):∀ x,r=.error x->W x ρ':=by
 intro x e;subst e;exact h
theorem tE.open (h:tE K G0 W0 m σ H Q):∃ G W,Le K G W G0 W0/\∃ ρ T g r ρ',Wf K G H σ ρ T g/\m ρ=some (r,ρ')/\EndE K G W σ T ρ' Q r:=by
 obtain ⟨G,W,le,ρ,T,g,r,ρ',w,e,q⟩:=h
 refine ⟨G,W,le,ρ,T,g,r,ρ',w,e,?_⟩
 cases r with
 | ok r=>exact q
 | error x=>exact q
theorem tE.use (h:tE K G0 W0 m σ H Q) {P:Prop} (k:∀ G W,Le K G W G0 W0->∀ ρ T g r ρ',Wf K G H σ ρ T g->m ρ=some (r,ρ')->EndE K G W σ T ρ' Q r->P):P:=by
 obtain ⟨G,W,le,ρ,T,g,r,ρ',w,e,q⟩:=h.open
 exact k G W le ρ T g r ρ' w e q
theorem tE.mk (le:Le K G W G0 W0) (w:Wf K G H σ ρ T g) (e:m ρ=some (r,ρ')) (h:EndE K G W σ T ρ' Q r):tE K G0 W0 m σ H Q:=by
 refine ⟨G,W,le,ρ,T,g,r,ρ',w,e,?_⟩
 cases r with
 | ok r=>exact h
 | error x=>exact h
def af (i:Nat):EM:=fun ρ=>((ρ[i]?).join).map fun _=>(.ok (.pl i),ρ)
theorem zH {i:Nat} (h:tE K G0 W0 (af i) σ H Q):tw i σ H Q:=by
 refine h.use fun G W le ρ T g r ρ' w e q=>?_
 unfold af at e
 cases h:(ρ[i]?).join with
 | none=>rw [h] at e;exact nsE e
 | some p =>
  rw [h] at e
  cases e
  obtain ⟨y,_,_,_,a⟩:=w.slot (d:=p.1) (f:=p.2) h
  exact ⟨y.v,a,q y.v H ⟨[],g,w,.pl a⟩⟩
def mC (d:D):EM:=a9 (.val d .z)
theorem Wf.const (w:Wf K G H σ ρ T g) (r:Rep K H d v []):Got K G σ ρ T (.val d .z) v H :=
 Wf.done (Us:=[]) (ys:=[]) (x:=⟨d,v,[],.z⟩) w (fun _ h=>(by cases h)) ⟨Same.refl _,r,fun _ h=>(by cases h),fun h=>absurd rfl h⟩
theorem fR (r:∀ H,Rep K H d v []) (h:tE K G0 W0 (mC d) σ H Q):tC v σ H Q:=by
 refine h.use fun G W le ρ T g o ρ' w e q=>?_
 cases e
 exact q v H (w.const (r H))
def ao (f:D->D->Option (D × Fl)) (ma mb:EM):EM:=ag ma fun ra=>ag mb fun rb=>ag (der ra) fun da=>ag (der rb) fun db=>ba ((f da db).map fun p=>R3.val p.1 p.2)
def OpD (K:FG) (r:R2) (f:D->D->Option (D × Fl)):Prop:=∀ (a b:It3) (H:Hp) (Q:VK) (p:D × Fl),Arg K H a->Arg K H b->f a.d b.d=some p ->
 (∀ w H',New K H H' (dZ [a,b]) w->w.d=p.1->w.f=p.2->Q w.v H')->r a.v b.v H Q
theorem nO (w:Wf K G H σ ρ (Us ++ T) g) (c:∀ y ∈ ys,Itm (Us ++ T) g y) (q:EndE K G W σ T ρ Q (.ok (.val d f))) :
  ∀ a H',New K H H' (dZ ys) a->a.d=d->a.f=f->Q a.v H':=by
 intro a H' n e1 b
 subst e1 b
 exact q a.v H' (w.done c n)
theorem nZ (t:OpD K r f) (h:tE K G0 W0 (ao f ma mb) σ H Q):tOp r (tE K G0 W0 ma) (tE K G0 W0 mb) σ H Q:=by
 refine h.use fun G W le ρ T g o ρ' w e q=>?_
 refine tE.seq le w e q.err fun ra ρ1 e1 D H1 ⟨Ts,g1,C,a1⟩=>?_
 refine tE.seq le C e1 q.err fun rb ρ2 B E H2 ⟨Us,g2,a,a2⟩=>?_
 obtain ⟨da,z,u⟩:=aW B
 obtain ⟨db,d2,A⟩:=aW u
 obtain ⟨p,b,rfl,rfl⟩:=bI A
 obtain ⟨n,j,f1,f2⟩:=a1.item a (fun x i=>BD _ (BC _ i)) z
 obtain ⟨m,c,v,f4⟩:=a2.item a (fun x i=>BC _ i) d2
 subst f1 f2 v f4
 cases k:f n.d m.d with
 | none=>rw [k] at b;exact nsE b
 | some s =>
  rw [k] at b
  cases b
  rw [<- List.append_assoc] at a j c
  refine t n m H2 Q s (a.itm j).arg (a.itm c).arg k (nO a (fun y l=>?_) q)
  rcases BE.mp l with h | l
  ·rw [h];exact j
  ·rw [B8.mp l];exact c
def mUn (f:D->Option (D × Fl)) (ma:EM):EM:=ag ma fun ra=>ag (der ra) fun da=>ba ((f da).map fun p=>R3.val p.1 p.2)
def UnD (K:FG) (r:V->Hp->VK->Prop) (f:D->Option (D × Fl)):Prop:=∀ (a:It3) (H:Hp) (Q:VK) (p:D × Fl),Arg K H a->f a.d=some p ->
 (∀ w H',New K H H' (dZ [a]) w->w.d=p.1->w.f=p.2->Q w.v H')->r a.v H Q
theorem uJ (k:UnD K r f) (h:tE K G0 W0 (mUn f ma) σ H Q):tUn r (tE K G0 W0 ma) σ H Q:=by
 refine h.use fun G W le ρ T g o ρ' w e q=>?_
 refine tE.seq le w e q.err fun ra ρ1 e1 u H1 ⟨Ts,g1,c,a1⟩=>?_
 obtain ⟨da,n,l⟩:=aW e1
 obtain ⟨p,a,rfl,rfl⟩:=bI l
 obtain ⟨j,i,f1,f2⟩:=a1.item c (fun x m=>BC _ m) n
 subst f1 f2
 cases b:f j.d with
 | none=>rw [b] at a;exact nsE a
 | some s =>
  rw [b] at a
  cases a
  exact k j H1 Q s (c.itm i).arg b (nO c (fun y t=>by rw [B8.mp t];exact i) q)
def aj:M3 (List R3):=a9 []
def aa (m:EM) (ms:M3 (List R3)):M3 (List R3):=ag m fun r=>ag ms fun rs=>a9 (r :: rs)
def EndA (K:FG) (G:Gm) (W:D->Sto->Prop) (σ:St) (T:List It3) (ρ':Sto) (Q:List V->Hp->Prop):Except D (List R3)->Prop
 | .ok rs=>∀ a H' Ts g',Wf K G H' σ ρ' (Ts ++ T) g'->Ars σ rs a Ts->Q a H'
 | .error e=>W e ρ'
theorem EndA.err (h:EndA K G W σ T ρ' Q r):∀ x,r=.error x->W x ρ':=by
 intro x e;subst e;exact h
theorem tA.open (h:tA K G0 W0 m σ H Q):∃ G W,Le K G W G0 W0/\∃ ρ T g r ρ',Wf K G H σ ρ T g/\m ρ=some (r,ρ')/\EndA K G W σ T ρ' Q r:=by
 obtain ⟨G,W,le,ρ,T,g,r,ρ',w,e,q⟩:=h
 refine ⟨G,W,le,ρ,T,g,r,ρ',w,e,?_⟩
 cases r with
 | ok r=>exact q
 | error x=>exact q
theorem tA.use (h:tA K G0 W0 m σ H Q) {P:Prop} (k:∀ G W,Le K G W G0 W0->∀ ρ T g r ρ',Wf K G H σ ρ T g->m ρ=some (r,ρ')->EndA K G W σ T ρ' Q r->P):P:=by
 obtain ⟨G,W,le,ρ,T,g,r,ρ',w,e,q⟩:=h.open
 exact k G W le ρ T g r ρ' w e q
theorem zO (h:tA K G0 W0 aj σ H Q):tNil σ H Q:=by
 refine h.use fun G W le ρ T g r ρ' w e q=>?_
 cases e
 exact q [] H [] g w .nil
theorem xo (h:tA K G0 W0 (aa m ms) σ H Q):yT (tE K G0 W0 m) (tA K G0 W0 ms) σ H Q:=by
 refine h.use fun G W le ρ T g r ρ' w e q=>?_
 refine tE.seq le w e q.err fun ra ρ1 e1 a H1 ⟨Ts,g1,d,a1⟩=>?_
 refine tA.seq le d e1 q.err fun rs ρ2 b f H2 Us g2 c a2=>?_
 cases b
 refine q (a :: f) H2 (Us ++ Ts) g2 ?_ (.cons a1 a2)
 rw [List.append_assoc]
 exact c
def cO:List R3->M3 (List D)
 | []=>a9 []
 | r :: rs=>ag (der r) fun d=>ag (cO rs) fun ds=>a9 (d :: ds)
theorem sM:∀ {rs:List R3} {ρ ρ':Sto} {o:Except D (List D)},cO rs ρ=some (o,ρ')->∃ ds,o=.ok ds/\ρ' = ρ
 | [],ρ,ρ',o,e=>by cases e;exact ⟨[],rfl,rfl⟩
 | r :: rs,ρ,ρ',o,e=>by
  obtain ⟨d,e1,a⟩:=aW (k:=fun d=>ag (cO rs) fun ds=>a9 (d :: ds)) e
  unfold ag at a
  cases q:cO rs ρ with
  | none=>rw [q] at a;exact nsE a
  | some p =>
   obtain ⟨o',ρ1⟩:=p
   obtain ⟨ds,rfl,rfl⟩:=sM q
   rw [q] at a
   cases a
   exact ⟨d :: ds,rfl,rfl⟩
theorem bE (e:ag (cO rs) k ρ=some (o,ρ')):∃ ds,cO rs ρ=some (.ok ds,ρ)/\k ds ρ=some (o,ρ'):=by
 unfold ag at e
 cases q:cO rs ρ with
 | none=>rw [q] at e;exact nsE e
 | some p =>
  obtain ⟨o',ρ1⟩:=p
  obtain ⟨ds,rfl,rfl⟩:=sM q
  rw [q] at e
  exact ⟨ds,rfl,e⟩
theorem Ars.items:∀ {rs:List R3} {c:List V} {Ts:List It3} {ds:List D} ,Wf K G H σ ρ T g->Ars σ rs c Ts->(∀ x ∈ Ts,x ∈ T)->cO rs ρ=some (.ok ds,ρ)->∃ ys:List It3,(∀ y ∈ ys,Itm T g y)/\ys.map (·.d)=ds/\ys.map (·.v)=c
 | [],_,_,ds,w,.nil,_,e=>by cases e;exact ⟨[],fun _ h=>(by cases h),rfl,rfl⟩
 | r :: rs,_,_,ds,w,.cons a as,hs,e=>by
  obtain ⟨d,e1,o⟩:=aW (k:=fun d=>ag (cO rs) fun ds=>a9 (d :: ds)) e
  obtain ⟨m,n,j⟩:=bE o
  cases j
  obtain ⟨y,f,f1,f2⟩:=a.item w (fun x b=>hs x (BD _ b)) e1
  obtain ⟨ys,i,l,f4⟩:=Ars.items w as (fun x b=>hs x (BC _ b)) n
  refine ⟨y :: ys,fun z hz=>?_,by simp [f1,l],by simp [f2,f4]⟩
  rcases BE.mp hz with h | hz
  ·rw [h];exact f
  ·exact i z hz
def aY (f:List D->Option (D × Fl)) (ms:M3 (List R3)):EM:=ag ms fun rs=>ag (cO rs) fun ds=>ba ((f ds).map fun p=>R3.val p.1 p.2)
def d6 (K:FG) (r:List V->Hp->VK->Prop) (f:List D->Option (D × Fl)):Prop:=∀ (ys:List It3) (H:Hp) (Q:VK) (p:D × Fl),(∀ y ∈ ys,Arg K H y)->f (ys.map (·.d))=some p ->
 (∀ w H',New K H H' (dZ ys) w->w.d=p.1->w.f=p.2->Q w.v H')->r (ys.map (·.v)) H Q
theorem pv (j:d6 K r f) (h:tE K G0 W0 (aY f ms) σ H Q):tCB r (tA K G0 W0 ms) σ H Q:=by
 refine h.use fun G W le ρ T g o ρ' w e q=>?_
 refine tA.seq le w e q.err fun rs ρ1 e1 t H1 Ts g1 c a1=>?_
 obtain ⟨ds,m,k⟩:=bE e1
 obtain ⟨p,a,rfl,rfl⟩:=bI k
 obtain ⟨ys,i,f1,f2⟩:=a1.items c (fun x l=>BC _ l) m
 subst f1 f2
 cases b:f (ys.map (·.d)) with
 | none=>rw [b] at a;exact nsE a
 | some s =>
  rw [b] at a
  cases a
  exact j ys H1 Q s (fun y n=>(c.itm (i y n)).arg) b (nO c i q)
def asB:D->Option Bool
 | .bl b=>some b
 | _=>none
def hU (ma mb:EM):EM:=ag ma fun ra=>ag (der ra) fun d=>ag (ba (asB d)) fun b=>if b then mb else a9 (.val (.bl false) .z)
def mOr (ma mb:EM):EM:=ag ma fun ra=>ag (der ra) fun d=>ag (ba (asB d)) fun b=>if b then a9 (.val (.bl true) .z) else mb
def rl (ma:EM):EM:=ag ma fun ra=>ag (der ra) fun d=>ag (ba (asB d)) fun b=>a9 (.val (.bl (!b)) .z)
theorem jN (e:ag (ba o) k ρ=some (r,ρ')):∃ a,o=some a/\k a ρ=some (r,ρ'):=by
 unfold ag ba at e
 cases o with
 | none=>exact nsE e
 | some a=>exact ⟨a,rfl,e⟩
theorem wJ (e:asB d=some b):d=.bl b:=by
 cases d <;> first | exact nsE e | cases e
 rfl
theorem Rep.bl_eq (r:Rep K H (.bl b) v L):v=.bl b/\L=[]:=by cases r;exact ⟨rfl,rfl⟩
theorem Ar.bool (w:Wf K G H σ ρ (Ts ++ T) g) (a:Ar σ ra v Ts) (e:der ra ρ=some (.ok d,ρ)) (f:asB d=some b):v=.bl b:=by
 obtain ⟨y,c,f1,f2⟩:=a.item w (fun x h=>BC _ h) e
 have r:=(w.itm c).rep
 rw [f1,wJ f] at r
 rw [<- f2]
 exact r.bl_eq.1
theorem zM (h:tE K G0 W0 (hU ma mb) σ H Q):yV (tE K G0 W0 ma) (tE K G0 W0 mb) σ H Q:=by
 refine h.use fun G W le ρ T g o ρ' w e q=>?_
 refine tE.seq le w e q.err fun ra ρ1 e1 l H1 ⟨Ts,g1,f,a1⟩=>?_
 obtain ⟨d,k,j⟩:=aW e1
 obtain ⟨b,i,a⟩:=jN j
 refine ⟨b,a1.bool f k i,?_⟩
 have c:=f.sub (BM Ts T)
 cases b with
 | true=>exact tE.mk le c a q
 | false=>cases a;exact q _ _ (c.const (.bl false))
theorem zJ (h:tE K G0 W0 (rl ma) σ H Q):yQ (tE K G0 W0 ma) σ H Q:=by
 refine h.use fun G W le ρ T g o ρ' w e q=>?_
 refine tE.seq le w e q.err fun ra ρ1 e1 l H1 ⟨Ts,g1,a,a1⟩=>?_
 obtain ⟨d,k,i⟩:=aW e1
 obtain ⟨b,f,c⟩:=jN i
 refine ⟨b,a1.bool a k f,?_⟩
 have j:=a.sub (BM Ts T)
 cases c;exact q _ _ (j.const (.bl (!b)))
def EndT (K:FG) (G:Gm) (W:D->Sto->Prop) (σ:St) (T:List It3) (ρ':Sto) (Q:Bool->Hp->Prop):Except D Bool->Prop
 | .ok b=>∀ H' g',Wf K G H' σ ρ' T g'->Q b H'
 | .error e=>W e ρ'
theorem EndT.err (h:EndT K G W σ T ρ' Q r):∀ x,r=.error x->W x ρ':=by
 intro x e;subst e;exact h
theorem tT.open (h:tT K G0 W0 m σ H Q):∃ G W,Le K G W G0 W0/\∃ ρ T g r ρ',Wf K G H σ ρ T g/\m ρ=some (r,ρ')/\EndT K G W σ T ρ' Q r:=by
 obtain ⟨G,W,le,ρ,T,g,r,ρ',w,e,q⟩:=h
 refine ⟨G,W,le,ρ,T,g,r,ρ',w,e,?_⟩
 cases r with
 | ok r=>exact q
 | error x=>exact q
theorem tT.use (h:tT K G0 W0 m σ H Q) {P:Prop} (k:∀ G W,Le K G W G0 W0->∀ ρ T g r ρ',Wf K G H σ ρ T g->m ρ=some (r,ρ')->EndT K G W σ T ρ' Q r->P):P:=by
 obtain ⟨G,W,le,ρ,T,g,r,ρ',w,e,q⟩:=h.open
 exact k G W le ρ T g r ρ' w e q
theorem tT.mk (le:Le K G W G0 W0) (w:Wf K G H σ ρ T g) (e:m ρ=some (r,ρ')) (h:EndT K G W σ T ρ' Q r):tT K G0 W0 m σ H Q:=by
 refine ⟨G,W,le,ρ,T,g,r,ρ',w,e,?_⟩
 cases r with
 | ok r=>exact h
 | error x=>exact h
def cB (m:EM):M3 Bool:=ag m fun r=>ag (der r) fun d=>ba (asB d)
theorem tT_b (h:tT K G0 W0 (cB m) σ H Q):tB (tE K G0 W0 m) σ H Q:=by
 refine h.use fun G W le ρ T g o ρ' w e q=>?_
 refine tE.seq le w e q.err fun ra ρ1 e1 j H1 ⟨Ts,g1,a,a1⟩=>?_
 obtain ⟨d,i,f⟩:=aW e1
 obtain ⟨b,c,rfl,rfl⟩:=bI f
 exact ⟨b,a1.bool a i c,q _ _ (a.sub (BM Ts T))⟩
def yH (a b:M3 Bool):M3 Bool:=ag a fun c=>if c then b else a9 false
def cOr (a b:M3 Bool):M3 Bool:=ag a fun c=>if c then a9 true else b
def jv (a:M3 Bool):M3 Bool:=ag a fun c=>a9 (!c)
theorem tT_or (h:tT K G0 W0 (cOr a b) σ H Q):tOr (tT K G0 W0 a) (tT K G0 W0 b) σ H Q:=by
 refine h.use fun G W le ρ T g o ρ' w e q=>?_
 refine tT.seq le w e q.err fun c ρ1 e1 H1 g1 d=>?_
 cases c with
 | false=>exact tT.mk le d e1 q
 | true=>cases e1;exact q _ _ d
theorem zw (h:tT K G0 W0 (jv a) σ H Q):tNot (tT K G0 W0 a) σ H Q:=by
 refine h.use fun G W le ρ T g o ρ' w e q=>?_
 refine tT.seq le w e q.err fun c ρ1 e1 H1 g1 b=>?_
 cases e1;exact q _ _ b
def mIf (c:M3 Bool) (ma mb:EM):EM:=ag c fun b=>if b then ma else mb
end
end L3
end
section
namespace L3
open PySem L2
def dh (x:It3):It3:={ x with f:=.z }
theorem cC:NoRoot (dh x) y:=fun h=>absurd rfl h
def lowAt (i:Nat) (ρ:Sto):Sto:=match (ρ[i]?).join with
 | some (d,.u)=>ρ.set i (some (d,.z))
 | some (d,.l)=>ρ.set i (some (d,.z))
 | _=>ρ
noncomputable def frz (is:List Nat) (ρ:Sto):Sto:=is.foldl (fun ρ i=>lowAt i ρ) ρ
def ua (is:List Nat):M3 Unit:=fun ρ=>some (.ok (),frz is ρ)
def pls:List R3->List Nat
 | []=>[]
 | .pl i :: rs=>i :: pls rs
 | .val _ _ :: rs=>pls rs
section
variable {K:FG} {G G0:Gm} {W W0:D->Sto->Prop} {H H':Hp} {σ:St} {ρ ρ':Sto} {T T':List It3} {g:Nat->Option It3} {x y z:It3} {α β:Type}
theorem ItOk.low (h:ItOk K G H x):ItOk K G H (dh x):=⟨h.rep,fun q=>absurd rfl q,h.src⟩
theorem bL {i j:Nat} (hi:i < ρ.length):((ρ.set i o)[j]?).join=if j=i then o else (ρ[j]?).join:=by
 by_cases e:j=i
 ·subst e
  rw [if_pos rfl,List.getElem?_set_self hi]
  rfl
 ·rw [if_neg e,List.getElem?_set_ne (fun h=>e h.symm)]
theorem dE {i:Nat} (h:(ρ[i]?).join=some p):i < ρ.length:=by
 cases q:ρ[i]? with
 | none=>rw [q] at h;exact nsE h
 | some o=>exact (BK.mp q).1
theorem Wf.lowSlot (w:Wf K G H σ ρ T g) {i:Nat} (e:(ρ[i]?).join=some (d,f)):Wf K G H σ (ρ.set i (some (d,.z))) T (fun j=>if j=i then (g i).map dh else g j):=by
 have hi:=dE e
 obtain ⟨y,r,v,C,ev⟩:=w.slot e
 have val:∀ j x,(if j=i then (g i).map dh else g j)=some x->∃ x0,g j=some x0/\(x=x0\/x=dh x0)/\(j=i->x=dh x0):=fun j x h=>by
  by_cases q:j=i
  ·subst q
   rw [if_pos rfl,r] at h
   cases h
   exact ⟨y,r,.inr rfl,fun _=>rfl⟩
  ·rw [if_neg q] at h
   exact ⟨x,h,.inl rfl,fun z=>absurd z q⟩
 have t:∀ {a b:It3},NoRoot a b->∀ o m,(o=a\/o=dh a)->(m=b\/m=dh b)->NoRoot o m:=fun h o m h1 h2=>by
  rcases h1 with rfl | rfl
  ·rcases h2 with rfl | rfl
   ·exact h
   ·exact h
  ·exact cC
 refine ⟨by rw [List.length_set];exact w.len,fun j=>?_,fun j x h=>?_,fun j x h=>?_,w.okT,fun j k a b n h1 h2=>?_,fun j a h b l=>?_,w.tt,w.base,w.pro,⟨w.fx.frT,fun j x h B hf a A=>?_,w.fx.bin,w.fx.ob,fun j x h u=>?_⟩⟩
 ·rw [bL hi]
  by_cases q:j=i
  ·subst q
   rw [if_pos rfl,if_pos rfl,r]
   show some ((dh y).d,Fl.z)=_
   rw [<- v];rfl
  ·rw [if_neg q,if_neg q];exact w.sl j
 ·obtain ⟨x0,h0,c,_⟩:=val j x h
  have:=w.sv j x0 h0
  rcases c with rfl | rfl <;> exact this
 ·obtain ⟨x0,h0,c,_⟩:=val j x h
  rcases c with rfl | rfl
  ·exact w.okS j x h0
  ·exact (w.okS j x0 h0).low
 ·obtain ⟨a0,h0,p,_⟩:=val j a h1
  obtain ⟨b0,s,l,_⟩:=val k b h2
  exact t (w.ss j k a0 b0 n h0 s) a b p l
 ·obtain ⟨a0,h0,p,_⟩:=val j a h
  exact ⟨t (w.st j a0 h0 b l).1 a b p (.inl rfl),t (w.st j a0 h0 b l).2 b a (.inl rfl) p⟩
 ·obtain ⟨x0,h0,c,_⟩:=val j x h
  rcases c with rfl | rfl
  ·exact w.fx.frS j x h0 B hf a A
  ·exact absurd rfl hf
 ·obtain ⟨x0,h0,c,_⟩:=val j x h
  rcases c with rfl | rfl
  ·exact w.fx.lvS j x h0 u
  ·cases u
def Kin (x y:It3):Prop:=y.d=x.d/\y.v=x.v/\y.L=x.L/\(y.f=x.f\/y.f=.z)
theorem Kin.refl (x:It3):Kin x x:=⟨rfl,rfl,rfl,.inl rfl⟩
theorem Kin.trans (a:Kin x y) (b:Kin y z):Kin x z:=⟨b.1.trans a.1,b.2.1.trans a.2.1,b.2.2.1.trans a.2.2.1,by
 rcases b.2.2.2 with h | h
 ·rcases a.2.2.2 with h' | h'
  ·exact .inl (h.trans h')
  ·exact .inr (h.trans h')
 ·exact .inr h⟩
theorem Wf.lowAt {i:Nat} (w:Wf K G H σ ρ T g):∃ g',Wf K G H σ (lowAt i ρ) T g'/\(∀ j y,g j=some y->∃ a,g' j=some a/\Kin y a/\(j=i->a.f=.z)):=by
 have keep:∀ d,(ρ[i]?).join=some (d,.z)->∃ g',Wf K G H σ ρ T g'/\(∀ j y,g j=some y->∃ a,g' j=some a/\Kin y a/\(j=i->a.f=.z)):=fun d e=>⟨g,w,fun j y h=>⟨y,h,Kin.refl y,fun q=>by
  subst q
  obtain ⟨a,h',_,hf,_⟩:=w.slot e
  rw [h] at h';cases h';exact hf⟩⟩
 have low:∀ d f,(ρ[i]?).join=some (d,f)->∃ g',Wf K G H σ (ρ.set i (some (d,.z))) T g'/\(∀ j y,g j=some y->∃ a,g' j=some a/\Kin y a/\(j=i->a.f=.z)):=fun d f e=>⟨_,w.lowSlot e,fun j y h=>by
  by_cases q:j=i
  ·subst q;exact ⟨dh y,by rw [if_pos rfl,h];rfl,⟨rfl,rfl,rfl,.inr rfl⟩,fun _=>rfl⟩
  ·exact ⟨y,by rw [if_neg q];exact h,Kin.refl y,fun z=>absurd z q⟩⟩
 unfold L3.lowAt
 cases e:(ρ[i]?).join with
 | none =>
  refine ⟨g,w,fun j y h=>⟨y,h,Kin.refl y,fun q=>?_⟩⟩
  subst q
  have:=w.sl j
  rw [h,e] at this;cases this
 | some p =>
  obtain ⟨d,f⟩:=p
  cases f with
  | u=>exact low d _ e
  | l=>exact low d _ e
  | z=>exact keep d e
theorem Wf.frz:∀ {is:List Nat} {ρ:Sto} {g:Nat->Option It3},Wf K G H σ ρ T g->∃ g',Wf K G H σ (frz is ρ) T g'/\(∀ j y,g j=some y->∃ a,g' j=some a/\Kin y a/\(j ∈ is->a.f=.z))
 | [],ρ,g,w=>⟨g,w,fun j y h=>⟨y,h,Kin.refl y,fun q=>by cases q⟩⟩
 | i :: is,ρ,g,w=>by
  obtain ⟨g1,m,h1⟩:=w.lowAt (i:=i)
  obtain ⟨g2,e,h2⟩:=Wf.frz (is:=is) m
  refine ⟨g2,e,fun j y h=>?_⟩
  obtain ⟨k,e1,k1,b⟩:=h1 j y h
  obtain ⟨c,d,k2,l⟩:=h2 j k e1
  refine ⟨c,d,k1.trans k2,fun hm=>?_⟩
  rcases BE.mp hm with q | q
  ·rcases k2.2.2.2 with h | h
   ·exact h.trans (b q)
   ·exact h
  ·exact l q
theorem Wf.lowT (w:Wf K G H σ ρ (Ts ++ T) g):Wf K G H σ ρ (Ts.map dh ++ T) g:=by
 have sp:∀ {a b:It3},Apart3 a b->Apart3 (dh a) (dh b):=fun h=>⟨cC,cC⟩
 refine ⟨w.len,w.sl,w.sv,w.okS,fun x c=>?_,w.ss,fun i x e y k=>?_,?_,w.base,w.pro,⟨fun x c hf a j=>?_,w.fx.frS,w.fx.bin,w.fx.ob,w.fx.lvS⟩⟩
 ·rcases BH.mp c with h | h
  ·obtain ⟨x0,h0,rfl⟩:=BN.mp h
   exact (w.okT x0 (BC _ h0)).low
  ·exact w.okT x (BD _ h)
 ·rcases BH.mp k with h | h
  ·obtain ⟨y0,h0,rfl⟩:=BN.mp h
   exact ⟨(w.st i x e y0 (BC _ h0)).1,cC⟩
  ·exact w.st i x e y (BD _ h)
 ·have h:=List.pairwise_append.mp w.tt
  refine List.pairwise_append.mpr ⟨?_,h.2.1,fun a f b d=>?_⟩
  ·rw [List.pairwise_map]
   exact h.1.imp fun h=>sp h
  ·obtain ⟨a0,h0,rfl⟩:=BN.mp f
   exact ⟨cC,(h.2.2 a0 h0 b d).2⟩
 ·rcases BH.mp c with h | h
  ·obtain ⟨x0,h0,rfl⟩:=BN.mp h
   exact absurd rfl hf
  ·exact w.fx.frT x (BD _ h) hf a j
theorem lg:∀ {rs:List R3} {i:Nat},R3.pl i ∈ rs->i ∈ pls rs
 | [],_,h=>by cases h
 | .pl j :: rs,i,h=>by
  rcases BE.mp h with e | h
  ·cases e;exact By
  ·exact Bz _ (lg h)
 | .val _ _ :: rs,i,h=>by
  rcases BE.mp h with e | h
  ·cases e
  ·exact lg (rs:=rs) h
theorem Ars.given:∀ {rs:List R3} {m:List V} {Ts:List It3} {ds:List D} {S:List It3} {g':Nat->Option It3} {is:List Nat},Wf K G H σ ρ T g->(∀ j y,g j=some y->∃ b,g' j=some b/\Kin y b/\(j ∈ is->b.f=.z))->(∀ i,R3.pl i ∈ rs->i ∈ is) ->
  Ars σ rs m Ts->(∀ x ∈ Ts,x ∈ T)->(∀ x ∈ Ts,dh x ∈ S)->cO rs ρ=some (.ok ds,ρ)->∃ ys:List It3,(∀ y ∈ ys,Itm S g' y/\y.f=.z)/\ys.map (·.d)=ds/\ys.map (·.v)=m
 | [],_,_,ds,S,g',is,w,hg,hi,.nil,_,_,e=>by cases e;exact ⟨[],fun _ h=>(by cases h),rfl,rfl⟩
 | r :: rs,_,_,ds,S,g',is,w,hg,hi,.cons (v:=v0) a as,hs,hS,e=>by
  obtain ⟨d,e1,I⟩:=aW (k:=fun d=>ag (cO rs) fun ds=>a9 (d :: ds)) e
  obtain ⟨F,s,E⟩:=bE I
  cases E
  obtain ⟨ys,n,u,f4⟩:=Ars.given w hg (fun i h=>hi i (Bz _ h)) as (fun x c=>hs x (BC _ c)) (fun x c=>hS x (BC _ c)) s
  have one:∃ y,(Itm S g' y/\y.f=.z)/\y.d=d/\y.v=v0:=by
   cases a with
   | @pl i v h =>
    have A:der (.pl i) ρ=((ρ[i]?).join).map fun p=>(.ok p.1,ρ):=rfl
    rw [A] at e1
    cases q:(ρ[i]?).join with
    | none=>rw [q] at e1;exact nsE e1
    | some p =>
     rw [q] at e1
     obtain ⟨y,t,o,J,l⟩:=w.slot (d:=p.1) (f:=p.2) q
     obtain ⟨b,h1,h2,h3⟩:=hg i y t
     have C:p.1=d:=by cases e1;rfl
     rw [h] at l
     refine ⟨b,⟨.inl ⟨i,h1⟩,h3 (hi i By)⟩,h2.1.trans (o.trans C),?_⟩
     rw [h2.2.1];cases l;rfl
   | val x=>cases e1;exact ⟨dh x,⟨.inr (hS x (by simp)),rfl⟩,rfl,rfl⟩
  obtain ⟨y,B,f1,f2⟩:=one
  refine ⟨y :: ys,fun z hz=>?_,by simp [f1,u],by simp [f2,f4]⟩
  rcases BE.mp hz with h | hz
  ·rw [h];exact B
  ·exact n z hz
def cQ (ys:List It3) (c:Addr):Prop:=∃ y ∈ ys,c ∈ y.L
def gives (rs:List R3):M3 (List D):=ag (cO rs) fun ds=>ag (ua (pls rs)) fun _=>a9 ds
theorem Ars.gives (w:Wf K G H σ ρ (Ts ++ T) g) (a:Ars σ rs vs Ts) (e:ag (gives rs) k ρ=some (r,ρ')) :
  ∃ ds ρ1 g1,k ds ρ1=some (r,ρ')/\ρ1=frz (pls rs) ρ/\Wf K G H σ ρ1 (Ts.map dh ++ T) g1/\(∀ j y,g j=some y->∃ c,g1 j=some c/\Kin y c)/\∃ ys:List It3,(∀ y ∈ ys,Itm (Ts.map dh ++ T) g1 y/\y.f=.z)/\ys.map (·.d)=ds/\ys.map (·.v)=vs:=by
 unfold L3.gives at e
 have m:ag (cO rs) (fun ds=>ag (ua (pls rs)) fun _=>k ds) ρ=some (r,ρ'):=by
  rw [<- e]
  unfold ag
  cases q:cO rs ρ with
  | none=>rfl
  | some p =>
   obtain ⟨o,ρ2⟩:=p
   cases o with
   | error x=>rfl
   | ok ds=>rfl
 obtain ⟨ds,s,e1⟩:=bE m
 obtain ⟨g1,n,h1⟩:=Wf.frz (is:=pls rs) w
 refine ⟨ds,L3.frz (pls rs) ρ,g1,e1,rfl,n.lowT,fun j y h=>let ⟨c,a,b,_⟩:=h1 j y h;⟨c,a,b⟩,?_⟩
 exact Ars.given w h1 (fun i h=>lg h) a (fun x l=>BC _ l) (fun x l=>BC _ (BN.mpr ⟨x,l,rfl⟩)) s
theorem Wf.alls (w:Wf K G H σ ρ T g) (a:∀ y ∈ ys,Itm T g y/\y.f=.z) (h:cQ ys c):dH T g c/\(G.H0 c=none\/G.src c):=by
 obtain ⟨y,m,b⟩:=h
 exact ⟨w.kid (a y m).1 b fun hf=>absurd (a y m).2 hf,(w.itm (a y m).1).src c b⟩
theorem Wf.doneA (w:Wf K G H σ ρ (Us ++ T) g) (a:∀ y ∈ ys,Itm (Us ++ T) g y/\y.f=.z) (n:New K H H' (cQ ys) x):Got K G σ ρ T (.val x.d x.f) x.v H' :=
 ⟨[x],g,(w.push n fun c h=>w.alls a h).sub (by simpa using List.Sublist.cons_cons x (BM Us T)),.val x⟩
theorem lb:∀ {ys:List It3},(∀ y ∈ ys,Rep K H y.d y.v y.L)->Reps (Rep K H) (ys.map (·.d)) (ys.map (·.v)) (ys.map (·.L)).flatten
 | [],_=>.nil
 | y :: ys,h=>.cons (h y By) (lb fun z hz=>h z (Bz _ hz))
theorem eT (h:c ∈ (ys.map (·.L)).flatten):cQ ys c:=by
 obtain ⟨l,b,d⟩:=List.mem_flatten.mp h
 obtain ⟨y,a,rfl⟩:=BN.mp b
 exact ⟨y,a,d⟩
noncomputable def p9 (mk:List D->D) (f:Fl) (ms:M3 (List R3)):EM:=ag ms fun rs=>ag (gives rs) fun ds=>ba (if ds.length<=16777216 then some (.val (mk ds) f) else none)
abbrev dS:M3 (List R3)->EM:=p9 .tup .z
abbrev iA:M3 (List R3)->EM:=p9 .lst .u
theorem bB (h:H p=none):Same H (upd H p o):=fun b u e=>by
 rw [aB (aT e h)];exact e
theorem zI (hz:(16777216:Nat)=sizeLine) (h:tE K G0 W0 (dS ms) σ H Q):tTup (tA K G0 W0 ms) σ H Q:=by
 refine h.use fun G W le ρ T g o ρ' w e q=>?_
 refine tA.seq le w e q.err fun rs ρ1 e1 r H1 Ts g1 n a1=>?_
 obtain ⟨ds,ρ2,g2,m,_,f,_,ys,j,f1,f2⟩:=a1.gives n e1
 obtain ⟨v,b,rfl,rfl⟩:=bI m
 subst f1 f2
 split at b
 ·rename_i k
  cases b
  refine ⟨by rw [BJ] at k ⊢;omega,fun p i=>?_⟩
  refine q _ _ (Wf.doneA (x:=⟨.tup (ys.map (·.d)),.ref p,(ys.map (·.L)).flatten,.z⟩) f j ⟨bB i,.tup aV ((lb fun y a=>(f.itm (j y a).1).rep).same (bB i)),fun c l=>.inr (eT l),fun hf=>absurd rfl hf⟩)
 ·exact nsE b
theorem zL (hz:(16777216:Nat)=sizeLine) (h:tE K G0 W0 (iA ms) σ H Q):tLst (tA K G0 W0 ms) σ H Q:=by
 refine h.use fun G W le ρ T g o ρ' w e q=>?_
 refine tA.seq le w e q.err fun rs ρ1 e1 s H1 Ts g1 r a1=>?_
 obtain ⟨ds,ρ2,g2,n,_,j,_,ys,k,f1,f2⟩:=a1.gives r e1
 obtain ⟨v,i,rfl,rfl⟩:=bI n
 subst f1 f2
 split at i
 ·rename_i m
  cases i
  refine ⟨by rw [BJ] at m ⊢;omega,fun p b=>?_⟩
  have np:p ∉ (ys.map (·.L)).flatten:=fun a=>by
   obtain ⟨y,hm,a⟩:=eT a
   obtain ⟨o,l⟩:=((j.itm (k y hm).1).rep.inH p a).ex
   rw [b] at l;exact nsE l
  refine q _ _ (Wf.doneA (x:=⟨.lst (ys.map (·.d)),.ref p,p :: (ys.map (·.L)).flatten,.u⟩) j k ⟨bB b,.lst aV ((lb fun y f=>(j.itm (k y f).1).rep).same (bB b)),fun c a=>?_,fun _=>⟨rfl,p,_,rfl,rfl,np,b⟩⟩)
  rcases BE.mp a with e | a
  ·rw [e];exact .inl b
  ·exact .inr (eT a)
 ·exact nsE i
end
end L3
end
section
namespace L3
open PySem L2
section
variable {K:FG} {G G0:Gm} {W W0:D->Sto->Prop} {H H':Hp} {σ:St} {ρ ρ':Sto} {T T':List It3} {g:Nat->Option It3} {x y z:It3} {α β:Type}
def EndS (K:FG) (G:Gm) (W:D->Sto->Prop) (T:List It3) (ρ':Sto) (E:Ends):Except D Flw->Prop
 | .ok .nx=>∀ σ' H' g',Wf K G H' σ' ρ' T g'->E.nx σ' H'
 | .ok .br=>∀ σ' H' g',Wf K G H' σ' ρ' T g'->E.bk σ' H'
 | .ok .ct=>∀ σ' H' g',Wf K G H' σ' ρ' T g'->E.ct σ' H'
 | .ok (.rt d f)=>∀ x σ' H' g',Wf K G H' σ' ρ' (x :: T) g'->x.d=d->x.f=f->E.rt x.v H'
 | .error e=>W e ρ'
theorem EndS.err (h:EndS K G W T ρ' E r):∀ x,r=.error x->W x ρ':=by
 intro x e;subst e;exact h
theorem tS.open (h:tS K G0 W0 m E σ H):∃ G W,Le K G W G0 W0/\∃ ρ T g r ρ',Wf K G H σ ρ T g/\m ρ=some (r,ρ')/\EndS K G W T ρ' E r:=by
 obtain ⟨G,W,le,ρ,T,g,r,ρ',w,e,q⟩:=h
 refine ⟨G,W,le,ρ,T,g,r,ρ',w,e,?_⟩
 cases r with
 | ok r=>cases r <;> exact q
 | error x=>exact q
theorem tS.use (h:tS K G0 W0 m E σ H) {P:Prop} (k:∀ G W,Le K G W G0 W0->∀ ρ T g r ρ',Wf K G H σ ρ T g->m ρ=some (r,ρ')->EndS K G W T ρ' E r->P):P:=by
 obtain ⟨G,W,le,ρ,T,g,r,ρ',w,e,q⟩:=h.open
 exact k G W le ρ T g r ρ' w e q
theorem tS.mk (le:Le K G W G0 W0) (w:Wf K G H σ ρ T g) (e:m ρ=some (r,ρ')) (h:EndS K G W T ρ' E r):tS K G0 W0 m E σ H:=by
 refine ⟨G,W,le,ρ,T,g,r,ρ',w,e,?_⟩
 cases r with
 | ok r=>cases r <;> exact h
 | error x=>exact h
def fV:SM:=a9 .nx
noncomputable def aJ (a b:SM):SM:=ag a fun f=>match f with
 | .nx=>b
 | o=>a9 o
theorem zD (h:tS K G0 W0 fV E σ H):yR E σ H:=by
 refine h.use fun G W le ρ T g r ρ' w e q=>?_
 cases e
 exact q _ _ _ w
theorem zB (h:tS K G0 W0 (aJ a b) E σ H):zx (tS K G0 W0 a) (tS K G0 W0 b) E σ H:=by
 refine h.use fun G W le ρ T g r ρ' w e q=>?_
 unfold aJ ag at e
 cases p:a ρ with
 | none=>rw [p] at e;exact nsE e
 | some p' =>
  obtain ⟨o,ρ1⟩:=p'
  rw [p] at e
  cases o with
  | error x=>cases e;exact tS.mk le w p q
  | ok f =>
   cases f with
   | nx=>exact tS.mk le (r:=.ok .nx) w p fun σ' H' g' c=>tS.mk le c e q
   | br=>cases e;exact tS.mk le w p q
   | ct=>cases e;exact tS.mk le w p q
   | rt d f=>cases e;exact tS.mk le w p q
def aH (m:EM):SM:=ag m fun _=>a9 .nx
theorem xb (h:tS K G0 W0 (aH m) E σ H):yS (tE K G0 W0 m) E σ H:=by
 refine h.use fun G W le ρ T g r ρ' w e q=>?_
 refine tE.seq le w e q.err fun ra ρ1 e1 v H1 ⟨Ts,g1,a,a1⟩=>?_
 cases e1
 exact q _ _ _ (a.sub (BM Ts T))
def sIf (c:M3 Bool) (a b:SM):SM:=ag c fun t=>if t then a else b
theorem tS_if (h:tS K G0 W0 (sIf c a b) E σ H):tIfS (tT K G0 W0 c) (tS K G0 W0 a) (tS K G0 W0 b) E σ H:=by
 refine h.use fun G W le ρ T g r ρ' w e q=>?_
 refine tT.seq le w e q.err fun t ρ1 e1 H1 g1 d=>?_
 cases t with
 | true=>exact tS.mk le d e1 q
 | false=>exact tS.mk le d e1 q
def nol:Fl->Fl
 | .u=>.u
 | _=>.z
theorem AQ (f:Fl):nol f ≠ .l:=by cases f <;> intro h <;> cases h
theorem AO (f:Fl):nol f=f\/nol f=.z:=by cases f <;> first | exact .inl rfl | exact .inr rfl
noncomputable def dP (r:R3):M3 (D × Fl):=match r with
 | .val d f=>a9 (d,nol f)
 | .pl i=>fun ρ=>((ρ[i]?).join).map fun p=>(.ok (p.1,.z),lowAt i ρ)
theorem pq {i:Nat}:dP (.pl i) ρ=((ρ[i]?).join).map fun p=>(.ok (p.1,.z),lowAt i ρ):=rfl
theorem Ar.val_inv (a:Ar σ (.val d f) v Ts):∃ x,Ts=[x]/\x.d=d/\x.f=f/\x.v=v:=by
 generalize h:R3.val d f=r at a
 cases a with
 | pl _=>cases h
 | val x=>cases h;exact ⟨x,rfl,rfl,rfl,rfl⟩
theorem Ar.take (w:Wf K G H σ ρ (Ts ++ T) g) (a:Ar σ r v Ts) (e:ag (dP r) k ρ=some (o,ρ')) :
  ∃ p ρ1 g1 x,k p ρ1=some (o,ρ')/\Wf K G H σ ρ1 (x :: T) g1/\x.d=p.1/\(p.2=x.f\/p.2=.z)/\p.2 ≠ .l/\x.v=v:=by
 cases a with
 | val x=>exact ⟨(x.d,nol x.f),ρ,g,x,e,w,rfl,AO _,AQ _,rfl⟩
 | @pl i v h =>
  unfold ag at e
  rw [pq] at e
  cases q:(ρ[i]?).join with
  | none=>rw [q] at e;exact nsE e
  | some p =>
   rw [q] at e
   obtain ⟨y,F,E,J,t⟩:=w.slot (d:=p.1) (f:=p.2) q
   obtain ⟨g1,b,h1⟩:=w.lowAt (i:=i)
   obtain ⟨c,m,B,D⟩:=h1 i y F
   have hz:=D rfl
   refine ⟨(p.1,.z),_,g1,c,e,?_,B.1.trans E,.inr rfl,(by intro h;cases h),?_⟩
   ·have s:∀ u:It3,NoRoot c u:=fun u hf=>absurd hz hf
    refine ⟨b.len,b.sl,b.sv,b.okS,fun u hu=>?_,b.ss,fun j u n C hu=>?_,?_,b.base,b.pro,⟨fun u hu hf a I=>?_,b.fx.frS,b.fx.bin,b.fx.ob,b.fx.lvS⟩⟩
    ·rcases BE.mp hu with h | hu
     ·rw [h];exact b.okS i c m
     ·exact b.okT u hu
    ·rcases BE.mp hu with h | hu
     ·rw [h]
      refine ⟨?_,s _⟩
      by_cases A:j=i
      ·subst A
       rw [m] at n;cases n
       exact s _
      ·exact b.ss j i u c A n m
     ·exact b.st j u n C hu
    ·exact List.pairwise_cons.mpr ⟨fun u hu=>⟨s _,(b.st i c m u hu).2⟩,b.tt⟩
    ·rcases BE.mp hu with h | hu
     ·rw [h] at hf;exact absurd hz hf
     ·exact b.fx.frT u hu hf a I
   ·rw [B.2.1]
    rw [h] at t;cases t;rfl
theorem Wf.store {i:Nat} (w:Wf K G H σ ρ (x :: T) g) (hi:i < ρ.length) (J:G.pr i=false) (hf:f=x.f\/f=.z) (s:f ≠ .l) :
  Wf K G H (σ.set i (some x.v)) (ρ.set i (some (x.d,f))) T (fun j=>if j=i then some { x with f:=f } else g j):=by
 have C:i < σ.length:=by rw [w.len];exact hi
 have B:=List.pairwise_cons.mp w.tt
 have y:=w.okT x By
 have nx:∀ u:It3,NoRoot x u->NoRoot { x with f:=f } u:=fun u h q=>by
  rcases hf with e | e
  ·exact h (by rw [<- e];exact q)
  ·exact absurd e q
 have val:∀ j u,(if j=i then some { x with f:=f } else g j)=some u->(j=i/\u = { x with f:=f })\/(j ≠ i/\g j=some u):=fun j u h=>by
  by_cases q:j=i
  ·rw [if_pos q] at h;cases h;exact .inl ⟨q,rfl⟩
  ·rw [if_neg q] at h;exact .inr ⟨q,h⟩
 refine ⟨by rw [List.length_set,List.length_set];exact w.len,fun j=>?_,fun j u h=>?_,fun j u h=>?_,fun u hu=>w.okT u (Bz _ hu),fun j k a b n h1 h2=>?_,fun j a h b r=>?_,B.2,w.base,fun j t=>?_,⟨fun u hu=>w.fx.frT u (Bz _ hu),fun j u h A c a p=>?_,w.fx.bin,w.fx.ob,fun j u h D=>?_⟩⟩
 ·rw [bL hi]
  by_cases q:j=i
  ·rw [if_pos q,if_pos q];rfl
  ·rw [if_neg q,if_neg q];exact w.sl j
 ·rcases val j u h with ⟨rfl,rfl⟩ | ⟨n,h⟩
  ·rw [List.getElem?_set_self C]
  ·rw [List.getElem?_set_ne (fun z=>n z.symm)];exact w.sv j u h
 ·rcases val j u h with ⟨rfl,rfl⟩ | ⟨n,h⟩
  ·refine ⟨y.rep,fun q=>?_,y.src⟩
   rcases hf with e | e
   ·subst e
    exact y.own q
   ·exact absurd e q
  ·exact w.okS j u h
 ·rcases val j a h1 with ⟨L,p⟩ | ⟨M,o⟩
  ·rcases val k b h2 with ⟨E,F⟩ | ⟨I,m⟩
   ·exact absurd (L.trans E.symm) n
   ·rw [p];exact nx b (w.st k b m x By).2
  ·rcases val k b h2 with ⟨E,F⟩ | ⟨I,m⟩
   ·rw [F];exact (w.st j a o x By).1
   ·exact w.ss j k a b n o m
 ·rcases val j a h with ⟨rfl,rfl⟩ | ⟨n,h⟩
  ·exact ⟨nx b (B.1 b r).1,(B.1 b r).2⟩
  ·exact w.st j a h b (Bz _ r)
 ·have n:j ≠ i:=fun z=>by subst z;rw [J] at t;cases t
  rw [List.getElem?_set_ne (fun z=>n z.symm)];exact w.pro j t
 ·rcases val j u h with ⟨_,rfl⟩ | ⟨n,h⟩
  ·rcases hf with e | e
   ·exact w.fx.frT x By (by rw [<- e];exact c) a p
   ·exact absurd e c
  ·exact w.fx.frS j u h A c a p
 ·rcases val j u h with ⟨_,rfl⟩ | ⟨n,h⟩
  ·exact absurd D s
  ·exact w.fx.lvS j u h D
def bb (i:Nat) (m:EM):SM:=ag m fun r=>ag (dP r) fun p=>fun ρ=>if i < ρ.length then some (.ok .nx,ρ.set i (some p)) else none
theorem zA {i:Nat} (d:G0.pr i=false) (h:tS K G0 W0 (bb i m) E σ H):uL (tE K G0 W0 m) (sK i) E σ H:=by
 refine h.use fun G W le ρ T g r ρ' w e q=>?_
 refine tE.seq le w e q.err fun ra ρ1 e1 v H1 ⟨Ts,g1,j,a1⟩=>?_
 obtain ⟨p,ρ2,g2,x,a,c,f1,f2,f4,b⟩:=a1.take j e1
 split at a
 ·rename_i hi
  cases a
  have:=c.store (f:=p.2) hi (by rw [le.pr];exact d) f2 f4
  rw [f1,b] at this
  exact q _ _ _ this
 ·exact nsE a
def bc (np:Nat) (m:EM):SM:=ag m fun r=>match r with
 | .val d f=>a9 (.rt d f)
 | .pl i=>fun ρ=>match (ρ[i]?).join with
  | some (d,.u)=>if i < np then some (.ok (.rt d .z),lowAt i ρ) else some (.ok (.rt d .u),ρ.set i none)
  | some (d,_)=>some (.ok (.rt d .z),lowAt i ρ)
  | none=>none
def rY:SM:=a9 (.rt .non .z)
theorem Wf.move {i:Nat} (w:Wf K G H σ ρ T g) (f:G.pr i=false) (e:g i=some y):Wf K G H σ (ρ.set i none) (y :: T) (fun j=>if j=i then none else g j):=by
 have hi:i < ρ.length:=by
  have:=w.sl i
  rw [e] at this
  exact dE this.symm
 have val:∀ j u,(if j=i then none else g j)=some u->j ≠ i/\g j=some u:=fun j u h=>by
  by_cases q:j=i
  ·rw [if_pos q] at h;exact nsE h
  ·rw [if_neg q] at h;exact ⟨q,h⟩
 refine ⟨by rw [List.length_set];exact w.len,fun j=>?_,fun j u h=>w.sv j u (val j u h).2,fun j u h=>w.okS j u (val j u h).2,fun u hu=>?_,fun j k a b n h1 h2=>w.ss j k a b n (val j a h1).2 (val k b h2).2,fun j a h b c=>?_,?_,w.base,w.pro,⟨fun u hu hf a d=>?_,fun j u h=>w.fx.frS j u (val j u h).2,w.fx.bin,w.fx.ob,fun j u h=>w.fx.lvS j u (val j u h).2⟩⟩
 ·rw [bL hi]
  by_cases q:j=i
  ·rw [if_pos q,if_pos q];rfl
  ·rw [if_neg q,if_neg q];exact w.sl j
 ·rcases BE.mp hu with h | hu
  ·rw [h];exact w.okS i y e
  ·exact w.okT u hu
 ·obtain ⟨n,h⟩:=val j a h
  rcases BE.mp c with h' | c
  ·rw [h'];exact ⟨w.ss j i a y n h e,w.ss i j y a (Ne.symm n) e h⟩
  ·exact w.st j a h b c
 ·exact List.pairwise_cons.mpr ⟨fun u hu=>w.st i y e u hu,w.tt⟩
 ·rcases BE.mp hu with h | hu
  ·subst h;exact w.fx.frS i u e f hf a d
  ·exact w.fx.frT u hu hf a d
theorem zC {np:Nat} (n:∀ i,np<=i->G0.pr i=false) (h:tS K G0 W0 (bc np m) E σ H):tRet (tE K G0 W0 m) E σ H:=by
 refine h.use fun G W le ρ T g r ρ' w e q=>?_
 refine tE.seq le w e q.err fun ra ρ1 e1 v H1 ⟨Ts,g1,k,a1⟩=>?_
 have low:∀ {i:Nat} {d:D} {f:Fl},(ρ1[i]?).join=some (d,f)->some ((.ok (.rt d .z),lowAt i ρ1):Except D Flw × Sto)=some (r,ρ')->Ar σ (.pl i) v Ts->E.rt v H1:=fun {i d f} b L a=>by
  cases L
  have C:ag (dP (.pl i)) (fun p=>a9 (Flw.rt p.1 p.2)) ρ1=some (.ok (.rt d .z),L3.lowAt i ρ1):=by
   unfold ag
   rw [pq,b]
   rfl
  obtain ⟨p,ρ2,g2,x,j,s,f1,f2,_,I⟩:=a.take k C
  have c:Flw.rt p.1 p.2=Flw.rt d .z/\ρ2=L3.lowAt i ρ1:=by
   unfold a9 at j
   injection j with j
   injection j with c o
   injection c with c
   exact ⟨c,o⟩
  obtain ⟨c,o⟩:=c
  injection c with e7 e8
  subst o
  rw [<- I]
  have J:=Wf.lowT (Ts:=[x]) s
  exact q (dh x) σ H1 g2 J (f1.trans e7) rfl
 cases a1 with
 | val x=>cases e1;exact q x σ H1 g1 k rfl rfl
 | @pl i v h =>
  dsimp only at e1
  cases b:(ρ1[i]?).join with
  | none=>rw [b] at e1;exact nsE e1
  | some p =>
   obtain ⟨d,f⟩:=p
   rw [b] at e1
   cases f with
   | u =>
    dsimp only at e1
    split at e1
    ·exact low b e1 (.pl h)
    ·cases e1
     obtain ⟨y,F,B,A,t⟩:=k.slot b
     have s:=Wf.move k (by rw [le.pr];exact n i (by omega)) F
     have:=q y σ H1 _ s B A
     rw [h] at t
     cases t
     exact this
   | l=>exact low b e1 (.pl h)
   | z=>exact low b e1 (.pl h)
def bT (c:M3 Bool) (b:SM):Nat->SM
 | 0=>fun _=>none
 | n+1=>ag c fun t=>if t then ag b (fun f=>match f with
   | .nx=>bT c b n
   | .ct=>bT c b n
   | .br=>a9 .nx
   | .rt d f=>a9 (.rt d f)) else a9 .nx
def fU (c:M3 Bool) (b:SM):SM:=fun ρ=>open Classical in if h:∃ n r,bT c b n ρ=some r then some (Classical.choose (Classical.choose_spec h)) else none
theorem fQ:∀ {n:Nat} {ρ:Sto} {r:Except D Flw × Sto},bT c b n ρ=some r->bT c b (n+1) ρ=some r
 | 0,ρ,r,e=>by cases e
 | n+1,ρ,r,e=>by
  unfold bT at e ⊢
  unfold ag at e ⊢
  cases h:c ρ with
  | none=>rw [h] at e;exact nsE e
  | some p =>
   obtain ⟨o,ρ1⟩:=p
   rw [h] at e
   cases o with
   | error x=>exact e
   | ok t =>
    cases t with
    | false=>exact e
    | true =>
     simp only [if_true] at e ⊢
     cases h2:b ρ1 with
     | none=>rw [h2] at e;exact nsE e
     | some p2 =>
      obtain ⟨a,ρ2⟩:=p2
      rw [h2] at e
      cases a with
      | error x=>exact e
      | ok f =>
       cases f with
       | nx=>exact fQ (n:=n) e
       | ct=>exact fQ (n:=n) e
       | br=>exact e
       | rt d f=>exact e
theorem jC {n m:Nat} (h:n<=m) (e:bT c b n ρ=some r):bT c b m ρ=some r:=by
 induction h with
 | refl=>exact e
 | step _ ih=>exact fQ ih
theorem pC (e:fU c b ρ=some r):∃ n,bT c b n ρ=some r:=by
 unfold fU at e
 split at e
 ·rename_i h
  have a:=Classical.choose_spec (Classical.choose_spec h)
  injection e with e
  exact ⟨Classical.choose h,by rw [<- e];exact a⟩
 ·exact nsE e
theorem uG (h:tS K G0 W0 (fU c b) E σ H):uF (tT K G0 W0 c) (tS K G0 W0 b) E σ H:=by
 refine h.use fun G W le ρ T g r ρ' w e q=>?_
 obtain ⟨n,e⟩:=pC e
 refine ⟨fun m σ H=>∃ ρ g,Wf K G H σ ρ T g/\bT c b m ρ=some (r,ρ'),⟨n,ρ,g,w,e⟩,?_⟩
 rintro m σ1 H1 ⟨ρ1,g1,k,e1⟩
 cases m with
 | zero=>exact nsE e1
 | succ m =>
  unfold bT at e1
  refine tT.seq le k e1 q.err fun t ρ2 a H2 g2 i=>?_
  cases t with
  | false=>cases a;exact q _ _ _ i
  | true =>
   refine ⟨fun σ H=>∃ ρ g,Wf K G H σ ρ T g/\bT c b m ρ=some (r,ρ'),fun σ' H' h=>⟨m,Nat.lt_succ_self m,h⟩,?_⟩
   simp only [if_true] at a
   unfold ag at a
   cases p:b ρ2 with
   | none=>rw [p] at a;exact nsE a
   | some p2 =>
    obtain ⟨o,ρ3⟩:=p2
    rw [p] at a
    cases o with
    | error x=>cases a;exact tS.mk le i p q
    | ok f =>
     cases f with
     | nx=>exact tS.mk le (r:=.ok .nx) i p fun σ' H' g' j=>⟨ρ3,g',j,a⟩
     | ct=>exact tS.mk le (r:=.ok .ct) i p fun σ' H' g' j=>⟨ρ3,g',j,a⟩
     | br=>cases a;exact tS.mk le (r:=.ok .br) i p q
     | rt d f=>cases a;exact tS.mk le (r:=.ok (.rt d f)) i p q
end
end L3
end
section
namespace L3
open PySem L2
abbrev Fn:=List (D × Fl)->Option (Except D (D × Fl) × List (D × Fl))
def prs (ρ:Sto):List R3->Option (List (D × Fl))
 | []=>some []
 | .pl i :: rs=>match (ρ[i]?).join,prs ρ rs with
  | some p,some ps=>some (p :: ps)
  | _,_=>none
 | .val d f :: rs=>match prs ρ rs with
  | some ps=>some ((d,f) :: ps)
  | _=>none
def eM (rs:List R3):List Nat:=(pls rs).filter fun i=>decide (2<=(pls rs).count i)
def back:List R3->List (D × Fl)->List (D × Fl)->Sto->Sto
 | .pl i :: rs,p :: ps,q :: qs,ρ=>back rs ps qs (if p.2=.z then ρ else ρ.set i (some (q.1,if q.2=.z then .z else p.2)))
 | .val _ _ :: rs,_ :: ps,_ :: qs,ρ=>back rs ps qs ρ
 | _,_,_,ρ=>ρ
def aC (F:Fn) (ms:M3 (List R3)):EM:=ag ms fun rs=>fun ρ=>match prs (frz (eM rs) ρ) rs with
 | none=>none
 | some ps=>match F ps with
  | none=>none
  | some (.ok p,qs)=>if qs.length=ps.length then some (.ok (.val p.1 p.2),back rs ps qs (frz (eM rs) ρ)) else none
  | some (.error e,qs)=>if qs.length=ps.length then some (.error e,back rs ps qs (frz (eM rs) ρ)) else none
section
variable {K:FG} {G G0:Gm} {W W0:D->Sto->Prop} {H H':Hp} {σ:St} {ρ ρ':Sto} {T T':List It3} {g:Nat->Option It3} {x y z:It3} {α β:Type}
structure Back1 (K:FG) (H H':Hp) (ps:List It3) (p q:It3):Prop where
 z:p.f=.z->q=p
 v:q.v=p.v
 f:q.f=p.f\/q.f=.z
 arg:Arg K H' q
 src:∀ c ∈ q.L,H c=none\/cQ ps c
 there:p.f=.u->∀ b,p.v=.ref b->∃ o,H' b=some o
structure BehindX (K:FG) (H H':Hp) (ps qs:List It3):Prop where
 frame:∀ b o,H b=some o->(∀ p ∈ ps,p.f=.u->p.v ≠ .ref b)->H' b=some o
 back:Paired (Back1 K H H' ps) ps qs
 apart:qs.Pairwise Apart3
structure Behind (K:FG) (H H':Hp) (ps qs:List It3) (x:It3):Prop extends BehindX K H H' ps qs where
 rep:Rep K H' x.d x.v x.L
 own:x.f ≠ .z->je x.d=true/\∃ a L',x.v=.ref a/\x.L=a :: L'/\a ∉ L'/\H a=none
 src:∀ c ∈ x.L,H c=none\/cQ ps c
 apx:∀ q ∈ qs,Apart3 x q
def spF (XA:D->Value->Option Addr->Hp->Prop) (K:FG) (F:Fn):Sp:=fun a H Q E=>∃ (ps:List It3) (o:Except D (D × Fl)) (fs:List (D × Fl)),a=ps.map (·.v)/\(∀ p ∈ ps,Arg K H p)/\ps.Pairwise Apart3/\F (ps.map fun p=>(p.d,p.f))=some (o,fs)/\match o with
 | .ok p=>∀ x qs H',Behind K H H' ps qs x->x.d=p.1->x.f=p.2->qs.map (fun q=>(q.d,q.f))=fs->Q x.v H'
 | .error e=>∀ qs H' cls da,BehindX K H H' ps qs->qs.map (fun q=>(q.d,q.f))=fs->XA e cls da H'->E cls da H'
theorem Ars.args:∀ {rs:List R3} {F:List V} {Ts T:List It3} {c:List (D × Fl)},Ars σ rs F Ts->Wf K G H σ ρ (Ts ++ T) g->(∀ i,2<=(pls rs).count i->∀ y,g i=some y->y.f=.z)->prs ρ rs=some c ->
  ∃ ps:List It3,ps.map (fun p=>(p.d,p.f))=c/\ps.map (·.v)=F/\ps.Pairwise Apart3/\(∀ p ∈ ps,(∃ i,R3.pl i ∈ rs/\g i=some p)\/p ∈ Ts)/\Paired (fun r p=>match r with | .pl i=>g i=some p | .val _ _=>p ∈ Ts) rs ps
 | [],_,_,T,c,.nil,w,_,e=>by cases e;exact ⟨[],rfl,rfl,.nil,fun _ h=>(by cases h),.nil⟩
 | r :: rs,_,_,T,c,.cons (v:=v0) (Ts:=T0) (Us:=U0) a as,w,hd,e=>by
  have C:Wf K G H σ ρ (U0 ++ (T0 ++ T)) g:=by rw [<- List.append_assoc];exact w
  have o:∀ i,2<=(pls rs).count i->∀ y,g i=some y->y.f=.z:=fun i s=>hd i (by
   cases r with
   | pl j=>show 2<=(j :: pls rs).count i;rw [List.count_cons];omega
   | val _ _=>exact s)
  cases a with
  | @pl i v h =>
   unfold prs at e
   cases q:(ρ[i]?).join with
   | none=>rw [q] at e;exact nsE e
   | some p0 =>
    cases l:prs ρ rs with
    | none=>rw [q,l] at e;exact nsE e
    | some pfs' =>
     rw [q,l] at e
     cases e
     obtain ⟨ps,f1,f2,A,f4,B⟩:=Ars.args as C o l
     obtain ⟨y,m,J,I,E⟩:=w.slot (d:=p0.1) (f:=p0.2) q
     have L:y.v=v0:=by rw [h] at E;cases E;rfl
     refine ⟨y :: ps,by rw [BTz,f1,J,I],by rw [BTz,f2,L],List.pairwise_cons.mpr ⟨fun p b=>?_,A⟩,fun p b=>?_,.cons m ?_⟩
     ·rcases f4 p b with ⟨j,n,k⟩ | b
      ·by_cases t:i=j
       ·subst t
        have s:2<=(pls (R3.pl i :: rs)).count i:=by
         show 2<=(i :: pls rs).count i
         rw [List.count_cons_self]
         have:=List.count_pos_iff.mpr (lg n)
         omega
        have hz:=hd i s y m
        have u:=hd i s p k
        exact ⟨fun q=>absurd hz q,fun q=>absurd u q⟩
       ·exact ⟨w.ss i j y p t m k,w.ss j i p y (Ne.symm t) k m⟩
      ·exact w.st i y m p (BC _ (BC _ b))
     ·rcases BE.mp b with h' | b
      ·rw [h'];exact .inl ⟨i,By,m⟩
      ·rcases f4 p b with ⟨j,n,k⟩ | b
       ·exact .inl ⟨j,Bz _ n,k⟩
       ·exact .inr (BC _ b)
     ·exact Paired.mapP B fun r p h=>by
       cases r with
       | pl j=>exact h
       | val _ _=>exact BC _ h
  | val x =>
   unfold prs at e
   cases l:prs ρ rs with
   | none=>rw [l] at e;exact nsE e
   | some pfs' =>
    rw [l] at e
    cases e
    obtain ⟨ps,f1,f2,A,f4,B⟩:=Ars.args as C o l
    refine ⟨x :: ps,by rw [BTz,f1],by rw [BTz,f2],List.pairwise_cons.mpr ⟨fun p b=>?_,A⟩,fun p b=>?_,.cons (BD _ By) ?_⟩
    ·rcases f4 p b with ⟨j,n,k⟩ | b
     ·exact (w.st j p k x (BC _ (BD _ By))).symm
     ·have t1:=(List.pairwise_append.mp w.tt).1
      exact ((List.pairwise_append.mp t1).2.2 p b x By).symm
    ·rcases BE.mp b with h' | b
     ·rw [h'];exact .inr (BD _ By)
     ·rcases f4 p b with ⟨j,n,k⟩ | b
      ·exact .inl ⟨j,Bz _ n,k⟩
      ·exact .inr (BC _ b)
    ·exact Paired.mapP B fun r p h=>by
      cases r with
      | pl j=>exact h
      | val _ _=>exact BC _ h
theorem fB:∀ {rs:List R3} {ps qs:List It3} {ρ:Sto} {g:Nat->Option It3},(∀ j,(g j).map (fun x=>(x.d,x.f))=(ρ[j]?).join)->rs.length=ps.length->Paired (Back1 K H H' T) ps qs->(∀ i,R3.pl i ∈ rs->i < ρ.length) ->
  ∃ g':Nat->Option It3,(∀ j,(g' j).map (fun x=>(x.d,x.f))=((back rs (ps.map fun p=>(p.d,p.f)) (qs.map fun q=>(q.d,q.f)) ρ)[j]?).join)/\(back rs (ps.map fun p=>(p.d,p.f)) (qs.map fun q=>(q.d,q.f)) ρ).length = ρ.length /\
   ∀ j:Nat,(g' j=g j/\∀ (k:Nat) (p:It3),rs[k]?=some (R3.pl j)->ps[k]?=some p->p.f=.z)\/∃ (k:Nat) (p q:It3),rs[k]?=some (R3.pl j)/\ps[k]?=some p/\qs[k]?=some q/\p.f ≠ .z/\g' j=some q
 | [],[],_,ρ,g,hg,_,.nil,_=>⟨g,hg,rfl,fun j=>.inl ⟨rfl,fun k p h=>by simp at h⟩⟩
 | [],_ :: _,_,_,_,_,h,_,_=>by cases h
 | _ :: _,[],_,_,_,_,h,_,_=>by cases h
 | .val d f :: rs,p :: ps,_,ρ,g,hg,hl,.cons (b:=q) (l₂:=qs) b1 bs,hi=>by
  obtain ⟨g',h1,h2,h3⟩:=fB (rs:=rs) hg (by simpa using hl) bs fun i h=>hi i (Bz _ h)
  refine ⟨g',h1,h2,fun j=>?_⟩
  rcases h3 j with ⟨e,h⟩ | ⟨k,a,n,a1,a2,m,l⟩
  ·refine .inl ⟨e,fun k a e1 c=>?_⟩
   cases k with
   | zero=>simp at e1
   | succ k=>exact h k a (by simpa using e1) (by simpa using c)
  ·exact .inr ⟨k+1,a,n,by simpa using a1,by simpa using a2,by simpa using m,l⟩
 | .pl i :: rs,p :: ps,_,ρ,g,hg,hl,.cons (b:=q) (l₂:=qs) b1 bs,hi=>by
  have s:=hi i By
  by_cases hz:p.f=.z
  ·have r:back (.pl i :: rs) ((p :: ps).map fun p=>(p.d,p.f)) ((q :: qs).map fun q=>(q.d,q.f)) ρ=back rs (ps.map fun p=>(p.d,p.f)) (qs.map fun q=>(q.d,q.f)) ρ:=by
    show back rs _ _ (if p.f=.z then ρ else _)=_
    rw [if_pos hz]
   rw [r]
   obtain ⟨g',h1,h2,h3⟩:=fB (rs:=rs) hg (by simpa using hl) bs fun i h=>hi i (Bz _ h)
   refine ⟨g',h1,h2,fun j=>?_⟩
   rcases h3 j with ⟨e,h⟩ | ⟨k,a,n,a1,a2,m,l⟩
   ·refine .inl ⟨e,fun k a e1 c=>?_⟩
    cases k with
    | zero=>simp at c;rw [<- c];exact hz
    | succ k=>exact h k a (by simpa using e1) (by simpa using c)
   ·exact .inr ⟨k+1,a,n,by simpa using a1,by simpa using a2,by simpa using m,l⟩
  ·have r:back (.pl i :: rs) ((p :: ps).map fun p=>(p.d,p.f)) ((q :: qs).map fun q=>(q.d,q.f)) ρ=back rs (ps.map fun p=>(p.d,p.f)) (qs.map fun q=>(q.d,q.f)) (ρ.set i (some (q.d,q.f))):=by
    show back rs _ _ (if p.f=.z then ρ else ρ.set i (some (q.d,if q.f=.z then .z else p.f)))=_
    rw [if_neg hz]
    have:(if q.f=.z then Fl.z else p.f)=q.f:=by
     by_cases h:q.f=.z
     ·rw [if_pos h,h]
     ·rw [if_neg h]
      rcases b1.f with h' | h'
      ·exact h'.symm
      ·exact absurd h' h
    rw [this]
   rw [r]
   obtain ⟨g',h1,h2,h3⟩:=fB (rs:=rs) (ρ:=ρ.set i (some (q.d,q.f))) (g:=fun j=>if j=i then some q else g j) (fun j=>by
    rw [bL s]
    by_cases e:j=i
    ·rw [if_pos e,if_pos e];rfl
    ·rw [if_neg e,if_neg e];exact hg j) (by simpa using hl) bs fun i h=>by rw [List.length_set];exact hi i (Bz _ h)
   refine ⟨g',h1,by rw [h2,List.length_set],fun j=>?_⟩
   rcases h3 j with ⟨e,h⟩ | ⟨k,a,n,a1,a2,m,l⟩
   ·by_cases o:j=i
    ·rw [if_pos o] at e
     exact .inr ⟨0,p,q,by simp [o],rfl,rfl,hz,e⟩
    ·rw [if_neg o] at e
     refine .inl ⟨e,fun k a e1 c=>?_⟩
     cases k with
     | zero=>simp at e1;exact absurd e1.symm o
     | succ k=>exact h k a (by simpa using e1) (by simpa using c)
   ·exact .inr ⟨k+1,a,n,by simpa using a1,by simpa using a2,by simpa using m,l⟩
theorem oj:∀ {rs:List R3} {a:List (D × Fl)},prs ρ rs=some a->rs.length=a.length
 | [],a,e=>by cases e;rfl
 | .pl i :: rs,a,e=>by
  unfold prs at e
  cases q:(ρ[i]?).join with
  | none=>rw [q] at e;exact nsE e
  | some p =>
   cases b:prs ρ rs with
   | none=>rw [q,b] at e;exact nsE e
   | some ps=>rw [q,b] at e;cases e;rw [B0,B0,oj b]
 | .val d f :: rs,a,e=>by
  unfold prs at e
  cases b:prs ρ rs with
  | none=>rw [b] at e;exact nsE e
  | some ps=>rw [b] at e;cases e;rw [B0,B0,oj b]
theorem qR:∀ {rs:List R3} {a:List (D × Fl)},prs ρ rs=some a->∀ i,R3.pl i ∈ rs->i < ρ.length
 | [],a,e,i,h=>by cases h
 | .pl i :: rs,a,e,j,h=>by
  unfold prs at e
  cases q:(ρ[i]?).join with
  | none=>rw [q] at e;exact nsE e
  | some p =>
   cases b:prs ρ rs with
   | none=>rw [q,b] at e;exact nsE e
   | some ps =>
    rcases BE.mp h with h | h
    ·cases h;exact dE q
    ·exact qR b j h
 | .val d f :: rs,a,e,j,h=>by
  unfold prs at e
  cases b:prs ρ rs with
  | none=>rw [b] at e;exact nsE e
  | some ps =>
   rcases BE.mp h with h | h
   ·cases h
   ·exact qR b j h
theorem Paired.at:∀ {l:List α} {m:List β} {k:Nat} {a:α} {b:β},Paired F l m->l[k]?=some a->m[k]?=some b->F a b
 | _,_,_,_,_,.nil,h,_=>by simp at h
 | _,_,0,_,_,.cons r _,h,h'=>by simp at h h';subst h h';exact r
 | _,_,k+1,_,_,.cons _ t,h,h'=>Paired.at (k:=k) t (by simpa using h) (by simpa using h')
theorem Paired.exL:∀ {l:List α} {m:List β} {k:Nat} {a:α},Paired F l m->l[k]?=some a->∃ b,m[k]?=some b/\F a b
 | _,_,_,_,.nil,h=>by simp at h
 | _,_,0,_,.cons r _,h=>by simp at h;subst h;exact ⟨_,rfl,r⟩
 | _,_,k+1,_,.cons _ t,h=>let ⟨b,h1,h2⟩:=Paired.exL (k:=k) t (by simpa using h);⟨b,by simpa using h1,h2⟩
theorem Paired.exR:∀ {l:List α} {m:List β} {k:Nat} {b:β},Paired F l m->m[k]?=some b->∃ a,l[k]?=some a/\F a b
 | _,_,_,_,.nil,h=>by simp at h
 | _,_,0,_,.cons r _,h=>by simp at h;subst h;exact ⟨_,rfl,r⟩
 | _,_,k+1,_,.cons _ t,h=>let ⟨b,h1,h2⟩:=Paired.exR (k:=k) t (by simpa using h);⟨b,by simpa using h1,h2⟩
theorem cg {R:α->α->Prop} {l:List α} (p:l.Pairwise R) (f:∀ a b,R a b->R b a) {i j:Nat} {a b:α} (n:i ≠ j) (e:l[i]?=some a) (d:l[j]?=some b):R a b:=by
 obtain ⟨h1,e1⟩:=BK.mp e
 obtain ⟨h2,c⟩:=BK.mp d
 have q:=List.pairwise_iff_getElem.mp p
 rcases Nat.lt_or_ge i j with h | h
 ·rw [<- e1,<- c];exact q i j h1 h2 h
 ·rw [<- e1,<- c];exact f _ _ (q j i h2 h1 (by omega))
theorem Wf.after (w:Wf K G H σ ρ (Ts ++ T) g) (e:prs ρ rs=some pfs) (f1:ps.map (fun p=>(p.d,p.f))=pfs) (f4:∀ p ∈ ps,(∃ i,R3.pl i ∈ rs/\g i=some p)\/p ∈ Ts) (f5:Paired (fun r p=>match r with | .pl i=>g i=some p | .val _ _=>p ∈ Ts) rs ps) (B:BehindX K H H' ps qs) :
  ∃ g',Wf K G H' σ (L3.back rs pfs (qs.map fun q=>(q.d,q.f)) ρ) T g' /\
   ∀ x,Rep K H' x.d x.v x.L->(x.f ≠ .z->je x.d=true/\∃ a L',x.v=.ref a/\x.L=a :: L'/\a ∉ L'/\H a=none)->(∀ c ∈ x.L,H c=none\/cQ ps c)->(∀ q ∈ qs,Apart3 x q)->Wf K G H' σ (L3.back rs pfs (qs.map fun q=>(q.d,q.f)) ρ) (x :: T) g':=by
 subst f1
 have V:rs.length=ps.length:=by have:=oj e;rwa [BJ] at this
 obtain ⟨g',h1,h2,h3⟩:=fB (K:=K) (H:=H) (H':=H') (T:=ps) (rs:=rs) (ps:=ps) (qs:=qs) w.sl V B.back (qR e)
 have F:∀ p ∈ ps,Itm (Ts ++ T) g p:=fun p l=>by
  rcases f4 p l with ⟨i,_,Q⟩ | h
  ·exact .inl ⟨i,Q⟩
  ·exact .inr (BC _ h)
 have X:∀ b o,H b=some o->∃ o',H' b=some o':=fun b o S=>by
  by_cases h:∀ p ∈ ps,p.f=.u->p.v ≠ .ref b
  ·exact ⟨o,B.frame b o S h⟩
  ·have h':∃ p,p ∈ ps/\p.f=.u/\p.v=.ref b:=by
    refine Classical.byContradiction fun n=>h fun p l hf J=>n ⟨p,l,hf,J⟩
   obtain ⟨p,l,hf,J⟩:=h'
   obtain ⟨k,hk,ek⟩:=List.mem_iff_getElem.mp l
   obtain ⟨q,e1,Y⟩:=Paired.exL B.back (show ps[k]?=some p by rw [BF hk,ek])
   exact Y.there hf b J
 have ka:∀ j z,g j=some z->(∀ (k:Nat) (p:It3),rs[k]?=some (R3.pl j)->ps[k]?=some p->p.f=.z)->∀ p ∈ ps,Apart3 p z:=fun j z ej hu p l=>by
  rcases f4 p l with ⟨i,hi,Q⟩ | h
  ·by_cases ij:i=j
   ·subst ij
    have a4:p=z:=Ch (Q.symm.trans ej)
    subst a4
    have hz:p.f=.z:=by
     obtain ⟨k,hk,ek⟩:=List.mem_iff_getElem.mp hi
     have ae:rs[k]?=some (R3.pl i):=by rw [BF hk,ek]
     obtain ⟨A,e1,E⟩:=Paired.exL f5 ae
     have E:g i=some A:=E
     rw [Q] at E
     cases E
     exact hu k p ae e1
    exact ⟨fun q=>absurd hz q,fun q=>absurd hz q⟩
   ·exact ⟨w.ss i j p z ij Q ej,w.ss j i z p (Ne.symm ij) ej Q⟩
  ·exact (w.st j z ej p (BC _ h)).symm
 have kt:∀ z ∈ T,∀ p ∈ ps,Apart3 p z:=fun z hz p l=>by
  rcases f4 p l with ⟨i,hi,Q⟩ | h
  ·exact w.st i p Q z (BD _ hz)
  ·exact (List.pairwise_append.mp w.tt).2.2 p h z hz
 have keep:∀ z,ItOk K G H z->(∀ p ∈ ps,Apart3 p z)->ItOk K G H' z:=fun z P W=>by
  refine P.keep (M:=fun b=>∃ p ∈ ps,p.f=.u/\p.v=.ref b) (fun b o S n=>B.frame b o S fun p l hf J=>n ⟨p,l,hf,J⟩) (fun b ⟨p,l,hf,J⟩=>?_) (fun b S ⟨p,l,hf,J⟩=>?_)
  ·obtain ⟨_,a,L',e1,E,_⟩:=(w.itm (F p l)).own (by rw [hf];intro q;cases q)
   rw [J] at e1
   cases e1
   exact (w.itm (F p l)).rep.inH b (by rw [E];exact By)
  ·exact (W p l).1 (by rw [hf];intro q;cases q) b J S
 have ar:∀ k p q,ps[k]?=some p->qs[k]?=some q->ItOk K G H' q:=fun k p q e1 E=>by
  have b:=Paired.at B.back e1 E
  refine ⟨b.arg.rep,fun hf=>?_,fun c R=>?_⟩
  ·obtain ⟨m,a,L',v1,v2,v3⟩:=b.arg.own hf
   refine ⟨m,a,L',v1,v2,v3,fun hu=>?_⟩
   have pf:p.f=.u:=by
    rcases b.f with h | h
    ·rw [<- h];exact hu
    ·rw [h] at hu;cases hu
   obtain ⟨_,a',a6,e3,_,_,e5⟩:=(w.itm (F p (BL e1))).own (by rw [pf];intro q;cases q)
   rw [<- b.v,v1] at e3
   cases e3
   exact e5 pf
  ·rcases b.src c R with h | ⟨A,C,h⟩
   ·exact .inl (w.h0none h)
   ·exact (w.itm (F A C)).src c h
 have kq:∀ z,ItOk K G H z->(∀ p ∈ ps,Apart3 p z)->∀ k p q,ps[k]?=some p->qs[k]?=some q->Apart3 z q:=fun z P W k p q e1 E=>by
  have b:=Paired.at B.back e1 E
  refine ⟨fun hf a ev hm=>?_,fun hf a ev=>?_⟩
  ·rcases b.src a hm with h | ⟨A,C,R⟩
   ·obtain ⟨_,a',L',s,O,_⟩:=P.own hf
    rw [ev] at s;cases s
    obtain ⟨o,I⟩:=(P.rep.inH a (by rw [O];exact By)).ex
    rw [h] at I;exact nsE I
   ·exact (W A C).2 hf a ev R
  ·have pf:p.f ≠ .z:=fun Z=>by
    have:=b.z Z
    rw [this] at hf
    exact hf Z
   exact (W p (BL e1)).1 pf a (by rw [<- b.v];exact ev)
 have old:∀ j z,g' j=some z->(g j=some z/\∀ p ∈ ps,Apart3 p z)\/∃ k p,rs[k]?=some (R3.pl j)/\ps[k]?=some p/\qs[k]?=some z:=fun j z D=>by
  rcases h3 j with ⟨e1,hu⟩ | ⟨k,p,q,a1,a2,y,_,a5⟩
  ·rw [e1] at D
   exact .inl ⟨D,ka j z D hu⟩
  ·rw [a5] at D
   cases D
   exact .inr ⟨k,p,a1,a2,y⟩
 have wf:Wf K G H' σ (L3.back rs (ps.map fun p=>(p.d,p.f)) (qs.map fun q=>(q.d,q.f)) ρ) T g':=by
  refine ⟨by rw [h2];exact w.len,h1,fun j z D=>?_,fun j z D=>?_,fun z hz=>keep z (w.okT z (BD _ hz)) (kt z hz),fun i j a b n U eb=>?_,fun j z D t N=>?_,(List.pairwise_append.mp w.tt).2.1,fun b o e n=>?_,w.pro,⟨fun u hu=>w.fx.frT u (BD _ hu),fun j u h l hf a U=>?_,fun b S=>?_,fun b o h=>?_,fun j u h V=>?_⟩⟩
  ·rcases old j z D with ⟨e1,_⟩ | ⟨k,p,a1,a2,y⟩
   ·exact w.sv j z e1
   ·have ep:g j=some p:=by
     obtain ⟨A,s,O⟩:=Paired.exL f5 a1
     rw [a2] at s;cases s
     exact O
    rw [(Paired.at B.back a2 y).v]
    exact w.sv j p ep
  ·rcases old j z D with ⟨e1,ap⟩ | ⟨k,p,a1,a2,y⟩
   ·exact keep z (w.okS j z e1) ap
   ·exact ar k p z a2 y
  ·rcases old i a U with ⟨e1,ap⟩ | ⟨k,p,a1,a2,y⟩
   ·rcases old j b eb with ⟨E,_⟩ | ⟨k',A,Y,b2,b3⟩
    ·exact w.ss i j a b n e1 E
    ·exact (kq a (w.okS i a e1) ap k' A b b2 b3).1
   ·rcases old j b eb with ⟨E,ap⟩ | ⟨k',A,Y,b2,b3⟩
    ·exact (kq b (w.okS j b E) ap k p a a2 y).2
    ·have kk:k ≠ k':=fun z=>by
      subst z
      rw [a1] at Y
      cases Y
      exact n rfl
     exact (cg B.apart (fun _ _=>Apart3.symm) kk y b3).1
  ·rcases old j z D with ⟨e1,ap⟩ | ⟨k,p,a1,a2,y⟩
   ·exact w.st j z e1 t (BD _ N)
   ·exact (kq t (w.okT t (BD _ N)) (kt t N) k p z a2 y).symm
  ·refine B.frame b o (w.base b o e n) fun p l hf J=>?_
   obtain ⟨_,a,L',e1,_,_,e3⟩:=(w.itm (F p l)).own (by rw [hf];intro q;cases q)
   rw [J] at e1
   cases e1
   rcases e3 hf with h | h
   ·rw [e] at h;cases h
   ·exact n h
  ·rcases old j u h with ⟨e1,_⟩ | ⟨k,p,a1,a2,y⟩
   ·exact w.fx.frS j u e1 l hf a U
   ·have b:=Paired.at B.back a2 y
    have ep:g j=some p:=by
     obtain ⟨A,s,O⟩:=Paired.exL f5 a1
     rw [a2] at s;cases s
     exact O
    refine w.fx.frS j p ep l (fun Z=>?_) a (by rw [<- b.v];exact U)
    have:=b.z Z
    rw [this] at hf
    exact hf Z
  ·obtain ⟨o,I⟩:=w.fx.bin b S
   exact X b o I
  ·obtain ⟨o',I⟩:=w.fx.ob b o h
   exact X b o' I
  ·rcases old j u h with ⟨e1,_⟩ | ⟨k,p,a1,a2,y⟩
   ·exact w.fx.lvS j u e1 V
   ·have b:=Paired.at B.back a2 y
    have ep:g j=some p:=by
     obtain ⟨A,s,O⟩:=Paired.exL f5 a1
     rw [a2] at s;cases s
     exact O
    rw [b.v]
    refine w.fx.lvS j p ep ?_
    rcases b.f with h | h
    ·rw [<- h];exact V
    ·rw [h] at V;cases V
 refine ⟨g',wf,fun x rx ox sx ax=>?_⟩
 have kx:∀ z,ItOk K G H z->(∀ p ∈ ps,Apart3 p z)->Apart3 z x:=fun z P W=>by
  refine ⟨fun hf a ev hm=>?_,fun hf a ev hm=>?_⟩
  ·rcases sx a hm with h | ⟨A,C,R⟩
   ·obtain ⟨_,a',L',s,O,_⟩:=P.own hf
    rw [ev] at s;cases s
    obtain ⟨o,I⟩:=(P.rep.inH a (by rw [O];exact By)).ex
    rw [h] at I;exact nsE I
   ·exact (W A C).2 hf a ev R
  ·obtain ⟨_,a',L',s,_,_,q4⟩:=ox hf
   rw [ev] at s;cases s
   obtain ⟨o,I⟩:=(P.rep.inH a hm).ex
   rw [q4] at I;exact nsE I
 refine ⟨wf.len,wf.sl,wf.sv,wf.okS,fun z hz=>?_,wf.ss,fun j z D t N=>?_,?_,wf.base,wf.pro,⟨fun u hu hf a U=>?_,wf.fx.frS,wf.fx.bin,wf.fx.ob,wf.fx.lvS⟩⟩
 ·rcases BE.mp hz with h | hz
  ·rw [h]
   refine ⟨rx,fun hf=>?_,fun c R=>?_⟩
   ·obtain ⟨m,a,L',v1,v2,v3,v4⟩:=ox hf
    exact ⟨m,a,L',v1,v2,v3,fun _=>.inl (w.h0none v4)⟩
   ·rcases sx c R with h | ⟨A,C,h⟩
    ·exact .inl (w.h0none h)
    ·exact (w.itm (F A C)).src c h
  ·exact wf.okT z hz
 ·rcases BE.mp N with h | N
  ·rw [h]
   rcases old j z D with ⟨e1,ap⟩ | ⟨k,p,a1,a2,y⟩
   ·exact kx z (w.okS j z e1) ap
   ·exact (ax z (BL y)).symm
  ·exact wf.st j z D t N
 ·exact List.pairwise_cons.mpr ⟨fun t N=>(kx t (w.okT t (BD _ N)) (kt t N)).symm,wf.tt⟩
 ·rcases BE.mp hu with h | hu
  ·subst h
   obtain ⟨_,a',L',s,_,_,q4⟩:=ox hf
   rw [U] at s;cases s
   exact w.ornone q4
  ·exact wf.fx.frT u hu hf a U
theorem rn {i a:Nat} (h:(ρ[i]?).join=none):((L3.lowAt a ρ)[i]?).join=none:=by
 unfold L3.lowAt
 split
 ·rename_i d hd
  rw [bL (dE hd)]
  by_cases b:i=a
  ·subst b;rw [h] at hd;exact nsE hd
  ·rw [if_neg b];exact h
 ·rename_i d hd
  rw [bL (dE hd)]
  by_cases b:i=a
  ·subst b;rw [h] at hd;exact nsE hd
  ·rw [if_neg b];exact h
 ·exact h
theorem lZ {i:Nat}:∀ {is:List Nat} {ρ:Sto},(ρ[i]?).join=none->((L3.frz is ρ)[i]?).join=none
 | [],ρ,h=>h
 | a :: is,ρ,h=>lZ (is:=is) (ρ:=L3.lowAt a ρ) (rn h)
def EX (XA:D->Value->Option Addr->Hp->Prop) (K:FG) (G:Gm) (W:D->Sto->Prop) (σ:St):XK:=fun cls da H'=>∃ e ρ' T' g',Wf K G H' σ ρ' T' g'/\XA e cls da H'/\W e ρ'
theorem xn (h:tE K G0 W0 (aC F ms) σ H Q):tA K G0 W0 ms σ H fun u H1=>spF XA K F u H1 Q (EX XA K G0 W0 σ):=by
 refine h.use fun G W le ρ T g o ρ' w e q=>?_
 refine tA.seq le w e q.err fun rs ρ1 e1 u H1 Ts g1 A a1=>?_
 obtain ⟨g2,b,I⟩:=Wf.frz (is:=eM rs) A
 cases j:prs (L3.frz (eM rs) ρ1) rs with
 | none=>rw [j] at e1;exact nsE e1
 | some pfs =>
  rw [j] at e1
  dsimp only at e1
  have hd:∀ i,2<=(pls rs).count i->∀ y,g2 i=some y->y.f=.z:=fun i N y D=>by
   have hm:i ∈ eM rs:=Ca.mpr ⟨List.count_pos_iff.mp (by omega),by simpa using N⟩
   have s1:=b.sl i
   rw [D] at s1
   have Z:∃ y0,g1 i=some y0:=by
    cases R:g1 i with
    | some y0=>exact ⟨y0,rfl⟩
    | none =>
     exfalso
     have s2:=A.sl i
     rw [R] at s2
     have:=lZ (is:=eM rs) s2.symm
     rw [this] at s1
     cases s1
   obtain ⟨y0,n⟩:=Z
   obtain ⟨y',c,_,M⟩:=I i y0 n
   rw [D] at c
   cases c
   exact M hm
  obtain ⟨ps,f1,f2,J,f4,C⟩:=Ars.args a1 b hd j
  have hit:∀ p ∈ ps,Itm (Ts ++ T) g2 p:=fun p k=>by
   rcases f4 p k with ⟨i,_,V⟩ | h
   ·exact .inl ⟨i,V⟩
   ·exact .inr (BC _ h)
  have d:∀ p ∈ ps,Arg K H1 p:=fun p k=>⟨(b.itm (hit p k)).rep,fun hf=>by
   obtain ⟨m,a,L',v1,v2,v3,_⟩:=(b.itm (hit p k)).own hf
   exact ⟨m,a,L',v1,v2,v3⟩⟩
  subst f2
  cases c:F pfs with
  | none=>rw [c] at e1;exact nsE e1
  | some r =>
   obtain ⟨out,fs⟩:=r
   rw [c] at e1
   refine ⟨ps,out,fs,rfl,d,J,by rw [f1];exact c,?_⟩
   cases out with
   | ok p =>
    dsimp only at e1
    split at e1
    ·cases e1
     intro x qs H' B U X s
     obtain ⟨g',l,O⟩:=Wf.after b j f1 f4 C B.toBehindX
     have t:=O x B.rep B.own B.src B.apx
     rw [s] at t
     rw [<- U,<- X] at q
     exact q x.v H' ⟨[x],g',t,.val x⟩
    ·exact nsE e1
   | error er =>
    dsimp only at e1
    split at e1
    ·cases e1
     intro qs H' cls da B s S
     obtain ⟨g',l,_⟩:=Wf.after b j f1 f4 C B
     rw [s] at l
     obtain ⟨ρ5,L,E,Y,P⟩:=le.ex H' σ _ T g' er l q
     exact ⟨er,ρ5,L,E,Y,S,P⟩
    ·exact nsE e1
end
end L3
end
section
namespace L3
open PySem L2
def dF (ρ:Sto):Nat->List (D × Fl)->Option (List (D × Fl))
 | _,[]=>some []
 | i,(d,.z) :: ps=>(dF ρ (i+1) ps).map fun r=>(d,.z) :: r
 | i,(d,f) :: ps=>match (ρ[i]?).join,dF ρ (i+1) ps with
  | some (d',f'),some r=>if f'=f\/f'=.z then some ((d',f') :: r) else none
  | _,_=>none
def eA (n:Nat) (ps:List (D × Fl)):Sto:=ps.map some ++ List.replicate (n - ps.length) none
def fn0 (n:Nat) (b:SM):Fn:=fun ps=>match b (eA n ps) with
 | some (.ok .nx,ρ')=>(dF ρ' 0 ps).map fun fs=>(.ok (.non,.z),fs)
 | some (.ok (.rt d f),ρ')=>(dF ρ' 0 ps).map fun fs=>(.ok (d,f),fs)
 | some (.error e,ρ')=>(dF ρ' 0 ps).map fun fs=>(.error e,fs)
 | _=>none
def mP (b:Bool) (p:D × Fl):D × Fl:=if b then (p.1,.z) else p
noncomputable def fnM (mask:List Bool) (n:Nat) (b:SM):Fn:=fun ps=>if ps.length=mask.length then fn0 n b (List.zipWith mP mask ps) else none
section
variable {K:FG} {G:Gm} {W:D->Sto->Prop} {H H':Hp} {σ:St} {ρ ρ':Sto} {T T':List It3} {g:Nat->Option It3} {x y z:It3} {α β:Type}
def gOf (H:Hp) (pr:Nat->Bool) (σ0:St) (ps:List It3):Gm:=⟨H,fun b=>∃ p ∈ ps,p.f=.u/\p.v=.ref b,pr,σ0,H,cQ ps,fun i=>(ps[i]?).map (·.v)⟩
theorem uh {n:Nat} (a:ps.length<=n) (i:Nat):((eA n ps)[i]?).join=ps[i]?:=by
 unfold eA
 by_cases h:i < ps.length
 ·rw [Cc (by simpa using h),BO]
  cases ps[i]? <;> rfl
 ·rw [List.getElem?_append_right (by simpa using h),List.getElem?_replicate,List.getElem?_eq_none (by omega)]
  split <;> rfl
theorem jD {n:Nat} {a:List V} {i:Nat} (h:a[i]?=some v):(a.map some ++ List.replicate n (none:Option V))[i]?=some (some v):=by
 obtain ⟨hi,e⟩:=BK.mp h
 rw [Cc (by simpa using hi),BO,h]
 rfl
theorem pj {n:Nat} (r:ps.length<=n) (g:∀ p ∈ ps,Arg K H p) (u:ps.Pairwise Apart3) (k:∀ (i:Nat) (p:It3),ps[i]?=some p->p.f ≠ .z->pr i=true) :
  Wf K (gOf H pr ((ps.map (·.v)).map some ++ List.replicate (n - (ps.map (·.v)).length) none) ps) H ((ps.map (·.v)).map some ++ List.replicate (n - (ps.map (·.v)).length) none) (eA n (ps.map fun p=>(p.d,p.f))) [] (fun i=>ps[i]?):=by
 refine ⟨?_,fun i=>?_,fun i x e=>?_,fun i x e=>?_,fun _ h=>(by cases h),fun i j a b n w l=>?_,fun _ _ _ _ h=>(by cases h),.nil,fun b o e _=>e,fun i _=>rfl,⟨fun _ h=>(by cases h),fun i x e hz hf=>?_,fun b h=>?_,fun b o e=>⟨o,e⟩,fun i x e _=>(by show (ps[i]?).map (·.v)=_;rw [e];rfl)⟩⟩
 ·unfold eA;simp
 ·rw [uh (by simpa using r),BO]
 ·exact jD (by rw [BO,e];rfl)
 ·have hm:=BL e
  refine ⟨(g x hm).rep,fun hf=>?_,fun c s=>.inr ⟨x,hm,s⟩⟩
  obtain ⟨m,a,L',v1,v2,v3⟩:=(g x hm).own hf
  exact ⟨m,a,L',v1,v2,v3,fun hu=>.inr ⟨x,hm,hu,v1⟩⟩
 ·exact (cg u (fun _ _=>Apart3.symm) n w l).1
 ·have hz:pr i=false:=hz
  rw [k i x e hf] at hz;cases hz
 ·obtain ⟨p,hm,hf,t⟩:=h
  obtain ⟨_,a,L',v1,v2,_⟩:=(g p hm).own (by rw [hf];intro q;cases q)
  rw [t] at v1;cases v1
  exact ((g p hm).rep.inH b (by rw [v2];exact By)).ex
def FinsOk (ρ:Sto) (i:Nat) (ps fs:List (D × Fl)):Prop:=fs.length=ps.length/\∀ (k:Nat) (p:D × Fl),ps[k]?=some p->∃ q,fs[k]?=some q/\(p.2=.z->q=p)/\(p.2 ≠ .z->(ρ[i+k]?).join=some q/\(q.2=p.2\/q.2=.z))
theorem FinsOk.cons {i:Nat} {e d:D × Fl} {ps fs:List (D × Fl)} (h:FinsOk ρ (i+1) ps fs) (hz:e.2=.z->d=e) (g:e.2 ≠ .z->(ρ[i]?).join=some d/\(d.2=e.2\/d.2=.z)):FinsOk ρ i (e :: ps) (d :: fs):=by
 refine ⟨by rw [B0,B0,h.1],fun k p f=>?_⟩
 cases k with
 | zero=>cases f;exact ⟨d,rfl,hz,g⟩
 | succ k =>
  obtain ⟨q,a,b,c⟩:=h.2 k p f
  exact ⟨q,a,b,fun n=>by have:=c n;rwa [show i+1+k=i+(k+1) by omega] at this⟩
theorem jW:∀ {i:Nat} {ps:List (D × Fl)} {fs:List (D × Fl)},dF ρ i ps=some fs->FinsOk ρ i ps fs
 | i,[],fs,e=>by cases e;exact ⟨rfl,fun k p h=>by cases h⟩
 | i,p0 :: ps,fs,e=>by
  obtain ⟨d,f⟩:=p0
  have key:f ≠ .z->(match (ρ[i]?).join,dF ρ (i+1) ps with
    | some (d',a),some r=>if a=f\/a=.z then some ((d',a) :: r) else none
    | _,_=>none)=some fs->FinsOk ρ i ((d,f) :: ps) fs:=fun hf e=>by
   cases h:(ρ[i]?).join with
   | none=>rw [h] at e;exact nsE e
   | some p0 =>
    cases h2:dF ρ (i+1) ps with
    | none=>rw [h,h2] at e;exact nsE e
    | some r =>
     rw [h,h2] at e
     obtain ⟨d',a⟩:=p0
     dsimp only at e
     rcases Decidable.em (a=f\/a=.z) with b | b
     ·rw [if_pos b] at e
      cases e
      exact (jW h2).cons (fun z=>absurd z hf) fun _=>⟨h,b⟩
     ·rw [if_neg b] at e;exact nsE e
  cases f with
  | z =>
   obtain ⟨r,h,h'⟩:=BB.mp (show (dF ρ (i+1) ps).map (fun r=>(d,Fl.z) :: r)=some fs from e)
   subst h'
   exact (jW h).cons (fun _=>rfl) fun n=>absurd rfl n
  | u=>exact key (by intro q;cases q) e
  | l=>exact key (by intro q;cases q) e
theorem kn {P:Nat->α->β->Prop}:∀ (l:List α) (i:Nat),(∀ (k:Nat) a,l[k]?=some a->∃ b,P (i+k) a b)->∃ m:List β,m.length=l.length/\∀ (k:Nat) a,l[k]?=some a->∃ b,m[k]?=some b/\P (i+k) a b
 | [],i,_=>⟨[],rfl,fun k a h=>by simp at h⟩
 | a :: l,i,h=>by
  obtain ⟨b,c⟩:=h 0 a rfl
  obtain ⟨m,h1,h2⟩:=kn l (i+1) fun k a e=>by
   have:=h (k+1) a (by simpa using e)
   rwa [show i+(k+1)=i+1+k by omega] at this
  refine ⟨b :: m,by simp [h1],fun k d e=>?_⟩
  cases k with
  | zero=>simp at e;subst e;exact ⟨b,rfl,c⟩
  | succ k =>
   obtain ⟨f,e1,g⟩:=h2 k d (by simpa using e)
   exact ⟨f,by simpa using e1,by rwa [show i+(k+1)=i+1+k by omega]⟩
theorem Paired.ofGet:∀ {l:List α} {m:List β},l.length=m.length->(∀ (k:Nat) a b,l[k]?=some a->m[k]?=some b->F a b)->Paired F l m
 | [],[],_,_=>.nil
 | [],_ :: _,h,_=>by cases h
 | _ :: _,[],h,_=>by cases h
 | a :: l,b :: m,h,f=>.cons (f 0 a b rfl rfl) (Paired.ofGet (by simpa using h) fun k a b e1 c=>f (k+1) a b (by simpa using e1) (by simpa using c))
theorem kC {n:Nat} {pr:Nat->Bool} {σ0:St} {ps:List It3} {fs:List (D × Fl)} (G:∀ p ∈ ps,Arg K H p) (I:ps.Pairwise Apart3) (Q:∀ (i:Nat) (p:It3),ps[i]?=some p->p.f ≠ .z->pr i=true) (h0:∀ (i:Nat) (p:It3),ps[i]?=some p->σ0[i]?=some (some p.v))
  (w:Wf K (gOf H pr σ0 ps) H' σ ρ T g) (e:dF ρ 0 (ps.map fun p=>(p.d,p.f))=some fs) :
  ∃ qs,BehindX K H H' ps qs/\qs.map (fun q=>(q.d,q.f))=fs/\(∀ (k:Nat) (p q:It3),ps[k]?=some p->qs[k]?=some q->(p.f=.z/\q=p)\/(p.f ≠ .z/\g k=some q)):=by
 obtain ⟨hl,hs⟩:=jW e
 rw [BJ] at hl
 have frame:∀ b o,H b=some o->(∀ p ∈ ps,p.f=.u->p.v ≠ .ref b)->H' b=some o:=fun b o t O=>w.base b o t fun ⟨p,hm,hf,x⟩=>O p hm hf x
 have there:∀ b o,H b=some o->∃ o',H' b=some o':=fun b o t=>w.fx.ob b o t
 have E:∀ (k:Nat) (p:It3),ps[k]?=some p->p.f=.z->Rep K H' p.d p.v p.L:=fun k p l hz=>by
  refine (G p (BL l)).rep.keep (M:=fun b=>∃ p ∈ ps,p.f=.u/\p.v=.ref b) (fun b o t O=>frame b o t fun p I hf x=>O ⟨p,I,hf,x⟩) (fun b ⟨B,hm,hf,x⟩=>?_) fun b t ⟨B,hm,hf,x⟩=>?_
  ·obtain ⟨_,a,L',v1,v2,_⟩:=(G B hm).own (by rw [hf];intro q;cases q)
   rw [x] at v1;cases v1
   exact (G B hm).rep.inH b (by rw [v2];exact By)
  ·obtain ⟨j,V,J⟩:=List.mem_iff_getElem.mp hm
   have A:ps[j]?=some B:=by rw [BF V,J]
   have jk:j ≠ k:=fun z=>by subst z;rw [l] at A;cases A;rw [hz] at hf;cases hf
   exact (cg I (fun _ _=>Apart3.symm) jk A l).1 (by rw [hf];intro q;cases q) b x t
 have one:∀ (k:Nat) (p:It3),ps[k]?=some p->∃ q,(q.d,q.f)=(fs[k]?).getD (p.d,p.f)/\fs[k]?=some (q.d,q.f)/\Back1 K H H' ps p q/\((p.f=.z/\q=p)\/(p.f ≠ .z/\g k=some q)):=fun k p l=>by
  have hm:=BL l
  obtain ⟨Z,f1,f2,f3⟩:=hs k (p.d,p.f) (by rw [BO,l];rfl)
  by_cases hz:p.f=.z
  ·have:=f2 hz
   subst this
   refine ⟨p,by rw [f1];rfl,f1,⟨fun _=>rfl,rfl,.inl rfl,⟨E k p l hz,fun h=>absurd hz h⟩,fun c S=>.inr ⟨p,hm,S⟩,fun h=>?_⟩,.inl ⟨hz,rfl⟩⟩
   rw [hz] at h;cases h
  ·obtain ⟨h1,h2⟩:=f3 hz
   rw [Nat.zero_add] at h1
   obtain ⟨y,Y,X,U,y4⟩:=w.slot (d:=Z.1) (f:=Z.2) h1
   have x:y.v=p.v:=by
    have:=w.pro k (Q k p l hz)
    rw [y4] at this
    have h0:some (some y.v)=some (some p.v):=this.trans (h0 k p l)
    injection h0 with h0
    injection h0
   have ok:=w.okS k y Y
   refine ⟨y,by rw [f1,X,U];rfl,by rw [f1,X,U],⟨fun h=>absurd h hz,x,by rw [U];exact h2,⟨ok.rep,fun hf=>?_⟩,fun c S=>ok.src c S,fun hf b t=>?_⟩,.inr ⟨hz,Y⟩⟩
   ·obtain ⟨m,a,L',v1,v2,v3,_⟩:=ok.own hf
    exact ⟨m,a,L',v1,v2,v3⟩
   ·obtain ⟨_,a,L',v1,v2,_⟩:=(G p hm).own hz
    rw [t] at v1;cases v1
    obtain ⟨o,ho⟩:=((G p hm).rep.inH b (by rw [v2];exact By)).ex
    exact there b o ho
 obtain ⟨qs,hq,C⟩:=kn (P:=fun k p q=>fs[k]?=some (q.d,q.f)/\Back1 K H H' ps p q/\((p.f=.z/\q=p)\/(p.f ≠ .z/\g k=some q))) ps 0 fun k p l=>by
  obtain ⟨q,_,a,b,c⟩:=one k p l
  exact ⟨q,by simpa using ⟨a,b,c⟩⟩
 have get:∀ (k:Nat) (p q:It3),ps[k]?=some p->qs[k]?=some q->fs[k]?=some (q.d,q.f)/\Back1 K H H' ps p q/\((p.f=.z/\q=p)\/(p.f ≠ .z/\g k=some q)):=fun k p q s eq=>by
  obtain ⟨q',e1,e2⟩:=C k p s
  rw [eq] at e1
  cases e1
  simpa using e2
 have par:∀ (k:Nat) (q:It3),qs[k]?=some q->∃ p,ps[k]?=some p:=fun k q e=>by
  have hk:=(BK.mp e).1
  exact ⟨ps[k]'(by omega),by simp [show k < ps.length by omega]⟩
 refine ⟨qs,⟨frame,Paired.ofGet hq.symm fun k p q s eq=>(get k p q s eq).2.1,?_⟩,?_,fun k p q s eq=>(get k p q s eq).2.2⟩
 ·rw [List.pairwise_iff_getElem]
  intro k j hk V lt
  have l:qs[k]?=some qs[k]:=BF hk
  have J:qs[j]?=some qs[j]:=BF V
  have side:∀ (k j:Nat) (q r:It3),k ≠ j->qs[k]?=some q->qs[j]?=some r->NoRoot q r:=fun k j q r n eq W=>by
   obtain ⟨p,s⟩:=par k q eq
   obtain ⟨B,F⟩:=par j r W
   obtain ⟨_,b,c⟩:=get k p q s eq
   obtain ⟨_,b',c'⟩:=get j B r F W
   rcases c with ⟨hz,e⟩ | ⟨hz,e⟩
   ·rw [e];exact fun h=>absurd hz h
   ·rcases c' with ⟨N,R⟩ | ⟨N,R⟩
    ·rw [R]
     intro hf a ea
     exact (cg I (fun _ _=>Apart3.symm) n s F).1 hz a (by rw [<- b.v];exact ea)
    ·exact w.ss k j q r n e R
  exact ⟨side k j _ _ (BR lt) l J,side j k _ _ (Nat.ne_of_gt lt) J l⟩
 ·refine List.ext_getElem? fun k=>?_
  rw [BO]
  cases eq:qs[k]? with
  | none =>
   have:qs.length<=k:=List.getElem?_eq_none_iff.mp eq
   rw [List.getElem?_eq_none (by omega)]
   rfl
  | some q =>
   obtain ⟨p,s⟩:=par k q eq
   rw [(get k p q s eq).1]
   rfl
theorem mB {n:Nat} {pr:Nat->Bool} {σ0:St} {ps:List It3} {fs:List (D × Fl)} (s:∀ p ∈ ps,Arg K H p) (E:ps.Pairwise Apart3) (j:∀ (i:Nat) (p:It3),ps[i]?=some p->p.f ≠ .z->pr i=true) (h0:∀ (i:Nat) (p:It3),ps[i]?=some p->σ0[i]?=some (some p.v))
  (w:Wf K (gOf H pr σ0 ps) H' σ ρ (x :: T) g) (e:dF ρ 0 (ps.map fun p=>(p.d,p.f))=some fs):∃ qs,Behind K H H' ps qs x/\qs.map (fun q=>(q.d,q.f))=fs:=by
 obtain ⟨qs,B,f,F⟩:=kC (n:=n) s E j h0 w e
 have ok:=w.okT x By
 refine ⟨qs,⟨B,ok.rep,fun hf=>?_,fun c A=>ok.src c A,fun q y=>?_⟩,f⟩
 ·obtain ⟨m,a,L',v1,v2,v3,_⟩:=ok.own hf
  exact ⟨m,a,L',v1,v2,v3,w.fx.frT x By hf a v1⟩
 ·obtain ⟨k,C,t⟩:=List.mem_iff_getElem.mp y
  have eq:qs[k]?=some q:=by rw [BF C,t]
  obtain ⟨p,l,b⟩:=Paired.exR B.back eq
  rcases F k p q l eq with ⟨hz,e⟩ | ⟨hz,e⟩
  ·rw [e]
   refine ⟨fun hf a u hm=>?_,fun h=>absurd hz h⟩
   have h1:=w.fx.frT x By hf a u
   obtain ⟨o,r⟩:=((s p (BL l)).rep.inH a hm).ex
   have h2:H a=none:=h1
   rw [h2] at r;exact nsE r
  ·exact (w.st k q e x By).symm
end
end L3
end
section
namespace L3
open PySem L2
def cP:Fl->Fl
 | .u=>.l
 | f=>f
def bo (x:It3):It3:={ x with f:=cP x.f }
def fN:Fl->Fl
 | .l=>.u
 | f=>f
def wY (x:It3):It3:={ x with f:=fN x.f }
def iZ (h:Fl->Fl) (i:Nat) (ρ:Sto):Sto:=match (ρ[i]?).join with
 | some (d,f)=>ρ.set i (some (d,h f))
 | none=>ρ
def aP (h:Fl->Fl) (is:List Nat) (ρ:Sto):Sto:=is.foldl (fun ρ i=>iZ h i ρ) ρ
def us (ρ:Sto) (is:List Nat):List Nat:=is.filter fun i=>match (ρ[i]?).join with
 | some (_,.u)=>true
 | _=>false
theorem lentF_z:cP f=.z ↔ f=.z:=by cases f <;> simp [cP]
theorem unlF_z:fN f=.z ↔ f=.z:=by cases f <;> simp [fN]
theorem sE (f:Fl):cP f ≠ .u:=by cases f <;> simp [cP]
theorem zq (f:Fl):fN f ≠ .l:=by cases f <;> simp [fN]
section
variable {K:FG} {G G0:Gm} {W W0:D->Sto->Prop} {H H':Hp} {σ:St} {ρ ρ':Sto} {T T':List It3} {g:Nat->Option It3} {x y z:It3} {α β:Type}
theorem qZ {i j:Nat}:((iZ h i ρ)[j]?).join=if j=i then ((ρ[j]?).join).map (fun p=>(p.1,h p.2)) else (ρ[j]?).join:=by
 unfold iZ
 cases e:(ρ[i]?).join with
 | none =>
  by_cases q:j=i
  ·subst q;rw [if_pos rfl,e];rfl
  ·rw [if_neg q]
 | some p =>
  obtain ⟨d,f⟩:=p
  dsimp only
  rw [bL (dE e)]
  by_cases q:j=i
  ·subst q;rw [if_pos rfl,if_pos rfl,e];rfl
  ·rw [if_neg q,if_neg q]
theorem tZ {i:Nat}:(iZ h i ρ).length = ρ.length:=by
 unfold iZ
 split
 ·rw [List.length_set]
 ·rfl
theorem fX (a:∀ f,h (h f)=h f):∀ {is:List Nat} {ρ:Sto} {j:Nat},((aP h is ρ)[j]?).join=if j ∈ is then ((ρ[j]?).join).map (fun p=>(p.1,h p.2)) else (ρ[j]?).join
 | [],ρ,j=>by simp [aP]
 | i :: is,ρ,j=>by
  have e:aP h (i :: is) ρ=aP h is (iZ h i ρ):=rfl
  rw [e,fX a,qZ]
  by_cases q:j=i
  ·subst q
   by_cases m:j ∈ is
   ·rw [if_pos m,if_pos rfl,if_pos By]
    cases (ρ[j]?).join with
    | none=>rfl
    | some p=>simp [a]
   ·rw [if_neg m,if_pos rfl,if_pos By]
  ·by_cases m:j ∈ is
   ·rw [if_pos m,if_neg q,if_pos (Bz _ m)]
   ·rw [if_neg m,if_neg q,if_neg (fun z=>(BE.mp z).elim q m)]
theorem iq:∀ {is:List Nat} {ρ:Sto},(aP h is ρ).length = ρ.length
 | [],ρ=>rfl
 | i :: is,ρ=>by
  have e:aP h (i :: is) ρ=aP h is (iZ h i ρ):=rfl
  rw [e,iq,tZ]
def dU (G:Gm) (H:Hp) (g:Nat->Option It3) (is:List Nat):Gm :=
 ⟨H,fun b=>∃ j y,j ∉ is/\g j=some y/\y.f=.u/\y.v=.ref b,G.pr,G.σ0,G.orig,fun c=>G.H0 c=none\/G.src c,fun j=>if j ∈ is then (g j).map (·.v) else G.lv j⟩
structure Fk (x y:It3):Prop where
 d:y.d=x.d
 v:y.v=x.v
 L:y.L=x.L
 z:y.f=.z ↔ x.f=.z
theorem Fk.noRoot (a:Fk x x') (b:Fk y y') (h:NoRoot x y):NoRoot x' y':=fun hf c e=>by
 rw [b.L]
 exact h (fun q=>hf (a.z.mpr q)) c (by rw [<- a.v];exact e)
theorem Fk.apart (a:Fk x x') (b:Fk y y') (h:Apart3 x y):Apart3 x' y':=⟨a.noRoot b h.1,b.noRoot a h.2⟩
theorem Fk.refl (x:It3):Fk x x:=⟨rfl,rfl,rfl,Iff.rfl⟩
theorem lj (x:It3):Fk x (bo x):=⟨rfl,rfl,rfl,lentF_z⟩
theorem A9 (x:It3):Fk x (wY x):=⟨rfl,rfl,rfl,unlF_z⟩
theorem pR {o:Option It3} {h:Fl->Fl} (e:o.map (fun x=>(x.d,x.f))=p):(o.map fun x=>{ x with f:=h x.f }).map (fun x:It3=>(x.d,x.f))=p.map fun p=>(p.1,h p.2):=by
 subst e
 cases o <;> rfl
theorem Wf.enter (w:Wf K G H σ ρ T g) (is:List Nat):Wf K (dU G H g is) H σ (aP cP is ρ) (T.map bo) (fun j=>if j ∈ is then (g j).map bo else g j):=by
 have val:∀ j u,(if j ∈ is then (g j).map bo else g j)=some u->∃ l,g j=some l/\Fk l u/\((j ∈ is/\u=bo l)\/(j ∉ is/\u=l)):=fun j u h=>by
  by_cases q:j ∈ is
  ·rw [if_pos q] at h
   obtain ⟨l,e1,t⟩:=BB.mp h
   subst t
   exact ⟨l,e1,lj l,.inl ⟨q,rfl⟩⟩
  ·rw [if_neg q] at h
   exact ⟨u,h,Fk.refl u,.inr ⟨q,rfl⟩⟩
 refine ⟨by rw [iq];exact w.len,fun j=>?_,fun j u h=>?_,fun j u h=>?_,fun u hu=>?_,fun i j a b n B p=>?_,fun j a h b p=>?_,?_,fun b o e _=>e,w.pro,⟨fun u hu hf a r=>?_,fun j u h D hf a r=>?_,fun b p=>?_,w.fx.ob,fun j u h x=>?_⟩⟩
 ·rw [fX (by intro f;cases f <;> rfl)]
  by_cases q:j ∈ is
  ·rw [if_pos q,if_pos q];exact pR (w.sl j)
  ·rw [if_neg q,if_neg q];exact w.sl j
 ·obtain ⟨l,e,k,_⟩:=val j u h
  rw [k.v];exact w.sv j l e
 ·obtain ⟨l,e,k,c⟩:=val j u h
  have ok:=w.okS j l e
  refine ⟨by rw [k.d,k.v,k.L];exact ok.rep,fun hf=>?_,fun c s=>.inr (ok.src c (by rw [<- k.L];exact s))⟩
  obtain ⟨m,a,L',v1,v2,v3,_⟩:=ok.own (fun q=>hf (k.z.mpr q))
  refine ⟨by rw [k.d];exact m,a,L',by rw [k.v];exact v1,by rw [k.L];exact v2,v3,fun hu=>?_⟩
  rcases c with ⟨_,rfl⟩ | ⟨A,rfl⟩
  ·exact absurd hu (sE _)
  ·exact .inr ⟨j,u,A,e,hu,v1⟩
 ·obtain ⟨l,h0,rfl⟩:=BN.mp hu
  have ok:=w.okT l h0
  refine ⟨ok.rep,fun hf=>?_,fun c s=>.inr (ok.src c s)⟩
  obtain ⟨m,a,L',v1,v2,v3,_⟩:=ok.own (fun q=>hf (lentF_z.mpr q))
  exact ⟨m,a,L',v1,v2,v3,fun hu=>absurd hu (sE _)⟩
 ·obtain ⟨a0,e1,k1,_⟩:=val i a B
  obtain ⟨b0,t,k2,_⟩:=val j b p
  exact k1.noRoot k2 (w.ss i j a0 b0 n e1 t)
 ·obtain ⟨a0,e1,k1,_⟩:=val j a h
  obtain ⟨b0,h0,rfl⟩:=BN.mp p
  exact k1.apart (lj b0) (w.st j a0 e1 b0 h0)
 ·rw [List.pairwise_map]
  exact w.tt.imp fun {a b} h=>(lj a).apart (lj b) h
 ·obtain ⟨l,h0,rfl⟩:=BN.mp hu
  exact w.fx.frT l h0 (fun q=>hf (lentF_z.mpr q)) a r
 ·obtain ⟨l,e,k,_⟩:=val j u h
  exact w.fx.frS j l e D (fun q=>hf (k.z.mpr q)) a (by rw [<- k.v];exact r)
 ·obtain ⟨j,y,_,e,hf,C⟩:=p
  obtain ⟨_,a,L',v1,v2,_⟩:=(w.okS j y e).own (by rw [hf];intro q;cases q)
  rw [C] at v1;cases v1
  exact ((w.okS j y e).rep.inH b (by rw [v2];exact By)).ex
 ·obtain ⟨l,e,k,c⟩:=val j u h
  show (if j ∈ is then (g j).map (·.v) else G.lv j)=_
  rcases c with ⟨q,rfl⟩ | ⟨q,rfl⟩
  ·rw [if_pos q,e];rfl
  ·rw [if_neg q];exact w.fx.lvS j u e x
theorem Wf.leave (w:Wf K G H σ ρ T g) (D:∀ i ∈ is,∀ y,g i=some y->y.f=.u) (J:T'.Sublist T) (p:Wf K (dU G H g is) H' σ' ρ2 (R ++ T'.map bo) g2) :
  Wf K G H' σ' (aP fN is ρ2) (R ++ T') (fun j=>if j ∈ is then (g2 j).map wY else g2 j):=by
 have val:∀ j u,(if j ∈ is then (g2 j).map wY else g2 j)=some u->∃ r,g2 j=some r/\Fk r u/\((j ∈ is/\u=wY r)\/(j ∉ is/\u=r)):=fun j u h=>by
  by_cases q:j ∈ is
  ·rw [if_pos q] at h
   obtain ⟨r,e1,F⟩:=BB.mp h
   subst F
   exact ⟨r,e1,A9 r,.inl ⟨q,rfl⟩⟩
  ·rw [if_neg q] at h
   exact ⟨u,h,Fk.refl u,.inr ⟨q,rfl⟩⟩
 have may:∀ a,H a=none\/(∃ j y,j ∉ is/\g j=some y/\y.f=.u/\y.v=.ref a)->G.H0 a=none\/G.bw a:=fun a h=>by
  rcases h with h | ⟨j,y,_,e,hf,Y⟩
  ·exact .inl (w.h0none h)
  ·obtain ⟨_,X,L',v1,_,_,v4⟩:=(w.okS j y e).own (by rw [hf];intro q;cases q)
   rw [Y] at v1;cases v1
   exact v4 hf
 have t:∀ c,H c=none\/(G.H0 c=none\/G.src c)->G.H0 c=none\/G.src c:=fun c h=>by
  rcases h with h | h
  ·exact .inl (w.h0none h)
  ·exact h
 have O:∀ x ∈ T',x ∈ T:=fun x V=>J.subset V
 have C:∀ b o,H b=some o->∃ o',H' b=some o':=fun b o s=>by
  by_cases q:∃ j y,j ∉ is/\g j=some y/\y.f=.u/\y.v=.ref b
  ·exact p.fx.bin b q
  ·exact ⟨o,p.base b o s q⟩
 refine ⟨by rw [iq];exact p.len,fun j=>?_,fun j u h=>?_,fun j u h=>?_,fun u hu=>?_,fun i j a b n I s=>?_,fun j a h b s=>?_,?_,fun b o e n=>?_,p.pro,⟨fun u hu=>?_,fun j u h Z hf a W=>?_,fun b s=>?_,p.fx.ob,fun j u h A=>?_⟩⟩
 ·rw [fX (by intro f;cases f <;> rfl)]
  by_cases q:j ∈ is
  ·rw [if_pos q,if_pos q];exact pR (p.sl j)
  ·rw [if_neg q,if_neg q];exact p.sl j
 ·obtain ⟨r,e,k,_⟩:=val j u h
  rw [k.v];exact p.sv j r e
 ·obtain ⟨r,e,k,c⟩:=val j u h
  have ok:=p.okS j r e
  refine ⟨by rw [k.d,k.v,k.L];exact ok.rep,fun hf=>?_,fun c E=>t c (ok.src c (by rw [<- k.L];exact E))⟩
  obtain ⟨m,a,L',v1,v2,v3,v4⟩:=ok.own (fun q=>hf (k.z.mpr q))
  refine ⟨by rw [k.d];exact m,a,L',by rw [k.v];exact v1,by rw [k.L];exact v2,v3,fun hu=>?_⟩
  rcases c with ⟨q,rfl⟩ | ⟨nj,rfl⟩
  ·cases B:r.f with
   | u=>exact may a (v4 B)
   | l =>
    have A:=p.fx.lvS j r e B
    have A:(if j ∈ is then (g j).map (·.v) else G.lv j)=some r.v:=A
    rw [if_pos q] at A
    obtain ⟨y,M,ev⟩:=BB.mp A
    have P:=D j q y M
    obtain ⟨_,X,S,N,_,_,Q⟩:=(w.okS j y M).own (by rw [P];intro q;cases q)
    rw [ev,v1] at N;cases N
    exact Q P
   | z=>exact absurd (unlF_z.mpr B) hf
  ·exact may a (v4 hu)
 ·rcases BH.mp hu with hu | hu
  ·have ok:=p.okT u (BC _ hu)
   refine ⟨ok.rep,fun hf=>?_,fun c E=>t c (ok.src c E)⟩
   obtain ⟨m,a,L',v1,v2,v3,v4⟩:=ok.own hf
   exact ⟨m,a,L',v1,v2,v3,fun h=>may a (v4 h)⟩
  ·have ok:=w.okT u (O u hu)
   exact ⟨(p.okT (bo u) (BD _ (BN.mpr ⟨u,hu,rfl⟩))).rep,ok.own,ok.src⟩
 ·obtain ⟨a0,e1,k1,_⟩:=val i a I
  obtain ⟨b0,F,k2,_⟩:=val j b s
  exact k1.noRoot k2 (p.ss i j a0 b0 n e1 F)
 ·obtain ⟨a0,e1,k1,_⟩:=val j a h
  rcases BH.mp s with s | s
  ·exact k1.apart (Fk.refl b) (p.st j a0 e1 b (BC _ s))
  ·have:=p.st j a0 e1 (bo b) (BD _ (BN.mpr ⟨b,s,rfl⟩))
   exact k1.apart (y:=bo b) ⟨rfl,rfl,rfl,lentF_z.symm⟩ this
 ·have h:=List.pairwise_append.mp p.tt
  refine List.pairwise_append.mpr ⟨h.1,w.tt.sublist J,fun a I b s=>?_⟩
  exact (Fk.refl a).apart (y:=bo b) ⟨rfl,rfl,rfl,lentF_z.symm⟩ (h.2.2 a I (bo b) (BN.mpr ⟨b,s,rfl⟩))
 ·have s:=w.base b o e n
  refine p.base b o s fun q=>?_
  rcases may b (.inr q) with h | h
  ·rw [e] at h;cases h
  ·exact n h
 ·rcases BH.mp hu with hu | hu
  ·exact p.fx.frT u (BC _ hu)
  ·exact w.fx.frT u (O u hu)
 ·obtain ⟨r,e,k,_⟩:=val j u h
  exact p.fx.frS j r e Z (fun q=>hf (k.z.mpr q)) a (by rw [<- k.v];exact W)
 ·obtain ⟨o,U⟩:=w.fx.bin b s
  exact C b o U
 ·obtain ⟨r,e,k,c⟩:=val j u h
  rcases c with ⟨q,rfl⟩ | ⟨q,rfl⟩
  ·exact absurd A (zq _)
  ·have:=p.fx.lvS j u e A
   have this:(if j ∈ is then (g j).map (·.v) else G.lv j)=some u.v:=this
   rw [if_neg q] at this
   exact this
theorem yn (w:Wf K G H σ ρ T g) (b:∀ i ∈ is,∀ y,g i=some y->y.f=.u):∀ (H':Hp) (σ':St) (ρ2:Sto) (a:List It3) (g2:Nat->Option It3),Wf K (dU G H g is) H' σ' ρ2 a g2->∃ g3,Wf K G H' σ' (aP fN is ρ2) [] g3 :=
 fun H' σ' ρ2 a g2 c=>⟨_,by simpa using Wf.leave (T':=[]) (R:=[]) w b (List.nil_sublist T) (by simpa using c.sub (List.nil_sublist a))⟩
end
end L3
end
section
namespace L3
open PySem L2
section
variable {K:FG} {G G0:Gm} {W W0:D->Sto->Prop} {H H':Hp} {σ:St} {ρ ρ':Sto} {T T':List It3} {g:Nat->Option It3} {x y z:It3} {α β:Type}
def Walk (K:FG) (J:It) (H1:Hp) (ys:List It3) (ds:List D):Prop:=∃ els:List It3,(∀ x ∈ els,x.f=.z/\Rep K H1 x.d x.v x.L/\∀ c ∈ x.L,dZ ys c) /\
 ∀ (M:Addr->Prop) (H':Hp),(∀ b,M b->MutAt H1 b)->(∀ b o,H1 b=some o->¬ M b->H' b=some o)->(∀ y ∈ ys,∀ b ∈ y.L,¬ M b) ->
  (∀ (i:Nat) (d:D),ds[i]?=some d->J.go i H'/\∀ x a,J.yld i H' x a->∃ w,New K H' a (cQ els) w/\w.d=d/\w.f=.z/\w.v=x)/\J.stop ds.length H'
abbrev IM:=M3 (List R3 × List D)
def EndI (K:FG) (G:Gm) (W:D->Sto->Prop) (σ:St) (T:List It3) (ρ':Sto) (R:It->Hp->Prop):Except D (List R3 × List D)->Prop
 | .ok p=>∀ J H1 a Ts g1 ys,Wf K G H1 σ ρ' (Ts ++ T) g1->Ars σ p.1 a Ts->(∀ y ∈ ys,(∃ i,i ∈ pls p.1/\g1 i=some y)\/y ∈ Ts)->Walk K J H1 ys p.2->R J H1
 | .error e=>W e ρ'
def tI (K:FG) (G0:Gm) (W0:D->Sto->Prop) (m:IM):TI:=fun σ H R=>∃ G W,Le K G W G0 W0/\∃ ρ T g r ρ',Wf K G H σ ρ T g/\m ρ=some (r,ρ')/\EndI K G W σ T ρ' R r
theorem tI.seq (le:Le K G W G0 W0) (w:Wf K G H σ ρ T g) (e:ag m k ρ=some (r,ρ')) (he:∀ x,r=.error x->W x ρ') (h:∀ p ρ1,k p ρ1=some (r,ρ')->EndI K G W σ T ρ1 P (.ok p)):tI K G0 W0 m σ H P:=by
 unfold ag at e
 cases q:m ρ with
 | none=>rw [q] at e;exact nsE e
 | some p =>
  obtain ⟨o,ρ1⟩:=p
  rw [q] at e
  cases o with
  | error x=>cases e;exact ⟨G,W,le,ρ,T,g,.error x,ρ',w,q,he x rfl⟩
  | ok ra=>exact ⟨G,W,le,ρ,T,g,.ok ra,ρ1,w,q,h ra ρ1 e⟩
def Bnd (K:FG) (pr:Nat->Bool) (tg:TG) (bnd:D->Sto->Option Sto):Prop:=∀ (G:Gm) (H:Hp) (σ:St) (ρ ρ1:Sto) (T:List It3) (g:Nat->Option It3) (w:It3) (Q:St->Hp->Prop),G.pr=pr->w.f=.z->Wf K G H σ ρ (w :: T) g->bnd w.d ρ=some ρ1 ->
 (∀ σ2 g2,Wf K G H σ2 ρ1 T g2->Q σ2 H)->tg w.v σ H Q
def aM (i:Nat) (d:D) (ρ:Sto):Option Sto:=if i < ρ.length then some (ρ.set i (some (d,.z))) else none
theorem jw {i:Nat} (b:pr i=false):Bnd K pr (sK i) (aM i):=fun G H σ ρ ρ1 T g w Q a hz wf e q=>by
 unfold aM at e
 split at e
 ·rename_i hi
  cases e
  exact q _ _ (wf.store (f:=.z) hi (by rw [a];exact b) (.inr rfl) (by intro h;cases h))
 ·exact nsE e
def wU (K:FG) (pr:Nat->Bool) (tg:TGs) (bnd:List D->Sto->Option Sto):Prop:=∀ (G:Gm) (H:Hp) (σ:St) (ρ ρ1:Sto) (T:List It3) (g:Nat->Option It3) (ws:List It3) (Q:St->Hp->Prop),G.pr=pr->(∀ w ∈ ws,w.f=.z)->Wf K G H σ ρ (ws ++ T) g->bnd (ws.map (·.d)) ρ=some ρ1 ->
 (∀ σ2 g2,Wf K G H σ2 ρ1 T g2->Q σ2 H)->tg (ws.map (·.v)) σ H Q
def iH:List D->Sto->Option Sto
 | [],ρ=>some ρ
 | _,_=>none
def bS (b:D->Sto->Option Sto) (bs:List D->Sto->Option Sto):List D->Sto->Option Sto
 | [],_=>none
 | d :: ds,ρ=>match b d ρ with
  | some ρ1=>bs ds ρ1
  | none=>none
theorem qx:wU K pr gNil iH:=fun G H σ ρ ρ1 T g ws Q _ _ wf e q=>by
 cases ws with
 | nil=>cases e;exact ⟨rfl,q _ _ wf⟩
 | cons w ws=>exact nsE e
theorem ke (h1:Bnd K pr tg b) (h2:wU K pr tgs bs):wU K pr (zh tg tgs) (bS b bs):=fun G H σ ρ ρ1 T g ws Q a hz wf e q=>by
 cases ws with
 | nil=>exact nsE e
 | cons w ws =>
  have e:(match b w.d ρ with | some ρ1=>bs (ws.map (·.d)) ρ1 | none=>none)=some ρ1:=e
  cases c:b w.d ρ with
  | none=>rw [c] at e;exact nsE e
  | some ρ2 =>
   rw [c] at e
   exact ⟨w.v,ws.map (·.v),rfl,h1 G H σ ρ ρ2 (ws ++ T) g w _ a (hz w By) wf c fun σ2 g2 f=>h2 G H σ2 ρ2 ρ1 T g2 ws Q a (fun x h=>hz x (Bz _ h)) f e q⟩
def iG (n:Nat) (bs:List D->Sto->Option Sto):D->Sto->Option Sto
 | .tup ds,ρ=>if ds.length=n then bs ds ρ else none
 | _,_=>none
theorem Reps.split:∀ {ds:List D} {b:List V} {L:List Addr},Reps (Rep K H) ds b L->∃ ws:List It3,ws.map (·.d)=ds/\ws.map (·.v)=b/\(∀ w ∈ ws,w.f=.z/\Rep K H w.d w.v w.L/\∀ c ∈ w.L,c ∈ L)
 | _,_,_,.nil=>⟨[],rfl,rfl,fun _ h=>(by cases h)⟩
 | _,_,_,.cons (d:=d) (v:=v) (L:=L) r rs=>by
  obtain ⟨ws,h1,h2,h3⟩:=Reps.split rs
  refine ⟨⟨d,v,L,.z⟩ :: ws,by simp [h1],by simp [h2],fun w hw=>?_⟩
  rcases BE.mp hw with h | h
  ·subst h;exact ⟨rfl,r,fun c a=>BC _ a⟩
  ·exact ⟨(h3 w h).1,(h3 w h).2.1,fun c a=>BD _ ((h3 w h).2.2 c a)⟩
theorem Wf.pushAll:∀ {ws:List It3} {T:List It3},Wf K G H σ ρ T g->(∀ w ∈ ws,w.f=.z/\Rep K H w.d w.v w.L/\∀ c ∈ w.L,dH T g c/\(G.H0 c=none\/G.src c))->Wf K G H σ ρ (ws ++ T) g
 | [],T,w,_=>w
 | x :: ws,T,w,h=>by
  have i:=Wf.pushAll (ws:=ws) w fun y b=>h y (Bz _ b)
  obtain ⟨hz,e,a⟩:=h x By
  refine i.push (Ks:=fun c=>c ∈ x.L) ⟨Same.refl _,e,fun c h=>.inr h,fun q=>absurd hz q⟩ fun c m=>⟨⟨(a c m).1.1,fun y b hf=>?_⟩,(a c m).2⟩
  rcases BH.mp b with q | q
  ·exact absurd (h y (Bz _ q)).1 hf
  ·exact (a c m).1.2 y q hf
theorem sU {n:Nat} (h2:wU K pr tgs bs):Bnd K pr (gTup K n tgs) (iG n bs):=fun G H σ ρ ρ1 T g w Q j hz wf e q=>by
 have r:=(wf.okT w By).rep
 obtain ⟨d,v,L,f⟩:=w
 cases r with
 | @tup xs a vs _ hs rs =>
  have e:(if xs.length=n then bs xs ρ else none)=some ρ1:=e
  split at e
  ·rename_i l
   obtain ⟨ws,h1,h3,h⟩:=Reps.split rs
   refine ⟨a,vs,rfl,SqT.of hs,?_,?_⟩
   ·rw [<- h3,BJ,<- l,<- h1,BJ]
   ·have o:Wf K G H σ ρ (ws ++ (⟨.tup xs,.ref a,L,f⟩ :: T)) g:=wf.pushAll fun u hu=>⟨(h u hu).1,(h u hu).2.1,fun c k=>⟨wf.kid (y:=⟨.tup xs,.ref a,L,f⟩) (.inr By) ((h u hu).2.2 c k) fun hf=>absurd hz hf,(wf.okT _ By).src c ((h u hu).2.2 c k)⟩⟩
    have m:Wf K G H σ ρ (ws ++ T) g:=o.sub ((List.Sublist.refl ws).append (List.sublist_cons_self _ _))
    rw [<- h3]
    exact h2 G H σ ρ ρ1 T g ws Q j (fun u hu=>(h u hu).1) m (by rw [h1];exact e) q
  ·exact nsE e
 | non=>exact nsE e
 | bl b=>exact nsE e
 | int i=>exact nsE e
 | str s=>exact nsE e
 | lst _ _=>exact nsE e
 | lstF _ _=>exact nsE e
 | dK _ _ _=>exact nsE e
 | dT _ _ _=>exact nsE e
 | exc _ _=>exact nsE e
noncomputable def fA (bnd:D->Sto->Option Sto) (b:SM):List D->SM
 | []=>a9 .nx
 | d :: ds=>fun ρ=>match bnd d ρ with
  | none=>none
  | some ρ1=>ag b (fun f=>match f with
   | .nx=>fA bnd b ds
   | .ct=>fA bnd b ds
   | .br=>a9 .nx
   | .rt d f=>a9 (.rt d f)) ρ1
noncomputable def eK (im:IM) (bnd:D->Sto->Option Sto) (b:SM):SM:=ag im fun p=>fun ρ=>(fA bnd b p.2 (aP cP (us ρ (pls p.1)) ρ)).map fun r=>(r.1,aP fN (us ρ (pls p.1)) r.2)
theorem us_u (w:Wf K G H σ ρ T g):∀ i ∈ us ρ is,∀ y,g i=some y->y.f=.u:=fun i hi y a=>by
 have h:=(Ca.mp hi).2
 have s:=w.sl i
 rw [a] at s
 have s:some (y.d,y.f)=(ρ[i]?).join:=s
 rw [<- s] at h
 cases hf:y.f with
 | u=>rfl
 | l=>rw [hf] at h;cases h
 | z=>rw [hf] at h;cases h
theorem uD {i:Nat} (w:Wf K G H σ ρ T g) (hi:i ∈ is) (a:g i=some y) (hf:y.f=.u):i ∈ us ρ is:=by
 refine Ca.mpr ⟨hi,?_⟩
 have s:=w.sl i
 rw [a] at s
 have s:some (y.d,y.f)=(ρ[i]?).join:=s
 rw [<- s,hf]
theorem zE (V:Bnd K G0.pr tg bnd) (h:tS K G0 W0 (eK im bnd b) E σ H):tFor (tI K G0 W0 im) tg (tS K G0 W0 b) E σ H:=by
 refine h.use fun G W le ρ T g r ρ' w e q=>?_
 refine tI.seq le w e q.err fun p ρ1 e1=>?_
 intro J H1 vs Ts g1 ys t a1 az hw
 have P:=us_u (is:=pls p.1) t
 have ax:∀ i y,i ∈ pls p.1->g1 i=some y->y.f=.u->i ∈ us ρ1 (pls p.1):=fun i y hi ey hf=>uD t hi ey hf
 generalize us ρ1 (pls p.1)=is at e1 P ax
 have w2:=t.enter is
 obtain ⟨els,n,walk⟩:=hw
 have hM:∀ b,(∃ j y,j ∉ is/\g1 j=some y/\y.f=.u/\y.v=.ref b)->MutAt H1 b:=fun b ⟨j,y,_,ey,hf,D⟩=>by
  obtain ⟨_,a,L',v1,v2,_⟩:=(t.okS j y ey).own (by rw [hf];intro q;cases q)
  rw [D] at v1;cases v1
  exact (t.okS j y ey).rep.inH b (by rw [v2];exact By)
 have X:∀ y ∈ ys,∀ b ∈ y.L,¬ ∃ j y,j ∉ is/\g1 j=some y/\y.f=.u/\y.v=.ref b:=fun y A b V ⟨j,y',nj,B,hf,D⟩=>by
  have ar:y'.f ≠ .z:=by rw [hf];intro q;cases q
  rcases az y A with ⟨i,hi,ei⟩ | A
  ·by_cases ij:i=j
   ·subst ij
    rw [ei] at B;cases B
    exact nj (ax i y hi ei hf)
   ·exact t.ss j i y' y (Ne.symm ij) B ei ar b D V
  ·exact (t.st j y' B y (BC _ A)).1 ar b D V
 have ae:∀ y ∈ ys,Itm (Ts ++ T) g1 y:=fun y A=>by
  rcases az y A with ⟨i,_,ei⟩ | h
  ·exact .inl ⟨i,ei⟩
  ·exact .inr (BC _ h)
 have kid:∀ x ∈ els,∀ c ∈ x.L,dH ((Ts ++ T).map bo) (fun j=>if j ∈ is then (g1 j).map bo else g1 j) c/\(H1 c=none\/(G.H0 c=none\/G.src c)):=fun x hx c Z=>by
  obtain ⟨nr,sr⟩:=t.kids ae ((n x hx).2.2 c Z)
  refine ⟨⟨fun i z U hf D=>?_,fun z hz hf D=>?_⟩,.inr sr⟩
  ·have U:(if i ∈ is then (g1 i).map bo else g1 i)=some z:=U
   by_cases q:i ∈ is
   ·rw [if_pos q] at U
    obtain ⟨z0,e0,e1⟩:=BB.mp U
    subst e1
    exact nr.1 i z0 e0 (fun q=>hf (lentF_z.mpr q)) D
   ·rw [if_neg q] at U
    exact nr.1 i z U hf D
  ·obtain ⟨z0,h0,rfl⟩:=BN.mp hz
   exact nr.2 z0 h0 (fun q=>hf (lentF_z.mpr q)) D
 have w3:Wf K (dU G H1 g1 is) H1 σ (aP cP is ρ1) (els ++ (Ts ++ T).map bo) (fun j=>if j ∈ is then (g1 j).map bo else g1 j):=w2.pushAll fun x hx=>⟨(n x hx).1,(n x hx).2.1,fun c Z=>kid x hx c Z⟩
 cases e2:fA bnd b p.2 (aP cP is ρ1) with
 | none=>rw [e2] at e1;exact nsE e1
 | some rr =>
  obtain ⟨r2,ρ3⟩:=rr
  rw [e2] at e1
  have er:r2=r/\aP fN is ρ3 = ρ':=by cases e1;exact ⟨rfl,rfl⟩
  obtain ⟨rfl,eρ⟩:=er
  have leave:∀ {σ':St} {H':Hp} {ρ2:Sto} {g2:Nat->Option It3} {R:List It3},Wf K (dU G H1 g1 is) H' σ' ρ2 (R ++ (els ++ (Ts ++ T).map bo)) g2->∃ g3,Wf K G H' σ' (aP fN is ρ2) (R ++ T) g3:=fun {σ' H' ρ2 g2 R} F =>
   ⟨_,Wf.leave (T:=Ts ++ T) (T':=T) (R:=R) t P (BM Ts T) (F.sub ((List.Sublist.refl R).append (by
    rw [List.map_append]
    exact (BM (Ts.map bo) (T.map bo)).trans (BM els _))))⟩
  have a3:Le K (dU G H1 g1 is) (fun e ρ2=>W e (aP fN is ρ2)) G W:=⟨rfl,fun H' σ' ρ2 T2 g2 e F he=>by
   obtain ⟨g3,w5⟩:=yn t P H' σ' ρ2 T2 g2 F
   exact ⟨_,[],g3,w5,he⟩⟩
  have s:Le K (dU G H1 g1 is) (fun e ρ2=>W e (aP fN is ρ2)) G0 W0:=a3.trans le
  refine ⟨fun k m σ' H'=>k<=p.2.length/\m=p.2.length - k/\∃ ρ2 g2,Wf K (dU G H1 g1 is) H' σ' ρ2 (els ++ (Ts ++ T).map bo) g2/\fA bnd b (p.2.drop k) ρ2=some (r2,ρ3),⟨_,Nat.zero_le _,rfl,_,_,w3,e2⟩,?_⟩
  rintro k m σ' H' ⟨hk,rfl,ρ2,g2,F,e4⟩
  obtain ⟨a4,S⟩:=walk _ H' hM (fun b o V hn=>F.base b o V hn) X
  by_cases C:k < p.2.length
  ·obtain ⟨d,hd⟩:∃ d,p.2[k]?=some d:=⟨_,BF C⟩
   have O:p.2.drop k=d :: p.2.drop (k+1):=by
    rw [List.drop_eq_getElem_cons C]
    rw [BF C] at hd
    cases hd;rfl
   rw [O] at e4
   obtain ⟨go,yld⟩:=a4 k d hd
   refine .inr ⟨go,fun σ5 H5=>∃ ρ5 g5,Wf K (dU G H1 g1 is) H5 σ5 ρ5 (els ++ (Ts ++ T).map bo) g5/\fA bnd b (p.2.drop (k+1)) ρ5=some (r2,ρ3),fun σ5 H5 ⟨ρ5,g5,w5,l⟩=>⟨p.2.length - (k+1),by omega,C,rfl,ρ5,g5,w5,l⟩,fun x N A=>?_⟩
   obtain ⟨u,nu,ud,uf,uv⟩:=yld x N A
   have w5:Wf K (dU G H1 g1 is) N σ' ρ2 (u :: (els ++ (Ts ++ T).map bo)) g2:=F.push nu fun c Z=>F.alls (ys:=els) (fun y A=>⟨.inr (BC _ A),(n y A).1⟩) Z
   have l:(match bnd d ρ2 with
    | none=>none
    | some ρ1=>ag b (fun f=>match f with
     | .nx=>fA bnd b (p.2.drop (k+1))
     | .ct=>fA bnd b (p.2.drop (k+1))
     | .br=>a9 .nx
     | .rt d f=>a9 (.rt d f)) ρ1)=some (r2,ρ3):=e4
   cases e6:bnd d ρ2 with
   | none=>rw [e6] at l;exact nsE l
   | some ρ6 =>
    rw [e6] at l
    dsimp only at l
    rw [<- uv]
    refine V (dU G H1 g1 is) N σ' ρ2 ρ6 _ g2 u _ le.pr uf w5 (by rw [ud];exact e6) fun σ6 g6 w6=>?_
    unfold ag at l
    cases M:b ρ6 with
    | none=>rw [M] at l;exact nsE l
    | some pr7 =>
     obtain ⟨o7,ρ7⟩:=pr7
     rw [M] at l
     cases o7 with
     | error er =>
      cases l
      refine tS.mk (r:=.error er) s w6 M ?_
      show W er (aP fN is _)
      rw [eρ];exact q
     | ok f =>
      cases f with
      | nx=>exact tS.mk (r:=.ok .nx) s w6 M fun σ8 H8 Y Q=>⟨ρ7,Y,Q,l⟩
      | ct=>exact tS.mk (r:=.ok .ct) s w6 M fun σ8 H8 Y Q=>⟨ρ7,Y,Q,l⟩
      | br =>
       cases l
       refine tS.mk (r:=.ok .br) s w6 M fun σ8 H8 Y Q=>?_
       obtain ⟨g9,I⟩:=leave (R:=[]) Q
       rw [eρ] at I
       exact q _ _ _ I
      | rt d' f' =>
       cases l
       refine tS.mk (r:=.ok (.rt d' f')) s w6 M fun x8 σ8 H8 Y Q x1 x2=>?_
       obtain ⟨g9,I⟩:=leave (R:=[x8]) Q
       rw [eρ] at I
       exact q x8 _ _ _ I x1 x2
  ·have ek:k=p.2.length:=by omega
   subst ek
   rw [List.drop_length] at e4
   cases e4
   obtain ⟨g9,I⟩:=leave (R:=[]) F
   rw [eρ] at I
   exact .inl ⟨S,q _ _ _ I⟩
end
end L3
end
section
namespace L3
open PySem L2
def uq (ix:List (Option Nat)) (ρ:Sto):Sto:=ix.map fun o=>match o with
 | some i=>(ρ[i]?).join
 | none=>none
def uncap:List (Option Nat)->Sto->Sto->Option Sto
 | [],_,ρ=>some ρ
 | none :: ix,τ,ρ=>uncap ix τ.tail ρ
 | some i :: ix,τ,ρ=>match (ρ[i]?).join,τ.head? with
  | some (_,f),some (some (d',f'))=>if f'=f\/f'=.z then uncap ix τ.tail (ρ.set i (some (d',f'))) else none
  | _,_=>none
noncomputable def cn (bnd:D->Sto->Option Sto) (c:M3 Bool) (elt:EM):List D->M3 (List D)
 | []=>a9 []
 | d :: ds=>fun τ=>match bnd d τ with
  | none=>none
  | some τ1=>ag c (fun b=>if b then ag elt (fun r=>ag (dP r) fun p=>ag (cn bnd c elt ds) fun l=>a9 (p.1 :: l)) else cn bnd c elt ds) τ1
def dl (im:IM) (bnd:D->Sto->Option Sto) (c:M3 Bool) (elt:EM) (ix:List (Option Nat)):EM:=ag im fun p=>fun ρ =>
 match cn bnd c elt p.2 (uq ix (aP cP (us ρ (pls p.1)) ρ)) with
 | some (.ok ds,τ)=>if p.2.length < 16777216 then (uncap ix τ (aP cP (us ρ (pls p.1)) ρ)).map fun ρ2=>(.ok (.val (.lst ds) .u),aP fN (us ρ (pls p.1)) ρ2) else none
 | _=>none
section
variable {K:FG} {G G0:Gm} {W W0:D->Sto->Prop} {H H':Hp} {σ τ:St} {ρ ρ':Sto} {T T':List It3} {g:Nat->Option It3} {x y z:It3} {α β:Type} {ix:List (Option Nat)}
def Inj (ix:List (Option Nat)):Prop:=∀ (j k i:Nat),ix[j]?=some (some i)->ix[k]?=some (some i)->j=k
def yw (ix:List (Option Nat)) (g:Nat->Option It3) (j:Nat):Option It3:=(ix[j]?).join.bind g
def qU (ix:List (Option Nat)) (n:Nat) (g:Nat->Option It3):List It3:=(List.range n).filterMap fun i=>if some i ∈ ix then none else g i
def wE (G:Gm) (ix:List (Option Nat)) (σ:St):Gm:=⟨G.H0,G.bw,fun j=>((ix[j]?).join).isSome,cap ix σ,fun _=>none,G.src,fun j=>(ix[j]?).join.bind G.lv⟩
theorem dM {j:Nat} (h:yw ix g j=some x):∃ i,ix[j]?=some (some i)/\g i=some x:=by
 unfold yw at h
 cases e:ix[j]? with
 | none=>rw [e] at h;exact nsE h
 | some o =>
  rw [e] at h
  cases o with
  | none=>exact nsE h
  | some i=>exact ⟨i,rfl,h⟩
theorem lK {n:Nat} (h:x ∈ qU ix n g):∃ i,some i ∉ ix/\g i=some x:=by
 obtain ⟨i,_,e⟩:=List.mem_filterMap.mp h
 split at e
 ·exact nsE e
 ·rename_i a;exact ⟨i,a,e⟩
theorem vA {n i:Nat} (hi:i < n) (a:some i ∉ ix) (e:g i=some x):x ∈ qU ix n g:=List.mem_filterMap.mpr ⟨i,List.mem_range.mpr hi,by rw [if_neg a];exact e⟩
theorem Wf.cap (w:Wf K G H σ ρ T g) (m:Inj ix):Wf K (wE G ix σ) H (cap ix σ) (uq ix ρ) (qU ix ρ.length g ++ T) (yw ix g):=by
 have ne:∀ {i j:Nat},ix[j]?=some (some i)->∀ k,some k ∉ ix->i ≠ k:=fun e k l q=>l (by rw [<- q];exact BL e)
 refine ⟨by unfold L2.cap uq;rw [BJ,BJ],fun j=>?_,fun j x h=>?_,fun j x h=>?_,fun x s=>?_,fun j k x y n s t=>?_,fun j x h y t=>?_,?_,w.base,fun _ _=>rfl,⟨fun _ _ _ _ _=>rfl,fun _ _ _ _ _ _ _=>rfl,w.fx.bin,fun b o e=>(by cases e),fun j x h u=>?_⟩⟩
 ·unfold yw uq
  rw [BO]
  cases e:ix[j]? with
  | none=>rfl
  | some o =>
   cases o with
   | none=>rfl
   | some i=>exact w.sl i
 ·obtain ⟨i,e1,c⟩:=dM h
  unfold L2.cap
  rw [BO,e1]
  show some ((σ[i]?).getD none)=_
  rw [w.sv i x c];rfl
 ·obtain ⟨i,_,c⟩:=dM h
  have ok:=w.okS i x c
  exact ⟨ok.rep,ok.own,ok.src⟩
 ·rcases BH.mp s with h | h
  ·obtain ⟨i,_,e⟩:=lK h
   have ok:=w.okS i x e
   exact ⟨ok.rep,ok.own,ok.src⟩
  ·have ok:=w.okT x h
   exact ⟨ok.rep,ok.own,ok.src⟩
 ·obtain ⟨i,e1,c⟩:=dM s
  obtain ⟨A,z,v⟩:=dM t
  exact w.ss i A x y (fun q=>n (m j k i e1 (q ▸ z))) c v
 ·obtain ⟨i,e1,c⟩:=dM h
  rcases BH.mp t with q | q
  ·obtain ⟨k,l,e⟩:=lK q
   have:=ne e1 k l
   exact ⟨w.ss i k x y this c e,w.ss k i y x (Ne.symm this) e c⟩
  ·exact w.st i x c y q
 ·refine List.pairwise_append.mpr ⟨?_,w.tt,fun a r b p=>?_⟩
  ·unfold qU
   rw [List.pairwise_filterMap]
   refine List.pairwise_lt_range.imp fun {i k} lt a r b p=>?_
   have d:(if some i ∈ ix then none else g i)=some a:=r
   have f:(if some k ∈ ix then none else g k)=some b:=p
   split at d
   ·cases d
   ·split at f
    ·cases f
    ·exact ⟨w.ss i k a b (BR lt) d f,w.ss k i b a (Nat.ne_of_gt lt) f d⟩
  ·obtain ⟨k,l,e⟩:=lK r
   exact w.st k a e b p
 ·obtain ⟨i,e1,c⟩:=dM h
  show (ix[j]?).join.bind G.lv=_
  rw [e1]
  exact w.fx.lvS i x c u
theorem Wf.perm (w:Wf K G H σ ρ T g) (p:T.Perm T'):Wf K G H σ ρ T' g :=
 ⟨w.len,w.sl,w.sv,w.okS,fun x a=>w.okT x (p.mem_iff.mpr a),w.ss,fun i x e y b=>w.st i x e y (p.mem_iff.mpr b),(p.pairwise_iff fun h=>Apart3.symm h).mp w.tt,w.base,w.pro,w.fx.sub fun x a=>p.mem_iff.mpr a⟩
theorem il:∀ {ix:List (Option Nat)} {τ ρ ρ2:Sto},uncap ix τ ρ=some ρ2->Inj ix->ρ2.length = ρ.length/\(∀ i,some i ∉ ix->(ρ2[i]?).join=(ρ[i]?).join) /\
  ∀ (j i:Nat),ix[j]?=some (some i)->∃ p q,(ρ[i]?).join=some p/\(τ[j]?).join=some q/\(ρ2[i]?).join=some q/\(q.2=p.2\/q.2=.z)
 | [],τ,ρ,ρ2,e,_=>by cases e;exact ⟨rfl,fun _ _=>rfl,fun j i h=>by simp at h⟩
 | none :: ix,τ,ρ,ρ2,e,hij=>by
  unfold uncap at e
  obtain ⟨h1,h2,h3⟩:=il e fun j k i a b=>by
   have:=hij (j+1) (k+1) i (by simpa using a) (by simpa using b)
   omega
  refine ⟨h1,fun i hi=>h2 i fun q=>hi (Bz _ q),fun j i h=>?_⟩
  cases j with
  | zero=>simp at h
  | succ j =>
   obtain ⟨p,q,a,b,c⟩:=h3 j i (by simpa using h)
   exact ⟨p,q,a,by rw [List.getElem?_tail] at b;exact b,c⟩
 | some i0 :: ix,τ,ρ,ρ2,e,hij=>by
  unfold uncap at e
  cases e1:(ρ[i0]?).join with
  | none=>rw [e1] at e;exact nsE e
  | some p =>
   obtain ⟨d,f⟩:=p
   cases n:τ.head? with
   | none=>rw [e1,n] at e;exact nsE e
   | some o =>
    cases o with
    | none=>rw [e1,n] at e;exact nsE e
    | some q =>
     obtain ⟨d',s⟩:=q
     rw [e1,n] at e
     dsimp only at e
     split at e
     ·rename_i hf
      have g:=dE e1
      have r:some i0 ∉ ix:=fun m=>by
       obtain ⟨k,u,t⟩:=List.mem_iff_getElem.mp m
       have:=hij 0 (k+1) i0 rfl (by simp [u,t])
       omega
      obtain ⟨h1,h2,h3⟩:=il e fun j k i a b=>by
       have:=hij (j+1) (k+1) i (by simpa using a) (by simpa using b)
       omega
      refine ⟨by rw [h1,List.length_set],fun i hi=>?_,fun j i h=>?_⟩
      ·rw [h2 i fun q=>hi (Bz _ q),bL g,if_neg (fun q=>hi (by rw [q];exact By))]
      ·cases j with
       | zero =>
        simp at h
        subst h
        refine ⟨(d,f),(d',s),e1,?_,?_,hf⟩
        ·rw [List.head?_eq_getElem?] at n;rw [n];rfl
        ·rw [h2 i0 r,bL g,if_pos rfl]
       | succ j =>
        have l:ix[j]?=some (some i):=by simpa using h
        obtain ⟨p,q,a,b,c⟩:=h3 j i l
        have ii:i ≠ i0:=fun z=>r (by rw [<- z];exact BL l)
        rw [bL g,if_neg ii] at a
        exact ⟨p,q,a,by rw [List.getElem?_tail] at b;exact b,c⟩
     ·exact nsE e
theorem Wf.uncap (w:Wf K G H σ ρ T g) (hH:∀ b o,H b=some o->G.H0 b=some o) (V:Inj ix) (e:L3.uncap ix τρ ρ=some ρ2) (hR:∀ x ∈ R,x.f=.z) (t:Wf K (wE G ix σ) H' τ' τρ (R ++ (qU ix ρ.length g ++ T)) gC) :
  ∃ g2,Wf K G H' σ ρ2 (R ++ T) g2:=by
 obtain ⟨J,h2,h3⟩:=il e V
 let inv (i:Nat):Option Nat:=(List.range ix.length).find? fun j=>decide (ix[j]?=some (some i))
 have l:∀ i j,inv i=some j->ix[j]?=some (some i):=fun i j h=>by simpa using List.find?_some h
 have r:∀ i,inv i=none->some i ∉ ix:=fun i h m=>by
  obtain ⟨k,Z,ek⟩:=List.mem_iff_getElem.mp m
  have:=List.find?_eq_none.mp h k (List.mem_range.mpr Z)
  simp [Z,ek] at this
 let g2 (i:Nat):Option It3:=match inv i with | some j=>gC j | none=>g i
 have val:∀ i u,g2 i=some u->(∃ j p q,ix[j]?=some (some i)/\gC j=some u/\(ρ[i]?).join=some p/\(τρ[j]?).join=some q/\(q.2=p.2\/q.2=.z))\/(some i ∉ ix/\g i=some u):=fun i u h=>by
  have h':(match inv i with | some j=>gC j | none=>g i)=some u:=h
  cases D:inv i with
  | none=>rw [D] at h';exact .inr ⟨r i D,h'⟩
  | some j =>
   rw [D] at h'
   obtain ⟨p,q,a,b,_,c⟩:=h3 j i (l i j D)
   exact .inl ⟨j,p,q,l i j D,h',a,b,c⟩
 have out:∀ i u,some i ∉ ix->g i=some u->u ∈ qU ix ρ.length g:=fun i u C e=>by
  have s:=w.sl i
  rw [e] at s
  exact vA (dE s.symm) C e
 have back:∀ i j u,ix[j]?=some (some i)->gC j=some u->σ[i]?=some (some u.v):=fun i j u B A=>by
  have a:=t.sv j u A
  have b:=t.pro j (by show ((ix[j]?).join).isSome=true;rw [B];rfl)
  rw [a] at b
  have b:some (some u.v)=(L2.cap ix σ)[j]?:=b
  unfold L2.cap at b
  rw [BO,B] at b
  have b:some (some u.v)=some ((σ[i]?).getD none):=b
  cases q:σ[i]? with
  | none=>rw [q] at b;cases b
  | some o=>rw [q] at b;cases b;rfl
 have P:∀ i j u p q,ix[j]?=some (some i)->gC j=some u->(ρ[i]?).join=some p->(τρ[j]?).join=some q->(q.2=p.2\/q.2=.z)->∃ y,g i=some y/\y.v=u.v/\(u.f=y.f\/u.f=.z):=fun i j u p q B A N eq hf=>by
  obtain ⟨y,O,Q,L,y4⟩:=w.slot (d:=p.1) (f:=p.2) N
  have b:=back i j u B A
  rw [y4] at b
  have s:=t.sl j
  rw [A,eq] at s
  have s:some (u.d,u.f)=some q:=s
  refine ⟨y,O,by injection b with b;injection b,?_⟩
  rw [L,show u.f=q.2 by injection s with s;rw [<- s]]
  exact hf
 refine ⟨g2,⟨by rw [J];exact w.len,fun i=>?_,fun i u h=>?_,fun i u h=>?_,fun u hu=>?_,fun i k a b n ha E=>?_,fun i a h b E=>?_,t.tt.sublist ((List.Sublist.refl R).append (BM _ T)),t.base,w.pro,⟨fun u hu hf=>?_,fun i u h hp hf a Y=>?_,t.fx.bin,fun b o E=>?_,fun i u h J=>?_⟩⟩⟩
 ·show (match inv i with | some j=>gC j | none=>g i).map _=_
  cases D:inv i with
  | none=>rw [h2 i (r i D)];exact w.sl i
  | some j =>
   obtain ⟨p,q,a,b,c,_⟩:=h3 j i (l i j D)
   rw [c,<- b];exact t.sl j
 ·rcases val i u h with ⟨j,p,q,B,A,_⟩ | ⟨C,e⟩
  ·exact back i j u B A
  ·exact w.sv i u e
 ·rcases val i u h with ⟨j,p,q,B,A,_⟩ | ⟨C,e⟩
  ·have ok:=t.okS j u A
   exact ⟨ok.rep,ok.own,ok.src⟩
  ·have ok:=t.okT u (BD _ (BC _ (out i u C e)))
   exact ⟨ok.rep,ok.own,ok.src⟩
 ·have ok:=t.okT u (by
   rcases BH.mp hu with q | q
   ·exact BC _ q
   ·exact BD _ (BD _ q))
  exact ⟨ok.rep,ok.own,ok.src⟩
 ·rcases val i a ha with ⟨j,p,q,B,A,_⟩ | ⟨C,e⟩
  ·rcases val k b E with ⟨S,p',q',F,I,_⟩ | ⟨M,U⟩
   ·exact t.ss j S a b (fun z=>n (by subst z;rw [B] at F;injection F with z;injection z)) A I
   ·exact (t.st j a A b (BD _ (BC _ (out k b M U)))).1
  ·rcases val k b E with ⟨S,p',q',F,I,_⟩ | ⟨M,U⟩
   ·exact (t.st S b I a (BD _ (BC _ (out i a C e)))).2
   ·exact w.ss i k a b n e U
 ·have X:b ∈ R ++ (qU ix ρ.length g ++ T):=by
   rcases BH.mp E with q | q
   ·exact BC _ q
   ·exact BD _ (BD _ q)
  rcases val i a h with ⟨j,p,q,B,A,_⟩ | ⟨C,e⟩
  ·exact t.st j a A b X
  ·rcases BH.mp E with q | q
   ·exact ((List.pairwise_append.mp t.tt).2.2 b q a (BC _ (out i a C e))).symm
   ·exact w.st i a e b q
 ·rcases BH.mp hu with q | q
  ·exact absurd (hR u q) hf
  ·exact w.fx.frT u q hf
 ·rcases val i u h with ⟨j,p,q,B,A,N,eq,W⟩ | ⟨C,e⟩
  ·obtain ⟨y,O,Q,L⟩:=P i j u p q B A N eq W
   refine w.fx.frS i y O hp (fun z=>hf ?_) a (by rw [Q];exact Y)
   rcases L with h | h
   ·rw [h];exact z
   ·exact h
  ·exact w.fx.frS i u e hp hf a Y
 ·obtain ⟨o',ho⟩:=w.fx.ob b o E
  have h0:=hH b o' ho
  by_cases q:G.bw b
  ·exact t.fx.bin b q
  ·exact ⟨o',t.base b o' h0 q⟩
 ·rcases val i u h with ⟨j,p,q,B,A,N,eq,W⟩ | ⟨C,e⟩
  ·obtain ⟨y,O,Q,L⟩:=P i j u p q B A N eq W
   rw [<- Q]
   refine w.fx.lvS i y O ?_
   rcases L with h | h
   ·rw [<- h];exact J
   ·rw [h] at J;cases J
  ·exact w.fx.lvS i u e J
theorem ul {J:It} {H1:Hp} {ys els:List It3} {ds:List D} {bnd:D->Sto->Option Sto} {c:M3 Bool} {elt:EM} {tg:TG} {tc:TT} {te:TE} {Gc:Gm} {a:List It3} {g:List D} {τρ τρ':Sto} {gC:Nat->Option It3} {Z:List V->Hp->Prop} {M:Addr->Prop}
  (hz:(16777216:Nat)=sizeLine) (G:∀ x ∈ els,x ∈ a/\x.f=.z)
  (T:∀ H',(∀ b o,H1 b=some o->¬ Gc.bw b->H' b=some o)->(∀ (i:Nat) (d:D),ds[i]?=some d->J.go i H'/\∀ x j,J.yld i H' x j->∃ w,New K H' j (cQ els) w/\w.d=d/\w.f=.z/\w.v=x)/\J.stop ds.length H')
  (h0:Gc.H0=H1) (hb:Bnd K Gc.pr tg bnd) (Y:∀ σ H Q,tT K Gc (fun _ _=>False) c σ H Q->tc σ H Q) (ae:∀ σ H Q,tE K Gc (fun _ _=>False) elt σ H Q->te σ H Q)
  (hlen:ds.length < 16777216) (w:Wf K Gc H1 τ τρ a gC) (e:cn bnd c elt ds τρ=some (.ok g,τρ'))
  (hZ:∀ (us:List It3) (τ':St) (H':Hp) (g':Nat->Option It3),(∀ x ∈ us,x.f=.z)->us.map (·.d)=g->Wf K Gc H' τ' τρ' (us ++ a) g'->Z (us.map (·.v)) H'):qz J tg tc te Z τ H1:=by
 refine ⟨fun i m U τ' H'=>i<=ds.length/\m=ds.length - i/\U.length<=i/\∃ (us:List It3) (ρ2:Sto) (g2:Nat->Option It3) (r:List D),(∀ x ∈ us,x.f=.z)/\us.map (·.v)=U/\Wf K Gc H' τ' ρ2 (us ++ a) g2/\cn bnd c elt (ds.drop i) ρ2=some (.ok r,τρ')/\us.map (·.d) ++ r=g,⟨_,Nat.zero_le _,rfl,BP _,[],τρ,gC,g,fun _ h=>(by cases h),rfl,w,e,rfl⟩,?_⟩
 rintro i m U τ1 H2 ⟨hi,rfl,ax,us,ρ2,g2,r,t,q,N,O,n⟩
 refine ⟨by omega,?_⟩
 obtain ⟨ar,B⟩:=T H2 fun b o W hn=>N.base b o (by rw [h0];exact W) hn
 by_cases k:i < ds.length
 ·obtain ⟨d,hd⟩:∃ d,ds[i]?=some d:=⟨_,BF k⟩
  have s:ds.drop i=d :: ds.drop (i+1):=by
   rw [List.drop_eq_getElem_cons k]
   rw [BF k] at hd
   cases hd;rfl
  rw [s] at O
  obtain ⟨go,yld⟩:=ar i d hd
  refine .inr ⟨go,fun A τ5 P=>A.length<=i+1/\∃ (us:List It3) (ρ5:Sto) (R:Nat->Option It3) (r:List D),(∀ x ∈ us,x.f=.z)/\us.map (·.v)=A/\Wf K Gc P τ5 ρ5 (us ++ a) R/\cn bnd c elt (ds.drop (i+1)) ρ5=some (.ok r,τρ')/\us.map (·.d) ++ r=g,
   fun A τ5 P ⟨S,h5⟩=>⟨ds.length - (i+1),by omega,k,rfl,S,h5⟩,fun x j F=>?_⟩
  obtain ⟨u,nu,ud,uf,uv⟩:=yld x j F
  have w3:Wf K Gc j τ1 ρ2 (u :: (us ++ a)) g2:=N.push nu fun c hc=>N.alls (ys:=els) (fun y F=>⟨.inr (BD _ (G y F).1),(G y F).2⟩) hc
  have I:(match bnd d ρ2 with
   | none=>none
   | some τ1=>ag c (fun b=>if b then ag elt (fun r=>ag (dP r) fun p=>ag (cn bnd c elt (ds.drop (i+1))) fun l=>a9 (p.1 :: l)) else cn bnd c elt (ds.drop (i+1))) τ1)=some (.ok r,τρ'):=O
  cases e4:bnd d ρ2 with
  | none=>rw [e4] at I;exact nsE I
  | some ρ3 =>
   rw [e4] at I
   dsimp only at I
   rw [<- uv]
   refine hb Gc j τ1 ρ2 ρ3 _ g2 u _ rfl uf w3 (by rw [ud];exact e4) fun τ4 g4 w4=>?_
   refine Y _ _ _ (tT.seq (Le.refl K Gc _) w4 I (fun x hx=>by cases hx) fun b ρ5 L P R w5=>?_)
   cases b with
   | false =>
    simp only [B9,if_false] at L ⊢
    exact ⟨by omega,us,ρ5,R,r,t,q,w5,L,n⟩
   | true =>
    simp only [if_true] at L ⊢
    refine ae _ _ _ (tE.seq (Le.refl K Gc _) w5 L (fun x hx=>by cases hx) fun ra ρ6 e6 v H6 ⟨Ts,g6,w6,a6⟩=>?_)
    obtain ⟨p,ρ7,g7,E,C,w7,f1,f2,_,f3⟩:=a6.take w6 e6
    have w8:=Wf.lowT (Ts:=[E]) w7
    unfold ag at C
    cases X:cn bnd c elt (ds.drop (i+1)) ρ7 with
    | none=>rw [X] at C;exact nsE C
    | some pr =>
     obtain ⟨o,ρ8⟩:=pr
     rw [X] at C
     cases o with
     | error x=>cases C
     | ok l =>
      cases C
      refine ⟨by rw [BZ];simp;omega,us ++ [dh E],ρ7,g7,l,fun y F=>?_,by rw [List.map_append,q,<- f3];rfl,?_,X,?_⟩
      ·rcases BH.mp F with h | h
       ·exact t y h
       ·rw [B8.mp h];rfl
      ·exact w8.perm (by
        show ([dh E] ++ (us ++ a)).Perm (us ++ [dh E] ++ a)
        rw [<- List.append_assoc]
        exact (List.perm_append_comm).append_right a)
      ·rw [List.map_append,List.append_assoc]
       show us.map (·.d) ++ ((dh E).d :: l)=g
       rw [show (dh E).d=p.1 from f1]
       exact n
 ·have ei:i=ds.length:=by omega
  subst ei
  rw [List.drop_length] at O
  cases O
  rw [List.append_nil] at n
  subst q
  exact .inl ⟨B,hZ us τ1 H2 g2 t n N⟩
end
end L3
end
section
namespace L3
open PySem L2
section
variable {K:FG} {G G0:Gm} {W W0:D->Sto->Prop} {H H':Hp} {σ τ:St} {ρ ρ':Sto} {T T':List It3} {g:Nat->Option It3} {x y z:It3} {α β:Type} {ix:List (Option Nat)}
def bq (ix:List (Option Nat)):Gm:=⟨fun _=>none,fun _=>False,fun j=>((ix[j]?).join).isSome,[],fun _=>none,fun _=>False,fun _=>none⟩
abbrev noX:D->Sto->Prop:=fun _ _=>False
theorem sG (h:G1.pr=(bq ix).pr) (le:Le K G W G1 noX):Le K G W (bq ix) noX:=⟨le.pr.trans h,fun H σ ρ T g e w q=>by
 obtain ⟨_,_,_,_,f⟩:=le.ex H σ ρ T g e w q
 exact f.elim⟩
theorem xk (h:G1.pr=(bq ix).pr) (q:tE K G1 noX m σ H Q):tE K (bq ix) noX m σ H Q:=by
 obtain ⟨G,W,le,r⟩:=q
 exact ⟨G,W,sG h le,r⟩
theorem wZ (h:G1.pr=(bq ix).pr) (q:tT K G1 noX m σ H Q):tT K (bq ix) noX m σ H Q:=by
 obtain ⟨G,W,le,r⟩:=q
 exact ⟨G,W,sG h le,r⟩
def kc:M3 Bool:=a9 true
theorem zv (h:tT K G0 W0 kc σ H Q):tYes σ H Q:=by
 refine h.use fun G W le ρ T g o ρ' w e q=>?_
 cases e
 exact q _ _ w
theorem j2:∀ {ds a:List D} {τρ τρ':Sto},cn bnd c elt ds τρ=some (.ok a,τρ')->a.length<=ds.length
 | [],a,τρ,τρ',e=>by cases e;exact BP _
 | d :: ds,a,τρ,τρ',e=>by
  unfold cn at e
  split at e
  ·exact nsE e
  ·rename_i τ1 _
   unfold ag at e
   split at e
   ·exact nsE e
   ·cases e
   ·rename_i b τ2 _
    cases b with
    | false =>
     simp only [B9,if_false] at e
     have:=j2 e
     simp;omega
    | true =>
     simp only [if_true] at e
     split at e
     ·exact nsE e
     ·cases e
     ·split at e
      ·exact nsE e
      ·cases e
      ·split at e
       ·exact nsE e
       ·cases e
       ·rename_i l τ5 f
        cases e
        have:=j2 f
        simp;omega
theorem qm (hz:(16777216:Nat)=sizeLine) (N:Inj ix) (U:Bnd K (bq ix).pr tg bnd) (le:Le K G W G0 W0) (w:Wf K G H σ ρ T g) (e:dl im bnd c elt ix ρ=some (o,ρ')) (he:∀ x,o=.error x->W x ρ') (hZ:∀ (us:List It3) (H':Hp) (g':Nat->Option It3) (Ts:List It3) (ds:List D),o=.ok (.val (.lst ds) .u)->(∀ x ∈ us,x.f=.z)->us.map (·.d)=ds->us.length<=16777216->Wf K G H' σ ρ' (us ++ T) g'->Z (us.map (·.v)) H') :
  tI K G0 W0 im σ H fun J H1=>qz J tg (tT K (bq ix) noX c) (tE K (bq ix) noX elt) Z (cap ix σ) H1:=by
 refine tI.seq le w e he fun p ρ1 e1=>?_
 intro J H1 vs Ts g1 ys l a1 P hw
 have F:=us_u (is:=pls p.1) l
 have O:∀ i y,i ∈ pls p.1->g1 i=some y->y.f=.u->i ∈ us ρ1 (pls p.1):=fun i y hi V hf=>uD l hi V hf
 generalize us ρ1 (pls p.1)=is at e1 F O
 have w2:=l.enter is
 obtain ⟨els,k,walk⟩:=hw
 have hM:∀ b,(∃ j y,j ∉ is/\g1 j=some y/\y.f=.u/\y.v=.ref b)->MutAt H1 b:=fun b ⟨j,y,_,V,hf,n⟩=>by
  obtain ⟨_,a,L',v1,v2,_⟩:=(l.okS j y V).own (by rw [hf];intro q;cases q)
  rw [n] at v1;cases v1
  exact (l.okS j y V).rep.inH b (by rw [v2];exact By)
 have t:∀ y ∈ ys,∀ b ∈ y.L,¬ ∃ j y,j ∉ is/\g1 j=some y/\y.f=.u/\y.v=.ref b:=fun y S b U ⟨j,y',nj,m,hf,n⟩=>by
  have I:y'.f ≠ .z:=by rw [hf];intro q;cases q
  rcases P y S with ⟨i,hi,C⟩ | S
  ·by_cases ij:i=j
   ·subst ij
    rw [C] at m;cases m
    exact nj (O i y hi C hf)
   ·exact l.ss j i y' y (Ne.symm ij) m C I b n U
  ·exact (l.st j y' m y (BC _ S)).1 I b n U
 have E:∀ y ∈ ys,Itm (Ts ++ T) g1 y:=fun y S=>by
  rcases P y S with ⟨i,_,C⟩ | h
  ·exact .inl ⟨i,C⟩
  ·exact .inr (BC _ h)
 have kid:∀ x ∈ els,∀ c ∈ x.L,dH ((Ts ++ T).map bo) (fun j=>if j ∈ is then (g1 j).map bo else g1 j) c/\(H1 c=none\/(G.H0 c=none\/G.src c)):=fun x r c hc=>by
  obtain ⟨nr,sr⟩:=l.kids E ((k x r).2.2 c hc)
  refine ⟨⟨fun i z s hf n=>?_,fun z hz hf n=>?_⟩,.inr sr⟩
  ·have s:(if i ∈ is then (g1 i).map bo else g1 i)=some z:=s
   by_cases q:i ∈ is
   ·rw [if_pos q] at s
    obtain ⟨z0,e0,e1⟩:=BB.mp s
    subst e1
    exact nr.1 i z0 e0 (fun q=>hf (lentF_z.mpr q)) n
   ·rw [if_neg q] at s
    exact nr.1 i z s hf n
  ·obtain ⟨z0,h0,rfl⟩:=BN.mp hz
   exact nr.2 z0 h0 (fun q=>hf (lentF_z.mpr q)) n
 have w3:Wf K (dU G H1 g1 is) H1 σ (aP cP is ρ1) (els ++ (Ts ++ T).map bo) (fun j=>if j ∈ is then (g1 j).map bo else g1 j):=w2.pushAll fun x r=>⟨(k x r).1,(k x r).2.1,fun c hc=>kid x r c hc⟩
 have w4:=w3.cap N
 cases X:cn bnd c elt p.2 (uq ix (aP cP is ρ1)) with
 | none=>rw [X] at e1;exact nsE e1
 | some rr =>
  obtain ⟨o2,τρ⟩:=rr
  rw [X] at e1
  cases o2 with
  | error x=>exact nsE e1
  | ok ds =>
   dsimp only at e1
   split at e1
   ·rename_i hlen
    cases e3:uncap ix τρ (aP cP is ρ1) with
    | none=>rw [e3] at e1;exact nsE e1
    | some ρ3 =>
     rw [e3] at e1
     have Y:o=.ok (.val (.lst ds) .u)/\ρ'=aP fN is ρ3:=by cases e1;exact ⟨rfl,rfl⟩
     obtain ⟨Y,eρ⟩:=Y
     refine ul (K:=K) (Gc:=wE (dU G H1 g1 is) ix σ) (els:=els) (M:=fun _=>False) (ys:=ys) hz (fun x r=>⟨BD _ (BC _ r),(k x r).1⟩) (fun H' hk=>walk _ H' hM hk t) rfl U (fun σ' H Q q=>wZ (G1:=wE (dU G H1 g1 is) ix σ) rfl q) (fun σ' H Q q=>xk (G1:=wE (dU G H1 g1 is) ix σ) rfl q) hlen w4 X fun us τ' H' g' B A w5=>?_
     obtain ⟨g6,w6⟩:=Wf.uncap w3 (fun b o h=>h) N e3 B w5
     have w7:=Wf.leave (T:=Ts ++ T) (T':=T) (R:=us) l F (BM Ts T) (w6.sub ((List.Sublist.refl us).append (by
      rw [List.map_append]
      exact (BM (Ts.map bo) (T.map bo)).trans (BM els _))))
     have hle:us.length<=16777216:=by
      have h1:us.length=ds.length:=by rw [<- A,BJ]
      have h2:=j2 X
      omega
     rw [<- eρ] at w7
     exact hZ us H' _ Ts ds Y B A hle w7
   ·exact nsE e1
theorem nR {us:List It3} (w:Wf K G H σ ρ (us ++ T) g) (j:∀ x ∈ us,x.f=.z) (b:H p=none) :
  Wf K G (upd H p (.lst (us.map (·.v)))) σ ρ (⟨.lst (us.map (·.d)),.ref p,p :: (us.map (·.L)).flatten,.u⟩ :: T) g:=by
 have hi:∀ y ∈ us,Itm (us ++ T) g y/\y.f=.z:=fun y i=>⟨.inr (BC _ i),j y i⟩
 have np:p ∉ (us.map (·.L)).flatten:=fun a=>by
  obtain ⟨y,hm,a⟩:=eT a
  obtain ⟨o,k⟩:=((w.itm (hi y hm).1).rep.inH p a).ex
  rw [b] at k;exact nsE k
 have n:New K H (upd H p (.lst (us.map (·.v)))) (cQ us) ⟨.lst (us.map (·.d)),.ref p,p :: (us.map (·.L)).flatten,.u⟩:=⟨bB b,.lst aV ((lb fun y i=>(w.itm (hi y i).1).rep).same (bB b)),fun c a=>by
  rcases BE.mp a with e | a
  ·rw [e];exact .inl b
  ·exact .inr (eT a),fun _=>⟨rfl,p,_,rfl,rfl,np,b⟩⟩
 exact (w.push n fun c h=>w.alls hi h).sub (List.Sublist.cons_cons _ (BM us T))
theorem xm (hz:(16777216:Nat)=sizeLine) (b:Inj ix) (j:Bnd K (bq ix).pr tg bnd) (h:tE K G0 W0 (dl im bnd c elt ix) σ H Q) :
  yU (tI K G0 W0 im) tg (tT K (bq ix) noX c) (tE K (bq ix) noX elt) ix σ H Q:=by
 refine h.use fun G W le ρ T g o ρ' w e q=>?_
 refine qm hz b j le w e q.err fun us H' g' Ts ds i f a n l=>?_
 subst i a
 intro p m
 have k:=nR l f m
 exact q (.ref p) _ ⟨[_],g',k,Ar.val (⟨.lst (us.map (·.d)),.ref p,p :: (us.map (·.L)).flatten,.u⟩:It3)⟩
theorem qC {i:Nat} (hz:(16777216:Nat)=sizeLine) (k:Inj ix) (n:Bnd K (bq ix).pr tg bnd) (v:G0.pr i=false) (h:tS K G0 W0 (bb i (dl im bnd c elt ix)) E σ H) :
  yW i (tI K G0 W0 im) tg (tT K (bq ix) noX c) (tE K (bq ix) noX elt) ix E σ H:=by
 refine h.use fun G W le ρ T g r ρ' w e q=>?_
 unfold bb ag at e
 cases e1:dl im bnd c elt ix ρ with
 | none=>rw [e1] at e;exact nsE e
 | some pr =>
  obtain ⟨o,ρ1⟩:=pr
  rw [e1] at e
  have a:∀ x,o=.error x->W x ρ1:=fun x t=>by subst t;cases e;exact q
  refine qm hz k n le w e1 a fun us H' g' Ts ds m l b z y=>?_
  subst m b
  intro p j
  have s:=nR y l j
  have e:(if i < ρ1.length then some ((.ok .nx,ρ1.set i (some (D.lst (us.map (·.d)),Fl.u))):Except D Flw × Sto) else none)=some (r,ρ'):=e
  split at e
  ·rename_i hi
   cases e
   exact q _ _ _ (s.store (f:=.u) hi (by rw [le.pr];exact v) (.inl rfl) (by intro h;cases h))
  ·exact nsE e
end
end L3
end
section
namespace L3
open PySem L2
section
variable {K:FG} {G G0:Gm} {W W0:D->Sto->Prop} {H H':Hp} {σ:St} {ρ ρ':Sto} {T T':List It3} {g:Nat->Option It3} {x y z:It3} {α β:Type}
theorem Wf.mutate {i:Nat} (w:Wf K G H σ ρ T g) (C:g i=some y) (hu:y.f=.u) (ev:y.v=.ref a) (hm:je d'=true) (rep:Rep K (upd H a o') d' (.ref a) (a :: B)) (na:a ∉ B) (W:∀ c ∈ B,dH T g c/\(G.H0 c=none\/G.src c)):Wf K G (upd H a o') σ (ρ.set i (some (d',.u))) T (fun j=>if j=i then some ⟨d',.ref a,a :: B,.u⟩ else g j):=by
 have s:y.f ≠ .z:=by rw [hu];intro q;cases q
 have R:=w.okS i y C
 obtain ⟨_,a',L',v1,v2,v3,v4⟩:=R.own s
 rw [ev] at v1;cases v1
 have hi:i < ρ.length:=by
  have:=w.sl i
  rw [C] at this
  exact dE this.symm
 have ma:MutAt H a:=R.rep.inH a (by rw [v2];exact By)
 have val:∀ j u,(if j=i then some (⟨d',.ref a,a :: B,.u⟩:It3) else g j)=some u->(j=i/\u=⟨d',.ref a,a :: B,.u⟩)\/(j ≠ i/\g j=some u):=fun j u h=>by
  by_cases q:j=i
  ·rw [if_pos q] at h;cases h;exact .inl ⟨q,rfl⟩
  ·rw [if_neg q] at h;exact .inr ⟨q,h⟩
 have keep:∀ u,ItOk K G H u->a ∉ u.L->ItOk K G (upd H a o') u:=fun u ou hn=>ou.keep (M:=fun b=>b=a) (fun b o m n=>by rw [aB n];exact m) (fun b e=>by rw [e];exact ma) fun b m e=>hn (by rw [<- e];exact m)
 have V:∀ j u,j ≠ i->g j=some u->a ∉ u.L:=fun j u n e=>w.ss i j y u (Ne.symm n) C e s a ev
 have S:∀ u ∈ T,a ∉ u.L:=fun u r=>(w.st i y C u r).1 s a ev
 have D:∀ b o,H b=some o->∃ X,upd H a o' b=some X:=fun b o m=>by
  by_cases q:b=a
  ·rw [q,aV];exact ⟨_,rfl⟩
  ·rw [aB q];exact ⟨o,m⟩
 refine ⟨by rw [List.length_set];exact w.len,fun j=>?_,fun j u h=>?_,fun j u h=>?_,fun u r=>keep u (w.okT u r) (S u r),fun j k p q n N hq=>?_,fun j u h t F=>?_,w.tt,fun b o e n=>?_,w.pro,⟨w.fx.frT,fun j u h N hf b U=>?_,fun b m=>?_,fun b o m=>?_,fun j u h O=>?_⟩⟩
 ·rw [bL hi]
  by_cases q:j=i
  ·rw [if_pos q,if_pos q];rfl
  ·rw [if_neg q,if_neg q];exact w.sl j
 ·rcases val j u h with ⟨rfl,rfl⟩ | ⟨n,h⟩
  ·rw [w.sv j y C,ev]
  ·exact w.sv j u h
 ·rcases val j u h with ⟨rfl,rfl⟩ | ⟨n,h⟩
  ·refine ⟨rep,fun _=>⟨hm,a,B,rfl,rfl,na,fun _=>v4 hu⟩,fun c d=>?_⟩
   rcases BE.mp d with e | d
   ·rw [e];exact R.src a (by rw [v2];exact By)
   ·exact (W c d).2
  ·exact keep u (w.okS j u h) (V j u n h)
 ·rcases val j p N with ⟨J,ep⟩ | ⟨n1,l⟩
  ·rcases val k q hq with ⟨Z,eq⟩ | ⟨Y,A⟩
   ·exact absurd (J.trans Z.symm) n
   ·rw [ep]
    intro _ c x
    cases x
    exact V k q Y A
  ·rcases val k q hq with ⟨Z,eq⟩ | ⟨Y,A⟩
   ·rw [eq]
    intro hf c x d
    rcases BE.mp d with e | d
    ·obtain ⟨_,b,L2,E,P,_⟩:=(w.okS j p l).own hf
     rw [x] at E;cases E
     exact V j p n1 l (by rw [<- e,P];exact By)
    ·exact (W c d).1.1 j p l hf x
   ·exact w.ss j k p q n l A
 ·rcases val j u h with ⟨J,I⟩ | ⟨n,h'⟩
  ·rw [I]
   refine ⟨fun _ c x=>by cases x;exact S t F,fun hf c x d=>?_⟩
   rcases BE.mp d with e | d
   ·obtain ⟨_,b,L2,E,P,_⟩:=(w.okT t F).own hf
    rw [x] at E;cases E
    exact S t F (by rw [<- e,P];exact By)
   ·exact (W c d).1.2 t F hf x
  ·exact w.st j u h' t F
 ·have:b ≠ a:=fun z=>by
   subst z
   rcases v4 hu with h | h
   ·rw [e] at h;cases h
   ·exact n h
  rw [aB this];exact w.base b o e n
 ·rcases val j u h with ⟨J,I⟩ | ⟨n,h'⟩
  ·subst J
   rw [I] at U
   cases U
   exact w.fx.frS j y C N s a ev
  ·exact w.fx.frS j u h' N hf b U
 ·obtain ⟨o,Q⟩:=w.fx.bin b m
  exact D b o Q
 ·obtain ⟨o2,Q⟩:=w.fx.ob b o m
  exact D b o2 Q
 ·rcases val j u h with ⟨J,I⟩ | ⟨n,h'⟩
  ·rw [I] at O;cases O
  ·exact w.fx.lvS j u h' O
def MutD (K:FG) (r:V->List V->Hp->VK->Prop) (f:D->List D->Option (D × D)):Prop:=∀ (a:Addr) (d:D) (b:List Addr) (as:List It3) (H:Hp) (Q:VK) (p:D × D),Rep K H d (.ref a) (a :: b)->je d=true->a ∉ b->(∀ x ∈ as,Rep K H x.d x.v x.L)->(∀ x ∈ as,a ∉ x.L)->f d (as.map (·.d))=some p ->
 (∀ (o':HO) (e:List Addr) (w:It3),Rep K (upd H a o') p.1 (.ref a) (a :: e)->je p.1=true->(∀ c ∈ e,c ∈ b\/cQ as c)->w.f=.z->w.d=p.2->Rep K (upd H a o') w.d w.v w.L->(∀ c ∈ w.L,c ∈ b\/cQ as c)->Q w.v (upd H a o'))->r (.ref a) (as.map (·.v)) H Q
def chk (ok:D->Bool) (i:Nat):M3 Unit:=fun ρ=>match (ρ[i]?).join with
 | some (d,_)=>if ok d then some (.ok (),ρ) else none
 | none=>none
theorem po {i:Nat} (e:ag (af i) k ρ=some (r,ρ')):∃ p,(ρ[i]?).join=some p/\k (.pl i) ρ=some (r,ρ'):=by
 unfold ag af at e
 cases q:(ρ[i]?).join with
 | none=>rw [q] at e;exact nsE e
 | some p=>rw [q] at e;exact ⟨p,rfl,e⟩
theorem wC {i:Nat} (e:ag (chk ok i) k ρ=some (r,ρ')):(∀ p,(ρ[i]?).join=some p->ok p.1=true)/\k () ρ=some (r,ρ'):=by
 unfold ag chk at e
 cases q:(ρ[i]?).join with
 | none=>rw [q] at e;exact nsE e
 | some p =>
  rw [q] at e
  dsimp only at e
  cases h:ok p.1 with
  | false=>rw [h] at e;exact nsE e
  | true=>rw [h] at e;exact ⟨fun b a=>by cases a;exact h,e⟩
def rm (ok:D->Bool) (f:D->List D->Option (D × D)) (i:Nat) (ms:M3 (List R3)):EM:=ag (af i) fun _=>ag (chk ok i) fun _=>ag ms fun rs=>ag (gives rs) fun ds=>fun ρ=>match (ρ[i]?).join with
 | some (d,.u)=>match f d ds with
  | some p=>some (.ok (.val p.2 .z),ρ.set i (some (p.1,.u)))
  | none=>none
 | _=>none
theorem Wf.changed {i:Nat} {as us:List It3} (U:MutD K r f) (w:Wf K G H σ ρ (us ++ T) g) (e:(ρ[i]?).join=some (d,.u)) (W:σ[i]?=some (some v)) (D:∀ y ∈ as,Itm (us ++ T) g y/\y.f=.z) (X:f d (as.map (·.d))=some p) (q:∀ v H',Got K G σ (ρ.set i (some (p.1,.u))) T (.val p.2 .z) v H'->Q v H'):r v (as.map (·.v)) H Q:=by
 obtain ⟨y,B,M,I,t⟩:=w.slot e
 rw [W] at t
 injection t with t
 injection t with t
 have n:y.f ≠ .z:=by rw [I];intro q;cases q
 have F:=w.okS i y B
 obtain ⟨m,a,E,v1,v2,v3,_⟩:=F.own n
 have ra:=F.rep
 rw [v1,v2,M] at ra
 rw [M] at m
 rw [t,v1]
 have na:∀ x ∈ as,a ∉ x.L:=fun x o b=>by
  have:=(w.kid (D x o).1 b fun hf=>absurd (D x o).2 hf).1 i y B n
  exact this v1
 refine U a d E as H Q p ra m v3 (fun x o=>(w.itm (D x o).1).rep) na X fun o' S u O P s1 J R Z C=>?_
 have k:∀ c,(c ∈ E\/cQ as c)->dH (us ++ T) g c/\(G.H0 c=none\/G.src c):=fun c b=>by
  rcases b with b | b
  ·have A:c ∈ y.L:=by rw [v2];exact Bz _ b
   exact ⟨w.kid (.inl ⟨i,B⟩) A fun _ l=>by rw [v1] at l;cases l;exact v3 b,F.src c A⟩
  ·exact w.alls D b
 have N:∀ c,(c ∈ E\/cQ as c)->c ≠ a:=fun c b z=>(k c b).1.1 i y B n (by rw [z];exact v1)
 have Y:=w.mutate (o':=o') B I v1 P O (fun h=>N a (s1 a h) rfl) fun c b=>k c (s1 c b)
 have V:=Y.pushAll (ws:=[u]) fun x o=>by
  rw [B8.mp o]
  refine ⟨J,Z,fun c b=>?_⟩
  have s:=k c (C c b)
  refine ⟨⟨fun j z l hf hz=>?_,s.1.2⟩,s.2⟩
  have l:(if j=i then some (⟨p.1,.ref a,a :: S,.u⟩:It3) else g j)=some z:=l
  by_cases q:j=i
  ·rw [if_pos q] at l
   cases l
   cases hz
   exact N a (C a b) rfl
  ·rw [if_neg q] at l
   exact s.1.1 j z l hf hz
 rw [<- R,<- J] at q
 exact q u.v _ ⟨[u],_,V.sub ((List.Sublist.refl [u]).append (BM us T)),.val u⟩
theorem zK {i:Nat} (x:MutD K r f) (hok:∀ d v L H,ok d=true->Rep K H d v L->tyV K Ty v H) (h:tE K G0 W0 (rm ok f i ms) σ H Q):tBM K Ty r (tw i) (tA K G0 W0 ms) σ H Q:=by
 refine h.use fun G W le ρ T g o ρ' w e q=>?_
 obtain ⟨s,k,e⟩:=po e
 obtain ⟨B,e⟩:=wC e
 obtain ⟨D,f0⟩:=s
 obtain ⟨y,n,m,I,j⟩:=w.slot k
 refine ⟨y.v,j,hok D y.v y.L H (B _ k) (by rw [<- m];exact (w.okS i y n).rep),?_⟩
 refine tA.seq le w e q.err fun rs ρ1 e1 J H1 Ts g1 C a1=>?_
 obtain ⟨ds,ρ2,g2,a,_,A,_,ys,E,f1,f2⟩:=a1.gives C e1
 subst f1 f2
 cases b:(ρ2[i]?).join with
 | none=>rw [b] at a;exact nsE a
 | some p3 =>
  obtain ⟨F,t⟩:=p3
  rw [b] at a
  cases t with
  | u =>
   dsimp only at a
   cases c:f F (ys.map (·.d)) with
   | none=>rw [c] at a;exact nsE a
   | some p =>
    rw [c] at a
    cases a
    exact A.changed x b j E c q
  | l=>exact nsE a
  | z=>exact nsE a
def lF (t:V->V->V->Hp->(Hp->Prop)->Prop):V->List V->Hp->VK->Prop:=fun x a H Q=>∃ k v,a=[k,v]/\t x k v H fun H'=>Q .non H'
def og (f:D->List D->Option (D × D)) (i:Nat) (mk c:EM):SM:=ag c fun a=>ag (af i) fun _=>ag mk fun b=>ag (gives [b,a]) fun ds=>fun ρ=>match (ρ[i]?).join with
 | some (d,.u)=>match f d ds with
  | some p=>some (.ok .nx,ρ.set i (some (p.1,.u)))
  | none=>none
 | _=>none
theorem zy {i:Nat} (I:MutD K (lF t) f) (h:tS K G0 W0 (og f i mk mv) E σ H):uL (tE K G0 W0 mv) (gSub (tw i) (tE K G0 W0 mk) t) E σ H:=by
 refine h.use fun G W le ρ T g r ρ' w e q=>?_
 refine tE.seq le w e q.err fun n ρ1 e1 v H1 ⟨Ts,g1,m,a1⟩=>?_
 obtain ⟨s,N,e1⟩:=po e1
 obtain ⟨d0,f0⟩:=s
 obtain ⟨y,Z,X,V,k⟩:=m.slot N
 refine ⟨y.v,k,?_⟩
 ·refine tE.seq le m e1 q.err fun P ρ2 M J H2 ⟨Us,g2,O,a2⟩=>?_
  have D:Ars σ [P,n] [J,v] (([] ++ Ts) ++ Us):=.cons a2 (.cons a1 .nil)
  have C:Wf K G H2 σ ρ2 ((([] ++ Ts) ++ Us) ++ T) g2:=O.perm (by
   rw [List.nil_append,<- List.append_assoc]
   exact (List.perm_append_comm).append_right T)
  obtain ⟨ds,ρ3,g3,a,_,A,_,ys,R,f1,f2⟩:=D.gives C M
  subst f1
  cases j:(ρ3[i]?).join with
  | none=>rw [j] at a;exact nsE a
  | some p3 =>
   obtain ⟨S,x⟩:=p3
   rw [j] at a
   cases x with
   | u =>
    dsimp only at a
    cases c:f S (ys.map (·.d)) with
    | none=>rw [c] at a;exact nsE a
    | some p =>
     rw [c] at a
     cases a
     have:=A.changed (Q:=fun _ H'=>E.nx σ H') I j k R c fun B H' ⟨o,Y,L,a5⟩=>q _ _ _ (L.sub (BM o T))
     rw [f2] at this
     obtain ⟨U,B,b,F⟩:=this
     cases b
     exact F
   | l=>exact nsE a
   | z=>exact nsE a
end
end L3
end
section
namespace L3
open PySem L2
structure RE (X:Cx) (G0:Gm) (W0:D->Sto->Prop) (e:Expr) (m:EM):Prop where
 h:PE X e (tE X.K G0 W0 m)
structure RT (X:Cx) (G0:Gm) (W0:D->Sto->Prop) (e:Expr) (m:M3 Bool):Prop where
 h:PT X e (tT X.K G0 W0 m)
structure RW (X:Cx) (G0:Gm) (W0:D->Sto->Prop) (e:Expr) (m:M3 Bool):Prop where
 h:PW X e (tT X.K G0 W0 m)
structure RA (X:Cx) (G0:Gm) (W0:D->Sto->Prop) (es:List Expr) (m:M3 (List R3)):Prop where
 h:PA X es (tA X.K G0 W0 m)
structure RS (X:Cx) (G0:Gm) (W0:D->Sto->Prop) (s:Stmt) (m:SM):Prop where
 h:PS X s (tS X.K G0 W0 m)
structure RSs (X:Cx) (G0:Gm) (W0:D->Sto->Prop) (s:List Stmt) (m:SM):Prop where
 h:PSs X s (tS X.K G0 W0 m)
structure RI (X:Cx) (G0:Gm) (W0:D->Sto->Prop) (tg iter:Expr) (m:IM):Prop where
 h:PI X tg iter (tI X.K G0 W0 m)
structure RG (X:Cx) (pr:Nat->Bool) (target:Expr) (bnd:D->Sto->Option Sto):Prop where
 h:∃ tg,PG X target tg/\Bnd X.K pr tg bnd
structure RGs (X:Cx) (pr:Nat->Bool) (targets:List Expr) (bnd:List D->Sto->Option Sto):Prop where
 h:∃ tg,PGs X targets tg/\wU X.K pr tg bnd
theorem PE.imp (h:PE X e t) (f:∀ σ H Q,t' σ H Q->t σ H Q):PE X e t':=fun pins s σ H Q I q=>h pins s σ H Q I (f σ H Q q)
theorem PT.imp (h:PT X e t) (f:∀ σ H Q,t' σ H Q->t σ H Q):PT X e t':=fun pins s σ H Q I q=>h pins s σ H Q I (f σ H Q q)
theorem PW.imp (h:PW X e t) (f:∀ σ H Q,t' σ H Q->t σ H Q):PW X e t':=fun a pins s σ H Q I q=>h a pins s σ H Q I (f σ H Q q)
theorem PA.imp (h:PA X e t) (f:∀ σ H Q,t' σ H Q->t σ H Q):PA X e t':=fun pos pins s σ H Q I q=>h pos pins s σ H Q I (f σ H Q q)
theorem PS.imp (h:PS X e t) (f:∀ D σ H,t' D σ H->t D σ H):PS X e t':=fun pins s σ H D I q=>h pins s σ H D I (f D σ H q)
theorem PSs.imp (h:PSs X e t) (f:∀ D σ H,t' D σ H->t D σ H):PSs X e t':=fun pins s σ H D I q=>h pins s σ H D I (f D σ H q)
theorem PI.imp (h:PI X tg e t) (f:∀ σ H R,t' σ H R->t σ H R):PI X tg e t':=fun pins s σ H R I q=>h pins s σ H R I (f σ H R q)
theorem szl:(16777216:Nat)=sizeLine:=by rw [sizeLine_eq]
section
variable {X:Cx} {G0:Gm} {W0:D->Sto->Prop} {a b c e:Expr} {es:List Expr} {pos:Pos} {ma mb mc m:EM} {ms:M3 (List R3)} {t u:M3 Bool} {jE:List Expr}
theorem oh (i:Nat) (c:X.N[i]?=some x) (b:Vis X.env.scope x) (hd:(x == ("__debug__":Str))=false) (a:(x == ("__classdict__":Str))=false):RE X G0 W0 (.Name x pos) (af i):=⟨PE.imp (ol c b hd a) fun _ _ _ h=>zH h⟩
theorem Ae:RE X G0 W0 (.Constant (.int i) j pos) (mC (.int i)):=⟨PE.imp Ay fun _ _ _ h=>fR (fun _=>.int i) h⟩
theorem re_bl:RE X G0 W0 (.Constant (.bool i) j pos) (mC (.bl i)):=⟨PE.imp pe_bl fun _ _ _ h=>fR (fun _=>.bl i) h⟩
theorem Ac:RE X G0 W0 (.Constant .none j pos) (mC .non):=⟨PE.imp Aw fun _ _ _ h=>fR (fun _=>.non) h⟩
theorem z9:RE X G0 W0 (.Constant (.str i) j pos) (mC (.str i)):=⟨PE.imp At fun _ _ _ h=>fR (fun _=>.str i) h⟩
theorem pF {i:Int} (a:Gl X x) (hm:X.mg x=some (.int i tk)) (hd:(x == ("__debug__":Str))=false):RE X G0 W0 (.Name x pos) (mC (.int i)):=⟨PE.imp (sy (v:=V.int i) a hm ⟨_,rfl⟩ hd) fun _ _ _ h=>fR (fun _=>.int i) h⟩
theorem jF (c:OpR X (binaryOp op) r) (hd:OpD X.K r f) (e:RE X G0 W0 a ma) (d:RE X G0 W0 b mb):RE X G0 W0 (.BinOp a op b pos) (ao f ma mb):=⟨PE.imp (pe_op c e.h d.h) fun _ _ _ h=>nZ hd h⟩
theorem re_un (b:UnR X (unaryOp op) r) (hd:UnD X.K r f) (c:RE X G0 W0 a ma):RE X G0 W0 (.UnaryOp op a pos) (mUn f ma):=⟨PE.imp (pe_un b c.h) fun _ _ _ h=>uJ hd h⟩
theorem qP (c:OpR X (compareOp op) r) (hd:OpD X.K r f) (e:RE X G0 W0 a ma) (d:RE X G0 W0 b mb) (hm:behindInMarks op b=false):RE X G0 W0 (.Compare a [op] [b] pos) (ao f ma mb):=⟨PE.imp (xU c e.h d.h hm) fun _ _ _ h=>nZ hd h⟩
theorem re_ix (c:IxR X r) (hd:OpD X.K r f) (g:RE X G0 W0 a ma) (d:RE X G0 W0 b mb) (e:td b):RE X G0 W0 (.Subscript a b pos) (ao f ma mb):=⟨PE.imp (pe_ix c g.h d.h e) fun _ _ _ h=>nZ hd h⟩
theorem Af (d:RE X G0 W0 a ma) (c:RE X G0 W0 (.BoolOp .And (b :: jE) pos) mb):RE X G0 W0 (.BoolOp .And (a :: b :: jE) pos) (hU ma mb):=⟨PE.imp (AB d.h c.h) fun _ _ _ h=>zM h⟩
theorem Aa (h:RE X G0 W0 a ma):RE X G0 W0 (.BoolOp op [a] pos) ma:=⟨Au h.h⟩
theorem Ab (b:RE X G0 W0 a ma):RE X G0 W0 (.UnaryOp .Not a pos) (rl ma):=⟨PE.imp (Av b.h) fun _ _ _ h=>zJ h⟩
def fu (f b:D->D->Option (D × Fl)) (ma mb mc:EM):EM:=ag ma fun ra=>ag mb fun rb=>ag (der ra) fun da=>ag (der rb) fun db=>ag (ba ((f da db).bind fun p=>asB p.1)) fun k=>if k then ag mc fun rc=>ag (der rb) fun db=>ag (der rc) fun a=>ba ((b db a).map fun p=>R3.val p.1 p.2) else a9 (.val (.bl false) .z)
theorem zV (b:RE X G0 W0 a ma) (he:∀ whole,isTrue a X.env whole=(do let v <- whole;standAt a.pos;holding [v] (truthy v))):RT X G0 W0 a (cB ma):=⟨PT.imp (Ak b.h he) fun _ _ _ h=>tT_b h⟩
theorem rt_w (h:RW X G0 W0 a t):RT X G0 W0 a t:=⟨h.h.pt⟩
theorem zS (b:RT X G0 W0 a t):RW X G0 W0 (.BoolOp .Or [a] pos) t:=⟨Aj b.h⟩
theorem rw_or (d:RT X G0 W0 a t) (c:RW X G0 W0 (.BoolOp .Or (b :: jE) pos) u):RW X G0 W0 (.BoolOp .Or (a :: b :: jE) pos) (cOr t u):=⟨PW.imp (pw_or d.h c.h) fun _ _ _ h=>tT_or h⟩
theorem zW (b:RT X G0 W0 a t):RT X G0 W0 (.UnaryOp .Not a pos) (jv t):=⟨PT.imp (Al b.h) fun _ _ _ h=>zw h⟩
theorem Ag:RA X G0 W0 [] aj:=⟨PA.imp qT fun _ _ _ h=>zO h⟩
theorem xJ (c:RE X G0 W0 e m) (b:RA X G0 W0 es ms) (a:starEach (e :: es) X.env=(false,eval e X.env) :: starEach es X.env):RA X G0 W0 (e :: es) (aa m ms):=⟨PA.imp (iX c.h b.h a) fun _ _ _ h=>xo h⟩
theorem z8 (h:RA X G0 W0 es ms):RE X G0 W0 (.Tuple es x1 pos) (dS ms):=⟨PE.imp (As h.h) fun _ _ _ h=>zI szl h⟩
theorem Ad (h:RA X G0 W0 es ms):RE X G0 W0 (.List es pos) (iA ms):=⟨PE.imp (Ax h.h) fun _ _ _ h=>zL szl h⟩
theorem eS {id:String} (j:df X (.builtin id) r) (hd:d6 X.K r f) (i:Gl X x) (hm:X.mg x=none) (d:bootBuiltins x=some (.builtin id)) (c:RA X G0 W0 (e :: es) ms) (g:x ≠ "__name__") (a:(x == ("__debug__":Str))=false) (he:starEach (e :: es) X.env=(false,eval e X.env) :: starEach es X.env) (b:(backTo pos (starEach es X.env)).any (·.1)=false):RE X G0 W0 (.Call (.Name x p) (e :: es) [] pos) (aY f ms):=⟨PE.imp (lI j i hm d c.h g a he b) fun _ _ _ h=>pv hd h⟩
theorem nv (j:df X (.type T) r) (hd:d6 X.K r f) (d:Gl X x) (hm:X.mg x=none) (g:bootBuiltins x=some (.type T)) (c:RA X G0 W0 (e :: es) ms) (i:x ≠ "__name__") (a:(x == ("__debug__":Str))=false) (he:starEach (e :: es) X.env=(false,eval e X.env) :: starEach es X.env) (b:(backTo pos (starEach es X.env)).any (·.1)=false):RE X G0 W0 (.Call (.Name x p) (e :: es) [] pos) (aY f ms):=⟨PE.imp (tR j d hm g c.h i a he b) fun _ _ _ h=>pv hd h⟩
variable {st:Stmt} {sts:List Stmt} {sm sn:SM}
theorem xy:RSs X G0 W0 [] fV:=⟨PSs.imp xN fun _ _ _ h=>zD h⟩
theorem uX (h1:RS X G0 W0 st sm) (h2:RSs X G0 W0 sts sn):RSs X G0 W0 (st :: sts) (aJ sm sn):=⟨PSs.imp (pJ h1.h h2.h) fun _ _ _ h=>zB h⟩
theorem xx (h1:RS X G0 W0 st sm):RSs X G0 W0 [st] sm:=⟨so h1.h⟩
theorem xz (he:RE X G0 W0 e m) (a:swapsWith e none pos.line X.env=pure false):RS X G0 W0 (.Expr e pos) (aH m):=⟨PS.imp (xO he.h a) fun _ _ _ h=>xb h⟩
theorem zZ (np:Nat) (a:∀ i,np<=i->G0.pr i=false) (he:RE X G0 W0 e m):RS X G0 W0 (.Return (some e) pos) (bc np m):=⟨PS.imp (An he.h) fun _ _ _ h=>zC a h⟩
theorem rs_if (d:RT X G0 W0 c t) (b:RSs X G0 W0 x sm) (a:RSs X G0 W0 y sn):RS X G0 W0 (.If c x y pos) (sIf t sm sn):=⟨PS.imp (ps_if d.h b.h a.h) fun _ _ _ h=>tS_if h⟩
theorem u3 (i:Nat) (b:X.N.Nodup) (hi:X.N[i]?=some x) (a:Loc X.env.scope x) (he:RE X G0 W0 e m) (c:swapsWith e (some (.Name x pos')) pos.line X.env=pure false) (hf:X.fn x=true\/X.env.scope.names.lookup x=some .local) (d:G0.pr i=false):RS X G0 W0 (.Assign [.Name x pos'] e pos) (bb i m):=⟨PS.imp (Am b hi a he.h c hf) fun _ _ _ h=>zA d h⟩
theorem uZ (a:PassesOwn (model X.prog X.w) X.A X.env X.xe) (d:RT X G0 W0 c t) (b:RSs X G0 W0 body sm):RS X G0 W0 (.While c body [] pos) (fU t sm):=⟨PS.imp (vn a d.h b.h) fun _ _ _ h=>uG h⟩
theorem z4 (b:PassesOwn (model X.prog X.w) X.A X.env X.xe) (e:X.calm=true) (hi:RI X G0 W0 tg iter im) (d:RG X G0.pr tg bnd) (a:RSs X G0 W0 body sm) (c:∀ x,foldedSetIterable iter X.env x=pure x):RS X G0 W0 (.For tg iter body [] pos) (eK im bnd sm):=by
 obtain ⟨g,h1,h2⟩:=d.h
 exact ⟨PS.imp (Ao b e hi.h h1 a.h c) fun _ _ _ h=>zE h2 h⟩
theorem rZ (i:Nat) (b:X.N.Nodup) (hi:X.N[i]?=some x) (a:Loc X.env.scope x) (hf:X.fn x=true\/X.env.scope.names.lookup x=some .local) (c:pr i=false):RG X pr (.Name x pos) (aM i):=⟨_,lc b hi a hf,jw c⟩
theorem xF:RGs X pr [] iH:=⟨_,su,qx⟩
theorem u7 (h1:RG X pr e bn) (h2:RGs X pr es bs) (b:(assignEach (e :: es) X.env).map (·.2)=assign e X.env :: (assignEach es X.env).map (·.2)):RGs X pr (e :: es) (bS bn bs):=by
 obtain ⟨g,a1,a2⟩:=h1.h
 obtain ⟨c,a,b2⟩:=h2.h
 exact ⟨_,lH a1 a b,ke a2 b2⟩
theorem z7 {k n:Nat} (b:X.calm=true) (h:RGs X pr es bs) (d:(assignEach es X.env).length=n) (a:(assignEach es X.env).findIdx? (·.1)=none):RG X pr (.Tuple es k pos) (iG n bs):=by
 obtain ⟨e,c,b2⟩:=h.h
 exact ⟨_,vw b c d a,sU b2⟩
theorem xH (NY:List Str) (ix:List (Option Nat)) (f:X.calm=true) (hi:RI X G0 W0 tg iter im) (g:∀ s H C fp,PTs (aR X NY scope s H C fp) ifs (tT X.K (bq ix) noX cm)) (he:∀ s H C fp,RE (aR X NY scope s H C fp) (bq ix) noX elt em) (i:ge scope X.N X.env.scope NY ix=true) (c:Inj ix) (e:∀ x,foldedSetIterable iter X.env x=pure x) (b:∃ a,Bnd X.K (bq ix).pr a bnd/\∀ s H C fp,PG (aR X NY scope s H C fp) tg a):RE X G0 W0 (.ListComp elt [⟨tg,iter,ifs,0⟩] scope pos) (dl im bnd cm em ix):=by
 obtain ⟨a,d,b2⟩:=b
 exact ⟨PE.imp (xT NY ix f hi.h b2 g (fun s H C fp=>(he s H C fp).h) i e) fun _ _ _ h=>xm szl c d h⟩
end
end L3
end
section
namespace L3
open PySem L2
noncomputable def aK (F:Fn) (ms:M3 (List R3)):EM:=ag ms fun rs=>fun ρ=>match prs (frz (eM rs) ρ) rs with
 | none=>none
 | some ps=>match F ps with
  | none=>none
  | some (.ok p,qs)=>if qs.length=ps.length then some (.ok (.val p.1 p.2),back rs ps qs (frz (eM rs) ρ)) else none
  | some (.error _,_)=>none
def qG (K:FG) (F:Fn):Sp:=fun a H Q _=>∃ (ps:List It3) (p:D × Fl) (fs:List (D × Fl)),a=ps.map (·.v)/\(∀ p ∈ ps,Arg K H p)/\ps.Pairwise Apart3/\F (ps.map fun p=>(p.d,p.f))=some (.ok p,fs) /\
 ∀ x qs H',Behind K H H' ps qs x->x.d=p.1->x.f=p.2->qs.map (fun q=>(q.d,q.f))=fs->Q x.v H'
section
variable {K:FG} {G G0:Gm} {W W0:D->Sto->Prop} {H H':Hp} {σ:St} {ρ ρ':Sto} {T T':List It3} {g:Nat->Option It3} {x y z:It3} {α β:Type}
theorem pw (h:tE K G0 W0 (aK F ms) σ H Q):tA K G0 W0 ms σ H fun t H1=>qG K F t H1 Q E0:=by
 refine h.use fun G W le ρ T g o ρ' w e q=>?_
 refine tA.seq le w e q.err fun rs ρ1 e1 t H1 Ts g1 u a1=>?_
 obtain ⟨g2,d,C⟩:=Wf.frz (is:=eM rs) u
 cases j:prs (L3.frz (eM rs) ρ1) rs with
 | none=>rw [j] at e1;exact nsE e1
 | some pfs =>
  rw [j] at e1
  dsimp only at e1
  have hd:∀ i,2<=(pls rs).count i->∀ y,g2 i=some y->y.f=.z:=fun i N y n=>by
   have hm:i ∈ eM rs:=Ca.mpr ⟨List.count_pos_iff.mp (by omega),by simpa using N⟩
   have s1:=d.sl i
   rw [n] at s1
   have R:∃ y0,g1 i=some y0:=by
    cases A:g1 i with
    | some y0=>exact ⟨y0,rfl⟩
    | none =>
     exfalso
     have s2:=u.sl i
     rw [A] at s2
     have:=lZ (is:=eM rs) s2.symm
     rw [this] at s1
     cases s1
   obtain ⟨y0,l⟩:=R
   obtain ⟨S,b,_,M⟩:=C i y0 l
   rw [n] at b
   cases b
   exact M hm
  obtain ⟨ps,f1,f2,I,f4,P⟩:=Ars.args a1 d hd j
  have hit:∀ p ∈ ps,Itm (Ts ++ T) g2 p:=fun p k=>by
   rcases f4 p k with ⟨i,_,J⟩ | h
   ·exact .inl ⟨i,J⟩
   ·exact .inr (BC _ h)
  have c:∀ p ∈ ps,Arg K H1 p:=fun p k=>⟨(d.itm (hit p k)).rep,fun hf=>by
   obtain ⟨m,a,L',v1,v2,v3,_⟩:=(d.itm (hit p k)).own hf
   exact ⟨m,a,L',v1,v2,v3⟩⟩
  subst f2
  cases b:F pfs with
  | none=>rw [b] at e1;exact nsE e1
  | some r =>
   obtain ⟨out,fs⟩:=r
   rw [b] at e1
   cases out with
   | ok p =>
    dsimp only at e1
    split at e1
    ·cases e1
     refine ⟨ps,p,fs,rfl,c,I,by rw [f1];exact b,?_⟩
     intro x qs H' B E L D
     obtain ⟨g',U,O⟩:=Wf.after d j f1 f4 P B.toBehindX
     have s:=O x B.rep B.own B.src B.apx
     rw [D] at s
     rw [<- E,<- L] at q
     exact q x.v H' ⟨[x],g',s,.val x⟩
    ·exact nsE e1
   | error er=>exact nsE e1
def ci (b:Bool) (p:It3):It3:=if b then dh p else p
theorem jL:∀ {mask:List Bool} {ps:List It3},(List.zipWith ci mask ps).map (fun p=>(p.d,p.f))=List.zipWith mP mask (ps.map fun p=>(p.d,p.f))
 | [],_=>rfl
 | _ :: _,[]=>rfl
 | b :: mask,p :: ps=>by
  simp only [List.zipWith_cons_cons,BTz,jL]
  cases b <;> rfl
theorem nD {i:Nat} (h:(List.zipWith ci mask ps)[i]?=some q):∃ b p,mask[i]?=some b/\ps[i]?=some p/\q=ci b p:=by
 rw [List.getElem?_zipWith] at h
 cases e1:mask[i]? with
 | none=>rw [e1] at h;exact nsE h
 | some b =>
  cases a:ps[i]? with
  | none=>rw [e1,a] at h;exact nsE h
  | some p=>rw [e1,a] at h;cases h;exact ⟨b,p,rfl,rfl,rfl⟩
theorem jc {i:Nat} (a:ps.length=mask.length) (h:ps[i]?=some p):∃ b,mask[i]?=some b/\(List.zipWith ci mask ps)[i]?=some (ci b p):=by
 have hi:i < mask.length:=by have:=(BK.mp h).1;omega
 refine ⟨mask[i],BF hi,?_⟩
 rw [List.getElem?_zipWith,BF hi,h]
theorem bj (b:Bool) (p:It3):(ci b p).d=p.d/\(ci b p).v=p.v/\(ci b p).L=p.L/\((ci b p).f=p.f\/(ci b p).f=.z):=by
 cases b
 ·exact ⟨rfl,rfl,rfl,.inl rfl⟩
 ·exact ⟨rfl,rfl,rfl,.inr rfl⟩
theorem NoRoot.low (h:NoRoot a b) (d:a'.v=a.v) (hf:a'.f=a.f\/a'.f=.z) (g:b'.L=b.L):NoRoot a' b':=fun q c e=>by
 rw [g]
 rcases hf with f | f
 ·exact h (by rw [<- f];exact q) c (by rw [<- d];exact e)
 ·exact absurd f q
def prM (mask:List Bool) (i:Nat):Bool:=match mask[i]? with
 | some b=>!b
 | none=>false
theorem sC {f:α->β} {l:List α} {i:Nat} {a:α} (h:l[i]?=some a):(l.map f)[i]?=some (f a):=by rw [BO,h];rfl
theorem oN {n:Nat} (hn:mask.length<=n) (h:qG K (fnM mask n m) vs H Q E) :
  ∃ G:Gm,G.pr=prM mask/\tS K G noX m { nx:=fun _ H'=>Q .non H',rt:=Q } (vs.map some ++ List.replicate (n - vs.length) none) H:=by
 obtain ⟨ps,p,fs,rfl,ha,hp,l,q⟩:=h
 unfold fnM at l
 rw [BJ] at l
 split at l
 ·rename_i hl
  rw [<- jL] at l
  generalize w:List.zipWith ci mask ps=g at l
  have U:g.length=ps.length:=by rw [<- w,List.length_zipWith];omega
  have T:g.map (·.v)=ps.map (·.v):=by
   refine List.ext_getElem? fun i=>?_
   rw [BO,BO]
   cases e:ps[i]? with
   | none=>rw [List.getElem?_eq_none (by have:=List.getElem?_eq_none_iff.mp e;omega)]
   | some u =>
    obtain ⟨b,_,t⟩:=jc (mask:=mask) hl e
    rw [w] at t
    rw [t]
    show some (ci b u).v=some u.v
    rw [(bj b u).2.1]
  have up:∀ (i:Nat) (u:It3),g[i]?=some u->∃ b s,mask[i]?=some b/\ps[i]?=some s/\u=ci b s:=fun i u e=>by rw [<- w] at e;exact nD e
  have C:∀ u ∈ g,∃ b s,s ∈ ps/\u=ci b s:=fun u hu=>by
   obtain ⟨i,hi,e⟩:=List.mem_iff_getElem.mp hu
   obtain ⟨b,s,_,t,A⟩:=up i u (by rw [BF hi,e])
   exact ⟨b,s,BL t,A⟩
  have R:∀ u ∈ g,Arg K H u:=fun u hu=>by
   obtain ⟨b,s,h0,rfl⟩:=C u hu
   obtain ⟨e1,t,A,e4⟩:=bj b s
   refine ⟨by rw [e1,t,A];exact (ha s h0).rep,fun hf=>?_⟩
   rw [e1,t,A]
   refine (ha s h0).own fun z=>hf ?_
   rcases e4 with f | f
   ·rw [f];exact z
   ·exact f
  have J:g.Pairwise Apart3:=by
   rw [List.pairwise_iff_getElem]
   intro i j hi hj lt
   obtain ⟨b,s,_,t,A⟩:=up i _ (BF hi)
   obtain ⟨F,V,_,Z,ae⟩:=up j _ (BF hj)
   have ap:=cg hp (fun _ _=>Apart3.symm) (BR lt) t Z
   rw [A,ae]
   obtain ⟨_,a2,W,S⟩:=bj b s
   obtain ⟨_,b2,b3,b4⟩:=bj F V
   exact ⟨ap.1.low a2 S b3,ap.2.low b2 b4 W⟩
  have M:∀ (i:Nat) (u:It3),g[i]?=some u->u.f ≠ .z->prM mask i=true:=fun i u e hf=>by
   obtain ⟨b,s,e1,t,A⟩:=up i u e
   unfold prM
   rw [e1]
   cases b with
   | false=>rfl
   | true=>rw [A] at hf;exact absurd rfl hf
  have alls:∀ c,cQ g c->cQ ps c:=fun c ⟨u,hu,N⟩=>by
   obtain ⟨b,s,h0,rfl⟩:=C u hu
   exact ⟨s,h0,by rw [<- (bj b s).2.2.1];exact N⟩
  have lift:∀ {H':Hp} {qs:List It3},BehindX K H H' g qs->BehindX K H H' ps qs:=fun {H' qs} B=>by
   refine ⟨fun b o hb hn=>B.frame b o hb fun u hu hf T=>?_,Paired.ofGet ?_ fun k u v eu ev=>?_,B.apart⟩
   ·obtain ⟨F,s,h0,rfl⟩:=C u hu
    obtain ⟨_,t,_,e4⟩:=bj F s
    rcases e4 with f | f
    ·exact hn s h0 (by rw [<- f];exact hf) (by rw [<- t];exact T)
    ·rw [f] at hf;cases hf
   ·rw [<- U];exact Paired.length B.back
   ·obtain ⟨b,_,t⟩:=jc (mask:=mask) hl eu
    rw [w] at t
    have y:=Paired.at B.back t ev
    obtain ⟨a1,a2,W,S⟩:=bj b u
    refine ⟨fun hz=>?_,by rw [y.v,a2],?_,y.arg,fun c N=>(y.src c N).imp id (alls c),fun hf F O=>?_⟩
    ·have:ci b u=u:=by
      cases b
      ·rfl
      ·obtain ⟨d,v,L,f⟩:=u
       have hz:f=.z:=hz
       subst hz;rfl
     rw [<- this]
     exact y.z (by rw [this];exact hz)
    ·rcases y.f with h | h
     ·rcases S with f | f
      ·exact .inl (h.trans f)
      ·exact .inr (h.trans f)
     ·exact .inr h
    ·rcases S with f | f
     ·exact y.there (by rw [f];exact hf) F (by rw [a2];exact O)
     ·-- lowered: as it was
      obtain ⟨_,a,L',v1,v2,_⟩:=(ha u (BL eu)).own (by rw [hf];intro q;cases q)
      rw [O] at v1;cases v1
      have hq:=y.z f
      have r:=y.arg.rep
      rw [hq,a1,a2,W] at r
      exact (r.inH F (by rw [v2];exact By)).ex
  have X:g.length<=n:=by omega
  have wf:=pj (K:=K) (H:=H) (n:=n) (pr:=prM mask) X R J M
  rw [T] at wf
  refine ⟨gOf H (prM mask) ((ps.map (·.v)).map some ++ List.replicate (n - (ps.map (·.v)).length) none) g,rfl,?_⟩
  have h0:∀ (i:Nat) (u:It3),g[i]?=some u->((ps.map (·.v)).map some ++ List.replicate (n - (ps.map (·.v)).length) none)[i]?=some (some u.v):=fun i u e=>jD (by rw [<- T];exact sC e)
  unfold fn0 at l
  cases e:m (eA n (g.map fun p=>(p.d,p.f))) with
  | none=>rw [e] at l;exact nsE l
  | some rr =>
   obtain ⟨r,ρ2⟩:=rr
   rw [e] at l
   refine tS.mk (r:=r) (Le.refl K _ _) wf e ?_
   have fin:∀ {x:It3} {σ':St} {H':Hp} {g':Nat->Option It3} {d:D} {f:Fl},Wf K (gOf H (prM mask) ((ps.map (·.v)).map some ++ List.replicate (n - (ps.map (·.v)).length) none) g) H' σ' ρ2 [x] g'->x.d=d->x.f=f ->
     ((dF ρ2 0 (g.map fun p=>(p.d,p.f))).map fun fs=>((.ok (d,f),fs):Except D (D × Fl) × List (D × Fl)))=some (.ok p,fs)->Q x.v H':=fun {x σ' H' g' d f} P xd xf l=>by
    cases I:dF ρ2 0 (g.map fun p=>(p.d,p.f)) with
    | none=>rw [I] at l;exact nsE l
    | some fs' =>
     rw [I] at l
     cases l
     obtain ⟨qs,B,hq⟩:=mB (n:=n) R J M h0 P I
     have BX:=lift B.toBehindX
     exact q x qs H' ⟨BX,B.rep,B.own,fun c N=>(B.src c N).imp id (alls c),B.apx⟩ xd xf hq
   cases r with
   | error er=>
    dsimp only at l
    cases I:dF ρ2 0 (g.map fun p=>(p.d,p.f)) with
    | none=>rw [I] at l;exact nsE l
    | some fs'=>rw [I] at l;cases l
   | ok fl =>
    cases fl with
    | nx =>
     intro σ' H' g' P
     obtain ⟨Ts,g2,w2,a2⟩:=P.const .non
     obtain ⟨x,rfl,Y,x2,x3⟩:=a2.val_inv
     have:=fin w2 Y x2 l
     rw [x3] at this
     exact this
    | br=>exact nsE l
    | ct=>exact nsE l
    | rt d f =>
     intro x σ' H' g' P Y x2
     exact fin P Y x2 l
 ·exact nsE l
end
abbrev bh (P:Program) (w:World) (K:FG) (mg:Str->Option Value) (base:Heap) (x:Str) (k:Nat) (ps:List Str) (F:Fn):Prop:=Callee P w K mg base x k ps (qG K F)
theorem bv {k:Nat} {nn:Nat} (D:Def K mg x st) (S:FnScope N ps (ac st)) (c:mask.length=ps.length) (b:N.length=nn) (g:∀ (kV doc pm:Value) (an:Option Addr) (a ct:Value) (us:List Value),us.length=ps.length->bindArgs (PySem.W.fnOf x x (aQ st) (aL st) (ac st) .none kV doc pm an a ct) ⟨us,[]⟩=pure (ps.zip us)) (body:∀ (a:Value) (A:Around) (outer:List Env) (s:Shared) (H:Hp) (E:XK) (f:Addr) (G:Gm),Room k (A.deeper (PyProof.Rows.envOfC x (ac st) s.heap.objs.size f a))->G.pr=prM mask->RSs (dY CX0 P w K mg base N x (ac st) f a A outer s H E).nox G noX (aL st) m) :
  bh P w K mg base x (k+1) ps (fnM mask nn m):=by
 refine D.callee g fun f fd F=>F.ok S (fun n H Q E h=>?_) fun a A outer s H n Q E l h=>?_
 ·obtain ⟨i,p,fs,rfl,_,_,d,_⟩:=h
  unfold fnM at d
  rw [BJ] at d ⊢
  split at d
  ·rename_i e;rw [e,c]
  ·exact nsE d
 ·have hle:mask.length<=nn:=by
   rw [c,<- b]
   have:=congrArg List.length S.pre
   rw [B1] at this
   omega
  obtain ⟨G,o,j⟩:=oN hle h
  subst b
  exact ⟨_,(body a A outer s H E f G l o).h,j⟩
theorem xI {k:Nat} (c:bh X.prog X.w X.K X.mg X.base x k ps F) (d:Room k X.A) (f:RA X G0 W0 (e :: es) ms) (g:Gl X x) (a:(x == ("__debug__":Str))=false) (he:starEach (e :: es) X.env=(false,eval e X.env) :: starEach es X.env) (b:(backTo pos (starEach es X.env)).any (·.1)=false):RE X G0 W0 (.Call (.Name x p) (e :: es) [] pos) (aK F ms) :=
 ⟨PE.imp (pe_fn c d f.h g a he b) fun _ _ _ h=>pw h⟩
end L3
end
section
namespace L3
open PySem L2
def orD (f g:D->D->Option (D × Fl)) (a b:D):Option (D × Fl):=match f a b with
 | some p=>some p
 | none=>g a b
section
variable {K:FG} {H:Hp} {Ks:Addr->Prop} {d:D} {v:V} {L:List Addr} {X:Cx}
theorem d7 (r:Rep K H d v []):New K H H Ks ⟨d,v,[],.z⟩:=⟨Same.refl _,r,fun _ h=>(by cases h),fun h=>absurd rfl h⟩
theorem pO (r:Rep K H d v L) (h:∀ c ∈ L,Ks c):New K H H Ks ⟨d,v,L,.z⟩:=⟨Same.refl _,r,fun c a=>.inr (h c a),fun h=>absurd rfl h⟩
theorem vJ (a:H p=none) (r:Reps (Rep K H) ds vs L) (h:∀ c ∈ L,Ks c):New K H (upd H p (.lst vs)) Ks ⟨.lst ds,.ref p,p :: L,.u⟩:=by
 have np:p ∉ L:=fun b=>by obtain ⟨o,d⟩:=(r.inH p b).ex;rw [a] at d;exact nsE d
 refine ⟨bB a,.lst aV (r.same (bB a)),fun c b=>?_,fun _=>⟨rfl,p,L,rfl,rfl,np,a⟩⟩
 rcases BE.mp b with e | b
 ·rw [e];exact .inl a
 ·exact .inr (h c b)
theorem vI (a:H p=none) (r:Reps (Rep K H) ds vs L) (h:∀ c ∈ L,Ks c):New K H (upd H p (.tup vs)) Ks ⟨.tup ds,.ref p,L,.z⟩ :=
 ⟨bB a,.tup aV (r.same (bB a)),fun c b=>.inr (h c b),fun h=>absurd rfl h⟩
theorem jQ (a:y ∈ ys) (h:Arg K H y) (hm:je y.d=false):∀ c ∈ y.L,dZ ys c:=fun c b=>⟨y,a,b,fun hf=>by
 have:=(h.own hf).1
 rw [hm] at this;cases this⟩
theorem oG (g:y ∈ ys) (h:Arg K H y) (b:y.v=.ref a) (d:y.L=a :: L):∀ c ∈ L,dZ ys c:=fun c f=>⟨y,g,by rw [d];exact Bz _ f,fun hf e=>by
 obtain ⟨_,i,L',v1,v2,v3⟩:=h.own hf
 rw [b] at v1;cases v1
 rw [d] at v2;cases v2
 rw [b] at e;cases e
 exact v3 f⟩
theorem OpD.or (h:OpD K r f) (h':OpD K r' g):OpD K (fun x y H Q=>r x y H Q\/r' x y H Q) (orD f g):=fun a b H Q p ra rb e q=>by
 unfold orD at e
 cases c:f a.d b.d with
 | some p'=>rw [c] at e;cases e;exact .inl (h a b H Q _ ra rb c q)
 | none=>rw [c] at e;exact .inr (h' a b H Q p ra rb e q)
def dW (C:Int->Int->Bool) (g:Int->Int->D):D->D->Option (D × Fl)
 | .int i,.int j=>if C i j then some (g i j,.z) else none
 | _,_=>none
theorem jh (d:∀ i j,Cb i j=true->C i j) (f:∀ i j H,Rep K H (gd i j) (g i j) []):OpD K (rI C g) (dW Cb gd):=fun a b H Q p ra rb e q=>by
 obtain ⟨da,k,h,m⟩:=a
 obtain ⟨db,l,n,o⟩:=b
 obtain ⟨ra,r⟩:=ra
 obtain ⟨rb,ob⟩:=rb
 dsimp only at ra rb
 cases da <;> try (exact nsE e)
 rename_i i
 obtain ⟨rfl,rfl⟩:=ra.view
 cases db <;> try (exact nsE e)
 rename_i j
 obtain ⟨rfl,rfl⟩:=rb.view
 have e:(if Cb i j then some (gd i j,Fl.z) else none)=some p:=e
 split at e
 ·rename_i c
  cases e
  exact ⟨i,j,rfl,rfl,d i j c,q ⟨gd i j,g i j,[],.z⟩ H (d7 (f i j H)) rfl rfl⟩
 ·exact nsE e
theorem rI_of:rI0 g=rI (fun _ _=>True) g:=by
 funext x y H Q
 unfold rI0 rI
 apply propext
 constructor
 ·rintro ⟨i,j,a,b,c⟩;exact ⟨i,j,a,b,trivial,c⟩
 ·rintro ⟨i,j,a,b,_,c⟩;exact ⟨i,j,a,b,c⟩
theorem jg (a:∀ i j H,Rep K H (gd i j) (g i j) []):OpD K (rI0 g) (dW (fun _ _=>true) gd):=by
 rw [rI_of]
 exact jh (fun _ _ _=>trivial) a
abbrev tf:Int->Int->Bool:=fun _ _=>true
abbrev addI:=dW tf fun i j=>.int (i+j)
abbrev fO:=dW tf fun i j=>.int (i - j)
abbrev d8:=dW (fun i j=>decide ((-(2 ^ 64) < i/\i < 2 ^ 64)\/(-(2 ^ 64) < j/\j < 2 ^ 64))) fun i j=>.int (i * j)
abbrev qX:=dW (fun _ j=>decide (0 < j)) fun i j=>.int (i % j)
abbrev vt:=dW (fun i j=>decide (0<=j/\j<=1000000/\i.natAbs < 2 ^ 64)) fun i j=>.int (i ^ j.toNat)
abbrev ltI:=dW tf fun i j=>.bl (decide (i < j))
abbrev leI:=dW tf fun i j=>.bl (decide (i<=j))
theorem od_addI:OpD K (rI0 fun i j=>.int (i+j)) addI:=jg fun i j _=>.int _
theorem xY:OpD K (rI0 fun i j=>.int (i - j)) fO:=jg fun i j _=>.int _
theorem x4:OpD K (rI CMul fun i j=>.int (i * j)) d8:=jh (fun i j h=>by simpa [CMul,uC,wS] using h) fun i j _=>.int _
theorem x5:OpD K (rI (fun _ j=>0 < j) fun i j=>.int (i % j)) qX:=jh (fun i j h=>by simpa [CMul,uC,wS] using h) fun i j _=>.int _
theorem xZ:OpD K (rI wS fun i j=>.int (i ^ j.toNat)) vt:=jh (fun i j h=>by simpa [CMul,uC,wS] using h) fun i j _=>.int _
theorem y6:OpD K (rI0 fun i j=>.bl (decide (i < j))) ltI:=jg fun i j _=>.bl _
theorem y7:OpD K (rI0 fun i j=>.bl (decide (i<=j))) leI:=jg fun i j _=>.bl _
def qp:D->D->Option (D × Fl)
 | .tup xs,.tup ys=>if xs.length+ys.length<=16777216 then some (.tup (xs ++ ys),.z) else none
 | _,_=>none
def qt:D->D->Option (D × Fl)
 | .lst xs,.lst ys=>if xs.length+ys.length<=16777216 then some (.lst (xs ++ ys),.u) else none
 | _,_=>none
def qr:D->D->Option (D × Fl)
 | .str xs,.str ys=>if xs.length+ys.length<=16777216 then some (.str (xs ++ ys),.z) else none
 | _,_=>none
theorem Reps.len (r:Reps (Rep K H) ds vs L):ds.length=vs.length:=by
 induction r with
 | nil=>rfl
 | cons _ _ ih=>simp [ih]
theorem Reps.append (r:Reps (Rep K H) ds vs L) (b:Reps (Rep K H) ds' vs' L'):Reps (Rep K H) (ds ++ ds') (vs ++ vs') (L ++ L'):=by
 induction r with
 | nil=>exact b
 | cons a _ ih=>rw [List.append_assoc];exact .cons a ih
theorem Reps.nil_iff (r:Reps (Rep K H) ds vs L):ds=[] ↔ vs=[]:=by cases r <;> simp
def oi (K:FG):R2:=fun x y H Q=>∃ a b ys,x=.ref a/\y=.ref b/\SqT K H a []/\SqT K H b ys/\Q (.ref b) H
theorem vD:OpR X (binaryOp .Add) (oi X.K):=by
 intro pins s σ H x y v u Q I t r h
 obtain ⟨a,b,ys,rfl,rfl,w,p,q⟩:=h
 cases t
 cases r
 obtain ⟨its,m,z,_⟩:=I.tuple w
 obtain ⟨k,A,p2,_⟩:=I.tuple p
 have e:its=[]:=m.nil_iff.mpr rfl
 subst e
 obtain ⟨⟨cls,dd,data,sl⟩,i,l,n,hd⟩:=id z
 obtain ⟨⟨j,f,data2,g⟩,c,d,o,hd2⟩:=id p2
 simp only at l hd d hd2
 subst l hd d hd2
 exact concat_meets ⟨_,i,rfl⟩ ⟨_,c,rfl⟩ noFill_tuple_add seq_tuple_add PySem.F.slot_tuple_add PySem.F.entry_tuple_add (PySem.F.args_tuple_add_2 _ _)
   (PyProof.Rows.tuple_addW0 a b _ _ n o dd f sl g (by simp)) ⟨i,c,⟨.ref b,H,I,rfl,q⟩⟩
theorem od_catT:OpD K (fun x y H Q=>sj K x y H Q\/oi K x y H Q) qp:=fun a b H Q p ra rb e q=>by
 obtain ⟨da,B,k,r⟩:=a
 obtain ⟨db,C,l,s⟩:=b
 obtain ⟨ra,u⟩:=ra
 obtain ⟨rb,ob⟩:=rb
 dsimp only at ra rb
 cases da <;> try (exact nsE e)
 rename_i xs
 obtain ⟨i,t,rfl,j,rs⟩:=ra.view
 cases db <;> try (exact nsE e)
 rename_i ys
 obtain ⟨f,ws,rfl,g,d⟩:=rb.view
 have e:(if xs.length+ys.length<=16777216 then some (D.tup (xs ++ ys),Fl.z) else none)=some p:=e
 split at e
 ·rename_i v
  cases e
  by_cases o:t=[]
  ·have m:=rs.nil_iff.mpr o
   subst o m
   refine .inr ⟨i,f,ws,rfl,rfl,SqT.of j,SqT.of g,?_⟩
   exact q ⟨.tup ys,.ref f,l,.z⟩ H (pO (.tup g d) (jQ (y:=⟨.tup ys,.ref f,l,s⟩) (Bz _ (B8.mpr rfl)) ⟨.tup g d,ob⟩ rfl)) rfl rfl
  ·refine .inl ⟨i,f,t,ws,rfl,rfl,SqT.of j,SqT.of g,o,by rw [<- rs.len,<- d.len,<- szl];exact v,fun hw=>?_,fun hw p A=>?_⟩
   ·have n:=d.nil_iff.mpr hw
    subst n
    refine q ⟨.tup (xs ++ []),.ref i,k,.z⟩ H (pO (by rw [List.append_nil];exact .tup j rs) (jQ (y:=⟨.tup xs,.ref i,k,r⟩) By ⟨.tup j rs,u⟩ rfl)) rfl rfl
   ·refine q ⟨.tup (xs ++ ys),.ref p,k ++ l,.z⟩ _ (vI A (rs.append d) fun c w=>?_) rfl rfl
    rcases BH.mp w with h | h
    ·exact jQ (y:=⟨.tup xs,.ref i,k,r⟩) By ⟨.tup j rs,u⟩ rfl c h
    ·exact jQ (y:=⟨.tup ys,.ref f,l,s⟩) (Bz _ (B8.mpr rfl)) ⟨.tup g d,ob⟩ rfl c h
 ·exact nsE e
theorem yg:OpD K xK qt:=fun a b H Q p ra rb e q=>by
 obtain ⟨da,w,f,o⟩:=a
 obtain ⟨db,x,j,t⟩:=b
 obtain ⟨ra,v⟩:=ra
 obtain ⟨rb,ob⟩:=rb
 dsimp only at ra rb
 cases da <;> try (exact nsE e)
 rename_i xs
 obtain ⟨i,s,f,rfl,rfl,l,rs⟩:=ra.view
 cases db <;> try (exact nsE e)
 rename_i ys
 obtain ⟨g,ws,j,rfl,rfl,k,d⟩:=rb.view
 have e:(if xs.length+ys.length<=16777216 then some (D.lst (xs ++ ys),Fl.u) else none)=some p:=e
 split at e
 ·rename_i m
  cases e
  refine ⟨i,g,s,ws,rfl,rfl,l,k,by rw [<- rs.len,<- d.len,<- szl];exact m,fun p r=>?_⟩
  refine q ⟨.lst (xs ++ ys),.ref p,p :: (f ++ j),.u⟩ _ (vJ r (rs.append d) fun c n=>?_) rfl rfl
  rcases BH.mp n with h | h
  ·exact oG (y:=⟨.lst xs,.ref i,i :: f,o⟩) By ⟨.lst l rs,v⟩ rfl rfl c h
  ·exact oG (y:=⟨.lst ys,.ref g,g :: j,t⟩) (Bz _ (B8.mpr rfl)) ⟨.lst k d,ob⟩ rfl rfl c h
 ·exact nsE e
theorem od_catS:OpD K (fun x y H Q=>∃ i j,x=.str i/\y=.str j/\i.length+j.length<=sizeLine/\Q (.str (i ++ j)) H) qr:=fun a b H Q p ra rb e q=>by
 obtain ⟨da,f,d,g⟩:=a
 obtain ⟨db,m,h,k⟩:=b
 obtain ⟨ra,l⟩:=ra
 obtain ⟨rb,ob⟩:=rb
 dsimp only at ra rb
 cases da <;> try (exact nsE e)
 rename_i i
 obtain ⟨rfl,rfl⟩:=ra.view
 cases db <;> try (exact nsE e)
 rename_i j
 obtain ⟨rfl,rfl⟩:=rb.view
 have e:(if i.length+j.length<=16777216 then some (D.str (i ++ j),Fl.z) else none)=some p:=e
 split at e
 ·rename_i c
  cases e
  exact ⟨i,j,rfl,rfl,by rw [<- szl];exact c,q ⟨.str (i ++ j),.str (i ++ j),[],.z⟩ H (d7 (.str _)) rfl rfl⟩
 ·exact nsE e
abbrev ce:=orD addI (orD qr (orD qp qt))
theorem AM:OpD K (fun x y H Q=>rI0 (fun i j=>.int (i+j)) x y H Q\/((∃ i j,x=.str i/\y=.str j/\i.length+j.length<=sizeLine/\Q (.str (i ++ j)) H)\/((sj K x y H Q\/oi K x y H Q)\/xK x y H Q))) ce:=od_addI.or (od_catS.or (od_catT.or yg))
theorem xW:OpR X (binaryOp .Add) (fun x y H Q=>rI0 (fun i j=>.int (i+j)) x y H Q\/((∃ i j,x=.str i/\y=.str j/\i.length+j.length<=sizeLine/\Q (.str (i ++ j)) H)\/((sj X.K x y H Q\/oi X.K x y H Q)\/xK x y H Q))):=op_add.or (op_add_str.or ((op_catT.or vD).or AI))
def eqS:D->D->Option Bool
 | .non,.non=>some true | .non,.int _=>some false | .int _,.non=>some false | .non,.bl _=>some false | .bl _,.non=>some false | .non,.str _=>some false | .str _,.non=>some false
 | .int i,.int j=>some (decide (i=j)) | .bl i,.bl j=>some (decide (i=j)) | .str i,.str j=>some (decide (i=j))
 | .int _,.str _=>some false | .str _,.int _=>some false | .bl _,.str _=>some false | .str _,.bl _=>some false
 | _,_=>none
theorem wq (ra:Rep K H a u L) (rb:Rep K H b v L') (e:eqS a b=some k):zQ u v=true/\k=decide (u=v):=by
 cases a <;> cases b <;> first | exact nsE e | (obtain ⟨rfl,rfl⟩:=ra.view;obtain ⟨rfl,rfl⟩:=rb.view;cases e;exact ⟨rfl,by simp⟩)
def ku:D->Bool
 | .non=>true
 | _=>false
def isN:D->D->Option (D × Fl)
 | a,.non=>some (.bl (ku a),.z)
 | _,_=>none
def yh:D->D->Option (D × Fl)
 | a,.non=>some (.bl (!ku a),.z)
 | _,_=>none
theorem Rep.non_iff (ra:Rep K H a u L):ku a=decide (u=.non):=by cases ra <;> simp [ku]
theorem AL:OpD K (fun x y H Q=>y=.non/\Q (.bl (decide (x=.non))) H) isN:=fun a b H Q p ra rb e q=>by
 obtain ⟨db,f,c,d⟩:=b
 obtain ⟨rb,ob⟩:=rb
 dsimp only at rb
 cases db <;> try (exact nsE e)
 obtain ⟨rfl,rfl⟩:=rb.view
 unfold isN at e
 cases e
 refine ⟨rfl,?_⟩
 rw [<- ra.rep.non_iff]
 exact q ⟨_,_,[],.z⟩ H (d7 (.bl _)) rfl rfl
def qW:D->Option (D × Fl)
 | .int i=>some (.int (-i),.z)
 | _=>none
theorem zt:UnD K (rU fun i=>.int (-i)) qW:=fun a H Q p ra e q=>by
 obtain ⟨da,c,b,d⟩:=a
 obtain ⟨ra,f⟩:=ra
 dsimp only at ra
 cases da <;> try (exact nsE e)
 obtain ⟨rfl,rfl⟩:=ra.view
 cases e
 exact ⟨_,rfl,q ⟨_,_,[],.z⟩ H (d7 (.int _)) rfl rfl⟩
theorem Reps.at:∀ {ds:List D} {b:List V} {L:List Addr} {i:Nat} {d:D},Reps (Rep K H) ds b L->ds[i]?=some d->∃ v L',b[i]?=some v/\Rep K H d v L'/\∀ c ∈ L',c ∈ L
 | _,_,_,_,_,.nil,h=>by simp at h
 | _,_,_,0,_,.cons r _,h=>by simp at h;subst h;exact ⟨_,_,rfl,r,fun c a=>BC _ a⟩
 | _,_,_,i+1,_,.cons _ t,h=>by
  obtain ⟨v,L',h1,h2,h3⟩:=Reps.at (i:=i) t (by simpa using h)
  exact ⟨v,L',by simpa using h1,h2,fun c a=>BD _ (h3 c a)⟩
theorem Reps.atI {i:Int} (r:Reps (Rep K H) ds vs L) (h:atI ds i=some d):∃ v L',atI vs i=some v/\Rep K H d v L'/\∀ c ∈ L',c ∈ L:=by
 unfold L2.atI at h ⊢
 rw [<- r.len]
 cases e:ixN ds.length i with
 | none=>rw [e] at h;exact nsE h
 | some j=>rw [e] at h;exact r.at h
def ixD:D->D->Option (D × Fl)
 | .lst xs,.int i=>(atI xs i).map fun d=>(d,.z)
 | .fls xs,.int i=>(atI xs i).map fun d=>(d,.z)
 | .tup xs,.int i=>(atI xs i).map fun d=>(d,.z)
 | _,_=>none
theorem od_ix:OpD K (fun x y H Q=>vj K x y H Q\/vi K x y H Q) ixD:=fun a b H Q p ra rb e q=>by
 obtain ⟨da,n,l,m⟩:=a
 obtain ⟨db,t,o,r⟩:=b
 obtain ⟨rb,ob⟩:=rb
 have g:=ra
 obtain ⟨ra,s⟩:=ra
 dsimp only at ra rb
 cases da <;> try (exact nsE e)
 all_goals (cases db <;> try (exact nsE e))
 all_goals (rename_i xs i;obtain ⟨rfl,rfl⟩:=rb.view)
 ·obtain ⟨f,k,rfl,j,rs⟩:=ra.view
  obtain ⟨d,h1,h2⟩:=BB.mp (show (atI xs i).map (fun d=>(d,Fl.z))=some p from e)
  subst h2
  obtain ⟨v,L',g1,g2,g3⟩:=rs.atI h1
  refine .inr ⟨f,k,i,v,rfl,rfl,SqT.of j,g1,q ⟨d,v,L',.z⟩ H (pO g2 fun c h=>?_) rfl rfl⟩
  exact jQ (y:=⟨.tup xs,.ref f,l,m⟩) By g rfl c (g3 c h)
 ·obtain ⟨f,k,l,rfl,rfl,j,rs⟩:=ra.view
  obtain ⟨d,h1,h2⟩:=BB.mp (show (atI xs i).map (fun d=>(d,Fl.z))=some p from e)
  subst h2
  obtain ⟨v,L',g1,g2,g3⟩:=rs.atI h1
  refine .inl ⟨f,k,i,v,rfl,rfl,SqL.of j,g1,q ⟨d,v,L',.z⟩ H (pO g2 fun c h=>?_) rfl rfl⟩
  exact oG (y:=⟨.lst xs,.ref f,f :: l,m⟩) By g rfl rfl c (g3 c h)
 ·obtain ⟨f,k,rfl,j,rs⟩:=ra.view
  obtain ⟨d,h1,h2⟩:=BB.mp (show (atI xs i).map (fun d=>(d,Fl.z))=some p from e)
  subst h2
  obtain ⟨v,L',g1,g2,g3⟩:=rs.atI h1
  refine .inl ⟨f,k,i,v,rfl,rfl,j.sq,g1,q ⟨d,v,L',.z⟩ H (pO g2 fun c h=>?_) rfl rfl⟩
  exact jQ (y:=⟨.fls xs,.ref f,l,m⟩) By g rfl c (g3 c h)
theorem ix_ok:IxR X (fun x y H Q=>vj X.K x y H Q\/vi X.K x y H Q):=ix_list.or A3
end
end L3
end
section
namespace L3
open PySem L2
def orC (f g:List D->Option (D × Fl)) (a:List D):Option (D × Fl):=match f a with
 | some p=>some p
 | none=>g a
section
variable {K:FG} {H:Hp} {Ks:Addr->Prop} {d:D} {v:V} {L:List Addr} {X:Cx}
def c1 (f:D->Option (D × Fl)):List D->Option (D × Fl)
 | [d]=>f d
 | _=>none
def c2 (f:D->D->Option (D × Fl)):List D->Option (D × Fl)
 | [d,d']=>f d d'
 | _=>none
theorem mz {ys:List It3} (e:c1 f (ys.map (·.d))=some p):∃ y,ys=[y]/\f y.d=some p:=by
 match ys,e with
 | [],e=>exact nsE e
 | [y],e=>exact ⟨y,rfl,e⟩
 | _ :: _ :: _,e=>exact nsE e
theorem my {ys:List It3} (e:c2 f (ys.map (·.d))=some p):∃ y z,ys=[y,z]/\f y.d z.d=some p:=by
 match ys,e with
 | [],e=>exact nsE e
 | [_],e=>exact nsE e
 | [y,z],e=>exact ⟨y,z,rfl,e⟩
 | _ :: _ :: _ :: _,e=>exact nsE e
def rp:D->Option (D × Fl)
 | .lst xs=>some (.int xs.length,.z)
 | .fls xs=>some (.int xs.length,.z)
 | .tup xs=>some (.int xs.length,.z)
 | _=>none
abbrev jO:=c1 rp
theorem Bh:d6 K (fun xs H Q=>∃ p ys,xs=[.ref p]/\(SqL K H p ys\/SqT K H p ys)/\Q (.int ys.length) H) jO:=fun ys H Q p ra e q=>by
 obtain ⟨y,rfl,f⟩:=mz e
 clear e
 have e:=f
 clear f
 have d:=(ra y By).rep
 obtain ⟨da,h,g,i⟩:=y
 dsimp only at d e
 cases da <;> try (exact nsE e)
 ·rename_i xs
  obtain ⟨c,b,rfl,a,rs⟩:=d.view
  cases e
  exact ⟨c,b,rfl,.inr (SqT.of a),by rw [<- rs.len];exact q ⟨_,_,[],.z⟩ H (d7 (.int _)) rfl rfl⟩
 ·rename_i xs
  obtain ⟨c,b,g,rfl,rfl,a,rs⟩:=d.view
  cases e
  exact ⟨c,b,rfl,.inl (SqL.of a),by rw [<- rs.len];exact q ⟨_,_,[],.z⟩ H (d7 (.int _)) rfl rfl⟩
 ·rename_i xs
  obtain ⟨c,b,rfl,a,rs⟩:=d.view
  cases e
  exact ⟨c,b,rfl,.inl a.sq,by rw [<- rs.len];exact q ⟨_,_,[],.z⟩ H (d7 (.int _)) rfl rfl⟩
def uE:D->Option (D × Fl)
 | .lst xs=>some (.tup xs,.z)
 | .tup xs=>some (.tup xs,.z)
 | _=>none
abbrev tv:=c1 uE
theorem Bf:d6 K (fun xs H Q=>∃ p ys,xs=[.ref p]/\((SqL K H p ys/\∀ l,H l=none->Q (.ref l) (upd H l (.tup ys)))\/(SqT K H p ys/\Q (.ref p) H))) tv:=fun ys H Q p ra e q=>by
 obtain ⟨y,rfl,h⟩:=mz e
 clear e
 have e:=h
 clear h
 have f:=ra y By
 have d:=f.rep
 obtain ⟨da,k,b,i⟩:=y
 dsimp only at d e
 cases da <;> try (exact nsE e)
 ·rename_i xs
  obtain ⟨a,g,rfl,c,rs⟩:=d.view
  cases e
  exact ⟨a,g,rfl,.inr ⟨SqT.of c,q ⟨.tup xs,.ref a,b,.z⟩ H (pO (.tup c rs) (jQ (y:=⟨.tup xs,.ref a,b,i⟩) By f rfl)) rfl rfl⟩⟩
 ·rename_i xs
  obtain ⟨a,g,b,rfl,rfl,c,rs⟩:=d.view
  cases e
  exact ⟨a,g,rfl,.inl ⟨SqL.of c,fun l j=>q ⟨.tup xs,.ref l,b,.z⟩ _ (vI j rs (oG (y:=⟨.lst xs,.ref a,a :: b,i⟩) By f rfl rfl)) rfl rfl⟩⟩
def vU:D->Option (D × Fl)
 | .lst xs=>some (.lst xs,.u)
 | .tup xs=>some (.lst xs,.u)
 | _=>none
abbrev AV:=c1 vU
theorem Bg:d6 K (fun xs H Q=>∃ p ys,xs=[.ref p]/\(SqL K H p ys\/SqT K H p ys)/\∀ l,H l=none->Q (.ref l) (upd H l (.lst ys))) AV:=fun ys H Q p ra e q=>by
 obtain ⟨y,rfl,i⟩:=mz e
 clear e
 have e:=i
 clear i
 have f:=ra y By
 have d:=f.rep
 obtain ⟨da,k,b,j⟩:=y
 dsimp only at d e
 cases da <;> try (exact nsE e)
 ·rename_i xs
  obtain ⟨a,h,rfl,g,rs⟩:=d.view
  cases e
  exact ⟨a,h,rfl,.inr (SqT.of g),fun l c=>q ⟨.lst xs,.ref l,l :: b,.u⟩ _ (vJ c rs (jQ (y:=⟨.tup xs,.ref a,b,j⟩) By f rfl)) rfl rfl⟩
 ·rename_i xs
  obtain ⟨a,h,b,rfl,rfl,g,rs⟩:=d.view
  cases e
  exact ⟨a,h,rfl,.inl (SqL.of g),fun l c=>q ⟨.lst xs,.ref l,l :: b,.u⟩ _ (vJ c rs (oG (y:=⟨.lst xs,.ref a,a :: b,j⟩) By f rfl rfl)) rfl rfl⟩
def wN:D->Option (D × Fl)
 | .int i=>some (.int (if i < 0 then -i else i),.z)
 | _=>none
abbrev absD:=c1 wN
theorem Rep.int_inv {i:Int} (r:Rep K H (.int i) v L):v=.int i:=by cases r;rfl
theorem Bj:d6 K (fun xs H Q=>∃ i,xs=[.int i]/\Q (.int (if i < 0 then -i else i)) H) absD:=fun ys H Q p ra e q=>by
 obtain ⟨y,rfl,a⟩:=mz e
 clear e
 have e:=a
 clear a
 have b:=(ra y By).rep
 obtain ⟨da,d,c,f⟩:=y
 dsimp only at b e
 cases b <;> try (exact nsE e)
 cases e
 exact ⟨_,rfl,q ⟨_,_,[],.z⟩ H (d7 (.int _)) rfl rfl⟩
def jf (C:Int->Int->Bool) (g:Int->Int->D):D->D->Option (D × Fl)
 | .int i,.int j=>if C i j then some (g i j,.z) else none
 | _,_=>none
theorem jS (e:jf C g a b=some p):∃ i j,a=.int i/\b=.int j/\C i j=true/\p=(g i j,.z):=by
 cases a <;> cases b <;> try (exact nsE e)
 rename_i i j
 have e:(if C i j then some (g i j,Fl.z) else none)=some p:=e
 split at e
 ·rename_i h;cases e;exact ⟨i,j,rfl,rfl,h,rfl⟩
 ·exact nsE e
abbrev y9:=c2 (jf tf fun i j=>.int (if j > i then j else i))
abbrev y8:=c2 (jf tf fun i j=>.int (if j < i then j else i))
abbrev wx:=c2 (jf (fun _ j=>decide (0 < j/\j < 1073741824)) fun i j=>.tup [.int (i / j),.int (i % j)])
theorem yF:d6 K (fun xs H Q=>∃ i j,xs=[.int i,.int j]/\Q (.int (if j > i then j else i)) H) y9:=fun ys H Q p ra e q=>by
 obtain ⟨y,z,rfl,c⟩:=my e
 clear e
 have e:=c
 clear c
 obtain ⟨i,j,f,d,_,rfl⟩:=jS e
 have a:=(ra y By).rep
 have b:=(ra z (Bz _ By)).rep
 rw [f] at a
 rw [d] at b
 refine ⟨i,j,?_,q ⟨_,_,[],.z⟩ H (d7 (.int _)) rfl rfl⟩
 show [y.v,z.v]=_
 rw [a.int_inv,b.int_inv]
theorem yE:d6 K (fun xs H Q=>∃ i j,xs=[.int i,.int j]/\Q (.int (if j < i then j else i)) H) y8:=fun ys H Q p ra e q=>by
 obtain ⟨y,z,rfl,c⟩:=my e
 clear e
 have e:=c
 clear c
 obtain ⟨i,j,f,d,_,rfl⟩:=jS e
 have a:=(ra y By).rep
 have b:=(ra z (Bz _ By)).rep
 rw [f] at a
 rw [d] at b
 refine ⟨i,j,?_,q ⟨_,_,[],.z⟩ H (d7 (.int _)) rfl rfl⟩
 show [y.v,z.v]=_
 rw [a.int_inv,b.int_inv]
theorem um:d6 K (fun xs H Q=>∃ i j,xs=[.int i,.int j]/\uC i j/\∀ p,H p=none->Q (.ref p) (upd H p (.tup [.int (i / j),.int (i % j)]))) wx:=fun ys H Q p ra e q=>by
 obtain ⟨y,z,rfl,f⟩:=my e
 clear e
 have e:=f
 clear f
 obtain ⟨i,j,k,h,a,rfl⟩:=jS e
 have b:=(ra y By).rep
 have d:=(ra z (Bz _ By)).rep
 rw [k] at b
 rw [h] at d
 refine ⟨i,j,?_,by simpa [uC] using a,fun p g=>q ⟨_,.ref p,[],.z⟩ _ (vI g (L:=[]) (.cons (L:=[]) (.int _) (.cons (L:=[]) (.int _) .nil)) fun c a=>by cases a) rfl rfl⟩
 show [y.v,z.v]=_
 rw [b.int_inv,d.int_inv]
def eB:List D->Option (List Bool)
 | []=>some []
 | .bl b :: ds=>(eB ds).map (b :: ·)
 | _=>none
theorem jx:∀ {ds:List D} {bs:List Bool},eB ds=some bs->ds=bs.map D.bl
 | [],bs,e=>by cases e;rfl
 | d :: ds,bs,e=>by
  cases d <;> try (exact nsE e)
  rename_i b
  obtain ⟨r,h1,h2⟩:=BB.mp (show (eB ds).map (b :: ·)=some bs from e)
  subst h2
  rw [jx h1];rfl
theorem Reps.bls:∀ {bs:List Bool} {a:List V} {L:List Addr},Reps (Rep K H) (bs.map D.bl) a L->a=bs.map V.bl
 | [],_,_,.nil=>rfl
 | b :: bs,_,_,.cons r rs=>by
  rw [Reps.bls rs]
  cases r;rfl
def Bt:D->Option (D × Fl)
 | .lst xs=>(eB xs).map fun bs=>(.bl (bs.all id),.z)
 | _=>none
abbrev yN:=c1 Bt
theorem Bi:d6 K (fun xs H Q=>∃ (a:Addr) (bs:List Bool),xs=[.ref a]/\SqL K H a (bs.map V.bl)/\Q (.bl (bs.all id)) H) yN:=fun ys H Q p ra e q=>by
 obtain ⟨y,rfl,c⟩:=mz e
 clear e
 have e:=c
 clear c
 have b:=(ra y By).rep
 obtain ⟨da,h,d,i⟩:=y
 dsimp only at b e
 cases da <;> try (exact nsE e)
 rename_i xs
 obtain ⟨g,j,d,rfl,rfl,f,rs⟩:=b.view
 obtain ⟨bs,h1,h2⟩:=BB.mp (show (eB xs).map (fun bs=>(D.bl (bs.all id),Fl.z))=some p from e)
 subst h2
 have:=jx h1
 subst this
 have:=rs.bls
 subst this
 exact ⟨g,bs,rfl,SqL.of f,q ⟨_,_,[],.z⟩ H (d7 (.bl _)) rfl rfl⟩
def kU (xs:List D) (lo hi:Option Int):List D:=(xs.drop (HT.sIx xs.length 0 lo)).take (HT.sIx xs.length xs.length hi - HT.sIx xs.length 0 lo)
end
end L3
end
section
namespace L3
open PySem L2
def uQ:D->Option (List D)
 | .lst xs=>some xs
 | .fls xs=>some xs
 | .tup xs=>some xs
 | _=>none
def ig (m:EM):IM:=ag m fun r=>ag (der r) fun d=>ba ((uQ d).map fun ds=>([r],ds))
def iSeq (K:FG) (tl:TE):TI:=fun σ H R=>tl σ H fun x H1=>(∃ a,x=.ref a/\(∃ xs,SqL K H1 a xs)/\R (Itl K a) H1)\/∃ a,x=.ref a/\(∃ xs,SqT K H1 a xs)/\R (Itt K a) H1
theorem Ap (i:PE X l tl):PI X tg l (iSeq X.K tl):=by
 intro pins s σ H R I h
 exact thn (i pins s σ H _ I h) fun v s1 ⟨x,H1,c,g,j⟩=>by
   rcases j with ⟨a,e,⟨xs,d⟩,q⟩ | ⟨a,e,⟨xs,d⟩,q⟩
   ·subst e
    cases g
    obtain ⟨its,k,p,hz⟩:=c.list d
    refine wpAny_pyIter_list p.isList ?_
    refine ⟨s1.heap.objs.size,[s1.heap.objs.size],_,_,H1,rfl,c.kept (t':=s1.toks) fun b o e=>BA _ e,tq a _,⟨_,BI _ rfl,rfl,rfl⟩,fun b f=>?_,q⟩
    have e:b=s1.heap.objs.size:=by simpa using f
    subst e
    exact c.fpOk (BP _) (c.hok.fresh (BP _))
   ·subst e
    cases g
    obtain ⟨its,k,p,hz⟩:=c.tuple d
    refine wpAny_pyIter_tuple (show s1.heap.IsTuple a its.toArray from p) ?_
    refine ⟨s1.heap.objs.size,[s1.heap.objs.size],_,_,H1,rfl,c.kept (t':=s1.toks) fun b o e=>BA _ e,qA a _,⟨_,BI _ rfl,rfl,rfl⟩,fun b f=>?_,q⟩
    have e:b=s1.heap.objs.size:=by simpa using f
    subst e
    exact c.fpOk (BP _) (c.hok.fresh (BP _))
section
variable {K:FG} {G G0:Gm} {W W0:D->Sto->Prop} {H H':Hp} {σ:St} {ρ ρ':Sto} {T T':List It3} {g:Nat->Option It3} {x y z:It3} {α β:Type} {X:Cx}
theorem Ar.item2 (w:Wf K G H σ ρ (Ts ++ T) g) (a:Ar σ r v Ts) (e:der r ρ=some (.ok d,ρ)):∃ y,y.d=d/\y.v=v/\((∃ i,i ∈ pls [r]/\g i=some y)\/y ∈ Ts):=by
 cases a with
 | @pl i v h =>
  have k:der (.pl i) ρ=((ρ[i]?).join).map fun p=>(.ok p.1,ρ):=rfl
  rw [k] at e
  cases q:(ρ[i]?).join with
  | none=>rw [q] at e;exact nsE e
  | some p =>
   rw [q] at e
   obtain ⟨y,e1,c,l,b⟩:=w.slot (d:=p.1) (f:=p.2) q
   have j:p.1=d:=by cases e;rfl
   rw [h] at b
   injection b with b
   injection b with b
   exact ⟨y,c.trans j,b.symm,.inl ⟨i,By,e1⟩⟩
 | val x=>cases e;exact ⟨x,rfl,rfl,.inr (by simp)⟩
theorem nY (l:Reps (Rep K H1) ds vs k) (s:∀ c ∈ k,dZ [y] c) (w:∀ c ∈ k,c ∈ y.L) (h:∀ (M:Addr->Prop) (H':Hp),(∀ b,M b->MutAt H1 b)->(∀ b o,H1 b=some o->¬ M b->H' b=some o)->(∀ b ∈ y.L,¬ M b)->(∀ (i:Nat) (v:V),vs[i]?=some v->J.go i H'/\∀ x e,J.yld i H' x e->e=H'/\x=v)/\J.stop vs.length H'):Walk K J H1 [y] ds:=by
 obtain ⟨ws,h1,h2,h3⟩:=Reps.split l
 refine ⟨ws,fun x g=>⟨(h3 x g).1,(h3 x g).2.1,fun c j=>s c ((h3 x g).2.2 c j)⟩,fun M H' hm f m=>?_⟩
 obtain ⟨go,stop⟩:=h M H' hm f (m y By)
 refine ⟨fun i d hd=>?_,by rw [l.len];exact stop⟩
 have hi:∃ u,ws[i]?=some u/\u.d=d:=by
  rw [<- h1,BO] at hd
  obtain ⟨u,a,b⟩:=BB.mp hd
  exact ⟨u,a,b⟩
 obtain ⟨u,n,q⟩:=hi
 have t:vs[i]?=some u.v:=by rw [<- h2,BO,n];rfl
 obtain ⟨g1,g2⟩:=go i u.v t
 refine ⟨g1,fun x e z=>?_⟩
 obtain ⟨e1,r⟩:=g2 x e z
 subst e1 r
 have hu:=BL n
 refine ⟨u,⟨Same.refl _,(h3 u hu).2.1.keep f hm fun b p=>m y By b (w b ((h3 u hu).2.2 b p)),fun c j=>.inr ⟨u,hu,j⟩,fun hf=>absurd (h3 u hu).1 hf⟩,q,(h3 u hu).1,rfl⟩
theorem m9 {y:It3} {a:Addr} {ds:List D} {c:List V} (k:∀ H',SqL K H' a c->True) (f:∀ (M:Addr->Prop) (H':Hp),(∀ b,M b->MutAt H b)->(∀ b o,H b=some o->¬ M b->H' b=some o)->(∀ b ∈ y.L,¬ M b)->SqL K H' a c) :
  ∀ (M:Addr->Prop) (H':Hp),(∀ b,M b->MutAt H b)->(∀ b o,H b=some o->¬ M b->H' b=some o)->(∀ b ∈ y.L,¬ M b)->(∀ (i:Nat) (v:V),c[i]?=some v->(Itl K a).go i H'/\∀ x d,(Itl K a).yld i H' x d->d=H'/\x=v)/\(Itl K a).stop c.length H':=fun M H' hm h j=>by
 have sq:SqL K H' a c:=f M H' hm h j
 refine ⟨fun i v e=>⟨⟨c,v,sq,e⟩,fun x d ⟨e1,g⟩=>⟨e1,?_⟩⟩,⟨c,sq,BP _⟩⟩
 have:=g c sq
 rw [e] at this
 injection this with this
 exact this.symm
theorem zG (h:tI K G0 W0 (ig m) σ H R):iSeq K (tE K G0 W0 m) σ H R:=by
 obtain ⟨G,W,le,ρ,T,g,o,ρ',w,e,q⟩:=h
 have k:∀ x,o=.error x->W x ρ':=fun x P=>by subst P;exact q
 refine tE.seq le w e k fun ra ρ1 e1 v H1 ⟨Ts,g1,C,a1⟩=>?_
 obtain ⟨d,Q,u⟩:=aW e1
 obtain ⟨p,F,rfl,rfl⟩:=bI u
 obtain ⟨ds,l,U⟩:=BB.mp F
 subst U
 obtain ⟨y,O,N,E⟩:=a1.item2 C Q
 have X:Itm (Ts ++ T) g1 y:=by
  rcases E with ⟨i,_,S⟩ | h
  ·exact .inl ⟨i,S⟩
  ·exact .inr (BC _ h)
 have L:=(C.itm X).arg
 have B:∀ J,Walk K J H1 [y] ds->R J H1:=fun J hw=>q J H1 [v] Ts g1 [y] C (by simpa using Ars.cons a1 .nil) (fun z hz=>by rw [B8.mp hz];exact E) hw
 clear e1 u F q
 subst O N
 have f:=L
 obtain ⟨da,Y,s,A⟩:=y
 obtain ⟨t,Z⟩:=L
 dsimp only at t l
 cases da with
 | tup xs =>
  obtain ⟨a,j,rfl,b,rs⟩:=t.view
  cases l
  refine .inr ⟨a,rfl,⟨_,SqT.of b⟩,B _ (nY rs (jQ (y:=⟨.tup ds,.ref a,s,A⟩) By f rfl) (fun c n=>n) fun M H' hm r D=>?_)⟩
  have sq:SqT K H' a j:=SqT.of (r a _ b fun z=>(hm a z).notup b)
  refine ⟨fun i v I=>⟨⟨j,v,sq,I⟩,fun x V ⟨e1,u⟩=>⟨e1,?_⟩⟩,⟨j,sq,BP _⟩⟩
  have:=u j sq
  rw [I] at this
  injection this with this
  exact this.symm
 | lst xs =>
  obtain ⟨a,j,s,rfl,rfl,b,rs⟩:=t.view
  cases l
  refine .inl ⟨a,rfl,⟨_,SqL.of b⟩,B _ (nY rs (oG (y:=⟨.lst ds,.ref a,a :: s,A⟩) By f rfl rfl) (fun c n=>Bz _ n) (m9 (ds:=ds) (fun _ _=>trivial) fun M H' hm r D=>SqL.of (r a _ b (D a By))))⟩
 | fls xs =>
  obtain ⟨a,j,rfl,b,rs⟩:=t.view
  cases l
  refine .inl ⟨a,rfl,⟨_,b.sq⟩,B _ (nY rs (jQ (y:=⟨.fls ds,.ref a,s,A⟩) By f rfl) (fun c n=>n) (m9 (ds:=ds) (fun _ _=>trivial) fun M H' hm r D=>(b.keep r hm).sq))⟩
 | _=>exact nsE l
theorem z6 (h:RE X G0 W0 l m):RI X G0 W0 tg l (ig m):=⟨PI.imp (Ap h.h) fun _ _ _ h=>zG h⟩
def cS (lo:Int) (n:Nat):List D:=(List.range n).map fun (k:Nat)=>D.int (lo+(k:Int))
theorem pk {lo:Int} {n:Nat}:Walk K (Itr lo n) H1 ys (cS lo n):=by
 refine ⟨[],fun x h=>(by cases h),fun M H' _ _ _=>⟨fun i d hd=>?_,?_⟩⟩
 ·unfold cS at hd
  rw [BO] at hd
  obtain ⟨k,a,b⟩:=BB.mp hd
  obtain ⟨c,e⟩:=BK.mp a
  rw [List.getElem_range] at e
  subst e
  rw [List.length_range] at c
  refine ⟨c,fun x g ⟨e1,f⟩=>?_⟩
  subst e1
  exact ⟨⟨d,x,[],.z⟩,d7 (by rw [<- b,f];exact .int _),rfl,rfl,rfl⟩
 ·show n<=(cS lo n).length
  unfold cS
  simp
def ko (j:Int):Bool:=decide (-(2 ^ 62)<=j/\j < 2 ^ 62)
def eR:List D->Option (List D)
 | [.int j]=>if ko j then some (cS 0 j.toNat) else none
 | _=>none
def tM:List D->Option (List D)
 | [.int i,.int j]=>if ko i && ko j then some (cS i (j - i).toNat) else none
 | _=>none
def cj (f:List D->Option (List D)) (ms:M3 (List R3)):IM:=ag ms fun rs=>ag (cO rs) fun ds=>ba ((f ds).map fun xs=>([],xs))
theorem xi (h:tI K G0 W0 (cj eR ms) σ H R):zf (tA K G0 W0 ms) σ H R:=by
 obtain ⟨G,W,le,ρ,T,g,o,ρ',w,e,q⟩:=h
 have b:∀ x,o=.error x->W x ρ':=fun x f=>by subst f;exact q
 refine tA.seq le w e b fun rs ρ1 e1 u H1 Ts g1 k a1=>?_
 obtain ⟨ds,n,t⟩:=bE e1
 obtain ⟨p,m,rfl,rfl⟩:=bI t
 obtain ⟨xs,a,s⟩:=BB.mp m
 subst s
 obtain ⟨ys,i,f1,f2⟩:=a1.items k (fun x f=>BC _ f) n
 subst f1 f2
 match ys,a,i,a1 with
 | [],a,_,_=>exact nsE a
 | y :: z :: r,a,_,_=>cases hd:y.d <;> (rw [BTz,BTz,hd] at a;exact nsE a)
 | [y],a,i,a1 =>
  have l:=(k.itm (i y By)).rep
  cases hd:y.d <;> (rw [BTz,hd] at a;try (exact nsE a))
  rename_i j
  rw [hd] at l
  have a:(if ko j then some (cS 0 j.toNat) else none)=some xs:=a
  split at a
  ·rename_i c
   cases a
   have c:=of_decide_eq_true c
   refine ⟨j,by show [y.v]=_;rw [l.int_inv],c.1,c.2,?_⟩
   exact q _ H1 [] [] g1 [] (k.sub (BM Ts T)) .nil (fun _ h=>by cases h) pk
  ·exact nsE a
theorem xh (h:tI K G0 W0 (cj tM ms) σ H R):ze (tA K G0 W0 ms) σ H R:=by
 obtain ⟨G,W,le,ρ,T,g,o,ρ',w,e,q⟩:=h
 have b:∀ x,o=.error x->W x ρ':=fun x l=>by subst l;exact q
 refine tA.seq le w e b fun rs ρ1 e1 F H1 Ts g1 k a1=>?_
 obtain ⟨ds,A,E⟩:=bE e1
 obtain ⟨p,t,rfl,rfl⟩:=bI E
 obtain ⟨xs,C,B⟩:=BB.mp t
 subst B
 obtain ⟨ys,c,f1,f2⟩:=a1.items k (fun x l=>BC _ l) A
 subst f1 f2
 have inv:∀ {ds:List D},tM ds=some xs->∃ i j,ds=[.int i,.int j]/\ko i=true/\ko j=true/\xs=cS i (j - i).toNat:=fun {ds} h=>by
  unfold tM at h
  split at h
  ·rename_i i j
   split at h
   ·rename_i m
    cases h
    simp only [Bool.and_eq_true] at m
    exact ⟨i,j,rfl,m.1,m.2,rfl⟩
   ·exact nsE h
  ·exact nsE h
 obtain ⟨i,j,a,hi,f,rfl⟩:=inv C
 match ys,a,c,a1 with
 | [],a,_,_=>cases a
 | [y],a,_,_=>exact absurd (congrArg List.length a) (by simp)
 | y :: z :: u :: r,a,_,_=>exact absurd (congrArg List.length a) (by simp)
 | [y,z],a,c,a1 =>
  have n:=(k.itm (c y By)).rep
  have s:=(k.itm (c z (Bz _ By))).rep
  have h1:y.d=.int i:=by injection a
  have h2:z.d=.int j:=by injection a with _ h;injection h
  rw [h1] at n
  rw [h2] at s
  have hi:=of_decide_eq_true hi
  have f:=of_decide_eq_true f
  refine ⟨i,j,by show [y.v,z.v]=_;rw [n.int_inv,s.int_inv],⟨hi.1,hi.2,f.1,f.2⟩,?_⟩
  exact q _ H1 [] [] g1 [] (k.sub (BM Ts T)) .nil (fun _ h=>by cases h) pk
theorem xD (c:Gl X "range") (hm:X.mg "range"=none) (d:RA X G0 W0 [a] ms) (b:starEach [a] X.env=[(false,eval a X.env)]):RI X G0 W0 tg (.Call (.Name "range" p) [a] [] pos) (cj eR ms):=⟨PI.imp (tQ c hm d.h b) fun _ _ _ h=>xi h⟩
theorem xC (e:Gl X "range") (hm:X.mg "range"=none) (f:RA X G0 W0 [a,b] ms) (d:starEach [a,b] X.env=[(false,eval a X.env),(false,eval b X.env)]) (c:starEach [b] X.env=[(false,eval b X.env)]):RI X G0 W0 tg (.Call (.Name "range" p) [a,b] [] pos) (cj tM ms):=⟨PI.imp (tO e hm f.h d c) fun _ _ _ h=>xh h⟩
end
end L3
end
section
namespace L3
open PySem L2
section
variable {K:FG} {G G0:Gm} {W W0:D->Sto->Prop} {H H':Hp} {σ:St} {ρ ρ':Sto} {T T':List It3} {g:Nat->Option It3} {x y z:It3} {α β:Type} {X:Cx} {L:List Addr}
def lC (bnd:D->Sto->Option Sto) (m:EM):SM:=ag m fun r=>ag (dP r) fun p=>fun ρ=>(bnd p.1 ρ).map fun ρ1=>(.ok .nx,ρ1)
theorem zF (f:Bnd K G0.pr tg bnd) (h:tS K G0 W0 (lC bnd m) E σ H):uL (tE K G0 W0 m) tg E σ H:=by
 refine h.use fun G W le ρ T g r ρ' w e q=>?_
 refine tE.seq le w e q.err fun ra ρ1 e1 v H1 ⟨Ts,g1,l,a1⟩=>?_
 obtain ⟨p,ρ2,g2,x,j,k,f1,_,_,n⟩:=a1.take l e1
 have c:=Wf.lowT (Ts:=[x]) k
 obtain ⟨ρ3,i,b⟩:=BB.mp j
 cases b
 rw [<- n]
 exact f G H1 σ ρ2 _ T g2 (dh x) _ le.pr rfl c (by show bnd x.d ρ2=_;rw [f1];exact i) fun σ2 g3 a=>q _ _ _ a
theorem z5 (d:RG X G0.pr tg bnd) (he:RE X G0 W0 e m) (c:swapsWithSole [tg] e pos.line X.env=pure false) (hw:swappedStores [tg] e X.env=pure none) (h1:(assignEach [tg] X.env).map (·.2)=[assign tg X.env]):RS X G0 W0 (.Assign [tg] e pos) (lC bnd m):=by
 obtain ⟨g,a,b⟩:=d.h
 exact ⟨PS.imp (vq he.h a c hw h1) fun _ _ _ h=>zF b h⟩
theorem qM {i:Nat} {y:Str} (e:X.N.Nodup) (o:X.N[i]?=some y) (l:Loc X.env.scope y) (NY:List Str) (ix:List (Option Nat)) (j:X.calm=true) (hi:RI X G0 W0 tg iter im) (k:∀ s H C fp,PTs (aR X NY scope s H C fp) ifs (tT X.K (bq ix) noX cm)) (he:∀ s H C fp,RE (aR X NY scope s H C fp) (bq ix) noX elt em) (n:ge scope X.N X.env.scope NY ix=true) (d:Inj ix) (c:swapsWith (.ListComp elt [⟨tg,iter,ifs,0⟩] scope pos) (some (.Name y py)) spos.line X.env=pure true) (hf:X.fn y=true\/X.env.scope.names.lookup y=some .local) (f:∀ x,foldedSetIterable iter X.env x=pure x) (m:G0.pr i=false) (b:∃ a,Bnd X.K (bq ix).pr a bnd/\∀ s H C fp,PG (aR X NY scope s H C fp) tg a):RS X G0 W0 (.Assign [.Name y py] (.ListComp elt [⟨tg,iter,ifs,0⟩] scope pos) spos) (bb i (dl im bnd cm em ix)):=by
 obtain ⟨a,g,b2⟩:=b
 exact ⟨PS.imp (qQ e o l NY ix j hi.h b2 k (fun s H C fp=>(he s H C fp).h) n c hf f) fun _ _ _ h=>qC szl d g m h⟩
def isL:D->Bool
 | .lst _=>true
 | _=>false
theorem oH:∀ d v L H,isL d=true->Rep K H d v L->tyV K "list" v H:=fun d v L H h r=>by
 cases r with
 | lst ha _=>exact .inl ⟨rfl,_,SqL.of ha⟩
 | _=>cases h
def uz:D->List D->Option (D × D)
 | .lst xs,[d]=>if xs.length < 16777216 then some (.lst (xs ++ [d]),.non) else none
 | _,_=>none
theorem AT:MutD K sk uz:=fun a d k as H Q p r m na ra j e q=>by
 cases d with
 | lst xs =>
  obtain ⟨_,g,_,e1,u,l,rs⟩:=r.view
  cases e1
  cases u
  match as,e,ra,j with
  | [],e,_,_=>exact nsE e
  | _ :: _ :: _,e,_,_=>exact nsE e
  | [y],e,ra,j =>
   have e:(if xs.length < 16777216 then some (D.lst (xs ++ [y.d]),D.non) else none)=some p:=e
   split at e
   ·rename_i t
    cases e
    refine ⟨a,g,y.v,rfl,rfl,l,by rw [<- rs.len,<- szl];exact t,?_⟩
    have w:=ra y By
    have s:=j y By
    have ma:MutAt H a:=.inl ⟨_,l⟩
    have keep:∀ {d v L},Rep K H d v L->a ∉ L->Rep K (upd H a (.lst (g ++ [y.v]))) d v L:=fun {d v L} r n=>r.keep (M:=fun b=>b=a) (fun b o f h=>by rw [aB h];exact f) (fun b e=>by rw [e];exact ma) fun b f e=>n (by rw [<- e];exact f)
    have keeps:Reps (Rep K (upd H a (.lst (g ++ [y.v])))) xs g k:=rs.keep (M:=fun b=>b=a) (fun b o f h=>by rw [aB h];exact f) (fun b e=>by rw [e];exact ma) fun b f e=>na (by rw [<- e];exact f)
    exact q (.lst (g ++ [y.v])) (k ++ (y.L ++ [])) ⟨.non,.non,[],.z⟩ (.lst aV (keeps.append (.cons (keep w s) .nil))) rfl (fun c i=>by
     rcases BH.mp i with h | h
     ·exact .inl h
     ·rw [List.append_nil] at h;exact .inr ⟨y,By,h⟩) rfl rfl .non fun c i=>by cases i
   ·exact nsE e
 | _=>exact nsE e
def Ba:D->List D->Option (D × D)
 | .lst xs,[.lst ys]=>if xs.length+ys.length<=16777216 then some (.lst (xs ++ ys),.non) else none
 | _,_=>none
theorem ext2 (a:D):Ba (.lst xs) (a :: b :: r)=none:=by cases a <;> rfl
theorem AS:MutD K sh Ba:=fun a d w as H Q p r m na ra j e q=>by
 cases d with
 | lst xs =>
  obtain ⟨_,l,_,e1,B,u,rs⟩:=r.view
  cases e1
  cases B
  match as,e,ra,j with
  | [],e,_,_=>exact nsE e
  | y :: _ :: _,e,_,_=>exact nsE ((ext2 y.d).symm.trans e)
  | [y],e,ra,j =>
   have s:=ra y By
   have t:=j y By
   obtain ⟨x,C,F,E⟩:=y
   dsimp only at s t e
   cases x with
   | lst ys =>
    obtain ⟨b,ws,A,rfl,rfl,i,g⟩:=s.view
    have e:(if xs.length+ys.length<=16777216 then some (D.lst (xs ++ ys),D.non) else none)=some p:=e
    split at e
    ·rename_i v
     cases e
     refine ⟨a,b,l,ws,rfl,rfl,u,i,by rw [<- rs.len,<- g.len,<- szl];exact v,?_⟩
     have ma:MutAt H a:=.inl ⟨_,u⟩
     have keeps:∀ {ds f L},Reps (Rep K H) ds f L->a ∉ L->Reps (Rep K (upd H a (.lst (l ++ ws)))) ds f L:=fun {ds f L} r n=>r.keep (M:=fun b=>b=a) (fun b o i h=>by rw [aB h];exact i) (fun b e=>by rw [e];exact ma) fun b i e=>n (by rw [<- e];exact i)
     exact q (.lst (l ++ ws)) (w ++ A) ⟨.non,.non,[],.z⟩ (.lst aV ((keeps rs na).append (keeps g fun h=>t (Bz _ h)))) rfl (fun c k=>by
      rcases BH.mp k with h | h
      ·exact .inl h
      ·exact .inr ⟨_,By,Bz _ h⟩) rfl rfl .non fun c k=>by cases k
    ·exact nsE e
   | _=>exact nsE e
 | _=>exact nsE e
def pA:D->List D->Option (D × D)
 | .lst xs,[.int i,d]=>(ixN xs.length i).map fun j=>(.lst (xs.set j d),.non)
 | _,_=>none
theorem Reps.set:∀ {ds:List D} {b:List V} {L L':List Addr} {d:D} {v:V} (j:Nat),Reps (Rep K H) ds b L->Rep K H d v L'->∃ L2,Reps (Rep K H) (ds.set j d) (b.set j v) L2/\∀ c ∈ L2,c ∈ L\/c ∈ L'
 | _,_,_,_,_,_,j,.nil,_=>⟨[],.nil,fun c a=>by cases a⟩
 | _,_,_,L',_,_,0,.cons (L:=L1) (L':=L1') r rs,r'=>⟨L' ++ L1',.cons r' rs,fun c a=>by
  rcases BH.mp a with h | h
  ·exact .inr h
  ·exact .inl (BD _ h)⟩
 | _,_,_,L',_,_,j+1,.cons (L:=L1) (L':=L1') r rs,r'=>by
  obtain ⟨L2,h1,h2⟩:=Reps.set j rs r'
  refine ⟨L1 ++ L2,.cons r h1,fun c a=>?_⟩
  rcases BH.mp a with h | h
  ·exact .inl (BC _ h)
  ·rcases h2 c h with h | h
   ·exact .inl (BD _ h)
   ·exact .inr h
theorem set1 (a:D):pA (.lst xs) [a]=none:=by cases a <;> rfl
theorem set3' (a:D):pA (.lst xs) (a :: b :: c :: r)=none:=by cases a <;> rfl
theorem yj:MutD K (lF sf) pA:=fun a d x as H Q p r m na ra l e q=>by
 cases d with
 | lst xs =>
  obtain ⟨_,g,_,e1,C,t,rs⟩:=r.view
  cases e1
  cases C
  match as,e,ra,l with
  | [],e,_,_=>exact nsE e
  | [y],e,_,_=>exact nsE ((set1 y.d).symm.trans e)
  | y :: _ :: _ :: _,e,_,_=>exact nsE ((set3' y.d).symm.trans e)
  | [k,y],e,ra,l =>
   have u:=ra k By
   have A:=ra y (Bz _ By)
   have B:=l y (Bz _ By)
   obtain ⟨kd,F,G,E⟩:=k
   dsimp only at u
   cases kd with
   | int i =>
    obtain ⟨rfl,rfl⟩:=u.view
    obtain ⟨j,h1,h2⟩:=BB.mp (show (ixN xs.length i).map (fun j=>(D.lst (xs.set j y.d),D.non))=some p from e)
    subst h2
    refine ⟨.int i,y.v,rfl,a,g,i,j,rfl,rfl,t,by rw [<- rs.len];exact h1,?_⟩
    have ma:MutAt H a:=.inl ⟨_,t⟩
    have s:Rep K (upd H a (.lst (g.set j y.v))) y.d y.v y.L:=A.keep (M:=fun b=>b=a) (fun b o f h=>by rw [aB h];exact f) (fun b e=>by rw [e];exact ma) fun b f e=>B (by rw [<- e];exact f)
    have keeps:Reps (Rep K (upd H a (.lst (g.set j y.v)))) xs g x:=rs.keep (M:=fun b=>b=a) (fun b o f h=>by rw [aB h];exact f) (fun b e=>by rw [e];exact ma) fun b f e=>na (by rw [<- e];exact f)
    obtain ⟨L2,h3,w⟩:=keeps.set j s
    exact q (.lst (g.set j y.v)) L2 ⟨.non,.non,[],.z⟩ (.lst aV h3) rfl (fun c n=>(w c n).imp id fun h=>⟨y,Bz _ By,h⟩) rfl rfl .non fun c n=>by cases n
   | _=>exact nsE e
 | _=>exact nsE e
theorem r0 {i:Nat} {x:Str} {id:String} (o:PlainAttrs Ty) (slot:Slot Ty nm id) (j:typeOf (.builtin id)=pure (.type "method_descriptor")) (hm:MtR X id r) (m:MutD X.K r f) (hok:∀ d v L H,ok d=true->Rep X.K H d v L->tyV X.K Ty v H) (l:PE X (.Name x pn) (tw i)) (n:RA X G0 W0 (e :: es) ms) (b:attributeBase (.Name x pn) nm X.env (eval (.Name x pn) X.env)=eval (.Name x pn) X.env) (g:((backTo cpos (starEach (e :: es) X.env)).all (fun x=>!x.1) && (backToKw cpos (keywordEach [] X.env)).all (fun x=>x.1.isSome) && decide ((e :: es).length+([]:List Keyword).length+(if ([]:List Keyword).isEmpty then 0 else 1) < 30))=true) (c:(apos.endLine == cpos.line)=true) (k:starEach (e :: es) X.env=(false,eval e X.env) :: starEach es X.env) (a:(backTo cpos (starEach es X.env)).any (·.1)=false):RE X G0 W0 (.Call (.Attribute (.Name x pn) nm apos) (e :: es) [] cpos) (rm ok f i ms) :=
 ⟨PE.imp (yY o slot j hm l n.h b g c k a) fun _ _ _ h=>zK m hok h⟩
theorem zY {i:Nat} {x:Str} (m:wQ X t) (d:MutD X.K (lF t) f) (c:PE X (.Name x pn) (tw i)) (j:RE X G0 W0 k mk) (l:RE X G0 W0 e mv) (g:∀ v,assign (.Subscript (.Name x pn) k p2) X.env v=(do
   let a <- holding [v] (eval (.Name x pn) X.env)
   let b <- holding [v,a] (eval k X.env)
   standAt p2
   holding [v,a,b] (setItem a b v)
   release [v,a,b] [])) (h1:swapsWithSole [.Subscript (.Name x pn) k p2] e pos.line X.env=pure false) (h2:swappedStores [.Subscript (.Name x pn) k p2] e X.env=pure none) (h3:(assignEach [.Subscript (.Name x pn) k p2] X.env).map (·.2)=[assign (.Subscript (.Name x pn) k p2) X.env]):RS X G0 W0 (.Assign [.Subscript (.Name x pn) k p2] e pos) (og f i mk mv) :=
 ⟨PS.imp (vq l.h (Aq c j.h m g) h1 h2 h3) fun _ _ _ h=>zy d h⟩
end
end L3
end
section
namespace L3
open PySem L2
section
variable {K:FG} {G G0:Gm} {W W0:D->Sto->Prop} {H H':Hp} {σ:St} {ρ ρ':Sto} {T T':List It3} {g:Nat->Option It3} {x y z:It3} {α β:Type} {X:Cx} {L:List Addr}
theorem u6:PTs Y [] (tT K (bq ix) noX kc):=fun pins s σ H Q I h=>xL pins s σ H Q I (zv h)
theorem wc (h:(ix.filterMap id).Nodup):Inj ix:=by
 intro j k i a b
 induction ix generalizing j k with
 | nil=>simp at a
 | cons o ix ih =>
  cases o with
  | none =>
   have h':(ix.filterMap id).Nodup:=by simpa using h
   cases j with
   | zero=>simp at a
   | succ j =>
    cases k with
    | zero=>simp at b
    | succ k=>rw [ih h' j k (by simpa using a) (by simpa using b)]
  | some d =>
   have h':(d :: ix.filterMap id).Nodup:=by simpa using h
   obtain ⟨n,c⟩:=List.nodup_cons.mp h'
   have mem:∀ m:Nat,ix[m]?=some (some d)->False:=fun m e=>n (List.mem_filterMap.mpr ⟨some d,BL e,rfl⟩)
   cases j with
   | zero =>
    simp at a
    cases k with
    | zero=>rfl
    | succ k=>subst a;exact (mem k (by simpa using b)).elim
   | succ j =>
    cases k with
    | zero=>simp at b;subst b;exact (mem j (by simpa using a)).elim
    | succ k=>rw [ih c j k (by simpa using a) (by simpa using b)]
def aX:SM:=fun _=>none
theorem uK (X:OpD K r f) (B:OpD K r' f') (h:tE K G0 W0 (fu f f' ma mb mc) σ H Q):qD r r' (tE K G0 W0 ma) (tE K G0 W0 mb) (tE K G0 W0 mc) σ H Q:=by
 refine h.use fun G W le ρ T g o ρ' w e q=>?_
 refine tE.seq le w e q.err fun ra ρ1 e1 va H1 ⟨Ts,g1,w1,a1⟩=>?_
 refine tE.seq le w1 e1 q.err fun rb ρ2 e2 vb H2 ⟨Us,g2,j,a2⟩=>?_
 obtain ⟨da,d1,e3⟩:=aW e2
 obtain ⟨db,d2,e4⟩:=aW e3
 obtain ⟨k,e5,n⟩:=jN e4
 obtain ⟨U,P,f1,f2⟩:=a1.item j (fun x b=>BD _ (BC _ b)) d1
 obtain ⟨N,F,Z,f4⟩:=a2.item j (fun x b=>BC _ b) d2
 obtain ⟨p,I,e8⟩:=B7.mp e5
 have hp:=wJ e8
 subst f1 f2 f4
 rw [<- Z] at I
 refine X U N H2 _ p (j.itm P).arg (j.itm F).arg I fun u H3 R ud uf=>?_
 have w3:=j.push R fun c h=>j.kids (ys:=[U,N]) (fun y i=>by
  rcases BE.mp i with h | i
  ·rw [h];exact P
  ·rw [B8.mp i];exact F) h
 have E:=R.rep
 rw [ud,hp] at E
 refine ⟨k,E.bl_eq.1,?_⟩
 have M:=w3.sub (List.sublist_cons_self u _)
 cases k with
 | false =>
  cases n
  have d:=M.sub (T':=T) ((BM Ts T).trans (BM Us _))
  exact q _ _ (d.const (.bl false))
 | true =>
  simp only [if_true] at n ⊢
  refine tE.seq le M n q.err fun rc ρ5 e9 vc Y ⟨m,J,d,a5⟩=>?_
  obtain ⟨z,d3,t⟩:=aW e9
  obtain ⟨dc,d4,C⟩:=aW t
  obtain ⟨p',a,rfl,rfl⟩:=bI C
  obtain ⟨l,L,f5,f6⟩:=a2.item d (fun x b=>BD _ (BC _ b)) d3
  obtain ⟨S,V,f7,f8⟩:=a5.item d (fun x b=>BC _ b) d4
  cases A:f' z dc with
  | none=>rw [A] at a;exact nsE a
  | some s =>
   rw [A] at a
   cases a
   have O:=d
   rw [show m ++ (Us ++ (Ts ++ T))=(m ++ (Us ++ Ts)) ++ T by simp] at O
   have v:Itm ((m ++ (Us ++ Ts)) ++ T) J l:=by simpa using L
   have D:Itm ((m ++ (Us ++ Ts)) ++ T) J S:=by simpa using V
   rw [<- f6,<- f8]
   refine B l S Y Q s (d.itm L).arg (d.itm V).arg (by rw [f5,f7];exact A) (nO O (fun y i=>?_) q)
   rcases BE.mp i with h | i
   ·rw [h];exact v
   ·rw [B8.mp i];exact D
theorem ve (k:OpR X (compareOp op) r) (hd:OpD X.K r f) (i:OpR X (compareOp op') r') (d:OpD X.K r' f') (g:RE X G0 W0 a ma) (e:RE X G0 W0 b mb) (j:RE X G0 W0 c mc) (h:PE X a (tE X.K G0 W0 ma)->PE X b (tE X.K G0 W0 mb)->PE X c (tE X.K G0 W0 mc)->PE X (.Compare a [op,op'] [b,c] pos) (qD r r' (tE X.K G0 W0 ma) (tE X.K G0 W0 mb) (tE X.K G0 W0 mc))):RE X G0 W0 (.Compare a [op,op'] [b,c] pos) (fu f f' ma mb mc):=⟨PE.imp (h g.h e.h j.h) fun _ _ _ h=>uK hd d h⟩
theorem qL (c:OpR X (compareOp op) r) (hd:OpD X.K r f) (e:RE X G0 W0 a ma) (d:RE X G0 W0 b mb) (hm:behindInMarks op b=false):RT X G0 W0 (.Compare a [op] [b] pos) (cB (ao f ma mb)):=⟨PT.imp (xM c e.h d.h hm) fun _ _ _ h=>nZ hd (tT_b h)⟩
def gc (n:Nat):List D->List D
 | []=>[]
 | d :: ds=>.tup [.int n,d] :: gc (n+1) ds
theorem jY:∀ {ds:List D} {n i:Nat},(gc n ds)[i]?=(ds[i]?).map fun d=>.tup [.int ((n+i:Nat):Int),d]
 | [],n,i=>by simp [gc]
 | d :: ds,n,0=>by simp [gc]
 | d :: ds,n,i+1=>by
  show (gc (n+1) ds)[i]?=_
  rw [jY]
  simp only [List.getElem?_cons_succ]
  rw [show n+1+i=n+(i+1) by omega]
theorem jX:∀ {ds:List D} {n:Nat},(gc n ds).length=ds.length
 | [],_=>rfl
 | d :: ds,n=>by simp [gc,jX]
def lW (ms:M3 (List R3)):IM:=ag ms fun rs=>ag (cO rs) fun ds=>ba (match ds with
 | [.lst xs]=>some (rs,gc 0 xs)
 | _=>none)
theorem xj (h:tI K G0 W0 (lW ms) σ H R):zg K (tA K G0 W0 ms) σ H R:=by
 obtain ⟨G,W,le,ρ,T,g,o,ρ',w,e,q⟩:=h
 have m:∀ x,o=.error x->W x ρ':=fun x t=>by subst t;exact q
 refine tA.seq le w e m fun rs ρ1 e1 l H1 Ts g1 C a1=>?_
 obtain ⟨ds,j,F⟩:=bE e1
 obtain ⟨p,n,rfl,rfl⟩:=bI F
 have inv:∃ xs,ds=[.lst xs]/\p=(rs,gc 0 xs):=by
  split at n
  ·cases n;exact ⟨_,rfl,rfl⟩
  ·exact nsE n
 obtain ⟨xs,rfl,rfl⟩:=inv
 match rs,j,a1,q with
 | [],j,_,_=>cases j
 | r :: r' :: rs,j,_,_ =>
  obtain ⟨_,_,f⟩:=aW (k:=fun d=>ag (cO (r' :: rs)) fun ds=>a9 (d :: ds)) j
  obtain ⟨az,e6,Z⟩:=bE f
  obtain ⟨_,_,e8⟩:=aW (k:=fun d=>ag (cO rs) fun ds=>a9 (d :: ds)) e6
  obtain ⟨ax,_,e9⟩:=bE e8
  cases e9
  cases Z
 | [r],j,a1,q =>
  obtain ⟨d,E,f⟩:=aW (k:=fun d=>ag (cO []) fun ds=>a9 (d :: ds)) j
  have hd:d=.lst xs:=by
   have f:some ((.ok [d],ρ'):Except D (List D) × Sto)=some (.ok [.lst xs],ρ'):=f
   cases f;rfl
  subst hd
  cases a1 with
  | @cons _ v Ts1 _ vs1 Us1 a as =>
   cases as with
   | nil =>
    obtain ⟨y,P,y2,O⟩:=Ar.item2 (T:=T) (by simpa using C) a E
    have hy:Itm (([] ++ Ts1) ++ T) g1 y:=by
     rcases O with ⟨i,_,ei⟩ | h
     ·exact .inl ⟨i,ei⟩
     ·exact .inr (by simpa using BC T h)
    have V:=(C.itm hy).arg
    have qq:∀ J,Walk K J H1 [y] (gc 0 xs)->R J H1:=fun J hw=>q J H1 [v] ([] ++ Ts1) g1 [y] C (.cons a .nil) (fun z hz=>by
     rw [B8.mp hz]
     rcases O with h | h
     ·exact .inl h
     ·exact .inr (by simpa using h)) hw
    clear q
    subst y2
    have A:=V
    obtain ⟨yd,yv,yL,yf⟩:=y
    obtain ⟨Q,oo⟩:=V
    dsimp only at Q P
    subst P
    cases Q with
    | @lst _ pa l La ha rs =>
     refine ⟨pa,rfl,⟨_,SqL.of ha⟩,qq _ ?_⟩
     obtain ⟨ws,h1,h2,h3⟩:=Reps.split rs
     refine ⟨ws,fun x t=>⟨(h3 x t).1,(h3 x t).2.1,fun c B=>oG (y:=⟨.lst xs,.ref pa,pa :: La,yf⟩) By A rfl rfl c ((h3 x t).2.2 c B)⟩,fun M H' hm S N=>?_⟩
     have sq:SqL K H' pa l:=SqL.of (S pa _ ha (N _ By pa By))
     refine ⟨fun i d hd=>?_,by rw [jX];exact ⟨l,sq,by rw [<- rs.len];exact BP _⟩⟩
     rw [jY] at hd
     obtain ⟨X,s,rfl⟩:=BB.mp hd
     have hw:∃ u,ws[i]?=some u/\u.d=X:=by
      rw [<- h1,BO] at s
      obtain ⟨u,a,b⟩:=BB.mp s
      exact ⟨u,a,b⟩
     obtain ⟨u,I,ud⟩:=hw
     have U:l[i]?=some u.v:=by rw [<- h2,BO,I];rfl
     have hu:=BL I
     refine ⟨⟨l,u.v,sq,U⟩,fun x ae ⟨Tt,yv,e1,F,n,E⟩=>?_⟩
     have f:=E l sq
     rw [U] at f
     cases f
     subst e1 n
     have Y:Rep K H' u.d u.v u.L:=(h3 u hu).2.1.keep S hm fun b hb=>N _ By b (Bz _ ((h3 u hu).2.2 b hb))
     refine ⟨⟨.tup [.int ((0+i:Nat):Int),X],.ref Tt,[] ++ (u.L ++ []),.z⟩,vI F (.cons (L:=[]) (by rw [Nat.zero_add];exact .int _) (.cons (by rw [<- ud];exact Y) .nil)) (fun c B=>⟨u,hu,by simpa using B⟩),rfl,rfl,rfl⟩
theorem xE {k:Nat} (c:Gl X "enumerate") (hm:X.mg "enumerate"=none) (d:RA X G0 W0 [a] ms) (b:starEach [a] X.env=[(false,eval a X.env)]):RI X G0 W0 (.Tuple elts k tp) (.Call (.Name "enumerate" p) [a] [] pos) (lW ms):=⟨PI.imp (xS c hm d.h b) fun _ _ _ h=>xj h⟩
end
end L3
namespace L3
theorem xP {i:Nat} (h:mask.length<=i):prM mask i=false:=by
 unfold prM
 rw [List.getElem?_eq_none h]
end L3
end
section
namespace L3
open PySem L2
structure Bl (mg:Str->Option Value):Prop where
 len:mg "len"=none
 range:mg "range"=none
 abs:mg "abs"=none
 divmod:mg "divmod"=none
 enumerate:mg "enumerate"=none
 tuple:mg "tuple"=none
 isinstance:mg "isinstance"=none
 int:mg "int"=none
 bool:mg "bool"=none
 all:mg "all"=none
 str:mg "str"=none
 max:mg "max"=none
 min:mg "min"=none
 list:mg "list"=none
 dict:mg "dict"=none
 repr:mg "repr"=none
 sorted:mg "sorted"=none
 set:mg "set"=none
 zip:mg "zip"=none
 reversed:mg "reversed"=none
theorem b_len:bootBuiltins "len"=some (.builtin "len"):=by decide +kernel
theorem b_abs:bootBuiltins "abs"=some (.builtin "abs"):=by decide +kernel
theorem wI:bootBuiltins "divmod"=some (.builtin "divmod"):=by decide +kernel
theorem sX:bootBuiltins "tuple"=some (.type "tuple"):=by decide +kernel
theorem jy:bootBuiltins "isinstance"=some (.builtin "isinstance"):=by decide +kernel
theorem b_int:bootBuiltins "int"=some (.type "int"):=by decide +kernel
theorem Bp:bootBuiltins "bool"=some (.type "bool"):=by decide +kernel
theorem b_all:bootBuiltins "all"=some (.builtin "all"):=by decide +kernel
theorem b_max:bootBuiltins "max"=some (.builtin "max"):=by decide +kernel
theorem b_min:bootBuiltins "min"=some (.builtin "min"):=by decide +kernel
theorem Bo:bootBuiltins "list"=some (.type "list"):=by decide +kernel
end L3
end
section
namespace L3
open PySem L2
section
variable {K:FG} {G G0:Gm} {W W0:D->Sto->Prop} {H H':Hp} {σ:St} {ρ ρ':Sto} {T T':List It3} {g:Nat->Option It3} {x y z:It3} {α β:Type} {X:Cx} {L:List Addr}
theorem rX (h:tE K G0 W0 m σ H Q) (f:∀ v H,Q v H->Q' v H):tE K G0 W0 m σ H Q':=by
 refine h.use fun G W le ρ T g o ρ' w e q=>?_
 refine tE.mk le w e ?_
 cases o with
 | ok r=>exact fun v H' g=>f v H' (q v H' g)
 | error x=>exact q
def nE:D->Option String
 | .non=>some "NoneType" | .bl _=>some "bool" | .int _=>some "int" | .str _=>some "str"
 | .tup _=>some "tuple" | .lst _=>some "list" | .fls _=>some "list" | .dk _=>some "dict" | .dt _=>some "dict" | .exc _ _=>none
def jR (t:String) (d:D):Option (D × Fl):=(nE d).map fun k=>(.bl (kM k t),.z)
theorem Rep.kind (r:Rep K H d v L) (e:nE d=some k):KindOf K H v k:=by
 cases r with
 | non=>cases e;exact .non
 | bl b=>cases e;exact .bool b
 | int i=>cases e;exact .int i
 | str s=>cases e;exact .str s
 | tup h _=>cases e;exact .tuple (SqT.of h)
 | lst h _=>cases e;exact .list (SqL.of h)
 | lstF h _=>cases e;exact .list h.sq
 | dK h _ _=>cases e;exact .dK h
 | dT h _ _=>cases e;exact .dT h
 | exc _ _=>cases e
theorem qO (f:df X (.builtin "isinstance") (fun xs H Q=>∃ x k,xs=[x,.ty t]/\KindOf X.K H x k/\Q (.bl (kM k t)) H)) (l:Gl X "isinstance") (hm:X.mg "isinstance"=none) (g:PE X (.Name tn pT) (tC (.ty t))) (i:RE X G0 W0 a ma) (b:starEach [a,.Name tn pT] X.env=(false,eval a X.env) :: starEach [.Name tn pT] X.env) (d:starEach [.Name tn pT] X.env=(false,eval (.Name tn pT) X.env) :: starEach [] X.env) (c:(backTo pos (starEach [.Name tn pT] X.env)).any (·.1)=false):RE X G0 W0 (.Call (.Name "isinstance" p) [a,.Name tn pT] [] pos) (mUn (jR t) ma) :=
 ⟨PE.imp (lI f l hm jy (iX i.h (iX g qT d) b) (by decide) (by decide) b c) fun σ H Q h=>by
  have h:=uJ (r:=fun x H Q=>∃ k,KindOf X.K H x k/\Q (.bl (kM k t)) H) (fun a H Q p ra e q=>by
   obtain ⟨k,h1,h2⟩:=BB.mp e
   subst h2
   exact ⟨k,ra.rep.kind h1,q ⟨.bl (kM k t),.bl (kM k t),[],.z⟩ H (d7 (.bl _)) rfl rfl⟩) h
  refine rX h fun x H1 ⟨k,j,q⟩=>?_
  exact ⟨x,k,rfl,j,q⟩⟩
def wa:D->Option Key
 | .int i=>some (.inl i)
 | .str s=>some (.inr s)
 | _=>none
def eL:List D->Option (List Key)
 | []=>some []
 | d :: ds=>match wa d,eL ds with
  | some k,some ks=>some (k :: ks)
  | _,_=>none
theorem t5 (r:Rep K H d v L) (e:wa d=some k):v=kV k:=by
 cases r <;> cases e <;> rfl
theorem f9:∀ {ds:List D} {b:List V} {L:List Addr} {a:List Key},Reps (Rep K H) ds b L->eL ds=some a->b=a.map kV
 | _,_,_,a,.nil,e=>by cases e;rfl
 | _,_,_,a,.cons (d:=d) (ds:=ds) r rs,e=>by
  unfold eL at e
  cases h1:wa d with
  | none=>rw [h1] at e;exact nsE e
  | some k =>
   cases h2:eL ds with
   | none=>rw [h1,h2] at e;exact nsE e
   | some ks' =>
    rw [h1,h2] at e
    cases e
    rw [t5 r h1,f9 rs h2];rfl
def wm (a:List (List Key × D)) (k:List Key):Option D:=(a.find? fun b=>decide (b.1=k)).map (·.2)
def vm (a:List (List Key × D)) (k:List Key) (v:D):List (List Key × D) :=
 if (a.any fun b=>decide (b.1=k))=true then a.map (fun b=>if b.1=k then (b.1,v) else b) else a ++ [(k,v)]
theorem qd:∀ {b:List (List Key × D)} {ps:List (List Key × V)} {L:List Addr} {k:List Key} {d:D},b.map (·.1)=ps.map (·.1)->Reps (Rep K H) (b.map (·.2)) (ps.map (·.2)) L->wm b k=some d->∃ v L',kD ps k=some v/\Rep K H d v L'/\∀ c ∈ L',c ∈ L
 | [],ps,L,k,d,hk,r,e=>by cases e
 | g :: b,[],L,k,d,hk,r,e=>by cases hk
 | g :: b,p :: ps,L,k,d,hk,r,e=>by
  have f:g.1=p.1/\b.map (·.1)=ps.map (·.1):=by simpa using hk
  generalize j:(g :: b).map (·.2)=xs at r
  generalize l:(p :: ps).map (·.2)=ys at r
  cases r with
  | nil=>cases j
  | cons a as =>
   cases j
   cases l
   unfold wm at e
   rw [List.find?_cons] at e
   by_cases h:g.1=k
   ·rw [BU h] at e
    cases e
    exact ⟨_,_,iI (f.1.symm.trans h),a,fun c i=>BC _ i⟩
   ·rw [BV h] at e
    obtain ⟨v,L',h1,h2,h3⟩:=qd f.2 as e
    exact ⟨v,L',by rw [iJ (fun z=>h (f.1.trans z))];exact h1,h2,fun c i=>BD _ (h3 c i)⟩
def kA:D->D->Option (D × Fl)
 | .dt kvs,.tup ks=>match eL ks with
  | some k=>(wm kvs k).map fun d=>(d,.z)
  | none=>none
 | _,_=>none
def si:R2:=fun x y H Q=>∃ a v,x=.ref a/\DGet H a y (some v)/\Q v H
theorem x6:OpD K si kA:=fun a b H Q p ra rb e q=>by
 obtain ⟨da,s,r,l⟩:=a
 obtain ⟨db,B,w,x⟩:=b
 have h:=ra
 obtain ⟨ra,A⟩:=ra
 obtain ⟨rb,ob⟩:=rb
 dsimp only at ra rb e
 cases da with
 | dt kvs =>
  obtain ⟨g,ps,i,rfl,rfl,n,o,rs⟩:=ra.view
  cases db with
  | tup ks =>
   obtain ⟨u,ws,rfl,j,f⟩:=rb.view
   have e:(match eL ks with | some k=>(wm kvs k).map fun d=>(d,Fl.z) | none=>none)=some p:=e
   cases h1:eL ks with
   | none=>rw [h1] at e;exact nsE e
   | some k =>
    rw [h1] at e
    obtain ⟨d,h2,h3⟩:=BB.mp (show (wm kvs k).map (fun d=>(d,Fl.z))=some p from e)
    subst h3
    have hw:=f9 f h1
    subst hw
    obtain ⟨v,L',g1,g2,g3⟩:=qd o rs h2
    refine ⟨g,v,rfl,by rw [<- g1];exact DGet.t n j,q ⟨d,v,L',.z⟩ H (pO g2 fun c m=>?_) rfl rfl⟩
    exact oG (y:=⟨.dt kvs,.ref g,g :: i,l⟩) By h rfl rfl c (g3 c m)
  | _=>exact nsE e
 | _=>exact nsE e
open PySem.Spec PyProof.Rows in
theorem yp (hu:X.A.units+1 < cLine):IxR X si:=by
 intro value slice pins s σ H x y v u Q I j i h e
 obtain ⟨a,w,rfl,g,q⟩:=h
 cases j
 have c:=qj I g
 unfold subscriptTail
 refine Bv ?_
 rw [getitemInPython_of_ne c.not_modules]
 refine Bv (wpAny_specialOf c PySem.F.slot_dict_getitem.lookup ?_)
 have fin:wpAny (model X.prog X.w) X.A (subscripted slice false (.ref a) u) (fun r d=>wpAny (model X.prog X.w) X.A (letTemporaryGo value (.ref a) r >>= fun _=>pure r) (EP X pins σ Q) X.xe d) X.xe s:=by
  rw [e]
  exact wpAny_operating (uk hu I g i fun k s3 f b=>Bv (wpAny_letTemporaryGo (Bw ⟨w,H,f,b,q⟩)))
 first
  | exact Bw (Bv fin)
  | exact Bv (Bw (Bv fin))
  | exact Bv fin
abbrev bx:=orD ixD kA
theorem AJ:OpD K (fun x y H Q=>(vj K x y H Q\/vi K x y H Q)\/si x y H Q) bx:=od_ix.or x6
theorem A4 (hu:X.A.units+1 < cLine):IxR X (fun x y H Q=>(vj X.K x y H Q\/vi X.K x y H Q)\/si x y H Q):=ix_ok.or (yp hu)
def vT:EM:=a9 (.val (.dt []) .u)
theorem u9:RE X G0 W0 (.Dict [] [] pos) vT:=⟨PE.imp vy fun σ H Q h=>by
 refine h.use fun G W le ρ T g o ρ' w e q=>?_
 cases e
 intro p a
 refine q _ _ (Wf.done (Us:=[]) (ys:=[]) (x:=⟨.dt [],.ref p,[p],.u⟩) w (fun _ h=>(by cases h)) ⟨bB a,.dT aV rfl .nil,fun c b=>?_,fun _=>⟨rfl,p,[],rfl,rfl,(by simp),a⟩⟩)
 rw [B8.mp b];exact .inl a⟩
def kh:D->List D->Option (D × D)
 | .dt kvs,[.tup ks,v]=>match eL ks with
  | some k=>if kvs.length < 16777216 then some (.dt (vm kvs k v),.non) else none
  | none=>none
 | _,_=>none
def sg:Bu:=fun o i v H Q=>∃ a H',o=.ref a/\DPut H a i v H'/\Q H'
theorem uP (hu:X.A.units+1 < cLine):wQ X sg:=by
 intro pins s σ H o i v f j u Q I e d b h
 obtain ⟨a,H',rfl,g,q⟩:=h
 cases e
 exact uj hu I g d b fun s' c=>⟨H',c,q⟩
theorem pI:∀ {b:List (List Key × D)} {ps:List (List Key × V)} {L L':List Addr} {k:List Key} {d:D} {v:V},b.map (·.1)=ps.map (·.1)->Reps (Rep K H) (b.map (·.2)) (ps.map (·.2)) L->Rep K H d v L' ->
  ∃ L2,Reps (Rep K H) ((b.map fun e=>if e.1=k then (e.1,d) else e).map (·.2)) ((ps.map fun e=>if e.1=k then (e.1,v) else e).map (·.2)) L2/\(∀ c ∈ L2,c ∈ L\/c ∈ L')
 | [],[],L,L',k,d,v,hk,r,rd=>⟨[],.nil,fun c g=>by cases g⟩
 | [],_ :: _,_,_,_,_,_,hk,_,_=>by cases hk
 | _ :: _,[],_,_,_,_,_,hk,_,_=>by cases hk
 | e :: b,p :: ps,L,L',k,d,v,hk,r,rd=>by
  have f:e.1=p.1/\b.map (·.1)=ps.map (·.1):=by simpa using hk
  generalize i:(e :: b).map (·.2)=xs at r
  generalize j:(p :: ps).map (·.2)=ys at r
  cases r with
  | nil=>cases i
  | @cons _ _ L1 _ _ L1' a as =>
   cases i
   cases j
   obtain ⟨L2,h1,h2⟩:=pI (k:=k) f.2 as rd
   by_cases h:e.1=k
   ·refine ⟨L' ++ L2,?_,fun c g=>?_⟩
    ·simp only [BTz,if_pos h,if_pos (f.1.symm.trans h)]
     exact .cons rd h1
    ·rcases BH.mp g with z | z
     ·exact .inr z
     ·rcases h2 c z with y | y
      ·exact .inl (BD _ y)
      ·exact .inr y
   ·refine ⟨L1 ++ L2,?_,fun c g=>?_⟩
    ·simp only [BTz,if_neg h,if_neg (fun z=>h (f.1.trans z))]
     exact .cons a h1
    ·rcases BH.mp g with z | z
     ·exact .inl (BC _ z)
     ·rcases h2 c z with y | y
      ·exact .inl (BD _ y)
      ·exact .inr y
theorem wL {a:List (List Key × D)} {ps:List (List Key × V)} (c:a.map (·.1)=ps.map (·.1)):(a.any fun b=>decide (b.1=k))=ps.any fun b=>decide (b.1=k):=by
 have h1:(a.any fun b=>decide (b.1=k))=(a.map (·.1)).any fun x=>decide (x=k):=by rw [List.any_map];rfl
 have h2:(ps.any fun b=>decide (b.1=k))=(ps.map (·.1)).any fun x=>decide (x=k):=by rw [List.any_map];rfl
 rw [h1,h2,c]
theorem pS {b:List (List Key × α)} {d:α}:(b.map fun a=>if a.1=k then (a.1,d) else a).map (·.1)=b.map (·.1):=by
 rw [List.map_map]
 refine List.map_congr_left fun a _=>?_
 show (if a.1=k then (a.1,d) else a).1=a.1
 split <;> rfl
theorem put1 (a:D):kh (.dt kvs) [a]=none:=by cases a <;> rfl
theorem put3' (a:D):kh (.dt kvs) (a :: b :: c :: r)=none:=by cases a <;> rfl
theorem yk:MutD K (lF sg) kh:=fun a d n as H Q p r m na ra u e q=>by
 cases d with
 | dt kvs =>
  obtain ⟨_,ps,_,e1,F,w,j,rs⟩:=r.view
  cases e1
  cases F
  match as,e,ra,u with
  | [],e,_,_=>exact nsE e
  | [y],e,_,_=>exact nsE ((put1 y.d).symm.trans e)
  | y :: _ :: _ :: _,e,_,_=>exact nsE ((put3' y.d).symm.trans e)
  | [k,y],e,ra,u =>
   have x:=ra k By
   have C:=ra y (Bz _ By)
   have E:=u y (Bz _ By)
   obtain ⟨kd,I,J,G⟩:=k
   dsimp only at x
   cases kd with
   | tup ks =>
    obtain ⟨B,ws,rfl,f,s⟩:=x.view
    have e:(match eL ks with | some k=>if kvs.length < 16777216 then some (D.dt (vm kvs k y.d),D.non) else none | none=>none)=some p:=e
    cases h1:eL ks with
    | none=>rw [h1] at e;exact nsE e
    | some key =>
     rw [h1] at e
     dsimp only at e
     split at e
     ·rename_i A
      cases e
      have hw:=f9 s h1
      subst hw
      have hlen:kvs.length=ps.length:=by have:=congrArg List.length j;simpa using this
      refine ⟨.ref B,y.v,rfl,a,_,rfl,DPut.t w f (by rw [<- hlen,<- szl];exact A),?_⟩
      have ma:MutAt H a:=.inr (.inr ⟨_,w⟩)
      have g:Rep K (upd H a (.dT (fm ps key y.v))) y.d y.v y.L:=C.keep (M:=fun b=>b=a) (fun b o f h=>by rw [aB h];exact f) (fun b e=>by rw [e];exact ma) fun b f e=>E (by rw [<- e];exact f)
      have keeps:Reps (Rep K (upd H a (.dT (fm ps key y.v)))) (kvs.map (·.2)) (ps.map (·.2)) n:=rs.keep (M:=fun b=>b=a) (fun b o f h=>by rw [aB h];exact f) (fun b e=>by rw [e];exact ma) fun b f e=>na (by rw [<- e];exact f)
      have fin:∃ l,Reps (Rep K (upd H a (.dT (fm ps key y.v)))) ((vm kvs key y.d).map (·.2)) ((fm ps key y.v).map (·.2)) l/\(∀ c ∈ l,c ∈ n\/c ∈ y.L)/\(vm kvs key y.d).map (·.1)=(fm ps key y.v).map (·.1):=by
       generalize upd H a (HO.dT (fm ps key y.v))=H2 at keeps g ⊢
       unfold vm fm
       rw [wL j]
       split
       ·obtain ⟨L2,g1,g2⟩:=pI (k:=key) j keeps g
        exact ⟨L2,g1,g2,by rw [pS,pS];exact j⟩
       ·refine ⟨n ++ (y.L ++ []),?_,fun c i=>?_,by rw [List.map_append,List.map_append,j];rfl⟩
        ·rw [List.map_append,List.map_append]
         exact keeps.append (.cons g .nil)
        ·rcases BH.mp i with z | z
         ·exact .inl z
         ·rw [List.append_nil] at z;exact .inr z
      obtain ⟨l,g1,g2,g3⟩:=fin
      exact q (.dT (fm ps key y.v)) l ⟨.non,.non,[],.z⟩ (.dT aV g3 g1) rfl (fun c i=>(g2 c i).imp id fun h=>⟨y,Bz _ By,h⟩) rfl rfl .non fun c i=>by cases i
     ·exact nsE e
   | _=>exact nsE e
 | _=>exact nsE e
def qV (f g:D->List D->Option (D × D)) (a:D) (b:List D):Option (D × D):=match f a b with
 | some p=>some p
 | none=>g a b
theorem MutD.or {f g:D->List D->Option (D × D)} (h:MutD K r f) (h':MutD K r' g):MutD K (fun x y H Q=>r x y H Q\/r' x y H Q) (qV f g):=fun a d c as H Q p r m na ra i e q=>by
 unfold qV at e
 cases b:f d (as.map (·.d)) with
 | some p'=>rw [b] at e;cases e;exact .inl (h a d c as H Q _ r m na ra i b q)
 | none=>rw [b] at e;exact .inr (h' a d c as H Q p r m na ra i e q)
abbrev setD:=qV pA kh
theorem AR:MutD K (lF fun o i v H Q=>sf o i v H Q\/sg o i v H Q) setD:=fun a d b as H Q p r m na ra c e q=>by
 rcases MutD.or yj yk a d b as H Q p r m na ra c e q with ⟨k,v,h1,h2⟩ | ⟨k,v,h1,h2⟩
 ·exact ⟨k,v,h1,.inl h2⟩
 ·exact ⟨k,v,h1,.inr h2⟩
theorem xr (hu:X.A.units+1 < cLine):wQ X (fun o i v H Q=>sf o i v H Q\/sg o i v H Q):=by
 intro pins s σ H o i v a c u Q I e d b h
 rcases h with h | h
 ·exact uO pins s σ H o i v a c u Q I e d b h
 ·exact uP hu pins s σ H o i v a c u Q I e d b h
end
end L3
end
section
namespace L3
open PySem L2
section
open PySem.Spec PyProof.Rows HT
variable {prog:Program} {w:World} {A:Around} {E:Value->Shared->Prop} {s:Shared}
theorem hV {lo hi:Option Int} (a:IsTup s.heap t items) (e:s.heap.IsSliceOf sl vl vu .none) (pl:IsPart vl lo) (pu:IsPart vu hi) (hw:sIx items.size 0 lo=0/\sIx items.size items.size hi=items.size) (h:Q (.ref t) s) (hsz:items.size<=sizeLine):wpAny (model prog w) A (getItem (.ref t) (.ref sl)) Q E s:=by
 obtain ⟨os,b,c,f⟩:=id e
 have d:s.TypeIs (.ref sl) "slice":=⟨os,b,c⟩
 unfold getItem
 try with_reducible refine Bx ?_
 first | refine Bv (Bw ?_) | skip
 refine Bv (wpAny_sequenceKey a.typeIs (by decide) ?_)
 refine Bv (wpAny_callSpecial?_slot (name:=Str.ofString "__getitem__") a.typeIs PyProof.Rows.slot_tuple_getitem
  (wpAny_call_entry PyProof.Rows.slot_tuple_getitem a.typeIs entry_tuple_getitem ?_ (args_tuple_getitem _ _)))
 show wpAny _ _ (Builtin.Tuple.tupleItemsOf (.ref t) >>= _) _ _ s
 refine Bv (tupleItemsOf_ a ?_)
 refine Bv (wpAny_typeOf d ?_)
 rw [if_pos (by decide)]
 refine Bv (eQ e pl pu ?_)
 show wpAny _ _ (if (((sIx items.size 0 lo:Nat):Int) == 0 && (1:Int) == 1 && (sIx items.size items.size hi - sIx items.size 0 lo) == items.size)=true then _ else _) _ _ s
 rw [if_pos (by simp [hw.1,hw.2])]
 refine Bv ?_
 unfold Builtin.Tuple.tupleIsExact
 refine Bv (wpAny_typeOf a.typeIs ?_)
 refine Bw ?_
 rw [if_pos (by decide)]
 exact Bv (wpAny_rule (Bw ⟨_,rfl,Bw h⟩))
end
section
variable {K:FG} {G G0:Gm} {W W0:D->Sto->Prop} {H H':Hp} {σ:St} {ρ ρ':Sto} {T T':List It3} {g:Nat->Option It3} {x y z:It3} {α β:Type} {X:Cx} {L:List Addr}
def vh (K:FG):V->Option Int->Option Int->Hp->VK->Prop:=fun x lo hi H Q=>∃ a xs,x=.ref a/\SqT K H a xs/\(HT.sIx xs.length 0 lo=0/\HT.sIx xs.length xs.length hi=xs.length)/\Q (.ref a) H
theorem xq:SlR X (vh X.K):=by
 intro pins s σ H x v f g lo hi sl Q I e c pl pu h
 obtain ⟨a,xs,rfl,d,hw,q⟩:=h
 cases e
 obtain ⟨its,r,b,hz⟩:=I.tuple d
 have hlen:its.toArray.size=xs.length:=by rw [BS];exact r.length.symm
 refine ⟨"tuple",_,PyProof.Rows.slot_tuple_getitem.lookup,b.typeIs,?_⟩
 exact hV b c pl pu (by rw [hlen];exact hw) ⟨.ref a,H,I,rfl,q⟩ (by rw [hlen];exact hz)
def asI:D->Option Int
 | .int i=>some i
 | _=>none
def kj:M3 (Option Int):=a9 none
def iY (m:EM):M3 (Option Int):=ag m fun r=>ag (der r) fun d=>ba ((asI d).map some)
def EndP (K:FG) (G:Gm) (W:D->Sto->Prop) (σ:St) (T:List It3) (ρ':Sto) (Q:Option Int->Hp->Prop):Except D (Option Int)->Prop
 | .ok b=>∀ H' g',Wf K G H' σ ρ' T g'->Q b H'
 | .error e=>W e ρ'
def tP (K:FG) (G0:Gm) (W0:D->Sto->Prop) (m:M3 (Option Int)):TO:=fun σ H Q=>∃ G W,Le K G W G0 W0/\∃ ρ T g r ρ',Wf K G H σ ρ T g/\m ρ=some (r,ρ')/\EndP K G W σ T ρ' Q r
structure RP (X:Cx) (G0:Gm) (W0:D->Sto->Prop) (e:Option Expr) (m:M3 (Option Int)):Prop where
 h:PO X e (tP X.K G0 W0 m)
theorem PO.imp (h:PO X e t) (f:∀ σ H Q,t' σ H Q->t σ H Q):PO X e t':=fun pins s σ H Q I q=>h pins s σ H Q I (f σ H Q q)
theorem xB:RP X G0 W0 none kj:=⟨PO.imp xR fun σ H Q h=>by
 obtain ⟨G,W,le,ρ,T,g,r,ρ',w,e,q⟩:=h
 cases e
 exact q _ _ w⟩
theorem xA (h:RE X G0 W0 e m):RP X G0 W0 (some e) (iY m):=⟨PO.imp (xQ h.h) fun σ H Q h=>by
 obtain ⟨G,W,le,ρ,T,g,r,ρ',w,e,q⟩:=h
 have a:∀ x,r=.error x->W x ρ':=fun x b=>by subst b;exact q
 refine tE.seq le w e a fun ra ρ1 e1 v H1 ⟨Ts,g1,f,a1⟩=>?_
 obtain ⟨d,k,s⟩:=aW e1
 obtain ⟨o,j,rfl,rfl⟩:=bI s
 obtain ⟨i,p,n⟩:=BB.mp j
 subst n
 obtain ⟨y,l,f1,f2⟩:=a1.item f (fun x b=>BC _ b) k
 have c:=(f.itm l).rep
 rw [f1] at c
 have hd:d=.int i:=by cases d <;> cases p;rfl
 rw [hd] at c
 refine ⟨i,by rw [<- f2];exact c.int_inv,q _ _ (f.sub (BM Ts T))⟩⟩
def mSl (f:D->Option Int->Option Int->Option (D × Fl)) (ma:EM) (pl pu:M3 (Option Int)):EM:=ag ma fun ra=>ag pl fun lo=>ag pu fun hi=>ag (der ra) fun d=>ba ((f d lo hi).map fun p=>R3.val p.1 p.2)
def SlD (K:FG) (r:V->Option Int->Option Int->Hp->VK->Prop) (f:D->Option Int->Option Int->Option (D × Fl)):Prop:=∀ (a:It3) (lo hi:Option Int) (H:Hp) (Q:VK) (p:D × Fl),Arg K H a->f a.d lo hi=some p ->
 (∀ w H',New K H H' (dZ [a]) w->w.d=p.1->w.f=p.2->Q w.v H')->r a.v lo hi H Q
theorem tP.seq (le:Le K G W G0 W0) (w:Wf K G H σ ρ T g) (e:ag ma k ρ=some (r,ρ')) (he:∀ x,r=.error x->W x ρ') (h:∀ b ρ1,k b ρ1=some (r,ρ')->∀ H1 g1,Wf K G H1 σ ρ1 T g1->P b H1):tP K G0 W0 ma σ H P:=by
 unfold ag at e
 cases q:ma ρ with
 | none=>rw [q] at e;exact nsE e
 | some p =>
  obtain ⟨o,ρ1⟩:=p
  rw [q] at e
  cases o with
  | error x=>cases e;exact ⟨G,W,le,ρ,T,g,.error x,ρ',w,q,he x rfl⟩
  | ok ra=>exact ⟨G,W,le,ρ,T,g,.ok ra,ρ1,w,q,h ra ρ1 e⟩
theorem tE_sl (hd:SlD K r f) (h:tE K G0 W0 (mSl f ma pl pu) σ H Q):tSl r (tE K G0 W0 ma) (tP K G0 W0 pl) (tP K G0 W0 pu) σ H Q:=by
 refine h.use fun G W le ρ T g o ρ' w e q=>?_
 refine tE.seq le w e q.err fun ra ρ1 e1 A H1 ⟨Ts,g1,v,a1⟩=>?_
 refine tP.seq le v e1 q.err fun lo ρ2 t H2 g2 u=>?_
 refine tP.seq le u t q.err fun hi ρ3 j m g3 b=>?_
 obtain ⟨d,l,n⟩:=aW j
 obtain ⟨p,a,rfl,rfl⟩:=bI n
 obtain ⟨y,i,f1,f2⟩:=a1.item b (fun x k=>BC _ k) l
 subst f1 f2
 cases c:f y.d lo hi with
 | none=>rw [c] at a;exact nsE a
 | some s =>
  rw [c] at a
  cases a
  exact hd y lo hi m Q s (b.itm i).arg c (nO b (fun z hz=>by rw [B8.mp hz];exact i) q)
theorem Reps.take:∀ {ds:List D} {b:List V} {L:List Addr} (n:Nat),Reps (Rep K H) ds b L->∃ L',Reps (Rep K H) (ds.take n) (b.take n) L'/\∀ c ∈ L',c ∈ L
 | _,_,_,0,_=>⟨[],by simpa using Reps.nil,fun c a=>by cases a⟩
 | _,_,_,n+1,.nil=>⟨[],by simpa using Reps.nil,fun c a=>by cases a⟩
 | _,_,_,n+1,.cons (L:=L1) r rs=>by
  obtain ⟨L',h1,h2⟩:=Reps.take n rs
  exact ⟨L1 ++ L',by simpa using Reps.cons r h1,fun c a=>by
   rcases BH.mp a with h | h
   ·exact BC _ h
   ·exact BD _ (h2 c h)⟩
theorem Reps.drop:∀ {ds:List D} {b:List V} {L:List Addr} (n:Nat),Reps (Rep K H) ds b L->∃ L',Reps (Rep K H) (ds.drop n) (b.drop n) L'/\∀ c ∈ L',c ∈ L
 | _,_,L,0,r=>⟨L,by simpa using r,fun c a=>a⟩
 | _,_,_,n+1,.nil=>⟨[],by simpa using Reps.nil,fun c a=>by cases a⟩
 | _,_,_,n+1,.cons r rs=>by
  obtain ⟨L',h1,h2⟩:=Reps.drop n rs
  exact ⟨L',by simpa using h1,fun c a=>BD _ (h2 c a)⟩
theorem Reps.cut (lo hi:Option Int) (r:Reps (Rep K H) ds vs L):∃ L',Reps (Rep K H) (kU ds lo hi) (qk vs lo hi) L'/\∀ c ∈ L',c ∈ L:=by
 unfold kU qk
 rw [<- r.len]
 obtain ⟨d,h1,h2⟩:=r.drop (HT.sIx ds.length 0 lo)
 obtain ⟨L2,h3,b⟩:=h1.take (HT.sIx ds.length ds.length hi - HT.sIx ds.length 0 lo)
 exact ⟨L2,h3,fun c a=>h2 c (b c a)⟩
def slD:D->Option Int->Option Int->Option (D × Fl)
 | .lst xs,lo,hi=>some (.lst (kU xs lo hi),.u)
 | .fls xs,lo,hi=>some (.lst (kU xs lo hi),.u)
 | .tup xs,lo,hi=>some (.tup (kU xs lo hi),.z)
 | _,_,_=>none
theorem sd_sl:SlD K (fun x lo hi H Q=>Ai K x lo hi H Q\/(Ah K x lo hi H Q\/vh K x lo hi H Q)) slD:=fun a lo hi H Q p ra e q=>by
 obtain ⟨da,m,j,k⟩:=a
 have f:=ra
 obtain ⟨ra,n⟩:=ra
 dsimp only at ra e
 cases da with
 | lst xs =>
  obtain ⟨b,d,l,rfl,rfl,h,rs⟩:=ra.view
  cases e
  obtain ⟨L',h1,h2⟩:=rs.cut lo hi
  exact .inl ⟨b,d,rfl,SqL.of h,fun p i=>q ⟨_,.ref p,p :: L',.u⟩ _ (vJ i h1 fun c g=>oG (y:=⟨.lst xs,.ref b,b :: l,k⟩) By f rfl rfl c (h2 c g)) rfl rfl⟩
 | fls xs =>
  obtain ⟨b,d,rfl,h,rs⟩:=ra.view
  cases e
  obtain ⟨L',h1,h2⟩:=rs.cut lo hi
  exact .inl ⟨b,d,rfl,h.sq,fun p i=>q ⟨_,.ref p,p :: L',.u⟩ _ (vJ i h1 fun c g=>jQ (y:=⟨.fls xs,.ref b,j,k⟩) By f rfl c (h2 c g)) rfl rfl⟩
 | tup xs =>
  obtain ⟨b,d,rfl,h,rs⟩:=ra.view
  cases e
  by_cases hw:HT.sIx d.length 0 lo=0/\HT.sIx d.length d.length hi=d.length
  ·have g:kU xs lo hi=xs:=by
    unfold kU
    rw [rs.len,hw.1,hw.2,<- rs.len]
    simp
   rw [g] at q
   exact .inr (.inr ⟨b,d,rfl,SqT.of h,hw,q ⟨.tup xs,.ref b,j,.z⟩ H (pO (.tup h rs) (jQ (y:=⟨.tup xs,.ref b,j,k⟩) By f rfl)) rfl rfl⟩)
  ·obtain ⟨L',h1,h2⟩:=rs.cut lo hi
   exact .inr (.inl ⟨b,d,rfl,SqT.of h,hw,fun p i=>q ⟨_,.ref p,L',.z⟩ _ (vI i h1 fun c g=>jQ (y:=⟨.tup xs,.ref b,j,k⟩) By f rfl c (h2 c g)) rfl rfl⟩)
 | _=>exact nsE e
theorem zP:SlR X (fun x lo hi H Q=>Ai X.K x lo hi H Q\/(Ah X.K x lo hi H Q\/vh X.K x lo hi H Q)):=sl_list.or (sl_tup.or xq)
theorem u8 (he:RE X G0 W0 e m) (a:RP X G0 W0 lo pl) (hu:RP X G0 W0 hi pu):RE X G0 W0 (.Subscript e (.Slice lo hi none p2) pos) (mSl slD m pl pu):=⟨PE.imp (vx zP he.h a.h hu.h) fun _ _ _ h=>tE_sl sd_sl h⟩
end
end L3
end
section
namespace L3
open PySem L2
mutual
def pyD:D->Option PyData
 | .non=>some .none
 | .bl b=>some (.bool b)
 | .int i=>some (.int i)
 | .str x=>some (.str x)
 | .tup xs=>(pH xs).map .tuple
 | .lst xs=>(pH xs).map .list
 | .fls xs=>(pH xs).map .list
 | .dk _=>none
 | .dt _=>none
 | .exc _ _=>none
def pH:List D->Option (List PyData)
 | []=>some []
 | d :: ds=>match pyD d,pH ds with
  | some p,some ps=>some (p :: ps)
  | _,_=>none
end
section
variable {K:FG} {H:Hp} {Ks:Addr->Prop} {d:D} {v:V} {L:List Addr} {X:Cx}
theorem Rep.dv (r:Rep K H d v L):∀ p,pyD d=some p->DV K H v p:=by
 refine Rep.rec (motive_1:=fun d v _ _=>∀ p,pyD d=some p->DV K H v p) (motive_2:=fun ds c _ _=>∀ ps,pH ds=some ps->DVs K H c ps) ?_ ?_ ?_ ?_ ?_ ?_ ?_ ?_ ?_ ?_ ?_ ?_ r
 ·intro p e;unfold pyD at e;cases e;exact .non
 ·intro _ p e;unfold pyD at e;cases e;exact .bl _
 ·intro _ p e;unfold pyD at e;cases e;exact .int _
 ·intro _ p e;unfold pyD at e;cases e;exact .str _
 ·intro xs a c L h _ b p e
  unfold pyD at e
  obtain ⟨ps,e1,rfl⟩:=BB.mp e
  exact .tup (SqT.of h) (b ps e1)
 ·intro xs a c L h _ b p e
  unfold pyD at e
  obtain ⟨ps,e1,rfl⟩:=BB.mp e
  exact .lst (SqL.of h) (b ps e1)
 ·intro xs a c L h _ b p e
  unfold pyD at e
  obtain ⟨ps,e1,rfl⟩:=BB.mp e
  exact .lst h.sq (b ps e1)
 ·intro _ _ _ _ _ _ _ _ p e;unfold pyD at e;exact nsE e
 ·intro _ _ _ _ _ _ _ _ p e;unfold pyD at e;exact nsE e
 ·intros;rename_i e;unfold pyD at e;exact nsE e
 ·intro ps e;unfold pH at e;cases e;exact .nil
 ·intro d v L ds c L' _ _ f g ps e
  unfold pH at e
  cases h1:pyD d with
  | none=>rw [h1] at e;exact nsE e
  | some p =>
   cases h2:pH ds with
   | none=>rw [h1,h2] at e;exact nsE e
   | some qs=>rw [h1,h2] at e;cases e;exact .cons (f p h1) (g qs h2)
def eqP (a b:D):Option Bool:=match pyD a,pyD b with
 | some p,some q=>if p.canLay0 && q.canLay0 && decide (min p.depth q.depth<=30) then some (PyData.eqv p q) else none
 | _,_=>none
def eqA (a b:D):Option Bool:=match eqS a b with
 | some k=>some k
 | none=>eqP a b
abbrev eqX (a b:D):Option (D × Fl):=(eqA a b).map fun k=>(.bl k,.z)
abbrev neX (a b:D):Option (D × Fl):=(eqA a b).map fun k=>(.bl (!k),.z)
def rEqP:R2:=fun x y H Q=>∃ p q,DV X.K H x p/\DV X.K H y q/\p.canLay0=true/\q.canLay0=true/\min p.depth q.depth<=30/\Q (.bl (PyData.eqv p q)) H
def rNeP:R2:=fun x y H Q=>∃ p q,DV X.K H x p/\DV X.K H y q/\p.canLay0=true/\q.canLay0=true/\min p.depth q.depth<=30/\Q (.bl (!PyData.eqv p q)) H
theorem vC (hu:X.A.units+64 < cLine):OpR X (compareOp .Eq) (fun x y H Q=>rEq x y H Q\/rEqP (X:=X) x y H Q):=by
 intro pins s σ H x y v u Q I b a h
 rcases h with h | ⟨p,q,h1,h2,h3,c,e,d⟩
 ·exact op_eq pins s σ H x y v u Q I b a h
 ·obtain ⟨as,ra⟩:=DV.reads I h1 b
  obtain ⟨bs,rb⟩:=DV.reads I h2 a
  exact PySem.SeqAt.compareEq_reads ra rb h3 c (by omega) ⟨.bl _,H,I,rfl,d⟩
theorem AE (hu:X.A.units+64 < cLine):OpR X (compareOp .NotEq) (fun x y H Q=>rNe x y H Q\/rNeP (X:=X) x y H Q):=by
 intro pins s σ H x y v u Q I b a h
 rcases h with h | ⟨p,q,h1,h2,h3,c,e,d⟩
 ·exact op_ne pins s σ H x y v u Q I b a h
 ·obtain ⟨as,ra⟩:=DV.reads I h1 b
  obtain ⟨bs,rb⟩:=DV.reads I h2 a
  exact PySem.SeqAt.compareNe_reads ra rb h3 c (by omega) ⟨.bl _,H,I,rfl,d⟩
theorem sL (e:eqP a b=some k):∃ p q,pyD a=some p/\pyD b=some q/\p.canLay0=true/\q.canLay0=true/\min p.depth q.depth<=30/\k=PyData.eqv p q:=by
 unfold eqP at e
 cases h1:pyD a with
 | none=>rw [h1] at e;exact nsE e
 | some p =>
  cases h2:pyD b with
  | none=>rw [h1,h2] at e;exact nsE e
  | some q =>
   rw [h1,h2] at e
   dsimp only at e
   split at e
   ·rename_i h
    cases e
    simp only [Bool.and_eq_true,decide_eq_true_eq] at h
    exact ⟨p,q,rfl,rfl,h.1.1,h.1.2,h.2,rfl⟩
   ·exact nsE e
theorem vE:OpD X.K (fun x y H Q=>rEq x y H Q\/rEqP (X:=X) x y H Q) eqX:=fun a b H Q p ra rb e q=>by
 obtain ⟨k,h1,h2⟩:=BB.mp e
 subst h2
 unfold eqA at h1
 cases c:eqS a.d b.d with
 | some k' =>
  rw [c] at h1
  cases h1
  obtain ⟨s,l⟩:=wq ra.rep rb.rep c
  exact .inl ⟨s,by rw [<- l];exact q ⟨.bl k,.bl k,[],.z⟩ H (d7 (.bl k)) rfl rfl⟩
 | none =>
  rw [c] at h1
  obtain ⟨p,f,e1,j,i,h,g,rfl⟩:=sL h1
  exact .inr ⟨p,f,ra.rep.dv p e1,rb.rep.dv f j,i,h,g,q ⟨.bl _,.bl _,[],.z⟩ H (d7 (.bl _)) rfl rfl⟩
theorem AK:OpD X.K (fun x y H Q=>rNe x y H Q\/rNeP (X:=X) x y H Q) neX:=fun a b H Q p ra rb e q=>by
 obtain ⟨k,h1,h2⟩:=BB.mp e
 subst h2
 unfold eqA at h1
 cases c:eqS a.d b.d with
 | some k' =>
  rw [c] at h1
  cases h1
  obtain ⟨s,l⟩:=wq ra.rep rb.rep c
  exact .inl ⟨s,by rw [<- l];exact q ⟨.bl (!k),.bl (!k),[],.z⟩ H (d7 (.bl _)) rfl rfl⟩
 | none =>
  rw [c] at h1
  obtain ⟨p,f,e1,j,i,h,g,rfl⟩:=sL h1
  exact .inr ⟨p,f,ra.rep.dv p e1,rb.rep.dv f j,i,h,g,q ⟨.bl _,.bl _,[],.z⟩ H (d7 (.bl _)) rfl rfl⟩
end
end L3
end
section
namespace L3
open PySem L2
theorem A8 {k:Nat} {nn:Nat} (F:Fun K x x st f fd) (S:FnScope N ps (ac st)) (b:mask.length=ps.length) (c:N.length=nn) (body:∀ (a:Value) (A:Around) (outer:List Env) (s:Shared) (H:Hp) (E:XK) (f:Addr) (G:Gm),Room k (A.deeper (PyProof.Rows.envOfC x (ac st) s.heap.objs.size f a))->G.pr=prM mask->RSs (dY CX0 P w K mg base N x (ac st) f a A outer s H E).nox G noX (aL st) m) :
  FnOk P w K mg base CX0 (k+1) f fd ps (qG K (fnM mask nn m)):=by
 refine F.ok S (fun l H Q E h=>?_) fun a A outer s H l Q E g h=>?_
 ·obtain ⟨i,p,fs,rfl,_,_,d,_⟩:=h
  unfold fnM at d
  rw [BJ] at d ⊢
  split at d
  ·rename_i e;rw [e,b]
  ·exact nsE d
 ·have hle:mask.length<=nn:=by
   rw [b,<- c]
   have:=congrArg List.length S.pre
   rw [B1] at this
   omega
  obtain ⟨G,n,j⟩:=oN hle h
  subst c
  exact ⟨_,(body a A outer s H E f G g n).h,j⟩
def uN (K:FG):Sp:=fun b H Q _=>∃ (a:Addr) (ns:List Int),b=[.ref a]/\SqL K H a (ns.map V.int)/\yO H/\ns.length<=63/\∀ H',Q (.bl true) H'
theorem nt:∀ ns:List Int,Reps (Rep K H) (ns.map D.int) (ns.map V.int) []
 | []=>.nil
 | n :: ns=>.cons (L:=[]) (.int n) (nt ns)
theorem yo (i:∀ ns:List Int,ns.length<=63->∃ fs,F [(.fls (ns.map .int),.z)]=some (.ok (.bl true,.z),fs)) (h:uN K vs H Q E):qG K F vs H Q E:=by
 obtain ⟨a,ns,rfl,f,c,d,q⟩:=h
 obtain ⟨fs,e⟩:=i ns d
 have b:FzL K H a (ns.map V.int):=by
  rcases f with (h | h) | h
  ·rcases c a with z | ⟨o,xs,z⟩
   ·rw [h] at z;cases z
   ·rw [h] at z;cases z
  ·exact .inl h
  ·exact .inr h
 refine ⟨[⟨.fls (ns.map .int),.ref a,[],.z⟩],(.bl true,.z),fs,rfl,fun p g=>?_,.cons (fun _ h=>by cases h) .nil,e,fun x qs H' B j k _=>?_⟩
 ·rw [B8.mp g]
  exact ⟨.lstF b (nt ns),fun h=>absurd rfl h⟩
 ·have r:=B.rep
  rw [j] at r
  have inv:∀ {v:V} {L:List Addr},Rep K H' (.bl true) v L->v=.bl true:=fun r=>by cases r;rfl
  rw [inv r]
  exact q H'
end L3
end
section
namespace L3
open PySem L2
def sD (ok:D->Bool) (f:List D->Option (D × Fl)) (b:EM) (ms:M3 (List R3)):EM:=ag b fun a=>ag (der a) fun c=>if ok c then ag ms fun rs=>ag (cO (a :: rs)) fun ds=>ba ((f ds).map fun p=>R3.val p.1 p.2) else fun _=>none
section
variable {K:FG} {G G0:Gm} {W W0:D->Sto->Prop} {H H':Hp} {σ:St} {ρ ρ':Sto} {T T':List It3} {g:Nat->Option It3} {x y z:It3} {α β:Type} {X:Cx} {v:V} {d:D} {L:List Addr}
theorem xl (D:d6 K (fun xs H Q=>∃ x l,xs=x :: l/\r x l H Q) f) (hok:∀ d v L H,ok d=true->Rep K H d v L->tyV K Ty v H) (h:tE K G0 W0 (sD ok f mo ms) σ H Q) :
  tBM K Ty r (tE K G0 W0 mo) (tA K G0 W0 ms) σ H Q:=by
 refine h.use fun G W le ρ T g o ρ' w e q=>?_
 refine tE.seq le w e q.err fun J ρ1 e1 B H1 ⟨Ts,g1,m,a1⟩=>?_
 obtain ⟨t,A,b⟩:=aW e1
 cases j:ok t with
 | false=>rw [j] at b;exact nsE b
 | true =>
  rw [j] at b
  obtain ⟨y0,F,f0,f1⟩:=a1.item m (fun x i=>BC _ i) A
  refine ⟨hok t B _ H1 j (by rw [<- f0,<- f1];exact (m.itm F).rep),?_⟩
  refine tA.seq le m b q.err fun rs ρ2 u l H2 Us g2 c a2=>?_
  obtain ⟨ds,d2,C⟩:=bE u
  obtain ⟨p,a,rfl,rfl⟩:=bI C
  rw [<- List.append_assoc] at c
  obtain ⟨ys,n,f2,z⟩:=(Ars.cons a1 a2).items c (fun x i=>BC _ i) d2
  subst f2
  cases k:f (ys.map (·.d)) with
  | none=>rw [k] at a;exact nsE a
  | some s =>
   rw [k] at a
   cases a
   obtain ⟨M,E,h1,h2⟩:=D ys H2 Q s (fun y I=>(c.itm (n y I)).arg) k (nO c n q)
   rw [z] at h1
   cases h1
   exact h2
theorem r9 {id:String} (p:PlainAttrs Ty) (slot:Slot Ty nm id) (i:typeOf (.builtin id)=pure (.type "method_descriptor")) (hm:MtR X id r) (m:d6 X.K (fun xs H Q=>∃ x j,xs=x :: j/\r x j H Q) f) (hok:∀ d v L H,ok d=true->Rep X.K H d v L->tyV X.K Ty v H) (l:RE X G0 W0 o mo) (n:RA X G0 W0 (e :: es) ms) (b:attributeBase o nm X.env (eval o X.env)=eval o X.env) (g:((backTo cpos (starEach (e :: es) X.env)).all (fun x=>!x.1) && (backToKw cpos (keywordEach [] X.env)).all (fun x=>x.1.isSome) && decide ((e :: es).length+([]:List Keyword).length+(if ([]:List Keyword).isEmpty then 0 else 1) < 30))=true) (c:(apos.endLine == cpos.line)=true) (k:starEach (e :: es) X.env=(false,eval e X.env) :: starEach es X.env) (a:(backTo cpos (starEach es X.env)).any (·.1)=false):RE X G0 W0 (.Call (.Attribute o nm apos) (e :: es) [] cpos) (sD ok f mo ms) :=
 ⟨PE.imp (yY p slot i hm l.h n.h b g c k a) fun _ _ _ h=>xl m hok h⟩
end
end L3
end
section
namespace L3
open PySem L2
end L3
end
section
namespace L3
open PySem L2
section
variable {K:FG} {G G0:Gm} {W W0:D->Sto->Prop} {H H':Hp} {σ:St} {ρ ρ':Sto} {T T':List It3} {g:Nat->Option It3} {x y z:It3} {α β:Type} {X:Cx} {v:V} {d:D} {L:List Addr}
theorem Reps.rep (r:Reps (Rep K H) ds vs L):∀ n:Nat,∃ L',Reps (Rep K H) (List.replicate n ds).flatten (List.replicate n vs).flatten L'/\∀ c ∈ L',c ∈ L
 | 0=>⟨[],.nil,fun _ h=>by cases h⟩
 | n+1=>by
  obtain ⟨L',h1,h2⟩:=Reps.rep r n
  refine ⟨L ++ L',?_,fun c a=>?_⟩
  ·rw [List.replicate_succ,List.replicate_succ,List.flatten_cons,List.flatten_cons];exact r.append h1
  ·rcases BH.mp a with h | h
   ·exact h
   ·exact h2 c h
def wT (i j:Int):Prop:=0 < j/\j < 1267650600228229401496703205376
theorem vB:OpR X (binaryOp .FloorDiv) (rI wT fun i j=>.int (i / j)):=opI fun i j _ _ _ _ _ a q=>by
 have h1:(0:Int) < j:=a.1
 have h2:j < 1267650600228229401496703205376:=a.2
 refine PyProof.Rows.floordiv_int (by omega) (by rw [Int.fdiv_eq_ediv_of_nonneg i (by omega)];exact q) (.inl (PyProof.noPylong_of_log2 ?_))
 have h3:j.natAbs < 2 ^ 100:=by omega
 exact Nat.lt_trans ((Nat.log2_lt (by omega)).mpr h3) (by decide)
abbrev ui:=dW (fun _ j=>decide (0 < j/\j < 1267650600228229401496703205376)) fun i j=>.int (i / j)
theorem ye:OpD K (rI wT fun i j=>.int (i / j)) ui:=jh (fun i j h=>by simpa [wT] using h) fun i j _=>.int _
end
end L3
end
section
namespace L3
open PySem L2
end L3
end
section
namespace L3
open PySem L2
end L3
end
section
namespace L3
open PySem L2
end L3
theorem L2.Room.hu {k:Nat} (a:L2.Room k A):A.units+1 < PySem.cLine:=L2.hu_of a
end
section
namespace L3
open PySem L2
section
variable {K:FG} {G G0:Gm} {W W0:D->Sto->Prop} {H H':Hp} {σ:St} {ρ ρ':Sto} {T T':List It3} {g:Nat->Option It3} {x y z:It3} {α β:Type} {X:Cx} {v:V} {d:D} {L:List Addr}
def popF:D->List D->Option (D × D)
 | .lst xs,[]=>match xs.getLast? with
  | some (.int i)=>some (.lst xs.dropLast,.int i)
  | _=>none
 | _,_=>none
def idxQ:D->D->Option (D × Fl)
 | .lst xs,.bl true=>(eB xs).bind fun bs=>if bs.findIdx id < bs.length then some (.int (bs.findIdx id:Nat),.z) else none
 | _,_=>none
abbrev idxD:=c2 idxQ
theorem wD:d6 K (fun xs H Q=>∃ x d,xs=x :: d/\∃ (a:Addr) (xs:List V) (k:V) (j:Nat),x=.ref a/\d=[k]/\SqL K H a xs/\fM k=true/\xs.all fM=true/\(∃ y,xs[j]?=some y/\eqV y k=true)/\(∀ (i:Nat) (y:V),i < j->xs[i]?=some y->eqV y k=false)/\Q (.int j) H) idxD:=fun ys H Q p ra e q=>by
 obtain ⟨y,z,rfl,c⟩:=my e
 clear e
 have m:=(ra y By).rep
 have g:=(ra z (Bz _ By)).rep
 obtain ⟨da,u,t,A⟩:=y
 obtain ⟨db,E,B,C⟩:=z
 dsimp only at m g c
 cases da with
 | lst xs =>
  obtain ⟨n,d,v,rfl,rfl,s,rs⟩:=m.view
  cases g with
  | bl b =>
   cases b with
   | false=>exact nsE c
   | true =>
    obtain ⟨bs,h1,h2⟩:=B7.mp (show ((eB xs).bind fun bs=>if bs.findIdx id < bs.length then some ((.int (bs.findIdx id:Nat),.z):D × Fl) else none)=some p from c)
    split at h2
    ·rename_i h
     cases h2
     have o:=jx h1
     subst o
     have r:=rs.bls
     subst r
     refine ⟨.ref n,[.bl true],rfl,n,bs.map V.bl,.bl true,bs.findIdx id,rfl,rfl,SqL.of s,rfl,by simp [fM],⟨.bl (bs[bs.findIdx id]),by rw [BO,BF h];rfl,?_⟩,fun i w hi hw=>?_,q ⟨.int _,.int _,[],.z⟩ H (d7 (.int _)) rfl rfl⟩
     ·have:=List.findIdx_getElem (p:=id) (w:=h)
      show (bs[bs.findIdx id] == true)=true
      simpa using this
     ·rw [BO] at hw
      obtain ⟨b,l,rfl⟩:=BB.mp hw
      have f:i < bs.length:=by omega
      have:=List.not_of_lt_findIdx (p:=id) hi
      rw [BF f] at l
      cases l
      show (bs[i] == true)=false
      simpa using this
    ·exact nsE h2
  | _=>exact nsE c
 | _=>exact nsE c
end
end L3
end
section
namespace L3
open PySem L2
def XA (K:FG):D->Value->Option Addr->Hp->Prop:=fun e cls da _=>da=none/\∃ c C,e=.exc c []/\cls=.ref C/\XName K c C
abbrev aD (P:Program) (w:World) (K:FG) (mg:Str->Option Value) (base:Heap) (x:Str) (k:Nat) (ps:List Str) (F:Fn):Prop:=CalleeX P w K mg base x k ps (spF (XA K) K F)
abbrev yP (P:Program) (w:World) (K:FG) (mg:Str->Option Value) (base:Heap) (x:Str) (k:Nat) (ps:List Str) (F:Fn):Prop:=CalleeN P w K mg base x k ps (qG K F)
structure Pas (X:Cx) (G0:Gm) (W0:D->Sto->Prop):Prop where
 fly:∀ (pins:List (Addr × Obj)) (σ:St) (H:Hp) (s:Shared) (e:Value) (s':Shared),Inv X pins σ H s->CXe X.prog X.w X.stack H s (EX (XA X.K) X.K G0 W0 σ) e s'->X.xe e s'
structure Mak (X:Cx) (G0:Gm) (W0:D->Sto->Prop):Prop where
 made:∀ (pins:List (Addr × Obj)) (σ:St) (H:Hp) (s s':Shared) (a C:Addr) (vs:List Value),Inv X pins σ H s->EX (XA X.K) X.K G0 W0 σ (.ref C) none H->Heap.MadeExcOf s.heap s'.heap a (.ref C) vs->s'.os=s.os->s'.gens=s.gens->X.xe (.ref a) s'
section
variable {X:Cx} {G G0:Gm} {W W0:D->Sto->Prop} {K:FG} {H H':Hp} {σ:St} {ρ ρ':Sto} {T T':List It3} {g:Nat->Option It3} {m:SM} {ms:M3 (List R3)} {st:Stmt} {sts:List Stmt} {x:Str} {p pos:Pos} {e:Expr} {es:List Expr} {k:Nat} {ps:List Str} {F:Fn}
theorem vf (c:aD X.prog X.w X.K X.mg X.base x k ps F) (d:Room k X.A) (g:Pas X G0 W0) (f:RA X G0 W0 (e :: es) ms) (i:Gl X x) (a:(x == ("__debug__":Str))=false)
  (he:starEach (e :: es) X.env=(false,eval e X.env) :: starEach es X.env) (b:(backTo pos (starEach es X.env)).any (·.1)=false):RE X G0 W0 (.Call (.Name x p) (e :: es) [] pos) (aC F ms) :=
 ⟨PE.imp (Az c d g.fly f.h i a he b) fun _ _ _ h=>xn h⟩
theorem vg (c:yP X.prog X.w X.K X.mg X.base x k ps F) (f:RoomN k X.A) (d:Hd X) (g:RA X G0 W0 (e :: es) ms) (i:Gl X x) (a:(x == ("__debug__":Str))=false)
  (he:starEach (e :: es) X.env=(false,eval e X.env) :: starEach es X.env) (b:(backTo pos (starEach es X.env)).any (·.1)=false):RE X G0 W0 (.Call (.Name x p) (e :: es) [] pos) (aK F ms) :=
 ⟨PE.imp (AA c f d g.h i a he b) fun _ _ _ h=>pw h⟩
def lB (c:String) (ms:M3 (List R3)):SM:=ag ms fun rs=>fun ρ=>if rs.length<=1000 then some (.error (.exc c []),ρ) else none
theorem Ars.lenV (a:Ars σ rs vs Ts):rs.length=vs.length:=by
 induction a with
 | nil=>rfl
 | cons _ _ ih=>rw [B0,B0,ih]
theorem uH (n:XName K c C) (h:tS K G0 W0 (lB c ms) E σ H):uI (fun σ H1=>EX (XA K) K G0 W0 σ (.ref C) none H1) (tA K G0 W0 ms) E σ H:=by
 refine h.use fun G W le ρ T g r ρ' w e q=>?_
 refine tA.seq le w e q.err fun rs ρ1 e1 k H1 Ts g1 j a1=>?_
 rcases Decidable.em (rs.length<=1000) with a | a
 ·rw [if_pos a] at e1
  cases e1
  obtain ⟨ρ5,d,i,f,b⟩:=le.ex H1 σ _ _ g1 _ j q
  exact ⟨by rw [<- a1.lenV];exact a,_,ρ5,d,i,f,⟨rfl,c,C,rfl,rfl,n⟩,b⟩
 ·rw [if_neg a] at e1;exact nsE e1
theorem u5 (n:XName X.K c C) (cl:ECls X.K X.mg x C) (mk:Mak X G0 W0) (b:X.calm=true) (g:Gl X x) (hd:(x == ("__debug__":Str))=false) (d:RA X G0 W0 [e] ms) (he:starEach [e] X.env=[(false,eval e X.env)]) :
  RS X G0 W0 (.Raise (some (.Call (.Name x np) [e] [] cpos)) none pos) (lB c ms) :=
 ⟨PS.imp (vp cl b g hd d.h _ (fun pins σ H s s' a f I q hm h1 h2=>mk.made pins σ H s s' a C f I q hm h1 h2) he) fun _ _ _ h=>uH n h⟩
def tS1 (K:FG) (G:Gm) (W:D->Sto->Prop) (m:SM):TS:=fun E σ H=>∃ ρ g r ρ',Wf K G H σ ρ [] g/\m ρ=some (r,ρ')/\EndS K G W [] ρ' E r
theorem tS1.all (h:tS1 K G W m E σ H):tS K G W m E σ H:=by
 obtain ⟨ρ,g,r,ρ',w,e,q⟩:=h
 exact tS.mk (Le.refl K _ _) w e q
structure RS1 (X:Cx) (G0:Gm) (W0:D->Sto->Prop) (s:Stmt) (m:SM):Prop where
 h:PS X s (tS1 X.K G0 W0 m)
structure RSs1 (X:Cx) (G0:Gm) (W0:D->Sto->Prop) (s:List Stmt) (m:SM):Prop where
 h:PSs X s (tS1 X.K G0 W0 m)
theorem RS.one (h:RS X G0 W0 st m):RS1 X G0 W0 st m:=⟨PS.imp h.h fun _ _ _ q=>q.all⟩
theorem uY (h:RS1 X G0 W0 st m):RSs1 X G0 W0 [st] m:=⟨so h.h⟩
theorem xc (h:tS1 K G W (aJ a b) E σ H):zx (tS1 K G W a) (tS1 K G W b) E σ H:=by
 obtain ⟨ρ,g,r,ρ',w,e,q⟩:=h
 unfold aJ ag at e
 cases p:a ρ with
 | none=>rw [p] at e;exact nsE e
 | some p' =>
  obtain ⟨o,ρ1⟩:=p'
  rw [p] at e
  cases o with
  | error x=>cases e;exact ⟨ρ,g,_,_,w,p,q⟩
  | ok f =>
   cases f with
   | nx=>exact ⟨ρ,g,.ok .nx,ρ1,w,p,fun σ' H' g' c=>⟨ρ1,g',r,ρ',c,e,q⟩⟩
   | br=>cases e;exact ⟨ρ,g,_,_,w,p,q⟩
   | ct=>cases e;exact ⟨ρ,g,_,_,w,p,q⟩
   | rt d f=>cases e;exact ⟨ρ,g,_,_,w,p,q⟩
theorem tL (h1:RS1 X G0 W0 st sm) (h2:RSs1 X G0 W0 sts sn):RSs1 X G0 W0 (st :: sts) (aJ sm sn):=⟨PSs.imp (pJ h1.h h2.h) fun _ _ _ h=>xc h⟩
end
end L3
end
section
namespace L3
open PySem L2
theorem qe {n:Nat} {E:XK} {ps:List It3} (hn:mask.length<=n) (ha:∀ p ∈ ps,Arg K H p) (hp:ps.Pairwise Apart3) (q:match o with
   | .ok p=>∀ x qs H',Behind K H H' ps qs x->x.d=p.1->x.f=p.2->qs.map (fun q=>(q.d,q.f))=fs->Q x.v H'
   | .error e=>∀ qs H' cls da,BehindX K H H' ps qs->qs.map (fun q=>(q.d,q.f))=fs->XA K e cls da H'->E cls da H') (l:fnM mask n m (ps.map fun p=>(p.d,p.f))=some (o,fs)) :
  ∃ (G:Gm) (W:D->Sto->Prop),G.pr=prM mask/\(∀ e ρ,W e ρ->∃ e',o=.error e')/\(∀ σ cls da H',EX (XA K) K G W σ cls da H'->E cls da H')/\tS1 K G W m { nx:=fun _ H'=>Q .non H',rt:=Q } ((ps.map (·.v)).map some ++ List.replicate (n - (ps.map (·.v)).length) none) H:=by
 unfold fnM at l
 rw [BJ] at l
 split at l
 ·rename_i hl
  rw [<- jL] at l
  generalize y:List.zipWith ci mask ps=g at l
  have X:g.length=ps.length:=by rw [<- y,List.length_zipWith];omega
  have V:g.map (·.v)=ps.map (·.v):=by
   refine List.ext_getElem? fun i=>?_
   rw [BO,BO]
   cases e:ps[i]? with
   | none=>rw [List.getElem?_eq_none (by have:=List.getElem?_eq_none_iff.mp e;omega)]
   | some u =>
    obtain ⟨b,_,t⟩:=jc (mask:=mask) hl e
    rw [y] at t
    rw [t]
    show some (ci b u).v=some u.v
    rw [(bj b u).2.1]
  have up:∀ (i:Nat) (u:It3),g[i]?=some u->∃ b s,mask[i]?=some b/\ps[i]?=some s/\u=ci b s:=fun i u e=>by rw [<- y] at e;exact nD e
  have J:∀ u ∈ g,∃ b s,s ∈ ps/\u=ci b s:=fun u hu=>by
   obtain ⟨i,hi,e⟩:=List.mem_iff_getElem.mp hu
   obtain ⟨b,s,_,t,C⟩:=up i u (by rw [BF hi,e])
   exact ⟨b,s,BL t,C⟩
  have M:∀ u ∈ g,Arg K H u:=fun u hu=>by
   obtain ⟨b,s,h0,rfl⟩:=J u hu
   obtain ⟨e1,t,C,e4⟩:=bj b s
   refine ⟨by rw [e1,t,C];exact (ha s h0).rep,fun hf=>?_⟩
   rw [e1,t,C]
   refine (ha s h0).own fun z=>hf ?_
   rcases e4 with f | f
   ·rw [f];exact z
   ·exact f
  have F:g.Pairwise Apart3:=by
   rw [List.pairwise_iff_getElem]
   intro i j hi hj lt
   obtain ⟨b,s,_,t,C⟩:=up i _ (BF hi)
   obtain ⟨N,Z,_,ar,ax⟩:=up j _ (BF hj)
   have ap:=cg hp (fun _ _=>Apart3.symm) (BR lt) t ar
   rw [C,ax]
   obtain ⟨_,a2,a3,U⟩:=bj b s
   obtain ⟨_,b2,b3,b4⟩:=bj N Z
   exact ⟨ap.1.low a2 U b3,ap.2.low b2 b4 a3⟩
  have I:∀ (i:Nat) (u:It3),g[i]?=some u->u.f ≠ .z->prM mask i=true:=fun i u e hf=>by
   obtain ⟨b,s,e1,t,C⟩:=up i u e
   unfold prM
   rw [e1]
   cases b with
   | false=>rfl
   | true=>rw [C] at hf;exact absurd rfl hf
  have alls:∀ c,cQ g c->cQ ps c:=fun c ⟨u,hu,P⟩=>by
   obtain ⟨b,s,h0,rfl⟩:=J u hu
   exact ⟨s,h0,by rw [<- (bj b s).2.2.1];exact P⟩
  have lift:∀ {H':Hp} {qs:List It3},BehindX K H H' g qs->BehindX K H H' ps qs:=fun {H' qs} B=>by
   refine ⟨fun b o hb hn=>B.frame b o hb fun u hu hf V=>?_,Paired.ofGet ?_ fun k u v eu ev=>?_,B.apart⟩
   ·obtain ⟨N,s,h0,rfl⟩:=J u hu
    obtain ⟨_,t,_,e4⟩:=bj N s
    rcases e4 with f | f
    ·exact hn s h0 (by rw [<- f];exact hf) (by rw [<- t];exact V)
    ·rw [f] at hf;cases hf
   ·rw [<- X];exact Paired.length B.back
   ·obtain ⟨b,_,t⟩:=jc (mask:=mask) hl eu
    rw [y] at t
    have A:=Paired.at B.back t ev
    obtain ⟨a1,a2,a3,U⟩:=bj b u
    refine ⟨fun hz=>?_,by rw [A.v,a2],?_,A.arg,fun c P=>(A.src c P).imp id (alls c),fun hf N R=>?_⟩
    ·have:ci b u=u:=by
      cases b
      ·rfl
      ·obtain ⟨d,v,L,f⟩:=u
       have hz:f=.z:=hz
       subst hz;rfl
     rw [<- this]
     exact A.z (by rw [this];exact hz)
    ·rcases A.f with h | h
     ·rcases U with f | f
      ·exact .inl (h.trans f)
      ·exact .inr (h.trans f)
     ·exact .inr h
    ·rcases U with f | f
     ·exact A.there (by rw [f];exact hf) N (by rw [a2];exact R)
     ·-- lowered: as it was
      obtain ⟨_,a,L',v1,v2,_⟩:=(ha u (BL eu)).own (by rw [hf];intro q;cases q)
      rw [R] at v1;cases v1
      have T:=A.z f
      have r:=A.arg.rep
      rw [T,a1,a2,a3] at r
      exact (r.inH N (by rw [v2];exact By)).ex
  have ae:g.length<=n:=by omega
  have wf:=pj (K:=K) (H:=H) (n:=n) (pr:=prM mask) ae M F I
  rw [V] at wf
  have h0:∀ (i:Nat) (u:It3),g[i]?=some u->((ps.map (·.v)).map some ++ List.replicate (n - (ps.map (·.v)).length) none)[i]?=some (some u.v):=fun i u e=>jD (by rw [<- V];exact sC e)
  unfold fn0 at l
  cases e:m (eA n (g.map fun p=>(p.d,p.f))) with
  | none=>rw [e] at l;exact nsE l
  | some rr =>
   obtain ⟨r,ρ2⟩:=rr
   rw [e] at l
   refine ⟨gOf H (prM mask) ((ps.map (·.v)).map some ++ List.replicate (n - (ps.map (·.v)).length) none) g,fun O ρ=>r=.error O/\ρ = ρ2,rfl,fun O ρ hw=>?_,fun σ' cls da H' hx=>?_,eA n (g.map fun p=>(p.d,p.f)),_,r,ρ2,wf,e,?_⟩
   ·obtain ⟨rfl,_⟩:=hw
    dsimp only at l
    cases w:dF ρ2 0 (g.map fun p=>(p.d,p.f)) with
    | none=>rw [w] at l;exact nsE l
    | some fs'=>rw [w] at l;cases l;exact ⟨O,rfl⟩
   ·obtain ⟨O,ρ',T',g',w',xa,rfl,rfl⟩:=hx
    dsimp only at l
    cases w:dF ρ' 0 (g.map fun p=>(p.d,p.f)) with
    | none=>rw [w] at l;exact nsE l
    | some fs' =>
     rw [w] at l
     cases l
     obtain ⟨qs,Y,T,_⟩:=kC (n:=n) M F I h0 w' w
     exact q qs H' cls da (lift Y) T xa
   have fin:∀ {x:It3} {σ':St} {H':Hp} {g':Nat->Option It3} {d:D} {f:Fl},Wf K (gOf H (prM mask) ((ps.map (·.v)).map some ++ List.replicate (n - (ps.map (·.v)).length) none) g) H' σ' ρ2 [x] g'->x.d=d->x.f=f ->
     ((dF ρ2 0 (g.map fun p=>(p.d,p.f))).map fun fs=>((.ok (d,f),fs):Except D (D × Fl) × List (D × Fl)))=some (o,fs)->Q x.v H':=fun {x σ' H' g' d f} S xd xf l=>by
    cases w:dF ρ2 0 (g.map fun p=>(p.d,p.f)) with
    | none=>rw [w] at l;exact nsE l
    | some fs' =>
     rw [w] at l
     cases l
     obtain ⟨qs,B,T⟩:=mB (n:=n) M F I h0 S w
     have Y:=lift B.toBehindX
     exact q x qs H' ⟨Y,B.rep,B.own,fun c P=>(B.src c P).imp id (alls c),B.apx⟩ xd xf T
   cases r with
   | error O=>exact ⟨rfl,rfl⟩
   | ok fl =>
    cases fl with
    | nx =>
     intro σ' H' g' S
     obtain ⟨Ts,g2,w2,a2⟩:=S.const .non
     obtain ⟨x,rfl,x1,x2,x3⟩:=a2.val_inv
     have:=fin w2 x1 x2 l
     rw [x3] at this
     exact this
    | br=>exact nsE l
    | ct=>exact nsE l
    | rt d f =>
     intro x σ' H' g' S x1 x2
     exact fin S x1 x2 l
 ·exact nsE l
theorem oO {n:Nat} {ps:List It3} (h:fnM mask n m (ps.map fun p=>(p.d,p.f))=some r):ps.length=mask.length:=by
 unfold fnM at h
 rw [BJ] at h
 rcases Decidable.em (ps.length=mask.length) with q | q
 ·exact q
 ·rw [if_neg q] at h;exact nsE h
section
variable {P:Program} {w:World} {K:FG} {mg:Str->Option Value} {base:Heap} {x:Str} {st:Stmt} {k:Nat} {N ps:List Str} {mask:List Bool} {m:SM} {nn:Nat}
theorem ot (S:FnScope N ps (ac st)) (a:mask.length=ps.length) (b:N.length=nn):mask.length<=nn:=by
 rw [a,<- b]
 have:=congrArg List.length S.pre
 rw [B1] at this
 omega
theorem aG (D:Def K mg x st) (S:FnScope N ps (ac st)) (d:mask.length=ps.length) (c:N.length=nn) (n:∀ (kV doc pm:Value) (an:Option Addr) (b ct:Value) (us:List Value),us.length=ps.length->bindArgs (PySem.W.fnOf x x (aQ st) (aL st) (ac st) .none kV doc pm an b ct) ⟨us,[]⟩=pure (ps.zip us))
  (body:∀ (b:Value) (A:Around) (outer:List Env) (s:Shared) (H:Hp) (E:XK) (f:Addr) (G:Gm) (W:L3.D->Sto->Prop),Room k (A.deeper (PyProof.Rows.envOfC x (ac st) s.heap.objs.size f b))->G.pr=prM mask->Pas (dY (CXe P w) P w K mg base N x (ac st) f b A outer s H E) G W->Mak (dY (CXe P w) P w K mg base N x (ac st) f b A outer s H E) G W->RSs (dY (CXe P w) P w K mg base N x (ac st) f b A outer s H E) G W (aL st) m) :
  aD P w K mg base x (k+1) ps (fnM mask nn m):=by
 refine D.calleeX n fun f fd F=>F.okX S (fun l H Q E h=>?_) fun b A outer s H l Q E p h=>?_
 ·obtain ⟨g,o,fs,rfl,_,_,i,_⟩:=h
  rw [BJ,oO i,d]
 ·obtain ⟨g,o,fs,rfl,t,u,i,q⟩:=h
  obtain ⟨G,W,v,_,j,r⟩:=qe (E:=E) (ot S d c) t u q i
  subst c
  refine ⟨_,(body b A outer s H E f G W p v ⟨fun pins σ H1 s1 e s' I hf=>zp I hf fun cls H'=>j σ cls none H'⟩ ⟨fun pins σ H1 s1 s' a C l I he hm h1 h2=>wW I hm h1 h2 (j σ _ none _ he)⟩).h,r.all⟩
theorem yz (D:Def K mg x st) (S:FnScope N ps (ac st)) (c:mask.length=ps.length) (b:N.length=nn) (l:∀ (kV doc pm:Value) (an:Option Addr) (a ct:Value) (us:List Value),us.length=ps.length->bindArgs (PySem.W.fnOf x x (aQ st) (aL st) (ac st) .none kV doc pm an a ct) ⟨us,[]⟩=pure (ps.zip us))
  (body:∀ (a:Value) (A:Around) (outer:List Env) (s:Shared) (H:Hp) (E:XK) (f:Addr) (G:Gm),Room k (A.deeper (PyProof.Rows.envOfC x (ac st) s.heap.objs.size f a))->G.pr=prM mask->RSs1 (dY CX0 P w K mg base N x (ac st) f a A outer s H E).nox G noX (aL st) m) :
  bh P w K mg base x (k+1) ps (fnM mask nn m):=by
 refine D.callee l fun f fd F=>F.ok S (fun u H Q E h=>?_) fun a A outer s H u Q E n h=>?_
 ·obtain ⟨d,p,fs,rfl,_,_,i,_⟩:=h
  rw [BJ,oO i,c]
 ·obtain ⟨d,p,fs,rfl,t,v,i,q⟩:=h
  obtain ⟨G,W,y,B,C,ρ,g,r,ρ',o,e,j⟩:=qe (E:=E0) (ot S c b) t v q i
  subst b
  refine ⟨_,(body a A outer s H E f G n y).h,ρ,g,r,ρ',o,e,?_⟩
  cases r with
  | error er=>obtain ⟨_,z⟩:=B _ _ j;cases z
  | ok fl=>cases fl <;> exact j
theorem yy (D:Def K mg x st) (S:FnScope N ps (ac st)) (c:mask.length=ps.length) (b:N.length=nn) (e:∀ (kV doc pm:Value) (an:Option Addr) (a ct:Value) (us:List Value),us.length=ps.length->bindArgs (PySem.W.fnOf x x (aQ st) (aL st) (ac st) .none kV doc pm an a ct) ⟨us,[]⟩=pure (ps.zip us))
  (body:∀ (a:Value) (A:Around) (outer:List Env) (s:Shared) (H:Hp) (f:Addr) (G:Gm),RoomN k (A.deeper (PyProof.Rows.envOfC x (ac st) s.heap.objs.size f a))->Hd ((dY CX0 P w K mg base N x (ac st) f a A outer s H E0).loud.wish fun _ _=>False)->G.pr=prM mask->RSs ((dY CX0 P w K mg base N x (ac st) f a A outer s H E0).loud.wish fun _ _=>False) G noX (aL st) m) :
  yP P w K mg base x (k+1) ps (fnM mask nn m):=by
 refine D.calleeN e fun f fd F=>F.okN S (fun l H Q E h=>?_) fun a A outer s H l Q j d h=>?_
 ·obtain ⟨g,p,fs,rfl,_,_,n,_⟩:=h
  rw [BJ,oO n,c]
 ·obtain ⟨G,o,i⟩:=oN (ot S c b) h
  subst b
  exact ⟨_,(body a A outer s H f G j d o).h,i⟩
end
end L3
end
section
namespace L3
open PySem L2
abbrev Cx.tried (X:Cx) (E:Value->Shared->Prop) (pn:List (Addr × Obj)):Cx:={ X with xe:=E,pn:=pn }
section
variable {X:Cx} {pins pins' pn:List (Addr × Obj)} {σ:St} {H H':Hp} {s:Shared} {E:Value->Shared->Prop}
theorem t8 (I:Inv X pins σ H s) (E:Value->Shared->Prop):Inv (Cx.tried X E (X.pn ++ pins)) [] σ H s :=
 ⟨⟨I.ok.mod,I.ok.kind,I.ok.glob,I.ok.blt,I.ok.above,I.ok.inj,I.ok.has,I.ok.cab,I.ok.hd,I.ok.frames,I.ok.stk,I.ok.exf,I.ok.bs,I.ok.bsz,I.ok.noex,I.ok.exfs,I.ok.funs,I.ok.frf⟩,I.os,I.bare,I.base,I.loc,I.cell,I.free,I.freeC,(fun p a=>I.pin p (by rw [List.append_nil] at a;exact a)),I.hok,I.len⟩
theorem gb (I:Inv (Cx.tried X E (X.pn ++ pins)) pins' σ H s):Inv X pins σ H s :=
 ⟨⟨I.ok.mod,I.ok.kind,I.ok.glob,I.ok.blt,I.ok.above,I.ok.inj,I.ok.has,I.ok.cab,I.ok.hd,I.ok.frames,I.ok.stk,I.ok.exf,I.ok.bs,I.ok.bsz,I.ok.noex,I.ok.exfs,I.ok.funs,I.ok.frf⟩,I.os,I.bare,I.base,I.loc,I.cell,I.free,I.freeC,(fun p a=>I.pin p (BC _ a)),I.hok,I.len⟩
end
def qJ (cs:List String) (i:Nat) (mb mh:SM):SM:=fun ρ=>match mb ρ with
 | some (.error (.exc c []),ρ1)=>if c ∈ cs then (match mh (ρ1.set i (some (.exc c [],.z))) with
  | some (.ok (.rt d f),ρ2)=>some (.ok (.rt d f),ρ2)
  | _=>none) else none
 | some (.ok (.rt d f),ρ1)=>some (.ok (.rt d f),ρ1)
 | some (.ok .nx,ρ1)=>some (.ok .nx,ρ1)
 | _=>none
section
variable {X:Cx} {G0:Gm} {W0:D->Sto->Prop} {cs:List String} {i:Nat} {mb mh:SM} {cx n:Str} {CB:Addr} {cp hpos pos:Pos} {b0:Stmt} {body suite:List Stmt}
theorem zX (G:X.stack=X.env :: X.outer) (y:X.env.frame=some X.env.locals) (hex:X.ex=[]) (V:X.N.Nodup) (hg:Gl X cx) (hd:(cx == ("__debug__":Str))=false) (hm:X.mg cx=some (.ref CB))
  (L:∀ c ∈ cs,∀ C,XName X.K c C->PySem.W.exmOne X.K (.ref C) (.ref CB)=some true) (hi:X.N[i]?=some n) (U:X.env.scope.names.lookup n=some .local\/(X.env.scope.names.lookup n=some .cell/\X.fn n=true)) (hp:G0.pr i=false)
  (hb:∀ (E:Value->Shared->Prop) (pn:List (Addr × Obj)) (W:D->Sto->Prop),Pas (Cx.tried X E pn) G0 W->RSs (Cx.tried X E pn) G0 W body mb) (hh:∀ a ob cls,Hd (X.caught a ob cls)->RSs (X.caught a ob cls) G0 noX (b0 :: suite) mh) :
  RS1 X G0 W0 (.Try body [.ExceptHandler (some (.Name cx cp)) (some n) (b0 :: suite) hpos] [] [] pos) (qJ cs i mb mh):=by
 refine ⟨fun pins s σ H D I h=>?_⟩
 obtain ⟨ρ,g,r,ρ',w,e,q⟩:=h
 refine wpAny_Try_except ?_
 have Q:i < X.N.length:=(BK.mp hi).1
 have M:Pas (Cx.tried X (fun e Y=>wpAny (model X.prog X.w) X.A (noteFrame e X.env) (fun _ Z=>wpAny (model X.prog X.w) X.A (setFlight e none) (fun _ s₃=>wpAny (model X.prog X.w) X.A (handleBy e X.env [.ExceptHandler (some (.Name cx cp)) (some n) (b0 :: suite) hpos]) (SP X pins D) X.xe s₃) X.xe Z) X.xe Y) (X.pn ++ pins)) G0 (fun m ρ1=>mb ρ=some (.error m,ρ1)):=by
  refine ⟨fun pins' σ' H1 s1 e' s' R hf=>?_⟩
  obtain ⟨a,cls,H2,rfl,F,m,ρ1,T',g',S,⟨_,c,C,rfl,rfl,nm⟩,O⟩:=hf
  have J:=gb R
  unfold qJ at e
  rw [O] at e
  dsimp only at e
  rcases Decidable.em (c ∈ cs) with p | p
  ·rw [if_pos p] at e
   cases P:mh (ρ1.set i (some (.exc c [],.z))) with
   | none=>rw [P] at e;exact nsE e
   | some z =>
    obtain ⟨o,ρ2⟩:=z
    rw [P] at e
    cases o with
    | error _=>exact nsE e
    | ok fl =>
     cases fl with
     | nx=>exact nsE e
     | br=>exact nsE e
     | ct=>exact nsE e
     | rt d f =>
      cases e
      have hρ:i < ρ1.length:=by rw [<- S.len,R.len];exact Q
      have nw:∀ ob,New X.K H2 (upd H2 a (kO ob a (.ref C))) (fun _=>False) ⟨.exc c [],.ref a,[],.z⟩:=fun ob=>⟨bB F.free,.exc nm aV,fun _ h=>(by cases h),fun h=>absurd rfl h⟩
      have w2:=fun ob=>(S.push (nw ob) fun _ h=>h.elim).store (f:=.z) hρ hp (.inr rfl) (by intro h;cases h)
      refine rD (X:=X) (I:=J) F G y hex V hg hd hm (L c p C nm) hi U fun s5 ob hD J5=>?_
      refine wpAny_mono ((hh a ob _ hD).h pins s5 _ _ { nx:=fun _ _=>False,rt:=D.rt } J5 (tS.mk (Le.refl _ _ _) (w2 ob) P fun x σ3 H3 g3 w3 xd T=>q x σ3 H3 g3 (w3.sub (List.Sublist.cons_cons x (List.nil_sublist _))) xd T)) (fun f s6 t=>?_) fun _ _ z=>z.elim
      cases f with
      | ret u=>obtain ⟨v,σ6,k,l,B,j⟩:=t;exact ⟨v,u,σ6,k,rfl,l,B,j⟩
      | next=>obtain ⟨_,_,_,z⟩:=t;exact z.elim
      | brk=>obtain ⟨_,_,_,z⟩:=t;exact z.elim
      | cont=>obtain ⟨_,_,_,z⟩:=t;exact z.elim
  ·rw [if_neg p] at e;exact nsE e
 have b:∀ (o:Except L3.D Flw) (ρ1:Sto),mb ρ=some (o,ρ1)->EndS X.K G0 (fun m ρ1=>mb ρ=some (.error m,ρ1)) [] ρ1 { nx:=D.nx,rt:=D.rt } o:=fun o ρ1 em=>by
  unfold qJ at e
  rw [em] at e
  cases o with
  | error m=>exact em
  | ok fl =>
   cases fl with
   | nx=>cases e;exact q
   | br=>exact nsE e
   | ct=>exact nsE e
   | rt d f=>cases e;exact q
 cases em:mb ρ with
 | none=>unfold qJ at e;rw [em] at e;exact nsE e
 | some z =>
  obtain ⟨o,ρ1⟩:=z
  refine wpAny_mono ((hb _ _ _ M).h [] s σ H { nx:=D.nx,rt:=D.rt } (t8 I _) (tS.mk (Le.refl _ _ _) w em (b o ρ1 em))) (fun f s1 h1=>?_) fun _ _ z=>z
  cases f with
  | ret u=>obtain ⟨v,σ6,k,l,B,j⟩:=h1;exact ⟨v,σ6,k,gb l,B,j⟩
  | next=>obtain ⟨σ6,k,l,j⟩:=h1;refine wpAny_of_eq (show execs [] X.env=pure .next from by simp only [execs]) ?_;exact ⟨σ6,k,gb l,j⟩
  | brk=>obtain ⟨_,_,_,z⟩:=h1;exact z.elim
  | cont=>obtain ⟨_,_,_,z⟩:=h1;exact z.elim
end
theorem uw (f:∀ u,RelV t u->u=cv):df X (.builtin "isinstance") (fun xs H Q=>∃ a c C b ob,xs=[.ref a,t]/\H a=some (kO ob a (.ref C))/\XName X.K c C/\PySem.W.kitOne X.K (.ref C) cv=some b/\Q (.bl b) H):=by
 intro pins s σ H xs us Q I r h
 obtain ⟨a,c,C,b,ob,rfl,i,nm,j,q⟩:=h
 obtain ⟨u,v,rfl,d,e⟩:=lr r
 cases (show u=Value.ref a from d)
 cases f v e
 have g:=(I.hok a _ i).2.1
 exact PySem.W.kia_one (vZ (x:=a) nm.ex) I.kIn ⟨g⟩ j (by intro z;cases z) fun tk=>⟨.bl b,H,I.tok _,rfl,q⟩
def jd (cs:List (String × Bool)):D->Option (D × Fl)
 | .exc c []=>(cs.lookup c).map fun b=>(.bl b,.z)
 | _=>none
section
variable {X:Cx} {G0:Gm} {W0:D->Sto->Prop}
theorem se (f:∀ u,RelV t u->u=cv) (hf:∀ c b,cs.lookup c=some b->∀ C,XName X.K c C->PySem.W.kitOne X.K (.ref C) cv=some b) (o:Gl X "isinstance") (hm:X.mg "isinstance"=none) (m:PE X (.Name tn pT) (tC t)) (n:RE X G0 W0 a ma) (d:starEach [a,.Name tn pT] X.env=(false,eval a X.env) :: starEach [.Name tn pT] X.env) (g:starEach [.Name tn pT] X.env=(false,eval (.Name tn pT) X.env) :: starEach [] X.env) (i:(backTo pos (starEach [.Name tn pT] X.env)).any (·.1)=false):RE X G0 W0 (.Call (.Name "isinstance" p) [a,.Name tn pT] [] pos) (mUn (jd cs) ma) :=
 ⟨PE.imp (lI (uw f) o hm jy (iX n.h (iX m qT g) d) (by decide) (by decide) d i) fun σ H Q h=>by
  have h:=uJ (r:=fun x H Q=>∃ a c C b ob,x=.ref a/\H a=some (kO ob a (.ref C))/\XName X.K c C/\PySem.W.kitOne X.K (.ref C) cv=some b/\Q (.bl b) H) (fun a H Q p ra e q=>by
   obtain ⟨da,v,s,w⟩:=a
   have ra:=ra.rep
   dsimp only at ra
   cases da with
   | exc c fs =>
    obtain ⟨rfl,rfl,l,C,ob,rfl,nm,j⟩:=ra.view
    obtain ⟨b,h1,h2⟩:=BB.mp (show (cs.lookup c).map (fun b=>((.bl b,.z):D × Fl))=some p from e)
    subst h2
    exact ⟨l,c,C,b,ob,rfl,j,nm,hf c b h1 C nm,q ⟨.bl b,.bl b,[],.z⟩ H (d7 (.bl _)) rfl rfl⟩
   | _=>exact nsE e) h
  refine rX h fun x H1 ⟨a,c,C,b,ob,k,h1,h2,h3,q⟩=>?_
  exact ⟨a,c,C,b,ob,by rw [k],h1,h2,h3,q⟩⟩
end
def cntBQ:D->D->Option (D × Fl)
 | .lst xs,.bl k=>(eB xs).map fun bs=>(.int (bs.count k:Nat),.z)
 | _,_=>none
abbrev zn:=c2 cntBQ
theorem uo:d6 K (fun xs H Q=>∃ x c,xs=x :: c/\∃ (a:Addr) (bs:List Bool) (k:Bool),x=.ref a/\c=[.bl k]/\SqL K H a (bs.map V.bl)/\Q (.int (bs.count k:Nat)) H) zn:=fun ys H Q p ra e q=>by
 obtain ⟨y,z,rfl,b⟩:=my e
 clear e
 have f:=(ra y By).rep
 have d:=(ra z (Bz _ By)).rep
 obtain ⟨da,m,l,o⟩:=y
 obtain ⟨db,t,r,s⟩:=z
 dsimp only at f d b
 cases da with
 | lst xs =>
  cases db with
  | bl k =>
   obtain ⟨j,c,n,rfl,rfl,i,rs⟩:=f.view
   obtain ⟨rfl,rfl⟩:=d.view
   obtain ⟨bs,h1,h2⟩:=BB.mp (show (eB xs).map (fun bs=>((.int (bs.count k:Nat),.z):D × Fl))=some p from b)
   subst h2
   have h:=jx h1
   subst h
   have g:=rs.bls
   subst g
   exact ⟨_,_,rfl,j,bs,k,rfl,rfl,SqL.of i,q ⟨_,_,[],.z⟩ H (d7 (.int _)) rfl rfl⟩
  | _=>exact nsE b
 | _=>exact nsE b
theorem pg:bootBuiltins "ValueError"=some (.type "ValueError"):=by decide +kernel
def IsX (K:FG) (a:Value) (cs:List (String × Bool)):Prop:=∀ c b,cs.lookup c=some b->∀ C,XName K c C->PySem.W.kitOne K (.ref C) a=some b
def ExX (K:FG) (CB:Addr) (cs:List String):Prop:=∀ c ∈ cs,∀ C,XName K c C->PySem.W.exmOne K (.ref C) (.ref CB)=some true
theorem IsX.nil:IsX K cv []:=fun _ _ h=>nomatch h
theorem IsX.cons {K:FG} {a:Value} {r:String} {C:Addr} {b:Bool} {cs:List (String × Bool)} (n:XName K r C) (h:PySem.W.kitOne K (.ref C) a=some b) (t:IsX K a cs):IsX K a ((r,b) :: cs):=fun c g e i f=>by
 rw [List.lookup_cons] at e
 cases d:c == r with
 | true =>
  rw [d] at e
  cases e
  cases beq_iff_eq.mp d
  rw [f.inj n];exact h
 | false=>rw [d] at e;exact t c g e i f
theorem ExX.nil:ExX K CB []:=fun _ h=>nomatch h
theorem ExX.cons {K:FG} {CB:Addr} {r:String} {C:Addr} {cs:List String} (n:XName K r C) (h:PySem.W.exmOne K (.ref C) (.ref CB)=some true) (t:ExX K CB cs):ExX K CB (r :: cs):=fun c e b a=>by
 rcases BE.mp e with e | e
 ·cases e;rw [a.inj n];exact h
 ·exact t c e b a
end L3
namespace L2
theorem RoomN.units {k:Nat} (r:RoomN k A):A.units+64 < PySem.cLine:=by have:=r.un;omega
theorem RoomN.hu {k:Nat} (r:RoomN k A):A.units+1 < PySem.cLine:=by have:=r.un;omega
end L2
end
section
namespace L3
open PySem L2
end L3
end
section
namespace L3
open PySem L2
section
variable {K:FG} {h:Heap} {mg:Str->Option Value}
theorem qN (e:gJ K n=true):PySem.W.nsIn K mainGlobals n=some (some (.ref (aE K n))):=by
 unfold gJ at e
 split at e
 ·rename_i a b;unfold aE;rw [b]
 ·cases e
theorem dQ {l:List Str} (X:K.In h) (G:h.Ns mainGlobals mg) (e:l.map (gJ K)=l.map fun _=>true) (i:Nat) (hi:l[i]?=some n):mg n=some (.ref (aE K n)):=PySem.W.mg_of X G (qN (lJ e i hi))
theorem jG {α:Type} {l r:List α} (e:l=r) (i:Nat) {a b:α} (h:l[i]?=some a) (k:r[i]?=some b):a=b:=by rw [e,k] at h;exact (Ch h).symm
theorem Be {l:List String} (X:K.In h) (G:h.Ns mainGlobals mg) (d:oS K=ll) (e:l.map (fun r:String=>sT K r)=l.map fun _:String=>oU) (i:Nat) (hi:l[i]?=some r):XName K r (aE K r)/\ECls K mg r (aE K r):=by
 have e:=lJ e i hi
 unfold sT oU at e
 unfold oS ll at d
 simp only [Prod.mk.injEq] at e d
 obtain ⟨a,e1,k,j,f,c,g,b⟩:=e
 exact ⟨⟨qN a,⟨e1,k,j,f,d.1,d.2,c,g⟩⟩,⟨PySem.W.mg_of X G (qN a),b⟩⟩
end
end L3
end
section
namespace L3
open PySem L2
section
variable {K:FG} {G G0:Gm} {W W0:D->Sto->Prop} {H H':Hp} {σ:St} {ρ ρ':Sto} {T T':List It3} {g:Nat->Option It3} {x y z:It3} {α β:Type} {X:Cx} {v:V} {d:D} {L:List Addr}
theorem tK:RSs X G0 W0 sts aX:=⟨fun pins s σ H D I h=>by
 obtain ⟨G,W,le,ρ,T,g,r,ρ',w,e,q⟩:=tS.open h
 cases e⟩
end
end L3
end
section
namespace Bn
open PySem L2 L3
abbrev Pd (p:Int × Int):L3.D:=.tup [.int p.1,.int p.2]
theorem dX {bnd:L3.D->Sto->Option Sto} {b:SM} (P:Nat->Sto->Prop):∀ {ds:List L3.D} {ρ:Sto} {k:Nat},P k ρ->(∀ i d ρ,ds[i]?=some d->P (k+i) ρ->∃ ρ1 ρ2,bnd d ρ=some ρ1/\(b ρ1=some (.ok .nx,ρ2)\/b ρ1=some (.ok .ct,ρ2))/\P (k+i+1) ρ2)->∃ ρ',fA bnd b ds ρ=some (.ok .nx,ρ')/\P (k+ds.length) ρ'
 | [],ρ,k,h0,_=>⟨ρ,rfl,h0⟩
 | d :: ds,ρ,k,h0,hs=>by
  obtain ⟨ρ1,ρ2,e1,a,h1⟩:=hs 0 d ρ rfl h0
  obtain ⟨ρ',c,h3⟩:=dX P (ds:=ds) (ρ:=ρ2) (k:=k+1) h1 fun i d ρ hd e=>by
   have:=hs (i+1) d ρ (by simpa using hd) (by rwa [show k+(i+1)=k+1+i by omega])
   rwa [show k+(i+1)+1=k+1+i+1 by omega] at this
  refine ⟨ρ',?_,by rw [B0,show k+(ds.length+1)=k+1+ds.length by omega];exact h3⟩
  unfold fA
  simp only [e1]
  rcases a with a | a <;> simp only [ag,a,c]
theorem oM {bnd:L3.D->Sto->Option Sto} {b:SM} (P:Nat->Sto->Prop) (E:Nat->L3.D->Fl->Sto->Prop):∀ {ds:List L3.D} {ρ:Sto} {k:Nat},P k ρ ->
  (∀ i d ρ,ds[i]?=some d->P (k+i) ρ->∃ ρ1 ρ2,bnd d ρ=some ρ1/\(((b ρ1=some (.ok .nx,ρ2)\/b ρ1=some (.ok .ct,ρ2))/\P (k+i+1) ρ2)\/∃ r f,b ρ1=some (.ok (.rt r f),ρ2)/\E (k+i) r f ρ2)) ->
  ∃ ρ',(fA bnd b ds ρ=some (.ok .nx,ρ')/\P (k+ds.length) ρ')\/∃ i r f,i < ds.length/\fA bnd b ds ρ=some (.ok (.rt r f),ρ')/\E (k+i) r f ρ'
 | [],ρ,k,h0,_=>⟨ρ,.inl ⟨rfl,h0⟩⟩
 | d :: ds,ρ,k,h0,hs=>by
  obtain ⟨ρ1,ρ2,e1,h1⟩:=hs 0 d ρ rfl h0
  rcases h1 with ⟨a,h1⟩ | ⟨r,f,a,h1⟩
  ·obtain ⟨ρ',h3⟩:=oM P E (ds:=ds) (ρ:=ρ2) (k:=k+1) h1 fun i d ρ hd g=>by
    have:=hs (i+1) d ρ (by simpa using hd) (by rwa [show k+(i+1)=k+1+i by omega])
    rwa [show k+(i+1)=k+1+i by omega] at this
   have e:fA bnd b (d :: ds) ρ=fA bnd b ds ρ2:=by
    conv=>lhs;unfold fA
    simp only [e1]
    rcases a with a | a <;> simp only [ag,a]
   rcases h3 with ⟨c,h3⟩ | ⟨i,r,f,hi,c,h3⟩
   ·exact ⟨ρ',.inl ⟨e.trans c,by rw [B0,show k+(ds.length+1)=k+1+ds.length by omega];exact h3⟩⟩
   ·exact ⟨ρ',.inr ⟨i+1,r,f,by simp;omega,e.trans c,by rw [show k+(i+1)=k+1+i by omega];exact h3⟩⟩
  ·refine ⟨ρ2,.inr ⟨0,r,f,by simp,?_,h1⟩⟩
   unfold fA
   simp only [e1,ag,a,a9]
theorem fW {lo:Int} {n i:Nat} {d:L3.D} (h:(cS lo n)[i]?=some d):i < n/\d=.int (lo+i):=by
 unfold cS at h
 rw [BO,BB] at h
 obtain ⟨j,h1,rfl⟩:=h
 have h2:=BK.mp h1
 obtain ⟨h3,a⟩:=h2
 simp at h3 a
 subst a
 exact ⟨h3,rfl⟩
theorem pE {lo:Int} {n:Nat}:(cS lo n).length=n:=by unfold cS;simp
theorem yD {xs:List L3.D} {m:Nat} (h:m<=xs.length):kU xs none (some (m:Int))=xs.take m:=by
 have e1:HT.sIx xs.length 0 none=0:=rfl
 have a:HT.sIx xs.length xs.length (some (m:Int))=m:=by
  simp only [HT.sIx]
  split <;> omega
 unfold kU
 rw [e1,a]
 simp
theorem Small.sub {p q:Pt} (a:Small p) (b:Small q):(-18446744073709551616 < q.1 - p.1/\q.1 - p.1 < 18446744073709551616)/\(-18446744073709551616 < q.2 - p.2/\q.2 - p.2 < 18446744073709551616):=by
 obtain ⟨a1,a2,c,d⟩:=a
 obtain ⟨g,b2,f,e⟩:=b
 exact ⟨⟨by omega,by omega⟩,⟨by omega,by omega⟩⟩
theorem tj {c:M3 Bool} {b:SM} (P:Nat->Sto->Prop) (Q:Sto->Prop) {n:Nat} {ρ:Sto} (h0:P n ρ)
  (j:∀ n ρ,P n ρ->(∃ ρ1,c ρ=some (.ok false,ρ1)/\Q ρ1)\/∃ ρ1 ρ2 m,c ρ=some (.ok true,ρ1)/\(b ρ1=some (.ok .nx,ρ2)\/b ρ1=some (.ok .ct,ρ2))/\m < n/\P m ρ2):∃ ρ',fU c b ρ=some (.ok .nx,ρ')/\Q ρ':=by
 have main:∀ n ρ,P n ρ->∃ ρ',bT c b (n+1) ρ=some (.ok .nx,ρ')/\Q ρ':=by
  intro n
  induction n using Nat.strongRecOn with
  | _ n ih =>
   intro ρ k
   rcases j n ρ k with ⟨ρ1,e1,d⟩ | ⟨ρ1,ρ2,m,e1,a,hm,i⟩
   ·refine ⟨ρ1,?_,d⟩
    unfold bT
    simp [ag,e1,a9]
   ·obtain ⟨ρ',g,d⟩:=ih m hm ρ2 i
    refine ⟨ρ',?_,d⟩
    have f:=jC (show m+1<=n by omega) g
    unfold bT
    rcases a with a | a <;> simp [ag,e1,a,f]
 obtain ⟨ρ',e,d⟩:=main n ρ h0
 refine ⟨ρ',?_,d⟩
 unfold fU
 have h:∃ n r,bT c b n ρ=some r:=⟨_,_,e⟩
 rw [dif_pos h]
 have a:=Classical.choose_spec (Classical.choose_spec h)
 have g:=jC (Nat.le_max_left (n+1) (Classical.choose h)) e
 have f:=jC (Nat.le_max_right (n+1) (Classical.choose h)) a
 rw [g] at f
 exact f.symm
theorem aO {a b:SM} {ρ ρ1:Sto} {r:Option (Except L3.D Flw × Sto)} (h1:a ρ=some (.ok .nx,ρ1)) (h2:b ρ1=r):aJ a b ρ=r:=by
 simp only [aJ,ag,h1]
 exact h2
theorem mj {bnd:L3.D->Sto->Option Sto} {c:M3 Bool} {elt:EM} (P:Sto->Prop) (g:L3.D->Bool) (f:L3.D->L3.D):∀ {ds:List L3.D} {τ:Sto},P τ ->
  (∀ d ∈ ds,∀ τ,P τ->∃ τ1 τ2,bnd d τ=some τ1/\c τ1=some (.ok (g d),τ2)/\(g d=false->P τ2)/\(g d=true->∃ r τ3 p τ4,elt τ2=some (.ok r,τ3)/\dP r τ3=some (.ok p,τ4)/\p.1=f d/\P τ4)) ->
  ∃ τ',cn bnd c elt ds τ=some (.ok ((ds.filter g).map f),τ')/\P τ'
 | [],τ,h0,_=>⟨τ,rfl,h0⟩
 | d :: ds,τ,h0,hs=>by
  obtain ⟨τ1,τ2,e1,b,hf,l⟩:=hs d By τ h0
  cases a:g d with
  | false =>
   obtain ⟨τ',e,i⟩:=mj P g f (ds:=ds) (τ:=τ2) (hf a) fun d hd=>hs d (Bz _ hd)
   refine ⟨τ',?_,i⟩
   unfold cn
   rw [a] at b
   simp [e1,ag,b,e,List.filter_cons,a]
  | true =>
   obtain ⟨r,τ3,p,τ4,m,k,j,h⟩:=l a
   obtain ⟨τ',e,i⟩:=mj P g f (ds:=ds) (τ:=τ4) h fun d hd=>hs d (Bz _ hd)
   refine ⟨τ',?_,i⟩
   unfold cn
   rw [a] at b
   simp [e1,ag,b,m,k,e,List.filter_cons,a,a9,j]
abbrev Shd (ps:List Pt):L3.D:=.tup (ps.map Pd)
theorem jb {im:IM} {bnd:L3.D->Sto->Option Sto} {c:M3 Bool} {elt:EM} {ix:List (Option Nat)} {ρ ρ1 ρ2 τ:Sto} {rs:List R3} {ds out:List L3.D} (h1:im ρ=some (.ok (rs,ds),ρ1)) (h2:cn bnd c elt ds (uq ix (aP cP (us ρ1 (pls rs)) ρ1))=some (.ok out,τ)) (h3:ds.length < 16777216) (a:uncap ix τ (aP cP (us ρ1 (pls rs)) ρ1)=some ρ2) :
  dl im bnd c elt ix ρ=some (.ok (.val (.lst out) .u),aP fN (us ρ1 (pls rs)) ρ2):=by
 simp [dl,ag,h1,h2,h3,a]
theorem qy:∀ {ds:List L3.D},(∀ d ∈ ds,d=.bl true)->eB ds=some (List.replicate ds.length true)
 | [],_=>rfl
 | d :: ds,h=>by
  have h1:=h d By
  subst h1
  have h2:=qy fun d hd=>h d (Bz _ hd)
  simp [eB,h2,List.replicate_succ]
theorem uB {ds:List L3.D} (h:∀ d ∈ ds,d=.bl true):Bt (.lst ds)=some (.bl true,.z):=by
 simp [Bt,qy h]
theorem sY {xs:List L3.D} {i:Nat} {d:L3.D} (h:xs[i]?=some d):L2.atI xs (i:Int)=some d:=by
 obtain ⟨h1,h2⟩:=BK.mp h
 simp [L2.atI,ixN,h1,h2]
theorem Br {ps:List Pt} {i:Nat} {p:Pt} (h:ps[i]?=some p):L2.atI (ps.map Pd) (i:Int)=some (Pd p):=sY (by simp [h])
theorem wd {f:List L3.D->Option (List L3.D)} {ms:M3 (List R3)} {ρ ρ1 ρ2:Sto} {rs:List R3} {ds xs:List L3.D} (h1:ms ρ=some (.ok rs,ρ1)) (h2:cO rs ρ1=some (.ok ds,ρ2)) (h3:f ds=some xs):cj f ms ρ=some (.ok ([],xs),ρ2):=by
 simp [cj,ag,h1,h2,h3,ba]
theorem fj {b:Int} (d:-1000<=b/\b<=1000) {n:Nat} (c:b.toNat=n):eR [.int b]=some (cS 0 n):=by
 have a:ko b=true:=BU (by omega)
 show (if (ko b)=true then some (cS 0 b.toNat) else none)=_
 rw [a,c]
 exact if_pos rfl
end Bn
end
section
namespace Bn
open PySem L2 L3
section
variable {α:Type} {ρ ρ1 ρ2 ρ3:Sto} {ma mb mc m:EM} {ms:M3 (List R3)} {ra rb r:R3} {rs:List R3} {da db d:L3.D} {ds:List L3.D} {fl:Fl} {i n np:Nat} {sa sb:SM} {c cc:M3 Bool} {b b2:Bool} {x:Option (Except L3.D Flw × Sto)} {y:Option (Except L3.D R3 × Sto)}
theorem aq {p:L3.D × Fl} (h:(ρ[i]?).join=some p):af i ρ=some (.ok (.pl i),ρ):=by simp [af,h]
theorem i_c:mC d ρ=some (.ok (.val d .z),ρ):=rfl
theorem qc {f:L3.D->L3.D->Option (L3.D × Fl)} (h1:ma ρ=some (.ok ra,ρ1)) (h2:mb ρ1=some (.ok rb,ρ2)) (h3:der ra ρ2=some (.ok da,ρ2)) (a:der rb ρ2=some (.ok db,ρ2)) (b:f da db=some (d,fl)):ao f ma mb ρ=some (.ok (.val d fl),ρ2):=by
 simp only [ao,ag,h1,h2,h3,a,ba,b,B6]
theorem we {f:L3.D->Option (L3.D × Fl)} (h1:ma ρ=some (.ok ra,ρ1)) (h3:der ra ρ1=some (.ok da,ρ1)) (a:f da=some (d,fl)):mUn f ma ρ=some (.ok (.val d fl),ρ1):=by
 simp only [mUn,ag,h1,h3,ba,a,B6]
theorem ji {f:List L3.D->Option (L3.D × Fl)} (h1:ms ρ=some (.ok rs,ρ1)) (h3:cO rs ρ1=some (.ok ds,ρ1)) (a:f ds=some (d,fl)):aY f ms ρ=some (.ok (.val d fl),ρ1):=by
 simp only [aY,ag,h1,h3,ba,a,B6]
theorem aw:aj ρ=some (.ok [],ρ):=rfl
theorem ah (h1:m ρ=some (.ok r,ρ1)) (h2:ms ρ1=some (.ok rs,ρ2)):aa m ms ρ=some (.ok (r :: rs),ρ2):=by
 simp only [aa,ag,h1,h2,a9]
theorem A6 {mk:List L3.D->L3.D} {f:Fl} (h1:ms ρ=some (.ok rs,ρ1)) (h2:gives rs ρ1=some (.ok ds,ρ2)) (h3:ds.length<=16777216):p9 mk f ms ρ=some (.ok (.val (mk ds) f),ρ2):=by
 simp only [p9,ag,h1,h2,ba,h3,if_true,B6]
theorem bf {F:Fn} {ps qs:List (L3.D × Fl)} (b:F ps=some (.ok (d,fl),qs)) (h1:ms ρ=some (.ok rs,ρ1)) (h2:prs (frz (eM rs) ρ1) rs=some ps) (h3:qs.length=ps.length) (a:back rs ps qs (frz (eM rs) ρ1) = ρ2):aK F ms ρ=some (.ok (.val d fl),ρ2):=by
 simp only [aK,ag,h1,h2,b,h3,if_true,a]
theorem zb {p:L3.D × Fl} (h1:m ρ=some (.ok r,ρ1)) (h2:dP r ρ1=some (.ok p,ρ2)) (h3:i < ρ2.length) (a:ρ2.set i (some p) = ρ3):bb i m ρ=some (.ok .nx,ρ3):=by
 simp only [bb,ag,h1,h2,h3,if_true,a]
theorem zd {bnd:L3.D->Sto->Option Sto} {p:L3.D × Fl} (h1:m ρ=some (.ok r,ρ1)) (h2:dP r ρ1=some (.ok p,ρ2)) (h3:bnd p.1 ρ2=some ρ3):lC bnd m ρ=some (.ok .nx,ρ3):=by
 simp only [lC,ag,h1,h2,h3,B6]
theorem wj (h1:m ρ=some (.ok r,ρ1)):aH m ρ=some (.ok .nx,ρ1):=by
 simp only [aH,ag,h1,a9]
def retF (np:Nat) (r:R3):SM:=bc np (a9 r)
theorem lX (h1:m ρ=some (.ok r,ρ1)) (h2:retF np r ρ1=x):bc np m ρ=x:=by
 rw [<- h2]
 unfold retF
 simp only [bc,ag,h1,a9]
theorem lx (h1:sa ρ=some (.ok (.rt d fl),ρ1)):aJ sa sb ρ=some (.ok (.rt d fl),ρ1):=by
 simp only [aJ,ag,h1,a9]
theorem oJ (h1:m ρ=some (.ok r,ρ1)) (h2:der r ρ1=some (.ok (.bl b),ρ1)):cB m ρ=some (.ok b,ρ1):=by
 simp only [cB,ag,h1,h2,ba,asB,B6]
theorem iB (h1:c ρ=some (.ok b,ρ1)):jv c ρ=some (.ok (!b),ρ1):=by
 simp only [jv,ag,h1,a9]
theorem kz (h1:c ρ=some (.ok b,ρ1)) (a:b=true) (h2:sa ρ1=x):sIf c sa sb ρ=x:=by
 subst a;simp only [sIf,ag,h1,if_true];exact h2
theorem lY (h1:c ρ=some (.ok b,ρ1)) (a:b=false) (h2:sb ρ1=x):sIf c sa sb ρ=x:=by
 subst a;simp only [sIf,ag,h1,B9,if_false];exact h2
theorem wg (h1:c ρ=some (.ok b,ρ1)) (a:b=false) (h2:cc ρ1=some (.ok b2,ρ2)):cOr c cc ρ=some (.ok b2,ρ2):=by
 subst a;simp only [cOr,ag,h1,B9,if_false];exact h2
theorem i_orT (h1:c ρ=some (.ok b,ρ1)) (a:b=true):cOr c cc ρ=some (.ok true,ρ1):=by
 subst a;simp only [cOr,ag,h1,if_true];rfl
theorem lh (h1:ma ρ=some (.ok r,ρ1)) (h2:der r ρ1=some (.ok (.bl b),ρ1)) (a:b=true) (h3:mb ρ1=y):hU ma mb ρ=y:=by
 subst a;simp only [hU,ag,h1,h2,ba,asB,B6,if_true];exact h3
theorem sI (h1:ma ρ=some (.ok r,ρ1)) (h2:der r ρ1=some (.ok (.bl b),ρ1)) (a:b=false):hU ma mb ρ=some (.ok (.val (.bl false) .z),ρ1):=by
 subst a;simp only [hU,ag,h1,h2,ba,asB,B6,B9,if_false];rfl
theorem i_sl {f:L3.D->Option Int->Option Int->Option (L3.D × Fl)} {pl pu:M3 (Option Int)} {lo hi:Option Int} (h1:ma ρ=some (.ok ra,ρ1)) (h2:pl ρ1=some (.ok lo,ρ2)) (h3:pu ρ2=some (.ok hi,ρ3)) (b:der ra ρ3=some (.ok da,ρ3)) (a:f da lo hi=some (d,fl)):mSl f ma pl pu ρ=some (.ok (.val d fl),ρ3):=by
 simp only [mSl,ag,h1,h2,h3,b,ba,a,B6]
theorem yt:kj ρ=some (.ok none,ρ):=rfl
theorem yr {k:Int} (h1:m ρ=some (.ok r,ρ1)) (h2:der r ρ1=some (.ok (.int k),ρ1)):iY m ρ=some (.ok (some k),ρ1):=by
 simp only [iY,ag,h1,h2,ba,asI,B6]
theorem zc {ok:L3.D->Bool} {f:L3.D->List L3.D->Option (L3.D × L3.D)} {d2 b a:L3.D} (h0:(ρ[i]?).join=some (d,fl)) (e:ok d=true) (h1:ms ρ=some (.ok rs,ρ1)) (h2:gives rs ρ1=some (.ok ds,ρ2)) (h3:(ρ2[i]?).join=some (d2,.u)) (g:f d2 ds=some (b,a)) (c:ρ2.set i (some (b,.u)) = ρ3):rm ok f i ms ρ=some (.ok (.val a .z),ρ3):=by
 simp only [rm,ag,aq h0,chk,h0,e,if_true,h1,h2,h3,g,c]
theorem i_sub {f:L3.D->List L3.D->Option (L3.D × L3.D)} {d2 a c:L3.D} (h1:mb ρ=some (.ok rb,ρ1)) (h0:(ρ1[i]?).join=some (d,fl)) (h2:ma ρ1=some (.ok ra,ρ2)) (h3:gives [ra,rb] ρ2=some (.ok ds,ρ3)) (e:(ρ3[i]?).join=some (d2,.u)) (b:f d2 ds=some (a,c)):og f i ma mb ρ=some (.ok .nx,ρ3.set i (some (a,.u))):=by
 simp only [og,ag,h1,aq h0,h2,h3,e,b]
theorem cI {mask:List Bool} {ps qs:List (L3.D × Fl)} (h1:ps.length=mask.length) (h0:eA n (List.zipWith mP mask ps) = ρ) (h2:sa ρ=some (.ok (.rt d fl),ρ1)) (h3:dF ρ1 0 (List.zipWith mP mask ps)=some qs):fnM mask n sa ps=some (.ok (d,fl),qs):=by
 subst h0;simp only [fnM,h1,if_true,fn0,h2,h3,B6]
theorem ie {i j:Int} (h:-18446744073709551616 < i/\i < 18446744073709551616):d8 (.int i) (.int j)=some (.int (i * j),.z):=by
 simp [dW,h]
theorem vK {i j:Int} (h:-18446744073709551616 < j/\j < 18446744073709551616):d8 (.int i) (.int j)=some (.int (i * j),.z):=by
 simp [dW,h]
theorem nJ {im:IM} {bnd:L3.D->Sto->Option Sto} {o:Except L3.D Flw} (h1:im ρ=some (.ok (rs,ds),ρ1)) (b:us ρ1 (pls rs)=[]) (h2:fA bnd sb ds ρ1=some (o,ρ2)):eK im bnd sb ρ=some (o,ρ2):=by
 have a:∀ f ρ,aP f [] ρ = ρ:=fun _ _=>rfl
 simp only [eK,ag,h1,b,a,h2,B6]
theorem ky {f:List L3.D->Option (List L3.D)} {xs:List L3.D} (h1:ms ρ=some (.ok rs,ρ1)) (h2:cO rs ρ1=some (.ok ds,ρ1)) (h3:f ds=some xs):cj f ms ρ=some (.ok ([],xs),ρ1):=wd h1 h2 h3
end
theorem gf {α:Type} {bnd:L3.D->Sto->Option Sto} {c:M3 Bool} {elt:EM} (P:Sto->Prop) (D:α->L3.D) (g:α->Bool) (f:α->L3.D):∀ {xs:List α} {τ:Sto},P τ ->
  (∀ x ∈ xs,∀ τ,P τ->∃ τ1 τ2,bnd (D x) τ=some τ1/\c τ1=some (.ok (g x),τ2)/\(g x=false->P τ2)/\(g x=true->∃ r τ3 p τ4,elt τ2=some (.ok r,τ3)/\dP r τ3=some (.ok p,τ4)/\p.1=f x/\P τ4)) ->
  ∃ τ',cn bnd c elt (xs.map D) τ=some (.ok ((xs.filter g).map f),τ')/\P τ'
 | [],τ,h0,_=>⟨τ,rfl,h0⟩
 | x :: xs,τ,h0,hs=>by
  obtain ⟨τ1,τ2,e1,b,hf,l⟩:=hs x By τ h0
  cases a:g x with
  | false =>
   obtain ⟨τ',e,i⟩:=gf P D g f (xs:=xs) (τ:=τ2) (hf a) fun d hd=>hs d (Bz _ hd)
   refine ⟨τ',?_,i⟩
   rw [BTz]
   unfold cn
   rw [a] at b
   simp [e1,ag,b,e,List.filter_cons,a]
  | true =>
   obtain ⟨r,τ3,p,τ4,m,k,j,h⟩:=l a
   obtain ⟨τ',e,i⟩:=gf P D g f (xs:=xs) (τ:=τ4) h fun d hd=>hs d (Bz _ hd)
   refine ⟨τ',?_,i⟩
   rw [BTz]
   unfold cn
   rw [a] at b
   simp [e1,ag,b,m,k,e,List.filter_cons,a,a9,j]
section
variable {α:Type} {P:List α->Prop} {us:List α}
theorem bnd0 (h:us.length=0) (f:P []):P us:=by
 cases us with
 | nil=>exact f
 | cons a us=>cases h
theorem yI {n:Nat} (h:us.length=n+1) (f:∀ a r,r.length=n->P (a :: r)):P us:=by
 cases us with
 | nil=>cases h
 | cons a us=>exact f a us (Nat.succ.inj h)
theorem bnd1 (h:us.length=1) (f:∀ a,P [a]):P us:=yI h fun a _ h=>bnd0 (P:=fun r=>P (a :: r)) h (f a)
theorem bnd2 (h:us.length=2) (f:∀ a b,P [a,b]):P us:=yI h fun a _ h=>bnd1 (P:=fun r=>P (a :: r)) h (f a)
theorem bnd3 (h:us.length=3) (f:∀ a b c,P [a,b,c]):P us:=yI h fun a _ h=>bnd2 (P:=fun r=>P (a :: r)) h (f a)
theorem bnd4 (h:us.length=4) (f:∀ a b c d,P [a,b,c,d]):P us:=yI h fun a _ h=>bnd3 (P:=fun r=>P (a :: r)) h (f a)
end
theorem hb1 {x:Str} {st:Stmt} {b:Str} (f:∀ (kV doc pm:Value) (an:Option Addr) (a ct a0:Value),bindArgs (PySem.W.fnOf x x (aQ st) (aL st) (ac st) .none kV doc pm an a ct) ⟨[a0],[]⟩=pure ([b].zip [a0])) (kV doc pm:Value) (an:Option Addr) (a ct:Value) (us:List Value) (c:us.length=[b].length):bindArgs (PySem.W.fnOf x x (aQ st) (aL st) (ac st) .none kV doc pm an a ct) ⟨us,[]⟩=pure ([b].zip us) :=
 bnd1 (P:=fun us=>bindArgs (PySem.W.fnOf x x (aQ st) (aL st) (ac st) .none kV doc pm an a ct) ⟨us,[]⟩=pure ([b].zip us)) c (f kV doc pm an a ct)
theorem hb2 {x:Str} {st:Stmt} {b c:Str} (f:∀ (kV doc pm:Value) (an:Option Addr) (a ct a0 a1:Value),bindArgs (PySem.W.fnOf x x (aQ st) (aL st) (ac st) .none kV doc pm an a ct) ⟨[a0,a1],[]⟩=pure ([b,c].zip [a0,a1])) (kV doc pm:Value) (an:Option Addr) (a ct:Value) (us:List Value) (d:us.length=[b,c].length):bindArgs (PySem.W.fnOf x x (aQ st) (aL st) (ac st) .none kV doc pm an a ct) ⟨us,[]⟩=pure ([b,c].zip us) :=
 bnd2 (P:=fun us=>bindArgs (PySem.W.fnOf x x (aQ st) (aL st) (ac st) .none kV doc pm an a ct) ⟨us,[]⟩=pure ([b,c].zip us)) d (f kV doc pm an a ct)
theorem hb3 {x:Str} {st:Stmt} {b c p2:Str} (f:∀ (kV doc pm:Value) (an:Option Addr) (a ct a0 a1 a2:Value),bindArgs (PySem.W.fnOf x x (aQ st) (aL st) (ac st) .none kV doc pm an a ct) ⟨[a0,a1,a2],[]⟩=pure ([b,c,p2].zip [a0,a1,a2])) (kV doc pm:Value) (an:Option Addr) (a ct:Value) (us:List Value) (d:us.length=[b,c,p2].length):bindArgs (PySem.W.fnOf x x (aQ st) (aL st) (ac st) .none kV doc pm an a ct) ⟨us,[]⟩=pure ([b,c,p2].zip us) :=
 bnd3 (P:=fun us=>bindArgs (PySem.W.fnOf x x (aQ st) (aL st) (ac st) .none kV doc pm an a ct) ⟨us,[]⟩=pure ([b,c,p2].zip us)) d (f kV doc pm an a ct)
theorem hb4 {x:Str} {st:Stmt} {c d p2 b:Str} (f:∀ (kV doc pm:Value) (an:Option Addr) (a ct a0 a1 a2 e:Value),bindArgs (PySem.W.fnOf x x (aQ st) (aL st) (ac st) .none kV doc pm an a ct) ⟨[a0,a1,a2,e],[]⟩=pure ([c,d,p2,b].zip [a0,a1,a2,e])) (kV doc pm:Value) (an:Option Addr) (a ct:Value) (us:List Value) (g:us.length=[c,d,p2,b].length):bindArgs (PySem.W.fnOf x x (aQ st) (aL st) (ac st) .none kV doc pm an a ct) ⟨us,[]⟩=pure ([c,d,p2,b].zip us) :=
 bnd4 (P:=fun us=>bindArgs (PySem.W.fnOf x x (aQ st) (aL st) (ac st) .none kV doc pm an a ct) ⟨us,[]⟩=pure ([c,d,p2,b].zip us)) g (f kV doc pm an a ct)
end Bn
end
section
namespace L3
open PySem L2
def tgN:Expr->List Str
 | .Name x _=>[x]
 | .Tuple [.Name x _,.Name y _] _ _=>[x,y]
 | .Tuple [.Name x _,.Name y _,.Name z _] _ _=>[x,y,z]
 | _=>[]
def pL (tg:Expr) (N:List Str) (ix:List (Option Nat)):List Str:=tgN tg ++ ix.filterMap fun o=>o.bind fun i=>N[i]?
def ndB:List Str->Bool
 | []=>true
 | x :: xs=>!(xs.any fun y=>decide (y=x)) && ndB xs
theorem sB:∀ {xs:List Str},ndB xs=true->xs.Nodup
 | [],_=>.nil
 | x :: xs,h=>by
  simp only [ndB,Bool.and_eq_true,Bool.not_eq_true',List.any_eq_false,decide_eq_true_eq] at h
  exact List.nodup_cons.mpr ⟨fun m=>h.1 x m rfl,sB h.2⟩
section
variable {X:Cx} {G0:Gm} {W0:D->Sto->Prop} {pos:Pos}
theorem vd (e:X.calm=true) (hi:RI X G0 W0 tg iter im) (d:∀ s H C fp,PTs (aR X (pL tg X.N ix) scope s H C fp) ifs (tT X.K (bq ix) noX cm)) (he:∀ s H C fp,RE (aR X (pL tg X.N ix) scope s H C fp) (bq ix) noX elt em) (g:ge scope X.N X.env.scope (pL tg X.N ix) ix=true) (c:Inj ix) (f:∀ x,foldedSetIterable iter X.env x=pure x) (b:∃ a,Bnd X.K (bq ix).pr a bnd/\∀ s H C fp,PG (aR X (pL tg X.N ix) scope s H C fp) tg a):RE X G0 W0 (.ListComp elt [⟨tg,iter,ifs,0⟩] scope pos) (dl im bnd cm em ix) :=
 xH _ ix e hi d he g c f b
theorem pD {i:Nat} (e:X.N.Nodup) (m:X.N[i]?=some y) (j:Loc X.env.scope y) (g:X.calm=true) (hi:RI X G0 W0 tg iter im) (h:∀ s H C fp,PTs (aR X (pL tg X.N ix) scope s H C fp) ifs (tT X.K (bq ix) noX cm)) (he:∀ s H C fp,RE (aR X (pL tg X.N ix) scope s H C fp) (bq ix) noX elt em) (l:ge scope X.N X.env.scope (pL tg X.N ix) ix=true) (d:Inj ix) (c:swapsWith (.ListComp elt [⟨tg,iter,ifs,0⟩] scope pos) (some (.Name y py)) spos.line X.env=pure true) (hf:X.fn y=true\/X.env.scope.names.lookup y=some .local) (f:∀ x,foldedSetIterable iter X.env x=pure x) (k:G0.pr i=false) (b:∃ a,Bnd X.K (bq ix).pr a bnd/\∀ s H C fp,PG (aR X (pL tg X.N ix) scope s H C fp) tg a):RS X G0 W0 (.Assign [.Name y py] (.ListComp elt [⟨tg,iter,ifs,0⟩] scope pos) spos) (bb i (dl im bnd cm em ix)) :=
 qM e m j _ ix g hi h he l d c hf f k b
theorem xG (d:Gl X tn) (j:X.mg tn=some (.ref C)) (g:IsX X.K (.ref C) cs) (b:(tn == ("__debug__":Str))=false) (k:Gl X "isinstance") (hm:X.mg "isinstance"=none) (i:RE X G0 W0 a ma) (f:starEach [a,.Name tn pT] X.env=(false,eval a X.env) :: starEach [.Name tn pT] X.env) (e:starEach [.Name tn pT] X.env=(false,eval (.Name tn pT) X.env) :: starEach [] X.env) (c:(backTo pos (starEach [.Name tn pT] X.env)).any (·.1)=false):RE X G0 W0 (.Call (.Name "isinstance" p) [a,.Name tn pT] [] pos) (mUn (jd cs) ma) :=
 se (t:=V.ref C) (fun _ h=>h) g k hm (sy d j rfl b) i f e c
end
section
variable {X:Cx} {G0:Gm} {W0:D->Sto->Prop} {p q r:Pos} {m:EM} {e e1:Expr} {es:List Expr} {t:M3 Bool} {sm:SM}
theorem gN {i:Nat} (h:RE X G0 W0 (.Name x p) (af i)):RE X G0 W0 (.Name x p) (af i):=h
theorem gG (h:RE X G0 W0 (.Name x p) (mC d)):RE X G0 W0 (.Name x p) (mC d):=h
theorem gK {k:Nat} (h:RE X G0 W0 (.Constant c k p) m):RE X G0 W0 (.Constant c k p) m:=h
theorem gB (op:Operator) (h:RE X G0 W0 (.BinOp e op e1 p) m):RE X G0 W0 (.BinOp e op e1 p) m:=h
theorem gU (op:UnaryOp) (h:RE X G0 W0 (.UnaryOp op e p) m):RE X G0 W0 (.UnaryOp op e p) m:=h
theorem gP (os:List CmpOp) (h:RE X G0 W0 (.Compare e os es p) m):RE X G0 W0 (.Compare e os es p) m:=h
theorem gO (h:RE X G0 W0 (.BoolOp op es p) m):RE X G0 W0 (.BoolOp op es p) m:=h
theorem gS (h:RE X G0 W0 (.Subscript e e1 p) m):RE X G0 W0 (.Subscript e e1 p) m:=h
theorem gL (h:RE X G0 W0 (.Subscript e (.Slice a b c p) q) m):RE X G0 W0 (.Subscript e (.Slice a b c p) q) m:=h
theorem gI (x:Str) (h:RE X G0 W0 (.Call (.Name s p) [e,.Name x q] [] r) m):RE X G0 W0 (.Call (.Name s p) [e,.Name x q] [] r) m:=h
theorem gC (x:Str) (h:RE X G0 W0 (.Call (.Name x p) es ks q) m):RE X G0 W0 (.Call (.Name x p) es ks q) m:=h
theorem gD (h:RE X G0 W0 (.Call (.Name x p) es ks q) m):RE X G0 W0 (.Call (.Name x p) es ks q) m:=h
theorem gM (x:Str) (h:RE X G0 W0 (.Call (.Attribute e x p) es ks q) m):RE X G0 W0 (.Call (.Attribute e x p) es ks q) m:=h
theorem gE (h:RE X G0 W0 e m):RE X G0 W0 e m:=h
theorem gA (h:RA X G0 W0 es ms):RA X G0 W0 es ms:=h
theorem gQ (os:List CmpOp) (h:RT X G0 W0 (.Compare e os es p) t):RT X G0 W0 (.Compare e os es p) t:=h
theorem gW (h:RT X G0 W0 (.BoolOp op es p) t):RT X G0 W0 (.BoolOp op es p) t:=h
theorem gV (h:RT X G0 W0 (.UnaryOp .Not e p) t):RT X G0 W0 (.UnaryOp .Not e p) t:=h
theorem gT (h:RT X G0 W0 e t):RT X G0 W0 e t:=h
theorem gR (h:RS X G0 W0 (.Return o p) sm):RS X G0 W0 (.Return o p) sm:=h
theorem gF (h:RS X G0 W0 (.If e ss tt p) sm):RS X G0 W0 (.If e ss tt p) sm:=h
theorem gX (h:RS X G0 W0 (.Assign [.Name x p] e q) sm):RS X G0 W0 (.Assign [.Name x p] e q) sm:=h
theorem gZ (h:RS X G0 W0 st sm):RS X G0 W0 st sm:=h
theorem gY (h:RSs X G0 W0 ss sm):RSs X G0 W0 ss sm:=h
end
end L3
end
section
namespace Bn
open PySem L2 L3
local macro_rules | `(tactic| infer_instance)=>`(tactic| first | with_reducible apply aq | with_reducible exact i_c | with_reducible apply qc | with_reducible apply we | with_reducible apply ji | with_reducible exact aw | with_reducible apply ah | with_reducible apply A6 | with_reducible apply zb | with_reducible apply zd | with_reducible apply wj | with_reducible apply lX | with_reducible exact i_nilS | with_reducible apply oJ | with_reducible apply iB | with_reducible apply i_mNot | with_reducible apply i_sl | with_reducible exact yt | with_reducible apply yr | with_reducible apply zc | with_reducible apply i_sub | with_reducible apply i_imSeq | with_reducible apply ky | with_reducible apply lh | with_reducible apply wg)
local macro_rules | `(tactic| eq_refl)=>`(tactic| first | exact rfl | exact Nat.le_of_ble_eq_true rfl)
local macro_rules | `(tactic| nofun) => `(tactic| repeat' (first | infer_instance | eq_refl))
local macro_rules | `(tactic| exists $es,*) => `(tactic| repeat' (first | infer_instance | (first $[| exact $es]*) | eq_refl))
local macro_rules | `(tactic| nomatch [$fs,*]) => `(tactic| repeat' (first | infer_instance | (first $[| with_reducible apply bf $fs]*) | eq_refl))
local macro_rules | `(tactic| nomatch [$fs,*], [$es,*]) => `(tactic| repeat' (first | infer_instance | (first $[| with_reducible apply bf $fs]*) | (first $[| exact $es]*) | eq_refl))
section
variable {X:Cx} {G0:Gm} {W0:L3.D->Sto->Prop} {pos:Pos}
end
section
variable {P:Program} {w:World} {K:FG} {mg:Str->Option Value} {base:Heap}
local macro_rules | `(tactic| ac_rfl) => `(tactic| exact ⟨rfl,rfl,rfl,by decide +kernel,rfl,by decide +kernel,by decide +kernel⟩)
set_option hygiene false
local macro_rules | `(tactic| and_intros)=>`(tactic| repeat' (first
 | ((with_reducible apply gA);first | refine xJ ?_ ?_ rfl | refine Ag)
 | ((with_reducible apply gN);first | refine oh _ rfl (Or.inl rfl) (by decide) (by decide) | refine oh _ rfl (Or.inr (Or.inl rfl)) (by decide) (by decide))
 | ((with_reducible apply gG);refine pF rfl (by assumption) (by decide))
 | ((with_reducible apply gK);first | refine Ae | refine Ac | refine z9 | refine re_bl)
 | ((with_reducible apply gL);refine u8 ?_ ?_ ?_)
 | ((with_reducible apply gS);refine re_ix (A4 hr.hu) AJ ?_ ?_ (fun _ _=>rfl))
 | ((with_reducible apply gB .Add);refine jF xW AM ?_ ?_)
 | ((with_reducible apply gB .Mult);refine jF AF x4 ?_ ?_)
 | ((with_reducible apply gB .Sub);refine jF AC xY ?_ ?_)
 | ((with_reducible apply gB .Mod);refine jF AG x5 ?_ ?_)
 | ((with_reducible apply gB .FloorDiv);refine jF vB ye ?_ ?_)
 | ((with_reducible apply gB .Pow);refine jF AD xZ ?_ ?_)
 | ((with_reducible apply gQ [.Eq]);refine qL (vC hr.units) vE ?_ ?_ (jH _))
 | ((with_reducible apply gQ [.NotEq]);refine qL (AE hr.units) AK ?_ ?_ (jH _))
 | ((with_reducible apply gQ [.Lt]);refine qL yZ y6 ?_ ?_ (jH _))
 | ((with_reducible apply gW);refine rt_w ?_)
 | ((with_reducible apply gV);refine zW ?_)
 | ((with_reducible apply gT);refine zV ?_ (fun _=>rfl))
 | ((with_reducible apply gP [.Eq]);refine qP (vC hr.units) vE ?_ ?_ (jH _))
 | ((with_reducible apply gP [.LtE,.LtE]);refine ve sA y7 sA y7 ?_ ?_ ?_ (fun h1 h2 h3=>vz sA sA h1 h2 h3))
 | ((with_reducible apply gP [.Lt]);refine qP yZ y6 ?_ ?_ (jH _))
 | ((with_reducible apply gP [.Is]);refine qP AH AL ?_ ?_ (jH _))
 | ((with_reducible apply gO);first | refine Af ?_ ?_ | refine Aa ?_)
 | ((with_reducible apply gU .Not);refine Ab ?_)
 | ((with_reducible apply gU .USub);refine re_un zr zt ?_)
 | ((with_reducible apply gI "tuple");refine qO ml rfl B.isinstance (lf (v:=V.ty "tuple") rfl B.tuple sX rfl (by decide) (by decide)) ?_ rfl rfl rfl)
 | ((with_reducible apply gI "int");refine qO oY rfl B.isinstance (lf (v:=V.ty "int") rfl B.int b_int rfl (by decide) (by decide)) ?_ rfl rfl rfl)
 | ((with_reducible apply gI "bool");refine qO mU rfl B.isinstance (lf (v:=V.ty "bool") rfl B.bool Bp rfl (by decide) (by decide)) ?_ rfl rfl rfl)
 | ((with_reducible apply gI "ValueError");refine se (t:=V.ty "ValueError") (fun _ h=>h) T_ValueError rfl B.isinstance (lf rfl Z_ValueError pg rfl (by decide) (by decide)) ?_ rfl rfl rfl)
 | ((with_reducible apply gC "isinstance");refine xG rfl (by assumption) (by assumption) (by decide) rfl B.isinstance ?_ rfl rfl rfl)
 | ((with_reducible apply gC "len");refine eS oX Bh rfl B.len b_len ?_ (by decide) (by decide) rfl rfl)
 | ((with_reducible apply gC "tuple");refine nv mT Bf rfl B.tuple sX ?_ (by decide) (by decide) rfl rfl)
 | ((with_reducible apply gC "all");refine eS (wF rfl) Bi rfl B.all b_all ?_ (by decide) (by decide) rfl rfl)
 | ((with_reducible apply gC "abs");refine eS wG Bj rfl B.abs b_abs ?_ (by decide) (by decide) rfl rfl)
 | ((with_reducible apply gC "divmod");refine eS qu um rfl B.divmod wI ?_ (by decide) (by decide) rfl rfl)
 | ((with_reducible apply gC "min");refine eS (ut rfl) yE rfl B.min b_min ?_ (by decide) (by decide) rfl rfl)
 | ((with_reducible apply gC "max");refine eS (uu rfl) yF rfl B.max b_max ?_ (by decide) (by decide) rfl rfl)
 | ((with_reducible apply gC "list");refine nv oW Bg rfl B.list Bo ?_ (by decide) (by decide) rfl rfl)
 | ((with_reducible apply gD);first | refine vf (by assumption) (hr.mono (by first | decide | omega)) pa ?_ rfl (by decide) rfl rfl | refine xI (by assumption) (hr.mono (by first | decide | omega)) ?_ rfl (by decide) rfl rfl | refine vg (by assumption) (hr.mono (by first | decide | omega)) hD ?_ rfl (by decide) rfl rfl)
 | ((with_reducible apply gM "append");refine r0 (ok:=isL) PySem.F.plainAttrs_list PySem.F.slot_list_append PySem.F.type_list_append tY AT oH (ol rfl (Or.inl rfl) (by decide) (by decide)) ?_ rfl rfl rfl rfl rfl)
 | ((with_reducible apply gM "extend");refine r0 (ok:=isL) PySem.F.plainAttrs_list PySem.F.slot_list_extend PySem.F.type_list_extend tW AS oH (ol rfl (Or.inl rfl) (by decide) (by decide)) ?_ rfl rfl rfl rfl rfl)
 | ((with_reducible apply gM "count");refine r9 (ok:=isL) PySem.F.plainAttrs_list PySem.F.slot_list_count PySem.F.type_list_count tX uo oH ?_ ?_ rfl rfl rfl rfl rfl)
 | ((with_reducible apply gM "index");refine r9 (ok:=isL) PySem.F.plainAttrs_list PySem.F.slot_list_index PySem.F.type_list_index vL wD oH ?_ ?_ rfl rfl rfl rfl rfl)
 | ((with_reducible apply gH);first | refine oh _ rfl (Or.inl rfl) (by decide) (by decide) | refine oh _ rfl (Or.inr (Or.inl rfl)) (by decide) (by decide) | refine pF rfl (by assumption) (by decide))
 | ((with_reducible apply gE);first | refine z8 ?_ | refine Ad ?_ | refine vd rfl ?_ (fun s H C fp=>?_) (fun s H C fp=>?_) (by rfl) (wc (by decide)) (fun _=>rfl) ⟨_,jw rfl,fun s H C fp=>lc (sB rfl) rfl (Or.inl rfl) (Or.inr rfl)⟩ | refine u9)
 | ((with_reducible apply gY);first | refine tK | refine xx ?_ | refine uX ?_ ?_ | refine xy)
 | ((with_reducible apply gR);refine zZ _ (fun i hi=>by rw [hp] ;exact xP (by simpa using hi)) ?_)
 | ((with_reducible apply gF);refine rs_if ?_ ?_ ?_)
 | ((with_reducible apply gX);first | refine pD nd rfl (Or.inl rfl) rfl ?_ (fun s H C fp=>?_) (fun s H C fp=>?_) (by rfl) (wc (by decide)) rfl (Or.inl rfl) (fun _=>rfl) (by rw [hp] ;rfl) ⟨_,sU (ke (jw rfl) (ke (jw rfl) qx)),fun s H C fp=>vw (n:=2) rfl (lH (lc (sB rfl) rfl (Or.inl rfl) (Or.inr rfl)) (lH (lc (sB rfl) rfl (Or.inl rfl) (Or.inr rfl)) su rfl) rfl) rfl rfl⟩ | refine u3 _ nd rfl (Or.inl rfl) ?_ rfl (Or.inl rfl) (by rw [hp] ;rfl) | refine u3 _ nd rfl (Or.inr rfl) ?_ rfl (Or.inl rfl) (by rw [hp] ;rfl))
 | ((with_reducible apply gZ);first | refine xz ?_ rfl | refine z4 PassesOwn.never rfl ?_ ?_ ?_ (fun _=>rfl) | refine z5 ?_ ?_ rfl rfl rfl | refine u5 (by assumption) (by assumption) mk rfl rfl (by decide) ?_ rfl | refine zY (xr hr.hu) AR (ol rfl (Or.inl rfl) (by decide) (by decide)) ?_ ?_ (fun _=>rfl) rfl rfl rfl | refine uZ PassesOwn.never ?_ ?_)
 | refine rZ _ nd rfl (Or.inl rfl) (Or.inl rfl) (by rw [hp] ;rfl)
 | refine xD rfl B.range ?_ rfl
 | refine u7 ?_ ?_ rfl
 | refine u6
 | refine z6 ?_
 | refine xF
 | refine z7 rfl ?_ rfl rfl
 | refine rZ _ nd rfl (Or.inr rfl) (Or.inl rfl) (by rw [hp] ;rfl)
 | refine xC rfl B.range ?_ rfl rfl
 | refine zS ?_
 | refine rw_or ?_ ?_
 | refine xB
 | refine xA ?_
 | refine xE rfl B.enumerate ?_ rfl
 | refine zX rfl rfl rfl nd rfl (by decide) (by assumption) (by assumption) rfl (.inl rfl) (by rw [hp] ;rfl) (fun E pn W pa=>?_) fun ae ob cls hD=>have hr:=hr.mark (some (.ref ae));?_
 | refine RS.one ?_
 | refine uY ?_
 | refine tL ?_ ?_))
local macro_rules | `(tactic| specialize $q) => `(tactic| exact bv D $q rfl rfl (by first | exact hb1 fun _ _ _ _ _ _ _=>rfl | exact hb2 fun _ _ _ _ _ _ _ _=>rfl | exact hb3 fun _ _ _ _ _ _ _ _ _=>rfl) fun cdv A outer s H E f G hr hp=>have nd:=($q).nd;by and_intros)
set_option hygiene true
def rf:SM:=(bc 1 (hU (mUn (jR "int") (af 0)) (rl (mUn (jR "bool") (af 0)))))
def fF:Fn:=fnM [false] 1 rf
theorem sc_is_whole:FnScope ["thing"] ["thing"] (ac eY):=by ac_rfl
theorem o5 (B:Bl mg) (D:Def K mg "is_whole" eY):bh P w K mg base "is_whole" 1 ["thing"] fF :=by specialize sc_is_whole
def lT:SM:=(bc 1 (hU (mUn (jR "tuple") (af 0)) (hU (ao eqX (aY jO (aa (af 0) aj)) (mC (.int 2))) (hU (aK fF (aa (ao bx (af 0) (mC (.int 0))) aj)) (aK fF (aa (ao bx (af 0) (mC (.int 1))) aj))))))
def bz:Fn:=fnM [false] 1 lT
theorem sc_is_point:FnScope ["thing"] ["thing"] (ac fc):=by ac_rfl
theorem o8 (B:Bl mg) (D:Def K mg "is_point" fc) (a:bh P w K mg base "is_whole" 1 ["thing"] fF):bh P w K mg base "is_point" 2 ["thing"] bz :=by specialize sc_is_point
def bC:EM:=(aK bz (aa (af 0) aj))
def dg:EM:=(dl (ig (af 0)) (aM 0) kc bC [none])
def ja:SM:=(bc 1 (hU (fu leI leI (mC (.int 1)) (aY jO (aa (af 0) aj)) (mC (.int (24)))) (aY yN (aa dg aj))))
def cN:Fn:=fnM [false] 1 ja
theorem sc_are_points:FnScope ["things"] ["things"] (ac dB):=by ac_rfl
theorem mx (B:Bl mg) (D:Def K mg "are_points" dB) (c:bh P w K mg base "is_point" 2 ["thing"] bz) {a:Tok} (b:mg "MOST_POINTS"=some (.int (24) a)):bh P w K mg base "are_points" 3 ["things"] cN :=by specialize sc_are_points
def bH:EM:=(ao ltI (ao bx (ao bx (af 1) (af 0)) (mC (.int 0))) (ao bx (ao bx (af 1) (ao ce (af 0) (mC (.int 1)))) (mC (.int 0))))
def en:EM:=(dl (cj eR (aa (ao fO (aY jO (aa (af 0) aj)) (mC (.int 1))) aj)) (aM 0) kc bH [none,some 0])
def fZ:SM:=(bc 1 (aY yN (aa en aj)))
def cK:Fn:=fnM [false] 1 fZ
theorem sc_has_rising_x:FnScope ["points"] ["points"] (ac cw):=by ac_rfl
theorem j8 (B:Bl mg) (D:Def K mg "has_rising_x" cw):bh P w K mg base "has_rising_x" 1 ["points"] cK :=by specialize sc_has_rising_x
def AU:SM:=(aJ (bb 3 (ao d8 (ao fO (ao bx (af 1) (mC (.int 0))) (ao bx (af 0) (mC (.int 0)))) (ao fO (ao bx (af 2) (mC (.int 1))) (ao bx (af 0) (mC (.int 1)))))) (bc 3 (ao fO (af 3) (ao d8 (ao fO (ao bx (af 1) (mC (.int 1))) (ao bx (af 0) (mC (.int 1)))) (ao fO (ao bx (af 2) (mC (.int 0))) (ao bx (af 0) (mC (.int 0))))))))
def rW:Fn:=fnM [false,false,false] 4 AU
theorem sc_bend:FnScope ["first","second","third","run"] ["first","second","third"] (ac oe):=by ac_rfl
theorem wH (B:Bl mg) (D:Def K mg "bend" oe):bh P w K mg base "bend" 1 ["first","second","third"] rW :=by specialize sc_bend
def pW:EM:=(dS (aa (af 1) (aa (af 2) (aa (af 0) aj))))
def pV:EM:=(dl (cj tM (aa (ao ce (af 3) (mC (.int 1))) (aa (af 0) aj))) (aM 0) kc pW [none,some 2,some 3])
def pY:SM:=(aH (rm isL Ba 1 (aa pV aj)))
def pX:SM:=(eK (cj tM (aa (ao ce (af 2) (mC (.int 1))) (aa (af 0) aj))) (aM 3) pY)
def vO:SM:=(aJ (bb 1 (iA aj)) (aJ (eK (cj eR (aa (af 0) aj)) (aM 2) pX) (bc 1 (af 1))))
def mD:Fn:=fnM [false] 4 vO
theorem sc_threes:FnScope ["many","found","i","j"] ["many"] (ac iM):=by ac_rfl
theorem rM (B:Bl mg) (D:Def K mg "threes" iM):bh P w K mg base "threes" 1 ["many"] mD :=by specialize sc_threes
def iy:EM:=(ao bx (af 1) (af 0))
def iw:EM:=(dl (ig (af 1)) (aM 0) kc iy [none,some 0])
def iz:SM:=(aJ (bb 2 (aY tv (aa iw aj))) (sIf (cB (ao eqX (aK rW (aa (ao bx (af 2) (mC (.int 0))) (aa (ao bx (af 2) (mC (.int 1))) (aa (ao bx (af 2) (mC (.int 2))) aj)))) (mC (.int 0)))) (bc 1 (af 2)) fV))
def kJ:SM:=(aJ (eK (ig (aK mD (aa (aY jO (aa (af 0) aj)) aj))) (aM 1) iz) (bc 1 (mC .non)))
def dj:Fn:=fnM [false] 3 kJ
theorem sc_first_on_line:FnScope ["points","three","found"] ["points"] (ac b5):=by ac_rfl
theorem js (B:Bl mg) (D:Def K mg "first_on_line" b5) (b:bh P w K mg base "bend" 1 ["first","second","third"] rW) (a:bh P w K mg base "threes" 1 ["many"] mD):bh P w K mg base "first_on_line" 2 ["points"] dj :=by specialize sc_first_on_line
def ft:SM:=(aJ (sIf (cOr (jv (cB (mUn (jR "tuple") (af 0)))) (jv (cB (aK cN (aa (af 0) aj))))) (bc 1 (mC (.bl false))) fV) (bc 1 (hU (aK cK (aa (af 0) aj)) (ao isN (aK dj (aa (af 0) aj)) (mC .non)))))
def cf:Fn:=fnM [false] 1 ft
theorem sc_is_sheet:FnScope ["thing"] ["thing"] (ac eZ):=by ac_rfl
theorem o6 (B:Bl mg) (D:Def K mg "is_sheet" eZ) (c:bh P w K mg base "are_points" 3 ["things"] cN) (a:bh P w K mg base "first_on_line" 2 ["points"] dj) (b:bh P w K mg base "has_rising_x" 1 ["points"] cK):bh P w K mg base "is_sheet" 4 ["thing"] cf :=by specialize sc_is_sheet
def fL:SM:=(sIf (jv (cB (aK cf (aa (af 0) aj)))) (lB "NoSheet" (aa (mC (.str "this is no sheet")) aj)) fV)
def ai:Fn:=fnM [false] 1 fL
theorem sc_check_sheet:FnScope ["thing"] ["thing"] (ac c5):=by ac_rfl
theorem ju (B:Bl mg) (D:Def K mg "check_sheet" c5) (b:bh P w K mg base "is_sheet" 4 ["thing"] cf) {a:Addr} (d:XName K "NoSheet" a) (c:ECls K mg "NoSheet" a):aD P w K mg base "check_sheet" 5 ["thing"] ai :=
 aG (k:=4) D sc_check_sheet rfl rfl (hb1 fun _ _ _ _ _ _ _=>rfl) fun cdv A outer s H E f G W hr hp pa mk =>
  have nd:=sc_check_sheet.nd;by and_intros
def vN:SM:=(aJ (aH (aC ai (aa (af 0) aj))) aX)
def jz:Fn:=fnM [false,false,false,false] 5 vN
theorem sc_turn:FnScope ["sheet","i","j","k","three"] ["sheet","i","j","k"] (ac n9):=by ac_rfl
theorem rL (B:Bl mg) (D:Def K mg "turn" n9) (a:aD P w K mg base "check_sheet" 5 ["thing"] ai):aD P w K mg base "turn" 6 ["sheet","i","j","k"] jz :=
 aG (k:=5) D sc_turn rfl rfl (hb4 fun _ _ _ _ _ _ _ _ _ _=>rfl) fun cdv A outer s H E f G W hr hp pa mk =>
  have nd:=sc_turn.nd;by and_intros
def mO:SM:=(aJ (aH (aC ai (aa (af 0) aj))) aX)
def ay:Fn:=fnM [false] 3 mO
theorem sc_all_turns:FnScope ["sheet","turns","three"] ["sheet"] (ac eh):=by ac_rfl
theorem k7 (B:Bl mg) (D:Def K mg "all_turns" eh) (a:aD P w K mg base "check_sheet" 5 ["thing"] ai):aD P w K mg base "all_turns" 6 ["sheet"] ay :=
 aG (k:=5) D sc_all_turns rfl rfl (hb1 fun _ _ _ _ _ _ _=>rfl) fun cdv A outer s H E f G W hr hp pa mk =>
  have nd:=sc_all_turns.nd;by and_intros
def kE:SM:=(aJ (aH (aC ai (aa (af 0) aj))) aX)
def b6:Fn:=fnM [false] 1 kE
theorem sc_turned_over:FnScope ["sheet"] ["sheet"] (ac cU):=by ac_rfl
theorem jn (B:Bl mg) (D:Def K mg "turned_over" cU) (a:aD P w K mg base "check_sheet" 5 ["thing"] ai):aD P w K mg base "turned_over" 6 ["sheet"] b6 :=
 aG (k:=5) D sc_turned_over rfl rfl (hb1 fun _ _ _ _ _ _ _=>rfl) fun cdv A outer s H E f G W hr hp pa mk =>
  have nd:=sc_turned_over.nd;by and_intros
def kI:SM:=(aJ (aH (aC ai (aa (af 0) aj))) aX)
def b9:Fn:=fnM [false] 1 kI
theorem sc_from_behind:FnScope ["sheet"] ["sheet"] (ac cZ):=by ac_rfl
theorem jr (B:Bl mg) (D:Def K mg "from_behind" cZ) (a:aD P w K mg base "check_sheet" 5 ["thing"] ai):aD P w K mg base "from_behind" 6 ["sheet"] b9 :=
 aG (k:=5) D sc_from_behind rfl rfl (hb1 fun _ _ _ _ _ _ _=>rfl) fun cdv A outer s H E f G W hr hp pa mk =>
  have nd:=sc_from_behind.nd;by and_intros
def pZ:SM:=(aJ (aH (aC ai (aa (af 0) aj))) aX)
def eD:Fn:=fnM [false,false] 2 pZ
theorem sc_sheared:FnScope ["sheet","by"] ["sheet","by"] (ac gp):=by ac_rfl
theorem mW (B:Bl mg) (D:Def K mg "sheared" gp) (a:aD P w K mg base "check_sheet" 5 ["thing"] ai):aD P w K mg base "sheared" 6 ["sheet","by"] eD :=
 aG (k:=5) D sc_sheared rfl rfl (hb2 fun _ _ _ _ _ _ _ _=>rfl) fun cdv A outer s H E f G W hr hp pa mk =>
  have nd:=sc_sheared.nd;by and_intros
def pU:SM:=(aJ (aH (aC ai (aa (af 0) aj))) aX)
def eC:Fn:=fnM [false,false] 2 pU
theorem sc_without:FnScope ["sheet","place"] ["sheet","place"] (ac gl):=by ac_rfl
theorem mV (B:Bl mg) (D:Def K mg "without" gl) (a:aD P w K mg base "check_sheet" 5 ["thing"] ai):aD P w K mg base "without" 6 ["sheet","place"] eC :=
 aG (k:=5) D sc_without rfl rfl (hb2 fun _ _ _ _ _ _ _ _=>rfl) fun cdv A outer s H E f G W hr hp pa mk =>
  have nd:=sc_without.nd;by and_intros
def t2:SM:=(aJ (bb 3 (aC ay (aa (af 1) aj))) aX)
def dN:Fn:=fnM [false,false,false] 4 t2
theorem sc_bends:FnScope ["thing","sheet","way","turns"] ["thing","sheet","way"] (ac la):=by ac_rfl
theorem qw (B:Bl mg) (D:Def K mg "bends" la) (a:aD P w K mg base "all_turns" 6 ["sheet"] ay):aD P w K mg base "bends" 7 ["thing","sheet","way"] dN :=
 aG (k:=6) D sc_bends rfl rfl (hb3 fun _ _ _ _ _ _ _ _ _=>rfl) fun cdv A outer s H E f G W hr hp pa mk =>
  have nd:=sc_bends.nd;by and_intros
def rg:SM:=(bc 2 (aC dN (aa (af 0) (aa (af 1) (aa (mC (.int (1))) aj)))))
def fH:Fn:=fnM [false,false] 2 rg
theorem sc_is_cup:FnScope ["thing","sheet"] ["thing","sheet"] (ac iT):=by ac_rfl
theorem o9 (B:Bl mg) (D:Def K mg "is_cup" iT) (b:aD P w K mg base "bends" 7 ["thing","sheet","way"] dN) {a:Tok} (c:mg "UP"=some (.int (1) a)):aD P w K mg base "is_cup" 8 ["thing","sheet"] fH :=
 aG (k:=7) D sc_is_cup rfl rfl (hb2 fun _ _ _ _ _ _ _ _=>rfl) fun cdv A outer s H E f G W hr hp pa mk =>
  have nd:=sc_is_cup.nd;by and_intros
def rh:SM:=(bc 2 (aC dN (aa (af 0) (aa (af 1) (aa (mC (.int (-1))) aj)))))
def fI:Fn:=fnM [false,false] 2 rh
theorem sc_is_cap:FnScope ["thing","sheet"] ["thing","sheet"] (ac iU):=by ac_rfl
theorem pc (B:Bl mg) (D:Def K mg "is_cap" iU) (b:aD P w K mg base "bends" 7 ["thing","sheet","way"] dN) {a:Tok} (c:mg "DOWN"=some (.int (-1) a)):aD P w K mg base "is_cap" 8 ["thing","sheet"] fI :=
 aG (k:=7) D sc_is_cap rfl rfl (hb2 fun _ _ _ _ _ _ _ _=>rfl) fun cdv A outer s H E f G W hr hp pa mk =>
  have nd:=sc_is_cap.nd;by and_intros
def mI:SM:=(aJ (bb 2 (aC ay (aa (af 0) aj))) aX)
def bF:Fn:=fnM [false,false] 6 mI
theorem sc_row_table:FnScope ["sheet","way","turns","most","i","j"] ["sheet","way"] (ac d9):=by ac_rfl
theorem kX (B:Bl mg) (D:Def K mg "row_table" d9) (a:aD P w K mg base "all_turns" 6 ["sheet"] ay):aD P w K mg base "row_table" 7 ["sheet","way"] bF :=
 aG (k:=6) D sc_row_table rfl rfl (hb2 fun _ _ _ _ _ _ _ _=>rfl) fun cdv A outer s H E f G W hr hp pa mk =>
  have nd:=sc_row_table.nd;by and_intros
def mL:SM:=(bc 1 (aC bF (aa (af 0) (aa (mC (.int (1))) aj))))
def c6:Fn:=fnM [false] 1 mL
theorem sc_cup_table:FnScope ["sheet"] ["sheet"] (ac ee):=by ac_rfl
theorem k4 (B:Bl mg) (D:Def K mg "cup_table" ee) (a:aD P w K mg base "row_table" 7 ["sheet","way"] bF) {b:Tok} (c:mg "UP"=some (.int (1) b)):aD P w K mg base "cup_table" 8 ["sheet"] c6 :=
 aG (k:=7) D sc_cup_table rfl rfl (hb1 fun _ _ _ _ _ _ _=>rfl) fun cdv A outer s H E f G W hr hp pa mk =>
  have nd:=sc_cup_table.nd;by and_intros
def mM:SM:=(bc 1 (aC bF (aa (af 0) (aa (mC (.int (-1))) aj))))
def c8:Fn:=fnM [false] 1 mM
theorem sc_cap_table:FnScope ["sheet"] ["sheet"] (ac eg):=by ac_rfl
theorem k6 (B:Bl mg) (D:Def K mg "cap_table" eg) (a:aD P w K mg base "row_table" 7 ["sheet","way"] bF) {b:Tok} (c:mg "DOWN"=some (.int (-1) b)):aD P w K mg base "cap_table" 8 ["sheet"] c8 :=
 aG (k:=7) D sc_cap_table rfl rfl (hb1 fun _ _ _ _ _ _ _=>rfl) fun cdv A outer s H E f G W hr hp pa mk =>
  have nd:=sc_cap_table.nd;by and_intros
def mJ:SM:=aX
def bW:Fn:=fnM [false,false,false] 9 mJ
theorem sc_longest_row:FnScope ["turns","many","way","onward","length","row","i","j","left"] ["turns","many","way"] (ac cV):=by ac_rfl
theorem kY (B:Bl mg) (D:Def K mg "longest_row" cV):bh P w K mg base "longest_row" 1 ["turns","many","way"] bW :=by specialize sc_longest_row
def kG:SM:=(bc 1 (aK bW (aa (aC ay (aa (af 0) aj)) (aa (aY jO (aa (af 0) aj)) (aa (mC (.int (1))) aj)))))
def b7:Fn:=fnM [false] 1 kG
theorem sc_longest_cup:FnScope ["sheet"] ["sheet"] (ac cW):=by ac_rfl
theorem jp (B:Bl mg) (D:Def K mg "longest_cup" cW) (b:aD P w K mg base "all_turns" 6 ["sheet"] ay) (a:bh P w K mg base "longest_row" 1 ["turns","many","way"] bW) {c:Tok} (d:mg "UP"=some (.int (1) c)):aD P w K mg base "longest_cup" 7 ["sheet"] b7 :=
 aG (k:=6) D sc_longest_cup rfl rfl (hb1 fun _ _ _ _ _ _ _=>rfl) fun cdv A outer s H E f G W hr hp pa mk =>
  have nd:=sc_longest_cup.nd;by and_intros
def kH:SM:=(bc 1 (aK bW (aa (aC ay (aa (af 0) aj)) (aa (aY jO (aa (af 0) aj)) (aa (mC (.int (-1))) aj)))))
def b8:Fn:=fnM [false] 1 kH
theorem sc_longest_cap:FnScope ["sheet"] ["sheet"] (ac cX):=by ac_rfl
theorem jq (B:Bl mg) (D:Def K mg "longest_cap" cX) (b:aD P w K mg base "all_turns" 6 ["sheet"] ay) (a:bh P w K mg base "longest_row" 1 ["turns","many","way"] bW) {c:Tok} (d:mg "DOWN"=some (.int (-1) c)):aD P w K mg base "longest_cap" 7 ["sheet"] b8 :=
 aG (k:=6) D sc_longest_cap rfl rfl (hb1 fun _ _ _ _ _ _ _=>rfl) fun cdv A outer s H E f G W hr hp pa mk =>
  have nd:=sc_longest_cap.nd;by and_intros
def oA:SM:=(aJ (bb 3 (aC ay (aa (af 1) aj))) aX)
def bO:Fn:=fnM [false,false,false] 5 oA
theorem sc_is_paper:FnScope ["thing","sheet","way","turns","three"] ["thing","sheet","way"] (ac ff):=by ac_rfl
theorem mq (B:Bl mg) (D:Def K mg "is_paper" ff) (a:aD P w K mg base "all_turns" 6 ["sheet"] ay):aD P w K mg base "is_paper" 7 ["thing","sheet","way"] bO :=
 aG (k:=6) D sc_is_paper rfl rfl (hb3 fun _ _ _ _ _ _ _ _ _=>rfl) fun cdv A outer s H E f G W hr hp pa mk =>
  have nd:=sc_is_paper.nd;by and_intros
def jI:SM:=(bc 2 (aC bO (aa (af 0) (aa (af 1) (aa (mC (.int (1))) aj)))))
def bP:Fn:=fnM [false,false] 2 jI
theorem sc_is_cup_paper:FnScope ["thing","sheet"] ["thing","sheet"] (ac cr):=by ac_rfl
theorem iD (B:Bl mg) (D:Def K mg "is_cup_paper" cr) (a:aD P w K mg base "is_paper" 7 ["thing","sheet","way"] bO) {b:Tok} (c:mg "UP"=some (.int (1) b)):aD P w K mg base "is_cup_paper" 8 ["thing","sheet"] bP :=
 aG (k:=7) D sc_is_cup_paper rfl rfl (hb2 fun _ _ _ _ _ _ _ _=>rfl) fun cdv A outer s H E f G W hr hp pa mk =>
  have nd:=sc_is_cup_paper.nd;by and_intros
def jJ:SM:=(bc 2 (aC bO (aa (af 0) (aa (af 1) (aa (mC (.int (-1))) aj)))))
def bQ:Fn:=fnM [false,false] 2 jJ
theorem sc_is_cap_paper:FnScope ["thing","sheet"] ["thing","sheet"] (ac cu):=by ac_rfl
theorem iE (B:Bl mg) (D:Def K mg "is_cap_paper" cu) (b:aD P w K mg base "is_paper" 7 ["thing","sheet","way"] bO) {a:Tok} (c:mg "DOWN"=some (.int (-1) a)):aD P w K mg base "is_cap_paper" 8 ["thing","sheet"] bQ :=
 aG (k:=7) D sc_is_cap_paper rfl rfl (hb2 fun _ _ _ _ _ _ _ _=>rfl) fun cdv A outer s H E f G W hr hp pa mk =>
  have nd:=sc_is_cap_paper.nd;by and_intros
def lU:SM:=(aJ (aH (aC ai (aa (af 0) aj))) aX)
def cL:Fn:=fnM [false,false,false] 5 lU
theorem sc_cup_or_cap:FnScope ["sheet","k","l","cup","cap"] ["sheet","k","l"] (ac dz):=by ac_rfl
theorem j9 (B:Bl mg) (D:Def K mg "cup_or_cap" dz) (a:aD P w K mg base "check_sheet" 5 ["thing"] ai):aD P w K mg base "cup_or_cap" 6 ["sheet","k","l"] cL :=
 aG (k:=5) D sc_cup_or_cap rfl rfl (hb3 fun _ _ _ _ _ _ _ _ _=>rfl) fun cdv A outer s H E f G W hr hp pa mk =>
  have nd:=sc_cup_or_cap.nd;by and_intros
def rj:SM:=(aJ (aH (aC ai (aa (af 1) aj))) aX)
def fJ:Fn:=fnM [false,false,false,false] 4 rj
theorem sc_is_bar:FnScope ["thing","sheet","k","l"] ["thing","sheet","k","l"] (ac iV):=by ac_rfl
theorem pd (B:Bl mg) (D:Def K mg "is_bar" iV) (a:aD P w K mg base "check_sheet" 5 ["thing"] ai):aD P w K mg base "is_bar" 6 ["thing","sheet","k","l"] fJ :=
 aG (k:=5) D sc_is_bar rfl rfl (hb4 fun _ _ _ _ _ _ _ _ _ _=>rfl) fun cdv A outer s H E f G W hr hp pa mk =>
  have nd:=sc_is_bar.nd;by and_intros
def re:SM:=(aJ (aH (aC ai (aa (af 0) aj))) aX)
def fE:Fn:=fnM [false,false,false] 3 re
theorem sc_joined:FnScope ["sheet","cup","cap"] ["sheet","cup","cap"] (ac iS):=by ac_rfl
theorem o4 (B:Bl mg) (D:Def K mg "joined" iS) (a:aD P w K mg base "check_sheet" 5 ["thing"] ai):aD P w K mg base "joined" 6 ["sheet","cup","cap"] fE :=
 aG (k:=5) D sc_joined rfl rfl (hb3 fun _ _ _ _ _ _ _ _ _=>rfl) fun cdv A outer s H E f G W hr hp pa mk =>
  have nd:=sc_joined.nd;by and_intros
def oC:SM:=(aJ (aH (aC ai (aa (af 0) aj))) aX)
def dL:Fn:=fnM [false,false] 3 oC
theorem sc_cup_ends:FnScope ["sheet","many","most"] ["sheet","many"] (ac fh):=by ac_rfl
theorem mw (B:Bl mg) (D:Def K mg "cup_ends" fh) (a:aD P w K mg base "check_sheet" 5 ["thing"] ai):aD P w K mg base "cup_ends" 6 ["sheet","many"] dL :=
 aG (k:=5) D sc_cup_ends rfl rfl (hb2 fun _ _ _ _ _ _ _ _=>rfl) fun cdv A outer s H E f G W hr hp pa mk =>
  have nd:=sc_cup_ends.nd;by and_intros
def lV:SM:=(aJ (aH (aC ai (aa (af 0) aj))) aX)
def cM:Fn:=fnM [false,false] 3 lV
theorem sc_cap_starts:FnScope ["sheet","many","most"] ["sheet","many"] (ac dA):=by ac_rfl
theorem kb (B:Bl mg) (D:Def K mg "cap_starts" dA) (a:aD P w K mg base "check_sheet" 5 ["thing"] ai):aD P w K mg base "cap_starts" 6 ["sheet","many"] cM :=
 aG (k:=5) D sc_cap_starts rfl rfl (hb2 fun _ _ _ _ _ _ _ _=>rfl) fun cdv A outer s H E f G W hr hp pa mk =>
  have nd:=sc_cap_starts.nd;by and_intros
def q9:SM:=aX
def d5:Fn:=fnM [false,false,false] 5 q9
theorem sc_side_row:FnScope ["turns","ring","way","first","last"] ["turns","ring","way"] (ac eW):=by ac_rfl
theorem o3 (B:Bl mg) (D:Def K mg "side_row" eW):bh P w K mg base "side_row" 1 ["turns","ring","way"] d5 :=by specialize sc_side_row
def ow:SM:=aX
def fG:Fn:=fnM [false,false,false] 3 ow
theorem sc_is_ring_by:FnScope ["turns","thing","many"] ["turns","thing","many"] (ac dy):=by ac_rfl
theorem mn (B:Bl mg) (D:Def K mg "is_ring_by" dy):bh P w K mg base "is_ring_by" 1 ["turns","thing","many"] fG :=by specialize sc_is_ring_by
def p8:SM:=(bc 2 (aK fG (aa (aC ay (aa (af 1) aj)) (aa (af 0) (aa (aY jO (aa (af 1) aj)) aj)))))
def eI:Fn:=fnM [false,false] 2 p8
theorem sc_is_ring:FnScope ["thing","sheet"] ["thing","sheet"] (ac gx):=by ac_rfl
theorem m8 (B:Bl mg) (D:Def K mg "is_ring" gx) (a:aD P w K mg base "all_turns" 6 ["sheet"] ay) (b:bh P w K mg base "is_ring_by" 1 ["turns","thing","many"] fG):aD P w K mg base "is_ring" 7 ["thing","sheet"] eI :=
 aG (k:=6) D sc_is_ring rfl rfl (hb2 fun _ _ _ _ _ _ _ _=>rfl) fun cdv A outer s H E f G W hr hp pa mk =>
  have nd:=sc_is_ring.nd;by and_intros
def hJ:SM:=(aJ (bb 2 (aC ay (aa (af 0) aj))) aX)
def aI:Fn:=fnM [false,false] 3 hJ
theorem sc_turns_with_ring:FnScope ["sheet","ring","turns"] ["sheet","ring"] (ac bG):=by ac_rfl
theorem fP (B:Bl mg) (D:Def K mg "turns_with_ring" bG) (a:aD P w K mg base "all_turns" 6 ["sheet"] ay):aD P w K mg base "turns_with_ring" 7 ["sheet","ring"] aI :=
 aG (k:=6) D sc_turns_with_ring rfl rfl (hb2 fun _ _ _ _ _ _ _ _=>rfl) fun cdv A outer s H E f G W hr hp pa mk =>
  have nd:=sc_turns_with_ring.nd;by and_intros
def p4:SM:=(bc 2 (aK d5 (aa (aC aI (aa (af 0) (aa (af 1) aj))) (aa (af 1) (aa (mC (.int (1))) aj)))))
def eE:Fn:=fnM [false,false] 2 p4
theorem sc_low_row:FnScope ["sheet","ring"] ["sheet","ring"] (ac gq):=by ac_rfl
theorem mY (B:Bl mg) (D:Def K mg "low_row" gq) (b:bh P w K mg base "side_row" 1 ["turns","ring","way"] d5) (a:aD P w K mg base "turns_with_ring" 7 ["sheet","ring"] aI) {c:Tok} (d:mg "UP"=some (.int (1) c)):aD P w K mg base "low_row" 8 ["sheet","ring"] eE :=
 aG (k:=7) D sc_low_row rfl rfl (hb2 fun _ _ _ _ _ _ _ _=>rfl) fun cdv A outer s H E f G W hr hp pa mk =>
  have nd:=sc_low_row.nd;by and_intros
def oB:SM:=(bc 2 (aK d5 (aa (aC aI (aa (af 0) (aa (af 1) aj))) (aa (af 1) (aa (mC (.int (-1))) aj)))))
def dJ:Fn:=fnM [false,false] 2 oB
theorem sc_high_row:FnScope ["sheet","ring"] ["sheet","ring"] (ac fg):=by ac_rfl
theorem mr (B:Bl mg) (D:Def K mg "high_row" fg) (c:bh P w K mg base "side_row" 1 ["turns","ring","way"] d5) (a:aD P w K mg base "turns_with_ring" 7 ["sheet","ring"] aI) {b:Tok} (d:mg "DOWN"=some (.int (-1) b)):aD P w K mg base "high_row" 8 ["sheet","ring"] dJ :=
 aG (k:=7) D sc_high_row rfl rfl (hb2 fun _ _ _ _ _ _ _ _=>rfl) fun cdv A outer s H E f G W hr hp pa mk =>
  have nd:=sc_high_row.nd;by and_intros
def lQ:SM:=(aJ (aH (aC ai (aa (af 0) aj))) aX)
def cJ:Fn:=fnM [false] 1 lQ
theorem sc_outer_ring:FnScope ["sheet"] ["sheet"] (ac dw):=by ac_rfl
theorem j7 (B:Bl mg) (D:Def K mg "outer_ring" dw) (a:aD P w K mg base "check_sheet" 5 ["thing"] ai):aD P w K mg base "outer_ring" 6 ["sheet"] cJ :=
 aG (k:=5) D sc_outer_ring rfl rfl (hb1 fun _ _ _ _ _ _ _=>rfl) fun cdv A outer s H E f G W hr hp pa mk =>
  have nd:=sc_outer_ring.nd;by and_intros
def lN:SM:=(aJ (aH (aC ai (aa (af 0) aj))) aX)
def cF:Fn:=fnM [false,false] 10 lN
theorem sc_rings_many:FnScope ["sheet","many","turns","found","first","cups","caps","last","low","high"] ["sheet","many"] (ac dn):=by ac_rfl
theorem j4 (B:Bl mg) (D:Def K mg "rings_many" dn) (a:aD P w K mg base "check_sheet" 5 ["thing"] ai):aD P w K mg base "rings_many" 6 ["sheet","many"] cF :=
 aG (k:=5) D sc_rings_many rfl rfl (hb2 fun _ _ _ _ _ _ _ _=>rfl) fun cdv A outer s H E f G W hr hp pa mk =>
  have nd:=sc_rings_many.nd;by and_intros
def i9:SM:=(aJ (bb 1 (aC ay (aa (af 0) aj))) aX)
def bK:Fn:=fnM [false] 9 i9
theorem sc_greatest_ring:FnScope ["sheet","turns","many","greatest","first","cups","caps","last","ring"] ["sheet"] (ac bZ):=by ac_rfl
theorem ic (B:Bl mg) (D:Def K mg "greatest_ring" bZ) (a:aD P w K mg base "all_turns" 6 ["sheet"] ay):aD P w K mg base "greatest_ring" 7 ["sheet"] bK :=
 aG (k:=6) D sc_greatest_ring rfl rfl (hb1 fun _ _ _ _ _ _ _=>rfl) fun cdv A outer s H E f G W hr hp pa mk =>
  have nd:=sc_greatest_ring.nd;by and_intros
def lO:SM:=(aJ (aH (aC ai (aa (af 0) aj))) aX)
def cG:Fn:=fnM [false] 2 lO
theorem sc_ring_paper:FnScope ["sheet","turns"] ["sheet"] (ac dq):=by ac_rfl
theorem j5 (B:Bl mg) (D:Def K mg "ring_paper" dq) (a:aD P w K mg base "check_sheet" 5 ["thing"] ai):aD P w K mg base "ring_paper" 6 ["sheet"] cG :=
 aG (k:=5) D sc_ring_paper rfl rfl (hb1 fun _ _ _ _ _ _ _=>rfl) fun cdv A outer s H E f G W hr hp pa mk =>
  have nd:=sc_ring_paper.nd;by and_intros
def lP:SM:=(aJ (aH (aC ai (aa (af 1) aj))) aX)
def cH:Fn:=fnM [false,false] 4 lP
theorem sc_ring_bound:FnScope ["thing","sheet","turns","many"] ["thing","sheet"] (ac du):=by ac_rfl
theorem j6 (B:Bl mg) (D:Def K mg "ring_bound" du) (a:aD P w K mg base "check_sheet" 5 ["thing"] ai):aD P w K mg base "ring_bound" 6 ["thing","sheet"] cH :=
 aG (k:=5) D sc_ring_bound rfl rfl (hb2 fun _ _ _ _ _ _ _ _=>rfl) fun cdv A outer s H E f G W hr hp pa mk =>
  have nd:=sc_ring_bound.nd;by and_intros
def kF:SM:=aX
def di:Fn:=fnM [false,false] 6 kF
theorem sc_places_within:FnScope ["turns","ring","low","high","others","above"] ["turns","ring"] (ac bX):=by ac_rfl
theorem jo (B:Bl mg) (D:Def K mg "places_within" bX):bh P w K mg base "places_within" 1 ["turns","ring"] di :=by specialize sc_places_within
def q8:SM:=(bc 2 (aK di (aa (aC aI (aa (af 0) (aa (af 1) aj))) (aa (af 1) aj))))
def fD:Fn:=fnM [false,false] 2 q8
theorem sc_within:FnScope ["sheet","ring"] ["sheet","ring"] (ac iL):=by ac_rfl
theorem oZ (B:Bl mg) (D:Def K mg "within" iL) (b:bh P w K mg base "places_within" 1 ["turns","ring"] di) (a:aD P w K mg base "turns_with_ring" 7 ["sheet","ring"] aI):aD P w K mg base "within" 8 ["sheet","ring"] fD :=
 aG (k:=7) D sc_within rfl rfl (hb2 fun _ _ _ _ _ _ _ _=>rfl) fun cdv A outer s H E f G W hr hp pa mk =>
  have nd:=sc_within.nd;by and_intros
def mK:SM:=aX
def eP:Fn:=fnM [false,false,false] 3 mK
theorem sc_is_empty_by:FnScope ["turns","thing","many"] ["turns","thing","many"] (ac cY):=by ac_rfl
theorem kZ (B:Bl mg) (D:Def K mg "is_empty_by" cY):bh P w K mg base "is_empty_by" 1 ["turns","thing","many"] eP :=by specialize sc_is_empty_by
def i8:SM:=(bc 2 (aK eP (aa (aC ay (aa (af 1) aj)) (aa (af 0) (aa (aY jO (aa (af 1) aj)) aj)))))
def bJ:Fn:=fnM [false,false] 2 i8
theorem sc_is_empty_ring:FnScope ["thing","sheet"] ["thing","sheet"] (ac bY):=by ac_rfl
theorem ib (B:Bl mg) (D:Def K mg "is_empty_ring" bY) (b:aD P w K mg base "all_turns" 6 ["sheet"] ay) (a:bh P w K mg base "is_empty_by" 1 ["turns","thing","many"] eP):aD P w K mg base "is_empty_ring" 7 ["thing","sheet"] bJ :=
 aG (k:=6) D sc_is_empty_ring rfl rfl (hb2 fun _ _ _ _ _ _ _ _=>rfl) fun cdv A outer s H E f G W hr hp pa mk =>
  have nd:=sc_is_empty_ring.nd;by and_intros
def jK:SM:=(aJ (aH (aC ai (aa (af 0) aj))) aX)
def bR:Fn:=fnM [false,false] 2 jK
theorem sc_empties_many:FnScope ["sheet","many"] ["sheet","many"] (ac cy):=by ac_rfl
theorem iF (B:Bl mg) (D:Def K mg "empties_many" cy) (a:aD P w K mg base "check_sheet" 5 ["thing"] ai):aD P w K mg base "empties_many" 6 ["sheet","many"] bR :=
 aG (k:=5) D sc_empties_many rfl rfl (hb2 fun _ _ _ _ _ _ _ _=>rfl) fun cdv A outer s H E f G W hr hp pa mk =>
  have nd:=sc_empties_many.nd;by and_intros
def iu:SM:=(aJ (aH (aC ai (aa (af 0) aj))) aX)
def bA:Fn:=fnM [false] 1 iu
theorem sc_greatest_empty:FnScope ["sheet"] ["sheet"] (ac bM):=by ac_rfl
theorem gi (B:Bl mg) (D:Def K mg "greatest_empty" bM) (a:aD P w K mg base "check_sheet" 5 ["thing"] ai):aD P w K mg base "greatest_empty" 6 ["sheet"] bA :=
 aG (k:=5) D sc_greatest_empty rfl rfl (hb1 fun _ _ _ _ _ _ _=>rfl) fun cdv A outer s H E f G W hr hp pa mk =>
  have nd:=sc_greatest_empty.nd;by and_intros
def kK:SM:=(aJ (bb 2 (aC aI (aa (af 0) (aa (af 1) aj)))) aX)
def cb:Fn:=fnM [false,false] 5 kK
theorem sc_empty_three:FnScope ["sheet","ring","turns","three","inside"] ["sheet","ring"] (ac c0):=by ac_rfl
theorem jt (B:Bl mg) (D:Def K mg "empty_three" c0) (a:aD P w K mg base "turns_with_ring" 7 ["sheet","ring"] aI):aD P w K mg base "empty_three" 8 ["sheet","ring"] cb :=
 aG (k:=7) D sc_empty_three rfl rfl (hb2 fun _ _ _ _ _ _ _ _=>rfl) fun cdv A outer s H E f G W hr hp pa mk =>
  have nd:=sc_empty_three.nd;by and_intros
def lM:SM:=(aJ (aH (aC ai (aa (af 0) aj))) aX)
def cE:Fn:=fnM [false] 1 lM
theorem sc_show_sheet:FnScope ["sheet"] ["sheet"] (ac dm):=by ac_rfl
theorem j3 (B:Bl mg) (D:Def K mg "show_sheet" dm) (a:aD P w K mg base "check_sheet" 5 ["thing"] ai):aD P w K mg base "show_sheet" 6 ["sheet"] cE :=
 aG (k:=5) D sc_show_sheet rfl rfl (hb1 fun _ _ _ _ _ _ _=>rfl) fun cdv A outer s H E f G W hr hp pa mk =>
  have nd:=sc_show_sheet.nd;by and_intros
def vR:SM:=(aJ (sIf (cB (ao ltI (af 1) (aY jO (aa (af 0) aj)))) (bc 2 (ao bx (af 0) (af 1))) fV) (bc 2 (mC (.int 0))))
def jB:Fn:=fnM [false,false] 2 vR
theorem sc_l_cell:FnScope ["_law_script","_law_k"] ["_law_script","_law_k"] (ac iQ):=by ac_rfl
theorem rQ (B:Bl mg) (D:Def K mg "_law_cell" iQ):bh P w K mg base "_law_cell" 1 ["_law_script","_law_k"] jB :=by specialize sc_l_cell
def yl:SM:=(aJ (bb 2 (iA (aa (mC (.int 48271)) (aa (mC (.int 69621)) (aa (mC (.int 16807)) (aa (mC (.int 39373)) (aa (mC (.int 30269)) (aa (mC (.int 40014)) (aa (mC (.int 40692)) (aa (mC (.int 50021)) (aa (mC (.int 61687)) (aa (mC (.int 71993)) (aa (mC (.int 83869)) (aa (mC (.int 95561)) (aa (mC (.int 30307)) aj))))))))))))))) (aJ (bb 3 (ao ce (ao ce (ao d8 (ao ce (ao qX (af 0) (mC (.int 2147483647))) (mC (.int 12345))) (ao bx (af 2) (ao qX (af 1) (mC (.int 13))))) (ao d8 (mC (.int 977)) (af 1))) (ao d8 (mC (.int 7919)) (ao ui (af 1) (mC (.int 13)))))) (aJ (bb 3 (ao qX (af 3) (mC (.int 1000000007)))) (bc 2 (ao ui (ao qX (ao ce (ao d8 (af 3) (af 3)) (ao d8 (mC (.int 48271)) (af 1))) (mC (.int 1000000007))) (mC (.int 7)))))))
def lm:Fn:=fnM [false,false] 4 yl
theorem sc_l_mix:FnScope ["_law_cell_here","_law_k","_law_some","_law_stir"] ["_law_cell_here","_law_k"] (ac k8):=by ac_rfl
theorem ux (B:Bl mg) (D:Def K mg "_law_mix" k8):bh P w K mg base "_law_mix" 1 ["_law_cell_here","_law_k"] lm :=by specialize sc_l_mix
def ir:SM:=(bb 3 (ao ce (ao d8 (af 3) (mC (.int 142857143))) (aK lm (aa (af 2) (aa (af 4) aj)))))
def ym:SM:=(aJ (bb 2 (aK jB (aa (af 0) (aa (af 1) aj)))) (aJ (sIf (cB (ao eqX (ao qX (af 2) (mC (.int 2))) (mC (.int 0)))) (bc 2 (iA (aa (ao ui (aY absD (aa (af 2) aj)) (mC (.int 2))) aj))) fV) (aJ (bb 3 (mC (.int 0))) (aJ (eK (cj eR (aa (mC (.int 40)) aj)) (aM 4) ir) (bc 2 (iA (aa (af 3) aj)))))))
def lq:Fn:=fnM [false,false] 5 ym
theorem sc_l_box:FnScope ["_law_script","_law_k","_law_cell_here","_law_number","_law_j"] ["_law_script","_law_k"] (ac k9):=by ac_rfl
theorem uy (B:Bl mg) (D:Def K mg "_law_box" k9) (a:bh P w K mg base "_law_cell" 1 ["_law_script","_law_k"] jB) (b:bh P w K mg base "_law_mix" 1 ["_law_cell_here","_law_k"] lm):bh P w K mg base "_law_box" 2 ["_law_script","_law_k"] lq :=by specialize sc_l_box
def vQ:SM:=(aJ (lC (iG 2 (bS (aM 2) (bS (aM 3) iH))) (aY wx (aa (ao bx (af 0) (mC (.int 0))) (aa (af 1) aj)))) (aJ (og setD 0 (mC (.int 0)) (af 2)) (bc 2 (af 3))))
def bD:Fn:=fnM [false,false] 4 vQ
theorem sc_l_take:FnScope ["_law_box_here","_law_many","_law_left","_law_digit"] ["_law_box_here","_law_many"] (ac iN):=by ac_rfl
theorem rN (B:Bl mg) (D:Def K mg "_law_take" iN):bh P w K mg base "_law_take" 1 ["_law_box_here","_law_many"] bD :=by specialize sc_l_take
def vS:SM:=(aJ (lC (iG 2 (bS (aM 3) (bS (aM 4) iH))) (af 0)) (aJ (bb 5 (ao d8 (ao fO (ao bx (af 1) (mC (.int 0))) (af 3)) (ao fO (ao bx (af 2) (mC (.int 1))) (af 4)))) (bc 3 (ao fO (af 5) (ao d8 (ao fO (ao bx (af 1) (mC (.int 1))) (af 4)) (ao fO (ao bx (af 2) (mC (.int 0))) (af 3)))))))
def gk:Fn:=fnM [false,false,false] 6 vS
theorem sc_l_bend:FnScope ["_law_one","_law_two","_law_three","_law_x","_law_y","_law_wide"] ["_law_one","_law_two","_law_three"] (ac iR):=by ac_rfl
theorem rR (B:Bl mg) (D:Def K mg "_law_bend" iR):bh P w K mg base "_law_bend" 1 ["_law_one","_law_two","_law_three"] gk :=by specialize sc_l_bend
def c9:SM:=(sIf (cB (ao eqX (aK gk (aa (af 4) (aa (af 3) (aa (af 1) aj)))) (mC (.int 0)))) (bc 2 (mC (.bl false))) fV)
def el:SM:=(eK (ig (mSl slD (af 0) kj (iY (af 2)))) (aM 4) c9)
def lS:SM:=(aJ (eK (lW (aa (af 0) aj)) (iG 2 (bS (aM 2) (bS (aM 3) iH))) el) (bc 2 (mC (.bl true))))
def eV:Fn:=fnM [false,false] 5 lS
theorem sc_l_free:FnScope ["_law_found","_law_point","_law_at","_law_one","_law_two"] ["_law_found","_law_point"] (ac iP):=by ac_rfl
theorem rP (B:Bl mg) (D:Def K mg "_law_free" iP) (a:bh P w K mg base "_law_bend" 1 ["_law_one","_law_two","_law_three"] gk):bh P w K mg base "_law_free" 2 ["_law_found","_law_point"] eV :=by specialize sc_l_free
def cz:M3 Bool:=(jv (cB (aK eV (aa (af 5) (aa (dS (aa (af 4) (aa (af 9) aj))) aj)))))
def dD:SM:=(bb 9 (ao ce (af 9) (mC (.int 1))))
def cA:SM:=(aJ (bb 4 (ao ce (ao ce (af 4) (mC (.int 1))) (aK bD (aa (af 0) (aa (mC (.int 3)) aj))))) (aJ (bb 7 (ao fO (aK bD (aa (af 0) (aa (mC (.int 31)) aj))) (mC (.int 15)))) (aJ (bb 8 (iA (aa (af 7) (aa (af 7) (aa (ao ce (ao d8 (af 6) (af 6)) (ao ui (af 7) (mC (.int 9)))) (aa (ao fO (ao ui (af 7) (mC (.int 9))) (ao d8 (af 6) (af 6))) aj)))))) (aJ (bb 8 (ao ce (af 8) (iA (aa (ao d8 (ao ce (ao d8 (af 6) (af 6)) (mC (.int 30))) (ao fO (mC (.int 1)) (ao d8 (mC (.int 2)) (ao qX (af 6) (mC (.int 2)))))) (aa (ao d8 (af 7) (mC (.int 1000))) aj))))) (aJ (bb 9 (ao bx (af 8) (af 3))) (aJ (fU cz dD) (aH (rm isL uz 5 (aa (dS (aa (af 4) (aa (af 9) aj))) aj)))))))))
def fq:EM:=(dS (aa (ao ce (ao d8 (ao vt (mC (.int 10)) (mC (.int 12))) (af 0)) (mC (.int 7))) (aa (ao d8 (ao vt (mC (.int 10)) (mC (.int 9))) (af 1)) aj)))
def dC:EM:=(dl (ig (af 5)) (iG 2 (bS (aM 0) (bS (aM 1) iH))) kc fq [none,none])
def nC:SM:=(aJ (bb 2 (ao ce (mC (.int 1)) (aK bD (aa (af 0) (aa (af 1) aj))))) (aJ (bb 3 (aK bD (aa (af 0) (aa (mC (.int 6)) aj)))) (aJ (bb 4 (ao fO (aK bD (aa (af 0) (aa (mC (.int 9)) aj))) (mC (.int 4)))) (aJ (bb 5 (iA aj)) (aJ (eK (cj eR (aa (af 2) aj)) (aM 6) cA) (aJ (sIf (cB (ao eqX (aK bD (aa (af 0) (aa (mC (.int 6)) aj))) (mC (.int 5)))) (bb 5 dC) fV) (bc 2 (aY tv (aa (af 5) aj)))))))))
def eU:Fn:=fnM [false,false] 10 nC
theorem sc_l_sheet:FnScope ["_law_box_here","_law_most","_law_many","_law_kind","_law_x","_law_found","_law_k","_law_given","_law_some","_law_y"] ["_law_box_here","_law_most"] (ac gu):=by ac_rfl
theorem qv (B:Bl mg) (D:Def K mg "_law_sheet" gu) (a:bh P w K mg base "_law_free" 2 ["_law_found","_law_point"] eV) (b:bh P w K mg base "_law_take" 1 ["_law_box_here","_law_many"] bD):bh P w K mg base "_law_sheet" 3 ["_law_box_here","_law_most"] eU :=by specialize sc_l_sheet
def p7:SM:=(aJ (sIf (cOr (jv (cB (mUn (jd [("NoSheet",true)]) (af 0)))) (jv (cB (mUn (jd [("NoSheet",true)]) (af 0))))) (bc 1 (mC (.str "other"))) fV) (aJ (bb 1 (iA (aa (mUn (jd [("NoSheet",true)]) (af 0)) (aa (mUn (jd [("NoSheet",false)]) (af 0)) (aa (mUn (jd [("NoSheet",false)]) (af 0)) (aa (mUn (jd [("NoSheet",false)]) (af 0)) aj)))))) (aJ (bb 1 (ao ce (af 1) (iA (aa (mUn (jd [("NoSheet",false)]) (af 0)) (aa (mUn (jd [("NoSheet",false)]) (af 0)) (aa (mUn (jd [("NoSheet",false)]) (af 0)) (aa (mUn (jd [("NoSheet",false)]) (af 0)) aj))))))) (aJ (bb 1 (ao ce (af 1) (iA (aa (mUn (jd [("NoSheet",false)]) (af 0)) (aa (mUn (jd [("NoSheet",false)]) (af 0)) aj))))) (aJ (sIf (cB (ao neX (sD isL zn (af 1) (aa (mC (.bl true)) aj)) (mC (.int 1)))) (bc 1 (mC (.str "other"))) fV) (aJ (bb 2 (iA (aa (mC (.str "sheet")) (aa (mC (.str "place")) (aa (mC (.str "number")) (aa (mC (.str "row")) (aa (mC (.str "apart")) (aa (mC (.str "ring")) (aa (mC (.str "many")) (aa (mC (.str "bare")) (aa (mC (.str "line")) (aa (mC (.str "text")) aj)))))))))))) (bc 1 (ao bx (af 2) (sD isL idxD (af 1) (aa (mC (.bl true)) aj))))))))))
def gj:Fn:=fnM [false] 3 p7
theorem sc_l_marks:FnScope ["_law_e","_law_found","_law_words"] ["_law_e"] (ac gv):=by ac_rfl
theorem m4 (B:Bl mg) (D:Def K mg "_law_marks" gv) {l:Addr} (M:mg "Apart"=some (.ref l)) (N:IsX K (.ref l) [("NoSheet",false)]) {m:Addr} (R:mg "Bare"=some (.ref m)) (Q:IsX K (.ref m) [("NoSheet",false)]) {a:Addr} (o:mg "BentError"=some (.ref a)) (n:IsX K (.ref a) [("NoSheet",true)]) {b:Addr} (q:mg "NoNumber"=some (.ref b)) (p:IsX K (.ref b) [("NoSheet",false)]) {c:Addr} (y:mg "NoPlace"=some (.ref c)) (u:IsX K (.ref c) [("NoSheet",false)]) {i:Addr} (C:mg "NoRing"=some (.ref i)) (J:IsX K (.ref i) [("NoSheet",false)]) {j:Addr} (O:mg "NoRow"=some (.ref j)) (L:IsX K (.ref j) [("NoSheet",false)]) {d:Addr} (r:mg "NoSheet"=some (.ref d)) (v:IsX K (.ref d) [("NoSheet",true)]) {g:Addr} (E:mg "NoText"=some (.ref g)) (F:IsX K (.ref g) [("NoSheet",false)]) {h:Addr} (z:mg "OnLine"=some (.ref h)) (I:IsX K (.ref h) [("NoSheet",false)]) {e:Addr} (x:mg "TooMany"=some (.ref e)) (t:IsX K (.ref e) [("NoSheet",false)]) (Z_ValueError:mg "ValueError"=none) (T_ValueError:IsX K (.type "ValueError") [("NoSheet",true)]):yP P w K mg base "_law_marks" 1 ["_law_e"] gj :=
 yy (k:=0) D sc_l_marks rfl rfl (hb1 fun _ _ _ _ _ _ _=>rfl) fun cdv A outer s H f G hr hD hp =>
  have nd:=sc_l_marks.nd;by and_intros
def a8:SM:=(sIf (cB (ao eqX (af 0) (mC (.int 0)))) (aH (aC jz (aa (af 1) (aa (mC .non) (aa (mC .non) (aa (mC .non) aj)))))) (sIf (cB (ao eqX (af 0) (mC (.int 1)))) (aH (aC ay (aa (af 1) aj))) (sIf (cB (ao eqX (af 0) (mC (.int 2)))) (aH (aC b6 (aa (af 1) aj))) (sIf (cB (ao eqX (af 0) (mC (.int 3)))) (aH (aC b9 (aa (af 1) aj))) (sIf (cB (ao eqX (af 0) (mC (.int 4)))) (aH (aC eD (aa (af 1) (aa (mC .non) aj)))) (sIf (cB (ao eqX (af 0) (mC (.int 5)))) (aH (aC eC (aa (af 1) (aa (mC .non) aj)))) (sIf (cB (ao eqX (af 0) (mC (.int 6)))) (aH (aC cE (aa (af 1) aj))) (sIf (cB (ao eqX (af 0) (mC (.int 7)))) (aH (aC fH (aa (mC .non) (aa (af 1) aj)))) (sIf (cB (ao eqX (af 0) (mC (.int 8)))) (aH (aC fI (aa (mC .non) (aa (af 1) aj)))) (sIf (cB (ao eqX (af 0) (mC (.int 9)))) (aH (aC c6 (aa (af 1) aj))) (aH (aC c8 (aa (af 1) aj)))))))))))))
def eG:Fn:=fnM [false,false] 2 a8
theorem sc_l_first:FnScope ["_law_kind","_law_sheet_here"] ["_law_kind","_law_sheet_here"] (ac gw):=by ac_rfl
theorem m5 (B:Bl mg) (D:Def K mg "_law_first" gw) (d:aD P w K mg base "all_turns" 6 ["sheet"] ay) (g:aD P w K mg base "cap_table" 8 ["sheet"] c8) (e:aD P w K mg base "cup_table" 8 ["sheet"] c6) (b:aD P w K mg base "from_behind" 6 ["sheet"] b9) (l:aD P w K mg base "is_cap" 8 ["thing","sheet"] fI) (j:aD P w K mg base "is_cup" 8 ["thing","sheet"] fH) (i:aD P w K mg base "sheared" 6 ["sheet","by"] eD) (c:aD P w K mg base "show_sheet" 6 ["sheet"] cE) (m:aD P w K mg base "turn" 6 ["sheet","i","j","k"] jz) (a:aD P w K mg base "turned_over" 6 ["sheet"] b6) (h:aD P w K mg base "without" 6 ["sheet","place"] eC):aD P w K mg base "_law_first" 9 ["_law_kind","_law_sheet_here"] eG :=
 aG (k:=8) D sc_l_first rfl rfl (hb2 fun _ _ _ _ _ _ _ _=>rfl) fun cdv A outer s H E f G W hr hp pa mk =>
  have nd:=sc_l_first.nd;by and_intros
def aS:SM:=(sIf (cB (ao eqX (af 0) (mC (.int 0)))) (aH (aC b7 (aa (af 1) aj))) (sIf (cB (ao eqX (af 0) (mC (.int 1)))) (aH (aC b8 (aa (af 1) aj))) (sIf (cB (ao eqX (af 0) (mC (.int 2)))) (aH (aC bP (aa (mC .non) (aa (af 1) aj)))) (sIf (cB (ao eqX (af 0) (mC (.int 3)))) (aH (aC bQ (aa (mC .non) (aa (af 1) aj)))) (sIf (cB (ao eqX (af 0) (mC (.int 4)))) (aH (aC cL (aa (af 1) (aa (mC .non) (aa (mC .non) aj))))) (sIf (cB (ao eqX (af 0) (mC (.int 5)))) (aH (aC fJ (aa (mC .non) (aa (af 1) (aa (mC .non) (aa (mC .non) aj)))))) (sIf (cB (ao eqX (af 0) (mC (.int 6)))) (aH (aC fE (aa (af 1) (aa (mC .non) (aa (mC .non) aj))))) (sIf (cB (ao eqX (af 0) (mC (.int 7)))) (aH (aC dL (aa (af 1) (aa (mC .non) aj)))) (sIf (cB (ao eqX (af 0) (mC (.int 8)))) (aH (aC cM (aa (af 1) (aa (mC .non) aj)))) (sIf (cB (ao eqX (af 0) (mC (.int 9)))) (aH (aC eI (aa (mC .non) (aa (af 1) aj)))) (aH (aC eE (aa (af 1) (aa (mC .non) aj))))))))))))))
def dI:Fn:=fnM [false,false] 2 aS
theorem sc_l_second:FnScope ["_law_kind","_law_sheet_here"] ["_law_kind","_law_sheet_here"] (ac eX):=by ac_rfl
theorem mm (B:Bl mg) (D:Def K mg "_law_second" eX) (g:aD P w K mg base "cap_starts" 6 ["sheet","many"] cM) (h:aD P w K mg base "cup_ends" 6 ["sheet","many"] dL) (e:aD P w K mg base "cup_or_cap" 6 ["sheet","k","l"] cL) (l:aD P w K mg base "is_bar" 6 ["thing","sheet","k","l"] fJ) (a:aD P w K mg base "is_cap_paper" 8 ["thing","sheet"] bQ) (b:aD P w K mg base "is_cup_paper" 8 ["thing","sheet"] bP) (j:aD P w K mg base "is_ring" 7 ["thing","sheet"] eI) (m:aD P w K mg base "joined" 6 ["sheet","cup","cap"] fE) (c:aD P w K mg base "longest_cap" 7 ["sheet"] b8) (d:aD P w K mg base "longest_cup" 7 ["sheet"] b7) (i:aD P w K mg base "low_row" 8 ["sheet","ring"] eE):aD P w K mg base "_law_second" 9 ["_law_kind","_law_sheet_here"] dI :=
 aG (k:=8) D sc_l_second rfl rfl (hb2 fun _ _ _ _ _ _ _ _=>rfl) fun cdv A outer s H E f G W hr hp pa mk =>
  have nd:=sc_l_second.nd;by and_intros
def a7:SM:=(sIf (cB (ao eqX (af 0) (mC (.int 0)))) (aH (aC dJ (aa (af 1) (aa (mC .non) aj)))) (sIf (cB (ao eqX (af 0) (mC (.int 1)))) (aH (aC cJ (aa (af 1) aj))) (sIf (cB (ao eqX (af 0) (mC (.int 2)))) (aH (aC cF (aa (af 1) (aa (mC .non) aj)))) (sIf (cB (ao eqX (af 0) (mC (.int 3)))) (aH (aC bK (aa (af 1) aj))) (sIf (cB (ao eqX (af 0) (mC (.int 4)))) (aH (aC cG (aa (af 1) aj))) (sIf (cB (ao eqX (af 0) (mC (.int 5)))) (aH (aC cH (aa (mC .non) (aa (af 1) aj)))) (sIf (cB (ao eqX (af 0) (mC (.int 6)))) (aH (aC fD (aa (af 1) (aa (mC .non) aj)))) (sIf (cB (ao eqX (af 0) (mC (.int 7)))) (aH (aC bJ (aa (mC .non) (aa (af 1) aj)))) (sIf (cB (ao eqX (af 0) (mC (.int 8)))) (aH (aC bR (aa (af 1) (aa (mC .non) aj)))) (sIf (cB (ao eqX (af 0) (mC (.int 9)))) (aH (aC bA (aa (af 1) aj))) (aH (aC cb (aa (af 1) (aa (mC .non) aj))))))))))))))
def eF:Fn:=fnM [false,false] 2 a7
theorem sc_l_third:FnScope ["_law_kind","_law_sheet_here"] ["_law_kind","_law_sheet_here"] (ac gr):=by ac_rfl
theorem mZ (B:Bl mg) (D:Def K mg "_law_third" gr) (d:aD P w K mg base "empties_many" 6 ["sheet","many"] bR) (e:aD P w K mg base "empty_three" 8 ["sheet","ring"] cb) (a:aD P w K mg base "greatest_empty" 6 ["sheet"] bA) (c:aD P w K mg base "greatest_ring" 7 ["sheet"] bK) (l:aD P w K mg base "high_row" 8 ["sheet","ring"] dJ) (b:aD P w K mg base "is_empty_ring" 7 ["thing","sheet"] bJ) (j:aD P w K mg base "outer_ring" 6 ["sheet"] cJ) (i:aD P w K mg base "ring_bound" 6 ["thing","sheet"] cH) (h:aD P w K mg base "ring_paper" 6 ["sheet"] cG) (g:aD P w K mg base "rings_many" 6 ["sheet","many"] cF) (m:aD P w K mg base "within" 8 ["sheet","ring"] fD):aD P w K mg base "_law_third" 9 ["_law_kind","_law_sheet_here"] eF :=
 aG (k:=8) D sc_l_third rfl rfl (hb2 fun _ _ _ _ _ _ _ _=>rfl) fun cdv A outer s H E f G W hr hp pa mk =>
  have nd:=sc_l_third.nd;by and_intros
def fY:SM:=(sIf (cB (ao eqX (af 0) (mC (.int 0)))) (aH (aC eG (aa (af 1) (aa (af 2) aj)))) (sIf (cB (ao eqX (af 0) (mC (.int 1)))) (aH (aC dI (aa (af 1) (aa (af 2) aj)))) (aH (aC eF (aa (af 1) (aa (af 2) aj))))))
def km:SM:=(bc 3 (aK gj (aa (af 3) aj)))
def p6:SM:=(aJ (qJ ["NoSheet"] 3 fY km) (bc 3 (mC (.str "told"))))
def jA:Fn:=fnM [false,false,false] 4 p6
theorem sc_l_said:FnScope ["_law_part","_law_kind","_law_sheet_here","_law_e"] ["_law_part","_law_kind","_law_sheet_here"] (ac iO):=by ac_rfl
theorem rO (B:Bl mg) (D:Def K mg "_law_said" iO) (c:aD P w K mg base "_law_first" 9 ["_law_kind","_law_sheet_here"] eG) (e:yP P w K mg base "_law_marks" 1 ["_law_e"] gj) (b:aD P w K mg base "_law_second" 9 ["_law_kind","_law_sheet_here"] dI) (d:aD P w K mg base "_law_third" 9 ["_law_kind","_law_sheet_here"] eF) {a:Addr} (h:mg "BentError"=some (.ref a)) (g:ExX K a ["NoSheet"]):bh P w K mg base "_law_said" 10 ["_law_part","_law_kind","_law_sheet_here"] jA :=
 yz (k:=9) D sc_l_said rfl rfl (hb3 fun _ _ _ _ _ _ _ _ _=>rfl) fun cdv A outer s H E f G hr hp =>
  have nd:=sc_l_said.nd;by and_intros
def vP:EM:=(dS (aa (af 0) (aa (ao d8 (af 0) (af 0)) aj)))
def p5:EM:=(dl (cj eR (aa (mC (.int 25)) aj)) (aM 0) kc vP [none])
def lR:SM:=(sIf (cB (ao neX (aK jA (aa (af 9) (aa (af 10) (aa (af 8) aj)))) (mC (.str "sheet")))) (bc 1 (mC (.bl false))) fV)
def i7:SM:=(eK (cj eR (aa (mC (.int 11)) aj)) (aM 10) lR)
def i6:SM:=(aJ (bb 8 (ao bx (af 6) (aK bD (aa (af 2) (aa (mC (.int 16)) aj))))) (eK (cj eR (aa (mC (.int 3)) aj)) (aM 9) i7))
def i5:SM:=(aJ (bb 2 (aK lq (aa (af 0) (aa (af 1) aj)))) (aJ (bb 3 (aK eU (aa (af 2) (aa (mC (.int 5)) aj)))) (aJ (lC (iG 2 (bS (aM 4) (bS (aM 5) iH))) (ao bx (af 3) (mC (.int 0)))) (aJ (bb 6 (iA (aa (mC .non) (aa (dS aj) (aa (aY AV (aa (af 3) aj)) (aa (ao ce (af 3) (mSl slD (af 3) (iY (mUn qW (mC (.int 1)))) kj)) (aa (ao ce (af 3) (dS (aa (dS (aa (af 4) (aa (ao ce (af 5) (mC (.int 1))) aj))) aj))) (aa (ao ce (dS (aa (dS (aa (ao fO (af 4) (mC (.int 1))) (aa (af 5) (aa (mC (.int 0)) aj)))) aj)) (af 3)) (aa (mC (.str "0,0")) (aa (mC (.int 7)) aj)))))))))) (aJ (bb 6 (ao ce (af 6) (iA (aa (dS (aa (dS (aa (mC (.int 0)) (aa (mC (.int 0)) aj))) (aa (dS (aa (mC (.int 1)) (aa (mC (.int 1)) aj))) (aa (dS (aa (mC (.int 2)) (aa (mC (.int 2)) aj))) aj)))) (aa (dS (aa (dS (aa (mC (.int 1)) (aa (mC (.int 0)) aj))) (aa (dS (aa (mC (.int 0)) (aa (mC (.int 0)) aj))) aj))) (aa (dS (aa (dS (aa (mC (.bl true)) (aa (mC (.int 0)) aj))) aj)) (aa (dS (aa (mC .non) aj)) (aa vT (aa (ao bx (af 3) (mC (.int 0))) (aa (dS (aa (af 3) aj)) aj)))))))))) (aJ (aH (rm isL uz 6 (aa (aY tv (aa p5 aj)) aj))) (eK (cj eR (aa (mC (.int 4)) aj)) (aM 7) i6)))))))
def m_law:SM:=(aJ (eK (cj eR (aa (aY y9 (aa (mC (.int 1)) (aa (aY y8 (aa (aY jO (aa (af 0) aj)) (aa (mC (.int 3)) aj))) aj))) aj)) (aM 1) i5) (bc 1 (mC (.bl true))))
def zo:Fn:=fnM [false] 11 m_law
theorem sc_law:FnScope ["_law_script","_law_k","_law_box_here","_law_sheet_here","_law_x","_law_y","_law_some","_law_lap","_law_thing","_law_part","_law_kind"] ["_law_script"] (ac fT):=by ac_rfl
theorem yx {f:Addr} {fd:FuncData} (B:Bl mg) (D:Fun K "law" "law" fT f fd) (d:bh P w K mg base "_law_box" 2 ["_law_script","_law_k"] lq) (c:bh P w K mg base "_law_said" 10 ["_law_part","_law_kind","_law_sheet_here"] jA) (a:bh P w K mg base "_law_sheet" 3 ["_law_box_here","_law_most"] eU) (b:bh P w K mg base "_law_take" 1 ["_law_box_here","_law_many"] bD):FnOk P w K mg base CX0 11 f fd ["_law_script"] (qG K zo) :=
 A8 (k:=10) D sc_law rfl rfl fun cdv A outer s H E f G hr hp =>
  have nd:=sc_law.nd;by and_intros
end
theorem nq (p:Pt):bz [(Pd p,.z)]=some (.ok (.bl true,.z),[(Pd p,.z)]):=by
 apply cI (ρ:=[some (Pd p,.z)]) rfl rfl
 ·nomatch [(run_whole _)]
 ·rfl
theorem sJ {f c:L3.D->L3.D->Option (L3.D × Fl)} {ma mb mc:EM} {ra rb rc:R3} {ρ ρ1 ρ2 ρ3:Sto} {da db b e d:L3.D} {fl a:Fl} (h1:ma ρ=some (.ok ra,ρ1)) (h2:mb ρ1=some (.ok rb,ρ2)) (h3:der ra ρ2=some (.ok da,ρ2)) (h:der rb ρ2=some (.ok db,ρ2)) (g:f da db=some (.bl true,fl)) (k:mc ρ2=some (.ok rc,ρ3)) (l:der rb ρ3=some (.ok b,ρ3)) (j:der rc ρ3=some (.ok e,ρ3)) (i:c b e=some (d,a)):fu f c ma mb mc ρ=some (.ok (.val d a),ρ3):=by
 simp only [fu,ag,h1,h2,h3,h,g,ba,Option.bind_some,asB,B6,if_true,k,l,j,i]
theorem uW (ps:List Pt) (h0:0 < ps.length) (h1:ps.length<=24):cN [(Shd ps,.z)]=some (.ok (.bl true,.z),[(Shd ps,.z)]):=by
 obtain ⟨τ',e,a,rfl⟩:=mj (bnd:=aM 0) (c:=kc) (elt:=bC) (fun τ=>∃ a,τ=[a]) (fun _=>true) (fun _=>.bl true) (ds:=ps.map Pd) (τ:=[none]) ⟨none,rfl⟩ (by
  rintro d hd τ ⟨a,rfl⟩
  obtain ⟨p,j,rfl⟩:=BN.mp hd
  exact ⟨[some (Pd p,.z)],_,rfl,rfl,(fun h=>by cases h),fun _=>⟨.val (.bl true) .z,[some (Pd p,.z)],(.bl true,.z),[some (Pd p,.z)],by unfold bC;(nomatch [(nq _)]),rfl,rfl,_,rfl⟩⟩)
 have f:=uB (ds:=((ps.map Pd).filter fun _=>true).map fun _=>.bl true) (fun d hd=>by obtain ⟨_,_,rfl⟩:=BN.mp hd;rfl)
 generalize ((ps.map Pd).filter fun _=>true).map (fun _=>L3.D.bl true)=out at *
 have g:dg [some (Shd ps,.z)]=some (.ok (.val (.lst out) .u),[some (Shd ps,.z)]):=jb (im:=ig (af 0)) (ix:=[none]) (ρ1:=[some (Shd ps,.z)]) (ρ2:=[some (Shd ps,.z)]) (ds:=ps.map Pd) (rs:=[.pl 0]) rfl e (by simp;omega) rfl
 have b:leI (.int 1) (.int ((ps.map Pd).length:Int))=some (.bl true,.z):=by simp [dW];omega
 have i:leI (.int ((ps.map Pd).length:Int)) (.int 24)=some (.bl true,.z):=by simp [dW];omega
 apply cI (ρ:=[some (Shd ps,.z)]) rfl rfl
 ·apply lX
  ·apply lh
   ·apply sJ
    ·exact i_c
    ·nofun
    ·rfl
    ·rfl
    ·exact b
    ·exact i_c
    ·rfl
    ·rfl
    ·exact i
   ·rfl
   ·rfl
   ·(repeat' (first | with_reducible exact g | infer_instance | exact f | eq_refl))
  ·rfl
 ·rfl
theorem qE {xs:List L3.D} {k:Int} {d:L3.D} (h:L2.atI xs k=some d):bx (.tup xs) (.int k)=some (d,.z):=by
 show orD ixD kA (.tup xs) (.int k)=_
 simp [orD,ixD,h]
theorem xp {xs:List L3.D} {k:Int} {d:L3.D} (h:L2.atI xs k=some d):bx (.lst xs) (.int k)=some (d,.z):=by
 show orD ixD kA (.lst xs) (.int k)=_
 simp [orD,ixD,h]
theorem wK {A:List L3.D} {d:L3.D} (h:A.length < 16777216):uz (.lst A) [d]=some (.lst (A ++ [d]),.non):=by simp [uz,h]
theorem yG {A B:List L3.D} (h:A.length+B.length<=16777216):ce (.lst A) (.lst B)=some (.lst (A ++ B),.u):=by simp [orD,dW,qr,qp,qt,h]
theorem oV {A B:List L3.D} (h:A.length+B.length<=16777216):ce (.tup A) (.tup B)=some (.tup (A ++ B),.z):=by simp [orD,dW,qr,qp,qt,h]
theorem dG (c:Int) (m:Int) (h:0 < m):0<=c % m/\c % m < m:=⟨Int.emod_nonneg _ (by omega),Int.emod_lt_of_pos _ h⟩
theorem lD (n m:Int) (h:0 < m/\m < 1073741824):bD [(.lst [.int n],.u),(.int m,.z)]=some (.ok (.int (n % m),.z),[(.lst [.int (n / m)],.u),(.int m,.z)]):=by
 have hd:wx [.int n,.int m]=some (.tup [.int (n / m),.int (n % m)],.z):=by simp [c2,jf,h]
 apply cI (ρ:=[some (.lst [.int n],.u),some (.int m,.z),none,none]) rfl rfl
 ·apply aO
  ·exists hd
  ·apply aO
   ·nofun
   ·nofun
 ·rfl
theorem uV (p q r:Int × Int) (h1:-18446744073709551616 < q.1 - p.1/\q.1 - p.1 < 18446744073709551616) (h2:-18446744073709551616 < q.2 - p.2/\q.2 - p.2 < 18446744073709551616):gk [(Pd p,.z),(Pd q,.z),(Pd r,.z)]=some (.ok (.int (cq p q r),.z),[(Pd p,.z),(Pd q,.z),(Pd r,.z)]):=by
 apply cI (ρ:=[some (Pd p,.z),some (Pd q,.z),some (Pd r,.z),none,none,none]) rfl rfl
 ·apply aO
  ·nofun
  apply aO
  ·exists ie h1
  ·exists ie h2
 ·rfl
theorem uU (ns:List Int) (k:Nat):∃ n:Int,jB [(.fls (ns.map .int),.z),(.int k,.z)]=some (.ok (.int n,.z),[(.fls (ns.map .int),.z),(.int k,.z)]):=by
 by_cases h:k < ns.length
 ·refine ⟨ns[k],?_⟩
  have a:bx (.fls (ns.map .int)) (.int (k:Int))=some (.int ns[k],.z):=by
   have:L2.atI (ns.map L3.D.int) (k:Int)=some (.int ns[k]):=sY (by simp [h])
   simp [orD,ixD,this]
  have b:(k:Int) < ((ns.map L3.D.int).length:Int):=by simp;omega
  generalize (k:Int)=kk at *
  apply cI (ρ:=[some (.fls (ns.map .int),.z),some (.int kk,.z)]) rfl rfl
  ·apply lx
   apply kz
   ·nofun
   ·exact BU b
   ·exists a
  ·rfl
 ·refine ⟨0,?_⟩
  have b:¬ (k:Int) < ((ns.map L3.D.int).length:Int):=by simp;omega
  generalize (k:Int)=kk at *
  apply cI (ρ:=[some (.fls (ns.map .int),.z),some (.int kk,.z)]) rfl rfl
  ·apply aO
   ·apply lY
    ·nofun
    ·exact BV b
    ·rfl
   ·nofun
  ·rfl
theorem xu (c j:Int):∃ n:Int,lm [(.int c,.z),(.int j,.z)]=some (.ok (.int n,.z),[(.int c,.z),(.int j,.z)]):=by
 have a:=dG c 2147483647 (by decide)
 have b:=dG j 13 (by decide)
 obtain ⟨m,hm⟩:∃ m:Nat,j % 13=m:=⟨(j % 13).toNat,by omega⟩
 have d:m < 13:=by omega
 have e:∃ v:Int,bx (.lst [.int 48271,.int 69621,.int 16807,.int 39373,.int 30269,.int 40014,.int 40692,.int 50021,.int 61687,.int 71993,.int 83869,.int 95561,.int 30307]) (.int (j % 13))=some (.int v,.z):=by
  rw [hm]
  clear hm
  match m,d with
  | 0,_=>exact ⟨_,rfl⟩
  | 1,_=>exact ⟨_,rfl⟩
  | 2,_=>exact ⟨_,rfl⟩
  | 3,_=>exact ⟨_,rfl⟩
  | 4,_=>exact ⟨_,rfl⟩
  | 5,_=>exact ⟨_,rfl⟩
  | 6,_=>exact ⟨_,rfl⟩
  | 7,_=>exact ⟨_,rfl⟩
  | 8,_=>exact ⟨_,rfl⟩
  | 9,_=>exact ⟨_,rfl⟩
  | 10,_=>exact ⟨_,rfl⟩
  | 11,_=>exact ⟨_,rfl⟩
  | 12,_=>exact ⟨_,rfl⟩
 obtain ⟨v,f⟩:=e
 have c1:-18446744073709551616 < c % 2147483647+12345/\c % 2147483647+12345 < 18446744073709551616:=by omega
 have c2:∀ z:Int,-18446744073709551616 < z % 1000000007/\z % 1000000007 < 18446744073709551616:=fun z=>by
  have:=dG z 1000000007 (by decide)
  omega
 apply Exists.intro
 apply cI (ρ:=[some (.int c,.z),some (.int j,.z),none,none]) rfl rfl
 ·apply aO
  ·nofun
  apply aO
  ·exists f,ie (by decide),ie c1
  apply aO
  ·nofun
  ·exists ie (by decide),ie (c2 _)
 ·rfl
theorem xw (ns:List Int) (k:Nat):∃ n:Int,lq [(.fls (ns.map .int),.z),(.int k,.z)]=some (.ok (.lst [.int n],.u),[(.fls (ns.map .int),.z),(.int k,.z)]):=by
 obtain ⟨c,a⟩:=uU ns k
 generalize L3.D.fls (ns.map .int)=S at *
 generalize L3.D.int (k:Int)=kk at *
 by_cases h:c % 2=0
 ·apply Exists.intro
  apply cI (ρ:=[some (S,.z),some (kk,.z),none,none,none]) rfl rfl
  ·apply aO
   ·nomatch [a]
   apply lx
   apply kz
   ·nofun
   ·exact BU h
   ·nofun
  ·rfl
 ·obtain ⟨ρ',e,n,v4,rfl⟩:=dX (bnd:=aM 4) (b:=ir) (fun _ ρ=>∃ (n:Int) (v4:Option (L3.D × Fl)),ρ=[some (S,.z),some (kk,.z),some (.int c,.z),some (.int n,.z),v4]) (ds:=cS 0 40) (ρ:=[some (S,.z),some (kk,.z),some (.int c,.z),some (.int 0,.z),none]) (k:=0) ⟨0,none,rfl⟩ (by
   rintro i d ρ hd ⟨n,v4,rfl⟩
   obtain ⟨hi,rfl⟩:=fW hd
   obtain ⟨m,hm⟩:=xu c (0+(i:Int))
   generalize (0+(i:Int))=j at *
   exact ⟨_,[some (S,.z),some (kk,.z),some (.int c,.z),some (.int (n * 142857143+m),.z),some (.int j,.z)],rfl,.inl (by unfold ir;(nomatch [hm],[vK (by decide)])),_,_,rfl⟩)
  refine ⟨n,?_⟩
  apply cI (ρ:=[some (S,.z),some (kk,.z),none,none,none]) rfl rfl
  ·apply aO
   ·nomatch [a]
   apply aO
   ·apply lY
    ·nofun
    ·exact BV h
    ·rfl
   apply aO
   ·nofun
   apply aO
   ·apply nJ
    ·exact ky (by (nofun)) rfl (fj (n:=40) (by decide) (by decide))
    ·rfl
    ·exact e
   ·nofun
  ·rfl
theorem wn {X Z:L3.D} {f:Fl} {k:L3.D} {p q:L3.D} {b:Int} (a:gk [(p,.z),(q,.z),(Z,.z)]=some (.ok (.int b,.z),[(p,.z),(q,.z),(Z,.z)])) :
  c9 [some (X,f),some (Z,.z),some (k,.z),some (q,.z),some (p,.z)]=some (.ok (if b=0 then .rt (.bl false) .z else .nx),[some (X,f),some (Z,.z),some (k,.z),some (q,.z),some (p,.z)]):=by
 by_cases h:b=0
 ·rw [if_pos h]
  apply kz
  ·nomatch [a]
  ·exact BU h
  ·nofun
 ·rw [if_neg h]
  apply lY
  ·nomatch [a]
  ·exact BV h
  ·rfl
theorem uT (ps:List Pt) (z:Pt) (x:∀ p ∈ ps,Small p) (E:ps.length<=24):∃ b:Bool,eV [(.lst (ps.map Pd),.u),(Pd z,.z)]=some (.ok (.bl b,.z),[(.lst (ps.map Pd),.u),(Pd z,.z)])/\(b=true->wR ps z)/\(b=false->∃ (i j:Nat) (p q:Pt),i < j/\ps[i]?=some p/\ps[j]?=some q/\cq p q z=0):=by
 have inner:∀ (i:Nat) (q:Pt) (v4:Option (L3.D × Fl)),ps[i]?=some q->∃ a,fA (aM 4) c9 ((ps.take i).map Pd) [some (.lst (ps.map Pd),.l),some (Pd z,.z),some (.int i,.z),some (Pd q,.z),v4]=some (.ok .nx,[some (.lst (ps.map Pd),.l),some (Pd z,.z),some (.int i,.z),some (Pd q,.z),a])/\(∀ j p,j < i->ps[j]?=some p->cq p q z ≠ 0) \/
   fA (aM 4) c9 ((ps.take i).map Pd) [some (.lst (ps.map Pd),.l),some (Pd z,.z),some (.int i,.z),some (Pd q,.z),v4]=some (.ok (.rt (.bl false) .z),[some (.lst (ps.map Pd),.l),some (Pd z,.z),some (.int i,.z),some (Pd q,.z),a])/\∃ j p,j < i/\ps[j]?=some p/\cq p q z=0:=by
  intro i q v4 t
  have hi:i < ps.length:=(BK.mp t).1
  obtain ⟨ρ',h⟩:=oM (bnd:=aM 4) (b:=c9) (fun m ρ=>∃ v4,ρ=[some (.lst (ps.map Pd),.l),some (Pd z,.z),some (.int i,.z),some (Pd q,.z),v4]/\∀ j p,j < m->ps[j]?=some p->cq p q z ≠ 0)
   (fun m r f ρ=>r=.bl false/\f=.z/\∃ v4,ρ=[some (.lst (ps.map Pd),.l),some (Pd z,.z),some (.int i,.z),some (Pd q,.z),v4]/\∃ p,ps[m]?=some p/\cq p q z=0)
   (ds:=(ps.take i).map Pd) (ρ:=[some (.lst (ps.map Pd),.l),some (Pd z,.z),some (.int i,.z),some (Pd q,.z),v4]) (k:=0) ⟨v4,rfl,fun j p h=>absurd h (Nat.not_lt_zero _)⟩ (by
    rintro m d ρ hd ⟨v4,rfl,w⟩
    rw [BO,BB] at hd
    obtain ⟨p,g,rfl⟩:=hd
    have o:ps[m]?=some p/\m < i:=by
     rw [List.getElem?_take] at g
     split at g
     ·exact ⟨g,by assumption⟩
     ·cases g
    have sm:=Small.sub (x p (BL o.1)) (x q (BL t))
    have rb:=uV p q z sm.1 sm.2
    have rb:=wn (X:=.lst (ps.map Pd)) (f:=.l) (k:=.int (i:Int)) rb
    by_cases h0:cq p q z=0
    ·rw [if_pos h0] at rb
     exact ⟨_,_,rfl,.inr ⟨.bl false,.z,rb,rfl,rfl,_,rfl,p,by simpa using o.1,h0⟩⟩
    ·rw [if_neg h0] at rb
     refine ⟨_,_,rfl,.inl ⟨.inl rb,_,rfl,fun j y v n=>?_⟩⟩
     by_cases e:j=m
     ·subst e;rw [o.1] at n;cases n;exact h0
     ·exact w j y (by omega) n)
  rcases h with ⟨e,a,rfl,h⟩ | ⟨m,r,f,hm,e,rfl,rfl,a,rfl,p,g,h0⟩
  ·exact ⟨a,.inl ⟨e,fun j p v=>h j p (by simp;omega)⟩⟩
  ·refine ⟨a,.inr ⟨e,m,p,by simp at hm;omega,by simpa using g,h0⟩⟩
 obtain ⟨ρ',h⟩:=oM (bnd:=iG 2 (bS (aM 2) (bS (aM 3) iH))) (b:=el) (fun m ρ=>∃ v2 v3 v4,ρ=[some (.lst (ps.map Pd),.l),some (Pd z,.z),v2,v3,v4]/\∀ i j p q,i < j->j < m->ps[i]?=some p->ps[j]?=some q->cq p q z ≠ 0)
   (fun m r f ρ=>r=.bl false/\f=.z/\∃ v2 v3 v4,ρ=[some (.lst (ps.map Pd),.l),some (Pd z,.z),v2,v3,v4]/\∃ (i j:Nat) (p q:Pt),i < j/\ps[i]?=some p/\ps[j]?=some q/\cq p q z=0)
   (ds:=gc 0 (ps.map Pd)) (ρ:=[some (.lst (ps.map Pd),.l),some (Pd z,.z),none,none,none]) (k:=0) ⟨_,_,_,rfl,fun i j p q _ h=>absurd h (Nat.not_lt_zero _)⟩ (by
    rintro m d ρ hd ⟨v2,v3,v4,rfl,w⟩
    rw [jY,BO,Option.map_map,BB] at hd
    obtain ⟨q,t,rfl⟩:=hd
    have hm:m < ps.length:=(BK.mp t).1
    obtain ⟨a,h⟩:=inner m q v4 t
    have sl:=yD (xs:=ps.map Pd) (m:=m) (by simp;omega)
    rw [<- List.map_take] at sl
    rcases h with ⟨e,h⟩ | ⟨e,j,p,v,g,h0⟩
    ·refine ⟨_,[some (.lst (ps.map Pd),.l),some (Pd z,.z),some (.int m,.z),some (Pd q,.z),a],by simp [aM,iG,bS,iH];rfl,.inl ⟨.inl (by simp [el,ag,a9,ba,der,af,mC,ao,mUn,aj,aa,cO,aY,fV,aJ,bc,rY,bb,lC,sIf,aH,dP,lowAt,nol,frz,ua,pls,gives,p9,orD,dW,ixD,kA,aM,iH,bS,iG,fnM,fn0,eA,dF,mP,c1,c2,jf,og,pA,qV,kh,mSl,slD,kj,iY,asI,cB,yH,cOr,jv,hU,mOr,rl,mIf,fu,asB,eqS,eqA,aK,prs,eM,back,jR,nE,kM,qW,isN,yh,ku,rp,wN,uE,vU,orC,qr,qp,qt,L2.atI,ixN,eK,ig,uQ,-List.map_take,sl,aP,us,e]),_,_,_,rfl,fun i j p C c v hi s=>?_⟩⟩
     by_cases B:j=m
     ·subst B;rw [t] at s;cases s;exact h i p c hi
     ·exact w i j p C c (by omega) hi s
    ·refine ⟨_,[some (.lst (ps.map Pd),.l),some (Pd z,.z),some (.int m,.z),some (Pd q,.z),a],by simp [aM,iG,bS,iH];rfl,.inr ⟨.bl false,.z,by simp [el,ag,a9,ba,der,af,mC,ao,mUn,aj,aa,cO,aY,fV,aJ,bc,rY,bb,lC,sIf,aH,dP,lowAt,nol,frz,ua,pls,gives,p9,orD,dW,ixD,kA,aM,iH,bS,iG,fnM,fn0,eA,dF,mP,c1,c2,jf,og,pA,qV,kh,mSl,slD,kj,iY,asI,cB,yH,cOr,jv,hU,mOr,rl,mIf,fu,asB,eqS,eqA,aK,prs,eM,back,jR,nE,kM,qW,isN,yh,ku,rp,wN,uE,vU,orC,qr,qp,qt,L2.atI,ixN,eK,ig,uQ,-List.map_take,sl,aP,us,e],rfl,rfl,_,_,_,rfl,j,m,p,q,v,g,t,h0⟩⟩)
 rcases h with ⟨e,v2,v3,v4,rfl,h⟩ | ⟨m,r,f,hm,e,rfl,rfl,v2,v3,v4,rfl,A⟩
 ·refine ⟨true,?_,fun _ i j p q c hi v=>h i j p q c ?_ hi v,fun h=>by cases h⟩
  ·simp [eV,lS,ag,a9,ba,der,af,mC,ao,mUn,aj,aa,cO,aY,fV,aJ,bc,rY,bb,lC,sIf,aH,dP,lowAt,nol,frz,ua,pls,gives,p9,orD,dW,ixD,kA,aM,iH,bS,iG,fnM,fn0,eA,dF,mP,c1,c2,jf,og,pA,qV,kh,mSl,slD,kj,iY,asI,cB,yH,cOr,jv,hU,mOr,rl,mIf,fu,asB,eqS,eqA,aK,prs,eM,back,jR,nE,kM,qW,isN,yh,ku,rp,wN,uE,vU,orC,qr,qp,qt,L2.atI,ixN,eK,lW,aP,us,iZ,cP,fN,e]
  ·have:=(BK.mp v).1
   simp [jX];omega
 ·refine ⟨false,?_,fun h=>(by cases h),fun _=>A⟩
  simp [eV,lS,ag,a9,ba,der,af,mC,ao,mUn,aj,aa,cO,aY,fV,aJ,bc,rY,bb,lC,sIf,aH,dP,lowAt,nol,frz,ua,pls,gives,p9,orD,dW,ixD,kA,aM,iH,bS,iG,fnM,fn0,eA,dF,mP,c1,c2,jf,og,pA,qV,kh,mSl,slD,kj,iY,asI,cB,yH,cOr,jv,hU,mOr,rl,mIf,fu,asB,eqS,eqA,aK,prs,eM,back,jR,nE,kM,qW,isN,yh,ku,rp,wN,uE,vU,orC,qr,qp,qt,L2.atI,ixN,eK,lW,aP,us,iZ,cP,fN,e]
theorem sq_le {i:Nat} (h:i < 12):0<=(i:Int) * (i:Int)/\(i:Int) * (i:Int)<=144:=by
 have h1:i * i<=12 * 12:=Nat.mul_le_mul (by omega) (by omega)
 have h2:(i:Int) * (i:Int)=((i * i:Nat):Int):=by simp
 rw [h2];omega
theorem wV {i:Nat} {g kd:Int} (hi:i < 12) (b:-15<=g) (g1:g<=15) (k0:0<=kd) (k1:kd < 6) :
  ∃ y:Int,bx (.lst [.int g,.int g,.int ((i:Int) * i+g / 9),.int (g / 9 - (i:Int) * i),.int (((i:Int) * i+30) * (1 - 2 * ((i:Int) % 2))),.int (g * 1000)]) (.int kd)=some (.int y,.z)/\-16000<=y/\y<=16000:=by
 obtain ⟨d,c⟩:=sq_le hi
 obtain ⟨j,rfl⟩:∃ j:Nat,kd=(j:Int):=⟨kd.toNat,by omega⟩
 have a:j < 6:=by omega
 generalize (i:Int) * (i:Int)=qq at *
 have hm:(qq+30) * (1 - 2 * ((i:Int) % 2))<=16000/\-16000<=(qq+30) * (1 - 2 * ((i:Int) % 2)):=by
  rcases Int.emod_two_eq (i:Int) with e | e
  ·rw [e];simp;omega
  ·rw [e];simp;omega
 generalize (qq+30) * (1 - 2 * ((i:Int) % 2))=zz at *
 match j,a with
 | 0,_=>exact ⟨_,rfl,by omega,by omega⟩
 | 1,_=>exact ⟨_,rfl,by omega,by omega⟩
 | 2,_=>exact ⟨_,rfl,by omega,by omega⟩
 | 3,_=>exact ⟨_,rfl,by omega,by omega⟩
 | 4,_=>exact ⟨_,rfl,by omega,by omega⟩
 | 5,_=>exact ⟨_,rfl,by omega,by omega⟩
abbrev cR (n most many kd x:Int) (ps:List Pt) (v6 v7 v8 v9:Option (L3.D × Fl)):Sto:=[some (.lst [.int n],.u),some (.int most,.z),some (.int many,.z),some (.int kd,.z),some (.int x,.z),some (.lst (ps.map Pd),.u),v6,v7,v8,v9]
theorem qK {n most many kd x y0:Int} {ps:List Pt} {v6 v7 v8:Option (L3.D × Fl)} (R:Rising ps) (h:∀ p ∈ ps,Small p) (r:ps.length<=12) :
  ∃ y,fU cz dD (cR n most many kd x ps v6 v7 v8 (some (.int y0,.z)))=some (.ok .nx,cR n most many kd x ps v6 v7 v8 (some (.int y,.z)))/\wR ps (x,y)/\y0<=y/\y<=y0+144:=by
 have f:above ps x y0<=144:=by
  have h1:=wP ps x y0
  have h2:ps.length * ps.length<=12 * 12:=Nat.mul_le_mul (by omega) (by omega)
  omega
 obtain ⟨ρ',e,y,rfl,hf,h1,h2⟩:=tj (c:=cz) (b:=dD) (fun m ρ=>∃ y:Int,ρ=cR n most many kd x ps v6 v7 v8 (some (.int y,.z))/\m=above ps x y/\y0<=y/\y+(above ps x y:Int)<=y0+(above ps x y0:Int))
  (fun ρ=>∃ y:Int,ρ=cR n most many kd x ps v6 v7 v8 (some (.int y,.z))/\wR ps (x,y)/\y0<=y/\y<=y0+144) (ρ:=cR n most many kd x ps v6 v7 v8 (some (.int y0,.z))) ⟨y0,rfl,rfl,Int.le_refl _,Int.le_refl _⟩ (by
   rintro m ρ ⟨y,rfl,rfl,h1,h2⟩
   obtain ⟨b,k,l,hf⟩:=uT ps (x,y) h (by omega)
   have g:cz (cR n most many kd x ps v6 v7 v8 (some (.int y,.z)))=some (.ok (!b),cR n most many kd x ps v6 v7 v8 (some (.int y,.z))):=by
    unfold cz
    nomatch [k]
   cases b with
   | true=>exact .inl ⟨_,g,y,rfl,l rfl,h1,by omega⟩
   | false =>
    obtain ⟨i,j,p,q,a,e1,o,h0⟩:=hf rfl
    have d:=wO R a e1 o h0
    exact .inr ⟨_,cR n most many kd x ps v6 v7 v8 (some (.int (y+1),.z)),_,g,.inl (by unfold dD;(nofun)),d,y+1,rfl,rfl,by omega,by omega⟩)
 exact ⟨y,e,hf,h1,h2⟩
theorem uR {n most many kd x:Int} {i:Nat} {ps:List Pt} {v7 v8 v9:Option (L3.D × Fl)} (R:Rising ps) (q:∀ p ∈ ps,Small p) (k:ps.length<=12) (hi:i < 12) (k0:0<=kd) (k1:kd < 6) :
  ∃ (v d y:Int) (b e c:Option (L3.D × Fl)),cA (cR n most many kd x ps (some (.int i,.z)) v7 v8 v9)=some (.ok .nx,cR v most many kd (x+1+d) (ps ++ [(x+1+d,y)]) (some (.int i,.z)) b e c)/\0<=d/\d < 3/\wR ps (x+1+d,y)/\-16000<=y/\y<=16144:=by
 have t:=lD
 have w:=dG (n / 3) 31 (by decide)
 have j:=dG n 3 (by decide)
 generalize r:n / 3 % 31 - 15=G at *
 obtain ⟨y0,o,B,A⟩:=wV (i:=i) (g:=G) (kd:=kd) hi (by omega) (by omega) k0 k1
 have f:-18446744073709551616 < (i:Int)/\(i:Int) < 18446744073709551616:=by omega
 have m:-18446744073709551616 < 1 - 2 * ((i:Int) % 2)/\1 - 2 * ((i:Int) % 2) < 18446744073709551616:=by omega
 generalize a:x+1+n % 3=X at *
 obtain ⟨y,l,hf,h1,h2⟩:=qK (n:=n / 3 / 31) (most:=most) (many:=many) (kd:=kd) (x:=X) (y0:=y0) (ps:=ps) (v6:=some (.int i,.z)) (v7:=some (.int G,.z)) (v8:=some (.lst [.int G,.int G,.int ((i:Int) * i+G / 9),.int (G / 9 - (i:Int) * i),.int (((i:Int) * i+30) * (1 - 2 * ((i:Int) % 2))),.int (G * 1000)],.u)) R q k
 refine ⟨n / 3 / 31,n % 3,y,some (.int G,.z),some (.lst [.int G,.int G,.int ((i:Int) * i+G / 9),.int (G / 9 - (i:Int) * i),.int (((i:Int) * i+30) * (1 - 2 * ((i:Int) % 2))),.int (G * 1000)],.u),some (.int y,.z),?_,j.1,j.2,by rw [a];exact hf,by omega,by omega⟩
 rw [a]
 have s:(ps.map Pd).length < 16777216:=by simp;omega
 have h:=wK (d:=Pd (X,y)) s
 rw [show ps.map Pd ++ [Pd (X,y)]=(ps ++ [(X,y)]).map Pd by simp] at h
 clear hi
 generalize (i:Int)=zi at *
 unfold cA
 apply aO (ρ1:=cR (n / 3) most many kd X ps (some (.int zi,.z)) v7 v8 v9)
 ·rw [<- a]
  nomatch [(t _ _ (by decide))]
 apply aO (ρ1:=cR (n / 3 / 31) most many kd X ps (some (.int zi,.z)) (some (.int G,.z)) v8 v9)
 ·rw [<- r]
  nomatch [(t _ _ (by decide))]
 apply aO (ρ1:=cR (n / 3 / 31) most many kd X ps (some (.int zi,.z)) (some (.int G,.z)) (some (.lst [.int G,.int G,.int (zi * zi+G / 9),.int (G / 9 - zi * zi)],.u)) v9)
 ·exists ie f
 apply aO (ρ1:=cR (n / 3 / 31) most many kd X ps (some (.int zi,.z)) (some (.int G,.z)) (some (.lst [.int G,.int G,.int (zi * zi+G / 9),.int (G / 9 - zi * zi),.int ((zi * zi+30) * (1 - 2 * (zi % 2))),.int (G * 1000)],.u)) v9)
 ·exists ie f,ie (by decide),vK m,vK (by decide)
 apply aO (ρ1:=cR (n / 3 / 31) most many kd X ps (some (.int zi,.z)) (some (.int G,.z)) (some (.lst [.int G,.int G,.int (zi * zi+G / 9),.int (G / 9 - zi * zi),.int ((zi * zi+30) * (1 - 2 * (zi % 2))),.int (G * 1000)],.u)) (some (.int y0,.z)))
 ·exists o
 apply aO
 ·exact l
 ·exists h
theorem uS {n most many kd x:Int} (hm:0<=many/\many<=12) (k0:0<=kd) (k1:kd < 6) (x0:-4<=x) (v:x<=4) :
  ∃ (g j:Int) (ps:List Pt) (v6 v7 v8 v9:Option (L3.D × Fl)),eK (cj eR (aa (af 2) aj)) (aM 6) cA (cR n most many kd x [] none none none none)=some (.ok .nx,cR g most many kd j ps v6 v7 v8 v9)/\(ps.length:Int)=many/\Rising ps/\NoLine ps/\(∀ q ∈ ps,-5<=q.1/\q.1<=100/\-17000<=q.2/\q.2<=17000):=by
 obtain ⟨ρ',e,g,j,ps,v6,v7,v8,v9,rfl,l,c,f,bnd,h1,h2⟩:=dX (bnd:=aM 6) (b:=cA) (fun i ρ=>∃ (n x:Int) (ps:List Pt) (v6 v7 v8 v9:Option (L3.D × Fl)),ρ=cR n most many kd x ps v6 v7 v8 v9/\ps.length=i/\Rising ps/\NoLine ps/\(∀ q ∈ ps,q.1<=x/\-5<=q.1/\-17000<=q.2/\q.2<=17000)/\-4<=x/\x<=4+3 * (i:Int))
  (ds:=cS 0 many.toNat) (ρ:=cR n most many kd x [] none none none none) (k:=0) ⟨n,x,[],none,none,none,none,rfl,rfl,fun _ _ _ _ _ e _=>by simp at e,fun _ _ _ _ _ _ _ _ e _ _=>by simp at e,fun _ e=>by simp at e,by omega,by omega⟩ (by
   rintro i d ρ hd ⟨n,x,ps,v6,v7,v8,v9,rfl,l,c,f,bnd,h1,h2⟩
   obtain ⟨hi,rfl⟩:=fW hd
   have h:∀ q ∈ ps,Small q:=fun q a=>by
    obtain ⟨a1,a2,o,m⟩:=bnd q a
    exact ⟨by omega,by omega,by omega,by omega⟩
   obtain ⟨g,dd,y,p,s,r,e,A,w,fr,y0,u⟩:=uR (n:=n) (most:=most) (many:=many) (kd:=kd) (x:=x) (i:=i) (ps:=ps) (v7:=v7) (v8:=v8) (v9:=v9) c h (by omega) (by omega) k0 k1
   refine ⟨cR n most many kd x ps (some (.int i,.z)) v7 v8 v9,_,by rw [Int.zero_add];rfl,.inl e,g,x+1+dd,ps ++ [(x+1+dd,y)],_,_,_,_,rfl,by simp;omega,c.snoc fun q a=>?_,f.snoc fr,fun q a=>?_,by omega,by omega⟩
   ·show q.1 < x+1+dd
    have:=(bnd q a).1
    omega
   ·rcases BH.mp a with a | a
    ·obtain ⟨a1,a2,o,m⟩:=bnd q a
     exact ⟨by omega,by omega,by omega,by omega⟩
    ·have e:q=(x+1+dd,y):=by simpa using a
     subst e
     exact ⟨Int.le_refl _,by show -5<=x+1+dd;omega,by show -17000<=y;omega,by show y<=17000;omega⟩)
 rw [pE] at l h2
 have t:eR [.int many]=some (cS 0 many.toNat):=fj (by omega) rfl
 refine ⟨g,j,ps,v6,v7,v8,v9,?_,by omega,c,f,fun q a=>?_⟩
 ·apply nJ
  ·(repeat' (first | with_reducible apply ky (h3:=t) | infer_instance | eq_refl))
  ·rfl
  ·exact e
 ·obtain ⟨a1,a2,o,m⟩:=bnd q a
  exact ⟨by omega,by omega,by omega,by omega⟩
abbrev scJ (p:Pt):Pt:=io 1000000000000 1000000000 7 p
theorem pow12:vt (.int 10) (.int 12)=some (.int 1000000000000,.z):=rfl
theorem pow9:vt (.int 10) (.int 9)=some (.int 1000000000,.z):=rfl
theorem tJ (ps:List Pt) (f:ps.length<=24) {n most many kd x:Int} {v6 v7 v8 v9:Option (L3.D × Fl)}:bb 5 dC (cR n most many kd x ps v6 v7 v8 v9)=some (.ok .nx,cR n most many kd x (ps.map scJ) v6 v7 v8 v9):=by
 obtain ⟨τ',e,a,b,rfl⟩:=gf (bnd:=iG 2 (bS (aM 0) (bS (aM 1) iH))) (c:=kc) (elt:=fq) (fun τ=>∃ a b,τ=[a,b]) Pd (fun _=>true) (fun p=>Pd (scJ p)) (xs:=ps) (τ:=[none,none]) ⟨none,none,rfl⟩ (by
  rintro p g τ ⟨a,b,rfl⟩
  exact ⟨[some (.int p.1,.z),some (.int p.2,.z)],_,rfl,rfl,(fun h=>by cases h),fun _=>⟨.val (Pd (scJ p)) .z,[some (.int p.1,.z),some (.int p.2,.z)],(Pd (scJ p),.z),_,by unfold fq;(exists pow12,pow9,ie (by decide)),rfl,rfl,_,_,rfl⟩⟩)
 rw [Cg.mpr (fun _ _=>rfl)] at e
 have d:dC (cR n most many kd x ps v6 v7 v8 v9)=some (.ok (.val (.lst (ps.map fun p=>Pd (scJ p))) .u),cR n most many kd x ps v6 v7 v8 v9):=jb (rs:=[.pl 5]) (ρ1:=cR n most many kd x ps v6 v7 v8 v9) (ρ2:=[some (.lst [.int n],.u),some (.int most,.z),some (.int many,.z),some (.int kd,.z),some (.int x,.z),some (.lst (ps.map Pd),.l),v6,v7,v8,v9]) rfl e (by simp;omega) rfl
 rw [show (ps.map fun p=>Pd (scJ p))=(ps.map scJ).map Pd by simp] at d
 exact zb d rfl (Nat.le_of_ble_eq_true rfl) rfl
theorem tH (n most:Int) (h1:1<=most) (h2:most<=12):∃ (b:Int) (ps:List Pt),eU [(.lst [.int n],.u),(.int most,.z)]=some (.ok (.tup (ps.map Pd),.z),[(.lst [.int b],.u),(.int most,.z)])/\GoodSh ps/\(ps.length:Int)<=most:=by
 have t:=lD
 have a0:=dG n most (by omega)
 have b0:=dG (n / most) 6 (by decide)
 have m:=dG (n / most / 6) 9 (by decide)
 obtain ⟨b,k,ps,v6,v7,v8,v9,e,l,c,d,bnd⟩:=uS (n:=n / most / 6 / 9) (most:=most) (many:=1+n % most) (kd:=n / most % 6) (x:=n / most / 6 % 9 - 4) ⟨by omega,by omega⟩ b0.1 b0.2 (by omega) (by omega)
 have good:GoodSh ps:=⟨by omega,by omega,fun q g=>by
  obtain ⟨a1,a2,j,i⟩:=bnd q g
  exact ⟨by omega,by omega,by omega,by omega⟩,c,d⟩
 have a:GoodSh (ps.map scJ):=⟨by simpa using good.pos,by simpa using good.most,fun q g=>by
  obtain ⟨r,f,rfl⟩:=BN.mp g
  obtain ⟨a1,a2,j,i⟩:=bnd r f
  exact ⟨by show -(2 ^ 62) < (1000000000000:Int) * r.1+7;omega,by show (1000000000000:Int) * r.1+7 < 2 ^ 62;omega,by show -(2 ^ 62) < (1000000000:Int) * r.2;omega,by show (1000000000:Int) * r.2 < 2 ^ 62;omega⟩,c.scale (by decide),d.scale (by decide) (by decide)⟩
 have pre:∀ {r:Option (Except L3.D Flw × Sto)},aJ (sIf (cB (ao eqX (aK bD (aa (af 0) (aa (mC (.int 6)) aj))) (mC (.int 5)))) (bb 5 dC) fV) (bc 2 (aY tv (aa (af 5) aj))) (cR b most (1+n % most) (n / most % 6) k ps v6 v7 v8 v9)=r->nC [some (.lst [.int n],.u),some (.int most,.z),none,none,none,none,none,none,none,none]=r:=by
  intro r f
  apply aO (ρ1:=[some (.lst [.int (n / most)],.u),some (.int most,.z),some (.int (1+n % most),.z),none,none,none,none,none,none,none])
  ·nomatch [(t n most (by omega))]
  apply aO (ρ1:=[some (.lst [.int (n / most / 6)],.u),some (.int most,.z),some (.int (1+n % most),.z),some (.int (n / most % 6),.z),none,none,none,none,none,none])
  ·nomatch [(t _ _ (by decide))]
  apply aO (ρ1:=[some (.lst [.int (n / most / 6 / 9)],.u),some (.int most,.z),some (.int (1+n % most),.z),some (.int (n / most % 6),.z),some (.int (n / most / 6 % 9 - 4),.z),none,none,none,none,none])
  ·nomatch [(t _ _ (by decide))]
  apply aO (ρ1:=cR (n / most / 6 / 9) most (1+n % most) (n / most % 6) (n / most / 6 % 9 - 4) [] none none none none)
  ·nofun
  exact aO e f
 by_cases h:b % 6=5
 ·refine ⟨b / 6,ps.map scJ,?_,a,by rw [BJ];omega⟩
  apply cI (ρ:=[some (.lst [.int n],.u),some (.int most,.z),none,none,none,none,none,none,none,none]) rfl rfl
  ·apply pre
   apply aO
   ·apply kz
    ·nomatch [(t _ _ (by decide))]
    ·exact BU h
    ·exact tJ ps (by omega)
   ·nofun
  ·rfl
 ·refine ⟨b / 6,ps,?_,good,by omega⟩
  apply cI (ρ:=[some (.lst [.int n],.u),some (.int most,.z),none,none,none,none,none,none,none,none]) rfl rfl
  ·apply pre
   apply aO
   ·apply lY
    ·nomatch [(t _ _ (by decide))]
    ·exact BV h
    ·rfl
   ·nofun
  ·rfl
section
variable {ρ ρ1 ρ2:Sto} {ms:M3 (List R3)} {rs:List R3} {d:L3.D} {fl:Fl} {e:L3.D} {m:EM} {sa sb:SM} {n:Nat}
theorem ak {F:Fn} {ps qs:List (L3.D × Fl)} (b:F ps=some (.error e,qs)) (h1:ms ρ=some (.ok rs,ρ1)) (h2:prs (frz (eM rs) ρ1) rs=some ps) (h3:qs.length=ps.length) (a:back rs ps qs (frz (eM rs) ρ1) = ρ2):aC F ms ρ=some (.error e,ρ2):=by
 simp only [aC,ag,h1,h2,b,h3,if_true,a]
theorem bd (h:sa ρ=some (.error e,ρ1)):aJ sa sb ρ=some (.error e,ρ1):=by simp only [aJ,ag,h]
theorem cT (h:m ρ=some (.error e,ρ1)):bc n m ρ=some (.error e,ρ1):=by simp only [bc,ag,h]
theorem au (h:m ρ=some (.error e,ρ1)):aH m ρ=some (.error e,ρ1):=by simp only [aH,ag,h]
theorem jT {i:Nat} (h:m ρ=some (.error e,ρ1)):bb i m ρ=some (.error e,ρ1):=by simp only [bb,ag,h]
theorem yq {c:String} (h:ms ρ=some (.ok rs,ρ1)) (a:rs.length<=1000):lB c ms ρ=some (.error (.exc c []),ρ1):=by simp only [lB,ag,h,a,if_true]
theorem aF {mask:List Bool} {ps qs:List (L3.D × Fl)} (h1:ps.length=mask.length) (h0:eA n (List.zipWith mP mask ps) = ρ) (h2:sa ρ=some (.error e,ρ1)) (h3:dF ρ1 0 (List.zipWith mP mask ps)=some qs):fnM mask n sa ps=some (.error e,qs):=by
 subst h0;simp only [fnM,h1,if_true,fn0,h2,h3,B6]
theorem A5 {cs:List String} {i:Nat} {c:String} (h1:sa ρ=some (.error (.exc c []),ρ1)) (a:c ∈ cs) (h2:sb (ρ1.set i (some (.exc c [],.z)))=some (.ok (.rt d fl),ρ2)):qJ cs i sa sb ρ=some (.ok (.rt d fl),ρ2):=by
 simp only [qJ,h1,a,if_true,h2]
end
def Bad (d:L3.D):Prop:=cf [(d,.z)]=some (.ok (.bl false,.z),[(d,.z)])
theorem fv {m:EM} {ms:M3 (List R3)} {ρ ρ1:Sto} {e:L3.D} (h:m ρ=some (.error e,ρ1)):aa m ms ρ=some (.error e,ρ1):=by simp only [aa,ag,h]
theorem fw {F:Fn} {ms:M3 (List R3)} {ρ ρ1:Sto} {e:L3.D} (h:ms ρ=some (.error e,ρ1)):aK F ms ρ=some (.error e,ρ1):=by simp only [aK,ag,h]
theorem aA {d:L3.D} (h:Bad d):ai [(d,.z)]=some (.error (.exc "NoSheet" []),[(d,.z)]):=by
 have h:cf [(d,.z)]=some (.ok (.bl false,.z),[(d,.z)]):=h
 apply aF (ρ:=[some (d,.z)]) (ρ1:=[some (d,.z)]) rfl rfl
 ·unfold fL
  refine kz (b:=true) (iB (oJ (bf h (ah (aq rfl) aw) rfl rfl rfl) rfl)) rfl ?_
  exact yq (ah i_c aw) (Nat.le_of_ble_eq_true rfl)
 ·rfl
theorem za {ρ:Sto} {k j:Int} (h0:(ρ[0]?).join=some (.int k,.z)):cB (ao eqX (af 0) (mC (.int j))) ρ=some (.ok (decide (k=j)),ρ) :=
 oJ (qc (da:=.int k) (aq h0) i_c (by simp [der,h0]) rfl rfl) rfl
theorem am {ρ:Sto} {k j:Int} {A B:SM} {x:Option (Except L3.D Flw × Sto)} (h0:(ρ[0]?).join=some (.int k,.z)) (a:decide (k=j)=false) (h:B ρ=x):sIf (cB (ao eqX (af 0) (mC (.int j)))) A B ρ=x:=lY (za h0) a h
theorem bg {ρ:Sto} {k j:Int} {A B:SM} {x:Option (Except L3.D Flw × Sto)} (h0:(ρ[0]?).join=some (.int k,.z)) (a:decide (k=j)=true) (h:A ρ=x):sIf (cB (ao eqX (af 0) (mC (.int j)))) A B ρ=x:=kz (za h0) a h
theorem wr {d b a c:L3.D} (h:Bad d):jz [(d,.z),(b,.z),(a,.z),(c,.z)]=some (.error (.exc "NoSheet" []),[(d,.z),(b,.z),(a,.z),(c,.z)]):=aF (ρ:=[some (d,.z),some (b,.z),some (a,.z),some (c,.z),none]) (ρ1:=[some (d,.z),some (b,.z),some (a,.z),some (c,.z),none]) rfl rfl (bd (au (ak (aA h) (ah (aq rfl) aw) rfl rfl rfl))) rfl
theorem aZ {d:L3.D} (h:Bad d):ay [(d,.z)]=some (.error (.exc "NoSheet" []),[(d,.z)]):=aF (ρ:=[some (d,.z),none,none]) (ρ1:=[some (d,.z),none,none]) rfl rfl (bd (au (ak (aA h) (ah (aq rfl) aw) rfl rfl rfl))) rfl
theorem kP {d:L3.D} (h:Bad d):b6 [(d,.z)]=some (.error (.exc "NoSheet" []),[(d,.z)]):=aF (ρ:=[some (d,.z)]) (ρ1:=[some (d,.z)]) rfl rfl (bd (au (ak (aA h) (ah (aq rfl) aw) rfl rfl rfl))) rfl
theorem kS {d:L3.D} (h:Bad d):b9 [(d,.z)]=some (.error (.exc "NoSheet" []),[(d,.z)]):=aF (ρ:=[some (d,.z)]) (ρ1:=[some (d,.z)]) rfl rfl (bd (au (ak (aA h) (ah (aq rfl) aw) rfl rfl rfl))) rfl
theorem qg {d a:L3.D} (h:Bad d):eD [(d,.z),(a,.z)]=some (.error (.exc "NoSheet" []),[(d,.z),(a,.z)]):=aF (ρ:=[some (d,.z),some (a,.z)]) (ρ1:=[some (d,.z),some (a,.z)]) rfl rfl (bd (au (ak (aA h) (ah (aq rfl) aw) rfl rfl rfl))) rfl
theorem qf {d a:L3.D} (h:Bad d):eC [(d,.z),(a,.z)]=some (.error (.exc "NoSheet" []),[(d,.z),(a,.z)]):=aF (ρ:=[some (d,.z),some (a,.z)]) (ρ1:=[some (d,.z),some (a,.z)]) rfl rfl (bd (au (ak (aA h) (ah (aq rfl) aw) rfl rfl rfl))) rfl
theorem l5 {d:L3.D} (h:Bad d):cE [(d,.z)]=some (.error (.exc "NoSheet" []),[(d,.z)]):=aF (ρ:=[some (d,.z)]) (ρ1:=[some (d,.z)]) rfl rfl (bd (au (ak (aA h) (ah (aq rfl) aw) rfl rfl rfl))) rfl
theorem nP {d x0 a:L3.D} (h:Bad d):dN [(x0,.z),(d,.z),(a,.z)]=some (.error (.exc "NoSheet" []),[(x0,.z),(d,.z),(a,.z)]):=aF (ρ:=[some (x0,.z),some (d,.z),some (a,.z),none]) (ρ1:=[some (x0,.z),some (d,.z),some (a,.z),none]) rfl rfl (bd (jT (ak (aZ h) (ah (aq rfl) aw) rfl rfl rfl))) rfl
theorem rG {d x0:L3.D} (h:Bad d):fH [(x0,.z),(d,.z)]=some (.error (.exc "NoSheet" []),[(x0,.z),(d,.z)]):=aF (ρ:=[some (x0,.z),some (d,.z)]) (ρ1:=[some (x0,.z),some (d,.z)]) rfl rfl (cT (ak (nP h) (ah (aq rfl) (ah (aq rfl) (ah i_c aw))) rfl rfl rfl)) rfl
theorem rH {d x0:L3.D} (h:Bad d):fI [(x0,.z),(d,.z)]=some (.error (.exc "NoSheet" []),[(x0,.z),(d,.z)]):=aF (ρ:=[some (x0,.z),some (d,.z)]) (ρ1:=[some (x0,.z),some (d,.z)]) rfl rfl (cT (ak (nP h) (ah (aq rfl) (ah (aq rfl) (ah i_c aw))) rfl rfl rfl)) rfl
theorem ik {d a:L3.D} (h:Bad d):bF [(d,.z),(a,.z)]=some (.error (.exc "NoSheet" []),[(d,.z),(a,.z)]):=aF (ρ:=[some (d,.z),some (a,.z),none,none,none,none]) (ρ1:=[some (d,.z),some (a,.z),none,none,none,none]) rfl rfl (bd (jT (ak (aZ h) (ah (aq rfl) aw) rfl rfl rfl))) rfl
theorem mQ {d:L3.D} (h:Bad d):c6 [(d,.z)]=some (.error (.exc "NoSheet" []),[(d,.z)]):=aF (ρ:=[some (d,.z)]) (ρ1:=[some (d,.z)]) rfl rfl (cT (ak (ik h) (ah (aq rfl) (ah i_c aw)) rfl rfl rfl)) rfl
theorem mR {d:L3.D} (h:Bad d):c8 [(d,.z)]=some (.error (.exc "NoSheet" []),[(d,.z)]):=aF (ρ:=[some (d,.z)]) (ρ1:=[some (d,.z)]) rfl rfl (cT (ak (ik h) (ah (aq rfl) (ah i_c aw)) rfl rfl rfl)) rfl
theorem kQ {d:L3.D} (h:Bad d):b7 [(d,.z)]=some (.error (.exc "NoSheet" []),[(d,.z)]):=aF (ρ:=[some (d,.z)]) (ρ1:=[some (d,.z)]) rfl rfl (cT (fw (fv (ak (aZ h) (ah (aq rfl) aw) rfl rfl rfl)))) rfl
theorem kR {d:L3.D} (h:Bad d):b8 [(d,.z)]=some (.error (.exc "NoSheet" []),[(d,.z)]):=aF (ρ:=[some (d,.z)]) (ρ1:=[some (d,.z)]) rfl rfl (cT (fw (fv (ak (aZ h) (ah (aq rfl) aw) rfl rfl rfl)))) rfl
theorem jj {d x0 a:L3.D} (h:Bad d):bO [(x0,.z),(d,.z),(a,.z)]=some (.error (.exc "NoSheet" []),[(x0,.z),(d,.z),(a,.z)]):=aF (ρ:=[some (x0,.z),some (d,.z),some (a,.z),none,none]) (ρ1:=[some (x0,.z),some (d,.z),some (a,.z),none,none]) rfl rfl (bd (jT (ak (aZ h) (ah (aq rfl) aw) rfl rfl rfl))) rfl
theorem jZ {d x0:L3.D} (h:Bad d):bP [(x0,.z),(d,.z)]=some (.error (.exc "NoSheet" []),[(x0,.z),(d,.z)]):=aF (ρ:=[some (x0,.z),some (d,.z)]) (ρ1:=[some (x0,.z),some (d,.z)]) rfl rfl (cT (ak (jj h) (ah (aq rfl) (ah (aq rfl) (ah i_c aw))) rfl rfl rfl)) rfl
theorem j0 {d x0:L3.D} (h:Bad d):bQ [(x0,.z),(d,.z)]=some (.error (.exc "NoSheet" []),[(x0,.z),(d,.z)]):=aF (ρ:=[some (x0,.z),some (d,.z)]) (ρ1:=[some (x0,.z),some (d,.z)]) rfl rfl (cT (ak (jj h) (ah (aq rfl) (ah (aq rfl) (ah i_c aw))) rfl rfl rfl)) rfl
theorem me {d a b:L3.D} (h:Bad d):cL [(d,.z),(a,.z),(b,.z)]=some (.error (.exc "NoSheet" []),[(d,.z),(a,.z),(b,.z)]):=aF (ρ:=[some (d,.z),some (a,.z),some (b,.z),none,none]) (ρ1:=[some (d,.z),some (a,.z),some (b,.z),none,none]) rfl rfl (bd (au (ak (aA h) (ah (aq rfl) aw) rfl rfl rfl))) rfl
theorem rJ {d x0 a b:L3.D} (h:Bad d):fJ [(x0,.z),(d,.z),(a,.z),(b,.z)]=some (.error (.exc "NoSheet" []),[(x0,.z),(d,.z),(a,.z),(b,.z)]):=aF (ρ:=[some (x0,.z),some (d,.z),some (a,.z),some (b,.z)]) (ρ1:=[some (x0,.z),some (d,.z),some (a,.z),some (b,.z)]) rfl rfl (bd (au (ak (aA h) (ah (aq rfl) aw) rfl rfl rfl))) rfl
theorem rF {d a b:L3.D} (h:Bad d):fE [(d,.z),(a,.z),(b,.z)]=some (.error (.exc "NoSheet" []),[(d,.z),(a,.z),(b,.z)]):=aF (ρ:=[some (d,.z),some (a,.z),some (b,.z)]) (ρ1:=[some (d,.z),some (a,.z),some (b,.z)]) rfl rfl (bd (au (ak (aA h) (ah (aq rfl) aw) rfl rfl rfl))) rfl
theorem oR {d a:L3.D} (h:Bad d):dL [(d,.z),(a,.z)]=some (.error (.exc "NoSheet" []),[(d,.z),(a,.z)]):=aF (ρ:=[some (d,.z),some (a,.z),none]) (ρ1:=[some (d,.z),some (a,.z),none]) rfl rfl (bd (au (ak (aA h) (ah (aq rfl) aw) rfl rfl rfl))) rfl
theorem mf {d a:L3.D} (h:Bad d):cM [(d,.z),(a,.z)]=some (.error (.exc "NoSheet" []),[(d,.z),(a,.z)]):=aF (ρ:=[some (d,.z),some (a,.z),none]) (ρ1:=[some (d,.z),some (a,.z),none]) rfl rfl (bd (au (ak (aA h) (ah (aq rfl) aw) rfl rfl rfl))) rfl
theorem qi {d x0:L3.D} (h:Bad d):eI [(x0,.z),(d,.z)]=some (.error (.exc "NoSheet" []),[(x0,.z),(d,.z)]):=aF (ρ:=[some (x0,.z),some (d,.z)]) (ρ1:=[some (x0,.z),some (d,.z)]) rfl rfl (cT (fw (fv (ak (aZ h) (ah (aq rfl) aw) rfl rfl rfl)))) rfl
theorem bu {d a:L3.D} (h:Bad d):aI [(d,.z),(a,.z)]=some (.error (.exc "NoSheet" []),[(d,.z),(a,.z)]):=aF (ρ:=[some (d,.z),some (a,.z),none]) (ρ1:=[some (d,.z),some (a,.z),none]) rfl rfl (bd (jT (ak (aZ h) (ah (aq rfl) aw) rfl rfl rfl))) rfl
theorem qh {d a:L3.D} (h:Bad d):eE [(d,.z),(a,.z)]=some (.error (.exc "NoSheet" []),[(d,.z),(a,.z)]):=aF (ρ:=[some (d,.z),some (a,.z)]) (ρ1:=[some (d,.z),some (a,.z)]) rfl rfl (cT (fw (fv (ak (bu h) (ah (aq rfl) (ah (aq rfl) aw)) rfl rfl rfl)))) rfl
theorem oQ {d a:L3.D} (h:Bad d):dJ [(d,.z),(a,.z)]=some (.error (.exc "NoSheet" []),[(d,.z),(a,.z)]):=aF (ρ:=[some (d,.z),some (a,.z)]) (ρ1:=[some (d,.z),some (a,.z)]) rfl rfl (cT (fw (fv (ak (bu h) (ah (aq rfl) (ah (aq rfl) aw)) rfl rfl rfl)))) rfl
theorem md {d:L3.D} (h:Bad d):cJ [(d,.z)]=some (.error (.exc "NoSheet" []),[(d,.z)]):=aF (ρ:=[some (d,.z)]) (ρ1:=[some (d,.z)]) rfl rfl (bd (au (ak (aA h) (ah (aq rfl) aw) rfl rfl rfl))) rfl
theorem l6 {d a:L3.D} (h:Bad d):cF [(d,.z),(a,.z)]=some (.error (.exc "NoSheet" []),[(d,.z),(a,.z)]):=aF (ρ:=[some (d,.z),some (a,.z),none,none,none,none,none,none,none,none]) (ρ1:=[some (d,.z),some (a,.z),none,none,none,none,none,none,none,none]) rfl rfl (bd (au (ak (aA h) (ah (aq rfl) aw) rfl rfl rfl))) rfl
theorem jm {d:L3.D} (h:Bad d):bK [(d,.z)]=some (.error (.exc "NoSheet" []),[(d,.z)]):=aF (ρ:=[some (d,.z),none,none,none,none,none,none,none,none]) (ρ1:=[some (d,.z),none,none,none,none,none,none,none,none]) rfl rfl (bd (jT (ak (aZ h) (ah (aq rfl) aw) rfl rfl rfl))) rfl
theorem l7 {d:L3.D} (h:Bad d):cG [(d,.z)]=some (.error (.exc "NoSheet" []),[(d,.z)]):=aF (ρ:=[some (d,.z),none]) (ρ1:=[some (d,.z),none]) rfl rfl (bd (au (ak (aA h) (ah (aq rfl) aw) rfl rfl rfl))) rfl
theorem l8 {d x0:L3.D} (h:Bad d):cH [(x0,.z),(d,.z)]=some (.error (.exc "NoSheet" []),[(x0,.z),(d,.z)]):=aF (ρ:=[some (x0,.z),some (d,.z),none,none]) (ρ1:=[some (x0,.z),some (d,.z),none,none]) rfl rfl (bd (au (ak (aA h) (ah (aq rfl) aw) rfl rfl rfl))) rfl
theorem rE {d a:L3.D} (h:Bad d):fD [(d,.z),(a,.z)]=some (.error (.exc "NoSheet" []),[(d,.z),(a,.z)]):=aF (ρ:=[some (d,.z),some (a,.z)]) (ρ1:=[some (d,.z),some (a,.z)]) rfl rfl (cT (fw (fv (ak (bu h) (ah (aq rfl) (ah (aq rfl) aw)) rfl rfl rfl)))) rfl
theorem jl {d x0:L3.D} (h:Bad d):bJ [(x0,.z),(d,.z)]=some (.error (.exc "NoSheet" []),[(x0,.z),(d,.z)]):=aF (ρ:=[some (x0,.z),some (d,.z)]) (ρ1:=[some (x0,.z),some (d,.z)]) rfl rfl (cT (fw (fv (ak (aZ h) (ah (aq rfl) aw) rfl rfl rfl)))) rfl
theorem j1 {d a:L3.D} (h:Bad d):bR [(d,.z),(a,.z)]=some (.error (.exc "NoSheet" []),[(d,.z),(a,.z)]):=aF (ρ:=[some (d,.z),some (a,.z)]) (ρ1:=[some (d,.z),some (a,.z)]) rfl rfl (bd (au (ak (aA h) (ah (aq rfl) aw) rfl rfl rfl))) rfl
theorem iC {d:L3.D} (h:Bad d):bA [(d,.z)]=some (.error (.exc "NoSheet" []),[(d,.z)]):=aF (ρ:=[some (d,.z)]) (ρ1:=[some (d,.z)]) rfl rfl (bd (au (ak (aA h) (ah (aq rfl) aw) rfl rfl rfl))) rfl
theorem kT {d a:L3.D} (h:Bad d):cb [(d,.z),(a,.z)]=some (.error (.exc "NoSheet" []),[(d,.z),(a,.z)]):=aF (ρ:=[some (d,.z),some (a,.z),none,none,none]) (ρ1:=[some (d,.z),some (a,.z),none,none,none]) rfl rfl (bd (jT (ak (bu h) (ah (aq rfl) (ah (aq rfl) aw)) rfl rfl rfl))) rfl
theorem yC {d:L3.D} (h:Bad d):∀ k:Nat,k < 11->eG [(.int (k:Int),.z),(d,.z)]=some (.error (.exc "NoSheet" []),[(.int (k:Int),.z),(d,.z)])
 | 0,_=>aF (ρ:=[some (.int ((0:Nat):Int),.z),some (d,.z)]) (ρ1:=[some (.int ((0:Nat):Int),.z),some (d,.z)]) rfl rfl (by unfold a8;exact (bg rfl rfl (au (ak (wr h) (ah (aq rfl) (ah i_c (ah i_c (ah i_c aw)))) rfl rfl rfl)))) rfl
 | 1,_=>aF (ρ:=[some (.int ((1:Nat):Int),.z),some (d,.z)]) (ρ1:=[some (.int ((1:Nat):Int),.z),some (d,.z)]) rfl rfl (by unfold a8;exact (am rfl rfl (bg rfl rfl (au (ak (aZ h) (ah (aq rfl) aw) rfl rfl rfl))))) rfl
 | 2,_=>aF (ρ:=[some (.int ((2:Nat):Int),.z),some (d,.z)]) (ρ1:=[some (.int ((2:Nat):Int),.z),some (d,.z)]) rfl rfl (by unfold a8;exact (am rfl rfl (am rfl rfl (bg rfl rfl (au (ak (kP h) (ah (aq rfl) aw) rfl rfl rfl)))))) rfl
 | 3,_=>aF (ρ:=[some (.int ((3:Nat):Int),.z),some (d,.z)]) (ρ1:=[some (.int ((3:Nat):Int),.z),some (d,.z)]) rfl rfl (by unfold a8;exact (am rfl rfl (am rfl rfl (am rfl rfl (bg rfl rfl (au (ak (kS h) (ah (aq rfl) aw) rfl rfl rfl))))))) rfl
 | 4,_=>aF (ρ:=[some (.int ((4:Nat):Int),.z),some (d,.z)]) (ρ1:=[some (.int ((4:Nat):Int),.z),some (d,.z)]) rfl rfl (by unfold a8;exact (am rfl rfl (am rfl rfl (am rfl rfl (am rfl rfl (bg rfl rfl (au (ak (qg h) (ah (aq rfl) (ah i_c aw)) rfl rfl rfl)))))))) rfl
 | 5,_=>aF (ρ:=[some (.int ((5:Nat):Int),.z),some (d,.z)]) (ρ1:=[some (.int ((5:Nat):Int),.z),some (d,.z)]) rfl rfl (by unfold a8;exact (am rfl rfl (am rfl rfl (am rfl rfl (am rfl rfl (am rfl rfl (bg rfl rfl (au (ak (qf h) (ah (aq rfl) (ah i_c aw)) rfl rfl rfl))))))))) rfl
 | 6,_=>aF (ρ:=[some (.int ((6:Nat):Int),.z),some (d,.z)]) (ρ1:=[some (.int ((6:Nat):Int),.z),some (d,.z)]) rfl rfl (by unfold a8;exact (am rfl rfl (am rfl rfl (am rfl rfl (am rfl rfl (am rfl rfl (am rfl rfl (bg rfl rfl (au (ak (l5 h) (ah (aq rfl) aw) rfl rfl rfl)))))))))) rfl
 | 7,_=>aF (ρ:=[some (.int ((7:Nat):Int),.z),some (d,.z)]) (ρ1:=[some (.int ((7:Nat):Int),.z),some (d,.z)]) rfl rfl (by unfold a8;exact (am rfl rfl (am rfl rfl (am rfl rfl (am rfl rfl (am rfl rfl (am rfl rfl (am rfl rfl (bg rfl rfl (au (ak (rG h) (ah i_c (ah (aq rfl) aw)) rfl rfl rfl))))))))))) rfl
 | 8,_=>aF (ρ:=[some (.int ((8:Nat):Int),.z),some (d,.z)]) (ρ1:=[some (.int ((8:Nat):Int),.z),some (d,.z)]) rfl rfl (by unfold a8;exact (am rfl rfl (am rfl rfl (am rfl rfl (am rfl rfl (am rfl rfl (am rfl rfl (am rfl rfl (am rfl rfl (bg rfl rfl (au (ak (rH h) (ah i_c (ah (aq rfl) aw)) rfl rfl rfl)))))))))))) rfl
 | 9,_=>aF (ρ:=[some (.int ((9:Nat):Int),.z),some (d,.z)]) (ρ1:=[some (.int ((9:Nat):Int),.z),some (d,.z)]) rfl rfl (by unfold a8;exact (am rfl rfl (am rfl rfl (am rfl rfl (am rfl rfl (am rfl rfl (am rfl rfl (am rfl rfl (am rfl rfl (am rfl rfl (bg rfl rfl (au (ak (mQ h) (ah (aq rfl) aw) rfl rfl rfl))))))))))))) rfl
 | 10,_=>aF (ρ:=[some (.int ((10:Nat):Int),.z),some (d,.z)]) (ρ1:=[some (.int ((10:Nat):Int),.z),some (d,.z)]) rfl rfl (by unfold a8;exact (am rfl rfl (am rfl rfl (am rfl rfl (am rfl rfl (am rfl rfl (am rfl rfl (am rfl rfl (am rfl rfl (am rfl rfl (am rfl rfl (au (ak (mR h) (ah (aq rfl) aw) rfl rfl rfl))))))))))))) rfl
 | n+11,h=>absurd h (by omega)
theorem wu {d:L3.D} (h:Bad d):∀ k:Nat,k < 11->dI [(.int (k:Int),.z),(d,.z)]=some (.error (.exc "NoSheet" []),[(.int (k:Int),.z),(d,.z)])
 | 0,_=>aF (ρ:=[some (.int ((0:Nat):Int),.z),some (d,.z)]) (ρ1:=[some (.int ((0:Nat):Int),.z),some (d,.z)]) rfl rfl (by unfold aS;exact (bg rfl rfl (au (ak (kQ h) (ah (aq rfl) aw) rfl rfl rfl)))) rfl
 | 1,_=>aF (ρ:=[some (.int ((1:Nat):Int),.z),some (d,.z)]) (ρ1:=[some (.int ((1:Nat):Int),.z),some (d,.z)]) rfl rfl (by unfold aS;exact (am rfl rfl (bg rfl rfl (au (ak (kR h) (ah (aq rfl) aw) rfl rfl rfl))))) rfl
 | 2,_=>aF (ρ:=[some (.int ((2:Nat):Int),.z),some (d,.z)]) (ρ1:=[some (.int ((2:Nat):Int),.z),some (d,.z)]) rfl rfl (by unfold aS;exact (am rfl rfl (am rfl rfl (bg rfl rfl (au (ak (jZ h) (ah i_c (ah (aq rfl) aw)) rfl rfl rfl)))))) rfl
 | 3,_=>aF (ρ:=[some (.int ((3:Nat):Int),.z),some (d,.z)]) (ρ1:=[some (.int ((3:Nat):Int),.z),some (d,.z)]) rfl rfl (by unfold aS;exact (am rfl rfl (am rfl rfl (am rfl rfl (bg rfl rfl (au (ak (j0 h) (ah i_c (ah (aq rfl) aw)) rfl rfl rfl))))))) rfl
 | 4,_=>aF (ρ:=[some (.int ((4:Nat):Int),.z),some (d,.z)]) (ρ1:=[some (.int ((4:Nat):Int),.z),some (d,.z)]) rfl rfl (by unfold aS;exact (am rfl rfl (am rfl rfl (am rfl rfl (am rfl rfl (bg rfl rfl (au (ak (me h) (ah (aq rfl) (ah i_c (ah i_c aw))) rfl rfl rfl)))))))) rfl
 | 5,_=>aF (ρ:=[some (.int ((5:Nat):Int),.z),some (d,.z)]) (ρ1:=[some (.int ((5:Nat):Int),.z),some (d,.z)]) rfl rfl (by unfold aS;exact (am rfl rfl (am rfl rfl (am rfl rfl (am rfl rfl (am rfl rfl (bg rfl rfl (au (ak (rJ h) (ah i_c (ah (aq rfl) (ah i_c (ah i_c aw)))) rfl rfl rfl))))))))) rfl
 | 6,_=>aF (ρ:=[some (.int ((6:Nat):Int),.z),some (d,.z)]) (ρ1:=[some (.int ((6:Nat):Int),.z),some (d,.z)]) rfl rfl (by unfold aS;exact (am rfl rfl (am rfl rfl (am rfl rfl (am rfl rfl (am rfl rfl (am rfl rfl (bg rfl rfl (au (ak (rF h) (ah (aq rfl) (ah i_c (ah i_c aw))) rfl rfl rfl)))))))))) rfl
 | 7,_=>aF (ρ:=[some (.int ((7:Nat):Int),.z),some (d,.z)]) (ρ1:=[some (.int ((7:Nat):Int),.z),some (d,.z)]) rfl rfl (by unfold aS;exact (am rfl rfl (am rfl rfl (am rfl rfl (am rfl rfl (am rfl rfl (am rfl rfl (am rfl rfl (bg rfl rfl (au (ak (oR h) (ah (aq rfl) (ah i_c aw)) rfl rfl rfl))))))))))) rfl
 | 8,_=>aF (ρ:=[some (.int ((8:Nat):Int),.z),some (d,.z)]) (ρ1:=[some (.int ((8:Nat):Int),.z),some (d,.z)]) rfl rfl (by unfold aS;exact (am rfl rfl (am rfl rfl (am rfl rfl (am rfl rfl (am rfl rfl (am rfl rfl (am rfl rfl (am rfl rfl (bg rfl rfl (au (ak (mf h) (ah (aq rfl) (ah i_c aw)) rfl rfl rfl)))))))))))) rfl
 | 9,_=>aF (ρ:=[some (.int ((9:Nat):Int),.z),some (d,.z)]) (ρ1:=[some (.int ((9:Nat):Int),.z),some (d,.z)]) rfl rfl (by unfold aS;exact (am rfl rfl (am rfl rfl (am rfl rfl (am rfl rfl (am rfl rfl (am rfl rfl (am rfl rfl (am rfl rfl (am rfl rfl (bg rfl rfl (au (ak (qi h) (ah i_c (ah (aq rfl) aw)) rfl rfl rfl))))))))))))) rfl
 | 10,_=>aF (ρ:=[some (.int ((10:Nat):Int),.z),some (d,.z)]) (ρ1:=[some (.int ((10:Nat):Int),.z),some (d,.z)]) rfl rfl (by unfold aS;exact (am rfl rfl (am rfl rfl (am rfl rfl (am rfl rfl (am rfl rfl (am rfl rfl (am rfl rfl (am rfl rfl (am rfl rfl (am rfl rfl (au (ak (qh h) (ah (aq rfl) (ah i_c aw)) rfl rfl rfl))))))))))))) rfl
 | n+11,h=>absurd h (by omega)
theorem yB {d:L3.D} (h:Bad d):∀ k:Nat,k < 11->eF [(.int (k:Int),.z),(d,.z)]=some (.error (.exc "NoSheet" []),[(.int (k:Int),.z),(d,.z)])
 | 0,_=>aF (ρ:=[some (.int ((0:Nat):Int),.z),some (d,.z)]) (ρ1:=[some (.int ((0:Nat):Int),.z),some (d,.z)]) rfl rfl (by unfold a7;exact (bg rfl rfl (au (ak (oQ h) (ah (aq rfl) (ah i_c aw)) rfl rfl rfl)))) rfl
 | 1,_=>aF (ρ:=[some (.int ((1:Nat):Int),.z),some (d,.z)]) (ρ1:=[some (.int ((1:Nat):Int),.z),some (d,.z)]) rfl rfl (by unfold a7;exact (am rfl rfl (bg rfl rfl (au (ak (md h) (ah (aq rfl) aw) rfl rfl rfl))))) rfl
 | 2,_=>aF (ρ:=[some (.int ((2:Nat):Int),.z),some (d,.z)]) (ρ1:=[some (.int ((2:Nat):Int),.z),some (d,.z)]) rfl rfl (by unfold a7;exact (am rfl rfl (am rfl rfl (bg rfl rfl (au (ak (l6 h) (ah (aq rfl) (ah i_c aw)) rfl rfl rfl)))))) rfl
 | 3,_=>aF (ρ:=[some (.int ((3:Nat):Int),.z),some (d,.z)]) (ρ1:=[some (.int ((3:Nat):Int),.z),some (d,.z)]) rfl rfl (by unfold a7;exact (am rfl rfl (am rfl rfl (am rfl rfl (bg rfl rfl (au (ak (jm h) (ah (aq rfl) aw) rfl rfl rfl))))))) rfl
 | 4,_=>aF (ρ:=[some (.int ((4:Nat):Int),.z),some (d,.z)]) (ρ1:=[some (.int ((4:Nat):Int),.z),some (d,.z)]) rfl rfl (by unfold a7;exact (am rfl rfl (am rfl rfl (am rfl rfl (am rfl rfl (bg rfl rfl (au (ak (l7 h) (ah (aq rfl) aw) rfl rfl rfl)))))))) rfl
 | 5,_=>aF (ρ:=[some (.int ((5:Nat):Int),.z),some (d,.z)]) (ρ1:=[some (.int ((5:Nat):Int),.z),some (d,.z)]) rfl rfl (by unfold a7;exact (am rfl rfl (am rfl rfl (am rfl rfl (am rfl rfl (am rfl rfl (bg rfl rfl (au (ak (l8 h) (ah i_c (ah (aq rfl) aw)) rfl rfl rfl))))))))) rfl
 | 6,_=>aF (ρ:=[some (.int ((6:Nat):Int),.z),some (d,.z)]) (ρ1:=[some (.int ((6:Nat):Int),.z),some (d,.z)]) rfl rfl (by unfold a7;exact (am rfl rfl (am rfl rfl (am rfl rfl (am rfl rfl (am rfl rfl (am rfl rfl (bg rfl rfl (au (ak (rE h) (ah (aq rfl) (ah i_c aw)) rfl rfl rfl)))))))))) rfl
 | 7,_=>aF (ρ:=[some (.int ((7:Nat):Int),.z),some (d,.z)]) (ρ1:=[some (.int ((7:Nat):Int),.z),some (d,.z)]) rfl rfl (by unfold a7;exact (am rfl rfl (am rfl rfl (am rfl rfl (am rfl rfl (am rfl rfl (am rfl rfl (am rfl rfl (bg rfl rfl (au (ak (jl h) (ah i_c (ah (aq rfl) aw)) rfl rfl rfl))))))))))) rfl
 | 8,_=>aF (ρ:=[some (.int ((8:Nat):Int),.z),some (d,.z)]) (ρ1:=[some (.int ((8:Nat):Int),.z),some (d,.z)]) rfl rfl (by unfold a7;exact (am rfl rfl (am rfl rfl (am rfl rfl (am rfl rfl (am rfl rfl (am rfl rfl (am rfl rfl (am rfl rfl (bg rfl rfl (au (ak (j1 h) (ah (aq rfl) (ah i_c aw)) rfl rfl rfl)))))))))))) rfl
 | 9,_=>aF (ρ:=[some (.int ((9:Nat):Int),.z),some (d,.z)]) (ρ1:=[some (.int ((9:Nat):Int),.z),some (d,.z)]) rfl rfl (by unfold a7;exact (am rfl rfl (am rfl rfl (am rfl rfl (am rfl rfl (am rfl rfl (am rfl rfl (am rfl rfl (am rfl rfl (am rfl rfl (bg rfl rfl (au (ak (iC h) (ah (aq rfl) aw) rfl rfl rfl))))))))))))) rfl
 | 10,_=>aF (ρ:=[some (.int ((10:Nat):Int),.z),some (d,.z)]) (ρ1:=[some (.int ((10:Nat):Int),.z),some (d,.z)]) rfl rfl (by unfold a7;exact (am rfl rfl (am rfl rfl (am rfl rfl (am rfl rfl (am rfl rfl (am rfl rfl (am rfl rfl (am rfl rfl (am rfl rfl (am rfl rfl (au (ak (kT h) (ah (aq rfl) (ah i_c aw)) rfl rfl rfl))))))))))))) rfl
 | n+11,h=>absurd h (by omega)
theorem s9 {α:Type} (b:α->Bool):∀ xs:List α,eB (xs.map fun x=>L3.D.bl (b x))=some (xs.map b)
 | []=>rfl
 | x :: xs=>by simp [eB,s9 b xs]
theorem wM {α:Type} (b:α->Bool) (xs:List α):yN [.lst (xs.map fun x=>L3.D.bl (b x))]=some (.bl (xs.all b),.z):=by
 show (eB _).map _=_
 rw [s9]
 simp [List.all_map]
theorem Bq {xs:List L3.D} {i:Nat} {d:L3.D} (h:xs[i]?=some d):L2.atI xs (i:Int)=some d:=by
 have lt:=(BK.mp h).1
 unfold L2.atI L2.ixN
 rw [if_pos (by omega),if_pos (by omega)]
 simpa using h
theorem yi (n:Int) {m:Nat} (h:0 < m):∃ x:Nat,x < m/\n % (m:Int)=(x:Int):=by
 have:=dG n (m:Int) (by omega)
 exact ⟨(n % (m:Int)).toNat,by omega,by omega⟩
theorem Bm {d:L3.D} (a:jR "tuple" d=some (.bl false,.z)):Bad d:=by
 apply cI (ρ:=[some (d,.z)]) (ρ1:=[some (d,.z)]) rfl rfl
 ·unfold ft
  exact lx (kz (b:=true) (i_orT (b:=true) (iB (oJ (we (aq rfl) rfl a) rfl)) rfl) rfl (lX i_c rfl))
 ·rfl
theorem yK {xs:List L3.D} (h:cN [(.tup xs,.z)]=some (.ok (.bl false,.z),[(.tup xs,.z)])):Bad (.tup xs):=by
 have a:jR "tuple" (.tup xs)=some (.bl true,.z):=rfl
 generalize L3.D.tup xs=R at *
 apply cI (ρ:=[some (R,.z)]) (ρ1:=[some (R,.z)]) rfl rfl
 ·unfold ft
  exact lx (kz (b:=true) (wg (b:=false) (iB (oJ (we (aq rfl) rfl a) rfl)) rfl (iB (oJ (bf h (ah (aq rfl) aw) rfl rfl rfl) rfl))) rfl (lX i_c rfl))
 ·rfl
theorem sW {qs:List Pt} (h0:0 < qs.length) (h1:qs.length<=24) {a:Nat} (r:a+1 < qs.length) (n:¬ (qs[a]'(by omega)).1 < (qs[a+1]).1):Bad (Shd qs):=by
 obtain ⟨τ',e,v,rfl⟩:=gf (bnd:=aM 0) (c:=kc) (elt:=bH) (fun τ=>∃ a,τ=[a,some (Shd qs,.z)]) (fun i:Nat=>L3.D.int (0+(i:Int))) (fun _=>true) (fun i=>.bl (decide ((qs.getD i (0,0)).1 < (qs.getD (i+1) (0,0)).1))) (xs:=List.range (qs.length - 1)) (τ:=[none,some (Shd qs,.z)]) ⟨none,rfl⟩ (by
  rintro i hi τ ⟨a,rfl⟩
  have hi:=List.mem_range.mp hi
  have m:qs[i]?=some (qs.getD i (0,0)):=by simp [List.getD,show i < qs.length by omega]
  have o:qs[i+1]?=some (qs.getD (i+1) (0,0)):=by simp [List.getD,show i+1 < qs.length by omega]
  have a1:bx (Shd qs) (.int (0+(i:Int)))=some (Pd (qs.getD i (0,0)),.z):=qE (by rw [Int.zero_add];exact Br m)
  have a2:bx (Shd qs) (.int (0+(i:Int)+1))=some (Pd (qs.getD (i+1) (0,0)),.z):=qE (by rw [Int.zero_add];exact Br o)
  generalize qs.getD i (0,0)=p at *
  generalize qs.getD (i+1) (0,0)=q at *
  have l:ltI (.int p.1) (.int q.1)=some (.bl (decide (p.1 < q.1)),.z):=by simp [dW]
  generalize decide (p.1 < q.1)=b at *
  generalize (0+(i:Int))=j at *
  refine ⟨[some (.int j,.z),some (Shd qs,.z)],_,rfl,rfl,(fun h=>by cases h),fun _=>⟨.val (.bl b) .z,[some (.int j,.z),some (Shd qs,.z)],(.bl b,.z),[some (.int j,.z),some (Shd qs,.z)],?_,rfl,rfl,_,rfl⟩⟩
  unfold bH
  (exists a1,a2,l))
 rw [Cg.mpr (fun _ _=>rfl)] at e
 have hf:(List.range (qs.length - 1)).all (fun i=>decide ((qs.getD i (0,0)).1 < (qs.getD (i+1) (0,0)).1))=false:=by
  refine List.all_eq_false.mpr ⟨a,List.mem_range.mpr (by omega),fun h=>n ?_⟩
  have h:=of_decide_eq_true h
  simpa [List.getD,r,show a < qs.length by omega] using h
 have f:=wM (fun i:Nat=>decide ((qs.getD i (0,0)).1 < (qs.getD (i+1) (0,0)).1)) (List.range (qs.length - 1))
 rw [hf] at f
 generalize ((List.range (qs.length - 1)).map fun i:Nat=>L3.D.bl (decide ((qs.getD i (0,0)).1 < (qs.getD (i+1) (0,0)).1)))=out at *
 have g:eR [.int (((qs.map Pd).length:Int) - 1)]=some (cS 0 (qs.length - 1)):=fj (by simp;omega) (by simp)
 have e:cn (aM 0) kc bH (cS 0 (qs.length - 1)) [none,some (Shd qs,.z)]=some (.ok out,[v,some (Shd qs,.z)]):=e
 have k:en [some (Shd qs,.z)]=some (.ok (.val (.lst out) .u),[some (Shd qs,.z)]):=jb (ρ1:=[some (Shd qs,.z)]) (rs:=[]) (by (repeat' (first | with_reducible apply ky (h3:=g) | infer_instance | eq_refl))) e (by rw [pE];omega) rfl
 have f2:cK [(Shd qs,.z)]=some (.ok (.bl false,.z),[(Shd qs,.z)]):=by
  apply cI (ρ:=[some (Shd qs,.z)]) rfl rfl
  ·unfold fZ;(repeat' (first | with_reducible exact k | infer_instance | exact f | eq_refl))
  ·rfl
 have f1:=uW qs h0 h1
 have d:jR "tuple" (Shd qs)=some (.bl true,.z):=rfl
 show cf _=_
 clear e k g
 generalize Shd qs=R at *
 apply cI (ρ:=[some (R,.z)]) (ρ1:=[some (R,.z)]) rfl rfl
 ·unfold ft
  refine aO (lY (b:=false) (wg (b:=false) (iB (oJ (we (aq rfl) rfl d) rfl)) rfl (iB (oJ (bf f1 (ah (aq rfl) aw) rfl rfl rfl) rfl))) rfl rfl) ?_
  exact lX (sI (b:=false) (bf f2 (ah (aq rfl) aw) rfl rfl rfl) rfl rfl) rfl
 ·rfl
theorem AN (x:Int):bz [(.int x,.z)]=some (.ok (.bl false,.z),[(.int x,.z)]):=by kernel_rfl
theorem vF (x y z:Int):bz [(.tup [.int x,.int y,.int z],.z)]=some (.ok (.bl false,.z),[(.tup [.int x,.int y,.int z],.z)]):=by kernel_rfl
theorem vG (ps:List Pt):bz [(Shd ps,.z)]=some (.ok (.bl false,.z),[(Shd ps,.z)]):=by
 by_cases h2:ps.length=2
 ·match ps,h2 with
  | [p,q],_=>kernel_rfl
 ·have a:jR "tuple" (Shd ps)=some (.bl true,.z):=rfl
  have ln:jO [Shd ps]=some (.int (ps.length:Int),.z):=by simp [rp,c1]
  have eq:eqX (.int (ps.length:Int)) (.int 2)=some (.bl false,.z):=by
   show some (L3.D.bl (decide ((ps.length:Int)=2)),Fl.z)=_
   rw [BV (by omega)]
  generalize L3.D.int (ps.length:Int)=N at *
  generalize Shd ps=R at *
  apply cI (ρ:=[some (R,.z)]) (ρ1:=[some (R,.z)]) rfl rfl
  ·unfold lT
   exact lX (lh (b:=true) (we (aq rfl) rfl a) rfl rfl (sI (b:=false) (qc (ji (ah (aq rfl) aw) rfl ln) i_c rfl rfl eq) rfl rfl)) rfl
  ·rfl
theorem pe {xs:List L3.D} {b:L3.D->Bool} (g:∀ x ∈ xs,bz [(x,.z)]=some (.ok (.bl (b x),.z),[(x,.z)])) (h0:0 < xs.length) (h1:xs.length<=24) (hf:xs.all b=false):Bad (.tup xs):=by
 refine yK ?_
 obtain ⟨τ',e,v,rfl⟩:=gf (bnd:=aM 0) (c:=kc) (elt:=bC) (fun τ=>∃ a,τ=[a]) (fun x:L3.D=>x) (fun _=>true) (fun x=>.bl (b x)) (xs:=xs) (τ:=[none]) ⟨none,rfl⟩ (by
  rintro x j τ ⟨a,rfl⟩
  have w:=g x j
  exact ⟨[some (x,.z)],_,rfl,rfl,(fun h=>by cases h),fun _=>⟨.val (.bl (b x)) .z,[some (x,.z)],(.bl (b x),.z),[some (x,.z)],by unfold bC;(nomatch [w]),rfl,rfl,_,rfl⟩⟩)
 rw [Cg.mpr (fun _ _=>rfl),show xs.map (fun x=>x)=xs from List.map_id xs] at e
 have a1:=wM b xs
 rw [hf] at a1
 have i:dg [some (.tup xs,.z)]=some (.ok (.val (.lst (xs.map fun x=>.bl (b x))) .u),[some (.tup xs,.z)]):=jb (rs:=[.pl 0]) (ρ1:=[some (.tup xs,.z)]) (ρ2:=[some (.tup xs,.z)]) rfl e (by omega) rfl
 have ln:jO [.tup xs]=some (.int (xs.length:Int),.z):=by simp [rp,c1]
 have d:leI (.int 1) (.int (xs.length:Int))=some (.bl true,.z):=by simp [dW];omega
 have f:leI (.int (xs.length:Int)) (.int 24)=some (.bl true,.z):=by simp [dW];omega
 generalize L3.D.tup xs=R at *
 apply cI (ρ:=[some (R,.z)]) (ρ1:=[some (R,.z)]) rfl rfl
 ·unfold ja
  exact lX (lh (b:=true) (sJ i_c (ji (ah (aq rfl) aw) rfl ln) rfl rfl d i_c rfl rfl f) rfl rfl (ji (ah i aw) rfl a1)) rfl
 ·rfl
def ptB:L3.D->Bool
 | .tup [.int _,.int _]=>true
 | _=>false
def l25:List L3.D:=(List.range 25).map fun k:Nat=>L3.D.tup [.int (k:Int),.int ((k:Int) * (k:Int))]
abbrev qF:L3.D:=.tup l25
def bads:List L3.D:=[.non,.tup [],.str "0,0",.int 7,.tup [.tup [.int 0,.int 0],.tup [.int 1,.int 1],.tup [.int 2,.int 2]],.tup [.tup [.int 1,.int 0],.tup [.int 0,.int 0]],.tup [.tup [.bl true,.int 0]],.tup [.non],.dt [],qF]
theorem yJ:bads.map (fun d=>cf [(d,.z)])=bads.map fun d=>some (.ok (.bl false,.z),[(d,.z)]):=by kernel_rfl
theorem eO {d:L3.D} (h:d ∈ bads):Bad d:=List.map_inj_left.mp yJ d h
theorem vM {a b d:L3.D}:km [some (a,.z),some (b,.z),some (d,.z),some (.exc "NoSheet" [],.z)]=some (.ok (.rt (.str "sheet") .z),[some (a,.z),some (b,.z),some (d,.z),some (.exc "NoSheet" [],.z)]):=by kernel_rfl
theorem xt {d:L3.D} (h:Bad d) {p k:Nat} (c:p < 3) (a:k < 11):jA [(.int (p:Int),.z),(.int (k:Int),.z),(d,.z)]=some (.ok (.str "sheet",.z),[(.int (p:Int),.z),(.int (k:Int),.z),(d,.z)]):=by
 have b:fY [some (.int (p:Int),.z),some (.int (k:Int),.z),some (d,.z),none]=some (.error (.exc "NoSheet" []),[some (.int (p:Int),.z),some (.int (k:Int),.z),some (d,.z),none]):=by
  have f1:=yC h k a
  have f2:=wu h k a
  have e:=yB h k a
  generalize L3.D.int (k:Int)=K at *
  unfold fY
  match p,c with
  | 0,_=>exact bg rfl rfl (au (ak f1 (ah (aq rfl) (ah (aq rfl) aw)) rfl rfl rfl))
  | 1,_=>exact am rfl rfl (bg rfl rfl (au (ak f2 (ah (aq rfl) (ah (aq rfl) aw)) rfl rfl rfl)))
  | 2,_=>exact am rfl rfl (am rfl rfl (au (ak e (ah (aq rfl) (ah (aq rfl) aw)) rfl rfl rfl)))
 generalize L3.D.int (p:Int)=P at *
 generalize L3.D.int (k:Int)=K at *
 apply cI (ρ:=[some (P,.z),some (K,.z),some (d,.z),none]) (ρ1:=[some (P,.z),some (K,.z),some (d,.z),some (.exc "NoSheet" [],.z)]) rfl rfl
 ·unfold p6
  exact lx (A5 b (by decide) vM)
 ·rfl
theorem vY {d:L3.D} (h:Bad d) {S L B:L3.D} {v3 v4 v5 v6 v7 v9 v10:Option (L3.D × Fl)}:∃ c a,(eK (cj eR (aa (mC (.int 3)) aj)) (aM 9) i7) [some (S,.z),some (L,.z),some (B,.u),v3,v4,v5,v6,v7,some (d,.z),v9,v10]=some (.ok .nx,[some (S,.z),some (L,.z),some (B,.u),v3,v4,v5,v6,v7,some (d,.z),c,a]):=by
 have l:eR [.int 3]=some (cS 0 3):=fj (by decide) (by decide)
 have f:eR [.int 11]=some (cS 0 11):=fj (by decide) (by decide)
 have o:neX (.str "sheet") (.str "sheet")=some (.bl false,.z):=by kernel_rfl
 obtain ⟨ρ',e,c,a,rfl⟩:=dX (bnd:=aM 9) (b:=i7) (fun _ ρ=>∃ c a,ρ=[some (S,.z),some (L,.z),some (B,.u),v3,v4,v5,v6,v7,some (d,.z),c,a]) (ds:=cS 0 3) (ρ:=[some (S,.z),some (L,.z),some (B,.u),v3,v4,v5,v6,v7,some (d,.z),v9,v10]) (k:=0) ⟨_,_,rfl⟩ (by
  rintro i x ρ m ⟨c,a,rfl⟩
  obtain ⟨hi,rfl⟩:=fW m
  rw [Int.zero_add]
  obtain ⟨ρ',e,g,rfl⟩:=dX (bnd:=aM 10) (b:=lR) (fun _ ρ=>∃ a,ρ=[some (S,.z),some (L,.z),some (B,.u),v3,v4,v5,v6,v7,some (d,.z),some (.int (i:Int),.z),a]) (ds:=cS 0 11) (ρ:=[some (S,.z),some (L,.z),some (B,.u),v3,v4,v5,v6,v7,some (d,.z),some (.int (i:Int),.z),a]) (k:=0) ⟨_,rfl⟩ (by
   rintro j x ρ m ⟨a,rfl⟩
   obtain ⟨n,rfl⟩:=fW m
   rw [Int.zero_add]
   have p:=xt h hi n
   generalize L3.D.int (i:Int)=I at *
   generalize L3.D.int (j:Int)=J at *
   refine ⟨[some (S,.z),some (L,.z),some (B,.u),v3,v4,v5,v6,v7,some (d,.z),some (I,.z),some (J,.z)],[some (S,.z),some (L,.z),some (B,.u),v3,v4,v5,v6,v7,some (d,.z),some (I,.z),some (J,.z)],rfl,.inl ?_,_,rfl⟩
   unfold lR
   exact lY (b:=false) (oJ (qc (bf p (ah (aq rfl) (ah (aq rfl) (ah (aq rfl) aw))) rfl rfl rfl) i_c rfl rfl o) rfl) rfl rfl)
  refine ⟨[some (S,.z),some (L,.z),some (B,.u),v3,v4,v5,v6,v7,some (d,.z),some (.int (i:Int),.z),a],[some (S,.z),some (L,.z),some (B,.u),v3,v4,v5,v6,v7,some (d,.z),some (.int (i:Int),.z),g],rfl,.inl ?_,_,_,rfl⟩
  unfold i7
  apply nJ
  ·(repeat' (first | with_reducible apply ky (h3:=f) | infer_instance | eq_refl))
  ·rfl
  ·exact e)
 refine ⟨c,a,?_⟩
 apply nJ
 ·(repeat' (first | with_reducible apply ky (h3:=l) | infer_instance | eq_refl))
 ·rfl
 ·exact e
theorem AW {A:List L3.D} (e:∀ d ∈ A,Bad d) (k:A.length=16) (n:Int) {S L:L3.D} {v3 v4 v5 v7 v8 v9 v10:Option (L3.D × Fl)}:∃ j g c a,i6 [some (S,.z),some (L,.z),some (.lst [.int n],.u),v3,v4,v5,some (.lst A,.u),v7,v8,v9,v10]=some (.ok .nx,[some (S,.z),some (L,.z),some (.lst [.int j],.u),v3,v4,v5,some (.lst A,.u),v7,g,c,a]):=by
 have t:=lD n 16 (by decide)
 obtain ⟨i,hi,f⟩:=yi n (m:=16) (by decide)
 rw [show ((16:Nat):Int)=16 from rfl] at f
 rw [f] at t
 obtain ⟨d,gd,hd⟩:∃ d,bx (.lst A) (.int (i:Int))=some (d,.z)/\Bad d:=by
  have b:i < A.length:=by omega
  exact ⟨_,xp (Bq (BF b)),e _ (List.getElem_mem b)⟩
 obtain ⟨c,a,h⟩:=vY hd (S:=S) (L:=L) (B:=.lst [.int (n / 16)]) (v3:=v3) (v4:=v4) (v5:=v5) (v6:=some (.lst A,.u)) (v7:=v7) (v9:=v9) (v10:=v10)
 generalize n / 16=n1 at *
 refine ⟨n1,some (d,.z),c,a,?_⟩
 clear hd e
 generalize L3.D.lst A=LA at *
 unfold i6
 apply aO (ρ1:=[some (S,.z),some (L,.z),some (.lst [.int n1],.u),v3,v4,v5,some (LA,.u),v7,some (d,.z),v9,v10])
 ·nomatch [t],[gd]
 ·exact h
theorem zU {S L B H X Y A:L3.D} {v7 v8 v9 v10:Option (L3.D × Fl)}:p5 [some (S,.z),some (L,.z),some (B,.u),some (H,.z),some (X,.z),some (Y,.z),some (A,.u),v7,v8,v9,v10]=some (.ok (.val (.lst l25) .u),[some (S,.z),some (L,.z),some (B,.u),some (H,.z),some (X,.z),some (Y,.z),some (A,.u),v7,v8,v9,v10]):=by kernel_rfl
theorem wz (qs:List L3.D) (z:L3.D):slD (.tup (qs ++ [z])) (some (-1)) none=some (.tup [z],.z):=by
 have e:kU (qs ++ [z]) (some (-1)) none=[z]:=by
  unfold kU
  have h1:HT.sIx (qs ++ [z]).length 0 (some (-1))=qs.length:=by
   simp only [HT.sIx,BZ,B0,List.length_nil]
   split <;> omega
  have h2:HT.sIx (qs ++ [z]).length (qs ++ [z]).length none=(qs ++ [z]).length:=rfl
  rw [h1,h2,List.drop_left]
  simp
 show some ((.tup (kU (qs ++ [z]) (some (-1)) none),.z):L3.D × Fl)=_
 rw [e]
theorem k7nil:∀ d ∈ ([]:List L3.D),Bad d:=fun d hd=>by cases hd
theorem bU {x:L3.D} {l:List L3.D} (h:Bad x) (t:∀ d ∈ l,Bad d):∀ d ∈ x :: l,Bad d:=fun d hd=>by
 rcases BE.mp hd with e | hd
 ·rw [e];exact h
 ·exact t d hd
theorem vX {ns:List Int} (k:Nat) {v2 v3 v4 v5 v6 v7 v8 v9 v10:Option (L3.D × Fl)}:∃ W V T w5 X r q o f,i5 [some (.fls (ns.map .int),.z),some (.int k,.z),v2,v3,v4,v5,v6,v7,v8,v9,v10]=some (.ok .nx,[some (.fls (ns.map .int),.z),some (.int k,.z),W,V,T,w5,X,r,q,o,f]):=by
 obtain ⟨n,Z⟩:=xw ns k
 obtain ⟨m,ps,es,g,gm⟩:=tH n 5 (by decide) (by decide)
 have h5:ps.length<=5:=by omega
 have F:=g.pos
 have v:=g.rising
 obtain ⟨c,l⟩:∃ p,ps[0]?=some p:=⟨_,BF F⟩
 obtain ⟨qs,z,h⟩:∃ qs z,ps=qs ++ [z]:=⟨ps.dropLast,ps.getLast (fun e=>by rw [e] at F;cases F),(List.dropLast_concat_getLast _).symm⟩
 have es:eU [(.lst [.int n],.u),(.int 5,.z)]=some (.ok (Shd ps,.z),[(.lst [.int m],.u),(.int 5,.z)]):=es
 have s0:bx (Shd ps) (.int 0)=some (Pd c,.z):=qE (Br (i:=0) l)
 have Y:slD (Shd ps) (some (-1)) none=some (.tup [Pd z],.z):=by
  rw [h]
  show slD (.tup ((qs ++ [z]).map Pd)) _ _=_
  rw [List.map_append]
  exact wz _ _
 have li:AV [Shd ps]=some (.lst (ps.map Pd),.u):=rfl
 have k1:ce (Shd ps) (.tup [Pd z])=some (Shd (ps ++ [z]),.z):=by
  rw [show Shd (ps ++ [z])=.tup (ps.map Pd ++ [Pd z]) by simp [Shd]]
  exact oV (by simp;omega)
 have k2:ce (Shd ps) (.tup [Pd (c.1,c.2+1)])=some (Shd (ps ++ [(c.1,c.2+1)]),.z):=by
  rw [show Shd (ps ++ [(c.1,c.2+1)])=.tup (ps.map Pd ++ [Pd (c.1,c.2+1)]) by simp [Shd]]
  exact oV (by simp;omega)
 have k3:ce (.tup [.tup [.int (c.1 - 1),.int c.2,.int 0]]) (Shd ps)=some (.tup ([.tup [.int (c.1 - 1),.int c.2,.int 0]] ++ ps.map Pd),.z):=oV (by simp;omega)
 have y:c.1<=z.1:=by
  by_cases h1:ps.length=1
  ·have:qs=[]:=by rw [h] at h1;simpa using h1
   subst this
   rw [h] at l
   have:z=c:=by simpa using l
   rw [this];exact Int.le_refl _
  ·have hz:ps[ps.length - 1]?=some z:=by rw [h];simp
   have:=v 0 (ps.length - 1) c z (by omega) l hz
   omega
 have G:Bad (Shd (ps ++ [z])):=sW (a:=ps.length - 1) (by simp) (by simp;omega) (by simp;omega) (by
  have e1:(ps ++ [z])[ps.length - 1]?=some z:=by
   rw [Cc (by omega),h];simp
  have E:(ps ++ [z])[ps.length - 1+1]?=some z:=by
   rw [show ps.length - 1+1=ps.length by omega];simp
  rw [(BK.mp e1).2,(BK.mp E).2]
  omega)
 have K:Bad (Shd (ps ++ [(c.1,c.2+1)])):=sW (a:=ps.length - 1) (by simp) (by simp;omega) (by simp;omega) (by
  have e1:(ps ++ [(c.1,c.2+1)])[ps.length - 1]?=some z:=by
   rw [Cc (by omega),h];simp
  have E:(ps ++ [(c.1,c.2+1)])[ps.length - 1+1]?=some (c.1,c.2+1):=by
   rw [show ps.length - 1+1=ps.length by omega];simp
  rw [(BK.mp e1).2,(BK.mp E).2]
  show ¬ z.1 < c.1
  omega)
 have J:∀ x ∈ ps.map Pd,bz [(x,.z)]=some (.ok (.bl (ptB x),.z),[(x,.z)]):=fun x j=>by
  obtain ⟨p,_,rfl⟩:=BN.mp j
  exact nq p
 have N:Bad (.tup ([.tup [.int (c.1 - 1),.int c.2,.int 0]] ++ ps.map Pd)):=pe (b:=ptB) (fun x j=>by
  rcases BH.mp j with j | j
  ·rw [B8.mp j];exact vF _ _ _
  ·exact J x j) (by simp) (by simp;omega) rfl
 have s:Bad (Pd c):=pe (b:=ptB) (fun x j=>by
  simp only [BE,List.not_mem_nil,or_false] at j
  rcases j with rfl | rfl <;> exact AN _) (by simp) (by simp) rfl
 have t:Bad (.tup [Shd ps]):=pe (b:=fun _=>false) (fun x j=>by rw [B8.mp j];exact vG ps) (by simp) (by simp) rfl
 have M:Bad (.lst (ps.map Pd)):=Bm rfl
 generalize hT:L3.D.tup ([.tup [.int (c.1 - 1),.int c.2,.int 0]] ++ ps.map Pd)=T5 at *
 generalize Shd (ps ++ [(c.1,c.2+1)])=T4 at *
 generalize Shd (ps ++ [z])=T3 at *
 generalize L3.D.lst (ps.map Pd)=T2 at *
 have a1:ce (.lst [.non,.tup [],T2,T3,T4,T5,.str "0,0",.int 7]) (.lst [.tup [.tup [.int 0,.int 0],.tup [.int 1,.int 1],.tup [.int 2,.int 2]],.tup [.tup [.int 1,.int 0],.tup [.int 0,.int 0]],.tup [.tup [.bl true,.int 0]],.tup [.non],.dt [],Pd c,.tup [Shd ps]])=some (.lst [.non,.tup [],T2,T3,T4,T5,.str "0,0",.int 7,.tup [.tup [.int 0,.int 0],.tup [.int 1,.int 1],.tup [.int 2,.int 2]],.tup [.tup [.int 1,.int 0],.tup [.int 0,.int 0]],.tup [.tup [.bl true,.int 0]],.tup [.non],.dt [],Pd c,.tup [Shd ps]],.u):=yG (Nat.le_of_ble_eq_true rfl)
 have a2:uz (.lst [.non,.tup [],T2,T3,T4,T5,.str "0,0",.int 7,.tup [.tup [.int 0,.int 0],.tup [.int 1,.int 1],.tup [.int 2,.int 2]],.tup [.tup [.int 1,.int 0],.tup [.int 0,.int 0]],.tup [.tup [.bl true,.int 0]],.tup [.non],.dt [],Pd c,.tup [Shd ps]]) [qF]=some (.lst [.non,.tup [],T2,T3,T4,T5,.str "0,0",.int 7,.tup [.tup [.int 0,.int 0],.tup [.int 1,.int 1],.tup [.int 2,.int 2]],.tup [.tup [.int 1,.int 0],.tup [.int 0,.int 0]],.tup [.tup [.bl true,.int 0]],.tup [.non],.dt [],Pd c,.tup [Shd ps],qF],.non):=wK (Nat.le_of_ble_eq_true rfl)
 have I:∀ d ∈ [.non,.tup [],T2,T3,T4,T5,.str "0,0",.int 7,.tup [.tup [.int 0,.int 0],.tup [.int 1,.int 1],.tup [.int 2,.int 2]],.tup [.tup [.int 1,.int 0],.tup [.int 0,.int 0]],.tup [.tup [.bl true,.int 0]],.tup [.non],.dt [],Pd c,.tup [Shd ps],qF],Bad d:=by
  exact bU (eO (BL (i:=0) rfl)) (bU (eO (BL (i:=1) rfl)) (bU M (bU G (bU K (bU N (bU (eO (BL (i:=2) rfl)) (bU (eO (BL (i:=3) rfl)) (bU (eO (BL (i:=4) rfl)) (bU (eO (BL (i:=5) rfl)) (bU (eO (BL (i:=6) rfl)) (bU (eO (BL (i:=7) rfl)) (bU (eO (BL (i:=8) rfl)) (bU s (bU t (bU (eO (BL (i:=9) rfl)) k7nil)))))))))))))))
 have R:tv [.lst l25]=some (qF,.z):=rfl
 have al:[.non,.tup [],T2,T3,T4,T5,.str "0,0",.int 7,.tup [.tup [.int 0,.int 0],.tup [.int 1,.int 1],.tup [.int 2,.int 2]],.tup [.tup [.int 1,.int 0],.tup [.int 0,.int 0]],.tup [.tup [.bl true,.int 0]],.tup [.non],.dt [],Pd c,.tup [Shd ps],qF].length=16:=rfl
 generalize w:[.non,.tup [],T2,T3,T4,T5,.str "0,0",.int 7,.tup [.tup [.int 0,.int 0],.tup [.int 1,.int 1],.tup [.int 2,.int 2]],.tup [.tup [.int 1,.int 0],.tup [.int 0,.int 0]],.tup [.tup [.bl true,.int 0]],.tup [.non],.dt [],Pd c,.tup [Shd ps],qF]=A at *
 clear M G K N s t J
 generalize L3.D.fls (ns.map .int)=S at *
 generalize L3.D.int (k:Int)=L at *
 have C:eR [.int 4]=some (cS 0 4):=fj (by decide) (by decide)
 obtain ⟨ρ',e,P,r,q,o,f,rfl⟩:=dX (bnd:=aM 7) (b:=i6) (fun _ ρ=>∃ n r q o f,ρ=[some (S,.z),some (L,.z),some (.lst [.int n],.u),some (Shd ps,.z),some (.int c.1,.z),some (.int c.2,.z),some (.lst A,.u),r,q,o,f]) (ds:=cS 0 4) (ρ:=[some (S,.z),some (L,.z),some (.lst [.int m],.u),some (Shd ps,.z),some (.int c.1,.z),some (.int c.2,.z),some (.lst A,.u),v7,v8,v9,v10]) (k:=0) ⟨_,_,_,_,_,rfl⟩ (by
  rintro i x ρ j ⟨n,r,q,o,f,rfl⟩
  obtain ⟨n',Q,ae,O,e⟩:=AW I al n (S:=S) (L:=L) (v3:=some (Shd ps,.z)) (v4:=some (.int c.1,.z)) (v5:=some (.int c.2,.z)) (v7:=some (x,.z)) (v8:=q) (v9:=o) (v10:=f)
  exact ⟨_,_,rfl,.inl e,_,_,_,_,_,rfl⟩)
 refine ⟨some (.lst [.int P],.u),some (Shd ps,.z),some (.int c.1,.z),some (.int c.2,.z),some (.lst A,.u),r,q,o,f,?_⟩
 clear I al
 unfold i5
 have B:=@zU
 generalize Shd ps=H at *
 have U:qW (.int 1)=some (.int (-1),.z):=rfl
 have ad:ce (.int c.2) (.int 1)=some (.int (c.2+1),.z):=rfl
 have sb:fO (.int c.1) (.int 1)=some (.int (c.1 - 1),.z):=rfl
 apply aO (ρ1:=[some (S,.z),some (L,.z),some (.lst [.int n],.u),v3,v4,v5,v6,v7,v8,v9,v10])
 ·nomatch [Z]
 apply aO (ρ1:=[some (S,.z),some (L,.z),some (.lst [.int m],.u),some (H,.z),v4,v5,v6,v7,v8,v9,v10])
 ·nomatch [es]
 apply aO (ρ1:=[some (S,.z),some (L,.z),some (.lst [.int m],.u),some (H,.z),some (.int c.1,.z),some (.int c.2,.z),v6,v7,v8,v9,v10])
 ·exact zd (p:=(Pd c,.z)) (qc (aq rfl) i_c rfl rfl s0) rfl rfl
 apply aO (ρ1:=[some (S,.z),some (L,.z),some (.lst [.int m],.u),some (H,.z),some (.int c.1,.z),some (.int c.2,.z),some (.lst [.non,.tup [],T2,T3,T4,T5,.str "0,0",.int 7],.u),v7,v8,v9,v10])
 ·exists li,Y,k1,k2,k3,U,ad,sb
 apply aO (ρ1:=[some (S,.z),some (L,.z),some (.lst [.int m],.u),some (H,.z),some (.int c.1,.z),some (.int c.2,.z),some (.lst [.non,.tup [],T2,T3,T4,T5,.str "0,0",.int 7,.tup [.tup [.int 0,.int 0],.tup [.int 1,.int 1],.tup [.int 2,.int 2]],.tup [.tup [.int 1,.int 0],.tup [.int 0,.int 0]],.tup [.tup [.bl true,.int 0]],.tup [.non],.dt [],Pd c,.tup [H]],.u),v7,v8,v9,v10])
 ·exists a1,s0
 apply aO (ρ1:=[some (S,.z),some (L,.z),some (.lst [.int m],.u),some (H,.z),some (.int c.1,.z),some (.int c.2,.z),some (.lst A,.u),v7,v8,v9,v10])
 ·refine wj (zc (d2:=.lst _) rfl rfl (ah (ji (ah B aw) rfl R) aw) rfl rfl a2 ?_)
  rw [<- w];rfl
 ·apply nJ
  ·(repeat' (first | with_reducible apply ky (h3:=C) | infer_instance | eq_refl))
  ·rfl
  ·exact e
theorem xv (ns:List Int) (j:ns.length<=63):zo [(.fls (ns.map .int),.z)]=some (.ok (.bl true,.z),[(.fls (ns.map .int),.z)]):=by
 have c:∃ m:Nat,(if (if ((3:Int) < ((ns.map L3.D.int).length:Int)) then (3:Int) else ((ns.map L3.D.int).length:Int)) > 1 then (if ((3:Int) < ((ns.map L3.D.int).length:Int)) then (3:Int) else ((ns.map L3.D.int).length:Int)) else (1:Int))=(m:Int)/\m<=3:=by
  refine ⟨max 1 (min ns.length 3),?_,by omega⟩
  simp only [BJ]
  split <;> split <;> omega
 obtain ⟨m,hm,f⟩:=c
 obtain ⟨ρ',e,v1,v2,v3,v4,v5,v6,v7,v8,v9,v10,rfl⟩:=dX (bnd:=aM 1) (b:=i5) (fun _ ρ=>∃ v1 v2 v3 v4 v5 v6 v7 v8 v9 v10,ρ=[some (.fls (ns.map .int),.z),v1,v2,v3,v4,v5,v6,v7,v8,v9,v10]) (ds:=cS 0 m) (ρ:=[some (.fls (ns.map .int),.z),none,none,none,none,none,none,none,none,none,none]) (k:=0) ⟨_,_,_,_,_,_,_,_,_,_,rfl⟩ (by
  rintro i d ρ hd ⟨v1,v2,v3,v4,v5,v6,v7,v8,v9,v10,rfl⟩
  obtain ⟨hi,rfl⟩:=fW hd
  rw [Int.zero_add]
  obtain ⟨r,p,n,q,s,l,o,h,a,e⟩:=vX (ns:=ns) i (v2:=v2) (v3:=v3) (v4:=v4) (v5:=v5) (v6:=v6) (v7:=v7) (v8:=v8) (v9:=v9) (v10:=v10)
  exact ⟨_,_,rfl,.inl e,_,_,_,_,_,_,_,_,_,_,rfl⟩)
 have g:eR [.int (if (if ((3:Int) < ((ns.map L3.D.int).length:Int)) then (3:Int) else ((ns.map L3.D.int).length:Int)) > 1 then (if ((3:Int) < ((ns.map L3.D.int).length:Int)) then (3:Int) else ((ns.map L3.D.int).length:Int)) else (1:Int))]=some (cS 0 m):=by
  rw [hm]
  exact fj (by omega) (by omega)
 apply cI (ρ:=[some (.fls (ns.map .int),.z),none,none,none,none,none,none,none,none,none,none]) rfl rfl
 ·apply aO
  ·apply nJ
   ·(repeat' (first | with_reducible apply ky (h3:=g) | infer_instance | eq_refl))
   ·rfl
   ·exact e
  ·nofun
 ·rfl
end Bn
end
namespace Bn
open PySem L2 L3
theorem Bs {l : PySem.W.OpenLaw} {w : World} {K : FG} {h : Heap} {mg : Str -> Option Value} {fa : Addr} (X : K.In h) (G : h.Ns mainGlobals mg) (hk : mg "law" = some (.ref fa)) (e : qH K = goodK) :
  ∃ fd : FuncData, (∀ (s : Shared) (v : Value), BindsTo s fd ⟨[v], []⟩ [("_law_script", v)]) /\ ∀ base : Heap, K.In base -> base.Ns mainGlobals mg -> FnOk l.prog w K mg base CX0 11 fa fd ["_law_script"] (uN K) := by
 have g : dsL.map (fun p => nN K p.1) = dsL.map (fun p => jV p.1 p.2) := congrArg (fun x => x.1) e
 have e1 : blL.map (PySem.W.nsIn K mainGlobals) = blL.map (fun _ => some none) := congrArg (fun x => x.2.1) e
 have e2 : ciL.map (fun p => oI K p.1) = ciL.map (fun p => some p.2) := congrArg (fun x => x.2.2.1) e
 have e3 : csL.map (fun p => uM K p.1) = csL.map (fun p => some p.2) := congrArg (fun x => x.2.2.2.1) e
 have e4 : xrL.map (fun r : String => sT K r) = xrL.map (fun _ : String => oU) := congrArg (fun x => x.2.2.2.2.1) e
 have e5 : xcL.map (gJ K) = xcL.map (fun _ => true) := congrArg (fun x => x.2.2.2.2.2.1) e
 have e6 : xbL.map (PySem.W.nsIn K mainGlobals) = xbL.map (fun _ => some none) := congrArg (fun x => x.2.2.2.2.2.2.1) e
 have e7 : oS K = ll := congrArg (fun x => x.2.2.2.2.2.2.2.1) e
 have e8 : [PySem.W.kitOne K (.ref (aE K "NoSheet")) (.ref (aE K "Apart")), PySem.W.kitOne K (.ref (aE K "NoSheet")) (.ref (aE K "Bare")), PySem.W.kitOne K (.ref (aE K "NoSheet")) (.ref (aE K "BentError")), PySem.W.kitOne K (.ref (aE K "NoSheet")) (.ref (aE K "NoNumber")), PySem.W.kitOne K (.ref (aE K "NoSheet")) (.ref (aE K "NoPlace")), PySem.W.kitOne K (.ref (aE K "NoSheet")) (.ref (aE K "NoRing")), PySem.W.kitOne K (.ref (aE K "NoSheet")) (.ref (aE K "NoRow")), PySem.W.kitOne K (.ref (aE K "NoSheet")) (.ref (aE K "NoSheet")), PySem.W.kitOne K (.ref (aE K "NoSheet")) (.ref (aE K "NoText")), PySem.W.kitOne K (.ref (aE K "NoSheet")) (.ref (aE K "OnLine")), PySem.W.kitOne K (.ref (aE K "NoSheet")) (.ref (aE K "TooMany")), PySem.W.kitOne K (.ref (aE K "NoSheet")) (.type "ValueError")] = [some false, some false, some true, some false, some false, some false, some false, some true, some false, some false, some false, some true] := congrArg (fun x => x.2.2.2.2.2.2.2.2.1) e
 have e9 : [PySem.W.exmOne K (.ref (aE K "NoSheet")) (.ref (aE K "BentError"))] = [some true] := congrArg (fun x => x.2.2.2.2.2.2.2.2.2) e
 have B : Bl mg := ⟨bV X G e1 0 rfl, bV X G e1 1 rfl, bV X G e1 2 rfl, bV X G e1 3 rfl, bV X G e1 4 rfl, bV X G e1 5 rfl, bV X G e1 6 rfl, bV X G e1 7 rfl, bV X G e1 8 rfl, bV X G e1 9 rfl, bV X G e1 10 rfl, bV X G e1 11 rfl, bV X G e1 12 rfl, bV X G e1 13 rfl, bV X G e1 14 rfl, bV X G e1 15 rfl, bV X G e1 16 rfl, bV X G e1 17 rfl, bV X G e1 18 rfl, bV X G e1 19 rfl⟩
 have D0 : Def K mg "is_whole" eY := av X G g 0 rfl
 have D1 : Def K mg "is_point" fc := av X G g 1 rfl
 have D2 : Def K mg "are_points" dB := av X G g 2 rfl
 have D3 : Def K mg "has_rising_x" cw := av X G g 3 rfl
 have D4 : Def K mg "bend" oe := av X G g 4 rfl
 have D5 : Def K mg "threes" iM := av X G g 5 rfl
 have D6 : Def K mg "first_on_line" b5 := av X G g 6 rfl
 have D7 : Def K mg "is_sheet" eZ := av X G g 7 rfl
 have D8 : Def K mg "check_sheet" c5 := av X G g 8 rfl
 have D9 : Def K mg "turn" n9 := av X G g 9 rfl
 have hD : Def K mg "all_turns" eh := av X G g 10 rfl
 have hC : Def K mg "turned_over" cU := av X G g 11 rfl
 have hE : Def K mg "from_behind" cZ := av X G g 12 rfl
 have hF : Def K mg "sheared" gp := av X G g 13 rfl
 have h6 : Def K mg "without" gl := av X G g 14 rfl
 have hA : Def K mg "bends" la := av X G g 15 rfl
 have h9 : Def K mg "is_cup" iT := av X G g 16 rfl
 have hH : Def K mg "is_cap" iU := av X G g 17 rfl
 have hG : Def K mg "row_table" d9 := av X G g 18 rfl
 have hv : Def K mg "cup_table" ee := av X G g 19 rfl
 have hj : Def K mg "cap_table" eg := av X G g 20 rfl
 have hS : Def K mg "longest_row" cV := av X G g 21 rfl
 have hc : Def K mg "longest_cup" cW := av X G g 22 rfl
 have ia : Def K mg "longest_cap" cX := av X G g 23 rfl
 have hB : Def K mg "is_paper" ff := av X G g 24 rfl
 have hl : Def K mg "is_cup_paper" cr := av X G g 25 rfl
 have hX : Def K mg "is_cap_paper" cu := av X G g 26 rfl
 have ht : Def K mg "cup_or_cap" dz := av X G g 27 rfl
 have g6 : Def K mg "is_bar" iV := av X G g 28 rfl
 have hb : Def K mg "joined" iS := av X G g 29 rfl
 have h5 : Def K mg "cup_ends" fh := av X G g 30 rfl
 have hM : Def K mg "cap_starts" dA := av X G g 31 rfl
 have g7 : Def K mg "side_row" eW := av X G g 32 rfl
 have hO : Def K mg "is_ring_by" dy := av X G g 33 rfl
 have g9 : Def K mg "is_ring" gx := av X G g 34 rfl
 have hg : Def K mg "turns_with_ring" bG := av X G g 35 rfl
 have hZ : Def K mg "low_row" gq := av X G g 36 rfl
 have h8 : Def K mg "high_row" fg := av X G g 37 rfl
 have hY : Def K mg "outer_ring" dw := av X G g 38 rfl
 have hW : Def K mg "rings_many" dn := av X G g 39 rfl
 have hT : Def K mg "greatest_ring" bZ := av X G g 40 rfl
 have hx : Def K mg "ring_paper" dq := av X G g 41 rfl
 have hQ : Def K mg "ring_bound" du := av X G g 42 rfl
 have h4 : Def K mg "places_within" bX := av X G g 43 rfl
 have ij : Def K mg "within" iL := av X G g 44 rfl
 have hP : Def K mg "is_empty_by" cY := av X G g 45 rfl
 have ih : Def K mg "is_empty_ring" bY := av X G g 46 rfl
 have hR : Def K mg "empties_many" cy := av X G g 47 rfl
 have hp : Def K mg "greatest_empty" bM := av X G g 48 rfl
 have hL : Def K mg "empty_three" c0 := av X G g 49 rfl
 have hK : Def K mg "show_sheet" dm := av X G g 50 rfl
 have hN : Def K mg "_law_cell" iQ := av X G g 51 rfl
 have hI : Def K mg "_law_mix" k8 := av X G g 52 rfl
 have hq : Def K mg "_law_box" k9 := av X G g 53 rfl
 have ha : Def K mg "_law_take" iN := av X G g 54 rfl
 have hh : Def K mg "_law_bend" iR := av X G g 55 rfl
 have ho : Def K mg "_law_free" iP := av X G g 56 rfl
 have hy : Def K mg "_law_sheet" gu := av X G g 57 rfl
 have g4 : Def K mg "_law_marks" gv := av X G g 58 rfl
 have g8 : Def K mg "_law_first" gw := av X G g 59 rfl
 have hs : Def K mg "_law_second" eX := av X G g 60 rfl
 have g5 : Def K mg "_law_third" gr := av X G g 61 rfl
 have h7 : Def K mg "_law_said" iO := av X G g 62 rfl
 obtain ⟨f, fd, F0, hf⟩ : Def K mg "law" fT := av X G g 63 rfl
 cases hk.symm.trans hf
 have F := F0
 obtain ⟨oc, od, kV, doc, pm, an, hr, ct, i2, ef, lk, i0⟩ := F0.ex
 subst ef
 obtain ⟨i1, Q0⟩ := rC X G e2 0 (n := "MOST_POINTS") (v := 24) rfl
 obtain ⟨iv, Q1⟩ := rC X G e2 1 (n := "UP") (v := 1) rfl
 obtain ⟨i3, Q2⟩ := rC X G e2 2 (n := "DOWN") (v := -1) rfl
 obtain ⟨c, fb⟩ := Be X G e7 e4 0 (r := "NoSheet") rfl
 have ez : mg "NoSheet" = _ := dQ X G e5 0 rfl
 have gm : mg "Apart" = _ := dQ X G e5 1 rfl
 have gy : mg "Bare" = _ := dQ X G e5 2 rfl
 have u : mg "BentError" = _ := dQ X G e5 3 rfl
 have ek : mg "NoNumber" = _ := dQ X G e5 4 rfl
 have fe : mg "NoPlace" = _ := dQ X G e5 5 rfl
 have fC : mg "NoRing" = _ := dQ X G e5 6 rfl
 have gs : mg "NoRow" = _ := dQ X G e5 7 rfl
 have fy : mg "NoText" = _ := dQ X G e5 8 rfl
 have f5 : mg "OnLine" = _ := dQ X G e5 9 rfl
 have eN : mg "TooMany" = _ := dQ X G e5 10 rfl
 have cv : mg "ValueError" = none := bV X G e6 0 rfl
 have gn : IsX K (.ref (aE K "Apart")) [("NoSheet", false)] := (.cons c (jG e8 0 rfl rfl) .nil)
 have g0 : IsX K (.ref (aE K "Bare")) [("NoSheet", false)] := (.cons c (jG e8 1 rfl rfl) .nil)
 have dx : IsX K (.ref (aE K "BentError")) [("NoSheet", true)] := (.cons c (jG e8 2 rfl rfl) .nil)
 have ed : IsX K (.ref (aE K "NoNumber")) [("NoSheet", false)] := (.cons c (jG e8 3 rfl rfl) .nil)
 have ew : IsX K (.ref (aE K "NoPlace")) [("NoSheet", false)] := (.cons c (jG e8 4 rfl rfl) .nil)
 have fz : IsX K (.ref (aE K "NoRing")) [("NoSheet", false)] := (.cons c (jG e8 5 rfl rfl) .nil)
 have f7 : IsX K (.ref (aE K "NoRow")) [("NoSheet", false)] := (.cons c (jG e8 6 rfl rfl) .nil)
 have eH : IsX K (.ref (aE K "NoSheet")) [("NoSheet", true)] := (.cons c (jG e8 7 rfl rfl) .nil)
 have f6 : IsX K (.ref (aE K "NoText")) [("NoSheet", false)] := (.cons c (jG e8 8 rfl rfl) .nil)
 have fi : IsX K (.ref (aE K "OnLine")) [("NoSheet", false)] := (.cons c (jG e8 9 rfl rfl) .nil)
 have ey : IsX K (.ref (aE K "TooMany")) [("NoSheet", false)] := (.cons c (jG e8 10 rfl rfl) .nil)
 have c3 : IsX K (.type "ValueError") [("NoSheet", true)] := (.cons c (jG e8 11 rfl rfl) .nil)
 have dV : ExX K (aE K "BentError") ["NoSheet"] := (.cons c (jG e9 0 rfl rfl) .nil)
 refine ⟨PySem.W.fnOf "law" "law" (aQ fT) (aL fT) (ac fT) .none kV doc pm an hr ct, fun s v => .of_eq rfl, fun base _ _ => ?_⟩
 have ec := o5 (P := l.prog) (w := w) (base := base) B D0
 have eu := o8 (P := l.prog) (w := w) (base := base) B D1 ec
 have b1 := mx (P := l.prog) (w := w) (base := base) B D2 eu Q0
 have ae := j8 (P := l.prog) (w := w) (base := base) B D3
 have gH := wH (P := l.prog) (w := w) (base := base) B D4
 have fk := rM (P := l.prog) (w := w) (base := base) B D5
 have L := js (P := l.prog) (w := w) (base := base) B D6 gH fk
 have ea := o6 (P := l.prog) (w := w) (base := base) B D7 b1 L ae
 have a := ju (P := l.prog) (w := w) (base := base) B D8 ea c fb
 have f3 := rL (P := l.prog) (w := w) (base := base) B D9 a
 have b := k7 (P := l.prog) (w := w) (base := base) B hD a
 have I := jn (P := l.prog) (w := w) (base := base) B hC a
 have O := jr (P := l.prog) (w := w) (base := base) B hE a
 have c4 := mW (P := l.prog) (w := w) (base := base) B hF a
 have dr := mV (P := l.prog) (w := w) (base := base) B h6 a
 have a6 := qw (P := l.prog) (w := w) (base := base) B hA b
 have ep := o9 (P := l.prog) (w := w) (base := base) B h9 a6 Q1
 have eo := pc (P := l.prog) (w := w) (base := base) B hH a6 Q2
 have i := kX (P := l.prog) (w := w) (base := base) B hG b
 have a4 := k4 (P := l.prog) (w := w) (base := base) B hv i Q1
 have a5 := k6 (P := l.prog) (w := w) (base := base) B hj i Q2
 have j := kY (P := l.prog) (w := w) (base := base) B hS
 have M := jp (P := l.prog) (w := w) (base := base) B hc b j Q1
 have J := jq (P := l.prog) (w := w) (base := base) B ia b j Q2
 have m := mq (P := l.prog) (w := w) (base := base) B hB b
 have y := iD (P := l.prog) (w := w) (base := base) B hl m Q1
 have z := iE (P := l.prog) (w := w) (base := base) B hX m Q2
 have ar := j9 (P := l.prog) (w := w) (base := base) B ht a
 have ei := pd (P := l.prog) (w := w) (base := base) B g6 a
 have ej := o4 (P := l.prog) (w := w) (base := base) B hb a
 have cm := mw (P := l.prog) (w := w) (base := base) B h5 a
 have Z := kb (P := l.prog) (w := w) (base := base) B hM a
 have R := o3 (P := l.prog) (w := w) (base := base) B g7
 have ck := mn (P := l.prog) (w := w) (base := base) B hO
 have c7 := m8 (P := l.prog) (w := w) (base := base) B g9 b ck
 have d := fP (P := l.prog) (w := w) (base := base) B hg b
 have d3 := mY (P := l.prog) (w := w) (base := base) B hZ R d Q1
 have b4 := mr (P := l.prog) (w := w) (base := base) B h8 R d Q2
 have a3 := j7 (P := l.prog) (w := w) (base := base) B hY a
 have Y := j4 (P := l.prog) (w := w) (base := base) B hW a
 have q := ic (P := l.prog) (w := w) (base := base) B hT b
 have ax := j5 (P := l.prog) (w := w) (base := base) B hx a
 have az := j6 (P := l.prog) (w := w) (base := base) B hQ a
 have N := jo (P := l.prog) (w := w) (base := base) B h4
 have eb := oZ (P := l.prog) (w := w) (base := base) B ij N d
 have bt := kZ (P := l.prog) (w := w) (base := base) B hP
 have o := ib (P := l.prog) (w := w) (base := base) B ih b bt
 have A := iF (P := l.prog) (w := w) (base := base) B hR a
 have k := gi (P := l.prog) (w := w) (base := base) B hp a
 have C := jt (P := l.prog) (w := w) (base := base) B hL d
 have V := j3 (P := l.prog) (w := w) (base := base) B hK a
 have d0 := rQ (P := l.prog) (w := w) (base := base) B hN
 have er := ux (P := l.prog) (w := w) (base := base) B hI
 have et := uy (P := l.prog) (w := w) (base := base) B hq d0 er
 have t := rN (P := l.prog) (w := w) (base := base) B ha
 have dc := rR (P := l.prog) (w := w) (base := base) B hh
 have d4 := rP (P := l.prog) (w := w) (base := base) B ho dc
 have b3 := qv (P := l.prog) (w := w) (base := base) B hy d4 t
 have T := m4 (P := l.prog) (w := w) (base := base) B g4 gm gn gy g0 u dx ek ed fe ew fC fz gs f7 ez eH fy f6 f5 fi eN ey cv c3
 have U := m5 (P := l.prog) (w := w) (base := base) B g8 b a5 a4 O eo ep c4 V f3 I dr
 have D := mm (P := l.prog) (w := w) (base := base) B hs Z cm ar ei z y c7 ej J M d3
 have S := mZ (P := l.prog) (w := w) (base := base) B g5 A C k q b4 o a3 az ax Y eb
 have d1 := rO (P := l.prog) (w := w) (base := base) B h7 U T D S u dV
 exact FnOk.imp (yx (P := l.prog) (w := w) (base := base) B F et d1 b3 t) fun vs H Q E h => yo (fun ns hn => ⟨_, xv ns hn⟩) h
theorem walkL : PySem.W.WalkO viL loL (fun _ _ => True) (fun _ h => ∃ K : FG, K.In h /\ qH K = goodK) PySem.Challenge.rw_bentrows_k07_what_is_no_sheet.row.toRowW ⟨"law", aQ fT, aL fT, ac fT, stPos fT⟩ [] (fun f g => PySem.call f g) :=
 L2.walk_ofS (l := PySem.Challenge.rw_bentrows_k07_what_is_no_sheet) (n := 63) (k := 11) (x := "_law_script") (S := fun K => qH K = goodK) (CX := CX0) (sp := uN) rfl (by decide) rfl ⟨rfl, by decide, by decide, rfl⟩ (fun _ _ z => z) (fun _ _ _ _ _ e X G hm => Bs X G hm e) (fun _ _ a ns b c d => ⟨a, ns, rfl, d, c, b, fun _ => rfl⟩) fun _ _ _ _ z => z
end Bn
open PySem PySem.W PyProof.Rows
set_option maxRecDepth 100000 in
set_option maxHeartbeats 0 in
theorem PySem.Challenge.cw_bentrows_k07_what_is_no_sheet_holds : PySem.Challenge.rw_bentrows_k07_what_is_no_sheet.Holds :=
 holds_law Bn.okL fun said => holds_open (r := PySem.Challenge.rw_bentrows_k07_what_is_no_sheet.row) Bn.leftL (fun _ _ e => ⟨_, L2.fragAt_in _, e⟩) (fun _ _ _ ⟨K, X, e⟩ k => ⟨K, X.keeps k, e⟩) (fun _ _ => trivial) (fun _ _ _ _ _ => trivial) (by kernel_rfl) (by kernel_rfl) (by kernel_rfl) (fun s e => recFacts_of e) (by rfl) said (by kernel_rfl) ⟨rfl, rfl, rfl, rfl, rfl, by decide +kernel⟩ ⟨[.list []], by decide +kernel, by decide +kernel⟩ Bn.walkL
