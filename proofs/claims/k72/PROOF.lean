import PyProof.Rows.All
import Wide.All
import OpenK.AllK
import Wide.FinOn
import Lean
import PyProof.EqAt
import PyProof.EqKinds
import PyProof.TupleCall
import PyProof.P3Eq
import PyProof.NeData
import PyProof.ListRange
import PyProof.Rows.CallKwBuiltin
import PyProof.Rows.Range3
import PyProof.DictWalks
import PyProof.MinMaxWalk
import PyProof.WalkInts
import PyProof.Walk
import PyProof.WalkLemmas
import PyProof.RulesTry
import PyProof.Rows.SortShell
import PyProof.Rows.SortWalk
import PyProof.Rows.SortRuns
import PyProof.Rows.SetFrom
import PyProof.SetKind
import PyProof.SetScanFacts
import PyProof.FactsAll.subtypes_4
import PyProof.FactsAll.set_1
import PyProof.DictDisplay
import OpenK.KOwn
import KE.KTryMore
import KE.RegKTryMore
import PyProof.Rows.Catch
import KE.KIsAll
import KE.RegKIsAll
import PyProof.ExcArgsOwn
import PySem.Challenge.RW_bentrows_k72_points_lifted
set_option genSizeOf false
set_option Elab.async false
noncomputable section
set_option linter.all false
set_option maxRecDepth 100000
set_option maxHeartbeats 4000000
section
abbrev FG:=PySem.W.Frag
open PySem PySem.Spec PyProof.Rows
abbrev CY:=@wpAny_bind
abbrev CZ:=@wpAny_pure
abbrev C0:=@wpAny_holding
abbrev C2:=@List.mem_cons_self
abbrev C3:=@List.mem_cons_of_mem
abbrev C4:=@Heap.get?_push_of_some
abbrev C5:=@Option.map_eq_some_iff
abbrev C6:=@List.mem_append_left
abbrev C7:=@List.mem_append_right
abbrev C8:=@List.mem_cons
abbrev C9:=@List.getElem?_eq_getElem
abbrev Da:=@Heap.lt_size
abbrev Db:=@List.mem_append
abbrev Dc:=@Heap.get?_push_size
abbrev Dd:=@List.length_map
abbrev De:=@List.getElem?_eq_some_iff
abbrev Df:=@List.mem_of_getElem?
abbrev Dg:=@List.sublist_append_right
abbrev Dh:=@List.mem_map
abbrev Di:=@List.getElem?_map
abbrev Dj:=@Nat.le_refl
abbrev Dk:=@Bool.false_ne_true
abbrev Dl:=@Nat.ne_of_lt
abbrev Dm:=@List.size_toArray
abbrev Dn:=@List.map_cons
abbrev Do:=@decide_eq_true
abbrev Dp:=@decide_eq_false
abbrev Dq:=@Nat.lt_of_lt_of_le
abbrev Dr:=@Nat.zero_add
abbrev Ds:=@Heap.get?_update_self
abbrev Dt:=@List.length_append
abbrev Du:=@List.length_cons
abbrev Dv:=@List.length_take
abbrev Dw:=@Option.map_some
abbrev Dx:=@Option.bind_eq_some_iff
abbrev Dy:=@List.mem_singleton
abbrev Dz:=@Bool.false_eq_true
abbrev DA:=@List.mem_filter
abbrev DB:=@List.getElem?_append_left
abbrev DC:=@Heap.get?_update_other
abbrev DD:=@Heap.size_push
abbrev DE:=@wpAny_truthy_bool
abbrev DF:=@Nat.le_trans
abbrev DG:=@List.filter_eq_self
abbrev DH:=@List.mem_flatMap
abbrev DI:=@List.map_map
abbrev DJ:=@Option.some.inj
end
section
namespace L2
open PySem
def aF (s : Stmt) : Arguments := match s with
 | .FunctionDef _ a _ _ _ _ _ _ _ _ => a
 | _ => { posonlyargs := [], args := [], vararg := none, kwonlyargs := [], kw_defaults := [], kwarg := none, defaults := [] }
def au (s : Stmt) : List Stmt := match s with
 | .FunctionDef _ _ b _ _ _ _ _ _ _ => b
 | _ => []
def af (s : Stmt) : Scope := match s with
 | .FunctionDef _ _ _ _ _ _ sc _ _ _ => sc
 | _ => { kind := .function, names := [], isGenerator := false, isCoroutine := false }
def pK (p : Nat × Obj) : Option (Nat × Obj) := match p.2 with
 | ⟨_, _, .freed, _⟩ => none
 | o => some (p.1, o)
def xi (h : Heap) : FG := ((List.range h.objs.size).zip h.objs.toList).filterMap pK
def aa (K : FG) (n : Str) : Addr := match PySem.W.nsIn K mainGlobals n with
 | some (some (.ref f)) => f
 | _ => 0
abbrev ow := Str × Str × Arguments × FuncBody × Scope × Addr × List (Str × Addr) × Value × Addr × Bool
def pS (K : FG) (n : Str) : Option ow := match PySem.W.nsIn K mainGlobals n with
 | some (some (.ref f)) => (match K.lookup f with
  | some ⟨_, _, .func fd, _⟩ => some (fd.name, fd.qualname, fd.params, fd.body, fd.scope, fd.globals, fd.closure, fd.defaults, fd.builtins, PySem.W.codeIn K fd.code n)
  | _ => none)
 | _ => none
def k6 (n : Str) (st : Stmt) : Option ow := some (n, n, aF st, .stmts (au st), af st, mainGlobals, [], .none, builtinsNs, true)
def nI (K : FG) (n : Str) : Option Int := match PySem.W.nsIn K mainGlobals n with
 | some (some (.int v _)) => some v
 | _ => none
def vn (K : FG) (n : Str) : Option Str := match PySem.W.nsIn K mainGlobals n with
 | some (some (.str v _)) => some v
 | _ => none
open PySem.W PyProof.Rows in
theorem ut {p q : Program} {loose : List Str} {c : Shared → Bool} {α : Type} {g : Shared → α} {d : World → α} {N m : Nat} {ann : Option Value}
  (e : opening p = plainProg p.main.scope.names) (l : Nat.ble 600 N = true) (f : ∀ s, fenceModules? p s = some s)
  (sz : ∀ w : World, ((boot_heap w.params).isNs mainGlobals && (Array.mk [] : Array GenState).size == 0, (boot_heap w.params).objs.size, (boot_heap w.params).nsMap mainGlobals "__annotations__") = (true, m, ann))
  (go : ∀ (w : World) (os : OsState), (PySem.W.Fast.tw14082659384304107361 PySem.W.Fast.tw14364793385576792824 p w m ann N ⟨boot_heap w.params, Array.mk [], boot_drawn, boot_toks, os⟩ (topStub p)).map (fun s => ((staticsOk (importedModules p.main.body) (boot_heap w.params) s.heap && namesBound p s.heap && gensDone s && laidKept (boot_heap w.params) s.heap), PySem.W.Fast.tw4187177175401517315 q loose (importedModules p.main.body) c true s, g s)) = some (true, openGood q loose, d w)) : LeftO p q loose c g d N := fun w => by
 obtain ⟨⟨h, k, j, tk, os⟩, n, i⟩ := C5.mp (boot_open e l f w)
 obtain ⟨rfl, rfl, rfl, rfl⟩ : h = boot_heap w.params ∧ k = Array.mk [] ∧ j = boot_drawn ∧ tk = boot_toks := by simpa using i
 have sw := sz w
 have a := go w os
 rw [← PySem.W.Fast.te14082659384304107361, ← PySem.W.Fast.te14364793385576792824, ← PySem.W.Fast.te4187177175401517315] at a
 simp only [Prod.mk.injEq] at sw
 obtain ⟨s, o, b⟩ := C5.mp a
 simp only [Prod.mk.injEq] at b
 have tt : topFrom treeTable p w N ⟨boot_heap w.params, Array.mk [], boot_drawn, boot_toks, os⟩ = some s := by
  unfold topFrom
  dsimp only
  rw [sw.1, sw.2.1, sw.2.2, o]
  change (match staticsOk (importedModules p.main.body) (boot_heap w.params) s.heap && namesBound p s.heap && gensDone s && laidKept (boot_heap w.params) s.heap with | true => some s | false => none) = some s
  rw [b.1]
 unfold openEnds
 rw [n]
 change Option.map _ (topFrom treeTable p w N _) = _
 rw [tt]
 exact congrArg some (Prod.ext b.2.1 b.2.2)
theorem tM (h : PySem.W.Fast.tw9446332074065402090 l = true) : l.wellSaid = true := by rw [← PySem.W.Fast.te9446332074065402090] at h; exact h
abbrev hV : List Value := [.type "ValueError", .type "Exception", .type "BaseException", .type "object"]
def zD (s : Stmt) (j : Nat) : Stmt := match s with
 | .ClassDef _ _ _ body _ _ _ _ _ _ _ => body.getD j (.Pass ⟨0, 0, 0, 0⟩)
 | _ => .Pass ⟨0, 0, 0, 0⟩
def sh : List Value → Bool
 | .ref _ :: r => sh r
 | l => l == hV
def nV (K : FG) (C : Addr) : Bool := match K.lookup C with
 | some ⟨.type "type", _, .cls cd, sl⟩ => (match cd.mro, sl.toList with
  | .ref C1 :: bm, [_, _, _, _, some (.builtin n), _] => PySem.W.nsOkIn K cd.ns && (PySem.W.tailIn K hV bm && (!cd.hasDel && (n == "ValueError.__new__" && C1 == C)))
  | _, _ => false)
 | _ => false
end L2
namespace L3
open PySem L2
def gr (K : FG) (n : Str) : Bool := match PySem.W.nsIn K mainGlobals n with
 | some (some (.ref _)) => true
 | _ => false
abbrev lr := Bool × Option (Option Value) × Option (Option Value) × Bool × Option (Option Value) × Option Bool × Option Bool × Bool
def mF (K : FG) (r : Str) : lr := (gr K r, PySem.W.findIn K (.ref (aa K r)) "__getattribute__", PySem.W.findIn K (.ref (aa K r)) "__getattr__", PySem.W.isClsIn K (aa K r), PySem.W.findIn K (.ref (aa K r)) "__class__", PySem.W.mroIn K (aa K r) (.type "object"), PySem.W.mroIn K (aa K r) (.type "BaseException"), PySem.W.excIn K (aa K r) hV "ValueError.__new__")
def nW : lr := (true, some (some (.builtin "BaseException.__getattribute__")), some none, true, some (some (.builtin "object.__class__")), some true, some true, true)
def jx (K : FG) : Option (Option Value) × Option Bool := (PySem.W.specialIn K (.builtin "object.__class__") "__get__", PySem.W.takesIn K (.builtin "object.__class__"))
def gw : Option (Option Value) × Option Bool := (some (some (.builtin "getset_descriptor.__get__")), some true)
abbrev xV := Value × Str × Str × Arguments × FuncBody × Scope × Addr × List (Str × Addr) × Value × Addr × Bool
def Ao (K : FG) (C : Addr) : Option xV := match PySem.W.findIn K (.ref C) "__init__" with
 | some (some (.ref f)) => (match K.lookup f with
  | some ⟨c, _, .func fd, _⟩ => some (c, fd.name, fd.qualname, fd.params, fd.body, fd.scope, fd.globals, fd.closure, fd.defaults, fd.builtins, PySem.W.codeIn K fd.code fd.qualname)
  | _ => none)
 | _ => none
abbrev ot := lr × Bool × Option (Option Value) × Bool × Option (Option Value) × Option xV
def sB (K : FG) (r n : Str) : ot := (mF K r, nV K (aa K r), PySem.W.findIn K (.ref (aa K r)) "__setattr__", (PySem.W.clsIn K (aa K r)).any (fun cd => sh cd.mro && cd.hasDict), PySem.W.findIn K (.ref (aa K r)) n, Ao K (aa K r))
def nJ (q : Str) (st : Stmt) : ot := ((true, some (some (.builtin "BaseException.__getattribute__")), some none, true, some (some (.builtin "object.__class__")), some true, some true, false), true, some (some (.builtin "object.__setattr__")), true, some none, some (.type "function", "__init__", q, aF st, .stmts (au st), af st, mainGlobals, [], .none, builtinsNs, true))
end L3
namespace Bn
open PySem L2 L3
def top (i : Nat) : Stmt := PySem.Challenge.pw_bentrows_k72_points_lifted.main.body.getD i (.Pass ⟨0, 0, 0, 0⟩)
abbrev eI : Stmt := top 15
abbrev eK : Stmt := top 16
abbrev eL : Stmt := top 17
abbrev cV : Stmt := top 18
abbrev cT : Stmt := top 19
abbrev dh : Stmt := top 22
abbrev cj : Stmt := top 23
abbrev mV : Stmt := top 24
abbrev iE : Stmt := top 25
abbrev bY : Stmt := top 26
abbrev eJ : Stmt := top 27
abbrev cU : Stmt := top 28
abbrev eG : Stmt := top 29
abbrev iF : Stmt := top 31
abbrev j7 : Stmt := top 33
abbrev iH : Stmt := top 34
abbrev gj : Stmt := top 35
abbrev iL : Stmt := top 36
abbrev iK : Stmt := top 37
abbrev gl : Stmt := top 38
abbrev dg : Stmt := top 39
abbrev dL : Stmt := top 40
abbrev iJ : Stmt := top 41
abbrev gk : Stmt := top 42
abbrev iG : Stmt := top 43
abbrev iI : Stmt := top 44
abbrev fG : Stmt := top 45
abbrev dsL : List (Str × Stmt) := [(("is_whole" : Str), eI), (("is_point" : Str), eK), (("is_place" : Str), eL), (("check_place" : Str), cV), (("check_whole" : Str), cT), (("are_points" : Str), dh), (("has_rising_x" : Str), cj), (("bend" : Str), mV), (("threes" : Str), iE), (("first_on_line" : Str), bY), (("is_sheet" : Str), eJ), (("check_sheet" : Str), cU), (("sheet_of" : Str), eG), (("lifted" : Str), iF), (("_law_box" : Str), j7), (("_law_take" : Str), iH), (("_law_whole" : Str), gj), (("_law_bend" : Str), iL), (("_law_free" : Str), iK), (("_law_sheet" : Str), gl), (("_law_is_sheet" : Str), dg), (("_law_classes" : Str), dL), (("_law_only" : Str), iJ), (("_law_three" : Str), gk), (("_law_told" : Str), iG), (("_law_onto" : Str), iI), (("law" : Str), fG)]
abbrev blL : List Str := [("len" : Str), ("range" : Str), ("abs" : Str), ("divmod" : Str), ("enumerate" : Str), ("tuple" : Str), ("isinstance" : Str), ("int" : Str), ("bool" : Str), ("all" : Str), ("str" : Str), ("max" : Str), ("min" : Str), ("list" : Str), ("dict" : Str), ("repr" : Str), ("sorted" : Str), ("set" : Str), ("zip" : Str), ("reversed" : Str)]
abbrev ciL : List (Str × Int) := [(("MOST_POINTS" : Str), (24 : Int))]
abbrev csL : List (Str × Str) := []
abbrev xrL : List String := ["NoPlace", "NoSheet", "NoNumber"]
abbrev xcL : List Str := [("NoPlace" : Str), ("NoSheet" : Str), ("NoNumber" : Str), ("OnLine" : Str), ("Apart" : Str), ("Bare" : Str), ("NoLine" : Str), ("NoRing" : Str), ("NoRow" : Str), ("NoSigns" : Str), ("NoText" : Str), ("TooMany" : Str), ("BentError" : Str)]
abbrev xbL : List Str := [("ValueError" : Str)]
abbrev lU : Stmt := zD (top 12) 0
def yz (K : FG) : List (Option ow) × List (Option (Option Value)) × List (Option Int) × List (Option Str) × List lr × List Bool × List (Option (Option Value)) × (Option (Option Value) × Option Bool) × List (Option Bool) × List (Option Bool) × ot := (dsL.map (fun p => pS K p.1), blL.map (PySem.W.nsIn K mainGlobals), ciL.map (fun p => nI K p.1), csL.map (fun p => vn K p.1), xrL.map (fun r : String => mF K r), xcL.map (gr K), xbL.map (PySem.W.nsIn K mainGlobals), jx K, [PySem.W.kitOne K (.ref (aa K "NoPlace")) (.ref (aa K "Apart")), PySem.W.kitOne K (.ref (aa K "NoSheet")) (.ref (aa K "Apart")), PySem.W.kitOne K (.ref (aa K "NoNumber")) (.ref (aa K "Apart")), PySem.W.kitOne K (.ref (aa K "OnLine")) (.ref (aa K "Apart")), PySem.W.kitOne K (.ref (aa K "NoPlace")) (.ref (aa K "Bare")), PySem.W.kitOne K (.ref (aa K "NoSheet")) (.ref (aa K "Bare")), PySem.W.kitOne K (.ref (aa K "NoNumber")) (.ref (aa K "Bare")), PySem.W.kitOne K (.ref (aa K "OnLine")) (.ref (aa K "Bare")), PySem.W.kitOne K (.ref (aa K "NoPlace")) (.ref (aa K "NoLine")), PySem.W.kitOne K (.ref (aa K "NoSheet")) (.ref (aa K "NoLine")), PySem.W.kitOne K (.ref (aa K "NoNumber")) (.ref (aa K "NoLine")), PySem.W.kitOne K (.ref (aa K "OnLine")) (.ref (aa K "NoLine")), PySem.W.kitOne K (.ref (aa K "NoPlace")) (.ref (aa K "NoNumber")), PySem.W.kitOne K (.ref (aa K "NoSheet")) (.ref (aa K "NoNumber")), PySem.W.kitOne K (.ref (aa K "NoNumber")) (.ref (aa K "NoNumber")), PySem.W.kitOne K (.ref (aa K "OnLine")) (.ref (aa K "NoNumber")), PySem.W.kitOne K (.ref (aa K "NoPlace")) (.ref (aa K "NoPlace")), PySem.W.kitOne K (.ref (aa K "NoSheet")) (.ref (aa K "NoPlace")), PySem.W.kitOne K (.ref (aa K "NoNumber")) (.ref (aa K "NoPlace")), PySem.W.kitOne K (.ref (aa K "OnLine")) (.ref (aa K "NoPlace")), PySem.W.kitOne K (.ref (aa K "NoPlace")) (.ref (aa K "NoRing")), PySem.W.kitOne K (.ref (aa K "NoSheet")) (.ref (aa K "NoRing")), PySem.W.kitOne K (.ref (aa K "NoNumber")) (.ref (aa K "NoRing")), PySem.W.kitOne K (.ref (aa K "OnLine")) (.ref (aa K "NoRing")), PySem.W.kitOne K (.ref (aa K "NoPlace")) (.ref (aa K "NoRow")), PySem.W.kitOne K (.ref (aa K "NoSheet")) (.ref (aa K "NoRow")), PySem.W.kitOne K (.ref (aa K "NoNumber")) (.ref (aa K "NoRow")), PySem.W.kitOne K (.ref (aa K "OnLine")) (.ref (aa K "NoRow")), PySem.W.kitOne K (.ref (aa K "NoPlace")) (.ref (aa K "NoSheet")), PySem.W.kitOne K (.ref (aa K "NoSheet")) (.ref (aa K "NoSheet")), PySem.W.kitOne K (.ref (aa K "NoNumber")) (.ref (aa K "NoSheet")), PySem.W.kitOne K (.ref (aa K "OnLine")) (.ref (aa K "NoSheet")), PySem.W.kitOne K (.ref (aa K "NoPlace")) (.ref (aa K "NoSigns")), PySem.W.kitOne K (.ref (aa K "NoSheet")) (.ref (aa K "NoSigns")), PySem.W.kitOne K (.ref (aa K "NoNumber")) (.ref (aa K "NoSigns")), PySem.W.kitOne K (.ref (aa K "OnLine")) (.ref (aa K "NoSigns")), PySem.W.kitOne K (.ref (aa K "NoPlace")) (.ref (aa K "NoText")), PySem.W.kitOne K (.ref (aa K "NoSheet")) (.ref (aa K "NoText")), PySem.W.kitOne K (.ref (aa K "NoNumber")) (.ref (aa K "NoText")), PySem.W.kitOne K (.ref (aa K "OnLine")) (.ref (aa K "NoText")), PySem.W.kitOne K (.ref (aa K "NoPlace")) (.ref (aa K "OnLine")), PySem.W.kitOne K (.ref (aa K "NoSheet")) (.ref (aa K "OnLine")), PySem.W.kitOne K (.ref (aa K "NoNumber")) (.ref (aa K "OnLine")), PySem.W.kitOne K (.ref (aa K "OnLine")) (.ref (aa K "OnLine")), PySem.W.kitOne K (.ref (aa K "NoPlace")) (.ref (aa K "TooMany")), PySem.W.kitOne K (.ref (aa K "NoSheet")) (.ref (aa K "TooMany")), PySem.W.kitOne K (.ref (aa K "NoNumber")) (.ref (aa K "TooMany")), PySem.W.kitOne K (.ref (aa K "OnLine")) (.ref (aa K "TooMany")), PySem.W.kitOne K (.ref (aa K "NoPlace")) (.ref (aa K "BentError")), PySem.W.kitOne K (.ref (aa K "NoSheet")) (.ref (aa K "BentError")), PySem.W.kitOne K (.ref (aa K "NoNumber")) (.ref (aa K "BentError")), PySem.W.kitOne K (.ref (aa K "OnLine")) (.ref (aa K "BentError")), PySem.W.kitOne K (.ref (aa K "NoPlace")) (.type "ValueError"), PySem.W.kitOne K (.ref (aa K "NoSheet")) (.type "ValueError"), PySem.W.kitOne K (.ref (aa K "NoNumber")) (.type "ValueError"), PySem.W.kitOne K (.ref (aa K "OnLine")) (.type "ValueError")], [PySem.W.exmOne K (.ref (aa K "OnLine")) (.ref (aa K "OnLine"))], sB K "OnLine" "three")
def sF : List (Option ow) × List (Option (Option Value)) × List (Option Int) × List (Option Str) × List lr × List Bool × List (Option (Option Value)) × (Option (Option Value) × Option Bool) × List (Option Bool) × List (Option Bool) × ot := (dsL.map (fun p => k6 p.1 p.2), blL.map (fun _ => some none), ciL.map (fun p => some p.2), csL.map (fun p => some p.2), xrL.map (fun _ : String => nW), xcL.map (fun _ => true), xbL.map (fun _ => some none), gw, [some false, some false, some false, some false, some false, some false, some false, some false, some false, some false, some false, some false, some false, some false, some true, some false, some true, some false, some false, some false, some false, some false, some false, some false, some false, some false, some false, some false, some false, some true, some false, some false, some false, some false, some false, some false, some false, some false, some false, some false, some false, some false, some false, some true, some false, some false, some false, some false, some true, some true, some true, some true, some true, some true, some true, some true], [some true], nJ "OnLine.__init__" lU)
theorem okL : PySem.Challenge.rw_bentrows_k72_points_lifted.wellSaid = true := tM (by kernel_rfl)
abbrev loL : List Str := [("BentError" : Str), ("NoSheet" : Str), ("NoPlace" : Str), ("NoNumber" : Str), ("NoRow" : Str), ("Apart" : Str), ("NoRing" : Str), ("TooMany" : Str), ("Bare" : Str), ("NoSigns" : Str), ("NoLine" : Str), ("OnLine" : Str), ("NoText" : Str), ("is_whole" : Str), ("is_point" : Str), ("is_place" : Str), ("check_place" : Str), ("check_whole" : Str), ("MOST_POINTS" : Str), ("are_points" : Str), ("has_rising_x" : Str), ("bend" : Str), ("threes" : Str), ("first_on_line" : Str), ("is_sheet" : Str), ("check_sheet" : Str), ("sheet_of" : Str), ("lifted" : Str), ("_law_box" : Str), ("_law_take" : Str), ("_law_whole" : Str), ("_law_bend" : Str), ("_law_free" : Str), ("_law_sheet" : Str), ("_law_is_sheet" : Str), ("_law_classes" : Str), ("_law_only" : Str), ("_law_three" : Str), ("_law_told" : Str), ("_law_onto" : Str)]
abbrev viL : Program := PySem.W.view PySem.Challenge.rw_bentrows_k72_points_lifted.row.prog [45]
theorem leftL : PySem.W.LeftO PySem.Challenge.rw_bentrows_k72_points_lifted.row.prog viL loL (fun s => PySem.W.recOk (PySem.W.RowW.records PySem.Challenge.rw_bentrows_k72_points_lifted.row.toRowW) s) (fun s => yz (xi s.heap)) (fun _ => sF) 40000 :=
 ut (m := 11) (ann := some (.ref 6)) (by kernel_rfl) rfl (fun _ => rfl) (fun w => by kernel_rfl) (fun w os => by kernel_rfl)
end Bn
end
section
namespace L2
open PySem PySem.Spec PyProof.Rows
abbrev Key:=Sum Int Str
def mn:Key->Value->Bool
 | .inl k,v=>Value.isInt k v
 | .inr x,v=>Value.isStrOf x v
def keyH (w:World):Key->Int
 | .inl k=>hashInt k
 | .inr x=>hashStr w x
theorem bg:∀ {k:Key} {v:Value},mn k v=true->(∃ i t,k=Sum.inl i/\v=Value.int i t)\/(∃ x t,k=Sum.inr x/\v=Value.str x t)
 | .inl i,v,h=>by
  obtain ⟨t,e⟩:=Value.isInt_shape (k:=i) (v:=v) h
  exact .inl ⟨i,t,rfl,e⟩
 | .inr x,v,h=>by
  obtain ⟨t,e⟩:=Value.isStrOf_shape (x:=x) (v:=v) h
  exact .inr ⟨x,t,rfl,e⟩
theorem uy (i:Int) (t:Tok):mn (.inl i) (.int i t)=true:=by simp [mn,Value.isInt]
theorem ux (x:Str) (t:Tok):mn (.inr x) (.str x t)=true:=by simp [mn,Value.isStrOf]
theorem Cl (a b:Int):decide ((Sum.inl a:Key)=Sum.inl b)=(a == b):=by
 by_cases e:a=b
 ·subst e;simp
 ·have h:¬ (Sum.inl a:Key)=Sum.inl b:=fun q=>e (Sum.inl.inj q)
  rw [Dp h]
  exact (beq_eq_false_iff_ne.mpr e).symm
theorem Ci (a b:Str):decide ((Sum.inr a:Key)=Sum.inr b)=decide (a=b):=by
 by_cases e:a=b
 ·subst e;simp
 ·have h:¬ (Sum.inr a:Key)=Sum.inr b:=fun q=>e (Sum.inr.inj q)
  rw [Dp h,Dp e]
theorem Ck (a:Int) (b:Str):decide ((Sum.inl a:Key)=Sum.inr b)=false:=Dp (fun q=>nomatch q)
theorem Cj (a:Str) (b:Int):decide ((Sum.inr a:Key)=Sum.inl b)=false:=Dp (fun q=>nomatch q)
def bR (prog:Program) (w:World):PySem.KeyKind prog w Key where
 is:=mn
 hash:=keyH w
 inj:=fun v a b f d=>by
  rcases bg f with ⟨i,t,rfl,rfl⟩ | ⟨x,t,rfl,rfl⟩
  ·rcases bg d with ⟨j,u,rfl,e⟩ | ⟨y,u,rfl,e⟩
   ·injection e with e1 _;rw [e1]
   ·exact nomatch e
  ·rcases bg d with ⟨j,u,rfl,e⟩ | ⟨y,u,rfl,e⟩
   ·exact nomatch e
   ·injection e with e1 _;rw [e1]
 byValue:=fun k v h=>by
  rcases bg h with ⟨i,t,rfl,rfl⟩ | ⟨x,t,rfl,rfl⟩ <;> rfl
 pyHash:=fun c h=>by
  rcases bg c with ⟨i,t,rfl,rfl⟩ | ⟨x,t,rfl,rfl⟩
  ·exact wpAny_pyHash_int h
  ·exact wpAny_pyHash_str h
 eqBool:=fun hu c h=>by
  rcases bg hu with ⟨i,t,rfl,rfl⟩ | ⟨x,t,rfl,rfl⟩
  ·rcases bg c with ⟨j,u,rfl,rfl⟩ | ⟨y,u,rfl,rfl⟩
   ·rw [Cl] at h;exact wpAny_eqBool_int h
   ·rw [Ck] at h;exact SeqAt.EqAt.int_str i t y u _ _ _ _ h
  ·rcases bg c with ⟨j,u,rfl,rfl⟩ | ⟨y,u,rfl,rfl⟩
   ·rw [Cj] at h;exact SeqAt.EqAt.str_int x t j u _ _ _ _ h
   ·rw [Ci] at h;exact wpAny_eqBool_str h
 «strs»:=fun k x t v h=>by
  rcases bg h with ⟨i,u,rfl,e⟩ | ⟨y,u,rfl,e⟩
  ·exact nomatch e
  ·injection e with e1 _
   subst e1
   cases v <;> rfl
theorem pB (prog:Program) (w:World) (i:Int) (t:Tok):(bR prog w).is (.inl i) (.int i t)=true:=uy i t
theorem pA (prog:Program) (w:World) (x:Str) (t:Tok):(bR prog w).is (.inr x) (.str x t)=true:=ux x t
end L2
namespace L2
open PySem PySem.Spec PyProof.Rows
inductive V where
 | non | bl (b:Bool) | int (i:Int) | str (x:Str) | byt (b:Array UInt8) | flt (b:UInt64) | ref (a:Addr) | ty (n:String)
 deriving DecidableEq
def RelV:V->Value->Prop
 | .non,u=>u=Value.none
 | .bl b,u=>u=Value.bool b
 | .int i,u=>∃ t,u=Value.int i t
 | .str x,u=>∃ t,u=Value.str x t
 | .byt b,u=>∃ t,u=Value.bytes b t
 | .flt b,u=>∃ t,u=Value.float b t
 | .ref a,u=>u=Value.ref a
 | .ty n,u=>u=Value.type n
abbrev Vals:List V->List Value->Prop:=Paired RelV
theorem Vals.length (r:Vals xs us):xs.length=us.length:=Paired.length r
theorem Vals.get:∀ {xs:List V} {us:List Value} {i:Nat} {x:V},Vals xs us->xs[i]?=some x->∃ u,us[i]?=some u/\RelV x u
 | _,_,_,_,.nil,e=>by simp at e
 | _,_,0,_,.cons r _,e=>by simp at e;subst e;exact ⟨_,rfl,r⟩
 | _,_,i+1,x,.cons _ t,e=>by
  obtain ⟨u,h1,h2⟩:=Vals.get (i:=i) (x:=x) t (by simpa using e)
  exact ⟨u,by simpa using h1,h2⟩
theorem Vals.set (r:RelV x u):∀ {xs:List V} {us:List Value} (i:Nat),Vals xs us->Vals (xs.set i x) (us.set i u)
 | _,_,_,.nil=>.nil
 | _,_,0,.cons _ t=>.cons r t
 | _,_,i+1,.cons q t=>.cons q (Vals.set r i t)
theorem Vals.append:∀ {xs ys:List V} {us ws:List Value},Vals xs us->Vals ys ws->Vals (xs ++ ys) (us ++ ws)
 | _,_,_,_,.nil,s=>s
 | _,_,_,_,.cons r t,s=>.cons r (Vals.append t s)
theorem Vals.take:∀ {xs:List V} {us:List Value} (n:Nat),Vals xs us->Vals (xs.take n) (us.take n)
 | _,_,0,_=>.nil
 | _,_,_+1,.nil=>.nil
 | _,_,n+1,.cons r t=>.cons r (Vals.take n t)
theorem Vals.drop:∀ {xs:List V} {us:List Value} (n:Nat),Vals xs us->Vals (xs.drop n) (us.drop n)
 | _,_,0,r=>r
 | _,_,_+1,.nil=>.nil
 | _,_,n+1,.cons _ t=>Vals.drop n t
def RelO:Option V->Option Value->Prop
 | some v,some u=>RelV v u
 | none,none=>True
 | _,_=>False
def KV {κ:Type}:List (κ × V)->List (κ × Value)->Prop:=Paired fun (p:κ × V) (q:κ × Value)=>p.1=q.1/\RelV p.2 q.2
def kV:Key->V
 | .inl i=>.int i
 | .inr x=>.str x
inductive HO where
 | lst (xs:List V)
 | tup (xs:List V)
 | dK (kvs:List (Key × V)) | dT (kvs:List (List Key × V))
 | set (S:Int->Bool) (n:Nat)
 | ins (C dx:Addr) (fs:List (Str × V))
 | own (x:Addr)
 | xd (fs:List (Str × V))
 | met (f x:Addr)
 | rng (lo hi:Int)
 | frz (o:Obj) (u:HO)
 | tbl (ps:Array Value)
 | ext (φ:Heap->Prop)
abbrev Hp:=Addr->Option HO
def upd (H:Hp) (a:Addr) (o:HO):Hp:=fun b=>if b=a then some o else H b
theorem aI:upd H a o a=some o:=by unfold upd;rw [if_pos rfl]
theorem ao (h:b ≠ a):upd H a o b=H b:=by unfold upd;rw [if_neg h]
theorem ne_of {H:Hp} (h:H a=some o) (h':H b=some u) (d:o ≠ u):a ≠ b:=by
 intro e;subst e;rw [h] at h';exact d (DJ h')
theorem aN {H:Hp} (h:H a=some o) (h':H b=none):a ≠ b:=by
 intro e;subst e;rw [h] at h';cases h'
def DictOfE {prog:Program} {w:World} {κ:Type} [DecidableEq κ] (knd:KeyKind prog w κ) (h:Heap) (a:Addr) (b:List (κ × Value)):Prop :=
 ∃ o es c,h.get? a=some o/\o.ExactDict/\o.data=.dict es c/\KeysOf knd es/\Pairs knd es.toList b/\(b.map (·.1)).Nodup/\c=es.size
theorem DictOfE.of [DecidableEq κ] {knd:KeyKind prog w κ} {b:List (κ × Value)} (x:DictOfE knd h a b):h.DictOf knd a b:=let ⟨o,es,c,h1,h2,h3,f,e,d,_⟩:=x;⟨o,es,c,h1,h2,h3,f,e,d⟩
def IsTupD (h:Heap) (a:Addr) (items:Array Value):Prop:=∃ o,h.get? a=some o/\o.cls=.type "tuple"/\∃ n,(o.data,o.dict)=(Data.seq items n,none)
theorem IsTupD.tup {h:Heap} {a:Addr} {items:Array Value} (x:IsTupD h a items):IsTup h a items:=let ⟨o,e,c,n,d⟩:=x;⟨o,e,c,n,congrArg Prod.fst d⟩
theorem IsTupD.lt (x:IsTupD h a items):a < h.objs.size:=x.tup.lt
theorem IsTupD.new (h:Heap) (items:Array Value):IsTupD (h.push { cls:=.type "tuple",data:=.seq items }) h.objs.size items:=⟨_,Dc h rfl,rfl,_,rfl⟩
section
variable (P:Program) (w:World)
def ObjOk (H:Hp) (h:Heap) (a:Addr):HO->Prop
 | .lst xs=>xs.length<=sizeLine/\∃ (b:List Value) (n:Nat),Vals xs b/\h.get? a=some { cls:=.type "list",data:=.seq b.toArray n }
 | .tup xs=>xs.length<=sizeLine/\∃ b:List Value,Vals xs b/\IsTupD h a b.toArray
 | .dK kvs=>kvs.length<=sizeLine/\(a == sysModules)=false/\∃ vs,KV kvs vs/\DictOfE (bR P w) h a vs
 | .dT kvs=>kvs.length<=sizeLine/\(a == sysModules)=false/\∃ xs:List (List Key × Addr × Value),
   Paired (fun (p:List Key × V) (q:List Key × Addr × Value)=>p.1=q.1/\H q.2.1=some (.tup (p.1.map kV))/\RelV p.2 q.2.2) kvs xs /\
   ∃ o es d,h.get? a=some o/\o.ExactDict/\o.data=.dict es d/\es.toList=xs.map (entryOfKey (tupleKind (bR P w)))/\(xs.map (·.1)).Nodup/\d=es.size
 | .set S n=>h.SetOf (intKind P w) a S n
 | .ins C dx fs=>H dx=some (.own a)/\fs.length<=1000/\dx ≠ a/\h.get? a=some (PySem.W.instObj C dx) /\
   ∃ c,h.Ns1 dx c/\(∀ f,RelO (fs.lookup f) (c f))/\PySem.Within c (fs.map (·.1))
 | .own _=>∃ o,h.get? a=some o
 | .xd fs=>∃ c,h.Ns1 a c/\∀ f,RelO (fs.lookup f) (c f)
 | .rng lo hi=>∃ t u v,h.get? a=some { cls:=.type "range",data:=.fields #[.int lo t,.int hi u,.int 1 v] }
 | .frz o u=>h.get? a=some o/\ObjOk H h a u
 | .tbl ps=>h.get? a=some { cls:=.none,data:=.fields ps }
 | .met f x=>h.get? a=some (PySem.W.methodObj (.ref f) (.ref x))
 | .ext φ=>φ h/\(∃ o,h.get? a=some o)/\∀ h1 h2:Heap,φ h1->(∀ o,h1.get? a=some o->h2.get? a=some o)->φ h2
def HOk (H:Hp) (h:Heap):Prop:=∀ a o,H a=some o->ObjOk P w H h a o
end
section
variable {P:Program} {w:World} {H H':Hp} {h h':Heap} {a:Addr} {o:HO}
theorem ObjOk.lt (x:ObjOk P w H h a o):a < h.objs.size:=by
 cases o with
 | lst xs=>obtain ⟨_,_,_,_,e⟩:=x;exact Da e
 | tup xs=>obtain ⟨_,_,_,p⟩:=x;exact p.lt
 | dK kvs=>obtain ⟨_,_,_,_,o,_,_,e,_⟩:=x;exact Da e
 | dT kvs=>obtain ⟨_,_,_,_,o,_,_,e,_⟩:=x;exact Da e
 | set S n=>obtain ⟨o,_,_,_,e,_⟩:=x;exact Da e
 | ins C dx fs=>obtain ⟨_,_,_,e,_⟩:=x;exact Da e
 | own y=>obtain ⟨_,e⟩:=x;exact Da e
 | xd fs=>obtain ⟨_,⟨_,_,_,e,_⟩,_⟩:=x;exact Da e
 | rng lo hi=>obtain ⟨_,_,_,e⟩:=x;exact Da e
 | frz ob u=>obtain ⟨e,_⟩:=x;exact Da e
 | tbl ps=>exact Da (show h.get? a=some _ from x)
 | met f y=>exact Da (show h.get? a=some _ from x)
 | ext φ=>obtain ⟨_,⟨_,e⟩,_⟩:=x;exact Da e
theorem Paired.mapP:∀ {d:List α} {c:List β},Paired F d c->(∀ a b,F a b->G a b)->Paired G d c
 | _,_,.nil,_=>.nil
 | _,_,.cons r t,f=>.cons (f _ _ r) (Paired.mapP t f)
theorem ObjOk.stay (x:ObjOk P w H h a o) (k:∀ b u,(b=a\/H b=some (.own a))->h.get? b=some u->h'.get? b=some u)
  (m:∀ b,H b=some (.own a)->H' b=some (.own a)) (l:∀ b xs,H b=some (.tup xs)->H' b=some (.tup xs)):ObjOk P w H' h' a o:=by
 induction o with
 | lst xs=>obtain ⟨z,i,n,r,e⟩:=x;exact ⟨z,i,n,r,k _ _ (.inl rfl) e⟩
 | tup xs=>obtain ⟨z,i,r,ob,e,c⟩:=x;exact ⟨z,i,r,ob,k _ _ (.inl rfl) e,c⟩
 | dK kvs=>obtain ⟨z,y,vs,r,ob,es,g,e,c⟩:=x;exact ⟨z,y,vs,r,ob,es,g,k _ _ (.inl rfl) e,c⟩
 | dT kvs =>
  obtain ⟨z,y,xs,r,ob,es,g,e,c⟩:=x
  exact ⟨z,y,xs,Paired.mapP r fun p q z=>⟨z.1,l _ _ z.2.1,z.2.2⟩,ob,es,g,k _ _ (.inl rfl) e,c⟩
 | set S n=>obtain ⟨ob,es,g,t,e,c⟩:=x;exact ⟨ob,es,g,t,k _ _ (.inl rfl) e,c⟩
 | ins C dx fs =>
  obtain ⟨d,z,ne,e,j,⟨od,es,g,s,c⟩,r⟩:=x
  exact ⟨m _ d,z,ne,k _ _ (.inl rfl) e,j,⟨od,es,g,k _ _ (.inr d) s,c⟩,r⟩
 | own y=>obtain ⟨ob,e⟩:=x;exact ⟨ob,k _ _ (.inl rfl) e⟩
 | xd fs=>obtain ⟨j,⟨od,es,g,e,c⟩,r⟩:=x;exact ⟨j,⟨od,es,g,k _ _ (.inl rfl) e,c⟩,r⟩
 | rng lo hi=>obtain ⟨t,u,v,e⟩:=x;exact ⟨t,u,v,k _ _ (.inl rfl) e⟩
 | frz ob u ih=>obtain ⟨e,q⟩:=x;exact ⟨k _ _ (.inl rfl) e,ih q⟩
 | tbl ps =>
  have e:h.get? a=some { cls:=.none,data:=.fields ps }:=x
  show h'.get? a=some { cls:=.none,data:=.fields ps }
  exact k a _ (.inl rfl) e
 | met f y =>
  have e:h.get? a=some (PySem.W.methodObj (.ref f) (.ref y)):=x
  show h'.get? a=some (PySem.W.methodObj (.ref f) (.ref y))
  exact k a _ (.inl rfl) e
 | ext φ=>obtain ⟨p,⟨o,e⟩,st⟩:=x;exact ⟨st _ _ p fun o q=>k _ _ (.inl rfl) q,⟨o,k _ _ (.inl rfl) e⟩,st⟩
theorem HOk.lt (x:HOk P w H h) (e:H a=some o):a < h.objs.size:=(x a o e).lt
theorem HOk.fresh (x:HOk P w H h) (e:h.objs.size<=a):H a=none:=by
 cases q:H a with
 | none=>rfl
 | some u=>exact absurd (Dq (x.lt q) e) (Nat.lt_irrefl _)
theorem HOk.kept (x:HOk P w H h) (k:∀ b u,h.get? b=some u->h'.get? b=some u):HOk P w H h':=fun a o e =>
 (x a o e).stay (fun b u _ q=>k b u q) (fun _ q=>q) fun _ _ q=>q
theorem HOk.laid (x:HOk P w H h) (k:∀ b u,h.get? b=some u->h'.get? b=some u) (g:h.objs.size<=a) (new:ObjOk P w (upd H a o) h' a o):HOk P w (upd H a o) h':=fun b u e=>by
 have f:=x.fresh g
 by_cases d:b=a
 ·subst d;rw [aI] at e;cases e;exact new
 ·rw [ao d] at e
  exact (x b u e).stay (fun c v _ q=>k c v q) (fun c q=>by rw [ao (aN q f)];exact q) fun c xs q=>by rw [ao (aN q f)];exact q
end
def Rd (H:Hp) (a:Addr) (u:HO):Prop:=H a=some u\/∃ o,H a=some (.frz o u)
theorem Rd.ok (r:Rd H a u) (x:HOk P w H h):ObjOk P w H h a u:=by
 rcases r with r | ⟨o,r⟩
 ·exact x a u r
 ·obtain ⟨_,q⟩:=x a _ r
  exact q
def Mut:Option HO->Prop
 | some (.lst _)=>True
 | some (.dK _)=>True
 | some (.dT _)=>True
 | some (.set _ _)=>True
 | some (.ins _ _ _)=>True
 | some (.ext _)=>True
 | _=>False
section
variable {P:Program} {w:World} {H:Hp} {h h':Heap} {x e:Addr} {o':HO}
theorem HOk.write (ok:HOk P w H h) (j:Mut (H x)) (he:e=x\/H e=some (.own x)) (k:∀ b u,b ≠ e->h.get? b=some u->h'.get? b=some u) (l:∃ u,h'.get? e=some u)
  (new:ObjOk P w (upd H x o') h' x o'):HOk P w (upd H x o') h':=fun b u q=>by
 have d:∀ c y,H c=some (.own y)->c ≠ x:=fun c y r z=>by subst z;rw [r] at j;exact j
 have f:∀ c xs,H c=some (.tup xs)->c ≠ x:=fun c xs r z=>by subst z;rw [r] at j;exact j
 by_cases i:b=x
 ·subst i;rw [aI] at q;cases q;exact new
 ·rw [ao i] at q
  by_cases a:b=e
  ·have m:H b=some (.own x):=by
    rcases he with z | z
    ·exact absurd (a.trans z) i
    ·rw [a];exact z
   rw [q] at m;cases m
   obtain ⟨v,n⟩:=l
   exact ⟨v,by rw [a];exact n⟩
  ·refine (ok b u q).stay (fun c v g r=>k c v ?_ r) (fun c r=>by rw [ao (d c b r)];exact r) fun c xs r=>by rw [ao (f c xs r)];exact r
   rcases g with rfl | g
   ·exact a
   ·rintro rfl
    rcases he with z | z
    ·exact d c b g z
    ·rw [g] at z;cases z;exact i rfl
end
structure Un (fs ex:List Addr) (H H':Hp) (h h':Heap):Prop where
 keep:∀ b o,h.get? b=some o->H b=none->b ∉ fs->b ∉ ex->h'.get? b=some o
 slot:∀ b o,h.get? b=some o->H b=none->b ∈ fs->b ∉ ex->∃ sl,h'.get? b=some { o with slots:=sl }
 free:∀ b o,h.get? b=some o->H b=none->b ∉ ex->H' b=none
 there:∀ b o,h.get? b=some o->b ∉ ex->∃ o',h'.get? b=some o'
 tups:∀ b xs,H b=some (.tup xs)->H' b=some (.tup xs)
 frzs:∀ b o u,H b=some (.frz o u)->H' b=some (.frz o u)
 tbls:∀ b ps,H b=some (.tbl ps)->∃ more,H' b=some (.tbl (ps ++ more))
section
variable {fs fs' ex ex':List Addr} {H H1 H2:Hp} {h h1 h2 h':Heap} {a x e:Addr} {o:HO}
theorem Un.any (u:Un fs ex H H1 h h1) (q:h.get? b=some ob) (n:H b=none) (c:b ∉ ex):∃ sl,h1.get? b=some { ob with slots:=sl }:=by
 by_cases a:b ∈ fs
 ·exact u.slot b ob q n a c
 ·exact ⟨ob.slots,u.keep b ob q n a c⟩
theorem Un.trans (a:Un fs ex H H1 h h1) (b:Un fs ex H1 H2 h1 h2):Un fs ex H H2 h h2 where
 keep:=fun c ob q n e d=>b.keep c ob (a.keep c ob q n e d) (a.free c ob q n d) e d
 slot:=fun c ob q n e d=>by
  obtain ⟨sl,e1⟩:=a.slot c ob q n e d
  obtain ⟨g,f⟩:=b.slot c _ e1 (a.free c ob q n d) e d
  exact ⟨g,f⟩
 free:=fun c ob q n d=>by
  obtain ⟨o',e1⟩:=a.there c ob q d
  exact b.free c o' e1 (a.free c ob q n d) d
 there:=fun c ob q d=>by
  obtain ⟨o',e1⟩:=a.there c ob q d
  exact b.there c o' e1 d
 tups:=fun c xs q=>b.tups c xs (a.tups c xs q)
 frzs:=fun c ob xs q=>b.frzs c ob xs (a.frzs c ob xs q)
 tbls:=fun c ps q=>by
  obtain ⟨j,e1⟩:=a.tbls c ps q
  obtain ⟨i,f⟩:=b.tbls c _ e1
  exact ⟨j ++ i,by rw [f,Array.append_assoc]⟩
theorem Un.kept (k:∀ b u,h.get? b=some u->h'.get? b=some u):Un fs ex H H h h' :=
 ⟨fun b ob q _ _ _=>k b ob q,fun b ob q _ _ _=>⟨ob.slots,k b ob q⟩,fun _ _ _ n _=>n,fun b ob q _=>⟨ob,k b ob q⟩,fun _ _ q=>q,fun _ _ _ q=>q,fun _ ps q=>⟨#[],by rw [q];simp⟩⟩
theorem Un.refl:Un fs ex H H h h:=Un.kept fun _ _ q=>q
theorem Un.laid (k:∀ b u,h.get? b=some u->h'.get? b=some u) (d:h.objs.size<=a) (c:H a=none):Un fs ex H (upd H a o) h h' where
 keep:=fun b u q _ _ _=>k b u q
 slot:=fun b u q _ _ _=>⟨u.slots,k b u q⟩
 free:=fun b u q n _=>by rw [ao (Dl (Dq (Da q) d))];exact n
 there:=fun b u q _=>⟨u,k b u q⟩
 tups:=fun b xs q=>by rw [ao (aN q c)];exact q
 frzs:=fun b u xs q=>by rw [ao (aN q c)];exact q
 tbls:=fun b ps q=>⟨#[],by rw [ao (aN q c),q];simp⟩
theorem Un.write (c:Mut (H x)) (he:e=x\/H e=some (.own x)) (k:∀ b u,b ≠ e->h.get? b=some u->h'.get? b=some u) (d:∃ u,h'.get? e=some u):Un fs ex H (upd H x o) h h':=by
 have g:∀ b,H b=none->b ≠ x:=fun b n z=>by subst z;rw [n] at c;exact c
 have f:∀ b,H b=none->b ≠ e:=fun b n z=>by
  subst z
  rcases he with r | r
  ·exact g b n r
  ·rw [n] at r;cases r
 have hm:∀ b u,H b=some u->¬ Mut (some u)->b ≠ x:=fun b u q nm z=>by subst z;rw [q] at c;exact nm c
 refine ⟨fun b u q n _ _=>k b u (f b n) q,fun b u q n _ _=>⟨u.slots,k b u (f b n) q⟩,fun b u q n _=>by rw [ao (g b n)];exact n,fun b u q _=>?_,
  fun b xs q=>by rw [ao (hm b _ q fun z=>z)];exact q,fun b u xs q=>by rw [ao (hm b _ q fun z=>z)];exact q,fun b ps q=>⟨#[],by rw [ao (hm b _ q fun z=>z),q];simp⟩⟩
 by_cases a:b=e
 ·subst a;exact d
 ·exact ⟨u,k b u a q⟩
end
def trk (h:Heap) (H:Hp):List Addr:=(List.range h.objs.size).filter fun a=>(H a).isSome
def nO (h:Heap) (H:Hp):Heap:=PySem.W.hideAll h (trk h H)
theorem uD (h:Heap) (H:Hp):(nO h H).objs.size=h.objs.size:=PySem.W.hideAll_size _ _
theorem xg (e:h.get? b=some o) (n:H b=none):(nO h H).get? b=some o :=
 PySem.W.hideAll_get _ e fun hm=>by
  have q:(H b).isSome=true:=(DA.mp hm).2
  rw [n] at q;simp at q
theorem ze (e:(nO h H).get? b=some o):h.get? b=some o/\H b=none:=by
 have a:h.get? b=some o:=PySem.W.of_hideAll (trk h H) e
 refine ⟨a,?_⟩
 cases q:H b with
 | none=>rfl
 | some x =>
  have hm:b ∈ trk h H:=DA.mpr ⟨List.mem_range.mpr (Da a),by simp [q]⟩
  have z:(nO h H).get? b=none:=PySem.W.hideAll_none (trk h H) hm
  rw [z] at e;cases e
def z7 (g h:Heap) (L:Addr):List (Addr × Obj):=(List.range h.objs.size).filterMap fun a=>if a=L\/(g.get? a).isSome=true then none else (h.get? a).map fun o=>(a,o)
def rest (g h:Heap) (L d:Addr):List (Addr × Obj):=(z7 g h L).filter fun p=>decide (p.1 ≠ d)
end L2
namespace L2
open PySem PySem.Spec PyProof.Rows
structure Mod (K:FG) (mg:Str->Option Value) (base:Heap):Prop where
 kin:K.In base
 glob:base.Ns mainGlobals mg
 blt:∃ mb,base.Ns builtinsNs mb/\∀ x:Str,x ≠ "__name__"->mb x=bootBuiltins x
 nolimit:base.NoLimit
structure Cx where
 prog:Program
 w:World
 K:FG
 mg:Str->Option Value
 base:Heap
 A:Around
 N:List Str
 s₀:Shared
 H₀:Hp
 env:Env
 outer:List Env
 stack:List Env
 ex:List Addr
 fn:Str->Bool
 calm:Bool
 pn:List (Addr × Obj)
 xe:Value->Shared->Prop
def frs (l:List Env):List Addr:=l.filterMap (·.frame)
abbrev Cx.fs (X:Cx):List Addr:=frs X.outer
def Vis (sc:Scope) (x:Str):Prop:=sc.names.lookup x=some .local\/sc.names.lookup x=some .cell\/sc.names.lookup x=some .free
def Loc (sc:Scope) (x:Str):Prop:=sc.names.lookup x=some .local\/sc.names.lookup x=some .cell
def Look (env:Env) (h:Heap) (m:Str->Option Value) (x:Str) (u:Value):Prop :=
 (env.kindOf x=some .local/\m x=some u)\/((env.kindOf x=some .cell\/env.kindOf x=some .free)/\∃ c,env.cells.lookup x=some c/\h.IsCell c (some u))
structure Cx.Ok (X:Cx):Prop where
 mod:Mod X.K X.mg X.base
 kind:X.env.scope.kind=.function
 glob:X.env.globals=mainGlobals
 blt:X.env.builtins=builtinsNs
 above:X.s₀.heap.objs.size<=X.env.locals
 inj:∀ x y c,X.env.cells.lookup x=some c->X.env.cells.lookup y=some c->x=y
 has:∀ x,(X.env.kindOf x=some .cell\/X.env.kindOf x=some .free)->∃ c,X.env.cells.lookup x=some c
 cab:∀ x c,X.fn x=true->X.env.cells.lookup x=some c->X.s₀.heap.objs.size<=c
 hd:X.calm=true->X.A.handled=none
 frames:X.A.frames=some X.stack
 stk:X.stack=X.outer\/(X.stack=X.env :: X.outer/\X.env.frame=some X.env.locals)
 exf:∀ b ∈ X.ex,b ≠ X.env.locals/\∀ x c,X.env.cells.lookup x=some c->c ≠ b
 bs:∀ b o,X.base.get? b=some o->X.s₀.heap.get? b=some o/\X.H₀ b=none
 bsz:X.base.objs.size<=X.s₀.heap.objs.size
 noex:∀ b o,X.base.get? b=some o->b ∉ X.ex
 exfs:∀ b ∈ X.ex,b ∉ X.fs
 funs:X.s₀.heap.FunFrames X.base X.outer
 frf:∀ b ∈ X.fs,X.H₀ b=none
structure Inv (X:Cx) (pins:List (Addr × Obj)) (σ:List (Option V)) (H:Hp) (s:Shared):Prop where
 ok:X.Ok
 os:s.os=X.s₀.os
 bare:AllBare s.gens
 base:Un X.fs X.ex X.H₀ H X.s₀.heap s.heap
 loc:∃ m,s.heap.Ns X.env.locals m/\∀ (i:Nat) (x:Str) (v:V),X.N[i]?=some x->σ[i]?=some (some v)->Vis X.env.scope x->∃ u,RelV v u/\Look X.env s.heap m x u
 cell:∀ x c,X.env.cells.lookup x=some c->∃ v,s.heap.IsCell c v
 free:H X.env.locals=none
 freeC:∀ x c,X.env.cells.lookup x=some c->H c=none
 pin:∀ p ∈ X.pn ++ pins,s.heap.get? p.1=some p.2/\H p.1=none/\p.1 ≠ X.env.locals/\p.1 ∉ X.fs/\∀ v,p.2.data ≠ .cell v
 hok:HOk X.prog X.w H s.heap
 len:σ.length=X.N.length
section
variable {X:Cx} {pins:List (Addr × Obj)} {σ:List (Option V)} {H H':Hp} {s:Shared} {h':Heap}
theorem Cx.Ok.nofr (ok:X.Ok) (e:X.base.get? b=some o):b ∉ X.fs:=fun a=>by
 have:=(ok.funs.mem a).1
 rw [e] at this;cases this
theorem Inv.bs (I:Inv X pins σ H s):∀ b o,X.base.get? b=some o->s.heap.get? b=some o/\H b=none:=fun b o e =>
 ⟨I.base.keep b o (I.ok.bs b o e).1 (I.ok.bs b o e).2 (I.ok.nofr e) (I.ok.noex b o e),I.base.free b o (I.ok.bs b o e).1 (I.ok.bs b o e).2 (I.ok.noex b o e)⟩
theorem Inv.bk (I:Inv X pins σ H s):∀ b o,X.base.get? b=some o->s.heap.get? b=some o:=fun b o e=>(I.bs b o e).1
theorem Inv.mod (I:Inv X pins σ H s):Mod X.K X.mg X.base:=I.ok.mod
theorem Inv.kIn (I:Inv X pins σ H s):X.K.In s.heap:=I.ok.mod.kin.keeps I.bk
theorem Inv.lt (I:Inv X pins σ H s):X.env.locals < s.heap.objs.size:=let ⟨_,a,_⟩:=I.loc;a.lt
theorem Inv.sz (I:Inv X pins σ H s):X.s₀.heap.objs.size<=s.heap.objs.size:=DF I.ok.above (Nat.le_of_lt I.lt)
theorem Inv.nofs (I:Inv X pins σ H s) (h:s.heap.objs.size<=a):a ∉ X.fs:=fun c=>by
 obtain ⟨_,o,b,_⟩:=I.ok.funs.mem c
 exact absurd (Dq (Da b) (DF I.sz h)) (Nat.lt_irrefl _)
theorem Inv.cne (I:Inv X pins σ H s):∀ x c,X.env.cells.lookup x=some c->c ≠ X.env.locals:=fun x c e z=>by
 obtain ⟨v,o,d,hd⟩:=I.cell x c e
 obtain ⟨m,⟨o',es,f,a,b,_⟩,_⟩:=I.loc
 rw [z,a] at d;cases d;rw [b] at hd;cases hd
theorem Inv.funs (I:Inv X pins σ H s):s.heap.FunFrames X.base X.outer:=by
 have all:∀ (l:List Env),(∀ b ∈ frs l,b ∈ X.fs)->X.s₀.heap.FunFrames X.base l->s.heap.FunFrames X.base l:=by
  intro l
  induction l with
  | nil=>intro _ _;trivial
  | cons env r ih =>
   intro d f
   obtain ⟨h,⟨L,o,hf,j,i,hd⟩,g⟩:=f
   have c:L ∈ X.fs:=d L (by unfold frs;rw [List.filterMap_cons,hf];exact C2)
   obtain ⟨sl,e⟩:=I.base.slot L o i (I.ok.frf L c) c fun z=>I.ok.exfs L z c
   exact ⟨h,⟨L,_,hf,j,e,hd⟩,ih (fun b a=>d b (by unfold frs;rw [List.filterMap_cons,hf];exact C3 _ a)) g⟩
 exact all X.outer (fun _ a=>a) I.ok.funs
theorem Inv.stack (I:Inv X pins σ H s):s.heap.FunFrames X.base X.stack:=by
 rcases I.ok.stk with e | ⟨e,hf⟩
 ·rw [e];exact I.funs
 ·rw [e]
  obtain ⟨m,a,_⟩:=I.loc
  refine .cons (by rw [I.ok.kind];decide) hf a ?_ I.funs
  exact Heap.get?_none_of_le (DF I.ok.bsz I.ok.above)
theorem Inv.stkSub (I:Inv X pins σ H s):∀ b ∈ frs X.stack,b ∈ X.env.locals :: X.fs:=fun b a=>by
 rcases I.ok.stk with e | ⟨e,hf⟩
 ·rw [e] at a;exact C3 _ a
 ·rw [e] at a
  unfold frs at a
  rw [List.filterMap_cons,hf] at a
  exact a
theorem Inv.stkFree (I:Inv X pins σ H s):∀ b ∈ frs X.stack,H b=none:=fun b a=>by
 rcases C8.mp (I.stkSub b a) with e | a
 ·rw [e];exact I.free
 ·obtain ⟨_,o,c,_⟩:=I.ok.funs.mem a
  exact I.base.free b o c (I.ok.frf b a) fun z=>I.ok.exfs b z a
theorem Inv.step {t':Nat} {ch:List Addr} (I:Inv X pins σ H s) (f:∀ b ∈ ch,(b ∈ X.ex\/X.s₀.heap.objs.size<=b)/\b ≠ X.env.locals/\(∀ x c,X.env.cells.lookup x=some c->c ≠ b)/\∀ p ∈ X.pn ++ pins,p.1 ≠ b) (keep:∀ b o,b ≠ X.env.locals->b ∉ X.fs->b ∉ ch->s.heap.get? b=some o->H b=none->h'.get? b=some o) (slot:∀ b o,b ≠ X.env.locals->b ∈ X.fs->b ∉ ch->s.heap.get? b=some o->H b=none->∃ sl,h'.get? b=some { o with slots:=sl }) (free:∀ b o,b ∉ ch->s.heap.get? b=some o->H b=none->H' b=none) (there:∀ b o,b ∉ ch->s.heap.get? b=some o->∃ o',h'.get? b=some o') (tups:∀ b xs,H b=some (.tup xs)->H' b=some (.tup xs)) (frzs:∀ b o u,H b=some (.frz o u)->H' b=some (.frz o u)) (tbls:∀ b ps,H b=some (.tbl ps)->∃ more,H' b=some (.tbl (ps ++ more))) (ns:∀ m,s.heap.Ns X.env.locals m->h'.Ns X.env.locals m) (hok:HOk X.prog X.w H' h') (G:AllBare g') :
  Inv X pins σ H' { s with heap:=h',gens:=g',drawn:=d',toks:=t' }:=by
 have y:∀ b o,X.s₀.heap.get? b=some o->b ≠ X.env.locals:=fun b o e=>Dl (Dq (Da e) I.ok.above)
 have h:∀ b o,X.s₀.heap.get? b=some o->b ∉ X.ex->b ∉ ch:=fun b o e a j=>by
  rcases (f b j).1 with z | z
  ·exact a z
  ·exact absurd (Dq (Da e) z) (Nat.lt_irrefl _)
 have cellK:∀ x c,X.env.cells.lookup x=some c->∀ v,s.heap.IsCell c v->h'.IsCell c v:=fun x c e v ⟨o,t,hd⟩=>by
  have g:c ∉ ch:=fun z=>(f c z).2.2.1 x c e rfl
  by_cases E:c ∈ X.fs
  ·obtain ⟨sl,q⟩:=slot c o (I.cne x c e) E g t (I.freeC x c e)
   exact ⟨_,q,hd⟩
  ·exact ⟨o,keep c o (I.cne x c e) E g t (I.freeC x c e),hd⟩
 refine ⟨I.ok,I.os,G,⟨fun b o e n j a=>?_,fun b o e n j a=>?_,fun b o e n a=>?_,fun b o e a=>?_,fun b xs e=>tups b xs (I.base.tups b xs e),fun b o xs e=>frzs b o xs (I.base.frzs b o xs e),fun b ps e=>?_⟩,?_,fun x c e=>?_,?_,fun x c e=>?_,fun p D=>?_,hok,I.len⟩
 ·exact keep b o (y b o e) j (h b o e a) (I.base.keep b o e n j a) (I.base.free b o e n a)
 ·obtain ⟨sl,e1⟩:=I.base.slot b o e n j a
  obtain ⟨B,A⟩:=slot b _ (y b o e) j (h b o e a) e1 (I.base.free b o e n a)
  exact ⟨B,A⟩
 ·obtain ⟨o',e1⟩:=I.base.there b o e a
  exact free b o' (h b o e a) e1 (I.base.free b o e n a)
 ·obtain ⟨o',e1⟩:=I.base.there b o e a
  exact there b o' (h b o e a) e1
 ·obtain ⟨L,e1⟩:=I.base.tbls b ps e
  obtain ⟨F,A⟩:=tbls b _ e1
  exact ⟨L ++ F,by rw [A,Array.append_assoc]⟩
 ·obtain ⟨m,M,J⟩:=I.loc
  refine ⟨m,ns m M,fun i x v e1 A K=>?_⟩
  obtain ⟨u,r,l⟩:=J i x v e1 A K
  refine ⟨u,r,?_⟩
  rcases l with l | ⟨k,c,e,z⟩
  ·exact .inl l
  ·exact .inr ⟨k,c,e,cellK x c e _ z⟩
 ·obtain ⟨v,z⟩:=I.cell x c e
  exact ⟨v,cellK x c e v z⟩
 ·obtain ⟨m,⟨o,_,_,t,_⟩,_⟩:=I.loc
  exact free _ o (fun z=>(f _ z).2.1 rfl) t I.free
 ·obtain ⟨v,o,t,hd⟩:=I.cell x c e
  exact free c o (fun z=>(f c z).2.2.1 x c e rfl) t (I.freeC x c e)
 ·obtain ⟨e,n,ne,C,d⟩:=I.pin p D
  have g:p.1 ∉ ch:=fun z=>(f p.1 z).2.2.2 p D rfl
  exact ⟨keep p.1 p.2 ne C g e n,free p.1 p.2 g e n,ne,C,d⟩
theorem Inv.un {t':Nat} (I:Inv X pins σ H s) (u:Un X.fs [] H H' s.heap h') (hok:HOk X.prog X.w H' h'):Inv X pins σ H' { s with heap:=h',toks:=t' }:=by
 obtain ⟨m,⟨o,es,k,g,r⟩,_⟩:=id I.loc
 obtain ⟨sl,i⟩:=u.any g I.free (by simp)
 exact I.step (g':=s.gens) (d':=s.drawn) (ch:=[]) (fun _ z=>nomatch z) (fun b o _ f _ e n=>u.keep b o e n f (by simp)) (fun b o _ f _ e n=>u.slot b o e n f (by simp)) (fun b o _ e n=>u.free b o e n (by simp)) (fun b o _ e=>u.there b o e (by simp)) u.tups u.frzs u.tbls (fun j hm=>by
  obtain ⟨o',d,c,a,h⟩:=hm
  rw [g] at a;cases a
  exact ⟨_,d,c,i,h⟩) hok I.bare
theorem Inv.call {t':Nat} (I:Inv X pins σ H s) (u:Un (frs X.stack) ch H H' s.heap h') (hok:HOk X.prog X.w H' h') (q:AllBare g') (d:∀ b ∈ ch,(b ∈ X.ex\/X.s₀.heap.objs.size<=b)/\b ≠ X.env.locals/\(∀ x c,X.env.cells.lookup x=some c->c ≠ b)/\∀ p ∈ X.pn ++ pins,p.1 ≠ b) :
  Inv X pins σ H' { s with heap:=h',gens:=g',drawn:=d',toks:=t' }:=by
 obtain ⟨m,⟨o,es,v,j,r⟩,_⟩:=id I.loc
 obtain ⟨sl,i⟩:=u.any j I.free fun z=>(d _ z).2.1 rfl
 exact I.step (ch:=ch) d (fun b o i k a e n=>u.keep b o e n (fun z=>(C8.mp (I.stkSub b z)).elim i k) a) (fun b o _ _ a e n=>u.any e n a) (fun b o a e n=>u.free b o e n a) (fun b o a e=>u.there b o e a) u.tups u.frzs u.tbls (fun t hm=>by
  obtain ⟨o',h,g,f,l⟩:=hm
  rw [j] at f;cases f
  exact ⟨_,h,g,i,l⟩) hok q
theorem Inv.turned {t':Nat} (I:Inv X pins σ H s) (k:∀ b o,b ≠ it->s.heap.get? b=some o->h'.get? b=some o) (j:H it=none) (f:it ≠ X.env.locals) (h1:it ∈ X.ex\/X.s₀.heap.objs.size<=it) (h2:∀ x c,X.env.cells.lookup x=some c->c ≠ it) (h3:∀ p ∈ X.pn ++ pins,p.1 ≠ it):Inv X pins σ H { s with heap:=h',toks:=t' }:=by
 have d:∀ b u,H b=some u->b ≠ it:=fun b u e z=>by rw [z,j] at e;cases e
 refine I.step (g':=s.gens) (d':=s.drawn) (ch:=[it]) (fun b i=>?_) (fun b o _ _ a e _=>k b o (fun z=>a (by simp [z])) e) (fun b o _ _ a e _=>⟨o.slots,k b o (fun z=>a (by simp [z])) e⟩) (fun _ _ _ _ n=>n)
  (fun b o a e=>⟨o,k b o (fun z=>a (by simp [z])) e⟩) (fun _ _ e=>e) (fun _ _ _ e=>e) (fun b ps e=>⟨#[],by rw [e];simp⟩) (fun m hm=>?_) (fun b u e=>?_) I.bare
 ·have e:b=it:=by simpa using i
  subst e
  exact ⟨h1,f,h2,h3⟩
 ·obtain ⟨o,es,g,h,r⟩:=hm
  exact ⟨o,es,g,k _ o (Ne.symm f) h,r⟩
 ·refine (I.hok b u e).stay (fun c v a q=>k c v ?_ q) (fun _ q=>q) fun _ _ q=>q
  rcases a with z | z
  ·rw [z];exact d b u e
  ·exact d c _ z
theorem Inv.tok (I:Inv X pins σ H s) (t:Nat):Inv X pins σ H { s with toks:=t }:=I.un (h':=s.heap) (t':=t) Un.refl I.hok
theorem Inv.kept {t':Nat} (I:Inv X pins σ H s) (k:∀ b u,s.heap.get? b=some u->h'.get? b=some u):Inv X pins σ H { s with heap:=h',toks:=t' }:=I.un (Un.kept k) (I.hok.kept k)
theorem Inv.laid {t':Nat} (I:Inv X pins σ H s) (k:∀ b u,s.heap.get? b=some u->h'.get? b=some u) (c:s.heap.objs.size<=a) (new:ObjOk X.prog X.w (upd H a o) h' a o) :
  Inv X pins σ (upd H a o) { s with heap:=h',toks:=t' }:=I.un (Un.laid k c (I.hok.fresh c)) (I.hok.laid k c new)
theorem Inv.write {t':Nat} (I:Inv X pins σ H s) (c:Mut (H x)) (he:e=x\/H e=some (.own x)) (k:∀ b u,b ≠ e->s.heap.get? b=some u->h'.get? b=some u) (a:∃ u,h'.get? e=some u) (new:ObjOk X.prog X.w (upd H x o) h' x o):Inv X pins σ (upd H x o) { s with heap:=h',toks:=t' }:=I.un (Un.write c he k a) (I.hok.write c he k a new)
theorem Inv.pins_of (I:Inv X pins σ H s) (h:∀ p ∈ pins',s.heap.get? p.1=some p.2/\H p.1=none/\p.1 ≠ X.env.locals/\p.1 ∉ X.fs/\∀ v,p.2.data ≠ .cell v):Inv X pins' σ H s :=
 ⟨I.ok,I.os,I.bare,I.base,I.loc,I.cell,I.free,I.freeC,fun p a=>(Db.mp a).elim (fun z=>I.pin p (C6 _ z)) (h p),I.hok,I.len⟩
theorem pp {N:List Str} (c:N.Nodup) {i j:Nat} (a:N[i]?=some x) (b:N[j]?=some x):i=j:=by
 obtain ⟨h1,e1⟩:=De.mp a
 obtain ⟨h2,d⟩:=De.mp b
 exact (List.getElem_inj c).mp (e1.trans d.symm)
theorem lR {i:Nat} (I:Inv X pins σ H s) (hN:X.N.Nodup) (hi:X.N[i]?=some x) (t:Loc X.env.scope x) (r:RelV v u) (h:∀ s',Inv X pins (σ.set i (some v)) H s'->(∃ a,Heap.SameBut a s.heap s'.heap/\(a=X.env.locals\/X.env.cells.lookup x=some a))->Q () s') (hf:X.fn x=true\/X.env.scope.names.lookup x=some .local:=by first | exact .inl rfl | exact .inr rfl | assumption):wpAny M A (storeName X.env x u) Q E s:=by
 obtain ⟨m,hn,hl⟩:=id I.loc
 have P:(X.env.scope.kind == .class || (X.env.scope.kind == .module && X.env.locals != X.env.globals))=false:=by rw [I.ok.kind];rfl
 have hiσ:i < σ.length:=by rw [I.len];exact (De.mp hi).1
 have cne:=I.cne
 have g:∀ {a:Addr} {h':Heap},(∃ o,s.heap.get? a=some o/\H a=none)->Heap.SameBut a s.heap h'->HOk X.prog X.w H h':=fun {a h'} ha f b ob e=>by
  obtain ⟨_,_,B⟩:=ha
  refine (I.hok b ob e).stay (fun c T l q=>(f.2 c ?_).trans q) (fun _ q=>q) fun _ _ q=>q
  rintro rfl
  rcases l with rfl | l
  ·rw [B] at e;cases e
  ·rw [B] at l;cases l
 rcases t with D | D
 ·refine wpAny_storeName_local D hn (fun h' ar f=>?_) P
  obtain ⟨oL,_,_,ae,_⟩:=id hn
  refine h _ ⟨I.ok,I.os,I.bare,⟨fun b o e n F t=>?_,fun b o e n F t=>?_,I.base.free,fun b o e t=>?_,I.base.tups,I.base.frzs,I.base.tbls⟩,⟨_,ar,fun j y v' e1 C Z=>?_⟩,fun y c e=>?_,I.free,I.freeC,fun p Y=>?_,g ⟨oL,ae,I.free⟩ f,by simpa using I.len⟩ ⟨_,f,.inl rfl⟩
  ·exact (f.2 b (Dl (Dq (Da e) I.ok.above))).trans (I.base.keep b o e n F t)
  ·obtain ⟨sl,e1⟩:=I.base.slot b o e n F t
   exact ⟨sl,(f.2 b (Dl (Dq (Da e) I.ok.above))).trans e1⟩
  ·obtain ⟨o',e1⟩:=I.base.there b o e t
   exact ⟨o',(f.2 b (Dl (Dq (Da e) I.ok.above))).trans e1⟩
  ·by_cases G:j=i
   ·subst G
    rw [hi] at e1;cases e1
    rw [List.getElem?_set_self hiσ] at C
    cases C
    exact ⟨u,r,.inl ⟨D,by simp⟩⟩
   ·rw [List.getElem?_set_ne (Ne.symm G)] at C
    obtain ⟨V,W,q⟩:=hl j y v' e1 C Z
    refine ⟨V,W,?_⟩
    rcases q with ⟨k,e⟩ | ⟨k,c,e,z⟩
    ·refine .inl ⟨k,?_⟩
     have:y ≠ x:=fun e=>G (pp hN e1 (e ▸ hi))
     simp [this,e]
    ·exact .inr ⟨k,c,e,z.sameBut f (cne y c e)⟩
  ·obtain ⟨T,z⟩:=I.cell y c e
   exact ⟨T,z.sameBut f (cne y c e)⟩
  ·obtain ⟨e,n,ne,U,d⟩:=I.pin p Y
   exact ⟨(f.2 p.1 ne).trans e,n,ne,U,d⟩
 ·have J:X.fn x=true:=by
   rcases hf with z | z
   ·exact z
   ·rw [z] at D;cases D
  obtain ⟨c,l⟩:=I.ok.has x (.inl D)
  obtain ⟨T,z⟩:=I.cell x c l
  refine wpAny_storeName_cell I.ok.kind D l z (fun h' L f=>?_)
  obtain ⟨oc,R,O⟩:=id z
  refine h { s with heap:=h' } ⟨I.ok,I.os,I.bare,⟨fun b o e n F t=>?_,fun b o e n F t=>?_,I.base.free,fun b o e t=>?_,I.base.tups,I.base.frzs,I.base.tbls⟩,⟨m,hn.sameBut f (Ne.symm (cne x c l)),fun j y v' e1 C Z=>?_⟩,fun y S e=>?_,I.free,I.freeC,fun p Y=>?_,g ⟨oc,R,I.freeC x c l⟩ f,by simpa using I.len⟩ ⟨c,f,.inr l⟩
  ·exact (f.2 b (Dl (Dq (Da e) (I.ok.cab x c J l)))).trans (I.base.keep b o e n F t)
  ·obtain ⟨sl,e1⟩:=I.base.slot b o e n F t
   exact ⟨sl,(f.2 b (Dl (Dq (Da e) (I.ok.cab x c J l)))).trans e1⟩
  ·obtain ⟨o',e1⟩:=I.base.there b o e t
   exact ⟨o',(f.2 b (Dl (Dq (Da e) (I.ok.cab x c J l)))).trans e1⟩
  ·by_cases G:j=i
   ·subst G
    rw [hi] at e1;cases e1
    rw [List.getElem?_set_self hiσ] at C
    cases C
    exact ⟨u,r,.inr ⟨.inl D,c,l,L⟩⟩
   ·rw [List.getElem?_set_ne (Ne.symm G)] at C
    obtain ⟨V,W,q⟩:=hl j y v' e1 C Z
    refine ⟨V,W,?_⟩
    rcases q with q | ⟨k,S,e,z'⟩
    ·exact .inl q
    ·refine .inr ⟨k,S,e,z'.sameBut f ?_⟩
     rintro rfl
     exact G (pp hN e1 (I.ok.inj _ _ _ e l ▸ hi))
  ·by_cases K:S=c
   ·subst K;exact ⟨_,L⟩
   ·obtain ⟨w2,z2⟩:=I.cell y S e
    exact ⟨w2,z2.sameBut f K⟩
  ·obtain ⟨e,n,ne,U,d⟩:=I.pin p Y
   refine ⟨(f.2 p.1 ?_).trans e,n,ne,U,d⟩
   intro q
   rw [q,R] at e
   have q':oc=p.2:=DJ e
   exact d T (by rw [<- q'];exact O)
theorem ki {i:Nat} (I:Inv X pins σ H s) (a:X.N.Nodup) (hi:X.N[i]?=some x) (c:Loc X.env.scope x) (r:RelV v u) (h:∀ s',Inv X pins (σ.set i (some v)) H s'->Q () s') (hf:X.fn x=true\/X.env.scope.names.lookup x=some .local:=by first | exact .inl rfl | exact .inr rfl | assumption):wpAny M A (storeName X.env x u) Q E s :=
 lR I a hi c r (fun s' b _=>h s' b) hf
theorem Inv.call' (I:Inv X pins σ H s) (d:s'.os=s.os) (u:Un (frs X.stack) ch H H' s.heap s'.heap) (hok:HOk X.prog X.w H' s'.heap) (f:AllBare s'.gens) (a:∀ b ∈ ch,(b ∈ X.ex\/X.s₀.heap.objs.size<=b)/\b ≠ X.env.locals/\(∀ x c,X.env.cells.lookup x=some c->c ≠ b)/\∀ p ∈ X.pn ++ pins,p.1 ≠ b):Inv X pins σ H' s':=by
 obtain ⟨h',g',d',t',o'⟩:=s'
 have e:o'=s.os:=d
 subst e
 exact I.call (g':=g') (t':=t') (d':=d') u hok f a
end
abbrev XK:=Value->Option Addr->Hp->Prop
abbrev St:=List (Option V)
abbrev VK:=V->Hp->Prop
abbrev TE:=St->Hp->VK->Prop
abbrev TT:=St->Hp->(Bool->Hp->Prop)->Prop
abbrev TA:=St->Hp->(List V->Hp->Prop)->Prop
structure Ends where
 nx:St->Hp->Prop
 rt:VK
 bk:St->Hp->Prop:=fun _ _=>False
 ct:St->Hp->Prop:=fun _ _=>False
abbrev TS:=Ends->St->Hp->Prop
def EP (X:Cx) (pins:List (Addr × Obj)) (σ:St) (Q:VK) (u:Value) (s':Shared):Prop:=∃ v H',Inv X pins σ H' s'/\RelV v u/\Q v H'
def TP (X:Cx) (pins:List (Addr × Obj)) (σ:St) (Q:Bool->Hp->Prop) (b:Bool) (s':Shared):Prop:=∃ H',Inv X pins σ H' s'/\Q b H'
def AP (X:Cx) (pins:List (Addr × Obj)) (σ:St) (Q:List V->Hp->Prop) (us:List Value) (s':Shared):Prop:=∃ vs H',Inv X pins σ H' s'/\Vals vs us/\Q vs H'
def SP (X:Cx) (pins:List (Addr × Obj)) (D:Ends) (f:Flow) (s':Shared):Prop :=
 match f with
 | .next=>∃ σ' H',Inv X pins σ' H' s'/\D.nx σ' H'
 | .brk=>∃ σ' H',Inv X pins σ' H' s'/\D.bk σ' H'
 | .cont=>∃ σ' H',Inv X pins σ' H' s'/\D.ct σ' H'
 | .ret u=>∃ v σ' H',Inv X pins σ' H' s'/\RelV v u/\D.rt v H'
def PE (X:Cx) (e:Expr) (t:TE):Prop :=
 ∀ (pins:List (Addr × Obj)) (s:Shared) (σ:St) (H:Hp) (Q:VK),Inv X pins σ H s->t σ H Q->wpAny (model X.prog X.w) X.A (eval e X.env) (EP X pins σ Q) X.xe s
def PT (X:Cx) (e:Expr) (t:TT):Prop :=
 ∀ (pins:List (Addr × Obj)) (s:Shared) (σ:St) (H:Hp) (Q:Bool->Hp->Prop),Inv X pins σ H s->t σ H Q->wpAny (model X.prog X.w) X.A (isTrue e X.env (eval e X.env)) (TP X pins σ Q) X.xe s
def PW (X:Cx) (e:Expr) (t:TT):Prop :=
 ∀ (whole:Sem Value) (pins:List (Addr × Obj)) (s:Shared) (σ:St) (H:Hp) (Q:Bool->Hp->Prop),Inv X pins σ H s->t σ H Q->wpAny (model X.prog X.w) X.A (isTrue e X.env whole) (TP X pins σ Q) X.xe s
theorem PW.pt (h:PW X e t):PT X e t:=h _
def PA (X:Cx) (es:List Expr) (t:TA):Prop :=
 ∀ (pos:Pos) (pins:List (Addr × Obj)) (s:Shared) (σ:St) (H:Hp) (Q:List V->Hp->Prop),Inv X pins σ H s->t σ H Q->wpAny (model X.prog X.w) X.A (spliced (backTo pos (starEach es X.env))) (AP X pins σ Q) X.xe s
def PS (X:Cx) (st:Stmt) (t:TS):Prop :=
 ∀ (pins:List (Addr × Obj)) (s:Shared) (σ:St) (H:Hp) (D:Ends),Inv X pins σ H s->t D σ H->wpAny (model X.prog X.w) X.A (exec st X.env) (SP X pins D) X.xe s
def PSs (X:Cx) (st:List Stmt) (t:TS):Prop :=
 ∀ (pins:List (Addr × Obj)) (s:Shared) (σ:St) (H:Hp) (D:Ends),Inv X pins σ H s->t D σ H->wpAny (model X.prog X.w) X.A (execs st X.env) (SP X pins D) X.xe s
theorem thn (h:wpAny M A t Q E s) (b:∀ a s,Q a s->Q' a s):wpAny M A t Q' E s:=wpAny_mono h b fun _ _ x=>x
end L2
namespace L2
open PySem PySem.Spec PyProof.Rows
section
variable {X:Cx}
theorem bin (n:PE X a ta) (i:PE X b tb) {R:V->V->Hp->Prop} (I:Inv X pins σ H s) (h:ta σ H fun x H1=>tb σ H1 fun y H2=>R x y H2) {Q:α->Shared->Prop} {f:Value->Value->Sem α} (hf:∀ v u s2 x y H2,Inv X pins σ H2 s2->RelV x v->RelV y u->R x y H2->wpAny (model X.prog X.w) X.A (f v u) Q X.xe s2) :
  wpAny (model X.prog X.w) X.A (eval a X.env) (fun v l=>wpAny (model X.prog X.w) X.A (eval b X.env) (fun u e=>wpAny (model X.prog X.w) X.A (f v u) Q X.xe e) X.xe l) X.xe s:=by
 refine thn (n pins s σ H _ I h) fun v s1 ⟨x,H1,d,g,j⟩=>?_
 refine thn (i pins s1 σ H1 _ d j) fun u s2 ⟨y,H2,m,k,c⟩=>?_
 exact hf v u s2 x y H2 m g k c
def tv (i:Nat):TE:=fun σ H Q=>∃ v,σ[i]?=some (some v)/\Q v H
def tC (v:V):TE:=fun _ H Q=>Q v H
theorem ng {i:Nat} (j:X.N[i]?=some x) (k:Vis X.env.scope x) (hd:(x == ("__debug__":Str))=false:=by decide) (d:(x == ("__classdict__":Str))=false:=by decide):PE X (.Name x pos) (tv i):=by
 intro pins s σ H Q I h
 obtain ⟨v,e,h⟩:=h
 obtain ⟨m,n,g⟩:=I.loc
 obtain ⟨u,r,l⟩:=g i x v j e k
 have fin:EP X pins σ Q u s:=⟨v,H,I,r,h⟩
 rcases l with ⟨b,hm⟩ | ⟨b,c,f,a⟩
 ·exact wpAny_Name (wpAny_loadName_local I.ok.kind b n hm fin) hd
 ·rcases b with b | b
  ·exact wpAny_Name (wpAny_loadName_cell I.ok.kind b f a fin) hd
  ·exact wpAny_Name (wpAny_loadName_free I.ok.kind b f a fin d) hd
theorem BM:PE X (.Constant (.int i) j pos) (tC (.int i)):=fun _ _ _ H _ I h=>wpAny_Constant_int ⟨.int i,H,I.tok _,⟨_,rfl⟩,h⟩
theorem pe_bl:PE X (.Constant (.bool b) j pos) (tC (.bl b)):=fun _ _ _ H _ I h=>Constant_bool ⟨.bl b,H,I,rfl,h⟩
theorem BK:PE X (.Constant .none j pos) (tC .non):=fun _ _ _ H _ I h=>Constant_none ⟨.non,H,I,rfl,h⟩
theorem BH:PE X (.Constant (.str x) j pos) (tC (.str x)):=fun _ _ _ H _ I h=>Calls.Constant_str ⟨.str x,H,I.tok _,⟨_,rfl⟩,h⟩
def Gl (X:Cx) (x:Str):Prop:=X.env.kindOf x=some .globalImplicit
theorem eT (I:Inv X pins σ H s) (a:Gl X x) (hm:X.mg x=some u) (h:Q u s) (hd:(x == ("__debug__":Str))=false:=by decide):wpAny (model X.prog X.w) X.A (eval (.Name x pos) X.env) Q E s :=
 Calls.Name_function_global I.ok.kind a (Calls.loadGlobal_global (by rw [I.ok.glob];exact I.mod.glob.keeps I.bk) hm h) hd
theorem jr (I:Inv X pins σ H s) (b:Gl X x) (hm:X.mg x=none) (a:bootBuiltins x=some u) (h:Q u s) (c:x ≠ "__name__":=by decide) (hd:(x == ("__debug__":Str))=false:=by decide):wpAny (model X.prog X.w) X.A (eval (.Name x pos) X.env) Q E s:=by
 obtain ⟨mb,h1,h2⟩:=I.mod.blt
 exact Calls.Name_function_global I.ok.kind b (Calls.loadGlobal_builtin (by rw [I.ok.glob];exact I.mod.glob.keeps I.bk) hm (by rw [I.ok.blt];exact h1.keeps I.bk) ((h2 x c).trans a) h) hd
theorem sg (a:Gl X x) (hm:X.mg x=some u) (r:RelV v u) (hd:(x == ("__debug__":Str))=false:=by decide):PE X (.Name x pos) (tC v) :=
 fun _ _ _ H _ I h=>eT I a hm ⟨v,H,I,r,h⟩ hd
theorem iQ (b:Gl X x) (hm:X.mg x=none) (a:bootBuiltins x=some u) (r:RelV v u) (c:x ≠ "__name__":=by decide) (hd:(x == ("__debug__":Str))=false:=by decide):PE X (.Name x pos) (tC v) :=
 fun _ _ _ H _ I h=>jr I b hm a ⟨v,H,I,r,h⟩ c hd
variable {a b:Expr} {ta tb:TE} {pos:Pos}
def PC (X:Cx) (op:CmpOp) (a b:Expr) (t:TE):Prop :=
 ∀ (pins:List (Addr × Obj)) (s:Shared) (σ:St) (H:Hp) (Q:VK),Inv X pins σ H s->t σ H Q ->
  wpAny (model X.prog X.w) X.A (eval a X.env) (fun v c=>wpAny (model X.prog X.w) X.A (eval b X.env) (fun u d=>wpAny (model X.prog X.w) X.A (compareOp op v u) (EP X pins σ Q) X.xe d) X.xe c) X.xe s
def tB (t:TE):TT:=fun σ H Q=>t σ H fun x H1=>∃ c,x=.bl c/\Q c H1
theorem By (h:PE X e t) (he:∀ whole,isTrue e X.env whole=(do let v <- whole;standAt e.pos;holding [v] (truthy v)):=by intro _;rfl):PT X e (tB t):=by
 intro pins s σ H Q I hw
 refine isTrue_plain (thn (h pins s σ H _ I hw) fun v s1 ⟨x,H1,a,b,c⟩=>?_) (he _)
 obtain ⟨d,rfl,q⟩:=c
 cases b
 exact DE ⟨H1,a,q⟩
variable {tA tB':TT} {rest:List Expr}
def tAnd (t u:TT):TT:=fun σ H Q=>t σ H fun c H1=>if c=true then u σ H1 Q else Q false H1
def tOr (t u:TT):TT:=fun σ H Q=>t σ H fun c H1=>if c=true then Q true H1 else u σ H1 Q
def tNot (t:TT):TT:=fun σ H Q=>t σ H fun c H1=>Q (!c) H1
theorem yS (b:PT X a tA):PW X (.BoolOp .And [a] pos) tA:=by
 intro d pins s σ H Q I h
 refine isTrue_and (thn (b pins s σ H Q I h) fun c s1 e=>?_)
 cases c with
 | true=>exact isTrue_and_nil e
 | false=>exact e
theorem Bw (b:PT X a tA):PW X (.BoolOp .Or [a] pos) tA:=by
 intro d pins s σ H Q I h
 refine isTrue_or (thn (b pins s σ H Q I h) fun c s1 e=>?_)
 cases c with
 | false=>exact isTrue_or_nil e
 | true=>exact e
theorem Bx (i:PT X a tA) (f:PW X (.BoolOp .And (b :: rest) pos) tB'):PW X (.BoolOp .And (a :: b :: rest) pos) (tAnd tA tB'):=by
 intro g pins s σ H Q I h
 refine isTrue_and (thn (i pins s σ H _ I h) fun c s1 ⟨H1,d,e⟩=>?_)
 cases c with
 | true=>exact f g pins s1 σ H1 Q d e
 | false=>exact ⟨H1,d,e⟩
theorem pw_or (i:PT X a tA) (f:PW X (.BoolOp .Or (b :: rest) pos) tB'):PW X (.BoolOp .Or (a :: b :: rest) pos) (tOr tA tB'):=by
 intro g pins s σ H Q I h
 refine isTrue_or (thn (i pins s σ H _ I h) fun c s1 ⟨H1,d,e⟩=>?_)
 cases c with
 | true=>exact ⟨H1,d,e⟩
 | false=>exact f g pins s1 σ H1 Q d e
theorem Bz (b:PT X a tA):PT X (.UnaryOp .Not a pos) (tNot tA):=by
 intro pins s σ H Q I h
 exact isTrue_not (b pins s σ H (fun c H1=>Q (!c) H1) I h)
def Ag (ta tb:TE):TE:=fun σ H Q=>ta σ H fun x H1=>∃ c,x=.bl c/\if c=true then tb σ H1 Q else Q (.bl false) H1
def Ac (ta:TE):TE:=fun σ H Q=>ta σ H fun x H1=>∃ c,x=.bl c/\Q (.bl (!c)) H1
theorem BI (h:PE X a t):PE X (.BoolOp op [a] pos) t:=fun pins s σ H Q I hw=>BoolOp_one (h pins s σ H Q I hw)
theorem BP (i:PE X a ta) (g:PE X (.BoolOp .And (b :: rest) pos) tb):PE X (.BoolOp .And (a :: b :: rest) pos) (Ag ta tb):=by
 intro pins s σ H Q I h
 refine BoolOp_and (thn (i pins s σ H _ I h) fun v s1 ⟨x,H1,e,f,d⟩=>?_)
 obtain ⟨c,rfl,d⟩:=d
 cases f
 refine DE ?_
 cases c with
 | true=>exact g pins s1 σ H1 Q e d
 | false=>exact ⟨.bl false,H1,e,rfl,d⟩
theorem BJ (f:PE X a ta):PE X (.UnaryOp .Not a pos) (Ac ta):=by
 intro pins s σ H Q I h
 refine UnaryOp_ (thn (f pins s σ H _ I h) fun v s1 ⟨x,H1,d,e,b⟩=>?_)
 obtain ⟨c,rfl,b⟩:=b
 cases e
 exact not_of (DE ⟨.bl (!c),H1,d,rfl,b⟩)
end
end L2
namespace L2
open PySem PySem.Spec PyProof.Rows
def SqL (K:FG) (H:Hp) (a:Addr) (xs:List V):Prop :=
 Rd H a (.lst xs) \/
  ∃ (o:Obj) (b:Array Value) (n:Nat),K.lookup a=some o/\o.cls=.type "list"/\o.dict=none/\o.data=.seq b n/\b.size<=sizeLine/\Vals xs b.toList
def SqT (K:FG) (H:Hp) (a:Addr) (xs:List V):Prop :=
 Rd H a (.tup xs) \/
  ∃ (o:Obj) (b:Array Value) (n:Nat),K.lookup a=some o/\o.cls=.type "tuple"/\o.data=.seq b n/\b.size<=sizeLine/\Vals xs b.toList
def absV:Value->Option V
 | .none=>some .non
 | .bool b=>some (.bl b)
 | .int i _=>some (.int i)
 | .str x _=>some (.str x)
 | .bytes b _=>some (.byt b)
 | .float b _=>some (.flt b)
 | .ref a=>some (.ref a)
 | .type n=>some (.ty n)
 | _=>none
theorem RelV.abs (r:RelV x u):absV u=some x:=by
 cases x with
 | non=>cases r;rfl
 | bl _=>cases r;rfl
 | int _=>obtain ⟨t,rfl⟩:=r;rfl
 | str _=>obtain ⟨t,rfl⟩:=r;rfl
 | byt _=>obtain ⟨t,rfl⟩:=r;rfl
 | flt _=>obtain ⟨t,rfl⟩:=r;rfl
 | ref _=>cases r;rfl
 | ty _=>cases r;rfl
theorem RelV.inj (r:RelV x u) (q:RelV y u):x=y:=DJ (r.abs.symm.trans q.abs)
theorem Vals.inj:∀ {xs ys:List V} {us:List Value},Vals xs us->Vals ys us->xs=ys
 | _,_,_,.nil,.nil=>rfl
 | _,_,_,.cons r t,.cons r' t'=>by rw [r.inj r',Vals.inj t t']
section
variable {X:Cx} {pins:List (Addr × Obj)} {σ:St} {H:Hp} {s:Shared} {a:Addr} {xs ys:List V}
theorem SqL.of {K:FG} (h:H a=some (.lst xs)):SqL K H a xs:=.inl (.inl h)
theorem SqT.of {K:FG} (h:H a=some (.tup xs)):SqT K H a xs:=.inl (.inl h)
theorem Inv.list (I:Inv X pins σ H s) (h:SqL X.K H a xs):∃ b:List Value,Vals xs b/\PlainL s.heap a b.toArray/\xs.length<=sizeLine:=by
 rcases h with h | ⟨o,b,n,d,c,hd,f,hz,r⟩
 ·obtain ⟨z,b,n,r,e⟩:=h.ok I.hok
  exact ⟨b,r,⟨_,n,e,rfl,rfl,rfl⟩,z⟩
 ·refine ⟨b.toList,r,⟨o,n,I.kIn a o d,c,hd,by simpa using f⟩,?_⟩
  have e:=r.length
  simp only [Array.length_toList] at e
  omega
theorem Inv.tuple (I:Inv X pins σ H s) (h:SqT X.K H a xs):∃ b:List Value,Vals xs b/\IsTup s.heap a b.toArray/\xs.length<=sizeLine:=by
 rcases h with h | ⟨o,b,n,d,c,f,hz,r⟩
 ·obtain ⟨z,b,r,p⟩:=h.ok I.hok
  exact ⟨b,r,p.tup,z⟩
 ·refine ⟨b.toList,r,⟨o,I.kIn a o d,c,n,by simpa using f⟩,?_⟩
  have e:=r.length
  simp only [Array.length_toList] at e
  omega
theorem Inv.list_inj (I:Inv X pins σ H s) (h:SqL X.K H a xs) (h':SqL X.K H a ys):xs=ys:=by
 obtain ⟨b,r,⟨o,n,e,_,_,d⟩,_⟩:=I.list h
 obtain ⟨its',f,⟨o',g,c,_,_,d'⟩,_⟩:=I.list h'
 rw [e] at c;cases c
 rw [d] at d'
 injection d' with d1 _
 have:b=its':=by simpa using congrArg Array.toList d1
 subst this
 exact r.inj f
theorem Inv.tuple_inj (I:Inv X pins σ H s) (h:SqT X.K H a xs) (h':SqT X.K H a ys):xs=ys:=by
 obtain ⟨b,r,⟨o,e,_,n,d⟩,_⟩:=I.tuple h
 obtain ⟨its',f,⟨o',c,_,g,d'⟩,_⟩:=I.tuple h'
 rw [e] at c;cases c
 rw [d] at d'
 injection d' with d1 _
 have:b=its':=by simpa using congrArg Array.toList d1
 subst this
 exact r.inj f
end
abbrev Cx.wish (X:Cx) (E:Value->Shared->Prop):Cx:={ X with xe:=E }
abbrev Cx.nox (X:Cx):Cx:=X.wish fun _ _=>False
theorem Cx.Ok.wish {X:Cx} (ok:X.Ok) (E:Value->Shared->Prop):(X.wish E).Ok :=
 ⟨ok.mod,ok.kind,ok.glob,ok.blt,ok.above,ok.inj,ok.has,ok.cab,ok.hd,ok.frames,ok.stk,ok.exf,ok.bs,ok.bsz,ok.noex,ok.exfs,ok.funs,ok.frf⟩
theorem Cx.Ok.unwish {X:Cx} (ok:(X.wish E).Ok):X.Ok :=
 ⟨ok.mod,ok.kind,ok.glob,ok.blt,ok.above,ok.inj,ok.has,ok.cab,ok.hd,ok.frames,ok.stk,ok.exf,ok.bs,ok.bsz,ok.noex,ok.exfs,ok.funs,ok.frf⟩
section
variable {X:Cx} {pins:List (Addr × Obj)} {σ:St} {H:Hp} {s:Shared} {E:Value->Shared->Prop}
theorem Inv.wish (I:Inv X pins σ H s) (E:Value->Shared->Prop):Inv (X.wish E) pins σ H s:=⟨I.ok.wish E,I.os,I.bare,I.base,I.loc,I.cell,I.free,I.freeC,I.pin,I.hok,I.len⟩
theorem Inv.unwish (I:Inv (X.wish E) pins σ H s):Inv X pins σ H s:=⟨I.ok.unwish,I.os,I.bare,I.base,I.loc,I.cell,I.free,I.freeC,I.pin,I.hok,I.len⟩
theorem SP.unwish (h:SP (X.wish E) pins D f s'):SP X pins D f s':=by
 cases f with
 | next=>obtain ⟨σ',H',I,q⟩:=h;exact ⟨σ',H',I.unwish,q⟩
 | brk=>obtain ⟨σ',H',I,q⟩:=h;exact ⟨σ',H',I.unwish,q⟩
 | cont=>obtain ⟨σ',H',I,q⟩:=h;exact ⟨σ',H',I.unwish,q⟩
 | ret u=>obtain ⟨v,σ',H',I,r,q⟩:=h;exact ⟨v,σ',H',I.unwish,r,q⟩
theorem PSs.nox {st:List Stmt} (h:PSs X.nox st t):PSs X st t:=fun pins s σ H D I hw =>
 wpAny_mono (h pins s σ H D (I.wish _) hw) (fun _ _ q=>q.unwish) fun _ _ z=>False.elim z
end
section
variable {X:Cx} {st:Stmt} {rest:List Stmt} {t u:TS} {e:Expr} {te:TE} {pos:Pos}
def Ad:TS:=fun D σ H=>D.nx σ H
def tSeq (t u:TS):TS:=fun D σ H=>t { D with nx:=u D } σ H
theorem yW:PSs X [] Ad:=fun _ _ σ H _ I h=>wpAny_execs_nil ⟨σ,H,I,h⟩
theorem wl (h1:PS X st t) (h2:PSs X rest u):PSs X (st :: rest) (tSeq t u):=by
 intro pins s σ H D I h
 refine wpAny_execs_cons (thn (h1 pins s σ H { D with nx:=u D } I h) fun f s1 q=>?_)
 cases f with
 | next =>
  obtain ⟨σ',H',a,q⟩:=q
  exact h2 pins s1 σ' H' D a q
 | ret v=>exact q
 | brk=>exact q
 | cont=>exact q
theorem se (h1:PS X st t):PSs X [st] t:=by
 intro pins s σ H D I h
 refine wpAny_execs_cons (thn (h1 pins s σ H D I h) fun f s1 q=>?_)
 cases f with
 | next=>exact wpAny_execs_nil q
 | ret v=>exact q
 | brk=>exact q
 | cont=>exact q
theorem Inv.quiet (I:Inv X pins σ H s):interactive X.env=false:=by simp [interactive,I.ok.kind]
def Ae (te:TE):TS:=fun D σ H=>te σ H fun _ H1=>D.nx σ H1
theorem yX (he:PE X e te) (c:swapsWith e none pos.line X.env=pure false:=by rfl):PS X (.Expr e pos) (Ae te):=by
 intro pins s σ H D I h
 exact wpAny_Expr_any (thn (he pins s σ H _ I h) fun v s1 ⟨x,H1,a,d,b⟩=>⟨σ,H1,a,b⟩) I.quiet c
def tRet (te:TE):TS:=fun D σ H=>te σ H D.rt
theorem BB (he:PE X e te):PS X (.Return (some e) pos) (tRet te):=by
 intro pins s σ H D I h
 exact wpAny_Return_some (thn (he pins s σ H _ I h) fun v s1 ⟨x,H1,a,c,b⟩=>⟨x,σ,H1,a,c,b⟩)
def tIfS (c:TT) (t u:TS):TS:=fun D σ H=>c σ H fun b H1=>if b=true then t D σ H1 else u D σ H1
theorem ps_if (i:PT X c tc) (j:PSs X a t) (g:PSs X b u):PS X (.If c a b pos) (tIfS tc t u):=by
 intro pins s σ H D I h
 refine wpAny_If (thn (i pins s σ H _ I h) fun d s1 ⟨H1,e,f⟩=>?_)
 cases d with
 | true=>exact j pins s1 σ H1 D e f
 | false=>exact g pins s1 σ H1 D e f
end
abbrev TG:=V->St->Hp->(St->Hp->Prop)->Prop
abbrev TGs:=List V->St->Hp->(St->Hp->Prop)->Prop
def PG (X:Cx) (target:Expr) (t:TG):Prop :=
 ∀ (pins:List (Addr × Obj)) (s:Shared) (σ:St) (H:Hp) (v:V) (u:Value) (Q:St->Hp->Prop),Inv X pins σ H s->RelV v u->t v σ H Q ->
  wpAny (model X.prog X.w) X.A (assign target X.env u) (fun _ s'=>∃ σ' H',Inv X pins σ' H' s'/\Q σ' H') X.xe s
def PGs (X:Cx) (a:List Expr) (t:TGs):Prop :=
 ∀ (pins:List (Addr × Obj)) (s:Shared) (σ:St) (H:Hp) (vs:List V) (us:List Value) (Q:St->Hp->Prop),Inv X pins σ H s->Vals vs us->t vs σ H Q ->
  wpAny (model X.prog X.w) X.A (assignInOrder ((assignEach a X.env).map (·.2)) us) (fun _ s'=>∃ σ' H',Inv X pins σ' H' s'/\Q σ' H') X.xe s
abbrev CU:=V->V->V->Hp->(Hp->Prop)->Prop
def xU (X:Cx) (t:CU):Prop :=
 ∀ (pins:List (Addr × Obj)) (s:Shared) (σ:St) (H:Hp) (o i v:V) (ov a u:Value) (Q:Hp->Prop),Inv X pins σ H s->RelV o ov->RelV i a->RelV v u->t o i v H Q ->
  wpAny (model X.prog X.w) X.A (setItem ov a u) (fun _ s'=>∃ H',Inv X pins σ H' s'/\Q H') X.xe s
section
variable {X:Cx} {pos:Pos}
def sJ (i:Nat):TG:=fun v σ H Q=>Q (σ.set i (some v)) H
theorem iP {i:Nat} (a:X.N.Nodup) (hi:X.N[i]?=some x) (c:Loc X.env.scope x) (hf:X.fn x=true\/X.env.scope.names.lookup x=some .local:=by first | exact .inl rfl | exact .inr rfl | assumption):PG X (.Name x pos) (sJ i):=by
 intro pins s σ H v u Q I r h
 exact wpAny_assign_Name (ki I a hi c r (fun s' b=>⟨_,H,b,h⟩) hf)
def gNil:TGs:=fun vs σ H Q=>vs=[]/\Q σ H
def As (t:TG) (u:TGs):TGs:=fun vs σ H Q=>∃ v r,vs=v :: r/\t v σ H fun σ' H'=>u r σ' H' Q
theorem sf:PGs X [] gNil:=by
 intro pins s σ H vs us Q I r h
 obtain ⟨e,h⟩:=h
 subst e
 cases r
 exact assignInOrder_nil ⟨σ,H,I,h⟩
theorem kH (h1:PG X e t) (h2:PGs X es u) (c:(assignEach (e :: es) X.env).map (·.2)=assign e X.env :: (assignEach es X.env).map (·.2):=by rfl):PGs X (e :: es) (As t u):=by
 intro pins s σ H vs us Q I r h
 obtain ⟨v,d,e1,h⟩:=h
 subst e1
 cases r with
 | cons r rr =>
  rw [c]
  refine assignInOrder_cons (thn (h1 pins s σ H _ _ _ I r h) fun _ s1 ⟨σ1,H1,a,b⟩=>?_)
  exact h2 pins s1 σ1 H1 _ _ Q a rr b
def gTup (K:FG) (n:Nat) (t:TGs):TG:=fun v σ H Q=>∃ a xs,v=.ref a/\SqT K H a xs/\xs.length=n/\t xs σ H Q
theorem wr {k:Nat} {n:Nat} (l:X.calm=true) (h:PGs X es t) (p:(assignEach es X.env).length=n:=by rfl) (c:(assignEach es X.env).findIdx? (·.1)=none:=by rfl):PG X (.Tuple es k pos) (gTup X.K n t):=by
 intro pins s σ H v u Q I r hw
 obtain ⟨a,xs,e1,m,f,hw⟩:=hw
 subst e1
 cases r
 obtain ⟨j,d,g,hz⟩:=I.tuple m
 refine assign_Tuple_tuple (I.ok.hd l) g (by simp [p,<- f,d.length]) c fun h' q=>?_
 have i:Inv X pins σ H { s with heap:=h' }:=I.kept (t':=s.toks) fun b o e=>q b o (Dl (Da e)) e
 exact h pins _ σ H xs _ Q i (by simpa using d) hw
def gSub (to b:TE) (t:CU):TG:=fun v σ H Q=>to σ H fun o H1=>b σ H1 fun i H2=>t o i v H2 fun a=>Q σ a
theorem BF (g:PE X o to) (hi:PE X i ti) (m:xU X t) (p:∀ v,assign (.Subscript o i pos) X.env v=(do
   let ov <- holding [v] (eval o X.env)
   let a <- holding [v,ov] (eval i X.env)
   standAt pos
   holding [v,ov,a] (setItem ov a v)
   release [v,ov,a] []):=by intro _;rfl):PG X (.Subscript o i pos) (gSub to ti t):=by
 intro pins s σ H v u Q I r h
 rw [p]
 refine CY (C0 (thn (g pins s σ H _ I h) fun ov s1 ⟨x,H1,c,f,k⟩=>?_))
 refine CY (C0 (thn (hi pins s1 σ H1 _ c k) fun a s2 ⟨y,H2,n,j,b⟩=>?_))
 refine CY (wpAny_standAt (CY (C0 (thn (m pins s2 σ H2 x y v ov a u _ n f j r b) fun _ s3 ⟨e,d,l⟩=>?_))))
 exact wpAny_release ⟨σ,e,d,l⟩
def vm (te:TE) (g:TG):TS:=fun D σ H=>te σ H fun x H1=>g x σ H1 D.nx
theorem wo (he:PE X e te) (f:PG X tg g) (d:swapsWithSole [tg] e pos.line X.env=pure false:=by rfl) (hw:swappedStores [tg] e X.env=pure none:=by rfl) (h1:(assignEach [tg] X.env).map (·.2)=[assign tg X.env]:=by rfl):PS X (.Assign [tg] e pos) (vm te g):=by
 intro pins s σ H D I h
 refine wpAny_Assign_stores (thn (he pins s σ H _ I h) fun v s1 ⟨x,H1,a,b,c⟩=>?_) d hw
 rw [h1]
 exact thn (f pins s1 σ H1 x v _ a b c) fun _ s2 q=>q
theorem BA {i:Nat} (c:X.N.Nodup) (hi:X.N[i]?=some x) (j:Loc X.env.scope x) (he:PE X e te) (f:swapsWith e (some (.Name x pos')) pos.line X.env=pure false:=by rfl) (hf:X.fn x=true\/X.env.scope.names.lookup x=some .local:=by first | exact .inl rfl | exact .inr rfl | assumption) :
  PS X (.Assign [.Name x pos'] e pos) (vm te (sJ i)):=by
 intro pins s σ H D I h
 refine wpAny_Assign_Name (thn (he pins s σ H _ I h) fun v s1 ⟨y,H1,a,b,d⟩=>?_) f
 exact ki a c hi j b (fun s2 g=>⟨_,H1,g,d⟩) hf
end
section
variable {X:Cx} {pos:Pos}
def vf (c:TT) (tb:TS):TS:=fun D σ H=>∃ W:Nat->St->Hp->Prop,(∃ m,W m σ H)/\∀ m σ H,W m σ H ->
 c σ H fun b H1=>if b=true then ∃ N:St->Hp->Prop,(∀ σ' H',N σ' H'->∃ a,a < m/\W a σ' H')/\tb { D with nx:=N,ct:=N,bk:=D.nx } σ H1 else D.nx σ H1
theorem wm (m:PassesOwn (model X.prog X.w) X.A X.env X.xe) (u:PT X c tc) (q:PSs X body tb):PS X (.While c body [] pos) (vf tc tb):=by
 intro pins s σ H D I h
 obtain ⟨W,⟨m0,t⟩,turn⟩:=h
 refine wpAny_While (codeAny_whileLoop (fun n s'=>∃ σ' H',Inv X pins σ' H' s'/\W n σ' H') ?_ m0 ⟨σ,H,I,t⟩)
 rintro n s1 ⟨σ1,H1,r,p⟩
 refine wpAny_passesOwn m (thn (u pins s1 σ1 H1 _ r (turn n σ1 H1 p)) fun b s2 ⟨H2,o,d⟩=>?_)
 cases b with
 | true =>
  obtain ⟨N,l,d⟩:=d
  rw [if_pos rfl]
  refine wpAny_passesOwn m (thn (q pins s2 σ1 H2 _ o d) fun f s3 e=>?_)
  cases f with
  | next =>
   obtain ⟨σ3,a,i,k⟩:=e
   obtain ⟨j,hm,g⟩:=l σ3 a k
   exact ⟨j,hm,σ3,a,i,g⟩
  | cont =>
   obtain ⟨σ3,a,i,k⟩:=e
   obtain ⟨j,hm,g⟩:=l σ3 a k
   exact ⟨j,hm,σ3,a,i,g⟩
  | brk=>exact e
  | ret v=>exact e
 | false =>
  rw [if_neg Dk]
  exact wpAny_execs_nil ⟨σ1,H2,o,d⟩
end
structure It where
 go:Nat->Hp->Prop
 yld:Nat->Hp->V->Hp->Prop
 stop:Nat->Hp->Prop
def FpOk (X:Cx) (pins:List (Addr × Obj)) (H:Hp) (b:Addr):Prop :=
 H b=none/\b ≠ X.env.locals/\b ∉ X.fs/\(b ∈ X.ex\/X.s₀.heap.objs.size<=b)/\(∀ x c,X.env.cells.lookup x=some c->c ≠ b)/\∀ p ∈ X.pn ++ pins,p.1 ≠ b
theorem Inv.fpOk (I:Inv X pins σ H s) (a:s.heap.objs.size<=b) (f:H' b=none):FpOk X pins H' b:=by
 refine ⟨f,Nat.ne_of_gt (Dq I.lt a),I.nofs a,.inr (DF I.sz a),fun x c e z=>?_,fun p d z=>?_⟩
 ·obtain ⟨v,q⟩:=I.cell x c e
  exact absurd (Dq q.lt (by rw [z];exact a)) (Nat.lt_irrefl _)
 ·exact absurd (Dq (Da (I.pin p d).1) (by rw [z];exact a)) (Nat.lt_irrefl _)
structure Turn (P:Program) (w:World) (K:FG) (tg:Expr) (J:It) (fp:List Addr) (it:Addr) (tn:Nat->Heap->Prop):Prop where
 mem:it ∈ fp
 obj:∀ i h,tn i h->∀ b ∈ fp,∃ o,h.get? b=some o/\∀ v,o.data ≠ .cell v
 keep:∀ i h h',tn i h->(∀ b ∈ fp,∀ o,h.get? b=some o->h'.get? b=some o)->tn i h'
 item:∀ (X:Cx),X.prog=P->X.w=w->X.K=K->X.calm=true->∀ (i:Nat) (pins:List (Addr × Obj)) (s:Shared) (σ:St) (H:Hp) (E:Value->Shared->Prop),Inv X pins σ H s->(∀ b ∈ fp,FpOk X pins H b)->tn i s.heap->J.go i H ->
  wpAny (model P w) X.A (pyNext (.ref it)) (fun r s1=>∃ u,r=some u /\
   wpAny (model P w) X.A (letOwnedTupleGo tg (.ref it) u) (fun _ s2=>∃ x H',Inv X pins σ H' s2/\RelV x u/\J.yld i H x H'/\tn (i+1) s2.heap/\∀ b ∈ fp,H' b=none) E s1) E s
 done:∀ (X:Cx),X.prog=P->X.w=w->X.K=K->X.calm=true->∀ (i:Nat) (pins:List (Addr × Obj)) (s:Shared) (σ:St) (H:Hp) (E:Value->Shared->Prop),Inv X pins σ H s->(∀ b ∈ fp,FpOk X pins H b)->tn i s.heap->J.stop i H ->
  wpAny (model P w) X.A (pyNext (.ref it)) (fun r s1=>r=none/\Inv X pins σ H s1) E s
 self:∀ (A:Around) (i:Nat) (s:Shared) (Q:Value->Shared->Prop) (E:Value->Shared->Prop),tn i s.heap->Q (.ref it) s->wpAny (model P w) A (pyIter (.ref it)) Q E s
abbrev TI:=St->Hp->(It->Hp->Prop)->Prop
def PIE (X:Cx) (pins:List (Addr × Obj)) (σ:St) (tg:Expr) (R:It->Hp->Prop) (a:Value) (s2:Shared):Prop :=
 ∃ (it:Addr) (fp:List Addr) (c:Nat->Heap->Prop) (J:It) (H':Hp),a=.ref it/\Inv X pins σ H' s2/\Turn X.prog X.w X.K tg J fp it c/\c 0 s2.heap/\(∀ b ∈ fp,FpOk X pins H' b)/\R J H'
def PI (X:Cx) (tg iter:Expr) (a:TI):Prop :=
 ∀ (pins:List (Addr × Obj)) (s:Shared) (σ:St) (H:Hp) (R:It->Hp->Prop),Inv X pins σ H s->a σ H R ->
  wpAny (model X.prog X.w) X.A (eval iter X.env) (fun v s1=>wpAny (model X.prog X.w) X.A (pyIter v) (PIE X pins σ tg R) X.xe s1) X.xe s
theorem sG (b : s.heap.get? it = some o) (c : o.cls = .type n) (hd : o.data = .fields vs) (d : ["enumerate", "zip", "dict_itemiterator", "dict_reverseitemiterator", "odict_iterator", "itertools.zip_longest", "itertools.pairwise"].contains n = false) (a : Q () s) : wpAny M A (letOwnedTupleGo tg (.ref it) u) Q E s := by
  unfold letOwnedTupleGo
  cases tg <;> first
    | exact CZ a
    | (cases u <;> first
        | exact CZ a
        | (refine CY (wpAny_load b ?_)
           rw [c, hd]
           show wpAny M A (if (["enumerate", "zip", "dict_itemiterator", "dict_reverseitemiterator", "odict_iterator", "itertools.zip_longest", "itertools.pairwise"].contains n && vs[0]? == some (rawInt _)) = true then _ else _) Q E s
           rw [if_neg (by intro h; rw [d, Bool.false_and] at h; cases h)]
           exact CZ a))
def Itl (K:FG) (a:Addr):It :=
 ⟨fun i H=>∃ xs x,SqL K H a xs/\xs[i]?=some x,fun i H x H'=>H'=H/\∀ xs,SqL K H a xs->xs[i]?=some x,fun i H=>∃ xs,SqL K H a xs/\xs.length<=i⟩
def Itt (K:FG) (a:Addr):It :=
 ⟨fun i H=>∃ xs x,SqT K H a xs/\xs[i]?=some x,fun i H x H'=>H'=H/\∀ xs,SqT K H a xs->xs[i]?=some x,fun i H=>∃ xs,SqT K H a xs/\xs.length<=i⟩
def Itr (lo:Int) (n:Nat):It:=⟨fun i _=>i < n,fun i H x H'=>H'=H/\x=.int (lo+i),fun i _=>n<=i⟩
theorem tq {P:Program} {w:World} {K:FG} {tg:Expr} (a it:Addr):Turn P w K tg (Itl K a) [it] it (fun i h=>h.IsListIter it a i) where
 mem:=by simp
 obj:=fun i h st b f=>by
  have e:b=it:=by simpa using f
  subst e
  obtain ⟨o,e,c,d⟩:=st
  exact ⟨o,e,fun v z=>by rw [d] at z;cases z⟩
 keep:=fun i h h' st k=>st.at fun o e=>k it (by simp) o e
 item:=by
  intro X t hw y B i pins s σ H E I hf st n
  subst t hw y
  obtain ⟨xs,x,j,q⟩:=n
  obtain ⟨l,A,p,hz⟩:=I.list j
  obtain ⟨u,hu,F⟩:=A.get q
  obtain ⟨f0,f1,f2,m,f4,r⟩:=hf it (by simp)
  refine wpAny_pyNext_list_item st p.isList (x:=u) (by simpa using hu) fun h' g sb=>?_
  have C:Inv X pins σ H { s with heap:=h' }:=I.turned (t':=s.toks) (fun b o f e=>(sb.2 b f).trans e) f0 f1 m f4 r
  obtain ⟨o,e,c,d⟩:=id g
  exact ⟨u,rfl,sG (s:={ s with heap:=h' }) e c d (by decide) ⟨x,H,C,F,⟨rfl,fun ys G=>by rw [I.list_inj G j];exact q⟩,g,fun b f=>(hf b f).1⟩⟩
 done:=by
  intro X t hw y B i pins s σ H E I hf st n
  subst t hw y
  obtain ⟨xs,j,q⟩:=n
  obtain ⟨l,A,p,hz⟩:=I.list j
  obtain ⟨f0,f1,f2,m,f4,r⟩:=hf it (by simp)
  have J:=A.length
  exact wpAny_pyNext_list_end (I.ok.hd B) st p.isList (by simp;omega) fun h' D=>⟨rfl,I.turned (t':=s.toks) (fun b o f e=>D b o f e) f0 f1 m f4 r⟩
 self:=fun _ _ _ _ _ st h=>wpAny_pyIter_listiter st h
theorem qg {P:Program} {w:World} {K:FG} {tg:Expr} (a it:Addr):Turn P w K tg (Itt K a) [it] it (fun i h=>h.IsTupleIter it a i) where
 mem:=by simp
 obj:=fun i h st b g=>by
  have e:b=it:=by simpa using g
  subst e
  obtain ⟨o,e,c,d⟩:=st
  exact ⟨o,e,fun v z=>by rw [d] at z;cases z⟩
 keep:=fun i h h' st k=>st.at fun o e=>k it (by simp) o e
 item:=by
  intro X t hw y B i pins s σ H E I hf st n
  subst t hw y
  obtain ⟨xs,x,l,q⟩:=n
  obtain ⟨f,A,p,hz⟩:=I.tuple l
  obtain ⟨u,hu,F⟩:=A.get q
  obtain ⟨f0,f1,f2,m,f4,r⟩:=hf it (by simp)
  refine wpAny_pyNext_tuple_item st (show s.heap.IsTuple a f.toArray from p) (x:=u) (by simpa using hu) fun h' j sb=>?_
  have C:Inv X pins σ H { s with heap:=h' }:=I.turned (t':=s.toks) (fun b o g e=>(sb.2 b g).trans e) f0 f1 m f4 r
  obtain ⟨o,e,c,d⟩:=id j
  exact ⟨u,rfl,sG (s:={ s with heap:=h' }) e c d (by decide) ⟨x,H,C,F,⟨rfl,fun ys G=>by rw [I.tuple_inj G l];exact q⟩,j,fun b g=>(hf b g).1⟩⟩
 done:=by
  intro X t hw y B i pins s σ H E I hf st n
  subst t hw y
  obtain ⟨xs,l,q⟩:=n
  obtain ⟨f,A,p,hz⟩:=I.tuple l
  obtain ⟨f0,f1,f2,m,f4,r⟩:=hf it (by simp)
  have J:=A.length
  exact wpAny_pyNext_tuple_end (I.ok.hd B) st (show s.heap.IsTuple a f.toArray from p) (by simp;omega) fun h' D=>⟨rfl,I.turned (t':=s.toks) (fun b o g e=>D b o g e) f0 f1 m f4 r⟩
 self:=fun _ _ _ _ _ st h=>wpAny_pyIter_tupleiter st h
theorem eC {P:Program} {w:World} {K:FG} {tg:Expr} (it:Addr) (lo:Int) (n:Nat):Turn P w K tg (Itr lo n) [it] it (fun i h=>IsRangeIter h it (lo+(i:Nat) * 1) ((n:Int) - (i:Nat)) 1) where
 mem:=by simp
 obj:=fun i h st b a=>by
  have e:b=it:=by simpa using a
  subst e
  exact ⟨_,st,fun v z=>by
   have p:Data.fields _=Data.cell v:=z
   cases p⟩
 keep:=fun i h h' st k=>k it (by simp) _ st
 item:=by
  intro X l hw m j i pins s σ H E I hf st f
  subst l hw m
  obtain ⟨f0,f1,f2,d,f4,g⟩:=hf it (by simp)
  have W:=Walks.range (prog:=X.prog) (w:=X.w) (I.ok.hd j) it lo 1 n
  refine W.item i s _ _ f st fun v h' tk x c q=>?_
  obtain ⟨t,rfl⟩:=x
  have r:Inv X pins σ H { s with heap:=h',toks:=tk }:=I.turned (fun b o a e=>q b o (by simpa using a) e) f0 f1 d f4 g
  refine ⟨_,rfl,sG (s:={ s with heap:=h',toks:=tk }) (n:="range_iterator") c rfl rfl (by decide) ⟨.int (lo+i),H,r,⟨t,?_⟩,⟨rfl,rfl⟩,c,fun b a=>(hf b a).1⟩⟩
  rw [Int.mul_one]
 done:=by
  intro X l hw m j i pins s σ H E I hf st f
  subst l hw m
  obtain ⟨f0,f1,f2,d,f4,g⟩:=hf it (by simp)
  exact wpAny_pyNext_range_end (I.ok.hd j) st (by have:n<=i:=f;omega) fun h' u=>⟨rfl,I.turned (t':=s.toks) (fun b o a e=>u b o a e) f0 f1 d f4 g⟩
 self:=fun _ _ _ _ _ st h=>wpAny_pyIter_rangeiter st h
end L2
namespace L2
open PySem PySem.Spec PyProof.Rows
section
variable {X:Cx} {tg:Expr}
theorem o9 {lo hi:Int} {tk:Nat} (I:Inv X pins σ H s) (h1:-(2 ^ 62)<=lo) (h2:lo < 2 ^ 62) (h3:-(2 ^ 62)<=hi) (c:hi < 2 ^ 62) (q:R (Itr lo (hi - lo).toNat) H):wpAny (model X.prog X.w) X.A (pyIter (.ref s.heap.objs.size)) (PIE X pins σ tg R) E { s with heap:=s.heap.push { cls:=.type "range",data:=.fields #[.int lo t,.int hi u,.int 1 v] },toks:=tk }:=by
 refine wpAny_pyIter_range (IsRange.new ..) (small_one h1 h2 h3 c) ?_
 have a:Inv X pins σ H { s with heap:=s.heap.push { cls:=.type "range",data:=.fields #[.int lo t,.int hi u,.int 1 v] },toks:=tk }:=I.kept fun b o e=>C4 _ e
 refine ⟨(s.heap.push { cls:=.type "range",data:=.fields #[.int lo t,.int hi u,.int 1 v] }).objs.size,[(s.heap.push { cls:=.type "range",data:=.fields #[.int lo t,.int hi u,.int 1 v] }).objs.size],_,_,H,rfl,
  a.kept (t':=tk) fun b o e=>C4 _ e,eC _ lo (hi - lo).toNat,?_,fun b d=>?_,q⟩
 ·have e1:lo+((0:Nat):Int) * 1=lo:=by simp
  have f:(((hi - lo).toNat:Nat):Int) - ((0:Nat):Int)=Builtin.Range.rangeSize lo hi 1:=by rw [rangeSize_one];split <;> omega
  show IsRangeIter _ _ (lo+((0:Nat):Int) * 1) ((((hi - lo).toNat:Nat):Int) - ((0:Nat):Int)) 1
  rw [e1,f]
  exact Dc _ rfl
 ·have e:b=(s.heap.push { cls:=.type "range",data:=.fields #[.int lo t,.int hi u,.int 1 v] }).objs.size:=by simpa using d
  subst e
  exact a.fpOk (Dj _) (a.hok.fresh (Dj _))
def xc (ta:TA):TI:=fun σ H R=>ta σ H fun vs H1=>∃ j:Int,vs=[.int j]/\-(2 ^ 62)<=j/\j < 2 ^ 62/\R (Itr 0 j.toNat) H1
def Aq (ta:TA):TI:=fun σ H R=>ta σ H fun vs H1=>∃ i j:Int,vs=[.int i,.int j]/\(-(2 ^ 62)<=i/\i < 2 ^ 62/\-(2 ^ 62)<=j/\j < 2 ^ 62)/\R (Itr i (j - i).toNat) H1
theorem t6 (i:Gl X "range") (hm:X.mg "range"=none) (k:PA X [a] ta) (g:starEach [a] X.env=[(false,eval a X.env)]:=by rfl):PI X tg (.Call (.Name "range" p) [a] [] pos) (xc ta):=by
 intro pins s σ H R I h
 refine Call_ (jr I i hm boot_range (PyProof.Rows.callWith_type1 (thn (k pos pins s σ H _ I h) fun us s1 ⟨vs,H1,d,f,b⟩=>?_) g rfl))
 obtain ⟨j,e,b,c,q⟩:=b
 subst e
 cases f with
 | cons r rr =>
  cases rr
  obtain ⟨t,rfl⟩:=r
  exact call_range_1 (o9 d (by omega) (by omega) b c (by simpa using q))
theorem t5 (n:Gl X "range") (hm:X.mg "range"=none) (o:PA X [a,b] ta) (m:starEach [a,b] X.env=[(false,eval a X.env),(false,eval b X.env)]:=by rfl) (c:starEach [b] X.env=[(false,eval b X.env)]:=by rfl) :
  PI X tg (.Call (.Name "range" p) [a,b] [] pos) (Aq ta):=by
 intro pins s σ H R I h
 refine Call_ (jr I n hm boot_range (PyProof.Rows.callWith_type1 (thn (o pos pins s σ H _ I h) fun us s1 ⟨vs,H1,g,k,d⟩=>?_) (by rw [m,c]) (by rw [c];rfl)))
 obtain ⟨i,j,e,⟨d,f,l,u⟩,q⟩:=d
 subst e
 cases k with
 | cons r rr =>
  cases rr with
  | cons r' rr =>
   cases rr
   obtain ⟨t,rfl⟩:=r
   obtain ⟨t',rfl⟩:=r'
   exact call_range_2 (o9 g d f l u q)
def tFor (b:TI) (g:TG) (tb:TS):TS:=fun D σ H=>b σ H fun J H1=>∃ W:Nat->Nat->St->Hp->Prop,(∃ m,W 0 m σ H1)/\∀ i m σ H,W i m σ H ->
 (J.stop i H/\D.nx σ H)\/(J.go i H/\∃ N:St->Hp->Prop,(∀ σ' H',N σ' H'->∃ a,a < m/\W (i+1) a σ' H')/\∀ x H',J.yld i H x H'->g x σ H' fun σ2 H2=>tb { D with nx:=N,ct:=N,bk:=D.nx } σ2 H2)
def jl (fp:List Addr) (h:Heap):List (Addr × Obj):=fp.filterMap fun b=>(h.get? b).map fun o=>(b,o)
theorem cQ (a:b ∈ fp) (e:h.get? b=some o):(b,o) ∈ jl fp h:=List.mem_filterMap.mpr ⟨b,a,by rw [e];rfl⟩
theorem ub (c:p ∈ jl fp h):p.1 ∈ fp/\h.get? p.1=some p.2:=by
 obtain ⟨b,a,e⟩:=List.mem_filterMap.mp c
 cases q:h.get? b with
 | none=>rw [q] at e;cases e
 | some o =>
  rw [q] at e
  have d:(b,o)=p:=DJ e
  subst d
  exact ⟨a,q⟩
theorem Inv.pinned (I:Inv X pins σ H s) (hf:∀ b ∈ fp,FpOk X pins H b) (g:∀ b ∈ fp,∃ o,s.heap.get? b=some o/\∀ v,o.data ≠ .cell v):Inv X (pins ++ jl fp s.heap) σ H s :=
 I.pins_of fun p f=>(Db.mp f).elim (fun z=>I.pin p (C7 _ z)) fun z=>by
  obtain ⟨c,e⟩:=ub z
  obtain ⟨f0,f1,f2,_⟩:=hf p.1 c
  obtain ⟨o,a,d⟩:=g p.1 c
  rw [e] at a;cases a
  exact ⟨e,f0,f1,f2,d⟩
theorem Inv.unpinned (I:Inv X (pins ++ pl) σ H s):Inv X pins σ H s:=I.pins_of fun p a=>I.pin p (C7 _ (C6 _ a))
theorem BC (z:PassesOwn (model X.prog X.w) X.A X.env X.xe) (M:X.calm=true) (hi:PI X tg iter wi) (V:PG X tg g) (a:PSs X body tb) (U:∀ x,foldedSetIterable iter X.env x=pure x:=by intro _;rfl):PS X (.For tg iter body [] pos) (tFor wi g tb):=by
 intro pins s σ H D I h
 refine wpAny_For (thn (hi pins s σ H _ I h) fun v s1 h1=>thn h1 fun ae s2 h2=>?_) U
 obtain ⟨it,fp,P,J,H2,e,I2,T,F,f2,W,⟨m0,w0⟩,turn⟩:=h2
 subst e
 have j:∀ {H':Hp},(∀ b ∈ fp,H' b=none)->∀ b ∈ fp,FpOk X pins H' b:=fun hn b a=>⟨hn b a,(f2 b a).2⟩
 refine codeAny_forLoop_any (fun n s'=>∃ i σ' H',Inv X pins σ' H' s'/\P i s'.heap/\(∀ b ∈ fp,H' b=none)/\W i n σ' H') ?_ m0 ⟨0,σ,H2,I2,F,fun b a=>(f2 b a).1,w0⟩
 rintro n s3 ⟨i,σ3,B,L,y,t,Q⟩
 rcases turn i n σ3 B Q with ⟨stop,R⟩ | ⟨go,N,hN,step⟩
 ·refine wpAny_passesOwn z (thn (T.done X rfl rfl rfl M i pins s3 σ3 B X.xe L (j t) y stop) fun r s4 ⟨C,I4⟩=>?_)
  subst C
  exact wpAny_execs_nil ⟨σ3,B,I4,R⟩
 ·refine wpAny_passesOwn z (thn (T.item X rfl rfl rfl M i pins s3 σ3 B X.xe L (j t) y go) fun r s4 ⟨u,C,h4⟩=>?_)
  subst C
  refine wpAny_passesOwn z (thn h4 fun _ s5 ⟨x,O,I5,Z,y5,p,K⟩=>?_)
  have G:=I5.pinned (j K) (T.obj _ _ p)
  refine wpAny_passesOwn z (thn (V _ s5 σ3 O x u _ G Z (step x O y5)) fun _ s6 ⟨σ6,H6,I6,Y⟩=>?_)
  refine wpAny_passesOwn z (thn (a _ s6 σ6 H6 _ I6 Y) fun f E l=>?_)
  have again:∀ {σ7:St} {c:Hp},Inv X (pins ++ jl fp s5.heap) σ7 c E->N σ7 c->∃ m,m < n/\∃ i σ' H',Inv X pins σ' H' E/\P i E.heap/\(∀ b ∈ fp,H' b=none)/\W i m σ' H':=fun {σ7 c} k q=>by
   obtain ⟨m',hm,w7⟩:=hN σ7 c q
   refine ⟨m',hm,i+1,σ7,c,k.unpinned,T.keep _ _ _ p fun b a o e=>(k.pin (b,o) (C7 _ (C7 _ (cQ a e)))).1,fun b a=>?_,w7⟩
   obtain ⟨o,e,d⟩:=T.obj _ _ p b a
   exact (k.pin (b,o) (C7 _ (C7 _ (cQ a e)))).2.1
  cases f with
  | next=>obtain ⟨σ7,c,k,q⟩:=l;exact again k q
  | cont=>obtain ⟨σ7,c,k,q⟩:=l;exact again k q
  | brk=>obtain ⟨σ7,c,k,l⟩:=l;exact ⟨σ7,c,k.unpinned,l⟩
  | ret v=>obtain ⟨S,σ7,c,k,r7,l⟩:=l;exact ⟨S,σ7,c,k.unpinned,r7,l⟩
end
end L2
namespace L2
open PySem PySem.Spec PyProof.Rows
abbrev R2:=V->V->Hp->VK->Prop
def OpR (X:Cx) (f:Value->Value->Sem Value) (r:R2):Prop :=
 ∀ (pins:List (Addr × Obj)) (s:Shared) (σ:St) (H:Hp) (x y:V) (v u:Value) (Q:VK),Inv X pins σ H s->RelV x v->RelV y u->r x y H Q ->
  wpAny (model X.prog X.w) X.A (f v u) (EP X pins σ Q) X.xe s
def UnR (X:Cx) (f:Value->Sem Value) (r:V->Hp->VK->Prop):Prop :=
 ∀ (pins:List (Addr × Obj)) (s:Shared) (σ:St) (H:Hp) (x:V) (v:Value) (Q:VK),Inv X pins σ H s->RelV x v->r x H Q ->
  wpAny (model X.prog X.w) X.A (f v) (EP X pins σ Q) X.xe s
def cI (X:Cx) (f:Value) (r:List V->Hp->VK->Prop):Prop :=
 ∀ (pins:List (Addr × Obj)) (s:Shared) (σ:St) (H:Hp) (xs:List V) (us:List Value) (Q:VK),Inv X pins σ H s->Vals xs us->r xs H Q ->
  wpAny (model X.prog X.w) X.A (call f us) (EP X pins σ Q) X.xe s
def tOp (r:R2) (ta tb:TE):TE:=fun σ H Q=>ta σ H fun x H1=>tb σ H1 fun y H2=>r x y H2 Q
def tUn (r:V->Hp->VK->Prop) (ta:TE):TE:=fun σ H Q=>ta σ H fun x H1=>r x H1 Q
def rI (C:Int->Int->Prop) (g:Int->Int->V):R2:=fun x y H Q=>∃ i j,x=.int i/\y=.int j/\C i j/\Q (g i j) H
def rI0 (g:Int->Int->V):R2:=fun x y H Q=>∃ i j,x=.int i/\y=.int j/\Q (g i j) H
def rU (g:Int->V):V->Hp->VK->Prop:=fun x H Q=>∃ i,x=.int i/\Q (g i) H
section
variable {X:Cx} {a b c:Expr} {ta tb tc:TE} {pos:Pos}
theorem CP (n:PE X a ta) (i:PE X b tb) {R:V->V->Hp->Prop} (I:Inv X pins σ H s) (h:ta σ H fun x H1=>tb σ H1 fun y H2=>R x y H2) {f:Value->Value->Sem Value} (hf:∀ v u s2 x y H2,Inv X pins σ H2 s2->RelV x v->RelV y u->R x y H2->wpAny (model X.prog X.w) X.A (f v u) Q X.xe s2) :
  wpAny (model X.prog X.w) X.A (eval a X.env) (fun v l=>wpAny (model X.prog X.w) X.A (eval b X.env) (fun u e=>wpAny (model X.prog X.w) X.A (f v u) Q X.xe e) X.xe l) X.xe s:=by
 refine thn (n pins s σ H _ I h) fun v s1 ⟨x,H1,d,g,k⟩=>?_
 refine thn (i pins s1 σ H1 _ d k) fun u s2 ⟨y,H2,m,j,c⟩=>?_
 exact hf v u s2 x y H2 m g j c
theorem pe_op (d:OpR X (binaryOp op) r) (i:PE X a ta) (e:PE X b tb):PE X (.BinOp a op b pos) (tOp r ta tb):=by
 intro pins s σ H Q I h
 exact wpAny_BinOp (CP i e I h fun v u s2 x y H2 g f c q=>d pins s2 σ H2 x y v u Q g f c q)
theorem pe_un (b:UnR X (unaryOp op) r) (f:PE X a ta):PE X (.UnaryOp op a pos) (tUn r ta):=by
 intro pins s σ H Q I h
 exact UnaryOp_ (thn (f pins s σ H _ I h) fun v s1 ⟨x,H1,c,e,d⟩=>b pins s1 σ H1 x v Q c e d)
theorem opI {g:Int->Int->Int} (rule:∀ (i j:Int) (t u:Tok) (s:Shared) (Q:Value->Shared->Prop) (E:Value->Shared->Prop),C i j->Q (.int (g i j) s.toks) { s with toks:=s.toks+1 }->wpAny (model X.prog X.w) X.A (f (.int i t) (.int j u)) Q E s) :
  OpR X f (rI C fun i j=>.int (g i j)):=by
 intro pins s σ H x y v u Q I c a h
 obtain ⟨i,j,rfl,rfl,b,q⟩:=h
 obtain ⟨t,rfl⟩:=c
 obtain ⟨t',rfl⟩:=a
 exact rule i j t t' s _ _ b ⟨.int (g i j),H,I.tok _,⟨_,rfl⟩,q⟩
theorem opI0 {g:Int->Int->Int} (rule:∀ (i j:Int) (t u:Tok) (s:Shared) (Q:Value->Shared->Prop) (E:Value->Shared->Prop),Q (.int (g i j) s.toks) { s with toks:=s.toks+1 }->wpAny (model X.prog X.w) X.A (f (.int i t) (.int j u)) Q E s) :
  OpR X f (rI0 fun i j=>.int (g i j)):=by
 intro pins s σ H x y v u Q I b a h
 obtain ⟨i,j,rfl,rfl,q⟩:=h
 obtain ⟨t,rfl⟩:=b
 obtain ⟨t',rfl⟩:=a
 exact rule i j t t' s _ _ ⟨.int (g i j),H,I.tok _,⟨_,rfl⟩,q⟩
theorem zc {g:Int->Int->Bool} (rule:∀ (i j:Int) (t u:Tok) (s:Shared) (Q:Value->Shared->Prop) (E:Value->Shared->Prop),Q (.bool (g i j)) s->wpAny (model X.prog X.w) X.A (f (.int i t) (.int j u)) Q E s) :
  OpR X f (rI0 fun i j=>.bl (g i j)):=by
 intro pins s σ H x y v u Q I b a h
 obtain ⟨i,j,rfl,rfl,q⟩:=h
 obtain ⟨t,rfl⟩:=b
 obtain ⟨t',rfl⟩:=a
 exact rule i j t t' s _ _ ⟨.bl (g i j),H,I,rfl,q⟩
def u7 (i j:Int):Prop:=0 < j/\j < 1073741824
def xW (i j:Int):Prop:=0<=j/\j<=1000000/\i.natAbs < 2 ^ 64
def CMul (i j:Int):Prop:=(-(2 ^ 64) < i/\i < 2 ^ 64)\/(-(2 ^ 64) < j/\j < 2 ^ 64)
theorem CMul.ok {i j:Int} (h:CMul i j):IntMulOk i j:=by
 rcases h with ⟨h1,h2⟩ | ⟨h1,h2⟩
 ·exact .of_left (intBits_le_64 h1 h2)
 ·exact .of_right (intBits_le_64 h1 h2)
theorem op_add:OpR X (binaryOp .Add) (rI0 fun i j=>.int (i+j)):=opI0 fun _ _ _ _ _ _ _ q=>add_int q
theorem BQ:OpR X (binaryOp .Sub) (rI0 fun i j=>.int (i - j)):=opI0 fun _ _ _ _ _ _ _ q=>sub_int q
theorem BT:OpR X (binaryOp .Mult) (rI CMul fun i j=>.int (i * j)):=opI fun _ _ _ _ _ _ _ a q=>mul_int q a.ok
theorem BU:OpR X (binaryOp .Mod) (rI (fun _ j=>0 < j) fun i j=>.int (i % j)):=opI fun i j _ _ _ _ _ a q=>by
 have h1:(0:Int) < j:=a
 exact mod_int' (by omega) (by rw [Int.fmod_eq_emod_of_nonneg i (by omega)];exact q)
theorem BR:OpR X (binaryOp .Pow) (rI xW fun i j=>.int (i ^ j.toNat)):=opI fun _ _ _ _ _ _ _ a q=>pow_int_small a.1 a.2.1 a.2.2 q
theorem unI {g:Int->Int} (rule:∀ (i:Int) (t:Tok) (s:Shared) (Q:Value->Shared->Prop) (E:Value->Shared->Prop),Q (.int (g i) s.toks) { s with toks:=s.toks+1 }->wpAny (model X.prog X.w) X.A (f (.int i t)) Q E s) :
  UnR X f (rU fun i=>.int (g i)):=by
 intro pins s σ H x v Q I a h
 obtain ⟨i,rfl,q⟩:=h
 obtain ⟨t,rfl⟩:=a
 exact rule i t s _ _ ⟨.int (g i),H,I.tok _,⟨_,rfl⟩,q⟩
theorem AA:UnR X (unaryOp .USub) (rU fun i=>.int (-i)):=unI fun _ _ _ _ _ q=>neg_int q
end
def A4:V->V->Bool
 | .non,.non=>true | .non,.int _=>true | .int _,.non=>true | .non,.bl _=>true | .bl _,.non=>true | .non,.str _=>true | .str _,.non=>true
 | .int _,.int _=>true | .bl _,.bl _=>true | .str _,.str _=>true | .byt _,.byt _=>true
 | .int _,.str _=>true | .str _,.int _=>true | .bl _,.str _=>true | .str _,.bl _=>true
 | _,_=>false
def rEq:R2:=fun x y H Q=>A4 x y=true/\Q (.bl (decide (x=y))) H
def rNe:R2:=fun x y H Q=>A4 x y=true/\Q (.bl (!decide (x=y))) H
theorem sP {i j:Int}:decide (V.int i=V.int j)=(i == j):=by
 rw [Bool.eq_iff_iff]
 simp
theorem xz:decide (V.bl i=V.bl j)=(i == j):=by
 rw [Bool.eq_iff_iff]
 simp
theorem sO:decide (V.str i=V.str j)=(i == j):=by
 rw [Bool.eq_iff_iff]
 simp
theorem sQ:decide (V.byt i=V.byt j)=(i.toList == j.toList):=by
 rw [Bool.eq_iff_iff]
 cases i
 cases j
 simp
section
variable {X:Cx} {a b c:Expr} {ta tb tc:TE} {pos:Pos}
theorem aM (I:Inv X pins σ H s) (q:Q (.bl k) H) (e:k=k'):EP X pins σ Q (.bool k') s:=by
 subst e
 exact ⟨.bl k,H,I,rfl,q⟩
theorem op_eq:OpR X (compareOp .Eq) rEq:=by
 intro pins s σ H x y v u Q I c a h
 obtain ⟨b,q⟩:=h
 cases x with
 | non =>
  cases c
  cases y with
  | non=>cases a;exact PySem.EqNone.eq_none_none (aM I q (by simp))
  | bl j=>cases a;exact PySem.EqNone.eq_none_bool (aM I q (by simp))
  | int j=>obtain ⟨t',rfl⟩:=a;exact PySem.EqNone.eq_none_int (aM I q (by simp))
  | str j=>obtain ⟨t',rfl⟩:=a;exact PySem.EqNone.eq_none_str (aM I q (by simp))
  | _=>exact absurd (show false=true from b) Dk
 | bl i =>
  cases c
  cases y with
  | non=>cases a;exact PySem.EqNone.eq_bool_none (aM I q (by simp))
  | bl j=>cases a;exact eq_bool (aM I q xz)
  | str j=>obtain ⟨t',rfl⟩:=a;exact PySem.EqMixed.eq_bool_str (aM I q (by simp))
  | _=>exact absurd (show false=true from b) Dk
 | int i =>
  obtain ⟨t,rfl⟩:=c
  cases y with
  | non=>cases a;exact PySem.EqNone.eq_int_none (aM I q (by simp))
  | int j=>obtain ⟨t',rfl⟩:=a;exact eq_int (aM I q sP)
  | str j=>obtain ⟨t',rfl⟩:=a;exact PySem.EqMixed.eq_int_str (aM I q (by simp))
  | _=>exact absurd (show false=true from b) Dk
 | str i =>
  obtain ⟨t,rfl⟩:=c
  cases y with
  | non=>cases a;exact PySem.EqNone.eq_str_none (aM I q (by simp))
  | bl j=>cases a;exact PySem.EqMixed.eq_str_bool (aM I q (by simp))
  | int j=>obtain ⟨t',rfl⟩:=a;exact PySem.EqMixed.eq_str_int (aM I q (by simp))
  | str j=>obtain ⟨t',rfl⟩:=a;exact eq_str (aM I q sO)
  | _=>exact absurd (show false=true from b) Dk
 | byt i =>
  obtain ⟨t,rfl⟩:=c
  cases y with
  | byt j=>obtain ⟨t',rfl⟩:=a;exact PySem.W.eq_bytes (aM I q sQ)
  | _=>exact absurd (show false=true from b) Dk
 | _=>cases y <;> exact absurd (show false=true from b) Dk
theorem op_ne:OpR X (compareOp .NotEq) rNe:=by
 intro pins s σ H x y v u Q I c a h
 obtain ⟨b,q⟩:=h
 cases x with
 | non =>
  cases c
  cases y with
  | non=>cases a;exact PySem.EqNone.ne_none_none (aM I q (by simp))
  | bl j=>cases a;exact PySem.EqNone.ne_none_bool (aM I q (by simp))
  | int j=>obtain ⟨t',rfl⟩:=a;exact PySem.EqNone.ne_none_int (aM I q (by simp))
  | str j=>obtain ⟨t',rfl⟩:=a;exact PySem.EqNone.ne_none_str (aM I q (by simp))
  | _=>exact absurd (show false=true from b) Dk
 | bl i =>
  cases c
  cases y with
  | non=>cases a;exact PySem.EqNone.ne_bool_none (aM I q (by simp))
  | bl j=>cases a;exact ne_bool (aM I q (congrArg not xz))
  | str j=>obtain ⟨t',rfl⟩:=a;exact PySem.EqMixed.ne_bool_str (aM I q (by simp))
  | _=>exact absurd (show false=true from b) Dk
 | int i =>
  obtain ⟨t,rfl⟩:=c
  cases y with
  | non=>cases a;exact PySem.EqNone.ne_int_none (aM I q (by simp))
  | int j=>obtain ⟨t',rfl⟩:=a;exact ne_int (aM I q (congrArg not sP))
  | str j=>obtain ⟨t',rfl⟩:=a;exact PySem.EqMixed.ne_int_str (aM I q (by simp))
  | _=>exact absurd (show false=true from b) Dk
 | str i =>
  obtain ⟨t,rfl⟩:=c
  cases y with
  | non=>cases a;exact PySem.EqNone.ne_str_none (aM I q (by simp))
  | bl j=>cases a;exact PySem.EqMixed.ne_str_bool (aM I q (by simp))
  | int j=>obtain ⟨t',rfl⟩:=a;exact PySem.EqMixed.ne_str_int (aM I q (by simp))
  | str j=>obtain ⟨t',rfl⟩:=a;exact ne_str (aM I q (congrArg not sO))
  | _=>exact absurd (show false=true from b) Dk
 | byt i =>
  obtain ⟨t,rfl⟩:=c
  cases y with
  | byt j=>obtain ⟨t',rfl⟩:=a;exact PySem.W.ne_bytes (aM I q (congrArg not sQ))
  | _=>exact absurd (show false=true from b) Dk
 | _=>cases y <;> exact absurd (show false=true from b) Dk
theorem si:OpR X (compareOp .Lt) (rI0 fun i j=>.bl (decide (i < j))):=zc fun _ _ _ _ _ _ _ q=>lt_int q
theorem jJ:OpR X (compareOp .LtE) (rI0 fun i j=>.bl (decide (i<=j))):=zc fun _ _ _ _ _ _ _ q=>le_int q
theorem op_gt:OpR X (compareOp .Gt) (rI0 fun i j=>.bl (decide (j < i))):=zc fun _ _ _ _ _ _ _ q=>gt_int q
theorem op_ge:OpR X (compareOp .GtE) (rI0 fun i j=>.bl (decide (j<=i))):=zc fun _ _ _ _ _ _ _ q=>ge_int q
theorem wy : OpR X (compareOp .Is) (fun x y H Q => y = .non /\ Q (.bl (decide (x = .non))) H) := by
  intro pins s σ H x y v u Q I a b h
  obtain ⟨rfl, q⟩ := h
  cases b
  refine is_none_gen (aM I q ?_)
  cases x <;> first
    | (cases a; rfl)
    | (obtain ⟨t, rfl⟩ := a; rfl)
theorem za : OpR X (compareOp .IsNot) (fun x y H Q => y = .non /\ Q (.bl (!decide (x = .non))) H) := by
  intro pins s σ H x y v u Q I a b h
  obtain ⟨rfl, q⟩ := h
  cases b
  refine isnot_none_gen (aM I q ?_)
  cases x <;> first
    | (cases a; rfl)
    | (obtain ⟨t, rfl⟩ := a; rfl)
theorem OpR.or (h:OpR X f r) (h':OpR X f r'):OpR X f (fun x y H Q=>r x y H Q\/r' x y H Q):=by
 intro pins s σ H x y v u Q I b a q
 rcases q with q | q
 ·exact h pins s σ H x y v u Q I b a q
 ·exact h' pins s σ H x y v u Q I b a q
theorem dX (b : Expr) (h : op ≠ .In := by decide) (h2 : op ≠ .NotIn := by decide) : behindInMarks op b = false := by
  have e1 : (op == CmpOp.In) = false := by cases op <;> first | rfl | exact absurd rfl h
  have a : (op == CmpOp.NotIn) = false := by cases op <;> first | rfl | exact absurd rfl h2
  cases b <;> simp [behindInMarks, e1, a]
theorem y8 (d:OpR X (compareOp op) r) (i:PE X a ta) (e:PE X b tb) (hm:behindInMarks op b=false):PE X (.Compare a [op] [b] pos) (tOp r ta tb):=by
 intro pins s σ H Q I h
 exact wpAny_Compare1 (CP i e I h fun v u s2 x y H2 g f c q=>d pins s2 σ H2 x y v u Q g f c q) hm
def Ab (t:TE):TT:=fun σ H Q=>t σ H fun x H'=>∃ k,x=.bl k/\Q k H'
theorem yV (m:OpR X (compareOp op) r) (w:PE X a ta) (n:PE X b tb) (hm:behindInMarks op b=false):PT X (.Compare a [op] [b] pos) (Ab (tOp r ta tb)):=by
 intro pins s σ H Q I h
 refine wpAny_isTrue_Compare1 (thn (w pins s σ H _ I h) fun v s1 ⟨x,H1,f,l,p⟩=>thn (n pins s1 σ H1 _ f p) fun u s2 ⟨y,H2,t,o,d⟩ =>
  thn (m pins s2 σ H2 x y v u _ t l o d) fun c s3 ⟨z,j,i,g,k,e,q⟩=>?_) hm
 subst e
 cases g
 exact DE ⟨j,i,q⟩
def mQ (r d:R2) (ta tb tc:TE):TE:=fun σ H Q=>ta σ H fun x H1=>tb σ H1 fun y H2=>r x y H2 fun z a=>∃ k,z=.bl k /\
 (if k=true then tc σ a fun c b=>d y c b Q else Q (.bl false) a)
theorem ph (D:OpR X (compareOp op) r) (f:OpR X (compareOp op') r') (K:PE X a ta) (t:PE X b tb) (C:PE X c tc) (hm:lastMarks [op,op'] [b,c]=false:=by with_unfolding_all rfl):PE X (.Compare a [op,op'] [b,c] pos) (mQ r r' ta tb tc):=by
 intro pins s σ H Q I h
 refine Compare_chain (thn (K pins s σ H _ I h) fun v s1 ⟨x,H1,B,q,w⟩=>chain_link (thn (t pins s1 σ H1 _ B w) fun u s2 ⟨y,H2,F,j,A⟩ =>
  thn (D pins s2 σ H2 x y v u _ F q j A) fun d s3 ⟨z,i,g,n,k,e,l⟩=>?_)) hm
 subst e
 cases n
 refine DE ?_
 cases k with
 | false=>exact ite_ff ⟨.bl false,i,g,rfl,l⟩
 | true=>exact ite_tt (chain_last (thn (C pins s3 σ i _ g l) fun p s4 ⟨o,m,G,E,J⟩=>f pins s4 σ m y o u p Q G j E J))
theorem wk (L:OpR X (compareOp op) r) (f:OpR X (compareOp op') r') (S:PE X a ta) (A:PE X b tb) (J:PE X c tc) (hm:lastMarks [op,op'] [b,c]=false:=by with_unfolding_all rfl):PT X (.Compare a [op,op'] [b,c] pos) (Ab (mQ r r' ta tb tc)):=by
 intro pins s σ H Q I h
 refine isTrue_chain (thn (S pins s σ H _ I h) fun v s1 ⟨x,H1,G,q,C⟩=>test_link (thn (A pins s1 σ H1 _ G C) fun u s2 ⟨y,H2,O,j,E⟩ =>
  thn (L pins s2 σ H2 x y v u _ O q j E) fun d s3 ⟨z,i,g,n,k,e,l⟩=>?_)) hm
 subst e
 cases n
 refine DE ?_
 cases k with
 | false =>
  obtain ⟨U,t,D⟩:=l
  cases t
  exact ite_ff ⟨i,g,D⟩
 | true =>
  refine ite_tt (test_last (thn (J pins s3 σ i _ g l) fun p s4 ⟨o,m,P,M,R⟩=>thn (f pins s4 σ m y o u p _ P j M R) fun d' s5 ⟨T,B,w,F,k2,N,K⟩=>?_))
  subst N
  cases F
  exact DE ⟨B,w,K⟩
theorem nB:(sizeLine:Nat) < 2 ^ 63:=by rw [sizeLine_eq];decide
theorem op_add_str:OpR X (binaryOp .Add) (fun x y H Q=>∃ i j,x=.str i/\y=.str j/\i.length+j.length<=sizeLine/\Q (.str (i ++ j)) H):=by
 intro pins s σ H x y v u Q I b a h
 obtain ⟨i,j,rfl,rfl,hz,q⟩:=h
 obtain ⟨t,rfl⟩:=b
 obtain ⟨t',rfl⟩:=a
 exact add_str (fun t' tk=>⟨.str (i ++ j),H,I.tok _,⟨_,rfl⟩,q⟩) hz
theorem kh (r:Vals [x] us):∃ u,us=[u]/\RelV x u:=by
 cases r with
 | cons r1 r2=>cases r2;exact ⟨_,rfl,r1⟩
theorem jD (r:Vals [x,y] us):∃ u a,us=[u,a]/\RelV x u/\RelV y a:=by
 cases r with
 | cons r1 r2 =>
  cases r2 with
  | cons r3 r4=>cases r4;exact ⟨_,_,rfl,r1,r3⟩
theorem uT (b:X.calm=true):cI X (.builtin "max") (fun xs H Q=>∃ i j,xs=[.int i,.int j]/\Q (.int (if j > i then j else i)) H):=by
 intro pins s σ H xs us Q I r h
 obtain ⟨i,j,rfl,q⟩:=h
 obtain ⟨u,c,rfl,⟨t,rfl⟩,⟨t',rfl⟩⟩:=jD r
 refine max_two_ints (I.ok.hd b) fun h' tk k=>⟨_,H,I.kept k,?_,q⟩
 by_cases a:j > i
 ·rw [if_pos a,if_pos a];exact ⟨_,rfl⟩
 ·rw [if_neg a,if_neg a];exact ⟨_,rfl⟩
theorem uS (b:X.calm=true):cI X (.builtin "min") (fun xs H Q=>∃ i j,xs=[.int i,.int j]/\Q (.int (if j < i then j else i)) H):=by
 intro pins s σ H xs us Q I r h
 obtain ⟨i,j,rfl,q⟩:=h
 obtain ⟨u,c,rfl,⟨t,rfl⟩,⟨t',rfl⟩⟩:=jD r
 refine min_two_ints (I.ok.hd b) fun h' tk k=>⟨_,H,I.kept k,?_,q⟩
 by_cases a:j < i
 ·rw [if_pos a,if_pos a];exact ⟨_,rfl⟩
 ·rw [if_neg a,if_neg a];exact ⟨_,rfl⟩
theorem p7:cI X (.builtin "divmod") (fun xs H Q=>∃ i j,xs=[.int i,.int j]/\u7 i j/\∀ p,H p=none->Q (.ref p) (upd H p (.tup [.int (i / j),.int (i % j)]))):=by
 intro pins s σ H xs us Q I r h
 obtain ⟨i,j,rfl,⟨h1,h2⟩,q⟩:=h
 obtain ⟨u,c,rfl,⟨t,rfl⟩,⟨t',rfl⟩⟩:=jD r
 refine divmod_int (by omega) ?_ (.inl (PyProof.noPylong_small (by omega)))
 rw [Int.fdiv_eq_ediv_of_nonneg i (by omega),Int.fmod_eq_emod_of_nonneg i (by omega)]
 have a:H s.heap.objs.size=none:=I.hok.fresh (Dj _)
 refine ⟨.ref s.heap.objs.size,_,?_,rfl,q _ a⟩
 refine I.laid (fun b o e=>C4 _ e) (Dj _) ⟨by simp only [Du,List.length_nil];rw [sizeLine_eq];decide,[.int (i / j) s.toks,.int (i % j) (s.toks+1)],.cons ⟨_,rfl⟩ (.cons ⟨_,rfl⟩ .nil),?_⟩
 exact ⟨_,Dc s.heap rfl,rfl,0,rfl⟩
end
end L2
namespace L2
open PySem PySem.Spec PyProof.Rows
theorem RelO.some_of (r:RelO (some v) o):∃ u,o=some u/\RelV v u:=by
 cases o with
 | none=>exact (show False from r).elim
 | some u=>exact ⟨u,rfl,r⟩
section
variable {X:Cx} {pins:List (Addr × Obj)} {σ:St} {H:Hp} {s:Shared} {a C dx:Addr} {fs:List (Str × V)} {f:Str} {v:V} {A:Around} {E:Value->Shared->Prop}
theorem z6 (b:attributeBase e f env (eval e env)=eval e env) (h:wpAny (model prog w) A (eval e env) (fun o a=>wpAny (model prog w) A (getAttr o f true) Q E a) E s):wpAny (model prog w) A (eval (.Attribute e f pos) env) Q E s :=
 Attribute_any_ h (by rw [arm_eval_Attribute,b])
end
end L2
namespace L2
open PySem PySem.Spec PyProof.Rows
structure Room (k:Nat) (A:Around):Prop where
 hd:A.handled=none
 dp:A.depth+3 * k+5 < recursionLimit
 un:A.units+16 * k+200 < cLine
 gd:A.guards=some []
theorem Room.mono {j k:Nat} (r:Room k A) (h:j<=k):Room j A:=⟨r.hd,by have:=r.dp;omega,by have:=r.un;omega,r.gd⟩
theorem Room.deeper {k:Nat} (r:Room (k+1) A) (env:Env):Room k (A.deeper env) :=
 ⟨r.hd,by have:=r.dp;show A.depth+1+3 * k+5 < _;omega,by have:=r.un;show A.units+3+16 * k+200 < _;omega,r.gd⟩
theorem Room.depth {k:Nat} (r:Room k A):A.depth < recursionLimit:=by have:=r.dp;omega
theorem Room.units {k:Nat} (r:Room k A):A.units+64 < cLine:=by have:=r.un;omega
def tNil:TA:=fun _ H Q=>Q [] H
def Af (ta:TE) (a:TA):TA:=fun σ H Q=>ta σ H fun x H1=>a σ H1 fun xs H2=>Q (x :: xs) H2
section
variable {X:Cx} {e:Expr} {es:List Expr} {te:TE} {t:TA} {pos:Pos}
theorem qG:PA X [] tNil:=fun _ _ _ _ H Q I h=>Calls.spliced_nil ⟨[],H,I,.nil,h⟩
theorem iR (k:PE X e te) (c:PA X es t) (i:starEach (e :: es) X.env=(false,eval e X.env) :: starEach es X.env:=by rfl):PA X (e :: es) (Af te t):=by
 intro pos pins s σ H Q I h
 rw [i]
 show wpAny _ _ (spliced ((false,eval e X.env) :: backTo pos (starEach es X.env))) _ _ s
 refine Calls.spliced_cons (thn (k pins s σ H _ I h) fun u s1 ⟨x,H1,b,d,g⟩=>?_)
 exact thn (c pos pins s1 σ H1 _ b g) fun us s2 ⟨xs,H2,j,f,a⟩=>⟨x :: xs,H2,j,.cons d f,a⟩
def tTup (t:TA):TE:=fun σ H Q=>t σ H fun xs H1=>xs.length<=sizeLine/\∀ p,H1 p=none->Q (.ref p) (upd H1 p (.tup xs))
def tLst (t:TA):TE:=fun σ H Q=>t σ H fun xs H1=>xs.length<=sizeLine/\∀ p,H1 p=none->Q (.ref p) (upd H1 p (.lst xs))
theorem BG (h:PA X es t):PE X (.Tuple es x1 pos) (tTup t):=by
 intro pins s σ H Q I c
 refine wpAny_Tuple_spliced (thn (h pos pins s σ H _ I c) fun us s1 ⟨xs,H1,a,r,z,q⟩=>⟨by rw [<- r.length];exact z,?_⟩)
 have hf:H1 s1.heap.objs.size=none:=a.hok.fresh (Dj _)
 refine ⟨.ref s1.heap.objs.size,upd H1 s1.heap.objs.size (.tup xs),a.laid (t':=s1.toks) (fun b u e=>C4 _ e) (Dj _) ?_,rfl,q _ hf⟩
 exact ⟨z,us,r,⟨_,Dc _ rfl,rfl,_,rfl⟩⟩
theorem BL (h:PA X es t):PE X (.List es pos) (tLst t):=by
 intro pins s σ H Q I c
 refine wpAny_List_spliced (thn (h pos pins s σ H _ I c) fun us s1 ⟨xs,H1,a,r,z,q⟩=>⟨by rw [<- r.length];exact z,?_⟩)
 have hf:H1 s1.heap.objs.size=none:=a.hok.fresh (Dj _)
 refine ⟨.ref s1.heap.objs.size,upd H1 s1.heap.objs.size (.lst xs),a.laid (t':=s1.toks) (fun b u e=>C4 _ e) (Dj _) ?_,rfl,q _ hf⟩
 exact ⟨z,us,0,r,Dc _ rfl⟩
end
abbrev Sp:=List V->Hp->VK->XK->Prop
abbrev CXT:=List Env->Hp->Shared->XK->Value->Shared->Prop
structure Env0 (P:Program) (w:World) (K:FG) (mg:Str->Option Value) (base:Heap) (A:Around) (outer:List Env) (s:Shared) (H:Hp):Prop where
 frames:A.frames=some outer
 mod:Mod K mg base
 bs:∀ b o,base.get? b=some o->s.heap.get? b=some o/\H b=none
 bsz:base.objs.size<=s.heap.objs.size
 funs:s.heap.FunFrames base outer
 frf:∀ b ∈ frs outer,H b=none
 hok:HOk P w H s.heap
 bare:AllBare s.gens
def CE (outer:List Env) (P:Program) (w:World) (H:Hp) (s:Shared) (Q:VK) (u:Value) (s':Shared):Prop :=
 ∃ v H',s'.os=s.os/\AllBare s'.gens/\Un (frs outer) [] H H' s.heap s'.heap/\HOk P w H' s'.heap/\RelV v u/\Q v H'
def CR (CX:CXT) (outer:List Env) (P:Program) (w:World) (H:Hp) (s:Shared) (Q:VK) (E:XK) (r:Result) (s':Shared):Prop :=
 match r with
 | .ok (.ret u)=>CE outer P w H s Q u s'
 | .ok _=>False
 | .error e=>CX outer H s E e s'
structure FnOk (P:Program) (w:World) (K:FG) (mg:Str->Option Value) (base:Heap) (CX:CXT) (k:Nat) (f:Addr) (fd:FuncData) (ps:List Str) (sp:Sp):Prop where
 len:∀ vs H Q E,sp vs H Q E->vs.length=ps.length
 run:∀ (A:Around) (outer:List Env) (s:Shared) (H:Hp) (args:Args) (us:List Value) (vs:List V) (Q:VK) (E:XK),Room k A->Env0 P w K mg base A outer s H->BindsTo s fd args (ps.zip us)->Vals vs us->sp vs H Q E ->
  codeAny (model P w) A (.call (.ref f) args) (CR CX outer P w H s Q E) s
theorem FnOk.imp {K:FG} {k:Nat} (F:FnOk P w K mg base CX k f fd ps sp) (h:∀ vs H Q E,sp' vs H Q E->sp vs H Q E):FnOk P w K mg base CX k f fd ps sp' :=
 ⟨fun vs H Q E q=>F.len vs H Q E (h _ _ _ _ q),fun A outer s H args us vs Q E a he c b d=>F.run A outer s H args us vs Q E a he c b (h _ _ _ _ d)⟩
section
variable {X:Cx} {pins:List (Addr × Obj)} {σ:St} {H:Hp} {s s':Shared}
theorem Inv.env0 (I:Inv X pins σ H s):Env0 X.prog X.w X.K X.mg X.base X.A X.stack s H :=
 ⟨I.ok.frames,I.ok.mod,I.bs,DF I.ok.bsz I.sz,I.stack,I.stkFree,I.hok,I.bare⟩
theorem Inv.after (I:Inv X pins σ H s) (h:CE X.stack X.prog X.w H s Q u s'):EP X pins σ Q u s':=by
 obtain ⟨v,H',os,bare,un,hok,r,q⟩:=h
 obtain ⟨c,g,d,t,a⟩:=s'
 obtain rfl:a=s.os:=os
 exact ⟨v,H',I.call (h':=c) (g':=g) (d':=d) (t':=t) (ch:=[]) un hok bare (fun b z=>absurd z (by simp)),r,q⟩
end
def tCall (sp:Sp) (dvs:List V) (E:XK) (t:TA):TE:=fun σ H Q=>t σ H fun vs H1=>sp (vs ++ dvs) H1 Q E
def Binds (K:FG) (fd:FuncData) (ps:List Str) (ds:List Value):Prop :=
 ∀ (s:Shared) (us:List Value),K.In s.heap->(us ++ ds).length=ps.length->BindsTo s fd ⟨us,[]⟩ (ps.zip (us ++ ds))
theorem Binds.all {K:FG} (h:∀ us:List Value,us.length=ps.length->bindArgs fd ⟨us,[]⟩=pure (ps.zip us)):Binds K fd ps []:=fun s us _ a=>by
 rw [List.append_nil] at a ⊢
 exact .of_eq (h us a)
def rF (CX:CXT) (X:Cx) (E:XK):Prop:=∀ (pins:List (Addr × Obj)) (σ:St) (H:Hp) (s:Shared) (e:Value) (s':Shared),Inv X pins σ H s->CX X.stack H s E e s'->X.xe e s'
section
variable {X:Cx} {CX:CXT} {k:Nat} {f C:Addr} {fd:FuncData} {ps:List Str} {sp:Sp} {dvs:List V} {ds:List Value} {E:XK} {x m:Str} {p pos apos:Pos} {e o:Expr} {es:List Expr} {ta:TE} {t:TA}
theorem A8 (F:FnOk X.prog X.w X.K X.mg X.base CX k f fd ps sp) (g:Room k X.A) (d:Binds X.K fd ps ds) (hd:Vals dvs ds) (i:rF CX X E) (I:Inv X pins σ H s) (r:Vals vs us) (h:sp (vs ++ dvs) H Q E):wpAny (model X.prog X.w) X.A (call (.ref f) us) (EP X pins σ Q) X.xe s:=by
 have b:Vals (vs ++ dvs) (us ++ ds):=r.append hd
 have c:(us ++ ds).length=ps.length:=by rw [<- b.length];exact F.len _ _ _ _ h
 refine wpAny_call (codeAny_mono (F.run X.A X.stack s H ⟨us,[]⟩ (us ++ ds) (vs ++ dvs) Q E g I.env0 (d s us I.kIn c) b h) fun r s' a=>?_)
 cases r with
 | error e=>exact i pins σ H s e s' I a
 | ok fl =>
  cases fl with
  | ret u=>exact I.after a
  | next=>exact False.elim a
  | brk=>exact False.elim a
  | cont=>exact False.elim a
theorem y9 (F:FnOk X.prog X.w X.K X.mg X.base CX k f fd ps sp) (d:Room k X.A) (j:Gl X x) (hm:X.mg x=some (.ref f)) (g:PySem.W.keepIn X.K (.ref f)=true) (i:Binds X.K fd ps ds) (hd:Vals dvs ds) (m:rF CX X E)
  (l:PA X (e :: es) t) (b:(x == ("__debug__":Str))=false:=by decide) (he:starEach (e :: es) X.env=(false,eval e X.env) :: starEach es X.env:=by rfl) (a:(backTo pos (starEach es X.env)).any (·.1)=false:=by rfl) :
  PE X (.Call (.Name x p) (e :: es) [] pos) (tCall sp dvs E t):=by
 intro pins s σ H Q I h
 refine wpAny_Call_Name_kw (eT I j hm ?_ b)
 refine PySem.W.callWith_K (h₀:=X.base) I.ok.mod.kin g (thn (l pos pins s σ H _ I h) fun us s1 ⟨vs,H1,c,r,q⟩=>⟨c.kIn,?_⟩) he a
 exact A8 F d i hd m c r q
end
structure FnScope (N P:List Str) (sc:Scope):Prop where
 kind:sc.kind=.function
 co:sc.isCoroutine=false
 gen:sc.isGenerator=false
 nd:N.Nodup
 pre:N.take P.length=P
 par:∀ x ∈ P,sc.names.lookup x=some .local\/sc.names.lookup x=some .cell
 nofree:∀ y ∈ sc.names,y.2 ≠ .free
theorem mG {kindOf:Str->Option NameKind}:∀ {binds:List (Str × Value)} {m:Str->Option Value},(∀ v,(x,v) ∉ binds)->bindL kindOf binds m x=m x
 | [],_,_=>rfl
 | (n,v) :: r,m,h=>by
  unfold bindL
  rw [mG fun w hw=>h w (C3 _ hw)]
  split
  ·have:x ≠ n:=by rintro rfl;exact h v C2
   simp [this]
  ·rfl
theorem mI {kindOf:Str->Option NameKind}:∀ {binds:List (Str × Value)} {m:Str->Option Value},(∀ v,(x,v) ∉ binds)->bindC kindOf binds m x=m x
 | [],_,_=>rfl
 | (n,v) :: r,m,h=>by
  unfold bindC
  rw [mI fun w hw=>h w (C3 _ hw)]
  split
  ·rfl
  ·have:x ≠ n:=by rintro rfl;exact h v C2
   simp [this]
theorem mH {kindOf:Str->Option NameKind}:∀ {P:List Str} {vs:List Value} {i:Nat} {m:Str->Option Value},P.Nodup->P[i]?=some x->vs[i]?=some v->kindOf x=some .local ->
  bindL kindOf (P.zip vs) m x=some v
 | [],_,_,_,_,h,_,_=>by simp at h
 | _ :: _,[],_,_,_,_,h,_=>by simp at h
 | p :: P,w :: vs,0,m,nd,h1,h2,hk=>by
  simp at h1 h2;subst h1;subst h2
  show bindL kindOf ((p,w) :: P.zip vs) m p=_
  unfold bindL
  rw [mG fun v a=>(List.nodup_cons.mp nd).1 (List.of_mem_zip a).1,if_pos hk]
  simp
 | p :: P,w :: vs,i+1,m,nd,h1,h2,hk=>by
  show bindL kindOf ((p,w) :: P.zip vs) m x=_
  unfold bindL
  exact mH (i:=i) (List.nodup_cons.mp nd).2 (by simpa using h1) (by simpa using h2) hk
theorem mJ {kindOf:Str->Option NameKind}:∀ {P:List Str} {vs:List Value} {i:Nat} {m:Str->Option Value},P.Nodup->P[i]?=some x->vs[i]?=some v->kindOf x ≠ some .local ->
  bindC kindOf (P.zip vs) m x=some v
 | [],_,_,_,_,h,_,_=>by simp at h
 | _ :: _,[],_,_,_,_,h,_=>by simp at h
 | p :: P,w :: vs,0,m,nd,h1,h2,hk=>by
  simp at h1 h2;subst h1;subst h2
  show bindC kindOf ((p,w) :: P.zip vs) m p=_
  unfold bindC
  rw [mI fun v a=>(List.nodup_cons.mp nd).1 (List.of_mem_zip a).1,if_neg hk]
  simp
 | p :: P,w :: vs,i+1,m,nd,h1,h2,hk=>by
  show bindC kindOf ((p,w) :: P.zip vs) m x=_
  unfold bindC
  exact mJ (i:=i) (List.nodup_cons.mp nd).2 (by simpa using h1) (by simpa using h2) hk
def fg (N:List Str) (vs:List V):St:=vs.map some ++ List.replicate (N.length - vs.length) none
def de (CX:CXT) (P:Program) (w:World) (K:FG) (mg:Str->Option Value) (base:Heap) (N:List Str) (qual:Str) (scope:Scope) (f:Addr) (cd:Value) (A:Around) (outer:List Env) (s:Shared) (H:Hp) (E:XK):Cx where
 prog:=P
 w:=w
 K:=K
 mg:=mg
 base:=base
 A:=A.deeper (envOfC qual scope s.heap.objs.size f cd)
 N:=N
 s₀:=s
 H₀:=H
 env:=envOfC qual scope s.heap.objs.size f cd
 outer:=outer
 stack:=envOfC qual scope s.heap.objs.size f cd :: outer
 ex:=[]
 calm:=true
 fn:=fun _=>true
 pn:=[]
 xe:=fun e s'=>wpAny (model P w) (A.deeper (envOfC qual scope s.heap.objs.size f cd)) (leaving (envOfC qual scope s.heap.objs.size f cd) e) (fun _ a=>CX outer H s E e a) (fun b a=>CX outer H s E b a) s'
theorem p5 {sc:Scope} {n:Nat} (h:sc.names.lookup x=some .cell):∃ c,(cellsFrom n sc.names []).lookup x=some c:=by
 have q:=PySem.W.cellsFrom_some sc.names n [] (.inl h)
 exact Option.isSome_iff_exists.mp q
theorem mr {K:FG} (S:FnScope N ps scope) (hd:A.handled=none) (d:Env0 P w K mg base A outer s H) (D:vs.length=ps.length) (r:Vals vs us) (x:InCallC s s.heap.objs.size (bindL (envOfC qual scope s.heap.objs.size f cd).kindOf (ps.zip us) fun _=>none) (cellsFrom (s.heap.objs.size+1) scope.names []) (bindC (envOfC qual scope s.heap.objs.size f cd).kindOf (ps.zip us) fun _=>none) s1) :
  Inv (de CX P w K mg base N qual scope f cd A outer s H E) [] (fg N vs) H s1:=by
 have t:ps.length<=N.length:=by have:=congrArg List.length S.pre;rw [Dv] at this;omega
 obtain ⟨h1,tk,rfl,o⟩:=x.done
 have g:∀ b:Addr,b ∉ (de CX P w K mg base N qual scope f cd A outer s H E).ex:=fun b z=>absurd (show b ∈ ([]:List Addr) from z) (by simp)
 refine ⟨⟨d.mod,S.kind,rfl,rfl,Dj _,fun y z c h1 h2=>?_,fun y j=>?_,fun y c _ h=>?_,fun _=>hd,Around.frames_deeper d.frames,.inr ⟨rfl,rfl⟩,fun b z=>absurd z (g b),d.bs,d.bsz,fun b _ _=>g b,fun b z=>absurd z (g b),d.funs,d.frf⟩,
  rfl,d.bare,Un.kept o,⟨_,x.toInCall.ns,fun i y v h1 h2 h3=>?_⟩,fun y c h=>⟨_,x.cell y c h⟩,d.hok.fresh (Dj _),fun y c h=>?_,fun p l=>absurd (show p ∈ ([]:List (Addr × Obj)) from l) (by simp),d.hok.kept o,?_⟩
 ·exact name_of_addr x.apart (PySem.mem_of_lookup h1) (PySem.mem_of_lookup h2)
 ·have j:scope.names.lookup y=some .cell\/scope.names.lookup y=some .free:=j
  rcases j with j | j
  ·exact p5 j
  ·exact absurd rfl (S.nofree _ (PySem.mem_of_lookup j))
 ·exact Nat.le_of_lt (x.above y c (PySem.mem_of_lookup h))
 ·have hi:i < vs.length:=by
   unfold fg at h2
   by_cases hi:i < vs.length
   ·exact hi
   ·rw [List.getElem?_append_right (by simpa using hi)] at h2
    rw [List.getElem?_replicate] at h2
    split at h2 <;> cases h2
  have C:vs[i]?=some v:=by
   unfold fg at h2
   rw [DB (by simpa using hi),Di] at h2
   cases e:vs[i]? with
   | none=>rw [e] at h2;cases h2
   | some a=>rw [e] at h2;cases h2;rfl
  obtain ⟨u,hu,B⟩:=r.get C
  have l:ps[i]?=some y:=by
   rw [<- S.pre,List.getElem?_take_of_lt (by omega)];exact h1
  have m:ps.Nodup:=by rw [<- S.pre];exact S.nd.sublist (List.take_sublist _ _)
  refine ⟨u,B,?_⟩
  rcases S.par y (Df l) with k | k
  ·exact .inl ⟨k,mH m l hu k⟩
  ·obtain ⟨c,e⟩:=p5 (n:=s.heap.objs.size+1) k
   refine .inr ⟨.inl k,c,e,?_⟩
   have q:=x.cell y c e
   rw [mJ m l hu (by show scope.names.lookup y ≠ _;rw [k];decide)] at q
   exact q
 ·exact d.hok.fresh (Nat.le_of_lt (x.above y c (PySem.mem_of_lookup h)))
 ·unfold fg
  show _=N.length
  rw [Dt,Dd,List.length_replicate]
  omega
theorem At {K:FG} {k:Nat} {p kV doc pm a ct G:Value} (F:K.lookup f=some ⟨G,od,.func (PySem.W.fnOf name qual params body scope p kV doc pm an a ct),osl⟩) (j:PySem.W.codeIn K a qual=true) (S:FnScope N ps scope) (len:∀ vs H Q E,sp vs H Q E->vs.length=ps.length) (c:∀ (A:Around) (outer:List Env) (s:Shared) (H:Hp) (vs:List V) (Q:VK) (E:XK),Room k (A.deeper (envOfC qual scope s.heap.objs.size f a))->sp vs H Q E ->
   ∃ t,PSs (de CX P w K mg base N qual scope f a A outer s H E) body t/\t { nx:=fun _ H'=>Q .non H',rt:=Q } (fg N vs) H) :
  FnOk P w K mg base CX (k+1) f (PySem.W.fnOf name qual params body scope p kV doc pm an a ct) ps sp:=by
 refine ⟨len,fun A outer s H args us vs Q E l i B r h=>?_⟩
 have D:=len _ _ _ _ h
 have z:K.In s.heap:=i.mod.kin.keeps fun b o e=>(i.bs b o e).1
 have lim:s.heap.NoLimit:=i.mod.nolimit.keeps fun b o e=>(i.bs b o e).1
 have d:∀ y ∈ ps.zip us,scope.names.lookup y.1=some .local\/(scope.names.lookup y.1=some .cell/\((cellsFrom (s.heap.objs.size+1) scope.names []).lookup y.1).isSome=true):=fun ⟨n,v⟩ M=>by
  rcases S.par n (List.of_mem_zip M).1 with q | q
  ·exact .inl q
  ·exact .inr ⟨q,PySem.W.cellsFrom_some _ _ _ (.inl q)⟩
 refine codeAny_call_function l.depth (z _ _ F) rfl S.co S.gen rfl (PySem.W.codeRec_of z j) (B _ _ _ _ ?_)
 refine wpAny_newFunctionEnv_cells S.kind d fun env he s1 x=>?_
 subst he
 refine ⟨lim.keeps x.toInCall.keep,codeAny_func ?_⟩
 obtain ⟨t,C,L⟩:=c A outer s H vs Q E (l.deeper _) h
 have I:Inv (de CX P w K mg base N qual scope f a A outer s H E) [] (fg N vs) H s1:=mr S l.hd i D r x
 refine wpAny_mono (C [] s1 (fg N vs) H _ I L) (fun fl s' g=>?_) fun e s' g=>g
 have fin:∀ {σ':St} {H':Hp} {v:V} {u:Value},Inv (de CX P w K mg base N qual scope f a A outer s H E) [] σ' H' s'->RelV v u->Q v H'->CE outer P w H s Q u s' :=
  fun {σ' H' v u} J m q=>⟨v,H',J.os,J.bare,J.base,J.hok,m,q⟩
 cases fl with
 | ret u =>
  obtain ⟨v,σ',H',J,m,q⟩:=g
  exact fin J m q
 | next =>
  obtain ⟨σ',H',J,q⟩:=g
  exact fin (v:=V.non) (u:=Value.none) J rfl q
 | brk =>
  obtain ⟨_,_,_,q⟩:=g
  exact False.elim q
 | cont =>
  obtain ⟨_,_,_,q⟩:=g
  exact False.elim q
end L2
namespace L2
open PySem PySem.Spec PyProof.Rows
section
variable {X:Cx} {x:Str} {p pos:Pos} {e:Expr} {es:List Expr} {t:TA} {id T:String} {r:List V->Hp->VK->Prop}
def tCB (r:List V->Hp->VK->Prop) (t:TA):TE:=fun σ H Q=>t σ H fun vs H1=>r vs H1 Q
theorem kI (f:cI X (.builtin id) r) (j:Gl X x) (hm:X.mg x=none) (g:bootBuiltins x=some (.builtin id)) (l:PA X (e :: es) t) (k:x ≠ "__name__":=by decide) (b:(x == ("__debug__":Str))=false:=by decide)
  (he:starEach (e :: es) X.env=(false,eval e X.env) :: starEach es X.env:=by rfl) (a:(backTo pos (starEach es X.env)).any (·.1)=false:=by rfl):PE X (.Call (.Name x p) (e :: es) [] pos) (tCB r t):=by
 intro pins s σ H Q I h
 refine wpAny_Call_Name_kw (jr I j hm g ?_ k b)
 exact PyProof.Rows.callWith_builtin1 (thn (l pos pins s σ H _ I h) fun us s1 ⟨vs,H1,c,d,i⟩=>f pins s1 σ H1 vs us Q c d i) he a
theorem t7 (f:cI X (.type T) r) (j:Gl X x) (hm:X.mg x=none) (g:bootBuiltins x=some (.type T)) (l:PA X (e :: es) t) (k:x ≠ "__name__":=by decide) (b:(x == ("__debug__":Str))=false:=by decide)
  (he:starEach (e :: es) X.env=(false,eval e X.env) :: starEach es X.env:=by rfl) (a:(backTo pos (starEach es X.env)).any (·.1)=false:=by rfl):PE X (.Call (.Name x p) (e :: es) [] pos) (tCB r t):=by
 intro pins s σ H Q I h
 refine wpAny_Call_Name_kw (jr I j hm g ?_ k b)
 exact PyProof.Rows.callWith_type1 (thn (l pos pins s σ H _ I h) fun us s1 ⟨vs,H1,c,d,i⟩=>f pins s1 σ H1 vs us Q c d i) he a
end
end L2
namespace HT
open PySem PyProof.Rows
def lexLt:List Int->List Int->Bool
 | [],[]=>false
 | [],_ :: _=>true
 | _ :: _,[]=>false
 | x :: xs,y :: ys=>if x=y then lexLt xs ys else decide (x < y)
theorem lexLt_cons (x y:Int) (xs ys:List Int):lexLt (x :: xs) (y :: ys)=if x=y then lexLt xs ys else decide (x < y):=rfl
theorem lexLt_nil_nil:lexLt [] []=false:=rfl
theorem lexLt_nil_cons (y:Int) (ys:List Int):lexLt [] (y :: ys)=true:=rfl
theorem lexLt_cons_nil (x:Int) (xs:List Int):lexLt (x :: xs) []=false:=rfl
theorem xv (A:Around) (s:Shared) (a:Int) (t:Tok) (c:Int) (u:Tok):∃ e,SeqAt.EqAt A s (.int a t) (.int c u) e/\(e=true ↔ a=c) :=
 ⟨(a == c),SeqAt.EqAt.int_int a t c u,by simp⟩
theorem rcLt_int (A:Around) (s:Shared) (a:Int) (t:Tok) (c:Int) (u:Tok) (prog:Program) (w:World) (E:Value->Shared->Prop) (Q:Value->Shared->Prop) (h:Q (.bool (decide (a < c))) s) :
  wpAny (model prog w) A (richCompare .Lt (.int a t) (.int c u)) Q E s :=
 (PyProof.Rows.lt_int h:wpAny (model prog w) A (compareOp .Lt (.int a t) (.int c u)) Q E s)
section
open PySem.SeqAt
open PySem.AutoSeq1 (wpAny_loadPart')
open PySem.MeetsSeq PySem.MeetsSeq2 PySem.MeetsSeq3
theorem tuple_lt_ints (l b:Addr) (items f:Array Value) (n H:Nat) (dd z:Option Addr) (sl B:Array (Option Value)) (ns ms:List Int) (hi:IntsAre items.toList ns) (D:IntsAre f.toList ms) :
  Meets (Builtin.«tuple.__lt__» ⟨[.ref l,.ref b],[]⟩)
   (fun _ R s=>s.heap.get? l=some { cls:=.type "tuple",dict:=dd,data:=.seq items n,slots:=sl }/\s.heap.get? b=some { cls:=.type "tuple",dict:=z,data:=.seq f H,slots:=B } /\
    R (.ok (.ret (.bool (lexLt ns ms)))) s) :=
 .of_wp fun prog w A R s h=>by
  obtain ⟨v,g,d,tk,os⟩:=s;obtain ⟨G,F,h⟩:=h
  have f2:=AutoSeq1.sub_tuple_tuple
  have J:items.size=ns.length:=by rw [<- hi.length];simp
  have I:f.size=ms.length:=by rw [<- D.length];simp
  wp_walk using wpAny_loadPart' G,wpAny_loadPart' F,wpAny_forIn_list _ (fun rest b s'=>b.1=none/\s'=⟨v,g,d,tk,os⟩/\∃ (vs ws:List Value) (j i:List Int),rest=vs.zip ws /\
   IntsAre vs j/\IntsAre ws i/\j.length+f.size=i.length+items.size/\R (.ok (.ret (.bool (lexLt j i)))) ⟨v,g,d,tk,os⟩) _
  case turn =>
   rintro ⟨y,x⟩ rest b s' ⟨p,rfl,vs,ws,j,i,hz,r,k,hlen,m⟩
   cases r with
   | nil=>rw [List.zip_nil_left] at hz;cases hz
   | cons a t hvi' =>
    cases k with
    | nil=>rw [List.zip_nil_right] at hz;cases hz
    | cons c u hwi' =>
     rw [List.zip_cons_cons] at hz
     injection hz with hyx hrest
     injection hyx with hy hx
     subst hy hx
     rw [lexLt_cons] at m
     simp only [Du] at hlen
     obtain ⟨e,he,o⟩:=xv A.in1 ⟨v,g,d,tk,os⟩ a t c u
     refine CY (he prog w _ _ ?_)
     cases e with
     | true =>
      rw [if_pos (o.mp rfl)] at m
      wp_walk
      exact ⟨rfl,rfl,_,_,_,_,hrest,hvi',hwi',by omega,m⟩
     | false =>
      rw [if_neg (fun q=>absurd (o.mpr q) Dk)] at m
      have C:=rcLt_int A.in1 ⟨v,g,d,tk,os⟩ a t c u prog w
      wp_walk using C
      exact ⟨_,rfl,by simpa using m⟩
  case fin =>
   rintro ⟨b1,b2⟩ s' ⟨p,rfl,vs,ws,j,i,hz,r,k,hlen,m⟩
   simp only at p
   subst p
   have E:lexLt j i=decide (items.size < f.size):=by
    cases r with
    | nil =>
     cases k with
     | nil =>
      simp only [List.length_nil] at hlen
      rw [lexLt_nil_nil]
      exact (Dp (by omega)).symm
     | cons c u hw =>
      simp only [List.length_nil,Du] at hlen
      rw [lexLt_nil_cons]
      exact (Do (by omega)).symm
    | cons a t E =>
     cases k with
     | nil =>
      simp only [List.length_nil,Du] at hlen
      rw [lexLt_cons_nil]
      exact (Dp (by omega)).symm
     | cons c u hw =>
      rw [List.zip_cons_cons] at hz
      cases hz
   rw [E] at m
   wp_walk
   exact ⟨_,rfl,by simpa [Builtin.Tuple.tupleCompareSizes] using m⟩
  case h =>
   exact ⟨rfl,rfl,items.toList,f.toList,ns,ms,rfl,hi,D,by omega,h⟩
end
section
variable {prog:Program} {w:World} {A:Around} {E:Value->Shared->Prop} {s:Shared}
theorem cat_tup (l:IsTup s.heap t vs.toArray) (m:IsTup s.heap b ws.toArray) (i:vs ≠ []) (h1:ws=[]->Q (.ref t) s) (h2:ws ≠ []->Q (.ref s.heap.objs.size) { s with heap:=s.heap.push { cls:=.type "tuple",data:=.seq (vs ++ ws).toArray } }) (hsz:vs.length+ws.length<=sizeLine):wpAny (model prog w) A (binaryOp .Add (.ref t) (.ref b)) Q E s:=by
 obtain ⟨⟨cls,dd,data,sl⟩,g,h,n,hd⟩:=id l
 obtain ⟨⟨j,f,data2,d⟩,a,c,k,hd2⟩:=id m
 simp only at h hd c hd2
 subst h hd c hd2
 have e:vs.toArray ++ ws.toArray=(vs ++ ws).toArray:=by simp
 by_cases hw:ws=[]
 ·exact concat_meets ⟨_,g,rfl⟩ ⟨_,a,rfl⟩ noFill_tuple_add seq_tuple_add PySem.F.slot_tuple_add PySem.F.entry_tuple_add (PySem.F.args_tuple_add_2 _ _)
   (tuple_addW1 t b vs.toArray ws.toArray n k dd f sl d (by simpa using i) (by simp [hw])) ⟨g,a,h1 hw⟩
 ·refine concat_meets ⟨_,g,rfl⟩ ⟨_,a,rfl⟩ noFill_tuple_add seq_tuple_add PySem.F.slot_tuple_add PySem.F.entry_tuple_add (PySem.F.args_tuple_add_2 _ _)
   (tuple_addW2 t b vs.toArray ws.toArray n k dd f sl d (by simpa using i) (by simpa using hw) (by rw [Dm,Dm];exact hsz)) ⟨g,a,?_⟩
  rw [e]
  exact h2 hw
def sIx (n d:Nat):Option Int->Nat
 | none=>d
 | some v=>if v < 0 then (v+(n:Int)).toNat else min v.toNat n
theorem A5 (n d:Nat) (hd:d<=n) (o:Option Int):sIx n d o<=n:=by
 cases o with
 | none=>exact hd
 | some v =>
  show (if v < 0 then (v+(n:Int)).toNat else min v.toNat n)<=n
  by_cases a:v < 0
  ·rw [if_pos a];omega
  ·rw [if_neg a];exact Nat.min_le_right _ _
theorem sT (v:Int) (n d:Nat):(if v < 0 then max (v+(n:Int)) 0 else min v (n:Int))=((sIx n d (some v):Nat):Int):=by
 show (if v < 0 then max (v+(n:Int)) 0 else min v (n:Int))=(((if v < 0 then (v+(n:Int)).toNat else min v.toNat n):Nat):Int)
 by_cases a:v < 0
 ·simp only [if_pos a];omega
 ·simp only [if_neg a];omega
theorem rE (lo hi:Option Int) (n:Nat):Builtin.Slice.sliceAdjust lo hi 1 (n:Int)=(((sIx n 0 lo:Nat):Int),((sIx n n hi:Nat):Int)):=by
 have h1:¬ ((1:Int) < 0):=by omega
 unfold Builtin.Slice.sliceAdjust
 simp only [h1,if_false]
 refine Prod.ext ?_ ?_
 ·cases lo with
  | none=>rfl
  | some v=>exact sT v n 0
 ·cases hi with
  | none=>rfl
  | some v=>exact sT v n n
theorem qE (i j:Nat):Builtin.Slice.slicePlaces (i:Int) (j:Int) 1=j - i:=by
 unfold Builtin.Slice.slicePlaces
 have h1:(1:Int) > 0:=by omega
 simp only [h1,if_true,Int.ediv_one]
 split <;> omega
theorem kr (p:IsPart v o) (h:Q o s):wpAny (model prog w) A (Builtin.Slice.slicePartIndex v) Q E s:=by
 cases p with
 | none=>exact slicePart_none h
 | int i t=>exact slicePart_int h
theorem d9 {sl:Addr} {c d:Value} {lo hi:Option Int} {n:Nat} (f:s.heap.IsSliceOf sl c d .none) (pl:IsPart c lo) (pu:IsPart d hi) (h:Q (((sIx n 0 lo:Nat):Int),1,sIx n n hi - sIx n 0 lo) s):wpAny (model prog w) A (Builtin.Slice.sliceApplied (.ref sl) (pure (n:Int))) Q E s:=by
 obtain ⟨os,b,e,a⟩:=id f
 unfold Builtin.Slice.sliceApplied Builtin.Slice.sliceFields
 refine CY (CY (wpAny_field b a (x:=c) rfl (CY (wpAny_field b a (x:=d) rfl (CY (wpAny_field b a (x:=.none) rfl (CZ ?_)))))))
 refine CY (slicePart_none ?_)
 show wpAny _ _ (if ((1:Int) == 0)=true then _ else _) _ _ s
 rw [if_neg (by decide)]
 refine CY (kr pl (CY (kr pu (CY (CZ ?_)))))
 show wpAny _ _ (match Builtin.Slice.sliceAdjust lo hi 1 (n:Int) with | (lo,hi)=>pure (lo,(1:Int),Builtin.Slice.slicePlaces lo hi 1)) _ _ s
 rw [rE lo hi n]
 show wpAny _ _ (pure (((sIx n 0 lo:Nat):Int),(1:Int),Builtin.Slice.slicePlaces ((sIx n 0 lo:Nat):Int) ((sIx n n hi:Nat):Int) 1)) _ _ s
 rw [qE]
 exact CZ h
theorem wq (xs:Array Value) (i k:Nat):((List.range k).filterMap fun (m:Nat)=>xs[((i:Int)+(m:Int) * 1).toNat]?).toArray=((xs.toList.drop i).take k).toArray:=by
 have e:(fun (m:Nat)=>xs[((i:Int)+(m:Int) * 1).toNat]?)=fun m=>xs[i+m]?:=by
  funext m
  have:((i:Int)+(m:Int) * 1).toNat=i+m:=by omega
  rw [this]
 rw [e]
 have:=pick_run xs i k
 rw [List.filterMap_map] at this
 have a:((fun x=>xs[x]?) ∘ fun x=>i+x)=fun m=>xs[i+m]?:=rfl
 rw [a] at this
 rw [this]
theorem getItem_tuple_cut {lo hi:Option Int} (b:IsTup s.heap t items) (g:s.heap.IsSliceOf sl vl vu .none) (pl:IsPart vl lo) (pu:IsPart vu hi) (hw:¬ (sIx items.size 0 lo=0/\sIx items.size items.size hi=items.size)) (h:Q (.ref s.heap.objs.size) { s with heap:=s.heap.push { cls:=.type "tuple",data:=.seq ((items.toList.drop (sIx items.size 0 lo)).take (sIx items.size items.size hi - sIx items.size 0 lo)).toArray } }) (hsz:items.size<=sizeLine):wpAny (model prog w) A (getItem (.ref t) (.ref sl)) Q E s:=by
 have a:sizeOk (.seq ((items.toList.drop (sIx items.size 0 lo)).take (sIx items.size items.size hi - sIx items.size 0 lo)).toArray):=by
  show ((items.toList.drop (sIx items.size 0 lo)).take (sIx items.size items.size hi - sIx items.size 0 lo)).toArray.size<=sizeLine
  rw [Dm,Dv,List.length_drop,Array.length_toList]
  omega
 have j:sIx items.size items.size hi<=items.size:=A5 _ _ (Dj _) hi
 obtain ⟨os,d,c,i⟩:=id g
 have f:s.TypeIs (.ref sl) "slice":=⟨os,d,c⟩
 unfold getItem
 try with_reducible refine C0 ?_
 first | refine CY (CZ ?_) | skip
 refine CY (wpAny_sequenceKey b.typeIs (by decide) ?_)
 refine CY (wpAny_callSpecial?_slot (name:=Str.ofString "__getitem__") b.typeIs PyProof.Rows.slot_tuple_getitem
  (wpAny_call_entry PyProof.Rows.slot_tuple_getitem b.typeIs entry_tuple_getitem ?_ (args_tuple_getitem _ _)))
 show wpAny _ _ (Builtin.Tuple.tupleItemsOf (.ref t) >>= _) _ _ s
 refine CY (tupleItemsOf_ b ?_)
 refine CY (wpAny_typeOf f ?_)
 rw [if_pos (by decide)]
 refine CY (d9 g pl pu ?_)
 have e:¬ ((((sIx items.size 0 lo:Nat):Int) == 0 && (1:Int) == 1 && (sIx items.size items.size hi - sIx items.size 0 lo) == items.size)=true):=by
  intro q
  rw [Bool.and_eq_true,Bool.and_eq_true] at q
  have l:((sIx items.size 0 lo:Nat):Int)=0:=eq_of_beq q.1.1
  have k:sIx items.size items.size hi - sIx items.size 0 lo=items.size:=eq_of_beq q.2
  exact hw ⟨by omega,by omega⟩
 show wpAny _ _ (if (((sIx items.size 0 lo:Nat):Int) == 0 && (1:Int) == 1 && (sIx items.size items.size hi - sIx items.size 0 lo) == items.size)=true then _ else _) _ _ s
 rw [if_neg e,wq]
 first
  | exact CY (m:=Builtin.Tuple.tupleExact _) (wpAny_newObj_type (CZ ⟨_,rfl,CZ h⟩) a)
  | exact CY (m:=Builtin.Tuple.tupleExact _) (wpAny_newObj_type (CY (CZ (CZ ⟨_,rfl,CZ h⟩))) a)
  | exact CY (CY (m:=Builtin.Tuple.tupleExact _) (wpAny_newObj_type (CZ (CZ ⟨_,rfl,CZ h⟩)) a))
  | exact CY (CY (m:=Builtin.Tuple.tupleExact _) (wpAny_newObj_type (CZ ⟨_,rfl,CZ h⟩) a))
end
end HT
namespace L2
open PySem PySem.Spec PyProof.Rows
abbrev TO:=St->Hp->(Option Int->Hp->Prop)->Prop
def PO (X:Cx) (e:Option Expr) (t:TO):Prop :=
 ∀ (pins:List (Addr × Obj)) (s:Shared) (σ:St) (H:Hp) (Q:Option Int->Hp->Prop),Inv X pins σ H s->t σ H Q ->
  wpAny (model X.prog X.w) X.A (evalPart e X.env) (fun u s'=>∃ o H',Inv X pins σ H' s'/\IsPart u o/\Q o H') X.xe s
def yh:TO:=fun _ H Q=>Q none H
def tPart (t:TE):TO:=fun σ H Q=>t σ H fun x H1=>∃ i,x=.int i/\Q (some i) H1
theorem qW:∀ {us:List Value},Vals (ns.map V.int) us->IntsAre us ns:=by
 induction ns with
 | nil=>intro us r;rw [List.map_nil] at r;cases r;exact .nil
 | cons n ns ih =>
  intro us r
  rw [Dn] at r
  cases r with
  | cons r1 r2 =>
   obtain ⟨t,e⟩:=r1
   subst e
   exact .cons n t (ih r2)
section
variable {X:Cx} {e:Expr} {te:TE} {lo hi:Option Expr} {tl th:TO} {pos p2:Pos}
theorem y6:PO X none yh:=by
 intro pins s σ H Q I h
 rw [evalPart_none]
 exact CZ ⟨none,H,I,.none,h⟩
theorem yZ (h:PE X e te):PO X (some e) (tPart te):=by
 intro pins s σ H Q I hw
 rw [evalPart_some]
 refine thn (h pins s σ H _ I hw) fun u s1 ⟨x,H1,a,b,c⟩=>?_
 obtain ⟨i,rfl,q⟩:=c
 obtain ⟨t,rfl⟩:=b
 exact ⟨some i,H1,a,.int i t,q⟩
def SlR (X:Cx) (r:V->Option Int->Option Int->Hp->VK->Prop):Prop :=
 ∀ (pins:List (Addr × Obj)) (s:Shared) (σ:St) (H:Hp) (x:V) (v a b:Value) (lo hi:Option Int) (sl:Addr) (Q:VK),Inv X pins σ H s->RelV x v->s.heap.IsSliceOf sl a b .none->IsPart a lo->IsPart b hi->r x lo hi H Q ->
  ∃ T id,typeLookup (.type T) "__getitem__"=pure (some (.builtin id))/\s.TypeIs v T/\wpAny (model X.prog X.w) X.A (getItem v (.ref sl)) (EP X pins σ Q) X.xe s
theorem SlR.or (h:SlR X r) (h':SlR X r'):SlR X (fun x lo hi H Q=>r x lo hi H Q\/r' x lo hi H Q):=by
 intro pins s σ H x v b c lo hi sl Q I a d pl pu q
 rcases q with q | q
 ·exact h pins s σ H x v b c lo hi sl Q I a d pl pu q
 ·exact h' pins s σ H x v b c lo hi sl Q I a d pl pu q
def tSl (r:V->Option Int->Option Int->Hp->VK->Prop) (te:TE) (tl th:TO):TE:=fun σ H Q=>te σ H fun x H1=>tl σ H1 fun l H2=>th σ H2 fun u a=>r x l u a Q
theorem wu (f:SlR X r) (he:PE X e te) (k:PO X lo tl) (hu:PO X hi th):PE X (.Subscript e (.Slice lo hi none p2) pos) (tSl r te tl th):=by
 intro pins s σ H Q I h
 refine Subscript_ (thn (he pins s σ H _ I h) fun v s1 ⟨x,H1,p,g,i⟩=>?_)
 refine wpAny_Slice (thn (k pins s1 σ H1 _ p i) fun c s2 ⟨l,H2,z,pl,n⟩=>thn (hu pins s2 σ H2 _ z n) fun a s3 ⟨u,d,t,pu,y⟩=>?_)
 rw [evalPart_none]
 refine CZ ?_
 have B:Inv X pins σ d { s3 with heap:=s3.heap.push { cls:=.type "slice",data:=.fields #[c,a,.none] } }:=t.kept (t':=s3.toks) fun b ob q=>C4 _ q
 obtain ⟨T,id,o,m,j⟩:=f pins { s3 with heap:=s3.heap.push { cls:=.type "slice",data:=.fields #[c,a,.none] } } σ d x v c a l u s3.heap.objs.size Q B g (Heap.IsSliceOf.new ..) pl pu y
 show wpAny (model X.prog X.w) X.A (subscriptTail e (.Slice lo hi none p2) v (.ref s3.heap.objs.size)) (EP X pins σ Q) X.xe { s3 with heap:=s3.heap.push { cls:=.type "slice",data:=.fields #[c,a,.none] } }
 exact tail_any (ops:=[.ref s3.heap.objs.size,v]) m o j (by with_unfolding_all rfl)
def pX (xs:List V) (lo hi:Option Int):List V:=(xs.drop (HT.sIx xs.length 0 lo)).take (HT.sIx xs.length xs.length hi - HT.sIx xs.length 0 lo)
theorem jS (xs:List V) (lo hi:Option Int):(pX xs lo hi).length<=xs.length:=by
 unfold pX
 rw [Dv,List.length_drop]
 omega
def Bu (K:FG):V->Option Int->Option Int->Hp->VK->Prop:=fun x lo hi H Q=>∃ a xs,x=.ref a/\SqT K H a xs /\
 ¬ (HT.sIx xs.length 0 lo=0/\HT.sIx xs.length xs.length hi=xs.length)/\∀ p,H p=none->Q (.ref p) (upd H p (.tup (pX xs lo hi)))
theorem sl_tup:SlR X (Bu X.K):=by
 intro pins s σ H x v i j lo hi sl Q I e f pl pu h
 obtain ⟨a,xs,rfl,g,hw,q⟩:=h
 cases e
 obtain ⟨c,r,d,hz⟩:=I.tuple g
 have hlen:c.toArray.size=xs.length:=by rw [Dm];exact r.length.symm
 refine ⟨"tuple",_,PyProof.Rows.slot_tuple_getitem.lookup,d.typeIs,?_⟩
 refine HT.getItem_tuple_cut d f pl pu (by rw [hlen];exact hw) ?_ (by rw [hlen];exact hz)
 rw [hlen]
 refine ⟨.ref s.heap.objs.size,_,I.laid (t':=s.toks) (o:=.tup (pX xs lo hi)) (fun b ob q=>C4 _ q) (Dj _) ?_,rfl,q _ (I.hok.fresh (Dj _))⟩
 exact ⟨DF (jS xs lo hi) hz,_,(r.drop (HT.sIx xs.length 0 lo)).take (HT.sIx xs.length xs.length hi - HT.sIx xs.length 0 lo),IsTupD.new _ _⟩
def r9 (K:FG):R2:=fun x y H Q=>∃ a b xs ys,x=.ref a/\y=.ref b/\SqT K H a xs/\SqT K H b ys/\xs ≠ []/\xs.length+ys.length<=sizeLine /\
 (ys=[]->Q (.ref a) H)/\(ys ≠ []->∀ p,H p=none->Q (.ref p) (upd H p (.tup (xs ++ ys))))
theorem Vals.nil_iff (r:Vals xs us):us=[] ↔ xs=[]:=by
 cases r with
 | nil=>simp
 | cons _ _=>simp
theorem op_catT:OpR X (binaryOp .Add) (r9 X.K):=by
 intro pins s σ H x y v u Q I k f h
 obtain ⟨a,b,xs,ys,rfl,rfl,n,l,p,hz,m,g⟩:=h
 cases k
 cases f
 obtain ⟨i,d,j,_⟩:=I.tuple n
 obtain ⟨e,c,p2,_⟩:=I.tuple l
 refine HT.cat_tup j p2 (fun z=>p (d.nil_iff.mp z)) (fun z=>⟨.ref a,H,I,rfl,m (c.nil_iff.mp z)⟩) (fun z=>?_) (by rw [<- d.length,<- c.length];exact hz)
 refine ⟨.ref s.heap.objs.size,_,I.laid (t':=s.toks) (o:=.tup (xs ++ ys)) (fun b ob q=>C4 _ q) (Dj _) ?_,rfl,g (fun w=>z (c.nil_iff.mpr w)) _ (I.hok.fresh (Dj _))⟩
 exact ⟨by rw [Dt];exact hz,_,d.append c,IsTupD.new _ _⟩
end
end L2
namespace L2
open PySem PySem.Spec PyProof.Rows
def ixN (n:Nat) (i:Int):Option Nat:=if 0<=i then (if i < n then some i.toNat else none) else if -(n:Int)<=i then some (i+n).toNat else none
def atI {α:Type} (xs:List α) (i:Int):Option α:=(ixN xs.length i).bind fun j=>xs[j]?
theorem sy {n:Nat} {i:Int} {j:Nat} (h:ixN n i=some j):seqIndex? i n=some j/\j < n/\-(n:Int)<=i/\i < n:=by
 unfold ixN at h
 by_cases h0:0<=i
 ·rw [if_pos h0] at h
  by_cases h1:i < n
  ·rw [if_pos h1] at h
   have e:i.toNat=j:=DJ h
   exact ⟨by rw [seqIndex_of h0 h1,e],by omega,by omega,h1⟩
  ·rw [if_neg h1] at h;cases h
 ·rw [if_neg h0] at h
  by_cases h1:-(n:Int)<=i
  ·rw [if_pos h1] at h
   have e:(i+n).toNat=j:=DJ h
   exact ⟨by rw [seqIndex_neg (by omega) h1,e],by omega,h1,by omega⟩
  ·rw [if_neg h1] at h;cases h
theorem sZ {i:Int} (h:atI xs i=some v):∃ j,seqIndex? i xs.length=some j/\xs[j]?=some v/\j < xs.length/\-(xs.length:Int)<=i/\i < xs.length:=by
 unfold atI at h
 cases e:ixN xs.length i with
 | none=>rw [e] at h;cases h
 | some j =>
  rw [e] at h
  obtain ⟨h1,h2,h3,a⟩:=sy e
  exact ⟨j,h1,h,h2,h3,a⟩
def s9 (b:Expr):Prop:=∀ o i,subscripted b false o i=operate [o,i] (getItem o i)
def IxR (X:Cx) (r:R2):Prop :=
 ∀ (value slice:Expr) (pins:List (Addr × Obj)) (s:Shared) (σ:St) (H:Hp) (x y:V) (v u:Value) (Q:VK),Inv X pins σ H s->RelV x v->RelV y u->r x y H Q ->
  subscripted slice false v u=operate [v,u] (getItem v u)->wpAny (model X.prog X.w) X.A (subscriptTail value slice v u) (EP X pins σ Q) X.xe s
def MtR (X:Cx) (id:String) (r:V->List V->Hp->VK->Prop):Prop :=
 ∀ (pins:List (Addr × Obj)) (s:Shared) (σ:St) (H:Hp) (x:V) (xs:List V) (v:Value) (us:List Value) (Q:VK),Inv X pins σ H s->RelV x v->Vals xs us->r x xs H Q ->
  wpAny (model X.prog X.w) X.A (call (.builtin id) (v :: us)) (EP X pins σ Q) X.xe s
section
variable {X:Cx} {a b:Expr} {ta tb:TE} {pos:Pos}
theorem IxR.or (h:IxR X r) (h':IxR X r'):IxR X (fun x y H Q=>r x y H Q\/r' x y H Q):=by
 intro value slice pins s σ H x y v u Q I b a q c
 rcases q with q | q
 ·exact h value slice pins s σ H x y v u Q I b a q c
 ·exact h' value slice pins s σ H x y v u Q I b a q c
theorem pe_ix (d:IxR X r) (j:PE X a ta) (e:PE X b tb) (g:s9 b):PE X (.Subscript a b pos) (tOp r ta tb):=by
 intro pins s σ H Q I h
 exact Subscript_ (CP j e I h fun v u s2 x y H2 i f c q=>d a b pins s2 σ H2 x y v u Q i f c q (g _ _))
def we (K:FG):R2:=fun x y H Q=>∃ p xs i v,x=.ref p/\y=.int i/\SqL K H p xs/\atI xs i=some v/\Q v H
def wd (K:FG):R2:=fun x y H Q=>∃ p xs i v,x=.ref p/\y=.int i/\SqT K H p xs/\atI xs i=some v/\Q v H
theorem ix_list:IxR X (we X.K):=by
 intro value slice pins s σ H x y v u Q I n f h d
 obtain ⟨p,xs,i,z,rfl,rfl,m,he,q⟩:=h
 cases n
 obtain ⟨t,rfl⟩:=f
 obtain ⟨a,r,pl,hz⟩:=I.list m
 obtain ⟨j,h1,h2,h3,l,g⟩:=sZ he
 obtain ⟨w,e,b⟩:=r.get h2
 have k:=r.length
 have o:=nB
 have fin:EP X pins σ Q w s:=⟨z,H,I,b,q⟩
 by_cases h0:0<=i
 ·have c:i.toNat=j:=by
   rw [seqIndex_of h0 g] at h1
   exact DJ h1
  exact item_listR pl.isList h0 (by omega) (by rw [c];simpa using e) fin d
 ·have c:(i+(a.toArray.size:Int)).toNat=j:=by
   rw [seqIndex_neg (by omega) l] at h1
   rw [Dm,<- k]
   exact DJ h1
  exact subscriptTail_builtinR (x:=w) pl.isList.typeIs slot_list_getitem.lookup
   (wpAny_getItem_list_neg (Q:=fun r s'=>r=w/\EP X pins σ Q r s') pl.isList (by omega) (by rw [Dm] <;> omega) (by omega) (by rw [c];simpa using e) ⟨rfl,fin⟩) d
theorem Cm:IxR X (wd X.K):=by
 intro value slice pins s σ H x y v u Q I k b h d
 obtain ⟨p,xs,i,z,rfl,rfl,g,he,q⟩:=h
 cases k
 obtain ⟨t,rfl⟩:=b
 obtain ⟨c,r,pl,hz⟩:=I.tuple g
 obtain ⟨j,h1,h2,h3,m,l⟩:=sZ he
 obtain ⟨w,f,a⟩:=r.get h2
 have e:=r.length
 have n:=nB
 have fin:EP X pins σ Q w s:=⟨z,H,I,a,q⟩
 exact subscriptTail_builtinR (x:=w) pl.typeIs slot_tuple_getitem.lookup
  (getItem_tuple (j:=j) (Q:=fun r s'=>r=w/\EP X pins σ Q r s') pl (by omega) (by omega) (by rw [Dm,<- e];exact h1) (by simpa using f) ⟨rfl,fin⟩) d
theorem qL (a:List Value) (n j:Nat) (u:Value):Obj.mapSeq (·.setIfInBounds j u) { cls:=.type "list",data:=.seq a.toArray n } = { cls:=.type "list",data:=.seq (a.set j u).toArray n }:=by
 simp [Obj.mapSeq]
theorem Inv.lst {pins:List (Addr × Obj)} {σ:St} {H:Hp} {s:Shared} {p:Addr} {xs:List V} (I:Inv X pins σ H s) (h:H p=some (.lst xs)) :
  ∃ (a:List Value) (n:Nat),Vals xs a/\s.heap.get? p=some { cls:=.type "list",data:=.seq a.toArray n }/\xs.length<=sizeLine:=by
 obtain ⟨z,a,n,r,e⟩:=I.hok p _ h
 exact ⟨a,n,r,e,z⟩
theorem Inv.lstUpd {a its':List Value} {n c:Nat} (I:Inv X pins σ H s) (h:H p=some (.lst xs)) (d:s.heap.get? p=some { cls:=.type "list",data:=.seq a.toArray n }) (hf:f { cls:=.type "list",data:=.seq a.toArray n } = { cls:=.type "list",data:=.seq its'.toArray c }) (r:Vals ys its') (hz:ys.length<=sizeLine) (t:Nat) :
  Inv X pins σ (upd H p (.lst ys)) { s with heap:=s.heap.update p f,toks:=t }:=by
 have e:(s.heap.update p f).get? p=some { cls:=.type "list",data:=.seq its'.toArray c }:=by
  rw [Ds f d (by rw [hf] <;> rfl),hf]
 refine I.write (x:=p) (e:=p) (by rw [h];trivial) (.inl rfl) (fun b u g q=>(DC _ _ (Ne.symm g)).trans q) ⟨_,e⟩ ?_
 exact ⟨hz,its',c,r,e⟩
def rX:V->V->V->Hp->(Hp->Prop)->Prop:=fun o i v H Q=>∃ p xs k j,o=.ref p/\i=.int k/\H p=some (.lst xs)/\ixN xs.length k=some j/\Q (upd H p (.lst (xs.set j v)))
theorem vz:xU X rX:=by
 intro pins s σ H o i v ov y u Q I w l x h
 obtain ⟨p,xs,k,j,rfl,rfl,f,m,q⟩:=h
 cases w
 obtain ⟨t,rfl⟩:=l
 obtain ⟨a,n,r,d,hz⟩:=I.lst f
 obtain ⟨h1,h2,h3,g⟩:=sy m
 have c:=r.length
 have z:=nB
 have e:Inv X pins σ (upd H p (.lst (xs.set j v))) { s with heap:=s.heap.update p (Obj.mapSeq (·.setIfInBounds j u)) } :=
  I.lstUpd f d (qL a n j u) (r.set x j) (by rw [List.length_set];exact hz) s.toks
 by_cases h0:0<=k
 ·have b:k.toNat=j:=by
   rw [seqIndex_of h0 g] at h1
   exact DJ h1
  exact PySem.W.ki_setAt d h0 (by omega) (by rw [Dm,<- c];exact g) (by rw [b];exact ⟨_,e,q⟩)
 ·have b:(k+(a.toArray.size:Int)).toNat=j:=by
   rw [seqIndex_neg (by omega) h3] at h1
   rw [Dm,<- c]
   exact DJ h1
  exact PySem.W.ki_setBack d (by omega) (by rw [Dm,<- c];exact h3) (by omega) (by rw [b];exact ⟨_,e,q⟩)
theorem mS (lo hi:Option Int) (n:Nat):(sliceBounds lo hi none n).1=((HT.sIx n 0 lo:Nat):Int)/\(sliceBounds lo hi none n).2.1=((HT.sIx n n hi:Nat):Int)/\(sliceBounds lo hi none n).2.2=1:=by
 refine ⟨?_,?_,rfl⟩
 ·cases lo with
  | none=>simp [sliceBounds,HT.sIx]
  | some i =>
   simp only [sliceBounds,HT.sIx,Option.getD_none,show (1:Int) > 0 by decide,if_true]
   by_cases h:i < 0
   ·simp only [h,if_true] <;> omega
   ·simp only [h,if_false] <;> omega
 ·cases hi with
  | none=>simp [sliceBounds,HT.sIx]
  | some i =>
   simp only [sliceBounds,HT.sIx,Option.getD_none,show (1:Int) > 0 by decide,if_true]
   by_cases h:i < 0
   ·simp only [h,if_true] <;> omega
   ·simp only [h,if_false] <;> omega
theorem lu (a:List Value) (lo hi:Option Int):slicePick a.toArray lo hi none=((a.drop (HT.sIx a.length 0 lo)).take (HT.sIx a.length a.length hi - HT.sIx a.length 0 lo)).toArray:=by
 obtain ⟨h1,h2,h3⟩:=mS lo hi a.toArray.size
 unfold slicePick
 rw [h1,h2,h3]
 simp only [sliceRange_one,pick_run,Dm] <;> rfl
def Bv (K:FG):V->Option Int->Option Int->Hp->VK->Prop:=fun x lo hi H Q=>∃ a xs,x=.ref a/\SqL K H a xs/\∀ p,H p=none->Q (.ref p) (upd H p (.lst (pX xs lo hi)))
theorem sl_list:SlR X (Bv X.K):=by
 intro pins s σ H x v i j lo hi sl Q I e f pl pu h
 obtain ⟨a,xs,rfl,g,q⟩:=h
 cases e
 obtain ⟨d,r,c,hz⟩:=I.list g
 have hlen:=r.length
 refine ⟨"list",_,slot_list_getitem.lookup,c.isList.typeIs,?_⟩
 refine wpAny_getItem_list_slice c.isList f pl pu .none (by simp) ?_ (by rw [Dm] <;> omega)
 rw [lu,<- hlen]
 refine ⟨.ref s.heap.objs.size,_,I.laid (t':=s.toks) (o:=.lst (pX xs lo hi)) (fun b ob q=>C4 _ q) (Dj _) ?_,rfl,q _ (I.hok.fresh (Dj _))⟩
 exact ⟨DF (jS xs lo hi) hz,_,0,(r.drop (HT.sIx xs.length 0 lo)).take (HT.sIx xs.length xs.length hi - HT.sIx xs.length 0 lo),Dc _ rfl⟩
def ig:V->Bool
 | .non=>true
 | .bl _=>true
 | .int _=>true
 | .str _=>true
 | _=>false
def eqV:V->V->Bool
 | .non,.non=>true
 | .bl a,.bl b=>a == b
 | .bl a,.int b=>(if a then 1 else 0) == b
 | .int a,.bl b=>a == (if b then 1 else 0)
 | .int a,.int b=>a == b
 | .str a,.str b=>a == b
 | _,_=>false
theorem CD (d:RelV y u) (c:RelV x v) (e:ig y=true) (fx:ig x=true):SeqAt.EqAt A s u v (eqV y x):=by
 cases y with
 | non =>
  cases d
  cases x with
  | non=>cases c;exact SeqAt.EqAt.same _
  | bl b=>cases c;exact SeqAt.EqAt.none_bool b
  | int b=>obtain ⟨t,rfl⟩:=c;exact SeqAt.EqAt.none_int b t
  | str b=>obtain ⟨t,rfl⟩:=c;exact SeqAt.EqAt.none_str b t
  | _=>exact absurd (show false=true from fx) Dk
 | bl a =>
  cases d
  cases x with
  | non=>cases c;exact SeqAt.EqAt.bool_none a
  | bl b=>cases c;exact SeqAt.EqAt.bool_bool a b
  | int b=>obtain ⟨t,rfl⟩:=c;exact SeqAt.EqAt.bool_int a b t
  | str b=>obtain ⟨t,rfl⟩:=c;exact SeqAt.EqAt.bool_str a b t
  | _=>exact absurd (show false=true from fx) Dk
 | int a =>
  obtain ⟨t',rfl⟩:=d
  cases x with
  | non=>cases c;exact SeqAt.EqAt.int_none a t'
  | bl b=>cases c;exact SeqAt.EqAt.int_bool a t' b
  | int b=>obtain ⟨t,rfl⟩:=c;exact SeqAt.EqAt.int_int a t' b t
  | str b=>obtain ⟨t,rfl⟩:=c;exact SeqAt.EqAt.int_str a t' b t
  | _=>exact absurd (show false=true from fx) Dk
 | str a =>
  obtain ⟨t',rfl⟩:=d
  cases x with
  | non=>cases c;exact SeqAt.EqAt.str_none a t'
  | bl b=>cases c;exact SeqAt.EqAt.str_bool a t' b
  | int b=>obtain ⟨t,rfl⟩:=c;exact SeqAt.EqAt.str_int a t' b t
  | str b=>obtain ⟨t,rfl⟩:=c;exact SeqAt.EqAt.str_str a t' b t
  | _=>exact absurd (show false=true from fx) Dk
 | _=>exact absurd (show false=true from e) Dk
def eqU (x:V) (u:Value):Bool:=match u with
 | .none=>eqV .non x
 | .bool b=>eqV (.bl b) x
 | .int i _=>eqV (.int i) x
 | .str z _=>eqV (.str z) x
 | _=>false
theorem xr (r:RelV y u) (f:ig y=true):eqU x u=eqV y x:=by
 cases y with
 | non=>cases r;rfl
 | bl b=>cases r;rfl
 | int i=>obtain ⟨t,rfl⟩:=r;rfl
 | str z=>obtain ⟨t,rfl⟩:=r;rfl
 | _=>exact absurd (show false=true from f) Dk
theorem oq:∀ {xs:List V} {us:List Value},Vals xs us->xs.all ig=true->us.any (eqU x)=xs.any fun y=>eqV y x
 | _,_,.nil,_=>rfl
 | y :: xs,u :: us,.cons r t,f=>by
  rw [List.all_cons,Bool.and_eq_true] at f
  rw [List.any_cons,List.any_cons,xr r f.1,oq t f.2]
theorem kQ (a:RelV x v) (fx:ig x=true):∀ {xs:List V} {us:List Value},Vals xs us->xs.all ig=true->∀ u ∈ us,SeqAt.EqAt A s u v (eqU x u)
 | _,_,.nil,_=>fun u hu=>by cases hu
 | y :: xs,u :: us,.cons r t,f=>fun b hu=>by
  rw [List.all_cons,Bool.and_eq_true] at f
  rcases C8.mp hu with rfl | hu
  ·rw [xr r f.1];exact CD r a f.1 fx
  ·exact kQ a fx t f.2 b hu
def inV (x:V) (xs:List V):Bool:=xs.any fun y=>eqV y x
def rIn (K:FG) (neg:Bool):R2:=fun x y H Q=>∃ p xs,y=.ref p/\(SqL K H p xs\/SqT K H p xs)/\ig x=true/\xs.all ig=true/\Q (.bl (if neg then !inV x xs else inV x xs)) H
theorem ni:OpR X (compareOp .NotIn) (rIn X.K true):=by
 intro pins s σ H x y v u Q I c d h
 obtain ⟨p,xs,rfl,b,fx,fs,q⟩:=h
 cases d
 rcases b with b | b
 ·obtain ⟨a,r,pl,hz⟩:=I.list b
  refine SeqAt.notIn_listAt (eqU x) pl.isList (fun w hw=>kQ c fx r fs w (by simpa using hw)) ⟨.bl _,H,I,rfl,?_⟩
  rw [show a.toArray.any (eqU x)=a.any (eqU x) by simp,oq r fs]
  exact q
 ·obtain ⟨a,r,pl,hz⟩:=I.tuple b
  refine SeqAt.notIn_tupleAt (eqU x) pl (fun w hw=>kQ c fx r fs w (by simpa using hw)) ⟨.bl _,H,I,rfl,?_⟩
  rw [show a.toArray.any (eqU x)=a.any (eqU x) by simp,oq r fs]
  exact q
theorem nY:cI X (.builtin "len") (fun xs H Q=>∃ p ys,xs=[.ref p]/\(SqL X.K H p ys\/SqT X.K H p ys)/\Q (.int ys.length) H):=by
 intro pins s σ H xs us Q I r h
 obtain ⟨p,ys,rfl,a,q⟩:=h
 obtain ⟨u,rfl,d⟩:=kh r
 cases d
 have e:=nB
 rcases a with a | a
 ·obtain ⟨b,c,pl,hz⟩:=I.list a
  have hlen:=c.length
  exact Calls.call_len_list pl.isList (by simp only [Dm] <;> omega) ⟨.int ys.length,H,I.tok _,⟨s.toks+1,by rw [Dm,hlen]⟩,q⟩
 ·obtain ⟨b,c,pl,hz⟩:=I.tuple a
  have hlen:=c.length
  exact len_tuple pl (by simp only [Dm] <;> omega) ⟨.int ys.length,H,I.tok _,⟨s.toks+1,by rw [Dm,hlen]⟩,q⟩
theorem nX:cI X (.type "list") (fun xs H Q=>∃ p ys,xs=[.ref p]/\(SqL X.K H p ys\/SqT X.K H p ys)/\∀ l,H l=none->Q (.ref l) (upd H l (.lst ys))):=by
 intro pins s σ H xs us Q I r h
 obtain ⟨p,ys,rfl,f,q⟩:=h
 obtain ⟨u,rfl,j⟩:=kh r
 cases j
 have fin:∀ (a:List Value),Vals ys a->ys.length<=sizeLine->∀ (h':Heap) (c:Nat),(∀ b o',s.heap.get? b=some o'->h'.get? b=some o') ->
   h'.get? s.heap.objs.size=some { cls:=.type "list",dict:=none,data:=.seq a.toArray c,slots:=#[] }->EP X pins σ Q (.ref s.heap.objs.size) { s with heap:=h' }:=fun a d hz h' c kp e =>
  ⟨.ref s.heap.objs.size,_,I.laid (t':=s.toks) kp (Dj _) (show ObjOk X.prog X.w _ h' _ (.lst ys) from ⟨hz,a,c,d,e⟩),rfl,q _ (I.hok.fresh (Dj _))⟩
 rcases f with f | f
 ·obtain ⟨a,d,pl,hz⟩:=I.list f
  have hlen:=d.length
  obtain ⟨o,i,g,n,hd⟩:=pl.isList
  exact call_list_seq p (.inl rfl) i g hd (fun h' c kp e=>fin a d hz h' c kp e) (by simp only [Dm] <;> omega)
 ·obtain ⟨a,d,pl,hz⟩:=I.tuple f
  have hlen:=d.length
  obtain ⟨o,i,g,n,hd⟩:=pl
  exact call_list_seq p (.inr rfl) i g hd (fun h' c kp e=>fin a d hz h' c kp e) (by simp only [Dm] <;> omega)
theorem lH:cI X (.type "tuple") (fun xs H Q=>∃ p ys,xs=[.ref p]/\((SqL X.K H p ys/\∀ l,H l=none->Q (.ref l) (upd H l (.tup ys)))\/(SqT X.K H p ys/\Q (.ref p) H))):=by
 intro pins s σ H xs us Q I r h
 obtain ⟨p,ys,rfl,h⟩:=h
 obtain ⟨u,rfl,g⟩:=kh r
 cases g
 rcases h with ⟨c,q⟩ | ⟨c,q⟩
 ·obtain ⟨a,d,pl,hz⟩:=I.list c
  have hlen:=d.length
  refine call_tuple_list pl.isList (fun h' kp=>?_) (by simp only [Dm] <;> omega)
  have f:Inv X pins σ H { s with heap:=h' }:=I.kept (t':=s.toks) kp
  have i:Inv X pins σ (upd H h'.objs.size (.tup ys)) { s with heap:=h'.push { cls:=.type "tuple",data:=.seq a.toArray } } :=
   f.laid (t':=s.toks) (fun b o e=>C4 _ e) (Dj _) (show ObjOk X.prog X.w _ _ _ (.tup ys) from ⟨hz,a,d,IsTupD.new _ _⟩)
  exact ⟨.ref h'.objs.size,_,i,rfl,q _ (f.hok.fresh (Dj _))⟩
 ·obtain ⟨a,d,pl,hz⟩:=I.tuple c
  exact call_tuple_same pl ⟨.ref p,H,I,rfl,q⟩
def tyV (K:FG) (T:String) (x:V) (H:Hp):Prop:=match x with
 | .str _=>T = "str"
 | .int _=>T = "int"
 | .ref p=>(T = "list"/\∃ xs,SqL K H p xs)\/(T = "tuple"/\((∃ o,K.lookup p=some o/\o.cls=.type "tuple"/\o.dict=none)\/∃ xs,H p=some (.tup xs))) \/
   (T = "dict"/\((∃ a,H p=some (.dK a))\/∃ a,H p=some (.dT a)))\/(T = "set"/\∃ S n,H p=some (.set S n))
 | _=>False
theorem AC (I:Inv X pins σ H s) (r:RelV x v) (ty:tyV X.K T x H) :
  s.TypeIs v T/\∀ a,v=.ref a->∃ ob,s.heap.get? a=some ob/\ob.dict=none:=by
 cases x with
 | str z =>
  obtain ⟨t,rfl⟩:=r
  cases (show T = "str" from ty)
  exact ⟨typeIs_str s z t,fun _ e=>nomatch e⟩
 | int i =>
  obtain ⟨t,rfl⟩:=r
  cases (show T = "int" from ty)
  exact ⟨typeIs_int s i t,fun _ e=>nomatch e⟩
 | ref p =>
  cases r
  rcases ty with ⟨rfl,xs,l⟩ | ⟨rfl,⟨o,b,k,hd⟩ | ⟨xs,j⟩⟩ | ⟨rfl,b⟩ | ⟨rfl,S,n,b⟩
  ·obtain ⟨g,_,pl,_⟩:=I.list l
   refine ⟨pl.isList.typeIs,fun a e=>?_⟩
   cases e
   obtain ⟨o,n,e,c,hd,_⟩:=pl
   exact ⟨o,e,hd⟩
  ·refine ⟨⟨o,I.kIn p o b,k⟩,fun a e=>?_⟩
   cases e
   exact ⟨o,I.kIn _ o b,hd⟩
  ·obtain ⟨_,g,_,o,e,c,n,d⟩:=I.hok p _ j
   refine ⟨⟨o,e,c⟩,fun a f=>?_⟩
   cases f
   exact ⟨o,e,congrArg Prod.snd d⟩
  ·have z:∃ o,s.heap.get? p=some o/\o.ExactDict:=by
    rcases b with ⟨h,b⟩ | ⟨h,b⟩
    ·obtain ⟨_,_,_,_,o,_,_,e,ex,_⟩:=I.hok p _ b
     exact ⟨o,e,ex⟩
    ·obtain ⟨_,_,_,_,o,_,_,e,ex,_⟩:=I.hok p _ b
     exact ⟨o,e,ex⟩
   obtain ⟨o,e,ex⟩:=z
   refine ⟨⟨o,e,ex.1⟩,fun a f=>?_⟩
   cases f
   exact ⟨o,e,ex.2.1⟩
  ·obtain ⟨o,_,_,_,e,ex,_⟩:=I.hok p _ b
   refine ⟨⟨o,e,ex.1⟩,fun a f=>?_⟩
   cases f
   exact ⟨o,e,ex.2.1⟩
 | _=>exact False.elim ty
def tBM (K:FG) (T:String) (r:V->List V->Hp->VK->Prop) (to:TE) (t:TA):TE:=fun σ H Q=>to σ H fun x H1=>tyV K T x H1/\t σ H1 fun xs H2=>r x xs H2 Q
variable {o e:Expr} {es:List Expr} {to:TE} {t:TA} {name:Str} {apos cpos:Pos} {T id:String} {r:V->List V->Hp->VK->Prop}
theorem pe_bm (k:PlainAttrs T) (slot:Slot T name id) (f:typeOf (.builtin id)=pure (.type "method_descriptor")) (hm:MtR X id r) (m:PE X o to) (w:PA X (e :: es) t)
  (c:attributeBase o name X.env (eval o X.env)=eval o X.env:=by rfl)
  (d:((backTo cpos (starEach (e :: es) X.env)).all (fun x=>!x.1) && (backToKw cpos (keywordEach [] X.env)).all (fun x=>x.1.isSome)
   && decide ((e :: es).length+([]:List Keyword).length+(if ([]:List Keyword).isEmpty then 0 else 1) < 30))=true:=by rfl)
  (b:(apos.endLine == cpos.line)=true:=by rfl) (q:starEach (e :: es) X.env=(false,eval e X.env) :: starEach es X.env:=by rfl) (a:(backTo cpos (starEach es X.env)).any (·.1)=false:=by rfl) :
  PE X (.Call (.Attribute o name apos) (e :: es) [] cpos) (tBM X.K T r to t):=by
 intro pins s σ H Q I h
 refine wpAny_Call_method_late c d b rfl (thn (m pins s σ H _ I h) fun v s1 ⟨x,H1,g,j,ty,p⟩=>?_)
 obtain ⟨h1,h2⟩:=AC g j ty
 refine ⟨T,id,k,slot,f,h1,h2,?_⟩
 have i:=w cpos pins s1 σ H1 _ g p
 rw [q] at i ⊢
 refine Calls.callWith_builtin (by show (false || (backTo cpos (starEach es X.env)).any (·.1))=false;rw [a] <;> rfl) (Calls.evalArgs_plain ?_)
 exact thn i fun us s2 ⟨vs,H2,u,n,l⟩=>hm pins s2 σ H2 x vs v us Q u j n l
end
end L2
namespace L2
open PySem PySem.Spec PyProof.Rows
def MtM (X:Cx) (id:String) (r:V->List V->Hp->VK->Prop):Prop :=
 ∀ (pins:List (Addr × Obj)) (s:Shared) (σ:St) (H:Hp) (x:V) (xs:List V) (v:Value) (us:List Value) (Q:VK),Inv X pins σ H s->RelV x v->Vals xs us->r x xs H Q ->
  wpAny (model X.prog X.w) X.A (call (.builtin id) (v :: us)) (EP X pins σ Q) X.xe s
theorem Vals.one:∀ {x:V} {us:List Value},Vals [x] us->∃ u,us=[u]/\RelV x u
 | _,_,.cons r .nil=>⟨_,rfl,r⟩
theorem Vals.rep (h:Vals xs us):∀ k:Nat,Vals (List.replicate k xs).flatten (List.replicate k us).flatten
 | 0=>.nil
 | k+1=>by
  rw [List.replicate_succ,List.replicate_succ,List.flatten_cons,List.flatten_cons]
  exact Vals.append h (Vals.rep h k)
section
variable {X:Cx} {pins:List (Addr × Obj)} {σ:St} {H:Hp} {s:Shared} {l b:Addr} {xs ys zs:List V}
theorem Inv.lset {a its':List Value} {n:Nat} {t':Nat} (I:Inv X pins σ H s) (d:H l=some (.lst xs)) (e:s.heap.get? l=some { cls:=.type "list",data:=.seq a.toArray n }) (hf:f a.toArray=its'.toArray) (b:Vals ys its') (hz:ys.length<=sizeLine) :
  Inv X pins σ (upd H l (.lst ys)) { s with heap:=s.heap.update l (Obj.mapSeq f),toks:=t' }:=by
 have q:=PySem.IsL.update e f
 rw [hf] at q
 refine I.write (x:=l) (e:=l) (by rw [d];exact trivial) (.inl rfl) (fun g u c hu=>(DC s.heap (Obj.mapSeq f) (Ne.symm c)).trans hu) ⟨_,q⟩ ?_
 exact ⟨hz,its',_,b,q⟩
theorem Inv.lnew {t':Nat} (I:Inv X pins σ H s) (a:Vals ys its) (hz:ys.length<=sizeLine) :
  Inv X pins σ (upd H s.heap.objs.size (.lst ys)) { s with heap:=s.heap.push { cls:=.type "list",data:=.seq its.toArray },toks:=t' } :=
 I.laid (fun _ _ q=>C4 _ q) (Dj _) ⟨hz,its,0,a,Dc _ rfl⟩
theorem Inv.fresh (I:Inv X pins σ H s):H s.heap.objs.size=none:=I.hok.fresh (Dj _)
theorem Inv.lstM (I:Inv X pins σ H s) (b:H l=some (.lst xs)):xs.length<=sizeLine/\∃ (a:List Value) (n:Nat),Vals xs a/\xs.length=a.length/\s.heap.get? l=some { cls:=.type "list",data:=.seq a.toArray n }:=by
 obtain ⟨z,a,n,r,e⟩:=I.hok l _ b
 exact ⟨z,a,n,r,r.length,e⟩
theorem wF {n:Nat} (h:n<=sizeLine):Builtin.List.listTooLong n=false:=by
 unfold Builtin.List.listTooLong
 exact Dp (by omega)
end
section
variable {X:Cx}
def sd:V->List V->Hp->VK->Prop:=fun x vs H Q=>∃ l xs y,x=.ref l/\vs=[y]/\H l=some (.lst xs)/\xs.length < sizeLine/\Q .non (upd H l (.lst (xs ++ [y])))
theorem uj:MtM X "list.append" sd:=by
 intro pins s σ H x vs v us Q I c f h
 obtain ⟨l,xs,y,rfl,rfl,b,hz,q⟩:=h
 cases c
 obtain ⟨u,rfl,d⟩:=f.one
 obtain ⟨z,a,n,r,g,e⟩:=I.lstM b
 refine call_meets F.slot_list_append ⟨_,e,rfl⟩ F.entry_list_append (F.args_list_append_2 _ _) (PySem.list_append l a.toArray n u (by rw [Dm];omega)) ⟨e,?_⟩
 refine ⟨.non,_,I.lset (its':=a ++ [u]) b e (by simp) (r.append (.cons d .nil)) ?_,rfl,q⟩
 rw [Dt,List.length_singleton]
 omega
def rZ:V->List V->Hp->VK->Prop:=fun x vs H Q=>∃ l b xs zs,x=.ref l/\vs=[.ref b]/\H l=some (.lst xs)/\H b=some (.lst zs)/\xs.length+zs.length<=sizeLine/\Q .non (upd H l (.lst (xs ++ zs)))
theorem ui:MtM X "list.extend" rZ:=by
 intro pins s σ H x vs v us Q I j p h
 obtain ⟨l,b,xs,zs,rfl,rfl,f,g,hz,q⟩:=h
 cases j
 obtain ⟨u,rfl,k⟩:=p.one
 cases k
 obtain ⟨z,c,n,r,w,e⟩:=I.lstM f
 obtain ⟨y,a,i,m,t,o⟩:=I.lstM g
 have hsz:c.toArray.size+a.toArray.size<=sizeLine:=by rw [Dm,Dm];omega
 have d:¬ (!c.toArray.isEmpty && Builtin.List.listTooLong (c.toArray.size+a.toArray.size))=true:=by
  rw [wF hsz,Bool.and_false]
  exact Dk
 refine call_meets F.slot_list_extend ⟨_,e,rfl⟩ F.entry_list_extend (F.args_list_extend_2 _ _)
  (AutoSeq1.list_extend_list_list_0 l c.toArray n b a.toArray i d (by rw [Dm];omega) (by omega)) ⟨e,o,?_⟩
 refine ⟨.non,_,I.lset (its':=c ++ a) f e (by simp) (r.append m) ?_,rfl,q⟩
 rw [Dt]
 omega
def yR:R2:=fun x y H Q=>∃ l b xs zs,x=.ref l/\y=.ref b/\H l=some (.lst xs)/\H b=some (.lst zs)/\xs.length+zs.length<=sizeLine/\∀ p,H p=none->Q (.ref p) (upd H p (.lst (xs ++ zs)))
theorem BV:OpR X (binaryOp .Add) yR:=by
 intro pins s σ H x y v u Q I i d h
 obtain ⟨l,b,xs,zs,rfl,rfl,k,f,hz,q⟩:=h
 cases i
 cases d
 obtain ⟨z,c,n,r,p,e⟩:=I.lstM k
 obtain ⟨w,a,t,j,m,o⟩:=I.lstM f
 refine PySem.P.add_list e o ?_ (by rw [Dm,Dm];omega)
 have g:c.toArray ++ a.toArray=(c ++ a).toArray:=by simp
 rw [g]
 exact ⟨.ref _,_,I.lnew (t':=s.toks) (r.append j) (by rw [Dt];omega),rfl,q _ I.fresh⟩
end
end L2
namespace Att
open PySem PySem.W PySem.Calls PyProof.Rows
theorem j3:∀ (ns:List Int) (vs:List Value),WellAll P h vs (ns.map WData.int)->IntsAre vs ns:=by
 intro ns
 induction ns with
 | nil =>
  intro vs w
  rw [List.map_nil] at w
  cases w
  exact .nil
 | cons n ns ih =>
  intro vs w
  rw [Dn] at w
  cases w with
  | cons a b =>
   cases a
   exact .cons _ _ (ih _ b)
theorem tL {l:OpenLaw} {n:Nat} (j:l.most=some n) (b:l.row.toRowW.claim.pre args=true) (g:WellAll P h vals args) :
  ∃ a vs ns,vals=[Value.ref a]/\args=[WData.list (ns.map WData.int)]/\h.get? a=some { cls:=.type "list",data:=.seq vs.toArray }/\IntsAre vs ns/\ns.length<=n:=by
 have f:WShape.hasAll [] args [.list .int]=true:=(pre_splitW b).1
 have i:l.pre.holds [] { args:=args }=true:=(pre_splitW b).2
 obtain ⟨d,r,rfl,h1,h2⟩:=hasAllW_cons f
 obtain rfl:=hasAllW_nil h2
 obtain ⟨xs,rfl,h3⟩:=hasW_list h1
 obtain ⟨ns,rfl⟩:=items_int h3
 have hlen:ns.length<=n:=by
  unfold OpenLaw.pre at i
  have c:(WTm.not (.lt (.lit (.int (n:Int))) (.len (.arg 0)))).holds [] { args:=[.list (ns.map .int)] }=true:=by
   have c:=(holds_andW i).1
   rw [j] at c
   exact c
  have e:=condW_of c (w_not (w_lt w_lit (w_len_list (w_arg rfl))))
  rw [Dd] at e
  refine Nat.le_of_not_lt fun q=>?_
  have k:(n:Int) < ((ns.length:Nat):Int):=by omega
  first
   | (rw [Do k] at e;exact absurd e (by decide))
   | (simp at e;omega)
 cases g with
 | cons w1 w2 =>
  cases w2
  cases w1 with
  | list ho hall=>exact ⟨_,_,ns,rfl,rfl,ho,j3 ns _ hall,hlen⟩
theorem t4 (l:OpenLaw) (args:List WData):l.row.toRowW.claim.post args (.bool true) args=true :=
 postW_of (r:=l.row.toRowW) (X:=(true == true))
  (show WShape.has [] (.bool true) .bool=true by first | rfl | decide | simp [WShape.has,WShape.arms,WShape.armsAll])
  (show (WTm.eq .res (.lit (.bool true))).value [] { args:=args,res:=some (.bool true),after:=args }=some (.bool (true == true)) from w_eq_bool (w_res rfl) w_lit) rfl
theorem attach_call {l:OpenLaw} {n:Nat} (A:l.most=some n) (h:d.params.defaults=[]) (call:∀ (w:World) (s₀ b:Shared) (mg mb:Str->Option Value) (c:Addr) (o:Obj) (pm cd doc:Value) (a:Addr) (vs:List Value) (ns:List Int),
   Ground q loose [] XP w s₀ mg mb b.heap->YP w b.heap ->
   b.heap.get? c=some o->o.data=.func (docDef d.name d.params d.body d.scope pm cd doc)->b.heap.CodeRec cd d.name->mg d.name=some (.ref c) ->
   b.heap.get? a=some { cls:=.type "list",data:=.seq vs.toArray }->IntsAre vs ns->ns.length<=n->b.gens = #[] ->
   codeAny (model l.prog w) callerA (.call (.ref c) ⟨[.ref a],[]⟩) (fun r s'=>r=.ok (.ret (.bool true))/\OldK b.heap s'.heap/\s'.os=b.os/\AllBare s'.gens) b) :
  WalkO q loose XP YP l.row.toRowW d [] (fun f vs=>PySem.call f vs):=by
 intro w s₀ b mg mb G Y c o pm cd doc t kV z hd i p k s args vals as e m y j u
 obtain rfl:t=.none:=Dflts.none p h
 obtain rfl:kV=.none:=Dflts.noKw p
 obtain ⟨a,vs,ns,rfl,rfl,g,hints,hlen⟩:=tL A e j
 refine enter_call (codeAny_mono (call w s₀ b mg mb c o pm cd doc a vs ns G Y z (fd_plain hd) i k g hints hlen s) fun r s' x=>?_)
 obtain ⟨rfl,h2,h3,v⟩:=x
 exact ⟨.inl ⟨.bool true,.bool true,[],rfl,fun _=>rfl,.bool true,t4 l _,fun _=>⟨List.Pairwise.nil,fun _ hm=>(nomatch hm)⟩⟩,h2,h3,v⟩
section
variable {prog:Program} {w:World} {A:Around} {E:Value->Shared->Prop} {s:Shared} {K:Frag}
theorem call_fn (X:K.In s.heap) (i:s.heap.NoLimit) (o:K.lookup f=some ⟨oc,od,.func (fnOf name qual params body scope dV kV doc pm an cdv ct),osl⟩) (k:codeIn K cdv qual=true) (d:A.depth < recursionLimit) (a:BindsTo s (fnOf name qual params body scope dV kV doc pm an cdv ct) args binds) (c:(binds.all fun y=>scope.names.lookup y.1 == some .local || scope.names.lookup y.1 == some .cell)=true) (h:∀ j,InCallC s s.heap.objs.size (bindL (envOfC qual scope s.heap.objs.size f cdv).kindOf binds fun _=>none) (cellsFrom (s.heap.objs.size+1) scope.names [])
        (bindC (envOfC qual scope s.heap.objs.size f cdv).kindOf binds fun _=>none) j ->
      wpAny (model prog w) (A.deeper (envOfC qual scope s.heap.objs.size f cdv)) (execs body (envOfC qual scope s.heap.objs.size f cdv))
        (fun fl s'=>R (.ok (.ret (match fl with | .ret v=>v | _=>.none))) s')
        (fun e s'=>wpAny (model prog w) (A.deeper (envOfC qual scope s.heap.objs.size f cdv)) (leaving (envOfC qual scope s.heap.objs.size f cdv) e) (fun _ b=>R (.error e) b) (fun m b=>R (.error m) b) s') j) (l:scope.isCoroutine=false) (g:scope.isGenerator=false) (n:scope.kind=.function):codeAny (model prog w) A (.call (.ref f) args) R s:=by
  refine codeAny_call_function d (X _ _ o) rfl l g rfl (codeRec_of X k) (a _ _ _ _ ?_)
  refine wpAny_newFunctionEnv_cells n (kindsX c _) fun env he j x=>?_
  subst he
  exact ⟨i.keeps x.toInCall.keep,codeAny_func (h j x)⟩
end
end Att
namespace L2
open PySem PySem.Spec PyProof.Rows
theorem lN:∀ {vs:List Value} {ns:List Int},IntsAre vs ns->Vals (ns.map V.int) vs
 | _,_,.nil=>.nil
 | _,_,.cons n t h=>.cons ⟨t,rfl⟩ (lN h)
def z9 (H:Hp):Prop:=∀ b,H b=none\/∃ o xs,H b=some (.frz o (.lst xs))
theorem wP {K:FG} {k:Nat} (O:K.In s₁.heap) (l:s₁.heap.Ns mainGlobals mg) (f:s₁.heap.Ns builtinsNs mb) (D:∀ x:Str,x ≠ "__name__"->mb x=bootBuiltins x) (t:s₁.heap.NoLimit) (W:s₁.gens = #[]) (B:s₁.heap.get? a=some { cls:=.type "list",data:=.seq vs.toArray }) (hi:IntsAre vs ns) (L:ns.length<=sizeLine) (S:Room k callerA) (F:∀ base:Heap,K.In base->base.Ns mainGlobals mg->FnOk P w K mg base CX k fa fd [x] sp) (i:∀ (s:Shared) (u:Value),BindsTo s fd ⟨[u],[]⟩ [(x,u)]) (C:∀ H:Hp,z9 H->SqL K H a (ns.map V.int)->sp [.ref a] H (fun v _=>v=.bl true) fun _ _ _=>False) (I:∀ H e s',CX [] H s₁ (fun _ _ _=>False) e s'->False) :
  codeAny (model P w) callerA (.call (.ref fa) ⟨[.ref a],[]⟩) (fun r s'=>r=.ok (.ret (.bool true))/\OldK s₁.heap s'.heap/\s'.os=s₁.os/\AllBare s'.gens) s₁:=by
 have Q:=lN hi
 have lenV:=hi.length
 have core:∀ H:Hp,z9 H->SqL K H a (ns.map V.int)->HOk P w H s₁.heap->(∀ b,H b ≠ none->b=a)->(H a ≠ none->K.lookup a=none) ->
   codeAny (model P w) callerA (.call (.ref fa) ⟨[.ref a],[]⟩) (fun r s'=>r=.ok (.ret (.bool true))/\OldK s₁.heap s'.heap/\s'.os=s₁.os/\AllBare s'.gens) s₁:=by
  intro H N Z hok M hK
  have c:∀ {b:Addr} {o:Obj},s₁.heap.get? b=some o->H b=none->(nO s₁.heap H).get? b=some o:=fun e n=>xg e n
  have J:∀ {b:Addr} {o:Obj} {es:Array DictEntry} {j:Nat},s₁.heap.get? b=some o->o.data=.dict es j->H b=none:=fun {b o es j} e d=>by
   cases q:H b with
   | none=>rfl
   | some u =>
    have E:b=a:=M b (by rw [q];simp)
    subst E
    rw [B] at e;cases e
    have d':Data.seq vs.toArray _=Data.dict es j:=d
    cases d'
  have g:∀ {b:Addr} {m:Str->Option Value},s₁.heap.Ns b m->(nO s₁.heap H).Ns b m:=fun {b m} ⟨o,es,j,e,d,r⟩=>⟨o,es,j,c e (J e d),d,r⟩
  have A:K.In (nO s₁.heap H):=fun b o e=>c (O b o e) (by
   cases q:H b with
   | none=>rfl
   | some u =>
    have E:b=a:=M b (by rw [q];simp)
    subst E
    rw [hK (by rw [q];simp)] at e;cases e)
  have R:Mod K mg (nO s₁.heap H):=⟨A,g l,⟨mb,g f,D⟩,let ⟨mc,h1,h2⟩:=t;⟨mc,g h1,h2⟩⟩
  have X:Env0 P w K mg (nO s₁.heap H) callerA [] s₁ H:=⟨rfl,R,fun b o e=>ze e,Nat.le_of_eq (uD _ _),trivial,fun b f=>absurd (show b ∈ ([]:List Addr) from f) (by simp),hok,.of_eq W⟩
  refine codeAny_mono ((F _ A (g l)).run callerA [] s₁ H ⟨[.ref a],[]⟩ [.ref a] [.ref a] _ _ S X (i s₁ (.ref a)) (.cons rfl .nil) (C H N Z)) fun r s' h=>?_
  cases r with
  | error e=>exact (I H e s' h).elim
  | ok fl =>
   cases fl with
   | next=>exact False.elim h
   | brk=>exact False.elim h
   | cont=>exact False.elim h
   | ret u =>
    obtain ⟨v,H',os,bare,un,p,U,q⟩:=h
    have Y:v=.bl true:=q
    subst Y
    obtain rfl:u=Value.bool true:=U
    refine ⟨rfl,OldK.of_keep fun b o e=>?_,os,bare⟩
    cases q:H b with
    | none=>exact un.keep b o e q (by intro z;exact absurd (show b ∈ ([]:List Addr) from z) (by simp)) (by simp)
    | some u =>
     rcases N b with z | ⟨ob,xs,z⟩
     ·rw [q] at z;cases z
     ·have T:=un.frzs b ob _ z
      obtain ⟨e1,_⟩:=hok b _ z
      obtain ⟨e2,_⟩:=p b _ T
      rw [e] at e1;cases e1
      exact e2
 cases G:K.lookup a with
 | some o =>
  have e:=O a o G
  rw [B] at e
  cases e
  refine core (fun _=>none) (fun _=>.inl rfl) (.inr ⟨_,vs.toArray,_,G,rfl,rfl,rfl,by rw [Dm,lenV];exact L,by simpa using Q⟩) (fun b u z=>by have y:(none:Option HO)=some u:=z;cases y) (fun b z=>absurd rfl z) fun z=>absurd rfl z
 | none =>
  refine core (fun b=>if b=a then some (.frz { cls:=.type "list",data:=.seq vs.toArray } (.lst (ns.map V.int))) else none) (fun b=>?_) (.inl (.inr ⟨{ cls:=.type "list",data:=.seq vs.toArray },if_pos rfl⟩)) (fun b u z=>?_) (fun b z=>?_) fun _=>G
  ·by_cases f:b=a
   ·exact .inr ⟨_,_,if_pos f⟩
   ·exact .inl (if_neg f)
  ·by_cases f:b=a
   ·have y:=(if_pos f).symm.trans z
    cases y
    subst f
    exact ⟨B,by rw [Dd];exact L,vs,_,Q,B⟩
   ·have y:=(if_neg f).symm.trans z
    cases y
  ·by_cases f:b=a
   ·exact f
   ·exact absurd (if_neg f) z
end L2
namespace L2
open PySem PySem.Spec PyProof.Rows
end L2
namespace L2
open PySem PySem.Spec PyProof.Rows
abbrev CX0:CXT:=fun _ _ _ _ _ _=>False
abbrev E0:XK:=fun _ _ _=>False
theorem pass0:rF CX0 X E0:=fun _ _ _ _ _ _ _ h=>h.elim
structure Fun (K:FG) (x qual:Str) (st:Stmt) (f:Addr) (fd:FuncData):Prop where
 ex:∃ (oc:Value) (od:Option Addr) (kV doc pm:Value) (an:Option Addr) (cdv ct:Value) (osl:Array (Option Value)),
  fd=PySem.W.fnOf x qual (aF st) (au st) (af st) .none kV doc pm an cdv ct/\K.lookup f=some ⟨oc,od,.func fd,osl⟩/\PySem.W.codeIn K cdv qual=true
 kp:PySem.W.keepIn K (.ref f)=true
section
variable {P:Program} {w:World} {K:FG} {mg:Str->Option Value} {base:Heap}
theorem Fun.ok {st:Stmt} {k:Nat} (F:Fun K x qual st f fd) (S:FnScope N ps (af st)) (len:∀ vs H Q E,sp vs H Q E->vs.length=ps.length) (b:∀ (a:Value) (A:Around) (outer:List Env) (s:Shared) (H:Hp) (vs:List V) (Q:VK) (E:XK),Room k (A.deeper (envOfC qual (af st) s.heap.objs.size f a))->sp vs H Q E ->
   ∃ t,PSs (de CX0 P w K mg base N qual (af st) f a A outer s H E).nox (au st) t/\t { nx:=fun _ H'=>Q .non H',rt:=Q } (fg N vs) H):FnOk P w K mg base CX0 (k+1) f fd ps sp:=by
 obtain ⟨j,od,kV,doc,pm,an,a,ct,i,rfl,g,d⟩:=F.ex
 refine At g d S len fun A outer s H vs Q E e c=>?_
 obtain ⟨t,h,q⟩:=b a A outer s H vs Q E e c
 exact ⟨t,h.nox,q⟩
theorem Fun.binds {st:Stmt} (F:Fun K x qual st f fd) (h:∀ (kV doc pm:Value) (an:Option Addr) (a ct:Value) (us:List Value),us.length=ps.length->bindArgs (PySem.W.fnOf x qual (aF st) (au st) (af st) .none kV doc pm an a ct) ⟨us,[]⟩=pure (ps.zip us)):Binds K fd ps []:=by
 obtain ⟨d,od,kV,doc,pm,an,a,ct,c,rfl,e,b⟩:=F.ex
 exact .all (h kV doc pm an a ct)
theorem Cu {st:Stmt} {kV doc pm a ct:Value} (l:K.lookup f=some ⟨oc,od,.func (PySem.W.fnOf x qual (aF st) (au st) (af st) .none kV doc pm an a ct),osl⟩) (c:PySem.W.codeIn K a qual=true) (k:PySem.W.keepIn K (.ref f)=true):Fun K x qual st f (PySem.W.fnOf x qual (aF st) (au st) (af st) .none kV doc pm an a ct):=⟨⟨oc,od,kV,doc,pm,an,a,ct,osl,rfl,l,c⟩,k⟩
end
theorem hu_of {k:Nat} (a:Room k A):A.units+1 < cLine:=Nat.lt_of_le_of_lt (Nat.add_le_add_left (by decide:1<=64) _) a.units
theorem tD {n:Nat} (h:n<=1000):n < sizeLine:=Nat.lt_of_le_of_lt h (by decide)
def Same (H H':Hp):Prop:=∀ b o,H b=some o->H' b=some o
theorem Same.refl (H:Hp):Same H H:=fun _ _ h=>h
theorem Same.trans (a:Same H H1) (b:Same H1 H2):Same H H2:=fun c o h=>b c o (a c o h)
theorem Same.free (e:Same H H') (h:H' l=Option.none):H l=Option.none:=by
 cases q:H l with
 | none=>rfl
 | some o =>
  rw [e l o q] at h
  cases h
theorem Same.seq {K:FG} (e:Same H H') (h:SqL K H a xs):SqL K H' a xs:=by
 rcases h with (h | ⟨o,h⟩) | h
 ·exact .inl (.inl (e _ _ h))
 ·exact .inl (.inr ⟨o,e _ _ h⟩)
 ·exact .inr h
end L2
end
section
namespace L2
open PySem PySem.Spec PyProof.Rows
section
variable {prog:Program} {w:World} {A:Around} {E:Value->Shared->Prop} {s:Shared}
theorem oO (ty:s.TypeIs (.ref d) "dict") (h:wpAny (model prog w) A.in1 (dictSet d k v) Q E s) :
  wpAny (model prog w) A (setItem (.ref d) k v) Q E s:=by
 unfold setItem
 refine C0 (CY (wpAny_sequenceKey ty (by decide) (CY (wpAny_callSpecial?_slot ty slot_dict_setitem (wpAny_call_entry slot_dict_setitem ty entry_dict_setitem ?_ (args_dict_setitem _ _ _))))))
 refine CY (wpAny_notOrdered_dict ty ?_)
 refine (?_:wpAny _ _ (dictSet d k v >>= _) _ _ s)
 exact CY (wpAny_mono h (fun _ _ z=>CZ ⟨_,rfl,CZ z⟩) fun _ _ z=>z)
theorem lQ {c:Int} {b:Nat} {F:Option Nat->Prop} (a:s.heap.get? d=some o) (g:o.ExactDict) (hd:o.data=.dict es b) (hz:es.size<=sizeLine) (find:wpAny (model prog w) A (dictFind d key c) (fun r s'=>s'=s/\F r) E s) (old:∀ i h' o',F (some i)->h'.get? d=some o'->o'.ExactDict->o'.data=.dict (es.modify i fun e=>{ e with val:=v }) b->Heap.SameBut d s.heap h'->Q () { s with heap:=h' }) (new:∀ h' o',F none->h'.get? d=some o'->o'.ExactDict->o'.data=.dict (es.push ⟨c,key,v⟩) (b+1)->Heap.SameBut d s.heap h'->Q () { s with heap:=h' }) :
  wpAny (model prog w) A (dictSetHashed d key c v) Q E s:=by
 unfold dictSetHashed
 refine C0 (CY (wpAny_mono find ?_ fun _ _ z=>z))
 rintro (_ | i) _ ⟨rfl,f⟩
 ·exact CY (wpAny_rule (wpAny_updateDictKeys (hz:=hz) a hd (new _ _ f (Ds _ a (Obj.isFreed_of_dict (Obj.data_mapDictKeys hd _))) (g.mapDictKeys _) (Obj.data_mapDictKeys hd _) (Heap.SameBut.update ..))))
 ·exact CY (wpAny_rule (CY (wpAny_updateDict a hd (wpAny_point (old i _ _ f (Ds _ a (Obj.isFreed_of_dict (Obj.data_mapDict hd _))) (g.mapDict _) (Obj.data_mapDict hd _) (Heap.SameBut.update ..))))))
end
section
variable {prog:Program} {w:World} {K:Type} [DecidableEq K] {A:Around} {E:Value->Shared->Prop} {s:Shared} {d:Addr} {k:K}
section
variable {knd:HeapKind prog w K}
def DictOfHE (knd:HeapKind prog w K) (h:Heap) (d:Addr) (xs:List (K × Addr × Value)):Prop :=
 ∃ o es a,h.get? d=some o/\o.ExactDict/\o.data=.dict es a/\es.toList=xs.map (entryOfKey knd)/\(∀ x ∈ xs,knd.is h x.1 x.2.1)/\(xs.map (·.1)).Nodup/\a=es.size
theorem DictOfHE.of (x:DictOfHE knd h d xs):h.DictOfH knd d xs:=let ⟨o,es,a,h1,h2,h3,e,c,b,_⟩:=x;⟨o,es,a,h1,h2,h3,e,c,b⟩
theorem ue {y:Addr × Value} (b:(xs.map (·.1)).Nodup) (h:k ∉ xs.map (·.1)):((xs ++ [(k,y)]).map (·.1)).Nodup:=by
 rw [List.map_append]
 exact List.nodup_append.mpr ⟨b,List.nodup_cons.mpr ⟨List.not_mem_nil,List.nodup_nil⟩,fun x c y a e=>h (by have:=Dy.mp a;subst this;exact e ▸ c)⟩
theorem lG (hu:knd.room A) (b:knd.is s.heap k a) (hm:DictOfHE knd s.heap d xs) (n:∀ h',DictOfHE knd h' d (storedH xs k a v)->Heap.SameBut d s.heap h'->Q () { s with heap:=h',toks:=s.toks+knd.draws k }) (hsz:xs.length<=sizeLine:=by size_fits):wpAny (model prog w) A (dictSet d (.ref a) v) Q E s:=by
 obtain ⟨o,es,t,l,r,hd,he,c,m,rfl⟩:=hm
 unfold dictSet
 refine C0 (CY (knd.pyHash hu b ?_))
 refine lQ (s:={ s with toks:=s.toks+knd.draws k }) (F:=fun | none=>∀ (j:Nat) (p:Addr × Value),xs[j]? ≠ some (k,p) | some j=>∃ p,xs[j]?=some (k,p)) l r hd (size_of_entries he ▸ hsz)
  (wpAny_dictFind_heap (s:={ s with toks:=s.toks+knd.draws k }) hu b l hd he c m (fun z=>⟨rfl,z⟩) fun j p z=>⟨rfl,p,z⟩) ?_ ?_
 ·rintro i h' o' ⟨p,f⟩ g1 g2 g3 h
  have at':=storedH_old (atKey_of_get m f) a v
  refine n h' ⟨o',_,_,g1,g2,g3,?_,?_,?_,?_⟩ h <;> try rw [at']
  ·rw [Array.toList_modify,he]
   exact modify_map_putAt (entryOfKey knd) _ k v (fun _ _=>rfl) m f
  ·intro x g
   obtain ⟨y,q,rfl⟩:=Dh.mp g
   have:=knd.keeps (c y q) l hd h
   by_cases e:y.1=k <;> simpa [putAt,e] using this
  ·exact (keys_map_putAt xs k v).symm ▸ m
  ·exact (Array.size_modify).symm
 ·intro h' o' f g1 g2 g3 h
  have at':=storedH_new (atKey_none_of_get f) a v
  refine n h' ⟨o',_,_,g1,g2,g3,?_,?_,?_,?_⟩ h <;> try rw [at']
  ·simp [he,entryOfKey]
  ·intro x g
   rcases Db.mp g with g | g
   ·exact knd.keeps (c x g) l hd h
   ·cases Dy.mp g;exact knd.keeps b l hd h
  ·exact ue m (not_mem_keys_of_get f)
  ·simp
theorem lw (hu:knd.room A.in1) (b:knd.is s.heap k a) (hm:DictOfHE knd s.heap d xs) (c:∀ h',DictOfHE knd h' d (storedH xs k a v)->Heap.SameBut d s.heap h'->Q () { s with heap:=h',toks:=s.toks+knd.draws k }) (hsz:xs.length<=sizeLine:=by size_fits):wpAny (model prog w) A (setItem (.ref d) (.ref a) v) Q E s :=
 oO hm.of.typeIs (lG (hsz:=hsz) hu b hm c)
end
section
variable {knd:KeyKind prog w K} {key:Value}
theorem k9 (a:knd.is k key=true) (hm:DictOfE knd s.heap d kvs) (l:∀ h',DictOfE knd h' d (stored kvs k v)->Heap.SameBut d s.heap h'->Q () { s with heap:=h',toks:=s.toks+1 }) (hsz:kvs.length<=sizeLine:=by size_fits):wpAny (model prog w) A (dictSet d key v) Q E s:=by
 obtain ⟨o,⟨es⟩,t,m,q,hd,c,b,j,rfl⟩:=hm
 have same:=b.findIdx k
 have hz:(⟨es⟩:Array DictEntry).size<=sizeLine:=by have:=b.length;simp at this ⊢;omega
 unfold dictSet
 refine C0 (CY (knd.pyHash a ?_))
 refine lQ (s:={ s with toks:=s.toks+1 }) (F:=fun r=>es.findIdx? (fun e=>knd.is k e.key)=r) m q hd hz
  (wpAny_dictFind_of (s:={ s with toks:=s.toks+1 }) a m hd c ⟨rfl,by simp⟩) ?_ ?_
 ·intro i h' o' f g1 g2 g3 h
  have at':stored kvs k v=_:=if_pos (any_of_findIdx_some (same.symm.trans f))
  refine l h' ⟨o',_,_,g1,g2,g3,c.modify _ _,?_,?_,(Array.size_modify).symm⟩ h <;> rw [at']
  ·simpa using b.modify j f v
  ·exact (keys_map_store kvs k v).symm ▸ j
 ·intro h' o' f g1 g2 g3 h
  have no:=not_mem_of_findIdx_none (same.symm.trans f)
  have at':stored kvs k v=_:=if_neg fun z=>by
   obtain ⟨x,g,e⟩:=List.any_eq_true.mp z
   exact no (Dh.mpr ⟨x,g,of_decide_eq_true e⟩)
  refine l h' ⟨o',_,_,g1,g2,g3,c.push a _,?_,?_,by simp⟩ h <;> rw [at']
  ·simpa using b.append a (knd.hash k) v
  ·rw [List.map_append]
   exact List.nodup_append.mpr ⟨j,List.nodup_cons.mpr ⟨List.not_mem_nil,List.nodup_nil⟩,fun x g y n e=>no (by cases Dy.mp n;have p:x=k:=e;exact p ▸ g)⟩
theorem ku (a:knd.is k key=true) (hm:DictOfE knd s.heap d kvs) (b:∀ h',DictOfE knd h' d (stored kvs k v)->Heap.SameBut d s.heap h'->Q () { s with heap:=h',toks:=s.toks+1 }) (hsz:kvs.length<=sizeLine:=by size_fits):wpAny (model prog w) A (setItem (.ref d) key v) Q E s :=
 oO hm.of.typeIs (k9 (hsz:=hsz) a hm b)
end
end
section
variable {κ:Type} [DecidableEq κ]
def jU (a:List (κ × V)) (k:κ):Option V:=(a.find? fun b=>decide (b.1=k)).map (·.2)
def eM (a:List (κ × V)) (k:κ) (v:V):List (κ × V) :=
 if (a.any fun b=>decide (b.1=k))=true then a.map (fun b=>if b.1=k then (b.1,v) else b) else a ++ [(k,v)]
theorem iC {p:κ × V} {k:κ} (e:p.1=k):jU (p :: r) k=some p.2:=by simp [jU,List.find?_cons,e]
theorem iD {p:κ × V} {k:κ} (e:¬ p.1=k):jU (p :: r) k=jU r k:=by simp [jU,List.find?_cons,e]
theorem oF (k:κ):∀ a:List (κ × V),(a.any fun b=>decide (b.1=k))=(jU a k).isSome
 | []=>rfl
 | p :: r=>by
  rw [List.any_cons]
  by_cases e:p.1=k
  ·simp only [iC e,Do e,Bool.true_or,Option.isSome_some]
  ·rw [iD e,Dp e,Bool.false_or];exact oF k r
theorem jP (a:List (κ × V)) (k:κ) (v:V):(eM a k v).length<=a.length+1:=by
 unfold eM
 split
 ·rw [Dd];omega
 ·rw [Dt,Du,List.length_nil];omega
theorem RelO.isSome_eq (r:RelO o u):o.isSome=u.isSome:=by
 cases o with
 | none=>cases u with
  | none=>rfl
  | some _=>exact (show False from r).elim
 | some _=>cases u with
  | none=>exact (show False from r).elim
  | some _=>rfl
theorem RelO.getD (r:RelO o u) (a:RelV d d'):RelV (o.getD d) (u.getD d'):=by
 cases o with
 | none=>cases u with
  | none=>exact a
  | some _=>exact (show False from r).elim
 | some _=>cases u with
  | none=>exact (show False from r).elim
  | some _=>exact r
theorem KV.val (r:KV kvs vs) (k:κ):RelO (jU kvs k) (valueAt vs k):=by
 unfold KV at r
 induction r with
 | nil=>exact True.intro
 | @cons p q ps qs h t ih =>
  obtain ⟨h1,h2⟩:=h
  by_cases e:p.1=k
  ·have a:q.1=k:=h1.symm.trans e
   have b:valueAt (q :: qs) k=some q.2:=by simp [valueAt,List.find?_cons,a]
   rw [iC e,b];exact h2
  ·have a:¬ q.1=k:=fun z=>e (h1.trans z)
   have b:valueAt (q :: qs) k=valueAt qs k:=by simp [valueAt,List.find?_cons,a]
   rw [iD e,b];exact ih
theorem KV.any (r:KV kvs vs) (k:κ):(kvs.any fun a=>decide (a.1=k))=vs.any fun a=>decide (a.1=k):=by
 unfold KV at r
 induction r with
 | nil=>rfl
 | cons h t ih=>rw [List.any_cons,List.any_cons,ih,h.1]
theorem KV.repl (r:KV kvs vs) (k:κ) (b:RelV y u) :
  KV (kvs.map fun a=>if a.1=k then (a.1,y) else a) (vs.map fun a=>if a.1=k then (a.1,u) else a):=by
 unfold KV at r ⊢
 induction r with
 | nil=>exact .nil
 | @cons p q ps qs h t ih =>
  rw [Dn,Dn]
  refine .cons ?_ ih
  obtain ⟨h1,h2⟩:=h
  by_cases e:p.1=k
  ·rw [if_pos e,if_pos (h1.symm.trans e)];exact ⟨h1,b⟩
  ·rw [if_neg e,if_neg (fun z=>e (h1.trans z))];exact ⟨h1,h2⟩
theorem KV.put (r:KV kvs vs) (k:κ) (a:RelV y u):KV (eM kvs k y) (stored vs k u):=by
 unfold eM stored
 rw [r.any k]
 by_cases e:(vs.any fun b=>decide (b.1=k))=true
 ·rw [if_pos e,if_pos e];exact r.repl k a
 ·rw [if_neg e,if_neg e];exact Paired.snoc r ⟨rfl,a⟩
theorem KV.length {a:List (κ × V)} (r:KV a vs):a.length=vs.length:=Paired.length r
end
theorem wV (r:RelV (kV k) u):(bR P w).is k u=true:=by
 cases k with
 | inl i=>obtain ⟨t,e⟩:=(show ∃ t,u=Value.int i t from r);subst e;exact pB P w i t
 | inr x=>obtain ⟨t,e⟩:=(show ∃ t,u=Value.str x t from r);subst e;exact pA P w x t
theorem mq:∀ {a:List Key} {us:List Value},Vals (a.map kV) us->ItemsAre (bR P w) a us
 | [],_,r=>by rw [List.map_nil] at r;cases r;exact .nil
 | k :: a,_,r=>by
  rw [Dn] at r
  cases r with
  | cons h t=>exact .cons (wV h) (mq t)
abbrev KT (H:Hp):List (List Key × V)->List (List Key × Addr × Value)->Prop:=Paired fun p q=>p.1=q.1/\H q.2.1=some (.tup (p.1.map kV))/\RelV p.2 q.2.2
theorem KT.val (r:KT H kvs xs) (k:List Key):RelO (jU kvs k) ((atKey xs k).map (·.2)):=by
 induction r with
 | nil=>exact True.intro
 | @cons p q ps qs h t ih =>
  obtain ⟨h1,_,h2⟩:=h
  by_cases e:p.1=k
  ·have a:q.1=k:=h1.symm.trans e
   have b:atKey (q :: qs) k=some q.2:=by simp [atKey,List.find?_cons,a]
   rw [iC e,b];exact h2
  ·have a:¬ q.1=k:=fun z=>e (h1.trans z)
   have b:atKey (q :: qs) k=atKey qs k:=by simp [atKey,List.find?_cons,a]
   rw [iD e,b];exact ih
theorem KT.repl (r:KT H kvs xs) (k:List Key) (b:RelV y u) :
  KT H (kvs.map fun a=>if a.1=k then (a.1,y) else a) (xs.map (putAt k u)):=by
 induction r with
 | nil=>exact .nil
 | @cons p q ps qs h t ih =>
  rw [Dn,Dn]
  refine .cons ?_ ih
  obtain ⟨h1,h2,h3⟩:=h
  unfold putAt
  by_cases e:p.1=k
  ·rw [if_pos e,if_pos (h1.symm.trans e)];exact ⟨h1,h2,b⟩
  ·rw [if_neg e,if_neg (fun z=>e (h1.trans z))];exact ⟨h1,h2,h3⟩
theorem KT.put (r:KT H kvs xs) (k:List Key) (c:H b=some (.tup (k.map kV))) (a:RelV y u) :
  KT H (eM kvs k y) (storedH xs k b u):=by
 have e:(kvs.any fun d=>decide (d.1=k))=(atKey xs k).isSome:=by
  rw [oF,(r.val k).isSome_eq,Option.isSome_map]
 unfold eM storedH
 rw [e]
 by_cases q:(atKey xs k).isSome=true
 ·rw [if_pos q,if_pos q];exact r.repl k a
 ·rw [if_neg q,if_neg q];exact Paired.snoc r ⟨rfl,c,a⟩
theorem KT.keeps (r:KT H kvs xs) (a:∀ b ys,H b=some (.tup ys)->H' b=some (.tup ys)):KT H' kvs xs :=
 Paired.mapP r fun _ _ z=>⟨z.1,a _ _ z.2.1,z.2.2⟩
section
variable {P:Program} {w:World} {H:Hp} {h:Heap} {a:Addr}
theorem Aj (ok:HOk P w H h) (e:Rd H a u):ObjOk P w H h a u:=e.ok ok
theorem xy (ok:HOk P w H h) (e:Rd H a (.dK kvs)):kvs.length<=sizeLine/\(a == sysModules)=false/\∃ vs,KV kvs vs/\DictOfE (bR P w) h a vs :=
 show ObjOk P w H h a (.dK kvs) from Aj ok e
theorem Av (ok:HOk P w H h) (e:Rd H a (.dK kvs)):kvs.length<=sizeLine/\(a == sysModules)=false/\∃ vs,KV kvs vs/\h.DictOf (bR P w) a vs:=let ⟨z,y,vs,r,d⟩:=xy ok e;⟨z,y,vs,r,d.of⟩
theorem qT (ok:HOk P w H h) (e:H a=some (.tup (ks.map kV))):(tupleKind (bR P w)).is h ks a:=by
 obtain ⟨_,b,r,o,h1,h2,n,h3⟩:=(show ObjOk P w H h a (.tup (ks.map kV)) from ok a _ e)
 exact ⟨o,b.toArray,n,h1,h2,congrArg Prod.fst h3,by simpa using mq r⟩
theorem xw (ok:HOk P w H h) (e:Rd H a (.dT kvs)):kvs.length<=sizeLine/\(a == sysModules)=false /\
  ∃ xs,KT H kvs xs/\DictOfHE (tupleKind (bR P w)) h a xs:=by
 obtain ⟨z,y,xs,r,o,es,d,h1,h2,h3,c,f⟩:=(show ObjOk P w H h a (.dT kvs) from Aj ok e)
 refine ⟨z,y,xs,r,o,es,d,h1,h2,h3,c,fun x b=>?_,f⟩
 have all:∀ {l:List (List Key × V)} {m:List (List Key × Addr × Value)},KT H l m->∀ x ∈ m,(tupleKind (bR P w)).is h x.1 x.2.1:=by
  intro l m q
  induction q with
  | nil=>intro x b;exact nomatch b
  | @cons p q ps qs hq t ih =>
   intro x b
   rcases C8.mp b with e | b
   ·subst e
    exact qT ok (by rw [<- hq.1];exact hq.2.1)
   ·exact ih x b
 exact all r x b
theorem Au (ok:HOk P w H h) (e:Rd H a (.dT kvs)):kvs.length<=sizeLine/\(a == sysModules)=false /\
  ∃ xs,KT H kvs xs/\h.DictOfH (tupleKind (bR P w)) a xs:=let ⟨z,y,xs,r,d⟩:=xw ok e;⟨z,y,xs,r,d.of⟩
end
def DGet (H:Hp) (a:Addr) (y:V) (r:Option V):Prop :=
 (∃ c k,Rd H a (.dK c)/\y=kV k/\r=jU c k)\/∃ c k b,Rd H a (.dT c)/\y=.ref b/\H b=some (.tup (k.map kV))/\r=jU c k
def DPut (H:Hp) (a:Addr) (y v:V) (H':Hp):Prop :=
 (∃ c k,H a=some (.dK c)/\y=kV k/\c.length < sizeLine/\H'=upd H a (.dK (eM c k v))) \/
 ∃ c k b,H a=some (.dT c)/\y=.ref b/\H b=some (.tup (k.map kV))/\c.length < sizeLine/\H'=upd H a (.dT (eM c k v))
theorem DGet.t (e:H a=some (.dT kvs)) (c:H b=some (.tup (k.map kV))):DGet H a (.ref b) (jU kvs k):=.inr ⟨kvs,k,b,.inl e,rfl,c,rfl⟩
theorem DPut.t (e:H a=some (.dT kvs)) (d:H b=some (.tup (k.map kV))) (c:kvs.length < sizeLine) :
  DPut H a (.ref b) v (upd H a (.dT (eM kvs k v))):=.inr ⟨kvs,k,b,e,rfl,d,c,rfl⟩
section
variable {X:Cx} {pins:List (Addr × Obj)} {σ:St} {H:Hp} {s:Shared} {a:Addr} {y v:V} {u r:Value} {o:Option V} {A:Around} {E:Value->Shared->Prop}
theorem uN (hu:A.units+1 < cLine) (I:Inv X pins σ H s) (g:DGet H a y (some v)) (m:RelV y u) (h:∀ d s',Inv X pins σ H s'->RelV v d->Q d s') :
  wpAny (model X.prog X.w) A (getItem (.ref a) u) Q E s:=by
 rcases g with ⟨i,k,e,j,l⟩ | ⟨i,k,b,e,j,q,l⟩
 ·subst j
  obtain ⟨z,hd,vs,rel,dd⟩:=Av I.hok e
  obtain ⟨d,hw,c⟩:=RelO.some_of (v:=v) (o:=valueAt vs k) (by rw [l];exact rel.val k)
  exact wpAny_getItem_of (wV m) dd.mapOf hw (h d _ (I.tok _) c)
 ·subst j
  cases (show u=Value.ref b from m)
  obtain ⟨z,hd,xs,rel,dd⟩:=Au I.hok e
  obtain ⟨d,hw,c⟩:=RelO.some_of (v:=v) (o:=(atKey xs k).map (·.2)) (by rw [l];exact rel.val k)
  obtain ⟨p,n,f⟩:=C5.mp hw
  refine wpAny_getItem_heap (tupleKind_room_in1 hu) (qT I.hok q) dd n ?_
  rw [f]
  exact h d _ (I.tok _) c
theorem sR {t':Nat} (I:Inv X pins σ H s) (f:Mut (H a)) (d:Heap.SameBut a s.heap h') (he:∃ q,h'.get? a=some q) (new:ObjOk X.prog X.w (upd H a ob) h' a ob) :
  Inv X pins σ (upd H a ob) { s with heap:=h',toks:=t' } :=
 I.write (x:=a) (e:=a) f (.inl rfl) (fun b q c z=>(d.2 b c).trans z) he new
theorem CF (z:kvs.length<=sizeLine) (hd:(a == sysModules)=false) (rel:KV kvs vs) (dd:DictOfE (bR P w) h' a vs) :
  ObjOk P w H' h' a (.dK kvs):=⟨z,hd,vs,rel,dd⟩
theorem uM (hu:A.units+1 < cLine) (I:Inv X pins σ H s) (g:DPut H a y v H') (p:RelV y u) (x:RelV v r) (h:∀ s',Inv X pins σ H' s'->Q () s') :
  wpAny (model X.prog X.w) A (setItem (.ref a) u r) Q E s:=by
 rcases g with ⟨d,k,e,o,l,m⟩ | ⟨d,k,b,e,o,t,l,m⟩
 ·subst o m
  obtain ⟨z,hd,vs,rel,dd⟩:=xy I.hok (.inl e)
  have hz:vs.length<=sizeLine:=by rw [<- rel.length];exact z
  have n:(eM d k v).length<=sizeLine:=by have:=jP d k v;omega
  refine ku (hsz:=hz) (wV p) dd fun h' f j=>h _ ?_
  have he:∃ q,h'.get? a=some q:=let ⟨q,_,_,i,_⟩:=f;⟨q,i⟩
  exact sR I (by rw [e];exact True.intro) j he (CF n hd (rel.put k x) f)
 ·subst o m
  cases (show u=Value.ref b from p)
  obtain ⟨z,hd,xs,rel,dd⟩:=xw I.hok (.inl e)
  have hz:xs.length<=sizeLine:=by rw [<- Paired.length rel];exact z
  have n:(eM d k v).length<=sizeLine:=by have:=jP d k v;omega
  refine lw (hsz:=hz) (tupleKind_room_in1 hu) (qT I.hok t) dd fun h' f j=>h _ ?_
  obtain ⟨q,es,C,i,h2,h3,F,_,D⟩:=f
  refine sR I (by rw [e];exact True.intro) j ⟨q,i⟩ ⟨n,hd,_,(rel.put k t x).keeps fun c ys B=>?_,q,es,C,i,h2,h3,F,D⟩
  rw [ao (ne_of B e (fun z=>nomatch z))]
  exact B
end
theorem pW (I:Inv X pins σ H s) (g:DGet H a y o):s.TypeIs (.ref a) "dict":=by
 rcases g with ⟨c,k,e,_,_⟩ | ⟨c,k,b,e,_,_,_⟩
 ·obtain ⟨_,_,vs,_,dd⟩:=Av I.hok e
  exact dd.typeIs
 ·obtain ⟨_,_,xs,_,dd⟩:=Au I.hok e
  exact dd.typeIs
end L2
namespace L2
open PySem PySem.Spec PyProof.Rows
end L2
end
section
namespace L2
open PySem PySem.Spec PyProof.Rows
def j4 (cells:List (Str × Addr)) (cs:List (Str × Addr)) (x:Str × NameKind):List (Str × Addr) :=
 if x.2 == .free then (match cells.lookup x.1 with | some c=>(x.1,c) :: cs | none=>cs) else cs
def clo (cells:List (Str × Addr)) (names:List (Str × NameKind)):List (Str × Addr):=names.foldl (j4 cells) []
theorem kY {α β:Type} {f:α->β->Sem (ForInStep β)} {g:β->α->β}:∀ {l:List α} {c:β},(∀ x ∈ l,∀ c,f x c=pure (.yield (g c x)))->forIn l c f=pure (l.foldl g c)
 | [],c,_=>rfl
 | x :: l,c,h=>by
  rw [List.forIn_cons,h x C2,pure_bind]
  exact kY fun y a=>h y (C3 _ a)
theorem dG (h:∀ x ∈ scope.names,x.2=.free->∃ c,env.cells.lookup x.1=some c):closureFor scope env=pure (clo env.cells scope.names):=by
 simp only [closureFor]
 rw [kY (g:=j4 env.cells) (fun x i c=>by
  obtain ⟨n,kind⟩:=x
  unfold j4
  by_cases b:kind=.free
  ·subst b
   obtain ⟨a,e⟩:=h _ i rfl
   have f:env.cells.lookup n=some a:=e
   simp [cellOf,f]
  ·have d:(kind == NameKind.free)=false:=by simpa using b
   simp [d])]
 rfl
theorem mw:∀ {l:List (Str × NameKind)} {cs:List (Str × Addr)},(∀ y d,cs.lookup y=some d->cells.lookup y=some d)->(l.foldl (j4 cells) cs).lookup x=some c->cells.lookup x=some c
 | [],cs,h,e=>h x c e
 | y :: l,cs,h,e=>by
  refine mw (l:=l) (cs:=j4 cells cs y) (fun z d q=>?_) e
  unfold j4 at q
  split at q
  ·cases b:cells.lookup y.1 with
   | none=>rw [b] at q;exact h z d q
   | some a =>
    rw [b] at q
    simp only [List.lookup_cons] at q
    cases hz:z == y.1 with
    | true=>rw [hz] at q;have:=eq_of_beq hz;subst this;rw [b];exact q
    | false=>rw [hz] at q;exact h z d q
  ·exact h z d q
theorem i6 (e:(clo cells l).lookup x=some c):cells.lookup x=some c:=mw (fun _ _ q=>by simp at q) e
theorem kZ (d:cells.lookup x=some c):∀ {l:List (Str × NameKind)} {cs:List (Str × Addr)},cs.lookup x=some c->(l.foldl (j4 cells) cs).lookup x=some c
 | [],_,e=>e
 | y :: l,cs,e=>by
  refine kZ d (l:=l) (cs:=j4 cells cs y) ?_
  unfold j4
  split
  ·cases b:cells.lookup y.1 with
   | none=>exact e
   | some a =>
    simp only [List.lookup_cons]
    cases hz:x == y.1 with
    | true=>have:=eq_of_beq hz;subst this;rw [d] at b;exact b.symm
    | false=>exact e
  ·exact e
theorem my (a:cells.lookup x=some c):∀ {l:List (Str × NameKind)} {cs:List (Str × Addr)},(x,NameKind.free) ∈ l->(l.foldl (j4 cells) cs).lookup x=some c
 | [],_,m=>by simp at m
 | y :: l,cs,m=>by
  rcases C8.mp m with rfl | m
  ·refine kZ a (l:=l) ?_
   simp [j4,a]
  ·exact my a (l:=l) (cs:=j4 cells cs y) m
theorem sS (a:cells.lookup x=some c) (m:(x,NameKind.free) ∈ l):(clo cells l).lookup x=some c:=my a m
theorem iO {env:Env}:∀ {names:List (Str × NameKind)} {x:Str},names.lookup x=some .free ->
  (names.map fun (n,k)=>if (k == NameKind.free && env.scope.kind == .function && env.kindOf n == some .cell) then (n,NameKind.cell) else (n,k)).lookup x=some .cell \/
  (names.map fun (n,k)=>if (k == NameKind.free && env.scope.kind == .function && env.kindOf n == some .cell) then (n,NameKind.cell) else (n,k)).lookup x=some .free
 | [],_,h=>by simp at h
 | (n,k) :: r,x,h=>by
  have b:=@iO env r x
  show List.lookup x ((if (k == NameKind.free && env.scope.kind == .function && env.kindOf n == some .cell)=true then (n,NameKind.cell) else (n,k)) :: _)=_ \/
   List.lookup x ((if (k == NameKind.free && env.scope.kind == .function && env.kindOf n == some .cell)=true then (n,NameKind.cell) else (n,k)) :: _)=_
  cases a:x == n with
  | true =>
   simp only [List.lookup_cons,a] at h
   cases h
   split
   ·left;simp [List.lookup_cons,a]
   ·right;simp [List.lookup_cons,a]
  | false =>
   simp only [List.lookup_cons,a] at h
   split
   ·simp only [List.lookup_cons,a];exact b h
   ·simp only [List.lookup_cons,a];exact b h
theorem kC {env:Env}:∀ {names:List (Str × NameKind)} {x:Str},(∀ y ∈ names,y.2 ≠ .cell) ->
  ((names.map fun (n,k)=>if (k == NameKind.free && env.scope.kind == .function && env.kindOf n == some .cell) then (n,NameKind.cell) else (n,k)).lookup x=some .cell \/
  (names.map fun (n,k)=>if (k == NameKind.free && env.scope.kind == .function && env.kindOf n == some .cell) then (n,NameKind.cell) else (n,k)).lookup x=some .free)->(x,NameKind.free) ∈ names
 | [],_,_,h=>by simp at h
 | (n,k) :: r,x,hc,h=>by
  have c:=@kC env r x (fun y f=>hc y (C3 _ f))
  have b:=hc (n,k) C2
  have h':List.lookup x ((if (k == NameKind.free && env.scope.kind == .function && env.kindOf n == some .cell)=true then (n,NameKind.cell) else (n,k)) :: (r.map fun (n,k)=>if (k == NameKind.free && env.scope.kind == .function && env.kindOf n == some .cell) then (n,NameKind.cell) else (n,k)))=some .cell \/
   List.lookup x ((if (k == NameKind.free && env.scope.kind == .function && env.kindOf n == some .cell)=true then (n,NameKind.cell) else (n,k)) :: (r.map fun (n,k)=>if (k == NameKind.free && env.scope.kind == .function && env.kindOf n == some .cell) then (n,NameKind.cell) else (n,k)))=some .free:=h
  cases a:x == n with
  | true =>
   have e:=eq_of_beq a
   subst e
   by_cases hf:k=.free
   ·subst hf;exact C2
   ·exfalso
    have d:(k == NameKind.free)=false:=by simpa using hf
    simp [d,List.lookup_cons] at h'
    rcases h' with q | q
    ·exact b q
    ·exact hf q
  | false =>
   refine C3 _ (c ?_)
   split at h'
   ·simpa only [List.lookup_cons,a] using h'
   ·simpa only [List.lookup_cons,a] using h'
def am (X:Cx) (NY:List Str) (scope:Scope) (s:Shared) (H:Hp) (C:Addr) (fp:List Addr):Cx where
 prog:=X.prog
 w:=X.w
 K:=X.K
 mg:=X.mg
 base:=X.base
 A:=X.A
 N:=NY
 s₀:=s
 H₀:=H
 env:=compEnvC scope (clo X.env.cells scope.names) C X.env
 outer:=X.stack
 stack:=X.stack
 ex:=fp
 fn:=fun _=>false
 calm:=X.calm
 pn:=[]
 xe:=fun _ _=>False
def cap (ix:List (Option Nat)) (σ:St):St:=ix.map fun o=>match o with | some i=>(σ[i]?).getD none | none=>none
def dF (sc:Scope) (b:List Str) (a:Scope) (NY:List Str) (ix:List (Option Nat)):Bool :=
 sc.kind == .function && sc.names.all (fun y=>y.2 != .cell) && sc.names.all (fun y=>y.2 != .local || sc.names.lookup y.1 == some .local) && sc.names.all (fun y=>y.2 != .free || sc.names.lookup y.1 == some .free)
  && sc.names.all (fun y=>y.2 != .free || (a.names.lookup y.1 == some .cell || a.names.lookup y.1 == some .free))
  && ix.length == NY.length && (NY.zip ix).all fun p=>match p.2 with | none=>true | some i=>(b[i]? == some p.1) && sc.names.contains (p.1,NameKind.free)
structure CompOk (sc:Scope) (XN:List Str) (Xsc:Scope) (NY:List Str) (ix:List (Option Nat)):Prop where
 kind:sc.kind=.function
 nocell:∀ y ∈ sc.names,y.2 ≠ .cell
 loc:∀ y ∈ sc.names,y.2=.local->sc.names.lookup y.1=some .local
 fre:∀ y ∈ sc.names,y.2=.free->sc.names.lookup y.1=some .free
 out:∀ y ∈ sc.names,y.2=.free->Xsc.names.lookup y.1=some .cell\/Xsc.names.lookup y.1=some .free
 len:ix.length=NY.length
 cap:∀ (j:Nat) x i,NY[j]?=some x->ix[j]?=some (some i)->XN[i]?=some x/\(x,NameKind.free) ∈ sc.names
theorem CompOk.of (h:dF sc XN Xsc NY ix=true):CompOk sc XN Xsc NY ix:=by
 simp only [dF,Bool.and_eq_true,List.all_eq_true,beq_iff_eq] at h
 obtain ⟨⟨⟨⟨⟨⟨h1,h2⟩,h3⟩,g⟩,d⟩,f⟩,b⟩:=h
 refine ⟨h1,fun y a=>by simpa using h2 y a,fun y a e=>?_,fun y a e=>?_,fun y a e=>?_,f,fun j x i e1 c=>?_⟩
 ·have:=h3 y a;rw [e] at this;simpa using this
 ·have:=g y a;rw [e] at this;simpa using this
 ·have:=d y a;rw [e] at this;simpa using this
 ·have m:(x,some i) ∈ NY.zip ix:=by
   refine Df (i:=j) ?_
   rw [List.getElem?_zip_eq_some]
   exact ⟨e1,c⟩
  have:=b _ m
  simpa using this
section
variable {X:Cx}
theorem FpOk.of_upd (f:FpOk X pins H b) (h:b ≠ D):FpOk X pins (upd H D o) b:=⟨by rw [ao h];exact f.1,f.2⟩
theorem HOk.track (x:HOk P w H h) (f:H a=none) (new:ObjOk P w (upd H a o) h a o):HOk P w (upd H a o) h:=fun b u e=>by
 by_cases d:b=a
 ·subst d;rw [aI] at e;cases e;exact new
 ·rw [ao d] at e
  exact (x b u e).stay (fun c v _ q=>q) (fun c q=>by rw [ao (aN q f)];exact q) fun c xs q=>by rw [ao (aN q f)];exact q
def PTs (Y:Cx) (ifs:List Expr) (t:TT):Prop :=
 ∀ (pins:List (Addr × Obj)) (s:Shared) (σ:St) (H:Hp) (Q:Bool->Hp->Prop),Inv Y pins σ H s->t σ H Q ->
  wpAny (model Y.prog Y.w) Y.A (forIn ifs true fun c r=>if r=true then do let ok <- isTrue c Y.env (eval c Y.env);pure (ForInStep.yield ok) else pure (ForInStep.yield r)) (TP Y pins σ Q) Y.xe s
def tYes:TT:=fun _ H Q=>Q true H
theorem yU:PTs Y [] tYes:=fun pins s σ H Q I h=>wpAny_tests_nil ⟨H,I,h⟩
theorem yT (h:PT Y c t):PTs Y [c] t:=fun pins s σ H Q I q=>wpAny_tests_one (h pins s σ H Q I q)
def mK (J:It) (g:TG) (tc:TT) (te:TE) (Z:List V->Hp->Prop) (τ0:St) (H1:Hp):Prop :=
 ∃ W:Nat->Nat->List V->St->Hp->Prop,(∃ m,W 0 m [] τ0 H1)/\∀ i m ys τ H,W i m ys τ H->ys.length < sizeLine /\
  ((J.stop i H/\Z ys H)\/(J.go i H/\∃ N:List V->St->Hp->Prop,(∀ a τ' H',N a τ' H'->∃ d,d < m/\W (i+1) d a τ' H')/\∀ x H',J.yld i H x H'->g x τ H' fun τ2 H2=>tc τ2 H2 fun b c =>
   if b=true then te τ2 c fun y e=>N (ys ++ [y]) τ2 e else N ys τ2 c))
def vj (a:TI) (g:TG) (tc:TT) (te:TE) (ix:List (Option Nat)):TE:=fun σ H Q =>
 a σ H fun J H1=>mK J g tc te (fun ys H2=>∀ p,H2 p=none->Q (.ref p) (upd H2 p (.lst ys))) (cap ix σ) H1
theorem la (g:CompOk scope X.N X.env.scope NY ix) (I:Inv X pins σ H s) (f:∀ b ∈ fp,FpOk X pins H b) (n:s.heap.objs.size<=C) (t:∀ b ∈ fp,b < s.heap.objs.size) (P:s4.os=s.os) (F:s4.gens=s.gens) (keep:∀ b o,s.heap.get? b=some o->s4.heap.get? b=some o) (ns:s4.heap.Ns C fun _=>none):Inv (am X NY scope s H C fp) [] (cap ix σ) H s4:=by
 have L:FpOk X pins H C:=I.fpOk n (I.hok.fresh n)
 have cls:∀ x c,(clo X.env.cells scope.names).lookup x=some c->X.env.cells.lookup x=some c:=fun x c e=>i6 e
 have j:∀ x,(x,NameKind.free) ∈ scope.names->∃ c,X.env.cells.lookup x=some c:=fun x m=>by
  rcases g.out _ m rfl with q | q
  ·exact I.ok.has x (.inl q)
  ·exact I.ok.has x (.inr q)
 refine ⟨⟨I.ok.mod,g.kind,I.ok.glob,I.ok.blt,n,fun x y c e1 d=>I.ok.inj x y c (cls x c e1) (cls y c d),fun x G=>?_,fun x c e _=>(Dk e).elim,fun e=>I.ok.hd e,I.ok.frames,.inl rfl,fun b h=>⟨Dl (Dq (t b h) n),fun x c e=>(f b h).2.2.2.2.1 x c (cls x c e)⟩,
  I.bs,DF I.ok.bsz I.sz,fun b o e h=>?_,fun b h hz=>?_,I.stack,I.stkFree⟩,P,by rw [F];exact I.bare,Un.kept keep,⟨_,ns,fun i x v e1 d S=>?_⟩,fun x c e=>?_,L.1,fun x c e=>I.freeC x c (cls x c e),fun p M=>absurd (show p ∈ ([]:List (Addr × Obj)) from M) (by simp),I.hok.kept keep,?_⟩
 ·have m:(x,NameKind.free) ∈ scope.names:=kC g.nocell G
  obtain ⟨c,e⟩:=j x m
  exact ⟨c,sS e m⟩
 ·rcases (f b h).2.2.2.1 with z | z
  ·exact I.ok.noex b o e z
  ·exact absurd (Dq (Da e) (DF I.ok.bsz z)) (Nat.lt_irrefl _)
 ·rcases C8.mp (I.stkSub b hz) with e | e
  ·exact (f b h).2.1 e
  ·exact (f b h).2.2.1 e
 ·-- a captured name
  have q:∃ k,ix[i]?=some (some k)/\σ[k]?=some (some v):=by
   unfold cap at d
   rw [Di] at d
   cases e:ix[i]? with
   | none=>rw [e] at d;simp at d
   | some o =>
    rw [e] at d
    cases o with
    | none=>simp at d
    | some k =>
     refine ⟨k,rfl,?_⟩
     simp only [Dw,Option.some.injEq] at d
     cases e':σ[k]? with
     | none=>rw [e'] at d;simp at d
     | some o'=>rw [e'] at d;simp at d;rw [d]
  obtain ⟨k,D,ev⟩:=q
  obtain ⟨J,m⟩:=g.cap i x k e1 D
  obtain ⟨R,E,K⟩:=I.loc
  have Q:Vis X.env.scope x:=by
   rcases g.out _ m rfl with q | q
   ·exact .inr (.inl q)
   ·exact .inr (.inr q)
  obtain ⟨u,r,l⟩:=K k x v J ev Q
  refine ⟨u,r,.inr ?_⟩
  rcases l with ⟨A,_⟩ | ⟨_,c,B,O⟩
  ·exfalso
   rcases g.out _ m rfl with q | q
   ·have:=A.symm.trans q;cases this
   ·have:=A.symm.trans q;cases this
  ·obtain ⟨o,w,hd⟩:=O
   exact ⟨iO (g.fre _ m rfl),c,sS B m,o,keep c o w,hd⟩
 ·obtain ⟨v,o,w,hd⟩:=I.cell x c (cls x c e)
  exact ⟨v,o,keep c o w,hd⟩
 ·show (cap ix σ).length=NY.length
  unfold cap
  rw [Dd]
  exact g.len
theorem cZ (I:Nat->Shared->Prop) (turn:∀ n s,I n s->wpAny (model prog w) A (pyNext it) (fun r e=>match r with
   | none=>R (.ok .next) e
   | some v=>wpAny (model prog w) A (letOwnedTupleGo target it v) (fun _ a=>wpAny (model prog w) A (assign target env v) (fun _ f =>
     wpAny (model prog w) A (forIn ifs true fun c r=>if r=true then do let ok <- isTrue c env (eval c env);pure (ForInStep.yield ok) else pure (ForInStep.yield r)) (fun ok d =>
      if ok=true then wpAny (model prog w) A (eval elt env) (fun x i =>
       wpAny (model prog w) A (call (.builtin "list.append") [acc,x]) (fun _ g=>∃ m,m < n/\I m g) (fun _ _=>False) i) (fun _ _=>False) d
      else ∃ m,m < n/\I m d) (fun _ _=>False) f) (fun _ _=>False) a) (fun _ _=>False) e) (fun _ _=>False) s) (n:Nat) (h:I n s) :
  codeAny (model prog w) A (.compLoop (.ListComp elt [⟨target,iter,ifs,0⟩] scope pos) 0 it acc env) R s:=by
 refine codeAny_loop rfl I (fun n s l=>?_) n h
 show wpAny _ A ((compTurn (.ListComp elt [⟨target,iter,ifs,0⟩] scope pos) 0 it acc env).onRaise (fun x=>do noteFrame x env;theTreesLotGoes x)) _ _ s
 refine wpAny_noted ?_
 rw [compTurn_list]
 refine CY (wpAny_standAt (CY (wpAny_mono (turn n s l) (fun r e k=>?_) fun _ _ h'=>h'.elim)))
 cases r with
 | none=>exact CZ k
 | some v =>
  refine CY (wpAny_mono k (fun _ a b=>?_) fun _ _ h'=>h'.elim)
  refine CY (wpAny_mono b (fun _ f o=>CY (wpAny_mono o (fun ok d j=>?_) fun _ _ h'=>h'.elim)) fun _ _ h'=>h'.elim)
  cases ok with
  | false=>exact CZ ⟨rfl,j⟩
  | true =>
   exact CY (CY (wpAny_mono j (fun x i q=>CY (wpAny_mono q (fun _ g p=>CZ (CZ ⟨rfl,p⟩)) fun _ _ h'=>h'.elim)) fun _ _ h'=>h'.elim))
theorem pY {RR:Value->Addr->Result->Shared->Prop} (hc:X.calm=true) (ck:CompOk scope X.N X.env.scope NY ix) (hg:∀ s H C fp,PG (am X NY scope s H C fp) tg g) (ht:∀ s H C fp,PTs (am X NY scope s H C fp) ifs tc) (he:∀ s H C fp,PE (am X NY scope s H C fp) elt te) (I:Inv X pins σ H s) (T:Turn X.prog X.w X.K tg J fp it tn) (st:tn 0 s.heap) (f:∀ b ∈ fp,FpOk X pins H b) (hW:mK J g tc te Z (cap ix σ) H) (b3:∀ D C s' ys H' m,s'.heap.Ns C m->H' D=none->FpOk X pins (upd H' D (.lst ys)) C->Inv X pins σ (upd H' D (.lst ys)) s'->Z ys H'->RR (.ref D) C (.ok .next) s') :
  wpAny (model X.prog X.w) X.A (newList []) (fun acc s₃=>wpAny (model X.prog X.w) X.A (newFunctionEnv scope X.env.globals (clo X.env.cells scope.names) [] X.env.qual none .none (some X.env)) (fun G s₄ =>
   codeAny (model X.prog X.w) X.A (.compStart (.ListComp elt [⟨tg,iter,ifs,0⟩] scope pos) 0 (.ref it) acc { G with scope:=relabel scope X.env }) (RR acc G.locals) s₄) E s₃) E s:=by
 obtain ⟨W,⟨m0,w0⟩,turn⟩:=hW
 refine wpAny_newObj_type (wpAny_newFunctionEnv ck.nocell (by intro y hy;simp at hy) (fun h₁ t k=>?_) ck.kind)
 dsimp only at t k ⊢
 generalize R:s.heap.push { cls:=.type "list",dict:=none,data:=.seq ([]:List Value).toArray }=H2 at t k ⊢
 have ae:H2.objs.size=s.heap.objs.size+1:=by rw [<- R,DD]
 have F:s.heap.objs.size ≠ H2.objs.size:=by rw [ae];exact Dl (Nat.lt_succ_self _)
 have j:s.heap.objs.size<=H2.objs.size:=by rw [ae];exact Nat.le_succ _
 generalize M:s.heap.objs.size=D at *
 generalize hC:H2.objs.size=C at *
 have below:∀ b o,s.heap.get? b=some o->b < D:=fun b o e=>by rw [<- M];exact Da e
 have old:∀ b o,s.heap.get? b=some o->h₁.get? b=some o:=fun b o e=>k.extBut b o (Dl (Dq (below b o e) j)) (C4 _ (R ▸ C4 _ e))
 have Q:H2.get? D=some { cls:=.type "list",dict:=none,data:=.seq ([]:List Value).toArray }:=by
  rw [<- R,<- M];exact Dc _ rfl
 have a5:h₁.PlainList D #[]:=⟨_,k.extBut _ _ F (C4 _ Q)⟩
 have ax:∀ b ∈ fp,b < s.heap.objs.size:=fun b h=>by
  obtain ⟨o,e,_⟩:=T.obj 0 _ st b h
  exact Da e
 have B:∀ b ∈ fp,b < D:=fun b h=>by rw [<- M];exact ax b h
 have IY:Inv (am X NY scope s H C fp) [] (cap ix σ) H { s with heap:=h₁,toks:=s.toks+([]:List (Str × Value)).length } :=
  la ck I f (by rw [M];exact j) ax rfl rfl old t
 have cm:H D=none:=I.hok.fresh (by rw [M];exact Dj _)
 have l:∀ b ∈ frs X.stack,b < D:=fun b h=>by
  obtain ⟨_,o,ho,_⟩:=I.stack.mem h
  exact below b o ho
 have loop:∀ s₃:Shared,s₃ = { s with heap:=h₁,toks:=s.toks+([]:List (Str × Value)).length } ->
   codeAny (model X.prog X.w) X.A (.compLoop (.ListComp elt [⟨tg,iter,ifs,0⟩] scope pos) 0 (.ref it) (.ref D) (am X NY scope s H C fp).env) (RR (.ref D) C) s₃:=by
  rintro s₃ rfl
  refine cZ (fun n s'=>∃ i ys τ H' a,Inv (am X NY scope s H C fp) [] τ H' s'/\H' D=none/\s'.heap.PlainList D a/\Vals ys a.toList/\tn i s'.heap/\(∀ b ∈ fp,H' b=none)/\W i n ys τ H') ?_ m0
   ⟨0,[],cap ix σ,H,#[],IY,cm,a5,.nil,T.keep _ _ _ st fun b _ o e=>old b o e,fun b h=>(f b h).1,w0⟩
  rintro n s3 ⟨i,ys,τ,U,a,I3,d3,l3,v3,Y,ar,w3⟩
  obtain ⟨nl,e3⟩:=id l3
  have a6:Inv (am X NY scope s H C fp) [(D,{ cls:=.type "list",data:=.seq a nl })] τ U s3:=I3.pins_of fun p hp=>by
   have e:p=(D,{ cls:=.type "list",data:=.seq a nl }):=by simpa using hp
   subst e
   exact ⟨e3,d3,F,fun z=>Nat.lt_irrefl _ (l D z),fun v z=>by cases z⟩
  have O:∀ {H':Hp} {pl:List (Addr × Obj)},(∀ b ∈ fp,H' b=none)->(∀ p ∈ pl,p.1=D)->∀ b ∈ fp,FpOk (am X NY scope s H C fp) pl H' b:=fun hn hp b h =>
   ⟨hn b h,Dl (Dq (B b h) j),fun z=>by
    rcases C8.mp (I.stkSub b z) with e | e
    ·exact (f b h).2.1 e
    ·exact (f b h).2.2.1 e,.inl h,fun x c e=>(f b h).2.2.2.2.1 x c (i6 e),fun p cv=>by
    have e:p.1=D:=hp p ((Db.mp cv).elim (fun z=>absurd (show p ∈ ([]:List (Addr × Obj)) from z) (by simp)) fun z=>z)
    rw [e]
    exact Nat.ne_of_gt (B b h)⟩
  obtain ⟨zl,step⟩:=turn i n ys τ U w3
  have single:∀ p ∈ [(D,({ cls:=.type "list",data:=.seq a nl }:Obj))],p.1=D:=fun p hp=>by
   have e:p=(D,{ cls:=.type "list",data:=.seq a nl }):=by simpa using hp
   rw [e]
  rcases step with ⟨stop,qn⟩ | ⟨go,N,hN,step⟩
  ·refine wpAny_mono (T.done (am X NY scope s H C fp) rfl rfl rfl hc i _ s3 τ U (fun _ _=>False) a6 (O ar single) Y stop) (fun r s4 ⟨hr,S⟩=>?_) fun _ _ e=>e
   subst hr
   obtain ⟨mC,cf,_⟩:=id S.loc
   obtain ⟨e4,V,_⟩:=S.pin (D,{ cls:=.type "list",data:=.seq a nl }) (by simp [am])
   have bt:∀ b o,s.heap.get? b=some o->b ≠ D:=fun b o e=>Dl (below b o e)
   have P:=S.base
   refine b3 D C s4 ys U mC cf V ?_ ?_ qn
   ·exact (I.fpOk (by rw [M];exact j) (by exact S.free)).of_upd (Ne.symm F)
   ·refine I.call' (ch:=fp) S.os (H':=upd U D (.lst ys)) ⟨P.keep,P.slot,fun b o e n hx=>?_,P.there,fun b xs e=>?_,fun b o u e=>?_,fun b ps e=>?_⟩ ?_ S.bare fun b h=>?_
    ·rw [ao (bt b o e)];exact P.free b o e n hx
    ·have q:=P.tups b xs e;rw [ao (aN q V)];exact q
    ·have q:=P.frzs b o u e;rw [ao (aN q V)];exact q
    ·obtain ⟨more,q⟩:=P.tbls b ps e;exact ⟨more,by rw [ao (aN q V)];exact q⟩
    ·exact S.hok.track V ⟨Nat.le_of_lt zl,a.toList,nl,v3,by simpa using e4⟩
    ·exact ⟨(f b h).2.2.2.1,(f b h).2.1,(f b h).2.2.2.2.1,(f b h).2.2.2.2.2⟩
  ·refine wpAny_mono (T.item (am X NY scope s H C fp) rfl rfl rfl hc i _ s3 τ U (fun _ _=>False) a6 (O ar single) Y go) (fun r s4 ⟨u,hr,h4⟩=>?_) fun _ _ e=>e
   subst hr
   refine wpAny_mono h4 (fun _ s5 ⟨x,H5,I5,r5,y5,L,c0⟩=>?_) fun _ _ e=>e
   have b4:=I5.pinned (O c0 single) (T.obj _ _ L)
   refine wpAny_mono (hg s H C fp _ s5 τ H5 x u _ b4 r5 (step x H5 y5)) (fun _ s6 ⟨τ6,H6,I6,q6⟩=>?_) fun _ _ e=>e
   refine wpAny_mono (ht s H C fp _ s6 τ6 H6 _ I6 q6) (fun b s7 ⟨H7,I7,q7⟩=>?_) fun _ _ e=>e
   have after:∀ {s':Shared} {H':Hp},Inv (am X NY scope s H C fp) ([(D,{ cls:=.type "list",data:=.seq a nl })] ++ jl fp s5.heap) τ6 H' s'->tn (i+1) s'.heap/\(∀ b ∈ fp,H' b=none)/\H' D=none/\s'.heap.PlainList D a:=fun {s' H'} I' =>
    ⟨T.keep _ _ _ L fun b h o e=>(I'.pin (b,o) (C7 _ (C7 _ (cQ h e)))).1,fun b h=>by
     obtain ⟨o,e,d⟩:=T.obj _ _ L b h
     exact (I'.pin (b,o) (C7 _ (C7 _ (cQ h e)))).2.1,(I'.pin (D,_) (C7 _ (C6 _ (Dy.mpr rfl)))).2.1,
     nl,(I'.pin (D,_) (C7 _ (C6 _ (Dy.mpr rfl)))).1⟩
   cases b with
   | false =>
    rw [if_neg Dk]
    rw [if_neg Dk] at q7
    obtain ⟨m',hm,w7⟩:=hN _ _ _ q7
    obtain ⟨a1,a2,a3,a4⟩:=after I7
    exact ⟨m',hm,i+1,ys,τ6,H7,a,I7.pins_of (fun _ z=>absurd z (by simp)),a3,a4,v3,a1,a2,w7⟩
   | true =>
    rw [if_pos rfl]
    rw [if_pos rfl] at q7
    refine wpAny_mono (he s H C fp _ s7 τ6 H7 _ I7 q7) (fun y s8 ⟨yv,H8,I8,r8,n8⟩=>?_) fun _ _ e=>e
    obtain ⟨m',hm,w8⟩:=hN _ _ _ n8
    obtain ⟨a1,a2,a3,a4⟩:=after I8
    have c3:ys.length=a.size:=by simpa using v3.length
    have hsz:a.size<=sizeLine:=by omega
    refine wpAny_list_append_plain (hsz:=hsz) a4 fun h9 l9 az=>?_
    have I9:Inv (am X NY scope s H C fp) [] τ6 H8 { s8 with heap:=h9,toks:=s8.toks }:=(I8.pins_of (pins':=[]) fun _ z=>absurd z (by simp)).turned (it:=D) (fun b o h e=>(az.2 b h).trans e) a3 F (.inr (by show s.heap.objs.size<=D;rw [M];exact Dj _)) (fun x c e z=>?_) fun p z=>absurd (show p ∈ ([]:List (Addr × Obj)) from z) (by simp)
    ·refine ⟨m',hm,i+1,ys ++ [yv],τ6,H8,a.push y,I9,a3,l9,?_,T.keep _ _ _ a1 fun b h o e=>(az.2 b (Dl (B b h))).trans e,a2,w8⟩
     rw [Array.toList_push]
     exact v3.append (.cons r8 .nil)
    ·obtain ⟨v,o,ho,_⟩:=I.cell x c (i6 e)
     exact Nat.lt_irrefl _ (z ▸ below c o ho)
 exact codeAny_compStart_list (loop _ rfl) (T.self X.A 0 _ _ _ (T.keep _ _ _ st fun b _ o e=>old b o e) (loop _ rfl))
theorem y7 (NY:List Str) (ix:List (Option Nat)) (y:X.calm=true) (hi:PI X tg iter wi) (n:∀ s H C fp,PG (am X NY scope s H C fp) tg g) (p:∀ s H C fp,PTs (am X NY scope s H C fp) ifs tc) (he:∀ s H C fp,PE (am X NY scope s H C fp) elt te) (a:dF scope X.N X.env.scope NY ix=true) (k:∀ x,foldedSetIterable iter X.env x=pure x:=by intro _;rfl):PE X (.ListComp elt [⟨tg,iter,ifs,0⟩] scope pos) (vj wi g tc te ix):=by
 intro pins s σ H Q I h
 have a:=CompOk.of a
 rw [eval_ListComp]
 refine wpAny_comprehension_free (use:=none) rfl k (dG (scope:=scope) (env:=X.env) fun x m e=>?_) a.kind a.loc (thn (hi pins s σ H _ I h) fun v s1 h1=>thn h1 fun d s2 h2=>?_)
 ·rcases a.out x m e with q | q
  ·exact I.ok.has x.1 (.inl q)
  ·exact I.ok.has x.1 (.inr q)
 ·obtain ⟨it,fp,F,J,H2,e,E,T,c,f2,t⟩:=h2
  subst e
  refine pY (RR:=fun acc C=>compPost (model X.prog X.w) X.A X.xe none (EP X pins σ Q) acc C) y a n p he E T c f2 t ?_
  intro D C s' ys H' m B z r f l
  obtain ⟨f0,f1,f2,j,f4,u⟩:=r
  exact ⟨m,B,fun h' sb=>⟨.ref D,_,f.turned (t':=s'.toks) (fun b o i e=>(sb.2 b i).trans e) f0 f1 j f4 u,rfl,l D z⟩⟩
def Ai (i:Nat) (a:TI) (g:TG) (tc:TT) (te:TE) (ix:List (Option Nat)):TS:=fun D σ H =>
 a σ H fun J H1=>mK J g tc te (fun ys H2=>∀ p,H2 p=none->D.nx (σ.set i (some (.ref p))) (upd H2 p (.lst ys))) (cap ix σ) H1
theorem qC {i:Nat} (t:X.N.Nodup) (Z:X.N[i]?=some y) (L:Loc X.env.scope y) (NY:List Str) (ix:List (Option Nat)) (S:X.calm=true) (hi:PI X tg iter wi) (G:∀ s H C fp,PG (am X NY scope s H C fp) tg g) (M:∀ s H C fp,PTs (am X NY scope s H C fp) ifs tc) (he:∀ s H C fp,PE (am X NY scope s H C fp) elt te) (c:dF scope X.N X.env.scope NY ix=true) (f:swapsWith (.ListComp elt [⟨tg,iter,ifs,0⟩] scope pos) (some (.Name y py)) spos.line X.env=pure true:=by rfl) (hf:X.fn y=true\/X.env.scope.names.lookup y=some .local:=by first | exact .inl rfl | exact .inr rfl | assumption) (F:∀ x,foldedSetIterable iter X.env x=pure x:=by intro _;rfl):PS X (.Assign [.Name y py] (.ListComp elt [⟨tg,iter,ifs,0⟩] scope pos) spos) (Ai i wi g tc te ix):=by
 intro pins s σ H D I h
 have c:=CompOk.of c
 rw [exec_Assign_Name_used _ _ _ _ f]
 refine CY (wpAny_standAt (CY ?_))
 show wpAny _ X.A (do let _ <- comprehension (.ListComp elt [⟨tg,iter,ifs,0⟩] scope pos) scope X.env _ (newList []) false (eval iter X.env) (some (assign (.Name y py) X.env))) _ _ s
 refine CY (wpAny_mono (wpAny_comprehension_free (use:=some (assign (.Name y py) X.env)) (Q:=fun _ s'=>SP X pins D .next s') rfl F (dG (scope:=scope) (env:=X.env) fun x m e=>?_) c.kind c.loc
  (thn (hi pins s σ H _ I h) fun v s1 h1=>thn h1 fun r s2 h2=>?_)) (fun _ s' V=>CZ (CZ V)) fun _ _ e=>e)
 ·rcases c.out x m e with q | q
  ·exact I.ok.has x.1 (.inl q)
  ·exact I.ok.has x.1 (.inr q)
 ·obtain ⟨it,fp,tn,J,H2,e,Y,T,d,f2,P⟩:=h2
  subst e
  refine pY (RR:=fun acc C=>compPost (model X.prog X.w) X.A X.xe (some (assign (.Name y py) X.env)) (fun _ s'=>SP X pins D .next s') acc C) S c G M he Y T d f2 P ?_
  intro n C s' ys H' m W U O u K
  obtain ⟨f0,f1,f2,E,f4,R⟩:=O
  show wpAny _ X.A (assign (.Name y py) X.env (.ref n)) _ _ _
  refine wpAny_assign_Name (lR u t Z L (v:=.ref n) rfl (fun j l ⟨a,sb,ha⟩=>?_) hf)
  have k:C ≠ a:=by
   rcases ha with e | e
   ·rw [e];exact f1
   ·exact fun z=>f4 y a e z.symm
  exact ⟨m,W.sameBut sb k,fun h' p=>⟨_,_,l.turned (t':=j.toks) (fun b o B e=>(p.2 b B).trans e) f0 f1 E f4 R,K n U⟩⟩
end
end L2
end
section
namespace L2
open PySem PySem.Spec PyProof.Rows
section
variable {X:Cx}
inductive KindOf (K:FG) (H:Hp):V->String->Prop
 | int (i:Int):KindOf K H (.int i) "int"
 | bool (b:Bool):KindOf K H (.bl b) "bool"
 | str (x:Str):KindOf K H (.str x) "str"
 | non:KindOf K H .non "NoneType"
 | tuple {a:Addr} {xs:List V}:SqT K H a xs->KindOf K H (.ref a) "tuple"
 | list {a:Addr} {xs:List V}:SqL K H a xs->KindOf K H (.ref a) "list"
 | dK {a:Addr} {kvs}:H a=some (.dK kvs)->KindOf K H (.ref a) "dict"
 | dT {a:Addr} {kvs}:H a=some (.dT kvs)->KindOf K H (.ref a) "dict"
def nG (k t:String):Bool:=k == t || (k == "bool" && t == "int")
theorem Inv.clsK (I:Inv X pins σ H s) (h:KindOf X.K H (.ref a) k):∃ o,s.heap.get? a=some o/\o.cls=.type k:=by
 cases h with
 | tuple h=>obtain ⟨b,_,⟨o,e,c,_⟩,_⟩:=I.tuple h;exact ⟨o,e,c⟩
 | list h=>obtain ⟨b,_,⟨o,n,e,c,_⟩,_⟩:=I.list h;exact ⟨o,e,c⟩
 | dK h=>obtain ⟨_,_,_,_,o,_,_,e,c,_⟩:=I.hok a _ h;exact ⟨o,e,c.1⟩
 | dT h=>obtain ⟨_,_,_,_,o,_,_,e,c,_⟩:=I.hok a _ h;exact ⟨o,e,c.1⟩
theorem nZ:cI X (.builtin "isinstance") (fun xs H Q=>∃ x k,xs=[x,.ty "int"]/\KindOf X.K H x k/\Q (.bl (nG k "int")) H):=by
 intro pins s σ H xs us Q I r h
 obtain ⟨x,k,rfl,d,q⟩:=h
 obtain ⟨u,v,rfl,a,f⟩:=jD r
 cases (show v=Value.type "int" from f)
 cases d with
 | int i=>obtain ⟨tk,rfl⟩:=a;exact IsiPair.int_int ⟨.bl true,H,I,rfl,q⟩
 | bool b=>cases (show u=Value.bool b from a);exact IsiPair.bool_int ⟨.bl true,H,I,rfl,q⟩
 | str z=>obtain ⟨tk,rfl⟩:=a;exact IsiPair.str_int ⟨.bl false,H,I.tok _,rfl,q⟩
 | non=>cases (show u=Value.none from a);exact IsiPair.NoneType_int ⟨.bl false,H,I.tok _,rfl,q⟩
 | tuple hh=>cases a;obtain ⟨o,e,c⟩:=I.clsK (.tuple hh);exact IsiPair.tuple_int e c ⟨.bl false,H,I.tok _,rfl,q⟩
 | list hh=>cases a;obtain ⟨o,e,c⟩:=I.clsK (.list hh);exact IsiPair.list_int e c ⟨.bl false,H,I.tok _,rfl,q⟩
 | dK hh=>cases a;obtain ⟨o,e,c⟩:=I.clsK (.dK hh);exact IsiPair.dict_int e c ⟨.bl false,H,I.tok _,rfl,q⟩
 | dT hh=>cases a;obtain ⟨o,e,c⟩:=I.clsK (.dT hh);exact IsiPair.dict_int e c ⟨.bl false,H,I.tok _,rfl,q⟩
theorem lJ:cI X (.builtin "isinstance") (fun xs H Q=>∃ x k,xs=[x,.ty "bool"]/\KindOf X.K H x k/\Q (.bl (nG k "bool")) H):=by
 intro pins s σ H xs us Q I r h
 obtain ⟨x,k,rfl,d,q⟩:=h
 obtain ⟨u,v,rfl,a,f⟩:=jD r
 cases (show v=Value.type "bool" from f)
 cases d with
 | int i=>obtain ⟨tk,rfl⟩:=a;exact IsiPair.int_bool ⟨.bl false,H,I.tok _,rfl,q⟩
 | bool b=>cases (show u=Value.bool b from a);exact IsiPair.bool_bool ⟨.bl true,H,I,rfl,q⟩
 | str z=>obtain ⟨tk,rfl⟩:=a;exact IsiPair.str_bool ⟨.bl false,H,I.tok _,rfl,q⟩
 | non=>cases (show u=Value.none from a);exact IsiPair.NoneType_bool ⟨.bl false,H,I.tok _,rfl,q⟩
 | tuple hh=>cases a;obtain ⟨o,e,c⟩:=I.clsK (.tuple hh);exact IsiPair.tuple_bool e c ⟨.bl false,H,I.tok _,rfl,q⟩
 | list hh=>cases a;obtain ⟨o,e,c⟩:=I.clsK (.list hh);exact IsiPair.list_bool e c ⟨.bl false,H,I.tok _,rfl,q⟩
 | dK hh=>cases a;obtain ⟨o,e,c⟩:=I.clsK (.dK hh);exact IsiPair.dict_bool e c ⟨.bl false,H,I.tok _,rfl,q⟩
 | dT hh=>cases a;obtain ⟨o,e,c⟩:=I.clsK (.dT hh);exact IsiPair.dict_bool e c ⟨.bl false,H,I.tok _,rfl,q⟩
theorem lc:cI X (.builtin "isinstance") (fun xs H Q=>∃ x k,xs=[x,.ty "tuple"]/\KindOf X.K H x k/\Q (.bl (nG k "tuple")) H):=by
 intro pins s σ H xs us Q I r h
 obtain ⟨x,k,rfl,d,q⟩:=h
 obtain ⟨u,v,rfl,a,f⟩:=jD r
 cases (show v=Value.type "tuple" from f)
 cases d with
 | int i=>obtain ⟨tk,rfl⟩:=a;exact IsiPair.int_tuple ⟨.bl false,H,I.tok _,rfl,q⟩
 | bool b=>cases (show u=Value.bool b from a);exact IsiPair.bool_tuple ⟨.bl false,H,I.tok _,rfl,q⟩
 | str z=>obtain ⟨tk,rfl⟩:=a;exact IsiPair.str_tuple ⟨.bl false,H,I.tok _,rfl,q⟩
 | non=>cases (show u=Value.none from a);exact IsiPair.NoneType_tuple ⟨.bl false,H,I.tok _,rfl,q⟩
 | tuple hh=>cases a;obtain ⟨o,e,c⟩:=I.clsK (.tuple hh);exact IsiPair.tuple_tuple e c ⟨.bl true,H,I,rfl,q⟩
 | list hh=>cases a;obtain ⟨o,e,c⟩:=I.clsK (.list hh);exact IsiPair.list_tuple e c ⟨.bl false,H,I.tok _,rfl,q⟩
 | dK hh=>cases a;obtain ⟨o,e,c⟩:=I.clsK (.dK hh);exact IsiPair.dict_tuple e c ⟨.bl false,H,I.tok _,rfl,q⟩
 | dT hh=>cases a;obtain ⟨o,e,c⟩:=I.clsK (.dT hh);exact IsiPair.dict_tuple e c ⟨.bl false,H,I.tok _,rfl,q⟩
theorem lI:cI X (.builtin "isinstance") (fun xs H Q=>∃ x k,xs=[x,.ty "list"]/\KindOf X.K H x k/\Q (.bl (nG k "list")) H):=by
 intro pins s σ H xs us Q I r h
 obtain ⟨x,k,rfl,d,q⟩:=h
 obtain ⟨u,v,rfl,a,f⟩:=jD r
 cases (show v=Value.type "list" from f)
 cases d with
 | int i=>obtain ⟨tk,rfl⟩:=a;exact IsiPair.int_list ⟨.bl false,H,I.tok _,rfl,q⟩
 | bool b=>cases (show u=Value.bool b from a);exact IsiPair.bool_list ⟨.bl false,H,I.tok _,rfl,q⟩
 | str z=>obtain ⟨tk,rfl⟩:=a;exact IsiPair.str_list ⟨.bl false,H,I.tok _,rfl,q⟩
 | non=>cases (show u=Value.none from a);exact IsiPair.NoneType_list ⟨.bl false,H,I.tok _,rfl,q⟩
 | tuple hh=>cases a;obtain ⟨o,e,c⟩:=I.clsK (.tuple hh);exact IsiPair.tuple_list e c ⟨.bl false,H,I.tok _,rfl,q⟩
 | list hh=>cases a;obtain ⟨o,e,c⟩:=I.clsK (.list hh);exact IsiPair.list_list e c ⟨.bl true,H,I,rfl,q⟩
 | dK hh=>cases a;obtain ⟨o,e,c⟩:=I.clsK (.dK hh);exact IsiPair.dict_list e c ⟨.bl false,H,I.tok _,rfl,q⟩
 | dT hh=>cases a;obtain ⟨o,e,c⟩:=I.clsK (.dT hh);exact IsiPair.dict_list e c ⟨.bl false,H,I.tok _,rfl,q⟩
theorem uY {bs:List Bool}:((List.range bs.length).all fun i=>bs.getD i false)=bs.all id:=by
 rw [Bool.eq_iff_iff]
 simp only [List.all_eq_true,List.mem_range,id]
 constructor
 ·intro h b a
  obtain ⟨i,hi,rfl⟩:=List.mem_iff_getElem.mp a
  simpa [List.getD,hi] using h i hi
 ·intro h i hi
  simpa [List.getD,hi] using h _ (List.getElem_mem hi)
theorem xF (z:X.calm=true):cI X (.builtin "all") (fun xs H Q=>∃ (a:Addr) (bs:List Bool),xs=[.ref a]/\SqL X.K H a (bs.map V.bl)/\Q (.bl (bs.all id)) H):=by
 intro pins s σ H xs us Q I r h
 obtain ⟨a,bs,rfl,B,q⟩:=h
 obtain ⟨u,rfl,j⟩:=kh r
 cases j
 obtain ⟨c,m,p,hz⟩:=I.list B
 have l:=m.length
 rw [Dd] at l
 have k:a < s.heap.objs.size:=by obtain ⟨o,_,e,_⟩:=id p;exact Da e
 refine call_all_walk (wpAny_pyIter_list p.isList ?_)
 refine ⟨s.heap.objs.size,_,_,_,_,_,fun i=>bs.getD i false,rfl,Walks.list (show X.A.in1.handled=none from I.ok.hd z) s.heap.objs.size a (Dl k) c.toArray,⟨⟨_,Dc _ rfl,rfl,rfl⟩,p.isList.at fun o e=>C4 _ e⟩,?_,?_⟩
 ·intro i v s' n D C g
  have d:c[i]?=some v:=by simpa using C
  have hi:i < bs.length:=by
   have:=(De.mp d).1
   omega
  obtain ⟨u,hu,j⟩:=m.get (i:=i) (x:=V.bl (bs[i])) (by simp [hi])
  rw [d] at hu
  cases hu
  cases (show v=Value.bool bs[i] from j)
  refine DE ?_
  have e:bs.getD i false=bs[i]:=by simp [List.getD,hi]
  have f:n (bs.getD i false) s':=g
  rw [e] at f
  exact f
 ·intro h' tk w
  have y:Inv X pins σ H { s with heap:=h',toks:=tk }:=I.kept fun b o e=>w b o (by
   intro hm
   have t:b=s.heap.objs.size:=by simpa using hm
   exact absurd (t ▸ Da e) (Nat.lt_irrefl _)) (C4 _ e)
  refine ⟨.bl (bs.all id),H,y,?_,q⟩
  show Value.bool _=Value.bool _
  rw [Dm,<- l,uY]
end
end L2
end
section
namespace L2
open PySem PySem.Spec PyProof.Rows
structure Callee (P:Program) (w:World) (K:FG) (mg:Str->Option Value) (base:Heap) (x:Str) (k:Nat) (ps:List Str) (sp:Sp):Prop where
 ex:∃ (f:Addr) (fd:FuncData),FnOk P w K mg base CX0 k f fd ps sp/\mg x=some (.ref f)/\PySem.W.keepIn K (.ref f)=true/\Binds K fd ps []
structure DefAt (K:FG) (mg:Str->Option Value) (x:Str) (st:Stmt) (f:Addr) (fd:FuncData):Prop where
 fn:Fun K x x st f fd
 mg:mg x=some (.ref f)
def Def (K:FG) (mg:Str->Option Value) (x:Str) (st:Stmt):Prop:=∃ f fd,DefAt K mg x st f fd
theorem Def.callee {K:FG} {st:Stmt} {k:Nat} (D:Def K mg x st) (b:∀ (kV doc pm:Value) (an:Option Addr) (a ct:Value) (us:List Value),us.length=ps.length->bindArgs (PySem.W.fnOf x x (aF st) (au st) (af st) .none kV doc pm an a ct) ⟨us,[]⟩=pure (ps.zip us)) (h:∀ f fd,Fun K x x st f fd->FnOk P w K mg base CX0 k f fd ps sp):Callee P w K mg base x k ps sp :=
 let ⟨f,fd,d⟩:=D
 ⟨f,fd,h f fd d.fn,d.mg,d.fn.kp,d.fn.binds b⟩
section
variable {X:Cx} {x:Str} {p pos:Pos} {e:Expr} {es:List Expr} {t:TA} {k:Nat} {ps:List Str} {sp:Sp}
def tFn (sp:Sp) (t:TA):TE:=fun σ H Q=>t σ H fun vs H1=>sp vs H1 Q E0
theorem pe_fn (c:Callee X.prog X.w X.K X.mg X.base x k ps sp) (g:Room k X.A) (m:PA X (e :: es) t) (l:Gl X x:=by rfl) (b:(x == ("__debug__":Str))=false:=by decide)
  (he:starEach (e :: es) X.env=(false,eval e X.env) :: starEach es X.env:=by rfl) (a:(backTo pos (starEach es X.env)).any (·.1)=false:=by rfl):PE X (.Call (.Name x p) (e :: es) [] pos) (tFn sp t):=by
 obtain ⟨f,fd,F,hm,i,j⟩:=c.ex
 have h:=y9 (pos:=pos) (p:=p) (dvs:=[]) (E:=E0) F g l hm i j .nil pass0 m b he a
 intro pins s σ H Q I q
 refine h pins s σ H Q I ?_
 show t σ H fun vs H1=>sp (vs ++ []) H1 Q E0
 have d:t σ H (fun vs H1=>sp vs H1 Q E0):=q
 simpa using d
end
def But (p:Addr) (H H':Hp):Prop:=∀ b o,H b=some o->b ≠ p->H' b=some o
theorem But.trans (a:But p H H1) (b:But p H1 H2):But p H H2:=fun c o h n=>b c o (a c o h n) n
abbrev Pt:=Int × Int
def aW (p q r:Pt):Int:=(q.1 - p.1) * (r.2 - p.2) - (q.2 - p.2) * (r.1 - p.1)
def Small (p:Pt):Prop:=-(2 ^ 62) < p.1/\p.1 < 2 ^ 62/\-(2 ^ 62) < p.2/\p.2 < 2 ^ 62
def Rising (ps:List Pt):Prop:=∀ (i j:Nat) (p q:Pt),i < j->ps[i]?=some p->ps[j]?=some q->p.1 < q.1
def NoLine (ps:List Pt):Prop:=∀ (i j k:Nat) (p q r:Pt),i < j->j < k->ps[i]?=some p->ps[j]?=some q->ps[k]?=some r->aW p q r ≠ 0
structure GoodSh (ps:List Pt):Prop where
 pos:0 < ps.length
 most:ps.length<=24
 small:∀ p ∈ ps,Small p
 rising:Rising ps
 noline:NoLine ps
def jI:List Pt->List (Pt × Pt)
 | []=>[]
 | p :: r=>r.map (fun q=>(p,q)) ++ jI r
theorem mi:∀ {ps:List Pt} {i j:Nat} {p q:Pt},i < j->ps[i]?=some p->ps[j]?=some q->(p,q) ∈ jI ps
 | [],_,_,_,_,_,h,_=>by simp at h
 | a :: r,0,0,_,_,h,_,_=>by omega
 | a :: r,0,j+1,p,q,_,h1,h2=>by
  simp at h1 h2;subst h1
  exact C6 _ (Dh.mpr ⟨q,Df h2,rfl⟩)
 | a :: r,i+1,0,_,_,h,_,_=>by omega
 | a :: r,i+1,j+1,p,q,h,h1,h2=>C7 _ (mi (ps:=r) (i:=i) (j:=j) (by omega) (by simpa using h1) (by simpa using h2))
theorem pj:∀ {ps:List Pt} {p q:Pt},(p,q) ∈ jI ps->∃ i j:Nat,i < j/\ps[i]?=some p/\ps[j]?=some q
 | [],_,_,h=>by simp [jI] at h
 | a :: r,p,q,h=>by
  rcases Db.mp h with h | h
  ·obtain ⟨z,hz,e⟩:=Dh.mp h
   cases e
   obtain ⟨j,b,e⟩:=List.mem_iff_getElem.mp hz
   exact ⟨0,j+1,by omega,rfl,by simp [b,e]⟩
  ·obtain ⟨i,j,h0,h1,h2⟩:=pj h
   exact ⟨i+1,j+1,by omega,by simpa using h1,by simpa using h2⟩
theorem l7:∀ ps:List Pt,(jI ps).length<=ps.length * ps.length
 | []=>by simp [jI]
 | a :: r=>by
  have b:=l7 r
  simp only [jI,Dt,Dd,Du]
  have:(r.length+1) * (r.length+1)=r.length * r.length+2 * r.length+1:=by
   rw [Nat.add_mul,Nat.mul_add];omega
  omega
def u5 (ps:List Pt) (z:Pt):Prop:=∀ (i j:Nat) (p q:Pt),i < j->ps[i]?=some p->ps[j]?=some q->aW p q z ≠ 0
def above (ps:List Pt) (x y:Int):Nat:=((jI ps).filter fun pr=>decide (aW pr.1 pr.2 (x,y)<=0)).length
theorem xB {α:Type} {p q:α->Bool}:∀ {l:List α},(∀ a ∈ l,p a=true->q a=true)->(l.filter p).length<=(l.filter q).length
 | [],_=>by simp
 | a :: l,h=>by
  have e:=xB (l:=l) fun b f=>h b (C3 _ f)
  have g:=h a C2
  cases c:p a with
  | true=>rw [List.filter_cons_of_pos c,List.filter_cons_of_pos (g c)];simpa using e
  | false =>
   rw [List.filter_cons_of_neg (by simp [c])]
   cases d:q a with
   | true=>rw [List.filter_cons_of_pos d];simp;omega
   | false=>rw [List.filter_cons_of_neg (by simp [d])];exact e
theorem xA {α:Type} {p q:α->Bool}:∀ {l:List α} {z:α},(∀ a ∈ l,p a=true->q a=true)->z ∈ l->q z=true->p z=false->(l.filter p).length < (l.filter q).length
 | [],_,_,hz,_,_=>by simp at hz
 | a :: l,z,h,hz,h1,h2=>by
  have d:∀ b ∈ l,p b=true->q b=true:=fun b g=>h b (C3 _ g)
  rcases C8.mp hz with rfl | hz
  ·rw [List.filter_cons_of_neg (by simp [h2]),List.filter_cons_of_pos h1]
   have:=xB d
   simp;omega
  ·have f:=xA d hz h1 h2
   have i:=h a C2
   cases c:p a with
   | true=>rw [List.filter_cons_of_pos c,List.filter_cons_of_pos (i c)];simpa using f
   | false =>
    rw [List.filter_cons_of_neg (by simp [c])]
    cases e:q a with
    | true=>rw [List.filter_cons_of_pos e];simp;omega
    | false=>rw [List.filter_cons_of_neg (by simp [e])];exact f
theorem sW (p q:Pt) (x y:Int):aW p q (x,y+1)=aW p q (x,y)+(q.1 - p.1):=by
 unfold aW
 have e:(q.1 - p.1) * (y+1 - p.2)=(q.1 - p.1) * (y - p.2)+(q.1 - p.1):=by
  rw [show y+1 - p.2=(y - p.2)+1 by omega,Int.mul_add,Int.mul_one]
 show (q.1 - p.1) * (y+1 - p.2) - (q.2 - p.2) * (x - p.1)=(q.1 - p.1) * (y - p.2) - (q.2 - p.2) * (x - p.1)+(q.1 - p.1)
 rw [e];omega
theorem xS {x y:Int} (R:Rising ps) {i j:Nat} (a:i < j) (hi:ps[i]?=some p) (c:ps[j]?=some q) (h0:aW p q (x,y)=0):above ps x (y+1) < above ps x y:=by
 refine xA (z:=(p,q)) (fun pr b h=>?_) (mi a hi c) (by simp [h0]) ?_
 ·obtain ⟨d,f,h',e1,e⟩:=pj (p:=pr.1) (q:=pr.2) b
  have:=R d f _ _ h' e1 e
  have h:=of_decide_eq_true h
  rw [sW] at h
  exact Do (by omega)
 ·have:=R i j _ _ a hi c
  show decide (aW p q (x,y+1)<=0)=false
  rw [sW,h0]
  exact Dp (by omega)
theorem xT (ps:List Pt) (x y:Int):above ps x y<=ps.length * ps.length:=DF (List.length_filter_le _ _) (l7 ps)
theorem cY {α:Type} {l:List α} {z a:α} {i:Nat} (h:(l ++ [z])[i]?=some a):(l[i]?=some a/\i < l.length)\/(a=z/\i=l.length):=by
 by_cases hi:i < l.length
 ·rw [DB hi] at h;exact .inl ⟨h,hi⟩
 ·rw [List.getElem?_append_right (by omega)] at h
  have:i - l.length=0:=by
   cases e:i - l.length with
   | zero=>rfl
   | succ n=>rw [e] at h;simp at h
  rw [this] at h;simp at h
  exact .inr ⟨h.symm,by omega⟩
theorem Rising.snoc (R:Rising ps) (h:∀ p ∈ ps,p.1 < z.1):Rising (ps ++ [z]):=fun i j p q a h1 h2=>by
 rcases cY h1 with ⟨a1,b1⟩ | ⟨rfl,b1⟩
 ·rcases cY h2 with ⟨a2,b2⟩ | ⟨rfl,b2⟩
  ·exact R i j p q a a1 a2
  ·exact h p (Df a1)
 ·rcases cY h2 with ⟨a2,b2⟩ | ⟨rfl,b2⟩
  ·omega
  ·omega
theorem NoLine.snoc (N:NoLine ps) (F:u5 ps z):NoLine (ps ++ [z]):=fun i j k p q r a c h1 h2 h3=>by
 rcases cY h1 with ⟨a1,b1⟩ | ⟨rfl,b1⟩
 ·rcases cY h2 with ⟨a2,b2⟩ | ⟨rfl,b2⟩
  ·rcases cY h3 with ⟨d,b⟩ | ⟨rfl,b⟩
   ·exact N i j k p q r a c a1 a2 d
   ·exact F i j p q a a1 a2
  ·rcases cY h3 with ⟨d,b⟩ | ⟨rfl,b⟩ <;> omega
 ·rcases cY h2 with ⟨a2,b2⟩ | ⟨rfl,b2⟩ <;> omega
section InBlock
variable {X:Cx} {NY:List Str} {scope:Scope} {s:Shared} {H:Hp} {C:Addr} {fp:List Addr}
end InBlock
end L2
end
section
namespace L2
open PySem PySem.Spec PyProof.Rows
mutual
inductive DV (K:FG) (H:Hp):V->PyData->Prop
 | non:DV K H .non .none
 | bl (b:Bool):DV K H (.bl b) (.bool b)
 | int (i:Int):DV K H (.int i) (.int i)
 | str (x:Str):DV K H (.str x) (.str x)
 | tup {a:Addr} {xs:List V} {ds:List PyData}:SqT K H a xs->DVs K H xs ds->DV K H (.ref a) (.tuple ds)
 | lst {a:Addr} {xs:List V} {ds:List PyData}:SqL K H a xs->DVs K H xs ds->DV K H (.ref a) (.list ds)
inductive DVs (K:FG) (H:Hp):List V->List PyData->Prop
 | nil:DVs K H [] []
 | cons {x:V} {d:PyData} {xs:List V} {ds:List PyData}:DV K H x d->DVs K H xs ds->DVs K H (x :: xs) (d :: ds)
end
section
variable {X:Cx} {pins:List (Addr × Obj)} {σ:St} {H:Hp} {s:Shared}
mutual
theorem DV.reads (I:Inv X pins σ H s):∀ {v:V} {d:PyData} {u:Value},DV X.K H v d->RelV v u->∃ as,Reads s.heap u d as
 | _,_,u,.non,r=>by cases (show u=Value.none from r);exact ⟨_,.none⟩
 | _,_,u,.bl b,r=>by cases (show u=Value.bool b from r);exact ⟨_,.bool b⟩
 | _,_,u,.int i,r=>by obtain ⟨t,rfl⟩:=r;exact ⟨_,.int i t⟩
 | _,_,u,.str x,r=>by obtain ⟨t,rfl⟩:=r;exact ⟨_,.str x t⟩
 | _,_,u,.tup (a:=a) h rs,r=>by
  cases (show u=Value.ref a from r)
  obtain ⟨f,g,⟨o,e,c,n,d⟩,_⟩:=I.tuple h
  obtain ⟨as,q⟩:=DVs.reads I rs g
  exact ⟨_,.tuple e c d (by simpa using q)⟩
 | _,_,u,.lst (a:=a) h rs,r=>by
  cases (show u=Value.ref a from r)
  obtain ⟨f,g,⟨o,n,e,c,_,d⟩,_⟩:=I.list h
  obtain ⟨as,q⟩:=DVs.reads I rs g
  exact ⟨_,.list e c d (by simpa using q)⟩
theorem DVs.reads (I:Inv X pins σ H s):∀ {v:List V} {d:List PyData} {us:List Value},DVs X.K H v d->Vals v us->∃ as,ReadsAll s.heap us d as
 | _,_,_,.nil,.nil=>⟨_,.nil⟩
 | _,_,_,.cons h r,.cons q t=>by
  obtain ⟨as,e1⟩:=DV.reads I h q
  obtain ⟨bs,a⟩:=DVs.reads I r t
  exact ⟨_,.cons e1 a⟩
end
end
end L2
end
section
namespace L2
open PySem PySem.Spec PyProof.Rows
end L2
end
section
namespace L2
open PySem PySem.Spec PyProof.Rows
end L2
end
section
namespace L2
open PySem PySem.Spec PyProof.Rows
end L2
end
section
namespace L2
open PySem PySem.Spec PyProof.Rows
end L2
end
section
namespace L2
open PySem PySem.Spec PyProof.Rows
end L2
end
section
namespace L2
open PySem PySem.Spec PyProof.Rows
end L2
end
section
namespace L2
open PySem PySem.Spec PyProof.Rows
end L2
end
section
namespace L2
open PySem PySem.Spec PyProof.Rows
end L2
end
section
namespace L2
open PySem PySem.Spec PyProof.Rows
end L2
end
section
namespace L2
open PySem PySem.Spec PyProof.Rows
end L2
end
section
namespace PySem
open Sem (wp)
end PySem
end
section
namespace L2
open PySem PySem.Spec PyProof.Rows
end L2
end
section
namespace L2
open PySem PySem.Spec PyProof.Rows
end L2
end
section
namespace L2
open PySem PySem.Spec PyProof.Rows
end L2
end
section
namespace PyProof.Rows
open PySem
end PyProof.Rows
end
section
namespace L2
open PySem PySem.Spec PyProof.Rows
end L2
end
section
namespace L2
open PySem PySem.Spec PyProof.Rows
def IsNts (h:Heap) (b:Addr) (n:List Int):Prop:=∃ it:Array Value,IsTup h b it/\IntsAre it.toList n
theorem kT:∀ x:List Int,HT.lexLt x x=false
 | []=>rfl
 | a :: x=>by rw [HT.lexLt_cons,if_pos rfl];exact kT x
theorem jq:∀ {x y z:List Int},HT.lexLt x y=true->HT.lexLt y z=true->HT.lexLt x z=true
 | [],[],_,h1,_=>by cases h1
 | [],_ :: _,[],_,h2=>by cases h2
 | [],_ :: _,_ :: _,_,_=>rfl
 | _ :: _,[],_,h1,_=>by cases h1
 | _ :: _,_ :: _,[],_,h2=>by cases h2
 | a :: x,b :: y,c :: z,h1,h2=>by
  rw [HT.lexLt_cons] at *
  by_cases e1:a=b
  ·rw [if_pos e1] at h1
   by_cases d:b=c
   ·rw [if_pos d] at h2
    rw [if_pos (e1.trans d)];exact jq h1 h2
   ·rw [if_neg d] at h2
    rw [if_neg (fun q=>d (e1.symm.trans q)),e1];exact h2
  ·rw [if_neg e1] at h1
   have e:=of_decide_eq_true h1
   by_cases d:b=c
   ·rw [if_neg (fun q=>e1 (q.trans d.symm)),<- d];exact h1
   ·rw [if_neg d] at h2
    have f:=of_decide_eq_true h2
    rw [if_neg (by omega)];exact Do (by omega)
theorem sk:∀ {x y:List Int},HT.lexLt x y=false->HT.lexLt y x=false->x=y
 | [],[],_,_=>rfl
 | [],_ :: _,h,_=>by cases h
 | _ :: _,[],_,h=>by cases h
 | a :: x,b :: y,h1,h2=>by
  rw [HT.lexLt_cons] at *
  by_cases e:a=b
  ·rw [if_pos e] at h1
   rw [if_pos e.symm] at h2
   rw [e,sk h1 h2]
  ·rw [if_neg e] at h1
   rw [if_neg (Ne.symm e)] at h2
   have:=of_decide_eq_false h1
   have:=of_decide_eq_false h2
   omega
end L2
end
section
namespace L2
open PySem PySem.Spec PyProof.Rows
abbrev aX (f:Bool):SortKind:=(sortPriv% PySem.Builtin.KeyKind.tuples) f
section
variable {prog:Program} {w:World} {A:Around} {E:Value->Shared->Prop} {s:Shared}
theorem qI (f:Bool) {a b:Int} (h:Q (decide (a < b)) s):wpAny (model prog w) A (oneLt' f (.int a t) (.int b u)) Q E s:=by
 cases f with
 | true=>exact oneLt_int h
 | false =>
  rw [oneLt'_eq]
  simp only [Dz,if_false]
  refine CY (HT.rcLt_int A s a t b u prog w E _ ?_)
  exact DE h
theorem ml (f:Bool) (n m:Nat) {k:Option Bool × Unit->Sem Bool} (j:∀ p q i c,g ((p,q),i) c=(do
          let b <- eqBool p q
          if (!b)=true then do
            let r <- oneLt' (f && i == 0) p q
            pure (ForInStep.done (some r,()))
          else pure (ForInStep.yield (none,())))) (h:∀ b,k (some b,())=pure b) (d:k (none,())=pure (decide (n < m))):∀ (vs ws:List Value) (ns ms:List Int) (i:Nat),IntsAre vs ns->IntsAre ws ms->ns.length+m=ms.length+n->Q (HT.lexLt ns ms) s ->
    wpAny (model prog w) A (forIn ((vs.zip ws).zipIdx i) ((none,()):Option Bool × Unit) g) (fun r s'=>wpAny (model prog w) A (k r) Q E s') E s
  | [],ws,ns,ms,i,h1,h2,hl,q=>by
    cases h1
    have e:HT.lexLt [] ms=decide (n < m):=by
      cases ms with
      | nil=>simp at hl;rw [HT.lexLt_nil_nil];exact (Dp (by omega)).symm
      | cons a ms=>simp at hl;rw [HT.lexLt_nil_cons];exact (Do (by omega)).symm
    rw [e] at q
    rw [List.zip_nil_left]
    simp only [List.zipIdx_nil,List.forIn_nil]
    refine CZ ?_
    rw [d]
    exact CZ q
  | v :: vs,[],ns,ms,i,h1,h2,hl,q=>by
    cases h2
    cases h1 with
    | cons a t h1 =>
    rename_i ns
    have e:HT.lexLt (a :: ns) []=decide (n < m):=by
      simp at hl;rw [HT.lexLt_cons_nil];exact (Dp (by omega)).symm
    rw [e] at q
    rw [List.zip_nil_right]
    simp only [List.zipIdx_nil,List.forIn_nil]
    refine CZ ?_
    rw [d]
    exact CZ q
  | v :: vs,u :: ws,ns,ms,i,h1,h2,hl,q=>by
    cases h1 with
    | cons a t h1 =>
    cases h2 with
    | cons b t2 h2 =>
    rename_i ns ms
    rw [List.zip_cons_cons,List.zipIdx_cons,List.forIn_cons,j]
    rw [HT.lexLt_cons] at q
    refine CY (CY ((intKind prog w).eqBool (a:=a) (b:=b) (by simp [intKind,Value.isInt]) (by simp [intKind,Value.isInt]) ?_))
    by_cases e:a=b
    · rw [if_pos e] at q
      rw [Do e]
      simp only [Bool.not_true,Dz,if_false]
      refine CZ ?_
      exact ml f n m j h d vs ws ns ms (i+1) h1 h2 (by simp at hl;omega) q
    · rw [if_neg e] at q
      rw [Dp e]
      simp only [Bool.not_false,if_true]
      refine CY (qI _ (CZ (CZ ?_)))
      rw [h]
      exact CZ q
theorem uw (k:IsNts s.heap a x) (o:IsNts s.heap b y) (h:Q (HT.lexLt x y) s):wpAny (model prog w) A (keyLt' (aX f) (.ref a) (.ref b)) Q E s:=by
 obtain ⟨c,⟨p,e1,c1,q,l⟩,e⟩:=k
 obtain ⟨d,⟨t,n,c2,r,i⟩,g⟩:=o
 refine CY (listItems_at e1 l ?_)
 refine CY (listItems_at n i ?_)
 refine CY ?_
 have j:x.length=c.size:=by rw [<- e.length];simp
 have m:y.length=d.size:=by rw [<- g.length];simp
 exact ml f c.size d.size (fun _ _ _ _=>rfl) (fun _=>rfl) rfl c.toList d.toList x y 0 e g (by omega) h
end
end L2
end
section
namespace L2
open PySem PySem.Spec PyProof.Rows
end L2
end
section
namespace L2
open PySem PySem.Spec PyProof.Rows
section
variable {prog:Program} {w:World} {A:Around} {E:Value->Shared->Prop} {s:Shared}
theorem q9 (v:Value):firstOfTuple' v=(do
  if (<- typeOf v) != .type "tuple" then return none
  return (<- Builtin.List.listItems v)[0]?):=rfl
theorem mB (f:IsNts s.heap b n) (h0:n ≠ []) (h:∀ i t,Q (some (.int i t)) s):wpAny (model prog w) A (firstOfTuple' (.ref b)) Q E s:=by
 obtain ⟨it,⟨o,e,c,k,d⟩,j⟩:=f
 rw [q9]
 refine CY (wpAny_typeOf (T:="tuple") ⟨o,e,c⟩ ?_)
 rw [if_neg (by decide)]
 refine CY (listItems_at e d ?_)
 cases a:it.toList with
 | nil=>rw [a] at j;cases j;exact absurd rfl h0
 | cons v vs =>
  rw [a] at j
  cases j with
  | cons i t j =>
   have:it[0]?=some (.int i t):=by rw [<- Array.getElem?_toList,a];rfl
   rw [this]
   exact CZ (h i t)
theorem k7:∀ (bs:List Addr),(∀ b ∈ bs,∃ n,n ≠ []/\IsNts s.heap b n)->(∀ (vs:List Value) (ns:List Int),IntsAre vs ns->vs.length=bs.length->Q (vs.map some) s) ->
  wpAny (model prog w) A ((bs.map Value.ref).mapM firstOfTuple') Q E s
 | [],_,q=>by
  simp only [List.map_nil,List.mapM_nil]
  exact CZ (q [] [] .nil rfl)
 | b :: bs,h,q=>by
  rw [Dn,List.mapM_cons]
  obtain ⟨n,h0,d⟩:=h b C2
  refine CY (mB d h0 fun i t=>?_)
  refine CY (k7 bs (fun c e=>h c (C3 _ e)) fun vs ns hi a=>?_)
  exact CZ (q (.int i t :: vs) (i :: ns) (.cons i t hi) (by simp [a]))
theorem wS (h2:bs ≠ []) (d:∀ b ∈ bs,∃ n,n ≠ []/\IsNts s.heap b n) (h:Q (aX true) s):wpAny (model prog w) A (keyKind' (bs.map Value.ref).toArray) Q E s:=by
 rw [keyKind'_eq,List.mapM_toArray]
 refine CY ?_
 rw [map_eq_pure_bind]
 refine CY (k7 bs d fun vs ns hi c=>CZ ?_)
 have e:(vs.map some).toArray.all (·.isSome)=true:=by simp
 rw [if_pos e]
 refine CY (wpAny_rule ?_)
 have hf:(vs.map some).toArray.filterMap id=vs.toArray:=by simp
 rw [hf,oneTypeOnly'_eq,List.mapM_toArray,mapM_typeOf_ints hi]
 simp only [map_pure,pure_bind]
 cases vs with
 | nil=>exact absurd (List.length_eq_zero_iff.mp c.symm) h2
 | cons v vs =>
  have a:((List.map (fun _=>Value.type "int") (v :: vs)).toArray.all fun x=>x == Value.type "int")=true:=by
   simp only [List.all_toArray,List.all_map,List.all_eq_true]
   intro _ _
   rfl
  have h0:(List.map (fun _=>Value.type "int") (v :: vs)).toArray[0]?=some (Value.type "int"):=by simp
  rw [h0]
  simp only [a,if_true,pure_bind,Option.any_some]
  exact CZ h
end
end L2
end
section
namespace L2
open PySem PySem.Spec PyProof.Rows
theorem IsNts.at (x:IsNts h b n) (e:∀ o,h.get? b=some o->h'.get? b=some o):IsNts h' b n:=by
 obtain ⟨it,⟨o,e1,r⟩,j⟩:=x
 exact ⟨it,⟨o,e o e1,r⟩,j⟩
structure NRow (h:Heap) (bs:List Addr) (ns:List (List Int)):Prop where
 len:ns.length=bs.length
 at':∀ (i:Nat) (b:Addr) (n:List Int),bs[i]?=some b->ns[i]?=some n->IsNts h b n/\n ≠ []
 asc:∀ (i:Nat) (x y:List Int),ns[i]?=some y->ns[i+1]?=some x->HT.lexLt x y=false
theorem NRow.keep (r:NRow h bs ns) (k:∀ b ∈ bs,∀ o,h.get? b=some o->h'.get? b=some o):NRow h' bs ns :=
 ⟨r.len,fun i b n e1 a=>⟨(r.at' i b n e1 a).1.at (k b (Df e1)),(r.at' i b n e1 a).2⟩,r.asc⟩
end L2
end
section
namespace L2
open PySem PySem.Spec PyProof.Rows
end L2
end
section
namespace L2
open PySem PySem.Spec PyProof.Rows
end L2
end
section
namespace L2
open PySem PySem.Spec PyProof.Rows
theorem iB:∀ bs:List Addr,Vals (bs.map V.ref) (bs.map Value.ref)
 | []=>.nil
 | _ :: bs=>.cons rfl (iB bs)
end L2
end
section
namespace L2
open PySem
abbrev Up (xs:Array Nat):Prop:=xs.toList.Pairwise (· < ·)
theorem Up.at (h:Up xs) {i k:Nat} (a:i < k) (b:k < xs.size):xs[i]'(by omega) < xs[k]:=by
 have:=List.pairwise_iff_getElem.mp h i k (by simp;omega) (by simpa using b) a
 simpa using this
structure Tab (b:Bool) (t:SetTable):Prop where
 up:Up t.place
 led:t.led=b
end L2
end
section
namespace L2
open PySem PyProof.Rows
abbrev Am (w:World):Bool:=!w.params.followText "set-order"
def SetL (prog:Program) (w:World) (h:Heap) (a:Addr) (ns:List Int):Prop :=
 ∃ o es b t ms,h.get? a=some o/\o.ExactSet/\o.data=.set es b t/\ElemsOf (intKind prog w) es.toList/\IntsAre (es.toList.map (·.2)) ms/\ms.Perm ns/\es.size < scanBound/\t.fits es.size=true/\Tab (Am w) t
theorem SetL.keep (x:SetL prog w h a ns) (k:∀ o,h.get? a=some o->h'.get? a=some o):SetL prog w h' a ns :=
 let ⟨o,es,b,t,ms,e,r⟩:=x;⟨o,es,b,t,ms,k o e,r⟩
def met (ns:List Int) (k:Int):List Int:=if k ∈ ns then ns else ns ++ [k]
end L2
end
section
namespace L2
open PySem PyProof.Rows
end L2
end
section
namespace L2
open PySem PyProof.Rows
def SIt (w : World) (h : Heap) (I a : Addr) (es : Array (Int × Value)) (b : Nat) (t : SetTable) (ord : List Value) (i : Nat) : Prop :=
  ∃ first, h.get? I = some { cls := .type "set_iterator", dict := none, data := .fields #[first, rawInt i, .ref a, rawInt es.size, rawInt b], slots := #[] } /\
    ((w.params.followText "set-order" = true /\ first = rawInt 0 /\ ord = (pickOrder (w.params.setOrder a b) es).toList.map (·.2)) \/
     (w.params.followText "set-order" = false /\ (!t.plain && es.size > 1) = false /\ (∃ k : Nat, first = rawInt k /\ SetTable.below t.place k = i) /\ ord = es.toList.map (·.2)) \/
     (∃ (T : Addr) (ps : List Nat), first = .ref T /\ T ≠ I /\ h.get? T = some { cls := .type "tuple", data := .seq (ps.map fun (p : Nat) => rawInt p).toArray } /\ ps.Perm (List.range es.size) /\ ord = ps.filterMap fun p => es[p]?.map (·.2)))
structure SAt (w:World) (h:Heap) (a:Addr) (es:Array (Int × Value)) (ep:Nat) (t:SetTable):Prop where
 at':∃ o,h.get? a=some o/\o.data=.set es ep t
 fits:t.fits es.size=true
 tab:Tab (Am w) t
end L2
end
section
namespace L2
open PySem PyProof.Rows
section
variable {prog:Program} {w:World} {A:Around} {E:Value->Shared->Prop} {s:Shared}
theorem SAt.keep {b:Nat} (x:SAt w h a es b t) (k:∀ o,h.get? a=some o->h'.get? a=some o):SAt w h' a es b t :=
 let ⟨⟨o,e,d⟩,f,t⟩:=x;⟨⟨o,k o e,d⟩,f,t⟩
theorem SIt.keep {d:Nat} {i:Nat} (x:SIt w h I a es d t ord i) (j:I ≠ S) (e:∀ T ps,h.get? T=some { cls:=.type "tuple",data:=.seq ps }->T ≠ S) (k:∀ b o,b ≠ S->h.get? b=some o->h'.get? b=some o):SIt w h' I a es d t ord i:=by
 obtain ⟨f,g,m⟩:=x
 refine ⟨f,k _ _ j g,?_⟩
 rcases m with m | m | ⟨T,ps,e1,l,c,n⟩
 ·exact .inl m
 ·exact .inr (.inl m)
 ·exact .inr (.inr ⟨T,ps,e1,l,k _ _ (e _ _ c) c,n⟩)
end
end L2
end
section
namespace L2
open PySem PySem.Spec PyProof.Rows
end L2
end
section
namespace L2
open PySem PySem.Spec PyProof.Rows
end L2
end
section
namespace L2
open PySem PySem.Spec PyProof.Rows
def qh (l:Array Value):Obj:=seqObj "tuple" l 0
def ev (cmp:Nat->Nat->Option Bool) {α:Type} (m:Sem α):Option Addr->Option (α × Option Addr):=by
 induction m with
 | pure a=>exact fun p=>some (a,p)
 | rule _ k ih=>exact ih ()
 | load b _ k ih=>exact fun p=>match p with
  | none=>ih (qh #[]) (some b)
  | some a=>match cmp a b with
   | some true=>ih (qh #[Value.none]) none
   | some false=>ih (qh #[]) none
   | none=>none
 | _=>exact fun _=>none
theorem sL (m:Sem α) (f:α->Sem β):∀ p,ev cmp (m.bind f) p=(ev cmp m p).bind fun r=>ev cmp (f r.1) r.2:=by
 induction m with
 | pure a=>exact fun p=>rfl
 | rule _ k ih=>exact ih ()
 | load b _ k ih =>
  intro p
  cases p with
  | none=>exact ih _ _
  | some a =>
   show (match cmp a b with
    | some true=>ev cmp ((k (qh #[Value.none])).bind f) none
    | some false=>ev cmp ((k (qh #[])).bind f) none
    | none=>none)=Option.bind (match cmp a b with
    | some true=>ev cmp (k (qh #[Value.none])) none
    | some false=>ev cmp (k (qh #[])) none
    | none=>none) _
   cases cmp a b with
   | none=>rfl
   | some t=>cases t <;> exact ih _ _
 | _=>exact fun _=>rfl
def qJ (k:SortKind):Prop:=k=aX true\/k=oneType'
structure Fol (φ:Keyed->Keyed) (st ps:SortSt):Prop where
 kind:qJ (kindOf st)
 kind':kindOf ps=aX true
 arr:arrOf st=(arrOf ps).map φ
 pend:pendingOf st=pendingOf ps
 mg:gallopOf st=gallopOf ps
 fail:failedOf st=none
 fail':failedOf ps=none
class EqRl (α:Type) where
instance:EqRl Nat:=⟨⟩
instance:EqRl Bool:=⟨⟩
instance:EqRl PUnit:=⟨⟩
instance {α:Type} [EqRl α]:EqRl (Option α):=⟨⟩
instance {α:Type} [EqRl α]:EqRl (Array α):=⟨⟩
instance {α β:Type} [EqRl α] [EqRl β]:EqRl (α × β):=⟨⟩
instance {α:Type} [EqRl α]:EqRl (ForInStep α):=⟨⟩
class Rl (φ:Keyed->Keyed) (α:Type) where
 rel:α->α->Prop
variable {φ:Keyed->Keyed}
instance rlO {α:Type} [Rl φ α]:Rl φ (Option α):=⟨fun x y=>match x,y with | none,none=>True | some a,some b=>Rl.rel φ a b | _,_=>False⟩
instance rlP {α β:Type} [Rl φ α] [Rl φ β]:Rl φ (α × β):=⟨fun x y=>Rl.rel φ x.1 y.1/\Rl.rel φ x.2 y.2⟩
instance rlF {α:Type} [Rl φ α]:Rl φ (ForInStep α):=⟨fun x y=>match x,y with | .done a,.done b=>Rl.rel φ a b | .yield a,.yield b=>Rl.rel φ a b | _,_=>False⟩
instance rlK:Rl φ Keyed:=⟨fun p i=>p = φ i⟩
instance rlA:Rl φ (Array Keyed):=⟨fun p i=>p=i.map φ⟩
instance rlS:Rl φ SortSt:=⟨Fol φ⟩
instance (priority:=high) rlE {α:Type} [EqRl α]:Rl φ α:=⟨Eq⟩
section
variable {prog:Program} {w:World} {A:Around} {E:Value->Shared->Prop} {s:Shared} {cmp:Nat->Nat->Option Bool} {α β:Type}
def Sim (prog:Program) (w:World) (A:Around) (E:Value->Shared->Prop) (s:Shared) (φ:Keyed->Keyed) (cmp:Nat->Nat->Option Bool) {α:Type} [Rl φ α] (m p:StateT SortSt Sem α):Prop :=
 ∀ st ps b d q,Fol φ st ps->ev cmp (p.run ps) none=some ((b,d),q)->∃ a c,Rl.rel φ a b/\Fol φ c d/\q=none/\∀ Q:α->SortSt->Prop,Q a c->wpS (model prog w) A E s m Q st
theorem aH [Rl φ α] {a b:α} (h:Rl.rel φ a b):Sim prog w A E s φ cmp (pure a) (pure b):=by
 intro st ps d c g f e
 cases e
 exact ⟨a,st,h,f,rfl,fun Q q=>wpS_pure q⟩
theorem ci [Rl φ α] [Rl φ β] {m p:StateT SortSt Sem α} {f g:α->StateT SortSt Sem β} (h:Sim prog w A E s φ cmp m p) (k:∀ a b,Rl.rel φ a b->Sim prog w A E s φ cmp (f a) (g b)):Sim prog w A E s φ cmp (m >>= f) (p >>= g):=by
 intro st ps o i t u e
 have e:ev cmp ((p.run ps).bind fun x=>(g x.1).run x.2) none=some ((o,i),t):=e
 rw [sL] at e
 obtain ⟨⟨⟨b,d⟩,v⟩,e1,z⟩:=Dx.mp e
 obtain ⟨a,st1,r,l,rfl,h1⟩:=h st ps b d v u e1
 obtain ⟨c,j,y,n,rfl,h2⟩:=k a b r st1 d o i t l z
 exact ⟨c,j,y,n,rfl,fun Q q=>wpS_bind (h1 _ (h2 Q q))⟩
theorem aw [EqRl α] [Rl φ β] {f g:α->StateT SortSt Sem β} (h:Sim prog w A E s φ cmp m p) (k:∀ a,Sim prog w A E s φ cmp (f a) (g a)):Sim prog w A E s φ cmp (m >>= f) (p >>= g) :=
 ci h fun a b (r:a=b)=>r ▸ k a
theorem bp [EqRl α] [Rl φ β] {f g:Option α->StateT SortSt Sem β} (h:Sim prog w A E s φ cmp m p) (d:Sim prog w A E s φ cmp (f none) (g none)) (c:∀ a,Sim prog w A E s φ cmp (f (some a)) (g (some a))):Sim prog w A E s φ cmp (m >>= f) (p >>= g) :=
 ci h fun a b (r:a=b)=>r ▸ (match a with | none=>d | some a=>c a)
theorem bz [Rl φ α] [Decidable c] {m n p q:StateT SortSt Sem α} (h1:c->Sim prog w A E s φ cmp m p) (h2:¬ c->Sim prog w A E s φ cmp n q):Sim prog w A E s φ cmp (if c then m else n) (if c then p else q):=by
 by_cases h:c
 ·rw [if_pos h,if_pos h];exact h1 h
 ·rw [if_neg h,if_neg h];exact h2 h
theorem vt [Rl φ α] {m p:StateT SortSt Sem α} (h:∀ ps,ev cmp (p.run ps) none=none):Sim prog w A E s φ cmp m p:=fun st ps b a q f e=>by
 rw [h] at e
 cases e
theorem cL [Rl φ α]:Sim prog w A E s φ cmp m (unsupported t:Sem α):=vt fun _=>rfl
theorem jF [Rl φ α] (h : ∀ i x y, Rl.rel φ x y -> @Sim prog w A E s φ cmp _ rlF (f i x) (g i y)) : ∀ (l : List Nat) (x y : α), Rl.rel φ x y -> Sim prog w A E s φ cmp (forIn l x f) (forIn l y g)
  | [], x, y, r => by rw [List.forIn_nil, List.forIn_nil]; exact aH r
  | i :: l, x, y, r => by
    rw [List.forIn_cons, List.forIn_cons]
    refine @ci _ _ _ _ _ _ _ _ _ rlF _ _ _ _ _ (h i x y r) fun a b ab => ?_
    cases a <;> cases b <;> first | exact False.elim ab | skip
    · exact aH ab
    · exact jF h l _ _ ab
theorem eE [Rl φ α] {a b:Nat} {x y:α} (r:Rl.rel φ x y) (h:∀ i x y,Rl.rel φ x y->@Sim prog w A E s φ cmp _ rlF (f i x) (g i y)):Sim prog w A E s φ cmp (forIn [a:b] x f) (forIn [a:b] y g):=by
 rw [Std.Legacy.Range.forIn_eq_forIn_range',Std.Legacy.Range.forIn_eq_forIn_range']
 exact jF h _ _ _ r
theorem gh [EqRl α] {a b:Nat} {x:α} (h:∀ i x,Sim prog w A E s φ cmp (f i x) (g i x)):Sim prog w A E s φ cmp (forIn [a:b] x f) (forIn [a:b] x g):=by
 refine eE rfl fun i x y r=>?_
 cases r
 intro st ps b j q k e
 obtain ⟨c,d,r,rest⟩:=h i x st ps b j q k e
 refine ⟨c,d,?_,rest⟩
 obtain rfl:c=b:=r
 cases c <;> exact (rfl:_=_)
theorem rP:Sim prog w A E s φ cmp (get:StateT SortSt Sem SortSt) get:=by
 intro st ps b a q f e
 cases e
 exact ⟨st,st,f,f,rfl,fun Q q=>wpS_get q⟩
theorem dC (h:∀ st ps,Fol φ st ps->Fol φ (f st) (g ps)):Sim prog w A E s φ cmp (modify f:StateT SortSt Sem PUnit) (modify g):=by
 intro st ps b c q a e
 cases e
 exact ⟨_,_,rfl,h st ps a,rfl,fun Q q=>wpS_modify q⟩
theorem yr (h:Fol φ c a):Sim prog w A E s φ cmp (set c:StateT SortSt Sem PUnit) (set a):=by
 intro st ps b a q d e
 cases e
 exact ⟨_,_,rfl,h,rfl,fun Q q=>CZ ⟨rfl,q⟩⟩
theorem dB:Sim prog w A E s φ cmp (liftM (PySem.rule r:Sem Unit):StateT SortSt Sem Unit) (liftM (PySem.rule r:Sem Unit)):=by
 intro st ps b c q a e
 cases e
 exact ⟨_,st,rfl,a,rfl,fun Q q=>wpS_lift (wpAny_rule ⟨rfl,q⟩)⟩
theorem vx {i:Nat}:Sim prog w A E s φ cmp (elem' (arr.map φ) i) (elem' arr i):=by
 rw [elem'_eq,elem'_eq]
 cases e:arr[i]? with
 | none=>exact cL
 | some x =>
  have:(arr.map φ)[i]?=some (φ x):=by rw [Array.getElem?_map,e];rfl
  rw [this]
  exact aH rfl
theorem bF [Rl φ α] {i:Nat} {f g:Keyed->StateT SortSt Sem α} (k:∀ u,Sim prog w A E s φ cmp (f (φ u)) (g u)):Sim prog w A E s φ cmp (elem' (arr.map φ) i >>= f) (elem' arr i >>= g) :=
 ci vx fun u u' (hu:u = φ u')=>hu ▸ k u'
end
def k8 (bs:List Addr) (x:Keyed):Keyed:=match x.1 with
 | .ref i=>(.ref (bs.getD i 0),.ref (bs.getD i 0))
 | _=>(.none,.none)
def io (ns:List (List Int)) (i j:Nat):Option Bool:=match ns[i]?,ns[j]? with
 | some x,some y=>some (HT.lexLt x y)
 | _,_=>none
section
variable {prog:Program} {w:World} {A:Around} {E:Value->Shared->Prop} {s:Shared} {bs:List Addr} {ns:List (List Int)}
theorem pM (h:∀ a,v ≠ .ref a):∃ t,Builtin.List.listItems v=Sem.unsupported t:=by
 cases v
 case ref a=>exact absurd rfl (h a)
 case builtin id =>
  by_cases c:(withoutEnding? id "#opaque").isSome=true
  ·have e:notAStandIn (.builtin id)=Sem.unsupported id:=if_pos c
   refine ⟨id,?_⟩
   show Sem.bind (Sem.bind (notAStandIn (.builtin id)) _) _=_
   rw [e]
   rfl
  ·have e:notAStandIn (.builtin id)=Sem.pure ():=if_neg c
   have b:Builtin.List.listItems (.builtin id)=Sem.bind (Sem.bind (notAStandIn (.builtin id)) _) _:=rfl
   rw [e] at b
   exact ⟨_,b⟩
 all_goals exact ⟨_,rfl⟩
theorem zA (h:∀ a,v ≠ .ref a):∃ t,keyLt' (aX true) v y=Sem.unsupported t:=by
 obtain ⟨t,e⟩:=pM h
 obtain ⟨G,e1⟩:∃ G,keyLt' (aX true) v y=(Builtin.List.listItems v).bind G:=⟨_,rfl⟩
 exact ⟨t,by rw [e1,e];rfl⟩
theorem zz (h:∀ a,v ≠ .ref a):∃ t,keyLt' (aX true) (.ref i) v=(Builtin.List.listItems (.ref i)).bind fun _=>Sem.unsupported t:=by
 obtain ⟨t,e⟩:=pM h
 obtain ⟨G,e1⟩:∃ G:Array Value->Array Value->Sem Bool,keyLt' (aX true) (.ref i) v=(Builtin.List.listItems (.ref i)).bind fun xs=>(Builtin.List.listItems v).bind (G xs):=⟨_,rfl⟩
 exact ⟨t,by rw [e1,e];rfl⟩
theorem ua (u:IsNts s.heap a x) (r:IsNts s.heap b y) (hu:A.units < cLine) (h:Q (HT.lexLt x y) s):wpAny (model prog w) A (oneLt' true (.ref a) (.ref b)) Q E s:=by
 obtain ⟨o,⟨⟨c1,d,t,c⟩,e1,c1,l,i⟩,k⟩:=u
 obtain ⟨n,⟨⟨c2,f,j,e⟩,q,c2,p,g⟩,m⟩:=r
 simp only at c1 i c2 g
 subst c1 i c2 g
 rw [oneLt'_eq]
 simp only [if_true]
 refine CY (wpAny_cRoomFor hu ?_)
 refine CY (wpAny_callSpecialIfBound?_slot (T:="tuple") ⟨_,e1,rfl⟩ PySem.F.slot_tuple_lt (call_meets PySem.F.slot_tuple_lt (T:="tuple") ⟨_,e1,rfl⟩ PySem.F.entry_tuple_lt (PySem.F.args_tuple_lt_2 _ _) (HT.tuple_lt_ints a b o n l p d f c e x y k m) ⟨e1,q,?_⟩))
 exact DE h
theorem A0 (hu:A.units < cLine) (u:∀ (i:Nat) (n:List Int),ns[i]?=some n->IsNts s.heap (bs.getD i 0) n) (x y:Keyed):Sim prog w A E s (k8 bs) (io ns) (lt' (k8 bs x) (k8 bs y)) (lt' x y):=by
 intro st ps b c q f e
 obtain ⟨v,z⟩:=x
 obtain ⟨o,B⟩:=y
 have l:=f.kind'
 cases ps with
 | mk k a pd g fl =>
 have l:k=aX true:=l
 subst l
 by_cases d:∀ a,v ≠ .ref a
 ·obtain ⟨t,h⟩:=zA (y:=o) d
  rw [lt'_eq] at e
  have e:ev (io ns) (Sem.bind (Sem.bind (Sem.attempt (keyLt' (aX true) v o)) _) _) none=some ((b,c),q):=e
  rw [h] at e
  cases e
 ·by_cases p:∀ a,o ≠ .ref a
  ·obtain ⟨i,d⟩:=Classical.not_forall.mp d
   obtain rfl:v=.ref i:=Classical.not_not.mp d
   obtain ⟨t,h⟩:=zz (i:=i) p
   rw [lt'_eq] at e
   have e:ev (io ns) (Sem.bind (Sem.bind (Sem.attempt (keyLt' (aX true) (.ref i) o)) _) _) none=some ((b,c),q):=e
   rw [h] at e
   cases e
  ·obtain ⟨i,d⟩:=Classical.not_forall.mp d
   obtain rfl:v=.ref i:=Classical.not_not.mp d
   obtain ⟨j,p⟩:=Classical.not_forall.mp p
   obtain rfl:o=.ref j:=Classical.not_not.mp p
   have e:(match io ns i j with
    | some true=>some ((some true,SortSt.mk' (aX true) a pd g fl),none)
    | some false=>some ((some false,SortSt.mk' (aX true) a pd g fl),none)
    | none=>none)=some ((b,c),q):=e
   unfold io at e
   cases e1:ns[i]? with
   | none=>rw [e1] at e;cases e
   | some n =>
    cases r:ns[j]? with
    | none=>rw [e1,r] at e;cases e
    | some m =>
     rw [e1,r] at e
     have e:(match some (HT.lexLt n m) with
      | some true=>some ((some true,SortSt.mk' (aX true) a pd g fl),none)
      | some false=>some ((some false,SortSt.mk' (aX true) a pd g fl),none)
      | none=>none)=some ((b,c),q):=e
     have e:some ((some (HT.lexLt n m),SortSt.mk' (aX true) a pd g fl),(none:Option Addr))=some ((b,c),q):=by
      rw [<- e]
      cases HT.lexLt n m <;> rfl
     cases e
     refine ⟨_,st,rfl,f,rfl,fun Q q=>?_⟩
     rw [lt'_eq]
     refine wpS_bind (wpS_get ?_)
     rcases f.kind with l | l <;> rw [l]
     ·refine wpS_bind (wpS_lift (wpAny_attempt (uw (u i n e1) (u j m r) ⟨rfl,?_⟩)))
      exact wpS_pure q
     ·rw [keyLt'_oneType]
      refine wpS_bind (wpS_lift (wpAny_attempt (ua (u i n e1) (u j m r) hu ⟨rfl,?_⟩)))
      exact wpS_pure q
end
end L2
end
section
namespace L2
open PySem PySem.Spec PyProof.Rows
def sI:Bool->Keyed->Array Keyed->Nat->Nat->Nat->StateT SortSt Sem (Option Nat):=sortPriv% PySem.Builtin.gallop
def pC:Array Keyed->Array Keyed->StateT SortSt Sem (Array Keyed):=sortPriv% PySem.Builtin.mergeLo
def pD:Array Keyed->Array Keyed->StateT SortSt Sem (Array Keyed):=sortPriv% PySem.Builtin.mergeHi
def vB:Nat->StateT SortSt Sem Unit:=sortPriv% PySem.Builtin.setMinGallop
section
variable {prog:Program} {w:World} {A:Around} {E:Value->Shared->Prop} {s:Shared} {φ:Keyed->Keyed} {cmp:Nat->Nat->Option Bool}
theorem lS {g:Nat}:Sim prog w A E s φ cmp (vB g) (vB g) :=
 dC fun st ps f=>⟨f.kind,f.kind',f.arr,f.pend,rfl,f.fail,f.fail'⟩
theorem gi [EqRl γ] [EqRl δ] [Rl φ β] {m p:StateT SortSt Sem (Option γ × δ)} {f g:Option γ × δ->StateT SortSt Sem β} (h:Sim prog w A E s φ cmp m p) (b:∀ d,Sim prog w A E s φ cmp (f (none,d)) (g (none,d))) (a:∀ c d,Sim prog w A E s φ cmp (f (some c,d)) (g (some c,d))):Sim prog w A E s φ cmp (m >>= f) (p >>= g) :=
 aw h fun x=>match x with
  | (none,d)=>b d
  | (some c,d)=>a c d
theorem oV (a:∀ x y:Keyed,Sim prog w A E s φ cmp (lt' (φ x) (φ y)) (lt' x y)) {i j:Nat}:Sim prog w A E s φ cmp (ltAt' i j) (ltAt' i j):=by
 rw [ltAt'_eq]
 refine ci rP fun st ps f=>?_
 have e:arrOf st=(arrOf ps).map φ:=Fol.arr f
 dsimp only
 rw [e]
 exact bF fun u=>bF fun v=>a u v
theorem c9 {β:Type} (p q:β->Nat):∀ (l:List β) (xs:Array Keyed),l.foldl (fun a k=>a.swapIfInBounds (p k) (q k)) (xs.map φ)=(l.foldl (fun a k=>a.swapIfInBounds (p k) (q k)) xs).map φ
 | [],xs=>rfl
 | k :: l,xs=>by
  rw [List.foldl_cons,List.foldl_cons,<- c9 p q l]
  congr 1
  apply Array.ext_getElem?
  intro i
  rw [Array.getElem?_map]
  by_cases h1:p k < xs.size
  ·by_cases h2:q k < xs.size
   ·rw [getElem?_swapIB (by simpa using h1) (by simpa using h2),getElem?_swapIB h1 h2]
    simp only [Array.getElem?_map]
    repeat' split
    all_goals rfl
   ·rw [Array.swapIfInBounds_def,Array.swapIfInBounds_def,dif_pos (by simpa using h1),dif_neg (by simpa using h2),dif_pos h1,dif_neg h2,Array.getElem?_map]
  ·rw [Array.swapIfInBounds_def,Array.swapIfInBounds_def,dif_neg (by simpa using h1),dif_neg h1,Array.getElem?_map]
theorem rN {i j:Nat}:Sim prog w A E s φ cmp (reverseSlice' i j) (reverseSlice' i j):=by
 rw [reverseSlice'_eq]
 refine dC fun st ps f=>⟨f.kind,f.kind',?_,f.pend,f.mg,f.fail,f.fail'⟩
 show mirror (arrOf st) _ _ _=(mirror (arrOf ps) _ _ _).map φ
 rw [f.arr]
 exact c9 _ _ _ _
theorem oW {i j:Nat}:Sim prog w A E s φ cmp (moveDown' i j) (moveDown' i j):=by
 rw [moveDown'_eq]
 refine dC fun st ps f=>⟨f.kind,f.kind',?_,f.pend,f.mg,f.fail,f.fail'⟩
 show bubble (arrOf st) _ _=(bubble (arrOf ps) _ _).map φ
 rw [f.arr]
 exact c9 _ _ _ _
theorem yw (a:∀ x y:Keyed,Sim prog w A E s φ cmp (lt' (φ x) (φ y)) (lt' x y)) {lo n ok:Nat}:Sim prog w A E s φ cmp (binarySort' lo n ok) (binarySort' lo n ok):=by
 rw [binarySort'_eq]
 repeat' first
  | exact aH rfl
  | exact cL
  | refine bz (fun _=>?_) (fun _=>?_)
  | (refine bp (oV a) ?_ (fun u=>?_) <;> try dsimp only)
  | (refine aw rN (fun u=>?_);try dsimp only)
  | (refine aw oW (fun u=>?_);try dsimp only)
  | (refine aw dB (fun u=>?_);try dsimp only)
  | (refine gi (gh fun i x=>?_) (fun d=>?_) (fun c d=>?_) <;> try dsimp only)
  | (refine aw (gh fun i x=>?_) (fun x=>?_) <;> try dsimp only)
theorem yt (a:∀ x y:Keyed,Sim prog w A E s φ cmp (lt' (φ x) (φ y)) (lt' x y)) {lo n:Nat}:Sim prog w A E s φ cmp (countRun' lo n) (countRun' lo n):=by
 rw [countRun'_eq]
 repeat' first
  | exact aH rfl
  | exact cL
  | refine bz (fun _=>?_) (fun _=>?_)
  | (refine bp (oV a) ?_ (fun u=>?_) <;> try dsimp only)
  | (refine aw rN (fun u=>?_);try dsimp only)
  | (refine aw oW (fun u=>?_);try dsimp only)
  | (refine aw dB (fun u=>?_);try dsimp only)
  | (refine gi (gh fun i x=>?_) (fun d=>?_) (fun c d=>?_) <;> try dsimp only)
  | (refine aw (gh fun i x=>?_) (fun x=>?_) <;> try dsimp only)
end
end L2
end
section
namespace L2
open PySem PySem.Spec PyProof.Rows
section
variable {prog:Program} {w:World} {A:Around} {E:Value->Shared->Prop} {s:Shared} {φ:Keyed->Keyed} {cmp:Nat->Nat->Option Bool}
theorem eD (a:∀ x y:Keyed,Sim prog w A E s φ cmp (lt' (φ x) (φ y)) (lt' x y)) {base n hint:Nat}:Sim prog w A E s φ cmp (sI left (φ key) (arr.map φ) base n hint) (sI left key arr base n hint):=by
 refine bp (bF fun u=>bz (fun _=>a _ _) (fun _=>aw (a _ _) fun r=>aH rfl)) (aH rfl) (fun u=>?_)
 dsimp only
 repeat' first
  | exact aH rfl
  | refine bz (fun _=>?_) (fun _=>?_)
  | (refine bp (bF fun u=>bz (fun _=>a _ _) (fun _=>aw (a _ _) fun r=>aH rfl)) ?_ (fun u=>?_) <;> try dsimp only)
  | (refine gi (gh fun i x=>?_) (fun d=>?_) (fun c d=>?_) <;> try dsimp only)
end
end L2
end
section
namespace L2
open PySem PySem.Spec PyProof.Rows
section
variable {prog:Program} {w:World} {A:Around} {E:Value->Shared->Prop} {s:Shared} {φ:Keyed->Keyed} {cmp:Nat->Nat->Option Bool}
theorem jG [EqRl α]:@Rl.rel φ α rlE a a:=rfl
theorem fN {X Y:Array Keyed} (h:X=Y.map φ):Rl.rel φ X Y:=h
theorem dM [Rl φ α] {a b:α} (h:Rl.rel φ a b):@Rl.rel φ _ rlO (some a) (some b):=h
theorem dO [Rl φ α]:@Rl.rel φ _ rlO (none:Option α) none:=trivial
theorem dP [Rl φ α] {a b:α} (h:Rl.rel φ a b):@Rl.rel φ _ rlF (ForInStep.done a) (ForInStep.done b):=h
theorem cW [Rl φ α] {a b:α} (h:Rl.rel φ a b):@Rl.rel φ _ rlF (ForInStep.yield a) (ForInStep.yield b):=h
theorem dN [Rl φ α] [Rl φ β] {a b:α} {d c:β} (h:Rl.rel φ a b) (h':Rl.rel φ d c):@Rl.rel φ _ rlP (a,d) (b,c):=⟨h,h'⟩
theorem vw [EqRl γ] {a b : Nat} {x y : Option (Array Keyed) × Array Keyed × γ} {f g : Nat -> Option (Array Keyed) × Array Keyed × γ -> StateT SortSt Sem (ForInStep (Option (Array Keyed) × Array Keyed × γ))} (r : Rl.rel φ x y) (h : ∀ i o d c, Sim prog w A E s φ cmp (f i (o.map (Array.map φ), d.map φ, c)) (g i (o, d, c))) : Sim prog w A E s φ cmp (forIn [a:b] x f) (forIn [a:b] y g) := by
  refine eE r fun i x y r => ?_
  obtain ⟨n, l, e⟩ := x
  obtain ⟨u, j, v⟩ := y
  obtain ⟨k, t, m⟩ := r
  obtain rfl : l = j.map φ := t
  obtain rfl : e = v := m
  cases n <;> cases u <;> first | exact False.elim k | skip
  · exact h i none j e
  · rename_i p q
    obtain rfl : p = q.map φ := k
    exact h i (some q) j e
theorem tG [EqRl γ] [Rl φ β] {m p : StateT SortSt Sem (Option (Array Keyed) × Array Keyed × γ)} {f g : Option (Array Keyed) × Array Keyed × γ -> StateT SortSt Sem β} (h : Sim prog w A E s φ cmp m p) (l : ∀ d c, Sim prog w A E s φ cmp (f (none, d.map φ, c)) (g (none, d, c))) (n : ∀ r d c, Sim prog w A E s φ cmp (f (some (r.map φ), d.map φ, c)) (g (some r, d, c))) : Sim prog w A E s φ cmp (m >>= f) (p >>= g) := by
  refine ci h fun x y r => ?_
  obtain ⟨k, i, a⟩ := x
  obtain ⟨t, b, u⟩ := y
  obtain ⟨e, o, j⟩ := r
  obtain rfl : i = b.map φ := o
  obtain rfl : a = u := j
  cases k <;> cases t <;> first | exact False.elim e | skip
  · exact l b a
  · rename_i p q
    obtain rfl : p = q.map φ := e
    exact n q b a
theorem cM [Rl φ β] {f g:SortSt->StateT SortSt Sem β} (k:∀ st ps,Fol φ st ps->Sim prog w A E s φ cmp (f st) (g ps)):Sim prog w A E s φ cmp (get >>= f) (get >>= g) :=
 ci rP fun st ps a=>k st ps a
theorem oS (e:∀ x y:Keyed,Sim prog w A E s φ cmp (lt' (φ x) (φ y)) (lt' x y)) (a b:Array Keyed):Sim prog w A E s φ cmp (pC (a.map φ) (b.map φ)) (pC a b):=by
 refine aw dB fun _=>?_
 refine bF fun y=>?_
 simp only [Array.size_map]
 refine bz (fun _=>aH (by (repeat' first | with_reducible exact dO | with_reducible apply dP | with_reducible apply cW | with_reducible apply dM | (with_reducible apply fN;simp only [Array.map_append,Array.map_push,Array.map_extract,Array.map_reverse,List.map_toArray,Dn,List.map_nil];done) | with_reducible apply dN | with_reducible exact jG))) fun _=>?_
 refine bz (fun _=>aH (by (repeat' first | with_reducible exact dO | with_reducible apply dP | with_reducible apply cW | with_reducible apply dM | (with_reducible apply fN;simp only [Array.map_append,Array.map_push,Array.map_extract,Array.map_reverse,List.map_toArray,Dn,List.map_nil];done) | with_reducible apply dN | with_reducible exact jG))) fun _=>?_
 refine cM fun st ps g=>?_
 have f:=g.mg
 simp only [gallopOf] at f
 rw [f]
 repeat' first
  | exact aH (by (repeat' first | with_reducible exact dO | with_reducible apply dP | with_reducible apply cW | with_reducible apply dM | (with_reducible apply fN;simp only [Array.map_append,Array.map_push,Array.map_extract,Array.map_reverse,List.map_toArray,Dn,List.map_nil];done) | with_reducible apply dN | with_reducible exact jG))
  | exact cL
  | refine bz (fun _=>?_) (fun _=>?_)
  | refine aw lS (fun _=>?_)
  | refine aw dB (fun _=>?_)
  | refine bF fun u=>?_
  | (refine bp (eD e) ?_ (fun u=>?_) <;> try dsimp only)
  | (refine bp (e _ _) ?_ (fun u=>?_) <;> try dsimp only)
  | (refine tG (vw (by (repeat' first | with_reducible exact dO | with_reducible apply dP | with_reducible apply cW | with_reducible apply dM | (with_reducible apply fN;simp only [Array.map_append,Array.map_push,Array.map_extract,Array.map_reverse,List.map_toArray,Dn,List.map_nil];done) | with_reducible apply dN | with_reducible exact jG)) fun i o d c=>?_) (fun d c=>?_) (fun r d c=>?_) <;> try dsimp only)
end
end L2
end
section
namespace L2
open PySem PySem.Spec PyProof.Rows
section
variable {prog:Program} {w:World} {A:Around} {E:Value->Shared->Prop} {s:Shared} {φ:Keyed->Keyed} {cmp:Nat->Nat->Option Bool}
theorem vv [EqRl γ] {a b : Nat} {x y : Option (Array Keyed) × Nat × Nat × Array Keyed × γ} {f g : Nat -> Option (Array Keyed) × Nat × Nat × Array Keyed × γ -> StateT SortSt Sem (ForInStep (Option (Array Keyed) × Nat × Nat × Array Keyed × γ))} (r : Rl.rel φ x y) (h : ∀ i o m n d c, Sim prog w A E s φ cmp (f i (o.map (Array.map φ), m, n, d.map φ, c)) (g i (o, m, n, d, c))) : Sim prog w A E s φ cmp (forIn [a:b] x f) (forIn [a:b] y g) := by
  refine eE r fun i x y r => ?_
  obtain ⟨I, v, t, l, j⟩ := x
  obtain ⟨G, B, D, e, H⟩ := y
  obtain ⟨k, z, C, F, u⟩ := r
  obtain rfl : v = B := z
  obtain rfl : t = D := C
  obtain rfl : l = e.map φ := F
  obtain rfl : j = H := u
  cases I <;> cases G <;> first | exact False.elim k | skip
  · exact h i none _ _ e j
  · rename_i p q
    obtain rfl : p = q.map φ := k
    exact h i (some q) _ _ e j
theorem tF [EqRl γ] [Rl φ β] {m p : StateT SortSt Sem (Option (Array Keyed) × Nat × Nat × Array Keyed × γ)} {f g : Option (Array Keyed) × Nat × Nat × Array Keyed × γ -> StateT SortSt Sem β} (h : Sim prog w A E s φ cmp m p) (o : ∀ m n d c, Sim prog w A E s φ cmp (f (none, m, n, d.map φ, c)) (g (none, m, n, d, c))) (B : ∀ r m n d c, Sim prog w A E s φ cmp (f (some (r.map φ), m, n, d.map φ, c)) (g (some r, m, n, d, c))) : Sim prog w A E s φ cmp (m >>= f) (p >>= g) := by
  refine ci h fun x y r => ?_
  obtain ⟨G, l, j, i, b⟩ := x
  obtain ⟨D, u, z, a, F⟩ := y
  obtain ⟨e, t, v, C, k⟩ := r
  obtain rfl : l = u := t
  obtain rfl : j = z := v
  obtain rfl : i = a.map φ := C
  obtain rfl : b = F := k
  cases G <;> cases D <;> first | exact False.elim e | skip
  · exact o _ _ a b
  · rename_i p q
    obtain rfl : p = q.map φ := e
    exact B q _ _ a b
theorem oT (e:∀ x y:Keyed,Sim prog w A E s φ cmp (lt' (φ x) (φ y)) (lt' x y)) (a b:Array Keyed):Sim prog w A E s φ cmp (pD (a.map φ) (b.map φ)) (pD a b):=by
 refine aw dB fun _=>?_
 simp only [Array.size_map]
 refine bF fun y=>?_
 refine bz (fun _=>aH (by (repeat' first | with_reducible exact dO | with_reducible apply dP | with_reducible apply cW | with_reducible apply dM | (with_reducible apply fN;simp only [Array.map_append,Array.map_push,Array.map_extract,Array.map_reverse,List.map_toArray,Dn,List.map_nil];done) | with_reducible apply dN | with_reducible exact jG))) fun _=>?_
 refine bz (fun _=>aH (by (repeat' first | with_reducible exact dO | with_reducible apply dP | with_reducible apply cW | with_reducible apply dM | (with_reducible apply fN;simp only [Array.map_append,Array.map_push,Array.map_extract,Array.map_reverse,List.map_toArray,Dn,List.map_nil];done) | with_reducible apply dN | with_reducible exact jG))) fun _=>?_
 refine cM fun st ps g=>?_
 have f:=g.mg
 simp only [gallopOf] at f
 rw [f]
 repeat' first
  | exact aH (by (repeat' first | with_reducible exact dO | with_reducible apply dP | with_reducible apply cW | with_reducible apply dM | (with_reducible apply fN;simp only [Array.map_append,Array.map_push,Array.map_extract,Array.map_reverse,List.map_toArray,Dn,List.map_nil];done) | with_reducible apply dN | with_reducible exact jG))
  | exact cL
  | refine bz (fun _=>?_) (fun _=>?_)
  | refine aw lS (fun _=>?_)
  | refine aw dB (fun _=>?_)
  | refine bF fun u=>?_
  | (refine bp (eD e) ?_ (fun u=>?_) <;> try dsimp only)
  | (refine bp (e _ _) ?_ (fun u=>?_) <;> try dsimp only)
  | (refine tF (vv (by (repeat' first | with_reducible exact dO | with_reducible apply dP | with_reducible apply cW | with_reducible apply dM | (with_reducible apply fN;simp only [Array.map_append,Array.map_push,Array.map_extract,Array.map_reverse,List.map_toArray,Dn,List.map_nil];done) | with_reducible apply dN | with_reducible exact jG)) fun i o m n d c=>?_) (fun m n d c=>?_) (fun r m n d c=>?_) <;> try dsimp only)
end
end L2
end
section
namespace L2
open PySem PySem.Spec PyProof.Rows
section
variable {prog:Program} {w:World} {A:Around} {E:Value->Shared->Prop} {s:Shared} {φ:Keyed->Keyed} {cmp:Nat->Nat->Option Bool}
theorem mx (b:∀ a p j,G (a.map φ) (φ p,j)=(G a (p,j)).map φ):∀ (l:List (Keyed × Nat)) (xs:Array Keyed),(l.map fun x=>(φ x.1,x.2)).foldl G (xs.map φ)=(l.foldl G xs).map φ
 | [],xs=>rfl
 | (p,j) :: l,xs=>by
  rw [Dn,List.foldl_cons,List.foldl_cons,<- mx b l]
  dsimp only
  rw [b]
theorem rO {f:SortSt->Array Keyed->SortSt} (hf:∀ st X,f st X=setArr st (X.toList.zipIdx.foldl G (arrOf st))) (c:∀ a p j,G (a.map φ) (φ p,j)=(G a (p,j)).map φ):Sim prog w A E s φ cmp (modify fun st=>f st (m.map φ)) (modify fun st=>f st m):=by
 refine dC fun st ps b=>?_
 rw [hf,hf]
 refine ⟨b.kind,b.kind',?_,b.pend,b.mg,b.fail,b.fail'⟩
 show _=Array.map φ (m.toList.zipIdx.foldl G (arrOf ps))
 rw [<- mx c,<- b.arr]
 show (m.map φ).toList.zipIdx.foldl G (arrOf st)=_
 congr 1
 rw [Array.toList_map,List.zipIdx_map]
 rfl
theorem lT [Rl φ β] {f g:Array Keyed->StateT SortSt Sem β} (h:Sim prog w A E s φ cmp m p) (k:∀ d,Sim prog w A E s φ cmp (f (d.map φ)) (g d)):Sim prog w A E s φ cmp (m >>= f) (p >>= g):=by
 refine ci h fun x y (r:x=y.map φ)=>?_
 rw [r]
 exact k y
theorem oU (e:∀ x y:Keyed,Sim prog w A E s φ cmp (lt' (φ x) (φ y)) (lt' x y)) (i:Nat):Sim prog w A E s φ cmp (mergeAt' i) (mergeAt' i):=by
 refine cM fun st ps c=>?_
 have h1:=c.arr
 have h2:=c.pend
 simp only [arrOf,pendingOf] at h1 h2
 rw [h2]
 generalize (pendingOf ps)[i]?=a
 generalize (pendingOf ps)[i+1]?=b
 cases a with
 | none=>exact cL
 | some a =>
 cases b with
 | none=>exact cL
 | some b =>
 obtain ⟨sa,na,h⟩:=a
 obtain ⟨sb,nb,g⟩:=b
 refine aw (yr ⟨c.kind,c.kind',c.arr,rfl,c.mg,c.fail,c.fail'⟩) fun _=>?_
 rw [h1]
 refine bF fun u=>?_
 refine bp (eD e) (aH rfl) fun k=>?_
 refine bz (fun _=>aH rfl) fun _=>?_
 refine bF fun u=>?_
 refine bp (eD e) (aH rfl) fun k=>?_
 refine bz (fun _=>aH rfl) fun _=>?_
 simp only [<- Array.map_extract]
 refine bz (fun _=>?_) fun _=>?_
 ·refine lT (oS e _ _) fun d=>aw (rO (fun _ _=>rfl) fun _ _ _=>Array.map_setIfInBounds.symm) fun _=>cM fun st ps f=>aH ?_
  show (failedOf st).isNone=(failedOf ps).isNone
  rw [f.fail,f.fail']
 ·refine lT (oT e _ _) fun d=>aw (rO (fun _ _=>rfl) fun _ _ _=>Array.map_setIfInBounds.symm) fun _=>cM fun st ps f=>aH ?_
  show (failedOf st).isNone=(failedOf ps).isNone
  rw [f.fail,f.fail']
theorem oR (F:Array (Nat × Nat × Nat)->Array (Nat × Nat × Nat)) (hf:∀ st,f st=setPending st (F (pendingOf st))):Sim prog w A E s φ cmp (modify f) (modify f) :=
 dC fun st ps a=>by
  rw [hf,hf]
  exact ⟨a.kind,a.kind',a.arr,congrArg F a.pend,a.mg,a.fail,a.fail'⟩
theorem vq (a:∀ x y:Keyed,Sim prog w A E s φ cmp (lt' (φ x) (φ y)) (lt' x y)):Sim prog w A E s φ cmp sortRuns' sortRuns':=by
 rw [sortRuns'_eq]
 refine cM fun st ps b=>?_
 have hsz:(arrOf st).size=(arrOf ps).size:=by rw [b.arr,Array.size_map]
 dsimp only
 rw [hsz]
 generalize (arrOf ps).size=n
 repeat' first
  | exact aH rfl
  | refine bz (fun _=>?_) (fun _=>?_)
  | (refine bp (yt a) ?_ (fun u=>?_) <;> try dsimp only)
  | (refine aw (yw a) (fun u=>?_);try dsimp only)
  | (refine aw (oU a _) (fun u=>?_);try dsimp only)
  | (refine aw dB (fun u=>?_);try dsimp only)
  | (refine aw (oR (fun p=>p.push _) fun _=>rfl) (fun u=>?_);try dsimp only)
  | (refine aw (oR (fun p=>p.modify (p.size - 1) _) fun _=>rfl) (fun u=>?_);try dsimp only)
  | (refine cM fun st ps b=>?_;rw [b.pend];generalize pendingOf ps=p;try dsimp only)
  | (refine gi (gh fun i x=>?_) (fun d=>?_) (fun c d=>?_) <;> try dsimp only)
  | (generalize Array.back? _=d;rcases d with _ | ⟨s1,e,x⟩ <;> dsimp only)
  | (generalize (if p.size > 1 then p[p.size - 2]? else none)=d;rcases d with _ | ⟨s1,e,x⟩ <;> dsimp only)
end
end L2
end
section
namespace L2
open PySem PySem.Spec PyProof.Rows
def mf (n:Nat):Array Keyed:=((List.range n).map fun i=>((Value.ref i,Value.ref i):Keyed)).toArray
def kJ (x:Keyed):Option Nat:=match x.1 with
 | .ref i=>some i
 | _=>none
def bC (ns:List (List Int)):Option (List Nat) :=
 match ev (io ns) (sortRuns'.run (SortSt.mk' (aX true) (mf ns.length) #[] 7 none)) none with
 | some ((_,st),_)=>(arrOf st).toList.mapM kJ
 | none=>none
end L2
end
section
namespace L2
open PySem PySem.Spec PyProof.Rows
structure NRs (h:Heap) (bs:List Addr) (ns:List (List Int)):Prop where
 len:ns.length=bs.length
 at':∀ (i:Nat) (b:Addr) (n:List Int),bs[i]?=some b->ns[i]?=some n->IsNts h b n
theorem NRs.tail (r:NRs h (b :: bs) (n :: ns)):NRs h bs ns :=
 ⟨by simpa using r.len,fun i b n e1 a=>r.at' (i+1) b n (by simpa using e1) (by simpa using a)⟩
theorem NRs.keep (r:NRs h bs ns) (k:∀ b ∈ bs,∀ o,h.get? b=some o->h'.get? b=some o):NRs h' bs ns :=
 ⟨r.len,fun i b n e1 a=>(r.at' i b n e1 a).at (k b (Df e1))⟩
theorem NRs.mem (r:NRs h bs ns):∀ b ∈ bs,∃ n ∈ ns,IsNts h b n:=fun b c=>by
 obtain ⟨i,hi⟩:=List.getElem?_of_mem c
 have a:i < ns.length:=by rw [r.len];exact (De.mp hi).1
 exact ⟨ns[i],List.getElem_mem _,r.at' i b _ hi (C9 a)⟩
def kOk (ns:List (List Int)):Prop:=(∀ n ∈ ns,n ≠ [])\/ns.head?=some []
theorem ko:bC []=some []:=by kernel_rfl
theorem km (n:List Int):bC [n]=some [0]:=by kernel_rfl
section
variable {prog:Program} {w:World} {A:Around} {E:Value->Shared->Prop} {s:Shared}
theorem xj (a:IsNts s.heap b []) (h:Q none s):wpAny (model prog w) A (firstOfTuple' (.ref b)) Q E s:=by
 obtain ⟨it,⟨o,e,c,k,d⟩,j⟩:=a
 refine CY (wpAny_typeOf (T:="tuple") ⟨o,e,c⟩ ?_)
 rw [if_neg (by decide)]
 refine CY (listItems_at e d ?_)
 have:it[0]?=none:=by
  rw [<- Array.getElem?_toList]
  generalize it.toList=l at j
  cases j
  rfl
 rw [this]
 exact CZ h
theorem iA:∀ (bs:List Addr) (ns:List (List Int)),NRs s.heap bs ns->(∀ os:List (Option Value),(ns.head?=some []->os.head?=some none)->Q os s) ->
  wpAny (model prog w) A ((bs.map Value.ref).mapM firstOfTuple') Q E s
 | [],[],_,q=>by
  simp only [List.map_nil,List.mapM_nil]
  exact CZ (q [] fun h=>by cases h)
 | [],_ :: _,r,_=>by have:=r.len;cases this
 | _ :: _,[],r,_=>by have:=r.len;cases this
 | b :: bs,n :: ns,r,q=>by
  rw [Dn,List.mapM_cons]
  have a:=r.at' 0 b n rfl rfl
  cases n with
  | nil=>exact CY (xj a (CY (iA bs ns r.tail fun os _=>CZ (q (none :: os) fun _=>rfl))))
  | cons i n=>exact CY (mB a (by simp) fun j t=>CY (iA bs ns r.tail fun os _=>CZ (q (some (.int j t) :: os) fun h=>by simp at h)))
theorem lO:∀ (bs:List Addr) (ns:List (List Int)),NRs s.heap bs ns->Q (bs.map fun _=>.type "tuple") s->wpAny (model prog w) A ((bs.map Value.ref).mapM typeOf) Q E s
 | [],_,_,q=>by
  simp only [List.map_nil,List.mapM_nil]
  exact CZ q
 | _ :: _,[],r,_=>by have:=r.len;cases this
 | b :: bs,n :: ns,r,q=>by
  rw [Dn,List.mapM_cons]
  obtain ⟨it,⟨o,e,c,k,d⟩,j⟩:=r.at' 0 b n rfl rfl
  exact CY (wpAny_typeOf (T:="tuple") ⟨o,e,c⟩ (CY (lO bs ns r.tail (CZ q))))
theorem wT (h2:bs ≠ []) (r:NRs s.heap bs ns) (a:kOk ns) (h:∀ k,qJ k->Q k s):wpAny (model prog w) A (keyKind' (bs.map Value.ref).toArray) Q E s:=by
 rcases a with a | a
 ·refine wS h2 (fun b e=>?_) (h _ (.inl rfl))
  obtain ⟨n,f,x⟩:=r.mem b e
  exact ⟨n,a n f,x⟩
 ·rw [keyKind'_eq,List.mapM_toArray]
  refine CY ?_
  rw [map_eq_pure_bind]
  refine CY (iA bs ns r fun os d=>CZ ?_)
  have d:=d a
  obtain ⟨os,rfl⟩:∃ l,os=none :: l:=by
   cases os with
   | nil=>cases d
   | cons x l=>cases d;exact ⟨l,rfl⟩
  rw [if_neg (by simp),if_neg (by simp),oneTypeOnly'_eq,List.mapM_toArray]
  refine CY (CY ?_)
  rw [map_eq_pure_bind]
  refine CY (lO bs ns r (CZ ?_))
  have h0:(List.map (fun _:Addr=>Value.type "tuple") bs).toArray[0]?=some (Value.type "tuple"):=by
   cases bs with
   | nil=>exact absurd rfl h2
   | cons b bs=>simp
  have c:((List.map (fun _:Addr=>Value.type "tuple") bs).toArray.all fun x=>x == Value.type "tuple")=true:=by
   simp only [List.all_toArray,List.all_map,List.all_eq_true]
   intro _ _
   rfl
  rw [h0]
  dsimp only
  rw [if_pos c]
  exact CZ (CZ (h _ (.inr rfl)))
theorem t8 (bs:List Addr):(bs.map Value.ref).toArray.zip (bs.map Value.ref).toArray=(mf bs.length).map (k8 bs):=by
 apply Array.ext_getElem?
 intro i
 rw [List.zip_toArray,Array.getElem?_map]
 unfold mf
 simp only [List.getElem?_toArray,Di]
 by_cases hi:i < bs.length
 ·rw [List.getElem?_range hi]
  have e:bs[i]?=some bs[i]:=C9 hi
  have:((bs.map Value.ref).zip (bs.map Value.ref))[i]?=some (Value.ref bs[i],Value.ref bs[i]):=by
   simp [List.getElem?_zip_eq_some,e]
  rw [this]
  simp [k8,List.getD,e]
 ·rw [List.getElem?_eq_none (by simp;omega),List.getElem?_eq_none (by simp;omega)]
  rfl
theorem po:∀ {l:List Keyed} {is:List Nat},l.mapM kJ=some is->l.map (fun x=>(k8 bs x).2)=is.map fun i=>Value.ref (bs.getD i 0)
 | [],is,h=>by cases h;rfl
 | x :: l,is,h=>by
  rw [List.mapM_cons] at h
  obtain ⟨i,e1,h⟩:=Dx.mp h
  obtain ⟨a,b,h⟩:=Dx.mp h
  cases h
  rw [Dn,Dn,po b]
  congr 1
  unfold kJ at e1
  unfold k8
  cases c:x.1 <;> rw [c] at e1 <;> cases e1
  rfl
theorem tQ (hu:A.units < cLine) (r:NRs s.heap bs ns) (g:qJ k) (c:bC ns=some is) (h:∀ b,(arrOf b).map (·.2)=(is.map fun i=>Value.ref (bs.getD i 0)).toArray->failedOf b=none->Q () b) :
  wpS (model prog w) A E s sortRuns' Q (SortSt.mk' k ((bs.map Value.ref).toArray.zip (bs.map Value.ref).toArray) #[] 7 none):=by
 unfold bC at c
 cases e:ev (io ns) (sortRuns'.run (SortSt.mk' (aX true) (mf ns.length) #[] 7 none)) none with
 | none=>rw [e] at c;cases c
 | some p =>
  obtain ⟨⟨u,ps⟩,q⟩:=p
  rw [e] at c
  have c:(arrOf ps).toList.mapM kJ=some is:=c
  have j:∀ (i:Nat) (n:List Int),ns[i]?=some n->IsNts s.heap (bs.getD i 0) n:=fun i n e=>by
   have hi:i < bs.length:=by rw [<- r.len];exact (De.mp e).1
   have d:bs[i]?=some bs[i]:=C9 hi
   rw [List.getD,d]
   exact r.at' i _ n d e
  obtain ⟨a,b,_,f,_,hw⟩:=vq (A0 (prog:=prog) (w:=w) (E:=E) hu j) (SortSt.mk' k ((bs.map Value.ref).toArray.zip (bs.map Value.ref).toArray) #[] 7 none) (SortSt.mk' (aX true) (mf ns.length) #[] 7 none) u ps q
   ⟨g,rfl,by rw [r.len];exact t8 bs,rfl,rfl,rfl,rfl⟩ e
  refine hw _ (h b ?_ f.fail)
  rw [f.arr,Array.map_map]
  apply Array.ext'
  rw [Array.toList_map]
  exact po c
theorem vp {n:Nat} (hu:A.units < cLine) (p:s.heap.get? a=some (seqObj "list" (bs.map Value.ref).toArray n)) (r:NRs s.heap bs ns) (t:kOk ns) (j:bC ns=some is) (hsz:bs.length<=sizeLine) (x:is.length<=sizeLine) (h:P (.done (.ret .none)) { s with heap:=sortedHeap s.heap a (bs.map Value.ref) (is.map fun i=>Value.ref (bs.getD i 0)).toArray }) :
  wpAny (model prog w) A (Builtin.«list.sort» ⟨[.ref a],[]⟩) P E s:=by
 rw [list_sort_plain]
 have D:a < s.heap.objs.size:=Da p
 have hsz2:(bs.map Value.ref).toArray.size<=sizeLine:=by simpa using hsz
 have g:(is.map fun i=>Value.ref (bs.getD i 0)).toArray.size<=sizeLine:=by simpa using x
 have q:∀ b ∈ bs,b ≠ a:=fun b u z=>by
  obtain ⟨m,_,it,⟨o,e1,c,_⟩,_⟩:=r.mem b u
  rw [z,p] at e1
  cases e1
  have c:Value.type "list"=Value.type "tuple":=c
  injection c with c
  exact absurd c (by decide)
 refine CY (listItems_at p rfl ?_)
 refine CY (listUpdate_at p rfl ?_)
 obtain ⟨e1,l⟩:∃ e1,(s.heap.update a (Obj.mapSeq fun _=>#[])).get? a=some (seqObj "list" #[] e1):=⟨_,get?_update_seq p (fun _=>#[])⟩
 refine CY (seqEpoch_at l rfl ?_)
 refine CY (wpAny_newTuple ?_)
 refine CY (wpAny_newList ?_)
 refine C0 ?_
 have f:(((s.heap.update a (Obj.mapSeq fun _=>#[])).push (seqObj "tuple" (bs.map Value.ref).toArray 0)).push (seqObj "list" #[] 0)).get? a=some (seqObj "list" #[] e1) :=
  C4 _ (C4 _ l)
 have y:NRs (((s.heap.update a (Obj.mapSeq fun _=>#[])).push (seqObj "tuple" (bs.map Value.ref).toArray 0)).push (seqObj "list" #[] 0)) bs ns:=r.keep fun b u o e =>
  C4 _ (C4 _ ((DC _ _ (Ne.symm (q b u))).trans e))
 show wpAny (model prog w) A _ P E { s with heap:=((s.heap.update a (Obj.mapSeq fun _=>#[])).push (seqObj "tuple" (bs.map Value.ref).toArray 0)).push (seqObj "list" #[] 0) }
 dsimp only
 by_cases h2:(bs.map Value.ref).toArray.size < 2
 ·rw [if_pos h2,if_pos h2]
  refine CY (CZ ?_)
  rw [StateT.run_pure]
  refine CY (CZ ?_)
  dsimp only
  have out:((bs.map Value.ref).toArray.zip (bs.map Value.ref).toArray).map (·.2)=(is.map fun i=>Value.ref (bs.getD i 0)).toArray:=by
   have B:=r.len
   match bs,ns,B,h2 with
   | [],[],_,_=>rw [ko] at j;cases j;simp
   | [b],[n],_,_=>rw [km] at j;cases j;simp [List.zip_toArray]
   | _ :: _ :: _,_,_,h2=>simp at h2;omega
  refine CY (seqEpoch_at f rfl ?_)
  show wpAny _ _ (Builtin.List.listUpdate (.ref a) (fun _=>((bs.map Value.ref).toArray.zip (bs.map Value.ref).toArray).map (·.2)) >>= _) _ _ _
  rw [out]
  refine CY (listUpdate_at f rfl ?_ (hsz2:=Nat.le_succ_of_le g))
  simp only [bne_self_eq_false,Dz,if_false]
  exact CZ h
 ·rw [if_neg h2,if_neg h2]
  have v:bs ≠ []:=fun z=>by subst z;simp at h2
  refine CY (wT v y t fun k t=>?_)
  refine CY (wpAny_mono (tQ (Q:=fun _ d=>(arrOf d).map (·.2)=(is.map fun i=>Value.ref (bs.getD i 0)).toArray/\failedOf d=none) hu y t j fun d a1 a2=>⟨a1,a2⟩) ?_ fun _ _ e=>e)
  rintro ⟨⟨⟩,d⟩ s' ⟨rfl,C,hf⟩
  dsimp only
  refine CY (seqEpoch_at f rfl ?_)
  rw [C]
  refine CY (listUpdate_at f rfl ?_ (hsz2:=Nat.le_succ_of_le g))
  rw [hf]
  simp only [bne_self_eq_false,Dz,if_false]
  exact CZ h
end
end L2
end
section
namespace L2
open PySem PySem.Spec PyProof.Rows
section
variable {prog:Program} {w:World} {A:Around} {E:Value->Shared->Prop} {s:Shared}
theorem ql (hu:A.units+2 < cLine) (f:s.heap.IsList l (bs.map Value.ref).toArray) (r:NRs s.heap bs ns) (g:kOk ns) (k:bC ns=some is) (hsz:bs.length<=sizeLine) (d:is.length<=sizeLine) (h:∀ h' p,s.heap.objs.size<=p->(∀ b o,s.heap.get? b=some o->h'.get? b=some o)->(∃ e,h'.get? p=some (seqObj "list" (is.map fun i=>Value.ref (bs.getD i 0)).toArray e))->Q (.ref p) { s with heap:=h' }) :
  wpAny (model prog w) A (call (.builtin "sorted") [.ref l]) Q E s:=by
 refine Calls.call_function_entry kind_sorted plain_sorted entry_sorted (args_sorted1 _) ?_
 unfold Builtin.«sorted»
 refine CY (m:=checkCount "sorted" 1 1 _) (CZ ?_)
 refine CY (collect_list f ?_ (by rw [Dd];exact hsz))
 refine CY (wpAny_newList ?_ (by rw [Dd];exact hsz))
 obtain ⟨h1,k1,j,e1⟩:∃ h1,(∀ b o,s.heap.get? b=some o->h1.get? b=some o)/\s.heap.objs.size<=h1.objs.size/\h1=(s.heap.push (seqObj "list" #[] 0)).update s.heap.objs.size (Obj.mapSeq (· ++ (bs.map Value.ref).toArray)):=by
  refine ⟨_,fun b o e=>?_,?_,rfl⟩
  ·exact (DC _ _ (Nat.ne_of_gt (Da e))).trans (C4 _ e)
  ·rw [Heap.size_update,DD]
   exact Nat.le_succ _
 rw [<- e1]
 have a:(h1.push (seqObj "list" (bs.map Value.ref).toArray 0)).get? h1.objs.size=some (seqObj "list" (bs.map Value.ref).toArray 0):=Dc _ rfl
 have k2:∀ b o,s.heap.get? b=some o->(h1.push (seqObj "list" (bs.map Value.ref).toArray 0)).get? b=some o:=fun b o e=>C4 _ (k1 b o e)
 show wpAny _ _ _ _ _ { s with heap:=h1.push (seqObj "list" (bs.map Value.ref).toArray 0) }
 refine CY (C0 (wpAny_call_entry slot_list_sort ⟨_,a,rfl⟩ entry_list_sort (vp (s:={ s with heap:=h1.push (seqObj "list" (bs.map Value.ref).toArray 0) }) ?_ a (r.keep fun b _ o e=>k2 b o e) g k hsz d ⟨_,rfl,?_⟩) (args_list_sort _)))
 ·exact hu
 refine CZ ⟨_,rfl,h _ h1.objs.size j (fun b o e=>?_) ?_⟩
 ·have hb1:b < h1.objs.size:=Da (k1 b o e)
  unfold sortedHeap
  refine (DC _ _ (Nat.ne_of_gt hb1)).trans (C4 _ (C4 _ ?_))
  exact (DC _ _ (Nat.ne_of_gt hb1)).trans (k2 b o e)
 ·unfold sortedHeap
  obtain ⟨e1,c⟩:∃ e1,((h1.push (seqObj "list" (bs.map Value.ref).toArray 0)).update h1.objs.size (Obj.mapSeq fun _=>#[])).get? h1.objs.size=some (seqObj "list" #[] e1):=⟨_,get?_update_seq a (fun _=>#[])⟩
  exact ⟨_,get?_update_seq (C4 _ (C4 _ c)) (fun _=>(is.map fun i=>Value.ref (bs.getD i 0)).toArray)⟩
end
section
variable {X:Cx}
def wb (K:FG):List V->Hp->VK->Prop:=fun xs H Q=>∃ (l:Addr) (bs:List Addr) (ns:List (List Int)) (is:List Nat),xs=[.ref l]/\SqL K H l (bs.map V.ref)/\ns.length=bs.length/\(∀ (i:Nat) (b:Addr) (n:List Int),bs[i]?=some b->ns[i]?=some n->H b=some (.tup (n.map V.int))) /\
 kOk ns/\bC ns=some is/\ns.length<=sizeLine/\is.length<=sizeLine/\∀ p,H p=none->Q (.ref p) (upd H p (.lst (is.map fun i=>V.ref (bs.getD i 0))))
theorem rT:∀ {us:List Value} {bs:List Addr},Vals (bs.map V.ref) us->us=bs.map Value.ref
 | _,[],h=>by cases h;rfl
 | _,b :: bs,h=>by
  cases h with
  | cons r h =>
   cases (show _=Value.ref b from r)
   rw [Dn,rT h]
theorem rg (hu:X.A.units+2 < cLine):cI X (.builtin "sorted") (wb X.K):=by
 intro pins s σ H xs us Q I y h
 obtain ⟨l,bs,ns,is,rfl,x,D,m,j,t,hz,c,q⟩:=h
 obtain ⟨u,rfl,z⟩:=kh y
 cases (show u=Value.ref l from z)
 obtain ⟨d,C,p,_⟩:=I.list x
 have v:=rT C
 subst v
 refine ql hu (by simpa using p.isList) ⟨D,fun i b n e1 B=>?_⟩ j t (by omega) c fun h' p g k ⟨e,he⟩=>?_
 ·obtain ⟨d,r,p,_⟩:=I.tuple (SqT.of (m i b n e1 B))
  exact ⟨_,p,qW r⟩
 ·have w:(is.map fun i=>V.ref (bs.getD i 0))=(is.map fun i=>bs.getD i 0).map V.ref:=by rw [DI];rfl
  have f:(is.map fun i=>Value.ref (bs.getD i 0))=(is.map fun i=>bs.getD i 0).map Value.ref:=by rw [DI];rfl
  refine ⟨.ref p,_,I.laid (a:=p) (o:=.lst (is.map fun i=>V.ref (bs.getD i 0))) (t':=s.toks) (fun b o q=>k b o q) g ⟨by rw [Dd];exact c,is.map (fun i=>Value.ref (bs.getD i 0)),e,?_,he⟩,rfl,q p (I.hok.fresh g)⟩
  rw [w,f]
  exact iB _
end
end L2
end
section
namespace L2
open PySem PySem.W PySem.Spec PyProof.Rows
abbrev excO (a:Addr) (cls:Value):HO:=.ext fun h=>∃ o,h.get? a=some o/\o.cls=cls
abbrev dE (ob:Obj) (a:Addr) (cls:Value):HO:=.frz ob (excO a cls)
structure ExcK (K:FG) (D:Addr):Prop where
 ga:findIn K (.ref D) "__getattribute__"=some (some (.builtin "BaseException.__getattribute__"))
 gt:findIn K (.ref D) "__getattr__"=some none
 cl:(clsIn K D).isSome=true
 ca:findIn K (.ref D) "__class__"=some (some (.builtin "object.__class__"))
 sp:specialIn K (.builtin "object.__class__") "__get__"=some (some (.builtin "getset_descriptor.__get__"))
 tk:takesIn K (.builtin "object.__class__")=some true
 ob:mroIn K D (.type "object")=some true
 be:mroIn K D (.type "BaseException")=some true
structure XName (K:FG) (c:String) (D:Addr):Prop where
 ns:nsIn K mainGlobals (Str.ofString c)=some (some (.ref D))
 ex:ExcK K D
theorem XName.inj {K:FG} (a:XName K c D) (b:XName K c D'):D=D':=by
 have:=a.ns.symm.trans b.ns
 cases this
 rfl
end L2
end
section
namespace L2
open PySem
section
variable {K:FG} {h:Heap} {mg:Str->Option Value}
theorem wO {h : Heap} {i : Nat} {p : Obj} {q : Nat × Obj} (a : h.objs[i]? = some p) (e : pK (i, p) = some q) : q.1 = i /\ h.get? i = some q.2 := by
  obtain ⟨c, d, x, y⟩ := p
  unfold Heap.get?
  rw [a]
  cases x <;> first | (cases e; exact ⟨rfl, rfl⟩) | cases e
theorem jo:∀ {is:List Nat} {l:List Obj} {a:Nat} {o:Obj},(∀ (j i:Nat) (p:Obj),is[j]?=some i->l[j]?=some p->h.objs[i]?=some p)->((is.zip l).filterMap pK).lookup a=some o->h.get? a=some o
 | [],_,_,_,_,e=>by cases e
 | _ :: _,[],_,_,_,e=>by cases e
 | b :: is,p :: l,a,o,hj,e=>by
  have m:=hj 0 b p rfl rfl
  have f:∀ (j i:Nat) (p:Obj),is[j]?=some i->l[j]?=some p->h.objs[i]?=some p:=fun j i p h1 h2=>hj (j+1) i p (by simpa using h1) (by simpa using h2)
  rw [List.zip_cons_cons,List.filterMap_cons] at e
  cases d:pK (b,p) with
  | none=>rw [d] at e;exact jo f e
  | some q =>
   rw [d] at e
   obtain ⟨h1,h2⟩:=wO m d
   obtain ⟨g,k⟩:=q
   cases h1
   replace e:List.lookup a ((g,k) :: (is.zip l).filterMap pK)=some o:=e
   rw [List.lookup_cons] at e
   cases c:a == g with
   | true=>rw [c] at e;cases eq_of_beq c;cases e;exact h2
   | false=>rw [c] at e;exact jo f e
theorem fragAt_in (h:Heap):(xi h).In h:=fun _ _ e=>jo (fun j i p h1 h2=>by
 obtain ⟨a,rfl⟩:=De.mp h1
 simpa using h2) e
def stPos (s:Stmt):Pos:=match s with
 | .FunctionDef _ _ _ _ _ _ _ _ _ p=>p
 | _=>⟨0,0,0,0⟩
theorem CH (X:K.In h) (G:h.Ns mainGlobals mg) (e:pS K n=k6 n st):Def K mg n st:=by
 unfold pS at e
 split at e
 ·rename_i f hf
  split at e
  ·rename_i c od fd sl a
   unfold k6 at e
   obtain ⟨name,qual,params,body,scope,globals,closure,defaults,kw,doc,pm,an,cd,ct,bi⟩:=fd
   simp only [Option.some.injEq,Prod.mk.injEq] at e
   obtain ⟨rfl,rfl,rfl,rfl,rfl,rfl,rfl,rfl,rfl,b⟩:=e
   exact ⟨f,_,Cu (st:=st) a b (by unfold PySem.W.keepIn;simp only [a]),PySem.W.mg_of X G hf⟩
  ·cases e
 ·cases e
theorem kK {α β:Type} {f g:α->β} {l:List α} (e:l.map f=l.map g) (i:Nat) {a:α} (h:l[i]?=some a):f a=g a:=List.map_inj_left.mp e a (Df h)
theorem aU {ds:List (Str × Stmt)} (X:K.In h) (G:h.Ns mainGlobals mg) (e:ds.map (fun p=>pS K p.1)=ds.map (fun p=>k6 p.1 p.2)) (i:Nat) (hi:ds[i]?=some (n,st)):Def K mg n st:=CH X G (kK e i hi)
theorem bT {l:List Str} (X:K.In h) (G:h.Ns mainGlobals mg) (e:l.map (PySem.W.nsIn K mainGlobals)=l.map (fun _=>some none)) (i:Nat) (hi:l[i]?=some n):mg n=none:=PySem.W.mg_none_of X G (kK e i hi)
theorem Co {l:List (Str × Int)} {v:Int} (X:K.In h) (G:h.Ns mainGlobals mg) (e:l.map (fun p=>nI K p.1)=l.map (fun p=>some p.2)) (i:Nat) (hi:l[i]?=some (n,v)):∃ t,mg n=some (.int v t):=by
 have e:=kK e i hi
 unfold nI at e
 dsimp only at e
 split at e
 ·rename_i b t a;cases e;exact ⟨t,PySem.W.mg_of X G a⟩
 ·cases e
theorem walk_ofS {l:PySem.W.OpenLaw} {n k:Nat} {S:FG->Prop} {sp:FG->Sp} (M:l.most=some n) (p:n<=sizeLine) (m:d.params.defaults=[]) (A:Room k callerA) (L:∀ (w:World) (h:Heap),YP w h->∃ K:FG,K.In h/\S K) (F:∀ (w:World) (mg:Str->Option Value) (i:Addr) (h:Heap) (K:FG),S K->K.In h->h.Ns mainGlobals mg->mg d.name=some (.ref i) ->
   ∃ fd:FuncData,(∀ (s:Shared) (u:Value),BindsTo s fd ⟨[u],[]⟩ [(x,u)]) /\
    ∀ base:Heap,K.In base->base.Ns mainGlobals mg->FnOk l.prog w K mg base CX k i fd [x] (sp K)) (j:∀ (K:FG) (H:Hp) (a:Addr) (ns:List Int),ns.length<=n->z9 H->SqL K H a (ns.map V.int)->sp K [.ref a] H (fun v _=>v=.bl true) fun _ _ _=>False) (r:∀ (H:Hp) (s:Shared) (e:Value) (s':Shared),CX [] H s (fun _ _ _=>False) e s'->False) :
  PySem.W.WalkO q loose XP YP l.row.toRowW d [] (fun f vs=>PySem.call f vs):=by
 refine Att.attach_call M m fun w s₀ D mg mb i o pm cd doc a vs ns G Y N hd B y c hints hlen E=>?_
 obtain ⟨K,z,t⟩:=L w _ Y
 obtain ⟨fd,C,I⟩:=F w mg i _ K t z G.T.g y
 exact wP z G.T.g G.T.b G.T.builtins G.T.nolimit E c hints (DF hlen p) A I C (fun H J t=>j K H a ns hlen J t) fun H e s'=>r H D e s'
end
end L2
end
section
namespace L2
open PySem PySem.Spec PyProof.Rows
theorem lF:entryFor table "proto.unchain"=some Builtin.«proto.unchain»:=entryFor_of_tree (by kernel_rfl)
def NoCtx (h:Heap) (a:Addr):Prop:=∃ o vs,h.get? a=some o/\o.data=.fields vs/\vs[2]?=some Value.none
theorem NoCtx.keep (x:NoCtx h a) (k:∀ o,h.get? a=some o->h'.get? a=some o):NoCtx h' a :=
 let ⟨o,vs,e,r⟩:=x;⟨o,vs,k o e,r⟩
section
variable {prog:Program} {w:World} {A:Around} {E:Value->Shared->Prop} {s:Shared}
theorem mO (b:NoCtx s.heap h) (q:Q .none s):wpAny (model prog w) A (runValue (.builtin "proto.unchain" ⟨[e,.ref h,.ref h,.bool false],[]⟩)) Q E s:=by
 obtain ⟨o,vs,a,hd,h2⟩:=b
 refine wpAny_runValue (codeAny_builtin lF ?_)
 show wpAny _ _ (field (.ref h) 2 >>= _) _ _ s
 refine CY (wpAny_field a hd h2 ?_)
 exact CZ q
theorem qB (d:A.handled=some (.ref h)) (e:NoCtx s.heap h) (c:s.heap.get? a=some o) (hd:o.data=.fields vs) (h2:2 < vs.size) (ne:h ≠ a) (q:E (.ref a) { s with heap:=s.heap.update a (Obj.mapFields (·.setIfInBounds 2 (.ref h))) }):wpAny (model prog w) A (raiseNew (.ref a):Sem α) Q E s:=by
 unfold raiseNew
 refine CY (wpAny_handled ?_)
 rw [d]
 dsimp only
 have b:(Value.ref h != Value.ref a)=true:=by simpa using ne
 rw [if_pos b]
 refine CY (C0 (mO e ?_))
 exact CY (wpAny_setField (s:=s) c hd h2 (wpAny_throw q))
theorem q8:firstArgMember (.type "StopIteration") []=pure Value.none:=by kernel_rfl
theorem wG (h:∀ h' a t,(∀ b o,s.heap.get? b=some o->h'.get? b=some o)->s.heap.get? a=none->h'.get? a=some { cls:=.type "StopIteration",data:=.fields #[.ref t,.none,.none,.none,.bool false,.none] }->Q (.ref a) { s with heap:=h' }) :
  wpAny (model prog w) A (newExc (.type "StopIteration") []) Q E s:=by
 unfold newExc newTuple
 rw [q8]
 refine CY (wpAny_newObj_type ?_ (by size_fits))
 refine CY (CZ (wpAny_newObj_type ?_ (by size_fits)))
 exact h _ _ s.heap.objs.size (fun b o e=>C4 _ (C4 _ e)) (Heap.get?_none_of_le (by rw [DD];exact Nat.le_succ _)) (Dc _ rfl)
theorem ug {x left step:Int} (m:A.handled=some (.ref h)) (l:NoCtx s.heap h) (hit:IsRangeIter s.heap it x left step) (c:left<=0) (r:∀ h',(∀ b o,s.heap.get? b=some o->h'.get? b=some o)->Q none { s with heap:=h' }):wpAny (model prog w) A (pyNext (.ref it)) Q E s:=by
 have g:s.TypeIs (.ref it) "range_iterator":=⟨_,hit,rfl⟩
 unfold pyNext
 refine CY (wpAny_attempt (wpAny_callSpecial?_slot (name:=Str.ofString "__next__") g F.slot_range_iterator_next (wpAny_call_entry F.slot_range_iterator_next g F.entry_range_iterator_next ?_ (F.args_range_iterator_next_1 _))))
 have f:∀ (i:Nat) (v:Value) {R:Value->Shared->Prop} {j:Value->Shared->Prop},#[rawInt x,rawInt left,rawInt step][i]?=some v->R v s->wpAny (model prog w) A.in1 (field (.ref it) i) R j s:=fun i v R j e q=>wpAny_field hit rfl e q
 refine CY (wpAny_of_eq (a:=(Value.ref it,([]:List Value))) rfl ?_)
 refine CY (f 0 (rawInt x) rfl ?_)
 refine CY (f 1 (rawInt left) rfl ?_)
 refine CY (f 2 (rawInt step) rfl ?_)
 dsimp only [rawInt]
 rw [if_pos c]
 refine CY (wpAny_rule (CY (CY (wG fun h' a t k n e=>?_))))
 have d:NoCtx h' h:=l.keep fun o q=>k h o q
 have ne:h ≠ a:=fun z=>by
  obtain ⟨o,_,q,_⟩:=l
  rw [z,n] at q
  cases q
 refine qB (A:=A.in1) (s:={ s with heap:=h' }) m d e rfl (by show 2 < 6;decide) ne ?_
 have p:=Ds (Obj.mapFields (·.setIfInBounds 2 (.ref h))) e rfl
 refine CY (wpAny_isInstance (T:="StopIteration") (b:=true) ⟨_,p,rfl⟩ isSubtype_stop ?_)
 refine CZ (r _ fun b o q=>?_)
 exact (DC _ _ (fun z=>by rw [<- z,n] at q;cases q)).trans (k b o q)
end
end L2
end
section
namespace L2
open PySem PySem.Spec PyProof.Rows
def cC (Φ:Heap->Prop) {α:Type}:Sem α->Prop
 | .pure _ | .raise _ | .unsupported _ | .finish _=>True
 | .rule _ k=>cC Φ (k ())
 | .at _ k=>cC Φ (k ())
 | .point _ k=>cC Φ (k ())
 | .load _ _ k=>∀ o,cC Φ (k o)
 | .loadIfAlive _ k=>∀ o,cC Φ (k o)
 | .update a _ f k=>(∀ h,Φ h->Φ (h.update a f))/\cC Φ (k ())
 | .alloc _ k=>∀ a,cC Φ (k a)
 | .fresh k=>∀ t,cC Φ (k t)
 | .ask k=>∀ x,cC Φ (k x)
 | .handled _ k=>∀ v,cC Φ (k v)
 | .stack k=>∀ l,cC Φ (k l)
 | _=>False
theorem x4 (push:∀ h o,Φ h->Φ (h.push o)) (t:Sem α):∀ {Q:α->Pos->Shared->Prop} {E:Value->Pos->Shared->Prop} {p:Pos} {s:Shared},cC Φ t->Φ s.heap->Sem.wp M Γ t Q E p s->Sem.wp M Γ t (fun a p s'=>Q a p s'/\Φ s'.heap) (fun e p s'=>E e p s'/\Φ s'.heap) p s:=by
 induction t with
 | pure a=>intro Q E p s _ f h;rw [Sem.wp] at h ⊢;exact ⟨h,f⟩
 | raise e=>intro Q E p s _ f h;rw [Sem.wp] at h ⊢;exact ⟨h,f⟩
 | unsupported w=>intro Q E p s _ f h;rw [Sem.wp] at h;exact h.elim
 | finish e=>intro Q E p s _ f h;rw [Sem.wp] at h;exact h.elim
 | rule _ k ih=>intro Q E p s c f h;rw [Sem.wp] at h ⊢;exact ih () c f h
 | «at» _ k ih=>intro Q E p s c f h;rw [Sem.wp] at h ⊢;exact ih () c f h
 | point _ k ih=>intro Q E p s c f h;rw [Sem.wp] at h ⊢;exact ih () c f h
 | load a _ k ih=>intro Q E p s c f h;rw [Sem.wp] at h ⊢;obtain ⟨o,e,h⟩:=h;exact ⟨o,e,ih o (c o) f h⟩
 | loadIfAlive a k ih=>intro Q E p s c f h;rw [Sem.wp] at h ⊢;exact ih _ (c _) f h
 | update a _ g k ih=>intro Q E p s c f h;rw [Sem.wp] at h ⊢;exact ⟨h.1,ih () c.2 (c.1 _ f) h.2⟩
 | alloc o k ih=>intro Q E p s c f h;rw [Sem.wp] at h ⊢;exact ih _ (c _) (push _ _ f) h
 | fresh k ih=>intro Q E p s c f h;rw [Sem.wp] at h ⊢;exact ih _ (c _) f h
 | ask k ih=>intro Q E p s c f h;rw [Sem.wp] at h ⊢;exact ih _ (c _) f h
 | handled _ k ih=>intro Q E p s c f h;rw [Sem.wp] at h ⊢;exact ih _ (c _) f h
 | stack k ih=>intro Q E p s c f h;rw [Sem.wp] at h ⊢;exact ih _ (c _) f h
 | _=>intro Q E p s c;exact False.elim c
theorem cK (push:∀ h o,Φ h->Φ (h.push o)) (c:cC Φ t) (f:Φ s.heap) (h:wpAny M A t Q E s):wpAny M A t (fun a s'=>Q a s'/\Φ s'.heap) (fun e s'=>E e s'/\Φ s'.heap) s :=
 fun Γ p i=>x4 push t c f (h Γ p i)
theorem aG (t:Sem α):cC Φ t->(∀ a,cC Φ (f a))->cC Φ (t.bind f):=by
 induction t with
 | pure a=>exact fun _ k=>k a
 | raise e=>exact fun _ _=>trivial
 | unsupported w=>exact fun _ _=>trivial
 | finish e=>exact fun _ _=>trivial
 | rule _ k ih=>exact fun c q=>ih () c q
 | «at» _ k ih=>exact fun c q=>ih () c q
 | point _ k ih=>exact fun c q=>ih () c q
 | load a _ k ih=>exact fun c q o=>ih o (c o) q
 | loadIfAlive a k ih=>exact fun c q o=>ih o (c o) q
 | update a _ g k ih=>exact fun c q=>⟨c.1,ih () c.2 q⟩
 | alloc o k ih=>exact fun c q a=>ih a (c a) q
 | fresh k ih=>exact fun c q a=>ih a (c a) q
 | ask k ih=>exact fun c q a=>ih a (c a) q
 | handled _ k ih=>exact fun c q a=>ih a (c a) q
 | stack k ih=>exact fun c q a=>ih a (c a) q
 | _=>exact fun c _=>c.elim
end L2
end
section
namespace L2
open PySem PySem.Spec PyProof.Rows
def NoCtD (h:Heap) (a:Addr) (da:Option Addr):Prop:=∃ o vs,h.get? a=some o/\o.data=.fields vs/\vs[2]?=some Value.none/\o.dict=da
theorem NoCtD.keep {h h':Heap} {a:Addr} {da:Option Addr} (x:NoCtD h a da) (k:∀ o,h.get? a=some o->h'.get? a=some o):NoCtD h' a da :=
 let ⟨o,vs,e,r⟩:=x;⟨o,vs,k o e,r⟩
theorem cP {da:Option Addr}:∀ (h:Heap) (o:Obj),NoCtD h a da->NoCtD (h.push o) a da:=fun h o x=>x.keep fun _ e=>C4 _ e
theorem nk {da:Option Addr} {i:Nat} (hi:i ≠ 2):∀ h:Heap,NoCtD h a da->NoCtD (h.update b (Obj.mapFields (·.setIfInBounds i v))) a da:=fun h x=>by
 by_cases e:b=a
 ·subst e
  obtain ⟨o,vs,d,hd,h2,h3⟩:=x
  have hd2:=Obj.data_mapFields hd (·.setIfInBounds i v)
  exact ⟨_,_,Ds _ d (Obj.isFreed_of_fields hd2),hd2,by rw [Array.getElem?_setIfInBounds_ne hi];exact h2,by obtain ⟨_,_,c,_⟩:=o;cases c <;> exact h3⟩
 ·exact x.keep fun o q=>(DC _ _ e).trans q
theorem pq {da:Option Addr} (hf:∀ o,(f o).data=o.data) (d:∀ o,(f o).dict=o.dict):∀ h:Heap,NoCtD h a da->NoCtD (h.update b f) a da:=fun h x=>by
 by_cases e:b=a
 ·subst e
  obtain ⟨o,vs,c,hd,h2,h3⟩:=x
  exact ⟨f o,vs,Ds _ c (Obj.isFreed_of_fields ((hf o).trans hd)),(hf o).trans hd,h2,(d o).trans h3⟩
 ·exact x.keep fun o q=>(DC _ _ e).trans q
section
variable {a:Addr} {da:Option Addr}
theorem lx (v:Value):cC (NoCtD · a da) (fieldsOf v):=by
 unfold fieldsOf
 cases v <;> try exact trivial
 exact fun o=>by
  show cC _ (match o.data with | .fields vs=>_ | _=>_)
  split <;> exact trivial
theorem iq (v:Value) (i:Nat):cC (NoCtD · a da) (field v i):=by
 unfold field
 refine aG _ (lx v) fun vs=>?_
 split <;> exact trivial
theorem dW (v:Value) {i:Nat} (hi:i ≠ 2) (x:Value):cC (NoCtD · a da) (setField v i x):=by
 unfold setField
 cases v <;> try exact trivial
 exact fun o=>by
  show cC _ (match o.data with | .fields vs=>_ | _=>_)
  split
  ·split
   ·exact ⟨nk hi,trivial⟩
   ·exact trivial
  ·exact trivial
theorem fF (e:Value) (f:Option Addr):cC (NoCtD · a da) (setFlight e f):=by
 unfold setFlight
 refine aG _ (iq e 1) fun tb=>?_
 split
 ·exact dW _ (by decide) _
 ·exact trivial
theorem qo (f:Addr) (b:Bool):cC (NoCtD · a da) (entryPlaceOf f b):=by
 unfold entryPlaceOf
 refine aG _ (fun _=>trivial) fun l=>?_
 split <;> exact trivial
theorem kz (t:String) (vs:List Value):cC (NoCtD · a da) (newFields t vs):=by
 unfold newFields newObj
 dsimp only
 split
 ·exact trivial
 ·exact fun _=>trivial
theorem tN (env:Env) (b:Bool):∀ l:List Env,cC (NoCtD · a da) (keptBack env b l)
 | []=>by
  simp only [keptBack]
  split
  ·exact trivial
  ·exact aG _ (aG _ (fun _=>trivial) fun _=>trivial) fun _=>trivial
 | _ :: _=>trivial
theorem ky:∀ l:List Env,cC (NoCtD · a da) (readyFrames l)
 | []=>trivial
 | env :: outer=>by
  unfold readyFrames
  split
  ·refine aG _ (fun _=>trivial) fun o=>?_
   split
   ·exact trivial
   ·refine aG _ ?_ fun _=>aG _ (tN _ _ _) fun _=>aG _ ⟨pq (fun _=>rfl) fun _=>rfl,trivial⟩ fun _=>ky outer
    unfold behindIsImport
    split
    ·exact trivial
    ·split
     ·exact trivial
     ·exact aG _ (iq _ _) fun _=>trivial
  ·exact trivial
theorem mU (env:Env):cC (NoCtD · a da) (PySem.frameOf env):=by
 unfold PySem.frameOf
 refine aG _ (aG _ (fun _=>trivial) fun _=>trivial) fun l=>?_
 refine aG _ ?_ fun r=>?_
 ·unfold frameObject
  split
  ·exact trivial
  ·exact aG _ (ky _) fun _=>trivial
 ·split <;> exact trivial
theorem lV (e:Value) (env:Env):cC (NoCtD · a da) (noteFrame e env):=by
 unfold noteFrame
 repeat' first
  | exact trivial
  | exact dW _ (by decide) _
  | refine aG _ (iq _ _) (fun _=>?_)
  | refine aG _ (dW _ (by decide) _) (fun _=>?_)
  | refine aG _ (mU _) (fun _=>?_)
  | refine aG _ (qo _ _) (fun _=>?_)
  | refine aG _ (kz _ _) (fun _=>?_)
  | split
theorem eF (e:Value) (env:Env):cC (NoCtD · a da) (leaving env e):=aG _ (lV e env) fun _=>fF e none
end
section
variable {M:Model} {A:Around} {E:Value->Shared->Prop} {s:Shared} {base h:Heap} {env:Env} {outer l:List Env} {L e:Addr} {cls a0:Value} {args:List Value} {da:Option Addr} {Q:Unit->Shared->Prop}
theorem nE (b:A.frames=some (env :: outer)) (hf:env.frame=some L) (f:base.StaysIn h) (i:h.FunFrames base (env :: outer)) (g:Heap.MadeExcOf h s.heap e cls args)
  (j:∀ h' t,Heap.FlyingW base outer e cls (.ref t) h'->s.heap.UpToSlots h'->NoCtD h' e none->Q () { s with heap:=h' }):wpAny M A (leaving env (.ref e)) Q E s:=by
 have c:NoCtD s.heap e none:=by
  obtain ⟨t,he,_⟩:=g.there
  exact ⟨_,_,he,rfl,rfl,rfl⟩
 refine wpAny_mono (cK cP (eF _ _) c (wpAny_leaves_madeW (Q:=fun _ s2=>∃ h' t,s2 = { s with heap:=h' }/\Heap.FlyingW base outer e cls (.ref t) h'/\s.heap.UpToSlots h') b hf f i g fun h' t a _ _ d=>⟨h',t,rfl,a,d⟩)) (fun _ s2 q=>?_) fun _ _ z=>z.1
 obtain ⟨⟨h',t,rfl,a,d⟩,n⟩:=q
 exact j h' t a d n
theorem nD {b:Obj} {vs:Array Value} (c:A.frames=some (env :: outer)) (hf:env.frame=some L) (f:base.StaysIn s.heap) (h:s.heap.FunFrames base (env :: outer)) (he:s.heap.get? e=some b) (g:base.get? e=none) (hd:b.data=.fields vs) (h0:vs[0]?=some a0) (h1:vs[1]?=some .none) (h2:vs[2]?=some .none)
  (j:∀ h',Heap.FlyingW base outer e b.cls a0 h'->s.heap.UpToSlots h'->NoCtD h' e b.dict->Q () { s with heap:=h' }):wpAny M A (leaving env (.ref e)) Q E s:=by
 refine wpAny_mono (cK cP (eF _ _) (⟨b,vs,he,hd,h2,rfl⟩:NoCtD s.heap e b.dict) (wpAny_leaving_firstW (Q:=fun _ s2=>∃ h',s2 = { s with heap:=h' }/\Heap.FlyingW base outer e b.cls a0 h'/\s.heap.UpToSlots h') c h hf he f g hd h1 h0 fun h' z=>?_)) (fun _ s2 q=>?_) fun _ _ z=>z.1
 ·obtain ⟨k1,⟨_,_,k2⟩,k3,i⟩:=z
  exact ⟨h',rfl,⟨k1,g,k2,k3⟩,i⟩
 ·obtain ⟨⟨h',rfl,a,d⟩,n⟩:=q
  exact j h' a d n
theorem qS (b:A.frames=some (env :: outer)) (hf:env.frame=some L) (f:Heap.FlyingW base (env :: outer) e cls a0 s.heap) (c:NoCtD s.heap e da)
  (g:∀ h',Heap.FlyingW base outer e cls a0 h'->s.heap.UpToSlots h'->NoCtD h' e da->Q () { s with heap:=h' }):wpAny M A (leaving env (.ref e)) Q E s:=by
 refine wpAny_mono (cK cP (eF _ _) c (wpAny_leaves_onW (Q:=fun _ s2=>∃ h',s2 = { s with heap:=h' }/\Heap.FlyingW base outer e cls a0 h'/\s.heap.UpToSlots h') b hf f fun h' a d=>⟨h',rfl,a,d⟩)) (fun _ s2 q=>?_) fun _ _ z=>z.1
 obtain ⟨⟨h',rfl,a,d⟩,n⟩:=q
 exact g h' a d n
theorem uq (b:A.frames=some (env :: outer)) (hf:env.frame=some L) (f:Heap.FlyingW base (env :: outer) e cls a0 s.heap) (c:NoCtD s.heap e da)
  (g:∀ h',Heap.HeldW base (env :: outer) e cls a0 L h'->s.heap.UpToSlots h'->NoCtD h' e da->Q () { s with heap:=h' }):wpAny M A (noteFrame (.ref e) env) Q E s:=by
 refine wpAny_mono (cK cP (lV _ _) c (wpAny_looks_onW (Q:=fun _ s2=>∃ h',s2 = { s with heap:=h' }/\Heap.HeldW base (env :: outer) e cls a0 L h'/\s.heap.UpToSlots h') b hf f fun h' a d=>⟨h',rfl,a,d⟩)) (fun _ s2 q=>?_) fun _ _ z=>z.1
 obtain ⟨⟨h',rfl,a,d⟩,n⟩:=q
 exact g h' a d n
theorem Ch (f:Heap.HeldW base l e cls a0 L s.heap) (c:NoCtD s.heap e da) (b:∀ h',Heap.FlyingW base l e cls a0 h'->s.heap.UpToSlots h'->NoCtD h' e da->Q () { s with heap:=h' }):wpAny M A (setFlight (.ref e) none) Q E s:=by
 refine wpAny_mono (cK cP (fF _ _) c (wpAny_landsW (Q:=fun _ s2=>∃ h',s2 = { s with heap:=h' }/\Heap.FlyingW base l e cls a0 h'/\s.heap.UpToSlots h') f fun h' a d=>⟨h',rfl,a,d⟩)) (fun _ s2 q=>?_) fun _ _ z=>z.1
 obtain ⟨⟨h',rfl,a,d⟩,n⟩:=q
 exact b h' a d n
theorem nF (f:Heap.FlyingW base l e cls a0 s.heap) (c:NoCtD s.heap e da) (b:∀ h',Heap.FlyingW base l e cls a0 h'->s.heap.UpToSlots h'->NoCtD h' e da->Q () { s with heap:=h' }):wpAny M A (setFlight (.ref e) none) Q E s:=by
 refine wpAny_mono (cK cP (fF _ _) c (lands_againW (Q:=fun _ s2=>∃ h',s2 = { s with heap:=h' }/\Heap.FlyingW base l e cls a0 h'/\s.heap.UpToSlots h') f fun h' a d=>⟨h',rfl,a,d⟩)) (fun _ s2 q=>?_) fun _ _ z=>z.1
 obtain ⟨⟨h',rfl,a,d⟩,n⟩:=q
 exact b h' a d n
end
def NoC (ob:Obj):Prop:=∃ vs,ob.data=.fields vs/\vs[2]?=some Value.none
def Hd (X:Cx):Prop:=∃ a ob u,X.A.handled=some (.ref a)/\X.H₀ a=some (.frz ob u)/\NoC ob
end L2
end
section
namespace L2
open PySem PySem.Spec PyProof.Rows
def Cov (fs:List Addr) (H':Hp) (h0 h' B:Heap):Prop:=∀ b o,h'.get? b=some o->b ∉ fs->(H' b ≠ none\/∃ o0,h0.get? b=some o0)->B.get? b=some o
structure Fly (P:Program) (w:World) (outer:List Env) (H:Hp) (s:Shared) (H':Hp) (a:Addr) (cls:Value) (da:Option Addr) (s':Shared):Prop where
 os:s'.os=s.os
 bare:AllBare s'.gens
 un:Un (frs outer) [] H H' s.heap s'.heap
 hok:HOk P w H' s'.heap
 free:H' a=none
 new:s.heap.get? a=none
 fl:∃ B a0,Heap.FlyingW B outer a cls a0 s'.heap/\Cov (frs outer) H' s.heap s'.heap B
 ctx:NoCtD s'.heap a da
def CXe (P:Program) (w:World):CXT:=fun outer H s E e s'=>∃ a cls da H',e=.ref a/\Fly P w outer H s H' a cls da s'/\E cls da H'
section
variable {X:Cx} {pins:List (Addr × Obj)} {σ:St} {H:Hp} {s:Shared}
theorem Inv.noLoc (I:Inv X pins σ H s) (e:X.s₀.heap.get? b=some o):b ≠ X.env.locals:=Dl (Dq (Da e) I.ok.above)
theorem HOk.at (ok:HOk P w H h) (e:H b ≠ none):∃ o,h.get? b=some o:=by
 cases q:H b with
 | none=>exact absurd q e
 | some u =>
  have:=ok b u q
  cases u with
  | lst xs=>obtain ⟨_,_,_,_,e⟩:=this;exact ⟨_,e⟩
  | tup xs=>obtain ⟨_,_,_,o,e,_⟩:=this;exact ⟨o,e⟩
  | dK kvs=>obtain ⟨_,_,_,_,o,_,_,e,_⟩:=this;exact ⟨o,e⟩
  | dT kvs=>obtain ⟨_,_,_,_,o,_,_,e,_⟩:=this;exact ⟨o,e⟩
  | set S n=>obtain ⟨o,_,_,_,e,_⟩:=this;exact ⟨o,e⟩
  | ins C dx fs=>obtain ⟨_,_,_,e,_⟩:=this;exact ⟨_,e⟩
  | own y=>exact this
  | xd fs=>obtain ⟨_,⟨o,_,_,e,_⟩,_⟩:=this;exact ⟨o,e⟩
  | rng lo hi=>obtain ⟨_,_,_,e⟩:=this;exact ⟨_,e⟩
  | frz ob u=>obtain ⟨e,_⟩:=this;exact ⟨_,e⟩
  | tbl ps=>exact ⟨_,this⟩
  | met f y=>exact ⟨_,this⟩
  | ext φ=>obtain ⟨_,e,_⟩:=this;exact e
theorem nC (hex:X.ex=[]) (I:Inv X pins σ H s) (k1:∀ b o,s.heap.get? b=some o->b ∉ frs X.stack->(H b ≠ none\/∃ o0,X.s₀.heap.get? b=some o0)->h'.get? b=some o) (k2:∀ b o,s.heap.get? b=some o->(∀ vs,o.data ≠ .fields vs)->∃ sl,h'.get? b=some { o with slots:=sl }):Un (frs X.outer) [] X.H₀ H X.s₀.heap h'/\HOk X.prog X.w H h':=by
 have g:∀ b:Addr,b ∉ X.ex:=fun b z=>by rw [hex] at z;cases z
 have out:∀ b o,X.s₀.heap.get? b=some o->b ∉ frs X.outer->b ∉ frs X.stack:=fun b o e n z=>by
  rcases C8.mp (I.stkSub b z) with z | z
  ·exact I.noLoc e z
  ·exact n z
 have f:∀ b ∈ frs X.outer,∀ o,s.heap.get? b=some o->∀ vs,o.data ≠ .fields vs:=fun b a o e=>by
  obtain ⟨_,o',k,d⟩:=I.funs.mem a
  rw [e] at k;cases k;exact d
 refine ⟨⟨fun b o e n a _=>?_,fun b o e n a _=>?_,fun b o e n _=>I.base.free b o e n (g b),fun b o e _=>?_,I.base.tups,I.base.frzs,I.base.tbls⟩,fun b u e=>?_⟩
 ·exact k1 b o (I.base.keep b o e n a (g b)) (out b o e a) (.inr ⟨o,e⟩)
 ·obtain ⟨sl,e1⟩:=I.base.slot b o e n a (g b)
  obtain ⟨i,j⟩:=k2 b _ e1 (f b a _ e1)
  exact ⟨i,j⟩
 ·obtain ⟨o',e1⟩:=I.base.there b o e (g b)
  by_cases a:b ∈ frs X.outer
  ·obtain ⟨sl,j⟩:=k2 b o' e1 (f b a o' e1)
   exact ⟨_,j⟩
  ·exact ⟨o',k1 b o' e1 (out b o e a) (.inr ⟨o,e⟩)⟩
 ·refine (I.hok b u e).stay (fun c v h z=>?_) (fun _ z=>z) fun _ _ z=>z
  have l:H c ≠ none:=by
   rcases h with rfl | h
   ·rw [e];intro z;cases z
   ·rw [h];intro z;cases z
  exact k1 c v z (fun a=>l (I.stkFree c a)) (.inl l)
theorem kU (hex:X.ex=[]) (I:Inv X pins σ H s) (k1:∀ b o,s.heap.get? b=some o->b ∉ frs X.stack->(H b ≠ none\/∃ o0,X.s₀.heap.get? b=some o0)->B.get? b=some o) (st:B.StaysIn h'):Cov (frs X.outer) H X.s₀.heap h' B:=fun b o e n c=>by
 have i:∀ b:Addr,b ∉ X.ex:=fun b z=>by rw [hex] at z;cases z
 have h1:∃ a,s.heap.get? b=some a/\b ∉ frs X.stack:=by
  rcases c with c | ⟨o0,f⟩
  ·obtain ⟨a,e1⟩:=I.hok.at c
   exact ⟨a,e1,fun g=>c (I.stkFree b g)⟩
  ·obtain ⟨a,e1⟩:=I.base.there b o0 f (i b)
   refine ⟨a,e1,fun z=>?_⟩
   rcases C8.mp (I.stkSub b z) with z | z
   ·exact I.noLoc f z
   ·exact n z
 obtain ⟨a,e1,h⟩:=h1
 have d:=k1 b a e1 h c
 rw [st b a d] at e
 cases e
 exact d
theorem Fly.inv {da:Option Addr} (I:Inv X pins σ H s) (f:Fly X.prog X.w X.stack H s H' a cls da s'):Inv X pins σ H' s' :=
 I.call' f.os f.un f.hok f.bare (fun _ z=>nomatch z)
theorem Inv.newAt (hex:X.ex=[]) (I:Inv X pins σ H s) (n:s.heap.get? a=none):X.s₀.heap.get? a=none/\H a=none:=by
 constructor
 ·cases q:X.s₀.heap.get? a with
  | none=>rfl
  | some o =>
   obtain ⟨o',e⟩:=I.base.there a o q (by rw [hex];simp)
   rw [n] at e;cases e
 ·cases q:H a with
  | none=>rfl
  | some u =>
   obtain ⟨o,e⟩:=I.hok.at (b:=a) (by rw [q];intro z;cases z)
   rw [n] at e;cases e
end
section
variable {P:Program} {w:World} {K:FG} {mg:Str->Option Value} {base:Heap} {N:List Str} {qual:Str} {scope:Scope} {f:Addr} {cd:Value} {A:Around} {outer:List Env} {s0:Shared} {H0:Hp} {E:XK} {pins:List (Addr × Obj)} {σ:St} {H:Hp} {s s':Shared}
theorem xZ (I:Inv (de (CXe P w) P w K mg base N qual scope f cd A outer s0 H0 E) pins σ H s) (d:Heap.MadeExcOf s.heap s'.heap a cls vs) (j:s'.os=s.os) (m:s'.gens=s.gens) (p:E cls none H) :
  (de (CXe P w) P w K mg base N qual scope f cd A outer s0 H0 E).xe (.ref a) s':=by
 have c:∀ env ∈ (PyProof.Rows.envOfC qual scope s0.heap.objs.size f cd :: outer),∀ b,env.frame=some b->b ∈ frs (PyProof.Rows.envOfC qual scope s0.heap.objs.size f cd :: outer):=fun env he b k=>List.mem_filterMap.mpr ⟨env,he,k⟩
 obtain ⟨r,g⟩:=I.newAt rfl d.new
 refine nE (base:=PySem.W.hideAll s.heap (frs (PyProof.Rows.envOfC qual scope s0.heap.objs.size f cd :: outer))) (h:=s.heap) (L:=s0.heap.objs.size) I.ok.frames rfl (fun b o q=>PySem.W.of_hideAll _ q) (PySem.W.funFrames_hide I.stack c) d fun h' t f1 f4 i=>?_
 have k1:∀ b o,s.heap.get? b=some o->b ∉ frs (PyProof.Rows.envOfC qual scope s0.heap.objs.size f cd :: outer)->(PySem.W.hideAll s.heap (frs (PyProof.Rows.envOfC qual scope s0.heap.objs.size f cd :: outer))).get? b=some o:=fun b o e n=>PySem.W.hideAll_get _ e n
 obtain ⟨u,ok⟩:=nC rfl I (h':=h') (fun b o e n _=>f1.1 b o (k1 b o e n)) fun b o e hd=>by
  obtain ⟨sl,l⟩:=f4 b o (d.keeps b o e) hd
  exact ⟨sl,l⟩
 refine ⟨a,cls,none,H,rfl,⟨j.trans I.os,by show AllBare s'.gens;rw [m];exact I.bare,u,ok,g,r,⟨_,_,f1,kU rfl I (fun b o e n _=>k1 b o e n) f1.1⟩,i⟩,p⟩
theorem u8 {a:Addr} {ob:Obj} {vs:Array Value} {a0:Value} (I:Inv (de (CXe P w) P w K mg base N qual scope f cd A outer s0 H0 E) pins σ H s) (he:s.heap.get? a=some ob) (hd:ob.data=.fields vs) (h0:vs[0]?=some a0) (h1:vs[1]?=some .none) (h2:vs[2]?=some .none) (h:s0.heap.get? a=none) (g:H a=none) (k:E ob.cls ob.dict H) :
  (de (CXe P w) P w K mg base N qual scope f cd A outer s0 H0 E).xe (.ref a) s:=by
 have d:∀ env ∈ (PyProof.Rows.envOfC qual scope s0.heap.objs.size f cd :: outer),∀ b,env.frame=some b->b ∈ a :: frs (PyProof.Rows.envOfC qual scope s0.heap.objs.size f cd :: outer):=fun env he b j=>C3 _ (List.mem_filterMap.mpr ⟨env,he,j⟩)
 have k1:∀ b o,s.heap.get? b=some o->b ∉ frs (PyProof.Rows.envOfC qual scope s0.heap.objs.size f cd :: outer)->(H b ≠ none\/∃ o0,s0.heap.get? b=some o0)->(PySem.W.hideAll s.heap (a :: frs (PyProof.Rows.envOfC qual scope s0.heap.objs.size f cd :: outer))).get? b=some o:=fun b o e n c=>PySem.W.hideAll_get _ e fun z=>by
  rcases C8.mp z with z | z
  ·subst z
   rcases c with c | ⟨_,c⟩
   ·exact c g
   ·rw [h] at c;cases c
  ·exact n z
 refine nD (base:=PySem.W.hideAll s.heap (a :: frs (PyProof.Rows.envOfC qual scope s0.heap.objs.size f cd :: outer))) (L:=s0.heap.objs.size) I.ok.frames rfl (fun b o q=>PySem.W.of_hideAll _ q) (PySem.W.funFrames_hide I.stack d) he (PySem.W.hideAll_none _ C2) hd h0 h1 h2 fun h' f1 f4 i=>?_
 obtain ⟨u,ok⟩:=nC rfl I (h':=h') (fun b o e n c=>f1.1 b o (k1 b o e n c)) f4
 exact ⟨a,ob.cls,ob.dict,H,rfl,⟨I.os,I.bare,u,ok,g,h,⟨_,_,f1,kU rfl I k1 f1.1⟩,i⟩,k⟩
theorem Ay (I:Inv (de (CXe P w) P w K mg base N qual scope f cd A outer s0 H0 E) pins σ H s) (h:CXe P w (PyProof.Rows.envOfC qual scope s0.heap.objs.size f cd :: outer) H s E1 e s') (k:∀ cls da H',E1 cls da H'->E cls da H') :
  (de (CXe P w) P w K mg base N qual scope f cd A outer s0 H0 E).xe e s':=by
 obtain ⟨a,cls,da,H',rfl,F,i⟩:=h
 have d:=Fly.inv I F
 obtain ⟨B,a0,f1,g⟩:=F.fl
 have dI:s0.heap.get? a=none:=(I.newAt rfl F.new).1
 have k1:∀ b o,s'.heap.get? b=some o->b ∉ frs (PyProof.Rows.envOfC qual scope s0.heap.objs.size f cd :: outer)->(H' b ≠ none\/∃ o0,s0.heap.get? b=some o0)->B.get? b=some o:=fun b o e n c=>by
  refine g b o e n ?_
  rcases c with c | ⟨o0,m⟩
  ·exact .inl c
  ·exact .inr (I.base.there b o0 m (fun z=>nomatch z))
 refine qS (L:=s0.heap.objs.size) I.ok.frames rfl f1 F.ctx fun h' g1 g2 j=>?_
 obtain ⟨u,ok⟩:=nC rfl d (h':=h') (fun b o e n c=>g1.1 b o (k1 b o e n c)) fun b o e hd=>by
  obtain ⟨sl,l⟩:=g2 b o e hd
  exact ⟨sl,l⟩
 exact ⟨a,cls,da,H',rfl,⟨d.os,d.bare,u,ok,F.free,dI,⟨B,a0,g1,kU rfl d k1 g1.1⟩,j⟩,k cls da H' i⟩
end
end L2
end
section
namespace L2
open PySem PySem.Spec PyProof.Rows
structure ECls (K:FG) (mg:Str->Option Value) (x:Str) (C:Addr):Prop where
 bound:mg x=some (.ref C)
 ok:PySem.W.excIn K C hV "ValueError.__new__"=true
theorem uJ {K:FG} (X:K.In h) (q:PySem.W.excIn K C bmB nid=true) :
  ∃ bm N nm d bs hdct sn sub ab col dd k0 k1 k2 k3 k5 mN,h.get? C=some (excClassObj nm d C N bs bm hdct sn sub ab col dd k0 k1 k2 k3 k5 nid)/\h.Ns N mN/\mN "__init__"=none/\OwnTail h bmB bm:=by
 unfold PySem.W.excIn at q
 split at q
 ·rename_i dd cd sl r
  split at q
  ·rename_i p bm k0 k1 k2 k3 n k5 hm k
   have e:=Bool.and_eq_true_iff.mp q
   have f:=Bool.and_eq_true_iff.mp e.1
   have i:=Bool.and_eq_true_iff.mp f.1
   have j:=Bool.and_eq_true_iff.mp i.1
   have g:=Bool.and_eq_true_iff.mp j.1
   have e1:p=C:=beq_iff_eq.mp g.1
   have s:n=nid:=beq_iff_eq.mp g.2
   subst e1 s
   have a:cd.hasDel=false:=by
    have:=j.2
    cases m:cd.hasDel
    ·rfl
    ·rw [m] at this;cases this
   have hok:=f.2
   have b:=beq_iff_eq.mp e.2
   have c:=i.2
   obtain ⟨nm,bs,mro,ns,d,hd,sn,sub,ab,col,del⟩:=cd
   dsimp only at hm a hok b c
   subst hm a
   obtain ⟨l⟩:=sl
   have o:l=[k0,k1,k2,k3,some (.builtin n),k5]:=k
   subst o
   exact ⟨bm,ns,nm,d,bs,hd,sn,sub,ab,col,dd,k0,k1,k2,k3,k5,_,X _ _ r,.of_isNs (PySem.W.isNs_of_in X hok),PySem.W.nsMap_none_of_in X hok b,PySem.W.tail_of_in X c⟩
  ·cases q
 ·cases q
section
variable {X:Cx} {x:Str} {C:Addr} {np cpos pos:Pos} {e:Expr} {ta:TA}
def vi (a:St->Hp->Prop) (ta:TA):TS:=fun _ σ H=>ta σ H fun vs H1=>vs.length<=1000/\a σ H1
theorem wn (c:ECls X.K X.mg x C) (n:X.calm=true) (l:Gl X x) (hd:(x == ("__debug__":Str))=false) (r:PA X [e] ta) (f:St->Hp->Prop)
  (m:∀ (pins:List (Addr × Obj)) (σ:St) (H:Hp) (s s':Shared) (a:Addr) (vs:List Value),Inv X pins σ H s->f σ H->Heap.MadeExcOf s.heap s'.heap a (.ref C) vs->s'.os=s.os->s'.gens=s.gens->X.xe (.ref a) s')
  (he:starEach [e] X.env=[(false,eval e X.env)]):PS X (.Raise (some (.Call (.Name x np) [e] [] cpos)) none pos) (vi f ta):=by
 intro pins s σ H D I h
 have t:X.K.In s.heap:=I.kIn
 obtain ⟨bm,N,nm,i,bs,hdct,sn,sub,ab,col,dd,k0,k1,k2,k3,k5,mN,o,j,d,T⟩:=uJ I.mod.kin c.ok
 have FB:=PySem.F.excBase_ValueError
 refine wpAny_Raise_call_subT (C:=C) (nm:=nm) (q:=i) (N:=N) (bs:=bs) (bm:=bm) (hdct:=hdct) (sn:=sn) (sub:=sub) (ab:=ab) (col:=col) (dd:=dd) (k0:=k0) (k1:=k1) (k2:=k2) (k3:=k3) (k5:=k5) FB (mN:=mN) (T.hasType FB.hasBase) (I.ok.hd n) (by rw [he];rfl) d (eT I l c.bound ⟨rfl,?_⟩ hd)
 have h1:=r cpos pins s σ H _ I h
 rw [he] at h1 ⊢
 refine Calls.evalArgs_plain (wpAny_mono h1 (fun us s1 ⟨vs,H1,b,g,p,k⟩=>⟨rfl,?_,b.bk _ _ o,j.keeps b.bk,T.keeps b.bk,fun h' a hm=>?_⟩) fun _ _ y=>y)
 ·show us.length<=sizeLine
  rw [<- g.length]
  exact Nat.le_of_lt (tD p)
 ·exact m pins σ H1 s1 { s1 with heap:=h' } a us b k hm rfl rfl
end
end L2
end
section
namespace L2
open PySem PySem.Spec PyProof.Rows
section
variable {P:Program} {w:World} {outer:List Env} {H H':Hp} {s s1:Shared} {a:Addr} {cls:Value} {da:Option Addr}
theorem Fly.move (F:Fly P w outer H s H' a cls da s1) (q:∀ b ∈ frs outer,H' b=none) (f1:Heap.FlyingW B outer a cls a0 s1.heap) (m:Cov (frs outer) H' s.heap s1.heap B) (f2:Heap.FlyingW B outer a cls a0 h2) (up:s1.heap.UpToSlots h2) (x:NoCtD h2 a da):Fly P w outer H s H' a cls da { s1 with heap:=h2 }/\Cov (frs outer) H' s.heap h2 B:=by
 have k1:∀ b o,s1.heap.get? b=some o->b ∉ frs outer->(H' b ≠ none\/∃ o0,s.heap.get? b=some o0)->h2.get? b=some o:=fun b o e n g=>f2.1 b o (m b o e n g)
 have l:∀ b ∈ frs outer,∀ o,s1.heap.get? b=some o->∀ vs,o.data ≠ .fields vs:=fun b f o e=>by
  obtain ⟨_,o',r,d⟩:=f1.2.2.1.mem f
  rw [e] at r;cases r;exact d
 have h:Cov (frs outer) H' s.heap h2 B:=fun b o e n g=>by
  have h1:∃ p,s1.heap.get? b=some p:=by
   rcases g with g | ⟨o0,y⟩
   ·exact F.hok.at g
   ·exact F.un.there b o0 y (fun z=>nomatch z)
  obtain ⟨p,e1⟩:=h1
  have i:=m b p e1 n g
  have A:=f2.1 b p i
  rw [A] at e
  cases e
  exact i
 refine ⟨⟨F.os,F.bare,⟨fun b o e n f k=>?_,fun b o e n f k=>?_,F.un.free,fun b o e k=>?_,F.un.tups,F.un.frzs,F.un.tbls⟩,fun b u e=>?_,F.free,F.new,⟨B,a0,f2,h⟩,x⟩,h⟩
 ·exact k1 b o (F.un.keep b o e n f k) f (.inr ⟨o,e⟩)
 ·obtain ⟨sl,e1⟩:=F.un.slot b o e n f k
  obtain ⟨j,i⟩:=up b _ e1 (l b f _ e1)
  exact ⟨j,i⟩
 ·obtain ⟨o',e1⟩:=F.un.there b o e k
  by_cases f:b ∈ frs outer
  ·obtain ⟨j,i⟩:=up b o' e1 (l b f o' e1)
   exact ⟨_,i⟩
  ·exact ⟨o',k1 b o' e1 f (.inr ⟨o,e⟩)⟩
 ·refine (F.hok b u e).stay (fun c v g z=>?_) (fun _ z=>z) fun _ _ z=>z
  have t:H' c ≠ none:=by
   rcases g with rfl | g
   ·rw [e];intro z;cases z
   ·rw [g];intro z;cases z
  exact k1 c v z (fun f=>t (q c f)) (.inl t)
end
abbrev Cx.caught0 (X:Cx) (a:Addr):Cx:={ X with A:=X.A.mark (some (.ref a)),calm:=false,xe:=fun _ _=>False }
abbrev Cx.caught (X:Cx) (a:Addr) (ob:Obj) (cls:Value):Cx:={ X with A:=X.A.mark (some (.ref a)),calm:=false,xe:=fun _ _=>False,H₀:=upd X.H₀ a (dE ob a cls) }
section
variable {X:Cx} {pins:List (Addr × Obj)} {σ:St} {H H':Hp} {s s1:Shared} {a:Addr} {cls:Value}
theorem Inv.caught0 (I:Inv X pins σ H s) (a:Addr):Inv (X.caught0 a) pins σ H s :=
 ⟨⟨I.ok.mod,I.ok.kind,I.ok.glob,I.ok.blt,I.ok.above,I.ok.inj,I.ok.has,I.ok.cab,(fun h=>by cases h),I.ok.frames,I.ok.stk,I.ok.exf,I.ok.bs,I.ok.bsz,I.ok.noex,I.ok.exfs,I.ok.funs,I.ok.frf⟩,I.os,I.bare,I.base,I.loc,I.cell,I.free,I.freeC,I.pin,I.hok,I.len⟩
theorem Inv.trackX (I:Inv X pins σ H' s1) (J:Inv X pins σ H s) (new:s.heap.get? a=none) (t:H' a=none) (hex:X.ex=[]) (i:s1.heap.get? a=some ob) (l:ob.cls=cls):Inv X pins σ (upd H' a (dE ob a cls)) s1:=by
 obtain ⟨e1,M,G,d,O,K,L,N,B,j,r⟩:=id I
 have ne:∀ b o,s.heap.get? b=some o->b ≠ a:=fun b o e z=>by rw [z,new] at e;cases e
 have h:∀ b o,X.s₀.heap.get? b=some o->b ≠ a:=fun b o e=>by
  obtain ⟨o',y⟩:=J.base.there b o e (by rw [hex];simp)
  exact ne b o' y
 have f:∀ b u,H' b=some u->upd H' a (dE ob a cls) b=some u:=fun b u e=>by rw [ao (aN e t)];exact e
 refine ⟨e1,M,G,⟨d.keep,d.slot,fun b o q n E=>?_,d.there,fun b ys q=>f _ _ (d.tups b ys q),fun b o u q=>f _ _ (d.frzs b o u q),fun b ps q=>?_⟩,O,K,?_,fun x c q=>?_,fun p w=>?_,?_,r⟩
 ·rw [ao (h b o q)];exact d.free b o q n E
 ·obtain ⟨more,D⟩:=d.tbls b ps q;exact ⟨more,f _ _ D⟩
 ·obtain ⟨m,⟨o,_,_,g,_⟩,_⟩:=J.loc
  rw [ao (ne _ o g)];exact L
 ·obtain ⟨v,o,g,_⟩:=J.cell x c q
  rw [ao (ne c o g)];exact N x c q
 ·obtain ⟨a1,a2,A⟩:=B p w
  exact ⟨a1,by rw [ao (ne p.1 p.2 (J.pin p w).1)];exact a2,A⟩
 ·exact j.track t ⟨i,⟨ob,i,l⟩,⟨ob,i⟩,fun h1 h2 ⟨o,C,F⟩ k=>⟨o,k o C,F⟩⟩
theorem Inv.nameless (I:Inv X pins σ H s) {t':Nat} (F:h'.Ns X.env.locals m') (g:Heap.SameBut X.env.locals s.heap h'):Inv X pins (List.replicate X.N.length none) H { s with heap:=h',toks:=t' }:=by
 obtain ⟨e1,D,A,f,G,B,m,E,w,t,C⟩:=id I
 have a:∀ b o,X.s₀.heap.get? b=some o->b ≠ X.env.locals:=fun b o e=>I.noLoc e
 refine ⟨e1,D,A,⟨fun b o e n l h=>?_,fun b o e n l h=>?_,f.free,fun b o e h=>?_,f.tups,f.frzs,f.tbls⟩,⟨m',F,fun i x v h1 h2 h3=>?_⟩,fun x c e=>?_,m,E,fun p y=>?_,fun b u e=>?_,by rw [List.length_replicate]⟩
 ·exact (g.2 b (a b o e)).trans (f.keep b o e n l h)
 ·obtain ⟨sl,q⟩:=f.slot b o e n l h
  exact ⟨sl,(g.2 b (a b o e)).trans q⟩
 ·obtain ⟨o',q⟩:=f.there b o e h
  exact ⟨o',(g.2 b (a b o e)).trans q⟩
 ·rw [List.getElem?_replicate] at h2
  split at h2 <;> cases h2
 ·obtain ⟨v,o,q,d⟩:=B x c e
  exact ⟨v,o,(g.2 c (I.cne x c e)).trans q,d⟩
 ·obtain ⟨q,n,ne,r⟩:=w p y
  exact ⟨(g.2 p.1 ne).trans q,n,ne,r⟩
 ·refine (t b u e).stay (fun c v j z=>?_) (fun _ z=>z) fun _ _ z=>z
  have k:c ≠ X.env.locals:=fun q=>by
   rcases j with rfl | j
   ·rw [q,m] at e;cases e
   ·rw [q,m] at j;cases j
  exact (g.2 c k).trans z
theorem Inv.namelessC (I:Inv X pins σ H s) {t':Nat} (hf:X.fn n=true) (l:X.env.cells.lookup n=some c) (P:h'.IsCell c none) (f:Heap.SameBut c s.heap h'):Inv X pins (List.replicate X.N.length none) H { s with heap:=h',toks:=t' }:=by
 obtain ⟨e1,L,F,g,O,G,J,B,D,A,K⟩:=id I
 obtain ⟨v0,o0,M,C⟩:=I.cell n c l
 have t:=I.ok.cab n c hf l
 have h:∀ b o,X.s₀.heap.get? b=some o->b ≠ c:=fun b o e=>Dl (Dq (Da e) t)
 have y:X.env.locals ≠ c:=fun z=>I.cne n c l z.symm
 refine ⟨e1,L,F,⟨fun b o e n w k=>?_,fun b o e n w k=>?_,g.free,fun b o e k=>?_,g.tups,g.frzs,g.tbls⟩,?_,fun x j e=>?_,J,B,fun p E=>?_,fun b u e=>?_,by rw [List.length_replicate]⟩
 ·exact (f.2 b (h b o e)).trans (g.keep b o e n w k)
 ·obtain ⟨sl,q⟩:=g.slot b o e n w k
  exact ⟨sl,(f.2 b (h b o e)).trans q⟩
 ·obtain ⟨o',q⟩:=g.there b o e k
  exact ⟨o',(f.2 b (h b o e)).trans q⟩
 ·obtain ⟨m,hm,_⟩:=O
  refine ⟨m,hm.sameBut f y,fun i x v h1 h2 h3=>?_⟩
  rw [List.getElem?_replicate] at h2
  split at h2 <;> cases h2
 ·by_cases z:j=c
  ·rw [z];exact ⟨_,P⟩
  ·obtain ⟨v,o,q,d⟩:=G x j e
   exact ⟨v,o,(f.2 j z).trans q,d⟩
 ·obtain ⟨q,n,ne,r⟩:=D p E
  have z:p.1 ≠ c:=fun z=>by
   rw [z,M] at q
   cases q
   exact r.2 v0 C
  exact ⟨(f.2 p.1 z).trans q,n,ne,r⟩
 ·refine (A b u e).stay (fun j v a z=>?_) (fun _ z=>z) fun _ _ z=>z
  have hz:j ≠ c:=fun q=>by
   rcases a with rfl | a
   ·rw [q,B n c l] at e;cases e
   ·rw [q,B n c l] at a;cases a
  exact (f.2 j hz).trans z
theorem lA (d:env.scope.kind=.function) (a:env.kindOf n=some .cell) (b:env.cells.lookup n=some c) (e:s.heap.IsCell c v₀) (h:∀ h',h'.IsCell c none->Heap.SameBut c s.heap h'->Q () { s with heap:=h' }):wpAny M A (do bindName env n .none;unbindBehindTheSuite env n pos) Q E s:=by
 refine CY (wpAny_bindName (wpAny_storeName_cell d a b e fun h1 c1 s1=>?_))
 unfold unbindBehindTheSuite
 refine wpAny_onRaise ?_
 unfold unbindName
 refine CY (wpAny_point (CY ?_))
 unfold deleteName
 simp only [a]
 refine CY (wpAny_cellOf b (CY (wpAny_cellGet c1 ?_)))
 simp only [Option.isSome_some,if_true]
 refine wpAny_cellSet c1 fun h2 c2 s2=>?_
 exact wpAny_point (h h2 c2 (s1.trans s2))
theorem Inv.caught (I:Inv X pins σ H s) (f:X.s₀.heap.get? a=none) (g:H a=some (dE ob a cls)):Inv (X.caught a ob cls) pins σ H s:=by
 have ne:∀ b o,X.s₀.heap.get? b=some o->b ≠ a:=fun b o e z=>by rw [z,f] at e;cases e
 have fr:∀ b ∈ X.fs,b ≠ a:=fun b c=>by
  obtain ⟨_,o',d,_⟩:=I.ok.funs.mem c
  exact ne b o' d
 have u:=I.base
 refine ⟨⟨I.ok.mod,I.ok.kind,I.ok.glob,I.ok.blt,I.ok.above,I.ok.inj,I.ok.has,I.ok.cab,(fun h=>by cases h),I.ok.frames,I.ok.stk,I.ok.exf,fun b o e=>⟨(I.ok.bs b o e).1,by show upd X.H₀ a _ b=none;rw [ao (ne b o (I.ok.bs b o e).1)];exact (I.ok.bs b o e).2⟩,I.ok.bsz,I.ok.noex,I.ok.exfs,I.ok.funs,fun b c=>by show upd X.H₀ a _ b=none;rw [ao (fr b c)];exact I.ok.frf b c⟩,I.os,I.bare,?_,I.loc,I.cell,I.free,I.freeC,I.pin,I.hok,I.len⟩
 show Un _ _ (upd X.H₀ a (dE ob a cls)) H _ _
 refine ⟨fun b o e n=>u.keep b o e (by rwa [ao (ne b o e)] at n),fun b o e n=>u.slot b o e (by rwa [ao (ne b o e)] at n),fun b o e n=>u.free b o e (by rwa [ao (ne b o e)] at n),u.there,fun b xs e=>?_,fun b o w e=>?_,fun b ps e=>?_⟩
 ·by_cases z:b=a
  ·subst z;rw [aI] at e;cases e
  ·rw [ao z] at e;exact u.tups b xs e
 ·by_cases z:b=a
  ·subst z;rw [aI] at e;cases e;exact g
  ·rw [ao z] at e;exact u.frzs b o w e
 ·by_cases z:b=a
  ·subst z;rw [aI] at e;cases e
  ·rw [ao z] at e;exact u.tbls b ps e
theorem Inv.uncaught (I:Inv (X.caught a ob cls) pins σ H s) (ok:X.Ok) (g:X.s₀.heap.get? a=none) (c:∀ xs,X.H₀ a ≠ some (.tup xs)) (d:∀ o w,X.H₀ a ≠ some (.frz o w)) (f:∀ ps,X.H₀ a ≠ some (.tbl ps)):Inv X pins σ H s:=by
 have ne:∀ b o,X.s₀.heap.get? b=some o->b ≠ a:=fun b o e z=>by rw [z,g] at e;cases e
 have u:Un X.fs X.ex (upd X.H₀ a (dE ob a cls)) H X.s₀.heap s.heap:=I.base
 refine ⟨ok,I.os,I.bare,?_,I.loc,I.cell,I.free,I.freeC,I.pin,I.hok,I.len⟩
 exact ⟨fun b o e n=>u.keep b o e (by rwa [ao (ne b o e)]),fun b o e n=>u.slot b o e (by rwa [ao (ne b o e)]),fun b o e n=>u.free b o e (by rwa [ao (ne b o e)]),u.there,fun b xs e=>u.tups b xs ((ao (fun z:b=a=>c xs (by rw [<- z];exact e))).trans e),fun b o w e=>u.frzs b o w ((ao (fun z:b=a=>d o w (by rw [<- z];exact e))).trans e),fun b ps e=>u.tbls b ps ((ao (fun z:b=a=>f ps (by rw [<- z];exact e))).trans e)⟩
end
end L2
end
section
namespace L2
open PySem PySem.Spec PyProof.Rows
section
variable {X:Cx} {pins:List (Addr × Obj)} {σ:St} {H H':Hp} {s s1:Shared} {a CB:Addr} {cls:Value} {da:Option Addr} {D:Ends} {cx n:Str} {i:Nat} {cp hpos:Pos} {b0:Stmt} {suite:List Stmt}
theorem qZ (I:Inv X pins σ H s) (F:Fly X.prog X.w X.stack H s H' a cls da s1) (k:X.stack=X.env :: X.outer) (R:X.env.frame=some X.env.locals) (hex:X.ex=[]) (hN:X.N.Nodup)
  (hg:Gl X cx) (hd:(cx == ("__debug__":Str))=false) (hm:X.mg cx=some (.ref CB)) (hx:PySem.W.exmOne X.K cls (.ref CB)=some true) (hi:X.N[i]?=some n) (h:X.env.scope.names.lookup n=some .local\/(X.env.scope.names.lookup n=some .cell/\X.fn n=true))
  (hs:∀ s5 ob,ob.dict=da->Hd (X.caught a ob cls)->Inv (X.caught a ob cls) pins (σ.set i (some (.ref a))) (upd H' a (dE ob a cls)) s5->wpAny (model X.prog X.w) (X.A.mark (some (.ref a))) (execs (b0 :: suite) X.env) (fun f E=>∃ v u σ6 j,f=.ret u/\Inv (X.caught a ob cls) pins σ6 j E/\RelV v u/\D.rt v j) (fun _ _=>False) s5) :
  wpAny (model X.prog X.w) X.A (noteFrame (.ref a) X.env) (fun _ s2=>wpAny (model X.prog X.w) X.A (setFlight (.ref a) none) (fun _ s3=>wpAny (model X.prog X.w) X.A (handleBy (.ref a) X.env [.ExceptHandler (some (.Name cx cp)) (some n) (b0 :: suite) hpos]) (SP X pins D) X.xe s3) X.xe s2) X.xe s1:=by
 have hA:X.A.frames=some (X.env :: X.outer):=by rw [<- k];exact I.ok.frames
 have g:∀ b ∈ frs X.stack,H' b=none:=(Fly.inv I F).stkFree
 obtain ⟨B,a0,f1,M⟩:=F.fl
 refine uq (outer:=X.outer) hA R (by rw [<- k];exact f1) F.ctx fun h2 held L c2=>?_
 refine Ch held c2 fun h3 p G c3=>?_
 rw [<- k] at p
 obtain ⟨T,m⟩:=F.move g f1 M p (L.trans G) c3
 have I3:=(Fly.inv I T).caught0 a
 have y:PySem.W.Looks (model X.prog X.w) h3 (typeOf (.ref a)) cls:=by
  obtain ⟨ob,C,l⟩:=p.there
  subst l
  exact (PySem.W.Looks.ld C).andThen .now
 refine wpAny_handleBy_cons (codeAny_handlers_test (eT (X:=X.caught0 a) I3 hg hm ?_ hd)) (by intro q;cases q)
 refine (PySem.W.exm_one (K:=X.K) I3.kIn y hx).here ?_
 show codeAny _ _ _ _ _
 refine codeAny_handlers_suite_as (nF p c3 fun h4 f4 Q c4=>?_)
 obtain ⟨F4,ae⟩:=T.move g p m f4 Q c4
 have I4:=Fly.inv I F4
 obtain ⟨O,d⟩:=I.newAt hex F.new
 obtain ⟨ob,t,P⟩:=f4.there
 have U:NoC ob/\ob.dict=da:=by
  obtain ⟨o,vs,Y,q2,q3,q4⟩:=c4
  rw [t] at Y
  cases Y
  exact ⟨⟨vs,q2,q3⟩,q4⟩
 have I5:=(I4.trackX I F.new F.free hex t P).caught (ob:=ob) (cls:=cls) O aI
 have hD:Hd (X.caught a ob cls):=⟨a,ob,excO a cls,rfl,aI,U.1⟩
 refine ki (X:=X.caught a ob cls) (v:=V.ref a) I5 hN hi (h.imp id And.left) rfl (fun s5 J5=>?_) (h.elim .inr fun z=>.inl z.2)
 refine wpAny_mono (hs s5 ob U.2 hD J5) (fun f E h6=>?_) fun _ _ z=>z.elim
 obtain ⟨v,u,σ6,j,rfl,x,r,q⟩:=h6
 have un:∀ {σ7:St} {Z:Shared},Inv (X.caught a ob cls) pins σ7 j Z->Inv X pins σ7 j Z:=fun J=>J.uncaught I.ok O (fun xs e=>by rw [I.base.tups a xs e] at d;cases d) (fun o w e=>by rw [I.base.frzs a o w e] at d;cases d) fun ps e=>by obtain ⟨_,e⟩:=I.base.tbls a ps e;rw [e] at d;cases d
 rcases h with h | ⟨h,S⟩
 case inr =>
  obtain ⟨c,l⟩:=I.ok.has n (.inl h)
  obtain ⟨v0,z0⟩:=x.cell n c l
  exact lA I.ok.kind h l z0 fun h7 c7 sb=>⟨v,_,j,(un x).namelessC (t':=E.toks) S l c7 sb,r,q⟩
 obtain ⟨m6,n6,_⟩:=x.loc
 refine wpAny_nameGoes h n6 ?_ fun h7 m7 n7 sb=>?_
 ·have:=I.ok.kind
  rw [this];rfl
 ·exact ⟨v,_,j,(x.uncaught I.ok O (fun xs e=>by rw [I.base.tups a xs e] at d;cases d) (fun o w e=>by rw [I.base.frzs a o w e] at d;cases d) fun ps e=>by obtain ⟨_,e⟩:=I.base.tbls a ps e;rw [e] at d;cases d).nameless n7 sb,r,q⟩
end
end L2
end
section
namespace L2
open PySem PySem.Spec PyProof.Rows
structure CalleeX (P:Program) (w:World) (K:FG) (mg:Str->Option Value) (base:Heap) (x:Str) (k:Nat) (ps:List Str) (sp:Sp):Prop where
 ex:∃ (f:Addr) (fd:FuncData),FnOk P w K mg base (CXe P w) k f fd ps sp/\mg x=some (.ref f)/\PySem.W.keepIn K (.ref f)=true/\Binds K fd ps []
section
variable {X:Cx} {x:Str} {p pos:Pos} {e:Expr} {es:List Expr} {t:TA} {k:Nat} {ps:List Str} {sp:Sp}
def tFnX (sp:Sp) (a:St->XK) (t:TA):TE:=fun σ H Q=>t σ H fun vs H1=>sp vs H1 Q (a σ)
theorem BN (c:CalleeX X.prog X.w X.K X.mg X.base x k ps sp) (l:Room k X.A) (y:∀ (pins:List (Addr × Obj)) (σ:St) (H:Hp) (s:Shared) (e:Value) (s':Shared),Inv X pins σ H s->CXe X.prog X.w X.stack H s (EE σ) e s'->X.xe e s') (v:PA X (e :: es) t) (o:Gl X x) (g:(x == ("__debug__":Str))=false) (he:starEach (e :: es) X.env=(false,eval e X.env) :: starEach es X.env) (d:(backTo pos (starEach es X.env)).any (·.1)=false):PE X (.Call (.Name x p) (e :: es) [] pos) (tFnX sp EE t):=by
 obtain ⟨f,fd,F,hm,m,n⟩:=c.ex
 intro pins s σ H Q I h
 refine wpAny_Call_Name_kw (eT I o hm ?_ g)
 refine PySem.W.callWith_K (h₀:=X.base) I.ok.mod.kin m (thn (v pos pins s σ H _ I h) fun us s1 ⟨vs,H1,a,r,q⟩=>⟨a.kIn,?_⟩) he d
 have j:us.length=ps.length:=by rw [<- r.length];exact F.len _ _ _ _ q
 have i:=n s1 us a.kIn (by rw [List.append_nil];exact j)
 rw [List.append_nil] at i
 refine wpAny_call (codeAny_mono (F.run X.A X.stack s1 H1 ⟨us,[]⟩ us vs Q (EE σ) l a.env0 i r q) fun r s' b=>?_)
 cases r with
 | error e=>exact y pins σ H1 s1 e s' a b
 | ok fl =>
  cases fl with
  | ret u=>exact a.after b
  | next=>exact False.elim b
  | brk=>exact False.elim b
  | cont=>exact False.elim b
end
theorem Def.calleeX {K:FG} {st:Stmt} {k:Nat} (D:Def K mg x st) (b:∀ (kV doc pm:Value) (an:Option Addr) (a ct:Value) (us:List Value),us.length=ps.length->bindArgs (PySem.W.fnOf x x (aF st) (au st) (af st) .none kV doc pm an a ct) ⟨us,[]⟩=pure (ps.zip us)) (h:∀ f fd,Fun K x x st f fd->FnOk P w K mg base (CXe P w) k f fd ps sp):CalleeX P w K mg base x k ps sp:=by
 obtain ⟨f,fd,d⟩:=D
 exact ⟨f,fd,h f fd d.fn,d.mg,d.fn.kp,d.fn.binds b⟩
theorem Fun.okX {K:FG} {st:Stmt} {k:Nat} (F:Fun K x qual st f fd) (S:FnScope N ps (af st)) (len:∀ vs H Q E,sp vs H Q E->vs.length=ps.length) (b:∀ (a:Value) (A:Around) (outer:List Env) (s:Shared) (H:Hp) (vs:List V) (Q:VK) (E:XK),Room k (A.deeper (envOfC qual (af st) s.heap.objs.size f a))->sp vs H Q E ->
   ∃ t,PSs (de (CXe P w) P w K mg base N qual (af st) f a A outer s H E) (au st) t/\t { nx:=fun _ H'=>Q .non H',rt:=Q } (fg N vs) H):FnOk P w K mg base (CXe P w) (k+1) f fd ps sp:=by
 obtain ⟨i,od,kV,doc,pm,an,a,ct,h,rfl,g,d⟩:=F.ex
 exact At g d S len fun A outer s H vs Q E e c=>b a A outer s H vs Q E e c
structure RoomN (k:Nat) (A:Around):Prop where
 dp:A.depth+3 * k+5 < recursionLimit
 un:A.units+16 * k+200 < cLine
 gd:A.guards=some []
theorem Room.mark {k:Nat} (r:Room k A) (v:Option Value):RoomN k (A.mark v):=⟨r.dp,r.un,r.gd⟩
theorem RoomN.mono {j k:Nat} (r:RoomN k A) (h:j<=k):RoomN j A:=⟨by have:=r.dp;omega,by have:=r.un;omega,r.gd⟩
theorem RoomN.deeper {k:Nat} (r:RoomN (k+1) A) (env:Env):RoomN k (A.deeper env) :=
 ⟨by have:=r.dp;show A.depth+1+3 * k+5 < _;omega,by have:=r.un;show A.units+3+16 * k+200 < _;omega,r.gd⟩
def HdA (A:Around) (H:Hp):Prop:=∃ a ob u,A.handled=some (.ref a)/\H a=some (.frz ob u)/\NoC ob
structure FnOkN (P:Program) (w:World) (K:FG) (mg:Str->Option Value) (base:Heap) (k:Nat) (f:Addr) (fd:FuncData) (ps:List Str) (sp:Sp):Prop where
 len:∀ vs H Q E,sp vs H Q E->vs.length=ps.length
 run:∀ (A:Around) (outer:List Env) (s:Shared) (H:Hp) (args:Args) (us:List Value) (vs:List V) (Q:VK),RoomN k A->HdA A H->Env0 P w K mg base A outer s H->BindsTo s fd args (ps.zip us)->Vals vs us->sp vs H Q E0 ->
  codeAny (model P w) A (.call (.ref f) args) (CR CX0 outer P w H s Q E0) s
abbrev Cx.loud (X:Cx):Cx:={ X with calm:=false }
theorem qU {K:FG} (S:FnScope N ps scope) (a:Env0 P w K mg base A outer s H) (b:vs.length=ps.length) (r:Vals vs us) (x:InCallC s s.heap.objs.size (bindL (envOfC qual scope s.heap.objs.size f cd).kindOf (ps.zip us) fun _=>none) (cellsFrom (s.heap.objs.size+1) scope.names []) (bindC (envOfC qual scope s.heap.objs.size f cd).kindOf (ps.zip us) fun _=>none) s1) :
  Inv ((de CX0 P w K mg base N qual scope f cd A outer s H E0).loud.wish fun _ _=>False) [] (fg N vs) H s1:=by
 have e1:Env0 P w K mg base { A with handled:=none } outer s H:=⟨a.frames,a.mod,a.bs,a.bsz,a.funs,a.frf,a.hok,a.bare⟩
 have I:=mr (CX:=CX0) (E:=E0) (qual:=qual) (f:=f) (cd:=cd) S rfl e1 b r x
 exact ⟨⟨I.ok.mod,I.ok.kind,I.ok.glob,I.ok.blt,I.ok.above,I.ok.inj,I.ok.has,I.ok.cab,(fun h=>by cases h),I.ok.frames,I.ok.stk,I.ok.exf,I.ok.bs,I.ok.bsz,I.ok.noex,I.ok.exfs,I.ok.funs,I.ok.frf⟩,I.os,I.bare,I.base,I.loc,I.cell,I.free,I.freeC,I.pin,I.hok,I.len⟩
theorem Fun.okN {K:FG} {st:Stmt} {k:Nat} (F:Fun K x qual st f fd) (S:FnScope N ps (af st)) (len:∀ vs H Q E,sp vs H Q E->vs.length=ps.length) (c:∀ (a:Value) (A:Around) (outer:List Env) (s:Shared) (H:Hp) (vs:List V) (Q:VK),RoomN k (A.deeper (envOfC qual (af st) s.heap.objs.size f a))->Hd ((de CX0 P w K mg base N qual (af st) f a A outer s H E0).loud.wish fun _ _=>False)->sp vs H Q E0 ->
   ∃ t,PSs ((de CX0 P w K mg base N qual (af st) f a A outer s H E0).loud.wish fun _ _=>False) (au st) t/\t { nx:=fun _ H'=>Q .non H',rt:=Q } (fg N vs) H):FnOkN P w K mg base (k+1) f fd ps sp:=by
 obtain ⟨R,od,kV,doc,pm,an,a,ct,M,rfl,G,l⟩:=F.ex
 refine ⟨len,fun A outer s H args us vs Q p j i B r h=>?_⟩
 have D:=len _ _ _ _ h
 have z:K.In s.heap:=i.mod.kin.keeps fun b o e=>(i.bs b o e).1
 have lim:s.heap.NoLimit:=i.mod.nolimit.keeps fun b o e=>(i.bs b o e).1
 have d:∀ y ∈ ps.zip us,(af st).names.lookup y.1=some .local\/((af st).names.lookup y.1=some .cell/\((cellsFrom (s.heap.objs.size+1) (af st).names []).lookup y.1).isSome=true):=fun ⟨n,v⟩ O=>by
  rcases S.par n (List.of_mem_zip O).1 with q | q
  ·exact .inl q
  ·exact .inr ⟨q,PySem.W.cellsFrom_some _ _ _ (.inl q)⟩
 refine codeAny_call_function (by have:=p.dp;omega) (z _ _ G) rfl S.co S.gen rfl (PySem.W.codeRec_of z l) (B _ _ _ _ ?_)
 refine wpAny_newFunctionEnv_cells S.kind d fun env he s1 x=>?_
 subst he
 refine ⟨lim.keeps x.toInCall.keep,codeAny_func ?_⟩
 obtain ⟨t,C,L⟩:=c a A outer s H vs Q (p.deeper _) j h
 have I:=qU (qual:=qual) (f:=f) (cd:=a) S i D r x
 refine wpAny_mono (C [] s1 (fg N vs) H _ I L) (fun fl s' g=>?_) fun e s' g=>False.elim g
 have fin:∀ {σ':St} {H':Hp} {v:V} {u:Value},Inv ((de CX0 P w K mg base N qual (af st) f a A outer s H E0).loud.wish fun _ _=>False) [] σ' H' s'->RelV v u->Q v H'->CE outer P w H s Q u s' :=
  fun {σ' H' v u} J m q=>⟨v,H',J.os,J.bare,J.base,J.hok,m,q⟩
 cases fl with
 | ret u =>
  obtain ⟨v,σ',H',J,m,q⟩:=g
  exact fin J m q
 | next =>
  obtain ⟨σ',H',J,q⟩:=g
  exact fin (v:=V.non) (u:=Value.none) J rfl q
 | brk =>
  obtain ⟨_,_,_,q⟩:=g
  exact False.elim q
 | cont =>
  obtain ⟨_,_,_,q⟩:=g
  exact False.elim q
structure CalleeN (P:Program) (w:World) (K:FG) (mg:Str->Option Value) (base:Heap) (x:Str) (k:Nat) (ps:List Str) (sp:Sp):Prop where
 ex:∃ (f:Addr) (fd:FuncData),FnOkN P w K mg base k f fd ps sp/\mg x=some (.ref f)/\PySem.W.keepIn K (.ref f)=true/\Binds K fd ps []
theorem Def.calleeN {K:FG} {st:Stmt} {k:Nat} (D:Def K mg x st) (b:∀ (kV doc pm:Value) (an:Option Addr) (a ct:Value) (us:List Value),us.length=ps.length->bindArgs (PySem.W.fnOf x x (aF st) (au st) (af st) .none kV doc pm an a ct) ⟨us,[]⟩=pure (ps.zip us)) (h:∀ f fd,Fun K x x st f fd->FnOkN P w K mg base k f fd ps sp):CalleeN P w K mg base x k ps sp:=by
 obtain ⟨f,fd,d⟩:=D
 exact ⟨f,fd,h f fd d.fn,d.mg,d.fn.kp,d.fn.binds b⟩
section
variable {X:Cx} {x:Str} {p pos:Pos} {e:Expr} {es:List Expr} {t:TA} {k:Nat} {ps:List Str} {sp:Sp}
theorem BO (c:CalleeN X.prog X.w X.K X.mg X.base x k ps sp) (l:RoomN k X.A) (B:Hd X) (D:PA X (e :: es) t) (y:Gl X x) (g:(x == ("__debug__":Str))=false)
  (he:starEach (e :: es) X.env=(false,eval e X.env) :: starEach es X.env) (i:(backTo pos (starEach es X.env)).any (·.1)=false):PE X (.Call (.Name x p) (e :: es) [] pos) (tFn sp t):=by
 obtain ⟨f,fd,F,hm,n,v⟩:=c.ex
 intro pins s σ H Q I h
 refine wpAny_Call_Name_kw (eT I y hm ?_ g)
 refine PySem.W.callWith_K (h₀:=X.base) I.ok.mod.kin n (thn (D pos pins s σ H _ I h) fun us s1 ⟨vs,H1,b,r,q⟩=>⟨b.kIn,?_⟩) he i
 have z:us.length=ps.length:=by rw [<- r.length];exact F.len _ _ _ _ q
 have j:=v s1 us b.kIn (by rw [List.append_nil];exact z)
 rw [List.append_nil] at j
 refine wpAny_call (codeAny_mono (F.run X.A X.stack s1 H1 ⟨us,[]⟩ us vs Q l (let ⟨a,ob,u,C,m,o⟩:=B;⟨a,ob,u,C,b.base.frzs a ob u m,o⟩) b.env0 j r q) fun r s' d=>?_)
 cases r with
 | error e=>exact False.elim d
 | ok fl =>
  cases fl with
  | ret u=>exact b.after d
  | next=>exact False.elim d
  | brk=>exact False.elim d
  | cont=>exact False.elim d
end
end L2
end
section
namespace L2
open PySem PySem.Spec PyProof.Rows
structure TurnL (P:Program) (w:World) (K:FG) (tg:Expr) (J:It) (fp:List Addr) (it:Addr) (tn:Nat->Heap->Prop):Prop where
 obj:∀ i h,tn i h->∀ b ∈ fp,∃ o,h.get? b=some o/\∀ v,o.data ≠ .cell v
 keep:∀ i h h',tn i h->(∀ b ∈ fp,∀ o,h.get? b=some o->h'.get? b=some o)->tn i h'
 item:∀ (X:Cx),X.prog=P->X.w=w->X.K=K->Hd X->∀ (i:Nat) (pins:List (Addr × Obj)) (s:Shared) (σ:St) (H:Hp) (E:Value->Shared->Prop),Inv X pins σ H s->(∀ b ∈ fp,FpOk X pins H b)->tn i s.heap->J.go i H ->
  wpAny (model P w) X.A (pyNext (.ref it)) (fun r s1=>∃ u,r=some u/\wpAny (model P w) X.A (letOwnedTupleGo tg (.ref it) u) (fun _ s2=>∃ x H',Inv X pins σ H' s2/\RelV x u/\J.yld i H x H'/\tn (i+1) s2.heap/\∀ b ∈ fp,H' b=none) E s1) E s
 done:∀ (X:Cx),X.prog=P->X.w=w->X.K=K->Hd X->∀ (i:Nat) (pins:List (Addr × Obj)) (s:Shared) (σ:St) (H:Hp) (E:Value->Shared->Prop),Inv X pins σ H s->(∀ b ∈ fp,FpOk X pins H b)->tn i s.heap->J.stop i H ->
  wpAny (model P w) X.A (pyNext (.ref it)) (fun r s1=>r=none/\Inv X pins σ H s1) E s
 self:∀ (A:Around) (i:Nat) (s:Shared) (Q:Value->Shared->Prop) (E:Value->Shared->Prop),tn i s.heap->Q (.ref it) s->wpAny (model P w) A (pyIter (.ref it)) Q E s
theorem oG {P:Program} {w:World} {K:FG} {tg:Expr} (it:Addr) (lo:Int) (n:Nat):TurnL P w K tg (Itr lo n) [it] it (fun i h=>IsRangeIter h it (lo+(i:Nat) * 1) ((n:Int) - (i:Nat)) 1) where
 obj:=(eC (P:=P) (w:=w) (K:=K) (tg:=tg) it lo n).obj
 keep:=(eC (P:=P) (w:=w) (K:=K) (tg:=tg) it lo n).keep
 item:=by
  intro X m hw p q i pins s σ H E I hf st c
  subst m hw p
  obtain ⟨f0,f1,f2,j,f4,l⟩:=hf it (by simp)
  have c:i < n:=c
  refine wpAny_pyNext_range_item st (by omega) fun h' d sb=>?_
  have f:IsRangeIter h' it (lo+((i+1:Nat):Int) * 1) ((n:Int) - ((i+1:Nat):Int)) 1:=by
   have e1:lo+((i+1:Nat):Int) * 1=lo+(i:Int) * 1+1:=by omega
   have z:(n:Int) - ((i+1:Nat):Int)=(n:Int) - (i:Int) - 1:=by omega
   rw [e1,z]
   exact d
  have x:Inv X pins σ H { s with heap:=h',toks:=s.toks+1 }:=I.turned (fun b o g e=>(sb.2 b g).trans e) f0 f1 j f4 l
  refine ⟨_,rfl,sG (s:={ s with heap:=h',toks:=s.toks+1 }) (n:="range_iterator") d rfl rfl (by decide) ⟨.int (lo+i),H,x,⟨s.toks,?_⟩,⟨rfl,rfl⟩,f,fun b g=>(hf b g).1⟩⟩
  rw [Int.mul_one]
 done:=by
  intro X m hw p q i pins s σ H E I hf st c
  subst m hw p
  obtain ⟨f0,f1,f2,j,f4,l⟩:=hf it (by simp)
  have c:n<=i:=c
  obtain ⟨a,ob,u,y,r,vs,v,t⟩:=q
  have A:=I.base.frzs a ob u r
  exact ug y ⟨ob,vs,(I.hok a _ A).1,v,t⟩ st (by omega) fun h' k=>⟨rfl,I.turned (t':=s.toks) (fun b o _ e=>k b o e) f0 f1 j f4 l⟩
 self:=(eC (P:=P) (w:=w) (K:=K) (tg:=tg) it lo n).self
def PIEL (X:Cx) (pins:List (Addr × Obj)) (σ:St) (tg:Expr) (R:It->Hp->Prop) (a:Value) (s2:Shared):Prop :=
 ∃ (it:Addr) (fp:List Addr) (c:Nat->Heap->Prop) (J:It) (H':Hp),a=.ref it/\Inv X pins σ H' s2/\TurnL X.prog X.w X.K tg J fp it c/\c 0 s2.heap/\(∀ b ∈ fp,FpOk X pins H' b)/\R J H'
def PIL (X:Cx) (tg iter:Expr) (a:TI):Prop :=
 ∀ (pins:List (Addr × Obj)) (s:Shared) (σ:St) (H:Hp) (R:It->Hp->Prop),Inv X pins σ H s->a σ H R ->
  wpAny (model X.prog X.w) X.A (eval iter X.env) (fun v s1=>wpAny (model X.prog X.w) X.A (pyIter v) (PIEL X pins σ tg R) X.xe s1) X.xe s
theorem PIL.imp {X:Cx} {tg e:Expr} {t t':TI} (h:PIL X tg e t) (f:∀ σ H R,t' σ H R->t σ H R):PIL X tg e t':=fun pins s σ H R I q=>h pins s σ H R I (f σ H R q)
section
variable {X:Cx} {tg:Expr}
theorem qF {a:Expr} {ta:TA} {p pos:Pos} (k:Gl X "range") (hm:X.mg "range"=none) (r:PA X [a] ta) (i:starEach [a] X.env=[(false,eval a X.env)]):PIL X tg (.Call (.Name "range" p) [a] [] pos) (xc ta):=by
 intro pins s σ H R I h
 refine Call_ (jr I k hm boot_range (PyProof.Rows.callWith_type1 (thn (r pos pins s σ H _ I h) fun us s1 ⟨vs,H1,m,f,c⟩=>?_) i rfl))
 obtain ⟨j,rfl,c,l,q⟩:=c
 obtain ⟨u,rfl,t,rfl⟩:=kh f
 refine call_range_1 ?_
 refine wpAny_pyIter_range (IsRange.new ..) (small_one (by omega) (by omega) c l) ?_
 generalize v:({ cls:=.type "range",data:=.fields #[_,_,_] }:Obj)=ro
 have d:Inv X pins σ H1 { s1 with heap:=s1.heap.push ro,toks:=s1.toks+1+1 }:=m.kept fun b o e=>C4 _ e
 refine ⟨_,[(s1.heap.push ro).objs.size],_,_,H1,rfl,d.kept (t':=s1.toks+1+1) fun b o e=>C4 _ e,oG _ 0 j.toNat,?_,fun b g=>?_,q⟩
 ·have e1:(0:Int)+((0:Nat):Int) * 1=0:=by simp
  have n:((j.toNat:Nat):Int) - ((0:Nat):Int)=Builtin.Range.rangeSize 0 j 1:=by rw [rangeSize_one];split <;> omega
  show IsRangeIter _ _ ((0:Int)+((0:Nat):Int) * 1) (((j.toNat:Nat):Int) - ((0:Nat):Int)) 1
  rw [e1,n]
  exact Dc _ rfl
 ·have e:b=(s1.heap.push ro).objs.size:=by simpa using g
  subst e
  exact d.fpOk (Dj _) (d.hok.fresh (Dj _))
end
section
variable {X:Cx}
theorem uQ {elt tg iter:Expr} {ifs:List Expr} {NY:List Str} {scope:Scope} {ix:List (Option Nat)} {pos:Pos} {pins:List (Addr × Obj)} {σ:St} {H:Hp} {s:Shared} {fp:List Addr} {it:Addr} {tn:Nat->Heap->Prop} {J:It} {g:TG} {tc:TT} {te:TE} {Z:List V->Hp->Prop} {E:Value->Shared->Prop}
  {RR:Value->Addr->Result->Shared->Prop} (c3:Hd X) (ck:CompOk scope X.N X.env.scope NY ix)
  (hg:∀ s H C fp,PG (am X NY scope s H C fp) tg g) (ht:∀ s H C fp,Hd (am X NY scope s H C fp)->PTs (am X NY scope s H C fp) ifs tc) (he:∀ s H C fp,Hd (am X NY scope s H C fp)->PE (am X NY scope s H C fp) elt te)
  (I:Inv X pins σ H s) (T:TurnL X.prog X.w X.K tg J fp it tn) (st:tn 0 s.heap) (f:∀ b ∈ fp,FpOk X pins H b) (hW:mK J g tc te Z (cap ix σ) H)
  (b4:∀ D C s' ys H' m,s'.heap.Ns C m->H' D=none->FpOk X pins (upd H' D (.lst ys)) C->Inv X pins σ (upd H' D (.lst ys)) s'->Z ys H'->RR (.ref D) C (.ok .next) s') :
  wpAny (model X.prog X.w) X.A (newList []) (fun acc s₃=>wpAny (model X.prog X.w) X.A (newFunctionEnv scope X.env.globals (clo X.env.cells scope.names) [] X.env.qual none .none (some X.env)) (fun M s₄ =>
   codeAny (model X.prog X.w) X.A (.compStart (.ListComp elt [⟨tg,iter,ifs,0⟩] scope pos) 0 (.ref it) acc { M with scope:=relabel scope X.env }) (RR acc M.locals) s₄) E s₃) E s:=by
 obtain ⟨W,⟨m0,w0⟩,turn⟩:=hW
 refine wpAny_newObj_type (wpAny_newFunctionEnv ck.nocell (by intro y hy;simp at hy) (fun h₁ B l=>?_) ck.kind)
 dsimp only at B l ⊢
 generalize U:s.heap.push { cls:=.type "list",dict:=none,data:=.seq ([]:List Value).toArray }=H2 at B l ⊢
 have ar:H2.objs.size=s.heap.objs.size+1:=by rw [<- U,DD]
 have G:s.heap.objs.size ≠ H2.objs.size:=by rw [ar];exact Dl (Nat.lt_succ_self _)
 have k:s.heap.objs.size<=H2.objs.size:=by rw [ar];exact Nat.le_succ _
 generalize P:s.heap.objs.size=D at *
 generalize hC:H2.objs.size=C at *
 have below:∀ b o,s.heap.get? b=some o->b < D:=fun b o e=>by rw [<- P];exact Da e
 have old:∀ b o,s.heap.get? b=some o->h₁.get? b=some o:=fun b o e=>l.extBut b o (Dl (Dq (below b o e) k)) (C4 _ (U ▸ C4 _ e))
 have S:H2.get? D=some { cls:=.type "list",dict:=none,data:=.seq ([]:List Value).toArray }:=by
  rw [<- U,<- P];exact Dc _ rfl
 have a6:h₁.PlainList D #[]:=⟨_,l.extBut _ _ G (C4 _ S)⟩
 have az:∀ b ∈ fp,b < s.heap.objs.size:=fun b j=>by
  obtain ⟨o,e,_⟩:=T.obj 0 _ st b j
  exact Da e
 have F:∀ b ∈ fp,b < D:=fun b j=>by rw [<- P];exact az b j
 have IY:Inv (am X NY scope s H C fp) [] (cap ix σ) H { s with heap:=h₁,toks:=s.toks+([]:List (Str × Value)).length } :=
  la ck I f (by rw [P];exact k) az rfl rfl old B
 have L:Hd (am X NY scope s H C fp):=let ⟨a,ob,u,d1,d2,d3⟩:=c3;⟨a,ob,u,d1,I.base.frzs a ob u d2,d3⟩
 have cv:H D=none:=I.hok.fresh (by rw [P];exact Dj _)
 have t:∀ b ∈ frs X.stack,b < D:=fun b j=>by
  obtain ⟨_,o,ho,_⟩:=I.stack.mem j
  exact below b o ho
 have loop:∀ s₃:Shared,s₃ = { s with heap:=h₁,toks:=s.toks+([]:List (Str × Value)).length } ->
   codeAny (model X.prog X.w) X.A (.compLoop (.ListComp elt [⟨tg,iter,ifs,0⟩] scope pos) 0 (.ref it) (.ref D) (am X NY scope s H C fp).env) (RR (.ref D) C) s₃:=by
  rintro s₃ rfl
  refine cZ (fun n s'=>∃ i ys τ H' h,Inv (am X NY scope s H C fp) [] τ H' s'/\H' D=none/\s'.heap.PlainList D h/\Vals ys h.toList/\tn i s'.heap/\(∀ b ∈ fp,H' b=none)/\W i n ys τ H') ?_ m0
   ⟨0,[],cap ix σ,H,#[],IY,cv,a6,.nil,T.keep _ _ _ st fun b _ o e=>old b o e,fun b j=>(f b j).1,w0⟩
  rintro n s3 ⟨i,ys,τ,H3,h,I3,d3,l3,v3,ae,ax,w3⟩
  obtain ⟨nl,e3⟩:=id l3
  have bt:Inv (am X NY scope s H C fp) [(D,{ cls:=.type "list",data:=.seq h nl })] τ H3 s3:=I3.pins_of fun p hp=>by
   have e:p=(D,{ cls:=.type "list",data:=.seq h nl }):=by simpa using hp
   subst e
   exact ⟨e3,d3,G,fun z=>Nat.lt_irrefl _ (t D z),fun v z=>by cases z⟩
  have Q:∀ {H':Hp} {pl:List (Addr × Obj)},(∀ b ∈ fp,H' b=none)->(∀ p ∈ pl,p.1=D)->∀ b ∈ fp,FpOk (am X NY scope s H C fp) pl H' b:=fun hn hp b j =>
   ⟨hn b j,Dl (Dq (F b j) k),fun z=>by
    rcases C8.mp (I.stkSub b z) with e | e
    ·exact (f b j).2.1 e
    ·exact (f b j).2.2.1 e,.inl j,fun x c e=>(f b j).2.2.2.2.1 x c (i6 e),fun p c0=>by
    have e:p.1=D:=hp p ((Db.mp c0).elim (fun z=>absurd (show p ∈ ([]:List (Addr × Obj)) from z) (by simp)) fun z=>z)
    rw [e]
    exact Nat.ne_of_gt (F b j)⟩
  obtain ⟨zl,step⟩:=turn i n ys τ H3 w3
  have single:∀ p ∈ [(D,({ cls:=.type "list",data:=.seq h nl }:Obj))],p.1=D:=fun p hp=>by
   have e:p=(D,{ cls:=.type "list",data:=.seq h nl }):=by simpa using hp
   rw [e]
  rcases step with ⟨stop,qn⟩ | ⟨go,N,hN,step⟩
  ·refine wpAny_mono (T.done (am X NY scope s H C fp) rfl rfl rfl L i _ s3 τ H3 (fun _ _=>False) bt (Q ax single) ae stop) (fun r s4 ⟨hr,Y⟩=>?_) fun _ _ e=>e
   subst hr
   obtain ⟨mC,cm,_⟩:=id Y.loc
   obtain ⟨e4,d4,_⟩:=Y.pin (D,{ cls:=.type "list",data:=.seq h nl }) (by simp [am])
   have b3:∀ b o,s.heap.get? b=some o->b ≠ D:=fun b o e=>Dl (below b o e)
   have R:=Y.base
   refine b4 D C s4 ys H3 mC cm d4 ?_ ?_ qn
   ·exact (I.fpOk (by rw [P];exact k) (by exact Y.free)).of_upd (Ne.symm G)
   ·refine I.call' (ch:=fp) Y.os (H':=upd H3 D (.lst ys)) ⟨R.keep,R.slot,fun b o e n hx=>?_,R.there,fun b xs e=>?_,fun b o u e=>?_,fun b ps e=>?_⟩ ?_ Y.bare fun b j=>?_
    ·rw [ao (b3 b o e)];exact R.free b o e n hx
    ·have q:=R.tups b xs e;rw [ao (aN q d4)];exact q
    ·have q:=R.frzs b o u e;rw [ao (aN q d4)];exact q
    ·obtain ⟨more,q⟩:=R.tbls b ps e;exact ⟨more,by rw [ao (aN q d4)];exact q⟩
    ·exact Y.hok.track d4 ⟨Nat.le_of_lt zl,h.toList,nl,v3,by simpa using e4⟩
    ·exact ⟨(f b j).2.2.2.1,(f b j).2.1,(f b j).2.2.2.2.1,(f b j).2.2.2.2.2⟩
  ·refine wpAny_mono (T.item (am X NY scope s H C fp) rfl rfl rfl L i _ s3 τ H3 (fun _ _=>False) bt (Q ax single) ae go) (fun r s4 ⟨u,hr,h4⟩=>?_) fun _ _ e=>e
   subst hr
   refine wpAny_mono h4 (fun _ s5 ⟨x,H5,I5,r5,y5,O,c4⟩=>?_) fun _ _ e=>e
   have cf:=I5.pinned (Q c4 single) (T.obj _ _ O)
   refine wpAny_mono (hg s H C fp _ s5 τ H5 x u _ cf r5 (step x H5 y5)) (fun _ s6 ⟨τ6,H6,I6,q6⟩=>?_) fun _ _ e=>e
   refine wpAny_mono (ht s H C fp L _ s6 τ6 H6 _ I6 q6) (fun b s7 ⟨H7,I7,q7⟩=>?_) fun _ _ e=>e
   have after:∀ {s':Shared} {H':Hp},Inv (am X NY scope s H C fp) ([(D,{ cls:=.type "list",data:=.seq h nl })] ++ jl fp s5.heap) τ6 H' s'->tn (i+1) s'.heap/\(∀ b ∈ fp,H' b=none)/\H' D=none/\s'.heap.PlainList D h:=fun {s' H'} I' =>
    ⟨T.keep _ _ _ O fun b j o e=>(I'.pin (b,o) (C7 _ (C7 _ (cQ j e)))).1,fun b j=>by
     obtain ⟨o,e,d⟩:=T.obj _ _ O b j
     exact (I'.pin (b,o) (C7 _ (C7 _ (cQ j e)))).2.1,(I'.pin (D,_) (C7 _ (C6 _ (Dy.mpr rfl)))).2.1,
     nl,(I'.pin (D,_) (C7 _ (C6 _ (Dy.mpr rfl)))).1⟩
   cases b with
   | false =>
    rw [if_neg Dk]
    rw [if_neg Dk] at q7
    obtain ⟨m',hm,w7⟩:=hN _ _ _ q7
    obtain ⟨a1,a2,a3,a4⟩:=after I7
    exact ⟨m',hm,i+1,ys,τ6,H7,h,I7.pins_of (fun _ z=>absurd z (by simp)),a3,a4,v3,a1,a2,w7⟩
   | true =>
    rw [if_pos rfl]
    rw [if_pos rfl] at q7
    refine wpAny_mono (he s H C fp L _ s7 τ6 H7 _ I7 q7) (fun y s8 ⟨yv,H8,I8,r8,n8⟩=>?_) fun _ _ e=>e
    obtain ⟨m',hm,w8⟩:=hN _ _ _ n8
    obtain ⟨a1,a2,a3,a4⟩:=after I8
    have c7:ys.length=h.size:=by simpa using v3.length
    have hsz:h.size<=sizeLine:=by omega
    refine wpAny_list_append_plain (hsz:=hsz) a4 fun h9 l9 a5=>?_
    have I9:Inv (am X NY scope s H C fp) [] τ6 H8 { s8 with heap:=h9,toks:=s8.toks }:=(I8.pins_of (pins':=[]) fun _ z=>absurd z (by simp)).turned (it:=D) (fun b o j e=>(a5.2 b j).trans e) a3 G (.inr (by show s.heap.objs.size<=D;rw [P];exact Dj _)) (fun x c e z=>?_) fun p z=>absurd (show p ∈ ([]:List (Addr × Obj)) from z) (by simp)
    ·refine ⟨m',hm,i+1,ys ++ [yv],τ6,H8,h.push y,I9,a3,l9,?_,T.keep _ _ _ a1 fun b j o e=>(a5.2 b (Dl (F b j))).trans e,a2,w8⟩
     rw [Array.toList_push]
     exact v3.append (.cons r8 .nil)
    ·obtain ⟨v,o,ho,_⟩:=I.cell x c (i6 e)
     exact Nat.lt_irrefl _ (z ▸ below c o ho)
 exact codeAny_compStart_list (loop _ rfl) (T.self X.A 0 _ _ _ (T.keep _ _ _ st fun b _ o e=>old b o e) (loop _ rfl))
theorem wv {elt tg iter:Expr} {ifs:List Expr} {scope:Scope} {pos:Pos} {f:TI} {g:TG} {tc:TT} {te:TE} (NY:List Str) (ix:List (Option Nat)) (d:Hd X) (hi:PIL X tg iter f)
  (r:∀ s H C fp,PG (am X NY scope s H C fp) tg g) (t:∀ s H C fp,Hd (am X NY scope s H C fp)->PTs (am X NY scope s H C fp) ifs tc) (he:∀ s H C fp,Hd (am X NY scope s H C fp)->PE (am X NY scope s H C fp) elt te)
  (a:dF scope X.N X.env.scope NY ix=true) (n:∀ x,foldedSetIterable iter X.env x=pure x:=by intro _;rfl):PE X (.ListComp elt [⟨tg,iter,ifs,0⟩] scope pos) (vj f g tc te ix):=by
 intro pins s σ H Q I h
 have a:=CompOk.of a
 rw [eval_ListComp]
 refine wpAny_comprehension_free (use:=none) rfl n (dG (scope:=scope) (env:=X.env) fun x m e=>?_) a.kind a.loc (thn (hi pins s σ H _ I h) fun v s1 h1=>thn h1 fun i s2 h2=>?_)
 ·rcases a.out x m e with q | q
  ·exact I.ok.has x.1 (.inl q)
  ·exact I.ok.has x.1 (.inr q)
 ·obtain ⟨it,fp,G,J,H2,e,F,T,c,f2,y⟩:=h2
  subst e
  refine uQ (RR:=fun acc C=>compPost (model X.prog X.w) X.A X.xe none (EP X pins σ Q) acc C) d a r t he F T c f2 y ?_
  intro D C s' ys H' m E B u j p
  obtain ⟨f0,f1,f2,l,f4,z⟩:=u
  exact ⟨m,E,fun h' sb=>⟨.ref D,_,j.turned (t':=s'.toks) (fun b o k e=>(sb.2 b k).trans e) f0 f1 l f4 z,rfl,p D B⟩⟩
end
end L2
end
section
namespace L2
open PySem PySem.W PySem.Spec PySem.Calls PyProof.Rows Builtin.Getset_descriptor
structure ExcAt (h:Heap) (x D:Addr):Prop where
 ex:∃ ox,h.get? x=some ox/\ox.cls=.ref D
section
variable {prog:Program} {w:World} {A:Around} {E:Value->Shared->Prop} {s:Shared} {K:FG} {x D:Addr}
theorem ExcAt.ty (p:ExcAt h x D):Looks M h (typeOf (.ref x)) (.ref D):=by
 obtain ⟨ox,e1,a⟩:=p.ex
 exact a ▸ (Looks.ld e1).andThen .now
theorem xl (k:ExcK K D) (X:K.In h):Looks M h (Builtin.ObjectAttr.find (.ref x) (.ref D) "__class__") (.bind (.builtin "getset_descriptor.__get__") (.builtin "object.__class__")):=by
 have c:=looks_findIn (M:=M) X k.ca
 have a:Looks M h (Builtin.ObjectAttr.getOf (some (.builtin "object.__class__"))) (some (.builtin "getset_descriptor.__get__")):=looks_specialIn X k.sp
 have b:Looks M h (Builtin.ObjectAttr.dataDescriptor? (some (.builtin "object.__class__")) (some (.builtin "getset_descriptor.__get__"))) (some (.builtin "getset_descriptor.__get__",.builtin "object.__class__")):=(looks_takesIn X k.tk).andThen .now
 exact c.andThen (a.andThen (b.andThen (Looks.tag .now)))
theorem zL (k:ExcK K D) (X:K.In s.heap) (p:ExcAt s.heap x D) (h:R (.ok (.ret (.ref D))) s):codeAny (model prog w) A (.call (.builtin "getset_descriptor.__get__") ⟨[.builtin "object.__class__",.ref x,tp],[]⟩) R s:=by
 obtain ⟨h0,c,d,t0,o0⟩:=s
 have b:=p.ty (M:=model prog w)
 have a:=looks_mroIn (M:=model prog w) X k.ob
 refine codeAny_call_builtin KF.slot_gs.plain KF.entry_gs (KF.slot_gs.check _ _ _ _ _ _ _ _ KF.type_class (KF.args_gs _ _ _) ?_)
 unfold Builtin.«getset_descriptor.__get__» descrGet
 rw [dga_obj]
 refine CY (CZ ?_)
 unfold descrGetter descrCheckInstance descrNameAndClass isInstance
 simp only [KF.owner_class]
 repeat lk
 refine ⟨Code.quiet_builtin _ (by decide +kernel),codeAny_builtin KF.entry_class ?_⟩
 unfold Builtin.«object.__class__» shownTypeOf
 repeat lk
 exact h
theorem uH (k:ExcK K D) (X:K.In s.heap) (p:ExcAt s.heap x D) (h:Q (.done (.ret (.ref D))) s) :
  wpAny (model prog w) A (Builtin.«object.__getattribute__» ⟨[.ref x,.str "__class__" tk],[]⟩) Q E s:=by
 obtain ⟨h0,c,d,t0,o0⟩:=s
 have b:=p.ty (M:=model prog w)
 have a:=xl (M:=model prog w) (x:=x) k X
 unfold Builtin.«object.__getattribute__» slotArgs
 repeat lk
 show wpAny _ _ (run (.call (.builtin "getset_descriptor.__get__") ⟨[.builtin "object.__class__",.ref x,.ref D],[]⟩)) _ _ _
 refine wpAny_run (zL k X p ?_)
 exact CZ (CZ h)
theorem mD (k:ExcK K D) (X:K.In s.heap) (p:ExcAt s.heap x D) (h:Q () s):wpAny (model prog w) A (checkBuiltinCall "BaseException.__getattribute__" ⟨[.ref x,v],[]⟩) Q E s:=by
 obtain ⟨h0,d,e,t0,o0⟩:=s
 have b:=p.ty (M:=model prog w)
 have a:=looks_mroIn (M:=model prog w) X k.be
 have b1:builtinKind "BaseException.__getattribute__"=some .slot:=by decide +kernel
 have b2:splitId "BaseException.__getattribute__"=some ("BaseException","__getattribute__"):=by decide +kernel
 have c:=F.args_bexc_ga (.ref x) v
 simp only [checkBuiltinCall,b1,b2]
 refine CY ?_
 unfold isInstance
 repeat lk
 exact h
theorem uI (k:ExcK K D) (X:K.In s.heap) (p:ExcAt s.heap x D) (h:Q (some (.ref D)) { s with toks:=s.toks+1 }):wpAny (model prog w) A (getAttr? (.ref x) "__class__") Q E s:=by
 obtain ⟨h0,e,f,t0,o0⟩:=s
 have d:=p.ty (M:=model prog w)
 have a:=looks_findIn (M:=model prog w) X k.ga
 have b:=looks_findIn (M:=model prog w) X k.gt
 have c:=F.excAttr_ValueError.ga.bind (.ref x)
 have ne:(onTheHeap (Value.ref D) && Value.builtin "BaseException.__getattribute__" == Value.builtin "object.__getattribute__")=false:=by
  rw [show (Value.builtin "BaseException.__getattribute__" == Value.builtin "object.__getattribute__")=false by decide +kernel];rfl
 unfold getAttr? getAttrBy? getAttrBy
 refine CY (wpAny_mkText (CY (wpAny_attempt (C0 (CY (d.at (CY (a.at ?_))))))))
 simp only [ne,Dz,if_false]
 unfold getAttrByItsOwn hookBefore
 rw [show onTheHeap (Value.ref D)=true from rfl,if_pos rfl]
 refine CY (b.at (CY (wpAny_attempt (C0 ?_))))
 unfold callGetattribute boundAndCalled
 rw [if_neg (by decide)]
 refine CY (wpAny_of_eq c ?_)
 refine wpAny_call (codeAny_call_builtin F.excAttr_ValueError.ga.plain F.entry_bexc_ga (mD k X p (uH k X p ?_)))
 exact handed_on rfl (CZ h)
theorem ExcK.isT (k:ExcK K D) (X:K.In h):∃ o cd,h.get? D=some o/\o.data=.cls cd:=by
 obtain ⟨cd,a⟩:=Option.isSome_iff_exists.mp k.cl
 unfold clsIn at a
 split at a
 ·rename_i b
  exact ⟨_,_,X _ _ b,rfl⟩
 ·cases a
theorem wR (k:ExcK K D):KitX K (.ref x) (.ref D) (fun h=>ExcAt h x D) where
 ty:=fun _ _ _ p=>p.ty
 it:=fun _ _ X _=>by
  obtain ⟨o,cd,e1,a⟩:=k.isT X
  intro l r q s1 k1 c
  unfold isType loadHead
  obtain ⟨m,od,g,i⟩:=o
  dsimp only at a
  subst a
  exact CY (wpAny_loadPart (k1 _ _ e1) (CZ c))
 ne:=fun h d dd e n sl X b=>by
  obtain ⟨o,cd,e1,a⟩:=k.isT X
  cases j:(Value.ref D == Value.ref d) with
  | false=>rfl
  | true =>
   have f:D=d:=Value.ref.inj (beq_iff_eq.mp j)
   rw [f,b] at e1
   cases e1
   cases a
 ca:=fun X p c=>uI k X p c
end
end L2
end
section
namespace L2
open PySem PySem.W PySem.Spec PySem.Calls PyProof.Rows
section
variable {prog:Program} {w:World} {A:Around} {E:Value->Shared->Prop} {h:Heap} {g:Array GenState} {d:Drawn} {t:Nat} {os:OsState} {K:Frag}
variable {nm q:Str} {C N fI:Addr} {bs bm:List Value} {hdct:Bool} {sn:List Str} {sub:List Value} {ab:Bool} {col:Option Bool} {dd:Option Addr} {k0 k1 k2 k3 k5:Option Value}
theorem tj {rest:List Value} {Q:Fin->Shared->Prop} (X:K.In h) (T:OwnTail h hV bm) (f:h.get? C=some (excClassObj nm q C N bs bm hdct sn sub ab col dd k0 k1 k2 k3 k5 "ValueError.__new__"))
  (hi:findIn K (.ref C) "__init__"=some (some (.ref fI))) (hf:typeIn K (.ref fI)=some (.type "function")) (c:rest.length<=sizeLine)
  (m:∀ h' e,h.objs.size<=h'.objs.size->Heap.MadeExcOf h h' e (.ref C) rest->wpAny (model prog w) A (call (.ref fI) (.ref e :: rest)) (fun r s'=>r=.none/\Q (.done (.ret (.ref e))) s') E ⟨h',g,d,t,os⟩) :
  wpAny (model prog w) A (Builtin.«type.__call__» ⟨.ref C :: rest,[]⟩) Q E ⟨h,g,d,t,os⟩:=by
 have FB:=PySem.F.excBase_ValueError
 repeat (first | with_reducible refine wpAny_loadPart_at f ?_ | with_reducible refine wpAny_madeBy_exc f ?_ | wp_step)
 refine codeAny_call_builtin_code (Code.quiet_builtin _ FB.quiet) (wpAny_check_new_subT FB T f (codeAny_exc_new_subT FB T f ?_ c))
 show wpAny _ _ _ _ _ _
 have k:∀ b o,h.get? b=some o->((h.push { cls:=.type "tuple",data:=.seq rest.toArray }).push { cls:=.ref C,data:=.fields #[.ref h.objs.size,.none,.none,.none,.bool false,.none] }).get? b=some o:=fun b o e=>C4 _ (C4 _ e)
 have a:((h.push { cls:=.type "tuple",data:=.seq rest.toArray }).push { cls:=.ref C,data:=.fields #[.ref h.objs.size,.none,.none,.none,.bool false,.none] }).get? (h.objs.size+1)=some { cls:=.ref C,data:=.fields #[.ref h.objs.size,.none,.none,.none,.bool false,.none] }:=by heap_get
 have i:(Value.ref C :: bm).contains (.ref C)=true:=by simp
 have j:=k _ _ f
 unfold isInstance
 repeat (first | with_reducible refine wpAny_loadPart_at a ?_ | (with_reducible refine wpAny_isSubtype_exc j ?_;rw [i]) | wp_step)
 show wpAny _ _ (typeLookup (.ref C) _) _ _ _
 refine looks_findIn X hi _ _ _ _ k ?_
 refine C0 (CY (bind_fn X _ hf _ _ _ _ k (CY (wpAny_mono (m _ (h.objs.size+1) (by rw [DD,DD];omega) ⟨k,Heap.get?_none_of_le (Nat.le_succ _),h.objs.size,a,Heap.get?_none_of_le (Dj _),C4 _ (Heap.get?_push_at rfl rfl)⟩) (fun r s' l=>?_) fun _ _ x=>x))))
 obtain ⟨rfl,n⟩:=l
 wp_walk
 exact n
theorem uV {rest:List Value} {Q:Value->Shared->Prop} (X:K.In h) (T:OwnTail h hV bm) (b:h.get? C=some (excClassObj nm q C N bs bm hdct sn sub ab col dd k0 k1 k2 k3 k5 "ValueError.__new__"))
  (hi:findIn K (.ref C) "__init__"=some (some (.ref fI))) (hf:typeIn K (.ref fI)=some (.type "function")) (a:rest.length<=sizeLine)
  (c:∀ h' e,h.objs.size<=h'.objs.size->Heap.MadeExcOf h h' e (.ref C) rest->wpAny (model prog w) (A.under (.builtin "type.__call__" ⟨.ref C :: rest,[]⟩)) (call (.ref fI) (.ref e :: rest)) (fun r s'=>r=.none/\Q (.ref e) s') E ⟨h',g,d,t,os⟩) :
  wpAny (model prog w) A (call (.ref C) rest) Q E ⟨h,g,d,t,os⟩:=by
 have f1:=tc_lookup
 have f2:=tc_bind (.ref C)
 have f:(⟨h,g,d,t,os⟩:Shared).TypeIs (.ref C) "type":=⟨_,b,rfl⟩
 refine wpAny_call (codeAny_of_tree ?_)
 show wpAny _ _ (callAny (.ref C) _) _ _ _
 repeat (any_goals (first | assumption | with_reducible refine wpAny_loadPart_at b ?_ | wp_step))
 exact ⟨rfl,codeAny_call_builtin_at (Code.quiet_builtin _ (by decide +kernel)) entry_typeCall (wpAny_check_type_call_sub b (tj X T b hi hf a c))⟩
end
theorem md (self:Value):∀ {l:List Value},sh l=true->refuseLoop self "__setattr__" l=pure ()/\l.contains (.type "object")=true/\l.isEmpty=false
 | .ref c :: r,e=>by
  obtain ⟨h1,h2,h3⟩:=md self (l:=r) e
  exact ⟨by rw [refuseLoop_ref];exact h1,by rw [List.contains_cons,h2,Bool.or_true],rfl⟩
 | [],e=>by cases e
 | .none :: r,e=>by cases eq_of_beq (show (_ == hV)=true from e)
 | .bool _ :: r,e=>by cases eq_of_beq (show (_ == hV)=true from e)
 | .int .. :: r,e=>by cases eq_of_beq (show (_ == hV)=true from e)
 | .float .. :: r,e=>by cases eq_of_beq (show (_ == hV)=true from e)
 | .str .. :: r,e=>by cases eq_of_beq (show (_ == hV)=true from e)
 | .bytes .. :: r,e=>by cases eq_of_beq (show (_ == hV)=true from e)
 | .builtin _ :: r,e=>by cases eq_of_beq (show (_ == hV)=true from e)
 | .type _ :: r,e=>by
  rw [eq_of_beq (show (_ == hV)=true from e)]
  exact ⟨PySem.F.store_ValueError.passes self,PySem.F.store_ValueError.hasOwner,rfl⟩
structure IniK (K:Frag) (C:Addr) (n:Str):Prop where
 sa:findIn K (.ref C) "__setattr__"=some (some (.builtin "object.__setattr__"))
 ov:(clsIn K C).any (fun cd=>sh cd.mro && cd.hasDict)=true
 no:findIn K (.ref C) n=some none
section
variable {prog:Program} {w:World} {A:Around} {E:Value->Shared->Prop} {s:Shared} {K:Frag} {C x:Addr} {n:Str} {ox:Obj} {vs:Array Value} {v:Value}
theorem yx {Q:Unit->Shared->Prop} (X:K.In s.heap) (k:IniK K C n) (p:s.heap.get? x=some ox) (L:ox.cls=.ref C) (hd:ox.dict=none) (M:ox.data=.fields vs)
  (q:∀ h' od tk,(∀ b o,b ≠ x->s.heap.get? b=some o->h'.get? b=some o)->h'.get? x=some { ox with dict:=some s.heap.objs.size }->h'.get? s.heap.objs.size=some od->lookIn n od=some (some v)->Q () { s with heap:=h',toks:=tk }) :
  wpAny (model prog w) A (setAttr (.ref x) n v) Q E s:=by
 obtain ⟨oc,V,N,d⟩:=ox
 dsimp only at L hd M
 subst L hd M
 have I:PySem.W.InstAt s.heap x ⟨.ref C,none,.fields vs,d⟩ C none:=⟨p,rfl,rfl,trivial⟩
 have l:=PySem.F.store_object
 obtain ⟨cd,a,g⟩:=any_some k.ov
 obtain ⟨g,t⟩:=Bool.and_eq_true_iff.mp g
 obtain ⟨u,G,z⟩:=md (.ref x) g
 have c:Looks (model prog w) s.heap (typeOf (.ref x)) (.ref C):=I.type
 refine set_plain X I k.sa ?_
 have sub:Looks (model prog w) s.heap (isInstance (.ref x) (.type "object")) true:=c.andThen (looks_mroIn X (by unfold mroIn;rw [a,Option.bind_some,if_neg (by rw [z];decide),G]))
 refine codeAny_call_builtin l.slot.plain l.entry (@check_slot (model prog w) _ _ { s with toks:=s.toks+1 } "object.__setattr__" "object" "__setattr__" (.ref x) [.str n s.toks,v] [] _ l.kind l.split sub (l.args (.ref x) (.str n s.toks) v) ?_)
 rw [osa_eq,refuse_eq]
 refine CY (CY (c _ _ _ _ (fun _ _ e=>e) (CY (((looks_clsIn X a).andThen .now:Looks (model prog w) s.heap (mroOf (.ref C)) cd.mro) _ _ _ _ (fun _ _ e=>e) ?_))))
 rw [u]
 refine CZ (CY (c _ _ _ _ (fun _ _ e=>e) (CY (looks_findIn X k.no _ _ _ _ (fun _ _ e=>e) (CY (CZ ?_))))))
 dsimp only
 have i:(s.heap.push { cls:=.type "dict",data:=.dict #[] }).get? x=some ⟨.ref C,none,.fields vs,d⟩:=C4 _ p
 have j:x ≠ s.heap.objs.size:=Dl (Da p)
 refine CY (CZ (CY (CY (wpAny_loadPart p (CY (looks_clsIn X a _ _ _ _ (fun _ _ e=>e) ?_))))))
 rw [t]
 refine CY (wpAny_alloc ?_)
 refine CY (wpAny_update i ?_)
 refine CZ ?_
 have B:((s.heap.push { cls:=.type "dict",data:=.dict #[] }).update x fun o=>{ o with dict:=some s.heap.objs.size }).get? s.heap.objs.size=some { cls:=.type "dict",data:=.dict #[] }:=(Heap.get?_update_ne _ _ _ _ j.symm).trans (Heap.get?_push_at rfl rfl)
 have y:((s.heap.push { cls:=.type "dict",data:=.dict #[] }).update x fun o=>{ o with dict:=some s.heap.objs.size }).get? x=some ⟨.ref C,some s.heap.objs.size,.fields vs,d⟩:=Ds _ i rfl
 have H:((s.heap.push { cls:=.type "dict",data:=.dict #[] }).update x fun o=>{ o with dict:=some s.heap.objs.size }).Ns s.heap.objs.size (fun _=>none):=⟨_,#[],_,B,rfl,fun e he=>absurd he (by simp),fun _=>rfl⟩
 refine CY (CZ (CY (wpAny_nsSet1 (Heap.Ns1.of_empty H) fun h' m J=>?_)))
 obtain ⟨R,U,S,f,D,r⟩:=m.count (Within.cons n v Within.nil)
 refine CY (wpAny_lookBehind f (by rw [D];exact pastItsLine_dict (DF r (by rw [Du,List.length_nil,sizeLine_eq];omega))) ?_)
 refine CZ ?_
 refine q h' R _ (fun b o O e=>?_) ((J.2 x j).trans y) f ?_
 ·exact (J.2 b (Dl (Da e))).trans ((Heap.get?_update_ne _ _ _ _ O).trans (C4 _ e))
 ·obtain ⟨o',es,Z,e1,Y,e3,eu,h⟩:=m
  rw [f] at e1
  cases e1
  have h:=h n
  unfold nsFind findBy at h
  dsimp only at h
  rw [if_pos rfl,<- Array.find?_toList] at h
  obtain ⟨en,P,T⟩:=C5.mp h
  unfold lookIn
  rw [Y]
  dsimp only
  rw [P]
  dsimp only
  rw [T]
theorem uB {R:Value->Shared->Prop} {fI:Addr} {st:Stmt} {F p2 H N:Pos} {J:Value} {od an:Option Addr} {u:Array (Option Value)} {qual:Str} {kV doc pm c ct:Value} (X:K.In s.heap) (lim:s.heap.NoLimit) (k:IniK K C n)
  (L:K.lookup fI=some ⟨J,od,.func (fnOf "__init__" qual (aF st) (au st) (af st) .none kV doc pm an c ct),u⟩) (l:codeIn K c qual=true) (S:FnScope [("self":Str),n] [("self":Str),n] (af st)) (f:(af st).names.lookup ("self":Str)=some .local/\(af st).names.lookup n=some .local) (O:n ≠ ("self":Str)) (p:(n == ("__debug__":Str))=false)
  (r:bindArgs (fnOf "__init__" qual (aF st) (au st) (af st) .none kV doc pm an c ct) ⟨[.ref x,v],[]⟩=pure [(("self":Str),.ref x),(n,v)]) (i:au st=[.Assign [.Attribute (.Name "self" F) n p2] (.Name n H) N]) (h:A.depth < recursionLimit)
  (D:s.heap.get? x=some ox) (I:ox.cls=.ref C) (hd:ox.dict=none) (M:ox.data=.fields vs)
  (q:∀ h' d od tk,s.heap.objs.size<=d->(∀ b o,b ≠ x->s.heap.get? b=some o->h'.get? b=some o)->h'.get? x=some { ox with dict:=some d }->h'.get? d=some od->lookIn n od=some (some v)->R .none { s with heap:=h',toks:=tk }) :
  wpAny (model prog w) A (call (.ref fI) [.ref x,v]) R E s:=by
 have ne:s.heap.objs.size ≠ x:=Nat.ne_of_gt (Da D)
 refine wpAny_call (Att.call_fn X lim L l h (.of_eq r) (by simp [f.1,f.2]) (fun s1 y=>?_) S.co S.gen S.kind)
 rw [i]
 obtain ⟨⟨B,tk,rfl⟩,g,a,m⟩:=y.toInCall
 have G:K.In B:=X.keeps a
 have j:∀ z,(af st).names.lookup z=some .local->(envOfC qual (af st) s.heap.objs.size fI c).kindOf z=some .local:=fun z hz=>hz
 refine wpAny_execs_cons ?_
 refine plainObj_wpAny_Assign_Attribute (wpAny_Name (wpAny_loadName_local (v:=v) S.kind (j n f.2) g ?_ (wpAny_Name (wpAny_loadName_local (v:=.ref x) S.kind (j ("self":Str) f.1) g ?_ ?_))) p) ?_
 ·simp [bindL,j n f.2]
 ·simp [bindL,j _ f.1,j n f.2,Ne.symm O]
 ·refine yx G k (a _ _ D) I hd M fun h' od tk t h1 h2 h3=>?_
  exact wpAny_execs_nil (q h' B.objs.size od tk (Nat.le_of_lt (Nat.lt_of_le_of_lt m g.lt)) (fun b o r e=>t b o r (a b o e)) h1 h2 h3)
 ·rfl
end
theorem re {K:Frag} {h:Heap} {C:Addr} (X:K.In h) (q:nV K C=true) :
  ∃ bm N nm c bs hdct sn sub ab col dd k0 k1 k2 k3 k5,h.get? C=some (excClassObj nm c C N bs bm hdct sn sub ab col dd k0 k1 k2 k3 k5 "ValueError.__new__")/\OwnTail h hV bm:=by
 unfold nV at q
 split at q
 ·rename_i dd cd sl f
  split at q
  ·rename_i g bm k0 k1 k2 k3 n k5 hm d
   simp only [Bool.and_eq_true,beq_iff_eq,Bool.not_eq_true'] at q
   obtain ⟨hok,b,a,rfl,rfl⟩:=q
   obtain ⟨nm,bs,mro,ns,c,hd,sn,sub,ab,col,del⟩:=cd
   dsimp only at hm a hok b
   subst hm a
   obtain ⟨l⟩:=sl
   have e:l=[k0,k1,k2,k3,some (.builtin "ValueError.__new__"),k5]:=d
   subst e
   exact ⟨bm,ns,nm,c,bs,hd,sn,sub,ab,col,dd,k0,k1,k2,k3,k5,X _ _ f,tail_of_in X b⟩
  ·cases q
 ·cases q
end L2
end
section
namespace L2
open PySem PySem.W PySem.Spec PySem.Calls PyProof.Rows
abbrev CA (C t:Addr) (da:Option Addr):Obj:={ cls:=.ref C,dict:=da,data:=.fields #[.ref t,.none,.none,.none,.bool false,.none] }
section
variable {M:Model} {A:Around} {E:Value->Shared->Prop} {env:Env}
variable {nm q:Str} {C N:Addr} {bs bm:List Value} {hdct:Bool} {sn:List Str} {sub:List Value} {ab:Bool} {col:Option Bool} {dd:Option Addr} {k0 k1 k2 k3 k5:Option Value} {nid:String}
theorem qA {s:Shared} {x:Sem Value} {Q:Flow->Shared->Prop} (a:bm.contains (.type "BaseException")=true) (i:A.handled=none)
  (h:wpAny M A x (fun v s1=>∃ e t da,v=.ref e/\s1.heap.get? C=some (excClassObj nm q C N bs bm hdct sn sub ab col dd k0 k1 k2 k3 k5 nid)/\s1.heap.get? e=some (CA C t da)/\E (.ref e) s1) E s):wpAny M A (raiseStmt env (some x) none) Q E s:=by
 have b:(Value.ref C :: bm).contains (.type "BaseException")=true:=by rw [List.contains_cons,a,Bool.or_true]
 unfold raiseStmt
 refine CY (wpAny_mono h (fun v s1 h1=>?_) fun _ _ x=>x)
 obtain ⟨e,t,da,rfl,c,he,f⟩:=h1
 obtain ⟨j,g,d,tk,os⟩:=s1
 repeat (first | with_reducible refine wpAny_loadPart_at he ?_ | with_reducible refine wpAny_loadPart_at c ?_ | (with_reducible refine wpAny_isSubtype_exc c ?_;rw [b]) | wp_step)
 exact wpAny_raiseNew_none i f
end
structure ICls (K:Frag) (mg:Str->Option Value) (x:Str) (C:Addr) (n:Str):Prop where
 bound:mg x=some (.ref C)
 ok:nV K C=true
 ik:IniK K C n
 fn:∃ (fI:Addr) (st:Stmt) (p1 p2 p3 p4:Pos) (od an:Option Addr) (osl:Array (Option Value)) (qual:Str) (kV doc pm cdv ct:Value),findIn K (.ref C) "__init__"=some (some (.ref fI))/\K.lookup fI=some ⟨.type "function",od,.func (fnOf "__init__" qual (aF st) (au st) (af st) .none kV doc pm an cdv ct),osl⟩/\codeIn K cdv qual=true /\
  FnScope [("self":Str),n] [("self":Str),n] (af st)/\(af st).names.lookup ("self":Str)=some .local/\(af st).names.lookup n=some .local/\au st=[.Assign [.Attribute (.Name "self" p1) n p2] (.Name n p3) p4] /\
  ∀ x v,bindArgs (fnOf "__init__" qual (aF st) (au st) (af st) .none kV doc pm an cdv ct) ⟨[x,v],[]⟩=pure [(("self":Str),x),(n,v)]
 nn:n ≠ ("self":Str)/\(n == ("__debug__":Str))=false
section
variable {X:Cx} {x n:Str} {C:Addr} {np cpos pos:Pos} {e:Expr} {ta:TA} {k:Nat}
def rH (n:Str) (a:St->Hp->Addr->Prop) (ta:TA):TS:=fun _ σ H=>ta σ H fun vs H1=>∃ v,vs=[v]/\∀ d od u,H1 d=none->RelV v u->lookIn n od=some (some u)->a σ (upd H1 d (dE od d od.cls)) d
theorem tZ (c:ICls X.K X.mg x C n) (hc:X.calm=true) (R:Room k X.A) (Z:Gl X x) (hd:(x == ("__debug__":Str))=false) (ha:PA X [e] ta) (L:St->Hp->Addr->Prop)
  (hx:∀ (pins:List (Addr × Obj)) (σ:St) (H:Hp) (s:Shared) (a t d:Addr),Inv X pins σ H s->L σ H d->s.heap.get? a=some (CA C t (some d))->X.s₀.heap.get? a=none->H a=none->X.xe (.ref a) s)
  (he:starEach [e] X.env=[(false,eval e X.env)]) (hex:X.ex=[]):PS X (.Raise (some (.Call (.Name x np) [e] [] cpos)) none pos) (rH n L ta):=by
 intro pins s σ H D I h
 obtain ⟨fI,st,p1,p2,p3,p4,od,an,ax,qual,kV,doc,pm,ar,ct,hi,M,p,S,l1,l2,m,r⟩:=c.fn
 have FB:=PySem.F.excBase_ValueError
 obtain ⟨bm,N,nm,V,bs,hdct,sn,sub,ab,col,dd,k0,k1,k2,k3,k5,hC,T⟩:=re I.mod.kin c.ok
 rw [arm_exec_Raise]
 refine CY (wpAny_standAt (qA (C:=C) (nm:=nm) (q:=V) (N:=N) (bs:=bs) (bm:=bm) (hdct:=hdct) (sn:=sn) (sub:=sub) (ab:=ab) (col:=col) (dd:=dd) (k0:=k0) (k1:=k1) (k2:=k2) (k3:=k3) (k5:=k5) (nid:="ValueError.__new__") (T.hasType FB.hasBase) (I.ok.hd hc) (CY (wpAny_mono (wpAny_Call_ofName (eT I Z c.bound ?_ hd)) (fun v s3 h3=>CY (wpAny_standAt (CZ h3))) fun _ _ x=>x))))
 have h1:=ha cpos pins s σ H _ I h
 rw [he] at h1 ⊢
 unfold callWith
 refine CY (C0 (Calls.evalArgs_plain (wpAny_mono h1 (fun us s1 ⟨vs,H1,i,U,v,hv,j⟩=>CY (wpAny_standAt ?_)) fun _ _ y=>y)))
 subst hv
 obtain ⟨u,rfl,ru⟩:=kh U
 have B:(backTo cpos [(false,eval e X.env)]).any (·.1)=false:=rfl
 simp only [B]
 have f:=i.bk _ _ hC
 have T1:OwnTail s1.heap hV bm:=T.keeps i.bk
 have G:X.K.In s1.heap:=i.kIn
 obtain ⟨E,g,dr,tk,os⟩:=s1
 refine CY (wpAny_keeperOf_exc f ?_)
 refine CY (uV G T1 f hi (by show (X.K.lookup fI).map (·.cls)=_;rw [M];rfl) (by rw [sizeLine_eq];simp) fun h' a hsz hm=>?_)
 obtain ⟨t,O,W,ae⟩:=hm.there
 have Q:X.K.In h':=G.keeps hm.keeps
 have lim:h'.NoLimit:=(i.mod.nolimit.keeps i.bk).keeps hm.keeps
 refine uB Q lim c.ik M p S ⟨l1,l2⟩ c.nn.1 c.nn.2 (r _ _) m (by have:=R.dp;show X.A.depth+1 < recursionLimit;omega) O rfl rfl rfl fun h2 d od l hd2 k2 P w e4=>⟨rfl,?_⟩
 refine CY (C0 (wpAny_point (CZ ⟨a,t,some d,rfl,?_,P,?_⟩)))
 ·exact k2 C _ (fun z=>by have:=hm.new;rw [<- z,f] at this;cases this) (hm.keeps _ _ f)
 ·have Y:∀ b o,E.get? b=some o->h2.get? b=some o:=fun b o e=>k2 b o (fun z=>by have:=hm.new;rw [<- z,e] at this;cases this) (hm.keeps b o e)
  have hle:E.objs.size<=d:=DF hsz hd2
  have J:=i.laid (h':=h2) (a:=d) (o:=dE od d od.cls) (t':=l) Y hle ⟨w,⟨od,w,rfl⟩,⟨od,w⟩,fun h1 h2 ⟨o,j,q2⟩ k=>⟨o,k o j,q2⟩⟩
  obtain ⟨n0,nH⟩:=i.newAt hex hm.new
  exact hx pins σ _ _ a t d J (j d od u (i.hok.fresh hle) ru e4) P n0 (by rw [ao (Dl (Dq (Da O) hd2))];exact nH)
end
end L2
end
section
namespace L2
open PySem PySem.W PySem.Spec PySem.Calls PyProof.Rows Builtin.Getset_descriptor
section
variable {prog:Program} {w:World} {A:Around} {E:Value->Shared->Prop} {s:Shared} {K:FG} {x D:Addr} {n:Str} {ox od:Obj} {v:Value}
theorem rB {tk:Tok} {Q:Fin->Shared->Prop} (X:K.In s.heap) (I:PySem.W.InstAt s.heap x ox D (some od)) (hf:findObj K D (some od) n=some (.value v)) (h:Q (.done (.ret v)) s) :
  wpAny (model prog w) A (Builtin.«object.__getattribute__» ⟨[.ref x,.str n tk],[]⟩) Q E s:=by
 obtain ⟨h0,c,d,t0,o0⟩:=s
 have b:=I.type (M:=model prog w)
 have a:=looks_find (M:=model prog w) X I hf
 unfold Builtin.«object.__getattribute__» slotArgs
 repeat lk
 exact h
theorem xN {Q:Value->Shared->Prop} {b:Bool} (k:ExcK K D) (X:K.In s.heap) (I:PySem.W.InstAt s.heap x ox D (some od)) (hf:findObj K D (some od) n=some (.value v)) (e:handedIn v=true) (h:Q v { s with toks:=s.toks+1 }):wpAny (model prog w) A (getAttr (.ref x) n b) Q E s:=by
 have p:ExcAt s.heap x D:=⟨ox,I.at_,I.cls⟩
 obtain ⟨h0,g,i,t0,o0⟩:=s
 have a:=p.ty (M:=model prog w)
 have c:=looks_findIn (M:=model prog w) X k.ga
 have d:=looks_findIn (M:=model prog w) X k.gt
 have f:=F.excAttr_ValueError.ga.bind (.ref x)
 have ne:(onTheHeap (Value.ref D) && Value.builtin "BaseException.__getattribute__" == Value.builtin "object.__getattribute__")=false:=by
  rw [show (Value.builtin "BaseException.__getattribute__" == Value.builtin "object.__getattribute__")=false by decide +kernel];rfl
 unfold getAttr getAttrBy
 refine CY (wpAny_mkText (C0 (CY (a.at (CY (c.at ?_))))))
 simp only [ne,Dz,if_false]
 unfold getAttrByItsOwn hookBefore
 rw [show onTheHeap (Value.ref D)=true from rfl,if_pos rfl]
 refine CY (d.at (CY (wpAny_attempt (C0 ?_))))
 unfold callGetattribute boundAndCalled
 rw [if_neg (by cases b <;> decide)]
 refine CY (wpAny_of_eq f ?_)
 refine wpAny_call (codeAny_call_builtin F.excAttr_ValueError.ga.plain F.entry_bexc_ga (mD k X p (rB X I hf ?_)))
 show wpAny _ _ (handedOut v) _ _ _
 rw [handedOut_of e]
 exact CZ h
end
end L2
end
section
namespace L2
open PySem PySem.Spec PyProof.Rows
end L2
end
section
namespace L2
open PySem PySem.Spec PyProof.Rows
end L2
end
section
namespace L3
open PySem L2
theorem nsE {α:Type} {p:α} {P:Prop} (e:(none:Option α)=some p):P:=nomatch e
inductive D where
 | non | bl (b:Bool) | int (i:Int) | str (x:Str)
 | tup (xs:List D) | lst (xs:List D) | fls (xs:List D) | dk (kvs:List (Key × D)) | dt (kvs:List (List Key × D))
 | exc (c:String) (fs:List (String × D))
def iW:D->Bool
 | .lst _=>true
 | .dk _=>true
 | .dt _=>true
 | _=>false
def FzL (K:FG) (H:Hp) (a:Addr) (vs:List V):Prop:=(∃ o,H a=some (.frz o (.lst vs)))\/∃ (o:Obj) (b:Array Value) (n:Nat),K.lookup a=some o/\o.cls=.type "list"/\o.dict=none/\o.data=.seq b n/\b.size<=sizeLine/\Vals vs b.toList
theorem FzL.sq (h:FzL K H a vs):SqL K H a vs:=h.elim (fun ⟨o,e⟩=>.inl (.inr ⟨o,e⟩)) .inr
inductive Reps (R:D->V->List Addr->Prop):List D->List V->List Addr->Prop where
 | nil:Reps R [] [] []
 | cons {d v L ds vs L'}:R d v L->Reps R ds vs L'->Reps R (d :: ds) (v :: vs) (L ++ L')
inductive Rep (K:FG) (H:Hp):D->V->List Addr->Prop where
 | non:Rep K H .non .non []
 | bl (b:Bool):Rep K H (.bl b) (.bl b) []
 | int (i:Int):Rep K H (.int i) (.int i) []
 | str (x:Str):Rep K H (.str x) (.str x) []
 | tup {xs a vs L}:H a=some (.tup vs)->Reps (Rep K H) xs vs L->Rep K H (.tup xs) (.ref a) L
 | lst {xs a vs L}:H a=some (.lst vs)->Reps (Rep K H) xs vs L->Rep K H (.lst xs) (.ref a) (a :: L)
 | lstF {xs a vs L}:FzL K H a vs->Reps (Rep K H) xs vs L->Rep K H (.fls xs) (.ref a) L
 | dK {kvs a ps L}:H a=some (.dK ps)->kvs.map (·.1)=ps.map (·.1)->Reps (Rep K H) (kvs.map (·.2)) (ps.map (·.2)) L->Rep K H (.dk kvs) (.ref a) (a :: L)
 | dT {kvs a ps L}:H a=some (.dT ps)->kvs.map (·.1)=ps.map (·.1)->Reps (Rep K H) (kvs.map (·.2)) (ps.map (·.2)) L->Rep K H (.dt kvs) (.ref a) (a :: L)
 | exc {c a D ob}:XName K c D->H a=some (dE ob a (.ref D))->Rep K H (.exc c []) (.ref a) []
 | excV {c a D ob n x v d od u}:XName K c D->H a=some (dE ob a (.ref D))->ob.dict=some d->H d=some (dE od d od.cls)->PySem.W.lookIn (Str.ofString n) od=some (some u)->RelV v u->PySem.W.notCls ob=true->Rep K H x v []->Rep K H (.exc c [(n,x)]) (.ref a) []
def PayX (K:FG) (H:Hp) (da:Option Addr):List (String × D)->Prop
 | []=>True
 | [(n,x)]=>∃ v d od u,da=some d/\H d=some (dE od d od.cls)/\PySem.W.lookIn (Str.ofString n) od=some (some u)/\RelV v u/\Rep K H x v []
 | _=>False
def RepV (K:FG) (H:Hp) (d:D) (v:V) (L:List Addr):Prop:=match d with
 | .non=>v=.non/\L=[]
 | .bl b=>v=.bl b/\L=[]
 | .int i=>v=.int i/\L=[]
 | .str x=>v=.str x/\L=[]
 | .tup xs=>∃ a vs,v=.ref a/\H a=some (.tup vs)/\Reps (Rep K H) xs vs L
 | .lst xs=>∃ a vs L',v=.ref a/\L=a :: L'/\H a=some (.lst vs)/\Reps (Rep K H) xs vs L'
 | .fls xs=>∃ a vs,v=.ref a/\FzL K H a vs/\Reps (Rep K H) xs vs L
 | .dk kvs=>∃ a ps L',v=.ref a/\L=a :: L'/\H a=some (.dK ps)/\kvs.map (·.1)=ps.map (·.1)/\Reps (Rep K H) (kvs.map (·.2)) (ps.map (·.2)) L'
 | .dt kvs=>∃ a ps L',v=.ref a/\L=a :: L'/\H a=some (.dT ps)/\kvs.map (·.1)=ps.map (·.1)/\Reps (Rep K H) (kvs.map (·.2)) (ps.map (·.2)) L'
 | .exc c fs=>L=[]/\∃ a D ob,v=.ref a/\XName K c D/\H a=some (dE ob a (.ref D))/\PayX K H ob.dict fs/\(fs ≠ []->PySem.W.notCls ob=true)
theorem Rep.view (r:Rep K H d v L):RepV K H d v L:=by
 cases r with
 | non=>exact ⟨rfl,rfl⟩
 | bl b=>exact ⟨rfl,rfl⟩
 | int i=>exact ⟨rfl,rfl⟩
 | str x=>exact ⟨rfl,rfl⟩
 | tup h r=>exact ⟨_,_,rfl,h,r⟩
 | lst h r=>exact ⟨_,_,_,rfl,rfl,h,r⟩
 | lstF h r=>exact ⟨_,_,rfl,h,r⟩
 | dK h k r=>exact ⟨_,_,_,rfl,rfl,h,k,r⟩
 | dT h k r=>exact ⟨_,_,_,rfl,rfl,h,k,r⟩
 | exc n h=>exact ⟨rfl,_,_,_,rfl,n,h,trivial,fun z=>absurd rfl z⟩
 | excV n h1 h2 h3 h4 h5 h7 h6=>exact ⟨rfl,_,_,_,rfl,n,h1,⟨_,_,_,_,h2,h3,h4,h5,h6⟩,fun _=>h7⟩
def MutAt (H:Hp) (b:Addr):Prop:=(∃ xs,H b=some (.lst xs))\/(∃ ps,H b=some (.dK ps))\/∃ ps,H b=some (.dT ps)
theorem MutAt.ex (m:MutAt H b):∃ o,H b=some o:=by
 rcases m with ⟨_,h⟩ | ⟨_,h⟩ | ⟨_,h⟩ <;> exact ⟨_,h⟩
theorem MutAt.notup (m:MutAt H b) (h:H b=some (.tup vs)):False:=by
 rcases m with ⟨_,e⟩ | ⟨_,e⟩ | ⟨_,e⟩ <;> rw [e] at h <;> cases h
theorem MutAt.nofrz (m:MutAt H b) (h:H b=some (.frz o u)):False:=by
 rcases m with ⟨_,e⟩ | ⟨_,e⟩ | ⟨_,e⟩ <;> rw [e] at h <;> cases h
theorem FzL.keep {M:Addr->Prop} (h:FzL K H a vs) (k:∀ b o,H b=some o->¬ M b->H' b=some o) (hm:∀ b,M b->MutAt H b):FzL K H' a vs:=h.elim (fun ⟨o,e⟩=>.inl ⟨o,k a _ e fun z=>(hm a z).nofrz e⟩) .inr
section
variable {K:FG} {H H':Hp} {d:D} {v:V} {L:List Addr}
theorem Rep.inH (r:Rep K H d v L):∀ b ∈ L,MutAt H b:=by
 refine Rep.rec (motive_1:=fun _ _ L _=>∀ b ∈ L,MutAt H b) (motive_2:=fun _ _ L _=>∀ b ∈ L,MutAt H b) ?_ ?_ ?_ ?_ ?_ ?_ ?_ ?_ ?_ ?_ ?_ ?_ ?_ r
 ·intro b a;cases a
 ·intro _ b a;cases a
 ·intro _ b a;cases a
 ·intro _ b a;cases a
 ·intro _ _ _ _ _ _ c;exact c
 ·intro _ _ _ _ h _ c b a
  rcases C8.mp a with e | a
  ·rw [e];exact .inl ⟨_,h⟩
  ·exact c b a
 ·intro _ _ _ _ _ _ c;exact c
 ·intro _ _ _ _ h _ _ c b a
  rcases C8.mp a with e | a
  ·rw [e];exact .inr (.inl ⟨_,h⟩)
  ·exact c b a
 ·intro _ _ _ _ h _ _ c b a
  rcases C8.mp a with e | a
  ·rw [e];exact .inr (.inr ⟨_,h⟩)
  ·exact c b a
 ·intro _ _ _ _ _ _ b a;cases a
 ·intros;rename_i a;cases a
 ·intro b a;cases a
 ·intro _ _ _ _ _ _ _ _ f g b a
  rcases Db.mp a with h | h
  ·exact f b h
  ·exact g b h
theorem Reps.inH (r:Reps (Rep K H) ds vs L):∀ b ∈ L,MutAt H b:=by
 induction r with
 | nil=>intro b a;cases a
 | cons r _ ih =>
  intro b a
  rcases Db.mp a with h | h
  ·exact r.inH b h
  ·exact ih b h
theorem Rep.keep {M:Addr->Prop} (k:∀ b o,H b=some o->¬ M b->H' b=some o) (hm:∀ b,M b->MutAt H b) (r:Rep K H d v L):(∀ b ∈ L,¬ M b)->Rep K H' d v L:=by
 refine Rep.rec (motive_1:=fun d v L _=>(∀ b ∈ L,¬ M b)->Rep K H' d v L) (motive_2:=fun ds vs L _=>(∀ b ∈ L,¬ M b)->Reps (Rep K H') ds vs L) ?_ ?_ ?_ ?_ ?_ ?_ ?_ ?_ ?_ ?_ ?_ ?_ ?_ r
 ·intro _;exact .non
 ·intro b _;exact .bl b
 ·intro b _;exact .int b
 ·intro b _;exact .str b
 ·intro xs a vs L h _ g f
  exact .tup (k a _ h fun z=>(hm a z).notup h) (g f)
 ·intro xs a vs L h _ g f
  exact .lst (k a _ h (f a C2)) (g fun b i=>f b (C3 _ i))
 ·intro xs a vs L h _ g f
  exact .lstF (h.keep k hm) (g f)
 ·intro j a ps L h e _ g f
  exact .dK (k a _ h (f a C2)) e (g fun b i=>f b (C3 _ i))
 ·intro j a ps L h e _ g f
  exact .dT (k a _ h (f a C2)) e (g fun b i=>f b (C3 _ i))
 ·intro c a D ob n h _
  exact .exc n (k a _ h fun z=>(hm a z).nofrz h)
 ·intro c a D ob n x v d od u e1 m p l w q t _ g _
  exact .excV e1 (k a _ m fun z=>(hm a z).nofrz m) p (k d _ l fun z=>(hm d z).nofrz l) w q t (g fun _ h=>nomatch h)
 ·intro _;exact .nil
 ·intro d v L ds vs L' _ _ s y f
  exact .cons (s fun b i=>f b (C6 _ i)) (y fun b i=>f b (C7 _ i))
theorem Rep.excP {c:String} {fs:List (String × D)} {a C:Addr} {ob:Obj} (n:XName K c C) (h:H a=some (dE ob a (.ref C))) (p:PayX K H ob.dict fs) (b:PySem.W.notCls ob=true):Rep K H (.exc c fs) (.ref a) [] :=
 match fs,p with
 | [],_=>.exc n h
 | [(_,_)],⟨_,_,_,_,e1,e2,e3,e4,e5⟩=>.excV n h e1 e2 e3 e4 b e5
theorem Rep.same (r:Rep K H d v L) (s:Same H H'):Rep K H' d v L:=r.keep (M:=fun _=>False) (fun b o h _=>s b o h) (fun _ z=>z.elim) fun _ _ z=>z
theorem Reps.keep {M:Addr->Prop} (k:∀ b o,H b=some o->¬ M b->H' b=some o) (hm:∀ b,M b->MutAt H b) (r:Reps (Rep K H) ds vs L):(∀ b ∈ L,¬ M b)->Reps (Rep K H') ds vs L:=by
 induction r with
 | nil=>intro _;exact .nil
 | cons r _ ih=>intro c;exact .cons (r.keep k hm fun b a=>c b (C6 _ a)) (ih fun b a=>c b (C7 _ a))
theorem PayX.same {da:Option Addr} {fs:List (String × D)} (p:PayX K H da fs) (s:Same H H'):PayX K H' da fs :=
 match fs,p with
 | [],_=>trivial
 | [(_,_)],⟨_,_,_,_,e1,e2,e3,e4,e5⟩=>⟨_,_,_,_,e1,s _ _ e2,e3,e4,e5.same s⟩
theorem Reps.same (r:Reps (Rep K H) ds vs L) (s:Same H H'):Reps (Rep K H') ds vs L:=r.keep (M:=fun _=>False) (fun b o h _=>s b o h) (fun _ z=>z.elim) fun _ _ z=>z
end
inductive Fl where
 | u | l | z
 deriving DecidableEq
structure It3 where
 d:D
 v:V
 L:List Addr
 f:Fl
abbrev Sto:=List (Option (D × Fl))
structure Gm where
 H0:Hp
 bw:Addr->Prop
 pr:Nat->Bool
 σ0:St
 orig:Hp
 src:Addr->Prop
 lv:Nat->Option V
def OwnOk (G:Gm) (x:It3):Prop:=iW x.d=true/\∃ a L',x.v=.ref a/\x.L=a :: L'/\a ∉ L'/\(x.f=.u->G.H0 a=none\/G.bw a)
structure ItOk (K:FG) (G:Gm) (H:Hp) (x:It3):Prop where
 rep:Rep K H x.d x.v x.L
 own:x.f ≠ .z->OwnOk G x
 src:∀ c ∈ x.L,G.H0 c=none\/G.src c
structure Fx (G:Gm) (H:Hp) (T:List It3) (g:Nat->Option It3):Prop where
 frT:∀ x ∈ T,x.f ≠ .z->∀ a,x.v=.ref a->G.orig a=none
 frS:∀ i x,g i=some x->G.pr i=false->x.f ≠ .z->∀ a,x.v=.ref a->G.orig a=none
 bin:∀ b,G.bw b->∃ o,H b=some o
 ob:∀ b o,G.orig b=some o->∃ o',H b=some o'
 lvS:∀ i x,g i=some x->x.f=.l->G.lv i=some x.v
def NoRoot (x y:It3):Prop:=x.f ≠ .z->∀ a,x.v=.ref a->a ∉ y.L
def Apart3 (x y:It3):Prop:=NoRoot x y/\NoRoot y x
structure Wf (K:FG) (G:Gm) (H:Hp) (σ:St) (ρ:Sto) (T:List It3) (g:Nat->Option It3):Prop where
 len:σ.length = ρ.length
 sl:∀ i,(g i).map (fun x=>(x.d,x.f))=(ρ[i]?).join
 sv:∀ i x,g i=some x->σ[i]?=some (some x.v)
 okS:∀ i x,g i=some x->ItOk K G H x
 okT:∀ x ∈ T,ItOk K G H x
 ss:∀ i j x y,i ≠ j->g i=some x->g j=some y->NoRoot x y
 st:∀ i x,g i=some x->∀ y ∈ T,Apart3 x y
 tt:T.Pairwise Apart3
 base:∀ b o,G.H0 b=some o->¬ G.bw b->H b=some o
 pro:∀ i,G.pr i=true->σ[i]?=G.σ0[i]?
 fx:Fx G H T g
structure Le (K:FG) (G:Gm) (W:D->Sto->Prop) (G0:Gm) (W0:D->Sto->Prop):Prop where
 pr:G.pr=G0.pr
 ex:∀ (H:Hp) (σ:St) (ρ:Sto) (T:List It3) (g:Nat->Option It3) (e:D),Wf K G H σ ρ T g->W e ρ->∃ ρ0 T0 g0,Wf K G0 H σ ρ0 T0 g0/\W0 e ρ0
theorem Le.refl (K:FG) (G:Gm) (W:D->Sto->Prop):Le K G W G W:=⟨rfl,fun _ _ ρ T g _ w h=>⟨ρ,T,g,w,h⟩⟩
theorem Le.trans (a:Le K G W G1 W1) (b:Le K G1 W1 G2 W2):Le K G W G2 W2:=⟨a.pr.trans b.pr,fun H σ ρ T g e w h=>by
 obtain ⟨ρ1,c,g1,d,h1⟩:=a.ex H σ ρ T g e w h
 exact b.ex H σ ρ1 c g1 e d h1⟩
section
variable {K:FG} {G:Gm} {H H':Hp} {σ:St} {ρ:Sto} {T T':List It3} {g:Nat->Option It3} {x y z:It3}
theorem ItOk.keep {M:Addr->Prop} (h:ItOk K G H x) (k:∀ b o,H b=some o->¬ M b->H' b=some o) (hm:∀ b,M b->MutAt H b) (a:∀ b ∈ x.L,¬ M b):ItOk K G H' x:=⟨h.rep.keep k hm a,h.own,h.src⟩
theorem ItOk.same (h:ItOk K G H x) (s:Same H H'):ItOk K G H' x:=⟨h.rep.same s,h.own,h.src⟩
theorem Fx.more (f:Fx G H T g) (s:∀ b o,H b=some o->∃ o',H' b=some o'):Fx G H' T g:=⟨f.frT,f.frS,fun b h=>let ⟨o,e⟩:=f.bin b h;s b o e,fun b o h=>let ⟨o',e⟩:=f.ob b o h;s b o' e,f.lvS⟩
theorem Fx.sub (f:Fx G H T g) (h:∀ x ∈ T',x ∈ T):Fx G H T' g:=⟨fun x a=>f.frT x (h x a),f.frS,f.bin,f.ob,f.lvS⟩
theorem Wf.grow (w:Wf K G H σ ρ T g) (s:Same H H'):Wf K G H' σ ρ T g :=
 ⟨w.len,w.sl,w.sv,fun i x e=>(w.okS i x e).same s,fun x a=>(w.okT x a).same s,w.ss,w.st,w.tt,fun b o e n=>s b o (w.base b o e n),w.pro,w.fx.more fun b o h=>⟨o,s b o h⟩⟩
theorem Wf.sub (w:Wf K G H σ ρ T g) (h:T'.Sublist T):Wf K G H σ ρ T' g :=
 ⟨w.len,w.sl,w.sv,w.okS,fun x a=>w.okT x (h.subset a),w.ss,fun i x e y b=>w.st i x e y (h.subset b),w.tt.sublist h,w.base,w.pro,w.fx.sub fun x a=>h.subset a⟩
def Itm (T:List It3) (g:Nat->Option It3) (y:It3):Prop:=(∃ i,g i=some y)\/y ∈ T
def dy (T:List It3) (g:Nat->Option It3) (c:Addr):Prop:=(∀ i z,g i=some z->z.f ≠ .z->z.v ≠ .ref c)/\∀ z ∈ T,z.f ≠ .z->z.v ≠ .ref c
theorem Wf.itm (w:Wf K G H σ ρ T g) (h:Itm T g y):ItOk K G H y:=by
 rcases h with ⟨i,e⟩ | h
 ·exact w.okS i y e
 ·exact w.okT y h
theorem nh {α:Type} {R:α->α->Prop} {l:List α} (p:l.Pairwise R) (h:∀ a b,R a b->R b a):∀ a ∈ l,∀ b ∈ l,a ≠ b->R a b:=by
 induction p with
 | nil=>intro a e;cases e
 | @cons c l hc _ ih =>
  intro a e b d n
  rcases C8.mp e with g | e
  ·rcases C8.mp d with f | d
   ·exact absurd (g.trans f.symm) n
   ·rw [g];exact hc b d
  ·rcases C8.mp d with f | d
   ·rw [f];exact h _ _ (hc a e)
   ·exact ih a e b d n
theorem Apart3.symm (h:Apart3 x y):Apart3 y x:=⟨h.2,h.1⟩
theorem Wf.kid (w:Wf K G H σ ρ T g) (h:Itm T g y) (d:c ∈ y.L) (l:y.f ≠ .z->y.v ≠ .ref c):dy T g c:=by
 refine ⟨fun i z e hz a=>?_,fun z hm hz a=>?_⟩
 ·rcases h with ⟨j,b⟩ | k
  ·by_cases m:i=j
   ·subst m
    rw [e] at b
    cases b
    exact l hz a
   ·exact w.ss i j z y m e b hz c a d
  ·exact (w.st i z e y k).1 hz c a d
 ·rcases h with ⟨j,b⟩ | k
  ·exact (w.st j y b z hm).2 hz c a d
  ·by_cases e:z=y
   ·subst e;exact l hz a
   ·exact (nh w.tt (fun _ _=>Apart3.symm) z hm y k e).1 hz c a d
structure New (K:FG) (H H':Hp) (Ks:Addr->Prop) (x:It3):Prop where
 same:Same H H'
 rep:Rep K H' x.d x.v x.L
 sub:∀ c ∈ x.L,H c=none\/Ks c
 own:x.f ≠ .z->iW x.d=true/\∃ a L',x.v=.ref a/\x.L=a :: L'/\a ∉ L'/\H a=none
theorem Wf.h0none (w:Wf K G H σ ρ T g) (h:H a=none):G.H0 a=none:=by
 cases e:G.H0 a with
 | none=>rfl
 | some o =>
  by_cases b:G.bw a
  ·obtain ⟨o,e⟩:=w.fx.bin a b
   rw [h] at e;cases e
  ·have:=w.base a o e b
   rw [h] at this;cases this
theorem Wf.ornone (w:Wf K G H σ ρ T g) (h:H a=none):G.orig a=none:=by
 cases e:G.orig a with
 | none=>rfl
 | some o =>
  obtain ⟨o,e⟩:=w.fx.ob a o e
  rw [h] at e;cases e
theorem Wf.push (w:Wf K G H σ ρ T g) (n:New K H H' Ks x) (p:∀ c,Ks c->dy T g c/\(G.H0 c=none\/G.src c)):Wf K G H' σ ρ (x :: T) g:=by
 have d:=w.grow n.same
 have a1:∀ y:It3,ItOk K G H y->(∀ c,Ks c->y.f ≠ .z->y.v ≠ .ref c)->Apart3 y x:=fun y q b=>by
  refine ⟨fun hf a e hm=>?_,fun hf a e hm=>?_⟩
  ·obtain ⟨_,u,L',e1,l,_,_⟩:=q.own hf
   rw [e] at e1
   cases e1
   rcases n.sub a hm with h | h
   ·obtain ⟨o,k⟩:=(q.rep.inH a (by rw [l];exact C2)).ex
    rw [h] at k;cases k
   ·exact b a h hf e
  ·obtain ⟨_,u,L',e1,l,_,h⟩:=n.own hf
   rw [e] at e1
   cases e1
   obtain ⟨o,k⟩:=(q.rep.inH a hm).ex
   rw [h] at k;cases k
 refine ⟨d.len,d.sl,d.sv,d.okS,?_,d.ss,?_,?_,d.base,d.pro,⟨fun y b hf a s=>?_,d.fx.frS,d.fx.bin,d.fx.ob,d.fx.lvS⟩⟩
 ·intro y b
  rcases C8.mp b with rfl | b
  ·refine ⟨n.rep,fun hf=>?_,fun c j=>?_⟩
   ·obtain ⟨t,a,L',e1,l,r,m⟩:=n.own hf
    exact ⟨t,a,L',e1,l,r,fun _=>.inl (w.h0none m)⟩
   ·rcases n.sub c j with h | h
    ·exact .inl (w.h0none h)
    ·exact (p c h).2
  ·exact d.okT y b
 ·intro i z e y b
  rcases C8.mp b with rfl | b
  ·exact a1 z (w.okS i z e) fun c j=>(p c j).1.1 i z e
  ·exact d.st i z e y b
 ·refine List.pairwise_cons.mpr ⟨fun y b=>(a1 y (w.okT y b) fun c j=>(p c j).1.2 y b).symm,d.tt⟩
 ·rcases C8.mp b with h | b
  ·subst h
   obtain ⟨t,u,L',e1,l,r,m⟩:=n.own hf
   rw [s] at e1
   cases e1
   exact w.ornone m
  ·exact d.fx.frT y b hf a s
def dH (ys:List It3) (c:Addr):Prop:=∃ y ∈ ys,c ∈ y.L/\(y.f ≠ .z->y.v ≠ .ref c)
theorem Wf.kids (w:Wf K G H σ ρ T g) (a:∀ y ∈ ys,Itm T g y) (h:dH ys c):dy T g c/\(G.H0 c=none\/G.src c):=by
 obtain ⟨y,m,b,d⟩:=h
 exact ⟨w.kid (a y m) b d,(w.itm (a y m)).src c b⟩
structure Arg (K:FG) (H:Hp) (p:It3):Prop where
 rep:Rep K H p.d p.v p.L
 own:p.f ≠ .z->iW p.d=true/\∃ a L',p.v=.ref a/\p.L=a :: L'/\a ∉ L'
theorem ItOk.arg (h:ItOk K G H x):Arg K H x:=⟨h.rep,fun hf=>by
 obtain ⟨m,a,L',v1,v2,v3,_⟩:=h.own hf
 exact ⟨m,a,L',v1,v2,v3⟩⟩
end
end L3
end
section
namespace L3
open PySem L2
inductive R3 where
 | pl (i:Nat) | val (d:D) (f:Fl)
abbrev M3 (α:Type):=Sto->Option (Except D α × Sto)
abbrev EM:=M3 R3
noncomputable def ag {α β:Type} (m:M3 α) (k:α->M3 β):M3 β:=fun ρ=>match m ρ with
 | none=>none
 | some (.error e,ρ')=>some (.error e,ρ')
 | some (.ok a,ρ')=>k a ρ'
noncomputable def ba {α:Type} (a:α):M3 α:=fun ρ=>some (.ok a,ρ)
noncomputable def bo {α:Type} (o:Option α):M3 α:=fun ρ=>o.map fun a=>(.ok a,ρ)
noncomputable def der (r:R3):M3 D:=fun ρ=>match r with
 | .pl i=>((ρ[i]?).join).map fun p=>(.ok p.1,ρ)
 | .val d _=>some (.ok d,ρ)
inductive Ar (σ:St):R3->V->List It3->Prop where
 | pl {i:Nat} {v:V}:σ[i]?=some (some v)->Ar σ (.pl i) v []
 | val (x:It3):Ar σ (.val x.d x.f) x.v [x]
def Got (K:FG) (G:Gm) (σ:St) (ρ:Sto) (T:List It3) (r:R3) (v:V) (H:Hp):Prop:=∃ Ts g,Wf K G H σ ρ (Ts ++ T) g/\Ar σ r v Ts
def tE (K:FG) (G0:Gm) (W0:D->Sto->Prop) (m:EM):TE:=fun σ H Q=>∃ G W,Le K G W G0 W0/\∃ ρ T g r ρ',Wf K G H σ ρ T g/\m ρ=some (r,ρ')/\match r with
 | .ok r=>∀ v H',Got K G σ ρ' T r v H'->Q v H'
 | .error e=>W e ρ'
def tT (K:FG) (G0:Gm) (W0:D->Sto->Prop) (m:M3 Bool):TT:=fun σ H Q=>∃ G W,Le K G W G0 W0/\∃ ρ T g r ρ',Wf K G H σ ρ T g/\m ρ=some (r,ρ')/\match r with
 | .ok b=>∀ H' g',Wf K G H' σ ρ' T g'->Q b H'
 | .error e=>W e ρ'
inductive Ars (σ:St):List R3->List V->List It3->Prop where
 | nil:Ars σ [] [] []
 | cons {r v Ts rs vs Us}:Ar σ r v Ts->Ars σ rs vs Us->Ars σ (r :: rs) (v :: vs) (Us ++ Ts)
def tA (K:FG) (G0:Gm) (W0:D->Sto->Prop) (m:M3 (List R3)):TA:=fun σ H Q=>∃ G W,Le K G W G0 W0/\∃ ρ T g r ρ',Wf K G H σ ρ T g/\m ρ=some (r,ρ')/\match r with
 | .ok rs=>∀ vs H' Ts g',Wf K G H' σ ρ' (Ts ++ T) g'->Ars σ rs vs Ts->Q vs H'
 | .error e=>W e ρ'
inductive Flw where
 | nx | br | ct | rt (d:D) (f:Fl)
abbrev SM:=M3 Flw
def tS (K:FG) (G0:Gm) (W0:D->Sto->Prop) (m:SM):TS:=fun E σ H=>∃ G W,Le K G W G0 W0/\∃ ρ T g r ρ',Wf K G H σ ρ T g/\m ρ=some (r,ρ')/\match r with
 | .ok .nx=>∀ σ' H' g',Wf K G H' σ' ρ' T g'->E.nx σ' H'
 | .ok .br=>∀ σ' H' g',Wf K G H' σ' ρ' T g'->E.bk σ' H'
 | .ok .ct=>∀ σ' H' g',Wf K G H' σ' ρ' T g'->E.ct σ' H'
 | .ok (.rt d f)=>∀ x σ' H' g',Wf K G H' σ' ρ' (x :: T) g'->x.d=d->x.f=f->E.rt x.v H'
 | .error e=>W e ρ'
section
variable {K:FG} {G G0:Gm} {W W0:D->Sto->Prop} {H H':Hp} {σ:St} {ρ ρ':Sto} {T T':List It3} {g:Nat->Option It3} {x y z:It3} {α β:Type}
theorem aY (e:ag (der r) k ρ=some (o,ρ')):∃ d,der r ρ=some (.ok d,ρ)/\k d ρ=some (o,ρ'):=by
 cases r with
 | pl i =>
  have a:der (.pl i) ρ=((ρ[i]?).join).map fun p=>(.ok p.1,ρ):=rfl
  unfold ag at e
  rw [a] at e ⊢
  cases h:(ρ[i]?).join with
  | none=>rw [h] at e;exact nsE e
  | some p=>rw [h] at e;exact ⟨p.1,rfl,e⟩
 | val d f=>exact ⟨d,rfl,e⟩
theorem bZ (e:bo o ρ=some (r,ρ')):∃ a,o=some a/\r=.ok a/\ρ' = ρ:=by
 unfold bo at e
 cases o with
 | none=>exact nsE e
 | some a=>cases e;exact ⟨a,rfl,rfl,rfl⟩
theorem Wf.slot (w:Wf K G H σ ρ T g) {i:Nat} (e:(ρ[i]?).join=some (d,f)):∃ y,g i=some y/\y.d=d/\y.f=f/\σ[i]?=some (some y.v):=by
 have h:=w.sl i
 rw [e] at h
 cases q:g i with
 | none=>rw [q] at h;exact nsE h
 | some y =>
  rw [q] at h
  cases h
  exact ⟨y,rfl,rfl,rfl,w.sv i y q⟩
theorem Ar.item (w:Wf K G H σ ρ T g) (a:Ar σ r v Ts) (c:∀ x ∈ Ts,x ∈ T) (e:der r ρ=some (.ok d,ρ)):∃ y,Itm T g y/\y.d=d/\y.v=v:=by
 cases a with
 | @pl i v h =>
  have l:der (.pl i) ρ=((ρ[i]?).join).map fun p=>(.ok p.1,ρ):=rfl
  rw [l] at e
  cases q:(ρ[i]?).join with
  | none=>rw [q] at e;exact nsE e
  | some p =>
   rw [q] at e
   obtain ⟨y,e1,j,m,b⟩:=w.slot (d:=p.1) (f:=p.2) q
   have k:p.1=d:=by cases e;rfl
   rw [h] at b
   refine ⟨y,.inl ⟨i,e1⟩,j.trans k,?_⟩
   cases b;rfl
 | val x=>cases e;exact ⟨x,.inr (c x (by simp)),rfl,rfl⟩
theorem Wf.done (w:Wf K G H σ ρ (Us ++ T) g) (a:∀ y ∈ ys,Itm (Us ++ T) g y) (n:New K H H' (dH ys) x):Got K G σ ρ T (.val x.d x.f) x.v H' :=
 ⟨[x],g,(w.push n fun c h=>w.kids a h).sub (by simpa using List.Sublist.cons_cons x (Dg Us T)),.val x⟩
theorem tE.seq (le:Le K G W G0 W0) (w:Wf K G H σ ρ T g) (e:ag ma k ρ=some (r,ρ')) (he:∀ x,r=.error x->W x ρ') (h:∀ ra ρ1,k ra ρ1=some (r,ρ')->∀ v H1,Got K G σ ρ1 T ra v H1->P v H1):tE K G0 W0 ma σ H P:=by
 unfold ag at e
 cases q:ma ρ with
 | none=>rw [q] at e;exact nsE e
 | some p =>
  obtain ⟨o,ρ1⟩:=p
  rw [q] at e
  cases o with
  | error x=>cases e;exact ⟨G,W,le,ρ,T,g,.error x,ρ',w,q,he x rfl⟩
  | ok ra=>exact ⟨G,W,le,ρ,T,g,.ok ra,ρ1,w,q,h ra ρ1 e⟩
theorem tT.seq (le:Le K G W G0 W0) (w:Wf K G H σ ρ T g) (e:ag ma k ρ=some (r,ρ')) (he:∀ x,r=.error x->W x ρ') (h:∀ b ρ1,k b ρ1=some (r,ρ')->∀ H1 g1,Wf K G H1 σ ρ1 T g1->P b H1):tT K G0 W0 ma σ H P:=by
 unfold ag at e
 cases q:ma ρ with
 | none=>rw [q] at e;exact nsE e
 | some p =>
  obtain ⟨o,ρ1⟩:=p
  rw [q] at e
  cases o with
  | error x=>cases e;exact ⟨G,W,le,ρ,T,g,.error x,ρ',w,q,he x rfl⟩
  | ok ra=>exact ⟨G,W,le,ρ,T,g,.ok ra,ρ1,w,q,h ra ρ1 e⟩
theorem tA.seq (le:Le K G W G0 W0) (w:Wf K G H σ ρ T g) (e:ag ma k ρ=some (r,ρ')) (he:∀ x,r=.error x->W x ρ') (h:∀ rs ρ1,k rs ρ1=some (r,ρ')->∀ vs H1 Ts g1,Wf K G H1 σ ρ1 (Ts ++ T) g1->Ars σ rs vs Ts->P vs H1):tA K G0 W0 ma σ H P:=by
 unfold ag at e
 cases q:ma ρ with
 | none=>rw [q] at e;exact nsE e
 | some p =>
  obtain ⟨o,ρ1⟩:=p
  rw [q] at e
  cases o with
  | error x=>cases e;exact ⟨G,W,le,ρ,T,g,.error x,ρ',w,q,he x rfl⟩
  | ok ra=>exact ⟨G,W,le,ρ,T,g,.ok ra,ρ1,w,q,h ra ρ1 e⟩
def EndE (K:FG) (G:Gm) (W:D->Sto->Prop) (σ:St) (T:List It3) (ρ':Sto) (Q:VK):Except D R3->Prop
 | .ok r=>∀ v H',Got K G σ ρ' T r v H'->Q v H'
 | .error e=>W e ρ'
theorem EndE.err (h:EndE K G W σ T ρ' Q r):∀ x,r=.error x->W x ρ':=by
 intro x e;subst e;exact h
theorem tE.open (h:tE K G0 W0 m σ H Q):∃ G W,Le K G W G0 W0/\∃ ρ T g r ρ',Wf K G H σ ρ T g/\m ρ=some (r,ρ')/\EndE K G W σ T ρ' Q r:=by
 obtain ⟨G,W,le,ρ,T,g,r,ρ',w,e,q⟩:=h
 refine ⟨G,W,le,ρ,T,g,r,ρ',w,e,?_⟩
 cases r with
 | ok r=>exact q
 | error x=>exact q
theorem tE.use (h:tE K G0 W0 m σ H Q) {P:Prop} (k:∀ G W,Le K G W G0 W0->∀ ρ T g r ρ',Wf K G H σ ρ T g->m ρ=some (r,ρ')->EndE K G W σ T ρ' Q r->P):P:=by
 obtain ⟨G,W,le,ρ,T,g,r,ρ',w,e,q⟩:=h.open
 exact k G W le ρ T g r ρ' w e q
theorem tE.mk (le:Le K G W G0 W0) (w:Wf K G H σ ρ T g) (e:m ρ=some (r,ρ')) (h:EndE K G W σ T ρ' Q r):tE K G0 W0 m σ H Q:=by
 refine ⟨G,W,le,ρ,T,g,r,ρ',w,e,?_⟩
 cases r with
 | ok r=>exact h
 | error x=>exact h
def ad (i:Nat):EM:=fun ρ=>((ρ[i]?).join).map fun _=>(.ok (.pl i),ρ)
theorem AR {i:Nat} (h:tE K G0 W0 (ad i) σ H Q):tv i σ H Q:=by
 refine h.use fun G W le ρ T g r ρ' w e q=>?_
 unfold ad at e
 cases h:(ρ[i]?).join with
 | none=>rw [h] at e;exact nsE e
 | some p =>
  rw [h] at e
  cases e
  obtain ⟨y,_,_,_,a⟩:=w.slot (d:=p.1) (f:=p.2) h
  exact ⟨y.v,a,q y.v H ⟨[],g,w,.pl a⟩⟩
def mC (d:D):EM:=ba (.val d .z)
theorem Wf.const (w:Wf K G H σ ρ T g) (r:Rep K H d v []):Got K G σ ρ T (.val d .z) v H :=
 Wf.done (Us:=[]) (ys:=[]) (x:=⟨d,v,[],.z⟩) w (fun _ h=>(by cases h)) ⟨Same.refl _,r,fun _ h=>(by cases h),fun h=>absurd rfl h⟩
theorem fE (r:∀ H,Rep K H d v []) (h:tE K G0 W0 (mC d) σ H Q):tC v σ H Q:=by
 refine h.use fun G W le ρ T g o ρ' w e q=>?_
 cases e
 exact q v H (w.const (r H))
def ah (f:D->D->Option (D × Fl)) (ma mb:EM):EM:=ag ma fun ra=>ag mb fun rb=>ag (der ra) fun da=>ag (der rb) fun db=>bo ((f da db).map fun p=>R3.val p.1 p.2)
def OpD (K:FG) (r:R2) (f:D->D->Option (D × Fl)):Prop:=∀ (a b:It3) (H:Hp) (Q:VK) (p:D × Fl),Arg K H a->Arg K H b->f a.d b.d=some p ->
 (∀ w H',New K H H' (dH [a,b]) w->w.d=p.1->w.f=p.2->Q w.v H')->r a.v b.v H Q
theorem pV (w:Wf K G H σ ρ (Us ++ T) g) (c:∀ y ∈ ys,Itm (Us ++ T) g y) (q:EndE K G W σ T ρ Q (.ok (.val d f))) :
  ∀ a H',New K H H' (dH ys) a->a.d=d->a.f=f->Q a.v H':=by
 intro a H' n e1 b
 subst e1 b
 exact q a.v H' (w.done c n)
theorem mP (B:OpD K r f) (h:tE K G0 W0 (ah f ma mb) σ H Q):tOp r (tE K G0 W0 ma) (tE K G0 W0 mb) σ H Q:=by
 refine h.use fun G W le ρ T g o ρ' w e q=>?_
 refine tE.seq le w e q.err fun ra ρ1 e1 F H1 ⟨Ts,g1,u,a1⟩=>?_
 refine tE.seq le u e1 q.err fun rb ρ2 D E H2 ⟨Us,g2,a,a2⟩=>?_
 obtain ⟨da,C,A⟩:=aY D
 obtain ⟨db,t,z⟩:=aY A
 obtain ⟨p,b,rfl,rfl⟩:=bZ z
 obtain ⟨m,k,f1,f2⟩:=a1.item a (fun x j=>C7 _ (C6 _ j)) C
 obtain ⟨n,l,v,f4⟩:=a2.item a (fun x j=>C6 _ j) t
 subst f1 f2 v f4
 cases i:f m.d n.d with
 | none=>rw [i] at b;exact nsE b
 | some s =>
  rw [i] at b
  cases b
  rw [<- List.append_assoc] at a k l
  refine B m n H2 Q s (a.itm k).arg (a.itm l).arg i (pV a (fun y c=>?_) q)
  rcases C8.mp c with h | c
  ·rw [h];exact k
  ·rw [Dy.mp c];exact l
def mUn (f:D->Option (D × Fl)) (ma:EM):EM:=ag ma fun ra=>ag (der ra) fun da=>bo ((f da).map fun p=>R3.val p.1 p.2)
def UnD (K:FG) (r:V->Hp->VK->Prop) (f:D->Option (D × Fl)):Prop:=∀ (a:It3) (H:Hp) (Q:VK) (p:D × Fl),Arg K H a->f a.d=some p ->
 (∀ w H',New K H H' (dH [a]) w->w.d=p.1->w.f=p.2->Q w.v H')->r a.v H Q
theorem rK (l:UnD K r f) (h:tE K G0 W0 (mUn f ma) σ H Q):tUn r (tE K G0 W0 ma) σ H Q:=by
 refine h.use fun G W le ρ T g o ρ' w e q=>?_
 refine tE.seq le w e q.err fun ra ρ1 e1 u H1 ⟨Ts,g1,b,a1⟩=>?_
 obtain ⟨da,m,k⟩:=aY e1
 obtain ⟨p,a,rfl,rfl⟩:=bZ k
 obtain ⟨j,i,f1,f2⟩:=a1.item b (fun x t=>C6 _ t) m
 subst f1 f2
 cases c:f j.d with
 | none=>rw [c] at a;exact nsE a
 | some s =>
  rw [c] at a
  cases a
  exact l j H1 Q s (b.itm i).arg c (pV b (fun y n=>by rw [Dy.mp n];exact i) q)
def ai:M3 (List R3):=ba []
def ac (m:EM) (ms:M3 (List R3)):M3 (List R3):=ag m fun r=>ag ms fun rs=>ba (r :: rs)
def EndA (K:FG) (G:Gm) (W:D->Sto->Prop) (σ:St) (T:List It3) (ρ':Sto) (Q:List V->Hp->Prop):Except D (List R3)->Prop
 | .ok rs=>∀ vs H' Ts g',Wf K G H' σ ρ' (Ts ++ T) g'->Ars σ rs vs Ts->Q vs H'
 | .error e=>W e ρ'
theorem EndA.err (h:EndA K G W σ T ρ' Q r):∀ x,r=.error x->W x ρ':=by
 intro x e;subst e;exact h
theorem tA.open (h:tA K G0 W0 m σ H Q):∃ G W,Le K G W G0 W0/\∃ ρ T g r ρ',Wf K G H σ ρ T g/\m ρ=some (r,ρ')/\EndA K G W σ T ρ' Q r:=by
 obtain ⟨G,W,le,ρ,T,g,r,ρ',w,e,q⟩:=h
 refine ⟨G,W,le,ρ,T,g,r,ρ',w,e,?_⟩
 cases r with
 | ok r=>exact q
 | error x=>exact q
theorem tA.use (h:tA K G0 W0 m σ H Q) {P:Prop} (k:∀ G W,Le K G W G0 W0->∀ ρ T g r ρ',Wf K G H σ ρ T g->m ρ=some (r,ρ')->EndA K G W σ T ρ' Q r->P):P:=by
 obtain ⟨G,W,le,ρ,T,g,r,ρ',w,e,q⟩:=h.open
 exact k G W le ρ T g r ρ' w e q
theorem AX (h:tA K G0 W0 ai σ H Q):tNil σ H Q:=by
 refine h.use fun G W le ρ T g r ρ' w e q=>?_
 cases e
 exact q [] H [] g w .nil
theorem yl (h:tA K G0 W0 (ac m ms) σ H Q):Af (tE K G0 W0 m) (tA K G0 W0 ms) σ H Q:=by
 refine h.use fun G W le ρ T g r ρ' w e q=>?_
 refine tE.seq le w e q.err fun ra ρ1 e1 d H1 ⟨Ts,g1,a,a1⟩=>?_
 refine tA.seq le a e1 q.err fun rs ρ2 c vs H2 Us g2 b a2=>?_
 cases c
 refine q (d :: vs) H2 (Us ++ Ts) g2 ?_ (.cons a1 a2)
 rw [List.append_assoc]
 exact b
def eV:List R3->M3 (List D)
 | []=>ba []
 | r :: rs=>ag (der r) fun d=>ag (eV rs) fun ds=>ba (d :: ds)
theorem sN:∀ {rs:List R3} {ρ ρ':Sto} {o:Except D (List D)},eV rs ρ=some (o,ρ')->∃ ds,o=.ok ds/\ρ' = ρ
 | [],ρ,ρ',o,e=>by cases e;exact ⟨[],rfl,rfl⟩
 | r :: rs,ρ,ρ',o,e=>by
  obtain ⟨d,e1,a⟩:=aY (k:=fun d=>ag (eV rs) fun ds=>ba (d :: ds)) e
  unfold ag at a
  cases q:eV rs ρ with
  | none=>rw [q] at a;exact nsE a
  | some p =>
   obtain ⟨o',ρ1⟩:=p
   obtain ⟨ds,rfl,rfl⟩:=sN q
   rw [q] at a
   cases a
   exact ⟨d :: ds,rfl,rfl⟩
theorem dA (e:ag (eV rs) k ρ=some (o,ρ')):∃ ds,eV rs ρ=some (.ok ds,ρ)/\k ds ρ=some (o,ρ'):=by
 unfold ag at e
 cases q:eV rs ρ with
 | none=>rw [q] at e;exact nsE e
 | some p =>
  obtain ⟨o',ρ1⟩:=p
  obtain ⟨ds,rfl,rfl⟩:=sN q
  rw [q] at e
  exact ⟨ds,rfl,e⟩
theorem Ars.items:∀ {rs:List R3} {vs:List V} {Ts:List It3} {ds:List D} ,Wf K G H σ ρ T g->Ars σ rs vs Ts->(∀ x ∈ Ts,x ∈ T)->eV rs ρ=some (.ok ds,ρ)->∃ ys:List It3,(∀ y ∈ ys,Itm T g y)/\ys.map (·.d)=ds/\ys.map (·.v)=vs
 | [],_,_,ds,w,.nil,_,e=>by cases e;exact ⟨[],fun _ h=>(by cases h),rfl,rfl⟩
 | r :: rs,_,_,ds,w,.cons a as,hs,e=>by
  obtain ⟨d,e1,m⟩:=aY (k:=fun d=>ag (eV rs) fun ds=>ba (d :: ds)) e
  obtain ⟨j,c,n⟩:=dA m
  cases n
  obtain ⟨y,i,f1,f2⟩:=a.item w (fun x b=>hs x (C7 _ b)) e1
  obtain ⟨ys,f,l,f4⟩:=Ars.items w as (fun x b=>hs x (C6 _ b)) c
  refine ⟨y :: ys,fun z hz=>?_,by simp [f1,l],by simp [f2,f4]⟩
  rcases C8.mp hz with h | hz
  ·rw [h];exact i
  ·exact f z hz
def aC (f:List D->Option (D × Fl)) (ms:M3 (List R3)):EM:=ag ms fun rs=>ag (eV rs) fun ds=>bo ((f ds).map fun p=>R3.val p.1 p.2)
def gg (K:FG) (r:List V->Hp->VK->Prop) (f:List D->Option (D × Fl)):Prop:=∀ (ys:List It3) (H:Hp) (Q:VK) (p:D × Fl),(∀ y ∈ ys,Arg K H y)->f (ys.map (·.d))=some p ->
 (∀ w H',New K H H' (dH ys) w->w.d=p.1->w.f=p.2->Q w.v H')->r (ys.map (·.v)) H Q
theorem oM (j:gg K r f) (h:tE K G0 W0 (aC f ms) σ H Q):tCB r (tA K G0 W0 ms) σ H Q:=by
 refine h.use fun G W le ρ T g o ρ' w e q=>?_
 refine tA.seq le w e q.err fun rs ρ1 e1 vs H1 Ts g1 b a1=>?_
 obtain ⟨ds,k,l⟩:=dA e1
 obtain ⟨p,a,rfl,rfl⟩:=bZ l
 obtain ⟨ys,i,f1,f2⟩:=a1.items b (fun x n=>C6 _ n) k
 subst f1 f2
 cases c:f (ys.map (·.d)) with
 | none=>rw [c] at a;exact nsE a
 | some s =>
  rw [c] at a
  cases a
  exact j ys H1 Q s (fun y m=>(b.itm (i y m)).arg) c (pV b i q)
def asB:D->Option Bool
 | .bl b=>some b
 | _=>none
def j0 (ma mb:EM):EM:=ag ma fun ra=>ag (der ra) fun d=>ag (bo (asB d)) fun b=>if b then mb else ba (.val (.bl false) .z)
def zu (ma:EM):EM:=ag ma fun ra=>ag (der ra) fun d=>ag (bo (asB d)) fun b=>ba (.val (.bl (!b)) .z)
theorem jp (e:ag (bo o) k ρ=some (r,ρ')):∃ a,o=some a/\k a ρ=some (r,ρ'):=by
 unfold ag bo at e
 cases o with
 | none=>exact nsE e
 | some a=>exact ⟨a,rfl,e⟩
theorem xP (e:asB d=some b):d=.bl b:=by
 cases d <;> first | exact nsE e | cases e
 rfl
theorem Rep.bl_eq (r:Rep K H (.bl b) v L):v=.bl b/\L=[]:=by cases r;exact ⟨rfl,rfl⟩
theorem Ar.bool (w:Wf K G H σ ρ (Ts ++ T) g) (a:Ar σ ra v Ts) (e:der ra ρ=some (.ok d,ρ)) (c:asB d=some b):v=.bl b:=by
 obtain ⟨y,f,f1,f2⟩:=a.item w (fun x h=>C6 _ h) e
 have r:=(w.itm f).rep
 rw [f1,xP c] at r
 rw [<- f2]
 exact r.bl_eq.1
theorem AW (h:tE K G0 W0 (j0 ma mb) σ H Q):Ag (tE K G0 W0 ma) (tE K G0 W0 mb) σ H Q:=by
 refine h.use fun G W le ρ T g o ρ' w e q=>?_
 refine tE.seq le w e q.err fun ra ρ1 e1 l H1 ⟨Ts,g1,c,a1⟩=>?_
 obtain ⟨d,j,k⟩:=aY e1
 obtain ⟨b,i,a⟩:=jp k
 refine ⟨b,a1.bool c j i,?_⟩
 have f:=c.sub (Dg Ts T)
 cases b with
 | true=>exact tE.mk le f a q
 | false=>cases a;exact q _ _ (f.const (.bl false))
theorem AT (h:tE K G0 W0 (zu ma) σ H Q):Ac (tE K G0 W0 ma) σ H Q:=by
 refine h.use fun G W le ρ T g o ρ' w e q=>?_
 refine tE.seq le w e q.err fun ra ρ1 e1 l H1 ⟨Ts,g1,a,a1⟩=>?_
 obtain ⟨d,j,k⟩:=aY e1
 obtain ⟨b,f,c⟩:=jp k
 refine ⟨b,a1.bool a j f,?_⟩
 have i:=a.sub (Dg Ts T)
 cases c;exact q _ _ (i.const (.bl (!b)))
def EndT (K:FG) (G:Gm) (W:D->Sto->Prop) (σ:St) (T:List It3) (ρ':Sto) (Q:Bool->Hp->Prop):Except D Bool->Prop
 | .ok b=>∀ H' g',Wf K G H' σ ρ' T g'->Q b H'
 | .error e=>W e ρ'
theorem EndT.err (h:EndT K G W σ T ρ' Q r):∀ x,r=.error x->W x ρ':=by
 intro x e;subst e;exact h
theorem tT.open (h:tT K G0 W0 m σ H Q):∃ G W,Le K G W G0 W0/\∃ ρ T g r ρ',Wf K G H σ ρ T g/\m ρ=some (r,ρ')/\EndT K G W σ T ρ' Q r:=by
 obtain ⟨G,W,le,ρ,T,g,r,ρ',w,e,q⟩:=h
 refine ⟨G,W,le,ρ,T,g,r,ρ',w,e,?_⟩
 cases r with
 | ok r=>exact q
 | error x=>exact q
theorem tT.use (h:tT K G0 W0 m σ H Q) {P:Prop} (k:∀ G W,Le K G W G0 W0->∀ ρ T g r ρ',Wf K G H σ ρ T g->m ρ=some (r,ρ')->EndT K G W σ T ρ' Q r->P):P:=by
 obtain ⟨G,W,le,ρ,T,g,r,ρ',w,e,q⟩:=h.open
 exact k G W le ρ T g r ρ' w e q
theorem tT.mk (le:Le K G W G0 W0) (w:Wf K G H σ ρ T g) (e:m ρ=some (r,ρ')) (h:EndT K G W σ T ρ' Q r):tT K G0 W0 m σ H Q:=by
 refine ⟨G,W,le,ρ,T,g,r,ρ',w,e,?_⟩
 cases r with
 | ok r=>exact h
 | error x=>exact h
def cB (m:EM):M3 Bool:=ag m fun r=>ag (der r) fun d=>bo (asB d)
theorem AG (h:tT K G0 W0 (cB m) σ H Q):tB (tE K G0 W0 m) σ H Q:=by
 refine h.use fun G W le ρ T g o ρ' w e q=>?_
 refine tE.seq le w e q.err fun ra ρ1 e1 j H1 ⟨Ts,g1,a,a1⟩=>?_
 obtain ⟨d,f,i⟩:=aY e1
 obtain ⟨b,c,rfl,rfl⟩:=bZ i
 exact ⟨b,a1.bool a f c,q _ _ (a.sub (Dg Ts T))⟩
def jA (a b:M3 Bool):M3 Bool:=ag a fun c=>if c then b else ba false
def cOr (a b:M3 Bool):M3 Bool:=ag a fun c=>if c then ba true else b
def d6 (a:M3 Bool):M3 Bool:=ag a fun c=>ba (!c)
theorem AH (h:tT K G0 W0 (jA a b) σ H Q):tAnd (tT K G0 W0 a) (tT K G0 W0 b) σ H Q:=by
 refine h.use fun G W le ρ T g o ρ' w e q=>?_
 refine tT.seq le w e q.err fun c ρ1 e1 H1 g1 d=>?_
 cases c with
 | true=>exact tT.mk le d e1 q
 | false=>cases e1;exact q _ _ d
theorem tT_or (h:tT K G0 W0 (cOr a b) σ H Q):tOr (tT K G0 W0 a) (tT K G0 W0 b) σ H Q:=by
 refine h.use fun G W le ρ T g o ρ' w e q=>?_
 refine tT.seq le w e q.err fun c ρ1 e1 H1 g1 d=>?_
 cases c with
 | false=>exact tT.mk le d e1 q
 | true=>cases e1;exact q _ _ d
theorem AF (h:tT K G0 W0 (d6 a) σ H Q):tNot (tT K G0 W0 a) σ H Q:=by
 refine h.use fun G W le ρ T g o ρ' w e q=>?_
 refine tT.seq le w e q.err fun c ρ1 e1 H1 g1 b=>?_
 cases e1;exact q _ _ b
end
end L3
end
section
namespace L3
open PySem L2
def c8 (x:It3):It3:={ x with f:=.z }
theorem cw:NoRoot (c8 x) y:=fun h=>absurd rfl h
def lowAt (i:Nat) (ρ:Sto):Sto:=match (ρ[i]?).join with
 | some (d,.u)=>ρ.set i (some (d,.z))
 | some (d,.l)=>ρ.set i (some (d,.z))
 | _=>ρ
noncomputable def frz (is:List Nat) (ρ:Sto):Sto:=is.foldl (fun ρ i=>lowAt i ρ) ρ
def frz3 (is:List Nat):M3 Unit:=fun ρ=>some (.ok (),frz is ρ)
def pls:List R3->List Nat
 | []=>[]
 | .pl i :: rs=>i :: pls rs
 | .val _ _ :: rs=>pls rs
section
variable {K:FG} {G G0:Gm} {W W0:D->Sto->Prop} {H H':Hp} {σ:St} {ρ ρ':Sto} {T T':List It3} {g:Nat->Option It3} {x y z:It3} {α β:Type}
theorem ItOk.low (h:ItOk K G H x):ItOk K G H (c8 x):=⟨h.rep,fun q=>absurd rfl q,h.src⟩
theorem bO {i j:Nat} (hi:i < ρ.length):((ρ.set i o)[j]?).join=if j=i then o else (ρ[j]?).join:=by
 by_cases e:j=i
 ·subst e
  rw [if_pos rfl,List.getElem?_set_self hi]
  rfl
 ·rw [if_neg e,List.getElem?_set_ne (fun h=>e h.symm)]
theorem dw {i:Nat} (h:(ρ[i]?).join=some p):i < ρ.length:=by
 cases q:ρ[i]? with
 | none=>rw [q] at h;exact nsE h
 | some o=>exact (De.mp q).1
theorem Wf.lowSlot (w:Wf K G H σ ρ T g) {i:Nat} (e:(ρ[i]?).join=some (d,f)):Wf K G H σ (ρ.set i (some (d,.z))) T (fun j=>if j=i then (g i).map c8 else g j):=by
 have hi:=dw e
 obtain ⟨y,r,A,C,ev⟩:=w.slot e
 have val:∀ j x,(if j=i then (g i).map c8 else g j)=some x->∃ x0,g j=some x0/\(x=x0\/x=c8 x0)/\(j=i->x=c8 x0):=fun j x h=>by
  by_cases q:j=i
  ·subst q
   rw [if_pos rfl,r] at h
   cases h
   exact ⟨y,r,.inr rfl,fun _=>rfl⟩
  ·rw [if_neg q] at h
   exact ⟨x,h,.inl rfl,fun z=>absurd z q⟩
 have t:∀ {a b:It3},NoRoot a b->∀ o l,(o=a\/o=c8 a)->(l=b\/l=c8 b)->NoRoot o l:=fun h o l h1 h2=>by
  rcases h1 with rfl | rfl
  ·rcases h2 with rfl | rfl
   ·exact h
   ·exact h
  ·exact cw
 refine ⟨by rw [List.length_set];exact w.len,fun j=>?_,fun j x h=>?_,fun j x h=>?_,w.okT,fun j k a b n h1 h2=>?_,fun j a h b m=>?_,w.tt,w.base,w.pro,⟨w.fx.frT,fun j x h B hf a v=>?_,w.fx.bin,w.fx.ob,fun j x h u=>?_⟩⟩
 ·rw [bO hi]
  by_cases q:j=i
  ·subst q
   rw [if_pos rfl,if_pos rfl,r]
   show some ((c8 y).d,Fl.z)=_
   rw [<- A];rfl
  ·rw [if_neg q,if_neg q];exact w.sl j
 ·obtain ⟨x0,h0,c,_⟩:=val j x h
  have:=w.sv j x0 h0
  rcases c with rfl | rfl <;> exact this
 ·obtain ⟨x0,h0,c,_⟩:=val j x h
  rcases c with rfl | rfl
  ·exact w.okS j x h0
  ·exact (w.okS j x0 h0).low
 ·obtain ⟨a0,h0,p,_⟩:=val j a h1
  obtain ⟨b0,s,m,_⟩:=val k b h2
  exact t (w.ss j k a0 b0 n h0 s) a b p m
 ·obtain ⟨a0,h0,p,_⟩:=val j a h
  exact ⟨t (w.st j a0 h0 b m).1 a b p (.inl rfl),t (w.st j a0 h0 b m).2 b a (.inl rfl) p⟩
 ·obtain ⟨x0,h0,c,_⟩:=val j x h
  rcases c with rfl | rfl
  ·exact w.fx.frS j x h0 B hf a v
  ·exact absurd rfl hf
 ·obtain ⟨x0,h0,c,_⟩:=val j x h
  rcases c with rfl | rfl
  ·exact w.fx.lvS j x h0 u
  ·cases u
def Kin (x y:It3):Prop:=y.d=x.d/\y.v=x.v/\y.L=x.L/\(y.f=x.f\/y.f=.z)
theorem Kin.refl (x:It3):Kin x x:=⟨rfl,rfl,rfl,.inl rfl⟩
theorem Kin.trans (a:Kin x y) (b:Kin y z):Kin x z:=⟨b.1.trans a.1,b.2.1.trans a.2.1,b.2.2.1.trans a.2.2.1,by
 rcases b.2.2.2 with h | h
 ·rcases a.2.2.2 with h' | h'
  ·exact .inl (h.trans h')
  ·exact .inr (h.trans h')
 ·exact .inr h⟩
theorem Wf.lowAt {i:Nat} (w:Wf K G H σ ρ T g):∃ g',Wf K G H σ (lowAt i ρ) T g'/\(∀ j y,g j=some y->∃ a,g' j=some a/\Kin y a/\(j=i->a.f=.z)):=by
 have keep:∀ d,(ρ[i]?).join=some (d,.z)->∃ g',Wf K G H σ ρ T g'/\(∀ j y,g j=some y->∃ a,g' j=some a/\Kin y a/\(j=i->a.f=.z)):=fun d e=>⟨g,w,fun j y h=>⟨y,h,Kin.refl y,fun q=>by
  subst q
  obtain ⟨a,h',_,hf,_⟩:=w.slot e
  rw [h] at h';cases h';exact hf⟩⟩
 have low:∀ d f,(ρ[i]?).join=some (d,f)->∃ g',Wf K G H σ (ρ.set i (some (d,.z))) T g'/\(∀ j y,g j=some y->∃ a,g' j=some a/\Kin y a/\(j=i->a.f=.z)):=fun d f e=>⟨_,w.lowSlot e,fun j y h=>by
  by_cases q:j=i
  ·subst q;exact ⟨c8 y,by rw [if_pos rfl,h];rfl,⟨rfl,rfl,rfl,.inr rfl⟩,fun _=>rfl⟩
  ·exact ⟨y,by rw [if_neg q];exact h,Kin.refl y,fun z=>absurd z q⟩⟩
 unfold L3.lowAt
 cases e:(ρ[i]?).join with
 | none =>
  refine ⟨g,w,fun j y h=>⟨y,h,Kin.refl y,fun q=>?_⟩⟩
  subst q
  have:=w.sl j
  rw [h,e] at this;cases this
 | some p =>
  obtain ⟨d,f⟩:=p
  cases f with
  | u=>exact low d _ e
  | l=>exact low d _ e
  | z=>exact keep d e
theorem Wf.frz:∀ {is:List Nat} {ρ:Sto} {g:Nat->Option It3},Wf K G H σ ρ T g->∃ g',Wf K G H σ (frz is ρ) T g'/\(∀ j y,g j=some y->∃ a,g' j=some a/\Kin y a/\(j ∈ is->a.f=.z))
 | [],ρ,g,w=>⟨g,w,fun j y h=>⟨y,h,Kin.refl y,fun q=>by cases q⟩⟩
 | i :: is,ρ,g,w=>by
  obtain ⟨g1,c,h1⟩:=w.lowAt (i:=i)
  obtain ⟨g2,e,h2⟩:=Wf.frz (is:=is) c
  refine ⟨g2,e,fun j y h=>?_⟩
  obtain ⟨l,e1,k1,k⟩:=h1 j y h
  obtain ⟨b,m,k2,d⟩:=h2 j l e1
  refine ⟨b,m,k1.trans k2,fun hm=>?_⟩
  rcases C8.mp hm with q | q
  ·rcases k2.2.2.2 with h | h
   ·exact h.trans (k q)
   ·exact h
  ·exact d q
theorem Wf.lowT (w:Wf K G H σ ρ (Ts ++ T) g):Wf K G H σ ρ (Ts.map c8 ++ T) g:=by
 have sp:∀ {a b:It3},Apart3 a b->Apart3 (c8 a) (c8 b):=fun h=>⟨cw,cw⟩
 refine ⟨w.len,w.sl,w.sv,w.okS,fun x c=>?_,w.ss,fun i x e y j=>?_,?_,w.base,w.pro,⟨fun x c hf a d=>?_,w.fx.frS,w.fx.bin,w.fx.ob,w.fx.lvS⟩⟩
 ·rcases Db.mp c with h | h
  ·obtain ⟨x0,h0,rfl⟩:=Dh.mp h
   exact (w.okT x0 (C6 _ h0)).low
  ·exact w.okT x (C7 _ h)
 ·rcases Db.mp j with h | h
  ·obtain ⟨y0,h0,rfl⟩:=Dh.mp h
   exact ⟨(w.st i x e y0 (C6 _ h0)).1,cw⟩
  ·exact w.st i x e y (C7 _ h)
 ·have h:=List.pairwise_append.mp w.tt
  refine List.pairwise_append.mpr ⟨?_,h.2.1,fun a k b f=>?_⟩
  ·rw [List.pairwise_map]
   exact h.1.imp fun h=>sp h
  ·obtain ⟨a0,h0,rfl⟩:=Dh.mp k
   exact ⟨cw,(h.2.2 a0 h0 b f).2⟩
 ·rcases Db.mp c with h | h
  ·obtain ⟨x0,h0,rfl⟩:=Dh.mp h
   exact absurd rfl hf
  ·exact w.fx.frT x (C7 _ h) hf a d
theorem j9:∀ {rs:List R3} {i:Nat},R3.pl i ∈ rs->i ∈ pls rs
 | [],_,h=>by cases h
 | .pl j :: rs,i,h=>by
  rcases C8.mp h with e | h
  ·cases e;exact C2
  ·exact C3 _ (j9 h)
 | .val _ _ :: rs,i,h=>by
  rcases C8.mp h with e | h
  ·cases e
  ·exact j9 (rs:=rs) h
theorem Ars.given:∀ {rs:List R3} {vs:List V} {Ts:List It3} {ds:List D} {S:List It3} {g':Nat->Option It3} {is:List Nat},Wf K G H σ ρ T g->(∀ j y,g j=some y->∃ b,g' j=some b/\Kin y b/\(j ∈ is->b.f=.z))->(∀ i,R3.pl i ∈ rs->i ∈ is) ->
  Ars σ rs vs Ts->(∀ x ∈ Ts,x ∈ T)->(∀ x ∈ Ts,c8 x ∈ S)->eV rs ρ=some (.ok ds,ρ)->∃ ys:List It3,(∀ y ∈ ys,Itm S g' y/\y.f=.z)/\ys.map (·.d)=ds/\ys.map (·.v)=vs
 | [],_,_,ds,S,g',is,w,hg,hi,.nil,_,_,e=>by cases e;exact ⟨[],fun _ h=>(by cases h),rfl,rfl⟩
 | r :: rs,_,_,ds,S,g',is,w,hg,hi,.cons (v:=v0) a as,hs,hS,e=>by
  obtain ⟨d,e1,C⟩:=aY (k:=fun d=>ag (eV rs) fun ds=>ba (d :: ds)) e
  obtain ⟨B,u,o⟩:=dA C
  cases o
  obtain ⟨ys,F,m,f4⟩:=Ars.given w hg (fun i h=>hi i (C3 _ h)) as (fun x c=>hs x (C6 _ c)) (fun x c=>hS x (C6 _ c)) u
  have one:∃ y,(Itm S g' y/\y.f=.z)/\y.d=d/\y.v=v0:=by
   cases a with
   | @pl i v h =>
    have s:der (.pl i) ρ=((ρ[i]?).join).map fun p=>(.ok p.1,ρ):=rfl
    rw [s] at e1
    cases q:(ρ[i]?).join with
    | none=>rw [q] at e1;exact nsE e1
    | some p =>
     rw [q] at e1
     obtain ⟨y,n,t,I,l⟩:=w.slot (d:=p.1) (f:=p.2) q
     obtain ⟨b,h1,h2,h3⟩:=hg i y n
     have E:p.1=d:=by cases e1;rfl
     rw [h] at l
     refine ⟨b,⟨.inl ⟨i,h1⟩,h3 (hi i C2)⟩,h2.1.trans (t.trans E),?_⟩
     rw [h2.2.1];cases l;rfl
   | val x=>cases e1;exact ⟨c8 x,⟨.inr (hS x (by simp)),rfl⟩,rfl,rfl⟩
  obtain ⟨y,A,f1,f2⟩:=one
  refine ⟨y :: ys,fun z hz=>?_,by simp [f1,m],by simp [f2,f4]⟩
  rcases C8.mp hz with h | hz
  ·rw [h];exact A
  ·exact F z hz
def cJ (ys:List It3) (c:Addr):Prop:=∃ y ∈ ys,c ∈ y.L
def gives (rs:List R3):M3 (List D):=ag (eV rs) fun ds=>ag (frz3 (pls rs)) fun _=>ba ds
theorem Ars.gives (w:Wf K G H σ ρ (Ts ++ T) g) (a:Ars σ rs vs Ts) (e:ag (gives rs) k ρ=some (r,ρ')) :
  ∃ ds ρ1 g1,k ds ρ1=some (r,ρ')/\ρ1=frz (pls rs) ρ/\Wf K G H σ ρ1 (Ts.map c8 ++ T) g1/\(∀ j y,g j=some y->∃ c,g1 j=some c/\Kin y c)/\∃ ys:List It3,(∀ y ∈ ys,Itm (Ts.map c8 ++ T) g1 y/\y.f=.z)/\ys.map (·.d)=ds/\ys.map (·.v)=vs:=by
 unfold L3.gives at e
 have s:ag (eV rs) (fun ds=>ag (frz3 (pls rs)) fun _=>k ds) ρ=some (r,ρ'):=by
  rw [<- e]
  unfold ag
  cases q:eV rs ρ with
  | none=>rfl
  | some p =>
   obtain ⟨o,ρ2⟩:=p
   cases o with
   | error x=>rfl
   | ok ds=>rfl
 obtain ⟨ds,n,e1⟩:=dA s
 obtain ⟨g1,m,h1⟩:=Wf.frz (is:=pls rs) w
 refine ⟨ds,L3.frz (pls rs) ρ,g1,e1,rfl,m.lowT,fun j y h=>let ⟨c,a,b,_⟩:=h1 j y h;⟨c,a,b⟩,?_⟩
 exact Ars.given w h1 (fun i h=>j9 h) a (fun x l=>C6 _ l) (fun x l=>C6 _ (Dh.mpr ⟨x,l,rfl⟩)) n
theorem Wf.alls (w:Wf K G H σ ρ T g) (a:∀ y ∈ ys,Itm T g y/\y.f=.z) (h:cJ ys c):dy T g c/\(G.H0 c=none\/G.src c):=by
 obtain ⟨y,m,b⟩:=h
 exact ⟨w.kid (a y m).1 b fun hf=>absurd (a y m).2 hf,(w.itm (a y m).1).src c b⟩
theorem Wf.doneA (w:Wf K G H σ ρ (Us ++ T) g) (a:∀ y ∈ ys,Itm (Us ++ T) g y/\y.f=.z) (n:New K H H' (cJ ys) x):Got K G σ ρ T (.val x.d x.f) x.v H' :=
 ⟨[x],g,(w.push n fun c h=>w.alls a h).sub (by simpa using List.Sublist.cons_cons x (Dg Us T)),.val x⟩
theorem j8:∀ {ys:List It3},(∀ y ∈ ys,Rep K H y.d y.v y.L)->Reps (Rep K H) (ys.map (·.d)) (ys.map (·.v)) (ys.map (·.L)).flatten
 | [],_=>.nil
 | y :: ys,h=>.cons (h y C2) (j8 fun z hz=>h z (C3 _ hz))
theorem eg (h:c ∈ (ys.map (·.L)).flatten):cJ ys c:=by
 obtain ⟨l,a,b⟩:=List.mem_flatten.mp h
 obtain ⟨y,d,rfl⟩:=Dh.mp a
 exact ⟨y,d,b⟩
noncomputable def zt (mk:List D->D) (f:Fl) (ms:M3 (List R3)):EM:=ag ms fun rs=>ag (gives rs) fun ds=>bo (if ds.length<=16777216 then some (.val (mk ds) f) else none)
abbrev jm:M3 (List R3)->EM:=zt .tup .z
abbrev eR:M3 (List R3)->EM:=zt .lst .u
theorem bq (h:H p=none):Same H (upd H p o):=fun b u e=>by
 rw [ao (aN e h)];exact e
theorem AS (hz:(16777216:Nat)=sizeLine) (h:tE K G0 W0 (jm ms) σ H Q):tTup (tA K G0 W0 ms) σ H Q:=by
 refine h.use fun G W le ρ T g o ρ' w e q=>?_
 refine tA.seq le w e q.err fun rs ρ1 e1 vs H1 Ts g1 k a1=>?_
 obtain ⟨ds,ρ2,g2,n,_,f,_,ys,j,f1,f2⟩:=a1.gives k e1
 obtain ⟨v,b,rfl,rfl⟩:=bZ n
 subst f1 f2
 split at b
 ·rename_i l
  cases b
  refine ⟨by rw [Dd] at l ⊢;omega,fun p i=>?_⟩
  refine q _ _ (Wf.doneA (x:=⟨.tup (ys.map (·.d)),.ref p,(ys.map (·.L)).flatten,.z⟩) f j ⟨bq i,.tup aI ((j8 fun y a=>(f.itm (j y a).1).rep).same (bq i)),fun c m=>.inr (eg m),fun hf=>absurd rfl hf⟩)
 ·exact nsE b
theorem AV (hz:(16777216:Nat)=sizeLine) (h:tE K G0 W0 (eR ms) σ H Q):tLst (tA K G0 W0 ms) σ H Q:=by
 refine h.use fun G W le ρ T g o ρ' w e q=>?_
 refine tA.seq le w e q.err fun rs ρ1 e1 vs H1 Ts g1 m a1=>?_
 obtain ⟨ds,ρ2,g2,r,_,i,_,ys,k,f1,f2⟩:=a1.gives m e1
 obtain ⟨v,j,rfl,rfl⟩:=bZ r
 subst f1 f2
 split at j
 ·rename_i n
  cases j
  refine ⟨by rw [Dd] at n ⊢;omega,fun p b=>?_⟩
  have np:p ∉ (ys.map (·.L)).flatten:=fun a=>by
   obtain ⟨y,hm,a⟩:=eg a
   obtain ⟨o,l⟩:=((i.itm (k y hm).1).rep.inH p a).ex
   rw [b] at l;exact nsE l
  refine q _ _ (Wf.doneA (x:=⟨.lst (ys.map (·.d)),.ref p,p :: (ys.map (·.L)).flatten,.u⟩) i k ⟨bq b,.lst aI ((j8 fun y f=>(i.itm (k y f).1).rep).same (bq b)),fun c a=>?_,fun _=>⟨rfl,p,_,rfl,rfl,np,b⟩⟩)
  rcases C8.mp a with e | a
  ·rw [e];exact .inl b
  ·exact .inr (eg a)
 ·exact nsE j
end
end L3
end
section
namespace L3
open PySem L2
section
variable {K:FG} {G G0:Gm} {W W0:D->Sto->Prop} {H H':Hp} {σ:St} {ρ ρ':Sto} {T T':List It3} {g:Nat->Option It3} {x y z:It3} {α β:Type}
def EndS (K:FG) (G:Gm) (W:D->Sto->Prop) (T:List It3) (ρ':Sto) (E:Ends):Except D Flw->Prop
 | .ok .nx=>∀ σ' H' g',Wf K G H' σ' ρ' T g'->E.nx σ' H'
 | .ok .br=>∀ σ' H' g',Wf K G H' σ' ρ' T g'->E.bk σ' H'
 | .ok .ct=>∀ σ' H' g',Wf K G H' σ' ρ' T g'->E.ct σ' H'
 | .ok (.rt d f)=>∀ x σ' H' g',Wf K G H' σ' ρ' (x :: T) g'->x.d=d->x.f=f->E.rt x.v H'
 | .error e=>W e ρ'
theorem EndS.err (h:EndS K G W T ρ' E r):∀ x,r=.error x->W x ρ':=by
 intro x e;subst e;exact h
theorem tS.open (h:tS K G0 W0 m E σ H):∃ G W,Le K G W G0 W0/\∃ ρ T g r ρ',Wf K G H σ ρ T g/\m ρ=some (r,ρ')/\EndS K G W T ρ' E r:=by
 obtain ⟨G,W,le,ρ,T,g,r,ρ',w,e,q⟩:=h
 refine ⟨G,W,le,ρ,T,g,r,ρ',w,e,?_⟩
 cases r with
 | ok r=>cases r <;> exact q
 | error x=>exact q
theorem tS.use (h:tS K G0 W0 m E σ H) {P:Prop} (k:∀ G W,Le K G W G0 W0->∀ ρ T g r ρ',Wf K G H σ ρ T g->m ρ=some (r,ρ')->EndS K G W T ρ' E r->P):P:=by
 obtain ⟨G,W,le,ρ,T,g,r,ρ',w,e,q⟩:=h.open
 exact k G W le ρ T g r ρ' w e q
theorem tS.mk (le:Le K G W G0 W0) (w:Wf K G H σ ρ T g) (e:m ρ=some (r,ρ')) (h:EndS K G W T ρ' E r):tS K G0 W0 m E σ H:=by
 refine ⟨G,W,le,ρ,T,g,r,ρ',w,e,?_⟩
 cases r with
 | ok r=>cases r <;> exact h
 | error x=>exact h
def cn:SM:=ba .nx
noncomputable def aD (a b:SM):SM:=ag a fun f=>match f with
 | .nx=>b
 | o=>ba o
theorem AM (h:tS K G0 W0 cn E σ H):Ad E σ H:=by
 refine h.use fun G W le ρ T g r ρ' w e q=>?_
 cases e
 exact q _ _ _ w
theorem AK (h:tS K G0 W0 (aD a b) E σ H):tSeq (tS K G0 W0 a) (tS K G0 W0 b) E σ H:=by
 refine h.use fun G W le ρ T g r ρ' w e q=>?_
 unfold aD ag at e
 cases p:a ρ with
 | none=>rw [p] at e;exact nsE e
 | some p' =>
  obtain ⟨o,ρ1⟩:=p'
  rw [p] at e
  cases o with
  | error x=>cases e;exact tS.mk le w p q
  | ok f =>
   cases f with
   | nx=>exact tS.mk le (r:=.ok .nx) w p fun σ' H' g' c=>tS.mk le c e q
   | br=>cases e;exact tS.mk le w p q
   | ct=>cases e;exact tS.mk le w p q
   | rt d f=>cases e;exact tS.mk le w p q
def fJ (m:EM):SM:=ag m fun _=>ba .nx
theorem yg (h:tS K G0 W0 (fJ m) E σ H):Ae (tE K G0 W0 m) E σ H:=by
 refine h.use fun G W le ρ T g r ρ' w e q=>?_
 refine tE.seq le w e q.err fun ra ρ1 e1 v H1 ⟨Ts,g1,a,a1⟩=>?_
 cases e1
 exact q _ _ _ (a.sub (Dg Ts T))
def sIf (c:M3 Bool) (a b:SM):SM:=ag c fun t=>if t then a else b
theorem tS_if (h:tS K G0 W0 (sIf c a b) E σ H):tIfS (tT K G0 W0 c) (tS K G0 W0 a) (tS K G0 W0 b) E σ H:=by
 refine h.use fun G W le ρ T g r ρ' w e q=>?_
 refine tT.seq le w e q.err fun t ρ1 e1 H1 g1 d=>?_
 cases t with
 | true=>exact tS.mk le d e1 q
 | false=>exact tS.mk le d e1 q
def nol:Fl->Fl
 | .u=>.u
 | _=>.z
theorem B1 (f:Fl):nol f ≠ .l:=by cases f <;> intro h <;> cases h
theorem B0 (f:Fl):nol f=f\/nol f=.z:=by cases f <;> first | exact .inl rfl | exact .inr rfl
noncomputable def d8 (r:R3):M3 (D × Fl):=match r with
 | .val d f=>ba (d,nol f)
 | .pl i=>fun ρ=>((ρ[i]?).join).map fun p=>(.ok (p.1,.z),lowAt i ρ)
theorem oJ {i:Nat}:d8 (.pl i) ρ=((ρ[i]?).join).map fun p=>(.ok (p.1,.z),lowAt i ρ):=rfl
theorem Ar.val_inv (a:Ar σ (.val d f) v Ts):∃ x,Ts=[x]/\x.d=d/\x.f=f/\x.v=v:=by
 generalize h:R3.val d f=r at a
 cases a with
 | pl _=>cases h
 | val x=>cases h;exact ⟨x,rfl,rfl,rfl,rfl⟩
theorem Ar.take (w:Wf K G H σ ρ (Ts ++ T) g) (a:Ar σ r v Ts) (e:ag (d8 r) k ρ=some (o,ρ')) :
  ∃ p ρ1 g1 x,k p ρ1=some (o,ρ')/\Wf K G H σ ρ1 (x :: T) g1/\x.d=p.1/\(p.2=x.f\/p.2=.z)/\p.2 ≠ .l/\x.v=v:=by
 cases a with
 | val x=>exact ⟨(x.d,nol x.f),ρ,g,x,e,w,rfl,B0 _,B1 _,rfl⟩
 | @pl i v h =>
  unfold ag at e
  rw [oJ] at e
  cases q:(ρ[i]?).join with
  | none=>rw [q] at e;exact nsE e
  | some p =>
   rw [q] at e
   obtain ⟨y,E,C,J,t⟩:=w.slot (d:=p.1) (f:=p.2) q
   obtain ⟨g1,b,h1⟩:=w.lowAt (i:=i)
   obtain ⟨c,m,A,F⟩:=h1 i y E
   have hz:=F rfl
   refine ⟨(p.1,.z),_,g1,c,e,?_,A.1.trans C,.inr rfl,(by intro h;cases h),?_⟩
   ·have s:∀ u:It3,NoRoot c u:=fun u hf=>absurd hz hf
    refine ⟨b.len,b.sl,b.sv,b.okS,fun u hu=>?_,b.ss,fun j u n I hu=>?_,?_,b.base,b.pro,⟨fun u hu hf a D=>?_,b.fx.frS,b.fx.bin,b.fx.ob,b.fx.lvS⟩⟩
    ·rcases C8.mp hu with h | hu
     ·rw [h];exact b.okS i c m
     ·exact b.okT u hu
    ·rcases C8.mp hu with h | hu
     ·rw [h]
      refine ⟨?_,s _⟩
      by_cases B:j=i
      ·subst B
       rw [m] at n;cases n
       exact s _
      ·exact b.ss j i u c B n m
     ·exact b.st j u n I hu
    ·exact List.pairwise_cons.mpr ⟨fun u hu=>⟨s _,(b.st i c m u hu).2⟩,b.tt⟩
    ·rcases C8.mp hu with h | hu
     ·rw [h] at hf;exact absurd hz hf
     ·exact b.fx.frT u hu hf a D
   ·rw [A.2.1]
    rw [h] at t;cases t;rfl
theorem Wf.store {i:Nat} (w:Wf K G H σ ρ (x :: T) g) (hi:i < ρ.length) (I:G.pr i=false) (hf:f=x.f\/f=.z) (A:f ≠ .l) :
  Wf K G H (σ.set i (some x.v)) (ρ.set i (some (x.d,f))) T (fun j=>if j=i then some { x with f:=f } else g j):=by
 have y:i < σ.length:=by rw [w.len];exact hi
 have r:=List.pairwise_cons.mp w.tt
 have ox:=w.okT x C2
 have nx:∀ u:It3,NoRoot x u->NoRoot { x with f:=f } u:=fun u h q=>by
  rcases hf with e | e
  ·exact h (by rw [<- e];exact q)
  ·exact absurd e q
 have val:∀ j u,(if j=i then some { x with f:=f } else g j)=some u->(j=i/\u = { x with f:=f })\/(j ≠ i/\g j=some u):=fun j u h=>by
  by_cases q:j=i
  ·rw [if_pos q] at h;cases h;exact .inl ⟨q,rfl⟩
  ·rw [if_neg q] at h;exact .inr ⟨q,h⟩
 refine ⟨by rw [List.length_set,List.length_set];exact w.len,fun j=>?_,fun j u h=>?_,fun j u h=>?_,fun u hu=>w.okT u (C3 _ hu),fun j k a b n h1 h2=>?_,fun j a h b t=>?_,r.2,w.base,fun j B=>?_,⟨fun u hu=>w.fx.frT u (C3 _ hu),fun j u h s m a p=>?_,w.fx.bin,w.fx.ob,fun j u h D=>?_⟩⟩
 ·rw [bO hi]
  by_cases q:j=i
  ·rw [if_pos q,if_pos q];rfl
  ·rw [if_neg q,if_neg q];exact w.sl j
 ·rcases val j u h with ⟨rfl,rfl⟩ | ⟨n,h⟩
  ·rw [List.getElem?_set_self y]
  ·rw [List.getElem?_set_ne (fun z=>n z.symm)];exact w.sv j u h
 ·rcases val j u h with ⟨rfl,rfl⟩ | ⟨n,h⟩
  ·refine ⟨ox.rep,fun q=>?_,ox.src⟩
   rcases hf with e | e
   ·subst e
    exact ox.own q
   ·exact absurd e q
  ·exact w.okS j u h
 ·rcases val j a h1 with ⟨F,p⟩ | ⟨L,o⟩
  ·rcases val k b h2 with ⟨C,E⟩ | ⟨J,c⟩
   ·exact absurd (F.trans C.symm) n
   ·rw [p];exact nx b (w.st k b c x C2).2
  ·rcases val k b h2 with ⟨C,E⟩ | ⟨J,c⟩
   ·rw [E];exact (w.st j a o x C2).1
   ·exact w.ss j k a b n o c
 ·rcases val j a h with ⟨rfl,rfl⟩ | ⟨n,h⟩
  ·exact ⟨nx b (r.1 b t).1,(r.1 b t).2⟩
  ·exact w.st j a h b (C3 _ t)
 ·have n:j ≠ i:=fun z=>by subst z;rw [I] at B;cases B
  rw [List.getElem?_set_ne (fun z=>n z.symm)];exact w.pro j B
 ·rcases val j u h with ⟨_,rfl⟩ | ⟨n,h⟩
  ·rcases hf with e | e
   ·exact w.fx.frT x C2 (by rw [<- e];exact m) a p
   ·exact absurd e m
  ·exact w.fx.frS j u h s m a p
 ·rcases val j u h with ⟨_,rfl⟩ | ⟨n,h⟩
  ·exact absurd D A
  ·exact w.fx.lvS j u h D
def bj (i:Nat) (m:EM):SM:=ag m fun r=>ag (d8 r) fun p=>fun ρ=>if i < ρ.length then some (.ok .nx,ρ.set i (some p)) else none
theorem AJ {i:Nat} (b:G0.pr i=false) (h:tS K G0 W0 (bj i m) E σ H):vm (tE K G0 W0 m) (sJ i) E σ H:=by
 refine h.use fun G W le ρ T g r ρ' w e q=>?_
 refine tE.seq le w e q.err fun ra ρ1 e1 v H1 ⟨Ts,g1,c,a1⟩=>?_
 obtain ⟨p,ρ2,g2,x,a,j,f1,f2,f4,d⟩:=a1.take c e1
 split at a
 ·rename_i hi
  cases a
  have:=j.store (f:=p.2) hi (by rw [le.pr];exact b) f2 f4
  rw [f1,d] at this
  exact q _ _ _ this
 ·exact nsE a
def a7 (np:Nat) (m:EM):SM:=ag m fun r=>match r with
 | .val d f=>ba (.rt d f)
 | .pl i=>fun ρ=>match (ρ[i]?).join with
  | some (d,.u)=>if i < np then some (.ok (.rt d .z),lowAt i ρ) else some (.ok (.rt d .u),ρ.set i none)
  | some (d,_)=>some (.ok (.rt d .z),lowAt i ρ)
  | none=>none
theorem Wf.move {i:Nat} (w:Wf K G H σ ρ T g) (f:G.pr i=false) (e:g i=some y):Wf K G H σ (ρ.set i none) (y :: T) (fun j=>if j=i then none else g j):=by
 have hi:i < ρ.length:=by
  have:=w.sl i
  rw [e] at this
  exact dw this.symm
 have val:∀ j u,(if j=i then none else g j)=some u->j ≠ i/\g j=some u:=fun j u h=>by
  by_cases q:j=i
  ·rw [if_pos q] at h;exact nsE h
  ·rw [if_neg q] at h;exact ⟨q,h⟩
 refine ⟨by rw [List.length_set];exact w.len,fun j=>?_,fun j u h=>w.sv j u (val j u h).2,fun j u h=>w.okS j u (val j u h).2,fun u hu=>?_,fun j k a b n h1 h2=>w.ss j k a b n (val j a h1).2 (val k b h2).2,fun j a h b c=>?_,?_,w.base,w.pro,⟨fun u hu hf a d=>?_,fun j u h=>w.fx.frS j u (val j u h).2,w.fx.bin,w.fx.ob,fun j u h=>w.fx.lvS j u (val j u h).2⟩⟩
 ·rw [bO hi]
  by_cases q:j=i
  ·rw [if_pos q,if_pos q];rfl
  ·rw [if_neg q,if_neg q];exact w.sl j
 ·rcases C8.mp hu with h | hu
  ·rw [h];exact w.okS i y e
  ·exact w.okT u hu
 ·obtain ⟨n,h⟩:=val j a h
  rcases C8.mp c with h' | c
  ·rw [h'];exact ⟨w.ss j i a y n h e,w.ss i j y a (Ne.symm n) e h⟩
  ·exact w.st j a h b c
 ·exact List.pairwise_cons.mpr ⟨fun u hu=>w.st i y e u hu,w.tt⟩
 ·rcases C8.mp hu with h | hu
  ·subst h;exact w.fx.frS i u e f hf a d
  ·exact w.fx.frT u hu hf a d
theorem AL {np:Nat} (o:∀ i,np<=i->G0.pr i=false) (h:tS K G0 W0 (a7 np m) E σ H):tRet (tE K G0 W0 m) E σ H:=by
 refine h.use fun G W le ρ T g r ρ' w e q=>?_
 refine tE.seq le w e q.err fun ra ρ1 e1 v H1 ⟨Ts,g1,j,a1⟩=>?_
 have low:∀ {i:Nat} {d:D} {f:Fl},(ρ1[i]?).join=some (d,f)->some ((.ok (.rt d .z),lowAt i ρ1):Except D Flw × Sto)=some (r,ρ')->Ar σ (.pl i) v Ts->E.rt v H1:=fun {i d f} b J a=>by
  cases J
  have I:ag (d8 (.pl i)) (fun p=>ba (Flw.rt p.1 p.2)) ρ1=some (.ok (.rt d .z),L3.lowAt i ρ1):=by
   unfold ag
   rw [oJ,b]
   rfl
  obtain ⟨p,ρ2,g2,x,k,n,f1,f2,_,B⟩:=a.take j I
  have c:Flw.rt p.1 p.2=Flw.rt d .z/\ρ2=L3.lowAt i ρ1:=by
   unfold ba at k
   injection k with k
   injection k with c s
   injection c with c
   exact ⟨c,s⟩
  obtain ⟨c,s⟩:=c
  injection c with e7 e8
  subst s
  rw [<- B]
  have A:=Wf.lowT (Ts:=[x]) n
  exact q (c8 x) σ H1 g2 A (f1.trans e7) rfl
 cases a1 with
 | val x=>cases e1;exact q x σ H1 g1 j rfl rfl
 | @pl i v h =>
  dsimp only at e1
  cases b:(ρ1[i]?).join with
  | none=>rw [b] at e1;exact nsE e1
  | some p =>
   obtain ⟨d,f⟩:=p
   rw [b] at e1
   cases f with
   | u =>
    dsimp only at e1
    split at e1
    ·exact low b e1 (.pl h)
    ·cases e1
     obtain ⟨y,C,L,F,t⟩:=j.slot b
     have n:=Wf.move j (by rw [le.pr];exact o i (by omega)) C
     have:=q y σ H1 _ n L F
     rw [h] at t
     cases t
     exact this
   | l=>exact low b e1 (.pl h)
   | z=>exact low b e1 (.pl h)
def bS (c:M3 Bool) (b:SM):Nat->SM
 | 0=>fun _=>none
 | n+1=>ag c fun t=>if t then ag b (fun f=>match f with
   | .nx=>bS c b n
   | .ct=>bS c b n
   | .br=>ba .nx
   | .rt d f=>ba (.rt d f)) else ba .nx
def fH (c:M3 Bool) (b:SM):SM:=fun ρ=>open Classical in if h:∃ n r,bS c b n ρ=some r then some (Classical.choose (Classical.choose_spec h)) else none
theorem fD:∀ {n:Nat} {ρ:Sto} {r:Except D Flw × Sto},bS c b n ρ=some r->bS c b (n+1) ρ=some r
 | 0,ρ,r,e=>by cases e
 | n+1,ρ,r,e=>by
  unfold bS at e ⊢
  unfold ag at e ⊢
  cases h:c ρ with
  | none=>rw [h] at e;exact nsE e
  | some p =>
   obtain ⟨o,ρ1⟩:=p
   rw [h] at e
   cases o with
   | error x=>exact e
   | ok t =>
    cases t with
    | false=>exact e
    | true =>
     simp only [if_true] at e ⊢
     cases h2:b ρ1 with
     | none=>rw [h2] at e;exact nsE e
     | some p2 =>
      obtain ⟨a,ρ2⟩:=p2
      rw [h2] at e
      cases a with
      | error x=>exact e
      | ok f =>
       cases f with
       | nx=>exact fD (n:=n) e
       | ct=>exact fD (n:=n) e
       | br=>exact e
       | rt d f=>exact e
theorem jf {n m:Nat} (h:n<=m) (e:bS c b n ρ=some r):bS c b m ρ=some r:=by
 induction h with
 | refl=>exact e
 | step _ ih=>exact fD ih
theorem oX (e:fH c b ρ=some r):∃ n,bS c b n ρ=some r:=by
 unfold fH at e
 split at e
 ·rename_i h
  have a:=Classical.choose_spec (Classical.choose_spec h)
  injection e with e
  exact ⟨Classical.choose h,by rw [<- e];exact a⟩
 ·exact nsE e
theorem vg (h:tS K G0 W0 (fH c b) E σ H):vf (tT K G0 W0 c) (tS K G0 W0 b) E σ H:=by
 refine h.use fun G W le ρ T g r ρ' w e q=>?_
 obtain ⟨n,e⟩:=oX e
 refine ⟨fun m σ H=>∃ ρ g,Wf K G H σ ρ T g/\bS c b m ρ=some (r,ρ'),⟨n,ρ,g,w,e⟩,?_⟩
 rintro m σ1 H1 ⟨ρ1,g1,k,e1⟩
 cases m with
 | zero=>exact nsE e1
 | succ m =>
  unfold bS at e1
  refine tT.seq le k e1 q.err fun t ρ2 a H2 g2 i=>?_
  cases t with
  | false=>cases a;exact q _ _ _ i
  | true =>
   refine ⟨fun σ H=>∃ ρ g,Wf K G H σ ρ T g/\bS c b m ρ=some (r,ρ'),fun σ' H' h=>⟨m,Nat.lt_succ_self m,h⟩,?_⟩
   simp only [if_true] at a
   unfold ag at a
   cases p:b ρ2 with
   | none=>rw [p] at a;exact nsE a
   | some p2 =>
    obtain ⟨o,ρ3⟩:=p2
    rw [p] at a
    cases o with
    | error x=>cases a;exact tS.mk le i p q
    | ok f =>
     cases f with
     | nx=>exact tS.mk le (r:=.ok .nx) i p fun σ' H' g' j=>⟨ρ3,g',j,a⟩
     | ct=>exact tS.mk le (r:=.ok .ct) i p fun σ' H' g' j=>⟨ρ3,g',j,a⟩
     | br=>cases a;exact tS.mk le (r:=.ok .br) i p q
     | rt d f=>cases a;exact tS.mk le (r:=.ok (.rt d f)) i p q
end
end L3
end
section
namespace L3
open PySem L2
abbrev Fn:=List (D × Fl)->Option (Except D (D × Fl) × List (D × Fl))
def prs (ρ:Sto):List R3->Option (List (D × Fl))
 | []=>some []
 | .pl i :: rs=>match (ρ[i]?).join,prs ρ rs with
  | some p,some ps=>some (p :: ps)
  | _,_=>none
 | .val d f :: rs=>match prs ρ rs with
  | some ps=>some ((d,f) :: ps)
  | _=>none
def eU (rs:List R3):List Nat:=(pls rs).filter fun i=>decide (2<=(pls rs).count i)
def back:List R3->List (D × Fl)->List (D × Fl)->Sto->Sto
 | .pl i :: rs,p :: ps,q :: qs,ρ=>back rs ps qs (if p.2=.z then ρ else ρ.set i (some (q.1,if q.2=.z then .z else p.2)))
 | .val _ _ :: rs,_ :: ps,_ :: qs,ρ=>back rs ps qs ρ
 | _,_,_,ρ=>ρ
def fu (F:Fn) (ms:M3 (List R3)):EM:=ag ms fun rs=>fun ρ=>match prs (frz (eU rs) ρ) rs with
 | none=>none
 | some ps=>match F ps with
  | none=>none
  | some (.ok p,qs)=>if qs.length=ps.length then some (.ok (.val p.1 p.2),back rs ps qs (frz (eU rs) ρ)) else none
  | some (.error e,qs)=>if qs.length=ps.length then some (.error e,back rs ps qs (frz (eU rs) ρ)) else none
section
variable {K:FG} {G G0:Gm} {W W0:D->Sto->Prop} {H H':Hp} {σ:St} {ρ ρ':Sto} {T T':List It3} {g:Nat->Option It3} {x y z:It3} {α β:Type}
structure Back1 (K:FG) (H H':Hp) (ps:List It3) (p q:It3):Prop where
 z:p.f=.z->q=p
 v:q.v=p.v
 f:q.f=p.f\/q.f=.z
 arg:Arg K H' q
 src:∀ c ∈ q.L,H c=none\/cJ ps c
 there:p.f=.u->∀ b,p.v=.ref b->∃ o,H' b=some o
structure BehindX (K:FG) (H H':Hp) (ps qs:List It3):Prop where
 frame:∀ b o,H b=some o->(∀ p ∈ ps,p.f=.u->p.v ≠ .ref b)->H' b=some o
 back:Paired (Back1 K H H' ps) ps qs
 apart:qs.Pairwise Apart3
structure Behind (K:FG) (H H':Hp) (ps qs:List It3) (x:It3):Prop extends BehindX K H H' ps qs where
 rep:Rep K H' x.d x.v x.L
 own:x.f ≠ .z->iW x.d=true/\∃ a L',x.v=.ref a/\x.L=a :: L'/\a ∉ L'/\H a=none
 src:∀ c ∈ x.L,H c=none\/cJ ps c
 apx:∀ q ∈ qs,Apart3 x q
def spF (XA:D->Value->Option Addr->Hp->Prop) (K:FG) (F:Fn):Sp:=fun vs H Q E=>∃ (ps:List It3) (o:Except D (D × Fl)) (fs:List (D × Fl)),vs=ps.map (·.v)/\(∀ p ∈ ps,Arg K H p)/\ps.Pairwise Apart3/\F (ps.map fun p=>(p.d,p.f))=some (o,fs)/\match o with
 | .ok p=>∀ x qs H',Behind K H H' ps qs x->x.d=p.1->x.f=p.2->qs.map (fun q=>(q.d,q.f))=fs->Q x.v H'
 | .error e=>∀ qs H' cls da,BehindX K H H' ps qs->qs.map (fun q=>(q.d,q.f))=fs->XA e cls da H'->E cls da H'
theorem Ars.args:∀ {rs:List R3} {vs:List V} {Ts T:List It3} {c:List (D × Fl)},Ars σ rs vs Ts->Wf K G H σ ρ (Ts ++ T) g->(∀ i,2<=(pls rs).count i->∀ y,g i=some y->y.f=.z)->prs ρ rs=some c ->
  ∃ ps:List It3,ps.map (fun p=>(p.d,p.f))=c/\ps.map (·.v)=vs/\ps.Pairwise Apart3/\(∀ p ∈ ps,(∃ i,R3.pl i ∈ rs/\g i=some p)\/p ∈ Ts)/\Paired (fun r p=>match r with | .pl i=>g i=some p | .val _ _=>p ∈ Ts) rs ps
 | [],_,_,T,c,.nil,w,_,e=>by cases e;exact ⟨[],rfl,rfl,.nil,fun _ h=>(by cases h),.nil⟩
 | r :: rs,_,_,T,c,.cons (v:=v0) (Ts:=T0) (Us:=U0) a as,w,hd,e=>by
  have E:Wf K G H σ ρ (U0 ++ (T0 ++ T)) g:=by rw [<- List.append_assoc];exact w
  have o:∀ i,2<=(pls rs).count i->∀ y,g i=some y->y.f=.z:=fun i s=>hd i (by
   cases r with
   | pl j=>show 2<=(j :: pls rs).count i;rw [List.count_cons];omega
   | val _ _=>exact s)
  cases a with
  | @pl i v h =>
   unfold prs at e
   cases q:(ρ[i]?).join with
   | none=>rw [q] at e;exact nsE e
   | some p0 =>
    cases l:prs ρ rs with
    | none=>rw [q,l] at e;exact nsE e
    | some pfs' =>
     rw [q,l] at e
     cases e
     obtain ⟨ps,f1,f2,u,f4,A⟩:=Ars.args as E o l
     obtain ⟨y,m,I,F,C⟩:=w.slot (d:=p0.1) (f:=p0.2) q
     have J:y.v=v0:=by rw [h] at C;cases C;rfl
     refine ⟨y :: ps,by rw [Dn,f1,I,F],by rw [Dn,f2,J],List.pairwise_cons.mpr ⟨fun p b=>?_,u⟩,fun p b=>?_,.cons m ?_⟩
     ·rcases f4 p b with ⟨j,n,k⟩ | b
      ·by_cases B:i=j
       ·subst B
        have s:2<=(pls (R3.pl i :: rs)).count i:=by
         show 2<=(i :: pls rs).count i
         rw [List.count_cons_self]
         have:=List.count_pos_iff.mpr (j9 n)
         omega
        have hz:=hd i s y m
        have t:=hd i s p k
        exact ⟨fun q=>absurd hz q,fun q=>absurd t q⟩
       ·exact ⟨w.ss i j y p B m k,w.ss j i p y (Ne.symm B) k m⟩
      ·exact w.st i y m p (C6 _ (C6 _ b))
     ·rcases C8.mp b with h' | b
      ·rw [h'];exact .inl ⟨i,C2,m⟩
      ·rcases f4 p b with ⟨j,n,k⟩ | b
       ·exact .inl ⟨j,C3 _ n,k⟩
       ·exact .inr (C6 _ b)
     ·exact Paired.mapP A fun r p h=>by
       cases r with
       | pl j=>exact h
       | val _ _=>exact C6 _ h
  | val x =>
   unfold prs at e
   cases l:prs ρ rs with
   | none=>rw [l] at e;exact nsE e
   | some pfs' =>
    rw [l] at e
    cases e
    obtain ⟨ps,f1,f2,u,f4,A⟩:=Ars.args as E o l
    refine ⟨x :: ps,by rw [Dn,f1],by rw [Dn,f2],List.pairwise_cons.mpr ⟨fun p b=>?_,u⟩,fun p b=>?_,.cons (C7 _ C2) ?_⟩
    ·rcases f4 p b with ⟨j,n,k⟩ | b
     ·exact (w.st j p k x (C6 _ (C7 _ C2))).symm
     ·have t1:=(List.pairwise_append.mp w.tt).1
      exact ((List.pairwise_append.mp t1).2.2 p b x C2).symm
    ·rcases C8.mp b with h' | b
     ·rw [h'];exact .inr (C7 _ C2)
     ·rcases f4 p b with ⟨j,n,k⟩ | b
      ·exact .inl ⟨j,C3 _ n,k⟩
      ·exact .inr (C6 _ b)
    ·exact Paired.mapP A fun r p h=>by
      cases r with
      | pl j=>exact h
      | val _ _=>exact C6 _ h
theorem eW:∀ {rs:List R3} {ps qs:List It3} {ρ:Sto} {g:Nat->Option It3},(∀ j,(g j).map (fun x=>(x.d,x.f))=(ρ[j]?).join)->rs.length=ps.length->Paired (Back1 K H H' T) ps qs->(∀ i,R3.pl i ∈ rs->i < ρ.length) ->
  ∃ g':Nat->Option It3,(∀ j,(g' j).map (fun x=>(x.d,x.f))=((back rs (ps.map fun p=>(p.d,p.f)) (qs.map fun q=>(q.d,q.f)) ρ)[j]?).join)/\(back rs (ps.map fun p=>(p.d,p.f)) (qs.map fun q=>(q.d,q.f)) ρ).length = ρ.length /\
   ∀ j:Nat,(g' j=g j/\∀ (k:Nat) (p:It3),rs[k]?=some (R3.pl j)->ps[k]?=some p->p.f=.z)\/∃ (k:Nat) (p q:It3),rs[k]?=some (R3.pl j)/\ps[k]?=some p/\qs[k]?=some q/\p.f ≠ .z/\g' j=some q
 | [],[],_,ρ,g,hg,_,.nil,_=>⟨g,hg,rfl,fun j=>.inl ⟨rfl,fun k p h=>by simp at h⟩⟩
 | [],_ :: _,_,_,_,_,h,_,_=>by cases h
 | _ :: _,[],_,_,_,_,h,_,_=>by cases h
 | .val d f :: rs,p :: ps,_,ρ,g,hg,hl,.cons (b:=q) (l₂:=qs) b1 bs,hi=>by
  obtain ⟨g',h1,h2,h3⟩:=eW (rs:=rs) hg (by simpa using hl) bs fun i h=>hi i (C3 _ h)
  refine ⟨g',h1,h2,fun j=>?_⟩
  rcases h3 j with ⟨e,h⟩ | ⟨k,a,n,a1,a2,m,l⟩
  ·refine .inl ⟨e,fun k a e1 c=>?_⟩
   cases k with
   | zero=>simp at e1
   | succ k=>exact h k a (by simpa using e1) (by simpa using c)
  ·exact .inr ⟨k+1,a,n,by simpa using a1,by simpa using a2,by simpa using m,l⟩
 | .pl i :: rs,p :: ps,_,ρ,g,hg,hl,.cons (b:=q) (l₂:=qs) b1 bs,hi=>by
  have s:=hi i C2
  by_cases hz:p.f=.z
  ·have r:back (.pl i :: rs) ((p :: ps).map fun p=>(p.d,p.f)) ((q :: qs).map fun q=>(q.d,q.f)) ρ=back rs (ps.map fun p=>(p.d,p.f)) (qs.map fun q=>(q.d,q.f)) ρ:=by
    show back rs _ _ (if p.f=.z then ρ else _)=_
    rw [if_pos hz]
   rw [r]
   obtain ⟨g',h1,h2,h3⟩:=eW (rs:=rs) hg (by simpa using hl) bs fun i h=>hi i (C3 _ h)
   refine ⟨g',h1,h2,fun j=>?_⟩
   rcases h3 j with ⟨e,h⟩ | ⟨k,a,n,a1,a2,m,l⟩
   ·refine .inl ⟨e,fun k a e1 c=>?_⟩
    cases k with
    | zero=>simp at c;rw [<- c];exact hz
    | succ k=>exact h k a (by simpa using e1) (by simpa using c)
   ·exact .inr ⟨k+1,a,n,by simpa using a1,by simpa using a2,by simpa using m,l⟩
  ·have r:back (.pl i :: rs) ((p :: ps).map fun p=>(p.d,p.f)) ((q :: qs).map fun q=>(q.d,q.f)) ρ=back rs (ps.map fun p=>(p.d,p.f)) (qs.map fun q=>(q.d,q.f)) (ρ.set i (some (q.d,q.f))):=by
    show back rs _ _ (if p.f=.z then ρ else ρ.set i (some (q.d,if q.f=.z then .z else p.f)))=_
    rw [if_neg hz]
    have:(if q.f=.z then Fl.z else p.f)=q.f:=by
     by_cases h:q.f=.z
     ·rw [if_pos h,h]
     ·rw [if_neg h]
      rcases b1.f with h' | h'
      ·exact h'.symm
      ·exact absurd h' h
    rw [this]
   rw [r]
   obtain ⟨g',h1,h2,h3⟩:=eW (rs:=rs) (ρ:=ρ.set i (some (q.d,q.f))) (g:=fun j=>if j=i then some q else g j) (fun j=>by
    rw [bO s]
    by_cases e:j=i
    ·rw [if_pos e,if_pos e];rfl
    ·rw [if_neg e,if_neg e];exact hg j) (by simpa using hl) bs fun i h=>by rw [List.length_set];exact hi i (C3 _ h)
   refine ⟨g',h1,by rw [h2,List.length_set],fun j=>?_⟩
   rcases h3 j with ⟨e,h⟩ | ⟨k,a,n,a1,a2,m,l⟩
   ·by_cases o:j=i
    ·rw [if_pos o] at e
     exact .inr ⟨0,p,q,by simp [o],rfl,rfl,hz,e⟩
    ·rw [if_neg o] at e
     refine .inl ⟨e,fun k a e1 c=>?_⟩
     cases k with
     | zero=>simp at e1;exact absurd e1.symm o
     | succ k=>exact h k a (by simpa using e1) (by simpa using c)
   ·exact .inr ⟨k+1,a,n,by simpa using a1,by simpa using a2,by simpa using m,l⟩
theorem m9:∀ {rs:List R3} {a:List (D × Fl)},prs ρ rs=some a->rs.length=a.length
 | [],a,e=>by cases e;rfl
 | .pl i :: rs,a,e=>by
  unfold prs at e
  cases q:(ρ[i]?).join with
  | none=>rw [q] at e;exact nsE e
  | some p =>
   cases b:prs ρ rs with
   | none=>rw [q,b] at e;exact nsE e
   | some ps=>rw [q,b] at e;cases e;rw [Du,Du,m9 b]
 | .val d f :: rs,a,e=>by
  unfold prs at e
  cases b:prs ρ rs with
  | none=>rw [b] at e;exact nsE e
  | some ps=>rw [b] at e;cases e;rw [Du,Du,m9 b]
theorem qD:∀ {rs:List R3} {a:List (D × Fl)},prs ρ rs=some a->∀ i,R3.pl i ∈ rs->i < ρ.length
 | [],a,e,i,h=>by cases h
 | .pl i :: rs,a,e,j,h=>by
  unfold prs at e
  cases q:(ρ[i]?).join with
  | none=>rw [q] at e;exact nsE e
  | some p =>
   cases b:prs ρ rs with
   | none=>rw [q,b] at e;exact nsE e
   | some ps =>
    rcases C8.mp h with h | h
    ·cases h;exact dw q
    ·exact qD b j h
 | .val d f :: rs,a,e,j,h=>by
  unfold prs at e
  cases b:prs ρ rs with
  | none=>rw [b] at e;exact nsE e
  | some ps =>
   rcases C8.mp h with h | h
   ·cases h
   ·exact qD b j h
theorem Paired.at:∀ {l:List α} {m:List β} {k:Nat} {a:α} {b:β},Paired F l m->l[k]?=some a->m[k]?=some b->F a b
 | _,_,_,_,_,.nil,h,_=>by simp at h
 | _,_,0,_,_,.cons r _,h,h'=>by simp at h h';subst h h';exact r
 | _,_,k+1,_,_,.cons _ t,h,h'=>Paired.at (k:=k) t (by simpa using h) (by simpa using h')
theorem Paired.exL:∀ {l:List α} {m:List β} {k:Nat} {a:α},Paired F l m->l[k]?=some a->∃ b,m[k]?=some b/\F a b
 | _,_,_,_,.nil,h=>by simp at h
 | _,_,0,_,.cons r _,h=>by simp at h;subst h;exact ⟨_,rfl,r⟩
 | _,_,k+1,_,.cons _ t,h=>let ⟨b,h1,h2⟩:=Paired.exL (k:=k) t (by simpa using h);⟨b,by simpa using h1,h2⟩
theorem Paired.exR:∀ {l:List α} {m:List β} {k:Nat} {b:β},Paired F l m->m[k]?=some b->∃ a,l[k]?=some a/\F a b
 | _,_,_,_,.nil,h=>by simp at h
 | _,_,0,_,.cons r _,h=>by simp at h;subst h;exact ⟨_,rfl,r⟩
 | _,_,k+1,_,.cons _ t,h=>let ⟨b,h1,h2⟩:=Paired.exR (k:=k) t (by simpa using h);⟨b,by simpa using h1,h2⟩
theorem ce {R:α->α->Prop} {l:List α} (p:l.Pairwise R) (e:∀ a b,R a b->R b a) {i j:Nat} {a b:α} (n:i ≠ j) (f:l[i]?=some a) (d:l[j]?=some b):R a b:=by
 obtain ⟨h1,e1⟩:=De.mp f
 obtain ⟨h2,c⟩:=De.mp d
 have q:=List.pairwise_iff_getElem.mp p
 rcases Nat.lt_or_ge i j with h | h
 ·rw [<- e1,<- c];exact q i j h1 h2 h
 ·rw [<- e1,<- c];exact e _ _ (q j i h2 h1 (by omega))
theorem Wf.after (w:Wf K G H σ ρ (Ts ++ T) g) (e:prs ρ rs=some pfs) (f1:ps.map (fun p=>(p.d,p.f))=pfs) (f4:∀ p ∈ ps,(∃ i,R3.pl i ∈ rs/\g i=some p)\/p ∈ Ts) (f5:Paired (fun r p=>match r with | .pl i=>g i=some p | .val _ _=>p ∈ Ts) rs ps) (B:BehindX K H H' ps qs) :
  ∃ g',Wf K G H' σ (L3.back rs pfs (qs.map fun q=>(q.d,q.f)) ρ) T g' /\
   ∀ x,Rep K H' x.d x.v x.L->(x.f ≠ .z->iW x.d=true/\∃ a L',x.v=.ref a/\x.L=a :: L'/\a ∉ L'/\H a=none)->(∀ c ∈ x.L,H c=none\/cJ ps c)->(∀ q ∈ qs,Apart3 x q)->Wf K G H' σ (L3.back rs pfs (qs.map fun q=>(q.d,q.f)) ρ) (x :: T) g':=by
 subst f1
 have W:rs.length=ps.length:=by have:=m9 e;rwa [Dd] at this
 obtain ⟨g',h1,h2,h3⟩:=eW (K:=K) (H:=H) (H':=H') (T:=ps) (rs:=rs) (ps:=ps) (qs:=qs) w.sl W B.back (qD e)
 have F:∀ p ∈ ps,Itm (Ts ++ T) g p:=fun p l=>by
  rcases f4 p l with ⟨i,_,P⟩ | h
  ·exact .inl ⟨i,P⟩
  ·exact .inr (C6 _ h)
 have Y:∀ b o,H b=some o->∃ o',H' b=some o':=fun b o S=>by
  by_cases h:∀ p ∈ ps,p.f=.u->p.v ≠ .ref b
  ·exact ⟨o,B.frame b o S h⟩
  ·have h':∃ p,p ∈ ps/\p.f=.u/\p.v=.ref b:=by
    refine Classical.byContradiction fun n=>h fun p l hf J=>n ⟨p,l,hf,J⟩
   obtain ⟨p,l,hf,J⟩:=h'
   obtain ⟨k,hk,ek⟩:=List.mem_iff_getElem.mp l
   obtain ⟨q,e1,b1⟩:=Paired.exL B.back (show ps[k]?=some p by rw [C9 hk,ek])
   exact b1.there hf b J
 have ka:∀ j z,g j=some z->(∀ (k:Nat) (p:It3),rs[k]?=some (R3.pl j)->ps[k]?=some p->p.f=.z)->∀ p ∈ ps,Apart3 p z:=fun j z ej hu p l=>by
  rcases f4 p l with ⟨i,hi,P⟩ | h
  ·by_cases ij:i=j
   ·subst ij
    have ar:p=z:=DJ (P.symm.trans ej)
    subst ar
    have hz:p.f=.z:=by
     obtain ⟨k,hk,ek⟩:=List.mem_iff_getElem.mp hi
     have X:rs[k]?=some (R3.pl i):=by rw [C9 hk,ek]
     obtain ⟨A,e1,E⟩:=Paired.exL f5 X
     have E:g i=some A:=E
     rw [P] at E
     cases E
     exact hu k p X e1
    exact ⟨fun q=>absurd hz q,fun q=>absurd hz q⟩
   ·exact ⟨w.ss i j p z ij P ej,w.ss j i z p (Ne.symm ij) ej P⟩
  ·exact (w.st j z ej p (C6 _ h)).symm
 have kt:∀ z ∈ T,∀ p ∈ ps,Apart3 p z:=fun z hz p l=>by
  rcases f4 p l with ⟨i,hi,P⟩ | h
  ·exact w.st i p P z (C7 _ hz)
  ·exact (List.pairwise_append.mp w.tt).2.2 p h z hz
 have keep:∀ z,ItOk K G H z->(∀ p ∈ ps,Apart3 p z)->ItOk K G H' z:=fun z Q V=>by
  refine Q.keep (M:=fun b=>∃ p ∈ ps,p.f=.u/\p.v=.ref b) (fun b o S n=>B.frame b o S fun p l hf J=>n ⟨p,l,hf,J⟩) (fun b ⟨p,l,hf,J⟩=>?_) (fun b S ⟨p,l,hf,J⟩=>?_)
  ·obtain ⟨_,a,L',e1,E,_⟩:=(w.itm (F p l)).own (by rw [hf];intro q;cases q)
   rw [J] at e1
   cases e1
   exact (w.itm (F p l)).rep.inH b (by rw [E];exact C2)
  ·exact (V p l).1 (by rw [hf];intro q;cases q) b J S
 have ae:∀ k p q,ps[k]?=some p->qs[k]?=some q->ItOk K G H' q:=fun k p q e1 E=>by
  have b:=Paired.at B.back e1 E
  refine ⟨b.arg.rep,fun hf=>?_,fun c U=>?_⟩
  ·obtain ⟨m,a,L',v1,v2,v3⟩:=b.arg.own hf
   refine ⟨m,a,L',v1,v2,v3,fun hu=>?_⟩
   have pf:p.f=.u:=by
    rcases b.f with h | h
    ·rw [<- h];exact hu
    ·rw [h] at hu;cases hu
   obtain ⟨_,a',a4,e3,_,_,e5⟩:=(w.itm (F p (Df e1))).own (by rw [pf];intro q;cases q)
   rw [<- b.v,v1] at e3
   cases e3
   exact e5 pf
  ·rcases b.src c U with h | ⟨A,C,h⟩
   ·exact .inl (w.h0none h)
   ·exact (w.itm (F A C)).src c h
 have kq:∀ z,ItOk K G H z->(∀ p ∈ ps,Apart3 p z)->∀ k p q,ps[k]?=some p->qs[k]?=some q->Apart3 z q:=fun z Q V k p q e1 E=>by
  have b:=Paired.at B.back e1 E
  refine ⟨fun hf a ev hm=>?_,fun hf a ev=>?_⟩
  ·rcases b.src a hm with h | ⟨A,C,U⟩
   ·obtain ⟨_,a',L',s,O,_⟩:=Q.own hf
    rw [ev] at s;cases s
    obtain ⟨o,I⟩:=(Q.rep.inH a (by rw [O];exact C2)).ex
    rw [h] at I;exact nsE I
   ·exact (V A C).2 hf a ev U
  ·have pf:p.f ≠ .z:=fun Z=>by
    have:=b.z Z
    rw [this] at hf
    exact hf Z
   exact (V p (Df e1)).1 pf a (by rw [<- b.v];exact ev)
 have old:∀ j z,g' j=some z->(g j=some z/\∀ p ∈ ps,Apart3 p z)\/∃ k p,rs[k]?=some (R3.pl j)/\ps[k]?=some p/\qs[k]?=some z:=fun j z D=>by
  rcases h3 j with ⟨e1,hu⟩ | ⟨k,p,q,a1,a2,y,_,a5⟩
  ·rw [e1] at D
   exact .inl ⟨D,ka j z D hu⟩
  ·rw [a5] at D
   cases D
   exact .inr ⟨k,p,a1,a2,y⟩
 have wf:Wf K G H' σ (L3.back rs (ps.map fun p=>(p.d,p.f)) (qs.map fun q=>(q.d,q.f)) ρ) T g':=by
  refine ⟨by rw [h2];exact w.len,h1,fun j z D=>?_,fun j z D=>?_,fun z hz=>keep z (w.okT z (C7 _ hz)) (kt z hz),fun i j a b n R eb=>?_,fun j z D t N=>?_,(List.pairwise_append.mp w.tt).2.1,fun b o e n=>?_,w.pro,⟨fun u hu=>w.fx.frT u (C7 _ hu),fun j u h l hf a R=>?_,fun b S=>?_,fun b o h=>?_,fun j u h W=>?_⟩⟩
  ·rcases old j z D with ⟨e1,_⟩ | ⟨k,p,a1,a2,y⟩
   ·exact w.sv j z e1
   ·have ep:g j=some p:=by
     obtain ⟨A,s,O⟩:=Paired.exL f5 a1
     rw [a2] at s;cases s
     exact O
    rw [(Paired.at B.back a2 y).v]
    exact w.sv j p ep
  ·rcases old j z D with ⟨e1,ap⟩ | ⟨k,p,a1,a2,y⟩
   ·exact keep z (w.okS j z e1) ap
   ·exact ae k p z a2 y
  ·rcases old i a R with ⟨e1,ap⟩ | ⟨k,p,a1,a2,y⟩
   ·rcases old j b eb with ⟨E,_⟩ | ⟨k',A,b1,b2,b3⟩
    ·exact w.ss i j a b n e1 E
    ·exact (kq a (w.okS i a e1) ap k' A b b2 b3).1
   ·rcases old j b eb with ⟨E,ap⟩ | ⟨k',A,b1,b2,b3⟩
    ·exact (kq b (w.okS j b E) ap k p a a2 y).2
    ·have kk:k ≠ k':=fun z=>by
      subst z
      rw [a1] at b1
      cases b1
      exact n rfl
     exact (ce B.apart (fun _ _=>Apart3.symm) kk y b3).1
  ·rcases old j z D with ⟨e1,ap⟩ | ⟨k,p,a1,a2,y⟩
   ·exact w.st j z e1 t (C7 _ N)
   ·exact (kq t (w.okT t (C7 _ N)) (kt t N) k p z a2 y).symm
  ·refine B.frame b o (w.base b o e n) fun p l hf J=>?_
   obtain ⟨_,a,L',e1,_,_,e3⟩:=(w.itm (F p l)).own (by rw [hf];intro q;cases q)
   rw [J] at e1
   cases e1
   rcases e3 hf with h | h
   ·rw [e] at h;cases h
   ·exact n h
  ·rcases old j u h with ⟨e1,_⟩ | ⟨k,p,a1,a2,y⟩
   ·exact w.fx.frS j u e1 l hf a R
   ·have b:=Paired.at B.back a2 y
    have ep:g j=some p:=by
     obtain ⟨A,s,O⟩:=Paired.exL f5 a1
     rw [a2] at s;cases s
     exact O
    refine w.fx.frS j p ep l (fun Z=>?_) a (by rw [<- b.v];exact R)
    have:=b.z Z
    rw [this] at hf
    exact hf Z
  ·obtain ⟨o,I⟩:=w.fx.bin b S
   exact Y b o I
  ·obtain ⟨o',I⟩:=w.fx.ob b o h
   exact Y b o' I
  ·rcases old j u h with ⟨e1,_⟩ | ⟨k,p,a1,a2,y⟩
   ·exact w.fx.lvS j u e1 W
   ·have b:=Paired.at B.back a2 y
    have ep:g j=some p:=by
     obtain ⟨A,s,O⟩:=Paired.exL f5 a1
     rw [a2] at s;cases s
     exact O
    rw [b.v]
    refine w.fx.lvS j p ep ?_
    rcases b.f with h | h
    ·rw [<- h];exact W
    ·rw [h] at W;cases W
 refine ⟨g',wf,fun x rx ox sx ax=>?_⟩
 have kx:∀ z,ItOk K G H z->(∀ p ∈ ps,Apart3 p z)->Apart3 z x:=fun z Q V=>by
  refine ⟨fun hf a ev hm=>?_,fun hf a ev hm=>?_⟩
  ·rcases sx a hm with h | ⟨A,C,U⟩
   ·obtain ⟨_,a',L',s,O,_⟩:=Q.own hf
    rw [ev] at s;cases s
    obtain ⟨o,I⟩:=(Q.rep.inH a (by rw [O];exact C2)).ex
    rw [h] at I;exact nsE I
   ·exact (V A C).2 hf a ev U
  ·obtain ⟨_,a',L',s,_,_,q4⟩:=ox hf
   rw [ev] at s;cases s
   obtain ⟨o,I⟩:=(Q.rep.inH a hm).ex
   rw [q4] at I;exact nsE I
 refine ⟨wf.len,wf.sl,wf.sv,wf.okS,fun z hz=>?_,wf.ss,fun j z D t N=>?_,?_,wf.base,wf.pro,⟨fun u hu hf a R=>?_,wf.fx.frS,wf.fx.bin,wf.fx.ob,wf.fx.lvS⟩⟩
 ·rcases C8.mp hz with h | hz
  ·rw [h]
   refine ⟨rx,fun hf=>?_,fun c U=>?_⟩
   ·obtain ⟨m,a,L',v1,v2,v3,v4⟩:=ox hf
    exact ⟨m,a,L',v1,v2,v3,fun _=>.inl (w.h0none v4)⟩
   ·rcases sx c U with h | ⟨A,C,h⟩
    ·exact .inl (w.h0none h)
    ·exact (w.itm (F A C)).src c h
  ·exact wf.okT z hz
 ·rcases C8.mp N with h | N
  ·rw [h]
   rcases old j z D with ⟨e1,ap⟩ | ⟨k,p,a1,a2,y⟩
   ·exact kx z (w.okS j z e1) ap
   ·exact (ax z (Df y)).symm
  ·exact wf.st j z D t N
 ·exact List.pairwise_cons.mpr ⟨fun t N=>(kx t (w.okT t (C7 _ N)) (kt t N)).symm,wf.tt⟩
 ·rcases C8.mp hu with h | hu
  ·subst h
   obtain ⟨_,a',L',s,_,_,q4⟩:=ox hf
   rw [R] at s;cases s
   exact w.ornone q4
  ·exact wf.fx.frT u hu hf a R
theorem qR {i a:Nat} (h:(ρ[i]?).join=none):((L3.lowAt a ρ)[i]?).join=none:=by
 unfold L3.lowAt
 split
 ·rename_i d hd
  rw [bO (dw hd)]
  by_cases b:i=a
  ·subst b;rw [h] at hd;exact nsE hd
  ·rw [if_neg b];exact h
 ·rename_i d hd
  rw [bO (dw hd)]
  by_cases b:i=a
  ·subst b;rw [h] at hd;exact nsE hd
  ·rw [if_neg b];exact h
 ·exact h
theorem kX {i:Nat}:∀ {is:List Nat} {ρ:Sto},(ρ[i]?).join=none->((L3.frz is ρ)[i]?).join=none
 | [],ρ,h=>h
 | a :: is,ρ,h=>kX (is:=is) (ρ:=L3.lowAt a ρ) (qR h)
def EX (XA:D->Value->Option Addr->Hp->Prop) (K:FG) (G:Gm) (W:D->Sto->Prop) (σ:St):XK:=fun cls da H'=>∃ e ρ' T' g',Wf K G H' σ ρ' T' g'/\XA e cls da H'/\W e ρ'
theorem yk (h:tE K G0 W0 (fu F ms) σ H Q):tA K G0 W0 ms σ H fun vs H1=>spF XA K F vs H1 Q (EX XA K G0 W0 σ):=by
 refine h.use fun G W le ρ T g o ρ' w e q=>?_
 refine tA.seq le w e q.err fun rs ρ1 e1 vs H1 Ts g1 u a1=>?_
 obtain ⟨g2,b,D⟩:=Wf.frz (is:=eU rs) u
 cases j:prs (L3.frz (eU rs) ρ1) rs with
 | none=>rw [j] at e1;exact nsE e1
 | some pfs =>
  rw [j] at e1
  dsimp only at e1
  have hd:∀ i,2<=(pls rs).count i->∀ y,g2 i=some y->y.f=.z:=fun i M y t=>by
   have hm:i ∈ eU rs:=DA.mpr ⟨List.count_pos_iff.mp (by omega),by simpa using M⟩
   have s1:=b.sl i
   rw [t] at s1
   have N:∃ y0,g1 i=some y0:=by
    cases E:g1 i with
    | some y0=>exact ⟨y0,rfl⟩
    | none =>
     exfalso
     have s2:=u.sl i
     rw [E] at s2
     have:=kX (is:=eU rs) s2.symm
     rw [this] at s1
     cases s1
   obtain ⟨y0,n⟩:=N
   obtain ⟨Z,c,_,Y⟩:=D i y0 n
   rw [t] at c
   cases c
   exact Y hm
  obtain ⟨ps,f1,f2,P,f4,C⟩:=Ars.args a1 b hd j
  have hit:∀ p ∈ ps,Itm (Ts ++ T) g2 p:=fun p k=>by
   rcases f4 p k with ⟨i,_,R⟩ | h
   ·exact .inl ⟨i,R⟩
   ·exact .inr (C6 _ h)
  have d:∀ p ∈ ps,Arg K H1 p:=fun p k=>⟨(b.itm (hit p k)).rep,fun hf=>by
   obtain ⟨m,a,L',v1,v2,v3,_⟩:=(b.itm (hit p k)).own hf
   exact ⟨m,a,L',v1,v2,v3⟩⟩
  subst f2
  cases c:F pfs with
  | none=>rw [c] at e1;exact nsE e1
  | some r =>
   obtain ⟨out,fs⟩:=r
   rw [c] at e1
   refine ⟨ps,out,fs,rfl,d,P,by rw [f1];exact c,?_⟩
   cases out with
   | ok p =>
    dsimp only at e1
    split at e1
    ·cases e1
     intro x qs H' B U L s
     obtain ⟨g',l,I⟩:=Wf.after b j f1 f4 C B.toBehindX
     have A:=I x B.rep B.own B.src B.apx
     rw [s] at A
     rw [<- U,<- L] at q
     exact q x.v H' ⟨[x],g',A,.val x⟩
    ·exact nsE e1
   | error er =>
    dsimp only at e1
    split at e1
    ·cases e1
     intro qs H' cls da B s J
     obtain ⟨g',l,_⟩:=Wf.after b j f1 f4 C B
     rw [s] at l
     obtain ⟨ρ5,X,O,V,S⟩:=le.ex H' σ _ T g' er l q
     exact ⟨er,ρ5,X,O,V,J,S⟩
    ·exact nsE e1
end
end L3
end
section
namespace L3
open PySem L2
def d5 (ρ:Sto):Nat->List (D × Fl)->Option (List (D × Fl))
 | _,[]=>some []
 | i,(d,.z) :: ps=>(d5 ρ (i+1) ps).map fun r=>(d,.z) :: r
 | i,(d,f) :: ps=>match (ρ[i]?).join,d5 ρ (i+1) ps with
  | some (d',f'),some r=>if f'=f\/f'=.z then some ((d',f') :: r) else none
  | _,_=>none
def entry (n:Nat) (ps:List (D × Fl)):Sto:=ps.map some ++ List.replicate (n - ps.length) none
def fn0 (n:Nat) (b:SM):Fn:=fun ps=>match b (entry n ps) with
 | some (.ok .nx,ρ')=>(d5 ρ' 0 ps).map fun fs=>(.ok (.non,.z),fs)
 | some (.ok (.rt d f),ρ')=>(d5 ρ' 0 ps).map fun fs=>(.ok (d,f),fs)
 | some (.error e,ρ')=>(d5 ρ' 0 ps).map fun fs=>(.error e,fs)
 | _=>none
def pJ (b:Bool) (p:D × Fl):D × Fl:=if b then (p.1,.z) else p
noncomputable def fnM (mask:List Bool) (n:Nat) (b:SM):Fn:=fun ps=>if ps.length=mask.length then fn0 n b (List.zipWith pJ mask ps) else none
section
variable {K:FG} {G:Gm} {W:D->Sto->Prop} {H H':Hp} {σ:St} {ρ ρ':Sto} {T T':List It3} {g:Nat->Option It3} {x y z:It3} {α β:Type}
def gOf (H:Hp) (pr:Nat->Bool) (σ0:St) (ps:List It3):Gm:=⟨H,fun b=>∃ p ∈ ps,p.f=.u/\p.v=.ref b,pr,σ0,H,cJ ps,fun i=>(ps[i]?).map (·.v)⟩
theorem uK {n:Nat} (a:ps.length<=n) (i:Nat):((entry n ps)[i]?).join=ps[i]?:=by
 unfold entry
 by_cases h:i < ps.length
 ·rw [DB (by simpa using h),Di]
  cases ps[i]? <;> rfl
 ·rw [List.getElem?_append_right (by simpa using h),List.getElem?_replicate,List.getElem?_eq_none (by omega)]
  split <;> rfl
theorem jh {n:Nat} {vs:List V} {i:Nat} (h:vs[i]?=some v):(vs.map some ++ List.replicate n (none:Option V))[i]?=some (some v):=by
 obtain ⟨hi,e⟩:=De.mp h
 rw [DB (by simpa using hi),Di,h]
 rfl
theorem oB {n:Nat} (w:ps.length<=n) (g:∀ p ∈ ps,Arg K H p) (l:ps.Pairwise Apart3) (k:∀ (i:Nat) (p:It3),ps[i]?=some p->p.f ≠ .z->pr i=true) :
  Wf K (gOf H pr ((ps.map (·.v)).map some ++ List.replicate (n - (ps.map (·.v)).length) none) ps) H ((ps.map (·.v)).map some ++ List.replicate (n - (ps.map (·.v)).length) none) (entry n (ps.map fun p=>(p.d,p.f))) [] (fun i=>ps[i]?):=by
 refine ⟨?_,fun i=>?_,fun i x e=>?_,fun i x e=>?_,fun _ h=>(by cases h),fun i j a b n t r=>?_,fun _ _ _ _ h=>(by cases h),.nil,fun b o e _=>e,fun i _=>rfl,⟨fun _ h=>(by cases h),fun i x e hz hf=>?_,fun b h=>?_,fun b o e=>⟨o,e⟩,fun i x e _=>(by show (ps[i]?).map (·.v)=_;rw [e];rfl)⟩⟩
 ·unfold entry;simp
 ·rw [uK (by simpa using w),Di]
 ·exact jh (by rw [Di,e];rfl)
 ·have hm:=Df e
  refine ⟨(g x hm).rep,fun hf=>?_,fun c s=>.inr ⟨x,hm,s⟩⟩
  obtain ⟨m,a,L',v1,v2,v3⟩:=(g x hm).own hf
  exact ⟨m,a,L',v1,v2,v3,fun hu=>.inr ⟨x,hm,hu,v1⟩⟩
 ·exact (ce l (fun _ _=>Apart3.symm) n t r).1
 ·have hz:pr i=false:=hz
  rw [k i x e hf] at hz;cases hz
 ·obtain ⟨p,hm,hf,u⟩:=h
  obtain ⟨_,a,L',v1,v2,_⟩:=(g p hm).own (by rw [hf];intro q;cases q)
  rw [u] at v1;cases v1
  exact ((g p hm).rep.inH b (by rw [v2];exact C2)).ex
def FinsOk (ρ:Sto) (i:Nat) (ps fs:List (D × Fl)):Prop:=fs.length=ps.length/\∀ (k:Nat) (p:D × Fl),ps[k]?=some p->∃ q,fs[k]?=some q/\(p.2=.z->q=p)/\(p.2 ≠ .z->(ρ[i+k]?).join=some q/\(q.2=p.2\/q.2=.z))
theorem FinsOk.cons {i:Nat} {e d:D × Fl} {ps fs:List (D × Fl)} (h:FinsOk ρ (i+1) ps fs) (hz:e.2=.z->d=e) (g:e.2 ≠ .z->(ρ[i]?).join=some d/\(d.2=e.2\/d.2=.z)):FinsOk ρ i (e :: ps) (d :: fs):=by
 refine ⟨by rw [Du,Du,h.1],fun k p f=>?_⟩
 cases k with
 | zero=>cases f;exact ⟨d,rfl,hz,g⟩
 | succ k =>
  obtain ⟨q,a,b,c⟩:=h.2 k p f
  exact ⟨q,a,b,fun n=>by have:=c n;rwa [show i+1+k=i+(k+1) by omega] at this⟩
theorem jv:∀ {i:Nat} {ps:List (D × Fl)} {fs:List (D × Fl)},d5 ρ i ps=some fs->FinsOk ρ i ps fs
 | i,[],fs,e=>by cases e;exact ⟨rfl,fun k p h=>by cases h⟩
 | i,p0 :: ps,fs,e=>by
  obtain ⟨d,f⟩:=p0
  have key:f ≠ .z->(match (ρ[i]?).join,d5 ρ (i+1) ps with
    | some (d',a),some r=>if a=f\/a=.z then some ((d',a) :: r) else none
    | _,_=>none)=some fs->FinsOk ρ i ((d,f) :: ps) fs:=fun hf e=>by
   cases h:(ρ[i]?).join with
   | none=>rw [h] at e;exact nsE e
   | some p0 =>
    cases h2:d5 ρ (i+1) ps with
    | none=>rw [h,h2] at e;exact nsE e
    | some r =>
     rw [h,h2] at e
     obtain ⟨d',a⟩:=p0
     dsimp only at e
     rcases Decidable.em (a=f\/a=.z) with b | b
     ·rw [if_pos b] at e
      cases e
      exact (jv h2).cons (fun z=>absurd z hf) fun _=>⟨h,b⟩
     ·rw [if_neg b] at e;exact nsE e
  cases f with
  | z =>
   obtain ⟨r,h,h'⟩:=C5.mp (show (d5 ρ (i+1) ps).map (fun r=>(d,Fl.z) :: r)=some fs from e)
   subst h'
   exact (jv h).cons (fun _=>rfl) fun n=>absurd rfl n
  | u=>exact key (by intro q;cases q) e
  | l=>exact key (by intro q;cases q) e
theorem jO {P:Nat->α->β->Prop}:∀ (l:List α) (i:Nat),(∀ (k:Nat) a,l[k]?=some a->∃ b,P (i+k) a b)->∃ m:List β,m.length=l.length/\∀ (k:Nat) a,l[k]?=some a->∃ b,m[k]?=some b/\P (i+k) a b
 | [],i,_=>⟨[],rfl,fun k a h=>by simp at h⟩
 | a :: l,i,h=>by
  obtain ⟨b,c⟩:=h 0 a rfl
  obtain ⟨m,h1,h2⟩:=jO l (i+1) fun k a e=>by
   have:=h (k+1) a (by simpa using e)
   rwa [show i+(k+1)=i+1+k by omega] at this
  refine ⟨b :: m,by simp [h1],fun k d e=>?_⟩
  cases k with
  | zero=>simp at e;subst e;exact ⟨b,rfl,c⟩
  | succ k =>
   obtain ⟨f,e1,g⟩:=h2 k d (by simpa using e)
   exact ⟨f,by simpa using e1,by rwa [show i+(k+1)=i+1+k by omega]⟩
theorem Paired.ofGet:∀ {l:List α} {m:List β},l.length=m.length->(∀ (k:Nat) a b,l[k]?=some a->m[k]?=some b->F a b)->Paired F l m
 | [],[],_,_=>.nil
 | [],_ :: _,h,_=>by cases h
 | _ :: _,[],h,_=>by cases h
 | a :: l,b :: m,h,f=>.cons (f 0 a b rfl rfl) (Paired.ofGet (by simpa using h) fun k a b e1 c=>f (k+1) a b (by simpa using e1) (by simpa using c))
theorem jT {n:Nat} {pr:Nat->Bool} {σ0:St} {ps:List It3} {fs:List (D × Fl)} (C:∀ p ∈ ps,Arg K H p) (I:ps.Pairwise Apart3) (V:∀ (i:Nat) (p:It3),ps[i]?=some p->p.f ≠ .z->pr i=true) (h0:∀ (i:Nat) (p:It3),ps[i]?=some p->σ0[i]?=some (some p.v))
  (w:Wf K (gOf H pr σ0 ps) H' σ ρ T g) (e:d5 ρ 0 (ps.map fun p=>(p.d,p.f))=some fs) :
  ∃ qs,BehindX K H H' ps qs/\qs.map (fun q=>(q.d,q.f))=fs/\(∀ (k:Nat) (p q:It3),ps[k]?=some p->qs[k]?=some q->(p.f=.z/\q=p)\/(p.f ≠ .z/\g k=some q)):=by
 obtain ⟨hl,hs⟩:=jv e
 rw [Dd] at hl
 have frame:∀ b o,H b=some o->(∀ p ∈ ps,p.f=.u->p.v ≠ .ref b)->H' b=some o:=fun b o t R=>w.base b o t fun ⟨p,hm,hf,x⟩=>R p hm hf x
 have there:∀ b o,H b=some o->∃ o',H' b=some o':=fun b o t=>w.fx.ob b o t
 have F:∀ (k:Nat) (p:It3),ps[k]?=some p->p.f=.z->Rep K H' p.d p.v p.L:=fun k p l hz=>by
  refine (C p (Df l)).rep.keep (M:=fun b=>∃ p ∈ ps,p.f=.u/\p.v=.ref b) (fun b o t R=>frame b o t fun p I hf x=>R ⟨p,I,hf,x⟩) (fun b ⟨B,hm,hf,x⟩=>?_) fun b t ⟨B,hm,hf,x⟩=>?_
  ·obtain ⟨_,a,L',v1,v2,_⟩:=(C B hm).own (by rw [hf];intro q;cases q)
   rw [x] at v1;cases v1
   exact (C B hm).rep.inH b (by rw [v2];exact C2)
  ·obtain ⟨j,U,J⟩:=List.mem_iff_getElem.mp hm
   have A:ps[j]?=some B:=by rw [C9 U,J]
   have jk:j ≠ k:=fun z=>by subst z;rw [l] at A;cases A;rw [hz] at hf;cases hf
   exact (ce I (fun _ _=>Apart3.symm) jk A l).1 (by rw [hf];intro q;cases q) b x t
 have one:∀ (k:Nat) (p:It3),ps[k]?=some p->∃ q,(q.d,q.f)=(fs[k]?).getD (p.d,p.f)/\fs[k]?=some (q.d,q.f)/\Back1 K H H' ps p q/\((p.f=.z/\q=p)\/(p.f ≠ .z/\g k=some q)):=fun k p l=>by
  have hm:=Df l
  obtain ⟨q0,f1,f2,f3⟩:=hs k (p.d,p.f) (by rw [Di,l];rfl)
  by_cases hz:p.f=.z
  ·have:=f2 hz
   subst this
   refine ⟨p,by rw [f1];rfl,f1,⟨fun _=>rfl,rfl,.inl rfl,⟨F k p l hz,fun h=>absurd hz h⟩,fun c Q=>.inr ⟨p,hm,Q⟩,fun h=>?_⟩,.inl ⟨hz,rfl⟩⟩
   rw [hz] at h;cases h
  ·obtain ⟨h1,h2⟩:=f3 hz
   rw [Dr] at h1
   obtain ⟨y,W,X,S,y4⟩:=w.slot (d:=q0.1) (f:=q0.2) h1
   have x:y.v=p.v:=by
    have:=w.pro k (V k p l hz)
    rw [y4] at this
    have h0:some (some y.v)=some (some p.v):=this.trans (h0 k p l)
    injection h0 with h0
    injection h0
   have ok:=w.okS k y W
   refine ⟨y,by rw [f1,X,S];rfl,by rw [f1,X,S],⟨fun h=>absurd h hz,x,by rw [S];exact h2,⟨ok.rep,fun hf=>?_⟩,fun c Q=>ok.src c Q,fun hf b t=>?_⟩,.inr ⟨hz,W⟩⟩
   ·obtain ⟨m,a,L',v1,v2,v3,_⟩:=ok.own hf
    exact ⟨m,a,L',v1,v2,v3⟩
   ·obtain ⟨_,a,L',v1,v2,_⟩:=(C p hm).own hz
    rw [t] at v1;cases v1
    obtain ⟨o,ho⟩:=((C p hm).rep.inH b (by rw [v2];exact C2)).ex
    exact there b o ho
 obtain ⟨qs,hq,G⟩:=jO (P:=fun k p q=>fs[k]?=some (q.d,q.f)/\Back1 K H H' ps p q/\((p.f=.z/\q=p)\/(p.f ≠ .z/\g k=some q))) ps 0 fun k p l=>by
  obtain ⟨q,_,a,b,c⟩:=one k p l
  exact ⟨q,by simpa using ⟨a,b,c⟩⟩
 have get:∀ (k:Nat) (p q:It3),ps[k]?=some p->qs[k]?=some q->fs[k]?=some (q.d,q.f)/\Back1 K H H' ps p q/\((p.f=.z/\q=p)\/(p.f ≠ .z/\g k=some q)):=fun k p q s eq=>by
  obtain ⟨q',e1,e2⟩:=G k p s
  rw [eq] at e1
  cases e1
  simpa using e2
 have par:∀ (k:Nat) (q:It3),qs[k]?=some q->∃ p,ps[k]?=some p:=fun k q e=>by
  have Y:=(De.mp e).1
  exact ⟨ps[k]'(by omega),by simp [show k < ps.length by omega]⟩
 refine ⟨qs,⟨frame,Paired.ofGet hq.symm fun k p q s eq=>(get k p q s eq).2.1,?_⟩,?_,fun k p q s eq=>(get k p q s eq).2.2⟩
 ·rw [List.pairwise_iff_getElem]
  intro k j Y U lt
  have l:qs[k]?=some qs[k]:=C9 Y
  have J:qs[j]?=some qs[j]:=C9 U
  have side:∀ (k j:Nat) (q r:It3),k ≠ j->qs[k]?=some q->qs[j]?=some r->NoRoot q r:=fun k j q r n eq Z=>by
   obtain ⟨p,s⟩:=par k q eq
   obtain ⟨B,E⟩:=par j r Z
   obtain ⟨_,b,c⟩:=get k p q s eq
   obtain ⟨_,b',c'⟩:=get j B r E Z
   rcases c with ⟨hz,e⟩ | ⟨hz,e⟩
   ·rw [e];exact fun h=>absurd hz h
   ·rcases c' with ⟨O,N⟩ | ⟨O,N⟩
    ·rw [N]
     intro hf a ea
     exact (ce I (fun _ _=>Apart3.symm) n s E).1 hz a (by rw [<- b.v];exact ea)
    ·exact w.ss k j q r n e N
  exact ⟨side k j _ _ (Dl lt) l J,side j k _ _ (Nat.ne_of_gt lt) J l⟩
 ·refine List.ext_getElem? fun k=>?_
  rw [Di]
  cases eq:qs[k]? with
  | none =>
   have:qs.length<=k:=List.getElem?_eq_none_iff.mp eq
   rw [List.getElem?_eq_none (by omega)]
   rfl
  | some q =>
   obtain ⟨p,s⟩:=par k q eq
   rw [(get k p q s eq).1]
   rfl
theorem lq {n:Nat} {pr:Nat->Bool} {σ0:St} {ps:List It3} {fs:List (D × Fl)} (s:∀ p ∈ ps,Arg K H p) (C:ps.Pairwise Apart3) (j:∀ (i:Nat) (p:It3),ps[i]?=some p->p.f ≠ .z->pr i=true) (h0:∀ (i:Nat) (p:It3),ps[i]?=some p->σ0[i]?=some (some p.v))
  (w:Wf K (gOf H pr σ0 ps) H' σ ρ (x :: T) g) (e:d5 ρ 0 (ps.map fun p=>(p.d,p.f))=some fs):∃ qs,Behind K H H' ps qs x/\qs.map (fun q=>(q.d,q.f))=fs:=by
 obtain ⟨qs,B,f,A⟩:=jT (n:=n) s C j h0 w e
 have ok:=w.okT x C2
 refine ⟨qs,⟨B,ok.rep,fun hf=>?_,fun c E=>ok.src c E,fun q F=>?_⟩,f⟩
 ·obtain ⟨m,a,L',v1,v2,v3,_⟩:=ok.own hf
  exact ⟨m,a,L',v1,v2,v3,w.fx.frT x C2 hf a v1⟩
 ·obtain ⟨k,y,t⟩:=List.mem_iff_getElem.mp F
  have eq:qs[k]?=some q:=by rw [C9 y,t]
  obtain ⟨p,l,b⟩:=Paired.exR B.back eq
  rcases A k p q l eq with ⟨hz,e⟩ | ⟨hz,e⟩
  ·rw [e]
   refine ⟨fun hf a u hm=>?_,fun h=>absurd hz h⟩
   have h1:=w.fx.frT x C2 hf a u
   obtain ⟨o,r⟩:=((s p (Df l)).rep.inH a hm).ex
   have h2:H a=none:=h1
   rw [h2] at r;exact nsE r
  ·exact (w.st k q e x C2).symm
end
end L3
end
section
namespace L3
open PySem L2
def cG:Fl->Fl
 | .u=>.l
 | f=>f
def bf (x:It3):It3:={ x with f:=cG x.f }
def hU:Fl->Fl
 | .l=>.u
 | f=>f
def x5 (x:It3):It3:={ x with f:=hU x.f }
def kR (h:Fl->Fl) (i:Nat) (ρ:Sto):Sto:=match (ρ[i]?).join with
 | some (d,f)=>ρ.set i (some (d,h f))
 | none=>ρ
def aK (h:Fl->Fl) (is:List Nat) (ρ:Sto):Sto:=is.foldl (fun ρ i=>kR h i ρ) ρ
def us (ρ:Sto) (is:List Nat):List Nat:=is.filter fun i=>match (ρ[i]?).join with
 | some (_,.u)=>true
 | _=>false
theorem lentF_z:cG f=.z ↔ f=.z:=by cases f <;> simp [cG]
theorem unlF_z:hU f=.z ↔ f=.z:=by cases f <;> simp [hU]
theorem so (f:Fl):cG f ≠ .u:=by cases f <;> simp [cG]
theorem Az (f:Fl):hU f ≠ .l:=by cases f <;> simp [hU]
section
variable {K:FG} {G G0:Gm} {W W0:D->Sto->Prop} {H H':Hp} {σ:St} {ρ ρ':Sto} {T T':List It3} {g:Nat->Option It3} {x y z:It3} {α β:Type}
theorem qM {i j:Nat}:((kR h i ρ)[j]?).join=if j=i then ((ρ[j]?).join).map (fun p=>(p.1,h p.2)) else (ρ[j]?).join:=by
 unfold kR
 cases e:(ρ[i]?).join with
 | none =>
  by_cases q:j=i
  ·subst q;rw [if_pos rfl,e];rfl
  ·rw [if_neg q]
 | some p =>
  obtain ⟨d,f⟩:=p
  dsimp only
  rw [bO (dw e)]
  by_cases q:j=i
  ·subst q;rw [if_pos rfl,if_pos rfl,e];rfl
  ·rw [if_neg q,if_neg q]
theorem ul {i:Nat}:(kR h i ρ).length = ρ.length:=by
 unfold kR
 split
 ·rw [List.length_set]
 ·rfl
theorem fP (a:∀ f,h (h f)=h f):∀ {is:List Nat} {ρ:Sto} {j:Nat},((aK h is ρ)[j]?).join=if j ∈ is then ((ρ[j]?).join).map (fun p=>(p.1,h p.2)) else (ρ[j]?).join
 | [],ρ,j=>by simp [aK]
 | i :: is,ρ,j=>by
  have e:aK h (i :: is) ρ=aK h is (kR h i ρ):=rfl
  rw [e,fP a,qM]
  by_cases q:j=i
  ·subst q
   by_cases m:j ∈ is
   ·rw [if_pos m,if_pos rfl,if_pos C2]
    cases (ρ[j]?).join with
    | none=>rfl
    | some p=>simp [a]
   ·rw [if_neg m,if_pos rfl,if_pos C2]
  ·by_cases m:j ∈ is
   ·rw [if_pos m,if_neg q,if_pos (C3 _ m)]
   ·rw [if_neg m,if_neg q,if_neg (fun z=>(C8.mp z).elim q m)]
theorem iw:∀ {is:List Nat} {ρ:Sto},(aK h is ρ).length = ρ.length
 | [],ρ=>rfl
 | i :: is,ρ=>by
  have e:aK h (i :: is) ρ=aK h is (kR h i ρ):=rfl
  rw [e,iw,ul]
def dD (G:Gm) (H:Hp) (g:Nat->Option It3) (is:List Nat):Gm :=
 ⟨H,fun b=>∃ j y,j ∉ is/\g j=some y/\y.f=.u/\y.v=.ref b,G.pr,G.σ0,G.orig,fun c=>G.H0 c=none\/G.src c,fun j=>if j ∈ is then (g j).map (·.v) else G.lv j⟩
structure Fk (x y:It3):Prop where
 d:y.d=x.d
 v:y.v=x.v
 L:y.L=x.L
 z:y.f=.z ↔ x.f=.z
theorem Fk.noRoot (a:Fk x x') (b:Fk y y') (h:NoRoot x y):NoRoot x' y':=fun hf c e=>by
 rw [b.L]
 exact h (fun q=>hf (a.z.mpr q)) c (by rw [<- a.v];exact e)
theorem Fk.apart (a:Fk x x') (b:Fk y y') (h:Apart3 x y):Apart3 x' y':=⟨a.noRoot b h.1,b.noRoot a h.2⟩
theorem Fk.refl (x:It3):Fk x x:=⟨rfl,rfl,rfl,Iff.rfl⟩
theorem ke (x:It3):Fk x (bf x):=⟨rfl,rfl,rfl,lentF_z⟩
theorem Cy (x:It3):Fk x (x5 x):=⟨rfl,rfl,rfl,unlF_z⟩
theorem pF {o:Option It3} {h:Fl->Fl} (e:o.map (fun x=>(x.d,x.f))=p):(o.map fun x=>{ x with f:=h x.f }).map (fun x:It3=>(x.d,x.f))=p.map fun p=>(p.1,h p.2):=by
 subst e
 cases o <;> rfl
theorem Wf.enter (w:Wf K G H σ ρ T g) (is:List Nat):Wf K (dD G H g is) H σ (aK cG is ρ) (T.map bf) (fun j=>if j ∈ is then (g j).map bf else g j):=by
 have val:∀ j u,(if j ∈ is then (g j).map bf else g j)=some u->∃ l,g j=some l/\Fk l u/\((j ∈ is/\u=bf l)\/(j ∉ is/\u=l)):=fun j u h=>by
  by_cases q:j ∈ is
  ·rw [if_pos q] at h
   obtain ⟨l,e1,t⟩:=C5.mp h
   subst t
   exact ⟨l,e1,ke l,.inl ⟨q,rfl⟩⟩
  ·rw [if_neg q] at h
   exact ⟨u,h,Fk.refl u,.inr ⟨q,rfl⟩⟩
 refine ⟨by rw [iw];exact w.len,fun j=>?_,fun j u h=>?_,fun j u h=>?_,fun u hu=>?_,fun i j a b n D p=>?_,fun j a h b p=>?_,?_,fun b o e _=>e,w.pro,⟨fun u hu hf a r=>?_,fun j u h B hf a r=>?_,fun b p=>?_,w.fx.ob,fun j u h A=>?_⟩⟩
 ·rw [fP (by intro f;cases f <;> rfl)]
  by_cases q:j ∈ is
  ·rw [if_pos q,if_pos q];exact pF (w.sl j)
  ·rw [if_neg q,if_neg q];exact w.sl j
 ·obtain ⟨l,e,k,_⟩:=val j u h
  rw [k.v];exact w.sv j l e
 ·obtain ⟨l,e,k,c⟩:=val j u h
  have ok:=w.okS j l e
  refine ⟨by rw [k.d,k.v,k.L];exact ok.rep,fun hf=>?_,fun c s=>.inr (ok.src c (by rw [<- k.L];exact s))⟩
  obtain ⟨m,a,L',v1,v2,v3,_⟩:=ok.own (fun q=>hf (k.z.mpr q))
  refine ⟨by rw [k.d];exact m,a,L',by rw [k.v];exact v1,by rw [k.L];exact v2,v3,fun hu=>?_⟩
  rcases c with ⟨_,rfl⟩ | ⟨x,rfl⟩
  ·exact absurd hu (so _)
  ·exact .inr ⟨j,u,x,e,hu,v1⟩
 ·obtain ⟨l,h0,rfl⟩:=Dh.mp hu
  have ok:=w.okT l h0
  refine ⟨ok.rep,fun hf=>?_,fun c s=>.inr (ok.src c s)⟩
  obtain ⟨m,a,L',v1,v2,v3,_⟩:=ok.own (fun q=>hf (lentF_z.mpr q))
  exact ⟨m,a,L',v1,v2,v3,fun hu=>absurd hu (so _)⟩
 ·obtain ⟨a0,e1,k1,_⟩:=val i a D
  obtain ⟨b0,t,k2,_⟩:=val j b p
  exact k1.noRoot k2 (w.ss i j a0 b0 n e1 t)
 ·obtain ⟨a0,e1,k1,_⟩:=val j a h
  obtain ⟨b0,h0,rfl⟩:=Dh.mp p
  exact k1.apart (ke b0) (w.st j a0 e1 b0 h0)
 ·rw [List.pairwise_map]
  exact w.tt.imp fun {a b} h=>(ke a).apart (ke b) h
 ·obtain ⟨l,h0,rfl⟩:=Dh.mp hu
  exact w.fx.frT l h0 (fun q=>hf (lentF_z.mpr q)) a r
 ·obtain ⟨l,e,k,_⟩:=val j u h
  exact w.fx.frS j l e B (fun q=>hf (k.z.mpr q)) a (by rw [<- k.v];exact r)
 ·obtain ⟨j,y,_,e,hf,C⟩:=p
  obtain ⟨_,a,L',v1,v2,_⟩:=(w.okS j y e).own (by rw [hf];intro q;cases q)
  rw [C] at v1;cases v1
  exact ((w.okS j y e).rep.inH b (by rw [v2];exact C2)).ex
 ·obtain ⟨l,e,k,c⟩:=val j u h
  show (if j ∈ is then (g j).map (·.v) else G.lv j)=_
  rcases c with ⟨q,rfl⟩ | ⟨q,rfl⟩
  ·rw [if_pos q,e];rfl
  ·rw [if_neg q];exact w.fx.lvS j u e A
theorem Wf.leave (w:Wf K G H σ ρ T g) (D:∀ i ∈ is,∀ y,g i=some y->y.f=.u) (J:T'.Sublist T) (p:Wf K (dD G H g is) H' σ' ρ2 (R ++ T'.map bf) g2) :
  Wf K G H' σ' (aK hU is ρ2) (R ++ T') (fun j=>if j ∈ is then (g2 j).map x5 else g2 j):=by
 have val:∀ j u,(if j ∈ is then (g2 j).map x5 else g2 j)=some u->∃ r,g2 j=some r/\Fk r u/\((j ∈ is/\u=x5 r)\/(j ∉ is/\u=r)):=fun j u h=>by
  by_cases q:j ∈ is
  ·rw [if_pos q] at h
   obtain ⟨r,e1,F⟩:=C5.mp h
   subst F
   exact ⟨r,e1,Cy r,.inl ⟨q,rfl⟩⟩
  ·rw [if_neg q] at h
   exact ⟨u,h,Fk.refl u,.inr ⟨q,rfl⟩⟩
 have may:∀ a,H a=none\/(∃ j y,j ∉ is/\g j=some y/\y.f=.u/\y.v=.ref a)->G.H0 a=none\/G.bw a:=fun a h=>by
  rcases h with h | ⟨j,y,_,e,hf,Y⟩
  ·exact .inl (w.h0none h)
  ·obtain ⟨_,S,L',v1,_,_,v4⟩:=(w.okS j y e).own (by rw [hf];intro q;cases q)
   rw [Y] at v1;cases v1
   exact v4 hf
 have t:∀ c,H c=none\/(G.H0 c=none\/G.src c)->G.H0 c=none\/G.src c:=fun c h=>by
  rcases h with h | h
  ·exact .inl (w.h0none h)
  ·exact h
 have M:∀ x ∈ T',x ∈ T:=fun x U=>J.subset U
 have C:∀ b o,H b=some o->∃ o',H' b=some o':=fun b o s=>by
  by_cases q:∃ j y,j ∉ is/\g j=some y/\y.f=.u/\y.v=.ref b
  ·exact p.fx.bin b q
  ·exact ⟨o,p.base b o s q⟩
 refine ⟨by rw [iw];exact p.len,fun j=>?_,fun j u h=>?_,fun j u h=>?_,fun u hu=>?_,fun i j a b n I s=>?_,fun j a h b s=>?_,?_,fun b o e n=>?_,p.pro,⟨fun u hu=>?_,fun j u h V hf a Q=>?_,fun b s=>?_,p.fx.ob,fun j u h B=>?_⟩⟩
 ·rw [fP (by intro f;cases f <;> rfl)]
  by_cases q:j ∈ is
  ·rw [if_pos q,if_pos q];exact pF (p.sl j)
  ·rw [if_neg q,if_neg q];exact p.sl j
 ·obtain ⟨r,e,k,_⟩:=val j u h
  rw [k.v];exact p.sv j r e
 ·obtain ⟨r,e,k,c⟩:=val j u h
  have ok:=p.okS j r e
  refine ⟨by rw [k.d,k.v,k.L];exact ok.rep,fun hf=>?_,fun c E=>t c (ok.src c (by rw [<- k.L];exact E))⟩
  obtain ⟨m,a,L',v1,v2,v3,v4⟩:=ok.own (fun q=>hf (k.z.mpr q))
  refine ⟨by rw [k.d];exact m,a,L',by rw [k.v];exact v1,by rw [k.L];exact v2,v3,fun hu=>?_⟩
  rcases c with ⟨q,rfl⟩ | ⟨Z,rfl⟩
  ·cases A:r.f with
   | u=>exact may a (v4 A)
   | l =>
    have B:=p.fx.lvS j r e A
    have B:(if j ∈ is then (g j).map (·.v) else G.lv j)=some r.v:=B
    rw [if_pos q] at B
    obtain ⟨y,O,ev⟩:=C5.mp B
    have N:=D j q y O
    obtain ⟨_,S,P,b1,_,_,W⟩:=(w.okS j y O).own (by rw [N];intro q;cases q)
    rw [ev,v1] at b1;cases b1
    exact W N
   | z=>exact absurd (unlF_z.mpr A) hf
  ·exact may a (v4 hu)
 ·rcases Db.mp hu with hu | hu
  ·have ok:=p.okT u (C6 _ hu)
   refine ⟨ok.rep,fun hf=>?_,fun c E=>t c (ok.src c E)⟩
   obtain ⟨m,a,L',v1,v2,v3,v4⟩:=ok.own hf
   exact ⟨m,a,L',v1,v2,v3,fun h=>may a (v4 h)⟩
  ·have ok:=w.okT u (M u hu)
   exact ⟨(p.okT (bf u) (C7 _ (Dh.mpr ⟨u,hu,rfl⟩))).rep,ok.own,ok.src⟩
 ·obtain ⟨a0,e1,k1,_⟩:=val i a I
  obtain ⟨b0,F,k2,_⟩:=val j b s
  exact k1.noRoot k2 (p.ss i j a0 b0 n e1 F)
 ·obtain ⟨a0,e1,k1,_⟩:=val j a h
  rcases Db.mp s with s | s
  ·exact k1.apart (Fk.refl b) (p.st j a0 e1 b (C6 _ s))
  ·have:=p.st j a0 e1 (bf b) (C7 _ (Dh.mpr ⟨b,s,rfl⟩))
   exact k1.apart (y:=bf b) ⟨rfl,rfl,rfl,lentF_z.symm⟩ this
 ·have h:=List.pairwise_append.mp p.tt
  refine List.pairwise_append.mpr ⟨h.1,w.tt.sublist J,fun a I b s=>?_⟩
  exact (Fk.refl a).apart (y:=bf b) ⟨rfl,rfl,rfl,lentF_z.symm⟩ (h.2.2 a I (bf b) (Dh.mpr ⟨b,s,rfl⟩))
 ·have s:=w.base b o e n
  refine p.base b o s fun q=>?_
  rcases may b (.inr q) with h | h
  ·rw [e] at h;cases h
  ·exact n h
 ·rcases Db.mp hu with hu | hu
  ·exact p.fx.frT u (C6 _ hu)
  ·exact w.fx.frT u (M u hu)
 ·obtain ⟨r,e,k,_⟩:=val j u h
  exact p.fx.frS j r e V (fun q=>hf (k.z.mpr q)) a (by rw [<- k.v];exact Q)
 ·obtain ⟨o,X⟩:=w.fx.bin b s
  exact C b o X
 ·obtain ⟨r,e,k,c⟩:=val j u h
  rcases c with ⟨q,rfl⟩ | ⟨q,rfl⟩
  ·exact absurd B (Az _)
  ·have:=p.fx.lvS j u e B
   have this:(if j ∈ is then (g j).map (·.v) else G.lv j)=some u.v:=this
   rw [if_neg q] at this
   exact this
theorem zx (w:Wf K G H σ ρ T g) (a:∀ i ∈ is,∀ y,g i=some y->y.f=.u):∀ (H':Hp) (σ':St) (ρ2:Sto) (b:List It3) (g2:Nat->Option It3),Wf K (dD G H g is) H' σ' ρ2 b g2->∃ g3,Wf K G H' σ' (aK hU is ρ2) [] g3 :=
 fun H' σ' ρ2 b g2 c=>⟨_,by simpa using Wf.leave (T':=[]) (R:=[]) w a (List.nil_sublist T) (by simpa using c.sub (List.nil_sublist b))⟩
end
end L3
end
section
namespace L3
open PySem L2
section
variable {K:FG} {G G0:Gm} {W W0:D->Sto->Prop} {H H':Hp} {σ:St} {ρ ρ':Sto} {T T':List It3} {g:Nat->Option It3} {x y z:It3} {α β:Type}
def Walk (K:FG) (J:It) (H1:Hp) (ys:List It3) (ds:List D):Prop:=∃ els:List It3,(∀ x ∈ els,x.f=.z/\Rep K H1 x.d x.v x.L/\∀ c ∈ x.L,dH ys c) /\
 ∀ (M:Addr->Prop) (H':Hp),(∀ b,M b->MutAt H1 b)->(∀ b o,H1 b=some o->¬ M b->H' b=some o)->(∀ y ∈ ys,∀ b ∈ y.L,¬ M b) ->
  (∀ (i:Nat) (d:D),ds[i]?=some d->J.go i H'/\∀ x a,J.yld i H' x a->∃ w,New K H' a (cJ els) w/\w.d=d/\w.f=.z/\w.v=x)/\J.stop ds.length H'
abbrev IM:=M3 (List R3 × List D)
def EndI (K:FG) (G:Gm) (W:D->Sto->Prop) (σ:St) (T:List It3) (ρ':Sto) (R:It->Hp->Prop):Except D (List R3 × List D)->Prop
 | .ok p=>∀ J H1 vs Ts g1 ys,Wf K G H1 σ ρ' (Ts ++ T) g1->Ars σ p.1 vs Ts->(∀ y ∈ ys,(∃ i,i ∈ pls p.1/\g1 i=some y)\/y ∈ Ts)->Walk K J H1 ys p.2->R J H1
 | .error e=>W e ρ'
def tI (K:FG) (G0:Gm) (W0:D->Sto->Prop) (m:IM):TI:=fun σ H R=>∃ G W,Le K G W G0 W0/\∃ ρ T g r ρ',Wf K G H σ ρ T g/\m ρ=some (r,ρ')/\EndI K G W σ T ρ' R r
theorem tI.seq (le:Le K G W G0 W0) (w:Wf K G H σ ρ T g) (e:ag m k ρ=some (r,ρ')) (he:∀ x,r=.error x->W x ρ') (h:∀ p ρ1,k p ρ1=some (r,ρ')->EndI K G W σ T ρ1 P (.ok p)):tI K G0 W0 m σ H P:=by
 unfold ag at e
 cases q:m ρ with
 | none=>rw [q] at e;exact nsE e
 | some p =>
  obtain ⟨o,ρ1⟩:=p
  rw [q] at e
  cases o with
  | error x=>cases e;exact ⟨G,W,le,ρ,T,g,.error x,ρ',w,q,he x rfl⟩
  | ok ra=>exact ⟨G,W,le,ρ,T,g,.ok ra,ρ1,w,q,h ra ρ1 e⟩
def Bnd (K:FG) (pr:Nat->Bool) (tg:TG) (bnd:D->Sto->Option Sto):Prop:=∀ (G:Gm) (H:Hp) (σ:St) (ρ ρ1:Sto) (T:List It3) (g:Nat->Option It3) (w:It3) (Q:St->Hp->Prop),G.pr=pr->w.f=.z->Wf K G H σ ρ (w :: T) g->bnd w.d ρ=some ρ1 ->
 (∀ σ2 g2,Wf K G H σ2 ρ1 T g2->Q σ2 H)->tg w.v σ H Q
def aq (i:Nat) (d:D) (ρ:Sto):Option Sto:=if i < ρ.length then some (ρ.set i (some (d,.z))) else none
theorem gb {i:Nat} (b:pr i=false):Bnd K pr (sJ i) (aq i):=fun G H σ ρ ρ1 T g w Q a hz wf e q=>by
 unfold aq at e
 split at e
 ·rename_i hi
  cases e
  exact q _ _ (wf.store (f:=.z) hi (by rw [a];exact b) (.inr rfl) (by intro h;cases h))
 ·exact nsE e
def xY (K:FG) (pr:Nat->Bool) (tg:TGs) (bnd:List D->Sto->Option Sto):Prop:=∀ (G:Gm) (H:Hp) (σ:St) (ρ ρ1:Sto) (T:List It3) (g:Nat->Option It3) (ws:List It3) (Q:St->Hp->Prop),G.pr=pr->(∀ w ∈ ws,w.f=.z)->Wf K G H σ ρ (ws ++ T) g->bnd (ws.map (·.d)) ρ=some ρ1 ->
 (∀ σ2 g2,Wf K G H σ2 ρ1 T g2->Q σ2 H)->tg (ws.map (·.v)) σ H Q
def lL:List D->Sto->Option Sto
 | [],ρ=>some ρ
 | _,_=>none
def cH (b:D->Sto->Option Sto) (bs:List D->Sto->Option Sto):List D->Sto->Option Sto
 | [],_=>none
 | d :: ds,ρ=>match b d ρ with
  | some ρ1=>bs ds ρ1
  | none=>none
theorem qc:xY K pr gNil lL:=fun G H σ ρ ρ1 T g ws Q _ _ wf e q=>by
 cases ws with
 | nil=>cases e;exact ⟨rfl,q _ _ wf⟩
 | cons w ws=>exact nsE e
theorem jB (h1:Bnd K pr tg b) (h2:xY K pr tgs bs):xY K pr (As tg tgs) (cH b bs):=fun G H σ ρ ρ1 T g ws Q a hz wf e q=>by
 cases ws with
 | nil=>exact nsE e
 | cons w ws =>
  have e:(match b w.d ρ with | some ρ1=>bs (ws.map (·.d)) ρ1 | none=>none)=some ρ1:=e
  cases c:b w.d ρ with
  | none=>rw [c] at e;exact nsE e
  | some ρ2 =>
   rw [c] at e
   exact ⟨w.v,ws.map (·.v),rfl,h1 G H σ ρ ρ2 (ws ++ T) g w _ a (hz w C2) wf c fun σ2 g2 f=>h2 G H σ2 ρ2 ρ1 T g2 ws Q a (fun x h=>hz x (C3 _ h)) f e q⟩
def lK (n:Nat) (bs:List D->Sto->Option Sto):D->Sto->Option Sto
 | .tup ds,ρ=>if ds.length=n then bs ds ρ else none
 | _,_=>none
theorem Reps.split:∀ {ds:List D} {vs:List V} {L:List Addr},Reps (Rep K H) ds vs L->∃ ws:List It3,ws.map (·.d)=ds/\ws.map (·.v)=vs/\(∀ w ∈ ws,w.f=.z/\Rep K H w.d w.v w.L/\∀ c ∈ w.L,c ∈ L)
 | _,_,_,.nil=>⟨[],rfl,rfl,fun _ h=>(by cases h)⟩
 | _,_,_,.cons (d:=d) (v:=v) (L:=L) r rs=>by
  obtain ⟨ws,h1,h2,h3⟩:=Reps.split rs
  refine ⟨⟨d,v,L,.z⟩ :: ws,by simp [h1],by simp [h2],fun w hw=>?_⟩
  rcases C8.mp hw with h | h
  ·subst h;exact ⟨rfl,r,fun c a=>C6 _ a⟩
  ·exact ⟨(h3 w h).1,(h3 w h).2.1,fun c a=>C7 _ ((h3 w h).2.2 c a)⟩
theorem Wf.pushAll:∀ {ws:List It3} {T:List It3},Wf K G H σ ρ T g->(∀ w ∈ ws,w.f=.z/\Rep K H w.d w.v w.L/\∀ c ∈ w.L,dy T g c/\(G.H0 c=none\/G.src c))->Wf K G H σ ρ (ws ++ T) g
 | [],T,w,_=>w
 | x :: ws,T,w,h=>by
  have i:=Wf.pushAll (ws:=ws) w fun y a=>h y (C3 _ a)
  obtain ⟨hz,e,b⟩:=h x C2
  refine i.push (Ks:=fun c=>c ∈ x.L) ⟨Same.refl _,e,fun c h=>.inr h,fun q=>absurd hz q⟩ fun c m=>⟨⟨(b c m).1.1,fun y a hf=>?_⟩,(b c m).2⟩
  rcases Db.mp a with q | q
  ·exact absurd (h y (C3 _ q)).1 hf
  ·exact (b c m).1.2 y q hf
theorem sV {n:Nat} (h2:xY K pr tgs bs):Bnd K pr (gTup K n tgs) (lK n bs):=fun G H σ ρ ρ1 T g w Q j hz wf e q=>by
 have r:=(wf.okT w C2).rep
 obtain ⟨d,v,L,f⟩:=w
 cases r with
 | @tup xs a vs _ hs rs =>
  have e:(if xs.length=n then bs xs ρ else none)=some ρ1:=e
  split at e
  ·rename_i l
   obtain ⟨ws,h1,h3,h⟩:=Reps.split rs
   refine ⟨a,vs,rfl,SqT.of hs,?_,?_⟩
   ·rw [<- h3,Dd,<- l,<- h1,Dd]
   ·have m:Wf K G H σ ρ (ws ++ (⟨.tup xs,.ref a,L,f⟩ :: T)) g:=wf.pushAll fun u hu=>⟨(h u hu).1,(h u hu).2.1,fun c k=>⟨wf.kid (y:=⟨.tup xs,.ref a,L,f⟩) (.inr C2) ((h u hu).2.2 c k) fun hf=>absurd hz hf,(wf.okT _ C2).src c ((h u hu).2.2 c k)⟩⟩
    have o:Wf K G H σ ρ (ws ++ T) g:=m.sub ((List.Sublist.refl ws).append (List.sublist_cons_self _ _))
    rw [<- h3]
    exact h2 G H σ ρ ρ1 T g ws Q j (fun u hu=>(h u hu).1) o (by rw [h1];exact e) q
  ·exact nsE e
 | non=>exact nsE e
 | bl b=>exact nsE e
 | int i=>exact nsE e
 | str s=>exact nsE e
 | lst _ _=>exact nsE e
 | lstF _ _=>exact nsE e
 | dK _ _ _=>exact nsE e
 | dT _ _ _=>exact nsE e
 | exc _ _=>exact nsE e
 | excV _ _ _ _ _ _ _ _=>exact nsE e
noncomputable def dJ (bnd:D->Sto->Option Sto) (b:SM):List D->SM
 | []=>ba .nx
 | d :: ds=>fun ρ=>match bnd d ρ with
  | none=>none
  | some ρ1=>ag b (fun f=>match f with
   | .nx=>dJ bnd b ds
   | .ct=>dJ bnd b ds
   | .br=>ba .nx
   | .rt d f=>ba (.rt d f)) ρ1
noncomputable def cN (im:IM) (bnd:D->Sto->Option Sto) (b:SM):SM:=ag im fun p=>fun ρ=>(dJ bnd b p.2 (aK cG (us ρ (pls p.1)) ρ)).map fun r=>(r.1,aK hU (us ρ (pls p.1)) r.2)
theorem us_u (w:Wf K G H σ ρ T g):∀ i ∈ us ρ is,∀ y,g i=some y->y.f=.u:=fun i hi y a=>by
 have h:=(DA.mp hi).2
 have s:=w.sl i
 rw [a] at s
 have s:some (y.d,y.f)=(ρ[i]?).join:=s
 rw [<- s] at h
 cases hf:y.f with
 | u=>rfl
 | l=>rw [hf] at h;cases h
 | z=>rw [hf] at h;cases h
theorem u9 {i:Nat} (w:Wf K G H σ ρ T g) (hi:i ∈ is) (a:g i=some y) (hf:y.f=.u):i ∈ us ρ is:=by
 refine DA.mpr ⟨hi,?_⟩
 have s:=w.sl i
 rw [a] at s
 have s:some (y.d,y.f)=(ρ[i]?).join:=s
 rw [<- s,hf]
theorem AN (U:Bnd K G0.pr tg bnd) (h:tS K G0 W0 (cN im bnd b) E σ H):tFor (tI K G0 W0 im) tg (tS K G0 W0 b) E σ H:=by
 refine h.use fun G W le ρ T g r ρ' w e q=>?_
 refine tI.seq le w e q.err fun p ρ1 e1=>?_
 intro J H1 vs Ts g1 ys A a1 ax hw
 have O:=us_u (is:=pls p.1) A
 have Y:∀ i y,i ∈ pls p.1->g1 i=some y->y.f=.u->i ∈ us ρ1 (pls p.1):=fun i y hi ey hf=>u9 A hi ey hf
 generalize us ρ1 (pls p.1)=is at e1 O Y
 have w2:=A.enter is
 obtain ⟨els,n,walk⟩:=hw
 have hM:∀ b,(∃ j y,j ∉ is/\g1 j=some y/\y.f=.u/\y.v=.ref b)->MutAt H1 b:=fun b ⟨j,y,_,ey,hf,C⟩=>by
  obtain ⟨_,a,L',v1,v2,_⟩:=(A.okS j y ey).own (by rw [hf];intro q;cases q)
  rw [C] at v1;cases v1
  exact (A.okS j y ey).rep.inH b (by rw [v2];exact C2)
 have ae:∀ y ∈ ys,∀ b ∈ y.L,¬ ∃ j y,j ∉ is/\g1 j=some y/\y.f=.u/\y.v=.ref b:=fun y t b U ⟨j,y',nj,B,hf,C⟩=>by
  have X:y'.f ≠ .z:=by rw [hf];intro q;cases q
  rcases ax y t with ⟨i,hi,ei⟩ | t
  ·by_cases ij:i=j
   ·subst ij
    rw [ei] at B;cases B
    exact nj (Y i y hi ei hf)
   ·exact A.ss j i y' y (Ne.symm ij) B ei X b C U
  ·exact (A.st j y' B y (C6 _ t)).1 X b C U
 have ar:∀ y ∈ ys,Itm (Ts ++ T) g1 y:=fun y t=>by
  rcases ax y t with ⟨i,_,ei⟩ | h
  ·exact .inl ⟨i,ei⟩
  ·exact .inr (C6 _ h)
 have kid:∀ x ∈ els,∀ c ∈ x.L,dy ((Ts ++ T).map bf) (fun j=>if j ∈ is then (g1 j).map bf else g1 j) c/\(H1 c=none\/(G.H0 c=none\/G.src c)):=fun x Z c hc=>by
  obtain ⟨nr,sr⟩:=A.kids ar ((n x Z).2.2 c hc)
  refine ⟨⟨fun i z V hf C=>?_,fun z hz hf C=>?_⟩,.inr sr⟩
  ·have V:(if i ∈ is then (g1 i).map bf else g1 i)=some z:=V
   by_cases q:i ∈ is
   ·rw [if_pos q] at V
    obtain ⟨z0,e0,e1⟩:=C5.mp V
    subst e1
    exact nr.1 i z0 e0 (fun q=>hf (lentF_z.mpr q)) C
   ·rw [if_neg q] at V
    exact nr.1 i z V hf C
  ·obtain ⟨z0,h0,rfl⟩:=Dh.mp hz
   exact nr.2 z0 h0 (fun q=>hf (lentF_z.mpr q)) C
 have w3:Wf K (dD G H1 g1 is) H1 σ (aK cG is ρ1) (els ++ (Ts ++ T).map bf) (fun j=>if j ∈ is then (g1 j).map bf else g1 j):=w2.pushAll fun x Z=>⟨(n x Z).1,(n x Z).2.1,fun c hc=>kid x Z c hc⟩
 cases e2:dJ bnd b p.2 (aK cG is ρ1) with
 | none=>rw [e2] at e1;exact nsE e1
 | some rr =>
  obtain ⟨r2,ρ3⟩:=rr
  rw [e2] at e1
  have er:r2=r/\aK hU is ρ3 = ρ':=by cases e1;exact ⟨rfl,rfl⟩
  obtain ⟨rfl,eρ⟩:=er
  have leave:∀ {σ':St} {H':Hp} {ρ2:Sto} {g2:Nat->Option It3} {R:List It3},Wf K (dD G H1 g1 is) H' σ' ρ2 (R ++ (els ++ (Ts ++ T).map bf)) g2->∃ g3,Wf K G H' σ' (aK hU is ρ2) (R ++ T) g3:=fun {σ' H' ρ2 g2 R} I =>
   ⟨_,Wf.leave (T:=Ts ++ T) (T':=T) (R:=R) A O (Dg Ts T) (I.sub ((List.Sublist.refl R).append (by
    rw [List.map_append]
    exact (Dg (Ts.map bf) (T.map bf)).trans (Dg els _))))⟩
  have az:Le K (dD G H1 g1 is) (fun e ρ2=>W e (aK hU is ρ2)) G W:=⟨rfl,fun H' σ' ρ2 T2 g2 e I he=>by
   obtain ⟨g3,w5⟩:=zx A O H' σ' ρ2 T2 g2 I
   exact ⟨_,[],g3,w5,he⟩⟩
  have s:Le K (dD G H1 g1 is) (fun e ρ2=>W e (aK hU is ρ2)) G0 W0:=az.trans le
  refine ⟨fun k m σ' H'=>k<=p.2.length/\m=p.2.length - k/\∃ ρ2 g2,Wf K (dD G H1 g1 is) H' σ' ρ2 (els ++ (Ts ++ T).map bf) g2/\dJ bnd b (p.2.drop k) ρ2=some (r2,ρ3),⟨_,Nat.zero_le _,rfl,_,_,w3,e2⟩,?_⟩
  rintro k m σ' H' ⟨hk,rfl,ρ2,g2,I,e4⟩
  obtain ⟨a3,P⟩:=walk _ H' hM (fun b o U hn=>I.base b o U hn) ae
  by_cases D:k < p.2.length
  ·obtain ⟨d,hd⟩:∃ d,p.2[k]?=some d:=⟨_,C9 D⟩
   have N:p.2.drop k=d :: p.2.drop (k+1):=by
    rw [List.drop_eq_getElem_cons D]
    rw [C9 D] at hd
    cases hd;rfl
   rw [N] at e4
   obtain ⟨go,yld⟩:=a3 k d hd
   refine .inr ⟨go,fun σ5 H5=>∃ ρ5 g5,Wf K (dD G H1 g1 is) H5 σ5 ρ5 (els ++ (Ts ++ T).map bf) g5/\dJ bnd b (p.2.drop (k+1)) ρ5=some (r2,ρ3),fun σ5 H5 ⟨ρ5,g5,w5,l⟩=>⟨p.2.length - (k+1),by omega,D,rfl,ρ5,g5,w5,l⟩,fun x M t=>?_⟩
   obtain ⟨u,nu,ud,uf,uv⟩:=yld x M t
   have w5:Wf K (dD G H1 g1 is) M σ' ρ2 (u :: (els ++ (Ts ++ T).map bf)) g2:=I.push nu fun c hc=>I.alls (ys:=els) (fun y t=>⟨.inr (C6 _ t),(n y t).1⟩) hc
   have l:(match bnd d ρ2 with
    | none=>none
    | some ρ1=>ag b (fun f=>match f with
     | .nx=>dJ bnd b (p.2.drop (k+1))
     | .ct=>dJ bnd b (p.2.drop (k+1))
     | .br=>ba .nx
     | .rt d f=>ba (.rt d f)) ρ1)=some (r2,ρ3):=e4
   cases e6:bnd d ρ2 with
   | none=>rw [e6] at l;exact nsE l
   | some ρ6 =>
    rw [e6] at l
    dsimp only at l
    rw [<- uv]
    refine U (dD G H1 g1 is) M σ' ρ2 ρ6 _ g2 u _ le.pr uf w5 (by rw [ud];exact e6) fun σ6 g6 w6=>?_
    unfold ag at l
    cases Q:b ρ6 with
    | none=>rw [Q] at l;exact nsE l
    | some pr7 =>
     obtain ⟨o7,ρ7⟩:=pr7
     rw [Q] at l
     cases o7 with
     | error er =>
      cases l
      refine tS.mk (r:=.error er) s w6 Q ?_
      show W er (aK hU is _)
      rw [eρ];exact q
     | ok f =>
      cases f with
      | nx=>exact tS.mk (r:=.ok .nx) s w6 Q fun σ8 H8 g8 S=>⟨ρ7,g8,S,l⟩
      | ct=>exact tS.mk (r:=.ok .ct) s w6 Q fun σ8 H8 g8 S=>⟨ρ7,g8,S,l⟩
      | br =>
       cases l
       refine tS.mk (r:=.ok .br) s w6 Q fun σ8 H8 g8 S=>?_
       obtain ⟨g9,F⟩:=leave (R:=[]) S
       rw [eρ] at F
       exact q _ _ _ F
      | rt d' f' =>
       cases l
       refine tS.mk (r:=.ok (.rt d' f')) s w6 Q fun x8 σ8 H8 g8 S x1 x2=>?_
       obtain ⟨g9,F⟩:=leave (R:=[x8]) S
       rw [eρ] at F
       exact q x8 _ _ _ F x1 x2
  ·have ek:k=p.2.length:=by omega
   subst ek
   rw [List.drop_length] at e4
   cases e4
   obtain ⟨g9,F⟩:=leave (R:=[]) I
   rw [eρ] at F
   exact .inl ⟨P,q _ _ _ F⟩
end
end L3
end
section
namespace L3
open PySem L2
def p6 (ix:List (Option Nat)) (ρ:Sto):Sto:=ix.map fun o=>match o with
 | some i=>(ρ[i]?).join
 | none=>none
def uncap:List (Option Nat)->Sto->Sto->Option Sto
 | [],_,ρ=>some ρ
 | none :: ix,τ,ρ=>uncap ix τ.tail ρ
 | some i :: ix,τ,ρ=>match (ρ[i]?).join,τ.head? with
  | some (_,f),some (some (d',f'))=>if f'=f\/f'=.z then uncap ix τ.tail (ρ.set i (some (d',f'))) else none
  | _,_=>none
noncomputable def bX (bnd:D->Sto->Option Sto) (c:M3 Bool) (elt:EM):List D->M3 (List D)
 | []=>ba []
 | d :: ds=>fun τ=>match bnd d τ with
  | none=>none
  | some τ1=>ag c (fun b=>if b then ag elt (fun r=>ag (d8 r) fun p=>ag (bX bnd c elt ds) fun l=>ba (p.1 :: l)) else bX bnd c elt ds) τ1
def bU (im:IM) (bnd:D->Sto->Option Sto) (c:M3 Bool) (elt:EM) (ix:List (Option Nat)):EM:=ag im fun p=>fun ρ =>
 match bX bnd c elt p.2 (p6 ix (aK cG (us ρ (pls p.1)) ρ)) with
 | some (.ok ds,τ)=>if p.2.length < 16777216 then (uncap ix τ (aK cG (us ρ (pls p.1)) ρ)).map fun ρ2=>(.ok (.val (.lst ds) .u),aK hU (us ρ (pls p.1)) ρ2) else none
 | _=>none
section
variable {K:FG} {G G0:Gm} {W W0:D->Sto->Prop} {H H':Hp} {σ τ:St} {ρ ρ':Sto} {T T':List It3} {g:Nat->Option It3} {x y z:It3} {α β:Type} {ix:List (Option Nat)}
def Inj (ix:List (Option Nat)):Prop:=∀ (j k i:Nat),ix[j]?=some (some i)->ix[k]?=some (some i)->j=k
def zH (ix:List (Option Nat)) (g:Nat->Option It3) (j:Nat):Option It3:=(ix[j]?).join.bind g
def qH (ix:List (Option Nat)) (n:Nat) (g:Nat->Option It3):List It3:=(List.range n).filterMap fun i=>if some i ∈ ix then none else g i
def xE (G:Gm) (ix:List (Option Nat)) (σ:St):Gm:=⟨G.H0,G.bw,fun j=>((ix[j]?).join).isSome,cap ix σ,fun _=>none,G.src,fun j=>(ix[j]?).join.bind G.lv⟩
theorem dz {j:Nat} (h:zH ix g j=some x):∃ i,ix[j]?=some (some i)/\g i=some x:=by
 unfold zH at h
 cases e:ix[j]? with
 | none=>rw [e] at h;exact nsE h
 | some o =>
  rw [e] at h
  cases o with
  | none=>exact nsE h
  | some i=>exact ⟨i,rfl,h⟩
theorem kP {n:Nat} (h:x ∈ qH ix n g):∃ i,some i ∉ ix/\g i=some x:=by
 obtain ⟨i,_,e⟩:=List.mem_filterMap.mp h
 split at e
 ·exact nsE e
 ·rename_i a;exact ⟨i,a,e⟩
theorem ww {n i:Nat} (hi:i < n) (a:some i ∉ ix) (e:g i=some x):x ∈ qH ix n g:=List.mem_filterMap.mpr ⟨i,List.mem_range.mpr hi,by rw [if_neg a];exact e⟩
theorem Wf.cap (w:Wf K G H σ ρ T g) (p:Inj ix):Wf K (xE G ix σ) H (cap ix σ) (p6 ix ρ) (qH ix ρ.length g ++ T) (zH ix g):=by
 have ne:∀ {i j:Nat},ix[j]?=some (some i)->∀ k,some k ∉ ix->i ≠ k:=fun e k l q=>l (by rw [<- q];exact Df e)
 refine ⟨by unfold L2.cap p6;rw [Dd,Dd],fun j=>?_,fun j x h=>?_,fun j x h=>?_,fun x t=>?_,fun j k x y n t m=>?_,fun j x h y m=>?_,?_,w.base,fun _ _=>rfl,⟨fun _ _ _ _ _=>rfl,fun _ _ _ _ _ _ _=>rfl,w.fx.bin,fun b o e=>(by cases e),fun j x h u=>?_⟩⟩
 ·unfold zH p6
  rw [Di]
  cases e:ix[j]? with
  | none=>rfl
  | some o =>
   cases o with
   | none=>rfl
   | some i=>exact w.sl i
 ·obtain ⟨i,e1,c⟩:=dz h
  unfold L2.cap
  rw [Di,e1]
  show some ((σ[i]?).getD none)=_
  rw [w.sv i x c];rfl
 ·obtain ⟨i,_,c⟩:=dz h
  have ok:=w.okS i x c
  exact ⟨ok.rep,ok.own,ok.src⟩
 ·rcases Db.mp t with h | h
  ·obtain ⟨i,_,e⟩:=kP h
   have ok:=w.okS i x e
   exact ⟨ok.rep,ok.own,ok.src⟩
  ·have ok:=w.okT x h
   exact ⟨ok.rep,ok.own,ok.src⟩
 ·obtain ⟨i,e1,c⟩:=dz t
  obtain ⟨A,v,z⟩:=dz m
  exact w.ss i A x y (fun q=>n (p j k i e1 (q ▸ v))) c z
 ·obtain ⟨i,e1,c⟩:=dz h
  rcases Db.mp m with q | q
  ·obtain ⟨k,l,e⟩:=kP q
   have:=ne e1 k l
   exact ⟨w.ss i k x y this c e,w.ss k i y x (Ne.symm this) e c⟩
  ·exact w.st i x c y q
 ·refine List.pairwise_append.mpr ⟨?_,w.tt,fun a s b r=>?_⟩
  ·unfold qH
   rw [List.pairwise_filterMap]
   refine List.pairwise_lt_range.imp fun {i k} lt a s b r=>?_
   have f:(if some i ∈ ix then none else g i)=some a:=s
   have d:(if some k ∈ ix then none else g k)=some b:=r
   split at f
   ·cases f
   ·split at d
    ·cases d
    ·exact ⟨w.ss i k a b (Dl lt) f d,w.ss k i b a (Nat.ne_of_gt lt) d f⟩
  ·obtain ⟨k,l,e⟩:=kP s
   exact w.st k a e b r
 ·obtain ⟨i,e1,c⟩:=dz h
  show (ix[j]?).join.bind G.lv=_
  rw [e1]
  exact w.fx.lvS i x c u
theorem Wf.perm (w:Wf K G H σ ρ T g) (p:T.Perm T'):Wf K G H σ ρ T' g :=
 ⟨w.len,w.sl,w.sv,w.okS,fun x a=>w.okT x (p.mem_iff.mpr a),w.ss,fun i x e y b=>w.st i x e y (p.mem_iff.mpr b),(p.pairwise_iff fun h=>Apart3.symm h).mp w.tt,w.base,w.pro,w.fx.sub fun x a=>p.mem_iff.mpr a⟩
theorem ip:∀ {ix:List (Option Nat)} {τ ρ ρ2:Sto},uncap ix τ ρ=some ρ2->Inj ix->ρ2.length = ρ.length/\(∀ i,some i ∉ ix->(ρ2[i]?).join=(ρ[i]?).join) /\
  ∀ (j i:Nat),ix[j]?=some (some i)->∃ p q,(ρ[i]?).join=some p/\(τ[j]?).join=some q/\(ρ2[i]?).join=some q/\(q.2=p.2\/q.2=.z)
 | [],τ,ρ,ρ2,e,_=>by cases e;exact ⟨rfl,fun _ _=>rfl,fun j i h=>by simp at h⟩
 | none :: ix,τ,ρ,ρ2,e,hij=>by
  unfold uncap at e
  obtain ⟨h1,h2,h3⟩:=ip e fun j k i a b=>by
   have:=hij (j+1) (k+1) i (by simpa using a) (by simpa using b)
   omega
  refine ⟨h1,fun i hi=>h2 i fun q=>hi (C3 _ q),fun j i h=>?_⟩
  cases j with
  | zero=>simp at h
  | succ j =>
   obtain ⟨p,q,a,b,c⟩:=h3 j i (by simpa using h)
   exact ⟨p,q,a,by rw [List.getElem?_tail] at b;exact b,c⟩
 | some i0 :: ix,τ,ρ,ρ2,e,hij=>by
  unfold uncap at e
  cases e1:(ρ[i0]?).join with
  | none=>rw [e1] at e;exact nsE e
  | some p =>
   obtain ⟨d,f⟩:=p
   cases r:τ.head? with
   | none=>rw [e1,r] at e;exact nsE e
   | some o =>
    cases o with
    | none=>rw [e1,r] at e;exact nsE e
    | some q =>
     obtain ⟨d',t⟩:=q
     rw [e1,r] at e
     dsimp only at e
     split at e
     ·rename_i hf
      have g:=dw e1
      have l:some i0 ∉ ix:=fun m=>by
       obtain ⟨k,u,s⟩:=List.mem_iff_getElem.mp m
       have:=hij 0 (k+1) i0 rfl (by simp [u,s])
       omega
      obtain ⟨h1,h2,h3⟩:=ip e fun j k i a b=>by
       have:=hij (j+1) (k+1) i (by simpa using a) (by simpa using b)
       omega
      refine ⟨by rw [h1,List.length_set],fun i hi=>?_,fun j i h=>?_⟩
      ·rw [h2 i fun q=>hi (C3 _ q),bO g,if_neg (fun q=>hi (by rw [q];exact C2))]
      ·cases j with
       | zero =>
        simp at h
        subst h
        refine ⟨(d,f),(d',t),e1,?_,?_,hf⟩
        ·rw [List.head?_eq_getElem?] at r;rw [r];rfl
        ·rw [h2 i0 l,bO g,if_pos rfl]
       | succ j =>
        have n:ix[j]?=some (some i):=by simpa using h
        obtain ⟨p,q,a,b,c⟩:=h3 j i n
        have ii:i ≠ i0:=fun z=>l (by rw [<- z];exact Df n)
        rw [bO g,if_neg ii] at a
        exact ⟨p,q,a,by rw [List.getElem?_tail] at b;exact b,c⟩
     ·exact nsE e
theorem Wf.uncap (w:Wf K G H σ ρ T g) (hH:∀ b o,H b=some o->G.H0 b=some o) (X:Inj ix) (e:L3.uncap ix τρ ρ=some ρ2) (hR:∀ x ∈ R,x.f=.z) (t:Wf K (xE G ix σ) H' τ' τρ (R ++ (qH ix ρ.length g ++ T)) gC) :
  ∃ g2,Wf K G H' σ ρ2 (R ++ T) g2:=by
 obtain ⟨J,h2,h3⟩:=ip e X
 let inv (i:Nat):Option Nat:=(List.range ix.length).find? fun j=>decide (ix[j]?=some (some i))
 have l:∀ i j,inv i=some j->ix[j]?=some (some i):=fun i j h=>by simpa using List.find?_some h
 have r:∀ i,inv i=none->some i ∉ ix:=fun i h m=>by
  obtain ⟨k,Z,ek⟩:=List.mem_iff_getElem.mp m
  have:=List.find?_eq_none.mp h k (List.mem_range.mpr Z)
  simp [Z,ek] at this
 let g2 (i:Nat):Option It3:=match inv i with | some j=>gC j | none=>g i
 have val:∀ i u,g2 i=some u->(∃ j p q,ix[j]?=some (some i)/\gC j=some u/\(ρ[i]?).join=some p/\(τρ[j]?).join=some q/\(q.2=p.2\/q.2=.z))\/(some i ∉ ix/\g i=some u):=fun i u h=>by
  have h':(match inv i with | some j=>gC j | none=>g i)=some u:=h
  cases D:inv i with
  | none=>rw [D] at h';exact .inr ⟨r i D,h'⟩
  | some j =>
   rw [D] at h'
   obtain ⟨p,q,a,b,_,c⟩:=h3 j i (l i j D)
   exact .inl ⟨j,p,q,l i j D,h',a,b,c⟩
 have out:∀ i u,some i ∉ ix->g i=some u->u ∈ qH ix ρ.length g:=fun i u C e=>by
  have s:=w.sl i
  rw [e] at s
  exact ww (dw s.symm) C e
 have back:∀ i j u,ix[j]?=some (some i)->gC j=some u->σ[i]?=some (some u.v):=fun i j u B A=>by
  have a:=t.sv j u A
  have b:=t.pro j (by show ((ix[j]?).join).isSome=true;rw [B];rfl)
  rw [a] at b
  have b:some (some u.v)=(L2.cap ix σ)[j]?:=b
  unfold L2.cap at b
  rw [Di,B] at b
  have b:some (some u.v)=some ((σ[i]?).getD none):=b
  cases q:σ[i]? with
  | none=>rw [q] at b;cases b
  | some o=>rw [q] at b;cases b;rfl
 have N:∀ i j u p q,ix[j]?=some (some i)->gC j=some u->(ρ[i]?).join=some p->(τρ[j]?).join=some q->(q.2=p.2\/q.2=.z)->∃ y,g i=some y/\y.v=u.v/\(u.f=y.f\/u.f=.z):=fun i j u p q B A L eq hf=>by
  obtain ⟨y,M,Q,O,y4⟩:=w.slot (d:=p.1) (f:=p.2) L
  have b:=back i j u B A
  rw [y4] at b
  have s:=t.sl j
  rw [A,eq] at s
  have s:some (u.d,u.f)=some q:=s
  refine ⟨y,M,by injection b with b;injection b,?_⟩
  rw [O,show u.f=q.2 by injection s with s;rw [<- s]]
  exact hf
 refine ⟨g2,⟨by rw [J];exact w.len,fun i=>?_,fun i u h=>?_,fun i u h=>?_,fun u hu=>?_,fun i k a b n ha E=>?_,fun i a h b E=>?_,t.tt.sublist ((List.Sublist.refl R).append (Dg _ T)),t.base,w.pro,⟨fun u hu hf=>?_,fun i u h hp hf a Y=>?_,t.fx.bin,fun b o E=>?_,fun i u h J=>?_⟩⟩⟩
 ·show (match inv i with | some j=>gC j | none=>g i).map _=_
  cases D:inv i with
  | none=>rw [h2 i (r i D)];exact w.sl i
  | some j =>
   obtain ⟨p,q,a,b,c,_⟩:=h3 j i (l i j D)
   rw [c,<- b];exact t.sl j
 ·rcases val i u h with ⟨j,p,q,B,A,_⟩ | ⟨C,e⟩
  ·exact back i j u B A
  ·exact w.sv i u e
 ·rcases val i u h with ⟨j,p,q,B,A,_⟩ | ⟨C,e⟩
  ·have ok:=t.okS j u A
   exact ⟨ok.rep,ok.own,ok.src⟩
  ·have ok:=t.okT u (C7 _ (C6 _ (out i u C e)))
   exact ⟨ok.rep,ok.own,ok.src⟩
 ·have ok:=t.okT u (by
   rcases Db.mp hu with q | q
   ·exact C6 _ q
   ·exact C7 _ (C7 _ q))
  exact ⟨ok.rep,ok.own,ok.src⟩
 ·rcases val i a ha with ⟨j,p,q,B,A,_⟩ | ⟨C,e⟩
  ·rcases val k b E with ⟨V,p',q',F,I,_⟩ | ⟨P,U⟩
   ·exact t.ss j V a b (fun z=>n (by subst z;rw [B] at F;injection F with z;injection z)) A I
   ·exact (t.st j a A b (C7 _ (C6 _ (out k b P U)))).1
  ·rcases val k b E with ⟨V,p',q',F,I,_⟩ | ⟨P,U⟩
   ·exact (t.st V b I a (C7 _ (C6 _ (out i a C e)))).2
   ·exact w.ss i k a b n e U
 ·have S:b ∈ R ++ (qH ix ρ.length g ++ T):=by
   rcases Db.mp E with q | q
   ·exact C6 _ q
   ·exact C7 _ (C7 _ q)
  rcases val i a h with ⟨j,p,q,B,A,_⟩ | ⟨C,e⟩
  ·exact t.st j a A b S
  ·rcases Db.mp E with q | q
   ·exact ((List.pairwise_append.mp t.tt).2.2 b q a (C6 _ (out i a C e))).symm
   ·exact w.st i a e b q
 ·rcases Db.mp hu with q | q
  ·exact absurd (hR u q) hf
  ·exact w.fx.frT u q hf
 ·rcases val i u h with ⟨j,p,q,B,A,L,eq,W⟩ | ⟨C,e⟩
  ·obtain ⟨y,M,Q,O⟩:=N i j u p q B A L eq W
   refine w.fx.frS i y M hp (fun z=>hf ?_) a (by rw [Q];exact Y)
   rcases O with h | h
   ·rw [h];exact z
   ·exact h
  ·exact w.fx.frS i u e hp hf a Y
 ·obtain ⟨o',ho⟩:=w.fx.ob b o E
  have h0:=hH b o' ho
  by_cases q:G.bw b
  ·exact t.fx.bin b q
  ·exact ⟨o',t.base b o' h0 q⟩
 ·rcases val i u h with ⟨j,p,q,B,A,L,eq,W⟩ | ⟨C,e⟩
  ·obtain ⟨y,M,Q,O⟩:=N i j u p q B A L eq W
   rw [<- Q]
   refine w.fx.lvS i y M ?_
   rcases O with h | h
   ·rw [<- h];exact J
   ·rw [h] at J;cases J
  ·exact w.fx.lvS i u e J
theorem uP {J:It} {H1:Hp} {ys els:List It3} {ds:List D} {bnd:D->Sto->Option Sto} {c:M3 Bool} {elt:EM} {tg:TG} {tc:TT} {te:TE} {Gc:Gm} {a:List It3} {j:List D} {τρ τρ':Sto} {gC:Nat->Option It3} {Z:List V->Hp->Prop} {M:Addr->Prop}
  (hz:(16777216:Nat)=sizeLine) (G:∀ x ∈ els,x ∈ a/\x.f=.z)
  (P:∀ H',(∀ b o,H1 b=some o->¬ Gc.bw b->H' b=some o)->(∀ (i:Nat) (d:D),ds[i]?=some d->J.go i H'/\∀ x g,J.yld i H' x g->∃ w,New K H' g (cJ els) w/\w.d=d/\w.f=.z/\w.v=x)/\J.stop ds.length H')
  (h0:Gc.H0=H1) (hb:Bnd K Gc.pr tg bnd) (T:∀ σ H Q,tT K Gc (fun _ _=>False) c σ H Q->tc σ H Q) (Y:∀ σ H Q,tE K Gc (fun _ _=>False) elt σ H Q->te σ H Q)
  (hlen:ds.length < 16777216) (w:Wf K Gc H1 τ τρ a gC) (e:bX bnd c elt ds τρ=some (.ok j,τρ'))
  (hZ:∀ (us:List It3) (τ':St) (H':Hp) (g':Nat->Option It3),(∀ x ∈ us,x.f=.z)->us.map (·.d)=j->Wf K Gc H' τ' τρ' (us ++ a) g'->Z (us.map (·.v)) H'):mK J tg tc te Z τ H1:=by
 refine ⟨fun i m vs τ' H'=>i<=ds.length/\m=ds.length - i/\vs.length<=i/\∃ (us:List It3) (ρ2:Sto) (g2:Nat->Option It3) (r:List D),(∀ x ∈ us,x.f=.z)/\us.map (·.v)=vs/\Wf K Gc H' τ' ρ2 (us ++ a) g2/\bX bnd c elt (ds.drop i) ρ2=some (.ok r,τρ')/\us.map (·.d) ++ r=j,⟨_,Nat.zero_le _,rfl,Dj _,[],τρ,gC,j,fun _ h=>(by cases h),rfl,w,e,rfl⟩,?_⟩
 rintro i m vs τ1 H2 ⟨hi,rfl,ar,us,ρ2,g2,r,s,B,L,N,k⟩
 refine ⟨by omega,?_⟩
 obtain ⟨ae,A⟩:=P H2 fun b o W hn=>L.base b o (by rw [h0];exact W) hn
 by_cases n:i < ds.length
 ·obtain ⟨d,hd⟩:∃ d,ds[i]?=some d:=⟨_,C9 n⟩
  have t:ds.drop i=d :: ds.drop (i+1):=by
   rw [List.drop_eq_getElem_cons n]
   rw [C9 n] at hd
   cases hd;rfl
  rw [t] at N
  obtain ⟨go,yld⟩:=ae i d hd
  refine .inr ⟨go,fun q τ5 H5=>q.length<=i+1/\∃ (us:List It3) (ρ5:Sto) (U:Nat->Option It3) (r:List D),(∀ x ∈ us,x.f=.z)/\us.map (·.v)=q/\Wf K Gc H5 τ5 ρ5 (us ++ a) U/\bX bnd c elt (ds.drop (i+1)) ρ5=some (.ok r,τρ')/\us.map (·.d) ++ r=j,
   fun q τ5 H5 ⟨X,h5⟩=>⟨ds.length - (i+1),by omega,n,rfl,X,h5⟩,fun x g F=>?_⟩
  obtain ⟨u,nu,ud,uf,uv⟩:=yld x g F
  have w3:Wf K Gc g τ1 ρ2 (u :: (us ++ a)) g2:=L.push nu fun c hc=>L.alls (ys:=els) (fun y F=>⟨.inr (C7 _ (G y F).1),(G y F).2⟩) hc
  have I:(match bnd d ρ2 with
   | none=>none
   | some τ1=>ag c (fun b=>if b then ag elt (fun r=>ag (d8 r) fun p=>ag (bX bnd c elt (ds.drop (i+1))) fun l=>ba (p.1 :: l)) else bX bnd c elt (ds.drop (i+1))) τ1)=some (.ok r,τρ'):=N
  cases R:bnd d ρ2 with
  | none=>rw [R] at I;exact nsE I
  | some ρ3 =>
   rw [R] at I
   dsimp only at I
   rw [<- uv]
   refine hb Gc g τ1 ρ2 ρ3 _ g2 u _ rfl uf w3 (by rw [ud];exact R) fun τ4 g4 w4=>?_
   refine T _ _ _ (tT.seq (Le.refl K Gc _) w4 I (fun x S=>by cases S) fun b ρ5 O H5 U w5=>?_)
   cases b with
   | false =>
    simp only [Dz,if_false] at O ⊢
    exact ⟨by omega,us,ρ5,U,r,s,B,w5,O,k⟩
   | true =>
    simp only [if_true] at O ⊢
    refine Y _ _ _ (tE.seq (Le.refl K Gc _) w5 O (fun x S=>by cases S) fun ra ρ6 e6 v H6 ⟨Ts,g6,w6,a6⟩=>?_)
    obtain ⟨p,ρ7,g7,C,E,w7,f1,f2,_,f3⟩:=a6.take w6 e6
    have w8:=Wf.lowT (Ts:=[C]) w7
    unfold ag at E
    cases e8:bX bnd c elt (ds.drop (i+1)) ρ7 with
    | none=>rw [e8] at E;exact nsE E
    | some pr =>
     obtain ⟨o,ρ8⟩:=pr
     rw [e8] at E
     cases o with
     | error x=>cases E
     | ok l =>
      cases E
      refine ⟨by rw [Dt];simp;omega,us ++ [c8 C],ρ7,g7,l,fun y F=>?_,by rw [List.map_append,B,<- f3];rfl,?_,e8,?_⟩
      ·rcases Db.mp F with h | h
       ·exact s y h
       ·rw [Dy.mp h];rfl
      ·exact w8.perm (by
        show ([c8 C] ++ (us ++ a)).Perm (us ++ [c8 C] ++ a)
        rw [<- List.append_assoc]
        exact (List.perm_append_comm).append_right a)
      ·rw [List.map_append,List.append_assoc]
       show us.map (·.d) ++ ((c8 C).d :: l)=j
       rw [show (c8 C).d=p.1 from f1]
       exact k
 ·have ei:i=ds.length:=by omega
  subst ei
  rw [List.drop_length] at N
  cases N
  rw [List.append_nil] at k
  subst B
  exact .inl ⟨A,hZ us τ1 H2 g2 s k L⟩
end
end L3
end
section
namespace L3
open PySem L2
section
variable {K:FG} {G G0:Gm} {W W0:D->Sto->Prop} {H H':Hp} {σ τ:St} {ρ ρ':Sto} {T T':List It3} {g:Nat->Option It3} {x y z:It3} {α β:Type} {ix:List (Option Nat)}
def aV (ix:List (Option Nat)):Gm:=⟨fun _=>none,fun _=>False,fun j=>((ix[j]?).join).isSome,[],fun _=>none,fun _=>False,fun _=>none⟩
abbrev noX:D->Sto->Prop:=fun _ _=>False
theorem su (h:G1.pr=(aV ix).pr) (le:Le K G W G1 noX):Le K G W (aV ix) noX:=⟨le.pr.trans h,fun H σ ρ T g e w q=>by
 obtain ⟨_,_,_,_,f⟩:=le.ex H σ ρ T g e w q
 exact f.elim⟩
theorem yj (h:G1.pr=(aV ix).pr) (q:tE K G1 noX m σ H Q):tE K (aV ix) noX m σ H Q:=by
 obtain ⟨G,W,le,r⟩:=q
 exact ⟨G,W,su h le,r⟩
theorem ye (h:G1.pr=(aV ix).pr) (q:tT K G1 noX m σ H Q):tT K (aV ix) noX m σ H Q:=by
 obtain ⟨G,W,le,r⟩:=q
 exact ⟨G,W,su h le,r⟩
def fB:M3 Bool:=ba true
theorem AE (h:tT K G0 W0 fB σ H Q):tYes σ H Q:=by
 refine h.use fun G W le ρ T g o ρ' w e q=>?_
 cases e
 exact q _ _ w
theorem jy:∀ {ds a:List D} {τρ τρ':Sto},bX bnd c elt ds τρ=some (.ok a,τρ')->a.length<=ds.length
 | [],a,τρ,τρ',e=>by cases e;exact Dj _
 | d :: ds,a,τρ,τρ',e=>by
  unfold bX at e
  split at e
  ·exact nsE e
  ·rename_i τ1 _
   unfold ag at e
   split at e
   ·exact nsE e
   ·cases e
   ·rename_i b τ2 _
    cases b with
    | false =>
     simp only [Dz,if_false] at e
     have:=jy e
     simp;omega
    | true =>
     simp only [if_true] at e
     split at e
     ·exact nsE e
     ·cases e
     ·split at e
      ·exact nsE e
      ·cases e
      ·split at e
       ·exact nsE e
       ·cases e
       ·rename_i l τ5 f
        cases e
        have:=jy f
        simp;omega
theorem pZ (hz:(16777216:Nat)=sizeLine) (S:Inj ix) (U:Bnd K (aV ix).pr tg bnd) (le:Le K G W G0 W0) (w:Wf K G H σ ρ T g) (e:bU im bnd c elt ix ρ=some (o,ρ')) (he:∀ x,o=.error x->W x ρ') (hZ:∀ (us:List It3) (H':Hp) (g':Nat->Option It3) (Ts:List It3) (ds:List D),o=.ok (.val (.lst ds) .u)->(∀ x ∈ us,x.f=.z)->us.map (·.d)=ds->us.length<=16777216->Wf K G H' σ ρ' (us ++ T) g'->Z (us.map (·.v)) H') :
  tI K G0 W0 im σ H fun J H1=>mK J tg (tT K (aV ix) noX c) (tE K (aV ix) noX elt) Z (cap ix σ) H1:=by
 refine tI.seq le w e he fun p ρ1 e1=>?_
 intro J H1 vs Ts g1 ys m a1 P hw
 have B:=us_u (is:=pls p.1) m
 have C:∀ i y,i ∈ pls p.1->g1 i=some y->y.f=.u->i ∈ us ρ1 (pls p.1):=fun i y hi V hf=>u9 m hi V hf
 generalize us ρ1 (pls p.1)=is at e1 B C
 have w2:=m.enter is
 obtain ⟨els,k,walk⟩:=hw
 have hM:∀ b,(∃ j y,j ∉ is/\g1 j=some y/\y.f=.u/\y.v=.ref b)->MutAt H1 b:=fun b ⟨j,y,_,V,hf,n⟩=>by
  obtain ⟨_,a,L',v1,v2,_⟩:=(m.okS j y V).own (by rw [hf];intro q;cases q)
  rw [n] at v1;cases v1
  exact (m.okS j y V).rep.inH b (by rw [v2];exact C2)
 have E:∀ y ∈ ys,∀ b ∈ y.L,¬ ∃ j y,j ∉ is/\g1 j=some y/\y.f=.u/\y.v=.ref b:=fun y I b U ⟨j,y',nj,l,hf,n⟩=>by
  have t:y'.f ≠ .z:=by rw [hf];intro q;cases q
  rcases P y I with ⟨i,hi,O⟩ | I
  ·by_cases ij:i=j
   ·subst ij
    rw [O] at l;cases l
    exact nj (C i y hi O hf)
   ·exact m.ss j i y' y (Ne.symm ij) l O t b n U
  ·exact (m.st j y' l y (C6 _ I)).1 t b n U
 have F:∀ y ∈ ys,Itm (Ts ++ T) g1 y:=fun y I=>by
  rcases P y I with ⟨i,_,O⟩ | h
  ·exact .inl ⟨i,O⟩
  ·exact .inr (C6 _ h)
 have kid:∀ x ∈ els,∀ c ∈ x.L,dy ((Ts ++ T).map bf) (fun j=>if j ∈ is then (g1 j).map bf else g1 j) c/\(H1 c=none\/(G.H0 c=none\/G.src c)):=fun x r c Y=>by
  obtain ⟨nr,sr⟩:=m.kids F ((k x r).2.2 c Y)
  refine ⟨⟨fun i z s hf n=>?_,fun z hz hf n=>?_⟩,.inr sr⟩
  ·have s:(if i ∈ is then (g1 i).map bf else g1 i)=some z:=s
   by_cases q:i ∈ is
   ·rw [if_pos q] at s
    obtain ⟨z0,e0,e1⟩:=C5.mp s
    subst e1
    exact nr.1 i z0 e0 (fun q=>hf (lentF_z.mpr q)) n
   ·rw [if_neg q] at s
    exact nr.1 i z s hf n
  ·obtain ⟨z0,h0,rfl⟩:=Dh.mp hz
   exact nr.2 z0 h0 (fun q=>hf (lentF_z.mpr q)) n
 have w3:Wf K (dD G H1 g1 is) H1 σ (aK cG is ρ1) (els ++ (Ts ++ T).map bf) (fun j=>if j ∈ is then (g1 j).map bf else g1 j):=w2.pushAll fun x r=>⟨(k x r).1,(k x r).2.1,fun c Y=>kid x r c Y⟩
 have w4:=w3.cap S
 cases X:bX bnd c elt p.2 (p6 ix (aK cG is ρ1)) with
 | none=>rw [X] at e1;exact nsE e1
 | some rr =>
  obtain ⟨o2,τρ⟩:=rr
  rw [X] at e1
  cases o2 with
  | error x=>exact nsE e1
  | ok ds =>
   dsimp only at e1
   split at e1
   ·rename_i hlen
    cases e3:uncap ix τρ (aK cG is ρ1) with
    | none=>rw [e3] at e1;exact nsE e1
    | some ρ3 =>
     rw [e3] at e1
     have eo:o=.ok (.val (.lst ds) .u)/\ρ'=aK hU is ρ3:=by cases e1;exact ⟨rfl,rfl⟩
     obtain ⟨eo,eρ⟩:=eo
     refine uP (K:=K) (Gc:=xE (dD G H1 g1 is) ix σ) (els:=els) (M:=fun _=>False) (ys:=ys) hz (fun x r=>⟨C7 _ (C6 _ r),(k x r).1⟩) (fun H' hk=>walk _ H' hM hk E) rfl U (fun σ' H Q q=>ye (G1:=xE (dD G H1 g1 is) ix σ) rfl q) (fun σ' H Q q=>yj (G1:=xE (dD G H1 g1 is) ix σ) rfl q) hlen w4 X fun us τ' H' g' A N w5=>?_
     obtain ⟨g6,w6⟩:=Wf.uncap w3 (fun b o h=>h) S e3 A w5
     have w7:=Wf.leave (T:=Ts ++ T) (T':=T) (R:=us) m B (Dg Ts T) (w6.sub ((List.Sublist.refl us).append (by
      rw [List.map_append]
      exact (Dg (Ts.map bf) (T.map bf)).trans (Dg els _))))
     have hle:us.length<=16777216:=by
      have h1:us.length=ds.length:=by rw [<- N,Dd]
      have h2:=jy X
      omega
     rw [<- eρ] at w7
     exact hZ us H' _ Ts ds eo A N hle w7
   ·exact nsE e1
theorem mE {us:List It3} (w:Wf K G H σ ρ (us ++ T) g) (j:∀ x ∈ us,x.f=.z) (b:H p=none) :
  Wf K G (upd H p (.lst (us.map (·.v)))) σ ρ (⟨.lst (us.map (·.d)),.ref p,p :: (us.map (·.L)).flatten,.u⟩ :: T) g:=by
 have hi:∀ y ∈ us,Itm (us ++ T) g y/\y.f=.z:=fun y i=>⟨.inr (C6 _ i),j y i⟩
 have np:p ∉ (us.map (·.L)).flatten:=fun a=>by
  obtain ⟨y,hm,a⟩:=eg a
  obtain ⟨o,k⟩:=((w.itm (hi y hm).1).rep.inH p a).ex
  rw [b] at k;exact nsE k
 have n:New K H (upd H p (.lst (us.map (·.v)))) (cJ us) ⟨.lst (us.map (·.d)),.ref p,p :: (us.map (·.L)).flatten,.u⟩:=⟨bq b,.lst aI ((j8 fun y i=>(w.itm (hi y i).1).rep).same (bq b)),fun c a=>by
  rcases C8.mp a with e | a
  ·rw [e];exact .inl b
  ·exact .inr (eg a),fun _=>⟨rfl,p,_,rfl,rfl,np,b⟩⟩
 exact (w.push n fun c h=>w.alls hi h).sub (List.Sublist.cons_cons _ (Dg us T))
theorem rM (hz:(16777216:Nat)=sizeLine) (b:Inj ix) (l:Bnd K (aV ix).pr tg bnd) (h:tE K G0 W0 (bU im bnd c elt ix) σ H Q) :
  vj (tI K G0 W0 im) tg (tT K (aV ix) noX c) (tE K (aV ix) noX elt) ix σ H Q:=by
 refine h.use fun G W le ρ T g o ρ' w e q=>?_
 refine pZ hz b l le w e q.err fun us H' g' Ts ds i a f n k=>?_
 subst i f
 intro p j
 have m:=mE k a j
 exact q (.ref p) _ ⟨[_],g',m,Ar.val (⟨.lst (us.map (·.d)),.ref p,p :: (us.map (·.L)).flatten,.u⟩:It3)⟩
theorem qj {i:Nat} (hz:(16777216:Nat)=sizeLine) (k:Inj ix) (t:Bnd K (aV ix).pr tg bnd) (n:G0.pr i=false) (h:tS K G0 W0 (bj i (bU im bnd c elt ix)) E σ H) :
  Ai i (tI K G0 W0 im) tg (tT K (aV ix) noX c) (tE K (aV ix) noX elt) ix E σ H:=by
 refine h.use fun G W le ρ T g r ρ' w e q=>?_
 unfold bj ag at e
 cases e1:bU im bnd c elt ix ρ with
 | none=>rw [e1] at e;exact nsE e
 | some pr =>
  obtain ⟨o,ρ1⟩:=pr
  rw [e1] at e
  have a:∀ x,o=.error x->W x ρ1:=fun x y=>by subst y;cases e;exact q
  refine pZ hz k t le w e1 a fun us H' g' Ts ds m j l z s=>?_
  subst m l
  intro p b
  have v:=mE s j b
  have e:(if i < ρ1.length then some ((.ok .nx,ρ1.set i (some (D.lst (us.map (·.d)),Fl.u))):Except D Flw × Sto) else none)=some (r,ρ'):=e
  split at e
  ·rename_i hi
   cases e
   exact q _ _ _ (v.store (f:=.u) hi (by rw [le.pr];exact n) (.inl rfl) (by intro h;cases h))
  ·exact nsE e
end
end L3
end
section
namespace L3
open PySem L2
section
variable {K:FG} {G G0:Gm} {W W0:D->Sto->Prop} {H H':Hp} {σ:St} {ρ ρ':Sto} {T T':List It3} {g:Nat->Option It3} {x y z:It3} {α β:Type}
theorem Wf.mutate {i:Nat} (w:Wf K G H σ ρ T g) (C:g i=some y) (hu:y.f=.u) (ev:y.v=.ref a) (hm:iW d'=true) (rep:Rep K (upd H a o') d' (.ref a) (a :: B)) (na:a ∉ B) (P:∀ c ∈ B,dy T g c/\(G.H0 c=none\/G.src c)):Wf K G (upd H a o') σ (ρ.set i (some (d',.u))) T (fun j=>if j=i then some ⟨d',.ref a,a :: B,.u⟩ else g j):=by
 have l:y.f ≠ .z:=by rw [hu];intro q;cases q
 have Q:=w.okS i y C
 obtain ⟨_,a',L',v1,v2,v3,v4⟩:=Q.own l
 rw [ev] at v1;cases v1
 have hi:i < ρ.length:=by
  have:=w.sl i
  rw [C] at this
  exact dw this.symm
 have ma:MutAt H a:=Q.rep.inH a (by rw [v2];exact C2)
 have val:∀ j u,(if j=i then some (⟨d',.ref a,a :: B,.u⟩:It3) else g j)=some u->(j=i/\u=⟨d',.ref a,a :: B,.u⟩)\/(j ≠ i/\g j=some u):=fun j u h=>by
  by_cases q:j=i
  ·rw [if_pos q] at h;cases h;exact .inl ⟨q,rfl⟩
  ·rw [if_neg q] at h;exact .inr ⟨q,h⟩
 have keep:∀ u,ItOk K G H u->a ∉ u.L->ItOk K G (upd H a o') u:=fun u ou hn=>ou.keep (M:=fun b=>b=a) (fun b o m n=>by rw [ao n];exact m) (fun b e=>by rw [e];exact ma) fun b m e=>hn (by rw [<- e];exact m)
 have W:∀ j u,j ≠ i->g j=some u->a ∉ u.L:=fun j u n e=>w.ss i j y u (Ne.symm n) C e l a ev
 have X:∀ u ∈ T,a ∉ u.L:=fun u r=>(w.st i y C u r).1 l a ev
 have E:∀ b o,H b=some o->∃ U,upd H a o' b=some U:=fun b o m=>by
  by_cases q:b=a
  ·rw [q,aI];exact ⟨_,rfl⟩
  ·rw [ao q];exact ⟨o,m⟩
 refine ⟨by rw [List.length_set];exact w.len,fun j=>?_,fun j u h=>?_,fun j u h=>?_,fun u r=>keep u (w.okT u r) (X u r),fun j k p q n N Z=>?_,fun j u h t I=>?_,w.tt,fun b o e n=>?_,w.pro,⟨w.fx.frT,fun j u h N hf b S=>?_,fun b m=>?_,fun b o m=>?_,fun j u h R=>?_⟩⟩
 ·rw [bO hi]
  by_cases q:j=i
  ·rw [if_pos q,if_pos q];rfl
  ·rw [if_neg q,if_neg q];exact w.sl j
 ·rcases val j u h with ⟨rfl,rfl⟩ | ⟨n,h⟩
  ·rw [w.sv j y C,ev]
  ·exact w.sv j u h
 ·rcases val j u h with ⟨rfl,rfl⟩ | ⟨n,h⟩
  ·refine ⟨rep,fun _=>⟨hm,a,B,rfl,rfl,na,fun _=>v4 hu⟩,fun c d=>?_⟩
   rcases C8.mp d with e | d
   ·rw [e];exact Q.src a (by rw [v2];exact C2)
   ·exact (P c d).2
  ·exact keep u (w.okS j u h) (W j u n h)
 ·rcases val j p N with ⟨F,ep⟩ | ⟨n1,x⟩
  ·rcases val k q Z with ⟨Y,eq⟩ | ⟨n2,A⟩
   ·exact absurd (F.trans Y.symm) n
   ·rw [ep]
    intro _ c s
    cases s
    exact W k q n2 A
  ·rcases val k q Z with ⟨Y,eq⟩ | ⟨n2,A⟩
   ·rw [eq]
    intro hf c s d
    rcases C8.mp d with e | d
    ·obtain ⟨_,b,L2,D,O,_⟩:=(w.okS j p x).own hf
     rw [s] at D;cases D
     exact W j p n1 x (by rw [<- e,O];exact C2)
    ·exact (P c d).1.1 j p x hf s
   ·exact w.ss j k p q n x A
 ·rcases val j u h with ⟨F,J⟩ | ⟨n,h'⟩
  ·rw [J]
   refine ⟨fun _ c s=>by cases s;exact X t I,fun hf c s d=>?_⟩
   rcases C8.mp d with e | d
   ·obtain ⟨_,b,L2,D,O,_⟩:=(w.okT t I).own hf
    rw [s] at D;cases D
    exact X t I (by rw [<- e,O];exact C2)
   ·exact (P c d).1.2 t I hf s
  ·exact w.st j u h' t I
 ·have:b ≠ a:=fun z=>by
   subst z
   rcases v4 hu with h | h
   ·rw [e] at h;cases h
   ·exact n h
  rw [ao this];exact w.base b o e n
 ·rcases val j u h with ⟨F,J⟩ | ⟨n,h'⟩
  ·subst F
   rw [J] at S
   cases S
   exact w.fx.frS j y C N l a ev
  ·exact w.fx.frS j u h' N hf b S
 ·obtain ⟨o,V⟩:=w.fx.bin b m
  exact E b o V
 ·obtain ⟨o2,V⟩:=w.fx.ob b o m
  exact E b o2 V
 ·rcases val j u h with ⟨F,J⟩ | ⟨n,h'⟩
  ·rw [J] at R;cases R
  ·exact w.fx.lvS j u h' R
def MutD (K:FG) (r:V->List V->Hp->VK->Prop) (f:D->List D->Option (D × D)):Prop:=∀ (a:Addr) (d:D) (b:List Addr) (as:List It3) (H:Hp) (Q:VK) (p:D × D),Rep K H d (.ref a) (a :: b)->iW d=true->a ∉ b->(∀ x ∈ as,Rep K H x.d x.v x.L)->(∀ x ∈ as,a ∉ x.L)->f d (as.map (·.d))=some p ->
 (∀ (o':HO) (e:List Addr) (w:It3),Rep K (upd H a o') p.1 (.ref a) (a :: e)->iW p.1=true->(∀ c ∈ e,c ∈ b\/cJ as c)->w.f=.z->w.d=p.2->Rep K (upd H a o') w.d w.v w.L->(∀ c ∈ w.L,c ∈ b\/cJ as c)->Q w.v (upd H a o'))->r (.ref a) (as.map (·.v)) H Q
def chk (ok:D->Bool) (i:Nat):M3 Unit:=fun ρ=>match (ρ[i]?).join with
 | some (d,_)=>if ok d then some (.ok (),ρ) else none
 | none=>none
theorem oE {i:Nat} (e:ag (ad i) k ρ=some (r,ρ')):∃ p,(ρ[i]?).join=some p/\k (.pl i) ρ=some (r,ρ'):=by
 unfold ag ad at e
 cases q:(ρ[i]?).join with
 | none=>rw [q] at e;exact nsE e
 | some p=>rw [q] at e;exact ⟨p,rfl,e⟩
theorem xC {i:Nat} (e:ag (chk ok i) k ρ=some (r,ρ')):(∀ p,(ρ[i]?).join=some p->ok p.1=true)/\k () ρ=some (r,ρ'):=by
 unfold ag chk at e
 cases q:(ρ[i]?).join with
 | none=>rw [q] at e;exact nsE e
 | some p =>
  rw [q] at e
  dsimp only at e
  cases h:ok p.1 with
  | false=>rw [h] at e;exact nsE e
  | true=>rw [h] at e;exact ⟨fun b a=>by cases a;exact h,e⟩
def pI (ok:D->Bool) (f:D->List D->Option (D × D)) (i:Nat) (ms:M3 (List R3)):EM:=ag (ad i) fun _=>ag (chk ok i) fun _=>ag ms fun rs=>ag (gives rs) fun ds=>fun ρ=>match (ρ[i]?).join with
 | some (d,.u)=>match f d ds with
  | some p=>some (.ok (.val p.2 .z),ρ.set i (some (p.1,.u)))
  | none=>none
 | _=>none
theorem Wf.changed {i:Nat} {as us:List It3} (P:MutD K r f) (w:Wf K G H σ ρ (us ++ T) g) (e:(ρ[i]?).join=some (d,.u)) (Y:σ[i]?=some (some v)) (D:∀ y ∈ as,Itm (us ++ T) g y/\y.f=.z) (U:f d (as.map (·.d))=some p) (q:∀ v H',Got K G σ (ρ.set i (some (p.1,.u))) T (.val p.2 .z) v H'->Q v H'):r v (as.map (·.v)) H Q:=by
 obtain ⟨y,B,N,J,o⟩:=w.slot e
 rw [Y] at o
 injection o with o
 injection o with o
 have n:y.f ≠ .z:=by rw [J];intro q;cases q
 have F:=w.okS i y B
 obtain ⟨m,a,E,v1,v2,v3,_⟩:=F.own n
 have ra:=F.rep
 rw [v1,v2,N] at ra
 rw [N] at m
 rw [o,v1]
 have na:∀ x ∈ as,a ∉ x.L:=fun x t b=>by
  have:=(w.kid (D x t).1 b fun hf=>absurd (D x t).2 hf).1 i y B n
  exact this v1
 refine P a d E as H Q p ra m v3 (fun x t=>(w.itm (D x t).1).rep) na U fun o' W u R X s1 I Z O C=>?_
 have k:∀ c,(c ∈ E\/cJ as c)->dy (us ++ T) g c/\(G.H0 c=none\/G.src c):=fun c b=>by
  rcases b with b | b
  ·have A:c ∈ y.L:=by rw [v2];exact C3 _ b
   exact ⟨w.kid (.inl ⟨i,B⟩) A fun _ l=>by rw [v1] at l;cases l;exact v3 b,F.src c A⟩
  ·exact w.alls D b
 have M:∀ c,(c ∈ E\/cJ as c)->c ≠ a:=fun c b z=>(k c b).1.1 i y B n (by rw [z];exact v1)
 have S:=w.mutate (o':=o') B J v1 X R (fun h=>M a (s1 a h) rfl) fun c b=>k c (s1 c b)
 have V:=S.pushAll (ws:=[u]) fun x t=>by
  rw [Dy.mp t]
  refine ⟨I,O,fun c b=>?_⟩
  have s:=k c (C c b)
  refine ⟨⟨fun j z l hf hz=>?_,s.1.2⟩,s.2⟩
  have l:(if j=i then some (⟨p.1,.ref a,a :: W,.u⟩:It3) else g j)=some z:=l
  by_cases q:j=i
  ·rw [if_pos q] at l
   cases l
   cases hz
   exact M a (C a b) rfl
  ·rw [if_neg q] at l
   exact s.1.1 j z l hf hz
 rw [<- Z,<- I] at q
 exact q u.v _ ⟨[u],_,V.sub ((List.Sublist.refl [u]).append (Dg us T)),.val u⟩
theorem AU {i:Nat} (n:MutD K r f) (hok:∀ d v L H,ok d=true->Rep K H d v L->tyV K Ty v H) (h:tE K G0 W0 (pI ok f i ms) σ H Q):tBM K Ty r (tv i) (tA K G0 W0 ms) σ H Q:=by
 refine h.use fun G W le ρ T g o ρ' w e q=>?_
 obtain ⟨B,k,e⟩:=oE e
 obtain ⟨x,e⟩:=xC e
 obtain ⟨t,f0⟩:=B
 obtain ⟨y,E,F,I,j⟩:=w.slot k
 refine ⟨y.v,j,hok t y.v y.L H (x _ k) (by rw [<- F];exact (w.okS i y E).rep),?_⟩
 refine tA.seq le w e q.err fun rs ρ1 e1 vs H1 Ts g1 s a1=>?_
 obtain ⟨ds,ρ2,g2,a,_,D,_,ys,m,f1,f2⟩:=a1.gives s e1
 subst f1 f2
 cases c:(ρ2[i]?).join with
 | none=>rw [c] at a;exact nsE a
 | some p3 =>
  obtain ⟨A,C⟩:=p3
  rw [c] at a
  cases C with
  | u =>
   dsimp only at a
   cases b:f A (ys.map (·.d)) with
   | none=>rw [b] at a;exact nsE a
   | some p =>
    rw [b] at a
    cases a
    exact D.changed n c j m b q
  | l=>exact nsE a
  | z=>exact nsE a
def kE (t:V->V->V->Hp->(Hp->Prop)->Prop):V->List V->Hp->VK->Prop:=fun x vs H Q=>∃ k v,vs=[k,v]/\t x k v H fun H'=>Q .non H'
def tO (f:D->List D->Option (D × D)) (i:Nat) (mk c:EM):SM:=ag c fun a=>ag (ad i) fun _=>ag mk fun b=>ag (gives [b,a]) fun ds=>fun ρ=>match (ρ[i]?).join with
 | some (d,.u)=>match f d ds with
  | some p=>some (.ok .nx,ρ.set i (some (p.1,.u)))
  | none=>none
 | _=>none
theorem AI {i:Nat} (x:MutD K (kE t) f) (h:tS K G0 W0 (tO f i mk mv) E σ H):vm (tE K G0 W0 mv) (gSub (tv i) (tE K G0 W0 mk) t) E σ H:=by
 refine h.use fun G W le ρ T g r ρ' w e q=>?_
 refine tE.seq le w e q.err fun P ρ1 e1 v H1 ⟨Ts,g1,m,a1⟩=>?_
 obtain ⟨R,F,e1⟩:=oE e1
 obtain ⟨V,f0⟩:=R
 obtain ⟨y,X,Z,Y,k⟩:=m.slot F
 refine ⟨y.v,k,?_⟩
 ·refine tE.seq le m e1 q.err fun n ρ2 O M H2 ⟨Us,g2,D,a2⟩=>?_
  have A:Ars σ [n,P] [M,v] (([] ++ Ts) ++ Us):=.cons a2 (.cons a1 .nil)
  have o:Wf K G H2 σ ρ2 ((([] ++ Ts) ++ Us) ++ T) g2:=D.perm (by
   rw [List.nil_append,<- List.append_assoc]
   exact (List.perm_append_comm).append_right T)
  obtain ⟨ds,ρ3,g3,a,_,I,_,ys,s,f1,f2⟩:=A.gives o O
  subst f1
  cases b:(ρ3[i]?).join with
  | none=>rw [b] at a;exact nsE a
  | some p3 =>
   obtain ⟨B,C⟩:=p3
   rw [b] at a
   cases C with
   | u =>
    dsimp only at a
    cases j:f B (ys.map (·.d)) with
    | none=>rw [j] at a;exact nsE a
    | some p =>
     rw [j] at a
     cases a
     have:=I.changed (Q:=fun _ H'=>E.nx σ H') x b k s j fun S H' ⟨N,U,L,a5⟩=>q _ _ _ (L.sub (Dg N T))
     rw [f2] at this
     obtain ⟨k',S,c,J⟩:=this
     cases c
     exact J
   | l=>exact nsE a
   | z=>exact nsE a
end
end L3
end
section
namespace L3
open PySem L2
structure RE (X:Cx) (G0:Gm) (W0:D->Sto->Prop) (e:Expr) (m:EM):Prop where
 h:PE X e (tE X.K G0 W0 m)
structure RT (X:Cx) (G0:Gm) (W0:D->Sto->Prop) (e:Expr) (m:M3 Bool):Prop where
 h:PT X e (tT X.K G0 W0 m)
structure RW (X:Cx) (G0:Gm) (W0:D->Sto->Prop) (e:Expr) (m:M3 Bool):Prop where
 h:PW X e (tT X.K G0 W0 m)
structure RA (X:Cx) (G0:Gm) (W0:D->Sto->Prop) (es:List Expr) (m:M3 (List R3)):Prop where
 h:PA X es (tA X.K G0 W0 m)
structure RS (X:Cx) (G0:Gm) (W0:D->Sto->Prop) (s:Stmt) (m:SM):Prop where
 h:PS X s (tS X.K G0 W0 m)
structure RSs (X:Cx) (G0:Gm) (W0:D->Sto->Prop) (s:List Stmt) (m:SM):Prop where
 h:PSs X s (tS X.K G0 W0 m)
structure RI (X:Cx) (G0:Gm) (W0:D->Sto->Prop) (tg iter:Expr) (m:IM):Prop where
 h:PI X tg iter (tI X.K G0 W0 m)
structure RG (X:Cx) (pr:Nat->Bool) (target:Expr) (bnd:D->Sto->Option Sto):Prop where
 h:∃ tg,PG X target tg/\Bnd X.K pr tg bnd
structure RGs (X:Cx) (pr:Nat->Bool) (targets:List Expr) (bnd:List D->Sto->Option Sto):Prop where
 h:∃ tg,PGs X targets tg/\xY X.K pr tg bnd
theorem PE.imp (h:PE X e t) (f:∀ σ H Q,t' σ H Q->t σ H Q):PE X e t':=fun pins s σ H Q I q=>h pins s σ H Q I (f σ H Q q)
theorem PT.imp (h:PT X e t) (f:∀ σ H Q,t' σ H Q->t σ H Q):PT X e t':=fun pins s σ H Q I q=>h pins s σ H Q I (f σ H Q q)
theorem PW.imp (h:PW X e t) (f:∀ σ H Q,t' σ H Q->t σ H Q):PW X e t':=fun a pins s σ H Q I q=>h a pins s σ H Q I (f σ H Q q)
theorem PA.imp (h:PA X e t) (f:∀ σ H Q,t' σ H Q->t σ H Q):PA X e t':=fun pos pins s σ H Q I q=>h pos pins s σ H Q I (f σ H Q q)
theorem PS.imp (h:PS X e t) (f:∀ D σ H,t' D σ H->t D σ H):PS X e t':=fun pins s σ H D I q=>h pins s σ H D I (f D σ H q)
theorem PSs.imp (h:PSs X e t) (f:∀ D σ H,t' D σ H->t D σ H):PSs X e t':=fun pins s σ H D I q=>h pins s σ H D I (f D σ H q)
theorem PI.imp (h:PI X tg e t) (f:∀ σ H R,t' σ H R->t σ H R):PI X tg e t':=fun pins s σ H R I q=>h pins s σ H R I (f σ H R q)
theorem szl:(16777216:Nat)=sizeLine:=by rw [sizeLine_eq]
section
variable {X:Cx} {G0:Gm} {W0:D->Sto->Prop} {a b c e:Expr} {es:List Expr} {pos:Pos} {ma mb mc m:EM} {ms:M3 (List R3)} {t u:M3 Bool} {rest:List Expr}
theorem m4 (i:Nat) (b:X.N[i]?=some x) (c:Vis X.env.scope x) (hd:(x == ("__debug__":Str))=false) (a:(x == ("__classdict__":Str))=false):RE X G0 W0 (.Name x pos) (ad i):=⟨PE.imp (ng b c hd a) fun _ _ _ h=>AR h⟩
theorem Br:RE X G0 W0 (.Constant (.int i) j pos) (mC (.int i)):=⟨PE.imp BM fun _ _ _ h=>fE (fun _=>.int i) h⟩
theorem re_bl:RE X G0 W0 (.Constant (.bool i) j pos) (mC (.bl i)):=⟨PE.imp pe_bl fun _ _ _ h=>fE (fun _=>.bl i) h⟩
theorem Bp:RE X G0 W0 (.Constant .none j pos) (mC .non):=⟨PE.imp BK fun _ _ _ h=>fE (fun _=>.non) h⟩
theorem Bk:RE X G0 W0 (.Constant (.str i) j pos) (mC (.str i)):=⟨PE.imp BH fun _ _ _ h=>fE (fun _=>.str i) h⟩
theorem o6 {i:Int} (a:Gl X x) (hm:X.mg x=some (.int i tk)) (hd:(x == ("__debug__":Str))=false):RE X G0 W0 (.Name x pos) (mC (.int i)):=⟨PE.imp (sg (v:=V.int i) a hm ⟨_,rfl⟩ hd) fun _ _ _ h=>fE (fun _=>.int i) h⟩
theorem jj (c:OpR X (binaryOp op) r) (hd:OpD X.K r f) (e:RE X G0 W0 a ma) (d:RE X G0 W0 b mb):RE X G0 W0 (.BinOp a op b pos) (ah f ma mb):=⟨PE.imp (pe_op c e.h d.h) fun _ _ _ h=>mP hd h⟩
theorem re_un (b:UnR X (unaryOp op) r) (hd:UnD X.K r f) (c:RE X G0 W0 a ma):RE X G0 W0 (.UnaryOp op a pos) (mUn f ma):=⟨PE.imp (pe_un b c.h) fun _ _ _ h=>rK hd h⟩
theorem qz (c:OpR X (compareOp op) r) (hd:OpD X.K r f) (e:RE X G0 W0 a ma) (d:RE X G0 W0 b mb) (hm:behindInMarks op b=false):RE X G0 W0 (.Compare a [op] [b] pos) (ah f ma mb):=⟨PE.imp (y8 c e.h d.h hm) fun _ _ _ h=>mP hd h⟩
theorem re_ix (d:IxR X r) (hd:OpD X.K r f) (g:RE X G0 W0 a ma) (e:RE X G0 W0 b mb) (c:s9 b):RE X G0 W0 (.Subscript a b pos) (ah f ma mb):=⟨PE.imp (pe_ix d g.h e.h c) fun _ _ _ h=>mP hd h⟩
theorem Bs (d:RE X G0 W0 a ma) (c:RE X G0 W0 (.BoolOp .And (b :: rest) pos) mb):RE X G0 W0 (.BoolOp .And (a :: b :: rest) pos) (j0 ma mb):=⟨PE.imp (BP d.h c.h) fun _ _ _ h=>AW h⟩
theorem Bm (h:RE X G0 W0 a ma):RE X G0 W0 (.BoolOp op [a] pos) ma:=⟨BI h.h⟩
theorem Bo (b:RE X G0 W0 a ma):RE X G0 W0 (.UnaryOp .Not a pos) (zu ma):=⟨PE.imp (BJ b.h) fun _ _ _ h=>AT h⟩
def fV (f b:D->D->Option (D × Fl)) (ma mb mc:EM):EM:=ag ma fun ra=>ag mb fun rb=>ag (der ra) fun da=>ag (der rb) fun db=>ag (bo ((f da db).bind fun p=>asB p.1)) fun k=>if k then ag mc fun rc=>ag (der rb) fun db=>ag (der rc) fun a=>bo ((b db a).map fun p=>R3.val p.1 p.2) else ba (.val (.bl false) .z)
theorem A9 (b:RE X G0 W0 a ma) (he:∀ whole,isTrue a X.env whole=(do let v <- whole;standAt a.pos;holding [v] (truthy v))):RT X G0 W0 a (cB ma):=⟨PT.imp (By b.h he) fun _ _ _ h=>AG h⟩
theorem rt_w (h:RW X G0 W0 a t):RT X G0 W0 a t:=⟨h.h.pt⟩
theorem yA (b:RT X G0 W0 a t):RW X G0 W0 (.BoolOp .And [a] pos) t:=⟨yS b.h⟩
theorem A6 (b:RT X G0 W0 a t):RW X G0 W0 (.BoolOp .Or [a] pos) t:=⟨Bw b.h⟩
theorem A7 (d:RT X G0 W0 a t) (c:RW X G0 W0 (.BoolOp .And (b :: rest) pos) u):RW X G0 W0 (.BoolOp .And (a :: b :: rest) pos) (jA t u):=⟨PW.imp (Bx d.h c.h) fun _ _ _ h=>AH h⟩
theorem rw_or (d:RT X G0 W0 a t) (c:RW X G0 W0 (.BoolOp .Or (b :: rest) pos) u):RW X G0 W0 (.BoolOp .Or (a :: b :: rest) pos) (cOr t u):=⟨PW.imp (pw_or d.h c.h) fun _ _ _ h=>tT_or h⟩
theorem Ba (b:RT X G0 W0 a t):RT X G0 W0 (.UnaryOp .Not a pos) (d6 t):=⟨PT.imp (Bz b.h) fun _ _ _ h=>AF h⟩
theorem Bt:RA X G0 W0 [] ai:=⟨PA.imp qG fun _ _ _ h=>AX h⟩
theorem yQ (c:RE X G0 W0 e m) (b:RA X G0 W0 es ms) (a:starEach (e :: es) X.env=(false,eval e X.env) :: starEach es X.env):RA X G0 W0 (e :: es) (ac m ms):=⟨PA.imp (iR c.h b.h a) fun _ _ _ h=>yl h⟩
theorem Bj (h:RA X G0 W0 es ms):RE X G0 W0 (.Tuple es x1 pos) (jm ms):=⟨PE.imp (BG h.h) fun _ _ _ h=>AS szl h⟩
theorem Bq (h:RA X G0 W0 es ms):RE X G0 W0 (.List es pos) (eR ms):=⟨PE.imp (BL h.h) fun _ _ _ h=>AV szl h⟩
theorem ee {id:String} (g:cI X (.builtin id) r) (hd:gg X.K r f) (d:Gl X x) (hm:X.mg x=none) (c:bootBuiltins x=some (.builtin id)) (j:RA X G0 W0 (e :: es) ms) (i:x ≠ "__name__") (a:(x == ("__debug__":Str))=false) (he:starEach (e :: es) X.env=(false,eval e X.env) :: starEach es X.env) (b:(backTo pos (starEach es X.env)).any (·.1)=false):RE X G0 W0 (.Call (.Name x p) (e :: es) [] pos) (aC f ms):=⟨PE.imp (kI g d hm c j.h i a he b) fun _ _ _ h=>oM hd h⟩
theorem l6 (g:cI X (.type T) r) (hd:gg X.K r f) (d:Gl X x) (hm:X.mg x=none) (c:bootBuiltins x=some (.type T)) (j:RA X G0 W0 (e :: es) ms) (i:x ≠ "__name__") (a:(x == ("__debug__":Str))=false) (he:starEach (e :: es) X.env=(false,eval e X.env) :: starEach es X.env) (b:(backTo pos (starEach es X.env)).any (·.1)=false):RE X G0 W0 (.Call (.Name x p) (e :: es) [] pos) (aC f ms):=⟨PE.imp (t7 g d hm c j.h i a he b) fun _ _ _ h=>oM hd h⟩
variable {st:Stmt} {sts:List Stmt} {sm sn:SM}
theorem yE:RSs X G0 W0 [] cn:=⟨PSs.imp yW fun _ _ _ h=>AM h⟩
theorem vN (h1:RS X G0 W0 st sm) (h2:RSs X G0 W0 sts sn):RSs X G0 W0 (st :: sts) (aD sm sn):=⟨PSs.imp (wl h1.h h2.h) fun _ _ _ h=>AK h⟩
theorem yD (h1:RS X G0 W0 st sm):RSs X G0 W0 [st] sm:=⟨se h1.h⟩
theorem yF (he:RE X G0 W0 e m) (a:swapsWith e none pos.line X.env=pure false):RS X G0 W0 (.Expr e pos) (fJ m):=⟨PS.imp (yX he.h a) fun _ _ _ h=>yg h⟩
theorem Be (np:Nat) (a:∀ i,np<=i->G0.pr i=false) (he:RE X G0 W0 e m):RS X G0 W0 (.Return (some e) pos) (a7 np m):=⟨PS.imp (BB he.h) fun _ _ _ h=>AL a h⟩
theorem rs_if (b:RT X G0 W0 c t) (d:RSs X G0 W0 x sm) (a:RSs X G0 W0 y sn):RS X G0 W0 (.If c x y pos) (sIf t sm sn):=⟨PS.imp (ps_if b.h d.h a.h) fun _ _ _ h=>tS_if h⟩
theorem Bd (i:Nat) (a:X.N.Nodup) (hi:X.N[i]?=some x) (d:Loc X.env.scope x) (he:RE X G0 W0 e m) (c:swapsWith e (some (.Name x pos')) pos.line X.env=pure false) (hf:X.fn x=true\/X.env.scope.names.lookup x=some .local) (b:G0.pr i=false):RS X G0 W0 (.Assign [.Name x pos'] e pos) (bj i m):=⟨PS.imp (BA a hi d he.h c hf) fun _ _ _ h=>AJ b h⟩
theorem vP (b:PassesOwn (model X.prog X.w) X.A X.env X.xe) (d:RT X G0 W0 c t) (a:RSs X G0 W0 body sm):RS X G0 W0 (.While c body [] pos) (fH t sm):=⟨PS.imp (wm b d.h a.h) fun _ _ _ h=>vg h⟩
theorem Bf (b:PassesOwn (model X.prog X.w) X.A X.env X.xe) (e:X.calm=true) (hi:RI X G0 W0 tg iter im) (d:RG X G0.pr tg bnd) (a:RSs X G0 W0 body sm) (c:∀ x,foldedSetIterable iter X.env x=pure x):RS X G0 W0 (.For tg iter body [] pos) (cN im bnd sm):=by
 obtain ⟨g,h1,h2⟩:=d.h
 exact ⟨PS.imp (BC b e hi.h h1 a.h c) fun _ _ _ h=>AN h2 h⟩
theorem rR (i:Nat) (a:X.N.Nodup) (hi:X.N[i]?=some x) (c:Loc X.env.scope x) (hf:X.fn x=true\/X.env.scope.names.lookup x=some .local) (b:pr i=false):RG X pr (.Name x pos) (aq i):=⟨_,iP a hi c hf,gb b⟩
theorem yM:RGs X pr [] lL:=⟨_,sf,qc⟩
theorem vU (h1:RG X pr e bn) (h2:RGs X pr es bs) (a:(assignEach (e :: es) X.env).map (·.2)=assign e X.env :: (assignEach es X.env).map (·.2)):RGs X pr (e :: es) (cH bn bs):=by
 obtain ⟨g,a1,a2⟩:=h1.h
 obtain ⟨b,b1,b2⟩:=h2.h
 exact ⟨_,kH a1 b1 a,jB a2 b2⟩
theorem Bi {k n:Nat} (b:X.calm=true) (h:RGs X pr es bs) (c:(assignEach es X.env).length=n) (a:(assignEach es X.env).findIdx? (·.1)=none):RG X pr (.Tuple es k pos) (lK n bs):=by
 obtain ⟨d,b1,b2⟩:=h.h
 exact ⟨_,wr b b1 c a,sV b2⟩
theorem yO (NY:List Str) (ix:List (Option Nat)) (e:X.calm=true) (hi:RI X G0 W0 tg iter im) (d:∀ s H C fp,PTs (am X NY scope s H C fp) ifs (tT X.K (aV ix) noX cm)) (he:∀ s H C fp,RE (am X NY scope s H C fp) (aV ix) noX elt em) (g:dF scope X.N X.env.scope NY ix=true) (b:Inj ix) (f:∀ x,foldedSetIterable iter X.env x=pure x) (c:∃ a,Bnd X.K (aV ix).pr a bnd/\∀ s H C fp,PG (am X NY scope s H C fp) tg a):RE X G0 W0 (.ListComp elt [⟨tg,iter,ifs,0⟩] scope pos) (bU im bnd cm em ix):=by
 obtain ⟨a,b1,b2⟩:=c
 exact ⟨PE.imp (y7 NY ix e hi.h b2 d (fun s H C fp=>(he s H C fp).h) g f) fun _ _ _ h=>rM szl b b1 h⟩
end
end L3
end
section
namespace L3
open PySem L2
noncomputable def av (F:Fn) (ms:M3 (List R3)):EM:=ag ms fun rs=>fun ρ=>match prs (frz (eU rs) ρ) rs with
 | none=>none
 | some ps=>match F ps with
  | none=>none
  | some (.ok p,qs)=>if qs.length=ps.length then some (.ok (.val p.1 p.2),back rs ps qs (frz (eU rs) ρ)) else none
  | some (.error _,_)=>none
def qk (K:FG) (F:Fn):Sp:=fun vs H Q _=>∃ (ps:List It3) (p:D × Fl) (fs:List (D × Fl)),vs=ps.map (·.v)/\(∀ p ∈ ps,Arg K H p)/\ps.Pairwise Apart3/\F (ps.map fun p=>(p.d,p.f))=some (.ok p,fs) /\
 ∀ x qs H',Behind K H H' ps qs x->x.d=p.1->x.f=p.2->qs.map (fun q=>(q.d,q.f))=fs->Q x.v H'
section
variable {K:FG} {G G0:Gm} {W W0:D->Sto->Prop} {H H':Hp} {σ:St} {ρ ρ':Sto} {T T':List It3} {g:Nat->Option It3} {x y z:It3} {α β:Type}
theorem oN (h:tE K G0 W0 (av F ms) σ H Q):tA K G0 W0 ms σ H fun vs H1=>qk K F vs H1 Q E0:=by
 refine h.use fun G W le ρ T g o ρ' w e q=>?_
 refine tA.seq le w e q.err fun rs ρ1 e1 vs H1 Ts g1 n a1=>?_
 obtain ⟨g2,c,C⟩:=Wf.frz (is:=eU rs) n
 cases k:prs (L3.frz (eU rs) ρ1) rs with
 | none=>rw [k] at e1;exact nsE e1
 | some pfs =>
  rw [k] at e1
  dsimp only at e1
  have hd:∀ i,2<=(pls rs).count i->∀ y,g2 i=some y->y.f=.z:=fun i N y t=>by
   have hm:i ∈ eU rs:=DA.mpr ⟨List.count_pos_iff.mp (by omega),by simpa using N⟩
   have s1:=c.sl i
   rw [t] at s1
   have u:∃ y0,g1 i=some y0:=by
    cases D:g1 i with
    | some y0=>exact ⟨y0,rfl⟩
    | none =>
     exfalso
     have s2:=n.sl i
     rw [D] at s2
     have:=kX (is:=eU rs) s2.symm
     rw [this] at s1
     cases s1
   obtain ⟨y0,l⟩:=u
   obtain ⟨S,b,_,P⟩:=C i y0 l
   rw [t] at b
   cases b
   exact P hm
  obtain ⟨ps,f1,f2,A,f4,M⟩:=Ars.args a1 c hd k
  have hit:∀ p ∈ ps,Itm (Ts ++ T) g2 p:=fun p j=>by
   rcases f4 p j with ⟨i,_,E⟩ | h
   ·exact .inl ⟨i,E⟩
   ·exact .inr (C6 _ h)
  have d:∀ p ∈ ps,Arg K H1 p:=fun p j=>⟨(c.itm (hit p j)).rep,fun hf=>by
   obtain ⟨m,a,L',v1,v2,v3,_⟩:=(c.itm (hit p j)).own hf
   exact ⟨m,a,L',v1,v2,v3⟩⟩
  subst f2
  cases b:F pfs with
  | none=>rw [b] at e1;exact nsE e1
  | some r =>
   obtain ⟨out,fs⟩:=r
   rw [b] at e1
   cases out with
   | ok p =>
    dsimp only at e1
    split at e1
    ·cases e1
     refine ⟨ps,p,fs,rfl,d,A,by rw [f1];exact b,?_⟩
     intro x qs H' B I L O
     obtain ⟨g',R,J⟩:=Wf.after c k f1 f4 M B.toBehindX
     have s:=J x B.rep B.own B.src B.apx
     rw [O] at s
     rw [<- I,<- L] at q
     exact q x.v H' ⟨[x],g',s,.val x⟩
    ·exact nsE e1
   | error er=>exact nsE e1
def cg (b:Bool) (p:It3):It3:=if b then c8 p else p
theorem jn:∀ {mask:List Bool} {ps:List It3},(List.zipWith cg mask ps).map (fun p=>(p.d,p.f))=List.zipWith pJ mask (ps.map fun p=>(p.d,p.f))
 | [],_=>rfl
 | _ :: _,[]=>rfl
 | b :: mask,p :: ps=>by
  simp only [List.zipWith_cons_cons,Dn,jn]
  cases b <;> rfl
theorem mm {i:Nat} (h:(List.zipWith cg mask ps)[i]?=some q):∃ b p,mask[i]?=some b/\ps[i]?=some p/\q=cg b p:=by
 rw [List.getElem?_zipWith] at h
 cases e1:mask[i]? with
 | none=>rw [e1] at h;exact nsE h
 | some b =>
  cases a:ps[i]? with
  | none=>rw [e1,a] at h;exact nsE h
  | some p=>rw [e1,a] at h;cases h;exact ⟨b,p,rfl,rfl,rfl⟩
theorem iV {i:Nat} (a:ps.length=mask.length) (h:ps[i]?=some p):∃ b,mask[i]?=some b/\(List.zipWith cg mask ps)[i]?=some (cg b p):=by
 have hi:i < mask.length:=by have:=(De.mp h).1;omega
 refine ⟨mask[i],C9 hi,?_⟩
 rw [List.getElem?_zipWith,C9 hi,h]
theorem bd (b:Bool) (p:It3):(cg b p).d=p.d/\(cg b p).v=p.v/\(cg b p).L=p.L/\((cg b p).f=p.f\/(cg b p).f=.z):=by
 cases b
 ·exact ⟨rfl,rfl,rfl,.inl rfl⟩
 ·exact ⟨rfl,rfl,rfl,.inr rfl⟩
theorem NoRoot.low (h:NoRoot a b) (d:a'.v=a.v) (hf:a'.f=a.f\/a'.f=.z) (g:b'.L=b.L):NoRoot a' b':=fun q c e=>by
 rw [g]
 rcases hf with f | f
 ·exact h (by rw [<- f];exact q) c (by rw [<- d];exact e)
 ·exact absurd f q
def prM (mask:List Bool) (i:Nat):Bool:=match mask[i]? with
 | some b=>!b
 | none=>false
theorem sj {f:α->β} {l:List α} {i:Nat} {a:α} (h:l[i]?=some a):(l.map f)[i]?=some (f a):=by rw [Di,h];rfl
theorem nR {n:Nat} (hn:mask.length<=n) (h:qk K (fnM mask n m) vs H Q E) :
  ∃ G:Gm,G.pr=prM mask/\tS K G noX m { nx:=fun _ H'=>Q .non H',rt:=Q } (vs.map some ++ List.replicate (n - vs.length) none) H:=by
 obtain ⟨ps,p,fs,rfl,Z,hp,l,q⟩:=h
 unfold fnM at l
 rw [Dd] at l
 split at l
 ·rename_i hl
  rw [<- jn] at l
  generalize w:List.zipWith cg mask ps=g at l
  have Y:g.length=ps.length:=by rw [<- w,List.length_zipWith];omega
  have S:g.map (·.v)=ps.map (·.v):=by
   refine List.ext_getElem? fun i=>?_
   rw [Di,Di]
   cases e:ps[i]? with
   | none=>rw [List.getElem?_eq_none (by have:=List.getElem?_eq_none_iff.mp e;omega)]
   | some u =>
    obtain ⟨b,_,t⟩:=iV (mask:=mask) hl e
    rw [w] at t
    rw [t]
    show some (cg b u).v=some u.v
    rw [(bd b u).2.1]
  have up:∀ (i:Nat) (u:It3),g[i]?=some u->∃ b s,mask[i]?=some b/\ps[i]?=some s/\u=cg b s:=fun i u e=>by rw [<- w] at e;exact mm e
  have A:∀ u ∈ g,∃ b s,s ∈ ps/\u=cg b s:=fun u hu=>by
   obtain ⟨i,hi,e⟩:=List.mem_iff_getElem.mp hu
   obtain ⟨b,s,_,t,y⟩:=up i u (by rw [C9 hi,e])
   exact ⟨b,s,Df t,y⟩
  have O:∀ u ∈ g,Arg K H u:=fun u hu=>by
   obtain ⟨b,s,h0,rfl⟩:=A u hu
   obtain ⟨e1,t,y,V⟩:=bd b s
   refine ⟨by rw [e1,t,y];exact (Z s h0).rep,fun hf=>?_⟩
   rw [e1,t,y]
   refine (Z s h0).own fun z=>hf ?_
   rcases V with f | f
   ·rw [f];exact z
   ·exact f
  have J:g.Pairwise Apart3:=by
   rw [List.pairwise_iff_getElem]
   intro i j hi hj lt
   obtain ⟨b,s,_,t,y⟩:=up i _ (C9 hi)
   obtain ⟨C,U,_,X,T⟩:=up j _ (C9 hj)
   have ap:=ce hp (fun _ _=>Apart3.symm) (Dl lt) t X
   rw [y,T]
   obtain ⟨_,a2,a3,R⟩:=bd b s
   obtain ⟨_,b2,b3,b4⟩:=bd C U
   exact ⟨ap.1.low a2 R b3,ap.2.low b2 b4 a3⟩
  have P:∀ (i:Nat) (u:It3),g[i]?=some u->u.f ≠ .z->prM mask i=true:=fun i u e hf=>by
   obtain ⟨b,s,e1,t,y⟩:=up i u e
   unfold prM
   rw [e1]
   cases b with
   | false=>rfl
   | true=>rw [y] at hf;exact absurd rfl hf
  have alls:∀ c,cJ g c->cJ ps c:=fun c ⟨u,hu,I⟩=>by
   obtain ⟨b,s,h0,rfl⟩:=A u hu
   exact ⟨s,h0,by rw [<- (bd b s).2.2.1];exact I⟩
  have lift:∀ {H':Hp} {qs:List It3},BehindX K H H' g qs->BehindX K H H' ps qs:=fun {H' qs} B=>by
   refine ⟨fun b o hb hn=>B.frame b o hb fun u hu hf S=>?_,Paired.ofGet ?_ fun k u v eu ev=>?_,B.apart⟩
   ·obtain ⟨C,s,h0,rfl⟩:=A u hu
    obtain ⟨_,t,_,V⟩:=bd C s
    rcases V with f | f
    ·exact hn s h0 (by rw [<- f];exact hf) (by rw [<- t];exact S)
    ·rw [f] at hf;cases hf
   ·rw [<- Y];exact Paired.length B.back
   ·obtain ⟨b,_,t⟩:=iV (mask:=mask) hl eu
    rw [w] at t
    have b1:=Paired.at B.back t ev
    obtain ⟨a1,a2,a3,R⟩:=bd b u
    refine ⟨fun hz=>?_,by rw [b1.v,a2],?_,b1.arg,fun c I=>(b1.src c I).imp id (alls c),fun hf C N=>?_⟩
    ·have:cg b u=u:=by
      cases b
      ·rfl
      ·obtain ⟨d,v,L,f⟩:=u
       have hz:f=.z:=hz
       subst hz;rfl
     rw [<- this]
     exact b1.z (by rw [this];exact hz)
    ·rcases b1.f with h | h
     ·rcases R with f | f
      ·exact .inl (h.trans f)
      ·exact .inr (h.trans f)
     ·exact .inr h
    ·rcases R with f | f
     ·exact b1.there (by rw [f];exact hf) C (by rw [a2];exact N)
     ·-- lowered: as it was
      obtain ⟨_,a,L',v1,v2,_⟩:=(Z u (Df eu)).own (by rw [hf];intro q;cases q)
      rw [N] at v1;cases v1
      have hq:=b1.z f
      have r:=b1.arg.rep
      rw [hq,a1,a2,a3] at r
      exact (r.inH C (by rw [v2];exact C2)).ex
  have ae:g.length<=n:=by omega
  have wf:=oB (K:=K) (H:=H) (n:=n) (pr:=prM mask) ae O J P
  rw [S] at wf
  refine ⟨gOf H (prM mask) ((ps.map (·.v)).map some ++ List.replicate (n - (ps.map (·.v)).length) none) g,rfl,?_⟩
  have h0:∀ (i:Nat) (u:It3),g[i]?=some u->((ps.map (·.v)).map some ++ List.replicate (n - (ps.map (·.v)).length) none)[i]?=some (some u.v):=fun i u e=>jh (by rw [<- S];exact sj e)
  unfold fn0 at l
  cases e:m (entry n (g.map fun p=>(p.d,p.f))) with
  | none=>rw [e] at l;exact nsE l
  | some rr =>
   obtain ⟨r,ρ2⟩:=rr
   rw [e] at l
   refine tS.mk (r:=r) (Le.refl K _ _) wf e ?_
   have fin:∀ {x:It3} {σ':St} {H':Hp} {g':Nat->Option It3} {d:D} {f:Fl},Wf K (gOf H (prM mask) ((ps.map (·.v)).map some ++ List.replicate (n - (ps.map (·.v)).length) none) g) H' σ' ρ2 [x] g'->x.d=d->x.f=f ->
     ((d5 ρ2 0 (g.map fun p=>(p.d,p.f))).map fun fs=>((.ok (d,f),fs):Except D (D × Fl) × List (D × Fl)))=some (.ok p,fs)->Q x.v H':=fun {x σ' H' g' d f} M xd xf l=>by
    cases F:d5 ρ2 0 (g.map fun p=>(p.d,p.f)) with
    | none=>rw [F] at l;exact nsE l
    | some fs' =>
     rw [F] at l
     cases l
     obtain ⟨qs,B,hq⟩:=lq (n:=n) O J P h0 M F
     have BX:=lift B.toBehindX
     exact q x qs H' ⟨BX,B.rep,B.own,fun c I=>(B.src c I).imp id (alls c),B.apx⟩ xd xf hq
   cases r with
   | error er=>
    dsimp only at l
    cases F:d5 ρ2 0 (g.map fun p=>(p.d,p.f)) with
    | none=>rw [F] at l;exact nsE l
    | some fs'=>rw [F] at l;cases l
   | ok fl =>
    cases fl with
    | nx =>
     intro σ' H' g' M
     obtain ⟨Ts,g2,w2,a2⟩:=M.const .non
     obtain ⟨x,rfl,x1,W,x3⟩:=a2.val_inv
     have:=fin w2 x1 W l
     rw [x3] at this
     exact this
    | br=>exact nsE l
    | ct=>exact nsE l
    | rt d f =>
     intro x σ' H' g' M x1 W
     exact fin M x1 W l
 ·exact nsE l
end
abbrev a9 (P:Program) (w:World) (K:FG) (mg:Str->Option Value) (base:Heap) (x:Str) (k:Nat) (ps:List Str) (F:Fn):Prop:=Callee P w K mg base x k ps (qk K F)
theorem bI {k:Nat} {nn:Nat} (D:Def K mg x st) (S:FnScope N ps (af st)) (c:mask.length=ps.length) (b:N.length=nn) (i:∀ (kV doc pm:Value) (an:Option Addr) (a ct:Value) (us:List Value),us.length=ps.length->bindArgs (PySem.W.fnOf x x (aF st) (au st) (af st) .none kV doc pm an a ct) ⟨us,[]⟩=pure (ps.zip us)) (body:∀ (a:Value) (A:Around) (outer:List Env) (s:Shared) (H:Hp) (E:XK) (f:Addr) (G:Gm),Room k (A.deeper (PyProof.Rows.envOfC x (af st) s.heap.objs.size f a))->G.pr=prM mask->RSs (de CX0 P w K mg base N x (af st) f a A outer s H E).nox G noX (au st) m) :
  a9 P w K mg base x (k+1) ps (fnM mask nn m):=by
 refine D.callee i fun f fd F=>F.ok S (fun vs H Q E h=>?_) fun a A outer s H vs Q E g h=>?_
 ·obtain ⟨n,p,fs,rfl,_,_,d,_⟩:=h
  unfold fnM at d
  rw [Dd] at d ⊢
  split at d
  ·rename_i e;rw [e,c]
  ·exact nsE d
 ·have hle:mask.length<=nn:=by
   rw [c,<- b]
   have:=congrArg List.length S.pre
   rw [Dv] at this
   omega
  obtain ⟨G,l,j⟩:=nR hle h
  subst b
  exact ⟨_,(body a A outer s H E f G g l).h,j⟩
theorem yP {k:Nat} (c:a9 X.prog X.w X.K X.mg X.base x k ps F) (d:Room k X.A) (g:RA X G0 W0 (e :: es) ms) (f:Gl X x) (b:(x == ("__debug__":Str))=false) (he:starEach (e :: es) X.env=(false,eval e X.env) :: starEach es X.env) (a:(backTo pos (starEach es X.env)).any (·.1)=false):RE X G0 W0 (.Call (.Name x p) (e :: es) [] pos) (av F ms) :=
 ⟨PE.imp (pe_fn c d g.h f b he a) fun _ _ _ h=>oN h⟩
end L3
end
section
namespace L3
open PySem L2
def orD (f g:D->D->Option (D × Fl)) (a b:D):Option (D × Fl):=match f a b with
 | some p=>some p
 | none=>g a b
section
variable {K:FG} {H:Hp} {Ks:Addr->Prop} {d:D} {v:V} {L:List Addr} {X:Cx}
theorem dI (r:Rep K H d v []):New K H H Ks ⟨d,v,[],.z⟩:=⟨Same.refl _,r,fun _ h=>(by cases h),fun h=>absurd rfl h⟩
theorem pv (r:Rep K H d v L) (h:∀ c ∈ L,Ks c):New K H H Ks ⟨d,v,L,.z⟩:=⟨Same.refl _,r,fun c a=>.inr (h c a),fun h=>absurd rfl h⟩
theorem uh (a:H p=none) (r:Reps (Rep K H) ds vs L) (h:∀ c ∈ L,Ks c):New K H (upd H p (.lst vs)) Ks ⟨.lst ds,.ref p,p :: L,.u⟩:=by
 have np:p ∉ L:=fun b=>by obtain ⟨o,d⟩:=(r.inH p b).ex;rw [a] at d;exact nsE d
 refine ⟨bq a,.lst aI (r.same (bq a)),fun c b=>?_,fun _=>⟨rfl,p,L,rfl,rfl,np,a⟩⟩
 rcases C8.mp b with e | b
 ·rw [e];exact .inl a
 ·exact .inr (h c b)
theorem zo (a:H p=none) (r:Reps (Rep K H) ds vs L) (h:∀ c ∈ L,Ks c):New K H (upd H p (.tup vs)) Ks ⟨.tup ds,.ref p,L,.z⟩ :=
 ⟨bq a,.tup aI (r.same (bq a)),fun c b=>.inr (h c b),fun h=>absurd rfl h⟩
theorem js (b:y ∈ ys) (h:Arg K H y) (hm:iW y.d=false):∀ c ∈ y.L,dH ys c:=fun c a=>⟨y,b,a,fun hf=>by
 have:=(h.own hf).1
 rw [hm] at this;cases this⟩
theorem pL (g:y ∈ ys) (h:Arg K H y) (b:y.v=.ref a) (f:y.L=a :: L):∀ c ∈ L,dH ys c:=fun c d=>⟨y,g,by rw [f];exact C3 _ d,fun hf e=>by
 obtain ⟨_,i,L',v1,v2,v3⟩:=h.own hf
 rw [b] at v1;cases v1
 rw [f] at v2;cases v2
 rw [b] at e;cases e
 exact v3 d⟩
theorem OpD.or (h:OpD K r f) (h':OpD K r' g):OpD K (fun x y H Q=>r x y H Q\/r' x y H Q) (orD f g):=fun a b H Q p ra rb e q=>by
 unfold orD at e
 cases c:f a.d b.d with
 | some p'=>rw [c] at e;cases e;exact .inl (h a b H Q _ ra rb c q)
 | none=>rw [c] at e;exact .inr (h' a b H Q p ra rb e q)
def cS (C:Int->Int->Bool) (g:Int->Int->D):D->D->Option (D × Fl)
 | .int i,.int j=>if C i j then some (g i j,.z) else none
 | _,_=>none
theorem iX (c:∀ i j,Cb i j=true->C i j) (f:∀ i j H,Rep K H (gd i j) (g i j) []):OpD K (rI C g) (cS Cb gd):=fun a b H Q p ra rb e q=>by
 obtain ⟨da,r,k,h⟩:=a
 obtain ⟨db,l,m,o⟩:=b
 obtain ⟨ra,n⟩:=ra
 obtain ⟨rb,ob⟩:=rb
 dsimp only at ra rb
 cases da <;> try (exact nsE e)
 rename_i i
 obtain ⟨rfl,rfl⟩:=ra.view
 cases db <;> try (exact nsE e)
 rename_i j
 obtain ⟨rfl,rfl⟩:=rb.view
 have e:(if Cb i j then some (gd i j,Fl.z) else none)=some p:=e
 split at e
 ·rename_i d
  cases e
  exact ⟨i,j,rfl,rfl,c i j d,q ⟨gd i j,g i j,[],.z⟩ H (dI (f i j H)) rfl rfl⟩
 ·exact nsE e
theorem rI_of:rI0 g=rI (fun _ _=>True) g:=by
 funext x y H Q
 unfold rI0 rI
 apply propext
 constructor
 ·rintro ⟨i,j,a,b,c⟩;exact ⟨i,j,a,b,trivial,c⟩
 ·rintro ⟨i,j,a,b,_,c⟩;exact ⟨i,j,a,b,c⟩
theorem eh (a:∀ i j H,Rep K H (gd i j) (g i j) []):OpD K (rI0 g) (cS (fun _ _=>true) gd):=by
 rw [rI_of]
 exact iX (fun _ _ _=>trivial) a
abbrev oA:Int->Int->Bool:=fun _ _=>true
abbrev addI:=cS oA fun i j=>.int (i+j)
abbrev cF:=cS oA fun i j=>.int (i - j)
abbrev dY:=cS (fun i j=>decide ((-(2 ^ 64) < i/\i < 2 ^ 64)\/(-(2 ^ 64) < j/\j < 2 ^ 64))) fun i j=>.int (i * j)
abbrev kO:=cS (fun _ j=>decide (0 < j)) fun i j=>.int (i % j)
abbrev kG:=cS (fun i j=>decide (0<=j/\j<=1000000/\i.natAbs < 2 ^ 64)) fun i j=>.int (i ^ j.toNat)
abbrev ltI:=cS oA fun i j=>.bl (decide (i < j))
abbrev leI:=cS oA fun i j=>.bl (decide (i<=j))
abbrev gtI:=cS oA fun i j=>.bl (decide (j < i))
abbrev geI:=cS oA fun i j=>.bl (decide (j<=i))
theorem od_addI:OpD K (rI0 fun i j=>.int (i+j)) addI:=eh fun i j _=>.int _
theorem zf:OpD K (rI0 fun i j=>.int (i - j)) cF:=eh fun i j _=>.int _
theorem zi:OpD K (rI CMul fun i j=>.int (i * j)) dY:=iX (fun i j h=>by simpa [CMul,u7,xW] using h) fun i j _=>.int _
theorem zj:OpD K (rI (fun _ j=>0 < j) fun i j=>.int (i % j)) kO:=iX (fun i j h=>by simpa [CMul,u7,xW] using h) fun i j _=>.int _
theorem zg:OpD K (rI xW fun i j=>.int (i ^ j.toNat)) kG:=iX (fun i j h=>by simpa [CMul,u7,xW] using h) fun i j _=>.int _
theorem wC:OpD K (rI0 fun i j=>.bl (decide (i < j))) ltI:=eh fun i j _=>.bl _
theorem pk:OpD K (rI0 fun i j=>.bl (decide (i<=j))) leI:=eh fun i j _=>.bl _
theorem od_gt:OpD K (rI0 fun i j=>.bl (decide (j < i))) gtI:=eh fun i j _=>.bl _
theorem od_ge:OpD K (rI0 fun i j=>.bl (decide (j<=i))) geI:=eh fun i j _=>.bl _
def zW:D->D->Option (D × Fl)
 | .tup xs,.tup ys=>if xs.length+ys.length<=16777216 then some (.tup (xs ++ ys),.z) else none
 | _,_=>none
def zZ:D->D->Option (D × Fl)
 | .lst xs,.lst ys=>if xs.length+ys.length<=16777216 then some (.lst (xs ++ ys),.u) else none
 | _,_=>none
def zX:D->D->Option (D × Fl)
 | .str xs,.str ys=>if xs.length+ys.length<=16777216 then some (.str (xs ++ ys),.z) else none
 | _,_=>none
theorem Reps.len (r:Reps (Rep K H) ds vs L):ds.length=vs.length:=by
 induction r with
 | nil=>rfl
 | cons _ _ ih=>simp [ih]
theorem Reps.append (r:Reps (Rep K H) ds vs L) (b:Reps (Rep K H) ds' vs' L'):Reps (Rep K H) (ds ++ ds') (vs ++ vs') (L ++ L'):=by
 induction r with
 | nil=>exact b
 | cons a _ ih=>rw [List.append_assoc];exact .cons a ih
theorem Reps.nil_iff (r:Reps (Rep K H) ds vs L):ds=[] ↔ vs=[]:=by cases r <;> simp
def m8 (K:FG):R2:=fun x y H Q=>∃ a b ys,x=.ref a/\y=.ref b/\SqT K H a []/\SqT K H b ys/\Q (.ref b) H
theorem wB:OpR X (binaryOp .Add) (m8 X.K):=by
 intro pins s σ H x y v u Q I z o h
 obtain ⟨a,b,ys,rfl,rfl,A,t,q⟩:=h
 cases z
 cases o
 obtain ⟨f,r,p,_⟩:=I.tuple A
 obtain ⟨m,B,p2,_⟩:=I.tuple t
 have e:f=[]:=r.nil_iff.mpr rfl
 subst e
 obtain ⟨⟨cls,dd,data,sl⟩,k,j,n,hd⟩:=id p
 obtain ⟨⟨l,i,data2,g⟩,d,c,w,hd2⟩:=id p2
 simp only at j hd c hd2
 subst j hd c hd2
 exact concat_meets ⟨_,k,rfl⟩ ⟨_,d,rfl⟩ noFill_tuple_add seq_tuple_add PySem.F.slot_tuple_add PySem.F.entry_tuple_add (PySem.F.args_tuple_add_2 _ _)
   (PyProof.Rows.tuple_addW0 a b _ _ n w dd i sl g (by simp)) ⟨k,d,⟨.ref b,H,I,rfl,q⟩⟩
theorem od_catT:OpD K (fun x y H Q=>r9 K x y H Q\/m8 K x y H Q) zW:=fun a b H Q p ra rb e q=>by
 obtain ⟨da,B,l,r⟩:=a
 obtain ⟨db,A,k,t⟩:=b
 obtain ⟨ra,s⟩:=ra
 obtain ⟨rb,ob⟩:=rb
 dsimp only at ra rb
 cases da <;> try (exact nsE e)
 rename_i xs
 obtain ⟨i,vs,rfl,j,rs⟩:=ra.view
 cases db <;> try (exact nsE e)
 rename_i ys
 obtain ⟨g,ws,rfl,f,d⟩:=rb.view
 have e:(if xs.length+ys.length<=16777216 then some (D.tup (xs ++ ys),Fl.z) else none)=some p:=e
 split at e
 ·rename_i u
  cases e
  by_cases n:vs=[]
  ·have o:=rs.nil_iff.mpr n
   subst n o
   refine .inr ⟨i,g,ws,rfl,rfl,SqT.of j,SqT.of f,?_⟩
   exact q ⟨.tup ys,.ref g,k,.z⟩ H (pv (.tup f d) (js (y:=⟨.tup ys,.ref g,k,t⟩) (C3 _ (Dy.mpr rfl)) ⟨.tup f d,ob⟩ rfl)) rfl rfl
  ·refine .inl ⟨i,g,vs,ws,rfl,rfl,SqT.of j,SqT.of f,n,by rw [<- rs.len,<- d.len,<- szl];exact u,fun hw=>?_,fun hw p v=>?_⟩
   ·have m:=d.nil_iff.mpr hw
    subst m
    refine q ⟨.tup (xs ++ []),.ref i,l,.z⟩ H (pv (by rw [List.append_nil];exact .tup j rs) (js (y:=⟨.tup xs,.ref i,l,r⟩) C2 ⟨.tup j rs,s⟩ rfl)) rfl rfl
   ·refine q ⟨.tup (xs ++ ys),.ref p,l ++ k,.z⟩ _ (zo v (rs.append d) fun c w=>?_) rfl rfl
    rcases Db.mp w with h | h
    ·exact js (y:=⟨.tup xs,.ref i,l,r⟩) C2 ⟨.tup j rs,s⟩ rfl c h
    ·exact js (y:=⟨.tup ys,.ref g,k,t⟩) (C3 _ (Dy.mpr rfl)) ⟨.tup f d,ob⟩ rfl c h
 ·exact nsE e
theorem zn:OpD K yR zZ:=fun a b H Q p ra rb e q=>by
 obtain ⟨da,w,f,m⟩:=a
 obtain ⟨db,v,i,t⟩:=b
 obtain ⟨ra,r⟩:=ra
 obtain ⟨rb,ob⟩:=rb
 dsimp only at ra rb
 cases da <;> try (exact nsE e)
 rename_i xs
 obtain ⟨g,vs,f,rfl,rfl,l,rs⟩:=ra.view
 cases db <;> try (exact nsE e)
 rename_i ys
 obtain ⟨j,ws,i,rfl,rfl,k,d⟩:=rb.view
 have e:(if xs.length+ys.length<=16777216 then some (D.lst (xs ++ ys),Fl.u) else none)=some p:=e
 split at e
 ·rename_i n
  cases e
  refine ⟨g,j,vs,ws,rfl,rfl,l,k,by rw [<- rs.len,<- d.len,<- szl];exact n,fun p o=>?_⟩
  refine q ⟨.lst (xs ++ ys),.ref p,p :: (f ++ i),.u⟩ _ (uh o (rs.append d) fun c s=>?_) rfl rfl
  rcases Db.mp s with h | h
  ·exact pL (y:=⟨.lst xs,.ref g,g :: f,m⟩) C2 ⟨.lst l rs,r⟩ rfl rfl c h
  ·exact pL (y:=⟨.lst ys,.ref j,j :: i,t⟩) (C3 _ (Dy.mpr rfl)) ⟨.lst k d,ob⟩ rfl rfl c h
 ·exact nsE e
theorem od_catS:OpD K (fun x y H Q=>∃ i j,x=.str i/\y=.str j/\i.length+j.length<=sizeLine/\Q (.str (i ++ j)) H) zX:=fun a b H Q p ra rb e q=>by
 obtain ⟨da,m,f,d⟩:=a
 obtain ⟨db,g,h,l⟩:=b
 obtain ⟨ra,k⟩:=ra
 obtain ⟨rb,ob⟩:=rb
 dsimp only at ra rb
 cases da <;> try (exact nsE e)
 rename_i i
 obtain ⟨rfl,rfl⟩:=ra.view
 cases db <;> try (exact nsE e)
 rename_i j
 obtain ⟨rfl,rfl⟩:=rb.view
 have e:(if i.length+j.length<=16777216 then some (D.str (i ++ j),Fl.z) else none)=some p:=e
 split at e
 ·rename_i c
  cases e
  exact ⟨i,j,rfl,rfl,by rw [<- szl];exact c,q ⟨.str (i ++ j),.str (i ++ j),[],.z⟩ H (dI (.str _)) rfl rfl⟩
 ·exact nsE e
abbrev bP:=orD addI (orD zX (orD zW zZ))
theorem BZ:OpD K (fun x y H Q=>rI0 (fun i j=>.int (i+j)) x y H Q\/((∃ i j,x=.str i/\y=.str j/\i.length+j.length<=sizeLine/\Q (.str (i ++ j)) H)\/((r9 K x y H Q\/m8 K x y H Q)\/yR x y H Q))) bP:=od_addI.or (od_catS.or (od_catT.or zn))
theorem zb:OpR X (binaryOp .Add) (fun x y H Q=>rI0 (fun i j=>.int (i+j)) x y H Q\/((∃ i j,x=.str i/\y=.str j/\i.length+j.length<=sizeLine/\Q (.str (i ++ j)) H)\/((r9 X.K x y H Q\/m8 X.K x y H Q)\/yR x y H Q))):=op_add.or (op_add_str.or ((op_catT.or wB).or BV))
def eqS:D->D->Option Bool
 | .non,.non=>some true | .non,.int _=>some false | .int _,.non=>some false | .non,.bl _=>some false | .bl _,.non=>some false | .non,.str _=>some false | .str _,.non=>some false
 | .int i,.int j=>some (decide (i=j)) | .bl i,.bl j=>some (decide (i=j)) | .str i,.str j=>some (decide (i=j))
 | .int _,.str _=>some false | .str _,.int _=>some false | .bl _,.str _=>some false | .str _,.bl _=>some false
 | _,_=>none
theorem xt (ra:Rep K H a u L) (rb:Rep K H b v L') (e:eqS a b=some k):A4 u v=true/\k=decide (u=v):=by
 cases a <;> cases b <;> first | exact nsE e | (obtain ⟨rfl,rfl⟩:=ra.view;obtain ⟨rfl,rfl⟩:=rb.view;cases e;exact ⟨rfl,by simp⟩)
def sA:D->Bool
 | .non=>true
 | _=>false
def isN:D->D->Option (D × Fl)
 | a,.non=>some (.bl (sA a),.z)
 | _,_=>none
def uc:D->D->Option (D × Fl)
 | a,.non=>some (.bl (!sA a),.z)
 | _,_=>none
theorem Rep.non_iff (ra:Rep K H a u L):sA a=decide (u=.non):=by cases ra <;> simp [sA]
theorem wD:OpD K (fun x y H Q=>y=.non/\Q (.bl (decide (x=.non))) H) isN:=fun a b H Q p ra rb e q=>by
 obtain ⟨db,c,d,f⟩:=b
 obtain ⟨rb,ob⟩:=rb
 dsimp only at rb
 cases db <;> try (exact nsE e)
 obtain ⟨rfl,rfl⟩:=rb.view
 unfold isN at e
 cases e
 refine ⟨rfl,?_⟩
 rw [<- ra.rep.non_iff]
 exact q ⟨_,_,[],.z⟩ H (dI (.bl _)) rfl rfl
theorem zh:OpD K (fun x y H Q=>y=.non/\Q (.bl (!decide (x=.non))) H) uc:=fun a b H Q p ra rb e q=>by
 obtain ⟨db,c,d,f⟩:=b
 obtain ⟨rb,ob⟩:=rb
 dsimp only at rb
 cases db <;> try (exact nsE e)
 obtain ⟨rfl,rfl⟩:=rb.view
 unfold uc at e
 cases e
 refine ⟨rfl,?_⟩
 rw [<- ra.rep.non_iff]
 exact q ⟨_,_,[],.z⟩ H (dI (.bl _)) rfl rfl
def B3:D->Option (D × Fl)
 | .int i=>some (.int (-i),.z)
 | _=>none
theorem AB:UnD K (rU fun i=>.int (-i)) B3:=fun a H Q p ra e q=>by
 obtain ⟨da,f,c,b⟩:=a
 obtain ⟨ra,d⟩:=ra
 dsimp only at ra
 cases da <;> try (exact nsE e)
 obtain ⟨rfl,rfl⟩:=ra.view
 cases e
 exact ⟨_,rfl,q ⟨_,_,[],.z⟩ H (dI (.int _)) rfl rfl⟩
theorem Reps.at:∀ {ds:List D} {vs:List V} {L:List Addr} {i:Nat} {d:D},Reps (Rep K H) ds vs L->ds[i]?=some d->∃ v L',vs[i]?=some v/\Rep K H d v L'/\∀ c ∈ L',c ∈ L
 | _,_,_,_,_,.nil,h=>by simp at h
 | _,_,_,0,_,.cons r _,h=>by simp at h;subst h;exact ⟨_,_,rfl,r,fun c a=>C6 _ a⟩
 | _,_,_,i+1,_,.cons _ t,h=>by
  obtain ⟨v,L',h1,h2,h3⟩:=Reps.at (i:=i) t (by simpa using h)
  exact ⟨v,L',by simpa using h1,h2,fun c a=>C7 _ (h3 c a)⟩
theorem Reps.atI {i:Int} (r:Reps (Rep K H) ds vs L) (h:atI ds i=some d):∃ v L',atI vs i=some v/\Rep K H d v L'/\∀ c ∈ L',c ∈ L:=by
 unfold L2.atI at h ⊢
 rw [<- r.len]
 cases e:ixN ds.length i with
 | none=>rw [e] at h;exact nsE h
 | some j=>rw [e] at h;exact r.at h
def ixD:D->D->Option (D × Fl)
 | .lst xs,.int i=>(atI xs i).map fun d=>(d,.z)
 | .fls xs,.int i=>(atI xs i).map fun d=>(d,.z)
 | .tup xs,.int i=>(atI xs i).map fun d=>(d,.z)
 | _,_=>none
theorem od_ix:OpD K (fun x y H Q=>we K x y H Q\/wd K x y H Q) ixD:=fun a b H Q p ra rb e q=>by
 obtain ⟨da,r,k,l⟩:=a
 obtain ⟨db,m,n,s⟩:=b
 obtain ⟨rb,ob⟩:=rb
 have g:=ra
 obtain ⟨ra,o⟩:=ra
 dsimp only at ra rb
 cases da <;> try (exact nsE e)
 all_goals (cases db <;> try (exact nsE e))
 all_goals (rename_i xs i;obtain ⟨rfl,rfl⟩:=rb.view)
 ·obtain ⟨f,vs,rfl,j,rs⟩:=ra.view
  obtain ⟨d,h1,h2⟩:=C5.mp (show (atI xs i).map (fun d=>(d,Fl.z))=some p from e)
  subst h2
  obtain ⟨v,L',g1,g2,g3⟩:=rs.atI h1
  refine .inr ⟨f,vs,i,v,rfl,rfl,SqT.of j,g1,q ⟨d,v,L',.z⟩ H (pv g2 fun c h=>?_) rfl rfl⟩
  exact js (y:=⟨.tup xs,.ref f,k,l⟩) C2 g rfl c (g3 c h)
 ·obtain ⟨f,vs,k,rfl,rfl,j,rs⟩:=ra.view
  obtain ⟨d,h1,h2⟩:=C5.mp (show (atI xs i).map (fun d=>(d,Fl.z))=some p from e)
  subst h2
  obtain ⟨v,L',g1,g2,g3⟩:=rs.atI h1
  refine .inl ⟨f,vs,i,v,rfl,rfl,SqL.of j,g1,q ⟨d,v,L',.z⟩ H (pv g2 fun c h=>?_) rfl rfl⟩
  exact pL (y:=⟨.lst xs,.ref f,f :: k,l⟩) C2 g rfl rfl c (g3 c h)
 ·obtain ⟨f,vs,rfl,j,rs⟩:=ra.view
  obtain ⟨d,h1,h2⟩:=C5.mp (show (atI xs i).map (fun d=>(d,Fl.z))=some p from e)
  subst h2
  obtain ⟨v,L',g1,g2,g3⟩:=rs.atI h1
  refine .inl ⟨f,vs,i,v,rfl,rfl,j.sq,g1,q ⟨d,v,L',.z⟩ H (pv g2 fun c h=>?_) rfl rfl⟩
  exact js (y:=⟨.fls xs,.ref f,k,l⟩) C2 g rfl c (g3 c h)
theorem ix_ok:IxR X (fun x y H Q=>we X.K x y H Q\/wd X.K x y H Q):=ix_list.or Cm
end
end L3
end
section
namespace L3
open PySem L2
section
variable {K:FG} {H:Hp} {Ks:Addr->Prop} {d:D} {v:V} {L:List Addr} {X:Cx}
def c1 (f:D->Option (D × Fl)):List D->Option (D × Fl)
 | [d]=>f d
 | _=>none
def c2 (f:D->D->Option (D × Fl)):List D->Option (D × Fl)
 | [d,d']=>f d d'
 | _=>none
theorem lj {ys:List It3} (e:c1 f (ys.map (·.d))=some p):∃ y,ys=[y]/\f y.d=some p:=by
 match ys,e with
 | [],e=>exact nsE e
 | [y],e=>exact ⟨y,rfl,e⟩
 | _ :: _ :: _,e=>exact nsE e
theorem rA {ys:List It3} (e:c2 f (ys.map (·.d))=some p):∃ y z,ys=[y,z]/\f y.d z.d=some p:=by
 match ys,e with
 | [],e=>exact nsE e
 | [_],e=>exact nsE e
 | [y,z],e=>exact ⟨y,z,rfl,e⟩
 | _ :: _ :: _ :: _,e=>exact nsE e
def zw:D->Option (D × Fl)
 | .lst xs=>some (.int xs.length,.z)
 | .fls xs=>some (.int xs.length,.z)
 | .tup xs=>some (.int xs.length,.z)
 | _=>none
abbrev cb:=c1 zw
theorem CL:gg K (fun xs H Q=>∃ p ys,xs=[.ref p]/\(SqL K H p ys\/SqT K H p ys)/\Q (.int ys.length) H) cb:=fun ys H Q p ra e q=>by
 obtain ⟨y,rfl,d⟩:=lj e
 clear e
 have e:=d
 clear d
 have c:=(ra y C2).rep
 obtain ⟨da,h,f,g⟩:=y
 dsimp only at c e
 cases da <;> try (exact nsE e)
 ·rename_i xs
  obtain ⟨a,vs,rfl,b,rs⟩:=c.view
  cases e
  exact ⟨a,vs,rfl,.inr (SqT.of b),by rw [<- rs.len];exact q ⟨_,_,[],.z⟩ H (dI (.int _)) rfl rfl⟩
 ·rename_i xs
  obtain ⟨a,vs,f,rfl,rfl,b,rs⟩:=c.view
  cases e
  exact ⟨a,vs,rfl,.inl (SqL.of b),by rw [<- rs.len];exact q ⟨_,_,[],.z⟩ H (dI (.int _)) rfl rfl⟩
 ·rename_i xs
  obtain ⟨a,vs,rfl,b,rs⟩:=c.view
  cases e
  exact ⟨a,vs,rfl,.inl b.sq,by rw [<- rs.len];exact q ⟨_,_,[],.z⟩ H (dI (.int _)) rfl rfl⟩
def tupQ:D->Option (D × Fl)
 | .lst xs=>some (.tup xs,.z)
 | .tup xs=>some (.tup xs,.z)
 | _=>none
abbrev qi:=c1 tupQ
theorem CJ:gg K (fun xs H Q=>∃ p ys,xs=[.ref p]/\((SqL K H p ys/\∀ l,H l=none->Q (.ref l) (upd H l (.tup ys)))\/(SqT K H p ys/\Q (.ref p) H))) qi:=fun ys H Q p ra e q=>by
 obtain ⟨y,rfl,h⟩:=lj e
 clear e
 have e:=h
 clear h
 have d:=ra y C2
 have f:=d.rep
 obtain ⟨da,j,b,g⟩:=y
 dsimp only at f e
 cases da <;> try (exact nsE e)
 ·rename_i xs
  obtain ⟨a,vs,rfl,c,rs⟩:=f.view
  cases e
  exact ⟨a,vs,rfl,.inr ⟨SqT.of c,q ⟨.tup xs,.ref a,b,.z⟩ H (pv (.tup c rs) (js (y:=⟨.tup xs,.ref a,b,g⟩) C2 d rfl)) rfl rfl⟩⟩
 ·rename_i xs
  obtain ⟨a,vs,b,rfl,rfl,c,rs⟩:=f.view
  cases e
  exact ⟨a,vs,rfl,.inl ⟨SqL.of c,fun l i=>q ⟨.tup xs,.ref l,b,.z⟩ _ (zo i rs (pL (y:=⟨.lst xs,.ref a,a :: b,g⟩) C2 d rfl rfl)) rfl rfl⟩⟩
def lstQ:D->Option (D × Fl)
 | .lst xs=>some (.lst xs,.u)
 | .tup xs=>some (.lst xs,.u)
 | _=>none
abbrev zv:=c1 lstQ
theorem CK:gg K (fun xs H Q=>∃ p ys,xs=[.ref p]/\(SqL K H p ys\/SqT K H p ys)/\∀ l,H l=none->Q (.ref l) (upd H l (.lst ys))) zv:=fun ys H Q p ra e q=>by
 obtain ⟨y,rfl,i⟩:=lj e
 clear e
 have e:=i
 clear i
 have d:=ra y C2
 have f:=d.rep
 obtain ⟨da,j,b,h⟩:=y
 dsimp only at f e
 cases da <;> try (exact nsE e)
 ·rename_i xs
  obtain ⟨a,vs,rfl,g,rs⟩:=f.view
  cases e
  exact ⟨a,vs,rfl,.inr (SqT.of g),fun l c=>q ⟨.lst xs,.ref l,l :: b,.u⟩ _ (uh c rs (js (y:=⟨.tup xs,.ref a,b,h⟩) C2 d rfl)) rfl rfl⟩
 ·rename_i xs
  obtain ⟨a,vs,b,rfl,rfl,g,rs⟩:=f.view
  cases e
  exact ⟨a,vs,rfl,.inl (SqL.of g),fun l c=>q ⟨.lst xs,.ref l,l :: b,.u⟩ _ (uh c rs (pL (y:=⟨.lst xs,.ref a,a :: b,h⟩) C2 d rfl rfl)) rfl rfl⟩
def absQ:D->Option (D × Fl)
 | .int i=>some (.int (if i < 0 then -i else i),.z)
 | _=>none
theorem Rep.int_inv {i:Int} (r:Rep K H (.int i) v L):v=.int i:=by cases r;rfl
def pN (C:Int->Int->Bool) (g:Int->Int->D):D->D->Option (D × Fl)
 | .int i,.int j=>if C i j then some (g i j,.z) else none
 | _,_=>none
theorem ju (e:pN C g a b=some p):∃ i j,a=.int i/\b=.int j/\C i j=true/\p=(g i j,.z):=by
 cases a <;> cases b <;> try (exact nsE e)
 rename_i i j
 have e:(if C i j then some (g i j,Fl.z) else none)=some p:=e
 split at e
 ·rename_i h;cases e;exact ⟨i,j,rfl,rfl,h,rfl⟩
 ·exact nsE e
abbrev Al:=c2 (pN oA fun i j=>.int (if j > i then j else i))
abbrev Ak:=c2 (pN oA fun i j=>.int (if j < i then j else i))
abbrev xx:=c2 (pN (fun _ j=>decide (0 < j/\j < 1073741824)) fun i j=>.tup [.int (i / j),.int (i % j)])
theorem zV:gg K (fun xs H Q=>∃ i j,xs=[.int i,.int j]/\Q (.int (if j > i then j else i)) H) Al:=fun ys H Q p ra e q=>by
 obtain ⟨y,z,rfl,c⟩:=rA e
 clear e
 have e:=c
 clear c
 obtain ⟨i,j,d,f,_,rfl⟩:=ju e
 have a:=(ra y C2).rep
 have b:=(ra z (C3 _ C2)).rep
 rw [d] at a
 rw [f] at b
 refine ⟨i,j,?_,q ⟨_,_,[],.z⟩ H (dI (.int _)) rfl rfl⟩
 show [y.v,z.v]=_
 rw [a.int_inv,b.int_inv]
theorem zU:gg K (fun xs H Q=>∃ i j,xs=[.int i,.int j]/\Q (.int (if j < i then j else i)) H) Ak:=fun ys H Q p ra e q=>by
 obtain ⟨y,z,rfl,c⟩:=rA e
 clear e
 have e:=c
 clear c
 obtain ⟨i,j,d,f,_,rfl⟩:=ju e
 have a:=(ra y C2).rep
 have b:=(ra z (C3 _ C2)).rep
 rw [d] at a
 rw [f] at b
 refine ⟨i,j,?_,q ⟨_,_,[],.z⟩ H (dI (.int _)) rfl rfl⟩
 show [y.v,z.v]=_
 rw [a.int_inv,b.int_inv]
theorem uR:gg K (fun xs H Q=>∃ i j,xs=[.int i,.int j]/\u7 i j/\∀ p,H p=none->Q (.ref p) (upd H p (.tup [.int (i / j),.int (i % j)]))) xx:=fun ys H Q p ra e q=>by
 obtain ⟨y,z,rfl,f⟩:=rA e
 clear e
 have e:=f
 clear f
 obtain ⟨i,j,h,k,a,rfl⟩:=ju e
 have b:=(ra y C2).rep
 have d:=(ra z (C3 _ C2)).rep
 rw [h] at b
 rw [k] at d
 refine ⟨i,j,?_,by simpa [u7] using a,fun p g=>q ⟨_,.ref p,[],.z⟩ _ (zo g (L:=[]) (.cons (L:=[]) (.int _) (.cons (L:=[]) (.int _) .nil)) fun c a=>by cases a) rfl rfl⟩
 show [y.v,z.v]=_
 rw [b.int_inv,d.int_inv]
def lp:List D->Option (List Bool)
 | []=>some []
 | .bl b :: ds=>(lp ds).map (b :: ·)
 | _=>none
theorem qd:∀ {ds:List D} {bs:List Bool},lp ds=some bs->ds=bs.map D.bl
 | [],bs,e=>by cases e;rfl
 | d :: ds,bs,e=>by
  cases d <;> try (exact nsE e)
  rename_i b
  obtain ⟨r,h1,h2⟩:=C5.mp (show (lp ds).map (b :: ·)=some bs from e)
  subst h2
  rw [qd h1];rfl
theorem Reps.bls:∀ {bs:List Bool} {vs:List V} {L:List Addr},Reps (Rep K H) (bs.map D.bl) vs L->vs=bs.map V.bl
 | [],_,_,.nil=>rfl
 | b :: bs,_,_,.cons r rs=>by
  rw [Reps.bls rs]
  cases r;rfl
def CT:D->Option (D × Fl)
 | .lst xs=>(lp xs).map fun bs=>(.bl (bs.all id),.z)
 | _=>none
abbrev z8:=c1 CT
theorem CM:gg K (fun xs H Q=>∃ (a:Addr) (bs:List Bool),xs=[.ref a]/\SqL K H a (bs.map V.bl)/\Q (.bl (bs.all id)) H) z8:=fun ys H Q p ra e q=>by
 obtain ⟨y,rfl,c⟩:=lj e
 clear e
 have e:=c
 clear c
 have b:=(ra y C2).rep
 obtain ⟨da,i,d,h⟩:=y
 dsimp only at b e
 cases da <;> try (exact nsE e)
 rename_i xs
 obtain ⟨f,vs,d,rfl,rfl,g,rs⟩:=b.view
 obtain ⟨bs,h1,h2⟩:=C5.mp (show (lp xs).map (fun bs=>(D.bl (bs.all id),Fl.z))=some p from e)
 subst h2
 have:=qd h1
 subst this
 have:=rs.bls
 subst this
 exact ⟨f,bs,rfl,SqL.of g,q ⟨_,_,[],.z⟩ H (dI (.bl _)) rfl rfl⟩
def fZ (xs:List D) (lo hi:Option Int):List D:=(xs.drop (HT.sIx xs.length 0 lo)).take (HT.sIx xs.length xs.length hi - HT.sIx xs.length 0 lo)
end
end L3
end
section
namespace L3
open PySem L2
def Ah:D->Option (List D)
 | .lst xs=>some xs
 | .fls xs=>some xs
 | .tup xs=>some xs
 | _=>none
def dS (m:EM):IM:=ag m fun r=>ag (der r) fun d=>bo ((Ah d).map fun ds=>([r],ds))
def iSeq (K:FG) (tl:TE):TI:=fun σ H R=>tl σ H fun x H1=>(∃ a,x=.ref a/\(∃ xs,SqL K H1 a xs)/\R (Itl K a) H1)\/∃ a,x=.ref a/\(∃ xs,SqT K H1 a xs)/\R (Itt K a) H1
theorem BE (j:PE X l tl):PI X tg l (iSeq X.K tl):=by
 intro pins s σ H R I h
 exact thn (j pins s σ H _ I h) fun v s1 ⟨x,H1,c,i,k⟩=>by
   rcases k with ⟨a,e,⟨xs,f⟩,q⟩ | ⟨a,e,⟨xs,f⟩,q⟩
   ·subst e
    cases i
    obtain ⟨d,m,p,hz⟩:=c.list f
    refine wpAny_pyIter_list p.isList ?_
    refine ⟨s1.heap.objs.size,[s1.heap.objs.size],_,_,H1,rfl,c.kept (t':=s1.toks) fun b o e=>C4 _ e,tq a _,⟨_,Dc _ rfl,rfl,rfl⟩,fun b g=>?_,q⟩
    have e:b=s1.heap.objs.size:=by simpa using g
    subst e
    exact c.fpOk (Dj _) (c.hok.fresh (Dj _))
   ·subst e
    cases i
    obtain ⟨d,m,p,hz⟩:=c.tuple f
    refine wpAny_pyIter_tuple (show s1.heap.IsTuple a d.toArray from p) ?_
    refine ⟨s1.heap.objs.size,[s1.heap.objs.size],_,_,H1,rfl,c.kept (t':=s1.toks) fun b o e=>C4 _ e,qg a _,⟨_,Dc _ rfl,rfl,rfl⟩,fun b g=>?_,q⟩
    have e:b=s1.heap.objs.size:=by simpa using g
    subst e
    exact c.fpOk (Dj _) (c.hok.fresh (Dj _))
section
variable {K:FG} {G G0:Gm} {W W0:D->Sto->Prop} {H H':Hp} {σ:St} {ρ ρ':Sto} {T T':List It3} {g:Nat->Option It3} {x y z:It3} {α β:Type} {X:Cx}
theorem Ar.item2 (w:Wf K G H σ ρ (Ts ++ T) g) (a:Ar σ r v Ts) (e:der r ρ=some (.ok d,ρ)):∃ y,y.d=d/\y.v=v/\((∃ i,i ∈ pls [r]/\g i=some y)\/y ∈ Ts):=by
 cases a with
 | @pl i v h =>
  have k:der (.pl i) ρ=((ρ[i]?).join).map fun p=>(.ok p.1,ρ):=rfl
  rw [k] at e
  cases q:(ρ[i]?).join with
  | none=>rw [q] at e;exact nsE e
  | some p =>
   rw [q] at e
   obtain ⟨y,e1,c,l,b⟩:=w.slot (d:=p.1) (f:=p.2) q
   have j:p.1=d:=by cases e;rfl
   rw [h] at b
   injection b with b
   injection b with b
   exact ⟨y,c.trans j,b.symm,.inl ⟨i,C2,e1⟩⟩
 | val x=>cases e;exact ⟨x,rfl,rfl,.inr (by simp)⟩
theorem mL (m:Reps (Rep K H1) ds vs l) (p:∀ c ∈ l,dH [y] c) (t:∀ c ∈ l,c ∈ y.L) (g:∀ (M:Addr->Prop) (H':Hp),(∀ b,M b->MutAt H1 b)->(∀ b o,H1 b=some o->¬ M b->H' b=some o)->(∀ b ∈ y.L,¬ M b)->(∀ (i:Nat) (v:V),vs[i]?=some v->J.go i H'/\∀ x e,J.yld i H' x e->e=H'/\x=v)/\J.stop vs.length H'):Walk K J H1 [y] ds:=by
 obtain ⟨ws,h1,h2,h3⟩:=Reps.split m
 refine ⟨ws,fun x h=>⟨(h3 x h).1,(h3 x h).2.1,fun c j=>p c ((h3 x h).2.2 c j)⟩,fun M H' hm f k=>?_⟩
 obtain ⟨go,stop⟩:=g M H' hm f (k y C2)
 refine ⟨fun i d hd=>?_,by rw [m.len];exact stop⟩
 have hi:∃ u,ws[i]?=some u/\u.d=d:=by
  rw [<- h1,Di] at hd
  obtain ⟨u,a,b⟩:=C5.mp hd
  exact ⟨u,a,b⟩
 obtain ⟨u,n,z⟩:=hi
 have r:vs[i]?=some u.v:=by rw [<- h2,Di,n];rfl
 obtain ⟨g1,g2⟩:=go i u.v r
 refine ⟨g1,fun x e w=>?_⟩
 obtain ⟨e1,s⟩:=g2 x e w
 subst e1 s
 have hu:=Df n
 refine ⟨u,⟨Same.refl _,(h3 u hu).2.1.keep f hm fun b q=>k y C2 b (t b ((h3 u hu).2.2 b q)),fun c j=>.inr ⟨u,hu,j⟩,fun hf=>absurd (h3 u hu).1 hf⟩,z,(h3 u hu).1,rfl⟩
theorem lM {y:It3} {a:Addr} {ds:List D} {vs:List V} (j:∀ H',SqL K H' a vs->True) (g:∀ (M:Addr->Prop) (H':Hp),(∀ b,M b->MutAt H b)->(∀ b o,H b=some o->¬ M b->H' b=some o)->(∀ b ∈ y.L,¬ M b)->SqL K H' a vs) :
  ∀ (M:Addr->Prop) (H':Hp),(∀ b,M b->MutAt H b)->(∀ b o,H b=some o->¬ M b->H' b=some o)->(∀ b ∈ y.L,¬ M b)->(∀ (i:Nat) (v:V),vs[i]?=some v->(Itl K a).go i H'/\∀ x c,(Itl K a).yld i H' x c->c=H'/\x=v)/\(Itl K a).stop vs.length H':=fun M H' hm f e=>by
 have sq:SqL K H' a vs:=g M H' hm f e
 refine ⟨fun i v d=>⟨⟨vs,v,sq,d⟩,fun x c ⟨e1,h⟩=>⟨e1,?_⟩⟩,⟨vs,sq,Dj _⟩⟩
 have:=h vs sq
 rw [d] at this
 injection this with this
 exact this.symm
theorem AQ (h:tI K G0 W0 (dS m) σ H R):iSeq K (tE K G0 W0 m) σ H R:=by
 obtain ⟨G,W,le,ρ,T,g,o,ρ',w,e,q⟩:=h
 have j:∀ x,o=.error x->W x ρ':=fun x Q=>by subst Q;exact q
 refine tE.seq le w e j fun ra ρ1 e1 v H1 ⟨Ts,g1,B,a1⟩=>?_
 obtain ⟨d,U,t⟩:=aY e1
 obtain ⟨p,F,rfl,rfl⟩:=bZ t
 obtain ⟨ds,l,V⟩:=C5.mp F
 subst V
 obtain ⟨y,O,S,E⟩:=a1.item2 B U
 have L:Itm (Ts ++ T) g1 y:=by
  rcases E with ⟨i,_,P⟩ | h
  ·exact .inl ⟨i,P⟩
  ·exact .inr (C6 _ h)
 have D:=(B.itm L).arg
 have C:∀ J,Walk K J H1 [y] ds->R J H1:=fun J hw=>q J H1 [v] Ts g1 [y] B (by simpa using Ars.cons a1 .nil) (fun z hz=>by rw [Dy.mp hz];exact E) hw
 clear e1 t F q
 subst O S
 have f:=D
 obtain ⟨da,Y,r,u⟩:=y
 obtain ⟨s,X⟩:=D
 dsimp only at s l
 cases da with
 | tup xs =>
  obtain ⟨a,vs,rfl,b,rs⟩:=s.view
  cases l
  refine .inr ⟨a,rfl,⟨_,SqT.of b⟩,C _ (mL rs (js (y:=⟨.tup ds,.ref a,r,u⟩) C2 f rfl) (fun c n=>n) fun M H' hm k A=>?_)⟩
  have sq:SqT K H' a vs:=SqT.of (k a _ b fun z=>(hm a z).notup b)
  refine ⟨fun i v I=>⟨⟨vs,v,sq,I⟩,fun x N ⟨e1,t⟩=>⟨e1,?_⟩⟩,⟨vs,sq,Dj _⟩⟩
  have:=t vs sq
  rw [I] at this
  injection this with this
  exact this.symm
 | lst xs =>
  obtain ⟨a,vs,r,rfl,rfl,b,rs⟩:=s.view
  cases l
  refine .inl ⟨a,rfl,⟨_,SqL.of b⟩,C _ (mL rs (pL (y:=⟨.lst ds,.ref a,a :: r,u⟩) C2 f rfl rfl) (fun c n=>C3 _ n) (lM (ds:=ds) (fun _ _=>trivial) fun M H' hm k A=>SqL.of (k a _ b (A a C2))))⟩
 | fls xs =>
  obtain ⟨a,vs,rfl,b,rs⟩:=s.view
  cases l
  refine .inl ⟨a,rfl,⟨_,b.sq⟩,C _ (mL rs (js (y:=⟨.fls ds,.ref a,r,u⟩) C2 f rfl) (fun c n=>n) (lM (ds:=ds) (fun _ _=>trivial) fun M H' hm k A=>(b.keep k hm).sq))⟩
 | _=>exact nsE l
theorem Bh (h:RE X G0 W0 l m):RI X G0 W0 tg l (dS m):=⟨PI.imp (BE h.h) fun _ _ _ h=>AQ h⟩
def aT (lo:Int) (n:Nat):List D:=(List.range n).map fun (k:Nat)=>D.int (lo+(k:Int))
theorem oC {lo:Int} {n:Nat}:Walk K (Itr lo n) H1 ys (aT lo n):=by
 refine ⟨[],fun x h=>(by cases h),fun M H' _ _ _=>⟨fun i d hd=>?_,?_⟩⟩
 ·unfold aT at hd
  rw [Di] at hd
  obtain ⟨k,a,b⟩:=C5.mp hd
  obtain ⟨c,e⟩:=De.mp a
  rw [List.getElem_range] at e
  subst e
  rw [List.length_range] at c
  refine ⟨c,fun x g ⟨e1,f⟩=>?_⟩
  subst e1
  exact ⟨⟨d,x,[],.z⟩,dI (by rw [<- b,f];exact .int _),rfl,rfl,rfl⟩
 ·show n<=(aT lo n).length
  unfold aT
  simp
def fv (j:Int):Bool:=decide (-(2 ^ 62)<=j/\j < 2 ^ 62)
def bM:List D->Option (List D)
 | [.int j]=>if fv j then some (aT 0 j.toNat) else none
 | _=>none
def fM:List D->Option (List D)
 | [.int i,.int j]=>if fv i && fv j then some (aT i (j - i).toNat) else none
 | _=>none
def aZ (f:List D->Option (List D)) (ms:M3 (List R3)):IM:=ag ms fun rs=>ag (eV rs) fun ds=>bo ((f ds).map fun xs=>([],xs))
theorem rJ (h:tI K G0 W0 (aZ bM ms) σ H R):xc (tA K G0 W0 ms) σ H R:=by
 obtain ⟨G,W,le,ρ,T,g,o,ρ',w,e,q⟩:=h
 have b:∀ x,o=.error x->W x ρ':=fun x i=>by subst i;exact q
 refine tA.seq le w e b fun rs ρ1 e1 vs H1 Ts g1 f a1=>?_
 obtain ⟨ds,n,s⟩:=dA e1
 obtain ⟨p,m,rfl,rfl⟩:=bZ s
 obtain ⟨xs,a,t⟩:=C5.mp m
 subst t
 obtain ⟨ys,k,f1,f2⟩:=a1.items f (fun x i=>C6 _ i) n
 subst f1 f2
 match ys,a,k,a1 with
 | [],a,_,_=>exact nsE a
 | y :: z :: r,a,_,_=>cases hd:y.d <;> (rw [Dn,Dn,hd] at a;exact nsE a)
 | [y],a,k,a1 =>
  have l:=(f.itm (k y C2)).rep
  cases hd:y.d <;> (rw [Dn,hd] at a;try (exact nsE a))
  rename_i j
  rw [hd] at l
  have a:(if fv j then some (aT 0 j.toNat) else none)=some xs:=a
  split at a
  ·rename_i c
   cases a
   have c:=of_decide_eq_true c
   refine ⟨j,by show [y.v]=_;rw [l.int_inv],c.1,c.2,?_⟩
   exact q _ H1 [] [] g1 [] (f.sub (Dg Ts T)) .nil (fun _ h=>by cases h) oC
  ·exact nsE a
theorem yi (h:tI K G0 W0 (aZ fM ms) σ H R):Aq (tA K G0 W0 ms) σ H R:=by
 obtain ⟨G,W,le,ρ,T,g,o,ρ',w,e,q⟩:=h
 have b:∀ x,o=.error x->W x ρ':=fun x l=>by subst l;exact q
 refine tA.seq le w e b fun rs ρ1 e1 vs H1 Ts g1 c a1=>?_
 obtain ⟨ds,B,C⟩:=dA e1
 obtain ⟨p,A,rfl,rfl⟩:=bZ C
 obtain ⟨xs,t,E⟩:=C5.mp A
 subst E
 obtain ⟨ys,k,f1,f2⟩:=a1.items c (fun x l=>C6 _ l) B
 subst f1 f2
 have inv:∀ {ds:List D},fM ds=some xs->∃ i j,ds=[.int i,.int j]/\fv i=true/\fv j=true/\xs=aT i (j - i).toNat:=fun {ds} h=>by
  unfold fM at h
  split at h
  ·rename_i i j
   split at h
   ·rename_i m
    cases h
    simp only [Bool.and_eq_true] at m
    exact ⟨i,j,rfl,m.1,m.2,rfl⟩
   ·exact nsE h
  ·exact nsE h
 obtain ⟨i,j,a,hi,f,rfl⟩:=inv t
 match ys,a,k,a1 with
 | [],a,_,_=>cases a
 | [y],a,_,_=>exact absurd (congrArg List.length a) (by simp)
 | y :: z :: u :: r,a,_,_=>exact absurd (congrArg List.length a) (by simp)
 | [y,z],a,k,a1 =>
  have n:=(c.itm (k y C2)).rep
  have s:=(c.itm (k z (C3 _ C2))).rep
  have h1:y.d=.int i:=by injection a
  have h2:z.d=.int j:=by injection a with _ h;injection h
  rw [h1] at n
  rw [h2] at s
  have hi:=of_decide_eq_true hi
  have f:=of_decide_eq_true f
  refine ⟨i,j,by show [y.v,z.v]=_;rw [n.int_inv,s.int_inv],⟨hi.1,hi.2,f.1,f.2⟩,?_⟩
  exact q _ H1 [] [] g1 [] (c.sub (Dg Ts T)) .nil (fun _ h=>by cases h) oC
theorem yK (c:Gl X "range") (hm:X.mg "range"=none) (d:RA X G0 W0 [a] ms) (b:starEach [a] X.env=[(false,eval a X.env)]):RI X G0 W0 tg (.Call (.Name "range" p) [a] [] pos) (aZ bM ms):=⟨PI.imp (t6 c hm d.h b) fun _ _ _ h=>rJ h⟩
theorem yJ (e:Gl X "range") (hm:X.mg "range"=none) (f:RA X G0 W0 [a,b] ms) (d:starEach [a,b] X.env=[(false,eval a X.env),(false,eval b X.env)]) (c:starEach [b] X.env=[(false,eval b X.env)]):RI X G0 W0 tg (.Call (.Name "range" p) [a,b] [] pos) (aZ fM ms):=⟨PI.imp (t5 e hm f.h d c) fun _ _ _ h=>yi h⟩
end
end L3
end
section
namespace L3
open PySem L2
section
variable {K:FG} {G G0:Gm} {W W0:D->Sto->Prop} {H H':Hp} {σ:St} {ρ ρ':Sto} {T T':List It3} {g:Nat->Option It3} {x y z:It3} {α β:Type} {X:Cx} {L:List Addr}
def oY (bnd:D->Sto->Option Sto) (m:EM):SM:=ag m fun r=>ag (d8 r) fun p=>fun ρ=>(bnd p.1 ρ).map fun ρ1=>(.ok .nx,ρ1)
theorem AO (i:Bnd K G0.pr tg bnd) (h:tS K G0 W0 (oY bnd m) E σ H):vm (tE K G0 W0 m) tg E σ H:=by
 refine h.use fun G W le ρ T g r ρ' w e q=>?_
 refine tE.seq le w e q.err fun ra ρ1 e1 v H1 ⟨Ts,g1,c,a1⟩=>?_
 obtain ⟨p,ρ2,g2,x,l,k,f1,_,_,j⟩:=a1.take c e1
 have a:=Wf.lowT (Ts:=[x]) k
 obtain ⟨ρ3,b,f⟩:=C5.mp l
 cases f
 rw [<- j]
 exact i G H1 σ ρ2 _ T g2 (c8 x) _ le.pr rfl a (by show bnd x.d ρ2=_;rw [f1];exact b) fun σ2 g3 n=>q _ _ _ n
theorem Bg (d:RG X G0.pr tg bnd) (he:RE X G0 W0 e m) (c:swapsWithSole [tg] e pos.line X.env=pure false) (hw:swappedStores [tg] e X.env=pure none) (h1:(assignEach [tg] X.env).map (·.2)=[assign tg X.env]):RS X G0 W0 (.Assign [tg] e pos) (oY bnd m):=by
 obtain ⟨g,a,b⟩:=d.h
 exact ⟨PS.imp (wo he.h a c hw h1) fun _ _ _ h=>AO b h⟩
theorem qv {i:Nat} {y:Str} (k:X.N.Nodup) (g:X.N[i]?=some y) (n:Loc X.env.scope y) (NY:List Str) (ix:List (Option Nat)) (j:X.calm=true) (hi:RI X G0 W0 tg iter im) (e:∀ s H C fp,PTs (am X NY scope s H C fp) ifs (tT X.K (aV ix) noX cm)) (he:∀ s H C fp,RE (am X NY scope s H C fp) (aV ix) noX elt em) (m:dF scope X.N X.env.scope NY ix=true) (c:Inj ix) (b:swapsWith (.ListComp elt [⟨tg,iter,ifs,0⟩] scope pos) (some (.Name y py)) spos.line X.env=pure true) (hf:X.fn y=true\/X.env.scope.names.lookup y=some .local) (l:∀ x,foldedSetIterable iter X.env x=pure x) (f:G0.pr i=false) (d:∃ a,Bnd X.K (aV ix).pr a bnd/\∀ s H C fp,PG (am X NY scope s H C fp) tg a):RS X G0 W0 (.Assign [.Name y py] (.ListComp elt [⟨tg,iter,ifs,0⟩] scope pos) spos) (bj i (bU im bnd cm em ix)):=by
 obtain ⟨a,b1,b2⟩:=d
 exact ⟨PS.imp (qC k g n NY ix j hi.h b2 e (fun s H C fp=>(he s H C fp).h) m b hf l) fun _ _ _ h=>qj szl c b1 f h⟩
def isL:D->Bool
 | .lst _=>true
 | _=>false
theorem wW:∀ d v L H,isL d=true->Rep K H d v L->tyV K "list" v H:=fun d v L H h r=>by
 cases r with
 | lst ha _=>exact .inl ⟨rfl,_,SqL.of ha⟩
 | _=>cases h
def rD:D->List D->Option (D × D)
 | .lst xs,[d]=>if xs.length < 16777216 then some (.lst (xs ++ [d]),.non) else none
 | _,_=>none
theorem B8:MutD K sd rD:=fun a d j as H Q p r m na ra i e q=>by
 cases d with
 | lst xs =>
  obtain ⟨_,vs,_,e1,u,k,rs⟩:=r.view
  cases e1
  cases u
  match as,e,ra,i with
  | [],e,_,_=>exact nsE e
  | _ :: _ :: _,e,_,_=>exact nsE e
  | [y],e,ra,i =>
   have e:(if xs.length < 16777216 then some (D.lst (xs ++ [y.d]),D.non) else none)=some p:=e
   split at e
   ·rename_i s
    cases e
    refine ⟨a,vs,y.v,rfl,rfl,k,by rw [<- rs.len,<- szl];exact s,?_⟩
    have l:=ra y C2
    have t:=i y C2
    have ma:MutAt H a:=.inl ⟨_,k⟩
    have keep:∀ {d v L},Rep K H d v L->a ∉ L->Rep K (upd H a (.lst (vs ++ [y.v]))) d v L:=fun {d v L} r n=>r.keep (M:=fun b=>b=a) (fun b o f h=>by rw [ao h];exact f) (fun b e=>by rw [e];exact ma) fun b f e=>n (by rw [<- e];exact f)
    have keeps:Reps (Rep K (upd H a (.lst (vs ++ [y.v])))) xs vs j:=rs.keep (M:=fun b=>b=a) (fun b o f h=>by rw [ao h];exact f) (fun b e=>by rw [e];exact ma) fun b f e=>na (by rw [<- e];exact f)
    exact q (.lst (vs ++ [y.v])) (j ++ (y.L ++ [])) ⟨.non,.non,[],.z⟩ (.lst aI (keeps.append (.cons (keep l t) .nil))) rfl (fun c g=>by
     rcases Db.mp g with h | h
     ·exact .inl h
     ·rw [List.append_nil] at h;exact .inr ⟨y,C2,h⟩) rfl rfl .non fun c g=>by cases g
   ·exact nsE e
 | _=>exact nsE e
def xk:D->List D->Option (D × D)
 | .lst xs,[.lst ys]=>if xs.length+ys.length<=16777216 then some (.lst (xs ++ ys),.non) else none
 | _,_=>none
theorem ext2 (a:D):xk (.lst xs) (a :: b :: r)=none:=by cases a <;> rfl
theorem B7:MutD K rZ xk:=fun a d u as H Q p r m na ra k e q=>by
 cases d with
 | lst xs =>
  obtain ⟨_,vs,_,e1,A,t,rs⟩:=r.view
  cases e1
  cases A
  match as,e,ra,k with
  | [],e,_,_=>exact nsE e
  | y :: _ :: _,e,_,_=>exact nsE ((ext2 y.d).symm.trans e)
  | [y],e,ra,k =>
   have l:=ra y C2
   have s:=k y C2
   obtain ⟨v,C,E,B⟩:=y
   dsimp only at l s e
   cases v with
   | lst ys =>
    obtain ⟨b,ws,w,rfl,rfl,g,i⟩:=l.view
    have e:(if xs.length+ys.length<=16777216 then some (D.lst (xs ++ ys),D.non) else none)=some p:=e
    split at e
    ·rename_i x
     cases e
     refine ⟨a,b,vs,ws,rfl,rfl,t,g,by rw [<- rs.len,<- i.len,<- szl];exact x,?_⟩
     have ma:MutAt H a:=.inl ⟨_,t⟩
     have keeps:∀ {ds f L},Reps (Rep K H) ds f L->a ∉ L->Reps (Rep K (upd H a (.lst (vs ++ ws)))) ds f L:=fun {ds f L} r n=>r.keep (M:=fun b=>b=a) (fun b o g h=>by rw [ao h];exact g) (fun b e=>by rw [e];exact ma) fun b g e=>n (by rw [<- e];exact g)
     exact q (.lst (vs ++ ws)) (u ++ w) ⟨.non,.non,[],.z⟩ (.lst aI ((keeps rs na).append (keeps i fun h=>s (C3 _ h)))) rfl (fun c j=>by
      rcases Db.mp j with h | h
      ·exact .inl h
      ·exact .inr ⟨_,C2,C3 _ h⟩) rfl rfl .non fun c j=>by cases j
    ·exact nsE e
   | _=>exact nsE e
 | _=>exact nsE e
def tK:D->List D->Option (D × D)
 | .lst xs,[.int i,d]=>(ixN xs.length i).map fun j=>(.lst (xs.set j d),.non)
 | _,_=>none
theorem Reps.set:∀ {ds:List D} {vs:List V} {L L':List Addr} {d:D} {v:V} (j:Nat),Reps (Rep K H) ds vs L->Rep K H d v L'->∃ L2,Reps (Rep K H) (ds.set j d) (vs.set j v) L2/\∀ c ∈ L2,c ∈ L\/c ∈ L'
 | _,_,_,_,_,_,j,.nil,_=>⟨[],.nil,fun c a=>by cases a⟩
 | _,_,_,L',_,_,0,.cons (L:=L1) (L':=L1') r rs,r'=>⟨L' ++ L1',.cons r' rs,fun c a=>by
  rcases Db.mp a with h | h
  ·exact .inr h
  ·exact .inl (C7 _ h)⟩
 | _,_,_,L',_,_,j+1,.cons (L:=L1) (L':=L1') r rs,r'=>by
  obtain ⟨L2,h1,h2⟩:=Reps.set j rs r'
  refine ⟨L1 ++ L2,.cons r h1,fun c a=>?_⟩
  rcases Db.mp a with h | h
  ·exact .inl (C6 _ h)
  ·rcases h2 c h with h | h
   ·exact .inl (C7 _ h)
   ·exact .inr h
theorem set1 (a:D):tK (.lst xs) [a]=none:=by cases a <;> rfl
theorem set3' (a:D):tK (.lst xs) (a :: b :: c :: r)=none:=by cases a <;> rfl
theorem zp:MutD K (kE rX) tK:=fun a d w as H Q p r m na ra n e q=>by
 cases d with
 | lst xs =>
  obtain ⟨_,vs,_,e1,B,t,rs⟩:=r.view
  cases e1
  cases B
  match as,e,ra,n with
  | [],e,_,_=>exact nsE e
  | [y],e,_,_=>exact nsE ((set1 y.d).symm.trans e)
  | y :: _ :: _ :: _,e,_,_=>exact nsE ((set3' y.d).symm.trans e)
  | [k,y],e,ra,n =>
   have s:=ra k C2
   have u:=ra y (C3 _ C2)
   have x:=n y (C3 _ C2)
   obtain ⟨kd,E,C,F⟩:=k
   dsimp only at s
   cases kd with
   | int i =>
    obtain ⟨rfl,rfl⟩:=s.view
    obtain ⟨j,h1,h2⟩:=C5.mp (show (ixN xs.length i).map (fun j=>(D.lst (xs.set j y.d),D.non))=some p from e)
    subst h2
    refine ⟨.int i,y.v,rfl,a,vs,i,j,rfl,rfl,t,by rw [<- rs.len];exact h1,?_⟩
    have ma:MutAt H a:=.inl ⟨_,t⟩
    have g:Rep K (upd H a (.lst (vs.set j y.v))) y.d y.v y.L:=u.keep (M:=fun b=>b=a) (fun b o f h=>by rw [ao h];exact f) (fun b e=>by rw [e];exact ma) fun b f e=>x (by rw [<- e];exact f)
    have keeps:Reps (Rep K (upd H a (.lst (vs.set j y.v)))) xs vs w:=rs.keep (M:=fun b=>b=a) (fun b o f h=>by rw [ao h];exact f) (fun b e=>by rw [e];exact ma) fun b f e=>na (by rw [<- e];exact f)
    obtain ⟨L2,h3,A⟩:=keeps.set j g
    exact q (.lst (vs.set j y.v)) L2 ⟨.non,.non,[],.z⟩ (.lst aI h3) rfl (fun c l=>(A c l).imp id fun h=>⟨y,C3 _ C2,h⟩) rfl rfl .non fun c l=>by cases l
   | _=>exact nsE e
 | _=>exact nsE e
theorem rV {i:Nat} {x:Str} {id:String} (k:PlainAttrs Ty) (slot:Slot Ty nm id) (j:typeOf (.builtin id)=pure (.type "method_descriptor")) (hm:MtR X id r) (l:MutD X.K r f) (hok:∀ d v L H,ok d=true->Rep X.K H d v L->tyV X.K Ty v H) (m:PE X (.Name x pn) (tv i)) (o:RA X G0 W0 (e :: es) ms) (c:attributeBase (.Name x pn) nm X.env (eval (.Name x pn) X.env)=eval (.Name x pn) X.env) (g:((backTo cpos (starEach (e :: es) X.env)).all (fun x=>!x.1) && (backToKw cpos (keywordEach [] X.env)).all (fun x=>x.1.isSome) && decide ((e :: es).length+([]:List Keyword).length+(if ([]:List Keyword).isEmpty then 0 else 1) < 30))=true) (b:(apos.endLine == cpos.line)=true) (n:starEach (e :: es) X.env=(false,eval e X.env) :: starEach es X.env) (a:(backTo cpos (starEach es X.env)).any (·.1)=false):RE X G0 W0 (.Call (.Attribute (.Name x pn) nm apos) (e :: es) [] cpos) (pI ok f i ms) :=
 ⟨PE.imp (pe_bm k slot j hm m o.h c g b n a) fun _ _ _ h=>AU l hok h⟩
theorem Bc {i:Nat} {x:Str} (g:xU X t) (j:MutD X.K (kE t) f) (c:PE X (.Name x pn) (tv i)) (b:RE X G0 W0 k mk) (d:RE X G0 W0 e mv) (l:∀ v,assign (.Subscript (.Name x pn) k p2) X.env v=(do
   let ov <- holding [v] (eval (.Name x pn) X.env)
   let a <- holding [v,ov] (eval k X.env)
   standAt p2
   holding [v,ov,a] (setItem ov a v)
   release [v,ov,a] [])) (h1:swapsWithSole [.Subscript (.Name x pn) k p2] e pos.line X.env=pure false) (h2:swappedStores [.Subscript (.Name x pn) k p2] e X.env=pure none) (h3:(assignEach [.Subscript (.Name x pn) k p2] X.env).map (·.2)=[assign (.Subscript (.Name x pn) k p2) X.env]):RS X G0 W0 (.Assign [.Subscript (.Name x pn) k p2] e pos) (tO f i mk mv) :=
 ⟨PS.imp (wo d.h (BF c b.h g l) h1 h2 h3) fun _ _ _ h=>AI j h⟩
end
end L3
end
section
namespace L3
open PySem L2
section
variable {K:FG} {G G0:Gm} {W W0:D->Sto->Prop} {H H':Hp} {σ:St} {ρ ρ':Sto} {T T':List It3} {g:Nat->Option It3} {x y z:It3} {α β:Type} {X:Cx} {L:List Addr}
theorem vS:PTs Y [] (tT K (aV ix) noX fB):=fun pins s σ H Q I h=>yU pins s σ H Q I (AE h)
theorem vR (h:RT Y (aV ix) noX c m):PTs Y [c] (tT Y.K (aV ix) noX m):=yT h.h
theorem qX (h:(ix.filterMap id).Nodup):Inj ix:=by
 intro j k i a b
 induction ix generalizing j k with
 | nil=>simp at a
 | cons o ix ih =>
  cases o with
  | none =>
   have h':(ix.filterMap id).Nodup:=by simpa using h
   cases j with
   | zero=>simp at a
   | succ j =>
    cases k with
    | zero=>simp at b
    | succ k=>rw [ih h' j k (by simpa using a) (by simpa using b)]
  | some d =>
   have h':(d :: ix.filterMap id).Nodup:=by simpa using h
   obtain ⟨n,c⟩:=List.nodup_cons.mp h'
   have mem:∀ m:Nat,ix[m]?=some (some d)->False:=fun m e=>n (List.mem_filterMap.mpr ⟨some d,Df e,rfl⟩)
   cases j with
   | zero =>
    simp at a
    cases k with
    | zero=>rfl
    | succ k=>subst a;exact (mem k (by simpa using b)).elim
   | succ j =>
    cases k with
    | zero=>simp at b;subst b;exact (mem j (by simpa using a)).elim
    | succ k=>rw [ih c j k (by simpa using a) (by simpa using b)]
theorem oK (ho:OpD K r f) (n:OpD K r' f') (h:tE K G0 W0 (fV f f' ma mb mc) σ H Q):mQ r r' (tE K G0 W0 ma) (tE K G0 W0 mb) (tE K G0 W0 mc) σ H Q:=by
 refine h.use fun G W le ρ T g o ρ' w e q=>?_
 refine tE.seq le w e q.err fun ra ρ1 e1 va H1 ⟨Ts,g1,w1,a1⟩=>?_
 refine tE.seq le w1 e1 q.err fun rb ρ2 e2 vb H2 ⟨Us,g2,j,a2⟩=>?_
 obtain ⟨da,d1,e3⟩:=aY e2
 obtain ⟨db,Y,e4⟩:=aY e3
 obtain ⟨k,e5,v⟩:=jp e4
 obtain ⟨E,U,f1,f2⟩:=a1.item j (fun x b=>C7 _ (C6 _ b)) d1
 obtain ⟨S,N,f3,f4⟩:=a2.item j (fun x b=>C6 _ b) Y
 obtain ⟨p,J,e8⟩:=Dx.mp e5
 have hp:=xP e8
 subst f1 f2 f4
 rw [<- f3] at J
 refine ho E S H2 _ p (j.itm U).arg (j.itm N).arg J fun u H3 I ud uf=>?_
 have X:=j.push I fun c h=>j.kids (ys:=[E,S]) (fun y d=>by
  rcases C8.mp d with h | d
  ·rw [h];exact U
  ·rw [Dy.mp d];exact N) h
 have L:=I.rep
 rw [ud,hp] at L
 refine ⟨k,L.bl_eq.1,?_⟩
 have R:=X.sub (List.sublist_cons_self u _)
 cases k with
 | false =>
  cases v
  have i:=R.sub (T':=T) ((Dg Ts T).trans (Dg Us _))
  exact q _ _ (i.const (.bl false))
 | true =>
  simp only [if_true] at v ⊢
  refine tE.seq le R v q.err fun rc ρ5 e9 vc H5 ⟨m,O,i,a5⟩=>?_
  obtain ⟨D,d3,B⟩:=aY e9
  obtain ⟨dc,Z,C⟩:=aY B
  obtain ⟨p',a,rfl,rfl⟩:=bZ C
  obtain ⟨l,V,f5,f6⟩:=a2.item i (fun x b=>C7 _ (C6 _ b)) d3
  obtain ⟨F,P,f7,f8⟩:=a5.item i (fun x b=>C6 _ b) Z
  cases z:f' D dc with
  | none=>rw [z] at a;exact nsE a
  | some s =>
   rw [z] at a
   cases a
   have M:=i
   rw [show m ++ (Us ++ (Ts ++ T))=(m ++ (Us ++ Ts)) ++ T by simp] at M
   have t:Itm ((m ++ (Us ++ Ts)) ++ T) O l:=by simpa using V
   have A:Itm ((m ++ (Us ++ Ts)) ++ T) O F:=by simpa using P
   rw [<- f6,<- f8]
   refine n l F H5 Q s (i.itm V).arg (i.itm P).arg (by rw [f5,f7];exact z) (pV M (fun y d=>?_) q)
   rcases C8.mp d with h | d
   ·rw [h];exact t
   ·rw [Dy.mp d];exact A
theorem o8 (k:OpR X (compareOp op) r) (hd:OpD X.K r f) (e:OpR X (compareOp op') r') (d:OpD X.K r' f') (j:RE X G0 W0 a ma) (g:RE X G0 W0 b mb) (i:RE X G0 W0 c mc) (h:PE X a (tE X.K G0 W0 ma)->PE X b (tE X.K G0 W0 mb)->PE X c (tE X.K G0 W0 mc)->PE X (.Compare a [op,op'] [b,c] pos) (mQ r r' (tE X.K G0 W0 ma) (tE X.K G0 W0 mb) (tE X.K G0 W0 mc))):RE X G0 W0 (.Compare a [op,op'] [b,c] pos) (fV f f' ma mb mc):=⟨PE.imp (h j.h g.h i.h) fun _ _ _ h=>oK hd d h⟩
theorem fL (c:OpR X (compareOp op) r) (hd:OpD X.K r f) (e:RE X G0 W0 a ma) (d:RE X G0 W0 b mb) (hm:behindInMarks op b=false):RT X G0 W0 (.Compare a [op] [b] pos) (cB (ah f ma mb)):=⟨PT.imp (yV c e.h d.h hm) fun _ _ _ h=>mP hd (AG h)⟩
theorem vM (g:OpR X (compareOp op) r) (hd:OpD X.K r f) (d:OpR X (compareOp op') r') (e:OpD X.K r' f') (k:RE X G0 W0 a ma) (i:RE X G0 W0 b mb) (j:RE X G0 W0 c mc) (hm:lastMarks [op,op'] [b,c]=false):RT X G0 W0 (.Compare a [op,op'] [b,c] pos) (cB (fV f f' ma mb mc)):=⟨PT.imp (wk g d k.h i.h j.h hm) fun _ _ _ h=>oK hd e (AG h)⟩
end
end L3
namespace L3
theorem yY {i:Nat} (h:mask.length<=i):prM mask i=false:=by
 unfold prM
 rw [List.getElem?_eq_none h]
end L3
end
section
namespace L3
open PySem L2
structure Bl (mg:Str->Option Value):Prop where
 len:mg "len"=none
 range:mg "range"=none
 abs:mg "abs"=none
 divmod:mg "divmod"=none
 enumerate:mg "enumerate"=none
 tuple:mg "tuple"=none
 isinstance:mg "isinstance"=none
 int:mg "int"=none
 bool:mg "bool"=none
 all:mg "all"=none
 str:mg "str"=none
 max:mg "max"=none
 min:mg "min"=none
 list:mg "list"=none
 dict:mg "dict"=none
 repr:mg "repr"=none
 sorted:mg "sorted"=none
 set:mg "set"=none
 zip:mg "zip"=none
 reversed:mg "reversed"=none
theorem b_len:bootBuiltins "len"=some (.builtin "len"):=by decide +kernel
theorem xM:bootBuiltins "divmod"=some (.builtin "divmod"):=by decide +kernel
theorem sX:bootBuiltins "tuple"=some (.type "tuple"):=by decide +kernel
theorem jb:bootBuiltins "isinstance"=some (.builtin "isinstance"):=by decide +kernel
theorem b_int:bootBuiltins "int"=some (.type "int"):=by decide +kernel
theorem CQ:bootBuiltins "bool"=some (.type "bool"):=by decide +kernel
theorem b_all:bootBuiltins "all"=some (.builtin "all"):=by decide +kernel
theorem b_max:bootBuiltins "max"=some (.builtin "max"):=by decide +kernel
theorem b_min:bootBuiltins "min"=some (.builtin "min"):=by decide +kernel
theorem xL:bootBuiltins "list"=some (.type "list"):=by decide +kernel
theorem xK:bootBuiltins "sorted"=some (.builtin "sorted"):=by decide +kernel
end L3
end
section
namespace L3
open PySem L2
section
variable {K:FG} {G G0:Gm} {W W0:D->Sto->Prop} {H H':Hp} {σ:St} {ρ ρ':Sto} {T T':List It3} {g:Nat->Option It3} {x y z:It3} {α β:Type} {X:Cx} {L:List Addr}
theorem rL (h:tE K G0 W0 m σ H Q) (f:∀ v H,Q v H->Q' v H):tE K G0 W0 m σ H Q':=by
 refine h.use fun G W le ρ T g o ρ' w e q=>?_
 refine tE.mk le w e ?_
 cases o with
 | ok r=>exact fun v H' g=>f v H' (q v H' g)
 | error x=>exact q
def An:D->Option String
 | .non=>some "NoneType" | .bl _=>some "bool" | .int _=>some "int" | .str _=>some "str"
 | .tup _=>some "tuple" | .lst _=>some "list" | .fls _=>some "list" | .dk _=>some "dict" | .dt _=>some "dict" | .exc _ _=>none
def lE (t:String) (d:D):Option (D × Fl):=(An d).map fun k=>(.bl (nG k t),.z)
theorem Rep.kind (r:Rep K H d v L) (e:An d=some k):KindOf K H v k:=by
 cases r with
 | non=>cases e;exact .non
 | bl b=>cases e;exact .bool b
 | int i=>cases e;exact .int i
 | str s=>cases e;exact .str s
 | tup h _=>cases e;exact .tuple (SqT.of h)
 | lst h _=>cases e;exact .list (SqL.of h)
 | lstF h _=>cases e;exact .list h.sq
 | dK h _ _=>cases e;exact .dK h
 | dT h _ _=>cases e;exact .dT h
 | exc _ _=>cases e
 | excV _ _ _ _ _ _ _ _=>cases e
theorem m5 (g:cI X (.builtin "isinstance") (fun xs H Q=>∃ x k,xs=[x,.ty t]/\KindOf X.K H x k/\Q (.bl (nG k t)) H)) (j:Gl X "isinstance") (hm:X.mg "isinstance"=none) (f:PE X (.Name tn pT) (tC (.ty t))) (l:RE X G0 W0 a ma) (b:starEach [a,.Name tn pT] X.env=(false,eval a X.env) :: starEach [.Name tn pT] X.env) (c:starEach [.Name tn pT] X.env=(false,eval (.Name tn pT) X.env) :: starEach [] X.env) (d:(backTo pos (starEach [.Name tn pT] X.env)).any (·.1)=false):RE X G0 W0 (.Call (.Name "isinstance" p) [a,.Name tn pT] [] pos) (mUn (lE t) ma) :=
 ⟨PE.imp (kI g j hm jb (iR l.h (iR f qG c) b) (by decide) (by decide) b d) fun σ H Q h=>by
  have h:=rK (r:=fun x H Q=>∃ k,KindOf X.K H x k/\Q (.bl (nG k t)) H) (fun a H Q p ra e q=>by
   obtain ⟨k,h1,h2⟩:=C5.mp e
   subst h2
   exact ⟨k,ra.rep.kind h1,q ⟨.bl (nG k t),.bl (nG k t),[],.z⟩ H (dI (.bl _)) rfl rfl⟩) h
  refine rL h fun x H1 ⟨k,i,q⟩=>?_
  exact ⟨x,k,rfl,i,q⟩⟩
def wU:D->Option Key
 | .int i=>some (.inl i)
 | .str s=>some (.inr s)
 | _=>none
def dZ:List D->Option (List Key)
 | []=>some []
 | d :: ds=>match wU d,dZ ds with
  | some k,some ks=>some (k :: ks)
  | _,_=>none
theorem uu (r:Rep K H d v L) (e:wU d=some k):v=kV k:=by
 cases r <;> cases e <;> rfl
theorem fW:∀ {ds:List D} {vs:List V} {L:List Addr} {a:List Key},Reps (Rep K H) ds vs L->dZ ds=some a->vs=a.map kV
 | _,_,_,a,.nil,e=>by cases e;rfl
 | _,_,_,a,.cons (d:=d) (ds:=ds) r rs,e=>by
  unfold dZ at e
  cases h1:wU d with
  | none=>rw [h1] at e;exact nsE e
  | some k =>
   cases h2:dZ ds with
   | none=>rw [h1,h2] at e;exact nsE e
   | some ks' =>
    rw [h1,h2] at e
    cases e
    rw [uu r h1,fW rs h2];rfl
def xh (a:List (List Key × D)) (k:List Key):Option D:=(a.find? fun b=>decide (b.1=k)).map (·.2)
def wj (a:List (List Key × D)) (k:List Key) (v:D):List (List Key × D) :=
 if (a.any fun b=>decide (b.1=k))=true then a.map (fun b=>if b.1=k then (b.1,v) else b) else a ++ [(k,v)]
theorem pQ:∀ {b:List (List Key × D)} {ps:List (List Key × V)} {L:List Addr} {k:List Key} {d:D},b.map (·.1)=ps.map (·.1)->Reps (Rep K H) (b.map (·.2)) (ps.map (·.2)) L->xh b k=some d->∃ v L',jU ps k=some v/\Rep K H d v L'/\∀ c ∈ L',c ∈ L
 | [],ps,L,k,d,hk,r,e=>by cases e
 | g :: b,[],L,k,d,hk,r,e=>by cases hk
 | g :: b,p :: ps,L,k,d,hk,r,e=>by
  have f:g.1=p.1/\b.map (·.1)=ps.map (·.1):=by simpa using hk
  generalize j:(g :: b).map (·.2)=xs at r
  generalize l:(p :: ps).map (·.2)=ys at r
  cases r with
  | nil=>cases j
  | cons a as =>
   cases j
   cases l
   unfold xh at e
   rw [List.find?_cons] at e
   by_cases h:g.1=k
   ·rw [Do h] at e
    cases e
    exact ⟨_,_,iC (f.1.symm.trans h),a,fun c i=>C6 _ i⟩
   ·rw [Dp h] at e
    obtain ⟨v,L',h1,h2,h3⟩:=pQ f.2 as e
    exact ⟨v,L',by rw [iD (fun z=>h (f.1.trans z))];exact h1,h2,fun c i=>C7 _ (h3 c i)⟩
def sH:D->D->Option (D × Fl)
 | .dt kvs,.tup ks=>match dZ ks with
  | some k=>(xh kvs k).map fun d=>(d,.z)
  | none=>none
 | _,_=>none
def r0:R2:=fun x y H Q=>∃ a v,x=.ref a/\DGet H a y (some v)/\Q v H
theorem zk:OpD K r0 sH:=fun a b H Q p ra rb e q=>by
 obtain ⟨da,x,A,i⟩:=a
 obtain ⟨db,r,s,B⟩:=b
 have g:=ra
 obtain ⟨ra,u⟩:=ra
 obtain ⟨rb,ob⟩:=rb
 dsimp only at ra rb e
 cases da with
 | dt kvs =>
  obtain ⟨f,ps,j,rfl,rfl,o,l,rs⟩:=ra.view
  cases db with
  | tup ks =>
   obtain ⟨w,ws,rfl,m,h⟩:=rb.view
   have e:(match dZ ks with | some k=>(xh kvs k).map fun d=>(d,Fl.z) | none=>none)=some p:=e
   cases h1:dZ ks with
   | none=>rw [h1] at e;exact nsE e
   | some k =>
    rw [h1] at e
    obtain ⟨d,h2,h3⟩:=C5.mp (show (xh kvs k).map (fun d=>(d,Fl.z))=some p from e)
    subst h3
    have hw:=fW h h1
    subst hw
    obtain ⟨v,L',g1,g2,g3⟩:=pQ l rs h2
    refine ⟨f,v,rfl,by rw [<- g1];exact DGet.t o m,q ⟨d,v,L',.z⟩ H (pv g2 fun c n=>?_) rfl rfl⟩
    exact pL (y:=⟨.dt kvs,.ref f,f :: j,i⟩) C2 g rfl rfl c (g3 c n)
  | _=>exact nsE e
 | _=>exact nsE e
open PySem.Spec PyProof.Rows in
theorem zC (hu:X.A.units+1 < cLine):IxR X r0:=by
 intro value slice pins s σ H x y v u Q I f d h j
 obtain ⟨a,w,rfl,g,q⟩:=h
 cases f
 have c:=pW I g
 unfold subscriptTail
 refine CY ?_
 rw [getitemInPython_of_ne c.not_modules]
 refine CY (wpAny_specialOf c PySem.F.slot_dict_getitem.lookup ?_)
 have fin:wpAny (model X.prog X.w) X.A (subscripted slice false (.ref a) u) (fun r i=>wpAny (model X.prog X.w) X.A (letTemporaryGo value (.ref a) r >>= fun _=>pure r) (EP X pins σ Q) X.xe i) X.xe s:=by
  rw [j]
  exact wpAny_operating (uN hu I g d fun k s3 e b=>CY (wpAny_letTemporaryGo (CZ ⟨w,H,e,b,q⟩)))
 first
  | exact CZ (CY fin)
  | exact CY (CZ (CY fin))
  | exact CY fin
abbrev ay:=orD ixD sH
theorem BW:OpD K (fun x y H Q=>(we K x y H Q\/wd K x y H Q)\/r0 x y H Q) ay:=od_ix.or zk
theorem Cn (hu:X.A.units+1 < cLine):IxR X (fun x y H Q=>(we X.K x y H Q\/wd X.K x y H Q)\/r0 x y H Q):=ix_ok.or (zC hu)
def pg:D->List D->Option (D × D)
 | .dt kvs,[.tup ks,v]=>match dZ ks with
  | some k=>if kvs.length < 16777216 then some (.dt (wj kvs k v),.non) else none
  | none=>none
 | _,_=>none
def rY:CU:=fun o i v H Q=>∃ a H',o=.ref a/\DPut H a i v H'/\Q H'
theorem vA (hu:X.A.units+1 < cLine):xU X rY:=by
 intro pins s σ H o i v ov f u Q I d b e h
 obtain ⟨a,H',rfl,g,q⟩:=h
 cases d
 exact uM hu I g b e fun s' c=>⟨H',c,q⟩
theorem pc:∀ {b:List (List Key × D)} {ps:List (List Key × V)} {L L':List Addr} {k:List Key} {d:D} {v:V},b.map (·.1)=ps.map (·.1)->Reps (Rep K H) (b.map (·.2)) (ps.map (·.2)) L->Rep K H d v L' ->
  ∃ L2,Reps (Rep K H) ((b.map fun e=>if e.1=k then (e.1,d) else e).map (·.2)) ((ps.map fun e=>if e.1=k then (e.1,v) else e).map (·.2)) L2/\(∀ c ∈ L2,c ∈ L\/c ∈ L')
 | [],[],L,L',k,d,v,hk,r,rd=>⟨[],.nil,fun c g=>by cases g⟩
 | [],_ :: _,_,_,_,_,_,hk,_,_=>by cases hk
 | _ :: _,[],_,_,_,_,_,hk,_,_=>by cases hk
 | e :: b,p :: ps,L,L',k,d,v,hk,r,rd=>by
  have f:e.1=p.1/\b.map (·.1)=ps.map (·.1):=by simpa using hk
  generalize i:(e :: b).map (·.2)=xs at r
  generalize j:(p :: ps).map (·.2)=ys at r
  cases r with
  | nil=>cases i
  | @cons _ _ L1 _ _ L1' a as =>
   cases i
   cases j
   obtain ⟨L2,h1,h2⟩:=pc (k:=k) f.2 as rd
   by_cases h:e.1=k
   ·refine ⟨L' ++ L2,?_,fun c g=>?_⟩
    ·simp only [Dn,if_pos h,if_pos (f.1.symm.trans h)]
     exact .cons rd h1
    ·rcases Db.mp g with z | z
     ·exact .inr z
     ·rcases h2 c z with y | y
      ·exact .inl (C7 _ y)
      ·exact .inr y
   ·refine ⟨L1 ++ L2,?_,fun c g=>?_⟩
    ·simp only [Dn,if_neg h,if_neg (fun z=>h (f.1.trans z))]
     exact .cons a h1
    ·rcases Db.mp g with z | z
     ·exact .inl (C6 _ z)
     ·rcases h2 c z with y | y
      ·exact .inl (C7 _ y)
      ·exact .inr y
theorem xR {a:List (List Key × D)} {ps:List (List Key × V)} (c:a.map (·.1)=ps.map (·.1)):(a.any fun b=>decide (b.1=k))=ps.any fun b=>decide (b.1=k):=by
 have h1:(a.any fun b=>decide (b.1=k))=(a.map (·.1)).any fun x=>decide (x=k):=by rw [List.any_map];rfl
 have h2:(ps.any fun b=>decide (b.1=k))=(ps.map (·.1)).any fun x=>decide (x=k):=by rw [List.any_map];rfl
 rw [h1,h2,c]
theorem pG {b:List (List Key × α)} {d:α}:(b.map fun a=>if a.1=k then (a.1,d) else a).map (·.1)=b.map (·.1):=by
 rw [DI]
 refine List.map_congr_left fun a _=>?_
 show (if a.1=k then (a.1,d) else a).1=a.1
 split <;> rfl
theorem put1 (a:D):pg (.dt kvs) [a]=none:=by cases a <;> rfl
theorem put3' (a:D):pg (.dt kvs) (a :: b :: c :: r)=none:=by cases a <;> rfl
theorem zq:MutD K (kE rY) pg:=fun a d n as H Q p r m na ra s e q=>by
 cases d with
 | dt kvs =>
  obtain ⟨_,ps,_,e1,F,x,i,rs⟩:=r.view
  cases e1
  cases F
  match as,e,ra,s with
  | [],e,_,_=>exact nsE e
  | [y],e,_,_=>exact nsE ((put1 y.d).symm.trans e)
  | y :: _ :: _ :: _,e,_,_=>exact nsE ((put3' y.d).symm.trans e)
  | [k,y],e,ra,s =>
   have w:=ra k C2
   have A:=ra y (C3 _ C2)
   have B:=s y (C3 _ C2)
   obtain ⟨kd,I,G,J⟩:=k
   dsimp only at w
   cases kd with
   | tup ks =>
    obtain ⟨C,ws,rfl,f,u⟩:=w.view
    have e:(match dZ ks with | some k=>if kvs.length < 16777216 then some (D.dt (wj kvs k y.d),D.non) else none | none=>none)=some p:=e
    cases h1:dZ ks with
    | none=>rw [h1] at e;exact nsE e
    | some key =>
     rw [h1] at e
     dsimp only at e
     split at e
     ·rename_i E
      cases e
      have hw:=fW u h1
      subst hw
      have hlen:kvs.length=ps.length:=by have:=congrArg List.length i;simpa using this
      refine ⟨.ref C,y.v,rfl,a,_,rfl,DPut.t x f (by rw [<- hlen,<- szl];exact E),?_⟩
      have ma:MutAt H a:=.inr (.inr ⟨_,x⟩)
      have g:Rep K (upd H a (.dT (eM ps key y.v))) y.d y.v y.L:=A.keep (M:=fun b=>b=a) (fun b o f h=>by rw [ao h];exact f) (fun b e=>by rw [e];exact ma) fun b f e=>B (by rw [<- e];exact f)
      have keeps:Reps (Rep K (upd H a (.dT (eM ps key y.v)))) (kvs.map (·.2)) (ps.map (·.2)) n:=rs.keep (M:=fun b=>b=a) (fun b o f h=>by rw [ao h];exact f) (fun b e=>by rw [e];exact ma) fun b f e=>na (by rw [<- e];exact f)
      have fin:∃ l,Reps (Rep K (upd H a (.dT (eM ps key y.v)))) ((wj kvs key y.d).map (·.2)) ((eM ps key y.v).map (·.2)) l/\(∀ c ∈ l,c ∈ n\/c ∈ y.L)/\(wj kvs key y.d).map (·.1)=(eM ps key y.v).map (·.1):=by
       generalize upd H a (HO.dT (eM ps key y.v))=H2 at keeps g ⊢
       unfold wj eM
       rw [xR i]
       split
       ·obtain ⟨L2,g1,g2⟩:=pc (k:=key) i keeps g
        exact ⟨L2,g1,g2,by rw [pG,pG];exact i⟩
       ·refine ⟨n ++ (y.L ++ []),?_,fun c j=>?_,by rw [List.map_append,List.map_append,i];rfl⟩
        ·rw [List.map_append,List.map_append]
         exact keeps.append (.cons g .nil)
        ·rcases Db.mp j with z | z
         ·exact .inl z
         ·rw [List.append_nil] at z;exact .inr z
      obtain ⟨l,g1,g2,g3⟩:=fin
      exact q (.dT (eM ps key y.v)) l ⟨.non,.non,[],.z⟩ (.dT aI g3 g1) rfl (fun c j=>(g2 c j).imp id fun h=>⟨y,C3 _ C2,h⟩) rfl rfl .non fun c j=>by cases j
     ·exact nsE e
   | _=>exact nsE e
 | _=>exact nsE e
def wx (f g:D->List D->Option (D × D)) (a:D) (b:List D):Option (D × D):=match f a b with
 | some p=>some p
 | none=>g a b
theorem MutD.or {f g:D->List D->Option (D × D)} (h:MutD K r f) (h':MutD K r' g):MutD K (fun x y H Q=>r x y H Q\/r' x y H Q) (wx f g):=fun a d c as H Q p r m na ra i e q=>by
 unfold wx at e
 cases b:f d (as.map (·.d)) with
 | some p'=>rw [b] at e;cases e;exact .inl (h a d c as H Q _ r m na ra i b q)
 | none=>rw [b] at e;exact .inr (h' a d c as H Q p r m na ra i e q)
abbrev vD:=wx tK pg
theorem B6:MutD K (kE fun o i v H Q=>rX o i v H Q\/rY o i v H Q) vD:=fun a d b as H Q p r m na ra c e q=>by
 rcases MutD.or zp zq a d b as H Q p r m na ra c e q with ⟨k,v,h1,h2⟩ | ⟨k,v,h1,h2⟩
 ·exact ⟨k,v,h1,.inl h2⟩
 ·exact ⟨k,v,h1,.inr h2⟩
theorem yy (hu:X.A.units+1 < cLine):xU X (fun o i v H Q=>rX o i v H Q\/rY o i v H Q):=by
 intro pins s σ H o i v ov d u Q I b a c h
 rcases h with h | h
 ·exact vz pins s σ H o i v ov d u Q I b a c h
 ·exact vA hu pins s σ H o i v ov d u Q I b a c h
end
end L3
end
section
namespace L3
open PySem L2
section
open PySem.Spec PyProof.Rows HT
variable {prog:Program} {w:World} {A:Around} {E:Value->Shared->Prop} {s:Shared}
theorem ie {lo hi:Option Int} (a:IsTup s.heap t items) (e:s.heap.IsSliceOf sl vl vu .none) (pl:IsPart vl lo) (pu:IsPart vu hi) (hw:sIx items.size 0 lo=0/\sIx items.size items.size hi=items.size) (h:Q (.ref t) s) (hsz:items.size<=sizeLine):wpAny (model prog w) A (getItem (.ref t) (.ref sl)) Q E s:=by
 obtain ⟨os,d,b,f⟩:=id e
 have c:s.TypeIs (.ref sl) "slice":=⟨os,d,b⟩
 unfold getItem
 try with_reducible refine C0 ?_
 first | refine CY (CZ ?_) | skip
 refine CY (wpAny_sequenceKey a.typeIs (by decide) ?_)
 refine CY (wpAny_callSpecial?_slot (name:=Str.ofString "__getitem__") a.typeIs PyProof.Rows.slot_tuple_getitem
  (wpAny_call_entry PyProof.Rows.slot_tuple_getitem a.typeIs entry_tuple_getitem ?_ (args_tuple_getitem _ _)))
 show wpAny _ _ (Builtin.Tuple.tupleItemsOf (.ref t) >>= _) _ _ s
 refine CY (tupleItemsOf_ a ?_)
 refine CY (wpAny_typeOf c ?_)
 rw [if_pos (by decide)]
 refine CY (d9 e pl pu ?_)
 show wpAny _ _ (if (((sIx items.size 0 lo:Nat):Int) == 0 && (1:Int) == 1 && (sIx items.size items.size hi - sIx items.size 0 lo) == items.size)=true then _ else _) _ _ s
 rw [if_pos (by simp [hw.1,hw.2])]
 refine CY ?_
 unfold Builtin.Tuple.tupleIsExact
 refine CY (wpAny_typeOf a.typeIs ?_)
 refine CZ ?_
 rw [if_pos (by decide)]
 exact CY (wpAny_rule (CZ ⟨_,rfl,CZ h⟩))
end
section
variable {K:FG} {G G0:Gm} {W W0:D->Sto->Prop} {H H':Hp} {σ:St} {ρ ρ':Sto} {T T':List It3} {g:Nat->Option It3} {x y z:It3} {α β:Type} {X:Cx} {L:List Addr}
def wc (K:FG):V->Option Int->Option Int->Hp->VK->Prop:=fun x lo hi H Q=>∃ a xs,x=.ref a/\SqT K H a xs/\(HT.sIx xs.length 0 lo=0/\HT.sIx xs.length xs.length hi=xs.length)/\Q (.ref a) H
theorem yq:SlR X (wc X.K):=by
 intro pins s σ H x v g i lo hi sl Q I d e pl pu h
 obtain ⟨a,xs,rfl,f,hw,q⟩:=h
 cases d
 obtain ⟨b,r,c,hz⟩:=I.tuple f
 have hlen:b.toArray.size=xs.length:=by rw [Dm];exact r.length.symm
 refine ⟨"tuple",_,PyProof.Rows.slot_tuple_getitem.lookup,c.typeIs,?_⟩
 exact ie c e pl pu (by rw [hlen];exact hw) ⟨.ref a,H,I,rfl,q⟩ (by rw [hlen];exact hz)
def asI:D->Option Int
 | .int i=>some i
 | _=>none
def pi:M3 (Option Int):=ba none
def l8 (m:EM):M3 (Option Int):=ag m fun r=>ag (der r) fun d=>bo ((asI d).map some)
def EndP (K:FG) (G:Gm) (W:D->Sto->Prop) (σ:St) (T:List It3) (ρ':Sto) (Q:Option Int->Hp->Prop):Except D (Option Int)->Prop
 | .ok b=>∀ H' g',Wf K G H' σ ρ' T g'->Q b H'
 | .error e=>W e ρ'
def tP (K:FG) (G0:Gm) (W0:D->Sto->Prop) (m:M3 (Option Int)):TO:=fun σ H Q=>∃ G W,Le K G W G0 W0/\∃ ρ T g r ρ',Wf K G H σ ρ T g/\m ρ=some (r,ρ')/\EndP K G W σ T ρ' Q r
structure RP (X:Cx) (G0:Gm) (W0:D->Sto->Prop) (e:Option Expr) (m:M3 (Option Int)):Prop where
 h:PO X e (tP X.K G0 W0 m)
theorem PO.imp (h:PO X e t) (f:∀ σ H Q,t' σ H Q->t σ H Q):PO X e t':=fun pins s σ H Q I q=>h pins s σ H Q I (f σ H Q q)
theorem yH:RP X G0 W0 none pi:=⟨PO.imp y6 fun σ H Q h=>by
 obtain ⟨G,W,le,ρ,T,g,r,ρ',w,e,q⟩:=h
 cases e
 exact q _ _ w⟩
theorem yG (h:RE X G0 W0 e m):RP X G0 W0 (some e) (l8 m):=⟨PO.imp (yZ h.h) fun σ H Q h=>by
 obtain ⟨G,W,le,ρ,T,g,r,ρ',w,e,q⟩:=h
 have a:∀ x,r=.error x->W x ρ':=fun x c=>by subst c;exact q
 refine tE.seq le w e a fun ra ρ1 e1 v H1 ⟨Ts,g1,b,a1⟩=>?_
 obtain ⟨d,n,p⟩:=aY e1
 obtain ⟨o,k,rfl,rfl⟩:=bZ p
 obtain ⟨i,j,s⟩:=C5.mp k
 subst s
 obtain ⟨y,l,f1,f2⟩:=a1.item b (fun x c=>C6 _ c) n
 have f:=(b.itm l).rep
 rw [f1] at f
 have hd:d=.int i:=by cases d <;> cases j;rfl
 rw [hd] at f
 refine ⟨i,by rw [<- f2];exact f.int_inv,q _ _ (b.sub (Dg Ts T))⟩⟩
def mSl (f:D->Option Int->Option Int->Option (D × Fl)) (ma:EM) (pl pu:M3 (Option Int)):EM:=ag ma fun ra=>ag pl fun lo=>ag pu fun hi=>ag (der ra) fun d=>bo ((f d lo hi).map fun p=>R3.val p.1 p.2)
def SlD (K:FG) (r:V->Option Int->Option Int->Hp->VK->Prop) (f:D->Option Int->Option Int->Option (D × Fl)):Prop:=∀ (a:It3) (lo hi:Option Int) (H:Hp) (Q:VK) (p:D × Fl),Arg K H a->f a.d lo hi=some p ->
 (∀ w H',New K H H' (dH [a]) w->w.d=p.1->w.f=p.2->Q w.v H')->r a.v lo hi H Q
theorem tP.seq (le:Le K G W G0 W0) (w:Wf K G H σ ρ T g) (e:ag ma k ρ=some (r,ρ')) (he:∀ x,r=.error x->W x ρ') (h:∀ b ρ1,k b ρ1=some (r,ρ')->∀ H1 g1,Wf K G H1 σ ρ1 T g1->P b H1):tP K G0 W0 ma σ H P:=by
 unfold ag at e
 cases q:ma ρ with
 | none=>rw [q] at e;exact nsE e
 | some p =>
  obtain ⟨o,ρ1⟩:=p
  rw [q] at e
  cases o with
  | error x=>cases e;exact ⟨G,W,le,ρ,T,g,.error x,ρ',w,q,he x rfl⟩
  | ok ra=>exact ⟨G,W,le,ρ,T,g,.ok ra,ρ1,w,q,h ra ρ1 e⟩
theorem tE_sl (hd:SlD K r f) (h:tE K G0 W0 (mSl f ma pl pu) σ H Q):tSl r (tE K G0 W0 ma) (tP K G0 W0 pl) (tP K G0 W0 pu) σ H Q:=by
 refine h.use fun G W le ρ T g o ρ' w e q=>?_
 refine tE.seq le w e q.err fun ra ρ1 e1 A H1 ⟨Ts,g1,j,a1⟩=>?_
 refine tP.seq le j e1 q.err fun lo ρ2 v H2 g2 k=>?_
 refine tP.seq le k v q.err fun hi ρ3 n t g3 b=>?_
 obtain ⟨d,u,l⟩:=aY n
 obtain ⟨p,a,rfl,rfl⟩:=bZ l
 obtain ⟨y,i,f1,f2⟩:=a1.item b (fun x m=>C6 _ m) u
 subst f1 f2
 cases c:f y.d lo hi with
 | none=>rw [c] at a;exact nsE a
 | some s =>
  rw [c] at a
  cases a
  exact hd y lo hi t Q s (b.itm i).arg c (pV b (fun z hz=>by rw [Dy.mp hz];exact i) q)
theorem Reps.take:∀ {ds:List D} {vs:List V} {L:List Addr} (n:Nat),Reps (Rep K H) ds vs L->∃ L',Reps (Rep K H) (ds.take n) (vs.take n) L'/\∀ c ∈ L',c ∈ L
 | _,_,_,0,_=>⟨[],by simpa using Reps.nil,fun c a=>by cases a⟩
 | _,_,_,n+1,.nil=>⟨[],by simpa using Reps.nil,fun c a=>by cases a⟩
 | _,_,_,n+1,.cons (L:=L1) r rs=>by
  obtain ⟨L',h1,h2⟩:=Reps.take n rs
  exact ⟨L1 ++ L',by simpa using Reps.cons r h1,fun c a=>by
   rcases Db.mp a with h | h
   ·exact C6 _ h
   ·exact C7 _ (h2 c h)⟩
theorem Reps.drop:∀ {ds:List D} {vs:List V} {L:List Addr} (n:Nat),Reps (Rep K H) ds vs L->∃ L',Reps (Rep K H) (ds.drop n) (vs.drop n) L'/\∀ c ∈ L',c ∈ L
 | _,_,L,0,r=>⟨L,by simpa using r,fun c a=>a⟩
 | _,_,_,n+1,.nil=>⟨[],by simpa using Reps.nil,fun c a=>by cases a⟩
 | _,_,_,n+1,.cons r rs=>by
  obtain ⟨L',h1,h2⟩:=Reps.drop n rs
  exact ⟨L',by simpa using h1,fun c a=>C7 _ (h2 c a)⟩
theorem Reps.cut (lo hi:Option Int) (r:Reps (Rep K H) ds vs L):∃ L',Reps (Rep K H) (fZ ds lo hi) (pX vs lo hi) L'/\∀ c ∈ L',c ∈ L:=by
 unfold fZ pX
 rw [<- r.len]
 obtain ⟨d,h1,h2⟩:=r.drop (HT.sIx ds.length 0 lo)
 obtain ⟨L2,h3,b⟩:=h1.take (HT.sIx ds.length ds.length hi - HT.sIx ds.length 0 lo)
 exact ⟨L2,h3,fun c a=>h2 c (b c a)⟩
def slD:D->Option Int->Option Int->Option (D × Fl)
 | .lst xs,lo,hi=>some (.lst (fZ xs lo hi),.u)
 | .fls xs,lo,hi=>some (.lst (fZ xs lo hi),.u)
 | .tup xs,lo,hi=>some (.tup (fZ xs lo hi),.z)
 | _,_,_=>none
theorem sd_sl:SlD K (fun x lo hi H Q=>Bv K x lo hi H Q\/(Bu K x lo hi H Q\/wc K x lo hi H Q)) slD:=fun a lo hi H Q p ra e q=>by
 obtain ⟨da,m,j,i⟩:=a
 have d:=ra
 obtain ⟨ra,l⟩:=ra
 dsimp only at ra e
 cases da with
 | lst xs =>
  obtain ⟨b,vs,k,rfl,rfl,g,rs⟩:=ra.view
  cases e
  obtain ⟨L',h1,h2⟩:=rs.cut lo hi
  exact .inl ⟨b,vs,rfl,SqL.of g,fun p h=>q ⟨_,.ref p,p :: L',.u⟩ _ (uh h h1 fun c f=>pL (y:=⟨.lst xs,.ref b,b :: k,i⟩) C2 d rfl rfl c (h2 c f)) rfl rfl⟩
 | fls xs =>
  obtain ⟨b,vs,rfl,g,rs⟩:=ra.view
  cases e
  obtain ⟨L',h1,h2⟩:=rs.cut lo hi
  exact .inl ⟨b,vs,rfl,g.sq,fun p h=>q ⟨_,.ref p,p :: L',.u⟩ _ (uh h h1 fun c f=>js (y:=⟨.fls xs,.ref b,j,i⟩) C2 d rfl c (h2 c f)) rfl rfl⟩
 | tup xs =>
  obtain ⟨b,vs,rfl,g,rs⟩:=ra.view
  cases e
  by_cases hw:HT.sIx vs.length 0 lo=0/\HT.sIx vs.length vs.length hi=vs.length
  ·have f:fZ xs lo hi=xs:=by
    unfold fZ
    rw [rs.len,hw.1,hw.2,<- rs.len]
    simp
   rw [f] at q
   exact .inr (.inr ⟨b,vs,rfl,SqT.of g,hw,q ⟨.tup xs,.ref b,j,.z⟩ H (pv (.tup g rs) (js (y:=⟨.tup xs,.ref b,j,i⟩) C2 d rfl)) rfl rfl⟩)
  ·obtain ⟨L',h1,h2⟩:=rs.cut lo hi
   exact .inr (.inl ⟨b,vs,rfl,SqT.of g,hw,fun p h=>q ⟨_,.ref p,L',.z⟩ _ (zo h h1 fun c f=>js (y:=⟨.tup xs,.ref b,j,i⟩) C2 d rfl c (h2 c f)) rfl rfl⟩)
 | _=>exact nsE e
theorem AZ:SlR X (fun x lo hi H Q=>Bv X.K x lo hi H Q\/(Bu X.K x lo hi H Q\/wc X.K x lo hi H Q)):=sl_list.or (sl_tup.or yq)
theorem vV (he:RE X G0 W0 e m) (a:RP X G0 W0 lo pl) (hu:RP X G0 W0 hi pu):RE X G0 W0 (.Subscript e (.Slice lo hi none p2) pos) (mSl slD m pl pu):=⟨PE.imp (wu AZ he.h a.h hu.h) fun _ _ _ h=>tE_sl sd_sl h⟩
end
end L3
end
section
namespace L3
open PySem L2
mutual
def pyD:D->Option PyData
 | .non=>some .none
 | .bl b=>some (.bool b)
 | .int i=>some (.int i)
 | .str x=>some (.str x)
 | .tup xs=>(lz xs).map .tuple
 | .lst xs=>(lz xs).map .list
 | .fls xs=>(lz xs).map .list
 | .dk _=>none
 | .dt _=>none
 | .exc _ _=>none
def lz:List D->Option (List PyData)
 | []=>some []
 | d :: ds=>match pyD d,lz ds with
  | some p,some ps=>some (p :: ps)
  | _,_=>none
end
section
variable {K:FG} {H:Hp} {Ks:Addr->Prop} {d:D} {v:V} {L:List Addr} {X:Cx}
theorem Rep.dv (r:Rep K H d v L):∀ p,pyD d=some p->DV K H v p:=by
 refine Rep.rec (motive_1:=fun d v _ _=>∀ p,pyD d=some p->DV K H v p) (motive_2:=fun ds vs _ _=>∀ ps,lz ds=some ps->DVs K H vs ps) ?_ ?_ ?_ ?_ ?_ ?_ ?_ ?_ ?_ ?_ ?_ ?_ ?_ r
 ·intro p e;unfold pyD at e;cases e;exact .non
 ·intro _ p e;unfold pyD at e;cases e;exact .bl _
 ·intro _ p e;unfold pyD at e;cases e;exact .int _
 ·intro _ p e;unfold pyD at e;cases e;exact .str _
 ·intro xs a vs L h _ b p e
  unfold pyD at e
  obtain ⟨ps,e1,rfl⟩:=C5.mp e
  exact .tup (SqT.of h) (b ps e1)
 ·intro xs a vs L h _ b p e
  unfold pyD at e
  obtain ⟨ps,e1,rfl⟩:=C5.mp e
  exact .lst (SqL.of h) (b ps e1)
 ·intro xs a vs L h _ b p e
  unfold pyD at e
  obtain ⟨ps,e1,rfl⟩:=C5.mp e
  exact .lst h.sq (b ps e1)
 ·intro _ _ _ _ _ _ _ _ p e;unfold pyD at e;exact nsE e
 ·intro _ _ _ _ _ _ _ _ p e;unfold pyD at e;exact nsE e
 ·intros;rename_i e;unfold pyD at e;exact nsE e
 ·intros;rename_i e;unfold pyD at e;exact nsE e
 ·intro ps e;unfold lz at e;cases e;exact .nil
 ·intro d v L ds vs L' _ _ c f ps e
  unfold lz at e
  cases h1:pyD d with
  | none=>rw [h1] at e;exact nsE e
  | some p =>
   cases h2:lz ds with
   | none=>rw [h1,h2] at e;exact nsE e
   | some qs=>rw [h1,h2] at e;cases e;exact .cons (c p h1) (f qs h2)
def eqP (a b:D):Option Bool:=match pyD a,pyD b with
 | some p,some q=>if p.canLay0 && q.canLay0 && decide (min p.depth q.depth<=30) then some (PyData.eqv p q) else none
 | _,_=>none
def eqA (a b:D):Option Bool:=match eqS a b with
 | some k=>some k
 | none=>eqP a b
abbrev eqX (a b:D):Option (D × Fl):=(eqA a b).map fun k=>(.bl k,.z)
abbrev neX (a b:D):Option (D × Fl):=(eqA a b).map fun k=>(.bl (!k),.z)
def rEqP:R2:=fun x y H Q=>∃ p q,DV X.K H x p/\DV X.K H y q/\p.canLay0=true/\q.canLay0=true/\min p.depth q.depth<=30/\Q (.bl (PyData.eqv p q)) H
def rNeP:R2:=fun x y H Q=>∃ p q,DV X.K H x p/\DV X.K H y q/\p.canLay0=true/\q.canLay0=true/\min p.depth q.depth<=30/\Q (.bl (!PyData.eqv p q)) H
theorem wA (hu:X.A.units+64 < cLine):OpR X (compareOp .Eq) (fun x y H Q=>rEq x y H Q\/rEqP (X:=X) x y H Q):=by
 intro pins s σ H x y v u Q I b a h
 rcases h with h | ⟨p,q,h1,h2,h3,c,e,d⟩
 ·exact op_eq pins s σ H x y v u Q I b a h
 ·obtain ⟨as,ra⟩:=DV.reads I h1 b
  obtain ⟨bs,rb⟩:=DV.reads I h2 a
  exact PySem.SeqAt.compareEq_reads ra rb h3 c (by omega) ⟨.bl _,H,I,rfl,d⟩
theorem BS (hu:X.A.units+64 < cLine):OpR X (compareOp .NotEq) (fun x y H Q=>rNe x y H Q\/rNeP (X:=X) x y H Q):=by
 intro pins s σ H x y v u Q I b a h
 rcases h with h | ⟨p,q,h1,h2,h3,c,e,d⟩
 ·exact op_ne pins s σ H x y v u Q I b a h
 ·obtain ⟨as,ra⟩:=DV.reads I h1 b
  obtain ⟨bs,rb⟩:=DV.reads I h2 a
  exact PySem.SeqAt.compareNe_reads ra rb h3 c (by omega) ⟨.bl _,H,I,rfl,d⟩
theorem sM (e:eqP a b=some k):∃ p q,pyD a=some p/\pyD b=some q/\p.canLay0=true/\q.canLay0=true/\min p.depth q.depth<=30/\k=PyData.eqv p q:=by
 unfold eqP at e
 cases h1:pyD a with
 | none=>rw [h1] at e;exact nsE e
 | some p =>
  cases h2:pyD b with
  | none=>rw [h1,h2] at e;exact nsE e
  | some q =>
   rw [h1,h2] at e
   dsimp only at e
   split at e
   ·rename_i h
    cases e
    simp only [Bool.and_eq_true,decide_eq_true_eq] at h
    exact ⟨p,q,rfl,rfl,h.1.1,h.1.2,h.2,rfl⟩
   ·exact nsE e
theorem wE:OpD X.K (fun x y H Q=>rEq x y H Q\/rEqP (X:=X) x y H Q) eqX:=fun a b H Q p ra rb e q=>by
 obtain ⟨k,h1,h2⟩:=C5.mp e
 subst h2
 unfold eqA at h1
 cases c:eqS a.d b.d with
 | some k' =>
  rw [c] at h1
  cases h1
  obtain ⟨s,i⟩:=xt ra.rep rb.rep c
  exact .inl ⟨s,by rw [<- i];exact q ⟨.bl k,.bl k,[],.z⟩ H (dI (.bl k)) rfl rfl⟩
 | none =>
  rw [c] at h1
  obtain ⟨p,f,e1,j,g,h,l,rfl⟩:=sM h1
  exact .inr ⟨p,f,ra.rep.dv p e1,rb.rep.dv f j,g,h,l,q ⟨.bl _,.bl _,[],.z⟩ H (dI (.bl _)) rfl rfl⟩
theorem BY:OpD X.K (fun x y H Q=>rNe x y H Q\/rNeP (X:=X) x y H Q) neX:=fun a b H Q p ra rb e q=>by
 obtain ⟨k,h1,h2⟩:=C5.mp e
 subst h2
 unfold eqA at h1
 cases c:eqS a.d b.d with
 | some k' =>
  rw [c] at h1
  cases h1
  obtain ⟨s,i⟩:=xt ra.rep rb.rep c
  exact .inl ⟨s,by rw [<- i];exact q ⟨.bl (!k),.bl (!k),[],.z⟩ H (dI (.bl _)) rfl rfl⟩
 | none =>
  rw [c] at h1
  obtain ⟨p,f,e1,j,g,h,l,rfl⟩:=sM h1
  exact .inr ⟨p,f,ra.rep.dv p e1,rb.rep.dv f j,g,h,l,q ⟨.bl _,.bl _,[],.z⟩ H (dI (.bl _)) rfl rfl⟩
theorem xu (h:pyD a=some p) (b:p.canLay0=true) (hd:p.depth<=30):eqP a a=some true:=by
 unfold eqP
 rw [h]
 simp [b,hd,PySem.SeqAt.eqv_refl p b]
end
end L3
end
section
namespace L3
open PySem L2
theorem Cw {k:Nat} {nn:Nat} (F:Fun K x x st f fd) (S:FnScope N ps (af st)) (c:mask.length=ps.length) (b:N.length=nn) (body:∀ (a:Value) (A:Around) (outer:List Env) (s:Shared) (H:Hp) (E:XK) (f:Addr) (G:Gm),Room k (A.deeper (PyProof.Rows.envOfC x (af st) s.heap.objs.size f a))->G.pr=prM mask->RSs (de CX0 P w K mg base N x (af st) f a A outer s H E).nox G noX (au st) m) :
  FnOk P w K mg base CX0 (k+1) f fd ps (qk K (fnM mask nn m)):=by
 refine F.ok S (fun vs H Q E h=>?_) fun a A outer s H vs Q E i h=>?_
 ·obtain ⟨l,p,fs,rfl,_,_,d,_⟩:=h
  unfold fnM at d
  rw [Dd] at d ⊢
  split at d
  ·rename_i e;rw [e,c]
  ·exact nsE d
 ·have hle:mask.length<=nn:=by
   rw [c,<- b]
   have:=congrArg List.length S.pre
   rw [Dv] at this
   omega
  obtain ⟨G,j,g⟩:=nR hle h
  subst b
  exact ⟨_,(body a A outer s H E f G i j).h,g⟩
def vo (K:FG):Sp:=fun vs H Q _=>∃ (a:Addr) (ns:List Int),vs=[.ref a]/\SqL K H a (ns.map V.int)/\z9 H/\ns.length<=63/\∀ H',Q (.bl true) H'
theorem l5:∀ ns:List Int,Reps (Rep K H) (ns.map D.int) (ns.map V.int) []
 | []=>.nil
 | n :: ns=>.cons (L:=[]) (.int n) (l5 ns)
theorem zy (c:∀ ns:List Int,ns.length<=63->∃ fs,F [(.fls (ns.map .int),.z)]=some (.ok (.bl true,.z),fs)) (h:vo K vs H Q E):qk K F vs H Q E:=by
 obtain ⟨a,ns,rfl,d,f,g,q⟩:=h
 obtain ⟨fs,e⟩:=c ns g
 have i:FzL K H a (ns.map V.int):=by
  rcases d with (h | h) | h
  ·rcases f a with z | ⟨o,xs,z⟩
   ·rw [h] at z;cases z
   ·rw [h] at z;cases z
  ·exact .inl h
  ·exact .inr h
 refine ⟨[⟨.fls (ns.map .int),.ref a,[],.z⟩],(.bl true,.z),fs,rfl,fun p b=>?_,.cons (fun _ h=>by cases h) .nil,e,fun x qs H' B j k _=>?_⟩
 ·rw [Dy.mp b]
  exact ⟨.lstF i (l5 ns),fun h=>absurd rfl h⟩
 ·have r:=B.rep
  rw [j] at r
  have inv:∀ {v:V} {L:List Addr},Rep K H' (.bl true) v L->v=.bl true:=fun r=>by cases r;rfl
  rw [inv r]
  exact q H'
end L3
end
section
namespace L3
open PySem L2
section
variable {K:FG} {G G0:Gm} {W W0:D->Sto->Prop} {H H':Hp} {σ:St} {ρ ρ':Sto} {T T':List It3} {g:Nat->Option It3} {x y z:It3} {α β:Type} {X:Cx} {v:V} {d:D} {L:List Addr}
def cR:List D->Option (List Int)
 | []=>some []
 | .int i :: ds=>(cR ds).map (i :: ·)
 | _=>none
theorem jt:∀ {ds:List D} {ns:List Int},cR ds=some ns->ds=ns.map D.int
 | [],ns,e=>by cases e;rfl
 | d :: ds,ns,e=>by
  cases d <;> try (exact nsE e)
  rename_i b
  obtain ⟨r,h1,h2⟩:=C5.mp (show (cR ds).map (b :: ·)=some ns from e)
  subst h2
  rw [jt h1];rfl
theorem Reps.ints:∀ {ns:List Int} {vs:List V} {L:List Addr},Reps (Rep K H) (ns.map D.int) vs L->vs=ns.map V.int
 | [],_,_,.nil=>rfl
 | b :: bs,_,_,.cons r rs=>by
  rw [Reps.ints rs]
  cases r;rfl
end
end L3
end
section
namespace L3
open PySem L2
end L3
end
section
namespace L3
open PySem L2
section
variable {K:FG} {G G0:Gm} {W W0:D->Sto->Prop} {H H':Hp} {σ:St} {ρ ρ':Sto} {T T':List It3} {g:Nat->Option It3} {x y z:It3} {α β:Type} {X:Cx} {v:V} {d:D} {L:List Addr}
def inQ (neg:Bool):D->D->Option (D × Fl)
 | .int i,.lst xs=>(cR xs).map fun ns=>(.bl (if neg then !decide (i ∈ ns) else decide (i ∈ ns)),.z)
 | .int i,.tup xs=>(cR xs).map fun ns=>(.bl (if neg then !decide (i ∈ ns) else decide (i ∈ ns)),.z)
 | _,_=>none
abbrev B2:=inQ true
theorem pO {i:Int}:∀ {ns:List Int},inV (.int i) (ns.map V.int)=decide (i ∈ ns)
 | []=>rfl
 | n :: ns=>by
  have a:=pO (i:=i) (ns:=ns)
  unfold inV at a ⊢
  rw [Dn,List.any_cons,a]
  show ((n == i) || decide (i ∈ ns))=decide (i ∈ n :: ns)
  rw [Bool.eq_iff_iff]
  simp only [Bool.or_eq_true,beq_iff_eq,decide_eq_true_eq,C8]
  constructor
  ·rintro (h | h)
   ·exact .inl h.symm
   ·exact .inr h
  ·rintro (h | h)
   ·exact .inl h.symm
   ·exact .inr h
theorem uG {ns:List Int}:(ns.map V.int).all ig=true:=by simp [ig]
theorem od_in:OpD K (rIn K neg) (inQ neg):=fun a b H Q p ra rb e q=>by
 obtain ⟨da,m,g,f⟩:=a
 obtain ⟨db,h,j,l⟩:=b
 obtain ⟨ra,k⟩:=ra
 obtain ⟨rb,ob⟩:=rb
 dsimp only at ra rb
 have key:∀ {i:Int} {xs:List D} {vs:List V} {L:List Addr} {c:Addr},(SqL K H c vs\/SqT K H c vs)->Reps (Rep K H) xs vs L->((cR xs).map fun ns=>((.bl (if neg then !decide (i ∈ ns) else decide (i ∈ ns)),.z):D × Fl))=some p->rIn K neg (.int i) (.ref c) H Q:=fun {i xs vs L c} d rs e=>by
  obtain ⟨ns,h1,h2⟩:=C5.mp e
  subst h2
  have:=jt h1
  subst this
  have:=rs.ints
  subst this
  exact ⟨c,ns.map V.int,rfl,d,rfl,uG,by rw [pO];exact q ⟨.bl _,.bl _,[],.z⟩ H (dI (.bl _)) rfl rfl⟩
 cases da <;> try (exact nsE e)
 obtain ⟨rfl,rfl⟩:=ra.view
 cases db <;> try (exact nsE e)
 ·obtain ⟨c,vs,rfl,d,rs⟩:=rb.view
  exact key (.inr (SqT.of d)) rs e
 ·obtain ⟨c,vs,L,rfl,rfl,d,rs⟩:=rb.view
  exact key (.inl (SqL.of d)) rs e
theorem Reps.rep (r:Reps (Rep K H) ds vs L):∀ n:Nat,∃ L',Reps (Rep K H) (List.replicate n ds).flatten (List.replicate n vs).flatten L'/\∀ c ∈ L',c ∈ L
 | 0=>⟨[],.nil,fun _ h=>by cases h⟩
 | n+1=>by
  obtain ⟨L',h1,h2⟩:=Reps.rep r n
  refine ⟨L ++ L',?_,fun c a=>?_⟩
  ·rw [List.replicate_succ,List.replicate_succ,List.flatten_cons,List.flatten_cons];exact r.append h1
  ·rcases Db.mp a with h | h
   ·exact h
   ·exact h2 c h
def xX (i j:Int):Prop:=0 < j/\j < 1267650600228229401496703205376
theorem wz:OpR X (binaryOp .FloorDiv) (rI xX fun i j=>.int (i / j)):=opI fun i j _ _ _ _ _ a q=>by
 have h1:(0:Int) < j:=a.1
 have h2:j < 1267650600228229401496703205376:=a.2
 refine PyProof.Rows.floordiv_int (by omega) (by rw [Int.fdiv_eq_ediv_of_nonneg i (by omega)];exact q) (.inl (PyProof.noPylong_of_log2 ?_))
 have h3:j.natAbs < 2 ^ 100:=by omega
 exact Nat.lt_trans ((Nat.log2_lt (by omega)).mpr h3) (by decide)
abbrev uL:=cS (fun _ j=>decide (0 < j/\j < 1267650600228229401496703205376)) fun i j=>.int (i / j)
theorem zm:OpD K (rI xX fun i j=>.int (i / j)) uL:=iX (fun i j h=>by simpa [xX] using h) fun i j _=>.int _
end
end L3
end
section
namespace L3
open PySem L2
end L3
end
section
namespace L3
open PySem L2
end L3
end
section
namespace L3
open PySem L2
end L3
theorem L2.Room.hu {k:Nat} (a:L2.Room k A):A.units+1 < PySem.cLine:=L2.hu_of a
end
section
namespace L3
open PySem L2
end L3
end
section
namespace L3
open PySem L2
def XA (K:FG):D->Value->Option Addr->Hp->Prop:=fun e cls da H=>∃ c C fs,e=.exc c fs/\cls=.ref C/\XName K c C/\PayX K H da fs
abbrev j6 (P:Program) (w:World) (K:FG) (mg:Str->Option Value) (base:Heap) (x:Str) (k:Nat) (ps:List Str) (F:Fn):Prop:=CalleeX P w K mg base x k ps (spF (XA K) K F)
abbrev u6 (P:Program) (w:World) (K:FG) (mg:Str->Option Value) (base:Heap) (x:Str) (k:Nat) (ps:List Str) (F:Fn):Prop:=CalleeN P w K mg base x k ps (qk K F)
structure Pas (X:Cx) (G0:Gm) (W0:D->Sto->Prop):Prop where
 fly:∀ (pins:List (Addr × Obj)) (σ:St) (H:Hp) (s:Shared) (e:Value) (s':Shared),Inv X pins σ H s->CXe X.prog X.w X.stack H s (EX (XA X.K) X.K G0 W0 σ) e s'->X.xe e s'
structure Mak (X:Cx) (G0:Gm) (W0:D->Sto->Prop):Prop where
 made:∀ (pins:List (Addr × Obj)) (σ:St) (H:Hp) (s s':Shared) (a C:Addr) (vs:List Value),Inv X pins σ H s->EX (XA X.K) X.K G0 W0 σ (.ref C) none H->Heap.MadeExcOf s.heap s'.heap a (.ref C) vs->s'.os=s.os->s'.gens=s.gens->X.xe (.ref a) s'
 madeV:∀ (pins:List (Addr × Obj)) (σ:St) (H:Hp) (s:Shared) (a t d C:Addr),Inv X pins σ H s->EX (XA X.K) X.K G0 W0 σ (.ref C) (some d) H->s.heap.get? a=some (CA C t (some d))->X.s₀.heap.get? a=none->H a=none->X.xe (.ref a) s
section
variable {X:Cx} {G G0:Gm} {W W0:D->Sto->Prop} {K:FG} {H H':Hp} {σ:St} {ρ ρ':Sto} {T T':List It3} {g:Nat->Option It3} {m:SM} {ms:M3 (List R3)} {st:Stmt} {sts:List Stmt} {x:Str} {p pos:Pos} {e:Expr} {es:List Expr} {k:Nat} {ps:List Str} {F:Fn}
theorem vY (c:j6 X.prog X.w X.K X.mg X.base x k ps F) (f:Room k X.A) (d:Pas X G0 W0) (i:RA X G0 W0 (e :: es) ms) (g:Gl X x) (b:(x == ("__debug__":Str))=false)
  (he:starEach (e :: es) X.env=(false,eval e X.env) :: starEach es X.env) (a:(backTo pos (starEach es X.env)).any (·.1)=false):RE X G0 W0 (.Call (.Name x p) (e :: es) [] pos) (fu F ms) :=
 ⟨PE.imp (BN c f d.fly i.h g b he a) fun _ _ _ h=>yk h⟩
theorem vZ (c:u6 X.prog X.w X.K X.mg X.base x k ps F) (d:RoomN k X.A) (g:Hd X) (i:RA X G0 W0 (e :: es) ms) (f:Gl X x) (b:(x == ("__debug__":Str))=false)
  (he:starEach (e :: es) X.env=(false,eval e X.env) :: starEach es X.env) (a:(backTo pos (starEach es X.env)).any (·.1)=false):RE X G0 W0 (.Call (.Name x p) (e :: es) [] pos) (av F ms) :=
 ⟨PE.imp (BO c d g i.h f b he a) fun _ _ _ h=>oN h⟩
def ir (c:String) (ms:M3 (List R3)):SM:=ag ms fun rs=>fun ρ=>if rs.length<=1000 then some (.error (.exc c []),ρ) else none
theorem Ars.lenV (a:Ars σ rs vs Ts):rs.length=vs.length:=by
 induction a with
 | nil=>rfl
 | cons _ _ ih=>rw [Du,Du,ih]
theorem vh (n:XName K c C) (h:tS K G0 W0 (ir c ms) E σ H):vi (fun σ H1=>EX (XA K) K G0 W0 σ (.ref C) none H1) (tA K G0 W0 ms) E σ H:=by
 refine h.use fun G W le ρ T g r ρ' w e q=>?_
 refine tA.seq le w e q.err fun rs ρ1 e1 vs H1 Ts g1 f a1=>?_
 rcases Decidable.em (rs.length<=1000) with a | a
 ·rw [if_pos a] at e1
  cases e1
  obtain ⟨ρ5,i,b,d,j⟩:=le.ex H1 σ _ _ g1 _ f q
  exact ⟨by rw [<- a1.lenV];exact a,_,ρ5,i,b,d,⟨c,C,[],rfl,rfl,n,trivial⟩,j⟩
 ·rw [if_neg a] at e1;exact nsE e1
theorem vQ (n:XName X.K c C) (cl:ECls X.K X.mg x C) (mk:Mak X G0 W0) (b:X.calm=true) (d:Gl X x) (hd:(x == ("__debug__":Str))=false) (f:RA X G0 W0 [e] ms) (he:starEach [e] X.env=[(false,eval e X.env)]) :
  RS X G0 W0 (.Raise (some (.Call (.Name x np) [e] [] cpos)) none pos) (ir c ms) :=
 ⟨PS.imp (wn cl b d hd f.h _ (fun pins σ H s s' a vs I q hm h1 h2=>mk.made pins σ H s s' a C vs I q hm h1 h2) he) fun _ _ _ h=>vh n h⟩
def tS1 (K:FG) (G:Gm) (W:D->Sto->Prop) (m:SM):TS:=fun E σ H=>∃ ρ g r ρ',Wf K G H σ ρ [] g/\m ρ=some (r,ρ')/\EndS K G W [] ρ' E r
theorem tS1.all (h:tS1 K G W m E σ H):tS K G W m E σ H:=by
 obtain ⟨ρ,g,r,ρ',w,e,q⟩:=h
 exact tS.mk (Le.refl K _ _) w e q
structure RS1 (X:Cx) (G0:Gm) (W0:D->Sto->Prop) (s:Stmt) (m:SM):Prop where
 h:PS X s (tS1 X.K G0 W0 m)
structure RSs1 (X:Cx) (G0:Gm) (W0:D->Sto->Prop) (s:List Stmt) (m:SM):Prop where
 h:PSs X s (tS1 X.K G0 W0 m)
theorem vO (h:RS1 X G0 W0 st m):RSs1 X G0 W0 [st] m:=⟨se h.h⟩
end
end L3
end
section
namespace L3
open PySem L2
theorem pR {n:Nat} {E:XK} {ps:List It3} (hn:mask.length<=n) (ha:∀ p ∈ ps,Arg K H p) (hp:ps.Pairwise Apart3) (q:match o with
   | .ok p=>∀ x qs H',Behind K H H' ps qs x->x.d=p.1->x.f=p.2->qs.map (fun q=>(q.d,q.f))=fs->Q x.v H'
   | .error e=>∀ qs H' cls da,BehindX K H H' ps qs->qs.map (fun q=>(q.d,q.f))=fs->XA K e cls da H'->E cls da H') (l:fnM mask n m (ps.map fun p=>(p.d,p.f))=some (o,fs)) :
  ∃ (G:Gm) (W:D->Sto->Prop),G.pr=prM mask/\(∀ e ρ,W e ρ->∃ e',o=.error e')/\(∀ σ cls da H',EX (XA K) K G W σ cls da H'->E cls da H')/\tS1 K G W m { nx:=fun _ H'=>Q .non H',rt:=Q } ((ps.map (·.v)).map some ++ List.replicate (n - (ps.map (·.v)).length) none) H:=by
 unfold fnM at l
 rw [Dd] at l
 split at l
 ·rename_i hl
  rw [<- jn] at l
  generalize y:List.zipWith cg mask ps=g at l
  have ar:g.length=ps.length:=by rw [<- y,List.length_zipWith];omega
  have U:g.map (·.v)=ps.map (·.v):=by
   refine List.ext_getElem? fun i=>?_
   rw [Di,Di]
   cases e:ps[i]? with
   | none=>rw [List.getElem?_eq_none (by have:=List.getElem?_eq_none_iff.mp e;omega)]
   | some u =>
    obtain ⟨b,_,t⟩:=iV (mask:=mask) hl e
    rw [y] at t
    rw [t]
    show some (cg b u).v=some u.v
    rw [(bd b u).2.1]
  have up:∀ (i:Nat) (u:It3),g[i]?=some u->∃ b s,mask[i]?=some b/\ps[i]?=some s/\u=cg b s:=fun i u e=>by rw [<- y] at e;exact mm e
  have I:∀ u ∈ g,∃ b s,s ∈ ps/\u=cg b s:=fun u hu=>by
   obtain ⟨i,hi,e⟩:=List.mem_iff_getElem.mp hu
   obtain ⟨b,s,_,t,A⟩:=up i u (by rw [C9 hi,e])
   exact ⟨b,s,Df t,A⟩
  have F:∀ u ∈ g,Arg K H u:=fun u hu=>by
   obtain ⟨b,s,h0,rfl⟩:=I u hu
   obtain ⟨e1,t,A,Y⟩:=bd b s
   refine ⟨by rw [e1,t,A];exact (ha s h0).rep,fun hf=>?_⟩
   rw [e1,t,A]
   refine (ha s h0).own fun z=>hf ?_
   rcases Y with f | f
   ·rw [f];exact z
   ·exact f
  have C:g.Pairwise Apart3:=by
   rw [List.pairwise_iff_getElem]
   intro i j hi hj lt
   obtain ⟨b,s,_,t,A⟩:=up i _ (C9 hi)
   obtain ⟨M,X,_,ae,V⟩:=up j _ (C9 hj)
   have ap:=ce hp (fun _ _=>Apart3.symm) (Dl lt) t ae
   rw [A,V]
   obtain ⟨_,a2,a3,T⟩:=bd b s
   obtain ⟨_,b2,b3,b4⟩:=bd M X
   exact ⟨ap.1.low a2 T b3,ap.2.low b2 b4 a3⟩
  have J:∀ (i:Nat) (u:It3),g[i]?=some u->u.f ≠ .z->prM mask i=true:=fun i u e hf=>by
   obtain ⟨b,s,e1,t,A⟩:=up i u e
   unfold prM
   rw [e1]
   cases b with
   | false=>rfl
   | true=>rw [A] at hf;exact absurd rfl hf
  have alls:∀ c,cJ g c->cJ ps c:=fun c ⟨u,hu,N⟩=>by
   obtain ⟨b,s,h0,rfl⟩:=I u hu
   exact ⟨s,h0,by rw [<- (bd b s).2.2.1];exact N⟩
  have lift:∀ {H':Hp} {qs:List It3},BehindX K H H' g qs->BehindX K H H' ps qs:=fun {H' qs} B=>by
   refine ⟨fun b o hb hn=>B.frame b o hb fun u hu hf U=>?_,Paired.ofGet ?_ fun k u v eu ev=>?_,B.apart⟩
   ·obtain ⟨M,s,h0,rfl⟩:=I u hu
    obtain ⟨_,t,_,Y⟩:=bd M s
    rcases Y with f | f
    ·exact hn s h0 (by rw [<- f];exact hf) (by rw [<- t];exact U)
    ·rw [f] at hf;cases hf
   ·rw [<- ar];exact Paired.length B.back
   ·obtain ⟨b,_,t⟩:=iV (mask:=mask) hl eu
    rw [y] at t
    have b1:=Paired.at B.back t ev
    obtain ⟨a1,a2,a3,T⟩:=bd b u
    refine ⟨fun hz=>?_,by rw [b1.v,a2],?_,b1.arg,fun c N=>(b1.src c N).imp id (alls c),fun hf M P=>?_⟩
    ·have:cg b u=u:=by
      cases b
      ·rfl
      ·obtain ⟨d,v,L,f⟩:=u
       have hz:f=.z:=hz
       subst hz;rfl
     rw [<- this]
     exact b1.z (by rw [this];exact hz)
    ·rcases b1.f with h | h
     ·rcases T with f | f
      ·exact .inl (h.trans f)
      ·exact .inr (h.trans f)
     ·exact .inr h
    ·rcases T with f | f
     ·exact b1.there (by rw [f];exact hf) M (by rw [a2];exact P)
     ·-- lowered: as it was
      obtain ⟨_,a,L',v1,v2,_⟩:=(ha u (Df eu)).own (by rw [hf];intro q;cases q)
      rw [P] at v1;cases v1
      have S:=b1.z f
      have r:=b1.arg.rep
      rw [S,a1,a2,a3] at r
      exact (r.inH M (by rw [v2];exact C2)).ex
  have ax:g.length<=n:=by omega
  have wf:=oB (K:=K) (H:=H) (n:=n) (pr:=prM mask) ax F C J
  rw [U] at wf
  have h0:∀ (i:Nat) (u:It3),g[i]?=some u->((ps.map (·.v)).map some ++ List.replicate (n - (ps.map (·.v)).length) none)[i]?=some (some u.v):=fun i u e=>jh (by rw [<- U];exact sj e)
  unfold fn0 at l
  cases e:m (entry n (g.map fun p=>(p.d,p.f))) with
  | none=>rw [e] at l;exact nsE l
  | some rr =>
   obtain ⟨r,ρ2⟩:=rr
   rw [e] at l
   refine ⟨gOf H (prM mask) ((ps.map (·.v)).map some ++ List.replicate (n - (ps.map (·.v)).length) none) g,fun R ρ=>r=.error R/\ρ = ρ2,rfl,fun R ρ hw=>?_,fun σ' cls da H' hx=>?_,entry n (g.map fun p=>(p.d,p.f)),_,r,ρ2,wf,e,?_⟩
   ·obtain ⟨rfl,_⟩:=hw
    dsimp only at l
    cases w:d5 ρ2 0 (g.map fun p=>(p.d,p.f)) with
    | none=>rw [w] at l;exact nsE l
    | some fs'=>rw [w] at l;cases l;exact ⟨R,rfl⟩
   ·obtain ⟨R,ρ',T',g',w',xa,rfl,rfl⟩:=hx
    dsimp only at l
    cases w:d5 ρ' 0 (g.map fun p=>(p.d,p.f)) with
    | none=>rw [w] at l;exact nsE l
    | some fs' =>
     rw [w] at l
     cases l
     obtain ⟨qs,BX,S,_⟩:=jT (n:=n) F C J h0 w' w
     exact q qs H' cls da (lift BX) S xa
   have fin:∀ {x:It3} {σ':St} {H':Hp} {g':Nat->Option It3} {d:D} {f:Fl},Wf K (gOf H (prM mask) ((ps.map (·.v)).map some ++ List.replicate (n - (ps.map (·.v)).length) none) g) H' σ' ρ2 [x] g'->x.d=d->x.f=f ->
     ((d5 ρ2 0 (g.map fun p=>(p.d,p.f))).map fun fs=>((.ok (d,f),fs):Except D (D × Fl) × List (D × Fl)))=some (o,fs)->Q x.v H':=fun {x σ' H' g' d f} O xd xf l=>by
    cases w:d5 ρ2 0 (g.map fun p=>(p.d,p.f)) with
    | none=>rw [w] at l;exact nsE l
    | some fs' =>
     rw [w] at l
     cases l
     obtain ⟨qs,B,S⟩:=lq (n:=n) F C J h0 O w
     have BX:=lift B.toBehindX
     exact q x qs H' ⟨BX,B.rep,B.own,fun c N=>(B.src c N).imp id (alls c),B.apx⟩ xd xf S
   cases r with
   | error R=>exact ⟨rfl,rfl⟩
   | ok fl =>
    cases fl with
    | nx =>
     intro σ' H' g' O
     obtain ⟨Ts,g2,w2,a2⟩:=O.const .non
     obtain ⟨x,rfl,x1,Z,x3⟩:=a2.val_inv
     have:=fin w2 x1 Z l
     rw [x3] at this
     exact this
    | br=>exact nsE l
    | ct=>exact nsE l
    | rt d f =>
     intro x σ' H' g' O x1 Z
     exact fin O x1 Z l
 ·exact nsE l
theorem nU {n:Nat} {ps:List It3} (h:fnM mask n m (ps.map fun p=>(p.d,p.f))=some r):ps.length=mask.length:=by
 unfold fnM at h
 rw [Dd] at h
 rcases Decidable.em (ps.length=mask.length) with q | q
 ·exact q
 ·rw [if_neg q] at h;exact nsE h
section
variable {P:Program} {w:World} {K:FG} {mg:Str->Option Value} {base:Heap} {x:Str} {st:Stmt} {k:Nat} {N ps:List Str} {mask:List Bool} {m:SM} {nn:Nat}
theorem nt (S:FnScope N ps (af st)) (b:mask.length=ps.length) (a:N.length=nn):mask.length<=nn:=by
 rw [b,<- a]
 have:=congrArg List.length S.pre
 rw [Dv] at this
 omega
theorem i5 (D:Def K mg x st) (S:FnScope N ps (af st)) (g:mask.length=ps.length) (c:N.length=nn) (r:∀ (kV doc pm:Value) (an:Option Addr) (b ct:Value) (us:List Value),us.length=ps.length->bindArgs (PySem.W.fnOf x x (aF st) (au st) (af st) .none kV doc pm an b ct) ⟨us,[]⟩=pure (ps.zip us))
  (body:∀ (b:Value) (A:Around) (outer:List Env) (s:Shared) (H:Hp) (E:XK) (f:Addr) (G:Gm) (W:L3.D->Sto->Prop),Room k (A.deeper (PyProof.Rows.envOfC x (af st) s.heap.objs.size f b))->G.pr=prM mask->Pas (de (CXe P w) P w K mg base N x (af st) f b A outer s H E) G W->Mak (de (CXe P w) P w K mg base N x (af st) f b A outer s H E) G W->RSs (de (CXe P w) P w K mg base N x (af st) f b A outer s H E) G W (au st) m) :
  j6 P w K mg base x (k+1) ps (fnM mask nn m):=by
 refine D.calleeX r fun f fd F=>F.okX S (fun vs H Q E h=>?_) fun b A outer s H vs Q E n h=>?_
 ·obtain ⟨l,o,fs,rfl,_,_,i,_⟩:=h
  rw [Dd,nU i,g]
 ·obtain ⟨l,o,fs,rfl,J,y,i,q⟩:=h
  obtain ⟨G,W,B,_,j,v⟩:=pR (E:=E) (nt S g c) J y q i
  subst c
  refine ⟨_,(body b A outer s H E f G W n B ⟨fun pins σ H1 s1 e s' I hf=>Ay I hf fun cls da H'=>j σ cls da H'⟩ ⟨fun pins σ H1 s1 s' a C vs I he hm h1 h2=>xZ I hm h1 h2 (j σ _ none _ he),fun pins σ H1 s1 a t d C I he z u p=>u8 I z rfl rfl rfl rfl u p (j σ _ _ _ he)⟩).h,v.all⟩
theorem zK (D:Def K mg x st) (S:FnScope N ps (af st)) (c:mask.length=ps.length) (b:N.length=nn) (o:∀ (kV doc pm:Value) (an:Option Addr) (a ct:Value) (us:List Value),us.length=ps.length->bindArgs (PySem.W.fnOf x x (aF st) (au st) (af st) .none kV doc pm an a ct) ⟨us,[]⟩=pure (ps.zip us))
  (body:∀ (a:Value) (A:Around) (outer:List Env) (s:Shared) (H:Hp) (E:XK) (f:Addr) (G:Gm),Room k (A.deeper (PyProof.Rows.envOfC x (af st) s.heap.objs.size f a))->G.pr=prM mask->RSs1 (de CX0 P w K mg base N x (af st) f a A outer s H E).nox G noX (au st) m) :
  a9 P w K mg base x (k+1) ps (fnM mask nn m):=by
 refine D.callee o fun f fd F=>F.ok S (fun vs H Q E h=>?_) fun a A outer s H vs Q E n h=>?_
 ·obtain ⟨i,p,fs,rfl,_,_,d,_⟩:=h
  rw [Dd,nU d,c]
 ·obtain ⟨i,p,fs,rfl,y,u,d,q⟩:=h
  obtain ⟨G,W,v,t,B,ρ,g,r,ρ',l,e,j⟩:=pR (E:=E0) (nt S c b) y u q d
  subst b
  refine ⟨_,(body a A outer s H E f G n v).h,ρ,g,r,ρ',l,e,?_⟩
  cases r with
  | error er=>obtain ⟨_,z⟩:=t _ _ j;cases z
  | ok fl=>cases fl <;> exact j
theorem sK (D:Def K mg x st) (S:FnScope N ps (af st)) (c:mask.length=ps.length) (b:N.length=nn) (e:∀ (kV doc pm:Value) (an:Option Addr) (a ct:Value) (us:List Value),us.length=ps.length->bindArgs (PySem.W.fnOf x x (aF st) (au st) (af st) .none kV doc pm an a ct) ⟨us,[]⟩=pure (ps.zip us))
  (body:∀ (a:Value) (A:Around) (outer:List Env) (s:Shared) (H:Hp) (f:Addr) (G:Gm),RoomN k (A.deeper (PyProof.Rows.envOfC x (af st) s.heap.objs.size f a))->Hd ((de CX0 P w K mg base N x (af st) f a A outer s H E0).loud.wish fun _ _=>False)->G.pr=prM mask->RSs ((de CX0 P w K mg base N x (af st) f a A outer s H E0).loud.wish fun _ _=>False) G noX (au st) m) :
  u6 P w K mg base x (k+1) ps (fnM mask nn m):=by
 refine D.calleeN e fun f fd F=>F.okN S (fun vs H Q E h=>?_) fun a A outer s H vs Q d j h=>?_
 ·obtain ⟨n,p,fs,rfl,_,_,i,_⟩:=h
  rw [Dd,nU i,c]
 ·obtain ⟨G,l,g⟩:=nR (nt S c b) h
  subst b
  exact ⟨_,(body a A outer s H f G d j l).h,g⟩
end
end L3
end
section
namespace L3
open PySem L2
abbrev Cx.tried (X:Cx) (E:Value->Shared->Prop) (pn:List (Addr × Obj)):Cx:={ X with xe:=E,pn:=pn }
section
variable {X:Cx} {pins pins' pn:List (Addr × Obj)} {σ:St} {H H':Hp} {s:Shared} {E:Value->Shared->Prop}
theorem uA (I:Inv X pins σ H s) (E:Value->Shared->Prop):Inv (Cx.tried X E (X.pn ++ pins)) [] σ H s :=
 ⟨⟨I.ok.mod,I.ok.kind,I.ok.glob,I.ok.blt,I.ok.above,I.ok.inj,I.ok.has,I.ok.cab,I.ok.hd,I.ok.frames,I.ok.stk,I.ok.exf,I.ok.bs,I.ok.bsz,I.ok.noex,I.ok.exfs,I.ok.funs,I.ok.frf⟩,I.os,I.bare,I.base,I.loc,I.cell,I.free,I.freeC,(fun p a=>I.pin p (by rw [List.append_nil] at a;exact a)),I.hok,I.len⟩
theorem fX (I:Inv (Cx.tried X E (X.pn ++ pins)) pins' σ H s):Inv X pins σ H s :=
 ⟨⟨I.ok.mod,I.ok.kind,I.ok.glob,I.ok.blt,I.ok.above,I.ok.inj,I.ok.has,I.ok.cab,I.ok.hd,I.ok.frames,I.ok.stk,I.ok.exf,I.ok.bs,I.ok.bsz,I.ok.noex,I.ok.exfs,I.ok.funs,I.ok.frf⟩,I.os,I.bare,I.base,I.loc,I.cell,I.free,I.freeC,(fun p a=>I.pin p (C6 _ a)),I.hok,I.len⟩
end
theorem Ct {X:Cx} {a:Addr} {ob:Obj} {cls:Value} (h:Hd (X.caught a ob cls)):PySem.W.notCls ob=true:=by
 obtain ⟨c,b,u,h1,h2,vs,h3,_⟩:=h
 cases (show some (Value.ref a)=some (Value.ref c) from h1)
 cases (show upd X.H₀ a (dE ob a cls) a=some (.frz b u) from h2).symm.trans aI
 unfold PySem.W.notCls
 rw [h3]
def mW (cs:List String) (i:Nat) (mb mh:SM):SM:=fun ρ=>match mb ρ with
 | some (.error (.exc c fs),ρ1)=>if c ∈ cs then (match mh (ρ1.set i (some (.exc c fs,.z))) with
  | some (.ok (.rt d f),ρ2)=>some (.ok (.rt d f),ρ2)
  | _=>none) else none
 | some (.ok (.rt d f),ρ1)=>some (.ok (.rt d f),ρ1)
 | some (.ok .nx,ρ1)=>some (.ok .nx,ρ1)
 | _=>none
section
variable {X:Cx} {G0:Gm} {W0:D->Sto->Prop} {cs:List String} {i:Nat} {mb mh:SM} {cx n:Str} {CB:Addr} {cp hpos pos:Pos} {b0:Stmt} {body suite:List Stmt}
theorem Bb (R:X.stack=X.env :: X.outer) (O:X.env.frame=some X.env.locals) (hex:X.ex=[]) (hN:X.N.Nodup) (hg:Gl X cx) (hd:(cx == ("__debug__":Str))=false) (hm:X.mg cx=some (.ref CB))
  (G:∀ c ∈ cs,∀ C,XName X.K c C->PySem.W.exmOne X.K (.ref C) (.ref CB)=some true) (hi:X.N[i]?=some n) (hl:X.env.scope.names.lookup n=some .local\/(X.env.scope.names.lookup n=some .cell/\X.fn n=true)) (hp:G0.pr i=false)
  (Z:∀ (E:Value->Shared->Prop) (pn:List (Addr × Obj)) (W:D->Sto->Prop),Pas (Cx.tried X E pn) G0 W->RSs (Cx.tried X E pn) G0 W body mb) (hh:∀ a ob cls,Hd (X.caught a ob cls)->RSs (X.caught a ob cls) G0 noX (b0 :: suite) mh) :
  RS1 X G0 W0 (.Try body [.ExceptHandler (some (.Name cx cp)) (some n) (b0 :: suite) hpos] [] [] pos) (mW cs i mb mh):=by
 refine ⟨fun pins s σ H D I h=>?_⟩
 obtain ⟨ρ,g,r,ρ',w,e,q⟩:=h
 refine wpAny_Try_except ?_
 have L:i < X.N.length:=(De.mp hi).1
 have P:Pas (Cx.tried X (fun e s₁=>wpAny (model X.prog X.w) X.A (noteFrame e X.env) (fun _ s₂=>wpAny (model X.prog X.w) X.A (setFlight e none) (fun _ s₃=>wpAny (model X.prog X.w) X.A (handleBy e X.env [.ExceptHandler (some (.Name cx cp)) (some n) (b0 :: suite) hpos]) (SP X pins D) X.xe s₃) X.xe s₂) X.xe s₁) (X.pn ++ pins)) G0 (fun t ρ1=>mb ρ=some (.error t,ρ1)):=by
  refine ⟨fun pins' σ' H1 s1 e' s' V hf=>?_⟩
  obtain ⟨a,cls,da,H2,rfl,F,t,ρ1,T',g',U,⟨c,C,fs,rfl,rfl,nm,Q⟩,S⟩:=hf
  have J:=fX V
  unfold mW at e
  rw [S] at e
  dsimp only at e
  rcases Decidable.em (c ∈ cs) with B | B
  ·rw [if_pos B] at e
   cases T:mh (ρ1.set i (some (.exc c fs,.z))) with
   | none=>rw [T] at e;exact nsE e
   | some z =>
    obtain ⟨o,ρ2⟩:=z
    rw [T] at e
    cases o with
    | error _=>exact nsE e
    | ok fl =>
     cases fl with
     | nx=>exact nsE e
     | br=>exact nsE e
     | ct=>exact nsE e
     | rt d f =>
      cases e
      have hρ:i < ρ1.length:=by rw [<- U.len,V.len];exact L
      have nw:∀ ob,ob.dict=da->Hd (X.caught a ob (.ref C))->New X.K H2 (upd H2 a (dE ob a (.ref C))) (fun _=>False) ⟨.exc c fs,.ref a,[],.z⟩:=fun ob b k=>⟨bq F.free,.excP nm aI (b ▸ Q.same (bq F.free)) (Ct k),fun _ h=>(by cases h),fun h=>absurd rfl h⟩
      have w2:=fun ob (b:ob.dict=da) (k:Hd (X.caught a ob (.ref C)))=>(U.push (nw ob b k) fun _ h=>h.elim).store (f:=.z) hρ hp (.inr rfl) (by intro h;cases h)
      refine qZ (X:=X) (I:=J) F R O hex hN hg hd hm (G c B C nm) hi hl fun s5 ob b k J5=>?_
      refine wpAny_mono ((hh a ob _ k).h pins s5 _ _ { nx:=fun _ _=>False,rt:=D.rt } J5 (tS.mk (Le.refl _ _ _) (w2 ob b k) T fun x σ3 H3 g3 Y xd xf=>q x σ3 H3 g3 (Y.sub (List.Sublist.cons_cons x (List.nil_sublist _))) xd xf)) (fun f s6 y=>?_) fun _ _ z=>z.elim
      cases f with
      | ret u=>obtain ⟨v,σ6,p,m,M,l⟩:=y;exact ⟨v,u,σ6,p,rfl,m,M,l⟩
      | next=>obtain ⟨_,_,_,z⟩:=y;exact z.elim
      | brk=>obtain ⟨_,_,_,z⟩:=y;exact z.elim
      | cont=>obtain ⟨_,_,_,z⟩:=y;exact z.elim
  ·rw [if_neg B] at e;exact nsE e
 have j:∀ (o:Except L3.D Flw) (ρ1:Sto),mb ρ=some (o,ρ1)->EndS X.K G0 (fun t ρ1=>mb ρ=some (.error t,ρ1)) [] ρ1 { nx:=D.nx,rt:=D.rt } o:=fun o ρ1 em=>by
  unfold mW at e
  rw [em] at e
  cases o with
  | error t=>exact em
  | ok fl =>
   cases fl with
   | nx=>cases e;exact q
   | br=>exact nsE e
   | ct=>exact nsE e
   | rt d f=>cases e;exact q
 cases em:mb ρ with
 | none=>unfold mW at e;rw [em] at e;exact nsE e
 | some z =>
  obtain ⟨o,ρ1⟩:=z
  refine wpAny_mono ((Z _ _ _ P).h [] s σ H { nx:=D.nx,rt:=D.rt } (uA I _) (tS.mk (Le.refl _ _ _) w em (j o ρ1 em))) (fun f s1 h1=>?_) fun _ _ z=>z
  cases f with
  | ret u=>obtain ⟨v,σ6,p,m,M,l⟩:=h1;exact ⟨v,σ6,p,fX m,M,l⟩
  | next=>obtain ⟨σ6,p,m,l⟩:=h1;refine wpAny_of_eq (show execs [] X.env=pure .next from by simp only [execs]) ?_;exact ⟨σ6,p,fX m,l⟩
  | brk=>obtain ⟨_,_,_,z⟩:=h1;exact z.elim
  | cont=>obtain ⟨_,_,_,z⟩:=h1;exact z.elim
end
theorem uU (d:∀ u,RelV t u->u=cv):cI X (.builtin "isinstance") (fun xs H Q=>∃ a c C b ob,xs=[.ref a,t]/\H a=some (dE ob a (.ref C))/\XName X.K c C/\PySem.W.kitOne X.K (.ref C) cv=some b/\Q (.bl b) H):=by
 intro pins s σ H xs us Q I r h
 obtain ⟨a,c,C,b,ob,rfl,i,nm,e,q⟩:=h
 obtain ⟨u,v,rfl,g,j⟩:=jD r
 cases (show u=Value.ref a from g)
 cases d v j
 have f:=(I.hok a _ i).2.1
 exact PySem.W.kia_one (wR (x:=a) nm.ex) I.kIn ⟨f⟩ e (by intro z;cases z) fun tk=>⟨.bl b,H,I.tok _,rfl,q⟩
def ic (cs:List (String × Bool)):D->Option (D × Fl)
 | .exc c _=>(cs.lookup c).map fun b=>(.bl b,.z)
 | _=>none
section
variable {X:Cx} {G0:Gm} {W0:D->Sto->Prop}
theorem rW (g:∀ u,RelV t u->u=cv) (hf:∀ c b,cs.lookup c=some b->∀ C,XName X.K c C->PySem.W.kitOne X.K (.ref C) cv=some b) (j:Gl X "isinstance") (hm:X.mg "isinstance"=none) (m:PE X (.Name tn pT) (tC t)) (o:RE X G0 W0 a ma) (d:starEach [a,.Name tn pT] X.env=(false,eval a X.env) :: starEach [.Name tn pT] X.env) (f:starEach [.Name tn pT] X.env=(false,eval (.Name tn pT) X.env) :: starEach [] X.env) (i:(backTo pos (starEach [.Name tn pT] X.env)).any (·.1)=false):RE X G0 W0 (.Call (.Name "isinstance" p) [a,.Name tn pT] [] pos) (mUn (ic cs) ma) :=
 ⟨PE.imp (kI (uU g) j hm jb (iR o.h (iR m qG f) d) (by decide) (by decide) d i) fun σ H Q h=>by
  have h:=rK (r:=fun x H Q=>∃ a c C b ob,x=.ref a/\H a=some (dE ob a (.ref C))/\XName X.K c C/\PySem.W.kitOne X.K (.ref C) cv=some b/\Q (.bl b) H) (fun a H Q p ra e q=>by
   obtain ⟨da,v,w,s⟩:=a
   have ra:=ra.rep
   dsimp only at ra
   cases da with
   | exc c fs =>
    obtain ⟨rfl,l,C,ob,rfl,nm,n,_,_⟩:=ra.view
    obtain ⟨b,h1,h2⟩:=C5.mp (show (cs.lookup c).map (fun b=>((.bl b,.z):D × Fl))=some p from e)
    subst h2
    exact ⟨l,c,C,b,ob,rfl,n,nm,hf c b h1 C nm,q ⟨.bl b,.bl b,[],.z⟩ H (dI (.bl _)) rfl rfl⟩
   | _=>exact nsE e) h
  refine rL h fun x H1 ⟨a,c,C,b,ob,k,h1,h2,h3,q⟩=>?_
  exact ⟨a,c,C,b,ob,by rw [k],h1,h2,h3,q⟩⟩
end
theorem oj:bootBuiltins "ValueError"=some (.type "ValueError"):=by decide +kernel
def IsX (K:FG) (a:Value) (cs:List (String × Bool)):Prop:=∀ c b,cs.lookup c=some b->∀ C,XName K c C->PySem.W.kitOne K (.ref C) a=some b
def ExX (K:FG) (CB:Addr) (cs:List String):Prop:=∀ c ∈ cs,∀ C,XName K c C->PySem.W.exmOne K (.ref C) (.ref CB)=some true
theorem IsX.nil:IsX K cv []:=fun _ _ h=>nomatch h
theorem IsX.cons {K:FG} {a:Value} {r:String} {C:Addr} {b:Bool} {cs:List (String × Bool)} (n:XName K r C) (h:PySem.W.kitOne K (.ref C) a=some b) (t:IsX K a cs):IsX K a ((r,b) :: cs):=fun c i e g f=>by
 rw [List.lookup_cons] at e
 cases d:c == r with
 | true =>
  rw [d] at e
  cases e
  cases beq_iff_eq.mp d
  rw [f.inj n];exact h
 | false=>rw [d] at e;exact t c i e g f
theorem ExX.nil:ExX K CB []:=fun _ h=>nomatch h
theorem ExX.cons {K:FG} {CB:Addr} {r:String} {C:Addr} {cs:List String} (n:XName K r C) (h:PySem.W.exmOne K (.ref C) (.ref CB)=some true) (t:ExX K CB cs):ExX K CB (r :: cs):=fun c e b a=>by
 rcases C8.mp e with e | e
 ·cases e;rw [a.inj n];exact h
 ·exact t c e b a
end L3
namespace L2
theorem RoomN.units {k:Nat} (r:RoomN k A):A.units+64 < PySem.cLine:=by have:=r.un;omega
end L2
end
section
namespace L3
open PySem L2
end L3
end
section
namespace L3
open PySem L2
mutual
def imm:D->Bool
 | .non=>true
 | .bl _=>true
 | .int _=>true
 | .str _=>true
 | .tup xs=>zE xs
 | _=>false
def zE:List D->Bool
 | []=>true
 | d :: ds=>imm d && zE ds
end
section
variable {X:Cx} {G G0:Gm} {W W0:D->Sto->Prop} {K:FG} {H H':Hp} {σ:St} {ρ ρ':Sto} {d:D} {v:V} {L:List Addr}
theorem Rep.imm (r:Rep K H d v L):imm d=true->L=[]:=by
 refine Rep.rec (motive_1:=fun d _ L _=>L3.imm d=true->L=[]) (motive_2:=fun ds _ L _=>zE ds=true->L=[]) ?_ ?_ ?_ ?_ ?_ ?_ ?_ ?_ ?_ ?_ ?_ ?_ ?_ r
 ·intro _;rfl
 ·intro _ _;rfl
 ·intro _ _;rfl
 ·intro _ _;rfl
 ·intro xs a vs L h _ c e;unfold L3.imm at e;exact c e
 ·intros;rename_i e;unfold L3.imm at e;cases e
 ·intros;rename_i e;unfold L3.imm at e;cases e
 ·intros;rename_i e;unfold L3.imm at e;cases e
 ·intros;rename_i e;unfold L3.imm at e;cases e
 ·intros;rfl
 ·intros;rfl
 ·intro _;rfl
 ·intro d v L ds vs L' _ _ b f e
  unfold zE at e
  obtain ⟨h1,h2⟩:=Bool.and_eq_true_iff.mp e
  rw [b h1,f h2];rfl
theorem Rep.handed {u:Value} (r:Rep K H d v L) (h:RelV v u):PySem.W.handedIn u=true:=by
 cases r <;> first | (cases (show u=_ from h);rfl) | (obtain ⟨_,rfl⟩:=h;rfl)
def gm (c n:String) (ms:M3 (List R3)):SM:=ag ms fun rs=>match rs with
 | [r]=>ag (der r) fun d=>fun ρ=>if imm d=true then some (.error (.exc c [(n,d)]),ρ) else none
 | _=>fun _=>none
theorem tw {c n:String} {C:Addr} {E:Ends} {ms:M3 (List R3)} (nm:XName K c C) (h:tS K G0 W0 (gm c n ms) E σ H):rH (Str.ofString n) (fun σ H1 d=>EX (XA K) K G0 W0 σ (.ref C) (some d) H1) (tA K G0 W0 ms) E σ H:=by
 refine h.use fun G W le ρ T g r ρ' w e q=>?_
 refine tA.seq le w e q.err fun rs ρ1 e1 vs H1 Ts g1 b a1=>?_
 match rs,vs,Ts,a1 with
 | [],_,_,_=>exact nsE e1
 | _ :: _ :: _,_,_,_=>exact nsE e1
 | [r],_,_,.cons (v:=v) (Ts:=Us) ar .nil =>
  dsimp only at e1
  obtain ⟨d,y,a⟩:=aY e1
  obtain ⟨f,p,f1,f2⟩:=ar.item b (fun x l=>C6 _ (by simpa using l)) y
  subst f1 f2
  rcases Decidable.em (imm f.d=true) with hi | hi
  ·rw [if_pos hi] at a
   cases a
   have ra:=(b.itm p).arg.rep
   rw [ra.imm hi] at ra
   refine ⟨_,rfl,fun da od u s t m=>?_⟩
   have sm:Same H1 (upd H1 da (dE od da od.cls)):=bq s
   have j:=b.push (x:=⟨.non,.non,[],.z⟩) (H':=upd H1 da (dE od da od.cls)) (Ks:=fun _=>False) ⟨sm,.non,fun _ h=>(by cases h),fun h=>absurd rfl h⟩ fun _ h=>h.elim
   obtain ⟨ρ5,A,i,o,k⟩:=le.ex _ σ _ _ _ _ j q
   exact ⟨_,ρ5,A,i,o,⟨c,C,[(n,f.d)],rfl,rfl,nm,_,da,od,u,rfl,aI,m,t,ra.same sm⟩,k⟩
  ·rw [if_neg hi] at a;exact nsE a
theorem tW {x:Str} {c n:String} {C:Addr} {np cpos pos:Pos} {e:Expr} {ms:M3 (List R3)} {k:Nat} (nm:XName X.K c C) (cl:ICls X.K X.mg x C (Str.ofString n)) (mk:Mak X G0 W0) (b:Room k X.A) (hex:X.ex=[]) (f:X.calm=true) (i:Gl X x) (hd:(x == ("__debug__":Str))=false) (j:RA X G0 W0 [e] ms) (he:starEach [e] X.env=[(false,eval e X.env)]) :
  RS X G0 W0 (.Raise (some (.Call (.Name x np) [e] [] cpos)) none pos) (gm c n ms) :=
 ⟨PS.imp (tZ cl f b i hd j.h _ (fun pins σ H s a t d I q g h1 h2=>mk.madeV pins σ H s a t d C I q g h1 h2) he hex) fun _ _ _ h=>tw nm h⟩
def om (cs:List String) (n:String):D->Option (D × Fl)
 | .exc c [(m,x)]=>if c ∈ cs/\m=n then some (x,.z) else none
 | _=>none
def AtX (K:FG) (n:String) (cs:List String):Prop:=∀ c ∈ cs,∀ C,XName K c C->PySem.W.hasDictIn K C=true/\PySem.W.findIn K (.ref C) (Str.ofString n)=some none
def tXF (K:FG) (n:String) (ta:TE):TE:=tUn (fun x H Q=>∃ a C c ob d od u v,x=.ref a/\H a=some (dE ob a (.ref C))/\XName K c C/\PySem.W.hasDictIn K C=true/\PySem.W.findIn K (.ref C) (Str.ofString n)=some none/\ob.dict=some d/\H d=some (dE od d od.cls)/\PySem.W.lookIn (Str.ofString n) od=some (some u)/\RelV v u/\PySem.W.notCls ob=true/\PySem.W.handedIn u=true/\Q v H) ta
theorem wa {cs:List String} {n:String} {a:Expr} {pos:Pos} {ma:EM} (hf:AtX X.K n cs) (N:RE X G0 W0 a ma) (t:attributeBase a (Str.ofString n) X.env (eval a X.env)=eval a X.env):RE X G0 W0 (.Attribute a (Str.ofString n) pos) (mUn (om cs n) ma):=by
 have A:PE X (.Attribute a (Str.ofString n) pos) (tXF X.K n (tE X.K G0 W0 ma)):=by
  intro pins s σ H Q I h
  refine z6 t (thn (N.h pins s σ H _ I h) fun r s1 h1=>?_)
  obtain ⟨x,H1,g,G,b,C,c,ob,d,od,u,v,rfl,e1,nm,J,B,y,M,D,E,L,w,q⟩:=h1
  obtain rfl:r=Value.ref b:=G
  have j:=(g.hok b _ e1).1
  have k:=(g.hok d _ M).1
  obtain ⟨S,i,l⟩:=(g.hok b _ e1).2.1
  rw [j] at i
  cases i
  have ins:PySem.W.InstAt s1.heap b ob C (some od):=⟨j,l,L,by rw [y];exact k⟩
  exact xN nm.ex g.kIn ins (PySem.W.findObj_own J B rfl D) w ⟨v,H1,g.tok _,E,q⟩
 exact ⟨PE.imp A fun σ H Q h=>rK (fun a H Q p ra e q=>by
  obtain ⟨da,P,R,O⟩:=a
  have ra:=ra.rep
  dsimp only at ra
  cases da with
  | exc c fs =>
   obtain ⟨rfl,b,C,ob,rfl,nm,j,o,F⟩:=ra.view
   match fs,o with
   | [(m,x)],⟨v,d,od,u,h1,h2,h3,h4,h5⟩ =>
    have e:(if c ∈ cs/\m=n then some (x,.z) else none)=some p:=e
    rcases Decidable.em (c ∈ cs/\m=n) with f | f
    ·rw [if_pos f] at e
     cases e
     obtain ⟨f,rfl⟩:=f
     obtain ⟨f1,f2⟩:=hf c f C nm
     exact ⟨b,C,c,ob,d,od,u,v,rfl,j,nm,f1,f2,h1,h2,h3,h4,F (by simp),h5.handed h4,q ⟨x,v,[],.z⟩ H (dI h5) rfl rfl⟩
    ·rw [if_neg f] at e;exact nsE e
  | _=>exact nsE e) h⟩
end
end L3
end
section
namespace L3
open PySem L2
structure RIL (X:Cx) (G0:Gm) (W0:D->Sto->Prop) (tg iter:Expr) (m:IM):Prop where
 h:PIL X tg iter (tI X.K G0 W0 m)
section
variable {X:Cx} {G0:Gm} {W0:D->Sto->Prop}
theorem vT {tg a:Expr} {p pos:Pos} {ms:M3 (List R3)} (c:Gl X "range") (hm:X.mg "range"=none) (d:RA X G0 W0 [a] ms) (b:starEach [a] X.env=[(false,eval a X.env)]):RIL X G0 W0 tg (.Call (.Name "range" p) [a] [] pos) (aZ bM ms):=⟨PIL.imp (qF c hm d.h b) fun _ _ _ h=>rJ h⟩
theorem vX {elt tg iter:Expr} {ifs:List Expr} {scope:Scope} {pos:Pos} {im:IM} {bnd:D->Sto->Option Sto} {d:M3 Bool} {em:EM} (NY:List Str) (ix:List (Option Nat)) (g:Hd X) (hi:RIL X G0 W0 tg iter im)
  (e:∀ s H C fp,Hd (am X NY scope s H C fp)->PTs (am X NY scope s H C fp) ifs (tT X.K (aV ix) noX d)) (he:∀ s H C fp,Hd (am X NY scope s H C fp)->RE (am X NY scope s H C fp) (aV ix) noX elt em)
  (j:dF scope X.N X.env.scope NY ix=true) (b:Inj ix) (i:∀ x,foldedSetIterable iter X.env x=pure x) (c:∃ a,Bnd X.K (aV ix).pr a bnd/\∀ s H C fp,PG (am X NY scope s H C fp) tg a):RE X G0 W0 (.ListComp elt [⟨tg,iter,ifs,0⟩] scope pos) (bU im bnd d em ix):=by
 obtain ⟨a,b1,b2⟩:=c
 exact ⟨PE.imp (wv NY ix g hi.h b2 e (fun s H C fp f=>(he s H C fp f).h) j i) fun _ _ _ h=>rM szl b b1 h⟩
end
end L3
end
section
namespace L3
open PySem L2
section
variable {K:FG} {h:Heap} {mg:Str->Option Value}
theorem kD (e:gr K n=true):PySem.W.nsIn K mainGlobals n=some (some (.ref (aa K n))):=by
 unfold gr at e
 split at e
 ·rename_i a b;unfold aa;rw [b]
 ·cases e
theorem cO {l:List Str} (X:K.In h) (G:h.Ns mainGlobals mg) (e:l.map (gr K)=l.map fun _=>true) (i:Nat) (hi:l[i]?=some n):mg n=some (.ref (aa K n)):=PySem.W.mg_of X G (kD (kK e i hi))
theorem aP {α:Type} {l r:List α} (e:l=r) (i:Nat) {a b:α} (h:l[i]?=some a) (k:r[i]?=some b):a=b:=by rw [e,k] at h;exact (DJ h).symm
theorem rf {l:List String} (X:K.In h) (G:h.Ns mainGlobals mg) (d:jx K=gw) (e:l.map (fun r:String=>mF K r)=l.map fun _:String=>nW) (i:Nat) (hi:l[i]?=some r):XName K r (aa K r)/\ECls K mg r (aa K r):=by
 have e:=kK e i hi
 unfold mF nW at e
 unfold jx gw at d
 simp only [Prod.mk.injEq] at e d
 obtain ⟨a,e1,j,b,c,k,f,g⟩:=e
 exact ⟨⟨kD a,⟨e1,j,b,c,d.1,d.2,k,f⟩⟩,⟨PySem.W.mg_of X G (kD a),g⟩⟩
end
section
variable {K:FG} {h:Heap} {mg:Str->Option Value}
theorem Cp {r n:String} {q:Str} {st:Stmt} {j p2 k o:Pos} (X:K.In h) (G:h.Ns mainGlobals mg) (d:jx K=gw) (e:sB K r n=nJ q st) (S:FnScope [("self":Str),n] [("self":Str),n] (af st)) (z:(af st).names.lookup ("self":Str)=some .local) (E:(af st).names.lookup (n:Str)=some .local)
  (p:au st=[.Assign [.Attribute (.Name "self" j) n p2] (.Name n k) o]) (hi:∀ (kV doc pm:Value) (an:Option Addr) (i ct x v:Value),bindArgs (PySem.W.fnOf "__init__" q (aF st) (au st) (af st) .none kV doc pm an i ct) ⟨[x,v],[]⟩=pure [(("self":Str),x),((n:Str),v)])
  (w:(n:Str) ≠ ("self":Str)) (D:((n:Str) == ("__debug__":Str))=false):XName K r (aa K r)/\ICls K mg r (aa K r) n/\AtX K n [r]:=by
 unfold sB nJ mF at e
 unfold jx gw at d
 simp only [Prod.mk.injEq] at e d
 obtain ⟨⟨m,e1,F,u,s,I,A,_⟩,B,H,l,b,a⟩:=e
 have N:XName K r (aa K r):=⟨kD m,⟨e1,F,u,s,d.1,d.2,I,A⟩⟩
 refine ⟨N,⟨PySem.W.mg_of X G (kD m),B,⟨H,l,b⟩,?_,w,D⟩,fun c g C y=>?_⟩
 ·unfold Ao at a
  split at a
  ·rename_i f hf
   split at a
   ·rename_i J od fd sl t
    obtain ⟨name,qual,params,body,scope,globals,closure,defaults,kw,doc,pm,an,cd,ct,bi⟩:=fd
    simp only [Option.some.injEq,Prod.mk.injEq] at a
    obtain ⟨rfl,rfl,rfl,rfl,rfl,rfl,rfl,rfl,rfl,rfl,g⟩:=a
    exact ⟨f,st,j,p2,k,o,od,an,sl,_,kw,doc,pm,cd,ct,hf,t,g,S,z,E,p,hi kw doc pm an cd ct⟩
   ·cases a
  ·cases a
 ·cases Dy.mp g
  rw [y.inj N]
  refine ⟨?_,b⟩
  obtain ⟨cd,h1,h2⟩:=PySem.W.any_some l
  unfold PySem.W.hasDictIn
  rw [h1]
  exact (Bool.and_eq_true_iff.mp h2).2
end
end L3
end
section
namespace L3
open PySem L2
section
variable {K:FG} {G G0:Gm} {W W0:D->Sto->Prop} {H H':Hp}
def ntD (n:List Int):D:=.tup (n.map D.int)
theorem qV:∀ n:List Int,cR (n.map D.int)=some n
 | []=>rfl
 | a :: n=>by
  show (cR (n.map D.int)).map _=_
  rw [qV n];rfl
theorem iN:∀ n:List Int,Reps (Rep K H) (n.map D.int) (n.map V.int) []
 | []=>.nil
 | a :: n=>.cons (L:=[]) (.int a) (iN n)
end
end L3
end
section
namespace L3
open PySem L2
end L3
end
section
namespace L3
open PySem L2
section
variable {K:FG} {H H':Hp}
theorem rS:∀ {ns:List (List Int)} {bs:List Addr},bs.length=ns.length->(∀ (i:Nat) (b:Addr) (n:List Int),bs[i]?=some b->ns[i]?=some n->H b=some (.tup (n.map V.int)))->Reps (Rep K H) (ns.map ntD) (bs.map V.ref) []
 | [],[],_,_=>.nil
 | [],_ :: _,h,_=>by cases h
 | _ :: _,[],h,_=>by cases h
 | n :: ns,b :: bs,h,q=>.cons (L:=[]) (.tup (q 0 b n rfl rfl) (iN n)) (rS (by simpa using h) fun i b n e1 a=>q (i+1) b n (by simpa using e1) (by simpa using a))
end
end L3
end
section
namespace L3
open PySem L2
end L3
end
section
namespace L3
open PySem L2
section
variable {K:FG} {H H':Hp}
def jE:List D->Option (List (List Int))
 | []=>some []
 | .tup ys :: ds=>(cR ys).bind fun n=>(jE ds).map (n :: ·)
 | _=>none
theorem oH:∀ {ds:List D} {ns:List (List Int)},jE ds=some ns->ds=ns.map ntD
 | [],ns,h=>by cases h;rfl
 | d :: ds,ns,h=>by
  cases d with
  | tup ys =>
   obtain ⟨n,h1,h2⟩:=Dx.mp (show ((cR ys).bind fun n=>(jE ds).map (n :: ·))=some ns from h)
   obtain ⟨ms,h3,a⟩:=C5.mp h2
   rw [oH h3,<- a,jt h1];rfl
  | _=>exact nsE h
def uz (ns:List (List Int)):Bool:=ns.all (fun n=>!n.isEmpty) || (match ns with | [] :: _=>true | _=>false)
theorem zB (h:uz ns=true):kOk ns:=by
 rcases Bool.or_eq_true_iff.mp h with h | h
 ·refine .inl fun n a z=>?_
  have:=List.all_eq_true.mp h n a
  subst z;simp at this
 ·refine .inr ?_
  cases ns with
  | nil=>cases h
  | cons n ns=>cases n with
   | nil=>rfl
   | cons i n=>cases h
def AY:D->Option (D × Fl)
 | .lst ds=>(jE ds).bind fun ns=>if (uz ns && decide (ns.length<=16777216))=true then (bC ns).bind fun is=>if (decide (is.length<=16777216) && is.all fun i=>decide (i < ns.length))=true then some (.lst (is.map fun i=>ntD (ns.getD i [])),.u) else none else none
 | _=>none
abbrev mR:=c1 AY
theorem l4:∀ {ns:List (List Int)} {vs:List V} {L:List Addr},Reps (Rep K H) (ns.map ntD) vs L->∃ bs:List Addr,vs=bs.map V.ref/\ns.length=bs.length/\∀ (i:Nat) (b:Addr) (n:List Int),bs[i]?=some b->ns[i]?=some n->H b=some (.tup (n.map V.int))
 | [],_,_,.nil=>⟨[],rfl,rfl,fun i b n e=>by simp at e⟩
 | n :: ns,_,_,.cons r rs=>by
  obtain ⟨bs,e1,f,d⟩:=l4 rs
  cases r with
  | @tup _ a vs _ ha hr =>
   have c:vs=n.map V.int:=Reps.ints hr
   subst c e1
   refine ⟨a :: bs,rfl,by simp [f],fun i b m h1 h2=>?_⟩
   cases i with
   | zero=>cases h1;cases h2;exact ha
   | succ i=>exact d i b m (by simpa using h1) (by simpa using h2)
theorem xD:gg K (wb K) mR:=fun ys H Q p ra e q=>by
 obtain ⟨y,rfl,d⟩:=lj e
 clear e
 have e:=d
 clear d
 have l:=(ra y C2).rep
 obtain ⟨da,C,D,A⟩:=y
 dsimp only at l e
 cases da with
 | lst ds =>
  obtain ⟨ns,h1,h2⟩:=Dx.mp (show ((jE ds).bind fun ns=>_)=some p from e)
  by_cases f:(uz ns && decide (ns.length<=16777216))=true
  ·rw [if_pos f] at h2
   obtain ⟨h3,w⟩:=Bool.and_eq_true_iff.mp f
   obtain ⟨is,r,g⟩:=Dx.mp h2
   by_cases hd:(decide (is.length<=16777216) && is.all fun i=>decide (i < ns.length))=true
   ·rw [if_pos hd] at g
    cases g
    obtain ⟨o,m⟩:=Bool.and_eq_true_iff.mp hd
    cases oH h1
    obtain ⟨a,vs,B,rfl,rfl,z,rs⟩:=l.view
    obtain ⟨bs,rfl,x,k⟩:=l4 rs
    refine ⟨a,bs,ns,is,rfl,SqL.of z,x,k,zB h3,r,by rw [sizeLine_eq];exact of_decide_eq_true w,by rw [sizeLine_eq];exact of_decide_eq_true o,fun p v=>?_⟩
    have s:(is.map fun i=>V.ref (bs.getD i 0))=(is.map fun i=>bs.getD i 0).map V.ref:=by rw [DI];rfl
    have h:(is.map fun i=>ntD (ns.getD i []))=(is.map fun i=>ns.getD i []).map ntD:=by rw [DI];rfl
    rw [s]
    refine q ⟨.lst (is.map fun i=>ntD (ns.getD i [])),.ref p,[p],.u⟩ _ (uh v ?_ fun c f=>by cases f) rfl rfl
    rw [h]
    refine rS (by simp) fun i b n e1 d=>?_
    rw [Di] at e1 d
    cases hi:is[i]? with
    | none=>rw [hi] at e1;cases e1
    | some j =>
     rw [hi] at e1 d
     have t:j < ns.length:=of_decide_eq_true (List.all_eq_true.mp m j (Df hi))
     have g1:bs[j]?=some bs[j]:=C9 (by omega)
     have g2:ns[j]?=some ns[j]:=C9 t
     have e1:bs.getD j 0=b:=DJ e1
     have d:ns.getD j []=n:=DJ d
     rw [List.getD,g1] at e1
     rw [List.getD,g2] at d
     subst e1 d
     exact k j _ _ g1 g2
   ·rw [if_neg hd] at g;exact nsE g
  ·rw [if_neg f] at h2;exact nsE h2
 | _=>exact nsE e
end
end L3
end
section
namespace L3
open PySem L2
end L3
end
section
namespace L3
open PySem L2
end L3
end
section
namespace L2
open PySem PySem.Spec PyProof.Rows
variable {cmp:Nat->Nat->Option Bool} {α β:Type}
theorem eA {m:StateT SortSt Sem α} {f:α->StateT SortSt Sem β} {st st1:SortSt} {a:α} (h1:ev cmp (m.run st) none=some ((a,st1),none)) (h2:ev cmp ((f a).run st1) none=r):ev cmp ((m >>= f).run st) none=r:=by
 show ev cmp ((m.run st).bind fun x=>(f x.1).run x.2) none=r
 rw [sL,h1]
 exact h2
theorem zO {f:Nat->β->StateT SortSt Sem (ForInStep β)} {i:Nat} {st st1:SortSt} (h:ev cmp ((f i b).run st) none=some ((.yield b1,st1),none)) (h2:ev cmp ((forIn l b1 f).run st1) none=r):ev cmp ((forIn (i :: l) b f).run st) none=r:=by
 rw [List.forIn_cons]
 exact eA h h2
theorem zQ {f:Nat->β->StateT SortSt Sem (ForInStep β)} {i:Nat} {st st1:SortSt} (h:ev cmp ((f i b).run st) none=some ((.done b1,st1),none)):ev cmp ((forIn (i :: l) b f).run st) none=some ((b1,st1),none):=by
 rw [List.forIn_cons]
 exact eA h rfl
def aJ (l:List Nat) (p:List (Nat × Nat × Nat)) (g:Nat):SortSt:=SortSt.mk' (aX true) ((l.map fun i=>((Value.ref i,Value.ref i):Keyed)).toArray) p.toArray g none
theorem me:∀ L:List Nat,(L.map fun i=>((Value.ref i,Value.ref i):Keyed)).mapM kJ=some L
 | []=>rfl
 | x :: L=>by
  have a:=me L
  rw [Dn,List.mapM_cons,a]
  rfl
theorem oQ {n:Nat} {g:Nat} (h0:ns.length=n) (h:ev (io ns) (sortRuns'.run (aJ (List.range n) [] 7)) none=some (((),aJ L1 p g),none)):bC ns=some L1:=by
 unfold bC
 subst h0
 have e:SortSt.mk' (aX true) (mf ns.length) #[] 7 none=aJ (List.range ns.length) [] 7:=rfl
 rw [e,h]
 show (arrOf (aJ L1 p g)).toList.mapM kJ=some L1
 show ((L1.map fun i=>((Value.ref i,Value.ref i):Keyed)).toArray).toList.mapM kJ=some L1
 rw [List.toList_toArray]
 exact me L1
end L2
end
section
namespace L2
open PySem PySem.Spec PyProof.Rows
variable {cmp:Nat->Nat->Option Bool} {α β:Type}
theorem CC (a b:Nat) (l:List Nat) (p:List (Nat × Nat × Nat)) (g:Nat):ev cmp ((lt' (.ref a,.ref a) (.ref b,.ref b)).run (aJ l p g)) none=(match cmp a b with | some true=>some ((some true,aJ l p g),none) | some false=>some ((some false,aJ l p g),none) | none=>none):=by
 rfl
theorem zN {l:List Nat} {p:List (Nat × Nat × Nat)} {g i j a b:Nat} {c:Bool} (hi:l[i]?=some a) (e:l[j]?=some b) (h:cmp a b=some c):ev cmp ((ltAt' i j).run (aJ l p g)) none=some ((some c,aJ l p g),none):=by
 have e1:elem' (arrOf (aJ l p g)) i=pure (.ref a,.ref a):=by
  rw [elem'_eq]
  have:(arrOf (aJ l p g))[i]?=some (.ref a,.ref a):=by
   show ((l.map fun i=>((Value.ref i,Value.ref i):Keyed)).toArray)[i]?=_
   simp [hi]
  rw [this]
 have f:elem' (arrOf (aJ l p g)) j=pure (.ref b,.ref b):=by
  rw [elem'_eq]
  have:(arrOf (aJ l p g))[j]?=some (.ref b,.ref b):=by
   show ((l.map fun i=>((Value.ref i,Value.ref i):Keyed)).toArray)[j]?=_
   simp [e]
  rw [this]
 have d:=CC (cmp:=cmp) a b l p g
 rw [h] at d
 rw [ltAt'_eq]
 refine eA (a:=aJ l p g) (st1:=aJ l p g) rfl ?_
 dsimp only
 rw [e1]
 refine eA (a:=(.ref a,.ref a)) (st1:=aJ l p g) rfl ?_
 rw [f]
 refine eA (a:=(.ref b,.ref b)) (st1:=aJ l p g) rfl ?_
 rw [d]
 cases c <;> rfl
theorem xq {f:Nat->β->StateT SortSt Sem (ForInStep β)} (I:Nat->β->SortSt->Prop) (D:β->SortSt->Prop):∀ (m a:Nat) (b:β) (st:SortSt),I a b st ->
  (∀ i b st,a<=i->i < a+m->I i b st->(∃ d c,ev cmp ((f i b).run st) none=some ((.yield d,c),none)/\I (i+1) d c)\/∃ d c,ev cmp ((f i b).run st) none=some ((.done d,c),none)/\D d c) ->
  ∃ d c,ev cmp ((forIn (List.range' a m) b f).run st) none=some ((d,c),none)/\(I (a+m) d c\/D d c)
 | 0,a,b,st,h0,_=>⟨b,st,by rw [List.range'_zero,List.forIn_nil];rfl,.inl h0⟩
 | m+1,a,b,st,h0,hs=>by
  rw [List.range'_succ]
  rcases hs a b st (Dj _) (by omega) h0 with ⟨b1,st1,e1,h1⟩ | ⟨b1,st1,e1,h1⟩
  ·obtain ⟨b2,e,g,h2⟩:=xq I D m (a+1) b1 st1 h1 fun i b st x y z=>hs i b st (by omega) (by omega) z
   exact ⟨b2,e,zO e1 g,by rw [show a+(m+1)=a+1+m by omega];exact h2⟩
  ·exact ⟨b1,st1,zQ e1,.inr h1⟩
theorem zP {f:Nat->β->StateT SortSt Sem (ForInStep β)} (I:Nat->β->SortSt->Prop) (D:β->SortSt->Prop) {a n:Nat} {b:β} {st:SortSt} (h0:I a b st)
  (e:∀ i b st,a<=i->i < n->I i b st->(∃ d c,ev cmp ((f i b).run st) none=some ((.yield d,c),none)/\I (i+1) d c)\/∃ d c,ev cmp ((f i b).run st) none=some ((.done d,c),none)/\D d c) :
  ∃ d c,ev cmp ((forIn [a:n] b f).run st) none=some ((d,c),none)/\(I (max a n) d c\/D d c):=by
 rw [Std.Legacy.Range.forIn_eq_forIn_range']
 by_cases h:a<=n
 ·have hz:([a:n]:Std.Legacy.Range).size=n - a:=by simp [Std.Legacy.Range.size]
  rw [show max a n=a+(n - a) by omega]
  have:=xq (cmp:=cmp) (f:=f) I D (n - a) a b st h0 fun i b st x y z=>e i b st x (by omega) z
  simpa [hz] using this
 ·have hz:([a:n]:Std.Legacy.Range).size=0:=by simp [Std.Legacy.Range.size];omega
  rw [show max a n=a by omega]
  refine ⟨b,st,?_,.inl h0⟩
  rw [hz,List.range'_zero,List.forIn_nil]
  rfl
end L2
end
section
namespace L2
open PySem PySem.Spec PyProof.Rows
variable {cmp:Nat->Nat->Option Bool} {α β:Type}
def EvW (cmp:Nat->Nat->Option Bool) (m:StateT SortSt Sem α) (P:α->SortSt->Prop) (st:SortSt):Prop:=∃ a b,ev cmp (m.run st) none=some ((a,b),none)/\P a b
theorem aR {a:α} {P:α->SortSt->Prop} {st:SortSt} (h:P a st):EvW cmp (pure a) P st:=⟨a,st,rfl,h⟩
theorem aE {m:StateT SortSt Sem α} {f:α->StateT SortSt Sem β} {P:β->SortSt->Prop} {st:SortSt} (h:EvW cmp m (fun a d=>EvW cmp (f a) P d) st):EvW cmp (m >>= f) P st:=by
 obtain ⟨a,st1,e1,b,c,e,h⟩:=h
 exact ⟨b,c,eA e1 e,h⟩
theorem xo {m:StateT SortSt Sem α} {P Q:α->SortSt->Prop} {st:SortSt} (h:EvW cmp m P st) (k:∀ a b,P a b->Q a b):EvW cmp m Q st:=by
 obtain ⟨a,st1,e1,h⟩:=h
 exact ⟨a,st1,e1,k _ _ h⟩
theorem fY {l:List Nat} {p:List (Nat × Nat × Nat)} {g i j a b:Nat} {c:Bool} {P:Option Bool->SortSt->Prop} (hi:l[i]?=some a) (d:l[j]?=some b) (e:cmp a b=some c) (h:P (some c) (aJ l p g)):EvW cmp (ltAt' i j) P (aJ l p g):=⟨_,_,zN hi d e,h⟩
theorem pU {r:String} {P:Unit->SortSt->Prop} {st:SortSt} (h:P () st):EvW cmp (liftM (PySem.rule r:Sem Unit):StateT SortSt Sem Unit) P st:=⟨(),st,rfl,h⟩
theorem gv {f:Nat->β->StateT SortSt Sem (ForInStep β)} (I:Nat->β->SortSt->Prop) {P:β->SortSt->Prop} {a n:Nat} {b:β} {st:SortSt} (h0:I a b st)
  (g:∀ i b st,a<=i->i < n->I i b st->EvW cmp (f i b) (fun r c=>match r with | .yield d=>I (i+1) d c | .done d=>P d c) st)
  (he:∀ b st,I (max a n) b st->P b st):EvW cmp (forIn [a:n] b f) P st:=by
 obtain ⟨d,c,e,h⟩:=zP (cmp:=cmp) (f:=f) I P (n:=n) h0 fun i b st x y z=>by
  obtain ⟨r,c,e,h⟩:=g i b st x y z
  cases r with
  | yield d=>exact .inl ⟨d,c,e,h⟩
  | done d=>exact .inr ⟨d,c,e,h⟩
 exact ⟨d,c,e,h.elim (he d c) id⟩
theorem jg {γ δ:Type} (φ:γ->δ) (p q:β->Nat):∀ (l:List β) (xs:Array γ),l.foldl (fun a k=>a.swapIfInBounds (p k) (q k)) (xs.map φ)=(l.foldl (fun a k=>a.swapIfInBounds (p k) (q k)) xs).map φ
 | [],xs=>rfl
 | k :: l,xs=>by
  rw [List.foldl_cons,List.foldl_cons,<- jg φ p q l]
  congr 1
  apply Array.ext_getElem?
  intro i
  rw [Array.getElem?_map]
  by_cases h1:p k < xs.size
  ·by_cases h2:q k < xs.size
   ·rw [getElem?_swapIB (by simpa using h1) (by simpa using h2),getElem?_swapIB h1 h2]
    simp only [Array.getElem?_map]
    repeat' split
    all_goals rfl
   ·rw [Array.swapIfInBounds_def,Array.swapIfInBounds_def,dif_pos (by simpa using h1),dif_neg (by simpa using h2),dif_pos h1,dif_neg h2,Array.getElem?_map]
  ·rw [Array.swapIfInBounds_def,Array.swapIfInBounds_def,dif_neg (by simpa using h1),dif_neg h1,Array.getElem?_map]
abbrev kd (i:Nat):Keyed:=(Value.ref i,Value.ref i)
theorem rC (l:List Nat):(l.map fun i=>((Value.ref i,Value.ref i):Keyed)).toArray=l.toArray.map kd:=by simp
theorem vy {l:List Nat} {p:List (Nat × Nat × Nat)} {g:Nat} {a:Array Nat}:setArr (aJ l p g) (a.map kd)=aJ a.toList p g:=by
 have:(a.toList.map fun i=>((Value.ref i,Value.ref i):Keyed)).toArray=a.map kd:=by rw [rC]
 show SortSt.mk' _ _ _ _ _=SortSt.mk' _ _ _ _ _
 rw [this]
 rfl
theorem xp {l:List Nat} {p:List (Nat × Nat × Nat)} {g i j:Nat} {P:PUnit->SortSt->Prop} (h:P ⟨⟩ (aJ (bubble l.toArray i (i - j)).toList p g)):EvW cmp (moveDown' i j) P (aJ l p g):=by
 refine ⟨⟨⟩,_,?_,h⟩
 rw [moveDown'_eq]
 have e:bubble (arrOf (aJ l p g)) i (i - j)=(bubble l.toArray i (i - j)).map kd:=by
  show bubble ((l.map fun i=>((Value.ref i,Value.ref i):Keyed)).toArray) _ _=_
  rw [rC]
  exact jg kd _ _ _ _
 show some ((PUnit.unit,setArr (aJ l p g) (bubble (arrOf (aJ l p g)) i (i - j))),none)=_
 rw [e,vy]
theorem zM {l:List Nat} {p:List (Nat × Nat × Nat)} {g i j:Nat} {P:PUnit->SortSt->Prop} (h:P ⟨⟩ (aJ (mirror l.toArray i j ((j - i) / 2)).toList p g)):EvW cmp (reverseSlice' i j) P (aJ l p g):=by
 refine ⟨⟨⟩,_,?_,h⟩
 rw [reverseSlice'_eq]
 have e:mirror (arrOf (aJ l p g)) i j ((j - i) / 2)=(mirror l.toArray i j ((j - i) / 2)).map kd:=by
  show mirror ((l.map fun i=>((Value.ref i,Value.ref i):Keyed)).toArray) _ _ _=_
  rw [rC]
  exact jg kd _ _ _ _
 show some ((PUnit.unit,setArr (aJ l p g) (mirror (arrOf (aJ l p g)) i j ((j - i) / 2))),none)=_
 rw [e,vy]
structure Tot (cmp:Nat->Nat->Option Bool) (lt:Nat->Nat->Bool) (n:Nat):Prop where
 is:∀ a b,a < n->b < n->cmp a b=some (lt a b)
 asym:∀ a b,lt a b=true->lt b a=false
 tot:∀ a b,a < n->b < n->a ≠ b->lt a b=false->lt b a=true
 trans:∀ a b c,lt a b=true->lt b c=true->lt a c=true
def gc (lt:Nat->Nat->Bool) (l:List Nat) (m:Nat):Prop:=∀ i j a b:Nat,i < j->j < m->l[i]?=some a->l[j]?=some b->lt a b=true
section
variable {lt:Nat->Nat->Bool} {n:Nat}
theorem gq {l:List Nat} (h:l.Perm (List.range n)):l.length=n/\(∀ i a:Nat,l[i]?=some a->a < n)/\∀ i j a:Nat,l[i]?=some a->l[j]?=some a->i=j:=by
 refine ⟨by rw [h.length_eq,List.length_range],fun i a e=>List.mem_range.mp (h.subset (Df e)),fun i j a e1 b=>?_⟩
 have nd:l.Nodup:=h.nodup_iff.mpr List.nodup_range
 obtain ⟨h1,e1⟩:=De.mp e1
 obtain ⟨h2,b⟩:=De.mp b
 have a1:=nd.idxOf_getElem i h1
 have a2:=nd.idxOf_getElem j h2
 rw [e1] at a1
 rw [b] at a2
 omega
theorem iz {l:List Nat} {i:Nat} (h:i < l.length):∃ a,l[i]?=some a:=⟨_,C9 h⟩
theorem wX (T:Tot cmp lt n) {l:List Nat} {p:List (Nat × Nat × Nat)} {g k lo key:Nat} (r:l.Perm (List.range n)) (o:gc lt l k) (y:k < n) (t:l[k]?=some key) (w:lo<=k) (v:∀ i a:Nat,i < lo->l[i]?=some a->lt a key=true) (x:∀ i a:Nat,lo<=i->i < k->l[i]?=some a->lt key a=true) {Q:ForInStep (Option Bool × Unit)->SortSt->Prop} (h:∀ f,f.Perm (List.range n)->gc lt f (k+1)->Q (.yield (none,())) (aJ f p g)) :
  EvW cmp (do
   moveDown' (0+k) (0+lo)
   pure (ForInStep.yield (none,()))) Q (aJ l p g):=by
 obtain ⟨C,B,li⟩:=gq r
 rw [Dr,Dr]
 refine aE (xp (aR (h _ ?_ ?_)))
 ·have u:(bubble l.toArray k (k - lo)).toList.Perm l:=by
   have:=bubble_perm l.toArray k (k - lo)
   simpa using Array.perm_iff_toList_perm.mp this
  exact u.trans r
 ·have get:∀ q:Nat,(bubble l.toArray k (k - lo)).toList[q]?=if q=lo then l[k]? else if lo < q/\q<=k then l[q - 1]? else l[q]?:=fun q=>by
   have:=getElem?_bubble (xs:=l.toArray) (src:=k) (by simpa using (by omega:k < l.length)) (k - lo) (by omega) q
   rw [show k - (k - lo)=lo by omega] at this
   simpa using this
  intro i j a b m z d c
  rw [get] at d c
  by_cases e:j=lo
  ·rw [if_pos e,t] at c
   cases c
   rw [if_neg (by omega),if_neg (by omega)] at d
   exact v i a (by omega) d
  ·by_cases s:i=lo
   ·rw [if_pos s,t] at d
    cases d
    rw [if_neg e,if_pos (by omega)] at c
    exact x (j - 1) b (by omega) (by omega) c
   ·rw [if_neg s] at d
    rw [if_neg e] at c
    by_cases D:lo < i
    ·rw [if_pos (by omega)] at d c
     exact o (i - 1) (j - 1) a b (by omega) (by omega) d c
    ·rw [if_neg (by omega)] at d
     by_cases A:lo < j
     ·rw [if_pos (by omega)] at c
      exact o i (j - 1) a b (by omega) (by omega) d c
     ·rw [if_neg (by omega)] at c
      exact o i j a b m (by omega) d c
theorem CO (T:Tot cmp lt n) {l:List Nat} {p:List (Nat × Nat × Nat)} {g ok:Nat} (r:l.Perm (List.range n)) (hok:ok<=n) (f:gc lt l ok) {P:Bool->SortSt->Prop} (h:∀ o,o.Perm (List.range n)->gc lt o n->P true (aJ o p g)):EvW cmp (binarySort' 0 n ok) P (aJ l p g):=by
 rw [binarySort'_eq]
 refine aE (gv (fun k c st=>c=(none,⟨⟩)/\∃ l,st=aJ l p g/\l.Perm (List.range n)/\gc lt l k) ⟨rfl,l,rfl,r,?_⟩ ?_ ?_)
 ·intro i j a b w I G F
  by_cases h0:ok=0
  ·omega
  ·exact f i j a b w (by omega) G F
 ·rintro k c st h1 h2 ⟨rfl,l,rfl,r,f⟩
  dsimp only
  obtain ⟨K,E,li⟩:=gq r
  obtain ⟨key,t⟩:=iz (l:=l) (i:=k) (by omega)
  have u:=E k key t
  refine aE (gv (fun x c st=>st=aJ l p g/\∃ lo hi,c=(none,lo,hi)/\lo<=hi/\hi<=k/\hi - lo<=k - x/\(∀ i a:Nat,i < lo->l[i]?=some a->lt a key=true)/\∀ i a:Nat,hi<=i->i < k->l[i]?=some a->lt key a=true) ⟨rfl,0,k,rfl,Nat.zero_le _,Dj _,Dj _,fun i a h=>by omega,fun i a h=>by omega⟩ ?_ ?_)
  ·rintro x c st _ J ⟨rfl,lo,hi,rfl,a1,a2,H,z,A⟩
   dsimp only
   by_cases s:lo ≥ hi
   ·rw [if_pos s]
    refine aR ?_
    exact wX T r f (by omega) t (by omega) z (fun i a h3 d q=>A i a (by omega) d q) fun o B C=>⟨rfl,o,rfl,B,C⟩
   ·rw [if_neg s]
    obtain ⟨m,hm⟩:=iz (l:=l) (i:=(lo+hi) / 2) (by omega)
    have y:=E _ m hm
    refine aE (fY (a:=key) (b:=m) (by rw [Dr];exact t) (by rw [Dr];exact hm) (T.is key m u y) ?_)
    dsimp only
    cases D:lt key m with
    | true =>
     rw [if_pos rfl]
     refine aR ⟨rfl,lo,(lo+hi) / 2,rfl,by omega,by omega,by omega,z,fun i a h3 d q=>?_⟩
     by_cases he:i=(lo+hi) / 2
     ·subst he
      rw [hm] at q
      cases q
      exact D
     ·exact T.trans key m a D (f _ i m a (by omega) d hm q)
    | false =>
     rw [if_neg (by decide)]
     have v:lt m key=true:=T.tot key m u y (fun e=>by subst e;have:=li _ _ _ t hm;omega) D
     refine aR ⟨rfl,(lo+hi) / 2+1,hi,rfl,by omega,by omega,by omega,fun i a h3 d=>?_,A⟩
     by_cases he:i=(lo+hi) / 2
     ·subst he
      rw [hm] at d
      cases d
      exact v
     ·exact T.trans a m key (f i _ a m (by omega) (by omega) d hm) v
  ·rintro c st ⟨rfl,lo,hi,rfl,a1,a2,H,z,A⟩
   dsimp only
   exact wX T r f (by omega) t (by omega) z (fun i a h3 d q=>A i a (by omega) d q) fun o B C=>⟨rfl,o,rfl,B,C⟩
 ·rintro c st ⟨rfl,l,rfl,r,f⟩
  dsimp only
  refine aR (h l r ?_)
  by_cases hm:max ok 1<=n
  ·rwa [show max (max ok 1) n=n by omega] at f
  ·intro i j a b w I G F
   omega
end
end L2
end
section
namespace L2
open PySem PySem.Spec PyProof.Rows
variable {cmp:Nat->Nat->Option Bool} {lt:Nat->Nat->Bool} {n:Nat}
theorem tf (T:Tot cmp lt n) {l:List Nat} (p:l.Perm (List.range n)) {x u v:Nat} (h1:1<=x) (g:gc lt l x) (hu:l[x - 1]?=some u) (k:l[x]?=some v) (h:lt u v=true):gc lt l (x+1):=by
 intro i j a b d o c f
 by_cases e:j=x
 ·subst e
  rw [k] at f
  cases f
  by_cases m:i=j - 1
  ·subst m
   rw [hu] at c
   cases c
   exact h
  ·exact T.trans a u v (g i (j - 1) a u (by omega) (by omega) c hu) h
 ·exact g i j a b d (by omega) c f
theorem xO (T:Tot cmp lt n) {l:List Nat} {p:List (Nat × Nat × Nat)} {g a:Nat} (k:l.Perm (List.range n)) (h1:1<=a) (j:a<=n) (b:gc lt l a) {P:AscSt->SortSt->Prop}
  (h:∀ m,a<=m->m<=n->gc lt l m->(m=n\/∃ u v,l[m - 1]?=some u/\l[m]?=some v/\lt v u=true)->P (none,m) (aJ l p g)):EvW cmp (ascLoop a n) P (aJ l p g):=by
 obtain ⟨q,f,li⟩:=gq k
 unfold ascLoop
 refine gv (fun x c st=>c=(none,x)/\st=aJ l p g/\gc lt l x) ⟨rfl,rfl,b⟩ ?_ ?_
 ·rintro x c st h2 h3 ⟨rfl,rfl,b⟩
  dsimp only
  obtain ⟨v,d⟩:=iz (l:=l) (i:=x) (by omega)
  obtain ⟨u,hu⟩:=iz (l:=l) (i:=x - 1) (by omega)
  refine aE (fY d hu (T.is v u (f _ _ d) (f _ _ hu)) ?_)
  dsimp only
  cases o:lt v u with
  | true =>
   rw [if_pos rfl]
   exact aR (h x h2 (by omega) b (.inr ⟨u,v,hu,d,o⟩))
  | false =>
   rw [if_neg (by decide)]
   refine aR ⟨rfl,rfl,tf T k (by omega) b hu d (T.tot v u (f _ _ d) (f _ _ hu) (fun e=>by subst e;have:=li _ _ _ d hu;omega) o)⟩
 ·rintro c st ⟨rfl,rfl,b⟩
  rw [show max a n=n by omega] at b ⊢
  exact h n j (Dj _) b (.inl rfl)
def CW (lt:Nat->Nat->Bool) (l:List Nat) (m:Nat):Prop:=∀ i j a b:Nat,i < j->j < m->l[i]?=some a->l[j]?=some b->lt b a=true
theorem rG (T:Tot cmp lt n) {l:List Nat} {p:List (Nat × Nat × Nat)} {g m:Nat} (d:l.Perm (List.range n)) (h1:1<=m) (hm:m<=n) (v:CW lt l m) {P:Option Nat->SortSt->Prop}
  (h:∀ c q,c.Perm (List.range n)->1<=q->q<=n->gc lt c q->P (some q) (aJ c p g)):EvW cmp (tail3 m n) P (aJ l p g):=by
 obtain ⟨z,x,li⟩:=gq d
 unfold tail3
 have f:(mirror l.toArray 0 m ((m - 0) / 2)).toList.Perm (List.range n):=by
  have:=mirror_perm l.toArray 0 m ((m - 0) / 2)
  have:(mirror l.toArray 0 m ((m - 0) / 2)).toList.Perm l:=by simpa using Array.perm_iff_toList_perm.mp this
  exact this.trans d
 have get:∀ q:Nat,q < m->(mirror l.toArray 0 m ((m - 0) / 2)).toList[q]?=l[m - 1 - q]?:=fun q y=>by
  have:=getElem?_mirror (xs:=l.toArray) (i:=0) (j:=m) (by simp;omega) ((m - 0) / 2) (by omega) q
  have e:(mirror l.toArray 0 m ((m - 0) / 2)).toList[q]?=(mirror l.toArray 0 m ((m - 0) / 2))[q]?:=by simp
  rw [e,this]
  by_cases k:(0<=q/\q < 0+(m - 0) / 2)\/(m - (m - 0) / 2<=q/\q < m)
  ·rw [if_pos k]
   simp
  ·rw [if_neg k]
   have:q=m - 1 - q:=by omega
   rw [<- this]
   simp
 have hu:gc lt (mirror l.toArray 0 m ((m - 0) / 2)).toList m:=by
  intro i j a b u s r o
  rw [get i (by omega)] at r
  rw [get j s] at o
  exact v (m - 1 - j) (m - 1 - i) b a (by omega) (by omega) o r
 refine aE (zM (aE (xO T f h1 hm hu fun q h3 t w _=>?_)))
 exact aR (h _ q f (by omega) t w)
theorem zS (T:Tot cmp lt n) {l:List Nat} {p:List (Nat × Nat × Nat)} {g u v:Nat} (z:l.Perm (List.range n)) (h2:2<=n) (hu:l[0]?=some u) (D:l[1]?=some v) (hd:lt v u=true) {P:Option Nat->SortSt->Prop}
  (h:∀ w q,w.Perm (List.range n)->1<=q->q<=n->gc lt w q->P (some q) (aJ w p g)):EvW cmp (descPart 1 n) P (aJ l p g):=by
 obtain ⟨F,r,li⟩:=gq z
 unfold descPart
 refine aE (pU (aE ?_))
 have h0:CW lt l 2:=by
  intro i j a b t C f k
  have e1:i=0:=by omega
  have B:j=1:=by omega
  subst e1 B
  rw [hu] at f
  rw [D] at k
  cases f
  cases k
  exact hd
 unfold descLoop
 refine gv (fun x c st=>c=(none,x,0)/\st=aJ l p g/\CW lt l x) ⟨rfl,rfl,h0⟩ ?_ ?_
 ·rintro x c st h3 E ⟨rfl,rfl,s⟩
  dsimp only
  obtain ⟨b,k⟩:=iz (l:=l) (i:=x) (by omega)
  obtain ⟨a,f⟩:=iz (l:=l) (i:=x - 1) (by omega)
  refine aE (fY k f (T.is b a (r _ _ k) (r _ _ f)) ?_)
  dsimp only
  cases A:lt b a with
  | true =>
   rw [if_pos rfl,if_neg (by decide)]
   refine aR ⟨rfl,rfl,fun i j c d t C m o=>?_⟩
   by_cases e:j=x
   ·subst e
    rw [k] at o
    cases o
    by_cases B:i=j - 1
    ·subst B
     rw [f] at m
     cases m
     exact A
    ·exact T.trans b a c A (s i (j - 1) c a (by omega) (by omega) m f)
   ·exact s i j c d t (by omega) m o
  | false =>
   rw [if_neg (by decide)]
   have y:=T.tot b a (r _ _ k) (r _ _ f) (fun e=>by subst e;have:=li _ _ _ k f;omega) A
   refine aE (fY f k (T.is a b (r _ _ f) (r _ _ k)) ?_)
   dsimp only
   rw [y,if_pos rfl]
   refine aR ?_
   dsimp only
   rw [if_neg (by decide)]
   exact rG T z (by omega) (by omega) s h
 ·rintro c st ⟨rfl,rfl,s⟩
  dsimp only
  rw [if_neg (by decide)]
  exact rG T z (by omega) (by omega) s h
theorem CI (T:Tot cmp lt n) {l:List Nat} {p:List (Nat × Nat × Nat)} {g:Nat} (c:l.Perm (List.range n)) (h2:2<=n) {P:Option Nat->SortSt->Prop}
  (h:∀ d q,d.Perm (List.range n)->1<=q->q<=n->gc lt d q->P (some q) (aJ d p g)):EvW cmp (countRun' 0 n) P (aJ l p g):=by
 obtain ⟨z,k,li⟩:=gq c
 rw [countRun0_eq]
 refine aE (xO T c (Dj _) (by omega) (fun i j a b s y=>by omega) fun m h3 o f x=>?_)
 dsimp only
 by_cases e:m=n
 ·rw [if_pos (by simpa using e)]
  exact aR (h l m c h3 o f)
 ·rw [if_neg (by simpa using e)]
  obtain ⟨u,v,hu,r,hd⟩:=x.resolve_left e
  by_cases e1:m > 1
  ·rw [if_pos e1]
   obtain ⟨w,hw⟩:=iz (l:=l) (i:=0) (by omega)
   refine aE (fY hw hu (T.is w u (k _ _ hw) (k _ _ hu)) ?_)
   dsimp only
   rw [f 0 (m - 1) w u (by omega) (by omega) hw hu,if_pos rfl]
   exact aR (h l m c h3 o f)
  ·rw [if_neg e1]
   have t:m=1:=by omega
   subst t
   exact zS T c h2 hu r hd h
theorem nq (n:Nat) (h:n < 64) (h0:0 < n):minRun' n n 0=n:=by
 cases n with
 | zero=>cases h0
 | succ k=>rw [minRun'_succ,if_pos h]
theorem yp (T:Tot cmp lt n) (h2:2<=n) (d:n < 64):EvW cmp sortRuns' (fun _ st=>∃ a,st=aJ a [(0,n,0)] 7/\a.Perm (List.range n)/\gc lt a n) (aJ (List.range n) [] 7):=by
 rw [sortRuns'_eq]
 refine aE ⟨aJ (List.range n) [] 7,aJ (List.range n) [] 7,rfl,?_⟩
 have hz:(arrOf (aJ (List.range n) [] 7)).size=n:=by
  show ((List.range n).map fun i=>((Value.ref i,Value.ref i):Keyed)).toArray.size=n
  simp
 dsimp only
 rw [hz,nq n d (by omega)]
 refine aE (xo (P:=fun c st=>c=(none,n)/\∃ a,st=aJ a [(0,n,0)] 7/\a.Perm (List.range n)/\gc lt a n) (gv (fun x c st=>(x=0/\c=(none,0)/\st=aJ (List.range n) [] 7)\/(1<=x/\c=(none,n)/\∃ a,st=aJ a [(0,n,0)] 7/\a.Perm (List.range n)/\gc lt a n)) (.inl ⟨rfl,rfl,rfl⟩) ?_ ?_) ?_)
 ·rintro x c st h3 m (⟨rfl,rfl,rfl⟩ | ⟨g,rfl,l,rfl,b,hu⟩)
  ·dsimp only
   rw [if_neg (by omega)]
   refine aE (CI T (List.Perm.refl _) h2 fun l q h g o k=>?_)
   dsimp only
   by_cases j:q < n
   ·rw [if_pos j]
    refine aE (pU (aE ?_))
    rw [show min (n - 0) n=n by omega]
    refine CO T h (by omega) k fun a f hu=>?_
    rw [if_neg (by decide)]
    refine aE ⟨aJ a [] 7,aJ a [] 7,rfl,?_⟩
    refine aE ⟨⟨⟩,aJ a [(0,n,0)] 7,rfl,?_⟩
    exact aR (.inr ⟨by omega,by rw [Dr],a,rfl,f,hu⟩)
   ·rw [if_neg j]
    have e:q=n:=by omega
    subst e
    refine aE ⟨aJ l [] 7,aJ l [] 7,rfl,?_⟩
    refine aE ⟨⟨⟩,aJ l [(0,q,0)] 7,rfl,?_⟩
    exact aR (.inr ⟨by omega,by rw [Dr],l,rfl,h,k⟩)
  ·dsimp only
   rw [if_pos (by omega)]
   exact aR ⟨rfl,l,rfl,b,hu⟩
 ·rintro c st (⟨g,rfl,rfl⟩ | ⟨g,rfl,l,rfl,b,hu⟩)
  ·omega
  ·exact ⟨rfl,l,rfl,b,hu⟩
 ·rintro c st ⟨rfl,l,rfl,b,hu⟩
  ·dsimp only
   refine aE (gv (fun x c st=>c=(none,())/\st=aJ l [(0,n,0)] 7) ⟨rfl,rfl⟩ ?_ ?_)
   ·rintro x c st _ _ ⟨rfl,rfl⟩
    refine aE ⟨aJ l [(0,n,0)] 7,aJ l [(0,n,0)] 7,rfl,?_⟩
    dsimp only
    rw [if_pos (show (pendingOf (aJ l [(0,n,0)] 7)).size<=1 from Dj 1)]
    refine aR ?_
    exact aR ⟨l,rfl,b,hu⟩
   ·rintro c st ⟨rfl,rfl⟩
    exact aR ⟨l,rfl,b,hu⟩
end L2
end
section
namespace L2
open PySem PySem.Spec PyProof.Rows
theorem nP {ns:List (List Int)} {i:Nat} (h:i < ns.length):ns[i]?=some (ns.getD i []):=by
 rw [List.getD_eq_getElem?_getD,C9 h]
 rfl
theorem AD {ns:List (List Int)} (nd:∀ i j:Nat,i < ns.length->j < ns.length->ns.getD i []=ns.getD j []->i=j):Tot (io ns) (fun a b=>HT.lexLt (ns.getD a []) (ns.getD b [])) ns.length where
 is a b ha hb:=by
  unfold io
  rw [nP ha,nP hb]
 asym a b h:=by
  cases d:HT.lexLt (ns.getD b []) (ns.getD a []) with
  | false=>rfl
  | true =>
   have:=jq h d
   rw [kT] at this
   cases this
 tot a b ha hb hab h:=by
  cases d:HT.lexLt (ns.getD b []) (ns.getD a []) with
  | true=>rfl
  | false=>exact absurd (nd a b ha hb (sk h d)) hab
 trans a b c h1 h2:=jq h1 h2
theorem kj {ns:List (List Int)} (d:ns.length < 64) (nd:∀ i j:Nat,i < ns.length->j < ns.length->ns.getD i []=ns.getD j []->i=j):∃ is,bC ns=some is/\is.Perm (List.range ns.length)/\∀ i j a b:Nat,i < j->is[i]?=some a->is[j]?=some b->HT.lexLt (ns.getD a []) (ns.getD b [])=true:=by
 by_cases h2:2<=ns.length
 ·obtain ⟨_,st,e,l,rfl,f,hu⟩:=yp (AD nd) h2 d
  refine ⟨l,oQ rfl e,f,fun i j a b c k g=>hu i j a b c ?_ k g⟩
  have:=(De.mp g).1
  rw [f.length_eq,List.length_range] at this
  exact this
 ·match ns,h2 with
  | [],_=>exact ⟨[],ko,.refl _,fun i j a b _ h=>by simp at h⟩
  | [n],_ =>
   refine ⟨[0],km n,.refl _,fun i j a b c h1 h2=>?_⟩
   have:=(De.mp h2).1
   simp at this
   omega
  | _ :: _ :: _,h=>simp at h
end L2
end
section
namespace L3
open PySem L2
end L3
end
section
namespace Bn
open PySem L2 L3
abbrev Pd (p:Int × Int):L3.D:=.tup [.int p.1,.int p.2]
theorem bh {bnd:L3.D->Sto->Option Sto} {b:SM} (P:Nat->Sto->Prop):∀ {ds:List L3.D} {ρ:Sto} {k:Nat},P k ρ->(∀ i d ρ,ds[i]?=some d->P (k+i) ρ->∃ ρ1 ρ2,bnd d ρ=some ρ1/\(b ρ1=some (.ok .nx,ρ2)\/b ρ1=some (.ok .ct,ρ2))/\P (k+i+1) ρ2)->∃ ρ',dJ bnd b ds ρ=some (.ok .nx,ρ')/\P (k+ds.length) ρ'
 | [],ρ,k,h0,_=>⟨ρ,rfl,h0⟩
 | d :: ds,ρ,k,h0,hs=>by
  obtain ⟨ρ1,ρ2,e1,a,h1⟩:=hs 0 d ρ rfl h0
  obtain ⟨ρ',c,h3⟩:=bh P (ds:=ds) (ρ:=ρ2) (k:=k+1) h1 fun i d ρ hd e=>by
   have:=hs (i+1) d ρ (by simpa using hd) (by rwa [show k+(i+1)=k+1+i by omega])
   rwa [show k+(i+1)+1=k+1+i+1 by omega] at this
  refine ⟨ρ',?_,by rw [Du,show k+(ds.length+1)=k+1+ds.length by omega];exact h3⟩
  unfold dJ
  simp only [e1]
  rcases a with a | a <;> simp only [ag,a,c]
theorem nQ {bnd:L3.D->Sto->Option Sto} {b:SM} (P:Nat->Sto->Prop) (E:Nat->L3.D->Fl->Sto->Prop):∀ {ds:List L3.D} {ρ:Sto} {k:Nat},P k ρ ->
  (∀ i d ρ,ds[i]?=some d->P (k+i) ρ->∃ ρ1 ρ2,bnd d ρ=some ρ1/\(((b ρ1=some (.ok .nx,ρ2)\/b ρ1=some (.ok .ct,ρ2))/\P (k+i+1) ρ2)\/∃ r f,b ρ1=some (.ok (.rt r f),ρ2)/\E (k+i) r f ρ2)) ->
  ∃ ρ',(dJ bnd b ds ρ=some (.ok .nx,ρ')/\P (k+ds.length) ρ')\/∃ i r f,i < ds.length/\dJ bnd b ds ρ=some (.ok (.rt r f),ρ')/\E (k+i) r f ρ'
 | [],ρ,k,h0,_=>⟨ρ,.inl ⟨rfl,h0⟩⟩
 | d :: ds,ρ,k,h0,hs=>by
  obtain ⟨ρ1,ρ2,e1,h1⟩:=hs 0 d ρ rfl h0
  rcases h1 with ⟨a,h1⟩ | ⟨r,f,a,h1⟩
  ·obtain ⟨ρ',h3⟩:=nQ P E (ds:=ds) (ρ:=ρ2) (k:=k+1) h1 fun i d ρ hd g=>by
    have:=hs (i+1) d ρ (by simpa using hd) (by rwa [show k+(i+1)=k+1+i by omega])
    rwa [show k+(i+1)=k+1+i by omega] at this
   have e:dJ bnd b (d :: ds) ρ=dJ bnd b ds ρ2:=by
    conv=>lhs;unfold dJ
    simp only [e1]
    rcases a with a | a <;> simp only [ag,a]
   rcases h3 with ⟨c,h3⟩ | ⟨i,r,f,hi,c,h3⟩
   ·exact ⟨ρ',.inl ⟨e.trans c,by rw [Du,show k+(ds.length+1)=k+1+ds.length by omega];exact h3⟩⟩
   ·exact ⟨ρ',.inr ⟨i+1,r,f,by simp;omega,e.trans c,by rw [show k+(i+1)=k+1+i by omega];exact h3⟩⟩
  ·refine ⟨ρ2,.inr ⟨0,r,f,by simp,?_,h1⟩⟩
   unfold dJ
   simp only [e1,ag,a,ba]
theorem bu {lo:Int} {n i:Nat} {d:L3.D} (h:(aT lo n)[i]?=some d):i < n/\d=.int (lo+i):=by
 unfold aT at h
 rw [Di,C5] at h
 obtain ⟨j,h1,rfl⟩:=h
 have h2:=De.mp h1
 obtain ⟨h3,a⟩:=h2
 simp at h3 a
 subst a
 exact ⟨h3,rfl⟩
theorem bL {lo:Int} {n:Nat}:(aT lo n).length=n:=by unfold aT;simp
theorem zT {xs:List L3.D} {m:Nat} (h:m<=xs.length):fZ xs none (some (m:Int))=xs.take m:=by
 have e1:HT.sIx xs.length 0 none=0:=rfl
 have a:HT.sIx xs.length xs.length (some (m:Int))=m:=by
  simp only [HT.sIx]
  split <;> omega
 unfold fZ
 rw [e1,a]
 simp
theorem Small.sub {p q:Pt} (b:Small p) (a:Small q):(-18446744073709551616 < q.1 - p.1/\q.1 - p.1 < 18446744073709551616)/\(-18446744073709551616 < q.2 - p.2/\q.2 - p.2 < 18446744073709551616):=by
 obtain ⟨a1,a2,c,f⟩:=b
 obtain ⟨b1,b2,e,d⟩:=a
 exact ⟨⟨by omega,by omega⟩,⟨by omega,by omega⟩⟩
theorem td {c:M3 Bool} {b:SM} (P:Nat->Sto->Prop) (Q:Sto->Prop) {n:Nat} {ρ:Sto} (h0:P n ρ)
  (k:∀ n ρ,P n ρ->(∃ ρ1,c ρ=some (.ok false,ρ1)/\Q ρ1)\/∃ ρ1 ρ2 m,c ρ=some (.ok true,ρ1)/\(b ρ1=some (.ok .nx,ρ2)\/b ρ1=some (.ok .ct,ρ2))/\m < n/\P m ρ2):∃ ρ',fH c b ρ=some (.ok .nx,ρ')/\Q ρ':=by
 have main:∀ n ρ,P n ρ->∃ ρ',bS c b (n+1) ρ=some (.ok .nx,ρ')/\Q ρ':=by
  intro n
  induction n using Nat.strongRecOn with
  | _ n ih =>
   intro ρ j
   rcases k n ρ j with ⟨ρ1,e1,d⟩ | ⟨ρ1,ρ2,m,e1,a,hm,i⟩
   ·refine ⟨ρ1,?_,d⟩
    unfold bS
    simp [ag,e1,ba]
   ·obtain ⟨ρ',g,d⟩:=ih m hm ρ2 i
    refine ⟨ρ',?_,d⟩
    have f:=jf (show m+1<=n by omega) g
    unfold bS
    rcases a with a | a <;> simp [ag,e1,a,f]
 obtain ⟨ρ',e,d⟩:=main n ρ h0
 refine ⟨ρ',?_,d⟩
 unfold fH
 have h:∃ n r,bS c b n ρ=some r:=⟨_,_,e⟩
 rw [dif_pos h]
 have a:=Classical.choose_spec (Classical.choose_spec h)
 have g:=jf (Nat.le_max_left (n+1) (Classical.choose h)) e
 have f:=jf (Nat.le_max_right (n+1) (Classical.choose h)) a
 rw [g] at f
 exact f.symm
theorem ak {a b:SM} {ρ ρ1:Sto} {r:Option (Except L3.D Flw × Sto)} (h1:a ρ=some (.ok .nx,ρ1)) (h2:b ρ1=r):aD a b ρ=r:=by
 simp only [aD,ag,h1]
 exact h2
theorem eB {bnd:L3.D->Sto->Option Sto} {c:M3 Bool} {elt:EM} (P:Sto->Prop) (g:L3.D->Bool) (f:L3.D->L3.D):∀ {ds:List L3.D} {τ:Sto},P τ ->
  (∀ d ∈ ds,∀ τ,P τ->∃ τ1 τ2,bnd d τ=some τ1/\c τ1=some (.ok (g d),τ2)/\(g d=false->P τ2)/\(g d=true->∃ r τ3 p τ4,elt τ2=some (.ok r,τ3)/\d8 r τ3=some (.ok p,τ4)/\p.1=f d/\P τ4)) ->
  ∃ τ',bX bnd c elt ds τ=some (.ok ((ds.filter g).map f),τ')/\P τ'
 | [],τ,h0,_=>⟨τ,rfl,h0⟩
 | d :: ds,τ,h0,hs=>by
  obtain ⟨τ1,τ2,e1,b,hf,j⟩:=hs d C2 τ h0
  cases a:g d with
  | false =>
   obtain ⟨τ',e,i⟩:=eB P g f (ds:=ds) (τ:=τ2) (hf a) fun d hd=>hs d (C3 _ hd)
   refine ⟨τ',?_,i⟩
   unfold bX
   rw [a] at b
   simp [e1,ag,b,e,List.filter_cons,a]
  | true =>
   obtain ⟨r,τ3,p,τ4,k,l,m,h⟩:=j a
   obtain ⟨τ',e,i⟩:=eB P g f (ds:=ds) (τ:=τ4) h fun d hd=>hs d (C3 _ hd)
   refine ⟨τ',?_,i⟩
   unfold bX
   rw [a] at b
   simp [e1,ag,b,k,l,e,List.filter_cons,a,ba,m]
abbrev Tri:=Nat × Nat × Nat
def iu (i j m:Nat):List Tri:=(List.range m).map fun k=>(i,j,j+1+k)
def fA (n i m:Nat):List Tri:=(List.range m).flatMap fun j=>iu i (i+1+j) (n - (i+1+j+1))
def ly (n m:Nat):List Tri:=(List.range m).flatMap fun i=>fA n i (n - (i+1))
def jV (n:Nat):List Tri:=ly n n
theorem o5 (i j m:Nat):(iu i j m).length=m:=by simp [iu]
theorem lY (n i m:Nat):fA n i (m+1)=fA n i m ++ iu i (i+1+m) (n - (i+1+m+1)):=by simp [fA,List.range_succ,List.flatMap_append]
theorem lZ (n m:Nat):ly n (m+1)=ly n m ++ fA n m (n - (m+1)):=by simp [ly,List.range_succ,List.flatMap_append]
theorem wI {i j m:Nat} {t:Tri} (h:t ∈ iu i j m):t.1=i/\t.2.1=j/\j < t.2.2/\t.2.2 < j+1+m:=by
 obtain ⟨k,a,rfl⟩:=Dh.mp h
 rw [List.mem_range] at a
 exact ⟨rfl,rfl,by show j < j+1+k;omega,by show j+1+k < j+1+m;omega⟩
theorem pE {n:Nat} {t:Tri} (h:t ∈ jV n):t.1 < t.2.1/\t.2.1 < t.2.2/\t.2.2 < n:=by
 obtain ⟨i,hi,h⟩:=DH.mp h
 obtain ⟨j,a,h⟩:=DH.mp h
 rw [List.mem_range] at hi a
 obtain ⟨h1,h2,h3,b⟩:=wI h
 exact ⟨by omega,by omega,by omega⟩
theorem rQ (n i m:Nat):(fA n i m).length<=m * n:=by
 induction m with
 | zero=>simp [fA]
 | succ m ih=>rw [lY,Dt,o5,Nat.succ_mul];omega
theorem yI (n m:Nat):(ly n m).length<=m * (n * n):=by
 induction m with
 | zero=>simp [ly]
 | succ m ih =>
  rw [lZ,Dt,Nat.succ_mul]
  have:=rQ n m (n - (m+1))
  have h2:(n - (m+1)) * n<=n * n:=Nat.mul_le_mul (by omega) (Dj _)
  omega
theorem qx {n m:Nat} (a:n<=25) (hm:m<=25):(ly n m).length<=15625:=by
 have h1:=yI n m
 have h2:n * n<=25 * 25:=Nat.mul_le_mul a a
 have h3:m * (n * n)<=25 * (25 * 25):=Nat.mul_le_mul hm h2
 omega
theorem qw {n i m:Nat} (a:n<=25) (hm:m<=25):(fA n i m).length<=625:=by
 have h1:=rQ n i m
 have h2:m * n<=25 * 25:=Nat.mul_le_mul hm a
 omega
abbrev Td (t:Tri):L3.D:=.tup [.int t.1,.int t.2.1,.int t.2.2]
abbrev Shd (ps:List Pt):L3.D:=.tup (ps.map Pd)
theorem cu {im:IM} {bnd:L3.D->Sto->Option Sto} {c:M3 Bool} {elt:EM} {ix:List (Option Nat)} {ρ ρ1 ρ2 τ:Sto} {rs:List R3} {ds out:List L3.D} (h1:im ρ=some (.ok (rs,ds),ρ1)) (h2:bX bnd c elt ds (p6 ix (aK cG (us ρ1 (pls rs)) ρ1))=some (.ok out,τ)) (h3:ds.length < 16777216) (a:uncap ix τ (aK cG (us ρ1 (pls rs)) ρ1)=some ρ2) :
  bU im bnd c elt ix ρ=some (.ok (.val (.lst out) .u),aK hU (us ρ1 (pls rs)) ρ2):=by
 simp [bU,ag,h1,h2,h3,a]
theorem qf:∀ {ds:List L3.D},(∀ d ∈ ds,d=.bl true)->lp ds=some (List.replicate ds.length true)
 | [],_=>rfl
 | d :: ds,h=>by
  have h1:=h d C2
  subst h1
  have h2:=qf fun d hd=>h d (C3 _ hd)
  simp [lp,h2,List.replicate_succ]
theorem jC {ds:List L3.D} (h:∀ d ∈ ds,d=.bl true):CT (.lst ds)=some (.bl true,.z):=by
 simp [CT,qf h]
theorem sY {xs:List L3.D} {i:Nat} {d:L3.D} (h:xs[i]?=some d):L2.atI xs (i:Int)=some d:=by
 obtain ⟨h1,h2⟩:=De.mp h
 simp [L2.atI,ixN,h1,h2]
theorem eX {ps:List Pt} {i:Nat} {p:Pt} (h:ps[i]?=some p):L2.atI (ps.map Pd) (i:Int)=some (Pd p):=sY (by simp [h])
theorem wY {f:List L3.D->Option (List L3.D)} {ms:M3 (List R3)} {ρ ρ1 ρ2:Sto} {rs:List R3} {ds xs:List L3.D} (h1:ms ρ=some (.ok rs,ρ1)) (h2:eV rs ρ1=some (.ok ds,ρ2)) (h3:f ds=some xs):aZ f ms ρ=some (.ok ([],xs),ρ2):=by
 simp [aZ,ag,h1,h2,h3,bo]
theorem iM {a b:Int} (f:-1000<=a/\a<=1000) (e:-1000<=b/\b<=1000) {n:Nat} (d:(b - a).toNat=n):fM [.int a,.int b]=some (aT a n):=by
 have lm:fv a=true:=Do (by omega)
 have c:fv b=true:=Do (by omega)
 show (if (fv a && fv b)=true then some (aT a (b - a).toNat) else none)=_
 rw [lm,c,d]
 exact if_pos rfl
theorem bQ {b:Int} (d:-1000<=b/\b<=1000) {n:Nat} (c:b.toNat=n):bM [.int b]=some (aT 0 n):=by
 have a:fv b=true:=Do (by omega)
 show (if (fv b)=true then some (aT 0 b.toNat) else none)=_
 rw [a,c]
 exact if_pos rfl
end Bn
end
section
namespace Bn
open PySem L2 L3
section
variable {α:Type} {ρ ρ1 ρ2 ρ3:Sto} {ma mb mc m:EM} {ms:M3 (List R3)} {ra rb r:R3} {rs:List R3} {da db d:L3.D} {ds:List L3.D} {fl:Fl} {i n np:Nat} {sa sb:SM} {c cc:M3 Bool} {b b2:Bool} {x:Option (Except L3.D Flw × Sto)} {y:Option (Except L3.D R3 × Sto)}
theorem aQ {p:L3.D × Fl} (h:(ρ[i]?).join=some p):ad i ρ=some (.ok (.pl i),ρ):=by simp [ad,h]
theorem i_c:mC d ρ=some (.ok (.val d .z),ρ):=rfl
theorem fw {f:L3.D->L3.D->Option (L3.D × Fl)} (h1:ma ρ=some (.ok ra,ρ1)) (h2:mb ρ1=some (.ok rb,ρ2)) (h3:der ra ρ2=some (.ok da,ρ2)) (b:der rb ρ2=some (.ok db,ρ2)) (a:f da db=some (d,fl)):ah f ma mb ρ=some (.ok (.val d fl),ρ2):=by
 simp only [ah,ag,h1,h2,h3,b,bo,a,Dw]
theorem i_un {f:L3.D->Option (L3.D × Fl)} (h1:ma ρ=some (.ok ra,ρ1)) (h3:der ra ρ1=some (.ok da,ρ1)) (a:f da=some (d,fl)):mUn f ma ρ=some (.ok (.val d fl),ρ1):=by
 simp only [mUn,ag,h1,h3,bo,a,Dw]
theorem gu {f:List L3.D->Option (L3.D × Fl)} (h1:ms ρ=some (.ok rs,ρ1)) (h3:eV rs ρ1=some (.ok ds,ρ1)) (a:f ds=some (d,fl)):aC f ms ρ=some (.ok (.val d fl),ρ1):=by
 simp only [aC,ag,h1,h3,bo,a,Dw]
theorem bV:ai ρ=some (.ok [],ρ):=rfl
theorem aL (h1:m ρ=some (.ok r,ρ1)) (h2:ms ρ1=some (.ok rs,ρ2)):ac m ms ρ=some (.ok (r :: rs),ρ2):=by
 simp only [ac,ag,h1,h2,ba]
theorem qY {mk:List L3.D->L3.D} {f:Fl} (h1:ms ρ=some (.ok rs,ρ1)) (h2:gives rs ρ1=some (.ok ds,ρ2)) (h3:ds.length<=16777216):zt mk f ms ρ=some (.ok (.val (mk ds) f),ρ2):=by
 simp only [zt,ag,h1,h2,bo,h3,if_true,Dw]
theorem aA {F:Fn} {ps qs:List (L3.D × Fl)} (a:F ps=some (.ok (d,fl),qs)) (h1:ms ρ=some (.ok rs,ρ1)) (h2:prs (frz (eU rs) ρ1) rs=some ps) (h3:qs.length=ps.length) (b:back rs ps qs (frz (eU rs) ρ1) = ρ2):av F ms ρ=some (.ok (.val d fl),ρ2):=by
 simp only [av,ag,h1,h2,a,h3,if_true,b]
theorem sC {p:L3.D × Fl} (h1:m ρ=some (.ok r,ρ1)) (h2:d8 r ρ1=some (.ok p,ρ2)) (h3:i < ρ2.length) (a:ρ2.set i (some p) = ρ3):bj i m ρ=some (.ok .nx,ρ3):=by
 simp only [bj,ag,h1,h2,h3,if_true,a]
theorem i_asg {bnd:L3.D->Sto->Option Sto} {p:L3.D × Fl} (h1:m ρ=some (.ok r,ρ1)) (h2:d8 r ρ1=some (.ok p,ρ2)) (h3:bnd p.1 ρ2=some ρ3):oY bnd m ρ=some (.ok .nx,ρ3):=by
 simp only [oY,ag,h1,h2,h3,Dw]
theorem nK (h1:m ρ=some (.ok r,ρ1)):fJ m ρ=some (.ok .nx,ρ1):=by
 simp only [fJ,ag,h1,ba]
def retF (np:Nat) (r:R3):SM:=a7 np (ba r)
theorem iY (h1:m ρ=some (.ok r,ρ1)) (h2:retF np r ρ1=x):a7 np m ρ=x:=by
 rw [<- h2]
 unfold retF
 simp only [a7,ag,h1,ba]
theorem mT (h1:sa ρ=some (.ok (.rt d fl),ρ1)):aD sa sb ρ=some (.ok (.rt d fl),ρ1):=by
 simp only [aD,ag,h1,ba]
theorem uC (h1:m ρ=some (.ok r,ρ1)) (h2:der r ρ1=some (.ok (.bl b),ρ1)):cB m ρ=some (.ok b,ρ1):=by
 simp only [cB,ag,h1,h2,bo,asB,Dw]
theorem nM (h1:c ρ=some (.ok b,ρ1)):d6 c ρ=some (.ok (!b),ρ1):=by
 simp only [d6,ag,h1,ba]
theorem jQ (h1:c ρ=some (.ok b,ρ1)) (a:b=true) (h2:sa ρ1=x):sIf c sa sb ρ=x:=by
 subst a;simp only [sIf,ag,h1,if_true];exact h2
theorem bK (h1:c ρ=some (.ok b,ρ1)) (a:b=false) (h2:sb ρ1=x):sIf c sa sb ρ=x:=by
 subst a;simp only [sIf,ag,h1,Dz,if_false];exact h2
theorem pP (h1:c ρ=some (.ok b,ρ1)) (a:b=false) (h2:cc ρ1=some (.ok b2,ρ2)):cOr c cc ρ=some (.ok b2,ρ2):=by
 subst a;simp only [cOr,ag,h1,Dz,if_false];exact h2
theorem kW (h1:c ρ=some (.ok b,ρ1)) (a:b=true) (h2:cc ρ1=some (.ok b2,ρ2)):jA c cc ρ=some (.ok b2,ρ2):=by
 subst a;simp only [jA,ag,h1,if_true];exact h2
theorem nN (h1:c ρ=some (.ok b,ρ1)) (a:b=false):jA c cc ρ=some (.ok false,ρ1):=by
 subst a;simp only [jA,ag,h1,Dz,if_false];rfl
theorem kb (h1:ma ρ=some (.ok r,ρ1)) (h2:der r ρ1=some (.ok (.bl b),ρ1)) (a:b=true) (h3:mb ρ1=y):j0 ma mb ρ=y:=by
 subst a;simp only [j0,ag,h1,h2,bo,asB,Dw,if_true];exact h3
theorem i_sl {f:L3.D->Option Int->Option Int->Option (L3.D × Fl)} {pl pu:M3 (Option Int)} {lo hi:Option Int} (h1:ma ρ=some (.ok ra,ρ1)) (h2:pl ρ1=some (.ok lo,ρ2)) (h3:pu ρ2=some (.ok hi,ρ3)) (b:der ra ρ3=some (.ok da,ρ3)) (a:f da lo hi=some (d,fl)):mSl f ma pl pu ρ=some (.ok (.val d fl),ρ3):=by
 simp only [mSl,ag,h1,h2,h3,b,bo,a,Dw]
theorem zG:pi ρ=some (.ok none,ρ):=rfl
theorem zF {k:Int} (h1:m ρ=some (.ok r,ρ1)) (h2:der r ρ1=some (.ok (.int k),ρ1)):l8 m ρ=some (.ok (some k),ρ1):=by
 simp only [l8,ag,h1,h2,bo,asI,Dw]
theorem i_mut {ok:L3.D->Bool} {f:L3.D->List L3.D->Option (L3.D × L3.D)} {c b a:L3.D} (h0:(ρ[i]?).join=some (d,fl)) (e:ok d=true) (h1:ms ρ=some (.ok rs,ρ1)) (h2:gives rs ρ1=some (.ok ds,ρ2)) (h3:(ρ2[i]?).join=some (c,.u)) (h:f c ds=some (b,a)) (g:ρ2.set i (some (b,.u)) = ρ3):pI ok f i ms ρ=some (.ok (.val a .z),ρ3):=by
 simp only [pI,ag,aQ h0,chk,h0,e,if_true,h1,h2,h3,h,g]
theorem Ap {f:L3.D->List L3.D->Option (L3.D × L3.D)} {b a c:L3.D} (h1:mb ρ=some (.ok rb,ρ1)) (h0:(ρ1[i]?).join=some (d,fl)) (h2:ma ρ1=some (.ok ra,ρ2)) (h3:gives [ra,rb] ρ2=some (.ok ds,ρ3)) (g:(ρ3[i]?).join=some (b,.u)) (e:f b ds=some (a,c)):tO f i ma mb ρ=some (.ok .nx,ρ3.set i (some (a,.u))):=by
 simp only [tO,ag,h1,aQ h0,h2,h3,g,e]
theorem bc {mask:List Bool} {ps qs:List (L3.D × Fl)} (h1:ps.length=mask.length) (h0:entry n (List.zipWith pJ mask ps) = ρ) (h2:sa ρ=some (.ok (.rt d fl),ρ1)) (h3:d5 ρ1 0 (List.zipWith pJ mask ps)=some qs):fnM mask n sa ps=some (.ok (d,fl),qs):=by
 subst h0;simp only [fnM,h1,if_true,fn0,h2,h3,Dw]
theorem CV {mask:List Bool} {ps qs:List (L3.D × Fl)} (h1:ps.length=mask.length) (h0:entry n (List.zipWith pJ mask ps) = ρ) (h2:sa ρ=some (.ok .nx,ρ1)) (h3:d5 ρ1 0 (List.zipWith pJ mask ps)=some qs):fnM mask n sa ps=some (.ok (.non,.z),qs):=by
 subst h0;simp only [fnM,h1,if_true,fn0,h2,h3,Dw]
theorem fO {i j:Int} (h:-18446744073709551616 < i/\i < 18446744073709551616):dY (.int i) (.int j)=some (.int (i * j),.z):=by
 simp [cS,h]
theorem kN {i j:Int} (h:-18446744073709551616 < j/\j < 18446744073709551616):dY (.int i) (.int j)=some (.int (i * j),.z):=by
 simp [cS,h]
theorem bW {im:IM} {bnd:L3.D->Sto->Option Sto} {o:Except L3.D Flw} (h1:im ρ=some (.ok (rs,ds),ρ1)) (a:us ρ1 (pls rs)=[]) (h2:dJ bnd sb ds ρ1=some (o,ρ2)):cN im bnd sb ρ=some (o,ρ2):=by
 have b:∀ f ρ,aK f [] ρ = ρ:=fun _ _=>rfl
 simp only [cN,ag,h1,a,b,h2,Dw]
theorem sD (h1:m ρ=some (.ok r,ρ1)) (h2:der r ρ1=some (.ok d,ρ1)) (h3:Ah d=some ds):dS m ρ=some (.ok ([r],ds),ρ1):=by
 simp only [dS,ag,h1,h2,bo,h3,Dw]
theorem cy {f:List L3.D->Option (List L3.D)} {xs:List L3.D} (h1:ms ρ=some (.ok rs,ρ1)) (h2:eV rs ρ1=some (.ok ds,ρ1)) (h3:f ds=some xs):aZ f ms ρ=some (.ok ([],xs),ρ1):=wY h1 h2 h3
end
theorem f9 {α:Type} {bnd:L3.D->Sto->Option Sto} {c:M3 Bool} {elt:EM} (P:Sto->Prop) (D:α->L3.D) (g:α->Bool) (f:α->L3.D):∀ {xs:List α} {τ:Sto},P τ ->
  (∀ x ∈ xs,∀ τ,P τ->∃ τ1 τ2,bnd (D x) τ=some τ1/\c τ1=some (.ok (g x),τ2)/\(g x=false->P τ2)/\(g x=true->∃ r τ3 p τ4,elt τ2=some (.ok r,τ3)/\d8 r τ3=some (.ok p,τ4)/\p.1=f x/\P τ4)) ->
  ∃ τ',bX bnd c elt (xs.map D) τ=some (.ok ((xs.filter g).map f),τ')/\P τ'
 | [],τ,h0,_=>⟨τ,rfl,h0⟩
 | x :: xs,τ,h0,hs=>by
  obtain ⟨τ1,τ2,e1,b,hf,j⟩:=hs x C2 τ h0
  cases a:g x with
  | false =>
   obtain ⟨τ',e,i⟩:=f9 P D g f (xs:=xs) (τ:=τ2) (hf a) fun d hd=>hs d (C3 _ hd)
   refine ⟨τ',?_,i⟩
   rw [Dn]
   unfold bX
   rw [a] at b
   simp [e1,ag,b,e,List.filter_cons,a]
  | true =>
   obtain ⟨r,τ3,p,τ4,k,l,m,h⟩:=j a
   obtain ⟨τ',e,i⟩:=f9 P D g f (xs:=xs) (τ:=τ4) h fun d hd=>hs d (C3 _ hd)
   refine ⟨τ',?_,i⟩
   rw [Dn]
   unfold bX
   rw [a] at b
   simp [e1,ag,b,k,l,e,List.filter_cons,a,ba,m]
section
variable {α:Type} {P:List α->Prop} {us:List α}
theorem bnd0 (h:us.length=0) (f:P []):P us:=by
 cases us with
 | nil=>exact f
 | cons a us=>cases h
theorem CN {n:Nat} (h:us.length=n+1) (f:∀ a r,r.length=n->P (a :: r)):P us:=by
 cases us with
 | nil=>cases h
 | cons a us=>exact f a us (Nat.succ.inj h)
theorem bnd1 (h:us.length=1) (f:∀ a,P [a]):P us:=CN h fun a _ h=>bnd0 (P:=fun r=>P (a :: r)) h (f a)
theorem bnd2 (h:us.length=2) (f:∀ a b,P [a,b]):P us:=CN h fun a _ h=>bnd1 (P:=fun r=>P (a :: r)) h (f a)
theorem bnd3 (h:us.length=3) (f:∀ a b c,P [a,b,c]):P us:=CN h fun a _ h=>bnd2 (P:=fun r=>P (a :: r)) h (f a)
end
theorem hb1 {x:Str} {st:Stmt} {b:Str} (f:∀ (kV doc pm:Value) (an:Option Addr) (a ct a0:Value),bindArgs (PySem.W.fnOf x x (aF st) (au st) (af st) .none kV doc pm an a ct) ⟨[a0],[]⟩=pure ([b].zip [a0])) (kV doc pm:Value) (an:Option Addr) (a ct:Value) (us:List Value) (c:us.length=[b].length):bindArgs (PySem.W.fnOf x x (aF st) (au st) (af st) .none kV doc pm an a ct) ⟨us,[]⟩=pure ([b].zip us) :=
 bnd1 (P:=fun us=>bindArgs (PySem.W.fnOf x x (aF st) (au st) (af st) .none kV doc pm an a ct) ⟨us,[]⟩=pure ([b].zip us)) c (f kV doc pm an a ct)
theorem hb2 {x:Str} {st:Stmt} {c b:Str} (f:∀ (kV doc pm:Value) (an:Option Addr) (a ct a0 a1:Value),bindArgs (PySem.W.fnOf x x (aF st) (au st) (af st) .none kV doc pm an a ct) ⟨[a0,a1],[]⟩=pure ([c,b].zip [a0,a1])) (kV doc pm:Value) (an:Option Addr) (a ct:Value) (us:List Value) (d:us.length=[c,b].length):bindArgs (PySem.W.fnOf x x (aF st) (au st) (af st) .none kV doc pm an a ct) ⟨us,[]⟩=pure ([c,b].zip us) :=
 bnd2 (P:=fun us=>bindArgs (PySem.W.fnOf x x (aF st) (au st) (af st) .none kV doc pm an a ct) ⟨us,[]⟩=pure ([c,b].zip us)) d (f kV doc pm an a ct)
theorem hb3 {x:Str} {st:Stmt} {c b p2:Str} (f:∀ (kV doc pm:Value) (an:Option Addr) (a ct a0 a1 a2:Value),bindArgs (PySem.W.fnOf x x (aF st) (au st) (af st) .none kV doc pm an a ct) ⟨[a0,a1,a2],[]⟩=pure ([c,b,p2].zip [a0,a1,a2])) (kV doc pm:Value) (an:Option Addr) (a ct:Value) (us:List Value) (d:us.length=[c,b,p2].length):bindArgs (PySem.W.fnOf x x (aF st) (au st) (af st) .none kV doc pm an a ct) ⟨us,[]⟩=pure ([c,b,p2].zip us) :=
 bnd3 (P:=fun us=>bindArgs (PySem.W.fnOf x x (aF st) (au st) (af st) .none kV doc pm an a ct) ⟨us,[]⟩=pure ([c,b,p2].zip us)) d (f kV doc pm an a ct)
end Bn
end
section
namespace L3
open PySem L2
def tgN:Expr->List Str
 | .Name x _=>[x]
 | .Tuple [.Name x _,.Name y _] _ _=>[x,y]
 | .Tuple [.Name x _,.Name y _,.Name z _] _ _=>[x,y,z]
 | _=>[]
def iS (tg:Expr) (N:List Str) (ix:List (Option Nat)):List Str:=tgN tg ++ ix.filterMap fun o=>o.bind fun i=>N[i]?
def ndB:List Str->Bool
 | []=>true
 | x :: xs=>!(xs.any fun y=>decide (y=x)) && ndB xs
theorem pz:∀ {xs:List Str},ndB xs=true->xs.Nodup
 | [],_=>.nil
 | x :: xs,h=>by
  simp only [ndB,Bool.and_eq_true,Bool.not_eq_true',List.any_eq_false,decide_eq_true_eq] at h
  exact List.nodup_cons.mpr ⟨fun m=>h.1 x m rfl,pz h.2⟩
section
variable {X:Cx} {G0:Gm} {W0:D->Sto->Prop} {pos:Pos}
theorem vW (f:X.calm=true) (hi:RI X G0 W0 tg iter im) (d:∀ s H C fp,PTs (am X (iS tg X.N ix) scope s H C fp) ifs (tT X.K (aV ix) noX cm)) (he:∀ s H C fp,RE (am X (iS tg X.N ix) scope s H C fp) (aV ix) noX elt em) (g:dF scope X.N X.env.scope (iS tg X.N ix) ix=true) (b:Inj ix) (e:∀ x,foldedSetIterable iter X.env x=pure x) (c:∃ a,Bnd X.K (aV ix).pr a bnd/\∀ s H C fp,PG (am X (iS tg X.N ix) scope s H C fp) tg a):RE X G0 W0 (.ListComp elt [⟨tg,iter,ifs,0⟩] scope pos) (bU im bnd cm em ix) :=
 yO _ ix f hi d he g b e c
theorem o4 {i:Nat} (j:X.N.Nodup) (g:X.N[i]?=some y) (m:Loc X.env.scope y) (h:X.calm=true) (hi:RI X G0 W0 tg iter im) (e:∀ s H C fp,PTs (am X (iS tg X.N ix) scope s H C fp) ifs (tT X.K (aV ix) noX cm)) (he:∀ s H C fp,RE (am X (iS tg X.N ix) scope s H C fp) (aV ix) noX elt em) (l:dF scope X.N X.env.scope (iS tg X.N ix) ix=true) (c:Inj ix) (b:swapsWith (.ListComp elt [⟨tg,iter,ifs,0⟩] scope pos) (some (.Name y py)) spos.line X.env=pure true) (hf:X.fn y=true\/X.env.scope.names.lookup y=some .local) (k:∀ x,foldedSetIterable iter X.env x=pure x) (f:G0.pr i=false) (d:∃ a,Bnd X.K (aV ix).pr a bnd/\∀ s H C fp,PG (am X (iS tg X.N ix) scope s H C fp) tg a):RS X G0 W0 (.Assign [.Name y py] (.ListComp elt [⟨tg,iter,ifs,0⟩] scope pos) spos) (bj i (bU im bnd cm em ix)) :=
 qv j g m _ ix h hi e he l c b hf k f d
theorem tY (e:Hd X) (hi:RIL X G0 W0 tg iter im) (d:∀ s H C fp,Hd (am X (iS tg X.N ix) scope s H C fp)->PTs (am X (iS tg X.N ix) scope s H C fp) ifs (tT X.K (aV ix) noX cm)) (he:∀ s H C fp,Hd (am X (iS tg X.N ix) scope s H C fp)->RE (am X (iS tg X.N ix) scope s H C fp) (aV ix) noX elt em) (g:dF scope X.N X.env.scope (iS tg X.N ix) ix=true) (b:Inj ix) (f:∀ x,foldedSetIterable iter X.env x=pure x) (c:∃ a,Bnd X.K (aV ix).pr a bnd/\∀ s H C fp,PG (am X (iS tg X.N ix) scope s H C fp) tg a):RE X G0 W0 (.ListComp elt [⟨tg,iter,ifs,0⟩] scope pos) (bU im bnd cm em ix) :=
 vX _ ix e hi d he g b f c
theorem yN (d:Gl X tn) (g:X.mg tn=some (.ref C)) (i:IsX X.K (.ref C) cs) (f:(tn == ("__debug__":Str))=false) (j:Gl X "isinstance") (hm:X.mg "isinstance"=none) (k:RE X G0 W0 a ma) (e:starEach [a,.Name tn pT] X.env=(false,eval a X.env) :: starEach [.Name tn pT] X.env) (b:starEach [.Name tn pT] X.env=(false,eval (.Name tn pT) X.env) :: starEach [] X.env) (c:(backTo pos (starEach [.Name tn pT] X.env)).any (·.1)=false):RE X G0 W0 (.Call (.Name "isinstance" p) [a,.Name tn pT] [] pos) (mUn (ic cs) ma) :=
 rW (t:=V.ref C) (fun _ h=>h) i j hm (sg d g rfl f) k e b c
end
section
variable {X:Cx} {G0:Gm} {W0:D->Sto->Prop} {p q r:Pos} {m:EM} {e e1:Expr} {es:List Expr} {t:M3 Bool} {sm:SM}
theorem gN {i:Nat} (h:RE X G0 W0 (.Name x p) (ad i)):RE X G0 W0 (.Name x p) (ad i):=h
theorem gG (h:RE X G0 W0 (.Name x p) (mC d)):RE X G0 W0 (.Name x p) (mC d):=h
theorem gH (h:RE X G0 W0 (.Name x p) m):RE X G0 W0 (.Name x p) m:=h
theorem gK {k:Nat} (h:RE X G0 W0 (.Constant c k p) m):RE X G0 W0 (.Constant c k p) m:=h
theorem gB (op:Operator) (h:RE X G0 W0 (.BinOp e op e1 p) m):RE X G0 W0 (.BinOp e op e1 p) m:=h
theorem gU (op:UnaryOp) (h:RE X G0 W0 (.UnaryOp op e p) m):RE X G0 W0 (.UnaryOp op e p) m:=h
theorem gP (os:List CmpOp) (h:RE X G0 W0 (.Compare e os es p) m):RE X G0 W0 (.Compare e os es p) m:=h
theorem gO (h:RE X G0 W0 (.BoolOp op es p) m):RE X G0 W0 (.BoolOp op es p) m:=h
theorem gS (h:RE X G0 W0 (.Subscript e e1 p) m):RE X G0 W0 (.Subscript e e1 p) m:=h
theorem gL (h:RE X G0 W0 (.Subscript e (.Slice a b c p) q) m):RE X G0 W0 (.Subscript e (.Slice a b c p) q) m:=h
theorem gI (x:Str) (h:RE X G0 W0 (.Call (.Name s p) [e,.Name x q] [] r) m):RE X G0 W0 (.Call (.Name s p) [e,.Name x q] [] r) m:=h
theorem gC (x:Str) (h:RE X G0 W0 (.Call (.Name x p) es ks q) m):RE X G0 W0 (.Call (.Name x p) es ks q) m:=h
theorem gD (h:RE X G0 W0 (.Call (.Name x p) es ks q) m):RE X G0 W0 (.Call (.Name x p) es ks q) m:=h
theorem gM (x:Str) (h:RE X G0 W0 (.Call (.Attribute e x p) es ks q) m):RE X G0 W0 (.Call (.Attribute e x p) es ks q) m:=h
theorem gE (h:RE X G0 W0 e m):RE X G0 W0 e m:=h
theorem gA (h:RA X G0 W0 es ms):RA X G0 W0 es ms:=h
theorem gQ (os:List CmpOp) (h:RT X G0 W0 (.Compare e os es p) t):RT X G0 W0 (.Compare e os es p) t:=h
theorem gW (h:RT X G0 W0 (.BoolOp op es p) t):RT X G0 W0 (.BoolOp op es p) t:=h
theorem gV (h:RT X G0 W0 (.UnaryOp .Not e p) t):RT X G0 W0 (.UnaryOp .Not e p) t:=h
theorem gT (h:RT X G0 W0 e t):RT X G0 W0 e t:=h
theorem gR (h:RS X G0 W0 (.Return o p) sm):RS X G0 W0 (.Return o p) sm:=h
theorem gF (h:RS X G0 W0 (.If e ss tt p) sm):RS X G0 W0 (.If e ss tt p) sm:=h
theorem gX (h:RS X G0 W0 (.Assign [.Name x p] e q) sm):RS X G0 W0 (.Assign [.Name x p] e q) sm:=h
theorem gZ (h:RS X G0 W0 st sm):RS X G0 W0 st sm:=h
theorem gY (h:RSs X G0 W0 ss sm):RSs X G0 W0 ss sm:=h
end
end L3
end
section
namespace Bn
open PySem L2 L3
local macro_rules | `(tactic| infer_instance)=>`(tactic| first | with_reducible apply aQ | with_reducible exact i_c | with_reducible apply fw | with_reducible apply i_un | with_reducible apply gu | with_reducible exact bV | with_reducible apply aL | with_reducible apply qY | with_reducible apply sC | with_reducible apply i_asg | with_reducible apply nK | with_reducible apply iY | with_reducible exact i_nilS | with_reducible apply uC | with_reducible apply nM | with_reducible apply i_mNot | with_reducible apply i_sl | with_reducible exact zG | with_reducible apply zF | with_reducible apply i_mut | with_reducible apply Ap | with_reducible apply sD | with_reducible apply cy | with_reducible apply kb | with_reducible apply pP)
local macro_rules | `(tactic| eq_refl)=>`(tactic| first | exact rfl | exact Nat.le_of_ble_eq_true rfl)
local macro_rules | `(tactic| nofun) => `(tactic| repeat' (first | infer_instance | eq_refl))
local macro_rules | `(tactic| exists $es,*) => `(tactic| repeat' (first | infer_instance | (first $[| exact $es]*) | eq_refl))
local macro_rules | `(tactic| nomatch [$fs,*]) => `(tactic| repeat' (first | infer_instance | (first $[| with_reducible apply aA $fs]*) | eq_refl))
local macro_rules | `(tactic| nomatch [$fs,*], [$es,*]) => `(tactic| repeat' (first | infer_instance | (first $[| with_reducible apply aA $fs]*) | (first $[| exact $es]*) | eq_refl))
section
variable {X:Cx} {G0:Gm} {W0:L3.D->Sto->Prop} {pos:Pos}
end
section
variable {P:Program} {w:World} {K:FG} {mg:Str->Option Value} {base:Heap}
local macro_rules | `(tactic| ac_rfl) => `(tactic| exact ⟨rfl,rfl,rfl,by decide +kernel,rfl,by decide +kernel,by decide +kernel⟩)
set_option hygiene false
local macro_rules | `(tactic| and_intros)=>`(tactic| repeat' (first
 | ((with_reducible apply gA);first | refine yQ ?_ ?_ rfl | refine Bt)
 | ((with_reducible apply gN);first | refine m4 _ rfl (Or.inl rfl) (by decide) (by decide) | refine m4 _ rfl (Or.inr (Or.inl rfl)) (by decide) (by decide))
 | ((with_reducible apply gG);refine o6 rfl (by assumption) (by decide))
 | ((with_reducible apply gK);first | refine Br | refine re_bl | refine Bk | refine Bp)
 | ((with_reducible apply gL);refine vV ?_ ?_ ?_)
 | ((with_reducible apply gS);refine re_ix (Cn hr.hu) BW ?_ ?_ (fun _ _=>rfl))
 | ((with_reducible apply gB .Add);refine jj zb BZ ?_ ?_)
 | ((with_reducible apply gB .Sub);refine jj BQ zf ?_ ?_)
 | ((with_reducible apply gB .Mult);refine jj BT zi ?_ ?_)
 | ((with_reducible apply gB .Mod);refine jj BU zj ?_ ?_)
 | ((with_reducible apply gB .Pow);refine jj BR zg ?_ ?_)
 | ((with_reducible apply gB .FloorDiv);refine jj wz zm ?_ ?_)
 | ((with_reducible apply gQ [.Eq]);refine fL (wA hr.units) wE ?_ ?_ (dX _))
 | ((with_reducible apply gQ [.NotEq]);refine fL (BS hr.units) BY ?_ ?_ (dX _))
 | ((with_reducible apply gQ [.IsNot]);refine fL za zh ?_ ?_ (dX _))
 | ((with_reducible apply gQ [.Lt]);refine fL si wC ?_ ?_ (dX _))
 | ((with_reducible apply gQ [.LtE,.LtE]);refine vM jJ pk jJ pk ?_ ?_ ?_ (by with_unfolding_all rfl))
 | ((with_reducible apply gQ [.Gt]);refine fL op_gt od_gt ?_ ?_ (dX _))
 | ((with_reducible apply gQ [.GtE]);refine fL op_ge od_ge ?_ ?_ (dX _))
 | ((with_reducible apply gQ [.NotIn]);refine fL ni od_in ?_ ?_ (by with_unfolding_all rfl))
 | ((with_reducible apply gQ [.Is]);refine fL wy wD ?_ ?_ (dX _))
 | ((with_reducible apply gW);refine rt_w ?_)
 | ((with_reducible apply gV);refine Ba ?_)
 | ((with_reducible apply gT);refine A9 ?_ (fun _=>rfl))
 | ((with_reducible apply gP [.Eq]);refine qz (wA hr.units) wE ?_ ?_ (dX _))
 | ((with_reducible apply gP [.LtE,.Lt]);refine o8 jJ pk si wC ?_ ?_ ?_ (fun h1 h2 h3=>ph jJ si h1 h2 h3))
 | ((with_reducible apply gP [.LtE,.LtE]);refine o8 jJ pk jJ pk ?_ ?_ ?_ (fun h1 h2 h3=>ph jJ jJ h1 h2 h3))
 | ((with_reducible apply gP [.Lt]);refine qz si wC ?_ ?_ (dX _))
 | ((with_reducible apply gP [.Is]);refine qz wy wD ?_ ?_ (dX _))
 | ((with_reducible apply gO);first | refine Bs ?_ ?_ | refine Bm ?_)
 | ((with_reducible apply gU .Not);refine Bo ?_)
 | ((with_reducible apply gU .USub);refine re_un AA AB ?_)
 | ((with_reducible apply gI "tuple");refine m5 lc rfl B.isinstance (iQ (v:=V.ty "tuple") rfl B.tuple sX rfl (by decide) (by decide)) ?_ rfl rfl rfl)
 | ((with_reducible apply gI "int");refine m5 nZ rfl B.isinstance (iQ (v:=V.ty "int") rfl B.int b_int rfl (by decide) (by decide)) ?_ rfl rfl rfl)
 | ((with_reducible apply gI "bool");refine m5 lJ rfl B.isinstance (iQ (v:=V.ty "bool") rfl B.bool CQ rfl (by decide) (by decide)) ?_ rfl rfl rfl)
 | ((with_reducible apply gI "list");refine m5 lI rfl B.isinstance (iQ (v:=V.ty "list") rfl B.list xL rfl (by decide) (by decide)) ?_ rfl rfl rfl)
 | ((with_reducible apply gI "ValueError");refine rW (t:=V.ty "ValueError") (fun _ h=>h) T_ValueError rfl B.isinstance (iQ rfl Z_ValueError oj rfl (by decide) (by decide)) ?_ rfl rfl rfl)
 | ((with_reducible apply gC "len");refine ee nY CL rfl B.len b_len ?_ (by decide) (by decide) rfl rfl)
 | ((with_reducible apply gC "isinstance");refine yN rfl (by assumption) (by assumption) (by decide) rfl B.isinstance ?_ rfl rfl rfl)
 | ((with_reducible apply gC "all");refine ee (xF rfl) CM rfl B.all b_all ?_ (by decide) (by decide) rfl rfl)
 | ((with_reducible apply gC "tuple");refine l6 lH CJ rfl B.tuple sX ?_ (by decide) (by decide) rfl rfl)
 | ((with_reducible apply gC "sorted");refine ee (rg (Nat.lt_of_le_of_lt (Nat.add_le_add_left (by decide:2<=64) _) hr.units)) xD rfl B.sorted xK ?_ (by decide) (by decide) rfl rfl)
 | ((with_reducible apply gC "list");refine l6 nX CK rfl B.list xL ?_ (by decide) (by decide) rfl rfl)
 | ((with_reducible apply gC "divmod");refine ee p7 uR rfl B.divmod xM ?_ (by decide) (by decide) rfl rfl)
 | ((with_reducible apply gC "min");refine ee (uS rfl) zU rfl B.min b_min ?_ (by decide) (by decide) rfl rfl)
 | ((with_reducible apply gC "max");refine ee (uT rfl) zV rfl B.max b_max ?_ (by decide) (by decide) rfl rfl)
 | ((with_reducible apply gD);first | refine yP (by assumption) (hr.mono (by first | decide | omega)) ?_ rfl (by decide) rfl rfl | refine vY (by assumption) (hr.mono (by first | decide | omega)) pa ?_ rfl (by decide) rfl rfl | refine vZ (by assumption) (hr.mono (by first | decide | omega)) hD ?_ rfl (by decide) rfl rfl)
 | ((with_reducible apply gM "append");refine rV (ok:=isL) PySem.F.plainAttrs_list PySem.F.slot_list_append PySem.F.type_list_append uj B8 wW (ng rfl (Or.inl rfl) (by decide) (by decide)) ?_ rfl rfl rfl rfl rfl)
 | ((with_reducible apply gM "extend");refine rV (ok:=isL) PySem.F.plainAttrs_list PySem.F.slot_list_extend PySem.F.type_list_extend ui B7 wW (ng rfl (Or.inl rfl) (by decide) (by decide)) ?_ rfl rfl rfl rfl rfl)
 | ((with_reducible apply gH);first | refine m4 _ rfl (Or.inl rfl) (by decide) (by decide) | refine m4 _ rfl (Or.inr (Or.inl rfl)) (by decide) (by decide) | refine o6 rfl (by assumption) (by decide))
 | ((with_reducible apply gE);first | refine Bq ?_ | refine Bj ?_ | refine vW rfl ?_ (fun s H C fp=>?_) (fun s H C fp=>?_) (by rfl) (qX (by decide)) (fun _=>rfl) ⟨_,gb rfl,fun s H C fp=>iP (pz rfl) rfl (Or.inl rfl) (Or.inr rfl)⟩ | refine tY hD ?_ (fun s H C fp hD=>?_) (fun s H C fp hD=>?_) (by rfl) (qX (by decide)) (fun _=>rfl) ⟨_,gb rfl,fun s H C fp=>iP (pz rfl) rfl (Or.inl rfl) (Or.inr rfl)⟩ | refine wa (by assumption) ?_ rfl)
 | ((with_reducible apply gY);first | refine yD ?_ | refine vN ?_ ?_ | refine yE)
 | ((with_reducible apply gR);refine Be _ (fun i hi=>by rw [hp] ;exact yY (by simpa using hi)) ?_)
 | ((with_reducible apply gF);refine rs_if ?_ ?_ ?_)
 | ((with_reducible apply gX);first | refine o4 nd rfl (Or.inl rfl) rfl ?_ (fun s H C fp=>?_) (fun s H C fp=>?_) (by rfl) (qX (by decide)) rfl (Or.inl rfl) (fun _=>rfl) (by rw [hp] ;rfl) ⟨_,sV (jB (gb rfl) (jB (gb rfl) qc)),fun s H C fp=>wr (n:=2) rfl (kH (iP (pz rfl) rfl (Or.inl rfl) (Or.inr rfl)) (kH (iP (pz rfl) rfl (Or.inl rfl) (Or.inr rfl)) sf rfl) rfl) rfl rfl⟩ | refine Bd _ nd rfl (Or.inl rfl) ?_ rfl (Or.inl rfl) (by rw [hp] ;rfl))
 | ((with_reducible apply gZ);first | refine Bf PassesOwn.never rfl ?_ ?_ ?_ (fun _=>rfl) | refine yF ?_ rfl | refine vQ (by assumption) (by assumption) mk rfl rfl (by decide) ?_ rfl | refine Bg ?_ ?_ rfl rfl rfl | refine Bc (yy hr.hu) B6 (ng rfl (Or.inl rfl) (by decide) (by decide)) ?_ ?_ (fun _=>rfl) rfl rfl rfl | refine tW (by assumption) (by assumption) mk hr rfl rfl rfl (by decide) ?_ rfl | refine vP PassesOwn.never ?_ ?_)
 | refine rR _ nd rfl (Or.inl rfl) (Or.inl rfl) (by rw [hp] ;rfl)
 | refine yK rfl B.range ?_ rfl
 | refine vU ?_ ?_ rfl
 | refine Bh ?_
 | refine vS
 | refine rw_or ?_ ?_
 | refine A6 ?_
 | refine yM
 | refine Bi rfl ?_ rfl rfl
 | refine yJ rfl B.range ?_ rfl rfl
 | refine rR _ nd rfl (Or.inr rfl) (Or.inl rfl) (by rw [hp] ;rfl)
 | refine yA ?_
 | refine A7 ?_ ?_
 | refine yH
 | refine yG ?_
 | refine vR ?_
 | refine vT rfl B.range ?_ rfl
 | refine Bb rfl rfl rfl nd rfl (by decide) (by assumption) (by assumption) rfl (.inl rfl) (by rw [hp] ;rfl) (fun E pn W pa=>?_) fun ae ob cls hD=>have hr:=hr.mark (some (.ref ae));?_
 | refine vO ?_))
local macro_rules | `(tactic| specialize $q) => `(tactic| exact bI D $q rfl rfl (by first | exact hb1 fun _ _ _ _ _ _ _=>rfl | exact hb2 fun _ _ _ _ _ _ _ _=>rfl | exact hb3 fun _ _ _ _ _ _ _ _ _=>rfl) fun cdv A outer s H E f G hr hp=>have nd:=($q).nd;by and_intros)
set_option hygiene true
def qO:SM:=(a7 1 (j0 (mUn (lE "int") (ad 0)) (zu (mUn (lE "bool") (ad 0)))))
def bA:Fn:=fnM [false] 1 qO
theorem sc_is_whole:FnScope ["thing"] ["thing"] (af eI):=by ac_rfl
theorem n9 (B:Bl mg) (D:Def K mg "is_whole" eI):a9 P w K mg base "is_whole" 1 ["thing"] bA :=by specialize sc_is_whole
def qQ:SM:=(a7 1 (j0 (mUn (lE "tuple") (ad 0)) (j0 (ah eqX (aC cb (ac (ad 0) ai)) (mC (.int 2))) (j0 (av bA (ac (ah ay (ad 0) (mC (.int 0))) ai)) (av bA (ac (ah ay (ad 0) (mC (.int 1))) ai))))))
def fe:Fn:=fnM [false] 1 qQ
theorem sc_is_point:FnScope ["thing"] ["thing"] (af eK):=by ac_rfl
theorem oh (B:Bl mg) (D:Def K mg "is_point" eK) (a:a9 P w K mg base "is_whole" 1 ["thing"] bA):a9 P w K mg base "is_point" 2 ["thing"] fe :=by specialize sc_is_point
def kS:SM:=(a7 2 (j0 (av bA (ac (ad 0) ai)) (fV leI ltI (mC (.int 0)) (ad 0) (ad 1))))
def ff:Fn:=fnM [false,false] 2 kS
theorem sc_is_place:FnScope ["thing","many"] ["thing","many"] (af eL):=by ac_rfl
theorem oi (B:Bl mg) (D:Def K mg "is_place" eL) (a:a9 P w K mg base "is_whole" 1 ["thing"] bA):a9 P w K mg base "is_place" 2 ["thing","many"] ff :=by specialize sc_is_place
def jZ:SM:=(sIf (d6 (cB (av ff (ac (ad 0) (ac (ad 1) ai))))) (ir "NoPlace" (ac (mC (.str "this is no place of the sheet")) ai)) cn)
def b7:Fn:=fnM [false,false] 2 jZ
theorem sc_check_place:FnScope ["thing","many"] ["thing","many"] (af cV):=by ac_rfl
theorem ja (B:Bl mg) (D:Def K mg "check_place" cV) (b:a9 P w K mg base "is_place" 2 ["thing","many"] ff) {a:Addr} (d:XName K "NoPlace" a) (c:ECls K mg "NoPlace" a):j6 P w K mg base "check_place" 3 ["thing","many"] b7 :=
 i5 (k:=2) D sc_check_place rfl rfl (hb2 fun _ _ _ _ _ _ _ _=>rfl) fun cdv A outer s H E f G W hr hp pa mk =>
  have nd:=sc_check_place.nd;by and_intros
def jX:SM:=(sIf (d6 (cB (av bA (ac (ad 0) ai)))) (ir "NoNumber" (ac (mC (.str "this is no whole number")) ai)) cn)
def b5:Fn:=fnM [false] 1 jX
theorem sc_check_whole:FnScope ["thing"] ["thing"] (af cT):=by ac_rfl
theorem i8 (B:Bl mg) (D:Def K mg "check_whole" cT) (c:a9 P w K mg base "is_whole" 1 ["thing"] bA) {a:Addr} (d:XName K "NoNumber" a) (b:ECls K mg "NoNumber" a):j6 P w K mg base "check_whole" 2 ["thing"] b5 :=
 i5 (k:=1) D sc_check_whole rfl rfl (hb1 fun _ _ _ _ _ _ _=>rfl) fun cdv A outer s H E f G W hr hp pa mk =>
  have nd:=sc_check_whole.nd;by and_intros
def bD:EM:=(av fe (ac (ad 0) ai))
def c6:EM:=(bU (dS (ad 0)) (aq 0) fB bD [none])
def nz:SM:=(a7 1 (j0 (fV leI leI (mC (.int 1)) (aC cb (ac (ad 0) ai)) (mC (.int (24)))) (aC z8 (ac c6 ai))))
def bB:Fn:=fnM [false] 1 nz
theorem sc_are_points:FnScope ["things"] ["things"] (af dh):=by ac_rfl
theorem lh (B:Bl mg) (D:Def K mg "are_points" dh) (c:a9 P w K mg base "is_point" 2 ["thing"] fe) {a:Tok} (b:mg "MOST_POINTS"=some (.int (24) a)):a9 P w K mg base "are_points" 3 ["things"] bB :=by specialize sc_are_points
def cr:EM:=(ah ltI (ah ay (ah ay (ad 1) (ad 0)) (mC (.int 0))) (ah ay (ah ay (ad 1) (ah bP (ad 0) (mC (.int 1)))) (mC (.int 0))))
def dR:EM:=(bU (aZ bM (ac (ah cF (aC cb (ac (ad 0) ai)) (mC (.int 1))) ai)) (aq 0) fB cr [none,some 0])
def fU:SM:=(a7 1 (aC z8 (ac dR ai)))
def bx:Fn:=fnM [false] 1 fU
theorem sc_has_rising_x:FnScope ["points"] ["points"] (af cj):=by ac_rfl
theorem jz (B:Bl mg) (D:Def K mg "has_rising_x" cj):a9 P w K mg base "has_rising_x" 1 ["points"] bx :=by specialize sc_has_rising_x
def B9:SM:=(aD (bj 3 (ah dY (ah cF (ah ay (ad 1) (mC (.int 0))) (ah ay (ad 0) (mC (.int 0)))) (ah cF (ah ay (ad 2) (mC (.int 1))) (ah ay (ad 0) (mC (.int 1)))))) (a7 3 (ah cF (ad 3) (ah dY (ah cF (ah ay (ad 1) (mC (.int 1))) (ah ay (ad 0) (mC (.int 1)))) (ah cF (ah ay (ad 2) (mC (.int 0))) (ah ay (ad 0) (mC (.int 0))))))))
def gf:Fn:=fnM [false,false,false] 4 B9
theorem sc_bend:FnScope ["first","second","third","run"] ["first","second","third"] (af mV):=by ac_rfl
theorem xG (B:Bl mg) (D:Def K mg "bend" mV):a9 P w K mg base "bend" 1 ["first","second","third"] gf :=by specialize sc_bend
def fQ:EM:=(jm (ac (ad 1) (ac (ad 2) (ac (ad 0) ai))))
def jK:EM:=(bU (aZ fM (ac (ah bP (ad 3) (mC (.int 1))) (ac (ad 0) ai))) (aq 0) fB fQ [none,some 2,some 3])
def fR:SM:=(fJ (pI isL xk 1 (ac jK ai)))
def jL:SM:=(cN (aZ fM (ac (ah bP (ad 2) (mC (.int 1))) (ac (ad 0) ai))) (aq 3) fR)
def wJ:SM:=(aD (bj 1 (eR ai)) (aD (cN (aZ bM (ac (ad 0) ai)) (aq 2) jL) (a7 1 (ad 1))))
def ge:Fn:=fnM [false] 4 wJ
theorem sc_threes:FnScope ["many","found","i","j"] ["many"] (af iE):=by ac_rfl
theorem rh (B:Bl mg) (D:Def K mg "threes" iE):a9 P w K mg base "threes" 1 ["many"] ge :=by specialize sc_threes
def bb:EM:=(ah ay (ad 1) (ad 0))
def b9:EM:=(bU (dS (ad 1)) (aq 0) fB bb [none,some 0])
def aO:SM:=(aD (bj 2 (aC qi (ac b9 ai))) (sIf (cB (ah eqX (av gf (ac (ah ay (ad 2) (mC (.int 0))) (ac (ah ay (ad 2) (mC (.int 1))) (ac (ah ay (ad 2) (mC (.int 2))) ai)))) (mC (.int 0)))) (a7 1 (ad 2)) cn))
def jW:SM:=(aD (cN (dS (av ge (ac (aC cb (ac (ad 0) ai)) ai))) (aq 1) aO) (a7 1 (mC .non)))
def a8:Fn:=fnM [false] 3 jW
theorem sc_first_on_line:FnScope ["points","three","found"] ["points"] (af bY):=by ac_rfl
theorem i7 (B:Bl mg) (D:Def K mg "first_on_line" bY) (b:a9 P w K mg base "bend" 1 ["first","second","third"] gf) (a:a9 P w K mg base "threes" 1 ["many"] ge):a9 P w K mg base "first_on_line" 2 ["points"] a8 :=by specialize sc_first_on_line
def qP:SM:=(aD (sIf (cOr (d6 (cB (mUn (lE "tuple") (ad 0)))) (d6 (cB (av bB (ac (ad 0) ai))))) (a7 1 (mC (.bl false))) cn) (a7 1 (j0 (av bx (ac (ad 0) ai)) (ah isN (av a8 (ac (ad 0) ai)) (mC .non)))))
def fc:Fn:=fnM [false] 1 qP
theorem sc_is_sheet:FnScope ["thing"] ["thing"] (af eJ):=by ac_rfl
theorem og (B:Bl mg) (D:Def K mg "is_sheet" eJ) (c:a9 P w K mg base "are_points" 3 ["things"] bB) (a:a9 P w K mg base "first_on_line" 2 ["points"] a8) (b:a9 P w K mg base "has_rising_x" 1 ["points"] bx):a9 P w K mg base "is_sheet" 4 ["thing"] fc :=by specialize sc_is_sheet
def jY:SM:=(sIf (d6 (cB (av fc (ac (ad 0) ai)))) (ir "NoSheet" (ac (mC (.str "this is no sheet")) ai)) cn)
def b6:Fn:=fnM [false] 1 jY
theorem sc_check_sheet:FnScope ["thing"] ["thing"] (af cU):=by ac_rfl
theorem i9 (B:Bl mg) (D:Def K mg "check_sheet" cU) (b:a9 P w K mg base "is_sheet" 4 ["thing"] fc) {a:Addr} (c:XName K "NoSheet" a) (d:ECls K mg "NoSheet" a):j6 P w K mg base "check_sheet" 5 ["thing"] b6 :=
 i5 (k:=4) D sc_check_sheet rfl rfl (hb1 fun _ _ _ _ _ _ _=>rfl) fun cdv A outer s H E f G W hr hp pa mk =>
  have nd:=sc_check_sheet.nd;by and_intros
def eO:SM:=(aD (sIf (cOr (d6 (cB (mUn (lE "list") (ad 0)))) (d6 (cB (av bB (ac (ad 0) ai))))) (ir "NoSheet" (ac (mC (.str "this is no list of 1 to 24 points")) ai)) cn) (aD (bj 1 (aC qi (ac (aC mR (ac (ad 0) ai)) ai))) (aD (sIf (d6 (cB (av bx (ac (ad 1) ai)))) (ir "NoSheet" (ac (mC (.str "two points have one x")) ai)) cn) (aD (bj 2 (av a8 (ac (ad 1) ai))) (aD (sIf (cB (ah uc (ad 2) (mC .non))) (gm "OnLine" "three" (ac (ad 2) ai)) cn) (a7 1 (ad 1)))))))
def cD:Fn:=fnM [false] 3 eO
theorem sc_sheet_of:FnScope ["points","sheet","three"] ["points"] (af eG):=by ac_rfl
theorem lf (B:Bl mg) (D:Def K mg "sheet_of" eG) (e:a9 P w K mg base "are_points" 3 ["things"] bB) (c:a9 P w K mg base "first_on_line" 2 ["points"] a8) (d:a9 P w K mg base "has_rising_x" 1 ["points"] bx) {a:Addr} (g:XName K "NoSheet" a) (h:ECls K mg "NoSheet" a) {b:Addr} (j:XName K "OnLine" b) (i:ICls K mg "OnLine" b (Str.ofString "three")):j6 P w K mg base "sheet_of" 4 ["points"] cD :=
 i5 (k:=3) D sc_sheet_of rfl rfl (hb1 fun _ _ _ _ _ _ _=>rfl) fun cdv A outer s H E f G W hr hp pa mk =>
  have nd:=sc_sheet_of.nd;by and_intros
def iy:SM:=(aD (fJ (fu b6 (ac (ad 0) ai))) (aD (fJ (fu b7 (ac (ad 1) (ac (aC cb (ac (ad 0) ai)) ai)))) (aD (fJ (fu b5 (ac (ad 2) ai))) (aD (bj 3 (aC zv (ac (ad 0) ai))) (aD (tO vD 3 (ad 1) (jm (ac (ah ay (ah ay (ad 0) (ad 1)) (mC (.int 0))) (ac (ah bP (ah ay (ah ay (ad 0) (ad 1)) (mC (.int 1))) (ad 2)) ai)))) (a7 3 (fu cD (ac (ad 3) ai))))))))
def eY:Fn:=fnM [false,false,false] 4 iy
theorem sc_lifted:FnScope ["sheet","place","by","points"] ["sheet","place","by"] (af iF):=by ac_rfl
theorem n4 (B:Bl mg) (D:Def K mg "lifted" iF) (a:j6 P w K mg base "check_place" 3 ["thing","many"] b7) (b:j6 P w K mg base "check_sheet" 5 ["thing"] b6) (c:j6 P w K mg base "check_whole" 2 ["thing"] b5) (d:j6 P w K mg base "sheet_of" 4 ["points"] cD):j6 P w K mg base "lifted" 6 ["sheet","place","by"] eY :=
 i5 (k:=5) D sc_lifted rfl rfl (hb3 fun _ _ _ _ _ _ _ _ _=>rfl) fun cdv A outer s H E f G W hr hp pa mk =>
  have nd:=sc_lifted.nd;by and_intros
def eQ:SM:=(aD (bj 5 (ah kO (ah bP (ah bP (ah dY (ah kO (ad 2) (mC (.int 2147483647))) (mC (.int 48271))) (ah dY (mC (.int 7919)) (ad 4))) (mC (.int 1))) (mC (.int 2147483647)))) (aD (bj 5 (ah kO (ah dY (ad 5) (ad 5)) (mC (.int 2147483629)))) (bj 3 (ah bP (ah dY (ad 3) (mC (.int 2147483647))) (ah kO (ah dY (ad 5) (ah bP (ad 5) (mC (.int 13)))) (mC (.int 2147483647)))))))
def zr:SM:=(aD (bj 2 (ah bP (ah dY (mC (.int 7919)) (ad 1)) (mC (.int 13)))) (aD (sIf (cB (ah ltI (ad 1) (aC cb (ac (ad 0) ai)))) (bj 2 (ah ay (ad 0) (ad 1))) cn) (aD (sIf (cB (ah eqX (ah kO (ad 2) (mC (.int 2))) (mC (.int 0)))) (a7 2 (eR (ac (ah uL (ad 2) (mC (.int 2))) ai))) cn) (aD (bj 3 (mC (.int 0))) (aD (cN (aZ bM (ac (mC (.int 16)) ai)) (aq 4) eQ) (a7 2 (eR (ac (ad 3) ai))))))))
def kg:Fn:=fnM [false,false] 6 zr
theorem sc_l_box:FnScope ["_law_script","_law_k","_law_here","_law_number","_law_j","_law_part"] ["_law_script","_law_k"] (af j7):=by ac_rfl
theorem uW (B:Bl mg) (D:Def K mg "_law_box" j7):a9 P w K mg base "_law_box" 1 ["_law_script","_law_k"] kg :=by specialize sc_l_box
def wL:SM:=(aD (oY (lK 2 (cH (aq 2) (cH (aq 3) lL))) (aC xx (ac (ah ay (ad 0) (mC (.int 0))) (ac (ad 1) ai)))) (aD (tO vD 0 (mC (.int 0)) (ad 2)) (a7 2 (ad 3))))
def aS:Fn:=fnM [false,false] 4 wL
theorem sc_l_take:FnScope ["_law_box_here","_law_many","_law_left","_law_digit"] ["_law_box_here","_law_many"] (af iH):=by ac_rfl
theorem rl (B:Bl mg) (D:Def K mg "_law_take" iH):a9 P w K mg base "_law_take" 1 ["_law_box_here","_law_many"] aS :=by specialize sc_l_take
def um:SM:=(a7 1 (j0 (mUn (lE "int") (ad 0)) (zu (mUn (lE "bool") (ad 0)))))
def gz:Fn:=fnM [false] 1 um
theorem sc_l_whole:FnScope ["_law_thing"] ["_law_thing"] (af gj):=by ac_rfl
theorem p8 (B:Bl mg) (D:Def K mg "_law_whole" gj):a9 P w K mg base "_law_whole" 1 ["_law_thing"] gz :=by specialize sc_l_whole
def wN:SM:=(aD (bj 3 (ah dY (ah cF (ah ay (ad 1) (mC (.int 0))) (ah ay (ad 0) (mC (.int 0)))) (ah cF (ah ay (ad 2) (mC (.int 1))) (ah ay (ad 0) (mC (.int 1)))))) (a7 3 (ah cF (ad 3) (ah dY (ah cF (ah ay (ad 1) (mC (.int 1))) (ah ay (ad 0) (mC (.int 1)))) (ah cF (ah ay (ad 2) (mC (.int 0))) (ah ay (ad 0) (mC (.int 0))))))))
def bE:Fn:=fnM [false,false,false] 4 wN
theorem sc_l_bend:FnScope ["_law_one","_law_two","_law_three_here","_law_across"] ["_law_one","_law_two","_law_three_here"] (af iL):=by ac_rfl
theorem rz (B:Bl mg) (D:Def K mg "_law_bend" iL):a9 P w K mg base "_law_bend" 1 ["_law_one","_law_two","_law_three_here"] bE :=by specialize sc_l_bend
def dQ:SM:=(sIf (cB (ah eqX (av bE (ac (ah ay (ad 0) (ad 3)) (ac (ah ay (ad 0) (ad 2)) (ac (ad 1) ai)))) (mC (.int 0)))) (a7 2 (mC (.bl false))) cn)
def bN:SM:=(cN (aZ bM (ac (ad 2) ai)) (aq 3) dQ)
def pH:SM:=(aD (cN (aZ bM (ac (aC cb (ac (ad 0) ai)) ai)) (aq 2) bN) (a7 2 (mC (.bl true))))
def je:Fn:=fnM [false,false] 4 pH
theorem sc_l_free:FnScope ["_law_found","_law_point","_law_k","_law_j"] ["_law_found","_law_point"] (af iK):=by ac_rfl
theorem rq (B:Bl mg) (D:Def K mg "_law_free" iK) (a:a9 P w K mg base "_law_bend" 1 ["_law_one","_law_two","_law_three_here"] bE):a9 P w K mg base "_law_free" 2 ["_law_found","_law_point"] je :=by specialize sc_l_free
def cq:M3 Bool:=(d6 (cB (av je (ac (ad 5) (ac (jm (ac (ad 4) (ac (ad 8) ai))) ai)))))
def du:SM:=(bj 8 (ah bP (ad 8) (mC (.int 1))))
def dq:SM:=(aD (bj 4 (ah bP (ah bP (ad 4) (mC (.int 1))) (av aS (ac (ad 0) (ac (mC (.int 3)) ai))))) (aD (bj 7 (ah ay (eR (ac (ah dY (ad 4) (ad 4)) (ac (ah cF (mC (.int 0)) (ah dY (ad 4) (ad 4))) ai))) (ah kO (ad 6) (mC (.int 2))))) (aD (bj 8 (ah ay (eR (ac (av aS (ac (ad 0) (ac (mC (.int 40)) ai))) (ac (ah dY (ad 4) (ad 4)) (ac (ah cF (mC (.int 9)) (ah dY (ad 4) (ad 4))) (ac (ad 7) (ac (av aS (ac (ad 0) (ac (mC (.int 6)) ai))) ai)))))) (ad 3))) (aD (fH cq du) (fJ (pI isL rD 5 (ac (jm (ac (ad 4) (ac (ad 8) ai))) ai)))))))
def eP:EM:=(jm (ac (ah dY (ad 0) (ah kG (mC (.int 10)) (mC (.int 12)))) (ac (ah bP (ah dY (ad 1) (ah kG (mC (.int 10)) (mC (.int 15)))) (mC (.int 7))) ai)))
def dn:EM:=(bU (dS (ad 5)) (lK 2 (cH (aq 0) (cH (aq 1) lL))) fB eP [none,none])
def mj:SM:=(aD (bj 2 (ah bP (mC (.int 1)) (av aS (ac (ad 0) (ac (ad 1) ai))))) (aD (bj 3 (av aS (ac (ad 0) (ac (mC (.int 5)) ai)))) (aD (bj 4 (ah cF (mC (.int 0)) (av aS (ac (ad 0) (ac (mC (.int 9)) ai))))) (aD (bj 5 (eR ai)) (aD (cN (aZ bM (ac (ad 2) ai)) (aq 6) dq) (aD (sIf (cB (ah eqX (av aS (ac (ad 0) (ac (mC (.int 6)) ai))) (mC (.int 5)))) (bj 5 dn) cn) (a7 2 (aC qi (ac (ad 5) ai)))))))))
def hJ:Fn:=fnM [false,false] 9 mj
theorem sc_l_sheet:FnScope ["_law_box_here","_law_most","_law_many","_law_kind","_law_x","_law_found","_law_k","_law_bent","_law_y"] ["_law_box_here","_law_most"] (af gl):=by ac_rfl
theorem qa (B:Bl mg) (D:Def K mg "_law_sheet" gl) (b:a9 P w K mg base "_law_free" 2 ["_law_found","_law_point"] je) (a:a9 P w K mg base "_law_take" 1 ["_law_box_here","_law_many"] aS):a9 P w K mg base "_law_sheet" 3 ["_law_box_here","_law_most"] hJ :=by specialize sc_l_sheet
def fk:EM:=(av gz (ac (ad 0) ai))
def fi:EM:=(bU (dS (ad 1)) (aq 0) fB fk [none])
def ft:SM:=(sIf (cOr (d6 (cB (mUn (lE "tuple") (ad 1)))) (cOr (cB (ah neX (aC cb (ac (ad 1) ai)) (mC (.int 2)))) (d6 (cB (aC z8 (ac fi ai)))))) (a7 1 (mC (.bl false))) cn)
def fm:M3 Bool:=(cB (ah eqX (av bE (ac (ah ay (ad 1) (ad 0)) (ac (ah ay (ad 1) (ad 2)) (ac (ah ay (ad 1) (ad 3)) ai)))) (mC (.int 0))))
def fj:EM:=(ad 0)
def fh:EM:=(bU (aZ bM (ac (ad 3) ai)) (aq 0) fm fj [none,some 0,some 3,some 2])
def c5:SM:=(sIf (cB (ah neX fh (eR ai))) (a7 1 (mC (.bl false))) cn)
def fq:SM:=(aD (sIf (jA (cB (ah gtI (ad 2) (mC (.int 0)))) (cB (ah geI (ah ay (ah ay (ad 0) (ah cF (ad 2) (mC (.int 1)))) (mC (.int 0))) (ah ay (ah ay (ad 0) (ad 2)) (mC (.int 0)))))) (a7 1 (mC (.bl false))) cn) (cN (aZ bM (ac (ad 2) ai)) (aq 3) c5))
def nv:SM:=(aD (sIf (cOr (d6 (cB (mUn (lE "tuple") (ad 0)))) (d6 (cB (fV leI leI (mC (.int 1)) (aC cb (ac (ad 0) ai)) (mC (.int 24)))))) (a7 1 (mC (.bl false))) cn) (aD (cN (dS (ad 0)) (aq 1) ft) (aD (cN (aZ bM (ac (aC cb (ac (ad 0) ai)) ai)) (aq 2) fq) (a7 1 (mC (.bl true))))))
def cE:Fn:=fnM [false] 4 nv
theorem sc_l_is_sheet:FnScope ["_law_thing","_law_point","_law_k","_law_j"] ["_law_thing"] (af dg):=by ac_rfl
theorem lg (B:Bl mg) (D:Def K mg "_law_is_sheet" dg) (b:a9 P w K mg base "_law_bend" 1 ["_law_one","_law_two","_law_three_here"] bE) (a:a9 P w K mg base "_law_whole" 1 ["_law_thing"] gz):a9 P w K mg base "_law_is_sheet" 2 ["_law_thing"] cE :=by specialize sc_l_is_sheet
def lD:SM:=(aD (bj 1 (eR (ac (mUn (ic [("NoPlace",false),("NoSheet",true),("NoNumber",false),("OnLine",false)]) (ad 0)) (ac (mUn (ic [("NoPlace",true),("NoSheet",false),("NoNumber",false),("OnLine",false)]) (ad 0)) (ac (mUn (ic [("NoPlace",false),("NoSheet",false),("NoNumber",true),("OnLine",false)]) (ad 0)) (ac (mUn (ic [("NoPlace",false),("NoSheet",false),("NoNumber",false),("OnLine",false)]) (ad 0)) ai)))))) (aD (bj 1 (ah bP (ad 1) (eR (ac (mUn (ic [("NoPlace",false),("NoSheet",false),("NoNumber",false),("OnLine",false)]) (ad 0)) (ac (mUn (ic [("NoPlace",false),("NoSheet",false),("NoNumber",false),("OnLine",false)]) (ad 0)) (ac (mUn (ic [("NoPlace",false),("NoSheet",false),("NoNumber",false),("OnLine",false)]) (ad 0)) (ac (mUn (ic [("NoPlace",false),("NoSheet",false),("NoNumber",false),("OnLine",false)]) (ad 0)) ai))))))) (a7 1 (ah bP (ad 1) (eR (ac (mUn (ic [("NoPlace",false),("NoSheet",false),("NoNumber",false),("OnLine",false)]) (ad 0)) (ac (mUn (ic [("NoPlace",false),("NoSheet",false),("NoNumber",false),("OnLine",false)]) (ad 0)) (ac (mUn (ic [("NoPlace",false),("NoSheet",false),("NoNumber",false),("OnLine",true)]) (ad 0)) (ac (mUn (ic [("NoPlace",false),("NoSheet",false),("NoNumber",false),("OnLine",false)]) (ad 0)) ai)))))))))
def d7:Fn:=fnM [false] 2 lD
theorem sc_l_classes:FnScope ["_law_e","_law_found"] ["_law_e"] (af dL):=by ac_rfl
theorem j5 (B:Bl mg) (D:Def K mg "_law_classes" dL) {l:Addr} (Q:mg "Apart"=some (.ref l)) (O:IsX K (.ref l) [("NoPlace",false),("NoSheet",false),("NoNumber",false),("OnLine",false)]) {n:Addr} (T:mg "Bare"=some (.ref n)) (U:IsX K (.ref n) [("NoPlace",false),("NoSheet",false),("NoNumber",false),("OnLine",false)]) {h:Addr} (M:mg "NoLine"=some (.ref h)) (E:IsX K (.ref h) [("NoPlace",false),("NoSheet",false),("NoNumber",false),("OnLine",false)]) {a:Addr} (p:mg "NoNumber"=some (.ref a)) (o:IsX K (.ref a) [("NoPlace",false),("NoSheet",false),("NoNumber",true),("OnLine",false)]) {c:Addr} (x:mg "NoPlace"=some (.ref c)) (v:IsX K (.ref c) [("NoPlace",true),("NoSheet",false),("NoNumber",false),("OnLine",false)]) {i:Addr} (F:mg "NoRing"=some (.ref i)) (L:IsX K (.ref i) [("NoPlace",false),("NoSheet",false),("NoNumber",false),("OnLine",false)]) {m:Addr} (S:mg "NoRow"=some (.ref m)) (R:IsX K (.ref m) [("NoPlace",false),("NoSheet",false),("NoNumber",false),("OnLine",false)]) {e:Addr} (r:mg "NoSheet"=some (.ref e)) (z:IsX K (.ref e) [("NoPlace",false),("NoSheet",true),("NoNumber",false),("OnLine",false)]) {d:Addr} (y:mg "NoSigns"=some (.ref d)) (q:IsX K (.ref d) [("NoPlace",false),("NoSheet",false),("NoNumber",false),("OnLine",false)]) {g:Addr} (N:mg "NoText"=some (.ref g)) (J:IsX K (.ref g) [("NoPlace",false),("NoSheet",false),("NoNumber",false),("OnLine",false)]) {j:Addr} (I:mg "OnLine"=some (.ref j)) (C:IsX K (.ref j) [("NoPlace",false),("NoSheet",false),("NoNumber",false),("OnLine",true)]) {b:Addr} (t:mg "TooMany"=some (.ref b)) (u:IsX K (.ref b) [("NoPlace",false),("NoSheet",false),("NoNumber",false),("OnLine",false)]):u6 P w K mg base "_law_classes" 1 ["_law_e"] d7 :=
 sK (k:=0) D sc_l_classes rfl rfl (hb1 fun _ _ _ _ _ _ _=>rfl) fun cdv A outer s H f G hr hD hp =>
  have nd:=sc_l_classes.nd;by and_intros
def lC:EM:=(ah eqX (ad 0) (ad 1))
def lB:EM:=(bU (aZ bM (ac (mC (.int 12)) ai)) (aq 0) fB lC [none,some 1])
def qN:SM:=(aD (sIf (cOr (d6 (cB (mUn (ic [("NoPlace",true),("NoSheet",true),("NoNumber",true),("OnLine",true)]) (ad 0)))) (d6 (cB (mUn (ic [("NoPlace",true),("NoSheet",true),("NoNumber",true),("OnLine",true)]) (ad 0))))) (a7 2 (mC (.bl false))) cn) (a7 2 (ah eqX (av d7 (ac (ad 0) ai)) lB)))
def eZ:Fn:=fnM [false,false] 2 qN
theorem sc_l_only:FnScope ["_law_e","_law_place"] ["_law_e","_law_place"] (af iJ):=by ac_rfl
theorem n5 (B:Bl mg) (D:Def K mg "_law_only" iJ) (b:u6 P w K mg base "_law_classes" 1 ["_law_e"] d7) {a:Addr} (d:mg "BentError"=some (.ref a)) (c:IsX K (.ref a) [("NoPlace",true),("NoSheet",true),("NoNumber",true),("OnLine",true)]) (Z_ValueError:mg "ValueError"=none) (T_ValueError:IsX K (.type "ValueError") [("NoPlace",true),("NoSheet",true),("NoNumber",true),("OnLine",true)]):u6 P w K mg base "_law_only" 2 ["_law_e","_law_place"] eZ :=
 sK (k:=1) D sc_l_only rfl rfl (hb2 fun _ _ _ _ _ _ _ _=>rfl) fun cdv A outer s H f G hr hD hp =>
  have nd:=sc_l_only.nd;by and_intros
def dm:SM:=(sIf (cB (ah eqX (av bE (ac (ah ay (ad 0) (ad 1)) (ac (ah ay (ad 0) (ad 2)) (ac (ah ay (ad 0) (ad 3)) ai)))) (mC (.int 0)))) (a7 1 (jm (ac (ah ay (ad 0) (ad 1)) (ac (ah ay (ad 0) (ad 2)) (ac (ah ay (ad 0) (ad 3)) ai))))) cn)
def dl:SM:=(cN (aZ fM (ac (ah bP (ad 2) (mC (.int 1))) (ac (aC cb (ac (ad 0) ai)) ai))) (aq 3) dm)
def dj:SM:=(cN (aZ fM (ac (ah bP (ad 1) (mC (.int 1))) (ac (aC cb (ac (ad 0) ai)) ai))) (aq 2) dl)
def uo:SM:=(aD (cN (aZ bM (ac (aC cb (ac (ad 0) ai)) ai)) (aq 1) dj) (a7 1 (mC .non)))
def gJ:Fn:=fnM [false] 4 uo
theorem sc_l_three:FnScope ["_law_points","_law_i","_law_j","_law_k"] ["_law_points"] (af gk):=by ac_rfl
theorem p9 (B:Bl mg) (D:Def K mg "_law_three" gk) (a:a9 P w K mg base "_law_bend" 1 ["_law_one","_law_two","_law_three_here"] bE):a9 P w K mg base "_law_three" 2 ["_law_points"] gJ :=by specialize sc_l_three
def jN:SM:=(a7 3 (fu eY (ac (ad 0) (ac (ad 1) (ac (ad 2) ai)))))
def jM:SM:=(a7 3 (eR (ac (mC (.str "on line")) (ac (mUn (om ["OnLine"] "three") (ad 3)) (ac (av eZ (ac (ad 3) (ac (mC (.int 10)) ai))) ai)))))
def wK:SM:=(mW ["OnLine"] 3 jN jM)
def jc:Fn:=fnM [false,false,false] 4 wK
theorem sc_l_told:FnScope ["_law_sheet_here","_law_place","_law_by","_law_e"] ["_law_sheet_here","_law_place","_law_by"] (af iG):=by ac_rfl
theorem rj (B:Bl mg) (D:Def K mg "_law_told" iG) (b:u6 P w K mg base "_law_only" 2 ["_law_e","_law_place"] eZ) (c:j6 P w K mg base "lifted" 6 ["sheet","place","by"] eY) (d:AtX K "three" ["OnLine"]) {a:Addr} (e:mg "OnLine"=some (.ref a)) (g:ExX K a ["OnLine"]):a9 P w K mg base "_law_told" 7 ["_law_sheet_here","_law_place","_law_by"] jc :=
 zK (k:=6) D sc_l_told rfl rfl (hb3 fun _ _ _ _ _ _ _ _ _=>rfl) fun cdv A outer s H E f G hr hp =>
  have nd:=sc_l_told.nd;by and_intros
def cX:SM:=(aD (oY (lK 2 (cH (lK 2 (cH (aq 7) (cH (aq 8) lL))) (cH (lK 2 (cH (aq 9) (cH (aq 10) lL))) lL))) (jm (ac (ah ay (ad 0) (ad 5)) (ac (ah ay (ad 0) (ad 6)) ai)))) (aD (bj 11 (ah bP (ah dY (ah cF (ad 10) (ad 8)) (ah cF (ad 2) (ad 7))) (ah dY (ah cF (ad 8) (ad 3)) (ah cF (ad 9) (ad 7))))) (sIf (jA (cB (ah B2 (ad 1) (jm (ac (ad 5) (ac (ad 6) ai))))) (cB (ah eqX (ah kO (ad 11) (ah cF (ad 9) (ad 7))) (mC (.int 0))))) (fJ (pI isL rD 4 (ac (ah uL (ad 11) (ah cF (ad 9) (ad 7))) ai))) cn)))
def fT:SM:=(cN (aZ fM (ac (ah bP (ad 5) (mC (.int 1))) (ac (aC cb (ac (ad 0) ai)) ai))) (aq 6) cX)
def wM:SM:=(aD (oY (lK 2 (cH (aq 2) (cH (aq 3) lL))) (ah ay (ad 0) (ad 1))) (aD (bj 4 (eR ai)) (aD (cN (aZ bM (ac (aC cb (ac (ad 0) ai)) ai)) (aq 5) fT) (a7 2 (ad 4)))))
def jd:Fn:=fnM [false,false] 12 wM
theorem sc_l_onto:FnScope ["_law_sheet_here","_law_place","_law_x","_law_y","_law_found","_law_i","_law_j","_law_a","_law_b","_law_c","_law_d","_law_rise"] ["_law_sheet_here","_law_place"] (af iI):=by ac_rfl
theorem rp (B:Bl mg) (D:Def K mg "_law_onto" iI):a9 P w K mg base "_law_onto" 1 ["_law_sheet_here","_law_place"] jd :=by specialize sc_l_onto
def fS:SM:=(aD (oY (lK 2 (cH (aq 7) (cH (aq 8) lL))) (ah ay (ad 3) (ad 4))) (aD (bj 9 (ah bP (ah bP (mSl slD (ad 3) pi (l8 (ad 4))) (jm (ac (jm (ac (ad 7) (ac (ah bP (ad 8) (ad 6)) ai))) ai))) (mSl slD (ad 3) (l8 (ah bP (ad 4) (mC (.int 1)))) pi))) (aD (bj 10 (av gJ (ac (ad 9) ai))) (aD (bj 11 (av jc (ac (ad 3) (ac (ad 4) (ac (ad 6) ai))))) (aD (sIf (jA (cB (ah uc (ad 10) (mC .non))) (cB (ah neX (ad 11) (eR (ac (mC (.str "on line")) (ac (ad 10) (ac (mC (.bl true)) ai))))))) (a7 1 (mC (.bl false))) cn) (sIf (jA (cB (ah isN (ad 10) (mC .non))) (cOr (d6 (cB (av cE (ac (ad 11) ai)))) (cB (ah neX (ad 11) (ad 9))))) (a7 1 (mC (.bl false))) cn))))))
def iU:SM:=(aD (bj 5 (eR (ac (mC (.int 0)) (ac (ah cF (av aS (ac (ad 2) (ac (mC (.int 41)) ai))) (mC (.int 20))) (ac (ah bP (ah kG (mC (.int 10)) (mC (.int 20))) (av aS (ac (ad 2) (ac (mC (.int 9)) ai)))) (ac (ah cF (mUn B3 (mC (.int 1))) (av aS (ac (ad 2) (ac (ah kG (mC (.int 10)) (mC (.int 6))) ai)))) ai)))))) (cN (dS (ah bP (ad 5) (mSl slD (av jd (ac (ad 3) (ac (ad 4) ai))) pi (l8 (mC (.int 3)))))) (aq 6) fS))
def iT:SM:=(aD (bj 2 (av kg (ac (ad 0) (ac (ad 1) ai)))) (aD (bj 3 (av hJ (ac (ad 2) (ac (mC (.int 8)) ai)))) (cN (aZ bM (ac (aC cb (ac (ad 3) ai)) ai)) (aq 4) iU)))
def m_law:SM:=(aD (cN (aZ bM (ac (aC Al (ac (mC (.int 1)) (ac (aC Ak (ac (aC cb (ac (ad 0) ai)) (ac (mC (.int 4)) ai))) ai))) ai)) (aq 1) iT) (a7 1 (mC (.bl true))))
def Aw:Fn:=fnM [false] 12 m_law
theorem sc_law:FnScope ["_law_script","_law_k","_law_box_here","_law_sheet_here","_law_place","_law_chance","_law_by","_law_x","_law_y","_law_points","_law_three_here","_law_found"] ["_law_script"] (af fG):=by ac_rfl
theorem zJ {f:Addr} {fd:FuncData} (B:Bl mg) (D:Fun K "law" "law" fG f fd) (h:a9 P w K mg base "_law_box" 1 ["_law_script","_law_k"] kg) (a:a9 P w K mg base "_law_is_sheet" 2 ["_law_thing"] cE) (e:a9 P w K mg base "_law_onto" 1 ["_law_sheet_here","_law_place"] jd) (c:a9 P w K mg base "_law_sheet" 3 ["_law_box_here","_law_most"] hJ) (g:a9 P w K mg base "_law_take" 1 ["_law_box_here","_law_many"] aS) (b:a9 P w K mg base "_law_three" 2 ["_law_points"] gJ) (d:a9 P w K mg base "_law_told" 7 ["_law_sheet_here","_law_place","_law_by"] jc):FnOk P w K mg base CX0 8 f fd ["_law_script"] (qk K Aw) :=
 Cw (k:=7) D sc_law rfl rfl fun cdv A outer s H E f G hr hp =>
  have nd:=sc_law.nd;by and_intros
end
theorem ji (i:Int):bA [(.int i,.z)]=some (.ok (.bl true,.z),[(.int i,.z)]):=by
 apply bc (ρ:=[some (.int i,.z)]) rfl rfl
 ·nofun
 ·rfl
theorem lW (p:Pt):fe [(Pd p,.z)]=some (.ok (.bl true,.z),[(Pd p,.z)]):=by
 apply bc (ρ:=[some (Pd p,.z)]) rfl rfl
 ·nomatch [(ji _)]
 ·rfl
theorem kc {f c:L3.D->L3.D->Option (L3.D × Fl)} {ma mb mc:EM} {ra rb rc:R3} {ρ ρ1 ρ2 ρ3:Sto} {da db a e d:L3.D} {fl b:Fl} (h1:ma ρ=some (.ok ra,ρ1)) (h2:mb ρ1=some (.ok rb,ρ2)) (h3:der ra ρ2=some (.ok da,ρ2)) (i:der rb ρ2=some (.ok db,ρ2)) (h:f da db=some (.bl true,fl)) (l:mc ρ2=some (.ok rc,ρ3)) (k:der rb ρ3=some (.ok a,ρ3)) (j:der rc ρ3=some (.ok e,ρ3)) (g:c a e=some (d,b)):fV f c ma mb mc ρ=some (.ok (.val d b),ρ3):=by
 simp only [fV,ag,h1,h2,h3,i,h,bo,Option.bind_some,asB,Dw,if_true,l,k,j,g]
theorem vL (ps:List Pt) (h0:0 < ps.length) (h1:ps.length<=24):bB [(Shd ps,.z)]=some (.ok (.bl true,.z),[(Shd ps,.z)]):=by
 obtain ⟨τ',e,a,rfl⟩:=eB (bnd:=aq 0) (c:=fB) (elt:=bD) (fun τ=>∃ a,τ=[a]) (fun _=>true) (fun _=>.bl true) (ds:=ps.map Pd) (τ:=[none]) ⟨none,rfl⟩ (by
  rintro d hd τ ⟨a,rfl⟩
  obtain ⟨p,j,rfl⟩:=Dh.mp hd
  exact ⟨[some (Pd p,.z)],_,rfl,rfl,(fun h=>by cases h),fun _=>⟨.val (.bl true) .z,[some (Pd p,.z)],(.bl true,.z),[some (Pd p,.z)],by unfold bD;(nomatch [(lW _)]),rfl,rfl,_,rfl⟩⟩)
 have b:=jC (ds:=((ps.map Pd).filter fun _=>true).map fun _=>.bl true) (fun d hd=>by obtain ⟨_,_,rfl⟩:=Dh.mp hd;rfl)
 generalize ((ps.map Pd).filter fun _=>true).map (fun _=>L3.D.bl true)=out at *
 have g:c6 [some (Shd ps,.z)]=some (.ok (.val (.lst out) .u),[some (Shd ps,.z)]):=cu (im:=dS (ad 0)) (ix:=[none]) (ρ1:=[some (Shd ps,.z)]) (ρ2:=[some (Shd ps,.z)]) (ds:=ps.map Pd) (rs:=[.pl 0]) rfl e (by simp;omega) rfl
 have i:leI (.int 1) (.int ((ps.map Pd).length:Int))=some (.bl true,.z):=by simp [cS];omega
 have f:leI (.int ((ps.map Pd).length:Int)) (.int 24)=some (.bl true,.z):=by simp [cS];omega
 apply bc (ρ:=[some (Shd ps,.z)]) rfl rfl
 ·apply iY
  ·apply kb
   ·apply kc
    ·exact i_c
    ·nofun
    ·rfl
    ·rfl
    ·exact i
    ·exact i_c
    ·rfl
    ·rfl
    ·exact f
   ·rfl
   ·rfl
   ·(repeat' (first | with_reducible exact g | infer_instance | exact b | eq_refl))
  ·rfl
 ·rfl
theorem bH {xs:List L3.D} {k:Int} {d:L3.D} (h:L2.atI xs k=some d):ay (.tup xs) (.int k)=some (d,.z):=by
 show orD ixD sH (.tup xs) (.int k)=_
 simp [orD,ixD,h]
theorem yo {xs:List L3.D} {k:Int} {d:L3.D} (h:L2.atI xs k=some d):ay (.lst xs) (.int k)=some (d,.z):=by
 show orD ixD sH (.lst xs) (.int k)=_
 simp [orD,ixD,h]
theorem o3 (ps:List Pt) (h0:0 < ps.length) (h1:ps.length<=24) (R:Rising ps):bx [(Shd ps,.z)]=some (.ok (.bl true,.z),[(Shd ps,.z)]):=by
 obtain ⟨τ',e,a,rfl⟩:=eB (bnd:=aq 0) (c:=fB) (elt:=cr) (fun τ=>∃ a,τ=[a,some (Shd ps,.z)]) (fun _=>true) (fun _=>.bl true) (ds:=aT 0 (ps.length - 1)) (τ:=[none,some (Shd ps,.z)]) ⟨none,rfl⟩ (by
  rintro d hd τ ⟨a,rfl⟩
  obtain ⟨i,hi⟩:=List.getElem?_of_mem hd
  obtain ⟨hi,rfl⟩:=bu hi
  have g:ps[i]?=some ps[i]:=C9 _
  have f:ps[i+1]?=some ps[i+1]:=C9 _
  have b:=R i (i+1) _ _ (by omega) g f
  have a1:ay (Shd ps) (.int (0+(i:Int)))=some (Pd ps[i],.z):=bH (by rw [Int.zero_add];exact eX g)
  have a2:ay (Shd ps) (.int (0+(i:Int)+1))=some (Pd ps[i+1],.z):=bH (by rw [Int.zero_add];exact eX f)
  have k:ltI (.int ps[i].1) (.int ps[i+1].1)=some (.bl true,.z):=by simp [cS,b]
  generalize (0+(i:Int))=j at *
  refine ⟨[some (.int j,.z),some (Shd ps,.z)],_,rfl,rfl,(fun h=>by cases h),fun _=>⟨.val (.bl true) .z,[some (.int j,.z),some (Shd ps,.z)],(.bl true,.z),[some (.int j,.z),some (Shd ps,.z)],?_,rfl,rfl,_,rfl⟩⟩
  unfold cr
  (exists a1,a2,k))
 have o:((ps.length:Int) - 1).toNat=ps.length - 1:=by omega
 have m:bM [.int (((ps.map Pd).length:Int) - 1)]=some (aT 0 (ps.length - 1)):=bQ (by simp;omega) (by simp)
 have l:=jC (ds:=((aT 0 (ps.length - 1)).filter fun _=>true).map fun _=>.bl true) (fun d hd=>by obtain ⟨_,_,rfl⟩:=Dh.mp hd;rfl)
 generalize ((aT 0 (ps.length - 1)).filter fun _=>true).map (fun _=>L3.D.bl true)=out at *
 have n:dR [some (Shd ps,.z)]=some (.ok (.val (.lst out) .u),[some (Shd ps,.z)]):=cu (ρ1:=[some (Shd ps,.z)]) (rs:=[]) (by (repeat' (first | with_reducible apply cy (h3:=m) | infer_instance | eq_refl))) e (by rw [bL];omega) rfl
 apply bc (ρ:=[some (Shd ps,.z)]) rfl rfl
 ·unfold fU;(repeat' (first | with_reducible exact n | infer_instance | exact l | eq_refl))
 ·rfl
theorem ve {n i j:Nat} (xs:List L3.D) (l:n<=25) (k:j < n) (elt:EM) (he:∀ (a b c:L3.D),elt [some (c,.z),some (a,.z),some (b,.z)]=some (.ok (.val (.tup [a,b,c]) .z),[some (c,.z),some (a,.z),some (b,.z)])) :
  bU (aZ fM (ac (ah bP (ad 3) (mC (.int 1))) (ac (ad 0) ai))) (aq 0) fB elt [none,some 2,some 3] [some (.int n,.z),some (.lst xs,.u),some (.int i,.z),some (.int j,.z)]=some (.ok (.val (.lst ((iu i j (n - (j+1))).map Td)) .u),[some (.int n,.z),some (.lst xs,.u),some (.int i,.z),some (.int j,.z)]):=by
 obtain ⟨τ',e,a,rfl⟩:=eB (bnd:=aq 0) (c:=fB) (elt:=elt) (fun τ=>∃ a,τ=[a,some (.int i,.z),some (.int j,.z)]) (fun _=>true) (fun d=>.tup [.int i,.int j,d]) (ds:=aT ((j:Int)+1) (n - (j+1))) (τ:=[none,some (.int i,.z),some (.int j,.z)]) ⟨none,rfl⟩ (by
  rintro d hd τ ⟨a,rfl⟩
  exact ⟨[some (d,.z),some (.int i,.z),some (.int j,.z)],_,rfl,rfl,(fun h=>by cases h),fun _=>⟨_,_,(.tup [.int i,.int j,d],.z),_,he _ _ _,rfl,rfl,_,rfl⟩⟩)
 have g:((aT ((j:Int)+1) (n - (j+1))).filter fun _=>true).map (fun d=>L3.D.tup [.int i,.int j,d])=(iu i j (n - (j+1))).map Td:=by
  rw [DG.mpr (fun _ _=>rfl)]
  simp [aT,iu,Function.comp_def]
 rw [g] at e
 have f:fM [.int ((j:Int)+1),.int n]=some (aT ((j:Int)+1) (n - (j+1))):=iM (by omega) (by omega) (by omega)
 exact cu (rs:=[]) (by (repeat' (first | with_reducible apply cy (h3:=f) | infer_instance | eq_refl))) e (by rw [bL];omega) rfl
theorem Cz {A B:List L3.D} (h:A.length+B.length<=16777216):xk (.lst A) [.lst B]=some (.lst (A ++ B),.non):=by simp [xk,h]
theorem xQ {A:List L3.D} {d:L3.D} (h:A.length < 16777216):rD (.lst A) [d]=some (.lst (A ++ [d]),.non):=by simp [rD,h]
theorem zY {A B:List L3.D} (h:A.length+B.length<=16777216):bP (.lst A) (.lst B)=some (.lst (A ++ B),.u):=by simp [orD,cS,zX,zW,zZ,h]
theorem sU {A B:List L3.D} (h:A.length+B.length<=16777216):bP (.tup A) (.tup B)=some (.tup (A ++ B),.z):=by simp [orD,cS,zX,zW,zZ,h]
theorem tu {n:Nat} (h:n<=25) {b1 b2:SM} (h2:b2=cN (aZ fM (ac (ah bP (ad 2) (mC (.int 1))) (ac (ad 0) ai))) (aq 3) b1)
  (h1:∀ (i j:Nat) (xs:List L3.D),j < n->xs.length<=20000->b1 [some (.int n,.z),some (.lst xs,.u),some (.int i,.z),some (.int j,.z)]=some (.ok .nx,[some (.int n,.z),some (.lst (xs ++ (iu i j (n - (j+1))).map Td),.u),some (.int i,.z),some (.int j,.z)])) :
  ∃ v2 v3,cN (aZ bM (ac (ad 0) ai)) (aq 2) b2 [some (.int n,.z),some (.lst [],.u),none,none]=some (.ok .nx,[some (.int n,.z),some (.lst ((jV n).map Td),.u),v2,v3]):=by
 have inner:∀ (i:Nat) (xs:List Tri) (v3:Option (L3.D × Fl)),i < n->xs.length<=15625->∃ a,b2 [some (.int n,.z),some (.lst (xs.map Td),.u),some (.int i,.z),v3]=some (.ok .nx,[some (.int n,.z),some (.lst ((xs ++ fA n i (n - (i+1))).map Td),.u),some (.int i,.z),a]):=by
  intro i xs v3 hi l
  obtain ⟨ρ',e,a,rfl⟩:=bh (bnd:=aq 3) (b:=b1) (fun m ρ=>∃ v3,ρ=[some (.int n,.z),some (.lst ((xs ++ fA n i m).map Td),.u),some (.int i,.z),v3]) (ds:=aT ((i:Int)+1) (n - (i+1))) (ρ:=[some (.int n,.z),some (.lst (xs.map Td),.u),some (.int i,.z),v3]) (k:=0) ⟨v3,by simp [fA]⟩ (by
   rintro m d ρ hd ⟨v3,rfl⟩
   obtain ⟨hm,rfl⟩:=bu hd
   have g:((xs ++ fA n i m).map Td).length<=20000:=by
    have:=qw (n:=n) (i:=i) (m:=m) h (by omega)
    simp only [Dd,Dt]
    omega
   have c:=h1 i (i+1+m) ((xs ++ fA n i m).map Td) (by omega) g
   rw [show ((i+1+m:Nat):Int)=(i:Int)+1+m by omega,<- List.map_append,List.append_assoc,<- lY] at c
   exact ⟨_,_,by rw [Dr];rfl,.inl c,_,by rw [Dr]⟩)
  refine ⟨a,?_⟩
  rw [bL,Dr] at e
  have f:fM [.int ((i:Int)+1),.int n]=some (aT ((i:Int)+1) (n - (i+1))):=iM (by omega) (by omega) (by omega)
  rw [h2]
  apply bW
  ·(repeat' (first | with_reducible apply cy (h3:=f) | infer_instance | eq_refl))
  ·rfl
  ·exact e
 obtain ⟨ρ',e,v2,v3,rfl⟩:=bh (bnd:=aq 2) (b:=b2) (fun m ρ=>∃ v2 v3,ρ=[some (.int n,.z),some (.lst ((ly n m).map Td),.u),v2,v3]) (ds:=aT 0 n) (ρ:=[some (.int n,.z),some (.lst [],.u),none,none]) (k:=0) ⟨none,none,rfl⟩ (by
  rintro m d ρ hd ⟨v2,v3,rfl⟩
  obtain ⟨hm,rfl⟩:=bu hd
  rw [Dr,Int.zero_add]
  obtain ⟨a,e⟩:=inner m (ly n m) v3 hm (qx h (by omega))
  rw [<- lZ] at e
  exact ⟨_,_,rfl,.inl e,_,_,rfl⟩)
 rw [bL,Dr] at e
 have f:bM [.int (n:Int)]=some (aT 0 n):=bQ (by omega) (by omega)
 refine ⟨v2,v3,?_⟩
 apply bW
 ·(repeat' (first | with_reducible apply cy (h3:=f) | infer_instance | eq_refl))
 ·rfl
 ·exact e
theorem kA (n:Nat) (d:n<=25):ge [(.int n,.z)]=some (.ok (.lst ((jV n).map Td),.u),[(.int n,.z)]):=by
 obtain ⟨v2,v3,e⟩:=tu (n:=n) d (b1:=fR) (b2:=jL) rfl (by
  intro i j xs f h
  have c:=ve (n:=n) (i:=i) (j:=j) xs d f fQ (fun a b c=>by unfold fQ;(nofun))
  have g:xs.length+((iu i j (n - (j+1))).map Td).length<=16777216:=by
   rw [Dd,o5];omega
  unfold fR jK
  (repeat' (first | with_reducible exact c | infer_instance | exact Cz g | eq_refl)))
 apply bc (ρ:=[some (.int n,.z),none,none,none]) rfl rfl
 ·apply ak
  ·nofun
  ·apply ak
   ·exact e
   ·nofun
 ·rfl
theorem zR {i j:Int}:eqX (.int i) (.int j)=some (.bl (decide (i=j)),.z):=rfl
theorem fK (n m:Int) (h:0 < m/\m < 1073741824):aS [(.lst [.int n],.u),(.int m,.z)]=some (.ok (.int (n % m),.z),[(.lst [.int (n / m)],.u),(.int m,.z)]):=by
 have hd:xx [.int n,.int m]=some (.tup [.int (n / m),.int (n % m)],.z):=by simp [c2,pN,h]
 apply bc (ρ:=[some (.lst [.int n],.u),some (.int m,.z),none,none]) rfl rfl
 ·apply ak
  ·exists hd
  ·apply ak
   ·nofun
   ·nofun
 ·rfl
theorem vK (p q r:Int × Int) (h1:-18446744073709551616 < q.1 - p.1/\q.1 - p.1 < 18446744073709551616) (h2:-18446744073709551616 < q.2 - p.2/\q.2 - p.2 < 18446744073709551616):bE [(Pd p,.z),(Pd q,.z),(Pd r,.z)]=some (.ok (.int (aW p q r),.z),[(Pd p,.z),(Pd q,.z),(Pd r,.z)]):=by
 apply bc (ρ:=[some (Pd p,.z),some (Pd q,.z),some (Pd r,.z),none]) rfl rfl
 ·apply ak
  ·exists fO h1
  ·exists fO h2
 ·rfl
theorem dU (c:Int) (m:Int) (h:0 < m):0<=c % m/\c % m < m:=⟨Int.emod_nonneg _ (by omega),Int.emod_lt_of_pos _ h⟩
theorem xH (S a:L3.D) (c n j:Int) (v5:Option (L3.D × Fl)):∃ d e,eQ [some (S,.z),some (a,.z),some (.int c,.z),some (.int n,.z),some (.int j,.z),v5]=some (.ok .nx,[some (S,.z),some (a,.z),some (.int c,.z),some (.int d,.z),some (.int j,.z),some (.int e,.z)]):=by
 have b:∀ x:Int,-18446744073709551616 < x % 2147483647/\x % 2147483647 < 18446744073709551616:=fun x=>by have:=dU x 2147483647 (by decide);omega
 have b2:∀ x:Int,-18446744073709551616 < x % 2147483629/\x % 2147483629 < 18446744073709551616:=fun x=>by have:=dU x 2147483629 (by decide);omega
 apply Exists.intro
 apply Exists.intro
 apply ak
 ·exists kN (by decide),fO (by decide)
 ·apply ak
  ·exists fO (b _)
  ·exists kN (by decide),fO (b2 _)
theorem qb (S a:L3.D) (c:Int):∃ (n:Int) (v3 v4 v5:Option (L3.D × Fl)),(aD (sIf (cB (ah eqX (ah kO (ad 2) (mC (.int 2))) (mC (.int 0)))) (a7 2 (eR (ac (ah uL (ad 2) (mC (.int 2))) ai))) cn) (aD (bj 3 (mC (.int 0))) (aD (cN (aZ bM (ac (mC (.int 16)) ai)) (aq 4) eQ) (a7 2 (eR (ac (ad 3) ai)))))) [some (S,.z),some (a,.z),some (.int c,.z),none,none,none]=some (.ok (.rt (.lst [.int n]) .u),[some (S,.z),some (a,.z),some (.int c,.z),v3,v4,v5]):=by
 by_cases h:c % 2=0
 ·refine ⟨c / 2,none,none,none,?_⟩
  apply mT
  apply jQ
  ·nofun
  ·exact Do h
  ·nofun
 ·obtain ⟨ρ',e,n,v4,v5,rfl⟩:=bh (bnd:=aq 4) (b:=eQ) (fun _ ρ=>∃ (n:Int) (v4 v5:Option (L3.D × Fl)),ρ=[some (S,.z),some (a,.z),some (.int c,.z),some (.int n,.z),v4,v5]) (ds:=aT 0 16) (ρ:=[some (S,.z),some (a,.z),some (.int c,.z),some (.int 0,.z),none,none]) (k:=0) ⟨0,none,none,rfl⟩ (by
   rintro i d ρ hd ⟨n,v4,v5,rfl⟩
   obtain ⟨hi,rfl⟩:=bu hd
   obtain ⟨f,g,e⟩:=xH S a c n (0+(i:Int)) v5
   exact ⟨_,_,rfl,.inl e,_,_,_,rfl⟩)
  refine ⟨n,some (.int n,.z),v4,v5,?_⟩
  apply ak
  ·apply bK
   ·nofun
   ·exact Dp h
   ·rfl
  apply ak
  ·nofun
  apply ak
  ·apply bW
   ·exact cy (by (nofun)) rfl (bQ (n:=16) (by decide) (by decide))
   ·rfl
   ·exact e
  ·nofun
theorem yC (ns:List Int) (k:Nat):∃ n:Int,kg [(.fls (ns.map .int),.z),(.int k,.z)]=some (.ok (.lst [.int n],.u),[(.fls (ns.map .int),.z),(.int k,.z)]):=by
 by_cases h:k < ns.length
 ·obtain ⟨n,v3,v4,v5,e⟩:=qb (.fls (ns.map .int)) (.int k) ns[k]
  refine ⟨n,?_⟩
  have a:ay (.fls (ns.map .int)) (.int (k:Int))=some (.int ns[k],.z):=by
   have:L2.atI (ns.map L3.D.int) (k:Int)=some (.int ns[k]):=sY (by simp [h])
   simp [orD,ixD,this]
  have b:(k:Int) < ((ns.map L3.D.int).length:Int):=by simp;omega
  generalize (k:Int)=kk at *
  apply bc (ρ:=[some (.fls (ns.map .int),.z),some (.int kk,.z),none,none,none,none]) rfl rfl
  ·apply ak
   ·exists fO (by decide)
   apply ak
   ·apply jQ
    ·nofun
    ·exact Do b
    ·exists a
   ·exact e
  ·rfl
 ·obtain ⟨n,v3,v4,v5,e⟩:=qb (.fls (ns.map .int)) (.int k) (7919 * (k:Int)+13)
  refine ⟨n,?_⟩
  have b:¬ (k:Int) < ((ns.map L3.D.int).length:Int):=by simp;omega
  generalize (k:Int)=kk at *
  apply bc (ρ:=[some (.fls (ns.map .int),.z),some (.int kk,.z),none,none,none,none]) rfl rfl
  ·apply ak
   ·exists fO (by decide)
   apply ak
   ·apply bK
    ·nofun
    ·exact Dp b
    ·rfl
   ·exact e
  ·rfl
theorem zI {X Z:L3.D} {f:Fl} {k j:Int} {p q z:L3.D} {b:Int} (a1:ay X (.int j)=some (p,.z)) (a2:ay X (.int k)=some (q,.z)) (a:bE [(p,.z),(q,.z),(Z,.z)]=some (.ok (.int b,.z),[(p,.z),(q,.z),(Z,.z)])) :
  dQ [some (X,f),some (Z,.z),some (.int k,.z),some (.int j,.z)]=some (.ok (if b=0 then .rt (.bl false) .z else .nx),[some (X,f),some (Z,.z),some (.int k,.z),some (.int j,.z)]):=by
 by_cases h:b=0
 ·rw [if_pos h]
  apply jQ
  ·nomatch [a],[a1,a2]
  ·exact Do h
  ·nofun
 ·rw [if_neg h]
  apply bK
  ·nomatch [a],[a1,a2]
  ·exact Dp h
  ·rfl
theorem uE (ps:List Pt) (z:Pt) (A:∀ p ∈ ps,Small p) (G:ps.length<=24) {X:L3.D} {f:Fl} (hlen:cb [X]=some (.int (ps.length:Int),.z)) (u:∀ (i:Nat) (p:Pt),ps[i]?=some p->ay X (.int i)=some (Pd p,.z)) :
  ∃ (b:Bool) (v2 v3:Option (L3.D × Fl)),pH [some (X,f),some (Pd z,.z),none,none]=some (.ok (.rt (.bl b) .z),[some (X,f),some (Pd z,.z),v2,v3])/\(b=true->u5 ps z)/\(b=false->∃ (i j:Nat) (p q:Pt),i < j/\ps[i]?=some p/\ps[j]?=some q/\aW p q z=0):=by
 have inner:∀ (i:Nat) (q:Pt) (v3:Option (L3.D × Fl)),ps[i]?=some q->∃ a,bN [some (X,f),some (Pd z,.z),some (.int (0+(i:Int)),.z),v3]=some (.ok .nx,[some (X,f),some (Pd z,.z),some (.int (0+(i:Int)),.z),a])/\(∀ j p,j < i->ps[j]?=some p->aW p q z ≠ 0) \/
   bN [some (X,f),some (Pd z,.z),some (.int (0+(i:Int)),.z),v3]=some (.ok (.rt (.bl false) .z),[some (X,f),some (Pd z,.z),some (.int (0+(i:Int)),.z),a])/\∃ j p,j < i/\ps[j]?=some p/\aW p q z=0:=by
  intro i q v3 l
  have hi:i < ps.length:=(De.mp l).1
  have x:ay X (.int (0+(i:Int)))=some (Pd q,.z):=by rw [Int.zero_add];exact u i q l
  have v:bM [.int (0+(i:Int))]=some (aT 0 i):=bQ (by omega) (by omega)
  obtain ⟨ρ',h⟩:=nQ (bnd:=aq 3) (b:=dQ) (fun m ρ=>∃ v3,ρ=[some (X,f),some (Pd z,.z),some (.int (0+(i:Int)),.z),v3]/\∀ j p,j < m->ps[j]?=some p->aW p q z ≠ 0)
   (fun m r fl ρ=>r=.bl false/\fl=.z/\∃ v3,ρ=[some (X,f),some (Pd z,.z),some (.int (0+(i:Int)),.z),v3]/\∃ p,ps[m]?=some p/\aW p q z=0)
   (ds:=aT 0 i) (ρ:=[some (X,f),some (Pd z,.z),some (.int (0+(i:Int)),.z),v3]) (k:=0) ⟨v3,rfl,fun j p h=>absurd h (Nat.not_lt_zero _)⟩ (by
    rintro m d ρ hd ⟨v3,rfl,y⟩
    obtain ⟨hm,rfl⟩:=bu hd
    have c:ps[m]?=some (ps[m]'(by omega)):=C9 _
    generalize (ps[m]'(by omega))=p at c
    have w:ay X (.int (0+(m:Int)))=some (Pd p,.z):=by rw [Int.zero_add];exact u m p c
    have sm:=Small.sub (A p (Df c)) (A q (Df l))
    have rb:=zI (f:=f) (z:=.non) w x (vK p q z sm.1 sm.2)
    by_cases h0:aW p q z=0
    ·rw [if_pos h0] at rb
     exact ⟨_,_,rfl,.inr ⟨.bl false,.z,rb,rfl,rfl,_,rfl,p,by rw [Dr];exact c,h0⟩⟩
    ·rw [if_neg h0] at rb
     refine ⟨_,_,rfl,.inl ⟨.inl rb,_,rfl,fun j F s t=>?_⟩⟩
     by_cases e:j=m
     ·subst e;rw [c] at t;cases t;exact h0
     ·exact y j F (by omega) t)
  have wrap:∀ {o:Except L3.D Flw} {ρ2:Sto},dJ (aq 3) dQ (aT 0 i) [some (X,f),some (Pd z,.z),some (.int (0+(i:Int)),.z),v3]=some (o,ρ2)->bN [some (X,f),some (Pd z,.z),some (.int (0+(i:Int)),.z),v3]=some (o,ρ2):=fun e=>by
   apply bW
   ·(repeat' (first | with_reducible apply cy (h3:=v) | infer_instance | eq_refl))
   ·rfl
   ·exact e
  rcases h with ⟨e,a,rfl,h⟩ | ⟨m,r,fl,hm,e,rfl,rfl,a,rfl,p,c,h0⟩
  ·exact ⟨a,.inl ⟨wrap e,fun j p s=>h j p (by rw [bL];omega)⟩⟩
  ·exact ⟨a,.inr ⟨wrap e,m,p,by rw [bL] at hm;exact hm,by rw [Dr] at c;exact c,h0⟩⟩
 obtain ⟨ρ',h⟩:=nQ (bnd:=aq 2) (b:=bN) (fun m ρ=>∃ v2 v3,ρ=[some (X,f),some (Pd z,.z),v2,v3]/\∀ i j p q,i < j->j < m->ps[i]?=some p->ps[j]?=some q->aW p q z ≠ 0)
   (fun m r fl ρ=>r=.bl false/\fl=.z/\∃ v2 v3,ρ=[some (X,f),some (Pd z,.z),v2,v3]/\∃ (i j:Nat) (p q:Pt),i < j/\ps[i]?=some p/\ps[j]?=some q/\aW p q z=0)
   (ds:=aT 0 ps.length) (ρ:=[some (X,f),some (Pd z,.z),none,none]) (k:=0) ⟨_,_,rfl,fun i j p q _ h=>absurd h (Nat.not_lt_zero _)⟩ (by
    rintro m d ρ hd ⟨v2,v3,rfl,y⟩
    obtain ⟨hm,rfl⟩:=bu hd
    have l:ps[m]?=some (ps[m]'(by omega)):=C9 _
    generalize (ps[m]'(by omega))=q at l
    obtain ⟨a,h⟩:=inner m q v3 l
    rcases h with ⟨e,h⟩ | ⟨e,j,p,s,c,h0⟩
    ·refine ⟨_,_,rfl,.inl ⟨.inl e,_,_,rfl,fun i j p C g s hi n=>?_⟩⟩
     by_cases B:j=m
     ·subst B;rw [l] at n;cases n;exact h i p g hi
     ·exact y i j p C g (by omega) hi n
    ·exact ⟨_,_,rfl,.inr ⟨.bl false,.z,e,rfl,rfl,_,_,rfl,j,m,p,q,s,c,l,h0⟩⟩)
 have v:bM [.int (ps.length:Int)]=some (aT 0 ps.length):=bQ (by omega) (by omega)
 have hf:∀ {o:Except L3.D Flw} {ρ2:Sto},dJ (aq 2) bN (aT 0 ps.length) [some (X,f),some (Pd z,.z),none,none]=some (o,ρ2)->cN (aZ bM (ac (aC cb (ac (ad 0) ai)) ai)) (aq 2) bN [some (X,f),some (Pd z,.z),none,none]=some (o,ρ2):=fun e=>by
  apply bW
  ·exact cy (aL (gu (aL (aQ rfl) bV) rfl hlen) bV) rfl v
  ·rfl
  ·exact e
 rcases h with ⟨e,v2,v3,rfl,h⟩ | ⟨m,r,fl,hm,e,rfl,rfl,v2,v3,rfl,E⟩
 ·refine ⟨true,v2,v3,?_,fun _ i j p q g hi s=>h i j p q g ?_ hi s,fun h=>by cases h⟩
  ·apply ak
   ·exact hf e
   ·nofun
  ·have:=(De.mp s).1
   rw [bL];omega
 ·refine ⟨false,v2,v3,?_,fun h=>(by cases h),fun _=>E⟩
  apply mT
  exact hf e
theorem vI (ps:List Pt) (z:Pt) (c:∀ p ∈ ps,Small p) (a:ps.length<=24):∃ b:Bool,je [(.lst (ps.map Pd),.u),(Pd z,.z)]=some (.ok (.bl b,.z),[(.lst (ps.map Pd),.u),(Pd z,.z)])/\(b=true->u5 ps z)/\(b=false->∃ (i j:Nat) (p q:Pt),i < j/\ps[i]?=some p/\ps[j]?=some q/\aW p q z=0):=by
 obtain ⟨b,v2,v3,e,h1,h2⟩:=uE ps z c a (X:=.lst (ps.map Pd)) (f:=.u) (by simp [c1,zw]) (fun i p h=>yo (eX h))
 refine ⟨b,?_,h1,h2⟩
 apply bc (ρ:=[some (.lst (ps.map Pd),.u),some (Pd z,.z),none,none]) rfl rfl
 ·exact e
 ·rfl
abbrev df (n most many kd x:Int) (ps:List Pt) (v6 v7 v8:Option (L3.D × Fl)):Sto:=[some (.lst [.int n],.u),some (.int most,.z),some (.int many,.z),some (.int kd,.z),some (.int x,.z),some (.lst (ps.map Pd),.u),v6,v7,v8]
theorem uZ (ps:List Pt) (x y:Int) (a:ps.length<=12):above ps x y<=144:=by
 have h1:=xT ps x y
 have h2:ps.length * ps.length<=12 * 12:=Nat.mul_le_mul a a
 omega
theorem qp {n most many kd x y0:Int} {ps:List Pt} {v6 v7:Option (L3.D × Fl)} (R:Rising ps) (o:∀ p ∈ ps,Small p) (h:ps.length<=12) :
  ∃ y,fH cq du (df n most many kd x ps v6 v7 (some (.int y0,.z)))=some (.ok .nx,df n most many kd x ps v6 v7 (some (.int y,.z)))/\u5 ps (x,y)/\y0<=y/\y<=y0+144:=by
 have f:=uZ ps x y0 h
 obtain ⟨ρ',e,y,rfl,hf,h1,h2⟩:=td (c:=cq) (b:=du) (fun m ρ=>∃ y:Int,ρ=df n most many kd x ps v6 v7 (some (.int y,.z))/\m=above ps x y/\y0<=y/\y+(above ps x y:Int)<=y0+(above ps x y0:Int))
  (fun ρ=>∃ y:Int,ρ=df n most many kd x ps v6 v7 (some (.int y,.z))/\u5 ps (x,y)/\y0<=y/\y<=y0+144) (ρ:=df n most many kd x ps v6 v7 (some (.int y0,.z))) ⟨y0,rfl,rfl,Int.le_refl _,Int.le_refl _⟩ (by
   rintro m ρ ⟨y,rfl,rfl,h1,h2⟩
   obtain ⟨b,l,k,hf⟩:=vI ps (x,y) o (by omega)
   have g:cq (df n most many kd x ps v6 v7 (some (.int y,.z)))=some (.ok (!b),df n most many kd x ps v6 v7 (some (.int y,.z))):=by
    unfold cq
    nomatch [l]
   cases b with
   | true=>exact .inl ⟨_,g,y,rfl,k rfl,h1,by omega⟩
   | false =>
    obtain ⟨i,j,p,q,a,e1,r,h0⟩:=hf rfl
    have d:=xS R a e1 r h0
    exact .inr ⟨_,df n most many kd x ps v6 v7 (some (.int (y+1),.z)),_,g,.inl (by unfold du;(nofun)),d,y+1,rfl,rfl,by omega,by omega⟩)
 exact ⟨y,e,hf,h1,h2⟩
theorem sq_le {x:Int} (h0:-40<=x) (h1:x<=40):0<=x * x/\x * x<=1600:=by
 have a:x * x=(x.natAbs * x.natAbs:Nat):=by rw [Int.natCast_mul];exact (Int.natAbs_mul_self' x).symm
 have b:x.natAbs * x.natAbs<=40 * 40:=Nat.mul_le_mul (by omega) (by omega)
 omega
theorem z4 {x k:Int}:∃ b:Int,ay (.lst [.int (x * x),.int (0 - x * x)]) (.int (k % 2))=some (.int b,.z)/\(b=x * x\/b=0 - x * x):=by
 rcases Int.emod_two_eq k with e | e
 ·rw [e];exact ⟨_,rfl,.inl rfl⟩
 ·rw [e];exact ⟨_,rfl,.inr rfl⟩
theorem y_at {a b c d e kd:Int} (h0:0<=kd) (h1:kd < 5):∃ y:Int,ay (.lst [.int a,.int b,.int c,.int d,.int e]) (.int kd)=some (.int y,.z)/\(y=a\/y=b\/y=c\/y=d\/y=e):=by
 obtain ⟨j,rfl⟩:∃ j:Nat,kd=(j:Int):=⟨kd.toNat,by omega⟩
 match j,h1 with
 | 0,_=>exact ⟨_,rfl,.inl rfl⟩
 | 1,_=>exact ⟨_,rfl,.inr (.inl rfl)⟩
 | 2,_=>exact ⟨_,rfl,.inr (.inr (.inl rfl))⟩
 | 3,_=>exact ⟨_,rfl,.inr (.inr (.inr (.inl rfl)))⟩
 | 4,_=>exact ⟨_,rfl,.inr (.inr (.inr (.inr rfl)))⟩
 | j+5,h=>exact absurd h (by omega)
theorem vF {n most many kd x k:Int} {ps:List Pt} {v7 v8:Option (L3.D × Fl)} (R:Rising ps) (s:∀ p ∈ ps,Small p) (u:ps.length<=12) (k0:0<=kd) (k1:kd < 5) (x0:-9<=x) (B:x<=36) :
  ∃ (q d y:Int) (i j:Option (L3.D × Fl)),dq (df n most many kd x ps (some (.int k,.z)) v7 v8)=some (.ok .nx,df q most many kd (x+1+d) (ps ++ [(x+1+d,y)]) (some (.int k,.z)) i j)/\0<=d/\d < 3/\u5 ps (x+1+d,y)/\-2000<=y/\y<=2000:=by
 have m:=dU n 3 (by decide)
 have a0:=dU (n / 3) 40 (by decide)
 have E:=dU (n / 3 / 40) 6 (by decide)
 have t:=fK
 generalize h:x+1+n % 3=X at *
 have sq:=sq_le (x:=X) (by omega) (by omega)
 obtain ⟨f,r,hb2⟩:=z4 (x:=X) (k:=k)
 obtain ⟨y0,A,l⟩:=y_at (a:=n / 3 % 40) (b:=X * X) (c:=9 - X * X) (d:=f) (e:=n / 3 / 40 % 6) k0 k1
 have hm:-18446744073709551616 < X/\X < 18446744073709551616:=by omega
 obtain ⟨y,w,hf,h1,h2⟩:=qp (n:=n / 3 / 40 / 6) (most:=most) (many:=many) (kd:=kd) (x:=X) (y0:=y0) (ps:=ps) (v6:=some (.int k,.z)) (v7:=some (.int f,.z)) R s u
 have C:-1700<=y0/\y0<=1700:=by
  rcases hb2 with e | e <;> rcases l with g | g | g | g | g <;> omega
 refine ⟨n / 3 / 40 / 6,n % 3,y,some (.int f,.z),some (.int y,.z),?_,m.1,m.2,by rw [h];exact hf,by omega,by omega⟩
 rw [h]
 have v:(ps.map Pd).length < 16777216:=by simp;omega
 have o:=xQ (d:=Pd (X,y)) v
 rw [show ps.map Pd ++ [Pd (X,y)]=(ps ++ [(X,y)]).map Pd by simp] at o
 apply ak (ρ1:=df (n / 3) most many kd X ps (some (.int k,.z)) v7 v8)
 ·rw [<- h]
  nomatch [(t _ _ (by decide))]
 apply ak (ρ1:=df (n / 3) most many kd X ps (some (.int k,.z)) (some (.int f,.z)) v8)
 ·exists r,fO hm
 apply ak (ρ1:=df (n / 3 / 40 / 6) most many kd X ps (some (.int k,.z)) (some (.int f,.z)) (some (.int y0,.z)))
 ·nomatch [(t _ _ (by decide))],[A,fO hm]
 apply ak
 ·exact w
 ·exists o
theorem vH {n most many kd x:Int} (hm:0<=many/\many<=12) (k0:0<=kd) (k1:kd < 5) (x0:-8<=x) (u:x<=0) :
  ∃ (f h:Int) (ps:List Pt) (v6 v7 v8:Option (L3.D × Fl)),cN (aZ bM (ac (ad 2) ai)) (aq 6) dq (df n most many kd x [] none none none)=some (.ok .nx,df f most many kd h ps v6 v7 v8)/\(ps.length:Int)=many/\Rising ps/\NoLine ps/\(∀ q ∈ ps,-9<=q.1/\q.1<=100/\-2000<=q.2/\q.2<=2000):=by
 obtain ⟨ρ',e,f,h,ps,v6,v7,v8,rfl,m,c,nl,bnd,h1,h2⟩:=bh (bnd:=aq 6) (b:=dq) (fun i ρ=>∃ (n x:Int) (ps:List Pt) (v6 v7 v8:Option (L3.D × Fl)),ρ=df n most many kd x ps v6 v7 v8/\ps.length=i/\Rising ps/\NoLine ps/\(∀ q ∈ ps,q.1<=x/\-9<=q.1/\-2000<=q.2/\q.2<=2000)/\-8<=x/\x<=3 * (i:Int))
  (ds:=aT 0 many.toNat) (ρ:=df n most many kd x [] none none none) (k:=0) ⟨n,x,[],none,none,none,rfl,rfl,fun _ _ _ _ _ e _=>by simp at e,fun _ _ _ _ _ _ _ _ e _ _=>by simp at e,fun _ e=>by simp at e,by omega,by omega⟩ (by
   rintro i d ρ hd ⟨n,x,ps,v6,v7,v8,rfl,m,c,nl,bnd,h1,h2⟩
   obtain ⟨hi,rfl⟩:=bu hd
   have g:∀ q ∈ ps,Small q:=fun q a=>by
    obtain ⟨a1,a2,l,j⟩:=bnd q a
    exact ⟨by omega,by omega,by omega,by omega⟩
   obtain ⟨f,dd,y,p,r,e,s,v,fr,y0,t⟩:=vF (n:=n) (most:=most) (many:=many) (kd:=kd) (x:=x) (k:=0+(i:Int)) (ps:=ps) (v7:=v7) (v8:=v8) c g (by omega) k0 k1 (by omega) (by omega)
   refine ⟨_,_,rfl,.inl e,f,x+1+dd,ps ++ [(x+1+dd,y)],_,_,_,rfl,by simp;omega,c.snoc fun q a=>?_,nl.snoc fr,fun q a=>?_,by omega,by omega⟩
   ·show q.1 < x+1+dd
    have:=(bnd q a).1
    omega
   ·rcases Db.mp a with a | a
    ·obtain ⟨a1,a2,l,j⟩:=bnd q a
     exact ⟨by omega,by omega,by omega,by omega⟩
    ·have e:q=(x+1+dd,y):=by simpa using a
     subst e
     exact ⟨Int.le_refl _,by show -9<=x+1+dd;omega,by show -2000<=y;omega,by show y<=2000;omega⟩)
 rw [bL] at m h2
 have o:bM [.int many]=some (aT 0 many.toNat):=bQ (by omega) rfl
 refine ⟨f,h,ps,v6,v7,v8,?_,by omega,c,nl,fun q a=>?_⟩
 ·apply bW
  ·(repeat' (first | with_reducible apply cy (h3:=o) | infer_instance | eq_refl))
  ·rfl
  ·exact e
 ·obtain ⟨a1,a2,l,j⟩:=bnd q a
  exact ⟨by omega,by omega,by omega,by omega⟩
def b8 (p:Pt):Pt:=(p.1 * 1000000000000,p.2 * 1000000000000000+7)
theorem qe (p q r:Pt):aW (b8 p) (b8 q) (b8 r)=1000000000000000000000000000 * aW p q r:=by
 unfold aW b8
 dsimp only
 have e1:q.1 * 1000000000000 - p.1 * 1000000000000=(q.1 - p.1) * 1000000000000:=by omega
 have f:r.1 * 1000000000000 - p.1 * 1000000000000=(r.1 - p.1) * 1000000000000:=by omega
 have e:r.2 * 1000000000000000+7 - (p.2 * 1000000000000000+7)=(r.2 - p.2) * 1000000000000000:=by omega
 have g:q.2 * 1000000000000000+7 - (p.2 * 1000000000000000+7)=(q.2 - p.2) * 1000000000000000:=by omega
 rw [e1,f,e,g]
 generalize q.1 - p.1=a
 generalize r.2 - p.2=b
 generalize q.2 - p.2=c
 generalize r.1 - p.1=d
 have h:∀ a b:Int,a * 1000000000000 * (b * 1000000000000000)=1000000000000000000000000000 * (a * b):=fun a b=>by
  rw [Int.mul_assoc,Int.mul_left_comm 1000000000000 b,<- Int.mul_assoc,show (1000000000000:Int) * 1000000000000000=1000000000000000000000000000 from rfl,Int.mul_comm]
 rw [h,Int.mul_comm (c * 1000000000000000),h,Int.mul_comm d c,<- Int.mul_sub]
theorem qy {ps:List Pt} (R:Rising ps):Rising (ps.map b8):=fun i j p q a h1 h2=>by
 rw [Di] at h1 h2
 obtain ⟨b,e1,rfl⟩:=C5.mp h1
 obtain ⟨c,d,rfl⟩:=C5.mp h2
 have:=R i j b c a e1 d
 show b.1 * 1000000000000 < c.1 * 1000000000000
 omega
theorem qK {ps:List Pt} (N:NoLine ps):NoLine (ps.map b8):=fun i j k p q r a b h1 h2 h3=>by
 rw [Di] at h1 h2 h3
 obtain ⟨e,e1,rfl⟩:=C5.mp h1
 obtain ⟨d,g,rfl⟩:=C5.mp h2
 obtain ⟨f,c,rfl⟩:=C5.mp h3
 rw [qe]
 exact Int.mul_ne_zero (by decide) (N i j k e d f a b e1 g c)
theorem pow12:kG (.int 10) (.int 12)=some (.int 1000000000000,.z):=rfl
theorem pow15:kG (.int 10) (.int 15)=some (.int 1000000000000000,.z):=rfl
theorem tU (ps:List Pt) (f:ps.length<=24) {n most many kd x:Int} {v6 v7 v8:Option (L3.D × Fl)}:bj 5 dn (df n most many kd x ps v6 v7 v8)=some (.ok .nx,df n most many kd x (ps.map b8) v6 v7 v8):=by
 obtain ⟨τ',e,a,b,rfl⟩:=f9 (bnd:=lK 2 (cH (aq 0) (cH (aq 1) lL))) (c:=fB) (elt:=eP) (fun τ=>∃ a b,τ=[a,b]) Pd (fun _=>true) (fun p=>Pd (b8 p)) (xs:=ps) (τ:=[none,none]) ⟨none,none,rfl⟩ (by
  rintro p g τ ⟨a,b,rfl⟩
  exact ⟨[some (.int p.1,.z),some (.int p.2,.z)],_,rfl,rfl,(fun h=>by cases h),fun _=>⟨.val (Pd (b8 p)) .z,[some (.int p.1,.z),some (.int p.2,.z)],(Pd (b8 p),.z),_,by unfold eP;(exists pow12,pow15,kN (by decide)),rfl,rfl,_,_,rfl⟩⟩)
 rw [DG.mpr (fun _ _=>rfl)] at e
 have d:dn (df n most many kd x ps v6 v7 v8)=some (.ok (.val (.lst (ps.map fun p=>Pd (b8 p))) .u),df n most many kd x ps v6 v7 v8):=cu (rs:=[.pl 5]) (ρ1:=df n most many kd x ps v6 v7 v8) (ρ2:=[some (.lst [.int n],.u),some (.int most,.z),some (.int many,.z),some (.int kd,.z),some (.int x,.z),some (.lst (ps.map Pd),.l),v6,v7,v8]) rfl e (by simp;omega) rfl
 rw [show (ps.map fun p=>Pd (b8 p))=(ps.map b8).map Pd by simp] at d
 exact sC d rfl (Nat.le_of_ble_eq_true rfl) rfl
theorem tR (n most:Int) (h1:1<=most) (h2:most<=12):∃ (c:Int) (ps:List Pt),hJ [(.lst [.int n],.u),(.int most,.z)]=some (.ok (.tup (ps.map Pd),.z),[(.lst [.int c],.u),(.int most,.z)])/\GoodSh ps/\(ps.length:Int)<=most/\∀ q ∈ ps,-(2 ^ 61) < q.2/\q.2 < 2 ^ 61:=by
 have t:=fK
 have a0:=dU n most (by omega)
 have b0:=dU (n / most) 5 (by decide)
 have m:=dU (n / most / 5) 9 (by decide)
 obtain ⟨c,k,ps,v6,v7,v8,e,l,f,d,bnd⟩:=vH (n:=n / most / 5 / 9) (most:=most) (many:=1+n % most) (kd:=n / most % 5) (x:=0 - n / most / 5 % 9) ⟨by omega,by omega⟩ b0.1 b0.2 (by omega) (by omega)
 have good:GoodSh ps:=⟨by omega,by omega,fun q b=>by
  obtain ⟨a1,a2,i,h⟩:=bnd q b
  exact ⟨by omega,by omega,by omega,by omega⟩,f,d⟩
 have a:GoodSh (ps.map b8):=⟨by simpa using good.pos,by simpa using good.most,fun q b=>by
  obtain ⟨r,g,rfl⟩:=Dh.mp b
  obtain ⟨a1,a2,i,h⟩:=bnd r g
  exact ⟨by show -(2 ^ 62) < r.1 * 1000000000000;omega,by show r.1 * 1000000000000 < 2 ^ 62;omega,by show -(2 ^ 62) < r.2 * 1000000000000000+7;omega,by show r.2 * 1000000000000000+7 < 2 ^ 62;omega⟩,qy f,qK d⟩
 have pre:∀ {r:Option (Except L3.D Flw × Sto)},aD (sIf (cB (ah eqX (av aS (ac (ad 0) (ac (mC (.int 6)) ai))) (mC (.int 5)))) (bj 5 dn) cn) (a7 2 (aC qi (ac (ad 5) ai))) (df c most (1+n % most) (n / most % 5) k ps v6 v7 v8)=r->mj [some (.lst [.int n],.u),some (.int most,.z),none,none,none,none,none,none,none]=r:=by
  intro r g
  apply ak (ρ1:=[some (.lst [.int (n / most)],.u),some (.int most,.z),some (.int (1+n % most),.z),none,none,none,none,none,none])
  ·nomatch [(t n most (by omega))]
  apply ak (ρ1:=[some (.lst [.int (n / most / 5)],.u),some (.int most,.z),some (.int (1+n % most),.z),some (.int (n / most % 5),.z),none,none,none,none,none])
  ·nomatch [(t _ _ (by decide))]
  apply ak (ρ1:=[some (.lst [.int (n / most / 5 / 9)],.u),some (.int most,.z),some (.int (1+n % most),.z),some (.int (n / most % 5),.z),some (.int (0 - n / most / 5 % 9),.z),none,none,none,none])
  ·nomatch [(t _ _ (by decide))]
  apply ak (ρ1:=df (n / most / 5 / 9) most (1+n % most) (n / most % 5) (0 - n / most / 5 % 9) [] none none none)
  ·nofun
  exact ak e g
 by_cases j:c % 6=5
 ·refine ⟨c / 6,ps.map b8,?_,a,by rw [Dd];omega,fun q b=>?_⟩
  ·apply bc (ρ:=[some (.lst [.int n],.u),some (.int most,.z),none,none,none,none,none,none,none]) rfl rfl
   ·apply pre
    apply ak
    ·apply jQ
     ·nomatch [(t _ _ (by decide))]
     ·exact Do j
     ·exact tU ps (by omega)
    ·nofun
   ·rfl
  ·obtain ⟨r,g,rfl⟩:=Dh.mp b
   obtain ⟨a1,a2,i,h⟩:=bnd r g
   exact ⟨by show -(2 ^ 61) < r.2 * 1000000000000000+7;omega,by show r.2 * 1000000000000000+7 < 2 ^ 61;omega⟩
 ·refine ⟨c / 6,ps,?_,good,by omega,fun q b=>?_⟩
  ·apply bc (ρ:=[some (.lst [.int n],.u),some (.int most,.z),none,none,none,none,none,none,none]) rfl rfl
   ·apply pre
    apply ak
    ·apply bK
     ·nomatch [(t _ _ (by decide))]
     ·exact Dp j
     ·rfl
    ·nofun
   ·rfl
  ·obtain ⟨a1,a2,i,h⟩:=bnd q b
   exact ⟨by omega,by omega⟩
def aj (ps:List Pt) (i:Nat):Pt:=ps.getD i (0,0)
theorem aB {ps:List Pt} {i:Nat} (h:i < ps.length):ps[i]?=some (aj ps i):=by
 simp [aj,List.getD,h]
theorem kF {ps:List Pt} {i:Nat} (a:∀ p ∈ ps,Small p) (h:i < ps.length):Small (aj ps i):=a _ (Df (aB h))
theorem uO {xs:List L3.D} {m:Nat} (h:m<=xs.length):fZ xs (some (m:Int)) none=xs.drop m:=by
 have e1:HT.sIx xs.length xs.length none=xs.length:=rfl
 have a:HT.sIx xs.length 0 (some (m:Int))=m:=by
  simp only [HT.sIx]
  split <;> omega
 unfold fZ
 rw [e1,a]
 rw [List.take_of_length_le]
 simp
theorem tJ {ps:List Pt} {k:Nat} {z:Pt} (h:k < ps.length):(ps.take k).map Pd ++ [Pd z] ++ (ps.drop (k+1)).map Pd=(ps.set k z).map Pd:=by
 rw [List.set_eq_take_append_cons_drop,if_pos h]
 simp
theorem nP {α:Type} {xs:List α} {i:Nat} {d:α} (h:i < xs.length):xs[i]?=some (xs.getD i d):=by simp [List.getD,h]
theorem kM {d:L3.D} {p:PyData} (b:eqS d d=none) (h:pyD d=some p) (a:p.canLay0=true) (hd:p.depth<=30):neX d d=some (.bl false,.z):=by
 have h1:eqA d d=some true:=by
  unfold eqA
  rw [b]
  exact xu h a hd
 show (eqA d d).map _=_
 rw [h1];rfl
structure SheetX (ps:List Pt):Prop where
 pos:0 < ps.length
 most:ps.length<=24
 rise:∀ i j:Nat,i < j->j < ps.length->0 < (aj ps j).1 - (aj ps i).1/\(aj ps j).1 - (aj ps i).1 < 18446744073709551616
 nol:∀ i j k:Nat,i < j->j < k->k < ps.length->aW (aj ps i) (aj ps j) (aj ps k) ≠ 0
theorem kB (p q r:Int × Int) (h1:-18446744073709551616 < q.1 - p.1/\q.1 - p.1 < 18446744073709551616) (h2:-18446744073709551616 < r.1 - p.1/\r.1 - p.1 < 18446744073709551616):gf [(Pd p,.z),(Pd q,.z),(Pd r,.z)]=some (.ok (.int (aW p q r),.z),[(Pd p,.z),(Pd q,.z),(Pd r,.z)]):=by
 apply bc (ρ:=[some (Pd p,.z),some (Pd q,.z),some (Pd r,.z),none]) rfl rfl
 ·apply ak
  ·exists fO h1
  ·exists kN h2
 ·rfl
theorem mz {S:List L3.D} {i j k:Int} {p q r:Pt} {v2:Option (L3.D × Fl)} (a1:ay (.tup S) (.int i)=some (Pd p,.z)) (a2:ay (.tup S) (.int j)=some (Pd q,.z)) (f:ay (.tup S) (.int k)=some (Pd r,.z)) (b:gf [(Pd p,.z),(Pd q,.z),(Pd r,.z)]=some (.ok (.int (aW p q r),.z),[(Pd p,.z),(Pd q,.z),(Pd r,.z)])) (h0:aW p q r ≠ 0):aO [some (.tup S,.z),some (.tup [.int i,.int j,.int k],.z),v2]=some (.ok .nx,[some (.tup S,.z),some (.tup [.int i,.int j,.int k],.z),some (.tup [Pd p,Pd q,Pd r],.z)]):=by
 have one:∀ (x d:L3.D) (a:Option (L3.D × Fl)),ay (.tup S) x=some (d,.z)->bb [some (x,.z),some (.tup S,.z)]=some (.ok (.val d .z),[some (x,.z),some (.tup S,.z)]):=fun x d a h=>by unfold bb;(exists h)
 have c:b9 [some (.tup S,.z),some (.tup [.int i,.int j,.int k],.z),v2]=some (.ok (.val (.lst [Pd p,Pd q,Pd r]) .u),[some (.tup S,.z),some (.tup [.int i,.int j,.int k],.z),v2]):=by
  refine cu (ρ1:=[some (.tup S,.z),some (.tup [.int i,.int j,.int k],.z),v2]) (ρ2:=[some (.tup S,.z),some (.tup [.int i,.int j,.int k],.z),v2]) (ds:=[.int i,.int j,.int k]) (rs:=[.pl 1]) (τ:=[some (.int k,.z),some (.tup S,.z)]) rfl ?_ (by simp) rfl
  have e1:=one (.int i) _ none a1
  have g:=one (.int j) _ none a2
  have e:=one (.int k) _ none f
  have l:∀ d a,aq 0 d [a,some (L3.D.tup S,.z)]=some [some (d,.z),some (.tup S,.z)]:=fun _ _=>rfl
  have cs:p6 [none,some 0] (aK cG (us [some (L3.D.tup S,.z),some (.tup [.int i,.int j,.int k],.z),v2] (pls [R3.pl 1])) [some (.tup S,.z),some (.tup [.int i,.int j,.int k],.z),v2])=[none,some (.tup S,.z)]:=rfl
  rw [cs]
  simp only [bX,l,fB,ag,ba,if_true,e1,g,e,d8,nol]
 unfold aO
 apply ak
 ·(repeat' (first | with_reducible exact c | infer_instance | eq_refl))
 ·apply bK
  ·nomatch [b]
  ·exact Dp h0
  ·rfl
theorem z5 {ps:List Pt} (s:SheetX ps) {i j k:Nat} (c:i < j) (e:j < k) (d:k < ps.length):gf [(Pd (aj ps i),.z),(Pd (aj ps j),.z),(Pd (aj ps k),.z)]=some (.ok (.int (aW (aj ps i) (aj ps j) (aj ps k)),.z),[(Pd (aj ps i),.z),(Pd (aj ps j),.z),(Pd (aj ps k),.z)]):=by
 have a:=s.rise i j c (by omega)
 have b:=s.rise i k (by omega) d
 exact kB _ _ _ (by omega) (by omega)
theorem vJ {ps:List Pt} (s:SheetX ps):a8 [(Shd ps,.z)]=some (.ok (.non,.z),[(Shd ps,.z)]):=by
 have a:=kA ps.length (by have:=s.most;omega)
 rw [show (ps.length:Int)=((ps.map Pd).length:Int) by rw [Dd]] at a
 obtain ⟨ρ',e,v1,v2,rfl⟩:=bh (bnd:=aq 1) (b:=aO) (fun _ ρ=>∃ v1 v2,ρ=[some (Shd ps,.z),v1,v2]) (ds:=(jV ps.length).map Td) (ρ:=[some (Shd ps,.z),none,none]) (k:=0) ⟨none,none,rfl⟩ (by
  rintro m d ρ hd ⟨v1,v2,rfl⟩
  rw [Di,C5] at hd
  obtain ⟨t,a,rfl⟩:=hd
  obtain ⟨g,f,c⟩:=pE (Df a)
  have b:=mz (v2:=v2) (bH (eX (aB (show t.1 < ps.length by omega)))) (bH (eX (aB (show t.2.1 < ps.length by omega)))) (bH (eX (aB c))) (z5 s g f c) (s.nol _ _ _ g f c)
  exact ⟨[some (Shd ps,.z),some (Td t,.z),v2],_,rfl,.inl b,_,_,rfl⟩)
 apply bc (ρ:=[some (Shd ps,.z),none,none]) rfl rfl
 ·apply ak
  ·apply bW
   ·nomatch [a]
   ·rfl
   ·exact e
  ·nofun
 ·rfl
theorem tX {ps:List Pt} (s:SheetX ps):Rising ps:=fun i j p q c h1 h2=>by
 have d:=(De.mp h2).1
 have a:=s.rise i j c d
 have e1:=aB (ps:=ps) (i:=i) (by omega)
 have b:=aB (ps:=ps) (i:=j) d
 rw [h1] at e1
 rw [h2] at b
 injection e1 with e1
 injection b with b
 rw [<- e1,<- b] at a
 omega
theorem mZ {ps:List Pt} (g:SheetX ps):fc [(Shd ps,.z)]=some (.ok (.bl true,.z),[(Shd ps,.z)]):=by
 have h1:=vL ps g.pos g.most
 have h2:=o3 ps g.pos g.most (tX g)
 have h3:=vJ g
 apply bc (ρ:=[some (Shd ps,.z)]) rfl rfl
 ·apply ak
  ·apply bK
   ·nomatch [h1]
   ·rfl
   ·rfl
  ·nomatch [h2,h3]
 ·rfl
theorem qu {ps:List Pt} (g:SheetX ps):b6 [(Shd ps,.z)]=some (.ok (.non,.z),[(Shd ps,.z)]):=by
 have h1:=mZ g
 apply CV (ρ:=[some (Shd ps,.z)]) rfl rfl
 ·apply bK
  ·nomatch [h1]
  ·rfl
  ·rfl
 ·rfl
theorem tH {ps:List Pt} (g:GoodSh ps):SheetX ps where
 pos:=g.pos
 most:=g.most
 rise:=fun i j b d=>by
  have a:=g.rising i j _ _ b (aB (by omega)) (aB d)
  obtain ⟨a1,a2,_,_⟩:=kF g.small (i:=i) (by omega)
  obtain ⟨b1,b2,_,_⟩:=kF g.small d
  omega
 nol:=fun i j k b c e=>g.noline _ _ _ _ _ _ b c (aB (by omega)) (aB (by omega)) (aB e)
theorem qr (i:Int):gz [(.int i,.z)]=some (.ok (.bl true,.z),[(.int i,.z)]):=by
 apply bc (ρ:=[some (.int i,.z)]) rfl rfl
 ·nofun
 ·rfl
theorem lX (p q r:Int × Int) (h1:-18446744073709551616 < q.1 - p.1/\q.1 - p.1 < 18446744073709551616) (h2:-18446744073709551616 < r.1 - p.1/\r.1 - p.1 < 18446744073709551616):bE [(Pd p,.z),(Pd q,.z),(Pd r,.z)]=some (.ok (.int (aW p q r),.z),[(Pd p,.z),(Pd q,.z),(Pd r,.z)]):=by
 apply bc (ρ:=[some (Pd p,.z),some (Pd q,.z),some (Pd r,.z),none]) rfl rfl
 ·apply ak
  ·exists fO h1
  ·exists kN h2
 ·rfl
theorem tV {ps:List Pt} (s:SheetX ps) {i j k:Nat} (c:i < j) (e:j < k) (d:k < ps.length):bE [(Pd (aj ps i),.z),(Pd (aj ps j),.z),(Pd (aj ps k),.z)]=some (.ok (.int (aW (aj ps i) (aj ps j) (aj ps k)),.z),[(Pd (aj ps i),.z),(Pd (aj ps j),.z),(Pd (aj ps k),.z)]):=by
 have a:=s.rise i j c (by omega)
 have b:=s.rise i k (by omega) d
 exact lX _ _ _ (by omega) (by omega)
theorem mY {ps:List Pt} (s:SheetX ps):cE [(Shd ps,.z)]=some (.ok (.bl true,.z),[(Shd ps,.z)]):=by
 have sm:=s.most
 have sp:=s.pos
 have at':∀ i:Nat,i < ps.length->ay (Shd ps) (.int (0+(i:Int)))=some (Pd (aj ps i),.z):=fun i hi=>bH (by rw [Int.zero_add];exact eX (aB hi))
 obtain ⟨ρ1,e1,v1,rfl⟩:=bh (bnd:=aq 1) (b:=ft) (fun _ ρ=>∃ v1,ρ=[some (Shd ps,.z),v1,none,none]) (ds:=ps.map Pd) (ρ:=[some (Shd ps,.z),none,none,none]) (k:=0) ⟨none,rfl⟩ (by
  rintro m d ρ hd ⟨v1,rfl⟩
  rw [Di,C5] at hd
  obtain ⟨p,y,rfl⟩:=hd
  obtain ⟨τ',e,a,rfl⟩:=f9 (bnd:=aq 0) (c:=fB) (elt:=fk) (fun τ=>∃ a,τ=[a]) L3.D.int (fun _=>true) (fun _=>.bl true) (xs:=[p.1,p.2]) (τ:=[none]) ⟨none,rfl⟩ (by
   rintro k f τ ⟨a,rfl⟩
   exact ⟨[some (.int k,.z)],_,rfl,rfl,(fun h=>by cases h),fun _=>⟨.val (.bl true) .z,[some (.int k,.z)],(.bl true,.z),_,aA (qr k) (aL (aQ rfl) bV) rfl rfl rfl,rfl,rfl,_,rfl⟩⟩)
  have n:fi [some (Shd ps,.z),some (Pd p,.z),none,none]=some (.ok (.val (.lst [.bl true,.bl true]) .u),[some (Shd ps,.z),some (Pd p,.z),none,none]):=cu (rs:=[.pl 1]) (ρ1:=[some (Shd ps,.z),some (Pd p,.z),none,none]) (ρ2:=[some (Shd ps,.z),some (Pd p,.z),none,none]) rfl e (by simp) rfl
  refine ⟨[some (Shd ps,.z),some (Pd p,.z),none,none],[some (Shd ps,.z),some (Pd p,.z),none,none],rfl,.inl ?_,_,rfl⟩
  apply bK
  ·apply pP (b:=false)
   ·nofun
   ·rfl
   ·apply pP (b:=false)
    ·nofun
    ·rfl
    ·exact nM (uC (gu (aL n bV) rfl rfl) rfl)
  ·rfl
  ·rfl)
 have row:∀ (j k:Nat) (v1:Option (L3.D × Fl)),j < k->k < ps.length->c5 [some (Shd ps,.z),v1,some (.int (0+(k:Int)),.z),some (.int (0+(j:Int)),.z)]=some (.ok .nx,[some (Shd ps,.z),v1,some (.int (0+(k:Int)),.z),some (.int (0+(j:Int)),.z)]):=by
  intro j k v1 l f
  obtain ⟨τ',e,a,rfl⟩:=f9 (bnd:=aq 0) (c:=fm) (elt:=fj) (fun τ=>∃ a,τ=[a,some (Shd ps,.z),some (.int (0+(j:Int)),.z),some (.int (0+(k:Int)),.z)]) (fun i:Nat=>L3.D.int (0+(i:Int))) (fun _=>false) (fun i:Nat=>L3.D.int (0+(i:Int))) (xs:=List.range j) (τ:=[none,some (Shd ps,.z),some (.int (0+(j:Int)),.z),some (.int (0+(k:Int)),.z)]) ⟨none,rfl⟩ (by
   rintro i hi τ ⟨a,rfl⟩
   rw [List.mem_range] at hi
   have b:=tV s hi l f
   have ne:=s.nol i j k hi l f
   refine ⟨[some (.int (0+(i:Int)),.z),some (Shd ps,.z),some (.int (0+(j:Int)),.z),some (.int (0+(k:Int)),.z)],[some (.int (0+(i:Int)),.z),some (Shd ps,.z),some (.int (0+(j:Int)),.z),some (.int (0+(k:Int)),.z)],rfl,?_,fun _=>⟨_,rfl⟩,fun h=>by cases h⟩
   rw [show false=decide (aW (aj ps i) (aj ps j) (aj ps k)=0) from (Dp ne).symm]
   exact uC (fw (aA b (aL (fw (aQ rfl) (aQ rfl) rfl rfl (at' i (by omega))) (aL (fw (aQ rfl) (aQ rfl) rfl rfl (at' j (by omega))) (aL (fw (aQ rfl) (aQ rfl) rfl rfl (at' k f)) bV))) rfl rfl rfl) i_c rfl rfl rfl) rfl)
  rw [show ((List.range j).filter fun _=>false)=[] by simp] at e
  have g:bM [.int (0+(j:Int))]=some (aT 0 j):=bQ (by omega) (by omega)
  have n:fh [some (Shd ps,.z),v1,some (.int (0+(k:Int)),.z),some (.int (0+(j:Int)),.z)]=some (.ok (.val (.lst []) .u),[some (Shd ps,.z),v1,some (.int (0+(k:Int)),.z),some (.int (0+(j:Int)),.z)]):=cu (rs:=[]) (ρ1:=[some (Shd ps,.z),v1,some (.int (0+(k:Int)),.z),some (.int (0+(j:Int)),.z)]) (ds:=aT 0 j) (by (repeat' (first | with_reducible apply cy (h3:=g) | infer_instance | eq_refl))) e (by rw [bL];omega) rfl
  have ne:neX (.lst []) (.lst [])=some (.bl false,.z):=kM (p:=.list []) rfl rfl rfl (by simp [PyData.depth,PyData.depthAll])
  apply bK
  ·exact uC (fw n (qY bV rfl (Nat.le_of_ble_eq_true rfl)) rfl rfl ne) rfl
  ·rfl
  ·rfl
 obtain ⟨ρ2,n,x,w,A,rfl⟩:=bh (bnd:=aq 2) (b:=fq) (fun _ ρ=>∃ v1 v2 v3,ρ=[some (Shd ps,.z),v1,v2,v3]) (ds:=aT 0 ps.length) (ρ:=[some (Shd ps,.z),v1,none,none]) (k:=0) ⟨v1,none,none,rfl⟩ (by
  rintro k d ρ hd ⟨v1,v2,v3,rfl⟩
  obtain ⟨f,rfl⟩:=bu hd
  obtain ⟨ρ',e,o,rfl⟩:=bh (bnd:=aq 3) (b:=c5) (fun _ ρ=>∃ v3,ρ=[some (Shd ps,.z),v1,some (.int (0+(k:Int)),.z),v3]) (ds:=aT 0 k) (ρ:=[some (Shd ps,.z),v1,some (.int (0+(k:Int)),.z),v3]) (k:=0) ⟨v3,rfl⟩ (by
   rintro j d ρ hd ⟨v3,rfl⟩
   obtain ⟨q,rfl⟩:=bu hd
   exact ⟨_,_,rfl,.inl (row j k v1 q f),_,rfl⟩)
  have g:bM [.int (0+(k:Int))]=some (aT 0 k):=bQ (by omega) (by omega)
  refine ⟨_,[some (Shd ps,.z),v1,some (.int (0+(k:Int)),.z),o],rfl,.inl ?_,_,_,_,rfl⟩
  apply ak (ρ1:=[some (Shd ps,.z),v1,some (.int (0+(k:Int)),.z),v3])
  ·by_cases h0:k=0
   ·apply bK
    ·apply nN
     ·nofun
     ·exact Dp (by omega)
    ·rfl
    ·rfl
   ·have a1:ay (Shd ps) (.int (0+(k:Int) - 1))=some (Pd (aj ps (k - 1)),.z):=bH (by rw [show (0+(k:Int) - 1)=((k - 1:Nat):Int) by omega];exact eX (aB (by omega)))
    have r:=s.rise (k - 1) k (by omega) f
    apply bK
    ·apply kW
     ·nofun
     ·exact Do (by omega)
     ·exact uC (fw (fw (fw (aQ rfl) (fw (aQ rfl) i_c rfl rfl rfl) rfl rfl a1) i_c rfl rfl rfl) (fw (fw (aQ rfl) (aQ rfl) rfl rfl (at' k f)) i_c rfl rfl rfl) rfl rfl rfl) rfl
    ·exact Dp (by omega)
    ·rfl
  ·apply bW
   ·(repeat' (first | with_reducible apply cy (h3:=g) | infer_instance | eq_refl))
   ·rfl
   ·exact e)
 have t:leI (.int 1) (.int ((ps.map Pd).length:Int))=some (.bl true,.z):=by simp [cS];omega
 have v:leI (.int ((ps.map Pd).length:Int)) (.int 24)=some (.bl true,.z):=by simp [cS];omega
 have g:bM [.int ((ps.map Pd).length:Int)]=some (aT 0 ps.length):=bQ (by simp;omega) (by simp)
 apply bc (ρ:=[some (Shd ps,.z),none,none,none]) rfl rfl
 ·apply ak (ρ1:=[some (Shd ps,.z),none,none,none])
  ·apply bK
   ·apply pP (b:=false)
    ·nofun
    ·rfl
    ·exact nM (uC (kc i_c (gu (aL (aQ rfl) bV) rfl rfl) rfl rfl t i_c rfl rfl v) rfl)
   ·rfl
   ·rfl
  apply ak (ρ1:=[some (Shd ps,.z),v1,none,none])
  ·apply bW
   ·nofun
   ·rfl
   ·exact e1
  apply ak
  ·apply bW
   ·(repeat' (first | with_reducible apply cy (h3:=g) | infer_instance | eq_refl))
   ·rfl
   ·exact n
  ·nofun
 ·rfl
section
variable {ρ ρ1 ρ2:Sto} {ms:M3 (List R3)} {rs:List R3} {d:L3.D} {fl:Fl} {e:L3.D} {m:EM} {sa sb:SM} {n:Nat}
theorem iZ {F:Fn} {ps qs:List (L3.D × Fl)} (a:F ps=some (.ok (d,fl),qs)) (h1:ms ρ=some (.ok rs,ρ1)) (h2:prs (frz (eU rs) ρ1) rs=some ps) (h3:qs.length=ps.length) (b:back rs ps qs (frz (eU rs) ρ1) = ρ2):fu F ms ρ=some (.ok (.val d fl),ρ2):=by
 simp only [fu,ag,h1,h2,a,h3,if_true,b]
theorem sE {F:Fn} {ps qs:List (L3.D × Fl)} (a:F ps=some (.error e,qs)) (h1:ms ρ=some (.ok rs,ρ1)) (h2:prs (frz (eU rs) ρ1) rs=some ps) (h3:qs.length=ps.length) (b:back rs ps qs (frz (eU rs) ρ1) = ρ2):fu F ms ρ=some (.error e,ρ2):=by
 simp only [fu,ag,h1,h2,a,h3,if_true,b]
theorem Cs (h:sa ρ=some (.error e,ρ1)):aD sa sb ρ=some (.error e,ρ1):=by simp only [aD,ag,h]
theorem wZ (h:m ρ=some (.error e,ρ1)):a7 n m ρ=some (.error e,ρ1):=by simp only [a7,ag,h]
theorem Ax {mask:List Bool} {ps qs:List (L3.D × Fl)} (h1:ps.length=mask.length) (h0:entry n (List.zipWith pJ mask ps) = ρ) (h2:sa ρ=some (.error e,ρ1)) (h3:d5 ρ1 0 (List.zipWith pJ mask ps)=some qs):fnM mask n sa ps=some (.error e,qs):=by
 subst h0;simp only [fnM,h1,if_true,fn0,h2,h3,Dw]
theorem Cr {cs:List String} {i:Nat} (h1:sa ρ=some (.ok (.rt d fl),ρ1)):mW cs i sa sb ρ=some (.ok (.rt d fl),ρ1):=by
 simp only [mW,h1]
end
theorem uF {S:List L3.D} {i j k:Int} {p q r:Pt} {v2:Option (L3.D × Fl)} (a1:ay (.tup S) (.int i)=some (Pd p,.z)) (a2:ay (.tup S) (.int j)=some (Pd q,.z)) (f:ay (.tup S) (.int k)=some (Pd r,.z)) (b:gf [(Pd p,.z),(Pd q,.z),(Pd r,.z)]=some (.ok (.int (aW p q r),.z),[(Pd p,.z),(Pd q,.z),(Pd r,.z)])) (h0:aW p q r=0):aO [some (.tup S,.z),some (.tup [.int i,.int j,.int k],.z),v2]=some (.ok (.rt (.tup [Pd p,Pd q,Pd r]) .z),[some (.tup S,.z),some (.tup [.int i,.int j,.int k],.z),some (.tup [Pd p,Pd q,Pd r],.z)]):=by
 have one:∀ (x d:L3.D) (a:Option (L3.D × Fl)),ay (.tup S) x=some (d,.z)->bb [some (x,.z),some (.tup S,.z)]=some (.ok (.val d .z),[some (x,.z),some (.tup S,.z)]):=fun x d a h=>by unfold bb;(exists h)
 have c:b9 [some (.tup S,.z),some (.tup [.int i,.int j,.int k],.z),v2]=some (.ok (.val (.lst [Pd p,Pd q,Pd r]) .u),[some (.tup S,.z),some (.tup [.int i,.int j,.int k],.z),v2]):=by
  refine cu (ρ1:=[some (.tup S,.z),some (.tup [.int i,.int j,.int k],.z),v2]) (ρ2:=[some (.tup S,.z),some (.tup [.int i,.int j,.int k],.z),v2]) (ds:=[.int i,.int j,.int k]) (rs:=[.pl 1]) (τ:=[some (.int k,.z),some (.tup S,.z)]) rfl ?_ (by simp) rfl
  have e1:=one (.int i) _ none a1
  have g:=one (.int j) _ none a2
  have e:=one (.int k) _ none f
  have l:∀ d a,aq 0 d [a,some (L3.D.tup S,.z)]=some [some (d,.z),some (.tup S,.z)]:=fun _ _=>rfl
  have cs:p6 [none,some 0] (aK cG (us [some (L3.D.tup S,.z),some (.tup [.int i,.int j,.int k],.z),v2] (pls [R3.pl 1])) [some (.tup S,.z),some (.tup [.int i,.int j,.int k],.z),v2])=[none,some (.tup S,.z)]:=rfl
  rw [cs]
  simp only [bX,l,fB,ag,ba,if_true,e1,g,e,d8,nol]
 unfold aO
 apply ak (ρ1:=[some (.tup S,.z),some (.tup [.int i,.int j,.int k],.z),some (.tup [Pd p,Pd q,Pd r],.z)])
 ·(repeat' (first | with_reducible exact c | infer_instance | eq_refl))
 ·apply jQ
  ·nomatch [b]
  ·exact Do h0
  ·exact iY (aQ rfl) rfl
theorem eS (xs:List L3.D):cb [.tup xs]=some (.int (xs.length:Int),.z):=by simp [zw,c1]
abbrev fnd:Option L3.D->Flw
 | none=>.nx
 | some o=>.rt o .z
theorem el {α:Type} {bnd:L3.D->Sto->Option Sto} {b:SM} (P:Sto->Prop) (D:α->L3.D) (f:α->Option L3.D):∀ {xs:List α} {ρ:Sto},P ρ ->
  (∀ x ∈ xs,∀ ρ,P ρ->∃ ρ1 ρ2,bnd (D x) ρ=some ρ1/\P ρ2/\b ρ1=some (.ok (fnd (f x)),ρ2))->∃ ρ',P ρ'/\dJ bnd b (xs.map D) ρ=some (.ok (fnd (xs.findSome? f)),ρ')
 | [],ρ,h,_=>⟨ρ,h,rfl⟩
 | x :: xs,ρ,h,hs=>by
  obtain ⟨ρ1,ρ2,e1,h2,a⟩:=hs x C2 ρ h
  cases hf:f x with
  | some o =>
   rw [hf] at a
   refine ⟨ρ2,h2,?_⟩
   rw [Dn,List.findSome?_cons,hf]
   unfold dJ
   simp only [e1,ag,a,ba]
  | none =>
   rw [hf] at a
   obtain ⟨ρ',h3,c⟩:=el P D f h2 fun y d=>hs y (C3 _ d)
   refine ⟨ρ',h3,?_⟩
   rw [Dn,List.findSome?_cons,hf]
   unfold dJ
   simp only [e1,ag,a]
   exact c
theorem jw {α β γ:Type} (f:α->List β) (g:β->Option γ):∀ xs:List α,(xs.flatMap f).findSome? g=xs.findSome? fun x=>(f x).findSome? g
 | []=>rfl
 | x :: xs=>by
  rw [List.flatMap_cons,List.findSome?_append,jw f g xs,List.findSome?_cons]
  cases (f x).findSome? g <;> rfl
structure RisP (ps:List Pt):Prop where
 pos:0 < ps.length
 most:ps.length<=24
 rise:∀ i j:Nat,i < j->j < ps.length->0 < (aj ps j).1 - (aj ps i).1/\(aj ps j).1 - (aj ps i).1 < 18446744073709551616
abbrev bJ (ps:List Pt) (t:Tri):L3.D:=.tup [Pd (aj ps t.1),Pd (aj ps t.2.1),Pd (aj ps t.2.2)]
def bv (ps:List Pt) (t:Tri):Option L3.D:=if aW (aj ps t.1) (aj ps t.2.1) (aj ps t.2.2)=0 then some (bJ ps t) else none
def cA (ps:List Pt):Option L3.D:=(jV ps.length).findSome? (bv ps)
def bG (ps:List Pt):L3.D:=(cA ps).getD .non
section
variable {ps:List Pt} (s:RisP ps)
include s
theorem xI {i j k:Nat} (c:i < j) (e:j < k) (d:k < ps.length):gf [(Pd (aj ps i),.z),(Pd (aj ps j),.z),(Pd (aj ps k),.z)]=some (.ok (.int (aW (aj ps i) (aj ps j) (aj ps k)),.z),[(Pd (aj ps i),.z),(Pd (aj ps j),.z),(Pd (aj ps k),.z)]):=by
 have a:=s.rise i j c (by omega)
 have b:=s.rise i k (by omega) d
 exact kB _ _ _ (by omega) (by omega)
theorem xJ {i j k:Nat} (c:i < j) (e:j < k) (d:k < ps.length):bE [(Pd (aj ps i),.z),(Pd (aj ps j),.z),(Pd (aj ps k),.z)]=some (.ok (.int (aW (aj ps i) (aj ps j) (aj ps k)),.z),[(Pd (aj ps i),.z),(Pd (aj ps j),.z),(Pd (aj ps k),.z)]):=by
 have a:=s.rise i j c (by omega)
 have b:=s.rise i k (by omega) d
 exact lX _ _ _ (by omega) (by omega)
theorem Cv:a8 [(Shd ps,.z)]=some (.ok (bG ps,.z),[(Shd ps,.z)]):=by
 have a:=kA ps.length (by have:=s.most;omega)
 have f:cb [Shd ps]=some (.int (ps.length:Int),.z):=by
  have:=eS (ps.map Pd)
  rwa [Dd] at this
 obtain ⟨ρ',⟨v1,v2,rfl⟩,e⟩:=el (bnd:=aq 1) (b:=aO) (fun ρ=>∃ v1 v2,ρ=[some (Shd ps,.z),v1,v2]) Td (bv ps) (xs:=jV ps.length) (ρ:=[some (Shd ps,.z),none,none]) ⟨none,none,rfl⟩ (by
  rintro t a ρ ⟨v1,v2,rfl⟩
  obtain ⟨i,g,d⟩:=pE a
  have a1:=bH (eX (aB (show t.1 < ps.length by omega)))
  have a2:=bH (eX (aB (show t.2.1 < ps.length by omega)))
  have c:=bH (eX (aB d))
  have b:=xI s i g d
  by_cases h0:aW (aj ps t.1) (aj ps t.2.1) (aj ps t.2.2)=0
  ·refine ⟨[some (Shd ps,.z),some (Td t,.z),v2],[some (Shd ps,.z),some (Td t,.z),some (bJ ps t,.z)],rfl,⟨_,_,rfl⟩,?_⟩
   rw [show bv ps t=some (bJ ps t) from if_pos h0]
   exact uF a1 a2 c b h0
  ·refine ⟨[some (Shd ps,.z),some (Td t,.z),v2],[some (Shd ps,.z),some (Td t,.z),some (bJ ps t,.z)],rfl,⟨_,_,rfl⟩,?_⟩
   rw [show bv ps t=none from if_neg h0]
   exact mz a1 a2 c b h0)
 have im:dS (av ge (ac (aC cb (ac (ad 0) ai)) ai)) [some (Shd ps,.z),none,none]=some (.ok ([.val (.lst ((jV ps.length).map Td)) .u],(jV ps.length).map Td),[some (Shd ps,.z),none,none]):=sD (aA a (aL (gu (aL (aQ rfl) bV) rfl f) bV) rfl rfl rfl) rfl rfl
 unfold bG cA
 cases h:(jV ps.length).findSome? (bv ps) with
 | none =>
  rw [h] at e
  exact bc (ρ:=[some (Shd ps,.z),none,none]) rfl rfl (ak (bW im rfl e) (iY i_c rfl)) rfl
 | some o =>
  rw [h] at e
  exact bc (ρ:=[some (Shd ps,.z),none,none]) rfl rfl (mT (bW im rfl e)) rfl
theorem Ce {i j k:Nat} (c:i < j) (d:j < k) (e:k < ps.length):dm [some (Shd ps,.z),some (.int (i:Int),.z),some (.int (j:Int),.z),some (.int (k:Int),.z)]=some (.ok (fnd (bv ps (i,j,k))),[some (Shd ps,.z),some (.int (i:Int),.z),some (.int (j:Int),.z),some (.int (k:Int),.z)]):=by
 have a1:ay (Shd ps) (.int (i:Int))=_:=bH (eX (aB (show i < ps.length by omega)))
 have a2:ay (Shd ps) (.int (j:Int))=_:=bH (eX (aB (show j < ps.length by omega)))
 have a:ay (Shd ps) (.int (k:Int))=_:=bH (eX (aB e))
 have b:=xJ s c d e
 unfold dm
 by_cases h0:aW (aj ps i) (aj ps j) (aj ps k)=0
 ·rw [show bv ps (i,j,k)=some (bJ ps (i,j,k)) from if_pos h0]
  apply jQ
  ·nomatch [b],[a1,a2,a,zR]
  ·exact Do h0
  ·exists a1,a2,a
 ·rw [show bv ps (i,j,k)=none from if_neg h0]
  apply bK
  ·nomatch [b],[a1,a2,a,zR]
  ·exact Dp h0
  ·rfl
theorem Cd {i j:Nat} {v3:Option (L3.D × Fl)} (c:i < j) (h:j < ps.length):∃ a,dl [some (Shd ps,.z),some (.int (i:Int),.z),some (.int (j:Int),.z),v3]=some (.ok (fnd ((iu i j (ps.length - (j+1))).findSome? (bv ps))),[some (Shd ps,.z),some (.int (i:Int),.z),some (.int (j:Int),.z),a]):=by
 have hm:=s.most
 have g:cb [Shd ps]=some (.int (ps.length:Int),.z):=by
  have:=eS (ps.map Pd)
  rwa [Dd] at this
 obtain ⟨ρ',⟨d,rfl⟩,e⟩:=el (bnd:=aq 3) (b:=dm) (fun ρ=>∃ v3,ρ=[some (Shd ps,.z),some (.int (i:Int),.z),some (.int (j:Int),.z),v3]) (fun m:Nat=>L3.D.int (((j:Int)+1)+(m:Int))) (fun m=>bv ps (i,j,j+1+m)) (xs:=List.range (ps.length - (j+1))) (ρ:=[some (Shd ps,.z),some (.int (i:Int),.z),some (.int (j:Int),.z),v3]) ⟨v3,rfl⟩ (by
  rintro m hm ρ ⟨v3,rfl⟩
  have hm:=List.mem_range.mp hm
  refine ⟨[some (Shd ps,.z),some (.int (i:Int),.z),some (.int (j:Int),.z),some (.int (((j:Int)+1)+(m:Int)),.z)],[some (Shd ps,.z),some (.int (i:Int),.z),some (.int (j:Int),.z),some (.int (((j:Int)+1)+(m:Int)),.z)],rfl,⟨_,rfl⟩,?_⟩
  have:=Ce s c (show j < j+1+m by omega) (by omega)
  rw [show (((j:Int)+1)+(m:Int))=((j+1+m:Nat):Int) by omega]
  exact this)
 have f:fM [.int ((j:Int)+1),.int (ps.length:Int)]=some (aT ((j:Int)+1) (ps.length - (j+1))):=iM (by omega) (by omega) (by omega)
 refine ⟨d,?_⟩
 unfold dl
 have:(iu i j (ps.length - (j+1))).findSome? (bv ps)=(List.range (ps.length - (j+1))).findSome? fun m=>bv ps (i,j,j+1+m):=by
  unfold iu;rw [List.findSome?_map];rfl
 rw [this]
 apply bW
 ·(repeat' (first | with_reducible apply cy (h3:=f) | infer_instance | exact g | eq_refl))
 ·rfl
 ·exact e
theorem Cc {i:Nat} {v2 v3:Option (L3.D × Fl)} (hi:i < ps.length):∃ c a,dj [some (Shd ps,.z),some (.int (i:Int),.z),v2,v3]=some (.ok (fnd ((fA ps.length i (ps.length - (i+1))).findSome? (bv ps))),[some (Shd ps,.z),some (.int (i:Int),.z),c,a]):=by
 have hm:=s.most
 have g:cb [Shd ps]=some (.int (ps.length:Int),.z):=by
  have:=eS (ps.map Pd)
  rwa [Dd] at this
 obtain ⟨ρ',⟨h,d,rfl⟩,e⟩:=el (bnd:=aq 2) (b:=dl) (fun ρ=>∃ v2 v3,ρ=[some (Shd ps,.z),some (.int (i:Int),.z),v2,v3]) (fun m:Nat=>L3.D.int (((i:Int)+1)+(m:Int))) (fun m=>(iu i (i+1+m) (ps.length - (i+1+m+1))).findSome? (bv ps)) (xs:=List.range (ps.length - (i+1))) (ρ:=[some (Shd ps,.z),some (.int (i:Int),.z),v2,v3]) ⟨v2,v3,rfl⟩ (by
  rintro m hm ρ ⟨v2,v3,rfl⟩
  have hm:=List.mem_range.mp hm
  obtain ⟨w,e⟩:=Cd s (v3:=v3) (show i < i+1+m by omega) (by omega)
  refine ⟨[some (Shd ps,.z),some (.int (i:Int),.z),some (.int (((i:Int)+1)+(m:Int)),.z),v3],[some (Shd ps,.z),some (.int (i:Int),.z),some (.int (((i:Int)+1)+(m:Int)),.z),w],rfl,⟨_,w,rfl⟩,?_⟩
  rw [show (((i:Int)+1)+(m:Int))=((i+1+m:Nat):Int) by omega]
  exact e)
 have f:fM [.int ((i:Int)+1),.int (ps.length:Int)]=some (aT ((i:Int)+1) (ps.length - (i+1))):=iM (by omega) (by omega) (by omega)
 refine ⟨h,d,?_⟩
 unfold dj
 have:(fA ps.length i (ps.length - (i+1))).findSome? (bv ps)=(List.range (ps.length - (i+1))).findSome? fun m=>(iu i (i+1+m) (ps.length - (i+1+m+1))).findSome? (bv ps):=by
  unfold fA;rw [jw]
 rw [this]
 apply bW
 ·(repeat' (first | with_reducible apply cy (h3:=f) | infer_instance | exact g | eq_refl))
 ·rfl
 ·exact e
theorem Ca:gJ [(Shd ps,.z)]=some (.ok (bG ps,.z),[(Shd ps,.z)]):=by
 have hm:=s.most
 have d:cb [Shd ps]=some (.int (ps.length:Int),.z):=by
  have:=eS (ps.map Pd)
  rwa [Dd] at this
 obtain ⟨ρ',⟨g,i,f,rfl⟩,e⟩:=el (bnd:=aq 1) (b:=dj) (fun ρ=>∃ v1 v2 v3,ρ=[some (Shd ps,.z),v1,v2,v3]) (fun m:Nat=>L3.D.int (0+(m:Int))) (fun m=>(fA ps.length m (ps.length - (m+1))).findSome? (bv ps)) (xs:=List.range ps.length) (ρ:=[some (Shd ps,.z),none,none,none]) ⟨none,none,none,rfl⟩ (by
  rintro m hm ρ ⟨v1,v2,v3,rfl⟩
  have hm:=List.mem_range.mp hm
  obtain ⟨w,a,e⟩:=Cc s (v2:=v2) (v3:=v3) hm
  refine ⟨[some (Shd ps,.z),some (.int (0+(m:Int)),.z),v2,v3],[some (Shd ps,.z),some (.int (0+(m:Int)),.z),w,a],rfl,⟨_,w,a,rfl⟩,?_⟩
  rw [show (0+(m:Int))=(m:Int) by omega]
  exact e)
 have c:bM [.int (ps.length:Int)]=some (aT 0 ps.length):=bQ (by omega) (by omega)
 have im:aZ bM (ac (aC cb (ac (ad 0) ai)) ai) [some (Shd ps,.z),none,none,none]=some (.ok ([],aT 0 ps.length),[some (Shd ps,.z),none,none,none]):=by (repeat' (first | with_reducible apply cy (h3:=c) | infer_instance | exact d | eq_refl))
 have:cA ps=(List.range ps.length).findSome? fun m=>(fA ps.length m (ps.length - (m+1))).findSome? (bv ps):=by
  unfold cA jV ly;rw [jw]
 unfold bG
 rw [<- this] at e
 cases h:cA ps with
 | none =>
  rw [h] at e
  exact bc (ρ:=[some (Shd ps,.z),none,none,none]) rfl rfl (ak (bW im rfl e) (iY i_c rfl)) rfl
 | some o =>
  rw [h] at e
  exact bc (ρ:=[some (Shd ps,.z),none,none,none]) rfl rfl (mT (bW im rfl e)) rfl
end
theorem lP:∀ ns:List (List Int),jE (ns.map ntD)=some ns
 | []=>rfl
 | n :: ns=>by
  have a:=lP ns
  have e:cR (n.map L3.D.int)=some n:=by
   clear a
   induction n with
   | nil=>rfl
   | cons x n a=>simp [cR,a]
  show (cR (n.map L3.D.int)).bind (fun n=>(jE (ns.map ntD)).map (n :: ·))=_
  rw [e,a];rfl
theorem tz {ns:List (List Int)} {is:List Nat} (h1:uz ns=true) (h2:ns.length<=16777216) (h3:bC ns=some is) (b:is.length<=16777216) (a:(is.all fun i=>decide (i < ns.length))=true):mR [.lst (ns.map ntD)]=some (.lst (is.map fun i=>ntD (ns.getD i [])),.u):=by
 show (jE (ns.map ntD)).bind _=_
 rw [lP]
 show (if (uz ns && decide (ns.length<=16777216))=true then _ else _)=_
 rw [h1,Do h2,Bool.and_self,if_pos rfl,h3]
 show (if (decide (is.length<=16777216) && is.all fun i=>decide (i < ns.length))=true then _ else _)=_
 rw [a,Do b,Bool.and_self,if_pos rfl]
theorem Aa:∀ (l m:List Nat),l.Perm m->l.Pairwise (· < ·)->m.Pairwise (· < ·)->l=m
 | [],m,h,_,_=>(List.nil_perm.mp h).symm
 | x :: l,[],h,_,_=>by cases List.perm_nil.mp h
 | x :: l,y :: m,h,h1,h2=>by
  rw [List.pairwise_cons] at h1 h2
  have e:x=y:=by
   have c:=h.mem_iff.mp (C2 (a:=x) (l:=l))
   have b:=h.mem_iff.mpr (C2 (a:=y) (l:=m))
   rcases C8.mp c with e | c
   ·exact e
   ·rcases C8.mp b with e | b
    ·exact e.symm
    ·have:=h1.1 y b
     have:=h2.1 x c
     omega
  subst e
  rw [Aa l m h.cons_inv h1.2 h2.2]
theorem oP {ps:List Pt} (d:ps.length < 64) (R:Rising ps):mR [.lst (ps.map Pd)]=some (.lst (ps.map Pd),.u):=by
 have m:∀ i j:Nat,∀ p q,ps[i]?=some p->ps[j]?=some q->p.1=q.1->i=j:=fun i j p q k l e=>by
  rcases Nat.lt_trichotomy i j with h | h | h
  ·have:=R i j p q h k l;omega
  ·exact h
  ·have:=R j i q p h l k;omega
 have b:∀ i (h:i < ps.length),(ps.map fun p=>[p.1,p.2]).getD i []=[(ps[i]'h).1,(ps[i]'h).2]:=fun i h=>by
  rw [List.getD_eq_getElem?_getD,Di,C9 h]
  rfl
 have w:∀ i (h:i < ps.length),ps.getD i (0,0)=ps[i]'h:=fun i h=>by
  rw [List.getD_eq_getElem?_getD,C9 h]
  rfl
 have ln:(ps.map fun p=>[p.1,p.2]).length=ps.length:=Dd ..
 obtain ⟨is,e1,c,o⟩:=kj (ns:=ps.map fun p=>[p.1,p.2]) (by rw [ln];exact d) (fun i j hi a e=>by
   rw [ln] at hi a
   rw [b i hi,b j a] at e
   exact m i j _ _ (C9 hi) (C9 a) (by injection e))
 rw [ln] at c
 have f:∀ i ∈ is,i < ps.length:=fun i hi=>by simpa using c.mem_iff.mp hi
 have v:is.length=ps.length:=by rw [c.length_eq,List.length_range]
 have up:is.Pairwise (· < ·):=by
  rw [List.pairwise_iff_getElem]
  intro i j hi a g
  have al:=f is[i] (List.getElem_mem hi)
  have bl:=f is[j] (List.getElem_mem a)
  have lt:=o i j is[i] is[j] g (C9 hi) (C9 a)
  rw [b _ al,b _ bl] at lt
  by_cases s:is[i] < is[j]
  ·exact s
  ·exfalso
   by_cases he:is[i]=is[j]
   ·have:HT.lexLt [(ps[is[i]]'al).1,(ps[is[i]]'al).2] [(ps[is[j]]'bl).1,(ps[is[j]]'bl).2]=true:=lt
    simp only [he] at this
    rw [kT] at this
    cases this
   ·have r:=R is[j] is[i] _ _ (by omega) (C9 bl) (C9 al)
    rw [HT.lexLt_cons,if_neg (by omega)] at lt
    have:=of_decide_eq_true lt
    omega
 have:is=List.range ps.length:=Aa _ _ c up List.pairwise_lt_range
 have es:(ps.map fun p=>[p.1,p.2]).map ntD=ps.map Pd:=by rw [DI];rfl
 have h:=tz (ns:=ps.map fun p=>[p.1,p.2]) (by
  unfold uz
  rw [Bool.or_eq_true]
  refine .inl (List.all_eq_true.mpr fun n t=>?_)
  obtain ⟨p,_,rfl⟩:=Dh.mp t
  rfl) (by rw [ln];omega) e1 (by omega) (List.all_eq_true.mpr fun i hi=>Do (by rw [ln];exact f i hi))
 rw [es] at h
 rw [h,this]
 congr 2
 refine congrArg L3.D.lst (List.ext_getElem? fun i=>?_)
 rw [Di]
 by_cases hi:i < ps.length
 ·rw [List.getElem?_range hi,Di,C9 hi]
  show some (ntD ((ps.map fun p=>[p.1,p.2]).getD i []))=some (Pd (ps[i]'hi))
  rw [b i hi]
  rfl
 ·rw [List.getElem?_eq_none (by simp;omega),List.getElem?_eq_none (by simp;omega)]
  rfl
theorem xb {c n:String} {ms:M3 (List R3)} {r:R3} {d:L3.D} {ρ ρ1:Sto} (h:ms ρ=some (.ok [r],ρ1)) (hd:der r ρ1=some (.ok d,ρ1)) (hi:imm d=true):gm c n ms ρ=some (.error (.exc c [(n,d)]),ρ1):=by
 simp only [gm,ag,h,hd,hi,if_true]
theorem Cq {cs:List String} {i:Nat} {c:String} {fs:List (String × L3.D)} {sa sb:SM} {ρ ρ1 ρ2:Sto} {d:L3.D} {fl:Fl} (h1:sa ρ=some (.error (.exc c fs),ρ1)) (a:c ∈ cs) (h2:sb (ρ1.set i (some (.exc c fs,.z)))=some (.ok (.rt d fl),ρ2)):mW cs i sa sb ρ=some (.ok (.rt d fl),ρ2):=by
 simp only [mW,h1,a,if_true,h2]
theorem uX {ps:List Pt} (h0:0 < ps.length) (h1:ps.length<=24):bB [(.lst (ps.map Pd),.u)]=some (.ok (.bl true,.z),[(.lst (ps.map Pd),.u)]):=by
 obtain ⟨τ',e,a,rfl⟩:=eB (bnd:=aq 0) (c:=fB) (elt:=bD) (fun τ=>∃ a,τ=[a]) (fun _=>true) (fun _=>.bl true) (ds:=ps.map Pd) (τ:=[none]) ⟨none,rfl⟩ (by
  rintro d hd τ ⟨a,rfl⟩
  obtain ⟨p,k,rfl⟩:=Dh.mp hd
  exact ⟨[some (Pd p,.z)],_,rfl,rfl,(fun h=>by cases h),fun _=>⟨.val (.bl true) .z,[some (Pd p,.z)],(.bl true,.z),[some (Pd p,.z)],by unfold bD;(nomatch [(lW _)]),rfl,rfl,_,rfl⟩⟩)
 have f:=jC (ds:=((ps.map Pd).filter fun _=>true).map fun _=>.bl true) (fun d hd=>by obtain ⟨_,_,rfl⟩:=Dh.mp hd;rfl)
 generalize ((ps.map Pd).filter fun _=>true).map (fun _=>L3.D.bl true)=out at *
 have i:c6 [some (.lst (ps.map Pd),.u)]=some (.ok (.val (.lst out) .u),[some (.lst (ps.map Pd),.u)]):=cu (im:=dS (ad 0)) (ix:=[none]) (ρ1:=[some (.lst (ps.map Pd),.u)]) (ρ2:=[some (.lst (ps.map Pd),.l)]) (ds:=ps.map Pd) (rs:=[.pl 0]) rfl e (by simp;omega) rfl
 have b:cb [.lst (ps.map Pd)]=some (.int ((ps.map Pd).length:Int),.z):=by simp [zw,c1]
 have j:leI (.int 1) (.int ((ps.map Pd).length:Int))=some (.bl true,.z):=by simp [cS];omega
 have g:leI (.int ((ps.map Pd).length:Int)) (.int 24)=some (.bl true,.z):=by simp [cS];omega
 apply bc (ρ:=[some (.lst (ps.map Pd),.u)]) rfl rfl
 ·apply iY
  ·apply kb
   ·apply kc
    ·exact i_c
    ·exists b
    ·rfl
    ·rfl
    ·exact j
    ·exact i_c
    ·rfl
    ·rfl
    ·exact g
   ·rfl
   ·rfl
   ·(repeat' (first | with_reducible exact i | infer_instance | exact f | eq_refl))
  ·rfl
 ·rfl
theorem jH {ps:List Pt} (s:RisP ps):Rising ps:=fun i j p q c h1 h2=>by
 have d:=(De.mp h2).1
 have a:=s.rise i j c d
 have e1:=aB (ps:=ps) (i:=i) (by omega)
 have b:=aB (ps:=ps) (i:=j) d
 rw [h1] at e1
 rw [h2] at b
 injection e1 with e1
 injection b with b
 rw [<- e1,<- b] at a
 omega
def oI (ps:List Pt):Except L3.D (L3.D × Fl):=match cA ps with
 | none=>.ok (Shd ps,.z)
 | some o=>.error (.exc "OnLine" [("three",o)])
theorem jR {ps:List Pt} {o:L3.D} (h:cA ps=some o):∃ t ∈ jV ps.length,o=bJ ps t:=by
 obtain ⟨t,a,e⟩:=List.exists_of_findSome?_eq_some h
 unfold bv at e
 split at e
 ·cases e;exact ⟨t,a,rfl⟩
 ·cases e
theorem x6 {xs:List L3.D} (h:xs.length<=16777216):qi [.lst xs]=some (.tup xs,.z):=by simp [qi,c1,tupQ,h]
theorem oZ {ps:List Pt} (s:RisP ps):cD [(.lst (ps.map Pd),.u)]=some (oI ps,[(.lst (ps.map Pd),.u)]):=by
 have h1:=uX s.pos s.most
 have h2:=oP (by have:=s.most;omega) (jH s)
 have h3:=o3 ps s.pos s.most (jH s)
 have c:=Cv s
 have b:=x6 (xs:=ps.map Pd) (by have:=s.most;simp;omega)
 unfold oI
 have st:∀ (r:Option (Except L3.D Flw × Sto)),(aD (sIf (cB (ah uc (ad 2) (mC .non))) (gm "OnLine" "three" (ac (ad 2) ai)) cn) (a7 1 (ad 1))) [some (.lst (ps.map Pd),.u),some (Shd ps,.z),some (bG ps,.z)]=r->eO [some (.lst (ps.map Pd),.u),none,none]=r:=fun r a=>by
  unfold eO
  apply ak (ρ1:=[some (.lst (ps.map Pd),.u),none,none])
  ·apply bK
   ·nomatch [h1]
   ·rfl
   ·rfl
  apply ak (ρ1:=[some (.lst (ps.map Pd),.u),some (Shd ps,.z),none])
  ·exists h2,b
  apply ak (ρ1:=[some (.lst (ps.map Pd),.u),some (Shd ps,.z),none])
  ·apply bK
   ·nomatch [h3]
   ·rfl
   ·rfl
  apply ak (ρ1:=[some (.lst (ps.map Pd),.u),some (Shd ps,.z),some (bG ps,.z)])
  ·nomatch [c]
  ·exact a
 cases h:cA ps with
 | none =>
  have e:bG ps=.non:=by unfold bG;rw [h];rfl
  rw [e] at st
  refine bc (ρ:=[some (.lst (ps.map Pd),.u),none,none]) (ρ1:=[some (.lst (ps.map Pd),.u),some (Shd ps,.z),some (.non,.z)]) rfl rfl (st _ ?_) rfl
  apply ak
  ·apply bK
   ·nofun
   ·rfl
   ·rfl
  ·nofun
 | some o =>
  obtain ⟨t,_,rfl⟩:=jR h
  have e:bG ps=bJ ps t:=by unfold bG;rw [h];rfl
  rw [e] at st
  refine Ax (ρ:=[some (.lst (ps.map Pd),.u),none,none]) (ρ1:=[some (.lst (ps.map Pd),.u),some (Shd ps,.z),some (bJ ps t,.z)]) rfl rfl (st _ ?_) rfl
  apply Cs
  apply jQ
  ·nofun
  ·rfl
  ·exact xb (r:=.pl 2) (aL (aQ rfl) bV) rfl rfl
theorem vC {xs:List L3.D} {a:Nat} {d:L3.D} (h:a < xs.length):vD (.lst xs) [.int (a:Int),d]=some (.lst (xs.set a d),.non):=by
 have e:tK (.lst xs) [.int (a:Int),d]=some (.lst (xs.set a d),.non):=by
  show (L2.ixN xs.length (a:Int)).map _=_
  unfold L2.ixN
  rw [if_pos (by omega),if_pos (by omega)]
  simp
 show wx tK pg (.lst xs) [.int (a:Int),d]=_
 unfold wx
 rw [e]
theorem BD {k n:Int} (h0:0<=k) (h1:k < n):ff [(.int k,.z),(.int n,.z)]=some (.ok (.bl true,.z),[(.int k,.z),(.int n,.z)]):=by
 have w:=ji k
 have a:leI (.int 0) (.int k)=some (.bl true,.z):=by simp [cS,h0]
 have c:ltI (.int k) (.int n)=some (.bl true,.z):=by simp [cS,h1]
 apply bc (ρ:=[some (.int k,.z),some (.int n,.z)]) (ρ1:=[some (.int k,.z),some (.int n,.z)]) rfl rfl
 ·unfold kS
  apply iY (r:=.val (.bl true) .z) (ρ1:=[some (.int k,.z),some (.int n,.z)])
  ·apply kb (b:=true)
   ·nomatch [w]
   ·rfl
   ·rfl
   ·exact kc i_c (aQ rfl) rfl rfl a (aQ rfl) rfl rfl c
  ·rfl
 ·rfl
theorem cpx {k n:Int} (h0:0<=k) (h1:k < n):b7 [(.int k,.z),(.int n,.z)]=some (.ok (.non,.z),[(.int k,.z),(.int n,.z)]):=by
 have h:=BD h0 h1
 apply CV (ρ:=[some (.int k,.z),some (.int n,.z)]) rfl rfl
 ·apply bK (b:=false)
  ·apply nM (b:=true)
   nomatch [h]
  ·rfl
  ·rfl
 ·rfl
theorem cwx (i:Int):b5 [(.int i,.z)]=some (.ok (.non,.z),[(.int i,.z)]):=by
 apply CV (ρ:=[some (.int i,.z)]) rfl rfl
 ·apply bK
  ·nomatch [(ji _)]
  ·rfl
  ·rfl
 ·rfl
abbrev upP (ps:List Pt) (k:Nat) (b:Int):List Pt:=ps.set k ((aj ps k).1,(aj ps k).2+b)
theorem vd {ps:List Pt} {k:Nat} {b:Int} (i:Nat):(aj (upP ps k b) i).1=(aj ps i).1:=by
 unfold upP aj
 rw [List.getD_eq_getElem?_getD,List.getElem?_set]
 by_cases h:k=i
 ·subst h
  by_cases a:k < ps.length
  ·simp [a]
  ·simp [a]
 ·simp [h,List.getD_eq_getElem?_getD]
theorem mM {ps:List Pt} (s:SheetX ps) (k:Nat) (b:Int):RisP (upP ps k b) where
 pos:=by rw [List.length_set];exact s.pos
 most:=by rw [List.length_set];exact s.most
 rise:=fun i j a c=>by
  rw [List.length_set] at c
  rw [vd,vd]
  exact s.rise i j a c
theorem qt {ps:List Pt} (s:SheetX ps) {k:Nat} (c:k < ps.length) (b:Int):eY [(Shd ps,.z),(.int (k:Int),.z),(.int b,.z)]=some (oI (upP ps k b),[(Shd ps,.z),(.int (k:Int),.z),(.int b,.z)]):=by
 have h1:=qu s
 have h2:=cpx (k:=(k:Int)) (n:=(ps.length:Int)) (by omega) (by omega)
 have h3:=cwx b
 have d:cb [Shd ps]=some (.int (ps.length:Int),.z):=by
  have:=eS (ps.map Pd)
  rwa [Dd] at this
 have e:zv [Shd ps]=some (.lst (ps.map Pd),.u):=by
  have:=s.most
  simp [zv,c1,lstQ]
 have a1:ay (Shd ps) (.int (k:Int))=some (Pd (aj ps k),.z):=bH (eX (aB c))
 have g:vD (.lst (ps.map Pd)) [.int (k:Int),Pd ((aj ps k).1,(aj ps k).2+b)]=some (.lst ((upP ps k b).map Pd),.non):=by
  rw [vC (by simpa using c),List.map_set]
 have a:=oZ (mM s k b)
 have st:∀ (r:Option (Except L3.D Flw × Sto)),(a7 3 (fu cD (ac (ad 3) ai))) [some (Shd ps,.z),some (.int (k:Int),.z),some (.int b,.z),some (.lst ((upP ps k b).map Pd),.u)]=r->iy [some (Shd ps,.z),some (.int (k:Int),.z),some (.int b,.z),none]=r:=fun r f=>by
  unfold iy
  apply ak (ρ1:=[some (Shd ps,.z),some (.int (k:Int),.z),some (.int b,.z),none])
  ·exact nK (iZ h1 (aL (aQ rfl) bV) rfl rfl rfl)
  apply ak (ρ1:=[some (Shd ps,.z),some (.int (k:Int),.z),some (.int b,.z),none])
  ·exact nK (iZ h2 (aL (aQ rfl) (aL (gu (aL (aQ rfl) bV) rfl d) bV)) rfl rfl rfl)
  apply ak (ρ1:=[some (Shd ps,.z),some (.int (k:Int),.z),some (.int b,.z),none])
  ·exact nK (iZ h3 (aL (aQ rfl) bV) rfl rfl rfl)
  apply ak (ρ1:=[some (Shd ps,.z),some (.int (k:Int),.z),some (.int b,.z),some (.lst (ps.map Pd),.u)])
  ·exists e
  apply ak (ρ1:=[some (Shd ps,.z),some (.int (k:Int),.z),some (.int b,.z),some (.lst ((upP ps k b).map Pd),.u)])
  ·apply Ap (i:=3) (ρ1:=[some (Shd ps,.z),some (.int (k:Int),.z),some (.int b,.z),some (.lst (ps.map Pd),.u)]) (ρ2:=[some (Shd ps,.z),some (.int (k:Int),.z),some (.int b,.z),some (.lst (ps.map Pd),.u)]) (ρ3:=[some (Shd ps,.z),some (.int (k:Int),.z),some (.int b,.z),some (.lst (ps.map Pd),.u)])
   ·exists a1
   ·rfl
   ·exact aQ (i:=1) rfl
   ·rfl
   ·rfl
   ·exact g
  ·exact f
 unfold oI at a ⊢
 cases h:cA (upP ps k b) with
 | none =>
  rw [h] at a
  exact bc (ρ:=[some (Shd ps,.z),some (.int (k:Int),.z),some (.int b,.z),none]) (ρ1:=[some (Shd ps,.z),some (.int (k:Int),.z),some (.int b,.z),some (.lst ((upP ps k b).map Pd),.u)]) rfl rfl (st _ (iY (iZ a (aL (aQ rfl) bV) rfl rfl rfl) rfl)) rfl
 | some o =>
  rw [h] at a
  exact Ax (ρ:=[some (Shd ps,.z),some (.int (k:Int),.z),some (.int b,.z),none]) (ρ1:=[some (Shd ps,.z),some (.int (k:Int),.z),some (.int b,.z),some (.lst ((upP ps k b).map Pd),.u)]) rfl rfl (st _ (wZ (sE a (aL (aQ rfl) bV) rfl rfl rfl))) rfl
theorem t9 (o:L3.D):eZ [(.exc "OnLine" [("three",o)],.z),(.int 10,.z)]=some (.ok (.bl true,.z),[(.exc "OnLine" [("three",o)],.z),(.int 10,.z)]):=by kernel_rfl
def cz (ps:List Pt):L3.D × Fl:=match cA ps with
 | none=>(Shd ps,.z)
 | some o=>(.lst [.str "on line",o,.bl true],.u)
theorem vE {ps:List Pt} (s:SheetX ps) {k:Nat} (c:k < ps.length) (b:Int):jc [(Shd ps,.z),(.int (k:Int),.z),(.int b,.z)]=some (.ok (cz (upP ps k b)),[(Shd ps,.z),(.int (k:Int),.z),(.int b,.z)]):=by
 have h:=qt s c b
 unfold oI at h
 unfold cz
 cases e:cA (upP ps k b) with
 | none =>
  rw [e] at h
  exact bc (ρ:=[some (Shd ps,.z),some (.int (k:Int),.z),some (.int b,.z),none]) (ρ1:=[some (Shd ps,.z),some (.int (k:Int),.z),some (.int b,.z),none]) rfl rfl (Cr (iY (iZ h (aL (aQ rfl) (aL (aQ rfl) (aL (aQ rfl) bV))) rfl rfl rfl) rfl)) rfl
 | some o =>
  rw [e] at h
  have ol:=t9 o
  have a:om ["OnLine"] "three" (.exc "OnLine" [("three",o)])=some (o,.z):=by simp [om]
  have d:jN [some (Shd ps,.z),some (.int (k:Int),.z),some (.int b,.z),none]=some (.error (.exc "OnLine" [("three",o)]),[some (Shd ps,.z),some (.int (k:Int),.z),some (.int b,.z),none]):=wZ (sE h (aL (aQ rfl) (aL (aQ rfl) (aL (aQ rfl) bV))) rfl rfl rfl)
  refine bc (ρ:=[some (Shd ps,.z),some (.int (k:Int),.z),some (.int b,.z),none]) (ρ1:=[some (Shd ps,.z),some (.int (k:Int),.z),some (.int b,.z),some (.exc "OnLine" [("three",o)],.z)]) rfl rfl (Cq d (by decide) ?_) rfl
  unfold jM
  nomatch [ol],[a]
theorem nin2 (k i j:Int):∃ b:Bool,B2 (.int k) (.tup [.int i,.int j])=some (.bl b,.z):=⟨_,rfl⟩
theorem CG {a b:Int} (h0:0 < b) (h1:b < 1267650600228229401496703205376):uL (.int a) (.int b)=some (.int (a / b),.z):=by simp [cS,h0,h1]
theorem B5 {a b:Int} (h0:0 < b):kO (.int a) (.int b)=some (.int (a % b),.z):=by simp [cS,h0]
abbrev Is (ns:List Int):L3.D:=.lst (ns.map L3.D.int)
abbrev stO (ps:List Pt) (k:Nat) (ns:List Int) (v5 v6 v7 v8 v9 v10 v11:Option (L3.D × Fl)):Sto:=[some (Shd ps,.z),some (.int (k:Int),.z),some (.int (aj ps k).1,.z),some (.int (aj ps k).2,.z),some (Is ns,.u),v5,v6,v7,v8,v9,v10,v11]
section
variable {ps:List Pt} (s:SheetX ps)
include s
theorem xdiff {i j:Nat} (hi:i < ps.length) (a:j < ps.length):-18446744073709551616 < (aj ps j).1 - (aj ps i).1/\(aj ps j).1 - (aj ps i).1 < 18446744073709551616:=by
 rcases Nat.lt_trichotomy i j with h | h | h
 ·have:=s.rise i j h a;omega
 ·subst h;omega
 ·have:=s.rise j i h hi;omega
theorem zd {k i j:Nat} {ns:List Int} {v7 v8 v9 v10 v11:Option (L3.D × Fl)} (u:k < ps.length) (d:i < j) (g:j < ps.length) (A:ns.length < 10000) :
  ∃ (ms:List Int) (t w y c f:Option (L3.D × Fl)),ms.length<=ns.length+1/\cX (stO ps k ns (some (.int (i:Int),.z)) (some (.int (j:Int),.z)) v7 v8 v9 v10 v11)=some (.ok .nx,stO ps k ms (some (.int (i:Int),.z)) (some (.int (j:Int),.z)) t w y c f):=by
 have a1:ay (Shd ps) (.int (i:Int))=some (Pd (aj ps i),.z):=bH (eX (aB (by omega)))
 have a2:ay (Shd ps) (.int (j:Int))=some (Pd (aj ps j),.z):=bH (eX (aB g))
 have x:=xdiff s (show i < ps.length by omega) u
 have h:=s.rise i j d g
 generalize aj ps i=p at *
 generalize aj ps j=q at *
 have n:=kN (i:=q.2 - p.2) x
 have v:=kN (i:=p.2 - (aj ps k).2) (j:=q.1 - p.1) (by omega)
 have l:=B5 (a:=(q.2 - p.2) * ((aj ps k).1 - p.1)+(p.2 - (aj ps k).2) * (q.1 - p.1)) h.1
 have m:=CG (a:=(q.2 - p.2) * ((aj ps k).1 - p.1)+(p.2 - (aj ps k).2) * (q.1 - p.1)) h.1 (by omega)
 obtain ⟨b,e⟩:=nin2 (k:Int) (i:Int) (j:Int)
 have ap:rD (Is ns) [.int (((q.2 - p.2) * ((aj ps k).1 - p.1)+(p.2 - (aj ps k).2) * (q.1 - p.1)) / (q.1 - p.1))]=some (Is (ns ++ [((q.2 - p.2) * ((aj ps k).1 - p.1)+(p.2 - (aj ps k).2) * (q.1 - p.1)) / (q.1 - p.1)]),.non):=by
  rw [xQ (by simp;omega)];simp
 have st:∀ (r:Option (Except L3.D Flw × Sto)),(sIf (jA (cB (ah B2 (ad 1) (jm (ac (ad 5) (ac (ad 6) ai))))) (cB (ah eqX (ah kO (ad 11) (ah cF (ad 9) (ad 7))) (mC (.int 0))))) (fJ (pI isL rD 4 (ac (ah uL (ad 11) (ah cF (ad 9) (ad 7))) ai))) cn) (stO ps k ns (some (.int (i:Int),.z)) (some (.int (j:Int),.z)) (some (.int p.1,.z)) (some (.int p.2,.z)) (some (.int q.1,.z)) (some (.int q.2,.z)) (some (.int ((q.2 - p.2) * ((aj ps k).1 - p.1)+(p.2 - (aj ps k).2) * (q.1 - p.1)),.z)))=r->cX (stO ps k ns (some (.int (i:Int),.z)) (some (.int (j:Int),.z)) v7 v8 v9 v10 v11)=r:=fun r o=>by
  unfold cX
  apply ak (ρ1:=stO ps k ns (some (.int (i:Int),.z)) (some (.int (j:Int),.z)) (some (.int p.1,.z)) (some (.int p.2,.z)) (some (.int q.1,.z)) (some (.int q.2,.z)) v11)
  ·exists a1,a2
  apply ak (ρ1:=stO ps k ns (some (.int (i:Int),.z)) (some (.int (j:Int),.z)) (some (.int p.1,.z)) (some (.int p.2,.z)) (some (.int q.1,.z)) (some (.int q.2,.z)) (some (.int ((q.2 - p.2) * ((aj ps k).1 - p.1)+(p.2 - (aj ps k).2) * (q.1 - p.1)),.z)))
  ·exists n,v
  ·exact o
 cases b with
 | false =>
  refine ⟨ns,some (.int p.1,.z),some (.int p.2,.z),some (.int q.1,.z),some (.int q.2,.z),some (.int ((q.2 - p.2) * ((aj ps k).1 - p.1)+(p.2 - (aj ps k).2) * (q.1 - p.1)),.z),by omega,st _ ?_⟩
  apply bK
  ·apply nN
   ·exists e
   ·rfl
  ·rfl
  ·rfl
 | true =>
  by_cases h0:((q.2 - p.2) * ((aj ps k).1 - p.1)+(p.2 - (aj ps k).2) * (q.1 - p.1)) % (q.1 - p.1)=0
  ·refine ⟨ns ++ [((q.2 - p.2) * ((aj ps k).1 - p.1)+(p.2 - (aj ps k).2) * (q.1 - p.1)) / (q.1 - p.1)],some (.int p.1,.z),some (.int p.2,.z),some (.int q.1,.z),some (.int q.2,.z),some (.int ((q.2 - p.2) * ((aj ps k).1 - p.1)+(p.2 - (aj ps k).2) * (q.1 - p.1)),.z),by simp,st _ ?_⟩
   apply jQ
   ·apply kW
    ·exists e
    ·rfl
    ·exists l,zR
   ·exact Do h0
   ·exists m,ap
  ·refine ⟨ns,some (.int p.1,.z),some (.int p.2,.z),some (.int q.1,.z),some (.int q.2,.z),some (.int ((q.2 - p.2) * ((aj ps k).1 - p.1)+(p.2 - (aj ps k).2) * (q.1 - p.1)),.z),by omega,st _ ?_⟩
   apply bK
   ·apply kW
    ·exists e
    ·rfl
    ·exists l,zR
   ·exact Dp h0
   ·rfl
theorem vG {k:Nat} (p:k < ps.length):∃ ns:List Int,ns.length<=600/\jd [(Shd ps,.z),(.int (k:Int),.z)]=some (.ok (Is ns,.u),[(Shd ps,.z),(.int (k:Int),.z)]):=by
 have hm:=s.most
 have o:cb [Shd ps]=some (.int (ps.length:Int),.z):=by
  have:=eS (ps.map Pd)
  rwa [Dd] at this
 have a0:ay (Shd ps) (.int (k:Int))=some (Pd (aj ps k),.z):=bH (eX (aB p))
 obtain ⟨ρ',e,ns,v5,v6,v7,v8,v9,v10,v11,g,rfl⟩:=bh (bnd:=aq 5) (b:=fT) (fun m ρ=>∃ (ns:List Int) (v5 v6 v7 v8 v9 v10 v11:Option (L3.D × Fl)),ns.length<=24 * m/\ρ=stO ps k ns v5 v6 v7 v8 v9 v10 v11) (ds:=aT 0 ps.length) (ρ:=stO ps k [] none none none none none none none) (k:=0) ⟨[],_,_,_,_,_,_,_,by simp,rfl⟩ (by
  rintro m d ρ hd ⟨ns,v5,v6,v7,v8,v9,v10,v11,g,rfl⟩
  obtain ⟨w,rfl⟩:=bu hd
  rw [Dr] at g ⊢
  obtain ⟨ρ',e,ms,v,n,q,r,a,f,l,rfl⟩:=bh (bnd:=aq 6) (b:=cX) (fun c ρ=>∃ (ms:List Int) (v6 v7 v8 v9 v10 v11:Option (L3.D × Fl)),ms.length<=ns.length+c/\ρ=stO ps k ms (some (.int (m:Int),.z)) v6 v7 v8 v9 v10 v11) (ds:=aT ((m:Int)+1) (ps.length - (m+1))) (ρ:=stO ps k ns (some (.int (m:Int),.z)) v6 v7 v8 v9 v10 v11) (k:=0) ⟨ns,_,_,_,_,_,_,by omega,rfl⟩ (by
   rintro c d ρ hd ⟨ms,v6,v7,v8,v9,v10,v11,h,rfl⟩
   obtain ⟨x,rfl⟩:=bu hd
   rw [Dr] at h ⊢
   obtain ⟨j,n,q,r,a,f,t,e⟩:=zd s (ns:=ms) (v7:=v7) (v8:=v8) (v9:=v9) (v10:=v10) (v11:=v11) p (show m < m+1+c by omega) (by omega) (by omega)
   rw [show ((m+1+c:Nat):Int)=(m:Int)+1+(c:Int) by omega] at e
   exact ⟨stO ps k ms (some (.int (m:Int),.z)) (some (.int ((m:Int)+1+(c:Int)),.z)) v7 v8 v9 v10 v11,_,rfl,.inl e,j,_,_,_,_,_,_,by omega,rfl⟩)
  rw [bL] at l
  have i:fM [.int ((m:Int)+1),.int (ps.length:Int)]=some (aT ((m:Int)+1) (ps.length - (m+1))):=iM (by omega) (by omega) (by omega)
  refine ⟨stO ps k ns (some (.int (m:Int),.z)) v6 v7 v8 v9 v10 v11,stO ps k ms (some (.int (m:Int),.z)) v n q r a f,by rw [Int.zero_add];rfl,.inl ?_,ms,_,_,_,_,_,_,_,by omega,rfl⟩
  unfold fT
  apply bW
  ·(repeat' (first | with_reducible apply cy (h3:=i) | infer_instance | exact o | eq_refl))
  ·rfl
  ·exact e)
 rw [bL,Dr] at g
 have i:bM [.int (ps.length:Int)]=some (aT 0 ps.length):=bQ (by omega) (by omega)
 refine ⟨ns,by omega,?_⟩
 apply bc (ρ:=[some (Shd ps,.z),some (.int (k:Int),.z),none,none,none,none,none,none,none,none,none,none]) rfl rfl
 ·apply ak (ρ1:=[some (Shd ps,.z),some (.int (k:Int),.z),some (.int (aj ps k).1,.z),some (.int (aj ps k).2,.z),none,none,none,none,none,none,none,none])
  ·exists a0
  apply ak (ρ1:=stO ps k [] none none none none none none none)
  ·nofun
  apply ak (ρ1:=stO ps k ns v5 v6 v7 v8 v9 v10 v11)
  ·apply bW
   ·(repeat' (first | with_reducible apply cy (h3:=i) | infer_instance | exact o | eq_refl))
   ·rfl
   ·exact e
  ·nofun
 ·rfl
end
abbrev Py2 (p:Pt):PyData:=.tuple [.int p.1,.int p.2]
theorem wg:∀ ps:List Pt,lz (ps.map Pd)=some (ps.map Py2)/\PyData.canLayAll0 (ps.map Py2)=true/\PyData.depthAll (ps.map Py2)<=1
 | []=>⟨rfl,rfl,by simp [PyData.depthAll]⟩
 | p :: ps=>by
  obtain ⟨a,b,c⟩:=wg ps
  refine ⟨?_,by simp [PyData.canLayAll0,PyData.canLay0,b],by simp [PyData.depthAll,PyData.depth];omega⟩
  show (match pyD (Pd p),lz (ps.map Pd) with | some p,some ps=>some (p :: ps) | _,_=>none)=_
  rw [a]
  rfl
theorem B4 (ps:List Pt):neX (Shd ps) (Shd ps)=some (.bl false,.z):=by
 obtain ⟨a,b,c⟩:=wg ps
 refine kM (p:=.tuple (ps.map Py2)) rfl ?_ ?_ ?_
 ·unfold pyD;rw [a];rfl
 ·simpa [PyData.canLay0] using b
 ·simp only [PyData.depth];omega
theorem wH (ps:List Pt) (t:Tri):neX (.lst [.str "on line",bJ ps t,.bl true]) (.lst [.str "on line",bJ ps t,.bl true])=some (.bl false,.z):=by
 refine kM (p:=.list [.str "on line",.tuple [Py2 (aj ps t.1),Py2 (aj ps t.2.1),Py2 (aj ps t.2.2)],.bool true]) rfl rfl ?_ ?_
 ·simp [PyData.canLay0,PyData.canLayAll0]
  decide +kernel
 ·simp [PyData.depth,PyData.depthAll]
theorem uk {n i j k:Nat} (h1:i < j) (h2:j < k) (h3:k < n):(i,j,k) ∈ jV n:=by
 refine DH.mpr ⟨i,List.mem_range.mpr (by omega),DH.mpr ⟨j - (i+1),List.mem_range.mpr (by omega),Dh.mpr ⟨k - (j+1),List.mem_range.mpr (by omega),?_⟩⟩⟩
 refine Prod.ext rfl (Prod.ext ?_ ?_) <;> simp <;> omega
theorem qm {ps:List Pt} (s:RisP ps) (h:cA ps=none):SheetX ps where
 pos:=s.pos
 most:=s.most
 rise:=s.rise
 nol:=fun i j k a b c h0=>by
  have:=List.findSome?_eq_none_iff.mp h (i,j,k) (uk a b c)
  unfold bv at this
  rw [if_pos h0] at this
  cases this
theorem cut3 (ns:List Int):∃ ms:List Int,ms.length<=ns.length/\slD (Is ns) none (some 3)=some (Is ms,.u):=by
 refine ⟨(ns.drop (HT.sIx (ns.map L3.D.int).length 0 none)).take (HT.sIx (ns.map L3.D.int).length (ns.map L3.D.int).length (some 3) - HT.sIx (ns.map L3.D.int).length 0 none),by simp;omega,?_⟩
 show some (L3.D.lst (fZ (ns.map L3.D.int) none (some 3)),Fl.u)=_
 unfold fZ
 rw [<- List.map_drop,<- List.map_take]
abbrev stL (ns:List Int) (i:Nat) (n:Int) (ps:List Pt) (v4 v5 v6 v7 v8 v9 v10 v11:Option (L3.D × Fl)):Sto:=[some (.fls (ns.map .int),.z),some (.int (i:Int),.z),some (.lst [.int n],.u),some (Shd ps,.z),v4,v5,v6,v7,v8,v9,v10,v11]
theorem Cg {ns:List Int} {i:Nat} {n:Int} {ps:List Pt} (s:SheetX ps) {k:Nat} (c:k < ps.length) (b:Int) {v5 v7 v8 v9 v10 v11:Option (L3.D × Fl)}:∃ q y v a e,fS (stL ns i n ps (some (.int (k:Int),.z)) v5 (some (.int b,.z)) v7 v8 v9 v10 v11)=some (.ok .nx,stL ns i n ps (some (.int (k:Int),.z)) v5 (some (.int b,.z)) q y v a e):=by
 have hm:=s.most
 have a0:ay (Shd ps) (.int (k:Int))=some (Pd (aj ps k),.z):=bH (eX (aB c))
 have ct:fZ (ps.map Pd) none (some (k:Int))=(ps.take k).map Pd:=by rw [zT (by simp;omega),List.map_take]
 have w:fZ (ps.map Pd) (some ((k:Int)+1)) none=(ps.drop (k+1)).map Pd:=by
  rw [show (k:Int)+1=((k+1:Nat):Int) by omega,uO (by simp;omega),List.map_drop]
 have st1:slD (Shd ps) none (some (k:Int))=some (.tup ((ps.take k).map Pd),.z):=by show some (L3.D.tup (fZ (ps.map Pd) none (some (k:Int))),Fl.z)=_;rw [ct]
 have d:slD (Shd ps) (some ((k:Int)+1)) none=some (.tup ((ps.drop (k+1)).map Pd),.z):=by show some (L3.D.tup (fZ (ps.map Pd) (some ((k:Int)+1)) none),Fl.z)=_;rw [w]
 have j:bP (.tup ((ps.take k).map Pd)) (.tup [Pd ((aj ps k).1,(aj ps k).2+b)])=some (.tup ((ps.take k).map Pd ++ [Pd ((aj ps k).1,(aj ps k).2+b)]),.z):=sU (by simp;omega)
 have f:bP (.tup ((ps.take k).map Pd ++ [Pd ((aj ps k).1,(aj ps k).2+b)])) (.tup ((ps.drop (k+1)).map Pd))=some (Shd (upP ps k b),.z):=by
  rw [sU (by simp;omega),tJ c]
 have h1:=Ca (mM s k b)
 have h2:=vE s c b
 have g:=mM s k b
 have sn:=qm g
 have x:∀ Q,nol (cz Q).2=(cz Q).2:=fun Q=>by unfold cz;cases cA Q <;> rfl
 generalize upP ps k b=Q at *
 have st:∀ (r:Option (Except L3.D Flw × Sto)),(aD (sIf (jA (cB (ah uc (ad 10) (mC .non))) (cB (ah neX (ad 11) (eR (ac (mC (.str "on line")) (ac (ad 10) (ac (mC (.bl true)) ai))))))) (a7 1 (mC (.bl false))) cn) (sIf (jA (cB (ah isN (ad 10) (mC .non))) (cOr (d6 (cB (av cE (ac (ad 11) ai)))) (cB (ah neX (ad 11) (ad 9))))) (a7 1 (mC (.bl false))) cn)) (stL ns i n ps (some (.int (k:Int),.z)) v5 (some (.int b,.z)) (some (.int (aj ps k).1,.z)) (some (.int (aj ps k).2,.z)) (some (Shd Q,.z)) (some (bG Q,.z)) (some (cz Q)))=r->fS (stL ns i n ps (some (.int (k:Int),.z)) v5 (some (.int b,.z)) v7 v8 v9 v10 v11)=r:=fun r p=>by
  unfold fS
  apply ak (ρ1:=stL ns i n ps (some (.int (k:Int),.z)) v5 (some (.int b,.z)) (some (.int (aj ps k).1,.z)) (some (.int (aj ps k).2,.z)) v9 v10 v11)
  ·exists a0
  apply ak (ρ1:=stL ns i n ps (some (.int (k:Int),.z)) v5 (some (.int b,.z)) (some (.int (aj ps k).1,.z)) (some (.int (aj ps k).2,.z)) (some (Shd Q,.z)) v10 v11)
  ·exists st1,d,j,f
  apply ak (ρ1:=stL ns i n ps (some (.int (k:Int),.z)) v5 (some (.int b,.z)) (some (.int (aj ps k).1,.z)) (some (.int (aj ps k).2,.z)) (some (Shd Q,.z)) (some (bG Q,.z)) v11)
  ·nomatch [h1]
  apply ak (ρ1:=stL ns i n ps (some (.int (k:Int),.z)) v5 (some (.int b,.z)) (some (.int (aj ps k).1,.z)) (some (.int (aj ps k).2,.z)) (some (Shd Q,.z)) (some (bG Q,.z)) (some (cz Q)))
  ·exact sC (aA h2 (aL (aQ rfl) (aL (aQ rfl) (aL (aQ rfl) bV))) rfl rfl rfl) rfl (show 11 < 12 by decide) (by show List.set _ 11 (some ((cz Q).1,nol (cz Q).2))=_;rw [x];rfl)
  ·exact p
 refine ⟨some (.int (aj ps k).1,.z),some (.int (aj ps k).2,.z),some (Shd Q,.z),some (bG Q,.z),some (cz Q),st _ ?_⟩
 cases h:cA Q with
 | none =>
  have e1:bG Q=.non:=by unfold bG;rw [h];rfl
  have l:cz Q=(Shd Q,.z):=by unfold cz;rw [h]
  have m:=mY (sn h)
  have ne:=B4 Q
  rw [e1,l]
  apply ak (ρ1:=stL ns i n ps (some (.int (k:Int),.z)) v5 (some (.int b,.z)) (some (.int (aj ps k).1,.z)) (some (.int (aj ps k).2,.z)) (some (Shd Q,.z)) (some (.non,.z)) (some (Shd Q,.z)))
  ·apply bK
   ·apply nN
    ·nofun
    ·rfl
   ·rfl
   ·rfl
  ·apply bK
   ·apply kW
    ·nofun
    ·rfl
    ·apply pP
     ·nomatch [m]
     ·rfl
     ·exists ne
   ·rfl
   ·rfl
 | some o =>
  obtain ⟨t,_,rfl⟩:=jR h
  have e1:bG Q=bJ Q t:=by unfold bG;rw [h];rfl
  have l:cz Q=(.lst [.str "on line",bJ Q t,.bl true],.u):=by unfold cz;rw [h]
  have ne:=wH Q t
  rw [e1,l]
  apply ak (ρ1:=stL ns i n ps (some (.int (k:Int),.z)) v5 (some (.int b,.z)) (some (.int (aj ps k).1,.z)) (some (.int (aj ps k).2,.z)) (some (Shd Q,.z)) (some (bJ Q t,.z)) (some (.lst [.str "on line",bJ Q t,.bl true],.u)))
  ·apply bK
   ·apply kW
    ·nofun
    ·rfl
    ·exists ne
   ·rfl
   ·rfl
  ·apply bK
   ·apply nN
    ·nofun
    ·rfl
   ·rfl
   ·rfl
theorem pow20:kG (.int 10) (.int 20)=some (.int 100000000000000000000,.z):=rfl
theorem pow6:kG (.int 10) (.int 6)=some (.int 1000000,.z):=rfl
theorem Cf {ns:List Int} {i:Nat} {n:Int} {ps:List Pt} (s:SheetX ps) {k:Nat} (l:k < ps.length) {v5 v6 v7 v8 v9 v10 v11:Option (L3.D × Fl)}:∃ q v j f h g a c,iU (stL ns i n ps (some (.int (k:Int),.z)) v5 v6 v7 v8 v9 v10 v11)=some (.ok .nx,stL ns i q ps (some (.int (k:Int),.z)) v j f h g a c):=by
 have t1:=fK n 41 (by decide)
 have t:=fK (n / 41) 9 (by decide)
 have t3:=fK (n / 41 / 9) 1000000 (by decide)
 obtain ⟨os,B,h1⟩:=vG s l
 obtain ⟨ms,y,h2⟩:=cut3 os
 have p:bP (.lst [.int 0,.int (n % 41 - 20),.int (100000000000000000000+n / 41 % 9),.int (-1 - n / 41 / 9 % 1000000)]) (Is ms)=some (Is ([0,n % 41 - 20,100000000000000000000+n / 41 % 9,-1 - n / 41 / 9 % 1000000] ++ ms),.u):=by
  rw [zY (by simp;omega),Is,List.map_append];rfl
 generalize o:some (L3.D.lst [.int 0,.int (n % 41 - 20),.int (100000000000000000000+n / 41 % 9),.int (-1 - n / 41 / 9 % 1000000)],Fl.u)=ch
 generalize A:[0,n % 41 - 20,100000000000000000000+n / 41 % 9,-1 - n / 41 / 9 % 1000000] ++ ms=bs at p
 obtain ⟨ρ',e,j,f,h,g,a,c,rfl⟩:=bh (bnd:=aq 6) (b:=fS) (fun _ ρ=>∃ j f h g a c,ρ=stL ns i (n / 41 / 9 / 1000000) ps (some (.int (k:Int),.z)) ch j f h g a c) (ds:=bs.map L3.D.int) (ρ:=stL ns i (n / 41 / 9 / 1000000) ps (some (.int (k:Int),.z)) ch v6 v7 v8 v9 v10 v11) (k:=0) ⟨_,_,_,_,_,_,rfl⟩ (by
  rintro m d ρ hd ⟨v6,v7,v8,v9,v10,v11,rfl⟩
  rw [Di,C5] at hd
  obtain ⟨b,_,rfl⟩:=hd
  obtain ⟨f,h,g,a,c,e⟩:=Cg (ns:=ns) (i:=i) (n:=n / 41 / 9 / 1000000) s l b (v5:=ch) (v7:=v7) (v8:=v8) (v9:=v9) (v10:=v10) (v11:=v11)
  exact ⟨stL ns i (n / 41 / 9 / 1000000) ps (some (.int (k:Int),.z)) ch (some (.int b,.z)) v7 v8 v9 v10 v11,_,rfl,.inl e,_,_,_,_,_,_,rfl⟩)
 refine ⟨n / 41 / 9 / 1000000,ch,j,f,h,g,a,c,?_⟩
 unfold iU
 apply ak (ρ1:=stL ns i (n / 41 / 9 / 1000000) ps (some (.int (k:Int),.z)) ch v6 v7 v8 v9 v10 v11)
 ·subst o
  have w:ah cF (av aS (ac (ad 2) (ac (mC (.int 41)) ai))) (mC (.int 20)) (stL ns i n ps (some (.int (k:Int),.z)) v5 v6 v7 v8 v9 v10 v11)=some (.ok (.val (.int (n % 41 - 20)) .z),stL ns i (n / 41) ps (some (.int (k:Int),.z)) v5 v6 v7 v8 v9 v10 v11):=by (nomatch [t1])
  have x:ah bP (ah kG (mC (.int 10)) (mC (.int 20))) (av aS (ac (ad 2) (ac (mC (.int 9)) ai))) (stL ns i (n / 41) ps (some (.int (k:Int),.z)) v5 v6 v7 v8 v9 v10 v11)=some (.ok (.val (.int (100000000000000000000+n / 41 % 9)) .z),stL ns i (n / 41 / 9) ps (some (.int (k:Int),.z)) v5 v6 v7 v8 v9 v10 v11):=by (nomatch [t],[pow20])
  have r:ah cF (mUn B3 (mC (.int 1))) (av aS (ac (ad 2) (ac (ah kG (mC (.int 10)) (mC (.int 6))) ai))) (stL ns i (n / 41 / 9) ps (some (.int (k:Int),.z)) v5 v6 v7 v8 v9 v10 v11)=some (.ok (.val (.int (-1 - n / 41 / 9 % 1000000)) .z),stL ns i (n / 41 / 9 / 1000000) ps (some (.int (k:Int),.z)) v5 v6 v7 v8 v9 v10 v11):=by (nomatch [t3],[pow6])
  exact sC (qY (aL i_c (aL w (aL x (aL r bV)))) rfl (Nat.le_of_ble_eq_true rfl)) rfl (show 5 < 12 by decide) rfl
 ·subst o
  apply bW
  ·nomatch [h1],[h2,p]
  ·rfl
  ·exact e
theorem wQ {ns:List Int} (i:Nat) {v2 v3 v4 v5 v6 v7 v8 v9 v10 v11:Option (L3.D × Fl)}:∃ w r p j o f l h a c,iT [some (.fls (ns.map .int),.z),some (.int (i:Int),.z),v2,v3,v4,v5,v6,v7,v8,v9,v10,v11]=some (.ok .nx,[some (.fls (ns.map .int),.z),some (.int (i:Int),.z),w,r,p,j,o,f,l,h,a,c]):=by
 obtain ⟨n,v⟩:=yC ns i
 obtain ⟨q,ps,x,g,B,_⟩:=tR n 8 (by decide) (by decide)
 have s:=tH g
 have hm:=s.most
 have y:cb [Shd ps]=some (.int (ps.length:Int),.z):=by
  have:=eS (ps.map Pd)
  rwa [Dd] at this
 obtain ⟨ρ',e,A,p,j,o,f,l,h,a,c,rfl⟩:=bh (bnd:=aq 4) (b:=iU) (fun _ ρ=>∃ n p j o f l h a c,ρ=stL ns i n ps p j o f l h a c) (ds:=aT 0 ps.length) (ρ:=stL ns i q ps v4 v5 v6 v7 v8 v9 v10 v11) (k:=0) ⟨_,_,_,_,_,_,_,_,_,rfl⟩ (by
  rintro m d ρ hd ⟨n,v4,v5,v6,v7,v8,v9,v10,v11,rfl⟩
  obtain ⟨hm,rfl⟩:=bu hd
  rw [Int.zero_add]
  obtain ⟨q,j,o,f,l,h,a,c,e⟩:=Cf (ns:=ns) (i:=i) (n:=n) s hm (v5:=v5) (v6:=v6) (v7:=v7) (v8:=v8) (v9:=v9) (v10:=v10) (v11:=v11)
  exact ⟨stL ns i n ps (some (.int (m:Int),.z)) v5 v6 v7 v8 v9 v10 v11,_,rfl,.inl e,_,_,_,_,_,_,_,_,_,rfl⟩)
 have t:bM [.int (ps.length:Int)]=some (aT 0 ps.length):=bQ (by omega) (by omega)
 refine ⟨some (.lst [.int A],.u),some (Shd ps,.z),p,j,o,f,l,h,a,c,?_⟩
 unfold iT
 apply ak (ρ1:=[some (.fls (ns.map .int),.z),some (.int (i:Int),.z),some (.lst [.int n],.u),v3,v4,v5,v6,v7,v8,v9,v10,v11])
 ·nomatch [v]
 apply ak (ρ1:=stL ns i q ps v4 v5 v6 v7 v8 v9 v10 v11)
 ·nomatch [x]
 ·apply bW
  ·(repeat' (first | with_reducible apply cy (h3:=t) | infer_instance | exact y | eq_refl))
  ·rfl
  ·exact e
theorem yB (ns:List Int) (r:ns.length<=63):Aw [(.fls (ns.map .int),.z)]=some (.ok (.bl true,.z),[(.fls (ns.map .int),.z)]):=by
 have g:∃ m:Nat,(if (if ((4:Int) < ((ns.map L3.D.int).length:Int)) then (4:Int) else ((ns.map L3.D.int).length:Int)) > 1 then (if ((4:Int) < ((ns.map L3.D.int).length:Int)) then (4:Int) else ((ns.map L3.D.int).length:Int)) else (1:Int))=(m:Int)/\m<=4:=by
  refine ⟨max 1 (min ns.length 4),?_,by omega⟩
  simp only [Dd]
  split <;> split <;> omega
 obtain ⟨m,hm,a⟩:=g
 obtain ⟨ρ',e,v1,v2,v3,v4,v5,v6,v7,v8,v9,v10,v11,rfl⟩:=bh (bnd:=aq 1) (b:=iT) (fun _ ρ=>∃ v1 v2 v3 v4 v5 v6 v7 v8 v9 v10 v11,ρ=[some (.fls (ns.map .int),.z),v1,v2,v3,v4,v5,v6,v7,v8,v9,v10,v11]) (ds:=aT 0 m) (ρ:=[some (.fls (ns.map .int),.z),none,none,none,none,none,none,none,none,none,none,none]) (k:=0) ⟨_,_,_,_,_,_,_,_,_,_,_,rfl⟩ (by
  rintro i d ρ hd ⟨v1,v2,v3,v4,v5,v6,v7,v8,v9,v10,v11,rfl⟩
  obtain ⟨hi,rfl⟩:=bu hd
  rw [Int.zero_add]
  obtain ⟨n,j,p,q,t,l,s,o,c,h,e⟩:=wQ (ns:=ns) i (v2:=v2) (v3:=v3) (v4:=v4) (v5:=v5) (v6:=v6) (v7:=v7) (v8:=v8) (v9:=v9) (v10:=v10) (v11:=v11)
  exact ⟨_,_,rfl,.inl e,_,_,_,_,_,_,_,_,_,_,_,rfl⟩)
 have f:bM [.int (if (if ((4:Int) < ((ns.map L3.D.int).length:Int)) then (4:Int) else ((ns.map L3.D.int).length:Int)) > 1 then (if ((4:Int) < ((ns.map L3.D.int).length:Int)) then (4:Int) else ((ns.map L3.D.int).length:Int)) else (1:Int))]=some (aT 0 m):=by
  rw [hm]
  exact bQ (by omega) (by omega)
 apply bc (ρ:=[some (.fls (ns.map .int),.z),none,none,none,none,none,none,none,none,none,none,none]) rfl rfl
 ·apply ak
  ·apply bW
   ·(repeat' (first | with_reducible apply cy (h3:=f) | infer_instance | eq_refl))
   ·rfl
   ·exact e
  ·nofun
 ·rfl
end Bn
end
namespace Bn
open PySem L2 L3
theorem CS {l : PySem.W.OpenLaw} {w : World} {K : FG} {h : Heap} {mg : Str -> Option Value} {fa : Addr} (X : K.In h) (G : h.Ns mainGlobals mg) (et : mg "law" = some (.ref fa)) (e : yz K = sF) :
  ∃ fd : FuncData, (∀ (s : Shared) (v : Value), BindsTo s fd ⟨[v], []⟩ [("_law_script", v)]) /\ ∀ base : Heap, K.In base -> base.Ns mainGlobals mg -> FnOk l.prog w K mg base CX0 8 fa fd ["_law_script"] (vo K) := by
 have A : dsL.map (fun p => pS K p.1) = dsL.map (fun p => k6 p.1 p.2) := congrArg (fun x => x.1) e
 have e1 : blL.map (PySem.W.nsIn K mainGlobals) = blL.map (fun _ => some none) := congrArg (fun x => x.2.1) e
 have e2 : ciL.map (fun p => nI K p.1) = ciL.map (fun p => some p.2) := congrArg (fun x => x.2.2.1) e
 have e3 : csL.map (fun p => vn K p.1) = csL.map (fun p => some p.2) := congrArg (fun x => x.2.2.2.1) e
 have e4 : xrL.map (fun r : String => mF K r) = xrL.map (fun _ : String => nW) := congrArg (fun x => x.2.2.2.2.1) e
 have e5 : xcL.map (gr K) = xcL.map (fun _ => true) := congrArg (fun x => x.2.2.2.2.2.1) e
 have e6 : xbL.map (PySem.W.nsIn K mainGlobals) = xbL.map (fun _ => some none) := congrArg (fun x => x.2.2.2.2.2.2.1) e
 have e7 : jx K = gw := congrArg (fun x => x.2.2.2.2.2.2.2.1) e
 have g : [PySem.W.kitOne K (.ref (aa K "NoPlace")) (.ref (aa K "Apart")), PySem.W.kitOne K (.ref (aa K "NoSheet")) (.ref (aa K "Apart")), PySem.W.kitOne K (.ref (aa K "NoNumber")) (.ref (aa K "Apart")), PySem.W.kitOne K (.ref (aa K "OnLine")) (.ref (aa K "Apart")), PySem.W.kitOne K (.ref (aa K "NoPlace")) (.ref (aa K "Bare")), PySem.W.kitOne K (.ref (aa K "NoSheet")) (.ref (aa K "Bare")), PySem.W.kitOne K (.ref (aa K "NoNumber")) (.ref (aa K "Bare")), PySem.W.kitOne K (.ref (aa K "OnLine")) (.ref (aa K "Bare")), PySem.W.kitOne K (.ref (aa K "NoPlace")) (.ref (aa K "NoLine")), PySem.W.kitOne K (.ref (aa K "NoSheet")) (.ref (aa K "NoLine")), PySem.W.kitOne K (.ref (aa K "NoNumber")) (.ref (aa K "NoLine")), PySem.W.kitOne K (.ref (aa K "OnLine")) (.ref (aa K "NoLine")), PySem.W.kitOne K (.ref (aa K "NoPlace")) (.ref (aa K "NoNumber")), PySem.W.kitOne K (.ref (aa K "NoSheet")) (.ref (aa K "NoNumber")), PySem.W.kitOne K (.ref (aa K "NoNumber")) (.ref (aa K "NoNumber")), PySem.W.kitOne K (.ref (aa K "OnLine")) (.ref (aa K "NoNumber")), PySem.W.kitOne K (.ref (aa K "NoPlace")) (.ref (aa K "NoPlace")), PySem.W.kitOne K (.ref (aa K "NoSheet")) (.ref (aa K "NoPlace")), PySem.W.kitOne K (.ref (aa K "NoNumber")) (.ref (aa K "NoPlace")), PySem.W.kitOne K (.ref (aa K "OnLine")) (.ref (aa K "NoPlace")), PySem.W.kitOne K (.ref (aa K "NoPlace")) (.ref (aa K "NoRing")), PySem.W.kitOne K (.ref (aa K "NoSheet")) (.ref (aa K "NoRing")), PySem.W.kitOne K (.ref (aa K "NoNumber")) (.ref (aa K "NoRing")), PySem.W.kitOne K (.ref (aa K "OnLine")) (.ref (aa K "NoRing")), PySem.W.kitOne K (.ref (aa K "NoPlace")) (.ref (aa K "NoRow")), PySem.W.kitOne K (.ref (aa K "NoSheet")) (.ref (aa K "NoRow")), PySem.W.kitOne K (.ref (aa K "NoNumber")) (.ref (aa K "NoRow")), PySem.W.kitOne K (.ref (aa K "OnLine")) (.ref (aa K "NoRow")), PySem.W.kitOne K (.ref (aa K "NoPlace")) (.ref (aa K "NoSheet")), PySem.W.kitOne K (.ref (aa K "NoSheet")) (.ref (aa K "NoSheet")), PySem.W.kitOne K (.ref (aa K "NoNumber")) (.ref (aa K "NoSheet")), PySem.W.kitOne K (.ref (aa K "OnLine")) (.ref (aa K "NoSheet")), PySem.W.kitOne K (.ref (aa K "NoPlace")) (.ref (aa K "NoSigns")), PySem.W.kitOne K (.ref (aa K "NoSheet")) (.ref (aa K "NoSigns")), PySem.W.kitOne K (.ref (aa K "NoNumber")) (.ref (aa K "NoSigns")), PySem.W.kitOne K (.ref (aa K "OnLine")) (.ref (aa K "NoSigns")), PySem.W.kitOne K (.ref (aa K "NoPlace")) (.ref (aa K "NoText")), PySem.W.kitOne K (.ref (aa K "NoSheet")) (.ref (aa K "NoText")), PySem.W.kitOne K (.ref (aa K "NoNumber")) (.ref (aa K "NoText")), PySem.W.kitOne K (.ref (aa K "OnLine")) (.ref (aa K "NoText")), PySem.W.kitOne K (.ref (aa K "NoPlace")) (.ref (aa K "OnLine")), PySem.W.kitOne K (.ref (aa K "NoSheet")) (.ref (aa K "OnLine")), PySem.W.kitOne K (.ref (aa K "NoNumber")) (.ref (aa K "OnLine")), PySem.W.kitOne K (.ref (aa K "OnLine")) (.ref (aa K "OnLine")), PySem.W.kitOne K (.ref (aa K "NoPlace")) (.ref (aa K "TooMany")), PySem.W.kitOne K (.ref (aa K "NoSheet")) (.ref (aa K "TooMany")), PySem.W.kitOne K (.ref (aa K "NoNumber")) (.ref (aa K "TooMany")), PySem.W.kitOne K (.ref (aa K "OnLine")) (.ref (aa K "TooMany")), PySem.W.kitOne K (.ref (aa K "NoPlace")) (.ref (aa K "BentError")), PySem.W.kitOne K (.ref (aa K "NoSheet")) (.ref (aa K "BentError")), PySem.W.kitOne K (.ref (aa K "NoNumber")) (.ref (aa K "BentError")), PySem.W.kitOne K (.ref (aa K "OnLine")) (.ref (aa K "BentError")), PySem.W.kitOne K (.ref (aa K "NoPlace")) (.type "ValueError"), PySem.W.kitOne K (.ref (aa K "NoSheet")) (.type "ValueError"), PySem.W.kitOne K (.ref (aa K "NoNumber")) (.type "ValueError"), PySem.W.kitOne K (.ref (aa K "OnLine")) (.type "ValueError")] = [some false, some false, some false, some false, some false, some false, some false, some false, some false, some false, some false, some false, some false, some false, some true, some false, some true, some false, some false, some false, some false, some false, some false, some false, some false, some false, some false, some false, some false, some true, some false, some false, some false, some false, some false, some false, some false, some false, some false, some false, some false, some false, some false, some true, some false, some false, some false, some false, some true, some true, some true, some true, some true, some true, some true, some true] := congrArg (fun x => x.2.2.2.2.2.2.2.2.1) e
 have e9 : [PySem.W.exmOne K (.ref (aa K "OnLine")) (.ref (aa K "OnLine"))] = [some true] := congrArg (fun x => x.2.2.2.2.2.2.2.2.2.1) e
 have f3 : sB K "OnLine" "three" = nJ "OnLine.__init__" lU := congrArg (fun x => x.2.2.2.2.2.2.2.2.2.2) e
 have B : Bl mg := ⟨bT X G e1 0 rfl, bT X G e1 1 rfl, bT X G e1 2 rfl, bT X G e1 3 rfl, bT X G e1 4 rfl, bT X G e1 5 rfl, bT X G e1 6 rfl, bT X G e1 7 rfl, bT X G e1 8 rfl, bT X G e1 9 rfl, bT X G e1 10 rfl, bT X G e1 11 rfl, bT X G e1 12 rfl, bT X G e1 13 rfl, bT X G e1 14 rfl, bT X G e1 15 rfl, bT X G e1 16 rfl, bT X G e1 17 rfl, bT X G e1 18 rfl, bT X G e1 19 rfl⟩
 have D0 : Def K mg "is_whole" eI := aU X G A 0 rfl
 have D1 : Def K mg "is_point" eK := aU X G A 1 rfl
 have D2 : Def K mg "is_place" eL := aU X G A 2 rfl
 have D3 : Def K mg "check_place" cV := aU X G A 3 rfl
 have D4 : Def K mg "check_whole" cT := aU X G A 4 rfl
 have D5 : Def K mg "are_points" dh := aU X G A 5 rfl
 have D6 : Def K mg "has_rising_x" cj := aU X G A 6 rfl
 have D7 : Def K mg "bend" mV := aU X G A 7 rfl
 have D8 : Def K mg "threes" iE := aU X G A 8 rfl
 have D9 : Def K mg "first_on_line" bY := aU X G A 9 rfl
 have er : Def K mg "is_sheet" eJ := aU X G A 10 rfl
 have f5 : Def K mg "check_sheet" cU := aU X G A 11 rfl
 have ew : Def K mg "sheet_of" eG := aU X G A 12 rfl
 have fy : Def K mg "lifted" iF := aU X G A 13 rfl
 have ez : Def K mg "_law_box" j7 := aU X G A 14 rfl
 have eN : Def K mg "_law_take" iH := aU X G A 15 rfl
 have eo : Def K mg "_law_whole" gj := aU X G A 16 rfl
 have ey : Def K mg "_law_bend" iL := aU X G A 17 rfl
 have eH : Def K mg "_law_free" iK := aU X G A 18 rfl
 have fz : Def K mg "_law_sheet" gl := aU X G A 19 rfl
 have fb : Def K mg "_law_is_sheet" dg := aU X G A 20 rfl
 have eu : Def K mg "_law_classes" dL := aU X G A 21 rfl
 have f6 : Def K mg "_law_only" iJ := aU X G A 22 rfl
 have fo : Def K mg "_law_three" gk := aU X G A 23 rfl
 have ep : Def K mg "_law_told" iG := aU X G A 24 rfl
 have en : Def K mg "_law_onto" iI := aU X G A 25 rfl
 obtain ⟨f, fd, F0, hf⟩ : Def K mg "law" fG := aU X G A 26 rfl
 cases et.symm.trans hf
 have F := F0
 obtain ⟨oc, od, kV, doc, pm, an, fC, ct, gp, ef, lk, gn⟩ := F0.ex
 subst ef
 obtain ⟨f7, Q0⟩ := Co X G e2 0 (n := "MOST_POINTS") (v := 24) rfl
 obtain ⟨d, c4, d0⟩ := Cp (r := "OnLine") (n := "three") X G e7 f3 ⟨rfl, rfl, rfl, by decide +kernel, rfl, by decide +kernel, by decide +kernel⟩ rfl rfl rfl (fun _ _ _ _ _ _ _ _ => rfl) (by decide +kernel) (by decide +kernel)
 obtain ⟨c, cm⟩ := rf X G e7 e4 0 (r := "NoPlace") rfl
 obtain ⟨b, I⟩ := rf X G e7 e4 1 (r := "NoSheet") rfl
 obtain ⟨a, ax⟩ := rf X G e7 e4 2 (r := "NoNumber") rfl
 have c0 : mg "NoPlace" = _ := cO X G e5 0 rfl
 have cf : mg "NoSheet" = _ := cO X G e5 1 rfl
 have az : mg "NoNumber" = _ := cO X G e5 2 rfl
 have S : mg "OnLine" = _ := cO X G e5 3 rfl
 have ea : mg "Apart" = _ := cO X G e5 4 rfl
 have ei : mg "Bare" = _ := cO X G e5 5 rfl
 have d4 : mg "NoLine" = _ := cO X G e5 6 rfl
 have dc : mg "NoRing" = _ := cO X G e5 7 rfl
 have eb : mg "NoRow" = _ := cO X G e5 8 rfl
 have c3 : mg "NoSigns" = _ := cO X G e5 9 rfl
 have dV : mg "NoText" = _ := cO X G e5 10 rfl
 have b3 : mg "TooMany" = _ := cO X G e5 11 rfl
 have V : mg "BentError" = _ := cO X G e5 12 rfl
 have N : mg "ValueError" = none := bT X G e6 0 rfl
 have ec : IsX K (.ref (aa K "Apart")) [("NoPlace", false), ("NoSheet", false), ("NoNumber", false), ("OnLine", false)] := (.cons c (aP g 0 rfl rfl) (.cons b (aP g 1 rfl rfl) (.cons a (aP g 2 rfl rfl) (.cons d (aP g 3 rfl rfl) .nil))))
 have ej : IsX K (.ref (aa K "Bare")) [("NoPlace", false), ("NoSheet", false), ("NoNumber", false), ("OnLine", false)] := (.cons c (aP g 4 rfl rfl) (.cons b (aP g 5 rfl rfl) (.cons a (aP g 6 rfl rfl) (.cons d (aP g 7 rfl rfl) .nil))))
 have c7 : IsX K (.ref (aa K "NoLine")) [("NoPlace", false), ("NoSheet", false), ("NoNumber", false), ("OnLine", false)] := (.cons c (aP g 8 rfl rfl) (.cons b (aP g 9 rfl rfl) (.cons a (aP g 10 rfl rfl) (.cons d (aP g 11 rfl rfl) .nil))))
 have ae : IsX K (.ref (aa K "NoNumber")) [("NoPlace", false), ("NoSheet", false), ("NoNumber", true), ("OnLine", false)] := (.cons c (aP g 12 rfl rfl) (.cons b (aP g 13 rfl rfl) (.cons a (aP g 14 rfl rfl) (.cons d (aP g 15 rfl rfl) .nil))))
 have cv : IsX K (.ref (aa K "NoPlace")) [("NoPlace", true), ("NoSheet", false), ("NoNumber", false), ("OnLine", false)] := (.cons c (aP g 16 rfl rfl) (.cons b (aP g 17 rfl rfl) (.cons a (aP g 18 rfl rfl) (.cons d (aP g 19 rfl rfl) .nil))))
 have dr : IsX K (.ref (aa K "NoRing")) [("NoPlace", false), ("NoSheet", false), ("NoNumber", false), ("OnLine", false)] := (.cons c (aP g 20 rfl rfl) (.cons b (aP g 21 rfl rfl) (.cons a (aP g 22 rfl rfl) (.cons d (aP g 23 rfl rfl) .nil))))
 have ed : IsX K (.ref (aa K "NoRow")) [("NoPlace", false), ("NoSheet", false), ("NoNumber", false), ("OnLine", false)] := (.cons c (aP g 24 rfl rfl) (.cons b (aP g 25 rfl rfl) (.cons a (aP g 26 rfl rfl) (.cons d (aP g 27 rfl rfl) .nil))))
 have b4 : IsX K (.ref (aa K "NoSheet")) [("NoPlace", false), ("NoSheet", true), ("NoNumber", false), ("OnLine", false)] := (.cons c (aP g 28 rfl rfl) (.cons b (aP g 29 rfl rfl) (.cons a (aP g 30 rfl rfl) (.cons d (aP g 31 rfl rfl) .nil))))
 have bt : IsX K (.ref (aa K "NoSigns")) [("NoPlace", false), ("NoSheet", false), ("NoNumber", false), ("OnLine", false)] := (.cons c (aP g 32 rfl rfl) (.cons b (aP g 33 rfl rfl) (.cons a (aP g 34 rfl rfl) (.cons d (aP g 35 rfl rfl) .nil))))
 have di : IsX K (.ref (aa K "NoText")) [("NoPlace", false), ("NoSheet", false), ("NoNumber", false), ("OnLine", false)] := (.cons c (aP g 36 rfl rfl) (.cons b (aP g 37 rfl rfl) (.cons a (aP g 38 rfl rfl) (.cons d (aP g 39 rfl rfl) .nil))))
 have d1 : IsX K (.ref (aa K "OnLine")) [("NoPlace", false), ("NoSheet", false), ("NoNumber", false), ("OnLine", true)] := (.cons c (aP g 40 rfl rfl) (.cons b (aP g 41 rfl rfl) (.cons a (aP g 42 rfl rfl) (.cons d (aP g 43 rfl rfl) .nil))))
 have ck : IsX K (.ref (aa K "TooMany")) [("NoPlace", false), ("NoSheet", false), ("NoNumber", false), ("OnLine", false)] := (.cons c (aP g 44 rfl rfl) (.cons b (aP g 45 rfl rfl) (.cons a (aP g 46 rfl rfl) (.cons d (aP g 47 rfl rfl) .nil))))
 have Y : IsX K (.ref (aa K "BentError")) [("NoPlace", true), ("NoSheet", true), ("NoNumber", true), ("OnLine", true)] := (.cons c (aP g 48 rfl rfl) (.cons b (aP g 49 rfl rfl) (.cons a (aP g 50 rfl rfl) (.cons d (aP g 51 rfl rfl) .nil))))
 have R : IsX K (.type "ValueError") [("NoPlace", true), ("NoSheet", true), ("NoNumber", true), ("OnLine", true)] := (.cons c (aP g 52 rfl rfl) (.cons b (aP g 53 rfl rfl) (.cons a (aP g 54 rfl rfl) (.cons d (aP g 55 rfl rfl) .nil))))
 have d2 : ExX K (aa K "OnLine") ["OnLine"] := (.cons d (aP e9 0 rfl rfl) .nil)
 refine ⟨PySem.W.fnOf "law" "law" (aF fG) (au fG) (af fG) .none kV doc pm an fC ct, fun s v => .of_eq rfl, fun base _ _ => ?_⟩
 have m := n9 (P := l.prog) (w := w) (base := base) B D0
 have a6 := oh (P := l.prog) (w := w) (base := base) B D1 m
 have ar := oi (P := l.prog) (w := w) (base := base) B D2 m
 have y := ja (P := l.prog) (w := w) (base := base) B D3 ar c cm
 have u := i8 (P := l.prog) (w := w) (base := base) B D4 m a ax
 have o := lh (P := l.prog) (w := w) (base := base) B D5 a6 Q0
 have k := jz (P := l.prog) (w := w) (base := base) B D6
 have ek := xG (P := l.prog) (w := w) (base := base) B D7
 have d3 := rh (P := l.prog) (w := w) (base := base) B D8
 have i := i7 (P := l.prog) (w := w) (base := base) B D9 ek d3
 have a4 := og (P := l.prog) (w := w) (base := base) B er o i k
 have C := i9 (P := l.prog) (w := w) (base := base) B f5 a4 b I
 have O := lf (P := l.prog) (w := w) (base := base) B ew o i k b I d c4
 have a5 := n4 (P := l.prog) (w := w) (base := base) B fy y C u O
 have a3 := uW (P := l.prog) (w := w) (base := base) B ez
 have t := rl (P := l.prog) (w := w) (base := base) B eN
 have M := p8 (P := l.prog) (w := w) (base := base) B eo
 have j := rz (P := l.prog) (w := w) (base := base) B ey
 have Z := rq (P := l.prog) (w := w) (base := base) B eH j
 have J := qa (P := l.prog) (w := w) (base := base) B fz Z t
 have z := lg (P := l.prog) (w := w) (base := base) B fb j M
 have q := j5 (P := l.prog) (w := w) (base := base) B eu ea ec ei ej d4 c7 az ae c0 cv dc dr eb ed cf b4 c3 bt dV di S d1 b3 ck
 have D := n5 (P := l.prog) (w := w) (base := base) B f6 q V Y N R
 have L := p9 (P := l.prog) (w := w) (base := base) B fo j
 have T := rj (P := l.prog) (w := w) (base := base) B ep D a5 d0 S d2
 have U := rp (P := l.prog) (w := w) (base := base) B en
 exact FnOk.imp (zJ (P := l.prog) (w := w) (base := base) B F a3 z U J t L T) fun vs H Q E h => zy (fun ns hn => ⟨_, yB ns hn⟩) h
theorem walkL : PySem.W.WalkO viL loL (fun _ _ => True) (fun _ h => ∃ K : FG, K.In h /\ yz K = sF) PySem.Challenge.rw_bentrows_k72_points_lifted.row.toRowW ⟨"law", aF fG, au fG, af fG, stPos fG⟩ [] (fun f vs => PySem.call f vs) :=
 L2.walk_ofS (l := PySem.Challenge.rw_bentrows_k72_points_lifted) (n := 63) (k := 8) (x := "_law_script") (S := fun K => yz K = sF) (CX := CX0) (sp := vo) rfl (by decide) rfl ⟨rfl, by decide, by decide, rfl⟩ (fun _ _ z => z) (fun _ _ _ _ _ e X G hm => CS X G hm e) (fun _ _ a ns b d c => ⟨a, ns, rfl, c, d, b, fun _ => rfl⟩) fun _ _ _ _ z => z
end Bn
open PySem PySem.W PyProof.Rows
set_option maxRecDepth 100000 in
set_option maxHeartbeats 0 in
theorem PySem.Challenge.cw_bentrows_k72_points_lifted_holds : PySem.Challenge.rw_bentrows_k72_points_lifted.Holds :=
 holds_law Bn.okL fun said => holds_open (r := PySem.Challenge.rw_bentrows_k72_points_lifted.row) Bn.leftL (fun _ _ e => ⟨_, L2.fragAt_in _, e⟩) (fun _ _ _ ⟨K, X, e⟩ k => ⟨K, X.keeps k, e⟩) (fun _ _ => trivial) (fun _ _ _ _ _ => trivial) (by kernel_rfl) (by kernel_rfl) (by kernel_rfl) (fun s e => recFacts_of e) (by rfl) said (by kernel_rfl) ⟨rfl, rfl, rfl, rfl, rfl, by decide +kernel⟩ ⟨[.list []], by decide +kernel, by decide +kernel⟩ Bn.walkL
