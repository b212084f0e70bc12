import PyProof.Rows.All
import Wide.All
import OpenK.AllK
import Wide.FinOn
import Lean
import PyProof.EqAt
import PyProof.EqKinds
import PyProof.TupleCall
import PyProof.P3Eq
import PyProof.NeData
import PyProof.ListRange
import PyProof.Rows.CallKwBuiltin
import PyProof.Rows.Range3
import PyProof.DictWalks
import PyProof.MinMaxWalk
import PyProof.WalkInts
import PyProof.Walk
import PyProof.WalkLemmas
import PyProof.RulesTry
import PyProof.ZipIter
import PyProof.AttrMissHeap
import PyProof.FactsAll.zip
import PyProof.DictUpdate
import KE.KDictOf
import OpenK.KOwn
import KE.KTryMore
import KE.RegKTryMore
import PyProof.Rows.Catch
import KE.KIsAll
import KE.RegKIsAll
import PyProof.ExcArgsOwn
import PySem.Challenge.RW_bentrows_k57_signs_refused
set_option tactic.hygienic false
set_option genSizeOf false
set_option Elab.async false
set_option linter.all false
set_option maxRecDepth 100000
set_option maxHeartbeats 4000000
section
abbrev FG:=PySem.W.Frag
open PySem PySem.Spec PyProof.Rows
abbrev AI:=@wpAny_bind
abbrev AJ:=@wpAny_pure
abbrev AK:=@wpAny_holding
abbrev AL:=@List.mem_cons_self
abbrev AM:=@List.mem_cons_of_mem
abbrev AN:=@Heap.get?_push_of_some
abbrev AO:=@Option.map_eq_some_iff
abbrev AQ:=@List.mem_append_left
abbrev AR:=@List.mem_append_right
abbrev AS:=@List.mem_cons
abbrev AT:=@List.getElem?_eq_getElem
abbrev AU:=@Heap.lt_size
abbrev AV:=@List.mem_append
abbrev AW:=@Heap.get?_push_size
abbrev AX:=@List.length_map
abbrev AY:=@List.getElem?_eq_some_iff
abbrev AZ:=@List.mem_of_getElem?
abbrev A0:=@List.sublist_append_right
abbrev A2:=@List.mem_map
abbrev A3:=@List.getElem?_map
abbrev A4:=@Nat.le_refl
abbrev A5:=@Bool.false_ne_true
abbrev A6:=@Nat.ne_of_lt
abbrev A7:=@List.size_toArray
abbrev A8:=@List.map_cons
abbrev A9:=@decide_eq_true
abbrev Ba:=@decide_eq_false
abbrev Bb:=@Nat.lt_of_lt_of_le
abbrev Bc:=@Heap.get?_update_self
abbrev Bd:=@List.length_append
abbrev Be:=@List.length_cons
abbrev Bf:=@List.length_take
abbrev Bg:=@Option.map_some
abbrev Bh:=@Option.bind_eq_some_iff
abbrev Bi:=@List.mem_singleton
abbrev Bj:=@Bool.false_eq_true
abbrev Bk:=@List.mem_filter
abbrev Bm:=@List.getElem?_append_left
abbrev Bo:=@Heap.get?_update_other
abbrev Bp:=@Heap.size_push
abbrev Bq:=@wpAny_truthy_bool
abbrev Br:=@Nat.le_trans
abbrev Bs:=@List.map_map
abbrev Bt:=@Option.some.inj
end
section
namespace L2
open PySem
noncomputable def bf (s : Stmt) : Arguments := match s with
  | .FunctionDef _ a _ _ _ _ _ _ _ _ => a
  | _ => { posonlyargs := [], args := [], vararg := none, kwonlyargs := [], kw_defaults := [], kwarg := none, defaults := [] }
noncomputable def aN (s : Stmt) : List Stmt := match s with
  | .FunctionDef _ _ b _ _ _ _ _ _ _ => b
  | _ => []
noncomputable def aj (s : Stmt) : Scope := match s with
  | .FunctionDef _ _ _ _ _ _ sc _ _ _ => sc
  | _ => { kind := .function, names := [], isGenerator := false, isCoroutine := false }
noncomputable def v9 (h : Heap) : FG := (List.range h.objs.size).filterMap fun a => (h.get? a).map fun o => (a, o)
noncomputable def ah (K : FG) (n : Str) : Addr := match PySem.W.nsIn K mainGlobals n with
  | some (some (.ref f)) => f
  | _ => 0
noncomputable abbrev ot := Str × Str × Arguments × FuncBody × Scope × Addr × List (Str × Addr) × Value × Addr × Bool
noncomputable def pX (K : FG) (n : Str) : Option ot := match PySem.W.nsIn K mainGlobals n with
  | some (some (.ref f)) => (match K.lookup f with
    | some ⟨_, _, .func fd, _⟩ => some (fd.name, fd.qualname, fd.params, fd.body, fd.scope, fd.globals, fd.closure, fd.defaults, fd.builtins, PySem.W.codeIn K fd.code n)
    | _ => none)
  | _ => none
noncomputable def lx (n : Str) (st : Stmt) : Option ot := some (n, n, bf st, .stmts (aN st), aj st, mainGlobals, [], .none, builtinsNs, true)
noncomputable def nN (K : FG) (n : Str) : Option Int := match PySem.W.nsIn K mainGlobals n with
  | some (some (.int v _)) => some v
  | _ => none
noncomputable def uV (K : FG) (n : Str) : Option Str := match PySem.W.nsIn K mainGlobals n with
  | some (some (.str v _)) => some v
  | _ => none
open PySem.W PyProof.Rows in
theorem tM {p q : Program} {loose : List Str} {Xt : Shared → Bool} {α : Type} {Yf : Shared → α} {Ya : World → α} {N m : Nat} {ann : Option Value}
    (e : opening p = plainProg p.main.scope.names) (hN : Nat.ble 600 N = true) (f : ∀ s, fenceModules? p s = some s)
    (sz : ∀ w : World, ((boot_heap w.params).isNs mainGlobals && (Array.mk [] : Array GenState).size == 0, (boot_heap w.params).objs.size, (boot_heap w.params).nsMap mainGlobals "__annotations__") = (true, m, ann))
    (go : ∀ (w : World) (os : OsState), (PySem.W.Fast.tw14082659384304107361 PySem.W.Fast.tw14364793385576792824 p w m ann N ⟨boot_heap w.params, Array.mk [], boot_drawn, boot_toks, os⟩ (topStub p)).map (fun s => ((staticsOk (importedModules p.main.body) (boot_heap w.params) s.heap && namesBound p s.heap && gensDone s && laidKept (boot_heap w.params) s.heap), PySem.W.Fast.tw4187177175401517315 q loose (importedModules p.main.body) Xt true s, Yf s)) = some (true, openGood q loose, Ya w)) : LeftO p q loose Xt Yf Ya N := fun w => by
  obtain ⟨⟨hp, gn, dr, tk, os⟩, ea, eb⟩ := AO.mp (boot_open e hN f w)
  obtain ⟨rfl, rfl, rfl, rfl⟩ : hp = boot_heap w.params ∧ gn = Array.mk [] ∧ dr = boot_drawn ∧ tk = boot_toks := by simpa using eb
  have sw := sz w
  have rw0 := go w os
  rw [← PySem.W.Fast.te14082659384304107361, ← PySem.W.Fast.te14364793385576792824, ← PySem.W.Fast.te4187177175401517315] at rw0
  simp only [Prod.mk.injEq] at sw
  obtain ⟨s, ec, ed⟩ := AO.mp rw0
  simp only [Prod.mk.injEq] at ed
  have tt : topFrom treeTable p w N ⟨boot_heap w.params, Array.mk [], boot_drawn, boot_toks, os⟩ = some s := by
    unfold topFrom
    dsimp only
    rw [sw.1, sw.2.1, sw.2.2, ec]
    change (match staticsOk (importedModules p.main.body) (boot_heap w.params) s.heap && namesBound p s.heap && gensDone s && laidKept (boot_heap w.params) s.heap with | true => some s | false => none) = some s
    rw [ed.1]
  unfold openEnds
  rw [ea]
  change Option.map _ (topFrom treeTable p w N _) = _
  rw [tt]
  exact congrArg some (Prod.ext ed.2.1 ed.2.2)
theorem sP {l : PySem.W.OpenLaw} (h : PySem.W.Fast.tw9446332074065402090 l = true) : l.wellSaid = true := by rw [← PySem.W.Fast.te9446332074065402090] at h; exact h
abbrev mroV : List Value := [.type "ValueError", .type "Exception", .type "BaseException", .type "object"]
end L2
namespace L3
open PySem L2
noncomputable def gr (K : FG) (n : Str) : Bool := match PySem.W.nsIn K mainGlobals n with
  | some (some (.ref _)) => true
  | _ => false
noncomputable abbrev oB := Bool × Option (Option Value) × Option (Option Value) × Bool × Option (Option Value) × Option Bool × Option Bool × Bool
noncomputable def sA (K : FG) (r : Str) : oB := (gr K r, PySem.W.findIn K (.ref (ah K r)) "__getattribute__", PySem.W.findIn K (.ref (ah K r)) "__getattr__", PySem.W.isClsIn K (ah K r), PySem.W.findIn K (.ref (ah K r)) "__class__", PySem.W.mroIn K (ah K r) (.type "object"), PySem.W.mroIn K (ah K r) (.type "BaseException"), PySem.W.excIn K (ah K r) mroV "ValueError.__new__")
noncomputable def nU : oB := (true, some (some (.builtin "BaseException.__getattribute__")), some none, true, some (some (.builtin "object.__class__")), some true, some true, true)
noncomputable def nR (K : FG) : Option (Option Value) × Option Bool := (PySem.W.specialIn K (.builtin "object.__class__") "__get__", PySem.W.takesIn K (.builtin "object.__class__"))
noncomputable def kC : Option (Option Value) × Option Bool := (some (some (.builtin "getset_descriptor.__get__")), some true)
end L3
namespace Bn
open PySem L2 L3
noncomputable def top (i : Nat) : Stmt := PySem.Challenge.pw_bentrows_k57_signs_refused.main.body.getD i (.Pass ⟨0, 0, 0, 0⟩)
noncomputable abbrev fc : Stmt := top 15
noncomputable abbrev ff : Stmt := top 16
noncomputable abbrev fg : Stmt := top 17
noncomputable abbrev bT : Stmt := top 18
noncomputable abbrev cL : Stmt := top 19
noncomputable abbrev dD : Stmt := top 22
noncomputable abbrev cJ : Stmt := top 23
noncomputable abbrev m5 : Stmt := top 24
noncomputable abbrev ip : Stmt := top 25
noncomputable abbrev ku : Stmt := top 26
noncomputable abbrev cz : Stmt := top 27
noncomputable abbrev fe : Stmt := top 28
noncomputable abbrev df : Stmt := top 29
noncomputable abbrev gh : Stmt := top 30
noncomputable abbrev d6 : Stmt := top 31
noncomputable abbrev dY : Stmt := top 35
noncomputable abbrev cI : Stmt := top 36
noncomputable abbrev c9 : Stmt := top 37
noncomputable abbrev eZ : Stmt := top 40
noncomputable abbrev dC : Stmt := top 41
noncomputable abbrev gj : Stmt := top 46
noncomputable abbrev cg : Stmt := top 47
noncomputable abbrev bJ : Stmt := top 48
noncomputable abbrev cM : Stmt := top 49
noncomputable abbrev d5 : Stmt := top 50
noncomputable abbrev de : Stmt := top 51
noncomputable abbrev eY : Stmt := top 52
noncomputable abbrev cK : Stmt := top 53
noncomputable abbrev bW : Stmt := top 54
noncomputable abbrev d7 : Stmt := top 55
noncomputable abbrev ci : Stmt := top 56
noncomputable abbrev kr : Stmt := top 58
noncomputable abbrev ir : Stmt := top 59
noncomputable abbrev dB : Stmt := top 60
noncomputable abbrev dZ : Stmt := top 61
noncomputable abbrev iu : Stmt := top 62
noncomputable abbrev gi : Stmt := top 63
noncomputable abbrev iq : Stmt := top 64
noncomputable abbrev fS : Stmt := top 65
noncomputable abbrev dsL : List (Str × Stmt) := [(("is_whole" : Str), fc), (("is_point" : Str), ff), (("is_place" : Str), fg), (("are_rising_places" : Str), bT), (("check_number" : Str), cL), (("are_points" : Str), dD), (("has_rising_x" : Str), cJ), (("bend" : Str), m5), (("threes" : Str), ip), (("fours" : Str), ku), (("first_on_line" : Str), cz), (("is_sheet" : Str), fe), (("check_sheet" : Str), df), (("turn_at" : Str), gh), (("all_turns" : Str), d6), (("row_bends" : Str), dY), (("onward_table" : Str), cI), (("longest_row" : Str), c9), (("side_row" : Str), eZ), (("is_ring_by" : Str), dC), (("is_sign" : Str), gj), (("turns_by_signs" : Str), cg), (("change_once_at_most" : Str), bJ), (("are_signs_of" : Str), cM), (("are_signs" : Str), d5), (("check_signs" : Str), de), (("signs_of" : Str), eY), (("cup_by_signs" : Str), cK), (("is_ring_by_signs" : Str), bW), (("all_signs" : Str), d7), (("sheet_by_signs" : Str), ci), (("_law_box" : Str), kr), (("_law_take" : Str), ir), (("_law_no_sheet" : Str), dB), (("_law_classes" : Str), dZ), (("_law_only" : Str), iu), (("_law_asked" : Str), gi), (("_law_told" : Str), iq), (("law" : Str), fS)]
noncomputable abbrev blL : List Str := [("len" : Str), ("range" : Str), ("abs" : Str), ("divmod" : Str), ("enumerate" : Str), ("tuple" : Str), ("isinstance" : Str), ("int" : Str), ("bool" : Str), ("all" : Str), ("str" : Str), ("max" : Str), ("min" : Str), ("list" : Str), ("dict" : Str), ("repr" : Str), ("sorted" : Str), ("set" : Str), ("zip" : Str), ("reversed" : Str)]
noncomputable abbrev ciL : List (Str × Int) := [(("MOST_POINTS" : Str), (24 : Int)), (("DOWN" : Str), (-1 : Int)), (("LEAST_CORNERS" : Str), (3 : Int)), (("UP" : Str), (1 : Int)), (("MOST_FOR_ALL_SIGNS" : Str), (5 : Int)), (("MOST_FOR_SHEETS" : Str), (4 : Int))]
noncomputable abbrev csL : List (Str × Str) := []
noncomputable abbrev xrL : List String := ["NoNumber", "NoSigns", "NoSheet"]
noncomputable abbrev xcL : List Str := [("NoNumber" : Str), ("NoSigns" : Str), ("NoSheet" : Str), ("Apart" : Str), ("Bare" : Str), ("NoLine" : Str), ("NoPlace" : Str), ("NoRing" : Str), ("NoRow" : Str), ("NoText" : Str), ("OnLine" : Str), ("TooMany" : Str), ("BentError" : Str)]
noncomputable abbrev xbL : List Str := [("ValueError" : Str)]
noncomputable def wZ (K : FG) : List (Option ot) × List (Option (Option Value)) × List (Option Int) × List (Option Str) × List oB × List Bool × List (Option (Option Value)) × (Option (Option Value) × Option Bool) × List (Option Bool) × List (Option Bool) := (dsL.map (fun p => pX K p.1), blL.map (PySem.W.nsIn K mainGlobals), ciL.map (fun p => nN K p.1), csL.map (fun p => uV K p.1), xrL.map (fun r : String => sA K r), xcL.map (gr K), xbL.map (PySem.W.nsIn K mainGlobals), nR K, [PySem.W.kitOne K (.ref (ah K "NoNumber")) (.ref (ah K "Apart")), PySem.W.kitOne K (.ref (ah K "NoSigns")) (.ref (ah K "Apart")), PySem.W.kitOne K (.ref (ah K "NoSheet")) (.ref (ah K "Apart")), PySem.W.kitOne K (.ref (ah K "NoNumber")) (.ref (ah K "Bare")), PySem.W.kitOne K (.ref (ah K "NoSigns")) (.ref (ah K "Bare")), PySem.W.kitOne K (.ref (ah K "NoSheet")) (.ref (ah K "Bare")), PySem.W.kitOne K (.ref (ah K "NoNumber")) (.ref (ah K "NoLine")), PySem.W.kitOne K (.ref (ah K "NoSigns")) (.ref (ah K "NoLine")), PySem.W.kitOne K (.ref (ah K "NoSheet")) (.ref (ah K "NoLine")), PySem.W.kitOne K (.ref (ah K "NoNumber")) (.ref (ah K "NoNumber")), PySem.W.kitOne K (.ref (ah K "NoSigns")) (.ref (ah K "NoNumber")), PySem.W.kitOne K (.ref (ah K "NoSheet")) (.ref (ah K "NoNumber")), PySem.W.kitOne K (.ref (ah K "NoNumber")) (.ref (ah K "NoPlace")), PySem.W.kitOne K (.ref (ah K "NoSigns")) (.ref (ah K "NoPlace")), PySem.W.kitOne K (.ref (ah K "NoSheet")) (.ref (ah K "NoPlace")), PySem.W.kitOne K (.ref (ah K "NoNumber")) (.ref (ah K "NoRing")), PySem.W.kitOne K (.ref (ah K "NoSigns")) (.ref (ah K "NoRing")), PySem.W.kitOne K (.ref (ah K "NoSheet")) (.ref (ah K "NoRing")), PySem.W.kitOne K (.ref (ah K "NoNumber")) (.ref (ah K "NoRow")), PySem.W.kitOne K (.ref (ah K "NoSigns")) (.ref (ah K "NoRow")), PySem.W.kitOne K (.ref (ah K "NoSheet")) (.ref (ah K "NoRow")), PySem.W.kitOne K (.ref (ah K "NoNumber")) (.ref (ah K "NoSheet")), PySem.W.kitOne K (.ref (ah K "NoSigns")) (.ref (ah K "NoSheet")), PySem.W.kitOne K (.ref (ah K "NoSheet")) (.ref (ah K "NoSheet")), PySem.W.kitOne K (.ref (ah K "NoNumber")) (.ref (ah K "NoSigns")), PySem.W.kitOne K (.ref (ah K "NoSigns")) (.ref (ah K "NoSigns")), PySem.W.kitOne K (.ref (ah K "NoSheet")) (.ref (ah K "NoSigns")), PySem.W.kitOne K (.ref (ah K "NoNumber")) (.ref (ah K "NoText")), PySem.W.kitOne K (.ref (ah K "NoSigns")) (.ref (ah K "NoText")), PySem.W.kitOne K (.ref (ah K "NoSheet")) (.ref (ah K "NoText")), PySem.W.kitOne K (.ref (ah K "NoNumber")) (.ref (ah K "OnLine")), PySem.W.kitOne K (.ref (ah K "NoSigns")) (.ref (ah K "OnLine")), PySem.W.kitOne K (.ref (ah K "NoSheet")) (.ref (ah K "OnLine")), PySem.W.kitOne K (.ref (ah K "NoNumber")) (.ref (ah K "TooMany")), PySem.W.kitOne K (.ref (ah K "NoSigns")) (.ref (ah K "TooMany")), PySem.W.kitOne K (.ref (ah K "NoSheet")) (.ref (ah K "TooMany")), PySem.W.kitOne K (.ref (ah K "NoNumber")) (.ref (ah K "BentError")), PySem.W.kitOne K (.ref (ah K "NoSigns")) (.ref (ah K "BentError")), PySem.W.kitOne K (.ref (ah K "NoSheet")) (.ref (ah K "BentError")), PySem.W.kitOne K (.ref (ah K "NoNumber")) (.type "ValueError"), PySem.W.kitOne K (.ref (ah K "NoSigns")) (.type "ValueError"), PySem.W.kitOne K (.ref (ah K "NoSheet")) (.type "ValueError")], [PySem.W.exmOne K (.ref (ah K "NoNumber")) (.ref (ah K "BentError")), PySem.W.exmOne K (.ref (ah K "NoSigns")) (.ref (ah K "BentError")), PySem.W.exmOne K (.ref (ah K "NoSheet")) (.ref (ah K "BentError"))])
noncomputable def r0 : List (Option ot) × List (Option (Option Value)) × List (Option Int) × List (Option Str) × List oB × List Bool × List (Option (Option Value)) × (Option (Option Value) × Option Bool) × List (Option Bool) × List (Option Bool) := (dsL.map (fun p => lx p.1 p.2), blL.map (fun _ => some none), ciL.map (fun p => some p.2), csL.map (fun p => some p.2), xrL.map (fun _ : String => nU), xcL.map (fun _ => true), xbL.map (fun _ => some none), kC, [some false, some false, some false, some false, some false, some false, some false, some false, some false, some true, some false, some false, some false, some false, some false, some false, some false, some false, some false, some false, some false, some false, some false, some true, some false, some true, some false, some false, some false, some false, some false, some false, some false, some false, some false, some false, some true, some true, some true, some true, some true, some true], [some true, some true, some true])
theorem okL : PySem.Challenge.rw_bentrows_k57_signs_refused.wellSaid = true := sP (by kernel_rfl)
noncomputable abbrev loL : List Str := [("BentError" : Str), ("NoSheet" : Str), ("NoPlace" : Str), ("NoNumber" : Str), ("NoRow" : Str), ("Apart" : Str), ("NoRing" : Str), ("TooMany" : Str), ("Bare" : Str), ("NoSigns" : Str), ("NoLine" : Str), ("OnLine" : Str), ("NoText" : Str), ("is_whole" : Str), ("is_point" : Str), ("is_place" : Str), ("are_rising_places" : Str), ("check_number" : Str), ("MOST_POINTS" : Str), ("are_points" : Str), ("has_rising_x" : Str), ("bend" : Str), ("threes" : Str), ("fours" : Str), ("first_on_line" : Str), ("is_sheet" : Str), ("check_sheet" : Str), ("turn_at" : Str), ("all_turns" : Str), ("UP" : Str), ("DOWN" : Str), ("row_bends" : Str), ("onward_table" : Str), ("longest_row" : Str), ("LEAST_CORNERS" : Str), ("side_row" : Str), ("is_ring_by" : Str), ("MOST_FOR_ALL_SIGNS" : Str), ("MOST_FOR_SHEETS" : Str), ("FOURTH_HEIGHTS" : Str), ("is_sign" : Str), ("turns_by_signs" : Str), ("change_once_at_most" : Str), ("are_signs_of" : Str), ("are_signs" : Str), ("check_signs" : Str), ("signs_of" : Str), ("cup_by_signs" : Str), ("is_ring_by_signs" : Str), ("all_signs" : Str), ("sheet_by_signs" : Str), ("_law_box" : Str), ("_law_take" : Str), ("_law_no_sheet" : Str), ("_law_classes" : Str), ("_law_only" : Str), ("_law_asked" : Str), ("_law_told" : Str)]
noncomputable abbrev viL : Program := PySem.W.view PySem.Challenge.rw_bentrows_k57_signs_refused.row.prog [65]
theorem leftL : PySem.W.LeftO PySem.Challenge.rw_bentrows_k57_signs_refused.row.prog viL loL (fun s => PySem.W.recOk (PySem.W.RowW.records PySem.Challenge.rw_bentrows_k57_signs_refused.row.toRowW) s) (fun s => wZ (v9 s.heap)) (fun _ => r0) 40000 :=
  tM (m := 11) (ann := some (.ref 6)) (by kernel_rfl) rfl (fun _ => rfl) (fun w => by kernel_rfl) (fun w os => by kernel_rfl)
end Bn
end
section
namespace L2
open PySem PySem.Spec PyProof.Rows
noncomputable abbrev Key:=Sum Int Str
noncomputable def mF:Key->Value->Bool
  | .inl k,v=>Value.isInt k v
  | .inr x,v=>Value.isStrOf x v
noncomputable def keyH (w:World):Key->Int
  | .inl k=>hashInt k
  | .inr x=>hashStr w x
theorem bQ:∀ {k:Key} {v:Value},mF k v=true->(∃ i t,k=Sum.inl i/\v=Value.int i t)\/(∃ x t,k=Sum.inr x/\v=Value.str x t)
  | .inl i,v,h=>by
    obtain ⟨t,e⟩:=Value.isInt_shape (k:=i) (v:=v) h
    exact .inl ⟨i,t,rfl,e⟩
  | .inr x,v,h=>by
    obtain ⟨t,e⟩:=Value.isStrOf_shape (x:=x) (v:=v) h
    exact .inr ⟨x,t,rfl,e⟩
theorem tU (i:Int) (t:Tok):mF (.inl i) (.int i t)=true:=by simp [mF,Value.isInt]
theorem tR (x:Str) (t:Tok):mF (.inr x) (.str x t)=true:=by simp [mF,Value.isStrOf]
theorem Am (a b:Int):decide ((Sum.inl a:Key)=Sum.inl b)=(a == b):=by
  by_cases e:a=b
  · subst e;simp
  · have h:¬ (Sum.inl a:Key)=Sum.inl b:=fun q=>e (Sum.inl.inj q)
    rw [Ba h]
    exact (beq_eq_false_iff_ne.mpr e).symm
theorem Aj (a b:Str):decide ((Sum.inr a:Key)=Sum.inr b)=decide (a=b):=by
  by_cases e:a=b
  · subst e;simp
  · have h:¬ (Sum.inr a:Key)=Sum.inr b:=fun q=>e (Sum.inr.inj q)
    rw [Ba h,Ba e]
theorem Al (a:Int) (b:Str):decide ((Sum.inl a:Key)=Sum.inr b)=false:=Ba (fun q=>nomatch q)
theorem Ak (a:Str) (b:Int):decide ((Sum.inr a:Key)=Sum.inl b)=false:=Ba (fun q=>nomatch q)
noncomputable def bB (prog:Program) (w:World):PySem.KeyKind prog w Key where
  is:=mF
  hash:=keyH w
  inj:=fun v a b ha hb=>by
    rcases bQ ha with ⟨i,t,rfl,rfl⟩ | ⟨x,t,rfl,rfl⟩
    · rcases bQ hb with ⟨j,u,rfl,e⟩ | ⟨y,u,rfl,e⟩
      · injection e with e1 _;rw [e1]
      · exact nomatch e
    · rcases bQ hb with ⟨j,u,rfl,e⟩ | ⟨y,u,rfl,e⟩
      · exact nomatch e
      · injection e with e1 _;rw [e1]
  byValue:=fun k v h=>by
    rcases bQ h with ⟨i,t,rfl,rfl⟩ | ⟨x,t,rfl,rfl⟩ <;> rfl
  pyHash:=fun hv h=>by
    rcases bQ hv with ⟨i,t,rfl,rfl⟩ | ⟨x,t,rfl,rfl⟩
    · exact wpAny_pyHash_int h
    · exact wpAny_pyHash_str h
  eqBool:=fun hu hv h=>by
    rcases bQ hu with ⟨i,t,rfl,rfl⟩ | ⟨x,t,rfl,rfl⟩
    · rcases bQ hv with ⟨j,u,rfl,rfl⟩ | ⟨y,u,rfl,rfl⟩
      · rw [Am] at h;exact wpAny_eqBool_int h
      · rw [Al] at h;exact SeqAt.EqAt.int_str i t y u _ _ _ _ h
    · rcases bQ hv with ⟨j,u,rfl,rfl⟩ | ⟨y,u,rfl,rfl⟩
      · rw [Ak] at h;exact SeqAt.EqAt.str_int x t j u _ _ _ _ h
      · rw [Aj] at h;exact wpAny_eqBool_str h
  «strs»:=fun k x t v h=>by
    rcases bQ h with ⟨i,u,rfl,e⟩ | ⟨y,u,rfl,e⟩
    · exact nomatch e
    · injection e with e1 _
      subst e1
      cases v <;> rfl
theorem pB (prog:Program) (w:World) (i:Int) (t:Tok):(bB prog w).is (.inl i) (.int i t)=true:=tU i t
theorem pA (prog:Program) (w:World) (x:Str) (t:Tok):(bB prog w).is (.inr x) (.str x t)=true:=tR x t
end L2
namespace L2
open PySem PySem.Spec PyProof.Rows
inductive V where
  | non | bl (b:Bool) | int (i:Int) | str (x:Str) | byt (b:Array UInt8) | flt (b:UInt64) | ref (a:Addr) | ty (n:String)
  deriving DecidableEq
noncomputable def RelV:V->Value->Prop
  | .non,u=>u=Value.none
  | .bl b,u=>u=Value.bool b
  | .int i,u=>∃ t,u=Value.int i t
  | .str x,u=>∃ t,u=Value.str x t
  | .byt b,u=>∃ t,u=Value.bytes b t
  | .flt b,u=>∃ t,u=Value.float b t
  | .ref a,u=>u=Value.ref a
  | .ty n,u=>u=Value.type n
noncomputable abbrev Vals:List V->List Value->Prop:=Paired RelV
theorem Vals.length {xs:List V} {us:List Value} (r:Vals xs us):xs.length=us.length:=Paired.length r
theorem Vals.get:∀ {xs:List V} {us:List Value} {i:Nat} {x:V},Vals xs us->xs[i]?=some x->∃ u,us[i]?=some u/\RelV x u
  | _,_,_,_,.nil,e=>by simp at e
  | _,_,0,_,.cons r _,e=>by simp at e;subst e;exact ⟨_,rfl,r⟩
  | _,_,i+1,x,.cons _ t,e=>by
    obtain ⟨u,h1,h2⟩:=Vals.get (i:=i) (x:=x) t (by simpa using e)
    exact ⟨u,by simpa using h1,h2⟩
theorem Vals.set {x:V} {u:Value} (r:RelV x u):∀ {xs:List V} {us:List Value} (i:Nat),Vals xs us->Vals (xs.set i x) (us.set i u)
  | _,_,_,.nil=>.nil
  | _,_,0,.cons _ t=>.cons r t
  | _,_,i+1,.cons q t=>.cons q (Vals.set r i t)
theorem Vals.append:∀ {xs ys:List V} {us ws:List Value},Vals xs us->Vals ys ws->Vals (xs ++ ys) (us ++ ws)
  | _,_,_,_,.nil,s=>s
  | _,_,_,_,.cons r t,s=>.cons r (Vals.append t s)
theorem Vals.take:∀ {xs:List V} {us:List Value} (n:Nat),Vals xs us->Vals (xs.take n) (us.take n)
  | _,_,0,_=>.nil
  | _,_,_+1,.nil=>.nil
  | _,_,n+1,.cons r t=>.cons r (Vals.take n t)
theorem Vals.drop:∀ {xs:List V} {us:List Value} (n:Nat),Vals xs us->Vals (xs.drop n) (us.drop n)
  | _,_,0,r=>r
  | _,_,_+1,.nil=>.nil
  | _,_,n+1,.cons _ t=>Vals.drop n t
noncomputable def RelO:Option V->Option Value->Prop
  | some v,some u=>RelV v u
  | none,none=>True
  | _,_=>False
noncomputable def KV {κ:Type}:List (κ × V)->List (κ × Value)->Prop:=Paired fun (p:κ × V) (q:κ × Value)=>p.1=q.1/\RelV p.2 q.2
noncomputable def kV:Key->V
  | .inl i=>.int i
  | .inr x=>.str x
inductive HO where
  | lst (xs:List V)
  | tup (xs:List V)
  | dK (kvs:List (Key × V)) | dT (kvs:List (List Key × V))
  | set (S:Int->Bool) (n:Nat)
  | ins (C dx:Addr) (fs:List (Str × V))
  | own (x:Addr)
  | xd (fs:List (Str × V))
  | met (f x:Addr)
  | rng (lo hi:Int)
  | frz (o:Obj) (u:HO)
  | tbl (ps:Array Value)
  | ext (φ:Heap->Prop)
noncomputable abbrev Hp:=Addr->Option HO
noncomputable def upd (H:Hp) (a:Addr) (o:HO):Hp:=fun b=>if b=a then some o else H b
theorem aV {H:Hp} {a:Addr} {o:HO}:upd H a o a=some o:=by unfold upd;rw [if_pos rfl]
theorem aw {H:Hp} {a b:Addr} {o:HO} (h:b ≠ a):upd H a o b=H b:=by unfold upd;rw [if_neg h]
theorem ne_of {H:Hp} {a b:Addr} {o u:HO} (h:H a=some o) (h':H b=some u) (d:o ≠ u):a ≠ b:=by
  intro e;subst e;rw [h] at h';exact d (Bt h')
theorem aY {H:Hp} {a b:Addr} {o:HO} (h:H a=some o) (h':H b=none):a ≠ b:=by
  intro e;subst e;rw [h] at h';cases h'
noncomputable def DictOfE {prog:Program} {w:World} {κ:Type} [DecidableEq κ] (knd:KeyKind prog w κ) (h:Heap) (a:Addr) (kvs:List (κ × Value)):Prop :=
  ∃ o es ep,h.get? a=some o/\o.ExactDict/\o.data=.dict es ep/\KeysOf knd es/\Pairs knd es.toList kvs/\(kvs.map (·.1)).Nodup/\ep=es.size
theorem DictOfE.of {prog:Program} {w:World} {κ:Type} [DecidableEq κ] {knd:KeyKind prog w κ} {h:Heap} {a:Addr} {kvs:List (κ × Value)} (x:DictOfE knd h a kvs):h.DictOf knd a kvs:=let ⟨o,es,ep,h1,h2,h3,h4,h5,h6,_⟩:=x;⟨o,es,ep,h1,h2,h3,h4,h5,h6⟩
noncomputable def IsTupD (h:Heap) (a:Addr) (items:Array Value):Prop:=∃ o,h.get? a=some o/\o.cls=.type "tuple"/\∃ n,(o.data,o.dict)=(Data.seq items n,none)
theorem IsTupD.tup {h:Heap} {a:Addr} {items:Array Value} (x:IsTupD h a items):IsTup h a items:=let ⟨o,e,c,n,d⟩:=x;⟨o,e,c,n,congrArg Prod.fst d⟩
theorem IsTupD.lt {h:Heap} {a:Addr} {items:Array Value} (x:IsTupD h a items):a < h.objs.size:=x.tup.lt
theorem IsTupD.new (h:Heap) (items:Array Value):IsTupD (h.push { cls:=.type "tuple",data:=.seq items }) h.objs.size items:=⟨_,AW h rfl,rfl,_,rfl⟩
section
variable (P:Program) (w:World)
noncomputable def ObjOk (H:Hp) (h:Heap) (a:Addr):HO->Prop
  | .lst xs=>xs.length<=sizeLine/\∃ (its:List Value) (n:Nat),Vals xs its/\h.get? a=some { cls:=.type "list",data:=.seq its.toArray n }
  | .tup xs=>xs.length<=sizeLine/\∃ its:List Value,Vals xs its/\IsTupD h a its.toArray
  | .dK kvs=>kvs.length<=sizeLine/\(a == sysModules)=false/\∃ vs,KV kvs vs/\DictOfE (bB P w) h a vs
  | .dT kvs=>kvs.length<=sizeLine/\(a == sysModules)=false/\∃ xs:List (List Key × Addr × Value),
      Paired (fun (p:List Key × V) (q:List Key × Addr × Value)=>p.1=q.1/\H q.2.1=some (.tup (p.1.map kV))/\RelV p.2 q.2.2) kvs xs /\
      ∃ o es ep,h.get? a=some o/\o.ExactDict/\o.data=.dict es ep/\es.toList=xs.map (entryOfKey (tupleKind (bB P w)))/\(xs.map (·.1)).Nodup/\ep=es.size
  | .set S n=>h.SetOf (intKind P w) a S n
  | .ins C dx fs=>H dx=some (.own a)/\fs.length<=1000/\dx ≠ a/\h.get? a=some (PySem.W.instObj C dx) /\
      ∃ mA,h.Ns1 dx mA/\(∀ f,RelO (fs.lookup f) (mA f))/\PySem.Within mA (fs.map (·.1))
  | .own _=>∃ o,h.get? a=some o
  | .xd fs=>∃ mA,h.Ns1 a mA/\∀ f,RelO (fs.lookup f) (mA f)
  | .rng lo hi=>∃ t u v,h.get? a=some { cls:=.type "range",data:=.fields #[.int lo t,.int hi u,.int 1 v] }
  | .frz o u=>h.get? a=some o/\ObjOk H h a u
  | .tbl ps=>h.get? a=some { cls:=.none,data:=.fields ps }
  | .met f x=>h.get? a=some (PySem.W.methodObj (.ref f) (.ref x))
  | .ext φ=>φ h/\(∃ o,h.get? a=some o)/\∀ h1 h2:Heap,φ h1->(∀ o,h1.get? a=some o->h2.get? a=some o)->φ h2
noncomputable def HOk (H:Hp) (h:Heap):Prop:=∀ a o,H a=some o->ObjOk P w H h a o
end
section
variable {P:Program} {w:World} {H H':Hp} {h h':Heap} {a:Addr} {o:HO}
theorem ObjOk.lt (x:ObjOk P w H h a o):a < h.objs.size:=by
  cases o with
  | lst xs=>obtain ⟨_,_,_,_,e⟩:=x;exact AU e
  | tup xs=>obtain ⟨_,_,_,p⟩:=x;exact p.lt
  | dK kvs=>obtain ⟨_,_,_,_,o,_,_,e,_⟩:=x;exact AU e
  | dT kvs=>obtain ⟨_,_,_,_,o,_,_,e,_⟩:=x;exact AU e
  | set S n=>obtain ⟨o,_,_,_,e,_⟩:=x;exact AU e
  | ins C dx fs=>obtain ⟨_,_,_,e,_⟩:=x;exact AU e
  | own y=>obtain ⟨_,e⟩:=x;exact AU e
  | xd fs=>obtain ⟨_,⟨_,_,_,e,_⟩,_⟩:=x;exact AU e
  | rng lo hi=>obtain ⟨_,_,_,e⟩:=x;exact AU e
  | frz ob u=>obtain ⟨e,_⟩:=x;exact AU e
  | tbl ps=>exact AU (show h.get? a=some _ from x)
  | met f y=>exact AU (show h.get? a=some _ from x)
  | ext φ=>obtain ⟨_,⟨_,e⟩,_⟩:=x;exact AU e
theorem Paired.mapP {α β:Type} {F G:α->β->Prop}:∀ {l₁:List α} {l₂:List β},Paired F l₁ l₂->(∀ a b,F a b->G a b)->Paired G l₁ l₂
  | _,_,.nil,_=>.nil
  | _,_,.cons r t,f=>.cons (f _ _ r) (Paired.mapP t f)
theorem ObjOk.stay (x:ObjOk P w H h a o) (k:∀ b u,(b=a\/H b=some (.own a))->h.get? b=some u->h'.get? b=some u)
    (ho:∀ b,H b=some (.own a)->H' b=some (.own a)) (ht:∀ b xs,H b=some (.tup xs)->H' b=some (.tup xs)):ObjOk P w H' h' a o:=by
  induction o with
  | lst xs=>obtain ⟨z,its,n,r,e⟩:=x;exact ⟨z,its,n,r,k _ _ (.inl rfl) e⟩
  | tup xs=>obtain ⟨z,its,r,ob,e,c⟩:=x;exact ⟨z,its,r,ob,k _ _ (.inl rfl) e,c⟩
  | dK kvs=>obtain ⟨z,y,vs,r,ob,es,ep,e,c⟩:=x;exact ⟨z,y,vs,r,ob,es,ep,k _ _ (.inl rfl) e,c⟩
  | dT kvs =>
    obtain ⟨z,y,xs,r,ob,es,ep,e,c⟩:=x
    exact ⟨z,y,xs,Paired.mapP r fun p q z=>⟨z.1,ht _ _ z.2.1,z.2.2⟩,ob,es,ep,k _ _ (.inl rfl) e,c⟩
  | set S n=>obtain ⟨ob,es,ep,t,e,c⟩:=x;exact ⟨ob,es,ep,t,k _ _ (.inl rfl) e,c⟩
  | ins C dx fs =>
    obtain ⟨d,z,ne,e,mA,⟨od,es,ep,e2,c⟩,r⟩:=x
    exact ⟨ho _ d,z,ne,k _ _ (.inl rfl) e,mA,⟨od,es,ep,k _ _ (.inr d) e2,c⟩,r⟩
  | own y=>obtain ⟨ob,e⟩:=x;exact ⟨ob,k _ _ (.inl rfl) e⟩
  | xd fs=>obtain ⟨mA,⟨od,es,ep,e,c⟩,r⟩:=x;exact ⟨mA,⟨od,es,ep,k _ _ (.inl rfl) e,c⟩,r⟩
  | rng lo hi=>obtain ⟨t,u,v,e⟩:=x;exact ⟨t,u,v,k _ _ (.inl rfl) e⟩
  | frz ob u ih=>obtain ⟨e,q⟩:=x;exact ⟨k _ _ (.inl rfl) e,ih q⟩
  | tbl ps =>
    have e:h.get? a=some { cls:=.none,data:=.fields ps }:=x
    show h'.get? a=some { cls:=.none,data:=.fields ps }
    exact k a _ (.inl rfl) e
  | met f y =>
    have e:h.get? a=some (PySem.W.methodObj (.ref f) (.ref y)):=x
    show h'.get? a=some (PySem.W.methodObj (.ref f) (.ref y))
    exact k a _ (.inl rfl) e
  | ext φ=>obtain ⟨p,⟨o,e⟩,st⟩:=x;exact ⟨st _ _ p fun o q=>k _ _ (.inl rfl) q,⟨o,k _ _ (.inl rfl) e⟩,st⟩
theorem HOk.lt (x:HOk P w H h) (e:H a=some o):a < h.objs.size:=(x a o e).lt
theorem HOk.fresh (x:HOk P w H h) (e:h.objs.size<=a):H a=none:=by
  cases q:H a with
  | none=>rfl
  | some u=>exact absurd (Bb (x.lt q) e) (Nat.lt_irrefl _)
theorem HOk.kept (x:HOk P w H h) (k:∀ b u,h.get? b=some u->h'.get? b=some u):HOk P w H h':=fun a o e =>
  (x a o e).stay (fun b u _ q=>k b u q) (fun _ q=>q) fun _ _ q=>q
theorem HOk.laid (x:HOk P w H h) (k:∀ b u,h.get? b=some u->h'.get? b=some u) (hp:h.objs.size<=a) (new:ObjOk P w (upd H a o) h' a o):HOk P w (upd H a o) h':=fun b u e=>by
  have hn:=x.fresh hp
  by_cases hb:b=a
  · subst hb;rw [aV] at e;cases e;exact new
  · rw [aw hb] at e
    exact (x b u e).stay (fun c v _ q=>k c v q) (fun c q=>by rw [aw (aY q hn)];exact q) fun c xs q=>by rw [aw (aY q hn)];exact q
end
noncomputable def Rd (H:Hp) (a:Addr) (u:HO):Prop:=H a=some u\/∃ o,H a=some (.frz o u)
theorem Rd.ok {P:Program} {w:World} {H:Hp} {h:Heap} {a:Addr} {u:HO} (r:Rd H a u) (x:HOk P w H h):ObjOk P w H h a u:=by
  rcases r with r | ⟨o,r⟩
  · exact x a u r
  · obtain ⟨_,q⟩:=x a _ r
    exact q
noncomputable def Mut:Option HO->Prop
  | some (.lst _)=>True
  | some (.dK _)=>True
  | some (.dT _)=>True
  | some (.set _ _)=>True
  | some (.ins _ _ _)=>True
  | some (.ext _)=>True
  | _=>False
section
variable {P:Program} {w:World} {H:Hp} {h h':Heap} {x e:Addr} {o':HO}
theorem HOk.write (ok:HOk P w H h) (mu:Mut (H x)) (he:e=x\/H e=some (.own x)) (k:∀ b u,b ≠ e->h.get? b=some u->h'.get? b=some u) (heo:∃ u,h'.get? e=some u)
    (new:ObjOk P w (upd H x o') h' x o'):HOk P w (upd H x o') h':=fun b u q=>by
  have nown:∀ c y,H c=some (.own y)->c ≠ x:=fun c y r z=>by subst z;rw [r] at mu;exact mu
  have ntup:∀ c xs,H c=some (.tup xs)->c ≠ x:=fun c xs r z=>by subst z;rw [r] at mu;exact mu
  by_cases hb:b=x
  · subst hb;rw [aV] at q;cases q;exact new
  · rw [aw hb] at q
    by_cases hbe:b=e
    · have q':H b=some (.own x):=by
        rcases he with z | z
        · exact absurd (hbe.trans z) hb
        · rw [hbe];exact z
      rw [q] at q';cases q'
      obtain ⟨v,hv⟩:=heo
      exact ⟨v,by rw [hbe];exact hv⟩
    · refine (ok b u q).stay (fun c v hc r=>k c v ?_ r) (fun c r=>by rw [aw (nown c b r)];exact r) fun c xs r=>by rw [aw (ntup c xs r)];exact r
      rcases hc with rfl | hc
      · exact hbe
      · rintro rfl
        rcases he with z | z
        · exact nown c b hc z
        · rw [hc] at z;cases z;exact hb rfl
end
structure Un (fs ex:List Addr) (H H':Hp) (h h':Heap):Prop where
  keep:∀ b o,h.get? b=some o->H b=none->b ∉ fs->b ∉ ex->h'.get? b=some o
  slot:∀ b o,h.get? b=some o->H b=none->b ∈ fs->b ∉ ex->∃ sl,h'.get? b=some { o with slots:=sl }
  free:∀ b o,h.get? b=some o->H b=none->b ∉ ex->H' b=none
  there:∀ b o,h.get? b=some o->b ∉ ex->∃ o',h'.get? b=some o'
  tups:∀ b xs,H b=some (.tup xs)->H' b=some (.tup xs)
  frzs:∀ b o u,H b=some (.frz o u)->H' b=some (.frz o u)
  tbls:∀ b ps,H b=some (.tbl ps)->∃ more,H' b=some (.tbl (ps ++ more))
section
variable {fs fs' ex ex':List Addr} {H H1 H2:Hp} {h h1 h2 h':Heap} {a x e:Addr} {o:HO}
theorem Un.any (u:Un fs ex H H1 h h1) {b:Addr} {ob:Obj} (q:h.get? b=some ob) (n:H b=none) (hx:b ∉ ex):∃ sl,h1.get? b=some { ob with slots:=sl }:=by
  by_cases hb:b ∈ fs
  · exact u.slot b ob q n hb hx
  · exact ⟨ob.slots,u.keep b ob q n hb hx⟩
theorem Un.trans (a:Un fs ex H H1 h h1) (b:Un fs ex H1 H2 h1 h2):Un fs ex H H2 h h2 where
  keep:=fun c ob q n hc hx=>b.keep c ob (a.keep c ob q n hc hx) (a.free c ob q n hx) hc hx
  slot:=fun c ob q n hc hx=>by
    obtain ⟨sl,e1⟩:=a.slot c ob q n hc hx
    obtain ⟨sl',e2⟩:=b.slot c _ e1 (a.free c ob q n hx) hc hx
    exact ⟨sl',e2⟩
  free:=fun c ob q n hx=>by
    obtain ⟨o',e1⟩:=a.there c ob q hx
    exact b.free c o' e1 (a.free c ob q n hx) hx
  there:=fun c ob q hx=>by
    obtain ⟨o',e1⟩:=a.there c ob q hx
    exact b.there c o' e1 hx
  tups:=fun c xs q=>b.tups c xs (a.tups c xs q)
  frzs:=fun c ob xs q=>b.frzs c ob xs (a.frzs c ob xs q)
  tbls:=fun c ps q=>by
    obtain ⟨m1,e1⟩:=a.tbls c ps q
    obtain ⟨m2,e2⟩:=b.tbls c _ e1
    exact ⟨m1 ++ m2,by rw [e2,Array.append_assoc]⟩
theorem Un.kept (k:∀ b u,h.get? b=some u->h'.get? b=some u):Un fs ex H H h h' :=
  ⟨fun b ob q _ _ _=>k b ob q,fun b ob q _ _ _=>⟨ob.slots,k b ob q⟩,fun _ _ _ n _=>n,fun b ob q _=>⟨ob,k b ob q⟩,fun _ _ q=>q,fun _ _ _ q=>q,fun _ ps q=>⟨#[],by rw [q];simp⟩⟩
theorem Un.refl:Un fs ex H H h h:=Un.kept fun _ _ q=>q
theorem Un.laid (k:∀ b u,h.get? b=some u->h'.get? b=some u) (hp:h.objs.size<=a) (hn:H a=none):Un fs ex H (upd H a o) h h' where
  keep:=fun b u q _ _ _=>k b u q
  slot:=fun b u q _ _ _=>⟨u.slots,k b u q⟩
  free:=fun b u q n _=>by rw [aw (A6 (Bb (AU q) hp))];exact n
  there:=fun b u q _=>⟨u,k b u q⟩
  tups:=fun b xs q=>by rw [aw (aY q hn)];exact q
  frzs:=fun b u xs q=>by rw [aw (aY q hn)];exact q
  tbls:=fun b ps q=>⟨#[],by rw [aw (aY q hn),q];simp⟩
theorem Un.write (mu:Mut (H x)) (he:e=x\/H e=some (.own x)) (k:∀ b u,b ≠ e->h.get? b=some u->h'.get? b=some u) (heo:∃ u,h'.get? e=some u):Un fs ex H (upd H x o) h h':=by
  have hx:∀ b,H b=none->b ≠ x:=fun b n z=>by subst z;rw [n] at mu;exact mu
  have hb:∀ b,H b=none->b ≠ e:=fun b n z=>by
    subst z
    rcases he with r | r
    · exact hx b n r
    · rw [n] at r;cases r
  have hm:∀ b u,H b=some u->¬ Mut (some u)->b ≠ x:=fun b u q nm z=>by subst z;rw [q] at mu;exact nm mu
  refine ⟨fun b u q n _ _=>k b u (hb b n) q,fun b u q n _ _=>⟨u.slots,k b u (hb b n) q⟩,fun b u q n _=>by rw [aw (hx b n)];exact n,fun b u q _=>?_,
    fun b xs q=>by rw [aw (hm b _ q fun z=>z)];exact q,fun b u xs q=>by rw [aw (hm b _ q fun z=>z)];exact q,fun b ps q=>⟨#[],by rw [aw (hm b _ q fun z=>z),q];simp⟩⟩
  by_cases hbe:b=e
  · subst hbe;exact heo
  · exact ⟨u,k b u hbe q⟩
end
noncomputable def trk (h:Heap) (H:Hp):List Addr:=(List.range h.objs.size).filter fun a=>(H a).isSome
noncomputable def nO (h:Heap) (H:Hp):Heap:=PySem.W.hideAll h (trk h H)
theorem tW (h:Heap) (H:Hp):(nO h H).objs.size=h.objs.size:=PySem.W.hideAll_size _ _
theorem v7 {h:Heap} {H:Hp} {b:Addr} {o:Obj} (e:h.get? b=some o) (n:H b=none):(nO h H).get? b=some o :=
  PySem.W.hideAll_get _ e fun hm=>by
    have q:(H b).isSome=true:=(Bk.mp hm).2
    rw [n] at q;simp at q
theorem xE {h:Heap} {H:Hp} {b:Addr} {o:Obj} (e:(nO h H).get? b=some o):h.get? b=some o/\H b=none:=by
  have e':h.get? b=some o:=PySem.W.of_hideAll (trk h H) e
  refine ⟨e',?_⟩
  cases q:H b with
  | none=>rfl
  | some x =>
    have hm:b ∈ trk h H:=Bk.mpr ⟨List.mem_range.mpr (AU e'),by simp [q]⟩
    have z:(nO h H).get? b=none:=PySem.W.hideAll_none (trk h H) hm
    rw [z] at e;cases e
noncomputable def yj (g h:Heap) (L:Addr):List (Addr × Obj):=(List.range h.objs.size).filterMap fun a=>if a=L\/(g.get? a).isSome=true then none else (h.get? a).map fun o=>(a,o)
noncomputable def eB (g h:Heap) (L d:Addr):List (Addr × Obj):=(yj g h L).filter fun p=>decide (p.1 ≠ d)
end L2
namespace L2
open PySem PySem.Spec PyProof.Rows
structure Mod (K:FG) (mg:Str->Option Value) (base:Heap):Prop where
  kin:K.In base
  glob:base.Ns mainGlobals mg
  blt:∃ mb,base.Ns builtinsNs mb/\∀ x:Str,x ≠ "__name__"->mb x=bootBuiltins x
  nolimit:base.NoLimit
structure Cx where
  prog:Program
  w:World
  K:FG
  mg:Str->Option Value
  base:Heap
  A:Around
  N:List Str
  s₀:Shared
  H₀:Hp
  env:Env
  outer:List Env
  stack:List Env
  ex:List Addr
  fn:Str->Bool
  calm:Bool
  pn:List (Addr × Obj)
  xe:Value->Shared->Prop
noncomputable def frs (l:List Env):List Addr:=l.filterMap (·.frame)
noncomputable abbrev Cx.fs (X:Cx):List Addr:=frs X.outer
noncomputable def Vis (sc:Scope) (x:Str):Prop:=sc.names.lookup x=some .local\/sc.names.lookup x=some .cell\/sc.names.lookup x=some .free
noncomputable def Loc (sc:Scope) (x:Str):Prop:=sc.names.lookup x=some .local\/sc.names.lookup x=some .cell
noncomputable def Look (env:Env) (h:Heap) (m:Str->Option Value) (x:Str) (u:Value):Prop :=
  (env.kindOf x=some .local/\m x=some u)\/((env.kindOf x=some .cell\/env.kindOf x=some .free)/\∃ c,env.cells.lookup x=some c/\h.IsCell c (some u))
structure Cx.Ok (X:Cx):Prop where
  mod:Mod X.K X.mg X.base
  kind:X.env.scope.kind=.function
  glob:X.env.globals=mainGlobals
  blt:X.env.builtins=builtinsNs
  above:X.s₀.heap.objs.size<=X.env.locals
  inj:∀ x y c,X.env.cells.lookup x=some c->X.env.cells.lookup y=some c->x=y
  has:∀ x,(X.env.kindOf x=some .cell\/X.env.kindOf x=some .free)->∃ c,X.env.cells.lookup x=some c
  cab:∀ x c,X.fn x=true->X.env.cells.lookup x=some c->X.s₀.heap.objs.size<=c
  hd:X.calm=true->X.A.handled=none
  frames:X.A.frames=some X.stack
  stk:X.stack=X.outer\/(X.stack=X.env :: X.outer/\X.env.frame=some X.env.locals)
  exf:∀ b ∈ X.ex,b ≠ X.env.locals/\∀ x c,X.env.cells.lookup x=some c->c ≠ b
  bs:∀ b o,X.base.get? b=some o->X.s₀.heap.get? b=some o/\X.H₀ b=none
  bsz:X.base.objs.size<=X.s₀.heap.objs.size
  noex:∀ b o,X.base.get? b=some o->b ∉ X.ex
  exfs:∀ b ∈ X.ex,b ∉ X.fs
  funs:X.s₀.heap.FunFrames X.base X.outer
  frf:∀ b ∈ X.fs,X.H₀ b=none
structure Inv (X:Cx) (pins:List (Addr × Obj)) (σ:List (Option V)) (H:Hp) (s:Shared):Prop where
  ok:X.Ok
  os:s.os=X.s₀.os
  bare:AllBare s.gens
  base:Un X.fs X.ex X.H₀ H X.s₀.heap s.heap
  loc:∃ m,s.heap.Ns X.env.locals m/\∀ (i:Nat) (x:Str) (v:V),X.N[i]?=some x->σ[i]?=some (some v)->Vis X.env.scope x->∃ u,RelV v u/\Look X.env s.heap m x u
  cell:∀ x c,X.env.cells.lookup x=some c->∃ v,s.heap.IsCell c v
  free:H X.env.locals=none
  freeC:∀ x c,X.env.cells.lookup x=some c->H c=none
  pin:∀ p ∈ X.pn ++ pins,s.heap.get? p.1=some p.2/\H p.1=none/\p.1 ≠ X.env.locals/\p.1 ∉ X.fs/\∀ v,p.2.data ≠ .cell v
  hok:HOk X.prog X.w H s.heap
  len:σ.length=X.N.length
section
variable {X:Cx} {pins:List (Addr × Obj)} {σ:List (Option V)} {H H':Hp} {s:Shared} {h':Heap}
theorem Cx.Ok.nofr (ok:X.Ok) {b:Addr} {o:Obj} (e:X.base.get? b=some o):b ∉ X.fs:=fun hb=>by
  have:=(ok.funs.mem hb).1
  rw [e] at this;cases this
theorem Inv.bs (I:Inv X pins σ H s):∀ b o,X.base.get? b=some o->s.heap.get? b=some o/\H b=none:=fun b o e =>
  ⟨I.base.keep b o (I.ok.bs b o e).1 (I.ok.bs b o e).2 (I.ok.nofr e) (I.ok.noex b o e),I.base.free b o (I.ok.bs b o e).1 (I.ok.bs b o e).2 (I.ok.noex b o e)⟩
theorem Inv.bk (I:Inv X pins σ H s):∀ b o,X.base.get? b=some o->s.heap.get? b=some o:=fun b o e=>(I.bs b o e).1
theorem Inv.mod (I:Inv X pins σ H s):Mod X.K X.mg X.base:=I.ok.mod
theorem Inv.kIn (I:Inv X pins σ H s):X.K.In s.heap:=I.ok.mod.kin.keeps I.bk
theorem Inv.lt (I:Inv X pins σ H s):X.env.locals < s.heap.objs.size:=let ⟨_,hn,_⟩:=I.loc;hn.lt
theorem Inv.sz (I:Inv X pins σ H s):X.s₀.heap.objs.size<=s.heap.objs.size:=Br I.ok.above (Nat.le_of_lt I.lt)
theorem Inv.nofs (I:Inv X pins σ H s) {a:Addr} (h:s.heap.objs.size<=a):a ∉ X.fs:=fun hb=>by
  obtain ⟨_,o,ho,_⟩:=I.ok.funs.mem hb
  exact absurd (Bb (AU ho) (Br I.sz h)) (Nat.lt_irrefl _)
theorem Inv.cne (I:Inv X pins σ H s):∀ x c,X.env.cells.lookup x=some c->c ≠ X.env.locals:=fun x c e z=>by
  obtain ⟨v,o,ho,hd⟩:=I.cell x c e
  obtain ⟨m,⟨o',es,ep,ho',hd',_⟩,_⟩:=I.loc
  rw [z,ho'] at ho;cases ho;rw [hd'] at hd;cases hd
theorem Inv.funs (I:Inv X pins σ H s):s.heap.FunFrames X.base X.outer:=by
  have all:∀ (l:List Env),(∀ b ∈ frs l,b ∈ X.fs)->X.s₀.heap.FunFrames X.base l->s.heap.FunFrames X.base l:=by
    intro l
    induction l with
    | nil=>intro _ _;trivial
    | cons env r ih =>
      intro hs hl
      obtain ⟨hk,⟨L,o,hf,hn,ho,hd⟩,hr⟩:=hl
      have hL:L ∈ X.fs:=hs L (by unfold frs;rw [List.filterMap_cons,hf];exact AL)
      obtain ⟨sl,e⟩:=I.base.slot L o ho (I.ok.frf L hL) hL fun z=>I.ok.exfs L z hL
      exact ⟨hk,⟨L,_,hf,hn,e,hd⟩,ih (fun b hb=>hs b (by unfold frs;rw [List.filterMap_cons,hf];exact AM _ hb)) hr⟩
  exact all X.outer (fun _ hb=>hb) I.ok.funs
theorem Inv.stack (I:Inv X pins σ H s):s.heap.FunFrames X.base X.stack:=by
  rcases I.ok.stk with e | ⟨e,hf⟩
  · rw [e];exact I.funs
  · rw [e]
    obtain ⟨m,hn,_⟩:=I.loc
    refine .cons (by rw [I.ok.kind];decide) hf hn ?_ I.funs
    exact Heap.get?_none_of_le (Br I.ok.bsz I.ok.above)
theorem Inv.stkSub (I:Inv X pins σ H s):∀ b ∈ frs X.stack,b ∈ X.env.locals :: X.fs:=fun b hb=>by
  rcases I.ok.stk with e | ⟨e,hf⟩
  · rw [e] at hb;exact AM _ hb
  · rw [e] at hb
    unfold frs at hb
    rw [List.filterMap_cons,hf] at hb
    exact hb
theorem Inv.stkFree (I:Inv X pins σ H s):∀ b ∈ frs X.stack,H b=none:=fun b hb=>by
  rcases AS.mp (I.stkSub b hb) with e | hb
  · rw [e];exact I.free
  · obtain ⟨_,o,ho,_⟩:=I.ok.funs.mem hb
    exact I.base.free b o ho (I.ok.frf b hb) fun z=>I.ok.exfs b z hb
theorem Inv.step {g':Array GenState} {t':Nat} {d':Drawn} {ch:List Addr} (I:Inv X pins σ H s)
    (hch:∀ b ∈ ch,(b ∈ X.ex\/X.s₀.heap.objs.size<=b)/\b ≠ X.env.locals/\(∀ x c,X.env.cells.lookup x=some c->c ≠ b)/\∀ p ∈ X.pn ++ pins,p.1 ≠ b)
    (keep:∀ b o,b ≠ X.env.locals->b ∉ X.fs->b ∉ ch->s.heap.get? b=some o->H b=none->h'.get? b=some o)
    (slot:∀ b o,b ≠ X.env.locals->b ∈ X.fs->b ∉ ch->s.heap.get? b=some o->H b=none->∃ sl,h'.get? b=some { o with slots:=sl }) (free:∀ b o,b ∉ ch->s.heap.get? b=some o->H b=none->H' b=none)
    (there:∀ b o,b ∉ ch->s.heap.get? b=some o->∃ o',h'.get? b=some o')
    (tups:∀ b xs,H b=some (.tup xs)->H' b=some (.tup xs)) (frzs:∀ b o u,H b=some (.frz o u)->H' b=some (.frz o u)) (tbls:∀ b ps,H b=some (.tbl ps)->∃ more,H' b=some (.tbl (ps ++ more)))
    (ns:∀ m,s.heap.Ns X.env.locals m->h'.Ns X.env.locals m) (hok:HOk X.prog X.w H' h') (hg:AllBare g') :
    Inv X pins σ H' { s with heap:=h',gens:=g',drawn:=d',toks:=t' }:=by
  have neL:∀ b o,X.s₀.heap.get? b=some o->b ≠ X.env.locals:=fun b o e=>A6 (Bb (AU e) I.ok.above)
  have neC:∀ b o,X.s₀.heap.get? b=some o->b ∉ X.ex->b ∉ ch:=fun b o e hx hb=>by
    rcases (hch b hb).1 with z | z
    · exact hx z
    · exact absurd (Bb (AU e) z) (Nat.lt_irrefl _)
  have cellK:∀ x c,X.env.cells.lookup x=some c->∀ v,s.heap.IsCell c v->h'.IsCell c v:=fun x c e v ⟨o,ho,hd⟩=>by
    have nch:c ∉ ch:=fun z=>(hch c z).2.2.1 x c e rfl
    by_cases hc:c ∈ X.fs
    · obtain ⟨sl,q⟩:=slot c o (I.cne x c e) hc nch ho (I.freeC x c e)
      exact ⟨_,q,hd⟩
    · exact ⟨o,keep c o (I.cne x c e) hc nch ho (I.freeC x c e),hd⟩
  refine ⟨I.ok,I.os,hg,⟨fun b o e n hb hx=>?_,fun b o e n hb hx=>?_,fun b o e n hx=>?_,fun b o e hx=>?_,fun b xs e=>tups b xs (I.base.tups b xs e),fun b o xs e=>frzs b o xs (I.base.frzs b o xs e),fun b ps e=>?_⟩,?_,fun x c e=>?_,?_,fun x c e=>?_,fun p hp=>?_,hok,I.len⟩
  · exact keep b o (neL b o e) hb (neC b o e hx) (I.base.keep b o e n hb hx) (I.base.free b o e n hx)
  · obtain ⟨sl,e1⟩:=I.base.slot b o e n hb hx
    obtain ⟨sl',e2⟩:=slot b _ (neL b o e) hb (neC b o e hx) e1 (I.base.free b o e n hx)
    exact ⟨sl',e2⟩
  · obtain ⟨o',e1⟩:=I.base.there b o e hx
    exact free b o' (neC b o e hx) e1 (I.base.free b o e n hx)
  · obtain ⟨o',e1⟩:=I.base.there b o e hx
    exact there b o' (neC b o e hx) e1
  · obtain ⟨m1,e1⟩:=I.base.tbls b ps e
    obtain ⟨m2,e2⟩:=tbls b _ e1
    exact ⟨m1 ++ m2,by rw [e2,Array.append_assoc]⟩
  · obtain ⟨m,hn,hl⟩:=I.loc
    refine ⟨m,ns m hn,fun i x v e1 e2 e3=>?_⟩
    obtain ⟨u,r,l⟩:=hl i x v e1 e2 e3
    refine ⟨u,r,?_⟩
    rcases l with l | ⟨k,c,e,z⟩
    · exact .inl l
    · exact .inr ⟨k,c,e,cellK x c e _ z⟩
  · obtain ⟨v,z⟩:=I.cell x c e
    exact ⟨v,cellK x c e v z⟩
  · obtain ⟨m,⟨o,_,_,ho,_⟩,_⟩:=I.loc
    exact free _ o (fun z=>(hch _ z).2.1 rfl) ho I.free
  · obtain ⟨v,o,ho,hd⟩:=I.cell x c e
    exact free c o (fun z=>(hch c z).2.2.1 x c e rfl) ho (I.freeC x c e)
  · obtain ⟨e,n,ne,nf,d⟩:=I.pin p hp
    have nch:p.1 ∉ ch:=fun z=>(hch p.1 z).2.2.2 p hp rfl
    exact ⟨keep p.1 p.2 ne nf nch e n,free p.1 p.2 nch e n,ne,nf,d⟩
theorem Inv.un {t':Nat} (I:Inv X pins σ H s) (u:Un X.fs [] H H' s.heap h') (hok:HOk X.prog X.w H' h'):Inv X pins σ H' { s with heap:=h',toks:=t' }:=by
  obtain ⟨m,⟨o,es,ep,ho,r⟩,_⟩:=id I.loc
  obtain ⟨sl,hL⟩:=u.any ho I.free (by simp)
  exact I.step (g':=s.gens) (d':=s.drawn) (ch:=[]) (fun _ z=>nomatch z) (fun b o _ hb _ e n=>u.keep b o e n hb (by simp)) (fun b o _ hb _ e n=>u.slot b o e n hb (by simp)) (fun b o _ e n=>u.free b o e n (by simp)) (fun b o _ e=>u.there b o e (by simp)) u.tups u.frzs u.tbls (fun m' hm=>by
    obtain ⟨o',es',ep',ho',r'⟩:=hm
    rw [ho] at ho';cases ho'
    exact ⟨_,es',ep',hL,r'⟩) hok I.bare
theorem Inv.call {g':Array GenState} {t':Nat} {d':Drawn} {ch:List Addr} (I:Inv X pins σ H s) (u:Un (frs X.stack) ch H H' s.heap h') (hok:HOk X.prog X.w H' h') (hg:AllBare g')
    (hch:∀ b ∈ ch,(b ∈ X.ex\/X.s₀.heap.objs.size<=b)/\b ≠ X.env.locals/\(∀ x c,X.env.cells.lookup x=some c->c ≠ b)/\∀ p ∈ X.pn ++ pins,p.1 ≠ b) :
    Inv X pins σ H' { s with heap:=h',gens:=g',drawn:=d',toks:=t' }:=by
  obtain ⟨m,⟨o,es,ep,ho,r⟩,_⟩:=id I.loc
  obtain ⟨sl,hL⟩:=u.any ho I.free fun z=>(hch _ z).2.1 rfl
  exact I.step (ch:=ch) hch (fun b o hL hb hc e n=>u.keep b o e n (fun z=>(AS.mp (I.stkSub b z)).elim hL hb) hc) (fun b o _ _ hc e n=>u.any e n hc) (fun b o hc e n=>u.free b o e n hc) (fun b o hc e=>u.there b o e hc) u.tups u.frzs u.tbls (fun m' hm=>by
    obtain ⟨o',es',ep',ho',r'⟩:=hm
    rw [ho] at ho';cases ho'
    exact ⟨_,es',ep',hL,r'⟩) hok hg
theorem Inv.turned {t':Nat} {it:Addr} (I:Inv X pins σ H s) (k:∀ b o,b ≠ it->s.heap.get? b=some o->h'.get? b=some o) (hn:H it=none) (hL:it ≠ X.env.locals)
    (h1:it ∈ X.ex\/X.s₀.heap.objs.size<=it) (h2:∀ x c,X.env.cells.lookup x=some c->c ≠ it) (h3:∀ p ∈ X.pn ++ pins,p.1 ≠ it):Inv X pins σ H { s with heap:=h',toks:=t' }:=by
  have nit:∀ b u,H b=some u->b ≠ it:=fun b u e z=>by rw [z,hn] at e;cases e
  refine I.step (g':=s.gens) (d':=s.drawn) (ch:=[it]) (fun b hb=>?_) (fun b o _ _ hc e _=>k b o (fun z=>hc (by simp [z])) e) (fun b o _ _ hc e _=>⟨o.slots,k b o (fun z=>hc (by simp [z])) e⟩) (fun _ _ _ _ n=>n)
    (fun b o hc e=>⟨o,k b o (fun z=>hc (by simp [z])) e⟩) (fun _ _ e=>e) (fun _ _ _ e=>e) (fun b ps e=>⟨#[],by rw [e];simp⟩) (fun m hm=>?_) (fun b u e=>?_) I.bare
  · have e:b=it:=by simpa using hb
    subst e
    exact ⟨h1,hL,h2,h3⟩
  · obtain ⟨o,es,ep,ho,r⟩:=hm
    exact ⟨o,es,ep,k _ o (Ne.symm hL) ho,r⟩
  · refine (I.hok b u e).stay (fun c v hc q=>k c v ?_ q) (fun _ q=>q) fun _ _ q=>q
    rcases hc with z | z
    · rw [z];exact nit b u e
    · exact nit c _ z
theorem Inv.tok (I:Inv X pins σ H s) (t:Nat):Inv X pins σ H { s with toks:=t }:=I.un (h':=s.heap) (t':=t) Un.refl I.hok
theorem Inv.kept {t':Nat} (I:Inv X pins σ H s) (k:∀ b u,s.heap.get? b=some u->h'.get? b=some u):Inv X pins σ H { s with heap:=h',toks:=t' }:=I.un (Un.kept k) (I.hok.kept k)
theorem Inv.laid {a:Addr} {o:HO} {t':Nat} (I:Inv X pins σ H s) (k:∀ b u,s.heap.get? b=some u->h'.get? b=some u) (hp:s.heap.objs.size<=a) (new:ObjOk X.prog X.w (upd H a o) h' a o) :
    Inv X pins σ (upd H a o) { s with heap:=h',toks:=t' }:=I.un (Un.laid k hp (I.hok.fresh hp)) (I.hok.laid k hp new)
theorem Inv.write {x e:Addr} {o:HO} {t':Nat} (I:Inv X pins σ H s) (mu:Mut (H x)) (he:e=x\/H e=some (.own x)) (k:∀ b u,b ≠ e->s.heap.get? b=some u->h'.get? b=some u) (heo:∃ u,h'.get? e=some u)
    (new:ObjOk X.prog X.w (upd H x o) h' x o):Inv X pins σ (upd H x o) { s with heap:=h',toks:=t' }:=I.un (Un.write mu he k heo) (I.hok.write mu he k heo new)
theorem Inv.pins_of {pins':List (Addr × Obj)} (I:Inv X pins σ H s) (h:∀ p ∈ pins',s.heap.get? p.1=some p.2/\H p.1=none/\p.1 ≠ X.env.locals/\p.1 ∉ X.fs/\∀ v,p.2.data ≠ .cell v):Inv X pins' σ H s :=
  ⟨I.ok,I.os,I.bare,I.base,I.loc,I.cell,I.free,I.freeC,fun p hp=>(AV.mp hp).elim (fun z=>I.pin p (AQ _ z)) (h p),I.hok,I.len⟩
theorem pp {N:List Str} (hN:N.Nodup) {i j:Nat} {x:Str} (a:N[i]?=some x) (b:N[j]?=some x):i=j:=by
  obtain ⟨h1,e1⟩:=AY.mp a
  obtain ⟨h2,e2⟩:=AY.mp b
  exact (List.getElem_inj hN).mp (e1.trans e2.symm)
theorem sL {M:Model} {A:Around} {E:Value->Shared->Prop} {i:Nat} {x:Str} {v:V} {u:Value} {Q:Unit->Shared->Prop} (I:Inv X pins σ H s) (hN:X.N.Nodup) (hi:X.N[i]?=some x) (hx:Loc X.env.scope x) (r:RelV v u)
    (h:∀ s',Inv X pins (σ.set i (some v)) H s'->(∃ a,Heap.SameBut a s.heap s'.heap/\(a=X.env.locals\/X.env.cells.lookup x=some a))->Q () s') (hf:X.fn x=true\/X.env.scope.names.lookup x=some .local:=by first | exact .inl rfl | exact .inr rfl | assumption):wpAny M A (storeName X.env x u) Q E s:=by
  obtain ⟨m,hn,hl⟩:=id I.loc
  have hcls:(X.env.scope.kind == .class || (X.env.scope.kind == .module && X.env.locals != X.env.globals))=false:=by rw [I.ok.kind];rfl
  have hiσ:i < σ.length:=by rw [I.len];exact (AY.mp hi).1
  have cne:=I.cne
  have tracked:∀ {a:Addr} {h':Heap},(∃ o,s.heap.get? a=some o/\H a=none)->Heap.SameBut a s.heap h'->HOk X.prog X.w H h':=fun {a h'} ha hs b ob e=>by
    obtain ⟨_,_,hfree⟩:=ha
    refine (I.hok b ob e).stay (fun c w' hc q=>(hs.2 c ?_).trans q) (fun _ q=>q) fun _ _ q=>q
    rintro rfl
    rcases hc with rfl | hc
    · rw [hfree] at e;cases e
    · rw [hfree] at hc;cases hc
  rcases hx with hk | hk
  · refine wpAny_storeName_local hk hn (fun h' hn' hs=>?_) hcls
    obtain ⟨oL,_,_,hoL,_⟩:=id hn
    refine h _ ⟨I.ok,I.os,I.bare,⟨fun b o e n hb hx=>?_,fun b o e n hb hx=>?_,I.base.free,fun b o e hx=>?_,I.base.tups,I.base.frzs,I.base.tbls⟩,⟨_,hn',fun j y v' e1 e2 e3=>?_⟩,fun y c e=>?_,I.free,I.freeC,fun p hp=>?_,tracked ⟨oL,hoL,I.free⟩ hs,by simpa using I.len⟩ ⟨_,hs,.inl rfl⟩
    · exact (hs.2 b (A6 (Bb (AU e) I.ok.above))).trans (I.base.keep b o e n hb hx)
    · obtain ⟨sl,e1⟩:=I.base.slot b o e n hb hx
      exact ⟨sl,(hs.2 b (A6 (Bb (AU e) I.ok.above))).trans e1⟩
    · obtain ⟨o',e1⟩:=I.base.there b o e hx
      exact ⟨o',(hs.2 b (A6 (Bb (AU e) I.ok.above))).trans e1⟩
    · by_cases hj:j=i
      · subst hj
        rw [hi] at e1;cases e1
        rw [List.getElem?_set_self hiσ] at e2
        cases e2
        exact ⟨u,r,.inl ⟨hk,by simp⟩⟩
      · rw [List.getElem?_set_ne (Ne.symm hj)] at e2
        obtain ⟨u',r',q⟩:=hl j y v' e1 e2 e3
        refine ⟨u',r',?_⟩
        rcases q with ⟨k,e⟩ | ⟨k,c,e,z⟩
        · refine .inl ⟨k,?_⟩
          have:y ≠ x:=fun e=>hj (pp hN e1 (e ▸ hi))
          simp [this,e]
        · exact .inr ⟨k,c,e,z.sameBut hs (cne y c e)⟩
    · obtain ⟨w',z⟩:=I.cell y c e
      exact ⟨w',z.sameBut hs (cne y c e)⟩
    · obtain ⟨e,n,ne,nf,d⟩:=I.pin p hp
      exact ⟨(hs.2 p.1 ne).trans e,n,ne,nf,d⟩
  · have hfn:X.fn x=true:=by
      rcases hf with z | z
      · exact z
      · rw [z] at hk;cases hk
    obtain ⟨c,hc⟩:=I.ok.has x (.inl hk)
    obtain ⟨w',z⟩:=I.cell x c hc
    refine wpAny_storeName_cell I.ok.kind hk hc z (fun h' hc' hs=>?_)
    obtain ⟨oc,hoc,hocd⟩:=id z
    refine h { s with heap:=h' } ⟨I.ok,I.os,I.bare,⟨fun b o e n hb hx=>?_,fun b o e n hb hx=>?_,I.base.free,fun b o e hx=>?_,I.base.tups,I.base.frzs,I.base.tbls⟩,⟨m,hn.sameBut hs (Ne.symm (cne x c hc)),fun j y v' e1 e2 e3=>?_⟩,fun y c' e=>?_,I.free,I.freeC,fun p hp=>?_,tracked ⟨oc,hoc,I.freeC x c hc⟩ hs,by simpa using I.len⟩ ⟨c,hs,.inr hc⟩
    · exact (hs.2 b (A6 (Bb (AU e) (I.ok.cab x c hfn hc)))).trans (I.base.keep b o e n hb hx)
    · obtain ⟨sl,e1⟩:=I.base.slot b o e n hb hx
      exact ⟨sl,(hs.2 b (A6 (Bb (AU e) (I.ok.cab x c hfn hc)))).trans e1⟩
    · obtain ⟨o',e1⟩:=I.base.there b o e hx
      exact ⟨o',(hs.2 b (A6 (Bb (AU e) (I.ok.cab x c hfn hc)))).trans e1⟩
    · by_cases hj:j=i
      · subst hj
        rw [hi] at e1;cases e1
        rw [List.getElem?_set_self hiσ] at e2
        cases e2
        exact ⟨u,r,.inr ⟨.inl hk,c,hc,hc'⟩⟩
      · rw [List.getElem?_set_ne (Ne.symm hj)] at e2
        obtain ⟨u',r',q⟩:=hl j y v' e1 e2 e3
        refine ⟨u',r',?_⟩
        rcases q with q | ⟨k,c',e,z'⟩
        · exact .inl q
        · refine .inr ⟨k,c',e,z'.sameBut hs ?_⟩
          rintro rfl
          exact hj (pp hN e1 (I.ok.inj _ _ _ e hc ▸ hi))
    · by_cases hcc:c'=c
      · subst hcc;exact ⟨_,hc'⟩
      · obtain ⟨w2,z2⟩:=I.cell y c' e
        exact ⟨w2,z2.sameBut hs hcc⟩
    · obtain ⟨e,n,ne,nf,d⟩:=I.pin p hp
      refine ⟨(hs.2 p.1 ?_).trans e,n,ne,nf,d⟩
      intro q
      rw [q,hoc] at e
      have q':oc=p.2:=Bt e
      exact d w' (by rw [<- q'];exact hocd)
theorem kJ {M:Model} {A:Around} {E:Value->Shared->Prop} {i:Nat} {x:Str} {v:V} {u:Value} {Q:Unit->Shared->Prop} (I:Inv X pins σ H s) (hN:X.N.Nodup) (hi:X.N[i]?=some x) (hx:Loc X.env.scope x) (r:RelV v u)
    (h:∀ s',Inv X pins (σ.set i (some v)) H s'->Q () s') (hf:X.fn x=true\/X.env.scope.names.lookup x=some .local:=by first | exact .inl rfl | exact .inr rfl | assumption):wpAny M A (storeName X.env x u) Q E s :=
  sL I hN hi hx r (fun s' I' _=>h s' I') hf
theorem Inv.call' {s':Shared} {ch:List Addr} (I:Inv X pins σ H s) (ho:s'.os=s.os) (u:Un (frs X.stack) ch H H' s.heap s'.heap) (hok:HOk X.prog X.w H' s'.heap) (hg:AllBare s'.gens)
    (hch:∀ b ∈ ch,(b ∈ X.ex\/X.s₀.heap.objs.size<=b)/\b ≠ X.env.locals/\(∀ x c,X.env.cells.lookup x=some c->c ≠ b)/\∀ p ∈ X.pn ++ pins,p.1 ≠ b):Inv X pins σ H' s':=by
  obtain ⟨h',g',d',t',o'⟩:=s'
  have e:o'=s.os:=ho
  subst e
  exact I.call (g':=g') (t':=t') (d':=d') u hok hg hch
end
noncomputable abbrev XK:=Value->Option Addr->Hp->Prop
noncomputable abbrev St:=List (Option V)
noncomputable abbrev VK:=V->Hp->Prop
noncomputable abbrev TE:=St->Hp->VK->Prop
noncomputable abbrev TT:=St->Hp->(Bool->Hp->Prop)->Prop
noncomputable abbrev TA:=St->Hp->(List V->Hp->Prop)->Prop
structure Ends where
  nx:St->Hp->Prop
  rt:VK
  bk:St->Hp->Prop:=fun _ _=>False
  ct:St->Hp->Prop:=fun _ _=>False
noncomputable abbrev TS:=Ends->St->Hp->Prop
noncomputable def EP (X:Cx) (pins:List (Addr × Obj)) (σ:St) (Q:VK) (u:Value) (s':Shared):Prop:=∃ v H',Inv X pins σ H' s'/\RelV v u/\Q v H'
noncomputable def TP (X:Cx) (pins:List (Addr × Obj)) (σ:St) (Q:Bool->Hp->Prop) (b:Bool) (s':Shared):Prop:=∃ H',Inv X pins σ H' s'/\Q b H'
noncomputable def AP (X:Cx) (pins:List (Addr × Obj)) (σ:St) (Q:List V->Hp->Prop) (us:List Value) (s':Shared):Prop:=∃ vs H',Inv X pins σ H' s'/\Vals vs us/\Q vs H'
set_option tactic.hygienic true in
noncomputable def SP (X:Cx) (pins:List (Addr × Obj)) (D:Ends) (f:Flow) (s':Shared):Prop :=
  match f with
  | .next=>∃ σ' H',Inv X pins σ' H' s'/\D.nx σ' H'
  | .brk=>∃ σ' H',Inv X pins σ' H' s'/\D.bk σ' H'
  | .cont=>∃ σ' H',Inv X pins σ' H' s'/\D.ct σ' H'
  | .ret u=>∃ v σ' H',Inv X pins σ' H' s'/\RelV v u/\D.rt v H'
noncomputable def PE (X:Cx) (e:Expr) (t:TE):Prop :=
  ∀ (pins:List (Addr × Obj)) (s:Shared) (σ:St) (H:Hp) (Q:VK),Inv X pins σ H s->t σ H Q->wpAny (model X.prog X.w) X.A (eval e X.env) (EP X pins σ Q) X.xe s
noncomputable def PT (X:Cx) (e:Expr) (t:TT):Prop :=
  ∀ (pins:List (Addr × Obj)) (s:Shared) (σ:St) (H:Hp) (Q:Bool->Hp->Prop),Inv X pins σ H s->t σ H Q->wpAny (model X.prog X.w) X.A (isTrue e X.env (eval e X.env)) (TP X pins σ Q) X.xe s
noncomputable def PW (X:Cx) (e:Expr) (t:TT):Prop :=
  ∀ (whole:Sem Value) (pins:List (Addr × Obj)) (s:Shared) (σ:St) (H:Hp) (Q:Bool->Hp->Prop),Inv X pins σ H s->t σ H Q->wpAny (model X.prog X.w) X.A (isTrue e X.env whole) (TP X pins σ Q) X.xe s
theorem PW.pt {X:Cx} {e:Expr} {t:TT} (h:PW X e t):PT X e t:=h _
noncomputable def PA (X:Cx) (es:List Expr) (t:TA):Prop :=
  ∀ (pos:Pos) (pins:List (Addr × Obj)) (s:Shared) (σ:St) (H:Hp) (Q:List V->Hp->Prop),Inv X pins σ H s->t σ H Q->wpAny (model X.prog X.w) X.A (spliced (backTo pos (starEach es X.env))) (AP X pins σ Q) X.xe s
noncomputable def PS (X:Cx) (st:Stmt) (t:TS):Prop :=
  ∀ (pins:List (Addr × Obj)) (s:Shared) (σ:St) (H:Hp) (D:Ends),Inv X pins σ H s->t D σ H->wpAny (model X.prog X.w) X.A (exec st X.env) (SP X pins D) X.xe s
noncomputable def PSs (X:Cx) (st:List Stmt) (t:TS):Prop :=
  ∀ (pins:List (Addr × Obj)) (s:Shared) (σ:St) (H:Hp) (D:Ends),Inv X pins σ H s->t D σ H->wpAny (model X.prog X.w) X.A (execs st X.env) (SP X pins D) X.xe s
theorem thn {α:Type} {t:Sem α} {Q Q':α->Shared->Prop} {M:Model} {A:Around} {E:Value->Shared->Prop} {s:Shared} (h:wpAny M A t Q E s) (hQ:∀ a s,Q a s->Q' a s):wpAny M A t Q' E s:=wpAny_mono h hQ fun _ _ x=>x
end L2
namespace L2
open PySem PySem.Spec PyProof.Rows
section
variable {X:Cx}
theorem bin {a b:Expr} {ta tb:TE} (ha:PE X a ta) (hb:PE X b tb) {pins:List (Addr × Obj)} {s:Shared} {σ:St} {H:Hp} {R:V->V->Hp->Prop} (I:Inv X pins σ H s) (h:ta σ H fun x H1=>tb σ H1 fun y H2=>R x y H2)
    {α:Type} {Q:α->Shared->Prop} {f:Value->Value->Sem α}
    (hf:∀ v u s2 x y H2,Inv X pins σ H2 s2->RelV x v->RelV y u->R x y H2->wpAny (model X.prog X.w) X.A (f v u) Q X.xe s2) :
    wpAny (model X.prog X.w) X.A (eval a X.env) (fun v s₁=>wpAny (model X.prog X.w) X.A (eval b X.env) (fun u s₂=>wpAny (model X.prog X.w) X.A (f v u) Q X.xe s₂) X.xe s₁) X.xe s:=by
  refine thn (ha pins s σ H _ I h) fun v s1 ⟨x,H1,I1,r1,q1⟩=>?_
  refine thn (hb pins s1 σ H1 _ I1 q1) fun u s2 ⟨y,H2,I2,r2,q2⟩=>?_
  exact hf v u s2 x y H2 I2 r1 r2 q2
noncomputable def sK (i:Nat):TE:=fun σ H Q=>∃ v,σ[i]?=some (some v)/\Q v H
noncomputable def tC (v:V):TE:=fun _ H Q=>Q v H
theorem gN {i:Nat} {x:Str} {pos:Pos} (hN:X.N[i]?=some x) (hv:Vis X.env.scope x) (hd:(x == ("__debug__":Str))=false:=by decide) (hcd:(x == ("__classdict__":Str))=false:=by decide):PE X (.Name x pos) (sK i):=by
  intro pins s σ H Q I h
  obtain ⟨v,e,h⟩:=h
  obtain ⟨m,hn,hl⟩:=I.loc
  obtain ⟨u,r,l⟩:=hl i x v hN e hv
  have fin:EP X pins σ Q u s:=⟨v,H,I,r,h⟩
  rcases l with ⟨hk,hm⟩ | ⟨hk,c,hc,hcell⟩
  · exact wpAny_Name (wpAny_loadName_local I.ok.kind hk hn hm fin) hd
  · rcases hk with hk | hk
    · exact wpAny_Name (wpAny_loadName_cell I.ok.kind hk hc hcell fin) hd
    · exact wpAny_Name (wpAny_loadName_free I.ok.kind hk hc hcell fin hcd) hd
theorem zY {i j pos}:PE X (.Constant (.int i) j pos) (tC (.int i)):=fun _ _ _ H _ I h=>wpAny_Constant_int ⟨.int i,H,I.tok _,⟨_,rfl⟩,h⟩
theorem pe_bl {b j pos}:PE X (.Constant (.bool b) j pos) (tC (.bl b)):=fun _ _ _ H _ I h=>Constant_bool ⟨.bl b,H,I,rfl,h⟩
theorem zV {j pos}:PE X (.Constant .none j pos) (tC .non):=fun _ _ _ H _ I h=>Constant_none ⟨.non,H,I,rfl,h⟩
theorem zS {x j pos}:PE X (.Constant (.str x) j pos) (tC (.str x)):=fun _ _ _ H _ I h=>Calls.Constant_str ⟨.str x,H,I.tok _,⟨_,rfl⟩,h⟩
noncomputable def Gl (X:Cx) (x:Str):Prop:=X.env.kindOf x=some .globalImplicit
theorem gq {E:Value->Shared->Prop} {pins:List (Addr × Obj)} {s:Shared} {σ:St} {H:Hp} {x:Str} {u:Value} {pos:Pos} {Q:Value->Shared->Prop} (I:Inv X pins σ H s) (hg:Gl X x) (hm:X.mg x=some u) (h:Q u s)
    (hd:(x == ("__debug__":Str))=false:=by decide):wpAny (model X.prog X.w) X.A (eval (.Name x pos) X.env) Q E s :=
  Calls.Name_function_global I.ok.kind hg (Calls.loadGlobal_global (by rw [I.ok.glob];exact I.mod.glob.keeps I.bk) hm h) hd
theorem eJ {E:Value->Shared->Prop} {pins:List (Addr × Obj)} {s:Shared} {σ:St} {H:Hp} {x:Str} {u:Value} {pos:Pos} {Q:Value->Shared->Prop} (I:Inv X pins σ H s) (hg:Gl X x) (hm:X.mg x=none) (hv:bootBuiltins x=some u) (h:Q u s)
    (hn:x ≠ "__name__":=by decide) (hd:(x == ("__debug__":Str))=false:=by decide):wpAny (model X.prog X.w) X.A (eval (.Name x pos) X.env) Q E s:=by
  obtain ⟨mb,h1,h2⟩:=I.mod.blt
  exact Calls.Name_function_global I.ok.kind hg (Calls.loadGlobal_builtin (by rw [I.ok.glob];exact I.mod.glob.keeps I.bk) hm (by rw [I.ok.blt];exact h1.keeps I.bk) ((h2 x hn).trans hv) h) hd
theorem b8 {x:Str} {v:V} {u:Value} {pos:Pos} (hg:Gl X x) (hm:X.mg x=some u) (r:RelV v u) (hd:(x == ("__debug__":Str))=false:=by decide):PE X (.Name x pos) (tC v) :=
  fun _ _ _ H _ I h=>gq I hg hm ⟨v,H,I,r,h⟩ hd
theorem fi {x:Str} {v:V} {u:Value} {pos:Pos} (hg:Gl X x) (hm:X.mg x=none) (hv:bootBuiltins x=some u) (r:RelV v u) (hn:x ≠ "__name__":=by decide) (hd:(x == ("__debug__":Str))=false:=by decide):PE X (.Name x pos) (tC v) :=
  fun _ _ _ H _ I h=>eJ I hg hm hv ⟨v,H,I,r,h⟩ hn hd
variable {a b:Expr} {ta tb:TE} {pos:Pos}
noncomputable def PC (X:Cx) (op:CmpOp) (a b:Expr) (t:TE):Prop :=
  ∀ (pins:List (Addr × Obj)) (s:Shared) (σ:St) (H:Hp) (Q:VK),Inv X pins σ H s->t σ H Q ->
    wpAny (model X.prog X.w) X.A (eval a X.env) (fun v s₁=>wpAny (model X.prog X.w) X.A (eval b X.env) (fun u s₂=>wpAny (model X.prog X.w) X.A (compareOp op v u) (EP X pins σ Q) X.xe s₂) X.xe s₁) X.xe s
noncomputable def tB (t:TE):TT:=fun σ H Q=>t σ H fun x H1=>∃ c,x=.bl c/\Q c H1
theorem zI {e:Expr} {t:TE} (h:PE X e t) (he:∀ whole,isTrue e X.env whole=(do let v <- whole;standAt e.pos;holding [v] (truthy v)):=by intro _;rfl):PT X e (tB t):=by
  intro pins s σ H Q I hw
  refine isTrue_plain (thn (h pins s σ H _ I hw) fun v s1 ⟨x,H1,I1,r1,q1⟩=>?_) (he _)
  obtain ⟨d,rfl,q⟩:=q1
  cases r1
  exact Bq ⟨H1,I1,q⟩
variable {tA tB':TT} {eB:List Expr}
noncomputable def tAnd (t u:TT):TT:=fun σ H Q=>t σ H fun c H1=>if c=true then u σ H1 Q else Q false H1
noncomputable def tOr (t u:TT):TT:=fun σ H Q=>t σ H fun c H1=>if c=true then Q true H1 else u σ H1 Q
noncomputable def tNot (t:TT):TT:=fun σ H Q=>t σ H fun c H1=>Q (!c) H1
theorem xn (ha:PT X a tA):PW X (.BoolOp .And [a] pos) tA:=by
  intro wh pins s σ H Q I h
  refine isTrue_and (thn (ha pins s σ H Q I h) fun c s1 e=>?_)
  cases c with
  | true=>exact isTrue_and_nil e
  | false=>exact e
theorem zG (ha:PT X a tA):PW X (.BoolOp .Or [a] pos) tA:=by
  intro wh pins s σ H Q I h
  refine isTrue_or (thn (ha pins s σ H Q I h) fun c s1 e=>?_)
  cases c with
  | false=>exact isTrue_or_nil e
  | true=>exact e
theorem zH (ha:PT X a tA) (hb:PW X (.BoolOp .And (b :: eB) pos) tB'):PW X (.BoolOp .And (a :: b :: eB) pos) (tAnd tA tB'):=by
  intro wh pins s σ H Q I h
  refine isTrue_and (thn (ha pins s σ H _ I h) fun c s1 ⟨H1,I1,q1⟩=>?_)
  cases c with
  | true=>exact hb wh pins s1 σ H1 Q I1 q1
  | false=>exact ⟨H1,I1,q1⟩
theorem pw_or (ha:PT X a tA) (hb:PW X (.BoolOp .Or (b :: eB) pos) tB'):PW X (.BoolOp .Or (a :: b :: eB) pos) (tOr tA tB'):=by
  intro wh pins s σ H Q I h
  refine isTrue_or (thn (ha pins s σ H _ I h) fun c s1 ⟨H1,I1,q1⟩=>?_)
  cases c with
  | true=>exact ⟨H1,I1,q1⟩
  | false=>exact hb wh pins s1 σ H1 Q I1 q1
theorem zJ (ha:PT X a tA):PT X (.UnaryOp .Not a pos) (tNot tA):=by
  intro pins s σ H Q I h
  exact isTrue_not (ha pins s σ H (fun c H1=>Q (!c) H1) I h)
noncomputable def yq (ta tb:TE):TE:=fun σ H Q=>ta σ H fun x H1=>∃ c,x=.bl c/\if c=true then tb σ H1 Q else Q (.bl false) H1
noncomputable def tOrV (ta tb:TE):TE:=fun σ H Q=>ta σ H fun x H1=>∃ c,x=.bl c/\if c=true then Q (.bl true) H1 else tb σ H1 Q
noncomputable def ym (ta:TE):TE:=fun σ H Q=>ta σ H fun x H1=>∃ c,x=.bl c/\Q (.bl (!c)) H1
theorem zT {op} {t:TE} (h:PE X a t):PE X (.BoolOp op [a] pos) t:=fun pins s σ H Q I hw=>BoolOp_one (h pins s σ H Q I hw)
theorem z6 (ha:PE X a ta) (hb:PE X (.BoolOp .And (b :: eB) pos) tb):PE X (.BoolOp .And (a :: b :: eB) pos) (yq ta tb):=by
  intro pins s σ H Q I h
  refine BoolOp_and (thn (ha pins s σ H _ I h) fun v s1 ⟨x,H1,I1,r1,q1⟩=>?_)
  obtain ⟨c,rfl,q1⟩:=q1
  cases r1
  refine Bq ?_
  cases c with
  | true=>exact hb pins s1 σ H1 Q I1 q1
  | false=>exact ⟨.bl false,H1,I1,rfl,q1⟩
theorem pe_or (ha:PE X a ta) (hb:PE X (.BoolOp .Or (b :: eB) pos) tb):PE X (.BoolOp .Or (a :: b :: eB) pos) (tOrV ta tb):=by
  intro pins s σ H Q I h
  refine BoolOp_or (thn (ha pins s σ H _ I h) fun v s1 ⟨x,H1,I1,r1,q1⟩=>?_)
  obtain ⟨c,rfl,q1⟩:=q1
  cases r1
  refine Bq ?_
  cases c with
  | false=>exact hb pins s1 σ H1 Q I1 q1
  | true=>exact ⟨.bl true,H1,I1,rfl,q1⟩
theorem zU (ha:PE X a ta):PE X (.UnaryOp .Not a pos) (ym ta):=by
  intro pins s σ H Q I h
  refine UnaryOp_ (thn (ha pins s σ H _ I h) fun v s1 ⟨x,H1,I1,r1,q1⟩=>?_)
  obtain ⟨c,rfl,q1⟩:=q1
  cases r1
  exact not_of (Bq ⟨.bl (!c),H1,I1,rfl,q1⟩)
noncomputable def tIf (t:TT) (ta tb:TE):TE:=fun σ H Q=>t σ H fun c H1=>if c=true then ta σ H1 Q else tb σ H1 Q
theorem vt {c:Expr} (hc:PT X c tA) (ha:PE X a ta) (hb:PE X b tb):PE X (.IfExp c a b pos) (tIf tA ta tb):=by
  intro pins s σ H Q I h
  refine wpAny_IfExp (thn (hc pins s σ H _ I h) fun d s1 ⟨H1,I1,q1⟩=>?_)
  cases d with
  | true=>exact ha pins s1 σ H1 Q I1 q1
  | false=>exact hb pins s1 σ H1 Q I1 q1
end
end L2
namespace L2
open PySem PySem.Spec PyProof.Rows
noncomputable def SqL (K:FG) (H:Hp) (a:Addr) (xs:List V):Prop :=
  Rd H a (.lst xs) \/
    ∃ (o:Obj) (its:Array Value) (n:Nat),K.lookup a=some o/\o.cls=.type "list"/\o.dict=none/\o.data=.seq its n/\its.size<=sizeLine/\Vals xs its.toList
noncomputable def SqT (K:FG) (H:Hp) (a:Addr) (xs:List V):Prop :=
  Rd H a (.tup xs) \/
    ∃ (o:Obj) (its:Array Value) (n:Nat),K.lookup a=some o/\o.cls=.type "tuple"/\o.data=.seq its n/\its.size<=sizeLine/\Vals xs its.toList
noncomputable def absV:Value->Option V
  | .none=>some .non
  | .bool b=>some (.bl b)
  | .int i _=>some (.int i)
  | .str x _=>some (.str x)
  | .bytes b _=>some (.byt b)
  | .float b _=>some (.flt b)
  | .ref a=>some (.ref a)
  | .type n=>some (.ty n)
  | _=>none
theorem RelV.abs {x:V} {u:Value} (r:RelV x u):absV u=some x:=by
  cases x with
  | non=>cases r;rfl
  | bl _=>cases r;rfl
  | int _=>obtain ⟨t,rfl⟩:=r;rfl
  | str _=>obtain ⟨t,rfl⟩:=r;rfl
  | byt _=>obtain ⟨t,rfl⟩:=r;rfl
  | flt _=>obtain ⟨t,rfl⟩:=r;rfl
  | ref _=>cases r;rfl
  | ty _=>cases r;rfl
theorem RelV.inj {x y:V} {u:Value} (r:RelV x u) (q:RelV y u):x=y:=Bt (r.abs.symm.trans q.abs)
theorem Vals.inj:∀ {xs ys:List V} {us:List Value},Vals xs us->Vals ys us->xs=ys
  | _,_,_,.nil,.nil=>rfl
  | _,_,_,.cons r t,.cons r' t'=>by rw [r.inj r',Vals.inj t t']
section
variable {X:Cx} {pins:List (Addr × Obj)} {σ:St} {H:Hp} {s:Shared} {a:Addr} {xs ys:List V}
theorem SqL.of {K:FG} (h:H a=some (.lst xs)):SqL K H a xs:=.inl (.inl h)
theorem SqT.of {K:FG} (h:H a=some (.tup xs)):SqT K H a xs:=.inl (.inl h)
theorem Inv.list (I:Inv X pins σ H s) (h:SqL X.K H a xs):∃ its:List Value,Vals xs its/\PlainL s.heap a its.toArray/\xs.length<=sizeLine:=by
  rcases h with h | ⟨o,its,n,hk,hc,hd,hs,hz,r⟩
  · obtain ⟨z,its,n,r,e⟩:=h.ok I.hok
    exact ⟨its,r,⟨_,n,e,rfl,rfl,rfl⟩,z⟩
  · refine ⟨its.toList,r,⟨o,n,I.kIn a o hk,hc,hd,by simpa using hs⟩,?_⟩
    have e:=r.length
    simp only [Array.length_toList] at e
    omega
theorem Inv.tuple (I:Inv X pins σ H s) (h:SqT X.K H a xs):∃ its:List Value,Vals xs its/\IsTup s.heap a its.toArray/\xs.length<=sizeLine:=by
  rcases h with h | ⟨o,its,n,hk,hc,hs,hz,r⟩
  · obtain ⟨z,its,r,p⟩:=h.ok I.hok
    exact ⟨its,r,p.tup,z⟩
  · refine ⟨its.toList,r,⟨o,I.kIn a o hk,hc,n,by simpa using hs⟩,?_⟩
    have e:=r.length
    simp only [Array.length_toList] at e
    omega
theorem Inv.list_inj (I:Inv X pins σ H s) (h:SqL X.K H a xs) (h':SqL X.K H a ys):xs=ys:=by
  obtain ⟨its,r,⟨o,n,e,_,_,d⟩,_⟩:=I.list h
  obtain ⟨its',r',⟨o',n',e',_,_,d'⟩,_⟩:=I.list h'
  rw [e] at e';cases e'
  rw [d] at d'
  injection d' with d1 _
  have:its=its':=by simpa using congrArg Array.toList d1
  subst this
  exact r.inj r'
theorem Inv.tuple_inj (I:Inv X pins σ H s) (h:SqT X.K H a xs) (h':SqT X.K H a ys):xs=ys:=by
  obtain ⟨its,r,⟨o,e,_,n,d⟩,_⟩:=I.tuple h
  obtain ⟨its',r',⟨o',e',_,n',d'⟩,_⟩:=I.tuple h'
  rw [e] at e';cases e'
  rw [d] at d'
  injection d' with d1 _
  have:its=its':=by simpa using congrArg Array.toList d1
  subst this
  exact r.inj r'
end
noncomputable abbrev Cx.wish (X:Cx) (E:Value->Shared->Prop):Cx:={ X with xe:=E }
noncomputable abbrev Cx.nox (X:Cx):Cx:=X.wish fun _ _=>False
theorem Cx.Ok.wish {X:Cx} (ok:X.Ok) (E:Value->Shared->Prop):(X.wish E).Ok :=
  ⟨ok.mod,ok.kind,ok.glob,ok.blt,ok.above,ok.inj,ok.has,ok.cab,ok.hd,ok.frames,ok.stk,ok.exf,ok.bs,ok.bsz,ok.noex,ok.exfs,ok.funs,ok.frf⟩
theorem Cx.Ok.unwish {X:Cx} {E:Value->Shared->Prop} (ok:(X.wish E).Ok):X.Ok :=
  ⟨ok.mod,ok.kind,ok.glob,ok.blt,ok.above,ok.inj,ok.has,ok.cab,ok.hd,ok.frames,ok.stk,ok.exf,ok.bs,ok.bsz,ok.noex,ok.exfs,ok.funs,ok.frf⟩
section
variable {X:Cx} {pins:List (Addr × Obj)} {σ:St} {H:Hp} {s:Shared} {E:Value->Shared->Prop}
theorem Inv.wish (I:Inv X pins σ H s) (E:Value->Shared->Prop):Inv (X.wish E) pins σ H s:=⟨I.ok.wish E,I.os,I.bare,I.base,I.loc,I.cell,I.free,I.freeC,I.pin,I.hok,I.len⟩
theorem Inv.unwish (I:Inv (X.wish E) pins σ H s):Inv X pins σ H s:=⟨I.ok.unwish,I.os,I.bare,I.base,I.loc,I.cell,I.free,I.freeC,I.pin,I.hok,I.len⟩
set_option tactic.hygienic true in
theorem SP.unwish {D:Ends} {f:Flow} {s':Shared} (h:SP (X.wish E) pins D f s'):SP X pins D f s':=by
  cases f with
  | next=>obtain ⟨σ',H',I,q⟩:=h;exact ⟨σ',H',I.unwish,q⟩
  | brk=>obtain ⟨σ',H',I,q⟩:=h;exact ⟨σ',H',I.unwish,q⟩
  | cont=>obtain ⟨σ',H',I,q⟩:=h;exact ⟨σ',H',I.unwish,q⟩
  | ret u=>obtain ⟨v,σ',H',I,r,q⟩:=h;exact ⟨v,σ',H',I.unwish,r,q⟩
theorem PSs.nox {st:List Stmt} {t:TS} (h:PSs X.nox st t):PSs X st t:=fun pins s σ H D I hw =>
  wpAny_mono (h pins s σ H D (I.wish _) hw) (fun _ _ q=>q.unwish) fun _ _ z=>False.elim z
end
section
variable {X:Cx} {st:Stmt} {eB:List Stmt} {t u:TS} {e:Expr} {te:TE} {pos:Pos}
noncomputable def yn:TS:=fun D σ H=>D.nx σ H
noncomputable def y8 (t u:TS):TS:=fun D σ H=>t { D with nx:=u D } σ H
theorem xr:PSs X [] yn:=fun _ _ σ H _ I h=>wpAny_execs_nil ⟨σ,H,I,h⟩
set_option tactic.hygienic true in
theorem ph (h1:PS X st t) (h2:PSs X eB u):PSs X (st :: eB) (y8 t u):=by
  intro pins s σ H D I h
  refine wpAny_execs_cons (thn (h1 pins s σ H { D with nx:=u D } I h) fun f s1 q=>?_)
  cases f with
  | next =>
    obtain ⟨σ',H',I',q⟩:=q
    exact h2 pins s1 σ' H' D I' q
  | ret v=>exact q
  | brk=>exact q
  | cont=>exact q
set_option tactic.hygienic true in
theorem rN (h1:PS X st t):PSs X [st] t:=by
  intro pins s σ H D I h
  refine wpAny_execs_cons (thn (h1 pins s σ H D I h) fun f s1 q=>?_)
  cases f with
  | next=>exact wpAny_execs_nil q
  | ret v=>exact q
  | brk=>exact q
  | cont=>exact q
theorem Inv.quiet {pins:List (Addr × Obj)} {σ:St} {H:Hp} {s:Shared} (I:Inv X pins σ H s):interactive X.env=false:=by simp [interactive,I.ok.kind]
noncomputable def yo (te:TE):TS:=fun D σ H=>te σ H fun _ H1=>D.nx σ H1
theorem xt (he:PE X e te) (hs:swapsWith e none pos.line X.env=pure false:=by rfl):PS X (.Expr e pos) (yo te):=by
  intro pins s σ H D I h
  exact wpAny_Expr_any (thn (he pins s σ H _ I h) fun v s1 ⟨x,H1,I1,r1,q1⟩=>⟨σ,H1,I1,q1⟩) I.quiet hs
noncomputable def tRet (te:TE):TS:=fun D σ H=>te σ H D.rt
theorem zL (he:PE X e te):PS X (.Return (some e) pos) (tRet te):=by
  intro pins s σ H D I h
  exact wpAny_Return_some (thn (he pins s σ H _ I h) fun v s1 ⟨x,H1,I1,r1,q1⟩=>⟨x,σ,H1,I1,r1,q1⟩)
noncomputable def tIfS (c:TT) (t u:TS):TS:=fun D σ H=>c σ H fun b H1=>if b=true then t D σ H1 else u D σ H1
theorem ps_if {c:Expr} {a b:List Stmt} {tc:TT} (hc:PT X c tc) (ha:PSs X a t) (hb:PSs X b u):PS X (.If c a b pos) (tIfS tc t u):=by
  intro pins s σ H D I h
  refine wpAny_If (thn (hc pins s σ H _ I h) fun d s1 ⟨H1,I1,q1⟩=>?_)
  cases d with
  | true=>exact ha pins s1 σ H1 D I1 q1
  | false=>exact hb pins s1 σ H1 D I1 q1
end
noncomputable abbrev TG:=V->St->Hp->(St->Hp->Prop)->Prop
noncomputable abbrev TGs:=List V->St->Hp->(St->Hp->Prop)->Prop
noncomputable def PG (X:Cx) (target:Expr) (t:TG):Prop :=
  ∀ (pins:List (Addr × Obj)) (s:Shared) (σ:St) (H:Hp) (v:V) (u:Value) (Q:St->Hp->Prop),Inv X pins σ H s->RelV v u->t v σ H Q ->
    wpAny (model X.prog X.w) X.A (assign target X.env u) (fun _ s'=>∃ σ' H',Inv X pins σ' H' s'/\Q σ' H') X.xe s
noncomputable def PGs (X:Cx) (ts:List Expr) (t:TGs):Prop :=
  ∀ (pins:List (Addr × Obj)) (s:Shared) (σ:St) (H:Hp) (vs:List V) (us:List Value) (Q:St->Hp->Prop),Inv X pins σ H s->Vals vs us->t vs σ H Q ->
    wpAny (model X.prog X.w) X.A (assignInOrder ((assignEach ts X.env).map (·.2)) us) (fun _ s'=>∃ σ' H',Inv X pins σ' H' s'/\Q σ' H') X.xe s
noncomputable abbrev uE:=V->V->V->Hp->(Hp->Prop)->Prop
noncomputable def wB (X:Cx) (t:uE):Prop :=
  ∀ (pins:List (Addr × Obj)) (s:Shared) (σ:St) (H:Hp) (o i v:V) (ov iv u:Value) (Q:Hp->Prop),Inv X pins σ H s->RelV o ov->RelV i iv->RelV v u->t o i v H Q ->
    wpAny (model X.prog X.w) X.A (setItem ov iv u) (fun _ s'=>∃ H',Inv X pins σ H' s'/\Q H') X.xe s
section
variable {X:Cx} {pos:Pos}
noncomputable def r9 (i:Nat):TG:=fun v σ H Q=>Q (σ.set i (some v)) H
theorem aX {i:Nat} {x:Str} (hN:X.N.Nodup) (hi:X.N[i]?=some x) (hx:Loc X.env.scope x) (hf:X.fn x=true\/X.env.scope.names.lookup x=some .local:=by first | exact .inl rfl | exact .inr rfl | assumption):PG X (.Name x pos) (r9 i):=by
  intro pins s σ H v u Q I r h
  exact wpAny_assign_Name (kJ I hN hi hx r (fun s' I'=>⟨_,H,I',h⟩) hf)
noncomputable def gNil:TGs:=fun vs σ H Q=>vs=[]/\Q σ H
noncomputable def yO (t:TG) (u:TGs):TGs:=fun vs σ H Q=>∃ v r,vs=v :: r/\t v σ H fun σ' H'=>u r σ' H' Q
theorem xy:PGs X [] gNil:=by
  intro pins s σ H vs us Q I r h
  obtain ⟨e,h⟩:=h
  subst e
  cases r
  exact assignInOrder_nil ⟨σ,H,I,h⟩
theorem vp {e:Expr} {es:List Expr} {t:TG} {u:TGs} (h1:PG X e t) (h2:PGs X es u)
    (hs:(assignEach (e :: es) X.env).map (·.2)=assign e X.env :: (assignEach es X.env).map (·.2):=by rfl):PGs X (e :: es) (yO t u):=by
  intro pins s σ H vs us Q I r h
  obtain ⟨v,vr,e1,h⟩:=h
  subst e1
  cases r with
  | cons r rr =>
    rw [hs]
    refine assignInOrder_cons (thn (h1 pins s σ H _ _ _ I r h) fun _ s1 ⟨σ1,H1,I1,q1⟩=>?_)
    exact h2 pins s1 σ1 H1 _ _ Q I1 rr q1
noncomputable def gTup (K:FG) (n:Nat) (t:TGs):TG:=fun v σ H Q=>∃ a xs,v=.ref a/\SqT K H a xs/\xs.length=n/\t xs σ H Q
theorem zP {es:List Expr} {k:Nat} {t:TGs} {n:Nat} (hc:X.calm=true) (h:PGs X es t)
    (hn:(assignEach es X.env).length=n:=by rfl) (hst:(assignEach es X.env).findIdx? (·.1)=none:=by rfl):PG X (.Tuple es k pos) (gTup X.K n t):=by
  intro pins s σ H v u Q I r hw
  obtain ⟨a,xs,e1,hq,hl,hw⟩:=hw
  subst e1
  cases r
  obtain ⟨its,rv,ht,hz⟩:=I.tuple hq
  refine assign_Tuple_tuple (I.ok.hd hc) ht (by simp [hn,<- hl,rv.length]) hst fun h' hx=>?_
  have I1:Inv X pins σ H { s with heap:=h' }:=I.kept (t':=s.toks) fun b o e=>hx b o (A6 (AU e)) e
  exact h pins _ σ H xs _ Q I1 (by simpa using rv) hw
noncomputable def gSub (to ti:TE) (t:uE):TG:=fun v σ H Q=>to σ H fun o H1=>ti σ H1 fun i H2=>t o i v H2 fun H3=>Q σ H3
theorem zQ {o i:Expr} {to ti:TE} {t:uE} (ho:PE X o to) (hi:PE X i ti) (hs:wB X t)
    (ha:∀ v,assign (.Subscript o i pos) X.env v=(do
      let ov <- holding [v] (eval o X.env)
      let iv <- holding [v,ov] (eval i X.env)
      standAt pos
      holding [v,ov,iv] (setItem ov iv v)
      release [v,ov,iv] []):=by intro _;rfl):PG X (.Subscript o i pos) (gSub to ti t):=by
  intro pins s σ H v u Q I r h
  rw [ha]
  refine AI (AK (thn (ho pins s σ H _ I h) fun ov s1 ⟨x,H1,I1,r1,q1⟩=>?_))
  refine AI (AK (thn (hi pins s1 σ H1 _ I1 q1) fun iv s2 ⟨y,H2,I2,r2,q2⟩=>?_))
  refine AI (wpAny_standAt (AI (AK (thn (hs pins s2 σ H2 x y v ov iv u _ I2 r1 r2 r q2) fun _ s3 ⟨H3,I3,q3⟩=>?_))))
  exact wpAny_release ⟨σ,H3,I3,q3⟩
noncomputable def uT (te:TE) (g:TG):TS:=fun D σ H=>te σ H fun x H1=>g x σ H1 D.nx
theorem vn {tg e:Expr} {te:TE} {g:TG} (he:PE X e te) (hg:PG X tg g) (hs:swapsWithSole [tg] e pos.line X.env=pure false:=by rfl) (hw:swappedStores [tg] e X.env=pure none:=by rfl)
    (h1:(assignEach [tg] X.env).map (·.2)=[assign tg X.env]:=by rfl):PS X (.Assign [tg] e pos) (uT te g):=by
  intro pins s σ H D I h
  refine wpAny_Assign_stores (thn (he pins s σ H _ I h) fun v s1 ⟨x,H1,I1,r1,q1⟩=>?_) hs hw
  rw [h1]
  exact thn (hg pins s1 σ H1 x v _ I1 r1 q1) fun _ s2 q=>q
theorem zK {i:Nat} {x:Str} {e:Expr} {te:TE} {pos':Pos} (hN:X.N.Nodup) (hi:X.N[i]?=some x) (hx:Loc X.env.scope x) (he:PE X e te) (hs:swapsWith e (some (.Name x pos')) pos.line X.env=pure false:=by rfl) (hf:X.fn x=true\/X.env.scope.names.lookup x=some .local:=by first | exact .inl rfl | exact .inr rfl | assumption) :
    PS X (.Assign [.Name x pos'] e pos) (uT te (r9 i)):=by
  intro pins s σ H D I h
  refine wpAny_Assign_Name (thn (he pins s σ H _ I h) fun v s1 ⟨y,H1,I1,r1,q1⟩=>?_) hs
  exact kJ I1 hN hi hx r1 (fun s2 I2=>⟨_,H1,I2,q1⟩) hf
end
section
variable {X:Cx} {pos:Pos}
noncomputable def uM (c:TT) (tb:TS):TS:=fun D σ H=>∃ W:Nat->St->Hp->Prop,(∃ m,W m σ H)/\∀ m σ H,W m σ H ->
  c σ H fun b H1=>if b=true then ∃ N:St->Hp->Prop,(∀ σ' H',N σ' H'->∃ m',m' < m/\W m' σ' H')/\tb { D with nx:=N,ct:=N,bk:=D.nx } σ H1 else D.nx σ H1
set_option tactic.hygienic true in
theorem vj {c:Expr} {body:List Stmt} {tc:TT} {tb:TS} (hp:PassesOwn (model X.prog X.w) X.A X.env X.xe) (hc:PT X c tc) (hb:PSs X body tb):PS X (.While c body [] pos) (uM tc tb):=by
  intro pins s σ H D I h
  obtain ⟨W,⟨m0,w0⟩,turn⟩:=h
  refine wpAny_While (codeAny_whileLoop (fun n s'=>∃ σ' H',Inv X pins σ' H' s'/\W n σ' H') ?_ m0 ⟨σ,H,I,w0⟩)
  rintro n s1 ⟨σ1,H1,I1,w1⟩
  refine wpAny_passesOwn hp (thn (hc pins s1 σ1 H1 _ I1 (turn n σ1 H1 w1)) fun b s2 ⟨H2,I2,q2⟩=>?_)
  cases b with
  | true =>
    obtain ⟨N,hN,q2⟩:=q2
    rw [if_pos rfl]
    refine wpAny_passesOwn hp (thn (hb pins s2 σ1 H2 _ I2 q2) fun f s3 q3=>?_)
    cases f with
    | next =>
      obtain ⟨σ3,H3,I3,n3⟩:=q3
      obtain ⟨m',hm,w3⟩:=hN σ3 H3 n3
      exact ⟨m',hm,σ3,H3,I3,w3⟩
    | cont =>
      obtain ⟨σ3,H3,I3,n3⟩:=q3
      obtain ⟨m',hm,w3⟩:=hN σ3 H3 n3
      exact ⟨m',hm,σ3,H3,I3,w3⟩
    | brk=>exact q3
    | ret v=>exact q3
  | false =>
    rw [if_neg A5]
    exact wpAny_execs_nil ⟨σ1,H2,I2,q2⟩
end
structure It where
  go:Nat->Hp->Prop
  yld:Nat->Hp->V->Hp->Prop
  stop:Nat->Hp->Prop
noncomputable def FpOk (X:Cx) (pins:List (Addr × Obj)) (H:Hp) (b:Addr):Prop :=
  H b=none/\b ≠ X.env.locals/\b ∉ X.fs/\(b ∈ X.ex\/X.s₀.heap.objs.size<=b)/\(∀ x c,X.env.cells.lookup x=some c->c ≠ b)/\∀ p ∈ X.pn ++ pins,p.1 ≠ b
theorem Inv.fpOk {X:Cx} {pins:List (Addr × Obj)} {σ:St} {H H':Hp} {s:Shared} {b:Addr} (I:Inv X pins σ H s) (hb:s.heap.objs.size<=b) (hn:H' b=none):FpOk X pins H' b:=by
  refine ⟨hn,Nat.ne_of_gt (Bb I.lt hb),I.nofs hb,.inr (Br I.sz hb),fun x c e z=>?_,fun p hp z=>?_⟩
  · obtain ⟨v,q⟩:=I.cell x c e
    exact absurd (Bb q.lt (by rw [z];exact hb)) (Nat.lt_irrefl _)
  · exact absurd (Bb (AU (I.pin p hp).1) (by rw [z];exact hb)) (Nat.lt_irrefl _)
structure Turn (P:Program) (w:World) (K:FG) (tg:Expr) (J:It) (fp:List Addr) (it:Addr) (tn:Nat->Heap->Prop):Prop where
  mem:it ∈ fp
  obj:∀ i h,tn i h->∀ b ∈ fp,∃ o,h.get? b=some o/\∀ v,o.data ≠ .cell v
  keep:∀ i h h',tn i h->(∀ b ∈ fp,∀ o,h.get? b=some o->h'.get? b=some o)->tn i h'
  item:∀ (X:Cx),X.prog=P->X.w=w->X.K=K->X.calm=true->∀ (i:Nat) (pins:List (Addr × Obj)) (s:Shared) (σ:St) (H:Hp) (E:Value->Shared->Prop),Inv X pins σ H s->(∀ b ∈ fp,FpOk X pins H b)->tn i s.heap->J.go i H ->
    wpAny (model P w) X.A (pyNext (.ref it)) (fun r s1=>∃ u,r=some u /\
      wpAny (model P w) X.A (letOwnedTupleGo tg (.ref it) u) (fun _ s2=>∃ x H',Inv X pins σ H' s2/\RelV x u/\J.yld i H x H'/\tn (i+1) s2.heap/\∀ b ∈ fp,H' b=none) E s1) E s
  done:∀ (X:Cx),X.prog=P->X.w=w->X.K=K->X.calm=true->∀ (i:Nat) (pins:List (Addr × Obj)) (s:Shared) (σ:St) (H:Hp) (E:Value->Shared->Prop),Inv X pins σ H s->(∀ b ∈ fp,FpOk X pins H b)->tn i s.heap->J.stop i H ->
    wpAny (model P w) X.A (pyNext (.ref it)) (fun r s1=>r=none/\Inv X pins σ H s1) E s
  self:∀ (A:Around) (i:Nat) (s:Shared) (Q:Value->Shared->Prop) (E:Value->Shared->Prop),tn i s.heap->Q (.ref it) s->wpAny (model P w) A (pyIter (.ref it)) Q E s
noncomputable abbrev TI:=St->Hp->(It->Hp->Prop)->Prop
noncomputable def PIE (X:Cx) (pins:List (Addr × Obj)) (σ:St) (tg:Expr) (R:It->Hp->Prop) (itv:Value) (s2:Shared):Prop :=
  ∃ (it:Addr) (fp:List Addr) (tn:Nat->Heap->Prop) (J:It) (H':Hp),itv=.ref it/\Inv X pins σ H' s2/\Turn X.prog X.w X.K tg J fp it tn/\tn 0 s2.heap/\(∀ b ∈ fp,FpOk X pins H' b)/\R J H'
noncomputable def PI (X:Cx) (tg iter:Expr) (wi:TI):Prop :=
  ∀ (pins:List (Addr × Obj)) (s:Shared) (σ:St) (H:Hp) (R:It->Hp->Prop),Inv X pins σ H s->wi σ H R ->
    wpAny (model X.prog X.w) X.A (eval iter X.env) (fun v s1=>wpAny (model X.prog X.w) X.A (pyIter v) (PIE X pins σ tg R) X.xe s1) X.xe s
theorem mJ {M : Model} {A : Around} {E : Value -> Shared -> Prop} {s : Shared} {tg : Expr} {it : Addr} {u : Value} {o : Obj} {n : String} {vs : Array Value} {Q : Unit -> Shared -> Prop} (ho : s.heap.get? it = some o) (hc : o.cls = .type n) (hd : o.data = .fields vs)
    (hn : ["enumerate", "zip", "dict_itemiterator", "dict_reverseitemiterator", "odict_iterator", "itertools.zip_longest", "itertools.pairwise"].contains n = false) (hQ : Q () s) : wpAny M A (letOwnedTupleGo tg (.ref it) u) Q E s := by
  unfold letOwnedTupleGo
  cases tg <;> first
    | exact AJ hQ
    | (cases u <;> first
        | exact AJ hQ
        | (refine AI (wpAny_load ho ?_)
           rw [hc, hd]
           show wpAny M A (if (["enumerate", "zip", "dict_itemiterator", "dict_reverseitemiterator", "odict_iterator", "itertools.zip_longest", "itertools.pairwise"].contains n && vs[0]? == some (rawInt _)) = true then _ else _) Q E s
           rw [if_neg (by intro h; rw [hn, Bool.false_and] at h; cases h)]
           exact AJ hQ))
noncomputable def Itl (K:FG) (a:Addr):It :=
  ⟨fun i H=>∃ xs x,SqL K H a xs/\xs[i]?=some x,fun i H x H'=>H'=H/\∀ xs,SqL K H a xs->xs[i]?=some x,fun i H=>∃ xs,SqL K H a xs/\xs.length<=i⟩
noncomputable def Itt (K:FG) (a:Addr):It :=
  ⟨fun i H=>∃ xs x,SqT K H a xs/\xs[i]?=some x,fun i H x H'=>H'=H/\∀ xs,SqT K H a xs->xs[i]?=some x,fun i H=>∃ xs,SqT K H a xs/\xs.length<=i⟩
noncomputable def Itr (lo:Int) (n:Nat):It:=⟨fun i _=>i < n,fun i H x H'=>H'=H/\x=.int (lo+i),fun i _=>n<=i⟩
theorem sH {P:Program} {w:World} {K:FG} {tg:Expr} (a it:Addr):Turn P w K tg (Itl K a) [it] it (fun i h=>h.IsListIter it a i) where
  mem:=by simp
  obj:=fun i h st b hb=>by
    have e:b=it:=by simpa using hb
    subst e
    obtain ⟨o,e,c,d⟩:=st
    exact ⟨o,e,fun v z=>by rw [d] at z;cases z⟩
  keep:=fun i h h' st k=>st.at fun o e=>k it (by simp) o e
  item:=by
    intro X hP hw hK hc i pins s σ H E I hf st hg
    subst hP hw hK
    obtain ⟨xs,x,hq,hx⟩:=hg
    obtain ⟨its,rv,p,hz⟩:=I.list hq
    obtain ⟨u,hu,ru⟩:=rv.get hx
    obtain ⟨f0,f1,f2,f3,f4,f5⟩:=hf it (by simp)
    refine wpAny_pyNext_list_item st p.isList (x:=u) (by simpa using hu) fun h' st' sb=>?_
    have I1:Inv X pins σ H { s with heap:=h' }:=I.turned (t':=s.toks) (fun b o hb e=>(sb.2 b hb).trans e) f0 f1 f3 f4 f5
    obtain ⟨o,e,c,d⟩:=id st'
    exact ⟨u,rfl,mJ (s:={ s with heap:=h' }) e c d (by decide) ⟨x,H,I1,ru,⟨rfl,fun ys hy=>by rw [I.list_inj hy hq];exact hx⟩,st',fun b hb=>(hf b hb).1⟩⟩
  done:=by
    intro X hP hw hK hc i pins s σ H E I hf st hg
    subst hP hw hK
    obtain ⟨xs,hq,hx⟩:=hg
    obtain ⟨its,rv,p,hz⟩:=I.list hq
    obtain ⟨f0,f1,f2,f3,f4,f5⟩:=hf it (by simp)
    have hl:=rv.length
    exact wpAny_pyNext_list_end (I.ok.hd hc) st p.isList (by simp;omega) fun h' eb=>⟨rfl,I.turned (t':=s.toks) (fun b o hb e=>eb b o hb e) f0 f1 f3 f4 f5⟩
  self:=fun _ _ _ _ _ st h=>wpAny_pyIter_listiter st h
theorem qe {P:Program} {w:World} {K:FG} {tg:Expr} (a it:Addr):Turn P w K tg (Itt K a) [it] it (fun i h=>h.IsTupleIter it a i) where
  mem:=by simp
  obj:=fun i h st b hb=>by
    have e:b=it:=by simpa using hb
    subst e
    obtain ⟨o,e,c,d⟩:=st
    exact ⟨o,e,fun v z=>by rw [d] at z;cases z⟩
  keep:=fun i h h' st k=>st.at fun o e=>k it (by simp) o e
  item:=by
    intro X hP hw hK hc i pins s σ H E I hf st hg
    subst hP hw hK
    obtain ⟨xs,x,hq,hx⟩:=hg
    obtain ⟨its,rv,p,hz⟩:=I.tuple hq
    obtain ⟨u,hu,ru⟩:=rv.get hx
    obtain ⟨f0,f1,f2,f3,f4,f5⟩:=hf it (by simp)
    refine wpAny_pyNext_tuple_item st (show s.heap.IsTuple a its.toArray from p) (x:=u) (by simpa using hu) fun h' st' sb=>?_
    have I1:Inv X pins σ H { s with heap:=h' }:=I.turned (t':=s.toks) (fun b o hb e=>(sb.2 b hb).trans e) f0 f1 f3 f4 f5
    obtain ⟨o,e,c,d⟩:=id st'
    exact ⟨u,rfl,mJ (s:={ s with heap:=h' }) e c d (by decide) ⟨x,H,I1,ru,⟨rfl,fun ys hy=>by rw [I.tuple_inj hy hq];exact hx⟩,st',fun b hb=>(hf b hb).1⟩⟩
  done:=by
    intro X hP hw hK hc i pins s σ H E I hf st hg
    subst hP hw hK
    obtain ⟨xs,hq,hx⟩:=hg
    obtain ⟨its,rv,p,hz⟩:=I.tuple hq
    obtain ⟨f0,f1,f2,f3,f4,f5⟩:=hf it (by simp)
    have hl:=rv.length
    exact wpAny_pyNext_tuple_end (I.ok.hd hc) st (show s.heap.IsTuple a its.toArray from p) (by simp;omega) fun h' eb=>⟨rfl,I.turned (t':=s.toks) (fun b o hb e=>eb b o hb e) f0 f1 f3 f4 f5⟩
  self:=fun _ _ _ _ _ st h=>wpAny_pyIter_tupleiter st h
theorem eX {P:Program} {w:World} {K:FG} {tg:Expr} (it:Addr) (lo:Int) (n:Nat):Turn P w K tg (Itr lo n) [it] it (fun i h=>IsRangeIter h it (lo+(i:Nat) * 1) ((n:Int) - (i:Nat)) 1) where
  mem:=by simp
  obj:=fun i h st b hb=>by
    have e:b=it:=by simpa using hb
    subst e
    exact ⟨_,st,fun v z=>by
      have z':Data.fields _=Data.cell v:=z
      cases z'⟩
  keep:=fun i h h' st k=>k it (by simp) _ st
  item:=by
    intro X hP hw hK hc i pins s σ H E I hf st hg
    subst hP hw hK
    obtain ⟨f0,f1,f2,f3,f4,f5⟩:=hf it (by simp)
    have W:=Walks.range (prog:=X.prog) (w:=X.w) (I.ok.hd hc) it lo 1 n
    refine W.item i s _ _ hg st fun v h' tk hv st' kk=>?_
    obtain ⟨t,rfl⟩:=hv
    have I1:Inv X pins σ H { s with heap:=h',toks:=tk }:=I.turned (fun b o hb e=>kk b o (by simpa using hb) e) f0 f1 f3 f4 f5
    refine ⟨_,rfl,mJ (s:={ s with heap:=h',toks:=tk }) (n:="range_iterator") st' rfl rfl (by decide) ⟨.int (lo+i),H,I1,⟨t,?_⟩,⟨rfl,rfl⟩,st',fun b hb=>(hf b hb).1⟩⟩
    rw [Int.mul_one]
  done:=by
    intro X hP hw hK hc i pins s σ H E I hf st hg
    subst hP hw hK
    obtain ⟨f0,f1,f2,f3,f4,f5⟩:=hf it (by simp)
    exact wpAny_pyNext_range_end (I.ok.hd hc) st (by have:n<=i:=hg;omega) fun h' eb=>⟨rfl,I.turned (t':=s.toks) (fun b o hb e=>eb b o hb e) f0 f1 f3 f4 f5⟩
  self:=fun _ _ _ _ _ st h=>wpAny_pyIter_rangeiter st h
end L2
namespace L2
open PySem PySem.Spec PyProof.Rows
section
variable {X:Cx} {tg:Expr}
theorem pd {pins:List (Addr × Obj)} {σ:St} {H:Hp} {s:Shared} {R:It->Hp->Prop} {E:Value->Shared->Prop} {lo hi:Int} {t u v:Tok} {tk:Nat} (I:Inv X pins σ H s) (h1:-(2 ^ 62)<=lo) (h2:lo < 2 ^ 62) (h3:-(2 ^ 62)<=hi) (h4:hi < 2 ^ 62)
    (q:R (Itr lo (hi - lo).toNat) H):wpAny (model X.prog X.w) X.A (pyIter (.ref s.heap.objs.size)) (PIE X pins σ tg R) E { s with heap:=s.heap.push { cls:=.type "range",data:=.fields #[.int lo t,.int hi u,.int 1 v] },toks:=tk }:=by
  refine wpAny_pyIter_range (IsRange.new ..) (small_one h1 h2 h3 h4) ?_
  have I1:Inv X pins σ H { s with heap:=s.heap.push { cls:=.type "range",data:=.fields #[.int lo t,.int hi u,.int 1 v] },toks:=tk }:=I.kept fun b o e=>AN _ e
  refine ⟨(s.heap.push { cls:=.type "range",data:=.fields #[.int lo t,.int hi u,.int 1 v] }).objs.size,[(s.heap.push { cls:=.type "range",data:=.fields #[.int lo t,.int hi u,.int 1 v] }).objs.size],_,_,H,rfl,
    I1.kept (t':=tk) fun b o e=>AN _ e,eX _ lo (hi - lo).toNat,?_,fun b hb=>?_,q⟩
  · have e1:lo+((0:Nat):Int) * 1=lo:=by simp
    have e2:(((hi - lo).toNat:Nat):Int) - ((0:Nat):Int)=Builtin.Range.rangeSize lo hi 1:=by rw [rangeSize_one];split <;> omega
    show IsRangeIter _ _ (lo+((0:Nat):Int) * 1) ((((hi - lo).toNat:Nat):Int) - ((0:Nat):Int)) 1
    rw [e1,e2]
    exact AW _ rfl
  · have e:b=(s.heap.push { cls:=.type "range",data:=.fields #[.int lo t,.int hi u,.int 1 v] }).objs.size:=by simpa using hb
    subst e
    exact I1.fpOk (A4 _) (I1.hok.fresh (A4 _))
noncomputable def v6 (ta:TA):TI:=fun σ H R=>ta σ H fun vs H1=>∃ j:Int,vs=[.int j]/\-(2 ^ 62)<=j/\j < 2 ^ 62/\R (Itr 0 j.toNat) H1
noncomputable def yK (ta:TA):TI:=fun σ H R=>ta σ H fun vs H1=>∃ i j:Int,vs=[.int i,.int j]/\(-(2 ^ 62)<=i/\i < 2 ^ 62/\-(2 ^ 62)<=j/\j < 2 ^ 62)/\R (Itr i (j - i).toNat) H1
theorem s9 {a:Expr} {ta:TA} {p pos:Pos} (hg:Gl X "range") (hm:X.mg "range"=none) (ha:PA X [a] ta) (hs:starEach [a] X.env=[(false,eval a X.env)]:=by rfl):PI X tg (.Call (.Name "range" p) [a] [] pos) (v6 ta):=by
  intro pins s σ H R I h
  refine Call_ (eJ I hg hm boot_range (PyProof.Rows.callWith_type1 (thn (ha pos pins s σ H _ I h) fun us s1 ⟨vs,H1,I1,r1,q1⟩=>?_) hs rfl))
  obtain ⟨j,e,q1,q2,q⟩:=q1
  subst e
  cases r1 with
  | cons r rr =>
    cases rr
    obtain ⟨t,rfl⟩:=r
    exact call_range_1 (pd I1 (by omega) (by omega) q1 q2 (by simpa using q))
theorem sZ {a b:Expr} {ta:TA} {p pos:Pos} (hg:Gl X "range") (hm:X.mg "range"=none) (ha:PA X [a,b] ta) (hs:starEach [a,b] X.env=[(false,eval a X.env),(false,eval b X.env)]:=by rfl) (hs2:starEach [b] X.env=[(false,eval b X.env)]:=by rfl) :
    PI X tg (.Call (.Name "range" p) [a,b] [] pos) (yK ta):=by
  intro pins s σ H R I h
  refine Call_ (eJ I hg hm boot_range (PyProof.Rows.callWith_type1 (thn (ha pos pins s σ H _ I h) fun us s1 ⟨vs,H1,I1,r1,q1⟩=>?_) (by rw [hs,hs2]) (by rw [hs2];rfl)))
  obtain ⟨i,j,e,⟨q1,q2,q3,q4⟩,q⟩:=q1
  subst e
  cases r1 with
  | cons r rr =>
    cases rr with
    | cons r' rr =>
      cases rr
      obtain ⟨t,rfl⟩:=r
      obtain ⟨t',rfl⟩:=r'
      exact call_range_2 (pd I1 q1 q2 q3 q4 q)
noncomputable def tFor (wi:TI) (g:TG) (tb:TS):TS:=fun D σ H=>wi σ H fun J H1=>∃ W:Nat->Nat->St->Hp->Prop,(∃ m,W 0 m σ H1)/\∀ i m σ H,W i m σ H ->
  (J.stop i H/\D.nx σ H)\/(J.go i H/\∃ N:St->Hp->Prop,(∀ σ' H',N σ' H'->∃ m',m' < m/\W (i+1) m' σ' H')/\∀ x H',J.yld i H x H'->g x σ H' fun σ2 H2=>tb { D with nx:=N,ct:=N,bk:=D.nx } σ2 H2)
noncomputable def i7 (fp:List Addr) (h:Heap):List (Addr × Obj):=fp.filterMap fun b=>(h.get? b).map fun o=>(b,o)
theorem cZ {fp:List Addr} {h:Heap} {b:Addr} {o:Obj} (hb:b ∈ fp) (e:h.get? b=some o):(b,o) ∈ i7 fp h:=List.mem_filterMap.mpr ⟨b,hb,by rw [e];rfl⟩
theorem tq {fp:List Addr} {h:Heap} {p:Addr × Obj} (hp:p ∈ i7 fp h):p.1 ∈ fp/\h.get? p.1=some p.2:=by
  obtain ⟨b,hb,e⟩:=List.mem_filterMap.mp hp
  cases q:h.get? b with
  | none=>rw [q] at e;cases e
  | some o =>
    rw [q] at e
    have e':(b,o)=p:=Bt e
    subst e'
    exact ⟨hb,q⟩
theorem Inv.pinned {pins:List (Addr × Obj)} {σ:St} {H:Hp} {s:Shared} {fp:List Addr} (I:Inv X pins σ H s) (hf:∀ b ∈ fp,FpOk X pins H b) (ho:∀ b ∈ fp,∃ o,s.heap.get? b=some o/\∀ v,o.data ≠ .cell v):Inv X (pins ++ i7 fp s.heap) σ H s :=
  I.pins_of fun p hp=>(AV.mp hp).elim (fun z=>I.pin p (AR _ z)) fun z=>by
    obtain ⟨hb,e⟩:=tq z
    obtain ⟨f0,f1,f2,_⟩:=hf p.1 hb
    obtain ⟨o,e',d⟩:=ho p.1 hb
    rw [e] at e';cases e'
    exact ⟨e,f0,f1,f2,d⟩
theorem Inv.unpinned {pins pl:List (Addr × Obj)} {σ:St} {H:Hp} {s:Shared} (I:Inv X (pins ++ pl) σ H s):Inv X pins σ H s:=I.pins_of fun p hp=>I.pin p (AR _ (AQ _ hp))
set_option tactic.hygienic true in
theorem zM {iter:Expr} {body:List Stmt} {wi:TI} {g:TG} {tb:TS} {pos:Pos} (hp:PassesOwn (model X.prog X.w) X.A X.env X.xe) (hc:X.calm=true) (hi:PI X tg iter wi) (hg:PG X tg g) (hb:PSs X body tb)
    (hs:∀ x,foldedSetIterable iter X.env x=pure x:=by intro _;rfl):PS X (.For tg iter body [] pos) (tFor wi g tb):=by
  intro pins s σ H D I h
  refine wpAny_For (thn (hi pins s σ H _ I h) fun v s1 h1=>thn h1 fun itv s2 h2=>?_) hs
  obtain ⟨it,fp,tn,J,H2,e,I2,T,st2,f2,W,⟨m0,w0⟩,turn⟩:=h2
  subst e
  have stat:∀ {H':Hp},(∀ b ∈ fp,H' b=none)->∀ b ∈ fp,FpOk X pins H' b:=fun hn b hb=>⟨hn b hb,(f2 b hb).2⟩
  refine codeAny_forLoop_any (fun n s'=>∃ i σ' H',Inv X pins σ' H' s'/\tn i s'.heap/\(∀ b ∈ fp,H' b=none)/\W i n σ' H') ?_ m0 ⟨0,σ,H2,I2,st2,fun b hb=>(f2 b hb).1,w0⟩
  rintro n s3 ⟨i,σ3,H3,I3,st3,fr3,w3⟩
  rcases turn i n σ3 H3 w3 with ⟨stop,qn⟩ | ⟨go,N,hN,step⟩
  · refine wpAny_passesOwn hp (thn (T.done X rfl rfl rfl hc i pins s3 σ3 H3 X.xe I3 (stat fr3) st3 stop) fun r s4 ⟨hr,I4⟩=>?_)
    subst hr
    exact wpAny_execs_nil ⟨σ3,H3,I4,qn⟩
  · refine wpAny_passesOwn hp (thn (T.item X rfl rfl rfl hc i pins s3 σ3 H3 X.xe I3 (stat fr3) st3 go) fun r s4 ⟨u,hr,h4⟩=>?_)
    subst hr
    refine wpAny_passesOwn hp (thn h4 fun _ s5 ⟨x,H5,I5,r5,y5,st5,fr5⟩=>?_)
    have I5':=I5.pinned (stat fr5) (T.obj _ _ st5)
    refine wpAny_passesOwn hp (thn (hg _ s5 σ3 H5 x u _ I5' r5 (step x H5 y5)) fun _ s6 ⟨σ6,H6,I6,q6⟩=>?_)
    refine wpAny_passesOwn hp (thn (hb _ s6 σ6 H6 _ I6 q6) fun f s7 q7=>?_)
    have again:∀ {σ7:St} {H7:Hp},Inv X (pins ++ i7 fp s5.heap) σ7 H7 s7->N σ7 H7->∃ m,m < n/\∃ i σ' H',Inv X pins σ' H' s7/\tn i s7.heap/\(∀ b ∈ fp,H' b=none)/\W i m σ' H':=fun {σ7 H7} I7 n7=>by
      obtain ⟨m',hm,w7⟩:=hN σ7 H7 n7
      refine ⟨m',hm,i+1,σ7,H7,I7.unpinned,T.keep _ _ _ st5 fun b hb o e=>(I7.pin (b,o) (AR _ (AR _ (cZ hb e)))).1,fun b hb=>?_,w7⟩
      obtain ⟨o,e,d⟩:=T.obj _ _ st5 b hb
      exact (I7.pin (b,o) (AR _ (AR _ (cZ hb e)))).2.1
    cases f with
    | next=>obtain ⟨σ7,H7,I7,n7⟩:=q7;exact again I7 n7
    | cont=>obtain ⟨σ7,H7,I7,n7⟩:=q7;exact again I7 n7
    | brk=>obtain ⟨σ7,H7,I7,q7⟩:=q7;exact ⟨σ7,H7,I7.unpinned,q7⟩
    | ret v=>obtain ⟨x7,σ7,H7,I7,r7,q7⟩:=q7;exact ⟨x7,σ7,H7,I7.unpinned,r7,q7⟩
end
end L2
namespace L2
open PySem PySem.Spec PyProof.Rows
noncomputable abbrev R2:=V->V->Hp->VK->Prop
noncomputable def OpR (X:Cx) (f:Value->Value->Sem Value) (r:R2):Prop :=
  ∀ (pins:List (Addr × Obj)) (s:Shared) (σ:St) (H:Hp) (x y:V) (v u:Value) (Q:VK),Inv X pins σ H s->RelV x v->RelV y u->r x y H Q ->
    wpAny (model X.prog X.w) X.A (f v u) (EP X pins σ Q) X.xe s
noncomputable def UnR (X:Cx) (f:Value->Sem Value) (r:V->Hp->VK->Prop):Prop :=
  ∀ (pins:List (Addr × Obj)) (s:Shared) (σ:St) (H:Hp) (x:V) (v:Value) (Q:VK),Inv X pins σ H s->RelV x v->r x H Q ->
    wpAny (model X.prog X.w) X.A (f v) (EP X pins σ Q) X.xe s
noncomputable def CallR (X:Cx) (f:Value) (r:List V->Hp->VK->Prop):Prop :=
  ∀ (pins:List (Addr × Obj)) (s:Shared) (σ:St) (H:Hp) (xs:List V) (us:List Value) (Q:VK),Inv X pins σ H s->Vals xs us->r xs H Q ->
    wpAny (model X.prog X.w) X.A (call f us) (EP X pins σ Q) X.xe s
noncomputable def tOp (r:R2) (ta tb:TE):TE:=fun σ H Q=>ta σ H fun x H1=>tb σ H1 fun y H2=>r x y H2 Q
noncomputable def tUn (r:V->Hp->VK->Prop) (ta:TE):TE:=fun σ H Q=>ta σ H fun x H1=>r x H1 Q
noncomputable def rI (C:Int->Int->Prop) (g:Int->Int->V):R2:=fun x y H Q=>∃ i j,x=.int i/\y=.int j/\C i j/\Q (g i j) H
noncomputable def rI0 (g:Int->Int->V):R2:=fun x y H Q=>∃ i j,x=.int i/\y=.int j/\Q (g i j) H
noncomputable def rU (g:Int->V):V->Hp->VK->Prop:=fun x H Q=>∃ i,x=.int i/\Q (g i) H
section
variable {X:Cx} {a b c:Expr} {ta tb tc:TE} {pos:Pos}
theorem AB (ha:PE X a ta) (hb:PE X b tb) {pins:List (Addr × Obj)} {s:Shared} {σ:St} {H:Hp} {R:V->V->Hp->Prop} (I:Inv X pins σ H s)
    (h:ta σ H fun x H1=>tb σ H1 fun y H2=>R x y H2) {Q:Value->Shared->Prop} {f:Value->Value->Sem Value}
    (hf:∀ v u s2 x y H2,Inv X pins σ H2 s2->RelV x v->RelV y u->R x y H2->wpAny (model X.prog X.w) X.A (f v u) Q X.xe s2) :
    wpAny (model X.prog X.w) X.A (eval a X.env) (fun v s₁=>wpAny (model X.prog X.w) X.A (eval b X.env) (fun u s₂=>wpAny (model X.prog X.w) X.A (f v u) Q X.xe s₂) X.xe s₁) X.xe s:=by
  refine thn (ha pins s σ H _ I h) fun v s1 ⟨x,H1,I1,r1,q1⟩=>?_
  refine thn (hb pins s1 σ H1 _ I1 q1) fun u s2 ⟨y,H2,I2,r2,q2⟩=>?_
  exact hf v u s2 x y H2 I2 r1 r2 q2
theorem pe_op {op:Operator} {r:R2} (ho:OpR X (binaryOp op) r) (ha:PE X a ta) (hb:PE X b tb):PE X (.BinOp a op b pos) (tOp r ta tb):=by
  intro pins s σ H Q I h
  exact wpAny_BinOp (AB ha hb I h fun v u s2 x y H2 I2 rx ry q=>ho pins s2 σ H2 x y v u Q I2 rx ry q)
theorem pe_un {op:UnaryOp} {r:V->Hp->VK->Prop} (ho:UnR X (unaryOp op) r) (ha:PE X a ta):PE X (.UnaryOp op a pos) (tUn r ta):=by
  intro pins s σ H Q I h
  exact UnaryOp_ (thn (ha pins s σ H _ I h) fun v s1 ⟨x,H1,I1,r1,q1⟩=>ho pins s1 σ H1 x v Q I1 r1 q1)
theorem opI {f:Value->Value->Sem Value} {C:Int->Int->Prop} {g:Int->Int->Int}
    (rule:∀ (i j:Int) (t u:Tok) (s:Shared) (Q:Value->Shared->Prop) (E:Value->Shared->Prop),C i j->Q (.int (g i j) s.toks) { s with toks:=s.toks+1 }->wpAny (model X.prog X.w) X.A (f (.int i t) (.int j u)) Q E s) :
    OpR X f (rI C fun i j=>.int (g i j)):=by
  intro pins s σ H x y v u Q I rx ry h
  obtain ⟨i,j,rfl,rfl,hc,q⟩:=h
  obtain ⟨t,rfl⟩:=rx
  obtain ⟨t',rfl⟩:=ry
  exact rule i j t t' s _ _ hc ⟨.int (g i j),H,I.tok _,⟨_,rfl⟩,q⟩
theorem opI0 {f:Value->Value->Sem Value} {g:Int->Int->Int}
    (rule:∀ (i j:Int) (t u:Tok) (s:Shared) (Q:Value->Shared->Prop) (E:Value->Shared->Prop),Q (.int (g i j) s.toks) { s with toks:=s.toks+1 }->wpAny (model X.prog X.w) X.A (f (.int i t) (.int j u)) Q E s) :
    OpR X f (rI0 fun i j=>.int (g i j)):=by
  intro pins s σ H x y v u Q I rx ry h
  obtain ⟨i,j,rfl,rfl,q⟩:=h
  obtain ⟨t,rfl⟩:=rx
  obtain ⟨t',rfl⟩:=ry
  exact rule i j t t' s _ _ ⟨.int (g i j),H,I.tok _,⟨_,rfl⟩,q⟩
theorem Ab {f:Value->Value->Sem Value} {g:Int->Int->Bool}
    (rule:∀ (i j:Int) (t u:Tok) (s:Shared) (Q:Value->Shared->Prop) (E:Value->Shared->Prop),Q (.bool (g i j)) s->wpAny (model X.prog X.w) X.A (f (.int i t) (.int j u)) Q E s) :
    OpR X f (rI0 fun i j=>.bl (g i j)):=by
  intro pins s σ H x y v u Q I rx ry h
  obtain ⟨i,j,rfl,rfl,q⟩:=h
  obtain ⟨t,rfl⟩:=rx
  obtain ⟨t',rfl⟩:=ry
  exact rule i j t t' s _ _ ⟨.bl (g i j),H,I,rfl,q⟩
noncomputable def uG (i j:Int):Prop:=0 < j/\j < 1073741824
noncomputable def wC (i j:Int):Prop:=0<=j/\j<=1000000/\i.natAbs < 2 ^ 64
noncomputable def CMul (i j:Int):Prop:=(-(2 ^ 64) < i/\i < 2 ^ 64)\/(-(2 ^ 64) < j/\j < 2 ^ 64)
theorem CMul.ok {i j:Int} (h:CMul i j):IntMulOk i j:=by
  rcases h with ⟨h1,h2⟩ | ⟨h1,h2⟩
  · exact .of_left (intBits_le_64 h1 h2)
  · exact .of_right (intBits_le_64 h1 h2)
theorem op_add:OpR X (binaryOp .Add) (rI0 fun i j=>.int (i+j)):=opI0 fun _ _ _ _ _ _ _ q=>add_int q
theorem dN:OpR X (binaryOp .Sub) (rI0 fun i j=>.int (i - j)):=opI0 fun _ _ _ _ _ _ _ q=>sub_int q
theorem fj:OpR X (binaryOp .Mult) (rI CMul fun i j=>.int (i * j)):=opI fun _ _ _ _ _ _ _ hc q=>mul_int q hc.ok
theorem k8:OpR X (binaryOp .Mod) (rI (fun _ j=>0 < j) fun i j=>.int (i % j)):=opI fun i j _ _ _ _ _ hc q=>by
  have h1:(0:Int) < j:=hc
  exact mod_int' (by omega) (by rw [Int.fmod_eq_emod_of_nonneg i (by omega)];exact q)
theorem z8:OpR X (binaryOp .Pow) (rI wC fun i j=>.int (i ^ j.toNat)):=opI fun _ _ _ _ _ _ _ hc q=>pow_int_small hc.1 hc.2.1 hc.2.2 q
theorem unI {f:Value->Sem Value} {g:Int->Int}
    (rule:∀ (i:Int) (t:Tok) (s:Shared) (Q:Value->Shared->Prop) (E:Value->Shared->Prop),Q (.int (g i) s.toks) { s with toks:=s.toks+1 }->wpAny (model X.prog X.w) X.A (f (.int i t)) Q E s) :
    UnR X f (rU fun i=>.int (g i)):=by
  intro pins s σ H x v Q I rx h
  obtain ⟨i,rfl,q⟩:=h
  obtain ⟨t,rfl⟩:=rx
  exact rule i t s _ _ ⟨.int (g i),H,I.tok _,⟨_,rfl⟩,q⟩
theorem en:UnR X (unaryOp .USub) (rU fun i=>.int (-i)):=unI fun _ _ _ _ _ q=>neg_int q
end
noncomputable def zr:V->V->Bool
  | .non,.non=>true | .non,.int _=>true | .int _,.non=>true | .non,.bl _=>true | .bl _,.non=>true | .non,.str _=>true | .str _,.non=>true
  | .int _,.int _=>true | .bl _,.bl _=>true | .str _,.str _=>true | .byt _,.byt _=>true
  | .int _,.str _=>true | .str _,.int _=>true | .bl _,.str _=>true | .str _,.bl _=>true
  | _,_=>false
noncomputable def rEq:R2:=fun x y H Q=>zr x y=true/\Q (.bl (decide (x=y))) H
noncomputable def rNe:R2:=fun x y H Q=>zr x y=true/\Q (.bl (!decide (x=y))) H
theorem si {i j:Int}:decide (V.int i=V.int j)=(i == j):=by
  rw [Bool.eq_iff_iff]
  simp
theorem wj {i j:Bool}:decide (V.bl i=V.bl j)=(i == j):=by
  rw [Bool.eq_iff_iff]
  simp
theorem sh {i j:Str}:decide (V.str i=V.str j)=(i == j):=by
  rw [Bool.eq_iff_iff]
  simp
theorem sj {i j:Array UInt8}:decide (V.byt i=V.byt j)=(i.toList == j.toList):=by
  rw [Bool.eq_iff_iff]
  cases i
  cases j
  simp
section
variable {X:Cx} {a b c:Expr} {ta tb tc:TE} {pos:Pos}
theorem aZ {pins:List (Addr × Obj)} {σ:St} {H:Hp} {s:Shared} {Q:VK} {k k':Bool} (I:Inv X pins σ H s) (q:Q (.bl k) H) (e:k=k'):EP X pins σ Q (.bool k') s:=by
  subst e
  exact ⟨.bl k,H,I,rfl,q⟩
theorem op_eq:OpR X (compareOp .Eq) rEq:=by
  intro pins s σ H x y v u Q I rx ry h
  obtain ⟨hs,q⟩:=h
  cases x with
  | non =>
    cases rx
    cases y with
    | non=>cases ry;exact PySem.EqNone.eq_none_none (aZ I q (by simp))
    | bl j=>cases ry;exact PySem.EqNone.eq_none_bool (aZ I q (by simp))
    | int j=>obtain ⟨t',rfl⟩:=ry;exact PySem.EqNone.eq_none_int (aZ I q (by simp))
    | str j=>obtain ⟨t',rfl⟩:=ry;exact PySem.EqNone.eq_none_str (aZ I q (by simp))
    | _=>exact absurd (show false=true from hs) A5
  | bl i =>
    cases rx
    cases y with
    | non=>cases ry;exact PySem.EqNone.eq_bool_none (aZ I q (by simp))
    | bl j=>cases ry;exact eq_bool (aZ I q wj)
    | str j=>obtain ⟨t',rfl⟩:=ry;exact PySem.EqMixed.eq_bool_str (aZ I q (by simp))
    | _=>exact absurd (show false=true from hs) A5
  | int i =>
    obtain ⟨t,rfl⟩:=rx
    cases y with
    | non=>cases ry;exact PySem.EqNone.eq_int_none (aZ I q (by simp))
    | int j=>obtain ⟨t',rfl⟩:=ry;exact eq_int (aZ I q si)
    | str j=>obtain ⟨t',rfl⟩:=ry;exact PySem.EqMixed.eq_int_str (aZ I q (by simp))
    | _=>exact absurd (show false=true from hs) A5
  | str i =>
    obtain ⟨t,rfl⟩:=rx
    cases y with
    | non=>cases ry;exact PySem.EqNone.eq_str_none (aZ I q (by simp))
    | bl j=>cases ry;exact PySem.EqMixed.eq_str_bool (aZ I q (by simp))
    | int j=>obtain ⟨t',rfl⟩:=ry;exact PySem.EqMixed.eq_str_int (aZ I q (by simp))
    | str j=>obtain ⟨t',rfl⟩:=ry;exact eq_str (aZ I q sh)
    | _=>exact absurd (show false=true from hs) A5
  | byt i =>
    obtain ⟨t,rfl⟩:=rx
    cases y with
    | byt j=>obtain ⟨t',rfl⟩:=ry;exact PySem.W.eq_bytes (aZ I q sj)
    | _=>exact absurd (show false=true from hs) A5
  | _=>cases y <;> exact absurd (show false=true from hs) A5
theorem op_ne:OpR X (compareOp .NotEq) rNe:=by
  intro pins s σ H x y v u Q I rx ry h
  obtain ⟨hs,q⟩:=h
  cases x with
  | non =>
    cases rx
    cases y with
    | non=>cases ry;exact PySem.EqNone.ne_none_none (aZ I q (by simp))
    | bl j=>cases ry;exact PySem.EqNone.ne_none_bool (aZ I q (by simp))
    | int j=>obtain ⟨t',rfl⟩:=ry;exact PySem.EqNone.ne_none_int (aZ I q (by simp))
    | str j=>obtain ⟨t',rfl⟩:=ry;exact PySem.EqNone.ne_none_str (aZ I q (by simp))
    | _=>exact absurd (show false=true from hs) A5
  | bl i =>
    cases rx
    cases y with
    | non=>cases ry;exact PySem.EqNone.ne_bool_none (aZ I q (by simp))
    | bl j=>cases ry;exact ne_bool (aZ I q (congrArg not wj))
    | str j=>obtain ⟨t',rfl⟩:=ry;exact PySem.EqMixed.ne_bool_str (aZ I q (by simp))
    | _=>exact absurd (show false=true from hs) A5
  | int i =>
    obtain ⟨t,rfl⟩:=rx
    cases y with
    | non=>cases ry;exact PySem.EqNone.ne_int_none (aZ I q (by simp))
    | int j=>obtain ⟨t',rfl⟩:=ry;exact ne_int (aZ I q (congrArg not si))
    | str j=>obtain ⟨t',rfl⟩:=ry;exact PySem.EqMixed.ne_int_str (aZ I q (by simp))
    | _=>exact absurd (show false=true from hs) A5
  | str i =>
    obtain ⟨t,rfl⟩:=rx
    cases y with
    | non=>cases ry;exact PySem.EqNone.ne_str_none (aZ I q (by simp))
    | bl j=>cases ry;exact PySem.EqMixed.ne_str_bool (aZ I q (by simp))
    | int j=>obtain ⟨t',rfl⟩:=ry;exact PySem.EqMixed.ne_str_int (aZ I q (by simp))
    | str j=>obtain ⟨t',rfl⟩:=ry;exact ne_str (aZ I q (congrArg not sh))
    | _=>exact absurd (show false=true from hs) A5
  | byt i =>
    obtain ⟨t,rfl⟩:=rx
    cases y with
    | byt j=>obtain ⟨t',rfl⟩:=ry;exact PySem.W.ne_bytes (aZ I q (congrArg not sj))
    | _=>exact absurd (show false=true from hs) A5
  | _=>cases y <;> exact absurd (show false=true from hs) A5
theorem k9:OpR X (compareOp .Lt) (rI0 fun i j=>.bl (decide (i < j))):=Ab fun _ _ _ _ _ _ _ q=>lt_int q
theorem iB:OpR X (compareOp .LtE) (rI0 fun i j=>.bl (decide (i<=j))):=Ab fun _ _ _ _ _ _ _ q=>le_int q
theorem op_gt:OpR X (compareOp .Gt) (rI0 fun i j=>.bl (decide (j < i))):=Ab fun _ _ _ _ _ _ _ q=>gt_int q
theorem z9 : OpR X (compareOp .Is) (fun x y H Q => y = .non /\ Q (.bl (decide (x = .non))) H) := by
  intro pins s σ H x y v u Q I rx ry h
  obtain ⟨rfl, q⟩ := h
  cases ry
  refine is_none_gen (aZ I q ?_)
  cases x <;> first
    | (cases rx; rfl)
    | (obtain ⟨t, rfl⟩ := rx; rfl)
theorem OpR.or {f:Value->Value->Sem Value} {r r':R2} (h:OpR X f r) (h':OpR X f r'):OpR X f (fun x y H Q=>r x y H Q\/r' x y H Q):=by
  intro pins s σ H x y v u Q I rx ry q
  rcases q with q | q
  · exact h pins s σ H x y v u Q I rx ry q
  · exact h' pins s σ H x y v u Q I rx ry q
theorem aQ (b : Expr) {op : CmpOp} (h : op ≠ .In := by decide) (h2 : op ≠ .NotIn := by decide) : behindInMarks op b = false := by
  have e1 : (op == CmpOp.In) = false := by cases op <;> first | rfl | exact absurd rfl h
  have e2 : (op == CmpOp.NotIn) = false := by cases op <;> first | rfl | exact absurd rfl h2
  cases b <;> simp [behindInMarks, e1, e2]
theorem xB {op:CmpOp} {r:R2} (ho:OpR X (compareOp op) r) (ha:PE X a ta) (hb:PE X b tb) (hm:behindInMarks op b=false):PE X (.Compare a [op] [b] pos) (tOp r ta tb):=by
  intro pins s σ H Q I h
  exact wpAny_Compare1 (AB ha hb I h fun v u s2 x y H2 I2 rx ry q=>ho pins s2 σ H2 x y v u Q I2 rx ry q) hm
noncomputable def yl (t:TE):TT:=fun σ H Q=>t σ H fun x H'=>∃ k,x=.bl k/\Q k H'
theorem xq {op:CmpOp} {r:R2} (ho:OpR X (compareOp op) r) (ha:PE X a ta) (hb:PE X b tb) (hm:behindInMarks op b=false):PT X (.Compare a [op] [b] pos) (yl (tOp r ta tb)):=by
  intro pins s σ H Q I h
  refine wpAny_isTrue_Compare1 (thn (ha pins s σ H _ I h) fun v s1 ⟨x,H1,I1,r1,q1⟩=>thn (hb pins s1 σ H1 _ I1 q1) fun u s2 ⟨y,H2,I2,r2,q2⟩ =>
    thn (ho pins s2 σ H2 x y v u _ I2 r1 r2 q2) fun c s3 ⟨z,H3,I3,r3,k,e,q3⟩=>?_) hm
  subst e
  cases r3
  exact Bq ⟨H3,I3,q3⟩
noncomputable def mV (r r':R2) (ta tb tc:TE):TE:=fun σ H Q=>ta σ H fun x H1=>tb σ H1 fun y H2=>r x y H2 fun z H3=>∃ k,z=.bl k /\
  (if k=true then tc σ H3 fun w' H4=>r' y w' H4 Q else Q (.bl false) H3)
theorem pi {op op':CmpOp} {r r':R2} (ho:OpR X (compareOp op) r) (ho':OpR X (compareOp op') r') (ha:PE X a ta) (hb:PE X b tb) (hc:PE X c tc)
    (hm:lastMarks [op,op'] [b,c]=false:=by with_unfolding_all rfl):PE X (.Compare a [op,op'] [b,c] pos) (mV r r' ta tb tc):=by
  intro pins s σ H Q I h
  refine Compare_chain (thn (ha pins s σ H _ I h) fun v s1 ⟨x,H1,I1,r1,q1⟩=>chain_link (thn (hb pins s1 σ H1 _ I1 q1) fun u s2 ⟨y,H2,I2,r2,q2⟩ =>
    thn (ho pins s2 σ H2 x y v u _ I2 r1 r2 q2) fun d s3 ⟨z,H3,I3,r3,k,e,q3⟩=>?_)) hm
  subst e
  cases r3
  refine Bq ?_
  cases k with
  | false=>exact ite_ff ⟨.bl false,H3,I3,rfl,q3⟩
  | true=>exact ite_tt (chain_last (thn (hc pins s3 σ H3 _ I3 q3) fun w' s4 ⟨z',H4,I4,r4,q4⟩=>ho' pins s4 σ H4 y z' u w' Q I4 r2 r4 q4))
theorem vi {op op':CmpOp} {r r':R2} (ho:OpR X (compareOp op) r) (ho':OpR X (compareOp op') r') (ha:PE X a ta) (hb:PE X b tb) (hc:PE X c tc)
    (hm:lastMarks [op,op'] [b,c]=false:=by with_unfolding_all rfl):PT X (.Compare a [op,op'] [b,c] pos) (yl (mV r r' ta tb tc)):=by
  intro pins s σ H Q I h
  refine isTrue_chain (thn (ha pins s σ H _ I h) fun v s1 ⟨x,H1,I1,r1,q1⟩=>test_link (thn (hb pins s1 σ H1 _ I1 q1) fun u s2 ⟨y,H2,I2,r2,q2⟩ =>
    thn (ho pins s2 σ H2 x y v u _ I2 r1 r2 q2) fun d s3 ⟨z,H3,I3,r3,k,e,q3⟩=>?_)) hm
  subst e
  cases r3
  refine Bq ?_
  cases k with
  | false =>
    obtain ⟨k',e',q'⟩:=q3
    cases e'
    exact ite_ff ⟨H3,I3,q'⟩
  | true =>
    refine ite_tt (test_last (thn (hc pins s3 σ H3 _ I3 q3) fun w' s4 ⟨z',H4,I4,r4,q4⟩=>thn (ho' pins s4 σ H4 y z' u w' _ I4 r2 r4 q4) fun d' s5 ⟨z2,H5,I5,r5,k2,e2,q5⟩=>?_))
    subst e2
    cases r5
    exact Bq ⟨H5,I5,q5⟩
theorem nG:(sizeLine:Nat) < 2 ^ 63:=by rw [sizeLine_eq];decide
theorem op_add_str:OpR X (binaryOp .Add) (fun x y H Q=>∃ i j,x=.str i/\y=.str j/\i.length+j.length<=sizeLine/\Q (.str (i ++ j)) H):=by
  intro pins s σ H x y v u Q I rx ry h
  obtain ⟨i,j,rfl,rfl,hz,q⟩:=h
  obtain ⟨t,rfl⟩:=rx
  obtain ⟨t',rfl⟩:=ry
  exact add_str (fun t' tk=>⟨.str (i ++ j),H,I.tok _,⟨_,rfl⟩,q⟩) hz
theorem jJ {x:V} {us:List Value} (r:Vals [x] us):∃ u,us=[u]/\RelV x u:=by
  cases r with
  | cons r1 r2=>cases r2;exact ⟨_,rfl,r1⟩
theorem kH {x y:V} {us:List Value} (r:Vals [x,y] us):∃ u w',us=[u,w']/\RelV x u/\RelV y w':=by
  cases r with
  | cons r1 r2 =>
    cases r2 with
    | cons r3 r4=>cases r4;exact ⟨_,_,rfl,r1,r3⟩
theorem ux (hc:X.calm=true):CallR X (.builtin "max") (fun xs H Q=>∃ i j,xs=[.int i,.int j]/\Q (.int (if j > i then j else i)) H):=by
  intro pins s σ H xs us Q I r h
  obtain ⟨i,j,rfl,q⟩:=h
  obtain ⟨u,w',rfl,⟨t,rfl⟩,⟨t',rfl⟩⟩:=kH r
  refine max_two_ints (I.ok.hd hc) fun h' tk k=>⟨_,H,I.kept k,?_,q⟩
  by_cases hj:j > i
  · rw [if_pos hj,if_pos hj];exact ⟨_,rfl⟩
  · rw [if_neg hj,if_neg hj];exact ⟨_,rfl⟩
theorem uq (hc:X.calm=true):CallR X (.builtin "min") (fun xs H Q=>∃ i j,xs=[.int i,.int j]/\Q (.int (if j < i then j else i)) H):=by
  intro pins s σ H xs us Q I r h
  obtain ⟨i,j,rfl,q⟩:=h
  obtain ⟨u,w',rfl,⟨t,rfl⟩,⟨t',rfl⟩⟩:=kH r
  refine min_two_ints (I.ok.hd hc) fun h' tk k=>⟨_,H,I.kept k,?_,q⟩
  by_cases hj:j < i
  · rw [if_pos hj,if_pos hj];exact ⟨_,rfl⟩
  · rw [if_neg hj,if_neg hj];exact ⟨_,rfl⟩
theorem p6:CallR X (.builtin "divmod") (fun xs H Q=>∃ i j,xs=[.int i,.int j]/\uG i j/\∀ p,H p=none->Q (.ref p) (upd H p (.tup [.int (i / j),.int (i % j)]))):=by
  intro pins s σ H xs us Q I r h
  obtain ⟨i,j,rfl,⟨h1,h2⟩,q⟩:=h
  obtain ⟨u,w',rfl,⟨t,rfl⟩,⟨t',rfl⟩⟩:=kH r
  refine divmod_int (by omega) ?_ (.inl (PyProof.noPylong_small (by omega)))
  rw [Int.fdiv_eq_ediv_of_nonneg i (by omega),Int.fmod_eq_emod_of_nonneg i (by omega)]
  have hn:H s.heap.objs.size=none:=I.hok.fresh (A4 _)
  refine ⟨.ref s.heap.objs.size,_,?_,rfl,q _ hn⟩
  refine I.laid (fun b o e=>AN _ e) (A4 _) ⟨by simp only [Be,List.length_nil];rw [sizeLine_eq];decide,[.int (i / j) s.toks,.int (i % j) (s.toks+1)],.cons ⟨_,rfl⟩ (.cons ⟨_,rfl⟩ .nil),?_⟩
  exact ⟨_,AW s.heap rfl,rfl,0,rfl⟩
end
end L2
namespace L2
open PySem PySem.Spec PyProof.Rows
theorem RelO.some_of {v:V} {o:Option Value} (r:RelO (some v) o):∃ u,o=some u/\RelV v u:=by
  cases o with
  | none=>exact (show False from r).elim
  | some u=>exact ⟨u,rfl,r⟩
end L2
namespace L2
open PySem PySem.Spec PyProof.Rows
structure Room (k:Nat) (A:Around):Prop where
  hd:A.handled=none
  dp:A.depth+3 * k+5 < recursionLimit
  un:A.units+16 * k+200 < cLine
  gd:A.guards=some []
theorem Room.mono {j k:Nat} {A:Around} (r:Room k A) (h:j<=k):Room j A:=⟨r.hd,by have:=r.dp;omega,by have:=r.un;omega,r.gd⟩
theorem Room.deeper {k:Nat} {A:Around} (r:Room (k+1) A) (env:Env):Room k (A.deeper env) :=
  ⟨r.hd,by have:=r.dp;show A.depth+1+3 * k+5 < _;omega,by have:=r.un;show A.units+3+16 * k+200 < _;omega,r.gd⟩
theorem Room.depth {k:Nat} {A:Around} (r:Room k A):A.depth < recursionLimit:=by have:=r.dp;omega
theorem Room.units {k:Nat} {A:Around} (r:Room k A):A.units+64 < cLine:=by have:=r.un;omega
noncomputable def wO:TA:=fun _ H Q=>Q [] H
noncomputable def oP (ta:TE) (tr:TA):TA:=fun σ H Q=>ta σ H fun x H1=>tr σ H1 fun xs H2=>Q (x :: xs) H2
section
variable {X:Cx} {e:Expr} {es:List Expr} {te:TE} {t:TA} {pos:Pos}
theorem nt:PA X [] wO:=fun _ _ _ _ H Q I h=>Calls.spliced_nil ⟨[],H,I,.nil,h⟩
theorem gm (ha:PE X e te) (hr:PA X es t) (hs:starEach (e :: es) X.env=(false,eval e X.env) :: starEach es X.env:=by rfl):PA X (e :: es) (oP te t):=by
  intro pos pins s σ H Q I h
  rw [hs]
  show wpAny _ _ (spliced ((false,eval e X.env) :: backTo pos (starEach es X.env))) _ _ s
  refine Calls.spliced_cons (thn (ha pins s σ H _ I h) fun u s1 ⟨x,H1,I1,r1,q1⟩=>?_)
  exact thn (hr pos pins s1 σ H1 _ I1 q1) fun us s2 ⟨xs,H2,I2,r2,q2⟩=>⟨x :: xs,H2,I2,.cons r1 r2,q2⟩
noncomputable def tTup (t:TA):TE:=fun σ H Q=>t σ H fun xs H1=>xs.length<=sizeLine/\∀ p,H1 p=none->Q (.ref p) (upd H1 p (.tup xs))
noncomputable def tLst (t:TA):TE:=fun σ H Q=>t σ H fun xs H1=>xs.length<=sizeLine/\∀ p,H1 p=none->Q (.ref p) (upd H1 p (.lst xs))
theorem zR {x1} (h:PA X es t):PE X (.Tuple es x1 pos) (tTup t):=by
  intro pins s σ H Q I hq
  refine wpAny_Tuple_spliced (thn (h pos pins s σ H _ I hq) fun us s1 ⟨xs,H1,I1,r,z,q⟩=>⟨by rw [<- r.length];exact z,?_⟩)
  have hf:H1 s1.heap.objs.size=none:=I1.hok.fresh (A4 _)
  refine ⟨.ref s1.heap.objs.size,upd H1 s1.heap.objs.size (.tup xs),I1.laid (t':=s1.toks) (fun b u e=>AN _ e) (A4 _) ?_,rfl,q _ hf⟩
  exact ⟨z,us,r,⟨_,AW _ rfl,rfl,_,rfl⟩⟩
theorem zW (h:PA X es t):PE X (.List es pos) (tLst t):=by
  intro pins s σ H Q I hq
  refine wpAny_List_spliced (thn (h pos pins s σ H _ I hq) fun us s1 ⟨xs,H1,I1,r,z,q⟩=>⟨by rw [<- r.length];exact z,?_⟩)
  have hf:H1 s1.heap.objs.size=none:=I1.hok.fresh (A4 _)
  refine ⟨.ref s1.heap.objs.size,upd H1 s1.heap.objs.size (.lst xs),I1.laid (t':=s1.toks) (fun b u e=>AN _ e) (A4 _) ?_,rfl,q _ hf⟩
  exact ⟨z,us,0,r,AW _ rfl⟩
end
noncomputable abbrev Sp:=List V->Hp->VK->XK->Prop
noncomputable abbrev CXT:=List Env->Hp->Shared->XK->Value->Shared->Prop
structure Env0 (P:Program) (w:World) (K:FG) (mg:Str->Option Value) (base:Heap) (A:Around) (outer:List Env) (s:Shared) (H:Hp):Prop where
  frames:A.frames=some outer
  mod:Mod K mg base
  bs:∀ b o,base.get? b=some o->s.heap.get? b=some o/\H b=none
  bsz:base.objs.size<=s.heap.objs.size
  funs:s.heap.FunFrames base outer
  frf:∀ b ∈ frs outer,H b=none
  hok:HOk P w H s.heap
  bare:AllBare s.gens
noncomputable def CE (outer:List Env) (P:Program) (w:World) (H:Hp) (s:Shared) (Q:VK) (u:Value) (s':Shared):Prop :=
  ∃ v H',s'.os=s.os/\AllBare s'.gens/\Un (frs outer) [] H H' s.heap s'.heap/\HOk P w H' s'.heap/\RelV v u/\Q v H'
noncomputable def CR (CX:CXT) (outer:List Env) (P:Program) (w:World) (H:Hp) (s:Shared) (Q:VK) (E:XK) (r:Result) (s':Shared):Prop :=
  match r with
  | .ok (.ret u)=>CE outer P w H s Q u s'
  | .ok _=>False
  | .error e=>CX outer H s E e s'
structure FnOk (P:Program) (w:World) (K:FG) (mg:Str->Option Value) (base:Heap) (CX:CXT) (k:Nat) (f:Addr) (fd:FuncData) (ps:List Str) (sp:Sp):Prop where
  len:∀ vs H Q E,sp vs H Q E->vs.length=ps.length
  run:∀ (A:Around) (outer:List Env) (s:Shared) (H:Hp) (args:Args) (us:List Value) (vs:List V) (Q:VK) (E:XK),Room k A->Env0 P w K mg base A outer s H->BindsTo s fd args (ps.zip us)->Vals vs us->sp vs H Q E ->
    codeAny (model P w) A (.call (.ref f) args) (CR CX outer P w H s Q E) s
theorem FnOk.imp {P:Program} {w:World} {K:FG} {mg:Str->Option Value} {base:Heap} {CX:CXT} {k:Nat} {f:Addr} {fd:FuncData} {ps:List Str} {sp sp':Sp} (F:FnOk P w K mg base CX k f fd ps sp)
    (h:∀ vs H Q E,sp' vs H Q E->sp vs H Q E):FnOk P w K mg base CX k f fd ps sp' :=
  ⟨fun vs H Q E q=>F.len vs H Q E (h _ _ _ _ q),fun A outer s H args us vs Q E hr he hb hv hs=>F.run A outer s H args us vs Q E hr he hb hv (h _ _ _ _ hs)⟩
section
variable {X:Cx} {pins:List (Addr × Obj)} {σ:St} {H:Hp} {s s':Shared}
theorem Inv.env0 (I:Inv X pins σ H s):Env0 X.prog X.w X.K X.mg X.base X.A X.stack s H :=
  ⟨I.ok.frames,I.ok.mod,I.bs,Br I.ok.bsz I.sz,I.stack,I.stkFree,I.hok,I.bare⟩
theorem Inv.after {Q:VK} {u:Value} (I:Inv X pins σ H s) (h:CE X.stack X.prog X.w H s Q u s'):EP X pins σ Q u s':=by
  obtain ⟨v,H',os,bare,un,hok,r,q⟩:=h
  obtain ⟨hh,g,d,t,os'⟩:=s'
  obtain rfl:os'=s.os:=os
  exact ⟨v,H',I.call (h':=hh) (g':=g) (d':=d) (t':=t) (ch:=[]) un hok bare (fun b z=>absurd z (by simp)),r,q⟩
end
noncomputable def tCall (sp:Sp) (dvs:List V) (E:XK) (t:TA):TE:=fun σ H Q=>t σ H fun vs H1=>sp (vs ++ dvs) H1 Q E
noncomputable def Binds (K:FG) (fd:FuncData) (ps:List Str) (ds:List Value):Prop :=
  ∀ (s:Shared) (us:List Value),K.In s.heap->(us ++ ds).length=ps.length->BindsTo s fd ⟨us,[]⟩ (ps.zip (us ++ ds))
theorem Binds.all {K:FG} {fd:FuncData} {ps:List Str} (h:∀ us:List Value,us.length=ps.length->bindArgs fd ⟨us,[]⟩=pure (ps.zip us)):Binds K fd ps []:=fun s us _ hl=>by
  rw [List.append_nil] at hl ⊢
  exact .of_eq (h us hl)
noncomputable def rq (CX:CXT) (X:Cx) (E:XK):Prop:=∀ (pins:List (Addr × Obj)) (σ:St) (H:Hp) (s:Shared) (e:Value) (s':Shared),Inv X pins σ H s->CX X.stack H s E e s'->X.xe e s'
section
variable {X:Cx} {CX:CXT} {k:Nat} {f C:Addr} {fd:FuncData} {ps:List Str} {sp:Sp} {dvs:List V} {ds:List Value} {E:XK} {x m:Str} {p pos apos:Pos} {e o:Expr} {es:List Expr} {ta:TE} {t:TA}
set_option tactic.hygienic true in
theorem zx {pins:List (Addr × Obj)} {σ:St} {H:Hp} {s:Shared} {Q:VK} {us:List Value} {vs:List V} (F:FnOk X.prog X.w X.K X.mg X.base CX k f fd ps sp) (hr:Room k X.A) (hb:Binds X.K fd ps ds) (hd:Vals dvs ds) (hx:rq CX X E)
    (I:Inv X pins σ H s) (r:Vals vs us) (h:sp (vs ++ dvs) H Q E):wpAny (model X.prog X.w) X.A (call (.ref f) us) (EP X pins σ Q) X.xe s:=by
  have r2:Vals (vs ++ dvs) (us ++ ds):=r.append hd
  have hl:(us ++ ds).length=ps.length:=by rw [<- r2.length];exact F.len _ _ _ _ h
  refine wpAny_call (codeAny_mono (F.run X.A X.stack s H ⟨us,[]⟩ (us ++ ds) (vs ++ dvs) Q E hr I.env0 (hb s us I.kIn hl) r2 h) fun r s' hq=>?_)
  cases r with
  | error e=>exact hx pins σ H s e s' I hq
  | ok fl =>
    cases fl with
    | ret u=>exact I.after hq
    | next=>exact False.elim hq
    | brk=>exact False.elim hq
    | cont=>exact False.elim hq
theorem xC (F:FnOk X.prog X.w X.K X.mg X.base CX k f fd ps sp) (hr:Room k X.A) (hg:Gl X x) (hm:X.mg x=some (.ref f)) (hk:PySem.W.keepIn X.K (.ref f)=true) (hb:Binds X.K fd ps ds) (hd:Vals dvs ds) (hx:rq CX X E)
    (ha:PA X (e :: es) t) (hdb:(x == ("__debug__":Str))=false:=by decide) (he:starEach (e :: es) X.env=(false,eval e X.env) :: starEach es X.env:=by rfl) (hpl:(backTo pos (starEach es X.env)).any (·.1)=false:=by rfl) :
    PE X (.Call (.Name x p) (e :: es) [] pos) (tCall sp dvs E t):=by
  intro pins s σ H Q I h
  refine wpAny_Call_Name_kw (gq I hg hm ?_ hdb)
  refine PySem.W.callWith_K (h₀:=X.base) I.ok.mod.kin hk (thn (ha pos pins s σ H _ I h) fun us s1 ⟨vs,H1,I1,r,q⟩=>⟨I1.kIn,?_⟩) he hpl
  exact zx F hr hb hd hx I1 r q
end
noncomputable def PK (X:Cx) (kws:List Keyword) (t:TA):Prop :=
  ∀ (pos:Pos) (pins:List (Addr × Obj)) (s:Shared) (σ:St) (H:Hp) (Q:List V->Hp->Prop),Inv X pins σ H s->t σ H Q->wpAny (model X.prog X.w) X.A (evalAll ((backToKw pos (keywordEach kws X.env)).map (·.2))) (AP X pins σ Q) X.xe s
section
variable {X:Cx} {CX:CXT} {k:Nat} {f C:Addr} {fd:FuncData} {ps ks:List Str} {sp:Sp} {E:XK} {x m:Str} {p pos apos kpos:Pos} {e o:Expr} {es:List Expr} {kws:List Keyword} {te ta:TE} {t tk:TA} {nm:Option Str}
theorem zN:PK X [] wO:=fun _ _ _ _ H Q I h=>wpAny_evalAll_nil ⟨[],H,I,.nil,h⟩
theorem xw (ha:PE X e te) (hr:PK X kws t):PK X (⟨nm,e,kpos⟩ :: kws) (oP te t):=by
  intro pos pins s σ H Q I h
  show wpAny _ _ (evalAll ((do let v <- eval e X.env;standAt pos;pure v) :: (backToKw pos (keywordEach kws X.env)).map (·.2))) _ _ s
  refine wpAny_evalAll_cons (AI (thn (ha pins s σ H _ I h) fun u s1 ⟨x,H1,I1,r1,q1⟩=>AI (wpAny_standAt (AJ ?_))))
  exact thn (hr pos pins s1 σ H1 _ I1 q1) fun us s2 ⟨xs,H2,I2,r2,q2⟩=>⟨x :: xs,H2,I2,.cons r1 r2,q2⟩
variable {g:List Value->List Value->List Value} {gV:List V->List V->List V}
end
structure FnScope (N P:List Str) (sc:Scope):Prop where
  kind:sc.kind=.function
  co:sc.isCoroutine=false
  gen:sc.isGenerator=false
  nd:N.Nodup
  pre:N.take P.length=P
  par:∀ x ∈ P,sc.names.lookup x=some .local\/sc.names.lookup x=some .cell
  nofree:∀ y ∈ sc.names,y.2 ≠ .free
theorem mO {kindOf:Str->Option NameKind} {x:Str}:∀ {binds:List (Str × Value)} {m:Str->Option Value},(∀ v,(x,v) ∉ binds)->bindL kindOf binds m x=m x
  | [],_,_=>rfl
  | (n,v) :: r,m,h=>by
    unfold bindL
    rw [mO fun w hw=>h w (AM _ hw)]
    split
    · have:x ≠ n:=by rintro rfl;exact h v AL
      simp [this]
    · rfl
theorem mQ {kindOf:Str->Option NameKind} {x:Str}:∀ {binds:List (Str × Value)} {m:Str->Option Value},(∀ v,(x,v) ∉ binds)->bindC kindOf binds m x=m x
  | [],_,_=>rfl
  | (n,v) :: r,m,h=>by
    unfold bindC
    rw [mQ fun w hw=>h w (AM _ hw)]
    split
    · rfl
    · have:x ≠ n:=by rintro rfl;exact h v AL
      simp [this]
theorem mP {kindOf:Str->Option NameKind} {x:Str} {v:Value}:∀ {P:List Str} {vs:List Value} {i:Nat} {m:Str->Option Value},P.Nodup->P[i]?=some x->vs[i]?=some v->kindOf x=some .local ->
    bindL kindOf (P.zip vs) m x=some v
  | [],_,_,_,_,h,_,_=>by simp at h
  | _ :: _,[],_,_,_,_,h,_=>by simp at h
  | p :: P,w :: vs,0,m,nd,h1,h2,hk=>by
    simp at h1 h2;subst h1;subst h2
    show bindL kindOf ((p,w) :: P.zip vs) m p=_
    unfold bindL
    rw [mO fun v hv=>(List.nodup_cons.mp nd).1 (List.of_mem_zip hv).1,if_pos hk]
    simp
  | p :: P,w :: vs,i+1,m,nd,h1,h2,hk=>by
    show bindL kindOf ((p,w) :: P.zip vs) m x=_
    unfold bindL
    exact mP (i:=i) (List.nodup_cons.mp nd).2 (by simpa using h1) (by simpa using h2) hk
theorem mR {kindOf:Str->Option NameKind} {x:Str} {v:Value}:∀ {P:List Str} {vs:List Value} {i:Nat} {m:Str->Option Value},P.Nodup->P[i]?=some x->vs[i]?=some v->kindOf x ≠ some .local ->
    bindC kindOf (P.zip vs) m x=some v
  | [],_,_,_,_,h,_,_=>by simp at h
  | _ :: _,[],_,_,_,_,h,_=>by simp at h
  | p :: P,w :: vs,0,m,nd,h1,h2,hk=>by
    simp at h1 h2;subst h1;subst h2
    show bindC kindOf ((p,w) :: P.zip vs) m p=_
    unfold bindC
    rw [mQ fun v hv=>(List.nodup_cons.mp nd).1 (List.of_mem_zip hv).1,if_neg hk]
    simp
  | p :: P,w :: vs,i+1,m,nd,h1,h2,hk=>by
    show bindC kindOf ((p,w) :: P.zip vs) m x=_
    unfold bindC
    exact mR (i:=i) (List.nodup_cons.mp nd).2 (by simpa using h1) (by simpa using h2) hk
noncomputable def fG (N:List Str) (vs:List V):St:=vs.map some ++ List.replicate (N.length - vs.length) none
noncomputable def dS (CX:CXT) (P:Program) (w:World) (K:FG) (mg:Str->Option Value) (base:Heap) (N:List Str) (qual:Str) (scope:Scope) (f:Addr) (cd:Value) (A:Around) (outer:List Env) (s:Shared) (H:Hp) (E:XK):Cx where
  prog:=P
  w:=w
  K:=K
  mg:=mg
  base:=base
  A:=A.deeper (envOfC qual scope s.heap.objs.size f cd)
  N:=N
  s₀:=s
  H₀:=H
  env:=envOfC qual scope s.heap.objs.size f cd
  outer:=outer
  stack:=envOfC qual scope s.heap.objs.size f cd :: outer
  ex:=[]
  calm:=true
  fn:=fun _=>true
  pn:=[]
  xe:=fun e s'=>wpAny (model P w) (A.deeper (envOfC qual scope s.heap.objs.size f cd)) (leaving (envOfC qual scope s.heap.objs.size f cd) e) (fun _ s''=>CX outer H s E e s'') (fun e' s''=>CX outer H s E e' s'') s'
theorem p5 {sc:Scope} {n:Nat} {x:Str} (h:sc.names.lookup x=some .cell):∃ c,(cellsFrom n sc.names []).lookup x=some c:=by
  have q:=PySem.W.cellsFrom_some sc.names n [] (.inl h)
  exact Option.isSome_iff_exists.mp q
theorem mH {CX:CXT} {P:Program} {w:World} {K:FG} {mg:Str->Option Value} {base:Heap} {N ps:List Str} {qual:Str} {scope:Scope} {f:Addr} {cd:Value} {A:Around} {outer:List Env} {s s1:Shared} {H:Hp} {E:XK} {us:List Value} {vs:List V}
    (S:FnScope N ps scope) (hd:A.handled=none) (e0:Env0 P w K mg base A outer s H) (hl:vs.length=ps.length) (r:Vals vs us)
    (x:InCallC s s.heap.objs.size (bindL (envOfC qual scope s.heap.objs.size f cd).kindOf (ps.zip us) fun _=>none) (cellsFrom (s.heap.objs.size+1) scope.names []) (bindC (envOfC qual scope s.heap.objs.size f cd).kindOf (ps.zip us) fun _=>none) s1) :
    Inv (dS CX P w K mg base N qual scope f cd A outer s H E) [] (fG N vs) H s1:=by
  have hpl:ps.length<=N.length:=by have:=congrArg List.length S.pre;rw [Bf] at this;omega
  obtain ⟨h1,tk,rfl,hk⟩:=x.done
  have noA:∀ b:Addr,b ∉ (dS CX P w K mg base N qual scope f cd A outer s H E).ex:=fun b z=>absurd (show b ∈ ([]:List Addr) from z) (by simp)
  refine ⟨⟨e0.mod,S.kind,rfl,rfl,A4 _,fun y z c h1 h2=>?_,fun y hy=>?_,fun y c _ h=>?_,fun _=>hd,Around.frames_deeper e0.frames,.inr ⟨rfl,rfl⟩,fun b z=>absurd z (noA b),e0.bs,e0.bsz,fun b _ _=>noA b,fun b z=>absurd z (noA b),e0.funs,e0.frf⟩,
    rfl,e0.bare,Un.kept hk,⟨_,x.toInCall.ns,fun i y v h1 h2 h3=>?_⟩,fun y c h=>⟨_,x.cell y c h⟩,e0.hok.fresh (A4 _),fun y c h=>?_,fun p hp=>absurd (show p ∈ ([]:List (Addr × Obj)) from hp) (by simp),e0.hok.kept hk,?_⟩
  · exact name_of_addr x.apart (PySem.mem_of_lookup h1) (PySem.mem_of_lookup h2)
  · have hy:scope.names.lookup y=some .cell\/scope.names.lookup y=some .free:=hy
    rcases hy with hy | hy
    · exact p5 hy
    · exact absurd rfl (S.nofree _ (PySem.mem_of_lookup hy))
  · exact Nat.le_of_lt (x.above y c (PySem.mem_of_lookup h))
  · have hi:i < vs.length:=by
      unfold fG at h2
      by_cases hi:i < vs.length
      · exact hi
      · rw [List.getElem?_append_right (by simpa using hi)] at h2
        rw [List.getElem?_replicate] at h2
        split at h2 <;> cases h2
    have ha:vs[i]?=some v:=by
      unfold fG at h2
      rw [Bm (by simpa using hi),A3] at h2
      cases e:vs[i]? with
      | none=>rw [e] at h2;cases h2
      | some a=>rw [e] at h2;cases h2;rfl
    obtain ⟨u,hu,rv⟩:=r.get ha
    have hp:ps[i]?=some y:=by
      rw [<- S.pre,List.getElem?_take_of_lt (by omega)];exact h1
    have ndP:ps.Nodup:=by rw [<- S.pre];exact S.nd.sublist (List.take_sublist _ _)
    refine ⟨u,rv,?_⟩
    rcases S.par y (AZ hp) with k | k
    · exact .inl ⟨k,mP ndP hp hu k⟩
    · obtain ⟨c,e⟩:=p5 (n:=s.heap.objs.size+1) k
      refine .inr ⟨.inl k,c,e,?_⟩
      have q:=x.cell y c e
      rw [mR ndP hp hu (by show scope.names.lookup y ≠ _;rw [k];decide)] at q
      exact q
  · exact e0.hok.fresh (Nat.le_of_lt (x.above y c (PySem.mem_of_lookup h)))
  · unfold fG
    show _=N.length
    rw [Bd,AX,List.length_replicate]
    omega
set_option tactic.hygienic true in
theorem yP {CX:CXT} {P:Program} {w:World} {K:FG} {mg:Str->Option Value} {base:Heap} {k:Nat} {f:Addr} {name qual:Str} {params:Arguments} {body:List Stmt} {scope:Scope} {dV kV doc pm cdv ct oc:Value} {an od:Option Addr}
    {osl:Array (Option Value)} {N ps:List Str} {sp:Sp} (lk:K.lookup f=some ⟨oc,od,.func (PySem.W.fnOf name qual params body scope dV kV doc pm an cdv ct),osl⟩) (hcd:PySem.W.codeIn K cdv qual=true) (S:FnScope N ps scope)
    (len:∀ vs H Q E,sp vs H Q E->vs.length=ps.length)
    (hbody:∀ (A:Around) (outer:List Env) (s:Shared) (H:Hp) (vs:List V) (Q:VK) (E:XK),Room k (A.deeper (envOfC qual scope s.heap.objs.size f cdv))->sp vs H Q E ->
      ∃ t,PSs (dS CX P w K mg base N qual scope f cdv A outer s H E) body t/\t { nx:=fun _ H'=>Q .non H',rt:=Q } (fG N vs) H) :
    FnOk P w K mg base CX (k+1) f (PySem.W.fnOf name qual params body scope dV kV doc pm an cdv ct) ps sp:=by
  refine ⟨len,fun A outer s H args us vs Q E hr e0 hb r hsp=>?_⟩
  have hl:=len _ _ _ _ hsp
  have KX:K.In s.heap:=e0.mod.kin.keeps fun b o e=>(e0.bs b o e).1
  have lim:s.heap.NoLimit:=e0.mod.nolimit.keeps fun b o e=>(e0.bs b o e).1
  have hkind:∀ y ∈ ps.zip us,scope.names.lookup y.1=some .local\/(scope.names.lookup y.1=some .cell/\((cellsFrom (s.heap.objs.size+1) scope.names []).lookup y.1).isSome=true):=fun ⟨n,v⟩ hy=>by
    rcases S.par n (List.of_mem_zip hy).1 with q | q
    · exact .inl q
    · exact .inr ⟨q,PySem.W.cellsFrom_some _ _ _ (.inl q)⟩
  refine codeAny_call_function hr.depth (KX _ _ lk) rfl S.co S.gen rfl (PySem.W.codeRec_of KX hcd) (hb _ _ _ _ ?_)
  refine wpAny_newFunctionEnv_cells S.kind hkind fun env he s1 x=>?_
  subst he
  refine ⟨lim.keeps x.toInCall.keep,codeAny_func ?_⟩
  obtain ⟨t,ht,hq⟩:=hbody A outer s H vs Q E (hr.deeper _) hsp
  have I:Inv (dS CX P w K mg base N qual scope f cdv A outer s H E) [] (fG N vs) H s1:=mH S hr.hd e0 hl r x
  refine wpAny_mono (ht [] s1 (fG N vs) H _ I hq) (fun fl s' hs=>?_) fun e s' hs=>hs
  have fin:∀ {σ':St} {H':Hp} {v:V} {u:Value},Inv (dS CX P w K mg base N qual scope f cdv A outer s H E) [] σ' H' s'->RelV v u->Q v H'->CE outer P w H s Q u s' :=
    fun {σ' H' v u} J rv q=>⟨v,H',J.os,J.bare,J.base,J.hok,rv,q⟩
  cases fl with
  | ret u =>
    obtain ⟨v,σ',H',J,rv,q⟩:=hs
    exact fin J rv q
  | next =>
    obtain ⟨σ',H',J,q⟩:=hs
    exact fin (v:=V.non) (u:=Value.none) J rfl q
  | brk =>
    obtain ⟨_,_,_,q⟩:=hs
    exact False.elim q
  | cont =>
    obtain ⟨_,_,_,q⟩:=hs
    exact False.elim q
end L2
namespace L2
open PySem PySem.Spec PyProof.Rows
section
variable {X:Cx} {x:Str} {p pos:Pos} {e:Expr} {es:List Expr} {t:TA} {id T:String} {r:List V->Hp->VK->Prop}
noncomputable def tCB (r:List V->Hp->VK->Prop) (t:TA):TE:=fun σ H Q=>t σ H fun vs H1=>r vs H1 Q
theorem iz (hc:CallR X (.builtin id) r) (hg:Gl X x) (hm:X.mg x=none) (hv:bootBuiltins x=some (.builtin id)) (ha:PA X (e :: es) t) (hn:x ≠ "__name__":=by decide) (hdb:(x == ("__debug__":Str))=false:=by decide)
    (he:starEach (e :: es) X.env=(false,eval e X.env) :: starEach es X.env:=by rfl) (hpl:(backTo pos (starEach es X.env)).any (·.1)=false:=by rfl):PE X (.Call (.Name x p) (e :: es) [] pos) (tCB r t):=by
  intro pins s σ H Q I h
  refine wpAny_Call_Name_kw (eJ I hg hm hv ?_ hn hdb)
  exact PyProof.Rows.callWith_builtin1 (thn (ha pos pins s σ H _ I h) fun us s1 ⟨vs,H1,I1,r1,q1⟩=>hc pins s1 σ H1 vs us Q I1 r1 q1) he hpl
theorem tf (hc:CallR X (.type T) r) (hg:Gl X x) (hm:X.mg x=none) (hv:bootBuiltins x=some (.type T)) (ha:PA X (e :: es) t) (hn:x ≠ "__name__":=by decide) (hdb:(x == ("__debug__":Str))=false:=by decide)
    (he:starEach (e :: es) X.env=(false,eval e X.env) :: starEach es X.env:=by rfl) (hpl:(backTo pos (starEach es X.env)).any (·.1)=false:=by rfl):PE X (.Call (.Name x p) (e :: es) [] pos) (tCB r t):=by
  intro pins s σ H Q I h
  refine wpAny_Call_Name_kw (eJ I hg hm hv ?_ hn hdb)
  exact PyProof.Rows.callWith_type1 (thn (ha pos pins s σ H _ I h) fun us s1 ⟨vs,H1,I1,r1,q1⟩=>hc pins s1 σ H1 vs us Q I1 r1 q1) he hpl
end
end L2
namespace HT
open PySem PyProof.Rows
section
open PySem.SeqAt
open PySem.AutoSeq1 (wpAny_loadPart')
open PySem.MeetsSeq PySem.MeetsSeq2 PySem.MeetsSeq3
end
section
variable {prog:Program} {w:World} {A:Around} {E:Value->Shared->Prop} {s:Shared}
theorem cat_tup {t b:Addr} {vs ws:List Value} {Q:Value->Shared->Prop} (ht:IsTup s.heap t vs.toArray) (hb:IsTup s.heap b ws.toArray) (hv:vs ≠ [])
    (h1:ws=[]->Q (.ref t) s) (h2:ws ≠ []->Q (.ref s.heap.objs.size) { s with heap:=s.heap.push { cls:=.type "tuple",data:=.seq (vs ++ ws).toArray } })
    (hsz:vs.length+ws.length<=sizeLine):wpAny (model prog w) A (binaryOp .Add (.ref t) (.ref b)) Q E s:=by
  obtain ⟨⟨cls,dd,data,sl⟩,ho,hc,n,hd⟩:=id ht
  obtain ⟨⟨cls2,dd2,data2,sl2⟩,ho2,hc2,n2,hd2⟩:=id hb
  simp only at hc hd hc2 hd2
  subst hc hd hc2 hd2
  have e:vs.toArray ++ ws.toArray=(vs ++ ws).toArray:=by simp
  by_cases hw:ws=[]
  · exact concat_meets ⟨_,ho,rfl⟩ ⟨_,ho2,rfl⟩ noFill_tuple_add seq_tuple_add PySem.F.slot_tuple_add PySem.F.entry_tuple_add (PySem.F.args_tuple_add_2 _ _)
      (tuple_addW1 t b vs.toArray ws.toArray n n2 dd dd2 sl sl2 (by simpa using hv) (by simp [hw])) ⟨ho,ho2,h1 hw⟩
  · refine concat_meets ⟨_,ho,rfl⟩ ⟨_,ho2,rfl⟩ noFill_tuple_add seq_tuple_add PySem.F.slot_tuple_add PySem.F.entry_tuple_add (PySem.F.args_tuple_add_2 _ _)
      (tuple_addW2 t b vs.toArray ws.toArray n n2 dd dd2 sl sl2 (by simpa using hv) (by simpa using hw) (by rw [A7,A7];exact hsz)) ⟨ho,ho2,?_⟩
    rw [e]
    exact h2 hw
noncomputable def sIx (n d:Nat):Option Int->Nat
  | none=>d
  | some v=>if v < 0 then (v+(n:Int)).toNat else min v.toNat n
theorem zu (n d:Nat) (hd:d<=n) (o:Option Int):sIx n d o<=n:=by
  cases o with
  | none=>exact hd
  | some v =>
    show (if v < 0 then (v+(n:Int)).toNat else min v.toNat n)<=n
    by_cases hv:v < 0
    · rw [if_pos hv];omega
    · rw [if_neg hv];exact Nat.min_le_right _ _
theorem sy (v:Int) (n d:Nat):(if v < 0 then max (v+(n:Int)) 0 else min v (n:Int))=((sIx n d (some v):Nat):Int):=by
  show (if v < 0 then max (v+(n:Int)) 0 else min v (n:Int))=(((if v < 0 then (v+(n:Int)).toNat else min v.toNat n):Nat):Int)
  by_cases hv:v < 0
  · simp only [if_pos hv];omega
  · simp only [if_neg hv];omega
theorem rp (lo hi:Option Int) (n:Nat):Builtin.Slice.sliceAdjust lo hi 1 (n:Int)=(((sIx n 0 lo:Nat):Int),((sIx n n hi:Nat):Int)):=by
  have h1:¬ ((1:Int) < 0):=by omega
  unfold Builtin.Slice.sliceAdjust
  simp only [h1,if_false]
  refine Prod.ext ?_ ?_
  · cases lo with
    | none=>rfl
    | some v=>exact sy v n 0
  · cases hi with
    | none=>rfl
    | some v=>exact sy v n n
theorem qw (i j:Nat):Builtin.Slice.slicePlaces (i:Int) (j:Int) 1=j - i:=by
  unfold Builtin.Slice.slicePlaces
  have h1:(1:Int) > 0:=by omega
  simp only [h1,if_true,Int.ediv_one]
  split <;> omega
theorem kK {v:Value} {o:Option Int} {Q:Option Int->Shared->Prop} (p:IsPart v o) (h:Q o s):wpAny (model prog w) A (Builtin.Slice.slicePartIndex v) Q E s:=by
  cases p with
  | none=>exact slicePart_none h
  | int i t=>exact slicePart_int h
theorem eP {sl:Addr} {vl vu:Value} {lo hi:Option Int} {n:Nat} {Q:Int × Int × Nat->Shared->Prop} (hs:s.heap.IsSliceOf sl vl vu .none) (pl:IsPart vl lo) (pu:IsPart vu hi)
    (h:Q (((sIx n 0 lo:Nat):Int),1,sIx n n hi - sIx n 0 lo) s):wpAny (model prog w) A (Builtin.Slice.sliceApplied (.ref sl) (pure (n:Int))) Q E s:=by
  obtain ⟨os,hos,hcs,hds⟩:=id hs
  unfold Builtin.Slice.sliceApplied Builtin.Slice.sliceFields
  refine AI (AI (wpAny_field hos hds (x:=vl) rfl (AI (wpAny_field hos hds (x:=vu) rfl (AI (wpAny_field hos hds (x:=.none) rfl (AJ ?_)))))))
  refine AI (slicePart_none ?_)
  show wpAny _ _ (if ((1:Int) == 0)=true then _ else _) _ _ s
  rw [if_neg (by decide)]
  refine AI (kK pl (AI (kK pu (AI (AJ ?_)))))
  show wpAny _ _ (match Builtin.Slice.sliceAdjust lo hi 1 (n:Int) with | (lo,hi)=>pure (lo,(1:Int),Builtin.Slice.slicePlaces lo hi 1)) _ _ s
  rw [rp lo hi n]
  show wpAny _ _ (pure (((sIx n 0 lo:Nat):Int),(1:Int),Builtin.Slice.slicePlaces ((sIx n 0 lo:Nat):Int) ((sIx n n hi:Nat):Int) 1)) _ _ s
  rw [qw]
  exact AJ h
theorem vo (xs:Array Value) (i k:Nat):((List.range k).filterMap fun (m:Nat)=>xs[((i:Int)+(m:Int) * 1).toNat]?).toArray=((xs.toList.drop i).take k).toArray:=by
  have e:(fun (m:Nat)=>xs[((i:Int)+(m:Int) * 1).toNat]?)=fun m=>xs[i+m]?:=by
    funext m
    have:((i:Int)+(m:Int) * 1).toNat=i+m:=by omega
    rw [this]
  rw [e]
  have:=pick_run xs i k
  rw [List.filterMap_map] at this
  have e2:((fun x=>xs[x]?) ∘ fun x=>i+x)=fun m=>xs[i+m]?:=rfl
  rw [e2] at this
  rw [this]
theorem getItem_tuple_cut {t sl:Addr} {items:Array Value} {vl vu:Value} {lo hi:Option Int} {Q:Value->Shared->Prop} (ht:IsTup s.heap t items) (hs:s.heap.IsSliceOf sl vl vu .none) (pl:IsPart vl lo) (pu:IsPart vu hi)
    (hw:¬ (sIx items.size 0 lo=0/\sIx items.size items.size hi=items.size))
    (h:Q (.ref s.heap.objs.size) { s with heap:=s.heap.push { cls:=.type "tuple",data:=.seq ((items.toList.drop (sIx items.size 0 lo)).take (sIx items.size items.size hi - sIx items.size 0 lo)).toArray } })
    (hsz:items.size<=sizeLine):wpAny (model prog w) A (getItem (.ref t) (.ref sl)) Q E s:=by
  have htake:sizeOk (.seq ((items.toList.drop (sIx items.size 0 lo)).take (sIx items.size items.size hi - sIx items.size 0 lo)).toArray):=by
    show ((items.toList.drop (sIx items.size 0 lo)).take (sIx items.size items.size hi - sIx items.size 0 lo)).toArray.size<=sizeLine
    rw [A7,Bf,List.length_drop,Array.length_toList]
    omega
  have hj:sIx items.size items.size hi<=items.size:=zu _ _ (A4 _) hi
  obtain ⟨os,hos,hcs,hds⟩:=id hs
  have hTs:s.TypeIs (.ref sl) "slice":=⟨os,hos,hcs⟩
  unfold getItem
  try with_reducible refine AK ?_
  first | refine AI (AJ ?_) | skip
  refine AI (wpAny_sequenceKey ht.typeIs (by decide) ?_)
  refine AI (wpAny_callSpecial?_slot (name:=Str.ofString "__getitem__") ht.typeIs PyProof.Rows.slot_tuple_getitem
    (wpAny_call_entry PyProof.Rows.slot_tuple_getitem ht.typeIs entry_tuple_getitem ?_ (args_tuple_getitem _ _)))
  show wpAny _ _ (Builtin.Tuple.tupleItemsOf (.ref t) >>= _) _ _ s
  refine AI (tupleItemsOf_ ht ?_)
  refine AI (wpAny_typeOf hTs ?_)
  rw [if_pos (by decide)]
  refine AI (eP hs pl pu ?_)
  have hno:¬ ((((sIx items.size 0 lo:Nat):Int) == 0 && (1:Int) == 1 && (sIx items.size items.size hi - sIx items.size 0 lo) == items.size)=true):=by
    intro q
    rw [Bool.and_eq_true,Bool.and_eq_true] at q
    have q1:((sIx items.size 0 lo:Nat):Int)=0:=eq_of_beq q.1.1
    have q2:sIx items.size items.size hi - sIx items.size 0 lo=items.size:=eq_of_beq q.2
    exact hw ⟨by omega,by omega⟩
  show wpAny _ _ (if (((sIx items.size 0 lo:Nat):Int) == 0 && (1:Int) == 1 && (sIx items.size items.size hi - sIx items.size 0 lo) == items.size)=true then _ else _) _ _ s
  rw [if_neg hno,vo]
  first
    | exact AI (m:=Builtin.Tuple.tupleExact _) (wpAny_newObj_type (AJ ⟨_,rfl,AJ h⟩) htake)
    | exact AI (m:=Builtin.Tuple.tupleExact _) (wpAny_newObj_type (AI (AJ (AJ ⟨_,rfl,AJ h⟩))) htake)
    | exact AI (AI (m:=Builtin.Tuple.tupleExact _) (wpAny_newObj_type (AJ (AJ ⟨_,rfl,AJ h⟩)) htake))
    | exact AI (AI (m:=Builtin.Tuple.tupleExact _) (wpAny_newObj_type (AJ ⟨_,rfl,AJ h⟩) htake))
end
end HT
namespace L2
open PySem PySem.Spec PyProof.Rows
noncomputable abbrev TO:=St->Hp->(Option Int->Hp->Prop)->Prop
noncomputable def PO (X:Cx) (e:Option Expr) (t:TO):Prop :=
  ∀ (pins:List (Addr × Obj)) (s:Shared) (σ:St) (H:Hp) (Q:Option Int->Hp->Prop),Inv X pins σ H s->t σ H Q ->
    wpAny (model X.prog X.w) X.A (evalPart e X.env) (fun u s'=>∃ o H',Inv X pins σ H' s'/\IsPart u o/\Q o H') X.xe s
noncomputable def tPart (t:TE):TO:=fun σ H Q=>t σ H fun x H1=>∃ i,x=.int i/\Q (some i) H1
section
variable {X:Cx} {e:Expr} {te:TE} {lo hi:Option Expr} {tl th:TO} {pos p2:Pos}
theorem xv (h:PE X e te):PO X (some e) (tPart te):=by
  intro pins s σ H Q I hw
  rw [evalPart_some]
  refine thn (h pins s σ H _ I hw) fun u s1 ⟨x,H1,I1,r1,q1⟩=>?_
  obtain ⟨i,rfl,q⟩:=q1
  obtain ⟨t,rfl⟩:=r1
  exact ⟨some i,H1,I1,.int i t,q⟩
noncomputable def SlR (X:Cx) (r:V->Option Int->Option Int->Hp->VK->Prop):Prop :=
  ∀ (pins:List (Addr × Obj)) (s:Shared) (σ:St) (H:Hp) (x:V) (v vl vu:Value) (lo hi:Option Int) (sl:Addr) (Q:VK),Inv X pins σ H s->RelV x v->s.heap.IsSliceOf sl vl vu .none->IsPart vl lo->IsPart vu hi->r x lo hi H Q ->
    ∃ T id,typeLookup (.type T) "__getitem__"=pure (some (.builtin id))/\s.TypeIs v T/\wpAny (model X.prog X.w) X.A (getItem v (.ref sl)) (EP X pins σ Q) X.xe s
theorem SlR.or {r r':V->Option Int->Option Int->Hp->VK->Prop} (h:SlR X r) (h':SlR X r'):SlR X (fun x lo hi H Q=>r x lo hi H Q\/r' x lo hi H Q):=by
  intro pins s σ H x v vl vu lo hi sl Q I rx hs pl pu q
  rcases q with q | q
  · exact h pins s σ H x v vl vu lo hi sl Q I rx hs pl pu q
  · exact h' pins s σ H x v vl vu lo hi sl Q I rx hs pl pu q
noncomputable def tSl (r:V->Option Int->Option Int->Hp->VK->Prop) (te:TE) (tl th:TO):TE:=fun σ H Q=>te σ H fun x H1=>tl σ H1 fun l H2=>th σ H2 fun u H3=>r x l u H3 Q
theorem vq {r:V->Option Int->Option Int->Hp->VK->Prop} (hr:SlR X r) (he:PE X e te) (hl:PO X lo tl) (hu:PO X hi th):PE X (.Subscript e (.Slice lo hi none p2) pos) (tSl r te tl th):=by
  intro pins s σ H Q I h
  refine Subscript_ (thn (he pins s σ H _ I h) fun v s1 ⟨x,H1,I1,r1,q1⟩=>?_)
  refine wpAny_Slice (thn (hl pins s1 σ H1 _ I1 q1) fun vl s2 ⟨l,H2,I2,pl,q2⟩=>thn (hu pins s2 σ H2 _ I2 q2) fun vu s3 ⟨u,H3,I3,pu,q3⟩=>?_)
  rw [evalPart_none]
  refine AJ ?_
  have I4:Inv X pins σ H3 { s3 with heap:=s3.heap.push { cls:=.type "slice",data:=.fields #[vl,vu,.none] } }:=I3.kept (t':=s3.toks) fun b ob q=>AN _ q
  obtain ⟨T,id,hT,ht,hg⟩:=hr pins { s3 with heap:=s3.heap.push { cls:=.type "slice",data:=.fields #[vl,vu,.none] } } σ H3 x v vl vu l u s3.heap.objs.size Q I4 r1 (Heap.IsSliceOf.new ..) pl pu q3
  show wpAny (model X.prog X.w) X.A (subscriptTail e (.Slice lo hi none p2) v (.ref s3.heap.objs.size)) (EP X pins σ Q) X.xe { s3 with heap:=s3.heap.push { cls:=.type "slice",data:=.fields #[vl,vu,.none] } }
  exact tail_any (ops:=[.ref s3.heap.objs.size,v]) ht hT hg (by with_unfolding_all rfl)
noncomputable def p4 (xs:List V) (lo hi:Option Int):List V:=(xs.drop (HT.sIx xs.length 0 lo)).take (HT.sIx xs.length xs.length hi - HT.sIx xs.length 0 lo)
theorem jQ (xs:List V) (lo hi:Option Int):(p4 xs lo hi).length<=xs.length:=by
  unfold p4
  rw [Bf,List.length_drop]
  omega
noncomputable def zD (K:FG):V->Option Int->Option Int->Hp->VK->Prop:=fun x lo hi H Q=>∃ a xs,x=.ref a/\SqT K H a xs /\
  ¬ (HT.sIx xs.length 0 lo=0/\HT.sIx xs.length xs.length hi=xs.length)/\∀ p,H p=none->Q (.ref p) (upd H p (.tup (p4 xs lo hi)))
theorem sl_tup:SlR X (zD X.K):=by
  intro pins s σ H x v vl vu lo hi sl Q I rx hs pl pu h
  obtain ⟨a,xs,rfl,hx,hw,q⟩:=h
  cases rx
  obtain ⟨its,r,ht,hz⟩:=I.tuple hx
  have hlen:its.toArray.size=xs.length:=by rw [A7];exact r.length.symm
  refine ⟨"tuple",_,PyProof.Rows.slot_tuple_getitem.lookup,ht.typeIs,?_⟩
  refine HT.getItem_tuple_cut ht hs pl pu (by rw [hlen];exact hw) ?_ (by rw [hlen];exact hz)
  rw [hlen]
  refine ⟨.ref s.heap.objs.size,_,I.laid (t':=s.toks) (o:=.tup (p4 xs lo hi)) (fun b ob q=>AN _ q) (A4 _) ?_,rfl,q _ (I.hok.fresh (A4 _))⟩
  exact ⟨Br (jQ xs lo hi) hz,_,(r.drop (HT.sIx xs.length 0 lo)).take (HT.sIx xs.length xs.length hi - HT.sIx xs.length 0 lo),IsTupD.new _ _⟩
noncomputable def rL (K:FG):R2:=fun x y H Q=>∃ a b xs ys,x=.ref a/\y=.ref b/\SqT K H a xs/\SqT K H b ys/\xs ≠ []/\xs.length+ys.length<=sizeLine /\
  (ys=[]->Q (.ref a) H)/\(ys ≠ []->∀ p,H p=none->Q (.ref p) (upd H p (.tup (xs ++ ys))))
theorem Vals.nil_iff {xs:List V} {us:List Value} (r:Vals xs us):us=[] ↔ xs=[]:=by
  cases r with
  | nil=>simp
  | cons _ _=>simp
theorem op_catT:OpR X (binaryOp .Add) (rL X.K):=by
  intro pins s σ H x y v u Q I rx ry h
  obtain ⟨a,b,xs,ys,rfl,rfl,ha,hb,hx,hz,q1,q2⟩:=h
  cases rx
  cases ry
  obtain ⟨its,r1,p1,_⟩:=I.tuple ha
  obtain ⟨its2,r2,p2,_⟩:=I.tuple hb
  refine HT.cat_tup p1 p2 (fun z=>hx (r1.nil_iff.mp z)) (fun z=>⟨.ref a,H,I,rfl,q1 (r2.nil_iff.mp z)⟩) (fun z=>?_) (by rw [<- r1.length,<- r2.length];exact hz)
  refine ⟨.ref s.heap.objs.size,_,I.laid (t':=s.toks) (o:=.tup (xs ++ ys)) (fun b ob q=>AN _ q) (A4 _) ?_,rfl,q2 (fun w=>z (r2.nil_iff.mpr w)) _ (I.hok.fresh (A4 _))⟩
  exact ⟨by rw [Bd];exact hz,_,r1.append r2,IsTupD.new _ _⟩
end
end L2
namespace L2
open PySem PySem.Spec PyProof.Rows
noncomputable def ixN (n:Nat) (i:Int):Option Nat:=if 0<=i then (if i < n then some i.toNat else none) else if -(n:Int)<=i then some (i+n).toNat else none
noncomputable def atI {α:Type} (xs:List α) (i:Int):Option α:=(ixN xs.length i).bind fun j=>xs[j]?
theorem rX {n:Nat} {i:Int} {j:Nat} (h:ixN n i=some j):seqIndex? i n=some j/\j < n/\-(n:Int)<=i/\i < n:=by
  unfold ixN at h
  by_cases h0:0<=i
  · rw [if_pos h0] at h
    by_cases h1:i < n
    · rw [if_pos h1] at h
      have e:i.toNat=j:=Bt h
      exact ⟨by rw [seqIndex_of h0 h1,e],by omega,by omega,h1⟩
    · rw [if_neg h1] at h;cases h
  · rw [if_neg h0] at h
    by_cases h1:-(n:Int)<=i
    · rw [if_pos h1] at h
      have e:(i+n).toNat=j:=Bt h
      exact ⟨by rw [seqIndex_neg (by omega) h1,e],by omega,h1,by omega⟩
    · rw [if_neg h1] at h;cases h
theorem sC {α:Type} {xs:List α} {i:Int} {v:α} (h:atI xs i=some v):∃ j,seqIndex? i xs.length=some j/\xs[j]?=some v/\j < xs.length/\-(xs.length:Int)<=i/\i < xs.length:=by
  unfold atI at h
  cases e:ixN xs.length i with
  | none=>rw [e] at h;cases h
  | some j =>
    rw [e] at h
    obtain ⟨h1,h2,h3,h4⟩:=rX e
    exact ⟨j,h1,h,h2,h3,h4⟩
noncomputable def sD (b:Expr):Prop:=∀ o i,subscripted b false o i=operate [o,i] (getItem o i)
noncomputable def IxR (X:Cx) (r:R2):Prop :=
  ∀ (value slice:Expr) (pins:List (Addr × Obj)) (s:Shared) (σ:St) (H:Hp) (x y:V) (v u:Value) (Q:VK),Inv X pins σ H s->RelV x v->RelV y u->r x y H Q ->
    subscripted slice false v u=operate [v,u] (getItem v u)->wpAny (model X.prog X.w) X.A (subscriptTail value slice v u) (EP X pins σ Q) X.xe s
noncomputable def MtR (X:Cx) (id:String) (r:V->List V->Hp->VK->Prop):Prop :=
  ∀ (pins:List (Addr × Obj)) (s:Shared) (σ:St) (H:Hp) (x:V) (xs:List V) (v:Value) (us:List Value) (Q:VK),Inv X pins σ H s->RelV x v->Vals xs us->r x xs H Q ->
    wpAny (model X.prog X.w) X.A (call (.builtin id) (v :: us)) (EP X pins σ Q) X.xe s
section
variable {X:Cx} {a b:Expr} {ta tb:TE} {pos:Pos}
theorem IxR.or {r r':R2} (h:IxR X r) (h':IxR X r'):IxR X (fun x y H Q=>r x y H Q\/r' x y H Q):=by
  intro value slice pins s σ H x y v u Q I rx ry q hs
  rcases q with q | q
  · exact h value slice pins s σ H x y v u Q I rx ry q hs
  · exact h' value slice pins s σ H x y v u Q I rx ry q hs
theorem pe_ix {r:R2} (hr:IxR X r) (ha:PE X a ta) (hb:PE X b tb) (hs:sD b):PE X (.Subscript a b pos) (tOp r ta tb):=by
  intro pins s σ H Q I h
  exact Subscript_ (AB ha hb I h fun v u s2 x y H2 I2 rx ry q=>hr a b pins s2 σ H2 x y v u Q I2 rx ry q (hs _ _))
noncomputable def vg (K:FG):R2:=fun x y H Q=>∃ p xs i v,x=.ref p/\y=.int i/\SqL K H p xs/\atI xs i=some v/\Q v H
noncomputable def vf (K:FG):R2:=fun x y H Q=>∃ p xs i v,x=.ref p/\y=.int i/\SqT K H p xs/\atI xs i=some v/\Q v H
theorem ix_list:IxR X (vg X.K):=by
  intro value slice pins s σ H x y v u Q I rx ry h hs
  obtain ⟨p,xs,i,z,rfl,rfl,hq,he,q⟩:=h
  cases rx
  obtain ⟨t,rfl⟩:=ry
  obtain ⟨its,r,pl,hz⟩:=I.list hq
  obtain ⟨j,h1,h2,h3,h4,h5⟩:=sC he
  obtain ⟨w,ew,rw'⟩:=r.get h2
  have hl:=r.length
  have hn:=nG
  have fin:EP X pins σ Q w s:=⟨z,H,I,rw',q⟩
  by_cases h0:0<=i
  · have hj:i.toNat=j:=by
      rw [seqIndex_of h0 h5] at h1
      exact Bt h1
    exact item_listR pl.isList h0 (by omega) (by rw [hj];simpa using ew) fin hs
  · have hj:(i+(its.toArray.size:Int)).toNat=j:=by
      rw [seqIndex_neg (by omega) h4] at h1
      rw [A7,<- hl]
      exact Bt h1
    exact subscriptTail_builtinR (x:=w) pl.isList.typeIs slot_list_getitem.lookup
      (wpAny_getItem_list_neg (Q:=fun r s'=>r=w/\EP X pins σ Q r s') pl.isList (by omega) (by rw [A7] <;> omega) (by omega) (by rw [hj];simpa using ew) ⟨rfl,fin⟩) hs
theorem An:IxR X (vf X.K):=by
  intro value slice pins s σ H x y v u Q I rx ry h hs
  obtain ⟨p,xs,i,z,rfl,rfl,hq,he,q⟩:=h
  cases rx
  obtain ⟨t,rfl⟩:=ry
  obtain ⟨its,r,pl,hz⟩:=I.tuple hq
  obtain ⟨j,h1,h2,h3,h4,h5⟩:=sC he
  obtain ⟨w,ew,rw'⟩:=r.get h2
  have hl:=r.length
  have hn:=nG
  have fin:EP X pins σ Q w s:=⟨z,H,I,rw',q⟩
  exact subscriptTail_builtinR (x:=w) pl.typeIs slot_tuple_getitem.lookup
    (getItem_tuple (j:=j) (Q:=fun r s'=>r=w/\EP X pins σ Q r s') pl (by omega) (by omega) (by rw [A7,<- hl];exact h1) (by simpa using ew) ⟨rfl,fin⟩) hs
theorem qD (its:List Value) (n j:Nat) (u:Value):Obj.mapSeq (·.setIfInBounds j u) { cls:=.type "list",data:=.seq its.toArray n } = { cls:=.type "list",data:=.seq (its.set j u).toArray n }:=by
  simp [Obj.mapSeq]
theorem Inv.lst {pins:List (Addr × Obj)} {σ:St} {H:Hp} {s:Shared} {p:Addr} {xs:List V} (I:Inv X pins σ H s) (h:H p=some (.lst xs)) :
    ∃ (its:List Value) (n:Nat),Vals xs its/\s.heap.get? p=some { cls:=.type "list",data:=.seq its.toArray n }/\xs.length<=sizeLine:=by
  obtain ⟨z,its,n,r,e⟩:=I.hok p _ h
  exact ⟨its,n,r,e,z⟩
theorem Inv.lstUpd {pins:List (Addr × Obj)} {σ:St} {H:Hp} {s:Shared} {p:Addr} {xs ys:List V} {its its':List Value} {n n':Nat} {f:Obj->Obj} (I:Inv X pins σ H s) (h:H p=some (.lst xs))
    (ho:s.heap.get? p=some { cls:=.type "list",data:=.seq its.toArray n }) (hf:f { cls:=.type "list",data:=.seq its.toArray n } = { cls:=.type "list",data:=.seq its'.toArray n' }) (r:Vals ys its') (hz:ys.length<=sizeLine) (t:Nat) :
    Inv X pins σ (upd H p (.lst ys)) { s with heap:=s.heap.update p f,toks:=t }:=by
  have e:(s.heap.update p f).get? p=some { cls:=.type "list",data:=.seq its'.toArray n' }:=by
    rw [Bc f ho (by rw [hf] <;> rfl),hf]
  refine I.write (x:=p) (e:=p) (by rw [h];trivial) (.inl rfl) (fun b u hb q=>(Bo _ _ (Ne.symm hb)).trans q) ⟨_,e⟩ ?_
  exact ⟨hz,its',n',r,e⟩
noncomputable def rF:V->V->V->Hp->(Hp->Prop)->Prop:=fun o i v H Q=>∃ p xs k j,o=.ref p/\i=.int k/\H p=some (.lst xs)/\ixN xs.length k=some j/\Q (upd H p (.lst (xs.set j v)))
theorem uX:wB X rF:=by
  intro pins s σ H o i v ov iv u Q I ro ri rv h
  obtain ⟨p,xs,k,j,rfl,rfl,hp,hj,q⟩:=h
  cases ro
  obtain ⟨t,rfl⟩:=ri
  obtain ⟨its,n,r,ho,hz⟩:=I.lst hp
  obtain ⟨h1,h2,h3,h4⟩:=rX hj
  have hl:=r.length
  have hn:=nG
  have I':Inv X pins σ (upd H p (.lst (xs.set j v))) { s with heap:=s.heap.update p (Obj.mapSeq (·.setIfInBounds j u)) } :=
    I.lstUpd hp ho (qD its n j u) (r.set rv j) (by rw [List.length_set];exact hz) s.toks
  by_cases h0:0<=k
  · have hk:k.toNat=j:=by
      rw [seqIndex_of h0 h4] at h1
      exact Bt h1
    exact PySem.W.ki_setAt ho h0 (by omega) (by rw [A7,<- hl];exact h4) (by rw [hk];exact ⟨_,I',q⟩)
  · have hk:(k+(its.toArray.size:Int)).toNat=j:=by
      rw [seqIndex_neg (by omega) h3] at h1
      rw [A7,<- hl]
      exact Bt h1
    exact PySem.W.ki_setBack ho (by omega) (by rw [A7,<- hl];exact h3) (by omega) (by rw [hk];exact ⟨_,I',q⟩)
theorem mW (lo hi:Option Int) (n:Nat):(sliceBounds lo hi none n).1=((HT.sIx n 0 lo:Nat):Int)/\(sliceBounds lo hi none n).2.1=((HT.sIx n n hi:Nat):Int)/\(sliceBounds lo hi none n).2.2=1:=by
  refine ⟨?_,?_,rfl⟩
  · cases lo with
    | none=>simp [sliceBounds,HT.sIx]
    | some i =>
      simp only [sliceBounds,HT.sIx,Option.getD_none,show (1:Int) > 0 by decide,if_true]
      by_cases h:i < 0
      · simp only [h,if_true] <;> omega
      · simp only [h,if_false] <;> omega
  · cases hi with
    | none=>simp [sliceBounds,HT.sIx]
    | some i =>
      simp only [sliceBounds,HT.sIx,Option.getD_none,show (1:Int) > 0 by decide,if_true]
      by_cases h:i < 0
      · simp only [h,if_true] <;> omega
      · simp only [h,if_false] <;> omega
theorem lM (its:List Value) (lo hi:Option Int):slicePick its.toArray lo hi none=((its.drop (HT.sIx its.length 0 lo)).take (HT.sIx its.length its.length hi - HT.sIx its.length 0 lo)).toArray:=by
  obtain ⟨h1,h2,h3⟩:=mW lo hi its.toArray.size
  unfold slicePick
  rw [h1,h2,h3]
  simp only [sliceRange_one,pick_run,A7] <;> rfl
noncomputable def zE (K:FG):V->Option Int->Option Int->Hp->VK->Prop:=fun x lo hi H Q=>∃ a xs,x=.ref a/\SqL K H a xs/\∀ p,H p=none->Q (.ref p) (upd H p (.lst (p4 xs lo hi)))
theorem sl_list:SlR X (zE X.K):=by
  intro pins s σ H x v vl vu lo hi sl Q I rx hs pl pu h
  obtain ⟨a,xs,rfl,hx,q⟩:=h
  cases rx
  obtain ⟨its,r,ht,hz⟩:=I.list hx
  have hlen:=r.length
  refine ⟨"list",_,slot_list_getitem.lookup,ht.isList.typeIs,?_⟩
  refine wpAny_getItem_list_slice ht.isList hs pl pu .none (by simp) ?_ (by rw [A7] <;> omega)
  rw [lM,<- hlen]
  refine ⟨.ref s.heap.objs.size,_,I.laid (t':=s.toks) (o:=.lst (p4 xs lo hi)) (fun b ob q=>AN _ q) (A4 _) ?_,rfl,q _ (I.hok.fresh (A4 _))⟩
  exact ⟨Br (jQ xs lo hi) hz,_,0,(r.drop (HT.sIx xs.length 0 lo)).take (HT.sIx xs.length xs.length hi - HT.sIx xs.length 0 lo),AW _ rfl⟩
theorem aH:CallR X (.builtin "len") (fun xs H Q=>∃ p ys,xs=[.ref p]/\(SqL X.K H p ys\/SqT X.K H p ys)/\Q (.int ys.length) H):=by
  intro pins s σ H xs us Q I r h
  obtain ⟨p,ys,rfl,hq,q⟩:=h
  obtain ⟨u,rfl,rx⟩:=jJ r
  cases rx
  have hn:=nG
  rcases hq with hq | hq
  · obtain ⟨its,r',pl,hz⟩:=I.list hq
    have hlen:=r'.length
    exact Calls.call_len_list pl.isList (by simp only [A7] <;> omega) ⟨.int ys.length,H,I.tok _,⟨s.toks+1,by rw [A7,hlen]⟩,q⟩
  · obtain ⟨its,r',pl,hz⟩:=I.tuple hq
    have hlen:=r'.length
    exact len_tuple pl (by simp only [A7] <;> omega) ⟨.int ys.length,H,I.tok _,⟨s.toks+1,by rw [A7,hlen]⟩,q⟩
theorem CallR.or {f:Value} {r r':List V->Hp->VK->Prop} (h:CallR X f r) (h':CallR X f r'):CallR X f (fun xs H Q=>r xs H Q\/r' xs H Q):=by
  intro pins s σ H xs us Q I rs q
  rcases q with q | q
  · exact h pins s σ H xs us Q I rs q
  · exact h' pins s σ H xs us Q I rs q
theorem dg:CallR X (.type "tuple") (fun xs H Q=>∃ p ys,xs=[.ref p]/\((SqL X.K H p ys/\∀ l,H l=none->Q (.ref l) (upd H l (.tup ys)))\/(SqT X.K H p ys/\Q (.ref p) H))):=by
  intro pins s σ H xs us Q I r h
  obtain ⟨p,ys,rfl,h⟩:=h
  obtain ⟨u,rfl,rx⟩:=jJ r
  cases rx
  rcases h with ⟨hq,q⟩ | ⟨hq,q⟩
  · obtain ⟨its,r',pl,hz⟩:=I.list hq
    have hlen:=r'.length
    refine call_tuple_list pl.isList (fun h' kp=>?_) (by simp only [A7] <;> omega)
    have I1:Inv X pins σ H { s with heap:=h' }:=I.kept (t':=s.toks) kp
    have I2:Inv X pins σ (upd H h'.objs.size (.tup ys)) { s with heap:=h'.push { cls:=.type "tuple",data:=.seq its.toArray } } :=
      I1.laid (t':=s.toks) (fun b o e=>AN _ e) (A4 _) (show ObjOk X.prog X.w _ _ _ (.tup ys) from ⟨hz,its,r',IsTupD.new _ _⟩)
    exact ⟨.ref h'.objs.size,_,I2,rfl,q _ (I1.hok.fresh (A4 _))⟩
  · obtain ⟨its,r',pl,hz⟩:=I.tuple hq
    exact call_tuple_same pl ⟨.ref p,H,I,rfl,q⟩
noncomputable def tyV (K:FG) (T:String) (x:V) (H:Hp):Prop:=match x with
  | .str _=>T = "str"
  | .int _=>T = "int"
  | .ref p=>(T = "list"/\∃ xs,SqL K H p xs)\/(T = "tuple"/\((∃ o,K.lookup p=some o/\o.cls=.type "tuple"/\o.dict=none)\/∃ xs,H p=some (.tup xs))) \/
      (T = "dict"/\((∃ kvs,H p=some (.dK kvs))\/∃ kvs,H p=some (.dT kvs)))\/(T = "set"/\∃ S n,H p=some (.set S n))
  | _=>False
theorem uL {pins:List (Addr × Obj)} {σ:St} {H:Hp} {s:Shared} {T:String} {x:V} {v:Value} (I:Inv X pins σ H s) (r:RelV x v) (ty:tyV X.K T x H) :
    s.TypeIs v T/\∀ a,v=.ref a->∃ ob,s.heap.get? a=some ob/\ob.dict=none:=by
  cases x with
  | str z =>
    obtain ⟨t,rfl⟩:=r
    cases (show T = "str" from ty)
    exact ⟨typeIs_str s z t,fun _ e=>nomatch e⟩
  | int i =>
    obtain ⟨t,rfl⟩:=r
    cases (show T = "int" from ty)
    exact ⟨typeIs_int s i t,fun _ e=>nomatch e⟩
  | ref p =>
    cases r
    rcases ty with ⟨rfl,xs,hq⟩ | ⟨rfl,⟨o,hk,hc,hd⟩ | ⟨xs,ht⟩⟩ | ⟨rfl,hk⟩ | ⟨rfl,S,n,hk⟩
    · obtain ⟨its,_,pl,_⟩:=I.list hq
      refine ⟨pl.isList.typeIs,fun a e=>?_⟩
      cases e
      obtain ⟨o,n,e,c,hd,_⟩:=pl
      exact ⟨o,e,hd⟩
    · refine ⟨⟨o,I.kIn p o hk,hc⟩,fun a e=>?_⟩
      cases e
      exact ⟨o,I.kIn _ o hk,hd⟩
    · obtain ⟨_,its,_,o,e,c,n,d⟩:=I.hok p _ ht
      refine ⟨⟨o,e,c⟩,fun a e2=>?_⟩
      cases e2
      exact ⟨o,e,congrArg Prod.snd d⟩
    · have z:∃ o,s.heap.get? p=some o/\o.ExactDict:=by
        rcases hk with ⟨kvs,hk⟩ | ⟨kvs,hk⟩
        · obtain ⟨_,_,_,_,o,_,_,e,ex,_⟩:=I.hok p _ hk
          exact ⟨o,e,ex⟩
        · obtain ⟨_,_,_,_,o,_,_,e,ex,_⟩:=I.hok p _ hk
          exact ⟨o,e,ex⟩
      obtain ⟨o,e,ex⟩:=z
      refine ⟨⟨o,e,ex.1⟩,fun a e2=>?_⟩
      cases e2
      exact ⟨o,e,ex.2.1⟩
    · obtain ⟨o,_,_,_,e,ex,_⟩:=I.hok p _ hk
      refine ⟨⟨o,e,ex.1⟩,fun a e2=>?_⟩
      cases e2
      exact ⟨o,e,ex.2.1⟩
  | _=>exact False.elim ty
noncomputable def tBM0 (K:FG) (T:String) (r:V->List V->Hp->VK->Prop) (to:TE):TE:=fun σ H Q=>to σ H fun x H1=>tyV K T x H1/\r x [] H1 Q
noncomputable def tBM (K:FG) (T:String) (r:V->List V->Hp->VK->Prop) (to:TE) (t:TA):TE:=fun σ H Q=>to σ H fun x H1=>tyV K T x H1/\t σ H1 fun xs H2=>r x xs H2 Q
variable {o e:Expr} {es:List Expr} {to:TE} {t:TA} {name:Str} {apos cpos:Pos} {T id:String} {r:V->List V->Hp->VK->Prop}
theorem z5 (pa:PlainAttrs T) (slot:Slot T name id) (hty:typeOf (.builtin id)=pure (.type "method_descriptor")) (hm:MtR X id r) (ho:PE X o to)
    (hbase:attributeBase o name X.env (eval o X.env)=eval o X.env:=by rfl) (hline:(apos.endLine == cpos.line)=true:=by rfl):PE X (.Call (.Attribute o name apos) [] [] cpos) (tBM0 X.K T r to):=by
  intro pins s σ H Q I h
  refine wpAny_Call_method0_late hbase hline (thn (ho pins s σ H _ I h) fun v s1 ⟨x,H1,I1,r1,ty,q1⟩=>?_)
  obtain ⟨h1,h2⟩:=uL I1 r1 ty
  exact ⟨T,id,pa,slot,hty,h1,h2,Calls.callWith_builtin rfl (PySem.evalArgs_none (hm pins s1 σ H1 x [] v [] Q I1 r1 .nil q1))⟩
theorem pe_bm (pa:PlainAttrs T) (slot:Slot T name id) (hty:typeOf (.builtin id)=pure (.type "method_descriptor")) (hm:MtR X id r) (ho:PE X o to) (ha:PA X (e :: es) t)
    (hbase:attributeBase o name X.env (eval o X.env)=eval o X.env:=by rfl)
    (hfew:((backTo cpos (starEach (e :: es) X.env)).all (fun x=>!x.1) && (backToKw cpos (keywordEach [] X.env)).all (fun x=>x.1.isSome)
      && decide ((e :: es).length+([]:List Keyword).length+(if ([]:List Keyword).isEmpty then 0 else 1) < 30))=true:=by rfl)
    (hline:(apos.endLine == cpos.line)=true:=by rfl) (hs:starEach (e :: es) X.env=(false,eval e X.env) :: starEach es X.env:=by rfl) (hplain:(backTo cpos (starEach es X.env)).any (·.1)=false:=by rfl) :
    PE X (.Call (.Attribute o name apos) (e :: es) [] cpos) (tBM X.K T r to t):=by
  intro pins s σ H Q I h
  refine wpAny_Call_method_late hbase hfew hline rfl (thn (ho pins s σ H _ I h) fun v s1 ⟨x,H1,I1,r1,ty,q1⟩=>?_)
  obtain ⟨h1,h2⟩:=uL I1 r1 ty
  refine ⟨T,id,pa,slot,hty,h1,h2,?_⟩
  have hA:=ha cpos pins s1 σ H1 _ I1 q1
  rw [hs] at hA ⊢
  refine Calls.callWith_builtin (by show (false || (backTo cpos (starEach es X.env)).any (·.1))=false;rw [hplain] <;> rfl) (Calls.evalArgs_plain ?_)
  exact thn hA fun us s2 ⟨vs,H2,I2,r2,q2⟩=>hm pins s2 σ H2 x vs v us Q I2 r1 r2 q2
end
end L2
namespace L2
open PySem PySem.Spec PyProof.Rows
noncomputable def MtM (X:Cx) (id:String) (r:V->List V->Hp->VK->Prop):Prop :=
  ∀ (pins:List (Addr × Obj)) (s:Shared) (σ:St) (H:Hp) (x:V) (xs:List V) (v:Value) (us:List Value) (Q:VK),Inv X pins σ H s->RelV x v->Vals xs us->r x xs H Q ->
    wpAny (model X.prog X.w) X.A (call (.builtin id) (v :: us)) (EP X pins σ Q) X.xe s
theorem Vals.one:∀ {x:V} {us:List Value},Vals [x] us->∃ u,us=[u]/\RelV x u
  | _,_,.cons r .nil=>⟨_,rfl,r⟩
theorem Vals.rep {xs:List V} {us:List Value} (h:Vals xs us):∀ k:Nat,Vals (List.replicate k xs).flatten (List.replicate k us).flatten
  | 0=>.nil
  | k+1=>by
    rw [List.replicate_succ,List.replicate_succ,List.flatten_cons,List.flatten_cons]
    exact Vals.append h (Vals.rep h k)
theorem mL (its:List Value):∀ (k:Nat) (acc:List Value),
    List.foldl (fun x1 x2=>x1 ++ x2) acc.toArray (List.replicate k its.toArray)=(acc ++ (List.replicate k its).flatten).toArray
  | 0,acc=>by simp
  | k+1,acc=>by
    have e:acc.toArray ++ its.toArray=(acc ++ its).toArray:=by simp
    have e2:(acc ++ its) ++ (List.replicate k its).flatten=acc ++ (List.replicate (k+1) its).flatten:=by
      rw [List.replicate_succ,List.flatten_cons,List.append_assoc]
    rw [<- e2,<- mL its k (acc ++ its),<- e,List.replicate_succ,List.foldl_cons]
section
variable {X:Cx} {pins:List (Addr × Obj)} {σ:St} {H:Hp} {s:Shared} {l b:Addr} {xs ys zs:List V}
theorem Inv.lset {its its':List Value} {n:Nat} {f:Array Value->Array Value} {t':Nat} (I:Inv X pins σ H s) (hH:H l=some (.lst xs))
    (e:s.heap.get? l=some { cls:=.type "list",data:=.seq its.toArray n }) (hf:f its.toArray=its'.toArray) (hv:Vals ys its') (hz:ys.length<=sizeLine) :
    Inv X pins σ (upd H l (.lst ys)) { s with heap:=s.heap.update l (Obj.mapSeq f),toks:=t' }:=by
  have q:=PySem.IsL.update e f
  rw [hf] at q
  refine I.write (x:=l) (e:=l) (by rw [hH];exact trivial) (.inl rfl) (fun b' u hb hu=>(Bo s.heap (Obj.mapSeq f) (Ne.symm hb)).trans hu) ⟨_,q⟩ ?_
  exact ⟨hz,its',_,hv,q⟩
theorem Inv.lnew {its:List Value} {t':Nat} (I:Inv X pins σ H s) (hv:Vals ys its) (hz:ys.length<=sizeLine) :
    Inv X pins σ (upd H s.heap.objs.size (.lst ys)) { s with heap:=s.heap.push { cls:=.type "list",data:=.seq its.toArray },toks:=t' } :=
  I.laid (fun _ _ q=>AN _ q) (A4 _) ⟨hz,its,0,hv,AW _ rfl⟩
theorem Inv.fresh (I:Inv X pins σ H s):H s.heap.objs.size=none:=I.hok.fresh (A4 _)
theorem Inv.lstM (I:Inv X pins σ H s) (hH:H l=some (.lst xs)):xs.length<=sizeLine/\∃ (its:List Value) (n:Nat),Vals xs its/\xs.length=its.length/\s.heap.get? l=some { cls:=.type "list",data:=.seq its.toArray n }:=by
  obtain ⟨z,its,n,r,e⟩:=I.hok l _ hH
  exact ⟨z,its,n,r,r.length,e⟩
theorem vA {n:Nat} (h:n<=sizeLine):Builtin.List.listTooLong n=false:=by
  unfold Builtin.List.listTooLong
  exact Ba (by omega)
end
section
variable {X:Cx}
noncomputable def rJ:V->List V->Hp->VK->Prop:=fun x vs H Q=>∃ l b xs zs,x=.ref l/\vs=[.ref b]/\H l=some (.lst xs)/\H b=some (.lst zs)/\xs.length+zs.length<=sizeLine/\Q .non (upd H l (.lst (xs ++ zs)))
theorem ja:MtM X "list.extend" rJ:=by
  intro pins s σ H x vs v us Q I rx rv h
  obtain ⟨l,b,xs,zs,rfl,rfl,hH,hB,hz,q⟩:=h
  cases rx
  obtain ⟨u,rfl,ru⟩:=rv.one
  cases ru
  obtain ⟨z,its,n,r,hl,e⟩:=I.lstM hH
  obtain ⟨z2,its2,n2,r2,hl2,e2⟩:=I.lstM hB
  have hsz:its.toArray.size+its2.toArray.size<=sizeLine:=by rw [A7,A7];omega
  have hlong:¬ (!its.toArray.isEmpty && Builtin.List.listTooLong (its.toArray.size+its2.toArray.size))=true:=by
    rw [vA hsz,Bool.and_false]
    exact A5
  refine call_meets F.slot_list_extend ⟨_,e,rfl⟩ F.entry_list_extend (F.args_list_extend_2 _ _)
    (AutoSeq1.list_extend_list_list_0 l its.toArray n b its2.toArray n2 hlong (by rw [A7];omega) (by omega)) ⟨e,e2,?_⟩
  refine ⟨.non,_,I.lset (its':=its ++ its2) hH e (by simp) (r.append r2) ?_,rfl,q⟩
  rw [Bd]
  omega
noncomputable def xm:R2:=fun x y H Q=>∃ l b xs zs,x=.ref l/\y=.ref b/\H l=some (.lst xs)/\H b=some (.lst zs)/\xs.length+zs.length<=sizeLine/\∀ p,H p=none->Q (.ref p) (upd H p (.lst (xs ++ zs)))
theorem Aa:OpR X (binaryOp .Add) xm:=by
  intro pins s σ H x y v u Q I rx ry h
  obtain ⟨l,b,xs,zs,rfl,rfl,hH,hB,hz,q⟩:=h
  cases rx
  cases ry
  obtain ⟨z,its,n,r,hl,e⟩:=I.lstM hH
  obtain ⟨z2,its2,n2,r2,hl2,e2⟩:=I.lstM hB
  refine PySem.P.add_list e e2 ?_ (by rw [A7,A7];omega)
  have ea:its.toArray ++ its2.toArray=(its ++ its2).toArray:=by simp
  rw [ea]
  exact ⟨.ref _,_,I.lnew (t':=s.toks) (r.append r2) (by rw [Bd];omega),rfl,q _ I.fresh⟩
theorem xS {α:Type} (xs:List α) (k:Nat):(List.replicate k xs).flatten.length=k * xs.length:=by
  induction k with
  | zero=>simp
  | succ k ih=>rw [List.replicate_succ,List.flatten_cons,Bd,ih,Nat.succ_mul,Nat.add_comm]
end
end L2
namespace Att
open PySem PySem.W PySem.Calls PyProof.Rows
theorem ke {P:Params} {h:Heap}:∀ (ns:List Int) (vs:List Value),WellAll P h vs (ns.map WData.int)->IntsAre vs ns:=by
  intro ns
  induction ns with
  | nil =>
    intro vs w
    rw [List.map_nil] at w
    cases w
    exact .nil
  | cons n ns ih =>
    intro vs w
    rw [A8] at w
    cases w with
    | cons a b =>
      cases a
      exact .cons _ _ (ih _ b)
theorem sN {l:OpenLaw} {n:Nat} (hn:l.most=some n) {P:Params} {h:Heap} {args:List WData} {vals:List Value}
    (hpre:l.row.toRowW.claim.pre args=true) (hwl:WellAll P h vals args) :
    ∃ a vs ns,vals=[Value.ref a]/\args=[WData.list (ns.map WData.int)]/\h.get? a=some { cls:=.type "list",data:=.seq vs.toArray }/\IntsAre vs ns/\ns.length<=n:=by
  have hsh:WShape.hasAll [] args [.list .int]=true:=(pre_splitW hpre).1
  have hc:l.pre.holds [] { args:=args }=true:=(pre_splitW hpre).2
  obtain ⟨d,r,rfl,h1,h2⟩:=hasAllW_cons hsh
  obtain rfl:=hasAllW_nil h2
  obtain ⟨xs,rfl,h3⟩:=hasW_list h1
  obtain ⟨ns,rfl⟩:=items_int h3
  have hlen:ns.length<=n:=by
    unfold OpenLaw.pre at hc
    have h4:(WTm.not (.lt (.lit (.int (n:Int))) (.len (.arg 0)))).holds [] { args:=[.list (ns.map .int)] }=true:=by
      have h4:=(holds_andW hc).1
      rw [hn] at h4
      exact h4
    have h5:=condW_of h4 (w_not (w_lt w_lit (w_len_list (w_arg rfl))))
    rw [AX] at h5
    refine Nat.le_of_not_lt fun q=>?_
    have q':(n:Int) < ((ns.length:Nat):Int):=by omega
    first
      | (rw [A9 q'] at h5;exact absurd h5 (by decide))
      | (simp at h5;omega)
  cases hwl with
  | cons w1 w2 =>
    cases w2
    cases w1 with
    | list ho hall=>exact ⟨_,_,ns,rfl,rfl,ho,ke ns _ hall,hlen⟩
theorem sX (l:OpenLaw) (args:List WData):l.row.toRowW.claim.post args (.bool true) args=true :=
  postW_of (r:=l.row.toRowW) (X:=(true == true))
    (show WShape.has [] (.bool true) .bool=true by first | rfl | decide | simp [WShape.has,WShape.arms,WShape.armsAll])
    (show (WTm.eq .res (.lit (.bool true))).value [] { args:=args,res:=some (.bool true),after:=args }=some (.bool (true == true)) from w_eq_bool (w_res rfl) w_lit) rfl
theorem attach_call {l:OpenLaw} {n:Nat} {q:Program} {loose:List Str} {XP:(Str->Option Value)->Heap->Prop} {YP:World->Heap->Prop} {d:DefRec}
    (hn:l.most=some n) (hdf:d.params.defaults=[])
    (call:∀ (w:World) (s₀ s₁:Shared) (mg mb:Str->Option Value) (fa:Addr) (o:Obj) (pm cd doc:Value) (a:Addr) (vs:List Value) (ns:List Int),
      Ground q loose [] XP w s₀ mg mb s₁.heap->YP w s₁.heap ->
      s₁.heap.get? fa=some o->o.data=.func (docDef d.name d.params d.body d.scope pm cd doc)->s₁.heap.CodeRec cd d.name->mg d.name=some (.ref fa) ->
      s₁.heap.get? a=some { cls:=.type "list",data:=.seq vs.toArray }->IntsAre vs ns->ns.length<=n->s₁.gens = #[] ->
      codeAny (model l.prog w) callerA (.call (.ref fa) ⟨[.ref a],[]⟩) (fun r s'=>r=.ok (.ret (.bool true))/\OldK s₁.heap s'.heap/\s'.os=s₁.os/\AllBare s'.gens) s₁) :
    WalkO q loose XP YP l.row.toRowW d [] (fun f vs=>PySem.call f vs):=by
  intro w s₀ s₁ mg mb G Y fa o pm cd doc dV kV ho hd hcd hD hmg hg args vals as hpre hlay hrd hwl hlo
  obtain rfl:dV=.none:=Dflts.none hD hdf
  obtain rfl:kV=.none:=Dflts.noKw hD
  obtain ⟨a,vs,ns,rfl,rfl,hobj,hints,hlen⟩:=sN hn hpre hwl
  refine enter_call (codeAny_mono (call w s₀ s₁ mg mb fa o pm cd doc a vs ns G Y ho (fd_plain hd) hcd hmg hobj hints hlen hg) fun r s' hq=>?_)
  obtain ⟨rfl,h2,h3,h4⟩:=hq
  exact ⟨.inl ⟨.bool true,.bool true,[],rfl,fun _=>rfl,.bool true,sX l _,fun _=>⟨List.Pairwise.nil,fun _ hm=>(nomatch hm)⟩⟩,h2,h3,h4⟩
end Att
namespace L2
open PySem PySem.Spec PyProof.Rows
theorem mm:∀ {vs:List Value} {ns:List Int},IntsAre vs ns->Vals (ns.map V.int) vs
  | _,_,.nil=>.nil
  | _,_,.cons n t h=>.cons ⟨t,rfl⟩ (mm h)
noncomputable def yk (H:Hp):Prop:=∀ b,H b=none\/∃ o xs,H b=some (.frz o (.lst xs))
set_option tactic.hygienic true in
theorem vP {P:Program} {w:World} {K:FG} {mg mb:Str->Option Value} {CX:CXT} {k:Nat} {fa a:Addr} {fd:FuncData} {x:Str} {sp:Sp} {s₁:Shared} {vs:List Value} {ns:List Int}
    (KX:K.In s₁.heap) (hns:s₁.heap.Ns mainGlobals mg) (hb:s₁.heap.Ns builtinsNs mb) (hbb:∀ x:Str,x ≠ "__name__"->mb x=bootBuiltins x) (hlim:s₁.heap.NoLimit) (hg:s₁.gens = #[])
    (ha:s₁.heap.get? a=some { cls:=.type "list",data:=.seq vs.toArray }) (hi:IntsAre vs ns) (hl:ns.length<=sizeLine) (hr:Room k callerA)
    (F:∀ base:Heap,K.In base->base.Ns mainGlobals mg->FnOk P w K mg base CX k fa fd [x] sp) (hbind:∀ (s:Shared) (u:Value),BindsTo s fd ⟨[u],[]⟩ [(x,u)])
    (hsp:∀ H:Hp,yk H->SqL K H a (ns.map V.int)->sp [.ref a] H (fun v _=>v=.bl true) fun _ _ _=>False)
    (hCX:∀ H e s',CX [] H s₁ (fun _ _ _=>False) e s'->False) :
    codeAny (model P w) callerA (.call (.ref fa) ⟨[.ref a],[]⟩) (fun r s'=>r=.ok (.ret (.bool true))/\OldK s₁.heap s'.heap/\s'.os=s₁.os/\AllBare s'.gens) s₁:=by
  have rv:=mm hi
  have lenV:=hi.length
  have core:∀ H:Hp,yk H->SqL K H a (ns.map V.int)->HOk P w H s₁.heap->(∀ b,H b ≠ none->b=a)->(H a ≠ none->K.lookup a=none) ->
      codeAny (model P w) callerA (.call (.ref fa) ⟨[.ref a],[]⟩) (fun r s'=>r=.ok (.ret (.bool true))/\OldK s₁.heap s'.heap/\s'.os=s₁.os/\AllBare s'.gens) s₁:=by
    intro H hO hS hok hA hK
    have base_of:∀ {b:Addr} {o:Obj},s₁.heap.get? b=some o->H b=none->(nO s₁.heap H).get? b=some o:=fun e n=>v7 e n
    have noA:∀ {b:Addr} {o:Obj} {es:Array DictEntry} {ep:Nat},s₁.heap.get? b=some o->o.data=.dict es ep->H b=none:=fun {b o es ep} e d=>by
      cases q:H b with
      | none=>rfl
      | some u =>
        have e':b=a:=hA b (by rw [q];simp)
        subst e'
        rw [ha] at e;cases e
        have d':Data.seq vs.toArray _=Data.dict es ep:=d
        cases d'
    have nsK:∀ {b:Addr} {m:Str->Option Value},s₁.heap.Ns b m->(nO s₁.heap H).Ns b m:=fun {b m} ⟨o,es,ep,e,d,r⟩=>⟨o,es,ep,base_of e (noA e d),d,r⟩
    have hKb:K.In (nO s₁.heap H):=fun b o e=>base_of (KX b o e) (by
      cases q:H b with
      | none=>rfl
      | some u =>
        have e':b=a:=hA b (by rw [q];simp)
        subst e'
        rw [hK (by rw [q];simp)] at e;cases e)
    have hM:Mod K mg (nO s₁.heap H):=⟨hKb,nsK hns,⟨mb,nsK hb,hbb⟩,let ⟨mc,h1,h2⟩:=hlim;⟨mc,nsK h1,h2⟩⟩
    have e0:Env0 P w K mg (nO s₁.heap H) callerA [] s₁ H:=⟨rfl,hM,fun b o e=>xE e,Nat.le_of_eq (tW _ _),trivial,fun b hb=>absurd (show b ∈ ([]:List Addr) from hb) (by simp),hok,.of_eq hg⟩
    refine codeAny_mono ((F _ hKb (nsK hns)).run callerA [] s₁ H ⟨[.ref a],[]⟩ [.ref a] [.ref a] _ _ hr e0 (hbind s₁ (.ref a)) (.cons rfl .nil) (hsp H hO hS)) fun r s' h=>?_
    cases r with
    | error e=>exact (hCX H e s' h).elim
    | ok fl =>
      cases fl with
      | next=>exact False.elim h
      | brk=>exact False.elim h
      | cont=>exact False.elim h
      | ret u =>
        obtain ⟨v,H',os,bare,un,hok',r',q⟩:=h
        have q':v=.bl true:=q
        subst q'
        obtain rfl:u=Value.bool true:=r'
        refine ⟨rfl,OldK.of_keep fun b o e=>?_,os,bare⟩
        cases q:H b with
        | none=>exact un.keep b o e q (by intro z;exact absurd (show b ∈ ([]:List Addr) from z) (by simp)) (by simp)
        | some u =>
          rcases hO b with z | ⟨ob,xs,z⟩
          · rw [q] at z;cases z
          · have z2:=un.frzs b ob _ z
            obtain ⟨e1,_⟩:=hok b _ z
            obtain ⟨e2,_⟩:=hok' b _ z2
            rw [e] at e1;cases e1
            exact e2
  cases hk:K.lookup a with
  | some o =>
    have e:=KX a o hk
    rw [ha] at e
    cases e
    refine core (fun _=>none) (fun _=>.inl rfl) (.inr ⟨_,vs.toArray,_,hk,rfl,rfl,rfl,by rw [A7,lenV];exact hl,by simpa using rv⟩) (fun b u z=>by have z':(none:Option HO)=some u:=z;cases z') (fun b z=>absurd rfl z) fun z=>absurd rfl z
  | none =>
    refine core (fun b=>if b=a then some (.frz { cls:=.type "list",data:=.seq vs.toArray } (.lst (ns.map V.int))) else none) (fun b=>?_) (.inl (.inr ⟨{ cls:=.type "list",data:=.seq vs.toArray },if_pos rfl⟩)) (fun b u z=>?_) (fun b z=>?_) fun _=>hk
    · by_cases hb:b=a
      · exact .inr ⟨_,_,if_pos hb⟩
      · exact .inl (if_neg hb)
    · by_cases hb:b=a
      · have z':=(if_pos hb).symm.trans z
        cases z'
        subst hb
        exact ⟨ha,by rw [AX];exact hl,vs,_,rv,ha⟩
      · have z':=(if_neg hb).symm.trans z
        cases z'
    · by_cases hb:b=a
      · exact hb
      · exact absurd (if_neg hb) z
end L2
namespace L2
open PySem PySem.Spec PyProof.Rows
end L2
namespace L2
open PySem PySem.Spec PyProof.Rows
noncomputable abbrev CX0:CXT:=fun _ _ _ _ _ _=>False
noncomputable abbrev E0:XK:=fun _ _ _=>False
theorem pass0 {X:Cx}:rq CX0 X E0:=fun _ _ _ _ _ _ _ h=>h.elim
structure Fun (K:FG) (x qual:Str) (st:Stmt) (f:Addr) (fd:FuncData):Prop where
  ex:∃ (oc:Value) (od:Option Addr) (kV doc pm:Value) (an:Option Addr) (cdv ct:Value) (osl:Array (Option Value)),
    fd=PySem.W.fnOf x qual (bf st) (aN st) (aj st) .none kV doc pm an cdv ct/\K.lookup f=some ⟨oc,od,.func fd,osl⟩/\PySem.W.codeIn K cdv qual=true
  kp:PySem.W.keepIn K (.ref f)=true
section
variable {P:Program} {w:World} {K:FG} {mg:Str->Option Value} {base:Heap}
theorem Fun.ok {x qual:Str} {st:Stmt} {f:Addr} {fd:FuncData} {N ps:List Str} {k:Nat} {sp:Sp} (F:Fun K x qual st f fd) (S:FnScope N ps (aj st)) (len:∀ vs H Q E,sp vs H Q E->vs.length=ps.length)
    (hbody:∀ (cdv:Value) (A:Around) (outer:List Env) (s:Shared) (H:Hp) (vs:List V) (Q:VK) (E:XK),Room k (A.deeper (envOfC qual (aj st) s.heap.objs.size f cdv))->sp vs H Q E ->
      ∃ t,PSs (dS CX0 P w K mg base N qual (aj st) f cdv A outer s H E).nox (aN st) t/\t { nx:=fun _ H'=>Q .non H',rt:=Q } (fG N vs) H):FnOk P w K mg base CX0 (k+1) f fd ps sp:=by
  obtain ⟨oc,od,kV,doc,pm,an,cdv,ct,osl,rfl,lk,hcd⟩:=F.ex
  refine yP lk hcd S len fun A outer s H vs Q E hr hsp=>?_
  obtain ⟨t,h,q⟩:=hbody cdv A outer s H vs Q E hr hsp
  exact ⟨t,h.nox,q⟩
theorem Fun.binds {x qual:Str} {st:Stmt} {f:Addr} {fd:FuncData} {ps:List Str} (F:Fun K x qual st f fd)
    (h:∀ (kV doc pm:Value) (an:Option Addr) (cdv ct:Value) (us:List Value),us.length=ps.length->bindArgs (PySem.W.fnOf x qual (bf st) (aN st) (aj st) .none kV doc pm an cdv ct) ⟨us,[]⟩=pure (ps.zip us)):Binds K fd ps []:=by
  obtain ⟨oc,od,kV,doc,pm,an,cdv,ct,osl,rfl,lk,hcd⟩:=F.ex
  exact .all (h kV doc pm an cdv ct)
theorem As {x qual:Str} {st:Stmt} {f:Addr} {oc:Value} {od an:Option Addr} {osl:Array (Option Value)} {kV doc pm cdv ct:Value} (l:K.lookup f=some ⟨oc,od,.func (PySem.W.fnOf x qual (bf st) (aN st) (aj st) .none kV doc pm an cdv ct),osl⟩)
    (c:PySem.W.codeIn K cdv qual=true) (k:PySem.W.keepIn K (.ref f)=true):Fun K x qual st f (PySem.W.fnOf x qual (bf st) (aN st) (aj st) .none kV doc pm an cdv ct):=⟨⟨oc,od,kV,doc,pm,an,cdv,ct,osl,rfl,l,c⟩,k⟩
end
theorem hu_of {A:Around} {k:Nat} (hr:Room k A):A.units+1 < cLine:=Nat.lt_of_le_of_lt (Nat.add_le_add_left (by decide:1<=64) _) hr.units
theorem sM {n:Nat} (h:n<=1000):n < sizeLine:=Nat.lt_of_le_of_lt h (by decide)
noncomputable def Same (H H':Hp):Prop:=∀ b o,H b=some o->H' b=some o
theorem Same.refl (H:Hp):Same H H:=fun _ _ h=>h
theorem Same.trans {H H1 H2:Hp} (a:Same H H1) (b:Same H1 H2):Same H H2:=fun c o h=>b c o (a c o h)
theorem Same.free {H H':Hp} (e:Same H H') {l:Addr} (h:H' l=Option.none):H l=Option.none:=by
  cases q:H l with
  | none=>rfl
  | some o =>
    rw [e l o q] at h
    cases h
end L2
end
section
namespace L2
open PySem PySem.Spec PyProof.Rows
section
variable {prog:Program} {w:World} {A:Around} {E:Value->Shared->Prop} {s:Shared}
theorem oQ {d:Addr} {k v:Value} {Q:Unit->Shared->Prop} (ty:s.TypeIs (.ref d) "dict") (h:wpAny (model prog w) A.in1 (dictSet d k v) Q E s) :
    wpAny (model prog w) A (setItem (.ref d) k v) Q E s:=by
  unfold setItem
  refine AK (AI (wpAny_sequenceKey ty (by decide) (AI (wpAny_callSpecial?_slot ty slot_dict_setitem (wpAny_call_entry slot_dict_setitem ty entry_dict_setitem ?_ (args_dict_setitem _ _ _))))))
  refine AI (wpAny_notOrdered_dict ty ?_)
  refine (?_:wpAny _ _ (dictSet d k v >>= _) _ _ s)
  exact AI (wpAny_mono h (fun _ _ z=>AJ ⟨_,rfl,AJ z⟩) fun _ _ z=>z)
theorem mr {d:Addr} {key v:Value} {hs:Int} {o:Obj} {es:Array DictEntry} {ep:Nat} {F:Option Nat->Prop} {Q:Unit->Shared->Prop} (ho:s.heap.get? d=some o) (hc:o.ExactDict) (hd:o.data=.dict es ep) (hz:es.size<=sizeLine)
    (find:wpAny (model prog w) A (dictFind d key hs) (fun r s'=>s'=s/\F r) E s)
    (old:∀ i h' o',F (some i)->h'.get? d=some o'->o'.ExactDict->o'.data=.dict (es.modify i fun e=>{ e with val:=v }) ep->Heap.SameBut d s.heap h'->Q () { s with heap:=h' })
    (new:∀ h' o',F none->h'.get? d=some o'->o'.ExactDict->o'.data=.dict (es.push ⟨hs,key,v⟩) (ep+1)->Heap.SameBut d s.heap h'->Q () { s with heap:=h' }) :
    wpAny (model prog w) A (dictSetHashed d key hs v) Q E s:=by
  unfold dictSetHashed
  refine AK (AI (wpAny_mono find ?_ fun _ _ z=>z))
  rintro (_ | i) _ ⟨rfl,f⟩
  · exact AI (wpAny_rule (wpAny_updateDictKeys (hz:=hz) ho hd (new _ _ f (Bc _ ho (Obj.isFreed_of_dict (Obj.data_mapDictKeys hd _))) (hc.mapDictKeys _) (Obj.data_mapDictKeys hd _) (Heap.SameBut.update ..))))
  · exact AI (wpAny_rule (AI (wpAny_updateDict ho hd (wpAny_point (old i _ _ f (Bc _ ho (Obj.isFreed_of_dict (Obj.data_mapDict hd _))) (hc.mapDict _) (Obj.data_mapDict hd _) (Heap.SameBut.update ..))))))
end
section
variable {prog:Program} {w:World} {K:Type} [DecidableEq K] {A:Around} {E:Value->Shared->Prop} {s:Shared} {d:Addr} {k:K}
section
variable {knd:HeapKind prog w K}
noncomputable def DictOfHE (knd:HeapKind prog w K) (h:Heap) (d:Addr) (xs:List (K × Addr × Value)):Prop :=
  ∃ o es ep,h.get? d=some o/\o.ExactDict/\o.data=.dict es ep/\es.toList=xs.map (entryOfKey knd)/\(∀ x ∈ xs,knd.is h x.1 x.2.1)/\(xs.map (·.1)).Nodup/\ep=es.size
theorem DictOfHE.of {h:Heap} {d:Addr} {xs:List (K × Addr × Value)} (x:DictOfHE knd h d xs):h.DictOfH knd d xs:=let ⟨o,es,ep,h1,h2,h3,h4,h5,h6,_⟩:=x;⟨o,es,ep,h1,h2,h3,h4,h5,h6⟩
theorem tu {xs:List (K × Addr × Value)} {y:Addr × Value} (hn:(xs.map (·.1)).Nodup) (h:k ∉ xs.map (·.1)):((xs ++ [(k,y)]).map (·.1)).Nodup:=by
  rw [List.map_append]
  exact List.nodup_append.mpr ⟨hn,List.nodup_cons.mpr ⟨List.not_mem_nil,List.nodup_nil⟩,fun x hx y hy e=>h (by have:=Bi.mp hy;subst this;exact e ▸ hx)⟩
theorem gF {a:Addr} {xs:List (K × Addr × Value)} {v:Value} {Q:Unit->Shared->Prop} (hu:knd.room A) (hkey:knd.is s.heap k a) (hm:DictOfHE knd s.heap d xs)
    (hQ:∀ h',DictOfHE knd h' d (storedH xs k a v)->Heap.SameBut d s.heap h'->Q () { s with heap:=h',toks:=s.toks+knd.draws k })
    (hsz:xs.length<=sizeLine:=by size_fits):wpAny (model prog w) A (dictSet d (.ref a) v) Q E s:=by
  obtain ⟨o,es,ep,ho,hc,hd,he,his,hn,rfl⟩:=hm
  unfold dictSet
  refine AK (AI (knd.pyHash hu hkey ?_))
  refine mr (s:={ s with toks:=s.toks+knd.draws k }) (F:=fun | none=>∀ (j:Nat) (p:Addr × Value),xs[j]? ≠ some (k,p) | some j=>∃ p,xs[j]?=some (k,p)) ho hc hd (size_of_entries he ▸ hsz)
    (wpAny_dictFind_heap (s:={ s with toks:=s.toks+knd.draws k }) hu hkey ho hd he his hn (fun z=>⟨rfl,z⟩) fun j p z=>⟨rfl,p,z⟩) ?_ ?_
  · rintro i h' o' ⟨p,f⟩ g1 g2 g3 g4
    have at':=storedH_old (atKey_of_get hn f) a v
    refine hQ h' ⟨o',_,_,g1,g2,g3,?_,?_,?_,?_⟩ g4 <;> try rw [at']
    · rw [Array.toList_modify,he]
      exact modify_map_putAt (entryOfKey knd) _ k v (fun _ _=>rfl) hn f
    · intro x hx
      obtain ⟨y,hy,rfl⟩:=A2.mp hx
      have:=knd.keeps (his y hy) ho hd g4
      by_cases e:y.1=k <;> simpa [putAt,e] using this
    · exact (keys_map_putAt xs k v).symm ▸ hn
    · exact (Array.size_modify).symm
  · intro h' o' f g1 g2 g3 g4
    have at':=storedH_new (atKey_none_of_get f) a v
    refine hQ h' ⟨o',_,_,g1,g2,g3,?_,?_,?_,?_⟩ g4 <;> try rw [at']
    · simp [he,entryOfKey]
    · intro x hx
      rcases AV.mp hx with hx | hx
      · exact knd.keeps (his x hx) ho hd g4
      · cases Bi.mp hx;exact knd.keeps hkey ho hd g4
    · exact tu hn (not_mem_keys_of_get f)
    · simp
theorem lN {a:Addr} {xs:List (K × Addr × Value)} {v:Value} {Q:Unit->Shared->Prop} (hu:knd.room A.in1) (hkey:knd.is s.heap k a) (hm:DictOfHE knd s.heap d xs)
    (hQ:∀ h',DictOfHE knd h' d (storedH xs k a v)->Heap.SameBut d s.heap h'->Q () { s with heap:=h',toks:=s.toks+knd.draws k })
    (hsz:xs.length<=sizeLine:=by size_fits):wpAny (model prog w) A (setItem (.ref d) (.ref a) v) Q E s :=
  oQ hm.of.typeIs (gF (hsz:=hsz) hu hkey hm hQ)
end
section
variable {knd:KeyKind prog w K} {key:Value}
theorem lA {kvs:List (K × Value)} {v:Value} {Q:Unit->Shared->Prop} (hkey:knd.is k key=true) (hm:DictOfE knd s.heap d kvs)
    (hQ:∀ h',DictOfE knd h' d (stored kvs k v)->Heap.SameBut d s.heap h'->Q () { s with heap:=h',toks:=s.toks+1 })
    (hsz:kvs.length<=sizeLine:=by size_fits):wpAny (model prog w) A (dictSet d key v) Q E s:=by
  obtain ⟨o,⟨es⟩,ep,ho,hc,hd,hk,hp,hn,rfl⟩:=hm
  have same:=hp.findIdx k
  have hz:(⟨es⟩:Array DictEntry).size<=sizeLine:=by have:=hp.length;simp at this ⊢;omega
  unfold dictSet
  refine AK (AI (knd.pyHash hkey ?_))
  refine mr (s:={ s with toks:=s.toks+1 }) (F:=fun r=>es.findIdx? (fun e=>knd.is k e.key)=r) ho hc hd hz
    (wpAny_dictFind_of (s:={ s with toks:=s.toks+1 }) hkey ho hd hk ⟨rfl,by simp⟩) ?_ ?_
  · intro i h' o' f g1 g2 g3 g4
    have at':stored kvs k v=_:=if_pos (any_of_findIdx_some (same.symm.trans f))
    refine hQ h' ⟨o',_,_,g1,g2,g3,hk.modify _ _,?_,?_,(Array.size_modify).symm⟩ g4 <;> rw [at']
    · simpa using hp.modify hn f v
    · exact (keys_map_store kvs k v).symm ▸ hn
  · intro h' o' f g1 g2 g3 g4
    have no:=not_mem_of_findIdx_none (same.symm.trans f)
    have at':stored kvs k v=_:=if_neg fun z=>by
      obtain ⟨x,hx,e⟩:=List.any_eq_true.mp z
      exact no (A2.mpr ⟨x,hx,of_decide_eq_true e⟩)
    refine hQ h' ⟨o',_,_,g1,g2,g3,hk.push hkey _,?_,?_,by simp⟩ g4 <;> rw [at']
    · simpa using hp.append hkey (knd.hash k) v
    · rw [List.map_append]
      exact List.nodup_append.mpr ⟨hn,List.nodup_cons.mpr ⟨List.not_mem_nil,List.nodup_nil⟩,fun x hx y hy e=>no (by cases Bi.mp hy;have e':x=k:=e;exact e' ▸ hx)⟩
theorem kM {kvs:List (K × Value)} {v:Value} {Q:Unit->Shared->Prop} (hkey:knd.is k key=true) (hm:DictOfE knd s.heap d kvs)
    (hQ:∀ h',DictOfE knd h' d (stored kvs k v)->Heap.SameBut d s.heap h'->Q () { s with heap:=h',toks:=s.toks+1 })
    (hsz:kvs.length<=sizeLine:=by size_fits):wpAny (model prog w) A (setItem (.ref d) key v) Q E s :=
  oQ hm.of.typeIs (lA (hsz:=hsz) hkey hm hQ)
end
end
section
variable {κ:Type} [DecidableEq κ]
noncomputable def jU (kvs:List (κ × V)) (k:κ):Option V:=(kvs.find? fun kv=>decide (kv.1=k)).map (·.2)
noncomputable def fh (kvs:List (κ × V)) (k:κ) (v:V):List (κ × V) :=
  if (kvs.any fun kv=>decide (kv.1=k))=true then kvs.map (fun kv=>if kv.1=k then (kv.1,v) else kv) else kvs ++ [(k,v)]
theorem ib {p:κ × V} {r:List (κ × V)} {k:κ} (e:p.1=k):jU (p :: r) k=some p.2:=by simp [jU,List.find?_cons,e]
theorem ic {p:κ × V} {r:List (κ × V)} {k:κ} (e:¬ p.1=k):jU (p :: r) k=jU r k:=by simp [jU,List.find?_cons,e]
theorem oG (k:κ):∀ kvs:List (κ × V),(kvs.any fun kv=>decide (kv.1=k))=(jU kvs k).isSome
  | []=>rfl
  | p :: r=>by
    rw [List.any_cons]
    by_cases e:p.1=k
    · simp only [ib e,A9 e,Bool.true_or,Option.isSome_some]
    · rw [ic e,Ba e,Bool.false_or];exact oG k r
theorem jO (kvs:List (κ × V)) (k:κ) (v:V):(fh kvs k v).length<=kvs.length+1:=by
  unfold fh
  split
  · rw [AX];omega
  · rw [Bd,Be,List.length_nil];omega
theorem RelO.isSome_eq {o:Option V} {u:Option Value} (r:RelO o u):o.isSome=u.isSome:=by
  cases o with
  | none=>cases u with
    | none=>rfl
    | some _=>exact (show False from r).elim
  | some _=>cases u with
    | none=>exact (show False from r).elim
    | some _=>rfl
theorem RelO.getD {o:Option V} {u:Option Value} {d:V} {d':Value} (r:RelO o u) (rd:RelV d d'):RelV (o.getD d) (u.getD d'):=by
  cases o with
  | none=>cases u with
    | none=>exact rd
    | some _=>exact (show False from r).elim
  | some _=>cases u with
    | none=>exact (show False from r).elim
    | some _=>exact r
theorem KV.val {kvs:List (κ × V)} {vs:List (κ × Value)} (r:KV kvs vs) (k:κ):RelO (jU kvs k) (valueAt vs k):=by
  unfold KV at r
  induction r with
  | nil=>exact True.intro
  | @cons p q ps qs h t ih =>
    obtain ⟨h1,h2⟩:=h
    by_cases e:p.1=k
    · have e':q.1=k:=h1.symm.trans e
      have b:valueAt (q :: qs) k=some q.2:=by simp [valueAt,List.find?_cons,e']
      rw [ib e,b];exact h2
    · have e':¬ q.1=k:=fun z=>e (h1.trans z)
      have b:valueAt (q :: qs) k=valueAt qs k:=by simp [valueAt,List.find?_cons,e']
      rw [ic e,b];exact ih
theorem KV.any {kvs:List (κ × V)} {vs:List (κ × Value)} (r:KV kvs vs) (k:κ):(kvs.any fun kv=>decide (kv.1=k))=vs.any fun kv=>decide (kv.1=k):=by
  unfold KV at r
  induction r with
  | nil=>rfl
  | cons h t ih=>rw [List.any_cons,List.any_cons,ih,h.1]
theorem KV.repl {kvs:List (κ × V)} {vs:List (κ × Value)} (r:KV kvs vs) (k:κ) {y:V} {u:Value} (ry:RelV y u) :
    KV (kvs.map fun kv=>if kv.1=k then (kv.1,y) else kv) (vs.map fun kv=>if kv.1=k then (kv.1,u) else kv):=by
  unfold KV at r ⊢
  induction r with
  | nil=>exact .nil
  | @cons p q ps qs h t ih =>
    rw [A8,A8]
    refine .cons ?_ ih
    obtain ⟨h1,h2⟩:=h
    by_cases e:p.1=k
    · rw [if_pos e,if_pos (h1.symm.trans e)];exact ⟨h1,ry⟩
    · rw [if_neg e,if_neg (fun z=>e (h1.trans z))];exact ⟨h1,h2⟩
theorem KV.put {kvs:List (κ × V)} {vs:List (κ × Value)} (r:KV kvs vs) (k:κ) {y:V} {u:Value} (ry:RelV y u):KV (fh kvs k y) (stored vs k u):=by
  unfold fh stored
  rw [r.any k]
  by_cases e:(vs.any fun kv=>decide (kv.1=k))=true
  · rw [if_pos e,if_pos e];exact r.repl k ry
  · rw [if_neg e,if_neg e];exact Paired.snoc r ⟨rfl,ry⟩
theorem KV.length {kvs:List (κ × V)} {vs:List (κ × Value)} (r:KV kvs vs):kvs.length=vs.length:=Paired.length r
end
theorem vU {P:Program} {w:World} {k:Key} {u:Value} (r:RelV (kV k) u):(bB P w).is k u=true:=by
  cases k with
  | inl i=>obtain ⟨t,e⟩:=(show ∃ t,u=Value.int i t from r);subst e;exact pB P w i t
  | inr x=>obtain ⟨t,e⟩:=(show ∃ t,u=Value.str x t from r);subst e;exact pA P w x t
theorem mG {P:Program} {w:World}:∀ {ks:List Key} {us:List Value},Vals (ks.map kV) us->ItemsAre (bB P w) ks us
  | [],_,r=>by rw [List.map_nil] at r;cases r;exact .nil
  | k :: ks,_,r=>by
    rw [A8] at r
    cases r with
    | cons h t=>exact .cons (vU h) (mG t)
noncomputable abbrev KT (H:Hp):List (List Key × V)->List (List Key × Addr × Value)->Prop:=Paired fun p q=>p.1=q.1/\H q.2.1=some (.tup (p.1.map kV))/\RelV p.2 q.2.2
theorem KT.val {H:Hp} {kvs:List (List Key × V)} {xs:List (List Key × Addr × Value)} (r:KT H kvs xs) (k:List Key):RelO (jU kvs k) ((atKey xs k).map (·.2)):=by
  induction r with
  | nil=>exact True.intro
  | @cons p q ps qs h t ih =>
    obtain ⟨h1,_,h2⟩:=h
    by_cases e:p.1=k
    · have e':q.1=k:=h1.symm.trans e
      have b:atKey (q :: qs) k=some q.2:=by simp [atKey,List.find?_cons,e']
      rw [ib e,b];exact h2
    · have e':¬ q.1=k:=fun z=>e (h1.trans z)
      have b:atKey (q :: qs) k=atKey qs k:=by simp [atKey,List.find?_cons,e']
      rw [ic e,b];exact ih
theorem KT.repl {H:Hp} {kvs:List (List Key × V)} {xs:List (List Key × Addr × Value)} (r:KT H kvs xs) (k:List Key) {y:V} {u:Value} (ry:RelV y u) :
    KT H (kvs.map fun kv=>if kv.1=k then (kv.1,y) else kv) (xs.map (putAt k u)):=by
  induction r with
  | nil=>exact .nil
  | @cons p q ps qs h t ih =>
    rw [A8,A8]
    refine .cons ?_ ih
    obtain ⟨h1,h2,h3⟩:=h
    unfold putAt
    by_cases e:p.1=k
    · rw [if_pos e,if_pos (h1.symm.trans e)];exact ⟨h1,h2,ry⟩
    · rw [if_neg e,if_neg (fun z=>e (h1.trans z))];exact ⟨h1,h2,h3⟩
theorem KT.put {H:Hp} {kvs:List (List Key × V)} {xs:List (List Key × Addr × Value)} (r:KT H kvs xs) (k:List Key) {b:Addr} {y:V} {u:Value} (hb:H b=some (.tup (k.map kV))) (ry:RelV y u) :
    KT H (fh kvs k y) (storedH xs k b u):=by
  have e:(kvs.any fun kv=>decide (kv.1=k))=(atKey xs k).isSome:=by
    rw [oG,(r.val k).isSome_eq,Option.isSome_map]
  unfold fh storedH
  rw [e]
  by_cases q:(atKey xs k).isSome=true
  · rw [if_pos q,if_pos q];exact r.repl k ry
  · rw [if_neg q,if_neg q];exact Paired.snoc r ⟨rfl,hb,ry⟩
theorem KT.keeps {H H':Hp} {kvs:List (List Key × V)} {xs:List (List Key × Addr × Value)} (r:KT H kvs xs) (ht:∀ b ys,H b=some (.tup ys)->H' b=some (.tup ys)):KT H' kvs xs :=
  Paired.mapP r fun _ _ z=>⟨z.1,ht _ _ z.2.1,z.2.2⟩
section
variable {P:Program} {w:World} {H:Hp} {h:Heap} {a:Addr}
theorem yt {u:HO} (ok:HOk P w H h) (e:Rd H a u):ObjOk P w H h a u:=e.ok ok
theorem wg {kvs:List (Key × V)} (ok:HOk P w H h) (e:Rd H a (.dK kvs)):kvs.length<=sizeLine/\(a == sysModules)=false/\∃ vs,KV kvs vs/\DictOfE (bB P w) h a vs :=
  show ObjOk P w H h a (.dK kvs) from yt ok e
theorem yR {kvs:List (Key × V)} (ok:HOk P w H h) (e:Rd H a (.dK kvs)):kvs.length<=sizeLine/\(a == sysModules)=false/\∃ vs,KV kvs vs/\h.DictOf (bB P w) a vs:=let ⟨z,y,vs,r,d⟩:=wg ok e;⟨z,y,vs,r,d.of⟩
theorem nK {ks:List Key} (ok:HOk P w H h) (e:H a=some (.tup (ks.map kV))):(tupleKind (bB P w)).is h ks a:=by
  obtain ⟨_,its,r,o,h1,h2,n,h3⟩:=(show ObjOk P w H h a (.tup (ks.map kV)) from ok a _ e)
  exact ⟨o,its.toArray,n,h1,h2,congrArg Prod.fst h3,by simpa using mG r⟩
theorem re {kvs:List (List Key × V)} (ok:HOk P w H h) (e:Rd H a (.dT kvs)):kvs.length<=sizeLine/\(a == sysModules)=false /\
    ∃ xs,KT H kvs xs/\DictOfHE (tupleKind (bB P w)) h a xs:=by
  obtain ⟨z,y,xs,r,o,es,ep,h1,h2,h3,h4,h5⟩:=(show ObjOk P w H h a (.dT kvs) from yt ok e)
  refine ⟨z,y,xs,r,o,es,ep,h1,h2,h3,h4,fun x hx=>?_,h5⟩
  have all:∀ {l:List (List Key × V)} {m:List (List Key × Addr × Value)},KT H l m->∀ x ∈ m,(tupleKind (bB P w)).is h x.1 x.2.1:=by
    intro l m q
    induction q with
    | nil=>intro x hx;exact nomatch hx
    | @cons p q ps qs hq t ih =>
      intro x hx
      rcases AS.mp hx with e | hx
      · subst e
        exact nK ok (by rw [<- hq.1];exact hq.2.1)
      · exact ih x hx
  exact all r x hx
theorem yQ {kvs:List (List Key × V)} (ok:HOk P w H h) (e:Rd H a (.dT kvs)):kvs.length<=sizeLine/\(a == sysModules)=false /\
    ∃ xs,KT H kvs xs/\h.DictOfH (tupleKind (bB P w)) a xs:=let ⟨z,y,xs,r,d⟩:=re ok e;⟨z,y,xs,r,d.of⟩
end
noncomputable def DGet (H:Hp) (a:Addr) (y:V) (r:Option V):Prop :=
  (∃ kvs k,Rd H a (.dK kvs)/\y=kV k/\r=jU kvs k)\/∃ kvs k b,Rd H a (.dT kvs)/\y=.ref b/\H b=some (.tup (k.map kV))/\r=jU kvs k
noncomputable def DPut (H:Hp) (a:Addr) (y v:V) (H':Hp):Prop :=
  (∃ kvs k,H a=some (.dK kvs)/\y=kV k/\kvs.length < sizeLine/\H'=upd H a (.dK (fh kvs k v))) \/
  ∃ kvs k b,H a=some (.dT kvs)/\y=.ref b/\H b=some (.tup (k.map kV))/\kvs.length < sizeLine/\H'=upd H a (.dT (fh kvs k v))
theorem DGet.t {H:Hp} {a b:Addr} {kvs:List (List Key × V)} {k:List Key} (e:H a=some (.dT kvs)) (eb:H b=some (.tup (k.map kV))):DGet H a (.ref b) (jU kvs k):=.inr ⟨kvs,k,b,.inl e,rfl,eb,rfl⟩
theorem DPut.t {H:Hp} {a b:Addr} {kvs:List (List Key × V)} {k:List Key} {v:V} (e:H a=some (.dT kvs)) (eb:H b=some (.tup (k.map kV))) (hl:kvs.length < sizeLine) :
    DPut H a (.ref b) v (upd H a (.dT (fh kvs k v))):=.inr ⟨kvs,k,b,e,rfl,eb,hl,rfl⟩
section
variable {X:Cx} {pins:List (Addr × Obj)} {σ:St} {H:Hp} {s:Shared} {a:Addr} {y v:V} {u r:Value} {o:Option V} {A:Around} {E:Value->Shared->Prop}
theorem Inv.big (I:Inv X pins σ H s):sysModules < s.heap.objs.size:=by
  have h:mainGlobals < s.heap.objs.size:=(I.mod.glob.keeps I.bk).lt
  exact Nat.lt_trans (by decide) h
theorem uc {Q:Value->Shared->Prop} (hu:A.units+1 < cLine) (I:Inv X pins σ H s) (g:DGet H a y (some v)) (ry:RelV y u) (h:∀ w' s',Inv X pins σ H s'->RelV v w'->Q w' s') :
    wpAny (model X.prog X.w) A (getItem (.ref a) u) Q E s:=by
  rcases g with ⟨kvs,k,e,ey,l⟩ | ⟨kvs,k,b,e,ey,eb,l⟩
  · subst ey
    obtain ⟨z,hd,vs,rel,dd⟩:=yR I.hok e
    obtain ⟨w',hw,rw'⟩:=RelO.some_of (v:=v) (o:=valueAt vs k) (by rw [l];exact rel.val k)
    exact wpAny_getItem_of (vU ry) dd.mapOf hw (h w' _ (I.tok _) rw')
  · subst ey
    cases (show u=Value.ref b from ry)
    obtain ⟨z,hd,xs,rel,dd⟩:=yQ I.hok e
    obtain ⟨w',hw,rw'⟩:=RelO.some_of (v:=v) (o:=(atKey xs k).map (·.2)) (by rw [l];exact rel.val k)
    obtain ⟨p,hp,hp2⟩:=AO.mp hw
    refine wpAny_getItem_heap (tupleKind_room_in1 hu) (nK I.hok eb) dd hp ?_
    rw [hp2]
    exact h w' _ (I.tok _) rw'
theorem sk {h':Heap} {t':Nat} {ob:HO} (I:Inv X pins σ H s) (mu:Mut (H a)) (hs:Heap.SameBut a s.heap h') (he:∃ q,h'.get? a=some q) (new:ObjOk X.prog X.w (upd H a ob) h' a ob) :
    Inv X pins σ (upd H a ob) { s with heap:=h',toks:=t' } :=
  I.write (x:=a) (e:=a) mu (.inl rfl) (fun b q hb z=>(hs.2 b hb).trans z) he new
theorem Av {P:Program} {w:World} {H':Hp} {h':Heap} {kvs:List (Key × V)} {vs:List (Key × Value)} (z:kvs.length<=sizeLine) (hd:(a == sysModules)=false) (rel:KV kvs vs) (dd:DictOfE (bB P w) h' a vs) :
    ObjOk P w H' h' a (.dK kvs):=⟨z,hd,vs,rel,dd⟩
theorem ub {H':Hp} {Q:Unit->Shared->Prop} (hu:A.units+1 < cLine) (I:Inv X pins σ H s) (g:DPut H a y v H') (ry:RelV y u) (rv:RelV v r) (h:∀ s',Inv X pins σ H' s'->Q () s') :
    wpAny (model X.prog X.w) A (setItem (.ref a) u r) Q E s:=by
  rcases g with ⟨kvs,k,e,ey,l,eH⟩ | ⟨kvs,k,b,e,ey,eb,l,eH⟩
  · subst ey eH
    obtain ⟨z,hd,vs,rel,dd⟩:=wg I.hok (.inl e)
    have hz:vs.length<=sizeLine:=by rw [<- rel.length];exact z
    have hl:(fh kvs k v).length<=sizeLine:=by have:=jO kvs k v;omega
    refine kM (hsz:=hz) (vU ry) dd fun h' dd' hs=>h _ ?_
    have he:∃ q,h'.get? a=some q:=let ⟨q,_,_,hq,_⟩:=dd';⟨q,hq⟩
    exact sk I (by rw [e];exact True.intro) hs he (Av hl hd (rel.put k rv) dd')
  · subst ey eH
    cases (show u=Value.ref b from ry)
    obtain ⟨z,hd,xs,rel,dd⟩:=re I.hok (.inl e)
    have hz:xs.length<=sizeLine:=by rw [<- Paired.length rel];exact z
    have hl:(fh kvs k v).length<=sizeLine:=by have:=jO kvs k v;omega
    refine lN (hsz:=hz) (tupleKind_room_in1 hu) (nK I.hok eb) dd fun h' dd' hs=>h _ ?_
    obtain ⟨q,es,ep,hq,h2,h3,h4,_,h5⟩:=dd'
    refine sk I (by rw [e];exact True.intro) hs ⟨q,hq⟩ ⟨hl,hd,_,(rel.put k eb rv).keeps fun c ys ec=>?_,q,es,ep,hq,h2,h3,h4,h5⟩
    rw [aw (ne_of ec e (fun z=>nomatch z))]
    exact ec
end
theorem pZ {X:Cx} {pins:List (Addr × Obj)} {σ:St} {H:Hp} {s:Shared} {a:Addr} {y:V} {o:Option V} (I:Inv X pins σ H s) (g:DGet H a y o):s.TypeIs (.ref a) "dict":=by
  rcases g with ⟨kvs,k,e,_,_⟩ | ⟨kvs,k,b,e,_,_,_⟩
  · obtain ⟨_,_,vs,_,dd⟩:=yR I.hok e
    exact dd.typeIs
  · obtain ⟨_,_,xs,_,dd⟩:=yQ I.hok e
    exact dd.typeIs
theorem wd {P:Program} {w:World} {H:Hp} (h:Heap) (hb:sysModules < h.objs.size):ObjOk P w H (h.push { cls:=.type "dict",data:=.dict #[] }) h.objs.size (.dT []) :=
  ⟨Nat.zero_le _,beq_eq_false_iff_ne.mpr (Ne.symm (A6 hb)),[],.nil,_,#[],0,AW _ rfl,⟨rfl,rfl,rfl⟩,rfl,rfl,List.nodup_nil,rfl⟩
noncomputable def zo:TE:=fun _ H Q=>∀ p,H p=none->Q (.ref p) (upd H p (.dT []))
section
variable {X:Cx} {pos:Pos}
theorem vv:PE X (.Dict [] [] pos) zo:=fun pins s σ H Q I h =>
  wpAny_Dict_empty ⟨.ref s.heap.objs.size,_,I.laid (a:=s.heap.objs.size) (o:=.dT []) (t':=s.toks) (fun _ _ q=>AN _ q) (A4 _) (wd s.heap I.big),rfl,h _ (I.hok.fresh (A4 _))⟩
end
end L2
namespace L2
open PySem PySem.Spec PyProof.Rows
end L2
end
section
namespace L2
open PySem PySem.Spec PyProof.Rows
noncomputable def kh (cells:List (Str × Addr)) (cs:List (Str × Addr)) (x:Str × NameKind):List (Str × Addr) :=
  if x.2 == .free then (match cells.lookup x.1 with | some c=>(x.1,c) :: cs | none=>cs) else cs
noncomputable def clo (cells:List (Str × Addr)) (names:List (Str × NameKind)):List (Str × Addr):=names.foldl (kh cells) []
theorem ls {α β:Type} {f:α->β->Sem (ForInStep β)} {g:β->α->β}:∀ {l:List α} {c:β},(∀ x ∈ l,∀ c,f x c=pure (.yield (g c x)))->forIn l c f=pure (l.foldl g c)
  | [],c,_=>rfl
  | x :: l,c,h=>by
    rw [List.forIn_cons,h x AL,pure_bind]
    exact ls fun y hy=>h y (AM _ hy)
theorem gc {scope:Scope} {env:Env} (h:∀ x ∈ scope.names,x.2=.free->∃ c,env.cells.lookup x.1=some c):closureFor scope env=pure (clo env.cells scope.names):=by
  simp only [closureFor]
  rw [ls (g:=kh env.cells) (fun x hx c=>by
    obtain ⟨n,kind⟩:=x
    unfold kh
    by_cases hk:kind=.free
    · subst hk
      obtain ⟨a,e⟩:=h _ hx rfl
      have e':env.cells.lookup n=some a:=e
      simp [cellOf,e']
    · have hb:(kind == NameKind.free)=false:=by simpa using hk
      simp [hb])]
  rfl
theorem mK {cells:List (Str × Addr)} {x:Str} {c:Addr}:∀ {l:List (Str × NameKind)} {cs:List (Str × Addr)},(∀ y d,cs.lookup y=some d->cells.lookup y=some d)->(l.foldl (kh cells) cs).lookup x=some c->cells.lookup x=some c
  | [],cs,h,e=>h x c e
  | y :: l,cs,h,e=>by
    refine mK (l:=l) (cs:=kh cells cs y) (fun z d q=>?_) e
    unfold kh at q
    split at q
    · cases e2:cells.lookup y.1 with
      | none=>rw [e2] at q;exact h z d q
      | some a =>
        rw [e2] at q
        simp only [List.lookup_cons] at q
        cases hz:z == y.1 with
        | true=>rw [hz] at q;have:=eq_of_beq hz;subst this;rw [e2];exact q
        | false=>rw [hz] at q;exact h z d q
    · exact h z d q
theorem iU {cells:List (Str × Addr)} {l:List (Str × NameKind)} {x:Str} {c:Addr} (e:(clo cells l).lookup x=some c):cells.lookup x=some c:=mK (fun _ _ q=>by simp at q) e
theorem lw {cells:List (Str × Addr)} {x:Str} {c:Addr} (hc:cells.lookup x=some c):∀ {l:List (Str × NameKind)} {cs:List (Str × Addr)},cs.lookup x=some c->(l.foldl (kh cells) cs).lookup x=some c
  | [],_,e=>e
  | y :: l,cs,e=>by
    refine lw hc (l:=l) (cs:=kh cells cs y) ?_
    unfold kh
    split
    · cases e2:cells.lookup y.1 with
      | none=>exact e
      | some a =>
        simp only [List.lookup_cons]
        cases hz:x == y.1 with
        | true=>have:=eq_of_beq hz;subst this;rw [hc] at e2;exact e2.symm
        | false=>exact e
    · exact e
theorem mM {cells:List (Str × Addr)} {x:Str} {c:Addr} (hc:cells.lookup x=some c):∀ {l:List (Str × NameKind)} {cs:List (Str × Addr)},(x,NameKind.free) ∈ l->(l.foldl (kh cells) cs).lookup x=some c
  | [],_,m=>by simp at m
  | y :: l,cs,m=>by
    rcases AS.mp m with rfl | m
    · refine lw hc (l:=l) ?_
      simp [kh,hc]
    · exact mM hc (l:=l) (cs:=kh cells cs y) m
theorem su {cells:List (Str × Addr)} {l:List (Str × NameKind)} {x:Str} {c:Addr} (hc:cells.lookup x=some c) (m:(x,NameKind.free) ∈ l):(clo cells l).lookup x=some c:=mM hc m
theorem iw {env:Env}:∀ {names:List (Str × NameKind)} {x:Str},names.lookup x=some .free ->
    (names.map fun (n,k)=>if (k == NameKind.free && env.scope.kind == .function && env.kindOf n == some .cell) then (n,NameKind.cell) else (n,k)).lookup x=some .cell \/
    (names.map fun (n,k)=>if (k == NameKind.free && env.scope.kind == .function && env.kindOf n == some .cell) then (n,NameKind.cell) else (n,k)).lookup x=some .free
  | [],_,h=>by simp at h
  | (n,k) :: r,x,h=>by
    have ih:=@iw env r x
    show List.lookup x ((if (k == NameKind.free && env.scope.kind == .function && env.kindOf n == some .cell)=true then (n,NameKind.cell) else (n,k)) :: _)=_ \/
      List.lookup x ((if (k == NameKind.free && env.scope.kind == .function && env.kindOf n == some .cell)=true then (n,NameKind.cell) else (n,k)) :: _)=_
    cases hx:x == n with
    | true =>
      simp only [List.lookup_cons,hx] at h
      cases h
      split
      · left;simp [List.lookup_cons,hx]
      · right;simp [List.lookup_cons,hx]
    | false =>
      simp only [List.lookup_cons,hx] at h
      split
      · simp only [List.lookup_cons,hx];exact ih h
      · simp only [List.lookup_cons,hx];exact ih h
theorem kX {env:Env}:∀ {names:List (Str × NameKind)} {x:Str},(∀ y ∈ names,y.2 ≠ .cell) ->
    ((names.map fun (n,k)=>if (k == NameKind.free && env.scope.kind == .function && env.kindOf n == some .cell) then (n,NameKind.cell) else (n,k)).lookup x=some .cell \/
    (names.map fun (n,k)=>if (k == NameKind.free && env.scope.kind == .function && env.kindOf n == some .cell) then (n,NameKind.cell) else (n,k)).lookup x=some .free)->(x,NameKind.free) ∈ names
  | [],_,_,h=>by simp at h
  | (n,k) :: r,x,hc,h=>by
    have ih:=@kX env r x (fun y hy=>hc y (AM _ hy))
    have hk:=hc (n,k) AL
    have h':List.lookup x ((if (k == NameKind.free && env.scope.kind == .function && env.kindOf n == some .cell)=true then (n,NameKind.cell) else (n,k)) :: (r.map fun (n,k)=>if (k == NameKind.free && env.scope.kind == .function && env.kindOf n == some .cell) then (n,NameKind.cell) else (n,k)))=some .cell \/
      List.lookup x ((if (k == NameKind.free && env.scope.kind == .function && env.kindOf n == some .cell)=true then (n,NameKind.cell) else (n,k)) :: (r.map fun (n,k)=>if (k == NameKind.free && env.scope.kind == .function && env.kindOf n == some .cell) then (n,NameKind.cell) else (n,k)))=some .free:=h
    cases hx:x == n with
    | true =>
      have e:=eq_of_beq hx
      subst e
      by_cases hf:k=.free
      · subst hf;exact AL
      · exfalso
        have hb:(k == NameKind.free)=false:=by simpa using hf
        simp [hb,List.lookup_cons] at h'
        rcases h' with q | q
        · exact hk q
        · exact hf q
    | false =>
      refine AM _ (ih ?_)
      split at h'
      · simpa only [List.lookup_cons,hx] using h'
      · simpa only [List.lookup_cons,hx] using h'
noncomputable def aE (X:Cx) (NY:List Str) (scope:Scope) (s:Shared) (H:Hp) (C:Addr) (fp:List Addr):Cx where
  prog:=X.prog
  w:=X.w
  K:=X.K
  mg:=X.mg
  base:=X.base
  A:=X.A
  N:=NY
  s₀:=s
  H₀:=H
  env:=compEnvC scope (clo X.env.cells scope.names) C X.env
  outer:=X.stack
  stack:=X.stack
  ex:=fp
  fn:=fun _=>false
  calm:=X.calm
  pn:=[]
  xe:=fun _ _=>False
noncomputable def cap (ix:List (Option Nat)) (σ:St):St:=ix.map fun o=>match o with | some i=>(σ[i]?).getD none | none=>none
noncomputable def jB (sc:Scope) (XN:List Str) (Xsc:Scope) (NY:List Str) (ix:List (Option Nat)):Bool :=
  sc.kind == .function && sc.names.all (fun y=>y.2 != .cell) && sc.names.all (fun y=>y.2 != .local || sc.names.lookup y.1 == some .local) && sc.names.all (fun y=>y.2 != .free || sc.names.lookup y.1 == some .free)
    && sc.names.all (fun y=>y.2 != .free || (Xsc.names.lookup y.1 == some .cell || Xsc.names.lookup y.1 == some .free))
    && ix.length == NY.length && (NY.zip ix).all fun p=>match p.2 with | none=>true | some i=>(XN[i]? == some p.1) && sc.names.contains (p.1,NameKind.free)
structure CompOk (sc:Scope) (XN:List Str) (Xsc:Scope) (NY:List Str) (ix:List (Option Nat)):Prop where
  kind:sc.kind=.function
  nocell:∀ y ∈ sc.names,y.2 ≠ .cell
  loc:∀ y ∈ sc.names,y.2=.local->sc.names.lookup y.1=some .local
  fre:∀ y ∈ sc.names,y.2=.free->sc.names.lookup y.1=some .free
  out:∀ y ∈ sc.names,y.2=.free->Xsc.names.lookup y.1=some .cell\/Xsc.names.lookup y.1=some .free
  len:ix.length=NY.length
  cap:∀ (j:Nat) x i,NY[j]?=some x->ix[j]?=some (some i)->XN[i]?=some x/\(x,NameKind.free) ∈ sc.names
theorem CompOk.of {sc:Scope} {XN:List Str} {Xsc:Scope} {NY:List Str} {ix:List (Option Nat)} (h:jB sc XN Xsc NY ix=true):CompOk sc XN Xsc NY ix:=by
  simp only [jB,Bool.and_eq_true,List.all_eq_true,beq_iff_eq] at h
  obtain ⟨⟨⟨⟨⟨⟨h1,h2⟩,h3⟩,h4⟩,h5⟩,h6⟩,h7⟩:=h
  refine ⟨h1,fun y hy=>by simpa using h2 y hy,fun y hy e=>?_,fun y hy e=>?_,fun y hy e=>?_,h6,fun j x i e1 e2=>?_⟩
  · have:=h3 y hy;rw [e] at this;simpa using this
  · have:=h4 y hy;rw [e] at this;simpa using this
  · have:=h5 y hy;rw [e] at this;simpa using this
  · have m:(x,some i) ∈ NY.zip ix:=by
      refine AZ (i:=j) ?_
      rw [List.getElem?_zip_eq_some]
      exact ⟨e1,e2⟩
    have:=h7 _ m
    simpa using this
section
variable {X:Cx}
theorem FpOk.of_upd {pins:List (Addr × Obj)} {H:Hp} {b D:Addr} {o:HO} (f:FpOk X pins H b) (h:b ≠ D):FpOk X pins (upd H D o) b:=⟨by rw [aw h];exact f.1,f.2⟩
theorem HOk.track {P:Program} {w:World} {H:Hp} {h:Heap} {a:Addr} {o:HO} (x:HOk P w H h) (hn:H a=none) (new:ObjOk P w (upd H a o) h a o):HOk P w (upd H a o) h:=fun b u e=>by
  by_cases hb:b=a
  · subst hb;rw [aV] at e;cases e;exact new
  · rw [aw hb] at e
    exact (x b u e).stay (fun c v _ q=>q) (fun c q=>by rw [aw (aY q hn)];exact q) fun c xs q=>by rw [aw (aY q hn)];exact q
noncomputable def PTs (Y:Cx) (ifs:List Expr) (t:TT):Prop :=
  ∀ (pins:List (Addr × Obj)) (s:Shared) (σ:St) (H:Hp) (Q:Bool->Hp->Prop),Inv Y pins σ H s->t σ H Q ->
    wpAny (model Y.prog Y.w) Y.A (forIn ifs true fun c r=>if r=true then do let ok <- isTrue c Y.env (eval c Y.env);pure (ForInStep.yield ok) else pure (ForInStep.yield r)) (TP Y pins σ Q) Y.xe s
noncomputable def tYes:TT:=fun _ H Q=>Q true H
theorem xp {Y:Cx}:PTs Y [] tYes:=fun pins s σ H Q I h=>wpAny_tests_nil ⟨H,I,h⟩
theorem xo {Y:Cx} {c:Expr} {t:TT} (h:PT Y c t):PTs Y [c] t:=fun pins s σ H Q I q=>wpAny_tests_one (h pins s σ H Q I q)
noncomputable def qc (J:It) (g:TG) (tc:TT) (te:TE) (Z:List V->Hp->Prop) (τ0:St) (H1:Hp):Prop :=
  ∃ W:Nat->Nat->List V->St->Hp->Prop,(∃ m,W 0 m [] τ0 H1)/\∀ i m ys τ H,W i m ys τ H->ys.length < sizeLine /\
    ((J.stop i H/\Z ys H)\/(J.go i H/\∃ N:List V->St->Hp->Prop,(∀ ys' τ' H',N ys' τ' H'->∃ m',m' < m/\W (i+1) m' ys' τ' H')/\∀ x H',J.yld i H x H'->g x τ H' fun τ2 H2=>tc τ2 H2 fun b H3 =>
      if b=true then te τ2 H3 fun y H4=>N (ys ++ [y]) τ2 H4 else N ys τ2 H3))
noncomputable def uS (wi:TI) (g:TG) (tc:TT) (te:TE) (ix:List (Option Nat)):TE:=fun σ H Q =>
  wi σ H fun J H1=>qc J g tc te (fun ys H2=>∀ p,H2 p=none->Q (.ref p) (upd H2 p (.lst ys))) (cap ix σ) H1
theorem lB {NY:List Str} {scope:Scope} {ix:List (Option Nat)} {pins:List (Addr × Obj)} {σ:St} {H:Hp} {s s4:Shared} {fp:List Addr} {C:Addr} (ck:CompOk scope X.N X.env.scope NY ix)
    (I:Inv X pins σ H s) (f:∀ b ∈ fp,FpOk X pins H b) (hC:s.heap.objs.size<=C) (hfp:∀ b ∈ fp,b < s.heap.objs.size) (h4:s4.os=s.os) (hg:s4.gens=s.gens) (keep:∀ b o,s.heap.get? b=some o->s4.heap.get? b=some o)
    (ns:s4.heap.Ns C fun _=>none):Inv (aE X NY scope s H C fp) [] (cap ix σ) H s4:=by
  have fC:FpOk X pins H C:=I.fpOk hC (I.hok.fresh hC)
  have cls:∀ x c,(clo X.env.cells scope.names).lookup x=some c->X.env.cells.lookup x=some c:=fun x c e=>iU e
  have hset:∀ x,(x,NameKind.free) ∈ scope.names->∃ c,X.env.cells.lookup x=some c:=fun x m=>by
    rcases ck.out _ m rfl with q | q
    · exact I.ok.has x (.inl q)
    · exact I.ok.has x (.inr q)
  refine ⟨⟨I.ok.mod,ck.kind,I.ok.glob,I.ok.blt,hC,fun x y c e1 e2=>I.ok.inj x y c (cls x c e1) (cls y c e2),fun x hx=>?_,fun x c e _=>(A5 e).elim,fun e=>I.ok.hd e,I.ok.frames,.inl rfl,fun b hb=>⟨A6 (Bb (hfp b hb) hC),fun x c e=>(f b hb).2.2.2.2.1 x c (cls x c e)⟩,
    I.bs,Br I.ok.bsz I.sz,fun b o e hb=>?_,fun b hb hz=>?_,I.stack,I.stkFree⟩,h4,by rw [hg];exact I.bare,Un.kept keep,⟨_,ns,fun i x v e1 e2 e3=>?_⟩,fun x c e=>?_,fC.1,fun x c e=>I.freeC x c (cls x c e),fun p hp=>absurd (show p ∈ ([]:List (Addr × Obj)) from hp) (by simp),I.hok.kept keep,?_⟩
  · have m:(x,NameKind.free) ∈ scope.names:=kX ck.nocell hx
    obtain ⟨c,e⟩:=hset x m
    exact ⟨c,su e m⟩
  · rcases (f b hb).2.2.2.1 with z | z
    · exact I.ok.noex b o e z
    · exact absurd (Bb (AU e) (Br I.ok.bsz z)) (Nat.lt_irrefl _)
  · rcases AS.mp (I.stkSub b hz) with e | e
    · exact (f b hb).2.1 e
    · exact (f b hb).2.2.1 e
  · -- a captured name
    have q:∃ k,ix[i]?=some (some k)/\σ[k]?=some (some v):=by
      unfold cap at e2
      rw [A3] at e2
      cases e:ix[i]? with
      | none=>rw [e] at e2;simp at e2
      | some o =>
        rw [e] at e2
        cases o with
        | none=>simp at e2
        | some k =>
          refine ⟨k,rfl,?_⟩
          simp only [Bg,Option.some.injEq] at e2
          cases e':σ[k]? with
          | none=>rw [e'] at e2;simp at e2
          | some o'=>rw [e'] at e2;simp at e2;rw [e2]
    obtain ⟨k,ek,ev⟩:=q
    obtain ⟨eN,m⟩:=ck.cap i x k e1 ek
    obtain ⟨mX,hnX,hl⟩:=I.loc
    have hv:Vis X.env.scope x:=by
      rcases ck.out _ m rfl with q | q
      · exact .inr (.inl q)
      · exact .inr (.inr q)
    obtain ⟨u,r,l⟩:=hl k x v eN ev hv
    refine ⟨u,r,.inr ?_⟩
    rcases l with ⟨kl,_⟩ | ⟨_,c,ec,hc⟩
    · exfalso
      rcases ck.out _ m rfl with q | q
      · have:=kl.symm.trans q;cases this
      · have:=kl.symm.trans q;cases this
    · obtain ⟨o,ho,hd⟩:=hc
      exact ⟨iw (ck.fre _ m rfl),c,su ec m,o,keep c o ho,hd⟩
  · obtain ⟨v,o,ho,hd⟩:=I.cell x c (cls x c e)
    exact ⟨v,o,keep c o ho,hd⟩
  · show (cap ix σ).length=NY.length
    unfold cap
    rw [AX]
    exact ck.len
set_option tactic.hygienic true in
theorem dl {prog:Program} {w:World} {A:Around} {R:Result->Shared->Prop} {s:Shared} {elt target iter:Expr} {ifs:List Expr} {scope:Scope} {pos:Pos} {it acc:Value} {env:Env} (I:Nat->Shared->Prop)
    (turn:∀ n s,I n s->wpAny (model prog w) A (pyNext it) (fun r s₁=>match r with
      | none=>R (.ok .next) s₁
      | some v=>wpAny (model prog w) A (letOwnedTupleGo target it v) (fun _ s₁'=>wpAny (model prog w) A (assign target env v) (fun _ s₂ =>
          wpAny (model prog w) A (forIn ifs true fun c r=>if r=true then do let ok <- isTrue c env (eval c env);pure (ForInStep.yield ok) else pure (ForInStep.yield r)) (fun ok s₃ =>
            if ok=true then wpAny (model prog w) A (eval elt env) (fun x s₄ =>
              wpAny (model prog w) A (call (.builtin "list.append") [acc,x]) (fun _ s₅=>∃ m,m < n/\I m s₅) (fun _ _=>False) s₄) (fun _ _=>False) s₃
            else ∃ m,m < n/\I m s₃) (fun _ _=>False) s₂) (fun _ _=>False) s₁') (fun _ _=>False) s₁) (fun _ _=>False) s)
    (n:Nat) (h:I n s) :
    codeAny (model prog w) A (.compLoop (.ListComp elt [⟨target,iter,ifs,0⟩] scope pos) 0 it acc env) R s:=by
  refine codeAny_loop rfl I (fun n s hI=>?_) n h
  show wpAny _ A ((compTurn (.ListComp elt [⟨target,iter,ifs,0⟩] scope pos) 0 it acc env).onRaise (fun x=>do noteFrame x env;theTreesLotGoes x)) _ _ s
  refine wpAny_noted ?_
  rw [compTurn_list]
  refine AI (wpAny_standAt (AI (wpAny_mono (turn n s hI) (fun r s₁ h₁=>?_) fun _ _ h'=>h'.elim)))
  cases r with
  | none=>exact AJ h₁
  | some v =>
    refine AI (wpAny_mono h₁ (fun _ s₁' h₁'=>?_) fun _ _ h'=>h'.elim)
    refine AI (wpAny_mono h₁' (fun _ s₂ h₂=>AI (wpAny_mono h₂ (fun ok s₃ h₃=>?_) fun _ _ h'=>h'.elim)) fun _ _ h'=>h'.elim)
    cases ok with
    | false=>exact AJ ⟨rfl,h₃⟩
    | true =>
      exact AI (AI (wpAny_mono h₃ (fun x s₄ h₄=>AI (wpAny_mono h₄ (fun _ s₅ h₅=>AJ (AJ ⟨rfl,h₅⟩)) fun _ _ h'=>h'.elim)) fun _ _ h'=>h'.elim))
set_option tactic.hygienic true in
theorem wk {elt tg iter:Expr} {ifs:List Expr} {NY:List Str} {scope:Scope} {ix:List (Option Nat)} {pos:Pos} {pins:List (Addr × Obj)} {σ:St} {H:Hp} {s:Shared} {fp:List Addr} {it:Addr} {tn:Nat->Heap->Prop} {J:It} {g:TG} {tc:TT} {te:TE} {Z:List V->Hp->Prop} {E:Value->Shared->Prop}
    {RR:Value->Addr->Result->Shared->Prop} (hc:X.calm=true) (ck:CompOk scope X.N X.env.scope NY ix)
    (hg:∀ s H C fp,PG (aE X NY scope s H C fp) tg g) (ht:∀ s H C fp,PTs (aE X NY scope s H C fp) ifs tc) (he:∀ s H C fp,PE (aE X NY scope s H C fp) elt te)
    (I:Inv X pins σ H s) (T:Turn X.prog X.w X.K tg J fp it tn) (st:tn 0 s.heap) (f:∀ b ∈ fp,FpOk X pins H b) (hW:qc J g tc te Z (cap ix σ) H)
    (hRR:∀ D C s' ys H' m,s'.heap.Ns C m->H' D=none->FpOk X pins (upd H' D (.lst ys)) C->Inv X pins σ (upd H' D (.lst ys)) s'->Z ys H'->RR (.ref D) C (.ok .next) s') :
    wpAny (model X.prog X.w) X.A (newList []) (fun acc s₃=>wpAny (model X.prog X.w) X.A (newFunctionEnv scope X.env.globals (clo X.env.cells scope.names) [] X.env.qual none .none (some X.env)) (fun cenv s₄ =>
      codeAny (model X.prog X.w) X.A (.compStart (.ListComp elt [⟨tg,iter,ifs,0⟩] scope pos) 0 (.ref it) acc { cenv with scope:=relabel scope X.env }) (RR acc cenv.locals) s₄) E s₃) E s:=by
  obtain ⟨W,⟨m0,w0⟩,turn⟩:=hW
  refine wpAny_newObj_type (wpAny_newFunctionEnv ck.nocell (by intro y hy;simp at hy) (fun h₁ hns₁ hsb₁=>?_) ck.kind)
  dsimp only at hns₁ hsb₁ ⊢
  generalize hH2:s.heap.push { cls:=.type "list",dict:=none,data:=.seq ([]:List Value).toArray }=H2 at hns₁ hsb₁ ⊢
  have hCs:H2.objs.size=s.heap.objs.size+1:=by rw [<- hH2,Bp]
  have hDC:s.heap.objs.size ≠ H2.objs.size:=by rw [hCs];exact A6 (Nat.lt_succ_self _)
  have hCle:s.heap.objs.size<=H2.objs.size:=by rw [hCs];exact Nat.le_succ _
  generalize hD:s.heap.objs.size=D at *
  generalize hC:H2.objs.size=C at *
  have below:∀ b o,s.heap.get? b=some o->b < D:=fun b o e=>by rw [<- hD];exact AU e
  have old:∀ b o,s.heap.get? b=some o->h₁.get? b=some o:=fun b o e=>hsb₁.extBut b o (A6 (Bb (below b o e) hCle)) (AN _ (hH2 ▸ AN _ e))
  have hacc0:H2.get? D=some { cls:=.type "list",dict:=none,data:=.seq ([]:List Value).toArray }:=by
    rw [<- hH2,<- hD];exact AW _ rfl
  have hacc:h₁.PlainList D #[]:=⟨_,hsb₁.extBut _ _ hDC (AN _ hacc0)⟩
  have hfp:∀ b ∈ fp,b < s.heap.objs.size:=fun b hb=>by
    obtain ⟨o,e,_⟩:=T.obj 0 _ st b hb
    exact AU e
  have hfpD:∀ b ∈ fp,b < D:=fun b hb=>by rw [<- hD];exact hfp b hb
  have IY:Inv (aE X NY scope s H C fp) [] (cap ix σ) H { s with heap:=h₁,toks:=s.toks+([]:List (Str × Value)).length } :=
    lB ck I f (by rw [hD];exact hCle) hfp rfl rfl old hns₁
  have HDn:H D=none:=I.hok.fresh (by rw [hD];exact A4 _)
  have stackLt:∀ b ∈ frs X.stack,b < D:=fun b hb=>by
    obtain ⟨_,o,ho,_⟩:=I.stack.mem hb
    exact below b o ho
  have loop:∀ s₃:Shared,s₃ = { s with heap:=h₁,toks:=s.toks+([]:List (Str × Value)).length } ->
      codeAny (model X.prog X.w) X.A (.compLoop (.ListComp elt [⟨tg,iter,ifs,0⟩] scope pos) 0 (.ref it) (.ref D) (aE X NY scope s H C fp).env) (RR (.ref D) C) s₃:=by
    rintro s₃ rfl
    refine dl (fun n s'=>∃ i ys τ H' its,Inv (aE X NY scope s H C fp) [] τ H' s'/\H' D=none/\s'.heap.PlainList D its/\Vals ys its.toList/\tn i s'.heap/\(∀ b ∈ fp,H' b=none)/\W i n ys τ H') ?_ m0
      ⟨0,[],cap ix σ,H,#[],IY,HDn,hacc,.nil,T.keep _ _ _ st fun b _ o e=>old b o e,fun b hb=>(f b hb).1,w0⟩
    rintro n s3 ⟨i,ys,τ,H3,its,I3,d3,l3,v3,st3,fr3,w3⟩
    obtain ⟨nl,e3⟩:=id l3
    have I3p:Inv (aE X NY scope s H C fp) [(D,{ cls:=.type "list",data:=.seq its nl })] τ H3 s3:=I3.pins_of fun p hp=>by
      have e:p=(D,{ cls:=.type "list",data:=.seq its nl }):=by simpa using hp
      subst e
      exact ⟨e3,d3,hDC,fun z=>Nat.lt_irrefl _ (stackLt D z),fun v z=>by cases z⟩
    have fpo:∀ {H':Hp} {pl:List (Addr × Obj)},(∀ b ∈ fp,H' b=none)->(∀ p ∈ pl,p.1=D)->∀ b ∈ fp,FpOk (aE X NY scope s H C fp) pl H' b:=fun hn hp b hb =>
      ⟨hn b hb,A6 (Bb (hfpD b hb) hCle),fun z=>by
        rcases AS.mp (I.stkSub b z) with e | e
        · exact (f b hb).2.1 e
        · exact (f b hb).2.2.1 e,.inl hb,fun x c e=>(f b hb).2.2.2.2.1 x c (iU e),fun p hp'=>by
        have e:p.1=D:=hp p ((AV.mp hp').elim (fun z=>absurd (show p ∈ ([]:List (Addr × Obj)) from z) (by simp)) fun z=>z)
        rw [e]
        exact Nat.ne_of_gt (hfpD b hb)⟩
    obtain ⟨zl,step⟩:=turn i n ys τ H3 w3
    have single:∀ p ∈ [(D,({ cls:=.type "list",data:=.seq its nl }:Obj))],p.1=D:=fun p hp=>by
      have e:p=(D,{ cls:=.type "list",data:=.seq its nl }):=by simpa using hp
      rw [e]
    rcases step with ⟨stop,qn⟩ | ⟨go,N,hN,step⟩
    · refine wpAny_mono (T.done (aE X NY scope s H C fp) rfl rfl rfl hc i _ s3 τ H3 (fun _ _=>False) I3p (fpo fr3 single) st3 stop) (fun r s4 ⟨hr,I4⟩=>?_) fun _ _ e=>e
      subst hr
      obtain ⟨mC,hnC,_⟩:=id I4.loc
      obtain ⟨e4,d4,_⟩:=I4.pin (D,{ cls:=.type "list",data:=.seq its nl }) (by simp [aE])
      have lt4:∀ b o,s.heap.get? b=some o->b ≠ D:=fun b o e=>A6 (below b o e)
      have u4:=I4.base
      refine hRR D C s4 ys H3 mC hnC d4 ?_ ?_ qn
      · exact (I.fpOk (by rw [hD];exact hCle) (by exact I4.free)).of_upd (Ne.symm hDC)
      · refine I.call' (ch:=fp) I4.os (H':=upd H3 D (.lst ys)) ⟨u4.keep,u4.slot,fun b o e n hx=>?_,u4.there,fun b xs e=>?_,fun b o u e=>?_,fun b ps e=>?_⟩ ?_ I4.bare fun b hb=>?_
        · rw [aw (lt4 b o e)];exact u4.free b o e n hx
        · have q:=u4.tups b xs e;rw [aw (aY q d4)];exact q
        · have q:=u4.frzs b o u e;rw [aw (aY q d4)];exact q
        · obtain ⟨more,q⟩:=u4.tbls b ps e;exact ⟨more,by rw [aw (aY q d4)];exact q⟩
        · exact I4.hok.track d4 ⟨Nat.le_of_lt zl,its.toList,nl,v3,by simpa using e4⟩
        · exact ⟨(f b hb).2.2.2.1,(f b hb).2.1,(f b hb).2.2.2.2.1,(f b hb).2.2.2.2.2⟩
    · refine wpAny_mono (T.item (aE X NY scope s H C fp) rfl rfl rfl hc i _ s3 τ H3 (fun _ _=>False) I3p (fpo fr3 single) st3 go) (fun r s4 ⟨u,hr,h4⟩=>?_) fun _ _ e=>e
      subst hr
      refine wpAny_mono h4 (fun _ s5 ⟨x,H5,I5,r5,y5,st5,fr5⟩=>?_) fun _ _ e=>e
      have I5':=I5.pinned (fpo fr5 single) (T.obj _ _ st5)
      refine wpAny_mono (hg s H C fp _ s5 τ H5 x u _ I5' r5 (step x H5 y5)) (fun _ s6 ⟨τ6,H6,I6,q6⟩=>?_) fun _ _ e=>e
      refine wpAny_mono (ht s H C fp _ s6 τ6 H6 _ I6 q6) (fun b s7 ⟨H7,I7,q7⟩=>?_) fun _ _ e=>e
      have after:∀ {s':Shared} {H':Hp},Inv (aE X NY scope s H C fp) ([(D,{ cls:=.type "list",data:=.seq its nl })] ++ i7 fp s5.heap) τ6 H' s'->tn (i+1) s'.heap/\(∀ b ∈ fp,H' b=none)/\H' D=none/\s'.heap.PlainList D its:=fun {s' H'} I' =>
        ⟨T.keep _ _ _ st5 fun b hb o e=>(I'.pin (b,o) (AR _ (AR _ (cZ hb e)))).1,fun b hb=>by
          obtain ⟨o,e,d⟩:=T.obj _ _ st5 b hb
          exact (I'.pin (b,o) (AR _ (AR _ (cZ hb e)))).2.1,(I'.pin (D,_) (AR _ (AQ _ (Bi.mpr rfl)))).2.1,
          nl,(I'.pin (D,_) (AR _ (AQ _ (Bi.mpr rfl)))).1⟩
      cases b with
      | false =>
        rw [if_neg A5]
        rw [if_neg A5] at q7
        obtain ⟨m',hm,w7⟩:=hN _ _ _ q7
        obtain ⟨a1,a2,a3,a4⟩:=after I7
        exact ⟨m',hm,i+1,ys,τ6,H7,its,I7.pins_of (fun _ z=>absurd z (by simp)),a3,a4,v3,a1,a2,w7⟩
      | true =>
        rw [if_pos rfl]
        rw [if_pos rfl] at q7
        refine wpAny_mono (he s H C fp _ s7 τ6 H7 _ I7 q7) (fun y s8 ⟨yv,H8,I8,r8,n8⟩=>?_) fun _ _ e=>e
        obtain ⟨m',hm,w8⟩:=hN _ _ _ n8
        obtain ⟨a1,a2,a3,a4⟩:=after I8
        have hsz0:ys.length=its.size:=by simpa using v3.length
        have hsz:its.size<=sizeLine:=by omega
        refine wpAny_list_append_plain (hsz:=hsz) a4 fun h9 l9 sb9=>?_
        have I9:Inv (aE X NY scope s H C fp) [] τ6 H8 { s8 with heap:=h9,toks:=s8.toks }:=(I8.pins_of (pins':=[]) fun _ z=>absurd z (by simp)).turned (it:=D) (fun b o hb e=>(sb9.2 b hb).trans e) a3 hDC (.inr (by show s.heap.objs.size<=D;rw [hD];exact A4 _)) (fun x c e z=>?_) fun p z=>absurd (show p ∈ ([]:List (Addr × Obj)) from z) (by simp)
        · refine ⟨m',hm,i+1,ys ++ [yv],τ6,H8,its.push y,I9,a3,l9,?_,T.keep _ _ _ a1 fun b hb o e=>(sb9.2 b (A6 (hfpD b hb))).trans e,a2,w8⟩
          rw [Array.toList_push]
          exact v3.append (.cons r8 .nil)
        · obtain ⟨v,o,ho,_⟩:=I.cell x c (iU e)
          exact Nat.lt_irrefl _ (z ▸ below c o ho)
  exact codeAny_compStart_list (loop _ rfl) (T.self X.A 0 _ _ _ (T.keep _ _ _ st fun b _ o e=>old b o e) (loop _ rfl))
theorem xA {elt tg iter:Expr} {ifs:List Expr} {scope:Scope} {pos:Pos} {wi:TI} {g:TG} {tc:TT} {te:TE} (NY:List Str) (ix:List (Option Nat)) (hc:X.calm=true) (hi:PI X tg iter wi)
    (hg:∀ s H C fp,PG (aE X NY scope s H C fp) tg g) (ht:∀ s H C fp,PTs (aE X NY scope s H C fp) ifs tc) (he:∀ s H C fp,PE (aE X NY scope s H C fp) elt te)
    (ck:jB scope X.N X.env.scope NY ix=true) (hs:∀ x,foldedSetIterable iter X.env x=pure x:=by intro _;rfl):PE X (.ListComp elt [⟨tg,iter,ifs,0⟩] scope pos) (uS wi g tc te ix):=by
  intro pins s σ H Q I h
  have ck:=CompOk.of ck
  rw [eval_ListComp]
  refine wpAny_comprehension_free (use:=none) rfl hs (gc (scope:=scope) (env:=X.env) fun x m e=>?_) ck.kind ck.loc (thn (hi pins s σ H _ I h) fun v s1 h1=>thn h1 fun itv s2 h2=>?_)
  · rcases ck.out x m e with q | q
    · exact I.ok.has x.1 (.inl q)
    · exact I.ok.has x.1 (.inr q)
  · obtain ⟨it,fp,tn,J,H2,e,I2,T,st2,f2,hW⟩:=h2
    subst e
    refine wk (RR:=fun acc C=>compPost (model X.prog X.w) X.A X.xe none (EP X pins σ Q) acc C) hc ck hg ht he I2 T st2 f2 hW ?_
    intro D C s' ys H' m hn hD fC I' hZ
    obtain ⟨f0,f1,f2,f3,f4,f5⟩:=fC
    exact ⟨m,hn,fun h' sb=>⟨.ref D,_,I'.turned (t':=s'.toks) (fun b o hb e=>(sb.2 b hb).trans e) f0 f1 f3 f4 f5,rfl,hZ D hD⟩⟩
end
end L2
end
section
namespace L2
open PySem PySem.Spec PyProof.Rows
section
variable {X:Cx}
inductive KindOf (K:FG) (H:Hp):V->String->Prop
  | int (i:Int):KindOf K H (.int i) "int"
  | bool (b:Bool):KindOf K H (.bl b) "bool"
  | str (x:Str):KindOf K H (.str x) "str"
  | non:KindOf K H .non "NoneType"
  | tuple {a:Addr} {xs:List V}:SqT K H a xs->KindOf K H (.ref a) "tuple"
  | list {a:Addr} {xs:List V}:SqL K H a xs->KindOf K H (.ref a) "list"
  | dK {a:Addr} {kvs}:H a=some (.dK kvs)->KindOf K H (.ref a) "dict"
  | dT {a:Addr} {kvs}:H a=some (.dT kvs)->KindOf K H (.ref a) "dict"
noncomputable def pS (k t:String):Bool:=k == t || (k == "bool" && t == "int")
theorem Inv.clsK {pins:List (Addr × Obj)} {s:Shared} {σ:St} {H:Hp} {a:Addr} {k:String} (I:Inv X pins σ H s) (h:KindOf X.K H (.ref a) k):∃ o,s.heap.get? a=some o/\o.cls=.type k:=by
  cases h with
  | tuple h=>obtain ⟨its,_,⟨o,e,c,_⟩,_⟩:=I.tuple h;exact ⟨o,e,c⟩
  | list h=>obtain ⟨its,_,⟨o,n,e,c,_⟩,_⟩:=I.list h;exact ⟨o,e,c⟩
  | dK h=>obtain ⟨_,_,_,_,o,_,_,e,c,_⟩:=I.hok a _ h;exact ⟨o,e,c.1⟩
  | dT h=>obtain ⟨_,_,_,_,o,_,_,e,c,_⟩:=I.hok a _ h;exact ⟨o,e,c.1⟩
theorem nW:CallR X (.builtin "isinstance") (fun xs H Q=>∃ x k,xs=[x,.ty "int"]/\KindOf X.K H x k/\Q (.bl (pS k "int")) H):=by
  intro pins s σ H xs us Q I r h
  obtain ⟨x,k,rfl,hk,q⟩:=h
  obtain ⟨u,v,rfl,ru,rv⟩:=kH r
  cases (show v=Value.type "int" from rv)
  cases hk with
  | int i=>obtain ⟨tk,rfl⟩:=ru;exact IsiPair.int_int ⟨.bl true,H,I,rfl,q⟩
  | bool b=>cases (show u=Value.bool b from ru);exact IsiPair.bool_int ⟨.bl true,H,I,rfl,q⟩
  | str z=>obtain ⟨tk,rfl⟩:=ru;exact IsiPair.str_int ⟨.bl false,H,I.tok _,rfl,q⟩
  | non=>cases (show u=Value.none from ru);exact IsiPair.NoneType_int ⟨.bl false,H,I.tok _,rfl,q⟩
  | tuple hh=>cases ru;obtain ⟨o,e,c⟩:=I.clsK (.tuple hh);exact IsiPair.tuple_int e c ⟨.bl false,H,I.tok _,rfl,q⟩
  | list hh=>cases ru;obtain ⟨o,e,c⟩:=I.clsK (.list hh);exact IsiPair.list_int e c ⟨.bl false,H,I.tok _,rfl,q⟩
  | dK hh=>cases ru;obtain ⟨o,e,c⟩:=I.clsK (.dK hh);exact IsiPair.dict_int e c ⟨.bl false,H,I.tok _,rfl,q⟩
  | dT hh=>cases ru;obtain ⟨o,e,c⟩:=I.clsK (.dT hh);exact IsiPair.dict_int e c ⟨.bl false,H,I.tok _,rfl,q⟩
theorem md:CallR X (.builtin "isinstance") (fun xs H Q=>∃ x k,xs=[x,.ty "bool"]/\KindOf X.K H x k/\Q (.bl (pS k "bool")) H):=by
  intro pins s σ H xs us Q I r h
  obtain ⟨x,k,rfl,hk,q⟩:=h
  obtain ⟨u,v,rfl,ru,rv⟩:=kH r
  cases (show v=Value.type "bool" from rv)
  cases hk with
  | int i=>obtain ⟨tk,rfl⟩:=ru;exact IsiPair.int_bool ⟨.bl false,H,I.tok _,rfl,q⟩
  | bool b=>cases (show u=Value.bool b from ru);exact IsiPair.bool_bool ⟨.bl true,H,I,rfl,q⟩
  | str z=>obtain ⟨tk,rfl⟩:=ru;exact IsiPair.str_bool ⟨.bl false,H,I.tok _,rfl,q⟩
  | non=>cases (show u=Value.none from ru);exact IsiPair.NoneType_bool ⟨.bl false,H,I.tok _,rfl,q⟩
  | tuple hh=>cases ru;obtain ⟨o,e,c⟩:=I.clsK (.tuple hh);exact IsiPair.tuple_bool e c ⟨.bl false,H,I.tok _,rfl,q⟩
  | list hh=>cases ru;obtain ⟨o,e,c⟩:=I.clsK (.list hh);exact IsiPair.list_bool e c ⟨.bl false,H,I.tok _,rfl,q⟩
  | dK hh=>cases ru;obtain ⟨o,e,c⟩:=I.clsK (.dK hh);exact IsiPair.dict_bool e c ⟨.bl false,H,I.tok _,rfl,q⟩
  | dT hh=>cases ru;obtain ⟨o,e,c⟩:=I.clsK (.dT hh);exact IsiPair.dict_bool e c ⟨.bl false,H,I.tok _,rfl,q⟩
theorem cS:CallR X (.builtin "isinstance") (fun xs H Q=>∃ x k,xs=[x,.ty "tuple"]/\KindOf X.K H x k/\Q (.bl (pS k "tuple")) H):=by
  intro pins s σ H xs us Q I r h
  obtain ⟨x,k,rfl,hk,q⟩:=h
  obtain ⟨u,v,rfl,ru,rv⟩:=kH r
  cases (show v=Value.type "tuple" from rv)
  cases hk with
  | int i=>obtain ⟨tk,rfl⟩:=ru;exact IsiPair.int_tuple ⟨.bl false,H,I.tok _,rfl,q⟩
  | bool b=>cases (show u=Value.bool b from ru);exact IsiPair.bool_tuple ⟨.bl false,H,I.tok _,rfl,q⟩
  | str z=>obtain ⟨tk,rfl⟩:=ru;exact IsiPair.str_tuple ⟨.bl false,H,I.tok _,rfl,q⟩
  | non=>cases (show u=Value.none from ru);exact IsiPair.NoneType_tuple ⟨.bl false,H,I.tok _,rfl,q⟩
  | tuple hh=>cases ru;obtain ⟨o,e,c⟩:=I.clsK (.tuple hh);exact IsiPair.tuple_tuple e c ⟨.bl true,H,I,rfl,q⟩
  | list hh=>cases ru;obtain ⟨o,e,c⟩:=I.clsK (.list hh);exact IsiPair.list_tuple e c ⟨.bl false,H,I.tok _,rfl,q⟩
  | dK hh=>cases ru;obtain ⟨o,e,c⟩:=I.clsK (.dK hh);exact IsiPair.dict_tuple e c ⟨.bl false,H,I.tok _,rfl,q⟩
  | dT hh=>cases ru;obtain ⟨o,e,c⟩:=I.clsK (.dT hh);exact IsiPair.dict_tuple e c ⟨.bl false,H,I.tok _,rfl,q⟩
theorem uD {bs:List Bool}:((List.range bs.length).all fun i=>bs.getD i false)=bs.all id:=by
  rw [Bool.eq_iff_iff]
  simp only [List.all_eq_true,List.mem_range,id]
  constructor
  · intro h b hb
    obtain ⟨i,hi,rfl⟩:=List.mem_iff_getElem.mp hb
    simpa [List.getD,hi] using h i hi
  · intro h i hi
    simpa [List.getD,hi] using h _ (List.getElem_mem hi)
theorem dm (hc:X.calm=true):CallR X (.builtin "all") (fun xs H Q=>∃ (a:Addr) (bs:List Bool),xs=[.ref a]/\SqL X.K H a (bs.map V.bl)/\Q (.bl (bs.all id)) H):=by
  intro pins s σ H xs us Q I r h
  obtain ⟨a,bs,rfl,hq,q⟩:=h
  obtain ⟨u,rfl,ru⟩:=jJ r
  cases ru
  obtain ⟨its,rv,p,hz⟩:=I.list hq
  have hl:=rv.length
  rw [AX] at hl
  have hlt:a < s.heap.objs.size:=by obtain ⟨o,_,e,_⟩:=id p;exact AU e
  refine call_all_walk (wpAny_pyIter_list p.isList ?_)
  refine ⟨s.heap.objs.size,_,_,_,_,_,fun i=>bs.getD i false,rfl,Walks.list (show X.A.in1.handled=none from I.ok.hd hc) s.heap.objs.size a (A6 hlt) its.toArray,⟨⟨_,AW _ rfl,rfl,rfl⟩,p.isList.at fun o e=>AN _ e⟩,?_,?_⟩
  · intro i v s' Q' E' hv hQ'
    have hv':its[i]?=some v:=by simpa using hv
    have hi:i < bs.length:=by
      have:=(AY.mp hv').1
      omega
    obtain ⟨u,hu,ru⟩:=rv.get (i:=i) (x:=V.bl (bs[i])) (by simp [hi])
    rw [hv'] at hu
    cases hu
    cases (show v=Value.bool bs[i] from ru)
    refine Bq ?_
    have e:bs.getD i false=bs[i]:=by simp [List.getD,hi]
    have hQ2:Q' (bs.getD i false) s':=hQ'
    rw [e] at hQ2
    exact hQ2
  · intro h' tk hk
    have I1:Inv X pins σ H { s with heap:=h',toks:=tk }:=I.kept fun b o e=>hk b o (by
      intro hm
      have e':b=s.heap.objs.size:=by simpa using hm
      exact absurd (e' ▸ AU e) (Nat.lt_irrefl _)) (AN _ e)
    refine ⟨.bl (bs.all id),H,I1,?_,q⟩
    show Value.bool _=Value.bool _
    rw [A7,<- hl,uD]
end
end L2
end
section
namespace L2
open PySem PySem.Spec PyProof.Rows
structure Callee (P:Program) (w:World) (K:FG) (mg:Str->Option Value) (base:Heap) (x:Str) (k:Nat) (ps:List Str) (sp:Sp):Prop where
  ex:∃ (f:Addr) (fd:FuncData),FnOk P w K mg base CX0 k f fd ps sp/\mg x=some (.ref f)/\PySem.W.keepIn K (.ref f)=true/\Binds K fd ps []
structure DefAt (K:FG) (mg:Str->Option Value) (x:Str) (st:Stmt) (f:Addr) (fd:FuncData):Prop where
  fn:Fun K x x st f fd
  mg:mg x=some (.ref f)
noncomputable def Def (K:FG) (mg:Str->Option Value) (x:Str) (st:Stmt):Prop:=∃ f fd,DefAt K mg x st f fd
theorem Def.callee {P:Program} {w:World} {K:FG} {mg:Str->Option Value} {base:Heap} {x:Str} {st:Stmt} {k:Nat} {ps:List Str} {sp:Sp} (D:Def K mg x st)
    (hb:∀ (kV doc pm:Value) (an:Option Addr) (cdv ct:Value) (us:List Value),us.length=ps.length->bindArgs (PySem.W.fnOf x x (bf st) (aN st) (aj st) .none kV doc pm an cdv ct) ⟨us,[]⟩=pure (ps.zip us))
    (h:∀ f fd,Fun K x x st f fd->FnOk P w K mg base CX0 k f fd ps sp):Callee P w K mg base x k ps sp :=
  let ⟨f,fd,d⟩:=D
  ⟨f,fd,h f fd d.fn,d.mg,d.fn.kp,d.fn.binds hb⟩
section
variable {X:Cx} {x:Str} {p pos:Pos} {e:Expr} {es:List Expr} {t:TA} {k:Nat} {ps:List Str} {sp:Sp}
noncomputable def tFn (sp:Sp) (t:TA):TE:=fun σ H Q=>t σ H fun vs H1=>sp vs H1 Q E0
theorem pe_fn (c:Callee X.prog X.w X.K X.mg X.base x k ps sp) (hr:Room k X.A) (ha:PA X (e :: es) t) (hg:Gl X x:=by rfl) (hdb:(x == ("__debug__":Str))=false:=by decide)
    (he:starEach (e :: es) X.env=(false,eval e X.env) :: starEach es X.env:=by rfl) (hpl:(backTo pos (starEach es X.env)).any (·.1)=false:=by rfl):PE X (.Call (.Name x p) (e :: es) [] pos) (tFn sp t):=by
  obtain ⟨f,fd,F,hm,hk,hb⟩:=c.ex
  have h:=xC (pos:=pos) (p:=p) (dvs:=[]) (E:=E0) F hr hg hm hk hb .nil pass0 ha hdb he hpl
  intro pins s σ H Q I q
  refine h pins s σ H Q I ?_
  show t σ H fun vs H1=>sp (vs ++ []) H1 Q E0
  have q':t σ H (fun vs H1=>sp vs H1 Q E0):=q
  simpa using q'
end
noncomputable def But (p:Addr) (H H':Hp):Prop:=∀ b o,H b=some o->b ≠ p->H' b=some o
theorem But.trans {p:Addr} {H H1 H2:Hp} (a:But p H H1) (b:But p H1 H2):But p H H2:=fun c o h n=>b c o (a c o h n) n
noncomputable abbrev Pt:=Int × Int
noncomputable def yU (p q r:Pt):Int:=(q.1 - p.1) * (r.2 - p.2) - (q.2 - p.2) * (r.1 - p.1)
noncomputable def NoLine (ps:List Pt):Prop:=∀ (i j k:Nat) (p q r:Pt),i < j->j < k->ps[i]?=some p->ps[j]?=some q->ps[k]?=some r->yU p q r ≠ 0
noncomputable def yz:List Pt->List (Pt × Pt)
  | []=>[]
  | p :: r=>r.map (fun q=>(p,q)) ++ yz r
noncomputable def above (ps:List Pt) (x y:Int):Nat:=((yz ps).filter fun pr=>decide (yU pr.1 pr.2 (x,y)<=0)).length
section InBlock
variable {X:Cx} {NY:List Str} {scope:Scope} {s:Shared} {H:Hp} {C:Addr} {fp:List Addr}
end InBlock
end L2
end
section
namespace L2
open PySem PySem.Spec PyProof.Rows
mutual
inductive DV (K:FG) (H:Hp):V->PyData->Prop
  | non:DV K H .non .none
  | bl (b:Bool):DV K H (.bl b) (.bool b)
  | int (i:Int):DV K H (.int i) (.int i)
  | str (x:Str):DV K H (.str x) (.str x)
  | tup {a:Addr} {xs:List V} {ds:List PyData}:SqT K H a xs->DVs K H xs ds->DV K H (.ref a) (.tuple ds)
  | lst {a:Addr} {xs:List V} {ds:List PyData}:SqL K H a xs->DVs K H xs ds->DV K H (.ref a) (.list ds)
inductive DVs (K:FG) (H:Hp):List V->List PyData->Prop
  | nil:DVs K H [] []
  | cons {x:V} {d:PyData} {xs:List V} {ds:List PyData}:DV K H x d->DVs K H xs ds->DVs K H (x :: xs) (d :: ds)
end
section
variable {X:Cx} {pins:List (Addr × Obj)} {σ:St} {H:Hp} {s:Shared}
mutual
theorem DV.reads (I:Inv X pins σ H s):∀ {v:V} {d:PyData} {u:Value},DV X.K H v d->RelV v u->∃ as,Reads s.heap u d as
  | _,_,u,.non,r=>by cases (show u=Value.none from r);exact ⟨_,.none⟩
  | _,_,u,.bl b,r=>by cases (show u=Value.bool b from r);exact ⟨_,.bool b⟩
  | _,_,u,.int i,r=>by obtain ⟨t,rfl⟩:=r;exact ⟨_,.int i t⟩
  | _,_,u,.str x,r=>by obtain ⟨t,rfl⟩:=r;exact ⟨_,.str x t⟩
  | _,_,u,.tup (a:=a) h rs,r=>by
    cases (show u=Value.ref a from r)
    obtain ⟨its,rv,⟨o,e,c,n,d⟩,_⟩:=I.tuple h
    obtain ⟨as,q⟩:=DVs.reads I rs rv
    exact ⟨_,.tuple e c d (by simpa using q)⟩
  | _,_,u,.lst (a:=a) h rs,r=>by
    cases (show u=Value.ref a from r)
    obtain ⟨its,rv,⟨o,n,e,c,_,d⟩,_⟩:=I.list h
    obtain ⟨as,q⟩:=DVs.reads I rs rv
    exact ⟨_,.list e c d (by simpa using q)⟩
theorem DVs.reads (I:Inv X pins σ H s):∀ {v:List V} {d:List PyData} {us:List Value},DVs X.K H v d->Vals v us->∃ as,ReadsAll s.heap us d as
  | _,_,_,.nil,.nil=>⟨_,.nil⟩
  | _,_,_,.cons h r,.cons q t=>by
    obtain ⟨as,e1⟩:=DV.reads I h q
    obtain ⟨bs,e2⟩:=DVs.reads I r t
    exact ⟨_,.cons e1 e2⟩
end
end
end L2
end
section
namespace L2
open PySem PySem.Spec PyProof.Rows
end L2
end
section
namespace L2
open PySem PySem.Spec PyProof.Rows
end L2
end
section
namespace L2
open PySem PySem.Spec PyProof.Rows
end L2
end
section
namespace L2
open PySem PySem.Spec PyProof.Rows
end L2
end
section
namespace L2
open PySem PySem.Spec PyProof.Rows
section
variable {X:Cx}
theorem nM {ns:List Int} {us:List Value} (r:Vals (ns.map V.int) us):∃ xs:Array (Int × Tok),us.toArray=intItems xs/\ns=xs.toList.map (·.1):=by
  induction ns generalizing us with
  | nil=>cases r;exact ⟨#[],by simp [intItems],rfl⟩
  | cons n ns ih =>
    cases r with
    | cons q t =>
      obtain ⟨k,rfl⟩:=q
      obtain ⟨xs,e1,e2⟩:=ih t
      refine ⟨((n,k) :: xs.toList).toArray,?_,by simp [e2]⟩
      have e3:=congrArg Array.toList e1
      simp only [intItems,List.toList_toArray,Array.toList_map] at e3
      simp [intItems,e3]
theorem i8 {xs:Array (Int × Tok)} {i:Nat} (h:i < xs.size):numAt xs i ∈ xs.toList.map (·.1):=by
  have e:(xs.toList.map (·.1))[i]?=some (numAt xs i):=by simp [numAt,h]
  exact AZ e
theorem jb {xs:Array (Int × Tok)} {n:Int} (h:n ∈ xs.toList.map (·.1)):∃ i,i < xs.size/\numAt xs i=n:=by
  obtain ⟨i,hi,e⟩:=List.mem_iff_getElem.mp h
  have hi':i < xs.size:=by simpa using hi
  refine ⟨i,hi',?_⟩
  rw [<- e]
  simp [numAt,hi']
theorem uo (hc:X.calm=true):CallR X (.builtin "min") (fun xs H Q=>∃ (l:Addr) (ns:List Int),xs=[.ref l]/\SqL X.K H l (ns.map V.int)/\ns ≠ []/\∀ m,m ∈ ns->(∀ n ∈ ns,m<=n)->Q (.int m) H):=by
  intro pins s σ H xs us Q I r h
  obtain ⟨l,ns,rfl,hl,hn,q⟩:=h
  obtain ⟨u,rfl,ru⟩:=jJ r
  cases (show u=Value.ref l from ru)
  obtain ⟨its,rv,p,hz⟩:=I.list hl
  obtain ⟨ys,e1,e2⟩:=nM rv
  have hs:0 < ys.size:=by
    have:=List.length_pos_iff.mpr hn
    rw [e2] at this
    simpa using this
  have pl:=p.isList
  rw [e1] at pl
  refine min_intList (I.ok.hd hc) pl hs fun v h' tk hv hk=>?_
  obtain ⟨t,rfl⟩:=intItems_at hv
  obtain ⟨b1,b2⟩:=argBest_lt (numAt ys) (ys.size - 1)
  refine ⟨.int _,H,I.kept hk,⟨t,rfl⟩,q _ (by rw [e2];exact i8 (by omega)) fun n hm=>?_⟩
  rw [e2] at hm
  obtain ⟨i,hi,rfl⟩:=jb hm
  exact b2 i (by omega)
end
end L2
end
section
namespace L2
open PySem PySem.Spec PyProof.Rows
noncomputable def yS (b:Option (Int × Tok)):Array Value:=match b with | none=>#[] | some p=>#[.int p.1 p.2,.int p.1 p.2]
noncomputable def oq (xs:Array (Int × Tok)) (j:Nat) (b:Option (Int × Tok)):Prop:=match b with
  | none=>j=0
  | some p=>(∃ i,i < j/\numAt xs i=p.1)/\∀ i,i < j->numAt xs i<=p.1
section
variable {prog:Program} {w:World} {A:Around} {R:Result->Shared->Prop}
theorem tD (hh:A.handled=none) {I l S:Addr} (hIl:l ≠ I) (hSI:S ≠ I) (hSl:S ≠ l) (xs:Array (Int × Tok)) (d:Value):∀ (k j:Nat) (s:Shared) (b:Option (Int × Tok)) (c:Nat),xs.size - j=k->j<=xs.size->s.heap.IsListIter I l j->s.heap.IsList l (intItems xs) ->
    s.heap.get? S=some { cls:=.type "list",dict:=none,data:=.seq (yS b) c,slots:=#[] }->oq xs j b ->
    (∀ v h' tk,((xs.size=0/\v=d)\/∃ p:Int × Tok,v=.int p.1 p.2/\oq xs xs.size (some p))->(∀ a o,a ≠ I->a ≠ S->s.heap.get? a=some o->h'.get? a=some o)->R (.ok (.ret v)) { s with heap:=h',toks:=tk }) ->
    codeAny (model prog w) A (.builtin "max.loop" ⟨[.ref I,.none,.ref S],[("default",d)]⟩) R s:=by
  have nm:(toString "max" ++ toString ".loop":String) = "max.loop":=by decide
  intro k
  induction k with
  | zero =>
    intro j s b c hk hj hit hl hS hb fin
    obtain rfl:j=xs.size:=by omega
    refine codeAny_builtin F.entry_max_loop ?_
    rw [Around.under_plainId F.plain_max_loop _]
    show wpAny _ A.in1 (seqItems? (.ref S) >>= _) _ _ s
    refine AI (wpAny_seqItems hS rfl ?_)
    show wpAny _ A.in1 (tryCatch (pyNext (.ref I)) _ >>= _) _ _ s
    refine AI (wpAny_tryCatch (wpAny_pyNext_list_end (show A.in1.handled=none from hh) hit hl (by simp [intItems]) fun h' eb=>?_))
    cases b with
    | none =>
      have h0:xs.size=0:=hb
      show wpAny _ A.in1 (rule _ >>= fun _=>ret d) _ _ _
      exact AI (wpAny_rule (AJ (fin d h' s.toks (.inl ⟨h0,rfl⟩) fun a o ha _ e=>eb a o ha e)))
    | some p =>
      have hS':=eb S _ hSI hS
      show wpAny _ A.in1 (updateSeq S (fun _=>#[]) >>= _) _ _ _
      refine AI (wpAny_updateSeq hS' rfl (AI (wpAny_letGo (AJ ?_))) (hz:=by show 2<=sizeLine;decide))
      exact fin _ _ s.toks (.inr ⟨p,rfl,hb⟩) fun a o ha hs e=>(Bo _ _ (Ne.symm hs)).trans (eb a o ha e)
  | succ k ih =>
    intro j s b c hk hj hit hl hS hb fin
    have hlt:j < xs.size:=by omega
    obtain ⟨x,hx⟩:∃ x,xs[j]?=some x:=⟨xs[j],by simp [hlt]⟩
    have hv:(intItems xs)[j]?=some (.int x.1 x.2):=by simp [intItems,hx]
    have hnum:numAt xs j=x.1:=by simp [numAt,hx]
    refine codeAny_builtin F.entry_max_loop ?_
    rw [Around.under_plainId F.plain_max_loop _]
    show wpAny _ A.in1 (seqItems? (.ref S) >>= _) _ _ s
    refine AI (wpAny_seqItems hS rfl ?_)
    show wpAny _ A.in1 (tryCatch (pyNext (.ref I)) _ >>= _) _ _ s
    refine AI (wpAny_tryCatch (wpAny_pyNext_list_item hit hl hv fun h' hit' sb=>?_))
    have hS':h'.get? S=_:=(sb.2 S hSI).trans hS
    have hl':h'.IsList l (intItems xs):=hl.at fun o e=>(sb.2 l hIl).trans e
    have on:∀ (h2:Heap) (tk:Nat) (b':Option (Int × Tok)) (c':Nat),(∀ a o,a ≠ S->h'.get? a=some o->h2.get? a=some o)->h2.get? S=some { cls:=.type "list",dict:=none,data:=.seq (yS b') c',slots:=#[] }->oq xs (j+1) b' ->
        codeAny (model prog w) A (.builtin "max.loop" ⟨[.ref I,.none,.ref S],[("default",d)]⟩) R { s with heap:=h2,toks:=tk }:=fun h2 tk b' c' k2 hS2 hb' =>
      ih (j+1) _ b' c' (by omega) hlt (hit'.at fun o e=>k2 I o (Ne.symm hSI) e) (hl'.at fun o e=>k2 l o (Ne.symm hSl) e) hS2 hb' fun v h3 tk' hv' k3=>fin v h3 tk' hv' fun a o ha hs e=>k3 a o ha hs (k2 a o hs ((sb.2 a ha).trans e))
    cases b with
    | none =>
      have h0:j=0:=hb
      show wpAny _ A.in1 (updateSeq S (fun _=>#[.int x.1 x.2,.int x.1 x.2]) >>= _) _ _ _
      refine AI (wpAny_updateSeq hS' rfl ?_)
      rw [nm]
      refine AJ ⟨plainId_quiet F.plain_max_loop _,on _ s.toks (some x) _ (fun a o ha e=>(Bo _ _ (Ne.symm ha)).trans e) (Bc _ hS' rfl) ⟨⟨j,by omega,hnum⟩,fun i hi=>?_⟩⟩
      obtain rfl:i=j:=by omega
      omega
    | some p =>
      obtain ⟨⟨i0,hi0,e0⟩,hle⟩:=hb
      show wpAny _ A.in1 (tryCatch (holding [.int x.1 x.2,.int x.1 x.2] (richCompare .Gt (.int x.1 x.2) (.int p.1 p.2) >>= _)) _ >>= _) _ _ _
      refine AI (wpAny_tryCatch (AK (AI ?_)))
      refine (gt_int (a:=x.1) (b:=p.1) ?_:wpAny (model prog w) A.in1 (compareOp .Gt (.int x.1 x.2) (.int p.1 p.2)) _ _ _)
      refine AI (AK (Bq (AI (wpAny_letGo (AJ ?_)))))
      by_cases hgt:p.1 < x.1
      · rw [A9 hgt,if_pos rfl]
        refine AI (wpAny_updateSeq hS' rfl (AI (wpAny_letGo ?_)) (hz:=by show 2<=sizeLine;decide))
        rw [nm]
        refine AJ ⟨plainId_quiet F.plain_max_loop _,on _ s.toks (some x) _ (fun a o ha e=>(Bo _ _ (Ne.symm ha)).trans e) (Bc _ hS' rfl) ⟨⟨j,by omega,hnum⟩,fun i hi=>?_⟩⟩
        by_cases hij:i=j
        · subst hij;omega
        · have:=hle i (by omega);omega
      · rw [Ba hgt,if_neg A5]
        refine AI (wpAny_letGo ?_)
        rw [nm]
        refine AJ ⟨plainId_quiet F.plain_max_loop _,on h' s.toks (some p) c (fun a o _ e=>e) hS' ⟨⟨i0,by omega,e0⟩,fun i hi=>?_⟩⟩
        by_cases hij:i=j
        · subst hij;omega
        · exact hle i (by omega)
end
end L2
end
section
namespace L2
open PySem PySem.Spec PyProof.Rows
section
variable {prog:Program} {w:World} {A:Around} {E:Value->Shared->Prop} {s:Shared} {l:Addr} {xs:Array (Int × Tok)}
theorem tj {t:Addr} {h':Heap} (hk:∀ b o,b ∉ [s.heap.objs.size]->(s.heap.push { cls:=.type "tuple_iterator",data:=.fields #[.ref t,.int 0 0] }).get? b=some o->h'.get? b=some o) :
    ∀ b o,s.heap.get? b=some o->h'.get? b=some o:=fun b o e=>by
  refine hk b o (fun hm=>?_) (AN _ e)
  rcases AS.mp hm with e1 | hm
  · exact absurd (e1 ▸ AU e) (Nat.lt_irrefl _)
  · cases hm
theorem l7 {t:Addr} {items:Array Value} {Q:Value->Shared->Prop} (ht:s.heap.IsTuple t items)
    (h:∀ s₂:Shared,s₂ = { s with heap:=s.heap.push { cls:=.type "tuple_iterator",data:=.fields #[.ref t,.int 0 0] } } ->
      (s₂.heap.IsTupleIter s.heap.objs.size t 0/\s₂.heap.IsTuple t items)->(∀ b ∈ [s.heap.objs.size,t],b < s₂.heap.objs.size)->t ≠ s.heap.objs.size->Q (.ref s.heap.objs.size) s₂) :
    wpAny (model prog w) A (pyIter (.ref t)) Q E s:=by
  have hlt:t < s.heap.objs.size:=by obtain ⟨_,e,_⟩:=ht;exact AU e
  refine wpAny_pyIter_tuple ht (h _ rfl ⟨⟨_,AW _ rfl,rfl,rfl⟩,ht.push _⟩ (fun b hb=>?_) (A6 hlt))
  show b < (s.heap.push _).objs.size
  rw [Bp]
  rcases AS.mp hb with rfl | hb
  · exact Nat.lt_succ_self _
  · rcases AS.mp hb with rfl | hb
    · exact Nat.lt_succ_of_lt hlt
    · cases hb
theorem nB {t:Addr} {Q:Value->Shared->Prop} (hh:A.handled=none) (hl:s.heap.IsTuple t (intItems xs)) (hne:0 < xs.size)
    (h:∀ v h' tk,(intItems xs)[argBest (fun i j=>decide (numAt xs i < numAt xs j)) (xs.size - 1)]?=some v->(∀ b o,s.heap.get? b=some o->h'.get? b=some o)->Q v { s with heap:=h',toks:=tk }) :
    wpAny (model prog w) A (call (.builtin "min") [.ref t]) Q E s:=by
  refine call_min_walk (l7 hl fun s₂ e st hfp hlI=>?_)
  subst e
  refine ⟨_,_,_,_,_,_,_,rfl,Walks.tuple (A:=A.in1) hh _ t hlI (intItems xs),st,hfp,by simpa [intItems] using hne,CmpOf.ints_lt (numAt xs) (fun _ _=>intItems_at),fun v h' tk hP hk=>?_⟩
  exact h v h' tk (by simpa [intItems] using hP) (tj hk)
end
section
variable {X:Cx}
theorem ul (hc:X.calm=true):CallR X (.builtin "min") (fun xs H Q=>∃ (l:Addr) (ns:List Int),xs=[.ref l]/\SqT X.K H l (ns.map V.int)/\ns ≠ []/\∀ m,m ∈ ns->(∀ n ∈ ns,m<=n)->Q (.int m) H):=by
  intro pins s σ H xs us Q I r h
  obtain ⟨l,ns,rfl,hl,hn,q⟩:=h
  obtain ⟨u,rfl,ru⟩:=jJ r
  cases (show u=Value.ref l from ru)
  obtain ⟨its,rv,p,hz⟩:=I.tuple hl
  obtain ⟨ys,e1,e2⟩:=nM rv
  have hs:0 < ys.size:=by
    have:=List.length_pos_iff.mpr hn
    rw [e2] at this
    simpa using this
  have pl:s.heap.IsTuple l its.toArray:=p
  rw [e1] at pl
  refine nB (I.ok.hd hc) pl hs fun v h' tk hv hk=>?_
  obtain ⟨t,rfl⟩:=intItems_at hv
  obtain ⟨b1,b2⟩:=argBest_lt (numAt ys) (ys.size - 1)
  refine ⟨.int _,H,I.kept hk,⟨t,rfl⟩,q _ (by rw [e2];exact i8 (by omega)) fun n hm=>?_⟩
  rw [e2] at hm
  obtain ⟨i,hi,rfl⟩:=jb hm
  exact b2 i (by omega)
end
end L2
end
section
namespace L2
open PySem PySem.Spec PyProof.Rows
end L2
end
section
namespace L2
open PySem PySem.Spec PyProof.Rows
section
variable {prog:Program} {w:World} {A:Around} {E:Value->Shared->Prop} {s:Shared}
theorem gA {id:String} {b:Builtin} {args:List Value} {kw:List (Str × Value)} {Q:Value->Shared->Prop} (hk:builtinKind id=none) (hp:plainId id=true)
    (hb:entryFor table id=some b) (ha:argsOk id ⟨args,kw⟩)
    (hc:wpAny (model prog w) A.in1 (b ⟨args,kw⟩) (fun fin s'=>match fin with
      | .done f=>(match (Except.ok f:Result) with | .ok (.ret v)=>Q v s' | .ok _=>False | .error e=>E e s')
      | .again c'=>c'.quiet=true/\codeAny (model prog w) A c' (fun r s'=>match r with | .ok (.ret v)=>Q v s' | .ok _=>False | .error e=>E e s') s') E s) :
    wpAny (model prog w) A (call (.builtin id) args kw) Q E s:=by
  refine wpAny_call (codeAny_call_builtin hp hb ?_)
  simp only [checkBuiltinCall,hk]
  cases hsig:Manifest.signature? id with
  | none=>exact AJ hc
  | some sig =>
    simp only [argsOk,hsig] at ha
    have h2:Bind.checkArgs id sig ⟨args,kw⟩=pure ():=ha
    show wpAny _ A.in1 (Bind.checkArgs id sig ⟨args,kw⟩) _ _ s
    rw [h2];exact AJ hc
theorem uC (a d:Value):argsOk "max" ⟨[a],[("default",d)]⟩:=by unfold argsOk;kernel_rfl
theorem uu {l:Addr} {xs:Array (Int × Tok)} {d:Value} {Q:Value->Shared->Prop} (hh:A.handled=none) (hl:s.heap.IsList l (intItems xs))
    (h:∀ v h' tk,((xs.size=0/\v=d)\/∃ p:Int × Tok,v=.int p.1 p.2/\oq xs xs.size (some p))->(∀ b o,s.heap.get? b=some o->h'.get? b=some o)->Q v { s with heap:=h',toks:=tk }) :
    wpAny (model prog w) A (call (.builtin "max") [.ref l] [("default",d)]) Q E s:=by
  have hname:(toString "max" ++ toString ".loop":String) = "max.loop":=by decide
  refine gA F.kind_max F.plain_max F.entry_max (uC _ _) ?_
  show wpAny _ A.in1 (Builtin.Builtins.bindParams "max" ["key","default"] 0 ⟨[],[("default",d)]⟩ >>= _) _ _ s
  refine AI (wpAny_of_eq (show Builtin.Builtins.bindParams "max" ["key","default"] 0 ⟨[],[("default",d)]⟩=pure [none,some d] from rfl) ?_)
  refine AI (AJ ?_)
  refine AI (iter_intList hl fun s₂ e st hfp hlI=>?_)
  subst e
  refine AI (wpAny_newObj_type ?_)
  rw [hname]
  have hlt:l < s.heap.objs.size:=by obtain ⟨_,e,_⟩:=hl;exact AU e
  have hsz:(s.heap.push { cls:=.type "list_iterator",data:=.fields #[.ref l,.int 0 0] }).objs.size=s.heap.objs.size+1:=Bp _ _
  have a1:(s.heap.push { cls:=.type "list_iterator",data:=.fields #[.ref l,.int 0 0] }).objs.size ≠ s.heap.objs.size:=by rw [hsz];exact Nat.succ_ne_self _
  have a2:(s.heap.push { cls:=.type "list_iterator",data:=.fields #[.ref l,.int 0 0] }).objs.size ≠ l:=by rw [hsz];exact Nat.ne_of_gt (Nat.lt_succ_of_lt hlt)
  refine AJ ⟨plainId_quiet F.plain_max_loop _,tD (A:=A) hh hlI a1 a2 xs d xs.size 0 _ none 0 (by omega) (by omega)
    (st.1.at fun o e=>AN _ e) (st.2.at fun o e=>AN _ e) (AW _ rfl) rfl fun v h' tk hv hk=>?_⟩
  refine h v h' tk hv fun b o e=>hk b o (fun q=>?_) (fun q=>?_) (AN _ (AN _ e))
  · exact absurd q (A6 (AU e))
  · exact absurd (q.trans hsz) (A6 (Nat.lt_succ_of_lt (AU e)))
end
section
variable {X:Cx}
theorem lL {ns:List Int} {xs:Array (Int × Tok)} (e:ns=xs.toList.map (·.1)):xs.size=0 ↔ ns=[]:=by
  rw [e];simp
noncomputable def rH (K:FG) (P:List Int->Int->Prop) (x d:V) (H:Hp) (Q:VK):Prop:=∃ (l:Addr) (ns:List Int),x=.ref l/\SqL K H l (ns.map V.int)/\(ns=[]->Q d H)/\∀ m,m ∈ ns->P ns m->Q (.int m) H
theorem u5 (hc:X.calm=true) {pins:List (Addr × Obj)} {s:Shared} {σ:St} {H:Hp} {x d:V} {u ud:Value} {Q:VK} (I:Inv X pins σ H s) (rx:RelV x u) (rd:RelV d ud) (h:rH X.K (fun ns m=>∀ n ∈ ns,n<=m) x d H Q) :
    wpAny (model X.prog X.w) X.A (call (.builtin "max") [u] [("default",ud)]) (EP X pins σ Q) X.xe s:=by
  obtain ⟨l,ns,rfl,hl,h0,h1⟩:=h
  cases (show u=Value.ref l from rx)
  obtain ⟨its,rv,p,hz⟩:=I.list hl
  obtain ⟨ys,e1,e2⟩:=nM rv
  have pl:=p.isList
  rw [e1] at pl
  refine uu (I.ok.hd hc) pl fun v h' tk hv hk=>?_
  rcases hv with ⟨hs,rfl⟩ | ⟨q,rfl,⟨⟨i,hi,hq⟩,hle⟩⟩
  · exact ⟨d,H,I.kept hk,rd,h0 ((lL e2).mp hs)⟩
  · refine ⟨.int q.1,H,I.kept hk,⟨q.2,rfl⟩,h1 _ (by rw [e2,<- hq];exact i8 hi) fun n hm=>?_⟩
    rw [e2] at hm
    obtain ⟨j,hj,rfl⟩:=jb hm
    exact hle j hj
noncomputable def tKw1 (r:V->V->Hp->VK->Prop) (te td:TE):TE:=fun σ H Q=>te σ H fun x H1=>td σ H1 fun d H2=>r x d H2 Q
theorem zX {id:String} {nm:Str} {e d:Expr} {te td:TE} {p pos kpos:Pos} {r:V->V->Hp->VK->Prop} (hrun:∀ {pins:List (Addr × Obj)} {s:Shared} {σ:St} {H:Hp} {x d:V} {u ud:Value} {Q:VK},Inv X pins σ H s->RelV x u->RelV d ud->r x d H Q->wpAny (model X.prog X.w) X.A (call (.builtin id) [u] [("default",ud)]) (EP X pins σ Q) X.xe s)
    (hg:Gl X nm) (hm:X.mg nm=none) (hv:bootBuiltins nm=some (.builtin id)) (he:PE X e te) (hd:PE X d td) (hn:nm ≠ "__name__") (hdb:(nm == ("__debug__":Str))=false)
    (hs:backTo pos (starEach [e] X.env)=(false,eval e X.env) :: backTo pos (starEach [] X.env)) (hs0:backTo pos (starEach [] X.env)=[]) (hplain:(backTo pos (starEach [e] X.env)).any (·.1)=false)
    (hall:(backToKw pos (keywordEach [⟨some "default",d,kpos⟩] X.env)).all (·.1.isSome)=true) (hkw:(backToKw pos (keywordEach [⟨some "default",d,kpos⟩] X.env)).any (·.1.isNone)=false) (hks:(backToKw pos (keywordEach [⟨some "default",d,kpos⟩] X.env)).filterMap (·.1)=(["default"]:List Str)) :
    PE X (.Call (.Name nm p) [e] [⟨some "default",d,kpos⟩] pos) (tKw1 r te td):=by
  intro pins s σ H Q I h
  refine wpAny_Call_Name_kw (eJ I hg hm hv ?_ hn hdb)
  refine PyProof.Rows.callWith_kw ?_ hs hplain hall hkw
  rw [hs,hs0]
  refine Calls.spliced_cons (thn (he pins s σ H _ I h) fun u s1 ⟨x,H1,I1,r1,q1⟩=>Calls.spliced_nil ?_)
  refine thn (xw (nm:=some "default") (kpos:=kpos) hd zN pos pins s1 σ H1 (fun vs H2=>match vs with | [d]=>r x d H2 Q | _=>False) I1 q1) fun us s2 ⟨xs,H2,I2,r2,q2⟩=>?_
  match xs,q2,r2 with
  | [d'],q2,r2 =>
    rw [hks]
    obtain ⟨ud,rfl,rd⟩:=jJ r2
    exact hrun I2 r1 rd q2
end
end L2
end
section
namespace L2
open PySem PySem.Spec PyProof.Rows
noncomputable def Itd (hi:Int) (n:Nat):It:=⟨fun i _=>i < n,fun i H x H'=>H'=H/\x=.int (hi - i),fun i _=>n<=i⟩
theorem oH {P:Program} {w:World} {K:FG} {tg:Expr} (it:Addr) (hi:Int) (n:Nat):Turn P w K tg (Itd hi n) [it] it (fun i h=>IsRangeIter h it (hi+(i:Nat) * (-1)) ((n:Int) - (i:Nat)) (-1)) where
  mem:=by simp
  obj:=fun i h st b hb=>by
    have e:b=it:=by simpa using hb
    subst e
    exact ⟨_,st,fun v z=>by
      have z':Data.fields _=Data.cell v:=z
      cases z'⟩
  keep:=fun i h h' st k=>k it (by simp) _ st
  item:=by
    intro X hP hw hK hc i pins s σ H E I hf st hg
    subst hP hw hK
    obtain ⟨f0,f1,f2,f3,f4,f5⟩:=hf it (by simp)
    have W:=Walks.range (prog:=X.prog) (w:=X.w) (I.ok.hd hc) it hi (-1) n
    refine W.item i s _ _ hg st fun v h' tk hv st' kk=>?_
    obtain ⟨t,rfl⟩:=hv
    have I1:Inv X pins σ H { s with heap:=h',toks:=tk }:=I.turned (fun b o hb e=>kk b o (by simpa using hb) e) f0 f1 f3 f4 f5
    refine ⟨_,rfl,mJ (s:={ s with heap:=h',toks:=tk }) (n:="range_iterator") st' rfl rfl (by decide) ⟨.int (hi - i),H,I1,⟨t,?_⟩,⟨rfl,rfl⟩,st',fun b hb=>(hf b hb).1⟩⟩
    rw [show hi+(i:Int) * (-1)=hi - i by omega]
  done:=by
    intro X hP hw hK hc i pins s σ H E I hf st hg
    subst hP hw hK
    obtain ⟨f0,f1,f2,f3,f4,f5⟩:=hf it (by simp)
    exact wpAny_pyNext_range_end (I.ok.hd hc) st (by have:n<=i:=hg;omega) fun h' eb=>⟨rfl,I.turned (t':=s.toks) (fun b o hb e=>eb b o hb e) f0 f1 f3 f4 f5⟩
  self:=fun _ _ _ _ _ st h=>wpAny_pyIter_rangeiter st h
section
variable {X:Cx} {tg:Expr}
theorem fW (a b:Int):Builtin.Range.rangeSize a b (-1)=if a > b then a - b else 0:=by
  unfold Builtin.Range.rangeSize
  rw [if_neg (by decide)]
  split
  · rw [show (a - b - 1) / (- (-1:Int))=a - b - 1 by simp];omega
  · rfl
theorem qg {a b:Int} (h1:-(2 ^ 62)<=a) (h2:a < 2 ^ 62) (h3:-(2 ^ 62)<=b) (h4:b < 2 ^ 62):Builtin.Range.small a b (-1)=true:=by
  unfold Builtin.Range.small
  rw [fW]
  have n1:¬ ((-1:Int) > 0):=by decide
  simp only [Builtin.Range.rangeFitsLong,Bool.and_eq_true,Bool.or_eq_true,decide_eq_true_eq,beq_iff_eq,n1,if_false]
  split <;> omega
noncomputable def yJ (ta:TA):TI:=fun σ H R=>ta σ H fun vs H1=>∃ i j:Int,vs=[.int i,.int j,.int (-1)]/\(-(2 ^ 62)<=i/\i < 2 ^ 62/\-(2 ^ 62)<=j/\j < 2 ^ 62)/\R (Itd i (i - j).toNat) H1
theorem sW {pins:List (Addr × Obj)} {σ:St} {H:Hp} {s:Shared} {R:It->Hp->Prop} {E:Value->Shared->Prop} {lo hi:Int} {t u v:Tok} {tk:Nat} (I:Inv X pins σ H s) (h1:-(2 ^ 62)<=lo) (h2:lo < 2 ^ 62) (h3:-(2 ^ 62)<=hi) (h4:hi < 2 ^ 62)
    (q:R (Itd lo (lo - hi).toNat) H):wpAny (model X.prog X.w) X.A (pyIter (.ref s.heap.objs.size)) (PIE X pins σ tg R) E { s with heap:=s.heap.push { cls:=.type "range",data:=.fields #[.int lo t,.int hi u,.int (-1) v] },toks:=tk }:=by
  refine wpAny_pyIter_range (IsRange.new ..) (qg h1 h2 h3 h4) ?_
  have I1:Inv X pins σ H { s with heap:=s.heap.push { cls:=.type "range",data:=.fields #[.int lo t,.int hi u,.int (-1) v] },toks:=tk }:=I.kept fun b o e=>AN _ e
  refine ⟨(s.heap.push { cls:=.type "range",data:=.fields #[.int lo t,.int hi u,.int (-1) v] }).objs.size,[(s.heap.push { cls:=.type "range",data:=.fields #[.int lo t,.int hi u,.int (-1) v] }).objs.size],_,_,H,rfl,
    I1.kept (t':=tk) fun b o e=>AN _ e,oH _ lo (lo - hi).toNat,?_,fun b hb=>?_,q⟩
  · have e1:lo+((0:Nat):Int) * (-1)=lo:=by simp
    have e2:(((lo - hi).toNat:Nat):Int) - ((0:Nat):Int)=Builtin.Range.rangeSize lo hi (-1):=by rw [fW];split <;> omega
    show IsRangeIter _ _ (lo+((0:Nat):Int) * (-1)) ((((lo - hi).toNat:Nat):Int) - ((0:Nat):Int)) (-1)
    rw [e1,e2]
    exact AW _ rfl
  · have e:b=(s.heap.push { cls:=.type "range",data:=.fields #[.int lo t,.int hi u,.int (-1) v] }).objs.size:=by simpa using hb
    subst e
    exact I1.fpOk (A4 _) (I1.hok.fresh (A4 _))
theorem sY {a b c:Expr} {ta:TA} {p pos:Pos} (hg:Gl X "range") (hm:X.mg "range"=none) (ha:PA X [a,b,c] ta) (hs:starEach [a,b,c] X.env=(false,eval a X.env) :: starEach [b,c] X.env) (hpl:(backTo pos (starEach [b,c] X.env)).any (·.1)=false) :
    PI X tg (.Call (.Name "range" p) [a,b,c] [] pos) (yJ ta):=by
  intro pins s σ H R I h
  refine Call_ (eJ I hg hm boot_range (PyProof.Rows.callWith_type1 (thn (ha pos pins s σ H _ I h) fun us s1 ⟨vs,H1,I1,r1,q1⟩=>?_) hs hpl))
  obtain ⟨i,j,e,⟨q1,q2,q3,q4⟩,q⟩:=q1
  subst e
  cases r1 with
  | cons r rr =>
    cases rr with
    | cons r' rr =>
      cases rr with
      | cons r'' rr =>
        cases rr
        obtain ⟨t,rfl⟩:=r
        obtain ⟨t',rfl⟩:=r'
        obtain ⟨t'',rfl⟩:=r''
        exact call_range_3 (by decide) (sW I1 q1 q2 q3 q4 q) (.inl (PyProof.noPylong_small (by decide)))
end
end L2
end
section
namespace PySem
open Sem (wp)
noncomputable def RawAt (h:Heap) (d:Addr) (es:Array DictEntry) (ep:Nat):Prop:=∃ o,h.get? d=some o/\o.ExactDict/\o.data=.dict es ep
section
variable {prog:Program} {w:World} {A:Around} {E:Value->Shared->Prop} {s:Shared}
theorem RawAt.typeIs {d:Addr} {es:Array DictEntry} {ep:Nat} (x:RawAt s.heap d es ep):s.TypeIs (.ref d) "dict":=let ⟨o,ho,hc,_⟩:=x;⟨o,ho,hc.1⟩
theorem pc {it d:Addr} {i ep:Nat} {es:Array DictEntry} {Q:Option Value->Shared->Prop} (hit:s.heap.IsKeyIter it d i es.size ep)
    (hm:RawAt s.heap d es ep) (hx:i < es.size)
    (hQ:∀ h',h'.IsKeyIter it d (i+1) es.size ep->Heap.SameBut it s.heap h'->Q (some es[i].key) { s with heap:=h' }) :
    wpAny (model prog w) A (pyNext (.ref it)) Q E s:=by
  have ty:=hit.typeIs
  obtain ⟨⟨c1,d1,x1,s1⟩,h1,e1,e2⟩:=hit
  obtain ⟨⟨c2,d2,x2,s2⟩,h2,_,e4⟩:=hm
  obtain ⟨hp,g,dr,tk,os⟩:=s
  simp only at e1 e2 e4
  subst e1 e2 e4
  have hi:(if (i:Int) < 0 then none else es[(i:Int).toNat]?)=some es[i]:=by simp [hx]
  unfold pyNext
  refine AI (wpAny_attempt (wpAny_callSpecial?_slot ty F.slot_dict_keyiterator_next
    (wpAny_call_entry F.slot_dict_keyiterator_next ty F.entry_dict_keyiterator_next ?_ (F.args_dict_keyiterator_next_1 _))))
  wp_walk
  rw [hi]
  wp_walk
  exact ⟨_,rfl,AJ (hQ _ ⟨_,Bc _ h1 rfl,rfl,rfl⟩ (Heap.SameBut.update ..))⟩
theorem qt {it d:Addr} {i ep:Nat} {es:Array DictEntry} {Q:Option Value->Shared->Prop} (hh:A.handled=none) (hit:s.heap.IsKeyIter it d i es.size ep)
    (hm:RawAt s.heap d es ep) (hx:es.size<=i)
    (hQ:∀ h',Heap.ExtBut it s.heap h'->Q none { s with heap:=h' }):wpAny (model prog w) A (pyNext (.ref it)) Q E s:=by
  have ty:=hit.typeIs
  obtain ⟨⟨c1,d1,x1,s1⟩,h1,e1,e2⟩:=hit
  obtain ⟨⟨c2,d2,x2,s2⟩,h2,_,e4⟩:=hm
  obtain ⟨hp,g,dr,tk,os⟩:=s
  simp only at e1 e2 e4
  subst e1 e2 e4
  have hi:(if (i:Int) < 0 then none else es[(i:Int).toNat]?)=none:=by simp [hx]
  have hh':A.in1.handled=none:=hh
  unfold pyNext
  refine AI (wpAny_attempt (wpAny_callSpecial?_slot ty F.slot_dict_keyiterator_next
    (wpAny_call_entry F.slot_dict_keyiterator_next ty F.entry_dict_keyiterator_next ?_ (F.args_dict_keyiterator_next_1 _))))
  wp_walk
  rw [hi]
  wp_walk
  refine wpAny_raiseNew_none hh' ?_
  refine AI (wpAny_isInstance (v:=.ref _) (T:="StopIteration") (b:=true) ?_ isSubtype_stop ?_)
  · exact ⟨_,AW _ rfl,rfl⟩
  · exact AJ (hQ _ (((Heap.SameBut.update ..).extBut.push _).push _))
theorem o9 {it d:Addr} {i ep:Nat} {es:Array DictEntry} {Q:Option Value->Shared->Prop} (hit:s.heap.IsValIter it d i es.size ep)
    (hm:RawAt s.heap d es ep) (hx:i < es.size)
    (hQ:∀ h',h'.IsValIter it d (i+1) es.size ep->Heap.SameBut it s.heap h'->Q (some es[i].val) { s with heap:=h' }) :
    wpAny (model prog w) A (pyNext (.ref it)) Q E s:=by
  have ty:=hit.typeIs
  obtain ⟨⟨c1,d1,x1,s1⟩,h1,e1,e2⟩:=hit
  obtain ⟨⟨c2,d2,x2,s2⟩,h2,_,e4⟩:=hm
  obtain ⟨hp,g,dr,tk,os⟩:=s
  simp only at e1 e2 e4
  subst e1 e2 e4
  have hi:(if (i:Int) < 0 then none else es[(i:Int).toNat]?)=some es[i]:=by simp [hx]
  unfold pyNext
  refine AI (wpAny_attempt (wpAny_callSpecial?_slot ty F.slot_dict_valueiterator_next
    (wpAny_call_entry F.slot_dict_valueiterator_next ty F.entry_dict_valueiterator_next ?_ (F.args_dict_valueiterator_next_1 _))))
  wp_walk
  rw [hi]
  wp_walk
  exact ⟨_,rfl,AJ (hQ _ ⟨_,Bc _ h1 rfl,rfl,rfl⟩ (Heap.SameBut.update ..))⟩
theorem qr {it d:Addr} {i ep:Nat} {es:Array DictEntry} {Q:Option Value->Shared->Prop} (hh:A.handled=none) (hit:s.heap.IsValIter it d i es.size ep)
    (hm:RawAt s.heap d es ep) (hx:es.size<=i)
    (hQ:∀ h',Heap.ExtBut it s.heap h'->Q none { s with heap:=h' }):wpAny (model prog w) A (pyNext (.ref it)) Q E s:=by
  have ty:=hit.typeIs
  obtain ⟨⟨c1,d1,x1,s1⟩,h1,e1,e2⟩:=hit
  obtain ⟨⟨c2,d2,x2,s2⟩,h2,_,e4⟩:=hm
  obtain ⟨hp,g,dr,tk,os⟩:=s
  simp only at e1 e2 e4
  subst e1 e2 e4
  have hi:(if (i:Int) < 0 then none else es[(i:Int).toNat]?)=none:=by simp [hx]
  have hh':A.in1.handled=none:=hh
  unfold pyNext
  refine AI (wpAny_attempt (wpAny_callSpecial?_slot ty F.slot_dict_valueiterator_next
    (wpAny_call_entry F.slot_dict_valueiterator_next ty F.entry_dict_valueiterator_next ?_ (F.args_dict_valueiterator_next_1 _))))
  wp_walk
  rw [hi]
  wp_walk
  refine wpAny_raiseNew_none hh' ?_
  refine AI (wpAny_isInstance (v:=.ref _) (T:="StopIteration") (b:=true) ?_ isSubtype_stop ?_)
  · exact ⟨_,AW _ rfl,rfl⟩
  · exact AJ (hQ _ (((Heap.SameBut.update ..).extBut.push _).push _))
theorem ng {d:Addr} {es:Array DictEntry} {ep:Nat} {Q:Value->Shared->Prop} (hd:(d == sysModules)=false) (hm:RawAt s.heap d es ep)
    (hQ:Q (.ref s.heap.objs.size) { s with heap:=s.heap.push { cls:=.type "dict_keyiterator",data:=.fields #[.ref d,.int 0 0,.int es.size 0,.int ep 0] } }) :
    wpAny (model prog w) A (pyIter (.ref d)) Q E s:=by
  have ty:=hm.typeIs
  obtain ⟨⟨c2,d2,x2,s2⟩,h2,e3,e4⟩:=hm
  obtain ⟨hp,g,dr,tk,os⟩:=s
  obtain ⟨e5,_⟩:=e3
  simp only at e4 e5
  subst e4 e5
  refine wpAny_pyIter_slot ty F.slot_dict_iter (wpAny_call_entry F.slot_dict_iter ty F.entry_dict_iter ?_ (F.args_dict_iter_1 _))
  wp_walk
  exact ⟨_,rfl,"dict_keyiterator",_,⟨_,AW _ rfl,rfl⟩,F.slot_dict_keyiterator_next.lookup,hQ⟩
theorem jY (d:Addr) (hd:(d == sysModules)=false) :
    MeetsIn prog w (Builtin.«dict.values» ⟨[.ref d],[]⟩) (fun _ R s=>(∃ es ep,RawAt s.heap d es ep) /\
      R (.ok (.ret (.ref s.heap.objs.size))) { s with heap:=s.heap.push { cls:=.type "dict_values",data:=.fields #[.ref d] } }) :=
  .of_wp fun A R s ⟨⟨es,ep,hm⟩,h⟩=>by
    have ty:=hm.typeIs
    obtain ⟨⟨c2,d2,x2,s2⟩,h2,e3,e4⟩:=hm
    obtain ⟨hp,g,dr,tk,os⟩:=s
    obtain ⟨e5,_⟩:=e3
    simp only at e4 e5
    subst e4 e5
    wp_walk
    exact ⟨_,rfl,h⟩
theorem kY {v d:Addr} {es:Array DictEntry} {ep:Nat} {Q:Value->Shared->Prop} (hv:s.heap.IsValuesView v d) (hm:RawAt s.heap d es ep)
    (hQ:Q (.ref s.heap.objs.size) { s with heap:=s.heap.push { cls:=.type "dict_valueiterator",data:=.fields #[.ref d,.int 0 0,.int es.size 0,.int ep 0] } }) :
    wpAny (model prog w) A (pyIter (.ref v)) Q E s:=by
  have ty:=hv.typeIs
  obtain ⟨⟨c1,d1,x1,s1⟩,h1,e1,e2⟩:=hv
  obtain ⟨⟨c2,d2,x2,s2⟩,h2,_,e4⟩:=hm
  obtain ⟨hp,g,dr,tk,os⟩:=s
  simp only at e1 e2 e4
  subst e1 e2 e4
  refine wpAny_pyIter_slot ty F.slot_dict_values_iter (wpAny_call_entry F.slot_dict_values_iter ty F.entry_dict_values_iter ?_ (F.args_dict_values_iter_1 _))
  wp_walk
  exact ⟨_,rfl,"dict_valueiterator",_,⟨_,AW _ rfl,rfl⟩,F.slot_dict_valueiterator_next.lookup,hQ⟩
end
end PySem
end
section
namespace L2
open PySem PySem.Spec PyProof.Rows
theorem k7 {α β:Type} {F:α->β->Prop}:∀ {l₁:List α} {l₂:List β},Paired F l₁ l₂->∀ {i:Nat} {a:α},l₁[i]?=some a->∃ b,l₂[i]?=some b/\F a b
  | _,_,.nil,i,a,h=>by simp at h
  | _,_,.cons r t,0,a,h=>by
    simp only [List.getElem?_cons_zero,Option.some.injEq] at h
    subst h
    exact ⟨_,rfl,r⟩
  | _,_,.cons r t,i+1,a,h=>by
    simp only [List.getElem?_cons_succ] at h
    exact k7 t h
theorem Rd.dT_inj {H:Hp} {a:Addr} {x y:List (List Key × V)} (h:Rd H a (.dT x)) (h':Rd H a (.dT y)):x=y:=by
  rcases h with h | ⟨o,h⟩ <;> rcases h' with h' | ⟨o',h'⟩ <;> rw [h] at h' <;> cases h' <;> rfl
section
variable {P:Program} {w:World} {H:Hp} {h:Heap} {a:Addr}
theorem ly {kvs:List (List Key × V)} (ok:HOk P w H h) (e:Rd H a (.dT kvs)):(a == sysModules)=false/\∃ es:Array DictEntry,RawAt h a es es.size/\es.size=kvs.length /\
    ∀ i (hi:i < es.size) kv,kvs[i]?=some kv->∃ b,es[i].key=.ref b/\H b=some (.tup (kv.1.map kV))/\RelV kv.2 es[i].val:=by
  obtain ⟨z,y,xs,r,o,es,ep,h1,h2,h3,h4,h5,h6,rfl⟩:=re ok e
  have hl:es.size=xs.length:=by rw [<- Array.length_toList,h4,AX]
  refine ⟨y,es,⟨o,h1,h2,h3⟩,by rw [hl,<- Paired.length r],fun i hi kv hk=>?_⟩
  obtain ⟨q,hq,f1,f2,f3⟩:=k7 r hk
  have hx:es.toList[i]?=some (entryOfKey (tupleKind (bB P w)) q):=by rw [h4,A3,hq];rfl
  have hx':es[i]=entryOfKey (tupleKind (bB P w)) q:=by
    rw [Array.getElem?_toList,Array.getElem?_eq_getElem hi] at hx
    exact Bt hx
  rw [hx']
  exact ⟨q.2.1,rfl,f2,f3⟩
end
noncomputable def Itk (a:Addr) (n:Nat):It:=⟨fun i H=>∃ kvs,Rd H a (.dT kvs)/\kvs.length=n/\i < n,
  fun i H x H'=>H'=H/\∀ kvs kv,Rd H a (.dT kvs)->kvs[i]?=some kv->∃ b,x=.ref b/\H b=some (.tup (kv.1.map kV)),fun i H=>∃ kvs,Rd H a (.dT kvs)/\kvs.length=n/\n<=i⟩
theorem sI {P:Program} {w:World} {K:FG} {tg:Expr} (a it:Addr) (n:Nat):Turn P w K tg (Itk a n) [it] it (fun i h=>h.IsKeyIter it a i n n) where
  mem:=by simp
  obj:=fun i h st b hb=>by
    have e:b=it:=by simpa using hb
    subst e
    obtain ⟨o,e,c,d⟩:=st
    exact ⟨o,e,fun v z=>by rw [d] at z;cases z⟩
  keep:=fun i h h' st k=>st.at fun o e=>k it (by simp) o e
  item:=by
    intro X hP hw hK hc i pins s σ H E I hf st hg
    subst hP hw hK
    obtain ⟨kvs,hq,hn,hi⟩:=hg
    obtain ⟨y,es,raw,sz,ent⟩:=ly I.hok hq
    obtain rfl:n=es.size:=by omega
    obtain ⟨f0,f1,f2,f3,f4,f5⟩:=hf it (by simp)
    obtain ⟨kv,hkv⟩:∃ kv,kvs[i]?=some kv:=⟨kvs[i]'(by omega),AT _⟩
    obtain ⟨b,b1,b2,b3⟩:=ent i hi kv hkv
    refine pc st raw hi fun h' st' sb=>?_
    have I1:Inv X pins σ H { s with heap:=h' }:=I.turned (t':=s.toks) (fun b o hb e=>(sb.2 b hb).trans e) f0 f1 f3 f4 f5
    obtain ⟨o,e,c,d⟩:=id st'
    refine ⟨_,rfl,mJ (s:={ s with heap:=h' }) e c d (by decide) ⟨.ref b,H,I1,b1,⟨rfl,fun kvs' kv' hq' hk'=>?_⟩,st',fun b hb=>(hf b hb).1⟩⟩
    rw [hq'.dT_inj hq,hkv] at hk'
    cases hk'
    exact ⟨b,rfl,b2⟩
  done:=by
    intro X hP hw hK hc i pins s σ H E I hf st hg
    subst hP hw hK
    obtain ⟨kvs,hq,hn,hi⟩:=hg
    obtain ⟨y,es,raw,sz,ent⟩:=ly I.hok hq
    obtain rfl:n=es.size:=by omega
    obtain ⟨f0,f1,f2,f3,f4,f5⟩:=hf it (by simp)
    exact qt (I.ok.hd hc) st raw hi fun h' eb=>⟨rfl,I.turned (t':=s.toks) (fun b o hb e=>eb b o hb e) f0 f1 f3 f4 f5⟩
  self:=fun _ _ _ _ _ st h=>wpAny_pyIter_keyiter st h
noncomputable def yM (tl:TE):TI:=fun σ H R=>tl σ H fun x H1=>∃ a kvs,x=.ref a/\Rd H1 a (.dT kvs)/\R (Itk a kvs.length) H1
theorem xx {X:Cx} {tg l:Expr} {tl:TE} (hl:PE X l tl):PI X tg l (yM tl):=by
  intro pins s σ H R I h
  exact thn (hl pins s σ H _ I h) fun v s1 ⟨x,H1,I1,r1,q1⟩=>by
    obtain ⟨a,kvs,e,hq,q⟩:=q1
    subst e
    cases r1
    obtain ⟨y,es,raw,sz,ent⟩:=ly I1.hok hq
    refine ng y raw ?_
    refine ⟨s1.heap.objs.size,[s1.heap.objs.size],_,_,H1,rfl,I1.kept (t':=s1.toks) fun b o e=>AN _ e,sI a _ kvs.length,⟨_,AW _ rfl,rfl,by rw [sz];rfl⟩,fun b hb=>?_,q⟩
    have e:b=s1.heap.objs.size:=by simpa using hb
    subst e
    exact I1.fpOk (A4 _) (I1.hok.fresh (A4 _))
section
variable {X:Cx}
noncomputable def ln (p a:Addr):HO:=.ext fun h=>h.IsValuesView p a
theorem xL:MtR X "dict.values" (fun x vs H Q=>∃ a kvs,x=.ref a/\vs=[]/\Rd H a (.dT kvs)/\∀ p,H p=none->Q (.ref p) (upd H p (ln p a))):=by
  intro pins s σ H x vs v us Q I rx rv h
  obtain ⟨a,kvs,rfl,rfl,hq,q⟩:=h
  cases rx
  cases rv
  obtain ⟨y,es,raw,sz,ent⟩:=ly I.hok hq
  refine call_meetsIn PySem.F.slot_dict_values raw.typeIs PySem.F.entry_dict_values (PySem.F.args_dict_values_1 _) (jY a y) ⟨⟨es,_,raw⟩,?_⟩
  refine ⟨.ref s.heap.objs.size,_,I.laid (a:=s.heap.objs.size) (o:=ln s.heap.objs.size a) (t':=s.toks) (fun _ _ q=>AN _ q) (A4 _) ?_,rfl,q _ (I.hok.fresh (A4 _))⟩
  exact ⟨⟨_,AW _ rfl,rfl,rfl⟩,⟨_,AW _ rfl⟩,fun h1 h2 ⟨o,e,c⟩ k=>⟨o,k o e,c⟩⟩
theorem Walks.rawVals {prog:Program} {w:World} {A:Around} (hh:A.handled=none) (I d:Addr) (hne:d ≠ I) (es:Array DictEntry) (ep:Nat) :
    Walks prog w A I [I,d] [I] es.size (fun i v=>∃ h:i < es.size,v=es[i].val) (fun i h=>h.IsValIter I d i es.size ep/\RawAt h d es ep) where
  sub:=fun b hb=>by simp at hb;simp [hb]
  frame:=fun _ _ _ st hk=>⟨st.1.at fun o e=>hk I (by simp) o e,let ⟨o,ho,r⟩:=st.2;⟨o,hk d (by simp) o ho,r⟩⟩
  item:=fun i s Q E hi st hQ=>by
    refine o9 st.1 st.2 hi fun h' hit' hs'=>?_
    exact hQ _ h' s.toks ⟨hi,rfl⟩ ⟨hit',let ⟨o,ho,r⟩:=st.2;⟨o,hs'.extBut d o hne ho,r⟩⟩ fun b o hb e=>hs'.extBut b o (fun h=>hb (by simp [h])) e
  done:=fun s Q E st hQ=>qr hh st.1 st.2 (A4 _) fun h' he'=>hQ h' s.toks fun b o hb e=>he' b o (fun h=>hb (by simp [h])) e
  self:=fun _ _ _ _ st hQ=>wpAny_pyIter_valiter st.1 hQ
noncomputable def yy:List V->Hp->VK->Prop:=fun xs H Q=>∃ (p a:Addr) (kvs:List (List Key × V)) (ns:List Int),xs=[.ref p]/\H p=some (ln p a)/\Rd H a (.dT kvs)/\kvs.map (·.2)=ns.map V.int/\ns ≠ []/\∀ m,m ∈ ns->(∀ n ∈ ns,n<=m)->Q (.int m) H
theorem uw (hc:X.calm=true):CallR X (.builtin "max") yy:=by
  intro pins s σ H xs us Q I rx h
  obtain ⟨p,a,kvs,ns,rfl,hp,hq,hns,hne,q⟩:=h
  obtain ⟨u,rfl,ru⟩:=rx.one
  cases ru
  obtain ⟨y,es,raw,sz,ent⟩:=ly I.hok hq
  have view:s.heap.IsValuesView p a:=(I.hok p _ hp).1
  have hlen:kvs.length=ns.length:=by have:=congrArg List.length hns;simpa using this
  have hpos:0 < es.size:=by rw [sz,hlen];exact List.length_pos_iff.mpr hne
  have val:∀ i (hi:i < es.size),∃ t,es[i].val=.int (ns[i]'(by omega)) t:=fun i hi=>by
    have hkv:kvs[i]?=some (kvs[i]'(by omega)):=AT _
    obtain ⟨b,_,_,r⟩:=ent i hi _ hkv
    have e:(kvs[i]'(by omega)).2=V.int (ns[i]'(by omega)):=by
      have:=congrArg (fun l=>l[i]?) hns
      simp only [A3] at this
      rw [hkv,AT (show i < ns.length by omega)] at this
      simpa using this
    rw [e] at r
    exact r
  have hlt:a < s.heap.objs.size:=by obtain ⟨o,e,_⟩:=raw;exact AU e
  refine call_max_walk (kY view raw ?_)
  refine ⟨s.heap.objs.size,_,_,_,_,_,fun i j=>decide ((ns[j]?).getD 0 < (ns[i]?).getD 0),rfl,Walks.rawVals (A:=X.A.in1) (I.ok.hd hc) s.heap.objs.size a (A6 hlt) es es.size,⟨⟨_,AW _ rfl,rfl,rfl⟩,let ⟨o,ho,r⟩:=raw;⟨o,AN _ ho,r⟩⟩,?_,hpos,?_,?_⟩
  · intro b hb
    rw [Bp]
    simp at hb
    rcases hb with e | e <;> rw [e]
    · exact Nat.lt_succ_self _
    · exact Nat.lt_succ_of_lt hlt
  · have:=CmpOf.ints_gt (prog:=X.prog) (w:=X.w) (A:=X.A.in1) (P:=fun i v=>∃ h:i < es.size,v=es[i].val) (fun i=>(ns[i]?).getD 0) fun i v ⟨hi,e⟩=>by
      obtain ⟨t,ht⟩:=val i hi
      exact ⟨t,by rw [e,ht,AT (show i < ns.length by omega)];rfl⟩
    exact this
  · intro v h' tk ⟨hb,e⟩ hk
    obtain ⟨t,ht⟩:=val _ hb
    obtain ⟨b1,b2⟩:=argBest_gt (fun i=>(ns[i]?).getD 0) (es.size - 1)
    refine ⟨.int _,H,I.kept (fun b o e=>hk b o (by simp;exact A6 (AU e)) (AN _ e)),⟨t,by rw [e,ht]⟩,q _ (List.getElem_mem _) fun n hn=>?_⟩
    obtain ⟨i,hi,rfl⟩:=List.getElem_of_mem hn
    have:=b2 i (by omega)
    rw [AT hi,AT (show argBest _ (es.size - 1) < ns.length by omega)] at this
    exact this
end
end L2
end
section
namespace L2
open PySem PySem.Spec PyProof.Rows
noncomputable def IsPair (h:Heap) (b:Addr) (n:Int × Int):Prop:=∃ o t u m,h.get? b=some o/\o.cls=.type "tuple"/\o.data=.seq #[.int n.1 t,.int n.2 u] m
noncomputable def ltP (x y:Int × Int):Bool:=decide (x.1 < y.1\/(x.1=y.1/\x.2 < y.2))
section
variable {prog:Program} {w:World} {A:Around} {E:Value->Shared->Prop} {s:Shared}
theorem nq {x y:Int × Int} {a b:Addr} {P:Fin->Shared->Prop} (hx:IsPair s.heap a x) (hy:IsPair s.heap b y) (h:P (.done (.ret (.bool (ltP x y)))) s) :
    wpAny (model prog w) A (Builtin.«tuple.__lt__» ⟨[.ref a,.ref b],[]⟩) P E s:=by
  obtain ⟨oa,t1,t2,na,hoa,hca,hda⟩:=hx
  obtain ⟨ob,u1,u2,nb,hob,hcb,hdb⟩:=hy
  show wpAny _ _ (isInstance (.ref b) (.type "tuple") >>= _) _ _ s
  refine AI (wpAny_isInstance (T:="tuple") ⟨ob,hob,hcb⟩ isSubtype_tuple_tuple ?_)
  simp only [Bool.not_true,Bj,if_false]
  refine AI (wpAny_tupleItemsOf hoa hda ?_)
  refine AI (wpAny_tupleItemsOf hob hdb ?_)
  refine AI ?_
  show wpAny _ _ (forIn [(Value.int x.1 t1,Value.int y.1 u1),(Value.int x.2 t2,Value.int y.2 u2)] _ _) _ _ s
  rw [List.forIn_cons]
  refine AI ?_
  refine AI ((intKind prog w).eqBool (a:=x.1) (b:=y.1) (by simp [intKind,Value.isInt]) (by simp [intKind,Value.isInt]) ?_)
  by_cases h1:x.1=y.1
  · rw [A9 h1]
    simp only [Bool.not_true,Bj,if_false]
    refine AJ ?_
    show wpAny _ _ (forIn [(Value.int x.2 t2,Value.int y.2 u2)] _ _) _ _ s
    rw [List.forIn_cons]
    refine AI ?_
    refine AI ((intKind prog w).eqBool (a:=x.2) (b:=y.2) (by simp [intKind,Value.isInt]) (by simp [intKind,Value.isInt]) ?_)
    by_cases h2:x.2=y.2
    · rw [A9 h2]
      simp only [Bool.not_true,Bj,if_false]
      refine AJ ?_
      show wpAny _ _ (forIn ([]:List (Value × Value)) _ _) _ _ s
      rw [List.forIn_nil]
      refine AJ (AJ ?_)
      have e:ltP x y=false:=by unfold ltP;simp;omega
      rw [e] at h
      exact h
    · rw [Ba h2]
      simp only [Bool.not_false,if_true]
      refine AI (wpAny_rule (AI ?_))
      refine (lt_int (a:=x.2) (b:=y.2) ?_:wpAny (model prog w) A (compareOp .Lt (.int x.2 t2) (.int y.2 u2)) _ _ _)
      refine AI (AJ (AJ (AJ (AJ ?_))))
      have e:ltP x y=decide (x.2 < y.2):=by unfold ltP;simp [h1]
      rw [e] at h
      exact h
  · rw [Ba h1]
    simp only [Bool.not_false,if_true]
    refine AI (wpAny_rule (AI ?_))
    refine (lt_int (a:=x.1) (b:=y.1) ?_:wpAny (model prog w) A (compareOp .Lt (.int x.1 t1) (.int y.1 u1)) _ _ _)
    refine AI (AJ (AJ (AJ (AJ ?_))))
    have e:ltP x y=decide (x.1 < y.1):=by unfold ltP;simp [h1]
    rw [e] at h
    exact h
theorem xD {x y:Int × Int} {a b:Addr} {Q:Value->Shared->Prop} (hu:A.units < cLine) (hx:IsPair s.heap a x) (hy:IsPair s.heap b y) (h:Q (.bool (ltP x y)) s) :
    wpAny (model prog w) A (richCompare .Lt (.ref a) (.ref b)) Q E s:=by
  have ta:s.TypeIs (.ref a) "tuple":=let ⟨o,_,_,_,e,c,_⟩:=hx;⟨o,e,c⟩
  have tb:s.TypeIs (.ref b) "tuple":=let ⟨o,_,_,_,e,c,_⟩:=hy;⟨o,e,c⟩
  exact wpAny_richCompare_same_room (op:=.Lt) ta tb F.slot_tuple_lt (wpAny_call_entry F.slot_tuple_lt ta F.entry_tuple_lt (nq hx hy ⟨_,rfl,(fun e=>nomatch e),h⟩) (F.args_tuple_lt_2 _ _)) hu
end
noncomputable def lI (ns:List (Int × Int)) (j:Nat) (k:Nat):Prop:=k < j/\∀ i,i < j->∀ x y,ns[i]?=some x->ns[k]?=some y->ltP x y=false
theorem tJ {x y z:Int × Int} (h1:ltP x y=true) (h2:ltP z y=false):ltP z x=false:=by
  unfold ltP at *
  simp at *
  omega
noncomputable def lH (h:Heap) (bs:List Addr) (ns:List (Int × Int)):Prop:=∀ (i:Nat) (b:Addr),bs[i]?=some b->∃ n,ns[i]?=some n/\IsPair h b n
noncomputable def yT (b:Option Addr):Array Value:=match b with | none=>#[] | some a=>#[.ref a,.ref a]
section
variable {prog:Program} {w:World} {A:Around} {R:Result->Shared->Prop}
theorem tz (hh:A.handled=none) (hu:A.units+1 < cLine) {I l S:Addr} (hIl:l ≠ I) (hSI:S ≠ I) (hSl:S ≠ l) (bs:List Addr) (ns:List (Int × Int)) (hbI:∀ b ∈ bs,b ≠ I) (hbS:∀ b ∈ bs,b ≠ S) :
    ∀ (k j:Nat) (s:Shared) (m:Option Nat) (c:Nat),bs.length - j=k->j<=bs.length->s.heap.IsListIter I l j->s.heap.IsList l (bs.map Value.ref).toArray->lH s.heap bs ns ->
    s.heap.get? S=some { cls:=.type "list",dict:=none,data:=.seq (yT (m.bind (bs[·]?))) c,slots:=#[] }->(match m with | none=>j=0 | some m=>lI ns j m)->0 < bs.length ->
    (∀ m b h' tk,bs[m]?=some b->lI ns bs.length m->(∀ a o,a ≠ I->a ≠ S->s.heap.get? a=some o->h'.get? a=some o)->R (.ok (.ret (.ref b))) { s with heap:=h',toks:=tk }) ->
    codeAny (model prog w) A (.builtin "min.loop" ⟨[.ref I,.none,.ref S],[]⟩) R s:=by
  have nm:(toString "min" ++ toString ".loop":String) = "min.loop":=by decide
  intro k
  induction k with
  | zero =>
    intro j s m c hk hj hit hl hp hS hb hpos fin
    obtain rfl:j=bs.length:=by omega
    refine codeAny_builtin F.entry_min_loop ?_
    rw [Around.under_plainId F.plain_min_loop _]
    show wpAny _ A.in1 (seqItems? (.ref S) >>= _) _ _ s
    refine AI (wpAny_seqItems hS rfl ?_)
    show wpAny _ A.in1 (tryCatch (pyNext (.ref I)) _ >>= _) _ _ s
    refine AI (wpAny_tryCatch (wpAny_pyNext_list_end (show A.in1.handled=none from hh) hit hl (by simp) fun h' eb=>?_))
    cases m with
    | none=>have:bs.length=0:=hb;omega
    | some m =>
      have hm:m < bs.length:=hb.1
      have eb':bs[m]?=some bs[m]:=AT hm
      have hS':=eb S _ hSI hS
      simp only [Option.bind_some,eb'] at hS' ⊢
      show wpAny _ A.in1 (updateSeq S (fun _=>#[]) >>= _) _ _ _
      refine AI (wpAny_updateSeq hS' rfl (AI (wpAny_letGo (AJ ?_))) (hz:=by show 2<=sizeLine;decide))
      exact fin m _ _ s.toks eb' hb fun a o ha hs e=>(Bo _ _ (Ne.symm hs)).trans (eb a o ha e)
  | succ k ih =>
    intro j s m c hk hj hit hl hp hS hb hpos fin
    have hlt:j < bs.length:=by omega
    have hx:bs[j]?=some bs[j]:=AT hlt
    have hv:(bs.map Value.ref).toArray[j]?=some (.ref bs[j]):=by simp [hx]
    refine codeAny_builtin F.entry_min_loop ?_
    rw [Around.under_plainId F.plain_min_loop _]
    show wpAny _ A.in1 (seqItems? (.ref S) >>= _) _ _ s
    refine AI (wpAny_seqItems hS rfl ?_)
    show wpAny _ A.in1 (tryCatch (pyNext (.ref I)) _ >>= _) _ _ s
    refine AI (wpAny_tryCatch (wpAny_pyNext_list_item hit hl hv fun h' hit' sb=>?_))
    have hS':h'.get? S=_:=(sb.2 S hSI).trans hS
    have hl':h'.IsList l (bs.map Value.ref).toArray:=hl.at fun o e=>(sb.2 l hIl).trans e
    have pk:∀ {h1 h2:Heap},(∀ b ∈ bs,∀ o,h1.get? b=some o->h2.get? b=some o)->lH h1 bs ns->lH h2 bs ns:=fun {h1 h2} k q i b e=>by
      obtain ⟨n,e1,o,t,u,m,e2,e3⟩:=q i b e
      exact ⟨n,e1,o,t,u,m,k b (AZ e) o e2,e3⟩
    have hp':lH h' bs ns:=pk (fun b hb o e=>(sb.2 b (hbI b hb)).trans e) hp
    have on:∀ (h2:Heap) (tk:Nat) (m':Option Nat) (c':Nat),(∀ a o,a ≠ S->h'.get? a=some o->h2.get? a=some o)->h2.get? S=some { cls:=.type "list",dict:=none,data:=.seq (yT (m'.bind (bs[·]?))) c',slots:=#[] }->(match m' with | none=>j+1=0 | some m=>lI ns (j+1) m) ->
        codeAny (model prog w) A (.builtin "min.loop" ⟨[.ref I,.none,.ref S],[]⟩) R { s with heap:=h2,toks:=tk }:=fun h2 tk m' c' k2 hS2 hb' =>
      ih (j+1) _ m' c' (by omega) hlt (hit'.at fun o e=>k2 I o (Ne.symm hSI) e) (hl'.at fun o e=>k2 l o (Ne.symm hSl) e) (pk (fun b hb o e=>k2 b o (hbS b hb) e) hp') hS2 hb' hpos fun v b h3 tk' hv' hw' k3=>fin v b h3 tk' hv' hw' fun a o ha hs e=>k3 a o ha hs (k2 a o hs ((sb.2 a ha).trans e))
    obtain ⟨nj,hnj,hpj⟩:=hp' j _ hx
    cases m with
    | none =>
      have h0:j=0:=hb
      show wpAny _ A.in1 (updateSeq S (fun _=>#[.ref bs[j],.ref bs[j]]) >>= _) _ _ _
      refine AI (wpAny_updateSeq hS' rfl ?_ (hz:=by show 0<=sizeLine;exact Nat.zero_le _))
      rw [nm]
      refine AJ ⟨plainId_quiet F.plain_min_loop _,on _ s.toks (some j) (c+1) (fun a o ha e=>(Bo _ _ (Ne.symm ha)).trans e) ?_ ⟨by omega,fun i hi x y h1 h2=>?_⟩⟩
      · simp only [Option.bind_some,hx]
        exact Bc _ hS' rfl
      · obtain rfl:i=j:=by omega
        rw [h1] at h2;cases h2
        unfold ltP;simp
    | some m =>
      obtain ⟨hm,hle⟩:=hb
      have hmb:bs[m]?=some bs[m]:=AT (by omega)
      obtain ⟨nm',hnm,hpm⟩:=hp' m _ hmb
      simp only [Option.bind_some,hmb] at hS' ⊢
      show wpAny _ A.in1 (tryCatch (holding [.ref bs[j],.ref bs[j]] (richCompare .Lt (.ref bs[j]) (.ref bs[m]) >>= _)) _ >>= _) _ _ _
      refine AI (wpAny_tryCatch (AK (AI ?_)))
      refine xD (A:=A.in1) (show A.units+1 < cLine from hu) hpj hpm ?_
      refine AI (AK (Bq (AI (wpAny_letGo (AJ ?_)))))
      by_cases hgt:ltP nj nm'=true
      · rw [hgt,if_pos rfl]
        refine AI (wpAny_updateSeq hS' rfl (AI (wpAny_letGo ?_)) (hz:=by show 2<=sizeLine;decide))
        rw [nm]
        refine AJ ⟨plainId_quiet F.plain_min_loop _,on _ s.toks (some j) c (fun a o ha e=>(Bo _ _ (Ne.symm ha)).trans e) ?_ ⟨by omega,fun i hi x y h1 h2=>?_⟩⟩
        · simp only [Option.bind_some,hx]
          exact Bc _ hS' rfl
        · rw [hnj] at h2;cases h2
          by_cases hij:i=j
          · subst hij
            rw [hnj] at h1;cases h1
            unfold ltP;simp
          · exact tJ hgt (hle i (by omega) x nm' h1 hnm)
      · have hgt':ltP nj nm'=false:=by simpa using hgt
        rw [hgt',if_neg A5]
        refine AI (wpAny_letGo ?_)
        rw [nm]
        refine AJ ⟨plainId_quiet F.plain_min_loop _,on h' s.toks (some m) c (fun a o _ e=>e) (by simp only [Option.bind_some,hmb];exact hS') ⟨by omega,fun i hi x y h1 h2=>?_⟩⟩
        by_cases hij:i=j
        · subst hij
          rw [hnj] at h1;cases h1
          rw [hnm] at h2;cases h2
          exact hgt'
        · exact hle i (by omega) x y h1 h2
end
section
variable {prog:Program} {w:World} {A:Around} {E:Value->Shared->Prop} {s:Shared}
theorem uk {l:Addr} {bs:List Addr} {ns:List (Int × Int)} {Q:Value->Shared->Prop} (hh:A.handled=none) (hu:A.units+1 < cLine) (hl:s.heap.IsList l (bs.map Value.ref).toArray) (hp:lH s.heap bs ns) (hpos:0 < bs.length)
    (h:∀ m b h' tk,bs[m]?=some b->lI ns bs.length m->(∀ b o,s.heap.get? b=some o->h'.get? b=some o)->Q (.ref b) { s with heap:=h',toks:=tk }) :
    wpAny (model prog w) A (call (.builtin "min") [.ref l]) Q E s:=by
  have hname:(toString "min" ++ toString ".loop":String) = "min.loop":=by decide
  refine call_function_tree F.kind_min F.plain_min F.entry_min (F.args_min1 _) ?_
  show wpAny _ A.in1 (Builtin.Builtins.bindParams "min" ["key","default"] 0 ⟨[],[]⟩ >>= _) _ _ s
  refine AI (wpAny_of_eq (show Builtin.Builtins.bindParams "min" ["key","default"] 0 ⟨[],[]⟩=pure [none,none] from rfl) ?_)
  refine AI (AJ ?_)
  refine AI (wpAny_pyIter_list hl ?_)
  refine AI (wpAny_newObj_type ?_)
  rw [hname]
  have hlt:l < s.heap.objs.size:=by obtain ⟨_,e,_⟩:=hl;exact AU e
  have hsz:(s.heap.push { cls:=.type "list_iterator",data:=.fields #[.ref l,.int 0 0] }).objs.size=s.heap.objs.size+1:=Bp _ _
  have a1:(s.heap.push { cls:=.type "list_iterator",data:=.fields #[.ref l,.int 0 0] }).objs.size ≠ s.heap.objs.size:=by rw [hsz];exact Nat.succ_ne_self _
  have a2:(s.heap.push { cls:=.type "list_iterator",data:=.fields #[.ref l,.int 0 0] }).objs.size ≠ l:=by rw [hsz];exact Nat.ne_of_gt (Nat.lt_succ_of_lt hlt)
  have ltb:∀ b ∈ bs,b < s.heap.objs.size:=fun b hb=>by
    obtain ⟨i,hi,e⟩:=List.getElem_of_mem hb
    obtain ⟨_,_,o,_,_,_,e2,_⟩:=hp i b (by rw [AT hi,e])
    exact AU e2
  refine AJ ⟨plainId_quiet F.plain_min_loop _,tz (A:=A) hh hu (I:=s.heap.objs.size) (l:=l) (A6 hlt) a1 a2 bs ns (fun b hb=>A6 (ltb b hb)) (fun b hb=>by rw [hsz];exact A6 (Nat.lt_succ_of_lt (ltb b hb))) bs.length 0 _ none 0 (by omega) (by omega)
    ⟨_,AN _ (AW _ rfl),rfl,rfl⟩ (hl.at fun o e=>AN _ (AN _ e)) (fun i b e=>?_) (AW _ rfl) rfl hpos fun m b h' tk hm hL hk=>?_⟩
  · obtain ⟨n,e1,o,t,u,m,e2,e3⟩:=hp i b e
    exact ⟨n,e1,o,t,u,m,AN _ (AN _ e2),e3⟩
  · refine h m b h' tk hm hL fun c o e=>hk c o (fun q=>?_) (fun q=>?_) (AN _ (AN _ e))
    · exact absurd q (A6 (AU e))
    · exact absurd (q.trans hsz) (A6 (Nat.lt_succ_of_lt (AU e)))
end
section
variable {X:Cx}
noncomputable def yx (K:FG):List V->Hp->VK->Prop:=fun xs H Q=>∃ (l:Addr) (bs:List Addr) (ns:List (Int × Int)),xs=[.ref l]/\SqL K H l (bs.map V.ref)/\(∀ (i:Nat) (b:Addr),bs[i]?=some b->∃ n,ns[i]?=some n/\H b=some (.tup [.int n.1,.int n.2]))/\bs ≠ [] /\
  ∀ m b,bs[m]?=some b->lI ns bs.length m->Q (.ref b) H
theorem ml:∀ {bs:List Addr} {its:List Value},Vals (bs.map V.ref) its->its=bs.map Value.ref
  | [],_,.nil=>rfl
  | b :: bs,_,.cons r t=>by cases r;rw [ml t];rfl
theorem um (hc:X.calm=true) (hu:X.A.units+1 < cLine):CallR X (.builtin "min") (yx X.K):=by
  intro pins s σ H xs us Q I rx h
  obtain ⟨l,bs,ns,rfl,hl,hp,hne,q⟩:=h
  obtain ⟨u,rfl,ru⟩:=jJ rx
  cases (show u=Value.ref l from ru)
  obtain ⟨its,rv,p,hz⟩:=I.list hl
  have pl:=p.isList
  rw [ml rv] at pl
  refine uk (I.ok.hd hc) hu pl (ns:=ns) (fun i b e=>?_) (List.length_pos_iff.mpr hne) fun m b h' tk hm hL hk=>⟨.ref b,H,I.kept hk,rfl,q m b hm hL⟩
  obtain ⟨n,e1,e2⟩:=hp i b e
  obtain ⟨_,its,r,o,h1,h2,k,h3⟩:=(show ObjOk X.prog X.w H s.heap b (.tup [.int n.1,.int n.2]) from I.hok b _ e2)
  refine ⟨n,e1,?_⟩
  cases r with
  | cons r1 r =>
    cases r with
    | cons r2 r =>
      cases r
      obtain ⟨t,rfl⟩:=r1
      obtain ⟨u,rfl⟩:=r2
      exact ⟨o,t,u,k,h1,h2,congrArg Prod.fst h3⟩
end
end L2
end
section
namespace L2
open PySem PySem.Spec PyProof.Rows
end L2
end
section
namespace L2
open PySem
theorem uJ:typeLookup (.type "zip") "__getattr__"=pure none:=by rw [typeLookup_type,builtinLookup_eq_fast];kernel_rfl
theorem wF:entryFor table "zip.__getattribute__"=some Builtin.«object.__getattribute__»:=entryFor_alias (id':="object.__getattribute__") (by kernel_rfl) (by decide +kernel) (by decide +kernel) (by kernel_rfl)
theorem sE {a:Addr} {vs:Array Value} {sl:Array (Option Value)} {name:Str} {u:Tok} (hmiss:typeLookup (.type "zip") name=pure none) (hname:(["__module__","__name__","__qualname__","__doc__","__annotations__"]:List Str).contains name=false) (hsz:name.length+100<=sizeLine) :
    Meets (Builtin.«object.__getattribute__» ⟨[.ref a,.str name u],[]⟩) (fun A R s=>s.heap.get? a=some { cls:=.type "zip",dict:=none,data:=.fields vs,slots:=sl }/\raisesAttr (.ref a) name A R s):=by
  refine .of_wp fun prog w A R s h=>?_
  obtain ⟨hp,g,d,tk,os⟩:=s
  obtain ⟨hx,h⟩:=h
  have ty:(⟨hp,g,d,tk,os⟩:Shared).TypeIs (.ref a) "zip":=⟨_,hx,rfl⟩
  wp_walk
  refine wpAny_ite_false (by rw [hname];rfl) ?_
  wp_walk
  exact wpAny_raiseAttrError h.1 h.2 (attrMsg_fits (by decide +kernel) hsz)
theorem getAttr?_miss_zip {prog:Program} {w:World} {A:Around} {E:Value->Shared->Prop} {s:Shared} {a:Addr} {o:Obj} {vs:Array Value} {name:Str} {Q:Option Value->Shared->Prop}
    (hx:s.heap.get? a=some o) (hc:o.cls=.type "zip") (hdat:o.data=.fields vs) (hd:o.dict=none) (hmiss:typeLookup (.type "zip") name=pure none) (hname:(["__module__","__name__","__qualname__","__doc__","__annotations__"]:List Str).contains name=false) (hh:A.handled=none)
    (h:∀ h' tk e,Heap.NewExcOf s.heap h' e "AttributeError"->Q none { s with heap:=h',toks:=tk }) (hsz:name.length+100<=sizeLine:=by size_fits) :
    wpAny (model prog w) A (getAttr? (.ref a) name) Q E s:=by
  obtain ⟨c,dct,dat,sl⟩:=o
  obtain ⟨hp,g,d,tk,os⟩:=s
  simp only at hc hdat hd
  subst hc hdat hd
  have ty:(⟨hp,g,d,tk,os⟩:Shared).TypeIs (.ref a) "zip":=⟨_,hx,rfl⟩
  have l1:=F.slot_zip_getattribute.lookup
  have l2:=F.slot_zip_getattribute.bind (.ref a)
  have l3:=uJ
  have l4:=sub_AttributeError
  have ty':∀ tk',(⟨hp,g,d,tk',os⟩:Shared).TypeIs (.ref a) "zip":=fun _=>⟨_,hx,rfl⟩
  repeat ((fail_if_success with_reducible refine wpAny_call ?_);wp_step)
  refine call_meets F.slot_zip_getattribute (ty' _) wF (F.args_zip_getattribute_2 _ _) (sE (vs:=vs) (sl:=sl) hmiss hname hsz) ⟨hx,hh,fun h' tk' e n=>?_⟩
  obtain ⟨t',u',he⟩:=n.there
  refine (?_:wpAny _ _ (getattributeRaised _ _ _ _ _ _ _) _ _ _)
  have in2:(⟨h',g,d,tk',os⟩:Shared).TypeIs (.ref e) "AttributeError":=⟨_,he,rfl⟩
  wp_walk
  exact h _ _ _ n.of
noncomputable abbrev cG (h:Heap) (z TI TO:Addr) (f0 f1:Value):Prop :=
  h.get? z=some { cls:=.type "zip",dict:=none,data:=.fields #[f0,f1,.bool false,.ref TI,.ref TO],slots:=#[] }
noncomputable def fB (h:Heap) (z TO i1 i2:Addr) (f0 f1:Value):Prop:=(f0=.none/\f1=.bool false)\/∃ (T:Nat) (o:Obj),f0=rawInt (T:Nat)/\h.get? T=some o/\∃ b,f1=.bool b/\T ≠ z/\T ≠ TO/\T ≠ i1/\T ≠ i2
theorem uI (l1 l2:Addr) (xs ys:Array Value) :
    Meets (Builtin.«zip.__new__» ⟨[.type "zip",.ref l1,.ref l2],[]⟩) (fun _ R s=>s.heap.IsList l1 xs/\s.heap.IsTuple l2 ys /\
      ∀ h',(∀ n,n=s.heap.objs.size->cG h' (n+4) (n+2) (n+3) .none (.bool false)/\PySem.IsPair h' (n+2) (.ref n) (.ref (n+1))/\PySem.IsPair h' (n+3) .none .none/\h'.IsListIter n l1 0/\h'.IsTupleIter (n+1) l2 0/\h'.objs.size=n+5) ->
        (∀ c o,s.heap.get? c=some o->h'.get? c=some o)->R (.ok (.ret (.ref (s.heap.objs.size+4)))) { s with heap:=h' }):=by
  refine .of_wp fun prog w A R s h=>?_
  obtain ⟨hp,g,d,tk,os⟩:=s
  obtain ⟨a1,a2,h⟩:=h
  have sub:=sub_zip
  have it1:Heap.IsList (Shared.heap ⟨hp,g,d,tk,os⟩) l1 xs:=a1
  have it2:Heap.IsTuple (Shared.heap ⟨hp.push { cls:=.type "list_iterator",data:=.fields #[.ref l1,.int 0 0] },g,d,tk,os⟩) l2 ys:=Heap.IsTuple.push a2 _
  wp_walk using wpAny_pyIter_list it1,wpAny_pyIter_tuple it2
  refine ⟨_,rfl,?_⟩
  simp only [Bp]
  have new:∀ (h:Heap) (u:Obj),u.isFreed=false->∀ n,h.objs.size=n->(h.push u).get? n=some u:=fun h u e n z=>z ▸ AW _ e
  have keep:∀ (h:Heap) (u:Obj) {c o},h.get? c=some o->(h.push u).get? c=some o:=fun h u=>AN _
  refine h _ (fun n e=>?_) fun c o e=>keep _ _ (keep _ _ (keep _ _ (keep _ _ (keep _ _ e))))
  subst e
  refine ⟨new _ _ rfl _ ?_,keep _ _ (keep _ _ (new _ _ rfl _ ?_)),keep _ _ (new _ _ rfl _ ?_),⟨_,keep _ _ (keep _ _ (keep _ _ (keep _ _ (new _ _ rfl _ ?_)))),rfl,rfl⟩,⟨_,keep _ _ (keep _ _ (keep _ _ (new _ _ rfl _ ?_))),rfl,rfl⟩,?_⟩ <;> simp only [Bp]
section
variable {prog:Program} {w:World} {A:Around} {E:Value->Shared->Prop} {s:Shared}
theorem d8 {it l:Addr} {i:Nat} {items} {x:Value} {Q:Value->Shared->Prop} (hit:s.heap.IsTupleIter it l i)
    (hl:s.heap.IsTuple l items) (hx:items[i]?=some x)
    (hQ:∀ h',h'.IsTupleIter it l (i+1)->Heap.SameBut it s.heap h'->Q x { s with heap:=h' }) :
    wpAny (model prog w) A (Builtin.SmallTypes.nextOf (.ref it)) Q E s:=by
  have ty:=hit.typeIs
  obtain ⟨⟨c1,d1,x1,s1⟩,h1,e1,e2⟩:=hit
  obtain ⟨⟨c2,d2,x2,s2⟩,h2,e3,n,e4⟩:=hl
  obtain ⟨hp,g,dr,tk,os⟩:=s
  simp only at e1 e2 e3 e4
  subst e1 e2 e3 e4
  unfold Builtin.SmallTypes.nextOf
  refine AI (wpAny_callSpecial?_slot ty F.slot_tuple_iterator_next (wpAny_call_entry F.slot_tuple_iterator_next ty F.entry_tuple_iterator_next ?_ (F.args_tuple_iterator_next_1 _)))
  wp_walk
  rw [show items[(i:Int).toNat]?=some x from hx]
  wp_walk
  exact ⟨_,rfl,AJ (hQ _ ⟨_,Bc _ h1 rfl,rfl,rfl⟩ (Heap.SameBut.update ..))⟩
theorem oC {z TI TO T:Addr} {b:Bool} {oT:Obj} {R:Bool->Shared->Prop} (hz:cG s.heap z TI TO (rawInt (T:Nat)) (.bool b)) (hT:s.heap.get? T=some oT)
    (hR:∀ h₁,cG h₁ z TI TO (rawInt (T:Nat)) (.bool true)->Heap.SameBut z s.heap h₁->R false { s with heap:=h₁ }):wpAny (model prog w) A (Builtin.SmallTypes.ownedTupleIsFree (.ref z)) R E s:=by
  unfold Builtin.SmallTypes.ownedTupleIsFree
  refine AI (wpAny_field hz rfl (x:=rawInt (T:Nat)) rfl ?_)
  show wpAny _ _ (loadIfAlive (Int.toNat (T:Int)) >>= _) _ _ _
  refine AI (fun Γ p hΓ=>?_)
  show Sem.wp _ _ (Sem.loadIfAlive _ Sem.pure) _ _ _ _
  rw [Sem.wp_loadIfAlive,Int.toNat_natCast,hT]
  refine (show wpAny (model prog w) A (pure (some oT)) _ E s from AJ ?_) Γ p hΓ
  simp only [Option.isNone_some,Bj,if_false]
  refine AI (wpAny_field hz rfl (x:=.bool b) rfl ?_)
  cases b with
  | true=>exact AJ (hR s.heap hz (Heap.SameBut.refl _ _))
  | false =>
    refine AI (wpAny_setField_rec hz (by simp) fun h₁ hz₁ hs₁=>AJ (hR h₁ hz₁ hs₁))
theorem lK {z TI TO i1 i2 l1 l2 T:Addr} {k1 k2:Nat} {xs ys:Array Value} {x y:Value} {b:Bool} {oT:Obj} {Q:Value->Shared->Prop} (D:ZipApart z TI TO i1 i2 l1 l2)
    (hz:cG s.heap z TI TO (rawInt (T:Nat)) (.bool b)) (hT:s.heap.get? T=some oT) (hTI:PySem.IsPair s.heap TI (.ref i1) (.ref i2))
    (h1:s.heap.IsListIter i1 l1 k1) (h2:s.heap.IsTupleIter i2 l2 k2) (hl1:s.heap.IsList l1 xs) (hl2:s.heap.IsTuple l2 ys) (hx:xs[k1]?=some x) (hy:ys[k2]?=some y)
    (hQ:∀ h',cG h' z TI TO (rawInt (T:Nat)) (.bool true)->h'.IsListIter i1 l1 (k1+1)->h'.IsTupleIter i2 l2 (k2+1)->PySem.IsPair h' s.heap.objs.size x y->h'.objs.size=s.heap.objs.size+1 ->
      (∀ c o,c ≠ z->c ≠ i1->c ≠ i2->s.heap.get? c=some o->h'.get? c=some o)->Q (.ref s.heap.objs.size) { s with heap:=h' }) :
    wpAny (model prog w) A (Builtin.«zip.__next__» ⟨[.ref z],[]⟩) (fun fin s'=>∃ v,fin=.done (.ret v)/\Q v s') E s:=by
  show wpAny _ _ (field (.ref z) 2 >>= _) _ _ _
  refine AI (wpAny_field hz rfl (x:=.bool false) rfl ?_)
  show wpAny _ _ (field (.ref z) 3 >>= _) _ _ _
  refine AI (wpAny_field hz rfl (x:=.ref TI) rfl ?_)
  refine AI (wpAny_seqItems hTI rfl ?_)
  show wpAny _ _ (Builtin.SmallTypes.ownedTupleIsFree (.ref z) >>= _) _ _ _
  refine AI (oC hz hT fun h₁ hz₁ hs₁=>?_)
  simp only [Bj,if_false]
  refine AI ?_
  rw [<- Array.forIn_toList]
  simp only [List.forIn_cons,List.forIn_nil]
  refine AI (AI (AK ?_))
  show wpAny _ _ (Builtin.SmallTypes.nextOf (.ref i1) >>= _) _ _ _
  refine AI (wpAny_nextOf_list_item (h1.extBut hs₁.extBut D.i1z) (hl1.extBut hs₁.extBut D.l1z) hx fun h₂ h1₂ hs₂=>AJ ?_)
  refine AJ (AI (AI (AK ?_)))
  show wpAny _ _ (Builtin.SmallTypes.nextOf (.ref i2) >>= _) _ _ _
  refine AI (d8 ((h2.extBut hs₁.extBut D.i2z).extBut hs₂.extBut D.i12.symm) ((hl2.extBut hs₁.extBut D.l2z).extBut hs₂.extBut D.l2i1) hy fun h₃ h2₃ hs₃=>AJ ?_)
  refine AJ (AJ ?_)
  show wpAny _ _ (newTuple [x,y] >>= _) _ _ _
  refine AI (wpAny_newTuple (AJ ⟨_,rfl,?_⟩))
  have hz₃:cG h₃ z TI TO (rawInt (T:Nat)) (.bool true):=hs₃.extBut _ _ D.i2z.symm (hs₂.extBut _ _ D.i1z.symm hz₁)
  have hsz:h₃.objs.size=s.heap.objs.size:=by rw [hs₃.1,hs₂.1,hs₁.1]
  have g:(h₃.push { cls:=.type "tuple",data:=.seq #[x,y] }).get? h₃.objs.size=some _:=AW _ rfl
  have:=hQ (h₃.push { cls:=.type "tuple",data:=.seq #[x,y] }) (AN _ hz₃) ((fun ⟨o,e,r⟩=>⟨o,AN _ e,r⟩:h₃.IsListIter i1 l1 (k1+1)->_) (h1₂.extBut hs₃.extBut D.i12)) ((fun ⟨o,e,r⟩=>⟨o,AN _ e,r⟩:h₃.IsTupleIter i2 l2 (k2+1)->_) h2₃)
    (by rw [hsz] at g;exact g) (by rw [Bp,hsz]) fun c o c1 c2 c3 e=>AN _ (hs₃.extBut _ _ c3 (hs₂.extBut _ _ c2 (hs₁.extBut _ _ c1 e)))
  rw [<- hsz] at this
  exact this
theorem kF {z TI TO i1 i2 l1 l2:Addr} {k1 k2:Nat} {xs ys:Array Value} {x y a b:Value} {Q:Value->Shared->Prop} (D:ZipApart z TI TO i1 i2 l1 l2)
    (hz:cG s.heap z TI TO .none (.bool false)) (hTI:PySem.IsPair s.heap TI (.ref i1) (.ref i2)) (hTO:PySem.IsPair s.heap TO a b)
    (h1:s.heap.IsListIter i1 l1 k1) (h2:s.heap.IsTupleIter i2 l2 k2) (hl1:s.heap.IsList l1 xs) (hl2:s.heap.IsTuple l2 ys) (hx:xs[k1]?=some x) (hy:ys[k2]?=some y)
    (hQ:∀ h',cG h' z TI TO (rawInt s.heap.objs.size) (.bool false)->h'.IsListIter i1 l1 (k1+1)->h'.IsTupleIter i2 l2 (k2+1)->(∃ a b,PySem.IsPair h' TO a b)/\PySem.IsPair h' s.heap.objs.size x y->h'.objs.size=s.heap.objs.size+1 ->
      (∀ c o,c ≠ z->c ≠ TO->c ≠ i1->c ≠ i2->s.heap.get? c=some o->h'.get? c=some o)->Q (.ref s.heap.objs.size) { s with heap:=h' }) :
    wpAny (model prog w) A (Builtin.«zip.__next__» ⟨[.ref z],[]⟩) (fun fin s'=>∃ v,fin=.done (.ret v)/\Q v s') E s:=by
  obtain ⟨hp,g,dr,tk,os⟩:=s
  obtain ⟨q1,q2,q3,q4,q5,q6,q7,q8,q9,q10,q11,q12,q13,q14,q15,q16,q17,q18⟩:=D
  repeat ((fail_if_success with_reducible refine wpAny_onRaise ?_);wp_step)
  refine wpAny_onRaise (AI ?_)
  refine wpAny_nextOf_list_item (h1.extBut (Heap.SameBut.update ..).extBut q3) (hl1.extBut (Heap.SameBut.update ..).extBut q11) hx fun h₂ j1 s₂=>?_
  have z₂:cG h₂ z TI TO .ellipsis (.bool false):=s₂.extBut _ _ (Ne.symm q3) (Bc _ hz rfl)
  have t₂:PySem.IsPair h₂ TO a b:=s₂.extBut _ _ q8 ((Heap.SameBut.update ..).extBut _ _ q2 hTO)
  have k₂:∀ c o,c ≠ z->c ≠ i1->hp.get? c=some o->h₂.get? c=some o:=fun c o c1 c2 e=>s₂.extBut _ _ c2 ((Heap.SameBut.update ..).extBut _ _ c1 e)
  have n₂:h₂.objs.size=hp.objs.size:=by rw [s₂.1];exact (Heap.SameBut.update ..).1
  clear s₂
  repeat ((fail_if_success with_reducible refine wpAny_onRaise ?_);wp_step)
  refine wpAny_onRaise (AI ?_)
  refine d8 (it:=i2) (l:=l2) ((fun ⟨o,e,r⟩=>⟨o,(Heap.SameBut.update ..).extBut _ _ (Ne.symm q9) (k₂ _ _ q4 (Ne.symm q10) e),r⟩:hp.IsTupleIter i2 l2 k2->_) h2) ((fun ⟨o,e,r⟩=>⟨o,(Heap.SameBut.update ..).extBut _ _ q16 (k₂ _ _ q15 q17 e),r⟩:hp.IsTuple l2 ys->_) hl2) hy fun h₄ j2 s₄=>?_
  have z₄:cG h₄ z TI TO .ellipsis (.bool false):=s₄.extBut _ _ (Ne.symm q4) ((Heap.SameBut.update ..).extBut _ _ (Ne.symm q2) z₂)
  have t₄:PySem.IsPair h₄ TO x b:=s₄.extBut _ _ q9 (Bc _ t₂ rfl)
  have j1':h₄.IsListIter i1 l1 (k1+1):=j1.extBut (Heap.SameBut.update ..).extBut (Ne.symm q8) |>.extBut s₄.extBut q10
  have k₄:∀ c o,c ≠ z->c ≠ TO->c ≠ i1->c ≠ i2->hp.get? c=some o->h₄.get? c=some o:=fun c o c1 c2 c3 c4 e=>s₄.extBut _ _ c4 ((Heap.SameBut.update ..).extBut _ _ c2 (k₂ c o c1 c3 e))
  have n₄:h₄.objs.size=hp.objs.size:=by rw [s₄.1,<- n₂];exact (Heap.SameBut.update ..).1
  clear s₄ j1 z₂ t₂ k₂ n₂
  have n₅:∀ f,(h₄.update TO f).objs.size=hp.objs.size:=fun f=>by rw [Heap.size_update,n₄]
  have lz:=AU hz
  have up:∀ (h:Heap) (u:Obj) (f f':Obj->Obj) (c:Addr) (o:Obj),c ≠ z->h.get? c=some o->(((h.push u).update z f).update z f').get? c=some o:=fun h u f f' c o n e=>(Heap.SameBut.update ..).extBut _ _ n ((Heap.SameBut.update ..).extBut _ _ n (AN _ e))
  have k₅:∀ f c o,c ≠ TO->h₄.get? c=some o->(h₄.update TO f).get? c=some o:=fun f c o n e=>(Heap.SameBut.update ..).extBut _ _ n e
  have new:∀ (h:Heap) (u:Obj),u.isFreed=false->(h.push u).get? h.objs.size=some u:=fun h u e=>AW _ e
  wp_walk
  refine ⟨_,rfl,?_⟩
  have w:=new (h₄.update TO (Obj.mapSeq fun v:Array Value=>v.setIfInBounds (0+1) y)) { cls:=.type "tuple",data:=.seq #[x,y] } rfl
  simp only [n₅] at w ⊢
  refine hQ _ (Bc _ (Bc _ (AN _ (k₅ _ _ _ (Ne.symm q2) z₄)) rfl) rfl) ?_ ?_ ⟨⟨x,y,up _ _ _ _ _ _ q2 (Bc _ t₄ rfl)⟩,?_⟩ ?_ ?_
  · exact (fun ⟨o,e,r⟩=>⟨o,up _ _ _ _ _ _ q3 (k₅ _ _ _ (Ne.symm q8) e),r⟩:h₄.IsListIter i1 l1 (k1+1)->_) j1'
  · exact (fun ⟨o,e,r⟩=>⟨o,up _ _ _ _ _ _ q4 (k₅ _ _ _ (Ne.symm q9) e),r⟩:h₄.IsTupleIter i2 l2 (k2+1)->_) j2
  · exact (Heap.SameBut.update ..).extBut _ _ (Nat.ne_of_gt lz) ((Heap.SameBut.update ..).extBut _ _ (Nat.ne_of_gt lz) w)
  · rw [Heap.size_update,Heap.size_update,Bp,n₅]
  · exact fun c o c1 c2 c3 c4 e=>up _ _ _ _ _ _ c1 (k₅ _ _ _ c2 (k₄ c o c1 c2 c3 c4 e))
theorem uH {z TI TO i1 i2 l1 l2:Addr} {k1 k2:Nat} {xs ys:Array Value} {x y a b f0 f1:Value} {Q:Value->Shared->Prop} (D:ZipApart z TI TO i1 i2 l1 l2)
    (hz:cG s.heap z TI TO f0 f1) (hm:fB s.heap z TO i1 i2 f0 f1) (hTI:PySem.IsPair s.heap TI (.ref i1) (.ref i2)) (hTO:PySem.IsPair s.heap TO a b)
    (h1:s.heap.IsListIter i1 l1 k1) (h2:s.heap.IsTupleIter i2 l2 k2) (hl1:s.heap.IsList l1 xs) (hl2:s.heap.IsTuple l2 ys) (hx:xs[k1]?=some x) (hy:ys[k2]?=some y)
    (hQ:∀ h' f0' f1',cG h' z TI TO f0' f1'->fB h' z TO i1 i2 f0' f1'->(∃ a b,PySem.IsPair h' TO a b)->h'.IsListIter i1 l1 (k1+1)->h'.IsTupleIter i2 l2 (k2+1)->PySem.IsPair h' s.heap.objs.size x y->h'.objs.size=s.heap.objs.size+1 ->
      (∀ c o,c ≠ z->c ≠ TO->c ≠ i1->c ≠ i2->s.heap.get? c=some o->h'.get? c=some o)->Q (.ref s.heap.objs.size) { s with heap:=h' }) :
    wpAny (model prog w) A (Builtin.«zip.__next__» ⟨[.ref z],[]⟩) (fun fin s'=>∃ v,fin=.done (.ret v)/\Q v s') E s:=by
  have lz:z < s.heap.objs.size:=AU hz
  have lTO:TO < s.heap.objs.size:=AU hTO
  have l1':i1 < s.heap.objs.size:=by obtain ⟨_,e,_⟩:=h1;exact AU e
  have l2':i2 < s.heap.objs.size:=by obtain ⟨_,e,_⟩:=h2;exact AU e
  rcases hm with ⟨rfl,rfl⟩ | ⟨T,oT,rfl,hT,b,rfl,t1,t2,t3,t4⟩
  · exact kF D hz hTI hTO h1 h2 hl1 hl2 hx hy fun h' a1 a2 a3 a4 a5 a6=>hQ h' _ _ a1 (.inr ⟨_,_,rfl,a4.2,_,rfl,Nat.ne_of_gt lz,Nat.ne_of_gt lTO,Nat.ne_of_gt l1',Nat.ne_of_gt l2'⟩) a4.1 a2 a3 a4.2 a5 a6
  · exact lK D hz hT hTI h1 h2 hl1 hl2 hx hy fun h' a1 a2 a3 a4 a5 a6=>hQ h' _ _ a1 (.inr ⟨_,_,rfl,a6 _ _ t1 t3 t4 hT,_,rfl,t1,t2,t3,t4⟩) ⟨_,_,a6 _ _ D.TOz D.TOi1 D.TOi2 hTO⟩ a2 a3 a4 a5 fun c o c1 _ c3 c4 e=>a6 c o c1 c3 c4 e
theorem wG {z TI TO i1 i2 l1 l2:Addr} {k1:Nat} {xs:Array Value} {a b f0 f1:Value} {Q:Fin->Shared->Prop} (hh:A.handled=none) (D:ZipApart z TI TO i1 i2 l1 l2)
    (hz:cG s.heap z TI TO f0 f1) (hm:fB s.heap z TO i1 i2 f0 f1) (hTI:PySem.IsPair s.heap TI (.ref i1) (.ref i2)) (hTO:PySem.IsPair s.heap TO a b)
    (h1:s.heap.IsListIter i1 l1 k1) (hl1:s.heap.IsList l1 xs) (hend:xs[k1]?=none)
    (hE:∀ h' e,(∀ c o,c ≠ z->c ≠ TO->c ≠ i1->c ≠ i2->s.heap.get? c=some o->h'.get? c=some o)->(∃ o,h'.get? e=some o/\o.cls=.type "StopIteration")->E (.ref e) { s with heap:=h' }) :
    wpAny (model prog w) A (Builtin.«zip.__next__» ⟨[.ref z],[]⟩) Q E s:=by
  show wpAny _ _ (field (.ref z) 2 >>= _) _ _ _
  refine AI (wpAny_field hz rfl (x:=.bool false) rfl ?_)
  show wpAny _ _ (field (.ref z) 3 >>= _) _ _ _
  refine AI (wpAny_field hz rfl (x:=.ref TI) rfl ?_)
  refine AI (wpAny_seqItems hTI rfl ?_)
  show wpAny _ _ (Builtin.SmallTypes.ownedTupleIsFree (.ref z) >>= _) _ _ _
  rcases hm with ⟨rfl,rfl⟩ | ⟨T,oT,rfl,hT,b,rfl,t1,t2,t3,t4⟩
  · refine AI ?_
    unfold Builtin.SmallTypes.ownedTupleIsFree
    refine AI (wpAny_field hz rfl (x:=.none) rfl (AJ ?_))
    simp only [if_true]
    refine AI (wpAny_rule ?_)
    refine AI (wpAny_field hz rfl (x:=.ref TO) rfl ?_)
    refine AI (wpAny_setField_rec hz (by simp) fun h₁ hz₁ hs₁=>?_)
    replace hz₁:cG h₁ z TI TO .ellipsis (.bool false):=hz₁
    refine AI ?_
    simp only [List.zipIdx_cons,List.zipIdx_nil,List.forIn_cons,List.forIn_nil]
    refine AI (AI (wpAny_onRaise ?_))
    show wpAny _ _ (Builtin.SmallTypes.nextOf (.ref i1) >>= _) _ _ _
    refine AI (wpAny_nextOf_list_end hh (h1.extBut hs₁.extBut D.i1z) (hl1.extBut hs₁.extBut D.l1z) hend fun h₂ e hs₂ he=>?_)
    obtain ⟨oe,hoe,hce⟩:=he
    have hz₂:cG h₂ z TI TO .ellipsis (.bool false):=hs₂ _ _ D.i1z.symm hz₁
    have hez:e ≠ z:=fun x=>by subst x;rw [hz₂] at hoe;cases hoe;simp at hce
    refine wpAny_setField_rec hz₂ (by simp) fun h₃ _ hs₃=>hE h₃ e (fun c o c1 _ c3 _ x=>hs₃.extBut _ _ c1 (hs₂ _ _ c3 (hs₁.extBut _ _ c1 x))) ⟨oe,hs₃.extBut _ _ hez hoe,hce⟩
  · refine AI (oC hz hT fun h₁ hz₁ hs₁=>?_)
    simp only [Bj,if_false]
    refine AI ?_
    rw [<- Array.forIn_toList]
    simp only [List.forIn_cons,List.forIn_nil]
    refine AI (AI (AK ?_))
    show wpAny _ _ (Builtin.SmallTypes.nextOf (.ref i1) >>= _) _ _ _
    refine AI (wpAny_nextOf_list_end hh (h1.extBut hs₁.extBut D.i1z) (hl1.extBut hs₁.extBut D.l1z) hend fun h₂ e hs₂ he=>?_)
    exact hE h₂ e (fun c o c1 _ c3 _ x=>hs₂ _ _ c3 (hs₁.extBut _ _ c1 x)) he
theorem uj {l1 l2:Addr} {xs ys:Array Value} {Q:Value->Shared->Prop} (hl1:s.heap.IsList l1 xs) (hl2:s.heap.IsTuple l2 ys)
    (h:∀ h',IsZip h' (s.heap.objs.size+4) (s.heap.objs.size+2) (s.heap.objs.size+3) .none->PySem.IsPair h' (s.heap.objs.size+2) (.ref s.heap.objs.size) (.ref (s.heap.objs.size+1)) ->
      PySem.IsPair h' (s.heap.objs.size+3) .none .none->h'.IsListIter s.heap.objs.size l1 0->h'.IsTupleIter (s.heap.objs.size+1) l2 0->h'.objs.size=s.heap.objs.size+5 ->
      (∀ c o,s.heap.get? c=some o->h'.get? c=some o)->Q (.ref (s.heap.objs.size+4)) { s with heap:=h' }) :
    wpAny (model prog w) A (call (.type "zip") [.ref l1,.ref l2]) Q E s :=
  callType_new F.called_zip (by decide) (F.typeCall_zip_2 _ _) (F.newCall_zip_2 _ _) (fun obj=>F.args_object_init_3 obj _ _) F.entry_zip_new (uI l1 l2 xs ys) ⟨hl1,hl2,fun h' f k =>
    let ⟨a,b,c,d,e,z⟩:=f _ rfl
    ⟨⟨_,a,rfl⟩,h h' a b c d e z k⟩⟩
end
end L2
end
section
namespace L2
open PySem
namespace Fz
theorem entry_dict_update_loop:entryFor table "dict.update.loop"=some Builtin.«dict.update.loop»:=entryFor_of_tree (by kernel_rfl)
theorem plain_dict_update_loop:plainId "dict.update.loop"=true:=by decide +kernel
end Fz
section
variable {prog:Program} {w:World} {K:Type} [DecidableEq K] {knd:HeapKind prog w K} {A:Around} {E:Value->Shared->Prop} {s:Shared}
theorem tv {z TI TO i1 i2 l1 l2:Addr} {k1 k2:Nat} {xs ys:Array Value} {x y a b f0 f1:Value} {Q:Option Value->Shared->Prop} (D:ZipApart z TI TO i1 i2 l1 l2)
    (hz:cG s.heap z TI TO f0 f1) (hm:fB s.heap z TO i1 i2 f0 f1) (hTI:PySem.IsPair s.heap TI (.ref i1) (.ref i2)) (hTO:PySem.IsPair s.heap TO a b)
    (h1:s.heap.IsListIter i1 l1 k1) (h2:s.heap.IsTupleIter i2 l2 k2) (hl1:s.heap.IsList l1 xs) (hl2:s.heap.IsTuple l2 ys) (hx:xs[k1]?=some x) (hy:ys[k2]?=some y)
    (hQ:∀ h' f0' f1',cG h' z TI TO f0' f1'->fB h' z TO i1 i2 f0' f1'->(∃ a b,PySem.IsPair h' TO a b)->h'.IsListIter i1 l1 (k1+1)->h'.IsTupleIter i2 l2 (k2+1)->PySem.IsPair h' s.heap.objs.size x y->h'.objs.size=s.heap.objs.size+1 ->
      (∀ c o,c ≠ z->c ≠ TO->c ≠ i1->c ≠ i2->s.heap.get? c=some o->h'.get? c=some o)->Q (some (.ref s.heap.objs.size)) { s with heap:=h' }) :
    wpAny (model prog w) A (pyNext (.ref z)) Q E s:=by
  have hT:s.TypeIs (.ref z) "zip":=⟨_,hz,rfl⟩
  unfold pyNext
  exact AI (wpAny_attempt (wpAny_callSpecial?_slot (name:=Str.ofString "__next__") hT PySem.F.slot_zip_next
    (wpAny_call_entry PySem.F.slot_zip_next hT PySem.F.entry_zip_next
      (uH D hz hm hTI hTO h1 h2 hl1 hl2 hx hy fun h' f0' f1' a1 a2 a3 a4 a5 a6 a7 a8=>AJ (hQ h' f0' f1' a1 a2 a3 a4 a5 a6 a7 a8)) (PySem.F.args_zip_next_1 _))))
theorem vB {z TI TO i1 i2 l1 l2:Addr} {k1:Nat} {xs:Array Value} {a b f0 f1:Value} {Q:Option Value->Shared->Prop} (hh:A.handled=none) (D:ZipApart z TI TO i1 i2 l1 l2)
    (hz:cG s.heap z TI TO f0 f1) (hm:fB s.heap z TO i1 i2 f0 f1) (hTI:PySem.IsPair s.heap TI (.ref i1) (.ref i2)) (hTO:PySem.IsPair s.heap TO a b)
    (h1:s.heap.IsListIter i1 l1 k1) (hl1:s.heap.IsList l1 xs) (hend:xs[k1]?=none)
    (hQ:∀ h',(∀ c o,c ≠ z->c ≠ TO->c ≠ i1->c ≠ i2->s.heap.get? c=some o->h'.get? c=some o)->Q none { s with heap:=h' }):wpAny (model prog w) A (pyNext (.ref z)) Q E s:=by
  have hT:s.TypeIs (.ref z) "zip":=⟨_,hz,rfl⟩
  unfold pyNext
  refine AI (wpAny_attempt (wpAny_callSpecial?_slot (name:=Str.ofString "__next__") hT PySem.F.slot_zip_next
    (wpAny_call_entry PySem.F.slot_zip_next hT PySem.F.entry_zip_next (wG hh D hz hm hTI hTO h1 hl1 hend fun h' e hk he=>?_) (PySem.F.args_zip_next_1 _))))
  obtain ⟨o,ho,hc⟩:=he
  refine AI (wpAny_isInstance (T:="StopIteration") (b:=true) ⟨o,ho,hc⟩ isSubtype_stop ?_)
  exact AJ (hQ _ hk)
set_option tactic.hygienic true in
theorem rn {tr:List (K × Addr × Value)} (hn:(tr.map (·.1)).Nodup) {i:Nat} {t:K × Addr × Value} (e:tr[i]?=some t):storedH (tr.take i) t.1 t.2.1 t.2.2=tr.take (i+1):=by
  have hno:atKey (tr.take i) t.1=none:=by
    refine atKey_none_of_get fun j p hj=>?_
    have hlt:i < tr.length:=by obtain ⟨h,_⟩:=AY.mp e;exact h
    rw [List.getElem?_take] at hj
    split at hj
    · rename_i hji
      have hjl:j < tr.length:=Nat.lt_trans hji hlt
      have e1:(tr.map (·.1))[j]'(by simpa using hjl)=(tr.map (·.1))[i]'(by simpa using hlt):=by
        have h1:=AY.mp hj
        have h2:=AY.mp e
        simp only [List.getElem_map]
        rw [h1.2,h2.2]
      exact List.pairwise_iff_getElem.mp hn j i _ _ hji e1
    · cases hj
  rw [storedH_new hno,List.take_add_one,e]
  rfl
theorem ua (hh:A.in1.handled=none) (hu:knd.room A.in1) {z TI TO i1 i2 l1 l2 d:Addr} (D:ZipApart z TI TO i1 i2 l1 l2) (dz:d ≠ z) (dTI:d ≠ TI) (dTO:d ≠ TO) (d1:d ≠ i1) (d2:d ≠ i2) (dl1:d ≠ l1) (dl2:d ≠ l2)
    {tr:List (K × Addr × Value)} (hn:(tr.map (·.1)).Nodup) (hsz:tr.length<=sizeLine) {R:Result->Shared->Prop}
    (keep:∀ h h':Heap,(∀ t ∈ tr,knd.is h t.1 t.2.1)->(∀ c o,c ≠ z->c ≠ TO->c ≠ i1->c ≠ i2->h.get? c=some o->h'.get? c=some o)->∀ t ∈ tr,knd.is h' t.1 t.2.1) :
    ∀ (k i:Nat) (s:Shared) (f0 f1 a b:Value),tr.length - i=k->i<=tr.length->cG s.heap z TI TO f0 f1->fB s.heap z TO i1 i2 f0 f1->PySem.IsPair s.heap TI (.ref i1) (.ref i2)->PySem.IsPair s.heap TO a b ->
      s.heap.IsListIter i1 l1 i->s.heap.IsTupleIter i2 l2 i->s.heap.IsList l1 (tr.map fun t=>Value.ref t.2.1).toArray->s.heap.IsTuple l2 (tr.map fun t=>t.2.2).toArray ->
      (∀ t ∈ tr,knd.is s.heap t.1 t.2.1)->DictOfHE knd s.heap d (tr.take i) ->
      (∀ h' tk,DictOfHE knd h' d tr->(∀ c o,c ≠ z->c ≠ TO->c ≠ i1->c ≠ i2->c ≠ d->s.heap.get? c=some o->h'.get? c=some o)->R (.ok (.ret .none)) { s with heap:=h',toks:=tk }) ->
      codeAny (model prog w) A (.builtin "dict.update.loop" ⟨[.ref d,.ref z,rawInt i,.none],[]⟩) R s:=by
  have carry:∀ {h h':Heap} {ys:List (K × Addr × Value)},DictOfHE knd h d ys->(∀ t ∈ ys,knd.is h' t.1 t.2.1)->(∀ c o,c ≠ z->c ≠ TO->c ≠ i1->c ≠ i2->h.get? c=some o->h'.get? c=some o)->DictOfHE knd h' d ys:=fun ⟨o,es,ep,g1,g2,g3,g4,g5,g6,g7⟩ hi hk =>
    ⟨o,es,ep,hk d o dz dTO d1 d2 g1,g2,g3,g4,hi,g6,g7⟩
  intro k
  induction k with
  | zero =>
    intro i s f0 f1 a b hk hi hz hm hTI hTO h1 h2 hl1 hl2 his hd hR
    have hin:i=tr.length:=by omega
    subst hin
    refine codeAny_builtin Fz.entry_dict_update_loop ?_
    rw [Around.under_plainId Fz.plain_dict_update_loop _]
    show wpAny _ A.in1 (pyNext (.ref z) >>= _) _ _ s
    refine AI (vB hh D hz hm hTI hTO h1 hl1 (by simp) fun h' hk'=>?_)
    show wpAny _ A.in1 (Builtin.Dict.addKeywords d [] >>= _) _ _ _
    refine AI (AJ (AJ ?_))
    rw [List.take_length] at hd
    exact hR h' s.toks (carry hd (keep _ _ his hk') hk') fun c o c1 c2 c3 c4 _ e=>hk' c o c1 c2 c3 c4 e
  | succ k ih =>
    intro i s f0 f1 a b hk hi hz hm hTI hTO h1 h2 hl1 hl2 his hd hR
    have hlt:i < tr.length:=by omega
    have ht:tr[i]?=some tr[i]:=AT hlt
    have hmem:tr[i] ∈ tr:=List.getElem_mem hlt
    refine codeAny_builtin Fz.entry_dict_update_loop ?_
    rw [Around.under_plainId Fz.plain_dict_update_loop _]
    show wpAny _ A.in1 (pyNext (.ref z) >>= _) _ _ s
    refine AI (tv D hz hm hTI hTO h1 h2 hl1 hl2 (x:=.ref tr[i].2.1) (y:=tr[i].2.2) (by simp [ht]) (by simp [ht]) fun h' f0' f1' a1 a2 ⟨a',b',a3⟩ a4 a5 a6 a7 hk'=>?_)
    have his':=keep _ _ his hk'
    have hd':=carry hd (fun t q=>his' t (List.mem_of_mem_take q)) hk'
    refine AI (AK ?_)
    refine AI (wpAny_tryCatch ?_)
    unfold Builtin.Dict.pairItems
    refine AI (wpAny_typeOf (T:="tuple") ⟨_,a6,rfl⟩ ?_)
    rw [if_pos (by decide)]
    refine AI (wpAny_seqItems a6 rfl (AJ ?_))
    show wpAny _ _ (holding [Value.ref tr[i].2.1,tr[i].2.2] (dictSet d (.ref tr[i].2.1) tr[i].2.2)) _ _ _
    refine AK (gF hu (his' _ hmem) hd' (hsz:=by rw [Bf];omega) fun h₂ hd₂ hs₂=>?_)
    rw [rn hn ht] at hd₂
    obtain ⟨o',es',ep',g1,g2,g3,g4,g5,g6,g7⟩:=hd'
    refine AJ ⟨plainId_quiet Fz.plain_dict_update_loop _,?_⟩
    have up:∀ c o,c ≠ d->h'.get? c=some o->h₂.get? c=some o:=fun c o c1 e=>hs₂.extBut _ _ c1 e
    refine ih (i+1) _ f0' f1' a' b' (by omega) hlt (up _ _ dz.symm a1) ?_ (up _ _ dTI.symm (hk' _ _ D.TIz D.TITO D.TIi1 D.TIi2 hTI)) (up _ _ dTO.symm a3) ?_ ?_ ?_ ?_ (fun t q=>knd.keeps (his' t q) g1 g3 hs₂) hd₂ fun h₃ tk hd₃ hk₃=>?_
    · rcases a2 with q | ⟨T,oT,e0,hT,b0,e1,t1⟩
      · exact .inl q
      · by_cases hTd:T=d
        · obtain ⟨o2,_,_,g,_⟩:=hd₂
          exact .inr ⟨T,o2,e0,hTd ▸ g,b0,e1,t1⟩
        · exact .inr ⟨T,oT,e0,up _ _ hTd hT,b0,e1,t1⟩
    · exact a4.at fun o e=>up _ o d1.symm e
    · obtain ⟨o,e,r⟩:=a5
      exact ⟨o,up _ o d2.symm e,r⟩
    · exact (hl1.at fun o e=>hk' _ o D.l1z D.l1TO D.l1i1 D.l1i2 e).at fun o e=>up _ o dl1.symm e
    · obtain ⟨o,e,r⟩:=hl2
      exact ⟨o,up _ o dl2.symm (hk' _ o D.l2z D.l2TO D.l2i1 D.l2i2 e),r⟩
    · exact hR h₃ tk hd₃ fun c o c1 c2 c3 c4 c5 e=>hk₃ c o c1 c2 c3 c4 c5 (up c o c5 (hk' c o c1 c2 c3 c4 e))
theorem vS:typeLookup (.type "zip") "keys"=pure none:=am_miss_of_fast (by kernel_rfl)
theorem nX (hh:A.handled=none) (hu:knd.room A.in1.in1) {z TI TO i1 i2 l1 l2:Addr} {a b:Value} (D:ZipApart z TI TO i1 i2 l1 l2)
    {tr:List (K × Addr × Value)} (hn:(tr.map (·.1)).Nodup) (hsz:tr.length<=sizeLine) {Q:Value->Shared->Prop}
    (keep:∀ h h':Heap,(∀ t ∈ tr,knd.is h t.1 t.2.1)->(∀ c o,c ≠ z->c ≠ TO->c ≠ i1->c ≠ i2->h.get? c=some o->h'.get? c=some o)->∀ t ∈ tr,knd.is h' t.1 t.2.1)
    (hz:cG s.heap z TI TO .none (.bool false)) (hTI:PySem.IsPair s.heap TI (.ref i1) (.ref i2)) (hTO:PySem.IsPair s.heap TO a b)
    (h1:s.heap.IsListIter i1 l1 0) (h2:s.heap.IsTupleIter i2 l2 0) (hl1:s.heap.IsList l1 (tr.map fun t=>Value.ref t.2.1).toArray) (hl2:s.heap.IsTuple l2 (tr.map fun t=>t.2.2).toArray)
    (his:∀ t ∈ tr,knd.is s.heap t.1 t.2.1)
    (hQ:∀ h' tk,DictOfHE knd h' s.heap.objs.size tr->(∀ c o,c ≠ z->c ≠ TO->c ≠ i1->c ≠ i2->s.heap.get? c=some o->h'.get? c=some o)->Q (.ref s.heap.objs.size) { s with heap:=h',toks:=tk }) :
    wpAny (model prog w) A (call (.type "dict") [.ref z]) Q E s:=by
  have lz:z < s.heap.objs.size:=AU hz
  have lTI:TI < s.heap.objs.size:=AU hTI
  have lTO:TO < s.heap.objs.size:=AU hTO
  have li1:i1 < s.heap.objs.size:=by obtain ⟨_,e,_⟩:=h1;exact AU e
  have li2:i2 < s.heap.objs.size:=by obtain ⟨_,e,_⟩:=h2;exact AU e
  have ll1:l1 < s.heap.objs.size:=by obtain ⟨_,e,_⟩:=hl1;exact AU e
  have ll2:l2 < s.heap.objs.size:=by obtain ⟨_,e,_⟩:=hl2;exact AU e
  refine callType_codes (Q₁:=fun obj s₁=>obj=.ref s.heap.objs.size/\s₁ = { s with heap:=s.heap.push { cls:=.type "dict",data:=.dict #[] } }) PySem.F.kt_called_dict (PySem.F.kt_typeCall_dict_1 _) PySem.F.entry_dict_init (kt_code_dict_new _ ⟨rfl,rfl⟩) ?_
  rintro obj s₁ ⟨rfl,rfl⟩
  have hg:(s.heap.push { cls:=.type "dict",data:=.dict #[] }).get? s.heap.objs.size=some _:=AW _ rfl
  have hT:Shared.TypeIs { s with heap:=s.heap.push { cls:=.type "dict",data:=.dict #[] } } (.ref s.heap.objs.size) "dict":=⟨_,hg,rfl⟩
  have pz:=AN { cls:=.type "dict",data:=.dict #[] } hz
  refine ⟨hT,PySem.F.args_dict_init_2 _ _,?_⟩
  unfold Builtin.«dict.__init__»
  refine AI ?_
  unfold Builtin.Dict.selfAndRest
  refine AI (wpAny_notOrdered_dict hT ?_)
  show wpAny _ _ (pure (s.heap.objs.size,[Value.ref z])) _ _ _
  refine AJ ?_
  show wpAny _ _ (Builtin.Dict.updateFrom "dict.__init__" s.heap.objs.size (.ref z) [] .none) _ _ _
  unfold Builtin.Dict.updateFrom
  refine AI (wpAny_typeOf (T:="zip") ⟨_,pz,rfl⟩ ?_)
  rw [if_pos (by decide)]
  refine AI (getAttr?_miss_zip pz rfl rfl rfl vS (by decide) ?_ fun h₁ tk₁ e₁ hx₁=>?_)
  · simpa using hh
  · have old:∀ c o,s.heap.get? c=some o->h₁.get? c=some o:=fun c o e=>hx₁.keeps c o (AN _ e)
    have hg₁:=hx₁.keeps _ _ hg
    simp only [Option.isNone_none,if_true]
    refine AI (wpAny_rule (AI (wpAny_pyIter_zip (f0:=.none) (old _ _ hz) (AJ ⟨plainId_quiet Fz.plain_dict_update_loop _,?_⟩))))
    have ne:∀ {c:Addr},c < s.heap.objs.size->s.heap.objs.size ≠ c:=fun h=>Nat.ne_of_gt h
    have his₁:∀ t ∈ tr,knd.is h₁ t.1 t.2.1:=keep _ _ his fun c o _ _ _ _ e=>old c o e
    refine ua (A:=A.in1) (by simpa using hh) hu D (ne lz) (ne lTI) (ne lTO) (ne li1) (ne li2) (ne ll1) (ne ll2) hn hsz keep (tr.length - 0) 0 _ .none (.bool false) a b rfl (Nat.zero_le _) (old _ _ hz) (.inl ⟨rfl,rfl⟩) (old _ _ hTI) (old _ _ hTO)
      (h1.at fun o e=>old _ o e) ((fun ⟨o,e,r⟩=>⟨o,old _ o e,r⟩:s.heap.IsTupleIter i2 l2 0->_) h2) (hl1.at fun o e=>old _ o e) ((fun ⟨o,e,r⟩=>⟨o,old _ o e,r⟩:s.heap.IsTuple l2 _->_) hl2) his₁ ⟨_,#[],0,hg₁,⟨rfl,rfl,rfl⟩,rfl,rfl,(fun x hx=>by cases hx),List.nodup_nil,rfl⟩ fun h' tk hd' hk'=>?_
    refine ⟨rfl,hQ h' tk hd' fun c o c1 c2 c3 c4 e=>hk' c o c1 c2 c3 c4 (A6 (AU e)) (old c o e)⟩
end
end L2
end
section
namespace L2
open PySem PySem.Spec PyProof.Rows
section
variable {X:Cx}
noncomputable def yp (K:FG) (ta:TA):TE:=fun σ H Q=>ta σ H fun vs H1=>∃ (l t:Addr) (bs:List (Addr × List Key)) (ws:List V),vs=[.ref l,.ref t]/\SqL K H1 l (bs.map fun b=>V.ref b.1)/\SqT K H1 t ws/\(∀ b ∈ bs,H1 b.1=some (.tup (b.2.map kV)))/\bs.length=ws.length/\(bs.map (·.2)).Nodup /\
  ∀ p,H1 p=none->Q (.ref p) (upd H1 p (.dT ((bs.map (·.2)).zip ws)))
noncomputable def fO:List (Addr × List Key)->List Value->List (List Key × Addr × Value)
  | b :: bs,v :: vs=>(b.2,b.1,v) :: fO bs vs
  | _,_=>[]
theorem mq:∀ {bs:List (Addr × List Key)} {vs:List Value},bs.length=vs.length->(fO bs vs).map (·.1)=bs.map (·.2)
  | [],[],_=>rfl
  | b :: bs,v :: vs,e=>by simp [fO,mq (bs:=bs) (vs:=vs) (by simpa using e)]
theorem mo:∀ {bs:List (Addr × List Key)} {vs:List Value},bs.length=vs.length->(fO bs vs).map (fun t=>Value.ref t.2.1)=bs.map fun b=>Value.ref b.1
  | [],[],_=>rfl
  | b :: bs,v :: vs,e=>by simp [fO,mo (bs:=bs) (vs:=vs) (by simpa using e)]
theorem mn:∀ {bs:List (Addr × List Key)} {vs:List Value},bs.length=vs.length->(fO bs vs).map (fun t=>t.2.2)=vs
  | [],[],_=>rfl
  | b :: bs,v :: vs,e=>by simp [fO,mn (bs:=bs) (vs:=vs) (by simpa using e)]
theorem oK:∀ {bs:List (Addr × List Key)} {vs:List Value},bs.length=vs.length->(fO bs vs).length=bs.length
  | [],[],_=>rfl
  | b :: bs,v :: vs,e=>by simp [fO,oK (bs:=bs) (vs:=vs) (by simpa using e)]
theorem oJ:∀ {bs:List (Addr × List Key)} {vs:List Value} {t:List Key × Addr × Value},t ∈ fO bs vs->(t.2.1,t.1) ∈ bs
  | [],vs,t,h=>by cases vs <;> cases h
  | b :: bs,[],t,h=>by cases h
  | b :: bs,v :: vs,t,h=>by
    rcases AS.mp h with rfl | h
    · exact AL
    · exact AM _ (oJ h)
theorem rA {H:Hp}:∀ {bs:List (Addr × List Key)} {ws:List V} {vs:List Value},Vals ws vs->bs.length=ws.length->(∀ b ∈ bs,H b.1=some (.tup (b.2.map kV)))->KT H ((bs.map (·.2)).zip ws) (fO bs vs)
  | [],_,_,.nil,_,_=>.nil
  | [],_,_,.cons _ _,e,_=>by cases e
  | b :: bs,_,_,.nil,e,_=>by cases e
  | b :: bs,_,_,.cons r rs,e,hb=>.cons ⟨rfl,hb b AL,r⟩ (rA rs (by simpa using e) fun c hc=>hb c (AM _ hc))
theorem wz (n l t:Nat) (hl:l < n) (ht:t < n):ZipApart (n+4) (n+2) (n+3) n (n+1) l t:=by
  constructor <;> intro e <;> (have e:(_:Nat)=_:=e;omega)
theorem my:∀ {bs:List Addr} {its:List Value},Vals (bs.map V.ref) its->its=bs.map Value.ref
  | [],_,.nil=>rfl
  | _ :: bs,_,.cons r rs=>by cases r;rw [my rs];rfl
theorem xz {a b:Expr} {ta:TA} {p1 p2 pos1 pos2:Pos} (hc:X.calm=true) (hu:X.A.units+64 < cLine) (hgl:Gl X "dict") (hml:X.mg "dict"=none) (hg:Gl X "zip") (hm:X.mg "zip"=none) (hbd:bootBuiltins "dict"=some (.type "dict")) (hbz:bootBuiltins "zip"=some (.type "zip")) (ha:PA X [a,b] ta)
    (hs:starEach [.Call (.Name "zip" p2) [a,b] [] pos2] X.env=[(false,eval (.Call (.Name "zip" p2) [a,b] [] pos2) X.env)]) (hs2:starEach [a,b] X.env=(false,eval a X.env) :: starEach [b] X.env) (hpl:(backTo pos2 (starEach [b] X.env)).any (·.1)=false) :
    PE X (.Call (.Name "dict" p1) [.Call (.Name "zip" p2) [a,b] [] pos2] [] pos1) (yp X.K ta):=by
  intro pins s σ H Q I h
  refine Call_ (eJ I hgl hml hbd (PyProof.Rows.callWith_type1 ?_ hs rfl))
  rw [hs]
  show wpAny _ _ (spliced ((false,eval (.Call (.Name "zip" p2) [a,b] [] pos2) X.env) :: [])) _ _ s
  refine Calls.spliced_cons (Call_ (eJ I hg hm hbz (PyProof.Rows.callWith_type1 (thn (ha pos2 pins s σ H _ I h) fun us s1 ⟨vs,H1,I1,r1,q1⟩=>?_) hs2 hpl)))
  obtain ⟨l,t,bs,ws,rfl,hl,ht,hb,hlen,hnd,q⟩:=q1
  cases r1 with
  | cons r rr =>
    cases rr with
    | cons r' rr =>
      cases rr
      cases r
      cases r'
      obtain ⟨its,rl,pl,zl⟩:=I1.list hl
      obtain ⟨vs,rt,pt,zt⟩:=I1.tuple ht
      have e1:its=(bs.map (·.1)).map Value.ref:=my (by rw [Bs];exact rl)
      have e2:bs.length=vs.length:=by rw [hlen];exact rt.length
      have pl':s1.heap.IsList l ((fO bs vs).map fun t=>Value.ref t.2.1).toArray:=by rw [mo e2];have:=pl.isList;rw [e1,Bs] at this;exact this
      have pt':s1.heap.IsTuple t ((fO bs vs).map fun t=>t.2.2).toArray:=by rw [mn e2];exact pt
      have lt:∀ {c:Addr} {o:Obj},s1.heap.get? c=some o->c < s1.heap.objs.size:=fun e=>AU e
      have ll:l < s1.heap.objs.size:=by obtain ⟨_,e,_⟩:=pl';exact lt e
      have lt':t < s1.heap.objs.size:=by obtain ⟨_,e,_⟩:=pt';exact lt e
      refine uj pl' pt' fun h2 hz hTI hTO hi1 hi2 hsz hk=>Calls.spliced_nil ?_
      have D:=wz s1.heap.objs.size l t ll lt'
      have key:∀ x ∈ fO bs vs,(tupleKind (bB X.prog X.w)).is s1.heap x.1 x.2.1:=fun x hx=>nK I1.hok (hb _ (oJ hx))
      have keep:∀ h h':Heap,(∀ x ∈ fO bs vs,(tupleKind (bB X.prog X.w)).is h x.1 x.2.1)->(∀ c o,c ≠ s1.heap.objs.size+4->c ≠ s1.heap.objs.size+3->c ≠ s1.heap.objs.size->c ≠ s1.heap.objs.size+1->h.get? c=some o->h'.get? c=some o)->∀ x ∈ fO bs vs,(tupleKind (bB X.prog X.w)).is h' x.1 x.2.1:=fun h h' hi hk x hx=>by
        obtain ⟨o,its,n,g1,g2,g3,g4⟩:=hi x hx
        obtain ⟨o0,its0,n0,k1,_⟩:=key x hx
        have:=lt k1
        exact ⟨o,its,n,hk _ _ (A6 (Nat.lt_add_right 4 this)) (A6 (Nat.lt_add_right 3 this)) (A6 this) (A6 (Nat.lt_add_right 1 this)) g1,g2,g3,g4⟩
      refine nX (knd:=tupleKind (bB X.prog X.w)) (I.ok.hd hc) (show X.A.units+1+1 < cLine by omega) D (by rw [mq e2];exact hnd) (by rw [oK e2,e2];have:=zt;have:=rt.length;omega) keep hz hTI hTO hi1 hi2 (pl'.at fun o e=>hk _ o e) ((fun ⟨o,e,r⟩=>⟨o,hk _ o e,r⟩:s1.heap.IsTuple t _->_) pt') (fun x hx=>?_) fun h' tk hd hk'=>?_
      · obtain ⟨o,its,n,g1,g2,g3,g4⟩:=key x hx
        exact ⟨o,its,n,hk _ _ g1,g2,g3,g4⟩
      · rw [hsz] at hd ⊢
        have old:∀ c o,s1.heap.get? c=some o->h'.get? c=some o:=fun c o e=>hk' c o (A6 (Nat.lt_add_right 4 (lt e))) (A6 (Nat.lt_add_right 3 (lt e))) (A6 (lt e)) (A6 (Nat.lt_add_right 1 (lt e))) (hk c o e)
        have fr:s1.heap.objs.size<=s1.heap.objs.size+5:=by omega
        have hp:=I1.hok.fresh fr
        refine ⟨.ref (s1.heap.objs.size+5),_,I1.laid (a:=s1.heap.objs.size+5) (o:=.dT ((bs.map (·.2)).zip ws)) (t':=tk) old fr ⟨?_,?_,fO bs vs,(rA rt hlen hb).keeps fun b ys e=>?_,?_⟩,rfl,q _ hp⟩
        · rw [List.length_zip];simp only [AX];have:=zt;have:=rt.length;omega
        · exact beq_eq_false_iff_ne.mpr (Nat.ne_of_gt (Nat.lt_add_right 5 I1.big))
        · rw [aw]
          · exact e
          · intro x;rw [x] at e;rw [hp] at e;cases e
        · obtain ⟨o,es,ep,g1,g2,g3,g4,g5,g6,g7⟩:=hd
          exact ⟨o,es,ep,g1,g2,g3,g4,g6,g7⟩
end
end L2
end
section
namespace L2
open PySem PySem.Spec PyProof.Rows
end L2
end
section
namespace L2
open PySem PySem.W PySem.Spec PyProof.Rows
noncomputable abbrev excO (a:Addr) (cls:Value):HO:=.ext fun h=>∃ o,h.get? a=some o/\o.cls=cls
noncomputable abbrev kg (ob:Obj) (a:Addr) (cls:Value):HO:=.frz ob (excO a cls)
structure ExcK (K:FG) (D:Addr):Prop where
  ga:findIn K (.ref D) "__getattribute__"=some (some (.builtin "BaseException.__getattribute__"))
  gt:findIn K (.ref D) "__getattr__"=some none
  cl:(clsIn K D).isSome=true
  ca:findIn K (.ref D) "__class__"=some (some (.builtin "object.__class__"))
  sp:specialIn K (.builtin "object.__class__") "__get__"=some (some (.builtin "getset_descriptor.__get__"))
  tk:takesIn K (.builtin "object.__class__")=some true
  ob:mroIn K D (.type "object")=some true
  be:mroIn K D (.type "BaseException")=some true
structure XName (K:FG) (c:String) (D:Addr):Prop where
  ns:nsIn K mainGlobals (Str.ofString c)=some (some (.ref D))
  ex:ExcK K D
theorem XName.inj {K:FG} {c:String} {D D':Addr} (a:XName K c D) (b:XName K c D'):D=D':=by
  have:=a.ns.symm.trans b.ns
  cases this
  rfl
end L2
end
section
namespace L2
open PySem
section
variable {K:FG} {h:Heap} {mg:Str->Option Value}
theorem jw {h:Heap}:∀ {l:List Nat} {a:Nat} {o:Obj},(l.filterMap fun a=>(h.get? a).map fun o=>(a,o)).lookup a=some o->h.get? a=some o
  | [],_,_,e=>by cases e
  | b :: l,a,o,e=>by
    rw [List.filterMap_cons] at e
    cases hb:h.get? b with
    | none=>rw [hb] at e;exact jw e
    | some p =>
      rw [hb] at e
      replace e:List.lookup a ((b,p) :: l.filterMap fun a=>(h.get? a).map fun o=>(a,o))=some o:=e
      rw [List.lookup_cons] at e
      cases hab:a == b with
      | true=>rw [hab] at e;cases eq_of_beq hab;cases e;exact hb
      | false=>rw [hab] at e;exact jw e
theorem fragAt_in (h:Heap):(v9 h).In h:=fun _ _ e=>jw e
noncomputable def stPos (s:Stmt):Pos:=match s with
  | .FunctionDef _ _ _ _ _ _ _ _ _ p=>p
  | _=>⟨0,0,0,0⟩
set_option tactic.hygienic true in
theorem Ax {n:Str} {st:Stmt} (X:K.In h) (G:h.Ns mainGlobals mg) (e:pX K n=lx n st):Def K mg n st:=by
  unfold pX at e
  split at e
  · rename_i f hf
    split at e
    · rename_i oc od fd sl hl
      unfold lx at e
      obtain ⟨name,qual,params,body,scope,globals,closure,defaults,kw,doc,pm,an,cd,ct,bi⟩:=fd
      simp only [Option.some.injEq,Prod.mk.injEq] at e
      obtain ⟨rfl,rfl,rfl,rfl,rfl,rfl,rfl,rfl,rfl,hc⟩:=e
      exact ⟨f,_,As (st:=st) hl hc (by unfold PySem.W.keepIn;simp only [hl]),PySem.W.mg_of X G hf⟩
    · cases e
  · cases e
theorem la {α β:Type} {f g:α->β} {l:List α} (e:l.map f=l.map g) (i:Nat) {a:α} (h:l[i]?=some a):f a=g a:=List.map_inj_left.mp e a (AZ h)
theorem aM {ds:List (Str × Stmt)} {n:Str} {st:Stmt} (X:K.In h) (G:h.Ns mainGlobals mg) (e:ds.map (fun p=>pX K p.1)=ds.map (fun p=>lx p.1 p.2)) (i:Nat) (hi:ds[i]?=some (n,st)):Def K mg n st:=Ax X G (la e i hi)
theorem cw {l:List Str} {n:Str} (X:K.In h) (G:h.Ns mainGlobals mg) (e:l.map (PySem.W.nsIn K mainGlobals)=l.map (fun _=>some none)) (i:Nat) (hi:l[i]?=some n):mg n=none:=PySem.W.mg_none_of X G (la e i hi)
set_option tactic.hygienic true in
theorem jx {l:List (Str × Int)} {n:Str} {v:Int} (X:K.In h) (G:h.Ns mainGlobals mg) (e:l.map (fun p=>nN K p.1)=l.map (fun p=>some p.2)) (i:Nat) (hi:l[i]?=some (n,v)):∃ t,mg n=some (.int v t):=by
  have e:=la e i hi
  unfold nN at e
  dsimp only at e
  split at e
  · rename_i v' t hs;cases e;exact ⟨t,PySem.W.mg_of X G hs⟩
  · cases e
theorem walk_ofS {l:PySem.W.OpenLaw} {n k:Nat} {q:Program} {loose:List Str} {XP:(Str->Option Value)->Heap->Prop} {YP:World->Heap->Prop} {d:DefRec} {S:FG->Prop} {CX:CXT} {sp:FG->Sp} {x:Str}
    (hn:l.most=some n) (hn2:n<=sizeLine) (hdf:d.params.defaults=[]) (hr:Room k callerA)
    (hY:∀ (w:World) (h:Heap),YP w h->∃ K:FG,K.In h/\S K)
    (F:∀ (w:World) (mg:Str->Option Value) (fa:Addr) (h:Heap) (K:FG),S K->K.In h->h.Ns mainGlobals mg->mg d.name=some (.ref fa) ->
      ∃ fd:FuncData,(∀ (s:Shared) (u:Value),BindsTo s fd ⟨[u],[]⟩ [(x,u)]) /\
        ∀ base:Heap,K.In base->base.Ns mainGlobals mg->FnOk l.prog w K mg base CX k fa fd [x] (sp K))
    (hsp:∀ (K:FG) (H:Hp) (a:Addr) (ns:List Int),ns.length<=n->yk H->SqL K H a (ns.map V.int)->sp K [.ref a] H (fun v _=>v=.bl true) fun _ _ _=>False)
    (hCX:∀ (H:Hp) (s:Shared) (e:Value) (s':Shared),CX [] H s (fun _ _ _=>False) e s'->False) :
    PySem.W.WalkO q loose XP YP l.row.toRowW d [] (fun f vs=>PySem.call f vs):=by
  refine Att.attach_call hn hdf fun w s₀ s₁ mg mb fa o pm cd doc a vs ns G Y ho hd hcd hmg hobj hints hlen hg=>?_
  obtain ⟨K,KX,hS⟩:=hY w _ Y
  obtain ⟨fd,hb,hF⟩:=F w mg fa _ K hS KX G.T.g hmg
  exact vP KX G.T.g G.T.b G.T.builtins G.T.nolimit hg hobj hints (Br hlen hn2) hr hF hb (fun H hO hS=>hsp K H a ns hlen hO hS) fun H e s'=>hCX H s₁ e s'
end
end L2
end
section
namespace L2
open PySem PySem.Spec PyProof.Rows
theorem l8:entryFor table "proto.unchain"=some Builtin.«proto.unchain»:=entryFor_of_tree (by kernel_rfl)
noncomputable def NoCtx (h:Heap) (a:Addr):Prop:=∃ o vs,h.get? a=some o/\o.data=.fields vs/\vs[2]?=some Value.none
theorem NoCtx.keep {h h':Heap} {a:Addr} (x:NoCtx h a) (k:∀ o,h.get? a=some o->h'.get? a=some o):NoCtx h' a :=
  let ⟨o,vs,e,r⟩:=x;⟨o,vs,k o e,r⟩
section
variable {prog:Program} {w:World} {A:Around} {E:Value->Shared->Prop} {s:Shared}
theorem mT {h:Addr} {e:Value} {Q:Value->Shared->Prop} (hx:NoCtx s.heap h) (q:Q .none s):wpAny (model prog w) A (runValue (.builtin "proto.unchain" ⟨[e,.ref h,.ref h,.bool false],[]⟩)) Q E s:=by
  obtain ⟨o,vs,ho,hd,h2⟩:=hx
  refine wpAny_runValue (codeAny_builtin l8 ?_)
  show wpAny _ _ (field (.ref h) 2 >>= _) _ _ s
  refine AI (wpAny_field ho hd h2 ?_)
  exact AJ q
theorem qu {α:Type} {a h:Addr} {o:Obj} {vs:Array Value} {Q:α->Shared->Prop} (hh:A.handled=some (.ref h)) (hx:NoCtx s.heap h) (ho:s.heap.get? a=some o) (hd:o.data=.fields vs) (h2:2 < vs.size) (ne:h ≠ a)
    (q:E (.ref a) { s with heap:=s.heap.update a (Obj.mapFields (·.setIfInBounds 2 (.ref h))) }):wpAny (model prog w) A (raiseNew (.ref a):Sem α) Q E s:=by
  unfold raiseNew
  refine AI (wpAny_handled ?_)
  rw [hh]
  dsimp only
  have hne:(Value.ref h != Value.ref a)=true:=by simpa using ne
  rw [if_pos hne]
  refine AI (AK (mT hx ?_))
  exact AI (wpAny_setField (s:=s) ho hd h2 (wpAny_throw q))
theorem qZ:firstArgMember (.type "StopIteration") []=pure Value.none:=by kernel_rfl
theorem vC {Q:Value->Shared->Prop} (h:∀ h' a t,(∀ b o,s.heap.get? b=some o->h'.get? b=some o)->s.heap.get? a=none->h'.get? a=some { cls:=.type "StopIteration",data:=.fields #[.ref t,.none,.none,.none,.bool false,.none] }->Q (.ref a) { s with heap:=h' }) :
    wpAny (model prog w) A (newExc (.type "StopIteration") []) Q E s:=by
  unfold newExc newTuple
  rw [qZ]
  refine AI (wpAny_newObj_type ?_ (by size_fits))
  refine AI (AJ (wpAny_newObj_type ?_ (by size_fits)))
  exact h _ _ s.heap.objs.size (fun b o e=>AN _ (AN _ e)) (Heap.get?_none_of_le (by rw [Bp];exact Nat.le_succ _)) (AW _ rfl)
theorem tw {it h:Addr} {x left step:Int} {Q:Option Value->Shared->Prop} (hh:A.handled=some (.ref h)) (hx:NoCtx s.heap h) (hit:IsRangeIter s.heap it x left step) (hleft:left<=0)
    (hQ:∀ h',(∀ b o,s.heap.get? b=some o->h'.get? b=some o)->Q none { s with heap:=h' }):wpAny (model prog w) A (pyNext (.ref it)) Q E s:=by
  have hT:s.TypeIs (.ref it) "range_iterator":=⟨_,hit,rfl⟩
  unfold pyNext
  refine AI (wpAny_attempt (wpAny_callSpecial?_slot (name:=Str.ofString "__next__") hT F.slot_range_iterator_next (wpAny_call_entry F.slot_range_iterator_next hT F.entry_range_iterator_next ?_ (F.args_range_iterator_next_1 _))))
  have rd:∀ (i:Nat) (v:Value) {R:Value->Shared->Prop} {E':Value->Shared->Prop},#[rawInt x,rawInt left,rawInt step][i]?=some v->R v s->wpAny (model prog w) A.in1 (field (.ref it) i) R E' s:=fun i v R E' e q=>wpAny_field hit rfl e q
  refine AI (wpAny_of_eq (a:=(Value.ref it,([]:List Value))) rfl ?_)
  refine AI (rd 0 (rawInt x) rfl ?_)
  refine AI (rd 1 (rawInt left) rfl ?_)
  refine AI (rd 2 (rawInt step) rfl ?_)
  dsimp only [rawInt]
  rw [if_pos hleft]
  refine AI (wpAny_rule (AI (AI (vC fun h' a t k n e=>?_))))
  have hx':NoCtx h' h:=hx.keep fun o q=>k h o q
  have ne:h ≠ a:=fun z=>by
    obtain ⟨o,_,q,_⟩:=hx
    rw [z,n] at q
    cases q
  refine qu (A:=A.in1) (s:={ s with heap:=h' }) hh hx' e rfl (by show 2 < 6;decide) ne ?_
  have e2:=Bc (Obj.mapFields (·.setIfInBounds 2 (.ref h))) e rfl
  refine AI (wpAny_isInstance (T:="StopIteration") (b:=true) ⟨_,e2,rfl⟩ isSubtype_stop ?_)
  refine AJ (hQ _ fun b o q=>?_)
  exact (Bo _ _ (fun z=>by rw [<- z,n] at q;cases q)).trans (k b o q)
end
end L2
end
section
namespace L2
open PySem PySem.Spec PyProof.Rows
noncomputable def cT (Φ:Heap->Prop) {α:Type}:Sem α->Prop
  | .pure _ | .raise _ | .unsupported _ | .finish _=>True
  | .rule _ k=>cT Φ (k ())
  | .at _ k=>cT Φ (k ())
  | .point _ k=>cT Φ (k ())
  | .load _ _ k=>∀ o,cT Φ (k o)
  | .loadIfAlive _ k=>∀ o,cT Φ (k o)
  | .update a _ f k=>(∀ h,Φ h->Φ (h.update a f))/\cT Φ (k ())
  | .alloc _ k=>∀ a,cT Φ (k a)
  | .fresh k=>∀ t,cT Φ (k t)
  | .ask k=>∀ x,cT Φ (k x)
  | .handled _ k=>∀ v,cT Φ (k v)
  | .stack k=>∀ l,cT Φ (k l)
  | _=>False
theorem wI {Φ:Heap->Prop} (push:∀ h o,Φ h->Φ (h.push o)) {M:Model} {Γ:PySem.Ctx} {α:Type} (t:Sem α):∀ {Q:α->Pos->Shared->Prop} {E:Value->Pos->Shared->Prop} {p:Pos} {s:Shared},cT Φ t->Φ s.heap->Sem.wp M Γ t Q E p s->Sem.wp M Γ t (fun a p s'=>Q a p s'/\Φ s'.heap) (fun e p s'=>E e p s'/\Φ s'.heap) p s:=by
  induction t with
  | pure a=>intro Q E p s _ f h;rw [Sem.wp] at h ⊢;exact ⟨h,f⟩
  | raise e=>intro Q E p s _ f h;rw [Sem.wp] at h ⊢;exact ⟨h,f⟩
  | unsupported w=>intro Q E p s _ f h;rw [Sem.wp] at h;exact h.elim
  | finish e=>intro Q E p s _ f h;rw [Sem.wp] at h;exact h.elim
  | rule _ k ih=>intro Q E p s c f h;rw [Sem.wp] at h ⊢;exact ih () c f h
  | «at» _ k ih=>intro Q E p s c f h;rw [Sem.wp] at h ⊢;exact ih () c f h
  | point _ k ih=>intro Q E p s c f h;rw [Sem.wp] at h ⊢;exact ih () c f h
  | load a _ k ih=>intro Q E p s c f h;rw [Sem.wp] at h ⊢;obtain ⟨o,e,h⟩:=h;exact ⟨o,e,ih o (c o) f h⟩
  | loadIfAlive a k ih=>intro Q E p s c f h;rw [Sem.wp] at h ⊢;exact ih _ (c _) f h
  | update a _ g k ih=>intro Q E p s c f h;rw [Sem.wp] at h ⊢;exact ⟨h.1,ih () c.2 (c.1 _ f) h.2⟩
  | alloc o k ih=>intro Q E p s c f h;rw [Sem.wp] at h ⊢;exact ih _ (c _) (push _ _ f) h
  | fresh k ih=>intro Q E p s c f h;rw [Sem.wp] at h ⊢;exact ih _ (c _) f h
  | ask k ih=>intro Q E p s c f h;rw [Sem.wp] at h ⊢;exact ih _ (c _) f h
  | handled _ k ih=>intro Q E p s c f h;rw [Sem.wp] at h ⊢;exact ih _ (c _) f h
  | stack k ih=>intro Q E p s c f h;rw [Sem.wp] at h ⊢;exact ih _ (c _) f h
  | _=>intro Q E p s c;exact False.elim c
theorem dJ {Φ:Heap->Prop} (push:∀ h o,Φ h->Φ (h.push o)) {M:Model} {A:Around} {α:Type} {t:Sem α} {Q:α->Shared->Prop} {E:Value->Shared->Prop} {s:Shared} (c:cT Φ t) (f:Φ s.heap) (h:wpAny M A t Q E s):wpAny M A t (fun a s'=>Q a s'/\Φ s'.heap) (fun e s'=>E e s'/\Φ s'.heap) s :=
  fun Γ p i=>wI push t c f (h Γ p i)
theorem aR {Φ:Heap->Prop} {α β:Type} (t:Sem α) {f:α->Sem β}:cT Φ t->(∀ a,cT Φ (f a))->cT Φ (t.bind f):=by
  induction t with
  | pure a=>exact fun _ k=>k a
  | raise e=>exact fun _ _=>trivial
  | unsupported w=>exact fun _ _=>trivial
  | finish e=>exact fun _ _=>trivial
  | rule _ k ih=>exact fun c q=>ih () c q
  | «at» _ k ih=>exact fun c q=>ih () c q
  | point _ k ih=>exact fun c q=>ih () c q
  | load a _ k ih=>exact fun c q o=>ih o (c o) q
  | loadIfAlive a k ih=>exact fun c q o=>ih o (c o) q
  | update a _ g k ih=>exact fun c q=>⟨c.1,ih () c.2 q⟩
  | alloc o k ih=>exact fun c q a=>ih a (c a) q
  | fresh k ih=>exact fun c q a=>ih a (c a) q
  | ask k ih=>exact fun c q a=>ih a (c a) q
  | handled _ k ih=>exact fun c q a=>ih a (c a) q
  | stack k ih=>exact fun c q a=>ih a (c a) q
  | _=>exact fun c _=>c.elim
end L2
end
section
namespace L2
open PySem PySem.Spec PyProof.Rows
theorem dO {a:Addr}:∀ (h:Heap) (o:Obj),NoCtx h a->NoCtx (h.push o) a:=fun h o x=>x.keep fun _ e=>AN _ e
theorem nz {a b:Addr} {i:Nat} {v:Value} (hi:i ≠ 2):∀ h:Heap,NoCtx h a->NoCtx (h.update b (Obj.mapFields (·.setIfInBounds i v))) a:=fun h x=>by
  by_cases e:b=a
  · subst e
    obtain ⟨o,vs,ho,hd,h2⟩:=x
    have hd2:=Obj.data_mapFields hd (·.setIfInBounds i v)
    exact ⟨_,_,Bc _ ho (Obj.isFreed_of_fields hd2),hd2,by rw [Array.getElem?_setIfInBounds_ne hi];exact h2⟩
  · exact x.keep fun o q=>(Bo _ _ e).trans q
theorem pq {a b:Addr} {f:Obj->Obj} (hf:∀ o,(f o).data=o.data):∀ h:Heap,NoCtx h a->NoCtx (h.update b f) a:=fun h x=>by
  by_cases e:b=a
  · subst e
    obtain ⟨o,vs,ho,hd,h2⟩:=x
    exact ⟨f o,vs,Bc _ ho (Obj.isFreed_of_fields ((hf o).trans hd)),(hf o).trans hd,h2⟩
  · exact x.keep fun o q=>(Bo _ _ e).trans q
section
variable {a:Addr}
theorem lQ (v:Value):cT (NoCtx · a) (fieldsOf v):=by
  unfold fieldsOf
  cases v <;> try exact trivial
  exact fun o=>by
    show cT _ (match o.data with | .fields vs=>_ | _=>_)
    split <;> exact trivial
theorem gI (v:Value) (i:Nat):cT (NoCtx · a) (field v i):=by
  unfold field
  refine aR _ (lQ v) fun vs=>?_
  split <;> exact trivial
theorem eA (v:Value) {i:Nat} (hi:i ≠ 2) (x:Value):cT (NoCtx · a) (setField v i x):=by
  unfold setField
  cases v <;> try exact trivial
  exact fun o=>by
    show cT _ (match o.data with | .fields vs=>_ | _=>_)
    split
    · split
      · exact ⟨nz hi,trivial⟩
      · exact trivial
    · exact trivial
theorem fR (e:Value) (f:Option Addr):cT (NoCtx · a) (setFlight e f):=by
  unfold setFlight
  refine aR _ (gI e 1) fun tb=>?_
  split
  · exact eA _ (by decide) _
  · exact trivial
theorem qk (f:Addr) (b:Bool):cT (NoCtx · a) (entryPlaceOf f b):=by
  unfold entryPlaceOf
  refine aR _ (fun _=>trivial) fun l=>?_
  split <;> exact trivial
theorem kQ (t:String) (vs:List Value):cT (NoCtx · a) (newFields t vs):=by
  unfold newFields newObj
  dsimp only
  split
  · exact trivial
  · exact fun _=>trivial
theorem sQ (env:Env) (b:Bool):∀ l:List Env,cT (NoCtx · a) (keptBack env b l)
  | []=>by
    simp only [keptBack]
    split
    · exact trivial
    · exact aR _ (aR _ (fun _=>trivial) fun _=>trivial) fun _=>trivial
  | _ :: _=>trivial
theorem kP:∀ l:List Env,cT (NoCtx · a) (readyFrames l)
  | []=>trivial
  | env :: outer=>by
    unfold readyFrames
    split
    · refine aR _ (fun _=>trivial) fun o=>?_
      split
      · exact trivial
      · refine aR _ ?_ fun _=>aR _ (sQ _ _ _) fun _=>aR _ ⟨pq fun _=>rfl,trivial⟩ fun _=>kP outer
        unfold behindIsImport
        split
        · exact trivial
        · split
          · exact trivial
          · exact aR _ (gI _ _) fun _=>trivial
    · exact trivial
theorem m4 (env:Env):cT (NoCtx · a) (PySem.frameOf env):=by
  unfold PySem.frameOf
  refine aR _ (aR _ (fun _=>trivial) fun _=>trivial) fun l=>?_
  refine aR _ ?_ fun r=>?_
  · unfold frameObject
    split
    · exact trivial
    · exact aR _ (kP _) fun _=>trivial
  · split <;> exact trivial
theorem mw (e:Value) (env:Env):cT (NoCtx · a) (noteFrame e env):=by
  unfold noteFrame
  repeat' first
    | exact trivial
    | exact eA _ (by decide) _
    | refine aR _ (gI _ _) (fun _=>?_)
    | refine aR _ (eA _ (by decide) _) (fun _=>?_)
    | refine aR _ (m4 _) (fun _=>?_)
    | refine aR _ (qk _ _) (fun _=>?_)
    | refine aR _ (kQ _ _) (fun _=>?_)
    | split
theorem io (e:Value) (env:Env):cT (NoCtx · a) (leaving env e):=aR _ (mw e env) fun _=>fR e none
end
section
variable {M:Model} {A:Around} {E:Value->Shared->Prop} {s:Shared} {base h:Heap} {env:Env} {outer l:List Env} {L e:Addr} {cls a0:Value} {args:List Value} {Q:Unit->Shared->Prop}
theorem nI (hfr:A.frames=some (env :: outer)) (hf:env.frame=some L) (hkb:base.StaysIn h) (hl:h.FunFrames base (env :: outer)) (hx:Heap.MadeExcOf h s.heap e cls args)
    (hQ:∀ h' t,Heap.FlyingW base outer e cls (.ref t) h'->s.heap.UpToSlots h'->NoCtx h' e->Q () { s with heap:=h' }):wpAny M A (leaving env (.ref e)) Q E s:=by
  have c:NoCtx s.heap e:=by
    obtain ⟨t,he,_⟩:=hx.there
    exact ⟨_,_,he,rfl,rfl⟩
  refine wpAny_mono (dJ dO (io _ _) c (wpAny_leaves_madeW (Q:=fun _ s2=>∃ h' t,s2 = { s with heap:=h' }/\Heap.FlyingW base outer e cls (.ref t) h'/\s.heap.UpToSlots h') hfr hf hkb hl hx fun h' t a _ _ d=>⟨h',t,rfl,a,d⟩)) (fun _ s2 q=>?_) fun _ _ z=>z.1
  obtain ⟨⟨h',t,rfl,a,d⟩,n⟩:=q
  exact hQ h' t a d n
theorem qP (hfr:A.frames=some (env :: outer)) (hf:env.frame=some L) (hfl:Heap.FlyingW base (env :: outer) e cls a0 s.heap) (c:NoCtx s.heap e)
    (hQ:∀ h',Heap.FlyingW base outer e cls a0 h'->s.heap.UpToSlots h'->NoCtx h' e->Q () { s with heap:=h' }):wpAny M A (leaving env (.ref e)) Q E s:=by
  refine wpAny_mono (dJ dO (io _ _) c (wpAny_leaves_onW (Q:=fun _ s2=>∃ h',s2 = { s with heap:=h' }/\Heap.FlyingW base outer e cls a0 h'/\s.heap.UpToSlots h') hfr hf hfl fun h' a d=>⟨h',rfl,a,d⟩)) (fun _ s2 q=>?_) fun _ _ z=>z.1
  obtain ⟨⟨h',rfl,a,d⟩,n⟩:=q
  exact hQ h' a d n
theorem tL (hfr:A.frames=some (env :: outer)) (hf:env.frame=some L) (hfl:Heap.FlyingW base (env :: outer) e cls a0 s.heap) (c:NoCtx s.heap e)
    (hQ:∀ h',Heap.HeldW base (env :: outer) e cls a0 L h'->s.heap.UpToSlots h'->NoCtx h' e->Q () { s with heap:=h' }):wpAny M A (noteFrame (.ref e) env) Q E s:=by
  refine wpAny_mono (dJ dO (mw _ _) c (wpAny_looks_onW (Q:=fun _ s2=>∃ h',s2 = { s with heap:=h' }/\Heap.HeldW base (env :: outer) e cls a0 L h'/\s.heap.UpToSlots h') hfr hf hfl fun h' a d=>⟨h',rfl,a,d⟩)) (fun _ s2 q=>?_) fun _ _ z=>z.1
  obtain ⟨⟨h',rfl,a,d⟩,n⟩:=q
  exact hQ h' a d n
theorem Ai (hh:Heap.HeldW base l e cls a0 L s.heap) (c:NoCtx s.heap e) (hQ:∀ h',Heap.FlyingW base l e cls a0 h'->s.heap.UpToSlots h'->NoCtx h' e->Q () { s with heap:=h' }):wpAny M A (setFlight (.ref e) none) Q E s:=by
  refine wpAny_mono (dJ dO (fR _ _) c (wpAny_landsW (Q:=fun _ s2=>∃ h',s2 = { s with heap:=h' }/\Heap.FlyingW base l e cls a0 h'/\s.heap.UpToSlots h') hh fun h' a d=>⟨h',rfl,a,d⟩)) (fun _ s2 q=>?_) fun _ _ z=>z.1
  obtain ⟨⟨h',rfl,a,d⟩,n⟩:=q
  exact hQ h' a d n
theorem nJ (hh:Heap.FlyingW base l e cls a0 s.heap) (c:NoCtx s.heap e) (hQ:∀ h',Heap.FlyingW base l e cls a0 h'->s.heap.UpToSlots h'->NoCtx h' e->Q () { s with heap:=h' }):wpAny M A (setFlight (.ref e) none) Q E s:=by
  refine wpAny_mono (dJ dO (fR _ _) c (lands_againW (Q:=fun _ s2=>∃ h',s2 = { s with heap:=h' }/\Heap.FlyingW base l e cls a0 h'/\s.heap.UpToSlots h') hh fun h' a d=>⟨h',rfl,a,d⟩)) (fun _ s2 q=>?_) fun _ _ z=>z.1
  obtain ⟨⟨h',rfl,a,d⟩,n⟩:=q
  exact hQ h' a d n
end
noncomputable def NoC (ob:Obj):Prop:=∃ vs,ob.data=.fields vs/\vs[2]?=some Value.none
noncomputable def Hd (X:Cx):Prop:=∃ a ob u,X.A.handled=some (.ref a)/\X.H₀ a=some (.frz ob u)/\NoC ob
end L2
end
section
namespace L2
open PySem PySem.Spec PyProof.Rows
noncomputable def Cov (fs:List Addr) (H':Hp) (h0 h' B:Heap):Prop:=∀ b o,h'.get? b=some o->b ∉ fs->(H' b ≠ none\/∃ o0,h0.get? b=some o0)->B.get? b=some o
structure Fly (P:Program) (w:World) (outer:List Env) (H:Hp) (s:Shared) (H':Hp) (a:Addr) (cls:Value) (s':Shared):Prop where
  os:s'.os=s.os
  bare:AllBare s'.gens
  un:Un (frs outer) [] H H' s.heap s'.heap
  hok:HOk P w H' s'.heap
  free:H' a=none
  new:s.heap.get? a=none
  fl:∃ B a0,Heap.FlyingW B outer a cls a0 s'.heap/\Cov (frs outer) H' s.heap s'.heap B
  ctx:NoCtx s'.heap a
noncomputable def CXe (P:Program) (w:World):CXT:=fun outer H s E e s'=>∃ a cls H',e=.ref a/\Fly P w outer H s H' a cls s'/\E cls none H'
section
variable {X:Cx} {pins:List (Addr × Obj)} {σ:St} {H:Hp} {s:Shared}
theorem Inv.noLoc (I:Inv X pins σ H s) {b:Addr} {o:Obj} (e:X.s₀.heap.get? b=some o):b ≠ X.env.locals:=A6 (Bb (AU e) I.ok.above)
theorem HOk.at {P:Program} {w:World} {H:Hp} {h:Heap} (ok:HOk P w H h) {b:Addr} (e:H b ≠ none):∃ o,h.get? b=some o:=by
  cases q:H b with
  | none=>exact absurd q e
  | some u =>
    have:=ok b u q
    cases u with
    | lst xs=>obtain ⟨_,_,_,_,e⟩:=this;exact ⟨_,e⟩
    | tup xs=>obtain ⟨_,_,_,o,e,_⟩:=this;exact ⟨o,e⟩
    | dK kvs=>obtain ⟨_,_,_,_,o,_,_,e,_⟩:=this;exact ⟨o,e⟩
    | dT kvs=>obtain ⟨_,_,_,_,o,_,_,e,_⟩:=this;exact ⟨o,e⟩
    | set S n=>obtain ⟨o,_,_,_,e,_⟩:=this;exact ⟨o,e⟩
    | ins C dx fs=>obtain ⟨_,_,_,e,_⟩:=this;exact ⟨_,e⟩
    | own y=>exact this
    | xd fs=>obtain ⟨_,⟨o,_,_,e,_⟩,_⟩:=this;exact ⟨o,e⟩
    | rng lo hi=>obtain ⟨_,_,_,e⟩:=this;exact ⟨_,e⟩
    | frz ob u=>obtain ⟨e,_⟩:=this;exact ⟨_,e⟩
    | tbl ps=>exact ⟨_,this⟩
    | met f y=>exact ⟨_,this⟩
    | ext φ=>obtain ⟨_,e,_⟩:=this;exact e
theorem rV (hex:X.ex=[]) (I:Inv X pins σ H s) {h':Heap} (k1:∀ b o,s.heap.get? b=some o->b ∉ frs X.stack->(H b ≠ none\/∃ o0,X.s₀.heap.get? b=some o0)->h'.get? b=some o)
    (k2:∀ b o,s.heap.get? b=some o->(∀ vs,o.data ≠ .fields vs)->∃ sl,h'.get? b=some { o with slots:=sl }):Un (frs X.outer) [] X.H₀ H X.s₀.heap h'/\HOk X.prog X.w H h':=by
  have hx:∀ b:Addr,b ∉ X.ex:=fun b z=>by rw [hex] at z;cases z
  have out:∀ b o,X.s₀.heap.get? b=some o->b ∉ frs X.outer->b ∉ frs X.stack:=fun b o e n z=>by
    rcases AS.mp (I.stkSub b z) with z | z
    · exact I.noLoc e z
    · exact n z
  have frm:∀ b ∈ frs X.outer,∀ o,s.heap.get? b=some o->∀ vs,o.data ≠ .fields vs:=fun b hb o e=>by
    obtain ⟨_,o',e',d⟩:=I.funs.mem hb
    rw [e] at e';cases e';exact d
  refine ⟨⟨fun b o e n hb _=>?_,fun b o e n hb _=>?_,fun b o e n _=>I.base.free b o e n (hx b),fun b o e _=>?_,I.base.tups,I.base.frzs,I.base.tbls⟩,fun b u e=>?_⟩
  · exact k1 b o (I.base.keep b o e n hb (hx b)) (out b o e hb) (.inr ⟨o,e⟩)
  · obtain ⟨sl,e1⟩:=I.base.slot b o e n hb (hx b)
    obtain ⟨sl',e2⟩:=k2 b _ e1 (frm b hb _ e1)
    exact ⟨sl',e2⟩
  · obtain ⟨o',e1⟩:=I.base.there b o e (hx b)
    by_cases hb:b ∈ frs X.outer
    · obtain ⟨sl,e2⟩:=k2 b o' e1 (frm b hb o' e1)
      exact ⟨_,e2⟩
    · exact ⟨o',k1 b o' e1 (out b o e hb) (.inr ⟨o,e⟩)⟩
  · refine (I.hok b u e).stay (fun c v hc z=>?_) (fun _ z=>z) fun _ _ z=>z
    have hn:H c ≠ none:=by
      rcases hc with rfl | hc
      · rw [e];intro z;cases z
      · rw [hc];intro z;cases z
    exact k1 c v z (fun hb=>hn (I.stkFree c hb)) (.inl hn)
theorem pR (hex:X.ex=[]) (I:Inv X pins σ H s) {h' B:Heap} (k1:∀ b o,s.heap.get? b=some o->b ∉ frs X.stack->(H b ≠ none\/∃ o0,X.s₀.heap.get? b=some o0)->B.get? b=some o) (st:B.StaysIn h'):Cov (frs X.outer) H X.s₀.heap h' B:=fun b o e n hc=>by
  have hx:∀ b:Addr,b ∉ X.ex:=fun b z=>by rw [hex] at z;cases z
  have h1:∃ o1,s.heap.get? b=some o1/\b ∉ frs X.stack:=by
    rcases hc with hc | ⟨o0,e0⟩
    · obtain ⟨o1,e1⟩:=I.hok.at hc
      exact ⟨o1,e1,fun hb=>hc (I.stkFree b hb)⟩
    · obtain ⟨o1,e1⟩:=I.base.there b o0 e0 (hx b)
      refine ⟨o1,e1,fun z=>?_⟩
      rcases AS.mp (I.stkSub b z) with z | z
      · exact I.noLoc e0 z
      · exact n z
  obtain ⟨o1,e1,hn⟩:=h1
  have e2:=k1 b o1 e1 hn hc
  rw [st b o1 e2] at e
  cases e
  exact e2
theorem Fly.inv {H':Hp} {a:Addr} {cls:Value} {s':Shared} (I:Inv X pins σ H s) (f:Fly X.prog X.w X.stack H s H' a cls s'):Inv X pins σ H' s' :=
  I.call' f.os f.un f.hok f.bare (fun _ z=>nomatch z)
theorem Inv.newAt (hex:X.ex=[]) (I:Inv X pins σ H s) {a:Addr} (n:s.heap.get? a=none):X.s₀.heap.get? a=none/\H a=none:=by
  constructor
  · cases q:X.s₀.heap.get? a with
    | none=>rfl
    | some o =>
      obtain ⟨o',e⟩:=I.base.there a o q (by rw [hex];simp)
      rw [n] at e;cases e
  · cases q:H a with
    | none=>rfl
    | some u =>
      obtain ⟨o,e⟩:=I.hok.at (b:=a) (by rw [q];intro z;cases z)
      rw [n] at e;cases e
end
section
variable {P:Program} {w:World} {K:FG} {mg:Str->Option Value} {base:Heap} {N:List Str} {qual:Str} {scope:Scope} {f:Addr} {cd:Value} {A:Around} {outer:List Env} {s0:Shared} {H0:Hp} {E:XK} {pins:List (Addr × Obj)} {σ:St} {H:Hp} {s s':Shared}
theorem wH {a:Addr} {cls:Value} {vs:List Value} (I:Inv (dS (CXe P w) P w K mg base N qual scope f cd A outer s0 H0 E) pins σ H s) (hx:Heap.MadeExcOf s.heap s'.heap a cls vs) (ho:s'.os=s.os) (hg:s'.gens=s.gens) (hE:E cls none H) :
    (dS (CXe P w) P w K mg base N qual scope f cd A outer s0 H0 E).xe (.ref a) s':=by
  have hin:∀ env ∈ (PyProof.Rows.envOfC qual scope s0.heap.objs.size f cd :: outer),∀ b,env.frame=some b->b ∈ frs (PyProof.Rows.envOfC qual scope s0.heap.objs.size f cd :: outer):=fun env he b hb=>List.mem_filterMap.mpr ⟨env,he,hb⟩
  obtain ⟨n0,nH⟩:=I.newAt rfl hx.new
  refine nI (base:=PySem.W.hideAll s.heap (frs (PyProof.Rows.envOfC qual scope s0.heap.objs.size f cd :: outer))) (h:=s.heap) (L:=s0.heap.objs.size) I.ok.frames rfl (fun b o q=>PySem.W.of_hideAll _ q) (PySem.W.funFrames_hide I.stack hin) hx fun h' t f1 f4 nc=>?_
  have k1:∀ b o,s.heap.get? b=some o->b ∉ frs (PyProof.Rows.envOfC qual scope s0.heap.objs.size f cd :: outer)->(PySem.W.hideAll s.heap (frs (PyProof.Rows.envOfC qual scope s0.heap.objs.size f cd :: outer))).get? b=some o:=fun b o e n=>PySem.W.hideAll_get _ e n
  obtain ⟨u,ok⟩:=rV rfl I (h':=h') (fun b o e n _=>f1.1 b o (k1 b o e n)) fun b o e hd=>by
    obtain ⟨sl,e2⟩:=f4 b o (hx.keeps b o e) hd
    exact ⟨sl,e2⟩
  refine ⟨a,cls,H,rfl,⟨ho.trans I.os,by show AllBare s'.gens;rw [hg];exact I.bare,u,ok,nH,n0,⟨_,_,f1,pR rfl I (fun b o e n _=>k1 b o e n) f1.1⟩,nc⟩,hE⟩
theorem yW {E1:XK} {e:Value} (I:Inv (dS (CXe P w) P w K mg base N qual scope f cd A outer s0 H0 E) pins σ H s) (h:CXe P w (PyProof.Rows.envOfC qual scope s0.heap.objs.size f cd :: outer) H s E1 e s') (hE:∀ cls H',E1 cls none H'->E cls none H') :
    (dS (CXe P w) P w K mg base N qual scope f cd A outer s0 H0 E).xe e s':=by
  obtain ⟨a,cls,H',rfl,F,hE1⟩:=h
  have I':=Fly.inv I F
  obtain ⟨B,a0,f1,cov⟩:=F.fl
  have dj:s0.heap.get? a=none:=(I.newAt rfl F.new).1
  have k1:∀ b o,s'.heap.get? b=some o->b ∉ frs (PyProof.Rows.envOfC qual scope s0.heap.objs.size f cd :: outer)->(H' b ≠ none\/∃ o0,s0.heap.get? b=some o0)->B.get? b=some o:=fun b o e n hc=>by
    refine cov b o e n ?_
    rcases hc with hc | ⟨o0,e0⟩
    · exact .inl hc
    · exact .inr (I.base.there b o0 e0 (fun z=>nomatch z))
  refine qP (L:=s0.heap.objs.size) I.ok.frames rfl f1 F.ctx fun h' g1 g2 nc=>?_
  obtain ⟨u,ok⟩:=rV rfl I' (h':=h') (fun b o e n hc=>g1.1 b o (k1 b o e n hc)) fun b o e hd=>by
    obtain ⟨sl,e2⟩:=g2 b o e hd
    exact ⟨sl,e2⟩
  exact ⟨a,cls,H',rfl,⟨I'.os,I'.bare,u,ok,F.free,dj,⟨B,a0,g1,pR rfl I' k1 g1.1⟩,nc⟩,hE cls H' hE1⟩
end
end L2
end
section
namespace L2
open PySem PySem.Spec PyProof.Rows
structure ECls (K:FG) (mg:Str->Option Value) (x:Str) (C:Addr):Prop where
  bound:mg x=some (.ref C)
  ok:PySem.W.excIn K C mroV "ValueError.__new__"=true
set_option tactic.hygienic true in
theorem t6 {K:FG} {h:Heap} {C:Addr} {bmB:List Value} {nid:String} (X:K.In h) (q:PySem.W.excIn K C bmB nid=true) :
    ∃ bm N nm qn bs hdct sn sub ab col dd k0 k1 k2 k3 k5 mN,h.get? C=some (excClassObj nm qn C N bs bm hdct sn sub ab col dd k0 k1 k2 k3 k5 nid)/\h.Ns N mN/\mN "__init__"=none/\OwnTail h bmB bm:=by
  unfold PySem.W.excIn at q
  split at q
  · rename_i dd cd sl ho
    split at q
    · rename_i C1 bm k0 k1 k2 k3 n k5 hm hs
      have q1:=Bool.and_eq_true_iff.mp q
      have q2:=Bool.and_eq_true_iff.mp q1.1
      have q3:=Bool.and_eq_true_iff.mp q2.1
      have q4:=Bool.and_eq_true_iff.mp q3.1
      have q5:=Bool.and_eq_true_iff.mp q4.1
      have e1:C1=C:=beq_iff_eq.mp q5.1
      have e2:n=nid:=beq_iff_eq.mp q5.2
      subst e1 e2
      have hdel:cd.hasDel=false:=by
        have:=q4.2
        cases hh:cd.hasDel
        · rfl
        · rw [hh] at this;cases this
      have hok:=q2.2
      have hni:=beq_iff_eq.mp q1.2
      have htl:=q3.2
      obtain ⟨nm,bs,mro,ns,qn,hd,sn,sub,ab,col,del⟩:=cd
      dsimp only at hm hdel hok hni htl
      subst hm hdel
      obtain ⟨l⟩:=sl
      have hl:l=[k0,k1,k2,k3,some (.builtin n),k5]:=hs
      subst hl
      exact ⟨bm,ns,nm,qn,bs,hd,sn,sub,ab,col,dd,k0,k1,k2,k3,k5,_,X _ _ ho,.of_isNs (PySem.W.isNs_of_in X hok),PySem.W.nsMap_none_of_in X hok hni,PySem.W.tail_of_in X htl⟩
    · cases q
  · cases q
section
variable {X:Cx} {x:Str} {C:Addr} {np cpos pos:Pos} {e:Expr} {ta:TA}
noncomputable def uQ (RX:St->Hp->Prop) (ta:TA):TS:=fun _ σ H=>ta σ H fun vs H1=>vs.length<=1000/\RX σ H1
theorem vm (c:ECls X.K X.mg x C) (hc:X.calm=true) (hg:Gl X x) (hd:(x == ("__debug__":Str))=false) (ha:PA X [e] ta) (RX:St->Hp->Prop)
    (hx:∀ (pins:List (Addr × Obj)) (σ:St) (H:Hp) (s s':Shared) (a:Addr) (vs:List Value),Inv X pins σ H s->RX σ H->Heap.MadeExcOf s.heap s'.heap a (.ref C) vs->s'.os=s.os->s'.gens=s.gens->X.xe (.ref a) s')
    (he:starEach [e] X.env=[(false,eval e X.env)]):PS X (.Raise (some (.Call (.Name x np) [e] [] cpos)) none pos) (uQ RX ta):=by
  intro pins s σ H D I h
  have KX:X.K.In s.heap:=I.kIn
  obtain ⟨bm,N,nm,qn,bs,hdct,sn,sub,ab,col,dd,k0,k1,k2,k3,k5,mN,hC,hN,hni,T⟩:=t6 I.mod.kin c.ok
  have FB:=PySem.F.excBase_ValueError
  refine wpAny_Raise_call_subT (C:=C) (nm:=nm) (q:=qn) (N:=N) (bs:=bs) (bm:=bm) (hdct:=hdct) (sn:=sn) (sub:=sub) (ab:=ab) (col:=col) (dd:=dd) (k0:=k0) (k1:=k1) (k2:=k2) (k3:=k3) (k5:=k5) FB (mN:=mN) (T.hasType FB.hasBase) (I.ok.hd hc) (by rw [he];rfl) hni (gq I hg c.bound ⟨rfl,?_⟩ hd)
  have h1:=ha cpos pins s σ H _ I h
  rw [he] at h1 ⊢
  refine Calls.evalArgs_plain (wpAny_mono h1 (fun us s1 ⟨vs,H1,I1,r1,z1,q1⟩=>⟨rfl,?_,I1.bk _ _ hC,hN.keeps I1.bk,T.keeps I1.bk,fun h' a hm=>?_⟩) fun _ _ y=>y)
  · show us.length<=sizeLine
    rw [<- r1.length]
    exact Nat.le_of_lt (sM z1)
  · exact hx pins σ H1 s1 { s1 with heap:=h' } a us I1 q1 hm rfl rfl
end
end L2
end
section
namespace L2
open PySem PySem.Spec PyProof.Rows
section
variable {P:Program} {w:World} {outer:List Env} {H H':Hp} {s s1:Shared} {a:Addr} {cls:Value}
theorem Fly.move (F:Fly P w outer H s H' a cls s1) (hfr:∀ b ∈ frs outer,H' b=none) {h2 B:Heap} {a0:Value} (f1:Heap.FlyingW B outer a cls a0 s1.heap) (cov:Cov (frs outer) H' s.heap s1.heap B) (f2:Heap.FlyingW B outer a cls a0 h2) (up:s1.heap.UpToSlots h2) (nc:NoCtx h2 a):Fly P w outer H s H' a cls { s1 with heap:=h2 }/\Cov (frs outer) H' s.heap h2 B:=by
  have k1:∀ b o,s1.heap.get? b=some o->b ∉ frs outer->(H' b ≠ none\/∃ o0,s.heap.get? b=some o0)->h2.get? b=some o:=fun b o e n hc=>f2.1 b o (cov b o e n hc)
  have frm:∀ b ∈ frs outer,∀ o,s1.heap.get? b=some o->∀ vs,o.data ≠ .fields vs:=fun b hb o e=>by
    obtain ⟨_,o',e',d⟩:=f1.2.2.1.mem hb
    rw [e] at e';cases e';exact d
  have cov2:Cov (frs outer) H' s.heap h2 B:=fun b o e n hc=>by
    have h1:∃ o1,s1.heap.get? b=some o1:=by
      rcases hc with hc | ⟨o0,e0⟩
      · exact F.hok.at hc
      · exact F.un.there b o0 e0 (fun z=>nomatch z)
    obtain ⟨o1,e1⟩:=h1
    have e2:=cov b o1 e1 n hc
    have e3:=f2.1 b o1 e2
    rw [e3] at e
    cases e
    exact e2
  refine ⟨⟨F.os,F.bare,⟨fun b o e n hb hx=>?_,fun b o e n hb hx=>?_,F.un.free,fun b o e hx=>?_,F.un.tups,F.un.frzs,F.un.tbls⟩,fun b u e=>?_,F.free,F.new,⟨B,a0,f2,cov2⟩,nc⟩,cov2⟩
  · exact k1 b o (F.un.keep b o e n hb hx) hb (.inr ⟨o,e⟩)
  · obtain ⟨sl,e1⟩:=F.un.slot b o e n hb hx
    obtain ⟨sl2,e2⟩:=up b _ e1 (frm b hb _ e1)
    exact ⟨sl2,e2⟩
  · obtain ⟨o',e1⟩:=F.un.there b o e hx
    by_cases hb:b ∈ frs outer
    · obtain ⟨sl2,e2⟩:=up b o' e1 (frm b hb o' e1)
      exact ⟨_,e2⟩
    · exact ⟨o',k1 b o' e1 hb (.inr ⟨o,e⟩)⟩
  · refine (F.hok b u e).stay (fun c v hc z=>?_) (fun _ z=>z) fun _ _ z=>z
    have hn:H' c ≠ none:=by
      rcases hc with rfl | hc
      · rw [e];intro z;cases z
      · rw [hc];intro z;cases z
    exact k1 c v z (fun hb=>hn (hfr c hb)) (.inl hn)
end
noncomputable abbrev Cx.caught0 (X:Cx) (a:Addr):Cx:={ X with A:=X.A.mark (some (.ref a)),calm:=false,xe:=fun _ _=>False }
noncomputable abbrev Cx.caught (X:Cx) (a:Addr) (ob:Obj) (cls:Value):Cx:={ X with A:=X.A.mark (some (.ref a)),calm:=false,xe:=fun _ _=>False,H₀:=upd X.H₀ a (kg ob a cls) }
section
variable {X:Cx} {pins:List (Addr × Obj)} {σ:St} {H H':Hp} {s s1:Shared} {a:Addr} {cls:Value}
theorem Inv.caught0 (I:Inv X pins σ H s) (a:Addr):Inv (X.caught0 a) pins σ H s :=
  ⟨⟨I.ok.mod,I.ok.kind,I.ok.glob,I.ok.blt,I.ok.above,I.ok.inj,I.ok.has,I.ok.cab,(fun h=>by cases h),I.ok.frames,I.ok.stk,I.ok.exf,I.ok.bs,I.ok.bsz,I.ok.noex,I.ok.exfs,I.ok.funs,I.ok.frf⟩,I.os,I.bare,I.base,I.loc,I.cell,I.free,I.freeC,I.pin,I.hok,I.len⟩
theorem Inv.trackX (I:Inv X pins σ H' s1) (J:Inv X pins σ H s) (new:s.heap.get? a=none) (nH:H' a=none) (hex:X.ex=[]) {ob:Obj} (ho:s1.heap.get? a=some ob) (hoc:ob.cls=cls):Inv X pins σ (upd H' a (kg ob a cls)) s1:=by
  obtain ⟨e1,e2,e3,e4,e5,e6,e7,e8,e9,e10,e11⟩:=id I
  have ne:∀ b o,s.heap.get? b=some o->b ≠ a:=fun b o e z=>by rw [z,new] at e;cases e
  have ne0:∀ b o,X.s₀.heap.get? b=some o->b ≠ a:=fun b o e=>by
    obtain ⟨o',e'⟩:=J.base.there b o e (by rw [hex];simp)
    exact ne b o' e'
  have ht:∀ b u,H' b=some u->upd H' a (kg ob a cls) b=some u:=fun b u e=>by rw [aw (aY e nH)];exact e
  refine ⟨e1,e2,e3,⟨e4.keep,e4.slot,fun b o q n hx=>?_,e4.there,fun b ys q=>ht _ _ (e4.tups b ys q),fun b o u q=>ht _ _ (e4.frzs b o u q),fun b ps q=>?_⟩,e5,e6,?_,fun x c q=>?_,fun p hp=>?_,?_,e11⟩
  · rw [aw (ne0 b o q)];exact e4.free b o q n hx
  · obtain ⟨more,q'⟩:=e4.tbls b ps q;exact ⟨more,ht _ _ q'⟩
  · obtain ⟨m,⟨o,_,_,eo,_⟩,_⟩:=J.loc
    rw [aw (ne _ o eo)];exact e7
  · obtain ⟨v,o,eo,_⟩:=J.cell x c q
    rw [aw (ne c o eo)];exact e8 x c q
  · obtain ⟨a1,a2,a3⟩:=e9 p hp
    exact ⟨a1,by rw [aw (ne p.1 p.2 (J.pin p hp).1)];exact a2,a3⟩
  · exact e10.track nH ⟨ho,⟨ob,ho,hoc⟩,⟨ob,ho⟩,fun h1 h2 ⟨o,q1,q2⟩ k=>⟨o,k o q1,q2⟩⟩
theorem Inv.nameless (I:Inv X pins σ H s) {h':Heap} {m':Str->Option Value} {t':Nat} (hn:h'.Ns X.env.locals m') (hs:Heap.SameBut X.env.locals s.heap h'):Inv X pins (List.replicate X.N.length none) H { s with heap:=h',toks:=t' }:=by
  obtain ⟨e1,e2,e3,e4,e5,e6,e7,e8,e9,e10,e11⟩:=id I
  have neL:∀ b o,X.s₀.heap.get? b=some o->b ≠ X.env.locals:=fun b o e=>I.noLoc e
  refine ⟨e1,e2,e3,⟨fun b o e n hb hx=>?_,fun b o e n hb hx=>?_,e4.free,fun b o e hx=>?_,e4.tups,e4.frzs,e4.tbls⟩,⟨m',hn,fun i x v h1 h2 h3=>?_⟩,fun x c e=>?_,e7,e8,fun p hp=>?_,fun b u e=>?_,by rw [List.length_replicate]⟩
  · exact (hs.2 b (neL b o e)).trans (e4.keep b o e n hb hx)
  · obtain ⟨sl,q⟩:=e4.slot b o e n hb hx
    exact ⟨sl,(hs.2 b (neL b o e)).trans q⟩
  · obtain ⟨o',q⟩:=e4.there b o e hx
    exact ⟨o',(hs.2 b (neL b o e)).trans q⟩
  · rw [List.getElem?_replicate] at h2
    split at h2 <;> cases h2
  · obtain ⟨v,o,q,d⟩:=e6 x c e
    exact ⟨v,o,(hs.2 c (I.cne x c e)).trans q,d⟩
  · obtain ⟨q,n,ne,r⟩:=e9 p hp
    exact ⟨(hs.2 p.1 ne).trans q,n,ne,r⟩
  · refine (e10 b u e).stay (fun c v hc z=>?_) (fun _ z=>z) fun _ _ z=>z
    have hc':c ≠ X.env.locals:=fun q=>by
      rcases hc with rfl | hc
      · rw [q,e7] at e;cases e
      · rw [q,e7] at hc;cases hc
    exact (hs.2 c hc').trans z
theorem Inv.namelessC (I:Inv X pins σ H s) {n:Str} {c:Addr} {h':Heap} {t':Nat} (hf:X.fn n=true) (hc:X.env.cells.lookup n=some c) (hn:h'.IsCell c none) (hs:Heap.SameBut c s.heap h'):Inv X pins (List.replicate X.N.length none) H { s with heap:=h',toks:=t' }:=by
  obtain ⟨e1,e2,e3,e4,e5,e6,e7,e8,e9,e10,e11⟩:=id I
  obtain ⟨v0,o0,q0,d0⟩:=I.cell n c hc
  have hge:=I.ok.cab n c hf hc
  have neC:∀ b o,X.s₀.heap.get? b=some o->b ≠ c:=fun b o e=>A6 (Bb (AU e) hge)
  have hcl:X.env.locals ≠ c:=fun z=>I.cne n c hc z.symm
  refine ⟨e1,e2,e3,⟨fun b o e n hb hx=>?_,fun b o e n hb hx=>?_,e4.free,fun b o e hx=>?_,e4.tups,e4.frzs,e4.tbls⟩,?_,fun x c' e=>?_,e7,e8,fun p hp=>?_,fun b u e=>?_,by rw [List.length_replicate]⟩
  · exact (hs.2 b (neC b o e)).trans (e4.keep b o e n hb hx)
  · obtain ⟨sl,q⟩:=e4.slot b o e n hb hx
    exact ⟨sl,(hs.2 b (neC b o e)).trans q⟩
  · obtain ⟨o',q⟩:=e4.there b o e hx
    exact ⟨o',(hs.2 b (neC b o e)).trans q⟩
  · obtain ⟨m,hm,_⟩:=e5
    refine ⟨m,hm.sameBut hs hcl,fun i x v h1 h2 h3=>?_⟩
    rw [List.getElem?_replicate] at h2
    split at h2 <;> cases h2
  · by_cases z:c'=c
    · rw [z];exact ⟨_,hn⟩
    · obtain ⟨v,o,q,d⟩:=e6 x c' e
      exact ⟨v,o,(hs.2 c' z).trans q,d⟩
  · obtain ⟨q,n,ne,r⟩:=e9 p hp
    have z:p.1 ≠ c:=fun z=>by
      rw [z,q0] at q
      cases q
      exact r.2 v0 d0
    exact ⟨(hs.2 p.1 z).trans q,n,ne,r⟩
  · refine (e10 b u e).stay (fun c' v hc' z=>?_) (fun _ z=>z) fun _ _ z=>z
    have hz:c' ≠ c:=fun q=>by
      rcases hc' with rfl | hc'
      · rw [q,e8 n c hc] at e;cases e
      · rw [q,e8 n c hc] at hc';cases hc'
    exact (hs.2 c' hz).trans z
theorem lS {M:Model} {A:Around} {E:Value->Shared->Prop} {s:Shared} {env:Env} {n:Str} {pos:Pos} {c:Addr} {v₀:Option Value} {Q:Unit->Shared->Prop} (hk:env.scope.kind=.function) (hl:env.kindOf n=some .cell) (hc:env.cells.lookup n=some c) (hv:s.heap.IsCell c v₀)
    (h:∀ h',h'.IsCell c none->Heap.SameBut c s.heap h'->Q () { s with heap:=h' }):wpAny M A (do bindName env n .none;unbindBehindTheSuite env n pos) Q E s:=by
  refine AI (wpAny_bindName (wpAny_storeName_cell hk hl hc hv fun h1 c1 s1=>?_))
  unfold unbindBehindTheSuite
  refine wpAny_onRaise ?_
  unfold unbindName
  refine AI (wpAny_point (AI ?_))
  unfold deleteName
  simp only [hl]
  refine AI (wpAny_cellOf hc (AI (wpAny_cellGet c1 ?_)))
  simp only [Option.isSome_some,if_true]
  refine wpAny_cellSet c1 fun h2 c2 s2=>?_
  exact wpAny_point (h h2 c2 (s1.trans s2))
theorem Inv.caught {ob:Obj} (I:Inv X pins σ H s) (n0:X.s₀.heap.get? a=none) (ha:H a=some (kg ob a cls)):Inv (X.caught a ob cls) pins σ H s:=by
  have ne:∀ b o,X.s₀.heap.get? b=some o->b ≠ a:=fun b o e z=>by rw [z,n0] at e;cases e
  have fr:∀ b ∈ X.fs,b ≠ a:=fun b hb=>by
    obtain ⟨_,o',e',_⟩:=I.ok.funs.mem hb
    exact ne b o' e'
  have u:=I.base
  refine ⟨⟨I.ok.mod,I.ok.kind,I.ok.glob,I.ok.blt,I.ok.above,I.ok.inj,I.ok.has,I.ok.cab,(fun h=>by cases h),I.ok.frames,I.ok.stk,I.ok.exf,fun b o e=>⟨(I.ok.bs b o e).1,by show upd X.H₀ a _ b=none;rw [aw (ne b o (I.ok.bs b o e).1)];exact (I.ok.bs b o e).2⟩,I.ok.bsz,I.ok.noex,I.ok.exfs,I.ok.funs,fun b hb=>by show upd X.H₀ a _ b=none;rw [aw (fr b hb)];exact I.ok.frf b hb⟩,I.os,I.bare,?_,I.loc,I.cell,I.free,I.freeC,I.pin,I.hok,I.len⟩
  show Un _ _ (upd X.H₀ a (kg ob a cls)) H _ _
  refine ⟨fun b o e n=>u.keep b o e (by rwa [aw (ne b o e)] at n),fun b o e n=>u.slot b o e (by rwa [aw (ne b o e)] at n),fun b o e n=>u.free b o e (by rwa [aw (ne b o e)] at n),u.there,fun b xs e=>?_,fun b o w e=>?_,fun b ps e=>?_⟩
  · by_cases z:b=a
    · subst z;rw [aV] at e;cases e
    · rw [aw z] at e;exact u.tups b xs e
  · by_cases z:b=a
    · subst z;rw [aV] at e;cases e;exact ha
    · rw [aw z] at e;exact u.frzs b o w e
  · by_cases z:b=a
    · subst z;rw [aV] at e;cases e
    · rw [aw z] at e;exact u.tbls b ps e
theorem Inv.uncaught {ob:Obj} (I:Inv (X.caught a ob cls) pins σ H s) (ok:X.Ok) (n0:X.s₀.heap.get? a=none) (n1:∀ xs,X.H₀ a ≠ some (.tup xs)) (n2:∀ o w,X.H₀ a ≠ some (.frz o w)) (n3:∀ ps,X.H₀ a ≠ some (.tbl ps)):Inv X pins σ H s:=by
  have ne:∀ b o,X.s₀.heap.get? b=some o->b ≠ a:=fun b o e z=>by rw [z,n0] at e;cases e
  have u:Un X.fs X.ex (upd X.H₀ a (kg ob a cls)) H X.s₀.heap s.heap:=I.base
  refine ⟨ok,I.os,I.bare,?_,I.loc,I.cell,I.free,I.freeC,I.pin,I.hok,I.len⟩
  exact ⟨fun b o e n=>u.keep b o e (by rwa [aw (ne b o e)]),fun b o e n=>u.slot b o e (by rwa [aw (ne b o e)]),fun b o e n=>u.free b o e (by rwa [aw (ne b o e)]),u.there,fun b xs e=>u.tups b xs ((aw (fun z:b=a=>n1 xs (by rw [<- z];exact e))).trans e),fun b o w e=>u.frzs b o w ((aw (fun z:b=a=>n2 o w (by rw [<- z];exact e))).trans e),fun b ps e=>u.tbls b ps ((aw (fun z:b=a=>n3 ps (by rw [<- z];exact e))).trans e)⟩
end
end L2
end
section
namespace L2
open PySem PySem.Spec PyProof.Rows
section
variable {X:Cx} {pins:List (Addr × Obj)} {σ:St} {H H':Hp} {s s1:Shared} {a CB:Addr} {cls:Value} {D:Ends} {cx n:Str} {i:Nat} {cp hpos:Pos} {b0:Stmt} {suite:List Stmt}
set_option tactic.hygienic true in
theorem qY (I:Inv X pins σ H s) (F:Fly X.prog X.w X.stack H s H' a cls s1) (hst:X.stack=X.env :: X.outer) (hfe:X.env.frame=some X.env.locals) (hex:X.ex=[]) (hN:X.N.Nodup)
    (hg:Gl X cx) (hd:(cx == ("__debug__":Str))=false) (hm:X.mg cx=some (.ref CB)) (hx:PySem.W.exmOne X.K cls (.ref CB)=some true) (hi:X.N[i]?=some n) (hl:X.env.scope.names.lookup n=some .local\/(X.env.scope.names.lookup n=some .cell/\X.fn n=true))
    (hs:∀ s5 ob,Hd (X.caught a ob cls)->Inv (X.caught a ob cls) pins (σ.set i (some (.ref a))) (upd H' a (kg ob a cls)) s5->wpAny (model X.prog X.w) (X.A.mark (some (.ref a))) (execs (b0 :: suite) X.env) (fun f s6=>∃ v u σ6 H6,f=.ret u/\Inv (X.caught a ob cls) pins σ6 H6 s6/\RelV v u/\D.rt v H6) (fun _ _=>False) s5) :
    wpAny (model X.prog X.w) X.A (noteFrame (.ref a) X.env) (fun _ s2=>wpAny (model X.prog X.w) X.A (setFlight (.ref a) none) (fun _ s3=>wpAny (model X.prog X.w) X.A (handleBy (.ref a) X.env [.ExceptHandler (some (.Name cx cp)) (some n) (b0 :: suite) hpos]) (SP X pins D) X.xe s3) X.xe s2) X.xe s1:=by
  have hA:X.A.frames=some (X.env :: X.outer):=by rw [<- hst];exact I.ok.frames
  have hfree:∀ b ∈ frs X.stack,H' b=none:=(Fly.inv I F).stkFree
  obtain ⟨B,a0,f1,cov⟩:=F.fl
  refine tL (outer:=X.outer) hA hfe (by rw [<- hst];exact f1) F.ctx fun h2 held up2 c2=>?_
  refine Ai held c2 fun h3 f3 up3 c3=>?_
  rw [<- hst] at f3
  obtain ⟨F3,cov3⟩:=F.move hfree f1 cov f3 (up2.trans up3) c3
  have I3:=(Fly.inv I F3).caught0 a
  have ty3:PySem.W.Looks (model X.prog X.w) h3 (typeOf (.ref a)) cls:=by
    obtain ⟨ob,hob,hc⟩:=f3.there
    subst hc
    exact (PySem.W.Looks.ld hob).andThen .now
  refine wpAny_handleBy_cons (codeAny_handlers_test (gq (X:=X.caught0 a) I3 hg hm ?_ hd)) (by intro q;cases q)
  refine (PySem.W.exm_one (K:=X.K) I3.kIn ty3 hx).here ?_
  show codeAny _ _ _ _ _
  refine codeAny_handlers_suite_as (nJ f3 c3 fun h4 f4 up4 c4=>?_)
  obtain ⟨F4,cov4⟩:=F3.move hfree f3 cov3 f4 up4 c4
  have I4:=Fly.inv I F4
  obtain ⟨n0,nH0⟩:=I.newAt hex F.new
  obtain ⟨ob,eob,cob⟩:=f4.there
  have nc:NoC ob:=by
    obtain ⟨o,vs,q1,q2,q3⟩:=c4
    rw [eob] at q1
    cases q1
    exact ⟨vs,q2,q3⟩
  have I5:=(I4.trackX I F.new F.free hex eob cob).caught (ob:=ob) (cls:=cls) n0 aV
  have hD:Hd (X.caught a ob cls):=⟨a,ob,excO a cls,rfl,aV,nc⟩
  refine kJ (X:=X.caught a ob cls) (v:=V.ref a) I5 hN hi (hl.imp id And.left) rfl (fun s5 J5=>?_) (hl.elim .inr fun z=>.inl z.2)
  refine wpAny_mono (hs s5 ob hD J5) (fun f s6 h6=>?_) fun _ _ z=>z.elim
  obtain ⟨v,u,σ6,H6,rfl,J6,r,q⟩:=h6
  have un:∀ {σ7:St} {s7:Shared},Inv (X.caught a ob cls) pins σ7 H6 s7->Inv X pins σ7 H6 s7:=fun J=>J.uncaught I.ok n0 (fun xs e=>by rw [I.base.tups a xs e] at nH0;cases nH0) (fun o w e=>by rw [I.base.frzs a o w e] at nH0;cases nH0) fun ps e=>by obtain ⟨_,e⟩:=I.base.tbls a ps e;rw [e] at nH0;cases nH0
  rcases hl with hl | ⟨hl,hfn⟩
  case inr =>
    obtain ⟨c,hc⟩:=I.ok.has n (.inl hl)
    obtain ⟨v0,z0⟩:=J6.cell n c hc
    exact lS I.ok.kind hl hc z0 fun h7 c7 sb=>⟨v,_,H6,(un J6).namelessC (t':=s6.toks) hfn hc c7 sb,r,q⟩
  obtain ⟨m6,n6,_⟩:=J6.loc
  refine wpAny_nameGoes hl n6 ?_ fun h7 m7 n7 sb=>?_
  · have:=I.ok.kind
    rw [this];rfl
  · exact ⟨v,_,H6,(J6.uncaught I.ok n0 (fun xs e=>by rw [I.base.tups a xs e] at nH0;cases nH0) (fun o w e=>by rw [I.base.frzs a o w e] at nH0;cases nH0) fun ps e=>by obtain ⟨_,e⟩:=I.base.tbls a ps e;rw [e] at nH0;cases nH0).nameless n7 sb,r,q⟩
end
end L2
end
section
namespace L2
open PySem PySem.Spec PyProof.Rows
structure CalleeX (P:Program) (w:World) (K:FG) (mg:Str->Option Value) (base:Heap) (x:Str) (k:Nat) (ps:List Str) (sp:Sp):Prop where
  ex:∃ (f:Addr) (fd:FuncData),FnOk P w K mg base (CXe P w) k f fd ps sp/\mg x=some (.ref f)/\PySem.W.keepIn K (.ref f)=true/\Binds K fd ps []
section
variable {X:Cx} {x:Str} {p pos:Pos} {e:Expr} {es:List Expr} {t:TA} {k:Nat} {ps:List Str} {sp:Sp}
noncomputable def tFnX (sp:Sp) (EE:St->XK) (t:TA):TE:=fun σ H Q=>t σ H fun vs H1=>sp vs H1 Q (EE σ)
set_option tactic.hygienic true in
theorem zZ {EE:St->XK} (c:CalleeX X.prog X.w X.K X.mg X.base x k ps sp) (hr:Room k X.A) (hx:∀ (pins:List (Addr × Obj)) (σ:St) (H:Hp) (s:Shared) (e:Value) (s':Shared),Inv X pins σ H s->CXe X.prog X.w X.stack H s (EE σ) e s'->X.xe e s') (ha:PA X (e :: es) t) (hg:Gl X x) (hdb:(x == ("__debug__":Str))=false)
    (he:starEach (e :: es) X.env=(false,eval e X.env) :: starEach es X.env) (hpl:(backTo pos (starEach es X.env)).any (·.1)=false):PE X (.Call (.Name x p) (e :: es) [] pos) (tFnX sp EE t):=by
  obtain ⟨f,fd,F,hm,hk,hb⟩:=c.ex
  intro pins s σ H Q I h
  refine wpAny_Call_Name_kw (gq I hg hm ?_ hdb)
  refine PySem.W.callWith_K (h₀:=X.base) I.ok.mod.kin hk (thn (ha pos pins s σ H _ I h) fun us s1 ⟨vs,H1,I1,r,q⟩=>⟨I1.kIn,?_⟩) he hpl
  have hl:us.length=ps.length:=by rw [<- r.length];exact F.len _ _ _ _ q
  have bt:=hb s1 us I1.kIn (by rw [List.append_nil];exact hl)
  rw [List.append_nil] at bt
  refine wpAny_call (codeAny_mono (F.run X.A X.stack s1 H1 ⟨us,[]⟩ us vs Q (EE σ) hr I1.env0 bt r q) fun r s' hq=>?_)
  cases r with
  | error e=>exact hx pins σ H1 s1 e s' I1 hq
  | ok fl =>
    cases fl with
    | ret u=>exact I1.after hq
    | next=>exact False.elim hq
    | brk=>exact False.elim hq
    | cont=>exact False.elim hq
end
theorem Def.calleeX {P:Program} {w:World} {K:FG} {mg:Str->Option Value} {base:Heap} {x:Str} {st:Stmt} {k:Nat} {ps:List Str} {sp:Sp} (D:Def K mg x st)
    (hb:∀ (kV doc pm:Value) (an:Option Addr) (cdv ct:Value) (us:List Value),us.length=ps.length->bindArgs (PySem.W.fnOf x x (bf st) (aN st) (aj st) .none kV doc pm an cdv ct) ⟨us,[]⟩=pure (ps.zip us))
    (h:∀ f fd,Fun K x x st f fd->FnOk P w K mg base (CXe P w) k f fd ps sp):CalleeX P w K mg base x k ps sp:=by
  obtain ⟨f,fd,d⟩:=D
  exact ⟨f,fd,h f fd d.fn,d.mg,d.fn.kp,d.fn.binds hb⟩
theorem Fun.okX {P:Program} {w:World} {K:FG} {mg:Str->Option Value} {base:Heap} {x qual:Str} {st:Stmt} {f:Addr} {fd:FuncData} {N ps:List Str} {k:Nat} {sp:Sp} (F:Fun K x qual st f fd) (S:FnScope N ps (aj st)) (len:∀ vs H Q E,sp vs H Q E->vs.length=ps.length)
    (hbody:∀ (cdv:Value) (A:Around) (outer:List Env) (s:Shared) (H:Hp) (vs:List V) (Q:VK) (E:XK),Room k (A.deeper (envOfC qual (aj st) s.heap.objs.size f cdv))->sp vs H Q E ->
      ∃ t,PSs (dS (CXe P w) P w K mg base N qual (aj st) f cdv A outer s H E) (aN st) t/\t { nx:=fun _ H'=>Q .non H',rt:=Q } (fG N vs) H):FnOk P w K mg base (CXe P w) (k+1) f fd ps sp:=by
  obtain ⟨oc,od,kV,doc,pm,an,cdv,ct,osl,rfl,lk,hcd⟩:=F.ex
  exact yP lk hcd S len fun A outer s H vs Q E hr hsp=>hbody cdv A outer s H vs Q E hr hsp
structure RoomN (k:Nat) (A:Around):Prop where
  dp:A.depth+3 * k+5 < recursionLimit
  un:A.units+16 * k+200 < cLine
  gd:A.guards=some []
theorem Room.mark {k:Nat} {A:Around} (r:Room k A) (v:Option Value):RoomN k (A.mark v):=⟨r.dp,r.un,r.gd⟩
theorem RoomN.mono {j k:Nat} {A:Around} (r:RoomN k A) (h:j<=k):RoomN j A:=⟨by have:=r.dp;omega,by have:=r.un;omega,r.gd⟩
theorem RoomN.deeper {k:Nat} {A:Around} (r:RoomN (k+1) A) (env:Env):RoomN k (A.deeper env) :=
  ⟨by have:=r.dp;show A.depth+1+3 * k+5 < _;omega,by have:=r.un;show A.units+3+16 * k+200 < _;omega,r.gd⟩
noncomputable def HdA (A:Around) (H:Hp):Prop:=∃ a ob u,A.handled=some (.ref a)/\H a=some (.frz ob u)/\NoC ob
structure FnOkN (P:Program) (w:World) (K:FG) (mg:Str->Option Value) (base:Heap) (k:Nat) (f:Addr) (fd:FuncData) (ps:List Str) (sp:Sp):Prop where
  len:∀ vs H Q E,sp vs H Q E->vs.length=ps.length
  run:∀ (A:Around) (outer:List Env) (s:Shared) (H:Hp) (args:Args) (us:List Value) (vs:List V) (Q:VK),RoomN k A->HdA A H->Env0 P w K mg base A outer s H->BindsTo s fd args (ps.zip us)->Vals vs us->sp vs H Q E0 ->
    codeAny (model P w) A (.call (.ref f) args) (CR CX0 outer P w H s Q E0) s
noncomputable abbrev Cx.loud (X:Cx):Cx:={ X with calm:=false }
theorem qU {P:Program} {w:World} {K:FG} {mg:Str->Option Value} {base:Heap} {N ps:List Str} {qual:Str} {scope:Scope} {f:Addr} {cd:Value} {A:Around} {outer:List Env} {s s1:Shared} {H:Hp} {us:List Value} {vs:List V}
    (S:FnScope N ps scope) (e0:Env0 P w K mg base A outer s H) (hl:vs.length=ps.length) (r:Vals vs us)
    (x:InCallC s s.heap.objs.size (bindL (envOfC qual scope s.heap.objs.size f cd).kindOf (ps.zip us) fun _=>none) (cellsFrom (s.heap.objs.size+1) scope.names []) (bindC (envOfC qual scope s.heap.objs.size f cd).kindOf (ps.zip us) fun _=>none) s1) :
    Inv ((dS CX0 P w K mg base N qual scope f cd A outer s H E0).loud.wish fun _ _=>False) [] (fG N vs) H s1:=by
  have e1:Env0 P w K mg base { A with handled:=none } outer s H:=⟨e0.frames,e0.mod,e0.bs,e0.bsz,e0.funs,e0.frf,e0.hok,e0.bare⟩
  have I:=mH (CX:=CX0) (E:=E0) (qual:=qual) (f:=f) (cd:=cd) S rfl e1 hl r x
  exact ⟨⟨I.ok.mod,I.ok.kind,I.ok.glob,I.ok.blt,I.ok.above,I.ok.inj,I.ok.has,I.ok.cab,(fun h=>by cases h),I.ok.frames,I.ok.stk,I.ok.exf,I.ok.bs,I.ok.bsz,I.ok.noex,I.ok.exfs,I.ok.funs,I.ok.frf⟩,I.os,I.bare,I.base,I.loc,I.cell,I.free,I.freeC,I.pin,I.hok,I.len⟩
set_option tactic.hygienic true in
theorem Fun.okN {P:Program} {w:World} {K:FG} {mg:Str->Option Value} {base:Heap} {x qual:Str} {st:Stmt} {f:Addr} {fd:FuncData} {N ps:List Str} {k:Nat} {sp:Sp} (F:Fun K x qual st f fd) (S:FnScope N ps (aj st)) (len:∀ vs H Q E,sp vs H Q E->vs.length=ps.length)
    (hbody:∀ (cdv:Value) (A:Around) (outer:List Env) (s:Shared) (H:Hp) (vs:List V) (Q:VK),RoomN k (A.deeper (envOfC qual (aj st) s.heap.objs.size f cdv))->Hd ((dS CX0 P w K mg base N qual (aj st) f cdv A outer s H E0).loud.wish fun _ _=>False)->sp vs H Q E0 ->
      ∃ t,PSs ((dS CX0 P w K mg base N qual (aj st) f cdv A outer s H E0).loud.wish fun _ _=>False) (aN st) t/\t { nx:=fun _ H'=>Q .non H',rt:=Q } (fG N vs) H):FnOkN P w K mg base (k+1) f fd ps sp:=by
  obtain ⟨oc,od,kV,doc,pm,an,cdv,ct,osl,rfl,lk,hcd⟩:=F.ex
  refine ⟨len,fun A outer s H args us vs Q hr hda e0 hb r hsp=>?_⟩
  have hl:=len _ _ _ _ hsp
  have KX:K.In s.heap:=e0.mod.kin.keeps fun b o e=>(e0.bs b o e).1
  have lim:s.heap.NoLimit:=e0.mod.nolimit.keeps fun b o e=>(e0.bs b o e).1
  have hkind:∀ y ∈ ps.zip us,(aj st).names.lookup y.1=some .local\/((aj st).names.lookup y.1=some .cell/\((cellsFrom (s.heap.objs.size+1) (aj st).names []).lookup y.1).isSome=true):=fun ⟨n,v⟩ hy=>by
    rcases S.par n (List.of_mem_zip hy).1 with q | q
    · exact .inl q
    · exact .inr ⟨q,PySem.W.cellsFrom_some _ _ _ (.inl q)⟩
  refine codeAny_call_function (by have:=hr.dp;omega) (KX _ _ lk) rfl S.co S.gen rfl (PySem.W.codeRec_of KX hcd) (hb _ _ _ _ ?_)
  refine wpAny_newFunctionEnv_cells S.kind hkind fun env he s1 x=>?_
  subst he
  refine ⟨lim.keeps x.toInCall.keep,codeAny_func ?_⟩
  obtain ⟨t,ht,hq⟩:=hbody cdv A outer s H vs Q (hr.deeper _) hda hsp
  have I:=qU (qual:=qual) (f:=f) (cd:=cdv) S e0 hl r x
  refine wpAny_mono (ht [] s1 (fG N vs) H _ I hq) (fun fl s' hs=>?_) fun e s' hs=>False.elim hs
  have fin:∀ {σ':St} {H':Hp} {v:V} {u:Value},Inv ((dS CX0 P w K mg base N qual (aj st) f cdv A outer s H E0).loud.wish fun _ _=>False) [] σ' H' s'->RelV v u->Q v H'->CE outer P w H s Q u s' :=
    fun {σ' H' v u} J rv q=>⟨v,H',J.os,J.bare,J.base,J.hok,rv,q⟩
  cases fl with
  | ret u =>
    obtain ⟨v,σ',H',J,rv,q⟩:=hs
    exact fin J rv q
  | next =>
    obtain ⟨σ',H',J,q⟩:=hs
    exact fin (v:=V.non) (u:=Value.none) J rfl q
  | brk =>
    obtain ⟨_,_,_,q⟩:=hs
    exact False.elim q
  | cont =>
    obtain ⟨_,_,_,q⟩:=hs
    exact False.elim q
structure CalleeN (P:Program) (w:World) (K:FG) (mg:Str->Option Value) (base:Heap) (x:Str) (k:Nat) (ps:List Str) (sp:Sp):Prop where
  ex:∃ (f:Addr) (fd:FuncData),FnOkN P w K mg base k f fd ps sp/\mg x=some (.ref f)/\PySem.W.keepIn K (.ref f)=true/\Binds K fd ps []
theorem Def.calleeN {P:Program} {w:World} {K:FG} {mg:Str->Option Value} {base:Heap} {x:Str} {st:Stmt} {k:Nat} {ps:List Str} {sp:Sp} (D:Def K mg x st)
    (hb:∀ (kV doc pm:Value) (an:Option Addr) (cdv ct:Value) (us:List Value),us.length=ps.length->bindArgs (PySem.W.fnOf x x (bf st) (aN st) (aj st) .none kV doc pm an cdv ct) ⟨us,[]⟩=pure (ps.zip us))
    (h:∀ f fd,Fun K x x st f fd->FnOkN P w K mg base k f fd ps sp):CalleeN P w K mg base x k ps sp:=by
  obtain ⟨f,fd,d⟩:=D
  exact ⟨f,fd,h f fd d.fn,d.mg,d.fn.kp,d.fn.binds hb⟩
section
variable {X:Cx} {x:Str} {p pos:Pos} {e:Expr} {es:List Expr} {t:TA} {k:Nat} {ps:List Str} {sp:Sp}
set_option tactic.hygienic true in
theorem z4 (c:CalleeN X.prog X.w X.K X.mg X.base x k ps sp) (hr:RoomN k X.A) (hD:Hd X) (ha:PA X (e :: es) t) (hg:Gl X x) (hdb:(x == ("__debug__":Str))=false)
    (he:starEach (e :: es) X.env=(false,eval e X.env) :: starEach es X.env) (hpl:(backTo pos (starEach es X.env)).any (·.1)=false):PE X (.Call (.Name x p) (e :: es) [] pos) (tFn sp t):=by
  obtain ⟨f,fd,F,hm,hk,hb⟩:=c.ex
  intro pins s σ H Q I h
  refine wpAny_Call_Name_kw (gq I hg hm ?_ hdb)
  refine PySem.W.callWith_K (h₀:=X.base) I.ok.mod.kin hk (thn (ha pos pins s σ H _ I h) fun us s1 ⟨vs,H1,I1,r,q⟩=>⟨I1.kIn,?_⟩) he hpl
  have hl:us.length=ps.length:=by rw [<- r.length];exact F.len _ _ _ _ q
  have bt:=hb s1 us I1.kIn (by rw [List.append_nil];exact hl)
  rw [List.append_nil] at bt
  refine wpAny_call (codeAny_mono (F.run X.A X.stack s1 H1 ⟨us,[]⟩ us vs Q hr (let ⟨a,ob,u,d1,d2,d3⟩:=hD;⟨a,ob,u,d1,I1.base.frzs a ob u d2,d3⟩) I1.env0 bt r q) fun r s' hq=>?_)
  cases r with
  | error e=>exact False.elim hq
  | ok fl =>
    cases fl with
    | ret u=>exact I1.after hq
    | next=>exact False.elim hq
    | brk=>exact False.elim hq
    | cont=>exact False.elim hq
end
end L2
end
section
namespace L2
open PySem PySem.Spec PyProof.Rows
structure TurnL (P:Program) (w:World) (K:FG) (tg:Expr) (J:It) (fp:List Addr) (it:Addr) (tn:Nat->Heap->Prop):Prop where
  obj:∀ i h,tn i h->∀ b ∈ fp,∃ o,h.get? b=some o/\∀ v,o.data ≠ .cell v
  keep:∀ i h h',tn i h->(∀ b ∈ fp,∀ o,h.get? b=some o->h'.get? b=some o)->tn i h'
  item:∀ (X:Cx),X.prog=P->X.w=w->X.K=K->Hd X->∀ (i:Nat) (pins:List (Addr × Obj)) (s:Shared) (σ:St) (H:Hp) (E:Value->Shared->Prop),Inv X pins σ H s->(∀ b ∈ fp,FpOk X pins H b)->tn i s.heap->J.go i H ->
    wpAny (model P w) X.A (pyNext (.ref it)) (fun r s1=>∃ u,r=some u/\wpAny (model P w) X.A (letOwnedTupleGo tg (.ref it) u) (fun _ s2=>∃ x H',Inv X pins σ H' s2/\RelV x u/\J.yld i H x H'/\tn (i+1) s2.heap/\∀ b ∈ fp,H' b=none) E s1) E s
  done:∀ (X:Cx),X.prog=P->X.w=w->X.K=K->Hd X->∀ (i:Nat) (pins:List (Addr × Obj)) (s:Shared) (σ:St) (H:Hp) (E:Value->Shared->Prop),Inv X pins σ H s->(∀ b ∈ fp,FpOk X pins H b)->tn i s.heap->J.stop i H ->
    wpAny (model P w) X.A (pyNext (.ref it)) (fun r s1=>r=none/\Inv X pins σ H s1) E s
  self:∀ (A:Around) (i:Nat) (s:Shared) (Q:Value->Shared->Prop) (E:Value->Shared->Prop),tn i s.heap->Q (.ref it) s->wpAny (model P w) A (pyIter (.ref it)) Q E s
theorem oI {P:Program} {w:World} {K:FG} {tg:Expr} (it:Addr) (lo:Int) (n:Nat):TurnL P w K tg (Itr lo n) [it] it (fun i h=>IsRangeIter h it (lo+(i:Nat) * 1) ((n:Int) - (i:Nat)) 1) where
  obj:=(eX (P:=P) (w:=w) (K:=K) (tg:=tg) it lo n).obj
  keep:=(eX (P:=P) (w:=w) (K:=K) (tg:=tg) it lo n).keep
  item:=by
    intro X hP hw hK hD i pins s σ H E I hf st hg
    subst hP hw hK
    obtain ⟨f0,f1,f2,f3,f4,f5⟩:=hf it (by simp)
    have hg:i < n:=hg
    refine wpAny_pyNext_range_item st (by omega) fun h' st' sb=>?_
    have st2:IsRangeIter h' it (lo+((i+1:Nat):Int) * 1) ((n:Int) - ((i+1:Nat):Int)) 1:=by
      have e1:lo+((i+1:Nat):Int) * 1=lo+(i:Int) * 1+1:=by omega
      have e2:(n:Int) - ((i+1:Nat):Int)=(n:Int) - (i:Int) - 1:=by omega
      rw [e1,e2]
      exact st'
    have I1:Inv X pins σ H { s with heap:=h',toks:=s.toks+1 }:=I.turned (fun b o hb e=>(sb.2 b hb).trans e) f0 f1 f3 f4 f5
    refine ⟨_,rfl,mJ (s:={ s with heap:=h',toks:=s.toks+1 }) (n:="range_iterator") st' rfl rfl (by decide) ⟨.int (lo+i),H,I1,⟨s.toks,?_⟩,⟨rfl,rfl⟩,st2,fun b hb=>(hf b hb).1⟩⟩
    rw [Int.mul_one]
  done:=by
    intro X hP hw hK hD i pins s σ H E I hf st hg
    subst hP hw hK
    obtain ⟨f0,f1,f2,f3,f4,f5⟩:=hf it (by simp)
    have hg:n<=i:=hg
    obtain ⟨a,ob,u,d1,d2,vs,d3,d4⟩:=hD
    have ha:=I.base.frzs a ob u d2
    exact tw d1 ⟨ob,vs,(I.hok a _ ha).1,d3,d4⟩ st (by omega) fun h' k=>⟨rfl,I.turned (t':=s.toks) (fun b o _ e=>k b o e) f0 f1 f3 f4 f5⟩
  self:=(eX (P:=P) (w:=w) (K:=K) (tg:=tg) it lo n).self
noncomputable def PIEL (X:Cx) (pins:List (Addr × Obj)) (σ:St) (tg:Expr) (R:It->Hp->Prop) (itv:Value) (s2:Shared):Prop :=
  ∃ (it:Addr) (fp:List Addr) (tn:Nat->Heap->Prop) (J:It) (H':Hp),itv=.ref it/\Inv X pins σ H' s2/\TurnL X.prog X.w X.K tg J fp it tn/\tn 0 s2.heap/\(∀ b ∈ fp,FpOk X pins H' b)/\R J H'
noncomputable def PIL (X:Cx) (tg iter:Expr) (wi:TI):Prop :=
  ∀ (pins:List (Addr × Obj)) (s:Shared) (σ:St) (H:Hp) (R:It->Hp->Prop),Inv X pins σ H s->wi σ H R ->
    wpAny (model X.prog X.w) X.A (eval iter X.env) (fun v s1=>wpAny (model X.prog X.w) X.A (pyIter v) (PIEL X pins σ tg R) X.xe s1) X.xe s
theorem PIL.imp {X:Cx} {tg e:Expr} {t t':TI} (h:PIL X tg e t) (f:∀ σ H R,t' σ H R->t σ H R):PIL X tg e t':=fun pins s σ H R I q=>h pins s σ H R I (f σ H R q)
section
variable {X:Cx} {tg:Expr}
theorem qx {a:Expr} {ta:TA} {p pos:Pos} (hg:Gl X "range") (hm:X.mg "range"=none) (ha:PA X [a] ta) (hs:starEach [a] X.env=[(false,eval a X.env)]):PIL X tg (.Call (.Name "range" p) [a] [] pos) (v6 ta):=by
  intro pins s σ H R I h
  refine Call_ (eJ I hg hm boot_range (PyProof.Rows.callWith_type1 (thn (ha pos pins s σ H _ I h) fun us s1 ⟨vs,H1,I1,r1,q1⟩=>?_) hs rfl))
  obtain ⟨j,rfl,q1,q2,q⟩:=q1
  obtain ⟨u,rfl,t,rfl⟩:=jJ r1
  refine call_range_1 ?_
  refine wpAny_pyIter_range (IsRange.new ..) (small_one (by omega) (by omega) q1 q2) ?_
  generalize hr:({ cls:=.type "range",data:=.fields #[_,_,_] }:Obj)=ro
  have I2:Inv X pins σ H1 { s1 with heap:=s1.heap.push ro,toks:=s1.toks+1+1 }:=I1.kept fun b o e=>AN _ e
  refine ⟨_,[(s1.heap.push ro).objs.size],_,_,H1,rfl,I2.kept (t':=s1.toks+1+1) fun b o e=>AN _ e,oI _ 0 j.toNat,?_,fun b hb=>?_,q⟩
  · have e1:(0:Int)+((0:Nat):Int) * 1=0:=by simp
    have e2:((j.toNat:Nat):Int) - ((0:Nat):Int)=Builtin.Range.rangeSize 0 j 1:=by rw [rangeSize_one];split <;> omega
    show IsRangeIter _ _ ((0:Int)+((0:Nat):Int) * 1) (((j.toNat:Nat):Int) - ((0:Nat):Int)) 1
    rw [e1,e2]
    exact AW _ rfl
  · have e:b=(s1.heap.push ro).objs.size:=by simpa using hb
    subst e
    exact I2.fpOk (A4 _) (I2.hok.fresh (A4 _))
end
section
variable {X:Cx}
set_option tactic.hygienic true in
theorem ug {elt tg iter:Expr} {ifs:List Expr} {NY:List Str} {scope:Scope} {ix:List (Option Nat)} {pos:Pos} {pins:List (Addr × Obj)} {σ:St} {H:Hp} {s:Shared} {fp:List Addr} {it:Addr} {tn:Nat->Heap->Prop} {J:It} {g:TG} {tc:TT} {te:TE} {Z:List V->Hp->Prop} {E:Value->Shared->Prop}
    {RR:Value->Addr->Result->Shared->Prop} (hHd:Hd X) (ck:CompOk scope X.N X.env.scope NY ix)
    (hg:∀ s H C fp,PG (aE X NY scope s H C fp) tg g) (ht:∀ s H C fp,Hd (aE X NY scope s H C fp)->PTs (aE X NY scope s H C fp) ifs tc) (he:∀ s H C fp,Hd (aE X NY scope s H C fp)->PE (aE X NY scope s H C fp) elt te)
    (I:Inv X pins σ H s) (T:TurnL X.prog X.w X.K tg J fp it tn) (st:tn 0 s.heap) (f:∀ b ∈ fp,FpOk X pins H b) (hW:qc J g tc te Z (cap ix σ) H)
    (hRR:∀ D C s' ys H' m,s'.heap.Ns C m->H' D=none->FpOk X pins (upd H' D (.lst ys)) C->Inv X pins σ (upd H' D (.lst ys)) s'->Z ys H'->RR (.ref D) C (.ok .next) s') :
    wpAny (model X.prog X.w) X.A (newList []) (fun acc s₃=>wpAny (model X.prog X.w) X.A (newFunctionEnv scope X.env.globals (clo X.env.cells scope.names) [] X.env.qual none .none (some X.env)) (fun cenv s₄ =>
      codeAny (model X.prog X.w) X.A (.compStart (.ListComp elt [⟨tg,iter,ifs,0⟩] scope pos) 0 (.ref it) acc { cenv with scope:=relabel scope X.env }) (RR acc cenv.locals) s₄) E s₃) E s:=by
  obtain ⟨W,⟨m0,w0⟩,turn⟩:=hW
  refine wpAny_newObj_type (wpAny_newFunctionEnv ck.nocell (by intro y hy;simp at hy) (fun h₁ hns₁ hsb₁=>?_) ck.kind)
  dsimp only at hns₁ hsb₁ ⊢
  generalize hH2:s.heap.push { cls:=.type "list",dict:=none,data:=.seq ([]:List Value).toArray }=H2 at hns₁ hsb₁ ⊢
  have hCs:H2.objs.size=s.heap.objs.size+1:=by rw [<- hH2,Bp]
  have hDC:s.heap.objs.size ≠ H2.objs.size:=by rw [hCs];exact A6 (Nat.lt_succ_self _)
  have hCle:s.heap.objs.size<=H2.objs.size:=by rw [hCs];exact Nat.le_succ _
  generalize hD:s.heap.objs.size=D at *
  generalize hC:H2.objs.size=C at *
  have below:∀ b o,s.heap.get? b=some o->b < D:=fun b o e=>by rw [<- hD];exact AU e
  have old:∀ b o,s.heap.get? b=some o->h₁.get? b=some o:=fun b o e=>hsb₁.extBut b o (A6 (Bb (below b o e) hCle)) (AN _ (hH2 ▸ AN _ e))
  have hacc0:H2.get? D=some { cls:=.type "list",dict:=none,data:=.seq ([]:List Value).toArray }:=by
    rw [<- hH2,<- hD];exact AW _ rfl
  have hacc:h₁.PlainList D #[]:=⟨_,hsb₁.extBut _ _ hDC (AN _ hacc0)⟩
  have hfp:∀ b ∈ fp,b < s.heap.objs.size:=fun b hb=>by
    obtain ⟨o,e,_⟩:=T.obj 0 _ st b hb
    exact AU e
  have hfpD:∀ b ∈ fp,b < D:=fun b hb=>by rw [<- hD];exact hfp b hb
  have IY:Inv (aE X NY scope s H C fp) [] (cap ix σ) H { s with heap:=h₁,toks:=s.toks+([]:List (Str × Value)).length } :=
    lB ck I f (by rw [hD];exact hCle) hfp rfl rfl old hns₁
  have hDc:Hd (aE X NY scope s H C fp):=let ⟨a,ob,u,d1,d2,d3⟩:=hHd;⟨a,ob,u,d1,I.base.frzs a ob u d2,d3⟩
  have HDn:H D=none:=I.hok.fresh (by rw [hD];exact A4 _)
  have stackLt:∀ b ∈ frs X.stack,b < D:=fun b hb=>by
    obtain ⟨_,o,ho,_⟩:=I.stack.mem hb
    exact below b o ho
  have loop:∀ s₃:Shared,s₃ = { s with heap:=h₁,toks:=s.toks+([]:List (Str × Value)).length } ->
      codeAny (model X.prog X.w) X.A (.compLoop (.ListComp elt [⟨tg,iter,ifs,0⟩] scope pos) 0 (.ref it) (.ref D) (aE X NY scope s H C fp).env) (RR (.ref D) C) s₃:=by
    rintro s₃ rfl
    refine dl (fun n s'=>∃ i ys τ H' its,Inv (aE X NY scope s H C fp) [] τ H' s'/\H' D=none/\s'.heap.PlainList D its/\Vals ys its.toList/\tn i s'.heap/\(∀ b ∈ fp,H' b=none)/\W i n ys τ H') ?_ m0
      ⟨0,[],cap ix σ,H,#[],IY,HDn,hacc,.nil,T.keep _ _ _ st fun b _ o e=>old b o e,fun b hb=>(f b hb).1,w0⟩
    rintro n s3 ⟨i,ys,τ,H3,its,I3,d3,l3,v3,st3,fr3,w3⟩
    obtain ⟨nl,e3⟩:=id l3
    have I3p:Inv (aE X NY scope s H C fp) [(D,{ cls:=.type "list",data:=.seq its nl })] τ H3 s3:=I3.pins_of fun p hp=>by
      have e:p=(D,{ cls:=.type "list",data:=.seq its nl }):=by simpa using hp
      subst e
      exact ⟨e3,d3,hDC,fun z=>Nat.lt_irrefl _ (stackLt D z),fun v z=>by cases z⟩
    have fpo:∀ {H':Hp} {pl:List (Addr × Obj)},(∀ b ∈ fp,H' b=none)->(∀ p ∈ pl,p.1=D)->∀ b ∈ fp,FpOk (aE X NY scope s H C fp) pl H' b:=fun hn hp b hb =>
      ⟨hn b hb,A6 (Bb (hfpD b hb) hCle),fun z=>by
        rcases AS.mp (I.stkSub b z) with e | e
        · exact (f b hb).2.1 e
        · exact (f b hb).2.2.1 e,.inl hb,fun x c e=>(f b hb).2.2.2.2.1 x c (iU e),fun p hp'=>by
        have e:p.1=D:=hp p ((AV.mp hp').elim (fun z=>absurd (show p ∈ ([]:List (Addr × Obj)) from z) (by simp)) fun z=>z)
        rw [e]
        exact Nat.ne_of_gt (hfpD b hb)⟩
    obtain ⟨zl,step⟩:=turn i n ys τ H3 w3
    have single:∀ p ∈ [(D,({ cls:=.type "list",data:=.seq its nl }:Obj))],p.1=D:=fun p hp=>by
      have e:p=(D,{ cls:=.type "list",data:=.seq its nl }):=by simpa using hp
      rw [e]
    rcases step with ⟨stop,qn⟩ | ⟨go,N,hN,step⟩
    · refine wpAny_mono (T.done (aE X NY scope s H C fp) rfl rfl rfl hDc i _ s3 τ H3 (fun _ _=>False) I3p (fpo fr3 single) st3 stop) (fun r s4 ⟨hr,I4⟩=>?_) fun _ _ e=>e
      subst hr
      obtain ⟨mC,hnC,_⟩:=id I4.loc
      obtain ⟨e4,d4,_⟩:=I4.pin (D,{ cls:=.type "list",data:=.seq its nl }) (by simp [aE])
      have lt4:∀ b o,s.heap.get? b=some o->b ≠ D:=fun b o e=>A6 (below b o e)
      have u4:=I4.base
      refine hRR D C s4 ys H3 mC hnC d4 ?_ ?_ qn
      · exact (I.fpOk (by rw [hD];exact hCle) (by exact I4.free)).of_upd (Ne.symm hDC)
      · refine I.call' (ch:=fp) I4.os (H':=upd H3 D (.lst ys)) ⟨u4.keep,u4.slot,fun b o e n hx=>?_,u4.there,fun b xs e=>?_,fun b o u e=>?_,fun b ps e=>?_⟩ ?_ I4.bare fun b hb=>?_
        · rw [aw (lt4 b o e)];exact u4.free b o e n hx
        · have q:=u4.tups b xs e;rw [aw (aY q d4)];exact q
        · have q:=u4.frzs b o u e;rw [aw (aY q d4)];exact q
        · obtain ⟨more,q⟩:=u4.tbls b ps e;exact ⟨more,by rw [aw (aY q d4)];exact q⟩
        · exact I4.hok.track d4 ⟨Nat.le_of_lt zl,its.toList,nl,v3,by simpa using e4⟩
        · exact ⟨(f b hb).2.2.2.1,(f b hb).2.1,(f b hb).2.2.2.2.1,(f b hb).2.2.2.2.2⟩
    · refine wpAny_mono (T.item (aE X NY scope s H C fp) rfl rfl rfl hDc i _ s3 τ H3 (fun _ _=>False) I3p (fpo fr3 single) st3 go) (fun r s4 ⟨u,hr,h4⟩=>?_) fun _ _ e=>e
      subst hr
      refine wpAny_mono h4 (fun _ s5 ⟨x,H5,I5,r5,y5,st5,fr5⟩=>?_) fun _ _ e=>e
      have I5':=I5.pinned (fpo fr5 single) (T.obj _ _ st5)
      refine wpAny_mono (hg s H C fp _ s5 τ H5 x u _ I5' r5 (step x H5 y5)) (fun _ s6 ⟨τ6,H6,I6,q6⟩=>?_) fun _ _ e=>e
      refine wpAny_mono (ht s H C fp hDc _ s6 τ6 H6 _ I6 q6) (fun b s7 ⟨H7,I7,q7⟩=>?_) fun _ _ e=>e
      have after:∀ {s':Shared} {H':Hp},Inv (aE X NY scope s H C fp) ([(D,{ cls:=.type "list",data:=.seq its nl })] ++ i7 fp s5.heap) τ6 H' s'->tn (i+1) s'.heap/\(∀ b ∈ fp,H' b=none)/\H' D=none/\s'.heap.PlainList D its:=fun {s' H'} I' =>
        ⟨T.keep _ _ _ st5 fun b hb o e=>(I'.pin (b,o) (AR _ (AR _ (cZ hb e)))).1,fun b hb=>by
          obtain ⟨o,e,d⟩:=T.obj _ _ st5 b hb
          exact (I'.pin (b,o) (AR _ (AR _ (cZ hb e)))).2.1,(I'.pin (D,_) (AR _ (AQ _ (Bi.mpr rfl)))).2.1,
          nl,(I'.pin (D,_) (AR _ (AQ _ (Bi.mpr rfl)))).1⟩
      cases b with
      | false =>
        rw [if_neg A5]
        rw [if_neg A5] at q7
        obtain ⟨m',hm,w7⟩:=hN _ _ _ q7
        obtain ⟨a1,a2,a3,a4⟩:=after I7
        exact ⟨m',hm,i+1,ys,τ6,H7,its,I7.pins_of (fun _ z=>absurd z (by simp)),a3,a4,v3,a1,a2,w7⟩
      | true =>
        rw [if_pos rfl]
        rw [if_pos rfl] at q7
        refine wpAny_mono (he s H C fp hDc _ s7 τ6 H7 _ I7 q7) (fun y s8 ⟨yv,H8,I8,r8,n8⟩=>?_) fun _ _ e=>e
        obtain ⟨m',hm,w8⟩:=hN _ _ _ n8
        obtain ⟨a1,a2,a3,a4⟩:=after I8
        have hsz0:ys.length=its.size:=by simpa using v3.length
        have hsz:its.size<=sizeLine:=by omega
        refine wpAny_list_append_plain (hsz:=hsz) a4 fun h9 l9 sb9=>?_
        have I9:Inv (aE X NY scope s H C fp) [] τ6 H8 { s8 with heap:=h9,toks:=s8.toks }:=(I8.pins_of (pins':=[]) fun _ z=>absurd z (by simp)).turned (it:=D) (fun b o hb e=>(sb9.2 b hb).trans e) a3 hDC (.inr (by show s.heap.objs.size<=D;rw [hD];exact A4 _)) (fun x c e z=>?_) fun p z=>absurd (show p ∈ ([]:List (Addr × Obj)) from z) (by simp)
        · refine ⟨m',hm,i+1,ys ++ [yv],τ6,H8,its.push y,I9,a3,l9,?_,T.keep _ _ _ a1 fun b hb o e=>(sb9.2 b (A6 (hfpD b hb))).trans e,a2,w8⟩
          rw [Array.toList_push]
          exact v3.append (.cons r8 .nil)
        · obtain ⟨v,o,ho,_⟩:=I.cell x c (iU e)
          exact Nat.lt_irrefl _ (z ▸ below c o ho)
  exact codeAny_compStart_list (loop _ rfl) (T.self X.A 0 _ _ _ (T.keep _ _ _ st fun b _ o e=>old b o e) (loop _ rfl))
theorem vw {elt tg iter:Expr} {ifs:List Expr} {scope:Scope} {pos:Pos} {wi:TI} {g:TG} {tc:TT} {te:TE} (NY:List Str) (ix:List (Option Nat)) (hHd:Hd X) (hi:PIL X tg iter wi)
    (hg:∀ s H C fp,PG (aE X NY scope s H C fp) tg g) (ht:∀ s H C fp,Hd (aE X NY scope s H C fp)->PTs (aE X NY scope s H C fp) ifs tc) (he:∀ s H C fp,Hd (aE X NY scope s H C fp)->PE (aE X NY scope s H C fp) elt te)
    (ck:jB scope X.N X.env.scope NY ix=true) (hs:∀ x,foldedSetIterable iter X.env x=pure x:=by intro _;rfl):PE X (.ListComp elt [⟨tg,iter,ifs,0⟩] scope pos) (uS wi g tc te ix):=by
  intro pins s σ H Q I h
  have ck:=CompOk.of ck
  rw [eval_ListComp]
  refine wpAny_comprehension_free (use:=none) rfl hs (gc (scope:=scope) (env:=X.env) fun x m e=>?_) ck.kind ck.loc (thn (hi pins s σ H _ I h) fun v s1 h1=>thn h1 fun itv s2 h2=>?_)
  · rcases ck.out x m e with q | q
    · exact I.ok.has x.1 (.inl q)
    · exact I.ok.has x.1 (.inr q)
  · obtain ⟨it,fp,tn,J,H2,e,I2,T,st2,f2,hW⟩:=h2
    subst e
    refine ug (RR:=fun acc C=>compPost (model X.prog X.w) X.A X.xe none (EP X pins σ Q) acc C) hHd ck hg ht he I2 T st2 f2 hW ?_
    intro D C s' ys H' m hn hD fC I' hZ
    obtain ⟨f0,f1,f2,f3,f4,f5⟩:=fC
    exact ⟨m,hn,fun h' sb=>⟨.ref D,_,I'.turned (t':=s'.toks) (fun b o hb e=>(sb.2 b hb).trans e) f0 f1 f3 f4 f5,rfl,hZ D hD⟩⟩
end
end L2
end
section
namespace L2
open PySem PySem.W PySem.Spec PySem.Calls PyProof.Rows Builtin.Getset_descriptor
structure ExcAt (h:Heap) (x D:Addr):Prop where
  ex:∃ ox,h.get? x=some ox/\ox.cls=.ref D
section
variable {prog:Program} {w:World} {A:Around} {E:Value->Shared->Prop} {s:Shared} {K:FG} {x D:Addr}
theorem ExcAt.ty {M:Model} {h:Heap} (p:ExcAt h x D):Looks M h (typeOf (.ref x)) (.ref D):=by
  obtain ⟨ox,e1,e2⟩:=p.ex
  exact e2 ▸ (Looks.ld e1).andThen .now
theorem wb {M:Model} {h:Heap} (k:ExcK K D) (X:K.In h):Looks M h (Builtin.ObjectAttr.find (.ref x) (.ref D) "__class__") (.bind (.builtin "getset_descriptor.__get__") (.builtin "object.__class__")):=by
  have Ta:=looks_findIn (M:=M) X k.ca
  have Tb:Looks M h (Builtin.ObjectAttr.getOf (some (.builtin "object.__class__"))) (some (.builtin "getset_descriptor.__get__")):=looks_specialIn X k.sp
  have Tc:Looks M h (Builtin.ObjectAttr.dataDescriptor? (some (.builtin "object.__class__")) (some (.builtin "getset_descriptor.__get__"))) (some (.builtin "getset_descriptor.__get__",.builtin "object.__class__")):=(looks_takesIn X k.tk).andThen .now
  exact Ta.andThen (Tb.andThen (Tc.andThen (Looks.tag .now)))
theorem x4 {R:Result->Shared->Prop} {tp:Value} (k:ExcK K D) (X:K.In s.heap) (p:ExcAt s.heap x D) (h:R (.ok (.ret (.ref D))) s):codeAny (model prog w) A (.call (.builtin "getset_descriptor.__get__") ⟨[.builtin "object.__class__",.ref x,tp],[]⟩) R s:=by
  obtain ⟨h0,g0,d0,t0,o0⟩:=s
  have Ta:=p.ty (M:=model prog w)
  have Tb:=looks_mroIn (M:=model prog w) X k.ob
  refine codeAny_call_builtin KF.slot_gs.plain KF.entry_gs (KF.slot_gs.check _ _ _ _ _ _ _ _ KF.type_class (KF.args_gs _ _ _) ?_)
  unfold Builtin.«getset_descriptor.__get__» descrGet
  rw [dga_obj]
  refine AI (AJ ?_)
  unfold descrGetter descrCheckInstance descrNameAndClass isInstance
  simp only [KF.owner_class]
  repeat lk
  refine ⟨Code.quiet_builtin _ (by decide +kernel),codeAny_builtin KF.entry_class ?_⟩
  unfold Builtin.«object.__class__» shownTypeOf
  repeat lk
  exact h
theorem tX {tk:Tok} {Q:Fin->Shared->Prop} (k:ExcK K D) (X:K.In s.heap) (p:ExcAt s.heap x D) (h:Q (.done (.ret (.ref D))) s) :
    wpAny (model prog w) A (Builtin.«object.__getattribute__» ⟨[.ref x,.str "__class__" tk],[]⟩) Q E s:=by
  obtain ⟨h0,g0,d0,t0,o0⟩:=s
  have Ta:=p.ty (M:=model prog w)
  have Tb:=wb (M:=model prog w) (x:=x) k X
  unfold Builtin.«object.__getattribute__» slotArgs
  repeat lk
  show wpAny _ _ (run (.call (.builtin "getset_descriptor.__get__") ⟨[.builtin "object.__class__",.ref x,.ref D],[]⟩)) _ _ _
  refine wpAny_run (x4 k X p ?_)
  exact AJ (AJ h)
theorem tZ {v:Value} {Q:Unit->Shared->Prop} (k:ExcK K D) (X:K.In s.heap) (p:ExcAt s.heap x D) (h:Q () s):wpAny (model prog w) A (checkBuiltinCall "BaseException.__getattribute__" ⟨[.ref x,v],[]⟩) Q E s:=by
  obtain ⟨h0,g0,d0,t0,o0⟩:=s
  have Ta:=p.ty (M:=model prog w)
  have Tb:=looks_mroIn (M:=model prog w) X k.be
  have b1:builtinKind "BaseException.__getattribute__"=some .slot:=by decide +kernel
  have b2:splitId "BaseException.__getattribute__"=some ("BaseException","__getattribute__"):=by decide +kernel
  have b3:=F.args_bexc_ga (.ref x) v
  simp only [checkBuiltinCall,b1,b2]
  refine AI ?_
  unfold isInstance
  repeat lk
  exact h
theorem tY {Q:Option Value->Shared->Prop} (k:ExcK K D) (X:K.In s.heap) (p:ExcAt s.heap x D) (h:Q (some (.ref D)) { s with toks:=s.toks+1 }):wpAny (model prog w) A (getAttr? (.ref x) "__class__") Q E s:=by
  obtain ⟨h0,g0,d0,t0,o0⟩:=s
  have Ta:=p.ty (M:=model prog w)
  have Tb:=looks_findIn (M:=model prog w) X k.ga
  have Tc:=looks_findIn (M:=model prog w) X k.gt
  have hb:=F.excAttr_ValueError.ga.bind (.ref x)
  have ne:(onTheHeap (Value.ref D) && Value.builtin "BaseException.__getattribute__" == Value.builtin "object.__getattribute__")=false:=by
    rw [show (Value.builtin "BaseException.__getattribute__" == Value.builtin "object.__getattribute__")=false by decide +kernel];rfl
  unfold getAttr? getAttrBy? getAttrBy
  refine AI (wpAny_mkText (AI (wpAny_attempt (AK (AI (Ta.at (AI (Tb.at ?_))))))))
  simp only [ne,Bj,if_false]
  unfold getAttrByItsOwn hookBefore
  rw [show onTheHeap (Value.ref D)=true from rfl,if_pos rfl]
  refine AI (Tc.at (AI (wpAny_attempt (AK ?_))))
  unfold callGetattribute boundAndCalled
  rw [if_neg (by decide)]
  refine AI (wpAny_of_eq hb ?_)
  refine wpAny_call (codeAny_call_builtin F.excAttr_ValueError.ga.plain F.entry_bexc_ga (tZ k X p (tX k X p ?_)))
  exact handed_on rfl (AJ h)
set_option tactic.hygienic true in
theorem ExcK.isT {h:Heap} (k:ExcK K D) (X:K.In h):∃ o cd,h.get? D=some o/\o.data=.cls cd:=by
  obtain ⟨cd,hc⟩:=Option.isSome_iff_exists.mp k.cl
  unfold clsIn at hc
  split at hc
  · rename_i ho
    exact ⟨_,_,X _ _ ho,rfl⟩
  · cases hc
theorem vR (k:ExcK K D):KitX K (.ref x) (.ref D) (fun h=>ExcAt h x D) where
  ty:=fun _ _ _ p=>p.ty
  it:=fun _ _ X _=>by
    obtain ⟨o,cd,e1,e2⟩:=k.isT X
    intro A1 Q1 E1 s1 k1 q1
    unfold isType loadHead
    obtain ⟨oc,od,oda,osl⟩:=o
    dsimp only at e2
    subst e2
    exact AI (wpAny_loadPart (k1 _ _ e1) (AJ q1))
  ne:=fun h tp dd its n sl X htp=>by
    obtain ⟨o,cd,e1,e2⟩:=k.isT X
    cases q0:(Value.ref D == Value.ref tp) with
    | false=>rfl
    | true =>
      have e3:D=tp:=Value.ref.inj (beq_iff_eq.mp q0)
      rw [e3,htp] at e1
      cases e1
      cases e2
  ca:=fun X p q1=>tY k X p q1
end
end L2
end
section
namespace L2
open PySem PySem.Spec PyProof.Rows
end L2
end
section
namespace L2
open PySem PySem.Spec PyProof.Rows
end L2
end
section
namespace L3
open PySem L2
theorem nsE {α:Type} {p:α} {P:Prop} (e:(none:Option α)=some p):P:=nomatch e
inductive D where
 | non | bl (b:Bool) | int (i:Int) | str (x:Str)
 | tup (xs:List D) | lst (xs:List D) | fls (xs:List D) | dk (kvs:List (Key × D)) | dt (kvs:List (List Key × D))
 | exc (c:String) (fs:List (String × D))
noncomputable def iS:D->Bool
 | .lst _=>true
 | .dk _=>true
 | .dt _=>true
 | _=>false
noncomputable def FzL (K:FG) (H:Hp) (a:Addr) (vs:List V):Prop:=(∃ o,H a=some (.frz o (.lst vs)))\/∃ (o:Obj) (its:Array Value) (n:Nat),K.lookup a=some o/\o.cls=.type "list"/\o.dict=none/\o.data=.seq its n/\its.size<=sizeLine/\Vals vs its.toList
theorem FzL.sq {K:FG} {H:Hp} {a:Addr} {vs:List V} (h:FzL K H a vs):SqL K H a vs:=h.elim (fun ⟨o,e⟩=>.inl (.inr ⟨o,e⟩)) .inr
inductive Reps (R:D->V->List Addr->Prop):List D->List V->List Addr->Prop where
 | nil:Reps R [] [] []
 | cons {d v L ds vs L'}:R d v L->Reps R ds vs L'->Reps R (d :: ds) (v :: vs) (L ++ L')
inductive Rep (K:FG) (H:Hp):D->V->List Addr->Prop where
 | non:Rep K H .non .non []
 | bl (b:Bool):Rep K H (.bl b) (.bl b) []
 | int (i:Int):Rep K H (.int i) (.int i) []
 | str (x:Str):Rep K H (.str x) (.str x) []
 | tup {xs a vs L}:H a=some (.tup vs)->Reps (Rep K H) xs vs L->Rep K H (.tup xs) (.ref a) L
 | lst {xs a vs L}:H a=some (.lst vs)->Reps (Rep K H) xs vs L->Rep K H (.lst xs) (.ref a) (a :: L)
 | lstF {xs a vs L}:FzL K H a vs->Reps (Rep K H) xs vs L->Rep K H (.fls xs) (.ref a) L
 | dK {kvs a ps L}:H a=some (.dK ps)->kvs.map (·.1)=ps.map (·.1)->Reps (Rep K H) (kvs.map (·.2)) (ps.map (·.2)) L->Rep K H (.dk kvs) (.ref a) (a :: L)
 | dT {kvs a ps L}:H a=some (.dT ps)->kvs.map (·.1)=ps.map (·.1)->Reps (Rep K H) (kvs.map (·.2)) (ps.map (·.2)) L->Rep K H (.dt kvs) (.ref a) (a :: L)
 | exc {c a D ob}:XName K c D->H a=some (kg ob a (.ref D))->Rep K H (.exc c []) (.ref a) []
noncomputable def RepV (K:FG) (H:Hp) (d:D) (v:V) (L:List Addr):Prop:=match d with
 | .non=>v=.non/\L=[]
 | .bl b=>v=.bl b/\L=[]
 | .int i=>v=.int i/\L=[]
 | .str x=>v=.str x/\L=[]
 | .tup xs=>∃ a vs,v=.ref a/\H a=some (.tup vs)/\Reps (Rep K H) xs vs L
 | .lst xs=>∃ a vs L',v=.ref a/\L=a :: L'/\H a=some (.lst vs)/\Reps (Rep K H) xs vs L'
 | .fls xs=>∃ a vs,v=.ref a/\FzL K H a vs/\Reps (Rep K H) xs vs L
 | .dk kvs=>∃ a ps L',v=.ref a/\L=a :: L'/\H a=some (.dK ps)/\kvs.map (·.1)=ps.map (·.1)/\Reps (Rep K H) (kvs.map (·.2)) (ps.map (·.2)) L'
 | .dt kvs=>∃ a ps L',v=.ref a/\L=a :: L'/\H a=some (.dT ps)/\kvs.map (·.1)=ps.map (·.1)/\Reps (Rep K H) (kvs.map (·.2)) (ps.map (·.2)) L'
 | .exc c fs=>fs=[]/\L=[]/\∃ a D ob,v=.ref a/\XName K c D/\H a=some (kg ob a (.ref D))
theorem Rep.view {K:FG} {H:Hp} {d:D} {v:V} {L:List Addr} (r:Rep K H d v L):RepV K H d v L:=by
 cases r with
 | non=>exact ⟨rfl,rfl⟩
 | bl b=>exact ⟨rfl,rfl⟩
 | int i=>exact ⟨rfl,rfl⟩
 | str x=>exact ⟨rfl,rfl⟩
 | tup h r=>exact ⟨_,_,rfl,h,r⟩
 | lst h r=>exact ⟨_,_,_,rfl,rfl,h,r⟩
 | lstF h r=>exact ⟨_,_,rfl,h,r⟩
 | dK h k r=>exact ⟨_,_,_,rfl,rfl,h,k,r⟩
 | dT h k r=>exact ⟨_,_,_,rfl,rfl,h,k,r⟩
 | exc n h=>exact ⟨rfl,rfl,_,_,_,rfl,n,h⟩
noncomputable def MutAt (H:Hp) (b:Addr):Prop:=(∃ xs,H b=some (.lst xs))\/(∃ ps,H b=some (.dK ps))\/∃ ps,H b=some (.dT ps)
theorem MutAt.ex {H:Hp} {b:Addr} (m:MutAt H b):∃ o,H b=some o:=by
 rcases m with ⟨_,h⟩ | ⟨_,h⟩ | ⟨_,h⟩ <;> exact ⟨_,h⟩
theorem MutAt.notup {H:Hp} {b:Addr} {vs:List V} (m:MutAt H b) (h:H b=some (.tup vs)):False:=by
 rcases m with ⟨_,e⟩ | ⟨_,e⟩ | ⟨_,e⟩ <;> rw [e] at h <;> cases h
theorem MutAt.nofrz {H:Hp} {b:Addr} {o:Obj} {u:HO} (m:MutAt H b) (h:H b=some (.frz o u)):False:=by
 rcases m with ⟨_,e⟩ | ⟨_,e⟩ | ⟨_,e⟩ <;> rw [e] at h <;> cases h
theorem FzL.keep {K:FG} {H H':Hp} {a:Addr} {vs:List V} {M:Addr->Prop} (h:FzL K H a vs) (k:∀ b o,H b=some o->¬ M b->H' b=some o) (hm:∀ b,M b->MutAt H b):FzL K H' a vs:=h.elim (fun ⟨o,e⟩=>.inl ⟨o,k a _ e fun z=>(hm a z).nofrz e⟩) .inr
section
variable {K:FG} {H H':Hp} {d:D} {v:V} {L:List Addr}
theorem Rep.inH (r:Rep K H d v L):∀ b ∈ L,MutAt H b:=by
 refine Rep.rec (motive_1:=fun _ _ L _=>∀ b ∈ L,MutAt H b) (motive_2:=fun _ _ L _=>∀ b ∈ L,MutAt H b) ?_ ?_ ?_ ?_ ?_ ?_ ?_ ?_ ?_ ?_ ?_ ?_ r
 ·intro b hb;cases hb
 ·intro _ b hb;cases hb
 ·intro _ b hb;cases hb
 ·intro _ b hb;cases hb
 ·intro _ _ _ _ _ _ ih;exact ih
 ·intro _ _ _ _ h _ ih b hb
  rcases AS.mp hb with e | hb
  ·rw [e];exact .inl ⟨_,h⟩
  ·exact ih b hb
 ·intro _ _ _ _ _ _ ih;exact ih
 ·intro _ _ _ _ h _ _ ih b hb
  rcases AS.mp hb with e | hb
  ·rw [e];exact .inr (.inl ⟨_,h⟩)
  ·exact ih b hb
 ·intro _ _ _ _ h _ _ ih b hb
  rcases AS.mp hb with e | hb
  ·rw [e];exact .inr (.inr ⟨_,h⟩)
  ·exact ih b hb
 ·intro _ _ _ _ _ _ b hb;cases hb
 ·intro b hb;cases hb
 ·intro _ _ _ _ _ _ _ _ i1 i2 b hb
  rcases AV.mp hb with h | h
  ·exact i1 b h
  ·exact i2 b h
theorem Reps.inH {ds:List D} {vs:List V} (r:Reps (Rep K H) ds vs L):∀ b ∈ L,MutAt H b:=by
 induction r with
 | nil=>intro b hb;cases hb
 | cons r _ ih =>
  intro b hb
  rcases AV.mp hb with h | h
  ·exact r.inH b h
  ·exact ih b h
theorem Rep.keep {M:Addr->Prop} (k:∀ b o,H b=some o->¬ M b->H' b=some o) (hm:∀ b,M b->MutAt H b) (r:Rep K H d v L):(∀ b ∈ L,¬ M b)->Rep K H' d v L:=by
 refine Rep.rec (motive_1:=fun d v L _=>(∀ b ∈ L,¬ M b)->Rep K H' d v L) (motive_2:=fun ds vs L _=>(∀ b ∈ L,¬ M b)->Reps (Rep K H') ds vs L) ?_ ?_ ?_ ?_ ?_ ?_ ?_ ?_ ?_ ?_ ?_ ?_ r
 ·intro _;exact .non
 ·intro b _;exact .bl b
 ·intro b _;exact .int b
 ·intro b _;exact .str b
 ·intro xs a vs L h _ ih hL
  exact .tup (k a _ h fun z=>(hm a z).notup h) (ih hL)
 ·intro xs a vs L h _ ih hL
  exact .lst (k a _ h (hL a AL)) (ih fun b hb=>hL b (AM _ hb))
 ·intro xs a vs L h _ ih hL
  exact .lstF (h.keep k hm) (ih hL)
 ·intro kvs a ps L h e _ ih hL
  exact .dK (k a _ h (hL a AL)) e (ih fun b hb=>hL b (AM _ hb))
 ·intro kvs a ps L h e _ ih hL
  exact .dT (k a _ h (hL a AL)) e (ih fun b hb=>hL b (AM _ hb))
 ·intro c a D ob n h _
  exact .exc n (k a _ h fun z=>(hm a z).nofrz h)
 ·intro _;exact .nil
 ·intro d v L ds vs L' _ _ i1 i2 hL
  exact .cons (i1 fun b hb=>hL b (AQ _ hb)) (i2 fun b hb=>hL b (AR _ hb))
theorem Rep.same (r:Rep K H d v L) (s:Same H H'):Rep K H' d v L:=r.keep (M:=fun _=>False) (fun b o h _=>s b o h) (fun _ z=>z.elim) fun _ _ z=>z
theorem Reps.keep {M:Addr->Prop} {ds:List D} {vs:List V} (k:∀ b o,H b=some o->¬ M b->H' b=some o) (hm:∀ b,M b->MutAt H b) (r:Reps (Rep K H) ds vs L):(∀ b ∈ L,¬ M b)->Reps (Rep K H') ds vs L:=by
 induction r with
 | nil=>intro _;exact .nil
 | cons r _ ih=>intro hL;exact .cons (r.keep k hm fun b hb=>hL b (AQ _ hb)) (ih fun b hb=>hL b (AR _ hb))
theorem Reps.same {ds:List D} {vs:List V} (r:Reps (Rep K H) ds vs L) (s:Same H H'):Reps (Rep K H') ds vs L:=r.keep (M:=fun _=>False) (fun b o h _=>s b o h) (fun _ z=>z.elim) fun _ _ z=>z
end
inductive Fl where
 | u | l | z
 deriving DecidableEq
structure It3 where
 d:D
 v:V
 L:List Addr
 f:Fl
noncomputable abbrev Sto:=List (Option (D × Fl))
structure Gm where
 H0:Hp
 bw:Addr->Prop
 pr:Nat->Bool
 σ0:St
 orig:Hp
 src:Addr->Prop
 lv:Nat->Option V
noncomputable def OwnOk (G:Gm) (x:It3):Prop:=iS x.d=true/\∃ a L',x.v=.ref a/\x.L=a :: L'/\a ∉ L'/\(x.f=.u->G.H0 a=none\/G.bw a)
structure ItOk (K:FG) (G:Gm) (H:Hp) (x:It3):Prop where
 rep:Rep K H x.d x.v x.L
 own:x.f ≠ .z->OwnOk G x
 src:∀ c ∈ x.L,G.H0 c=none\/G.src c
structure Fx (G:Gm) (H:Hp) (T:List It3) (g:Nat->Option It3):Prop where
 frT:∀ x ∈ T,x.f ≠ .z->∀ a,x.v=.ref a->G.orig a=none
 frS:∀ i x,g i=some x->G.pr i=false->x.f ≠ .z->∀ a,x.v=.ref a->G.orig a=none
 bin:∀ b,G.bw b->∃ o,H b=some o
 ob:∀ b o,G.orig b=some o->∃ o',H b=some o'
 lvS:∀ i x,g i=some x->x.f=.l->G.lv i=some x.v
noncomputable def NoRoot (x y:It3):Prop:=x.f ≠ .z->∀ a,x.v=.ref a->a ∉ y.L
noncomputable def Apart3 (x y:It3):Prop:=NoRoot x y/\NoRoot y x
structure Wf (K:FG) (G:Gm) (H:Hp) (σ:St) (ρ:Sto) (T:List It3) (g:Nat->Option It3):Prop where
 len:σ.length = ρ.length
 sl:∀ i,(g i).map (fun x=>(x.d,x.f))=(ρ[i]?).join
 sv:∀ i x,g i=some x->σ[i]?=some (some x.v)
 okS:∀ i x,g i=some x->ItOk K G H x
 okT:∀ x ∈ T,ItOk K G H x
 ss:∀ i j x y,i ≠ j->g i=some x->g j=some y->NoRoot x y
 st:∀ i x,g i=some x->∀ y ∈ T,Apart3 x y
 tt:T.Pairwise Apart3
 base:∀ b o,G.H0 b=some o->¬ G.bw b->H b=some o
 pro:∀ i,G.pr i=true->σ[i]?=G.σ0[i]?
 fx:Fx G H T g
structure Le (K:FG) (G:Gm) (W:D->Sto->Prop) (G0:Gm) (W0:D->Sto->Prop):Prop where
 pr:G.pr=G0.pr
 ex:∀ (H:Hp) (σ:St) (ρ:Sto) (T:List It3) (g:Nat->Option It3) (e:D),Wf K G H σ ρ T g->W e ρ->∃ ρ0 T0 g0,Wf K G0 H σ ρ0 T0 g0/\W0 e ρ0
theorem Le.refl (K:FG) (G:Gm) (W:D->Sto->Prop):Le K G W G W:=⟨rfl,fun _ _ ρ T g _ w h=>⟨ρ,T,g,w,h⟩⟩
theorem Le.trans {K:FG} {G G1 G2:Gm} {W W1 W2:D->Sto->Prop} (a:Le K G W G1 W1) (b:Le K G1 W1 G2 W2):Le K G W G2 W2:=⟨a.pr.trans b.pr,fun H σ ρ T g e w h=>by
 obtain ⟨ρ1,T1,g1,w1,h1⟩:=a.ex H σ ρ T g e w h
 exact b.ex H σ ρ1 T1 g1 e w1 h1⟩
section
variable {K:FG} {G:Gm} {H H':Hp} {σ:St} {ρ:Sto} {T T':List It3} {g:Nat->Option It3} {x y z:It3}
theorem ItOk.keep {M:Addr->Prop} (h:ItOk K G H x) (k:∀ b o,H b=some o->¬ M b->H' b=some o) (hm:∀ b,M b->MutAt H b) (hL:∀ b ∈ x.L,¬ M b):ItOk K G H' x:=⟨h.rep.keep k hm hL,h.own,h.src⟩
theorem ItOk.same (h:ItOk K G H x) (s:Same H H'):ItOk K G H' x:=⟨h.rep.same s,h.own,h.src⟩
theorem Fx.more (f:Fx G H T g) (s:∀ b o,H b=some o->∃ o',H' b=some o'):Fx G H' T g:=⟨f.frT,f.frS,fun b h=>let ⟨o,e⟩:=f.bin b h;s b o e,fun b o h=>let ⟨o',e⟩:=f.ob b o h;s b o' e,f.lvS⟩
theorem Fx.sub (f:Fx G H T g) (h:∀ x ∈ T',x ∈ T):Fx G H T' g:=⟨fun x hx=>f.frT x (h x hx),f.frS,f.bin,f.ob,f.lvS⟩
theorem Wf.grow (w:Wf K G H σ ρ T g) (s:Same H H'):Wf K G H' σ ρ T g :=
 ⟨w.len,w.sl,w.sv,fun i x e=>(w.okS i x e).same s,fun x hx=>(w.okT x hx).same s,w.ss,w.st,w.tt,fun b o e n=>s b o (w.base b o e n),w.pro,w.fx.more fun b o h=>⟨o,s b o h⟩⟩
theorem Wf.sub (w:Wf K G H σ ρ T g) (h:T'.Sublist T):Wf K G H σ ρ T' g :=
 ⟨w.len,w.sl,w.sv,w.okS,fun x hx=>w.okT x (h.subset hx),w.ss,fun i x e y hy=>w.st i x e y (h.subset hy),w.tt.sublist h,w.base,w.pro,w.fx.sub fun x hx=>h.subset hx⟩
noncomputable def Itm (T:List It3) (g:Nat->Option It3) (y:It3):Prop:=(∃ i,g i=some y)\/y ∈ T
noncomputable def dG (T:List It3) (g:Nat->Option It3) (c:Addr):Prop:=(∀ i z,g i=some z->z.f ≠ .z->z.v ≠ .ref c)/\∀ z ∈ T,z.f ≠ .z->z.v ≠ .ref c
theorem Wf.itm (w:Wf K G H σ ρ T g) (h:Itm T g y):ItOk K G H y:=by
 rcases h with ⟨i,e⟩ | h
 ·exact w.okS i y e
 ·exact w.okT y h
theorem nk {α:Type} {R:α->α->Prop} {l:List α} (p:l.Pairwise R) (hs:∀ a b,R a b->R b a):∀ a ∈ l,∀ b ∈ l,a ≠ b->R a b:=by
 induction p with
 | nil=>intro a ha;cases ha
 | @cons c l hc _ ih =>
  intro a ha b hb n
  rcases AS.mp ha with ea | ha
  ·rcases AS.mp hb with eb | hb
   ·exact absurd (ea.trans eb.symm) n
   ·rw [ea];exact hc b hb
  ·rcases AS.mp hb with eb | hb
   ·rw [eb];exact hs _ _ (hc a ha)
   ·exact ih a ha b hb n
theorem Apart3.symm (h:Apart3 x y):Apart3 y x:=⟨h.2,h.1⟩
theorem Wf.kid (w:Wf K G H σ ρ T g) (h:Itm T g y) {c:Addr} (hc:c ∈ y.L) (hn:y.f ≠ .z->y.v ≠ .ref c):dG T g c:=by
 refine ⟨fun i z e hz ez=>?_,fun z hm hz ez=>?_⟩
 ·rcases h with ⟨j,ej⟩ | hy
  ·by_cases ij:i=j
   ·subst ij
    rw [e] at ej
    cases ej
    exact hn hz ez
   ·exact w.ss i j z y ij e ej hz c ez hc
  ·exact (w.st i z e y hy).1 hz c ez hc
 ·rcases h with ⟨j,ej⟩ | hy
  ·exact (w.st j y ej z hm).2 hz c ez hc
  ·by_cases e:z=y
   ·subst e;exact hn hz ez
   ·exact (nk w.tt (fun _ _=>Apart3.symm) z hm y hy e).1 hz c ez hc
structure New (K:FG) (H H':Hp) (Ks:Addr->Prop) (x:It3):Prop where
 same:Same H H'
 rep:Rep K H' x.d x.v x.L
 sub:∀ c ∈ x.L,H c=none\/Ks c
 own:x.f ≠ .z->iS x.d=true/\∃ a L',x.v=.ref a/\x.L=a :: L'/\a ∉ L'/\H a=none
theorem Wf.h0none (w:Wf K G H σ ρ T g) {a:Addr} (h:H a=none):G.H0 a=none:=by
 cases e:G.H0 a with
 | none=>rfl
 | some o =>
  by_cases b:G.bw a
  ·obtain ⟨o,e⟩:=w.fx.bin a b
   rw [h] at e;cases e
  ·have:=w.base a o e b
   rw [h] at this;cases this
theorem Wf.ornone (w:Wf K G H σ ρ T g) {a:Addr} (h:H a=none):G.orig a=none:=by
 cases e:G.orig a with
 | none=>rfl
 | some o =>
  obtain ⟨o,e⟩:=w.fx.ob a o e
  rw [h] at e;cases e
theorem Wf.push {Ks:Addr->Prop} (w:Wf K G H σ ρ T g) (n:New K H H' Ks x) (hk:∀ c,Ks c->dG T g c/\(G.H0 c=none\/G.src c)):Wf K G H' σ ρ (x :: T) g:=by
 have w':=w.grow n.same
 have a1:∀ y:It3,ItOk K G H y->(∀ c,Ks c->y.f ≠ .z->y.v ≠ .ref c)->Apart3 y x:=fun y oy hy=>by
  refine ⟨fun hf a e hm=>?_,fun hf a e hm=>?_⟩
  ·obtain ⟨_,a',L',e1,e2,_,_⟩:=oy.own hf
   rw [e] at e1
   cases e1
   rcases n.sub a hm with h | h
   ·obtain ⟨o,ho⟩:=(oy.rep.inH a (by rw [e2];exact AL)).ex
    rw [h] at ho;cases ho
   ·exact hy a h hf e
  ·obtain ⟨_,a',L',e1,e2,_,h⟩:=n.own hf
   rw [e] at e1
   cases e1
   obtain ⟨o,ho⟩:=(oy.rep.inH a hm).ex
   rw [h] at ho;cases ho
 refine ⟨w'.len,w'.sl,w'.sv,w'.okS,?_,w'.ss,?_,?_,w'.base,w'.pro,⟨fun y hy hf a ea=>?_,w'.fx.frS,w'.fx.bin,w'.fx.ob,w'.fx.lvS⟩⟩
 ·intro y hy
  rcases AS.mp hy with rfl | hy
  ·refine ⟨n.rep,fun hf=>?_,fun c hc=>?_⟩
   ·obtain ⟨e0,a,L',e1,e2,e3,e4⟩:=n.own hf
    exact ⟨e0,a,L',e1,e2,e3,fun _=>.inl (w.h0none e4)⟩
   ·rcases n.sub c hc with h | h
    ·exact .inl (w.h0none h)
    ·exact (hk c h).2
  ·exact w'.okT y hy
 ·intro i z e y hy
  rcases AS.mp hy with rfl | hy
  ·exact a1 z (w.okS i z e) fun c hc=>(hk c hc).1.1 i z e
  ·exact w'.st i z e y hy
 ·refine List.pairwise_cons.mpr ⟨fun y hy=>(a1 y (w.okT y hy) fun c hc=>(hk c hc).1.2 y hy).symm,w'.tt⟩
 ·rcases AS.mp hy with h | hy
  ·subst h
   obtain ⟨e0,a',L',e1,e2,e3,e4⟩:=n.own hf
   rw [ea] at e1
   cases e1
   exact w.ornone e4
  ·exact w'.fx.frT y hy hf a ea
noncomputable def dU (ys:List It3) (c:Addr):Prop:=∃ y ∈ ys,c ∈ y.L/\(y.f ≠ .z->y.v ≠ .ref c)
theorem Wf.kids (w:Wf K G H σ ρ T g) {ys:List It3} (hy:∀ y ∈ ys,Itm T g y) {c:Addr} (h:dU ys c):dG T g c/\(G.H0 c=none\/G.src c):=by
 obtain ⟨y,m,hc,hn⟩:=h
 exact ⟨w.kid (hy y m) hc hn,(w.itm (hy y m)).src c hc⟩
structure Arg (K:FG) (H:Hp) (p:It3):Prop where
 rep:Rep K H p.d p.v p.L
 own:p.f ≠ .z->iS p.d=true/\∃ a L',p.v=.ref a/\p.L=a :: L'/\a ∉ L'
theorem ItOk.arg (h:ItOk K G H x):Arg K H x:=⟨h.rep,fun hf=>by
 obtain ⟨m,a,L',v1,v2,v3,_⟩:=h.own hf
 exact ⟨m,a,L',v1,v2,v3⟩⟩
end
end L3
end
section
namespace L3
open PySem L2
inductive R3 where
 | pl (i:Nat) | val (d:D) (f:Fl)
noncomputable abbrev M3 (α:Type):=Sto->Option (Except D α × Sto)
noncomputable abbrev EM:=M3 R3
noncomputable def ak {α β:Type} (m:M3 α) (k:α->M3 β):M3 β:=fun ρ=>match m ρ with
 | none=>none
 | some (.error e,ρ')=>some (.error e,ρ')
 | some (.ok a,ρ')=>k a ρ'
noncomputable def bU {α:Type} (a:α):M3 α:=fun ρ=>some (.ok a,ρ)
noncomputable def bZ {α:Type} (o:Option α):M3 α:=fun ρ=>o.map fun a=>(.ok a,ρ)
noncomputable def der (r:R3):M3 D:=fun ρ=>match r with
 | .pl i=>((ρ[i]?).join).map fun p=>(.ok p.1,ρ)
 | .val d _=>some (.ok d,ρ)
inductive Ar (σ:St):R3->V->List It3->Prop where
 | pl {i:Nat} {v:V}:σ[i]?=some (some v)->Ar σ (.pl i) v []
 | val (x:It3):Ar σ (.val x.d x.f) x.v [x]
noncomputable def Got (K:FG) (G:Gm) (σ:St) (ρ:Sto) (T:List It3) (r:R3) (v:V) (H:Hp):Prop:=∃ Ts g,Wf K G H σ ρ (Ts ++ T) g/\Ar σ r v Ts
noncomputable def tE (K:FG) (G0:Gm) (W0:D->Sto->Prop) (m:EM):TE:=fun σ H Q=>∃ G W,Le K G W G0 W0/\∃ ρ T g r ρ',Wf K G H σ ρ T g/\m ρ=some (r,ρ')/\match r with
 | .ok r=>∀ v H',Got K G σ ρ' T r v H'->Q v H'
 | .error e=>W e ρ'
noncomputable def tT (K:FG) (G0:Gm) (W0:D->Sto->Prop) (m:M3 Bool):TT:=fun σ H Q=>∃ G W,Le K G W G0 W0/\∃ ρ T g r ρ',Wf K G H σ ρ T g/\m ρ=some (r,ρ')/\match r with
 | .ok b=>∀ H' g',Wf K G H' σ ρ' T g'->Q b H'
 | .error e=>W e ρ'
inductive Ars (σ:St):List R3->List V->List It3->Prop where
 | nil:Ars σ [] [] []
 | cons {r v Ts rs vs Us}:Ar σ r v Ts->Ars σ rs vs Us->Ars σ (r :: rs) (v :: vs) (Us ++ Ts)
noncomputable def tA (K:FG) (G0:Gm) (W0:D->Sto->Prop) (m:M3 (List R3)):TA:=fun σ H Q=>∃ G W,Le K G W G0 W0/\∃ ρ T g r ρ',Wf K G H σ ρ T g/\m ρ=some (r,ρ')/\match r with
 | .ok rs=>∀ vs H' Ts g',Wf K G H' σ ρ' (Ts ++ T) g'->Ars σ rs vs Ts->Q vs H'
 | .error e=>W e ρ'
inductive Flw where
 | nx | br | ct | rt (d:D) (f:Fl)
noncomputable abbrev SM:=M3 Flw
noncomputable def tS (K:FG) (G0:Gm) (W0:D->Sto->Prop) (m:SM):TS:=fun E σ H=>∃ G W,Le K G W G0 W0/\∃ ρ T g r ρ',Wf K G H σ ρ T g/\m ρ=some (r,ρ')/\match r with
 | .ok .nx=>∀ σ' H' g',Wf K G H' σ' ρ' T g'->E.nx σ' H'
 | .ok .br=>∀ σ' H' g',Wf K G H' σ' ρ' T g'->E.bk σ' H'
 | .ok .ct=>∀ σ' H' g',Wf K G H' σ' ρ' T g'->E.ct σ' H'
 | .ok (.rt d f)=>∀ x σ' H' g',Wf K G H' σ' ρ' (x :: T) g'->x.d=d->x.f=f->E.rt x.v H'
 | .error e=>W e ρ'
section
variable {K:FG} {G G0:Gm} {W W0:D->Sto->Prop} {H H':Hp} {σ:St} {ρ ρ':Sto} {T T':List It3} {g:Nat->Option It3} {x y z:It3} {α β:Type}
theorem bp {r:R3} {k:D->M3 β} {o:Except D β} (e:ak (der r) k ρ=some (o,ρ')):∃ d,der r ρ=some (.ok d,ρ)/\k d ρ=some (o,ρ'):=by
 cases r with
 | pl i =>
  have er:der (.pl i) ρ=((ρ[i]?).join).map fun p=>(.ok p.1,ρ):=rfl
  unfold ak at e
  rw [er] at e ⊢
  cases h:(ρ[i]?).join with
  | none=>rw [h] at e;exact nsE e
  | some p=>rw [h] at e;exact ⟨p.1,rfl,e⟩
 | val d f=>exact ⟨d,rfl,e⟩
theorem b9 {o:Option α} {r:Except D α} (e:bZ o ρ=some (r,ρ')):∃ a,o=some a/\r=.ok a/\ρ' = ρ:=by
 unfold bZ at e
 cases o with
 | none=>exact nsE e
 | some a=>cases e;exact ⟨a,rfl,rfl,rfl⟩
theorem Wf.slot (w:Wf K G H σ ρ T g) {i:Nat} {d:D} {f:Fl} (e:(ρ[i]?).join=some (d,f)):∃ y,g i=some y/\y.d=d/\y.f=f/\σ[i]?=some (some y.v):=by
 have h:=w.sl i
 rw [e] at h
 cases q:g i with
 | none=>rw [q] at h;exact nsE h
 | some y =>
  rw [q] at h
  cases h
  exact ⟨y,rfl,rfl,rfl,w.sv i y q⟩
theorem Ar.item {r:R3} {v:V} {Ts:List It3} {d:D} (w:Wf K G H σ ρ T g) (a:Ar σ r v Ts) (hs:∀ x ∈ Ts,x ∈ T) (e:der r ρ=some (.ok d,ρ)):∃ y,Itm T g y/\y.d=d/\y.v=v:=by
 cases a with
 | @pl i v h =>
  have er:der (.pl i) ρ=((ρ[i]?).join).map fun p=>(.ok p.1,ρ):=rfl
  rw [er] at e
  cases q:(ρ[i]?).join with
  | none=>rw [q] at e;exact nsE e
  | some p =>
   rw [q] at e
   obtain ⟨y,e1,e2,e3,e4⟩:=w.slot (d:=p.1) (f:=p.2) q
   have e5:p.1=d:=by cases e;rfl
   rw [h] at e4
   refine ⟨y,.inl ⟨i,e1⟩,e2.trans e5,?_⟩
   cases e4;rfl
 | val x=>cases e;exact ⟨x,.inr (hs x (by simp)),rfl,rfl⟩
theorem Wf.done {Us:List It3} {ys:List It3} (w:Wf K G H σ ρ (Us ++ T) g) (hy:∀ y ∈ ys,Itm (Us ++ T) g y) (n:New K H H' (dU ys) x):Got K G σ ρ T (.val x.d x.f) x.v H' :=
 ⟨[x],g,(w.push n fun c h=>w.kids hy h).sub (by simpa using List.Sublist.cons_cons x (A0 Us T)),.val x⟩
theorem tE.seq {ma:EM} {k:R3->M3 β} {r:Except D β} {P:VK} (le:Le K G W G0 W0) (w:Wf K G H σ ρ T g) (e:ak ma k ρ=some (r,ρ')) (he:∀ x,r=.error x->W x ρ')
  (h:∀ ra ρ1,k ra ρ1=some (r,ρ')->∀ v H1,Got K G σ ρ1 T ra v H1->P v H1):tE K G0 W0 ma σ H P:=by
 unfold ak at e
 cases q:ma ρ with
 | none=>rw [q] at e;exact nsE e
 | some p =>
  obtain ⟨o,ρ1⟩:=p
  rw [q] at e
  cases o with
  | error x=>cases e;exact ⟨G,W,le,ρ,T,g,.error x,ρ',w,q,he x rfl⟩
  | ok ra=>exact ⟨G,W,le,ρ,T,g,.ok ra,ρ1,w,q,h ra ρ1 e⟩
theorem tT.seq {ma:M3 Bool} {k:Bool->M3 β} {r:Except D β} {P:Bool->Hp->Prop} (le:Le K G W G0 W0) (w:Wf K G H σ ρ T g) (e:ak ma k ρ=some (r,ρ')) (he:∀ x,r=.error x->W x ρ')
  (h:∀ b ρ1,k b ρ1=some (r,ρ')->∀ H1 g1,Wf K G H1 σ ρ1 T g1->P b H1):tT K G0 W0 ma σ H P:=by
 unfold ak at e
 cases q:ma ρ with
 | none=>rw [q] at e;exact nsE e
 | some p =>
  obtain ⟨o,ρ1⟩:=p
  rw [q] at e
  cases o with
  | error x=>cases e;exact ⟨G,W,le,ρ,T,g,.error x,ρ',w,q,he x rfl⟩
  | ok ra=>exact ⟨G,W,le,ρ,T,g,.ok ra,ρ1,w,q,h ra ρ1 e⟩
theorem tA.seq {ma:M3 (List R3)} {k:List R3->M3 β} {r:Except D β} {P:List V->Hp->Prop} (le:Le K G W G0 W0) (w:Wf K G H σ ρ T g) (e:ak ma k ρ=some (r,ρ')) (he:∀ x,r=.error x->W x ρ')
  (h:∀ rs ρ1,k rs ρ1=some (r,ρ')->∀ vs H1 Ts g1,Wf K G H1 σ ρ1 (Ts ++ T) g1->Ars σ rs vs Ts->P vs H1):tA K G0 W0 ma σ H P:=by
 unfold ak at e
 cases q:ma ρ with
 | none=>rw [q] at e;exact nsE e
 | some p =>
  obtain ⟨o,ρ1⟩:=p
  rw [q] at e
  cases o with
  | error x=>cases e;exact ⟨G,W,le,ρ,T,g,.error x,ρ',w,q,he x rfl⟩
  | ok ra=>exact ⟨G,W,le,ρ,T,g,.ok ra,ρ1,w,q,h ra ρ1 e⟩
noncomputable def EndE (K:FG) (G:Gm) (W:D->Sto->Prop) (σ:St) (T:List It3) (ρ':Sto) (Q:VK):Except D R3->Prop
 | .ok r=>∀ v H',Got K G σ ρ' T r v H'->Q v H'
 | .error e=>W e ρ'
theorem EndE.err {Q:VK} {r:Except D R3} (h:EndE K G W σ T ρ' Q r):∀ x,r=.error x->W x ρ':=by
 intro x e;subst e;exact h
theorem tE.open {m:EM} {Q:VK} (h:tE K G0 W0 m σ H Q):∃ G W,Le K G W G0 W0/\∃ ρ T g r ρ',Wf K G H σ ρ T g/\m ρ=some (r,ρ')/\EndE K G W σ T ρ' Q r:=by
 obtain ⟨G,W,le,ρ,T,g,r,ρ',w,e,q⟩:=h
 refine ⟨G,W,le,ρ,T,g,r,ρ',w,e,?_⟩
 cases r with
 | ok r=>exact q
 | error x=>exact q
theorem tE.use {m:EM} {Q:VK} (h:tE K G0 W0 m σ H Q) {P:Prop} (k:∀ G W,Le K G W G0 W0->∀ ρ T g r ρ',Wf K G H σ ρ T g->m ρ=some (r,ρ')->EndE K G W σ T ρ' Q r->P):P:=by
 obtain ⟨G,W,le,ρ,T,g,r,ρ',w,e,q⟩:=h.open
 exact k G W le ρ T g r ρ' w e q
theorem tE.mk {m:EM} {Q:VK} {r:Except D R3} (le:Le K G W G0 W0) (w:Wf K G H σ ρ T g) (e:m ρ=some (r,ρ')) (h:EndE K G W σ T ρ' Q r):tE K G0 W0 m σ H Q:=by
 refine ⟨G,W,le,ρ,T,g,r,ρ',w,e,?_⟩
 cases r with
 | ok r=>exact h
 | error x=>exact h
noncomputable def ag (i:Nat):EM:=fun ρ=>((ρ[i]?).join).map fun _=>(.ok (.pl i),ρ)
theorem zh {i:Nat} {Q:VK} (h:tE K G0 W0 (ag i) σ H Q):sK i σ H Q:=by
 refine h.use fun G W le ρ T g r ρ' w e q=>?_
 unfold ag at e
 cases h:(ρ[i]?).join with
 | none=>rw [h] at e;exact nsE e
 | some p =>
  rw [h] at e
  cases e
  obtain ⟨y,_,_,_,e4⟩:=w.slot (d:=p.1) (f:=p.2) h
  exact ⟨y.v,e4,q y.v H ⟨[],g,w,.pl e4⟩⟩
noncomputable def mC (d:D):EM:=bU (.val d .z)
theorem Wf.const {d:D} {v:V} (w:Wf K G H σ ρ T g) (r:Rep K H d v []):Got K G σ ρ T (.val d .z) v H :=
 Wf.done (Us:=[]) (ys:=[]) (x:=⟨d,v,[],.z⟩) w (fun _ h=>(by cases h)) ⟨Same.refl _,r,fun _ h=>(by cases h),fun h=>absurd rfl h⟩
theorem fP {d:D} {v:V} {Q:VK} (r:∀ H,Rep K H d v []) (h:tE K G0 W0 (mC d) σ H Q):tC v σ H Q:=by
 refine h.use fun G W le ρ T g o ρ' w e q=>?_
 cases e
 exact q v H (w.const (r H))
noncomputable def ao (f:D->D->Option (D × Fl)) (ma mb:EM):EM:=ak ma fun ra=>ak mb fun rb=>ak (der ra) fun da=>ak (der rb) fun db=>bZ ((f da db).map fun p=>R3.val p.1 p.2)
noncomputable def OpD (K:FG) (r:R2) (f:D->D->Option (D × Fl)):Prop:=∀ (a b:It3) (H:Hp) (Q:VK) (p:D × Fl),Arg K H a->Arg K H b->f a.d b.d=some p ->
 (∀ w H',New K H H' (dU [a,b]) w->w.d=p.1->w.f=p.2->Q w.v H')->r a.v b.v H Q
theorem pY {Us:List It3} {ys:List It3} {Q:VK} {d:D} {f:Fl} (w:Wf K G H σ ρ (Us ++ T) g) (hy:∀ y ∈ ys,Itm (Us ++ T) g y) (q:EndE K G W σ T ρ Q (.ok (.val d f))) :
  ∀ w' H',New K H H' (dU ys) w'->w'.d=d->w'.f=f->Q w'.v H':=by
 intro w' H' n e1 e2
 subst e1 e2
 exact q w'.v H' (w.done hy n)
theorem kI {r:R2} {f:D->D->Option (D × Fl)} {ma mb:EM} {Q:VK} (ho:OpD K r f) (h:tE K G0 W0 (ao f ma mb) σ H Q):tOp r (tE K G0 W0 ma) (tE K G0 W0 mb) σ H Q:=by
 refine h.use fun G W le ρ T g o ρ' w e q=>?_
 refine tE.seq le w e q.err fun ra ρ1 e1 va H1 ⟨Ts,g1,w1,a1⟩=>?_
 refine tE.seq le w1 e1 q.err fun rb ρ2 e2 vb H2 ⟨Us,g2,w2,a2⟩=>?_
 obtain ⟨da,d1,e3⟩:=bp e2
 obtain ⟨db,d2,e4⟩:=bp e3
 obtain ⟨p,e5,rfl,rfl⟩:=b9 e4
 obtain ⟨ya,i1,f1,f2⟩:=a1.item w2 (fun x hx=>AR _ (AQ _ hx)) d1
 obtain ⟨yb,i2,f3,f4⟩:=a2.item w2 (fun x hx=>AQ _ hx) d2
 subst f1 f2 f3 f4
 cases ef:f ya.d yb.d with
 | none=>rw [ef] at e5;exact nsE e5
 | some s =>
  rw [ef] at e5
  cases e5
  rw [<- List.append_assoc] at w2 i1 i2
  refine ho ya yb H2 Q s (w2.itm i1).arg (w2.itm i2).arg ef (pY w2 (fun y hy=>?_) q)
  rcases AS.mp hy with h | hy
  ·rw [h];exact i1
  ·rw [Bi.mp hy];exact i2
noncomputable def mUn (f:D->Option (D × Fl)) (ma:EM):EM:=ak ma fun ra=>ak (der ra) fun da=>bZ ((f da).map fun p=>R3.val p.1 p.2)
noncomputable def UnD (K:FG) (r:V->Hp->VK->Prop) (f:D->Option (D × Fl)):Prop:=∀ (a:It3) (H:Hp) (Q:VK) (p:D × Fl),Arg K H a->f a.d=some p ->
 (∀ w H',New K H H' (dU [a]) w->w.d=p.1->w.f=p.2->Q w.v H')->r a.v H Q
theorem uR {r:V->Hp->VK->Prop} {f:D->Option (D × Fl)} {ma:EM} {Q:VK} (ho:UnD K r f) (h:tE K G0 W0 (mUn f ma) σ H Q):tUn r (tE K G0 W0 ma) σ H Q:=by
 refine h.use fun G W le ρ T g o ρ' w e q=>?_
 refine tE.seq le w e q.err fun ra ρ1 e1 va H1 ⟨Ts,g1,w1,a1⟩=>?_
 obtain ⟨da,d1,e3⟩:=bp e1
 obtain ⟨p,e5,rfl,rfl⟩:=b9 e3
 obtain ⟨ya,i1,f1,f2⟩:=a1.item w1 (fun x hx=>AQ _ hx) d1
 subst f1 f2
 cases ef:f ya.d with
 | none=>rw [ef] at e5;exact nsE e5
 | some s =>
  rw [ef] at e5
  cases e5
  exact ho ya H1 Q s (w1.itm i1).arg ef (pY w1 (fun y hy=>by rw [Bi.mp hy];exact i1) q)
noncomputable def ai:M3 (List R3):=bU []
noncomputable def ac (m:EM) (ms:M3 (List R3)):M3 (List R3):=ak m fun r=>ak ms fun rs=>bU (r :: rs)
noncomputable def EndA (K:FG) (G:Gm) (W:D->Sto->Prop) (σ:St) (T:List It3) (ρ':Sto) (Q:List V->Hp->Prop):Except D (List R3)->Prop
 | .ok rs=>∀ vs H' Ts g',Wf K G H' σ ρ' (Ts ++ T) g'->Ars σ rs vs Ts->Q vs H'
 | .error e=>W e ρ'
theorem EndA.err {Q:List V->Hp->Prop} {r:Except D (List R3)} (h:EndA K G W σ T ρ' Q r):∀ x,r=.error x->W x ρ':=by
 intro x e;subst e;exact h
theorem tA.open {m:M3 (List R3)} {Q:List V->Hp->Prop} (h:tA K G0 W0 m σ H Q):∃ G W,Le K G W G0 W0/\∃ ρ T g r ρ',Wf K G H σ ρ T g/\m ρ=some (r,ρ')/\EndA K G W σ T ρ' Q r:=by
 obtain ⟨G,W,le,ρ,T,g,r,ρ',w,e,q⟩:=h
 refine ⟨G,W,le,ρ,T,g,r,ρ',w,e,?_⟩
 cases r with
 | ok r=>exact q
 | error x=>exact q
theorem tA.use {m:M3 (List R3)} {Q:List V->Hp->Prop} (h:tA K G0 W0 m σ H Q) {P:Prop} (k:∀ G W,Le K G W G0 W0->∀ ρ T g r ρ',Wf K G H σ ρ T g->m ρ=some (r,ρ')->EndA K G W σ T ρ' Q r->P):P:=by
 obtain ⟨G,W,le,ρ,T,g,r,ρ',w,e,q⟩:=h.open
 exact k G W le ρ T g r ρ' w e q
theorem uU {Q:List V->Hp->Prop} (h:tA K G0 W0 ai σ H Q):wO σ H Q:=by
 refine h.use fun G W le ρ T g r ρ' w e q=>?_
 cases e
 exact q [] H [] g w .nil
theorem rD {m:EM} {ms:M3 (List R3)} {Q:List V->Hp->Prop} (h:tA K G0 W0 (ac m ms) σ H Q):oP (tE K G0 W0 m) (tA K G0 W0 ms) σ H Q:=by
 refine h.use fun G W le ρ T g r ρ' w e q=>?_
 refine tE.seq le w e q.err fun ra ρ1 e1 va H1 ⟨Ts,g1,w1,a1⟩=>?_
 refine tA.seq le w1 e1 q.err fun rs ρ2 e2 vs H2 Us g2 w2 a2=>?_
 cases e2
 refine q (va :: vs) H2 (Us ++ Ts) g2 ?_ (.cons a1 a2)
 rw [List.append_assoc]
 exact w2
noncomputable def fv:List R3->M3 (List D)
 | []=>bU []
 | r :: rs=>ak (der r) fun d=>ak (fv rs) fun ds=>bU (d :: ds)
theorem sg:∀ {rs:List R3} {ρ ρ':Sto} {o:Except D (List D)},fv rs ρ=some (o,ρ')->∃ ds,o=.ok ds/\ρ' = ρ
 | [],ρ,ρ',o,e=>by cases e;exact ⟨[],rfl,rfl⟩
 | r :: rs,ρ,ρ',o,e=>by
  obtain ⟨d,e1,e2⟩:=bp (k:=fun d=>ak (fv rs) fun ds=>bU (d :: ds)) e
  unfold ak at e2
  cases q:fv rs ρ with
  | none=>rw [q] at e2;exact nsE e2
  | some p =>
   obtain ⟨o',ρ1⟩:=p
   obtain ⟨ds,rfl,rfl⟩:=sg q
   rw [q] at e2
   cases e2
   exact ⟨d :: ds,rfl,rfl⟩
theorem c8 {rs:List R3} {k:List D->M3 β} {o:Except D β} (e:ak (fv rs) k ρ=some (o,ρ')):∃ ds,fv rs ρ=some (.ok ds,ρ)/\k ds ρ=some (o,ρ'):=by
 unfold ak at e
 cases q:fv rs ρ with
 | none=>rw [q] at e;exact nsE e
 | some p =>
  obtain ⟨o',ρ1⟩:=p
  obtain ⟨ds,rfl,rfl⟩:=sg q
  rw [q] at e
  exact ⟨ds,rfl,e⟩
theorem Ars.items:∀ {rs:List R3} {vs:List V} {Ts:List It3} {ds:List D} ,Wf K G H σ ρ T g->Ars σ rs vs Ts->(∀ x ∈ Ts,x ∈ T)->fv rs ρ=some (.ok ds,ρ)->∃ ys:List It3,(∀ y ∈ ys,Itm T g y)/\ys.map (·.d)=ds/\ys.map (·.v)=vs
 | [],_,_,ds,w,.nil,_,e=>by cases e;exact ⟨[],fun _ h=>(by cases h),rfl,rfl⟩
 | r :: rs,_,_,ds,w,.cons a as,hs,e=>by
  obtain ⟨d,e1,e2⟩:=bp (k:=fun d=>ak (fv rs) fun ds=>bU (d :: ds)) e
  obtain ⟨ds',e3,e4⟩:=c8 e2
  cases e4
  obtain ⟨y,i1,f1,f2⟩:=a.item w (fun x hx=>hs x (AR _ hx)) e1
  obtain ⟨ys,i2,f3,f4⟩:=Ars.items w as (fun x hx=>hs x (AQ _ hx)) e3
  refine ⟨y :: ys,fun z hz=>?_,by simp [f1,f3],by simp [f2,f4]⟩
  rcases AS.mp hz with h | hz
  ·rw [h];exact i1
  ·exact i2 z hz
noncomputable def aG (f:List D->Option (D × Fl)) (ms:M3 (List R3)):EM:=ak ms fun rs=>ak (fv rs) fun ds=>bZ ((f ds).map fun p=>R3.val p.1 p.2)
noncomputable def eW (K:FG) (r:List V->Hp->VK->Prop) (f:List D->Option (D × Fl)):Prop:=∀ (ys:List It3) (H:Hp) (Q:VK) (p:D × Fl),(∀ y ∈ ys,Arg K H y)->f (ys.map (·.d))=some p ->
 (∀ w H',New K H H' (dU ys) w->w.d=p.1->w.f=p.2->Q w.v H')->r (ys.map (·.v)) H Q
theorem ig {r:List V->Hp->VK->Prop} {f:List D->Option (D × Fl)} {ms:M3 (List R3)} {Q:VK} (ho:eW K r f) (h:tE K G0 W0 (aG f ms) σ H Q):tCB r (tA K G0 W0 ms) σ H Q:=by
 refine h.use fun G W le ρ T g o ρ' w e q=>?_
 refine tA.seq le w e q.err fun rs ρ1 e1 vs H1 Ts g1 w1 a1=>?_
 obtain ⟨ds,d1,e2⟩:=c8 e1
 obtain ⟨p,e5,rfl,rfl⟩:=b9 e2
 obtain ⟨ys,i1,f1,f2⟩:=a1.items w1 (fun x hx=>AQ _ hx) d1
 subst f1 f2
 cases ef:f (ys.map (·.d)) with
 | none=>rw [ef] at e5;exact nsE e5
 | some s =>
  rw [ef] at e5
  cases e5
  exact ho ys H1 Q s (fun y hy=>(w1.itm (i1 y hy)).arg) ef (pY w1 i1 q)
noncomputable def asB:D->Option Bool
 | .bl b=>some b
 | _=>none
noncomputable def l6 (ma mb:EM):EM:=ak ma fun ra=>ak (der ra) fun d=>ak (bZ (asB d)) fun b=>if b then mb else bU (.val (.bl false) .z)
noncomputable def mOr (ma mb:EM):EM:=ak ma fun ra=>ak (der ra) fun d=>ak (bZ (asB d)) fun b=>if b then bU (.val (.bl true) .z) else mb
noncomputable def Ah (ma:EM):EM:=ak ma fun ra=>ak (der ra) fun d=>ak (bZ (asB d)) fun b=>bU (.val (.bl (!b)) .z)
theorem gp {o:Option α} {k:α->M3 β} {r:Except D β} (e:ak (bZ o) k ρ=some (r,ρ')):∃ a,o=some a/\k a ρ=some (r,ρ'):=by
 unfold ak bZ at e
 cases o with
 | none=>exact nsE e
 | some a=>exact ⟨a,rfl,e⟩
theorem wy {d:D} {b:Bool} (e:asB d=some b):d=.bl b:=by
 cases d <;> first | exact nsE e | cases e
 rfl
theorem Rep.bl_eq {b:Bool} {v:V} {L:List Addr} (r:Rep K H (.bl b) v L):v=.bl b/\L=[]:=by cases r;exact ⟨rfl,rfl⟩
theorem Ar.bool {ra:R3} {v:V} {Ts:List It3} {d:D} {b:Bool} (w:Wf K G H σ ρ (Ts ++ T) g) (a:Ar σ ra v Ts) (e:der ra ρ=some (.ok d,ρ)) (hb:asB d=some b):v=.bl b:=by
 obtain ⟨y,i1,f1,f2⟩:=a.item w (fun x hx=>AQ _ hx) e
 have r:=(w.itm i1).rep
 rw [f1,wy hb] at r
 rw [<- f2]
 exact r.bl_eq.1
theorem zn {ma mb:EM} {Q:VK} (h:tE K G0 W0 (l6 ma mb) σ H Q):yq (tE K G0 W0 ma) (tE K G0 W0 mb) σ H Q:=by
 refine h.use fun G W le ρ T g o ρ' w e q=>?_
 refine tE.seq le w e q.err fun ra ρ1 e1 va H1 ⟨Ts,g1,w1,a1⟩=>?_
 obtain ⟨d,d1,e2⟩:=bp e1
 obtain ⟨b,hb,e3⟩:=gp e2
 refine ⟨b,a1.bool w1 d1 hb,?_⟩
 have w2:=w1.sub (A0 Ts T)
 cases b with
 | true=>exact tE.mk le w2 e3 q
 | false=>cases e3;exact q _ _ (w2.const (.bl false))
theorem tE_or {ma mb:EM} {Q:VK} (h:tE K G0 W0 (mOr ma mb) σ H Q):tOrV (tE K G0 W0 ma) (tE K G0 W0 mb) σ H Q:=by
 refine h.use fun G W le ρ T g o ρ' w e q=>?_
 refine tE.seq le w e q.err fun ra ρ1 e1 va H1 ⟨Ts,g1,w1,a1⟩=>?_
 obtain ⟨d,d1,e2⟩:=bp e1
 obtain ⟨b,hb,e3⟩:=gp e2
 refine ⟨b,a1.bool w1 d1 hb,?_⟩
 have w2:=w1.sub (A0 Ts T)
 cases b with
 | false=>exact tE.mk le w2 e3 q
 | true=>cases e3;exact q _ _ (w2.const (.bl true))
theorem zj {ma:EM} {Q:VK} (h:tE K G0 W0 (Ah ma) σ H Q):ym (tE K G0 W0 ma) σ H Q:=by
 refine h.use fun G W le ρ T g o ρ' w e q=>?_
 refine tE.seq le w e q.err fun ra ρ1 e1 va H1 ⟨Ts,g1,w1,a1⟩=>?_
 obtain ⟨d,d1,e2⟩:=bp e1
 obtain ⟨b,hb,e3⟩:=gp e2
 refine ⟨b,a1.bool w1 d1 hb,?_⟩
 have w2:=w1.sub (A0 Ts T)
 cases e3;exact q _ _ (w2.const (.bl (!b)))
noncomputable def EndT (K:FG) (G:Gm) (W:D->Sto->Prop) (σ:St) (T:List It3) (ρ':Sto) (Q:Bool->Hp->Prop):Except D Bool->Prop
 | .ok b=>∀ H' g',Wf K G H' σ ρ' T g'->Q b H'
 | .error e=>W e ρ'
theorem EndT.err {Q:Bool->Hp->Prop} {r:Except D Bool} (h:EndT K G W σ T ρ' Q r):∀ x,r=.error x->W x ρ':=by
 intro x e;subst e;exact h
theorem tT.open {m:M3 Bool} {Q:Bool->Hp->Prop} (h:tT K G0 W0 m σ H Q):∃ G W,Le K G W G0 W0/\∃ ρ T g r ρ',Wf K G H σ ρ T g/\m ρ=some (r,ρ')/\EndT K G W σ T ρ' Q r:=by
 obtain ⟨G,W,le,ρ,T,g,r,ρ',w,e,q⟩:=h
 refine ⟨G,W,le,ρ,T,g,r,ρ',w,e,?_⟩
 cases r with
 | ok r=>exact q
 | error x=>exact q
theorem tT.use {m:M3 Bool} {Q:Bool->Hp->Prop} (h:tT K G0 W0 m σ H Q) {P:Prop} (k:∀ G W,Le K G W G0 W0->∀ ρ T g r ρ',Wf K G H σ ρ T g->m ρ=some (r,ρ')->EndT K G W σ T ρ' Q r->P):P:=by
 obtain ⟨G,W,le,ρ,T,g,r,ρ',w,e,q⟩:=h.open
 exact k G W le ρ T g r ρ' w e q
theorem tT.mk {m:M3 Bool} {Q:Bool->Hp->Prop} {r:Except D Bool} (le:Le K G W G0 W0) (w:Wf K G H σ ρ T g) (e:m ρ=some (r,ρ')) (h:EndT K G W σ T ρ' Q r):tT K G0 W0 m σ H Q:=by
 refine ⟨G,W,le,ρ,T,g,r,ρ',w,e,?_⟩
 cases r with
 | ok r=>exact h
 | error x=>exact h
noncomputable def cB (m:EM):M3 Bool:=ak m fun r=>ak (der r) fun d=>bZ (asB d)
theorem y6 {m:EM} {Q:Bool->Hp->Prop} (h:tT K G0 W0 (cB m) σ H Q):tB (tE K G0 W0 m) σ H Q:=by
 refine h.use fun G W le ρ T g o ρ' w e q=>?_
 refine tE.seq le w e q.err fun ra ρ1 e1 va H1 ⟨Ts,g1,w1,a1⟩=>?_
 obtain ⟨d,d1,e2⟩:=bp e1
 obtain ⟨b,hb,rfl,rfl⟩:=b9 e2
 exact ⟨b,a1.bool w1 d1 hb,q _ _ (w1.sub (A0 Ts T))⟩
noncomputable def Az (a b:M3 Bool):M3 Bool:=ak a fun c=>if c then b else bU false
noncomputable def cOr (a b:M3 Bool):M3 Bool:=ak a fun c=>if c then bU true else b
noncomputable def gY (a:M3 Bool):M3 Bool:=ak a fun c=>bU (!c)
theorem y7 {a b:M3 Bool} {Q:Bool->Hp->Prop} (h:tT K G0 W0 (Az a b) σ H Q):tAnd (tT K G0 W0 a) (tT K G0 W0 b) σ H Q:=by
 refine h.use fun G W le ρ T g o ρ' w e q=>?_
 refine tT.seq le w e q.err fun c ρ1 e1 H1 g1 w1=>?_
 cases c with
 | true=>exact tT.mk le w1 e1 q
 | false=>cases e1;exact q _ _ w1
theorem tT_or {a b:M3 Bool} {Q:Bool->Hp->Prop} (h:tT K G0 W0 (cOr a b) σ H Q):tOr (tT K G0 W0 a) (tT K G0 W0 b) σ H Q:=by
 refine h.use fun G W le ρ T g o ρ' w e q=>?_
 refine tT.seq le w e q.err fun c ρ1 e1 H1 g1 w1=>?_
 cases c with
 | false=>exact tT.mk le w1 e1 q
 | true=>cases e1;exact q _ _ w1
theorem yZ {a:M3 Bool} {Q:Bool->Hp->Prop} (h:tT K G0 W0 (gY a) σ H Q):tNot (tT K G0 W0 a) σ H Q:=by
 refine h.use fun G W le ρ T g o ρ' w e q=>?_
 refine tT.seq le w e q.err fun c ρ1 e1 H1 g1 w1=>?_
 cases e1;exact q _ _ w1
noncomputable def mIf (c:M3 Bool) (ma mb:EM):EM:=ak c fun b=>if b then ma else mb
theorem tE_if {c:M3 Bool} {ma mb:EM} {Q:VK} (h:tE K G0 W0 (mIf c ma mb) σ H Q):tIf (tT K G0 W0 c) (tE K G0 W0 ma) (tE K G0 W0 mb) σ H Q:=by
 refine h.use fun G W le ρ T g o ρ' w e q=>?_
 refine tT.seq le w e q.err fun c ρ1 e1 H1 g1 w1=>?_
 cases c with
 | true=>exact tE.mk le w1 e1 q
 | false=>exact tE.mk le w1 e1 q
end
end L3
end
section
namespace L3
open PySem L2
noncomputable def dq (x:It3):It3:={ x with f:=.z }
theorem cP {x y:It3}:NoRoot (dq x) y:=fun h=>absurd rfl h
noncomputable def lowAt (i:Nat) (ρ:Sto):Sto:=match (ρ[i]?).join with
 | some (d,.u)=>ρ.set i (some (d,.z))
 | some (d,.l)=>ρ.set i (some (d,.z))
 | _=>ρ
noncomputable def frz (is:List Nat) (ρ:Sto):Sto:=is.foldl (fun ρ i=>lowAt i ρ) ρ
noncomputable def frz3 (is:List Nat):M3 Unit:=fun ρ=>some (.ok (),frz is ρ)
noncomputable def pls:List R3->List Nat
 | []=>[]
 | .pl i :: rs=>i :: pls rs
 | .val _ _ :: rs=>pls rs
section
variable {K:FG} {G G0:Gm} {W W0:D->Sto->Prop} {H H':Hp} {σ:St} {ρ ρ':Sto} {T T':List It3} {g:Nat->Option It3} {x y z:It3} {α β:Type}
theorem ItOk.low (h:ItOk K G H x):ItOk K G H (dq x):=⟨h.rep,fun q=>absurd rfl q,h.src⟩
theorem cb {ρ:Sto} {i j:Nat} {o:Option (D × Fl)} (hi:i < ρ.length):((ρ.set i o)[j]?).join=if j=i then o else (ρ[j]?).join:=by
 by_cases e:j=i
 ·subst e
  rw [if_pos rfl,List.getElem?_set_self hi]
  rfl
 ·rw [if_neg e,List.getElem?_set_ne (fun h=>e h.symm)]
theorem dF {ρ:Sto} {i:Nat} {p:D × Fl} (h:(ρ[i]?).join=some p):i < ρ.length:=by
 cases q:ρ[i]? with
 | none=>rw [q] at h;exact nsE h
 | some o=>exact (AY.mp q).1
theorem Wf.lowSlot (w:Wf K G H σ ρ T g) {i:Nat} {d:D} {f:Fl} (e:(ρ[i]?).join=some (d,f)):Wf K G H σ (ρ.set i (some (d,.z))) T (fun j=>if j=i then (g i).map dq else g j):=by
 have hi:=dF e
 obtain ⟨y,gy,ed,ef,ev⟩:=w.slot e
 have val:∀ j x,(if j=i then (g i).map dq else g j)=some x->∃ x0,g j=some x0/\(x=x0\/x=dq x0)/\(j=i->x=dq x0):=fun j x h=>by
  by_cases q:j=i
  ·subst q
   rw [if_pos rfl,gy] at h
   cases h
   exact ⟨y,gy,.inr rfl,fun _=>rfl⟩
  ·rw [if_neg q] at h
   exact ⟨x,h,.inl rfl,fun z=>absurd z q⟩
 have nr:∀ {a b:It3},NoRoot a b->∀ a' b',(a'=a\/a'=dq a)->(b'=b\/b'=dq b)->NoRoot a' b':=fun h a' b' h1 h2=>by
  rcases h1 with rfl | rfl
  ·rcases h2 with rfl | rfl
   ·exact h
   ·exact h
  ·exact cP
 refine ⟨by rw [List.length_set];exact w.len,fun j=>?_,fun j x h=>?_,fun j x h=>?_,w.okT,fun j k a b n h1 h2=>?_,fun j a h b hb=>?_,w.tt,w.base,w.pro,⟨w.fx.frT,fun j x h hp hf a ea=>?_,w.fx.bin,w.fx.ob,fun j x h hl=>?_⟩⟩
 ·rw [cb hi]
  by_cases q:j=i
  ·subst q
   rw [if_pos rfl,if_pos rfl,gy]
   show some ((dq y).d,Fl.z)=_
   rw [<- ed];rfl
  ·rw [if_neg q,if_neg q];exact w.sl j
 ·obtain ⟨x0,h0,hx,_⟩:=val j x h
  have:=w.sv j x0 h0
  rcases hx with rfl | rfl <;> exact this
 ·obtain ⟨x0,h0,hx,_⟩:=val j x h
  rcases hx with rfl | rfl
  ·exact w.okS j x h0
  ·exact (w.okS j x0 h0).low
 ·obtain ⟨a0,h0,ha,_⟩:=val j a h1
  obtain ⟨b0,h0',hb,_⟩:=val k b h2
  exact nr (w.ss j k a0 b0 n h0 h0') a b ha hb
 ·obtain ⟨a0,h0,ha,_⟩:=val j a h
  exact ⟨nr (w.st j a0 h0 b hb).1 a b ha (.inl rfl),nr (w.st j a0 h0 b hb).2 b a (.inl rfl) ha⟩
 ·obtain ⟨x0,h0,hx,_⟩:=val j x h
  rcases hx with rfl | rfl
  ·exact w.fx.frS j x h0 hp hf a ea
  ·exact absurd rfl hf
 ·obtain ⟨x0,h0,hx,_⟩:=val j x h
  rcases hx with rfl | rfl
  ·exact w.fx.lvS j x h0 hl
  ·cases hl
noncomputable def Kin (x y:It3):Prop:=y.d=x.d/\y.v=x.v/\y.L=x.L/\(y.f=x.f\/y.f=.z)
theorem Kin.refl (x:It3):Kin x x:=⟨rfl,rfl,rfl,.inl rfl⟩
theorem Kin.trans (a:Kin x y) (b:Kin y z):Kin x z:=⟨b.1.trans a.1,b.2.1.trans a.2.1,b.2.2.1.trans a.2.2.1,by
 rcases b.2.2.2 with h | h
 ·rcases a.2.2.2 with h' | h'
  ·exact .inl (h.trans h')
  ·exact .inr (h.trans h')
 ·exact .inr h⟩
theorem Wf.lowAt {i:Nat} (w:Wf K G H σ ρ T g):∃ g',Wf K G H σ (lowAt i ρ) T g'/\(∀ j y,g j=some y->∃ y',g' j=some y'/\Kin y y'/\(j=i->y'.f=.z)):=by
 have keep:∀ d,(ρ[i]?).join=some (d,.z)->∃ g',Wf K G H σ ρ T g'/\(∀ j y,g j=some y->∃ y',g' j=some y'/\Kin y y'/\(j=i->y'.f=.z)):=fun d e=>⟨g,w,fun j y h=>⟨y,h,Kin.refl y,fun q=>by
  subst q
  obtain ⟨y',h',_,hf,_⟩:=w.slot e
  rw [h] at h';cases h';exact hf⟩⟩
 have low:∀ d f,(ρ[i]?).join=some (d,f)->∃ g',Wf K G H σ (ρ.set i (some (d,.z))) T g'/\(∀ j y,g j=some y->∃ y',g' j=some y'/\Kin y y'/\(j=i->y'.f=.z)):=fun d f e=>⟨_,w.lowSlot e,fun j y h=>by
  by_cases q:j=i
  ·subst q;exact ⟨dq y,by rw [if_pos rfl,h];rfl,⟨rfl,rfl,rfl,.inr rfl⟩,fun _=>rfl⟩
  ·exact ⟨y,by rw [if_neg q];exact h,Kin.refl y,fun z=>absurd z q⟩⟩
 unfold L3.lowAt
 cases e:(ρ[i]?).join with
 | none =>
  refine ⟨g,w,fun j y h=>⟨y,h,Kin.refl y,fun q=>?_⟩⟩
  subst q
  have:=w.sl j
  rw [h,e] at this;cases this
 | some p =>
  obtain ⟨d,f⟩:=p
  cases f with
  | u=>exact low d _ e
  | l=>exact low d _ e
  | z=>exact keep d e
theorem Wf.frz:∀ {is:List Nat} {ρ:Sto} {g:Nat->Option It3},Wf K G H σ ρ T g->∃ g',Wf K G H σ (frz is ρ) T g'/\(∀ j y,g j=some y->∃ y',g' j=some y'/\Kin y y'/\(j ∈ is->y'.f=.z))
 | [],ρ,g,w=>⟨g,w,fun j y h=>⟨y,h,Kin.refl y,fun q=>by cases q⟩⟩
 | i :: is,ρ,g,w=>by
  obtain ⟨g1,w1,h1⟩:=w.lowAt (i:=i)
  obtain ⟨g2,w2,h2⟩:=Wf.frz (is:=is) w1
  refine ⟨g2,w2,fun j y h=>?_⟩
  obtain ⟨y1,e1,k1,z1⟩:=h1 j y h
  obtain ⟨y2,e2,k2,z2⟩:=h2 j y1 e1
  refine ⟨y2,e2,k1.trans k2,fun hm=>?_⟩
  rcases AS.mp hm with q | q
  ·rcases k2.2.2.2 with h | h
   ·exact h.trans (z1 q)
   ·exact h
  ·exact z2 q
theorem Wf.lowT {Ts:List It3} (w:Wf K G H σ ρ (Ts ++ T) g):Wf K G H σ ρ (Ts.map dq ++ T) g:=by
 have sp:∀ {a b:It3},Apart3 a b->Apart3 (dq a) (dq b):=fun h=>⟨cP,cP⟩
 refine ⟨w.len,w.sl,w.sv,w.okS,fun x hx=>?_,w.ss,fun i x e y hy=>?_,?_,w.base,w.pro,⟨fun x hx hf a ea=>?_,w.fx.frS,w.fx.bin,w.fx.ob,w.fx.lvS⟩⟩
 ·rcases AV.mp hx with h | h
  ·obtain ⟨x0,h0,rfl⟩:=A2.mp h
   exact (w.okT x0 (AQ _ h0)).low
  ·exact w.okT x (AR _ h)
 ·rcases AV.mp hy with h | h
  ·obtain ⟨y0,h0,rfl⟩:=A2.mp h
   exact ⟨(w.st i x e y0 (AQ _ h0)).1,cP⟩
  ·exact w.st i x e y (AR _ h)
 ·have h:=List.pairwise_append.mp w.tt
  refine List.pairwise_append.mpr ⟨?_,h.2.1,fun a ha b hb=>?_⟩
  ·rw [List.pairwise_map]
   exact h.1.imp fun h=>sp h
  ·obtain ⟨a0,h0,rfl⟩:=A2.mp ha
   exact ⟨cP,(h.2.2 a0 h0 b hb).2⟩
 ·rcases AV.mp hx with h | h
  ·obtain ⟨x0,h0,rfl⟩:=A2.mp h
   exact absurd rfl hf
  ·exact w.fx.frT x (AR _ h) hf a ea
theorem kA:∀ {rs:List R3} {i:Nat},R3.pl i ∈ rs->i ∈ pls rs
 | [],_,h=>by cases h
 | .pl j :: rs,i,h=>by
  rcases AS.mp h with e | h
  ·cases e;exact AL
  ·exact AM _ (kA h)
 | .val _ _ :: rs,i,h=>by
  rcases AS.mp h with e | h
  ·cases e
  ·exact kA (rs:=rs) h
theorem Ars.given:∀ {rs:List R3} {vs:List V} {Ts:List It3} {ds:List D} {S:List It3} {g':Nat->Option It3} {is:List Nat},Wf K G H σ ρ T g->(∀ j y,g j=some y->∃ y',g' j=some y'/\Kin y y'/\(j ∈ is->y'.f=.z))->(∀ i,R3.pl i ∈ rs->i ∈ is) ->
  Ars σ rs vs Ts->(∀ x ∈ Ts,x ∈ T)->(∀ x ∈ Ts,dq x ∈ S)->fv rs ρ=some (.ok ds,ρ)->∃ ys:List It3,(∀ y ∈ ys,Itm S g' y/\y.f=.z)/\ys.map (·.d)=ds/\ys.map (·.v)=vs
 | [],_,_,ds,S,g',is,w,hg,hi,.nil,_,_,e=>by cases e;exact ⟨[],fun _ h=>(by cases h),rfl,rfl⟩
 | r :: rs,_,_,ds,S,g',is,w,hg,hi,.cons (v:=v0) a as,hs,hS,e=>by
  obtain ⟨d,e1,e2⟩:=bp (k:=fun d=>ak (fv rs) fun ds=>bU (d :: ds)) e
  obtain ⟨ds',e3,e4⟩:=c8 e2
  cases e4
  obtain ⟨ys,i2,f3,f4⟩:=Ars.given w hg (fun i h=>hi i (AM _ h)) as (fun x hx=>hs x (AQ _ hx)) (fun x hx=>hS x (AQ _ hx)) e3
  have one:∃ y,(Itm S g' y/\y.f=.z)/\y.d=d/\y.v=v0:=by
   cases a with
   | @pl i v h =>
    have er:der (.pl i) ρ=((ρ[i]?).join).map fun p=>(.ok p.1,ρ):=rfl
    rw [er] at e1
    cases q:(ρ[i]?).join with
    | none=>rw [q] at e1;exact nsE e1
    | some p =>
     rw [q] at e1
     obtain ⟨y,y1,y2,y3,y4⟩:=w.slot (d:=p.1) (f:=p.2) q
     obtain ⟨y',h1,h2,h3⟩:=hg i y y1
     have e5:p.1=d:=by cases e1;rfl
     rw [h] at y4
     refine ⟨y',⟨.inl ⟨i,h1⟩,h3 (hi i AL)⟩,h2.1.trans (y2.trans e5),?_⟩
     rw [h2.2.1];cases y4;rfl
   | val x=>cases e1;exact ⟨dq x,⟨.inr (hS x (by simp)),rfl⟩,rfl,rfl⟩
  obtain ⟨y,i1,f1,f2⟩:=one
  refine ⟨y :: ys,fun z hz=>?_,by simp [f1,f3],by simp [f2,f4]⟩
  rcases AS.mp hz with h | hz
  ·rw [h];exact i1
  ·exact i2 z hz
noncomputable def cV (ys:List It3) (c:Addr):Prop:=∃ y ∈ ys,c ∈ y.L
noncomputable def gives (rs:List R3):M3 (List D):=ak (fv rs) fun ds=>ak (frz3 (pls rs)) fun _=>bU ds
theorem Ars.gives {rs:List R3} {vs:List V} {Ts:List It3} {k:List D->M3 β} {r:Except D β} (w:Wf K G H σ ρ (Ts ++ T) g) (a:Ars σ rs vs Ts) (e:ak (gives rs) k ρ=some (r,ρ')) :
  ∃ ds ρ1 g1,k ds ρ1=some (r,ρ')/\ρ1=frz (pls rs) ρ/\Wf K G H σ ρ1 (Ts.map dq ++ T) g1/\(∀ j y,g j=some y->∃ y',g1 j=some y'/\Kin y y')/\∃ ys:List It3,(∀ y ∈ ys,Itm (Ts.map dq ++ T) g1 y/\y.f=.z)/\ys.map (·.d)=ds/\ys.map (·.v)=vs:=by
 unfold L3.gives at e
 have e0:ak (fv rs) (fun ds=>ak (frz3 (pls rs)) fun _=>k ds) ρ=some (r,ρ'):=by
  rw [<- e]
  unfold ak
  cases q:fv rs ρ with
  | none=>rfl
  | some p =>
   obtain ⟨o,ρ2⟩:=p
   cases o with
   | error x=>rfl
   | ok ds=>rfl
 obtain ⟨ds,d1,e1⟩:=c8 e0
 obtain ⟨g1,w1,h1⟩:=Wf.frz (is:=pls rs) w
 refine ⟨ds,L3.frz (pls rs) ρ,g1,e1,rfl,w1.lowT,fun j y h=>let ⟨y',a,b,_⟩:=h1 j y h;⟨y',a,b⟩,?_⟩
 exact Ars.given w h1 (fun i h=>kA h) a (fun x hx=>AQ _ hx) (fun x hx=>AQ _ (A2.mpr ⟨x,hx,rfl⟩)) d1
theorem Wf.alls (w:Wf K G H σ ρ T g) {ys:List It3} (hy:∀ y ∈ ys,Itm T g y/\y.f=.z) {c:Addr} (h:cV ys c):dG T g c/\(G.H0 c=none\/G.src c):=by
 obtain ⟨y,m,hc⟩:=h
 exact ⟨w.kid (hy y m).1 hc fun hf=>absurd (hy y m).2 hf,(w.itm (hy y m).1).src c hc⟩
theorem Wf.doneA {Us:List It3} {ys:List It3} (w:Wf K G H σ ρ (Us ++ T) g) (hy:∀ y ∈ ys,Itm (Us ++ T) g y/\y.f=.z) (n:New K H H' (cV ys) x):Got K G σ ρ T (.val x.d x.f) x.v H' :=
 ⟨[x],g,(w.push n fun c h=>w.alls hy h).sub (by simpa using List.Sublist.cons_cons x (A0 Us T)),.val x⟩
theorem kz:∀ {ys:List It3},(∀ y ∈ ys,Rep K H y.d y.v y.L)->Reps (Rep K H) (ys.map (·.d)) (ys.map (·.v)) (ys.map (·.L)).flatten
 | [],_=>.nil
 | y :: ys,h=>.cons (h y AL) (kz fun z hz=>h z (AM _ hz))
theorem eS {ys:List It3} {c:Addr} (h:c ∈ (ys.map (·.L)).flatten):cV ys c:=by
 obtain ⟨l,hl,hc⟩:=List.mem_flatten.mp h
 obtain ⟨y,hy,rfl⟩:=A2.mp hl
 exact ⟨y,hy,hc⟩
noncomputable def xQ (mk:List D->D) (f:Fl) (ms:M3 (List R3)):EM:=ak ms fun rs=>ak (gives rs) fun ds=>bZ (if ds.length<=16777216 then some (.val (mk ds) f) else none)
noncomputable abbrev aL:M3 (List R3)->EM:=xQ .tup .z
noncomputable abbrev aT:M3 (List R3)->EM:=xQ .lst .u
theorem bF {H:Hp} {p:Addr} {o:HO} (h:H p=none):Same H (upd H p o):=fun b u e=>by
 rw [aw (aY e h)];exact e
set_option tactic.hygienic true in
theorem zi (hz:(16777216:Nat)=sizeLine) {ms:M3 (List R3)} {Q:VK} (h:tE K G0 W0 (aL ms) σ H Q):tTup (tA K G0 W0 ms) σ H Q:=by
 refine h.use fun G W le ρ T g o ρ' w e q=>?_
 refine tA.seq le w e q.err fun rs ρ1 e1 vs H1 Ts g1 w1 a1=>?_
 obtain ⟨ds,ρ2,g2,e2,_,w2,_,ys,hy,f1,f2⟩:=a1.gives w1 e1
 obtain ⟨v,e3,rfl,rfl⟩:=b9 e2
 subst f1 f2
 split at e3
 ·rename_i hl
  cases e3
  refine ⟨by rw [AX] at hl ⊢;omega,fun p hp=>?_⟩
  refine q _ _ (Wf.doneA (x:=⟨.tup (ys.map (·.d)),.ref p,(ys.map (·.L)).flatten,.z⟩) w2 hy ⟨bF hp,.tup aV ((kz fun y hy'=>(w2.itm (hy y hy').1).rep).same (bF hp)),fun c hc=>.inr (eS hc),fun hf=>absurd rfl hf⟩)
 ·exact nsE e3
set_option tactic.hygienic true in
theorem zm (hz:(16777216:Nat)=sizeLine) {ms:M3 (List R3)} {Q:VK} (h:tE K G0 W0 (aT ms) σ H Q):tLst (tA K G0 W0 ms) σ H Q:=by
 refine h.use fun G W le ρ T g o ρ' w e q=>?_
 refine tA.seq le w e q.err fun rs ρ1 e1 vs H1 Ts g1 w1 a1=>?_
 obtain ⟨ds,ρ2,g2,e2,_,w2,_,ys,hy,f1,f2⟩:=a1.gives w1 e1
 obtain ⟨v,e3,rfl,rfl⟩:=b9 e2
 subst f1 f2
 split at e3
 ·rename_i hl
  cases e3
  refine ⟨by rw [AX] at hl ⊢;omega,fun p hp=>?_⟩
  have np:p ∉ (ys.map (·.L)).flatten:=fun hc=>by
   obtain ⟨y,hm,hc⟩:=eS hc
   obtain ⟨o,ho⟩:=((w2.itm (hy y hm).1).rep.inH p hc).ex
   rw [hp] at ho;exact nsE ho
  refine q _ _ (Wf.doneA (x:=⟨.lst (ys.map (·.d)),.ref p,p :: (ys.map (·.L)).flatten,.u⟩) w2 hy ⟨bF hp,.lst aV ((kz fun y hy'=>(w2.itm (hy y hy').1).rep).same (bF hp)),fun c hc=>?_,fun _=>⟨rfl,p,_,rfl,rfl,np,hp⟩⟩)
  rcases AS.mp hc with e | hc
  ·rw [e];exact .inl hp
  ·exact .inr (eS hc)
 ·exact nsE e3
end
end L3
end
section
namespace L3
open PySem L2
section
variable {K:FG} {G G0:Gm} {W W0:D->Sto->Prop} {H H':Hp} {σ:St} {ρ ρ':Sto} {T T':List It3} {g:Nat->Option It3} {x y z:It3} {α β:Type}
noncomputable def EndS (K:FG) (G:Gm) (W:D->Sto->Prop) (T:List It3) (ρ':Sto) (E:Ends):Except D Flw->Prop
 | .ok .nx=>∀ σ' H' g',Wf K G H' σ' ρ' T g'->E.nx σ' H'
 | .ok .br=>∀ σ' H' g',Wf K G H' σ' ρ' T g'->E.bk σ' H'
 | .ok .ct=>∀ σ' H' g',Wf K G H' σ' ρ' T g'->E.ct σ' H'
 | .ok (.rt d f)=>∀ x σ' H' g',Wf K G H' σ' ρ' (x :: T) g'->x.d=d->x.f=f->E.rt x.v H'
 | .error e=>W e ρ'
theorem EndS.err {E:Ends} {r:Except D Flw} (h:EndS K G W T ρ' E r):∀ x,r=.error x->W x ρ':=by
 intro x e;subst e;exact h
theorem tS.open {m:SM} {E:Ends} (h:tS K G0 W0 m E σ H):∃ G W,Le K G W G0 W0/\∃ ρ T g r ρ',Wf K G H σ ρ T g/\m ρ=some (r,ρ')/\EndS K G W T ρ' E r:=by
 obtain ⟨G,W,le,ρ,T,g,r,ρ',w,e,q⟩:=h
 refine ⟨G,W,le,ρ,T,g,r,ρ',w,e,?_⟩
 cases r with
 | ok r=>cases r <;> exact q
 | error x=>exact q
theorem tS.use {m:SM} {E:Ends} (h:tS K G0 W0 m E σ H) {P:Prop} (k:∀ G W,Le K G W G0 W0->∀ ρ T g r ρ',Wf K G H σ ρ T g->m ρ=some (r,ρ')->EndS K G W T ρ' E r->P):P:=by
 obtain ⟨G,W,le,ρ,T,g,r,ρ',w,e,q⟩:=h.open
 exact k G W le ρ T g r ρ' w e q
theorem tS.mk {m:SM} {E:Ends} {r:Except D Flw} (le:Le K G W G0 W0) (w:Wf K G H σ ρ T g) (e:m ρ=some (r,ρ')) (h:EndS K G W T ρ' E r):tS K G0 W0 m E σ H:=by
 refine ⟨G,W,le,ρ,T,g,r,ρ',w,e,?_⟩
 cases r with
 | ok r=>cases r <;> exact h
 | error x=>exact h
noncomputable def di:SM:=bU .nx
noncomputable def aJ (a b:SM):SM:=ak a fun f=>match f with
 | .nx=>b
 | o=>bU o
theorem zd {E:Ends} (h:tS K G0 W0 di E σ H):yn E σ H:=by
 refine h.use fun G W le ρ T g r ρ' w e q=>?_
 cases e
 exact q _ _ _ w
theorem zb {a b:SM} {E:Ends} (h:tS K G0 W0 (aJ a b) E σ H):y8 (tS K G0 W0 a) (tS K G0 W0 b) E σ H:=by
 refine h.use fun G W le ρ T g r ρ' w e q=>?_
 unfold aJ ak at e
 cases p:a ρ with
 | none=>rw [p] at e;exact nsE e
 | some p' =>
  obtain ⟨o,ρ1⟩:=p'
  rw [p] at e
  cases o with
  | error x=>cases e;exact tS.mk le w p q
  | ok f =>
   cases f with
   | nx=>exact tS.mk le (r:=.ok .nx) w p fun σ' H' g' w'=>tS.mk le w' e q
   | br=>cases e;exact tS.mk le w p q
   | ct=>cases e;exact tS.mk le w p q
   | rt d f=>cases e;exact tS.mk le w p q
noncomputable def cq (m:EM):SM:=ak m fun _=>bU .nx
theorem wM {m:EM} {E:Ends} (h:tS K G0 W0 (cq m) E σ H):yo (tE K G0 W0 m) E σ H:=by
 refine h.use fun G W le ρ T g r ρ' w e q=>?_
 refine tE.seq le w e q.err fun ra ρ1 e1 v H1 ⟨Ts,g1,w1,a1⟩=>?_
 cases e1
 exact q _ _ _ (w1.sub (A0 Ts T))
noncomputable def sIf (c:M3 Bool) (a b:SM):SM:=ak c fun t=>if t then a else b
theorem tS_if {c:M3 Bool} {a b:SM} {E:Ends} (h:tS K G0 W0 (sIf c a b) E σ H):tIfS (tT K G0 W0 c) (tS K G0 W0 a) (tS K G0 W0 b) E σ H:=by
 refine h.use fun G W le ρ T g r ρ' w e q=>?_
 refine tT.seq le w e q.err fun t ρ1 e1 H1 g1 w1=>?_
 cases t with
 | true=>exact tS.mk le w1 e1 q
 | false=>exact tS.mk le w1 e1 q
noncomputable def nol:Fl->Fl
 | .u=>.u
 | _=>.z
theorem Ae (f:Fl):nol f ≠ .l:=by cases f <;> intro h <;> cases h
theorem Ad (f:Fl):nol f=f\/nol f=.z:=by cases f <;> first | exact .inl rfl | exact .inr rfl
noncomputable def ie (r:R3):M3 (D × Fl):=match r with
 | .val d f=>bU (d,nol f)
 | .pl i=>fun ρ=>((ρ[i]?).join).map fun p=>(.ok (p.1,.z),lowAt i ρ)
theorem oM {i:Nat}:ie (.pl i) ρ=((ρ[i]?).join).map fun p=>(.ok (p.1,.z),lowAt i ρ):=rfl
theorem Ar.val_inv {d:D} {f:Fl} {v:V} {Ts:List It3} (a:Ar σ (.val d f) v Ts):∃ x,Ts=[x]/\x.d=d/\x.f=f/\x.v=v:=by
 generalize h:R3.val d f=r at a
 cases a with
 | pl _=>cases h
 | val x=>cases h;exact ⟨x,rfl,rfl,rfl,rfl⟩
theorem Ar.take {r:R3} {v:V} {Ts:List It3} {k:D × Fl->M3 β} {o:Except D β} (w:Wf K G H σ ρ (Ts ++ T) g) (a:Ar σ r v Ts) (e:ak (ie r) k ρ=some (o,ρ')) :
  ∃ p ρ1 g1 x,k p ρ1=some (o,ρ')/\Wf K G H σ ρ1 (x :: T) g1/\x.d=p.1/\(p.2=x.f\/p.2=.z)/\p.2 ≠ .l/\x.v=v:=by
 cases a with
 | val x=>exact ⟨(x.d,nol x.f),ρ,g,x,e,w,rfl,Ad _,Ae _,rfl⟩
 | @pl i v h =>
  unfold ak at e
  rw [oM] at e
  cases q:(ρ[i]?).join with
  | none=>rw [q] at e;exact nsE e
  | some p =>
   rw [q] at e
   obtain ⟨y,y1,y2,y3,y4⟩:=w.slot (d:=p.1) (f:=p.2) q
   obtain ⟨g1,w1,h1⟩:=w.lowAt (i:=i)
   obtain ⟨y',z1,z2,z3⟩:=h1 i y y1
   have hz:=z3 rfl
   refine ⟨(p.1,.z),_,g1,y',e,?_,z2.1.trans y2,.inr rfl,(by intro h;cases h),?_⟩
   ·have nr:∀ u:It3,NoRoot y' u:=fun u hf=>absurd hz hf
    refine ⟨w1.len,w1.sl,w1.sv,w1.okS,fun u hu=>?_,w1.ss,fun j u eu u' hu=>?_,?_,w1.base,w1.pro,⟨fun u hu hf a ea=>?_,w1.fx.frS,w1.fx.bin,w1.fx.ob,w1.fx.lvS⟩⟩
    ·rcases AS.mp hu with h | hu
     ·rw [h];exact w1.okS i y' z1
     ·exact w1.okT u hu
    ·rcases AS.mp hu with h | hu
     ·rw [h]
      refine ⟨?_,nr _⟩
      by_cases ij:j=i
      ·subst ij
       rw [z1] at eu;cases eu
       exact nr _
      ·exact w1.ss j i u y' ij eu z1
     ·exact w1.st j u eu u' hu
    ·exact List.pairwise_cons.mpr ⟨fun u hu=>⟨nr _,(w1.st i y' z1 u hu).2⟩,w1.tt⟩
    ·rcases AS.mp hu with h | hu
     ·rw [h] at hf;exact absurd hz hf
     ·exact w1.fx.frT u hu hf a ea
   ·rw [z2.2.1]
    rw [h] at y4;cases y4;rfl
theorem Wf.store {i:Nat} {f:Fl} (w:Wf K G H σ ρ (x :: T) g) (hi:i < ρ.length) (hp:G.pr i=false) (hf:f=x.f\/f=.z) (hnl:f ≠ .l) :
  Wf K G H (σ.set i (some x.v)) (ρ.set i (some (x.d,f))) T (fun j=>if j=i then some { x with f:=f } else g j):=by
 have hil:i < σ.length:=by rw [w.len];exact hi
 have tx:=List.pairwise_cons.mp w.tt
 have ox:=w.okT x AL
 have nx:∀ u:It3,NoRoot x u->NoRoot { x with f:=f } u:=fun u h q=>by
  rcases hf with e | e
  ·exact h (by rw [<- e];exact q)
  ·exact absurd e q
 have val:∀ j u,(if j=i then some { x with f:=f } else g j)=some u->(j=i/\u = { x with f:=f })\/(j ≠ i/\g j=some u):=fun j u h=>by
  by_cases q:j=i
  ·rw [if_pos q] at h;cases h;exact .inl ⟨q,rfl⟩
  ·rw [if_neg q] at h;exact .inr ⟨q,h⟩
 refine ⟨by rw [List.length_set,List.length_set];exact w.len,fun j=>?_,fun j u h=>?_,fun j u h=>?_,fun u hu=>w.okT u (AM _ hu),fun j k a b n h1 h2=>?_,fun j a h b hb=>?_,tx.2,w.base,fun j hj=>?_,⟨fun u hu=>w.fx.frT u (AM _ hu),fun j u h hpj hfu a ea=>?_,w.fx.bin,w.fx.ob,fun j u h hl=>?_⟩⟩
 ·rw [cb hi]
  by_cases q:j=i
  ·rw [if_pos q,if_pos q];rfl
  ·rw [if_neg q,if_neg q];exact w.sl j
 ·rcases val j u h with ⟨rfl,rfl⟩ | ⟨n,h⟩
  ·rw [List.getElem?_set_self hil]
  ·rw [List.getElem?_set_ne (fun z=>n z.symm)];exact w.sv j u h
 ·rcases val j u h with ⟨rfl,rfl⟩ | ⟨n,h⟩
  ·refine ⟨ox.rep,fun q=>?_,ox.src⟩
   rcases hf with e | e
   ·subst e
    exact ox.own q
   ·exact absurd e q
  ·exact w.okS j u h
 ·rcases val j a h1 with ⟨ej,ea⟩ | ⟨n1,h1'⟩
  ·rcases val k b h2 with ⟨ek,eb⟩ | ⟨n2,h2'⟩
   ·exact absurd (ej.trans ek.symm) n
   ·rw [ea];exact nx b (w.st k b h2' x AL).2
  ·rcases val k b h2 with ⟨ek,eb⟩ | ⟨n2,h2'⟩
   ·rw [eb];exact (w.st j a h1' x AL).1
   ·exact w.ss j k a b n h1' h2'
 ·rcases val j a h with ⟨rfl,rfl⟩ | ⟨n,h⟩
  ·exact ⟨nx b (tx.1 b hb).1,(tx.1 b hb).2⟩
  ·exact w.st j a h b (AM _ hb)
 ·have n:j ≠ i:=fun z=>by subst z;rw [hp] at hj;cases hj
  rw [List.getElem?_set_ne (fun z=>n z.symm)];exact w.pro j hj
 ·rcases val j u h with ⟨_,rfl⟩ | ⟨n,h⟩
  ·rcases hf with e | e
   ·exact w.fx.frT x AL (by rw [<- e];exact hfu) a ea
   ·exact absurd e hfu
  ·exact w.fx.frS j u h hpj hfu a ea
 ·rcases val j u h with ⟨_,rfl⟩ | ⟨n,h⟩
  ·exact absurd hl hnl
  ·exact w.fx.lvS j u h hl
noncomputable def bK (i:Nat) (m:EM):SM:=ak m fun r=>ak (ie r) fun p=>fun ρ=>if i < ρ.length then some (.ok .nx,ρ.set i (some p)) else none
set_option tactic.hygienic true in
theorem za {i:Nat} {m:EM} {E:Ends} (hp:G0.pr i=false) (h:tS K G0 W0 (bK i m) E σ H):uT (tE K G0 W0 m) (r9 i) E σ H:=by
 refine h.use fun G W le ρ T g r ρ' w e q=>?_
 refine tE.seq le w e q.err fun ra ρ1 e1 v H1 ⟨Ts,g1,w1,a1⟩=>?_
 obtain ⟨p,ρ2,g2,x,e2,w2,f1,f2,f4,f3⟩:=a1.take w1 e1
 split at e2
 ·rename_i hi
  cases e2
  have:=w2.store (f:=p.2) hi (by rw [le.pr];exact hp) f2 f4
  rw [f1,f3] at this
  exact q _ _ _ this
 ·exact nsE e2
noncomputable def bb (np:Nat) (m:EM):SM:=ak m fun r=>match r with
 | .val d f=>bU (.rt d f)
 | .pl i=>fun ρ=>match (ρ[i]?).join with
  | some (d,.u)=>if i < np then some (.ok (.rt d .z),lowAt i ρ) else some (.ok (.rt d .u),ρ.set i none)
  | some (d,_)=>some (.ok (.rt d .z),lowAt i ρ)
  | none=>none
theorem Wf.move {i:Nat} (w:Wf K G H σ ρ T g) (hp:G.pr i=false) (e:g i=some y):Wf K G H σ (ρ.set i none) (y :: T) (fun j=>if j=i then none else g j):=by
 have hi:i < ρ.length:=by
  have:=w.sl i
  rw [e] at this
  exact dF this.symm
 have val:∀ j u,(if j=i then none else g j)=some u->j ≠ i/\g j=some u:=fun j u h=>by
  by_cases q:j=i
  ·rw [if_pos q] at h;exact nsE h
  ·rw [if_neg q] at h;exact ⟨q,h⟩
 refine ⟨by rw [List.length_set];exact w.len,fun j=>?_,fun j u h=>w.sv j u (val j u h).2,fun j u h=>w.okS j u (val j u h).2,fun u hu=>?_,fun j k a b n h1 h2=>w.ss j k a b n (val j a h1).2 (val k b h2).2,fun j a h b hb=>?_,?_,w.base,w.pro,⟨fun u hu hf a ea=>?_,fun j u h=>w.fx.frS j u (val j u h).2,w.fx.bin,w.fx.ob,fun j u h=>w.fx.lvS j u (val j u h).2⟩⟩
 ·rw [cb hi]
  by_cases q:j=i
  ·rw [if_pos q,if_pos q];rfl
  ·rw [if_neg q,if_neg q];exact w.sl j
 ·rcases AS.mp hu with h | hu
  ·rw [h];exact w.okS i y e
  ·exact w.okT u hu
 ·obtain ⟨n,h⟩:=val j a h
  rcases AS.mp hb with h' | hb
  ·rw [h'];exact ⟨w.ss j i a y n h e,w.ss i j y a (Ne.symm n) e h⟩
  ·exact w.st j a h b hb
 ·exact List.pairwise_cons.mpr ⟨fun u hu=>w.st i y e u hu,w.tt⟩
 ·rcases AS.mp hu with h | hu
  ·subst h;exact w.fx.frS i u e hp hf a ea
  ·exact w.fx.frT u hu hf a ea
theorem zc {np:Nat} {m:EM} {E:Ends} (hnp:∀ i,np<=i->G0.pr i=false) (h:tS K G0 W0 (bb np m) E σ H):tRet (tE K G0 W0 m) E σ H:=by
 refine h.use fun G W le ρ T g r ρ' w e q=>?_
 refine tE.seq le w e q.err fun ra ρ1 e1 v H1 ⟨Ts,g1,w1,a1⟩=>?_
 have low:∀ {i:Nat} {d:D} {f:Fl},(ρ1[i]?).join=some (d,f)->some ((.ok (.rt d .z),lowAt i ρ1):Except D Flw × Sto)=some (r,ρ')->Ar σ (.pl i) v Ts->E.rt v H1:=fun {i d f} ej e2 a=>by
  cases e2
  have e3:ak (ie (.pl i)) (fun p=>bU (Flw.rt p.1 p.2)) ρ1=some (.ok (.rt d .z),L3.lowAt i ρ1):=by
   unfold ak
   rw [oM,ej]
   rfl
  obtain ⟨p,ρ2,g2,x,e4,w2,f1,f2,_,f3⟩:=a.take w1 e3
  have e5:Flw.rt p.1 p.2=Flw.rt d .z/\ρ2=L3.lowAt i ρ1:=by
   unfold bU at e4
   injection e4 with e4
   injection e4 with e5 e6
   injection e5 with e5
   exact ⟨e5,e6⟩
  obtain ⟨e5,e6⟩:=e5
  injection e5 with e7 e8
  subst e6
  rw [<- f3]
  have w3:=Wf.lowT (Ts:=[x]) w2
  exact q (dq x) σ H1 g2 w3 (f1.trans e7) rfl
 cases a1 with
 | val x=>cases e1;exact q x σ H1 g1 w1 rfl rfl
 | @pl i v h =>
  dsimp only at e1
  cases ej:(ρ1[i]?).join with
  | none=>rw [ej] at e1;exact nsE e1
  | some p =>
   obtain ⟨d,f⟩:=p
   rw [ej] at e1
   cases f with
   | u =>
    dsimp only at e1
    split at e1
    ·exact low ej e1 (.pl h)
    ·cases e1
     obtain ⟨y,y1,y2,y3,y4⟩:=w1.slot ej
     have w2:=Wf.move w1 (by rw [le.pr];exact hnp i (by omega)) y1
     have:=q y σ H1 _ w2 y2 y3
     rw [h] at y4
     cases y4
     exact this
   | l=>exact low ej e1 (.pl h)
   | z=>exact low ej e1 (.pl h)
noncomputable def cH (c:M3 Bool) (b:SM):Nat->SM
 | 0=>fun _=>none
 | n+1=>ak c fun t=>if t then ak b (fun f=>match f with
   | .nx=>cH c b n
   | .ct=>cH c b n
   | .br=>bU .nx
   | .rt d f=>bU (.rt d f)) else bU .nx
noncomputable def gJ (c:M3 Bool) (b:SM):SM:=fun ρ=>open Classical in if h:∃ n r,cH c b n ρ=some r then some (Classical.choose (Classical.choose_spec h)) else none
theorem fN {c:M3 Bool} {b:SM}:∀ {n:Nat} {ρ:Sto} {r:Except D Flw × Sto},cH c b n ρ=some r->cH c b (n+1) ρ=some r
 | 0,ρ,r,e=>by cases e
 | n+1,ρ,r,e=>by
  unfold cH at e ⊢
  unfold ak at e ⊢
  cases h:c ρ with
  | none=>rw [h] at e;exact nsE e
  | some p =>
   obtain ⟨o,ρ1⟩:=p
   rw [h] at e
   cases o with
   | error x=>exact e
   | ok t =>
    cases t with
    | false=>exact e
    | true =>
     simp only [if_true] at e ⊢
     cases h2:b ρ1 with
     | none=>rw [h2] at e;exact nsE e
     | some p2 =>
      obtain ⟨o2,ρ2⟩:=p2
      rw [h2] at e
      cases o2 with
      | error x=>exact e
      | ok f =>
       cases f with
       | nx=>exact fN (n:=n) e
       | ct=>exact fN (n:=n) e
       | br=>exact e
       | rt d f=>exact e
theorem mi {c:M3 Bool} {b:SM} {n m:Nat} {ρ:Sto} {r:Except D Flw × Sto} (h:n<=m) (e:cH c b n ρ=some r):cH c b m ρ=some r:=by
 induction h with
 | refl=>exact e
 | step _ ih=>exact fN ih
theorem sR {c:M3 Bool} {b:SM} {n:Nat} {ρ:Sto} {r:Except D Flw × Sto} (e:cH c b n ρ=some r):gJ c b ρ=some r:=by
 have h:∃ n r,cH c b n ρ=some r:=⟨n,r,e⟩
 unfold gJ
 rw [dif_pos h]
 have e2:=Classical.choose_spec (Classical.choose_spec h)
 generalize Classical.choose (Classical.choose_spec h)=r2 at e2 ⊢
 generalize Classical.choose h=n2 at e2
 have a:=mi (Nat.le_max_left n n2) e
 have b:=mi (Nat.le_max_right n n2) e2
 rw [a] at b
 exact b.symm
set_option tactic.hygienic true in
theorem oW {c:M3 Bool} {b:SM} {ρ:Sto} {r:Except D Flw × Sto} (e:gJ c b ρ=some r):∃ n,cH c b n ρ=some r:=by
 unfold gJ at e
 split at e
 ·rename_i h
  have e2:=Classical.choose_spec (Classical.choose_spec h)
  injection e with e
  exact ⟨Classical.choose h,by rw [<- e];exact e2⟩
 ·exact nsE e
theorem uN {c:M3 Bool} {b:SM} {E:Ends} (h:tS K G0 W0 (gJ c b) E σ H):uM (tT K G0 W0 c) (tS K G0 W0 b) E σ H:=by
 refine h.use fun G W le ρ T g r ρ' w e q=>?_
 obtain ⟨n,e⟩:=oW e
 refine ⟨fun m σ H=>∃ ρ g,Wf K G H σ ρ T g/\cH c b m ρ=some (r,ρ'),⟨n,ρ,g,w,e⟩,?_⟩
 rintro m σ1 H1 ⟨ρ1,g1,w1,e1⟩
 cases m with
 | zero=>exact nsE e1
 | succ m =>
  unfold cH at e1
  refine tT.seq le w1 e1 q.err fun t ρ2 e2 H2 g2 w2=>?_
  cases t with
  | false=>cases e2;exact q _ _ _ w2
  | true =>
   refine ⟨fun σ H=>∃ ρ g,Wf K G H σ ρ T g/\cH c b m ρ=some (r,ρ'),fun σ' H' h=>⟨m,Nat.lt_succ_self m,h⟩,?_⟩
   simp only [if_true] at e2
   unfold ak at e2
   cases p:b ρ2 with
   | none=>rw [p] at e2;exact nsE e2
   | some p2 =>
    obtain ⟨o,ρ3⟩:=p2
    rw [p] at e2
    cases o with
    | error x=>cases e2;exact tS.mk le w2 p q
    | ok f =>
     cases f with
     | nx=>exact tS.mk le (r:=.ok .nx) w2 p fun σ' H' g' w'=>⟨ρ3,g',w',e2⟩
     | ct=>exact tS.mk le (r:=.ok .ct) w2 p fun σ' H' g' w'=>⟨ρ3,g',w',e2⟩
     | br=>cases e2;exact tS.mk le (r:=.ok .br) w2 p q
     | rt d f=>cases e2;exact tS.mk le (r:=.ok (.rt d f)) w2 p q
end
end L3
end
section
namespace L3
open PySem L2
noncomputable abbrev Fn:=List (D × Fl)->Option (Except D (D × Fl) × List (D × Fl))
noncomputable def prs (ρ:Sto):List R3->Option (List (D × Fl))
 | []=>some []
 | .pl i :: rs=>match (ρ[i]?).join,prs ρ rs with
  | some p,some ps=>some (p :: ps)
  | _,_=>none
 | .val d f :: rs=>match prs ρ rs with
  | some ps=>some ((d,f) :: ps)
  | _=>none
noncomputable def gb (rs:List R3):List Nat:=(pls rs).filter fun i=>decide (2<=(pls rs).count i)
noncomputable def back:List R3->List (D × Fl)->List (D × Fl)->Sto->Sto
 | .pl i :: rs,p :: ps,q :: qs,ρ=>back rs ps qs (if p.2=.z then ρ else ρ.set i (some (q.1,if q.2=.z then .z else p.2)))
 | .val _ _ :: rs,_ :: ps,_ :: qs,ρ=>back rs ps qs ρ
 | _,_,_,ρ=>ρ
noncomputable def cE (F:Fn) (ms:M3 (List R3)):EM:=ak ms fun rs=>fun ρ=>match prs (frz (gb rs) ρ) rs with
 | none=>none
 | some ps=>match F ps with
  | none=>none
  | some (.ok p,qs)=>if qs.length=ps.length then some (.ok (.val p.1 p.2),back rs ps qs (frz (gb rs) ρ)) else none
  | some (.error e,qs)=>if qs.length=ps.length then some (.error e,back rs ps qs (frz (gb rs) ρ)) else none
section
variable {K:FG} {G G0:Gm} {W W0:D->Sto->Prop} {H H':Hp} {σ:St} {ρ ρ':Sto} {T T':List It3} {g:Nat->Option It3} {x y z:It3} {α β:Type}
structure Back1 (K:FG) (H H':Hp) (ps:List It3) (p q:It3):Prop where
 z:p.f=.z->q=p
 v:q.v=p.v
 f:q.f=p.f\/q.f=.z
 arg:Arg K H' q
 src:∀ c ∈ q.L,H c=none\/cV ps c
 there:p.f=.u->∀ b,p.v=.ref b->∃ o,H' b=some o
structure BehindX (K:FG) (H H':Hp) (ps qs:List It3):Prop where
 frame:∀ b o,H b=some o->(∀ p ∈ ps,p.f=.u->p.v ≠ .ref b)->H' b=some o
 back:Paired (Back1 K H H' ps) ps qs
 apart:qs.Pairwise Apart3
structure Behind (K:FG) (H H':Hp) (ps qs:List It3) (x:It3):Prop extends BehindX K H H' ps qs where
 rep:Rep K H' x.d x.v x.L
 own:x.f ≠ .z->iS x.d=true/\∃ a L',x.v=.ref a/\x.L=a :: L'/\a ∉ L'/\H a=none
 src:∀ c ∈ x.L,H c=none\/cV ps c
 apx:∀ q ∈ qs,Apart3 x q
noncomputable def spF (XA:D->Value->Option Addr->Hp->Prop) (K:FG) (F:Fn):Sp:=fun vs H Q E=>∃ (ps:List It3) (o:Except D (D × Fl)) (fs:List (D × Fl)),vs=ps.map (·.v)/\(∀ p ∈ ps,Arg K H p)/\ps.Pairwise Apart3/\F (ps.map fun p=>(p.d,p.f))=some (o,fs)/\match o with
 | .ok p=>∀ x qs H',Behind K H H' ps qs x->x.d=p.1->x.f=p.2->qs.map (fun q=>(q.d,q.f))=fs->Q x.v H'
 | .error e=>∀ qs H' cls da,BehindX K H H' ps qs->qs.map (fun q=>(q.d,q.f))=fs->XA e cls da H'->E cls da H'
theorem Ars.args:∀ {rs:List R3} {vs:List V} {Ts T:List It3} {pfs:List (D × Fl)},Ars σ rs vs Ts->Wf K G H σ ρ (Ts ++ T) g->(∀ i,2<=(pls rs).count i->∀ y,g i=some y->y.f=.z)->prs ρ rs=some pfs ->
  ∃ ps:List It3,ps.map (fun p=>(p.d,p.f))=pfs/\ps.map (·.v)=vs/\ps.Pairwise Apart3/\(∀ p ∈ ps,(∃ i,R3.pl i ∈ rs/\g i=some p)\/p ∈ Ts)/\Paired (fun r p=>match r with | .pl i=>g i=some p | .val _ _=>p ∈ Ts) rs ps
 | [],_,_,T,pfs,.nil,w,_,e=>by cases e;exact ⟨[],rfl,rfl,.nil,fun _ h=>(by cases h),.nil⟩
 | r :: rs,_,_,T,pfs,.cons (v:=v0) (Ts:=T0) (Us:=U0) a as,w,hd,e=>by
  have wt:Wf K G H σ ρ (U0 ++ (T0 ++ T)) g:=by rw [<- List.append_assoc];exact w
  have hd':∀ i,2<=(pls rs).count i->∀ y,g i=some y->y.f=.z:=fun i hc=>hd i (by
   cases r with
   | pl j=>show 2<=(j :: pls rs).count i;rw [List.count_cons];omega
   | val _ _=>exact hc)
  cases a with
  | @pl i v h =>
   unfold prs at e
   cases q:(ρ[i]?).join with
   | none=>rw [q] at e;exact nsE e
   | some p0 =>
    cases q2:prs ρ rs with
    | none=>rw [q,q2] at e;exact nsE e
    | some pfs' =>
     rw [q,q2] at e
     cases e
     obtain ⟨ps,f1,f2,f3,f4,f5⟩:=Ars.args as wt hd' q2
     obtain ⟨y,y1,y2,y3,y4⟩:=w.slot (d:=p0.1) (f:=p0.2) q
     have hv:y.v=v0:=by rw [h] at y4;cases y4;rfl
     refine ⟨y :: ps,by rw [A8,f1,y2,y3],by rw [A8,f2,hv],List.pairwise_cons.mpr ⟨fun p hp=>?_,f3⟩,fun p hp=>?_,.cons y1 ?_⟩
     ·rcases f4 p hp with ⟨j,hj,ej⟩ | hp
      ·by_cases ij:i=j
       ·subst ij
        have hc:2<=(pls (R3.pl i :: rs)).count i:=by
         show 2<=(i :: pls rs).count i
         rw [List.count_cons_self]
         have:=List.count_pos_iff.mpr (kA hj)
         omega
        have hz:=hd i hc y y1
        have hz':=hd i hc p ej
        exact ⟨fun q=>absurd hz q,fun q=>absurd hz' q⟩
       ·exact ⟨w.ss i j y p ij y1 ej,w.ss j i p y (Ne.symm ij) ej y1⟩
      ·exact w.st i y y1 p (AQ _ (AQ _ hp))
     ·rcases AS.mp hp with h' | hp
      ·rw [h'];exact .inl ⟨i,AL,y1⟩
      ·rcases f4 p hp with ⟨j,hj,ej⟩ | hp
       ·exact .inl ⟨j,AM _ hj,ej⟩
       ·exact .inr (AQ _ hp)
     ·exact Paired.mapP f5 fun r p h=>by
       cases r with
       | pl j=>exact h
       | val _ _=>exact AQ _ h
  | val x =>
   unfold prs at e
   cases q2:prs ρ rs with
   | none=>rw [q2] at e;exact nsE e
   | some pfs' =>
    rw [q2] at e
    cases e
    obtain ⟨ps,f1,f2,f3,f4,f5⟩:=Ars.args as wt hd' q2
    refine ⟨x :: ps,by rw [A8,f1],by rw [A8,f2],List.pairwise_cons.mpr ⟨fun p hp=>?_,f3⟩,fun p hp=>?_,.cons (AR _ AL) ?_⟩
    ·rcases f4 p hp with ⟨j,hj,ej⟩ | hp
     ·exact (w.st j p ej x (AQ _ (AR _ AL))).symm
     ·have t1:=(List.pairwise_append.mp w.tt).1
      exact ((List.pairwise_append.mp t1).2.2 p hp x AL).symm
    ·rcases AS.mp hp with h' | hp
     ·rw [h'];exact .inr (AR _ AL)
     ·rcases f4 p hp with ⟨j,hj,ej⟩ | hp
      ·exact .inl ⟨j,AM _ hj,ej⟩
      ·exact .inr (AQ _ hp)
    ·exact Paired.mapP f5 fun r p h=>by
      cases r with
      | pl j=>exact h
      | val _ _=>exact AQ _ h
theorem fA:∀ {rs:List R3} {ps qs:List It3} {ρ:Sto} {g:Nat->Option It3},(∀ j,(g j).map (fun x=>(x.d,x.f))=(ρ[j]?).join)->rs.length=ps.length->Paired (Back1 K H H' T) ps qs->(∀ i,R3.pl i ∈ rs->i < ρ.length) ->
  ∃ g':Nat->Option It3,(∀ j,(g' j).map (fun x=>(x.d,x.f))=((back rs (ps.map fun p=>(p.d,p.f)) (qs.map fun q=>(q.d,q.f)) ρ)[j]?).join)/\(back rs (ps.map fun p=>(p.d,p.f)) (qs.map fun q=>(q.d,q.f)) ρ).length = ρ.length /\
   ∀ j:Nat,(g' j=g j/\∀ (k:Nat) (p:It3),rs[k]?=some (R3.pl j)->ps[k]?=some p->p.f=.z)\/∃ (k:Nat) (p q:It3),rs[k]?=some (R3.pl j)/\ps[k]?=some p/\qs[k]?=some q/\p.f ≠ .z/\g' j=some q
 | [],[],_,ρ,g,hg,_,.nil,_=>⟨g,hg,rfl,fun j=>.inl ⟨rfl,fun k p h=>by simp at h⟩⟩
 | [],_ :: _,_,_,_,_,h,_,_=>by cases h
 | _ :: _,[],_,_,_,_,h,_,_=>by cases h
 | .val d f :: rs,p :: ps,_,ρ,g,hg,hl,.cons (b:=q) (l₂:=qs) b1 bs,hi=>by
  obtain ⟨g',h1,h2,h3⟩:=fA (rs:=rs) hg (by simpa using hl) bs fun i h=>hi i (AM _ h)
  refine ⟨g',h1,h2,fun j=>?_⟩
  rcases h3 j with ⟨e,h⟩ | ⟨k,p',q',a1,a2,a3,a4⟩
  ·refine .inl ⟨e,fun k p' e1 e2=>?_⟩
   cases k with
   | zero=>simp at e1
   | succ k=>exact h k p' (by simpa using e1) (by simpa using e2)
  ·exact .inr ⟨k+1,p',q',by simpa using a1,by simpa using a2,by simpa using a3,a4⟩
 | .pl i :: rs,p :: ps,_,ρ,g,hg,hl,.cons (b:=q) (l₂:=qs) b1 bs,hi=>by
  have hil:=hi i AL
  by_cases hz:p.f=.z
  ·have eb:back (.pl i :: rs) ((p :: ps).map fun p=>(p.d,p.f)) ((q :: qs).map fun q=>(q.d,q.f)) ρ=back rs (ps.map fun p=>(p.d,p.f)) (qs.map fun q=>(q.d,q.f)) ρ:=by
    show back rs _ _ (if p.f=.z then ρ else _)=_
    rw [if_pos hz]
   rw [eb]
   obtain ⟨g',h1,h2,h3⟩:=fA (rs:=rs) hg (by simpa using hl) bs fun i h=>hi i (AM _ h)
   refine ⟨g',h1,h2,fun j=>?_⟩
   rcases h3 j with ⟨e,h⟩ | ⟨k,p',q',a1,a2,a3,a4⟩
   ·refine .inl ⟨e,fun k p' e1 e2=>?_⟩
    cases k with
    | zero=>simp at e2;rw [<- e2];exact hz
    | succ k=>exact h k p' (by simpa using e1) (by simpa using e2)
   ·exact .inr ⟨k+1,p',q',by simpa using a1,by simpa using a2,by simpa using a3,a4⟩
  ·have eb:back (.pl i :: rs) ((p :: ps).map fun p=>(p.d,p.f)) ((q :: qs).map fun q=>(q.d,q.f)) ρ=back rs (ps.map fun p=>(p.d,p.f)) (qs.map fun q=>(q.d,q.f)) (ρ.set i (some (q.d,q.f))):=by
    show back rs _ _ (if p.f=.z then ρ else ρ.set i (some (q.d,if q.f=.z then .z else p.f)))=_
    rw [if_neg hz]
    have:(if q.f=.z then Fl.z else p.f)=q.f:=by
     by_cases h:q.f=.z
     ·rw [if_pos h,h]
     ·rw [if_neg h]
      rcases b1.f with h' | h'
      ·exact h'.symm
      ·exact absurd h' h
    rw [this]
   rw [eb]
   obtain ⟨g',h1,h2,h3⟩:=fA (rs:=rs) (ρ:=ρ.set i (some (q.d,q.f))) (g:=fun j=>if j=i then some q else g j) (fun j=>by
    rw [cb hil]
    by_cases e:j=i
    ·rw [if_pos e,if_pos e];rfl
    ·rw [if_neg e,if_neg e];exact hg j) (by simpa using hl) bs fun i h=>by rw [List.length_set];exact hi i (AM _ h)
   refine ⟨g',h1,by rw [h2,List.length_set],fun j=>?_⟩
   rcases h3 j with ⟨e,h⟩ | ⟨k,p',q',a1,a2,a3,a4⟩
   ·by_cases ej:j=i
    ·rw [if_pos ej] at e
     exact .inr ⟨0,p,q,by simp [ej],rfl,rfl,hz,e⟩
    ·rw [if_neg ej] at e
     refine .inl ⟨e,fun k p' e1 e2=>?_⟩
     cases k with
     | zero=>simp at e1;exact absurd e1.symm ej
     | succ k=>exact h k p' (by simpa using e1) (by simpa using e2)
   ·exact .inr ⟨k+1,p',q',by simpa using a1,by simpa using a2,by simpa using a3,a4⟩
theorem ni:∀ {rs:List R3} {pfs:List (D × Fl)},prs ρ rs=some pfs->rs.length=pfs.length
 | [],pfs,e=>by cases e;rfl
 | .pl i :: rs,pfs,e=>by
  unfold prs at e
  cases q:(ρ[i]?).join with
  | none=>rw [q] at e;exact nsE e
  | some p =>
   cases q2:prs ρ rs with
   | none=>rw [q,q2] at e;exact nsE e
   | some ps=>rw [q,q2] at e;cases e;rw [Be,Be,ni q2]
 | .val d f :: rs,pfs,e=>by
  unfold prs at e
  cases q2:prs ρ rs with
  | none=>rw [q2] at e;exact nsE e
  | some ps=>rw [q2] at e;cases e;rw [Be,Be,ni q2]
theorem qv:∀ {rs:List R3} {pfs:List (D × Fl)},prs ρ rs=some pfs->∀ i,R3.pl i ∈ rs->i < ρ.length
 | [],pfs,e,i,h=>by cases h
 | .pl i :: rs,pfs,e,j,h=>by
  unfold prs at e
  cases q:(ρ[i]?).join with
  | none=>rw [q] at e;exact nsE e
  | some p =>
   cases q2:prs ρ rs with
   | none=>rw [q,q2] at e;exact nsE e
   | some ps =>
    rcases AS.mp h with h | h
    ·cases h;exact dF q
    ·exact qv q2 j h
 | .val d f :: rs,pfs,e,j,h=>by
  unfold prs at e
  cases q2:prs ρ rs with
  | none=>rw [q2] at e;exact nsE e
  | some ps =>
   rcases AS.mp h with h | h
   ·cases h
   ·exact qv q2 j h
theorem Paired.at {α β:Type} {F:α->β->Prop}:∀ {l:List α} {m:List β} {k:Nat} {a:α} {b:β},Paired F l m->l[k]?=some a->m[k]?=some b->F a b
 | _,_,_,_,_,.nil,h,_=>by simp at h
 | _,_,0,_,_,.cons r _,h,h'=>by simp at h h';subst h h';exact r
 | _,_,k+1,_,_,.cons _ t,h,h'=>Paired.at (k:=k) t (by simpa using h) (by simpa using h')
theorem Paired.exL {α β:Type} {F:α->β->Prop}:∀ {l:List α} {m:List β} {k:Nat} {a:α},Paired F l m->l[k]?=some a->∃ b,m[k]?=some b/\F a b
 | _,_,_,_,.nil,h=>by simp at h
 | _,_,0,_,.cons r _,h=>by simp at h;subst h;exact ⟨_,rfl,r⟩
 | _,_,k+1,_,.cons _ t,h=>let ⟨b,h1,h2⟩:=Paired.exL (k:=k) t (by simpa using h);⟨b,by simpa using h1,h2⟩
theorem Paired.exR {α β:Type} {F:α->β->Prop}:∀ {l:List α} {m:List β} {k:Nat} {b:β},Paired F l m->m[k]?=some b->∃ a,l[k]?=some a/\F a b
 | _,_,_,_,.nil,h=>by simp at h
 | _,_,0,_,.cons r _,h=>by simp at h;subst h;exact ⟨_,rfl,r⟩
 | _,_,k+1,_,.cons _ t,h=>let ⟨b,h1,h2⟩:=Paired.exR (k:=k) t (by simpa using h);⟨b,by simpa using h1,h2⟩
theorem cD {α:Type} {R:α->α->Prop} {l:List α} (p:l.Pairwise R) (hs:∀ a b,R a b->R b a) {i j:Nat} {a b:α} (n:i ≠ j) (ha:l[i]?=some a) (hb:l[j]?=some b):R a b:=by
 obtain ⟨h1,e1⟩:=AY.mp ha
 obtain ⟨h2,e2⟩:=AY.mp hb
 have q:=List.pairwise_iff_getElem.mp p
 rcases Nat.lt_or_ge i j with h | h
 ·rw [<- e1,<- e2];exact q i j h1 h2 h
 ·rw [<- e1,<- e2];exact hs _ _ (q j i h2 h1 (by omega))
theorem Wf.after {rs:List R3} {Ts ps qs:List It3} {pfs:List (D × Fl)} (w:Wf K G H σ ρ (Ts ++ T) g) (e:prs ρ rs=some pfs) (f1:ps.map (fun p=>(p.d,p.f))=pfs)
  (f4:∀ p ∈ ps,(∃ i,R3.pl i ∈ rs/\g i=some p)\/p ∈ Ts) (f5:Paired (fun r p=>match r with | .pl i=>g i=some p | .val _ _=>p ∈ Ts) rs ps) (B:BehindX K H H' ps qs) :
  ∃ g',Wf K G H' σ (L3.back rs pfs (qs.map fun q=>(q.d,q.f)) ρ) T g' /\
   ∀ x,Rep K H' x.d x.v x.L->(x.f ≠ .z->iS x.d=true/\∃ a L',x.v=.ref a/\x.L=a :: L'/\a ∉ L'/\H a=none)->(∀ c ∈ x.L,H c=none\/cV ps c)->(∀ q ∈ qs,Apart3 x q)->Wf K G H' σ (L3.back rs pfs (qs.map fun q=>(q.d,q.f)) ρ) (x :: T) g':=by
 subst f1
 have hl:rs.length=ps.length:=by have:=ni e;rwa [AX] at this
 obtain ⟨g',h1,h2,h3⟩:=fA (K:=K) (H:=H) (H':=H') (T:=ps) (rs:=rs) (ps:=ps) (qs:=qs) w.sl hl B.back (qv e)
 have hps:∀ p ∈ ps,Itm (Ts ++ T) g p:=fun p hp=>by
  rcases f4 p hp with ⟨i,_,ei⟩ | h
  ·exact .inl ⟨i,ei⟩
  ·exact .inr (AQ _ h)
 have dom:∀ b o,H b=some o->∃ o',H' b=some o':=fun b o hb=>by
  by_cases h:∀ p ∈ ps,p.f=.u->p.v ≠ .ref b
  ·exact ⟨o,B.frame b o hb h⟩
  ·have h':∃ p,p ∈ ps/\p.f=.u/\p.v=.ref b:=by
    refine Classical.byContradiction fun n=>h fun p hp hf hv=>n ⟨p,hp,hf,hv⟩
   obtain ⟨p,hp,hf,hv⟩:=h'
   obtain ⟨k,hk,ek⟩:=List.mem_iff_getElem.mp hp
   obtain ⟨q,e1,b1⟩:=Paired.exL B.back (show ps[k]?=some p by rw [AT hk,ek])
   exact b1.there hf b hv
 have ka:∀ j z,g j=some z->(∀ (k:Nat) (p:It3),rs[k]?=some (R3.pl j)->ps[k]?=some p->p.f=.z)->∀ p ∈ ps,Apart3 p z:=fun j z ej hu p hp=>by
  rcases f4 p hp with ⟨i,hi,ei⟩ | h
  ·by_cases ij:i=j
   ·subst ij
    have epz:p=z:=Bt (ei.symm.trans ej)
    subst epz
    have hz:p.f=.z:=by
     obtain ⟨k,hk,ek⟩:=List.mem_iff_getElem.mp hi
     have ek':rs[k]?=some (R3.pl i):=by rw [AT hk,ek]
     obtain ⟨p',e1,e2⟩:=Paired.exL f5 ek'
     have e2:g i=some p':=e2
     rw [ei] at e2
     cases e2
     exact hu k p ek' e1
    exact ⟨fun q=>absurd hz q,fun q=>absurd hz q⟩
   ·exact ⟨w.ss i j p z ij ei ej,w.ss j i z p (Ne.symm ij) ej ei⟩
  ·exact (w.st j z ej p (AQ _ h)).symm
 have kt:∀ z ∈ T,∀ p ∈ ps,Apart3 p z:=fun z hz p hp=>by
  rcases f4 p hp with ⟨i,hi,ei⟩ | h
  ·exact w.st i p ei z (AR _ hz)
  ·exact (List.pairwise_append.mp w.tt).2.2 p h z hz
 have keep:∀ z,ItOk K G H z->(∀ p ∈ ps,Apart3 p z)->ItOk K G H' z:=fun z oz az=>by
  refine oz.keep (M:=fun b=>∃ p ∈ ps,p.f=.u/\p.v=.ref b) (fun b o hb n=>B.frame b o hb fun p hp hf hv=>n ⟨p,hp,hf,hv⟩) (fun b ⟨p,hp,hf,hv⟩=>?_) (fun b hb ⟨p,hp,hf,hv⟩=>?_)
  ·obtain ⟨_,a,L',e1,e2,_⟩:=(w.itm (hps p hp)).own (by rw [hf];intro q;cases q)
   rw [hv] at e1
   cases e1
   exact (w.itm (hps p hp)).rep.inH b (by rw [e2];exact AL)
  ·exact (az p hp).1 (by rw [hf];intro q;cases q) b hv hb
 have okq:∀ k p q,ps[k]?=some p->qs[k]?=some q->ItOk K G H' q:=fun k p q e1 e2=>by
  have b:=Paired.at B.back e1 e2
  refine ⟨b.arg.rep,fun hf=>?_,fun c hc=>?_⟩
  ·obtain ⟨m,a,L',v1,v2,v3⟩:=b.arg.own hf
   refine ⟨m,a,L',v1,v2,v3,fun hu=>?_⟩
   have pf:p.f=.u:=by
    rcases b.f with h | h
    ·rw [<- h];exact hu
    ·rw [h] at hu;cases hu
   obtain ⟨_,a',L'',e3,_,_,e5⟩:=(w.itm (hps p (AZ e1))).own (by rw [pf];intro q;cases q)
   rw [<- b.v,v1] at e3
   cases e3
   exact e5 pf
  ·rcases b.src c hc with h | ⟨p',hp',h⟩
   ·exact .inl (w.h0none h)
   ·exact (w.itm (hps p' hp')).src c h
 have kq:∀ z,ItOk K G H z->(∀ p ∈ ps,Apart3 p z)->∀ k p q,ps[k]?=some p->qs[k]?=some q->Apart3 z q:=fun z oz az k p q e1 e2=>by
  have b:=Paired.at B.back e1 e2
  refine ⟨fun hf a ev hm=>?_,fun hf a ev=>?_⟩
  ·rcases b.src a hm with h | ⟨p',hp',hc⟩
   ·obtain ⟨_,a',L',q1,q2,_⟩:=oz.own hf
    rw [ev] at q1;cases q1
    obtain ⟨o,ho⟩:=(oz.rep.inH a (by rw [q2];exact AL)).ex
    rw [h] at ho;exact nsE ho
   ·exact (az p' hp').2 hf a ev hc
  ·have pf:p.f ≠ .z:=fun q'=>by
    have:=b.z q'
    rw [this] at hf
    exact hf q'
   exact (az p (AZ e1)).1 pf a (by rw [<- b.v];exact ev)
 have old:∀ j z,g' j=some z->(g j=some z/\∀ p ∈ ps,Apart3 p z)\/∃ k p,rs[k]?=some (R3.pl j)/\ps[k]?=some p/\qs[k]?=some z:=fun j z ez=>by
  rcases h3 j with ⟨e1,hu⟩ | ⟨k,p,q,a1,a2,a3,_,a5⟩
  ·rw [e1] at ez
   exact .inl ⟨ez,ka j z ez hu⟩
  ·rw [a5] at ez
   cases ez
   exact .inr ⟨k,p,a1,a2,a3⟩
 have wf:Wf K G H' σ (L3.back rs (ps.map fun p=>(p.d,p.f)) (qs.map fun q=>(q.d,q.f)) ρ) T g':=by
  refine ⟨by rw [h2];exact w.len,h1,fun j z ez=>?_,fun j z ez=>?_,fun z hz=>keep z (w.okT z (AR _ hz)) (kt z hz),fun i j a b n ea eb=>?_,fun j z ez t ht=>?_,(List.pairwise_append.mp w.tt).2.1,fun b o e n=>?_,w.pro,⟨fun u hu=>w.fx.frT u (AR _ hu),fun j u h hp hf a ea=>?_,fun b hb=>?_,fun b o h=>?_,fun j u h hl=>?_⟩⟩
  ·rcases old j z ez with ⟨e1,_⟩ | ⟨k,p,a1,a2,a3⟩
   ·exact w.sv j z e1
   ·have ep:g j=some p:=by
     obtain ⟨p',q1,q2⟩:=Paired.exL f5 a1
     rw [a2] at q1;cases q1
     exact q2
    rw [(Paired.at B.back a2 a3).v]
    exact w.sv j p ep
  ·rcases old j z ez with ⟨e1,ap⟩ | ⟨k,p,a1,a2,a3⟩
   ·exact keep z (w.okS j z e1) ap
   ·exact okq k p z a2 a3
  ·rcases old i a ea with ⟨e1,ap⟩ | ⟨k,p,a1,a2,a3⟩
   ·rcases old j b eb with ⟨e2,_⟩ | ⟨k',p',b1,b2,b3⟩
    ·exact w.ss i j a b n e1 e2
    ·exact (kq a (w.okS i a e1) ap k' p' b b2 b3).1
   ·rcases old j b eb with ⟨e2,ap⟩ | ⟨k',p',b1,b2,b3⟩
    ·exact (kq b (w.okS j b e2) ap k p a a2 a3).2
    ·have kk:k ≠ k':=fun z=>by
      subst z
      rw [a1] at b1
      cases b1
      exact n rfl
     exact (cD B.apart (fun _ _=>Apart3.symm) kk a3 b3).1
  ·rcases old j z ez with ⟨e1,ap⟩ | ⟨k,p,a1,a2,a3⟩
   ·exact w.st j z e1 t (AR _ ht)
   ·exact (kq t (w.okT t (AR _ ht)) (kt t ht) k p z a2 a3).symm
  ·refine B.frame b o (w.base b o e n) fun p hp hf hv=>?_
   obtain ⟨_,a,L',e1,_,_,e3⟩:=(w.itm (hps p hp)).own (by rw [hf];intro q;cases q)
   rw [hv] at e1
   cases e1
   rcases e3 hf with h | h
   ·rw [e] at h;cases h
   ·exact n h
  ·rcases old j u h with ⟨e1,_⟩ | ⟨k,p,a1,a2,a3⟩
   ·exact w.fx.frS j u e1 hp hf a ea
   ·have b:=Paired.at B.back a2 a3
    have ep:g j=some p:=by
     obtain ⟨p',q1,q2⟩:=Paired.exL f5 a1
     rw [a2] at q1;cases q1
     exact q2
    refine w.fx.frS j p ep hp (fun q'=>?_) a (by rw [<- b.v];exact ea)
    have:=b.z q'
    rw [this] at hf
    exact hf q'
  ·obtain ⟨o,ho⟩:=w.fx.bin b hb
   exact dom b o ho
  ·obtain ⟨o',ho⟩:=w.fx.ob b o h
   exact dom b o' ho
  ·rcases old j u h with ⟨e1,_⟩ | ⟨k,p,a1,a2,a3⟩
   ·exact w.fx.lvS j u e1 hl
   ·have b:=Paired.at B.back a2 a3
    have ep:g j=some p:=by
     obtain ⟨p',q1,q2⟩:=Paired.exL f5 a1
     rw [a2] at q1;cases q1
     exact q2
    rw [b.v]
    refine w.fx.lvS j p ep ?_
    rcases b.f with h | h
    ·rw [<- h];exact hl
    ·rw [h] at hl;cases hl
 refine ⟨g',wf,fun x rx ox sx ax=>?_⟩
 have kx:∀ z,ItOk K G H z->(∀ p ∈ ps,Apart3 p z)->Apart3 z x:=fun z oz az=>by
  refine ⟨fun hf a ev hm=>?_,fun hf a ev hm=>?_⟩
  ·rcases sx a hm with h | ⟨p',hp',hc⟩
   ·obtain ⟨_,a',L',q1,q2,_⟩:=oz.own hf
    rw [ev] at q1;cases q1
    obtain ⟨o,ho⟩:=(oz.rep.inH a (by rw [q2];exact AL)).ex
    rw [h] at ho;exact nsE ho
   ·exact (az p' hp').2 hf a ev hc
  ·obtain ⟨_,a',L',q1,_,_,q4⟩:=ox hf
   rw [ev] at q1;cases q1
   obtain ⟨o,ho⟩:=(oz.rep.inH a hm).ex
   rw [q4] at ho;exact nsE ho
 refine ⟨wf.len,wf.sl,wf.sv,wf.okS,fun z hz=>?_,wf.ss,fun j z ez t ht=>?_,?_,wf.base,wf.pro,⟨fun u hu hf a ea=>?_,wf.fx.frS,wf.fx.bin,wf.fx.ob,wf.fx.lvS⟩⟩
 ·rcases AS.mp hz with h | hz
  ·rw [h]
   refine ⟨rx,fun hf=>?_,fun c hc=>?_⟩
   ·obtain ⟨m,a,L',v1,v2,v3,v4⟩:=ox hf
    exact ⟨m,a,L',v1,v2,v3,fun _=>.inl (w.h0none v4)⟩
   ·rcases sx c hc with h | ⟨p',hp',h⟩
    ·exact .inl (w.h0none h)
    ·exact (w.itm (hps p' hp')).src c h
  ·exact wf.okT z hz
 ·rcases AS.mp ht with h | ht
  ·rw [h]
   rcases old j z ez with ⟨e1,ap⟩ | ⟨k,p,a1,a2,a3⟩
   ·exact kx z (w.okS j z e1) ap
   ·exact (ax z (AZ a3)).symm
  ·exact wf.st j z ez t ht
 ·exact List.pairwise_cons.mpr ⟨fun t ht=>(kx t (w.okT t (AR _ ht)) (kt t ht)).symm,wf.tt⟩
 ·rcases AS.mp hu with h | hu
  ·subst h
   obtain ⟨_,a',L',q1,_,_,q4⟩:=ox hf
   rw [ea] at q1;cases q1
   exact w.ornone q4
  ·exact wf.fx.frT u hu hf a ea
set_option tactic.hygienic true in
theorem qO {i a:Nat} (h:(ρ[i]?).join=none):((L3.lowAt a ρ)[i]?).join=none:=by
 unfold L3.lowAt
 split
 ·rename_i d hd
  rw [cb (dF hd)]
  by_cases ia:i=a
  ·subst ia;rw [h] at hd;exact nsE hd
  ·rw [if_neg ia];exact h
 ·rename_i d hd
  rw [cb (dF hd)]
  by_cases ia:i=a
  ·subst ia;rw [h] at hd;exact nsE hd
  ·rw [if_neg ia];exact h
 ·exact h
theorem lp {i:Nat}:∀ {is:List Nat} {ρ:Sto},(ρ[i]?).join=none->((L3.frz is ρ)[i]?).join=none
 | [],ρ,h=>h
 | a :: is,ρ,h=>lp (is:=is) (ρ:=L3.lowAt a ρ) (qO h)
noncomputable def EX (XA:D->Value->Option Addr->Hp->Prop) (K:FG) (G:Gm) (W:D->Sto->Prop) (σ:St):XK:=fun cls da H'=>∃ e ρ' T' g',Wf K G H' σ ρ' T' g'/\XA e cls da H'/\W e ρ'
theorem wV {XA:D->Value->Option Addr->Hp->Prop} {F:Fn} {ms:M3 (List R3)} {Q:VK} (h:tE K G0 W0 (cE F ms) σ H Q):tA K G0 W0 ms σ H fun vs H1=>spF XA K F vs H1 Q (EX XA K G0 W0 σ):=by
 refine h.use fun G W le ρ T g o ρ' w e q=>?_
 refine tA.seq le w e q.err fun rs ρ1 e1 vs H1 Ts g1 w1 a1=>?_
 obtain ⟨g2,w2,z2⟩:=Wf.frz (is:=gb rs) w1
 cases e2:prs (L3.frz (gb rs) ρ1) rs with
 | none=>rw [e2] at e1;exact nsE e1
 | some pfs =>
  rw [e2] at e1
  dsimp only at e1
  have hd:∀ i,2<=(pls rs).count i->∀ y,g2 i=some y->y.f=.z:=fun i hc y ey=>by
   have hm:i ∈ gb rs:=Bk.mpr ⟨List.count_pos_iff.mp (by omega),by simpa using hc⟩
   have s1:=w2.sl i
   rw [ey] at s1
   have hy:∃ y0,g1 i=some y0:=by
    cases q1:g1 i with
    | some y0=>exact ⟨y0,rfl⟩
    | none =>
     exfalso
     have s2:=w1.sl i
     rw [q1] at s2
     have:=lp (is:=gb rs) s2.symm
     rw [this] at s1
     cases s1
   obtain ⟨y0,ey0⟩:=hy
   obtain ⟨y',e3,_,e5⟩:=z2 i y0 ey0
   rw [ey] at e3
   cases e3
   exact e5 hm
  obtain ⟨ps,f1,f2,f3,f4,f5⟩:=Ars.args a1 w2 hd e2
  have hit:∀ p ∈ ps,Itm (Ts ++ T) g2 p:=fun p hp=>by
   rcases f4 p hp with ⟨i,_,ei⟩ | h
   ·exact .inl ⟨i,ei⟩
   ·exact .inr (AQ _ h)
  have harg:∀ p ∈ ps,Arg K H1 p:=fun p hp=>⟨(w2.itm (hit p hp)).rep,fun hf=>by
   obtain ⟨m,a,L',v1,v2,v3,_⟩:=(w2.itm (hit p hp)).own hf
   exact ⟨m,a,L',v1,v2,v3⟩⟩
  subst f2
  cases e3:F pfs with
  | none=>rw [e3] at e1;exact nsE e1
  | some r =>
   obtain ⟨out,fs⟩:=r
   rw [e3] at e1
   refine ⟨ps,out,fs,rfl,harg,f3,by rw [f1];exact e3,?_⟩
   cases out with
   | ok p =>
    dsimp only at e1
    split at e1
    ·cases e1
     intro x qs H' B x1 x2 hq
     obtain ⟨g',w3,px⟩:=Wf.after w2 e2 f1 f4 f5 B.toBehindX
     have w4:=px x B.rep B.own B.src B.apx
     rw [hq] at w4
     rw [<- x1,<- x2] at q
     exact q x.v H' ⟨[x],g',w4,.val x⟩
    ·exact nsE e1
   | error er =>
    dsimp only at e1
    split at e1
    ·cases e1
     intro qs H' cls da B hq hx
     obtain ⟨g',w3,_⟩:=Wf.after w2 e2 f1 f4 f5 B
     rw [hq] at w3
     obtain ⟨ρ5,T5,g5,w5,h5⟩:=le.ex H' σ _ T g' er w3 q
     exact ⟨er,ρ5,T5,g5,w5,hx,h5⟩
    ·exact nsE e1
end
end L3
end
section
namespace L3
open PySem L2
noncomputable def eU (ρ:Sto):Nat->List (D × Fl)->Option (List (D × Fl))
 | _,[]=>some []
 | i,(d,.z) :: ps=>(eU ρ (i+1) ps).map fun r=>(d,.z) :: r
 | i,(d,f) :: ps=>match (ρ[i]?).join,eU ρ (i+1) ps with
  | some (d',f'),some r=>if f'=f\/f'=.z then some ((d',f') :: r) else none
  | _,_=>none
noncomputable def gE (n:Nat) (ps:List (D × Fl)):Sto:=ps.map some ++ List.replicate (n - ps.length) none
noncomputable def fn0 (n:Nat) (b:SM):Fn:=fun ps=>match b (gE n ps) with
 | some (.ok .nx,ρ')=>(eU ρ' 0 ps).map fun fs=>(.ok (.non,.z),fs)
 | some (.ok (.rt d f),ρ')=>(eU ρ' 0 ps).map fun fs=>(.ok (d,f),fs)
 | some (.error e,ρ')=>(eU ρ' 0 ps).map fun fs=>(.error e,fs)
 | _=>none
noncomputable def tK (b:Bool) (p:D × Fl):D × Fl:=if b then (p.1,.z) else p
noncomputable def fnM (mask:List Bool) (n:Nat) (b:SM):Fn:=fun ps=>if ps.length=mask.length then fn0 n b (List.zipWith tK mask ps) else none
section
variable {K:FG} {G:Gm} {W:D->Sto->Prop} {H H':Hp} {σ:St} {ρ ρ':Sto} {T T':List It3} {g:Nat->Option It3} {x y z:It3} {α β:Type}
noncomputable def gOf (H:Hp) (pr:Nat->Bool) (σ0:St) (ps:List It3):Gm:=⟨H,fun b=>∃ p ∈ ps,p.f=.u/\p.v=.ref b,pr,σ0,H,cV ps,fun i=>(ps[i]?).map (·.v)⟩
theorem t9 {n:Nat} {ps:List (D × Fl)} (hn:ps.length<=n) (i:Nat):((gE n ps)[i]?).join=ps[i]?:=by
 unfold gE
 by_cases h:i < ps.length
 ·rw [Bm (by simpa using h),A3]
  cases ps[i]? <;> rfl
 ·rw [List.getElem?_append_right (by simpa using h),List.getElem?_replicate,List.getElem?_eq_none (by omega)]
  split <;> rfl
theorem i5 {n:Nat} {vs:List V} {i:Nat} {v:V} (h:vs[i]?=some v):(vs.map some ++ List.replicate n (none:Option V))[i]?=some (some v):=by
 obtain ⟨hi,e⟩:=AY.mp h
 rw [Bm (by simpa using hi),A3,h]
 rfl
theorem oD {n:Nat} {pr:Nat->Bool} {ps:List It3} (hn:ps.length<=n) (ha:∀ p ∈ ps,Arg K H p) (hp:ps.Pairwise Apart3) (hpr:∀ (i:Nat) (p:It3),ps[i]?=some p->p.f ≠ .z->pr i=true) :
  Wf K (gOf H pr ((ps.map (·.v)).map some ++ List.replicate (n - (ps.map (·.v)).length) none) ps) H ((ps.map (·.v)).map some ++ List.replicate (n - (ps.map (·.v)).length) none) (gE n (ps.map fun p=>(p.d,p.f))) [] (fun i=>ps[i]?):=by
 refine ⟨?_,fun i=>?_,fun i x e=>?_,fun i x e=>?_,fun _ h=>(by cases h),fun i j a b n ea eb=>?_,fun _ _ _ _ h=>(by cases h),.nil,fun b o e _=>e,fun i _=>rfl,⟨fun _ h=>(by cases h),fun i x e hz hf=>?_,fun b h=>?_,fun b o e=>⟨o,e⟩,fun i x e _=>(by show (ps[i]?).map (·.v)=_;rw [e];rfl)⟩⟩
 ·unfold gE;simp
 ·rw [t9 (by simpa using hn),A3]
 ·exact i5 (by rw [A3,e];rfl)
 ·have hm:=AZ e
  refine ⟨(ha x hm).rep,fun hf=>?_,fun c hc=>.inr ⟨x,hm,hc⟩⟩
  obtain ⟨m,a,L',v1,v2,v3⟩:=(ha x hm).own hf
  exact ⟨m,a,L',v1,v2,v3,fun hu=>.inr ⟨x,hm,hu,v1⟩⟩
 ·exact (cD hp (fun _ _=>Apart3.symm) n ea eb).1
 ·have hz:pr i=false:=hz
  rw [hpr i x e hf] at hz;cases hz
 ·obtain ⟨p,hm,hf,hv⟩:=h
  obtain ⟨_,a,L',v1,v2,_⟩:=(ha p hm).own (by rw [hf];intro q;cases q)
  rw [hv] at v1;cases v1
  exact ((ha p hm).rep.inH b (by rw [v2];exact AL)).ex
noncomputable def FinsOk (ρ:Sto) (i:Nat) (ps fs:List (D × Fl)):Prop:=fs.length=ps.length/\∀ (k:Nat) (p:D × Fl),ps[k]?=some p->∃ q,fs[k]?=some q/\(p.2=.z->q=p)/\(p.2 ≠ .z->(ρ[i+k]?).join=some q/\(q.2=p.2\/q.2=.z))
theorem FinsOk.cons {i:Nat} {p0 q0:D × Fl} {ps fs:List (D × Fl)} (h:FinsOk ρ (i+1) ps fs) (hz:p0.2=.z->q0=p0) (hn:p0.2 ≠ .z->(ρ[i]?).join=some q0/\(q0.2=p0.2\/q0.2=.z)):FinsOk ρ i (p0 :: ps) (q0 :: fs):=by
 refine ⟨by rw [Be,Be,h.1],fun k p hk=>?_⟩
 cases k with
 | zero=>cases hk;exact ⟨q0,rfl,hz,hn⟩
 | succ k =>
  obtain ⟨q,a,b,c⟩:=h.2 k p hk
  exact ⟨q,a,b,fun n=>by have:=c n;rwa [show i+1+k=i+(k+1) by omega] at this⟩
theorem jA:∀ {i:Nat} {ps:List (D × Fl)} {fs:List (D × Fl)},eU ρ i ps=some fs->FinsOk ρ i ps fs
 | i,[],fs,e=>by cases e;exact ⟨rfl,fun k p h=>by cases h⟩
 | i,p0 :: ps,fs,e=>by
  obtain ⟨d,f⟩:=p0
  have key:f ≠ .z->(match (ρ[i]?).join,eU ρ (i+1) ps with
    | some (d',f'),some r=>if f'=f\/f'=.z then some ((d',f') :: r) else none
    | _,_=>none)=some fs->FinsOk ρ i ((d,f) :: ps) fs:=fun hf e=>by
   cases h:(ρ[i]?).join with
   | none=>rw [h] at e;exact nsE e
   | some p0 =>
    cases h2:eU ρ (i+1) ps with
    | none=>rw [h,h2] at e;exact nsE e
    | some r =>
     rw [h,h2] at e
     obtain ⟨d',f'⟩:=p0
     dsimp only at e
     rcases Decidable.em (f'=f\/f'=.z) with hc | hc
     ·rw [if_pos hc] at e
      cases e
      exact (jA h2).cons (fun z=>absurd z hf) fun _=>⟨h,hc⟩
     ·rw [if_neg hc] at e;exact nsE e
  cases f with
  | z =>
   obtain ⟨r,h,h'⟩:=AO.mp (show (eU ρ (i+1) ps).map (fun r=>(d,Fl.z) :: r)=some fs from e)
   subst h'
   exact (jA h).cons (fun _=>rfl) fun n=>absurd rfl n
  | u=>exact key (by intro q;cases q) e
  | l=>exact key (by intro q;cases q) e
theorem jN {α β:Type} {P:Nat->α->β->Prop}:∀ (l:List α) (i:Nat),(∀ (k:Nat) a,l[k]?=some a->∃ b,P (i+k) a b)->∃ m:List β,m.length=l.length/\∀ (k:Nat) a,l[k]?=some a->∃ b,m[k]?=some b/\P (i+k) a b
 | [],i,_=>⟨[],rfl,fun k a h=>by simp at h⟩
 | a :: l,i,h=>by
  obtain ⟨b,hb⟩:=h 0 a rfl
  obtain ⟨m,h1,h2⟩:=jN l (i+1) fun k a e=>by
   have:=h (k+1) a (by simpa using e)
   rwa [show i+(k+1)=i+1+k by omega] at this
  refine ⟨b :: m,by simp [h1],fun k a' e=>?_⟩
  cases k with
  | zero=>simp at e;subst e;exact ⟨b,rfl,hb⟩
  | succ k =>
   obtain ⟨b',e1,e2⟩:=h2 k a' (by simpa using e)
   exact ⟨b',by simpa using e1,by rwa [show i+(k+1)=i+1+k by omega]⟩
theorem Paired.ofGet {α β:Type} {F:α->β->Prop}:∀ {l:List α} {m:List β},l.length=m.length->(∀ (k:Nat) a b,l[k]?=some a->m[k]?=some b->F a b)->Paired F l m
 | [],[],_,_=>.nil
 | [],_ :: _,h,_=>by cases h
 | _ :: _,[],h,_=>by cases h
 | a :: l,b :: m,h,f=>.cons (f 0 a b rfl rfl) (Paired.ofGet (by simpa using h) fun k a b e1 e2=>f (k+1) a b (by simpa using e1) (by simpa using e2))
theorem jR {n:Nat} {pr:Nat->Bool} {σ0:St} {ps:List It3} {fs:List (D × Fl)} (ha:∀ p ∈ ps,Arg K H p) (hp:ps.Pairwise Apart3) (hpr:∀ (i:Nat) (p:It3),ps[i]?=some p->p.f ≠ .z->pr i=true) (h0:∀ (i:Nat) (p:It3),ps[i]?=some p->σ0[i]?=some (some p.v))
  (w:Wf K (gOf H pr σ0 ps) H' σ ρ T g) (e:eU ρ 0 (ps.map fun p=>(p.d,p.f))=some fs) :
  ∃ qs,BehindX K H H' ps qs/\qs.map (fun q=>(q.d,q.f))=fs/\(∀ (k:Nat) (p q:It3),ps[k]?=some p->qs[k]?=some q->(p.f=.z/\q=p)\/(p.f ≠ .z/\g k=some q)):=by
 obtain ⟨hl,hs⟩:=jA e
 rw [AX] at hl
 have frame:∀ b o,H b=some o->(∀ p ∈ ps,p.f=.u->p.v ≠ .ref b)->H' b=some o:=fun b o hb hn=>w.base b o hb fun ⟨p,hm,hf,hv⟩=>hn p hm hf hv
 have there:∀ b o,H b=some o->∃ o',H' b=some o':=fun b o hb=>w.fx.ob b o hb
 have repz:∀ (k:Nat) (p:It3),ps[k]?=some p->p.f=.z->Rep K H' p.d p.v p.L:=fun k p ek hz=>by
  refine (ha p (AZ ek)).rep.keep (M:=fun b=>∃ p ∈ ps,p.f=.u/\p.v=.ref b) (fun b o hb hn=>frame b o hb fun p hp hf hv=>hn ⟨p,hp,hf,hv⟩) (fun b ⟨p',hm,hf,hv⟩=>?_) fun b hb ⟨p',hm,hf,hv⟩=>?_
  ·obtain ⟨_,a,L',v1,v2,_⟩:=(ha p' hm).own (by rw [hf];intro q;cases q)
   rw [hv] at v1;cases v1
   exact (ha p' hm).rep.inH b (by rw [v2];exact AL)
  ·obtain ⟨j,hj,ej⟩:=List.mem_iff_getElem.mp hm
   have ej':ps[j]?=some p':=by rw [AT hj,ej]
   have jk:j ≠ k:=fun z=>by subst z;rw [ek] at ej';cases ej';rw [hz] at hf;cases hf
   exact (cD hp (fun _ _=>Apart3.symm) jk ej' ek).1 (by rw [hf];intro q;cases q) b hv hb
 have one:∀ (k:Nat) (p:It3),ps[k]?=some p->∃ q,(q.d,q.f)=(fs[k]?).getD (p.d,p.f)/\fs[k]?=some (q.d,q.f)/\Back1 K H H' ps p q/\((p.f=.z/\q=p)\/(p.f ≠ .z/\g k=some q)):=fun k p ek=>by
  have hm:=AZ ek
  obtain ⟨q0,f1,f2,f3⟩:=hs k (p.d,p.f) (by rw [A3,ek];rfl)
  by_cases hz:p.f=.z
  ·have:=f2 hz
   subst this
   refine ⟨p,by rw [f1];rfl,f1,⟨fun _=>rfl,rfl,.inl rfl,⟨repz k p ek hz,fun h=>absurd hz h⟩,fun c hc=>.inr ⟨p,hm,hc⟩,fun h=>?_⟩,.inl ⟨hz,rfl⟩⟩
   rw [hz] at h;cases h
  ·obtain ⟨h1,h2⟩:=f3 hz
   rw [Nat.zero_add] at h1
   obtain ⟨y,y1,y2,y3,y4⟩:=w.slot (d:=q0.1) (f:=q0.2) h1
   have hv:y.v=p.v:=by
    have:=w.pro k (hpr k p ek hz)
    rw [y4] at this
    have h0:some (some y.v)=some (some p.v):=this.trans (h0 k p ek)
    injection h0 with h0
    injection h0
   have ok:=w.okS k y y1
   refine ⟨y,by rw [f1,y2,y3];rfl,by rw [f1,y2,y3],⟨fun h=>absurd h hz,hv,by rw [y3];exact h2,⟨ok.rep,fun hf=>?_⟩,fun c hc=>ok.src c hc,fun hf b hb=>?_⟩,.inr ⟨hz,y1⟩⟩
   ·obtain ⟨m,a,L',v1,v2,v3,_⟩:=ok.own hf
    exact ⟨m,a,L',v1,v2,v3⟩
   ·obtain ⟨_,a,L',v1,v2,_⟩:=(ha p hm).own hz
    rw [hb] at v1;cases v1
    obtain ⟨o,ho⟩:=((ha p hm).rep.inH b (by rw [v2];exact AL)).ex
    exact there b o ho
 obtain ⟨qs,hq,hall⟩:=jN (P:=fun k p q=>fs[k]?=some (q.d,q.f)/\Back1 K H H' ps p q/\((p.f=.z/\q=p)\/(p.f ≠ .z/\g k=some q))) ps 0 fun k p ek=>by
  obtain ⟨q,_,a,b,c⟩:=one k p ek
  exact ⟨q,by simpa using ⟨a,b,c⟩⟩
 have get:∀ (k:Nat) (p q:It3),ps[k]?=some p->qs[k]?=some q->fs[k]?=some (q.d,q.f)/\Back1 K H H' ps p q/\((p.f=.z/\q=p)\/(p.f ≠ .z/\g k=some q)):=fun k p q ep eq=>by
  obtain ⟨q',e1,e2⟩:=hall k p ep
  rw [eq] at e1
  cases e1
  simpa using e2
 have par:∀ (k:Nat) (q:It3),qs[k]?=some q->∃ p,ps[k]?=some p:=fun k q e=>by
  have hk:=(AY.mp e).1
  exact ⟨ps[k]'(by omega),by simp [show k < ps.length by omega]⟩
 refine ⟨qs,⟨frame,Paired.ofGet hq.symm fun k p q ep eq=>(get k p q ep eq).2.1,?_⟩,?_,fun k p q ep eq=>(get k p q ep eq).2.2⟩
 ·rw [List.pairwise_iff_getElem]
  intro k j hk hj lt
  have ek:qs[k]?=some qs[k]:=AT hk
  have ej:qs[j]?=some qs[j]:=AT hj
  have side:∀ (k j:Nat) (q r:It3),k ≠ j->qs[k]?=some q->qs[j]?=some r->NoRoot q r:=fun k j q r n eq er=>by
   obtain ⟨p,ep⟩:=par k q eq
   obtain ⟨p',ep'⟩:=par j r er
   obtain ⟨_,b,c⟩:=get k p q ep eq
   obtain ⟨_,b',c'⟩:=get j p' r ep' er
   rcases c with ⟨hz,e⟩ | ⟨hz,e⟩
   ·rw [e];exact fun h=>absurd hz h
   ·rcases c' with ⟨hz',e'⟩ | ⟨hz',e'⟩
    ·rw [e']
     intro hf a ea
     exact (cD hp (fun _ _=>Apart3.symm) n ep ep').1 hz a (by rw [<- b.v];exact ea)
    ·exact w.ss k j q r n e e'
  exact ⟨side k j _ _ (A6 lt) ek ej,side j k _ _ (Nat.ne_of_gt lt) ej ek⟩
 ·refine List.ext_getElem? fun k=>?_
  rw [A3]
  cases eq:qs[k]? with
  | none =>
   have:qs.length<=k:=List.getElem?_eq_none_iff.mp eq
   rw [List.getElem?_eq_none (by omega)]
   rfl
  | some q =>
   obtain ⟨p,ep⟩:=par k q eq
   rw [(get k p q ep eq).1]
   rfl
theorem lG {n:Nat} {pr:Nat->Bool} {σ0:St} {ps:List It3} {fs:List (D × Fl)} (ha:∀ p ∈ ps,Arg K H p) (hp:ps.Pairwise Apart3) (hpr:∀ (i:Nat) (p:It3),ps[i]?=some p->p.f ≠ .z->pr i=true) (h0:∀ (i:Nat) (p:It3),ps[i]?=some p->σ0[i]?=some (some p.v))
  (w:Wf K (gOf H pr σ0 ps) H' σ ρ (x :: T) g) (e:eU ρ 0 (ps.map fun p=>(p.d,p.f))=some fs):∃ qs,Behind K H H' ps qs x/\qs.map (fun q=>(q.d,q.f))=fs:=by
 obtain ⟨qs,B,f,hg⟩:=jR (n:=n) ha hp hpr h0 w e
 have ok:=w.okT x AL
 refine ⟨qs,⟨B,ok.rep,fun hf=>?_,fun c hc=>ok.src c hc,fun q hq=>?_⟩,f⟩
 ·obtain ⟨m,a,L',v1,v2,v3,_⟩:=ok.own hf
  exact ⟨m,a,L',v1,v2,v3,w.fx.frT x AL hf a v1⟩
 ·obtain ⟨k,hk,ek⟩:=List.mem_iff_getElem.mp hq
  have eq:qs[k]?=some q:=by rw [AT hk,ek]
  obtain ⟨p,ep,b⟩:=Paired.exR B.back eq
  rcases hg k p q ep eq with ⟨hz,e⟩ | ⟨hz,e⟩
  ·rw [e]
   refine ⟨fun hf a ea hm=>?_,fun h=>absurd hz h⟩
   have h1:=w.fx.frT x AL hf a ea
   obtain ⟨o,ho⟩:=((ha p (AZ ep)).rep.inH a hm).ex
   have h2:H a=none:=h1
   rw [h2] at ho;exact nsE ho
  ·exact (w.st k q e x AL).symm
end
end L3
end
section
namespace L3
open PySem L2
noncomputable def d9:Fl->Fl
 | .u=>.l
 | f=>f
noncomputable def bP (x:It3):It3:={ x with f:=d9 x.f }
noncomputable def gG:Fl->Fl
 | .l=>.u
 | f=>f
noncomputable def wJ (x:It3):It3:={ x with f:=gG x.f }
noncomputable def lc (h:Fl->Fl) (i:Nat) (ρ:Sto):Sto:=match (ρ[i]?).join with
 | some (d,f)=>ρ.set i (some (d,h f))
 | none=>ρ
noncomputable def bu (h:Fl->Fl) (is:List Nat) (ρ:Sto):Sto:=is.foldl (fun ρ i=>lc h i ρ) ρ
noncomputable def us (ρ:Sto) (is:List Nat):List Nat:=is.filter fun i=>match (ρ[i]?).join with
 | some (_,.u)=>true
 | _=>false
theorem lentF_z {f:Fl}:d9 f=.z ↔ f=.z:=by cases f <;> simp [d9]
theorem unlF_z {f:Fl}:gG f=.z ↔ f=.z:=by cases f <;> simp [gG]
theorem rT (f:Fl):d9 f ≠ .u:=by cases f <;> simp [d9]
theorem yX (f:Fl):gG f ≠ .l:=by cases f <;> simp [gG]
section
variable {K:FG} {G G0:Gm} {W W0:D->Sto->Prop} {H H':Hp} {σ:St} {ρ ρ':Sto} {T T':List It3} {g:Nat->Option It3} {x y z:It3} {α β:Type}
theorem qE {h:Fl->Fl} {i j:Nat}:((lc h i ρ)[j]?).join=if j=i then ((ρ[j]?).join).map (fun p=>(p.1,h p.2)) else (ρ[j]?).join:=by
 unfold lc
 cases e:(ρ[i]?).join with
 | none =>
  by_cases q:j=i
  ·subst q;rw [if_pos rfl,e];rfl
  ·rw [if_neg q]
 | some p =>
  obtain ⟨d,f⟩:=p
  dsimp only
  rw [cb (dF e)]
  by_cases q:j=i
  ·subst q;rw [if_pos rfl,if_pos rfl,e];rfl
  ·rw [if_neg q,if_neg q]
theorem tF {h:Fl->Fl} {i:Nat}:(lc h i ρ).length = ρ.length:=by
 unfold lc
 split
 ·rw [List.length_set]
 ·rfl
theorem fX {h:Fl->Fl} (hh:∀ f,h (h f)=h f):∀ {is:List Nat} {ρ:Sto} {j:Nat},((bu h is ρ)[j]?).join=if j ∈ is then ((ρ[j]?).join).map (fun p=>(p.1,h p.2)) else (ρ[j]?).join
 | [],ρ,j=>by simp [bu]
 | i :: is,ρ,j=>by
  have e:bu h (i :: is) ρ=bu h is (lc h i ρ):=rfl
  rw [e,fX hh,qE]
  by_cases q:j=i
  ·subst q
   by_cases m:j ∈ is
   ·rw [if_pos m,if_pos rfl,if_pos AL]
    cases (ρ[j]?).join with
    | none=>rfl
    | some p=>simp [hh]
   ·rw [if_neg m,if_pos rfl,if_pos AL]
  ·by_cases m:j ∈ is
   ·rw [if_pos m,if_neg q,if_pos (AM _ m)]
   ·rw [if_neg m,if_neg q,if_neg (fun z=>(AS.mp z).elim q m)]
theorem gO {h:Fl->Fl}:∀ {is:List Nat} {ρ:Sto},(bu h is ρ).length = ρ.length
 | [],ρ=>rfl
 | i :: is,ρ=>by
  have e:bu h (i :: is) ρ=bu h is (lc h i ρ):=rfl
  rw [e,gO,tF]
noncomputable def dP (G:Gm) (H:Hp) (g:Nat->Option It3) (is:List Nat):Gm :=
 ⟨H,fun b=>∃ j y,j ∉ is/\g j=some y/\y.f=.u/\y.v=.ref b,G.pr,G.σ0,G.orig,fun c=>G.H0 c=none\/G.src c,fun j=>if j ∈ is then (g j).map (·.v) else G.lv j⟩
structure Fk (x y:It3):Prop where
 d:y.d=x.d
 v:y.v=x.v
 L:y.L=x.L
 z:y.f=.z ↔ x.f=.z
theorem Fk.noRoot {x x' y y':It3} (a:Fk x x') (b:Fk y y') (h:NoRoot x y):NoRoot x' y':=fun hf c e=>by
 rw [b.L]
 exact h (fun q=>hf (a.z.mpr q)) c (by rw [<- a.v];exact e)
theorem Fk.apart {x x' y y':It3} (a:Fk x x') (b:Fk y y') (h:Apart3 x y):Apart3 x' y':=⟨a.noRoot b h.1,b.noRoot a h.2⟩
theorem Fk.refl (x:It3):Fk x x:=⟨rfl,rfl,rfl,Iff.rfl⟩
theorem kB (x:It3):Fk x (bP x):=⟨rfl,rfl,rfl,lentF_z⟩
theorem Au (x:It3):Fk x (wJ x):=⟨rfl,rfl,rfl,unlF_z⟩
theorem pC {o:Option It3} {h:Fl->Fl} {p:Option (D × Fl)} (e:o.map (fun x=>(x.d,x.f))=p):(o.map fun x=>{ x with f:=h x.f }).map (fun x:It3=>(x.d,x.f))=p.map fun p=>(p.1,h p.2):=by
 subst e
 cases o <;> rfl
theorem Wf.enter (w:Wf K G H σ ρ T g) (is:List Nat):Wf K (dP G H g is) H σ (bu d9 is ρ) (T.map bP) (fun j=>if j ∈ is then (g j).map bP else g j):=by
 have val:∀ j u,(if j ∈ is then (g j).map bP else g j)=some u->∃ u0,g j=some u0/\Fk u0 u/\((j ∈ is/\u=bP u0)\/(j ∉ is/\u=u0)):=fun j u h=>by
  by_cases q:j ∈ is
  ·rw [if_pos q] at h
   obtain ⟨u0,e1,e2⟩:=AO.mp h
   subst e2
   exact ⟨u0,e1,kB u0,.inl ⟨q,rfl⟩⟩
  ·rw [if_neg q] at h
   exact ⟨u,h,Fk.refl u,.inr ⟨q,rfl⟩⟩
 refine ⟨by rw [gO];exact w.len,fun j=>?_,fun j u h=>?_,fun j u h=>?_,fun u hu=>?_,fun i j a b n ha hb=>?_,fun j a h b hb=>?_,?_,fun b o e _=>e,w.pro,⟨fun u hu hf a ea=>?_,fun j u h hp hf a ea=>?_,fun b hb=>?_,w.fx.ob,fun j u h hl=>?_⟩⟩
 ·rw [fX (by intro f;cases f <;> rfl)]
  by_cases q:j ∈ is
  ·rw [if_pos q,if_pos q];exact pC (w.sl j)
  ·rw [if_neg q,if_neg q];exact w.sl j
 ·obtain ⟨u0,e,k,_⟩:=val j u h
  rw [k.v];exact w.sv j u0 e
 ·obtain ⟨u0,e,k,c⟩:=val j u h
  have ok:=w.okS j u0 e
  refine ⟨by rw [k.d,k.v,k.L];exact ok.rep,fun hf=>?_,fun c hc=>.inr (ok.src c (by rw [<- k.L];exact hc))⟩
  obtain ⟨m,a,L',v1,v2,v3,_⟩:=ok.own (fun q=>hf (k.z.mpr q))
  refine ⟨by rw [k.d];exact m,a,L',by rw [k.v];exact v1,by rw [k.L];exact v2,v3,fun hu=>?_⟩
  rcases c with ⟨_,rfl⟩ | ⟨nj,rfl⟩
  ·exact absurd hu (rT _)
  ·exact .inr ⟨j,u,nj,e,hu,v1⟩
 ·obtain ⟨u0,h0,rfl⟩:=A2.mp hu
  have ok:=w.okT u0 h0
  refine ⟨ok.rep,fun hf=>?_,fun c hc=>.inr (ok.src c hc)⟩
  obtain ⟨m,a,L',v1,v2,v3,_⟩:=ok.own (fun q=>hf (lentF_z.mpr q))
  exact ⟨m,a,L',v1,v2,v3,fun hu=>absurd hu (rT _)⟩
 ·obtain ⟨a0,e1,k1,_⟩:=val i a ha
  obtain ⟨b0,e2,k2,_⟩:=val j b hb
  exact k1.noRoot k2 (w.ss i j a0 b0 n e1 e2)
 ·obtain ⟨a0,e1,k1,_⟩:=val j a h
  obtain ⟨b0,h0,rfl⟩:=A2.mp hb
  exact k1.apart (kB b0) (w.st j a0 e1 b0 h0)
 ·rw [List.pairwise_map]
  exact w.tt.imp fun {a b} h=>(kB a).apart (kB b) h
 ·obtain ⟨u0,h0,rfl⟩:=A2.mp hu
  exact w.fx.frT u0 h0 (fun q=>hf (lentF_z.mpr q)) a ea
 ·obtain ⟨u0,e,k,_⟩:=val j u h
  exact w.fx.frS j u0 e hp (fun q=>hf (k.z.mpr q)) a (by rw [<- k.v];exact ea)
 ·obtain ⟨j,y,_,e,hf,hv⟩:=hb
  obtain ⟨_,a,L',v1,v2,_⟩:=(w.okS j y e).own (by rw [hf];intro q;cases q)
  rw [hv] at v1;cases v1
  exact ((w.okS j y e).rep.inH b (by rw [v2];exact AL)).ex
 ·obtain ⟨u0,e,k,c⟩:=val j u h
  show (if j ∈ is then (g j).map (·.v) else G.lv j)=_
  rcases c with ⟨q,rfl⟩ | ⟨q,rfl⟩
  ·rw [if_pos q,e];rfl
  ·rw [if_neg q];exact w.fx.lvS j u e hl
theorem Wf.leave {is:List Nat} {σ':St} {ρ2:Sto} {g2:Nat->Option It3} {R:List It3} (w:Wf K G H σ ρ T g) (his:∀ i ∈ is,∀ y,g i=some y->y.f=.u) (hT:T'.Sublist T) (w2:Wf K (dP G H g is) H' σ' ρ2 (R ++ T'.map bP) g2) :
  Wf K G H' σ' (bu gG is ρ2) (R ++ T') (fun j=>if j ∈ is then (g2 j).map wJ else g2 j):=by
 have val:∀ j u,(if j ∈ is then (g2 j).map wJ else g2 j)=some u->∃ u0,g2 j=some u0/\Fk u0 u/\((j ∈ is/\u=wJ u0)\/(j ∉ is/\u=u0)):=fun j u h=>by
  by_cases q:j ∈ is
  ·rw [if_pos q] at h
   obtain ⟨u0,e1,e2⟩:=AO.mp h
   subst e2
   exact ⟨u0,e1,Au u0,.inl ⟨q,rfl⟩⟩
  ·rw [if_neg q] at h
   exact ⟨u,h,Fk.refl u,.inr ⟨q,rfl⟩⟩
 have may:∀ a,H a=none\/(∃ j y,j ∉ is/\g j=some y/\y.f=.u/\y.v=.ref a)->G.H0 a=none\/G.bw a:=fun a h=>by
  rcases h with h | ⟨j,y,_,e,hf,hv⟩
  ·exact .inl (w.h0none h)
  ·obtain ⟨_,a',L',v1,_,_,v4⟩:=(w.okS j y e).own (by rw [hf];intro q;cases q)
   rw [hv] at v1;cases v1
   exact v4 hf
 have srcs:∀ c,H c=none\/(G.H0 c=none\/G.src c)->G.H0 c=none\/G.src c:=fun c h=>by
  rcases h with h | h
  ·exact .inl (w.h0none h)
  ·exact h
 have tm:∀ x ∈ T',x ∈ T:=fun x hx=>hT.subset hx
 have dom:∀ b o,H b=some o->∃ o',H' b=some o':=fun b o hb=>by
  by_cases q:∃ j y,j ∉ is/\g j=some y/\y.f=.u/\y.v=.ref b
  ·exact w2.fx.bin b q
  ·exact ⟨o,w2.base b o hb q⟩
 refine ⟨by rw [gO];exact w2.len,fun j=>?_,fun j u h=>?_,fun j u h=>?_,fun u hu=>?_,fun i j a b n ha hb=>?_,fun j a h b hb=>?_,?_,fun b o e n=>?_,w2.pro,⟨fun u hu=>?_,fun j u h hp hf a ea=>?_,fun b hb=>?_,w2.fx.ob,fun j u h hl=>?_⟩⟩
 ·rw [fX (by intro f;cases f <;> rfl)]
  by_cases q:j ∈ is
  ·rw [if_pos q,if_pos q];exact pC (w2.sl j)
  ·rw [if_neg q,if_neg q];exact w2.sl j
 ·obtain ⟨u0,e,k,_⟩:=val j u h
  rw [k.v];exact w2.sv j u0 e
 ·obtain ⟨u0,e,k,c⟩:=val j u h
  have ok:=w2.okS j u0 e
  refine ⟨by rw [k.d,k.v,k.L];exact ok.rep,fun hf=>?_,fun c hc=>srcs c (ok.src c (by rw [<- k.L];exact hc))⟩
  obtain ⟨m,a,L',v1,v2,v3,v4⟩:=ok.own (fun q=>hf (k.z.mpr q))
  refine ⟨by rw [k.d];exact m,a,L',by rw [k.v];exact v1,by rw [k.L];exact v2,v3,fun hu=>?_⟩
  rcases c with ⟨q,rfl⟩ | ⟨nj,rfl⟩
  ·cases hf0:u0.f with
   | u=>exact may a (v4 hf0)
   | l =>
    have hl:=w2.fx.lvS j u0 e hf0
    have hl:(if j ∈ is then (g j).map (·.v) else G.lv j)=some u0.v:=hl
    rw [if_pos q] at hl
    obtain ⟨y,ey,ev⟩:=AO.mp hl
    have yu:=his j q y ey
    obtain ⟨_,a',L'',b1,_,_,b4⟩:=(w.okS j y ey).own (by rw [yu];intro q;cases q)
    rw [ev,v1] at b1;cases b1
    exact b4 yu
   | z=>exact absurd (unlF_z.mpr hf0) hf
  ·exact may a (v4 hu)
 ·rcases AV.mp hu with hu | hu
  ·have ok:=w2.okT u (AQ _ hu)
   refine ⟨ok.rep,fun hf=>?_,fun c hc=>srcs c (ok.src c hc)⟩
   obtain ⟨m,a,L',v1,v2,v3,v4⟩:=ok.own hf
   exact ⟨m,a,L',v1,v2,v3,fun h=>may a (v4 h)⟩
  ·have ok:=w.okT u (tm u hu)
   exact ⟨(w2.okT (bP u) (AR _ (A2.mpr ⟨u,hu,rfl⟩))).rep,ok.own,ok.src⟩
 ·obtain ⟨a0,e1,k1,_⟩:=val i a ha
  obtain ⟨b0,e2,k2,_⟩:=val j b hb
  exact k1.noRoot k2 (w2.ss i j a0 b0 n e1 e2)
 ·obtain ⟨a0,e1,k1,_⟩:=val j a h
  rcases AV.mp hb with hb | hb
  ·exact k1.apart (Fk.refl b) (w2.st j a0 e1 b (AQ _ hb))
  ·have:=w2.st j a0 e1 (bP b) (AR _ (A2.mpr ⟨b,hb,rfl⟩))
   exact k1.apart (y:=bP b) ⟨rfl,rfl,rfl,lentF_z.symm⟩ this
 ·have h:=List.pairwise_append.mp w2.tt
  refine List.pairwise_append.mpr ⟨h.1,w.tt.sublist hT,fun a ha b hb=>?_⟩
  exact (Fk.refl a).apart (y:=bP b) ⟨rfl,rfl,rfl,lentF_z.symm⟩ (h.2.2 a ha (bP b) (A2.mpr ⟨b,hb,rfl⟩))
 ·have hb:=w.base b o e n
  refine w2.base b o hb fun q=>?_
  rcases may b (.inr q) with h | h
  ·rw [e] at h;cases h
  ·exact n h
 ·rcases AV.mp hu with hu | hu
  ·exact w2.fx.frT u (AQ _ hu)
  ·exact w.fx.frT u (tm u hu)
 ·obtain ⟨u0,e,k,_⟩:=val j u h
  exact w2.fx.frS j u0 e hp (fun q=>hf (k.z.mpr q)) a (by rw [<- k.v];exact ea)
 ·obtain ⟨o,ho⟩:=w.fx.bin b hb
  exact dom b o ho
 ·obtain ⟨u0,e,k,c⟩:=val j u h
  rcases c with ⟨q,rfl⟩ | ⟨q,rfl⟩
  ·exact absurd hl (yX _)
  ·have:=w2.fx.lvS j u e hl
   have this:(if j ∈ is then (g j).map (·.v) else G.lv j)=some u.v:=this
   rw [if_neg q] at this
   exact this
theorem xT {is:List Nat} (w:Wf K G H σ ρ T g) (his:∀ i ∈ is,∀ y,g i=some y->y.f=.u):∀ (H':Hp) (σ':St) (ρ2:Sto) (T2:List It3) (g2:Nat->Option It3),Wf K (dP G H g is) H' σ' ρ2 T2 g2->∃ g3,Wf K G H' σ' (bu gG is ρ2) [] g3 :=
 fun H' σ' ρ2 T2 g2 w2=>⟨_,by simpa using Wf.leave (T':=[]) (R:=[]) w his (List.nil_sublist T) (by simpa using w2.sub (List.nil_sublist T2))⟩
end
end L3
end
section
namespace L3
open PySem L2
section
variable {K:FG} {G G0:Gm} {W W0:D->Sto->Prop} {H H':Hp} {σ:St} {ρ ρ':Sto} {T T':List It3} {g:Nat->Option It3} {x y z:It3} {α β:Type}
noncomputable def Walk (K:FG) (J:It) (H1:Hp) (ys:List It3) (ds:List D):Prop:=∃ els:List It3,(∀ x ∈ els,x.f=.z/\Rep K H1 x.d x.v x.L/\∀ c ∈ x.L,dU ys c) /\
 ∀ (M:Addr->Prop) (H':Hp),(∀ b,M b->MutAt H1 b)->(∀ b o,H1 b=some o->¬ M b->H' b=some o)->(∀ y ∈ ys,∀ b ∈ y.L,¬ M b) ->
  (∀ (i:Nat) (d:D),ds[i]?=some d->J.go i H'/\∀ x H'',J.yld i H' x H''->∃ w,New K H' H'' (cV els) w/\w.d=d/\w.f=.z/\w.v=x)/\J.stop ds.length H'
noncomputable abbrev IM:=M3 (List R3 × List D)
noncomputable def EndI (K:FG) (G:Gm) (W:D->Sto->Prop) (σ:St) (T:List It3) (ρ':Sto) (R:It->Hp->Prop):Except D (List R3 × List D)->Prop
 | .ok p=>∀ J H1 vs Ts g1 ys,Wf K G H1 σ ρ' (Ts ++ T) g1->Ars σ p.1 vs Ts->(∀ y ∈ ys,(∃ i,i ∈ pls p.1/\g1 i=some y)\/y ∈ Ts)->Walk K J H1 ys p.2->R J H1
 | .error e=>W e ρ'
noncomputable def tI (K:FG) (G0:Gm) (W0:D->Sto->Prop) (m:IM):TI:=fun σ H R=>∃ G W,Le K G W G0 W0/\∃ ρ T g r ρ',Wf K G H σ ρ T g/\m ρ=some (r,ρ')/\EndI K G W σ T ρ' R r
theorem tI.seq {m:IM} {k:List R3 × List D->M3 β} {r:Except D β} {P:It->Hp->Prop} (le:Le K G W G0 W0) (w:Wf K G H σ ρ T g) (e:ak m k ρ=some (r,ρ')) (he:∀ x,r=.error x->W x ρ')
  (h:∀ p ρ1,k p ρ1=some (r,ρ')->EndI K G W σ T ρ1 P (.ok p)):tI K G0 W0 m σ H P:=by
 unfold ak at e
 cases q:m ρ with
 | none=>rw [q] at e;exact nsE e
 | some p =>
  obtain ⟨o,ρ1⟩:=p
  rw [q] at e
  cases o with
  | error x=>cases e;exact ⟨G,W,le,ρ,T,g,.error x,ρ',w,q,he x rfl⟩
  | ok ra=>exact ⟨G,W,le,ρ,T,g,.ok ra,ρ1,w,q,h ra ρ1 e⟩
noncomputable def Bnd (K:FG) (pr:Nat->Bool) (tg:TG) (bnd:D->Sto->Option Sto):Prop:=∀ (G:Gm) (H:Hp) (σ:St) (ρ ρ1:Sto) (T:List It3) (g:Nat->Option It3) (w:It3) (Q:St->Hp->Prop),G.pr=pr->w.f=.z->Wf K G H σ ρ (w :: T) g->bnd w.d ρ=some ρ1 ->
 (∀ σ2 g2,Wf K G H σ2 ρ1 T g2->Q σ2 H)->tg w.v σ H Q
noncomputable def aW (i:Nat) (d:D) (ρ:Sto):Option Sto:=if i < ρ.length then some (ρ.set i (some (d,.z))) else none
set_option tactic.hygienic true in
theorem aP {pr:Nat->Bool} {i:Nat} (hp:pr i=false):Bnd K pr (r9 i) (aW i):=fun G H σ ρ ρ1 T g w Q hpr hz wf e q=>by
 unfold aW at e
 split at e
 ·rename_i hi
  cases e
  exact q _ _ (wf.store (f:=.z) hi (by rw [hpr];exact hp) (.inr rfl) (by intro h;cases h))
 ·exact nsE e
noncomputable def wE (K:FG) (pr:Nat->Bool) (tg:TGs) (bnd:List D->Sto->Option Sto):Prop:=∀ (G:Gm) (H:Hp) (σ:St) (ρ ρ1:Sto) (T:List It3) (g:Nat->Option It3) (ws:List It3) (Q:St->Hp->Prop),G.pr=pr->(∀ w ∈ ws,w.f=.z)->Wf K G H σ ρ (ws ++ T) g->bnd (ws.map (·.d)) ρ=some ρ1 ->
 (∀ σ2 g2,Wf K G H σ2 ρ1 T g2->Q σ2 H)->tg (ws.map (·.v)) σ H Q
noncomputable def AF:List D->Sto->Option Sto
 | [],ρ=>some ρ
 | _,_=>none
noncomputable def sB (b:D->Sto->Option Sto) (bs:List D->Sto->Option Sto):List D->Sto->Option Sto
 | [],_=>none
 | d :: ds,ρ=>match b d ρ with
  | some ρ1=>bs ds ρ1
  | none=>none
theorem wu {pr:Nat->Bool}:wE K pr gNil AF:=fun G H σ ρ ρ1 T g ws Q _ _ wf e q=>by
 cases ws with
 | nil=>cases e;exact ⟨rfl,q _ _ wf⟩
 | cons w ws=>exact nsE e
theorem uB {pr:Nat->Bool} {tg:TG} {tgs:TGs} {b:D->Sto->Option Sto} {bs:List D->Sto->Option Sto} (h1:Bnd K pr tg b) (h2:wE K pr tgs bs):wE K pr (yO tg tgs) (sB b bs):=fun G H σ ρ ρ1 T g ws Q hpr hz wf e q=>by
 cases ws with
 | nil=>exact nsE e
 | cons w ws =>
  have e:(match b w.d ρ with | some ρ1=>bs (ws.map (·.d)) ρ1 | none=>none)=some ρ1:=e
  cases q1:b w.d ρ with
  | none=>rw [q1] at e;exact nsE e
  | some ρ2 =>
   rw [q1] at e
   exact ⟨w.v,ws.map (·.v),rfl,h1 G H σ ρ ρ2 (ws ++ T) g w _ hpr (hz w AL) wf q1 fun σ2 g2 w2=>h2 G H σ2 ρ2 ρ1 T g2 ws Q hpr (fun x hx=>hz x (AM _ hx)) w2 e q⟩
noncomputable def AE (n:Nat) (bs:List D->Sto->Option Sto):D->Sto->Option Sto
 | .tup ds,ρ=>if ds.length=n then bs ds ρ else none
 | _,_=>none
theorem Reps.split:∀ {ds:List D} {vs:List V} {L:List Addr},Reps (Rep K H) ds vs L->∃ ws:List It3,ws.map (·.d)=ds/\ws.map (·.v)=vs/\(∀ w ∈ ws,w.f=.z/\Rep K H w.d w.v w.L/\∀ c ∈ w.L,c ∈ L)
 | _,_,_,.nil=>⟨[],rfl,rfl,fun _ h=>(by cases h)⟩
 | _,_,_,.cons (d:=d) (v:=v) (L:=L) r rs=>by
  obtain ⟨ws,h1,h2,h3⟩:=Reps.split rs
  refine ⟨⟨d,v,L,.z⟩ :: ws,by simp [h1],by simp [h2],fun w hw=>?_⟩
  rcases AS.mp hw with h | h
  ·subst h;exact ⟨rfl,r,fun c hc=>AQ _ hc⟩
  ·exact ⟨(h3 w h).1,(h3 w h).2.1,fun c hc=>AR _ ((h3 w h).2.2 c hc)⟩
theorem Wf.pushAll:∀ {ws:List It3} {T:List It3},Wf K G H σ ρ T g->(∀ w ∈ ws,w.f=.z/\Rep K H w.d w.v w.L/\∀ c ∈ w.L,dG T g c/\(G.H0 c=none\/G.src c))->Wf K G H σ ρ (ws ++ T) g
 | [],T,w,_=>w
 | x :: ws,T,w,h=>by
  have w1:=Wf.pushAll (ws:=ws) w fun y hy=>h y (AM _ hy)
  obtain ⟨hz,hr,hc⟩:=h x AL
  refine w1.push (Ks:=fun c=>c ∈ x.L) ⟨Same.refl _,hr,fun c h=>.inr h,fun q=>absurd hz q⟩ fun c m=>⟨⟨(hc c m).1.1,fun y hy hf=>?_⟩,(hc c m).2⟩
  rcases AV.mp hy with q | q
  ·exact absurd (h y (AM _ q)).1 hf
  ·exact (hc c m).1.2 y q hf
set_option tactic.hygienic true in
theorem yh {pr:Nat->Bool} {n:Nat} {tgs:TGs} {bs:List D->Sto->Option Sto} (h2:wE K pr tgs bs):Bnd K pr (gTup K n tgs) (AE n bs):=fun G H σ ρ ρ1 T g w Q hpr hz wf e q=>by
 have r:=(wf.okT w AL).rep
 obtain ⟨d,v,L,f⟩:=w
 cases r with
 | @tup xs a vs _ hs rs =>
  have e:(if xs.length=n then bs xs ρ else none)=some ρ1:=e
  split at e
  ·rename_i hl
   obtain ⟨ws,h1,h3,h4⟩:=Reps.split rs
   refine ⟨a,vs,rfl,SqT.of hs,?_,?_⟩
   ·rw [<- h3,AX,<- hl,<- h1,AX]
   ·have w1:Wf K G H σ ρ (ws ++ (⟨.tup xs,.ref a,L,f⟩ :: T)) g:=wf.pushAll fun u hu=>⟨(h4 u hu).1,(h4 u hu).2.1,fun c hc=>⟨wf.kid (y:=⟨.tup xs,.ref a,L,f⟩) (.inr AL) ((h4 u hu).2.2 c hc) fun hf=>absurd hz hf,(wf.okT _ AL).src c ((h4 u hu).2.2 c hc)⟩⟩
    have w2:Wf K G H σ ρ (ws ++ T) g:=w1.sub ((List.Sublist.refl ws).append (List.sublist_cons_self _ _))
    rw [<- h3]
    exact h2 G H σ ρ ρ1 T g ws Q hpr (fun u hu=>(h4 u hu).1) w2 (by rw [h1];exact e) q
  ·exact nsE e
 | non=>exact nsE e
 | bl b=>exact nsE e
 | int i=>exact nsE e
 | str s=>exact nsE e
 | lst _ _=>exact nsE e
 | lstF _ _=>exact nsE e
 | dK _ _ _=>exact nsE e
 | dT _ _ _=>exact nsE e
 | exc _ _=>exact nsE e
noncomputable def lr (bnd:D->Sto->Option Sto) (b:SM):List D->SM
 | []=>bU .nx
 | d :: ds=>fun ρ=>match bnd d ρ with
  | none=>none
  | some ρ1=>ak b (fun f=>match f with
   | .nx=>lr bnd b ds
   | .ct=>lr bnd b ds
   | .br=>bU .nx
   | .rt d f=>bU (.rt d f)) ρ1
noncomputable def gw (im:IM) (bnd:D->Sto->Option Sto) (b:SM):SM:=ak im fun p=>fun ρ=>(lr bnd b p.2 (bu d9 (us ρ (pls p.1)) ρ)).map fun r=>(r.1,bu gG (us ρ (pls p.1)) r.2)
theorem us_u {is:List Nat} (w:Wf K G H σ ρ T g):∀ i ∈ us ρ is,∀ y,g i=some y->y.f=.u:=fun i hi y ey=>by
 have h:=(Bk.mp hi).2
 have s:=w.sl i
 rw [ey] at s
 have s:some (y.d,y.f)=(ρ[i]?).join:=s
 rw [<- s] at h
 cases hf:y.f with
 | u=>rfl
 | l=>rw [hf] at h;cases h
 | z=>rw [hf] at h;cases h
theorem uK {is:List Nat} {i:Nat} (w:Wf K G H σ ρ T g) (hi:i ∈ is) (ey:g i=some y) (hf:y.f=.u):i ∈ us ρ is:=by
 refine Bk.mpr ⟨hi,?_⟩
 have s:=w.sl i
 rw [ey] at s
 have s:some (y.d,y.f)=(ρ[i]?).join:=s
 rw [<- s,hf]
theorem ze {im:IM} {bnd:D->Sto->Option Sto} {b:SM} {tg:TG} {E:Ends} (hb:Bnd K G0.pr tg bnd) (h:tS K G0 W0 (gw im bnd b) E σ H):tFor (tI K G0 W0 im) tg (tS K G0 W0 b) E σ H:=by
 refine h.use fun G W le ρ T g r ρ' w e q=>?_
 refine tI.seq le w e q.err fun p ρ1 e1=>?_
 intro J H1 vs Ts g1 ys w1 a1 hys hw
 have his:=us_u (is:=pls p.1) w1
 have hus:∀ i y,i ∈ pls p.1->g1 i=some y->y.f=.u->i ∈ us ρ1 (pls p.1):=fun i y hi ey hf=>uK w1 hi ey hf
 generalize us ρ1 (pls p.1)=is at e1 his hus
 have w2:=w1.enter is
 obtain ⟨els,hels,walk⟩:=hw
 have hM:∀ b,(∃ j y,j ∉ is/\g1 j=some y/\y.f=.u/\y.v=.ref b)->MutAt H1 b:=fun b ⟨j,y,_,ey,hf,hv⟩=>by
  obtain ⟨_,a,L',v1,v2,_⟩:=(w1.okS j y ey).own (by rw [hf];intro q;cases q)
  rw [hv] at v1;cases v1
  exact (w1.okS j y ey).rep.inH b (by rw [v2];exact AL)
 have hysM:∀ y ∈ ys,∀ b ∈ y.L,¬ ∃ j y,j ∉ is/\g1 j=some y/\y.f=.u/\y.v=.ref b:=fun y hy b hb ⟨j,y',nj,ey',hf,hv⟩=>by
  have hfz:y'.f ≠ .z:=by rw [hf];intro q;cases q
  rcases hys y hy with ⟨i,hi,ei⟩ | hy
  ·by_cases ij:i=j
   ·subst ij
    rw [ei] at ey';cases ey'
    exact nj (hus i y hi ei hf)
   ·exact w1.ss j i y' y (Ne.symm ij) ey' ei hfz b hv hb
  ·exact (w1.st j y' ey' y (AQ _ hy)).1 hfz b hv hb
 have hitm:∀ y ∈ ys,Itm (Ts ++ T) g1 y:=fun y hy=>by
  rcases hys y hy with ⟨i,_,ei⟩ | h
  ·exact .inl ⟨i,ei⟩
  ·exact .inr (AQ _ h)
 have kid:∀ x ∈ els,∀ c ∈ x.L,dG ((Ts ++ T).map bP) (fun j=>if j ∈ is then (g1 j).map bP else g1 j) c/\(H1 c=none\/(G.H0 c=none\/G.src c)):=fun x hx c hc=>by
  obtain ⟨nr,sr⟩:=w1.kids hitm ((hels x hx).2.2 c hc)
  refine ⟨⟨fun i z ez hf hv=>?_,fun z hz hf hv=>?_⟩,.inr sr⟩
  ·have ez:(if i ∈ is then (g1 i).map bP else g1 i)=some z:=ez
   by_cases q:i ∈ is
   ·rw [if_pos q] at ez
    obtain ⟨z0,e0,e1⟩:=AO.mp ez
    subst e1
    exact nr.1 i z0 e0 (fun q=>hf (lentF_z.mpr q)) hv
   ·rw [if_neg q] at ez
    exact nr.1 i z ez hf hv
  ·obtain ⟨z0,h0,rfl⟩:=A2.mp hz
   exact nr.2 z0 h0 (fun q=>hf (lentF_z.mpr q)) hv
 have w3:Wf K (dP G H1 g1 is) H1 σ (bu d9 is ρ1) (els ++ (Ts ++ T).map bP) (fun j=>if j ∈ is then (g1 j).map bP else g1 j):=w2.pushAll fun x hx=>⟨(hels x hx).1,(hels x hx).2.1,fun c hc=>kid x hx c hc⟩
 cases e2:lr bnd b p.2 (bu d9 is ρ1) with
 | none=>rw [e2] at e1;exact nsE e1
 | some rr =>
  obtain ⟨r2,ρ3⟩:=rr
  rw [e2] at e1
  have er:r2=r/\bu gG is ρ3 = ρ':=by cases e1;exact ⟨rfl,rfl⟩
  obtain ⟨rfl,eρ⟩:=er
  have leave:∀ {σ':St} {H':Hp} {ρ2:Sto} {g2:Nat->Option It3} {R:List It3},Wf K (dP G H1 g1 is) H' σ' ρ2 (R ++ (els ++ (Ts ++ T).map bP)) g2->∃ g3,Wf K G H' σ' (bu gG is ρ2) (R ++ T) g3:=fun {σ' H' ρ2 g2 R} w4 =>
   ⟨_,Wf.leave (T:=Ts ++ T) (T':=T) (R:=R) w1 his (A0 Ts T) (w4.sub ((List.Sublist.refl R).append (by
    rw [List.map_append]
    exact (A0 (Ts.map bP) (T.map bP)).trans (A0 els _))))⟩
  have le1:Le K (dP G H1 g1 is) (fun e ρ2=>W e (bu gG is ρ2)) G W:=⟨rfl,fun H' σ' ρ2 T2 g2 e w4 he=>by
   obtain ⟨g3,w5⟩:=xT w1 his H' σ' ρ2 T2 g2 w4
   exact ⟨_,[],g3,w5,he⟩⟩
  have le':Le K (dP G H1 g1 is) (fun e ρ2=>W e (bu gG is ρ2)) G0 W0:=le1.trans le
  refine ⟨fun k m σ' H'=>k<=p.2.length/\m=p.2.length - k/\∃ ρ2 g2,Wf K (dP G H1 g1 is) H' σ' ρ2 (els ++ (Ts ++ T).map bP) g2/\lr bnd b (p.2.drop k) ρ2=some (r2,ρ3),⟨_,Nat.zero_le _,rfl,_,_,w3,e2⟩,?_⟩
  rintro k m σ' H' ⟨hk,rfl,ρ2,g2,w4,e4⟩
  obtain ⟨wgo,wstop⟩:=walk _ H' hM (fun b o hb hn=>w4.base b o hb hn) hysM
  by_cases hlt:k < p.2.length
  ·obtain ⟨d,hd⟩:∃ d,p.2[k]?=some d:=⟨_,AT hlt⟩
   have hdrop:p.2.drop k=d :: p.2.drop (k+1):=by
    rw [List.drop_eq_getElem_cons hlt]
    rw [AT hlt] at hd
    cases hd;rfl
   rw [hdrop] at e4
   obtain ⟨go,yld⟩:=wgo k d hd
   refine .inr ⟨go,fun σ5 H5=>∃ ρ5 g5,Wf K (dP G H1 g1 is) H5 σ5 ρ5 (els ++ (Ts ++ T).map bP) g5/\lr bnd b (p.2.drop (k+1)) ρ5=some (r2,ρ3),fun σ5 H5 ⟨ρ5,g5,w5,e5⟩=>⟨p.2.length - (k+1),by omega,hlt,rfl,ρ5,g5,w5,e5⟩,fun x H'' hy=>?_⟩
   obtain ⟨u,nu,ud,uf,uv⟩:=yld x H'' hy
   have w5:Wf K (dP G H1 g1 is) H'' σ' ρ2 (u :: (els ++ (Ts ++ T).map bP)) g2:=w4.push nu fun c hc=>w4.alls (ys:=els) (fun y hy=>⟨.inr (AQ _ hy),(hels y hy).1⟩) hc
   have e5:(match bnd d ρ2 with
    | none=>none
    | some ρ1=>ak b (fun f=>match f with
     | .nx=>lr bnd b (p.2.drop (k+1))
     | .ct=>lr bnd b (p.2.drop (k+1))
     | .br=>bU .nx
     | .rt d f=>bU (.rt d f)) ρ1)=some (r2,ρ3):=e4
   cases e6:bnd d ρ2 with
   | none=>rw [e6] at e5;exact nsE e5
   | some ρ6 =>
    rw [e6] at e5
    dsimp only at e5
    rw [<- uv]
    refine hb (dP G H1 g1 is) H'' σ' ρ2 ρ6 _ g2 u _ le.pr uf w5 (by rw [ud];exact e6) fun σ6 g6 w6=>?_
    unfold ak at e5
    cases e7:b ρ6 with
    | none=>rw [e7] at e5;exact nsE e5
    | some pr7 =>
     obtain ⟨o7,ρ7⟩:=pr7
     rw [e7] at e5
     cases o7 with
     | error er =>
      cases e5
      refine tS.mk (r:=.error er) le' w6 e7 ?_
      show W er (bu gG is _)
      rw [eρ];exact q
     | ok f =>
      cases f with
      | nx=>exact tS.mk (r:=.ok .nx) le' w6 e7 fun σ8 H8 g8 w8=>⟨ρ7,g8,w8,e5⟩
      | ct=>exact tS.mk (r:=.ok .ct) le' w6 e7 fun σ8 H8 g8 w8=>⟨ρ7,g8,w8,e5⟩
      | br =>
       cases e5
       refine tS.mk (r:=.ok .br) le' w6 e7 fun σ8 H8 g8 w8=>?_
       obtain ⟨g9,w9⟩:=leave (R:=[]) w8
       rw [eρ] at w9
       exact q _ _ _ w9
      | rt d' f' =>
       cases e5
       refine tS.mk (r:=.ok (.rt d' f')) le' w6 e7 fun x8 σ8 H8 g8 w8 x1 x2=>?_
       obtain ⟨g9,w9⟩:=leave (R:=[x8]) w8
       rw [eρ] at w9
       exact q x8 _ _ _ w9 x1 x2
  ·have ek:k=p.2.length:=by omega
   subst ek
   rw [List.drop_length] at e4
   cases e4
   obtain ⟨g9,w9⟩:=leave (R:=[]) w4
   rw [eρ] at w9
   exact .inl ⟨wstop,q _ _ _ w9⟩
end
end L3
end
section
namespace L3
open PySem L2
noncomputable def wn (ix:List (Option Nat)) (ρ:Sto):Sto:=ix.map fun o=>match o with
 | some i=>(ρ[i]?).join
 | none=>none
noncomputable def uncap:List (Option Nat)->Sto->Sto->Option Sto
 | [],_,ρ=>some ρ
 | none :: ix,τ,ρ=>uncap ix τ.tail ρ
 | some i :: ix,τ,ρ=>match (ρ[i]?).join,τ.head? with
  | some (_,f),some (some (d',f'))=>if f'=f\/f'=.z then uncap ix τ.tail (ρ.set i (some (d',f'))) else none
  | _,_=>none
noncomputable def fJ (bnd:D->Sto->Option Sto) (c:M3 Bool) (elt:EM):List D->M3 (List D)
 | []=>bU []
 | d :: ds=>fun τ=>match bnd d τ with
  | none=>none
  | some τ1=>ak c (fun b=>if b then ak elt (fun r=>ak (ie r) fun p=>ak (fJ bnd c elt ds) fun l=>bU (p.1 :: l)) else fJ bnd c elt ds) τ1
noncomputable def bS (im:IM) (bnd:D->Sto->Option Sto) (c:M3 Bool) (elt:EM) (ix:List (Option Nat)):EM:=ak im fun p=>fun ρ =>
 match fJ bnd c elt p.2 (wn ix (bu d9 (us ρ (pls p.1)) ρ)) with
 | some (.ok ds,τ)=>if p.2.length < 16777216 then (uncap ix τ (bu d9 (us ρ (pls p.1)) ρ)).map fun ρ2=>(.ok (.val (.lst ds) .u),bu gG (us ρ (pls p.1)) ρ2) else none
 | _=>none
section
variable {K:FG} {G G0:Gm} {W W0:D->Sto->Prop} {H H':Hp} {σ τ:St} {ρ ρ':Sto} {T T':List It3} {g:Nat->Option It3} {x y z:It3} {α β:Type} {ix:List (Option Nat)}
noncomputable def Inj (ix:List (Option Nat)):Prop:=∀ (j k i:Nat),ix[j]?=some (some i)->ix[k]?=some (some i)->j=k
noncomputable def xX (ix:List (Option Nat)) (g:Nat->Option It3) (j:Nat):Option It3:=(ix[j]?).join.bind g
noncomputable def qy (ix:List (Option Nat)) (n:Nat) (g:Nat->Option It3):List It3:=(List.range n).filterMap fun i=>if some i ∈ ix then none else g i
noncomputable def wo (G:Gm) (ix:List (Option Nat)) (σ:St):Gm:=⟨G.H0,G.bw,fun j=>((ix[j]?).join).isSome,cap ix σ,fun _=>none,G.src,fun j=>(ix[j]?).join.bind G.lv⟩
theorem dI {j:Nat} (h:xX ix g j=some x):∃ i,ix[j]?=some (some i)/\g i=some x:=by
 unfold xX at h
 cases e:ix[j]? with
 | none=>rw [e] at h;exact nsE h
 | some o =>
  rw [e] at h
  cases o with
  | none=>exact nsE h
  | some i=>exact ⟨i,rfl,h⟩
set_option tactic.hygienic true in
theorem lb {n:Nat} (h:x ∈ qy ix n g):∃ i,some i ∉ ix/\g i=some x:=by
 obtain ⟨i,_,e⟩:=List.mem_filterMap.mp h
 split at e
 ·exact nsE e
 ·rename_i hn;exact ⟨i,hn,e⟩
theorem vx {n i:Nat} (hi:i < n) (hn:some i ∉ ix) (e:g i=some x):x ∈ qy ix n g:=List.mem_filterMap.mpr ⟨i,List.mem_range.mpr hi,by rw [if_neg hn];exact e⟩
theorem Wf.cap (w:Wf K G H σ ρ T g) (hij:Inj ix):Wf K (wo G ix σ) H (cap ix σ) (wn ix ρ) (qy ix ρ.length g ++ T) (xX ix g):=by
 have ne:∀ {i j:Nat},ix[j]?=some (some i)->∀ k,some k ∉ ix->i ≠ k:=fun e k hk q=>hk (by rw [<- q];exact AZ e)
 refine ⟨by unfold L2.cap wn;rw [AX,AX],fun j=>?_,fun j x h=>?_,fun j x h=>?_,fun x hx=>?_,fun j k x y n hx hy=>?_,fun j x h y hy=>?_,?_,w.base,fun _ _=>rfl,⟨fun _ _ _ _ _=>rfl,fun _ _ _ _ _ _ _=>rfl,w.fx.bin,fun b o e=>(by cases e),fun j x h hl=>?_⟩⟩
 ·unfold xX wn
  rw [A3]
  cases e:ix[j]? with
  | none=>rfl
  | some o =>
   cases o with
   | none=>rfl
   | some i=>exact w.sl i
 ·obtain ⟨i,e1,e2⟩:=dI h
  unfold L2.cap
  rw [A3,e1]
  show some ((σ[i]?).getD none)=_
  rw [w.sv i x e2];rfl
 ·obtain ⟨i,_,e2⟩:=dI h
  have ok:=w.okS i x e2
  exact ⟨ok.rep,ok.own,ok.src⟩
 ·rcases AV.mp hx with h | h
  ·obtain ⟨i,_,e⟩:=lb h
   have ok:=w.okS i x e
   exact ⟨ok.rep,ok.own,ok.src⟩
  ·have ok:=w.okT x h
   exact ⟨ok.rep,ok.own,ok.src⟩
 ·obtain ⟨i,e1,e2⟩:=dI hx
  obtain ⟨i',e3,e4⟩:=dI hy
  exact w.ss i i' x y (fun q=>n (hij j k i e1 (q ▸ e3))) e2 e4
 ·obtain ⟨i,e1,e2⟩:=dI h
  rcases AV.mp hy with q | q
  ·obtain ⟨k,hk,e⟩:=lb q
   have:=ne e1 k hk
   exact ⟨w.ss i k x y this e2 e,w.ss k i y x (Ne.symm this) e e2⟩
  ·exact w.st i x e2 y q
 ·refine List.pairwise_append.mpr ⟨?_,w.tt,fun a ha b hb=>?_⟩
  ·unfold qy
   rw [List.pairwise_filterMap]
   refine List.pairwise_lt_range.imp fun {i k} lt a ha b hb=>?_
   have ha':(if some i ∈ ix then none else g i)=some a:=ha
   have hb':(if some k ∈ ix then none else g k)=some b:=hb
   split at ha'
   ·cases ha'
   ·split at hb'
    ·cases hb'
    ·exact ⟨w.ss i k a b (A6 lt) ha' hb',w.ss k i b a (Nat.ne_of_gt lt) hb' ha'⟩
  ·obtain ⟨k,hk,e⟩:=lb ha
   exact w.st k a e b hb
 ·obtain ⟨i,e1,e2⟩:=dI h
  show (ix[j]?).join.bind G.lv=_
  rw [e1]
  exact w.fx.lvS i x e2 hl
theorem Wf.perm {T T':List It3} (w:Wf K G H σ ρ T g) (p:T.Perm T'):Wf K G H σ ρ T' g :=
 ⟨w.len,w.sl,w.sv,w.okS,fun x hx=>w.okT x (p.mem_iff.mpr hx),w.ss,fun i x e y hy=>w.st i x e y (p.mem_iff.mpr hy),(p.pairwise_iff fun h=>Apart3.symm h).mp w.tt,w.base,w.pro,w.fx.sub fun x hx=>p.mem_iff.mpr hx⟩
set_option tactic.hygienic true in
theorem gH:∀ {ix:List (Option Nat)} {τ ρ ρ2:Sto},uncap ix τ ρ=some ρ2->Inj ix->ρ2.length = ρ.length/\(∀ i,some i ∉ ix->(ρ2[i]?).join=(ρ[i]?).join) /\
  ∀ (j i:Nat),ix[j]?=some (some i)->∃ p q,(ρ[i]?).join=some p/\(τ[j]?).join=some q/\(ρ2[i]?).join=some q/\(q.2=p.2\/q.2=.z)
 | [],τ,ρ,ρ2,e,_=>by cases e;exact ⟨rfl,fun _ _=>rfl,fun j i h=>by simp at h⟩
 | none :: ix,τ,ρ,ρ2,e,hij=>by
  unfold uncap at e
  obtain ⟨h1,h2,h3⟩:=gH e fun j k i a b=>by
   have:=hij (j+1) (k+1) i (by simpa using a) (by simpa using b)
   omega
  refine ⟨h1,fun i hi=>h2 i fun q=>hi (AM _ q),fun j i h=>?_⟩
  cases j with
  | zero=>simp at h
  | succ j =>
   obtain ⟨p,q,a,b,c⟩:=h3 j i (by simpa using h)
   exact ⟨p,q,a,by rw [List.getElem?_tail] at b;exact b,c⟩
 | some i0 :: ix,τ,ρ,ρ2,e,hij=>by
  unfold uncap at e
  cases e1:(ρ[i0]?).join with
  | none=>rw [e1] at e;exact nsE e
  | some p =>
   obtain ⟨d,f⟩:=p
   cases e2:τ.head? with
   | none=>rw [e1,e2] at e;exact nsE e
   | some o =>
    cases o with
    | none=>rw [e1,e2] at e;exact nsE e
    | some q =>
     obtain ⟨d',f'⟩:=q
     rw [e1,e2] at e
     dsimp only at e
     split at e
     ·rename_i hf
      have hi0:=dF e1
      have no0:some i0 ∉ ix:=fun m=>by
       obtain ⟨k,hk,ek⟩:=List.mem_iff_getElem.mp m
       have:=hij 0 (k+1) i0 rfl (by simp [hk,ek])
       omega
      obtain ⟨h1,h2,h3⟩:=gH e fun j k i a b=>by
       have:=hij (j+1) (k+1) i (by simpa using a) (by simpa using b)
       omega
      refine ⟨by rw [h1,List.length_set],fun i hi=>?_,fun j i h=>?_⟩
      ·rw [h2 i fun q=>hi (AM _ q),cb hi0,if_neg (fun q=>hi (by rw [q];exact AL))]
      ·cases j with
       | zero =>
        simp at h
        subst h
        refine ⟨(d,f),(d',f'),e1,?_,?_,hf⟩
        ·rw [List.head?_eq_getElem?] at e2;rw [e2];rfl
        ·rw [h2 i0 no0,cb hi0,if_pos rfl]
       | succ j =>
        have hji:ix[j]?=some (some i):=by simpa using h
        obtain ⟨p,q,a,b,c⟩:=h3 j i hji
        have ii:i ≠ i0:=fun z=>no0 (by rw [<- z];exact AZ hji)
        rw [cb hi0,if_neg ii] at a
        exact ⟨p,q,a,by rw [List.getElem?_tail] at b;exact b,c⟩
     ·exact nsE e
theorem Wf.uncap {τ':St} {τρ ρ2:Sto} {gC:Nat->Option It3} {R:List It3} (w:Wf K G H σ ρ T g) (hH:∀ b o,H b=some o->G.H0 b=some o) (hij:Inj ix) (e:L3.uncap ix τρ ρ=some ρ2) (hR:∀ x ∈ R,x.f=.z) (w2:Wf K (wo G ix σ) H' τ' τρ (R ++ (qy ix ρ.length g ++ T)) gC) :
  ∃ g2,Wf K G H' σ ρ2 (R ++ T) g2:=by
 obtain ⟨hl,h2,h3⟩:=gH e hij
 let inv (i:Nat):Option Nat:=(List.range ix.length).find? fun j=>decide (ix[j]?=some (some i))
 have inv_some:∀ i j,inv i=some j->ix[j]?=some (some i):=fun i j h=>by simpa using List.find?_some h
 have inv_none:∀ i,inv i=none->some i ∉ ix:=fun i h m=>by
  obtain ⟨k,hk,ek⟩:=List.mem_iff_getElem.mp m
  have:=List.find?_eq_none.mp h k (List.mem_range.mpr hk)
  simp [hk,ek] at this
 let g2 (i:Nat):Option It3:=match inv i with | some j=>gC j | none=>g i
 have val:∀ i u,g2 i=some u->(∃ j p q,ix[j]?=some (some i)/\gC j=some u/\(ρ[i]?).join=some p/\(τρ[j]?).join=some q/\(q.2=p.2\/q.2=.z))\/(some i ∉ ix/\g i=some u):=fun i u h=>by
  have h':(match inv i with | some j=>gC j | none=>g i)=some u:=h
  cases ei:inv i with
  | none=>rw [ei] at h';exact .inr ⟨inv_none i ei,h'⟩
  | some j =>
   rw [ei] at h'
   obtain ⟨p,q,a,b,_,c⟩:=h3 j i (inv_some i j ei)
   exact .inl ⟨j,p,q,inv_some i j ei,h',a,b,c⟩
 have out:∀ i u,some i ∉ ix->g i=some u->u ∈ qy ix ρ.length g:=fun i u hn e=>by
  have s:=w.sl i
  rw [e] at s
  exact vx (dF s.symm) hn e
 have back:∀ i j u,ix[j]?=some (some i)->gC j=some u->σ[i]?=some (some u.v):=fun i j u ej eu=>by
  have a:=w2.sv j u eu
  have b:=w2.pro j (by show ((ix[j]?).join).isSome=true;rw [ej];rfl)
  rw [a] at b
  have b:some (some u.v)=(L2.cap ix σ)[j]?:=b
  unfold L2.cap at b
  rw [A3,ej] at b
  have b:some (some u.v)=some ((σ[i]?).getD none):=b
  cases q:σ[i]? with
  | none=>rw [q] at b;cases b
  | some o=>rw [q] at b;cases b;rfl
 have was:∀ i j u p q,ix[j]?=some (some i)->gC j=some u->(ρ[i]?).join=some p->(τρ[j]?).join=some q->(q.2=p.2\/q.2=.z)->∃ y,g i=some y/\y.v=u.v/\(u.f=y.f\/u.f=.z):=fun i j u p q ej eu ep eq hf=>by
  obtain ⟨y,y1,y2,y3,y4⟩:=w.slot (d:=p.1) (f:=p.2) ep
  have b:=back i j u ej eu
  rw [y4] at b
  have s:=w2.sl j
  rw [eu,eq] at s
  have s:some (u.d,u.f)=some q:=s
  refine ⟨y,y1,by injection b with b;injection b,?_⟩
  rw [y3,show u.f=q.2 by injection s with s;rw [<- s]]
  exact hf
 refine ⟨g2,⟨by rw [hl];exact w.len,fun i=>?_,fun i u h=>?_,fun i u h=>?_,fun u hu=>?_,fun i k a b n ha hb=>?_,fun i a h b hb=>?_,w2.tt.sublist ((List.Sublist.refl R).append (A0 _ T)),w2.base,w.pro,⟨fun u hu hf=>?_,fun i u h hp hf a ea=>?_,w2.fx.bin,fun b o hb=>?_,fun i u h hl=>?_⟩⟩⟩
 ·show (match inv i with | some j=>gC j | none=>g i).map _=_
  cases ei:inv i with
  | none=>rw [h2 i (inv_none i ei)];exact w.sl i
  | some j =>
   obtain ⟨p,q,a,b,c,_⟩:=h3 j i (inv_some i j ei)
   rw [c,<- b];exact w2.sl j
 ·rcases val i u h with ⟨j,p,q,ej,eu,_⟩ | ⟨hn,e⟩
  ·exact back i j u ej eu
  ·exact w.sv i u e
 ·rcases val i u h with ⟨j,p,q,ej,eu,_⟩ | ⟨hn,e⟩
  ·have ok:=w2.okS j u eu
   exact ⟨ok.rep,ok.own,ok.src⟩
  ·have ok:=w2.okT u (AR _ (AQ _ (out i u hn e)))
   exact ⟨ok.rep,ok.own,ok.src⟩
 ·have ok:=w2.okT u (by
   rcases AV.mp hu with q | q
   ·exact AQ _ q
   ·exact AR _ (AR _ q))
  exact ⟨ok.rep,ok.own,ok.src⟩
 ·rcases val i a ha with ⟨j,p,q,ej,eu,_⟩ | ⟨hn,e⟩
  ·rcases val k b hb with ⟨j',p',q',ej',eu',_⟩ | ⟨hn',e'⟩
   ·exact w2.ss j j' a b (fun z=>n (by subst z;rw [ej] at ej';injection ej' with z;injection z)) eu eu'
   ·exact (w2.st j a eu b (AR _ (AQ _ (out k b hn' e')))).1
  ·rcases val k b hb with ⟨j',p',q',ej',eu',_⟩ | ⟨hn',e'⟩
   ·exact (w2.st j' b eu' a (AR _ (AQ _ (out i a hn e)))).2
   ·exact w.ss i k a b n e e'
 ·have hb':b ∈ R ++ (qy ix ρ.length g ++ T):=by
   rcases AV.mp hb with q | q
   ·exact AQ _ q
   ·exact AR _ (AR _ q)
  rcases val i a h with ⟨j,p,q,ej,eu,_⟩ | ⟨hn,e⟩
  ·exact w2.st j a eu b hb'
  ·rcases AV.mp hb with q | q
   ·exact ((List.pairwise_append.mp w2.tt).2.2 b q a (AQ _ (out i a hn e))).symm
   ·exact w.st i a e b q
 ·rcases AV.mp hu with q | q
  ·exact absurd (hR u q) hf
  ·exact w.fx.frT u q hf
 ·rcases val i u h with ⟨j,p,q,ej,eu,ep,eq,hc⟩ | ⟨hn,e⟩
  ·obtain ⟨y,y1,y2,y3⟩:=was i j u p q ej eu ep eq hc
   refine w.fx.frS i y y1 hp (fun z=>hf ?_) a (by rw [y2];exact ea)
   rcases y3 with h | h
   ·rw [h];exact z
   ·exact h
  ·exact w.fx.frS i u e hp hf a ea
 ·obtain ⟨o',ho⟩:=w.fx.ob b o hb
  have h0:=hH b o' ho
  by_cases q:G.bw b
  ·exact w2.fx.bin b q
  ·exact ⟨o',w2.base b o' h0 q⟩
 ·rcases val i u h with ⟨j,p,q,ej,eu,ep,eq,hc⟩ | ⟨hn,e⟩
  ·obtain ⟨y,y1,y2,y3⟩:=was i j u p q ej eu ep eq hc
   rw [<- y2]
   refine w.fx.lvS i y y1 ?_
   rcases y3 with h | h
   ·rw [<- h];exact hl
   ·rw [h] at hl;cases hl
  ·exact w.fx.lvS i u e hl
theorem ue {J:It} {H1:Hp} {ys els:List It3} {ds:List D} {bnd:D->Sto->Option Sto} {c:M3 Bool} {elt:EM} {tg:TG} {tc:TT} {te:TE} {Gc:Gm} {Rst:List It3} {ds':List D} {τρ τρ':Sto} {gC:Nat->Option It3} {Z:List V->Hp->Prop} {M:Addr->Prop}
  (hz:(16777216:Nat)=sizeLine) (hel:∀ x ∈ els,x ∈ Rst/\x.f=.z)
  (hgo:∀ H',(∀ b o,H1 b=some o->¬ Gc.bw b->H' b=some o)->(∀ (i:Nat) (d:D),ds[i]?=some d->J.go i H'/\∀ x H'',J.yld i H' x H''->∃ w,New K H' H'' (cV els) w/\w.d=d/\w.f=.z/\w.v=x)/\J.stop ds.length H')
  (h0:Gc.H0=H1) (hb:Bnd K Gc.pr tg bnd) (htc:∀ σ H Q,tT K Gc (fun _ _=>False) c σ H Q->tc σ H Q) (hte:∀ σ H Q,tE K Gc (fun _ _=>False) elt σ H Q->te σ H Q)
  (hlen:ds.length < 16777216) (w:Wf K Gc H1 τ τρ Rst gC) (e:fJ bnd c elt ds τρ=some (.ok ds',τρ'))
  (hZ:∀ (us:List It3) (τ':St) (H':Hp) (g':Nat->Option It3),(∀ x ∈ us,x.f=.z)->us.map (·.d)=ds'->Wf K Gc H' τ' τρ' (us ++ Rst) g'->Z (us.map (·.v)) H'):qc J tg tc te Z τ H1:=by
 refine ⟨fun i m vs τ' H'=>i<=ds.length/\m=ds.length - i/\vs.length<=i/\∃ (us:List It3) (ρ2:Sto) (g2:Nat->Option It3) (r:List D),(∀ x ∈ us,x.f=.z)/\us.map (·.v)=vs/\Wf K Gc H' τ' ρ2 (us ++ Rst) g2/\fJ bnd c elt (ds.drop i) ρ2=some (.ok r,τρ')/\us.map (·.d) ++ r=ds',⟨_,Nat.zero_le _,rfl,A4 _,[],τρ,gC,ds',fun _ h=>(by cases h),rfl,w,e,rfl⟩,?_⟩
 rintro i m vs τ1 H2 ⟨hi,rfl,hvl,us,ρ2,g2,r,huz,huv,w2,e2,hds⟩
 refine ⟨by omega,?_⟩
 obtain ⟨wgo,wstop⟩:=hgo H2 fun b o hb' hn=>w2.base b o (by rw [h0];exact hb') hn
 by_cases hlt:i < ds.length
 ·obtain ⟨d,hd⟩:∃ d,ds[i]?=some d:=⟨_,AT hlt⟩
  have hdrop:ds.drop i=d :: ds.drop (i+1):=by
   rw [List.drop_eq_getElem_cons hlt]
   rw [AT hlt] at hd
   cases hd;rfl
  rw [hdrop] at e2
  obtain ⟨go,yld⟩:=wgo i d hd
  refine .inr ⟨go,fun vs5 τ5 H5=>vs5.length<=i+1/\∃ (us:List It3) (ρ5:Sto) (g5:Nat->Option It3) (r:List D),(∀ x ∈ us,x.f=.z)/\us.map (·.v)=vs5/\Wf K Gc H5 τ5 ρ5 (us ++ Rst) g5/\fJ bnd c elt (ds.drop (i+1)) ρ5=some (.ok r,τρ')/\us.map (·.d) ++ r=ds',
   fun vs5 τ5 H5 ⟨hl5,h5⟩=>⟨ds.length - (i+1),by omega,hlt,rfl,hl5,h5⟩,fun x H'' hy=>?_⟩
  obtain ⟨u,nu,ud,uf,uv⟩:=yld x H'' hy
  have w3:Wf K Gc H'' τ1 ρ2 (u :: (us ++ Rst)) g2:=w2.push nu fun c hc=>w2.alls (ys:=els) (fun y hy=>⟨.inr (AR _ (hel y hy).1),(hel y hy).2⟩) hc
  have e3:(match bnd d ρ2 with
   | none=>none
   | some τ1=>ak c (fun b=>if b then ak elt (fun r=>ak (ie r) fun p=>ak (fJ bnd c elt (ds.drop (i+1))) fun l=>bU (p.1 :: l)) else fJ bnd c elt (ds.drop (i+1))) τ1)=some (.ok r,τρ'):=e2
  cases e4:bnd d ρ2 with
  | none=>rw [e4] at e3;exact nsE e3
  | some ρ3 =>
   rw [e4] at e3
   dsimp only at e3
   rw [<- uv]
   refine hb Gc H'' τ1 ρ2 ρ3 _ g2 u _ rfl uf w3 (by rw [ud];exact e4) fun τ4 g4 w4=>?_
   refine htc _ _ _ (tT.seq (Le.refl K Gc _) w4 e3 (fun x hx=>by cases hx) fun b ρ5 e5 H5 g5 w5=>?_)
   cases b with
   | false =>
    simp only [Bj,if_false] at e5 ⊢
    exact ⟨by omega,us,ρ5,g5,r,huz,huv,w5,e5,hds⟩
   | true =>
    simp only [if_true] at e5 ⊢
    refine hte _ _ _ (tE.seq (Le.refl K Gc _) w5 e5 (fun x hx=>by cases hx) fun ra ρ6 e6 v H6 ⟨Ts,g6,w6,a6⟩=>?_)
    obtain ⟨p,ρ7,g7,x7,e7,w7,f1,f2,_,f3⟩:=a6.take w6 e6
    have w8:=Wf.lowT (Ts:=[x7]) w7
    unfold ak at e7
    cases e8:fJ bnd c elt (ds.drop (i+1)) ρ7 with
    | none=>rw [e8] at e7;exact nsE e7
    | some pr =>
     obtain ⟨o,ρ8⟩:=pr
     rw [e8] at e7
     cases o with
     | error x=>cases e7
     | ok l =>
      cases e7
      refine ⟨by rw [Bd];simp;omega,us ++ [dq x7],ρ7,g7,l,fun y hy=>?_,by rw [List.map_append,huv,<- f3];rfl,?_,e8,?_⟩
      ·rcases AV.mp hy with h | h
       ·exact huz y h
       ·rw [Bi.mp h];rfl
      ·exact w8.perm (by
        show ([dq x7] ++ (us ++ Rst)).Perm (us ++ [dq x7] ++ Rst)
        rw [<- List.append_assoc]
        exact (List.perm_append_comm).append_right Rst)
      ·rw [List.map_append,List.append_assoc]
       show us.map (·.d) ++ ((dq x7).d :: l)=ds'
       rw [show (dq x7).d=p.1 from f1]
       exact hds
 ·have ei:i=ds.length:=by omega
  subst ei
  rw [List.drop_length] at e2
  cases e2
  rw [List.append_nil] at hds
  subst huv
  exact .inl ⟨wstop,hZ us τ1 H2 g2 huz hds w2⟩
end
end L3
end
section
namespace L3
open PySem L2
section
variable {K:FG} {G G0:Gm} {W W0:D->Sto->Prop} {H H':Hp} {σ τ:St} {ρ ρ':Sto} {T T':List It3} {g:Nat->Option It3} {x y z:It3} {α β:Type} {ix:List (Option Nat)}
noncomputable def cu (ix:List (Option Nat)):Gm:=⟨fun _=>none,fun _=>False,fun j=>((ix[j]?).join).isSome,[],fun _=>none,fun _=>False,fun _=>none⟩
noncomputable abbrev noX:D->Sto->Prop:=fun _ _=>False
theorem rW {G1:Gm} (h:G1.pr=(cu ix).pr) (le:Le K G W G1 noX):Le K G W (cu ix) noX:=⟨le.pr.trans h,fun H σ ρ T g e w q=>by
 obtain ⟨_,_,_,_,f⟩:=le.ex H σ ρ T g e w q
 exact f.elim⟩
theorem wS {G1:Gm} {m:EM} {Q:VK} (h:G1.pr=(cu ix).pr) (q:tE K G1 noX m σ H Q):tE K (cu ix) noX m σ H Q:=by
 obtain ⟨G,W,le,r⟩:=q
 exact ⟨G,W,rW h le,r⟩
theorem wL {G1:Gm} {m:M3 Bool} {Q:Bool->Hp->Prop} (h:G1.pr=(cu ix).pr) (q:tT K G1 noX m σ H Q):tT K (cu ix) noX m σ H Q:=by
 obtain ⟨G,W,le,r⟩:=q
 exact ⟨G,W,rW h le,r⟩
noncomputable def fy:M3 Bool:=bU true
theorem yY {Q:Bool->Hp->Prop} (h:tT K G0 W0 fy σ H Q):tYes σ H Q:=by
 refine h.use fun G W le ρ T g o ρ' w e q=>?_
 cases e
 exact q _ _ w
set_option tactic.hygienic true in
theorem jC {bnd:D->Sto->Option Sto} {c:M3 Bool} {elt:EM}:∀ {ds ds':List D} {τρ τρ':Sto},fJ bnd c elt ds τρ=some (.ok ds',τρ')->ds'.length<=ds.length
 | [],ds',τρ,τρ',e=>by cases e;exact A4 _
 | d :: ds,ds',τρ,τρ',e=>by
  unfold fJ at e
  split at e
  ·exact nsE e
  ·rename_i τ1 _
   unfold ak at e
   split at e
   ·exact nsE e
   ·cases e
   ·rename_i b τ2 _
    cases b with
    | false =>
     simp only [Bj,if_false] at e
     have:=jC e
     simp;omega
    | true =>
     simp only [if_true] at e
     split at e
     ·exact nsE e
     ·cases e
     ·split at e
      ·exact nsE e
      ·cases e
      ·split at e
       ·exact nsE e
       ·cases e
       ·rename_i l τ5 h5
        cases e
        have:=jC h5
        simp;omega
set_option tactic.hygienic true in
theorem wl {im:IM} {bnd:D->Sto->Option Sto} {c:M3 Bool} {elt:EM} {tg:TG} {o:Except D R3} {Z:List V->Hp->Prop} (hz:(16777216:Nat)=sizeLine) (hij:Inj ix) (hb:Bnd K (cu ix).pr tg bnd) (le:Le K G W G0 W0) (w:Wf K G H σ ρ T g) (e:bS im bnd c elt ix ρ=some (o,ρ')) (he:∀ x,o=.error x->W x ρ')
  (hZ:∀ (us:List It3) (H':Hp) (g':Nat->Option It3) (Ts:List It3) (ds:List D),o=.ok (.val (.lst ds) .u)->(∀ x ∈ us,x.f=.z)->us.map (·.d)=ds->us.length<=16777216->Wf K G H' σ ρ' (us ++ T) g'->Z (us.map (·.v)) H') :
  tI K G0 W0 im σ H fun J H1=>qc J tg (tT K (cu ix) noX c) (tE K (cu ix) noX elt) Z (cap ix σ) H1:=by
 refine tI.seq le w e he fun p ρ1 e1=>?_
 intro J H1 vs Ts g1 ys w1 a1 hys hw
 have his:=us_u (is:=pls p.1) w1
 have hus:∀ i y,i ∈ pls p.1->g1 i=some y->y.f=.u->i ∈ us ρ1 (pls p.1):=fun i y hi ey hf=>uK w1 hi ey hf
 generalize us ρ1 (pls p.1)=is at e1 his hus
 have w2:=w1.enter is
 obtain ⟨els,hels,walk⟩:=hw
 have hM:∀ b,(∃ j y,j ∉ is/\g1 j=some y/\y.f=.u/\y.v=.ref b)->MutAt H1 b:=fun b ⟨j,y,_,ey,hf,hv⟩=>by
  obtain ⟨_,a,L',v1,v2,_⟩:=(w1.okS j y ey).own (by rw [hf];intro q;cases q)
  rw [hv] at v1;cases v1
  exact (w1.okS j y ey).rep.inH b (by rw [v2];exact AL)
 have hysM:∀ y ∈ ys,∀ b ∈ y.L,¬ ∃ j y,j ∉ is/\g1 j=some y/\y.f=.u/\y.v=.ref b:=fun y hy b hb ⟨j,y',nj,ey',hf,hv⟩=>by
  have hfz:y'.f ≠ .z:=by rw [hf];intro q;cases q
  rcases hys y hy with ⟨i,hi,ei⟩ | hy
  ·by_cases ij:i=j
   ·subst ij
    rw [ei] at ey';cases ey'
    exact nj (hus i y hi ei hf)
   ·exact w1.ss j i y' y (Ne.symm ij) ey' ei hfz b hv hb
  ·exact (w1.st j y' ey' y (AQ _ hy)).1 hfz b hv hb
 have hitm:∀ y ∈ ys,Itm (Ts ++ T) g1 y:=fun y hy=>by
  rcases hys y hy with ⟨i,_,ei⟩ | h
  ·exact .inl ⟨i,ei⟩
  ·exact .inr (AQ _ h)
 have kid:∀ x ∈ els,∀ c ∈ x.L,dG ((Ts ++ T).map bP) (fun j=>if j ∈ is then (g1 j).map bP else g1 j) c/\(H1 c=none\/(G.H0 c=none\/G.src c)):=fun x hx c hc=>by
  obtain ⟨nr,sr⟩:=w1.kids hitm ((hels x hx).2.2 c hc)
  refine ⟨⟨fun i z ez hf hv=>?_,fun z hz hf hv=>?_⟩,.inr sr⟩
  ·have ez:(if i ∈ is then (g1 i).map bP else g1 i)=some z:=ez
   by_cases q:i ∈ is
   ·rw [if_pos q] at ez
    obtain ⟨z0,e0,e1⟩:=AO.mp ez
    subst e1
    exact nr.1 i z0 e0 (fun q=>hf (lentF_z.mpr q)) hv
   ·rw [if_neg q] at ez
    exact nr.1 i z ez hf hv
  ·obtain ⟨z0,h0,rfl⟩:=A2.mp hz
   exact nr.2 z0 h0 (fun q=>hf (lentF_z.mpr q)) hv
 have w3:Wf K (dP G H1 g1 is) H1 σ (bu d9 is ρ1) (els ++ (Ts ++ T).map bP) (fun j=>if j ∈ is then (g1 j).map bP else g1 j):=w2.pushAll fun x hx=>⟨(hels x hx).1,(hels x hx).2.1,fun c hc=>kid x hx c hc⟩
 have w4:=w3.cap hij
 cases e2:fJ bnd c elt p.2 (wn ix (bu d9 is ρ1)) with
 | none=>rw [e2] at e1;exact nsE e1
 | some rr =>
  obtain ⟨o2,τρ⟩:=rr
  rw [e2] at e1
  cases o2 with
  | error x=>exact nsE e1
  | ok ds =>
   dsimp only at e1
   split at e1
   ·rename_i hlen
    cases e3:uncap ix τρ (bu d9 is ρ1) with
    | none=>rw [e3] at e1;exact nsE e1
    | some ρ3 =>
     rw [e3] at e1
     have eo:o=.ok (.val (.lst ds) .u)/\ρ'=bu gG is ρ3:=by cases e1;exact ⟨rfl,rfl⟩
     obtain ⟨eo,eρ⟩:=eo
     refine ue (K:=K) (Gc:=wo (dP G H1 g1 is) ix σ) (els:=els) (M:=fun _=>False) (ys:=ys) hz (fun x hx=>⟨AR _ (AQ _ hx),(hels x hx).1⟩) (fun H' hk=>walk _ H' hM hk hysM) rfl hb (fun σ' H Q q=>wL (G1:=wo (dP G H1 g1 is) ix σ) rfl q) (fun σ' H Q q=>wS (G1:=wo (dP G H1 g1 is) ix σ) rfl q) hlen w4 e2 fun us τ' H' g' huz hud w5=>?_
     obtain ⟨g6,w6⟩:=Wf.uncap w3 (fun b o h=>h) hij e3 huz w5
     have w7:=Wf.leave (T:=Ts ++ T) (T':=T) (R:=us) w1 his (A0 Ts T) (w6.sub ((List.Sublist.refl us).append (by
      rw [List.map_append]
      exact (A0 (Ts.map bP) (T.map bP)).trans (A0 els _))))
     have hle:us.length<=16777216:=by
      have h1:us.length=ds.length:=by rw [<- hud,AX]
      have h2:=jC e2
      omega
     rw [<- eρ] at w7
     exact hZ us H' _ Ts ds eo huz hud hle w7
   ·exact nsE e1
theorem uh {us:List It3} {p:Addr} (w:Wf K G H σ ρ (us ++ T) g) (huz:∀ x ∈ us,x.f=.z) (hp:H p=none) :
  Wf K G (upd H p (.lst (us.map (·.v)))) σ ρ (⟨.lst (us.map (·.d)),.ref p,p :: (us.map (·.L)).flatten,.u⟩ :: T) g:=by
 have hi:∀ y ∈ us,Itm (us ++ T) g y/\y.f=.z:=fun y hy=>⟨.inr (AQ _ hy),huz y hy⟩
 have np:p ∉ (us.map (·.L)).flatten:=fun hc=>by
  obtain ⟨y,hm,hc⟩:=eS hc
  obtain ⟨o,ho⟩:=((w.itm (hi y hm).1).rep.inH p hc).ex
  rw [hp] at ho;exact nsE ho
 have n:New K H (upd H p (.lst (us.map (·.v)))) (cV us) ⟨.lst (us.map (·.d)),.ref p,p :: (us.map (·.L)).flatten,.u⟩:=⟨bF hp,.lst aV ((kz fun y hy=>(w.itm (hi y hy).1).rep).same (bF hp)),fun c hc=>by
  rcases AS.mp hc with e | hc
  ·rw [e];exact .inl hp
  ·exact .inr (eS hc),fun _=>⟨rfl,p,_,rfl,rfl,np,hp⟩⟩
 exact (w.push n fun c h=>w.alls hi h).sub (List.Sublist.cons_cons _ (A0 us T))
theorem rC {im:IM} {bnd:D->Sto->Option Sto} {c:M3 Bool} {elt:EM} {tg:TG} {Q:VK} (hz:(16777216:Nat)=sizeLine) (hij:Inj ix) (hb:Bnd K (cu ix).pr tg bnd) (h:tE K G0 W0 (bS im bnd c elt ix) σ H Q) :
  uS (tI K G0 W0 im) tg (tT K (cu ix) noX c) (tE K (cu ix) noX elt) ix σ H Q:=by
 refine h.use fun G W le ρ T g o ρ' w e q=>?_
 refine wl hz hij hb le w e q.err fun us H' g' Ts ds eo huz hud hl w1=>?_
 subst eo hud
 intro p hp
 have w2:=uh w1 huz hp
 exact q (.ref p) _ ⟨[_],g',w2,Ar.val (⟨.lst (us.map (·.d)),.ref p,p :: (us.map (·.L)).flatten,.u⟩:It3)⟩
end
end L3
end
section
namespace L3
open PySem L2
section
variable {K:FG} {G G0:Gm} {W W0:D->Sto->Prop} {H H':Hp} {σ:St} {ρ ρ':Sto} {T T':List It3} {g:Nat->Option It3} {x y z:It3} {α β:Type}
theorem Wf.mutate {i:Nat} {a:Addr} {o':HO} {d':D} {L0:List Addr} (w:Wf K G H σ ρ T g) (ey:g i=some y) (hu:y.f=.u) (ev:y.v=.ref a) (hm:iS d'=true) (rep:Rep K (upd H a o') d' (.ref a) (a :: L0)) (na:a ∉ L0)
  (hk:∀ c ∈ L0,dG T g c/\(G.H0 c=none\/G.src c)):Wf K G (upd H a o') σ (ρ.set i (some (d',.u))) T (fun j=>if j=i then some ⟨d',.ref a,a :: L0,.u⟩ else g j):=by
 have hfz:y.f ≠ .z:=by rw [hu];intro q;cases q
 have oy:=w.okS i y ey
 obtain ⟨_,a',L',v1,v2,v3,v4⟩:=oy.own hfz
 rw [ev] at v1;cases v1
 have hi:i < ρ.length:=by
  have:=w.sl i
  rw [ey] at this
  exact dF this.symm
 have ma:MutAt H a:=oy.rep.inH a (by rw [v2];exact AL)
 have val:∀ j u,(if j=i then some (⟨d',.ref a,a :: L0,.u⟩:It3) else g j)=some u->(j=i/\u=⟨d',.ref a,a :: L0,.u⟩)\/(j ≠ i/\g j=some u):=fun j u h=>by
  by_cases q:j=i
  ·rw [if_pos q] at h;cases h;exact .inl ⟨q,rfl⟩
  ·rw [if_neg q] at h;exact .inr ⟨q,h⟩
 have keep:∀ u,ItOk K G H u->a ∉ u.L->ItOk K G (upd H a o') u:=fun u ou hn=>ou.keep (M:=fun b=>b=a) (fun b o hb n=>by rw [aw n];exact hb) (fun b e=>by rw [e];exact ma) fun b hb e=>hn (by rw [<- e];exact hb)
 have nS:∀ j u,j ≠ i->g j=some u->a ∉ u.L:=fun j u n e=>w.ss i j y u (Ne.symm n) ey e hfz a ev
 have nT:∀ u ∈ T,a ∉ u.L:=fun u hu'=>(w.st i y ey u hu').1 hfz a ev
 have dom:∀ b o,H b=some o->∃ o'',upd H a o' b=some o'':=fun b o hb=>by
  by_cases q:b=a
  ·rw [q,aV];exact ⟨_,rfl⟩
  ·rw [aw q];exact ⟨o,hb⟩
 refine ⟨by rw [List.length_set];exact w.len,fun j=>?_,fun j u h=>?_,fun j u h=>?_,fun u hu'=>keep u (w.okT u hu') (nT u hu'),fun j k p q n hp hq=>?_,fun j u h t ht=>?_,w.tt,fun b o e n=>?_,w.pro,⟨w.fx.frT,fun j u h hp hf b eb=>?_,fun b hb=>?_,fun b o hb=>?_,fun j u h hl=>?_⟩⟩
 ·rw [cb hi]
  by_cases q:j=i
  ·rw [if_pos q,if_pos q];rfl
  ·rw [if_neg q,if_neg q];exact w.sl j
 ·rcases val j u h with ⟨rfl,rfl⟩ | ⟨n,h⟩
  ·rw [w.sv j y ey,ev]
  ·exact w.sv j u h
 ·rcases val j u h with ⟨rfl,rfl⟩ | ⟨n,h⟩
  ·refine ⟨rep,fun _=>⟨hm,a,L0,rfl,rfl,na,fun _=>v4 hu⟩,fun c hc=>?_⟩
   rcases AS.mp hc with e | hc
   ·rw [e];exact oy.src a (by rw [v2];exact AL)
   ·exact (hk c hc).2
  ·exact keep u (w.okS j u h) (nS j u n h)
 ·rcases val j p hp with ⟨ej,ep⟩ | ⟨n1,hp'⟩
  ·rcases val k q hq with ⟨ek,eq⟩ | ⟨n2,hq'⟩
   ·exact absurd (ej.trans ek.symm) n
   ·rw [ep]
    intro _ c ec
    cases ec
    exact nS k q n2 hq'
  ·rcases val k q hq with ⟨ek,eq⟩ | ⟨n2,hq'⟩
   ·rw [eq]
    intro hf c ec hc
    rcases AS.mp hc with e | hc
    ·obtain ⟨_,b,L2,u1,u2,_⟩:=(w.okS j p hp').own hf
     rw [ec] at u1;cases u1
     exact nS j p n1 hp' (by rw [<- e,u2];exact AL)
    ·exact (hk c hc).1.1 j p hp' hf ec
   ·exact w.ss j k p q n hp' hq'
 ·rcases val j u h with ⟨ej,eu⟩ | ⟨n,h'⟩
  ·rw [eu]
   refine ⟨fun _ c ec=>by cases ec;exact nT t ht,fun hf c ec hc=>?_⟩
   rcases AS.mp hc with e | hc
   ·obtain ⟨_,b,L2,u1,u2,_⟩:=(w.okT t ht).own hf
    rw [ec] at u1;cases u1
    exact nT t ht (by rw [<- e,u2];exact AL)
   ·exact (hk c hc).1.2 t ht hf ec
  ·exact w.st j u h' t ht
 ·have:b ≠ a:=fun z=>by
   subst z
   rcases v4 hu with h | h
   ·rw [e] at h;cases h
   ·exact n h
  rw [aw this];exact w.base b o e n
 ·rcases val j u h with ⟨ej,eu⟩ | ⟨n,h'⟩
  ·subst ej
   rw [eu] at eb
   cases eb
   exact w.fx.frS j y ey hp hfz a ev
  ·exact w.fx.frS j u h' hp hf b eb
 ·obtain ⟨o,ho⟩:=w.fx.bin b hb
  exact dom b o ho
 ·obtain ⟨o2,ho⟩:=w.fx.ob b o hb
  exact dom b o2 ho
 ·rcases val j u h with ⟨ej,eu⟩ | ⟨n,h'⟩
  ·rw [eu] at hl;cases hl
  ·exact w.fx.lvS j u h' hl
noncomputable def MutD (K:FG) (r:V->List V->Hp->VK->Prop) (f:D->List D->Option (D × D)):Prop:=∀ (a:Addr) (d:D) (L0:List Addr) (as:List It3) (H:Hp) (Q:VK) (p:D × D),Rep K H d (.ref a) (a :: L0)->iS d=true->a ∉ L0->(∀ x ∈ as,Rep K H x.d x.v x.L)->(∀ x ∈ as,a ∉ x.L)->f d (as.map (·.d))=some p ->
 (∀ (o':HO) (L1:List Addr) (w:It3),Rep K (upd H a o') p.1 (.ref a) (a :: L1)->iS p.1=true->(∀ c ∈ L1,c ∈ L0\/cV as c)->w.f=.z->w.d=p.2->Rep K (upd H a o') w.d w.v w.L->(∀ c ∈ w.L,c ∈ L0\/cV as c)->Q w.v (upd H a o'))->r (.ref a) (as.map (·.v)) H Q
noncomputable def chk (ok:D->Bool) (i:Nat):M3 Unit:=fun ρ=>match (ρ[i]?).join with
 | some (d,_)=>if ok d then some (.ok (),ρ) else none
 | none=>none
theorem oF {i:Nat} {k:R3->M3 β} {r:Except D β} (e:ak (ag i) k ρ=some (r,ρ')):∃ p,(ρ[i]?).join=some p/\k (.pl i) ρ=some (r,ρ'):=by
 unfold ak ag at e
 cases q:(ρ[i]?).join with
 | none=>rw [q] at e;exact nsE e
 | some p=>rw [q] at e;exact ⟨p,rfl,e⟩
theorem wm {ok:D->Bool} {i:Nat} {k:Unit->M3 β} {r:Except D β} (e:ak (chk ok i) k ρ=some (r,ρ')):(∀ p,(ρ[i]?).join=some p->ok p.1=true)/\k () ρ=some (r,ρ'):=by
 unfold ak chk at e
 cases q:(ρ[i]?).join with
 | none=>rw [q] at e;exact nsE e
 | some p =>
  rw [q] at e
  dsimp only at e
  cases h:ok p.1 with
  | false=>rw [h] at e;exact nsE e
  | true=>rw [h] at e;exact ⟨fun p' e'=>by cases e';exact h,e⟩
noncomputable def vJ (ok:D->Bool) (f:D->List D->Option (D × D)) (i:Nat) (ms:M3 (List R3)):EM:=ak (ag i) fun _=>ak (chk ok i) fun _=>ak ms fun rs=>ak (gives rs) fun ds=>fun ρ=>match (ρ[i]?).join with
 | some (d,.u)=>match f d ds with
  | some p=>some (.ok (.val p.2 .z),ρ.set i (some (p.1,.u)))
  | none=>none
 | _=>none
theorem Wf.changed {i:Nat} {d:D} {as us:List It3} {r:V->List V->Hp->VK->Prop} {f:D->List D->Option (D × D)} {p:D × D} {v:V} {Q:VK} (hr:MutD K r f) (w:Wf K G H σ ρ (us ++ T) g) (e:(ρ[i]?).join=some (d,.u)) (hv:σ[i]?=some (some v)) (ha:∀ y ∈ as,Itm (us ++ T) g y/\y.f=.z)
  (ef:f d (as.map (·.d))=some p) (q:∀ v H',Got K G σ (ρ.set i (some (p.1,.u))) T (.val p.2 .z) v H'->Q v H'):r v (as.map (·.v)) H Q:=by
 obtain ⟨y,y1,y2,y3,y4⟩:=w.slot e
 rw [hv] at y4
 injection y4 with y4
 injection y4 with y4
 have hfz:y.f ≠ .z:=by rw [y3];intro q;cases q
 have oy:=w.okS i y y1
 obtain ⟨m,a,L0,v1,v2,v3,_⟩:=oy.own hfz
 have ra:=oy.rep
 rw [v1,v2,y2] at ra
 rw [y2] at m
 rw [y4,v1]
 have na:∀ x ∈ as,a ∉ x.L:=fun x hx hc=>by
  have:=(w.kid (ha x hx).1 hc fun hf=>absurd (ha x hx).2 hf).1 i y y1 hfz
  exact this v1
 refine hr a d L0 as H Q p ra m v3 (fun x hx=>(w.itm (ha x hx).1).rep) na ef fun o' L1 u r1 m1 s1 uf ud ur us1=>?_
 have hsrc:∀ c,(c ∈ L0\/cV as c)->dG (us ++ T) g c/\(G.H0 c=none\/G.src c):=fun c hc=>by
  rcases hc with hc | hc
  ·have hc':c ∈ y.L:=by rw [v2];exact AM _ hc
   exact ⟨w.kid (.inl ⟨i,y1⟩) hc' fun _ ez=>by rw [v1] at ez;cases ez;exact v3 hc,oy.src c hc'⟩
  ·exact w.alls ha hc
 have nL:∀ c,(c ∈ L0\/cV as c)->c ≠ a:=fun c hc z=>(hsrc c hc).1.1 i y y1 hfz (by rw [z];exact v1)
 have w1:=w.mutate (o':=o') y1 y3 v1 m1 r1 (fun h=>nL a (s1 a h) rfl) fun c hc=>hsrc c (s1 c hc)
 have w2:=w1.pushAll (ws:=[u]) fun x hx=>by
  rw [Bi.mp hx]
  refine ⟨uf,ur,fun c hc=>?_⟩
  have s:=hsrc c (us1 c hc)
  refine ⟨⟨fun j z ez hf hz=>?_,s.1.2⟩,s.2⟩
  have ez:(if j=i then some (⟨p.1,.ref a,a :: L1,.u⟩:It3) else g j)=some z:=ez
  by_cases q:j=i
  ·rw [if_pos q] at ez
   cases ez
   cases hz
   exact nL a (us1 a hc) rfl
  ·rw [if_neg q] at ez
   exact s.1.1 j z ez hf hz
 rw [<- ud,<- uf] at q
 exact q u.v _ ⟨[u],_,w2.sub ((List.Sublist.refl [u]).append (A0 us T)),.val u⟩
theorem zk {i:Nat} {Ty:String} {ok:D->Bool} {ms:M3 (List R3)} {r:V->List V->Hp->VK->Prop} {f:D->List D->Option (D × D)} {Q:VK} (hr:MutD K r f) (hok:∀ d v L H,ok d=true->Rep K H d v L->tyV K Ty v H) (h:tE K G0 W0 (vJ ok f i ms) σ H Q):tBM K Ty r (sK i) (tA K G0 W0 ms) σ H Q:=by
 refine h.use fun G W le ρ T g o ρ' w e q=>?_
 obtain ⟨p0,e0,e⟩:=oF e
 obtain ⟨hk,e⟩:=wm e
 obtain ⟨d0,f0⟩:=p0
 obtain ⟨y,y1,y2,y3,y4⟩:=w.slot e0
 refine ⟨y.v,y4,hok d0 y.v y.L H (hk _ e0) (by rw [<- y2];exact (w.okS i y y1).rep),?_⟩
 refine tA.seq le w e q.err fun rs ρ1 e1 vs H1 Ts g1 w1 a1=>?_
 obtain ⟨ds,ρ2,g2,e2,_,w2,_,ys,hy,f1,f2⟩:=a1.gives w1 e1
 subst f1 f2
 cases e3:(ρ2[i]?).join with
 | none=>rw [e3] at e2;exact nsE e2
 | some p3 =>
  obtain ⟨d3,f3⟩:=p3
  rw [e3] at e2
  cases f3 with
  | u =>
   dsimp only at e2
   cases e4:f d3 (ys.map (·.d)) with
   | none=>rw [e4] at e2;exact nsE e2
   | some p =>
    rw [e4] at e2
    cases e2
    exact w2.changed hr e3 y4 hy e4 q
  | l=>exact nsE e2
  | z=>exact nsE e2
noncomputable def kZ (t:V->V->V->Hp->(Hp->Prop)->Prop):V->List V->Hp->VK->Prop:=fun x vs H Q=>∃ k v,vs=[k,v]/\t x k v H fun H'=>Q .non H'
noncomputable def qm (f:D->List D->Option (D × D)) (i:Nat) (mk mv:EM):SM:=ak mv fun rv=>ak (ag i) fun _=>ak mk fun rk=>ak (gives [rk,rv]) fun ds=>fun ρ=>match (ρ[i]?).join with
 | some (d,.u)=>match f d ds with
  | some p=>some (.ok .nx,ρ.set i (some (p.1,.u)))
  | none=>none
 | _=>none
theorem y9 {i:Nat} {mk mv:EM} {t:uE} {f:D->List D->Option (D × D)} {E:Ends} (hr:MutD K (kZ t) f) (h:tS K G0 W0 (qm f i mk mv) E σ H):uT (tE K G0 W0 mv) (gSub (sK i) (tE K G0 W0 mk) t) E σ H:=by
 refine h.use fun G W le ρ T g r ρ' w e q=>?_
 refine tE.seq le w e q.err fun rv ρ1 e1 v H1 ⟨Ts,g1,w1,a1⟩=>?_
 obtain ⟨p0,e0,e1⟩:=oF e1
 obtain ⟨d0,f0⟩:=p0
 obtain ⟨y,y1,y2,y3,y4⟩:=w1.slot e0
 refine ⟨y.v,y4,?_⟩
 ·refine tE.seq le w1 e1 q.err fun rk ρ2 e2 vk H2 ⟨Us,g2,w2,a2⟩=>?_
  have a3:Ars σ [rk,rv] [vk,v] (([] ++ Ts) ++ Us):=.cons a2 (.cons a1 .nil)
  have w3:Wf K G H2 σ ρ2 ((([] ++ Ts) ++ Us) ++ T) g2:=w2.perm (by
   rw [List.nil_append,<- List.append_assoc]
   exact (List.perm_append_comm).append_right T)
  obtain ⟨ds,ρ3,g3,e3,_,w4,_,ys,hy,f1,f2⟩:=a3.gives w3 e2
  subst f1
  cases e4:(ρ3[i]?).join with
  | none=>rw [e4] at e3;exact nsE e3
  | some p3 =>
   obtain ⟨d3,f3⟩:=p3
   rw [e4] at e3
   cases f3 with
   | u =>
    dsimp only at e3
    cases e5:f d3 (ys.map (·.d)) with
    | none=>rw [e5] at e3;exact nsE e3
    | some p =>
     rw [e5] at e3
     cases e3
     have:=w4.changed (Q:=fun _ H'=>E.nx σ H') hr e4 y4 hy e5 fun v' H' ⟨Vs,g5,w5,a5⟩=>q _ _ _ (w5.sub (A0 Vs T))
     rw [f2] at this
     obtain ⟨k',v',ekv,ht⟩:=this
     cases ekv
     exact ht
   | l=>exact nsE e3
   | z=>exact nsE e3
end
end L3
end
section
namespace L3
open PySem L2
structure RE (X:Cx) (G0:Gm) (W0:D->Sto->Prop) (e:Expr) (m:EM):Prop where
 h:PE X e (tE X.K G0 W0 m)
structure RT (X:Cx) (G0:Gm) (W0:D->Sto->Prop) (e:Expr) (m:M3 Bool):Prop where
 h:PT X e (tT X.K G0 W0 m)
structure RW (X:Cx) (G0:Gm) (W0:D->Sto->Prop) (e:Expr) (m:M3 Bool):Prop where
 h:PW X e (tT X.K G0 W0 m)
structure RA (X:Cx) (G0:Gm) (W0:D->Sto->Prop) (es:List Expr) (m:M3 (List R3)):Prop where
 h:PA X es (tA X.K G0 W0 m)
structure RS (X:Cx) (G0:Gm) (W0:D->Sto->Prop) (s:Stmt) (m:SM):Prop where
 h:PS X s (tS X.K G0 W0 m)
structure RSs (X:Cx) (G0:Gm) (W0:D->Sto->Prop) (s:List Stmt) (m:SM):Prop where
 h:PSs X s (tS X.K G0 W0 m)
structure RI (X:Cx) (G0:Gm) (W0:D->Sto->Prop) (tg iter:Expr) (m:IM):Prop where
 h:PI X tg iter (tI X.K G0 W0 m)
structure RG (X:Cx) (pr:Nat->Bool) (target:Expr) (bnd:D->Sto->Option Sto):Prop where
 h:∃ tg,PG X target tg/\Bnd X.K pr tg bnd
structure RGs (X:Cx) (pr:Nat->Bool) (targets:List Expr) (bnd:List D->Sto->Option Sto):Prop where
 h:∃ tg,PGs X targets tg/\wE X.K pr tg bnd
theorem PE.imp {X:Cx} {e:Expr} {t t':TE} (h:PE X e t) (f:∀ σ H Q,t' σ H Q->t σ H Q):PE X e t':=fun pins s σ H Q I q=>h pins s σ H Q I (f σ H Q q)
theorem PT.imp {X:Cx} {e:Expr} {t t':TT} (h:PT X e t) (f:∀ σ H Q,t' σ H Q->t σ H Q):PT X e t':=fun pins s σ H Q I q=>h pins s σ H Q I (f σ H Q q)
theorem PW.imp {X:Cx} {e:Expr} {t t':TT} (h:PW X e t) (f:∀ σ H Q,t' σ H Q->t σ H Q):PW X e t':=fun wh pins s σ H Q I q=>h wh pins s σ H Q I (f σ H Q q)
theorem PA.imp {X:Cx} {e:List Expr} {t t':TA} (h:PA X e t) (f:∀ σ H Q,t' σ H Q->t σ H Q):PA X e t':=fun pos pins s σ H Q I q=>h pos pins s σ H Q I (f σ H Q q)
theorem PS.imp {X:Cx} {e:Stmt} {t t':TS} (h:PS X e t) (f:∀ D σ H,t' D σ H->t D σ H):PS X e t':=fun pins s σ H D I q=>h pins s σ H D I (f D σ H q)
theorem PSs.imp {X:Cx} {e:List Stmt} {t t':TS} (h:PSs X e t) (f:∀ D σ H,t' D σ H->t D σ H):PSs X e t':=fun pins s σ H D I q=>h pins s σ H D I (f D σ H q)
theorem PI.imp {X:Cx} {tg e:Expr} {t t':TI} (h:PI X tg e t) (f:∀ σ H R,t' σ H R->t σ H R):PI X tg e t':=fun pins s σ H R I q=>h pins s σ H R I (f σ H R q)
theorem szl:(16777216:Nat)=sizeLine:=by rw [sizeLine_eq]
section
variable {X:Cx} {G0:Gm} {W0:D->Sto->Prop} {a b c e:Expr} {es:List Expr} {pos:Pos} {ma mb mc m:EM} {ms:M3 (List R3)} {t u:M3 Bool} {eB:List Expr}
theorem vd (i:Nat) {x:Str} (hN:X.N[i]?=some x) (hv:Vis X.env.scope x) (hd:(x == ("__debug__":Str))=false) (hcd:(x == ("__classdict__":Str))=false):RE X G0 W0 (.Name x pos) (ag i):=⟨PE.imp (gN hN hv hd hcd) fun _ _ _ h=>zh h⟩
theorem af {i j}:RE X G0 W0 (.Constant (.int i) j pos) (mC (.int i)):=⟨PE.imp zY fun _ _ _ h=>fP (fun _=>.int i) h⟩
theorem dA {i j}:RE X G0 W0 (.Constant (.bool i) j pos) (mC (.bl i)):=⟨PE.imp pe_bl fun _ _ _ h=>fP (fun _=>.bl i) h⟩
theorem fU {j}:RE X G0 W0 (.Constant .none j pos) (mC .non):=⟨PE.imp zV fun _ _ _ h=>fP (fun _=>.non) h⟩
theorem gL {i j}:RE X G0 W0 (.Constant (.str i) j pos) (mC (.str i)):=⟨PE.imp zS fun _ _ _ h=>fP (fun _=>.str i) h⟩
theorem bN {x:Str} {i:Int} {tk:Tok} (hg:Gl X x) (hm:X.mg x=some (.int i tk)) (hd:(x == ("__debug__":Str))=false):RE X G0 W0 (.Name x pos) (mC (.int i)):=⟨PE.imp (b8 (v:=V.int i) hg hm ⟨_,rfl⟩ hd) fun _ _ _ h=>fP (fun _=>.int i) h⟩
theorem ay {op:Operator} {r:R2} {f:D->D->Option (D × Fl)} (ho:OpR X (binaryOp op) r) (hd:OpD X.K r f) (ha:RE X G0 W0 a ma) (hb:RE X G0 W0 b mb):RE X G0 W0 (.BinOp a op b pos) (ao f ma mb):=⟨PE.imp (pe_op ho ha.h hb.h) fun _ _ _ h=>kI hd h⟩
theorem gB {op:UnaryOp} {r:V->Hp->VK->Prop} {f:D->Option (D × Fl)} (ho:UnR X (unaryOp op) r) (hd:UnD X.K r f) (ha:RE X G0 W0 a ma):RE X G0 W0 (.UnaryOp op a pos) (mUn f ma):=⟨PE.imp (pe_un ho ha.h) fun _ _ _ h=>uR hd h⟩
theorem eC {op:CmpOp} {r:R2} {f:D->D->Option (D × Fl)} (ho:OpR X (compareOp op) r) (hd:OpD X.K r f) (ha:RE X G0 W0 a ma) (hb:RE X G0 W0 b mb) (hm:behindInMarks op b=false):RE X G0 W0 (.Compare a [op] [b] pos) (ao f ma mb):=⟨PE.imp (xB ho ha.h hb.h hm) fun _ _ _ h=>kI hd h⟩
theorem aI {r:R2} {f:D->D->Option (D × Fl)} (ho:IxR X r) (hd:OpD X.K r f) (ha:RE X G0 W0 a ma) (hb:RE X G0 W0 b mb) (hs:sD b):RE X G0 W0 (.Subscript a b pos) (ao f ma mb):=⟨PE.imp (pe_ix ho ha.h hb.h hs) fun _ _ _ h=>kI hd h⟩
theorem fV (ha:RE X G0 W0 a ma) (hb:RE X G0 W0 (.BoolOp .And (b :: eB) pos) mb):RE X G0 W0 (.BoolOp .And (a :: b :: eB) pos) (l6 ma mb):=⟨PE.imp (z6 ha.h hb.h) fun _ _ _ h=>zn h⟩
theorem re_or (ha:RE X G0 W0 a ma) (hb:RE X G0 W0 (.BoolOp .Or (b :: eB) pos) mb):RE X G0 W0 (.BoolOp .Or (a :: b :: eB) pos) (mOr ma mb):=⟨PE.imp (pe_or ha.h hb.h) fun _ _ _ h=>tE_or h⟩
theorem gM {op} (h:RE X G0 W0 a ma):RE X G0 W0 (.BoolOp op [a] pos) ma:=⟨zT h.h⟩
theorem zB (ha:RE X G0 W0 a ma):RE X G0 W0 (.UnaryOp .Not a pos) (Ah ma):=⟨PE.imp (zU ha.h) fun _ _ _ h=>zj h⟩
theorem re_if (hc:RT X G0 W0 c t) (ha:RE X G0 W0 a ma) (hb:RE X G0 W0 b mb):RE X G0 W0 (.IfExp c a b pos) (mIf t ma mb):=⟨PE.imp (vt hc.h ha.h hb.h) fun _ _ _ h=>tE_if h⟩
noncomputable def ju (f f':D->D->Option (D × Fl)) (ma mb mc:EM):EM:=ak ma fun ra=>ak mb fun rb=>ak (der ra) fun da=>ak (der rb) fun db=>ak (bZ ((f da db).bind fun p=>asB p.1)) fun k=>if k then ak mc fun rc=>ak (der rb) fun db=>ak (der rc) fun dc=>bZ ((f' db dc).map fun p=>R3.val p.1 p.2) else bU (.val (.bl false) .z)
theorem cN (ha:RE X G0 W0 a ma) (he:∀ whole,isTrue a X.env whole=(do let v <- whole;standAt a.pos;holding [v] (truthy v))):RT X G0 W0 a (cB ma):=⟨PT.imp (zI ha.h he) fun _ _ _ h=>y6 h⟩
theorem m8 (h:RW X G0 W0 a t):RT X G0 W0 a t:=⟨h.h.pt⟩
theorem xb (ha:RT X G0 W0 a t):RW X G0 W0 (.BoolOp .And [a] pos) t:=⟨xn ha.h⟩
theorem fT (ha:RT X G0 W0 a t):RW X G0 W0 (.BoolOp .Or [a] pos) t:=⟨zG ha.h⟩
theorem zv (ha:RT X G0 W0 a t) (hb:RW X G0 W0 (.BoolOp .And (b :: eB) pos) u):RW X G0 W0 (.BoolOp .And (a :: b :: eB) pos) (Az t u):=⟨PW.imp (zH ha.h hb.h) fun _ _ _ h=>y7 h⟩
theorem jK (ha:RT X G0 W0 a t) (hb:RW X G0 W0 (.BoolOp .Or (b :: eB) pos) u):RW X G0 W0 (.BoolOp .Or (a :: b :: eB) pos) (cOr t u):=⟨PW.imp (pw_or ha.h hb.h) fun _ _ _ h=>tT_or h⟩
theorem cW (ha:RT X G0 W0 a t):RT X G0 W0 (.UnaryOp .Not a pos) (gY t):=⟨PT.imp (zJ ha.h) fun _ _ _ h=>yZ h⟩
theorem ad:RA X G0 W0 [] ai:=⟨PA.imp nt fun _ _ _ h=>uU h⟩
theorem aa (ha:RE X G0 W0 e m) (hr:RA X G0 W0 es ms) (hs:starEach (e :: es) X.env=(false,eval e X.env) :: starEach es X.env):RA X G0 W0 (e :: es) (ac m ms):=⟨PA.imp (gm ha.h hr.h hs) fun _ _ _ h=>rD h⟩
theorem aA {x1} (h:RA X G0 W0 es ms):RE X G0 W0 (.Tuple es x1 pos) (aL ms):=⟨PE.imp (zR h.h) fun _ _ _ h=>zi szl h⟩
theorem aK (h:RA X G0 W0 es ms):RE X G0 W0 (.List es pos) (aT ms):=⟨PE.imp (zW h.h) fun _ _ _ h=>zm szl h⟩
theorem aF {x:Str} {p:Pos} {id:String} {r:List V->Hp->VK->Prop} {f:List D->Option (D × Fl)} (hc:CallR X (.builtin id) r) (hd:eW X.K r f) (hg:Gl X x) (hm:X.mg x=none) (hv:bootBuiltins x=some (.builtin id)) (ha:RA X G0 W0 (e :: es) ms) (hn:x ≠ "__name__") (hdb:(x == ("__debug__":Str))=false)
  (he:starEach (e :: es) X.env=(false,eval e X.env) :: starEach es X.env) (hpl:(backTo pos (starEach es X.env)).any (·.1)=false):RE X G0 W0 (.Call (.Name x p) (e :: es) [] pos) (aG f ms):=⟨PE.imp (iz hc hg hm hv ha.h hn hdb he hpl) fun _ _ _ h=>ig hd h⟩
theorem gl {x:Str} {p:Pos} {T:String} {r:List V->Hp->VK->Prop} {f:List D->Option (D × Fl)} (hc:CallR X (.type T) r) (hd:eW X.K r f) (hg:Gl X x) (hm:X.mg x=none) (hv:bootBuiltins x=some (.type T)) (ha:RA X G0 W0 (e :: es) ms) (hn:x ≠ "__name__") (hdb:(x == ("__debug__":Str))=false)
  (he:starEach (e :: es) X.env=(false,eval e X.env) :: starEach es X.env) (hpl:(backTo pos (starEach es X.env)).any (·.1)=false):RE X G0 W0 (.Call (.Name x p) (e :: es) [] pos) (aG f ms):=⟨PE.imp (tf hc hg hm hv ha.h hn hdb he hpl) fun _ _ _ h=>ig hd h⟩
variable {st:Stmt} {sts:List Stmt} {sm sn:SM}
theorem bA:RSs X G0 W0 [] di:=⟨PSs.imp xr fun _ _ _ h=>zd h⟩
theorem al (h1:RS X G0 W0 st sm) (h2:RSs X G0 W0 sts sn):RSs X G0 W0 (st :: sts) (aJ sm sn):=⟨PSs.imp (ph h1.h h2.h) fun _ _ _ h=>zb h⟩
theorem am (h1:RS X G0 W0 st sm):RSs X G0 W0 [st] sm:=⟨rN h1.h⟩
theorem bM (he:RE X G0 W0 e m) (hs:swapsWith e none pos.line X.env=pure false):RS X G0 W0 (.Expr e pos) (cq m):=⟨PS.imp (xt he.h hs) fun _ _ _ h=>wM h⟩
theorem aD (np:Nat) (hnp:∀ i,np<=i->G0.pr i=false) (he:RE X G0 W0 e m):RS X G0 W0 (.Return (some e) pos) (bb np m):=⟨PS.imp (zL he.h) fun _ _ _ h=>zc hnp h⟩
theorem b6 {x y:List Stmt} (hc:RT X G0 W0 c t) (ha:RSs X G0 W0 x sm) (hb:RSs X G0 W0 y sn):RS X G0 W0 (.If c x y pos) (sIf t sm sn):=⟨PS.imp (ps_if hc.h ha.h hb.h) fun _ _ _ h=>tS_if h⟩
theorem aO (i:Nat) {x:Str} {pos':Pos} (hN:X.N.Nodup) (hi:X.N[i]?=some x) (hx:Loc X.env.scope x) (he:RE X G0 W0 e m) (hs:swapsWith e (some (.Name x pos')) pos.line X.env=pure false) (hf:X.fn x=true\/X.env.scope.names.lookup x=some .local) (hp:G0.pr i=false):RS X G0 W0 (.Assign [.Name x pos'] e pos) (bK i m):=⟨PS.imp (zK hN hi hx he.h hs hf) fun _ _ _ h=>za hp h⟩
theorem u8 {body:List Stmt} (hp:PassesOwn (model X.prog X.w) X.A X.env X.xe) (hc:RT X G0 W0 c t) (hb:RSs X G0 W0 body sm):RS X G0 W0 (.While c body [] pos) (gJ t sm):=⟨PS.imp (vj hp hc.h hb.h) fun _ _ _ h=>uN h⟩
theorem dL {tg iter:Expr} {body:List Stmt} {im:IM} {bnd:D->Sto->Option Sto} (hp:PassesOwn (model X.prog X.w) X.A X.env X.xe) (hc:X.calm=true) (hi:RI X G0 W0 tg iter im) (hg:RG X G0.pr tg bnd) (hb:RSs X G0 W0 body sm) (hs:∀ x,foldedSetIterable iter X.env x=pure x):RS X G0 W0 (.For tg iter body [] pos) (gw im bnd sm):=by
 obtain ⟨g,h1,h2⟩:=hg.h
 exact ⟨PS.imp (zM hp hc hi.h h1 hb.h hs) fun _ _ _ h=>ze h2 h⟩
theorem cj (i:Nat) {x:Str} {pr:Nat->Bool} (hN:X.N.Nodup) (hi:X.N[i]?=some x) (hx:Loc X.env.scope x) (hf:X.fn x=true\/X.env.scope.names.lookup x=some .local) (hp:pr i=false):RG X pr (.Name x pos) (aW i):=⟨_,aX hN hi hx hf,aP hp⟩
theorem xj {pr:Nat->Bool}:RGs X pr [] AF:=⟨_,xy,wu⟩
theorem o3 {pr:Nat->Bool} {bn:D->Sto->Option Sto} {bs:List D->Sto->Option Sto} (h1:RG X pr e bn) (h2:RGs X pr es bs) (hs:(assignEach (e :: es) X.env).map (·.2)=assign e X.env :: (assignEach es X.env).map (·.2)):RGs X pr (e :: es) (sB bn bs):=by
 obtain ⟨g,a1,a2⟩:=h1.h
 obtain ⟨gs,b1,b2⟩:=h2.h
 exact ⟨_,vp a1 b1 hs,uB a2 b2⟩
theorem zA {pr:Nat->Bool} {k n:Nat} {bs:List D->Sto->Option Sto} (hc:X.calm=true) (h:RGs X pr es bs) (hn:(assignEach es X.env).length=n) (hst:(assignEach es X.env).findIdx? (·.1)=none):RG X pr (.Tuple es k pos) (AE n bs):=by
 obtain ⟨gs,b1,b2⟩:=h.h
 exact ⟨_,zP hc b1 hn hst,yh b2⟩
theorem bo {elt tg iter:Expr} {ifs:List Expr} {scope:Scope} {im:IM} {bnd:D->Sto->Option Sto} {cm:M3 Bool} {em:EM} (NY:List Str) (ix:List (Option Nat)) (hc:X.calm=true) (hi:RI X G0 W0 tg iter im)
  (ht:∀ s H C fp,PTs (aE X NY scope s H C fp) ifs (tT X.K (cu ix) noX cm)) (he:∀ s H C fp,RE (aE X NY scope s H C fp) (cu ix) noX elt em)
  (ck:jB scope X.N X.env.scope NY ix=true) (hij:Inj ix) (hs:∀ x,foldedSetIterable iter X.env x=pure x) (hgu:∃ tg',Bnd X.K (cu ix).pr tg' bnd/\∀ s H C fp,PG (aE X NY scope s H C fp) tg tg'):RE X G0 W0 (.ListComp elt [⟨tg,iter,ifs,0⟩] scope pos) (bS im bnd cm em ix):=by
 obtain ⟨tg',b1,b2⟩:=hgu
 exact ⟨PE.imp (xA NY ix hc hi.h b2 ht (fun s H C fp=>(he s H C fp).h) ck hs) fun _ _ _ h=>rC szl hij b1 h⟩
end
end L3
end
section
namespace L3
open PySem L2
noncomputable def au (F:Fn) (ms:M3 (List R3)):EM:=ak ms fun rs=>fun ρ=>match prs (frz (gb rs) ρ) rs with
 | none=>none
 | some ps=>match F ps with
  | none=>none
  | some (.ok p,qs)=>if qs.length=ps.length then some (.ok (.val p.1 p.2),back rs ps qs (frz (gb rs) ρ)) else none
  | some (.error _,_)=>none
noncomputable def qf (K:FG) (F:Fn):Sp:=fun vs H Q _=>∃ (ps:List It3) (p:D × Fl) (fs:List (D × Fl)),vs=ps.map (·.v)/\(∀ p ∈ ps,Arg K H p)/\ps.Pairwise Apart3/\F (ps.map fun p=>(p.d,p.f))=some (.ok p,fs) /\
 ∀ x qs H',Behind K H H' ps qs x->x.d=p.1->x.f=p.2->qs.map (fun q=>(q.d,q.f))=fs->Q x.v H'
section
variable {K:FG} {G G0:Gm} {W W0:D->Sto->Prop} {H H':Hp} {σ:St} {ρ ρ':Sto} {T T':List It3} {g:Nat->Option It3} {x y z:It3} {α β:Type}
theorem oO {F:Fn} {ms:M3 (List R3)} {Q:VK} (h:tE K G0 W0 (au F ms) σ H Q):tA K G0 W0 ms σ H fun vs H1=>qf K F vs H1 Q E0:=by
 refine h.use fun G W le ρ T g o ρ' w e q=>?_
 refine tA.seq le w e q.err fun rs ρ1 e1 vs H1 Ts g1 w1 a1=>?_
 obtain ⟨g2,w2,z2⟩:=Wf.frz (is:=gb rs) w1
 cases e2:prs (L3.frz (gb rs) ρ1) rs with
 | none=>rw [e2] at e1;exact nsE e1
 | some pfs =>
  rw [e2] at e1
  dsimp only at e1
  have hd:∀ i,2<=(pls rs).count i->∀ y,g2 i=some y->y.f=.z:=fun i hc y ey=>by
   have hm:i ∈ gb rs:=Bk.mpr ⟨List.count_pos_iff.mp (by omega),by simpa using hc⟩
   have s1:=w2.sl i
   rw [ey] at s1
   have hy:∃ y0,g1 i=some y0:=by
    cases q1:g1 i with
    | some y0=>exact ⟨y0,rfl⟩
    | none =>
     exfalso
     have s2:=w1.sl i
     rw [q1] at s2
     have:=lp (is:=gb rs) s2.symm
     rw [this] at s1
     cases s1
   obtain ⟨y0,ey0⟩:=hy
   obtain ⟨y',e3,_,e5⟩:=z2 i y0 ey0
   rw [ey] at e3
   cases e3
   exact e5 hm
  obtain ⟨ps,f1,f2,f3,f4,f5⟩:=Ars.args a1 w2 hd e2
  have hit:∀ p ∈ ps,Itm (Ts ++ T) g2 p:=fun p hp=>by
   rcases f4 p hp with ⟨i,_,ei⟩ | h
   ·exact .inl ⟨i,ei⟩
   ·exact .inr (AQ _ h)
  have harg:∀ p ∈ ps,Arg K H1 p:=fun p hp=>⟨(w2.itm (hit p hp)).rep,fun hf=>by
   obtain ⟨m,a,L',v1,v2,v3,_⟩:=(w2.itm (hit p hp)).own hf
   exact ⟨m,a,L',v1,v2,v3⟩⟩
  subst f2
  cases e3:F pfs with
  | none=>rw [e3] at e1;exact nsE e1
  | some r =>
   obtain ⟨out,fs⟩:=r
   rw [e3] at e1
   cases out with
   | ok p =>
    dsimp only at e1
    split at e1
    ·cases e1
     refine ⟨ps,p,fs,rfl,harg,f3,by rw [f1];exact e3,?_⟩
     intro x qs H' B x1 x2 hq
     obtain ⟨g',w3,px⟩:=Wf.after w2 e2 f1 f4 f5 B.toBehindX
     have w4:=px x B.rep B.own B.src B.apx
     rw [hq] at w4
     rw [<- x1,<- x2] at q
     exact q x.v H' ⟨[x],g',w4,.val x⟩
    ·exact nsE e1
   | error er=>exact nsE e1
noncomputable def cF (b:Bool) (p:It3):It3:=if b then dq p else p
theorem jv:∀ {mask:List Bool} {ps:List It3},(List.zipWith cF mask ps).map (fun p=>(p.d,p.f))=List.zipWith tK mask (ps.map fun p=>(p.d,p.f))
 | [],_=>rfl
 | _ :: _,[]=>rfl
 | b :: mask,p :: ps=>by
  simp only [List.zipWith_cons_cons,A8,jv]
  cases b <;> rfl
theorem mD {mask:List Bool} {ps:List It3} {i:Nat} {q:It3} (h:(List.zipWith cF mask ps)[i]?=some q):∃ b p,mask[i]?=some b/\ps[i]?=some p/\q=cF b p:=by
 rw [List.getElem?_zipWith] at h
 cases e1:mask[i]? with
 | none=>rw [e1] at h;exact nsE h
 | some b =>
  cases e2:ps[i]? with
  | none=>rw [e1,e2] at h;exact nsE h
  | some p=>rw [e1,e2] at h;cases h;exact ⟨b,p,rfl,rfl,rfl⟩
theorem iQ {mask:List Bool} {ps:List It3} {i:Nat} {p:It3} (hl:ps.length=mask.length) (h:ps[i]?=some p):∃ b,mask[i]?=some b/\(List.zipWith cF mask ps)[i]?=some (cF b p):=by
 have hi:i < mask.length:=by have:=(AY.mp h).1;omega
 refine ⟨mask[i],AT hi,?_⟩
 rw [List.getElem?_zipWith,AT hi,h]
theorem bO (b:Bool) (p:It3):(cF b p).d=p.d/\(cF b p).v=p.v/\(cF b p).L=p.L/\((cF b p).f=p.f\/(cF b p).f=.z):=by
 cases b
 ·exact ⟨rfl,rfl,rfl,.inl rfl⟩
 ·exact ⟨rfl,rfl,rfl,.inr rfl⟩
theorem NoRoot.low {a b a' b':It3} (h:NoRoot a b) (hv:a'.v=a.v) (hf:a'.f=a.f\/a'.f=.z) (hL:b'.L=b.L):NoRoot a' b':=fun q c e=>by
 rw [hL]
 rcases hf with f | f
 ·exact h (by rw [<- f];exact q) c (by rw [<- hv];exact e)
 ·exact absurd f q
noncomputable def prM (mask:List Bool) (i:Nat):Bool:=match mask[i]? with
 | some b=>!b
 | none=>false
theorem rS {α β:Type} {f:α->β} {l:List α} {i:Nat} {a:α} (h:l[i]?=some a):(l.map f)[i]?=some (f a):=by rw [A3,h];rfl
set_option tactic.hygienic true in
theorem nP {mask:List Bool} {m:SM} {n:Nat} {vs:List V} {Q:VK} {E:XK} (hn:mask.length<=n) (h:qf K (fnM mask n m) vs H Q E) :
  ∃ G:Gm,G.pr=prM mask/\tS K G noX m { nx:=fun _ H'=>Q .non H',rt:=Q } (vs.map some ++ List.replicate (n - vs.length) none) H:=by
 obtain ⟨ps,p,fs,rfl,ha,hp,hF,q⟩:=h
 unfold fnM at hF
 rw [AX] at hF
 split at hF
 ·rename_i hl
  rw [<- jv] at hF
  generalize hps:List.zipWith cF mask ps=ps' at hF
  have hl':ps'.length=ps.length:=by rw [<- hps,List.length_zipWith];omega
  have hv:ps'.map (·.v)=ps.map (·.v):=by
   refine List.ext_getElem? fun i=>?_
   rw [A3,A3]
   cases e:ps[i]? with
   | none=>rw [List.getElem?_eq_none (by have:=List.getElem?_eq_none_iff.mp e;omega)]
   | some u =>
    obtain ⟨b,_,e2⟩:=iQ (mask:=mask) hl e
    rw [hps] at e2
    rw [e2]
    show some (cF b u).v=some u.v
    rw [(bO b u).2.1]
  have up:∀ (i:Nat) (u:It3),ps'[i]?=some u->∃ b u0,mask[i]?=some b/\ps[i]?=some u0/\u=cF b u0:=fun i u e=>by rw [<- hps] at e;exact mD e
  have upm:∀ u ∈ ps',∃ b u0,u0 ∈ ps/\u=cF b u0:=fun u hu=>by
   obtain ⟨i,hi,e⟩:=List.mem_iff_getElem.mp hu
   obtain ⟨b,u0,_,e2,e3⟩:=up i u (by rw [AT hi,e])
   exact ⟨b,u0,AZ e2,e3⟩
  have ha':∀ u ∈ ps',Arg K H u:=fun u hu=>by
   obtain ⟨b,u0,h0,rfl⟩:=upm u hu
   obtain ⟨e1,e2,e3,e4⟩:=bO b u0
   refine ⟨by rw [e1,e2,e3];exact (ha u0 h0).rep,fun hf=>?_⟩
   rw [e1,e2,e3]
   refine (ha u0 h0).own fun z=>hf ?_
   rcases e4 with f | f
   ·rw [f];exact z
   ·exact f
  have hp':ps'.Pairwise Apart3:=by
   rw [List.pairwise_iff_getElem]
   intro i j hi hj lt
   obtain ⟨b,u0,_,e2,e3⟩:=up i _ (AT hi)
   obtain ⟨b',u0',_,e2',e3'⟩:=up j _ (AT hj)
   have ap:=cD hp (fun _ _=>Apart3.symm) (A6 lt) e2 e2'
   rw [e3,e3']
   obtain ⟨_,a2,a3,a4⟩:=bO b u0
   obtain ⟨_,b2,b3,b4⟩:=bO b' u0'
   exact ⟨ap.1.low a2 a4 b3,ap.2.low b2 b4 a3⟩
  have hpr:∀ (i:Nat) (u:It3),ps'[i]?=some u->u.f ≠ .z->prM mask i=true:=fun i u e hf=>by
   obtain ⟨b,u0,e1,e2,e3⟩:=up i u e
   unfold prM
   rw [e1]
   cases b with
   | false=>rfl
   | true=>rw [e3] at hf;exact absurd rfl hf
  have alls:∀ c,cV ps' c->cV ps c:=fun c ⟨u,hu,hc⟩=>by
   obtain ⟨b,u0,h0,rfl⟩:=upm u hu
   exact ⟨u0,h0,by rw [<- (bO b u0).2.2.1];exact hc⟩
  have lift:∀ {H':Hp} {qs:List It3},BehindX K H H' ps' qs->BehindX K H H' ps qs:=fun {H' qs} B=>by
   refine ⟨fun b o hb hn=>B.frame b o hb fun u hu hf hv=>?_,Paired.ofGet ?_ fun k u v eu ev=>?_,B.apart⟩
   ·obtain ⟨b',u0,h0,rfl⟩:=upm u hu
    obtain ⟨_,e2,_,e4⟩:=bO b' u0
    rcases e4 with f | f
    ·exact hn u0 h0 (by rw [<- f];exact hf) (by rw [<- e2];exact hv)
    ·rw [f] at hf;cases hf
   ·rw [<- hl'];exact Paired.length B.back
   ·obtain ⟨b,_,e2⟩:=iQ (mask:=mask) hl eu
    rw [hps] at e2
    have b1:=Paired.at B.back e2 ev
    obtain ⟨a1,a2,a3,a4⟩:=bO b u
    refine ⟨fun hz=>?_,by rw [b1.v,a2],?_,b1.arg,fun c hc=>(b1.src c hc).imp id (alls c),fun hf b' hb'=>?_⟩
    ·have:cF b u=u:=by
      cases b
      ·rfl
      ·obtain ⟨d,v,L,f⟩:=u
       have hz:f=.z:=hz
       subst hz;rfl
     rw [<- this]
     exact b1.z (by rw [this];exact hz)
    ·rcases b1.f with h | h
     ·rcases a4 with f | f
      ·exact .inl (h.trans f)
      ·exact .inr (h.trans f)
     ·exact .inr h
    ·rcases a4 with f | f
     ·exact b1.there (by rw [f];exact hf) b' (by rw [a2];exact hb')
     ·-- lowered: as it was
      obtain ⟨_,a,L',v1,v2,_⟩:=(ha u (AZ eu)).own (by rw [hf];intro q;cases q)
      rw [hb'] at v1;cases v1
      have hq:=b1.z f
      have r:=b1.arg.rep
      rw [hq,a1,a2,a3] at r
      exact (r.inH b' (by rw [v2];exact AL)).ex
  have hnn:ps'.length<=n:=by omega
  have wf:=oD (K:=K) (H:=H) (n:=n) (pr:=prM mask) hnn ha' hp' hpr
  rw [hv] at wf
  refine ⟨gOf H (prM mask) ((ps.map (·.v)).map some ++ List.replicate (n - (ps.map (·.v)).length) none) ps',rfl,?_⟩
  have h0:∀ (i:Nat) (u:It3),ps'[i]?=some u->((ps.map (·.v)).map some ++ List.replicate (n - (ps.map (·.v)).length) none)[i]?=some (some u.v):=fun i u e=>i5 (by rw [<- hv];exact rS e)
  unfold fn0 at hF
  cases e:m (gE n (ps'.map fun p=>(p.d,p.f))) with
  | none=>rw [e] at hF;exact nsE hF
  | some rr =>
   obtain ⟨r,ρ2⟩:=rr
   rw [e] at hF
   refine tS.mk (r:=r) (Le.refl K _ _) wf e ?_
   have fin:∀ {x:It3} {σ':St} {H':Hp} {g':Nat->Option It3} {d:D} {f:Fl},Wf K (gOf H (prM mask) ((ps.map (·.v)).map some ++ List.replicate (n - (ps.map (·.v)).length) none) ps') H' σ' ρ2 [x] g'->x.d=d->x.f=f ->
     ((eU ρ2 0 (ps'.map fun p=>(p.d,p.f))).map fun fs=>((.ok (d,f),fs):Except D (D × Fl) × List (D × Fl)))=some (.ok p,fs)->Q x.v H':=fun {x σ' H' g' d f} w1 xd xf hF=>by
    cases e5:eU ρ2 0 (ps'.map fun p=>(p.d,p.f)) with
    | none=>rw [e5] at hF;exact nsE hF
    | some fs' =>
     rw [e5] at hF
     cases hF
     obtain ⟨qs,B,hq⟩:=lG (n:=n) ha' hp' hpr h0 w1 e5
     have BX:=lift B.toBehindX
     exact q x qs H' ⟨BX,B.rep,B.own,fun c hc=>(B.src c hc).imp id (alls c),B.apx⟩ xd xf hq
   cases r with
   | error er=>
    dsimp only at hF
    cases e5:eU ρ2 0 (ps'.map fun p=>(p.d,p.f)) with
    | none=>rw [e5] at hF;exact nsE hF
    | some fs'=>rw [e5] at hF;cases hF
   | ok fl =>
    cases fl with
    | nx =>
     intro σ' H' g' w1
     obtain ⟨Ts,g2,w2,a2⟩:=w1.const .non
     obtain ⟨x,rfl,x1,x2,x3⟩:=a2.val_inv
     have:=fin w2 x1 x2 hF
     rw [x3] at this
     exact this
    | br=>exact nsE hF
    | ct=>exact nsE hF
    | rt d f =>
     intro x σ' H' g' w1 x1 x2
     exact fin w1 x1 x2 hF
 ·exact nsE hF
end
noncomputable abbrev aU (P:Program) (w:World) (K:FG) (mg:Str->Option Value) (base:Heap) (x:Str) (k:Nat) (ps:List Str) (F:Fn):Prop:=Callee P w K mg base x k ps (qf K F)
set_option tactic.hygienic true in
theorem bD {P:Program} {w:World} {K:FG} {mg:Str->Option Value} {base:Heap} {x:Str} {st:Stmt} {k:Nat} {N ps:List Str} {mask:List Bool} {m:SM} {nn:Nat} (D:Def K mg x st) (S:FnScope N ps (aj st)) (hml:mask.length=ps.length) (hnn:N.length=nn)
  (hb:∀ (kV doc pm:Value) (an:Option Addr) (cdv ct:Value) (us:List Value),us.length=ps.length->bindArgs (PySem.W.fnOf x x (bf st) (aN st) (aj st) .none kV doc pm an cdv ct) ⟨us,[]⟩=pure (ps.zip us))
  (body:∀ (cdv:Value) (A:Around) (outer:List Env) (s:Shared) (H:Hp) (E:XK) (f:Addr) (G:Gm),Room k (A.deeper (PyProof.Rows.envOfC x (aj st) s.heap.objs.size f cdv))->G.pr=prM mask->RSs (dS CX0 P w K mg base N x (aj st) f cdv A outer s H E).nox G noX (aN st) m) :
  aU P w K mg base x (k+1) ps (fnM mask nn m):=by
 refine D.callee hb fun f fd F=>F.ok S (fun vs H Q E h=>?_) fun cdv A outer s H vs Q E hr h=>?_
 ·obtain ⟨ps',p,fs,rfl,_,_,hF,_⟩:=h
  unfold fnM at hF
  rw [AX] at hF ⊢
  split at hF
  ·rename_i e;rw [e,hml]
  ·exact nsE hF
 ·have hle:mask.length<=nn:=by
   rw [hml,<- hnn]
   have:=congrArg List.length S.pre
   rw [Bf] at this
   omega
  obtain ⟨G,hG,ht⟩:=nP hle h
  subst hnn
  exact ⟨_,(body cdv A outer s H E f G hr hG).h,ht⟩
theorem aq {X:Cx} {G0:Gm} {W0:D->Sto->Prop} {x:Str} {p pos:Pos} {e:Expr} {es:List Expr} {ms:M3 (List R3)} {k:Nat} {ps:List Str} {F:Fn} (c:aU X.prog X.w X.K X.mg X.base x k ps F) (hr:Room k X.A) (ha:RA X G0 W0 (e :: es) ms) (hg:Gl X x) (hdb:(x == ("__debug__":Str))=false)
  (he:starEach (e :: es) X.env=(false,eval e X.env) :: starEach es X.env) (hpl:(backTo pos (starEach es X.env)).any (·.1)=false):RE X G0 W0 (.Call (.Name x p) (e :: es) [] pos) (au F ms) :=
 ⟨PE.imp (pe_fn c hr ha.h hg hdb he hpl) fun _ _ _ h=>oO h⟩
end L3
end
section
namespace L3
open PySem L2
noncomputable def orD (f g:D->D->Option (D × Fl)) (a b:D):Option (D × Fl):=match f a b with
 | some p=>some p
 | none=>g a b
section
variable {K:FG} {H:Hp} {Ks:Addr->Prop} {d:D} {v:V} {L:List Addr} {X:Cx}
theorem dj (r:Rep K H d v []):New K H H Ks ⟨d,v,[],.z⟩:=⟨Same.refl _,r,fun _ h=>(by cases h),fun h=>absurd rfl h⟩
theorem pv (r:Rep K H d v L) (h:∀ c ∈ L,Ks c):New K H H Ks ⟨d,v,L,.z⟩:=⟨Same.refl _,r,fun c hc=>.inr (h c hc),fun h=>absurd rfl h⟩
theorem Af {p:Addr} {ds:List D} {vs:List V} (hp:H p=none) (r:Reps (Rep K H) ds vs L) (h:∀ c ∈ L,Ks c):New K H (upd H p (.lst vs)) Ks ⟨.lst ds,.ref p,p :: L,.u⟩:=by
 have np:p ∉ L:=fun hc=>by obtain ⟨o,ho⟩:=(r.inH p hc).ex;rw [hp] at ho;exact nsE ho
 refine ⟨bF hp,.lst aV (r.same (bF hp)),fun c hc=>?_,fun _=>⟨rfl,p,L,rfl,rfl,np,hp⟩⟩
 rcases AS.mp hc with e | hc
 ·rw [e];exact .inl hp
 ·exact .inr (h c hc)
theorem vD {p:Addr} {ds:List D} {vs:List V} (hp:H p=none) (r:Reps (Rep K H) ds vs L) (h:∀ c ∈ L,Ks c):New K H (upd H p (.tup vs)) Ks ⟨.tup ds,.ref p,L,.z⟩ :=
 ⟨bF hp,.tup aV (r.same (bF hp)),fun c hc=>.inr (h c hc),fun h=>absurd rfl h⟩
theorem iR {y:It3} {ys:List It3} (hy:y ∈ ys) (h:Arg K H y) (hm:iS y.d=false):∀ c ∈ y.L,dU ys c:=fun c hc=>⟨y,hy,hc,fun hf=>by
 have:=(h.own hf).1
 rw [hm] at this;cases this⟩
theorem qR {y:It3} {ys:List It3} {a:Addr} {L:List Addr} (hy:y ∈ ys) (h:Arg K H y) (hv:y.v=.ref a) (hL:y.L=a :: L):∀ c ∈ L,dU ys c:=fun c hc=>⟨y,hy,by rw [hL];exact AM _ hc,fun hf e=>by
 obtain ⟨_,a',L',v1,v2,v3⟩:=h.own hf
 rw [hv] at v1;cases v1
 rw [hL] at v2;cases v2
 rw [hv] at e;cases e
 exact v3 hc⟩
theorem OpD.or {r r':R2} {f g:D->D->Option (D × Fl)} (h:OpD K r f) (h':OpD K r' g):OpD K (fun x y H Q=>r x y H Q\/r' x y H Q) (orD f g):=fun a b H Q p ra rb e q=>by
 unfold orD at e
 cases ef:f a.d b.d with
 | some p'=>rw [ef] at e;cases e;exact .inl (h a b H Q _ ra rb ef q)
 | none=>rw [ef] at e;exact .inr (h' a b H Q p ra rb e q)
noncomputable def jz (C:Int->Int->Bool) (g:Int->Int->D):D->D->Option (D × Fl)
 | .int i,.int j=>if C i j then some (g i j,.z) else none
 | _,_=>none
set_option tactic.hygienic true in
theorem iT {C:Int->Int->Prop} {Cb:Int->Int->Bool} {g:Int->Int->V} {gd:Int->Int->D} (hC:∀ i j,Cb i j=true->C i j) (hg:∀ i j H,Rep K H (gd i j) (g i j) []):OpD K (rI C g) (jz Cb gd):=fun a b H Q p ra rb e q=>by
 obtain ⟨da,va,La,fa⟩:=a
 obtain ⟨db,vb,Lb,fb⟩:=b
 obtain ⟨ra,oa⟩:=ra
 obtain ⟨rb,ob⟩:=rb
 dsimp only at ra rb
 cases da <;> try (exact nsE e)
 rename_i i
 obtain ⟨rfl,rfl⟩:=ra.view
 cases db <;> try (exact nsE e)
 rename_i j
 obtain ⟨rfl,rfl⟩:=rb.view
 have e:(if Cb i j then some (gd i j,Fl.z) else none)=some p:=e
 split at e
 ·rename_i hc
  cases e
  exact ⟨i,j,rfl,rfl,hC i j hc,q ⟨gd i j,g i j,[],.z⟩ H (dj (hg i j H)) rfl rfl⟩
 ·exact nsE e
theorem rI_of {g:Int->Int->V}:rI0 g=rI (fun _ _=>True) g:=by
 funext x y H Q
 unfold rI0 rI
 apply propext
 constructor
 ·rintro ⟨i,j,a,b,c⟩;exact ⟨i,j,a,b,trivial,c⟩
 ·rintro ⟨i,j,a,b,_,c⟩;exact ⟨i,j,a,b,c⟩
theorem f9 {g:Int->Int->V} {gd:Int->Int->D} (hg:∀ i j H,Rep K H (gd i j) (g i j) []):OpD K (rI0 g) (jz (fun _ _=>true) gd):=by
 rw [rI_of]
 exact iT (fun _ _ _=>trivial) hg
noncomputable abbrev qd:Int->Int->Bool:=fun _ _=>true
noncomputable abbrev addI:=jz qd fun i j=>.int (i+j)
noncomputable abbrev iZ:=jz qd fun i j=>.int (i - j)
noncomputable abbrev jZ:=jz (fun i j=>decide ((-(2 ^ 64) < i/\i < 2 ^ 64)\/(-(2 ^ 64) < j/\j < 2 ^ 64))) fun i j=>.int (i * j)
noncomputable abbrev qA:=jz (fun _ j=>decide (0 < j)) fun i j=>.int (i % j)
noncomputable abbrev xu:=jz (fun i j=>decide (0<=j/\j<=1000000/\i.natAbs < 2 ^ 64)) fun i j=>.int (i ^ j.toNat)
noncomputable abbrev ltI:=jz qd fun i j=>.bl (decide (i < j))
noncomputable abbrev leI:=jz qd fun i j=>.bl (decide (i<=j))
noncomputable abbrev gtI:=jz qd fun i j=>.bl (decide (j < i))
theorem od_addI:OpD K (rI0 fun i j=>.int (i+j)) addI:=f9 fun i j _=>.int _
theorem cO:OpD K (rI0 fun i j=>.int (i - j)) iZ:=f9 fun i j _=>.int _
theorem dE:OpD K (rI CMul fun i j=>.int (i * j)) jZ:=iT (fun i j h=>by simpa [CMul,uG,wC] using h) fun i j _=>.int _
theorem iC:OpD K (rI (fun _ j=>0 < j) fun i j=>.int (i % j)) qA:=iT (fun i j h=>by simpa [CMul,uG,wC] using h) fun i j _=>.int _
theorem xG:OpD K (rI wC fun i j=>.int (i ^ j.toNat)) xu:=iT (fun i j h=>by simpa [CMul,uG,wC] using h) fun i j _=>.int _
theorem mz:OpD K (rI0 fun i j=>.bl (decide (i < j))) ltI:=f9 fun i j _=>.bl _
theorem mB:OpD K (rI0 fun i j=>.bl (decide (i<=j))) leI:=f9 fun i j _=>.bl _
theorem od_gt:OpD K (rI0 fun i j=>.bl (decide (j < i))) gtI:=f9 fun i j _=>.bl _
noncomputable def catT:D->D->Option (D × Fl)
 | .tup xs,.tup ys=>if xs.length+ys.length<=16777216 then some (.tup (xs ++ ys),.z) else none
 | _,_=>none
noncomputable def catL:D->D->Option (D × Fl)
 | .lst xs,.lst ys=>if xs.length+ys.length<=16777216 then some (.lst (xs ++ ys),.u) else none
 | _,_=>none
noncomputable def catS:D->D->Option (D × Fl)
 | .str xs,.str ys=>if xs.length+ys.length<=16777216 then some (.str (xs ++ ys),.z) else none
 | _,_=>none
theorem Reps.len {ds:List D} {vs:List V} (r:Reps (Rep K H) ds vs L):ds.length=vs.length:=by
 induction r with
 | nil=>rfl
 | cons _ _ ih=>simp [ih]
theorem Reps.append {ds ds':List D} {vs vs':List V} {L L':List Addr} (r:Reps (Rep K H) ds vs L) (r':Reps (Rep K H) ds' vs' L'):Reps (Rep K H) (ds ++ ds') (vs ++ vs') (L ++ L'):=by
 induction r with
 | nil=>exact r'
 | cons a _ ih=>rw [List.append_assoc];exact .cons a ih
theorem Reps.nil_iff {ds:List D} {vs:List V} (r:Reps (Rep K H) ds vs L):ds=[] ↔ vs=[]:=by cases r <;> simp
noncomputable def nh (K:FG):R2:=fun x y H Q=>∃ a b ys,x=.ref a/\y=.ref b/\SqT K H a []/\SqT K H b ys/\Q (.ref b) H
theorem vz:OpR X (binaryOp .Add) (nh X.K):=by
 intro pins s σ H x y v u Q I rx ry h
 obtain ⟨a,b,ys,rfl,rfl,ha,hb,q⟩:=h
 cases rx
 cases ry
 obtain ⟨its,r1,p1,_⟩:=I.tuple ha
 obtain ⟨its2,r2,p2,_⟩:=I.tuple hb
 have e:its=[]:=r1.nil_iff.mpr rfl
 subst e
 obtain ⟨⟨cls,dd,data,sl⟩,ho,hc,n,hd⟩:=id p1
 obtain ⟨⟨cls2,dd2,data2,sl2⟩,ho2,hc2,n2,hd2⟩:=id p2
 simp only at hc hd hc2 hd2
 subst hc hd hc2 hd2
 exact concat_meets ⟨_,ho,rfl⟩ ⟨_,ho2,rfl⟩ noFill_tuple_add seq_tuple_add PySem.F.slot_tuple_add PySem.F.entry_tuple_add (PySem.F.args_tuple_add_2 _ _)
   (PyProof.Rows.tuple_addW0 a b _ _ n n2 dd dd2 sl sl2 (by simp)) ⟨ho,ho2,⟨.ref b,H,I,rfl,q⟩⟩
set_option tactic.hygienic true in
theorem od_catT:OpD K (fun x y H Q=>rL K x y H Q\/nh K x y H Q) catT:=fun a b H Q p ra rb e q=>by
 obtain ⟨da,va,La,fa⟩:=a
 obtain ⟨db,vb,Lb,fb⟩:=b
 obtain ⟨ra,oa⟩:=ra
 obtain ⟨rb,ob⟩:=rb
 dsimp only at ra rb
 cases da <;> try (exact nsE e)
 rename_i xs
 obtain ⟨pa,vs,rfl,ha,rs⟩:=ra.view
 cases db <;> try (exact nsE e)
 rename_i ys
 obtain ⟨pb,ws,rfl,hb,rs'⟩:=rb.view
 have e:(if xs.length+ys.length<=16777216 then some (D.tup (xs ++ ys),Fl.z) else none)=some p:=e
 split at e
 ·rename_i hl
  cases e
  by_cases hx:vs=[]
  ·have hx0:=rs.nil_iff.mpr hx
   subst hx hx0
   refine .inr ⟨pa,pb,ws,rfl,rfl,SqT.of ha,SqT.of hb,?_⟩
   exact q ⟨.tup ys,.ref pb,Lb,.z⟩ H (pv (.tup hb rs') (iR (y:=⟨.tup ys,.ref pb,Lb,fb⟩) (AM _ (Bi.mpr rfl)) ⟨.tup hb rs',ob⟩ rfl)) rfl rfl
  ·refine .inl ⟨pa,pb,vs,ws,rfl,rfl,SqT.of ha,SqT.of hb,hx,by rw [<- rs.len,<- rs'.len,<- szl];exact hl,fun hw=>?_,fun hw p hp=>?_⟩
   ·have hy0:=rs'.nil_iff.mpr hw
    subst hy0
    refine q ⟨.tup (xs ++ []),.ref pa,La,.z⟩ H (pv (by rw [List.append_nil];exact .tup ha rs) (iR (y:=⟨.tup xs,.ref pa,La,fa⟩) AL ⟨.tup ha rs,oa⟩ rfl)) rfl rfl
   ·refine q ⟨.tup (xs ++ ys),.ref p,La ++ Lb,.z⟩ _ (vD hp (rs.append rs') fun c hc=>?_) rfl rfl
    rcases AV.mp hc with h | h
    ·exact iR (y:=⟨.tup xs,.ref pa,La,fa⟩) AL ⟨.tup ha rs,oa⟩ rfl c h
    ·exact iR (y:=⟨.tup ys,.ref pb,Lb,fb⟩) (AM _ (Bi.mpr rfl)) ⟨.tup hb rs',ob⟩ rfl c h
 ·exact nsE e
set_option tactic.hygienic true in
theorem xK:OpD K xm catL:=fun a b H Q p ra rb e q=>by
 obtain ⟨da,va,La,fa⟩:=a
 obtain ⟨db,vb,Lb,fb⟩:=b
 obtain ⟨ra,oa⟩:=ra
 obtain ⟨rb,ob⟩:=rb
 dsimp only at ra rb
 cases da <;> try (exact nsE e)
 rename_i xs
 obtain ⟨pa,vs,La,rfl,rfl,ha,rs⟩:=ra.view
 cases db <;> try (exact nsE e)
 rename_i ys
 obtain ⟨pb,ws,Lb,rfl,rfl,hb,rs'⟩:=rb.view
 have e:(if xs.length+ys.length<=16777216 then some (D.lst (xs ++ ys),Fl.u) else none)=some p:=e
 split at e
 ·rename_i hl
  cases e
  refine ⟨pa,pb,vs,ws,rfl,rfl,ha,hb,by rw [<- rs.len,<- rs'.len,<- szl];exact hl,fun p hp=>?_⟩
  refine q ⟨.lst (xs ++ ys),.ref p,p :: (La ++ Lb),.u⟩ _ (Af hp (rs.append rs') fun c hc=>?_) rfl rfl
  rcases AV.mp hc with h | h
  ·exact qR (y:=⟨.lst xs,.ref pa,pa :: La,fa⟩) AL ⟨.lst ha rs,oa⟩ rfl rfl c h
  ·exact qR (y:=⟨.lst ys,.ref pb,pb :: Lb,fb⟩) (AM _ (Bi.mpr rfl)) ⟨.lst hb rs',ob⟩ rfl rfl c h
 ·exact nsE e
set_option tactic.hygienic true in
theorem od_catS:OpD K (fun x y H Q=>∃ i j,x=.str i/\y=.str j/\i.length+j.length<=sizeLine/\Q (.str (i ++ j)) H) catS:=fun a b H Q p ra rb e q=>by
 obtain ⟨da,va,La,fa⟩:=a
 obtain ⟨db,vb,Lb,fb⟩:=b
 obtain ⟨ra,oa⟩:=ra
 obtain ⟨rb,ob⟩:=rb
 dsimp only at ra rb
 cases da <;> try (exact nsE e)
 rename_i i
 obtain ⟨rfl,rfl⟩:=ra.view
 cases db <;> try (exact nsE e)
 rename_i j
 obtain ⟨rfl,rfl⟩:=rb.view
 have e:(if i.length+j.length<=16777216 then some (D.str (i ++ j),Fl.z) else none)=some p:=e
 split at e
 ·rename_i hl
  cases e
  exact ⟨i,j,rfl,rfl,by rw [<- szl];exact hl,q ⟨.str (i ++ j),.str (i ++ j),[],.z⟩ H (dj (.str _)) rfl rfl⟩
 ·exact nsE e
noncomputable abbrev cy:=orD addI (orD catS (orD catT catL))
theorem bj:OpD K (fun x y H Q=>rI0 (fun i j=>.int (i+j)) x y H Q\/((∃ i j,x=.str i/\y=.str j/\i.length+j.length<=sizeLine/\Q (.str (i ++ j)) H)\/((rL K x y H Q\/nh K x y H Q)\/xm x y H Q))) cy:=od_addI.or (od_catS.or (od_catT.or xK))
theorem aS:OpR X (binaryOp .Add) (fun x y H Q=>rI0 (fun i j=>.int (i+j)) x y H Q\/((∃ i j,x=.str i/\y=.str j/\i.length+j.length<=sizeLine/\Q (.str (i ++ j)) H)\/((rL X.K x y H Q\/nh X.K x y H Q)\/xm x y H Q))):=op_add.or (op_add_str.or ((op_catT.or vz).or Aa))
noncomputable def eqS:D->D->Option Bool
 | .non,.non=>some true | .non,.int _=>some false | .int _,.non=>some false | .non,.bl _=>some false | .bl _,.non=>some false | .non,.str _=>some false | .str _,.non=>some false
 | .int i,.int j=>some (decide (i=j)) | .bl i,.bl j=>some (decide (i=j)) | .str i,.str j=>some (decide (i=j))
 | .int _,.str _=>some false | .str _,.int _=>some false | .bl _,.str _=>some false | .str _,.bl _=>some false
 | _,_=>none
theorem wc {a b:D} {u v:V} {L L':List Addr} {k:Bool} (ra:Rep K H a u L) (rb:Rep K H b v L') (e:eqS a b=some k):zr u v=true/\k=decide (u=v):=by
 cases a <;> cases b <;> first | exact nsE e | (obtain ⟨rfl,rfl⟩:=ra.view;obtain ⟨rfl,rfl⟩:=rb.view;cases e;exact ⟨rfl,by simp⟩)
noncomputable def vV:D->Bool
 | .non=>true
 | _=>false
noncomputable def isN:D->D->Option (D × Fl)
 | a,.non=>some (.bl (vV a),.z)
 | _,_=>none
theorem Rep.non_iff {a:D} {u:V} (ra:Rep K H a u L):vV a=decide (u=.non):=by cases ra <;> simp [vV]
theorem Ac:OpD K (fun x y H Q=>y=.non/\Q (.bl (decide (x=.non))) H) isN:=fun a b H Q p ra rb e q=>by
 obtain ⟨db,vb,Lb,fb⟩:=b
 obtain ⟨rb,ob⟩:=rb
 dsimp only at rb
 cases db <;> try (exact nsE e)
 obtain ⟨rfl,rfl⟩:=rb.view
 unfold isN at e
 cases e
 refine ⟨rfl,?_⟩
 rw [<- ra.rep.non_iff]
 exact q ⟨_,_,[],.z⟩ H (dj (.bl _)) rfl rfl
noncomputable def i9:D->Option (D × Fl)
 | .int i=>some (.int (-i),.z)
 | _=>none
theorem et:UnD K (rU fun i=>.int (-i)) i9:=fun a H Q p ra e q=>by
 obtain ⟨da,va,La,fa⟩:=a
 obtain ⟨ra,oa⟩:=ra
 dsimp only at ra
 cases da <;> try (exact nsE e)
 obtain ⟨rfl,rfl⟩:=ra.view
 cases e
 exact ⟨_,rfl,q ⟨_,_,[],.z⟩ H (dj (.int _)) rfl rfl⟩
theorem Reps.at:∀ {ds:List D} {vs:List V} {L:List Addr} {i:Nat} {d:D},Reps (Rep K H) ds vs L->ds[i]?=some d->∃ v L',vs[i]?=some v/\Rep K H d v L'/\∀ c ∈ L',c ∈ L
 | _,_,_,_,_,.nil,h=>by simp at h
 | _,_,_,0,_,.cons r _,h=>by simp at h;subst h;exact ⟨_,_,rfl,r,fun c hc=>AQ _ hc⟩
 | _,_,_,i+1,_,.cons _ t,h=>by
  obtain ⟨v,L',h1,h2,h3⟩:=Reps.at (i:=i) t (by simpa using h)
  exact ⟨v,L',by simpa using h1,h2,fun c hc=>AR _ (h3 c hc)⟩
theorem Reps.atI {ds:List D} {vs:List V} {i:Int} {d:D} (r:Reps (Rep K H) ds vs L) (h:atI ds i=some d):∃ v L',atI vs i=some v/\Rep K H d v L'/\∀ c ∈ L',c ∈ L:=by
 unfold L2.atI at h ⊢
 rw [<- r.len]
 cases e:ixN ds.length i with
 | none=>rw [e] at h;exact nsE h
 | some j=>rw [e] at h;exact r.at h
noncomputable def ixD:D->D->Option (D × Fl)
 | .lst xs,.int i=>(atI xs i).map fun d=>(d,.z)
 | .fls xs,.int i=>(atI xs i).map fun d=>(d,.z)
 | .tup xs,.int i=>(atI xs i).map fun d=>(d,.z)
 | _,_=>none
set_option tactic.hygienic true in
theorem od_ix:OpD K (fun x y H Q=>vg K x y H Q\/vf K x y H Q) ixD:=fun a b H Q p ra rb e q=>by
 obtain ⟨da,va,La,fa⟩:=a
 obtain ⟨db,vb,Lb,fb⟩:=b
 obtain ⟨rb,ob⟩:=rb
 have ra0:=ra
 obtain ⟨ra,oa⟩:=ra
 dsimp only at ra rb
 cases da <;> try (exact nsE e)
 all_goals (cases db <;> try (exact nsE e))
 all_goals (rename_i xs i;obtain ⟨rfl,rfl⟩:=rb.view)
 ·obtain ⟨pa,vs,rfl,ha,rs⟩:=ra.view
  obtain ⟨d,h1,h2⟩:=AO.mp (show (atI xs i).map (fun d=>(d,Fl.z))=some p from e)
  subst h2
  obtain ⟨v,L',g1,g2,g3⟩:=rs.atI h1
  refine .inr ⟨pa,vs,i,v,rfl,rfl,SqT.of ha,g1,q ⟨d,v,L',.z⟩ H (pv g2 fun c hc=>?_) rfl rfl⟩
  exact iR (y:=⟨.tup xs,.ref pa,La,fa⟩) AL ra0 rfl c (g3 c hc)
 ·obtain ⟨pa,vs,La,rfl,rfl,ha,rs⟩:=ra.view
  obtain ⟨d,h1,h2⟩:=AO.mp (show (atI xs i).map (fun d=>(d,Fl.z))=some p from e)
  subst h2
  obtain ⟨v,L',g1,g2,g3⟩:=rs.atI h1
  refine .inl ⟨pa,vs,i,v,rfl,rfl,SqL.of ha,g1,q ⟨d,v,L',.z⟩ H (pv g2 fun c hc=>?_) rfl rfl⟩
  exact qR (y:=⟨.lst xs,.ref pa,pa :: La,fa⟩) AL ra0 rfl rfl c (g3 c hc)
 ·obtain ⟨pa,vs,rfl,ha,rs⟩:=ra.view
  obtain ⟨d,h1,h2⟩:=AO.mp (show (atI xs i).map (fun d=>(d,Fl.z))=some p from e)
  subst h2
  obtain ⟨v,L',g1,g2,g3⟩:=rs.atI h1
  refine .inl ⟨pa,vs,i,v,rfl,rfl,ha.sq,g1,q ⟨d,v,L',.z⟩ H (pv g2 fun c hc=>?_) rfl rfl⟩
  exact iR (y:=⟨.fls xs,.ref pa,La,fa⟩) AL ra0 rfl c (g3 c hc)
theorem ix_ok:IxR X (fun x y H Q=>vg X.K x y H Q\/vf X.K x y H Q):=ix_list.or An
end
end L3
end
section
namespace L3
open PySem L2
section
variable {K:FG} {H:Hp} {Ks:Addr->Prop} {d:D} {v:V} {L:List Addr} {X:Cx}
noncomputable def c1 (f:D->Option (D × Fl)):List D->Option (D × Fl)
 | [d]=>f d
 | _=>none
noncomputable def c2 (f:D->D->Option (D × Fl)):List D->Option (D × Fl)
 | [d,d']=>f d d'
 | _=>none
theorem jG {ys:List It3} {f:D->Option (D × Fl)} {p:D × Fl} (e:c1 f (ys.map (·.d))=some p):∃ y,ys=[y]/\f y.d=some p:=by
 match ys,e with
 | [],e=>exact nsE e
 | [y],e=>exact ⟨y,rfl,e⟩
 | _ :: _ :: _,e=>exact nsE e
theorem oj {ys:List It3} {f:D->D->Option (D × Fl)} {p:D × Fl} (e:c2 f (ys.map (·.d))=some p):∃ y z,ys=[y,z]/\f y.d z.d=some p:=by
 match ys,e with
 | [],e=>exact nsE e
 | [_],e=>exact nsE e
 | [y,z],e=>exact ⟨y,z,rfl,e⟩
 | _ :: _ :: _ :: _,e=>exact nsE e
noncomputable def lenQ:D->Option (D × Fl)
 | .lst xs=>some (.int xs.length,.z)
 | .fls xs=>some (.int xs.length,.z)
 | .tup xs=>some (.int xs.length,.z)
 | _=>none
noncomputable abbrev fL:=c1 lenQ
set_option tactic.hygienic true in
theorem ce:eW K (fun xs H Q=>∃ p ys,xs=[.ref p]/\(SqL K H p ys\/SqT K H p ys)/\Q (.int ys.length) H) fL:=fun ys H Q p ra e q=>by
 obtain ⟨y,rfl,e2⟩:=jG e
 clear e
 have e:=e2
 clear e2
 have rr:=(ra y AL).rep
 obtain ⟨da,va,La,fa⟩:=y
 dsimp only at rr e
 cases da <;> try (exact nsE e)
 ·rename_i xs
  obtain ⟨pa,vs,rfl,ha,rs⟩:=rr.view
  cases e
  exact ⟨pa,vs,rfl,.inr (SqT.of ha),by rw [<- rs.len];exact q ⟨_,_,[],.z⟩ H (dj (.int _)) rfl rfl⟩
 ·rename_i xs
  obtain ⟨pa,vs,La,rfl,rfl,ha,rs⟩:=rr.view
  cases e
  exact ⟨pa,vs,rfl,.inl (SqL.of ha),by rw [<- rs.len];exact q ⟨_,_,[],.z⟩ H (dj (.int _)) rfl rfl⟩
 ·rename_i xs
  obtain ⟨pa,vs,rfl,ha,rs⟩:=rr.view
  cases e
  exact ⟨pa,vs,rfl,.inl ha.sq,by rw [<- rs.len];exact q ⟨_,_,[],.z⟩ H (dj (.int _)) rfl rfl⟩
noncomputable def tupQ:D->Option (D × Fl)
 | .lst xs=>some (.tup xs,.z)
 | .tup xs=>some (.tup xs,.z)
 | _=>none
noncomputable abbrev sJ:=c1 tupQ
set_option tactic.hygienic true in
theorem nV:eW K (fun xs H Q=>∃ p ys,xs=[.ref p]/\((SqL K H p ys/\∀ l,H l=none->Q (.ref l) (upd H l (.tup ys)))\/(SqT K H p ys/\Q (.ref p) H))) sJ:=fun ys H Q p ra e q=>by
 obtain ⟨y,rfl,e2⟩:=jG e
 clear e
 have e:=e2
 clear e2
 have ry:=ra y AL
 have rr:=ry.rep
 obtain ⟨da,va,La,fa⟩:=y
 dsimp only at rr e
 cases da <;> try (exact nsE e)
 ·rename_i xs
  obtain ⟨pa,vs,rfl,ha,rs⟩:=rr.view
  cases e
  exact ⟨pa,vs,rfl,.inr ⟨SqT.of ha,q ⟨.tup xs,.ref pa,La,.z⟩ H (pv (.tup ha rs) (iR (y:=⟨.tup xs,.ref pa,La,fa⟩) AL ry rfl)) rfl rfl⟩⟩
 ·rename_i xs
  obtain ⟨pa,vs,La,rfl,rfl,ha,rs⟩:=rr.view
  cases e
  exact ⟨pa,vs,rfl,.inl ⟨SqL.of ha,fun l hl=>q ⟨.tup xs,.ref l,La,.z⟩ _ (vD hl rs (qR (y:=⟨.lst xs,.ref pa,pa :: La,fa⟩) AL ry rfl rfl)) rfl rfl⟩⟩
noncomputable def absQ:D->Option (D × Fl)
 | .int i=>some (.int (if i < 0 then -i else i),.z)
 | _=>none
theorem Rep.int_inv {i:Int} (r:Rep K H (.int i) v L):v=.int i:=by cases r;rfl
noncomputable def pU (C:Int->Int->Bool) (g:Int->Int->D):D->D->Option (D × Fl)
 | .int i,.int j=>if C i j then some (g i j,.z) else none
 | _,_=>none
set_option tactic.hygienic true in
theorem jy {a b:D} {C:Int->Int->Bool} {g:Int->Int->D} {p:D × Fl} (e:pU C g a b=some p):∃ i j,a=.int i/\b=.int j/\C i j=true/\p=(g i j,.z):=by
 cases a <;> cases b <;> try (exact nsE e)
 rename_i i j
 have e:(if C i j then some (g i j,Fl.z) else none)=some p:=e
 split at e
 ·rename_i h;cases e;exact ⟨i,j,rfl,rfl,h,rfl⟩
 ·exact nsE e
noncomputable abbrev yE:=c2 (pU qd fun i j=>.int (if j > i then j else i))
noncomputable abbrev yC:=c2 (pU qd fun i j=>.int (if j < i then j else i))
noncomputable abbrev we:=c2 (pU (fun _ j=>decide (0 < j/\j < 1073741824)) fun i j=>.tup [.int (i / j),.int (i % j)])
theorem yg:eW K (fun xs H Q=>∃ i j,xs=[.int i,.int j]/\Q (.int (if j > i then j else i)) H) yE:=fun ys H Q p ra e q=>by
 obtain ⟨y,z,rfl,e2⟩:=oj e
 clear e
 have e:=e2
 clear e2
 obtain ⟨i,j,ei,ej,_,rfl⟩:=jy e
 have r1:=(ra y AL).rep
 have r2:=(ra z (AM _ AL)).rep
 rw [ei] at r1
 rw [ej] at r2
 refine ⟨i,j,?_,q ⟨_,_,[],.z⟩ H (dj (.int _)) rfl rfl⟩
 show [y.v,z.v]=_
 rw [r1.int_inv,r2.int_inv]
theorem x6:eW K (fun xs H Q=>∃ i j,xs=[.int i,.int j]/\Q (.int (if j < i then j else i)) H) yC:=fun ys H Q p ra e q=>by
 obtain ⟨y,z,rfl,e2⟩:=oj e
 clear e
 have e:=e2
 clear e2
 obtain ⟨i,j,ei,ej,_,rfl⟩:=jy e
 have r1:=(ra y AL).rep
 have r2:=(ra z (AM _ AL)).rep
 rw [ei] at r1
 rw [ej] at r2
 refine ⟨i,j,?_,q ⟨_,_,[],.z⟩ H (dj (.int _)) rfl rfl⟩
 show [y.v,z.v]=_
 rw [r1.int_inv,r2.int_inv]
theorem ui:eW K (fun xs H Q=>∃ i j,xs=[.int i,.int j]/\uG i j/\∀ p,H p=none->Q (.ref p) (upd H p (.tup [.int (i / j),.int (i % j)]))) we:=fun ys H Q p ra e q=>by
 obtain ⟨y,z,rfl,e2⟩:=oj e
 clear e
 have e:=e2
 clear e2
 obtain ⟨i,j,ei,ej,hc,rfl⟩:=jy e
 have r1:=(ra y AL).rep
 have r2:=(ra z (AM _ AL)).rep
 rw [ei] at r1
 rw [ej] at r2
 refine ⟨i,j,?_,by simpa [uG] using hc,fun p hp=>q ⟨_,.ref p,[],.z⟩ _ (vD hp (L:=[]) (.cons (L:=[]) (.int _) (.cons (L:=[]) (.int _) .nil)) fun c hc=>by cases hc) rfl rfl⟩
 show [y.v,z.v]=_
 rw [r1.int_inv,r2.int_inv]
noncomputable def qb:List D->Option (List Bool)
 | []=>some []
 | .bl b :: ds=>(qb ds).map (b :: ·)
 | _=>none
set_option tactic.hygienic true in
theorem qa:∀ {ds:List D} {bs:List Bool},qb ds=some bs->ds=bs.map D.bl
 | [],bs,e=>by cases e;rfl
 | d :: ds,bs,e=>by
  cases d <;> try (exact nsE e)
  rename_i b
  obtain ⟨r,h1,h2⟩:=AO.mp (show (qb ds).map (b :: ·)=some bs from e)
  subst h2
  rw [qa h1];rfl
theorem Reps.bls:∀ {bs:List Bool} {vs:List V} {L:List Addr},Reps (Rep K H) (bs.map D.bl) vs L->vs=bs.map V.bl
 | [],_,_,.nil=>rfl
 | b :: bs,_,_,.cons r rs=>by
  rw [Reps.bls rs]
  cases r;rfl
noncomputable def allQ:D->Option (D × Fl)
 | .lst xs=>(qb xs).map fun bs=>(.bl (bs.all id),.z)
 | _=>none
noncomputable abbrev om:=c1 allQ
set_option tactic.hygienic true in
theorem ge:eW K (fun xs H Q=>∃ (a:Addr) (bs:List Bool),xs=[.ref a]/\SqL K H a (bs.map V.bl)/\Q (.bl (bs.all id)) H) om:=fun ys H Q p ra e q=>by
 obtain ⟨y,rfl,e2⟩:=jG e
 clear e
 have e:=e2
 clear e2
 have rr:=(ra y AL).rep
 obtain ⟨da,va,La,fa⟩:=y
 dsimp only at rr e
 cases da <;> try (exact nsE e)
 rename_i xs
 obtain ⟨pa,vs,La,rfl,rfl,ha,rs⟩:=rr.view
 obtain ⟨bs,h1,h2⟩:=AO.mp (show (qb xs).map (fun bs=>(D.bl (bs.all id),Fl.z))=some p from e)
 subst h2
 have:=qa h1
 subst this
 have:=rs.bls
 subst this
 exact ⟨pa,bs,rfl,SqL.of ha,q ⟨_,_,[],.z⟩ H (dj (.bl _)) rfl rfl⟩
noncomputable def rf (xs:List D) (lo hi:Option Int):List D:=(xs.drop (HT.sIx xs.length 0 lo)).take (HT.sIx xs.length xs.length hi - HT.sIx xs.length 0 lo)
end
end L3
end
section
namespace L3
open PySem L2
noncomputable def seqOf:D->Option (List D)
 | .lst xs=>some xs
 | .fls xs=>some xs
 | .tup xs=>some xs
 | _=>none
noncomputable def dR (m:EM):IM:=ak m fun r=>ak (der r) fun d=>bZ ((seqOf d).map fun ds=>([r],ds))
noncomputable def iSeq (K:FG) (tl:TE):TI:=fun σ H R=>tl σ H fun x H1=>(∃ a,x=.ref a/\(∃ xs,SqL K H1 a xs)/\R (Itl K a) H1)\/∃ a,x=.ref a/\(∃ xs,SqT K H1 a xs)/\R (Itt K a) H1
theorem zO {X:Cx} {tg l:Expr} {tl:TE} (hl:PE X l tl):PI X tg l (iSeq X.K tl):=by
 intro pins s σ H R I h
 exact thn (hl pins s σ H _ I h) fun v s1 ⟨x,H1,I1,r1,q1⟩=>by
   rcases q1 with ⟨a,e,⟨xs,hq⟩,q⟩ | ⟨a,e,⟨xs,hq⟩,q⟩
   ·subst e
    cases r1
    obtain ⟨its,rv,p,hz⟩:=I1.list hq
    refine wpAny_pyIter_list p.isList ?_
    refine ⟨s1.heap.objs.size,[s1.heap.objs.size],_,_,H1,rfl,I1.kept (t':=s1.toks) fun b o e=>AN _ e,sH a _,⟨_,AW _ rfl,rfl,rfl⟩,fun b hb=>?_,q⟩
    have e:b=s1.heap.objs.size:=by simpa using hb
    subst e
    exact I1.fpOk (A4 _) (I1.hok.fresh (A4 _))
   ·subst e
    cases r1
    obtain ⟨its,rv,p,hz⟩:=I1.tuple hq
    refine wpAny_pyIter_tuple (show s1.heap.IsTuple a its.toArray from p) ?_
    refine ⟨s1.heap.objs.size,[s1.heap.objs.size],_,_,H1,rfl,I1.kept (t':=s1.toks) fun b o e=>AN _ e,qe a _,⟨_,AW _ rfl,rfl,rfl⟩,fun b hb=>?_,q⟩
    have e:b=s1.heap.objs.size:=by simpa using hb
    subst e
    exact I1.fpOk (A4 _) (I1.hok.fresh (A4 _))
section
variable {K:FG} {G G0:Gm} {W W0:D->Sto->Prop} {H H':Hp} {σ:St} {ρ ρ':Sto} {T T':List It3} {g:Nat->Option It3} {x y z:It3} {α β:Type} {X:Cx}
theorem Ar.item2 {r:R3} {v:V} {Ts:List It3} {d:D} (w:Wf K G H σ ρ (Ts ++ T) g) (a:Ar σ r v Ts) (e:der r ρ=some (.ok d,ρ)):∃ y,y.d=d/\y.v=v/\((∃ i,i ∈ pls [r]/\g i=some y)\/y ∈ Ts):=by
 cases a with
 | @pl i v h =>
  have er:der (.pl i) ρ=((ρ[i]?).join).map fun p=>(.ok p.1,ρ):=rfl
  rw [er] at e
  cases q:(ρ[i]?).join with
  | none=>rw [q] at e;exact nsE e
  | some p =>
   rw [q] at e
   obtain ⟨y,e1,e2,e3,e4⟩:=w.slot (d:=p.1) (f:=p.2) q
   have e5:p.1=d:=by cases e;rfl
   rw [h] at e4
   injection e4 with e4
   injection e4 with e4
   exact ⟨y,e2.trans e5,e4.symm,.inl ⟨i,AL,e1⟩⟩
 | val x=>cases e;exact ⟨x,rfl,rfl,.inr (by simp)⟩
theorem mS {J:It} {H1:Hp} {y:It3} {ds:List D} {vs:List V} {L0:List Addr} (hr:Reps (Rep K H1) ds vs L0) (hk:∀ c ∈ L0,dU [y] c) (hL:∀ c ∈ L0,c ∈ y.L)
  (hgo:∀ (M:Addr->Prop) (H':Hp),(∀ b,M b->MutAt H1 b)->(∀ b o,H1 b=some o->¬ M b->H' b=some o)->(∀ b ∈ y.L,¬ M b)->(∀ (i:Nat) (v:V),vs[i]?=some v->J.go i H'/\∀ x H'',J.yld i H' x H''->H''=H'/\x=v)/\J.stop vs.length H'):Walk K J H1 [y] ds:=by
 obtain ⟨ws,h1,h2,h3⟩:=Reps.split hr
 refine ⟨ws,fun x hx=>⟨(h3 x hx).1,(h3 x hx).2.1,fun c hc=>hk c ((h3 x hx).2.2 c hc)⟩,fun M H' hm hkp hM=>?_⟩
 obtain ⟨go,stop⟩:=hgo M H' hm hkp (hM y AL)
 refine ⟨fun i d hd=>?_,by rw [hr.len];exact stop⟩
 have hi:∃ u,ws[i]?=some u/\u.d=d:=by
  rw [<- h1,A3] at hd
  obtain ⟨u,a,b⟩:=AO.mp hd
  exact ⟨u,a,b⟩
 obtain ⟨u,eu,ud⟩:=hi
 have hv:vs[i]?=some u.v:=by rw [<- h2,A3,eu];rfl
 obtain ⟨g1,g2⟩:=go i u.v hv
 refine ⟨g1,fun x H'' hy=>?_⟩
 obtain ⟨e1,e2⟩:=g2 x H'' hy
 subst e1 e2
 have hu:=AZ eu
 refine ⟨u,⟨Same.refl _,(h3 u hu).2.1.keep hkp hm fun b hb=>hM y AL b (hL b ((h3 u hu).2.2 b hb)),fun c hc=>.inr ⟨u,hu,hc⟩,fun hf=>absurd (h3 u hu).1 hf⟩,ud,(h3 u hu).1,rfl⟩
theorem mj {y:It3} {a:Addr} {ds:List D} {vs:List V} (hq:∀ H',SqL K H' a vs->True) (hs:∀ (M:Addr->Prop) (H':Hp),(∀ b,M b->MutAt H b)->(∀ b o,H b=some o->¬ M b->H' b=some o)->(∀ b ∈ y.L,¬ M b)->SqL K H' a vs) :
  ∀ (M:Addr->Prop) (H':Hp),(∀ b,M b->MutAt H b)->(∀ b o,H b=some o->¬ M b->H' b=some o)->(∀ b ∈ y.L,¬ M b)->(∀ (i:Nat) (v:V),vs[i]?=some v->(Itl K a).go i H'/\∀ x H'',(Itl K a).yld i H' x H''->H''=H'/\x=v)/\(Itl K a).stop vs.length H':=fun M H' hm hk hM=>by
 have sq:SqL K H' a vs:=hs M H' hm hk hM
 refine ⟨fun i v hv=>⟨⟨vs,v,sq,hv⟩,fun x H'' ⟨e1,e2⟩=>⟨e1,?_⟩⟩,⟨vs,sq,A4 _⟩⟩
 have:=e2 vs sq
 rw [hv] at this
 injection this with this
 exact this.symm
theorem zg {m:EM} {R:It->Hp->Prop} (h:tI K G0 W0 (dR m) σ H R):iSeq K (tE K G0 W0 m) σ H R:=by
 obtain ⟨G,W,le,ρ,T,g,o,ρ',w,e,q⟩:=h
 have herr:∀ x,o=.error x->W x ρ':=fun x hx=>by subst hx;exact q
 refine tE.seq le w e herr fun ra ρ1 e1 v H1 ⟨Ts,g1,w1,a1⟩=>?_
 obtain ⟨d,d1,e2⟩:=bp e1
 obtain ⟨p,e3,rfl,rfl⟩:=b9 e2
 obtain ⟨ds,e4,e5⟩:=AO.mp e3
 subst e5
 obtain ⟨y,y1,y2,y3⟩:=a1.item2 w1 d1
 have hy:Itm (Ts ++ T) g1 y:=by
  rcases y3 with ⟨i,_,ei⟩ | h
  ·exact .inl ⟨i,ei⟩
  ·exact .inr (AQ _ h)
 have ar:=(w1.itm hy).arg
 have qq:∀ J,Walk K J H1 [y] ds->R J H1:=fun J hw=>q J H1 [v] Ts g1 [y] w1 (by simpa using Ars.cons a1 .nil) (fun z hz=>by rw [Bi.mp hz];exact y3) hw
 clear e1 e2 e3 q
 subst y1 y2
 have ar0:=ar
 obtain ⟨da,va,La,fa⟩:=y
 obtain ⟨rr,oo⟩:=ar
 dsimp only at rr e4
 cases da with
 | tup xs =>
  obtain ⟨pa,vs,rfl,ha,rs⟩:=rr.view
  cases e4
  refine .inr ⟨pa,rfl,⟨_,SqT.of ha⟩,qq _ (mS rs (iR (y:=⟨.tup ds,.ref pa,La,fa⟩) AL ar0 rfl) (fun c hc=>hc) fun M H' hm hk hM=>?_)⟩
  have sq:SqT K H' pa vs:=SqT.of (hk pa _ ha fun z=>(hm pa z).notup ha)
  refine ⟨fun i v hv=>⟨⟨vs,v,sq,hv⟩,fun x H'' ⟨e1,e2⟩=>⟨e1,?_⟩⟩,⟨vs,sq,A4 _⟩⟩
  have:=e2 vs sq
  rw [hv] at this
  injection this with this
  exact this.symm
 | lst xs =>
  obtain ⟨pa,vs,La,rfl,rfl,ha,rs⟩:=rr.view
  cases e4
  refine .inl ⟨pa,rfl,⟨_,SqL.of ha⟩,qq _ (mS rs (qR (y:=⟨.lst ds,.ref pa,pa :: La,fa⟩) AL ar0 rfl rfl) (fun c hc=>AM _ hc) (mj (ds:=ds) (fun _ _=>trivial) fun M H' hm hk hM=>SqL.of (hk pa _ ha (hM pa AL))))⟩
 | fls xs =>
  obtain ⟨pa,vs,rfl,ha,rs⟩:=rr.view
  cases e4
  refine .inl ⟨pa,rfl,⟨_,ha.sq⟩,qq _ (mS rs (iR (y:=⟨.fls ds,.ref pa,La,fa⟩) AL ar0 rfl) (fun c hc=>hc) (mj (ds:=ds) (fun _ _=>trivial) fun M H' hm hk hM=>(ha.keep hk hm).sq))⟩
 | _=>exact nsE e4
theorem cX {tg l:Expr} {m:EM} (h:RE X G0 W0 l m):RI X G0 W0 tg l (dR m):=⟨PI.imp (zO h.h) fun _ _ _ h=>zg h⟩
noncomputable def gK (lo:Int) (n:Nat):List D:=(List.range n).map fun (k:Nat)=>D.int (lo+(k:Int))
theorem oE {H1:Hp} {ys:List It3} {lo:Int} {n:Nat}:Walk K (Itr lo n) H1 ys (gK lo n):=by
 refine ⟨[],fun x hx=>(by cases hx),fun M H' _ _ _=>⟨fun i d hd=>?_,?_⟩⟩
 ·unfold gK at hd
  rw [A3] at hd
  obtain ⟨k,a,b⟩:=AO.mp hd
  obtain ⟨hk,e⟩:=AY.mp a
  rw [List.getElem_range] at e
  subst e
  rw [List.length_range] at hk
  refine ⟨hk,fun x H'' ⟨e1,e2⟩=>?_⟩
  subst e1
  exact ⟨⟨d,x,[],.z⟩,dj (by rw [<- b,e2];exact .int _),rfl,rfl,rfl⟩
 ·show n<=(gK lo n).length
  unfold gK
  simp
noncomputable def fI (j:Int):Bool:=decide (-(2 ^ 62)<=j/\j < 2 ^ 62)
noncomputable def eR:List D->Option (List D)
 | [.int j]=>if fI j then some (gK 0 j.toNat) else none
 | _=>none
noncomputable def lR:List D->Option (List D)
 | [.int i,.int j]=>if fI i && fI j then some (gK i (j - i).toNat) else none
 | _=>none
noncomputable def bE (f:List D->Option (List D)) (ms:M3 (List R3)):IM:=ak ms fun rs=>ak (fv rs) fun ds=>bZ ((f ds).map fun xs=>([],xs))
set_option tactic.hygienic true in
theorem rB {ms:M3 (List R3)} {R:It->Hp->Prop} (h:tI K G0 W0 (bE eR ms) σ H R):v6 (tA K G0 W0 ms) σ H R:=by
 obtain ⟨G,W,le,ρ,T,g,o,ρ',w,e,q⟩:=h
 have herr:∀ x,o=.error x->W x ρ':=fun x hx=>by subst hx;exact q
 refine tA.seq le w e herr fun rs ρ1 e1 vs H1 Ts g1 w1 a1=>?_
 obtain ⟨ds,d1,e2⟩:=c8 e1
 obtain ⟨p,e3,rfl,rfl⟩:=b9 e2
 obtain ⟨xs,e4,e5⟩:=AO.mp e3
 subst e5
 obtain ⟨ys,i1,f1,f2⟩:=a1.items w1 (fun x hx=>AQ _ hx) d1
 subst f1 f2
 match ys,e4,i1,a1 with
 | [],e4,_,_=>exact nsE e4
 | y :: z :: r,e4,_,_=>cases hd:y.d <;> (rw [A8,A8,hd] at e4;exact nsE e4)
 | [y],e4,i1,a1 =>
  have rr:=(w1.itm (i1 y AL)).rep
  cases hd:y.d <;> (rw [A8,hd] at e4;try (exact nsE e4))
  rename_i j
  rw [hd] at rr
  have e4:(if fI j then some (gK 0 j.toNat) else none)=some xs:=e4
  split at e4
  ·rename_i hj
   cases e4
   have hj:=of_decide_eq_true hj
   refine ⟨j,by show [y.v]=_;rw [rr.int_inv],hj.1,hj.2,?_⟩
   exact q _ H1 [] [] g1 [] (w1.sub (A0 Ts T)) .nil (fun _ h=>by cases h) oE
  ·exact nsE e4
set_option tactic.hygienic true in
theorem wQ {ms:M3 (List R3)} {R:It->Hp->Prop} (h:tI K G0 W0 (bE lR ms) σ H R):yK (tA K G0 W0 ms) σ H R:=by
 obtain ⟨G,W,le,ρ,T,g,o,ρ',w,e,q⟩:=h
 have herr:∀ x,o=.error x->W x ρ':=fun x hx=>by subst hx;exact q
 refine tA.seq le w e herr fun rs ρ1 e1 vs H1 Ts g1 w1 a1=>?_
 obtain ⟨ds,d1,e2⟩:=c8 e1
 obtain ⟨p,e3,rfl,rfl⟩:=b9 e2
 obtain ⟨xs,e4,e5⟩:=AO.mp e3
 subst e5
 obtain ⟨ys,i1,f1,f2⟩:=a1.items w1 (fun x hx=>AQ _ hx) d1
 subst f1 f2
 have inv:∀ {ds:List D},lR ds=some xs->∃ i j,ds=[.int i,.int j]/\fI i=true/\fI j=true/\xs=gK i (j - i).toNat:=fun {ds} h=>by
  unfold lR at h
  split at h
  ·rename_i i j
   split at h
   ·rename_i hh
    cases h
    simp only [Bool.and_eq_true] at hh
    exact ⟨i,j,rfl,hh.1,hh.2,rfl⟩
   ·exact nsE h
  ·exact nsE h
 obtain ⟨i,j,eds,hi,hj,rfl⟩:=inv e4
 match ys,eds,i1,a1 with
 | [],eds,_,_=>cases eds
 | [y],eds,_,_=>exact absurd (congrArg List.length eds) (by simp)
 | y :: z :: u :: r,eds,_,_=>exact absurd (congrArg List.length eds) (by simp)
 | [y,z],eds,i1,a1 =>
  have r1:=(w1.itm (i1 y AL)).rep
  have r2:=(w1.itm (i1 z (AM _ AL))).rep
  have h1:y.d=.int i:=by injection eds
  have h2:z.d=.int j:=by injection eds with _ h;injection h
  rw [h1] at r1
  rw [h2] at r2
  have hi:=of_decide_eq_true hi
  have hj:=of_decide_eq_true hj
  refine ⟨i,j,by show [y.v,z.v]=_;rw [r1.int_inv,r2.int_inv],⟨hi.1,hi.2,hj.1,hj.2⟩,?_⟩
  exact q _ H1 [] [] g1 [] (w1.sub (A0 Ts T)) .nil (fun _ h=>by cases h) oE
theorem cA {tg a:Expr} {p pos:Pos} {ms:M3 (List R3)} (hg:Gl X "range") (hm:X.mg "range"=none) (ha:RA X G0 W0 [a] ms) (hs:starEach [a] X.env=[(false,eval a X.env)]):RI X G0 W0 tg (.Call (.Name "range" p) [a] [] pos) (bE eR ms):=⟨PI.imp (s9 hg hm ha.h hs) fun _ _ _ h=>rB h⟩
theorem gk {tg a b:Expr} {p pos:Pos} {ms:M3 (List R3)} (hg:Gl X "range") (hm:X.mg "range"=none) (ha:RA X G0 W0 [a,b] ms) (hs:starEach [a,b] X.env=[(false,eval a X.env),(false,eval b X.env)]) (hs2:starEach [b] X.env=[(false,eval b X.env)]):RI X G0 W0 tg (.Call (.Name "range" p) [a,b] [] pos) (bE lR ms):=⟨PI.imp (sZ hg hm ha.h hs hs2) fun _ _ _ h=>wQ h⟩
end
end L3
end
section
namespace L3
open PySem L2
section
variable {K:FG} {G G0:Gm} {W W0:D->Sto->Prop} {H H':Hp} {σ:St} {ρ ρ':Sto} {T T':List It3} {g:Nat->Option It3} {x y z:It3} {α β:Type} {X:Cx} {L:List Addr}
noncomputable def u3 (bnd:D->Sto->Option Sto) (m:EM):SM:=ak m fun r=>ak (ie r) fun p=>fun ρ=>(bnd p.1 ρ).map fun ρ1=>(.ok .nx,ρ1)
theorem zf {bnd:D->Sto->Option Sto} {tg:TG} {m:EM} {E:Ends} (hb:Bnd K G0.pr tg bnd) (h:tS K G0 W0 (u3 bnd m) E σ H):uT (tE K G0 W0 m) tg E σ H:=by
 refine h.use fun G W le ρ T g r ρ' w e q=>?_
 refine tE.seq le w e q.err fun ra ρ1 e1 v H1 ⟨Ts,g1,w1,a1⟩=>?_
 obtain ⟨p,ρ2,g2,x,e2,w2,f1,_,_,f3⟩:=a1.take w1 e1
 have w3:=Wf.lowT (Ts:=[x]) w2
 obtain ⟨ρ3,e3,e4⟩:=AO.mp e2
 cases e4
 rw [<- f3]
 exact hb G H1 σ ρ2 _ T g2 (dq x) _ le.pr rfl w3 (by show bnd x.d ρ2=_;rw [f1];exact e3) fun σ2 g3 w4=>q _ _ _ w4
theorem zz {tg e:Expr} {pos:Pos} {bnd:D->Sto->Option Sto} {m:EM} (hg:RG X G0.pr tg bnd) (he:RE X G0 W0 e m) (hs:swapsWithSole [tg] e pos.line X.env=pure false) (hw:swappedStores [tg] e X.env=pure none) (h1:(assignEach [tg] X.env).map (·.2)=[assign tg X.env]):RS X G0 W0 (.Assign [tg] e pos) (u3 bnd m):=by
 obtain ⟨g,a,b⟩:=hg.h
 exact ⟨PS.imp (vn he.h a hs hw h1) fun _ _ _ h=>zf b h⟩
noncomputable def isL:D->Bool
 | .lst _=>true
 | _=>false
theorem qT:∀ d v L H,isL d=true->Rep K H d v L->tyV K "list" v H:=fun d v L H h r=>by
 cases r with
 | lst ha _=>exact .inl ⟨rfl,_,SqL.of ha⟩
 | _=>cases h
noncomputable def appF:D->List D->Option (D × D)
 | .lst xs,[d]=>if xs.length < 16777216 then some (.lst (xs ++ [d]),.non) else none
 | _,_=>none
noncomputable def wa:D->List D->Option (D × D)
 | .lst xs,[.lst ys]=>if xs.length+ys.length<=16777216 then some (.lst (xs ++ ys),.non) else none
 | _,_=>none
theorem ext2 {xs:List D} (a:D) {b:D} {r:List D}:wa (.lst xs) (a :: b :: r)=none:=by cases a <;> rfl
set_option tactic.hygienic true in
theorem qC:MutD K rJ wa:=fun a d L0 as H Q p r m na ra nA e q=>by
 cases d with
 | lst xs =>
  obtain ⟨_,vs,_,e1,e2,ha,rs⟩:=r.view
  cases e1
  cases e2
  match as,e,ra,nA with
  | [],e,_,_=>exact nsE e
  | y :: _ :: _,e,_,_=>exact nsE ((ext2 y.d).symm.trans e)
  | [y],e,ra,nA =>
   have ry:=ra y AL
   have ny:=nA y AL
   obtain ⟨yd,yv,yL,yf⟩:=y
   dsimp only at ry ny e
   cases yd with
   | lst ys =>
    obtain ⟨b,ws,L1,rfl,rfl,hb,rs'⟩:=ry.view
    have e:(if xs.length+ys.length<=16777216 then some (D.lst (xs ++ ys),D.non) else none)=some p:=e
    split at e
    ·rename_i hl
     cases e
     refine ⟨a,b,vs,ws,rfl,rfl,ha,hb,by rw [<- rs.len,<- rs'.len,<- szl];exact hl,?_⟩
     have ma:MutAt H a:=.inl ⟨_,ha⟩
     have keeps:∀ {ds vs' L},Reps (Rep K H) ds vs' L->a ∉ L->Reps (Rep K (upd H a (.lst (vs ++ ws)))) ds vs' L:=fun {ds vs' L} r n=>r.keep (M:=fun b=>b=a) (fun b o hb h=>by rw [aw h];exact hb) (fun b e=>by rw [e];exact ma) fun b hb e=>n (by rw [<- e];exact hb)
     exact q (.lst (vs ++ ws)) (L0 ++ L1) ⟨.non,.non,[],.z⟩ (.lst aV ((keeps rs na).append (keeps rs' fun h=>ny (AM _ h)))) rfl (fun c hc=>by
      rcases AV.mp hc with h | h
      ·exact .inl h
      ·exact .inr ⟨_,AL,AM _ h⟩) rfl rfl .non fun c hc=>by cases hc
    ·exact nsE e
   | _=>exact nsE e
 | _=>exact nsE e
noncomputable def wX:D->List D->Option (D × D)
 | .lst xs,[.int i,d]=>(ixN xs.length i).map fun j=>(.lst (xs.set j d),.non)
 | _,_=>none
theorem Reps.set:∀ {ds:List D} {vs:List V} {L L':List Addr} {d:D} {v:V} (j:Nat),Reps (Rep K H) ds vs L->Rep K H d v L'->∃ L2,Reps (Rep K H) (ds.set j d) (vs.set j v) L2/\∀ c ∈ L2,c ∈ L\/c ∈ L'
 | _,_,_,_,_,_,j,.nil,_=>⟨[],.nil,fun c hc=>by cases hc⟩
 | _,_,_,L',_,_,0,.cons (L:=L1) (L':=L1') r rs,r'=>⟨L' ++ L1',.cons r' rs,fun c hc=>by
  rcases AV.mp hc with h | h
  ·exact .inr h
  ·exact .inl (AR _ h)⟩
 | _,_,_,L',_,_,j+1,.cons (L:=L1) (L':=L1') r rs,r'=>by
  obtain ⟨L2,h1,h2⟩:=Reps.set j rs r'
  refine ⟨L1 ++ L2,.cons r h1,fun c hc=>?_⟩
  rcases AV.mp hc with h | h
  ·exact .inl (AQ _ h)
  ·rcases h2 c h with h | h
   ·exact .inl (AR _ h)
   ·exact .inr h
theorem set1 {xs:List D} (a:D):wX (.lst xs) [a]=none:=by cases a <;> rfl
theorem set3' {xs:List D} (a:D) {b c:D} {r:List D}:wX (.lst xs) (a :: b :: c :: r)=none:=by cases a <;> rfl
theorem xM:MutD K (kZ rF) wX:=fun a d L0 as H Q p r m na ra nA e q=>by
 cases d with
 | lst xs =>
  obtain ⟨_,vs,_,e1,e2,ha,rs⟩:=r.view
  cases e1
  cases e2
  match as,e,ra,nA with
  | [],e,_,_=>exact nsE e
  | [y],e,_,_=>exact nsE ((set1 y.d).symm.trans e)
  | y :: _ :: _ :: _,e,_,_=>exact nsE ((set3' y.d).symm.trans e)
  | [k,y],e,ra,nA =>
   have rk:=ra k AL
   have ry:=ra y (AM _ AL)
   have ny:=nA y (AM _ AL)
   obtain ⟨kd,kv,kL,kf⟩:=k
   dsimp only at rk
   cases kd with
   | int i =>
    obtain ⟨rfl,rfl⟩:=rk.view
    obtain ⟨j,h1,h2⟩:=AO.mp (show (ixN xs.length i).map (fun j=>(D.lst (xs.set j y.d),D.non))=some p from e)
    subst h2
    refine ⟨.int i,y.v,rfl,a,vs,i,j,rfl,rfl,ha,by rw [<- rs.len];exact h1,?_⟩
    have ma:MutAt H a:=.inl ⟨_,ha⟩
    have ry':Rep K (upd H a (.lst (vs.set j y.v))) y.d y.v y.L:=ry.keep (M:=fun b=>b=a) (fun b o hb h=>by rw [aw h];exact hb) (fun b e=>by rw [e];exact ma) fun b hb e=>ny (by rw [<- e];exact hb)
    have keeps:Reps (Rep K (upd H a (.lst (vs.set j y.v)))) xs vs L0:=rs.keep (M:=fun b=>b=a) (fun b o hb h=>by rw [aw h];exact hb) (fun b e=>by rw [e];exact ma) fun b hb e=>na (by rw [<- e];exact hb)
    obtain ⟨L2,h3,h4⟩:=keeps.set j ry'
    exact q (.lst (vs.set j y.v)) L2 ⟨.non,.non,[],.z⟩ (.lst aV h3) rfl (fun c hc=>(h4 c hc).imp id fun h=>⟨y,AM _ AL,h⟩) rfl rfl .non fun c hc=>by cases hc
   | _=>exact nsE e
 | _=>exact nsE e
theorem m9 {i:Nat} {x:Str} {pn apos cpos:Pos} {id:String} {nm:Str} {Ty:String} {e:Expr} {es:List Expr} {ok:D->Bool} {r:V->List V->Hp->VK->Prop} {f:D->List D->Option (D × D)} {ms:M3 (List R3)} (pa:PlainAttrs Ty) (slot:Slot Ty nm id) (hty:typeOf (.builtin id)=pure (.type "method_descriptor")) (hm:MtR X id r) (hr:MutD X.K r f) (hok:∀ d v L H,ok d=true->Rep X.K H d v L->tyV X.K Ty v H)
  (ho:PE X (.Name x pn) (sK i)) (ha:RA X G0 W0 (e :: es) ms) (hbase:attributeBase (.Name x pn) nm X.env (eval (.Name x pn) X.env)=eval (.Name x pn) X.env)
  (hfew:((backTo cpos (starEach (e :: es) X.env)).all (fun x=>!x.1) && (backToKw cpos (keywordEach [] X.env)).all (fun x=>x.1.isSome) && decide ((e :: es).length+([]:List Keyword).length+(if ([]:List Keyword).isEmpty then 0 else 1) < 30))=true)
  (hline:(apos.endLine == cpos.line)=true) (hs:starEach (e :: es) X.env=(false,eval e X.env) :: starEach es X.env) (hplain:(backTo cpos (starEach es X.env)).any (·.1)=false):RE X G0 W0 (.Call (.Attribute (.Name x pn) nm apos) (e :: es) [] cpos) (vJ ok f i ms) :=
 ⟨PE.imp (pe_bm pa slot hty hm ho ha.h hbase hfew hline hs hplain) fun _ _ _ h=>zk hr hok h⟩
theorem qo {i:Nat} {x:Str} {pn p2 pos:Pos} {k e:Expr} {mk mv:EM} {t:uE} {f:D->List D->Option (D × D)} (hs:wB X t) (hr:MutD X.K (kZ t) f) (ho:PE X (.Name x pn) (sK i)) (hk:RE X G0 W0 k mk) (hv:RE X G0 W0 e mv)
  (ha:∀ v,assign (.Subscript (.Name x pn) k p2) X.env v=(do
   let ov <- holding [v] (eval (.Name x pn) X.env)
   let iv <- holding [v,ov] (eval k X.env)
   standAt p2
   holding [v,ov,iv] (setItem ov iv v)
   release [v,ov,iv] []))
  (h1:swapsWithSole [.Subscript (.Name x pn) k p2] e pos.line X.env=pure false) (h2:swappedStores [.Subscript (.Name x pn) k p2] e X.env=pure none) (h3:(assignEach [.Subscript (.Name x pn) k p2] X.env).map (·.2)=[assign (.Subscript (.Name x pn) k p2) X.env]):RS X G0 W0 (.Assign [.Subscript (.Name x pn) k p2] e pos) (qm f i mk mv) :=
 ⟨PS.imp (vn hv.h (zQ ho hk.h hs ha) h1 h2 h3) fun _ _ _ h=>y9 hr h⟩
end
end L3
end
section
namespace L3
open PySem L2
section
variable {K:FG} {G G0:Gm} {W W0:D->Sto->Prop} {H H':Hp} {σ:St} {ρ ρ':Sto} {T T':List It3} {g:Nat->Option It3} {x y z:It3} {α β:Type} {X:Cx} {L:List Addr}
theorem bz {Y:Cx} {ix:List (Option Nat)}:PTs Y [] (tT K (cu ix) noX fy):=fun pins s σ H Q I h=>xp pins s σ H Q I (yY h)
theorem dM {Y:Cx} {c:Expr} {ix:List (Option Nat)} {m:M3 Bool} (h:RT Y (cu ix) noX c m):PTs Y [c] (tT Y.K (cu ix) noX m):=xo h.h
theorem bC {ix:List (Option Nat)} (h:(ix.filterMap id).Nodup):Inj ix:=by
 intro j k i hj hk
 induction ix generalizing j k with
 | nil=>simp at hj
 | cons o ix ih =>
  cases o with
  | none =>
   have h':(ix.filterMap id).Nodup:=by simpa using h
   cases j with
   | zero=>simp at hj
   | succ j =>
    cases k with
    | zero=>simp at hk
    | succ k=>rw [ih h' j k (by simpa using hj) (by simpa using hk)]
  | some i0 =>
   have h':(i0 :: ix.filterMap id).Nodup:=by simpa using h
   obtain ⟨n,h''⟩:=List.nodup_cons.mp h'
   have mem:∀ m:Nat,ix[m]?=some (some i0)->False:=fun m e=>n (List.mem_filterMap.mpr ⟨some i0,AZ e,rfl⟩)
   cases j with
   | zero =>
    simp at hj
    cases k with
    | zero=>rfl
    | succ k=>subst hj;exact (mem k (by simpa using hk)).elim
   | succ j =>
    cases k with
    | zero=>simp at hk;subst hk;exact (mem j (by simpa using hj)).elim
    | succ k=>rw [ih h'' j k (by simpa using hj) (by simpa using hk)]
noncomputable def uZ:SM:=fun _=>none
theorem oN {r r':R2} {f f':D->D->Option (D × Fl)} {ma mb mc:EM} {Q:VK} (ho:OpD K r f) (ho':OpD K r' f') (h:tE K G0 W0 (ju f f' ma mb mc) σ H Q):mV r r' (tE K G0 W0 ma) (tE K G0 W0 mb) (tE K G0 W0 mc) σ H Q:=by
 refine h.use fun G W le ρ T g o ρ' w e q=>?_
 refine tE.seq le w e q.err fun ra ρ1 e1 va H1 ⟨Ts,g1,w1,a1⟩=>?_
 refine tE.seq le w1 e1 q.err fun rb ρ2 e2 vb H2 ⟨Us,g2,w2,a2⟩=>?_
 obtain ⟨da,d1,e3⟩:=bp e2
 obtain ⟨db,d2,e4⟩:=bp e3
 obtain ⟨k,e5,e6⟩:=gp e4
 obtain ⟨ya,i1,f1,f2⟩:=a1.item w2 (fun x hx=>AR _ (AQ _ hx)) d1
 obtain ⟨yb,i2,f3,f4⟩:=a2.item w2 (fun x hx=>AQ _ hx) d2
 obtain ⟨p,e7,e8⟩:=Bh.mp e5
 have hp:=wy e8
 subst f1 f2 f4
 rw [<- f3] at e7
 refine ho ya yb H2 _ p (w2.itm i1).arg (w2.itm i2).arg e7 fun u H3 nu ud uf=>?_
 have w3:=w2.push nu fun c h=>w2.kids (ys:=[ya,yb]) (fun y hy=>by
  rcases AS.mp hy with h | hy
  ·rw [h];exact i1
  ·rw [Bi.mp hy];exact i2) h
 have ru:=nu.rep
 rw [ud,hp] at ru
 refine ⟨k,ru.bl_eq.1,?_⟩
 have w4:=w3.sub (List.sublist_cons_self u _)
 cases k with
 | false =>
  cases e6
  have w5:=w4.sub (T':=T) ((A0 Ts T).trans (A0 Us _))
  exact q _ _ (w5.const (.bl false))
 | true =>
  simp only [if_true] at e6 ⊢
  refine tE.seq le w4 e6 q.err fun rc ρ5 e9 vc H5 ⟨Vs,g5,w5,a5⟩=>?_
  obtain ⟨db',d3,e10⟩:=bp e9
  obtain ⟨dc,d4,e11⟩:=bp e10
  obtain ⟨p',e12,rfl,rfl⟩:=b9 e11
  obtain ⟨yb',i3,f5,f6⟩:=a2.item w5 (fun x hx=>AR _ (AQ _ hx)) d3
  obtain ⟨yc,i4,f7,f8⟩:=a5.item w5 (fun x hx=>AQ _ hx) d4
  cases ef:f' db' dc with
  | none=>rw [ef] at e12;exact nsE e12
  | some s =>
   rw [ef] at e12
   cases e12
   have w6:=w5
   rw [show Vs ++ (Us ++ (Ts ++ T))=(Vs ++ (Us ++ Ts)) ++ T by simp] at w6
   have i3':Itm ((Vs ++ (Us ++ Ts)) ++ T) g5 yb':=by simpa using i3
   have i4':Itm ((Vs ++ (Us ++ Ts)) ++ T) g5 yc:=by simpa using i4
   rw [<- f6,<- f8]
   refine ho' yb' yc H5 Q s (w5.itm i3).arg (w5.itm i4).arg (by rw [f5,f7];exact ef) (pY w6 (fun y hy=>?_) q)
   rcases AS.mp hy with h | hy
   ·rw [h];exact i3'
   ·rw [Bi.mp hy];exact i4'
theorem o6 {op op':CmpOp} {r r':R2} {f f':D->D->Option (D × Fl)} {a b c:Expr} {pos:Pos} {ma mb mc:EM} (ho:OpR X (compareOp op) r) (hd:OpD X.K r f) (ho':OpR X (compareOp op') r') (hd':OpD X.K r' f') (ha:RE X G0 W0 a ma) (hb:RE X G0 W0 b mb) (hc:RE X G0 W0 c mc)
  (h:PE X a (tE X.K G0 W0 ma)->PE X b (tE X.K G0 W0 mb)->PE X c (tE X.K G0 W0 mc)->PE X (.Compare a [op,op'] [b,c] pos) (mV r r' (tE X.K G0 W0 ma) (tE X.K G0 W0 mb) (tE X.K G0 W0 mc))):RE X G0 W0 (.Compare a [op,op'] [b,c] pos) (ju f f' ma mb mc):=⟨PE.imp (h ha.h hb.h hc.h) fun _ _ _ h=>oN hd hd' h⟩
theorem bq {op:CmpOp} {r:R2} {f:D->D->Option (D × Fl)} {a b:Expr} {pos:Pos} {ma mb:EM} (ho:OpR X (compareOp op) r) (hd:OpD X.K r f) (ha:RE X G0 W0 a ma) (hb:RE X G0 W0 b mb) (hm:behindInMarks op b=false):RT X G0 W0 (.Compare a [op] [b] pos) (cB (ao f ma mb)):=⟨PT.imp (xq ho ha.h hb.h hm) fun _ _ _ h=>kI hd (y6 h)⟩
theorem u6 {op op':CmpOp} {r r':R2} {f f':D->D->Option (D × Fl)} {a b c:Expr} {pos:Pos} {ma mb mc:EM} (ho:OpR X (compareOp op) r) (hd:OpD X.K r f) (ho':OpR X (compareOp op') r') (hd':OpD X.K r' f') (ha:RE X G0 W0 a ma) (hb:RE X G0 W0 b mb) (hc:RE X G0 W0 c mc) (hm:lastMarks [op,op'] [b,c]=false):RT X G0 W0 (.Compare a [op,op'] [b,c] pos) (cB (ju f f' ma mb mc)):=⟨PT.imp (vi ho ho' ha.h hb.h hc.h hm) fun _ _ _ h=>oN hd hd' (y6 h)⟩
end
end L3
namespace L3
theorem av {mask:List Bool} {i:Nat} (h:mask.length<=i):prM mask i=false:=by
 unfold prM
 rw [List.getElem?_eq_none h]
end L3
end
section
namespace L3
open PySem L2
structure Bl (mg:Str->Option Value):Prop where
 len:mg "len"=none
 range:mg "range"=none
 abs:mg "abs"=none
 divmod:mg "divmod"=none
 enumerate:mg "enumerate"=none
 tuple:mg "tuple"=none
 isinstance:mg "isinstance"=none
 int:mg "int"=none
 bool:mg "bool"=none
 all:mg "all"=none
 str:mg "str"=none
 max:mg "max"=none
 min:mg "min"=none
 list:mg "list"=none
 dict:mg "dict"=none
 repr:mg "repr"=none
 sorted:mg "sorted"=none
 set:mg "set"=none
 zip:mg "zip"=none
 reversed:mg "reversed"=none
theorem dn:bootBuiltins "len"=some (.builtin "len"):=by decide +kernel
theorem wx:bootBuiltins "divmod"=some (.builtin "divmod"):=by decide +kernel
theorem eh:bootBuiltins "tuple"=some (.type "tuple"):=by decide +kernel
theorem iY:bootBuiltins "isinstance"=some (.builtin "isinstance"):=by decide +kernel
theorem b_int:bootBuiltins "int"=some (.type "int"):=by decide +kernel
theorem AD:bootBuiltins "bool"=some (.type "bool"):=by decide +kernel
theorem jS:bootBuiltins "all"=some (.builtin "all"):=by decide +kernel
theorem ww:bootBuiltins "max"=some (.builtin "max"):=by decide +kernel
theorem wv:bootBuiltins "min"=some (.builtin "min"):=by decide +kernel
theorem AC:bootBuiltins "dict"=some (.type "dict"):=by decide +kernel
theorem b_zip:bootBuiltins "zip"=some (.type "zip"):=by decide +kernel
end L3
end
section
namespace L3
open PySem L2
section
variable {K:FG} {G G0:Gm} {W W0:D->Sto->Prop} {H H':Hp} {σ:St} {ρ ρ':Sto} {T T':List It3} {g:Nat->Option It3} {x y z:It3} {α β:Type} {X:Cx} {L:List Addr}
theorem mU {m:EM} {Q Q':VK} (h:tE K G0 W0 m σ H Q) (f:∀ v H,Q v H->Q' v H):tE K G0 W0 m σ H Q':=by
 refine h.use fun G W le ρ T g o ρ' w e q=>?_
 refine tE.mk le w e ?_
 cases o with
 | ok r=>exact fun v H' g=>f v H' (q v H' g)
 | error x=>exact q
noncomputable def yG:D->Option String
 | .non=>some "NoneType" | .bl _=>some "bool" | .int _=>some "int" | .str _=>some "str"
 | .tup _=>some "tuple" | .lst _=>some "list" | .fls _=>some "list" | .dk _=>some "dict" | .dt _=>some "dict" | .exc _ _=>none
noncomputable def qS (t:String) (d:D):Option (D × Fl):=(yG d).map fun k=>(.bl (pS k t),.z)
theorem Rep.kind {d:D} {v:V} {k:String} (r:Rep K H d v L) (e:yG d=some k):KindOf K H v k:=by
 cases r with
 | non=>cases e;exact .non
 | bl b=>cases e;exact .bool b
 | int i=>cases e;exact .int i
 | str s=>cases e;exact .str s
 | tup h _=>cases e;exact .tuple (SqT.of h)
 | lst h _=>cases e;exact .list (SqL.of h)
 | lstF h _=>cases e;exact .list h.sq
 | dK h _ _=>cases e;exact .dK h
 | dT h _ _=>cases e;exact .dT h
 | exc _ _=>cases e
theorem i6 {t:String} {tn:Str} {a:Expr} {p pT pos:Pos} {ma:EM} (hc:CallR X (.builtin "isinstance") (fun xs H Q=>∃ x k,xs=[x,.ty t]/\KindOf X.K H x k/\Q (.bl (pS k t)) H)) (hg:Gl X "isinstance") (hm:X.mg "isinstance"=none) (ht:PE X (.Name tn pT) (tC (.ty t))) (ha:RE X G0 W0 a ma)
  (he1:starEach [a,.Name tn pT] X.env=(false,eval a X.env) :: starEach [.Name tn pT] X.env) (he2:starEach [.Name tn pT] X.env=(false,eval (.Name tn pT) X.env) :: starEach [] X.env) (hpl:(backTo pos (starEach [.Name tn pT] X.env)).any (·.1)=false):RE X G0 W0 (.Call (.Name "isinstance" p) [a,.Name tn pT] [] pos) (mUn (qS t) ma) :=
 ⟨PE.imp (iz hc hg hm iY (gm ha.h (gm ht nt he2) he1) (by decide) (by decide) he1 hpl) fun σ H Q h=>by
  have h:=uR (r:=fun x H Q=>∃ k,KindOf X.K H x k/\Q (.bl (pS k t)) H) (fun a H Q p ra e q=>by
   obtain ⟨k,h1,h2⟩:=AO.mp e
   subst h2
   exact ⟨k,ra.rep.kind h1,q ⟨.bl (pS k t),.bl (pS k t),[],.z⟩ H (dj (.bl _)) rfl rfl⟩) h
  refine mU h fun x H1 ⟨k,hk,q⟩=>?_
  exact ⟨x,k,rfl,hk,q⟩⟩
noncomputable def vT:D->Option Key
 | .int i=>some (.inl i)
 | .str s=>some (.inr s)
 | _=>none
noncomputable def du:List D->Option (List Key)
 | []=>some []
 | d :: ds=>match vT d,du ds with
  | some k,some ks=>some (k :: ks)
  | _,_=>none
theorem tQ {d:D} {v:V} {k:Key} (r:Rep K H d v L) (e:vT d=some k):v=kV k:=by
 cases r <;> cases e <;> rfl
theorem eg:∀ {ds:List D} {vs:List V} {L:List Addr} {ks:List Key},Reps (Rep K H) ds vs L->du ds=some ks->vs=ks.map kV
 | _,_,_,ks,.nil,e=>by cases e;rfl
 | _,_,_,ks,.cons (d:=d) (ds:=ds) r rs,e=>by
  unfold du at e
  cases h1:vT d with
  | none=>rw [h1] at e;exact nsE e
  | some k =>
   cases h2:du ds with
   | none=>rw [h1,h2] at e;exact nsE e
   | some ks' =>
    rw [h1,h2] at e
    cases e
    rw [tQ r h1,eg rs h2];rfl
noncomputable def v8 (kvs:List (List Key × D)) (k:List Key):Option D:=(kvs.find? fun kv=>decide (kv.1=k)).map (·.2)
noncomputable def vh (kvs:List (List Key × D)) (k:List Key) (v:D):List (List Key × D) :=
 if (kvs.any fun kv=>decide (kv.1=k))=true then kvs.map (fun kv=>if kv.1=k then (kv.1,v) else kv) else kvs ++ [(k,v)]
theorem pV:∀ {kvs:List (List Key × D)} {ps:List (List Key × V)} {L:List Addr} {k:List Key} {d:D},kvs.map (·.1)=ps.map (·.1)->Reps (Rep K H) (kvs.map (·.2)) (ps.map (·.2)) L->v8 kvs k=some d->∃ v L',jU ps k=some v/\Rep K H d v L'/\∀ c ∈ L',c ∈ L
 | [],ps,L,k,d,hk,r,e=>by cases e
 | kv :: kvs,[],L,k,d,hk,r,e=>by cases hk
 | kv :: kvs,p :: ps,L,k,d,hk,r,e=>by
  have hk':kv.1=p.1/\kvs.map (·.1)=ps.map (·.1):=by simpa using hk
  generalize hr:(kv :: kvs).map (·.2)=xs at r
  generalize hp:(p :: ps).map (·.2)=ys at r
  cases r with
  | nil=>cases hr
  | cons a as =>
   cases hr
   cases hp
   unfold v8 at e
   rw [List.find?_cons] at e
   by_cases h:kv.1=k
   ·rw [A9 h] at e
    cases e
    exact ⟨_,_,ib (hk'.1.symm.trans h),a,fun c hc=>AQ _ hc⟩
   ·rw [Ba h] at e
    obtain ⟨v,L',h1,h2,h3⟩:=pV hk'.2 as e
    exact ⟨v,L',by rw [ic (fun z=>h (hk'.1.trans z))];exact h1,h2,fun c hc=>AR _ (h3 c hc)⟩
noncomputable def yN:D->D->Option (D × Fl)
 | .dt kvs,.tup ks=>match du ks with
  | some k=>(v8 kvs k).map fun d=>(d,.z)
  | none=>none
 | _,_=>none
noncomputable def rK:R2:=fun x y H Q=>∃ a v,x=.ref a/\DGet H a y (some v)/\Q v H
theorem xI:OpD K rK yN:=fun a b H Q p ra rb e q=>by
 obtain ⟨da,va,La,fa⟩:=a
 obtain ⟨db,vb,Lb,fb⟩:=b
 have ra0:=ra
 obtain ⟨ra,oa⟩:=ra
 obtain ⟨rb,ob⟩:=rb
 dsimp only at ra rb e
 cases da with
 | dt kvs =>
  obtain ⟨pa,ps,L0,rfl,rfl,ha,hk,rs⟩:=ra.view
  cases db with
  | tup ks =>
   obtain ⟨pb,ws,rfl,hb,rs'⟩:=rb.view
   have e:(match du ks with | some k=>(v8 kvs k).map fun d=>(d,Fl.z) | none=>none)=some p:=e
   cases h1:du ks with
   | none=>rw [h1] at e;exact nsE e
   | some k =>
    rw [h1] at e
    obtain ⟨d,h2,h3⟩:=AO.mp (show (v8 kvs k).map (fun d=>(d,Fl.z))=some p from e)
    subst h3
    have hw:=eg rs' h1
    subst hw
    obtain ⟨v,L',g1,g2,g3⟩:=pV hk rs h2
    refine ⟨pa,v,rfl,by rw [<- g1];exact DGet.t ha hb,q ⟨d,v,L',.z⟩ H (pv g2 fun c hc=>?_) rfl rfl⟩
    exact qR (y:=⟨.dt kvs,.ref pa,pa :: L0,fa⟩) AL ra0 rfl rfl c (g3 c hc)
  | _=>exact nsE e
 | _=>exact nsE e
open PySem.Spec PyProof.Rows in
theorem xV (hu:X.A.units+1 < cLine):IxR X rK:=by
 intro value slice pins s σ H x y v u Q I rx ry h hs
 obtain ⟨a,w,rfl,g,q⟩:=h
 cases rx
 have hT:=pZ I g
 unfold subscriptTail
 refine AI ?_
 rw [getitemInPython_of_ne hT.not_modules]
 refine AI (wpAny_specialOf hT PySem.F.slot_dict_getitem.lookup ?_)
 have fin:wpAny (model X.prog X.w) X.A (subscripted slice false (.ref a) u) (fun r s₃=>wpAny (model X.prog X.w) X.A (letTemporaryGo value (.ref a) r >>= fun _=>pure r) (EP X pins σ Q) X.xe s₃) X.xe s:=by
  rw [hs]
  exact wpAny_operating (uc hu I g ry fun w' s3 I3 rw'=>AI (wpAny_letTemporaryGo (AJ ⟨w,H,I3,rw',q⟩)))
 first
  | exact AJ (AI fin)
  | exact AI (AJ (AI fin))
  | exact AI fin
noncomputable abbrev a9:=orD ixD yN
theorem aB:OpD K (fun x y H Q=>(vg K x y H Q\/vf K x y H Q)\/rK x y H Q) a9:=od_ix.or xI
theorem aC (hu:X.A.units+1 < cLine):IxR X (fun x y H Q=>(vg X.K x y H Q\/vf X.K x y H Q)\/rK x y H Q):=ix_ok.or (xV hu)
noncomputable def jt:EM:=bU (.val (.dt []) .u)
theorem iy {pos:Pos}:RE X G0 W0 (.Dict [] [] pos) jt:=⟨PE.imp vv fun σ H Q h=>by
 refine h.use fun G W le ρ T g o ρ' w e q=>?_
 cases e
 intro p hp
 refine q _ _ (Wf.done (Us:=[]) (ys:=[]) (x:=⟨.dt [],.ref p,[p],.u⟩) w (fun _ h=>(by cases h)) ⟨bF hp,.dT aV rfl .nil,fun c hc=>?_,fun _=>⟨rfl,p,[],rfl,rfl,(by simp),hp⟩⟩)
 rw [Bi.mp hc];exact .inl hp⟩
noncomputable def rM:D->List D->Option (D × D)
 | .dt kvs,[.tup ks,v]=>match du ks with
  | some k=>if kvs.length < 16777216 then some (.dt (vh kvs k v),.non) else none
  | none=>none
 | _,_=>none
noncomputable def rG:uE:=fun o i v H Q=>∃ a H',o=.ref a/\DPut H a i v H'/\Q H'
theorem uY (hu:X.A.units+1 < cLine):wB X rG:=by
 intro pins s σ H o i v ov iv u Q I ro ri rv h
 obtain ⟨a,H',rfl,g,q⟩:=h
 cases ro
 exact ub hu I g ri rv fun s' I'=>⟨H',I',q⟩
theorem pg:∀ {kvs:List (List Key × D)} {ps:List (List Key × V)} {L L':List Addr} {k:List Key} {d:D} {v:V},kvs.map (·.1)=ps.map (·.1)->Reps (Rep K H) (kvs.map (·.2)) (ps.map (·.2)) L->Rep K H d v L' ->
  ∃ L2,Reps (Rep K H) ((kvs.map fun kv=>if kv.1=k then (kv.1,d) else kv).map (·.2)) ((ps.map fun kv=>if kv.1=k then (kv.1,v) else kv).map (·.2)) L2/\(∀ c ∈ L2,c ∈ L\/c ∈ L')
 | [],[],L,L',k,d,v,hk,r,rd=>⟨[],.nil,fun c hc=>by cases hc⟩
 | [],_ :: _,_,_,_,_,_,hk,_,_=>by cases hk
 | _ :: _,[],_,_,_,_,_,hk,_,_=>by cases hk
 | kv :: kvs,p :: ps,L,L',k,d,v,hk,r,rd=>by
  have hk':kv.1=p.1/\kvs.map (·.1)=ps.map (·.1):=by simpa using hk
  generalize hr:(kv :: kvs).map (·.2)=xs at r
  generalize hp:(p :: ps).map (·.2)=ys at r
  cases r with
  | nil=>cases hr
  | @cons _ _ L1 _ _ L1' a as =>
   cases hr
   cases hp
   obtain ⟨L2,h1,h2⟩:=pg (k:=k) hk'.2 as rd
   by_cases h:kv.1=k
   ·refine ⟨L' ++ L2,?_,fun c hc=>?_⟩
    ·simp only [A8,if_pos h,if_pos (hk'.1.symm.trans h)]
     exact .cons rd h1
    ·rcases AV.mp hc with z | z
     ·exact .inr z
     ·rcases h2 c z with y | y
      ·exact .inl (AR _ y)
      ·exact .inr y
   ·refine ⟨L1 ++ L2,?_,fun c hc=>?_⟩
    ·simp only [A8,if_neg h,if_neg (fun z=>h (hk'.1.trans z))]
     exact .cons a h1
    ·rcases AV.mp hc with z | z
     ·exact .inl (AQ _ z)
     ·rcases h2 c z with y | y
      ·exact .inl (AR _ y)
      ·exact .inr y
theorem wA {kvs:List (List Key × D)} {ps:List (List Key × V)} {k:List Key} (hk:kvs.map (·.1)=ps.map (·.1)):(kvs.any fun kv=>decide (kv.1=k))=ps.any fun kv=>decide (kv.1=k):=by
 have h1:(kvs.any fun kv=>decide (kv.1=k))=(kvs.map (·.1)).any fun x=>decide (x=k):=by rw [List.any_map];rfl
 have h2:(ps.any fun kv=>decide (kv.1=k))=(ps.map (·.1)).any fun x=>decide (x=k):=by rw [List.any_map];rfl
 rw [h1,h2,hk]
theorem pD {α:Type} {kvs:List (List Key × α)} {k:List Key} {d:α}:(kvs.map fun kv=>if kv.1=k then (kv.1,d) else kv).map (·.1)=kvs.map (·.1):=by
 rw [Bs]
 refine List.map_congr_left fun kv _=>?_
 show (if kv.1=k then (kv.1,d) else kv).1=kv.1
 split <;> rfl
theorem put1 {kvs:List (List Key × D)} (a:D):rM (.dt kvs) [a]=none:=by cases a <;> rfl
theorem put3' {kvs:List (List Key × D)} (a:D) {b c:D} {r:List D}:rM (.dt kvs) (a :: b :: c :: r)=none:=by cases a <;> rfl
set_option tactic.hygienic true in
theorem xN:MutD K (kZ rG) rM:=fun a d L0 as H Q p r m na ra nA e q=>by
 cases d with
 | dt kvs =>
  obtain ⟨_,ps,_,e1,e2,ha,hk,rs⟩:=r.view
  cases e1
  cases e2
  match as,e,ra,nA with
  | [],e,_,_=>exact nsE e
  | [y],e,_,_=>exact nsE ((put1 y.d).symm.trans e)
  | y :: _ :: _ :: _,e,_,_=>exact nsE ((put3' y.d).symm.trans e)
  | [k,y],e,ra,nA =>
   have rk:=ra k AL
   have ry:=ra y (AM _ AL)
   have ny:=nA y (AM _ AL)
   obtain ⟨kd,kv,kL,kf⟩:=k
   dsimp only at rk
   cases kd with
   | tup ks =>
    obtain ⟨pb,ws,rfl,hb,rs'⟩:=rk.view
    have e:(match du ks with | some k=>if kvs.length < 16777216 then some (D.dt (vh kvs k y.d),D.non) else none | none=>none)=some p:=e
    cases h1:du ks with
    | none=>rw [h1] at e;exact nsE e
    | some key =>
     rw [h1] at e
     dsimp only at e
     split at e
     ·rename_i hl
      cases e
      have hw:=eg rs' h1
      subst hw
      have hlen:kvs.length=ps.length:=by have:=congrArg List.length hk;simpa using this
      refine ⟨.ref pb,y.v,rfl,a,_,rfl,DPut.t ha hb (by rw [<- hlen,<- szl];exact hl),?_⟩
      have ma:MutAt H a:=.inr (.inr ⟨_,ha⟩)
      have ry':Rep K (upd H a (.dT (fh ps key y.v))) y.d y.v y.L:=ry.keep (M:=fun b=>b=a) (fun b o hb h=>by rw [aw h];exact hb) (fun b e=>by rw [e];exact ma) fun b hb e=>ny (by rw [<- e];exact hb)
      have keeps:Reps (Rep K (upd H a (.dT (fh ps key y.v)))) (kvs.map (·.2)) (ps.map (·.2)) L0:=rs.keep (M:=fun b=>b=a) (fun b o hb h=>by rw [aw h];exact hb) (fun b e=>by rw [e];exact ma) fun b hb e=>na (by rw [<- e];exact hb)
      have fin:∃ L1,Reps (Rep K (upd H a (.dT (fh ps key y.v)))) ((vh kvs key y.d).map (·.2)) ((fh ps key y.v).map (·.2)) L1/\(∀ c ∈ L1,c ∈ L0\/c ∈ y.L)/\(vh kvs key y.d).map (·.1)=(fh ps key y.v).map (·.1):=by
       generalize upd H a (HO.dT (fh ps key y.v))=H2 at keeps ry' ⊢
       unfold vh fh
       rw [wA hk]
       split
       ·obtain ⟨L2,g1,g2⟩:=pg (k:=key) hk keeps ry'
        exact ⟨L2,g1,g2,by rw [pD,pD];exact hk⟩
       ·refine ⟨L0 ++ (y.L ++ []),?_,fun c hc=>?_,by rw [List.map_append,List.map_append,hk];rfl⟩
        ·rw [List.map_append,List.map_append]
         exact keeps.append (.cons ry' .nil)
        ·rcases AV.mp hc with z | z
         ·exact .inl z
         ·rw [List.append_nil] at z;exact .inr z
      obtain ⟨L1,g1,g2,g3⟩:=fin
      exact q (.dT (fh ps key y.v)) L1 ⟨.non,.non,[],.z⟩ (.dT aV g3 g1) rfl (fun c hc=>(g2 c hc).imp id fun h=>⟨y,AM _ AL,h⟩) rfl rfl .non fun c hc=>by cases hc
     ·exact nsE e
   | _=>exact nsE e
 | _=>exact nsE e
noncomputable def z7 (f g:D->List D->Option (D × D)) (a:D) (b:List D):Option (D × D):=match f a b with
 | some p=>some p
 | none=>g a b
theorem MutD.or {r r':V->List V->Hp->VK->Prop} {f g:D->List D->Option (D × D)} (h:MutD K r f) (h':MutD K r' g):MutD K (fun x y H Q=>r x y H Q\/r' x y H Q) (z7 f g):=fun a d L0 as H Q p r m na ra nA e q=>by
 unfold z7 at e
 cases ef:f d (as.map (·.d)) with
 | some p'=>rw [ef] at e;cases e;exact .inl (h a d L0 as H Q _ r m na ra nA ef q)
 | none=>rw [ef] at e;exact .inr (h' a d L0 as H Q p r m na ra nA e q)
noncomputable abbrev wY:=z7 wX rM
theorem qB:MutD K (kZ fun o i v H Q=>rF o i v H Q\/rG o i v H Q) wY:=fun a d L0 as H Q p r m na ra nA e q=>by
 rcases MutD.or xM xN a d L0 as H Q p r m na ra nA e q with ⟨k,v,h1,h2⟩ | ⟨k,v,h1,h2⟩
 ·exact ⟨k,v,h1,.inl h2⟩
 ·exact ⟨k,v,h1,.inr h2⟩
theorem mY (hu:X.A.units+1 < cLine):wB X (fun o i v H Q=>rF o i v H Q\/rG o i v H Q):=by
 intro pins s σ H o i v ov iv u Q I ro ri rv h
 rcases h with h | h
 ·exact uX pins s σ H o i v ov iv u Q I ro ri rv h
 ·exact uY hu pins s σ H o i v ov iv u Q I ro ri rv h
end
end L3
end
section
namespace L3
open PySem L2
section
open PySem.Spec PyProof.Rows HT
variable {prog:Program} {w:World} {A:Around} {E:Value->Shared->Prop} {s:Shared}
theorem gz {t sl:Addr} {items:Array Value} {vl vu:Value} {lo hi:Option Int} {Q:Value->Shared->Prop} (ht:IsTup s.heap t items) (hs:s.heap.IsSliceOf sl vl vu .none) (pl:IsPart vl lo) (pu:IsPart vu hi)
  (hw:sIx items.size 0 lo=0/\sIx items.size items.size hi=items.size) (h:Q (.ref t) s) (hsz:items.size<=sizeLine):wpAny (model prog w) A (getItem (.ref t) (.ref sl)) Q E s:=by
 obtain ⟨os,hos,hcs,hds⟩:=id hs
 have hTs:s.TypeIs (.ref sl) "slice":=⟨os,hos,hcs⟩
 unfold getItem
 try with_reducible refine AK ?_
 first | refine AI (AJ ?_) | skip
 refine AI (wpAny_sequenceKey ht.typeIs (by decide) ?_)
 refine AI (wpAny_callSpecial?_slot (name:=Str.ofString "__getitem__") ht.typeIs PyProof.Rows.slot_tuple_getitem
  (wpAny_call_entry PyProof.Rows.slot_tuple_getitem ht.typeIs entry_tuple_getitem ?_ (args_tuple_getitem _ _)))
 show wpAny _ _ (Builtin.Tuple.tupleItemsOf (.ref t) >>= _) _ _ s
 refine AI (tupleItemsOf_ ht ?_)
 refine AI (wpAny_typeOf hTs ?_)
 rw [if_pos (by decide)]
 refine AI (eP hs pl pu ?_)
 show wpAny _ _ (if (((sIx items.size 0 lo:Nat):Int) == 0 && (1:Int) == 1 && (sIx items.size items.size hi - sIx items.size 0 lo) == items.size)=true then _ else _) _ _ s
 rw [if_pos (by simp [hw.1,hw.2])]
 refine AI ?_
 unfold Builtin.Tuple.tupleIsExact
 refine AI (wpAny_typeOf ht.typeIs ?_)
 refine AJ ?_
 rw [if_pos (by decide)]
 exact AI (wpAny_rule (AJ ⟨_,rfl,AJ h⟩))
end
section
variable {K:FG} {G G0:Gm} {W W0:D->Sto->Prop} {H H':Hp} {σ:St} {ρ ρ':Sto} {T T':List It3} {g:Nat->Option It3} {x y z:It3} {α β:Type} {X:Cx} {L:List Addr}
noncomputable def ve (K:FG):V->Option Int->Option Int->Hp->VK->Prop:=fun x lo hi H Q=>∃ a xs,x=.ref a/\SqT K H a xs/\(HT.sIx xs.length 0 lo=0/\HT.sIx xs.length xs.length hi=xs.length)/\Q (.ref a) H
theorem wW:SlR X (ve X.K):=by
 intro pins s σ H x v vl vu lo hi sl Q I rx hs pl pu h
 obtain ⟨a,xs,rfl,hx,hw,q⟩:=h
 cases rx
 obtain ⟨its,r,ht,hz⟩:=I.tuple hx
 have hlen:its.toArray.size=xs.length:=by rw [A7];exact r.length.symm
 refine ⟨"tuple",_,PyProof.Rows.slot_tuple_getitem.lookup,ht.typeIs,?_⟩
 exact gz ht hs pl pu (by rw [hlen];exact hw) ⟨.ref a,H,I,rfl,q⟩ (by rw [hlen];exact hz)
noncomputable def asI:D->Option Int
 | .int i=>some i
 | _=>none
noncomputable def po (m:EM):M3 (Option Int):=ak m fun r=>ak (der r) fun d=>bZ ((asI d).map some)
noncomputable def EndP (K:FG) (G:Gm) (W:D->Sto->Prop) (σ:St) (T:List It3) (ρ':Sto) (Q:Option Int->Hp->Prop):Except D (Option Int)->Prop
 | .ok b=>∀ H' g',Wf K G H' σ ρ' T g'->Q b H'
 | .error e=>W e ρ'
noncomputable def tP (K:FG) (G0:Gm) (W0:D->Sto->Prop) (m:M3 (Option Int)):TO:=fun σ H Q=>∃ G W,Le K G W G0 W0/\∃ ρ T g r ρ',Wf K G H σ ρ T g/\m ρ=some (r,ρ')/\EndP K G W σ T ρ' Q r
structure RP (X:Cx) (G0:Gm) (W0:D->Sto->Prop) (e:Option Expr) (m:M3 (Option Int)):Prop where
 h:PO X e (tP X.K G0 W0 m)
theorem PO.imp {e:Option Expr} {t t':TO} (h:PO X e t) (f:∀ σ H Q,t' σ H Q->t σ H Q):PO X e t':=fun pins s σ H Q I q=>h pins s σ H Q I (f σ H Q q)
theorem ky {e:Expr} {m:EM} (h:RE X G0 W0 e m):RP X G0 W0 (some e) (po m):=⟨PO.imp (xv h.h) fun σ H Q h=>by
 obtain ⟨G,W,le,ρ,T,g,r,ρ',w,e,q⟩:=h
 have herr:∀ x,r=.error x->W x ρ':=fun x hx=>by subst hx;exact q
 refine tE.seq le w e herr fun ra ρ1 e1 v H1 ⟨Ts,g1,w1,a1⟩=>?_
 obtain ⟨d,d1,e2⟩:=bp e1
 obtain ⟨o,e3,rfl,rfl⟩:=b9 e2
 obtain ⟨i,e4,e5⟩:=AO.mp e3
 subst e5
 obtain ⟨y,i1,f1,f2⟩:=a1.item w1 (fun x hx=>AQ _ hx) d1
 have rr:=(w1.itm i1).rep
 rw [f1] at rr
 have hd:d=.int i:=by cases d <;> cases e4;rfl
 rw [hd] at rr
 refine ⟨i,by rw [<- f2];exact rr.int_inv,q _ _ (w1.sub (A0 Ts T))⟩⟩
noncomputable def mSl (f:D->Option Int->Option Int->Option (D × Fl)) (ma:EM) (pl pu:M3 (Option Int)):EM:=ak ma fun ra=>ak pl fun lo=>ak pu fun hi=>ak (der ra) fun d=>bZ ((f d lo hi).map fun p=>R3.val p.1 p.2)
noncomputable def SlD (K:FG) (r:V->Option Int->Option Int->Hp->VK->Prop) (f:D->Option Int->Option Int->Option (D × Fl)):Prop:=∀ (a:It3) (lo hi:Option Int) (H:Hp) (Q:VK) (p:D × Fl),Arg K H a->f a.d lo hi=some p ->
 (∀ w H',New K H H' (dU [a]) w->w.d=p.1->w.f=p.2->Q w.v H')->r a.v lo hi H Q
theorem tP.seq {ma:M3 (Option Int)} {k:Option Int->M3 β} {r:Except D β} {P:Option Int->Hp->Prop} (le:Le K G W G0 W0) (w:Wf K G H σ ρ T g) (e:ak ma k ρ=some (r,ρ')) (he:∀ x,r=.error x->W x ρ')
  (h:∀ b ρ1,k b ρ1=some (r,ρ')->∀ H1 g1,Wf K G H1 σ ρ1 T g1->P b H1):tP K G0 W0 ma σ H P:=by
 unfold ak at e
 cases q:ma ρ with
 | none=>rw [q] at e;exact nsE e
 | some p =>
  obtain ⟨o,ρ1⟩:=p
  rw [q] at e
  cases o with
  | error x=>cases e;exact ⟨G,W,le,ρ,T,g,.error x,ρ',w,q,he x rfl⟩
  | ok ra=>exact ⟨G,W,le,ρ,T,g,.ok ra,ρ1,w,q,h ra ρ1 e⟩
theorem tE_sl {r:V->Option Int->Option Int->Hp->VK->Prop} {f:D->Option Int->Option Int->Option (D × Fl)} {ma:EM} {pl pu:M3 (Option Int)} {Q:VK} (hd:SlD K r f) (h:tE K G0 W0 (mSl f ma pl pu) σ H Q):tSl r (tE K G0 W0 ma) (tP K G0 W0 pl) (tP K G0 W0 pu) σ H Q:=by
 refine h.use fun G W le ρ T g o ρ' w e q=>?_
 refine tE.seq le w e q.err fun ra ρ1 e1 va H1 ⟨Ts,g1,w1,a1⟩=>?_
 refine tP.seq le w1 e1 q.err fun lo ρ2 e2 H2 g2 w2=>?_
 refine tP.seq le w2 e2 q.err fun hi ρ3 e3 H3 g3 w3=>?_
 obtain ⟨d,d1,e4⟩:=bp e3
 obtain ⟨p,e5,rfl,rfl⟩:=b9 e4
 obtain ⟨y,i1,f1,f2⟩:=a1.item w3 (fun x hx=>AQ _ hx) d1
 subst f1 f2
 cases ef:f y.d lo hi with
 | none=>rw [ef] at e5;exact nsE e5
 | some s =>
  rw [ef] at e5
  cases e5
  exact hd y lo hi H3 Q s (w3.itm i1).arg ef (pY w3 (fun z hz=>by rw [Bi.mp hz];exact i1) q)
theorem Reps.take:∀ {ds:List D} {vs:List V} {L:List Addr} (n:Nat),Reps (Rep K H) ds vs L->∃ L',Reps (Rep K H) (ds.take n) (vs.take n) L'/\∀ c ∈ L',c ∈ L
 | _,_,_,0,_=>⟨[],by simpa using Reps.nil,fun c hc=>by cases hc⟩
 | _,_,_,n+1,.nil=>⟨[],by simpa using Reps.nil,fun c hc=>by cases hc⟩
 | _,_,_,n+1,.cons (L:=L1) r rs=>by
  obtain ⟨L',h1,h2⟩:=Reps.take n rs
  exact ⟨L1 ++ L',by simpa using Reps.cons r h1,fun c hc=>by
   rcases AV.mp hc with h | h
   ·exact AQ _ h
   ·exact AR _ (h2 c h)⟩
theorem Reps.drop:∀ {ds:List D} {vs:List V} {L:List Addr} (n:Nat),Reps (Rep K H) ds vs L->∃ L',Reps (Rep K H) (ds.drop n) (vs.drop n) L'/\∀ c ∈ L',c ∈ L
 | _,_,L,0,r=>⟨L,by simpa using r,fun c hc=>hc⟩
 | _,_,_,n+1,.nil=>⟨[],by simpa using Reps.nil,fun c hc=>by cases hc⟩
 | _,_,_,n+1,.cons r rs=>by
  obtain ⟨L',h1,h2⟩:=Reps.drop n rs
  exact ⟨L',by simpa using h1,fun c hc=>AR _ (h2 c hc)⟩
theorem Reps.cut {ds:List D} {vs:List V} (lo hi:Option Int) (r:Reps (Rep K H) ds vs L):∃ L',Reps (Rep K H) (rf ds lo hi) (p4 vs lo hi) L'/\∀ c ∈ L',c ∈ L:=by
 unfold rf p4
 rw [<- r.len]
 obtain ⟨L1,h1,h2⟩:=r.drop (HT.sIx ds.length 0 lo)
 obtain ⟨L2,h3,h4⟩:=h1.take (HT.sIx ds.length ds.length hi - HT.sIx ds.length 0 lo)
 exact ⟨L2,h3,fun c hc=>h2 c (h4 c hc)⟩
noncomputable def slD:D->Option Int->Option Int->Option (D × Fl)
 | .lst xs,lo,hi=>some (.lst (rf xs lo hi),.u)
 | .fls xs,lo,hi=>some (.lst (rf xs lo hi),.u)
 | .tup xs,lo,hi=>some (.tup (rf xs lo hi),.z)
 | _,_,_=>none
theorem sd_sl:SlD K (fun x lo hi H Q=>zE K x lo hi H Q\/(zD K x lo hi H Q\/ve K x lo hi H Q)) slD:=fun a lo hi H Q p ra e q=>by
 obtain ⟨da,va,La,fa⟩:=a
 have ra0:=ra
 obtain ⟨ra,oa⟩:=ra
 dsimp only at ra e
 cases da with
 | lst xs =>
  obtain ⟨pa,vs,L0,rfl,rfl,ha,rs⟩:=ra.view
  cases e
  obtain ⟨L',h1,h2⟩:=rs.cut lo hi
  exact .inl ⟨pa,vs,rfl,SqL.of ha,fun p hp=>q ⟨_,.ref p,p :: L',.u⟩ _ (Af hp h1 fun c hc=>qR (y:=⟨.lst xs,.ref pa,pa :: L0,fa⟩) AL ra0 rfl rfl c (h2 c hc)) rfl rfl⟩
 | fls xs =>
  obtain ⟨pa,vs,rfl,ha,rs⟩:=ra.view
  cases e
  obtain ⟨L',h1,h2⟩:=rs.cut lo hi
  exact .inl ⟨pa,vs,rfl,ha.sq,fun p hp=>q ⟨_,.ref p,p :: L',.u⟩ _ (Af hp h1 fun c hc=>iR (y:=⟨.fls xs,.ref pa,La,fa⟩) AL ra0 rfl c (h2 c hc)) rfl rfl⟩
 | tup xs =>
  obtain ⟨pa,vs,rfl,ha,rs⟩:=ra.view
  cases e
  by_cases hw:HT.sIx vs.length 0 lo=0/\HT.sIx vs.length vs.length hi=vs.length
  ·have hc:rf xs lo hi=xs:=by
    unfold rf
    rw [rs.len,hw.1,hw.2,<- rs.len]
    simp
   rw [hc] at q
   exact .inr (.inr ⟨pa,vs,rfl,SqT.of ha,hw,q ⟨.tup xs,.ref pa,La,.z⟩ H (pv (.tup ha rs) (iR (y:=⟨.tup xs,.ref pa,La,fa⟩) AL ra0 rfl)) rfl rfl⟩)
  ·obtain ⟨L',h1,h2⟩:=rs.cut lo hi
   exact .inr (.inl ⟨pa,vs,rfl,SqT.of ha,hw,fun p hp=>q ⟨_,.ref p,L',.z⟩ _ (vD hp h1 fun c hc=>iR (y:=⟨.tup xs,.ref pa,La,fa⟩) AL ra0 rfl c (h2 c hc)) rfl rfl⟩)
 | _=>exact nsE e
theorem zp:SlR X (fun x lo hi H Q=>zE X.K x lo hi H Q\/(zD X.K x lo hi H Q\/ve X.K x lo hi H Q)):=sl_list.or (sl_tup.or wW)
theorem o4 {e:Expr} {lo hi:Option Expr} {p2 pos:Pos} {m:EM} {pl pu:M3 (Option Int)} (he:RE X G0 W0 e m) (hl:RP X G0 W0 lo pl) (hu:RP X G0 W0 hi pu):RE X G0 W0 (.Subscript e (.Slice lo hi none p2) pos) (mSl slD m pl pu):=⟨PE.imp (vq zp he.h hl.h hu.h) fun _ _ _ h=>tE_sl sd_sl h⟩
end
end L3
end
section
namespace L3
open PySem L2
mutual
noncomputable def pyD:D->Option PyData
 | .non=>some .none
 | .bl b=>some (.bool b)
 | .int i=>some (.int i)
 | .str x=>some (.str x)
 | .tup xs=>(pe xs).map .tuple
 | .lst xs=>(pe xs).map .list
 | .fls xs=>(pe xs).map .list
 | .dk _=>none
 | .dt _=>none
 | .exc _ _=>none
noncomputable def pe:List D->Option (List PyData)
 | []=>some []
 | d :: ds=>match pyD d,pe ds with
  | some p,some ps=>some (p :: ps)
  | _,_=>none
end
section
variable {K:FG} {H:Hp} {Ks:Addr->Prop} {d:D} {v:V} {L:List Addr} {X:Cx}
set_option tactic.hygienic true in
theorem Rep.dv (r:Rep K H d v L):∀ p,pyD d=some p->DV K H v p:=by
 refine Rep.rec (motive_1:=fun d v _ _=>∀ p,pyD d=some p->DV K H v p) (motive_2:=fun ds vs _ _=>∀ ps,pe ds=some ps->DVs K H vs ps) ?_ ?_ ?_ ?_ ?_ ?_ ?_ ?_ ?_ ?_ ?_ ?_ r
 ·intro p e;unfold pyD at e;cases e;exact .non
 ·intro _ p e;unfold pyD at e;cases e;exact .bl _
 ·intro _ p e;unfold pyD at e;cases e;exact .int _
 ·intro _ p e;unfold pyD at e;cases e;exact .str _
 ·intro xs a vs L h _ ih p e
  unfold pyD at e
  obtain ⟨ps,e1,rfl⟩:=AO.mp e
  exact .tup (SqT.of h) (ih ps e1)
 ·intro xs a vs L h _ ih p e
  unfold pyD at e
  obtain ⟨ps,e1,rfl⟩:=AO.mp e
  exact .lst (SqL.of h) (ih ps e1)
 ·intro xs a vs L h _ ih p e
  unfold pyD at e
  obtain ⟨ps,e1,rfl⟩:=AO.mp e
  exact .lst h.sq (ih ps e1)
 ·intro _ _ _ _ _ _ _ _ p e;unfold pyD at e;exact nsE e
 ·intro _ _ _ _ _ _ _ _ p e;unfold pyD at e;exact nsE e
 ·intros;rename_i e;unfold pyD at e;exact nsE e
 ·intro ps e;unfold pe at e;cases e;exact .nil
 ·intro d v L ds vs L' _ _ i1 i2 ps e
  unfold pe at e
  cases h1:pyD d with
  | none=>rw [h1] at e;exact nsE e
  | some p =>
   cases h2:pe ds with
   | none=>rw [h1,h2] at e;exact nsE e
   | some qs=>rw [h1,h2] at e;cases e;exact .cons (i1 p h1) (i2 qs h2)
noncomputable def eqP (a b:D):Option Bool:=match pyD a,pyD b with
 | some p,some q=>if p.canLay0 && q.canLay0 && decide (min p.depth q.depth<=30) then some (PyData.eqv p q) else none
 | _,_=>none
noncomputable def eqA (a b:D):Option Bool:=match eqS a b with
 | some k=>some k
 | none=>eqP a b
noncomputable abbrev eqX (a b:D):Option (D × Fl):=(eqA a b).map fun k=>(.bl k,.z)
noncomputable abbrev neX (a b:D):Option (D × Fl):=(eqA a b).map fun k=>(.bl (!k),.z)
noncomputable def rEqP:R2:=fun x y H Q=>∃ p q,DV X.K H x p/\DV X.K H y q/\p.canLay0=true/\q.canLay0=true/\min p.depth q.depth<=30/\Q (.bl (PyData.eqv p q)) H
noncomputable def rNeP:R2:=fun x y H Q=>∃ p q,DV X.K H x p/\DV X.K H y q/\p.canLay0=true/\q.canLay0=true/\min p.depth q.depth<=30/\Q (.bl (!PyData.eqv p q)) H
theorem bX (hu:X.A.units+64 < cLine):OpR X (compareOp .Eq) (fun x y H Q=>rEq x y H Q\/rEqP (X:=X) x y H Q):=by
 intro pins s σ H x y v u Q I rx ry h
 rcases h with h | ⟨p,q,h1,h2,h3,h4,h5,hq⟩
 ·exact op_eq pins s σ H x y v u Q I rx ry h
 ·obtain ⟨as,ra⟩:=DV.reads I h1 rx
  obtain ⟨bs,rb⟩:=DV.reads I h2 ry
  exact PySem.SeqAt.compareEq_reads ra rb h3 h4 (by omega) ⟨.bl _,H,I,rfl,hq⟩
theorem eD (hu:X.A.units+64 < cLine):OpR X (compareOp .NotEq) (fun x y H Q=>rNe x y H Q\/rNeP (X:=X) x y H Q):=by
 intro pins s σ H x y v u Q I rx ry h
 rcases h with h | ⟨p,q,h1,h2,h3,h4,h5,hq⟩
 ·exact op_ne pins s σ H x y v u Q I rx ry h
 ·obtain ⟨as,ra⟩:=DV.reads I h1 rx
  obtain ⟨bs,rb⟩:=DV.reads I h2 ry
  exact PySem.SeqAt.compareNe_reads ra rb h3 h4 (by omega) ⟨.bl _,H,I,rfl,hq⟩
set_option tactic.hygienic true in
theorem se {a b:D} {k:Bool} (e:eqP a b=some k):∃ p q,pyD a=some p/\pyD b=some q/\p.canLay0=true/\q.canLay0=true/\min p.depth q.depth<=30/\k=PyData.eqv p q:=by
 unfold eqP at e
 cases h1:pyD a with
 | none=>rw [h1] at e;exact nsE e
 | some p =>
  cases h2:pyD b with
  | none=>rw [h1,h2] at e;exact nsE e
  | some q =>
   rw [h1,h2] at e
   dsimp only at e
   split at e
   ·rename_i h
    cases e
    simp only [Bool.and_eq_true,decide_eq_true_eq] at h
    exact ⟨p,q,rfl,rfl,h.1.1,h.1.2,h.2,rfl⟩
   ·exact nsE e
theorem bY:OpD X.K (fun x y H Q=>rEq x y H Q\/rEqP (X:=X) x y H Q) eqX:=fun a b H Q p ra rb e q=>by
 obtain ⟨k,h1,h2⟩:=AO.mp e
 subst h2
 unfold eqA at h1
 cases hs:eqS a.d b.d with
 | some k' =>
  rw [hs] at h1
  cases h1
  obtain ⟨s,hk⟩:=wc ra.rep rb.rep hs
  exact .inl ⟨s,by rw [<- hk];exact q ⟨.bl k,.bl k,[],.z⟩ H (dj (.bl k)) rfl rfl⟩
 | none =>
  rw [hs] at h1
  obtain ⟨p,p',e1,e2,e3,e4,e5,rfl⟩:=se h1
  exact .inr ⟨p,p',ra.rep.dv p e1,rb.rep.dv p' e2,e3,e4,e5,q ⟨.bl _,.bl _,[],.z⟩ H (dj (.bl _)) rfl rfl⟩
theorem eE:OpD X.K (fun x y H Q=>rNe x y H Q\/rNeP (X:=X) x y H Q) neX:=fun a b H Q p ra rb e q=>by
 obtain ⟨k,h1,h2⟩:=AO.mp e
 subst h2
 unfold eqA at h1
 cases hs:eqS a.d b.d with
 | some k' =>
  rw [hs] at h1
  cases h1
  obtain ⟨s,hk⟩:=wc ra.rep rb.rep hs
  exact .inl ⟨s,by rw [<- hk];exact q ⟨.bl (!k),.bl (!k),[],.z⟩ H (dj (.bl _)) rfl rfl⟩
 | none =>
  rw [hs] at h1
  obtain ⟨p,p',e1,e2,e3,e4,e5,rfl⟩:=se h1
  exact .inr ⟨p,p',ra.rep.dv p e1,rb.rep.dv p' e2,e3,e4,e5,q ⟨.bl _,.bl _,[],.z⟩ H (dj (.bl _)) rfl rfl⟩
end
end L3
end
section
namespace L3
open PySem L2
set_option tactic.hygienic true in
theorem At {P:Program} {w:World} {K:FG} {mg:Str->Option Value} {base:Heap} {x:Str} {st:Stmt} {k:Nat} {N ps:List Str} {mask:List Bool} {m:SM} {nn:Nat} {f:Addr} {fd:FuncData} (F:Fun K x x st f fd) (S:FnScope N ps (aj st)) (hml:mask.length=ps.length) (hnn:N.length=nn)
  (body:∀ (cdv:Value) (A:Around) (outer:List Env) (s:Shared) (H:Hp) (E:XK) (f:Addr) (G:Gm),Room k (A.deeper (PyProof.Rows.envOfC x (aj st) s.heap.objs.size f cdv))->G.pr=prM mask->RSs (dS CX0 P w K mg base N x (aj st) f cdv A outer s H E).nox G noX (aN st) m) :
  FnOk P w K mg base CX0 (k+1) f fd ps (qf K (fnM mask nn m)):=by
 refine F.ok S (fun vs H Q E h=>?_) fun cdv A outer s H vs Q E hr h=>?_
 ·obtain ⟨ps',p,fs,rfl,_,_,hF,_⟩:=h
  unfold fnM at hF
  rw [AX] at hF ⊢
  split at hF
  ·rename_i e;rw [e,hml]
  ·exact nsE hF
 ·have hle:mask.length<=nn:=by
   rw [hml,<- hnn]
   have:=congrArg List.length S.pre
   rw [Bf] at this
   omega
  obtain ⟨G,hG,ht⟩:=nP hle h
  subst hnn
  exact ⟨_,(body cdv A outer s H E f G hr hG).h,ht⟩
noncomputable def uW (K:FG):Sp:=fun vs H Q _=>∃ (a:Addr) (ns:List Int),vs=[.ref a]/\SqL K H a (ns.map V.int)/\yk H/\ns.length<=63/\∀ H',Q (.bl true) H'
theorem mx {K:FG} {H:Hp}:∀ ns:List Int,Reps (Rep K H) (ns.map D.int) (ns.map V.int) []
 | []=>.nil
 | n :: ns=>.cons (L:=[]) (.int n) (mx ns)
theorem xU {K:FG} {F:Fn} (hF:∀ ns:List Int,ns.length<=63->∃ fs,F [(.fls (ns.map .int),.z)]=some (.ok (.bl true,.z),fs)) {vs:List V} {H:Hp} {Q:VK} {E:XK} (h:uW K vs H Q E):qf K F vs H Q E:=by
 obtain ⟨a,ns,rfl,hS,hO,hn,q⟩:=h
 obtain ⟨fs,e⟩:=hF ns hn
 have fz:FzL K H a (ns.map V.int):=by
  rcases hS with (h | h) | h
  ·rcases hO a with z | ⟨o,xs,z⟩
   ·rw [h] at z;cases z
   ·rw [h] at z;cases z
  ·exact .inl h
  ·exact .inr h
 refine ⟨[⟨.fls (ns.map .int),.ref a,[],.z⟩],(.bl true,.z),fs,rfl,fun p hp=>?_,.cons (fun _ h=>by cases h) .nil,e,fun x qs H' B x1 x2 _=>?_⟩
 ·rw [Bi.mp hp]
  exact ⟨.lstF fz (mx ns),fun h=>absurd rfl h⟩
 ·have r:=B.rep
  rw [x1] at r
  have inv:∀ {v:V} {L:List Addr},Rep K H' (.bl true) v L->v=.bl true:=fun r=>by cases r;rfl
  rw [inv r]
  exact q H'
end L3
end
section
namespace L3
open PySem L2
section
variable {K:FG} {G G0:Gm} {W W0:D->Sto->Prop} {H H':Hp} {σ:St} {ρ ρ':Sto} {T T':List It3} {g:Nat->Option It3} {x y z:It3} {α β:Type} {X:Cx} {v:V} {d:D} {L:List Addr}
noncomputable def dQ:List D->Option (List Int)
 | []=>some []
 | .int i :: ds=>(dQ ds).map (i :: ·)
 | _=>none
set_option tactic.hygienic true in
theorem gu:∀ {ds:List D} {ns:List Int},dQ ds=some ns->ds=ns.map D.int
 | [],ns,e=>by cases e;rfl
 | d :: ds,ns,e=>by
  cases d <;> try (exact nsE e)
  rename_i b
  obtain ⟨r,h1,h2⟩:=AO.mp (show (dQ ds).map (b :: ·)=some ns from e)
  subst h2
  rw [gu h1];rfl
theorem Reps.ints:∀ {ns:List Int} {vs:List V} {L:List Addr},Reps (Rep K H) (ns.map D.int) vs L->vs=ns.map V.int
 | [],_,_,.nil=>rfl
 | b :: bs,_,_,.cons r rs=>by
  rw [Reps.ints rs]
  cases r;rfl
noncomputable def vO:List Int->Option Int
 | []=>none
 | x :: xs=>some (xs.foldl (fun a b=>if b < a then b else a) x)
noncomputable def rQ:List Int->Option Int
 | []=>none
 | x :: xs=>some (xs.foldl (fun a b=>if a < b then b else a) x)
theorem jP:∀ (xs:List Int) (x:Int),(xs.foldl (fun a b=>if b < a then b else a) x) ∈ x :: xs/\∀ n ∈ x :: xs,(xs.foldl (fun a b=>if b < a then b else a) x)<=n
 | [],x=>⟨AL,fun n h=>by simp at h;subst h;exact Int.le_refl _⟩
 | y :: xs,x=>by
  obtain ⟨h1,h2⟩:=jP xs (if y < x then y else x)
  rw [List.foldl_cons]
  refine ⟨?_,fun n hn=>?_⟩
  ·rcases AS.mp h1 with h | h
   ·rw [h];split <;> simp
   ·exact AM _ (AM _ h)
  ·have h3:=h2 _ AL
   have h4:(if y < x then y else x)<=x/\(if y < x then y else x)<=y:=by split <;> omega
   rcases AS.mp hn with h | hn
   ·subst h;exact Int.le_trans h3 h4.1
   ·rcases AS.mp hn with h | hn
    ·subst h;exact Int.le_trans h3 h4.2
    ·exact h2 n (AM _ hn)
theorem lu:∀ (xs:List Int) (x:Int),(xs.foldl (fun a b=>if a < b then b else a) x) ∈ x :: xs/\∀ n ∈ x :: xs,n<=(xs.foldl (fun a b=>if a < b then b else a) x)
 | [],x=>⟨AL,fun n h=>by simp at h;subst h;exact Int.le_refl _⟩
 | y :: xs,x=>by
  obtain ⟨h1,h2⟩:=lu xs (if x < y then y else x)
  rw [List.foldl_cons]
  refine ⟨?_,fun n hn=>?_⟩
  ·rcases AS.mp h1 with h | h
   ·rw [h];split <;> simp
   ·exact AM _ (AM _ h)
  ·have h3:=h2 _ AL
   have h4:x<=(if x < y then y else x)/\y<=(if x < y then y else x):=by split <;> omega
   rcases AS.mp hn with h | hn
   ·subst h;exact Int.le_trans h4.1 h3
   ·rcases AS.mp hn with h | hn
    ·subst h;exact Int.le_trans h4.2 h3
    ·exact h2 n (AM _ hn)
theorem tO {ns:List Int} {m:Int} (h:vO ns=some m):ns ≠ []/\∀ k,k ∈ ns->(∀ n ∈ ns,k<=n)->k=m:=by
 cases ns with
 | nil=>exact nsE h
 | cons x xs =>
  cases h
  obtain ⟨h1,h2⟩:=jP xs x
  refine ⟨by simp,fun k hk hm=>?_⟩
  have a:=hm _ h1
  have b:=h2 k hk
  omega
theorem py {ns:List Int} {m:Int} (h:rQ ns=some m):ns ≠ []/\∀ k,k ∈ ns->(∀ n ∈ ns,n<=k)->k=m:=by
 cases ns with
 | nil=>exact nsE h
 | cons x xs =>
  cases h
  obtain ⟨h1,h2⟩:=lu xs x
  refine ⟨by simp,fun k hk hm=>?_⟩
  have a:=hm _ h1
  have b:=h2 k hk
  omega
noncomputable def redQ (g:List Int->Option Int):D->Option (D × Fl)
 | .lst xs=>(dQ xs).bind fun ns=>(g ns).map fun m=>(.int m,.z)
 | .tup xs=>(dQ xs).bind fun ns=>(g ns).map fun m=>(.int m,.z)
 | _=>none
noncomputable abbrev yD:=c1 (redQ vO)
noncomputable def zF (K:FG) (P:List Int->Int->Prop):List V->Hp->VK->Prop:=fun xs H Q=>(∃ (l:Addr) (ns:List Int),xs=[.ref l]/\SqL K H l (ns.map V.int)/\ns ≠ []/\∀ m,m ∈ ns->P ns m->Q (.int m) H)\/(∃ (l:Addr) (ns:List Int),xs=[.ref l]/\SqT K H l (ns.map V.int)/\ns ≠ []/\∀ m,m ∈ ns->P ns m->Q (.int m) H)
set_option tactic.hygienic true in
theorem Ay {g:List Int->Option Int} {P:List Int->Int->Prop} (hg:∀ ns m,g ns=some m->ns ≠ []/\∀ k,k ∈ ns->P ns k->k=m):eW K (zF K P) (c1 (redQ g)):=fun ys H Q p ra e q=>by
 obtain ⟨y,rfl,e2⟩:=jG e
 clear e
 have e:=e2
 clear e2
 have rr:=(ra y AL).rep
 obtain ⟨da,va,La,fa⟩:=y
 dsimp only at rr e
 have key:∀ {xs:List D} {vs:List V} {L:List Addr},Reps (Rep K H) xs vs L->((dQ xs).bind fun ns=>(g ns).map fun m=>((.int m,.z):D × Fl))=some p->∃ ns m,vs=ns.map V.int/\g ns=some m/\p=(.int m,.z):=fun {xs vs L} rs e=>by
  obtain ⟨ns,h1,h2⟩:=Bh.mp e
  obtain ⟨m,h3,h4⟩:=AO.mp h2
  have:=gu h1
  subst this
  exact ⟨ns,m,rs.ints,h3,h4.symm⟩
 cases da <;> try (exact nsE e)
 ·rename_i xs
  obtain ⟨pa,vs,rfl,ha,rs⟩:=rr.view
  obtain ⟨ns,m,rfl,h1,rfl⟩:=key rs e
  obtain ⟨h2,h3⟩:=hg ns m h1
  exact .inr ⟨pa,ns,rfl,SqT.of ha,h2,fun k hk hp=>by rw [h3 k hk hp];exact q ⟨_,_,[],.z⟩ H (dj (.int _)) rfl rfl⟩
 ·rename_i xs
  obtain ⟨pa,vs,La,rfl,rfl,ha,rs⟩:=rr.view
  obtain ⟨ns,m,rfl,h1,rfl⟩:=key rs e
  obtain ⟨h2,h3⟩:=hg ns m h1
  exact .inl ⟨pa,ns,rfl,SqL.of ha,h2,fun k hk hp=>by rw [h3 k hk hp];exact q ⟨_,_,[],.z⟩ H (dj (.int _)) rfl rfl⟩
theorem x9:eW K (zF K fun ns m=>∀ n ∈ ns,m<=n) yD:=Ay (P:=fun ns m=>∀ n ∈ ns,m<=n) fun _ _=>tO
theorem ut (hc:X.calm=true):CallR X (.builtin "min") (zF X.K fun ns m=>∀ n ∈ ns,m<=n):=(uo hc).or (ul hc)
end
end L3
end
section
namespace L3
open PySem L2
end L3
end
section
namespace L3
open PySem L2
section
variable {K:FG} {G G0:Gm} {W W0:D->Sto->Prop} {H H':Hp} {σ:St} {ρ ρ':Sto} {T T':List It3} {g:Nat->Option It3} {x y z:It3} {α β:Type} {X:Cx} {v:V} {d:D} {L:List Addr}
noncomputable def yr (g:List Int->Option Int):D->D->Option (D × Fl)
 | .lst xs,.non=>(dQ xs).map fun ns=>match g ns with
  | some m=>(.int m,.z)
  | none=>(.non,.z)
 | .lst xs,.int k=>(dQ xs).map fun ns=>match g ns with
  | some m=>(.int m,.z)
  | none=>(.int k,.z)
 | _,_=>none
noncomputable abbrev maxD:=yr rQ
theorem xF {g:List Int->Option Int} {P:List Int->Int->Prop} (hg:∀ ns m,g ns=some m->ns ≠ []/\∀ k,k ∈ ns->P ns k->k=m) (h0:∀ ns,g ns=none->ns=[]):OpD K (fun x d H Q=>rH K P x d H Q) (yr g):=fun a b H Q p ra rb e q=>by
 obtain ⟨da,va,La,fa⟩:=a
 obtain ⟨db,vb,Lb,fb⟩:=b
 obtain ⟨ra,oa⟩:=ra
 obtain ⟨rb,ob⟩:=rb
 dsimp only at ra rb e
 cases da with
 | lst xs =>
  obtain ⟨pa,vs,La,rfl,rfl,ha,rs⟩:=ra.view
  have key:∀ (dd:D) (dv:V),Rep K H dd dv []->((dQ xs).map fun ns=>match g ns with | some m=>((.int m,.z):D × Fl) | none=>(dd,.z))=some p->rH K P (.ref pa) dv H Q:=fun dd dv rd e=>by
   obtain ⟨ns,h1,h2⟩:=AO.mp e
   have:=gu h1
   subst this
   have:=rs.ints
   subst this
   refine ⟨pa,ns,rfl,SqL.of ha,fun hn=>?_,fun m hm hp=>?_⟩
   ·cases hgn:g ns with
    | some m=>exact absurd hn (hg ns m hgn).1
    | none =>
     rw [hgn] at h2
     subst h2
     exact q ⟨dd,dv,[],.z⟩ H (dj rd) rfl rfl
   ·cases hgn:g ns with
    | none=>rw [h0 ns hgn] at hm;cases hm
    | some m' =>
     rw [hgn] at h2
     subst h2
     rw [(hg ns m' hgn).2 m hm hp]
     exact q ⟨.int m',.int m',[],.z⟩ H (dj (.int _)) rfl rfl
  cases db with
  | non =>
   obtain ⟨rfl,rfl⟩:=rb.view
   exact key .non .non .non e
  | int k =>
   obtain ⟨rfl,rfl⟩:=rb.view
   exact key (.int k) (.int k) (.int k) e
  | _=>exact nsE e
 | _=>first | exact nsE e | (cases db <;> exact nsE e)
theorem xH:OpD K (fun x d H Q=>rH K (fun ns m=>∀ n ∈ ns,n<=m) x d H Q) maxD:=xF (fun _ _=>py) fun ns h=>by cases ns with | nil=>rfl | cons=>cases h
theorem zC {id:String} {nm:Str} {e d:Expr} {ma mb:EM} {p pos kpos:Pos} {r:V->V->Hp->VK->Prop} {f:D->D->Option (D × Fl)} (hrun:∀ {pins:List (Addr × Obj)} {s:Shared} {σ:St} {H:Hp} {x d:V} {u ud:Value} {Q:VK},Inv X pins σ H s->RelV x u->RelV d ud->r x d H Q->wpAny (model X.prog X.w) X.A (call (.builtin id) [u] [("default",ud)]) (EP X pins σ Q) X.xe s) (ho:OpD X.K (fun x d H Q=>r x d H Q) f)
  (hg:Gl X nm) (hm:X.mg nm=none) (hv:bootBuiltins nm=some (.builtin id)) (he:RE X G0 W0 e ma) (hd:RE X G0 W0 d mb) (hn:nm ≠ "__name__") (hdb:(nm == ("__debug__":Str))=false)
  (hs:backTo pos (starEach [e] X.env)=(false,eval e X.env) :: backTo pos (starEach [] X.env)) (hs0:backTo pos (starEach [] X.env)=[]) (hplain:(backTo pos (starEach [e] X.env)).any (·.1)=false)
  (hall:(backToKw pos (keywordEach [⟨some "default",d,kpos⟩] X.env)).all (·.1.isSome)=true) (hkw:(backToKw pos (keywordEach [⟨some "default",d,kpos⟩] X.env)).any (·.1.isNone)=false) (hks:(backToKw pos (keywordEach [⟨some "default",d,kpos⟩] X.env)).filterMap (·.1)=(["default"]:List Str)) :
  RE X G0 W0 (.Call (.Name nm p) [e] [⟨some "default",d,kpos⟩] pos) (ao f ma mb):=⟨PE.imp (zX hrun hg hm hv he.h hd.h hn hdb hs hs0 hplain hall hkw hks) fun _ _ _ h=>kI ho h⟩
theorem Reps.rep {ds:List D} {vs:List V} {L:List Addr} (r:Reps (Rep K H) ds vs L):∀ n:Nat,∃ L',Reps (Rep K H) (List.replicate n ds).flatten (List.replicate n vs).flatten L'/\∀ c ∈ L',c ∈ L
 | 0=>⟨[],.nil,fun _ h=>by cases h⟩
 | n+1=>by
  obtain ⟨L',h1,h2⟩:=Reps.rep r n
  refine ⟨L ++ L',?_,fun c hc=>?_⟩
  ·rw [List.replicate_succ,List.replicate_succ,List.flatten_cons,List.flatten_cons];exact r.append h1
  ·rcases AV.mp hc with h | h
   ·exact h
   ·exact h2 c h
noncomputable def wD (i j:Int):Prop:=0 < j/\j < 1267650600228229401496703205376
theorem vy:OpR X (binaryOp .FloorDiv) (rI wD fun i j=>.int (i / j)):=opI fun i j _ _ _ _ _ hc q=>by
 have h1:(0:Int) < j:=hc.1
 have h2:j < 1267650600228229401496703205376:=hc.2
 refine PyProof.Rows.floordiv_int (by omega) (by rw [Int.fdiv_eq_ediv_of_nonneg i (by omega)];exact q) (.inl (PyProof.noPylong_of_log2 ?_))
 have h3:j.natAbs < 2 ^ 100:=by omega
 exact Nat.lt_trans ((Nat.log2_lt (by omega)).mpr h3) (by decide)
noncomputable abbrev Aw:=jz (fun _ j=>decide (0 < j/\j < 1267650600228229401496703205376)) fun i j=>.int (i / j)
theorem xJ:OpD K (rI wD fun i j=>.int (i / j)) Aw:=iT (fun i j h=>by simpa [wD] using h) fun i j _=>.int _
end
end L3
end
section
namespace L3
open PySem L2
end L3
end
section
namespace L3
open PySem L2
section
variable {K:FG} {G G0:Gm} {W W0:D->Sto->Prop} {H H':Hp} {σ:St} {ρ ρ':Sto} {T T':List It3} {g:Nat->Option It3} {x y z:It3} {α β:Type} {X:Cx}
noncomputable def sU (hi:Int) (n:Nat):List D:=(List.range n).map fun (k:Nat)=>D.int (hi - (k:Int))
theorem sF {H1:Hp} {ys:List It3} {hi:Int} {n:Nat}:Walk K (Itd hi n) H1 ys (sU hi n):=by
 refine ⟨[],fun x hx=>(by cases hx),fun M H' _ _ _=>⟨fun i d hd=>?_,?_⟩⟩
 ·unfold sU at hd
  rw [A3] at hd
  obtain ⟨k,a,b⟩:=AO.mp hd
  obtain ⟨hk,e⟩:=AY.mp a
  rw [List.getElem_range] at e
  subst e
  rw [List.length_range] at hk
  refine ⟨hk,fun x H'' ⟨e1,e2⟩=>?_⟩
  subst e1
  exact ⟨⟨d,x,[],.z⟩,dj (by rw [<- b,e2];exact .int _),rfl,rfl,rfl⟩
 ·show n<=(sU hi n).length
  unfold sU
  simp
noncomputable def u9:List D->Option (List D)
 | [.int i,.int j,.int c]=>if fI i && fI j && (c == -1) then some (sU i (i - j).toNat) else none
 | _=>none
set_option tactic.hygienic true in
theorem wP {ms:M3 (List R3)} {R:It->Hp->Prop} (h:tI K G0 W0 (bE u9 ms) σ H R):yJ (tA K G0 W0 ms) σ H R:=by
 obtain ⟨G,W,le,ρ,T,g,o,ρ',w,e,q⟩:=h
 have herr:∀ x,o=.error x->W x ρ':=fun x hx=>by subst hx;exact q
 refine tA.seq le w e herr fun rs ρ1 e1 vs H1 Ts g1 w1 a1=>?_
 obtain ⟨ds,d1,e2⟩:=c8 e1
 obtain ⟨p,e3,rfl,rfl⟩:=b9 e2
 obtain ⟨xs,e4,e5⟩:=AO.mp e3
 subst e5
 obtain ⟨ys,i1,f1,f2⟩:=a1.items w1 (fun x hx=>AQ _ hx) d1
 subst f1 f2
 have inv:∀ {ds:List D},u9 ds=some xs->∃ i j,ds=[.int i,.int j,.int (-1)]/\fI i=true/\fI j=true/\xs=sU i (i - j).toNat:=fun {ds} h=>by
  unfold u9 at h
  split at h
  ·rename_i i j c
   split at h
   ·rename_i hh
    cases h
    simp only [Bool.and_eq_true,beq_iff_eq] at hh
    obtain ⟨⟨h1,h2⟩,rfl⟩:=hh
    exact ⟨i,j,rfl,h1,h2,rfl⟩
   ·exact nsE h
  ·exact nsE h
 obtain ⟨i,j,eds,hi,hj,rfl⟩:=inv e4
 match ys,eds,i1,a1 with
 | [],eds,_,_=>cases eds
 | [y],eds,_,_=>exact absurd (congrArg List.length eds) (by simp)
 | [y,z],eds,_,_=>exact absurd (congrArg List.length eds) (by simp)
 | y :: z :: u :: v :: r,eds,_,_=>exact absurd (congrArg List.length eds) (by simp)
 | [y,z,u],eds,i1,a1 =>
  have r1:=(w1.itm (i1 y AL)).rep
  have r2:=(w1.itm (i1 z (AM _ AL))).rep
  have r3:=(w1.itm (i1 u (AM _ (AM _ AL)))).rep
  have h1:y.d=.int i:=by injection eds
  have h2:z.d=.int j:=by injection eds with _ h;injection h
  have h3:u.d=.int (-1):=by injection eds with _ h;injection h with _ h;injection h
  rw [h1] at r1
  rw [h2] at r2
  rw [h3] at r3
  have hi:=of_decide_eq_true hi
  have hj:=of_decide_eq_true hj
  refine ⟨i,j,by show [y.v,z.v,u.v]=_;rw [r1.int_inv,r2.int_inv,r3.int_inv],⟨hi.1,hi.2,hj.1,hj.2⟩,?_⟩
  exact q _ H1 [] [] g1 [] (w1.sub (A0 Ts T)) .nil (fun _ h=>by cases h) sF
theorem xh {tg a b c:Expr} {p pos:Pos} {ms:M3 (List R3)} (hg:Gl X "range") (hm:X.mg "range"=none) (ha:RA X G0 W0 [a,b,c] ms) (hs:starEach [a,b,c] X.env=(false,eval a X.env) :: starEach [b,c] X.env) (hpl:(backTo pos (starEach [b,c] X.env)).any (·.1)=false):RI X G0 W0 tg (.Call (.Name "range" p) [a,b,c] [] pos) (bE u9 ms):=⟨PI.imp (sY hg hm ha.h hs hpl) fun _ _ _ h=>wP h⟩
end
end L3
end
section
namespace L3
open PySem L2
section
variable {K:FG} {G G0:Gm} {W W0:D->Sto->Prop} {H H':Hp} {σ:St} {ρ ρ':Sto} {T T':List It3} {g:Nat->Option It3} {x y z:It3} {α β:Type} {X:Cx} {v:V} {d:D} {L:List Addr}
noncomputable def keyD:Key->D
 | .inl i=>.int i
 | .inr s=>.str s
noncomputable def keyT (k:List Key):D:=.tup (k.map keyD)
noncomputable def keysD:D->Option (List D)
 | .dt kvs=>some (kvs.map fun kv=>keyT kv.1)
 | _=>none
noncomputable def qW (m:EM):IM:=ak m fun r=>ak (der r) fun d=>bZ ((keysD d).map fun ds=>([r],ds))
theorem kU:∀ k:List Key,Reps (Rep K H) (k.map keyD) (k.map kV) []
 | []=>.nil
 | .inl i :: k=>.cons (L:=[]) (.int i) (kU k)
 | .inr s :: k=>.cons (L:=[]) (.str s) (kU k)
theorem sG {H1:Hp} {y:It3} {a:Addr} {kvs:List (List Key × D)} {ps:List (List Key × V)} (ha:H1 a=some (.dT ps)) (hk:kvs.map (·.1)=ps.map (·.1)) (hy:a ∈ y.L):Walk K (Itk a ps.length) H1 [y] (kvs.map fun kv=>keyT kv.1):=by
 refine ⟨[],fun x hx=>(by cases hx),fun M H' hm hkp hM=>?_⟩
 have h':H' a=some (.dT ps):=hkp a _ ha (hM y AL a hy)
 have hl:kvs.length=ps.length:=by have:=congrArg List.length hk;simpa using this
 refine ⟨fun i d hd=>?_,⟨ps,.inl h',rfl,by rw [AX,hl];exact A4 _⟩⟩
 rw [A3] at hd
 obtain ⟨kv,h1,h2⟩:=AO.mp hd
 have hi:i < kvs.length:=(AY.mp h1).1
 obtain ⟨p,hp,hpk⟩:∃ p,ps[i]?=some p/\p.1=kv.1:=by
  have e:=congrArg (fun l=>l[i]?) hk
  simp only [A3,h1] at e
  obtain ⟨p,e1,e2⟩:=AO.mp e.symm
  exact ⟨p,e1,e2⟩
 refine ⟨⟨ps,.inl h',rfl,by omega⟩,fun x H'' ⟨e1,e2⟩=>?_⟩
 subst e1
 obtain ⟨b,rfl,hb⟩:=e2 ps p (.inl h') hp
 exact ⟨⟨d,.ref b,[],.z⟩,dj (by rw [<- h2,<- hpk];exact .tup hb (kU _)),rfl,rfl,rfl⟩
theorem wR {m:EM} {R:It->Hp->Prop} (h:tI K G0 W0 (qW m) σ H R):yM (tE K G0 W0 m) σ H R:=by
 obtain ⟨G,W,le,ρ,T,g,o,ρ',w,e,q⟩:=h
 have herr:∀ x,o=.error x->W x ρ':=fun x hx=>by subst hx;exact q
 refine tE.seq le w e herr fun ra ρ1 e1 v H1 ⟨Ts,g1,w1,a1⟩=>?_
 obtain ⟨d,d1,e2⟩:=bp e1
 obtain ⟨p,e3,rfl,rfl⟩:=b9 e2
 obtain ⟨ds,e4,e5⟩:=AO.mp e3
 subst e5
 obtain ⟨y,y1,y2,y3⟩:=a1.item2 w1 d1
 have hy:Itm (Ts ++ T) g1 y:=by
  rcases y3 with ⟨i,_,ei⟩ | h
  ·exact .inl ⟨i,ei⟩
  ·exact .inr (AQ _ h)
 have ar:=(w1.itm hy).arg
 have qq:∀ J,Walk K J H1 [y] ds->R J H1:=fun J hw=>q J H1 [v] Ts g1 [y] w1 (by simpa using Ars.cons a1 .nil) (fun z hz=>by rw [Bi.mp hz];exact y3) hw
 clear e1 e2 e3 q
 subst y1 y2
 obtain ⟨da,va,La,fa⟩:=y
 obtain ⟨rr,oo⟩:=ar
 dsimp only at rr e4
 cases da with
 | dt kvs =>
  obtain ⟨pa,ps,L0,rfl,rfl,ha,hk,rs⟩:=rr.view
  cases e4
  exact ⟨pa,ps,rfl,.inl ha,qq _ (sG ha hk AL)⟩
 | _=>exact nsE e4
theorem xi {tg l:Expr} {m:EM} (h:RE X G0 W0 l m):RI X G0 W0 tg l (qW m):=⟨PI.imp (xx h.h) fun _ _ _ h=>wR h⟩
noncomputable def maxVQ:D->Option (D × Fl)
 | .dt kvs=>(dQ (kvs.map (·.2))).bind fun ns=>(rQ ns).map fun m=>(.int m,.z)
 | _=>none
noncomputable abbrev rR:=c1 maxVQ
noncomputable def rMV:List V->Hp->VK->Prop:=fun xs H Q=>∃ (a:Addr) (kvs:List (List Key × V)) (ns:List Int),xs=[.ref a]/\H a=some (.dT kvs)/\kvs.map (·.2)=ns.map V.int/\ns ≠ []/\∀ p,H p=none->∀ m,m ∈ ns->(∀ n ∈ ns,n<=m)->Q (.int m) (upd H p (ln p a))
theorem ye:eW K rMV rR:=fun ys H Q p ra e q=>by
 obtain ⟨y,rfl,e2⟩:=jG e
 clear e
 have e:=e2
 clear e2
 have rr:=(ra y AL).rep
 obtain ⟨da,va,La,fa⟩:=y
 dsimp only at rr e
 cases da with
 | dt kvs =>
  obtain ⟨pa,ps,L0,rfl,rfl,ha,hk,rs⟩:=rr.view
  obtain ⟨ns,h1,h2⟩:=Bh.mp (show ((dQ (kvs.map (·.2))).bind fun ns=>(rQ ns).map fun m=>((.int m,.z):D × Fl))=some p from e)
  obtain ⟨m,h3,h4⟩:=AO.mp h2
  have e3:=gu h1
  rw [e3] at rs
  obtain ⟨n1,n2⟩:=py h3
  subst h4
  refine ⟨pa,ps,ns,rfl,ha,rs.ints,n1,fun p hp k k1 k2=>?_⟩
  rw [n2 k k1 k2]
  exact q ⟨.int m,.int m,[],.z⟩ _ ⟨bF hp,.int _,fun _ h=>(by cases h),fun h=>absurd rfl h⟩ rfl rfl
 | _=>exact nsE e
theorem wT {m:EM} {Q:VK} (h:tE K G0 W0 (aG rR (ac m ai)) σ H Q) :
  tCB yy (oP (tBM0 K "dict" (fun x vs H Q=>∃ a kvs,x=.ref a/\vs=[]/\Rd H a (.dT kvs)/\∀ p,H p=none->Q (.ref p) (upd H p (ln p a))) (tE K G0 W0 m)) wO) σ H Q:=by
 have h1:oP (tE K G0 W0 m) (tA K G0 W0 ai) σ H (fun vs H1=>rMV vs H1 Q):=rD (ig ye h)
 refine mU h1 fun x H1 h2=>?_
 obtain ⟨a,kvs,ns,e,ha,hv,hn,q⟩:=uU h2
 cases e
 refine ⟨.inr (.inr (.inl ⟨rfl,.inr ⟨kvs,ha⟩⟩)),a,kvs,rfl,rfl,.inl ha,fun p hp=>?_⟩
 have hpa:a ≠ p:=fun z=>by rw [z,hp] at ha;exact nsE ha
 exact ⟨p,a,kvs,ns,rfl,aV,.inl (by rw [aw hpa];exact ha),hv,hn,q p hp⟩
theorem xk {o:Expr} {m:EM} {p apos cpos pos:Pos} (hc:X.calm=true) (hg:Gl X "max") (hm:X.mg "max"=none) (ho:RE X G0 W0 o m) (hbase:attributeBase o "values" X.env (eval o X.env)=eval o X.env) (hline:(apos.endLine == cpos.line)=true)
  (hs:starEach [.Call (.Attribute o "values" apos) [] [] cpos] X.env=(false,eval (.Call (.Attribute o "values" apos) [] [] cpos) X.env) :: starEach [] X.env) (hpl:(backTo pos (starEach [] X.env)).any (·.1)=false) :
  RE X G0 W0 (.Call (.Name "max" p) [.Call (.Attribute o "values" apos) [] [] cpos] [] pos) (aG rR (ac m ai)) :=
 ⟨PE.imp (iz (uw hc) hg hm ww (gm (z5 PySem.F.plainAttrs_dict PySem.F.slot_dict_values PySem.F.type_dict_values xL ho.h hbase hline) nt hs) (by decide) (by decide) hs hpl) fun _ _ _ h=>wT h⟩
noncomputable def iA:List D->Option (List (Int × Int))
 | []=>some []
 | .tup [.int a,.int b] :: ds=>(iA ds).map ((a,b) :: ·)
 | _=>none
noncomputable def pj (n:Int × Int):D:=.tup [.int n.1,.int n.2]
set_option tactic.hygienic true in
theorem k6:∀ {ds:List D} {ns:List (Int × Int)},iA ds=some ns->ds=ns.map pj
 | [],ns,h=>by cases h;rfl
 | d :: ds,ns,h=>by
  unfold iA at h
  split at h
  ·rename_i h0;cases h0
  ·rename_i a b ds' h0
   cases h0
   obtain ⟨ms,h1,h2⟩:=AO.mp h
   rw [k6 h1,<- h2];rfl
  ·exact nsE h
noncomputable def qQ:List (Int × Int)->Option (Int × Int)
 | []=>none
 | x :: xs=>some (xs.foldl (fun a b=>if ltP b a=true then b else a) x)
set_option tactic.hygienic true in
theorem xR {x y:Int × Int} (h1:ltP x y=false) (h2:ltP y x=false):x=y:=by
 unfold ltP at *
 simp at h1 h2
 have:x.1=y.1:=by omega
 have:x.2=y.2:=by omega
 exact Prod.ext ‹_› ‹_›
theorem vM {x y z:Int × Int} (h1:ltP x y=false) (h2:ltP y z=false):ltP x z=false:=by
 unfold ltP at *
 simp at *
 omega
theorem vN {x y:Int × Int} (h1:ltP x y=true):ltP y x=false:=by
 unfold ltP at *
 simp at *
 omega
theorem vL (x:Int × Int):ltP x x=false:=by unfold ltP;simp
theorem fu:∀ (xs:List (Int × Int)) (x:Int × Int),(xs.foldl (fun a b=>if ltP b a=true then b else a) x) ∈ x :: xs/\∀ n ∈ x :: xs,ltP n (xs.foldl (fun a b=>if ltP b a=true then b else a) x)=false
 | [],x=>⟨AL,fun n hn=>by rw [Bi.mp hn];exact vL x⟩
 | b :: xs,x=>by
  rw [List.foldl_cons]
  by_cases h:ltP b x=true
  ·rw [if_pos h]
   obtain ⟨h1,h2⟩:=fu xs b
   refine ⟨AM _ h1,fun n hn=>?_⟩
   rcases AS.mp hn with rfl | hn
   ·exact vM (vN h) (h2 b AL)
   ·exact h2 n hn
  ·rw [if_neg h]
   have h':ltP b x=false:=by simpa using h
   obtain ⟨h1,h2⟩:=fu xs x
   refine ⟨?_,fun n hn=>?_⟩
   ·rcases AS.mp h1 with e | e
    ·rw [e];exact AL
    ·exact AM _ (AM _ e)
   ·rcases AS.mp hn with rfl | hn
    ·exact h2 n AL
    ·rcases AS.mp hn with rfl | hn
     ·exact vM h' (h2 x AL)
     ·exact h2 n (AM _ hn)
theorem tN {ns:List (Int × Int)} {m:Int × Int} (h:qQ ns=some m):m ∈ ns/\∀ n ∈ ns,ltP n m=false:=by
 cases ns with
 | nil=>exact nsE h
 | cons x xs=>cases h;exact fu xs x
noncomputable def minPQ:D->Option (D × Fl)
 | .lst ds=>(iA ds).bind fun ns=>(qQ ns).map fun n=>(pj n,.z)
 | _=>none
noncomputable abbrev yB:=c1 minPQ
theorem kT:∀ {ns:List (Int × Int)} {vs:List V} {L:List Addr},Reps (Rep K H) (ns.map pj) vs L->∃ bs:List Addr,vs=bs.map V.ref/\ns.length=bs.length/\∀ (i:Nat) (b:Addr),bs[i]?=some b->∃ n,ns[i]?=some n/\H b=some (.tup [.int n.1,.int n.2])
 | [],_,_,.nil=>⟨[],rfl,rfl,fun i b h=>by simp at h⟩
 | n :: ns,_,_,.cons r rs=>by
  obtain ⟨bs,e1,e2,e3⟩:=kT rs
  subst e1
  cases r with
  | @tup xs a vs L ha hr =>
   refine ⟨a :: bs,rfl,by simp [e2],fun i b h=>?_⟩
   cases i with
   | zero =>
    simp only [List.getElem?_cons_zero,Option.some.injEq] at h
    subst h
    have hv:vs=[.int n.1,.int n.2]:=by
     have:=Reps.ints (ns:=[n.1,n.2]) hr
     exact this
    exact ⟨n,rfl,by rw [<- hv];exact ha⟩
   | succ i =>
    simp only [List.getElem?_cons_succ] at h
    exact e3 i b h
theorem x5:eW K (yx K) yB:=fun ys H Q p ra e q=>by
 obtain ⟨y,rfl,e2⟩:=jG e
 clear e
 have e:=e2
 clear e2
 have rr:=(ra y AL).rep
 obtain ⟨da,va,La,fa⟩:=y
 dsimp only at rr e
 cases da with
 | lst xs =>
  obtain ⟨pa,vs,L0,rfl,rfl,ha,rs⟩:=rr.view
  obtain ⟨ns,h1,h2⟩:=Bh.mp (show ((iA xs).bind fun ns=>(qQ ns).map fun n=>((pj n,.z):D × Fl))=some p from e)
  obtain ⟨n0,h3,h4⟩:=AO.mp h2
  have e3:=k6 h1
  subst e3 h4
  obtain ⟨bs,rfl,hl,hb⟩:=kT rs
  obtain ⟨m1,m2⟩:=tN h3
  refine ⟨pa,bs,ns,rfl,SqL.of ha,hb,fun z=>?_,fun m b hm hL=>?_⟩
  ·subst z
   have:ns=[]:=List.length_eq_zero_iff.mp hl
   subst this
   cases m1
  ·obtain ⟨n,e1,e2⟩:=hb m b hm
   have hn:n=n0:=by
    refine xR (m2 n (AZ e1) |> id) ?_ |> id
    obtain ⟨i,hi,e4⟩:=List.getElem_of_mem m1
    exact hL.2 i (by omega) n0 n (by rw [AT hi,e4]) e1
   subst hn
   exact q ⟨pj n,.ref b,[],.z⟩ H (dj (.tup e2 (.cons (L:=[]) (.int _) (.cons (L:=[]) (.int _) .nil)))) rfl rfl
 | _=>exact nsE e
end
end L3
theorem L2.Room.hu {A:PySem.Around} {k:Nat} (hr:L2.Room k A):A.units+1 < PySem.cLine:=L2.hu_of hr
end
section
namespace L3
open PySem L2
end L3
end
section
namespace L3
open PySem L2
section
variable {K:FG} {G G0:Gm} {W W0:D->Sto->Prop} {H H':Hp} {σ:St} {ρ ρ':Sto} {T T':List It3} {g:Nat->Option It3} {x y z:It3} {α β:Type} {X:Cx} {v:V} {d:D} {L:List Addr}
noncomputable def mE:List D->Option (List (List Key))
 | []=>some []
 | .tup xs :: ds=>match du xs,mE ds with
  | some k,some ks=>some (k :: ks)
  | _,_=>none
 | _=>none
noncomputable def dzQ:D->D->Option (D × Fl)
 | .lst xs,.tup ys=>(mE xs).bind fun ks=>if ks.length=ys.length/\ks.Nodup then some (.dt (ks.zip ys),.u) else none
 | _,_=>none
noncomputable abbrev dzD:=c2 dzQ
noncomputable abbrev vK (ms:M3 (List R3)):EM:=aG dzD ms
set_option tactic.hygienic true in
theorem lm:∀ {ds:List D} {vs:List V} {L:List Addr} {ks:List (List Key)},Reps (Rep K H) ds vs L->mE ds=some ks->∃ bs:List (Addr × List Key),vs=bs.map (fun b=>V.ref b.1)/\bs.map (·.2)=ks/\∀ b ∈ bs,H b.1=some (.tup (b.2.map kV))
 | _,_,_,ks,.nil,e=>by cases e;exact ⟨[],rfl,rfl,fun b hb=>by cases hb⟩
 | _,_,_,ks,.cons (d:=d) (ds:=ds) r rs,e=>by
  cases d <;> try (exact nsE e)
  rename_i xs
  obtain ⟨pa,ws,rfl,ha,rs'⟩:=r.view
  unfold mE at e
  cases h1:du xs with
  | none=>rw [h1] at e;exact nsE e
  | some k =>
   cases h2:mE ds with
   | none=>rw [h1,h2] at e;exact nsE e
   | some ks' =>
    rw [h1,h2] at e
    cases e
    obtain ⟨bs,g1,g2,g3⟩:=lm rs h2
    have hw:=eg rs' h1
    subst hw
    refine ⟨(pa,k) :: bs,by rw [g1];rfl,by rw [A8,g2],fun b hb=>?_⟩
    rcases AS.mp hb with rfl | hb
    ·exact ha
    ·exact g3 b hb
theorem kE {α β:Type}:∀ {ks:List α} {ys:List β},ks.length=ys.length->(ks.zip ys).map (·.2)=ys
 | [],[],_=>rfl
 | k :: ks,y :: ys,e=>by simp [kE (ks:=ks) (ys:=ys) (by simpa using e)]
theorem kG {α β:Type}:∀ {ks:List α} {ys:List β},ks.length=ys.length->(ks.zip ys).map (·.1)=ks
 | [],[],_=>rfl
 | k :: ks,y :: ys,e=>by simp [kG (ks:=ks) (ys:=ys) (by simpa using e)]
set_option tactic.hygienic true in
theorem wU {ms:M3 (List R3)} {Q:VK} (h:tE K G0 W0 (vK ms) σ H Q):yp K (tA K G0 W0 ms) σ H Q:=by
 refine ig (r:=fun xs H Q=>∃ (l t:Addr) (bs:List (Addr × List Key)) (ws:List V),xs=[.ref l,.ref t]/\SqL K H l (bs.map fun b=>V.ref b.1)/\SqT K H t ws/\(∀ b ∈ bs,H b.1=some (.tup (b.2.map kV)))/\bs.length=ws.length/\(bs.map (·.2)).Nodup/\∀ p,H p=none->Q (.ref p) (upd H p (.dT ((bs.map (·.2)).zip ws)))) (fun ys H Q p ra e q=>?_) h
 obtain ⟨y,z,rfl,e2⟩:=oj e
 clear e
 have ry:=(ra y AL).rep
 have rz:=(ra z (AM _ AL)).rep
 have az:=ra z (AM _ AL)
 obtain ⟨da,va,La,fa⟩:=y
 obtain ⟨db,vb,Lb,fb⟩:=z
 dsimp only at ry rz e2
 cases da <;> try (exact nsE e2)
 rename_i xs
 cases db <;> try (exact nsE e2)
 rename_i ws
 obtain ⟨pa,vs,L0,rfl,rfl,ha,rs⟩:=ry.view
 obtain ⟨pb,us,rfl,hb,rs'⟩:=rz.view
 obtain ⟨ks,h1,h2⟩:=Bh.mp (show ((mE xs).bind fun ks=>if ks.length=ws.length/\ks.Nodup then some ((.dt (ks.zip ws),.u):D × Fl) else none)=some p from e2)
 split at h2
 ·rename_i hc
  cases h2
  obtain ⟨bs,g1,g2,g3⟩:=lm rs h1
  subst g1 g2
  have hl:(bs.map (·.2)).length=us.length:=by rw [hc.1,rs'.len]
  refine ⟨pa,pb,bs,us,rfl,SqL.of ha,SqT.of hb,g3,by simpa using hl,hc.2,fun p hp=>?_⟩
  refine q ⟨.dt ((bs.map (·.2)).zip ws),.ref p,p :: Lb,.u⟩ _ ⟨bF hp,.dT aV (by rw [kG hc.1,kG hl]) (by rw [kE hc.1,kE hl];exact rs'.same (bF hp)),fun c hc=>?_,fun _=>⟨rfl,p,Lb,rfl,rfl,fun hc=>?_,hp⟩⟩ rfl rfl
  ·rcases AS.mp hc with e | hc
   ·rw [e];exact .inl hp
   ·exact .inr (iR (y:=⟨.tup ws,.ref pb,Lb,fb⟩) (AM _ AL) az rfl c hc)
  ·obtain ⟨o,ho⟩:=(rs'.inH p hc).ex
   rw [hp] at ho
   exact nsE ho
 ·exact nsE h2
theorem xl {a b:Expr} {ms:M3 (List R3)} {p1 p2 pos1 pos2:Pos} (hc:X.calm=true) (hu:X.A.units+64 < cLine) (hgl:Gl X "dict") (hml:X.mg "dict"=none) (hg:Gl X "zip") (hm:X.mg "zip"=none) (ha:RA X G0 W0 [a,b] ms)
  (hs:starEach [.Call (.Name "zip" p2) [a,b] [] pos2] X.env=[(false,eval (.Call (.Name "zip" p2) [a,b] [] pos2) X.env)]) (hs2:starEach [a,b] X.env=(false,eval a X.env) :: starEach [b] X.env) (hpl:(backTo pos2 (starEach [b] X.env)).any (·.1)=false) :
  RE X G0 W0 (.Call (.Name "dict" p1) [.Call (.Name "zip" p2) [a,b] [] pos2] [] pos1) (vK ms):=⟨PE.imp (xz hc hu hgl hml hg hm AC b_zip ha.h hs hs2 hpl) fun _ _ _ h=>wU h⟩
end
end L3
end
section
namespace L3
open PySem L2
noncomputable def XA (K:FG):D->Value->Option Addr->Hp->Prop:=fun e cls da _=>da=none/\∃ c C,e=.exc c []/\cls=.ref C/\XName K c C
noncomputable abbrev cU (P:Program) (w:World) (K:FG) (mg:Str->Option Value) (base:Heap) (x:Str) (k:Nat) (ps:List Str) (F:Fn):Prop:=CalleeX P w K mg base x k ps (spF (XA K) K F)
noncomputable abbrev uF (P:Program) (w:World) (K:FG) (mg:Str->Option Value) (base:Heap) (x:Str) (k:Nat) (ps:List Str) (F:Fn):Prop:=CalleeN P w K mg base x k ps (qf K F)
structure Pas (X:Cx) (G0:Gm) (W0:D->Sto->Prop):Prop where
 fly:∀ (pins:List (Addr × Obj)) (σ:St) (H:Hp) (s:Shared) (e:Value) (s':Shared),Inv X pins σ H s->CXe X.prog X.w X.stack H s (EX (XA X.K) X.K G0 W0 σ) e s'->X.xe e s'
structure Mak (X:Cx) (G0:Gm) (W0:D->Sto->Prop):Prop where
 made:∀ (pins:List (Addr × Obj)) (σ:St) (H:Hp) (s s':Shared) (a C:Addr) (vs:List Value),Inv X pins σ H s->EX (XA X.K) X.K G0 W0 σ (.ref C) none H->Heap.MadeExcOf s.heap s'.heap a (.ref C) vs->s'.os=s.os->s'.gens=s.gens->X.xe (.ref a) s'
section
variable {X:Cx} {G G0:Gm} {W W0:D->Sto->Prop} {K:FG} {H H':Hp} {σ:St} {ρ ρ':Sto} {T T':List It3} {g:Nat->Option It3} {m:SM} {ms:M3 (List R3)} {st:Stmt} {sts:List Stmt} {x:Str} {p pos:Pos} {e:Expr} {es:List Expr} {k:Nat} {ps:List Str} {F:Fn}
theorem bG (c:cU X.prog X.w X.K X.mg X.base x k ps F) (hr:Room k X.A) (pa:Pas X G0 W0) (ha:RA X G0 W0 (e :: es) ms) (hg:Gl X x) (hdb:(x == ("__debug__":Str))=false)
  (he:starEach (e :: es) X.env=(false,eval e X.env) :: starEach es X.env) (hpl:(backTo pos (starEach es X.env)).any (·.1)=false):RE X G0 W0 (.Call (.Name x p) (e :: es) [] pos) (cE F ms) :=
 ⟨PE.imp (zZ c hr pa.fly ha.h hg hdb he hpl) fun _ _ _ h=>wV h⟩
theorem o8 (c:uF X.prog X.w X.K X.mg X.base x k ps F) (hr:RoomN k X.A) (hD:Hd X) (ha:RA X G0 W0 (e :: es) ms) (hg:Gl X x) (hdb:(x == ("__debug__":Str))=false)
  (he:starEach (e :: es) X.env=(false,eval e X.env) :: starEach es X.env) (hpl:(backTo pos (starEach es X.env)).any (·.1)=false):RE X G0 W0 (.Call (.Name x p) (e :: es) [] pos) (au F ms) :=
 ⟨PE.imp (z4 c hr hD ha.h hg hdb he hpl) fun _ _ _ h=>oO h⟩
noncomputable def quiet (m:SM):SM:=fun ρ=>match m ρ with
 | some (.ok f,ρ')=>some (.ok f,ρ')
 | _=>none
theorem Le.no (le:Le K G W G0 W0):Le K G noX G0 noX:=⟨le.pr,fun _ _ _ _ _ _ _ h=>h.elim⟩
theorem uP {E:Ends} (h:tS K G0 W0 (quiet m) E σ H):tS K G0 noX m E σ H:=by
 refine h.use fun G W le ρ T g r ρ' w e q=>?_
 unfold quiet at e
 cases q1:m ρ with
 | none=>rw [q1] at e;exact nsE e
 | some z =>
  obtain ⟨o,ρ1⟩:=z
  rw [q1] at e
  cases o with
  | error y=>exact nsE e
  | ok f=>cases e;exact tS.mk le.no w q1 (by cases f <;> exact q)
theorem oX (h:RS X.nox G0 noX st m):RS X G0 W0 st (quiet m):=⟨fun pins s σ H D I q=>wpAny_mono (h.h pins s σ H D (I.wish _) (uP q)) (fun _ _ z=>z.unwish) fun _ _ z=>z.elim⟩
noncomputable def kR (c:String) (ms:M3 (List R3)):SM:=ak ms fun rs=>fun ρ=>if rs.length<=1000 then some (.error (.exc c []),ρ) else none
theorem Ars.lenV {rs:List R3} {vs:List V} {Ts:List It3} (a:Ars σ rs vs Ts):rs.length=vs.length:=by
 induction a with
 | nil=>rfl
 | cons _ _ ih=>rw [Be,Be,ih]
theorem uO {c:String} {C:Addr} {E:Ends} (n:XName K c C) (h:tS K G0 W0 (kR c ms) E σ H):uQ (fun σ H1=>EX (XA K) K G0 W0 σ (.ref C) none H1) (tA K G0 W0 ms) E σ H:=by
 refine h.use fun G W le ρ T g r ρ' w e q=>?_
 refine tA.seq le w e q.err fun rs ρ1 e1 vs H1 Ts g1 w1 a1=>?_
 rcases Decidable.em (rs.length<=1000) with hl | hl
 ·rw [if_pos hl] at e1
  cases e1
  obtain ⟨ρ5,T5,g5,w5,h5⟩:=le.ex H1 σ _ _ g1 _ w1 q
  exact ⟨by rw [<- a1.lenV];exact hl,_,ρ5,T5,g5,w5,⟨rfl,c,C,rfl,rfl,n⟩,h5⟩
 ·rw [if_neg hl] at e1;exact nsE e1
theorem kS {c:String} {C:Addr} {np cpos:Pos} (n:XName X.K c C) (cl:ECls X.K X.mg x C) (mk:Mak X G0 W0) (hc:X.calm=true) (hg:Gl X x) (hd:(x == ("__debug__":Str))=false) (ha:RA X G0 W0 [e] ms) (he:starEach [e] X.env=[(false,eval e X.env)]) :
  RS X G0 W0 (.Raise (some (.Call (.Name x np) [e] [] cpos)) none pos) (kR c ms) :=
 ⟨PS.imp (vm cl hc hg hd ha.h _ (fun pins σ H s s' a vs I q hm h1 h2=>mk.made pins σ H s s' a C vs I q hm h1 h2) he) fun _ _ _ h=>uO n h⟩
noncomputable def tS1 (K:FG) (G:Gm) (W:D->Sto->Prop) (m:SM):TS:=fun E σ H=>∃ ρ g r ρ',Wf K G H σ ρ [] g/\m ρ=some (r,ρ')/\EndS K G W [] ρ' E r
theorem tS1.all {E:Ends} (h:tS1 K G W m E σ H):tS K G W m E σ H:=by
 obtain ⟨ρ,g,r,ρ',w,e,q⟩:=h
 exact tS.mk (Le.refl K _ _) w e q
structure RS1 (X:Cx) (G0:Gm) (W0:D->Sto->Prop) (s:Stmt) (m:SM):Prop where
 h:PS X s (tS1 X.K G0 W0 m)
structure RSs1 (X:Cx) (G0:Gm) (W0:D->Sto->Prop) (s:List Stmt) (m:SM):Prop where
 h:PSs X s (tS1 X.K G0 W0 m)
theorem RS.one (h:RS X G0 W0 st m):RS1 X G0 W0 st m:=⟨PS.imp h.h fun _ _ _ q=>q.all⟩
theorem u7 (h:RS1 X G0 W0 st m):RSs1 X G0 W0 [st] m:=⟨rN h.h⟩
theorem wN {a b:SM} {E:Ends} (h:tS1 K G W (aJ a b) E σ H):y8 (tS1 K G W a) (tS1 K G W b) E σ H:=by
 obtain ⟨ρ,g,r,ρ',w,e,q⟩:=h
 unfold aJ ak at e
 cases p:a ρ with
 | none=>rw [p] at e;exact nsE e
 | some p' =>
  obtain ⟨o,ρ1⟩:=p'
  rw [p] at e
  cases o with
  | error x=>cases e;exact ⟨ρ,g,_,_,w,p,q⟩
  | ok f =>
   cases f with
   | nx=>exact ⟨ρ,g,.ok .nx,ρ1,w,p,fun σ' H' g' w'=>⟨ρ1,g',r,ρ',w',e,q⟩⟩
   | br=>cases e;exact ⟨ρ,g,_,_,w,p,q⟩
   | ct=>cases e;exact ⟨ρ,g,_,_,w,p,q⟩
   | rt d f=>cases e;exact ⟨ρ,g,_,_,w,p,q⟩
theorem sT {sm sn:SM} (h1:RS1 X G0 W0 st sm) (h2:RSs1 X G0 W0 sts sn):RSs1 X G0 W0 (st :: sts) (aJ sm sn):=⟨PSs.imp (ph h1.h h2.h) fun _ _ _ h=>wN h⟩
end
end L3
end
section
namespace L3
open PySem L2
set_option tactic.hygienic true in
theorem pW {K:FG} {H:Hp} {mask:List Bool} {m:SM} {n:Nat} {Q:VK} {E:XK} {ps:List It3} {o:Except D (D × Fl)} {fs:List (D × Fl)} (hn:mask.length<=n) (ha:∀ p ∈ ps,Arg K H p) (hp:ps.Pairwise Apart3)
  (q:match o with
   | .ok p=>∀ x qs H',Behind K H H' ps qs x->x.d=p.1->x.f=p.2->qs.map (fun q=>(q.d,q.f))=fs->Q x.v H'
   | .error e=>∀ qs H' cls da,BehindX K H H' ps qs->qs.map (fun q=>(q.d,q.f))=fs->XA K e cls da H'->E cls da H') (hF:fnM mask n m (ps.map fun p=>(p.d,p.f))=some (o,fs)) :
  ∃ (G:Gm) (W:D->Sto->Prop),G.pr=prM mask/\(∀ e ρ,W e ρ->∃ e',o=.error e')/\(∀ σ cls da H',EX (XA K) K G W σ cls da H'->E cls da H')/\tS1 K G W m { nx:=fun _ H'=>Q .non H',rt:=Q } ((ps.map (·.v)).map some ++ List.replicate (n - (ps.map (·.v)).length) none) H:=by
 unfold fnM at hF
 rw [AX] at hF
 split at hF
 ·rename_i hl
  rw [<- jv] at hF
  generalize hps:List.zipWith cF mask ps=ps' at hF
  have hl':ps'.length=ps.length:=by rw [<- hps,List.length_zipWith];omega
  have hv:ps'.map (·.v)=ps.map (·.v):=by
   refine List.ext_getElem? fun i=>?_
   rw [A3,A3]
   cases e:ps[i]? with
   | none=>rw [List.getElem?_eq_none (by have:=List.getElem?_eq_none_iff.mp e;omega)]
   | some u =>
    obtain ⟨b,_,e2⟩:=iQ (mask:=mask) hl e
    rw [hps] at e2
    rw [e2]
    show some (cF b u).v=some u.v
    rw [(bO b u).2.1]
  have up:∀ (i:Nat) (u:It3),ps'[i]?=some u->∃ b u0,mask[i]?=some b/\ps[i]?=some u0/\u=cF b u0:=fun i u e=>by rw [<- hps] at e;exact mD e
  have upm:∀ u ∈ ps',∃ b u0,u0 ∈ ps/\u=cF b u0:=fun u hu=>by
   obtain ⟨i,hi,e⟩:=List.mem_iff_getElem.mp hu
   obtain ⟨b,u0,_,e2,e3⟩:=up i u (by rw [AT hi,e])
   exact ⟨b,u0,AZ e2,e3⟩
  have ha':∀ u ∈ ps',Arg K H u:=fun u hu=>by
   obtain ⟨b,u0,h0,rfl⟩:=upm u hu
   obtain ⟨e1,e2,e3,e4⟩:=bO b u0
   refine ⟨by rw [e1,e2,e3];exact (ha u0 h0).rep,fun hf=>?_⟩
   rw [e1,e2,e3]
   refine (ha u0 h0).own fun z=>hf ?_
   rcases e4 with f | f
   ·rw [f];exact z
   ·exact f
  have hp':ps'.Pairwise Apart3:=by
   rw [List.pairwise_iff_getElem]
   intro i j hi hj lt
   obtain ⟨b,u0,_,e2,e3⟩:=up i _ (AT hi)
   obtain ⟨b',u0',_,e2',e3'⟩:=up j _ (AT hj)
   have ap:=cD hp (fun _ _=>Apart3.symm) (A6 lt) e2 e2'
   rw [e3,e3']
   obtain ⟨_,a2,a3,a4⟩:=bO b u0
   obtain ⟨_,b2,b3,b4⟩:=bO b' u0'
   exact ⟨ap.1.low a2 a4 b3,ap.2.low b2 b4 a3⟩
  have hpr:∀ (i:Nat) (u:It3),ps'[i]?=some u->u.f ≠ .z->prM mask i=true:=fun i u e hf=>by
   obtain ⟨b,u0,e1,e2,e3⟩:=up i u e
   unfold prM
   rw [e1]
   cases b with
   | false=>rfl
   | true=>rw [e3] at hf;exact absurd rfl hf
  have alls:∀ c,cV ps' c->cV ps c:=fun c ⟨u,hu,hc⟩=>by
   obtain ⟨b,u0,h0,rfl⟩:=upm u hu
   exact ⟨u0,h0,by rw [<- (bO b u0).2.2.1];exact hc⟩
  have lift:∀ {H':Hp} {qs:List It3},BehindX K H H' ps' qs->BehindX K H H' ps qs:=fun {H' qs} B=>by
   refine ⟨fun b o hb hn=>B.frame b o hb fun u hu hf hv=>?_,Paired.ofGet ?_ fun k u v eu ev=>?_,B.apart⟩
   ·obtain ⟨b',u0,h0,rfl⟩:=upm u hu
    obtain ⟨_,e2,_,e4⟩:=bO b' u0
    rcases e4 with f | f
    ·exact hn u0 h0 (by rw [<- f];exact hf) (by rw [<- e2];exact hv)
    ·rw [f] at hf;cases hf
   ·rw [<- hl'];exact Paired.length B.back
   ·obtain ⟨b,_,e2⟩:=iQ (mask:=mask) hl eu
    rw [hps] at e2
    have b1:=Paired.at B.back e2 ev
    obtain ⟨a1,a2,a3,a4⟩:=bO b u
    refine ⟨fun hz=>?_,by rw [b1.v,a2],?_,b1.arg,fun c hc=>(b1.src c hc).imp id (alls c),fun hf b' hb'=>?_⟩
    ·have:cF b u=u:=by
      cases b
      ·rfl
      ·obtain ⟨d,v,L,f⟩:=u
       have hz:f=.z:=hz
       subst hz;rfl
     rw [<- this]
     exact b1.z (by rw [this];exact hz)
    ·rcases b1.f with h | h
     ·rcases a4 with f | f
      ·exact .inl (h.trans f)
      ·exact .inr (h.trans f)
     ·exact .inr h
    ·rcases a4 with f | f
     ·exact b1.there (by rw [f];exact hf) b' (by rw [a2];exact hb')
     ·-- lowered: as it was
      obtain ⟨_,a,L',v1,v2,_⟩:=(ha u (AZ eu)).own (by rw [hf];intro q;cases q)
      rw [hb'] at v1;cases v1
      have hq:=b1.z f
      have r:=b1.arg.rep
      rw [hq,a1,a2,a3] at r
      exact (r.inH b' (by rw [v2];exact AL)).ex
  have hnn:ps'.length<=n:=by omega
  have wf:=oD (K:=K) (H:=H) (n:=n) (pr:=prM mask) hnn ha' hp' hpr
  rw [hv] at wf
  have h0:∀ (i:Nat) (u:It3),ps'[i]?=some u->((ps.map (·.v)).map some ++ List.replicate (n - (ps.map (·.v)).length) none)[i]?=some (some u.v):=fun i u e=>i5 (by rw [<- hv];exact rS e)
  unfold fn0 at hF
  cases e:m (gE n (ps'.map fun p=>(p.d,p.f))) with
  | none=>rw [e] at hF;exact nsE hF
  | some rr =>
   obtain ⟨r,ρ2⟩:=rr
   rw [e] at hF
   refine ⟨gOf H (prM mask) ((ps.map (·.v)).map some ++ List.replicate (n - (ps.map (·.v)).length) none) ps',fun er ρ=>r=.error er/\ρ = ρ2,rfl,fun er ρ hw=>?_,fun σ' cls da H' hx=>?_,gE n (ps'.map fun p=>(p.d,p.f)),_,r,ρ2,wf,e,?_⟩
   ·obtain ⟨rfl,_⟩:=hw
    dsimp only at hF
    cases e5:eU ρ2 0 (ps'.map fun p=>(p.d,p.f)) with
    | none=>rw [e5] at hF;exact nsE hF
    | some fs'=>rw [e5] at hF;cases hF;exact ⟨er,rfl⟩
   ·obtain ⟨er,ρ',T',g',w',xa,rfl,rfl⟩:=hx
    dsimp only at hF
    cases e5:eU ρ' 0 (ps'.map fun p=>(p.d,p.f)) with
    | none=>rw [e5] at hF;exact nsE hF
    | some fs' =>
     rw [e5] at hF
     cases hF
     obtain ⟨qs,BX,hq,_⟩:=jR (n:=n) ha' hp' hpr h0 w' e5
     exact q qs H' cls da (lift BX) hq xa
   have fin:∀ {x:It3} {σ':St} {H':Hp} {g':Nat->Option It3} {d:D} {f:Fl},Wf K (gOf H (prM mask) ((ps.map (·.v)).map some ++ List.replicate (n - (ps.map (·.v)).length) none) ps') H' σ' ρ2 [x] g'->x.d=d->x.f=f ->
     ((eU ρ2 0 (ps'.map fun p=>(p.d,p.f))).map fun fs=>((.ok (d,f),fs):Except D (D × Fl) × List (D × Fl)))=some (o,fs)->Q x.v H':=fun {x σ' H' g' d f} w1 xd xf hF=>by
    cases e5:eU ρ2 0 (ps'.map fun p=>(p.d,p.f)) with
    | none=>rw [e5] at hF;exact nsE hF
    | some fs' =>
     rw [e5] at hF
     cases hF
     obtain ⟨qs,B,hq⟩:=lG (n:=n) ha' hp' hpr h0 w1 e5
     have BX:=lift B.toBehindX
     exact q x qs H' ⟨BX,B.rep,B.own,fun c hc=>(B.src c hc).imp id (alls c),B.apx⟩ xd xf hq
   cases r with
   | error er=>exact ⟨rfl,rfl⟩
   | ok fl =>
    cases fl with
    | nx =>
     intro σ' H' g' w1
     obtain ⟨Ts,g2,w2,a2⟩:=w1.const .non
     obtain ⟨x,rfl,x1,x2,x3⟩:=a2.val_inv
     have:=fin w2 x1 x2 hF
     rw [x3] at this
     exact this
    | br=>exact nsE hF
    | ct=>exact nsE hF
    | rt d f =>
     intro x σ' H' g' w1 x1 x2
     exact fin w1 x1 x2 hF
 ·exact nsE hF
theorem nQ {mask:List Bool} {n:Nat} {m:SM} {ps:List It3} {r:Except D (D × Fl) × List (D × Fl)} (h:fnM mask n m (ps.map fun p=>(p.d,p.f))=some r):ps.length=mask.length:=by
 unfold fnM at h
 rw [AX] at h
 rcases Decidable.em (ps.length=mask.length) with q | q
 ·exact q
 ·rw [if_neg q] at h;exact nsE h
section
variable {P:Program} {w:World} {K:FG} {mg:Str->Option Value} {base:Heap} {x:Str} {st:Stmt} {k:Nat} {N ps:List Str} {mask:List Bool} {m:SM} {nn:Nat}
theorem nC (S:FnScope N ps (aj st)) (hml:mask.length=ps.length) (hnn:N.length=nn):mask.length<=nn:=by
 rw [hml,<- hnn]
 have:=congrArg List.length S.pre
 rw [Bf] at this
 omega
theorem cR (D:Def K mg x st) (S:FnScope N ps (aj st)) (hml:mask.length=ps.length) (hnn:N.length=nn) (hb:∀ (kV doc pm:Value) (an:Option Addr) (cdv ct:Value) (us:List Value),us.length=ps.length->bindArgs (PySem.W.fnOf x x (bf st) (aN st) (aj st) .none kV doc pm an cdv ct) ⟨us,[]⟩=pure (ps.zip us))
  (body:∀ (cdv:Value) (A:Around) (outer:List Env) (s:Shared) (H:Hp) (E:XK) (f:Addr) (G:Gm) (W:L3.D->Sto->Prop),Room k (A.deeper (PyProof.Rows.envOfC x (aj st) s.heap.objs.size f cdv))->G.pr=prM mask->Pas (dS (CXe P w) P w K mg base N x (aj st) f cdv A outer s H E) G W->Mak (dS (CXe P w) P w K mg base N x (aj st) f cdv A outer s H E) G W->RSs (dS (CXe P w) P w K mg base N x (aj st) f cdv A outer s H E) G W (aN st) m) :
  cU P w K mg base x (k+1) ps (fnM mask nn m):=by
 refine D.calleeX hb fun f fd F=>F.okX S (fun vs H Q E h=>?_) fun cdv A outer s H vs Q E hr h=>?_
 ·obtain ⟨ps',o,fs,rfl,_,_,hF,_⟩:=h
  rw [AX,nQ hF,hml]
 ·obtain ⟨ps',o,fs,rfl,ha,hp,hF,q⟩:=h
  obtain ⟨G,W,hG,_,hE,ht⟩:=pW (E:=E) (nC S hml hnn) ha hp q hF
  subst hnn
  refine ⟨_,(body cdv A outer s H E f G W hr hG ⟨fun pins σ H1 s1 e s' I hf=>yW I hf fun cls H'=>hE σ cls none H'⟩ ⟨fun pins σ H1 s1 s' a C vs I he hm h1 h2=>wH I hm h1 h2 (hE σ _ none _ he)⟩).h,ht.all⟩
theorem xZ (D:Def K mg x st) (S:FnScope N ps (aj st)) (hml:mask.length=ps.length) (hnn:N.length=nn) (hb:∀ (kV doc pm:Value) (an:Option Addr) (cdv ct:Value) (us:List Value),us.length=ps.length->bindArgs (PySem.W.fnOf x x (bf st) (aN st) (aj st) .none kV doc pm an cdv ct) ⟨us,[]⟩=pure (ps.zip us))
  (body:∀ (cdv:Value) (A:Around) (outer:List Env) (s:Shared) (H:Hp) (E:XK) (f:Addr) (G:Gm),Room k (A.deeper (PyProof.Rows.envOfC x (aj st) s.heap.objs.size f cdv))->G.pr=prM mask->RSs1 (dS CX0 P w K mg base N x (aj st) f cdv A outer s H E).nox G noX (aN st) m) :
  aU P w K mg base x (k+1) ps (fnM mask nn m):=by
 refine D.callee hb fun f fd F=>F.ok S (fun vs H Q E h=>?_) fun cdv A outer s H vs Q E hr h=>?_
 ·obtain ⟨ps',p,fs,rfl,_,_,hF,_⟩:=h
  rw [AX,nQ hF,hml]
 ·obtain ⟨ps',p,fs,rfl,ha,hp,hF,q⟩:=h
  obtain ⟨G,W,hG,hW,hE,ρ,g,r,ρ',w',e,q'⟩:=pW (E:=E0) (nC S hml hnn) ha hp q hF
  subst hnn
  refine ⟨_,(body cdv A outer s H E f G hr hG).h,ρ,g,r,ρ',w',e,?_⟩
  cases r with
  | error er=>obtain ⟨_,z⟩:=hW _ _ q';cases z
  | ok fl=>cases fl <;> exact q'
theorem sd (D:Def K mg x st) (S:FnScope N ps (aj st)) (hml:mask.length=ps.length) (hnn:N.length=nn) (hb:∀ (kV doc pm:Value) (an:Option Addr) (cdv ct:Value) (us:List Value),us.length=ps.length->bindArgs (PySem.W.fnOf x x (bf st) (aN st) (aj st) .none kV doc pm an cdv ct) ⟨us,[]⟩=pure (ps.zip us))
  (body:∀ (cdv:Value) (A:Around) (outer:List Env) (s:Shared) (H:Hp) (f:Addr) (G:Gm),RoomN k (A.deeper (PyProof.Rows.envOfC x (aj st) s.heap.objs.size f cdv))->Hd ((dS CX0 P w K mg base N x (aj st) f cdv A outer s H E0).loud.wish fun _ _=>False)->G.pr=prM mask->RSs ((dS CX0 P w K mg base N x (aj st) f cdv A outer s H E0).loud.wish fun _ _=>False) G noX (aN st) m) :
  uF P w K mg base x (k+1) ps (fnM mask nn m):=by
 refine D.calleeN hb fun f fd F=>F.okN S (fun vs H Q E h=>?_) fun cdv A outer s H vs Q hr hD h=>?_
 ·obtain ⟨ps',p,fs,rfl,_,_,hF,_⟩:=h
  rw [AX,nQ hF,hml]
 ·obtain ⟨G,hG,ht⟩:=nP (nC S hml hnn) h
  subst hnn
  exact ⟨_,(body cdv A outer s H f G hr hD hG).h,ht⟩
end
end L3
end
section
namespace L3
open PySem L2
noncomputable abbrev Cx.tried (X:Cx) (E:Value->Shared->Prop) (pn:List (Addr × Obj)):Cx:={ X with xe:=E,pn:=pn }
section
variable {X:Cx} {pins pins' pn:List (Addr × Obj)} {σ:St} {H H':Hp} {s:Shared} {E:Value->Shared->Prop}
theorem tV (I:Inv X pins σ H s) (E:Value->Shared->Prop):Inv (Cx.tried X E (X.pn ++ pins)) [] σ H s :=
 ⟨⟨I.ok.mod,I.ok.kind,I.ok.glob,I.ok.blt,I.ok.above,I.ok.inj,I.ok.has,I.ok.cab,I.ok.hd,I.ok.frames,I.ok.stk,I.ok.exf,I.ok.bs,I.ok.bsz,I.ok.noex,I.ok.exfs,I.ok.funs,I.ok.frf⟩,I.os,I.bare,I.base,I.loc,I.cell,I.free,I.freeC,(fun p hp=>I.pin p (by rw [List.append_nil] at hp;exact hp)),I.hok,I.len⟩
theorem fZ (I:Inv (Cx.tried X E (X.pn ++ pins)) pins' σ H s):Inv X pins σ H s :=
 ⟨⟨I.ok.mod,I.ok.kind,I.ok.glob,I.ok.blt,I.ok.above,I.ok.inj,I.ok.has,I.ok.cab,I.ok.hd,I.ok.frames,I.ok.stk,I.ok.exf,I.ok.bs,I.ok.bsz,I.ok.noex,I.ok.exfs,I.ok.funs,I.ok.frf⟩,I.os,I.bare,I.base,I.loc,I.cell,I.free,I.freeC,(fun p hp=>I.pin p (AQ _ hp)),I.hok,I.len⟩
end
noncomputable def ql (cs:List String) (i:Nat) (mb mh:SM):SM:=fun ρ=>match mb ρ with
 | some (.error (.exc c []),ρ1)=>if c ∈ cs then (match mh (ρ1.set i (some (.exc c [],.z))) with
  | some (.ok (.rt d f),ρ2)=>some (.ok (.rt d f),ρ2)
  | _=>none) else none
 | some (.ok (.rt d f),ρ1)=>some (.ok (.rt d f),ρ1)
 | some (.ok .nx,ρ1)=>some (.ok .nx,ρ1)
 | _=>none
section
variable {X:Cx} {G0:Gm} {W0:D->Sto->Prop} {cs:List String} {i:Nat} {mb mh:SM} {cx n:Str} {CB:Addr} {cp hpos pos:Pos} {b0:Stmt} {body suite:List Stmt}
set_option tactic.hygienic true in
theorem zy (hst:X.stack=X.env :: X.outer) (hfe:X.env.frame=some X.env.locals) (hex:X.ex=[]) (hN:X.N.Nodup) (hg:Gl X cx) (hd:(cx == ("__debug__":Str))=false) (hm:X.mg cx=some (.ref CB))
  (hcs:∀ c ∈ cs,∀ C,XName X.K c C->PySem.W.exmOne X.K (.ref C) (.ref CB)=some true) (hi:X.N[i]?=some n) (hl:X.env.scope.names.lookup n=some .local\/(X.env.scope.names.lookup n=some .cell/\X.fn n=true)) (hp:G0.pr i=false)
  (hb:∀ (E:Value->Shared->Prop) (pn:List (Addr × Obj)) (W:D->Sto->Prop),Pas (Cx.tried X E pn) G0 W->RSs (Cx.tried X E pn) G0 W body mb) (hh:∀ a ob cls,Hd (X.caught a ob cls)->RSs (X.caught a ob cls) G0 noX (b0 :: suite) mh) :
  RS1 X G0 W0 (.Try body [.ExceptHandler (some (.Name cx cp)) (some n) (b0 :: suite) hpos] [] [] pos) (ql cs i mb mh):=by
 refine ⟨fun pins s σ H D I h=>?_⟩
 obtain ⟨ρ,g,r,ρ',w,e,q⟩:=h
 refine wpAny_Try_except ?_
 have hil:i < X.N.length:=(AY.mp hi).1
 have pas:Pas (Cx.tried X (fun e s₁=>wpAny (model X.prog X.w) X.A (noteFrame e X.env) (fun _ s₂=>wpAny (model X.prog X.w) X.A (setFlight e none) (fun _ s₃=>wpAny (model X.prog X.w) X.A (handleBy e X.env [.ExceptHandler (some (.Name cx cp)) (some n) (b0 :: suite) hpos]) (SP X pins D) X.xe s₃) X.xe s₂) X.xe s₁) (X.pn ++ pins)) G0 (fun er ρ1=>mb ρ=some (.error er,ρ1)):=by
  refine ⟨fun pins' σ' H1 s1 e' s' I' hf=>?_⟩
  obtain ⟨a,cls,H2,rfl,F,er,ρ1,T',g',w',⟨_,c,C,rfl,rfl,nm⟩,hmb⟩:=hf
  have J:=fZ I'
  unfold ql at e
  rw [hmb] at e
  dsimp only at e
  rcases Decidable.em (c ∈ cs) with hc | hc
  ·rw [if_pos hc] at e
   cases e2:mh (ρ1.set i (some (.exc c [],.z))) with
   | none=>rw [e2] at e;exact nsE e
   | some z =>
    obtain ⟨o,ρ2⟩:=z
    rw [e2] at e
    cases o with
    | error _=>exact nsE e
    | ok fl =>
     cases fl with
     | nx=>exact nsE e
     | br=>exact nsE e
     | ct=>exact nsE e
     | rt d f =>
      cases e
      have hρ:i < ρ1.length:=by rw [<- w'.len,I'.len];exact hil
      have nw:∀ ob,New X.K H2 (upd H2 a (kg ob a (.ref C))) (fun _=>False) ⟨.exc c [],.ref a,[],.z⟩:=fun ob=>⟨bF F.free,.exc nm aV,fun _ h=>(by cases h),fun h=>absurd rfl h⟩
      have w2:=fun ob=>(w'.push (nw ob) fun _ h=>h.elim).store (f:=.z) hρ hp (.inr rfl) (by intro h;cases h)
      refine qY (X:=X) (I:=J) F hst hfe hex hN hg hd hm (hcs c hc C nm) hi hl fun s5 ob hD J5=>?_
      refine wpAny_mono ((hh a ob _ hD).h pins s5 _ _ { nx:=fun _ _=>False,rt:=D.rt } J5 (tS.mk (Le.refl _ _ _) (w2 ob) e2 fun x σ3 H3 g3 w3 xd xf=>q x σ3 H3 g3 (w3.sub (List.Sublist.cons_cons x (List.nil_sublist _))) xd xf)) (fun f s6 h6=>?_) fun _ _ z=>z.elim
      cases f with
      | ret u=>obtain ⟨v,σ6,H6,J6,r6,q6⟩:=h6;exact ⟨v,u,σ6,H6,rfl,J6,r6,q6⟩
      | next=>obtain ⟨_,_,_,z⟩:=h6;exact z.elim
      | brk=>obtain ⟨_,_,_,z⟩:=h6;exact z.elim
      | cont=>obtain ⟨_,_,_,z⟩:=h6;exact z.elim
  ·rw [if_neg hc] at e;exact nsE e
 have hbody:∀ (o:Except L3.D Flw) (ρ1:Sto),mb ρ=some (o,ρ1)->EndS X.K G0 (fun er ρ1=>mb ρ=some (.error er,ρ1)) [] ρ1 { nx:=D.nx,rt:=D.rt } o:=fun o ρ1 em=>by
  unfold ql at e
  rw [em] at e
  cases o with
  | error er=>exact em
  | ok fl =>
   cases fl with
   | nx=>cases e;exact q
   | br=>exact nsE e
   | ct=>exact nsE e
   | rt d f=>cases e;exact q
 cases em:mb ρ with
 | none=>unfold ql at e;rw [em] at e;exact nsE e
 | some z =>
  obtain ⟨o,ρ1⟩:=z
  refine wpAny_mono ((hb _ _ _ pas).h [] s σ H { nx:=D.nx,rt:=D.rt } (tV I _) (tS.mk (Le.refl _ _ _) w em (hbody o ρ1 em))) (fun f s1 h1=>?_) fun _ _ z=>z
  cases f with
  | ret u=>obtain ⟨v,σ6,H6,J6,r6,q6⟩:=h1;exact ⟨v,σ6,H6,fZ J6,r6,q6⟩
  | next=>obtain ⟨σ6,H6,J6,q6⟩:=h1;refine wpAny_of_eq (show execs [] X.env=pure .next from by simp only [execs]) ?_;exact ⟨σ6,H6,fZ J6,q6⟩
  | brk=>obtain ⟨_,_,_,z⟩:=h1;exact z.elim
  | cont=>obtain ⟨_,_,_,z⟩:=h1;exact z.elim
end
theorem uy {X:Cx} {t:V} {cv:Value} (ht:∀ u,RelV t u->u=cv):CallR X (.builtin "isinstance") (fun xs H Q=>∃ a c C b ob,xs=[.ref a,t]/\H a=some (kg ob a (.ref C))/\XName X.K c C/\PySem.W.kitOne X.K (.ref C) cv=some b/\Q (.bl b) H):=by
 intro pins s σ H xs us Q I r h
 obtain ⟨a,c,C,b,ob,rfl,ha,nm,hk,q⟩:=h
 obtain ⟨u,v,rfl,ru,rv⟩:=kH r
 cases (show u=Value.ref a from ru)
 cases ht v rv
 have ho:=(I.hok a _ ha).2.1
 exact PySem.W.kia_one (vR (x:=a) nm.ex) I.kIn ⟨ho⟩ hk (by intro z;cases z) fun tk=>⟨.bl b,H,I.tok _,rfl,q⟩
noncomputable def gT (cs:List (String × Bool)):D->Option (D × Fl)
 | .exc c []=>(cs.lookup c).map fun b=>(.bl b,.z)
 | _=>none
section
variable {X:Cx} {G0:Gm} {W0:D->Sto->Prop}
theorem b7 {cs:List (String × Bool)} {t:V} {cv:Value} {tn:Str} {a:Expr} {p pT pos:Pos} {ma:EM} (htv:∀ u,RelV t u->u=cv) (hf:∀ c b,cs.lookup c=some b->∀ C,XName X.K c C->PySem.W.kitOne X.K (.ref C) cv=some b) (hg:Gl X "isinstance") (hm:X.mg "isinstance"=none) (ht:PE X (.Name tn pT) (tC t)) (ha:RE X G0 W0 a ma)
  (he1:starEach [a,.Name tn pT] X.env=(false,eval a X.env) :: starEach [.Name tn pT] X.env) (he2:starEach [.Name tn pT] X.env=(false,eval (.Name tn pT) X.env) :: starEach [] X.env) (hpl:(backTo pos (starEach [.Name tn pT] X.env)).any (·.1)=false):RE X G0 W0 (.Call (.Name "isinstance" p) [a,.Name tn pT] [] pos) (mUn (gT cs) ma) :=
 ⟨PE.imp (iz (uy htv) hg hm iY (gm ha.h (gm ht nt he2) he1) (by decide) (by decide) he1 hpl) fun σ H Q h=>by
  have h:=uR (r:=fun x H Q=>∃ a c C b ob,x=.ref a/\H a=some (kg ob a (.ref C))/\XName X.K c C/\PySem.W.kitOne X.K (.ref C) cv=some b/\Q (.bl b) H) (fun a H Q p ra e q=>by
   obtain ⟨da,va,La,fa⟩:=a
   have ra:=ra.rep
   dsimp only at ra
   cases da with
   | exc c fs =>
    obtain ⟨rfl,rfl,pa,C,ob,rfl,nm,ho⟩:=ra.view
    obtain ⟨b,h1,h2⟩:=AO.mp (show (cs.lookup c).map (fun b=>((.bl b,.z):D × Fl))=some p from e)
    subst h2
    exact ⟨pa,c,C,b,ob,rfl,ho,nm,hf c b h1 C nm,q ⟨.bl b,.bl b,[],.z⟩ H (dj (.bl _)) rfl rfl⟩
   | _=>exact nsE e) h
  refine mU h fun x H1 ⟨a,c,C,b,ob,hx,h1,h2,h3,q⟩=>?_
  exact ⟨a,c,C,b,ob,by rw [hx],h1,h2,h3,q⟩⟩
end
theorem ol:bootBuiltins "ValueError"=some (.type "ValueError"):=by decide +kernel
noncomputable def IsX (K:FG) (cv:Value) (cs:List (String × Bool)):Prop:=∀ c b,cs.lookup c=some b->∀ C,XName K c C->PySem.W.kitOne K (.ref C) cv=some b
noncomputable def ExX (K:FG) (CB:Addr) (cs:List String):Prop:=∀ c ∈ cs,∀ C,XName K c C->PySem.W.exmOne K (.ref C) (.ref CB)=some true
theorem IsX.nil {K:FG} {cv:Value}:IsX K cv []:=fun _ _ h=>nomatch h
theorem IsX.cons {K:FG} {cv:Value} {r:String} {C:Addr} {b:Bool} {cs:List (String × Bool)} (n:XName K r C) (h:PySem.W.kitOne K (.ref C) cv=some b) (t:IsX K cv cs):IsX K cv ((r,b) :: cs):=fun c b' e C' n'=>by
 rw [List.lookup_cons] at e
 cases hc:c == r with
 | true =>
  rw [hc] at e
  cases e
  cases beq_iff_eq.mp hc
  rw [n'.inj n];exact h
 | false=>rw [hc] at e;exact t c b' e C' n'
theorem ExX.nil {K:FG} {CB:Addr}:ExX K CB []:=fun _ h=>nomatch h
theorem ExX.cons {K:FG} {CB:Addr} {r:String} {C:Addr} {cs:List String} (n:XName K r C) (h:PySem.W.exmOne K (.ref C) (.ref CB)=some true) (t:ExX K CB cs):ExX K CB (r :: cs):=fun c e C' n'=>by
 rcases AS.mp e with e | e
 ·cases e;rw [n'.inj n];exact h
 ·exact t c e C' n'
end L3
namespace L2
theorem RoomN.units {k:Nat} {A:PySem.Around} (r:RoomN k A):A.units+64 < PySem.cLine:=by have:=r.un;omega
end L2
end
section
namespace L3
open PySem L2
end L3
end
section
namespace L3
open PySem L2
structure RIL (X:Cx) (G0:Gm) (W0:D->Sto->Prop) (tg iter:Expr) (m:IM):Prop where
 h:PIL X tg iter (tI X.K G0 W0 m)
section
variable {X:Cx} {G0:Gm} {W0:D->Sto->Prop}
theorem oZ {tg a:Expr} {p pos:Pos} {ms:M3 (List R3)} (hg:Gl X "range") (hm:X.mg "range"=none) (ha:RA X G0 W0 [a] ms) (hs:starEach [a] X.env=[(false,eval a X.env)]):RIL X G0 W0 tg (.Call (.Name "range" p) [a] [] pos) (bE eR ms):=⟨PIL.imp (qx hg hm ha.h hs) fun _ _ _ h=>rB h⟩
theorem o5 {elt tg iter:Expr} {ifs:List Expr} {scope:Scope} {pos:Pos} {im:IM} {bnd:D->Sto->Option Sto} {cm:M3 Bool} {em:EM} (NY:List Str) (ix:List (Option Nat)) (hD:Hd X) (hi:RIL X G0 W0 tg iter im)
  (ht:∀ s H C fp,Hd (aE X NY scope s H C fp)->PTs (aE X NY scope s H C fp) ifs (tT X.K (cu ix) noX cm)) (he:∀ s H C fp,Hd (aE X NY scope s H C fp)->RE (aE X NY scope s H C fp) (cu ix) noX elt em)
  (ck:jB scope X.N X.env.scope NY ix=true) (hij:Inj ix) (hs:∀ x,foldedSetIterable iter X.env x=pure x) (hgu:∃ tg',Bnd X.K (cu ix).pr tg' bnd/\∀ s H C fp,PG (aE X NY scope s H C fp) tg tg'):RE X G0 W0 (.ListComp elt [⟨tg,iter,ifs,0⟩] scope pos) (bS im bnd cm em ix):=by
 obtain ⟨tg',b1,b2⟩:=hgu
 exact ⟨PE.imp (vw NY ix hD hi.h b2 ht (fun s H C fp hC=>(he s H C fp hC).h) ck hs) fun _ _ _ h=>rC szl hij b1 h⟩
end
end L3
end
section
namespace L3
open PySem L2
section
variable {K:FG} {h:Heap} {mg:Str->Option Value}
set_option tactic.hygienic true in
theorem qp {n:Str} (e:gr K n=true):PySem.W.nsIn K mainGlobals n=some (some (.ref (ah K n))):=by
 unfold gr at e
 split at e
 ·rename_i a ha;unfold ah;rw [ha]
 ·cases e
theorem cY {l:List Str} {n:Str} (X:K.In h) (G:h.Ns mainGlobals mg) (e:l.map (gr K)=l.map fun _=>true) (i:Nat) (hi:l[i]?=some n):mg n=some (.ref (ah K n)):=PySem.W.mg_of X G (qp (la e i hi))
theorem bL {α:Type} {l r:List α} (e:l=r) (i:Nat) {a b:α} (h:l[i]?=some a) (k:r[i]?=some b):a=b:=by rw [e,k] at h;exact (Bt h).symm
theorem rg {l:List String} {r:String} (X:K.In h) (G:h.Ns mainGlobals mg) (d:nR K=kC) (e:l.map (fun r:String=>sA K r)=l.map fun _:String=>nU) (i:Nat) (hi:l[i]?=some r):XName K r (ah K r)/\ECls K mg r (ah K r):=by
 have e:=la e i hi
 unfold sA nU at e
 unfold nR kC at d
 simp only [Prod.mk.injEq] at e d
 obtain ⟨e0,e1,e2,e3,e4,e5,e6,e7⟩:=e
 exact ⟨⟨qp e0,⟨e1,e2,e3,e4,d.1,d.2,e5,e6⟩⟩,⟨PySem.W.mg_of X G (qp e0),e7⟩⟩
end
end L3
end
section
namespace L3
open PySem L2
section
variable {K:FG} {G G0:Gm} {W W0:D->Sto->Prop} {H H':Hp} {σ:St} {ρ ρ':Sto} {T T':List It3} {g:Nat->Option It3} {x y z:It3} {α β:Type} {X:Cx} {v:V} {d:D} {L:List Addr}
theorem sS {sts:List Stmt}:RSs X G0 W0 sts uZ:=⟨fun pins s σ H D I h=>by
 obtain ⟨G,W,le,ρ,T,g,r,ρ',w,e,q⟩:=tS.open h
 cases e⟩
end
end L3
end
section
namespace L3
open PySem L2
theorem qz:fillsNumberSlot (.type "tuple") "mul"=pure false:=PySem.fillsNumberSlot_seq (id:="tuple.__mul__") (r:=some (.builtin "tuple.__rmul__")) PySem.F.slot_tuple_mul.lookup (by decide +kernel) PySem.F.slot_tuple_rmul.lookup (by decide +kernel)
theorem sV:seqRepeat? (.type "tuple")=pure (some (.builtin "tuple.__mul__")):=by
 have h1:=PySem.seqSlot_of (T:="tuple") (name:="__mul__") PySem.F.slot_tuple_mul.lookup (by decide +kernel)
 have h2:=PySem.seqSlot_of (T:="tuple") (name:="__rmul__") PySem.F.slot_tuple_rmul.lookup (by decide +kernel)
 delta seqRepeat?
 rw [h1,h2]
 rfl
theorem qV (i:Int) (t:Tok) (l:Addr) (its:Array Value) (n:Nat) (dd:Option Addr) (sl:Array (Option Value)) :
  Meets (Builtin.«int.__rmul__» ⟨[.int i t,.ref l],[]⟩) (fun _ R s=>s.heap.get? l=some { cls:=.type "tuple",dict:=dd,data:=.seq its n,slots:=sl }/\R (.ok (.ret Value.notImplemented)) s):=by
 refine .of_wp fun prog w A R s h=>?_
 obtain ⟨hp,g,d,tk,os⟩:=s
 obtain ⟨hl,h⟩:=h
 wp_walk
 exact ⟨_,rfl,h⟩
theorem wK (l:Addr) (its:Array Value) (n:Nat) (dd:Option Addr) (sl:Array (Option Value)) (k:Int) (t:Tok) (h0:¬ its.isEmpty=true) (h1:2<=k) (h2:k < 2 ^ 63) (hz:(its.size:Int) * k<=16777216) :
  Meets (Builtin.«tuple.__mul__» ⟨[.ref l,.int k t],[]⟩) (fun _ R s=>s.heap.get? l=some { cls:=.type "tuple",dict:=dd,data:=.seq its n,slots:=sl } /\
   R (.ok (.ret (Value.ref s.heap.objs.size))) { s with heap:=s.heap.push { cls:=Value.type "tuple",data:=Data.seq (List.foldl (fun x1 x2=>x1 ++ x2) #[] (List.replicate k.toNat its)) },toks:=s.toks }):=by
 refine .of_wp fun prog w A R s h=>?_
 obtain ⟨hp,g,d,tk,os⟩:=s
 obtain ⟨hl,h⟩:=h
 have c1:(decide (k < -(2 ^ 63)) || decide (k ≥ 2 ^ 63))=false:=by rw [Bool.or_eq_false_iff];exact ⟨Ba (by omega),Ba (by omega)⟩
 have c0:its.isEmpty=false:=by simpa using h0
 have c2:(its.isEmpty || k == 1)=false:=by rw [Bool.or_eq_false_iff,beq_eq_false_iff_ne];exact ⟨c0,by omega⟩
 have c3:(decide (k<=0) || its.isEmpty)=false:=by rw [Bool.or_eq_false_iff];exact ⟨Ba (by omega),c0⟩
 have c5:¬ (its.size:Int) * k > (2 ^ 63 - 1) / 8:=by omega
 have c6:Builtin.Tuple.tupleTooMany ((its.size:Int) * k)=false:=by
  refine Ba ?_
  rw [szl.symm]
  omega
 have no:∀ {b:Bool},b=false->decide (b=true)=false:=fun e=>by rw [e];rfl
 wp_walk
 refine wpAny_ite_false (no c1) ?_
 wp_walk
 refine wpAny_ite_false (no c2) ?_
 wp_walk
 refine wpAny_ite_false (no c3) ?_
 wp_walk
 refine wpAny_ite_false (Ba c5) ?_
 have hb:(List.foldl (fun x1 x2=>x1 ++ x2) #[] (List.replicate k.toNat its)).size<=sizeLine:=by
  have hk:((its.size * k.toNat:Nat):Int)=(its.size:Int) * k:=by rw [Int.natCast_mul,Int.toNat_of_nonneg (by omega)]
  rw [PySem.AutoListH.size_joined,<- szl,Nat.mul_comm]
  simp only [Array.size_empty]
  omega
 wp_walk
 exact ⟨_,rfl,h⟩
noncomputable def yw (K:FG):R2:=fun x y H Q=>∃ l k xs,x=.ref l/\y=.int k/\SqT K H l xs/\xs ≠ []/\2<=k/\k < 2 ^ 63/\(xs.length:Int) * k<=16777216 /\
 ∀ p,H p=none->Q (.ref p) (upd H p (.tup (List.replicate k.toNat xs).flatten))
section
variable {X:Cx}
theorem rO:OpR X (binaryOp .Mult) (yw X.K):=by
 intro pins s σ H x y v u Q I rx ry h
 obtain ⟨l,k,xs,rfl,rfl,hH,hx,h1,h2,hz,q⟩:=h
 cases rx
 obtain ⟨t,rfl⟩:=ry
 obtain ⟨its,r1,p1,hl⟩:=I.tuple hH
 obtain ⟨⟨cls,dd,data,sl⟩,ho,hc,n,hd⟩:=id p1
 simp only at hc hd
 subst hc hd
 have hk:((xs.length * k.toNat:Nat):Int)=(xs.length:Int) * k:=by rw [Int.natCast_mul,Int.toNat_of_nonneg (by omega)]
 have he:¬ its.toArray.isEmpty=true:=fun z=>hx (r1.nil_iff.mp (by simpa using z))
 refine wpAny_binaryOp_repeat_ref (T:="tuple") (U:="int") (by decide) ⟨_,ho,rfl⟩ (fun s'=>typeIs_int s' k t) qz PySem.F.fills_int_mul PySem.F.slot_int_rmul sV PySem.F.slot_int_index.lookup
  (call_meets PySem.F.slot_int_rmul (typeIs_int s k t) PySem.F.entry_int_rmul (PySem.F.args_int_rmul_2 _ _) (qV k t l its.toArray n dd sl) ⟨ho,rfl,⟨_,ho,rfl⟩,?_⟩)
 refine call_meets PySem.F.slot_tuple_mul ⟨_,ho,rfl⟩ PySem.F.entry_tuple_mul (PySem.F.args_tuple_mul_2 _ _) (wK l its.toArray n dd sl k t he h1 h2 (by rw [A7,<- r1.length];exact hz)) ⟨ho,?_⟩
 have hf:=mL its k.toNat []
 rw [List.nil_append] at hf
 rw [hf]
 refine ⟨.ref s.heap.objs.size,_,I.laid (t':=s.toks) (o:=.tup (List.replicate k.toNat xs).flatten) (fun b ob q=>AN _ q) (A4 _) ?_,rfl,q _ (I.hok.fresh (A4 _))⟩
 exact ⟨by rw [xS,Nat.mul_comm,<- szl];omega,_,r1.rep k.toNat,IsTupD.new _ _⟩
end
noncomputable def kW:D->D->Option (D × Fl)
 | .tup xs,.int k=>if decide (xs ≠ []/\2<=k/\k < 2 ^ 63/\(xs.length:Int) * k<=16777216) then some (.tup (List.replicate k.toNat xs).flatten,.z) else none
 | _,_=>none
section
variable {K:FG}
set_option tactic.hygienic true in
theorem rP:OpD K (yw K) kW:=fun a b H Q p ra rb e q=>by
 obtain ⟨da,va,La,fa⟩:=a
 obtain ⟨db,vb,Lb,fb⟩:=b
 have ra0:=ra
 obtain ⟨ra,oa⟩:=ra
 obtain ⟨rb,ob⟩:=rb
 dsimp only at ra rb
 cases da <;> try (exact nsE e)
 cases db <;> try (exact nsE e)
 rename_i xs k
 obtain ⟨rfl,rfl⟩:=rb.view
 obtain ⟨pa,vs,rfl,ha,rs⟩:=ra.view
 rcases Decidable.em (xs ≠ []/\2<=k/\k < 2 ^ 63/\(xs.length:Int) * k<=16777216) with hk | hk
 ·have e:=(if_pos (A9 hk)).symm.trans e
  cases e
  obtain ⟨k0,k1,k2,k3⟩:=hk
  obtain ⟨L',h1,h2⟩:=rs.rep k.toNat
  exact ⟨pa,k,vs,rfl,rfl,SqT.of ha,fun z=>k0 (rs.nil_iff.mpr z),k1,k2,by rw [<- rs.len];exact k3,fun l hl=>q ⟨_,.ref l,L',.z⟩ _ (vD hl h1 fun c hc=>iR (y:=⟨.tup xs,.ref pa,La,fa⟩) AL ra0 rfl c (h2 c hc)) rfl rfl⟩
 ·exact nsE ((if_neg (fun h=>hk (of_decide_eq_true h))).symm.trans e)
end
end L3
end
section
namespace Bn
open PySem L2 L3
theorem lq {bnd:L3.D->Sto->Option Sto} {b:SM} (P:Nat->Sto->Prop):∀ {ds:List L3.D} {ρ:Sto} {k:Nat},P k ρ->(∀ i d ρ,ds[i]?=some d->P (k+i) ρ->∃ ρ1 ρ2,bnd d ρ=some ρ1/\(b ρ1=some (.ok .nx,ρ2)\/b ρ1=some (.ok .ct,ρ2))/\P (k+i+1) ρ2)->∃ ρ',lr bnd b ds ρ=some (.ok .nx,ρ')/\P (k+ds.length) ρ'
 | [],ρ,k,h0,_=>⟨ρ,rfl,h0⟩
 | d :: ds,ρ,k,h0,hs=>by
  obtain ⟨ρ1,ρ2,e1,e2,h1⟩:=hs 0 d ρ rfl h0
  obtain ⟨ρ',e3,h3⟩:=lq P (ds:=ds) (ρ:=ρ2) (k:=k+1) h1 fun i d ρ hd hp=>by
   have:=hs (i+1) d ρ (by simpa using hd) (by rwa [show k+(i+1)=k+1+i by omega])
   rwa [show k+(i+1)+1=k+1+i+1 by omega] at this
  refine ⟨ρ',?_,by rw [Be,show k+(ds.length+1)=k+1+ds.length by omega];exact h3⟩
  unfold lr
  simp only [e1]
  rcases e2 with e2 | e2 <;> simp only [ak,e2,e3]
theorem oY {lo:Int} {n i:Nat} {d:L3.D} (h:(gK lo n)[i]?=some d):i < n/\d=.int (lo+i):=by
 unfold gK at h
 rw [A3,AO] at h
 obtain ⟨j,h1,rfl⟩:=h
 have h2:=AY.mp h1
 obtain ⟨h3,h4⟩:=h2
 simp at h3 h4
 subst h4
 exact ⟨h3,rfl⟩
theorem bc {a b:SM} {ρ ρ1:Sto} {r:Option (Except L3.D Flw × Sto)} (h1:a ρ=some (.ok .nx,ρ1)) (h2:b ρ1=r):aJ a b ρ=r:=by
 simp only [aJ,ak,h1]
 exact h2
theorem yi {xs:List L3.D} {i:Nat} {d:L3.D} (h:xs[i]?=some d):L2.atI xs (i:Int)=some d:=by
 obtain ⟨h1,h2⟩:=AY.mp h
 simp [L2.atI,ixN,h1,h2]
theorem vW {f:List L3.D->Option (List L3.D)} {ms:M3 (List R3)} {ρ ρ1 ρ2:Sto} {rs:List R3} {ds xs:List L3.D} (h1:ms ρ=some (.ok rs,ρ1)) (h2:fv rs ρ1=some (.ok ds,ρ2)) (h3:f ds=some xs):bE f ms ρ=some (.ok ([],xs),ρ2):=by
 simp [bE,ak,h1,h2,h3,bZ]
theorem rE {b:Int} (hb:-1000<=b/\b<=1000) {n:Nat} (hn:b.toNat=n):eR [.int b]=some (gK 0 n):=by
 have lm2:fI b=true:=A9 (by omega)
 show (if (fI b)=true then some (gK 0 b.toNat) else none)=_
 rw [lm2,hn]
 exact if_pos rfl
end Bn
end
section
namespace Bn
open PySem L2 L3
section
variable {α:Type} {ρ ρ1 ρ2 ρ3:Sto} {ma mb mc m:EM} {ms:M3 (List R3)} {ra rb r:R3} {rs:List R3} {da db d:L3.D} {ds:List L3.D} {fl:Fl} {i n np:Nat} {sa sb:SM} {c cc:M3 Bool} {b b2:Bool} {x:Option (Except L3.D Flw × Sto)} {y:Option (Except L3.D R3 × Sto)}
theorem yH {p:L3.D × Fl} (h:(ρ[i]?).join=some p):ag i ρ=some (.ok (.pl i),ρ):=by simp [ag,h]
theorem i_c:mC d ρ=some (.ok (.val d .z),ρ):=rfl
theorem i_bin {f:L3.D->L3.D->Option (L3.D × Fl)} (h1:ma ρ=some (.ok ra,ρ1)) (h2:mb ρ1=some (.ok rb,ρ2)) (h3:der ra ρ2=some (.ok da,ρ2)) (h4:der rb ρ2=some (.ok db,ρ2)) (h5:f da db=some (d,fl)):ao f ma mb ρ=some (.ok (.val d fl),ρ2):=by
 simp only [ao,ak,h1,h2,h3,h4,bZ,h5,Bg]
theorem i_un {f:L3.D->Option (L3.D × Fl)} (h1:ma ρ=some (.ok ra,ρ1)) (h3:der ra ρ1=some (.ok da,ρ1)) (h5:f da=some (d,fl)):mUn f ma ρ=some (.ok (.val d fl),ρ1):=by
 simp only [mUn,ak,h1,h3,bZ,h5,Bg]
theorem xW {f:List L3.D->Option (L3.D × Fl)} (h1:ms ρ=some (.ok rs,ρ1)) (h3:fv rs ρ1=some (.ok ds,ρ1)) (h5:f ds=some (d,fl)):aG f ms ρ=some (.ok (.val d fl),ρ1):=by
 simp only [aG,ak,h1,h3,bZ,h5,Bg]
theorem i_nil:ai ρ=some (.ok [],ρ):=rfl
theorem Aq (h1:m ρ=some (.ok r,ρ1)) (h2:ms ρ1=some (.ok rs,ρ2)):ac m ms ρ=some (.ok (r :: rs),ρ2):=by
 simp only [ac,ak,h1,h2,bU]
theorem Ap {mk:List L3.D->L3.D} {f:Fl} (h1:ms ρ=some (.ok rs,ρ1)) (h2:gives rs ρ1=some (.ok ds,ρ2)) (h3:ds.length<=16777216):xQ mk f ms ρ=some (.ok (.val (mk ds) f),ρ2):=by
 simp only [xQ,ak,h1,h2,bZ,h3,if_true,Bg]
theorem cQ {F:Fn} {ps qs:List (L3.D × Fl)} (hF:F ps=some (.ok (d,fl),qs)) (h1:ms ρ=some (.ok rs,ρ1)) (h2:prs (frz (gb rs) ρ1) rs=some ps) (h3:qs.length=ps.length) (h4:back rs ps qs (frz (gb rs) ρ1) = ρ2):au F ms ρ=some (.ok (.val d fl),ρ2):=by
 simp only [au,ak,h1,h2,hF,h3,if_true,h4]
theorem i_set {p:L3.D × Fl} (h1:m ρ=some (.ok r,ρ1)) (h2:ie r ρ1=some (.ok p,ρ2)) (h3:i < ρ2.length) (h4:ρ2.set i (some p) = ρ3):bK i m ρ=some (.ok .nx,ρ3):=by
 simp only [bK,ak,h1,h2,h3,if_true,h4]
theorem i_asg {bnd:L3.D->Sto->Option Sto} {p:L3.D × Fl} (h1:m ρ=some (.ok r,ρ1)) (h2:ie r ρ1=some (.ok p,ρ2)) (h3:bnd p.1 ρ2=some ρ3):u3 bnd m ρ=some (.ok .nx,ρ3):=by
 simp only [u3,ak,h1,h2,h3,Bg]
theorem qX (h1:m ρ=some (.ok r,ρ1)):cq m ρ=some (.ok .nx,ρ1):=by
 simp only [cq,ak,h1,bU]
noncomputable def retF (np:Nat) (r:R3):SM:=bb np (bU r)
theorem rY (h1:m ρ=some (.ok r,ρ1)) (h2:retF np r ρ1=x):bb np m ρ=x:=by
 rw [<- h2]
 unfold retF
 simp only [bb,ak,h1,bU]
theorem zq (h1:sa ρ=some (.ok (.rt d fl),ρ1)):aJ sa sb ρ=some (.ok (.rt d fl),ρ1):=by
 simp only [aJ,ak,h1,bU]
theorem i_cB (h1:m ρ=some (.ok r,ρ1)) (h2:der r ρ1=some (.ok (.bl b),ρ1)):cB m ρ=some (.ok b,ρ1):=by
 simp only [cB,ak,h1,h2,bZ,asB,Bg]
theorem vZ (h1:c ρ=some (.ok b,ρ1)) (hb:b=true) (h2:sa ρ1=x):sIf c sa sb ρ=x:=by
 subst hb;simp only [sIf,ak,h1,if_true];exact h2
theorem mI (h1:c ρ=some (.ok b,ρ1)) (hb:b=false) (h2:sb ρ1=x):sIf c sa sb ρ=x:=by
 subst hb;simp only [sIf,ak,h1,Bj,if_false];exact h2
theorem vY (h1:c ρ=some (.ok b,ρ1)) (hb:b=false) (h2:cc ρ1=some (.ok b2,ρ2)):cOr c cc ρ=some (.ok b2,ρ2):=by
 subst hb;simp only [cOr,ak,h1,Bj,if_false];exact h2
theorem i_sub {f:L3.D->List L3.D->Option (L3.D × L3.D)} {d2 d3 d4:L3.D} (h1:mb ρ=some (.ok rb,ρ1)) (h0:(ρ1[i]?).join=some (d,fl)) (h2:ma ρ1=some (.ok ra,ρ2)) (h3:gives [ra,rb] ρ2=some (.ok ds,ρ3)) (h4:(ρ3[i]?).join=some (d2,.u)) (h5:f d2 ds=some (d3,d4)):qm f i ma mb ρ=some (.ok .nx,ρ3.set i (some (d3,.u))):=by
 simp only [qm,ak,h1,yH h0,h2,h3,h4,h5]
theorem jT {mask:List Bool} {ps qs:List (L3.D × Fl)} (h1:ps.length=mask.length) (h0:gE n (List.zipWith tK mask ps) = ρ) (h2:sa ρ=some (.ok (.rt d fl),ρ1)) (h3:eU ρ1 0 (List.zipWith tK mask ps)=some qs):fnM mask n sa ps=some (.ok (d,fl),qs):=by
 subst h0;simp only [fnM,h1,if_true,fn0,h2,h3,Bg]
theorem F_nx {mask:List Bool} {ps qs:List (L3.D × Fl)} (h1:ps.length=mask.length) (h0:gE n (List.zipWith tK mask ps) = ρ) (h2:sa ρ=some (.ok .nx,ρ1)) (h3:eU ρ1 0 (List.zipWith tK mask ps)=some qs):fnM mask n sa ps=some (.ok (.non,.z),qs):=by
 subst h0;simp only [fnM,h1,if_true,fn0,h2,h3,Bg]
theorem pw {i j:Int} (h:-18446744073709551616 < i/\i < 18446744073709551616):jZ (.int i) (.int j)=some (.int (i * j),.z):=by
 simp [jz,h]
theorem yA {i j:Int} (h:-18446744073709551616 < j/\j < 18446744073709551616):jZ (.int i) (.int j)=some (.int (i * j),.z):=by
 simp [jz,h]
theorem yI {im:IM} {bnd:L3.D->Sto->Option Sto} {o:Except L3.D Flw} (h1:im ρ=some (.ok (rs,ds),ρ1)) (hp:us ρ1 (pls rs)=[]) (h2:lr bnd sb ds ρ1=some (o,ρ2)):gw im bnd sb ρ=some (o,ρ2):=by
 have h4:∀ f ρ,bu f [] ρ = ρ:=fun _ _=>rfl
 simp only [gw,ak,h1,hp,h4,h2,Bg]
theorem vX {f:List L3.D->Option (List L3.D)} {xs:List L3.D} (h1:ms ρ=some (.ok rs,ρ1)) (h2:fv rs ρ1=some (.ok ds,ρ1)) (h3:f ds=some xs):bE f ms ρ=some (.ok ([],xs),ρ1):=vW h1 h2 h3
end
section
variable {α:Type} {P:List α->Prop} {us:List α}
theorem bnd0 (h:us.length=0) (f:P []):P us:=by
 cases us with
 | nil=>exact f
 | cons a us=>cases h
theorem AA {n:Nat} (h:us.length=n+1) (f:∀ a r,r.length=n->P (a :: r)):P us:=by
 cases us with
 | nil=>cases h
 | cons a us=>exact f a us (Nat.succ.inj h)
theorem bnd1 (h:us.length=1) (f:∀ a,P [a]):P us:=AA h fun a _ h=>bnd0 (P:=fun r=>P (a :: r)) h (f a)
theorem bnd2 (h:us.length=2) (f:∀ a b,P [a,b]):P us:=AA h fun a _ h=>bnd1 (P:=fun r=>P (a :: r)) h (f a)
theorem bnd3 (h:us.length=3) (f:∀ a b c,P [a,b,c]):P us:=AA h fun a _ h=>bnd2 (P:=fun r=>P (a :: r)) h (f a)
end
theorem hb1 {x:Str} {st:Stmt} {p0:Str} (f:∀ (kV doc pm:Value) (an:Option Addr) (cdv ct a0:Value),bindArgs (PySem.W.fnOf x x (bf st) (aN st) (aj st) .none kV doc pm an cdv ct) ⟨[a0],[]⟩=pure ([p0].zip [a0])) (kV doc pm:Value) (an:Option Addr) (cdv ct:Value) (us:List Value) (hl:us.length=[p0].length):bindArgs (PySem.W.fnOf x x (bf st) (aN st) (aj st) .none kV doc pm an cdv ct) ⟨us,[]⟩=pure ([p0].zip us) :=
 bnd1 (P:=fun us=>bindArgs (PySem.W.fnOf x x (bf st) (aN st) (aj st) .none kV doc pm an cdv ct) ⟨us,[]⟩=pure ([p0].zip us)) hl (f kV doc pm an cdv ct)
theorem hb2 {x:Str} {st:Stmt} {p0 p1:Str} (f:∀ (kV doc pm:Value) (an:Option Addr) (cdv ct a0 a1:Value),bindArgs (PySem.W.fnOf x x (bf st) (aN st) (aj st) .none kV doc pm an cdv ct) ⟨[a0,a1],[]⟩=pure ([p0,p1].zip [a0,a1])) (kV doc pm:Value) (an:Option Addr) (cdv ct:Value) (us:List Value) (hl:us.length=[p0,p1].length):bindArgs (PySem.W.fnOf x x (bf st) (aN st) (aj st) .none kV doc pm an cdv ct) ⟨us,[]⟩=pure ([p0,p1].zip us) :=
 bnd2 (P:=fun us=>bindArgs (PySem.W.fnOf x x (bf st) (aN st) (aj st) .none kV doc pm an cdv ct) ⟨us,[]⟩=pure ([p0,p1].zip us)) hl (f kV doc pm an cdv ct)
theorem hb3 {x:Str} {st:Stmt} {p0 p1 p2:Str} (f:∀ (kV doc pm:Value) (an:Option Addr) (cdv ct a0 a1 a2:Value),bindArgs (PySem.W.fnOf x x (bf st) (aN st) (aj st) .none kV doc pm an cdv ct) ⟨[a0,a1,a2],[]⟩=pure ([p0,p1,p2].zip [a0,a1,a2])) (kV doc pm:Value) (an:Option Addr) (cdv ct:Value) (us:List Value) (hl:us.length=[p0,p1,p2].length):bindArgs (PySem.W.fnOf x x (bf st) (aN st) (aj st) .none kV doc pm an cdv ct) ⟨us,[]⟩=pure ([p0,p1,p2].zip us) :=
 bnd3 (P:=fun us=>bindArgs (PySem.W.fnOf x x (bf st) (aN st) (aj st) .none kV doc pm an cdv ct) ⟨us,[]⟩=pure ([p0,p1,p2].zip us)) hl (f kV doc pm an cdv ct)
end Bn
end
section
namespace Bn
open PySem L2 L3
local macro_rules | `(tactic| infer_instance)=>`(tactic| first | with_reducible apply yH | with_reducible exact i_c | with_reducible apply i_bin | with_reducible apply i_un | with_reducible apply xW | with_reducible exact i_nil | with_reducible apply Aq | with_reducible apply Ap | with_reducible apply i_set | with_reducible apply i_asg | with_reducible apply qX | with_reducible apply rY | with_reducible exact i_nilS | with_reducible apply i_cB | with_reducible apply i_cNot | with_reducible apply i_mNot | with_reducible apply i_sl | with_reducible exact i_pNone | with_reducible apply i_pSome | with_reducible apply i_mut | with_reducible apply i_sub | with_reducible apply i_imSeq | with_reducible apply vX | with_reducible apply i_mAndT | with_reducible apply vY)
local macro_rules | `(tactic| eq_refl)=>`(tactic| first | exact rfl | exact Nat.le_of_ble_eq_true rfl)
section
variable {X:Cx} {G0:Gm} {W0:L3.D->Sto->Prop} {pos:Pos}
theorem rvl (i:Nat) {x:Str} (hN:X.N[i]?=some x:=by exact rfl) (hv:Vis X.env.scope x:=by exact Or.inl rfl) (hd:(x == ("__debug__":Str))=false:=by decide) (hc:(x == ("__classdict__":Str))=false:=by decide):RE X G0 W0 (.Name x pos) (ag i):=vd i hN hv hd hc
theorem rvc (i:Nat) {x:Str} (hN:X.N[i]?=some x:=by exact rfl) (hv:Vis X.env.scope x:=by exact Or.inr (Or.inl rfl)) (hd:(x == ("__debug__":Str))=false:=by decide) (hc:(x == ("__classdict__":Str))=false:=by decide):RE X G0 W0 (.Name x pos) (ag i):=vd i hN hv hd hc
end
section
variable {P:Program} {w:World} {K:FG} {mg:Str->Option Value} {base:Heap}
noncomputable def qH:SM:=(bb 1 (l6 (mUn (qS "int") (ag 0)) (Ah (mUn (qS "bool") (ag 0)))))
noncomputable def bR:Fn:=fnM [false] 1 qH
theorem oR:FnScope ["thing"] ["thing"] (aj fc):=⟨rfl,rfl,rfl,by decide +kernel,rfl,by decide +kernel,by decide +kernel⟩
theorem n9 (B:Bl mg) (D:Def K mg "is_whole" fc):aU P w K mg base "is_whole" 1 ["thing"] bR :=
 bD (k:=0) D oR rfl rfl (hb1 fun _ _ _ _ _ _ _=>rfl) fun cdv A outer s H E f G hr hp =>
  (am (aD 1 (fun i hi=>by rw [hp];exact av (by simpa using hi)) (fV (i6 nW rfl B.isinstance (fi (v:=V.ty "int") rfl B.int b_int rfl (by decide) (by decide)) (rvl 0) rfl rfl rfl) (gM (zB (i6 md rfl B.isinstance (fi (v:=V.ty "bool") rfl B.bool AD rfl (by decide) (by decide)) (rvl 0) rfl rfl rfl))))))
noncomputable def qJ:SM:=(bb 1 (l6 (mUn (qS "tuple") (ag 0)) (l6 (ao eqX (aG fL (ac (ag 0) ai)) (mC (.int 2))) (l6 (au bR (ac (ao a9 (ag 0) (mC (.int 0))) ai)) (au bR (ac (ao a9 (ag 0) (mC (.int 1))) ai))))))
noncomputable def hX:Fn:=fnM [false] 1 qJ
theorem oU:FnScope ["thing"] ["thing"] (aj ff):=⟨rfl,rfl,rfl,by decide +kernel,rfl,by decide +kernel,by decide +kernel⟩
theorem oh (B:Bl mg) (D:Def K mg "is_point" ff) (C_is_whole:aU P w K mg base "is_whole" 1 ["thing"] bR):aU P w K mg base "is_point" 2 ["thing"] hX :=
 bD (k:=1) D oU rfl rfl (hb1 fun _ _ _ _ _ _ _=>rfl) fun cdv A outer s H E f G hr hp =>
  (am (aD 1 (fun i hi=>by rw [hp];exact av (by simpa using hi)) (fV (i6 cS rfl B.isinstance (fi (v:=V.ty "tuple") rfl B.tuple eh rfl (by decide) (by decide)) (rvl 0) rfl rfl rfl) (fV (eC (bX hr.units) bY (aF aH ce rfl B.len dn (aa (rvl 0) ad rfl) (by decide) (by decide) rfl rfl) af (aQ _)) (fV (aq C_is_whole (hr.mono (by decide)) (aa (aI (aC hr.hu) aB (rvl 0) af (fun _ _=>rfl)) ad rfl) rfl (by decide) rfl rfl) (gM (aq C_is_whole (hr.mono (by decide)) (aa (aI (aC hr.hu) aB (rvl 0) af (fun _ _=>rfl)) ad rfl) rfl (by decide) rfl rfl)))))))
noncomputable def qK:SM:=(bb 2 (l6 (au bR (ac (ag 0) ai)) (ju leI ltI (mC (.int 0)) (ag 0) (ag 1))))
noncomputable def h8:Fn:=fnM [false,false] 2 qK
theorem oV:FnScope ["thing","many"] ["thing","many"] (aj fg):=⟨rfl,rfl,rfl,by decide +kernel,rfl,by decide +kernel,by decide +kernel⟩
theorem oi (B:Bl mg) (D:Def K mg "is_place" fg) (C_is_whole:aU P w K mg base "is_whole" 1 ["thing"] bR):aU P w K mg base "is_place" 2 ["thing","many"] h8 :=
 bD (k:=1) D oV rfl rfl (hb2 fun _ _ _ _ _ _ _ _=>rfl) fun cdv A outer s H E f G hr hp =>
  (am (aD 2 (fun i hi=>by rw [hp];exact av (by simpa using hi)) (fV (aq C_is_whole (hr.mono (by decide)) (aa (rvl 0) ad rfl) rfl (by decide) rfl rfl) (gM (o6 iB mB k9 mz af (rvl 0) (rvl 1) (fun h1 h2 h3=>pi iB k9 h1 h2 h3))))))
noncomputable def ft:EM:=(au h8 (ac (ag 0) (ac (ag 1) ai)))
noncomputable def fo:EM:=(bS (dR (ag 0)) (aW 0) fy ft [none,some 1])
noncomputable def fq:EM:=(ao ltI (ao a9 (ag 1) (ag 0)) (ao a9 (ag 1) (ao cy (ag 0) (mC (.int 1)))))
noncomputable def fm:EM:=(bS (bE eR (ac (ao iZ (aG fL (ac (ag 0) ai)) (mC (.int 1))) ai)) (aW 0) fy fq [none,some 0])
noncomputable def gx:SM:=(aJ (sIf (cOr (gY (cB (mUn (qS "tuple") (ag 0)))) (gY (cB (aG om (ac fo ai))))) (bb 2 (mC (.bl false))) di) (bb 2 (aG om (ac fm ai))))
noncomputable def cr:Fn:=fnM [false,false] 2 gx
theorem fQ:FnScope ["thing","many"] ["thing","many"] (aj bT):=⟨rfl,rfl,rfl,by decide +kernel,rfl,by decide +kernel,by decide +kernel⟩
theorem fM (B:Bl mg) (D:Def K mg "are_rising_places" bT) (C_is_place:aU P w K mg base "is_place" 2 ["thing","many"] h8):aU P w K mg base "are_rising_places" 3 ["thing","many"] cr :=
 bD (k:=2) D fQ rfl rfl (hb2 fun _ _ _ _ _ _ _ _=>rfl) fun cdv A outer s H E f G hr hp =>
  (al (b6 (m8 (jK (cW (cN (i6 cS rfl B.isinstance (fi (v:=V.ty "tuple") rfl B.tuple eh rfl (by decide) (by decide)) (rvc 0) rfl rfl rfl) (fun _=>rfl))) (fT (cW (cN (aF (dm rfl) ge rfl B.all jS (aa (bo ["place","many"] [none,some 1] rfl (cX (rvc 0)) (fun s H C fp=>bz) (fun s H C fp=>(aq C_is_place (hr.mono (by decide)) (aa (rvl 0) (aa (rvc 1) ad rfl) rfl) rfl (by decide) rfl rfl)) (by rfl) (bC (by decide)) (fun _=>rfl) ⟨_,aP rfl,fun s H C fp=>aX (i:=0) (show (["place","many"]:List Str).Nodup by decide +kernel) rfl (Or.inl rfl) (Or.inr rfl)⟩) ad rfl) (by decide) (by decide) rfl rfl) (fun _=>rfl)))))) (am (aD 2 (fun i hi=>by rw [hp];exact av (by simpa using hi)) dA)) bA) (am (aD 2 (fun i hi=>by rw [hp];exact av (by simpa using hi)) (aF (dm rfl) ge rfl B.all jS (aa (bo ["at","thing"] [none,some 0] rfl (cA rfl B.range (aa (ay dN cO (aF aH ce rfl B.len dn (aa (rvc 0) ad rfl) (by decide) (by decide) rfl rfl) af) ad rfl) rfl) (fun s H C fp=>bz) (fun s H C fp=>(eC k9 mz (aI (aC hr.hu) aB (rvc 1) (rvl 0) (fun _ _=>rfl)) (aI (aC hr.hu) aB (rvc 1) (ay aS bj (rvl 0) af) (fun _ _=>rfl)) (aQ _))) (by rfl) (bC (by decide)) (fun _=>rfl) ⟨_,aP rfl,fun s H C fp=>aX (i:=0) (show (["at","thing"]:List Str).Nodup by decide +kernel) rfl (Or.inl rfl) (Or.inr rfl)⟩) ad rfl) (by decide) (by decide) rfl rfl))))
noncomputable def jm:SM:=(sIf (cOr (gY (cB (au bR (ac (ag 0) ai)))) (gY (cB (ju leI leI (ag 1) (ag 0) (ag 2))))) (kR "NoNumber" (ac (mC (.str "this is no whole number of those asked for")) ai)) di)
noncomputable def bx:Fn:=fnM [false,false,false] 3 jm
theorem jX:FnScope ["thing","least","most"] ["thing","least","most"] (aj cL):=⟨rfl,rfl,rfl,by decide +kernel,rfl,by decide +kernel,by decide +kernel⟩
theorem gX (B:Bl mg) (D:Def K mg "check_number" cL) (C_is_whole:aU P w K mg base "is_whole" 1 ["thing"] bR) {c_NoNumber:Addr} (V_NoNumber:XName K "NoNumber" c_NoNumber) (U_NoNumber:ECls K mg "NoNumber" c_NoNumber):cU P w K mg base "check_number" 2 ["thing","least","most"] bx :=
 cR (k:=1) D jX rfl rfl (hb3 fun _ _ _ _ _ _ _ _ _=>rfl) fun cdv A outer s H E f G W hr hp pa mk =>
  (am (b6 (m8 (jK (cW (cN (aq C_is_whole (hr.mono (by decide)) (aa (rvl 0) ad rfl) rfl (by decide) rfl rfl) (fun _=>rfl))) (fT (cW (u6 iB mB iB mB (rvl 1) (rvl 0) (rvl 2) (by with_unfolding_all rfl)))))) (am (kS V_NoNumber U_NoNumber mk rfl rfl (by decide) (aa gL ad rfl) rfl)) bA))
noncomputable def kc:EM:=(au hX (ac (ag 0) ai))
noncomputable def kb:EM:=(bS (dR (ag 0)) (aW 0) fy kc [none])
noncomputable def nF:SM:=(bb 1 (l6 (ju leI leI (mC (.int 1)) (aG fL (ac (ag 0) ai)) (mC (.int (24)))) (aG om (ac kb ai))))
noncomputable def fF:Fn:=fnM [false] 1 nF
theorem lP:FnScope ["things"] ["things"] (aj dD):=⟨rfl,rfl,rfl,by decide +kernel,rfl,by decide +kernel,by decide +kernel⟩
theorem lF (B:Bl mg) (D:Def K mg "are_points" dD) (C_is_point:aU P w K mg base "is_point" 2 ["thing"] hX) {tk_MOST_POINTS:Tok} (Q_MOST_POINTS:mg "MOST_POINTS"=some (.int (24) tk_MOST_POINTS)):aU P w K mg base "are_points" 3 ["things"] fF :=
 bD (k:=2) D lP rfl rfl (hb1 fun _ _ _ _ _ _ _=>rfl) fun cdv A outer s H E f G hr hp =>
  (am (aD 1 (fun i hi=>by rw [hp];exact av (by simpa using hi)) (fV (o6 iB mB iB mB af (aF aH ce rfl B.len dn (aa (rvl 0) ad rfl) (by decide) (by decide) rfl rfl) (bN rfl Q_MOST_POINTS (by decide)) (fun h1 h2 h3=>pi iB iB h1 h2 h3)) (gM (aF (dm rfl) ge rfl B.all jS (aa (bo ["thing"] [none] rfl (cX (rvl 0)) (fun s H C fp=>bz) (fun s H C fp=>(aq C_is_point (hr.mono (by decide)) (aa (rvl 0) ad rfl) rfl (by decide) rfl rfl)) (by rfl) (bC (by decide)) (fun _=>rfl) ⟨_,aP rfl,fun s H C fp=>aX (i:=0) (show (["thing"]:List Str).Nodup by decide +kernel) rfl (Or.inl rfl) (Or.inr rfl)⟩) ad rfl) (by decide) (by decide) rfl rfl)))))
noncomputable def iL:EM:=(ao ltI (ao a9 (ao a9 (ag 1) (ag 0)) (mC (.int 0))) (ao a9 (ao a9 (ag 1) (ao cy (ag 0) (mC (.int 1)))) (mC (.int 0))))
noncomputable def iK:EM:=(bS (bE eR (ac (ao iZ (aG fL (ac (ag 0) ai)) (mC (.int 1))) ai)) (aW 0) fy iL [none,some 0])
noncomputable def li:SM:=(bb 1 (aG om (ac iK ai)))
noncomputable def dX:Fn:=fnM [false] 1 li
theorem jV:FnScope ["points"] ["points"] (aj cJ):=⟨rfl,rfl,rfl,by decide +kernel,rfl,by decide +kernel,by decide +kernel⟩
theorem jE (B:Bl mg) (D:Def K mg "has_rising_x" cJ):aU P w K mg base "has_rising_x" 1 ["points"] dX :=
 bD (k:=0) D jV rfl rfl (hb1 fun _ _ _ _ _ _ _=>rfl) fun cdv A outer s H E f G hr hp =>
  (am (aD 1 (fun i hi=>by rw [hp];exact av (by simpa using hi)) (aF (dm rfl) ge rfl B.all jS (aa (bo ["at","points"] [none,some 0] rfl (cA rfl B.range (aa (ay dN cO (aF aH ce rfl B.len dn (aa (rvc 0) ad rfl) (by decide) (by decide) rfl rfl) af) ad rfl) rfl) (fun s H C fp=>bz) (fun s H C fp=>(eC k9 mz (aI (aC hr.hu) aB (aI (aC hr.hu) aB (rvc 1) (rvl 0) (fun _ _=>rfl)) af (fun _ _=>rfl)) (aI (aC hr.hu) aB (aI (aC hr.hu) aB (rvc 1) (ay aS bj (rvl 0) af) (fun _ _=>rfl)) af (fun _ _=>rfl)) (aQ _))) (by rfl) (bC (by decide)) (fun _=>rfl) ⟨_,aP rfl,fun s H C fp=>aX (i:=0) (show (["at","points"]:List Str).Nodup by decide +kernel) rfl (Or.inl rfl) (Or.inr rfl)⟩) ad rfl) (by decide) (by decide) rfl rfl)))
noncomputable def Ag:SM:=(aJ (bK 3 (ao jZ (ao iZ (ao a9 (ag 1) (mC (.int 0))) (ao a9 (ag 0) (mC (.int 0)))) (ao iZ (ao a9 (ag 2) (mC (.int 1))) (ao a9 (ag 0) (mC (.int 1)))))) (bb 3 (ao iZ (ag 3) (ao jZ (ao iZ (ao a9 (ag 1) (mC (.int 1))) (ao a9 (ag 0) (mC (.int 1)))) (ao iZ (ao a9 (ag 2) (mC (.int 0))) (ao a9 (ag 0) (mC (.int 0))))))))
noncomputable def lJ:Fn:=fnM [false,false,false] 4 Ag
theorem sc_bend:FnScope ["first","second","third","run"] ["first","second","third"] (aj m5):=⟨rfl,rfl,rfl,by decide +kernel,rfl,by decide +kernel,by decide +kernel⟩
theorem wq (B:Bl mg) (D:Def K mg "bend" m5):aU P w K mg base "bend" 1 ["first","second","third"] lJ :=
 bD (k:=0) D sc_bend rfl rfl (hb3 fun _ _ _ _ _ _ _ _ _=>rfl) fun cdv A outer s H E f G hr hp =>
  (al (aO 3 sc_bend.nd rfl (Or.inl rfl) (ay fj dE (ay dN cO (aI (aC hr.hu) aB (rvl 1) af (fun _ _=>rfl)) (aI (aC hr.hu) aB (rvl 0) af (fun _ _=>rfl))) (ay dN cO (aI (aC hr.hu) aB (rvl 2) af (fun _ _=>rfl)) (aI (aC hr.hu) aB (rvl 0) af (fun _ _=>rfl)))) rfl (Or.inl rfl) (by rw [hp];rfl)) (am (aD 3 (fun i hi=>by rw [hp];exact av (by simpa using hi)) (ay dN cO (rvl 3) (ay fj dE (ay dN cO (aI (aC hr.hu) aB (rvl 1) af (fun _ _=>rfl)) (aI (aC hr.hu) aB (rvl 0) af (fun _ _=>rfl))) (ay dN cO (aI (aC hr.hu) aB (rvl 2) af (fun _ _=>rfl)) (aI (aC hr.hu) aB (rvl 0) af (fun _ _=>rfl))))))))
noncomputable def pF:EM:=(aL (ac (ag 1) (ac (ag 2) (ac (ag 0) ai))))
noncomputable def pE:EM:=(bS (bE lR (ac (ao cy (ag 3) (mC (.int 1))) (ac (ag 0) ai))) (aW 0) fy pF [none,some 2,some 3])
noncomputable def pH:SM:=(cq (vJ isL wa 1 (ac pE ai)))
noncomputable def pG:SM:=(gw (bE lR (ac (ao cy (ag 2) (mC (.int 1))) (ac (ag 0) ai))) (aW 3) pH)
noncomputable def vE:SM:=(aJ (bK 1 (aT ai)) (aJ (gw (bE eR (ac (ag 0) ai)) (aW 2) pG) (bb 1 (ag 1))))
noncomputable def bH:Fn:=fnM [false] 4 vE
theorem sc_threes:FnScope ["many","found","i","j"] ["many"] (aj ip):=⟨rfl,rfl,rfl,by decide +kernel,rfl,by decide +kernel,by decide +kernel⟩
theorem rh (B:Bl mg) (D:Def K mg "threes" ip):aU P w K mg base "threes" 1 ["many"] bH :=
 bD (k:=0) D sc_threes rfl rfl (hb1 fun _ _ _ _ _ _ _=>rfl) fun cdv A outer s H E f G hr hp =>
  (al (aO 1 sc_threes.nd rfl (Or.inl rfl) (aK ad) rfl (Or.inl rfl) (by rw [hp];rfl)) (al (dL PassesOwn.never rfl (cA rfl B.range (aa (rvl 0) ad rfl) rfl) (cj 2 sc_threes.nd rfl (Or.inr rfl) (Or.inl rfl) (by rw [hp];rfl)) (am (dL PassesOwn.never rfl (gk rfl B.range (aa (ay aS bj (rvc 2) af) (aa (rvl 0) ad rfl) rfl) rfl rfl) (cj 3 sc_threes.nd rfl (Or.inr rfl) (Or.inl rfl) (by rw [hp];rfl)) (am (bM (m9 (ok:=isL) PySem.F.plainAttrs_list PySem.F.slot_list_extend PySem.F.type_list_extend ja qC qT (gN (i:=1) rfl (Or.inl rfl) (by decide) (by decide)) (aa (bo ["k","i","j"] [none,some 2,some 3] rfl (gk rfl B.range (aa (ay aS bj (rvc 3) af) (aa (rvl 0) ad rfl) rfl) rfl rfl) (fun s H C fp=>bz) (fun s H C fp=>(aA (aa (rvc 1) (aa (rvc 2) (aa (rvl 0) ad rfl) rfl) rfl))) (by rfl) (bC (by decide)) (fun _=>rfl) ⟨_,aP rfl,fun s H C fp=>aX (i:=0) (show (["k","i","j"]:List Str).Nodup by decide +kernel) rfl (Or.inl rfl) (Or.inr rfl)⟩) ad rfl) rfl rfl rfl rfl rfl) rfl)) (fun _=>rfl))) (fun _=>rfl)) (am (aD 1 (fun i hi=>by rw [hp];exact av (by simpa using hi)) (rvl 1)))))
noncomputable def qM:EM:=(ao cy (ag 1) (aL (ac (ag 0) ai)))
noncomputable def qL:EM:=(bS (bE lR (ac (ao cy (ao a9 (ag 2) (mC (.int 2))) (mC (.int 1))) (ac (ag 0) ai))) (aW 0) fy qM [none,some 2])
noncomputable def qN:SM:=(cq (vJ isL wa 1 (ac qL ai)))
noncomputable def xP:SM:=(aJ (bK 1 (aT ai)) (aJ (gw (dR (au bH (ac (ag 0) ai))) (aW 2) qN) (bb 1 (ag 1))))
noncomputable def oA:Fn:=fnM [false] 3 xP
theorem sc_fours:FnScope ["many","found","three"] ["many"] (aj ku):=⟨rfl,rfl,rfl,by decide +kernel,rfl,by decide +kernel,by decide +kernel⟩
theorem uA (B:Bl mg) (D:Def K mg "fours" ku) (C_threes:aU P w K mg base "threes" 1 ["many"] bH):aU P w K mg base "fours" 2 ["many"] oA :=
 bD (k:=1) D sc_fours rfl rfl (hb1 fun _ _ _ _ _ _ _=>rfl) fun cdv A outer s H E f G hr hp =>
  (al (aO 1 sc_fours.nd rfl (Or.inl rfl) (aK ad) rfl (Or.inl rfl) (by rw [hp];rfl)) (al (dL PassesOwn.never rfl (cX (aq C_threes (hr.mono (by decide)) (aa (rvl 0) ad rfl) rfl (by decide) rfl rfl)) (cj 2 sc_fours.nd rfl (Or.inr rfl) (Or.inl rfl) (by rw [hp];rfl)) (am (bM (m9 (ok:=isL) PySem.F.plainAttrs_list PySem.F.slot_list_extend PySem.F.type_list_extend ja qC qT (gN (i:=1) rfl (Or.inl rfl) (by decide) (by decide)) (aa (bo ["last","three"] [none,some 2] rfl (gk rfl B.range (aa (ay aS bj (aI (aC hr.hu) aB (rvc 2) af (fun _ _=>rfl)) af) (aa (rvl 0) ad rfl) rfl) rfl rfl) (fun s H C fp=>bz) (fun s H C fp=>(ay aS bj (rvc 1) (aA (aa (rvl 0) ad rfl)))) (by rfl) (bC (by decide)) (fun _=>rfl) ⟨_,aP rfl,fun s H C fp=>aX (i:=0) (show (["last","three"]:List Str).Nodup by decide +kernel) rfl (Or.inl rfl) (Or.inr rfl)⟩) ad rfl) rfl rfl rfl rfl rfl) rfl)) (fun _=>rfl)) (am (aD 1 (fun i hi=>by rw [hp];exact av (by simpa using hi)) (rvl 1)))))
noncomputable def gR:EM:=(ao a9 (ag 1) (ag 0))
noncomputable def gQ:EM:=(bS (dR (ag 1)) (aW 0) fy gR [none,some 0])
noncomputable def gS:SM:=(aJ (bK 2 (aG sJ (ac gQ ai))) (sIf (cB (ao eqX (au lJ (ac (ao a9 (ag 2) (mC (.int 0))) (ac (ao a9 (ag 2) (mC (.int 1))) (ac (ao a9 (ag 2) (mC (.int 2))) ai)))) (mC (.int 0)))) (bb 1 (ag 2)) di))
noncomputable def j7:SM:=(aJ (gw (dR (au bH (ac (aG fL (ac (ag 0) ai)) ai))) (aW 1) gS) (bb 1 (mC .non)))
noncomputable def dw:Fn:=fnM [false] 3 j7
theorem sc_first_on_line:FnScope ["points","three","found"] ["points"] (aj cz):=⟨rfl,rfl,rfl,by decide +kernel,rfl,by decide +kernel,by decide +kernel⟩
theorem iV (B:Bl mg) (D:Def K mg "first_on_line" cz) (C_bend:aU P w K mg base "bend" 1 ["first","second","third"] lJ) (C_threes:aU P w K mg base "threes" 1 ["many"] bH):aU P w K mg base "first_on_line" 2 ["points"] dw :=
 bD (k:=1) D sc_first_on_line rfl rfl (hb1 fun _ _ _ _ _ _ _=>rfl) fun cdv A outer s H E f G hr hp =>
  (al (dL PassesOwn.never rfl (cX (aq C_threes (hr.mono (by decide)) (aa (aF aH ce rfl B.len dn (aa (rvc 0) ad rfl) (by decide) (by decide) rfl rfl) ad rfl) rfl (by decide) rfl rfl)) (cj 1 sc_first_on_line.nd rfl (Or.inl rfl) (Or.inl rfl) (by rw [hp];rfl)) (al (aO 2 sc_first_on_line.nd rfl (Or.inl rfl) (gl dg nV rfl B.tuple eh (aa (bo ["place","points"] [none,some 0] rfl (cX (rvl 1)) (fun s H C fp=>bz) (fun s H C fp=>(aI (aC hr.hu) aB (rvc 1) (rvl 0) (fun _ _=>rfl))) (by rfl) (bC (by decide)) (fun _=>rfl) ⟨_,aP rfl,fun s H C fp=>aX (i:=0) (show (["place","points"]:List Str).Nodup by decide +kernel) rfl (Or.inl rfl) (Or.inr rfl)⟩) ad rfl) (by decide) (by decide) rfl rfl) rfl (Or.inl rfl) (by rw [hp];rfl)) (am (b6 (bq (bX hr.units) bY (aq C_bend (hr.mono (by decide)) (aa (aI (aC hr.hu) aB (rvl 2) af (fun _ _=>rfl)) (aa (aI (aC hr.hu) aB (rvl 2) af (fun _ _=>rfl)) (aa (aI (aC hr.hu) aB (rvl 2) af (fun _ _=>rfl)) ad rfl) rfl) rfl) rfl (by decide) rfl rfl) af (aQ _)) (am (aD 1 (fun i hi=>by rw [hp];exact av (by simpa using hi)) (rvl 2))) bA))) (fun _=>rfl)) (am (aD 1 (fun i hi=>by rw [hp];exact av (by simpa using hi)) fU)))
noncomputable def qI:SM:=(aJ (sIf (cOr (gY (cB (mUn (qS "tuple") (ag 0)))) (gY (cB (au fF (ac (ag 0) ai))))) (bb 1 (mC (.bl false))) di) (bb 1 (l6 (au dX (ac (ag 0) ai)) (ao isN (au dw (ac (ag 0) ai)) (mC .non)))))
noncomputable def hU:Fn:=fnM [false] 1 qI
theorem oS:FnScope ["thing"] ["thing"] (aj fe):=⟨rfl,rfl,rfl,by decide +kernel,rfl,by decide +kernel,by decide +kernel⟩
theorem og (B:Bl mg) (D:Def K mg "is_sheet" fe) (C_are_points:aU P w K mg base "are_points" 3 ["things"] fF) (C_first_on_line:aU P w K mg base "first_on_line" 2 ["points"] dw) (C_has_rising_x:aU P w K mg base "has_rising_x" 1 ["points"] dX):aU P w K mg base "is_sheet" 4 ["thing"] hU :=
 bD (k:=3) D oS rfl rfl (hb1 fun _ _ _ _ _ _ _=>rfl) fun cdv A outer s H E f G hr hp =>
  (al (b6 (m8 (jK (cW (cN (i6 cS rfl B.isinstance (fi (v:=V.ty "tuple") rfl B.tuple eh rfl (by decide) (by decide)) (rvl 0) rfl rfl rfl) (fun _=>rfl))) (fT (cW (cN (aq C_are_points (hr.mono (by decide)) (aa (rvl 0) ad rfl) rfl (by decide) rfl rfl) (fun _=>rfl)))))) (am (aD 1 (fun i hi=>by rw [hp];exact av (by simpa using hi)) dA)) bA) (am (aD 1 (fun i hi=>by rw [hp];exact av (by simpa using hi)) (fV (aq C_has_rising_x (hr.mono (by decide)) (aa (rvl 0) ad rfl) rfl (by decide) rfl rfl) (gM (eC z9 Ac (aq C_first_on_line (hr.mono (by decide)) (aa (rvl 0) ad rfl) rfl (by decide) rfl rfl) fU (aQ _)))))))
noncomputable def j9:SM:=(sIf (gY (cB (au hU (ac (ag 0) ai)))) (kR "NoSheet" (ac (mC (.str "this is no sheet")) ai)) di)
noncomputable def dy:Fn:=fnM [false] 1 j9
theorem kO:FnScope ["thing"] ["thing"] (aj df):=⟨rfl,rfl,rfl,by decide +kernel,rfl,by decide +kernel,by decide +kernel⟩
theorem iX (B:Bl mg) (D:Def K mg "check_sheet" df) (C_is_sheet:aU P w K mg base "is_sheet" 4 ["thing"] hU) {c_NoSheet:Addr} (V_NoSheet:XName K "NoSheet" c_NoSheet) (U_NoSheet:ECls K mg "NoSheet" c_NoSheet):cU P w K mg base "check_sheet" 5 ["thing"] dy :=
 cR (k:=4) D kO rfl rfl (hb1 fun _ _ _ _ _ _ _=>rfl) fun cdv A outer s H E f G W hr hp pa mk =>
  (am (b6 (cW (cN (aq C_is_sheet (hr.mono (by decide)) (aa (rvl 0) ad rfl) rfl (by decide) rfl rfl) (fun _=>rfl))) (am (kS V_NoSheet U_NoSheet mk rfl rfl (by decide) (aa gL ad rfl) rfl)) bA))
noncomputable def tG:SM:=(bb 2 (mIf (cB (ao gtI (au lJ (ac (ao a9 (ag 0) (ao a9 (ag 1) (mC (.int 0)))) (ac (ao a9 (ag 0) (ao a9 (ag 1) (mC (.int 1)))) (ac (ao a9 (ag 0) (ao a9 (ag 1) (mC (.int 2)))) ai)))) (mC (.int 0)))) (mC (.int 1)) (mUn i9 (mC (.int 1)))))
noncomputable def jH:Fn:=fnM [false,false] 2 tG
theorem qh:FnScope ["sheet","three"] ["sheet","three"] (aj gh):=⟨rfl,rfl,rfl,by decide +kernel,rfl,by decide +kernel,by decide +kernel⟩
theorem p7 (B:Bl mg) (D:Def K mg "turn_at" gh) (C_bend:aU P w K mg base "bend" 1 ["first","second","third"] lJ):aU P w K mg base "turn_at" 2 ["sheet","three"] jH :=
 bD (k:=1) D qh rfl rfl (hb2 fun _ _ _ _ _ _ _ _=>rfl) fun cdv A outer s H E f G hr hp =>
  (am (aD 2 (fun i hi=>by rw [hp];exact av (by simpa using hi)) (re_if (bq op_gt od_gt (aq C_bend (hr.mono (by decide)) (aa (aI (aC hr.hu) aB (rvl 0) (aI (aC hr.hu) aB (rvl 1) af (fun _ _=>rfl)) (fun _ _=>rfl)) (aa (aI (aC hr.hu) aB (rvl 0) (aI (aC hr.hu) aB (rvl 1) af (fun _ _=>rfl)) (fun _ _=>rfl)) (aa (aI (aC hr.hu) aB (rvl 0) (aI (aC hr.hu) aB (rvl 1) af (fun _ _=>rfl)) (fun _ _=>rfl)) ad rfl) rfl) rfl) rfl (by decide) rfl rfl) af (aQ _)) af (gB en et af))))
noncomputable def jn:SM:=(qm wY 1 (ag 2) (au jH (ac (ag 0) (ac (ag 2) ai))))
noncomputable def l0:SM:=(aJ (cq (cE dy (ac (ag 0) ai))) (aJ (bK 1 jt) (aJ (quiet (gw (dR (au bH (ac (aG fL (ac (ag 0) ai)) ai))) (aW 2) jn)) (bb 1 (ag 1)))))
noncomputable def eM:Fn:=fnM [false] 3 l0
theorem sc_all_turns:FnScope ["sheet","turns","three"] ["sheet"] (aj d6):=⟨rfl,rfl,rfl,by decide +kernel,rfl,by decide +kernel,by decide +kernel⟩
theorem kn (B:Bl mg) (D:Def K mg "all_turns" d6) (C_check_sheet_x:cU P w K mg base "check_sheet" 5 ["thing"] dy) (C_threes:aU P w K mg base "threes" 1 ["many"] bH) (C_turn_at:aU P w K mg base "turn_at" 2 ["sheet","three"] jH):cU P w K mg base "all_turns" 6 ["sheet"] eM :=
 cR (k:=5) D sc_all_turns rfl rfl (hb1 fun _ _ _ _ _ _ _=>rfl) fun cdv A outer s H E f G W hr hp pa mk =>
  (al (bM (bG C_check_sheet_x (hr.mono (by decide)) pa (aa (rvl 0) ad rfl) rfl (by decide) rfl rfl) rfl) (al (aO 1 sc_all_turns.nd rfl (Or.inl rfl) iy rfl (Or.inl rfl) (by rw [hp];rfl)) (al (oX (dL PassesOwn.never rfl (cX (aq C_threes (hr.mono (by decide)) (aa (aF aH ce rfl B.len dn (aa (rvl 0) ad rfl) (by decide) (by decide) rfl rfl) ad rfl) rfl (by decide) rfl rfl)) (cj 2 sc_all_turns.nd rfl (Or.inl rfl) (Or.inl rfl) (by rw [hp];rfl)) (am (qo (i:=1) (mY hr.hu) qB (gN rfl (Or.inl rfl) (by decide) (by decide)) (rvl 2) (aq C_turn_at (hr.mono (by decide)) (aa (rvl 0) (aa (rvl 2) ad rfl) rfl) rfl (by decide) rfl rfl) (fun _=>rfl) rfl rfl rfl)) (fun _=>rfl))) (am (aD 1 (fun i hi=>by rw [hp];exact av (by simpa using hi)) (rvl 1))))))
noncomputable def lg:EM:=(ao eqX (ao a9 (ag 2) (mSl slD (ag 3) (po (ag 0)) (po (ao cy (ag 0) (mC (.int 3)))))) (ag 1))
noncomputable def lf:EM:=(bS (bE eR (ac (ao iZ (aG fL (ac (ag 1) ai)) (mC (.int 2))) ai)) (aW 0) fy lg [none,some 2,some 0,some 1])
noncomputable def pI:SM:=(bb 3 (aG om (ac lf ai)))
noncomputable def gg:Fn:=fnM [false,false,false] 3 pI
theorem mZ:FnScope ["turns","row","way"] ["turns","row","way"] (aj dY):=⟨rfl,rfl,rfl,by decide +kernel,rfl,by decide +kernel,by decide +kernel⟩
theorem me (B:Bl mg) (D:Def K mg "row_bends" dY):aU P w K mg base "row_bends" 1 ["turns","row","way"] gg :=
 bD (k:=0) D mZ rfl rfl (hb3 fun _ _ _ _ _ _ _ _ _=>rfl) fun cdv A outer s H E f G hr hp =>
  (am (aD 3 (fun i hi=>by rw [hp];exact av (by simpa using hi)) (aF (dm rfl) ge rfl B.all jS (aa (bo ["at","way","turns","row"] [none,some 2,some 0,some 1] rfl (cA rfl B.range (aa (ay dN cO (aF aH ce rfl B.len dn (aa (rvc 1) ad rfl) (by decide) (by decide) rfl rfl) af) ad rfl) rfl) (fun s H C fp=>bz) (fun s H C fp=>(eC (bX hr.units) bY (aI (aC hr.hu) aB (rvc 2) (o4 (rvc 3) (ky (rvl 0)) (ky (ay aS bj (rvl 0) af))) (fun _ _=>rfl)) (rvc 1) (aQ _))) (by rfl) (bC (by decide)) (fun _=>rfl) ⟨_,aP rfl,fun s H C fp=>aX (i:=0) (show (["at","way","turns","row"]:List Str).Nodup by decide +kernel) rfl (Or.inl rfl) (Or.inr rfl)⟩) ad rfl) (by decide) (by decide) rfl rfl)))
noncomputable def iF:M3 Bool:=(cB (ao eqX (ao a9 (ag 4) (aL (ac (ag 5) (ac (ag 2) (ac (ag 0) ai))))) (ag 3)))
noncomputable def iE:EM:=(ao a9 (ag 1) (aL (ac (ag 2) (ac (ag 0) ai))))
noncomputable def iD:EM:=(bS (bE lR (ac (ao cy (ag 5) (mC (.int 1))) (ac (ag 1) ai))) (aW 0) iF iE [none,some 3,some 5,some 2,some 0,some 4])
noncomputable def iH:SM:=(qm wY 3 (aL (ac (ag 4) (ac (ag 5) ai))) (ao cy (mC (.int 1)) (ao maxD iD (mC (.int 1)))))
noncomputable def iG:SM:=(gw (bE lR (ac (ao cy (ag 4) (mC (.int 1))) (ac (ag 1) ai))) (aW 5) iH)
noncomputable def lh:SM:=(aJ (bK 3 jt) (aJ (gw (bE u9 (ac (ao iZ (ag 1) (mC (.int 2))) (ac (mUn i9 (mC (.int 1))) (ac (mUn i9 (mC (.int 1))) ai)))) (aW 4) iG) (bb 3 (ag 3))))
noncomputable def dW:Fn:=fnM [false,false,false] 6 lh
theorem sc_onward_table:FnScope ["turns","many","way","most","i","j"] ["turns","many","way"] (aj cI):=⟨rfl,rfl,rfl,by decide +kernel,rfl,by decide +kernel,by decide +kernel⟩
theorem jD (B:Bl mg) (D:Def K mg "onward_table" cI):aU P w K mg base "onward_table" 1 ["turns","many","way"] dW :=
 bD (k:=0) D sc_onward_table rfl rfl (hb3 fun _ _ _ _ _ _ _ _ _=>rfl) fun cdv A outer s H E f G hr hp =>
  (al (aO 3 sc_onward_table.nd rfl (Or.inr rfl) iy rfl (Or.inl rfl) (by rw [hp];rfl)) (al (dL PassesOwn.never rfl (xh rfl B.range (aa (ay dN cO (rvl 1) af) (aa (gB en et af) (aa (gB en et af) ad rfl) rfl) rfl) rfl rfl) (cj 4 sc_onward_table.nd rfl (Or.inr rfl) (Or.inl rfl) (by rw [hp];rfl)) (am (dL PassesOwn.never rfl (gk rfl B.range (aa (ay aS bj (rvc 4) af) (aa (rvl 1) ad rfl) rfl) rfl rfl) (cj 5 sc_onward_table.nd rfl (Or.inr rfl) (Or.inl rfl) (by rw [hp];rfl)) (am (qo (i:=3) (mY hr.hu) qB (gN rfl (Or.inr (Or.inl rfl)) (by decide) (by decide)) (aA (aa (rvc 4) (aa (rvc 5) ad rfl) rfl)) (ay aS bj af (zC (u5 rfl) xH rfl B.max ww (bo ["k","most","j","way","turns","i"] [none,some 3,some 5,some 2,some 0,some 4] rfl (gk rfl B.range (aa (ay aS bj (rvc 5) af) (aa (rvl 1) ad rfl) rfl) rfl rfl) (fun s H C fp=>(dM (bq (bX hr.units) bY (aI (aC hr.hu) aB (rvc 4) (aA (aa (rvc 5) (aa (rvc 2) (aa (rvl 0) ad rfl) rfl) rfl)) (fun _ _=>rfl)) (rvc 3) (aQ _)))) (fun s H C fp=>(aI (aC hr.hu) aB (rvc 1) (aA (aa (rvc 2) (aa (rvl 0) ad rfl) rfl)) (fun _ _=>rfl))) (by rfl) (bC (by decide)) (fun _=>rfl) ⟨_,aP rfl,fun s H C fp=>aX (i:=0) (show (["k","most","j","way","turns","i"]:List Str).Nodup by decide +kernel) rfl (Or.inl rfl) (Or.inr rfl)⟩) af (by decide) (by decide) rfl rfl rfl rfl rfl rfl)) (fun _=>rfl) rfl rfl rfl)) (fun _=>rfl))) (fun _=>rfl)) (am (aD 3 (fun i hi=>by rw [hp];exact av (by simpa using hi)) (rvc 3)))))
noncomputable def jj:M3 Bool:=(cB (ao eqX (ao a9 (ag 2) (ag 0)) (ag 1)))
noncomputable def jh:EM:=(ag 0)
noncomputable def jf:EM:=(bS (qW (ag 3)) (aW 0) jj jh [none,some 4,some 3])
noncomputable def ji:M3 Bool:=(Az (cB (ao eqX (ao a9 (ag 3) (aL (ac (ag 5) (ac (ag 6) (ac (ag 0) ai))))) (ag 1))) (cB (ao eqX (ao a9 (ag 4) (aL (ac (ag 6) (ac (ag 0) ai)))) (ag 2))))
noncomputable def jg:EM:=(ag 0)
noncomputable def je:EM:=(bS (bE lR (ac (ao cy (ag 7) (mC (.int 1))) (ac (ag 1) ai))) (aW 0) ji jg [none,some 2,some 8,some 0,some 3,some 6,some 7])
noncomputable def jd:M3 Bool:=(cB (ao ltI (aG fL (ac (ag 5) ai)) (ag 4)))
noncomputable def jl:SM:=(aJ (bK 6 (ao a9 (ag 5) (mUn i9 (mC (.int 2))))) (aJ (bK 7 (ao a9 (ag 5) (mUn i9 (mC (.int 1))))) (aJ (bK 8 (ao cy (ao iZ (ag 4) (aG fL (ac (ag 5) ai))) (mC (.int 1)))) (bK 5 (ao cy (ag 5) (aL (ac (aG yD (ac je ai)) ai)))))))
noncomputable def gD:SM:=(aJ (sIf (cB (ao eqX (ag 1) (mC (.int 1)))) (bb 3 (mC .non)) di) (aJ (bK 3 (au dW (ac (ag 0) (ac (ag 1) (ac (ag 2) ai))))) (aJ (bK 4 (aG rR (ac (ag 3) ai))) (aJ (bK 5 (aG yB (ac jf ai))) (aJ (gJ jd jl) (bb 3 (ag 5)))))))
noncomputable def dh:Fn:=fnM [false,false,false] 9 gD
theorem sc_longest_row:FnScope ["turns","many","way","onward","length","row","i","j","left"] ["turns","many","way"] (aj c9):=⟨rfl,rfl,rfl,by decide +kernel,rfl,by decide +kernel,by decide +kernel⟩
theorem ki (B:Bl mg) (D:Def K mg "longest_row" c9) (C_onward_table:aU P w K mg base "onward_table" 1 ["turns","many","way"] dW):aU P w K mg base "longest_row" 2 ["turns","many","way"] dh :=
 bD (k:=1) D sc_longest_row rfl rfl (hb3 fun _ _ _ _ _ _ _ _ _=>rfl) fun cdv A outer s H E f G hr hp =>
  (al (b6 (bq (bX hr.units) bY (rvl 1) af (aQ _)) (am (aD 3 (fun i hi=>by rw [hp];exact av (by simpa using hi)) fU)) bA) (al (aO 3 sc_longest_row.nd rfl (Or.inr rfl) (aq C_onward_table (hr.mono (by decide)) (aa (rvc 0) (aa (rvl 1) (aa (rvc 2) ad rfl) rfl) rfl) rfl (by decide) rfl rfl) rfl (Or.inl rfl) (by rw [hp];rfl)) (al (aO 4 sc_longest_row.nd rfl (Or.inr rfl) (xk rfl rfl B.max (rvc 3) rfl rfl rfl rfl) rfl (Or.inl rfl) (by rw [hp];rfl)) (al (aO 5 sc_longest_row.nd rfl (Or.inl rfl) (aF (um rfl hr.hu) x5 rfl B.min wv (aa (bo ["pair","length","onward"] [none,some 4,some 3] rfl (xi (rvc 3)) (fun s H C fp=>(dM (bq (bX hr.units) bY (aI (aC hr.hu) aB (rvc 2) (rvl 0) (fun _ _=>rfl)) (rvc 1) (aQ _)))) (fun s H C fp=>(rvl 0)) (by rfl) (bC (by decide)) (fun _=>rfl) ⟨_,aP rfl,fun s H C fp=>aX (i:=0) (show (["pair","length","onward"]:List Str).Nodup by decide +kernel) rfl (Or.inl rfl) (Or.inr rfl)⟩) ad rfl) (by decide) (by decide) rfl rfl) rfl (Or.inl rfl) (by rw [hp];rfl)) (al (u8 PassesOwn.never (bq k9 mz (aF aH ce rfl B.len dn (aa (rvl 5) ad rfl) (by decide) (by decide) rfl rfl) (rvc 4) (aQ _)) (al (aO 6 sc_longest_row.nd rfl (Or.inr rfl) (aI (aC hr.hu) aB (rvl 5) (gB en et af) (fun _ _=>rfl)) rfl (Or.inl rfl) (by rw [hp];rfl)) (al (aO 7 sc_longest_row.nd rfl (Or.inr rfl) (aI (aC hr.hu) aB (rvl 5) (gB en et af) (fun _ _=>rfl)) rfl (Or.inl rfl) (by rw [hp];rfl)) (al (aO 8 sc_longest_row.nd rfl (Or.inr rfl) (ay aS bj (ay dN cO (rvc 4) (aF aH ce rfl B.len dn (aa (rvl 5) ad rfl) (by decide) (by decide) rfl rfl)) af) rfl (Or.inl rfl) (by rw [hp];rfl)) (am (aO 5 sc_longest_row.nd rfl (Or.inl rfl) (ay aS bj (rvl 5) (aA (aa (aF (ut rfl) x9 rfl B.min wv (aa (bo ["k","way","left","turns","onward","i","j"] [none,some 2,some 8,some 0,some 3,some 6,some 7] rfl (gk rfl B.range (aa (ay aS bj (rvc 7) af) (aa (rvl 1) ad rfl) rfl) rfl rfl) (fun s H C fp=>(dM (m8 (zv (bq (bX hr.units) bY (aI (aC hr.hu) aB (rvc 3) (aA (aa (rvc 5) (aa (rvc 6) (aa (rvl 0) ad rfl) rfl) rfl)) (fun _ _=>rfl)) (rvc 1) (aQ _)) (xb (bq (bX hr.units) bY (aI (aC hr.hu) aB (rvc 4) (aA (aa (rvc 6) (aa (rvl 0) ad rfl) rfl)) (fun _ _=>rfl)) (rvc 2) (aQ _))))))) (fun s H C fp=>(rvl 0)) (by rfl) (bC (by decide)) (fun _=>rfl) ⟨_,aP rfl,fun s H C fp=>aX (i:=0) (show (["k","way","left","turns","onward","i","j"]:List Str).Nodup by decide +kernel) rfl (Or.inl rfl) (Or.inr rfl)⟩) ad rfl) (by decide) (by decide) rfl rfl) ad rfl))) rfl (Or.inl rfl) (by rw [hp];rfl))))))) (am (aD 3 (fun i hi=>by rw [hp];exact av (by simpa using hi)) (rvl 5))))))))
noncomputable def lV:M3 Bool:=(cB (ao eqX (ao a9 (ag 2) (aL (ac (ag 3) (ac (ag 0) (ac (ag 4) ai))))) (ag 1)))
noncomputable def lU:EM:=(ag 0)
noncomputable def lT:EM:=(bS (dR (mSl slD (ag 1) (po (mC (.int 1))) (po (mUn i9 (mC (.int 1)))))) (aW 0) lV lU [none,some 2,some 0,some 3,some 4])
noncomputable def qF:SM:=(aJ (bK 3 (ao a9 (ag 1) (mC (.int 0)))) (aJ (bK 4 (ao a9 (ag 1) (mUn i9 (mC (.int 1))))) (bb 3 (ao cy (ao cy (aL (ac (ag 3) ai)) (aG sJ (ac lT ai))) (aL (ac (ag 4) ai))))))
noncomputable def gZ:Fn:=fnM [false,false,false] 5 qF
theorem sc_side_row:FnScope ["turns","ring","way","first","last"] ["turns","ring","way"] (aj eZ):=⟨rfl,rfl,rfl,by decide +kernel,rfl,by decide +kernel,by decide +kernel⟩
theorem nY (B:Bl mg) (D:Def K mg "side_row" eZ):aU P w K mg base "side_row" 1 ["turns","ring","way"] gZ :=
 bD (k:=0) D sc_side_row rfl rfl (hb3 fun _ _ _ _ _ _ _ _ _=>rfl) fun cdv A outer s H E f G hr hp =>
  (al (aO 3 sc_side_row.nd rfl (Or.inr rfl) (aI (aC hr.hu) aB (rvl 1) af (fun _ _=>rfl)) rfl (Or.inl rfl) (by rw [hp];rfl)) (al (aO 4 sc_side_row.nd rfl (Or.inr rfl) (aI (aC hr.hu) aB (rvl 1) (gB en et af) (fun _ _=>rfl)) rfl (Or.inl rfl) (by rw [hp];rfl)) (am (aD 3 (fun i hi=>by rw [hp];exact av (by simpa using hi)) (ay aS bj (ay aS bj (aA (aa (rvc 3) ad rfl)) (gl dg nV rfl B.tuple eh (aa (bo ["place","way","turns","first","last"] [none,some 2,some 0,some 3,some 4] rfl (cX (o4 (rvl 1) (ky af) (ky (gB en et af)))) (fun s H C fp=>(dM (bq (bX hr.units) bY (aI (aC hr.hu) aB (rvc 2) (aA (aa (rvc 3) (aa (rvl 0) (aa (rvc 4) ad rfl) rfl) rfl)) (fun _ _=>rfl)) (rvc 1) (aQ _)))) (fun s H C fp=>(rvl 0)) (by rfl) (bC (by decide)) (fun _=>rfl) ⟨_,aP rfl,fun s H C fp=>aX (i:=0) (show (["place","way","turns","first","last"]:List Str).Nodup by decide +kernel) rfl (Or.inl rfl) (Or.inr rfl)⟩) ad rfl) (by decide) (by decide) rfl rfl)) (aA (aa (rvc 4) ad rfl)))))))
noncomputable def j6:EM:=(au gg (ac (ag 1) (ac (au gZ (ac (ag 1) (ac (ag 2) (ac (ag 0) ai)))) (ac (ag 0) ai))))
noncomputable def j5:EM:=(bS (dR (aL (ac (mC (.int (1))) (ac (mC (.int (-1))) ai)))) (aW 0) fy j6 [none,some 0,some 1])
noncomputable def nE:SM:=(aJ (sIf (cOr (gY (cB (au cr (ac (ag 1) (ac (ag 2) ai))))) (cB (ao ltI (aG fL (ac (ag 1) ai)) (mC (.int (3)))))) (bb 3 (mC (.bl false))) di) (bb 3 (aG om (ac j5 ai))))
noncomputable def fE:Fn:=fnM [false,false,false] 3 nE
theorem lO:FnScope ["turns","thing","many"] ["turns","thing","many"] (aj dC):=⟨rfl,rfl,rfl,by decide +kernel,rfl,by decide +kernel,by decide +kernel⟩
theorem lE (B:Bl mg) (D:Def K mg "is_ring_by" dC) (C_are_rising_places:aU P w K mg base "are_rising_places" 3 ["thing","many"] cr) (C_row_bends:aU P w K mg base "row_bends" 1 ["turns","row","way"] gg) (C_side_row:aU P w K mg base "side_row" 1 ["turns","ring","way"] gZ) {tk_DOWN:Tok} (Q_DOWN:mg "DOWN"=some (.int (-1) tk_DOWN)) {tk_LEAST_CORNERS:Tok} (Q_LEAST_CORNERS:mg "LEAST_CORNERS"=some (.int (3) tk_LEAST_CORNERS)) {tk_UP:Tok} (Q_UP:mg "UP"=some (.int (1) tk_UP)):aU P w K mg base "is_ring_by" 4 ["turns","thing","many"] fE :=
 bD (k:=3) D lO rfl rfl (hb3 fun _ _ _ _ _ _ _ _ _=>rfl) fun cdv A outer s H E f G hr hp =>
  (al (b6 (m8 (jK (cW (cN (aq C_are_rising_places (hr.mono (by decide)) (aa (rvc 1) (aa (rvl 2) ad rfl) rfl) rfl (by decide) rfl rfl) (fun _=>rfl))) (fT (bq k9 mz (aF aH ce rfl B.len dn (aa (rvc 1) ad rfl) (by decide) (by decide) rfl rfl) (bN rfl Q_LEAST_CORNERS (by decide)) (aQ _))))) (am (aD 3 (fun i hi=>by rw [hp];exact av (by simpa using hi)) dA)) bA) (am (aD 3 (fun i hi=>by rw [hp];exact av (by simpa using hi)) (aF (dm rfl) ge rfl B.all jS (aa (bo ["way","turns","thing"] [none,some 0,some 1] rfl (cX (aA (aa (bN rfl Q_UP (by decide)) (aa (bN rfl Q_DOWN (by decide)) ad rfl) rfl))) (fun s H C fp=>bz) (fun s H C fp=>(aq C_row_bends (hr.mono (by decide)) (aa (rvc 1) (aa (aq C_side_row (hr.mono (by decide)) (aa (rvc 1) (aa (rvc 2) (aa (rvl 0) ad rfl) rfl) rfl) rfl (by decide) rfl rfl) (aa (rvl 0) ad rfl) rfl) rfl) rfl (by decide) rfl rfl)) (by rfl) (bC (by decide)) (fun _=>rfl) ⟨_,aP rfl,fun s H C fp=>aX (i:=0) (show (["way","turns","thing"]:List Str).Nodup by decide +kernel) rfl (Or.inl rfl) (Or.inr rfl)⟩) ad rfl) (by decide) (by decide) rfl rfl))))
noncomputable def tH:SM:=(bb 1 (l6 (au bR (ac (ag 0) ai)) (mOr (ao eqX (ag 0) (mC (.int (1)))) (ao eqX (ag 0) (mC (.int (-1)))))))
noncomputable def jI:Fn:=fnM [false] 1 tH
theorem qj:FnScope ["thing"] ["thing"] (aj gj):=⟨rfl,rfl,rfl,by decide +kernel,rfl,by decide +kernel,by decide +kernel⟩
theorem p8 (B:Bl mg) (D:Def K mg "is_sign" gj) (C_is_whole:aU P w K mg base "is_whole" 1 ["thing"] bR) {tk_DOWN:Tok} (Q_DOWN:mg "DOWN"=some (.int (-1) tk_DOWN)) {tk_UP:Tok} (Q_UP:mg "UP"=some (.int (1) tk_UP)):aU P w K mg base "is_sign" 2 ["thing"] jI :=
 bD (k:=1) D qj rfl rfl (hb1 fun _ _ _ _ _ _ _=>rfl) fun cdv A outer s H E f G hr hp =>
  (am (aD 1 (fun i hi=>by rw [hp];exact av (by simpa using hi)) (fV (aq C_is_whole (hr.mono (by decide)) (aa (rvl 0) ad rfl) rfl (by decide) rfl rfl) (gM (re_or (eC (bX hr.units) bY (rvl 0) (bN rfl Q_UP (by decide)) (aQ _)) (gM (eC (bX hr.units) bY (rvl 0) (bN rfl Q_DOWN (by decide)) (aQ _))))))))
noncomputable def jc:SM:=(bb 2 (vK (ac (au bH (ac (ag 0) ai)) (ac (ag 1) ai))))
noncomputable def ba:Fn:=fnM [false,false] 2 jc
theorem ik:FnScope ["many","signs"] ["many","signs"] (aj cg):=⟨rfl,rfl,rfl,by decide +kernel,rfl,by decide +kernel,by decide +kernel⟩
theorem gU (B:Bl mg) (D:Def K mg "turns_by_signs" cg) (C_threes:aU P w K mg base "threes" 1 ["many"] bH):aU P w K mg base "turns_by_signs" 2 ["many","signs"] ba :=
 bD (k:=1) D ik rfl rfl (hb2 fun _ _ _ _ _ _ _ _=>rfl) fun cdv A outer s H E f G hr hp =>
  (am (aD 2 (fun i hi=>by rw [hp];exact av (by simpa using hi)) (xl rfl hr.units rfl B.dict rfl B.zip (aa (aq C_threes (hr.mono (by decide)) (aa (rvl 0) ad rfl) rfl (by decide) rfl rfl) (aa (rvl 1) ad rfl) rfl) rfl rfl rfl)))
noncomputable def eI:M3 Bool:=(cB (ao neX (ao a9 (ag 1) (ag 0)) (ao a9 (ag 1) (ao cy (ag 0) (mC (.int 1))))))
noncomputable def eG:EM:=(ag 0)
noncomputable def eF:EM:=(bS (bE eR (ac (mC (.int 3)) ai)) (aW 0) eI eG [none,some 6])
noncomputable def fK:SM:=(aJ (bK 2 (ao a9 (ag 1) (mC (.int 0)))) (aJ (bK 3 (ao a9 (ag 1) (mC (.int 1)))) (aJ (bK 4 (ao a9 (ag 1) (mC (.int 2)))) (aJ (bK 5 (ao a9 (ag 1) (mC (.int 3)))) (aJ (bK 6 (aT (ac (ao a9 (ag 0) (aL (ac (ag 2) (ac (ag 3) (ac (ag 4) ai))))) (ac (ao a9 (ag 0) (aL (ac (ag 2) (ac (ag 3) (ac (ag 5) ai))))) (ac (ao a9 (ag 0) (aL (ac (ag 2) (ac (ag 4) (ac (ag 5) ai))))) (ac (ao a9 (ag 0) (aL (ac (ag 3) (ac (ag 4) (ac (ag 5) ai))))) ai)))))) (bb 2 (ao leI (aG fL (ac eF ai)) (mC (.int 1)))))))))
noncomputable def b5:Fn:=fnM [false,false] 7 fK
theorem sc_change_once_at_most:FnScope ["turns","four","h","i","j","k","row"] ["turns","four"] (aj bJ):=⟨rfl,rfl,rfl,by decide +kernel,rfl,by decide +kernel,by decide +kernel⟩
theorem eV (B:Bl mg) (D:Def K mg "change_once_at_most" bJ):aU P w K mg base "change_once_at_most" 1 ["turns","four"] b5 :=
 bD (k:=0) D sc_change_once_at_most rfl rfl (hb2 fun _ _ _ _ _ _ _ _=>rfl) fun cdv A outer s H E f G hr hp =>
  (al (aO 2 sc_change_once_at_most.nd rfl (Or.inl rfl) (aI (aC hr.hu) aB (rvl 1) af (fun _ _=>rfl)) rfl (Or.inl rfl) (by rw [hp];rfl)) (al (aO 3 sc_change_once_at_most.nd rfl (Or.inl rfl) (aI (aC hr.hu) aB (rvl 1) af (fun _ _=>rfl)) rfl (Or.inl rfl) (by rw [hp];rfl)) (al (aO 4 sc_change_once_at_most.nd rfl (Or.inl rfl) (aI (aC hr.hu) aB (rvl 1) af (fun _ _=>rfl)) rfl (Or.inl rfl) (by rw [hp];rfl)) (al (aO 5 sc_change_once_at_most.nd rfl (Or.inl rfl) (aI (aC hr.hu) aB (rvl 1) af (fun _ _=>rfl)) rfl (Or.inl rfl) (by rw [hp];rfl)) (al (aO 6 sc_change_once_at_most.nd rfl (Or.inr rfl) (aK (aa (aI (aC hr.hu) aB (rvl 0) (aA (aa (rvl 2) (aa (rvl 3) (aa (rvl 4) ad rfl) rfl) rfl)) (fun _ _=>rfl)) (aa (aI (aC hr.hu) aB (rvl 0) (aA (aa (rvl 2) (aa (rvl 3) (aa (rvl 5) ad rfl) rfl) rfl)) (fun _ _=>rfl)) (aa (aI (aC hr.hu) aB (rvl 0) (aA (aa (rvl 2) (aa (rvl 4) (aa (rvl 5) ad rfl) rfl) rfl)) (fun _ _=>rfl)) (aa (aI (aC hr.hu) aB (rvl 0) (aA (aa (rvl 3) (aa (rvl 4) (aa (rvl 5) ad rfl) rfl) rfl)) (fun _ _=>rfl)) ad rfl) rfl) rfl) rfl)) rfl (Or.inl rfl) (by rw [hp];rfl)) (am (aD 2 (fun i hi=>by rw [hp];exact av (by simpa using hi)) (eC iB mB (aF aH ce rfl B.len dn (aa (bo ["at","row"] [none,some 6] rfl (cA rfl B.range (aa af ad rfl) rfl) (fun s H C fp=>(dM (bq (eD hr.units) eE (aI (aC hr.hu) aB (rvc 1) (rvl 0) (fun _ _=>rfl)) (aI (aC hr.hu) aB (rvc 1) (ay aS bj (rvl 0) af) (fun _ _=>rfl)) (aQ _)))) (fun s H C fp=>(rvl 0)) (by rfl) (bC (by decide)) (fun _=>rfl) ⟨_,aP rfl,fun s H C fp=>aX (i:=0) (show (["at","row"]:List Str).Nodup by decide +kernel) rfl (Or.inl rfl) (Or.inr rfl)⟩) ad rfl) (by decide) (by decide) rfl rfl) af (aQ _)))))))))
noncomputable def iP:EM:=(au jI (ac (ag 0) ai))
noncomputable def iN:EM:=(bS (dR (ag 1)) (aW 0) fy iP [none])
noncomputable def iO:EM:=(au b5 (ac (ag 1) (ac (ag 0) ai)))
noncomputable def iM:EM:=(bS (dR (au oA (ac (ag 0) ai))) (aW 0) fy iO [none,some 2])
noncomputable def lj:SM:=(aJ (sIf (cOr (gY (cB (mUn (qS "tuple") (ag 1)))) (gY (cB (aG om (ac iN ai))))) (bb 2 (mC (.bl false))) di) (aJ (sIf (cB (ao neX (aG fL (ac (ag 1) ai)) (aG fL (ac (au bH (ac (ag 0) ai)) ai)))) (bb 2 (mC (.bl false))) di) (aJ (bK 2 (au ba (ac (ag 0) (ac (ag 1) ai)))) (bb 2 (aG om (ac iM ai))))))
noncomputable def bI:Fn:=fnM [false,false] 3 lj
theorem sc_are_signs_of:FnScope ["many","thing","turns"] ["many","thing"] (aj cM):=⟨rfl,rfl,rfl,by decide +kernel,rfl,by decide +kernel,by decide +kernel⟩
theorem jF (B:Bl mg) (D:Def K mg "are_signs_of" cM) (C_change_once_at_most:aU P w K mg base "change_once_at_most" 1 ["turns","four"] b5) (C_fours:aU P w K mg base "fours" 2 ["many"] oA) (C_is_sign:aU P w K mg base "is_sign" 2 ["thing"] jI) (C_threes:aU P w K mg base "threes" 1 ["many"] bH) (C_turns_by_signs:aU P w K mg base "turns_by_signs" 2 ["many","signs"] ba):aU P w K mg base "are_signs_of" 3 ["many","thing"] bI :=
 bD (k:=2) D sc_are_signs_of rfl rfl (hb2 fun _ _ _ _ _ _ _ _=>rfl) fun cdv A outer s H E f G hr hp =>
  (al (b6 (m8 (jK (cW (cN (i6 cS rfl B.isinstance (fi (v:=V.ty "tuple") rfl B.tuple eh rfl (by decide) (by decide)) (rvl 1) rfl rfl rfl) (fun _=>rfl))) (fT (cW (cN (aF (dm rfl) ge rfl B.all jS (aa (bo ["sign"] [none] rfl (cX (rvl 1)) (fun s H C fp=>bz) (fun s H C fp=>(aq C_is_sign (hr.mono (by decide)) (aa (rvl 0) ad rfl) rfl (by decide) rfl rfl)) (by rfl) (bC (by decide)) (fun _=>rfl) ⟨_,aP rfl,fun s H C fp=>aX (i:=0) (show (["sign"]:List Str).Nodup by decide +kernel) rfl (Or.inl rfl) (Or.inr rfl)⟩) ad rfl) (by decide) (by decide) rfl rfl) (fun _=>rfl)))))) (am (aD 2 (fun i hi=>by rw [hp];exact av (by simpa using hi)) dA)) bA) (al (b6 (bq (eD hr.units) eE (aF aH ce rfl B.len dn (aa (rvl 1) ad rfl) (by decide) (by decide) rfl rfl) (aF aH ce rfl B.len dn (aa (aq C_threes (hr.mono (by decide)) (aa (rvl 0) ad rfl) rfl (by decide) rfl rfl) ad rfl) (by decide) (by decide) rfl rfl) (aQ _)) (am (aD 2 (fun i hi=>by rw [hp];exact av (by simpa using hi)) dA)) bA) (al (aO 2 sc_are_signs_of.nd rfl (Or.inr rfl) (aq C_turns_by_signs (hr.mono (by decide)) (aa (rvl 0) (aa (rvl 1) ad rfl) rfl) rfl (by decide) rfl rfl) rfl (Or.inl rfl) (by rw [hp];rfl)) (am (aD 2 (fun i hi=>by rw [hp];exact av (by simpa using hi)) (aF (dm rfl) ge rfl B.all jS (aa (bo ["four","turns"] [none,some 2] rfl (cX (aq C_fours (hr.mono (by decide)) (aa (rvl 0) ad rfl) rfl (by decide) rfl rfl)) (fun s H C fp=>bz) (fun s H C fp=>(aq C_change_once_at_most (hr.mono (by decide)) (aa (rvc 1) (aa (rvl 0) ad rfl) rfl) rfl (by decide) rfl rfl)) (by rfl) (bC (by decide)) (fun _=>rfl) ⟨_,aP rfl,fun s H C fp=>aX (i:=0) (show (["four","turns"]:List Str).Nodup by decide +kernel) rfl (Or.inl rfl) (Or.inr rfl)⟩) ad rfl) (by decide) (by decide) rfl rfl))))))
noncomputable def lZ:SM:=(aJ (cq (cE bx (ac (ag 0) (ac (mC (.int 1)) (ac (mC (.int (24))) ai))))) (bb 2 (au bI (ac (ag 0) (ac (ag 1) ai)))))
noncomputable def eL:Fn:=fnM [false,false] 2 lZ
theorem m3:FnScope ["many","thing"] ["many","thing"] (aj d5):=⟨rfl,rfl,rfl,by decide +kernel,rfl,by decide +kernel,by decide +kernel⟩
theorem km (B:Bl mg) (D:Def K mg "are_signs" d5) (C_are_signs_of:aU P w K mg base "are_signs_of" 3 ["many","thing"] bI) (C_check_number_x:cU P w K mg base "check_number" 2 ["thing","least","most"] bx) {tk_MOST_POINTS:Tok} (Q_MOST_POINTS:mg "MOST_POINTS"=some (.int (24) tk_MOST_POINTS)):cU P w K mg base "are_signs" 4 ["many","thing"] eL :=
 cR (k:=3) D m3 rfl rfl (hb2 fun _ _ _ _ _ _ _ _=>rfl) fun cdv A outer s H E f G W hr hp pa mk =>
  (al (bM (bG C_check_number_x (hr.mono (by decide)) pa (aa (rvl 0) (aa af (aa (bN rfl Q_MOST_POINTS (by decide)) ad rfl) rfl) rfl) rfl (by decide) rfl rfl) rfl) (am (aD 2 (fun i hi=>by rw [hp];exact av (by simpa using hi)) (aq C_are_signs_of (hr.mono (by decide)) (aa (rvl 0) (aa (rvl 1) ad rfl) rfl) rfl (by decide) rfl rfl))))
noncomputable def j8:SM:=(aJ (cq (cE bx (ac (ag 0) (ac (mC (.int 1)) (ac (ag 1) ai))))) (sIf (gY (cB (au bI (ac (ag 0) (ac (ag 2) ai))))) (kR "NoSigns" (ac (mC (.str "these are no signs of so many places")) ai)) di))
noncomputable def bh:Fn:=fnM [false,false,false] 3 j8
theorem kN:FnScope ["many","most","signs"] ["many","most","signs"] (aj de):=⟨rfl,rfl,rfl,by decide +kernel,rfl,by decide +kernel,by decide +kernel⟩
theorem iW (B:Bl mg) (D:Def K mg "check_signs" de) (C_are_signs_of:aU P w K mg base "are_signs_of" 3 ["many","thing"] bI) (C_check_number_x:cU P w K mg base "check_number" 2 ["thing","least","most"] bx) {c_NoSigns:Addr} (V_NoSigns:XName K "NoSigns" c_NoSigns) (U_NoSigns:ECls K mg "NoSigns" c_NoSigns):cU P w K mg base "check_signs" 4 ["many","most","signs"] bh :=
 cR (k:=3) D kN rfl rfl (hb3 fun _ _ _ _ _ _ _ _ _=>rfl) fun cdv A outer s H E f G W hr hp pa mk =>
  (al (bM (bG C_check_number_x (hr.mono (by decide)) pa (aa (rvl 0) (aa af (aa (rvl 1) ad rfl) rfl) rfl) rfl (by decide) rfl rfl) rfl) (am (b6 (cW (cN (aq C_are_signs_of (hr.mono (by decide)) (aa (rvl 0) (aa (rvl 2) ad rfl) rfl) rfl (by decide) rfl rfl) (fun _=>rfl))) (am (kS V_NoSigns U_NoSigns mk rfl rfl (by decide) (aa gL ad rfl) rfl)) bA)))
noncomputable def j3:EM:=(ao a9 (ag 1) (ag 0))
noncomputable def j0:EM:=(bS (dR (au bH (ac (aG fL (ac (ag 0) ai)) ai))) (aW 0) fy j3 [none,some 1])
noncomputable def nD:SM:=(aJ (bK 1 (cE eM (ac (ag 0) ai))) (bb 1 (aG sJ (ac j0 ai))))
noncomputable def fD:Fn:=fnM [false] 2 nD
theorem sc_signs_of:FnScope ["sheet","turns"] ["sheet"] (aj eY):=⟨rfl,rfl,rfl,by decide +kernel,rfl,by decide +kernel,by decide +kernel⟩
theorem lC (B:Bl mg) (D:Def K mg "signs_of" eY) (C_all_turns_x:cU P w K mg base "all_turns" 6 ["sheet"] eM) (C_threes:aU P w K mg base "threes" 1 ["many"] bH):cU P w K mg base "signs_of" 7 ["sheet"] fD :=
 cR (k:=6) D sc_signs_of rfl rfl (hb1 fun _ _ _ _ _ _ _=>rfl) fun cdv A outer s H E f G W hr hp pa mk =>
  (al (aO 1 sc_signs_of.nd rfl (Or.inr rfl) (bG C_all_turns_x (hr.mono (by decide)) pa (aa (rvl 0) ad rfl) rfl (by decide) rfl rfl) rfl (Or.inl rfl) (by rw [hp];rfl)) (am (aD 1 (fun i hi=>by rw [hp];exact av (by simpa using hi)) (gl dg nV rfl B.tuple eh (aa (bo ["three","turns"] [none,some 1] rfl (cX (aq C_threes (hr.mono (by decide)) (aa (aF aH ce rfl B.len dn (aa (rvl 0) ad rfl) (by decide) (by decide) rfl rfl) ad rfl) rfl (by decide) rfl rfl)) (fun s H C fp=>bz) (fun s H C fp=>(aI (aC hr.hu) aB (rvc 1) (rvl 0) (fun _ _=>rfl))) (by rfl) (bC (by decide)) (fun _=>rfl) ⟨_,aP rfl,fun s H C fp=>aX (i:=0) (show (["three","turns"]:List Str).Nodup by decide +kernel) rfl (Or.inl rfl) (Or.inr rfl)⟩) ad rfl) (by decide) (by decide) rfl rfl))))
noncomputable def eT:SM:=(aJ (cq (cE bh (ac (ag 0) (ac (mC (.int (24))) (ac (ag 1) ai))))) (bb 2 (au dh (ac (au ba (ac (ag 0) (ac (ag 1) ai))) (ac (ag 0) (ac (mC (.int (1))) ai))))))
noncomputable def cn:Fn:=fnM [false,false] 2 eT
theorem jW:FnScope ["many","signs"] ["many","signs"] (aj cK):=⟨rfl,rfl,rfl,by decide +kernel,rfl,by decide +kernel,by decide +kernel⟩
theorem gW (B:Bl mg) (D:Def K mg "cup_by_signs" cK) (C_check_signs_x:cU P w K mg base "check_signs" 4 ["many","most","signs"] bh) (C_longest_row:aU P w K mg base "longest_row" 2 ["turns","many","way"] dh) (C_turns_by_signs:aU P w K mg base "turns_by_signs" 2 ["many","signs"] ba) {tk_MOST_POINTS:Tok} (Q_MOST_POINTS:mg "MOST_POINTS"=some (.int (24) tk_MOST_POINTS)) {tk_UP:Tok} (Q_UP:mg "UP"=some (.int (1) tk_UP)):cU P w K mg base "cup_by_signs" 5 ["many","signs"] cn :=
 cR (k:=4) D jW rfl rfl (hb2 fun _ _ _ _ _ _ _ _=>rfl) fun cdv A outer s H E f G W hr hp pa mk =>
  (al (bM (bG C_check_signs_x (hr.mono (by decide)) pa (aa (rvl 0) (aa (bN rfl Q_MOST_POINTS (by decide)) (aa (rvl 1) ad rfl) rfl) rfl) rfl (by decide) rfl rfl) rfl) (am (aD 2 (fun i hi=>by rw [hp];exact av (by simpa using hi)) (aq C_longest_row (hr.mono (by decide)) (aa (aq C_turns_by_signs (hr.mono (by decide)) (aa (rvl 0) (aa (rvl 1) ad rfl) rfl) rfl (by decide) rfl rfl) (aa (rvl 0) (aa (bN rfl Q_UP (by decide)) ad rfl) rfl) rfl) rfl (by decide) rfl rfl))))
noncomputable def fY:SM:=(aJ (cq (cE bh (ac (ag 1) (ac (mC (.int (24))) (ac (ag 2) ai))))) (bb 3 (au fE (ac (au ba (ac (ag 1) (ac (ag 2) ai))) (ac (ag 0) (ac (ag 1) ai))))))
noncomputable def cf:Fn:=fnM [false,false,false] 3 fY
theorem gv:FnScope ["thing","many","signs"] ["thing","many","signs"] (aj bW):=⟨rfl,rfl,rfl,by decide +kernel,rfl,by decide +kernel,by decide +kernel⟩
theorem fw (B:Bl mg) (D:Def K mg "is_ring_by_signs" bW) (C_check_signs_x:cU P w K mg base "check_signs" 4 ["many","most","signs"] bh) (C_is_ring_by:aU P w K mg base "is_ring_by" 4 ["turns","thing","many"] fE) (C_turns_by_signs:aU P w K mg base "turns_by_signs" 2 ["many","signs"] ba) {tk_MOST_POINTS:Tok} (Q_MOST_POINTS:mg "MOST_POINTS"=some (.int (24) tk_MOST_POINTS)):cU P w K mg base "is_ring_by_signs" 5 ["thing","many","signs"] cf :=
 cR (k:=4) D gv rfl rfl (hb3 fun _ _ _ _ _ _ _ _ _=>rfl) fun cdv A outer s H E f G W hr hp pa mk =>
  (al (bM (bG C_check_signs_x (hr.mono (by decide)) pa (aa (rvl 1) (aa (bN rfl Q_MOST_POINTS (by decide)) (aa (rvl 2) ad rfl) rfl) rfl) rfl (by decide) rfl rfl) rfl) (am (aD 3 (fun i hi=>by rw [hp];exact av (by simpa using hi)) (aq C_is_ring_by (hr.mono (by decide)) (aa (aq C_turns_by_signs (hr.mono (by decide)) (aa (rvl 1) (aa (rvl 2) ad rfl) rfl) rfl (by decide) rfl rfl) (aa (rvl 0) (aa (rvl 1) ad rfl) rfl) rfl) rfl (by decide) rfl rfl))))
noncomputable def js:SM:=(cq (vJ isL wa 3 (ac (aT (ac (ao cy (ag 4) (aL (ac (mC (.int (-1))) ai))) (ac (ao cy (ag 4) (aL (ac (mC (.int (1))) ai))) ai))) ai)))
noncomputable def jr:SM:=(aJ (bK 3 (aT ai)) (aJ (gw (dR (ag 1)) (aW 4) js) (bK 1 (ag 3))))
noncomputable def jq:M3 Bool:=(cB (au bI (ac (ag 1) (ac (ag 0) ai))))
noncomputable def jp:EM:=(ag 0)
noncomputable def jo:EM:=(bS (dR (ag 1)) (aW 0) jq jp [none,some 0])
noncomputable def l5:SM:=(aJ (cq (cE bx (ac (ag 0) (ac (mC (.int 1)) (ac (mC (.int (5))) ai))))) (aJ (bK 1 (aT (ac (aL ai) ai))) (aJ (quiet (gw (bE eR (ac (aG fL (ac (au bH (ac (ag 0) ai)) ai)) ai)) (aW 2) jr)) (bb 1 jo))))
noncomputable def eO:Fn:=fnM [false] 5 l5
theorem sc_all_signs:FnScope ["many","rows","at","longer","row"] ["many"] (aj d7):=⟨rfl,rfl,rfl,by decide +kernel,rfl,by decide +kernel,by decide +kernel⟩
theorem ko (B:Bl mg) (D:Def K mg "all_signs" d7) (C_are_signs_of:aU P w K mg base "are_signs_of" 3 ["many","thing"] bI) (C_check_number_x:cU P w K mg base "check_number" 2 ["thing","least","most"] bx) (C_threes:aU P w K mg base "threes" 1 ["many"] bH) {tk_DOWN:Tok} (Q_DOWN:mg "DOWN"=some (.int (-1) tk_DOWN)) {tk_MOST_FOR_ALL_SIGNS:Tok} (Q_MOST_FOR_ALL_SIGNS:mg "MOST_FOR_ALL_SIGNS"=some (.int (5) tk_MOST_FOR_ALL_SIGNS)) {tk_UP:Tok} (Q_UP:mg "UP"=some (.int (1) tk_UP)):cU P w K mg base "all_signs" 4 ["many"] eO :=
 cR (k:=3) D sc_all_signs rfl rfl (hb1 fun _ _ _ _ _ _ _=>rfl) fun cdv A outer s H E f G W hr hp pa mk =>
  (al (bM (bG C_check_number_x (hr.mono (by decide)) pa (aa (rvc 0) (aa af (aa (bN rfl Q_MOST_FOR_ALL_SIGNS (by decide)) ad rfl) rfl) rfl) rfl (by decide) rfl rfl) rfl) (al (aO 1 sc_all_signs.nd rfl (Or.inl rfl) (aK (aa (aA ad) ad rfl)) rfl (Or.inl rfl) (by rw [hp];rfl)) (al (oX (dL PassesOwn.never rfl (cA rfl B.range (aa (aF aH ce rfl B.len dn (aa (aq C_threes (hr.mono (by decide)) (aa (rvc 0) ad rfl) rfl (by decide) rfl rfl) ad rfl) (by decide) (by decide) rfl rfl) ad rfl) rfl) (cj 2 sc_all_signs.nd rfl (Or.inl rfl) (Or.inl rfl) (by rw [hp];rfl)) (al (aO 3 sc_all_signs.nd rfl (Or.inl rfl) (aK ad) rfl (Or.inl rfl) (by rw [hp];rfl)) (al (dL PassesOwn.never rfl (cX (rvl 1)) (cj 4 sc_all_signs.nd rfl (Or.inl rfl) (Or.inl rfl) (by rw [hp];rfl)) (am (bM (m9 (ok:=isL) PySem.F.plainAttrs_list PySem.F.slot_list_extend PySem.F.type_list_extend ja qC qT (gN (i:=3) rfl (Or.inl rfl) (by decide) (by decide)) (aa (aK (aa (ay aS bj (rvl 4) (aA (aa (bN rfl Q_DOWN (by decide)) ad rfl))) (aa (ay aS bj (rvl 4) (aA (aa (bN rfl Q_UP (by decide)) ad rfl))) ad rfl) rfl)) ad rfl) rfl rfl rfl rfl rfl) rfl)) (fun _=>rfl)) (am (aO 1 sc_all_signs.nd rfl (Or.inl rfl) (rvl 3) rfl (Or.inl rfl) (by rw [hp];rfl))))) (fun _=>rfl))) (am (aD 1 (fun i hi=>by rw [hp];exact av (by simpa using hi)) (bo ["row","many"] [none,some 0] rfl (cX (rvl 1)) (fun s H C fp=>(dM (cN (aq C_are_signs_of (hr.mono (by decide)) (aa (rvc 1) (aa (rvl 0) ad rfl) rfl) rfl (by decide) rfl rfl) (fun _=>rfl)))) (fun s H C fp=>(rvl 0)) (by rfl) (bC (by decide)) (fun _=>rfl) ⟨_,aP rfl,fun s H C fp=>aX (i:=0) (show (["row","many"]:List Str).Nodup by decide +kernel) rfl (Or.inl rfl) (Or.inr rfl)⟩))))))
noncomputable def gP:SM:=(aJ (cq (cE bh (ac (ag 0) (ac (mC (.int (4))) (ac (ag 1) ai))))) uZ)
noncomputable def cC:Fn:=fnM [false,false] 5 gP
theorem il:FnScope ["many","signs","first","alike","height"] ["many","signs"] (aj ci):=⟨rfl,rfl,rfl,by decide +kernel,rfl,by decide +kernel,by decide +kernel⟩
theorem gf (B:Bl mg) (D:Def K mg "sheet_by_signs" ci) (C_check_signs_x:cU P w K mg base "check_signs" 4 ["many","most","signs"] bh) {tk_MOST_FOR_SHEETS:Tok} (Q_MOST_FOR_SHEETS:mg "MOST_FOR_SHEETS"=some (.int (4) tk_MOST_FOR_SHEETS)):cU P w K mg base "sheet_by_signs" 5 ["many","signs"] cC :=
 cR (k:=4) D il rfl rfl (hb2 fun _ _ _ _ _ _ _ _=>rfl) fun cdv A outer s H E f G W hr hp pa mk =>
  (al (bM (bG C_check_signs_x (hr.mono (by decide)) pa (aa (rvl 0) (aa (bN rfl Q_MOST_FOR_SHEETS (by decide)) (aa (rvl 1) ad rfl) rfl) rfl) rfl (by decide) rfl rfl) rfl) sS)
noncomputable def fk:SM:=(aJ (bK 5 (ao qA (ao cy (ao cy (ao jZ (ao qA (ag 2) (mC (.int 2147483647))) (mC (.int 48271))) (ao jZ (mC (.int 7919)) (ag 4))) (mC (.int 1))) (mC (.int 2147483647)))) (aJ (bK 5 (ao qA (ao jZ (ag 5) (ag 5)) (mC (.int 2147483629)))) (bK 3 (ao cy (ao jZ (ag 3) (mC (.int 2147483647))) (ao qA (ao jZ (ag 5) (ao cy (ag 5) (mC (.int 13)))) (mC (.int 2147483647)))))))
noncomputable def xO:SM:=(aJ (bK 2 (ao cy (ao jZ (mC (.int 7919)) (ag 1)) (mC (.int 13)))) (aJ (sIf (cB (ao ltI (ag 1) (aG fL (ac (ag 0) ai)))) (bK 2 (ao a9 (ag 0) (ag 1))) di) (aJ (sIf (cB (ao eqX (ao qA (ag 2) (mC (.int 2))) (mC (.int 0)))) (bb 2 (aT (ac (ao Aw (ag 2) (mC (.int 2))) ai))) di) (aJ (bK 3 (mC (.int 0))) (aJ (gw (bE eR (ac (mC (.int 16)) ai)) (aW 4) fk) (bb 2 (aT (ac (ag 3) ai))))))))
noncomputable def kD:Fn:=fnM [false,false] 6 xO
theorem sc_l_box:FnScope ["_law_script","_law_k","_law_here","_law_number","_law_j","_law_part"] ["_law_script","_law_k"] (aj kr):=⟨rfl,rfl,rfl,by decide +kernel,rfl,by decide +kernel,by decide +kernel⟩
theorem uz (B:Bl mg) (D:Def K mg "_law_box" kr):aU P w K mg base "_law_box" 1 ["_law_script","_law_k"] kD :=
 bD (k:=0) D sc_l_box rfl rfl (hb2 fun _ _ _ _ _ _ _ _=>rfl) fun cdv A outer s H E f G hr hp =>
  (al (aO 2 sc_l_box.nd rfl (Or.inl rfl) (ay aS bj (ay fj dE af (rvl 1)) af) rfl (Or.inl rfl) (by rw [hp];rfl)) (al (b6 (bq k9 mz (rvl 1) (aF aH ce rfl B.len dn (aa (rvl 0) ad rfl) (by decide) (by decide) rfl rfl) (aQ _)) (am (aO 2 sc_l_box.nd rfl (Or.inl rfl) (aI (aC hr.hu) aB (rvl 0) (rvl 1) (fun _ _=>rfl)) rfl (Or.inl rfl) (by rw [hp];rfl))) bA) (al (b6 (bq (bX hr.units) bY (ay k8 iC (rvl 2) af) af (aQ _)) (am (aD 2 (fun i hi=>by rw [hp];exact av (by simpa using hi)) (aK (aa (ay vy xJ (rvl 2) af) ad rfl)))) bA) (al (aO 3 sc_l_box.nd rfl (Or.inl rfl) af rfl (Or.inl rfl) (by rw [hp];rfl)) (al (dL PassesOwn.never rfl (cA rfl B.range (aa af ad rfl) rfl) (cj 4 sc_l_box.nd rfl (Or.inl rfl) (Or.inl rfl) (by rw [hp];rfl)) (al (aO 5 sc_l_box.nd rfl (Or.inl rfl) (ay k8 iC (ay aS bj (ay aS bj (ay fj dE (ay k8 iC (rvl 2) af) af) (ay fj dE af (rvl 4))) af) af) rfl (Or.inl rfl) (by rw [hp];rfl)) (al (aO 5 sc_l_box.nd rfl (Or.inl rfl) (ay k8 iC (ay fj dE (rvl 5) (rvl 5)) af) rfl (Or.inl rfl) (by rw [hp];rfl)) (am (aO 3 sc_l_box.nd rfl (Or.inl rfl) (ay aS bj (ay fj dE (rvl 3) af) (ay k8 iC (ay fj dE (rvl 5) (ay aS bj (rvl 5) af)) af)) rfl (Or.inl rfl) (by rw [hp];rfl))))) (fun _=>rfl)) (am (aD 2 (fun i hi=>by rw [hp];exact av (by simpa using hi)) (aK (aa (rvl 3) ad rfl)))))))))
noncomputable def vI:SM:=(aJ (u3 (AE 2 (sB (aW 2) (sB (aW 3) AF))) (aG we (ac (ao a9 (ag 0) (mC (.int 0))) (ac (ag 1) ai)))) (aJ (qm wY 0 (mC (.int 0)) (ag 2)) (bb 2 (ag 3))))
noncomputable def bV:Fn:=fnM [false,false] 4 vI
theorem sc_l_take:FnScope ["_law_box_here","_law_many","_law_left","_law_digit"] ["_law_box_here","_law_many"] (aj ir):=⟨rfl,rfl,rfl,by decide +kernel,rfl,by decide +kernel,by decide +kernel⟩
theorem rm (B:Bl mg) (D:Def K mg "_law_take" ir):aU P w K mg base "_law_take" 1 ["_law_box_here","_law_many"] bV :=
 bD (k:=0) D sc_l_take rfl rfl (hb2 fun _ _ _ _ _ _ _ _=>rfl) fun cdv A outer s H E f G hr hp =>
  (al (zz (zA rfl (o3 (cj 2 sc_l_take.nd rfl (Or.inl rfl) (Or.inl rfl) (by rw [hp];rfl)) (o3 (cj 3 sc_l_take.nd rfl (Or.inl rfl) (Or.inl rfl) (by rw [hp];rfl)) xj rfl) rfl) rfl rfl) (aF p6 ui rfl B.divmod wx (aa (aI (aC hr.hu) aB (rvl 0) af (fun _ _=>rfl)) (aa (rvl 1) ad rfl) rfl) (by decide) (by decide) rfl rfl) rfl rfl rfl) (al (qo (i:=0) (mY hr.hu) qB (gN rfl (Or.inl rfl) (by decide) (by decide)) af (rvl 2) (fun _=>rfl) rfl rfl rfl) (am (aD 2 (fun i hi=>by rw [hp];exact av (by simpa using hi)) (rvl 3)))))
noncomputable def j4:EM:=(aL (ac (ag 0) (ac (ao jZ (ag 0) (ag 0)) ai)))
noncomputable def fH:EM:=(bS (bE eR (ac (mC (.int 25)) ai)) (aW 0) fy j4 [none])
noncomputable def iJ:SM:=(aJ (bK 1 (aT (ac (mC .non) (ac (aL ai) (ac (aL (ac (aL (ac (mC (.int 0)) (ac (mC (.int 0)) ai))) (ac (aL (ac (mC (.int 0)) (ac (mC (.int 1)) ai))) ai))) (ac (aL (ac (aL (ac (mC (.int 1)) (ac (mC (.int 0)) ai))) (ac (aL (ac (mC (.int 0)) (ac (mC (.int 0)) ai))) ai))) (ac (aL (ac (aL (ac (mC (.int 0)) (ac (mC (.int 0)) ai))) (ac (aL (ac (mC (.int 1)) (ac (mC (.int 1)) ai))) (ac (aL (ac (mC (.int 2)) (ac (mC (.int 2)) ai))) ai)))) (ac (aT (ac (aL (ac (mC (.int 0)) (ac (mC (.int 0)) ai))) ai)) (ac (aL (ac (aL (ac (mC (.int 0)) (ac (mC (.int 0)) (ac (mC (.int 0)) ai)))) ai)) ai))))))))) (aJ (bK 1 (ao cy (ag 1) (aT (ac (aL (ac (aL (ac (mC (.int 0)) (ac (mC (.bl true)) ai))) ai)) (ac (aL (ac (aL (ac (mC (.int 0)) (ac (mC (.str "0")) ai))) ai)) (ac (aL (ac (mC (.int 0)) (ac (mC (.int 0)) ai))) (ac (mC (.str "0,0")) (ac jt (ac (aL (ac (aL (ac (mC (.int 0)) (ac (mC (.int 0)) ai))) (ac (mC .non) ai))) (ac (aG sJ (ac fH ai)) ai)))))))))) (bb 1 (ao a9 (ag 1) (au bV (ac (ag 0) (ac (mC (.int 14)) ai)))))))
noncomputable def dH:Fn:=fnM [false] 2 iJ
theorem sc_l_no_sheet:FnScope ["_law_box_here","_law_some"] ["_law_box_here"] (aj dB):=⟨rfl,rfl,rfl,by decide +kernel,rfl,by decide +kernel,by decide +kernel⟩
theorem lD (B:Bl mg) (D:Def K mg "_law_no_sheet" dB) (C__law_take:aU P w K mg base "_law_take" 1 ["_law_box_here","_law_many"] bV):aU P w K mg base "_law_no_sheet" 2 ["_law_box_here"] dH :=
 bD (k:=1) D sc_l_no_sheet rfl rfl (hb1 fun _ _ _ _ _ _ _=>rfl) fun cdv A outer s H E f G hr hp =>
  (al (aO 1 sc_l_no_sheet.nd rfl (Or.inl rfl) (aK (aa fU (aa (aA ad) (aa (aA (aa (aA (aa af (aa af ad rfl) rfl)) (aa (aA (aa af (aa af ad rfl) rfl)) ad rfl) rfl)) (aa (aA (aa (aA (aa af (aa af ad rfl) rfl)) (aa (aA (aa af (aa af ad rfl) rfl)) ad rfl) rfl)) (aa (aA (aa (aA (aa af (aa af ad rfl) rfl)) (aa (aA (aa af (aa af ad rfl) rfl)) (aa (aA (aa af (aa af ad rfl) rfl)) ad rfl) rfl) rfl)) (aa (aK (aa (aA (aa af (aa af ad rfl) rfl)) ad rfl)) (aa (aA (aa (aA (aa af (aa af (aa af ad rfl) rfl) rfl)) ad rfl)) ad rfl) rfl) rfl) rfl) rfl) rfl) rfl)) rfl (Or.inl rfl) (by rw [hp];rfl)) (al (aO 1 sc_l_no_sheet.nd rfl (Or.inl rfl) (ay aS bj (rvl 1) (aK (aa (aA (aa (aA (aa af (aa dA ad rfl) rfl)) ad rfl)) (aa (aA (aa (aA (aa af (aa gL ad rfl) rfl)) ad rfl)) (aa (aA (aa af (aa af ad rfl) rfl)) (aa gL (aa iy (aa (aA (aa (aA (aa af (aa af ad rfl) rfl)) (aa fU ad rfl) rfl)) (aa (gl dg nV rfl B.tuple eh (aa (bo ["_law_x"] [none] rfl (cA rfl B.range (aa af ad rfl) rfl) (fun s H C fp=>bz) (fun s H C fp=>(aA (aa (rvl 0) (aa (ay fj dE (rvl 0) (rvl 0)) ad rfl) rfl))) (by rfl) (bC (by decide)) (fun _=>rfl) ⟨_,aP rfl,fun s H C fp=>aX (i:=0) (show (["_law_x"]:List Str).Nodup by decide +kernel) rfl (Or.inl rfl) (Or.inr rfl)⟩) ad rfl) (by decide) (by decide) rfl rfl) ad rfl) rfl) rfl) rfl) rfl) rfl) rfl))) rfl (Or.inl rfl) (by rw [hp];rfl)) (am (aD 1 (fun i hi=>by rw [hp];exact av (by simpa using hi)) (aI (aC hr.hu) aB (rvl 1) (aq C__law_take (hr.mono (by decide)) (aa (rvl 0) (aa af ad rfl) rfl) rfl (by decide) rfl rfl) (fun _ _=>rfl))))))
noncomputable def lY:SM:=(aJ (bK 1 (aT (ac (mUn (gT [("NoNumber",false),("NoSigns",false),("NoSheet",true)]) (ag 0)) (ac (mUn (gT [("NoNumber",false),("NoSigns",false),("NoSheet",false)]) (ag 0)) (ac (mUn (gT [("NoNumber",true),("NoSigns",false),("NoSheet",false)]) (ag 0)) (ac (mUn (gT [("NoNumber",false),("NoSigns",false),("NoSheet",false)]) (ag 0)) ai)))))) (aJ (bK 1 (ao cy (ag 1) (aT (ac (mUn (gT [("NoNumber",false),("NoSigns",false),("NoSheet",false)]) (ag 0)) (ac (mUn (gT [("NoNumber",false),("NoSigns",false),("NoSheet",false)]) (ag 0)) (ac (mUn (gT [("NoNumber",false),("NoSigns",false),("NoSheet",false)]) (ag 0)) (ac (mUn (gT [("NoNumber",false),("NoSigns",false),("NoSheet",false)]) (ag 0)) ai))))))) (bb 1 (ao cy (ag 1) (aT (ac (mUn (gT [("NoNumber",false),("NoSigns",true),("NoSheet",false)]) (ag 0)) (ac (mUn (gT [("NoNumber",false),("NoSigns",false),("NoSheet",false)]) (ag 0)) (ac (mUn (gT [("NoNumber",false),("NoSigns",false),("NoSheet",false)]) (ag 0)) (ac (mUn (gT [("NoNumber",false),("NoSigns",false),("NoSheet",false)]) (ag 0)) ai)))))))))
noncomputable def eK:Fn:=fnM [false] 2 lY
theorem sc_l_classes:FnScope ["_law_e","_law_found"] ["_law_e"] (aj dZ):=⟨rfl,rfl,rfl,by decide +kernel,rfl,by decide +kernel,by decide +kernel⟩
theorem kj (B:Bl mg) (D:Def K mg "_law_classes" dZ) {c_Apart:Addr} (Q_Apart:mg "Apart"=some (.ref c_Apart)) (T_Apart:IsX K (.ref c_Apart) [("NoNumber",false),("NoSigns",false),("NoSheet",false)]) {c_Bare:Addr} (Q_Bare:mg "Bare"=some (.ref c_Bare)) (T_Bare:IsX K (.ref c_Bare) [("NoNumber",false),("NoSigns",false),("NoSheet",false)]) {c_NoLine:Addr} (Q_NoLine:mg "NoLine"=some (.ref c_NoLine)) (T_NoLine:IsX K (.ref c_NoLine) [("NoNumber",false),("NoSigns",false),("NoSheet",false)]) {c_NoNumber:Addr} (Q_NoNumber:mg "NoNumber"=some (.ref c_NoNumber)) (T_NoNumber:IsX K (.ref c_NoNumber) [("NoNumber",true),("NoSigns",false),("NoSheet",false)]) {c_NoPlace:Addr} (Q_NoPlace:mg "NoPlace"=some (.ref c_NoPlace)) (T_NoPlace:IsX K (.ref c_NoPlace) [("NoNumber",false),("NoSigns",false),("NoSheet",false)]) {c_NoRing:Addr} (Q_NoRing:mg "NoRing"=some (.ref c_NoRing)) (T_NoRing:IsX K (.ref c_NoRing) [("NoNumber",false),("NoSigns",false),("NoSheet",false)]) {c_NoRow:Addr} (Q_NoRow:mg "NoRow"=some (.ref c_NoRow)) (T_NoRow:IsX K (.ref c_NoRow) [("NoNumber",false),("NoSigns",false),("NoSheet",false)]) {c_NoSheet:Addr} (Q_NoSheet:mg "NoSheet"=some (.ref c_NoSheet)) (T_NoSheet:IsX K (.ref c_NoSheet) [("NoNumber",false),("NoSigns",false),("NoSheet",true)]) {c_NoSigns:Addr} (Q_NoSigns:mg "NoSigns"=some (.ref c_NoSigns)) (T_NoSigns:IsX K (.ref c_NoSigns) [("NoNumber",false),("NoSigns",true),("NoSheet",false)]) {c_NoText:Addr} (Q_NoText:mg "NoText"=some (.ref c_NoText)) (T_NoText:IsX K (.ref c_NoText) [("NoNumber",false),("NoSigns",false),("NoSheet",false)]) {c_OnLine:Addr} (Q_OnLine:mg "OnLine"=some (.ref c_OnLine)) (T_OnLine:IsX K (.ref c_OnLine) [("NoNumber",false),("NoSigns",false),("NoSheet",false)]) {c_TooMany:Addr} (Q_TooMany:mg "TooMany"=some (.ref c_TooMany)) (T_TooMany:IsX K (.ref c_TooMany) [("NoNumber",false),("NoSigns",false),("NoSheet",false)]):uF P w K mg base "_law_classes" 1 ["_law_e"] eK :=
 sd (k:=0) D sc_l_classes rfl rfl (hb1 fun _ _ _ _ _ _ _=>rfl) fun cdv A outer s H f G hr hD hp =>
  (al (aO 1 sc_l_classes.nd rfl (Or.inl rfl) (aK (aa (b7 (cs:=[("NoNumber",false),("NoSigns",false),("NoSheet",true)]) (t:=V.ref c_NoSheet) (fun _ h=>h) T_NoSheet rfl B.isinstance (b8 rfl Q_NoSheet rfl (by decide)) (rvl 0) rfl rfl rfl) (aa (b7 (cs:=[("NoNumber",false),("NoSigns",false),("NoSheet",false)]) (t:=V.ref c_NoPlace) (fun _ h=>h) T_NoPlace rfl B.isinstance (b8 rfl Q_NoPlace rfl (by decide)) (rvl 0) rfl rfl rfl) (aa (b7 (cs:=[("NoNumber",true),("NoSigns",false),("NoSheet",false)]) (t:=V.ref c_NoNumber) (fun _ h=>h) T_NoNumber rfl B.isinstance (b8 rfl Q_NoNumber rfl (by decide)) (rvl 0) rfl rfl rfl) (aa (b7 (cs:=[("NoNumber",false),("NoSigns",false),("NoSheet",false)]) (t:=V.ref c_NoRow) (fun _ h=>h) T_NoRow rfl B.isinstance (b8 rfl Q_NoRow rfl (by decide)) (rvl 0) rfl rfl rfl) ad rfl) rfl) rfl) rfl)) rfl (Or.inl rfl) (by rw [hp];rfl)) (al (aO 1 sc_l_classes.nd rfl (Or.inl rfl) (ay aS bj (rvl 1) (aK (aa (b7 (cs:=[("NoNumber",false),("NoSigns",false),("NoSheet",false)]) (t:=V.ref c_Apart) (fun _ h=>h) T_Apart rfl B.isinstance (b8 rfl Q_Apart rfl (by decide)) (rvl 0) rfl rfl rfl) (aa (b7 (cs:=[("NoNumber",false),("NoSigns",false),("NoSheet",false)]) (t:=V.ref c_NoRing) (fun _ h=>h) T_NoRing rfl B.isinstance (b8 rfl Q_NoRing rfl (by decide)) (rvl 0) rfl rfl rfl) (aa (b7 (cs:=[("NoNumber",false),("NoSigns",false),("NoSheet",false)]) (t:=V.ref c_TooMany) (fun _ h=>h) T_TooMany rfl B.isinstance (b8 rfl Q_TooMany rfl (by decide)) (rvl 0) rfl rfl rfl) (aa (b7 (cs:=[("NoNumber",false),("NoSigns",false),("NoSheet",false)]) (t:=V.ref c_Bare) (fun _ h=>h) T_Bare rfl B.isinstance (b8 rfl Q_Bare rfl (by decide)) (rvl 0) rfl rfl rfl) ad rfl) rfl) rfl) rfl))) rfl (Or.inl rfl) (by rw [hp];rfl)) (am (aD 1 (fun i hi=>by rw [hp];exact av (by simpa using hi)) (ay aS bj (rvl 1) (aK (aa (b7 (cs:=[("NoNumber",false),("NoSigns",true),("NoSheet",false)]) (t:=V.ref c_NoSigns) (fun _ h=>h) T_NoSigns rfl B.isinstance (b8 rfl Q_NoSigns rfl (by decide)) (rvl 0) rfl rfl rfl) (aa (b7 (cs:=[("NoNumber",false),("NoSigns",false),("NoSheet",false)]) (t:=V.ref c_NoLine) (fun _ h=>h) T_NoLine rfl B.isinstance (b8 rfl Q_NoLine rfl (by decide)) (rvl 0) rfl rfl rfl) (aa (b7 (cs:=[("NoNumber",false),("NoSigns",false),("NoSheet",false)]) (t:=V.ref c_OnLine) (fun _ h=>h) T_OnLine rfl B.isinstance (b8 rfl Q_OnLine rfl (by decide)) (rvl 0) rfl rfl rfl) (aa (b7 (cs:=[("NoNumber",false),("NoSigns",false),("NoSheet",false)]) (t:=V.ref c_NoText) (fun _ h=>h) T_NoText rfl B.isinstance (b8 rfl Q_NoText rfl (by decide)) (rvl 0) rfl rfl rfl) ad rfl) rfl) rfl) rfl)))))))
noncomputable def lX:EM:=(ao eqX (ag 0) (ag 1))
noncomputable def lW:EM:=(bS (bE eR (ac (mC (.int 12)) ai)) (aW 0) fy lX [none,some 1])
noncomputable def qG:SM:=(aJ (sIf (cOr (gY (cB (mUn (gT [("NoNumber",true),("NoSigns",true),("NoSheet",true)]) (ag 0)))) (gY (cB (mUn (gT [("NoNumber",true),("NoSigns",true),("NoSheet",true)]) (ag 0))))) (bb 2 (mC (.bl false))) di) (bb 2 (ao eqX (au eK (ac (ag 0) ai)) lW)))
noncomputable def hJ:Fn:=fnM [false,false] 2 qG
theorem sO:FnScope ["_law_e","_law_place"] ["_law_e","_law_place"] (aj iu):=⟨rfl,rfl,rfl,by decide +kernel,rfl,by decide +kernel,by decide +kernel⟩
theorem nZ (B:Bl mg) (D:Def K mg "_law_only" iu) (C__law_classes_n:uF P w K mg base "_law_classes" 1 ["_law_e"] eK) {c_BentError:Addr} (Q_BentError:mg "BentError"=some (.ref c_BentError)) (T_BentError:IsX K (.ref c_BentError) [("NoNumber",true),("NoSigns",true),("NoSheet",true)]) (Z_ValueError:mg "ValueError"=none) (T_ValueError:IsX K (.type "ValueError") [("NoNumber",true),("NoSigns",true),("NoSheet",true)]):uF P w K mg base "_law_only" 2 ["_law_e","_law_place"] hJ :=
 sd (k:=1) D sO rfl rfl (hb2 fun _ _ _ _ _ _ _ _=>rfl) fun cdv A outer s H f G hr hD hp =>
  (al (b6 (m8 (jK (cW (cN (b7 (cs:=[("NoNumber",true),("NoSigns",true),("NoSheet",true)]) (t:=V.ref c_BentError) (fun _ h=>h) T_BentError rfl B.isinstance (b8 rfl Q_BentError rfl (by decide)) (rvl 0) rfl rfl rfl) (fun _=>rfl))) (fT (cW (cN (b7 (cs:=[("NoNumber",true),("NoSigns",true),("NoSheet",true)]) (t:=V.ty "ValueError") (fun _ h=>h) T_ValueError rfl B.isinstance (fi rfl Z_ValueError ol rfl (by decide) (by decide)) (rvl 0) rfl rfl rfl) (fun _=>rfl)))))) (am (aD 2 (fun i hi=>by rw [hp];exact av (by simpa using hi)) dA)) bA) (am (aD 2 (fun i hi=>by rw [hp];exact av (by simpa using hi)) (eC (bX hr.units) bY (o8 C__law_classes_n (hr.mono (by decide)) hD (aa (rvl 0) ad rfl) rfl (by decide) rfl rfl) (o5 ["_law_k","_law_place"] [none,some 1] hD (oZ rfl B.range (aa af ad rfl) rfl) (fun s H C fp hD=>bz) (fun s H C fp hD=>(eC (bX hr.units) bY (rvl 0) (rvc 1) (aQ _))) (by rfl) (bC (by decide)) (fun _=>rfl) ⟨_,aP rfl,fun s H C fp=>aX (i:=0) (show (["_law_k","_law_place"]:List Str).Nodup by decide +kernel) rfl (Or.inl rfl) (Or.inr rfl)⟩) (aQ _)))))
noncomputable def jM:SM:=(sIf (cB (ao eqX (ag 0) (mC (.int 0)))) (cq (cE eL (ac (ag 1) (ac (ag 2) ai)))) (sIf (cB (ao eqX (ag 0) (mC (.int 1)))) (cq (cE cn (ac (ag 1) (ac (ag 2) ai)))) (sIf (cB (ao eqX (ag 0) (mC (.int 2)))) (cq (cE cf (ac (mC .non) (ac (ag 1) (ac (ag 2) ai))))) (sIf (cB (ao eqX (ag 0) (mC (.int 3)))) (cq (cE cC (ac (ag 1) (ac (ag 2) ai)))) (sIf (cB (ao eqX (ag 0) (mC (.int 4)))) (cq (cE eO (ac (ag 1) ai))) (cq (cE fD (ac (ag 2) ai))))))))
noncomputable def el:Fn:=fnM [false,false,false] 3 jM
theorem qi:FnScope ["_law_kind","_law_many","_law_signs"] ["_law_kind","_law_many","_law_signs"] (aj gi):=⟨rfl,rfl,rfl,by decide +kernel,rfl,by decide +kernel,by decide +kernel⟩
theorem mf (B:Bl mg) (D:Def K mg "_law_asked" gi) (C_all_signs_x:cU P w K mg base "all_signs" 4 ["many"] eO) (C_are_signs_x:cU P w K mg base "are_signs" 4 ["many","thing"] eL) (C_cup_by_signs_x:cU P w K mg base "cup_by_signs" 5 ["many","signs"] cn) (C_is_ring_by_signs_x:cU P w K mg base "is_ring_by_signs" 5 ["thing","many","signs"] cf) (C_sheet_by_signs_x:cU P w K mg base "sheet_by_signs" 5 ["many","signs"] cC) (C_signs_of_x:cU P w K mg base "signs_of" 7 ["sheet"] fD):cU P w K mg base "_law_asked" 8 ["_law_kind","_law_many","_law_signs"] el :=
 cR (k:=7) D qi rfl rfl (hb3 fun _ _ _ _ _ _ _ _ _=>rfl) fun cdv A outer s H E f G W hr hp pa mk =>
  (am (b6 (bq (bX hr.units) bY (rvl 0) af (aQ _)) (am (bM (bG C_are_signs_x (hr.mono (by decide)) pa (aa (rvl 1) (aa (rvl 2) ad rfl) rfl) rfl (by decide) rfl rfl) rfl)) (am (b6 (bq (bX hr.units) bY (rvl 0) af (aQ _)) (am (bM (bG C_cup_by_signs_x (hr.mono (by decide)) pa (aa (rvl 1) (aa (rvl 2) ad rfl) rfl) rfl (by decide) rfl rfl) rfl)) (am (b6 (bq (bX hr.units) bY (rvl 0) af (aQ _)) (am (bM (bG C_is_ring_by_signs_x (hr.mono (by decide)) pa (aa fU (aa (rvl 1) (aa (rvl 2) ad rfl) rfl) rfl) rfl (by decide) rfl rfl) rfl)) (am (b6 (bq (bX hr.units) bY (rvl 0) af (aQ _)) (am (bM (bG C_sheet_by_signs_x (hr.mono (by decide)) pa (aa (rvl 1) (aa (rvl 2) ad rfl) rfl) rfl (by decide) rfl rfl) rfl)) (am (b6 (bq (bX hr.units) bY (rvl 0) af (aQ _)) (am (bM (bG C_all_signs_x (hr.mono (by decide)) pa (aa (rvl 1) ad rfl) rfl (by decide) rfl rfl) rfl)) (am (bM (bG C_signs_of_x (hr.mono (by decide)) pa (aa (rvl 2) ad rfl) rfl (by decide) rfl rfl) rfl))))))))))))
noncomputable def pO:M3 Bool:=(cB (au hJ (ac (ag 1) (ac (ag 0) ai))))
noncomputable def pN:EM:=(ag 0)
noncomputable def pM:EM:=(bS (bE eR (ac (mC (.int 12)) ai)) (aW 0) pO pN [none,some 3])
noncomputable def jL:SM:=(cq (cE el (ac (ag 0) (ac (ag 1) (ac (ag 2) ai)))))
noncomputable def pP:SM:=(bb 3 pM)
noncomputable def pQ:SM:=(aJ (ql ["NoNumber","NoSigns","NoSheet"] 3 jL pP) (bb 3 (aT ai)))
noncomputable def bg:Fn:=fnM [false,false,false] 4 pQ
theorem sc_l_told:FnScope ["_law_kind","_law_many","_law_signs","_law_e"] ["_law_kind","_law_many","_law_signs"] (aj iq):=⟨rfl,rfl,rfl,by decide +kernel,rfl,by decide +kernel,by decide +kernel⟩
theorem rj (B:Bl mg) (D:Def K mg "_law_told" iq) (C__law_asked_x:cU P w K mg base "_law_asked" 8 ["_law_kind","_law_many","_law_signs"] el) (C__law_only_n:uF P w K mg base "_law_only" 2 ["_law_e","_law_place"] hJ) {c_BentError:Addr} (Q_BentError:mg "BentError"=some (.ref c_BentError)) (R_BentError:ExX K c_BentError ["NoNumber","NoSigns","NoSheet"]):aU P w K mg base "_law_told" 9 ["_law_kind","_law_many","_law_signs"] bg :=
 xZ (k:=8) D sc_l_told rfl rfl (hb3 fun _ _ _ _ _ _ _ _ _=>rfl) fun cdv A outer s H E f G hr hp =>
  (sT (zy (cs:=["NoNumber","NoSigns","NoSheet"]) (i:=3) rfl rfl rfl sc_l_told.nd rfl (by decide) Q_BentError R_BentError rfl (.inr ⟨rfl,rfl⟩) (by rw [hp];rfl) (fun E pn W pa=>(am (bM (bG C__law_asked_x (hr.mono (by decide)) pa (aa (rvl 0) (aa (rvl 1) (aa (rvl 2) ad rfl) rfl) rfl) rfl (by decide) rfl rfl) rfl))) fun ae ob cls hD=>(am (aD 3 (fun i hi=>by rw [hp];exact av (by simpa using hi)) (o5 ["_law_place","_law_e"] [none,some 3] hD (oZ rfl B.range (aa af ad rfl) rfl) (fun s H C fp hD=>(dM (cN (o8 C__law_only_n ((hr.mark (some (.ref ae))).mono (by decide)) hD (aa (rvc 1) (aa (rvl 0) ad rfl) rfl) rfl (by decide) rfl rfl) (fun _=>rfl)))) (fun s H C fp hD=>(rvl 0)) (by rfl) (bC (by decide)) (fun _=>rfl) ⟨_,aP rfl,fun s H C fp=>aX (i:=0) (show (["_law_place","_law_e"]:List Str).Nodup by decide +kernel) rfl (Or.inl rfl) (Or.inr rfl)⟩)))) (u7 ((aD 3 (fun i hi=>by rw [hp];exact av (by simpa using hi)) (aK ad))).one))
noncomputable def vH:EM:=(au bg (ac (ag 0) (ac (ag 1) (ac (ag 2) ai))))
noncomputable def pL:EM:=(bS (bE eR (ac (mC (.int 5)) ai)) (aW 0) fy vH [none,some 3,some 4])
noncomputable def vG:EM:=(au bg (ac (ag 0) (ac (mC (.int 3)) (ac (ag 1) ai))))
noncomputable def pK:EM:=(bS (bE eR (ac (mC (.int 5)) ai)) (aW 0) fy vG [none,some 4])
noncomputable def vF:EM:=(au bg (ac (ag 0) (ac (mC (.int 4)) (ac (aL (ac (mC (.int 1)) (ac (mUn i9 (mC (.int 1))) (ac (mC (.int 1)) (ac (mC (.int 1)) ai))))) ai))))
noncomputable def pJ:EM:=(bS (bE eR (ac (mC (.int 4)) ai)) (aW 0) fy vF [none])
noncomputable def iI:SM:=(aJ (bK 2 (au kD (ac (ag 0) (ac (ag 1) ai)))) (aJ (bK 3 (ao a9 (aT (ac (mC (.int 0)) (ac (mC (.int 25)) (ac (ao iZ (mUn i9 (mC (.int 1))) (au bV (ac (ag 2) (ac (mC (.int 9)) ai)))) (ac (mC (.bl true)) (ac (mC .non) (ac (mC (.str "3")) (ac (aL (ac (mC (.int 3)) ai)) (ac (ao xu (mC (.int 10)) (mC (.int 29))) ai))))))))) (au bV (ac (ag 2) (ac (mC (.int 8)) ai))))) (aJ (bK 4 (ao a9 (aT (ac (mC .non) (ac (aL ai) (ac (aL (ac (mC (.int 0)) ai)) (ac (aL (ac (mC (.bl true)) ai)) (ac (aT (ac (mC (.int 1)) ai)) (ac (aL (ac (mC (.int 1)) (ac (mC (.int 1)) ai))) (ac (mC (.str "1")) (ac (aL (ac (mC (.int 2)) ai)) (ac (aL (ac (aL (ac (mC (.int 1)) ai)) ai)) (ac jt ai))))))))))) (au bV (ac (ag 2) (ac (mC (.int 10)) ai))))) (aJ (sIf (cB (ao neX pL (aT (ac (aT (ac (mC (.int 2)) ai)) (ac (aT (ac (mC (.int 2)) ai)) (ac (aT (ac (mC (.int 2)) ai)) (ac (aT (ac (mC (.int 2)) ai)) (ac (aT (ac (mC (.int 2)) ai)) ai)))))))) (bb 1 (mC (.bl false))) di) (aJ (sIf (cB (ao neX pK (aT (ac (aT ai) (ac (aT (ac (mC (.int 8)) ai)) (ac (aT (ac (mC (.int 8)) ai)) (ac (aT (ac (mC (.int 8)) ai)) (ac (aT ai) ai)))))))) (bb 1 (mC (.bl false))) di) (aJ (sIf (cB (ao neX (au bg (ac (mC (.int 5)) (ac (mC (.int 3)) (ac (au dH (ac (ag 2) ai)) ai)))) (aT (ac (mC (.int 0)) ai)))) (bb 1 (mC (.bl false))) di) (aJ (sIf (cOr (cB (ao neX (au bg (ac (mC (.int 3)) (ac (ao cy (mC (.int 5)) (au bV (ac (ag 2) (ac (mC (.int 20)) ai)))) (ac (aL ai) ai)))) (aT (ac (mC (.int 2)) ai)))) (cB (ao neX (au bg (ac (mC (.int 4)) (ac (ao cy (mC (.int 6)) (au bV (ac (ag 2) (ac (mC (.int 19)) ai)))) (ac (aL ai) ai)))) (aT (ac (mC (.int 2)) ai))))) (bb 1 (mC (.bl false))) di) (aJ (sIf (cB (ao neX pJ (aT (ac (aT ai) (ac (aT (ac (mC (.int 8)) ai)) (ac (aT (ac (mC (.int 8)) ai)) (ac (aT (ac (mC (.int 8)) ai)) ai))))))) (bb 1 (mC (.bl false))) di) (sIf (cOr (cB (ao neX (au bg (ac (mC (.int 0)) (ac (mC (.int 9)) (ac (ao kW (aL (ac (mC (.int 1)) ai)) (mC (.int 84))) ai)))) (aT ai))) (cB (ao neX (au bg (ac (mC (.int 1)) (ac (mC (.int 9)) (ac (ao kW (aL (ac (mUn i9 (mC (.int 1))) ai)) (mC (.int 84))) ai)))) (aT ai)))) (bb 1 (mC (.bl false))) di)))))))))
noncomputable def yF:SM:=(aJ (gw (bE eR (ac (aG yE (ac (mC (.int 1)) (ac (aG yC (ac (aG fL (ac (ag 0) ai)) (ac (mC (.int 5)) ai))) ai))) ai)) (aW 1) iI) (bb 1 (mC (.bl true))))
noncomputable def yV:Fn:=fnM [false] 5 yF
theorem sc_law:FnScope ["_law_script","_law_k","_law_box_here","_law_none","_law_bad"] ["_law_script"] (aj fS):=⟨rfl,rfl,rfl,by decide +kernel,rfl,by decide +kernel,by decide +kernel⟩
theorem xY {f:Addr} {fd:FuncData} (B:Bl mg) (D:Fun K "law" "law" fS f fd) (C__law_box:aU P w K mg base "_law_box" 1 ["_law_script","_law_k"] kD) (C__law_no_sheet:aU P w K mg base "_law_no_sheet" 2 ["_law_box_here"] dH) (C__law_take:aU P w K mg base "_law_take" 1 ["_law_box_here","_law_many"] bV) (C__law_told:aU P w K mg base "_law_told" 9 ["_law_kind","_law_many","_law_signs"] bg):FnOk P w K mg base CX0 10 f fd ["_law_script"] (qf K yV) :=
 At (k:=9) D sc_law rfl rfl fun cdv A outer s H E f G hr hp =>
  (al (dL PassesOwn.never rfl (cA rfl B.range (aa (aF (ux rfl) yg rfl B.max ww (aa af (aa (aF (uq rfl) x6 rfl B.min wv (aa (aF aH ce rfl B.len dn (aa (rvl 0) ad rfl) (by decide) (by decide) rfl rfl) (aa af ad rfl) rfl) (by decide) (by decide) rfl rfl) ad rfl) rfl) (by decide) (by decide) rfl rfl) ad rfl) rfl) (cj 1 sc_law.nd rfl (Or.inl rfl) (Or.inl rfl) (by rw [hp];rfl)) (al (aO 2 sc_law.nd rfl (Or.inl rfl) (aq C__law_box (hr.mono (by decide)) (aa (rvl 0) (aa (rvl 1) ad rfl) rfl) rfl (by decide) rfl rfl) rfl (Or.inl rfl) (by rw [hp];rfl)) (al (aO 3 sc_law.nd rfl (Or.inr rfl) (aI (aC hr.hu) aB (aK (aa af (aa af (aa (ay dN cO (gB en et af) (aq C__law_take (hr.mono (by decide)) (aa (rvl 2) (aa af ad rfl) rfl) rfl (by decide) rfl rfl)) (aa dA (aa fU (aa gL (aa (aA (aa af ad rfl)) (aa (ay z8 xG af af) ad rfl) rfl) rfl) rfl) rfl) rfl) rfl) rfl)) (aq C__law_take (hr.mono (by decide)) (aa (rvl 2) (aa af ad rfl) rfl) rfl (by decide) rfl rfl) (fun _ _=>rfl)) rfl (Or.inl rfl) (by rw [hp];rfl)) (al (aO 4 sc_law.nd rfl (Or.inr rfl) (aI (aC hr.hu) aB (aK (aa fU (aa (aA ad) (aa (aA (aa af ad rfl)) (aa (aA (aa dA ad rfl)) (aa (aK (aa af ad rfl)) (aa (aA (aa af (aa af ad rfl) rfl)) (aa gL (aa (aA (aa af ad rfl)) (aa (aA (aa (aA (aa af ad rfl)) ad rfl)) (aa iy ad rfl) rfl) rfl) rfl) rfl) rfl) rfl) rfl) rfl) rfl)) (aq C__law_take (hr.mono (by decide)) (aa (rvl 2) (aa af ad rfl) rfl) rfl (by decide) rfl rfl) (fun _ _=>rfl)) rfl (Or.inl rfl) (by rw [hp];rfl)) (al (b6 (bq (eD hr.units) eE (bo ["_law_kind","_law_none","_law_bad"] [none,some 3,some 4] rfl (cA rfl B.range (aa af ad rfl) rfl) (fun s H C fp=>bz) (fun s H C fp=>(aq C__law_told (hr.mono (by decide)) (aa (rvl 0) (aa (rvc 1) (aa (rvc 2) ad rfl) rfl) rfl) rfl (by decide) rfl rfl)) (by rfl) (bC (by decide)) (fun _=>rfl) ⟨_,aP rfl,fun s H C fp=>aX (i:=0) (show (["_law_kind","_law_none","_law_bad"]:List Str).Nodup by decide +kernel) rfl (Or.inl rfl) (Or.inr rfl)⟩) (aK (aa (aK (aa af ad rfl)) (aa (aK (aa af ad rfl)) (aa (aK (aa af ad rfl)) (aa (aK (aa af ad rfl)) (aa (aK (aa af ad rfl)) ad rfl) rfl) rfl) rfl) rfl)) (aQ _)) (am (aD 1 (fun i hi=>by rw [hp];exact av (by simpa using hi)) dA)) bA) (al (b6 (bq (eD hr.units) eE (bo ["_law_kind","_law_bad"] [none,some 4] rfl (cA rfl B.range (aa af ad rfl) rfl) (fun s H C fp=>bz) (fun s H C fp=>(aq C__law_told (hr.mono (by decide)) (aa (rvl 0) (aa af (aa (rvc 1) ad rfl) rfl) rfl) rfl (by decide) rfl rfl)) (by rfl) (bC (by decide)) (fun _=>rfl) ⟨_,aP rfl,fun s H C fp=>aX (i:=0) (show (["_law_kind","_law_bad"]:List Str).Nodup by decide +kernel) rfl (Or.inl rfl) (Or.inr rfl)⟩) (aK (aa (aK ad) (aa (aK (aa af ad rfl)) (aa (aK (aa af ad rfl)) (aa (aK (aa af ad rfl)) (aa (aK ad) ad rfl) rfl) rfl) rfl) rfl)) (aQ _)) (am (aD 1 (fun i hi=>by rw [hp];exact av (by simpa using hi)) dA)) bA) (al (b6 (bq (eD hr.units) eE (aq C__law_told (hr.mono (by decide)) (aa af (aa af (aa (aq C__law_no_sheet (hr.mono (by decide)) (aa (rvl 2) ad rfl) rfl (by decide) rfl rfl) ad rfl) rfl) rfl) rfl (by decide) rfl rfl) (aK (aa af ad rfl)) (aQ _)) (am (aD 1 (fun i hi=>by rw [hp];exact av (by simpa using hi)) dA)) bA) (al (b6 (m8 (jK (bq (eD hr.units) eE (aq C__law_told (hr.mono (by decide)) (aa af (aa (ay aS bj af (aq C__law_take (hr.mono (by decide)) (aa (rvl 2) (aa af ad rfl) rfl) rfl (by decide) rfl rfl)) (aa (aA ad) ad rfl) rfl) rfl) rfl (by decide) rfl rfl) (aK (aa af ad rfl)) (aQ _)) (fT (bq (eD hr.units) eE (aq C__law_told (hr.mono (by decide)) (aa af (aa (ay aS bj af (aq C__law_take (hr.mono (by decide)) (aa (rvl 2) (aa af ad rfl) rfl) rfl (by decide) rfl rfl)) (aa (aA ad) ad rfl) rfl) rfl) rfl (by decide) rfl rfl) (aK (aa af ad rfl)) (aQ _))))) (am (aD 1 (fun i hi=>by rw [hp];exact av (by simpa using hi)) dA)) bA) (al (b6 (bq (eD hr.units) eE (bo ["_law_kind"] [none] rfl (cA rfl B.range (aa af ad rfl) rfl) (fun s H C fp=>bz) (fun s H C fp=>(aq C__law_told (hr.mono (by decide)) (aa (rvl 0) (aa af (aa (aA (aa af (aa (gB en et af) (aa af (aa af ad rfl) rfl) rfl) rfl)) ad rfl) rfl) rfl) rfl (by decide) rfl rfl)) (by rfl) (bC (by decide)) (fun _=>rfl) ⟨_,aP rfl,fun s H C fp=>aX (i:=0) (show (["_law_kind"]:List Str).Nodup by decide +kernel) rfl (Or.inl rfl) (Or.inr rfl)⟩) (aK (aa (aK ad) (aa (aK (aa af ad rfl)) (aa (aK (aa af ad rfl)) (aa (aK (aa af ad rfl)) ad rfl) rfl) rfl) rfl)) (aQ _)) (am (aD 1 (fun i hi=>by rw [hp];exact av (by simpa using hi)) dA)) bA) (am (b6 (m8 (jK (bq (eD hr.units) eE (aq C__law_told (hr.mono (by decide)) (aa af (aa af (aa (ay rO rP (aA (aa af ad rfl)) af) ad rfl) rfl) rfl) rfl (by decide) rfl rfl) (aK ad) (aQ _)) (fT (bq (eD hr.units) eE (aq C__law_told (hr.mono (by decide)) (aa af (aa af (aa (ay rO rP (aA (aa (gB en et af) ad rfl)) af) ad rfl) rfl) rfl) rfl (by decide) rfl rfl) (aK ad) (aQ _))))) (am (aD 1 (fun i hi=>by rw [hp];exact av (by simpa using hi)) dA)) bA)))))))))) (fun _=>rfl)) (am (aD 1 (fun i hi=>by rw [hp];exact av (by simpa using hi)) dA)))
end
set_option tactic.hygienic true in
theorem eQ (n m:Int) (h:0 < m/\m < 1073741824):bV [(.lst [.int n],.u),(.int m,.z)]=some (.ok (.int (n % m),.z),[(.lst [.int (n / m)],.u),(.int m,.z)]):=by
 have hd:we [.int n,.int m]=some (.tup [.int (n / m),.int (n % m)],.z):=by simp [c2,pU,h]
 apply jT (ρ:=[some (.lst [.int n],.u),some (.int m,.z),none,none]) rfl rfl
 ·apply bc
  ·(repeat' (first | infer_instance | exact hd | eq_refl))
  ·apply bc
   ·(repeat' (first | infer_instance | eq_refl))
   ·(repeat' (first | infer_instance | eq_refl))
 ·rfl
theorem sf (c:Int) (m:Int) (h:0 < m):0<=c % m/\c % m < m:=⟨Int.emod_nonneg _ (by omega),Int.emod_lt_of_pos _ h⟩
set_option tactic.hygienic true in
theorem wr (S kk:L3.D) (c n j:Int) (v5:Option (L3.D × Fl)):∃ n' p',fk [some (S,.z),some (kk,.z),some (.int c,.z),some (.int n,.z),some (.int j,.z),v5]=some (.ok .nx,[some (S,.z),some (kk,.z),some (.int c,.z),some (.int n',.z),some (.int j,.z),some (.int p',.z)]):=by
 have b:∀ x:Int,-18446744073709551616 < x % 2147483647/\x % 2147483647 < 18446744073709551616:=fun x=>by have:=sf x 2147483647 (by decide);omega
 have b2:∀ x:Int,-18446744073709551616 < x % 2147483629/\x % 2147483629 < 18446744073709551616:=fun x=>by have:=sf x 2147483629 (by decide);omega
 apply Exists.intro
 apply Exists.intro
 apply bc
 ·(repeat' (first | infer_instance | exact yA (by decide) | exact pw (by decide) | eq_refl))
 ·apply bc
  ·(repeat' (first | infer_instance | exact pw (b _) | eq_refl))
  ·(repeat' (first | infer_instance | exact yA (by decide) | exact pw (b2 _) | eq_refl))
set_option tactic.hygienic true in
theorem p9 (S kk:L3.D) (c:Int):∃ (n:Int) (v3 v4 v5:Option (L3.D × Fl)),(aJ (sIf (cB (ao eqX (ao qA (ag 2) (mC (.int 2))) (mC (.int 0)))) (bb 2 (aT (ac (ao Aw (ag 2) (mC (.int 2))) ai))) di) (aJ (bK 3 (mC (.int 0))) (aJ (gw (bE eR (ac (mC (.int 16)) ai)) (aW 4) fk) (bb 2 (aT (ac (ag 3) ai)))))) [some (S,.z),some (kk,.z),some (.int c,.z),none,none,none]=some (.ok (.rt (.lst [.int n]) .u),[some (S,.z),some (kk,.z),some (.int c,.z),v3,v4,v5]):=by
 by_cases h:c % 2=0
 ·refine ⟨c / 2,none,none,none,?_⟩
  apply zq
  apply vZ
  ·(repeat' (first | infer_instance | eq_refl))
  ·exact A9 h
  ·(repeat' (first | infer_instance | eq_refl))
 ·obtain ⟨ρ',e,n,v4,v5,rfl⟩:=lq (bnd:=aW 4) (b:=fk) (fun _ ρ=>∃ (n:Int) (v4 v5:Option (L3.D × Fl)),ρ=[some (S,.z),some (kk,.z),some (.int c,.z),some (.int n,.z),v4,v5]) (ds:=gK 0 16) (ρ:=[some (S,.z),some (kk,.z),some (.int c,.z),some (.int 0,.z),none,none]) (k:=0) ⟨0,none,none,rfl⟩ (by
   rintro i d ρ hd ⟨n,v4,v5,rfl⟩
   obtain ⟨hi,rfl⟩:=oY hd
   obtain ⟨n',p',e⟩:=wr S kk c n (0+(i:Int)) v5
   exact ⟨_,_,rfl,.inl e,_,_,_,rfl⟩)
  refine ⟨n,some (.int n,.z),v4,v5,?_⟩
  apply bc
  ·apply mI
   ·(repeat' (first | infer_instance | eq_refl))
   ·exact Ba h
   ·rfl
  apply bc
  ·(repeat' (first | infer_instance | eq_refl))
  apply bc
  ·apply yI
   ·exact vX (by (repeat' (first | infer_instance | eq_refl))) rfl (rE (n:=16) (by decide) (by decide))
   ·rfl
   ·exact e
  ·(repeat' (first | infer_instance | eq_refl))
set_option tactic.hygienic true in
theorem xg (ns:List Int) (k:Nat):∃ n:Int,kD [(.fls (ns.map .int),.z),(.int k,.z)]=some (.ok (.lst [.int n],.u),[(.fls (ns.map .int),.z),(.int k,.z)]):=by
 by_cases h:k < ns.length
 ·obtain ⟨n,v3,v4,v5,e⟩:=p9 (.fls (ns.map .int)) (.int k) ns[k]
  refine ⟨n,?_⟩
  have a:a9 (.fls (ns.map .int)) (.int (k:Int))=some (.int ns[k],.z):=by
   have:L2.atI (ns.map L3.D.int) (k:Int)=some (.int ns[k]):=yi (by simp [h])
   simp [orD,ixD,this]
  have hk:(k:Int) < ((ns.map L3.D.int).length:Int):=by simp;omega
  generalize (k:Int)=kk at *
  apply jT (ρ:=[some (.fls (ns.map .int),.z),some (.int kk,.z),none,none,none,none]) rfl rfl
  ·apply bc
   ·(repeat' (first | infer_instance | exact pw (by decide) | eq_refl))
   apply bc
   ·apply vZ
    ·(repeat' (first | infer_instance | eq_refl))
    ·exact A9 hk
    ·(repeat' (first | infer_instance | exact a | eq_refl))
   ·exact e
  ·rfl
 ·obtain ⟨n,v3,v4,v5,e⟩:=p9 (.fls (ns.map .int)) (.int k) (7919 * (k:Int)+13)
  refine ⟨n,?_⟩
  have hk:¬ (k:Int) < ((ns.map L3.D.int).length:Int):=by simp;omega
  generalize (k:Int)=kk at *
  apply jT (ρ:=[some (.fls (ns.map .int),.z),some (.int kk,.z),none,none,none,none]) rfl rfl
  ·apply bc
   ·(repeat' (first | infer_instance | exact pw (by decide) | eq_refl))
   apply bc
   ·apply mI
    ·(repeat' (first | infer_instance | eq_refl))
    ·exact Ba hk
    ·rfl
   ·exact e
  ·rfl
noncomputable def nv (a:Nat):List L3.D:=[.int 0,.int 25,.int (-1 - (a:Int)),.bl true,.non,.str "3",.tup [.int 3],.int 100000000000000000000000000000]
noncomputable def bv:List L3.D:=[.non,.tup [],.tup [.int 0],.tup [.bl true],.lst [.int 1],.tup [.int 1,.int 1],.str "1",.tup [.int 2],.tup [.tup [.int 1]],.dt []]
noncomputable def sv:List L3.D:=[.non,.tup [],.tup [.tup [.int 0,.int 0],.tup [.int 0,.int 1]],.tup [.tup [.int 1,.int 0],.tup [.int 0,.int 0]],.tup [.tup [.int 0,.int 0],.tup [.int 1,.int 1],.tup [.int 2,.int 2]],.lst [.tup [.int 0,.int 0]],.tup [.tup [.int 0,.int 0,.int 0]],.tup [.tup [.int 0,.bl true]],.tup [.tup [.int 0,.str "0"]],.tup [.int 0,.int 0],.str "0,0",.dt [],.tup [.tup [.int 0,.int 0],.non],.tup [.tup [.int 0,.int 0],.tup [.int 1,.int 1],.tup [.int 2,.int 4],.tup [.int 3,.int 9],.tup [.int 4,.int 16],.tup [.int 5,.int 25],.tup [.int 6,.int 36],.tup [.int 7,.int 49],.tup [.int 8,.int 64],.tup [.int 9,.int 81],.tup [.int 10,.int 100],.tup [.int 11,.int 121],.tup [.int 12,.int 144],.tup [.int 13,.int 169],.tup [.int 14,.int 196],.tup [.int 15,.int 225],.tup [.int 16,.int 256],.tup [.int 17,.int 289],.tup [.int 18,.int 324],.tup [.int 19,.int 361],.tup [.int 20,.int 400],.tup [.int 21,.int 441],.tup [.int 22,.int 484],.tup [.int 23,.int 529],.tup [.int 24,.int 576]]]
noncomputable def T1 (N:L3.D):Prop:=∀ S K B b:L3.D,(sIf (cB (ao neX pL (aT (ac (aT (ac (mC (.int 2)) ai)) (ac (aT (ac (mC (.int 2)) ai)) (ac (aT (ac (mC (.int 2)) ai)) (ac (aT (ac (mC (.int 2)) ai)) (ac (aT (ac (mC (.int 2)) ai)) ai)))))))) (bb 1 (mC (.bl false))) di) [some (S,.z),some (K,.z),some (B,.u),some (N,.z),some (b,.z)]=some (.ok .nx,[some (S,.z),some (K,.z),some (B,.u),some (N,.z),some (b,.z)])
noncomputable def T2 (b:L3.D):Prop:=∀ S K B N:L3.D,(sIf (cB (ao neX pK (aT (ac (aT ai) (ac (aT (ac (mC (.int 8)) ai)) (ac (aT (ac (mC (.int 8)) ai)) (ac (aT (ac (mC (.int 8)) ai)) (ac (aT ai) ai)))))))) (bb 1 (mC (.bl false))) di) [some (S,.z),some (K,.z),some (B,.u),some (N,.z),some (b,.z)]=some (.ok .nx,[some (S,.z),some (K,.z),some (B,.u),some (N,.z),some (b,.z)])
noncomputable def T3 (v:L3.D):Prop:=bg [(.int 5,.z),(.int 3,.z),(v,.z)]=some (.ok (.lst [.int 0],.u),[(.int 5,.z),(.int 3,.z),(v,.z)])
noncomputable def T4 (k:Int) (m:Int):Prop:=bg [(.int k,.z),(.int m,.z),(.tup [],.z)]=some (.ok (.lst [.int 2],.u),[(.int k,.z),(.int m,.z),(.tup [],.z)])
theorem neg1:∀ a:Nat,a < 9->T1 (.int (-1 - (a:Int)))
 | 0,_=>fun _ _ _ _=>by kernel_rfl
 | 1,_=>fun _ _ _ _=>by kernel_rfl
 | 2,_=>fun _ _ _ _=>by kernel_rfl
 | 3,_=>fun _ _ _ _=>by kernel_rfl
 | 4,_=>fun _ _ _ _=>by kernel_rfl
 | 5,_=>fun _ _ _ _=>by kernel_rfl
 | 6,_=>fun _ _ _ _=>by kernel_rfl
 | 7,_=>fun _ _ _ _=>by kernel_rfl
 | 8,_=>fun _ _ _ _=>by kernel_rfl
 | a+9,h=>absurd h (by omega)
theorem n_at (a:Nat) (ha:a < 9):∀ i:Nat,i < 8->∃ N,a9 (.lst (nv a)) (.int i)=some (N,.z)/\T1 N
 | 0,_=>⟨_,rfl,fun _ _ _ _=>by kernel_rfl⟩
 | 1,_=>⟨_,rfl,fun _ _ _ _=>by kernel_rfl⟩
 | 2,_=>⟨_,rfl,neg1 a ha⟩
 | 3,_=>⟨_,rfl,fun _ _ _ _=>by kernel_rfl⟩
 | 4,_=>⟨_,rfl,fun _ _ _ _=>by kernel_rfl⟩
 | 5,_=>⟨_,rfl,fun _ _ _ _=>by kernel_rfl⟩
 | 6,_=>⟨_,rfl,fun _ _ _ _=>by kernel_rfl⟩
 | 7,_=>⟨_,rfl,fun _ _ _ _=>by kernel_rfl⟩
 | i+8,h=>absurd h (by omega)
theorem b_at:∀ i:Nat,i < 10->∃ b,a9 (.lst bv) (.int i)=some (b,.z)/\T2 b
 | 0,_=>⟨_,rfl,fun _ _ _ _=>by kernel_rfl⟩
 | 1,_=>⟨_,rfl,fun _ _ _ _=>by kernel_rfl⟩
 | 2,_=>⟨_,rfl,fun _ _ _ _=>by kernel_rfl⟩
 | 3,_=>⟨_,rfl,fun _ _ _ _=>by kernel_rfl⟩
 | 4,_=>⟨_,rfl,fun _ _ _ _=>by kernel_rfl⟩
 | 5,_=>⟨_,rfl,fun _ _ _ _=>by kernel_rfl⟩
 | 6,_=>⟨_,rfl,fun _ _ _ _=>by kernel_rfl⟩
 | 7,_=>⟨_,rfl,fun _ _ _ _=>by kernel_rfl⟩
 | 8,_=>⟨_,rfl,fun _ _ _ _=>by kernel_rfl⟩
 | 9,_=>⟨_,rfl,fun _ _ _ _=>by kernel_rfl⟩
 | i+10,h=>absurd h (by omega)
theorem s_at:∀ i:Nat,i < 14->∃ v,a9 (.lst sv) (.int i)=some (v,.z)/\T3 v
 | 0,_=>⟨_,rfl,by unfold T3;kernel_rfl⟩
 | 1,_=>⟨_,rfl,by unfold T3;kernel_rfl⟩
 | 2,_=>⟨_,rfl,by unfold T3;kernel_rfl⟩
 | 3,_=>⟨_,rfl,by unfold T3;kernel_rfl⟩
 | 4,_=>⟨_,rfl,by unfold T3;kernel_rfl⟩
 | 5,_=>⟨_,rfl,by unfold T3;kernel_rfl⟩
 | 6,_=>⟨_,rfl,by unfold T3;kernel_rfl⟩
 | 7,_=>⟨_,rfl,by unfold T3;kernel_rfl⟩
 | 8,_=>⟨_,rfl,by unfold T3;kernel_rfl⟩
 | 9,_=>⟨_,rfl,by unfold T3;kernel_rfl⟩
 | 10,_=>⟨_,rfl,by unfold T3;kernel_rfl⟩
 | 11,_=>⟨_,rfl,by unfold T3;kernel_rfl⟩
 | 12,_=>⟨_,rfl,by unfold T3;kernel_rfl⟩
 | 13,_=>⟨_,rfl,by unfold T3;kernel_rfl⟩
 | i+14,h=>absurd h (by omega)
theorem t3:∀ i:Nat,i < 20->T4 3 (5+(i:Int))
 | 0,_=>by unfold T4;kernel_rfl
 | 1,_=>by unfold T4;kernel_rfl
 | 2,_=>by unfold T4;kernel_rfl
 | 3,_=>by unfold T4;kernel_rfl
 | 4,_=>by unfold T4;kernel_rfl
 | 5,_=>by unfold T4;kernel_rfl
 | 6,_=>by unfold T4;kernel_rfl
 | 7,_=>by unfold T4;kernel_rfl
 | 8,_=>by unfold T4;kernel_rfl
 | 9,_=>by unfold T4;kernel_rfl
 | 10,_=>by unfold T4;kernel_rfl
 | 11,_=>by unfold T4;kernel_rfl
 | 12,_=>by unfold T4;kernel_rfl
 | 13,_=>by unfold T4;kernel_rfl
 | 14,_=>by unfold T4;kernel_rfl
 | 15,_=>by unfold T4;kernel_rfl
 | 16,_=>by unfold T4;kernel_rfl
 | 17,_=>by unfold T4;kernel_rfl
 | 18,_=>by unfold T4;kernel_rfl
 | 19,_=>by unfold T4;kernel_rfl
 | i+20,h=>absurd h (by omega)
theorem t4:∀ i:Nat,i < 19->T4 4 (6+(i:Int))
 | 0,_=>by unfold T4;kernel_rfl
 | 1,_=>by unfold T4;kernel_rfl
 | 2,_=>by unfold T4;kernel_rfl
 | 3,_=>by unfold T4;kernel_rfl
 | 4,_=>by unfold T4;kernel_rfl
 | 5,_=>by unfold T4;kernel_rfl
 | 6,_=>by unfold T4;kernel_rfl
 | 7,_=>by unfold T4;kernel_rfl
 | 8,_=>by unfold T4;kernel_rfl
 | 9,_=>by unfold T4;kernel_rfl
 | 10,_=>by unfold T4;kernel_rfl
 | 11,_=>by unfold T4;kernel_rfl
 | 12,_=>by unfold T4;kernel_rfl
 | 13,_=>by unfold T4;kernel_rfl
 | 14,_=>by unfold T4;kernel_rfl
 | 15,_=>by unfold T4;kernel_rfl
 | 16,_=>by unfold T4;kernel_rfl
 | 17,_=>by unfold T4;kernel_rfl
 | 18,_=>by unfold T4;kernel_rfl
 | i+19,h=>absurd h (by omega)
section
variable {ρ ρ1 ρ2:Sto} {ms:M3 (List R3)} {rs:List R3} {d:L3.D} {fl:Fl} {sa sb:SM}
theorem rZ {F:Fn} {ps qs:List (L3.D × Fl)} (hF:F ps=some (.ok (d,fl),qs)) (h1:ms ρ=some (.ok rs,ρ1)) (h2:prs (frz (gb rs) ρ1) rs=some ps) (h3:qs.length=ps.length) (h4:back rs ps qs (frz (gb rs) ρ1) = ρ2):cE F ms ρ=some (.ok (.val d fl),ρ2):=by
 simp only [cE,ak,h1,h2,hF,h3,if_true,h4]
theorem Ao {cs:List String} {i:Nat} (h1:sa ρ=some (.ok .nx,ρ1)):ql cs i sa sb ρ=some (.ok .nx,ρ1):=by
 simp only [ql,h1]
end
noncomputable def sm:L3.D:=.tup (List.replicate 84 (.int (-1)))
noncomputable def tt:L3.D:=.dt [([.inl 0,.inl 1,.inl 2],.int (-1)),([.inl 0,.inl 1,.inl 3],.int (-1)),([.inl 0,.inl 1,.inl 4],.int (-1)),([.inl 0,.inl 1,.inl 5],.int (-1)),([.inl 0,.inl 1,.inl 6],.int (-1)),([.inl 0,.inl 1,.inl 7],.int (-1)),([.inl 0,.inl 1,.inl 8],.int (-1)),([.inl 0,.inl 2,.inl 3],.int (-1)),([.inl 0,.inl 2,.inl 4],.int (-1)),([.inl 0,.inl 2,.inl 5],.int (-1)),([.inl 0,.inl 2,.inl 6],.int (-1)),([.inl 0,.inl 2,.inl 7],.int (-1)),([.inl 0,.inl 2,.inl 8],.int (-1)),([.inl 0,.inl 3,.inl 4],.int (-1)),([.inl 0,.inl 3,.inl 5],.int (-1)),([.inl 0,.inl 3,.inl 6],.int (-1)),([.inl 0,.inl 3,.inl 7],.int (-1)),([.inl 0,.inl 3,.inl 8],.int (-1)),([.inl 0,.inl 4,.inl 5],.int (-1)),([.inl 0,.inl 4,.inl 6],.int (-1)),([.inl 0,.inl 4,.inl 7],.int (-1)),([.inl 0,.inl 4,.inl 8],.int (-1)),([.inl 0,.inl 5,.inl 6],.int (-1)),([.inl 0,.inl 5,.inl 7],.int (-1)),([.inl 0,.inl 5,.inl 8],.int (-1)),([.inl 0,.inl 6,.inl 7],.int (-1)),([.inl 0,.inl 6,.inl 8],.int (-1)),([.inl 0,.inl 7,.inl 8],.int (-1)),([.inl 1,.inl 2,.inl 3],.int (-1)),([.inl 1,.inl 2,.inl 4],.int (-1)),([.inl 1,.inl 2,.inl 5],.int (-1)),([.inl 1,.inl 2,.inl 6],.int (-1)),([.inl 1,.inl 2,.inl 7],.int (-1)),([.inl 1,.inl 2,.inl 8],.int (-1)),([.inl 1,.inl 3,.inl 4],.int (-1)),([.inl 1,.inl 3,.inl 5],.int (-1)),([.inl 1,.inl 3,.inl 6],.int (-1)),([.inl 1,.inl 3,.inl 7],.int (-1)),([.inl 1,.inl 3,.inl 8],.int (-1)),([.inl 1,.inl 4,.inl 5],.int (-1)),([.inl 1,.inl 4,.inl 6],.int (-1)),([.inl 1,.inl 4,.inl 7],.int (-1)),([.inl 1,.inl 4,.inl 8],.int (-1)),([.inl 1,.inl 5,.inl 6],.int (-1)),([.inl 1,.inl 5,.inl 7],.int (-1)),([.inl 1,.inl 5,.inl 8],.int (-1)),([.inl 1,.inl 6,.inl 7],.int (-1)),([.inl 1,.inl 6,.inl 8],.int (-1)),([.inl 1,.inl 7,.inl 8],.int (-1)),([.inl 2,.inl 3,.inl 4],.int (-1)),([.inl 2,.inl 3,.inl 5],.int (-1)),([.inl 2,.inl 3,.inl 6],.int (-1)),([.inl 2,.inl 3,.inl 7],.int (-1)),([.inl 2,.inl 3,.inl 8],.int (-1)),([.inl 2,.inl 4,.inl 5],.int (-1)),([.inl 2,.inl 4,.inl 6],.int (-1)),([.inl 2,.inl 4,.inl 7],.int (-1)),([.inl 2,.inl 4,.inl 8],.int (-1)),([.inl 2,.inl 5,.inl 6],.int (-1)),([.inl 2,.inl 5,.inl 7],.int (-1)),([.inl 2,.inl 5,.inl 8],.int (-1)),([.inl 2,.inl 6,.inl 7],.int (-1)),([.inl 2,.inl 6,.inl 8],.int (-1)),([.inl 2,.inl 7,.inl 8],.int (-1)),([.inl 3,.inl 4,.inl 5],.int (-1)),([.inl 3,.inl 4,.inl 6],.int (-1)),([.inl 3,.inl 4,.inl 7],.int (-1)),([.inl 3,.inl 4,.inl 8],.int (-1)),([.inl 3,.inl 5,.inl 6],.int (-1)),([.inl 3,.inl 5,.inl 7],.int (-1)),([.inl 3,.inl 5,.inl 8],.int (-1)),([.inl 3,.inl 6,.inl 7],.int (-1)),([.inl 3,.inl 6,.inl 8],.int (-1)),([.inl 3,.inl 7,.inl 8],.int (-1)),([.inl 4,.inl 5,.inl 6],.int (-1)),([.inl 4,.inl 5,.inl 7],.int (-1)),([.inl 4,.inl 5,.inl 8],.int (-1)),([.inl 4,.inl 6,.inl 7],.int (-1)),([.inl 4,.inl 6,.inl 8],.int (-1)),([.inl 4,.inl 7,.inl 8],.int (-1)),([.inl 5,.inl 6,.inl 7],.int (-1)),([.inl 5,.inl 6,.inl 8],.int (-1)),([.inl 5,.inl 7,.inl 8],.int (-1)),([.inl 6,.inl 7,.inl 8],.int (-1))]
noncomputable def ow:L3.D:=.dt [([.inl 7,.inl 8],.int 2),([.inl 6,.inl 7],.int 2),([.inl 6,.inl 8],.int 2),([.inl 5,.inl 6],.int 2),([.inl 5,.inl 7],.int 2),([.inl 5,.inl 8],.int 2),([.inl 4,.inl 5],.int 2),([.inl 4,.inl 6],.int 2),([.inl 4,.inl 7],.int 2),([.inl 4,.inl 8],.int 2),([.inl 3,.inl 4],.int 2),([.inl 3,.inl 5],.int 2),([.inl 3,.inl 6],.int 2),([.inl 3,.inl 7],.int 2),([.inl 3,.inl 8],.int 2),([.inl 2,.inl 3],.int 2),([.inl 2,.inl 4],.int 2),([.inl 2,.inl 5],.int 2),([.inl 2,.inl 6],.int 2),([.inl 2,.inl 7],.int 2),([.inl 2,.inl 8],.int 2),([.inl 1,.inl 2],.int 2),([.inl 1,.inl 3],.int 2),([.inl 1,.inl 4],.int 2),([.inl 1,.inl 5],.int 2),([.inl 1,.inl 6],.int 2),([.inl 1,.inl 7],.int 2),([.inl 1,.inl 8],.int 2),([.inl 0,.inl 1],.int 2),([.inl 0,.inl 2],.int 2),([.inl 0,.inl 3],.int 2),([.inl 0,.inl 4],.int 2),([.inl 0,.inl 5],.int 2),([.inl 0,.inl 6],.int 2),([.inl 0,.inl 7],.int 2),([.inl 0,.inl 8],.int 2)]
theorem tb9:ba [(.int 9,.z),(sm,.z)]=some (.ok (tt,.u),[(.int 9,.z),(sm,.z)]):=by kernel_rfl
theorem lr9:dh [(tt,.u),(.int 9,.z),(.int 1,.z)]=some (.ok (.tup [.int 0,.int 1],.z),[(tt,.u),(.int 9,.z),(.int 1,.z)]):=by
 apply jT (ρ:=[some (tt,.u),some (.int 9,.z),some (.int 1,.z),none,none,none,none,none,none]) (ρ1:=[some (tt,.u),some (.int 9,.z),some (.int 1,.z),some (ow,.u),some (.int 2,.z),some (.tup [.int 0,.int 1],.z),none,none,none]) rfl rfl
 ·unfold gD
  apply bc (ρ1:=[some (tt,.u),some (.int 9,.z),some (.int 1,.z),none,none,none,none,none,none])
  ·kernel_rfl
  apply bc (ρ1:=[some (tt,.u),some (.int 9,.z),some (.int 1,.z),some (ow,.u),none,none,none,none,none])
  ·kernel_rfl
  apply bc (ρ1:=[some (tt,.u),some (.int 9,.z),some (.int 1,.z),some (ow,.u),some (.int 2,.z),none,none,none,none])
  ·kernel_rfl
  apply bc (ρ1:=[some (tt,.u),some (.int 9,.z),some (.int 1,.z),some (ow,.u),some (.int 2,.z),some (.tup [.int 0,.int 1],.z),none,none,none])
  ·kernel_rfl
  apply bc (ρ1:=[some (tt,.u),some (.int 9,.z),some (.int 1,.z),some (ow,.u),some (.int 2,.z),some (.tup [.int 0,.int 1],.z),none,none,none])
  ·exact sR (n:=1) (by kernel_rfl)
  ·kernel_rfl
 ·rfl
set_option tactic.hygienic true in
theorem cup9:cn [(.int 9,.z),(sm,.z)]=some (.ok (.tup [.int 0,.int 1],.z),[(.int 9,.z),(sm,.z)]):=by
 have f1:=tb9
 have f2:=lr9
 have c:cq (cE bh (ac (ag 0) (ac (mC (.int (24))) (ac (ag 1) ai)))) [some (.int 9,.z),some (sm,.z)]=some (.ok .nx,[some (.int 9,.z),some (sm,.z)]):=by kernel_rfl
 generalize sm=M at *
 generalize tt=T at *
 apply jT (ρ:=[some (.int 9,.z),some (M,.z)]) (ρ1:=[some (.int 9,.z),some (M,.z)]) rfl rfl
 ·unfold eT
  refine bc c ?_
  apply rY
  ·(repeat' (first | infer_instance | with_reducible apply cQ (f1) | with_reducible apply cQ (f2) | eq_refl))
  ·rfl
 ·rfl
set_option tactic.hygienic true in
theorem AG:el [(.int 1,.z),(.int 9,.z),(sm,.z)]=some (.ok (.non,.z),[(.int 1,.z),(.int 9,.z),(sm,.z)]):=by
 have f:=cup9
 generalize sm=M at *
 apply F_nx (ρ:=[some (.int 1,.z),some (.int 9,.z),some (M,.z)]) (ρ1:=[some (.int 1,.z),some (.int 9,.z),some (M,.z)]) rfl rfl
 ·unfold jM
  refine mI (b:=false) (ρ1:=[some (.int 1,.z),some (.int 9,.z),some (M,.z)]) rfl rfl ?_
  refine vZ (b:=true) (ρ1:=[some (.int 1,.z),some (.int 9,.z),some (M,.z)]) rfl rfl ?_
  apply qX
  refine rZ f (ρ1:=[some (.int 1,.z),some (.int 9,.z),some (M,.z)]) (rs:=[.pl 1,.pl 2]) ?_ rfl rfl rfl
  (repeat' (first | infer_instance | eq_refl))
 ·rfl
set_option tactic.hygienic true in
theorem told9:bg [(.int 1,.z),(.int 9,.z),(sm,.z)]=some (.ok (.lst [],.u),[(.int 1,.z),(.int 9,.z),(sm,.z)]):=by
 have f:=AG
 generalize sm=M at *
 apply jT (ρ:=[some (.int 1,.z),some (.int 9,.z),some (M,.z),none]) (ρ1:=[some (.int 1,.z),some (.int 9,.z),some (M,.z),none]) rfl rfl
 ·unfold pQ
  apply bc (ρ1:=[some (.int 1,.z),some (.int 9,.z),some (M,.z),none])
  ·apply Ao
   unfold jL
   apply qX
   refine rZ f (ρ1:=[some (.int 1,.z),some (.int 9,.z),some (M,.z),none]) (rs:=[.pl 0,.pl 1,.pl 2]) ?_ rfl rfl rfl
   (repeat' (first | infer_instance | eq_refl))
  ·rfl
 ·rfl
theorem t7 (S K B N b:L3.D):(sIf (cB (ao neX pJ (aT (ac (aT ai) (ac (aT (ac (mC (.int 8)) ai)) (ac (aT (ac (mC (.int 8)) ai)) (ac (aT (ac (mC (.int 8)) ai)) ai))))))) (bb 1 (mC (.bl false))) di) [some (S,.z),some (K,.z),some (B,.u),some (N,.z),some (b,.z)]=some (.ok .nx,[some (S,.z),some (K,.z),some (B,.u),some (N,.z),some (b,.z)]):=by kernel_rfl
set_option tactic.hygienic true in
theorem t8 (S K B N b:L3.D):(sIf (cOr (cB (ao neX (au bg (ac (mC (.int 0)) (ac (mC (.int 9)) (ac (ao kW (aL (ac (mC (.int 1)) ai)) (mC (.int 84))) ai)))) (aT ai))) (cB (ao neX (au bg (ac (mC (.int 1)) (ac (mC (.int 9)) (ac (ao kW (aL (ac (mUn i9 (mC (.int 1))) ai)) (mC (.int 84))) ai)))) (aT ai)))) (bb 1 (mC (.bl false))) di) [some (S,.z),some (K,.z),some (B,.u),some (N,.z),some (b,.z)]=some (.ok .nx,[some (S,.z),some (K,.z),some (B,.u),some (N,.z),some (b,.z)]):=by
 have f:=told9
 have hr:kW (.tup [.int (-1)]) (.int 84)=some (sm,.z):=by kernel_rfl
 have a:(cB (ao neX (au bg (ac (mC (.int 0)) (ac (mC (.int 9)) (ac (ao kW (aL (ac (mC (.int 1)) ai)) (mC (.int 84))) ai)))) (aT ai))) [some (S,.z),some (K,.z),some (B,.u),some (N,.z),some (b,.z)]=some (.ok false,[some (S,.z),some (K,.z),some (B,.u),some (N,.z),some (b,.z)]):=by kernel_rfl
 generalize sm=M at *
 refine mI (b:=false) (vY a rfl ?_) rfl rfl
 (repeat' (first | infer_instance | with_reducible apply cQ (f) | exact hr | eq_refl))
set_option tactic.hygienic true in
theorem zw {n m:Int} {j v:L3.D} (t:bV [(.lst [.int n],.u),(.int 14,.z)]=some (.ok (j,.z),[(.lst [.int m],.u),(.int 14,.z)])) (h:a9 (.lst sv) j=some (v,.z)):dH [(.lst [.int n],.u)]=some (.ok (v,.z),[(.lst [.int m],.u)]):=by
 have a:∀ B:L3.D,(bK 1 (aT (ac (mC .non) (ac (aL ai) (ac (aL (ac (aL (ac (mC (.int 0)) (ac (mC (.int 0)) ai))) (ac (aL (ac (mC (.int 0)) (ac (mC (.int 1)) ai))) ai))) (ac (aL (ac (aL (ac (mC (.int 1)) (ac (mC (.int 0)) ai))) (ac (aL (ac (mC (.int 0)) (ac (mC (.int 0)) ai))) ai))) (ac (aL (ac (aL (ac (mC (.int 0)) (ac (mC (.int 0)) ai))) (ac (aL (ac (mC (.int 1)) (ac (mC (.int 1)) ai))) (ac (aL (ac (mC (.int 2)) (ac (mC (.int 2)) ai))) ai)))) (ac (aT (ac (aL (ac (mC (.int 0)) (ac (mC (.int 0)) ai))) ai)) (ac (aL (ac (aL (ac (mC (.int 0)) (ac (mC (.int 0)) (ac (mC (.int 0)) ai)))) ai)) ai))))))))) [some (B,.u),none]=some (.ok .nx,[some (B,.u),some (.lst (sv.take 7),.u)]):=fun B=>by kernel_rfl
 have b:∀ B:L3.D,(bK 1 (ao cy (ag 1) (aT (ac (aL (ac (aL (ac (mC (.int 0)) (ac (mC (.bl true)) ai))) ai)) (ac (aL (ac (aL (ac (mC (.int 0)) (ac (mC (.str "0")) ai))) ai)) (ac (aL (ac (mC (.int 0)) (ac (mC (.int 0)) ai))) (ac (mC (.str "0,0")) (ac jt (ac (aL (ac (aL (ac (mC (.int 0)) (ac (mC (.int 0)) ai))) (ac (mC .non) ai))) (ac (aG sJ (ac fH ai)) ai)))))))))) [some (B,.u),some (.lst (sv.take 7),.u)]=some (.ok .nx,[some (B,.u),some (.lst sv,.u)]):=fun B=>by kernel_rfl
 have a:=a (.lst [.int n])
 have b:=b (.lst [.int n])
 generalize L3.D.lst (sv.take 7)=S7 at *
 generalize L3.D.lst sv=SV at *
 apply jT (ρ:=[some (.lst [.int n],.u),none]) (ρ1:=[some (.lst [.int m],.u),some (SV,.u)]) rfl rfl
 ·unfold iJ
  refine bc a ?_
  refine bc b ?_
  apply rY
  ·(repeat' (first | infer_instance | with_reducible apply cQ (t) | exact h | eq_refl))
  ·rfl
 ·rfl
set_option tactic.hygienic true in
theorem vQ {ns:List Int} (i:Nat) {v2 v3 v4:Option (L3.D × Fl)}:∃ w2 w3 w4,iI [some (.fls (ns.map .int),.z),some (.int (i:Int),.z),v2,v3,v4]=some (.ok .nx,[some (.fls (ns.map .int),.z),some (.int (i:Int),.z),w2,w3,w4]):=by
 obtain ⟨n,eb⟩:=xg ns i
 generalize hS:L3.D.fls (ns.map .int)=S at *
 generalize L3.D.int (i:Int)=L at *
 have t0:=eQ n 9 (by decide)
 obtain ⟨a,ha,ea⟩:∃ x:Nat,x < 9/\n % 9=(x:Int):=⟨(n % 9).toNat,by omega,by omega⟩
 rw [ea] at t0
 clear ea
 generalize n / 9=n1 at *
 have t1:=eQ n1 8 (by decide)
 obtain ⟨b,hb,eb⟩:∃ x:Nat,x < 8/\n1 % 8=(x:Int):=⟨(n1 % 8).toNat,by omega,by omega⟩
 rw [eb] at t1
 clear eb
 generalize n1 / 8=n2 at *
 have t2:=eQ n2 10 (by decide)
 obtain ⟨c,hc,ec⟩:∃ x:Nat,x < 10/\n2 % 10=(x:Int):=⟨(n2 % 10).toNat,by omega,by omega⟩
 rw [ec] at t2
 clear ec
 generalize n2 / 10=n3 at *
 have k3:=eQ n3 14 (by decide)
 obtain ⟨d,hd,ed⟩:∃ x:Nat,x < 14/\n3 % 14=(x:Int):=⟨(n3 % 14).toNat,by omega,by omega⟩
 rw [ed] at k3
 clear ed
 generalize n3 / 14=n4 at *
 have k4:=eQ n4 20 (by decide)
 obtain ⟨e,he,ee⟩:∃ x:Nat,x < 20/\n4 % 20=(x:Int):=⟨(n4 % 20).toNat,by omega,by omega⟩
 rw [ee] at k4
 clear ee
 generalize n4 / 20=n5 at *
 have t5:=eQ n5 19 (by decide)
 obtain ⟨f,hf,ef⟩:∃ x:Nat,x < 19/\n5 % 19=(x:Int):=⟨(n5 % 19).toNat,by omega,by omega⟩
 rw [ef] at t5
 clear ef
 generalize n5 / 19=n6 at *
 obtain ⟨N,hN,T1⟩:=n_at a ha b hb
 obtain ⟨bd,hB,T2⟩:=b_at c hc
 obtain ⟨v,hV,T3⟩:=s_at d hd
 have g5:=zw k3 hV
 have q3:=t3 e he
 have q4:=t4 f hf
 have hN:a9 (.lst [.int 0,.int 25,.int (-1 - (a:Int)),.bl true,.non,.str "3",.tup [.int 3],.int 100000000000000000000000000000]) (.int b)=some (N,.z):=hN
 have hB:a9 (.lst [.non,.tup [],.tup [.int 0],.tup [.bl true],.lst [.int 1],.tup [.int 1,.int 1],.str "1",.tup [.int 2],.tup [.tup [.int 1]],.dt []]) (.int c)=some (bd,.z):=hB
 have T3:bg [(.int 5,.z),(.int 3,.z),(v,.z)]=some (.ok (.lst [.int 0],.u),[(.int 5,.z),(.int 3,.z),(v,.z)]):=T3
 have q3:bg [(.int 3,.z),(.int (5+(e:Int)),.z),(.tup [],.z)]=some (.ok (.lst [.int 2],.u),[(.int 3,.z),(.int (5+(e:Int)),.z),(.tup [],.z)]):=q3
 have q4:bg [(.int 4,.z),(.int (6+(f:Int)),.z),(.tup [],.z)]=some (.ok (.lst [.int 2],.u),[(.int 4,.z),(.int (6+(f:Int)),.z),(.tup [],.z)]):=q4
 have x1:xu (.int 10) (.int 29)=some (.int 100000000000000000000000000000,.z):=by kernel_rfl
 have z0:neX (.lst [.int 0]) (.lst [.int 0])=some (.bl false,.z):=by kernel_rfl
 have z2:neX (.lst [.int 2]) (.lst [.int 2])=some (.bl false,.z):=by kernel_rfl
 have a3:cy (.int 5) (.int (e:Int))=some (.int (5+(e:Int)),.z):=rfl
 have a4:cy (.int 6) (.int (f:Int))=some (.int (6+(f:Int)),.z):=rfl
 refine ⟨some (.lst [.int n6],.u),some (N,.z),some (bd,.z),?_⟩
 have y1:(aT (ac (mC (.int 0)) (ac (mC (.int 25)) (ac (ao iZ (mUn i9 (mC (.int 1))) (au bV (ac (ag 2) (ac (mC (.int 9)) ai)))) (ac (mC (.bl true)) (ac (mC .non) (ac (mC (.str "3")) (ac (aL (ac (mC (.int 3)) ai)) (ac (ao xu (mC (.int 10)) (mC (.int 29))) ai))))))))) [some (S,.z),some (L,.z),some (.lst [.int n],.u),v3,v4]=some (.ok (.val (.lst [.int 0,.int 25,.int (-1 - (a:Int)),.bl true,.non,.str "3",.tup [.int 3],.int 100000000000000000000000000000]) .u),[some (S,.z),some (L,.z),some (.lst [.int n1],.u),v3,v4]):=by (repeat' (first | infer_instance | with_reducible apply cQ (t0) | exact x1 | eq_refl))
 have y2:(au bV (ac (ag 2) (ac (mC (.int 8)) ai))) [some (S,.z),some (L,.z),some (.lst [.int n1],.u),v3,v4]=some (.ok (.val (.int b) .z),[some (S,.z),some (L,.z),some (.lst [.int n2],.u),v3,v4]):=by (repeat' (first | infer_instance | with_reducible apply cQ (t1) | eq_refl))
 unfold iI
 apply bc (ρ1:=[some (S,.z),some (L,.z),some (.lst [.int n],.u),v3,v4])
 ·(repeat' (first | infer_instance | with_reducible apply cQ (eb) | eq_refl))
 apply bc (ρ1:=[some (S,.z),some (L,.z),some (.lst [.int n2],.u),some (N,.z),v4])
 ·(repeat' (first | with_reducible exact y1 | with_reducible exact y2 | infer_instance | exact hN | eq_refl))
 apply bc (ρ1:=[some (S,.z),some (L,.z),some (.lst [.int n3],.u),some (N,.z),some (bd,.z)])
 ·(repeat' (first | infer_instance | with_reducible apply cQ (t2) | exact hB | eq_refl))
 refine bc (T1 _ _ _ _) ?_
 refine bc (T2 _ _ _ _) ?_
 apply bc (ρ1:=[some (S,.z),some (L,.z),some (.lst [.int n4],.u),some (N,.z),some (bd,.z)])
 ·refine mI (b:=false) ?_ rfl rfl
  (repeat' (first | infer_instance | with_reducible apply cQ (g5) | with_reducible apply cQ (T3) | exact z0 | eq_refl))
 apply bc (ρ1:=[some (S,.z),some (L,.z),some (.lst [.int n6],.u),some (N,.z),some (bd,.z)])
 ·refine mI (b:=false) (vY (b:=false) (ρ1:=[some (S,.z),some (L,.z),some (.lst [.int n5],.u),some (N,.z),some (bd,.z)]) ?_ rfl ?_) rfl rfl
  ·(repeat' (first | infer_instance | with_reducible apply cQ (k4) | with_reducible apply cQ (q3) | exact a3 | exact z2 | eq_refl))
  ·(repeat' (first | infer_instance | with_reducible apply cQ (t5) | with_reducible apply cQ (q4) | exact a4 | exact z2 | eq_refl))
 refine bc (t7 _ _ _ _ _) ?_
 exact t8 _ _ _ _ _
set_option tactic.hygienic true in
theorem xc (ns:List Int) (hn:ns.length<=63):yV [(.fls (ns.map .int),.z)]=some (.ok (.bl true,.z),[(.fls (ns.map .int),.z)]):=by
 have hb:∃ m:Nat,(if (if ((5:Int) < ((ns.map L3.D.int).length:Int)) then (5:Int) else ((ns.map L3.D.int).length:Int)) > 1 then (if ((5:Int) < ((ns.map L3.D.int).length:Int)) then (5:Int) else ((ns.map L3.D.int).length:Int)) else (1:Int))=(m:Int)/\m<=5:=by
  refine ⟨max 1 (min ns.length 5),?_,by omega⟩
  simp only [AX]
  split <;> split <;> omega
 obtain ⟨m,hm,hm3⟩:=hb
 obtain ⟨ρ',e,v1,v2,v3,v4,rfl⟩:=lq (bnd:=aW 1) (b:=iI) (fun _ ρ=>∃ v1 v2 v3 v4,ρ=[some (.fls (ns.map .int),.z),v1,v2,v3,v4]) (ds:=gK 0 m) (ρ:=[some (.fls (ns.map .int),.z),none,none,none,none]) (k:=0) ⟨_,_,_,_,rfl⟩ (by
  rintro i d ρ hd ⟨v1,v2,v3,v4,rfl⟩
  obtain ⟨hi,rfl⟩:=oY hd
  rw [Int.zero_add]
  obtain ⟨w2,w3,w4,e⟩:=vQ (ns:=ns) i (v2:=v2) (v3:=v3) (v4:=v4)
  exact ⟨_,_,rfl,.inl e,_,_,_,_,rfl⟩)
 have hr:eR [.int (if (if ((5:Int) < ((ns.map L3.D.int).length:Int)) then (5:Int) else ((ns.map L3.D.int).length:Int)) > 1 then (if ((5:Int) < ((ns.map L3.D.int).length:Int)) then (5:Int) else ((ns.map L3.D.int).length:Int)) else (1:Int))]=some (gK 0 m):=by
  rw [hm]
  exact rE (by omega) (by omega)
 apply jT (ρ:=[some (.fls (ns.map .int),.z),none,none,none,none]) rfl rfl
 ·unfold yF
  apply bc
  ·apply yI
   ·(repeat' (first | with_reducible apply vX (h3:=hr) | infer_instance | eq_refl))
   ·rfl
   ·exact e
  ·exact rY i_c rfl
 ·rfl
end Bn
end
namespace Bn
open PySem L2 L3
theorem AH {l : PySem.W.OpenLaw} {w : World} {K : FG} {h : Heap} {mg : Str -> Option Value} {fa : Addr} (X : K.In h) (G : h.Ns mainGlobals mg) (hfa : mg "law" = some (.ref fa)) (e : wZ K = r0) :
  ∃ fd : FuncData, (∀ (s : Shared) (v : Value), BindsTo s fd ⟨[v], []⟩ [("_law_script", v)]) /\ ∀ base : Heap, K.In base -> base.Ns mainGlobals mg -> FnOk l.prog w K mg base CX0 10 fa fd ["_law_script"] (uW K) := by
 have e0 : dsL.map (fun p => pX K p.1) = dsL.map (fun p => lx p.1 p.2) := congrArg (fun x => x.1) e
 have e1 : blL.map (PySem.W.nsIn K mainGlobals) = blL.map (fun _ => some none) := congrArg (fun x => x.2.1) e
 have e2 : ciL.map (fun p => nN K p.1) = ciL.map (fun p => some p.2) := congrArg (fun x => x.2.2.1) e
 have e3 : csL.map (fun p => uV K p.1) = csL.map (fun p => some p.2) := congrArg (fun x => x.2.2.2.1) e
 have e4 : xrL.map (fun r : String => sA K r) = xrL.map (fun _ : String => nU) := congrArg (fun x => x.2.2.2.2.1) e
 have e5 : xcL.map (gr K) = xcL.map (fun _ => true) := congrArg (fun x => x.2.2.2.2.2.1) e
 have e6 : xbL.map (PySem.W.nsIn K mainGlobals) = xbL.map (fun _ => some none) := congrArg (fun x => x.2.2.2.2.2.2.1) e
 have e7 : nR K = kC := congrArg (fun x => x.2.2.2.2.2.2.2.1) e
 have e8 : [PySem.W.kitOne K (.ref (ah K "NoNumber")) (.ref (ah K "Apart")), PySem.W.kitOne K (.ref (ah K "NoSigns")) (.ref (ah K "Apart")), PySem.W.kitOne K (.ref (ah K "NoSheet")) (.ref (ah K "Apart")), PySem.W.kitOne K (.ref (ah K "NoNumber")) (.ref (ah K "Bare")), PySem.W.kitOne K (.ref (ah K "NoSigns")) (.ref (ah K "Bare")), PySem.W.kitOne K (.ref (ah K "NoSheet")) (.ref (ah K "Bare")), PySem.W.kitOne K (.ref (ah K "NoNumber")) (.ref (ah K "NoLine")), PySem.W.kitOne K (.ref (ah K "NoSigns")) (.ref (ah K "NoLine")), PySem.W.kitOne K (.ref (ah K "NoSheet")) (.ref (ah K "NoLine")), PySem.W.kitOne K (.ref (ah K "NoNumber")) (.ref (ah K "NoNumber")), PySem.W.kitOne K (.ref (ah K "NoSigns")) (.ref (ah K "NoNumber")), PySem.W.kitOne K (.ref (ah K "NoSheet")) (.ref (ah K "NoNumber")), PySem.W.kitOne K (.ref (ah K "NoNumber")) (.ref (ah K "NoPlace")), PySem.W.kitOne K (.ref (ah K "NoSigns")) (.ref (ah K "NoPlace")), PySem.W.kitOne K (.ref (ah K "NoSheet")) (.ref (ah K "NoPlace")), PySem.W.kitOne K (.ref (ah K "NoNumber")) (.ref (ah K "NoRing")), PySem.W.kitOne K (.ref (ah K "NoSigns")) (.ref (ah K "NoRing")), PySem.W.kitOne K (.ref (ah K "NoSheet")) (.ref (ah K "NoRing")), PySem.W.kitOne K (.ref (ah K "NoNumber")) (.ref (ah K "NoRow")), PySem.W.kitOne K (.ref (ah K "NoSigns")) (.ref (ah K "NoRow")), PySem.W.kitOne K (.ref (ah K "NoSheet")) (.ref (ah K "NoRow")), PySem.W.kitOne K (.ref (ah K "NoNumber")) (.ref (ah K "NoSheet")), PySem.W.kitOne K (.ref (ah K "NoSigns")) (.ref (ah K "NoSheet")), PySem.W.kitOne K (.ref (ah K "NoSheet")) (.ref (ah K "NoSheet")), PySem.W.kitOne K (.ref (ah K "NoNumber")) (.ref (ah K "NoSigns")), PySem.W.kitOne K (.ref (ah K "NoSigns")) (.ref (ah K "NoSigns")), PySem.W.kitOne K (.ref (ah K "NoSheet")) (.ref (ah K "NoSigns")), PySem.W.kitOne K (.ref (ah K "NoNumber")) (.ref (ah K "NoText")), PySem.W.kitOne K (.ref (ah K "NoSigns")) (.ref (ah K "NoText")), PySem.W.kitOne K (.ref (ah K "NoSheet")) (.ref (ah K "NoText")), PySem.W.kitOne K (.ref (ah K "NoNumber")) (.ref (ah K "OnLine")), PySem.W.kitOne K (.ref (ah K "NoSigns")) (.ref (ah K "OnLine")), PySem.W.kitOne K (.ref (ah K "NoSheet")) (.ref (ah K "OnLine")), PySem.W.kitOne K (.ref (ah K "NoNumber")) (.ref (ah K "TooMany")), PySem.W.kitOne K (.ref (ah K "NoSigns")) (.ref (ah K "TooMany")), PySem.W.kitOne K (.ref (ah K "NoSheet")) (.ref (ah K "TooMany")), PySem.W.kitOne K (.ref (ah K "NoNumber")) (.ref (ah K "BentError")), PySem.W.kitOne K (.ref (ah K "NoSigns")) (.ref (ah K "BentError")), PySem.W.kitOne K (.ref (ah K "NoSheet")) (.ref (ah K "BentError")), PySem.W.kitOne K (.ref (ah K "NoNumber")) (.type "ValueError"), PySem.W.kitOne K (.ref (ah K "NoSigns")) (.type "ValueError"), PySem.W.kitOne K (.ref (ah K "NoSheet")) (.type "ValueError")] = [some false, some false, some false, some false, some false, some false, some false, some false, some false, some true, some false, some false, some false, some false, some false, some false, some false, some false, some false, some false, some false, some false, some false, some true, some false, some true, some false, some false, some false, some false, some false, some false, some false, some false, some false, some false, some true, some true, some true, some true, some true, some true] := congrArg (fun x => x.2.2.2.2.2.2.2.2.1) e
 have e9 : [PySem.W.exmOne K (.ref (ah K "NoNumber")) (.ref (ah K "BentError")), PySem.W.exmOne K (.ref (ah K "NoSigns")) (.ref (ah K "BentError")), PySem.W.exmOne K (.ref (ah K "NoSheet")) (.ref (ah K "BentError"))] = [some true, some true, some true] := congrArg (fun x => x.2.2.2.2.2.2.2.2.2) e
 have B : Bl mg := ⟨cw X G e1 0 rfl, cw X G e1 1 rfl, cw X G e1 2 rfl, cw X G e1 3 rfl, cw X G e1 4 rfl, cw X G e1 5 rfl, cw X G e1 6 rfl, cw X G e1 7 rfl, cw X G e1 8 rfl, cw X G e1 9 rfl, cw X G e1 10 rfl, cw X G e1 11 rfl, cw X G e1 12 rfl, cw X G e1 13 rfl, cw X G e1 14 rfl, cw X G e1 15 rfl, cw X G e1 16 rfl, cw X G e1 17 rfl, cw X G e1 18 rfl, cw X G e1 19 rfl⟩
 have D0 : Def K mg "is_whole" fc := aM X G e0 0 rfl
 have D1 : Def K mg "is_point" ff := aM X G e0 1 rfl
 have D2 : Def K mg "is_place" fg := aM X G e0 2 rfl
 have D3 : Def K mg "are_rising_places" bT := aM X G e0 3 rfl
 have D4 : Def K mg "check_number" cL := aM X G e0 4 rfl
 have D5 : Def K mg "are_points" dD := aM X G e0 5 rfl
 have D6 : Def K mg "has_rising_x" cJ := aM X G e0 6 rfl
 have D7 : Def K mg "bend" m5 := aM X G e0 7 rfl
 have D8 : Def K mg "threes" ip := aM X G e0 8 rfl
 have D9 : Def K mg "fours" ku := aM X G e0 9 rfl
 have D10 : Def K mg "first_on_line" cz := aM X G e0 10 rfl
 have D11 : Def K mg "is_sheet" fe := aM X G e0 11 rfl
 have D12 : Def K mg "check_sheet" df := aM X G e0 12 rfl
 have D13 : Def K mg "turn_at" gh := aM X G e0 13 rfl
 have D14 : Def K mg "all_turns" d6 := aM X G e0 14 rfl
 have D15 : Def K mg "row_bends" dY := aM X G e0 15 rfl
 have D16 : Def K mg "onward_table" cI := aM X G e0 16 rfl
 have D17 : Def K mg "longest_row" c9 := aM X G e0 17 rfl
 have D18 : Def K mg "side_row" eZ := aM X G e0 18 rfl
 have D19 : Def K mg "is_ring_by" dC := aM X G e0 19 rfl
 have D20 : Def K mg "is_sign" gj := aM X G e0 20 rfl
 have D21 : Def K mg "turns_by_signs" cg := aM X G e0 21 rfl
 have D22 : Def K mg "change_once_at_most" bJ := aM X G e0 22 rfl
 have D23 : Def K mg "are_signs_of" cM := aM X G e0 23 rfl
 have D24 : Def K mg "are_signs" d5 := aM X G e0 24 rfl
 have D25 : Def K mg "check_signs" de := aM X G e0 25 rfl
 have D26 : Def K mg "signs_of" eY := aM X G e0 26 rfl
 have D27 : Def K mg "cup_by_signs" cK := aM X G e0 27 rfl
 have D28 : Def K mg "is_ring_by_signs" bW := aM X G e0 28 rfl
 have D29 : Def K mg "all_signs" d7 := aM X G e0 29 rfl
 have D30 : Def K mg "sheet_by_signs" ci := aM X G e0 30 rfl
 have D31 : Def K mg "_law_box" kr := aM X G e0 31 rfl
 have D32 : Def K mg "_law_take" ir := aM X G e0 32 rfl
 have D33 : Def K mg "_law_no_sheet" dB := aM X G e0 33 rfl
 have D34 : Def K mg "_law_classes" dZ := aM X G e0 34 rfl
 have D35 : Def K mg "_law_only" iu := aM X G e0 35 rfl
 have D36 : Def K mg "_law_asked" gi := aM X G e0 36 rfl
 have D37 : Def K mg "_law_told" iq := aM X G e0 37 rfl
 obtain ⟨f, fd, F0, hf⟩ : Def K mg "law" fS := aM X G e0 38 rfl
 cases hfa.symm.trans hf
 have F := F0
 obtain ⟨oc, od, kV, doc, pm, an, cdv, ct, osl, ef, lk, hcd⟩ := F0.ex
 subst ef
 obtain ⟨tk0, Q0⟩ := jx X G e2 0 (n := "MOST_POINTS") (v := 24) rfl
 obtain ⟨tk1, Q1⟩ := jx X G e2 1 (n := "DOWN") (v := -1) rfl
 obtain ⟨tk2, Q2⟩ := jx X G e2 2 (n := "LEAST_CORNERS") (v := 3) rfl
 obtain ⟨tk3, Q3⟩ := jx X G e2 3 (n := "UP") (v := 1) rfl
 obtain ⟨tk4, Q4⟩ := jx X G e2 4 (n := "MOST_FOR_ALL_SIGNS") (v := 5) rfl
 obtain ⟨tk5, Q5⟩ := jx X G e2 5 (n := "MOST_FOR_SHEETS") (v := 4) rfl
 obtain ⟨V_NoNumber, U_NoNumber⟩ := rg X G e7 e4 0 (r := "NoNumber") rfl
 obtain ⟨V_NoSigns, U_NoSigns⟩ := rg X G e7 e4 1 (r := "NoSigns") rfl
 obtain ⟨V_NoSheet, U_NoSheet⟩ := rg X G e7 e4 2 (r := "NoSheet") rfl
 have Q_NoNumber : mg "NoNumber" = _ := cY X G e5 0 rfl
 have Q_NoSigns : mg "NoSigns" = _ := cY X G e5 1 rfl
 have Q_NoSheet : mg "NoSheet" = _ := cY X G e5 2 rfl
 have Q_Apart : mg "Apart" = _ := cY X G e5 3 rfl
 have Q_Bare : mg "Bare" = _ := cY X G e5 4 rfl
 have Q_NoLine : mg "NoLine" = _ := cY X G e5 5 rfl
 have Q_NoPlace : mg "NoPlace" = _ := cY X G e5 6 rfl
 have Q_NoRing : mg "NoRing" = _ := cY X G e5 7 rfl
 have Q_NoRow : mg "NoRow" = _ := cY X G e5 8 rfl
 have Q_NoText : mg "NoText" = _ := cY X G e5 9 rfl
 have Q_OnLine : mg "OnLine" = _ := cY X G e5 10 rfl
 have Q_TooMany : mg "TooMany" = _ := cY X G e5 11 rfl
 have Q_BentError : mg "BentError" = _ := cY X G e5 12 rfl
 have Z_ValueError : mg "ValueError" = none := cw X G e6 0 rfl
 have T_Apart : IsX K (.ref (ah K "Apart")) [("NoNumber", false), ("NoSigns", false), ("NoSheet", false)] := (.cons V_NoNumber (bL e8 0 rfl rfl) (.cons V_NoSigns (bL e8 1 rfl rfl) (.cons V_NoSheet (bL e8 2 rfl rfl) .nil)))
 have T_Bare : IsX K (.ref (ah K "Bare")) [("NoNumber", false), ("NoSigns", false), ("NoSheet", false)] := (.cons V_NoNumber (bL e8 3 rfl rfl) (.cons V_NoSigns (bL e8 4 rfl rfl) (.cons V_NoSheet (bL e8 5 rfl rfl) .nil)))
 have T_NoLine : IsX K (.ref (ah K "NoLine")) [("NoNumber", false), ("NoSigns", false), ("NoSheet", false)] := (.cons V_NoNumber (bL e8 6 rfl rfl) (.cons V_NoSigns (bL e8 7 rfl rfl) (.cons V_NoSheet (bL e8 8 rfl rfl) .nil)))
 have T_NoNumber : IsX K (.ref (ah K "NoNumber")) [("NoNumber", true), ("NoSigns", false), ("NoSheet", false)] := (.cons V_NoNumber (bL e8 9 rfl rfl) (.cons V_NoSigns (bL e8 10 rfl rfl) (.cons V_NoSheet (bL e8 11 rfl rfl) .nil)))
 have T_NoPlace : IsX K (.ref (ah K "NoPlace")) [("NoNumber", false), ("NoSigns", false), ("NoSheet", false)] := (.cons V_NoNumber (bL e8 12 rfl rfl) (.cons V_NoSigns (bL e8 13 rfl rfl) (.cons V_NoSheet (bL e8 14 rfl rfl) .nil)))
 have T_NoRing : IsX K (.ref (ah K "NoRing")) [("NoNumber", false), ("NoSigns", false), ("NoSheet", false)] := (.cons V_NoNumber (bL e8 15 rfl rfl) (.cons V_NoSigns (bL e8 16 rfl rfl) (.cons V_NoSheet (bL e8 17 rfl rfl) .nil)))
 have T_NoRow : IsX K (.ref (ah K "NoRow")) [("NoNumber", false), ("NoSigns", false), ("NoSheet", false)] := (.cons V_NoNumber (bL e8 18 rfl rfl) (.cons V_NoSigns (bL e8 19 rfl rfl) (.cons V_NoSheet (bL e8 20 rfl rfl) .nil)))
 have T_NoSheet : IsX K (.ref (ah K "NoSheet")) [("NoNumber", false), ("NoSigns", false), ("NoSheet", true)] := (.cons V_NoNumber (bL e8 21 rfl rfl) (.cons V_NoSigns (bL e8 22 rfl rfl) (.cons V_NoSheet (bL e8 23 rfl rfl) .nil)))
 have T_NoSigns : IsX K (.ref (ah K "NoSigns")) [("NoNumber", false), ("NoSigns", true), ("NoSheet", false)] := (.cons V_NoNumber (bL e8 24 rfl rfl) (.cons V_NoSigns (bL e8 25 rfl rfl) (.cons V_NoSheet (bL e8 26 rfl rfl) .nil)))
 have T_NoText : IsX K (.ref (ah K "NoText")) [("NoNumber", false), ("NoSigns", false), ("NoSheet", false)] := (.cons V_NoNumber (bL e8 27 rfl rfl) (.cons V_NoSigns (bL e8 28 rfl rfl) (.cons V_NoSheet (bL e8 29 rfl rfl) .nil)))
 have T_OnLine : IsX K (.ref (ah K "OnLine")) [("NoNumber", false), ("NoSigns", false), ("NoSheet", false)] := (.cons V_NoNumber (bL e8 30 rfl rfl) (.cons V_NoSigns (bL e8 31 rfl rfl) (.cons V_NoSheet (bL e8 32 rfl rfl) .nil)))
 have T_TooMany : IsX K (.ref (ah K "TooMany")) [("NoNumber", false), ("NoSigns", false), ("NoSheet", false)] := (.cons V_NoNumber (bL e8 33 rfl rfl) (.cons V_NoSigns (bL e8 34 rfl rfl) (.cons V_NoSheet (bL e8 35 rfl rfl) .nil)))
 have T_BentError : IsX K (.ref (ah K "BentError")) [("NoNumber", true), ("NoSigns", true), ("NoSheet", true)] := (.cons V_NoNumber (bL e8 36 rfl rfl) (.cons V_NoSigns (bL e8 37 rfl rfl) (.cons V_NoSheet (bL e8 38 rfl rfl) .nil)))
 have T_ValueError : IsX K (.type "ValueError") [("NoNumber", true), ("NoSigns", true), ("NoSheet", true)] := (.cons V_NoNumber (bL e8 39 rfl rfl) (.cons V_NoSigns (bL e8 40 rfl rfl) (.cons V_NoSheet (bL e8 41 rfl rfl) .nil)))
 have R_BentError : ExX K (ah K "BentError") ["NoNumber", "NoSigns", "NoSheet"] := (.cons V_NoNumber (bL e9 0 rfl rfl) (.cons V_NoSigns (bL e9 1 rfl rfl) (.cons V_NoSheet (bL e9 2 rfl rfl) .nil)))
 refine ⟨PySem.W.fnOf "law" "law" (bf fS) (aN fS) (aj fS) .none kV doc pm an cdv ct, fun s v => .of_eq rfl, fun base _ _ => ?_⟩
 have C_is_whole := n9 (P := l.prog) (w := w) (base := base) B D0
 have C_is_point := oh (P := l.prog) (w := w) (base := base) B D1 C_is_whole
 have C_is_place := oi (P := l.prog) (w := w) (base := base) B D2 C_is_whole
 have C_are_rising_places := fM (P := l.prog) (w := w) (base := base) B D3 C_is_place
 have C_check_number_x := gX (P := l.prog) (w := w) (base := base) B D4 C_is_whole V_NoNumber U_NoNumber
 have C_are_points := lF (P := l.prog) (w := w) (base := base) B D5 C_is_point Q0
 have C_has_rising_x := jE (P := l.prog) (w := w) (base := base) B D6
 have C_bend := wq (P := l.prog) (w := w) (base := base) B D7
 have C_threes := rh (P := l.prog) (w := w) (base := base) B D8
 have C_fours := uA (P := l.prog) (w := w) (base := base) B D9 C_threes
 have C_first_on_line := iV (P := l.prog) (w := w) (base := base) B D10 C_bend C_threes
 have C_is_sheet := og (P := l.prog) (w := w) (base := base) B D11 C_are_points C_first_on_line C_has_rising_x
 have C_check_sheet_x := iX (P := l.prog) (w := w) (base := base) B D12 C_is_sheet V_NoSheet U_NoSheet
 have C_turn_at := p7 (P := l.prog) (w := w) (base := base) B D13 C_bend
 have C_all_turns_x := kn (P := l.prog) (w := w) (base := base) B D14 C_check_sheet_x C_threes C_turn_at
 have C_row_bends := me (P := l.prog) (w := w) (base := base) B D15
 have C_onward_table := jD (P := l.prog) (w := w) (base := base) B D16
 have C_longest_row := ki (P := l.prog) (w := w) (base := base) B D17 C_onward_table
 have C_side_row := nY (P := l.prog) (w := w) (base := base) B D18
 have C_is_ring_by := lE (P := l.prog) (w := w) (base := base) B D19 C_are_rising_places C_row_bends C_side_row Q1 Q2 Q3
 have C_is_sign := p8 (P := l.prog) (w := w) (base := base) B D20 C_is_whole Q1 Q3
 have C_turns_by_signs := gU (P := l.prog) (w := w) (base := base) B D21 C_threes
 have C_change_once_at_most := eV (P := l.prog) (w := w) (base := base) B D22
 have C_are_signs_of := jF (P := l.prog) (w := w) (base := base) B D23 C_change_once_at_most C_fours C_is_sign C_threes C_turns_by_signs
 have C_are_signs_x := km (P := l.prog) (w := w) (base := base) B D24 C_are_signs_of C_check_number_x Q0
 have C_check_signs_x := iW (P := l.prog) (w := w) (base := base) B D25 C_are_signs_of C_check_number_x V_NoSigns U_NoSigns
 have C_signs_of_x := lC (P := l.prog) (w := w) (base := base) B D26 C_all_turns_x C_threes
 have C_cup_by_signs_x := gW (P := l.prog) (w := w) (base := base) B D27 C_check_signs_x C_longest_row C_turns_by_signs Q0 Q3
 have C_is_ring_by_signs_x := fw (P := l.prog) (w := w) (base := base) B D28 C_check_signs_x C_is_ring_by C_turns_by_signs Q0
 have C_all_signs_x := ko (P := l.prog) (w := w) (base := base) B D29 C_are_signs_of C_check_number_x C_threes Q1 Q4 Q3
 have C_sheet_by_signs_x := gf (P := l.prog) (w := w) (base := base) B D30 C_check_signs_x Q5
 have C__law_box := uz (P := l.prog) (w := w) (base := base) B D31
 have C__law_take := rm (P := l.prog) (w := w) (base := base) B D32
 have C__law_no_sheet := lD (P := l.prog) (w := w) (base := base) B D33 C__law_take
 have C__law_classes_n := kj (P := l.prog) (w := w) (base := base) B D34 Q_Apart T_Apart Q_Bare T_Bare Q_NoLine T_NoLine Q_NoNumber T_NoNumber Q_NoPlace T_NoPlace Q_NoRing T_NoRing Q_NoRow T_NoRow Q_NoSheet T_NoSheet Q_NoSigns T_NoSigns Q_NoText T_NoText Q_OnLine T_OnLine Q_TooMany T_TooMany
 have C__law_only_n := nZ (P := l.prog) (w := w) (base := base) B D35 C__law_classes_n Q_BentError T_BentError Z_ValueError T_ValueError
 have C__law_asked_x := mf (P := l.prog) (w := w) (base := base) B D36 C_all_signs_x C_are_signs_x C_cup_by_signs_x C_is_ring_by_signs_x C_sheet_by_signs_x C_signs_of_x
 have C__law_told := rj (P := l.prog) (w := w) (base := base) B D37 C__law_asked_x C__law_only_n Q_BentError R_BentError
 exact FnOk.imp (xY (P := l.prog) (w := w) (base := base) B F C__law_box C__law_no_sheet C__law_take C__law_told) fun vs H Q E h => xU (fun ns hn => ⟨_, xc ns hn⟩) h
theorem walkL : PySem.W.WalkO viL loL (fun _ _ => True) (fun _ h => ∃ K : FG, K.In h /\ wZ K = r0) PySem.Challenge.rw_bentrows_k57_signs_refused.row.toRowW ⟨"law", bf fS, aN fS, aj fS, stPos fS⟩ [] (fun f vs => PySem.call f vs) :=
 L2.walk_ofS (l := PySem.Challenge.rw_bentrows_k57_signs_refused) (n := 63) (k := 10) (x := "_law_script") (S := fun K => wZ K = r0) (CX := CX0) (sp := uW) rfl (by decide) rfl ⟨rfl, by decide, by decide, rfl⟩ (fun _ _ z => z) (fun _ _ _ _ _ e X G hm => AH X G hm e) (fun _ _ a ns hl hO hS => ⟨a, ns, rfl, hS, hO, hl, fun _ => rfl⟩) fun _ _ _ _ z => z
end Bn
set_option tactic.hygienic true
open PySem PySem.W PyProof.Rows
set_option maxRecDepth 100000 in
set_option maxHeartbeats 0 in
theorem PySem.Challenge.cw_bentrows_k57_signs_refused_holds : PySem.Challenge.rw_bentrows_k57_signs_refused.Holds :=
 holds_law Bn.okL fun said => holds_open (r := PySem.Challenge.rw_bentrows_k57_signs_refused.row) Bn.leftL (fun _ _ e => ⟨_, L2.fragAt_in _, e⟩) (fun _ _ _ ⟨K, X, e⟩ k => ⟨K, X.keeps k, e⟩) (fun _ _ => trivial) (fun _ _ _ _ _ => trivial) (by kernel_rfl) (by kernel_rfl) (by kernel_rfl) (fun s e => recFacts_of e) (by rfl) said (by kernel_rfl) ⟨rfl, rfl, rfl, rfl, rfl, by decide +kernel⟩ ⟨[.list []], by decide +kernel, by decide +kernel⟩ Bn.walkL
