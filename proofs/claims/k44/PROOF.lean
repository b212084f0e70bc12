import PyProof.Rows.All
import Wide.All
import OpenK.AllK
import Wide.FinOn
import Lean
import PyProof.EqAt
import PyProof.EqKinds
import PyProof.TupleCall
import PyProof.P3Eq
import PyProof.NeData
import PyProof.ListRange
import PyProof.Rows.CallKwBuiltin
import PyProof.Rows.Range3
import PyProof.DictWalks
import PyProof.MinMaxWalk
import PyProof.WalkInts
import PyProof.Walk
import PyProof.WalkLemmas
import PyProof.RulesTry
import PySem.Challenge.RW_bentrows_k44_sheets_without_great_rings
set_option tactic.hygienic false
set_option genSizeOf false
set_option Elab.async false
set_option linter.all false
set_option maxRecDepth 100000
set_option maxHeartbeats 4000000
section
abbrev FG:=PySem.W.Frag
open PySem PySem.Spec PyProof.Rows
abbrev t7:=@wpAny_bind
abbrev t8:=@wpAny_pure
abbrev t9:=@wpAny_holding
abbrev ua:=@List.mem_cons_self
abbrev ub:=@List.mem_cons_of_mem
abbrev uc:=@Heap.get?_push_of_some
abbrev ue:=@Option.map_eq_some_iff
abbrev ug:=@List.mem_append_left
abbrev uh:=@List.mem_append_right
abbrev ui:=@List.mem_cons
abbrev uj:=@List.getElem?_eq_getElem
abbrev uk:=@Heap.lt_size
abbrev ul:=@List.mem_append
abbrev um:=@Heap.get?_push_size
abbrev uo:=@List.length_map
abbrev uq:=@List.getElem?_eq_some_iff
abbrev ut:=@List.mem_of_getElem?
abbrev uu:=@List.sublist_append_right
abbrev uw:=@List.mem_map
abbrev ux:=@List.getElem?_map
abbrev uy:=@Nat.le_refl
abbrev uz:=@Bool.false_ne_true
abbrev uA:=@Nat.ne_of_lt
abbrev uB:=@List.size_toArray
abbrev uC:=@List.map_cons
abbrev uD:=@decide_eq_true
abbrev uE:=@decide_eq_false
abbrev uF:=@Nat.lt_of_lt_of_le
abbrev uG:=@Heap.get?_update_self
abbrev uH:=@List.length_append
abbrev uI:=@List.length_cons
abbrev uJ:=@List.length_take
abbrev uK:=@Option.map_some
abbrev uL:=@Option.bind_eq_some_iff
abbrev uM:=@List.mem_singleton
abbrev uN:=@Bool.false_eq_true
abbrev uO:=@List.mem_filter
abbrev uP:=@List.getElem?_append_left
abbrev uQ:=@Heap.get?_update_other
abbrev uR:=@Heap.size_push
abbrev uS:=@wpAny_truthy_bool
abbrev uT:=@Nat.le_trans
abbrev uU:=@List.map_congr_left
abbrev uV:=@Option.some.inj
end
section
namespace L2
open PySem
noncomputable def aY (s : Stmt) : Arguments := match s with
  | .FunctionDef _ a _ _ _ _ _ _ _ _ => a
  | _ => { posonlyargs := [], args := [], vararg := none, kwonlyargs := [], kw_defaults := [], kwarg := none, defaults := [] }
noncomputable def aN (s : Stmt) : List Stmt := match s with
  | .FunctionDef _ _ b _ _ _ _ _ _ _ => b
  | _ => []
noncomputable def ah (s : Stmt) : Scope := match s with
  | .FunctionDef _ _ _ _ _ _ sc _ _ _ => sc
  | _ => { kind := .function, names := [], isGenerator := false, isCoroutine := false }
noncomputable def oX (h : Heap) : FG := (List.range h.objs.size).filterMap fun a => (h.get? a).map fun o => (a, o)
noncomputable def refIn (K : FG) (n : Str) : Addr := match PySem.W.nsIn K mainGlobals n with
  | some (some (.ref f)) => f
  | _ => 0
noncomputable abbrev jC := Str × Str × Arguments × FuncBody × Scope × Addr × List (Str × Addr) × Value × Addr × Bool
noncomputable def kG (K : FG) (n : Str) : Option jC := match PySem.W.nsIn K mainGlobals n with
  | some (some (.ref f)) => (match K.lookup f with
    | some ⟨_, _, .func fd, _⟩ => some (fd.name, fd.qualname, fd.params, fd.body, fd.scope, fd.globals, fd.closure, fd.defaults, fd.builtins, PySem.W.codeIn K fd.code n)
    | _ => none)
  | _ => none
noncomputable def gN (n : Str) (st : Stmt) : Option jC := some (n, n, aY st, .stmts (aN st), ah st, mainGlobals, [], .none, builtinsNs, true)
noncomputable def jp (K : FG) (n : Str) : Option Int := match PySem.W.nsIn K mainGlobals n with
  | some (some (.int v _)) => some v
  | _ => none
noncomputable def nD (K : FG) (n : Str) : Option Str := match PySem.W.nsIn K mainGlobals n with
  | some (some (.str v _)) => some v
  | _ => none
open PySem.W PyProof.Rows in
theorem mN {p q : Program} {loose : List Str} {Xt : Shared → Bool} {α : Type} {Yf : Shared → α} {Ya : World → α} {N m : Nat} {ann : Option Value}
    (e : opening p = plainProg p.main.scope.names) (hN : Nat.ble 600 N = true) (f : ∀ s, fenceModules? p s = some s)
    (sz : ∀ w : World, ((boot_heap w.params).isNs mainGlobals && (Array.mk [] : Array GenState).size == 0, (boot_heap w.params).objs.size, (boot_heap w.params).nsMap mainGlobals "__annotations__") = (true, m, ann))
    (go : ∀ (w : World) (os : OsState), (PySem.W.Fast.tw14082659384304107361 PySem.W.Fast.tw14364793385576792824 p w m ann N ⟨boot_heap w.params, Array.mk [], boot_drawn, boot_toks, os⟩ (topStub p)).map (fun s => ((staticsOk (importedModules p.main.body) (boot_heap w.params) s.heap && namesBound p s.heap && gensDone s && laidKept (boot_heap w.params) s.heap), PySem.W.Fast.tw4187177175401517315 q loose (importedModules p.main.body) Xt true s, Yf s)) = some (true, openGood q loose, Ya w)) : LeftO p q loose Xt Yf Ya N := fun w => by
  obtain ⟨⟨hp, gn, dr, tk, os⟩, ea, eb⟩ := ue.mp (boot_open e hN f w)
  obtain ⟨rfl, rfl, rfl, rfl⟩ : hp = boot_heap w.params ∧ gn = Array.mk [] ∧ dr = boot_drawn ∧ tk = boot_toks := by simpa using eb
  have sw := sz w
  have rw0 := go w os
  rw [← PySem.W.Fast.te14082659384304107361, ← PySem.W.Fast.te14364793385576792824, ← PySem.W.Fast.te4187177175401517315] at rw0
  simp only [Prod.mk.injEq] at sw
  obtain ⟨s, ec, ed⟩ := ue.mp rw0
  simp only [Prod.mk.injEq] at ed
  have tt : topFrom treeTable p w N ⟨boot_heap w.params, Array.mk [], boot_drawn, boot_toks, os⟩ = some s := by
    unfold topFrom
    dsimp only
    rw [sw.1, sw.2.1, sw.2.2, ec]
    change (match staticsOk (importedModules p.main.body) (boot_heap w.params) s.heap && namesBound p s.heap && gensDone s && laidKept (boot_heap w.params) s.heap with | true => some s | false => none) = some s
    rw [ed.1]
  unfold openEnds
  rw [ea]
  change Option.map _ (topFrom treeTable p w N _) = _
  rw [tt]
  exact congrArg some (Prod.ext ed.2.1 ed.2.2)
theorem mq {l : PySem.W.OpenLaw} (h : PySem.W.Fast.tw9446332074065402090 l = true) : l.wellSaid = true := by rw [← PySem.W.Fast.te9446332074065402090] at h; exact h
end L2
namespace Bn
open PySem L2
noncomputable def top (i : Nat) : Stmt := PySem.Challenge.pw_bentrows_k44_sheets_without_great_rings.main.body.getD i (.Pass ⟨0, 0, 0, 0⟩)
noncomputable abbrev cV : Stmt := top 6
noncomputable abbrev cX : Stmt := top 7
noncomputable abbrev bG : Stmt := top 8
noncomputable abbrev cD : Stmt := top 9
noncomputable abbrev ci : Stmt := top 12
noncomputable abbrev bF : Stmt := top 13
noncomputable abbrev iV : Stmt := top 14
noncomputable abbrev eG : Stmt := top 15
noncomputable abbrev bB : Stmt := top 16
noncomputable abbrev cW : Stmt := top 17
noncomputable abbrev bY : Stmt := top 18
noncomputable abbrev bb : Stmt := top 22
noncomputable abbrev iU : Stmt := top 23
noncomputable abbrev cC : Stmt := top 27
noncomputable abbrev gc : Stmt := top 28
noncomputable abbrev ce : Stmt := top 29
noncomputable abbrev dF : Stmt := top 30
noncomputable abbrev cU : Stmt := top 31
noncomputable abbrev ge : Stmt := top 33
noncomputable abbrev eI : Stmt := top 34
noncomputable abbrev dE : Stmt := top 35
noncomputable abbrev eK : Stmt := top 36
noncomputable abbrev cf : Stmt := top 37
noncomputable abbrev eJ : Stmt := top 38
noncomputable abbrev cg : Stmt := top 39
noncomputable abbrev dj : Stmt := top 40
noncomputable abbrev dsL : List (Str × Stmt) := [(("is_whole" : Str), cV), (("is_point" : Str), cX), (("check_number" : Str), bG), (("check_few" : Str), cD), (("are_points" : Str), ci), (("has_rising_x" : Str), bF), (("bend" : Str), iV), (("threes" : Str), eG), (("first_on_line" : Str), bB), (("is_sheet" : Str), cW), (("check_sheet" : Str), bY), (("check_two_numbers" : Str), bb), (("room" : Str), iU), (("steepness" : Str), cC), (("width" : Str), gc), (("set_beside" : Str), ce), (("drawing" : Str), dF), (("ringless" : Str), cU), (("_law_box" : Str), ge), (("_law_take" : Str), eI), (("_law_whole" : Str), dE), (("_law_bend" : Str), eK), (("_law_is_sheet" : Str), cf), (("_law_from" : Str), eJ), (("_law_greatest" : Str), cg), (("law" : Str), dj)]
noncomputable abbrev blL : List Str := [("len" : Str), ("range" : Str), ("abs" : Str), ("divmod" : Str), ("enumerate" : Str), ("tuple" : Str), ("isinstance" : Str), ("int" : Str), ("bool" : Str), ("all" : Str), ("str" : Str), ("max" : Str), ("min" : Str), ("list" : Str), ("dict" : Str), ("repr" : Str), ("sorted" : Str), ("set" : Str), ("zip" : Str), ("reversed" : Str)]
noncomputable abbrev ciL : List (Str × Int) := [(("MOST_POINTS" : Str), (24 : Int)), (("LEAST_PLACES" : Str), (2 : Int)), (("MOST_PLACES" : Str), (9 : Int)), (("LEAST_CORNERS" : Str), (3 : Int)), (("MOST_FOR_RINGLESS" : Str), (6 : Int))]
noncomputable abbrev csL : List (Str × Str) := []
noncomputable def pU (K : FG) : List (Option jC) × List (Option (Option Value)) × List (Option Int) × List (Option Str) := (dsL.map (fun p => kG K p.1), blL.map (PySem.W.nsIn K mainGlobals), ciL.map (fun p => jp K p.1), csL.map (fun p => nD K p.1))
noncomputable def lW : List (Option jC) × List (Option (Option Value)) × List (Option Int) × List (Option Str) := (dsL.map (fun p => gN p.1 p.2), blL.map (fun _ => some none), ciL.map (fun p => some p.2), csL.map (fun p => some p.2))
theorem okL : PySem.Challenge.rw_bentrows_k44_sheets_without_great_rings.wellSaid = true := mq (by kernel_rfl)
noncomputable abbrev loL : List Str := [("BentError" : Str), ("NoSheet" : Str), ("NoNumber" : Str), ("TooMany" : Str), ("is_whole" : Str), ("is_point" : Str), ("check_number" : Str), ("check_few" : Str), ("MOST_POINTS" : Str), ("are_points" : Str), ("has_rising_x" : Str), ("bend" : Str), ("threes" : Str), ("first_on_line" : Str), ("is_sheet" : Str), ("check_sheet" : Str), ("LEAST_PLACES" : Str), ("MOST_PLACES" : Str), ("check_two_numbers" : Str), ("room" : Str), ("LEAST_CORNERS" : Str), ("MOST_FOR_RINGLESS" : Str), ("steepness" : Str), ("width" : Str), ("set_beside" : Str), ("drawing" : Str), ("ringless" : Str), ("_law_box" : Str), ("_law_take" : Str), ("_law_whole" : Str), ("_law_bend" : Str), ("_law_is_sheet" : Str), ("_law_from" : Str), ("_law_greatest" : Str)]
noncomputable abbrev viL : Program := PySem.W.view PySem.Challenge.rw_bentrows_k44_sheets_without_great_rings.row.prog [40]
theorem leftL : PySem.W.LeftO PySem.Challenge.rw_bentrows_k44_sheets_without_great_rings.row.prog viL loL (fun s => PySem.W.recOk (PySem.W.RowW.records PySem.Challenge.rw_bentrows_k44_sheets_without_great_rings.row.toRowW) s) (fun s => pU (oX s.heap)) (fun _ => lW) 40000 :=
  mN (m := 11) (ann := some (.ref 6)) (by kernel_rfl) rfl (fun _ => rfl) (fun w => by kernel_rfl) (fun w os => by kernel_rfl)
end Bn
end
section
namespace L2
open PySem PySem.Spec PyProof.Rows
noncomputable abbrev Key:=Sum Int Str
noncomputable def iE:Key->Value->Bool
  | .inl k,v=>Value.isInt k v
  | .inr x,v=>Value.isStrOf x v
noncomputable def keyH (w:World):Key->Int
  | .inl k=>hashInt k
  | .inr x=>hashStr w x
theorem aV:∀ {k:Key} {v:Value},iE k v=true->(∃ i t,k=Sum.inl i/\v=Value.int i t)\/(∃ x t,k=Sum.inr x/\v=Value.str x t)
  | .inl i,v,h=>by
    obtain ⟨t,e⟩:=Value.isInt_shape (k:=i) (v:=v) h
    exact .inl ⟨i,t,rfl,e⟩
  | .inr x,v,h=>by
    obtain ⟨t,e⟩:=Value.isStrOf_shape (x:=x) (v:=v) h
    exact .inr ⟨x,t,rfl,e⟩
theorem mR (i:Int) (t:Tok):iE (.inl i) (.int i t)=true:=by simp [iE,Value.isInt]
theorem mQ (x:Str) (t:Tok):iE (.inr x) (.str x t)=true:=by simp [iE,Value.isStrOf]
theorem tM (a b:Int):decide ((Sum.inl a:Key)=Sum.inl b)=(a == b):=by
  by_cases e:a=b
  · subst e;simp
  · have h:¬ (Sum.inl a:Key)=Sum.inl b:=fun q=>e (Sum.inl.inj q)
    rw [uE h]
    exact (beq_eq_false_iff_ne.mpr e).symm
theorem tJ (a b:Str):decide ((Sum.inr a:Key)=Sum.inr b)=decide (a=b):=by
  by_cases e:a=b
  · subst e;simp
  · have h:¬ (Sum.inr a:Key)=Sum.inr b:=fun q=>e (Sum.inr.inj q)
    rw [uE h,uE e]
theorem tL (a:Int) (b:Str):decide ((Sum.inl a:Key)=Sum.inr b)=false:=uE (fun q=>nomatch q)
theorem tK (a:Str) (b:Int):decide ((Sum.inr a:Key)=Sum.inl b)=false:=uE (fun q=>nomatch q)
noncomputable def bv (prog:Program) (w:World):PySem.KeyKind prog w Key where
  is:=iE
  hash:=keyH w
  inj:=fun v a b ha hb=>by
    rcases aV ha with ⟨i,t,rfl,rfl⟩ | ⟨x,t,rfl,rfl⟩
    · rcases aV hb with ⟨j,u,rfl,e⟩ | ⟨y,u,rfl,e⟩
      · injection e with e1 _;rw [e1]
      · exact nomatch e
    · rcases aV hb with ⟨j,u,rfl,e⟩ | ⟨y,u,rfl,e⟩
      · exact nomatch e
      · injection e with e1 _;rw [e1]
  byValue:=fun k v h=>by
    rcases aV h with ⟨i,t,rfl,rfl⟩ | ⟨x,t,rfl,rfl⟩ <;> rfl
  pyHash:=fun hv h=>by
    rcases aV hv with ⟨i,t,rfl,rfl⟩ | ⟨x,t,rfl,rfl⟩
    · exact wpAny_pyHash_int h
    · exact wpAny_pyHash_str h
  eqBool:=fun hu hv h=>by
    rcases aV hu with ⟨i,t,rfl,rfl⟩ | ⟨x,t,rfl,rfl⟩
    · rcases aV hv with ⟨j,u,rfl,rfl⟩ | ⟨y,u,rfl,rfl⟩
      · rw [tM] at h;exact wpAny_eqBool_int h
      · rw [tL] at h;exact SeqAt.EqAt.int_str i t y u _ _ _ _ h
    · rcases aV hv with ⟨j,u,rfl,rfl⟩ | ⟨y,u,rfl,rfl⟩
      · rw [tK] at h;exact SeqAt.EqAt.str_int x t j u _ _ _ _ h
      · rw [tJ] at h;exact wpAny_eqBool_str h
  «strs»:=fun k x t v h=>by
    rcases aV h with ⟨i,u,rfl,e⟩ | ⟨y,u,rfl,e⟩
    · exact nomatch e
    · injection e with e1 _
      subst e1
      cases v <;> rfl
theorem j8 (prog:Program) (w:World) (i:Int) (t:Tok):(bv prog w).is (.inl i) (.int i t)=true:=mR i t
theorem j7 (prog:Program) (w:World) (x:Str) (t:Tok):(bv prog w).is (.inr x) (.str x t)=true:=mQ x t
end L2
namespace L2
open PySem PySem.Spec PyProof.Rows
inductive V where
  | non | bl (b:Bool) | int (i:Int) | str (x:Str) | byt (b:Array UInt8) | flt (b:UInt64) | ref (a:Addr) | ty (n:String)
  deriving DecidableEq
noncomputable def RelV:V->Value->Prop
  | .non,u=>u=Value.none
  | .bl b,u=>u=Value.bool b
  | .int i,u=>∃ t,u=Value.int i t
  | .str x,u=>∃ t,u=Value.str x t
  | .byt b,u=>∃ t,u=Value.bytes b t
  | .flt b,u=>∃ t,u=Value.float b t
  | .ref a,u=>u=Value.ref a
  | .ty n,u=>u=Value.type n
noncomputable abbrev Vals:List V->List Value->Prop:=Paired RelV
theorem Vals.length {xs:List V} {us:List Value} (r:Vals xs us):xs.length=us.length:=Paired.length r
theorem Vals.get:∀ {xs:List V} {us:List Value} {i:Nat} {x:V},Vals xs us->xs[i]?=some x->∃ u,us[i]?=some u/\RelV x u
  | _,_,_,_,.nil,e=>by simp at e
  | _,_,0,_,.cons r _,e=>by simp at e;subst e;exact ⟨_,rfl,r⟩
  | _,_,i+1,x,.cons _ t,e=>by
    obtain ⟨u,h1,h2⟩:=Vals.get (i:=i) (x:=x) t (by simpa using e)
    exact ⟨u,by simpa using h1,h2⟩
theorem Vals.set {x:V} {u:Value} (r:RelV x u):∀ {xs:List V} {us:List Value} (i:Nat),Vals xs us->Vals (xs.set i x) (us.set i u)
  | _,_,_,.nil=>.nil
  | _,_,0,.cons _ t=>.cons r t
  | _,_,i+1,.cons q t=>.cons q (Vals.set r i t)
theorem Vals.append:∀ {xs ys:List V} {us ws:List Value},Vals xs us->Vals ys ws->Vals (xs ++ ys) (us ++ ws)
  | _,_,_,_,.nil,s=>s
  | _,_,_,_,.cons r t,s=>.cons r (Vals.append t s)
theorem Vals.take:∀ {xs:List V} {us:List Value} (n:Nat),Vals xs us->Vals (xs.take n) (us.take n)
  | _,_,0,_=>.nil
  | _,_,_+1,.nil=>.nil
  | _,_,n+1,.cons r t=>.cons r (Vals.take n t)
theorem Vals.drop:∀ {xs:List V} {us:List Value} (n:Nat),Vals xs us->Vals (xs.drop n) (us.drop n)
  | _,_,0,r=>r
  | _,_,_+1,.nil=>.nil
  | _,_,n+1,.cons _ t=>Vals.drop n t
noncomputable def RelO:Option V->Option Value->Prop
  | some v,some u=>RelV v u
  | none,none=>True
  | _,_=>False
noncomputable def KV {κ:Type}:List (κ × V)->List (κ × Value)->Prop:=Paired fun (p:κ × V) (q:κ × Value)=>p.1=q.1/\RelV p.2 q.2
noncomputable def kV:Key->V
  | .inl i=>.int i
  | .inr x=>.str x
inductive HO where
  | lst (xs:List V)
  | tup (xs:List V)
  | dK (kvs:List (Key × V)) | dT (kvs:List (List Key × V))
  | set (S:Int->Bool) (n:Nat)
  | ins (C dx:Addr) (fs:List (Str × V))
  | own (x:Addr)
  | xd (fs:List (Str × V))
  | met (f x:Addr)
  | rng (lo hi:Int)
  | frz (o:Obj) (u:HO)
  | tbl (ps:Array Value)
  | ext (φ:Heap->Prop)
noncomputable abbrev Hp:=Addr->Option HO
noncomputable def upd (H:Hp) (a:Addr) (o:HO):Hp:=fun b=>if b=a then some o else H b
theorem aS {H:Hp} {a:Addr} {o:HO}:upd H a o a=some o:=by unfold upd;rw [if_pos rfl]
theorem aC {H:Hp} {a b:Addr} {o:HO} (h:b ≠ a):upd H a o b=H b:=by unfold upd;rw [if_neg h]
theorem ne_of {H:Hp} {a b:Addr} {o u:HO} (h:H a=some o) (h':H b=some u) (d:o ≠ u):a ≠ b:=by
  intro e;subst e;rw [h] at h';exact d (uV h')
theorem aW {H:Hp} {a b:Addr} {o:HO} (h:H a=some o) (h':H b=none):a ≠ b:=by
  intro e;subst e;rw [h] at h';cases h'
noncomputable def DictOfE {prog:Program} {w:World} {κ:Type} [DecidableEq κ] (knd:KeyKind prog w κ) (h:Heap) (a:Addr) (kvs:List (κ × Value)):Prop :=
  ∃ o es ep,h.get? a=some o/\o.ExactDict/\o.data=.dict es ep/\KeysOf knd es/\Pairs knd es.toList kvs/\(kvs.map (·.1)).Nodup/\ep=es.size
theorem DictOfE.of {prog:Program} {w:World} {κ:Type} [DecidableEq κ] {knd:KeyKind prog w κ} {h:Heap} {a:Addr} {kvs:List (κ × Value)} (x:DictOfE knd h a kvs):h.DictOf knd a kvs:=let ⟨o,es,ep,h1,h2,h3,h4,h5,h6,_⟩:=x;⟨o,es,ep,h1,h2,h3,h4,h5,h6⟩
noncomputable def IsTupD (h:Heap) (a:Addr) (items:Array Value):Prop:=∃ o,h.get? a=some o/\o.cls=.type "tuple"/\∃ n,(o.data,o.dict)=(Data.seq items n,none)
theorem IsTupD.tup {h:Heap} {a:Addr} {items:Array Value} (x:IsTupD h a items):IsTup h a items:=let ⟨o,e,c,n,d⟩:=x;⟨o,e,c,n,congrArg Prod.fst d⟩
theorem IsTupD.lt {h:Heap} {a:Addr} {items:Array Value} (x:IsTupD h a items):a < h.objs.size:=x.tup.lt
theorem IsTupD.new (h:Heap) (items:Array Value):IsTupD (h.push { cls:=.type "tuple",data:=.seq items }) h.objs.size items:=⟨_,um h rfl,rfl,_,rfl⟩
section
variable (P:Program) (w:World)
noncomputable def ObjOk (H:Hp) (h:Heap) (a:Addr):HO->Prop
  | .lst xs=>xs.length<=sizeLine/\∃ (its:List Value) (n:Nat),Vals xs its/\h.get? a=some { cls:=.type "list",data:=.seq its.toArray n }
  | .tup xs=>xs.length<=sizeLine/\∃ its:List Value,Vals xs its/\IsTupD h a its.toArray
  | .dK kvs=>kvs.length<=sizeLine/\(a == sysModules)=false/\∃ vs,KV kvs vs/\DictOfE (bv P w) h a vs
  | .dT kvs=>kvs.length<=sizeLine/\(a == sysModules)=false/\∃ xs:List (List Key × Addr × Value),
      Paired (fun (p:List Key × V) (q:List Key × Addr × Value)=>p.1=q.1/\H q.2.1=some (.tup (p.1.map kV))/\RelV p.2 q.2.2) kvs xs /\
      ∃ o es ep,h.get? a=some o/\o.ExactDict/\o.data=.dict es ep/\es.toList=xs.map (entryOfKey (tupleKind (bv P w)))/\(xs.map (·.1)).Nodup/\ep=es.size
  | .set S n=>h.SetOf (intKind P w) a S n
  | .ins C dx fs=>H dx=some (.own a)/\fs.length<=1000/\dx ≠ a/\h.get? a=some (PySem.W.instObj C dx) /\
      ∃ mA,h.Ns1 dx mA/\(∀ f,RelO (fs.lookup f) (mA f))/\PySem.Within mA (fs.map (·.1))
  | .own _=>∃ o,h.get? a=some o
  | .xd fs=>∃ mA,h.Ns1 a mA/\∀ f,RelO (fs.lookup f) (mA f)
  | .rng lo hi=>∃ t u v,h.get? a=some { cls:=.type "range",data:=.fields #[.int lo t,.int hi u,.int 1 v] }
  | .frz o u=>h.get? a=some o/\ObjOk H h a u
  | .tbl ps=>h.get? a=some { cls:=.none,data:=.fields ps }
  | .met f x=>h.get? a=some (PySem.W.methodObj (.ref f) (.ref x))
  | .ext φ=>φ h/\(∃ o,h.get? a=some o)/\∀ h1 h2:Heap,φ h1->(∀ o,h1.get? a=some o->h2.get? a=some o)->φ h2
noncomputable def HOk (H:Hp) (h:Heap):Prop:=∀ a o,H a=some o->ObjOk P w H h a o
end
section
variable {P:Program} {w:World} {H H':Hp} {h h':Heap} {a:Addr} {o:HO}
theorem ObjOk.lt (x:ObjOk P w H h a o):a < h.objs.size:=by
  cases o with
  | lst xs=>obtain ⟨_,_,_,_,e⟩:=x;exact uk e
  | tup xs=>obtain ⟨_,_,_,p⟩:=x;exact p.lt
  | dK kvs=>obtain ⟨_,_,_,_,o,_,_,e,_⟩:=x;exact uk e
  | dT kvs=>obtain ⟨_,_,_,_,o,_,_,e,_⟩:=x;exact uk e
  | set S n=>obtain ⟨o,_,_,_,e,_⟩:=x;exact uk e
  | ins C dx fs=>obtain ⟨_,_,_,e,_⟩:=x;exact uk e
  | own y=>obtain ⟨_,e⟩:=x;exact uk e
  | xd fs=>obtain ⟨_,⟨_,_,_,e,_⟩,_⟩:=x;exact uk e
  | rng lo hi=>obtain ⟨_,_,_,e⟩:=x;exact uk e
  | frz ob u=>obtain ⟨e,_⟩:=x;exact uk e
  | tbl ps=>exact uk (show h.get? a=some _ from x)
  | met f y=>exact uk (show h.get? a=some _ from x)
  | ext φ=>obtain ⟨_,⟨_,e⟩,_⟩:=x;exact uk e
theorem Paired.mapP {α β:Type} {F G:α->β->Prop}:∀ {l₁:List α} {l₂:List β},Paired F l₁ l₂->(∀ a b,F a b->G a b)->Paired G l₁ l₂
  | _,_,.nil,_=>.nil
  | _,_,.cons r t,f=>.cons (f _ _ r) (Paired.mapP t f)
theorem ObjOk.stay (x:ObjOk P w H h a o) (k:∀ b u,(b=a\/H b=some (.own a))->h.get? b=some u->h'.get? b=some u)
    (ho:∀ b,H b=some (.own a)->H' b=some (.own a)) (ht:∀ b xs,H b=some (.tup xs)->H' b=some (.tup xs)):ObjOk P w H' h' a o:=by
  induction o with
  | lst xs=>obtain ⟨z,its,n,r,e⟩:=x;exact ⟨z,its,n,r,k _ _ (.inl rfl) e⟩
  | tup xs=>obtain ⟨z,its,r,ob,e,c⟩:=x;exact ⟨z,its,r,ob,k _ _ (.inl rfl) e,c⟩
  | dK kvs=>obtain ⟨z,y,vs,r,ob,es,ep,e,c⟩:=x;exact ⟨z,y,vs,r,ob,es,ep,k _ _ (.inl rfl) e,c⟩
  | dT kvs =>
    obtain ⟨z,y,xs,r,ob,es,ep,e,c⟩:=x
    exact ⟨z,y,xs,Paired.mapP r fun p q z=>⟨z.1,ht _ _ z.2.1,z.2.2⟩,ob,es,ep,k _ _ (.inl rfl) e,c⟩
  | set S n=>obtain ⟨ob,es,ep,t,e,c⟩:=x;exact ⟨ob,es,ep,t,k _ _ (.inl rfl) e,c⟩
  | ins C dx fs =>
    obtain ⟨d,z,ne,e,mA,⟨od,es,ep,e2,c⟩,r⟩:=x
    exact ⟨ho _ d,z,ne,k _ _ (.inl rfl) e,mA,⟨od,es,ep,k _ _ (.inr d) e2,c⟩,r⟩
  | own y=>obtain ⟨ob,e⟩:=x;exact ⟨ob,k _ _ (.inl rfl) e⟩
  | xd fs=>obtain ⟨mA,⟨od,es,ep,e,c⟩,r⟩:=x;exact ⟨mA,⟨od,es,ep,k _ _ (.inl rfl) e,c⟩,r⟩
  | rng lo hi=>obtain ⟨t,u,v,e⟩:=x;exact ⟨t,u,v,k _ _ (.inl rfl) e⟩
  | frz ob u ih=>obtain ⟨e,q⟩:=x;exact ⟨k _ _ (.inl rfl) e,ih q⟩
  | tbl ps =>
    have e:h.get? a=some { cls:=.none,data:=.fields ps }:=x
    show h'.get? a=some { cls:=.none,data:=.fields ps }
    exact k a _ (.inl rfl) e
  | met f y =>
    have e:h.get? a=some (PySem.W.methodObj (.ref f) (.ref y)):=x
    show h'.get? a=some (PySem.W.methodObj (.ref f) (.ref y))
    exact k a _ (.inl rfl) e
  | ext φ=>obtain ⟨p,⟨o,e⟩,st⟩:=x;exact ⟨st _ _ p fun o q=>k _ _ (.inl rfl) q,⟨o,k _ _ (.inl rfl) e⟩,st⟩
theorem HOk.lt (x:HOk P w H h) (e:H a=some o):a < h.objs.size:=(x a o e).lt
theorem HOk.fresh (x:HOk P w H h) (e:h.objs.size<=a):H a=none:=by
  cases q:H a with
  | none=>rfl
  | some u=>exact absurd (uF (x.lt q) e) (Nat.lt_irrefl _)
theorem HOk.kept (x:HOk P w H h) (k:∀ b u,h.get? b=some u->h'.get? b=some u):HOk P w H h':=fun a o e =>
  (x a o e).stay (fun b u _ q=>k b u q) (fun _ q=>q) fun _ _ q=>q
theorem HOk.laid (x:HOk P w H h) (k:∀ b u,h.get? b=some u->h'.get? b=some u) (hp:h.objs.size<=a) (new:ObjOk P w (upd H a o) h' a o):HOk P w (upd H a o) h':=fun b u e=>by
  have hn:=x.fresh hp
  by_cases hb:b=a
  · subst hb;rw [aS] at e;cases e;exact new
  · rw [aC hb] at e
    exact (x b u e).stay (fun c v _ q=>k c v q) (fun c q=>by rw [aC (aW q hn)];exact q) fun c xs q=>by rw [aC (aW q hn)];exact q
end
noncomputable def Rd (H:Hp) (a:Addr) (u:HO):Prop:=H a=some u\/∃ o,H a=some (.frz o u)
theorem Rd.ok {P:Program} {w:World} {H:Hp} {h:Heap} {a:Addr} {u:HO} (r:Rd H a u) (x:HOk P w H h):ObjOk P w H h a u:=by
  rcases r with r | ⟨o,r⟩
  · exact x a u r
  · obtain ⟨_,q⟩:=x a _ r
    exact q
noncomputable def Mut:Option HO->Prop
  | some (.lst _)=>True
  | some (.dK _)=>True
  | some (.dT _)=>True
  | some (.set _ _)=>True
  | some (.ins _ _ _)=>True
  | some (.ext _)=>True
  | _=>False
section
variable {P:Program} {w:World} {H:Hp} {h h':Heap} {x e:Addr} {o':HO}
theorem HOk.write (ok:HOk P w H h) (mu:Mut (H x)) (he:e=x\/H e=some (.own x)) (k:∀ b u,b ≠ e->h.get? b=some u->h'.get? b=some u) (heo:∃ u,h'.get? e=some u)
    (new:ObjOk P w (upd H x o') h' x o'):HOk P w (upd H x o') h':=fun b u q=>by
  have nown:∀ c y,H c=some (.own y)->c ≠ x:=fun c y r z=>by subst z;rw [r] at mu;exact mu
  have ntup:∀ c xs,H c=some (.tup xs)->c ≠ x:=fun c xs r z=>by subst z;rw [r] at mu;exact mu
  by_cases hb:b=x
  · subst hb;rw [aS] at q;cases q;exact new
  · rw [aC hb] at q
    by_cases hbe:b=e
    · have q':H b=some (.own x):=by
        rcases he with z | z
        · exact absurd (hbe.trans z) hb
        · rw [hbe];exact z
      rw [q] at q';cases q'
      obtain ⟨v,hv⟩:=heo
      exact ⟨v,by rw [hbe];exact hv⟩
    · refine (ok b u q).stay (fun c v hc r=>k c v ?_ r) (fun c r=>by rw [aC (nown c b r)];exact r) fun c xs r=>by rw [aC (ntup c xs r)];exact r
      rcases hc with rfl | hc
      · exact hbe
      · rintro rfl
        rcases he with z | z
        · exact nown c b hc z
        · rw [hc] at z;cases z;exact hb rfl
end
structure Un (fs ex:List Addr) (H H':Hp) (h h':Heap):Prop where
  keep:∀ b o,h.get? b=some o->H b=none->b ∉ fs->b ∉ ex->h'.get? b=some o
  slot:∀ b o,h.get? b=some o->H b=none->b ∈ fs->b ∉ ex->∃ sl,h'.get? b=some { o with slots:=sl }
  free:∀ b o,h.get? b=some o->H b=none->b ∉ ex->H' b=none
  there:∀ b o,h.get? b=some o->b ∉ ex->∃ o',h'.get? b=some o'
  tups:∀ b xs,H b=some (.tup xs)->H' b=some (.tup xs)
  frzs:∀ b o u,H b=some (.frz o u)->H' b=some (.frz o u)
  tbls:∀ b ps,H b=some (.tbl ps)->∃ more,H' b=some (.tbl (ps ++ more))
section
variable {fs fs' ex ex':List Addr} {H H1 H2:Hp} {h h1 h2 h':Heap} {a x e:Addr} {o:HO}
theorem Un.any (u:Un fs ex H H1 h h1) {b:Addr} {ob:Obj} (q:h.get? b=some ob) (n:H b=none) (hx:b ∉ ex):∃ sl,h1.get? b=some { ob with slots:=sl }:=by
  by_cases hb:b ∈ fs
  · exact u.slot b ob q n hb hx
  · exact ⟨ob.slots,u.keep b ob q n hb hx⟩
theorem Un.trans (a:Un fs ex H H1 h h1) (b:Un fs ex H1 H2 h1 h2):Un fs ex H H2 h h2 where
  keep:=fun c ob q n hc hx=>b.keep c ob (a.keep c ob q n hc hx) (a.free c ob q n hx) hc hx
  slot:=fun c ob q n hc hx=>by
    obtain ⟨sl,e1⟩:=a.slot c ob q n hc hx
    obtain ⟨sl',e2⟩:=b.slot c _ e1 (a.free c ob q n hx) hc hx
    exact ⟨sl',e2⟩
  free:=fun c ob q n hx=>by
    obtain ⟨o',e1⟩:=a.there c ob q hx
    exact b.free c o' e1 (a.free c ob q n hx) hx
  there:=fun c ob q hx=>by
    obtain ⟨o',e1⟩:=a.there c ob q hx
    exact b.there c o' e1 hx
  tups:=fun c xs q=>b.tups c xs (a.tups c xs q)
  frzs:=fun c ob xs q=>b.frzs c ob xs (a.frzs c ob xs q)
  tbls:=fun c ps q=>by
    obtain ⟨m1,e1⟩:=a.tbls c ps q
    obtain ⟨m2,e2⟩:=b.tbls c _ e1
    exact ⟨m1 ++ m2,by rw [e2,Array.append_assoc]⟩
theorem Un.kept (k:∀ b u,h.get? b=some u->h'.get? b=some u):Un fs ex H H h h' :=
  ⟨fun b ob q _ _ _=>k b ob q,fun b ob q _ _ _=>⟨ob.slots,k b ob q⟩,fun _ _ _ n _=>n,fun b ob q _=>⟨ob,k b ob q⟩,fun _ _ q=>q,fun _ _ _ q=>q,fun _ ps q=>⟨#[],by rw [q];simp⟩⟩
theorem Un.refl:Un fs ex H H h h:=Un.kept fun _ _ q=>q
theorem Un.laid (k:∀ b u,h.get? b=some u->h'.get? b=some u) (hp:h.objs.size<=a) (hn:H a=none):Un fs ex H (upd H a o) h h' where
  keep:=fun b u q _ _ _=>k b u q
  slot:=fun b u q _ _ _=>⟨u.slots,k b u q⟩
  free:=fun b u q n _=>by rw [aC (uA (uF (uk q) hp))];exact n
  there:=fun b u q _=>⟨u,k b u q⟩
  tups:=fun b xs q=>by rw [aC (aW q hn)];exact q
  frzs:=fun b u xs q=>by rw [aC (aW q hn)];exact q
  tbls:=fun b ps q=>⟨#[],by rw [aC (aW q hn),q];simp⟩
theorem Un.write (mu:Mut (H x)) (he:e=x\/H e=some (.own x)) (k:∀ b u,b ≠ e->h.get? b=some u->h'.get? b=some u) (heo:∃ u,h'.get? e=some u):Un fs ex H (upd H x o) h h':=by
  have hx:∀ b,H b=none->b ≠ x:=fun b n z=>by subst z;rw [n] at mu;exact mu
  have hb:∀ b,H b=none->b ≠ e:=fun b n z=>by
    subst z
    rcases he with r | r
    · exact hx b n r
    · rw [n] at r;cases r
  have hm:∀ b u,H b=some u->¬ Mut (some u)->b ≠ x:=fun b u q nm z=>by subst z;rw [q] at mu;exact nm mu
  refine ⟨fun b u q n _ _=>k b u (hb b n) q,fun b u q n _ _=>⟨u.slots,k b u (hb b n) q⟩,fun b u q n _=>by rw [aC (hx b n)];exact n,fun b u q _=>?_,
    fun b xs q=>by rw [aC (hm b _ q fun z=>z)];exact q,fun b u xs q=>by rw [aC (hm b _ q fun z=>z)];exact q,fun b ps q=>⟨#[],by rw [aC (hm b _ q fun z=>z),q];simp⟩⟩
  by_cases hbe:b=e
  · subst hbe;exact heo
  · exact ⟨u,k b u hbe q⟩
end
noncomputable def trk (h:Heap) (H:Hp):List Addr:=(List.range h.objs.size).filter fun a=>(H a).isSome
noncomputable def jr (h:Heap) (H:Hp):Heap:=PySem.W.hideAll h (trk h H)
theorem mT (h:Heap) (H:Hp):(jr h H).objs.size=h.objs.size:=PySem.W.hideAll_size _ _
theorem oV {h:Heap} {H:Hp} {b:Addr} {o:Obj} (e:h.get? b=some o) (n:H b=none):(jr h H).get? b=some o :=
  PySem.W.hideAll_get _ e fun hm=>by
    have q:(H b).isSome=true:=(uO.mp hm).2
    rw [n] at q;simp at q
theorem qj {h:Heap} {H:Hp} {b:Addr} {o:Obj} (e:(jr h H).get? b=some o):h.get? b=some o/\H b=none:=by
  have e':h.get? b=some o:=PySem.W.of_hideAll (trk h H) e
  refine ⟨e',?_⟩
  cases q:H b with
  | none=>rfl
  | some x =>
    have hm:b ∈ trk h H:=uO.mpr ⟨List.mem_range.mpr (uk e'),by simp [q]⟩
    have z:(jr h H).get? b=none:=PySem.W.hideAll_none (trk h H) hm
    rw [z] at e;cases e
noncomputable def qO (g h:Heap) (L:Addr):List (Addr × Obj):=(List.range h.objs.size).filterMap fun a=>if a=L\/(g.get? a).isSome=true then none else (h.get? a).map fun o=>(a,o)
noncomputable def dq (g h:Heap) (L d:Addr):List (Addr × Obj):=(qO g h L).filter fun p=>decide (p.1 ≠ d)
end L2
namespace L2
open PySem PySem.Spec PyProof.Rows
structure Mod (K:FG) (mg:Str->Option Value) (base:Heap):Prop where
  kin:K.In base
  glob:base.Ns mainGlobals mg
  blt:∃ mb,base.Ns builtinsNs mb/\∀ x:Str,x ≠ "__name__"->mb x=bootBuiltins x
  nolimit:base.NoLimit
structure Cx where
  prog:Program
  w:World
  K:FG
  mg:Str->Option Value
  base:Heap
  A:Around
  N:List Str
  s₀:Shared
  H₀:Hp
  env:Env
  outer:List Env
  stack:List Env
  ex:List Addr
  fn:Str->Bool
  calm:Bool
  pn:List (Addr × Obj)
  xe:Value->Shared->Prop
noncomputable def frs (l:List Env):List Addr:=l.filterMap (·.frame)
noncomputable abbrev Cx.fs (X:Cx):List Addr:=frs X.outer
noncomputable def Vis (sc:Scope) (x:Str):Prop:=sc.names.lookup x=some .local\/sc.names.lookup x=some .cell\/sc.names.lookup x=some .free
noncomputable def Loc (sc:Scope) (x:Str):Prop:=sc.names.lookup x=some .local\/sc.names.lookup x=some .cell
noncomputable def Look (env:Env) (h:Heap) (m:Str->Option Value) (x:Str) (u:Value):Prop :=
  (env.kindOf x=some .local/\m x=some u)\/((env.kindOf x=some .cell\/env.kindOf x=some .free)/\∃ c,env.cells.lookup x=some c/\h.IsCell c (some u))
structure Cx.Ok (X:Cx):Prop where
  mod:Mod X.K X.mg X.base
  kind:X.env.scope.kind=.function
  glob:X.env.globals=mainGlobals
  blt:X.env.builtins=builtinsNs
  above:X.s₀.heap.objs.size<=X.env.locals
  inj:∀ x y c,X.env.cells.lookup x=some c->X.env.cells.lookup y=some c->x=y
  has:∀ x,(X.env.kindOf x=some .cell\/X.env.kindOf x=some .free)->∃ c,X.env.cells.lookup x=some c
  cab:∀ x c,X.fn x=true->X.env.cells.lookup x=some c->X.s₀.heap.objs.size<=c
  hd:X.calm=true->X.A.handled=none
  frames:X.A.frames=some X.stack
  stk:X.stack=X.outer\/(X.stack=X.env :: X.outer/\X.env.frame=some X.env.locals)
  exf:∀ b ∈ X.ex,b ≠ X.env.locals/\∀ x c,X.env.cells.lookup x=some c->c ≠ b
  bs:∀ b o,X.base.get? b=some o->X.s₀.heap.get? b=some o/\X.H₀ b=none
  bsz:X.base.objs.size<=X.s₀.heap.objs.size
  noex:∀ b o,X.base.get? b=some o->b ∉ X.ex
  exfs:∀ b ∈ X.ex,b ∉ X.fs
  funs:X.s₀.heap.FunFrames X.base X.outer
  frf:∀ b ∈ X.fs,X.H₀ b=none
structure Inv (X:Cx) (pins:List (Addr × Obj)) (σ:List (Option V)) (H:Hp) (s:Shared):Prop where
  ok:X.Ok
  os:s.os=X.s₀.os
  bare:AllBare s.gens
  base:Un X.fs X.ex X.H₀ H X.s₀.heap s.heap
  loc:∃ m,s.heap.Ns X.env.locals m/\∀ (i:Nat) (x:Str) (v:V),X.N[i]?=some x->σ[i]?=some (some v)->Vis X.env.scope x->∃ u,RelV v u/\Look X.env s.heap m x u
  cell:∀ x c,X.env.cells.lookup x=some c->∃ v,s.heap.IsCell c v
  free:H X.env.locals=none
  freeC:∀ x c,X.env.cells.lookup x=some c->H c=none
  pin:∀ p ∈ X.pn ++ pins,s.heap.get? p.1=some p.2/\H p.1=none/\p.1 ≠ X.env.locals/\p.1 ∉ X.fs/\∀ v,p.2.data ≠ .cell v
  hok:HOk X.prog X.w H s.heap
  len:σ.length=X.N.length
section
variable {X:Cx} {pins:List (Addr × Obj)} {σ:List (Option V)} {H H':Hp} {s:Shared} {h':Heap}
theorem Cx.Ok.nofr (ok:X.Ok) {b:Addr} {o:Obj} (e:X.base.get? b=some o):b ∉ X.fs:=fun hb=>by
  have:=(ok.funs.mem hb).1
  rw [e] at this;cases this
theorem Inv.bs (I:Inv X pins σ H s):∀ b o,X.base.get? b=some o->s.heap.get? b=some o/\H b=none:=fun b o e =>
  ⟨I.base.keep b o (I.ok.bs b o e).1 (I.ok.bs b o e).2 (I.ok.nofr e) (I.ok.noex b o e),I.base.free b o (I.ok.bs b o e).1 (I.ok.bs b o e).2 (I.ok.noex b o e)⟩
theorem Inv.bk (I:Inv X pins σ H s):∀ b o,X.base.get? b=some o->s.heap.get? b=some o:=fun b o e=>(I.bs b o e).1
theorem Inv.mod (I:Inv X pins σ H s):Mod X.K X.mg X.base:=I.ok.mod
theorem Inv.kIn (I:Inv X pins σ H s):X.K.In s.heap:=I.ok.mod.kin.keeps I.bk
theorem Inv.lt (I:Inv X pins σ H s):X.env.locals < s.heap.objs.size:=let ⟨_,hn,_⟩:=I.loc;hn.lt
theorem Inv.sz (I:Inv X pins σ H s):X.s₀.heap.objs.size<=s.heap.objs.size:=uT I.ok.above (Nat.le_of_lt I.lt)
theorem Inv.nofs (I:Inv X pins σ H s) {a:Addr} (h:s.heap.objs.size<=a):a ∉ X.fs:=fun hb=>by
  obtain ⟨_,o,ho,_⟩:=I.ok.funs.mem hb
  exact absurd (uF (uk ho) (uT I.sz h)) (Nat.lt_irrefl _)
theorem Inv.cne (I:Inv X pins σ H s):∀ x c,X.env.cells.lookup x=some c->c ≠ X.env.locals:=fun x c e z=>by
  obtain ⟨v,o,ho,hd⟩:=I.cell x c e
  obtain ⟨m,⟨o',es,ep,ho',hd',_⟩,_⟩:=I.loc
  rw [z,ho'] at ho;cases ho;rw [hd'] at hd;cases hd
theorem Inv.funs (I:Inv X pins σ H s):s.heap.FunFrames X.base X.outer:=by
  have all:∀ (l:List Env),(∀ b ∈ frs l,b ∈ X.fs)->X.s₀.heap.FunFrames X.base l->s.heap.FunFrames X.base l:=by
    intro l
    induction l with
    | nil=>intro _ _;trivial
    | cons env r ih =>
      intro hs hl
      obtain ⟨hk,⟨L,o,hf,hn,ho,hd⟩,hr⟩:=hl
      have hL:L ∈ X.fs:=hs L (by unfold frs;rw [List.filterMap_cons,hf];exact ua)
      obtain ⟨sl,e⟩:=I.base.slot L o ho (I.ok.frf L hL) hL fun z=>I.ok.exfs L z hL
      exact ⟨hk,⟨L,_,hf,hn,e,hd⟩,ih (fun b hb=>hs b (by unfold frs;rw [List.filterMap_cons,hf];exact ub _ hb)) hr⟩
  exact all X.outer (fun _ hb=>hb) I.ok.funs
theorem Inv.stack (I:Inv X pins σ H s):s.heap.FunFrames X.base X.stack:=by
  rcases I.ok.stk with e | ⟨e,hf⟩
  · rw [e];exact I.funs
  · rw [e]
    obtain ⟨m,hn,_⟩:=I.loc
    refine .cons (by rw [I.ok.kind];decide) hf hn ?_ I.funs
    exact Heap.get?_none_of_le (uT I.ok.bsz I.ok.above)
theorem Inv.stkSub (I:Inv X pins σ H s):∀ b ∈ frs X.stack,b ∈ X.env.locals :: X.fs:=fun b hb=>by
  rcases I.ok.stk with e | ⟨e,hf⟩
  · rw [e] at hb;exact ub _ hb
  · rw [e] at hb
    unfold frs at hb
    rw [List.filterMap_cons,hf] at hb
    exact hb
theorem Inv.stkFree (I:Inv X pins σ H s):∀ b ∈ frs X.stack,H b=none:=fun b hb=>by
  rcases ui.mp (I.stkSub b hb) with e | hb
  · rw [e];exact I.free
  · obtain ⟨_,o,ho,_⟩:=I.ok.funs.mem hb
    exact I.base.free b o ho (I.ok.frf b hb) fun z=>I.ok.exfs b z hb
theorem Inv.step {g':Array GenState} {t':Nat} {d':Drawn} {ch:List Addr} (I:Inv X pins σ H s)
    (hch:∀ b ∈ ch,(b ∈ X.ex\/X.s₀.heap.objs.size<=b)/\b ≠ X.env.locals/\(∀ x c,X.env.cells.lookup x=some c->c ≠ b)/\∀ p ∈ X.pn ++ pins,p.1 ≠ b)
    (keep:∀ b o,b ≠ X.env.locals->b ∉ X.fs->b ∉ ch->s.heap.get? b=some o->H b=none->h'.get? b=some o)
    (slot:∀ b o,b ≠ X.env.locals->b ∈ X.fs->b ∉ ch->s.heap.get? b=some o->H b=none->∃ sl,h'.get? b=some { o with slots:=sl }) (free:∀ b o,b ∉ ch->s.heap.get? b=some o->H b=none->H' b=none)
    (there:∀ b o,b ∉ ch->s.heap.get? b=some o->∃ o',h'.get? b=some o')
    (tups:∀ b xs,H b=some (.tup xs)->H' b=some (.tup xs)) (frzs:∀ b o u,H b=some (.frz o u)->H' b=some (.frz o u)) (tbls:∀ b ps,H b=some (.tbl ps)->∃ more,H' b=some (.tbl (ps ++ more)))
    (ns:∀ m,s.heap.Ns X.env.locals m->h'.Ns X.env.locals m) (hok:HOk X.prog X.w H' h') (hg:AllBare g') :
    Inv X pins σ H' { s with heap:=h',gens:=g',drawn:=d',toks:=t' }:=by
  have neL:∀ b o,X.s₀.heap.get? b=some o->b ≠ X.env.locals:=fun b o e=>uA (uF (uk e) I.ok.above)
  have neC:∀ b o,X.s₀.heap.get? b=some o->b ∉ X.ex->b ∉ ch:=fun b o e hx hb=>by
    rcases (hch b hb).1 with z | z
    · exact hx z
    · exact absurd (uF (uk e) z) (Nat.lt_irrefl _)
  have cellK:∀ x c,X.env.cells.lookup x=some c->∀ v,s.heap.IsCell c v->h'.IsCell c v:=fun x c e v ⟨o,ho,hd⟩=>by
    have nch:c ∉ ch:=fun z=>(hch c z).2.2.1 x c e rfl
    by_cases hc:c ∈ X.fs
    · obtain ⟨sl,q⟩:=slot c o (I.cne x c e) hc nch ho (I.freeC x c e)
      exact ⟨_,q,hd⟩
    · exact ⟨o,keep c o (I.cne x c e) hc nch ho (I.freeC x c e),hd⟩
  refine ⟨I.ok,I.os,hg,⟨fun b o e n hb hx=>?_,fun b o e n hb hx=>?_,fun b o e n hx=>?_,fun b o e hx=>?_,fun b xs e=>tups b xs (I.base.tups b xs e),fun b o xs e=>frzs b o xs (I.base.frzs b o xs e),fun b ps e=>?_⟩,?_,fun x c e=>?_,?_,fun x c e=>?_,fun p hp=>?_,hok,I.len⟩
  · exact keep b o (neL b o e) hb (neC b o e hx) (I.base.keep b o e n hb hx) (I.base.free b o e n hx)
  · obtain ⟨sl,e1⟩:=I.base.slot b o e n hb hx
    obtain ⟨sl',e2⟩:=slot b _ (neL b o e) hb (neC b o e hx) e1 (I.base.free b o e n hx)
    exact ⟨sl',e2⟩
  · obtain ⟨o',e1⟩:=I.base.there b o e hx
    exact free b o' (neC b o e hx) e1 (I.base.free b o e n hx)
  · obtain ⟨o',e1⟩:=I.base.there b o e hx
    exact there b o' (neC b o e hx) e1
  · obtain ⟨m1,e1⟩:=I.base.tbls b ps e
    obtain ⟨m2,e2⟩:=tbls b _ e1
    exact ⟨m1 ++ m2,by rw [e2,Array.append_assoc]⟩
  · obtain ⟨m,hn,hl⟩:=I.loc
    refine ⟨m,ns m hn,fun i x v e1 e2 e3=>?_⟩
    obtain ⟨u,r,l⟩:=hl i x v e1 e2 e3
    refine ⟨u,r,?_⟩
    rcases l with l | ⟨k,c,e,z⟩
    · exact .inl l
    · exact .inr ⟨k,c,e,cellK x c e _ z⟩
  · obtain ⟨v,z⟩:=I.cell x c e
    exact ⟨v,cellK x c e v z⟩
  · obtain ⟨m,⟨o,_,_,ho,_⟩,_⟩:=I.loc
    exact free _ o (fun z=>(hch _ z).2.1 rfl) ho I.free
  · obtain ⟨v,o,ho,hd⟩:=I.cell x c e
    exact free c o (fun z=>(hch c z).2.2.1 x c e rfl) ho (I.freeC x c e)
  · obtain ⟨e,n,ne,nf,d⟩:=I.pin p hp
    have nch:p.1 ∉ ch:=fun z=>(hch p.1 z).2.2.2 p hp rfl
    exact ⟨keep p.1 p.2 ne nf nch e n,free p.1 p.2 nch e n,ne,nf,d⟩
theorem Inv.un {t':Nat} (I:Inv X pins σ H s) (u:Un X.fs [] H H' s.heap h') (hok:HOk X.prog X.w H' h'):Inv X pins σ H' { s with heap:=h',toks:=t' }:=by
  obtain ⟨m,⟨o,es,ep,ho,r⟩,_⟩:=id I.loc
  obtain ⟨sl,hL⟩:=u.any ho I.free (by simp)
  exact I.step (g':=s.gens) (d':=s.drawn) (ch:=[]) (fun _ z=>nomatch z) (fun b o _ hb _ e n=>u.keep b o e n hb (by simp)) (fun b o _ hb _ e n=>u.slot b o e n hb (by simp)) (fun b o _ e n=>u.free b o e n (by simp)) (fun b o _ e=>u.there b o e (by simp)) u.tups u.frzs u.tbls (fun m' hm=>by
    obtain ⟨o',es',ep',ho',r'⟩:=hm
    rw [ho] at ho';cases ho'
    exact ⟨_,es',ep',hL,r'⟩) hok I.bare
theorem Inv.call {g':Array GenState} {t':Nat} {d':Drawn} {ch:List Addr} (I:Inv X pins σ H s) (u:Un (frs X.stack) ch H H' s.heap h') (hok:HOk X.prog X.w H' h') (hg:AllBare g')
    (hch:∀ b ∈ ch,(b ∈ X.ex\/X.s₀.heap.objs.size<=b)/\b ≠ X.env.locals/\(∀ x c,X.env.cells.lookup x=some c->c ≠ b)/\∀ p ∈ X.pn ++ pins,p.1 ≠ b) :
    Inv X pins σ H' { s with heap:=h',gens:=g',drawn:=d',toks:=t' }:=by
  obtain ⟨m,⟨o,es,ep,ho,r⟩,_⟩:=id I.loc
  obtain ⟨sl,hL⟩:=u.any ho I.free fun z=>(hch _ z).2.1 rfl
  exact I.step (ch:=ch) hch (fun b o hL hb hc e n=>u.keep b o e n (fun z=>(ui.mp (I.stkSub b z)).elim hL hb) hc) (fun b o _ _ hc e n=>u.any e n hc) (fun b o hc e n=>u.free b o e n hc) (fun b o hc e=>u.there b o e hc) u.tups u.frzs u.tbls (fun m' hm=>by
    obtain ⟨o',es',ep',ho',r'⟩:=hm
    rw [ho] at ho';cases ho'
    exact ⟨_,es',ep',hL,r'⟩) hok hg
theorem Inv.turned {t':Nat} {it:Addr} (I:Inv X pins σ H s) (k:∀ b o,b ≠ it->s.heap.get? b=some o->h'.get? b=some o) (hn:H it=none) (hL:it ≠ X.env.locals)
    (h1:it ∈ X.ex\/X.s₀.heap.objs.size<=it) (h2:∀ x c,X.env.cells.lookup x=some c->c ≠ it) (h3:∀ p ∈ X.pn ++ pins,p.1 ≠ it):Inv X pins σ H { s with heap:=h',toks:=t' }:=by
  have nit:∀ b u,H b=some u->b ≠ it:=fun b u e z=>by rw [z,hn] at e;cases e
  refine I.step (g':=s.gens) (d':=s.drawn) (ch:=[it]) (fun b hb=>?_) (fun b o _ _ hc e _=>k b o (fun z=>hc (by simp [z])) e) (fun b o _ _ hc e _=>⟨o.slots,k b o (fun z=>hc (by simp [z])) e⟩) (fun _ _ _ _ n=>n)
    (fun b o hc e=>⟨o,k b o (fun z=>hc (by simp [z])) e⟩) (fun _ _ e=>e) (fun _ _ _ e=>e) (fun b ps e=>⟨#[],by rw [e];simp⟩) (fun m hm=>?_) (fun b u e=>?_) I.bare
  · have e:b=it:=by simpa using hb
    subst e
    exact ⟨h1,hL,h2,h3⟩
  · obtain ⟨o,es,ep,ho,r⟩:=hm
    exact ⟨o,es,ep,k _ o (Ne.symm hL) ho,r⟩
  · refine (I.hok b u e).stay (fun c v hc q=>k c v ?_ q) (fun _ q=>q) fun _ _ q=>q
    rcases hc with z | z
    · rw [z];exact nit b u e
    · exact nit c _ z
theorem Inv.tok (I:Inv X pins σ H s) (t:Nat):Inv X pins σ H { s with toks:=t }:=I.un (h':=s.heap) (t':=t) Un.refl I.hok
theorem Inv.kept {t':Nat} (I:Inv X pins σ H s) (k:∀ b u,s.heap.get? b=some u->h'.get? b=some u):Inv X pins σ H { s with heap:=h',toks:=t' }:=I.un (Un.kept k) (I.hok.kept k)
theorem Inv.laid {a:Addr} {o:HO} {t':Nat} (I:Inv X pins σ H s) (k:∀ b u,s.heap.get? b=some u->h'.get? b=some u) (hp:s.heap.objs.size<=a) (new:ObjOk X.prog X.w (upd H a o) h' a o) :
    Inv X pins σ (upd H a o) { s with heap:=h',toks:=t' }:=I.un (Un.laid k hp (I.hok.fresh hp)) (I.hok.laid k hp new)
theorem Inv.write {x e:Addr} {o:HO} {t':Nat} (I:Inv X pins σ H s) (mu:Mut (H x)) (he:e=x\/H e=some (.own x)) (k:∀ b u,b ≠ e->s.heap.get? b=some u->h'.get? b=some u) (heo:∃ u,h'.get? e=some u)
    (new:ObjOk X.prog X.w (upd H x o) h' x o):Inv X pins σ (upd H x o) { s with heap:=h',toks:=t' }:=I.un (Un.write mu he k heo) (I.hok.write mu he k heo new)
theorem Inv.pins_of {pins':List (Addr × Obj)} (I:Inv X pins σ H s) (h:∀ p ∈ pins',s.heap.get? p.1=some p.2/\H p.1=none/\p.1 ≠ X.env.locals/\p.1 ∉ X.fs/\∀ v,p.2.data ≠ .cell v):Inv X pins' σ H s :=
  ⟨I.ok,I.os,I.bare,I.base,I.loc,I.cell,I.free,I.freeC,fun p hp=>(ul.mp hp).elim (fun z=>I.pin p (ug _ z)) (h p),I.hok,I.len⟩
theorem j3 {N:List Str} (hN:N.Nodup) {i j:Nat} {x:Str} (a:N[i]?=some x) (b:N[j]?=some x):i=j:=by
  obtain ⟨h1,e1⟩:=uq.mp a
  obtain ⟨h2,e2⟩:=uq.mp b
  exact (List.getElem_inj hN).mp (e1.trans e2.symm)
theorem mm {M:Model} {A:Around} {E:Value->Shared->Prop} {i:Nat} {x:Str} {v:V} {u:Value} {Q:Unit->Shared->Prop} (I:Inv X pins σ H s) (hN:X.N.Nodup) (hi:X.N[i]?=some x) (hx:Loc X.env.scope x) (r:RelV v u)
    (h:∀ s',Inv X pins (σ.set i (some v)) H s'->(∃ a,Heap.SameBut a s.heap s'.heap/\(a=X.env.locals\/X.env.cells.lookup x=some a))->Q () s') (hf:X.fn x=true\/X.env.scope.names.lookup x=some .local:=by first | exact .inl rfl | exact .inr rfl | assumption):wpAny M A (storeName X.env x u) Q E s:=by
  obtain ⟨m,hn,hl⟩:=id I.loc
  have hcls:(X.env.scope.kind == .class || (X.env.scope.kind == .module && X.env.locals != X.env.globals))=false:=by rw [I.ok.kind];rfl
  have hiσ:i < σ.length:=by rw [I.len];exact (uq.mp hi).1
  have cne:=I.cne
  have tracked:∀ {a:Addr} {h':Heap},(∃ o,s.heap.get? a=some o/\H a=none)->Heap.SameBut a s.heap h'->HOk X.prog X.w H h':=fun {a h'} ha hs b ob e=>by
    obtain ⟨_,_,hfree⟩:=ha
    refine (I.hok b ob e).stay (fun c w' hc q=>(hs.2 c ?_).trans q) (fun _ q=>q) fun _ _ q=>q
    rintro rfl
    rcases hc with rfl | hc
    · rw [hfree] at e;cases e
    · rw [hfree] at hc;cases hc
  rcases hx with hk | hk
  · refine wpAny_storeName_local hk hn (fun h' hn' hs=>?_) hcls
    obtain ⟨oL,_,_,hoL,_⟩:=id hn
    refine h _ ⟨I.ok,I.os,I.bare,⟨fun b o e n hb hx=>?_,fun b o e n hb hx=>?_,I.base.free,fun b o e hx=>?_,I.base.tups,I.base.frzs,I.base.tbls⟩,⟨_,hn',fun j y v' e1 e2 e3=>?_⟩,fun y c e=>?_,I.free,I.freeC,fun p hp=>?_,tracked ⟨oL,hoL,I.free⟩ hs,by simpa using I.len⟩ ⟨_,hs,.inl rfl⟩
    · exact (hs.2 b (uA (uF (uk e) I.ok.above))).trans (I.base.keep b o e n hb hx)
    · obtain ⟨sl,e1⟩:=I.base.slot b o e n hb hx
      exact ⟨sl,(hs.2 b (uA (uF (uk e) I.ok.above))).trans e1⟩
    · obtain ⟨o',e1⟩:=I.base.there b o e hx
      exact ⟨o',(hs.2 b (uA (uF (uk e) I.ok.above))).trans e1⟩
    · by_cases hj:j=i
      · subst hj
        rw [hi] at e1;cases e1
        rw [List.getElem?_set_self hiσ] at e2
        cases e2
        exact ⟨u,r,.inl ⟨hk,by simp⟩⟩
      · rw [List.getElem?_set_ne (Ne.symm hj)] at e2
        obtain ⟨u',r',q⟩:=hl j y v' e1 e2 e3
        refine ⟨u',r',?_⟩
        rcases q with ⟨k,e⟩ | ⟨k,c,e,z⟩
        · refine .inl ⟨k,?_⟩
          have:y ≠ x:=fun e=>hj (j3 hN e1 (e ▸ hi))
          simp [this,e]
        · exact .inr ⟨k,c,e,z.sameBut hs (cne y c e)⟩
    · obtain ⟨w',z⟩:=I.cell y c e
      exact ⟨w',z.sameBut hs (cne y c e)⟩
    · obtain ⟨e,n,ne,nf,d⟩:=I.pin p hp
      exact ⟨(hs.2 p.1 ne).trans e,n,ne,nf,d⟩
  · have hfn:X.fn x=true:=by
      rcases hf with z | z
      · exact z
      · rw [z] at hk;cases hk
    obtain ⟨c,hc⟩:=I.ok.has x (.inl hk)
    obtain ⟨w',z⟩:=I.cell x c hc
    refine wpAny_storeName_cell I.ok.kind hk hc z (fun h' hc' hs=>?_)
    obtain ⟨oc,hoc,hocd⟩:=id z
    refine h { s with heap:=h' } ⟨I.ok,I.os,I.bare,⟨fun b o e n hb hx=>?_,fun b o e n hb hx=>?_,I.base.free,fun b o e hx=>?_,I.base.tups,I.base.frzs,I.base.tbls⟩,⟨m,hn.sameBut hs (Ne.symm (cne x c hc)),fun j y v' e1 e2 e3=>?_⟩,fun y c' e=>?_,I.free,I.freeC,fun p hp=>?_,tracked ⟨oc,hoc,I.freeC x c hc⟩ hs,by simpa using I.len⟩ ⟨c,hs,.inr hc⟩
    · exact (hs.2 b (uA (uF (uk e) (I.ok.cab x c hfn hc)))).trans (I.base.keep b o e n hb hx)
    · obtain ⟨sl,e1⟩:=I.base.slot b o e n hb hx
      exact ⟨sl,(hs.2 b (uA (uF (uk e) (I.ok.cab x c hfn hc)))).trans e1⟩
    · obtain ⟨o',e1⟩:=I.base.there b o e hx
      exact ⟨o',(hs.2 b (uA (uF (uk e) (I.ok.cab x c hfn hc)))).trans e1⟩
    · by_cases hj:j=i
      · subst hj
        rw [hi] at e1;cases e1
        rw [List.getElem?_set_self hiσ] at e2
        cases e2
        exact ⟨u,r,.inr ⟨.inl hk,c,hc,hc'⟩⟩
      · rw [List.getElem?_set_ne (Ne.symm hj)] at e2
        obtain ⟨u',r',q⟩:=hl j y v' e1 e2 e3
        refine ⟨u',r',?_⟩
        rcases q with q | ⟨k,c',e,z'⟩
        · exact .inl q
        · refine .inr ⟨k,c',e,z'.sameBut hs ?_⟩
          rintro rfl
          exact hj (j3 hN e1 (I.ok.inj _ _ _ e hc ▸ hi))
    · by_cases hcc:c'=c
      · subst hcc;exact ⟨_,hc'⟩
      · obtain ⟨w2,z2⟩:=I.cell y c' e
        exact ⟨w2,z2.sameBut hs hcc⟩
    · obtain ⟨e,n,ne,nf,d⟩:=I.pin p hp
      refine ⟨(hs.2 p.1 ?_).trans e,n,ne,nf,d⟩
      intro q
      rw [q,hoc] at e
      have q':oc=p.2:=uV e
      exact d w' (by rw [<- q'];exact hocd)
theorem eF {M:Model} {A:Around} {E:Value->Shared->Prop} {i:Nat} {x:Str} {v:V} {u:Value} {Q:Unit->Shared->Prop} (I:Inv X pins σ H s) (hN:X.N.Nodup) (hi:X.N[i]?=some x) (hx:Loc X.env.scope x) (r:RelV v u)
    (h:∀ s',Inv X pins (σ.set i (some v)) H s'->Q () s') (hf:X.fn x=true\/X.env.scope.names.lookup x=some .local:=by first | exact .inl rfl | exact .inr rfl | assumption):wpAny M A (storeName X.env x u) Q E s :=
  mm I hN hi hx r (fun s' I' _=>h s' I') hf
theorem Inv.call' {s':Shared} {ch:List Addr} (I:Inv X pins σ H s) (ho:s'.os=s.os) (u:Un (frs X.stack) ch H H' s.heap s'.heap) (hok:HOk X.prog X.w H' s'.heap) (hg:AllBare s'.gens)
    (hch:∀ b ∈ ch,(b ∈ X.ex\/X.s₀.heap.objs.size<=b)/\b ≠ X.env.locals/\(∀ x c,X.env.cells.lookup x=some c->c ≠ b)/\∀ p ∈ X.pn ++ pins,p.1 ≠ b):Inv X pins σ H' s':=by
  obtain ⟨h',g',d',t',o'⟩:=s'
  have e:o'=s.os:=ho
  subst e
  exact I.call (g':=g') (t':=t') (d':=d') u hok hg hch
end
noncomputable abbrev XK:=Value->Option Addr->Hp->Prop
noncomputable abbrev St:=List (Option V)
noncomputable abbrev VK:=V->Hp->Prop
noncomputable abbrev TE:=St->Hp->VK->Prop
noncomputable abbrev TT:=St->Hp->(Bool->Hp->Prop)->Prop
noncomputable abbrev TA:=St->Hp->(List V->Hp->Prop)->Prop
structure Ends where
  nx:St->Hp->Prop
  rt:VK
  bk:St->Hp->Prop:=fun _ _=>False
  ct:St->Hp->Prop:=fun _ _=>False
noncomputable abbrev TS:=Ends->St->Hp->Prop
noncomputable def EP (X:Cx) (pins:List (Addr × Obj)) (σ:St) (Q:VK) (u:Value) (s':Shared):Prop:=∃ v H',Inv X pins σ H' s'/\RelV v u/\Q v H'
noncomputable def TP (X:Cx) (pins:List (Addr × Obj)) (σ:St) (Q:Bool->Hp->Prop) (b:Bool) (s':Shared):Prop:=∃ H',Inv X pins σ H' s'/\Q b H'
noncomputable def AP (X:Cx) (pins:List (Addr × Obj)) (σ:St) (Q:List V->Hp->Prop) (us:List Value) (s':Shared):Prop:=∃ vs H',Inv X pins σ H' s'/\Vals vs us/\Q vs H'
set_option tactic.hygienic true in
noncomputable def SP (X:Cx) (pins:List (Addr × Obj)) (D:Ends) (f:Flow) (s':Shared):Prop :=
  match f with
  | .next=>∃ σ' H',Inv X pins σ' H' s'/\D.nx σ' H'
  | .brk=>∃ σ' H',Inv X pins σ' H' s'/\D.bk σ' H'
  | .cont=>∃ σ' H',Inv X pins σ' H' s'/\D.ct σ' H'
  | .ret u=>∃ v σ' H',Inv X pins σ' H' s'/\RelV v u/\D.rt v H'
noncomputable def PE (X:Cx) (e:Expr) (t:TE):Prop :=
  ∀ (pins:List (Addr × Obj)) (s:Shared) (σ:St) (H:Hp) (Q:VK),Inv X pins σ H s->t σ H Q->wpAny (model X.prog X.w) X.A (eval e X.env) (EP X pins σ Q) X.xe s
noncomputable def PT (X:Cx) (e:Expr) (t:TT):Prop :=
  ∀ (pins:List (Addr × Obj)) (s:Shared) (σ:St) (H:Hp) (Q:Bool->Hp->Prop),Inv X pins σ H s->t σ H Q->wpAny (model X.prog X.w) X.A (isTrue e X.env (eval e X.env)) (TP X pins σ Q) X.xe s
noncomputable def PW (X:Cx) (e:Expr) (t:TT):Prop :=
  ∀ (whole:Sem Value) (pins:List (Addr × Obj)) (s:Shared) (σ:St) (H:Hp) (Q:Bool->Hp->Prop),Inv X pins σ H s->t σ H Q->wpAny (model X.prog X.w) X.A (isTrue e X.env whole) (TP X pins σ Q) X.xe s
theorem PW.pt {X:Cx} {e:Expr} {t:TT} (h:PW X e t):PT X e t:=h _
noncomputable def PA (X:Cx) (es:List Expr) (t:TA):Prop :=
  ∀ (pos:Pos) (pins:List (Addr × Obj)) (s:Shared) (σ:St) (H:Hp) (Q:List V->Hp->Prop),Inv X pins σ H s->t σ H Q->wpAny (model X.prog X.w) X.A (spliced (backTo pos (starEach es X.env))) (AP X pins σ Q) X.xe s
noncomputable def PS (X:Cx) (st:Stmt) (t:TS):Prop :=
  ∀ (pins:List (Addr × Obj)) (s:Shared) (σ:St) (H:Hp) (D:Ends),Inv X pins σ H s->t D σ H->wpAny (model X.prog X.w) X.A (exec st X.env) (SP X pins D) X.xe s
noncomputable def PSs (X:Cx) (st:List Stmt) (t:TS):Prop :=
  ∀ (pins:List (Addr × Obj)) (s:Shared) (σ:St) (H:Hp) (D:Ends),Inv X pins σ H s->t D σ H->wpAny (model X.prog X.w) X.A (execs st X.env) (SP X pins D) X.xe s
theorem thn {α:Type} {t:Sem α} {Q Q':α->Shared->Prop} {M:Model} {A:Around} {E:Value->Shared->Prop} {s:Shared} (h:wpAny M A t Q E s) (hQ:∀ a s,Q a s->Q' a s):wpAny M A t Q' E s:=wpAny_mono h hQ fun _ _ x=>x
end L2
namespace L2
open PySem PySem.Spec PyProof.Rows
section
variable {X:Cx}
theorem bin {a b:Expr} {ta tb:TE} (ha:PE X a ta) (hb:PE X b tb) {pins:List (Addr × Obj)} {s:Shared} {σ:St} {H:Hp} {R:V->V->Hp->Prop} (I:Inv X pins σ H s) (h:ta σ H fun x H1=>tb σ H1 fun y H2=>R x y H2)
    {α:Type} {Q:α->Shared->Prop} {f:Value->Value->Sem α}
    (hf:∀ v u s2 x y H2,Inv X pins σ H2 s2->RelV x v->RelV y u->R x y H2->wpAny (model X.prog X.w) X.A (f v u) Q X.xe s2) :
    wpAny (model X.prog X.w) X.A (eval a X.env) (fun v s₁=>wpAny (model X.prog X.w) X.A (eval b X.env) (fun u s₂=>wpAny (model X.prog X.w) X.A (f v u) Q X.xe s₂) X.xe s₁) X.xe s:=by
  refine thn (ha pins s σ H _ I h) fun v s1 ⟨x,H1,I1,r1,q1⟩=>?_
  refine thn (hb pins s1 σ H1 _ I1 q1) fun u s2 ⟨y,H2,I2,r2,q2⟩=>?_
  exact hf v u s2 x y H2 I2 r1 r2 q2
noncomputable def ml (i:Nat):TE:=fun σ H Q=>∃ v,σ[i]?=some (some v)/\Q v H
noncomputable def tC (v:V):TE:=fun _ H Q=>Q v H
theorem d8 {i:Nat} {x:Str} {pos:Pos} (hN:X.N[i]?=some x) (hv:Vis X.env.scope x) (hd:(x == ("__debug__":Str))=false:=by decide) (hcd:(x == ("__classdict__":Str))=false:=by decide):PE X (.Name x pos) (ml i):=by
  intro pins s σ H Q I h
  obtain ⟨v,e,h⟩:=h
  obtain ⟨m,hn,hl⟩:=I.loc
  obtain ⟨u,r,l⟩:=hl i x v hN e hv
  have fin:EP X pins σ Q u s:=⟨v,H,I,r,h⟩
  rcases l with ⟨hk,hm⟩ | ⟨hk,c,hc,hcell⟩
  · exact wpAny_Name (wpAny_loadName_local I.ok.kind hk hn hm fin) hd
  · rcases hk with hk | hk
    · exact wpAny_Name (wpAny_loadName_cell I.ok.kind hk hc hcell fin) hd
    · exact wpAny_Name (wpAny_loadName_free I.ok.kind hk hc hcell fin hcd) hd
theorem sZ {i j pos}:PE X (.Constant (.int i) j pos) (tC (.int i)):=fun _ _ _ H _ I h=>wpAny_Constant_int ⟨.int i,H,I.tok _,⟨_,rfl⟩,h⟩
theorem pe_bl {b j pos}:PE X (.Constant (.bool b) j pos) (tC (.bl b)):=fun _ _ _ H _ I h=>Constant_bool ⟨.bl b,H,I,rfl,h⟩
theorem sW {j pos}:PE X (.Constant .none j pos) (tC .non):=fun _ _ _ H _ I h=>Constant_none ⟨.non,H,I,rfl,h⟩
noncomputable def Gl (X:Cx) (x:Str):Prop:=X.env.kindOf x=some .globalImplicit
theorem lQ {E:Value->Shared->Prop} {pins:List (Addr × Obj)} {s:Shared} {σ:St} {H:Hp} {x:Str} {u:Value} {pos:Pos} {Q:Value->Shared->Prop} (I:Inv X pins σ H s) (hg:Gl X x) (hm:X.mg x=some u) (h:Q u s)
    (hd:(x == ("__debug__":Str))=false:=by decide):wpAny (model X.prog X.w) X.A (eval (.Name x pos) X.env) Q E s :=
  Calls.Name_function_global I.ok.kind hg (Calls.loadGlobal_global (by rw [I.ok.glob];exact I.mod.glob.keeps I.bk) hm h) hd
theorem el {E:Value->Shared->Prop} {pins:List (Addr × Obj)} {s:Shared} {σ:St} {H:Hp} {x:Str} {u:Value} {pos:Pos} {Q:Value->Shared->Prop} (I:Inv X pins σ H s) (hg:Gl X x) (hm:X.mg x=none) (hv:bootBuiltins x=some u) (h:Q u s)
    (hn:x ≠ "__name__":=by decide) (hd:(x == ("__debug__":Str))=false:=by decide):wpAny (model X.prog X.w) X.A (eval (.Name x pos) X.env) Q E s:=by
  obtain ⟨mb,h1,h2⟩:=I.mod.blt
  exact Calls.Name_function_global I.ok.kind hg (Calls.loadGlobal_builtin (by rw [I.ok.glob];exact I.mod.glob.keeps I.bk) hm (by rw [I.ok.blt];exact h1.keeps I.bk) ((h2 x hn).trans hv) h) hd
theorem qe {x:Str} {v:V} {u:Value} {pos:Pos} (hg:Gl X x) (hm:X.mg x=some u) (r:RelV v u) (hd:(x == ("__debug__":Str))=false:=by decide):PE X (.Name x pos) (tC v) :=
  fun _ _ _ H _ I h=>lQ I hg hm ⟨v,H,I,r,h⟩ hd
theorem cE {x:Str} {v:V} {u:Value} {pos:Pos} (hg:Gl X x) (hm:X.mg x=none) (hv:bootBuiltins x=some u) (r:RelV v u) (hn:x ≠ "__name__":=by decide) (hd:(x == ("__debug__":Str))=false:=by decide):PE X (.Name x pos) (tC v) :=
  fun _ _ _ H _ I h=>el I hg hm hv ⟨v,H,I,r,h⟩ hn hd
variable {a b:Expr} {ta tb:TE} {pos:Pos}
noncomputable def PC (X:Cx) (op:CmpOp) (a b:Expr) (t:TE):Prop :=
  ∀ (pins:List (Addr × Obj)) (s:Shared) (σ:St) (H:Hp) (Q:VK),Inv X pins σ H s->t σ H Q ->
    wpAny (model X.prog X.w) X.A (eval a X.env) (fun v s₁=>wpAny (model X.prog X.w) X.A (eval b X.env) (fun u s₂=>wpAny (model X.prog X.w) X.A (compareOp op v u) (EP X pins σ Q) X.xe s₂) X.xe s₁) X.xe s
noncomputable def tB (t:TE):TT:=fun σ H Q=>t σ H fun x H1=>∃ c,x=.bl c/\Q c H1
theorem sJ {e:Expr} {t:TE} (h:PE X e t) (he:∀ whole,isTrue e X.env whole=(do let v <- whole;standAt e.pos;holding [v] (truthy v)):=by intro _;rfl):PT X e (tB t):=by
  intro pins s σ H Q I hw
  refine isTrue_plain (thn (h pins s σ H _ I hw) fun v s1 ⟨x,H1,I1,r1,q1⟩=>?_) (he _)
  obtain ⟨d,rfl,q⟩:=q1
  cases r1
  exact uS ⟨H1,I1,q⟩
variable {tA tB':TT} {dq:List Expr}
noncomputable def tAnd (t u:TT):TT:=fun σ H Q=>t σ H fun c H1=>if c=true then u σ H1 Q else Q false H1
noncomputable def tOr (t u:TT):TT:=fun σ H Q=>t σ H fun c H1=>if c=true then Q true H1 else u σ H1 Q
noncomputable def tNot (t:TT):TT:=fun σ H Q=>t σ H fun c H1=>Q (!c) H1
theorem p5 (ha:PT X a tA):PW X (.BoolOp .And [a] pos) tA:=by
  intro wh pins s σ H Q I h
  refine isTrue_and (thn (ha pins s σ H Q I h) fun c s1 e=>?_)
  cases c with
  | true=>exact isTrue_and_nil e
  | false=>exact e
theorem sH (ha:PT X a tA):PW X (.BoolOp .Or [a] pos) tA:=by
  intro wh pins s σ H Q I h
  refine isTrue_or (thn (ha pins s σ H Q I h) fun c s1 e=>?_)
  cases c with
  | false=>exact isTrue_or_nil e
  | true=>exact e
theorem sI (ha:PT X a tA) (hb:PW X (.BoolOp .And (b :: dq) pos) tB'):PW X (.BoolOp .And (a :: b :: dq) pos) (tAnd tA tB'):=by
  intro wh pins s σ H Q I h
  refine isTrue_and (thn (ha pins s σ H _ I h) fun c s1 ⟨H1,I1,q1⟩=>?_)
  cases c with
  | true=>exact hb wh pins s1 σ H1 Q I1 q1
  | false=>exact ⟨H1,I1,q1⟩
theorem pw_or (ha:PT X a tA) (hb:PW X (.BoolOp .Or (b :: dq) pos) tB'):PW X (.BoolOp .Or (a :: b :: dq) pos) (tOr tA tB'):=by
  intro wh pins s σ H Q I h
  refine isTrue_or (thn (ha pins s σ H _ I h) fun c s1 ⟨H1,I1,q1⟩=>?_)
  cases c with
  | true=>exact ⟨H1,I1,q1⟩
  | false=>exact hb wh pins s1 σ H1 Q I1 q1
theorem sK (ha:PT X a tA):PT X (.UnaryOp .Not a pos) (tNot tA):=by
  intro pins s σ H Q I h
  exact isTrue_not (ha pins s σ H (fun c H1=>Q (!c) H1) I h)
noncomputable def qX (ta tb:TE):TE:=fun σ H Q=>ta σ H fun x H1=>∃ c,x=.bl c/\if c=true then tb σ H1 Q else Q (.bl false) H1
noncomputable def qS (ta:TE):TE:=fun σ H Q=>ta σ H fun x H1=>∃ c,x=.bl c/\Q (.bl (!c)) H1
theorem sU {op} {t:TE} (h:PE X a t):PE X (.BoolOp op [a] pos) t:=fun pins s σ H Q I hw=>BoolOp_one (h pins s σ H Q I hw)
theorem s0 (ha:PE X a ta) (hb:PE X (.BoolOp .And (b :: dq) pos) tb):PE X (.BoolOp .And (a :: b :: dq) pos) (qX ta tb):=by
  intro pins s σ H Q I h
  refine BoolOp_and (thn (ha pins s σ H _ I h) fun v s1 ⟨x,H1,I1,r1,q1⟩=>?_)
  obtain ⟨c,rfl,q1⟩:=q1
  cases r1
  refine uS ?_
  cases c with
  | true=>exact hb pins s1 σ H1 Q I1 q1
  | false=>exact ⟨.bl false,H1,I1,rfl,q1⟩
theorem sV (ha:PE X a ta):PE X (.UnaryOp .Not a pos) (qS ta):=by
  intro pins s σ H Q I h
  refine UnaryOp_ (thn (ha pins s σ H _ I h) fun v s1 ⟨x,H1,I1,r1,q1⟩=>?_)
  obtain ⟨c,rfl,q1⟩:=q1
  cases r1
  exact not_of (uS ⟨.bl (!c),H1,I1,rfl,q1⟩)
end
end L2
namespace L2
open PySem PySem.Spec PyProof.Rows
noncomputable def SqL (K:FG) (H:Hp) (a:Addr) (xs:List V):Prop :=
  Rd H a (.lst xs) \/
    ∃ (o:Obj) (its:Array Value) (n:Nat),K.lookup a=some o/\o.cls=.type "list"/\o.dict=none/\o.data=.seq its n/\its.size<=sizeLine/\Vals xs its.toList
noncomputable def SqT (K:FG) (H:Hp) (a:Addr) (xs:List V):Prop :=
  Rd H a (.tup xs) \/
    ∃ (o:Obj) (its:Array Value) (n:Nat),K.lookup a=some o/\o.cls=.type "tuple"/\o.data=.seq its n/\its.size<=sizeLine/\Vals xs its.toList
noncomputable def absV:Value->Option V
  | .none=>some .non
  | .bool b=>some (.bl b)
  | .int i _=>some (.int i)
  | .str x _=>some (.str x)
  | .bytes b _=>some (.byt b)
  | .float b _=>some (.flt b)
  | .ref a=>some (.ref a)
  | .type n=>some (.ty n)
  | _=>none
theorem RelV.abs {x:V} {u:Value} (r:RelV x u):absV u=some x:=by
  cases x with
  | non=>cases r;rfl
  | bl _=>cases r;rfl
  | int _=>obtain ⟨t,rfl⟩:=r;rfl
  | str _=>obtain ⟨t,rfl⟩:=r;rfl
  | byt _=>obtain ⟨t,rfl⟩:=r;rfl
  | flt _=>obtain ⟨t,rfl⟩:=r;rfl
  | ref _=>cases r;rfl
  | ty _=>cases r;rfl
theorem RelV.inj {x y:V} {u:Value} (r:RelV x u) (q:RelV y u):x=y:=uV (r.abs.symm.trans q.abs)
theorem Vals.inj:∀ {xs ys:List V} {us:List Value},Vals xs us->Vals ys us->xs=ys
  | _,_,_,.nil,.nil=>rfl
  | _,_,_,.cons r t,.cons r' t'=>by rw [r.inj r',Vals.inj t t']
section
variable {X:Cx} {pins:List (Addr × Obj)} {σ:St} {H:Hp} {s:Shared} {a:Addr} {xs ys:List V}
theorem SqL.of {K:FG} (h:H a=some (.lst xs)):SqL K H a xs:=.inl (.inl h)
theorem SqT.of {K:FG} (h:H a=some (.tup xs)):SqT K H a xs:=.inl (.inl h)
theorem Inv.list (I:Inv X pins σ H s) (h:SqL X.K H a xs):∃ its:List Value,Vals xs its/\PlainL s.heap a its.toArray/\xs.length<=sizeLine:=by
  rcases h with h | ⟨o,its,n,hk,hc,hd,hs,hz,r⟩
  · obtain ⟨z,its,n,r,e⟩:=h.ok I.hok
    exact ⟨its,r,⟨_,n,e,rfl,rfl,rfl⟩,z⟩
  · refine ⟨its.toList,r,⟨o,n,I.kIn a o hk,hc,hd,by simpa using hs⟩,?_⟩
    have e:=r.length
    simp only [Array.length_toList] at e
    omega
theorem Inv.tuple (I:Inv X pins σ H s) (h:SqT X.K H a xs):∃ its:List Value,Vals xs its/\IsTup s.heap a its.toArray/\xs.length<=sizeLine:=by
  rcases h with h | ⟨o,its,n,hk,hc,hs,hz,r⟩
  · obtain ⟨z,its,r,p⟩:=h.ok I.hok
    exact ⟨its,r,p.tup,z⟩
  · refine ⟨its.toList,r,⟨o,I.kIn a o hk,hc,n,by simpa using hs⟩,?_⟩
    have e:=r.length
    simp only [Array.length_toList] at e
    omega
theorem Inv.list_inj (I:Inv X pins σ H s) (h:SqL X.K H a xs) (h':SqL X.K H a ys):xs=ys:=by
  obtain ⟨its,r,⟨o,n,e,_,_,d⟩,_⟩:=I.list h
  obtain ⟨its',r',⟨o',n',e',_,_,d'⟩,_⟩:=I.list h'
  rw [e] at e';cases e'
  rw [d] at d'
  injection d' with d1 _
  have:its=its':=by simpa using congrArg Array.toList d1
  subst this
  exact r.inj r'
theorem Inv.tuple_inj (I:Inv X pins σ H s) (h:SqT X.K H a xs) (h':SqT X.K H a ys):xs=ys:=by
  obtain ⟨its,r,⟨o,e,_,n,d⟩,_⟩:=I.tuple h
  obtain ⟨its',r',⟨o',e',_,n',d'⟩,_⟩:=I.tuple h'
  rw [e] at e';cases e'
  rw [d] at d'
  injection d' with d1 _
  have:its=its':=by simpa using congrArg Array.toList d1
  subst this
  exact r.inj r'
end
noncomputable abbrev Cx.wish (X:Cx) (E:Value->Shared->Prop):Cx:={ X with xe:=E }
noncomputable abbrev Cx.nox (X:Cx):Cx:=X.wish fun _ _=>False
theorem Cx.Ok.wish {X:Cx} (ok:X.Ok) (E:Value->Shared->Prop):(X.wish E).Ok :=
  ⟨ok.mod,ok.kind,ok.glob,ok.blt,ok.above,ok.inj,ok.has,ok.cab,ok.hd,ok.frames,ok.stk,ok.exf,ok.bs,ok.bsz,ok.noex,ok.exfs,ok.funs,ok.frf⟩
theorem Cx.Ok.unwish {X:Cx} {E:Value->Shared->Prop} (ok:(X.wish E).Ok):X.Ok :=
  ⟨ok.mod,ok.kind,ok.glob,ok.blt,ok.above,ok.inj,ok.has,ok.cab,ok.hd,ok.frames,ok.stk,ok.exf,ok.bs,ok.bsz,ok.noex,ok.exfs,ok.funs,ok.frf⟩
section
variable {X:Cx} {pins:List (Addr × Obj)} {σ:St} {H:Hp} {s:Shared} {E:Value->Shared->Prop}
theorem Inv.wish (I:Inv X pins σ H s) (E:Value->Shared->Prop):Inv (X.wish E) pins σ H s:=⟨I.ok.wish E,I.os,I.bare,I.base,I.loc,I.cell,I.free,I.freeC,I.pin,I.hok,I.len⟩
theorem Inv.unwish (I:Inv (X.wish E) pins σ H s):Inv X pins σ H s:=⟨I.ok.unwish,I.os,I.bare,I.base,I.loc,I.cell,I.free,I.freeC,I.pin,I.hok,I.len⟩
set_option tactic.hygienic true in
theorem SP.unwish {D:Ends} {f:Flow} {s':Shared} (h:SP (X.wish E) pins D f s'):SP X pins D f s':=by
  cases f with
  | next=>obtain ⟨σ',H',I,q⟩:=h;exact ⟨σ',H',I.unwish,q⟩
  | brk=>obtain ⟨σ',H',I,q⟩:=h;exact ⟨σ',H',I.unwish,q⟩
  | cont=>obtain ⟨σ',H',I,q⟩:=h;exact ⟨σ',H',I.unwish,q⟩
  | ret u=>obtain ⟨v,σ',H',I,r,q⟩:=h;exact ⟨v,σ',H',I.unwish,r,q⟩
theorem PSs.nox {st:List Stmt} {t:TS} (h:PSs X.nox st t):PSs X st t:=fun pins s σ H D I hw =>
  wpAny_mono (h pins s σ H D (I.wish _) hw) (fun _ _ q=>q.unwish) fun _ _ z=>False.elim z
end
section
variable {X:Cx} {st:Stmt} {dq:List Stmt} {t u:TS} {e:Expr} {te:TE} {pos:Pos}
noncomputable def qT:TS:=fun D σ H=>D.nx σ H
noncomputable def tSeq (t u:TS):TS:=fun D σ H=>t { D with nx:=u D } σ H
theorem qa:PSs X [] qT:=fun _ _ σ H _ I h=>wpAny_execs_nil ⟨σ,H,I,h⟩
set_option tactic.hygienic true in
theorem n4 (h1:PS X st t) (h2:PSs X dq u):PSs X (st :: dq) (tSeq t u):=by
  intro pins s σ H D I h
  refine wpAny_execs_cons (thn (h1 pins s σ H { D with nx:=u D } I h) fun f s1 q=>?_)
  cases f with
  | next =>
    obtain ⟨σ',H',I',q⟩:=q
    exact h2 pins s1 σ' H' D I' q
  | ret v=>exact q
  | brk=>exact q
  | cont=>exact q
set_option tactic.hygienic true in
theorem p9 (h1:PS X st t):PSs X [st] t:=by
  intro pins s σ H D I h
  refine wpAny_execs_cons (thn (h1 pins s σ H D I h) fun f s1 q=>?_)
  cases f with
  | next=>exact wpAny_execs_nil q
  | ret v=>exact q
  | brk=>exact q
  | cont=>exact q
theorem Inv.quiet {pins:List (Addr × Obj)} {σ:St} {H:Hp} {s:Shared} (I:Inv X pins σ H s):interactive X.env=false:=by simp [interactive,I.ok.kind]
noncomputable def qV (te:TE):TS:=fun D σ H=>te σ H fun _ H1=>D.nx σ H1
theorem qb (he:PE X e te) (hs:swapsWith e none pos.line X.env=pure false:=by rfl):PS X (.Expr e pos) (qV te):=by
  intro pins s σ H D I h
  exact wpAny_Expr_any (thn (he pins s σ H _ I h) fun v s1 ⟨x,H1,I1,r1,q1⟩=>⟨σ,H1,I1,q1⟩) I.quiet hs
noncomputable def tRet (te:TE):TS:=fun D σ H=>te σ H D.rt
theorem sM (he:PE X e te):PS X (.Return (some e) pos) (tRet te):=by
  intro pins s σ H D I h
  exact wpAny_Return_some (thn (he pins s σ H _ I h) fun v s1 ⟨x,H1,I1,r1,q1⟩=>⟨x,σ,H1,I1,r1,q1⟩)
noncomputable def tIfS (c:TT) (t u:TS):TS:=fun D σ H=>c σ H fun b H1=>if b=true then t D σ H1 else u D σ H1
theorem ps_if {c:Expr} {a b:List Stmt} {tc:TT} (hc:PT X c tc) (ha:PSs X a t) (hb:PSs X b u):PS X (.If c a b pos) (tIfS tc t u):=by
  intro pins s σ H D I h
  refine wpAny_If (thn (hc pins s σ H _ I h) fun d s1 ⟨H1,I1,q1⟩=>?_)
  cases d with
  | true=>exact ha pins s1 σ H1 D I1 q1
  | false=>exact hb pins s1 σ H1 D I1 q1
noncomputable def rZ:TS:=fun _ _ _=>False
theorem n5:PS X st rZ:=fun _ _ _ _ _ _ h=>h.elim
end
noncomputable abbrev TG:=V->St->Hp->(St->Hp->Prop)->Prop
noncomputable abbrev TGs:=List V->St->Hp->(St->Hp->Prop)->Prop
noncomputable def PG (X:Cx) (target:Expr) (t:TG):Prop :=
  ∀ (pins:List (Addr × Obj)) (s:Shared) (σ:St) (H:Hp) (v:V) (u:Value) (Q:St->Hp->Prop),Inv X pins σ H s->RelV v u->t v σ H Q ->
    wpAny (model X.prog X.w) X.A (assign target X.env u) (fun _ s'=>∃ σ' H',Inv X pins σ' H' s'/\Q σ' H') X.xe s
noncomputable def PGs (X:Cx) (ts:List Expr) (t:TGs):Prop :=
  ∀ (pins:List (Addr × Obj)) (s:Shared) (σ:St) (H:Hp) (vs:List V) (us:List Value) (Q:St->Hp->Prop),Inv X pins σ H s->Vals vs us->t vs σ H Q ->
    wpAny (model X.prog X.w) X.A (assignInOrder ((assignEach ts X.env).map (·.2)) us) (fun _ s'=>∃ σ' H',Inv X pins σ' H' s'/\Q σ' H') X.xe s
noncomputable abbrev nq:=V->V->V->Hp->(Hp->Prop)->Prop
noncomputable def pC (X:Cx) (t:nq):Prop :=
  ∀ (pins:List (Addr × Obj)) (s:Shared) (σ:St) (H:Hp) (o i v:V) (ov iv u:Value) (Q:Hp->Prop),Inv X pins σ H s->RelV o ov->RelV i iv->RelV v u->t o i v H Q ->
    wpAny (model X.prog X.w) X.A (setItem ov iv u) (fun _ s'=>∃ H',Inv X pins σ H' s'/\Q H') X.xe s
section
variable {X:Cx} {pos:Pos}
noncomputable def lX (i:Nat):TG:=fun v σ H Q=>Q (σ.set i (some v)) H
theorem bC {i:Nat} {x:Str} (hN:X.N.Nodup) (hi:X.N[i]?=some x) (hx:Loc X.env.scope x) (hf:X.fn x=true\/X.env.scope.names.lookup x=some .local:=by first | exact .inl rfl | exact .inr rfl | assumption):PG X (.Name x pos) (lX i):=by
  intro pins s σ H v u Q I r h
  exact wpAny_assign_Name (eF I hN hi hx r (fun s' I'=>⟨_,H,I',h⟩) hf)
noncomputable def gNil:TGs:=fun vs σ H Q=>vs=[]/\Q σ H
noncomputable def rC (t:TG) (u:TGs):TGs:=fun vs σ H Q=>∃ v r,vs=v :: r/\t v σ H fun σ' H'=>u r σ' H' Q
theorem qd:PGs X [] gNil:=by
  intro pins s σ H vs us Q I r h
  obtain ⟨e,h⟩:=h
  subst e
  cases r
  exact assignInOrder_nil ⟨σ,H,I,h⟩
theorem oe {e:Expr} {es:List Expr} {t:TG} {u:TGs} (h1:PG X e t) (h2:PGs X es u)
    (hs:(assignEach (e :: es) X.env).map (·.2)=assign e X.env :: (assignEach es X.env).map (·.2):=by rfl):PGs X (e :: es) (rC t u):=by
  intro pins s σ H vs us Q I r h
  obtain ⟨v,vr,e1,h⟩:=h
  subst e1
  cases r with
  | cons r rr =>
    rw [hs]
    refine assignInOrder_cons (thn (h1 pins s σ H _ _ _ I r h) fun _ s1 ⟨σ1,H1,I1,q1⟩=>?_)
    exact h2 pins s1 σ1 H1 _ _ Q I1 rr q1
noncomputable def gTup (K:FG) (n:Nat) (t:TGs):TG:=fun v σ H Q=>∃ a xs,v=.ref a/\SqT K H a xs/\xs.length=n/\t xs σ H Q
theorem sR {es:List Expr} {k:Nat} {t:TGs} {n:Nat} (hc:X.calm=true) (h:PGs X es t)
    (hn:(assignEach es X.env).length=n:=by rfl) (hst:(assignEach es X.env).findIdx? (·.1)=none:=by rfl):PG X (.Tuple es k pos) (gTup X.K n t):=by
  intro pins s σ H v u Q I r hw
  obtain ⟨a,xs,e1,hq,hl,hw⟩:=hw
  subst e1
  cases r
  obtain ⟨its,rv,ht,hz⟩:=I.tuple hq
  refine assign_Tuple_tuple (I.ok.hd hc) ht (by simp [hn,<- hl,rv.length]) hst fun h' hx=>?_
  have I1:Inv X pins σ H { s with heap:=h' }:=I.kept (t':=s.toks) fun b o e=>hx b o (uA (uk e)) e
  exact h pins _ σ H xs _ Q I1 (by simpa using rv) hw
noncomputable def gSub (to ti:TE) (t:nq):TG:=fun v σ H Q=>to σ H fun o H1=>ti σ H1 fun i H2=>t o i v H2 fun H3=>Q σ H3
theorem sS {o i:Expr} {to ti:TE} {t:nq} (ho:PE X o to) (hi:PE X i ti) (hs:pC X t)
    (ha:∀ v,assign (.Subscript o i pos) X.env v=(do
      let ov <- holding [v] (eval o X.env)
      let iv <- holding [v,ov] (eval i X.env)
      standAt pos
      holding [v,ov,iv] (setItem ov iv v)
      release [v,ov,iv] []):=by intro _;rfl):PG X (.Subscript o i pos) (gSub to ti t):=by
  intro pins s σ H v u Q I r h
  rw [ha]
  refine t7 (t9 (thn (ho pins s σ H _ I h) fun ov s1 ⟨x,H1,I1,r1,q1⟩=>?_))
  refine t7 (t9 (thn (hi pins s1 σ H1 _ I1 q1) fun iv s2 ⟨y,H2,I2,r2,q2⟩=>?_))
  refine t7 (wpAny_standAt (t7 (t9 (thn (hs pins s2 σ H2 x y v ov iv u _ I2 r1 r2 r q2) fun _ s3 ⟨H3,I3,q3⟩=>?_))))
  exact wpAny_release ⟨σ,H3,I3,q3⟩
noncomputable def nC (te:TE) (g:TG):TS:=fun D σ H=>te σ H fun x H1=>g x σ H1 D.nx
theorem n6 {tg e:Expr} {te:TE} {g:TG} (he:PE X e te) (hg:PG X tg g) (hs:swapsWithSole [tg] e pos.line X.env=pure false:=by rfl) (hw:swappedStores [tg] e X.env=pure none:=by rfl)
    (h1:(assignEach [tg] X.env).map (·.2)=[assign tg X.env]:=by rfl):PS X (.Assign [tg] e pos) (nC te g):=by
  intro pins s σ H D I h
  refine wpAny_Assign_stores (thn (he pins s σ H _ I h) fun v s1 ⟨x,H1,I1,r1,q1⟩=>?_) hs hw
  rw [h1]
  exact thn (hg pins s1 σ H1 x v _ I1 r1 q1) fun _ s2 q=>q
theorem sL {i:Nat} {x:Str} {e:Expr} {te:TE} {pos':Pos} (hN:X.N.Nodup) (hi:X.N[i]?=some x) (hx:Loc X.env.scope x) (he:PE X e te) (hs:swapsWith e (some (.Name x pos')) pos.line X.env=pure false:=by rfl) (hf:X.fn x=true\/X.env.scope.names.lookup x=some .local:=by first | exact .inl rfl | exact .inr rfl | assumption) :
    PS X (.Assign [.Name x pos'] e pos) (nC te (lX i)):=by
  intro pins s σ H D I h
  refine wpAny_Assign_Name (thn (he pins s σ H _ I h) fun v s1 ⟨y,H1,I1,r1,q1⟩=>?_) hs
  exact eF I1 hN hi hx r1 (fun s2 I2=>⟨_,H1,I2,q1⟩) hf
noncomputable def tPar (i j:Nat) (ta:TA):TS:=fun D σ H=>ta σ H fun vs H1=>∃ v w,vs=[v,w]/\D.nx ((σ.set i (some v)).set j (some w)) H1
set_option tactic.hygienic true in
theorem sN {i j:Nat} {x y:Str} {a b:Expr} {ta:TA} {px py pt:Pos} {kt k2 pt2} (hc:X.calm=true) (hN:X.N.Nodup) (hi:X.N[i]?=some x) (hj:X.N[j]?=some y) (hij:i ≠ j)
    (hx:X.env.scope.names.lookup x=some .local) (hy:X.env.scope.names.lookup y=some .local) (ha:PA X [a,b] ta)
    (hw:swappedStores [.Tuple [.Name x px,.Name y py] kt pt] (.Tuple [a,b] k2 pt2) X.env=pure (some [x,y]))
    (hs:swapsWithSole [.Tuple [.Name x px,.Name y py] kt pt] (.Tuple [a,b] k2 pt2) pos.line X.env=pure false:=by rfl) :
    PS X (.Assign [.Tuple [.Name x px,.Name y py] kt pt] (.Tuple [a,b] k2 pt2) pos) (tPar i j ta):=by
  intro pins s σ H D I h
  rw [exec_Assign_arm]
  refine t7 (wpAny_standAt ?_)
  rw [hs]
  refine t7 (t8 ?_)
  rw [if_neg (by decide)]
  refine t7 (Tuple_ (thn (ha _ pins s σ H _ I h) fun us s1 ⟨vs,H1,I1,r1,q1⟩=>?_))
  obtain ⟨v,w,e1,q1⟩:=q1
  subst e1
  obtain ⟨u1,u2,rfl,rv,rw'⟩:∃ u1 u2,us=[u1,u2]/\RelV v u1/\RelV w u2:=by
    cases r1 with
    | cons p q =>
      cases q with
      | cons p' q' =>
        cases q'
        exact ⟨_,_,rfl,p,p'⟩
  refine wpAny_newObj_type ?_ (by show 2<=sizeLine;decide)
  have I2:Inv X pins σ H1 { s1 with heap:=s1.heap.push { cls:=.type "tuple",data:=.seq [u1,u2].toArray } }:=I1.kept (t':=s1.toks) fun b o e=>uc _ e
  rw [hw]
  refine t7 (t8 ?_)
  show wpAny (model X.prog X.w) X.A (do rule "assign.swapped-stores";let items <- unpackItems (.ref s1.heap.objs.size) 2 none;assignInOrder [fun v=>bindName X.env y v,fun v=>bindName X.env x v] items.reverse;pure Flow.next) _ _ _
  refine t7 (wpAny_rule (t7 (unpackItems_tuple (items:=#[u1,u2]) (I.ok.hd hc) (IsTup.new s1.heap _) fun h' hx'=>?_)))
  have I3:=I2.kept (h':=h') (t':=s1.toks) fun b o e=>hx' b o (uA (uk e)) e
  show wpAny _ _ (assignInOrder [fun v=>bindName X.env y v,fun v=>bindName X.env x v] [u2,u1] >>= fun _=>pure Flow.next) _ _ _
  refine t7 (assignInOrder_cons (wpAny_bindName (eF I3 hN hj (.inl hy) rw' (fun s2 I4=>?_) (.inr hy))))
  refine assignInOrder_cons (wpAny_bindName (eF I4 hN hi (.inl hx) rv (fun s3 I5=>assignInOrder_nil (t8 ?_)) (.inr hx)))
  rw [List.set_comm _ _ (Ne.symm hij)] at I5
  exact ⟨_,H1,I5,q1⟩
end
structure It where
  go:Nat->Hp->Prop
  yld:Nat->Hp->V->Hp->Prop
  stop:Nat->Hp->Prop
noncomputable def FpOk (X:Cx) (pins:List (Addr × Obj)) (H:Hp) (b:Addr):Prop :=
  H b=none/\b ≠ X.env.locals/\b ∉ X.fs/\(b ∈ X.ex\/X.s₀.heap.objs.size<=b)/\(∀ x c,X.env.cells.lookup x=some c->c ≠ b)/\∀ p ∈ X.pn ++ pins,p.1 ≠ b
theorem Inv.fpOk {X:Cx} {pins:List (Addr × Obj)} {σ:St} {H H':Hp} {s:Shared} {b:Addr} (I:Inv X pins σ H s) (hb:s.heap.objs.size<=b) (hn:H' b=none):FpOk X pins H' b:=by
  refine ⟨hn,Nat.ne_of_gt (uF I.lt hb),I.nofs hb,.inr (uT I.sz hb),fun x c e z=>?_,fun p hp z=>?_⟩
  · obtain ⟨v,q⟩:=I.cell x c e
    exact absurd (uF q.lt (by rw [z];exact hb)) (Nat.lt_irrefl _)
  · exact absurd (uF (uk (I.pin p hp).1) (by rw [z];exact hb)) (Nat.lt_irrefl _)
structure Turn (P:Program) (w:World) (K:FG) (tg:Expr) (J:It) (fp:List Addr) (it:Addr) (tn:Nat->Heap->Prop):Prop where
  mem:it ∈ fp
  obj:∀ i h,tn i h->∀ b ∈ fp,∃ o,h.get? b=some o/\∀ v,o.data ≠ .cell v
  keep:∀ i h h',tn i h->(∀ b ∈ fp,∀ o,h.get? b=some o->h'.get? b=some o)->tn i h'
  item:∀ (X:Cx),X.prog=P->X.w=w->X.K=K->X.calm=true->∀ (i:Nat) (pins:List (Addr × Obj)) (s:Shared) (σ:St) (H:Hp) (E:Value->Shared->Prop),Inv X pins σ H s->(∀ b ∈ fp,FpOk X pins H b)->tn i s.heap->J.go i H ->
    wpAny (model P w) X.A (pyNext (.ref it)) (fun r s1=>∃ u,r=some u /\
      wpAny (model P w) X.A (letOwnedTupleGo tg (.ref it) u) (fun _ s2=>∃ x H',Inv X pins σ H' s2/\RelV x u/\J.yld i H x H'/\tn (i+1) s2.heap/\∀ b ∈ fp,H' b=none) E s1) E s
  done:∀ (X:Cx),X.prog=P->X.w=w->X.K=K->X.calm=true->∀ (i:Nat) (pins:List (Addr × Obj)) (s:Shared) (σ:St) (H:Hp) (E:Value->Shared->Prop),Inv X pins σ H s->(∀ b ∈ fp,FpOk X pins H b)->tn i s.heap->J.stop i H ->
    wpAny (model P w) X.A (pyNext (.ref it)) (fun r s1=>r=none/\Inv X pins σ H s1) E s
  self:∀ (A:Around) (i:Nat) (s:Shared) (Q:Value->Shared->Prop) (E:Value->Shared->Prop),tn i s.heap->Q (.ref it) s->wpAny (model P w) A (pyIter (.ref it)) Q E s
noncomputable abbrev TI:=St->Hp->(It->Hp->Prop)->Prop
noncomputable def PIE (X:Cx) (pins:List (Addr × Obj)) (σ:St) (tg:Expr) (R:It->Hp->Prop) (itv:Value) (s2:Shared):Prop :=
  ∃ (it:Addr) (fp:List Addr) (tn:Nat->Heap->Prop) (J:It) (H':Hp),itv=.ref it/\Inv X pins σ H' s2/\Turn X.prog X.w X.K tg J fp it tn/\tn 0 s2.heap/\(∀ b ∈ fp,FpOk X pins H' b)/\R J H'
noncomputable def PI (X:Cx) (tg iter:Expr) (wi:TI):Prop :=
  ∀ (pins:List (Addr × Obj)) (s:Shared) (σ:St) (H:Hp) (R:It->Hp->Prop),Inv X pins σ H s->wi σ H R ->
    wpAny (model X.prog X.w) X.A (eval iter X.env) (fun v s1=>wpAny (model X.prog X.w) X.A (pyIter v) (PIE X pins σ tg R) X.xe s1) X.xe s
theorem kC {M : Model} {A : Around} {E : Value -> Shared -> Prop} {s : Shared} {tg : Expr} {it : Addr} {u : Value} {o : Obj} {n : String} {vs : Array Value} {Q : Unit -> Shared -> Prop} (ho : s.heap.get? it = some o) (hc : o.cls = .type n) (hd : o.data = .fields vs)
    (hn : ["enumerate", "zip", "dict_itemiterator", "dict_reverseitemiterator", "odict_iterator", "itertools.zip_longest", "itertools.pairwise"].contains n = false) (hQ : Q () s) : wpAny M A (letOwnedTupleGo tg (.ref it) u) Q E s := by
  unfold letOwnedTupleGo
  cases tg <;> first
    | exact t8 hQ
    | (cases u <;> first
        | exact t8 hQ
        | (refine t7 (wpAny_load ho ?_)
           rw [hc, hd]
           show wpAny M A (if (["enumerate", "zip", "dict_itemiterator", "dict_reverseitemiterator", "odict_iterator", "itertools.zip_longest", "itertools.pairwise"].contains n && vs[0]? == some (rawInt _)) = true then _ else _) Q E s
           rw [if_neg (by intro h; rw [hn, Bool.false_and] at h; cases h)]
           exact t8 hQ))
noncomputable def Itl (K:FG) (a:Addr):It :=
  ⟨fun i H=>∃ xs x,SqL K H a xs/\xs[i]?=some x,fun i H x H'=>H'=H/\∀ xs,SqL K H a xs->xs[i]?=some x,fun i H=>∃ xs,SqL K H a xs/\xs.length<=i⟩
noncomputable def Itt (K:FG) (a:Addr):It :=
  ⟨fun i H=>∃ xs x,SqT K H a xs/\xs[i]?=some x,fun i H x H'=>H'=H/\∀ xs,SqT K H a xs->xs[i]?=some x,fun i H=>∃ xs,SqT K H a xs/\xs.length<=i⟩
noncomputable def Itr (lo:Int) (n:Nat):It:=⟨fun i _=>i < n,fun i H x H'=>H'=H/\x=.int (lo+i),fun i _=>n<=i⟩
theorem mj {P:Program} {w:World} {K:FG} {tg:Expr} (a it:Addr):Turn P w K tg (Itl K a) [it] it (fun i h=>h.IsListIter it a i) where
  mem:=by simp
  obj:=fun i h st b hb=>by
    have e:b=it:=by simpa using hb
    subst e
    obtain ⟨o,e,c,d⟩:=st
    exact ⟨o,e,fun v z=>by rw [d] at z;cases z⟩
  keep:=fun i h h' st k=>st.at fun o e=>k it (by simp) o e
  item:=by
    intro X hP hw hK hc i pins s σ H E I hf st hg
    subst hP hw hK
    obtain ⟨xs,x,hq,hx⟩:=hg
    obtain ⟨its,rv,p,hz⟩:=I.list hq
    obtain ⟨u,hu,ru⟩:=rv.get hx
    obtain ⟨f0,f1,f2,f3,f4,f5⟩:=hf it (by simp)
    refine wpAny_pyNext_list_item st p.isList (x:=u) (by simpa using hu) fun h' st' sb=>?_
    have I1:Inv X pins σ H { s with heap:=h' }:=I.turned (t':=s.toks) (fun b o hb e=>(sb.2 b hb).trans e) f0 f1 f3 f4 f5
    obtain ⟨o,e,c,d⟩:=id st'
    exact ⟨u,rfl,kC (s:={ s with heap:=h' }) e c d (by decide) ⟨x,H,I1,ru,⟨rfl,fun ys hy=>by rw [I.list_inj hy hq];exact hx⟩,st',fun b hb=>(hf b hb).1⟩⟩
  done:=by
    intro X hP hw hK hc i pins s σ H E I hf st hg
    subst hP hw hK
    obtain ⟨xs,hq,hx⟩:=hg
    obtain ⟨its,rv,p,hz⟩:=I.list hq
    obtain ⟨f0,f1,f2,f3,f4,f5⟩:=hf it (by simp)
    have hl:=rv.length
    exact wpAny_pyNext_list_end (I.ok.hd hc) st p.isList (by simp;omega) fun h' eb=>⟨rfl,I.turned (t':=s.toks) (fun b o hb e=>eb b o hb e) f0 f1 f3 f4 f5⟩
  self:=fun _ _ _ _ _ st h=>wpAny_pyIter_listiter st h
theorem kZ {P:Program} {w:World} {K:FG} {tg:Expr} (a it:Addr):Turn P w K tg (Itt K a) [it] it (fun i h=>h.IsTupleIter it a i) where
  mem:=by simp
  obj:=fun i h st b hb=>by
    have e:b=it:=by simpa using hb
    subst e
    obtain ⟨o,e,c,d⟩:=st
    exact ⟨o,e,fun v z=>by rw [d] at z;cases z⟩
  keep:=fun i h h' st k=>st.at fun o e=>k it (by simp) o e
  item:=by
    intro X hP hw hK hc i pins s σ H E I hf st hg
    subst hP hw hK
    obtain ⟨xs,x,hq,hx⟩:=hg
    obtain ⟨its,rv,p,hz⟩:=I.tuple hq
    obtain ⟨u,hu,ru⟩:=rv.get hx
    obtain ⟨f0,f1,f2,f3,f4,f5⟩:=hf it (by simp)
    refine wpAny_pyNext_tuple_item st (show s.heap.IsTuple a its.toArray from p) (x:=u) (by simpa using hu) fun h' st' sb=>?_
    have I1:Inv X pins σ H { s with heap:=h' }:=I.turned (t':=s.toks) (fun b o hb e=>(sb.2 b hb).trans e) f0 f1 f3 f4 f5
    obtain ⟨o,e,c,d⟩:=id st'
    exact ⟨u,rfl,kC (s:={ s with heap:=h' }) e c d (by decide) ⟨x,H,I1,ru,⟨rfl,fun ys hy=>by rw [I.tuple_inj hy hq];exact hx⟩,st',fun b hb=>(hf b hb).1⟩⟩
  done:=by
    intro X hP hw hK hc i pins s σ H E I hf st hg
    subst hP hw hK
    obtain ⟨xs,hq,hx⟩:=hg
    obtain ⟨its,rv,p,hz⟩:=I.tuple hq
    obtain ⟨f0,f1,f2,f3,f4,f5⟩:=hf it (by simp)
    have hl:=rv.length
    exact wpAny_pyNext_tuple_end (I.ok.hd hc) st (show s.heap.IsTuple a its.toArray from p) (by simp;omega) fun h' eb=>⟨rfl,I.turned (t':=s.toks) (fun b o hb e=>eb b o hb e) f0 f1 f3 f4 f5⟩
  self:=fun _ _ _ _ _ st h=>wpAny_pyIter_tupleiter st h
theorem k0 {P:Program} {w:World} {K:FG} {tg:Expr} (it:Addr) (lo:Int) (n:Nat):Turn P w K tg (Itr lo n) [it] it (fun i h=>IsRangeIter h it (lo+(i:Nat) * 1) ((n:Int) - (i:Nat)) 1) where
  mem:=by simp
  obj:=fun i h st b hb=>by
    have e:b=it:=by simpa using hb
    subst e
    exact ⟨_,st,fun v z=>by
      have z':Data.fields _=Data.cell v:=z
      cases z'⟩
  keep:=fun i h h' st k=>k it (by simp) _ st
  item:=by
    intro X hP hw hK hc i pins s σ H E I hf st hg
    subst hP hw hK
    obtain ⟨f0,f1,f2,f3,f4,f5⟩:=hf it (by simp)
    have W:=Walks.range (prog:=X.prog) (w:=X.w) (I.ok.hd hc) it lo 1 n
    refine W.item i s _ _ hg st fun v h' tk hv st' kk=>?_
    obtain ⟨t,rfl⟩:=hv
    have I1:Inv X pins σ H { s with heap:=h',toks:=tk }:=I.turned (fun b o hb e=>kk b o (by simpa using hb) e) f0 f1 f3 f4 f5
    refine ⟨_,rfl,kC (s:={ s with heap:=h',toks:=tk }) (n:="range_iterator") st' rfl rfl (by decide) ⟨.int (lo+i),H,I1,⟨t,?_⟩,⟨rfl,rfl⟩,st',fun b hb=>(hf b hb).1⟩⟩
    rw [Int.mul_one]
  done:=by
    intro X hP hw hK hc i pins s σ H E I hf st hg
    subst hP hw hK
    obtain ⟨f0,f1,f2,f3,f4,f5⟩:=hf it (by simp)
    exact wpAny_pyNext_range_end (I.ok.hd hc) st (by have:n<=i:=hg;omega) fun h' eb=>⟨rfl,I.turned (t':=s.toks) (fun b o hb e=>eb b o hb e) f0 f1 f3 f4 f5⟩
  self:=fun _ _ _ _ _ st h=>wpAny_pyIter_rangeiter st h
end L2
namespace L2
open PySem PySem.Spec PyProof.Rows
section
variable {X:Cx} {tg:Expr}
theorem jX {pins:List (Addr × Obj)} {σ:St} {H:Hp} {s:Shared} {R:It->Hp->Prop} {E:Value->Shared->Prop} {lo hi:Int} {t u v:Tok} {tk:Nat} (I:Inv X pins σ H s) (h1:-(2 ^ 62)<=lo) (h2:lo < 2 ^ 62) (h3:-(2 ^ 62)<=hi) (h4:hi < 2 ^ 62)
    (q:R (Itr lo (hi - lo).toNat) H):wpAny (model X.prog X.w) X.A (pyIter (.ref s.heap.objs.size)) (PIE X pins σ tg R) E { s with heap:=s.heap.push { cls:=.type "range",data:=.fields #[.int lo t,.int hi u,.int 1 v] },toks:=tk }:=by
  refine wpAny_pyIter_range (IsRange.new ..) (small_one h1 h2 h3 h4) ?_
  have I1:Inv X pins σ H { s with heap:=s.heap.push { cls:=.type "range",data:=.fields #[.int lo t,.int hi u,.int 1 v] },toks:=tk }:=I.kept fun b o e=>uc _ e
  refine ⟨(s.heap.push { cls:=.type "range",data:=.fields #[.int lo t,.int hi u,.int 1 v] }).objs.size,[(s.heap.push { cls:=.type "range",data:=.fields #[.int lo t,.int hi u,.int 1 v] }).objs.size],_,_,H,rfl,
    I1.kept (t':=tk) fun b o e=>uc _ e,k0 _ lo (hi - lo).toNat,?_,fun b hb=>?_,q⟩
  · have e1:lo+((0:Nat):Int) * 1=lo:=by simp
    have e2:(((hi - lo).toNat:Nat):Int) - ((0:Nat):Int)=Builtin.Range.rangeSize lo hi 1:=by rw [rangeSize_one];split <;> omega
    show IsRangeIter _ _ (lo+((0:Nat):Int) * 1) ((((hi - lo).toNat:Nat):Int) - ((0:Nat):Int)) 1
    rw [e1,e2]
    exact um _ rfl
  · have e:b=(s.heap.push { cls:=.type "range",data:=.fields #[.int lo t,.int hi u,.int 1 v] }).objs.size:=by simpa using hb
    subst e
    exact I1.fpOk (uy _) (I1.hok.fresh (uy _))
noncomputable def rA (ta:TA):TI:=fun σ H R=>ta σ H fun vs H1=>∃ j:Int,vs=[.int j]/\-(2 ^ 62)<=j/\j < 2 ^ 62/\R (Itr 0 j.toNat) H1
noncomputable def rz (ta:TA):TI:=fun σ H R=>ta σ H fun vs H1=>∃ i j:Int,vs=[.int i,.int j]/\(-(2 ^ 62)<=i/\i < 2 ^ 62/\-(2 ^ 62)<=j/\j < 2 ^ 62)/\R (Itr i (j - i).toNat) H1
theorem mB {a:Expr} {ta:TA} {p pos:Pos} (hg:Gl X "range") (hm:X.mg "range"=none) (ha:PA X [a] ta) (hs:starEach [a] X.env=[(false,eval a X.env)]:=by rfl):PI X tg (.Call (.Name "range" p) [a] [] pos) (rA ta):=by
  intro pins s σ H R I h
  refine Call_ (el I hg hm boot_range (PyProof.Rows.callWith_type1 (thn (ha pos pins s σ H _ I h) fun us s1 ⟨vs,H1,I1,r1,q1⟩=>?_) hs rfl))
  obtain ⟨j,e,q1,q2,q⟩:=q1
  subst e
  cases r1 with
  | cons r rr =>
    cases rr
    obtain ⟨t,rfl⟩:=r
    exact call_range_1 (jX I1 (by omega) (by omega) q1 q2 (by simpa using q))
theorem mz {a b:Expr} {ta:TA} {p pos:Pos} (hg:Gl X "range") (hm:X.mg "range"=none) (ha:PA X [a,b] ta) (hs:starEach [a,b] X.env=[(false,eval a X.env),(false,eval b X.env)]:=by rfl) (hs2:starEach [b] X.env=[(false,eval b X.env)]:=by rfl) :
    PI X tg (.Call (.Name "range" p) [a,b] [] pos) (rz ta):=by
  intro pins s σ H R I h
  refine Call_ (el I hg hm boot_range (PyProof.Rows.callWith_type1 (thn (ha pos pins s σ H _ I h) fun us s1 ⟨vs,H1,I1,r1,q1⟩=>?_) (by rw [hs,hs2]) (by rw [hs2];rfl)))
  obtain ⟨i,j,e,⟨q1,q2,q3,q4⟩,q⟩:=q1
  subst e
  cases r1 with
  | cons r rr =>
    cases rr with
    | cons r' rr =>
      cases rr
      obtain ⟨t,rfl⟩:=r
      obtain ⟨t',rfl⟩:=r'
      exact call_range_2 (jX I1 q1 q2 q3 q4 q)
noncomputable def tFor (wi:TI) (g:TG) (tb:TS):TS:=fun D σ H=>wi σ H fun J H1=>∃ W:Nat->Nat->St->Hp->Prop,(∃ m,W 0 m σ H1)/\∀ i m σ H,W i m σ H ->
  (J.stop i H/\D.nx σ H)\/(J.go i H/\∃ N:St->Hp->Prop,(∀ σ' H',N σ' H'->∃ m',m' < m/\W (i+1) m' σ' H')/\∀ x H',J.yld i H x H'->g x σ H' fun σ2 H2=>tb { D with nx:=N,ct:=N,bk:=D.nx } σ2 H2)
noncomputable def gz (fp:List Addr) (h:Heap):List (Addr × Obj):=fp.filterMap fun b=>(h.get? b).map fun o=>(b,o)
theorem c3 {fp:List Addr} {h:Heap} {b:Addr} {o:Obj} (hb:b ∈ fp) (e:h.get? b=some o):(b,o) ∈ gz fp h:=List.mem_filterMap.mpr ⟨b,hb,by rw [e];rfl⟩
theorem mE {fp:List Addr} {h:Heap} {p:Addr × Obj} (hp:p ∈ gz fp h):p.1 ∈ fp/\h.get? p.1=some p.2:=by
  obtain ⟨b,hb,e⟩:=List.mem_filterMap.mp hp
  cases q:h.get? b with
  | none=>rw [q] at e;cases e
  | some o =>
    rw [q] at e
    have e':(b,o)=p:=uV e
    subst e'
    exact ⟨hb,q⟩
theorem Inv.pinned {pins:List (Addr × Obj)} {σ:St} {H:Hp} {s:Shared} {fp:List Addr} (I:Inv X pins σ H s) (hf:∀ b ∈ fp,FpOk X pins H b) (ho:∀ b ∈ fp,∃ o,s.heap.get? b=some o/\∀ v,o.data ≠ .cell v):Inv X (pins ++ gz fp s.heap) σ H s :=
  I.pins_of fun p hp=>(ul.mp hp).elim (fun z=>I.pin p (uh _ z)) fun z=>by
    obtain ⟨hb,e⟩:=mE z
    obtain ⟨f0,f1,f2,_⟩:=hf p.1 hb
    obtain ⟨o,e',d⟩:=ho p.1 hb
    rw [e] at e';cases e'
    exact ⟨e,f0,f1,f2,d⟩
theorem Inv.unpinned {pins pl:List (Addr × Obj)} {σ:St} {H:Hp} {s:Shared} (I:Inv X (pins ++ pl) σ H s):Inv X pins σ H s:=I.pins_of fun p hp=>I.pin p (uh _ (ug _ hp))
set_option tactic.hygienic true in
theorem sO {iter:Expr} {body:List Stmt} {wi:TI} {g:TG} {tb:TS} {pos:Pos} (hp:PassesOwn (model X.prog X.w) X.A X.env X.xe) (hc:X.calm=true) (hi:PI X tg iter wi) (hg:PG X tg g) (hb:PSs X body tb)
    (hs:∀ x,foldedSetIterable iter X.env x=pure x:=by intro _;rfl):PS X (.For tg iter body [] pos) (tFor wi g tb):=by
  intro pins s σ H D I h
  refine wpAny_For (thn (hi pins s σ H _ I h) fun v s1 h1=>thn h1 fun itv s2 h2=>?_) hs
  obtain ⟨it,fp,tn,J,H2,e,I2,T,st2,f2,W,⟨m0,w0⟩,turn⟩:=h2
  subst e
  have stat:∀ {H':Hp},(∀ b ∈ fp,H' b=none)->∀ b ∈ fp,FpOk X pins H' b:=fun hn b hb=>⟨hn b hb,(f2 b hb).2⟩
  refine codeAny_forLoop_any (fun n s'=>∃ i σ' H',Inv X pins σ' H' s'/\tn i s'.heap/\(∀ b ∈ fp,H' b=none)/\W i n σ' H') ?_ m0 ⟨0,σ,H2,I2,st2,fun b hb=>(f2 b hb).1,w0⟩
  rintro n s3 ⟨i,σ3,H3,I3,st3,fr3,w3⟩
  rcases turn i n σ3 H3 w3 with ⟨stop,qn⟩ | ⟨go,N,hN,step⟩
  · refine wpAny_passesOwn hp (thn (T.done X rfl rfl rfl hc i pins s3 σ3 H3 X.xe I3 (stat fr3) st3 stop) fun r s4 ⟨hr,I4⟩=>?_)
    subst hr
    exact wpAny_execs_nil ⟨σ3,H3,I4,qn⟩
  · refine wpAny_passesOwn hp (thn (T.item X rfl rfl rfl hc i pins s3 σ3 H3 X.xe I3 (stat fr3) st3 go) fun r s4 ⟨u,hr,h4⟩=>?_)
    subst hr
    refine wpAny_passesOwn hp (thn h4 fun _ s5 ⟨x,H5,I5,r5,y5,st5,fr5⟩=>?_)
    have I5':=I5.pinned (stat fr5) (T.obj _ _ st5)
    refine wpAny_passesOwn hp (thn (hg _ s5 σ3 H5 x u _ I5' r5 (step x H5 y5)) fun _ s6 ⟨σ6,H6,I6,q6⟩=>?_)
    refine wpAny_passesOwn hp (thn (hb _ s6 σ6 H6 _ I6 q6) fun f s7 q7=>?_)
    have again:∀ {σ7:St} {H7:Hp},Inv X (pins ++ gz fp s5.heap) σ7 H7 s7->N σ7 H7->∃ m,m < n/\∃ i σ' H',Inv X pins σ' H' s7/\tn i s7.heap/\(∀ b ∈ fp,H' b=none)/\W i m σ' H':=fun {σ7 H7} I7 n7=>by
      obtain ⟨m',hm,w7⟩:=hN σ7 H7 n7
      refine ⟨m',hm,i+1,σ7,H7,I7.unpinned,T.keep _ _ _ st5 fun b hb o e=>(I7.pin (b,o) (uh _ (uh _ (c3 hb e)))).1,fun b hb=>?_,w7⟩
      obtain ⟨o,e,d⟩:=T.obj _ _ st5 b hb
      exact (I7.pin (b,o) (uh _ (uh _ (c3 hb e)))).2.1
    cases f with
    | next=>obtain ⟨σ7,H7,I7,n7⟩:=q7;exact again I7 n7
    | cont=>obtain ⟨σ7,H7,I7,n7⟩:=q7;exact again I7 n7
    | brk=>obtain ⟨σ7,H7,I7,q7⟩:=q7;exact ⟨σ7,H7,I7.unpinned,q7⟩
    | ret v=>obtain ⟨x7,σ7,H7,I7,r7,q7⟩:=q7;exact ⟨x7,σ7,H7,I7.unpinned,r7,q7⟩
end
end L2
namespace L2
open PySem PySem.Spec PyProof.Rows
noncomputable abbrev R2:=V->V->Hp->VK->Prop
noncomputable def OpR (X:Cx) (f:Value->Value->Sem Value) (r:R2):Prop :=
  ∀ (pins:List (Addr × Obj)) (s:Shared) (σ:St) (H:Hp) (x y:V) (v u:Value) (Q:VK),Inv X pins σ H s->RelV x v->RelV y u->r x y H Q ->
    wpAny (model X.prog X.w) X.A (f v u) (EP X pins σ Q) X.xe s
noncomputable def UnR (X:Cx) (f:Value->Sem Value) (r:V->Hp->VK->Prop):Prop :=
  ∀ (pins:List (Addr × Obj)) (s:Shared) (σ:St) (H:Hp) (x:V) (v:Value) (Q:VK),Inv X pins σ H s->RelV x v->r x H Q ->
    wpAny (model X.prog X.w) X.A (f v) (EP X pins σ Q) X.xe s
noncomputable def CallR (X:Cx) (f:Value) (r:List V->Hp->VK->Prop):Prop :=
  ∀ (pins:List (Addr × Obj)) (s:Shared) (σ:St) (H:Hp) (xs:List V) (us:List Value) (Q:VK),Inv X pins σ H s->Vals xs us->r xs H Q ->
    wpAny (model X.prog X.w) X.A (call f us) (EP X pins σ Q) X.xe s
noncomputable def tOp (r:R2) (ta tb:TE):TE:=fun σ H Q=>ta σ H fun x H1=>tb σ H1 fun y H2=>r x y H2 Q
noncomputable def tUn (r:V->Hp->VK->Prop) (ta:TE):TE:=fun σ H Q=>ta σ H fun x H1=>r x H1 Q
noncomputable def rI (C:Int->Int->Prop) (g:Int->Int->V):R2:=fun x y H Q=>∃ i j,x=.int i/\y=.int j/\C i j/\Q (g i j) H
noncomputable def rI0 (g:Int->Int->V):R2:=fun x y H Q=>∃ i j,x=.int i/\y=.int j/\Q (g i j) H
noncomputable def rU (g:Int->V):V->Hp->VK->Prop:=fun x H Q=>∃ i,x=.int i/\Q (g i) H
section
variable {X:Cx} {a b c:Expr} {ta tb tc:TE} {pos:Pos}
theorem t3 (ha:PE X a ta) (hb:PE X b tb) {pins:List (Addr × Obj)} {s:Shared} {σ:St} {H:Hp} {R:V->V->Hp->Prop} (I:Inv X pins σ H s)
    (h:ta σ H fun x H1=>tb σ H1 fun y H2=>R x y H2) {Q:Value->Shared->Prop} {f:Value->Value->Sem Value}
    (hf:∀ v u s2 x y H2,Inv X pins σ H2 s2->RelV x v->RelV y u->R x y H2->wpAny (model X.prog X.w) X.A (f v u) Q X.xe s2) :
    wpAny (model X.prog X.w) X.A (eval a X.env) (fun v s₁=>wpAny (model X.prog X.w) X.A (eval b X.env) (fun u s₂=>wpAny (model X.prog X.w) X.A (f v u) Q X.xe s₂) X.xe s₁) X.xe s:=by
  refine thn (ha pins s σ H _ I h) fun v s1 ⟨x,H1,I1,r1,q1⟩=>?_
  refine thn (hb pins s1 σ H1 _ I1 q1) fun u s2 ⟨y,H2,I2,r2,q2⟩=>?_
  exact hf v u s2 x y H2 I2 r1 r2 q2
theorem pe_op {op:Operator} {r:R2} (ho:OpR X (binaryOp op) r) (ha:PE X a ta) (hb:PE X b tb):PE X (.BinOp a op b pos) (tOp r ta tb):=by
  intro pins s σ H Q I h
  exact wpAny_BinOp (t3 ha hb I h fun v u s2 x y H2 I2 rx ry q=>ho pins s2 σ H2 x y v u Q I2 rx ry q)
theorem pe_un {op:UnaryOp} {r:V->Hp->VK->Prop} (ho:UnR X (unaryOp op) r) (ha:PE X a ta):PE X (.UnaryOp op a pos) (tUn r ta):=by
  intro pins s σ H Q I h
  exact UnaryOp_ (thn (ha pins s σ H _ I h) fun v s1 ⟨x,H1,I1,r1,q1⟩=>ho pins s1 σ H1 x v Q I1 r1 q1)
theorem opI {f:Value->Value->Sem Value} {C:Int->Int->Prop} {g:Int->Int->Int}
    (rule:∀ (i j:Int) (t u:Tok) (s:Shared) (Q:Value->Shared->Prop) (E:Value->Shared->Prop),C i j->Q (.int (g i j) s.toks) { s with toks:=s.toks+1 }->wpAny (model X.prog X.w) X.A (f (.int i t) (.int j u)) Q E s) :
    OpR X f (rI C fun i j=>.int (g i j)):=by
  intro pins s σ H x y v u Q I rx ry h
  obtain ⟨i,j,rfl,rfl,hc,q⟩:=h
  obtain ⟨t,rfl⟩:=rx
  obtain ⟨t',rfl⟩:=ry
  exact rule i j t t' s _ _ hc ⟨.int (g i j),H,I.tok _,⟨_,rfl⟩,q⟩
theorem opI0 {f:Value->Value->Sem Value} {g:Int->Int->Int}
    (rule:∀ (i j:Int) (t u:Tok) (s:Shared) (Q:Value->Shared->Prop) (E:Value->Shared->Prop),Q (.int (g i j) s.toks) { s with toks:=s.toks+1 }->wpAny (model X.prog X.w) X.A (f (.int i t) (.int j u)) Q E s) :
    OpR X f (rI0 fun i j=>.int (g i j)):=by
  intro pins s σ H x y v u Q I rx ry h
  obtain ⟨i,j,rfl,rfl,q⟩:=h
  obtain ⟨t,rfl⟩:=rx
  obtain ⟨t',rfl⟩:=ry
  exact rule i j t t' s _ _ ⟨.int (g i j),H,I.tok _,⟨_,rfl⟩,q⟩
theorem qi {f:Value->Value->Sem Value} {g:Int->Int->Bool}
    (rule:∀ (i j:Int) (t u:Tok) (s:Shared) (Q:Value->Shared->Prop) (E:Value->Shared->Prop),Q (.bool (g i j)) s->wpAny (model X.prog X.w) X.A (f (.int i t) (.int j u)) Q E s) :
    OpR X f (rI0 fun i j=>.bl (g i j)):=by
  intro pins s σ H x y v u Q I rx ry h
  obtain ⟨i,j,rfl,rfl,q⟩:=h
  obtain ⟨t,rfl⟩:=rx
  obtain ⟨t',rfl⟩:=ry
  exact rule i j t t' s _ _ ⟨.bl (g i j),H,I,rfl,q⟩
noncomputable def pF (i j:Int):Prop:=0 < j/\j < 1073741824
noncomputable def pD (i j:Int):Prop:=0<=j/\j<=1000000/\i.natAbs < 2 ^ 64
noncomputable def CMul (i j:Int):Prop:=(-(2 ^ 64) < i/\i < 2 ^ 64)\/(-(2 ^ 64) < j/\j < 2 ^ 64)
theorem CMul.ok {i j:Int} (h:CMul i j):IntMulOk i j:=by
  rcases h with ⟨h1,h2⟩ | ⟨h1,h2⟩
  · exact .of_left (intBits_le_64 h1 h2)
  · exact .of_right (intBits_le_64 h1 h2)
theorem op_add:OpR X (binaryOp .Add) (rI0 fun i j=>.int (i+j)):=opI0 fun _ _ _ _ _ _ _ q=>add_int q
theorem aO:OpR X (binaryOp .Sub) (rI0 fun i j=>.int (i - j)):=opI0 fun _ _ _ _ _ _ _ q=>sub_int q
theorem cr:OpR X (binaryOp .Mult) (rI CMul fun i j=>.int (i * j)):=opI fun _ _ _ _ _ _ _ hc q=>mul_int q hc.ok
theorem fe:OpR X (binaryOp .Mod) (rI (fun _ j=>0 < j) fun i j=>.int (i % j)):=opI fun i j _ _ _ _ _ hc q=>by
  have h1:(0:Int) < j:=hc
  exact mod_int' (by omega) (by rw [Int.fmod_eq_emod_of_nonneg i (by omega)];exact q)
theorem tf:OpR X (binaryOp .LShift) (rI pD fun i j=>.int (i * 2 ^ j.toNat)):=opI fun _ _ _ _ _ _ _ hc q=>lshift_int_small hc.1 hc.2.1 hc.2.2 q
theorem unI {f:Value->Sem Value} {g:Int->Int}
    (rule:∀ (i:Int) (t:Tok) (s:Shared) (Q:Value->Shared->Prop) (E:Value->Shared->Prop),Q (.int (g i) s.toks) { s with toks:=s.toks+1 }->wpAny (model X.prog X.w) X.A (f (.int i t)) Q E s) :
    UnR X f (rU fun i=>.int (g i)):=by
  intro pins s σ H x v Q I rx h
  obtain ⟨i,rfl,q⟩:=h
  obtain ⟨t,rfl⟩:=rx
  exact rule i t s _ _ ⟨.int (g i),H,I.tok _,⟨_,rfl⟩,q⟩
theorem kX:UnR X (unaryOp .USub) (rU fun i=>.int (-i)):=unI fun _ _ _ _ _ q=>neg_int q
end
noncomputable def sy:V->V->Bool
  | .non,.non=>true | .non,.int _=>true | .int _,.non=>true | .non,.bl _=>true | .bl _,.non=>true | .non,.str _=>true | .str _,.non=>true
  | .int _,.int _=>true | .bl _,.bl _=>true | .str _,.str _=>true | .byt _,.byt _=>true
  | .int _,.str _=>true | .str _,.int _=>true | .bl _,.str _=>true | .str _,.bl _=>true
  | _,_=>false
noncomputable def rEq:R2:=fun x y H Q=>sy x y=true/\Q (.bl (decide (x=y))) H
noncomputable def rNe:R2:=fun x y H Q=>sy x y=true/\Q (.bl (!decide (x=y))) H
theorem l4 {i j:Int}:decide (V.int i=V.int j)=(i == j):=by
  rw [Bool.eq_iff_iff]
  simp
theorem o6 {i j:Bool}:decide (V.bl i=V.bl j)=(i == j):=by
  rw [Bool.eq_iff_iff]
  simp
theorem l2 {i j:Str}:decide (V.str i=V.str j)=(i == j):=by
  rw [Bool.eq_iff_iff]
  simp
theorem l5 {i j:Array UInt8}:decide (V.byt i=V.byt j)=(i.toList == j.toList):=by
  rw [Bool.eq_iff_iff]
  cases i
  cases j
  simp
section
variable {X:Cx} {a b c:Expr} {ta tb tc:TE} {pos:Pos}
theorem aH {pins:List (Addr × Obj)} {σ:St} {H:Hp} {s:Shared} {Q:VK} {k k':Bool} (I:Inv X pins σ H s) (q:Q (.bl k) H) (e:k=k'):EP X pins σ Q (.bool k') s:=by
  subst e
  exact ⟨.bl k,H,I,rfl,q⟩
theorem op_eq:OpR X (compareOp .Eq) rEq:=by
  intro pins s σ H x y v u Q I rx ry h
  obtain ⟨hs,q⟩:=h
  cases x with
  | non =>
    cases rx
    cases y with
    | non=>cases ry;exact PySem.EqNone.eq_none_none (aH I q (by simp))
    | bl j=>cases ry;exact PySem.EqNone.eq_none_bool (aH I q (by simp))
    | int j=>obtain ⟨t',rfl⟩:=ry;exact PySem.EqNone.eq_none_int (aH I q (by simp))
    | str j=>obtain ⟨t',rfl⟩:=ry;exact PySem.EqNone.eq_none_str (aH I q (by simp))
    | _=>exact absurd (show false=true from hs) uz
  | bl i =>
    cases rx
    cases y with
    | non=>cases ry;exact PySem.EqNone.eq_bool_none (aH I q (by simp))
    | bl j=>cases ry;exact eq_bool (aH I q o6)
    | str j=>obtain ⟨t',rfl⟩:=ry;exact PySem.EqMixed.eq_bool_str (aH I q (by simp))
    | _=>exact absurd (show false=true from hs) uz
  | int i =>
    obtain ⟨t,rfl⟩:=rx
    cases y with
    | non=>cases ry;exact PySem.EqNone.eq_int_none (aH I q (by simp))
    | int j=>obtain ⟨t',rfl⟩:=ry;exact eq_int (aH I q l4)
    | str j=>obtain ⟨t',rfl⟩:=ry;exact PySem.EqMixed.eq_int_str (aH I q (by simp))
    | _=>exact absurd (show false=true from hs) uz
  | str i =>
    obtain ⟨t,rfl⟩:=rx
    cases y with
    | non=>cases ry;exact PySem.EqNone.eq_str_none (aH I q (by simp))
    | bl j=>cases ry;exact PySem.EqMixed.eq_str_bool (aH I q (by simp))
    | int j=>obtain ⟨t',rfl⟩:=ry;exact PySem.EqMixed.eq_str_int (aH I q (by simp))
    | str j=>obtain ⟨t',rfl⟩:=ry;exact eq_str (aH I q l2)
    | _=>exact absurd (show false=true from hs) uz
  | byt i =>
    obtain ⟨t,rfl⟩:=rx
    cases y with
    | byt j=>obtain ⟨t',rfl⟩:=ry;exact PySem.W.eq_bytes (aH I q l5)
    | _=>exact absurd (show false=true from hs) uz
  | _=>cases y <;> exact absurd (show false=true from hs) uz
theorem op_ne:OpR X (compareOp .NotEq) rNe:=by
  intro pins s σ H x y v u Q I rx ry h
  obtain ⟨hs,q⟩:=h
  cases x with
  | non =>
    cases rx
    cases y with
    | non=>cases ry;exact PySem.EqNone.ne_none_none (aH I q (by simp))
    | bl j=>cases ry;exact PySem.EqNone.ne_none_bool (aH I q (by simp))
    | int j=>obtain ⟨t',rfl⟩:=ry;exact PySem.EqNone.ne_none_int (aH I q (by simp))
    | str j=>obtain ⟨t',rfl⟩:=ry;exact PySem.EqNone.ne_none_str (aH I q (by simp))
    | _=>exact absurd (show false=true from hs) uz
  | bl i =>
    cases rx
    cases y with
    | non=>cases ry;exact PySem.EqNone.ne_bool_none (aH I q (by simp))
    | bl j=>cases ry;exact ne_bool (aH I q (congrArg not o6))
    | str j=>obtain ⟨t',rfl⟩:=ry;exact PySem.EqMixed.ne_bool_str (aH I q (by simp))
    | _=>exact absurd (show false=true from hs) uz
  | int i =>
    obtain ⟨t,rfl⟩:=rx
    cases y with
    | non=>cases ry;exact PySem.EqNone.ne_int_none (aH I q (by simp))
    | int j=>obtain ⟨t',rfl⟩:=ry;exact ne_int (aH I q (congrArg not l4))
    | str j=>obtain ⟨t',rfl⟩:=ry;exact PySem.EqMixed.ne_int_str (aH I q (by simp))
    | _=>exact absurd (show false=true from hs) uz
  | str i =>
    obtain ⟨t,rfl⟩:=rx
    cases y with
    | non=>cases ry;exact PySem.EqNone.ne_str_none (aH I q (by simp))
    | bl j=>cases ry;exact PySem.EqMixed.ne_str_bool (aH I q (by simp))
    | int j=>obtain ⟨t',rfl⟩:=ry;exact PySem.EqMixed.ne_str_int (aH I q (by simp))
    | str j=>obtain ⟨t',rfl⟩:=ry;exact ne_str (aH I q (congrArg not l2))
    | _=>exact absurd (show false=true from hs) uz
  | byt i =>
    obtain ⟨t,rfl⟩:=rx
    cases y with
    | byt j=>obtain ⟨t',rfl⟩:=ry;exact PySem.W.ne_bytes (aH I q (congrArg not l5))
    | _=>exact absurd (show false=true from hs) uz
  | _=>cases y <;> exact absurd (show false=true from hs) uz
theorem q9:OpR X (compareOp .Lt) (rI0 fun i j=>.bl (decide (i < j))):=qi fun _ _ _ _ _ _ _ q=>lt_int q
theorem fw:OpR X (compareOp .LtE) (rI0 fun i j=>.bl (decide (i<=j))):=qi fun _ _ _ _ _ _ _ q=>le_int q
theorem lL:OpR X (compareOp .Gt) (rI0 fun i j=>.bl (decide (j < i))):=qi fun _ _ _ _ _ _ _ q=>gt_int q
theorem re:OpR X (compareOp .GtE) (rI0 fun i j=>.bl (decide (j<=i))):=qi fun _ _ _ _ _ _ _ q=>ge_int q
theorem tj : OpR X (compareOp .Is) (fun x y H Q => y = .non /\ Q (.bl (decide (x = .non))) H) := by
  intro pins s σ H x y v u Q I rx ry h
  obtain ⟨rfl, q⟩ := h
  cases ry
  refine is_none_gen (aH I q ?_)
  cases x <;> first
    | (cases rx; rfl)
    | (obtain ⟨t, rfl⟩ := rx; rfl)
theorem OpR.or {f:Value->Value->Sem Value} {r r':R2} (h:OpR X f r) (h':OpR X f r'):OpR X f (fun x y H Q=>r x y H Q\/r' x y H Q):=by
  intro pins s σ H x y v u Q I rx ry q
  rcases q with q | q
  · exact h pins s σ H x y v u Q I rx ry q
  · exact h' pins s σ H x y v u Q I rx ry q
theorem aZ (b : Expr) {op : CmpOp} (h : op ≠ .In := by decide) (h2 : op ≠ .NotIn := by decide) : behindInMarks op b = false := by
  have e1 : (op == CmpOp.In) = false := by cases op <;> first | rfl | exact absurd rfl h
  have e2 : (op == CmpOp.NotIn) = false := by cases op <;> first | rfl | exact absurd rfl h2
  cases b <;> simp [behindInMarks, e1, e2]
theorem qg {op:CmpOp} {r:R2} (ho:OpR X (compareOp op) r) (ha:PE X a ta) (hb:PE X b tb) (hm:behindInMarks op b=false):PE X (.Compare a [op] [b] pos) (tOp r ta tb):=by
  intro pins s σ H Q I h
  exact wpAny_Compare1 (t3 ha hb I h fun v u s2 x y H2 I2 rx ry q=>ho pins s2 σ H2 x y v u Q I2 rx ry q) hm
noncomputable def qR (t:TE):TT:=fun σ H Q=>t σ H fun x H'=>∃ k,x=.bl k/\Q k H'
theorem p8 {op:CmpOp} {r:R2} (ho:OpR X (compareOp op) r) (ha:PE X a ta) (hb:PE X b tb) (hm:behindInMarks op b=false):PT X (.Compare a [op] [b] pos) (qR (tOp r ta tb)):=by
  intro pins s σ H Q I h
  refine wpAny_isTrue_Compare1 (thn (ha pins s σ H _ I h) fun v s1 ⟨x,H1,I1,r1,q1⟩=>thn (hb pins s1 σ H1 _ I1 q1) fun u s2 ⟨y,H2,I2,r2,q2⟩ =>
    thn (ho pins s2 σ H2 x y v u _ I2 r1 r2 q2) fun c s3 ⟨z,H3,I3,r3,k,e,q3⟩=>?_) hm
  subst e
  cases r3
  exact uS ⟨H3,I3,q3⟩
noncomputable def iQ (r r':R2) (ta tb tc:TE):TE:=fun σ H Q=>ta σ H fun x H1=>tb σ H1 fun y H2=>r x y H2 fun z H3=>∃ k,z=.bl k /\
  (if k=true then tc σ H3 fun w' H4=>r' y w' H4 Q else Q (.bl false) H3)
theorem oi {op op':CmpOp} {r r':R2} (ho:OpR X (compareOp op) r) (ho':OpR X (compareOp op') r') (ha:PE X a ta) (hb:PE X b tb) (hc:PE X c tc)
    (hm:lastMarks [op,op'] [b,c]=false:=by with_unfolding_all rfl):PE X (.Compare a [op,op'] [b,c] pos) (iQ r r' ta tb tc):=by
  intro pins s σ H Q I h
  refine Compare_chain (thn (ha pins s σ H _ I h) fun v s1 ⟨x,H1,I1,r1,q1⟩=>chain_link (thn (hb pins s1 σ H1 _ I1 q1) fun u s2 ⟨y,H2,I2,r2,q2⟩ =>
    thn (ho pins s2 σ H2 x y v u _ I2 r1 r2 q2) fun d s3 ⟨z,H3,I3,r3,k,e,q3⟩=>?_)) hm
  subst e
  cases r3
  refine uS ?_
  cases k with
  | false=>exact ite_ff ⟨.bl false,H3,I3,rfl,q3⟩
  | true=>exact ite_tt (chain_last (thn (hc pins s3 σ H3 _ I3 q3) fun w' s4 ⟨z',H4,I4,r4,q4⟩=>ho' pins s4 σ H4 y z' u w' Q I4 r2 r4 q4))
theorem n3 {op op':CmpOp} {r r':R2} (ho:OpR X (compareOp op) r) (ho':OpR X (compareOp op') r') (ha:PE X a ta) (hb:PE X b tb) (hc:PE X c tc)
    (hm:lastMarks [op,op'] [b,c]=false:=by with_unfolding_all rfl):PT X (.Compare a [op,op'] [b,c] pos) (qR (iQ r r' ta tb tc)):=by
  intro pins s σ H Q I h
  refine isTrue_chain (thn (ha pins s σ H _ I h) fun v s1 ⟨x,H1,I1,r1,q1⟩=>test_link (thn (hb pins s1 σ H1 _ I1 q1) fun u s2 ⟨y,H2,I2,r2,q2⟩ =>
    thn (ho pins s2 σ H2 x y v u _ I2 r1 r2 q2) fun d s3 ⟨z,H3,I3,r3,k,e,q3⟩=>?_)) hm
  subst e
  cases r3
  refine uS ?_
  cases k with
  | false =>
    obtain ⟨k',e',q'⟩:=q3
    cases e'
    exact ite_ff ⟨H3,I3,q'⟩
  | true =>
    refine ite_tt (test_last (thn (hc pins s3 σ H3 _ I3 q3) fun w' s4 ⟨z',H4,I4,r4,q4⟩=>thn (ho' pins s4 σ H4 y z' u w' _ I4 r2 r4 q4) fun d' s5 ⟨z2,H5,I5,r5,k2,e2,q5⟩=>?_))
    subst e2
    cases r5
    exact uS ⟨H5,I5,q5⟩
theorem jj:(sizeLine:Nat) < 2 ^ 63:=by rw [sizeLine_eq];decide
theorem op_add_str:OpR X (binaryOp .Add) (fun x y H Q=>∃ i j,x=.str i/\y=.str j/\i.length+j.length<=sizeLine/\Q (.str (i ++ j)) H):=by
  intro pins s σ H x y v u Q I rx ry h
  obtain ⟨i,j,rfl,rfl,hz,q⟩:=h
  obtain ⟨t,rfl⟩:=rx
  obtain ⟨t',rfl⟩:=ry
  exact add_str (fun t' tk=>⟨.str (i ++ j),H,I.tok _,⟨_,rfl⟩,q⟩) hz
theorem eC {x:V} {us:List Value} (r:Vals [x] us):∃ u,us=[u]/\RelV x u:=by
  cases r with
  | cons r1 r2=>cases r2;exact ⟨_,rfl,r1⟩
theorem jG {x y:V} {us:List Value} (r:Vals [x,y] us):∃ u w',us=[u,w']/\RelV x u/\RelV y w':=by
  cases r with
  | cons r1 r2 =>
    cases r2 with
    | cons r3 r4=>cases r4;exact ⟨_,_,rfl,r1,r3⟩
theorem pk:CallR X (.builtin "abs") (fun xs H Q=>∃ i,xs=[.int i]/\Q (.int (if i < 0 then -i else i)) H):=by
  intro pins s σ H xs us Q I r h
  obtain ⟨i,rfl,q⟩:=h
  obtain ⟨u,rfl,t,rfl⟩:=eC r
  exact call_abs_int fun u tk=>⟨.int (if i < 0 then -i else i),H,I.tok _,⟨_,rfl⟩,q⟩
theorem iK (hc:X.calm=true):CallR X (.builtin "max") (fun xs H Q=>∃ i j,xs=[.int i,.int j]/\Q (.int (if j > i then j else i)) H):=by
  intro pins s σ H xs us Q I r h
  obtain ⟨i,j,rfl,q⟩:=h
  obtain ⟨u,w',rfl,⟨t,rfl⟩,⟨t',rfl⟩⟩:=jG r
  refine max_two_ints (I.ok.hd hc) fun h' tk k=>⟨_,H,I.kept k,?_,q⟩
  by_cases hj:j > i
  · rw [if_pos hj,if_pos hj];exact ⟨_,rfl⟩
  · rw [if_neg hj,if_neg hj];exact ⟨_,rfl⟩
theorem kM:CallR X (.builtin "divmod") (fun xs H Q=>∃ i j,xs=[.int i,.int j]/\pF i j/\∀ p,H p=none->Q (.ref p) (upd H p (.tup [.int (i / j),.int (i % j)]))):=by
  intro pins s σ H xs us Q I r h
  obtain ⟨i,j,rfl,⟨h1,h2⟩,q⟩:=h
  obtain ⟨u,w',rfl,⟨t,rfl⟩,⟨t',rfl⟩⟩:=jG r
  refine divmod_int (by omega) ?_ (.inl (PyProof.noPylong_small (by omega)))
  rw [Int.fdiv_eq_ediv_of_nonneg i (by omega),Int.fmod_eq_emod_of_nonneg i (by omega)]
  have hn:H s.heap.objs.size=none:=I.hok.fresh (uy _)
  refine ⟨.ref s.heap.objs.size,_,?_,rfl,q _ hn⟩
  refine I.laid (fun b o e=>uc _ e) (uy _) ⟨by simp only [uI,List.length_nil];rw [sizeLine_eq];decide,[.int (i / j) s.toks,.int (i % j) (s.toks+1)],.cons ⟨_,rfl⟩ (.cons ⟨_,rfl⟩ .nil),?_⟩
  exact ⟨_,um s.heap rfl,rfl,0,rfl⟩
end
end L2
namespace L2
open PySem PySem.Spec PyProof.Rows
theorem RelO.some_of {v:V} {o:Option Value} (r:RelO (some v) o):∃ u,o=some u/\RelV v u:=by
  cases o with
  | none=>exact (show False from r).elim
  | some u=>exact ⟨u,rfl,r⟩
end L2
namespace L2
open PySem PySem.Spec PyProof.Rows
structure Room (k:Nat) (A:Around):Prop where
  hd:A.handled=none
  dp:A.depth+3 * k+5 < recursionLimit
  un:A.units+16 * k+200 < cLine
  gd:A.guards=some []
theorem Room.mono {j k:Nat} {A:Around} (r:Room k A) (h:j<=k):Room j A:=⟨r.hd,by have:=r.dp;omega,by have:=r.un;omega,r.gd⟩
theorem Room.deeper {k:Nat} {A:Around} (r:Room (k+1) A) (env:Env):Room k (A.deeper env) :=
  ⟨r.hd,by have:=r.dp;show A.depth+1+3 * k+5 < _;omega,by have:=r.un;show A.units+3+16 * k+200 < _;omega,r.gd⟩
theorem Room.depth {k:Nat} {A:Around} (r:Room k A):A.depth < recursionLimit:=by have:=r.dp;omega
theorem Room.units {k:Nat} {A:Around} (r:Room k A):A.units+64 < cLine:=by have:=r.un;omega
noncomputable def rY:TA:=fun _ H Q=>Q [] H
noncomputable def nB (ta:TE) (tr:TA):TA:=fun σ H Q=>ta σ H fun x H1=>tr σ H1 fun xs H2=>Q (x :: xs) H2
section
variable {X:Cx} {e:Expr} {es:List Expr} {te:TE} {t:TA} {pos:Pos}
theorem oj:PA X [] rY:=fun _ _ _ _ H Q I h=>Calls.spliced_nil ⟨[],H,I,.nil,h⟩
theorem i8 (ha:PE X e te) (hr:PA X es t) (hs:starEach (e :: es) X.env=(false,eval e X.env) :: starEach es X.env:=by rfl):PA X (e :: es) (nB te t):=by
  intro pos pins s σ H Q I h
  rw [hs]
  show wpAny _ _ (spliced ((false,eval e X.env) :: backTo pos (starEach es X.env))) _ _ s
  refine Calls.spliced_cons (thn (ha pins s σ H _ I h) fun u s1 ⟨x,H1,I1,r1,q1⟩=>?_)
  exact thn (hr pos pins s1 σ H1 _ I1 q1) fun us s2 ⟨xs,H2,I2,r2,q2⟩=>⟨x :: xs,H2,I2,.cons r1 r2,q2⟩
noncomputable def tTup (t:TA):TE:=fun σ H Q=>t σ H fun xs H1=>xs.length<=sizeLine/\∀ p,H1 p=none->Q (.ref p) (upd H1 p (.tup xs))
noncomputable def tLst (t:TA):TE:=fun σ H Q=>t σ H fun xs H1=>xs.length<=sizeLine/\∀ p,H1 p=none->Q (.ref p) (upd H1 p (.lst xs))
theorem sT {x1} (h:PA X es t):PE X (.Tuple es x1 pos) (tTup t):=by
  intro pins s σ H Q I hq
  refine wpAny_Tuple_spliced (thn (h pos pins s σ H _ I hq) fun us s1 ⟨xs,H1,I1,r,z,q⟩=>⟨by rw [<- r.length];exact z,?_⟩)
  have hf:H1 s1.heap.objs.size=none:=I1.hok.fresh (uy _)
  refine ⟨.ref s1.heap.objs.size,upd H1 s1.heap.objs.size (.tup xs),I1.laid (t':=s1.toks) (fun b u e=>uc _ e) (uy _) ?_,rfl,q _ hf⟩
  exact ⟨z,us,r,⟨_,um _ rfl,rfl,_,rfl⟩⟩
theorem sX (h:PA X es t):PE X (.List es pos) (tLst t):=by
  intro pins s σ H Q I hq
  refine wpAny_List_spliced (thn (h pos pins s σ H _ I hq) fun us s1 ⟨xs,H1,I1,r,z,q⟩=>⟨by rw [<- r.length];exact z,?_⟩)
  have hf:H1 s1.heap.objs.size=none:=I1.hok.fresh (uy _)
  refine ⟨.ref s1.heap.objs.size,upd H1 s1.heap.objs.size (.lst xs),I1.laid (t':=s1.toks) (fun b u e=>uc _ e) (uy _) ?_,rfl,q _ hf⟩
  exact ⟨z,us,0,r,um _ rfl⟩
end
noncomputable abbrev Sp:=List V->Hp->VK->XK->Prop
noncomputable abbrev CXT:=List Env->Hp->Shared->XK->Value->Shared->Prop
structure Env0 (P:Program) (w:World) (K:FG) (mg:Str->Option Value) (base:Heap) (A:Around) (outer:List Env) (s:Shared) (H:Hp):Prop where
  frames:A.frames=some outer
  mod:Mod K mg base
  bs:∀ b o,base.get? b=some o->s.heap.get? b=some o/\H b=none
  bsz:base.objs.size<=s.heap.objs.size
  funs:s.heap.FunFrames base outer
  frf:∀ b ∈ frs outer,H b=none
  hok:HOk P w H s.heap
  bare:AllBare s.gens
noncomputable def CE (outer:List Env) (P:Program) (w:World) (H:Hp) (s:Shared) (Q:VK) (u:Value) (s':Shared):Prop :=
  ∃ v H',s'.os=s.os/\AllBare s'.gens/\Un (frs outer) [] H H' s.heap s'.heap/\HOk P w H' s'.heap/\RelV v u/\Q v H'
noncomputable def CR (CX:CXT) (outer:List Env) (P:Program) (w:World) (H:Hp) (s:Shared) (Q:VK) (E:XK) (r:Result) (s':Shared):Prop :=
  match r with
  | .ok (.ret u)=>CE outer P w H s Q u s'
  | .ok _=>False
  | .error e=>CX outer H s E e s'
structure FnOk (P:Program) (w:World) (K:FG) (mg:Str->Option Value) (base:Heap) (CX:CXT) (k:Nat) (f:Addr) (fd:FuncData) (ps:List Str) (sp:Sp):Prop where
  len:∀ vs H Q E,sp vs H Q E->vs.length=ps.length
  run:∀ (A:Around) (outer:List Env) (s:Shared) (H:Hp) (args:Args) (us:List Value) (vs:List V) (Q:VK) (E:XK),Room k A->Env0 P w K mg base A outer s H->BindsTo s fd args (ps.zip us)->Vals vs us->sp vs H Q E ->
    codeAny (model P w) A (.call (.ref f) args) (CR CX outer P w H s Q E) s
theorem FnOk.imp {P:Program} {w:World} {K:FG} {mg:Str->Option Value} {base:Heap} {CX:CXT} {k:Nat} {f:Addr} {fd:FuncData} {ps:List Str} {sp sp':Sp} (F:FnOk P w K mg base CX k f fd ps sp)
    (h:∀ vs H Q E,sp' vs H Q E->sp vs H Q E):FnOk P w K mg base CX k f fd ps sp' :=
  ⟨fun vs H Q E q=>F.len vs H Q E (h _ _ _ _ q),fun A outer s H args us vs Q E hr he hb hv hs=>F.run A outer s H args us vs Q E hr he hb hv (h _ _ _ _ hs)⟩
section
variable {X:Cx} {pins:List (Addr × Obj)} {σ:St} {H:Hp} {s s':Shared}
theorem Inv.env0 (I:Inv X pins σ H s):Env0 X.prog X.w X.K X.mg X.base X.A X.stack s H :=
  ⟨I.ok.frames,I.ok.mod,I.bs,uT I.ok.bsz I.sz,I.stack,I.stkFree,I.hok,I.bare⟩
theorem Inv.after {Q:VK} {u:Value} (I:Inv X pins σ H s) (h:CE X.stack X.prog X.w H s Q u s'):EP X pins σ Q u s':=by
  obtain ⟨v,H',os,bare,un,hok,r,q⟩:=h
  obtain ⟨hh,g,d,t,os'⟩:=s'
  obtain rfl:os'=s.os:=os
  exact ⟨v,H',I.call (h':=hh) (g':=g) (d':=d) (t':=t) (ch:=[]) un hok bare (fun b z=>absurd z (by simp)),r,q⟩
end
noncomputable def tCall (sp:Sp) (dvs:List V) (E:XK) (t:TA):TE:=fun σ H Q=>t σ H fun vs H1=>sp (vs ++ dvs) H1 Q E
noncomputable def Binds (K:FG) (fd:FuncData) (ps:List Str) (ds:List Value):Prop :=
  ∀ (s:Shared) (us:List Value),K.In s.heap->(us ++ ds).length=ps.length->BindsTo s fd ⟨us,[]⟩ (ps.zip (us ++ ds))
theorem Binds.all {K:FG} {fd:FuncData} {ps:List Str} (h:∀ us:List Value,us.length=ps.length->bindArgs fd ⟨us,[]⟩=pure (ps.zip us)):Binds K fd ps []:=fun s us _ hl=>by
  rw [List.append_nil] at hl ⊢
  exact .of_eq (h us hl)
noncomputable def ly (CX:CXT) (X:Cx) (E:XK):Prop:=∀ (pins:List (Addr × Obj)) (σ:St) (H:Hp) (s:Shared) (e:Value) (s':Shared),Inv X pins σ H s->CX X.stack H s E e s'->X.xe e s'
section
variable {X:Cx} {CX:CXT} {k:Nat} {f C:Addr} {fd:FuncData} {ps:List Str} {sp:Sp} {dvs:List V} {ds:List Value} {E:XK} {x m:Str} {p pos apos:Pos} {e o:Expr} {es:List Expr} {ta:TE} {t:TA}
set_option tactic.hygienic true in
theorem sB {pins:List (Addr × Obj)} {σ:St} {H:Hp} {s:Shared} {Q:VK} {us:List Value} {vs:List V} (F:FnOk X.prog X.w X.K X.mg X.base CX k f fd ps sp) (hr:Room k X.A) (hb:Binds X.K fd ps ds) (hd:Vals dvs ds) (hx:ly CX X E)
    (I:Inv X pins σ H s) (r:Vals vs us) (h:sp (vs ++ dvs) H Q E):wpAny (model X.prog X.w) X.A (call (.ref f) us) (EP X pins σ Q) X.xe s:=by
  have r2:Vals (vs ++ dvs) (us ++ ds):=r.append hd
  have hl:(us ++ ds).length=ps.length:=by rw [<- r2.length];exact F.len _ _ _ _ h
  refine wpAny_call (codeAny_mono (F.run X.A X.stack s H ⟨us,[]⟩ (us ++ ds) (vs ++ dvs) Q E hr I.env0 (hb s us I.kIn hl) r2 h) fun r s' hq=>?_)
  cases r with
  | error e=>exact hx pins σ H s e s' I hq
  | ok fl =>
    cases fl with
    | ret u=>exact I.after hq
    | next=>exact False.elim hq
    | brk=>exact False.elim hq
    | cont=>exact False.elim hq
theorem qh (F:FnOk X.prog X.w X.K X.mg X.base CX k f fd ps sp) (hr:Room k X.A) (hg:Gl X x) (hm:X.mg x=some (.ref f)) (hk:PySem.W.keepIn X.K (.ref f)=true) (hb:Binds X.K fd ps ds) (hd:Vals dvs ds) (hx:ly CX X E)
    (ha:PA X (e :: es) t) (hdb:(x == ("__debug__":Str))=false:=by decide) (he:starEach (e :: es) X.env=(false,eval e X.env) :: starEach es X.env:=by rfl) (hpl:(backTo pos (starEach es X.env)).any (·.1)=false:=by rfl) :
    PE X (.Call (.Name x p) (e :: es) [] pos) (tCall sp dvs E t):=by
  intro pins s σ H Q I h
  refine wpAny_Call_Name_kw (lQ I hg hm ?_ hdb)
  refine PySem.W.callWith_K (h₀:=X.base) I.ok.mod.kin hk (thn (ha pos pins s σ H _ I h) fun us s1 ⟨vs,H1,I1,r,q⟩=>⟨I1.kIn,?_⟩) he hpl
  exact sB F hr hb hd hx I1 r q
end
noncomputable def PK (X:Cx) (kws:List Keyword) (t:TA):Prop :=
  ∀ (pos:Pos) (pins:List (Addr × Obj)) (s:Shared) (σ:St) (H:Hp) (Q:List V->Hp->Prop),Inv X pins σ H s->t σ H Q->wpAny (model X.prog X.w) X.A (evalAll ((backToKw pos (keywordEach kws X.env)).map (·.2))) (AP X pins σ Q) X.xe s
section
variable {X:Cx} {CX:CXT} {k:Nat} {f C:Addr} {fd:FuncData} {ps ks:List Str} {sp:Sp} {E:XK} {x m:Str} {p pos apos kpos:Pos} {e o:Expr} {es:List Expr} {kws:List Keyword} {te ta:TE} {t tk:TA} {nm:Option Str}
theorem sP:PK X [] rY:=fun _ _ _ _ H Q I h=>wpAny_evalAll_nil ⟨[],H,I,.nil,h⟩
theorem qc (ha:PE X e te) (hr:PK X kws t):PK X (⟨nm,e,kpos⟩ :: kws) (nB te t):=by
  intro pos pins s σ H Q I h
  show wpAny _ _ (evalAll ((do let v <- eval e X.env;standAt pos;pure v) :: (backToKw pos (keywordEach kws X.env)).map (·.2))) _ _ s
  refine wpAny_evalAll_cons (t7 (thn (ha pins s σ H _ I h) fun u s1 ⟨x,H1,I1,r1,q1⟩=>t7 (wpAny_standAt (t8 ?_))))
  exact thn (hr pos pins s1 σ H1 _ I1 q1) fun us s2 ⟨xs,H2,I2,r2,q2⟩=>⟨x :: xs,H2,I2,.cons r1 r2,q2⟩
variable {g:List Value->List Value->List Value} {gV:List V->List V->List V}
end
structure FnScope (N P:List Str) (sc:Scope):Prop where
  kind:sc.kind=.function
  co:sc.isCoroutine=false
  gen:sc.isGenerator=false
  nd:N.Nodup
  pre:N.take P.length=P
  par:∀ x ∈ P,sc.names.lookup x=some .local\/sc.names.lookup x=some .cell
  nofree:∀ y ∈ sc.names,y.2 ≠ .free
theorem iL {kindOf:Str->Option NameKind} {x:Str}:∀ {binds:List (Str × Value)} {m:Str->Option Value},(∀ v,(x,v) ∉ binds)->bindL kindOf binds m x=m x
  | [],_,_=>rfl
  | (n,v) :: r,m,h=>by
    unfold bindL
    rw [iL fun w hw=>h w (ub _ hw)]
    split
    · have:x ≠ n:=by rintro rfl;exact h v ua
      simp [this]
    · rfl
theorem iN {kindOf:Str->Option NameKind} {x:Str}:∀ {binds:List (Str × Value)} {m:Str->Option Value},(∀ v,(x,v) ∉ binds)->bindC kindOf binds m x=m x
  | [],_,_=>rfl
  | (n,v) :: r,m,h=>by
    unfold bindC
    rw [iN fun w hw=>h w (ub _ hw)]
    split
    · rfl
    · have:x ≠ n:=by rintro rfl;exact h v ua
      simp [this]
theorem iM {kindOf:Str->Option NameKind} {x:Str} {v:Value}:∀ {P:List Str} {vs:List Value} {i:Nat} {m:Str->Option Value},P.Nodup->P[i]?=some x->vs[i]?=some v->kindOf x=some .local ->
    bindL kindOf (P.zip vs) m x=some v
  | [],_,_,_,_,h,_,_=>by simp at h
  | _ :: _,[],_,_,_,_,h,_=>by simp at h
  | p :: P,w :: vs,0,m,nd,h1,h2,hk=>by
    simp at h1 h2;subst h1;subst h2
    show bindL kindOf ((p,w) :: P.zip vs) m p=_
    unfold bindL
    rw [iL fun v hv=>(List.nodup_cons.mp nd).1 (List.of_mem_zip hv).1,if_pos hk]
    simp
  | p :: P,w :: vs,i+1,m,nd,h1,h2,hk=>by
    show bindL kindOf ((p,w) :: P.zip vs) m x=_
    unfold bindL
    exact iM (i:=i) (List.nodup_cons.mp nd).2 (by simpa using h1) (by simpa using h2) hk
theorem iO {kindOf:Str->Option NameKind} {x:Str} {v:Value}:∀ {P:List Str} {vs:List Value} {i:Nat} {m:Str->Option Value},P.Nodup->P[i]?=some x->vs[i]?=some v->kindOf x ≠ some .local ->
    bindC kindOf (P.zip vs) m x=some v
  | [],_,_,_,_,h,_,_=>by simp at h
  | _ :: _,[],_,_,_,_,h,_=>by simp at h
  | p :: P,w :: vs,0,m,nd,h1,h2,hk=>by
    simp at h1 h2;subst h1;subst h2
    show bindC kindOf ((p,w) :: P.zip vs) m p=_
    unfold bindC
    rw [iN fun v hv=>(List.nodup_cons.mp nd).1 (List.of_mem_zip hv).1,if_neg hk]
    simp
  | p :: P,w :: vs,i+1,m,nd,h1,h2,hk=>by
    show bindC kindOf ((p,w) :: P.zip vs) m x=_
    unfold bindC
    exact iO (i:=i) (List.nodup_cons.mp nd).2 (by simpa using h1) (by simpa using h2) hk
noncomputable def fv (N:List Str) (vs:List V):St:=vs.map some ++ List.replicate (N.length - vs.length) none
noncomputable def kJ (CX:CXT) (P:Program) (w:World) (K:FG) (mg:Str->Option Value) (base:Heap) (N:List Str) (qual:Str) (scope:Scope) (f:Addr) (cd:Value) (A:Around) (outer:List Env) (s:Shared) (H:Hp) (E:XK):Cx where
  prog:=P
  w:=w
  K:=K
  mg:=mg
  base:=base
  A:=A.deeper (envOfC qual scope s.heap.objs.size f cd)
  N:=N
  s₀:=s
  H₀:=H
  env:=envOfC qual scope s.heap.objs.size f cd
  outer:=outer
  stack:=envOfC qual scope s.heap.objs.size f cd :: outer
  ex:=[]
  calm:=true
  fn:=fun _=>true
  pn:=[]
  xe:=fun e s'=>wpAny (model P w) (A.deeper (envOfC qual scope s.heap.objs.size f cd)) (leaving (envOfC qual scope s.heap.objs.size f cd) e) (fun _ s''=>CX outer H s E e s'') (fun e' s''=>CX outer H s E e' s'') s'
theorem kK {sc:Scope} {n:Nat} {x:Str} (h:sc.names.lookup x=some .cell):∃ c,(cellsFrom n sc.names []).lookup x=some c:=by
  have q:=PySem.W.cellsFrom_some sc.names n [] (.inl h)
  exact Option.isSome_iff_exists.mp q
theorem mS {CX:CXT} {P:Program} {w:World} {K:FG} {mg:Str->Option Value} {base:Heap} {N ps:List Str} {qual:Str} {scope:Scope} {f:Addr} {cd:Value} {A:Around} {outer:List Env} {s s1:Shared} {H:Hp} {E:XK} {us:List Value} {vs:List V}
    (S:FnScope N ps scope) (hd:A.handled=none) (e0:Env0 P w K mg base A outer s H) (hl:vs.length=ps.length) (r:Vals vs us)
    (x:InCallC s s.heap.objs.size (bindL (envOfC qual scope s.heap.objs.size f cd).kindOf (ps.zip us) fun _=>none) (cellsFrom (s.heap.objs.size+1) scope.names []) (bindC (envOfC qual scope s.heap.objs.size f cd).kindOf (ps.zip us) fun _=>none) s1) :
    Inv (kJ CX P w K mg base N qual scope f cd A outer s H E) [] (fv N vs) H s1:=by
  have hpl:ps.length<=N.length:=by have:=congrArg List.length S.pre;rw [uJ] at this;omega
  obtain ⟨h1,tk,rfl,hk⟩:=x.done
  have noA:∀ b:Addr,b ∉ (kJ CX P w K mg base N qual scope f cd A outer s H E).ex:=fun b z=>absurd (show b ∈ ([]:List Addr) from z) (by simp)
  refine ⟨⟨e0.mod,S.kind,rfl,rfl,uy _,fun y z c h1 h2=>?_,fun y hy=>?_,fun y c _ h=>?_,fun _=>hd,Around.frames_deeper e0.frames,.inr ⟨rfl,rfl⟩,fun b z=>absurd z (noA b),e0.bs,e0.bsz,fun b _ _=>noA b,fun b z=>absurd z (noA b),e0.funs,e0.frf⟩,
    rfl,e0.bare,Un.kept hk,⟨_,x.toInCall.ns,fun i y v h1 h2 h3=>?_⟩,fun y c h=>⟨_,x.cell y c h⟩,e0.hok.fresh (uy _),fun y c h=>?_,fun p hp=>absurd (show p ∈ ([]:List (Addr × Obj)) from hp) (by simp),e0.hok.kept hk,?_⟩
  · exact name_of_addr x.apart (PySem.mem_of_lookup h1) (PySem.mem_of_lookup h2)
  · have hy:scope.names.lookup y=some .cell\/scope.names.lookup y=some .free:=hy
    rcases hy with hy | hy
    · exact kK hy
    · exact absurd rfl (S.nofree _ (PySem.mem_of_lookup hy))
  · exact Nat.le_of_lt (x.above y c (PySem.mem_of_lookup h))
  · have hi:i < vs.length:=by
      unfold fv at h2
      by_cases hi:i < vs.length
      · exact hi
      · rw [List.getElem?_append_right (by simpa using hi)] at h2
        rw [List.getElem?_replicate] at h2
        split at h2 <;> cases h2
    have ha:vs[i]?=some v:=by
      unfold fv at h2
      rw [uP (by simpa using hi),ux] at h2
      cases e:vs[i]? with
      | none=>rw [e] at h2;cases h2
      | some a=>rw [e] at h2;cases h2;rfl
    obtain ⟨u,hu,rv⟩:=r.get ha
    have hp:ps[i]?=some y:=by
      rw [<- S.pre,List.getElem?_take_of_lt (by omega)];exact h1
    have ndP:ps.Nodup:=by rw [<- S.pre];exact S.nd.sublist (List.take_sublist _ _)
    refine ⟨u,rv,?_⟩
    rcases S.par y (ut hp) with k | k
    · exact .inl ⟨k,iM ndP hp hu k⟩
    · obtain ⟨c,e⟩:=kK (n:=s.heap.objs.size+1) k
      refine .inr ⟨.inl k,c,e,?_⟩
      have q:=x.cell y c e
      rw [iO ndP hp hu (by show scope.names.lookup y ≠ _;rw [k];decide)] at q
      exact q
  · exact e0.hok.fresh (Nat.le_of_lt (x.above y c (PySem.mem_of_lookup h)))
  · unfold fv
    show _=N.length
    rw [uH,uo,List.length_replicate]
    omega
set_option tactic.hygienic true in
theorem fn_of {CX:CXT} {P:Program} {w:World} {K:FG} {mg:Str->Option Value} {base:Heap} {k:Nat} {f:Addr} {name qual:Str} {params:Arguments} {body:List Stmt} {scope:Scope} {dV kV doc pm cdv ct oc:Value} {an od:Option Addr}
    {osl:Array (Option Value)} {N ps:List Str} {sp:Sp} (lk:K.lookup f=some ⟨oc,od,.func (PySem.W.fnOf name qual params body scope dV kV doc pm an cdv ct),osl⟩) (hcd:PySem.W.codeIn K cdv qual=true) (S:FnScope N ps scope)
    (len:∀ vs H Q E,sp vs H Q E->vs.length=ps.length)
    (hbody:∀ (A:Around) (outer:List Env) (s:Shared) (H:Hp) (vs:List V) (Q:VK) (E:XK),Room k (A.deeper (envOfC qual scope s.heap.objs.size f cdv))->sp vs H Q E ->
      ∃ t,PSs (kJ CX P w K mg base N qual scope f cdv A outer s H E) body t/\t { nx:=fun _ H'=>Q .non H',rt:=Q } (fv N vs) H) :
    FnOk P w K mg base CX (k+1) f (PySem.W.fnOf name qual params body scope dV kV doc pm an cdv ct) ps sp:=by
  refine ⟨len,fun A outer s H args us vs Q E hr e0 hb r hsp=>?_⟩
  have hl:=len _ _ _ _ hsp
  have KX:K.In s.heap:=e0.mod.kin.keeps fun b o e=>(e0.bs b o e).1
  have lim:s.heap.NoLimit:=e0.mod.nolimit.keeps fun b o e=>(e0.bs b o e).1
  have hkind:∀ y ∈ ps.zip us,scope.names.lookup y.1=some .local\/(scope.names.lookup y.1=some .cell/\((cellsFrom (s.heap.objs.size+1) scope.names []).lookup y.1).isSome=true):=fun ⟨n,v⟩ hy=>by
    rcases S.par n (List.of_mem_zip hy).1 with q | q
    · exact .inl q
    · exact .inr ⟨q,PySem.W.cellsFrom_some _ _ _ (.inl q)⟩
  refine codeAny_call_function hr.depth (KX _ _ lk) rfl S.co S.gen rfl (PySem.W.codeRec_of KX hcd) (hb _ _ _ _ ?_)
  refine wpAny_newFunctionEnv_cells S.kind hkind fun env he s1 x=>?_
  subst he
  refine ⟨lim.keeps x.toInCall.keep,codeAny_func ?_⟩
  obtain ⟨t,ht,hq⟩:=hbody A outer s H vs Q E (hr.deeper _) hsp
  have I:Inv (kJ CX P w K mg base N qual scope f cdv A outer s H E) [] (fv N vs) H s1:=mS S hr.hd e0 hl r x
  refine wpAny_mono (ht [] s1 (fv N vs) H _ I hq) (fun fl s' hs=>?_) fun e s' hs=>hs
  have fin:∀ {σ':St} {H':Hp} {v:V} {u:Value},Inv (kJ CX P w K mg base N qual scope f cdv A outer s H E) [] σ' H' s'->RelV v u->Q v H'->CE outer P w H s Q u s' :=
    fun {σ' H' v u} J rv q=>⟨v,H',J.os,J.bare,J.base,J.hok,rv,q⟩
  cases fl with
  | ret u =>
    obtain ⟨v,σ',H',J,rv,q⟩:=hs
    exact fin J rv q
  | next =>
    obtain ⟨σ',H',J,q⟩:=hs
    exact fin (v:=V.non) (u:=Value.none) J rfl q
  | brk =>
    obtain ⟨_,_,_,q⟩:=hs
    exact False.elim q
  | cont =>
    obtain ⟨_,_,_,q⟩:=hs
    exact False.elim q
end L2
namespace L2
open PySem PySem.Spec PyProof.Rows
section
variable {X:Cx} {x:Str} {p pos:Pos} {e:Expr} {es:List Expr} {t:TA} {id T:String} {r:List V->Hp->VK->Prop}
noncomputable def tCB (r:List V->Hp->VK->Prop) (t:TA):TE:=fun σ H Q=>t σ H fun vs H1=>r vs H1 Q
theorem j2 (hc:CallR X (.builtin id) r) (hg:Gl X x) (hm:X.mg x=none) (hv:bootBuiltins x=some (.builtin id)) (ha:PA X (e :: es) t) (hn:x ≠ "__name__":=by decide) (hdb:(x == ("__debug__":Str))=false:=by decide)
    (he:starEach (e :: es) X.env=(false,eval e X.env) :: starEach es X.env:=by rfl) (hpl:(backTo pos (starEach es X.env)).any (·.1)=false:=by rfl):PE X (.Call (.Name x p) (e :: es) [] pos) (tCB r t):=by
  intro pins s σ H Q I h
  refine wpAny_Call_Name_kw (el I hg hm hv ?_ hn hdb)
  exact PyProof.Rows.callWith_builtin1 (thn (ha pos pins s σ H _ I h) fun us s1 ⟨vs,H1,I1,r1,q1⟩=>hc pins s1 σ H1 vs us Q I1 r1 q1) he hpl
theorem mD (hc:CallR X (.type T) r) (hg:Gl X x) (hm:X.mg x=none) (hv:bootBuiltins x=some (.type T)) (ha:PA X (e :: es) t) (hn:x ≠ "__name__":=by decide) (hdb:(x == ("__debug__":Str))=false:=by decide)
    (he:starEach (e :: es) X.env=(false,eval e X.env) :: starEach es X.env:=by rfl) (hpl:(backTo pos (starEach es X.env)).any (·.1)=false:=by rfl):PE X (.Call (.Name x p) (e :: es) [] pos) (tCB r t):=by
  intro pins s σ H Q I h
  refine wpAny_Call_Name_kw (el I hg hm hv ?_ hn hdb)
  exact PyProof.Rows.callWith_type1 (thn (ha pos pins s σ H _ I h) fun us s1 ⟨vs,H1,I1,r1,q1⟩=>hc pins s1 σ H1 vs us Q I1 r1 q1) he hpl
end
end L2
namespace HT
open PySem PyProof.Rows
section
open PySem.SeqAt
open PySem.AutoSeq1 (wpAny_loadPart')
open PySem.MeetsSeq PySem.MeetsSeq2 PySem.MeetsSeq3
end
section
variable {prog:Program} {w:World} {A:Around} {E:Value->Shared->Prop} {s:Shared}
theorem cat_tup {t b:Addr} {vs ws:List Value} {Q:Value->Shared->Prop} (ht:IsTup s.heap t vs.toArray) (hb:IsTup s.heap b ws.toArray) (hv:vs ≠ [])
    (h1:ws=[]->Q (.ref t) s) (h2:ws ≠ []->Q (.ref s.heap.objs.size) { s with heap:=s.heap.push { cls:=.type "tuple",data:=.seq (vs ++ ws).toArray } })
    (hsz:vs.length+ws.length<=sizeLine):wpAny (model prog w) A (binaryOp .Add (.ref t) (.ref b)) Q E s:=by
  obtain ⟨⟨cls,dd,data,sl⟩,ho,hc,n,hd⟩:=id ht
  obtain ⟨⟨cls2,dd2,data2,sl2⟩,ho2,hc2,n2,hd2⟩:=id hb
  simp only at hc hd hc2 hd2
  subst hc hd hc2 hd2
  have e:vs.toArray ++ ws.toArray=(vs ++ ws).toArray:=by simp
  by_cases hw:ws=[]
  · exact concat_meets ⟨_,ho,rfl⟩ ⟨_,ho2,rfl⟩ noFill_tuple_add seq_tuple_add PySem.F.slot_tuple_add PySem.F.entry_tuple_add (PySem.F.args_tuple_add_2 _ _)
      (tuple_addW1 t b vs.toArray ws.toArray n n2 dd dd2 sl sl2 (by simpa using hv) (by simp [hw])) ⟨ho,ho2,h1 hw⟩
  · refine concat_meets ⟨_,ho,rfl⟩ ⟨_,ho2,rfl⟩ noFill_tuple_add seq_tuple_add PySem.F.slot_tuple_add PySem.F.entry_tuple_add (PySem.F.args_tuple_add_2 _ _)
      (tuple_addW2 t b vs.toArray ws.toArray n n2 dd dd2 sl sl2 (by simpa using hv) (by simpa using hw) (by rw [uB,uB];exact hsz)) ⟨ho,ho2,?_⟩
    rw [e]
    exact h2 hw
noncomputable def sIx (n d:Nat):Option Int->Nat
  | none=>d
  | some v=>if v < 0 then (v+(n:Int)).toNat else min v.toNat n
end
end HT
namespace L2
open PySem PySem.Spec PyProof.Rows
section
variable {X:Cx} {e:Expr} {te:TE} {lo hi:Option Expr} {tl th:TO} {pos p2:Pos}
noncomputable def SlR (X:Cx) (r:V->Option Int->Option Int->Hp->VK->Prop):Prop :=
  ∀ (pins:List (Addr × Obj)) (s:Shared) (σ:St) (H:Hp) (x:V) (v vl vu:Value) (lo hi:Option Int) (sl:Addr) (Q:VK),Inv X pins σ H s->RelV x v->s.heap.IsSliceOf sl vl vu .none->IsPart vl lo->IsPart vu hi->r x lo hi H Q ->
    ∃ T id,typeLookup (.type T) "__getitem__"=pure (some (.builtin id))/\s.TypeIs v T/\wpAny (model X.prog X.w) X.A (getItem v (.ref sl)) (EP X pins σ Q) X.xe s
noncomputable def cutV (xs:List V) (lo hi:Option Int):List V:=(xs.drop (HT.sIx xs.length 0 lo)).take (HT.sIx xs.length xs.length hi - HT.sIx xs.length 0 lo)
noncomputable def lH (K:FG):R2:=fun x y H Q=>∃ a b xs ys,x=.ref a/\y=.ref b/\SqT K H a xs/\SqT K H b ys/\xs ≠ []/\xs.length+ys.length<=sizeLine /\
  (ys=[]->Q (.ref a) H)/\(ys ≠ []->∀ p,H p=none->Q (.ref p) (upd H p (.tup (xs ++ ys))))
theorem Vals.nil_iff {xs:List V} {us:List Value} (r:Vals xs us):us=[] ↔ xs=[]:=by
  cases r with
  | nil=>simp
  | cons _ _=>simp
theorem op_catT:OpR X (binaryOp .Add) (lH X.K):=by
  intro pins s σ H x y v u Q I rx ry h
  obtain ⟨a,b,xs,ys,rfl,rfl,ha,hb,hx,hz,q1,q2⟩:=h
  cases rx
  cases ry
  obtain ⟨its,r1,p1,_⟩:=I.tuple ha
  obtain ⟨its2,r2,p2,_⟩:=I.tuple hb
  refine HT.cat_tup p1 p2 (fun z=>hx (r1.nil_iff.mp z)) (fun z=>⟨.ref a,H,I,rfl,q1 (r2.nil_iff.mp z)⟩) (fun z=>?_) (by rw [<- r1.length,<- r2.length];exact hz)
  refine ⟨.ref s.heap.objs.size,_,I.laid (t':=s.toks) (o:=.tup (xs ++ ys)) (fun b ob q=>uc _ q) (uy _) ?_,rfl,q2 (fun w=>z (r2.nil_iff.mpr w)) _ (I.hok.fresh (uy _))⟩
  exact ⟨by rw [uH];exact hz,_,r1.append r2,IsTupD.new _ _⟩
end
end L2
namespace L2
open PySem PySem.Spec PyProof.Rows
noncomputable def ixN (n:Nat) (i:Int):Option Nat:=if 0<=i then (if i < n then some i.toNat else none) else if -(n:Int)<=i then some (i+n).toNat else none
noncomputable def atI {α:Type} (xs:List α) (i:Int):Option α:=(ixN xs.length i).bind fun j=>xs[j]?
theorem lS {n:Nat} {i:Int} {j:Nat} (h:ixN n i=some j):seqIndex? i n=some j/\j < n/\-(n:Int)<=i/\i < n:=by
  unfold ixN at h
  by_cases h0:0<=i
  · rw [if_pos h0] at h
    by_cases h1:i < n
    · rw [if_pos h1] at h
      have e:i.toNat=j:=uV h
      exact ⟨by rw [seqIndex_of h0 h1,e],by omega,by omega,h1⟩
    · rw [if_neg h1] at h;cases h
  · rw [if_neg h0] at h
    by_cases h1:-(n:Int)<=i
    · rw [if_pos h1] at h
      have e:(i+n).toNat=j:=uV h
      exact ⟨by rw [seqIndex_neg (by omega) h1,e],by omega,h1,by omega⟩
    · rw [if_neg h1] at h;cases h
theorem me {α:Type} {xs:List α} {i:Int} {v:α} (h:atI xs i=some v):∃ j,seqIndex? i xs.length=some j/\xs[j]?=some v/\j < xs.length/\-(xs.length:Int)<=i/\i < xs.length:=by
  unfold atI at h
  cases e:ixN xs.length i with
  | none=>rw [e] at h;cases h
  | some j =>
    rw [e] at h
    obtain ⟨h1,h2,h3,h4⟩:=lS e
    exact ⟨j,h1,h,h2,h3,h4⟩
noncomputable def mf (b:Expr):Prop:=∀ o i,subscripted b false o i=operate [o,i] (getItem o i)
noncomputable def IxR (X:Cx) (r:R2):Prop :=
  ∀ (value slice:Expr) (pins:List (Addr × Obj)) (s:Shared) (σ:St) (H:Hp) (x y:V) (v u:Value) (Q:VK),Inv X pins σ H s->RelV x v->RelV y u->r x y H Q ->
    subscripted slice false v u=operate [v,u] (getItem v u)->wpAny (model X.prog X.w) X.A (subscriptTail value slice v u) (EP X pins σ Q) X.xe s
noncomputable def MtR (X:Cx) (id:String) (r:V->List V->Hp->VK->Prop):Prop :=
  ∀ (pins:List (Addr × Obj)) (s:Shared) (σ:St) (H:Hp) (x:V) (xs:List V) (v:Value) (us:List Value) (Q:VK),Inv X pins σ H s->RelV x v->Vals xs us->r x xs H Q ->
    wpAny (model X.prog X.w) X.A (call (.builtin id) (v :: us)) (EP X pins σ Q) X.xe s
section
variable {X:Cx} {a b:Expr} {ta tb:TE} {pos:Pos}
theorem IxR.or {r r':R2} (h:IxR X r) (h':IxR X r'):IxR X (fun x y H Q=>r x y H Q\/r' x y H Q):=by
  intro value slice pins s σ H x y v u Q I rx ry q hs
  rcases q with q | q
  · exact h value slice pins s σ H x y v u Q I rx ry q hs
  · exact h' value slice pins s σ H x y v u Q I rx ry q hs
theorem pe_ix {r:R2} (hr:IxR X r) (ha:PE X a ta) (hb:PE X b tb) (hs:mf b):PE X (.Subscript a b pos) (tOp r ta tb):=by
  intro pins s σ H Q I h
  exact Subscript_ (t3 ha hb I h fun v u s2 x y H2 I2 rx ry q=>hr a b pins s2 σ H2 x y v u Q I2 rx ry q (hs _ _))
noncomputable def nZ (K:FG):R2:=fun x y H Q=>∃ p xs i v,x=.ref p/\y=.int i/\SqL K H p xs/\atI xs i=some v/\Q v H
noncomputable def nY (K:FG):R2:=fun x y H Q=>∃ p xs i v,x=.ref p/\y=.int i/\SqT K H p xs/\atI xs i=some v/\Q v H
theorem ix_list:IxR X (nZ X.K):=by
  intro value slice pins s σ H x y v u Q I rx ry h hs
  obtain ⟨p,xs,i,z,rfl,rfl,hq,he,q⟩:=h
  cases rx
  obtain ⟨t,rfl⟩:=ry
  obtain ⟨its,r,pl,hz⟩:=I.list hq
  obtain ⟨j,h1,h2,h3,h4,h5⟩:=me he
  obtain ⟨w,ew,rw'⟩:=r.get h2
  have hl:=r.length
  have hn:=jj
  have fin:EP X pins σ Q w s:=⟨z,H,I,rw',q⟩
  by_cases h0:0<=i
  · have hj:i.toNat=j:=by
      rw [seqIndex_of h0 h5] at h1
      exact uV h1
    exact item_listR pl.isList h0 (by omega) (by rw [hj];simpa using ew) fin hs
  · have hj:(i+(its.toArray.size:Int)).toNat=j:=by
      rw [seqIndex_neg (by omega) h4] at h1
      rw [uB,<- hl]
      exact uV h1
    exact subscriptTail_builtinR (x:=w) pl.isList.typeIs slot_list_getitem.lookup
      (wpAny_getItem_list_neg (Q:=fun r s'=>r=w/\EP X pins σ Q r s') pl.isList (by omega) (by rw [uB] <;> omega) (by omega) (by rw [hj];simpa using ew) ⟨rfl,fin⟩) hs
theorem tO:IxR X (nY X.K):=by
  intro value slice pins s σ H x y v u Q I rx ry h hs
  obtain ⟨p,xs,i,z,rfl,rfl,hq,he,q⟩:=h
  cases rx
  obtain ⟨t,rfl⟩:=ry
  obtain ⟨its,r,pl,hz⟩:=I.tuple hq
  obtain ⟨j,h1,h2,h3,h4,h5⟩:=me he
  obtain ⟨w,ew,rw'⟩:=r.get h2
  have hl:=r.length
  have hn:=jj
  have fin:EP X pins σ Q w s:=⟨z,H,I,rw',q⟩
  exact subscriptTail_builtinR (x:=w) pl.typeIs slot_tuple_getitem.lookup
    (getItem_tuple (j:=j) (Q:=fun r s'=>r=w/\EP X pins σ Q r s') pl (by omega) (by omega) (by rw [uB,<- hl];exact h1) (by simpa using ew) ⟨rfl,fin⟩) hs
theorem lc (its:List Value) (n j:Nat) (u:Value):Obj.mapSeq (·.setIfInBounds j u) { cls:=.type "list",data:=.seq its.toArray n } = { cls:=.type "list",data:=.seq (its.set j u).toArray n }:=by
  simp [Obj.mapSeq]
theorem Inv.lst {pins:List (Addr × Obj)} {σ:St} {H:Hp} {s:Shared} {p:Addr} {xs:List V} (I:Inv X pins σ H s) (h:H p=some (.lst xs)) :
    ∃ (its:List Value) (n:Nat),Vals xs its/\s.heap.get? p=some { cls:=.type "list",data:=.seq its.toArray n }/\xs.length<=sizeLine:=by
  obtain ⟨z,its,n,r,e⟩:=I.hok p _ h
  exact ⟨its,n,r,e,z⟩
theorem Inv.lstUpd {pins:List (Addr × Obj)} {σ:St} {H:Hp} {s:Shared} {p:Addr} {xs ys:List V} {its its':List Value} {n n':Nat} {f:Obj->Obj} (I:Inv X pins σ H s) (h:H p=some (.lst xs))
    (ho:s.heap.get? p=some { cls:=.type "list",data:=.seq its.toArray n }) (hf:f { cls:=.type "list",data:=.seq its.toArray n } = { cls:=.type "list",data:=.seq its'.toArray n' }) (r:Vals ys its') (hz:ys.length<=sizeLine) (t:Nat) :
    Inv X pins σ (upd H p (.lst ys)) { s with heap:=s.heap.update p f,toks:=t }:=by
  have e:(s.heap.update p f).get? p=some { cls:=.type "list",data:=.seq its'.toArray n' }:=by
    rw [uG f ho (by rw [hf] <;> rfl),hf]
  refine I.write (x:=p) (e:=p) (by rw [h];trivial) (.inl rfl) (fun b u hb q=>(uQ _ _ (Ne.symm hb)).trans q) ⟨_,e⟩ ?_
  exact ⟨hz,its',n',r,e⟩
noncomputable def lE:V->V->V->Hp->(Hp->Prop)->Prop:=fun o i v H Q=>∃ p xs k j,o=.ref p/\i=.int k/\H p=some (.lst xs)/\ixN xs.length k=some j/\Q (upd H p (.lst (xs.set j v)))
theorem nF:pC X lE:=by
  intro pins s σ H o i v ov iv u Q I ro ri rv h
  obtain ⟨p,xs,k,j,rfl,rfl,hp,hj,q⟩:=h
  cases ro
  obtain ⟨t,rfl⟩:=ri
  obtain ⟨its,n,r,ho,hz⟩:=I.lst hp
  obtain ⟨h1,h2,h3,h4⟩:=lS hj
  have hl:=r.length
  have hn:=jj
  have I':Inv X pins σ (upd H p (.lst (xs.set j v))) { s with heap:=s.heap.update p (Obj.mapSeq (·.setIfInBounds j u)) } :=
    I.lstUpd hp ho (lc its n j u) (r.set rv j) (by rw [List.length_set];exact hz) s.toks
  by_cases h0:0<=k
  · have hk:k.toNat=j:=by
      rw [seqIndex_of h0 h4] at h1
      exact uV h1
    exact PySem.W.ki_setAt ho h0 (by omega) (by rw [uB,<- hl];exact h4) (by rw [hk];exact ⟨_,I',q⟩)
  · have hk:(k+(its.toArray.size:Int)).toNat=j:=by
      rw [seqIndex_neg (by omega) h3] at h1
      rw [uB,<- hl]
      exact uV h1
    exact PySem.W.ki_setBack ho (by omega) (by rw [uB,<- hl];exact h3) (by omega) (by rw [hk];exact ⟨_,I',q⟩)
noncomputable def rSlL (K:FG):V->Option Int->Option Int->Hp->VK->Prop:=fun x lo hi H Q=>∃ a xs,x=.ref a/\SqL K H a xs/\∀ p,H p=none->Q (.ref p) (upd H p (.lst (cutV xs lo hi)))
theorem aB:CallR X (.builtin "len") (fun xs H Q=>∃ p ys,xs=[.ref p]/\(SqL X.K H p ys\/SqT X.K H p ys)/\Q (.int ys.length) H):=by
  intro pins s σ H xs us Q I r h
  obtain ⟨p,ys,rfl,hq,q⟩:=h
  obtain ⟨u,rfl,rx⟩:=eC r
  cases rx
  have hn:=jj
  rcases hq with hq | hq
  · obtain ⟨its,r',pl,hz⟩:=I.list hq
    have hlen:=r'.length
    exact Calls.call_len_list pl.isList (by simp only [uB] <;> omega) ⟨.int ys.length,H,I.tok _,⟨s.toks+1,by rw [uB,hlen]⟩,q⟩
  · obtain ⟨its,r',pl,hz⟩:=I.tuple hq
    have hlen:=r'.length
    exact len_tuple pl (by simp only [uB] <;> omega) ⟨.int ys.length,H,I.tok _,⟨s.toks+1,by rw [uB,hlen]⟩,q⟩
theorem CallR.or {f:Value} {r r':List V->Hp->VK->Prop} (h:CallR X f r) (h':CallR X f r'):CallR X f (fun xs H Q=>r xs H Q\/r' xs H Q):=by
  intro pins s σ H xs us Q I rs q
  rcases q with q | q
  · exact h pins s σ H xs us Q I rs q
  · exact h' pins s σ H xs us Q I rs q
theorem dS:CallR X (.type "tuple") (fun xs H Q=>∃ p ys,xs=[.ref p]/\((SqL X.K H p ys/\∀ l,H l=none->Q (.ref l) (upd H l (.tup ys)))\/(SqT X.K H p ys/\Q (.ref p) H))):=by
  intro pins s σ H xs us Q I r h
  obtain ⟨p,ys,rfl,h⟩:=h
  obtain ⟨u,rfl,rx⟩:=eC r
  cases rx
  rcases h with ⟨hq,q⟩ | ⟨hq,q⟩
  · obtain ⟨its,r',pl,hz⟩:=I.list hq
    have hlen:=r'.length
    refine call_tuple_list pl.isList (fun h' kp=>?_) (by simp only [uB] <;> omega)
    have I1:Inv X pins σ H { s with heap:=h' }:=I.kept (t':=s.toks) kp
    have I2:Inv X pins σ (upd H h'.objs.size (.tup ys)) { s with heap:=h'.push { cls:=.type "tuple",data:=.seq its.toArray } } :=
      I1.laid (t':=s.toks) (fun b o e=>uc _ e) (uy _) (show ObjOk X.prog X.w _ _ _ (.tup ys) from ⟨hz,its,r',IsTupD.new _ _⟩)
    exact ⟨.ref h'.objs.size,_,I2,rfl,q _ (I1.hok.fresh (uy _))⟩
  · obtain ⟨its,r',pl,hz⟩:=I.tuple hq
    exact call_tuple_same pl ⟨.ref p,H,I,rfl,q⟩
noncomputable def tyV (K:FG) (T:String) (x:V) (H:Hp):Prop:=match x with
  | .str _=>T = "str"
  | .int _=>T = "int"
  | .ref p=>(T = "list"/\∃ xs,SqL K H p xs)\/(T = "tuple"/\((∃ o,K.lookup p=some o/\o.cls=.type "tuple"/\o.dict=none)\/∃ xs,H p=some (.tup xs))) \/
      (T = "dict"/\((∃ kvs,H p=some (.dK kvs))\/∃ kvs,H p=some (.dT kvs)))\/(T = "set"/\∃ S n,H p=some (.set S n))
  | _=>False
theorem rJ {pins:List (Addr × Obj)} {σ:St} {H:Hp} {s:Shared} {T:String} {x:V} {v:Value} (I:Inv X pins σ H s) (r:RelV x v) (ty:tyV X.K T x H) :
    s.TypeIs v T/\∀ a,v=.ref a->∃ ob,s.heap.get? a=some ob/\ob.dict=none:=by
  cases x with
  | str z =>
    obtain ⟨t,rfl⟩:=r
    cases (show T = "str" from ty)
    exact ⟨typeIs_str s z t,fun _ e=>nomatch e⟩
  | int i =>
    obtain ⟨t,rfl⟩:=r
    cases (show T = "int" from ty)
    exact ⟨typeIs_int s i t,fun _ e=>nomatch e⟩
  | ref p =>
    cases r
    rcases ty with ⟨rfl,xs,hq⟩ | ⟨rfl,⟨o,hk,hc,hd⟩ | ⟨xs,ht⟩⟩ | ⟨rfl,hk⟩ | ⟨rfl,S,n,hk⟩
    · obtain ⟨its,_,pl,_⟩:=I.list hq
      refine ⟨pl.isList.typeIs,fun a e=>?_⟩
      cases e
      obtain ⟨o,n,e,c,hd,_⟩:=pl
      exact ⟨o,e,hd⟩
    · refine ⟨⟨o,I.kIn p o hk,hc⟩,fun a e=>?_⟩
      cases e
      exact ⟨o,I.kIn _ o hk,hd⟩
    · obtain ⟨_,its,_,o,e,c,n,d⟩:=I.hok p _ ht
      refine ⟨⟨o,e,c⟩,fun a e2=>?_⟩
      cases e2
      exact ⟨o,e,congrArg Prod.snd d⟩
    · have z:∃ o,s.heap.get? p=some o/\o.ExactDict:=by
        rcases hk with ⟨kvs,hk⟩ | ⟨kvs,hk⟩
        · obtain ⟨_,_,_,_,o,_,_,e,ex,_⟩:=I.hok p _ hk
          exact ⟨o,e,ex⟩
        · obtain ⟨_,_,_,_,o,_,_,e,ex,_⟩:=I.hok p _ hk
          exact ⟨o,e,ex⟩
      obtain ⟨o,e,ex⟩:=z
      refine ⟨⟨o,e,ex.1⟩,fun a e2=>?_⟩
      cases e2
      exact ⟨o,e,ex.2.1⟩
    · obtain ⟨o,_,_,_,e,ex,_⟩:=I.hok p _ hk
      refine ⟨⟨o,e,ex.1⟩,fun a e2=>?_⟩
      cases e2
      exact ⟨o,e,ex.2.1⟩
  | _=>exact False.elim ty
noncomputable def tBM (K:FG) (T:String) (r:V->List V->Hp->VK->Prop) (to:TE) (t:TA):TE:=fun σ H Q=>to σ H fun x H1=>tyV K T x H1/\t σ H1 fun xs H2=>r x xs H2 Q
variable {o e:Expr} {es:List Expr} {to:TE} {t:TA} {name:Str} {apos cpos:Pos} {T id:String} {r:V->List V->Hp->VK->Prop}
theorem pe_bm (pa:PlainAttrs T) (slot:Slot T name id) (hty:typeOf (.builtin id)=pure (.type "method_descriptor")) (hm:MtR X id r) (ho:PE X o to) (ha:PA X (e :: es) t)
    (hbase:attributeBase o name X.env (eval o X.env)=eval o X.env:=by rfl)
    (hfew:((backTo cpos (starEach (e :: es) X.env)).all (fun x=>!x.1) && (backToKw cpos (keywordEach [] X.env)).all (fun x=>x.1.isSome)
      && decide ((e :: es).length+([]:List Keyword).length+(if ([]:List Keyword).isEmpty then 0 else 1) < 30))=true:=by rfl)
    (hline:(apos.endLine == cpos.line)=true:=by rfl) (hs:starEach (e :: es) X.env=(false,eval e X.env) :: starEach es X.env:=by rfl) (hplain:(backTo cpos (starEach es X.env)).any (·.1)=false:=by rfl) :
    PE X (.Call (.Attribute o name apos) (e :: es) [] cpos) (tBM X.K T r to t):=by
  intro pins s σ H Q I h
  refine wpAny_Call_method_late hbase hfew hline rfl (thn (ho pins s σ H _ I h) fun v s1 ⟨x,H1,I1,r1,ty,q1⟩=>?_)
  obtain ⟨h1,h2⟩:=rJ I1 r1 ty
  refine ⟨T,id,pa,slot,hty,h1,h2,?_⟩
  have hA:=ha cpos pins s1 σ H1 _ I1 q1
  rw [hs] at hA ⊢
  refine Calls.callWith_builtin (by show (false || (backTo cpos (starEach es X.env)).any (·.1))=false;rw [hplain] <;> rfl) (Calls.evalArgs_plain ?_)
  exact thn hA fun us s2 ⟨vs,H2,I2,r2,q2⟩=>hm pins s2 σ H2 x vs v us Q I2 r1 r2 q2
end
end L2
namespace L2
open PySem PySem.Spec PyProof.Rows
noncomputable def MtM (X:Cx) (id:String) (r:V->List V->Hp->VK->Prop):Prop :=
  ∀ (pins:List (Addr × Obj)) (s:Shared) (σ:St) (H:Hp) (x:V) (xs:List V) (v:Value) (us:List Value) (Q:VK),Inv X pins σ H s->RelV x v->Vals xs us->r x xs H Q ->
    wpAny (model X.prog X.w) X.A (call (.builtin id) (v :: us)) (EP X pins σ Q) X.xe s
theorem Vals.one:∀ {x:V} {us:List Value},Vals [x] us->∃ u,us=[u]/\RelV x u
  | _,_,.cons r .nil=>⟨_,rfl,r⟩
theorem Vals.rep {xs:List V} {us:List Value} (h:Vals xs us):∀ k:Nat,Vals (List.replicate k xs).flatten (List.replicate k us).flatten
  | 0=>.nil
  | k+1=>by
    rw [List.replicate_succ,List.replicate_succ,List.flatten_cons,List.flatten_cons]
    exact Vals.append h (Vals.rep h k)
section
variable {X:Cx} {pins:List (Addr × Obj)} {σ:St} {H:Hp} {s:Shared} {l b:Addr} {xs ys zs:List V}
theorem Inv.lset {its its':List Value} {n:Nat} {f:Array Value->Array Value} {t':Nat} (I:Inv X pins σ H s) (hH:H l=some (.lst xs))
    (e:s.heap.get? l=some { cls:=.type "list",data:=.seq its.toArray n }) (hf:f its.toArray=its'.toArray) (hv:Vals ys its') (hz:ys.length<=sizeLine) :
    Inv X pins σ (upd H l (.lst ys)) { s with heap:=s.heap.update l (Obj.mapSeq f),toks:=t' }:=by
  have q:=PySem.IsL.update e f
  rw [hf] at q
  refine I.write (x:=l) (e:=l) (by rw [hH];exact trivial) (.inl rfl) (fun b' u hb hu=>(uQ s.heap (Obj.mapSeq f) (Ne.symm hb)).trans hu) ⟨_,q⟩ ?_
  exact ⟨hz,its',_,hv,q⟩
theorem Inv.lnew {its:List Value} {t':Nat} (I:Inv X pins σ H s) (hv:Vals ys its) (hz:ys.length<=sizeLine) :
    Inv X pins σ (upd H s.heap.objs.size (.lst ys)) { s with heap:=s.heap.push { cls:=.type "list",data:=.seq its.toArray },toks:=t' } :=
  I.laid (fun _ _ q=>uc _ q) (uy _) ⟨hz,its,0,hv,um _ rfl⟩
theorem Inv.fresh (I:Inv X pins σ H s):H s.heap.objs.size=none:=I.hok.fresh (uy _)
theorem Inv.lstM (I:Inv X pins σ H s) (hH:H l=some (.lst xs)):xs.length<=sizeLine/\∃ (its:List Value) (n:Nat),Vals xs its/\xs.length=its.length/\s.heap.get? l=some { cls:=.type "list",data:=.seq its.toArray n }:=by
  obtain ⟨z,its,n,r,e⟩:=I.hok l _ hH
  exact ⟨z,its,n,r,r.length,e⟩
theorem oA {n:Nat} (h:n<=sizeLine):Builtin.List.listTooLong n=false:=by
  unfold Builtin.List.listTooLong
  exact uE (by omega)
end
section
variable {X:Cx}
noncomputable def lI:V->List V->Hp->VK->Prop:=fun x vs H Q=>∃ l xs y,x=.ref l/\vs=[y]/\H l=some (.lst xs)/\xs.length < sizeLine/\Q .non (upd H l (.lst (xs ++ [y])))
theorem mH:MtM X "list.append" lI:=by
  intro pins s σ H x vs v us Q I rx rv h
  obtain ⟨l,xs,y,rfl,rfl,hH,hz,q⟩:=h
  cases rx
  obtain ⟨u,rfl,ru⟩:=rv.one
  obtain ⟨z,its,n,r,hl,e⟩:=I.lstM hH
  refine call_meets F.slot_list_append ⟨_,e,rfl⟩ F.entry_list_append (F.args_list_append_2 _ _) (PySem.list_append l its.toArray n u (by rw [uB];omega)) ⟨e,?_⟩
  refine ⟨.non,_,I.lset (its':=its ++ [u]) hH e (by simp) (r.append (.cons ru .nil)) ?_,rfl,q⟩
  rw [uH,List.length_singleton]
  omega
noncomputable def lG:V->List V->Hp->VK->Prop:=fun x vs H Q=>∃ l b xs zs,x=.ref l/\vs=[.ref b]/\H l=some (.lst xs)/\H b=some (.lst zs)/\xs.length+zs.length<=sizeLine/\Q .non (upd H l (.lst (xs ++ zs)))
theorem mG:MtM X "list.extend" lG:=by
  intro pins s σ H x vs v us Q I rx rv h
  obtain ⟨l,b,xs,zs,rfl,rfl,hH,hB,hz,q⟩:=h
  cases rx
  obtain ⟨u,rfl,ru⟩:=rv.one
  cases ru
  obtain ⟨z,its,n,r,hl,e⟩:=I.lstM hH
  obtain ⟨z2,its2,n2,r2,hl2,e2⟩:=I.lstM hB
  have hsz:its.toArray.size+its2.toArray.size<=sizeLine:=by rw [uB,uB];omega
  have hlong:¬ (!its.toArray.isEmpty && Builtin.List.listTooLong (its.toArray.size+its2.toArray.size))=true:=by
    rw [oA hsz,Bool.and_false]
    exact uz
  refine call_meets F.slot_list_extend ⟨_,e,rfl⟩ F.entry_list_extend (F.args_list_extend_2 _ _)
    (AutoSeq1.list_extend_list_list_0 l its.toArray n b its2.toArray n2 hlong (by rw [uB];omega) (by omega)) ⟨e,e2,?_⟩
  refine ⟨.non,_,I.lset (its':=its ++ its2) hH e (by simp) (r.append r2) ?_,rfl,q⟩
  rw [uH]
  omega
noncomputable def p4:R2:=fun x y H Q=>∃ l b xs zs,x=.ref l/\y=.ref b/\H l=some (.lst xs)/\H b=some (.lst zs)/\xs.length+zs.length<=sizeLine/\∀ p,H p=none->Q (.ref p) (upd H p (.lst (xs ++ zs)))
theorem tp:OpR X (binaryOp .Add) p4:=by
  intro pins s σ H x y v u Q I rx ry h
  obtain ⟨l,b,xs,zs,rfl,rfl,hH,hB,hz,q⟩:=h
  cases rx
  cases ry
  obtain ⟨z,its,n,r,hl,e⟩:=I.lstM hH
  obtain ⟨z2,its2,n2,r2,hl2,e2⟩:=I.lstM hB
  refine PySem.P.add_list e e2 ?_ (by rw [uB,uB];omega)
  have ea:its.toArray ++ its2.toArray=(its ++ its2).toArray:=by simp
  rw [ea]
  exact ⟨.ref _,_,I.lnew (t':=s.toks) (r.append r2) (by rw [uH];omega),rfl,q _ I.fresh⟩
end
end L2
namespace Att
open PySem PySem.W PySem.Calls PyProof.Rows
theorem fZ {P:Params} {h:Heap}:∀ (ns:List Int) (vs:List Value),WellAll P h vs (ns.map WData.int)->IntsAre vs ns:=by
  intro ns
  induction ns with
  | nil =>
    intro vs w
    rw [List.map_nil] at w
    cases w
    exact .nil
  | cons n ns ih =>
    intro vs w
    rw [uC] at w
    cases w with
    | cons a b =>
      cases a
      exact .cons _ _ (ih _ b)
theorem mo {l:OpenLaw} {n:Nat} (hn:l.most=some n) {P:Params} {h:Heap} {args:List WData} {vals:List Value}
    (hpre:l.row.toRowW.claim.pre args=true) (hwl:WellAll P h vals args) :
    ∃ a vs ns,vals=[Value.ref a]/\args=[WData.list (ns.map WData.int)]/\h.get? a=some { cls:=.type "list",data:=.seq vs.toArray }/\IntsAre vs ns/\ns.length<=n:=by
  have hsh:WShape.hasAll [] args [.list .int]=true:=(pre_splitW hpre).1
  have hc:l.pre.holds [] { args:=args }=true:=(pre_splitW hpre).2
  obtain ⟨d,r,rfl,h1,h2⟩:=hasAllW_cons hsh
  obtain rfl:=hasAllW_nil h2
  obtain ⟨xs,rfl,h3⟩:=hasW_list h1
  obtain ⟨ns,rfl⟩:=items_int h3
  have hlen:ns.length<=n:=by
    unfold OpenLaw.pre at hc
    have h4:(WTm.not (.lt (.lit (.int (n:Int))) (.len (.arg 0)))).holds [] { args:=[.list (ns.map .int)] }=true:=by
      have h4:=(holds_andW hc).1
      rw [hn] at h4
      exact h4
    have h5:=condW_of h4 (w_not (w_lt w_lit (w_len_list (w_arg rfl))))
    rw [uo] at h5
    refine Nat.le_of_not_lt fun q=>?_
    have q':(n:Int) < ((ns.length:Nat):Int):=by omega
    first
      | (rw [uD q'] at h5;exact absurd h5 (by decide))
      | (simp at h5;omega)
  cases hwl with
  | cons w1 w2 =>
    cases w2
    cases w1 with
    | list ho hall=>exact ⟨_,_,ns,rfl,rfl,ho,fZ ns _ hall,hlen⟩
theorem mx (l:OpenLaw) (args:List WData):l.row.toRowW.claim.post args (.bool true) args=true :=
  postW_of (r:=l.row.toRowW) (X:=(true == true))
    (show WShape.has [] (.bool true) .bool=true by first | rfl | decide | simp [WShape.has,WShape.arms,WShape.armsAll])
    (show (WTm.eq .res (.lit (.bool true))).value [] { args:=args,res:=some (.bool true),after:=args }=some (.bool (true == true)) from w_eq_bool (w_res rfl) w_lit) rfl
theorem attach_call {l:OpenLaw} {n:Nat} {q:Program} {loose:List Str} {XP:(Str->Option Value)->Heap->Prop} {YP:World->Heap->Prop} {d:DefRec}
    (hn:l.most=some n) (hdf:d.params.defaults=[])
    (call:∀ (w:World) (s₀ s₁:Shared) (mg mb:Str->Option Value) (fa:Addr) (o:Obj) (pm cd doc:Value) (a:Addr) (vs:List Value) (ns:List Int),
      Ground q loose [] XP w s₀ mg mb s₁.heap->YP w s₁.heap ->
      s₁.heap.get? fa=some o->o.data=.func (docDef d.name d.params d.body d.scope pm cd doc)->s₁.heap.CodeRec cd d.name->mg d.name=some (.ref fa) ->
      s₁.heap.get? a=some { cls:=.type "list",data:=.seq vs.toArray }->IntsAre vs ns->ns.length<=n->s₁.gens = #[] ->
      codeAny (model l.prog w) callerA (.call (.ref fa) ⟨[.ref a],[]⟩) (fun r s'=>r=.ok (.ret (.bool true))/\OldK s₁.heap s'.heap/\s'.os=s₁.os/\AllBare s'.gens) s₁) :
    WalkO q loose XP YP l.row.toRowW d [] (fun f vs=>PySem.call f vs):=by
  intro w s₀ s₁ mg mb G Y fa o pm cd doc dV kV ho hd hcd hD hmg hg args vals as hpre hlay hrd hwl hlo
  obtain rfl:dV=.none:=Dflts.none hD hdf
  obtain rfl:kV=.none:=Dflts.noKw hD
  obtain ⟨a,vs,ns,rfl,rfl,hobj,hints,hlen⟩:=mo hn hpre hwl
  refine enter_call (codeAny_mono (call w s₀ s₁ mg mb fa o pm cd doc a vs ns G Y ho (fd_plain hd) hcd hmg hobj hints hlen hg) fun r s' hq=>?_)
  obtain ⟨rfl,h2,h3,h4⟩:=hq
  exact ⟨.inl ⟨.bool true,.bool true,[],rfl,fun _=>rfl,.bool true,mx l _,fun _=>⟨List.Pairwise.nil,fun _ hm=>(nomatch hm)⟩⟩,h2,h3,h4⟩
end Att
namespace L2
open PySem PySem.Spec PyProof.Rows
theorem il:∀ {vs:List Value} {ns:List Int},IntsAre vs ns->Vals (ns.map V.int) vs
  | _,_,.nil=>.nil
  | _,_,.cons n t h=>.cons ⟨t,rfl⟩ (il h)
noncomputable def qQ (H:Hp):Prop:=∀ b,H b=none\/∃ o xs,H b=some (.frz o (.lst xs))
set_option tactic.hygienic true in
theorem oK {P:Program} {w:World} {K:FG} {mg mb:Str->Option Value} {CX:CXT} {k:Nat} {fa a:Addr} {fd:FuncData} {x:Str} {sp:Sp} {s₁:Shared} {vs:List Value} {ns:List Int}
    (KX:K.In s₁.heap) (hns:s₁.heap.Ns mainGlobals mg) (hb:s₁.heap.Ns builtinsNs mb) (hbb:∀ x:Str,x ≠ "__name__"->mb x=bootBuiltins x) (hlim:s₁.heap.NoLimit) (hg:s₁.gens = #[])
    (ha:s₁.heap.get? a=some { cls:=.type "list",data:=.seq vs.toArray }) (hi:IntsAre vs ns) (hl:ns.length<=sizeLine) (hr:Room k callerA)
    (F:∀ base:Heap,K.In base->base.Ns mainGlobals mg->FnOk P w K mg base CX k fa fd [x] sp) (hbind:∀ (s:Shared) (u:Value),BindsTo s fd ⟨[u],[]⟩ [(x,u)])
    (hsp:∀ H:Hp,qQ H->SqL K H a (ns.map V.int)->sp [.ref a] H (fun v _=>v=.bl true) fun _ _ _=>False)
    (hCX:∀ H e s',CX [] H s₁ (fun _ _ _=>False) e s'->False) :
    codeAny (model P w) callerA (.call (.ref fa) ⟨[.ref a],[]⟩) (fun r s'=>r=.ok (.ret (.bool true))/\OldK s₁.heap s'.heap/\s'.os=s₁.os/\AllBare s'.gens) s₁:=by
  have rv:=il hi
  have lenV:=hi.length
  have core:∀ H:Hp,qQ H->SqL K H a (ns.map V.int)->HOk P w H s₁.heap->(∀ b,H b ≠ none->b=a)->(H a ≠ none->K.lookup a=none) ->
      codeAny (model P w) callerA (.call (.ref fa) ⟨[.ref a],[]⟩) (fun r s'=>r=.ok (.ret (.bool true))/\OldK s₁.heap s'.heap/\s'.os=s₁.os/\AllBare s'.gens) s₁:=by
    intro H hO hS hok hA hK
    have base_of:∀ {b:Addr} {o:Obj},s₁.heap.get? b=some o->H b=none->(jr s₁.heap H).get? b=some o:=fun e n=>oV e n
    have noA:∀ {b:Addr} {o:Obj} {es:Array DictEntry} {ep:Nat},s₁.heap.get? b=some o->o.data=.dict es ep->H b=none:=fun {b o es ep} e d=>by
      cases q:H b with
      | none=>rfl
      | some u =>
        have e':b=a:=hA b (by rw [q];simp)
        subst e'
        rw [ha] at e;cases e
        have d':Data.seq vs.toArray _=Data.dict es ep:=d
        cases d'
    have nsK:∀ {b:Addr} {m:Str->Option Value},s₁.heap.Ns b m->(jr s₁.heap H).Ns b m:=fun {b m} ⟨o,es,ep,e,d,r⟩=>⟨o,es,ep,base_of e (noA e d),d,r⟩
    have hKb:K.In (jr s₁.heap H):=fun b o e=>base_of (KX b o e) (by
      cases q:H b with
      | none=>rfl
      | some u =>
        have e':b=a:=hA b (by rw [q];simp)
        subst e'
        rw [hK (by rw [q];simp)] at e;cases e)
    have hM:Mod K mg (jr s₁.heap H):=⟨hKb,nsK hns,⟨mb,nsK hb,hbb⟩,let ⟨mc,h1,h2⟩:=hlim;⟨mc,nsK h1,h2⟩⟩
    have e0:Env0 P w K mg (jr s₁.heap H) callerA [] s₁ H:=⟨rfl,hM,fun b o e=>qj e,Nat.le_of_eq (mT _ _),trivial,fun b hb=>absurd (show b ∈ ([]:List Addr) from hb) (by simp),hok,.of_eq hg⟩
    refine codeAny_mono ((F _ hKb (nsK hns)).run callerA [] s₁ H ⟨[.ref a],[]⟩ [.ref a] [.ref a] _ _ hr e0 (hbind s₁ (.ref a)) (.cons rfl .nil) (hsp H hO hS)) fun r s' h=>?_
    cases r with
    | error e=>exact (hCX H e s' h).elim
    | ok fl =>
      cases fl with
      | next=>exact False.elim h
      | brk=>exact False.elim h
      | cont=>exact False.elim h
      | ret u =>
        obtain ⟨v,H',os,bare,un,hok',r',q⟩:=h
        have q':v=.bl true:=q
        subst q'
        obtain rfl:u=Value.bool true:=r'
        refine ⟨rfl,OldK.of_keep fun b o e=>?_,os,bare⟩
        cases q:H b with
        | none=>exact un.keep b o e q (by intro z;exact absurd (show b ∈ ([]:List Addr) from z) (by simp)) (by simp)
        | some u =>
          rcases hO b with z | ⟨ob,xs,z⟩
          · rw [q] at z;cases z
          · have z2:=un.frzs b ob _ z
            obtain ⟨e1,_⟩:=hok b _ z
            obtain ⟨e2,_⟩:=hok' b _ z2
            rw [e] at e1;cases e1
            exact e2
  cases hk:K.lookup a with
  | some o =>
    have e:=KX a o hk
    rw [ha] at e
    cases e
    refine core (fun _=>none) (fun _=>.inl rfl) (.inr ⟨_,vs.toArray,_,hk,rfl,rfl,rfl,by rw [uB,lenV];exact hl,by simpa using rv⟩) (fun b u z=>by have z':(none:Option HO)=some u:=z;cases z') (fun b z=>absurd rfl z) fun z=>absurd rfl z
  | none =>
    refine core (fun b=>if b=a then some (.frz { cls:=.type "list",data:=.seq vs.toArray } (.lst (ns.map V.int))) else none) (fun b=>?_) (.inl (.inr ⟨{ cls:=.type "list",data:=.seq vs.toArray },if_pos rfl⟩)) (fun b u z=>?_) (fun b z=>?_) fun _=>hk
    · by_cases hb:b=a
      · exact .inr ⟨_,_,if_pos hb⟩
      · exact .inl (if_neg hb)
    · by_cases hb:b=a
      · have z':=(if_pos hb).symm.trans z
        cases z'
        subst hb
        exact ⟨ha,by rw [uo];exact hl,vs,_,rv,ha⟩
      · have z':=(if_neg hb).symm.trans z
        cases z'
    · by_cases hb:b=a
      · exact hb
      · exact absurd (if_neg hb) z
end L2
namespace L2
open PySem PySem.Spec PyProof.Rows
end L2
namespace L2
open PySem PySem.Spec PyProof.Rows
noncomputable abbrev CX0:CXT:=fun _ _ _ _ _ _=>False
noncomputable abbrev E0:XK:=fun _ _ _=>False
theorem pass0 {X:Cx}:ly CX0 X E0:=fun _ _ _ _ _ _ _ h=>h.elim
structure Fun (K:FG) (x qual:Str) (st:Stmt) (f:Addr) (fd:FuncData):Prop where
  ex:∃ (oc:Value) (od:Option Addr) (kV doc pm:Value) (an:Option Addr) (cdv ct:Value) (osl:Array (Option Value)),
    fd=PySem.W.fnOf x qual (aY st) (aN st) (ah st) .none kV doc pm an cdv ct/\K.lookup f=some ⟨oc,od,.func fd,osl⟩/\PySem.W.codeIn K cdv qual=true
  kp:PySem.W.keepIn K (.ref f)=true
section
variable {P:Program} {w:World} {K:FG} {mg:Str->Option Value} {base:Heap}
theorem Fun.ok {x qual:Str} {st:Stmt} {f:Addr} {fd:FuncData} {N ps:List Str} {k:Nat} {sp:Sp} (F:Fun K x qual st f fd) (S:FnScope N ps (ah st)) (len:∀ vs H Q E,sp vs H Q E->vs.length=ps.length)
    (hbody:∀ (cdv:Value) (A:Around) (outer:List Env) (s:Shared) (H:Hp) (vs:List V) (Q:VK) (E:XK),Room k (A.deeper (envOfC qual (ah st) s.heap.objs.size f cdv))->sp vs H Q E ->
      ∃ t,PSs (kJ CX0 P w K mg base N qual (ah st) f cdv A outer s H E).nox (aN st) t/\t { nx:=fun _ H'=>Q .non H',rt:=Q } (fv N vs) H):FnOk P w K mg base CX0 (k+1) f fd ps sp:=by
  obtain ⟨oc,od,kV,doc,pm,an,cdv,ct,osl,rfl,lk,hcd⟩:=F.ex
  refine fn_of lk hcd S len fun A outer s H vs Q E hr hsp=>?_
  obtain ⟨t,h,q⟩:=hbody cdv A outer s H vs Q E hr hsp
  exact ⟨t,h.nox,q⟩
theorem Fun.binds {x qual:Str} {st:Stmt} {f:Addr} {fd:FuncData} {ps:List Str} (F:Fun K x qual st f fd)
    (h:∀ (kV doc pm:Value) (an:Option Addr) (cdv ct:Value) (us:List Value),us.length=ps.length->bindArgs (PySem.W.fnOf x qual (aY st) (aN st) (ah st) .none kV doc pm an cdv ct) ⟨us,[]⟩=pure (ps.zip us)):Binds K fd ps []:=by
  obtain ⟨oc,od,kV,doc,pm,an,cdv,ct,osl,rfl,lk,hcd⟩:=F.ex
  exact .all (h kV doc pm an cdv ct)
theorem tR {x qual:Str} {st:Stmt} {f:Addr} {oc:Value} {od an:Option Addr} {osl:Array (Option Value)} {kV doc pm cdv ct:Value} (l:K.lookup f=some ⟨oc,od,.func (PySem.W.fnOf x qual (aY st) (aN st) (ah st) .none kV doc pm an cdv ct),osl⟩)
    (c:PySem.W.codeIn K cdv qual=true) (k:PySem.W.keepIn K (.ref f)=true):Fun K x qual st f (PySem.W.fnOf x qual (aY st) (aN st) (ah st) .none kV doc pm an cdv ct):=⟨⟨oc,od,kV,doc,pm,an,cdv,ct,osl,rfl,l,c⟩,k⟩
end
theorem hu_of {A:Around} {k:Nat} (hr:Room k A):A.units+1 < cLine:=Nat.lt_of_le_of_lt (Nat.add_le_add_left (by decide:1<=64) _) hr.units
noncomputable def Same (H H':Hp):Prop:=∀ b o,H b=some o->H' b=some o
theorem Same.refl (H:Hp):Same H H:=fun _ _ h=>h
theorem Same.trans {H H1 H2:Hp} (a:Same H H1) (b:Same H1 H2):Same H H2:=fun c o h=>b c o (a c o h)
theorem Same.free {H H':Hp} (e:Same H H') {l:Addr} (h:H' l=Option.none):H l=Option.none:=by
  cases q:H l with
  | none=>rfl
  | some o =>
    rw [e l o q] at h
    cases h
end L2
end
section
namespace L2
open PySem PySem.Spec PyProof.Rows
section
variable {prog:Program} {w:World} {A:Around} {E:Value->Shared->Prop} {s:Shared}
theorem jM {d:Addr} {k v:Value} {Q:Unit->Shared->Prop} (ty:s.TypeIs (.ref d) "dict") (h:wpAny (model prog w) A.in1 (dictSet d k v) Q E s) :
    wpAny (model prog w) A (setItem (.ref d) k v) Q E s:=by
  unfold setItem
  refine t9 (t7 (wpAny_sequenceKey ty (by decide) (t7 (wpAny_callSpecial?_slot ty slot_dict_setitem (wpAny_call_entry slot_dict_setitem ty entry_dict_setitem ?_ (args_dict_setitem _ _ _))))))
  refine t7 (wpAny_notOrdered_dict ty ?_)
  refine (?_:wpAny _ _ (dictSet d k v >>= _) _ _ s)
  exact t7 (wpAny_mono h (fun _ _ z=>t8 ⟨_,rfl,t8 z⟩) fun _ _ z=>z)
theorem io {d:Addr} {key v:Value} {hs:Int} {o:Obj} {es:Array DictEntry} {ep:Nat} {F:Option Nat->Prop} {Q:Unit->Shared->Prop} (ho:s.heap.get? d=some o) (hc:o.ExactDict) (hd:o.data=.dict es ep) (hz:es.size<=sizeLine)
    (find:wpAny (model prog w) A (dictFind d key hs) (fun r s'=>s'=s/\F r) E s)
    (old:∀ i h' o',F (some i)->h'.get? d=some o'->o'.ExactDict->o'.data=.dict (es.modify i fun e=>{ e with val:=v }) ep->Heap.SameBut d s.heap h'->Q () { s with heap:=h' })
    (new:∀ h' o',F none->h'.get? d=some o'->o'.ExactDict->o'.data=.dict (es.push ⟨hs,key,v⟩) (ep+1)->Heap.SameBut d s.heap h'->Q () { s with heap:=h' }) :
    wpAny (model prog w) A (dictSetHashed d key hs v) Q E s:=by
  unfold dictSetHashed
  refine t9 (t7 (wpAny_mono find ?_ fun _ _ z=>z))
  rintro (_ | i) _ ⟨rfl,f⟩
  · exact t7 (wpAny_rule (wpAny_updateDictKeys (hz:=hz) ho hd (new _ _ f (uG _ ho (Obj.isFreed_of_dict (Obj.data_mapDictKeys hd _))) (hc.mapDictKeys _) (Obj.data_mapDictKeys hd _) (Heap.SameBut.update ..))))
  · exact t7 (wpAny_rule (t7 (wpAny_updateDict ho hd (wpAny_point (old i _ _ f (uG _ ho (Obj.isFreed_of_dict (Obj.data_mapDict hd _))) (hc.mapDict _) (Obj.data_mapDict hd _) (Heap.SameBut.update ..))))))
end
section
variable {prog:Program} {w:World} {K:Type} [DecidableEq K] {A:Around} {E:Value->Shared->Prop} {s:Shared} {d:Addr} {k:K}
section
variable {knd:HeapKind prog w K}
noncomputable def DictOfHE (knd:HeapKind prog w K) (h:Heap) (d:Addr) (xs:List (K × Addr × Value)):Prop :=
  ∃ o es ep,h.get? d=some o/\o.ExactDict/\o.data=.dict es ep/\es.toList=xs.map (entryOfKey knd)/\(∀ x ∈ xs,knd.is h x.1 x.2.1)/\(xs.map (·.1)).Nodup/\ep=es.size
theorem DictOfHE.of {h:Heap} {d:Addr} {xs:List (K × Addr × Value)} (x:DictOfHE knd h d xs):h.DictOfH knd d xs:=let ⟨o,es,ep,h1,h2,h3,h4,h5,h6,_⟩:=x;⟨o,es,ep,h1,h2,h3,h4,h5,h6⟩
theorem mF {xs:List (K × Addr × Value)} {y:Addr × Value} (hn:(xs.map (·.1)).Nodup) (h:k ∉ xs.map (·.1)):((xs ++ [(k,y)]).map (·.1)).Nodup:=by
  rw [List.map_append]
  exact List.nodup_append.mpr ⟨hn,List.nodup_cons.mpr ⟨List.not_mem_nil,List.nodup_nil⟩,fun x hx y hy e=>h (by have:=uM.mp hy;subst this;exact e ▸ hx)⟩
theorem ic {a:Addr} {xs:List (K × Addr × Value)} {v:Value} {Q:Unit->Shared->Prop} (hu:knd.room A) (hkey:knd.is s.heap k a) (hm:DictOfHE knd s.heap d xs)
    (hQ:∀ h',DictOfHE knd h' d (storedH xs k a v)->Heap.SameBut d s.heap h'->Q () { s with heap:=h',toks:=s.toks+knd.draws k })
    (hsz:xs.length<=sizeLine:=by size_fits):wpAny (model prog w) A (dictSet d (.ref a) v) Q E s:=by
  obtain ⟨o,es,ep,ho,hc,hd,he,his,hn,rfl⟩:=hm
  unfold dictSet
  refine t9 (t7 (knd.pyHash hu hkey ?_))
  refine io (s:={ s with toks:=s.toks+knd.draws k }) (F:=fun | none=>∀ (j:Nat) (p:Addr × Value),xs[j]? ≠ some (k,p) | some j=>∃ p,xs[j]?=some (k,p)) ho hc hd (size_of_entries he ▸ hsz)
    (wpAny_dictFind_heap (s:={ s with toks:=s.toks+knd.draws k }) hu hkey ho hd he his hn (fun z=>⟨rfl,z⟩) fun j p z=>⟨rfl,p,z⟩) ?_ ?_
  · rintro i h' o' ⟨p,f⟩ g1 g2 g3 g4
    have at':=storedH_old (atKey_of_get hn f) a v
    refine hQ h' ⟨o',_,_,g1,g2,g3,?_,?_,?_,?_⟩ g4 <;> try rw [at']
    · rw [Array.toList_modify,he]
      exact modify_map_putAt (entryOfKey knd) _ k v (fun _ _=>rfl) hn f
    · intro x hx
      obtain ⟨y,hy,rfl⟩:=uw.mp hx
      have:=knd.keeps (his y hy) ho hd g4
      by_cases e:y.1=k <;> simpa [putAt,e] using this
    · exact (keys_map_putAt xs k v).symm ▸ hn
    · exact (Array.size_modify).symm
  · intro h' o' f g1 g2 g3 g4
    have at':=storedH_new (atKey_none_of_get f) a v
    refine hQ h' ⟨o',_,_,g1,g2,g3,?_,?_,?_,?_⟩ g4 <;> try rw [at']
    · simp [he,entryOfKey]
    · intro x hx
      rcases ul.mp hx with hx | hx
      · exact knd.keeps (his x hx) ho hd g4
      · cases uM.mp hx;exact knd.keeps hkey ho hd g4
    · exact mF hn (not_mem_keys_of_get f)
    · simp
theorem hU {a:Addr} {xs:List (K × Addr × Value)} {v:Value} {Q:Unit->Shared->Prop} (hu:knd.room A.in1) (hkey:knd.is s.heap k a) (hm:DictOfHE knd s.heap d xs)
    (hQ:∀ h',DictOfHE knd h' d (storedH xs k a v)->Heap.SameBut d s.heap h'->Q () { s with heap:=h',toks:=s.toks+knd.draws k })
    (hsz:xs.length<=sizeLine:=by size_fits):wpAny (model prog w) A (setItem (.ref d) (.ref a) v) Q E s :=
  jM hm.of.typeIs (ic (hsz:=hsz) hu hkey hm hQ)
end
section
variable {knd:KeyKind prog w K} {key:Value}
theorem gP {kvs:List (K × Value)} {v:Value} {Q:Unit->Shared->Prop} (hkey:knd.is k key=true) (hm:DictOfE knd s.heap d kvs)
    (hQ:∀ h',DictOfE knd h' d (stored kvs k v)->Heap.SameBut d s.heap h'->Q () { s with heap:=h',toks:=s.toks+1 })
    (hsz:kvs.length<=sizeLine:=by size_fits):wpAny (model prog w) A (dictSet d key v) Q E s:=by
  obtain ⟨o,⟨es⟩,ep,ho,hc,hd,hk,hp,hn,rfl⟩:=hm
  have same:=hp.findIdx k
  have hz:(⟨es⟩:Array DictEntry).size<=sizeLine:=by have:=hp.length;simp at this ⊢;omega
  unfold dictSet
  refine t9 (t7 (knd.pyHash hkey ?_))
  refine io (s:={ s with toks:=s.toks+1 }) (F:=fun r=>es.findIdx? (fun e=>knd.is k e.key)=r) ho hc hd hz
    (wpAny_dictFind_of (s:={ s with toks:=s.toks+1 }) hkey ho hd hk ⟨rfl,by simp⟩) ?_ ?_
  · intro i h' o' f g1 g2 g3 g4
    have at':stored kvs k v=_:=if_pos (any_of_findIdx_some (same.symm.trans f))
    refine hQ h' ⟨o',_,_,g1,g2,g3,hk.modify _ _,?_,?_,(Array.size_modify).symm⟩ g4 <;> rw [at']
    · simpa using hp.modify hn f v
    · exact (keys_map_store kvs k v).symm ▸ hn
  · intro h' o' f g1 g2 g3 g4
    have no:=not_mem_of_findIdx_none (same.symm.trans f)
    have at':stored kvs k v=_:=if_neg fun z=>by
      obtain ⟨x,hx,e⟩:=List.any_eq_true.mp z
      exact no (uw.mpr ⟨x,hx,of_decide_eq_true e⟩)
    refine hQ h' ⟨o',_,_,g1,g2,g3,hk.push hkey _,?_,?_,by simp⟩ g4 <;> rw [at']
    · simpa using hp.append hkey (knd.hash k) v
    · rw [List.map_append]
      exact List.nodup_append.mpr ⟨hn,List.nodup_cons.mpr ⟨List.not_mem_nil,List.nodup_nil⟩,fun x hx y hy e=>no (by cases uM.mp hy;have e':x=k:=e;exact e' ▸ hx)⟩
theorem gm {kvs:List (K × Value)} {v:Value} {Q:Unit->Shared->Prop} (hkey:knd.is k key=true) (hm:DictOfE knd s.heap d kvs)
    (hQ:∀ h',DictOfE knd h' d (stored kvs k v)->Heap.SameBut d s.heap h'->Q () { s with heap:=h',toks:=s.toks+1 })
    (hsz:kvs.length<=sizeLine:=by size_fits):wpAny (model prog w) A (setItem (.ref d) key v) Q E s :=
  jM hm.of.typeIs (gP (hsz:=hsz) hkey hm hQ)
end
end
section
variable {κ:Type} [DecidableEq κ]
noncomputable def dL (kvs:List (κ × V)) (k:κ):Option V:=(kvs.find? fun kv=>decide (kv.1=k)).map (·.2)
noncomputable def bQ (kvs:List (κ × V)) (k:κ) (v:V):List (κ × V) :=
  if (kvs.any fun kv=>decide (kv.1=k))=true then kvs.map (fun kv=>if kv.1=k then (kv.1,v) else kv) else kvs ++ [(k,v)]
noncomputable def rD (kvs:List (κ × V)) (k:κ):List (κ × V):=kvs.filter fun kv=>decide (kv.1 ≠ k)
theorem cM {p:κ × V} {r:List (κ × V)} {k:κ} (e:p.1=k):dL (p :: r) k=some p.2:=by simp [dL,List.find?_cons,e]
theorem cN {p:κ × V} {r:List (κ × V)} {k:κ} (e:¬ p.1=k):dL (p :: r) k=dL r k:=by simp [dL,List.find?_cons,e]
theorem jH (k:κ):∀ kvs:List (κ × V),(kvs.any fun kv=>decide (kv.1=k))=(dL kvs k).isSome
  | []=>rfl
  | p :: r=>by
    rw [List.any_cons]
    by_cases e:p.1=k
    · simp only [cM e,uD e,Bool.true_or,Option.isSome_some]
    · rw [cN e,uE e,Bool.false_or];exact jH k r
theorem fA (kvs:List (κ × V)) (k:κ) (v:V):(bQ kvs k v).length<=kvs.length+1:=by
  unfold bQ
  split
  · rw [uo];omega
  · rw [uH,uI,List.length_nil];omega
theorem RelO.isSome_eq {o:Option V} {u:Option Value} (r:RelO o u):o.isSome=u.isSome:=by
  cases o with
  | none=>cases u with
    | none=>rfl
    | some _=>exact (show False from r).elim
  | some _=>cases u with
    | none=>exact (show False from r).elim
    | some _=>rfl
theorem RelO.getD {o:Option V} {u:Option Value} {d:V} {d':Value} (r:RelO o u) (rd:RelV d d'):RelV (o.getD d) (u.getD d'):=by
  cases o with
  | none=>cases u with
    | none=>exact rd
    | some _=>exact (show False from r).elim
  | some _=>cases u with
    | none=>exact (show False from r).elim
    | some _=>exact r
theorem KV.val {kvs:List (κ × V)} {vs:List (κ × Value)} (r:KV kvs vs) (k:κ):RelO (dL kvs k) (valueAt vs k):=by
  unfold KV at r
  induction r with
  | nil=>exact True.intro
  | @cons p q ps qs h t ih =>
    obtain ⟨h1,h2⟩:=h
    by_cases e:p.1=k
    · have e':q.1=k:=h1.symm.trans e
      have b:valueAt (q :: qs) k=some q.2:=by simp [valueAt,List.find?_cons,e']
      rw [cM e,b];exact h2
    · have e':¬ q.1=k:=fun z=>e (h1.trans z)
      have b:valueAt (q :: qs) k=valueAt qs k:=by simp [valueAt,List.find?_cons,e']
      rw [cN e,b];exact ih
theorem KV.any {kvs:List (κ × V)} {vs:List (κ × Value)} (r:KV kvs vs) (k:κ):(kvs.any fun kv=>decide (kv.1=k))=vs.any fun kv=>decide (kv.1=k):=by
  unfold KV at r
  induction r with
  | nil=>rfl
  | cons h t ih=>rw [List.any_cons,List.any_cons,ih,h.1]
theorem KV.repl {kvs:List (κ × V)} {vs:List (κ × Value)} (r:KV kvs vs) (k:κ) {y:V} {u:Value} (ry:RelV y u) :
    KV (kvs.map fun kv=>if kv.1=k then (kv.1,y) else kv) (vs.map fun kv=>if kv.1=k then (kv.1,u) else kv):=by
  unfold KV at r ⊢
  induction r with
  | nil=>exact .nil
  | @cons p q ps qs h t ih =>
    rw [uC,uC]
    refine .cons ?_ ih
    obtain ⟨h1,h2⟩:=h
    by_cases e:p.1=k
    · rw [if_pos e,if_pos (h1.symm.trans e)];exact ⟨h1,ry⟩
    · rw [if_neg e,if_neg (fun z=>e (h1.trans z))];exact ⟨h1,h2⟩
theorem KV.put {kvs:List (κ × V)} {vs:List (κ × Value)} (r:KV kvs vs) (k:κ) {y:V} {u:Value} (ry:RelV y u):KV (bQ kvs k y) (stored vs k u):=by
  unfold bQ stored
  rw [r.any k]
  by_cases e:(vs.any fun kv=>decide (kv.1=k))=true
  · rw [if_pos e,if_pos e];exact r.repl k ry
  · rw [if_neg e,if_neg e];exact Paired.snoc r ⟨rfl,ry⟩
theorem KV.drop {kvs:List (κ × V)} {vs:List (κ × Value)} (r:KV kvs vs) (k:κ):KV (rD kvs k) (without vs k):=by
  unfold KV at r ⊢
  unfold rD without
  induction r with
  | nil=>exact .nil
  | @cons p q ps qs h t ih =>
    obtain ⟨h1,h2⟩:=h
    rw [List.filter_cons,List.filter_cons]
    by_cases e:p.1=k
    · have a:¬ decide (p.1 ≠ k)=true:=by simp [e]
      have b:¬ decide (q.1 ≠ k)=true:=by simp [h1.symm.trans e]
      rw [if_neg a,if_neg b];exact ih
    · have e':¬ q.1=k:=fun z=>e (h1.trans z)
      have a:decide (p.1 ≠ k)=true:=by simp [e]
      have b:decide (q.1 ≠ k)=true:=by simp [e']
      rw [if_pos a,if_pos b];exact .cons ⟨h1,h2⟩ ih
theorem KV.length {kvs:List (κ × V)} {vs:List (κ × Value)} (r:KV kvs vs):kvs.length=vs.length:=Paired.length r
end
theorem lR {P:Program} {w:World} {k:Key} {u:Value} (r:RelV (kV k) u):(bv P w).is k u=true:=by
  cases k with
  | inl i=>obtain ⟨t,e⟩:=(show ∃ t,u=Value.int i t from r);subst e;exact j8 P w i t
  | inr x=>obtain ⟨t,e⟩:=(show ∃ t,u=Value.str x t from r);subst e;exact j7 P w x t
theorem iF {P:Program} {w:World}:∀ {ks:List Key} {us:List Value},Vals (ks.map kV) us->ItemsAre (bv P w) ks us
  | [],_,r=>by rw [List.map_nil] at r;cases r;exact .nil
  | k :: ks,_,r=>by
    rw [uC] at r
    cases r with
    | cons h t=>exact .cons (lR h) (iF t)
noncomputable abbrev KT (H:Hp):List (List Key × V)->List (List Key × Addr × Value)->Prop:=Paired fun p q=>p.1=q.1/\H q.2.1=some (.tup (p.1.map kV))/\RelV p.2 q.2.2
theorem KT.val {H:Hp} {kvs:List (List Key × V)} {xs:List (List Key × Addr × Value)} (r:KT H kvs xs) (k:List Key):RelO (dL kvs k) ((atKey xs k).map (·.2)):=by
  induction r with
  | nil=>exact True.intro
  | @cons p q ps qs h t ih =>
    obtain ⟨h1,_,h2⟩:=h
    by_cases e:p.1=k
    · have e':q.1=k:=h1.symm.trans e
      have b:atKey (q :: qs) k=some q.2:=by simp [atKey,List.find?_cons,e']
      rw [cM e,b];exact h2
    · have e':¬ q.1=k:=fun z=>e (h1.trans z)
      have b:atKey (q :: qs) k=atKey qs k:=by simp [atKey,List.find?_cons,e']
      rw [cN e,b];exact ih
theorem KT.repl {H:Hp} {kvs:List (List Key × V)} {xs:List (List Key × Addr × Value)} (r:KT H kvs xs) (k:List Key) {y:V} {u:Value} (ry:RelV y u) :
    KT H (kvs.map fun kv=>if kv.1=k then (kv.1,y) else kv) (xs.map (putAt k u)):=by
  induction r with
  | nil=>exact .nil
  | @cons p q ps qs h t ih =>
    rw [uC,uC]
    refine .cons ?_ ih
    obtain ⟨h1,h2,h3⟩:=h
    unfold putAt
    by_cases e:p.1=k
    · rw [if_pos e,if_pos (h1.symm.trans e)];exact ⟨h1,h2,ry⟩
    · rw [if_neg e,if_neg (fun z=>e (h1.trans z))];exact ⟨h1,h2,h3⟩
theorem KT.put {H:Hp} {kvs:List (List Key × V)} {xs:List (List Key × Addr × Value)} (r:KT H kvs xs) (k:List Key) {b:Addr} {y:V} {u:Value} (hb:H b=some (.tup (k.map kV))) (ry:RelV y u) :
    KT H (bQ kvs k y) (storedH xs k b u):=by
  have e:(kvs.any fun kv=>decide (kv.1=k))=(atKey xs k).isSome:=by
    rw [jH,(r.val k).isSome_eq,Option.isSome_map]
  unfold bQ storedH
  rw [e]
  by_cases q:(atKey xs k).isSome=true
  · rw [if_pos q,if_pos q];exact r.repl k ry
  · rw [if_neg q,if_neg q];exact Paired.snoc r ⟨rfl,hb,ry⟩
theorem KT.keeps {H H':Hp} {kvs:List (List Key × V)} {xs:List (List Key × Addr × Value)} (r:KT H kvs xs) (ht:∀ b ys,H b=some (.tup ys)->H' b=some (.tup ys)):KT H' kvs xs :=
  Paired.mapP r fun _ _ z=>⟨z.1,ht _ _ z.2.1,z.2.2⟩
section
variable {P:Program} {w:World} {H:Hp} {h:Heap} {a:Addr}
theorem qZ {u:HO} (ok:HOk P w H h) (e:Rd H a u):ObjOk P w H h a u:=e.ok ok
theorem lm {kvs:List (Key × V)} (ok:HOk P w H h) (e:Rd H a (.dK kvs)):kvs.length<=sizeLine/\(a == sysModules)=false/\∃ vs,KV kvs vs/\DictOfE (bv P w) h a vs :=
  show ObjOk P w H h a (.dK kvs) from qZ ok e
theorem o4 {kvs:List (Key × V)} (ok:HOk P w H h) (e:Rd H a (.dK kvs)):kvs.length<=sizeLine/\(a == sysModules)=false/\∃ vs,KV kvs vs/\h.DictOf (bv P w) a vs:=let ⟨z,y,vs,r,d⟩:=lm ok e;⟨z,y,vs,r,d.of⟩
theorem jm {ks:List Key} (ok:HOk P w H h) (e:H a=some (.tup (ks.map kV))):(tupleKind (bv P w)).is h ks a:=by
  obtain ⟨_,its,r,o,h1,h2,n,h3⟩:=(show ObjOk P w H h a (.tup (ks.map kV)) from ok a _ e)
  exact ⟨o,its.toArray,n,h1,h2,congrArg Prod.fst h3,by simpa using iF r⟩
theorem oZ {kvs:List (List Key × V)} (ok:HOk P w H h) (e:Rd H a (.dT kvs)):kvs.length<=sizeLine/\(a == sysModules)=false /\
    ∃ xs,KT H kvs xs/\DictOfHE (tupleKind (bv P w)) h a xs:=by
  obtain ⟨z,y,xs,r,o,es,ep,h1,h2,h3,h4,h5⟩:=(show ObjOk P w H h a (.dT kvs) from qZ ok e)
  refine ⟨z,y,xs,r,o,es,ep,h1,h2,h3,h4,fun x hx=>?_,h5⟩
  have all:∀ {l:List (List Key × V)} {m:List (List Key × Addr × Value)},KT H l m->∀ x ∈ m,(tupleKind (bv P w)).is h x.1 x.2.1:=by
    intro l m q
    induction q with
    | nil=>intro x hx;exact nomatch hx
    | @cons p q ps qs hq t ih =>
      intro x hx
      rcases ui.mp hx with e | hx
      · subst e
        exact jm ok (by rw [<- hq.1];exact hq.2.1)
      · exact ih x hx
  exact all r x hx
theorem o0 {kvs:List (List Key × V)} (ok:HOk P w H h) (e:Rd H a (.dT kvs)):kvs.length<=sizeLine/\(a == sysModules)=false /\
    ∃ xs,KT H kvs xs/\h.DictOfH (tupleKind (bv P w)) a xs:=let ⟨z,y,xs,r,d⟩:=oZ ok e;⟨z,y,xs,r,d.of⟩
end
noncomputable def DGet (H:Hp) (a:Addr) (y:V) (r:Option V):Prop :=
  (∃ kvs k,Rd H a (.dK kvs)/\y=kV k/\r=dL kvs k)\/∃ kvs k b,Rd H a (.dT kvs)/\y=.ref b/\H b=some (.tup (k.map kV))/\r=dL kvs k
noncomputable def DPut (H:Hp) (a:Addr) (y v:V) (H':Hp):Prop :=
  (∃ kvs k,H a=some (.dK kvs)/\y=kV k/\kvs.length < sizeLine/\H'=upd H a (.dK (bQ kvs k v))) \/
  ∃ kvs k b,H a=some (.dT kvs)/\y=.ref b/\H b=some (.tup (k.map kV))/\kvs.length < sizeLine/\H'=upd H a (.dT (bQ kvs k v))
theorem DGet.k {H:Hp} {a:Addr} {kvs:List (Key × V)} {k:Key} (e:H a=some (.dK kvs)):DGet H a (kV k) (dL kvs k):=.inl ⟨kvs,k,.inl e,rfl,rfl⟩
theorem DGet.t {H:Hp} {a b:Addr} {kvs:List (List Key × V)} {k:List Key} (e:H a=some (.dT kvs)) (eb:H b=some (.tup (k.map kV))):DGet H a (.ref b) (dL kvs k):=.inr ⟨kvs,k,b,.inl e,rfl,eb,rfl⟩
theorem DPut.k {H:Hp} {a:Addr} {kvs:List (Key × V)} {k:Key} {v:V} (e:H a=some (.dK kvs)) (hl:kvs.length < sizeLine):DPut H a (kV k) v (upd H a (.dK (bQ kvs k v))):=.inl ⟨kvs,k,e,rfl,hl,rfl⟩
theorem DPut.t {H:Hp} {a b:Addr} {kvs:List (List Key × V)} {k:List Key} {v:V} (e:H a=some (.dT kvs)) (eb:H b=some (.tup (k.map kV))) (hl:kvs.length < sizeLine) :
    DPut H a (.ref b) v (upd H a (.dT (bQ kvs k v))):=.inr ⟨kvs,k,b,e,rfl,eb,hl,rfl⟩
section
variable {X:Cx} {pins:List (Addr × Obj)} {σ:St} {H:Hp} {s:Shared} {a:Addr} {y v:V} {u r:Value} {o:Option V} {A:Around} {E:Value->Shared->Prop}
theorem Inv.big (I:Inv X pins σ H s):sysModules < s.heap.objs.size:=by
  have h:mainGlobals < s.heap.objs.size:=(I.mod.glob.keeps I.bk).lt
  exact Nat.lt_trans (by decide) h
theorem mW {Q:Value->Shared->Prop} (hu:A.units+1 < cLine) (I:Inv X pins σ H s) (g:DGet H a y (some v)) (ry:RelV y u) (h:∀ w' s',Inv X pins σ H s'->RelV v w'->Q w' s') :
    wpAny (model X.prog X.w) A (getItem (.ref a) u) Q E s:=by
  rcases g with ⟨kvs,k,e,ey,l⟩ | ⟨kvs,k,b,e,ey,eb,l⟩
  · subst ey
    obtain ⟨z,hd,vs,rel,dd⟩:=o4 I.hok e
    obtain ⟨w',hw,rw'⟩:=RelO.some_of (v:=v) (o:=valueAt vs k) (by rw [l];exact rel.val k)
    exact wpAny_getItem_of (lR ry) dd.mapOf hw (h w' _ (I.tok _) rw')
  · subst ey
    cases (show u=Value.ref b from ry)
    obtain ⟨z,hd,xs,rel,dd⟩:=o0 I.hok e
    obtain ⟨w',hw,rw'⟩:=RelO.some_of (v:=v) (o:=(atKey xs k).map (·.2)) (by rw [l];exact rel.val k)
    obtain ⟨p,hp,hp2⟩:=ue.mp hw
    refine wpAny_getItem_heap (tupleKind_room_in1 hu) (jm I.hok eb) dd hp ?_
    rw [hp2]
    exact h w' _ (I.tok _) rw'
theorem d_in {Q:Value->Shared->Prop} (hu:A.units+1 < cLine) (I:Inv X pins σ H s) (g:DGet H a y o) (ry:RelV y u) (h:∀ s',Inv X pins σ H s'->Q (.bool o.isSome) s') :
    wpAny (model X.prog X.w) A (compareOp .In u (.ref a)) Q E s:=by
  rcases g with ⟨kvs,k,e,ey,l⟩ | ⟨kvs,k,b,e,ey,eb,l⟩
  · subst ey
    obtain ⟨z,hd,vs,rel,dd⟩:=o4 I.hok e
    refine wpAny_in_of (lR ry) hd dd.mapOf ?_
    rw [<- (rel.val k).isSome_eq,<- l]
    exact h _ (I.tok _)
  · subst ey
    cases (show u=Value.ref b from ry)
    obtain ⟨z,hd,xs,rel,dd⟩:=o0 I.hok e
    refine wpAny_in_heap (tupleKind_room_in1 hu) (jm I.hok eb) hd dd ?_
    have q:=(rel.val k).isSome_eq
    rw [Option.isSome_map] at q
    rw [<- q,<- l]
    exact h _ (I.tok _)
theorem l6 {h':Heap} {t':Nat} {ob:HO} (I:Inv X pins σ H s) (mu:Mut (H a)) (hs:Heap.SameBut a s.heap h') (he:∃ q,h'.get? a=some q) (new:ObjOk X.prog X.w (upd H a ob) h' a ob) :
    Inv X pins σ (upd H a ob) { s with heap:=h',toks:=t' } :=
  I.write (x:=a) (e:=a) mu (.inl rfl) (fun b q hb z=>(hs.2 b hb).trans z) he new
theorem tX {P:Program} {w:World} {H':Hp} {h':Heap} {kvs:List (Key × V)} {vs:List (Key × Value)} (z:kvs.length<=sizeLine) (hd:(a == sysModules)=false) (rel:KV kvs vs) (dd:DictOfE (bv P w) h' a vs) :
    ObjOk P w H' h' a (.dK kvs):=⟨z,hd,vs,rel,dd⟩
theorem mV {H':Hp} {Q:Unit->Shared->Prop} (hu:A.units+1 < cLine) (I:Inv X pins σ H s) (g:DPut H a y v H') (ry:RelV y u) (rv:RelV v r) (h:∀ s',Inv X pins σ H' s'->Q () s') :
    wpAny (model X.prog X.w) A (setItem (.ref a) u r) Q E s:=by
  rcases g with ⟨kvs,k,e,ey,l,eH⟩ | ⟨kvs,k,b,e,ey,eb,l,eH⟩
  · subst ey eH
    obtain ⟨z,hd,vs,rel,dd⟩:=lm I.hok (.inl e)
    have hz:vs.length<=sizeLine:=by rw [<- rel.length];exact z
    have hl:(bQ kvs k v).length<=sizeLine:=by have:=fA kvs k v;omega
    refine gm (hsz:=hz) (lR ry) dd fun h' dd' hs=>h _ ?_
    have he:∃ q,h'.get? a=some q:=let ⟨q,_,_,hq,_⟩:=dd';⟨q,hq⟩
    exact l6 I (by rw [e];exact True.intro) hs he (tX hl hd (rel.put k rv) dd')
  · subst ey eH
    cases (show u=Value.ref b from ry)
    obtain ⟨z,hd,xs,rel,dd⟩:=oZ I.hok (.inl e)
    have hz:xs.length<=sizeLine:=by rw [<- Paired.length rel];exact z
    have hl:(bQ kvs k v).length<=sizeLine:=by have:=fA kvs k v;omega
    refine hU (hsz:=hz) (tupleKind_room_in1 hu) (jm I.hok eb) dd fun h' dd' hs=>h _ ?_
    obtain ⟨q,es,ep,hq,h2,h3,h4,_,h5⟩:=dd'
    refine l6 I (by rw [e];exact True.intro) hs ⟨q,hq⟩ ⟨hl,hd,_,(rel.put k eb rv).keeps fun c ys ec=>?_,q,es,ep,hq,h2,h3,h4,h5⟩
    rw [aC (ne_of ec e (fun z=>nomatch z))]
    exact ec
end
theorem kI {X:Cx} {pins:List (Addr × Obj)} {σ:St} {H:Hp} {s:Shared} {a:Addr} {y:V} {o:Option V} (I:Inv X pins σ H s) (g:DGet H a y o):s.TypeIs (.ref a) "dict":=by
  rcases g with ⟨kvs,k,e,_,_⟩ | ⟨kvs,k,b,e,_,_,_⟩
  · obtain ⟨_,_,vs,_,dd⟩:=o4 I.hok e
    exact dd.typeIs
  · obtain ⟨_,_,xs,_,dd⟩:=o0 I.hok e
    exact dd.typeIs
theorem o5 {P:Program} {w:World} {H:Hp} (h:Heap) (hb:sysModules < h.objs.size):ObjOk P w H (h.push { cls:=.type "dict",data:=.dict #[] }) h.objs.size (.dK []) :=
  ⟨Nat.zero_le _,beq_eq_false_iff_ne.mpr (Ne.symm (uA hb)),[],.nil,_,#[],0,um _ rfl,⟨rfl,rfl,rfl⟩,rfl,(fun _ h=>by simp at h),.nil,List.nodup_nil,rfl⟩
theorem o1 {P:Program} {w:World} {H:Hp} (h:Heap) (hb:sysModules < h.objs.size):ObjOk P w H (h.push { cls:=.type "dict",data:=.dict #[] }) h.objs.size (.dT []) :=
  ⟨Nat.zero_le _,beq_eq_false_iff_ne.mpr (Ne.symm (uA hb)),[],.nil,_,#[],0,um _ rfl,⟨rfl,rfl,rfl⟩,rfl,rfl,List.nodup_nil,rfl⟩
noncomputable def sj:TE:=fun _ H Q=>∀ p,H p=none->Q (.ref p) (upd H p (.dK []))
noncomputable def si:TE:=fun _ H Q=>∀ p,H p=none->Q (.ref p) (upd H p (.dT []))
section
variable {X:Cx} {pos:Pos}
theorem oh:PE X (.Dict [] [] pos) sj:=fun pins s σ H Q I h =>
  wpAny_Dict_empty ⟨.ref s.heap.objs.size,_,I.laid (a:=s.heap.objs.size) (o:=.dK []) (t':=s.toks) (fun _ _ q=>uc _ q) (uy _) (o5 s.heap I.big),rfl,h _ (I.hok.fresh (uy _))⟩
theorem og:PE X (.Dict [] [] pos) si:=fun pins s σ H Q I h =>
  wpAny_Dict_empty ⟨.ref s.heap.objs.size,_,I.laid (a:=s.heap.objs.size) (o:=.dT []) (t':=s.toks) (fun _ _ q=>uc _ q) (uy _) (o1 s.heap I.big),rfl,h _ (I.hok.fresh (uy _))⟩
end
end L2
namespace L2
open PySem PySem.Spec PyProof.Rows
end L2
end
section
namespace L2
open PySem PySem.Spec PyProof.Rows
noncomputable def f9 (cells:List (Str × Addr)) (cs:List (Str × Addr)) (x:Str × NameKind):List (Str × Addr) :=
  if x.2 == .free then (match cells.lookup x.1 with | some c=>(x.1,c) :: cs | none=>cs) else cs
noncomputable def clo (cells:List (Str × Addr)) (names:List (Str × NameKind)):List (Str × Addr):=names.foldl (f9 cells) []
theorem gK {α β:Type} {f:α->β->Sem (ForInStep β)} {g:β->α->β}:∀ {l:List α} {c:β},(∀ x ∈ l,∀ c,f x c=pure (.yield (g c x)))->forIn l c f=pure (l.foldl g c)
  | [],c,_=>rfl
  | x :: l,c,h=>by
    rw [List.forIn_cons,h x ua,pure_bind]
    exact gK fun y hy=>h y (ub _ hy)
theorem gQ {scope:Scope} {env:Env} (h:∀ x ∈ scope.names,x.2=.free->∃ c,env.cells.lookup x.1=some c):closureFor scope env=pure (clo env.cells scope.names):=by
  simp only [closureFor]
  rw [gK (g:=f9 env.cells) (fun x hx c=>by
    obtain ⟨n,kind⟩:=x
    unfold f9
    by_cases hk:kind=.free
    · subst hk
      obtain ⟨a,e⟩:=h _ hx rfl
      have e':env.cells.lookup n=some a:=e
      simp [cellOf,e']
    · have hb:(kind == NameKind.free)=false:=by simpa using hk
      simp [hb])]
  rfl
theorem iI {cells:List (Str × Addr)} {x:Str} {c:Addr}:∀ {l:List (Str × NameKind)} {cs:List (Str × Addr)},(∀ y d,cs.lookup y=some d->cells.lookup y=some d)->(l.foldl (f9 cells) cs).lookup x=some c->cells.lookup x=some c
  | [],cs,h,e=>h x c e
  | y :: l,cs,h,e=>by
    refine iI (l:=l) (cs:=f9 cells cs y) (fun z d q=>?_) e
    unfold f9 at q
    split at q
    · cases e2:cells.lookup y.1 with
      | none=>rw [e2] at q;exact h z d q
      | some a =>
        rw [e2] at q
        simp only [List.lookup_cons] at q
        cases hz:z == y.1 with
        | true=>rw [hz] at q;have:=eq_of_beq hz;subst this;rw [e2];exact q
        | false=>rw [hz] at q;exact h z d q
    · exact h z d q
theorem jv {cells:List (Str × Addr)} {l:List (Str × NameKind)} {x:Str} {c:Addr} (e:(clo cells l).lookup x=some c):cells.lookup x=some c:=iI (fun _ _ q=>by simp at q) e
theorem gM {cells:List (Str × Addr)} {x:Str} {c:Addr} (hc:cells.lookup x=some c):∀ {l:List (Str × NameKind)} {cs:List (Str × Addr)},cs.lookup x=some c->(l.foldl (f9 cells) cs).lookup x=some c
  | [],_,e=>e
  | y :: l,cs,e=>by
    refine gM hc (l:=l) (cs:=f9 cells cs y) ?_
    unfold f9
    split
    · cases e2:cells.lookup y.1 with
      | none=>exact e
      | some a =>
        simp only [List.lookup_cons]
        cases hz:x == y.1 with
        | true=>have:=eq_of_beq hz;subst this;rw [hc] at e2;exact e2.symm
        | false=>exact e
    · exact e
theorem iJ {cells:List (Str × Addr)} {x:Str} {c:Addr} (hc:cells.lookup x=some c):∀ {l:List (Str × NameKind)} {cs:List (Str × Addr)},(x,NameKind.free) ∈ l->(l.foldl (f9 cells) cs).lookup x=some c
  | [],_,m=>by simp at m
  | y :: l,cs,m=>by
    rcases ui.mp m with rfl | m
    · refine gM hc (l:=l) ?_
      simp [f9,hc]
    · exact iJ hc (l:=l) (cs:=f9 cells cs y) m
theorem l7 {cells:List (Str × Addr)} {l:List (Str × NameKind)} {x:Str} {c:Addr} (hc:cells.lookup x=some c) (m:(x,NameKind.free) ∈ l):(clo cells l).lookup x=some c:=iJ hc m
theorem eM {env:Env}:∀ {names:List (Str × NameKind)} {x:Str},names.lookup x=some .free ->
    (names.map fun (n,k)=>if (k == NameKind.free && env.scope.kind == .function && env.kindOf n == some .cell) then (n,NameKind.cell) else (n,k)).lookup x=some .cell \/
    (names.map fun (n,k)=>if (k == NameKind.free && env.scope.kind == .function && env.kindOf n == some .cell) then (n,NameKind.cell) else (n,k)).lookup x=some .free
  | [],_,h=>by simp at h
  | (n,k) :: r,x,h=>by
    have ih:=@eM env r x
    show List.lookup x ((if (k == NameKind.free && env.scope.kind == .function && env.kindOf n == some .cell)=true then (n,NameKind.cell) else (n,k)) :: _)=_ \/
      List.lookup x ((if (k == NameKind.free && env.scope.kind == .function && env.kindOf n == some .cell)=true then (n,NameKind.cell) else (n,k)) :: _)=_
    cases hx:x == n with
    | true =>
      simp only [List.lookup_cons,hx] at h
      cases h
      split
      · left;simp [List.lookup_cons,hx]
      · right;simp [List.lookup_cons,hx]
    | false =>
      simp only [List.lookup_cons,hx] at h
      split
      · simp only [List.lookup_cons,hx];exact ih h
      · simp only [List.lookup_cons,hx];exact ih h
theorem gv {env:Env}:∀ {names:List (Str × NameKind)} {x:Str},(∀ y ∈ names,y.2 ≠ .cell) ->
    ((names.map fun (n,k)=>if (k == NameKind.free && env.scope.kind == .function && env.kindOf n == some .cell) then (n,NameKind.cell) else (n,k)).lookup x=some .cell \/
    (names.map fun (n,k)=>if (k == NameKind.free && env.scope.kind == .function && env.kindOf n == some .cell) then (n,NameKind.cell) else (n,k)).lookup x=some .free)->(x,NameKind.free) ∈ names
  | [],_,_,h=>by simp at h
  | (n,k) :: r,x,hc,h=>by
    have ih:=@gv env r x (fun y hy=>hc y (ub _ hy))
    have hk:=hc (n,k) ua
    have h':List.lookup x ((if (k == NameKind.free && env.scope.kind == .function && env.kindOf n == some .cell)=true then (n,NameKind.cell) else (n,k)) :: (r.map fun (n,k)=>if (k == NameKind.free && env.scope.kind == .function && env.kindOf n == some .cell) then (n,NameKind.cell) else (n,k)))=some .cell \/
      List.lookup x ((if (k == NameKind.free && env.scope.kind == .function && env.kindOf n == some .cell)=true then (n,NameKind.cell) else (n,k)) :: (r.map fun (n,k)=>if (k == NameKind.free && env.scope.kind == .function && env.kindOf n == some .cell) then (n,NameKind.cell) else (n,k)))=some .free:=h
    cases hx:x == n with
    | true =>
      have e:=eq_of_beq hx
      subst e
      by_cases hf:k=.free
      · subst hf;exact ua
      · exfalso
        have hb:(k == NameKind.free)=false:=by simpa using hf
        simp [hb,List.lookup_cons] at h'
        rcases h' with q | q
        · exact hk q
        · exact hf q
    | false =>
      refine ub _ (ih ?_)
      split at h'
      · simpa only [List.lookup_cons,hx] using h'
      · simpa only [List.lookup_cons,hx] using h'
noncomputable def bg (X:Cx) (NY:List Str) (scope:Scope) (s:Shared) (H:Hp) (C:Addr) (fp:List Addr):Cx where
  prog:=X.prog
  w:=X.w
  K:=X.K
  mg:=X.mg
  base:=X.base
  A:=X.A
  N:=NY
  s₀:=s
  H₀:=H
  env:=compEnvC scope (clo X.env.cells scope.names) C X.env
  outer:=X.stack
  stack:=X.stack
  ex:=fp
  fn:=fun _=>false
  calm:=X.calm
  pn:=[]
  xe:=fun _ _=>False
noncomputable def cap (ix:List (Option Nat)) (σ:St):St:=ix.map fun o=>match o with | some i=>(σ[i]?).getD none | none=>none
noncomputable def ju (sc:Scope) (XN:List Str) (Xsc:Scope) (NY:List Str) (ix:List (Option Nat)):Bool :=
  sc.kind == .function && sc.names.all (fun y=>y.2 != .cell) && sc.names.all (fun y=>y.2 != .local || sc.names.lookup y.1 == some .local) && sc.names.all (fun y=>y.2 != .free || sc.names.lookup y.1 == some .free)
    && sc.names.all (fun y=>y.2 != .free || (Xsc.names.lookup y.1 == some .cell || Xsc.names.lookup y.1 == some .free))
    && ix.length == NY.length && (NY.zip ix).all fun p=>match p.2 with | none=>true | some i=>(XN[i]? == some p.1) && sc.names.contains (p.1,NameKind.free)
structure CompOk (sc:Scope) (XN:List Str) (Xsc:Scope) (NY:List Str) (ix:List (Option Nat)):Prop where
  kind:sc.kind=.function
  nocell:∀ y ∈ sc.names,y.2 ≠ .cell
  loc:∀ y ∈ sc.names,y.2=.local->sc.names.lookup y.1=some .local
  fre:∀ y ∈ sc.names,y.2=.free->sc.names.lookup y.1=some .free
  out:∀ y ∈ sc.names,y.2=.free->Xsc.names.lookup y.1=some .cell\/Xsc.names.lookup y.1=some .free
  len:ix.length=NY.length
  cap:∀ (j:Nat) x i,NY[j]?=some x->ix[j]?=some (some i)->XN[i]?=some x/\(x,NameKind.free) ∈ sc.names
theorem CompOk.of {sc:Scope} {XN:List Str} {Xsc:Scope} {NY:List Str} {ix:List (Option Nat)} (h:ju sc XN Xsc NY ix=true):CompOk sc XN Xsc NY ix:=by
  simp only [ju,Bool.and_eq_true,List.all_eq_true,beq_iff_eq] at h
  obtain ⟨⟨⟨⟨⟨⟨h1,h2⟩,h3⟩,h4⟩,h5⟩,h6⟩,h7⟩:=h
  refine ⟨h1,fun y hy=>by simpa using h2 y hy,fun y hy e=>?_,fun y hy e=>?_,fun y hy e=>?_,h6,fun j x i e1 e2=>?_⟩
  · have:=h3 y hy;rw [e] at this;simpa using this
  · have:=h4 y hy;rw [e] at this;simpa using this
  · have:=h5 y hy;rw [e] at this;simpa using this
  · have m:(x,some i) ∈ NY.zip ix:=by
      refine ut (i:=j) ?_
      rw [List.getElem?_zip_eq_some]
      exact ⟨e1,e2⟩
    have:=h7 _ m
    simpa using this
section
variable {X:Cx}
theorem FpOk.of_upd {pins:List (Addr × Obj)} {H:Hp} {b D:Addr} {o:HO} (f:FpOk X pins H b) (h:b ≠ D):FpOk X pins (upd H D o) b:=⟨by rw [aC h];exact f.1,f.2⟩
theorem HOk.track {P:Program} {w:World} {H:Hp} {h:Heap} {a:Addr} {o:HO} (x:HOk P w H h) (hn:H a=none) (new:ObjOk P w (upd H a o) h a o):HOk P w (upd H a o) h:=fun b u e=>by
  by_cases hb:b=a
  · subst hb;rw [aS] at e;cases e;exact new
  · rw [aC hb] at e
    exact (x b u e).stay (fun c v _ q=>q) (fun c q=>by rw [aC (aW q hn)];exact q) fun c xs q=>by rw [aC (aW q hn)];exact q
noncomputable def PTs (Y:Cx) (ifs:List Expr) (t:TT):Prop :=
  ∀ (pins:List (Addr × Obj)) (s:Shared) (σ:St) (H:Hp) (Q:Bool->Hp->Prop),Inv Y pins σ H s->t σ H Q ->
    wpAny (model Y.prog Y.w) Y.A (forIn ifs true fun c r=>if r=true then do let ok <- isTrue c Y.env (eval c Y.env);pure (ForInStep.yield ok) else pure (ForInStep.yield r)) (TP Y pins σ Q) Y.xe s
noncomputable def tYes:TT:=fun _ H Q=>Q true H
theorem p7 {Y:Cx}:PTs Y [] tYes:=fun pins s σ H Q I h=>wpAny_tests_nil ⟨H,I,h⟩
theorem p6 {Y:Cx} {c:Expr} {t:TT} (h:PT Y c t):PTs Y [c] t:=fun pins s σ H Q I q=>wpAny_tests_one (h pins s σ H Q I q)
noncomputable def mh (J:It) (g:TG) (tc:TT) (te:TE) (Z:List V->Hp->Prop) (τ0:St) (H1:Hp):Prop :=
  ∃ W:Nat->Nat->List V->St->Hp->Prop,(∃ m,W 0 m [] τ0 H1)/\∀ i m ys τ H,W i m ys τ H->ys.length < sizeLine /\
    ((J.stop i H/\Z ys H)\/(J.go i H/\∃ N:List V->St->Hp->Prop,(∀ ys' τ' H',N ys' τ' H'->∃ m',m' < m/\W (i+1) m' ys' τ' H')/\∀ x H',J.yld i H x H'->g x τ H' fun τ2 H2=>tc τ2 H2 fun b H3 =>
      if b=true then te τ2 H3 fun y H4=>N (ys ++ [y]) τ2 H4 else N ys τ2 H3))
noncomputable def qW (wi:TI) (g:TG) (tc:TT) (te:TE) (ix:List (Option Nat)):TE:=fun σ H Q =>
  wi σ H fun J H1=>mh J g tc te (fun ys H2=>∀ p,H2 p=none->Q (.ref p) (upd H2 p (.lst ys))) (cap ix σ) H1
theorem lp {NY:List Str} {scope:Scope} {ix:List (Option Nat)} {pins:List (Addr × Obj)} {σ:St} {H:Hp} {s s4:Shared} {fp:List Addr} {C:Addr} (ck:CompOk scope X.N X.env.scope NY ix)
    (I:Inv X pins σ H s) (f:∀ b ∈ fp,FpOk X pins H b) (hC:s.heap.objs.size<=C) (hfp:∀ b ∈ fp,b < s.heap.objs.size) (h4:s4.os=s.os) (hg:s4.gens=s.gens) (keep:∀ b o,s.heap.get? b=some o->s4.heap.get? b=some o)
    (ns:s4.heap.Ns C fun _=>none):Inv (bg X NY scope s H C fp) [] (cap ix σ) H s4:=by
  have fC:FpOk X pins H C:=I.fpOk hC (I.hok.fresh hC)
  have cls:∀ x c,(clo X.env.cells scope.names).lookup x=some c->X.env.cells.lookup x=some c:=fun x c e=>jv e
  have hset:∀ x,(x,NameKind.free) ∈ scope.names->∃ c,X.env.cells.lookup x=some c:=fun x m=>by
    rcases ck.out _ m rfl with q | q
    · exact I.ok.has x (.inl q)
    · exact I.ok.has x (.inr q)
  refine ⟨⟨I.ok.mod,ck.kind,I.ok.glob,I.ok.blt,hC,fun x y c e1 e2=>I.ok.inj x y c (cls x c e1) (cls y c e2),fun x hx=>?_,fun x c e _=>(uz e).elim,fun e=>I.ok.hd e,I.ok.frames,.inl rfl,fun b hb=>⟨uA (uF (hfp b hb) hC),fun x c e=>(f b hb).2.2.2.2.1 x c (cls x c e)⟩,
    I.bs,uT I.ok.bsz I.sz,fun b o e hb=>?_,fun b hb hz=>?_,I.stack,I.stkFree⟩,h4,by rw [hg];exact I.bare,Un.kept keep,⟨_,ns,fun i x v e1 e2 e3=>?_⟩,fun x c e=>?_,fC.1,fun x c e=>I.freeC x c (cls x c e),fun p hp=>absurd (show p ∈ ([]:List (Addr × Obj)) from hp) (by simp),I.hok.kept keep,?_⟩
  · have m:(x,NameKind.free) ∈ scope.names:=gv ck.nocell hx
    obtain ⟨c,e⟩:=hset x m
    exact ⟨c,l7 e m⟩
  · rcases (f b hb).2.2.2.1 with z | z
    · exact I.ok.noex b o e z
    · exact absurd (uF (uk e) (uT I.ok.bsz z)) (Nat.lt_irrefl _)
  · rcases ui.mp (I.stkSub b hz) with e | e
    · exact (f b hb).2.1 e
    · exact (f b hb).2.2.1 e
  · -- a captured name
    have q:∃ k,ix[i]?=some (some k)/\σ[k]?=some (some v):=by
      unfold cap at e2
      rw [ux] at e2
      cases e:ix[i]? with
      | none=>rw [e] at e2;simp at e2
      | some o =>
        rw [e] at e2
        cases o with
        | none=>simp at e2
        | some k =>
          refine ⟨k,rfl,?_⟩
          simp only [uK,Option.some.injEq] at e2
          cases e':σ[k]? with
          | none=>rw [e'] at e2;simp at e2
          | some o'=>rw [e'] at e2;simp at e2;rw [e2]
    obtain ⟨k,ek,ev⟩:=q
    obtain ⟨eN,m⟩:=ck.cap i x k e1 ek
    obtain ⟨mX,hnX,hl⟩:=I.loc
    have hv:Vis X.env.scope x:=by
      rcases ck.out _ m rfl with q | q
      · exact .inr (.inl q)
      · exact .inr (.inr q)
    obtain ⟨u,r,l⟩:=hl k x v eN ev hv
    refine ⟨u,r,.inr ?_⟩
    rcases l with ⟨kl,_⟩ | ⟨_,c,ec,hc⟩
    · exfalso
      rcases ck.out _ m rfl with q | q
      · have:=kl.symm.trans q;cases this
      · have:=kl.symm.trans q;cases this
    · obtain ⟨o,ho,hd⟩:=hc
      exact ⟨eM (ck.fre _ m rfl),c,l7 ec m,o,keep c o ho,hd⟩
  · obtain ⟨v,o,ho,hd⟩:=I.cell x c (cls x c e)
    exact ⟨v,o,keep c o ho,hd⟩
  · show (cap ix σ).length=NY.length
    unfold cap
    rw [uo]
    exact ck.len
set_option tactic.hygienic true in
theorem dC {prog:Program} {w:World} {A:Around} {R:Result->Shared->Prop} {s:Shared} {elt target iter:Expr} {ifs:List Expr} {scope:Scope} {pos:Pos} {it acc:Value} {env:Env} (I:Nat->Shared->Prop)
    (turn:∀ n s,I n s->wpAny (model prog w) A (pyNext it) (fun r s₁=>match r with
      | none=>R (.ok .next) s₁
      | some v=>wpAny (model prog w) A (letOwnedTupleGo target it v) (fun _ s₁'=>wpAny (model prog w) A (assign target env v) (fun _ s₂ =>
          wpAny (model prog w) A (forIn ifs true fun c r=>if r=true then do let ok <- isTrue c env (eval c env);pure (ForInStep.yield ok) else pure (ForInStep.yield r)) (fun ok s₃ =>
            if ok=true then wpAny (model prog w) A (eval elt env) (fun x s₄ =>
              wpAny (model prog w) A (call (.builtin "list.append") [acc,x]) (fun _ s₅=>∃ m,m < n/\I m s₅) (fun _ _=>False) s₄) (fun _ _=>False) s₃
            else ∃ m,m < n/\I m s₃) (fun _ _=>False) s₂) (fun _ _=>False) s₁') (fun _ _=>False) s₁) (fun _ _=>False) s)
    (n:Nat) (h:I n s) :
    codeAny (model prog w) A (.compLoop (.ListComp elt [⟨target,iter,ifs,0⟩] scope pos) 0 it acc env) R s:=by
  refine codeAny_loop rfl I (fun n s hI=>?_) n h
  show wpAny _ A ((compTurn (.ListComp elt [⟨target,iter,ifs,0⟩] scope pos) 0 it acc env).onRaise (fun x=>do noteFrame x env;theTreesLotGoes x)) _ _ s
  refine wpAny_noted ?_
  rw [compTurn_list]
  refine t7 (wpAny_standAt (t7 (wpAny_mono (turn n s hI) (fun r s₁ h₁=>?_) fun _ _ h'=>h'.elim)))
  cases r with
  | none=>exact t8 h₁
  | some v =>
    refine t7 (wpAny_mono h₁ (fun _ s₁' h₁'=>?_) fun _ _ h'=>h'.elim)
    refine t7 (wpAny_mono h₁' (fun _ s₂ h₂=>t7 (wpAny_mono h₂ (fun ok s₃ h₃=>?_) fun _ _ h'=>h'.elim)) fun _ _ h'=>h'.elim)
    cases ok with
    | false=>exact t8 ⟨rfl,h₃⟩
    | true =>
      exact t7 (t7 (wpAny_mono h₃ (fun x s₄ h₄=>t7 (wpAny_mono h₄ (fun _ s₅ h₅=>t8 (t8 ⟨rfl,h₅⟩)) fun _ _ h'=>h'.elim)) fun _ _ h'=>h'.elim))
set_option tactic.hygienic true in
theorem o8 {elt tg iter:Expr} {ifs:List Expr} {NY:List Str} {scope:Scope} {ix:List (Option Nat)} {pos:Pos} {pins:List (Addr × Obj)} {σ:St} {H:Hp} {s:Shared} {fp:List Addr} {it:Addr} {tn:Nat->Heap->Prop} {J:It} {g:TG} {tc:TT} {te:TE} {Z:List V->Hp->Prop} {E:Value->Shared->Prop}
    {RR:Value->Addr->Result->Shared->Prop} (hc:X.calm=true) (ck:CompOk scope X.N X.env.scope NY ix)
    (hg:∀ s H C fp,PG (bg X NY scope s H C fp) tg g) (ht:∀ s H C fp,PTs (bg X NY scope s H C fp) ifs tc) (he:∀ s H C fp,PE (bg X NY scope s H C fp) elt te)
    (I:Inv X pins σ H s) (T:Turn X.prog X.w X.K tg J fp it tn) (st:tn 0 s.heap) (f:∀ b ∈ fp,FpOk X pins H b) (hW:mh J g tc te Z (cap ix σ) H)
    (hRR:∀ D C s' ys H' m,s'.heap.Ns C m->H' D=none->FpOk X pins (upd H' D (.lst ys)) C->Inv X pins σ (upd H' D (.lst ys)) s'->Z ys H'->RR (.ref D) C (.ok .next) s') :
    wpAny (model X.prog X.w) X.A (newList []) (fun acc s₃=>wpAny (model X.prog X.w) X.A (newFunctionEnv scope X.env.globals (clo X.env.cells scope.names) [] X.env.qual none .none (some X.env)) (fun cenv s₄ =>
      codeAny (model X.prog X.w) X.A (.compStart (.ListComp elt [⟨tg,iter,ifs,0⟩] scope pos) 0 (.ref it) acc { cenv with scope:=relabel scope X.env }) (RR acc cenv.locals) s₄) E s₃) E s:=by
  obtain ⟨W,⟨m0,w0⟩,turn⟩:=hW
  refine wpAny_newObj_type (wpAny_newFunctionEnv ck.nocell (by intro y hy;simp at hy) (fun h₁ hns₁ hsb₁=>?_) ck.kind)
  dsimp only at hns₁ hsb₁ ⊢
  generalize hH2:s.heap.push { cls:=.type "list",dict:=none,data:=.seq ([]:List Value).toArray }=H2 at hns₁ hsb₁ ⊢
  have hCs:H2.objs.size=s.heap.objs.size+1:=by rw [<- hH2,uR]
  have hDC:s.heap.objs.size ≠ H2.objs.size:=by rw [hCs];exact uA (Nat.lt_succ_self _)
  have hCle:s.heap.objs.size<=H2.objs.size:=by rw [hCs];exact Nat.le_succ _
  generalize hD:s.heap.objs.size=D at *
  generalize hC:H2.objs.size=C at *
  have below:∀ b o,s.heap.get? b=some o->b < D:=fun b o e=>by rw [<- hD];exact uk e
  have old:∀ b o,s.heap.get? b=some o->h₁.get? b=some o:=fun b o e=>hsb₁.extBut b o (uA (uF (below b o e) hCle)) (uc _ (hH2 ▸ uc _ e))
  have hacc0:H2.get? D=some { cls:=.type "list",dict:=none,data:=.seq ([]:List Value).toArray }:=by
    rw [<- hH2,<- hD];exact um _ rfl
  have hacc:h₁.PlainList D #[]:=⟨_,hsb₁.extBut _ _ hDC (uc _ hacc0)⟩
  have hfp:∀ b ∈ fp,b < s.heap.objs.size:=fun b hb=>by
    obtain ⟨o,e,_⟩:=T.obj 0 _ st b hb
    exact uk e
  have hfpD:∀ b ∈ fp,b < D:=fun b hb=>by rw [<- hD];exact hfp b hb
  have IY:Inv (bg X NY scope s H C fp) [] (cap ix σ) H { s with heap:=h₁,toks:=s.toks+([]:List (Str × Value)).length } :=
    lp ck I f (by rw [hD];exact hCle) hfp rfl rfl old hns₁
  have HDn:H D=none:=I.hok.fresh (by rw [hD];exact uy _)
  have stackLt:∀ b ∈ frs X.stack,b < D:=fun b hb=>by
    obtain ⟨_,o,ho,_⟩:=I.stack.mem hb
    exact below b o ho
  have loop:∀ s₃:Shared,s₃ = { s with heap:=h₁,toks:=s.toks+([]:List (Str × Value)).length } ->
      codeAny (model X.prog X.w) X.A (.compLoop (.ListComp elt [⟨tg,iter,ifs,0⟩] scope pos) 0 (.ref it) (.ref D) (bg X NY scope s H C fp).env) (RR (.ref D) C) s₃:=by
    rintro s₃ rfl
    refine dC (fun n s'=>∃ i ys τ H' its,Inv (bg X NY scope s H C fp) [] τ H' s'/\H' D=none/\s'.heap.PlainList D its/\Vals ys its.toList/\tn i s'.heap/\(∀ b ∈ fp,H' b=none)/\W i n ys τ H') ?_ m0
      ⟨0,[],cap ix σ,H,#[],IY,HDn,hacc,.nil,T.keep _ _ _ st fun b _ o e=>old b o e,fun b hb=>(f b hb).1,w0⟩
    rintro n s3 ⟨i,ys,τ,H3,its,I3,d3,l3,v3,st3,fr3,w3⟩
    obtain ⟨nl,e3⟩:=id l3
    have I3p:Inv (bg X NY scope s H C fp) [(D,{ cls:=.type "list",data:=.seq its nl })] τ H3 s3:=I3.pins_of fun p hp=>by
      have e:p=(D,{ cls:=.type "list",data:=.seq its nl }):=by simpa using hp
      subst e
      exact ⟨e3,d3,hDC,fun z=>Nat.lt_irrefl _ (stackLt D z),fun v z=>by cases z⟩
    have fpo:∀ {H':Hp} {pl:List (Addr × Obj)},(∀ b ∈ fp,H' b=none)->(∀ p ∈ pl,p.1=D)->∀ b ∈ fp,FpOk (bg X NY scope s H C fp) pl H' b:=fun hn hp b hb =>
      ⟨hn b hb,uA (uF (hfpD b hb) hCle),fun z=>by
        rcases ui.mp (I.stkSub b z) with e | e
        · exact (f b hb).2.1 e
        · exact (f b hb).2.2.1 e,.inl hb,fun x c e=>(f b hb).2.2.2.2.1 x c (jv e),fun p hp'=>by
        have e:p.1=D:=hp p ((ul.mp hp').elim (fun z=>absurd (show p ∈ ([]:List (Addr × Obj)) from z) (by simp)) fun z=>z)
        rw [e]
        exact Nat.ne_of_gt (hfpD b hb)⟩
    obtain ⟨zl,step⟩:=turn i n ys τ H3 w3
    have single:∀ p ∈ [(D,({ cls:=.type "list",data:=.seq its nl }:Obj))],p.1=D:=fun p hp=>by
      have e:p=(D,{ cls:=.type "list",data:=.seq its nl }):=by simpa using hp
      rw [e]
    rcases step with ⟨stop,qn⟩ | ⟨go,N,hN,step⟩
    · refine wpAny_mono (T.done (bg X NY scope s H C fp) rfl rfl rfl hc i _ s3 τ H3 (fun _ _=>False) I3p (fpo fr3 single) st3 stop) (fun r s4 ⟨hr,I4⟩=>?_) fun _ _ e=>e
      subst hr
      obtain ⟨mC,hnC,_⟩:=id I4.loc
      obtain ⟨e4,d4,_⟩:=I4.pin (D,{ cls:=.type "list",data:=.seq its nl }) (by simp [bg])
      have lt4:∀ b o,s.heap.get? b=some o->b ≠ D:=fun b o e=>uA (below b o e)
      have u4:=I4.base
      refine hRR D C s4 ys H3 mC hnC d4 ?_ ?_ qn
      · exact (I.fpOk (by rw [hD];exact hCle) (by exact I4.free)).of_upd (Ne.symm hDC)
      · refine I.call' (ch:=fp) I4.os (H':=upd H3 D (.lst ys)) ⟨u4.keep,u4.slot,fun b o e n hx=>?_,u4.there,fun b xs e=>?_,fun b o u e=>?_,fun b ps e=>?_⟩ ?_ I4.bare fun b hb=>?_
        · rw [aC (lt4 b o e)];exact u4.free b o e n hx
        · have q:=u4.tups b xs e;rw [aC (aW q d4)];exact q
        · have q:=u4.frzs b o u e;rw [aC (aW q d4)];exact q
        · obtain ⟨more,q⟩:=u4.tbls b ps e;exact ⟨more,by rw [aC (aW q d4)];exact q⟩
        · exact I4.hok.track d4 ⟨Nat.le_of_lt zl,its.toList,nl,v3,by simpa using e4⟩
        · exact ⟨(f b hb).2.2.2.1,(f b hb).2.1,(f b hb).2.2.2.2.1,(f b hb).2.2.2.2.2⟩
    · refine wpAny_mono (T.item (bg X NY scope s H C fp) rfl rfl rfl hc i _ s3 τ H3 (fun _ _=>False) I3p (fpo fr3 single) st3 go) (fun r s4 ⟨u,hr,h4⟩=>?_) fun _ _ e=>e
      subst hr
      refine wpAny_mono h4 (fun _ s5 ⟨x,H5,I5,r5,y5,st5,fr5⟩=>?_) fun _ _ e=>e
      have I5':=I5.pinned (fpo fr5 single) (T.obj _ _ st5)
      refine wpAny_mono (hg s H C fp _ s5 τ H5 x u _ I5' r5 (step x H5 y5)) (fun _ s6 ⟨τ6,H6,I6,q6⟩=>?_) fun _ _ e=>e
      refine wpAny_mono (ht s H C fp _ s6 τ6 H6 _ I6 q6) (fun b s7 ⟨H7,I7,q7⟩=>?_) fun _ _ e=>e
      have after:∀ {s':Shared} {H':Hp},Inv (bg X NY scope s H C fp) ([(D,{ cls:=.type "list",data:=.seq its nl })] ++ gz fp s5.heap) τ6 H' s'->tn (i+1) s'.heap/\(∀ b ∈ fp,H' b=none)/\H' D=none/\s'.heap.PlainList D its:=fun {s' H'} I' =>
        ⟨T.keep _ _ _ st5 fun b hb o e=>(I'.pin (b,o) (uh _ (uh _ (c3 hb e)))).1,fun b hb=>by
          obtain ⟨o,e,d⟩:=T.obj _ _ st5 b hb
          exact (I'.pin (b,o) (uh _ (uh _ (c3 hb e)))).2.1,(I'.pin (D,_) (uh _ (ug _ (uM.mpr rfl)))).2.1,
          nl,(I'.pin (D,_) (uh _ (ug _ (uM.mpr rfl)))).1⟩
      cases b with
      | false =>
        rw [if_neg uz]
        rw [if_neg uz] at q7
        obtain ⟨m',hm,w7⟩:=hN _ _ _ q7
        obtain ⟨a1,a2,a3,a4⟩:=after I7
        exact ⟨m',hm,i+1,ys,τ6,H7,its,I7.pins_of (fun _ z=>absurd z (by simp)),a3,a4,v3,a1,a2,w7⟩
      | true =>
        rw [if_pos rfl]
        rw [if_pos rfl] at q7
        refine wpAny_mono (he s H C fp _ s7 τ6 H7 _ I7 q7) (fun y s8 ⟨yv,H8,I8,r8,n8⟩=>?_) fun _ _ e=>e
        obtain ⟨m',hm,w8⟩:=hN _ _ _ n8
        obtain ⟨a1,a2,a3,a4⟩:=after I8
        have hsz0:ys.length=its.size:=by simpa using v3.length
        have hsz:its.size<=sizeLine:=by omega
        refine wpAny_list_append_plain (hsz:=hsz) a4 fun h9 l9 sb9=>?_
        have I9:Inv (bg X NY scope s H C fp) [] τ6 H8 { s8 with heap:=h9,toks:=s8.toks }:=(I8.pins_of (pins':=[]) fun _ z=>absurd z (by simp)).turned (it:=D) (fun b o hb e=>(sb9.2 b hb).trans e) a3 hDC (.inr (by show s.heap.objs.size<=D;rw [hD];exact uy _)) (fun x c e z=>?_) fun p z=>absurd (show p ∈ ([]:List (Addr × Obj)) from z) (by simp)
        · refine ⟨m',hm,i+1,ys ++ [yv],τ6,H8,its.push y,I9,a3,l9,?_,T.keep _ _ _ a1 fun b hb o e=>(sb9.2 b (uA (hfpD b hb))).trans e,a2,w8⟩
          rw [Array.toList_push]
          exact v3.append (.cons r8 .nil)
        · obtain ⟨v,o,ho,_⟩:=I.cell x c (jv e)
          exact Nat.lt_irrefl _ (z ▸ below c o ho)
  exact codeAny_compStart_list (loop _ rfl) (T.self X.A 0 _ _ _ (T.keep _ _ _ st fun b _ o e=>old b o e) (loop _ rfl))
theorem qf {elt tg iter:Expr} {ifs:List Expr} {scope:Scope} {pos:Pos} {wi:TI} {g:TG} {tc:TT} {te:TE} (NY:List Str) (ix:List (Option Nat)) (hc:X.calm=true) (hi:PI X tg iter wi)
    (hg:∀ s H C fp,PG (bg X NY scope s H C fp) tg g) (ht:∀ s H C fp,PTs (bg X NY scope s H C fp) ifs tc) (he:∀ s H C fp,PE (bg X NY scope s H C fp) elt te)
    (ck:ju scope X.N X.env.scope NY ix=true) (hs:∀ x,foldedSetIterable iter X.env x=pure x:=by intro _;rfl):PE X (.ListComp elt [⟨tg,iter,ifs,0⟩] scope pos) (qW wi g tc te ix):=by
  intro pins s σ H Q I h
  have ck:=CompOk.of ck
  rw [eval_ListComp]
  refine wpAny_comprehension_free (use:=none) rfl hs (gQ (scope:=scope) (env:=X.env) fun x m e=>?_) ck.kind ck.loc (thn (hi pins s σ H _ I h) fun v s1 h1=>thn h1 fun itv s2 h2=>?_)
  · rcases ck.out x m e with q | q
    · exact I.ok.has x.1 (.inl q)
    · exact I.ok.has x.1 (.inr q)
  · obtain ⟨it,fp,tn,J,H2,e,I2,T,st2,f2,hW⟩:=h2
    subst e
    refine o8 (RR:=fun acc C=>compPost (model X.prog X.w) X.A X.xe none (EP X pins σ Q) acc C) hc ck hg ht he I2 T st2 f2 hW ?_
    intro D C s' ys H' m hn hD fC I' hZ
    obtain ⟨f0,f1,f2,f3,f4,f5⟩:=fC
    exact ⟨m,hn,fun h' sb=>⟨.ref D,_,I'.turned (t':=s'.toks) (fun b o hb e=>(sb.2 b hb).trans e) f0 f1 f3 f4 f5,rfl,hZ D hD⟩⟩
end
end L2
end
section
namespace L2
open PySem PySem.Spec PyProof.Rows
section
variable {X:Cx}
inductive KindOf (K:FG) (H:Hp):V->String->Prop
  | int (i:Int):KindOf K H (.int i) "int"
  | bool (b:Bool):KindOf K H (.bl b) "bool"
  | str (x:Str):KindOf K H (.str x) "str"
  | non:KindOf K H .non "NoneType"
  | tuple {a:Addr} {xs:List V}:SqT K H a xs->KindOf K H (.ref a) "tuple"
  | list {a:Addr} {xs:List V}:SqL K H a xs->KindOf K H (.ref a) "list"
  | dK {a:Addr} {kvs}:H a=some (.dK kvs)->KindOf K H (.ref a) "dict"
  | dT {a:Addr} {kvs}:H a=some (.dT kvs)->KindOf K H (.ref a) "dict"
noncomputable def kB (k t:String):Bool:=k == t || (k == "bool" && t == "int")
theorem Inv.clsK {pins:List (Addr × Obj)} {s:Shared} {σ:St} {H:Hp} {a:Addr} {k:String} (I:Inv X pins σ H s) (h:KindOf X.K H (.ref a) k):∃ o,s.heap.get? a=some o/\o.cls=.type k:=by
  cases h with
  | tuple h=>obtain ⟨its,_,⟨o,e,c,_⟩,_⟩:=I.tuple h;exact ⟨o,e,c⟩
  | list h=>obtain ⟨its,_,⟨o,n,e,c,_⟩,_⟩:=I.list h;exact ⟨o,e,c⟩
  | dK h=>obtain ⟨_,_,_,_,o,_,_,e,c,_⟩:=I.hok a _ h;exact ⟨o,e,c.1⟩
  | dT h=>obtain ⟨_,_,_,_,o,_,_,e,c,_⟩:=I.hok a _ h;exact ⟨o,e,c.1⟩
theorem eV:CallR X (.builtin "isinstance") (fun xs H Q=>∃ x k,xs=[x,.ty "int"]/\KindOf X.K H x k/\Q (.bl (kB k "int")) H):=by
  intro pins s σ H xs us Q I r h
  obtain ⟨x,k,rfl,hk,q⟩:=h
  obtain ⟨u,v,rfl,ru,rv⟩:=jG r
  cases (show v=Value.type "int" from rv)
  cases hk with
  | int i=>obtain ⟨tk,rfl⟩:=ru;exact IsiPair.int_int ⟨.bl true,H,I,rfl,q⟩
  | bool b=>cases (show u=Value.bool b from ru);exact IsiPair.bool_int ⟨.bl true,H,I,rfl,q⟩
  | str z=>obtain ⟨tk,rfl⟩:=ru;exact IsiPair.str_int ⟨.bl false,H,I.tok _,rfl,q⟩
  | non=>cases (show u=Value.none from ru);exact IsiPair.NoneType_int ⟨.bl false,H,I.tok _,rfl,q⟩
  | tuple hh=>cases ru;obtain ⟨o,e,c⟩:=I.clsK (.tuple hh);exact IsiPair.tuple_int e c ⟨.bl false,H,I.tok _,rfl,q⟩
  | list hh=>cases ru;obtain ⟨o,e,c⟩:=I.clsK (.list hh);exact IsiPair.list_int e c ⟨.bl false,H,I.tok _,rfl,q⟩
  | dK hh=>cases ru;obtain ⟨o,e,c⟩:=I.clsK (.dK hh);exact IsiPair.dict_int e c ⟨.bl false,H,I.tok _,rfl,q⟩
  | dT hh=>cases ru;obtain ⟨o,e,c⟩:=I.clsK (.dT hh);exact IsiPair.dict_int e c ⟨.bl false,H,I.tok _,rfl,q⟩
theorem dU:CallR X (.builtin "isinstance") (fun xs H Q=>∃ x k,xs=[x,.ty "bool"]/\KindOf X.K H x k/\Q (.bl (kB k "bool")) H):=by
  intro pins s σ H xs us Q I r h
  obtain ⟨x,k,rfl,hk,q⟩:=h
  obtain ⟨u,v,rfl,ru,rv⟩:=jG r
  cases (show v=Value.type "bool" from rv)
  cases hk with
  | int i=>obtain ⟨tk,rfl⟩:=ru;exact IsiPair.int_bool ⟨.bl false,H,I.tok _,rfl,q⟩
  | bool b=>cases (show u=Value.bool b from ru);exact IsiPair.bool_bool ⟨.bl true,H,I,rfl,q⟩
  | str z=>obtain ⟨tk,rfl⟩:=ru;exact IsiPair.str_bool ⟨.bl false,H,I.tok _,rfl,q⟩
  | non=>cases (show u=Value.none from ru);exact IsiPair.NoneType_bool ⟨.bl false,H,I.tok _,rfl,q⟩
  | tuple hh=>cases ru;obtain ⟨o,e,c⟩:=I.clsK (.tuple hh);exact IsiPair.tuple_bool e c ⟨.bl false,H,I.tok _,rfl,q⟩
  | list hh=>cases ru;obtain ⟨o,e,c⟩:=I.clsK (.list hh);exact IsiPair.list_bool e c ⟨.bl false,H,I.tok _,rfl,q⟩
  | dK hh=>cases ru;obtain ⟨o,e,c⟩:=I.clsK (.dK hh);exact IsiPair.dict_bool e c ⟨.bl false,H,I.tok _,rfl,q⟩
  | dT hh=>cases ru;obtain ⟨o,e,c⟩:=I.clsK (.dT hh);exact IsiPair.dict_bool e c ⟨.bl false,H,I.tok _,rfl,q⟩
theorem bO:CallR X (.builtin "isinstance") (fun xs H Q=>∃ x k,xs=[x,.ty "tuple"]/\KindOf X.K H x k/\Q (.bl (kB k "tuple")) H):=by
  intro pins s σ H xs us Q I r h
  obtain ⟨x,k,rfl,hk,q⟩:=h
  obtain ⟨u,v,rfl,ru,rv⟩:=jG r
  cases (show v=Value.type "tuple" from rv)
  cases hk with
  | int i=>obtain ⟨tk,rfl⟩:=ru;exact IsiPair.int_tuple ⟨.bl false,H,I.tok _,rfl,q⟩
  | bool b=>cases (show u=Value.bool b from ru);exact IsiPair.bool_tuple ⟨.bl false,H,I.tok _,rfl,q⟩
  | str z=>obtain ⟨tk,rfl⟩:=ru;exact IsiPair.str_tuple ⟨.bl false,H,I.tok _,rfl,q⟩
  | non=>cases (show u=Value.none from ru);exact IsiPair.NoneType_tuple ⟨.bl false,H,I.tok _,rfl,q⟩
  | tuple hh=>cases ru;obtain ⟨o,e,c⟩:=I.clsK (.tuple hh);exact IsiPair.tuple_tuple e c ⟨.bl true,H,I,rfl,q⟩
  | list hh=>cases ru;obtain ⟨o,e,c⟩:=I.clsK (.list hh);exact IsiPair.list_tuple e c ⟨.bl false,H,I.tok _,rfl,q⟩
  | dK hh=>cases ru;obtain ⟨o,e,c⟩:=I.clsK (.dK hh);exact IsiPair.dict_tuple e c ⟨.bl false,H,I.tok _,rfl,q⟩
  | dT hh=>cases ru;obtain ⟨o,e,c⟩:=I.clsK (.dT hh);exact IsiPair.dict_tuple e c ⟨.bl false,H,I.tok _,rfl,q⟩
theorem nk {bs:List Bool}:((List.range bs.length).all fun i=>bs.getD i false)=bs.all id:=by
  rw [Bool.eq_iff_iff]
  simp only [List.all_eq_true,List.mem_range,id]
  constructor
  · intro h b hb
    obtain ⟨i,hi,rfl⟩:=List.mem_iff_getElem.mp hb
    simpa [List.getD,hi] using h i hi
  · intro h i hi
    simpa [List.getD,hi] using h _ (List.getElem_mem hi)
theorem gR (hc:X.calm=true):CallR X (.builtin "all") (fun xs H Q=>∃ (a:Addr) (bs:List Bool),xs=[.ref a]/\SqL X.K H a (bs.map V.bl)/\Q (.bl (bs.all id)) H):=by
  intro pins s σ H xs us Q I r h
  obtain ⟨a,bs,rfl,hq,q⟩:=h
  obtain ⟨u,rfl,ru⟩:=eC r
  cases ru
  obtain ⟨its,rv,p,hz⟩:=I.list hq
  have hl:=rv.length
  rw [uo] at hl
  have hlt:a < s.heap.objs.size:=by obtain ⟨o,_,e,_⟩:=id p;exact uk e
  refine call_all_walk (wpAny_pyIter_list p.isList ?_)
  refine ⟨s.heap.objs.size,_,_,_,_,_,fun i=>bs.getD i false,rfl,Walks.list (show X.A.in1.handled=none from I.ok.hd hc) s.heap.objs.size a (uA hlt) its.toArray,⟨⟨_,um _ rfl,rfl,rfl⟩,p.isList.at fun o e=>uc _ e⟩,?_,?_⟩
  · intro i v s' Q' E' hv hQ'
    have hv':its[i]?=some v:=by simpa using hv
    have hi:i < bs.length:=by
      have:=(uq.mp hv').1
      omega
    obtain ⟨u,hu,ru⟩:=rv.get (i:=i) (x:=V.bl (bs[i])) (by simp [hi])
    rw [hv'] at hu
    cases hu
    cases (show v=Value.bool bs[i] from ru)
    refine uS ?_
    have e:bs.getD i false=bs[i]:=by simp [List.getD,hi]
    have hQ2:Q' (bs.getD i false) s':=hQ'
    rw [e] at hQ2
    exact hQ2
  · intro h' tk hk
    have I1:Inv X pins σ H { s with heap:=h',toks:=tk }:=I.kept fun b o e=>hk b o (by
      intro hm
      have e':b=s.heap.objs.size:=by simpa using hm
      exact absurd (e' ▸ uk e) (Nat.lt_irrefl _)) (uc _ e)
    refine ⟨.bl (bs.all id),H,I1,?_,q⟩
    show Value.bool _=Value.bool _
    rw [uB,<- hl,nk]
end
end L2
end
section
namespace L2
open PySem PySem.Spec PyProof.Rows
structure Callee (P:Program) (w:World) (K:FG) (mg:Str->Option Value) (base:Heap) (x:Str) (k:Nat) (ps:List Str) (sp:Sp):Prop where
  ex:∃ (f:Addr) (fd:FuncData),FnOk P w K mg base CX0 k f fd ps sp/\mg x=some (.ref f)/\PySem.W.keepIn K (.ref f)=true/\Binds K fd ps []
structure DefAt (K:FG) (mg:Str->Option Value) (x:Str) (st:Stmt) (f:Addr) (fd:FuncData):Prop where
  fn:Fun K x x st f fd
  mg:mg x=some (.ref f)
noncomputable def Def (K:FG) (mg:Str->Option Value) (x:Str) (st:Stmt):Prop:=∃ f fd,DefAt K mg x st f fd
theorem Def.callee {P:Program} {w:World} {K:FG} {mg:Str->Option Value} {base:Heap} {x:Str} {st:Stmt} {k:Nat} {ps:List Str} {sp:Sp} (D:Def K mg x st)
    (hb:∀ (kV doc pm:Value) (an:Option Addr) (cdv ct:Value) (us:List Value),us.length=ps.length->bindArgs (PySem.W.fnOf x x (aY st) (aN st) (ah st) .none kV doc pm an cdv ct) ⟨us,[]⟩=pure (ps.zip us))
    (h:∀ f fd,Fun K x x st f fd->FnOk P w K mg base CX0 k f fd ps sp):Callee P w K mg base x k ps sp :=
  let ⟨f,fd,d⟩:=D
  ⟨f,fd,h f fd d.fn,d.mg,d.fn.kp,d.fn.binds hb⟩
section
variable {X:Cx} {x:Str} {p pos:Pos} {e:Expr} {es:List Expr} {t:TA} {k:Nat} {ps:List Str} {sp:Sp}
noncomputable def tFn (sp:Sp) (t:TA):TE:=fun σ H Q=>t σ H fun vs H1=>sp vs H1 Q E0
theorem pe_fn (c:Callee X.prog X.w X.K X.mg X.base x k ps sp) (hr:Room k X.A) (ha:PA X (e :: es) t) (hg:Gl X x:=by rfl) (hdb:(x == ("__debug__":Str))=false:=by decide)
    (he:starEach (e :: es) X.env=(false,eval e X.env) :: starEach es X.env:=by rfl) (hpl:(backTo pos (starEach es X.env)).any (·.1)=false:=by rfl):PE X (.Call (.Name x p) (e :: es) [] pos) (tFn sp t):=by
  obtain ⟨f,fd,F,hm,hk,hb⟩:=c.ex
  have h:=qh (pos:=pos) (p:=p) (dvs:=[]) (E:=E0) F hr hg hm hk hb .nil pass0 ha hdb he hpl
  intro pins s σ H Q I q
  refine h pins s σ H Q I ?_
  show t σ H fun vs H1=>sp (vs ++ []) H1 Q E0
  have q':t σ H (fun vs H1=>sp vs H1 Q E0):=q
  simpa using q'
end
noncomputable def But (p:Addr) (H H':Hp):Prop:=∀ b o,H b=some o->b ≠ p->H' b=some o
theorem But.trans {p:Addr} {H H1 H2:Hp} (a:But p H H1) (b:But p H1 H2):But p H H2:=fun c o h n=>b c o (a c o h n) n
noncomputable abbrev Pt:=Int × Int
noncomputable def bendI (p q r:Pt):Int:=(q.1 - p.1) * (r.2 - p.2) - (q.2 - p.2) * (r.1 - p.1)
theorem Paired.take {α β:Type} {F:α->β->Prop}:∀ {l:List α} {m:List β} (n:Nat),Paired F l m->Paired F (l.take n) (m.take n)
  | _,_,0,_=>by simpa using Paired.nil
  | _,_,_+1,.nil=>by simpa using Paired.nil
  | _,_,n+1,.cons r t=>by simpa using Paired.cons r (Paired.take n t)
noncomputable def q8:List Pt->List (Pt × Pt)
  | []=>[]
  | p :: r=>r.map (fun q=>(p,q)) ++ q8 r
noncomputable def above (ps:List Pt) (x y:Int):Nat:=((q8 ps).filter fun pr=>decide (bendI pr.1 pr.2 (x,y)<=0)).length
section InBlock
variable {X:Cx} {NY:List Str} {scope:Scope} {s:Shared} {H:Hp} {C:Addr} {fp:List Addr}
end InBlock
end L2
end
section
namespace L2
open PySem PySem.Spec PyProof.Rows
mutual
inductive DV (K:FG) (H:Hp):V->PyData->Prop
  | non:DV K H .non .none
  | bl (b:Bool):DV K H (.bl b) (.bool b)
  | int (i:Int):DV K H (.int i) (.int i)
  | str (x:Str):DV K H (.str x) (.str x)
  | tup {a:Addr} {xs:List V} {ds:List PyData}:SqT K H a xs->DVs K H xs ds->DV K H (.ref a) (.tuple ds)
  | lst {a:Addr} {xs:List V} {ds:List PyData}:SqL K H a xs->DVs K H xs ds->DV K H (.ref a) (.list ds)
inductive DVs (K:FG) (H:Hp):List V->List PyData->Prop
  | nil:DVs K H [] []
  | cons {x:V} {d:PyData} {xs:List V} {ds:List PyData}:DV K H x d->DVs K H xs ds->DVs K H (x :: xs) (d :: ds)
end
section
variable {X:Cx} {pins:List (Addr × Obj)} {σ:St} {H:Hp} {s:Shared}
mutual
theorem DV.reads (I:Inv X pins σ H s):∀ {v:V} {d:PyData} {u:Value},DV X.K H v d->RelV v u->∃ as,Reads s.heap u d as
  | _,_,u,.non,r=>by cases (show u=Value.none from r);exact ⟨_,.none⟩
  | _,_,u,.bl b,r=>by cases (show u=Value.bool b from r);exact ⟨_,.bool b⟩
  | _,_,u,.int i,r=>by obtain ⟨t,rfl⟩:=r;exact ⟨_,.int i t⟩
  | _,_,u,.str x,r=>by obtain ⟨t,rfl⟩:=r;exact ⟨_,.str x t⟩
  | _,_,u,.tup (a:=a) h rs,r=>by
    cases (show u=Value.ref a from r)
    obtain ⟨its,rv,⟨o,e,c,n,d⟩,_⟩:=I.tuple h
    obtain ⟨as,q⟩:=DVs.reads I rs rv
    exact ⟨_,.tuple e c d (by simpa using q)⟩
  | _,_,u,.lst (a:=a) h rs,r=>by
    cases (show u=Value.ref a from r)
    obtain ⟨its,rv,⟨o,n,e,c,_,d⟩,_⟩:=I.list h
    obtain ⟨as,q⟩:=DVs.reads I rs rv
    exact ⟨_,.list e c d (by simpa using q)⟩
theorem DVs.reads (I:Inv X pins σ H s):∀ {v:List V} {d:List PyData} {us:List Value},DVs X.K H v d->Vals v us->∃ as,ReadsAll s.heap us d as
  | _,_,_,.nil,.nil=>⟨_,.nil⟩
  | _,_,_,.cons h r,.cons q t=>by
    obtain ⟨as,e1⟩:=DV.reads I h q
    obtain ⟨bs,e2⟩:=DVs.reads I r t
    exact ⟨_,.cons e1 e2⟩
end
end
end L2
end
section
namespace L2
open PySem PySem.Spec PyProof.Rows
end L2
end
section
namespace L2
open PySem PySem.Spec PyProof.Rows
end L2
end
section
namespace L2
open PySem PySem.Spec PyProof.Rows
end L2
end
section
namespace L2
open PySem PySem.Spec PyProof.Rows
end L2
end
section
namespace L2
open PySem PySem.Spec PyProof.Rows
section
variable {X:Cx}
theorem eT {ns:List Int} {us:List Value} (r:Vals (ns.map V.int) us):∃ xs:Array (Int × Tok),us.toArray=intItems xs/\ns=xs.toList.map (·.1):=by
  induction ns generalizing us with
  | nil=>cases r;exact ⟨#[],by simp [intItems],rfl⟩
  | cons n ns ih =>
    cases r with
    | cons q t =>
      obtain ⟨k,rfl⟩:=q
      obtain ⟨xs,e1,e2⟩:=ih t
      refine ⟨((n,k) :: xs.toList).toArray,?_,by simp [e2]⟩
      have e3:=congrArg Array.toList e1
      simp only [intItems,List.toList_toArray,Array.toList_map] at e3
      simp [intItems,e3]
theorem cP {xs:Array (Int × Tok)} {i:Nat} (h:i < xs.size):numAt xs i ∈ xs.toList.map (·.1):=by
  have e:(xs.toList.map (·.1))[i]?=some (numAt xs i):=by simp [numAt,h]
  exact ut e
theorem cQ {xs:Array (Int × Tok)} {n:Int} (h:n ∈ xs.toList.map (·.1)):∃ i,i < xs.size/\numAt xs i=n:=by
  obtain ⟨i,hi,e⟩:=List.mem_iff_getElem.mp h
  have hi':i < xs.size:=by simpa using hi
  refine ⟨i,hi',?_⟩
  rw [<- e]
  simp [numAt,hi']
theorem m9 (hc:X.calm=true):CallR X (.builtin "max") (fun xs H Q=>∃ (l:Addr) (ns:List Int),xs=[.ref l]/\SqL X.K H l (ns.map V.int)/\ns ≠ []/\∀ m,m ∈ ns->(∀ n ∈ ns,n<=m)->Q (.int m) H):=by
  intro pins s σ H xs us Q I r h
  obtain ⟨l,ns,rfl,hl,hn,q⟩:=h
  obtain ⟨u,rfl,ru⟩:=eC r
  cases (show u=Value.ref l from ru)
  obtain ⟨its,rv,p,hz⟩:=I.list hl
  obtain ⟨ys,e1,e2⟩:=eT rv
  have hs:0 < ys.size:=by
    have:=List.length_pos_iff.mpr hn
    rw [e2] at this
    simpa using this
  have pl:=p.isList
  rw [e1] at pl
  refine max_intList (I.ok.hd hc) pl hs fun v h' tk hv hk=>?_
  obtain ⟨t,rfl⟩:=intItems_at hv
  obtain ⟨b1,b2⟩:=argBest_gt (numAt ys) (ys.size - 1)
  refine ⟨.int _,H,I.kept hk,⟨t,rfl⟩,q _ (by rw [e2];exact cP (by omega)) fun n hm=>?_⟩
  rw [e2] at hm
  obtain ⟨i,hi,rfl⟩:=cQ hm
  exact b2 i (by omega)
theorem m5 (hc:X.calm=true):CallR X (.builtin "min") (fun xs H Q=>∃ (l:Addr) (ns:List Int),xs=[.ref l]/\SqL X.K H l (ns.map V.int)/\ns ≠ []/\∀ m,m ∈ ns->(∀ n ∈ ns,m<=n)->Q (.int m) H):=by
  intro pins s σ H xs us Q I r h
  obtain ⟨l,ns,rfl,hl,hn,q⟩:=h
  obtain ⟨u,rfl,ru⟩:=eC r
  cases (show u=Value.ref l from ru)
  obtain ⟨its,rv,p,hz⟩:=I.list hl
  obtain ⟨ys,e1,e2⟩:=eT rv
  have hs:0 < ys.size:=by
    have:=List.length_pos_iff.mpr hn
    rw [e2] at this
    simpa using this
  have pl:=p.isList
  rw [e1] at pl
  refine min_intList (I.ok.hd hc) pl hs fun v h' tk hv hk=>?_
  obtain ⟨t,rfl⟩:=intItems_at hv
  obtain ⟨b1,b2⟩:=argBest_lt (numAt ys) (ys.size - 1)
  refine ⟨.int _,H,I.kept hk,⟨t,rfl⟩,q _ (by rw [e2];exact cP (by omega)) fun n hm=>?_⟩
  rw [e2] at hm
  obtain ⟨i,hi,rfl⟩:=cQ hm
  exact b2 i (by omega)
end
end L2
end
section
namespace L2
open PySem PySem.Spec PyProof.Rows
noncomputable def rE (b:Option (Int × Tok)):Array Value:=match b with | none=>#[] | some p=>#[.int p.1 p.2,.int p.1 p.2]
noncomputable def jB (xs:Array (Int × Tok)) (j:Nat) (b:Option (Int × Tok)):Prop:=match b with
  | none=>j=0
  | some p=>(∃ i,i < j/\numAt xs i=p.1)/\∀ i,i < j->numAt xs i<=p.1
section
variable {prog:Program} {w:World} {A:Around} {R:Result->Shared->Prop}
theorem mI (hh:A.handled=none) {I l S:Addr} (hIl:l ≠ I) (hSI:S ≠ I) (hSl:S ≠ l) (xs:Array (Int × Tok)) (d:Value):∀ (k j:Nat) (s:Shared) (b:Option (Int × Tok)) (c:Nat),xs.size - j=k->j<=xs.size->s.heap.IsListIter I l j->s.heap.IsList l (intItems xs) ->
    s.heap.get? S=some { cls:=.type "list",dict:=none,data:=.seq (rE b) c,slots:=#[] }->jB xs j b ->
    (∀ v h' tk,((xs.size=0/\v=d)\/∃ p:Int × Tok,v=.int p.1 p.2/\jB xs xs.size (some p))->(∀ a o,a ≠ I->a ≠ S->s.heap.get? a=some o->h'.get? a=some o)->R (.ok (.ret v)) { s with heap:=h',toks:=tk }) ->
    codeAny (model prog w) A (.builtin "max.loop" ⟨[.ref I,.none,.ref S],[("default",d)]⟩) R s:=by
  have nm:(toString "max" ++ toString ".loop":String) = "max.loop":=by decide
  intro k
  induction k with
  | zero =>
    intro j s b c hk hj hit hl hS hb fin
    obtain rfl:j=xs.size:=by omega
    refine codeAny_builtin F.entry_max_loop ?_
    rw [Around.under_plainId F.plain_max_loop _]
    show wpAny _ A.in1 (seqItems? (.ref S) >>= _) _ _ s
    refine t7 (wpAny_seqItems hS rfl ?_)
    show wpAny _ A.in1 (tryCatch (pyNext (.ref I)) _ >>= _) _ _ s
    refine t7 (wpAny_tryCatch (wpAny_pyNext_list_end (show A.in1.handled=none from hh) hit hl (by simp [intItems]) fun h' eb=>?_))
    cases b with
    | none =>
      have h0:xs.size=0:=hb
      show wpAny _ A.in1 (rule _ >>= fun _=>ret d) _ _ _
      exact t7 (wpAny_rule (t8 (fin d h' s.toks (.inl ⟨h0,rfl⟩) fun a o ha _ e=>eb a o ha e)))
    | some p =>
      have hS':=eb S _ hSI hS
      show wpAny _ A.in1 (updateSeq S (fun _=>#[]) >>= _) _ _ _
      refine t7 (wpAny_updateSeq hS' rfl (t7 (wpAny_letGo (t8 ?_))) (hz:=by show 2<=sizeLine;decide))
      exact fin _ _ s.toks (.inr ⟨p,rfl,hb⟩) fun a o ha hs e=>(uQ _ _ (Ne.symm hs)).trans (eb a o ha e)
  | succ k ih =>
    intro j s b c hk hj hit hl hS hb fin
    have hlt:j < xs.size:=by omega
    obtain ⟨x,hx⟩:∃ x,xs[j]?=some x:=⟨xs[j],by simp [hlt]⟩
    have hv:(intItems xs)[j]?=some (.int x.1 x.2):=by simp [intItems,hx]
    have hnum:numAt xs j=x.1:=by simp [numAt,hx]
    refine codeAny_builtin F.entry_max_loop ?_
    rw [Around.under_plainId F.plain_max_loop _]
    show wpAny _ A.in1 (seqItems? (.ref S) >>= _) _ _ s
    refine t7 (wpAny_seqItems hS rfl ?_)
    show wpAny _ A.in1 (tryCatch (pyNext (.ref I)) _ >>= _) _ _ s
    refine t7 (wpAny_tryCatch (wpAny_pyNext_list_item hit hl hv fun h' hit' sb=>?_))
    have hS':h'.get? S=_:=(sb.2 S hSI).trans hS
    have hl':h'.IsList l (intItems xs):=hl.at fun o e=>(sb.2 l hIl).trans e
    have on:∀ (h2:Heap) (tk:Nat) (b':Option (Int × Tok)) (c':Nat),(∀ a o,a ≠ S->h'.get? a=some o->h2.get? a=some o)->h2.get? S=some { cls:=.type "list",dict:=none,data:=.seq (rE b') c',slots:=#[] }->jB xs (j+1) b' ->
        codeAny (model prog w) A (.builtin "max.loop" ⟨[.ref I,.none,.ref S],[("default",d)]⟩) R { s with heap:=h2,toks:=tk }:=fun h2 tk b' c' k2 hS2 hb' =>
      ih (j+1) _ b' c' (by omega) hlt (hit'.at fun o e=>k2 I o (Ne.symm hSI) e) (hl'.at fun o e=>k2 l o (Ne.symm hSl) e) hS2 hb' fun v h3 tk' hv' k3=>fin v h3 tk' hv' fun a o ha hs e=>k3 a o ha hs (k2 a o hs ((sb.2 a ha).trans e))
    cases b with
    | none =>
      have h0:j=0:=hb
      show wpAny _ A.in1 (updateSeq S (fun _=>#[.int x.1 x.2,.int x.1 x.2]) >>= _) _ _ _
      refine t7 (wpAny_updateSeq hS' rfl ?_)
      rw [nm]
      refine t8 ⟨plainId_quiet F.plain_max_loop _,on _ s.toks (some x) _ (fun a o ha e=>(uQ _ _ (Ne.symm ha)).trans e) (uG _ hS' rfl) ⟨⟨j,by omega,hnum⟩,fun i hi=>?_⟩⟩
      obtain rfl:i=j:=by omega
      omega
    | some p =>
      obtain ⟨⟨i0,hi0,e0⟩,hle⟩:=hb
      show wpAny _ A.in1 (tryCatch (holding [.int x.1 x.2,.int x.1 x.2] (richCompare .Gt (.int x.1 x.2) (.int p.1 p.2) >>= _)) _ >>= _) _ _ _
      refine t7 (wpAny_tryCatch (t9 (t7 ?_)))
      refine (gt_int (a:=x.1) (b:=p.1) ?_:wpAny (model prog w) A.in1 (compareOp .Gt (.int x.1 x.2) (.int p.1 p.2)) _ _ _)
      refine t7 (t9 (uS (t7 (wpAny_letGo (t8 ?_)))))
      by_cases hgt:p.1 < x.1
      · rw [uD hgt,if_pos rfl]
        refine t7 (wpAny_updateSeq hS' rfl (t7 (wpAny_letGo ?_)) (hz:=by show 2<=sizeLine;decide))
        rw [nm]
        refine t8 ⟨plainId_quiet F.plain_max_loop _,on _ s.toks (some x) _ (fun a o ha e=>(uQ _ _ (Ne.symm ha)).trans e) (uG _ hS' rfl) ⟨⟨j,by omega,hnum⟩,fun i hi=>?_⟩⟩
        by_cases hij:i=j
        · subst hij;omega
        · have:=hle i (by omega);omega
      · rw [uE hgt,if_neg uz]
        refine t7 (wpAny_letGo ?_)
        rw [nm]
        refine t8 ⟨plainId_quiet F.plain_max_loop _,on h' s.toks (some p) c (fun a o _ e=>e) hS' ⟨⟨i0,by omega,e0⟩,fun i hi=>?_⟩⟩
        by_cases hij:i=j
        · subst hij;omega
        · exact hle i (by omega)
end
end L2
end
section
namespace L2
open PySem PySem.Spec PyProof.Rows
section
variable {prog:Program} {w:World} {A:Around} {E:Value->Shared->Prop} {s:Shared} {l:Addr} {xs:Array (Int × Tok)}
theorem iA {t:Addr} {h':Heap} (hk:∀ b o,b ∉ [s.heap.objs.size]->(s.heap.push { cls:=.type "tuple_iterator",data:=.fields #[.ref t,.int 0 0] }).get? b=some o->h'.get? b=some o) :
    ∀ b o,s.heap.get? b=some o->h'.get? b=some o:=fun b o e=>by
  refine hk b o (fun hm=>?_) (uc _ e)
  rcases ui.mp hm with e1 | hm
  · exact absurd (e1 ▸ uk e) (Nat.lt_irrefl _)
  · cases hm
theorem dQ {t:Addr} {items:Array Value} {Q:Value->Shared->Prop} (ht:s.heap.IsTuple t items)
    (h:∀ s₂:Shared,s₂ = { s with heap:=s.heap.push { cls:=.type "tuple_iterator",data:=.fields #[.ref t,.int 0 0] } } ->
      (s₂.heap.IsTupleIter s.heap.objs.size t 0/\s₂.heap.IsTuple t items)->(∀ b ∈ [s.heap.objs.size,t],b < s₂.heap.objs.size)->t ≠ s.heap.objs.size->Q (.ref s.heap.objs.size) s₂) :
    wpAny (model prog w) A (pyIter (.ref t)) Q E s:=by
  have hlt:t < s.heap.objs.size:=by obtain ⟨_,e,_⟩:=ht;exact uk e
  refine wpAny_pyIter_tuple ht (h _ rfl ⟨⟨_,um _ rfl,rfl,rfl⟩,ht.push _⟩ (fun b hb=>?_) (uA hlt))
  show b < (s.heap.push _).objs.size
  rw [uR]
  rcases ui.mp hb with rfl | hb
  · exact Nat.lt_succ_self _
  · rcases ui.mp hb with rfl | hb
    · exact Nat.lt_succ_of_lt hlt
    · cases hb
theorem jc {t:Addr} {Q:Value->Shared->Prop} (hh:A.handled=none) (hl:s.heap.IsTuple t (intItems xs)) (hne:0 < xs.size)
    (h:∀ v h' tk,(intItems xs)[argBest (fun i j=>decide (numAt xs i < numAt xs j)) (xs.size - 1)]?=some v->(∀ b o,s.heap.get? b=some o->h'.get? b=some o)->Q v { s with heap:=h',toks:=tk }) :
    wpAny (model prog w) A (call (.builtin "min") [.ref t]) Q E s:=by
  refine call_min_walk (dQ hl fun s₂ e st hfp hlI=>?_)
  subst e
  refine ⟨_,_,_,_,_,_,_,rfl,Walks.tuple (A:=A.in1) hh _ t hlI (intItems xs),st,hfp,by simpa [intItems] using hne,CmpOf.ints_lt (numAt xs) (fun _ _=>intItems_at),fun v h' tk hP hk=>?_⟩
  exact h v h' tk (by simpa [intItems] using hP) (iA hk)
theorem jd {t:Addr} {Q:Value->Shared->Prop} (hh:A.handled=none) (hl:s.heap.IsTuple t (intItems xs)) (hne:0 < xs.size)
    (h:∀ v h' tk,(intItems xs)[argBest (fun i j=>decide (numAt xs i > numAt xs j)) (xs.size - 1)]?=some v->(∀ b o,s.heap.get? b=some o->h'.get? b=some o)->Q v { s with heap:=h',toks:=tk }) :
    wpAny (model prog w) A (call (.builtin "max") [.ref t]) Q E s:=by
  refine call_max_walk (dQ hl fun s₂ e st hfp hlI=>?_)
  subst e
  refine ⟨_,_,_,_,_,_,_,rfl,Walks.tuple (A:=A.in1) hh _ t hlI (intItems xs),st,hfp,by simpa [intItems] using hne,CmpOf.ints_gt (numAt xs) (fun _ _=>intItems_at),fun v h' tk hP hk=>?_⟩
  exact h v h' tk (by simpa [intItems] using hP) (iA hk)
end
section
variable {X:Cx}
theorem m4 (hc:X.calm=true):CallR X (.builtin "min") (fun xs H Q=>∃ (l:Addr) (ns:List Int),xs=[.ref l]/\SqT X.K H l (ns.map V.int)/\ns ≠ []/\∀ m,m ∈ ns->(∀ n ∈ ns,m<=n)->Q (.int m) H):=by
  intro pins s σ H xs us Q I r h
  obtain ⟨l,ns,rfl,hl,hn,q⟩:=h
  obtain ⟨u,rfl,ru⟩:=eC r
  cases (show u=Value.ref l from ru)
  obtain ⟨its,rv,p,hz⟩:=I.tuple hl
  obtain ⟨ys,e1,e2⟩:=eT rv
  have hs:0 < ys.size:=by
    have:=List.length_pos_iff.mpr hn
    rw [e2] at this
    simpa using this
  have pl:s.heap.IsTuple l its.toArray:=p
  rw [e1] at pl
  refine jc (I.ok.hd hc) pl hs fun v h' tk hv hk=>?_
  obtain ⟨t,rfl⟩:=intItems_at hv
  obtain ⟨b1,b2⟩:=argBest_lt (numAt ys) (ys.size - 1)
  refine ⟨.int _,H,I.kept hk,⟨t,rfl⟩,q _ (by rw [e2];exact cP (by omega)) fun n hm=>?_⟩
  rw [e2] at hm
  obtain ⟨i,hi,rfl⟩:=cQ hm
  exact b2 i (by omega)
theorem m8 (hc:X.calm=true):CallR X (.builtin "max") (fun xs H Q=>∃ (l:Addr) (ns:List Int),xs=[.ref l]/\SqT X.K H l (ns.map V.int)/\ns ≠ []/\∀ m,m ∈ ns->(∀ n ∈ ns,n<=m)->Q (.int m) H):=by
  intro pins s σ H xs us Q I r h
  obtain ⟨l,ns,rfl,hl,hn,q⟩:=h
  obtain ⟨u,rfl,ru⟩:=eC r
  cases (show u=Value.ref l from ru)
  obtain ⟨its,rv,p,hz⟩:=I.tuple hl
  obtain ⟨ys,e1,e2⟩:=eT rv
  have hs:0 < ys.size:=by
    have:=List.length_pos_iff.mpr hn
    rw [e2] at this
    simpa using this
  have pl:s.heap.IsTuple l its.toArray:=p
  rw [e1] at pl
  refine jd (I.ok.hd hc) pl hs fun v h' tk hv hk=>?_
  obtain ⟨t,rfl⟩:=intItems_at hv
  obtain ⟨b1,b2⟩:=argBest_gt (numAt ys) (ys.size - 1)
  refine ⟨.int _,H,I.kept hk,⟨t,rfl⟩,q _ (by rw [e2];exact cP (by omega)) fun n hm=>?_⟩
  rw [e2] at hm
  obtain ⟨i,hi,rfl⟩:=cQ hm
  exact b2 i (by omega)
end
end L2
end
section
namespace L2
open PySem PySem.Spec PyProof.Rows
end L2
end
section
namespace L2
open PySem PySem.Spec PyProof.Rows
section
variable {prog:Program} {w:World} {A:Around} {E:Value->Shared->Prop} {s:Shared}
theorem dP {id:String} {b:Builtin} {args:List Value} {kw:List (Str × Value)} {Q:Value->Shared->Prop} (hk:builtinKind id=none) (hp:plainId id=true)
    (hb:entryFor table id=some b) (ha:argsOk id ⟨args,kw⟩)
    (hc:wpAny (model prog w) A.in1 (b ⟨args,kw⟩) (fun fin s'=>match fin with
      | .done f=>(match (Except.ok f:Result) with | .ok (.ret v)=>Q v s' | .ok _=>False | .error e=>E e s')
      | .again c'=>c'.quiet=true/\codeAny (model prog w) A c' (fun r s'=>match r with | .ok (.ret v)=>Q v s' | .ok _=>False | .error e=>E e s') s') E s) :
    wpAny (model prog w) A (call (.builtin id) args kw) Q E s:=by
  refine wpAny_call (codeAny_call_builtin hp hb ?_)
  simp only [checkBuiltinCall,hk]
  cases hsig:Manifest.signature? id with
  | none=>exact t8 hc
  | some sig =>
    simp only [argsOk,hsig] at ha
    have h2:Bind.checkArgs id sig ⟨args,kw⟩=pure ():=ha
    show wpAny _ A.in1 (Bind.checkArgs id sig ⟨args,kw⟩) _ _ s
    rw [h2];exact t8 hc
theorem nh (a d:Value):argsOk "max" ⟨[a],[("default",d)]⟩:=by unfold argsOk;kernel_rfl
theorem m7 {l:Addr} {xs:Array (Int × Tok)} {d:Value} {Q:Value->Shared->Prop} (hh:A.handled=none) (hl:s.heap.IsList l (intItems xs))
    (h:∀ v h' tk,((xs.size=0/\v=d)\/∃ p:Int × Tok,v=.int p.1 p.2/\jB xs xs.size (some p))->(∀ b o,s.heap.get? b=some o->h'.get? b=some o)->Q v { s with heap:=h',toks:=tk }) :
    wpAny (model prog w) A (call (.builtin "max") [.ref l] [("default",d)]) Q E s:=by
  have hname:(toString "max" ++ toString ".loop":String) = "max.loop":=by decide
  refine dP F.kind_max F.plain_max F.entry_max (nh _ _) ?_
  show wpAny _ A.in1 (Builtin.Builtins.bindParams "max" ["key","default"] 0 ⟨[],[("default",d)]⟩ >>= _) _ _ s
  refine t7 (wpAny_of_eq (show Builtin.Builtins.bindParams "max" ["key","default"] 0 ⟨[],[("default",d)]⟩=pure [none,some d] from rfl) ?_)
  refine t7 (t8 ?_)
  refine t7 (iter_intList hl fun s₂ e st hfp hlI=>?_)
  subst e
  refine t7 (wpAny_newObj_type ?_)
  rw [hname]
  have hlt:l < s.heap.objs.size:=by obtain ⟨_,e,_⟩:=hl;exact uk e
  have hsz:(s.heap.push { cls:=.type "list_iterator",data:=.fields #[.ref l,.int 0 0] }).objs.size=s.heap.objs.size+1:=uR _ _
  have a1:(s.heap.push { cls:=.type "list_iterator",data:=.fields #[.ref l,.int 0 0] }).objs.size ≠ s.heap.objs.size:=by rw [hsz];exact Nat.succ_ne_self _
  have a2:(s.heap.push { cls:=.type "list_iterator",data:=.fields #[.ref l,.int 0 0] }).objs.size ≠ l:=by rw [hsz];exact Nat.ne_of_gt (Nat.lt_succ_of_lt hlt)
  refine t8 ⟨plainId_quiet F.plain_max_loop _,mI (A:=A) hh hlI a1 a2 xs d xs.size 0 _ none 0 (by omega) (by omega)
    (st.1.at fun o e=>uc _ e) (st.2.at fun o e=>uc _ e) (um _ rfl) rfl fun v h' tk hv hk=>?_⟩
  refine h v h' tk hv fun b o e=>hk b o (fun q=>?_) (fun q=>?_) (uc _ (uc _ e))
  · exact absurd q (uA (uk e))
  · exact absurd (q.trans hsz) (uA (Nat.lt_succ_of_lt (uk e)))
end
section
variable {X:Cx}
theorem hJ {ns:List Int} {xs:Array (Int × Tok)} (e:ns=xs.toList.map (·.1)):xs.size=0 ↔ ns=[]:=by
  rw [e];simp
noncomputable def lF (K:FG) (P:List Int->Int->Prop) (x d:V) (H:Hp) (Q:VK):Prop:=∃ (l:Addr) (ns:List Int),x=.ref l/\SqL K H l (ns.map V.int)/\(ns=[]->Q d H)/\∀ m,m ∈ ns->P ns m->Q (.int m) H
theorem nK (hc:X.calm=true) {pins:List (Addr × Obj)} {s:Shared} {σ:St} {H:Hp} {x d:V} {u ud:Value} {Q:VK} (I:Inv X pins σ H s) (rx:RelV x u) (rd:RelV d ud) (h:lF X.K (fun ns m=>∀ n ∈ ns,n<=m) x d H Q) :
    wpAny (model X.prog X.w) X.A (call (.builtin "max") [u] [("default",ud)]) (EP X pins σ Q) X.xe s:=by
  obtain ⟨l,ns,rfl,hl,h0,h1⟩:=h
  cases (show u=Value.ref l from rx)
  obtain ⟨its,rv,p,hz⟩:=I.list hl
  obtain ⟨ys,e1,e2⟩:=eT rv
  have pl:=p.isList
  rw [e1] at pl
  refine m7 (I.ok.hd hc) pl fun v h' tk hv hk=>?_
  rcases hv with ⟨hs,rfl⟩ | ⟨q,rfl,⟨⟨i,hi,hq⟩,hle⟩⟩
  · exact ⟨d,H,I.kept hk,rd,h0 ((hJ e2).mp hs)⟩
  · refine ⟨.int q.1,H,I.kept hk,⟨q.2,rfl⟩,h1 _ (by rw [e2,<- hq];exact cP hi) fun n hm=>?_⟩
    rw [e2] at hm
    obtain ⟨j,hj,rfl⟩:=cQ hm
    exact hle j hj
noncomputable def tKw1 (r:V->V->Hp->VK->Prop) (te td:TE):TE:=fun σ H Q=>te σ H fun x H1=>td σ H1 fun d H2=>r x d H2 Q
theorem sY {id:String} {nm:Str} {e d:Expr} {te td:TE} {p pos kpos:Pos} {r:V->V->Hp->VK->Prop} (hrun:∀ {pins:List (Addr × Obj)} {s:Shared} {σ:St} {H:Hp} {x d:V} {u ud:Value} {Q:VK},Inv X pins σ H s->RelV x u->RelV d ud->r x d H Q->wpAny (model X.prog X.w) X.A (call (.builtin id) [u] [("default",ud)]) (EP X pins σ Q) X.xe s)
    (hg:Gl X nm) (hm:X.mg nm=none) (hv:bootBuiltins nm=some (.builtin id)) (he:PE X e te) (hd:PE X d td) (hn:nm ≠ "__name__") (hdb:(nm == ("__debug__":Str))=false)
    (hs:backTo pos (starEach [e] X.env)=(false,eval e X.env) :: backTo pos (starEach [] X.env)) (hs0:backTo pos (starEach [] X.env)=[]) (hplain:(backTo pos (starEach [e] X.env)).any (·.1)=false)
    (hall:(backToKw pos (keywordEach [⟨some "default",d,kpos⟩] X.env)).all (·.1.isSome)=true) (hkw:(backToKw pos (keywordEach [⟨some "default",d,kpos⟩] X.env)).any (·.1.isNone)=false) (hks:(backToKw pos (keywordEach [⟨some "default",d,kpos⟩] X.env)).filterMap (·.1)=(["default"]:List Str)) :
    PE X (.Call (.Name nm p) [e] [⟨some "default",d,kpos⟩] pos) (tKw1 r te td):=by
  intro pins s σ H Q I h
  refine wpAny_Call_Name_kw (el I hg hm hv ?_ hn hdb)
  refine PyProof.Rows.callWith_kw ?_ hs hplain hall hkw
  rw [hs,hs0]
  refine Calls.spliced_cons (thn (he pins s σ H _ I h) fun u s1 ⟨x,H1,I1,r1,q1⟩=>Calls.spliced_nil ?_)
  refine thn (qc (nm:=some "default") (kpos:=kpos) hd sP pos pins s1 σ H1 (fun vs H2=>match vs with | [d]=>r x d H2 Q | _=>False) I1 q1) fun us s2 ⟨xs,H2,I2,r2,q2⟩=>?_
  match xs,q2,r2 with
  | [d'],q2,r2 =>
    rw [hks]
    obtain ⟨ud,rfl,rd⟩:=eC r2
    exact hrun I2 r1 rd q2
end
end L2
end
section
namespace L2
open PySem PySem.Spec PyProof.Rows
noncomputable def Itd (hi:Int) (n:Nat):It:=⟨fun i _=>i < n,fun i H x H'=>H'=H/\x=.int (hi - i),fun i _=>n<=i⟩
theorem jI {P:Program} {w:World} {K:FG} {tg:Expr} (it:Addr) (hi:Int) (n:Nat):Turn P w K tg (Itd hi n) [it] it (fun i h=>IsRangeIter h it (hi+(i:Nat) * (-1)) ((n:Int) - (i:Nat)) (-1)) where
  mem:=by simp
  obj:=fun i h st b hb=>by
    have e:b=it:=by simpa using hb
    subst e
    exact ⟨_,st,fun v z=>by
      have z':Data.fields _=Data.cell v:=z
      cases z'⟩
  keep:=fun i h h' st k=>k it (by simp) _ st
  item:=by
    intro X hP hw hK hc i pins s σ H E I hf st hg
    subst hP hw hK
    obtain ⟨f0,f1,f2,f3,f4,f5⟩:=hf it (by simp)
    have W:=Walks.range (prog:=X.prog) (w:=X.w) (I.ok.hd hc) it hi (-1) n
    refine W.item i s _ _ hg st fun v h' tk hv st' kk=>?_
    obtain ⟨t,rfl⟩:=hv
    have I1:Inv X pins σ H { s with heap:=h',toks:=tk }:=I.turned (fun b o hb e=>kk b o (by simpa using hb) e) f0 f1 f3 f4 f5
    refine ⟨_,rfl,kC (s:={ s with heap:=h',toks:=tk }) (n:="range_iterator") st' rfl rfl (by decide) ⟨.int (hi - i),H,I1,⟨t,?_⟩,⟨rfl,rfl⟩,st',fun b hb=>(hf b hb).1⟩⟩
    rw [show hi+(i:Int) * (-1)=hi - i by omega]
  done:=by
    intro X hP hw hK hc i pins s σ H E I hf st hg
    subst hP hw hK
    obtain ⟨f0,f1,f2,f3,f4,f5⟩:=hf it (by simp)
    exact wpAny_pyNext_range_end (I.ok.hd hc) st (by have:n<=i:=hg;omega) fun h' eb=>⟨rfl,I.turned (t':=s.toks) (fun b o hb e=>eb b o hb e) f0 f1 f3 f4 f5⟩
  self:=fun _ _ _ _ _ st h=>wpAny_pyIter_rangeiter st h
section
variable {X:Cx} {tg:Expr}
theorem dy (a b:Int):Builtin.Range.rangeSize a b (-1)=if a > b then a - b else 0:=by
  unfold Builtin.Range.rangeSize
  rw [if_neg (by decide)]
  split
  · rw [show (a - b - 1) / (- (-1:Int))=a - b - 1 by simp];omega
  · rfl
theorem k5 {a b:Int} (h1:-(2 ^ 62)<=a) (h2:a < 2 ^ 62) (h3:-(2 ^ 62)<=b) (h4:b < 2 ^ 62):Builtin.Range.small a b (-1)=true:=by
  unfold Builtin.Range.small
  rw [dy]
  have n1:¬ ((-1:Int) > 0):=by decide
  simp only [Builtin.Range.rangeFitsLong,Bool.and_eq_true,Bool.or_eq_true,decide_eq_true_eq,beq_iff_eq,n1,if_false]
  split <;> omega
noncomputable def rq (ta:TA):TI:=fun σ H R=>ta σ H fun vs H1=>∃ i j:Int,vs=[.int i,.int j,.int (-1)]/\(-(2 ^ 62)<=i/\i < 2 ^ 62/\-(2 ^ 62)<=j/\j < 2 ^ 62)/\R (Itd i (i - j).toNat) H1
theorem mw {pins:List (Addr × Obj)} {σ:St} {H:Hp} {s:Shared} {R:It->Hp->Prop} {E:Value->Shared->Prop} {lo hi:Int} {t u v:Tok} {tk:Nat} (I:Inv X pins σ H s) (h1:-(2 ^ 62)<=lo) (h2:lo < 2 ^ 62) (h3:-(2 ^ 62)<=hi) (h4:hi < 2 ^ 62)
    (q:R (Itd lo (lo - hi).toNat) H):wpAny (model X.prog X.w) X.A (pyIter (.ref s.heap.objs.size)) (PIE X pins σ tg R) E { s with heap:=s.heap.push { cls:=.type "range",data:=.fields #[.int lo t,.int hi u,.int (-1) v] },toks:=tk }:=by
  refine wpAny_pyIter_range (IsRange.new ..) (k5 h1 h2 h3 h4) ?_
  have I1:Inv X pins σ H { s with heap:=s.heap.push { cls:=.type "range",data:=.fields #[.int lo t,.int hi u,.int (-1) v] },toks:=tk }:=I.kept fun b o e=>uc _ e
  refine ⟨(s.heap.push { cls:=.type "range",data:=.fields #[.int lo t,.int hi u,.int (-1) v] }).objs.size,[(s.heap.push { cls:=.type "range",data:=.fields #[.int lo t,.int hi u,.int (-1) v] }).objs.size],_,_,H,rfl,
    I1.kept (t':=tk) fun b o e=>uc _ e,jI _ lo (lo - hi).toNat,?_,fun b hb=>?_,q⟩
  · have e1:lo+((0:Nat):Int) * (-1)=lo:=by simp
    have e2:(((lo - hi).toNat:Nat):Int) - ((0:Nat):Int)=Builtin.Range.rangeSize lo hi (-1):=by rw [dy];split <;> omega
    show IsRangeIter _ _ (lo+((0:Nat):Int) * (-1)) ((((lo - hi).toNat:Nat):Int) - ((0:Nat):Int)) (-1)
    rw [e1,e2]
    exact um _ rfl
  · have e:b=(s.heap.push { cls:=.type "range",data:=.fields #[.int lo t,.int hi u,.int (-1) v] }).objs.size:=by simpa using hb
    subst e
    exact I1.fpOk (uy _) (I1.hok.fresh (uy _))
theorem my {a b c:Expr} {ta:TA} {p pos:Pos} (hg:Gl X "range") (hm:X.mg "range"=none) (ha:PA X [a,b,c] ta) (hs:starEach [a,b,c] X.env=(false,eval a X.env) :: starEach [b,c] X.env) (hpl:(backTo pos (starEach [b,c] X.env)).any (·.1)=false) :
    PI X tg (.Call (.Name "range" p) [a,b,c] [] pos) (rq ta):=by
  intro pins s σ H R I h
  refine Call_ (el I hg hm boot_range (PyProof.Rows.callWith_type1 (thn (ha pos pins s σ H _ I h) fun us s1 ⟨vs,H1,I1,r1,q1⟩=>?_) hs hpl))
  obtain ⟨i,j,e,⟨q1,q2,q3,q4⟩,q⟩:=q1
  subst e
  cases r1 with
  | cons r rr =>
    cases rr with
    | cons r' rr =>
      cases rr with
      | cons r'' rr =>
        cases rr
        obtain ⟨t,rfl⟩:=r
        obtain ⟨t',rfl⟩:=r'
        obtain ⟨t'',rfl⟩:=r''
        exact call_range_3 (by decide) (mw I1 q1 q2 q3 q4 q) (.inl (PyProof.noPylong_small (by decide)))
end
end L2
end
section
namespace PySem
open Sem (wp)
noncomputable def RawAt (h:Heap) (d:Addr) (es:Array DictEntry) (ep:Nat):Prop:=∃ o,h.get? d=some o/\o.ExactDict/\o.data=.dict es ep
section
variable {prog:Program} {w:World} {A:Around} {E:Value->Shared->Prop} {s:Shared}
theorem RawAt.typeIs {d:Addr} {es:Array DictEntry} {ep:Nat} (x:RawAt s.heap d es ep):s.TypeIs (.ref d) "dict":=let ⟨o,ho,hc,_⟩:=x;⟨o,ho,hc.1⟩
theorem jW {it d:Addr} {i ep:Nat} {es:Array DictEntry} {Q:Option Value->Shared->Prop} (hit:s.heap.IsKeyIter it d i es.size ep)
    (hm:RawAt s.heap d es ep) (hx:i < es.size)
    (hQ:∀ h',h'.IsKeyIter it d (i+1) es.size ep->Heap.SameBut it s.heap h'->Q (some es[i].key) { s with heap:=h' }) :
    wpAny (model prog w) A (pyNext (.ref it)) Q E s:=by
  have ty:=hit.typeIs
  obtain ⟨⟨c1,d1,x1,s1⟩,h1,e1,e2⟩:=hit
  obtain ⟨⟨c2,d2,x2,s2⟩,h2,_,e4⟩:=hm
  obtain ⟨hp,g,dr,tk,os⟩:=s
  simp only at e1 e2 e4
  subst e1 e2 e4
  have hi:(if (i:Int) < 0 then none else es[(i:Int).toNat]?)=some es[i]:=by simp [hx]
  unfold pyNext
  refine t7 (wpAny_attempt (wpAny_callSpecial?_slot ty F.slot_dict_keyiterator_next
    (wpAny_call_entry F.slot_dict_keyiterator_next ty F.entry_dict_keyiterator_next ?_ (F.args_dict_keyiterator_next_1 _))))
  wp_walk
  rw [hi]
  wp_walk
  exact ⟨_,rfl,t8 (hQ _ ⟨_,uG _ h1 rfl,rfl,rfl⟩ (Heap.SameBut.update ..))⟩
theorem k7 {it d:Addr} {i ep:Nat} {es:Array DictEntry} {Q:Option Value->Shared->Prop} (hh:A.handled=none) (hit:s.heap.IsKeyIter it d i es.size ep)
    (hm:RawAt s.heap d es ep) (hx:es.size<=i)
    (hQ:∀ h',Heap.ExtBut it s.heap h'->Q none { s with heap:=h' }):wpAny (model prog w) A (pyNext (.ref it)) Q E s:=by
  have ty:=hit.typeIs
  obtain ⟨⟨c1,d1,x1,s1⟩,h1,e1,e2⟩:=hit
  obtain ⟨⟨c2,d2,x2,s2⟩,h2,_,e4⟩:=hm
  obtain ⟨hp,g,dr,tk,os⟩:=s
  simp only at e1 e2 e4
  subst e1 e2 e4
  have hi:(if (i:Int) < 0 then none else es[(i:Int).toNat]?)=none:=by simp [hx]
  have hh':A.in1.handled=none:=hh
  unfold pyNext
  refine t7 (wpAny_attempt (wpAny_callSpecial?_slot ty F.slot_dict_keyiterator_next
    (wpAny_call_entry F.slot_dict_keyiterator_next ty F.entry_dict_keyiterator_next ?_ (F.args_dict_keyiterator_next_1 _))))
  wp_walk
  rw [hi]
  wp_walk
  refine wpAny_raiseNew_none hh' ?_
  refine t7 (wpAny_isInstance (v:=.ref _) (T:="StopIteration") (b:=true) ?_ isSubtype_stop ?_)
  · exact ⟨_,um _ rfl,rfl⟩
  · exact t8 (hQ _ (((Heap.SameBut.update ..).extBut.push _).push _))
theorem iZ {d:Addr} {es:Array DictEntry} {ep:Nat} {Q:Value->Shared->Prop} (hd:(d == sysModules)=false) (hm:RawAt s.heap d es ep)
    (hQ:Q (.ref s.heap.objs.size) { s with heap:=s.heap.push { cls:=.type "dict_keyiterator",data:=.fields #[.ref d,.int 0 0,.int es.size 0,.int ep 0] } }) :
    wpAny (model prog w) A (pyIter (.ref d)) Q E s:=by
  have ty:=hm.typeIs
  obtain ⟨⟨c2,d2,x2,s2⟩,h2,e3,e4⟩:=hm
  obtain ⟨hp,g,dr,tk,os⟩:=s
  obtain ⟨e5,_⟩:=e3
  simp only at e4 e5
  subst e4 e5
  refine wpAny_pyIter_slot ty F.slot_dict_iter (wpAny_call_entry F.slot_dict_iter ty F.entry_dict_iter ?_ (F.args_dict_iter_1 _))
  wp_walk
  exact ⟨_,rfl,"dict_keyiterator",_,⟨_,um _ rfl,rfl⟩,F.slot_dict_keyiterator_next.lookup,hQ⟩
end
end PySem
end
section
namespace L2
open PySem PySem.Spec PyProof.Rows
theorem gA {α β:Type} {F:α->β->Prop}:∀ {l₁:List α} {l₂:List β},Paired F l₁ l₂->∀ {i:Nat} {a:α},l₁[i]?=some a->∃ b,l₂[i]?=some b/\F a b
  | _,_,.nil,i,a,h=>by simp at h
  | _,_,.cons r t,0,a,h=>by
    simp only [List.getElem?_cons_zero,Option.some.injEq] at h
    subst h
    exact ⟨_,rfl,r⟩
  | _,_,.cons r t,i+1,a,h=>by
    simp only [List.getElem?_cons_succ] at h
    exact gA t h
end L2
end
section
namespace L2
open PySem PySem.Spec PyProof.Rows
end L2
end
section
namespace L2
open PySem PySem.Spec PyProof.Rows
theorem Rd.dK_inj {H:Hp} {a:Addr} {x y:List (Key × V)} (h:Rd H a (.dK x)) (h':Rd H a (.dK y)):x=y:=by
  rcases h with h | ⟨o,h⟩ <;> rcases h' with h' | ⟨o',h'⟩ <;> rw [h] at h' <;> cases h' <;> rfl
section
variable {P:Program} {w:World} {H:Hp} {h:Heap} {a:Addr}
theorem iz {knd:KeyKind P w Key}:∀ {es:List DictEntry} {vs:List (Key × Value)},Pairs knd es vs->∀ {i:Nat} {q:Key × Value},vs[i]?=some q->∃ e,es[i]?=some e/\knd.is q.1 e.key=true/\e.val=q.2
  | _,_,.nil,i,q,h=>by simp at h
  | _,_,.cons h1 h2 t,0,q,h=>by
    simp only [List.getElem?_cons_zero,Option.some.injEq] at h
    subst h
    exact ⟨_,rfl,h1,h2⟩
  | _,_,.cons h1 h2 t,i+1,q,h=>by
    simp only [List.getElem?_cons_succ] at h
    exact iz t h
theorem is_kV {k:Key} {u:Value} (h:(bv P w).is k u=true):RelV (kV k) u:=by
  rcases aV h with ⟨i,t,rfl,rfl⟩ | ⟨x,t,rfl,rfl⟩
  · exact ⟨t,rfl⟩
  · exact ⟨t,rfl⟩
theorem ln {kvs:List (Key × V)} (ok:HOk P w H h) (e:Rd H a (.dK kvs)):(a == sysModules)=false/\∃ es:Array DictEntry,RawAt h a es es.size/\es.size=kvs.length /\
    ∀ i (hi:i < es.size) kv,kvs[i]?=some kv->RelV (kV kv.1) es[i].key/\RelV kv.2 es[i].val:=by
  obtain ⟨z,y,vs,r,o,es,ep,h1,h2,h3,h4,h5,h6,rfl⟩:=lm ok e
  have hl:es.size=vs.length:=by rw [<- Array.length_toList];exact h5.length
  refine ⟨y,es,⟨o,h1,h2,h3⟩,by rw [hl,<- Paired.length r],fun i hi kv hk=>?_⟩
  obtain ⟨q,hq,f1,f2⟩:=gA r hk
  obtain ⟨e',e1,e2,e3⟩:=iz h5 hq
  have hx':es[i]=e':=by
    rw [Array.getElem?_toList,Array.getElem?_eq_getElem hi] at e1
    exact uV e1
  rw [hx',f1,e3]
  exact ⟨is_kV e2,f2⟩
end
noncomputable def Iti (a:Addr) (n:Nat):It:=⟨fun i H=>∃ kvs,Rd H a (.dK kvs)/\kvs.length=n/\i < n,
  fun i H x H'=>H'=H/\∀ kvs kv,Rd H a (.dK kvs)->kvs[i]?=some kv->x=kV kv.1,fun i H=>∃ kvs,Rd H a (.dK kvs)/\kvs.length=n/\n<=i⟩
theorem k4 {P:Program} {w:World} {K:FG} {tg:Expr} (a it:Addr) (n:Nat):Turn P w K tg (Iti a n) [it] it (fun i h=>h.IsKeyIter it a i n n) where
  mem:=by simp
  obj:=fun i h st b hb=>by
    have e:b=it:=by simpa using hb
    subst e
    obtain ⟨o,e,c,d⟩:=st
    exact ⟨o,e,fun v z=>by rw [d] at z;cases z⟩
  keep:=fun i h h' st k=>st.at fun o e=>k it (by simp) o e
  item:=by
    intro X hP hw hK hc i pins s σ H E I hf st hg
    subst hP hw hK
    obtain ⟨kvs,hq,hn,hi⟩:=hg
    obtain ⟨y,es,raw,sz,ent⟩:=ln I.hok hq
    obtain rfl:n=es.size:=by omega
    obtain ⟨f0,f1,f2,f3,f4,f5⟩:=hf it (by simp)
    obtain ⟨kv,hkv⟩:∃ kv,kvs[i]?=some kv:=⟨kvs[i]'(by omega),uj _⟩
    obtain ⟨b1,b2⟩:=ent i hi kv hkv
    refine jW st raw hi fun h' st' sb=>?_
    have I1:Inv X pins σ H { s with heap:=h' }:=I.turned (t':=s.toks) (fun b o hb e=>(sb.2 b hb).trans e) f0 f1 f3 f4 f5
    obtain ⟨o,e,c,d⟩:=id st'
    refine ⟨_,rfl,kC (s:={ s with heap:=h' }) e c d (by decide) ⟨kV kv.1,H,I1,b1,⟨rfl,fun kvs' kv' hq' hk'=>?_⟩,st',fun b hb=>(hf b hb).1⟩⟩
    rw [hq'.dK_inj hq,hkv] at hk'
    cases hk'
    rfl
  done:=by
    intro X hP hw hK hc i pins s σ H E I hf st hg
    subst hP hw hK
    obtain ⟨kvs,hq,hn,hi⟩:=hg
    obtain ⟨y,es,raw,sz,ent⟩:=ln I.hok hq
    obtain rfl:n=es.size:=by omega
    obtain ⟨f0,f1,f2,f3,f4,f5⟩:=hf it (by simp)
    exact k7 (I.ok.hd hc) st raw hi fun h' eb=>⟨rfl,I.turned (t':=s.toks) (fun b o hb e=>eb b o hb e) f0 f1 f3 f4 f5⟩
  self:=fun _ _ _ _ _ st h=>wpAny_pyIter_keyiter st h
noncomputable def oU (tl:TE):TI:=fun σ H R=>tl σ H fun x H1=>∃ a kvs,x=.ref a/\Rd H1 a (.dK kvs)/\R (Iti a kvs.length) H1
theorem n9 {X:Cx} {tg l:Expr} {tl:TE} (hl:PE X l tl):PI X tg l (oU tl):=by
  intro pins s σ H R I h
  exact thn (hl pins s σ H _ I h) fun v s1 ⟨x,H1,I1,r1,q1⟩=>by
    obtain ⟨a,kvs,e,hq,q⟩:=q1
    subst e
    cases r1
    obtain ⟨y,es,raw,sz,ent⟩:=ln I1.hok hq
    refine iZ y raw ?_
    refine ⟨s1.heap.objs.size,[s1.heap.objs.size],_,_,H1,rfl,I1.kept (t':=s1.toks) fun b o e=>uc _ e,k4 a _ kvs.length,⟨_,um _ rfl,rfl,by rw [sz];rfl⟩,fun b hb=>?_,q⟩
    have e:b=s1.heap.objs.size:=by simpa using hb
    subst e
    exact I1.fpOk (uy _) (I1.hok.fresh (uy _))
noncomputable def rDIn:R2:=fun y x H Q=>∃ a o,x=.ref a/\DGet H a y o/\Q (.bl o.isSome) H
theorem om {X:Cx} (hu:X.A.units+1 < cLine):OpR X (compareOp .In) rDIn:=by
  intro pins s σ H y x v u Q I ry rx h
  obtain ⟨a,o,rfl,g,q⟩:=h
  cases rx
  exact d_in hu I g ry fun s' I'=>⟨.bl _,H,I',rfl,q⟩
end L2
end
section
namespace L2
open PySem PySem.W PySem.Spec PyProof.Rows
noncomputable abbrev excO (a:Addr) (cls:Value):HO:=.ext fun h=>∃ o,h.get? a=some o/\o.cls=cls
noncomputable abbrev excF (ob:Obj) (a:Addr) (cls:Value):HO:=.frz ob (excO a cls)
structure ExcK (K:FG) (D:Addr):Prop where
  ga:findIn K (.ref D) "__getattribute__"=some (some (.builtin "BaseException.__getattribute__"))
  gt:findIn K (.ref D) "__getattr__"=some none
  cl:(clsIn K D).isSome=true
  ca:findIn K (.ref D) "__class__"=some (some (.builtin "object.__class__"))
  sp:specialIn K (.builtin "object.__class__") "__get__"=some (some (.builtin "getset_descriptor.__get__"))
  tk:takesIn K (.builtin "object.__class__")=some true
  ob:mroIn K D (.type "object")=some true
  be:mroIn K D (.type "BaseException")=some true
structure XName (K:FG) (c:String) (D:Addr):Prop where
  ns:nsIn K mainGlobals (Str.ofString c)=some (some (.ref D))
  ex:ExcK K D
theorem XName.inj {K:FG} {c:String} {D D':Addr} (a:XName K c D) (b:XName K c D'):D=D':=by
  have:=a.ns.symm.trans b.ns
  cases this
  rfl
end L2
end
section
namespace L2
open PySem
section
variable {K:FG} {h:Heap} {mg:Str->Option Value}
theorem fh {h:Heap}:∀ {l:List Nat} {a:Nat} {o:Obj},(l.filterMap fun a=>(h.get? a).map fun o=>(a,o)).lookup a=some o->h.get? a=some o
  | [],_,_,e=>by cases e
  | b :: l,a,o,e=>by
    rw [List.filterMap_cons] at e
    cases hb:h.get? b with
    | none=>rw [hb] at e;exact fh e
    | some p =>
      rw [hb] at e
      replace e:List.lookup a ((b,p) :: l.filterMap fun a=>(h.get? a).map fun o=>(a,o))=some o:=e
      rw [List.lookup_cons] at e
      cases hab:a == b with
      | true=>rw [hab] at e;cases eq_of_beq hab;cases e;exact hb
      | false=>rw [hab] at e;exact fh e
theorem fragAt_in (h:Heap):(oX h).In h:=fun _ _ e=>fh e
noncomputable def stPos (s:Stmt):Pos:=match s with
  | .FunctionDef _ _ _ _ _ _ _ _ _ p=>p
  | _=>⟨0,0,0,0⟩
set_option tactic.hygienic true in
theorem tZ {n:Str} {st:Stmt} (X:K.In h) (G:h.Ns mainGlobals mg) (e:kG K n=gN n st):Def K mg n st:=by
  unfold kG at e
  split at e
  · rename_i f hf
    split at e
    · rename_i oc od fd sl hl
      unfold gN at e
      obtain ⟨name,qual,params,body,scope,globals,closure,defaults,kw,doc,pm,an,cd,ct,bi⟩:=fd
      simp only [Option.some.injEq,Prod.mk.injEq] at e
      obtain ⟨rfl,rfl,rfl,rfl,rfl,rfl,rfl,rfl,rfl,hc⟩:=e
      exact ⟨f,_,tR (st:=st) hl hc (by unfold PySem.W.keepIn;simp only [hl]),PySem.W.mg_of X G hf⟩
    · cases e
  · cases e
theorem la {α β:Type} {f g:α->β} {l:List α} (e:l.map f=l.map g) (i:Nat) {a:α} (h:l[i]?=some a):f a=g a:=List.map_inj_left.mp e a (ut h)
theorem aQ {ds:List (Str × Stmt)} {n:Str} {st:Stmt} (X:K.In h) (G:h.Ns mainGlobals mg) (e:ds.map (fun p=>kG K p.1)=ds.map (fun p=>gN p.1 p.2)) (i:Nat) (hi:ds[i]?=some (n,st)):Def K mg n st:=tZ X G (la e i hi)
theorem bE {l:List Str} {n:Str} (X:K.In h) (G:h.Ns mainGlobals mg) (e:l.map (PySem.W.nsIn K mainGlobals)=l.map (fun _=>some none)) (i:Nat) (hi:l[i]?=some n):mg n=none:=PySem.W.mg_none_of X G (la e i hi)
set_option tactic.hygienic true in
theorem gI {l:List (Str × Int)} {n:Str} {v:Int} (X:K.In h) (G:h.Ns mainGlobals mg) (e:l.map (fun p=>jp K p.1)=l.map (fun p=>some p.2)) (i:Nat) (hi:l[i]?=some (n,v)):∃ t,mg n=some (.int v t):=by
  have e:=la e i hi
  unfold jp at e
  dsimp only at e
  split at e
  · rename_i v' t hs;cases e;exact ⟨t,PySem.W.mg_of X G hs⟩
  · cases e
theorem walk_ofS {l:PySem.W.OpenLaw} {n k:Nat} {q:Program} {loose:List Str} {XP:(Str->Option Value)->Heap->Prop} {YP:World->Heap->Prop} {d:DefRec} {S:FG->Prop} {CX:CXT} {sp:FG->Sp} {x:Str}
    (hn:l.most=some n) (hn2:n<=sizeLine) (hdf:d.params.defaults=[]) (hr:Room k callerA)
    (hY:∀ (w:World) (h:Heap),YP w h->∃ K:FG,K.In h/\S K)
    (F:∀ (w:World) (mg:Str->Option Value) (fa:Addr) (h:Heap) (K:FG),S K->K.In h->h.Ns mainGlobals mg->mg d.name=some (.ref fa) ->
      ∃ fd:FuncData,(∀ (s:Shared) (u:Value),BindsTo s fd ⟨[u],[]⟩ [(x,u)]) /\
        ∀ base:Heap,K.In base->base.Ns mainGlobals mg->FnOk l.prog w K mg base CX k fa fd [x] (sp K))
    (hsp:∀ (K:FG) (H:Hp) (a:Addr) (ns:List Int),ns.length<=n->qQ H->SqL K H a (ns.map V.int)->sp K [.ref a] H (fun v _=>v=.bl true) fun _ _ _=>False)
    (hCX:∀ (H:Hp) (s:Shared) (e:Value) (s':Shared),CX [] H s (fun _ _ _=>False) e s'->False) :
    PySem.W.WalkO q loose XP YP l.row.toRowW d [] (fun f vs=>PySem.call f vs):=by
  refine Att.attach_call hn hdf fun w s₀ s₁ mg mb fa o pm cd doc a vs ns G Y ho hd hcd hmg hobj hints hlen hg=>?_
  obtain ⟨K,KX,hS⟩:=hY w _ Y
  obtain ⟨fd,hb,hF⟩:=F w mg fa _ K hS KX G.T.g hmg
  exact oK KX G.T.g G.T.b G.T.builtins G.T.nolimit hg hobj hints (uT hlen hn2) hr hF hb (fun H hO hS=>hsp K H a ns hlen hO hS) fun H e s'=>hCX H s₁ e s'
end
end L2
end
section
namespace L3
open PySem L2
theorem nsE {α:Type} {p:α} {P:Prop} (e:(none:Option α)=some p):P:=nomatch e
inductive D where
 | non | bl (b:Bool) | int (i:Int) | str (x:Str)
 | tup (xs:List D) | lst (xs:List D) | fls (xs:List D) | dk (kvs:List (Key × D)) | dt (kvs:List (List Key × D))
 | exc (c:String) (fs:List (String × D))
noncomputable def eS:D->Bool
 | .lst _=>true
 | .dk _=>true
 | .dt _=>true
 | _=>false
noncomputable def FzL (K:FG) (H:Hp) (a:Addr) (vs:List V):Prop:=(∃ o,H a=some (.frz o (.lst vs)))\/∃ (o:Obj) (its:Array Value) (n:Nat),K.lookup a=some o/\o.cls=.type "list"/\o.dict=none/\o.data=.seq its n/\its.size<=sizeLine/\Vals vs its.toList
theorem FzL.sq {K:FG} {H:Hp} {a:Addr} {vs:List V} (h:FzL K H a vs):SqL K H a vs:=h.elim (fun ⟨o,e⟩=>.inl (.inr ⟨o,e⟩)) .inr
inductive Reps (R:D->V->List Addr->Prop):List D->List V->List Addr->Prop where
 | nil:Reps R [] [] []
 | cons {d v L ds vs L'}:R d v L->Reps R ds vs L'->Reps R (d :: ds) (v :: vs) (L ++ L')
inductive Rep (K:FG) (H:Hp):D->V->List Addr->Prop where
 | non:Rep K H .non .non []
 | bl (b:Bool):Rep K H (.bl b) (.bl b) []
 | int (i:Int):Rep K H (.int i) (.int i) []
 | str (x:Str):Rep K H (.str x) (.str x) []
 | tup {xs a vs L}:H a=some (.tup vs)->Reps (Rep K H) xs vs L->Rep K H (.tup xs) (.ref a) L
 | lst {xs a vs L}:H a=some (.lst vs)->Reps (Rep K H) xs vs L->Rep K H (.lst xs) (.ref a) (a :: L)
 | lstF {xs a vs L}:FzL K H a vs->Reps (Rep K H) xs vs L->Rep K H (.fls xs) (.ref a) L
 | dK {kvs a ps L}:H a=some (.dK ps)->kvs.map (·.1)=ps.map (·.1)->Reps (Rep K H) (kvs.map (·.2)) (ps.map (·.2)) L->Rep K H (.dk kvs) (.ref a) (a :: L)
 | dT {kvs a ps L}:H a=some (.dT ps)->kvs.map (·.1)=ps.map (·.1)->Reps (Rep K H) (kvs.map (·.2)) (ps.map (·.2)) L->Rep K H (.dt kvs) (.ref a) (a :: L)
 | exc {c a D ob}:XName K c D->H a=some (excF ob a (.ref D))->Rep K H (.exc c []) (.ref a) []
noncomputable def RepV (K:FG) (H:Hp) (d:D) (v:V) (L:List Addr):Prop:=match d with
 | .non=>v=.non/\L=[]
 | .bl b=>v=.bl b/\L=[]
 | .int i=>v=.int i/\L=[]
 | .str x=>v=.str x/\L=[]
 | .tup xs=>∃ a vs,v=.ref a/\H a=some (.tup vs)/\Reps (Rep K H) xs vs L
 | .lst xs=>∃ a vs L',v=.ref a/\L=a :: L'/\H a=some (.lst vs)/\Reps (Rep K H) xs vs L'
 | .fls xs=>∃ a vs,v=.ref a/\FzL K H a vs/\Reps (Rep K H) xs vs L
 | .dk kvs=>∃ a ps L',v=.ref a/\L=a :: L'/\H a=some (.dK ps)/\kvs.map (·.1)=ps.map (·.1)/\Reps (Rep K H) (kvs.map (·.2)) (ps.map (·.2)) L'
 | .dt kvs=>∃ a ps L',v=.ref a/\L=a :: L'/\H a=some (.dT ps)/\kvs.map (·.1)=ps.map (·.1)/\Reps (Rep K H) (kvs.map (·.2)) (ps.map (·.2)) L'
 | .exc c fs=>fs=[]/\L=[]/\∃ a D ob,v=.ref a/\XName K c D/\H a=some (excF ob a (.ref D))
theorem Rep.view {K:FG} {H:Hp} {d:D} {v:V} {L:List Addr} (r:Rep K H d v L):RepV K H d v L:=by
 cases r with
 | non=>exact ⟨rfl,rfl⟩
 | bl b=>exact ⟨rfl,rfl⟩
 | int i=>exact ⟨rfl,rfl⟩
 | str x=>exact ⟨rfl,rfl⟩
 | tup h r=>exact ⟨_,_,rfl,h,r⟩
 | lst h r=>exact ⟨_,_,_,rfl,rfl,h,r⟩
 | lstF h r=>exact ⟨_,_,rfl,h,r⟩
 | dK h k r=>exact ⟨_,_,_,rfl,rfl,h,k,r⟩
 | dT h k r=>exact ⟨_,_,_,rfl,rfl,h,k,r⟩
 | exc n h=>exact ⟨rfl,rfl,_,_,_,rfl,n,h⟩
noncomputable def MutAt (H:Hp) (b:Addr):Prop:=(∃ xs,H b=some (.lst xs))\/(∃ ps,H b=some (.dK ps))\/∃ ps,H b=some (.dT ps)
theorem MutAt.ex {H:Hp} {b:Addr} (m:MutAt H b):∃ o,H b=some o:=by
 rcases m with ⟨_,h⟩ | ⟨_,h⟩ | ⟨_,h⟩ <;> exact ⟨_,h⟩
theorem MutAt.notup {H:Hp} {b:Addr} {vs:List V} (m:MutAt H b) (h:H b=some (.tup vs)):False:=by
 rcases m with ⟨_,e⟩ | ⟨_,e⟩ | ⟨_,e⟩ <;> rw [e] at h <;> cases h
theorem MutAt.nofrz {H:Hp} {b:Addr} {o:Obj} {u:HO} (m:MutAt H b) (h:H b=some (.frz o u)):False:=by
 rcases m with ⟨_,e⟩ | ⟨_,e⟩ | ⟨_,e⟩ <;> rw [e] at h <;> cases h
theorem FzL.keep {K:FG} {H H':Hp} {a:Addr} {vs:List V} {M:Addr->Prop} (h:FzL K H a vs) (k:∀ b o,H b=some o->¬ M b->H' b=some o) (hm:∀ b,M b->MutAt H b):FzL K H' a vs:=h.elim (fun ⟨o,e⟩=>.inl ⟨o,k a _ e fun z=>(hm a z).nofrz e⟩) .inr
section
variable {K:FG} {H H':Hp} {d:D} {v:V} {L:List Addr}
theorem Rep.inH (r:Rep K H d v L):∀ b ∈ L,MutAt H b:=by
 refine Rep.rec (motive_1:=fun _ _ L _=>∀ b ∈ L,MutAt H b) (motive_2:=fun _ _ L _=>∀ b ∈ L,MutAt H b) ?_ ?_ ?_ ?_ ?_ ?_ ?_ ?_ ?_ ?_ ?_ ?_ r
 ·intro b hb;cases hb
 ·intro _ b hb;cases hb
 ·intro _ b hb;cases hb
 ·intro _ b hb;cases hb
 ·intro _ _ _ _ _ _ ih;exact ih
 ·intro _ _ _ _ h _ ih b hb
  rcases ui.mp hb with e | hb
  ·rw [e];exact .inl ⟨_,h⟩
  ·exact ih b hb
 ·intro _ _ _ _ _ _ ih;exact ih
 ·intro _ _ _ _ h _ _ ih b hb
  rcases ui.mp hb with e | hb
  ·rw [e];exact .inr (.inl ⟨_,h⟩)
  ·exact ih b hb
 ·intro _ _ _ _ h _ _ ih b hb
  rcases ui.mp hb with e | hb
  ·rw [e];exact .inr (.inr ⟨_,h⟩)
  ·exact ih b hb
 ·intro _ _ _ _ _ _ b hb;cases hb
 ·intro b hb;cases hb
 ·intro _ _ _ _ _ _ _ _ i1 i2 b hb
  rcases ul.mp hb with h | h
  ·exact i1 b h
  ·exact i2 b h
theorem Reps.inH {ds:List D} {vs:List V} (r:Reps (Rep K H) ds vs L):∀ b ∈ L,MutAt H b:=by
 induction r with
 | nil=>intro b hb;cases hb
 | cons r _ ih =>
  intro b hb
  rcases ul.mp hb with h | h
  ·exact r.inH b h
  ·exact ih b h
theorem Rep.keep {M:Addr->Prop} (k:∀ b o,H b=some o->¬ M b->H' b=some o) (hm:∀ b,M b->MutAt H b) (r:Rep K H d v L):(∀ b ∈ L,¬ M b)->Rep K H' d v L:=by
 refine Rep.rec (motive_1:=fun d v L _=>(∀ b ∈ L,¬ M b)->Rep K H' d v L) (motive_2:=fun ds vs L _=>(∀ b ∈ L,¬ M b)->Reps (Rep K H') ds vs L) ?_ ?_ ?_ ?_ ?_ ?_ ?_ ?_ ?_ ?_ ?_ ?_ r
 ·intro _;exact .non
 ·intro b _;exact .bl b
 ·intro b _;exact .int b
 ·intro b _;exact .str b
 ·intro xs a vs L h _ ih hL
  exact .tup (k a _ h fun z=>(hm a z).notup h) (ih hL)
 ·intro xs a vs L h _ ih hL
  exact .lst (k a _ h (hL a ua)) (ih fun b hb=>hL b (ub _ hb))
 ·intro xs a vs L h _ ih hL
  exact .lstF (h.keep k hm) (ih hL)
 ·intro kvs a ps L h e _ ih hL
  exact .dK (k a _ h (hL a ua)) e (ih fun b hb=>hL b (ub _ hb))
 ·intro kvs a ps L h e _ ih hL
  exact .dT (k a _ h (hL a ua)) e (ih fun b hb=>hL b (ub _ hb))
 ·intro c a D ob n h _
  exact .exc n (k a _ h fun z=>(hm a z).nofrz h)
 ·intro _;exact .nil
 ·intro d v L ds vs L' _ _ i1 i2 hL
  exact .cons (i1 fun b hb=>hL b (ug _ hb)) (i2 fun b hb=>hL b (uh _ hb))
theorem Rep.same (r:Rep K H d v L) (s:Same H H'):Rep K H' d v L:=r.keep (M:=fun _=>False) (fun b o h _=>s b o h) (fun _ z=>z.elim) fun _ _ z=>z
theorem Reps.keep {M:Addr->Prop} {ds:List D} {vs:List V} (k:∀ b o,H b=some o->¬ M b->H' b=some o) (hm:∀ b,M b->MutAt H b) (r:Reps (Rep K H) ds vs L):(∀ b ∈ L,¬ M b)->Reps (Rep K H') ds vs L:=by
 induction r with
 | nil=>intro _;exact .nil
 | cons r _ ih=>intro hL;exact .cons (r.keep k hm fun b hb=>hL b (ug _ hb)) (ih fun b hb=>hL b (uh _ hb))
theorem Reps.same {ds:List D} {vs:List V} (r:Reps (Rep K H) ds vs L) (s:Same H H'):Reps (Rep K H') ds vs L:=r.keep (M:=fun _=>False) (fun b o h _=>s b o h) (fun _ z=>z.elim) fun _ _ z=>z
end
inductive Fl where
 | u | l | z
 deriving DecidableEq
structure It3 where
 d:D
 v:V
 L:List Addr
 f:Fl
noncomputable abbrev Sto:=List (Option (D × Fl))
structure Gm where
 H0:Hp
 bw:Addr->Prop
 pr:Nat->Bool
 σ0:St
 orig:Hp
 src:Addr->Prop
 lv:Nat->Option V
noncomputable def OwnOk (G:Gm) (x:It3):Prop:=eS x.d=true/\∃ a L',x.v=.ref a/\x.L=a :: L'/\a ∉ L'/\(x.f=.u->G.H0 a=none\/G.bw a)
structure ItOk (K:FG) (G:Gm) (H:Hp) (x:It3):Prop where
 rep:Rep K H x.d x.v x.L
 own:x.f ≠ .z->OwnOk G x
 src:∀ c ∈ x.L,G.H0 c=none\/G.src c
structure Fx (G:Gm) (H:Hp) (T:List It3) (g:Nat->Option It3):Prop where
 frT:∀ x ∈ T,x.f ≠ .z->∀ a,x.v=.ref a->G.orig a=none
 frS:∀ i x,g i=some x->G.pr i=false->x.f ≠ .z->∀ a,x.v=.ref a->G.orig a=none
 bin:∀ b,G.bw b->∃ o,H b=some o
 ob:∀ b o,G.orig b=some o->∃ o',H b=some o'
 lvS:∀ i x,g i=some x->x.f=.l->G.lv i=some x.v
noncomputable def NoRoot (x y:It3):Prop:=x.f ≠ .z->∀ a,x.v=.ref a->a ∉ y.L
noncomputable def Apart3 (x y:It3):Prop:=NoRoot x y/\NoRoot y x
structure Wf (K:FG) (G:Gm) (H:Hp) (σ:St) (ρ:Sto) (T:List It3) (g:Nat->Option It3):Prop where
 len:σ.length = ρ.length
 sl:∀ i,(g i).map (fun x=>(x.d,x.f))=(ρ[i]?).join
 sv:∀ i x,g i=some x->σ[i]?=some (some x.v)
 okS:∀ i x,g i=some x->ItOk K G H x
 okT:∀ x ∈ T,ItOk K G H x
 ss:∀ i j x y,i ≠ j->g i=some x->g j=some y->NoRoot x y
 st:∀ i x,g i=some x->∀ y ∈ T,Apart3 x y
 tt:T.Pairwise Apart3
 base:∀ b o,G.H0 b=some o->¬ G.bw b->H b=some o
 pro:∀ i,G.pr i=true->σ[i]?=G.σ0[i]?
 fx:Fx G H T g
structure Le (K:FG) (G:Gm) (W:D->Sto->Prop) (G0:Gm) (W0:D->Sto->Prop):Prop where
 pr:G.pr=G0.pr
 ex:∀ (H:Hp) (σ:St) (ρ:Sto) (T:List It3) (g:Nat->Option It3) (e:D),Wf K G H σ ρ T g->W e ρ->∃ ρ0 T0 g0,Wf K G0 H σ ρ0 T0 g0/\W0 e ρ0
theorem Le.refl (K:FG) (G:Gm) (W:D->Sto->Prop):Le K G W G W:=⟨rfl,fun _ _ ρ T g _ w h=>⟨ρ,T,g,w,h⟩⟩
theorem Le.trans {K:FG} {G G1 G2:Gm} {W W1 W2:D->Sto->Prop} (a:Le K G W G1 W1) (b:Le K G1 W1 G2 W2):Le K G W G2 W2:=⟨a.pr.trans b.pr,fun H σ ρ T g e w h=>by
 obtain ⟨ρ1,T1,g1,w1,h1⟩:=a.ex H σ ρ T g e w h
 exact b.ex H σ ρ1 T1 g1 e w1 h1⟩
section
variable {K:FG} {G:Gm} {H H':Hp} {σ:St} {ρ:Sto} {T T':List It3} {g:Nat->Option It3} {x y z:It3}
theorem ItOk.keep {M:Addr->Prop} (h:ItOk K G H x) (k:∀ b o,H b=some o->¬ M b->H' b=some o) (hm:∀ b,M b->MutAt H b) (hL:∀ b ∈ x.L,¬ M b):ItOk K G H' x:=⟨h.rep.keep k hm hL,h.own,h.src⟩
theorem ItOk.same (h:ItOk K G H x) (s:Same H H'):ItOk K G H' x:=⟨h.rep.same s,h.own,h.src⟩
theorem Fx.more (f:Fx G H T g) (s:∀ b o,H b=some o->∃ o',H' b=some o'):Fx G H' T g:=⟨f.frT,f.frS,fun b h=>let ⟨o,e⟩:=f.bin b h;s b o e,fun b o h=>let ⟨o',e⟩:=f.ob b o h;s b o' e,f.lvS⟩
theorem Fx.sub (f:Fx G H T g) (h:∀ x ∈ T',x ∈ T):Fx G H T' g:=⟨fun x hx=>f.frT x (h x hx),f.frS,f.bin,f.ob,f.lvS⟩
theorem Wf.grow (w:Wf K G H σ ρ T g) (s:Same H H'):Wf K G H' σ ρ T g :=
 ⟨w.len,w.sl,w.sv,fun i x e=>(w.okS i x e).same s,fun x hx=>(w.okT x hx).same s,w.ss,w.st,w.tt,fun b o e n=>s b o (w.base b o e n),w.pro,w.fx.more fun b o h=>⟨o,s b o h⟩⟩
theorem Wf.sub (w:Wf K G H σ ρ T g) (h:T'.Sublist T):Wf K G H σ ρ T' g :=
 ⟨w.len,w.sl,w.sv,w.okS,fun x hx=>w.okT x (h.subset hx),w.ss,fun i x e y hy=>w.st i x e y (h.subset hy),w.tt.sublist h,w.base,w.pro,w.fx.sub fun x hx=>h.subset hx⟩
noncomputable def Itm (T:List It3) (g:Nat->Option It3) (y:It3):Prop:=(∃ i,g i=some y)\/y ∈ T
noncomputable def cp (T:List It3) (g:Nat->Option It3) (c:Addr):Prop:=(∀ i z,g i=some z->z.f ≠ .z->z.v ≠ .ref c)/\∀ z ∈ T,z.f ≠ .z->z.v ≠ .ref c
theorem Wf.itm (w:Wf K G H σ ρ T g) (h:Itm T g y):ItOk K G H y:=by
 rcases h with ⟨i,e⟩ | h
 ·exact w.okS i y e
 ·exact w.okT y h
theorem i7 {α:Type} {R:α->α->Prop} {l:List α} (p:l.Pairwise R) (hs:∀ a b,R a b->R b a):∀ a ∈ l,∀ b ∈ l,a ≠ b->R a b:=by
 induction p with
 | nil=>intro a ha;cases ha
 | @cons c l hc _ ih =>
  intro a ha b hb n
  rcases ui.mp ha with ea | ha
  ·rcases ui.mp hb with eb | hb
   ·exact absurd (ea.trans eb.symm) n
   ·rw [ea];exact hc b hb
  ·rcases ui.mp hb with eb | hb
   ·rw [eb];exact hs _ _ (hc a ha)
   ·exact ih a ha b hb n
theorem Apart3.symm (h:Apart3 x y):Apart3 y x:=⟨h.2,h.1⟩
theorem Wf.kid (w:Wf K G H σ ρ T g) (h:Itm T g y) {c:Addr} (hc:c ∈ y.L) (hn:y.f ≠ .z->y.v ≠ .ref c):cp T g c:=by
 refine ⟨fun i z e hz ez=>?_,fun z hm hz ez=>?_⟩
 ·rcases h with ⟨j,ej⟩ | hy
  ·by_cases ij:i=j
   ·subst ij
    rw [e] at ej
    cases ej
    exact hn hz ez
   ·exact w.ss i j z y ij e ej hz c ez hc
  ·exact (w.st i z e y hy).1 hz c ez hc
 ·rcases h with ⟨j,ej⟩ | hy
  ·exact (w.st j y ej z hm).2 hz c ez hc
  ·by_cases e:z=y
   ·subst e;exact hn hz ez
   ·exact (i7 w.tt (fun _ _=>Apart3.symm) z hm y hy e).1 hz c ez hc
structure New (K:FG) (H H':Hp) (Ks:Addr->Prop) (x:It3):Prop where
 same:Same H H'
 rep:Rep K H' x.d x.v x.L
 sub:∀ c ∈ x.L,H c=none\/Ks c
 own:x.f ≠ .z->eS x.d=true/\∃ a L',x.v=.ref a/\x.L=a :: L'/\a ∉ L'/\H a=none
theorem Wf.h0none (w:Wf K G H σ ρ T g) {a:Addr} (h:H a=none):G.H0 a=none:=by
 cases e:G.H0 a with
 | none=>rfl
 | some o =>
  by_cases b:G.bw a
  ·obtain ⟨o,e⟩:=w.fx.bin a b
   rw [h] at e;cases e
  ·have:=w.base a o e b
   rw [h] at this;cases this
theorem Wf.ornone (w:Wf K G H σ ρ T g) {a:Addr} (h:H a=none):G.orig a=none:=by
 cases e:G.orig a with
 | none=>rfl
 | some o =>
  obtain ⟨o,e⟩:=w.fx.ob a o e
  rw [h] at e;cases e
theorem Wf.push {Ks:Addr->Prop} (w:Wf K G H σ ρ T g) (n:New K H H' Ks x) (hk:∀ c,Ks c->cp T g c/\(G.H0 c=none\/G.src c)):Wf K G H' σ ρ (x :: T) g:=by
 have w':=w.grow n.same
 have a1:∀ y:It3,ItOk K G H y->(∀ c,Ks c->y.f ≠ .z->y.v ≠ .ref c)->Apart3 y x:=fun y oy hy=>by
  refine ⟨fun hf a e hm=>?_,fun hf a e hm=>?_⟩
  ·obtain ⟨_,a',L',e1,e2,_,_⟩:=oy.own hf
   rw [e] at e1
   cases e1
   rcases n.sub a hm with h | h
   ·obtain ⟨o,ho⟩:=(oy.rep.inH a (by rw [e2];exact ua)).ex
    rw [h] at ho;cases ho
   ·exact hy a h hf e
  ·obtain ⟨_,a',L',e1,e2,_,h⟩:=n.own hf
   rw [e] at e1
   cases e1
   obtain ⟨o,ho⟩:=(oy.rep.inH a hm).ex
   rw [h] at ho;cases ho
 refine ⟨w'.len,w'.sl,w'.sv,w'.okS,?_,w'.ss,?_,?_,w'.base,w'.pro,⟨fun y hy hf a ea=>?_,w'.fx.frS,w'.fx.bin,w'.fx.ob,w'.fx.lvS⟩⟩
 ·intro y hy
  rcases ui.mp hy with rfl | hy
  ·refine ⟨n.rep,fun hf=>?_,fun c hc=>?_⟩
   ·obtain ⟨e0,a,L',e1,e2,e3,e4⟩:=n.own hf
    exact ⟨e0,a,L',e1,e2,e3,fun _=>.inl (w.h0none e4)⟩
   ·rcases n.sub c hc with h | h
    ·exact .inl (w.h0none h)
    ·exact (hk c h).2
  ·exact w'.okT y hy
 ·intro i z e y hy
  rcases ui.mp hy with rfl | hy
  ·exact a1 z (w.okS i z e) fun c hc=>(hk c hc).1.1 i z e
  ·exact w'.st i z e y hy
 ·refine List.pairwise_cons.mpr ⟨fun y hy=>(a1 y (w.okT y hy) fun c hc=>(hk c hc).1.2 y hy).symm,w'.tt⟩
 ·rcases ui.mp hy with h | hy
  ·subst h
   obtain ⟨e0,a',L',e1,e2,e3,e4⟩:=n.own hf
   rw [ea] at e1
   cases e1
   exact w.ornone e4
  ·exact w'.fx.frT y hy hf a ea
noncomputable def cz (ys:List It3) (c:Addr):Prop:=∃ y ∈ ys,c ∈ y.L/\(y.f ≠ .z->y.v ≠ .ref c)
theorem Wf.kids (w:Wf K G H σ ρ T g) {ys:List It3} (hy:∀ y ∈ ys,Itm T g y) {c:Addr} (h:cz ys c):cp T g c/\(G.H0 c=none\/G.src c):=by
 obtain ⟨y,m,hc,hn⟩:=h
 exact ⟨w.kid (hy y m) hc hn,(w.itm (hy y m)).src c hc⟩
structure Arg (K:FG) (H:Hp) (p:It3):Prop where
 rep:Rep K H p.d p.v p.L
 own:p.f ≠ .z->eS p.d=true/\∃ a L',p.v=.ref a/\p.L=a :: L'/\a ∉ L'
theorem ItOk.arg (h:ItOk K G H x):Arg K H x:=⟨h.rep,fun hf=>by
 obtain ⟨m,a,L',v1,v2,v3,_⟩:=h.own hf
 exact ⟨m,a,L',v1,v2,v3⟩⟩
end
end L3
end
section
namespace L3
open PySem L2
inductive R3 where
 | pl (i:Nat) | val (d:D) (f:Fl)
noncomputable abbrev M3 (α:Type):=Sto->Option (Except D α × Sto)
noncomputable abbrev EM:=M3 R3
noncomputable def af {α β:Type} (m:M3 α) (k:α->M3 β):M3 β:=fun ρ=>match m ρ with
 | none=>none
 | some (.error e,ρ')=>some (.error e,ρ')
 | some (.ok a,ρ')=>k a ρ'
noncomputable def bq {α:Type} (a:α):M3 α:=fun ρ=>some (.ok a,ρ)
noncomputable def bA {α:Type} (o:Option α):M3 α:=fun ρ=>o.map fun a=>(.ok a,ρ)
noncomputable def der (r:R3):M3 D:=fun ρ=>match r with
 | .pl i=>((ρ[i]?).join).map fun p=>(.ok p.1,ρ)
 | .val d _=>some (.ok d,ρ)
inductive Ar (σ:St):R3->V->List It3->Prop where
 | pl {i:Nat} {v:V}:σ[i]?=some (some v)->Ar σ (.pl i) v []
 | val (x:It3):Ar σ (.val x.d x.f) x.v [x]
noncomputable def Got (K:FG) (G:Gm) (σ:St) (ρ:Sto) (T:List It3) (r:R3) (v:V) (H:Hp):Prop:=∃ Ts g,Wf K G H σ ρ (Ts ++ T) g/\Ar σ r v Ts
noncomputable def tE (K:FG) (G0:Gm) (W0:D->Sto->Prop) (m:EM):TE:=fun σ H Q=>∃ G W,Le K G W G0 W0/\∃ ρ T g r ρ',Wf K G H σ ρ T g/\m ρ=some (r,ρ')/\match r with
 | .ok r=>∀ v H',Got K G σ ρ' T r v H'->Q v H'
 | .error e=>W e ρ'
noncomputable def tT (K:FG) (G0:Gm) (W0:D->Sto->Prop) (m:M3 Bool):TT:=fun σ H Q=>∃ G W,Le K G W G0 W0/\∃ ρ T g r ρ',Wf K G H σ ρ T g/\m ρ=some (r,ρ')/\match r with
 | .ok b=>∀ H' g',Wf K G H' σ ρ' T g'->Q b H'
 | .error e=>W e ρ'
inductive Ars (σ:St):List R3->List V->List It3->Prop where
 | nil:Ars σ [] [] []
 | cons {r v Ts rs vs Us}:Ar σ r v Ts->Ars σ rs vs Us->Ars σ (r :: rs) (v :: vs) (Us ++ Ts)
noncomputable def tA (K:FG) (G0:Gm) (W0:D->Sto->Prop) (m:M3 (List R3)):TA:=fun σ H Q=>∃ G W,Le K G W G0 W0/\∃ ρ T g r ρ',Wf K G H σ ρ T g/\m ρ=some (r,ρ')/\match r with
 | .ok rs=>∀ vs H' Ts g',Wf K G H' σ ρ' (Ts ++ T) g'->Ars σ rs vs Ts->Q vs H'
 | .error e=>W e ρ'
inductive Flw where
 | nx | br | ct | rt (d:D) (f:Fl)
noncomputable abbrev SM:=M3 Flw
noncomputable def tS (K:FG) (G0:Gm) (W0:D->Sto->Prop) (m:SM):TS:=fun E σ H=>∃ G W,Le K G W G0 W0/\∃ ρ T g r ρ',Wf K G H σ ρ T g/\m ρ=some (r,ρ')/\match r with
 | .ok .nx=>∀ σ' H' g',Wf K G H' σ' ρ' T g'->E.nx σ' H'
 | .ok .br=>∀ σ' H' g',Wf K G H' σ' ρ' T g'->E.bk σ' H'
 | .ok .ct=>∀ σ' H' g',Wf K G H' σ' ρ' T g'->E.ct σ' H'
 | .ok (.rt d f)=>∀ x σ' H' g',Wf K G H' σ' ρ' (x :: T) g'->x.d=d->x.f=f->E.rt x.v H'
 | .error e=>W e ρ'
section
variable {K:FG} {G G0:Gm} {W W0:D->Sto->Prop} {H H':Hp} {σ:St} {ρ ρ':Sto} {T T':List It3} {g:Nat->Option It3} {x y z:It3} {α β:Type}
theorem aX {r:R3} {k:D->M3 β} {o:Except D β} (e:af (der r) k ρ=some (o,ρ')):∃ d,der r ρ=some (.ok d,ρ)/\k d ρ=some (o,ρ'):=by
 cases r with
 | pl i =>
  have er:der (.pl i) ρ=((ρ[i]?).join).map fun p=>(.ok p.1,ρ):=rfl
  unfold af at e
  rw [er] at e ⊢
  cases h:(ρ[i]?).join with
  | none=>rw [h] at e;exact nsE e
  | some p=>rw [h] at e;exact ⟨p.1,rfl,e⟩
 | val d f=>exact ⟨d,rfl,e⟩
theorem bD {o:Option α} {r:Except D α} (e:bA o ρ=some (r,ρ')):∃ a,o=some a/\r=.ok a/\ρ' = ρ:=by
 unfold bA at e
 cases o with
 | none=>exact nsE e
 | some a=>cases e;exact ⟨a,rfl,rfl,rfl⟩
theorem Wf.slot (w:Wf K G H σ ρ T g) {i:Nat} {d:D} {f:Fl} (e:(ρ[i]?).join=some (d,f)):∃ y,g i=some y/\y.d=d/\y.f=f/\σ[i]?=some (some y.v):=by
 have h:=w.sl i
 rw [e] at h
 cases q:g i with
 | none=>rw [q] at h;exact nsE h
 | some y =>
  rw [q] at h
  cases h
  exact ⟨y,rfl,rfl,rfl,w.sv i y q⟩
theorem Ar.item {r:R3} {v:V} {Ts:List It3} {d:D} (w:Wf K G H σ ρ T g) (a:Ar σ r v Ts) (hs:∀ x ∈ Ts,x ∈ T) (e:der r ρ=some (.ok d,ρ)):∃ y,Itm T g y/\y.d=d/\y.v=v:=by
 cases a with
 | @pl i v h =>
  have er:der (.pl i) ρ=((ρ[i]?).join).map fun p=>(.ok p.1,ρ):=rfl
  rw [er] at e
  cases q:(ρ[i]?).join with
  | none=>rw [q] at e;exact nsE e
  | some p =>
   rw [q] at e
   obtain ⟨y,e1,e2,e3,e4⟩:=w.slot (d:=p.1) (f:=p.2) q
   have e5:p.1=d:=by cases e;rfl
   rw [h] at e4
   refine ⟨y,.inl ⟨i,e1⟩,e2.trans e5,?_⟩
   cases e4;rfl
 | val x=>cases e;exact ⟨x,.inr (hs x (by simp)),rfl,rfl⟩
theorem Wf.done {Us:List It3} {ys:List It3} (w:Wf K G H σ ρ (Us ++ T) g) (hy:∀ y ∈ ys,Itm (Us ++ T) g y) (n:New K H H' (cz ys) x):Got K G σ ρ T (.val x.d x.f) x.v H' :=
 ⟨[x],g,(w.push n fun c h=>w.kids hy h).sub (by simpa using List.Sublist.cons_cons x (uu Us T)),.val x⟩
theorem tE.seq {ma:EM} {k:R3->M3 β} {r:Except D β} {P:VK} (le:Le K G W G0 W0) (w:Wf K G H σ ρ T g) (e:af ma k ρ=some (r,ρ')) (he:∀ x,r=.error x->W x ρ')
  (h:∀ ra ρ1,k ra ρ1=some (r,ρ')->∀ v H1,Got K G σ ρ1 T ra v H1->P v H1):tE K G0 W0 ma σ H P:=by
 unfold af at e
 cases q:ma ρ with
 | none=>rw [q] at e;exact nsE e
 | some p =>
  obtain ⟨o,ρ1⟩:=p
  rw [q] at e
  cases o with
  | error x=>cases e;exact ⟨G,W,le,ρ,T,g,.error x,ρ',w,q,he x rfl⟩
  | ok ra=>exact ⟨G,W,le,ρ,T,g,.ok ra,ρ1,w,q,h ra ρ1 e⟩
theorem tT.seq {ma:M3 Bool} {k:Bool->M3 β} {r:Except D β} {P:Bool->Hp->Prop} (le:Le K G W G0 W0) (w:Wf K G H σ ρ T g) (e:af ma k ρ=some (r,ρ')) (he:∀ x,r=.error x->W x ρ')
  (h:∀ b ρ1,k b ρ1=some (r,ρ')->∀ H1 g1,Wf K G H1 σ ρ1 T g1->P b H1):tT K G0 W0 ma σ H P:=by
 unfold af at e
 cases q:ma ρ with
 | none=>rw [q] at e;exact nsE e
 | some p =>
  obtain ⟨o,ρ1⟩:=p
  rw [q] at e
  cases o with
  | error x=>cases e;exact ⟨G,W,le,ρ,T,g,.error x,ρ',w,q,he x rfl⟩
  | ok ra=>exact ⟨G,W,le,ρ,T,g,.ok ra,ρ1,w,q,h ra ρ1 e⟩
theorem tA.seq {ma:M3 (List R3)} {k:List R3->M3 β} {r:Except D β} {P:List V->Hp->Prop} (le:Le K G W G0 W0) (w:Wf K G H σ ρ T g) (e:af ma k ρ=some (r,ρ')) (he:∀ x,r=.error x->W x ρ')
  (h:∀ rs ρ1,k rs ρ1=some (r,ρ')->∀ vs H1 Ts g1,Wf K G H1 σ ρ1 (Ts ++ T) g1->Ars σ rs vs Ts->P vs H1):tA K G0 W0 ma σ H P:=by
 unfold af at e
 cases q:ma ρ with
 | none=>rw [q] at e;exact nsE e
 | some p =>
  obtain ⟨o,ρ1⟩:=p
  rw [q] at e
  cases o with
  | error x=>cases e;exact ⟨G,W,le,ρ,T,g,.error x,ρ',w,q,he x rfl⟩
  | ok ra=>exact ⟨G,W,le,ρ,T,g,.ok ra,ρ1,w,q,h ra ρ1 e⟩
noncomputable def EndE (K:FG) (G:Gm) (W:D->Sto->Prop) (σ:St) (T:List It3) (ρ':Sto) (Q:VK):Except D R3->Prop
 | .ok r=>∀ v H',Got K G σ ρ' T r v H'->Q v H'
 | .error e=>W e ρ'
theorem EndE.err {Q:VK} {r:Except D R3} (h:EndE K G W σ T ρ' Q r):∀ x,r=.error x->W x ρ':=by
 intro x e;subst e;exact h
theorem tE.open {m:EM} {Q:VK} (h:tE K G0 W0 m σ H Q):∃ G W,Le K G W G0 W0/\∃ ρ T g r ρ',Wf K G H σ ρ T g/\m ρ=some (r,ρ')/\EndE K G W σ T ρ' Q r:=by
 obtain ⟨G,W,le,ρ,T,g,r,ρ',w,e,q⟩:=h
 refine ⟨G,W,le,ρ,T,g,r,ρ',w,e,?_⟩
 cases r with
 | ok r=>exact q
 | error x=>exact q
theorem tE.use {m:EM} {Q:VK} (h:tE K G0 W0 m σ H Q) {P:Prop} (k:∀ G W,Le K G W G0 W0->∀ ρ T g r ρ',Wf K G H σ ρ T g->m ρ=some (r,ρ')->EndE K G W σ T ρ' Q r->P):P:=by
 obtain ⟨G,W,le,ρ,T,g,r,ρ',w,e,q⟩:=h.open
 exact k G W le ρ T g r ρ' w e q
theorem tE.mk {m:EM} {Q:VK} {r:Except D R3} (le:Le K G W G0 W0) (w:Wf K G H σ ρ T g) (e:m ρ=some (r,ρ')) (h:EndE K G W σ T ρ' Q r):tE K G0 W0 m σ H Q:=by
 refine ⟨G,W,le,ρ,T,g,r,ρ',w,e,?_⟩
 cases r with
 | ok r=>exact h
 | error x=>exact h
noncomputable def ac (i:Nat):EM:=fun ρ=>((ρ[i]?).join).map fun _=>(.ok (.pl i),ρ)
theorem r6 {i:Nat} {Q:VK} (h:tE K G0 W0 (ac i) σ H Q):ml i σ H Q:=by
 refine h.use fun G W le ρ T g r ρ' w e q=>?_
 unfold ac at e
 cases h:(ρ[i]?).join with
 | none=>rw [h] at e;exact nsE e
 | some p =>
  rw [h] at e
  cases e
  obtain ⟨y,_,_,_,e4⟩:=w.slot (d:=p.1) (f:=p.2) h
  exact ⟨y.v,e4,q y.v H ⟨[],g,w,.pl e4⟩⟩
noncomputable def mC (d:D):EM:=bq (.val d .z)
theorem Wf.const {d:D} {v:V} (w:Wf K G H σ ρ T g) (r:Rep K H d v []):Got K G σ ρ T (.val d .z) v H :=
 Wf.done (Us:=[]) (ys:=[]) (x:=⟨d,v,[],.z⟩) w (fun _ h=>(by cases h)) ⟨Same.refl _,r,fun _ h=>(by cases h),fun h=>absurd rfl h⟩
theorem eE {d:D} {v:V} {Q:VK} (r:∀ H,Rep K H d v []) (h:tE K G0 W0 (mC d) σ H Q):tC v σ H Q:=by
 refine h.use fun G W le ρ T g o ρ' w e q=>?_
 cases e
 exact q v H (w.const (r H))
noncomputable def ag (f:D->D->Option (D × Fl)) (ma mb:EM):EM:=af ma fun ra=>af mb fun rb=>af (der ra) fun da=>af (der rb) fun db=>bA ((f da db).map fun p=>R3.val p.1 p.2)
noncomputable def OpD (K:FG) (r:R2) (f:D->D->Option (D × Fl)):Prop:=∀ (a b:It3) (H:Hp) (Q:VK) (p:D × Fl),Arg K H a->Arg K H b->f a.d b.d=some p ->
 (∀ w H',New K H H' (cz [a,b]) w->w.d=p.1->w.f=p.2->Q w.v H')->r a.v b.v H Q
theorem l0 {Us:List It3} {ys:List It3} {Q:VK} {d:D} {f:Fl} (w:Wf K G H σ ρ (Us ++ T) g) (hy:∀ y ∈ ys,Itm (Us ++ T) g y) (q:EndE K G W σ T ρ Q (.ok (.val d f))) :
  ∀ w' H',New K H H' (cz ys) w'->w'.d=d->w'.f=f->Q w'.v H':=by
 intro w' H' n e1 e2
 subst e1 e2
 exact q w'.v H' (w.done hy n)
theorem gl {r:R2} {f:D->D->Option (D × Fl)} {ma mb:EM} {Q:VK} (ho:OpD K r f) (h:tE K G0 W0 (ag f ma mb) σ H Q):tOp r (tE K G0 W0 ma) (tE K G0 W0 mb) σ H Q:=by
 refine h.use fun G W le ρ T g o ρ' w e q=>?_
 refine tE.seq le w e q.err fun ra ρ1 e1 va H1 ⟨Ts,g1,w1,a1⟩=>?_
 refine tE.seq le w1 e1 q.err fun rb ρ2 e2 vb H2 ⟨Us,g2,w2,a2⟩=>?_
 obtain ⟨da,d1,e3⟩:=aX e2
 obtain ⟨db,d2,e4⟩:=aX e3
 obtain ⟨p,e5,rfl,rfl⟩:=bD e4
 obtain ⟨ya,i1,f1,f2⟩:=a1.item w2 (fun x hx=>uh _ (ug _ hx)) d1
 obtain ⟨yb,i2,f3,f4⟩:=a2.item w2 (fun x hx=>ug _ hx) d2
 subst f1 f2 f3 f4
 cases ef:f ya.d yb.d with
 | none=>rw [ef] at e5;exact nsE e5
 | some s =>
  rw [ef] at e5
  cases e5
  rw [<- List.append_assoc] at w2 i1 i2
  refine ho ya yb H2 Q s (w2.itm i1).arg (w2.itm i2).arg ef (l0 w2 (fun y hy=>?_) q)
  rcases ui.mp hy with h | hy
  ·rw [h];exact i1
  ·rw [uM.mp hy];exact i2
noncomputable def mUn (f:D->Option (D × Fl)) (ma:EM):EM:=af ma fun ra=>af (der ra) fun da=>bA ((f da).map fun p=>R3.val p.1 p.2)
noncomputable def UnD (K:FG) (r:V->Hp->VK->Prop) (f:D->Option (D × Fl)):Prop:=∀ (a:It3) (H:Hp) (Q:VK) (p:D × Fl),Arg K H a->f a.d=some p ->
 (∀ w H',New K H H' (cz [a]) w->w.d=p.1->w.f=p.2->Q w.v H')->r a.v H Q
theorem qU {r:V->Hp->VK->Prop} {f:D->Option (D × Fl)} {ma:EM} {Q:VK} (ho:UnD K r f) (h:tE K G0 W0 (mUn f ma) σ H Q):tUn r (tE K G0 W0 ma) σ H Q:=by
 refine h.use fun G W le ρ T g o ρ' w e q=>?_
 refine tE.seq le w e q.err fun ra ρ1 e1 va H1 ⟨Ts,g1,w1,a1⟩=>?_
 obtain ⟨da,d1,e3⟩:=aX e1
 obtain ⟨p,e5,rfl,rfl⟩:=bD e3
 obtain ⟨ya,i1,f1,f2⟩:=a1.item w1 (fun x hx=>ug _ hx) d1
 subst f1 f2
 cases ef:f ya.d with
 | none=>rw [ef] at e5;exact nsE e5
 | some s =>
  rw [ef] at e5
  cases e5
  exact ho ya H1 Q s (w1.itm i1).arg ef (l0 w1 (fun y hy=>by rw [uM.mp hy];exact i1) q)
noncomputable def aq:M3 (List R3):=bq []
noncomputable def ab (m:EM) (ms:M3 (List R3)):M3 (List R3):=af m fun r=>af ms fun rs=>bq (r :: rs)
noncomputable def EndA (K:FG) (G:Gm) (W:D->Sto->Prop) (σ:St) (T:List It3) (ρ':Sto) (Q:List V->Hp->Prop):Except D (List R3)->Prop
 | .ok rs=>∀ vs H' Ts g',Wf K G H' σ ρ' (Ts ++ T) g'->Ars σ rs vs Ts->Q vs H'
 | .error e=>W e ρ'
theorem EndA.err {Q:List V->Hp->Prop} {r:Except D (List R3)} (h:EndA K G W σ T ρ' Q r):∀ x,r=.error x->W x ρ':=by
 intro x e;subst e;exact h
theorem tA.open {m:M3 (List R3)} {Q:List V->Hp->Prop} (h:tA K G0 W0 m σ H Q):∃ G W,Le K G W G0 W0/\∃ ρ T g r ρ',Wf K G H σ ρ T g/\m ρ=some (r,ρ')/\EndA K G W σ T ρ' Q r:=by
 obtain ⟨G,W,le,ρ,T,g,r,ρ',w,e,q⟩:=h
 refine ⟨G,W,le,ρ,T,g,r,ρ',w,e,?_⟩
 cases r with
 | ok r=>exact q
 | error x=>exact q
theorem tA.use {m:M3 (List R3)} {Q:List V->Hp->Prop} (h:tA K G0 W0 m σ H Q) {P:Prop} (k:∀ G W,Le K G W G0 W0->∀ ρ T g r ρ',Wf K G H σ ρ T g->m ρ=some (r,ρ')->EndA K G W σ T ρ' Q r->P):P:=by
 obtain ⟨G,W,le,ρ,T,g,r,ρ',w,e,q⟩:=h.open
 exact k G W le ρ T g r ρ' w e q
theorem sk {Q:List V->Hp->Prop} (h:tA K G0 W0 aq σ H Q):rY σ H Q:=by
 refine h.use fun G W le ρ T g r ρ' w e q=>?_
 cases e
 exact q [] H [] g w .nil
theorem pQ {m:EM} {ms:M3 (List R3)} {Q:List V->Hp->Prop} (h:tA K G0 W0 (ab m ms) σ H Q):nB (tE K G0 W0 m) (tA K G0 W0 ms) σ H Q:=by
 refine h.use fun G W le ρ T g r ρ' w e q=>?_
 refine tE.seq le w e q.err fun ra ρ1 e1 va H1 ⟨Ts,g1,w1,a1⟩=>?_
 refine tA.seq le w1 e1 q.err fun rs ρ2 e2 vs H2 Us g2 w2 a2=>?_
 cases e2
 refine q (va :: vs) H2 (Us ++ Ts) g2 ?_ (.cons a1 a2)
 rw [List.append_assoc]
 exact w2
noncomputable def c6:List R3->M3 (List D)
 | []=>bq []
 | r :: rs=>af (der r) fun d=>af (c6 rs) fun ds=>bq (d :: ds)
theorem l1:∀ {rs:List R3} {ρ ρ':Sto} {o:Except D (List D)},c6 rs ρ=some (o,ρ')->∃ ds,o=.ok ds/\ρ' = ρ
 | [],ρ,ρ',o,e=>by cases e;exact ⟨[],rfl,rfl⟩
 | r :: rs,ρ,ρ',o,e=>by
  obtain ⟨d,e1,e2⟩:=aX (k:=fun d=>af (c6 rs) fun ds=>bq (d :: ds)) e
  unfold af at e2
  cases q:c6 rs ρ with
  | none=>rw [q] at e2;exact nsE e2
  | some p =>
   obtain ⟨o',ρ1⟩:=p
   obtain ⟨ds,rfl,rfl⟩:=l1 q
   rw [q] at e2
   cases e2
   exact ⟨d :: ds,rfl,rfl⟩
theorem bV {rs:List R3} {k:List D->M3 β} {o:Except D β} (e:af (c6 rs) k ρ=some (o,ρ')):∃ ds,c6 rs ρ=some (.ok ds,ρ)/\k ds ρ=some (o,ρ'):=by
 unfold af at e
 cases q:c6 rs ρ with
 | none=>rw [q] at e;exact nsE e
 | some p =>
  obtain ⟨o',ρ1⟩:=p
  obtain ⟨ds,rfl,rfl⟩:=l1 q
  rw [q] at e
  exact ⟨ds,rfl,e⟩
theorem Ars.items:∀ {rs:List R3} {vs:List V} {Ts:List It3} {ds:List D} ,Wf K G H σ ρ T g->Ars σ rs vs Ts->(∀ x ∈ Ts,x ∈ T)->c6 rs ρ=some (.ok ds,ρ)->∃ ys:List It3,(∀ y ∈ ys,Itm T g y)/\ys.map (·.d)=ds/\ys.map (·.v)=vs
 | [],_,_,ds,w,.nil,_,e=>by cases e;exact ⟨[],fun _ h=>(by cases h),rfl,rfl⟩
 | r :: rs,_,_,ds,w,.cons a as,hs,e=>by
  obtain ⟨d,e1,e2⟩:=aX (k:=fun d=>af (c6 rs) fun ds=>bq (d :: ds)) e
  obtain ⟨ds',e3,e4⟩:=bV e2
  cases e4
  obtain ⟨y,i1,f1,f2⟩:=a.item w (fun x hx=>hs x (uh _ hx)) e1
  obtain ⟨ys,i2,f3,f4⟩:=Ars.items w as (fun x hx=>hs x (ug _ hx)) e3
  refine ⟨y :: ys,fun z hz=>?_,by simp [f1,f3],by simp [f2,f4]⟩
  rcases ui.mp hz with h | hz
  ·rw [h];exact i1
  ·exact i2 z hz
noncomputable def aE (f:List D->Option (D × Fl)) (ms:M3 (List R3)):EM:=af ms fun rs=>af (c6 rs) fun ds=>bA ((f ds).map fun p=>R3.val p.1 p.2)
noncomputable def dg (K:FG) (r:List V->Hp->VK->Prop) (f:List D->Option (D × Fl)):Prop:=∀ (ys:List It3) (H:Hp) (Q:VK) (p:D × Fl),(∀ y ∈ ys,Arg K H y)->f (ys.map (·.d))=some p ->
 (∀ w H',New K H H' (cz ys) w->w.d=p.1->w.f=p.2->Q w.v H')->r (ys.map (·.v)) H Q
theorem jL {r:List V->Hp->VK->Prop} {f:List D->Option (D × Fl)} {ms:M3 (List R3)} {Q:VK} (ho:dg K r f) (h:tE K G0 W0 (aE f ms) σ H Q):tCB r (tA K G0 W0 ms) σ H Q:=by
 refine h.use fun G W le ρ T g o ρ' w e q=>?_
 refine tA.seq le w e q.err fun rs ρ1 e1 vs H1 Ts g1 w1 a1=>?_
 obtain ⟨ds,d1,e2⟩:=bV e1
 obtain ⟨p,e5,rfl,rfl⟩:=bD e2
 obtain ⟨ys,i1,f1,f2⟩:=a1.items w1 (fun x hx=>ug _ hx) d1
 subst f1 f2
 cases ef:f (ys.map (·.d)) with
 | none=>rw [ef] at e5;exact nsE e5
 | some s =>
  rw [ef] at e5
  cases e5
  exact ho ys H1 Q s (fun y hy=>(w1.itm (i1 y hy)).arg) ef (l0 w1 i1 q)
noncomputable def asB:D->Option Bool
 | .bl b=>some b
 | _=>none
noncomputable def ji (ma mb:EM):EM:=af ma fun ra=>af (der ra) fun d=>af (bA (asB d)) fun b=>if b then mb else bq (.val (.bl false) .z)
noncomputable def qA (ma:EM):EM:=af ma fun ra=>af (der ra) fun d=>af (bA (asB d)) fun b=>bq (.val (.bl (!b)) .z)
theorem fi {o:Option α} {k:α->M3 β} {r:Except D β} (e:af (bA o) k ρ=some (r,ρ')):∃ a,o=some a/\k a ρ=some (r,ρ'):=by
 unfold af bA at e
 cases o with
 | none=>exact nsE e
 | some a=>exact ⟨a,rfl,e⟩
theorem pA {d:D} {b:Bool} (e:asB d=some b):d=.bl b:=by
 cases d <;> first | exact nsE e | cases e
 rfl
theorem Rep.bl_eq {b:Bool} {v:V} {L:List Addr} (r:Rep K H (.bl b) v L):v=.bl b/\L=[]:=by cases r;exact ⟨rfl,rfl⟩
theorem Ar.bool {ra:R3} {v:V} {Ts:List It3} {d:D} {b:Bool} (w:Wf K G H σ ρ (Ts ++ T) g) (a:Ar σ ra v Ts) (e:der ra ρ=some (.ok d,ρ)) (hb:asB d=some b):v=.bl b:=by
 obtain ⟨y,i1,f1,f2⟩:=a.item w (fun x hx=>ug _ hx) e
 have r:=(w.itm i1).rep
 rw [f1,pA hb] at r
 rw [<- f2]
 exact r.bl_eq.1
theorem sg {ma mb:EM} {Q:VK} (h:tE K G0 W0 (ji ma mb) σ H Q):qX (tE K G0 W0 ma) (tE K G0 W0 mb) σ H Q:=by
 refine h.use fun G W le ρ T g o ρ' w e q=>?_
 refine tE.seq le w e q.err fun ra ρ1 e1 va H1 ⟨Ts,g1,w1,a1⟩=>?_
 obtain ⟨d,d1,e2⟩:=aX e1
 obtain ⟨b,hb,e3⟩:=fi e2
 refine ⟨b,a1.bool w1 d1 hb,?_⟩
 have w2:=w1.sub (uu Ts T)
 cases b with
 | true=>exact tE.mk le w2 e3 q
 | false=>cases e3;exact q _ _ (w2.const (.bl false))
theorem sd {ma:EM} {Q:VK} (h:tE K G0 W0 (qA ma) σ H Q):qS (tE K G0 W0 ma) σ H Q:=by
 refine h.use fun G W le ρ T g o ρ' w e q=>?_
 refine tE.seq le w e q.err fun ra ρ1 e1 va H1 ⟨Ts,g1,w1,a1⟩=>?_
 obtain ⟨d,d1,e2⟩:=aX e1
 obtain ⟨b,hb,e3⟩:=fi e2
 refine ⟨b,a1.bool w1 d1 hb,?_⟩
 have w2:=w1.sub (uu Ts T)
 cases e3;exact q _ _ (w2.const (.bl (!b)))
noncomputable def EndT (K:FG) (G:Gm) (W:D->Sto->Prop) (σ:St) (T:List It3) (ρ':Sto) (Q:Bool->Hp->Prop):Except D Bool->Prop
 | .ok b=>∀ H' g',Wf K G H' σ ρ' T g'->Q b H'
 | .error e=>W e ρ'
theorem EndT.err {Q:Bool->Hp->Prop} {r:Except D Bool} (h:EndT K G W σ T ρ' Q r):∀ x,r=.error x->W x ρ':=by
 intro x e;subst e;exact h
theorem tT.open {m:M3 Bool} {Q:Bool->Hp->Prop} (h:tT K G0 W0 m σ H Q):∃ G W,Le K G W G0 W0/\∃ ρ T g r ρ',Wf K G H σ ρ T g/\m ρ=some (r,ρ')/\EndT K G W σ T ρ' Q r:=by
 obtain ⟨G,W,le,ρ,T,g,r,ρ',w,e,q⟩:=h
 refine ⟨G,W,le,ρ,T,g,r,ρ',w,e,?_⟩
 cases r with
 | ok r=>exact q
 | error x=>exact q
theorem tT.use {m:M3 Bool} {Q:Bool->Hp->Prop} (h:tT K G0 W0 m σ H Q) {P:Prop} (k:∀ G W,Le K G W G0 W0->∀ ρ T g r ρ',Wf K G H σ ρ T g->m ρ=some (r,ρ')->EndT K G W σ T ρ' Q r->P):P:=by
 obtain ⟨G,W,le,ρ,T,g,r,ρ',w,e,q⟩:=h.open
 exact k G W le ρ T g r ρ' w e q
theorem tT.mk {m:M3 Bool} {Q:Bool->Hp->Prop} {r:Except D Bool} (le:Le K G W G0 W0) (w:Wf K G H σ ρ T g) (e:m ρ=some (r,ρ')) (h:EndT K G W σ T ρ' Q r):tT K G0 W0 m σ H Q:=by
 refine ⟨G,W,le,ρ,T,g,r,ρ',w,e,?_⟩
 cases r with
 | ok r=>exact h
 | error x=>exact h
noncomputable def cB (m:EM):M3 Bool:=af m fun r=>af (der r) fun d=>bA (asB d)
theorem rN {m:EM} {Q:Bool->Hp->Prop} (h:tT K G0 W0 (cB m) σ H Q):tB (tE K G0 W0 m) σ H Q:=by
 refine h.use fun G W le ρ T g o ρ' w e q=>?_
 refine tE.seq le w e q.err fun ra ρ1 e1 va H1 ⟨Ts,g1,w1,a1⟩=>?_
 obtain ⟨d,d1,e2⟩:=aX e1
 obtain ⟨b,hb,rfl,rfl⟩:=bD e2
 exact ⟨b,a1.bool w1 d1 hb,q _ _ (w1.sub (uu Ts T))⟩
noncomputable def qL (a b:M3 Bool):M3 Bool:=af a fun c=>if c then b else bq false
noncomputable def cOr (a b:M3 Bool):M3 Bool:=af a fun c=>if c then bq true else b
noncomputable def eX (a:M3 Bool):M3 Bool:=af a fun c=>bq (!c)
theorem rO {a b:M3 Bool} {Q:Bool->Hp->Prop} (h:tT K G0 W0 (qL a b) σ H Q):tAnd (tT K G0 W0 a) (tT K G0 W0 b) σ H Q:=by
 refine h.use fun G W le ρ T g o ρ' w e q=>?_
 refine tT.seq le w e q.err fun c ρ1 e1 H1 g1 w1=>?_
 cases c with
 | true=>exact tT.mk le w1 e1 q
 | false=>cases e1;exact q _ _ w1
theorem tT_or {a b:M3 Bool} {Q:Bool->Hp->Prop} (h:tT K G0 W0 (cOr a b) σ H Q):tOr (tT K G0 W0 a) (tT K G0 W0 b) σ H Q:=by
 refine h.use fun G W le ρ T g o ρ' w e q=>?_
 refine tT.seq le w e q.err fun c ρ1 e1 H1 g1 w1=>?_
 cases c with
 | false=>exact tT.mk le w1 e1 q
 | true=>cases e1;exact q _ _ w1
theorem rM {a:M3 Bool} {Q:Bool->Hp->Prop} (h:tT K G0 W0 (eX a) σ H Q):tNot (tT K G0 W0 a) σ H Q:=by
 refine h.use fun G W le ρ T g o ρ' w e q=>?_
 refine tT.seq le w e q.err fun c ρ1 e1 H1 g1 w1=>?_
 cases e1;exact q _ _ w1
end
end L3
end
section
namespace L3
open PySem L2
noncomputable def bT (x:It3):It3:={ x with f:=.z }
theorem bM {x y:It3}:NoRoot (bT x) y:=fun h=>absurd rfl h
noncomputable def lowAt (i:Nat) (ρ:Sto):Sto:=match (ρ[i]?).join with
 | some (d,.u)=>ρ.set i (some (d,.z))
 | some (d,.l)=>ρ.set i (some (d,.z))
 | _=>ρ
noncomputable def frz (is:List Nat) (ρ:Sto):Sto:=is.foldl (fun ρ i=>lowAt i ρ) ρ
noncomputable def frz3 (is:List Nat):M3 Unit:=fun ρ=>some (.ok (),frz is ρ)
noncomputable def pls:List R3->List Nat
 | []=>[]
 | .pl i :: rs=>i :: pls rs
 | .val _ _ :: rs=>pls rs
section
variable {K:FG} {G G0:Gm} {W W0:D->Sto->Prop} {H H':Hp} {σ:St} {ρ ρ':Sto} {T T':List It3} {g:Nat->Option It3} {x y z:It3} {α β:Type}
theorem ItOk.low (h:ItOk K G H x):ItOk K G H (bT x):=⟨h.rep,fun q=>absurd rfl q,h.src⟩
theorem bx {ρ:Sto} {i j:Nat} {o:Option (D × Fl)} (hi:i < ρ.length):((ρ.set i o)[j]?).join=if j=i then o else (ρ[j]?).join:=by
 by_cases e:j=i
 ·subst e
  rw [if_pos rfl,List.getElem?_set_self hi]
  rfl
 ·rw [if_neg e,List.getElem?_set_ne (fun h=>e h.symm)]
theorem cn {ρ:Sto} {i:Nat} {p:D × Fl} (h:(ρ[i]?).join=some p):i < ρ.length:=by
 cases q:ρ[i]? with
 | none=>rw [q] at h;exact nsE h
 | some o=>exact (uq.mp q).1
theorem Wf.lowSlot (w:Wf K G H σ ρ T g) {i:Nat} {d:D} {f:Fl} (e:(ρ[i]?).join=some (d,f)):Wf K G H σ (ρ.set i (some (d,.z))) T (fun j=>if j=i then (g i).map bT else g j):=by
 have hi:=cn e
 obtain ⟨y,gy,ed,ef,ev⟩:=w.slot e
 have val:∀ j x,(if j=i then (g i).map bT else g j)=some x->∃ x0,g j=some x0/\(x=x0\/x=bT x0)/\(j=i->x=bT x0):=fun j x h=>by
  by_cases q:j=i
  ·subst q
   rw [if_pos rfl,gy] at h
   cases h
   exact ⟨y,gy,.inr rfl,fun _=>rfl⟩
  ·rw [if_neg q] at h
   exact ⟨x,h,.inl rfl,fun z=>absurd z q⟩
 have nr:∀ {a b:It3},NoRoot a b->∀ a' b',(a'=a\/a'=bT a)->(b'=b\/b'=bT b)->NoRoot a' b':=fun h a' b' h1 h2=>by
  rcases h1 with rfl | rfl
  ·rcases h2 with rfl | rfl
   ·exact h
   ·exact h
  ·exact bM
 refine ⟨by rw [List.length_set];exact w.len,fun j=>?_,fun j x h=>?_,fun j x h=>?_,w.okT,fun j k a b n h1 h2=>?_,fun j a h b hb=>?_,w.tt,w.base,w.pro,⟨w.fx.frT,fun j x h hp hf a ea=>?_,w.fx.bin,w.fx.ob,fun j x h hl=>?_⟩⟩
 ·rw [bx hi]
  by_cases q:j=i
  ·subst q
   rw [if_pos rfl,if_pos rfl,gy]
   show some ((bT y).d,Fl.z)=_
   rw [<- ed];rfl
  ·rw [if_neg q,if_neg q];exact w.sl j
 ·obtain ⟨x0,h0,hx,_⟩:=val j x h
  have:=w.sv j x0 h0
  rcases hx with rfl | rfl <;> exact this
 ·obtain ⟨x0,h0,hx,_⟩:=val j x h
  rcases hx with rfl | rfl
  ·exact w.okS j x h0
  ·exact (w.okS j x0 h0).low
 ·obtain ⟨a0,h0,ha,_⟩:=val j a h1
  obtain ⟨b0,h0',hb,_⟩:=val k b h2
  exact nr (w.ss j k a0 b0 n h0 h0') a b ha hb
 ·obtain ⟨a0,h0,ha,_⟩:=val j a h
  exact ⟨nr (w.st j a0 h0 b hb).1 a b ha (.inl rfl),nr (w.st j a0 h0 b hb).2 b a (.inl rfl) ha⟩
 ·obtain ⟨x0,h0,hx,_⟩:=val j x h
  rcases hx with rfl | rfl
  ·exact w.fx.frS j x h0 hp hf a ea
  ·exact absurd rfl hf
 ·obtain ⟨x0,h0,hx,_⟩:=val j x h
  rcases hx with rfl | rfl
  ·exact w.fx.lvS j x h0 hl
  ·cases hl
noncomputable def Kin (x y:It3):Prop:=y.d=x.d/\y.v=x.v/\y.L=x.L/\(y.f=x.f\/y.f=.z)
theorem Kin.refl (x:It3):Kin x x:=⟨rfl,rfl,rfl,.inl rfl⟩
theorem Kin.trans (a:Kin x y) (b:Kin y z):Kin x z:=⟨b.1.trans a.1,b.2.1.trans a.2.1,b.2.2.1.trans a.2.2.1,by
 rcases b.2.2.2 with h | h
 ·rcases a.2.2.2 with h' | h'
  ·exact .inl (h.trans h')
  ·exact .inr (h.trans h')
 ·exact .inr h⟩
theorem Wf.lowAt {i:Nat} (w:Wf K G H σ ρ T g):∃ g',Wf K G H σ (lowAt i ρ) T g'/\(∀ j y,g j=some y->∃ y',g' j=some y'/\Kin y y'/\(j=i->y'.f=.z)):=by
 have keep:∀ d,(ρ[i]?).join=some (d,.z)->∃ g',Wf K G H σ ρ T g'/\(∀ j y,g j=some y->∃ y',g' j=some y'/\Kin y y'/\(j=i->y'.f=.z)):=fun d e=>⟨g,w,fun j y h=>⟨y,h,Kin.refl y,fun q=>by
  subst q
  obtain ⟨y',h',_,hf,_⟩:=w.slot e
  rw [h] at h';cases h';exact hf⟩⟩
 have low:∀ d f,(ρ[i]?).join=some (d,f)->∃ g',Wf K G H σ (ρ.set i (some (d,.z))) T g'/\(∀ j y,g j=some y->∃ y',g' j=some y'/\Kin y y'/\(j=i->y'.f=.z)):=fun d f e=>⟨_,w.lowSlot e,fun j y h=>by
  by_cases q:j=i
  ·subst q;exact ⟨bT y,by rw [if_pos rfl,h];rfl,⟨rfl,rfl,rfl,.inr rfl⟩,fun _=>rfl⟩
  ·exact ⟨y,by rw [if_neg q];exact h,Kin.refl y,fun z=>absurd z q⟩⟩
 unfold L3.lowAt
 cases e:(ρ[i]?).join with
 | none =>
  refine ⟨g,w,fun j y h=>⟨y,h,Kin.refl y,fun q=>?_⟩⟩
  subst q
  have:=w.sl j
  rw [h,e] at this;cases this
 | some p =>
  obtain ⟨d,f⟩:=p
  cases f with
  | u=>exact low d _ e
  | l=>exact low d _ e
  | z=>exact keep d e
theorem Wf.frz:∀ {is:List Nat} {ρ:Sto} {g:Nat->Option It3},Wf K G H σ ρ T g->∃ g',Wf K G H σ (frz is ρ) T g'/\(∀ j y,g j=some y->∃ y',g' j=some y'/\Kin y y'/\(j ∈ is->y'.f=.z))
 | [],ρ,g,w=>⟨g,w,fun j y h=>⟨y,h,Kin.refl y,fun q=>by cases q⟩⟩
 | i :: is,ρ,g,w=>by
  obtain ⟨g1,w1,h1⟩:=w.lowAt (i:=i)
  obtain ⟨g2,w2,h2⟩:=Wf.frz (is:=is) w1
  refine ⟨g2,w2,fun j y h=>?_⟩
  obtain ⟨y1,e1,k1,z1⟩:=h1 j y h
  obtain ⟨y2,e2,k2,z2⟩:=h2 j y1 e1
  refine ⟨y2,e2,k1.trans k2,fun hm=>?_⟩
  rcases ui.mp hm with q | q
  ·rcases k2.2.2.2 with h | h
   ·exact h.trans (z1 q)
   ·exact h
  ·exact z2 q
theorem Wf.lowT {Ts:List It3} (w:Wf K G H σ ρ (Ts ++ T) g):Wf K G H σ ρ (Ts.map bT ++ T) g:=by
 have sp:∀ {a b:It3},Apart3 a b->Apart3 (bT a) (bT b):=fun h=>⟨bM,bM⟩
 refine ⟨w.len,w.sl,w.sv,w.okS,fun x hx=>?_,w.ss,fun i x e y hy=>?_,?_,w.base,w.pro,⟨fun x hx hf a ea=>?_,w.fx.frS,w.fx.bin,w.fx.ob,w.fx.lvS⟩⟩
 ·rcases ul.mp hx with h | h
  ·obtain ⟨x0,h0,rfl⟩:=uw.mp h
   exact (w.okT x0 (ug _ h0)).low
  ·exact w.okT x (uh _ h)
 ·rcases ul.mp hy with h | h
  ·obtain ⟨y0,h0,rfl⟩:=uw.mp h
   exact ⟨(w.st i x e y0 (ug _ h0)).1,bM⟩
  ·exact w.st i x e y (uh _ h)
 ·have h:=List.pairwise_append.mp w.tt
  refine List.pairwise_append.mpr ⟨?_,h.2.1,fun a ha b hb=>?_⟩
  ·rw [List.pairwise_map]
   exact h.1.imp fun h=>sp h
  ·obtain ⟨a0,h0,rfl⟩:=uw.mp ha
   exact ⟨bM,(h.2.2 a0 h0 b hb).2⟩
 ·rcases ul.mp hx with h | h
  ·obtain ⟨x0,h0,rfl⟩:=uw.mp h
   exact absurd rfl hf
  ·exact w.fx.frT x (uh _ h) hf a ea
theorem gg:∀ {rs:List R3} {i:Nat},R3.pl i ∈ rs->i ∈ pls rs
 | [],_,h=>by cases h
 | .pl j :: rs,i,h=>by
  rcases ui.mp h with e | h
  ·cases e;exact ua
  ·exact ub _ (gg h)
 | .val _ _ :: rs,i,h=>by
  rcases ui.mp h with e | h
  ·cases e
  ·exact gg (rs:=rs) h
theorem Ars.given:∀ {rs:List R3} {vs:List V} {Ts:List It3} {ds:List D} {S:List It3} {g':Nat->Option It3} {is:List Nat},Wf K G H σ ρ T g->(∀ j y,g j=some y->∃ y',g' j=some y'/\Kin y y'/\(j ∈ is->y'.f=.z))->(∀ i,R3.pl i ∈ rs->i ∈ is) ->
  Ars σ rs vs Ts->(∀ x ∈ Ts,x ∈ T)->(∀ x ∈ Ts,bT x ∈ S)->c6 rs ρ=some (.ok ds,ρ)->∃ ys:List It3,(∀ y ∈ ys,Itm S g' y/\y.f=.z)/\ys.map (·.d)=ds/\ys.map (·.v)=vs
 | [],_,_,ds,S,g',is,w,hg,hi,.nil,_,_,e=>by cases e;exact ⟨[],fun _ h=>(by cases h),rfl,rfl⟩
 | r :: rs,_,_,ds,S,g',is,w,hg,hi,.cons (v:=v0) a as,hs,hS,e=>by
  obtain ⟨d,e1,e2⟩:=aX (k:=fun d=>af (c6 rs) fun ds=>bq (d :: ds)) e
  obtain ⟨ds',e3,e4⟩:=bV e2
  cases e4
  obtain ⟨ys,i2,f3,f4⟩:=Ars.given w hg (fun i h=>hi i (ub _ h)) as (fun x hx=>hs x (ug _ hx)) (fun x hx=>hS x (ug _ hx)) e3
  have one:∃ y,(Itm S g' y/\y.f=.z)/\y.d=d/\y.v=v0:=by
   cases a with
   | @pl i v h =>
    have er:der (.pl i) ρ=((ρ[i]?).join).map fun p=>(.ok p.1,ρ):=rfl
    rw [er] at e1
    cases q:(ρ[i]?).join with
    | none=>rw [q] at e1;exact nsE e1
    | some p =>
     rw [q] at e1
     obtain ⟨y,y1,y2,y3,y4⟩:=w.slot (d:=p.1) (f:=p.2) q
     obtain ⟨y',h1,h2,h3⟩:=hg i y y1
     have e5:p.1=d:=by cases e1;rfl
     rw [h] at y4
     refine ⟨y',⟨.inl ⟨i,h1⟩,h3 (hi i ua)⟩,h2.1.trans (y2.trans e5),?_⟩
     rw [h2.2.1];cases y4;rfl
   | val x=>cases e1;exact ⟨bT x,⟨.inr (hS x (by simp)),rfl⟩,rfl,rfl⟩
  obtain ⟨y,i1,f1,f2⟩:=one
  refine ⟨y :: ys,fun z hz=>?_,by simp [f1,f3],by simp [f2,f4]⟩
  rcases ui.mp hz with h | hz
  ·rw [h];exact i1
  ·exact i2 z hz
noncomputable def cb (ys:List It3) (c:Addr):Prop:=∃ y ∈ ys,c ∈ y.L
noncomputable def gives (rs:List R3):M3 (List D):=af (c6 rs) fun ds=>af (frz3 (pls rs)) fun _=>bq ds
theorem Ars.gives {rs:List R3} {vs:List V} {Ts:List It3} {k:List D->M3 β} {r:Except D β} (w:Wf K G H σ ρ (Ts ++ T) g) (a:Ars σ rs vs Ts) (e:af (gives rs) k ρ=some (r,ρ')) :
  ∃ ds ρ1 g1,k ds ρ1=some (r,ρ')/\ρ1=frz (pls rs) ρ/\Wf K G H σ ρ1 (Ts.map bT ++ T) g1/\(∀ j y,g j=some y->∃ y',g1 j=some y'/\Kin y y')/\∃ ys:List It3,(∀ y ∈ ys,Itm (Ts.map bT ++ T) g1 y/\y.f=.z)/\ys.map (·.d)=ds/\ys.map (·.v)=vs:=by
 unfold L3.gives at e
 have e0:af (c6 rs) (fun ds=>af (frz3 (pls rs)) fun _=>k ds) ρ=some (r,ρ'):=by
  rw [<- e]
  unfold af
  cases q:c6 rs ρ with
  | none=>rfl
  | some p =>
   obtain ⟨o,ρ2⟩:=p
   cases o with
   | error x=>rfl
   | ok ds=>rfl
 obtain ⟨ds,d1,e1⟩:=bV e0
 obtain ⟨g1,w1,h1⟩:=Wf.frz (is:=pls rs) w
 refine ⟨ds,L3.frz (pls rs) ρ,g1,e1,rfl,w1.lowT,fun j y h=>let ⟨y',a,b,_⟩:=h1 j y h;⟨y',a,b⟩,?_⟩
 exact Ars.given w h1 (fun i h=>gg h) a (fun x hx=>ug _ hx) (fun x hx=>ug _ (uw.mpr ⟨x,hx,rfl⟩)) d1
theorem Wf.alls (w:Wf K G H σ ρ T g) {ys:List It3} (hy:∀ y ∈ ys,Itm T g y/\y.f=.z) {c:Addr} (h:cb ys c):cp T g c/\(G.H0 c=none\/G.src c):=by
 obtain ⟨y,m,hc⟩:=h
 exact ⟨w.kid (hy y m).1 hc fun hf=>absurd (hy y m).2 hf,(w.itm (hy y m).1).src c hc⟩
theorem Wf.doneA {Us:List It3} {ys:List It3} (w:Wf K G H σ ρ (Us ++ T) g) (hy:∀ y ∈ ys,Itm (Us ++ T) g y/\y.f=.z) (n:New K H H' (cb ys) x):Got K G σ ρ T (.val x.d x.f) x.v H' :=
 ⟨[x],g,(w.push n fun c h=>w.alls hy h).sub (by simpa using List.Sublist.cons_cons x (uu Us T)),.val x⟩
theorem gf:∀ {ys:List It3},(∀ y ∈ ys,Rep K H y.d y.v y.L)->Reps (Rep K H) (ys.map (·.d)) (ys.map (·.v)) (ys.map (·.L)).flatten
 | [],_=>.nil
 | y :: ys,h=>.cons (h y ua) (gf fun z hz=>h z (ub _ hz))
theorem cR {ys:List It3} {c:Addr} (h:c ∈ (ys.map (·.L)).flatten):cb ys c:=by
 obtain ⟨l,hl,hc⟩:=List.mem_flatten.mp h
 obtain ⟨y,hy,rfl⟩:=uw.mp hl
 exact ⟨y,hy,hc⟩
noncomputable def qz (mk:List D->D) (f:Fl) (ms:M3 (List R3)):EM:=af ms fun rs=>af (gives rs) fun ds=>bA (if ds.length<=16777216 then some (.val (mk ds) f) else none)
noncomputable abbrev fY:M3 (List R3)->EM:=qz .tup .z
noncomputable abbrev jh:M3 (List R3)->EM:=qz .lst .u
theorem bp {H:Hp} {p:Addr} {o:HO} (h:H p=none):Same H (upd H p o):=fun b u e=>by
 rw [aC (aW e h)];exact e
set_option tactic.hygienic true in
theorem r9 (hz:(16777216:Nat)=sizeLine) {ms:M3 (List R3)} {Q:VK} (h:tE K G0 W0 (fY ms) σ H Q):tTup (tA K G0 W0 ms) σ H Q:=by
 refine h.use fun G W le ρ T g o ρ' w e q=>?_
 refine tA.seq le w e q.err fun rs ρ1 e1 vs H1 Ts g1 w1 a1=>?_
 obtain ⟨ds,ρ2,g2,e2,_,w2,_,ys,hy,f1,f2⟩:=a1.gives w1 e1
 obtain ⟨v,e3,rfl,rfl⟩:=bD e2
 subst f1 f2
 split at e3
 ·rename_i hl
  cases e3
  refine ⟨by rw [uo] at hl ⊢;omega,fun p hp=>?_⟩
  refine q _ _ (Wf.doneA (x:=⟨.tup (ys.map (·.d)),.ref p,(ys.map (·.L)).flatten,.z⟩) w2 hy ⟨bp hp,.tup aS ((gf fun y hy'=>(w2.itm (hy y hy').1).rep).same (bp hp)),fun c hc=>.inr (cR hc),fun hf=>absurd rfl hf⟩)
 ·exact nsE e3
set_option tactic.hygienic true in
theorem sf (hz:(16777216:Nat)=sizeLine) {ms:M3 (List R3)} {Q:VK} (h:tE K G0 W0 (jh ms) σ H Q):tLst (tA K G0 W0 ms) σ H Q:=by
 refine h.use fun G W le ρ T g o ρ' w e q=>?_
 refine tA.seq le w e q.err fun rs ρ1 e1 vs H1 Ts g1 w1 a1=>?_
 obtain ⟨ds,ρ2,g2,e2,_,w2,_,ys,hy,f1,f2⟩:=a1.gives w1 e1
 obtain ⟨v,e3,rfl,rfl⟩:=bD e2
 subst f1 f2
 split at e3
 ·rename_i hl
  cases e3
  refine ⟨by rw [uo] at hl ⊢;omega,fun p hp=>?_⟩
  have np:p ∉ (ys.map (·.L)).flatten:=fun hc=>by
   obtain ⟨y,hm,hc⟩:=cR hc
   obtain ⟨o,ho⟩:=((w2.itm (hy y hm).1).rep.inH p hc).ex
   rw [hp] at ho;exact nsE ho
  refine q _ _ (Wf.doneA (x:=⟨.lst (ys.map (·.d)),.ref p,p :: (ys.map (·.L)).flatten,.u⟩) w2 hy ⟨bp hp,.lst aS ((gf fun y hy'=>(w2.itm (hy y hy').1).rep).same (bp hp)),fun c hc=>?_,fun _=>⟨rfl,p,_,rfl,rfl,np,hp⟩⟩)
  rcases ui.mp hc with e | hc
  ·rw [e];exact .inl hp
  ·exact .inr (cR hc)
 ·exact nsE e3
end
end L3
end
section
namespace L3
open PySem L2
section
variable {K:FG} {G G0:Gm} {W W0:D->Sto->Prop} {H H':Hp} {σ:St} {ρ ρ':Sto} {T T':List It3} {g:Nat->Option It3} {x y z:It3} {α β:Type}
noncomputable def EndS (K:FG) (G:Gm) (W:D->Sto->Prop) (T:List It3) (ρ':Sto) (E:Ends):Except D Flw->Prop
 | .ok .nx=>∀ σ' H' g',Wf K G H' σ' ρ' T g'->E.nx σ' H'
 | .ok .br=>∀ σ' H' g',Wf K G H' σ' ρ' T g'->E.bk σ' H'
 | .ok .ct=>∀ σ' H' g',Wf K G H' σ' ρ' T g'->E.ct σ' H'
 | .ok (.rt d f)=>∀ x σ' H' g',Wf K G H' σ' ρ' (x :: T) g'->x.d=d->x.f=f->E.rt x.v H'
 | .error e=>W e ρ'
theorem EndS.err {E:Ends} {r:Except D Flw} (h:EndS K G W T ρ' E r):∀ x,r=.error x->W x ρ':=by
 intro x e;subst e;exact h
theorem tS.open {m:SM} {E:Ends} (h:tS K G0 W0 m E σ H):∃ G W,Le K G W G0 W0/\∃ ρ T g r ρ',Wf K G H σ ρ T g/\m ρ=some (r,ρ')/\EndS K G W T ρ' E r:=by
 obtain ⟨G,W,le,ρ,T,g,r,ρ',w,e,q⟩:=h
 refine ⟨G,W,le,ρ,T,g,r,ρ',w,e,?_⟩
 cases r with
 | ok r=>cases r <;> exact q
 | error x=>exact q
theorem tS.use {m:SM} {E:Ends} (h:tS K G0 W0 m E σ H) {P:Prop} (k:∀ G W,Le K G W G0 W0->∀ ρ T g r ρ',Wf K G H σ ρ T g->m ρ=some (r,ρ')->EndS K G W T ρ' E r->P):P:=by
 obtain ⟨G,W,le,ρ,T,g,r,ρ',w,e,q⟩:=h.open
 exact k G W le ρ T g r ρ' w e q
theorem tS.mk {m:SM} {E:Ends} {r:Except D Flw} (le:Le K G W G0 W0) (w:Wf K G H σ ρ T g) (e:m ρ=some (r,ρ')) (h:EndS K G W T ρ' E r):tS K G0 W0 m E σ H:=by
 refine ⟨G,W,le,ρ,T,g,r,ρ',w,e,?_⟩
 cases r with
 | ok r=>cases r <;> exact h
 | error x=>exact h
noncomputable def cO:SM:=bq .nx
noncomputable def aI (a b:SM):SM:=af a fun f=>match f with
 | .nx=>b
 | o=>bq o
theorem rV {E:Ends} (h:tS K G0 W0 cO E σ H):qT E σ H:=by
 refine h.use fun G W le ρ T g r ρ' w e q=>?_
 cases e
 exact q _ _ _ w
theorem rR {a b:SM} {E:Ends} (h:tS K G0 W0 (aI a b) E σ H):tSeq (tS K G0 W0 a) (tS K G0 W0 b) E σ H:=by
 refine h.use fun G W le ρ T g r ρ' w e q=>?_
 unfold aI af at e
 cases p:a ρ with
 | none=>rw [p] at e;exact nsE e
 | some p' =>
  obtain ⟨o,ρ1⟩:=p'
  rw [p] at e
  cases o with
  | error x=>cases e;exact tS.mk le w p q
  | ok f =>
   cases f with
   | nx=>exact tS.mk le (r:=.ok .nx) w p fun σ' H' g' w'=>tS.mk le w' e q
   | br=>cases e;exact tS.mk le w p q
   | ct=>cases e;exact tS.mk le w p q
   | rt d f=>cases e;exact tS.mk le w p q
noncomputable def c9 (m:EM):SM:=af m fun _=>bq .nx
theorem pJ {m:EM} {E:Ends} (h:tS K G0 W0 (c9 m) E σ H):qV (tE K G0 W0 m) E σ H:=by
 refine h.use fun G W le ρ T g r ρ' w e q=>?_
 refine tE.seq le w e q.err fun ra ρ1 e1 v H1 ⟨Ts,g1,w1,a1⟩=>?_
 cases e1
 exact q _ _ _ (w1.sub (uu Ts T))
noncomputable def sIf (c:M3 Bool) (a b:SM):SM:=af c fun t=>if t then a else b
theorem tS_if {c:M3 Bool} {a b:SM} {E:Ends} (h:tS K G0 W0 (sIf c a b) E σ H):tIfS (tT K G0 W0 c) (tS K G0 W0 a) (tS K G0 W0 b) E σ H:=by
 refine h.use fun G W le ρ T g r ρ' w e q=>?_
 refine tT.seq le w e q.err fun t ρ1 e1 H1 g1 w1=>?_
 cases t with
 | true=>exact tS.mk le w1 e1 q
 | false=>exact tS.mk le w1 e1 q
noncomputable def nol:Fl->Fl
 | .u=>.u
 | _=>.z
theorem tw (f:Fl):nol f ≠ .l:=by cases f <;> intro h <;> cases h
theorem tv (f:Fl):nol f=f\/nol f=.z:=by cases f <;> first | exact .inl rfl | exact .inr rfl
noncomputable def eD (r:R3):M3 (D × Fl):=match r with
 | .val d f=>bq (d,nol f)
 | .pl i=>fun ρ=>((ρ[i]?).join).map fun p=>(.ok (p.1,.z),lowAt i ρ)
theorem jJ {i:Nat}:eD (.pl i) ρ=((ρ[i]?).join).map fun p=>(.ok (p.1,.z),lowAt i ρ):=rfl
theorem Ar.val_inv {d:D} {f:Fl} {v:V} {Ts:List It3} (a:Ar σ (.val d f) v Ts):∃ x,Ts=[x]/\x.d=d/\x.f=f/\x.v=v:=by
 generalize h:R3.val d f=r at a
 cases a with
 | pl _=>cases h
 | val x=>cases h;exact ⟨x,rfl,rfl,rfl,rfl⟩
theorem Ar.take {r:R3} {v:V} {Ts:List It3} {k:D × Fl->M3 β} {o:Except D β} (w:Wf K G H σ ρ (Ts ++ T) g) (a:Ar σ r v Ts) (e:af (eD r) k ρ=some (o,ρ')) :
  ∃ p ρ1 g1 x,k p ρ1=some (o,ρ')/\Wf K G H σ ρ1 (x :: T) g1/\x.d=p.1/\(p.2=x.f\/p.2=.z)/\p.2 ≠ .l/\x.v=v:=by
 cases a with
 | val x=>exact ⟨(x.d,nol x.f),ρ,g,x,e,w,rfl,tv _,tw _,rfl⟩
 | @pl i v h =>
  unfold af at e
  rw [jJ] at e
  cases q:(ρ[i]?).join with
  | none=>rw [q] at e;exact nsE e
  | some p =>
   rw [q] at e
   obtain ⟨y,y1,y2,y3,y4⟩:=w.slot (d:=p.1) (f:=p.2) q
   obtain ⟨g1,w1,h1⟩:=w.lowAt (i:=i)
   obtain ⟨y',z1,z2,z3⟩:=h1 i y y1
   have hz:=z3 rfl
   refine ⟨(p.1,.z),_,g1,y',e,?_,z2.1.trans y2,.inr rfl,(by intro h;cases h),?_⟩
   ·have nr:∀ u:It3,NoRoot y' u:=fun u hf=>absurd hz hf
    refine ⟨w1.len,w1.sl,w1.sv,w1.okS,fun u hu=>?_,w1.ss,fun j u eu u' hu=>?_,?_,w1.base,w1.pro,⟨fun u hu hf a ea=>?_,w1.fx.frS,w1.fx.bin,w1.fx.ob,w1.fx.lvS⟩⟩
    ·rcases ui.mp hu with h | hu
     ·rw [h];exact w1.okS i y' z1
     ·exact w1.okT u hu
    ·rcases ui.mp hu with h | hu
     ·rw [h]
      refine ⟨?_,nr _⟩
      by_cases ij:j=i
      ·subst ij
       rw [z1] at eu;cases eu
       exact nr _
      ·exact w1.ss j i u y' ij eu z1
     ·exact w1.st j u eu u' hu
    ·exact List.pairwise_cons.mpr ⟨fun u hu=>⟨nr _,(w1.st i y' z1 u hu).2⟩,w1.tt⟩
    ·rcases ui.mp hu with h | hu
     ·rw [h] at hf;exact absurd hz hf
     ·exact w1.fx.frT u hu hf a ea
   ·rw [z2.2.1]
    rw [h] at y4;cases y4;rfl
theorem Wf.store {i:Nat} {f:Fl} (w:Wf K G H σ ρ (x :: T) g) (hi:i < ρ.length) (hp:G.pr i=false) (hf:f=x.f\/f=.z) (hnl:f ≠ .l) :
  Wf K G H (σ.set i (some x.v)) (ρ.set i (some (x.d,f))) T (fun j=>if j=i then some { x with f:=f } else g j):=by
 have hil:i < σ.length:=by rw [w.len];exact hi
 have tx:=List.pairwise_cons.mp w.tt
 have ox:=w.okT x ua
 have nx:∀ u:It3,NoRoot x u->NoRoot { x with f:=f } u:=fun u h q=>by
  rcases hf with e | e
  ·exact h (by rw [<- e];exact q)
  ·exact absurd e q
 have val:∀ j u,(if j=i then some { x with f:=f } else g j)=some u->(j=i/\u = { x with f:=f })\/(j ≠ i/\g j=some u):=fun j u h=>by
  by_cases q:j=i
  ·rw [if_pos q] at h;cases h;exact .inl ⟨q,rfl⟩
  ·rw [if_neg q] at h;exact .inr ⟨q,h⟩
 refine ⟨by rw [List.length_set,List.length_set];exact w.len,fun j=>?_,fun j u h=>?_,fun j u h=>?_,fun u hu=>w.okT u (ub _ hu),fun j k a b n h1 h2=>?_,fun j a h b hb=>?_,tx.2,w.base,fun j hj=>?_,⟨fun u hu=>w.fx.frT u (ub _ hu),fun j u h hpj hfu a ea=>?_,w.fx.bin,w.fx.ob,fun j u h hl=>?_⟩⟩
 ·rw [bx hi]
  by_cases q:j=i
  ·rw [if_pos q,if_pos q];rfl
  ·rw [if_neg q,if_neg q];exact w.sl j
 ·rcases val j u h with ⟨rfl,rfl⟩ | ⟨n,h⟩
  ·rw [List.getElem?_set_self hil]
  ·rw [List.getElem?_set_ne (fun z=>n z.symm)];exact w.sv j u h
 ·rcases val j u h with ⟨rfl,rfl⟩ | ⟨n,h⟩
  ·refine ⟨ox.rep,fun q=>?_,ox.src⟩
   rcases hf with e | e
   ·subst e
    exact ox.own q
   ·exact absurd e q
  ·exact w.okS j u h
 ·rcases val j a h1 with ⟨ej,ea⟩ | ⟨n1,h1'⟩
  ·rcases val k b h2 with ⟨ek,eb⟩ | ⟨n2,h2'⟩
   ·exact absurd (ej.trans ek.symm) n
   ·rw [ea];exact nx b (w.st k b h2' x ua).2
  ·rcases val k b h2 with ⟨ek,eb⟩ | ⟨n2,h2'⟩
   ·rw [eb];exact (w.st j a h1' x ua).1
   ·exact w.ss j k a b n h1' h2'
 ·rcases val j a h with ⟨rfl,rfl⟩ | ⟨n,h⟩
  ·exact ⟨nx b (tx.1 b hb).1,(tx.1 b hb).2⟩
  ·exact w.st j a h b (ub _ hb)
 ·have n:j ≠ i:=fun z=>by subst z;rw [hp] at hj;cases hj
  rw [List.getElem?_set_ne (fun z=>n z.symm)];exact w.pro j hj
 ·rcases val j u h with ⟨_,rfl⟩ | ⟨n,h⟩
  ·rcases hf with e | e
   ·exact w.fx.frT x ua (by rw [<- e];exact hfu) a ea
   ·exact absurd e hfu
  ·exact w.fx.frS j u h hpj hfu a ea
 ·rcases val j u h with ⟨_,rfl⟩ | ⟨n,h⟩
  ·exact absurd hl hnl
  ·exact w.fx.lvS j u h hl
noncomputable def bH (i:Nat) (m:EM):SM:=af m fun r=>af (eD r) fun p=>fun ρ=>if i < ρ.length then some (.ok .nx,ρ.set i (some p)) else none
set_option tactic.hygienic true in
theorem rQ {i:Nat} {m:EM} {E:Ends} (hp:G0.pr i=false) (h:tS K G0 W0 (bH i m) E σ H):nC (tE K G0 W0 m) (lX i) E σ H:=by
 refine h.use fun G W le ρ T g r ρ' w e q=>?_
 refine tE.seq le w e q.err fun ra ρ1 e1 v H1 ⟨Ts,g1,w1,a1⟩=>?_
 obtain ⟨p,ρ2,g2,x,e2,w2,f1,f2,f4,f3⟩:=a1.take w1 e1
 split at e2
 ·rename_i hi
  cases e2
  have:=w2.store (f:=p.2) hi (by rw [le.pr];exact hp) f2 f4
  rw [f1,f3] at this
  exact q _ _ _ this
 ·exact nsE e2
noncomputable def bj (np:Nat) (m:EM):SM:=af m fun r=>match r with
 | .val d f=>bq (.rt d f)
 | .pl i=>fun ρ=>match (ρ[i]?).join with
  | some (d,.u)=>if i < np then some (.ok (.rt d .z),lowAt i ρ) else some (.ok (.rt d .u),ρ.set i none)
  | some (d,_)=>some (.ok (.rt d .z),lowAt i ρ)
  | none=>none
theorem Wf.move {i:Nat} (w:Wf K G H σ ρ T g) (hp:G.pr i=false) (e:g i=some y):Wf K G H σ (ρ.set i none) (y :: T) (fun j=>if j=i then none else g j):=by
 have hi:i < ρ.length:=by
  have:=w.sl i
  rw [e] at this
  exact cn this.symm
 have val:∀ j u,(if j=i then none else g j)=some u->j ≠ i/\g j=some u:=fun j u h=>by
  by_cases q:j=i
  ·rw [if_pos q] at h;exact nsE h
  ·rw [if_neg q] at h;exact ⟨q,h⟩
 refine ⟨by rw [List.length_set];exact w.len,fun j=>?_,fun j u h=>w.sv j u (val j u h).2,fun j u h=>w.okS j u (val j u h).2,fun u hu=>?_,fun j k a b n h1 h2=>w.ss j k a b n (val j a h1).2 (val k b h2).2,fun j a h b hb=>?_,?_,w.base,w.pro,⟨fun u hu hf a ea=>?_,fun j u h=>w.fx.frS j u (val j u h).2,w.fx.bin,w.fx.ob,fun j u h=>w.fx.lvS j u (val j u h).2⟩⟩
 ·rw [bx hi]
  by_cases q:j=i
  ·rw [if_pos q,if_pos q];rfl
  ·rw [if_neg q,if_neg q];exact w.sl j
 ·rcases ui.mp hu with h | hu
  ·rw [h];exact w.okS i y e
  ·exact w.okT u hu
 ·obtain ⟨n,h⟩:=val j a h
  rcases ui.mp hb with h' | hb
  ·rw [h'];exact ⟨w.ss j i a y n h e,w.ss i j y a (Ne.symm n) e h⟩
  ·exact w.st j a h b hb
 ·exact List.pairwise_cons.mpr ⟨fun u hu=>w.st i y e u hu,w.tt⟩
 ·rcases ui.mp hu with h | hu
  ·subst h;exact w.fx.frS i u e hp hf a ea
  ·exact w.fx.frT u hu hf a ea
theorem rS {np:Nat} {m:EM} {E:Ends} (hnp:∀ i,np<=i->G0.pr i=false) (h:tS K G0 W0 (bj np m) E σ H):tRet (tE K G0 W0 m) E σ H:=by
 refine h.use fun G W le ρ T g r ρ' w e q=>?_
 refine tE.seq le w e q.err fun ra ρ1 e1 v H1 ⟨Ts,g1,w1,a1⟩=>?_
 have low:∀ {i:Nat} {d:D} {f:Fl},(ρ1[i]?).join=some (d,f)->some ((.ok (.rt d .z),lowAt i ρ1):Except D Flw × Sto)=some (r,ρ')->Ar σ (.pl i) v Ts->E.rt v H1:=fun {i d f} ej e2 a=>by
  cases e2
  have e3:af (eD (.pl i)) (fun p=>bq (Flw.rt p.1 p.2)) ρ1=some (.ok (.rt d .z),L3.lowAt i ρ1):=by
   unfold af
   rw [jJ,ej]
   rfl
  obtain ⟨p,ρ2,g2,x,e4,w2,f1,f2,_,f3⟩:=a.take w1 e3
  have e5:Flw.rt p.1 p.2=Flw.rt d .z/\ρ2=L3.lowAt i ρ1:=by
   unfold bq at e4
   injection e4 with e4
   injection e4 with e5 e6
   injection e5 with e5
   exact ⟨e5,e6⟩
  obtain ⟨e5,e6⟩:=e5
  injection e5 with e7 e8
  subst e6
  rw [<- f3]
  have w3:=Wf.lowT (Ts:=[x]) w2
  exact q (bT x) σ H1 g2 w3 (f1.trans e7) rfl
 cases a1 with
 | val x=>cases e1;exact q x σ H1 g1 w1 rfl rfl
 | @pl i v h =>
  dsimp only at e1
  cases ej:(ρ1[i]?).join with
  | none=>rw [ej] at e1;exact nsE e1
  | some p =>
   obtain ⟨d,f⟩:=p
   rw [ej] at e1
   cases f with
   | u =>
    dsimp only at e1
    split at e1
    ·exact low ej e1 (.pl h)
    ·cases e1
     obtain ⟨y,y1,y2,y3,y4⟩:=w1.slot ej
     have w2:=Wf.move w1 (by rw [le.pr];exact hnp i (by omega)) y1
     have:=q y σ H1 _ w2 y2 y3
     rw [h] at y4
     cases y4
     exact this
   | l=>exact low ej e1 (.pl h)
   | z=>exact low ej e1 (.pl h)
end
end L3
end
section
namespace L3
open PySem L2
noncomputable abbrev Fn:=List (D × Fl)->Option (Except D (D × Fl) × List (D × Fl))
noncomputable def prs (ρ:Sto):List R3->Option (List (D × Fl))
 | []=>some []
 | .pl i :: rs=>match (ρ[i]?).join,prs ρ rs with
  | some p,some ps=>some (p :: ps)
  | _,_=>none
 | .val d f :: rs=>match prs ρ rs with
  | some ps=>some ((d,f) :: ps)
  | _=>none
noncomputable def kH (rs:List R3):List Nat:=(pls rs).filter fun i=>decide (2<=(pls rs).count i)
noncomputable def back:List R3->List (D × Fl)->List (D × Fl)->Sto->Sto
 | .pl i :: rs,p :: ps,q :: qs,ρ=>back rs ps qs (if p.2=.z then ρ else ρ.set i (some (q.1,if q.2=.z then .z else p.2)))
 | .val _ _ :: rs,_ :: ps,_ :: qs,ρ=>back rs ps qs ρ
 | _,_,_,ρ=>ρ
section
variable {K:FG} {G G0:Gm} {W W0:D->Sto->Prop} {H H':Hp} {σ:St} {ρ ρ':Sto} {T T':List It3} {g:Nat->Option It3} {x y z:It3} {α β:Type}
structure Back1 (K:FG) (H H':Hp) (ps:List It3) (p q:It3):Prop where
 z:p.f=.z->q=p
 v:q.v=p.v
 f:q.f=p.f\/q.f=.z
 arg:Arg K H' q
 src:∀ c ∈ q.L,H c=none\/cb ps c
 there:p.f=.u->∀ b,p.v=.ref b->∃ o,H' b=some o
structure BehindX (K:FG) (H H':Hp) (ps qs:List It3):Prop where
 frame:∀ b o,H b=some o->(∀ p ∈ ps,p.f=.u->p.v ≠ .ref b)->H' b=some o
 back:Paired (Back1 K H H' ps) ps qs
 apart:qs.Pairwise Apart3
structure Behind (K:FG) (H H':Hp) (ps qs:List It3) (x:It3):Prop extends BehindX K H H' ps qs where
 rep:Rep K H' x.d x.v x.L
 own:x.f ≠ .z->eS x.d=true/\∃ a L',x.v=.ref a/\x.L=a :: L'/\a ∉ L'/\H a=none
 src:∀ c ∈ x.L,H c=none\/cb ps c
 apx:∀ q ∈ qs,Apart3 x q
theorem Ars.args:∀ {rs:List R3} {vs:List V} {Ts T:List It3} {pfs:List (D × Fl)},Ars σ rs vs Ts->Wf K G H σ ρ (Ts ++ T) g->(∀ i,2<=(pls rs).count i->∀ y,g i=some y->y.f=.z)->prs ρ rs=some pfs ->
  ∃ ps:List It3,ps.map (fun p=>(p.d,p.f))=pfs/\ps.map (·.v)=vs/\ps.Pairwise Apart3/\(∀ p ∈ ps,(∃ i,R3.pl i ∈ rs/\g i=some p)\/p ∈ Ts)/\Paired (fun r p=>match r with | .pl i=>g i=some p | .val _ _=>p ∈ Ts) rs ps
 | [],_,_,T,pfs,.nil,w,_,e=>by cases e;exact ⟨[],rfl,rfl,.nil,fun _ h=>(by cases h),.nil⟩
 | r :: rs,_,_,T,pfs,.cons (v:=v0) (Ts:=T0) (Us:=U0) a as,w,hd,e=>by
  have wt:Wf K G H σ ρ (U0 ++ (T0 ++ T)) g:=by rw [<- List.append_assoc];exact w
  have hd':∀ i,2<=(pls rs).count i->∀ y,g i=some y->y.f=.z:=fun i hc=>hd i (by
   cases r with
   | pl j=>show 2<=(j :: pls rs).count i;rw [List.count_cons];omega
   | val _ _=>exact hc)
  cases a with
  | @pl i v h =>
   unfold prs at e
   cases q:(ρ[i]?).join with
   | none=>rw [q] at e;exact nsE e
   | some p0 =>
    cases q2:prs ρ rs with
    | none=>rw [q,q2] at e;exact nsE e
    | some pfs' =>
     rw [q,q2] at e
     cases e
     obtain ⟨ps,f1,f2,f3,f4,f5⟩:=Ars.args as wt hd' q2
     obtain ⟨y,y1,y2,y3,y4⟩:=w.slot (d:=p0.1) (f:=p0.2) q
     have hv:y.v=v0:=by rw [h] at y4;cases y4;rfl
     refine ⟨y :: ps,by rw [uC,f1,y2,y3],by rw [uC,f2,hv],List.pairwise_cons.mpr ⟨fun p hp=>?_,f3⟩,fun p hp=>?_,.cons y1 ?_⟩
     ·rcases f4 p hp with ⟨j,hj,ej⟩ | hp
      ·by_cases ij:i=j
       ·subst ij
        have hc:2<=(pls (R3.pl i :: rs)).count i:=by
         show 2<=(i :: pls rs).count i
         rw [List.count_cons_self]
         have:=List.count_pos_iff.mpr (gg hj)
         omega
        have hz:=hd i hc y y1
        have hz':=hd i hc p ej
        exact ⟨fun q=>absurd hz q,fun q=>absurd hz' q⟩
       ·exact ⟨w.ss i j y p ij y1 ej,w.ss j i p y (Ne.symm ij) ej y1⟩
      ·exact w.st i y y1 p (ug _ (ug _ hp))
     ·rcases ui.mp hp with h' | hp
      ·rw [h'];exact .inl ⟨i,ua,y1⟩
      ·rcases f4 p hp with ⟨j,hj,ej⟩ | hp
       ·exact .inl ⟨j,ub _ hj,ej⟩
       ·exact .inr (ug _ hp)
     ·exact Paired.mapP f5 fun r p h=>by
       cases r with
       | pl j=>exact h
       | val _ _=>exact ug _ h
  | val x =>
   unfold prs at e
   cases q2:prs ρ rs with
   | none=>rw [q2] at e;exact nsE e
   | some pfs' =>
    rw [q2] at e
    cases e
    obtain ⟨ps,f1,f2,f3,f4,f5⟩:=Ars.args as wt hd' q2
    refine ⟨x :: ps,by rw [uC,f1],by rw [uC,f2],List.pairwise_cons.mpr ⟨fun p hp=>?_,f3⟩,fun p hp=>?_,.cons (uh _ ua) ?_⟩
    ·rcases f4 p hp with ⟨j,hj,ej⟩ | hp
     ·exact (w.st j p ej x (ug _ (uh _ ua))).symm
     ·have t1:=(List.pairwise_append.mp w.tt).1
      exact ((List.pairwise_append.mp t1).2.2 p hp x ua).symm
    ·rcases ui.mp hp with h' | hp
     ·rw [h'];exact .inr (uh _ ua)
     ·rcases f4 p hp with ⟨j,hj,ej⟩ | hp
      ·exact .inl ⟨j,ub _ hj,ej⟩
      ·exact .inr (ug _ hp)
    ·exact Paired.mapP f5 fun r p h=>by
      cases r with
      | pl j=>exact h
      | val _ _=>exact ug _ h
theorem c7:∀ {rs:List R3} {ps qs:List It3} {ρ:Sto} {g:Nat->Option It3},(∀ j,(g j).map (fun x=>(x.d,x.f))=(ρ[j]?).join)->rs.length=ps.length->Paired (Back1 K H H' T) ps qs->(∀ i,R3.pl i ∈ rs->i < ρ.length) ->
  ∃ g':Nat->Option It3,(∀ j,(g' j).map (fun x=>(x.d,x.f))=((back rs (ps.map fun p=>(p.d,p.f)) (qs.map fun q=>(q.d,q.f)) ρ)[j]?).join)/\(back rs (ps.map fun p=>(p.d,p.f)) (qs.map fun q=>(q.d,q.f)) ρ).length = ρ.length /\
   ∀ j:Nat,(g' j=g j/\∀ (k:Nat) (p:It3),rs[k]?=some (R3.pl j)->ps[k]?=some p->p.f=.z)\/∃ (k:Nat) (p q:It3),rs[k]?=some (R3.pl j)/\ps[k]?=some p/\qs[k]?=some q/\p.f ≠ .z/\g' j=some q
 | [],[],_,ρ,g,hg,_,.nil,_=>⟨g,hg,rfl,fun j=>.inl ⟨rfl,fun k p h=>by simp at h⟩⟩
 | [],_ :: _,_,_,_,_,h,_,_=>by cases h
 | _ :: _,[],_,_,_,_,h,_,_=>by cases h
 | .val d f :: rs,p :: ps,_,ρ,g,hg,hl,.cons (b:=q) (l₂:=qs) b1 bs,hi=>by
  obtain ⟨g',h1,h2,h3⟩:=c7 (rs:=rs) hg (by simpa using hl) bs fun i h=>hi i (ub _ h)
  refine ⟨g',h1,h2,fun j=>?_⟩
  rcases h3 j with ⟨e,h⟩ | ⟨k,p',q',a1,a2,a3,a4⟩
  ·refine .inl ⟨e,fun k p' e1 e2=>?_⟩
   cases k with
   | zero=>simp at e1
   | succ k=>exact h k p' (by simpa using e1) (by simpa using e2)
  ·exact .inr ⟨k+1,p',q',by simpa using a1,by simpa using a2,by simpa using a3,a4⟩
 | .pl i :: rs,p :: ps,_,ρ,g,hg,hl,.cons (b:=q) (l₂:=qs) b1 bs,hi=>by
  have hil:=hi i ua
  by_cases hz:p.f=.z
  ·have eb:back (.pl i :: rs) ((p :: ps).map fun p=>(p.d,p.f)) ((q :: qs).map fun q=>(q.d,q.f)) ρ=back rs (ps.map fun p=>(p.d,p.f)) (qs.map fun q=>(q.d,q.f)) ρ:=by
    show back rs _ _ (if p.f=.z then ρ else _)=_
    rw [if_pos hz]
   rw [eb]
   obtain ⟨g',h1,h2,h3⟩:=c7 (rs:=rs) hg (by simpa using hl) bs fun i h=>hi i (ub _ h)
   refine ⟨g',h1,h2,fun j=>?_⟩
   rcases h3 j with ⟨e,h⟩ | ⟨k,p',q',a1,a2,a3,a4⟩
   ·refine .inl ⟨e,fun k p' e1 e2=>?_⟩
    cases k with
    | zero=>simp at e2;rw [<- e2];exact hz
    | succ k=>exact h k p' (by simpa using e1) (by simpa using e2)
   ·exact .inr ⟨k+1,p',q',by simpa using a1,by simpa using a2,by simpa using a3,a4⟩
  ·have eb:back (.pl i :: rs) ((p :: ps).map fun p=>(p.d,p.f)) ((q :: qs).map fun q=>(q.d,q.f)) ρ=back rs (ps.map fun p=>(p.d,p.f)) (qs.map fun q=>(q.d,q.f)) (ρ.set i (some (q.d,q.f))):=by
    show back rs _ _ (if p.f=.z then ρ else ρ.set i (some (q.d,if q.f=.z then .z else p.f)))=_
    rw [if_neg hz]
    have:(if q.f=.z then Fl.z else p.f)=q.f:=by
     by_cases h:q.f=.z
     ·rw [if_pos h,h]
     ·rw [if_neg h]
      rcases b1.f with h' | h'
      ·exact h'.symm
      ·exact absurd h' h
    rw [this]
   rw [eb]
   obtain ⟨g',h1,h2,h3⟩:=c7 (rs:=rs) (ρ:=ρ.set i (some (q.d,q.f))) (g:=fun j=>if j=i then some q else g j) (fun j=>by
    rw [bx hil]
    by_cases e:j=i
    ·rw [if_pos e,if_pos e];rfl
    ·rw [if_neg e,if_neg e];exact hg j) (by simpa using hl) bs fun i h=>by rw [List.length_set];exact hi i (ub _ h)
   refine ⟨g',h1,by rw [h2,List.length_set],fun j=>?_⟩
   rcases h3 j with ⟨e,h⟩ | ⟨k,p',q',a1,a2,a3,a4⟩
   ·by_cases ej:j=i
    ·rw [if_pos ej] at e
     exact .inr ⟨0,p,q,by simp [ej],rfl,rfl,hz,e⟩
    ·rw [if_neg ej] at e
     refine .inl ⟨e,fun k p' e1 e2=>?_⟩
     cases k with
     | zero=>simp at e1;exact absurd e1.symm ej
     | succ k=>exact h k p' (by simpa using e1) (by simpa using e2)
   ·exact .inr ⟨k+1,p',q',by simpa using a1,by simpa using a2,by simpa using a3,a4⟩
theorem i6:∀ {rs:List R3} {pfs:List (D × Fl)},prs ρ rs=some pfs->rs.length=pfs.length
 | [],pfs,e=>by cases e;rfl
 | .pl i :: rs,pfs,e=>by
  unfold prs at e
  cases q:(ρ[i]?).join with
  | none=>rw [q] at e;exact nsE e
  | some p =>
   cases q2:prs ρ rs with
   | none=>rw [q,q2] at e;exact nsE e
   | some ps=>rw [q,q2] at e;cases e;rw [uI,uI,i6 q2]
 | .val d f :: rs,pfs,e=>by
  unfold prs at e
  cases q2:prs ρ rs with
  | none=>rw [q2] at e;exact nsE e
  | some ps=>rw [q2] at e;cases e;rw [uI,uI,i6 q2]
theorem k8:∀ {rs:List R3} {pfs:List (D × Fl)},prs ρ rs=some pfs->∀ i,R3.pl i ∈ rs->i < ρ.length
 | [],pfs,e,i,h=>by cases h
 | .pl i :: rs,pfs,e,j,h=>by
  unfold prs at e
  cases q:(ρ[i]?).join with
  | none=>rw [q] at e;exact nsE e
  | some p =>
   cases q2:prs ρ rs with
   | none=>rw [q,q2] at e;exact nsE e
   | some ps =>
    rcases ui.mp h with h | h
    ·cases h;exact cn q
    ·exact k8 q2 j h
 | .val d f :: rs,pfs,e,j,h=>by
  unfold prs at e
  cases q2:prs ρ rs with
  | none=>rw [q2] at e;exact nsE e
  | some ps =>
   rcases ui.mp h with h | h
   ·cases h
   ·exact k8 q2 j h
theorem Paired.at {α β:Type} {F:α->β->Prop}:∀ {l:List α} {m:List β} {k:Nat} {a:α} {b:β},Paired F l m->l[k]?=some a->m[k]?=some b->F a b
 | _,_,_,_,_,.nil,h,_=>by simp at h
 | _,_,0,_,_,.cons r _,h,h'=>by simp at h h';subst h h';exact r
 | _,_,k+1,_,_,.cons _ t,h,h'=>Paired.at (k:=k) t (by simpa using h) (by simpa using h')
theorem Paired.exL {α β:Type} {F:α->β->Prop}:∀ {l:List α} {m:List β} {k:Nat} {a:α},Paired F l m->l[k]?=some a->∃ b,m[k]?=some b/\F a b
 | _,_,_,_,.nil,h=>by simp at h
 | _,_,0,_,.cons r _,h=>by simp at h;subst h;exact ⟨_,rfl,r⟩
 | _,_,k+1,_,.cons _ t,h=>let ⟨b,h1,h2⟩:=Paired.exL (k:=k) t (by simpa using h);⟨b,by simpa using h1,h2⟩
theorem Paired.exR {α β:Type} {F:α->β->Prop}:∀ {l:List α} {m:List β} {k:Nat} {b:β},Paired F l m->m[k]?=some b->∃ a,l[k]?=some a/\F a b
 | _,_,_,_,.nil,h=>by simp at h
 | _,_,0,_,.cons r _,h=>by simp at h;subst h;exact ⟨_,rfl,r⟩
 | _,_,k+1,_,.cons _ t,h=>let ⟨b,h1,h2⟩:=Paired.exR (k:=k) t (by simpa using h);⟨b,by simpa using h1,h2⟩
theorem b7 {α:Type} {R:α->α->Prop} {l:List α} (p:l.Pairwise R) (hs:∀ a b,R a b->R b a) {i j:Nat} {a b:α} (n:i ≠ j) (ha:l[i]?=some a) (hb:l[j]?=some b):R a b:=by
 obtain ⟨h1,e1⟩:=uq.mp ha
 obtain ⟨h2,e2⟩:=uq.mp hb
 have q:=List.pairwise_iff_getElem.mp p
 rcases Nat.lt_or_ge i j with h | h
 ·rw [<- e1,<- e2];exact q i j h1 h2 h
 ·rw [<- e1,<- e2];exact hs _ _ (q j i h2 h1 (by omega))
theorem Wf.after {rs:List R3} {Ts ps qs:List It3} {pfs:List (D × Fl)} (w:Wf K G H σ ρ (Ts ++ T) g) (e:prs ρ rs=some pfs) (f1:ps.map (fun p=>(p.d,p.f))=pfs)
  (f4:∀ p ∈ ps,(∃ i,R3.pl i ∈ rs/\g i=some p)\/p ∈ Ts) (f5:Paired (fun r p=>match r with | .pl i=>g i=some p | .val _ _=>p ∈ Ts) rs ps) (B:BehindX K H H' ps qs) :
  ∃ g',Wf K G H' σ (L3.back rs pfs (qs.map fun q=>(q.d,q.f)) ρ) T g' /\
   ∀ x,Rep K H' x.d x.v x.L->(x.f ≠ .z->eS x.d=true/\∃ a L',x.v=.ref a/\x.L=a :: L'/\a ∉ L'/\H a=none)->(∀ c ∈ x.L,H c=none\/cb ps c)->(∀ q ∈ qs,Apart3 x q)->Wf K G H' σ (L3.back rs pfs (qs.map fun q=>(q.d,q.f)) ρ) (x :: T) g':=by
 subst f1
 have hl:rs.length=ps.length:=by have:=i6 e;rwa [uo] at this
 obtain ⟨g',h1,h2,h3⟩:=c7 (K:=K) (H:=H) (H':=H') (T:=ps) (rs:=rs) (ps:=ps) (qs:=qs) w.sl hl B.back (k8 e)
 have hps:∀ p ∈ ps,Itm (Ts ++ T) g p:=fun p hp=>by
  rcases f4 p hp with ⟨i,_,ei⟩ | h
  ·exact .inl ⟨i,ei⟩
  ·exact .inr (ug _ h)
 have dom:∀ b o,H b=some o->∃ o',H' b=some o':=fun b o hb=>by
  by_cases h:∀ p ∈ ps,p.f=.u->p.v ≠ .ref b
  ·exact ⟨o,B.frame b o hb h⟩
  ·have h':∃ p,p ∈ ps/\p.f=.u/\p.v=.ref b:=by
    refine Classical.byContradiction fun n=>h fun p hp hf hv=>n ⟨p,hp,hf,hv⟩
   obtain ⟨p,hp,hf,hv⟩:=h'
   obtain ⟨k,hk,ek⟩:=List.mem_iff_getElem.mp hp
   obtain ⟨q,e1,b1⟩:=Paired.exL B.back (show ps[k]?=some p by rw [uj hk,ek])
   exact b1.there hf b hv
 have ka:∀ j z,g j=some z->(∀ (k:Nat) (p:It3),rs[k]?=some (R3.pl j)->ps[k]?=some p->p.f=.z)->∀ p ∈ ps,Apart3 p z:=fun j z ej hu p hp=>by
  rcases f4 p hp with ⟨i,hi,ei⟩ | h
  ·by_cases ij:i=j
   ·subst ij
    have epz:p=z:=uV (ei.symm.trans ej)
    subst epz
    have hz:p.f=.z:=by
     obtain ⟨k,hk,ek⟩:=List.mem_iff_getElem.mp hi
     have ek':rs[k]?=some (R3.pl i):=by rw [uj hk,ek]
     obtain ⟨p',e1,e2⟩:=Paired.exL f5 ek'
     have e2:g i=some p':=e2
     rw [ei] at e2
     cases e2
     exact hu k p ek' e1
    exact ⟨fun q=>absurd hz q,fun q=>absurd hz q⟩
   ·exact ⟨w.ss i j p z ij ei ej,w.ss j i z p (Ne.symm ij) ej ei⟩
  ·exact (w.st j z ej p (ug _ h)).symm
 have kt:∀ z ∈ T,∀ p ∈ ps,Apart3 p z:=fun z hz p hp=>by
  rcases f4 p hp with ⟨i,hi,ei⟩ | h
  ·exact w.st i p ei z (uh _ hz)
  ·exact (List.pairwise_append.mp w.tt).2.2 p h z hz
 have keep:∀ z,ItOk K G H z->(∀ p ∈ ps,Apart3 p z)->ItOk K G H' z:=fun z oz az=>by
  refine oz.keep (M:=fun b=>∃ p ∈ ps,p.f=.u/\p.v=.ref b) (fun b o hb n=>B.frame b o hb fun p hp hf hv=>n ⟨p,hp,hf,hv⟩) (fun b ⟨p,hp,hf,hv⟩=>?_) (fun b hb ⟨p,hp,hf,hv⟩=>?_)
  ·obtain ⟨_,a,L',e1,e2,_⟩:=(w.itm (hps p hp)).own (by rw [hf];intro q;cases q)
   rw [hv] at e1
   cases e1
   exact (w.itm (hps p hp)).rep.inH b (by rw [e2];exact ua)
  ·exact (az p hp).1 (by rw [hf];intro q;cases q) b hv hb
 have okq:∀ k p q,ps[k]?=some p->qs[k]?=some q->ItOk K G H' q:=fun k p q e1 e2=>by
  have b:=Paired.at B.back e1 e2
  refine ⟨b.arg.rep,fun hf=>?_,fun c hc=>?_⟩
  ·obtain ⟨m,a,L',v1,v2,v3⟩:=b.arg.own hf
   refine ⟨m,a,L',v1,v2,v3,fun hu=>?_⟩
   have pf:p.f=.u:=by
    rcases b.f with h | h
    ·rw [<- h];exact hu
    ·rw [h] at hu;cases hu
   obtain ⟨_,a',L'',e3,_,_,e5⟩:=(w.itm (hps p (ut e1))).own (by rw [pf];intro q;cases q)
   rw [<- b.v,v1] at e3
   cases e3
   exact e5 pf
  ·rcases b.src c hc with h | ⟨p',hp',h⟩
   ·exact .inl (w.h0none h)
   ·exact (w.itm (hps p' hp')).src c h
 have kq:∀ z,ItOk K G H z->(∀ p ∈ ps,Apart3 p z)->∀ k p q,ps[k]?=some p->qs[k]?=some q->Apart3 z q:=fun z oz az k p q e1 e2=>by
  have b:=Paired.at B.back e1 e2
  refine ⟨fun hf a ev hm=>?_,fun hf a ev=>?_⟩
  ·rcases b.src a hm with h | ⟨p',hp',hc⟩
   ·obtain ⟨_,a',L',q1,q2,_⟩:=oz.own hf
    rw [ev] at q1;cases q1
    obtain ⟨o,ho⟩:=(oz.rep.inH a (by rw [q2];exact ua)).ex
    rw [h] at ho;exact nsE ho
   ·exact (az p' hp').2 hf a ev hc
  ·have pf:p.f ≠ .z:=fun q'=>by
    have:=b.z q'
    rw [this] at hf
    exact hf q'
   exact (az p (ut e1)).1 pf a (by rw [<- b.v];exact ev)
 have old:∀ j z,g' j=some z->(g j=some z/\∀ p ∈ ps,Apart3 p z)\/∃ k p,rs[k]?=some (R3.pl j)/\ps[k]?=some p/\qs[k]?=some z:=fun j z ez=>by
  rcases h3 j with ⟨e1,hu⟩ | ⟨k,p,q,a1,a2,a3,_,a5⟩
  ·rw [e1] at ez
   exact .inl ⟨ez,ka j z ez hu⟩
  ·rw [a5] at ez
   cases ez
   exact .inr ⟨k,p,a1,a2,a3⟩
 have wf:Wf K G H' σ (L3.back rs (ps.map fun p=>(p.d,p.f)) (qs.map fun q=>(q.d,q.f)) ρ) T g':=by
  refine ⟨by rw [h2];exact w.len,h1,fun j z ez=>?_,fun j z ez=>?_,fun z hz=>keep z (w.okT z (uh _ hz)) (kt z hz),fun i j a b n ea eb=>?_,fun j z ez t ht=>?_,(List.pairwise_append.mp w.tt).2.1,fun b o e n=>?_,w.pro,⟨fun u hu=>w.fx.frT u (uh _ hu),fun j u h hp hf a ea=>?_,fun b hb=>?_,fun b o h=>?_,fun j u h hl=>?_⟩⟩
  ·rcases old j z ez with ⟨e1,_⟩ | ⟨k,p,a1,a2,a3⟩
   ·exact w.sv j z e1
   ·have ep:g j=some p:=by
     obtain ⟨p',q1,q2⟩:=Paired.exL f5 a1
     rw [a2] at q1;cases q1
     exact q2
    rw [(Paired.at B.back a2 a3).v]
    exact w.sv j p ep
  ·rcases old j z ez with ⟨e1,ap⟩ | ⟨k,p,a1,a2,a3⟩
   ·exact keep z (w.okS j z e1) ap
   ·exact okq k p z a2 a3
  ·rcases old i a ea with ⟨e1,ap⟩ | ⟨k,p,a1,a2,a3⟩
   ·rcases old j b eb with ⟨e2,_⟩ | ⟨k',p',b1,b2,b3⟩
    ·exact w.ss i j a b n e1 e2
    ·exact (kq a (w.okS i a e1) ap k' p' b b2 b3).1
   ·rcases old j b eb with ⟨e2,ap⟩ | ⟨k',p',b1,b2,b3⟩
    ·exact (kq b (w.okS j b e2) ap k p a a2 a3).2
    ·have kk:k ≠ k':=fun z=>by
      subst z
      rw [a1] at b1
      cases b1
      exact n rfl
     exact (b7 B.apart (fun _ _=>Apart3.symm) kk a3 b3).1
  ·rcases old j z ez with ⟨e1,ap⟩ | ⟨k,p,a1,a2,a3⟩
   ·exact w.st j z e1 t (uh _ ht)
   ·exact (kq t (w.okT t (uh _ ht)) (kt t ht) k p z a2 a3).symm
  ·refine B.frame b o (w.base b o e n) fun p hp hf hv=>?_
   obtain ⟨_,a,L',e1,_,_,e3⟩:=(w.itm (hps p hp)).own (by rw [hf];intro q;cases q)
   rw [hv] at e1
   cases e1
   rcases e3 hf with h | h
   ·rw [e] at h;cases h
   ·exact n h
  ·rcases old j u h with ⟨e1,_⟩ | ⟨k,p,a1,a2,a3⟩
   ·exact w.fx.frS j u e1 hp hf a ea
   ·have b:=Paired.at B.back a2 a3
    have ep:g j=some p:=by
     obtain ⟨p',q1,q2⟩:=Paired.exL f5 a1
     rw [a2] at q1;cases q1
     exact q2
    refine w.fx.frS j p ep hp (fun q'=>?_) a (by rw [<- b.v];exact ea)
    have:=b.z q'
    rw [this] at hf
    exact hf q'
  ·obtain ⟨o,ho⟩:=w.fx.bin b hb
   exact dom b o ho
  ·obtain ⟨o',ho⟩:=w.fx.ob b o h
   exact dom b o' ho
  ·rcases old j u h with ⟨e1,_⟩ | ⟨k,p,a1,a2,a3⟩
   ·exact w.fx.lvS j u e1 hl
   ·have b:=Paired.at B.back a2 a3
    have ep:g j=some p:=by
     obtain ⟨p',q1,q2⟩:=Paired.exL f5 a1
     rw [a2] at q1;cases q1
     exact q2
    rw [b.v]
    refine w.fx.lvS j p ep ?_
    rcases b.f with h | h
    ·rw [<- h];exact hl
    ·rw [h] at hl;cases hl
 refine ⟨g',wf,fun x rx ox sx ax=>?_⟩
 have kx:∀ z,ItOk K G H z->(∀ p ∈ ps,Apart3 p z)->Apart3 z x:=fun z oz az=>by
  refine ⟨fun hf a ev hm=>?_,fun hf a ev hm=>?_⟩
  ·rcases sx a hm with h | ⟨p',hp',hc⟩
   ·obtain ⟨_,a',L',q1,q2,_⟩:=oz.own hf
    rw [ev] at q1;cases q1
    obtain ⟨o,ho⟩:=(oz.rep.inH a (by rw [q2];exact ua)).ex
    rw [h] at ho;exact nsE ho
   ·exact (az p' hp').2 hf a ev hc
  ·obtain ⟨_,a',L',q1,_,_,q4⟩:=ox hf
   rw [ev] at q1;cases q1
   obtain ⟨o,ho⟩:=(oz.rep.inH a hm).ex
   rw [q4] at ho;exact nsE ho
 refine ⟨wf.len,wf.sl,wf.sv,wf.okS,fun z hz=>?_,wf.ss,fun j z ez t ht=>?_,?_,wf.base,wf.pro,⟨fun u hu hf a ea=>?_,wf.fx.frS,wf.fx.bin,wf.fx.ob,wf.fx.lvS⟩⟩
 ·rcases ui.mp hz with h | hz
  ·rw [h]
   refine ⟨rx,fun hf=>?_,fun c hc=>?_⟩
   ·obtain ⟨m,a,L',v1,v2,v3,v4⟩:=ox hf
    exact ⟨m,a,L',v1,v2,v3,fun _=>.inl (w.h0none v4)⟩
   ·rcases sx c hc with h | ⟨p',hp',h⟩
    ·exact .inl (w.h0none h)
    ·exact (w.itm (hps p' hp')).src c h
  ·exact wf.okT z hz
 ·rcases ui.mp ht with h | ht
  ·rw [h]
   rcases old j z ez with ⟨e1,ap⟩ | ⟨k,p,a1,a2,a3⟩
   ·exact kx z (w.okS j z e1) ap
   ·exact (ax z (ut a3)).symm
  ·exact wf.st j z ez t ht
 ·exact List.pairwise_cons.mpr ⟨fun t ht=>(kx t (w.okT t (uh _ ht)) (kt t ht)).symm,wf.tt⟩
 ·rcases ui.mp hu with h | hu
  ·subst h
   obtain ⟨_,a',L',q1,_,_,q4⟩:=ox hf
   rw [ea] at q1;cases q1
   exact w.ornone q4
  ·exact wf.fx.frT u hu hf a ea
set_option tactic.hygienic true in
theorem lj {i a:Nat} (h:(ρ[i]?).join=none):((L3.lowAt a ρ)[i]?).join=none:=by
 unfold L3.lowAt
 split
 ·rename_i d hd
  rw [bx (cn hd)]
  by_cases ia:i=a
  ·subst ia;rw [h] at hd;exact nsE hd
  ·rw [if_neg ia];exact h
 ·rename_i d hd
  rw [bx (cn hd)]
  by_cases ia:i=a
  ·subst ia;rw [h] at hd;exact nsE hd
  ·rw [if_neg ia];exact h
 ·exact h
theorem kF {i:Nat}:∀ {is:List Nat} {ρ:Sto},(ρ[i]?).join=none->((L3.frz is ρ)[i]?).join=none
 | [],ρ,h=>h
 | a :: is,ρ,h=>kF (is:=is) (ρ:=L3.lowAt a ρ) (lj h)
end
end L3
end
section
namespace L3
open PySem L2
noncomputable def en (ρ:Sto):Nat->List (D × Fl)->Option (List (D × Fl))
 | _,[]=>some []
 | i,(d,.z) :: ps=>(en ρ (i+1) ps).map fun r=>(d,.z) :: r
 | i,(d,f) :: ps=>match (ρ[i]?).join,en ρ (i+1) ps with
  | some (d',f'),some r=>if f'=f\/f'=.z then some ((d',f') :: r) else none
  | _,_=>none
noncomputable def gO (n:Nat) (ps:List (D × Fl)):Sto:=ps.map some ++ List.replicate (n - ps.length) none
noncomputable def fn0 (n:Nat) (b:SM):Fn:=fun ps=>match b (gO n ps) with
 | some (.ok .nx,ρ')=>(en ρ' 0 ps).map fun fs=>(.ok (.non,.z),fs)
 | some (.ok (.rt d f),ρ')=>(en ρ' 0 ps).map fun fs=>(.ok (d,f),fs)
 | some (.error e,ρ')=>(en ρ' 0 ps).map fun fs=>(.error e,fs)
 | _=>none
noncomputable def qC (b:Bool) (p:D × Fl):D × Fl:=if b then (p.1,.z) else p
noncomputable def fnM (mask:List Bool) (n:Nat) (b:SM):Fn:=fun ps=>if ps.length=mask.length then fn0 n b (List.zipWith qC mask ps) else none
section
variable {K:FG} {G:Gm} {W:D->Sto->Prop} {H H':Hp} {σ:St} {ρ ρ':Sto} {T T':List It3} {g:Nat->Option It3} {x y z:It3} {α β:Type}
noncomputable def gOf (H:Hp) (pr:Nat->Bool) (σ0:St) (ps:List It3):Gm:=⟨H,fun b=>∃ p ∈ ps,p.f=.u/\p.v=.ref b,pr,σ0,H,cb ps,fun i=>(ps[i]?).map (·.v)⟩
theorem mU {n:Nat} {ps:List (D × Fl)} (hn:ps.length<=n) (i:Nat):((gO n ps)[i]?).join=ps[i]?:=by
 unfold gO
 by_cases h:i < ps.length
 ·rw [uP (by simpa using h),ux]
  cases ps[i]? <;> rfl
 ·rw [List.getElem?_append_right (by simpa using h),List.getElem?_replicate,List.getElem?_eq_none (by omega)]
  split <;> rfl
theorem ip {n:Nat} {vs:List V} {i:Nat} {v:V} (h:vs[i]?=some v):(vs.map some ++ List.replicate n (none:Option V))[i]?=some (some v):=by
 obtain ⟨hi,e⟩:=uq.mp h
 rw [uP (by simpa using hi),ux,h]
 rfl
theorem nt {n:Nat} {pr:Nat->Bool} {ps:List It3} (hn:ps.length<=n) (ha:∀ p ∈ ps,Arg K H p) (hp:ps.Pairwise Apart3) (hpr:∀ (i:Nat) (p:It3),ps[i]?=some p->p.f ≠ .z->pr i=true) :
  Wf K (gOf H pr ((ps.map (·.v)).map some ++ List.replicate (n - (ps.map (·.v)).length) none) ps) H ((ps.map (·.v)).map some ++ List.replicate (n - (ps.map (·.v)).length) none) (gO n (ps.map fun p=>(p.d,p.f))) [] (fun i=>ps[i]?):=by
 refine ⟨?_,fun i=>?_,fun i x e=>?_,fun i x e=>?_,fun _ h=>(by cases h),fun i j a b n ea eb=>?_,fun _ _ _ _ h=>(by cases h),.nil,fun b o e _=>e,fun i _=>rfl,⟨fun _ h=>(by cases h),fun i x e hz hf=>?_,fun b h=>?_,fun b o e=>⟨o,e⟩,fun i x e _=>(by show (ps[i]?).map (·.v)=_;rw [e];rfl)⟩⟩
 ·unfold gO;simp
 ·rw [mU (by simpa using hn),ux]
 ·exact ip (by rw [ux,e];rfl)
 ·have hm:=ut e
  refine ⟨(ha x hm).rep,fun hf=>?_,fun c hc=>.inr ⟨x,hm,hc⟩⟩
  obtain ⟨m,a,L',v1,v2,v3⟩:=(ha x hm).own hf
  exact ⟨m,a,L',v1,v2,v3,fun hu=>.inr ⟨x,hm,hu,v1⟩⟩
 ·exact (b7 hp (fun _ _=>Apart3.symm) n ea eb).1
 ·have hz:pr i=false:=hz
  rw [hpr i x e hf] at hz;cases hz
 ·obtain ⟨p,hm,hf,hv⟩:=h
  obtain ⟨_,a,L',v1,v2,_⟩:=(ha p hm).own (by rw [hf];intro q;cases q)
  rw [hv] at v1;cases v1
  exact ((ha p hm).rep.inH b (by rw [v2];exact ua)).ex
noncomputable def FinsOk (ρ:Sto) (i:Nat) (ps fs:List (D × Fl)):Prop:=fs.length=ps.length/\∀ (k:Nat) (p:D × Fl),ps[k]?=some p->∃ q,fs[k]?=some q/\(p.2=.z->q=p)/\(p.2 ≠ .z->(ρ[i+k]?).join=some q/\(q.2=p.2\/q.2=.z))
theorem FinsOk.cons {i:Nat} {p0 q0:D × Fl} {ps fs:List (D × Fl)} (h:FinsOk ρ (i+1) ps fs) (hz:p0.2=.z->q0=p0) (hn:p0.2 ≠ .z->(ρ[i]?).join=some q0/\(q0.2=p0.2\/q0.2=.z)):FinsOk ρ i (p0 :: ps) (q0 :: fs):=by
 refine ⟨by rw [uI,uI,h.1],fun k p hk=>?_⟩
 cases k with
 | zero=>cases hk;exact ⟨q0,rfl,hz,hn⟩
 | succ k =>
  obtain ⟨q,a,b,c⟩:=h.2 k p hk
  exact ⟨q,a,b,fun n=>by have:=c n;rwa [show i+1+k=i+(k+1) by omega] at this⟩
theorem fm:∀ {i:Nat} {ps:List (D × Fl)} {fs:List (D × Fl)},en ρ i ps=some fs->FinsOk ρ i ps fs
 | i,[],fs,e=>by cases e;exact ⟨rfl,fun k p h=>by cases h⟩
 | i,p0 :: ps,fs,e=>by
  obtain ⟨d,f⟩:=p0
  have key:f ≠ .z->(match (ρ[i]?).join,en ρ (i+1) ps with
    | some (d',f'),some r=>if f'=f\/f'=.z then some ((d',f') :: r) else none
    | _,_=>none)=some fs->FinsOk ρ i ((d,f) :: ps) fs:=fun hf e=>by
   cases h:(ρ[i]?).join with
   | none=>rw [h] at e;exact nsE e
   | some p0 =>
    cases h2:en ρ (i+1) ps with
    | none=>rw [h,h2] at e;exact nsE e
    | some r =>
     rw [h,h2] at e
     obtain ⟨d',f'⟩:=p0
     dsimp only at e
     rcases Decidable.em (f'=f\/f'=.z) with hc | hc
     ·rw [if_pos hc] at e
      cases e
      exact (fm h2).cons (fun z=>absurd z hf) fun _=>⟨h,hc⟩
     ·rw [if_neg hc] at e;exact nsE e
  cases f with
  | z =>
   obtain ⟨r,h,h'⟩:=ue.mp (show (en ρ (i+1) ps).map (fun r=>(d,Fl.z) :: r)=some fs from e)
   subst h'
   exact (fm h).cons (fun _=>rfl) fun n=>absurd rfl n
  | u=>exact key (by intro q;cases q) e
  | l=>exact key (by intro q;cases q) e
theorem fy {α β:Type} {P:Nat->α->β->Prop}:∀ (l:List α) (i:Nat),(∀ (k:Nat) a,l[k]?=some a->∃ b,P (i+k) a b)->∃ m:List β,m.length=l.length/\∀ (k:Nat) a,l[k]?=some a->∃ b,m[k]?=some b/\P (i+k) a b
 | [],i,_=>⟨[],rfl,fun k a h=>by simp at h⟩
 | a :: l,i,h=>by
  obtain ⟨b,hb⟩:=h 0 a rfl
  obtain ⟨m,h1,h2⟩:=fy l (i+1) fun k a e=>by
   have:=h (k+1) a (by simpa using e)
   rwa [show i+(k+1)=i+1+k by omega] at this
  refine ⟨b :: m,by simp [h1],fun k a' e=>?_⟩
  cases k with
  | zero=>simp at e;subst e;exact ⟨b,rfl,hb⟩
  | succ k =>
   obtain ⟨b',e1,e2⟩:=h2 k a' (by simpa using e)
   exact ⟨b',by simpa using e1,by rwa [show i+(k+1)=i+1+k by omega]⟩
theorem Paired.ofGet {α β:Type} {F:α->β->Prop}:∀ {l:List α} {m:List β},l.length=m.length->(∀ (k:Nat) a b,l[k]?=some a->m[k]?=some b->F a b)->Paired F l m
 | [],[],_,_=>.nil
 | [],_ :: _,h,_=>by cases h
 | _ :: _,[],h,_=>by cases h
 | a :: l,b :: m,h,f=>.cons (f 0 a b rfl rfl) (Paired.ofGet (by simpa using h) fun k a b e1 e2=>f (k+1) a b (by simpa using e1) (by simpa using e2))
theorem kS {n:Nat} {pr:Nat->Bool} {σ0:St} {ps:List It3} {fs:List (D × Fl)} (ha:∀ p ∈ ps,Arg K H p) (hp:ps.Pairwise Apart3) (hpr:∀ (i:Nat) (p:It3),ps[i]?=some p->p.f ≠ .z->pr i=true) (h0:∀ (i:Nat) (p:It3),ps[i]?=some p->σ0[i]?=some (some p.v))
  (w:Wf K (gOf H pr σ0 ps) H' σ ρ T g) (e:en ρ 0 (ps.map fun p=>(p.d,p.f))=some fs) :
  ∃ qs,BehindX K H H' ps qs/\qs.map (fun q=>(q.d,q.f))=fs/\(∀ (k:Nat) (p q:It3),ps[k]?=some p->qs[k]?=some q->(p.f=.z/\q=p)\/(p.f ≠ .z/\g k=some q)):=by
 obtain ⟨hl,hs⟩:=fm e
 rw [uo] at hl
 have frame:∀ b o,H b=some o->(∀ p ∈ ps,p.f=.u->p.v ≠ .ref b)->H' b=some o:=fun b o hb hn=>w.base b o hb fun ⟨p,hm,hf,hv⟩=>hn p hm hf hv
 have there:∀ b o,H b=some o->∃ o',H' b=some o':=fun b o hb=>w.fx.ob b o hb
 have repz:∀ (k:Nat) (p:It3),ps[k]?=some p->p.f=.z->Rep K H' p.d p.v p.L:=fun k p ek hz=>by
  refine (ha p (ut ek)).rep.keep (M:=fun b=>∃ p ∈ ps,p.f=.u/\p.v=.ref b) (fun b o hb hn=>frame b o hb fun p hp hf hv=>hn ⟨p,hp,hf,hv⟩) (fun b ⟨p',hm,hf,hv⟩=>?_) fun b hb ⟨p',hm,hf,hv⟩=>?_
  ·obtain ⟨_,a,L',v1,v2,_⟩:=(ha p' hm).own (by rw [hf];intro q;cases q)
   rw [hv] at v1;cases v1
   exact (ha p' hm).rep.inH b (by rw [v2];exact ua)
  ·obtain ⟨j,hj,ej⟩:=List.mem_iff_getElem.mp hm
   have ej':ps[j]?=some p':=by rw [uj hj,ej]
   have jk:j ≠ k:=fun z=>by subst z;rw [ek] at ej';cases ej';rw [hz] at hf;cases hf
   exact (b7 hp (fun _ _=>Apart3.symm) jk ej' ek).1 (by rw [hf];intro q;cases q) b hv hb
 have one:∀ (k:Nat) (p:It3),ps[k]?=some p->∃ q,(q.d,q.f)=(fs[k]?).getD (p.d,p.f)/\fs[k]?=some (q.d,q.f)/\Back1 K H H' ps p q/\((p.f=.z/\q=p)\/(p.f ≠ .z/\g k=some q)):=fun k p ek=>by
  have hm:=ut ek
  obtain ⟨q0,f1,f2,f3⟩:=hs k (p.d,p.f) (by rw [ux,ek];rfl)
  by_cases hz:p.f=.z
  ·have:=f2 hz
   subst this
   refine ⟨p,by rw [f1];rfl,f1,⟨fun _=>rfl,rfl,.inl rfl,⟨repz k p ek hz,fun h=>absurd hz h⟩,fun c hc=>.inr ⟨p,hm,hc⟩,fun h=>?_⟩,.inl ⟨hz,rfl⟩⟩
   rw [hz] at h;cases h
  ·obtain ⟨h1,h2⟩:=f3 hz
   rw [Nat.zero_add] at h1
   obtain ⟨y,y1,y2,y3,y4⟩:=w.slot (d:=q0.1) (f:=q0.2) h1
   have hv:y.v=p.v:=by
    have:=w.pro k (hpr k p ek hz)
    rw [y4] at this
    have h0:some (some y.v)=some (some p.v):=this.trans (h0 k p ek)
    injection h0 with h0
    injection h0
   have ok:=w.okS k y y1
   refine ⟨y,by rw [f1,y2,y3];rfl,by rw [f1,y2,y3],⟨fun h=>absurd h hz,hv,by rw [y3];exact h2,⟨ok.rep,fun hf=>?_⟩,fun c hc=>ok.src c hc,fun hf b hb=>?_⟩,.inr ⟨hz,y1⟩⟩
   ·obtain ⟨m,a,L',v1,v2,v3,_⟩:=ok.own hf
    exact ⟨m,a,L',v1,v2,v3⟩
   ·obtain ⟨_,a,L',v1,v2,_⟩:=(ha p hm).own hz
    rw [hb] at v1;cases v1
    obtain ⟨o,ho⟩:=((ha p hm).rep.inH b (by rw [v2];exact ua)).ex
    exact there b o ho
 obtain ⟨qs,hq,hall⟩:=fy (P:=fun k p q=>fs[k]?=some (q.d,q.f)/\Back1 K H H' ps p q/\((p.f=.z/\q=p)\/(p.f ≠ .z/\g k=some q))) ps 0 fun k p ek=>by
  obtain ⟨q,_,a,b,c⟩:=one k p ek
  exact ⟨q,by simpa using ⟨a,b,c⟩⟩
 have get:∀ (k:Nat) (p q:It3),ps[k]?=some p->qs[k]?=some q->fs[k]?=some (q.d,q.f)/\Back1 K H H' ps p q/\((p.f=.z/\q=p)\/(p.f ≠ .z/\g k=some q)):=fun k p q ep eq=>by
  obtain ⟨q',e1,e2⟩:=hall k p ep
  rw [eq] at e1
  cases e1
  simpa using e2
 have par:∀ (k:Nat) (q:It3),qs[k]?=some q->∃ p,ps[k]?=some p:=fun k q e=>by
  have hk:=(uq.mp e).1
  exact ⟨ps[k]'(by omega),by simp [show k < ps.length by omega]⟩
 refine ⟨qs,⟨frame,Paired.ofGet hq.symm fun k p q ep eq=>(get k p q ep eq).2.1,?_⟩,?_,fun k p q ep eq=>(get k p q ep eq).2.2⟩
 ·rw [List.pairwise_iff_getElem]
  intro k j hk hj lt
  have ek:qs[k]?=some qs[k]:=uj hk
  have ej:qs[j]?=some qs[j]:=uj hj
  have side:∀ (k j:Nat) (q r:It3),k ≠ j->qs[k]?=some q->qs[j]?=some r->NoRoot q r:=fun k j q r n eq er=>by
   obtain ⟨p,ep⟩:=par k q eq
   obtain ⟨p',ep'⟩:=par j r er
   obtain ⟨_,b,c⟩:=get k p q ep eq
   obtain ⟨_,b',c'⟩:=get j p' r ep' er
   rcases c with ⟨hz,e⟩ | ⟨hz,e⟩
   ·rw [e];exact fun h=>absurd hz h
   ·rcases c' with ⟨hz',e'⟩ | ⟨hz',e'⟩
    ·rw [e']
     intro hf a ea
     exact (b7 hp (fun _ _=>Apart3.symm) n ep ep').1 hz a (by rw [<- b.v];exact ea)
    ·exact w.ss k j q r n e e'
  exact ⟨side k j _ _ (uA lt) ek ej,side j k _ _ (Nat.ne_of_gt lt) ej ek⟩
 ·refine List.ext_getElem? fun k=>?_
  rw [ux]
  cases eq:qs[k]? with
  | none =>
   have:qs.length<=k:=List.getElem?_eq_none_iff.mp eq
   rw [List.getElem?_eq_none (by omega)]
   rfl
  | some q =>
   obtain ⟨p,ep⟩:=par k q eq
   rw [(get k p q ep eq).1]
   rfl
theorem lx {n:Nat} {pr:Nat->Bool} {σ0:St} {ps:List It3} {fs:List (D × Fl)} (ha:∀ p ∈ ps,Arg K H p) (hp:ps.Pairwise Apart3) (hpr:∀ (i:Nat) (p:It3),ps[i]?=some p->p.f ≠ .z->pr i=true) (h0:∀ (i:Nat) (p:It3),ps[i]?=some p->σ0[i]?=some (some p.v))
  (w:Wf K (gOf H pr σ0 ps) H' σ ρ (x :: T) g) (e:en ρ 0 (ps.map fun p=>(p.d,p.f))=some fs):∃ qs,Behind K H H' ps qs x/\qs.map (fun q=>(q.d,q.f))=fs:=by
 obtain ⟨qs,B,f,hg⟩:=kS (n:=n) ha hp hpr h0 w e
 have ok:=w.okT x ua
 refine ⟨qs,⟨B,ok.rep,fun hf=>?_,fun c hc=>ok.src c hc,fun q hq=>?_⟩,f⟩
 ·obtain ⟨m,a,L',v1,v2,v3,_⟩:=ok.own hf
  exact ⟨m,a,L',v1,v2,v3,w.fx.frT x ua hf a v1⟩
 ·obtain ⟨k,hk,ek⟩:=List.mem_iff_getElem.mp hq
  have eq:qs[k]?=some q:=by rw [uj hk,ek]
  obtain ⟨p,ep,b⟩:=Paired.exR B.back eq
  rcases hg k p q ep eq with ⟨hz,e⟩ | ⟨hz,e⟩
  ·rw [e]
   refine ⟨fun hf a ea hm=>?_,fun h=>absurd hz h⟩
   have h1:=w.fx.frT x ua hf a ea
   obtain ⟨o,ho⟩:=((ha p (ut ep)).rep.inH a hm).ex
   have h2:H a=none:=h1
   rw [h2] at ho;exact nsE ho
  ·exact (w.st k q e x ua).symm
end
end L3
end
section
namespace L3
open PySem L2
noncomputable def cG:Fl->Fl
 | .u=>.l
 | f=>f
noncomputable def a8 (x:It3):It3:={ x with f:=cG x.f }
noncomputable def dW:Fl->Fl
 | .l=>.u
 | f=>f
noncomputable def pH (x:It3):It3:={ x with f:=dW x.f }
noncomputable def gD (h:Fl->Fl) (i:Nat) (ρ:Sto):Sto:=match (ρ[i]?).join with
 | some (d,f)=>ρ.set i (some (d,h f))
 | none=>ρ
noncomputable def aL (h:Fl->Fl) (is:List Nat) (ρ:Sto):Sto:=is.foldl (fun ρ i=>gD h i ρ) ρ
noncomputable def us (ρ:Sto) (is:List Nat):List Nat:=is.filter fun i=>match (ρ[i]?).join with
 | some (_,.u)=>true
 | _=>false
theorem lentF_z {f:Fl}:cG f=.z ↔ f=.z:=by cases f <;> simp [cG]
theorem unlF_z {f:Fl}:dW f=.z ↔ f=.z:=by cases f <;> simp [dW]
theorem lO (f:Fl):cG f ≠ .u:=by cases f <;> simp [cG]
theorem rH (f:Fl):dW f ≠ .l:=by cases f <;> simp [dW]
section
variable {K:FG} {G G0:Gm} {W W0:D->Sto->Prop} {H H':Hp} {σ:St} {ρ ρ':Sto} {T T':List It3} {g:Nat->Option It3} {x y z:It3} {α β:Type}
theorem ld {h:Fl->Fl} {i j:Nat}:((gD h i ρ)[j]?).join=if j=i then ((ρ[j]?).join).map (fun p=>(p.1,h p.2)) else (ρ[j]?).join:=by
 unfold gD
 cases e:(ρ[i]?).join with
 | none =>
  by_cases q:j=i
  ·subst q;rw [if_pos rfl,e];rfl
  ·rw [if_neg q]
 | some p =>
  obtain ⟨d,f⟩:=p
  dsimp only
  rw [bx (cn e)]
  by_cases q:j=i
  ·subst q;rw [if_pos rfl,if_pos rfl,e];rfl
  ·rw [if_neg q,if_neg q]
theorem mJ {h:Fl->Fl} {i:Nat}:(gD h i ρ).length = ρ.length:=by
 unfold gD
 split
 ·rw [List.length_set]
 ·rfl
theorem dz {h:Fl->Fl} (hh:∀ f,h (h f)=h f):∀ {is:List Nat} {ρ:Sto} {j:Nat},((aL h is ρ)[j]?).join=if j ∈ is then ((ρ[j]?).join).map (fun p=>(p.1,h p.2)) else (ρ[j]?).join
 | [],ρ,j=>by simp [aL]
 | i :: is,ρ,j=>by
  have e:aL h (i :: is) ρ=aL h is (gD h i ρ):=rfl
  rw [e,dz hh,ld]
  by_cases q:j=i
  ·subst q
   by_cases m:j ∈ is
   ·rw [if_pos m,if_pos rfl,if_pos ua]
    cases (ρ[j]?).join with
    | none=>rfl
    | some p=>simp [hh]
   ·rw [if_neg m,if_pos rfl,if_pos ua]
  ·by_cases m:j ∈ is
   ·rw [if_pos m,if_neg q,if_pos (ub _ m)]
   ·rw [if_neg m,if_neg q,if_neg (fun z=>(ui.mp z).elim q m)]
theorem d9 {h:Fl->Fl}:∀ {is:List Nat} {ρ:Sto},(aL h is ρ).length = ρ.length
 | [],ρ=>rfl
 | i :: is,ρ=>by
  have e:aL h (i :: is) ρ=aL h is (gD h i ρ):=rfl
  rw [e,d9,mJ]
noncomputable def cx (G:Gm) (H:Hp) (g:Nat->Option It3) (is:List Nat):Gm :=
 ⟨H,fun b=>∃ j y,j ∉ is/\g j=some y/\y.f=.u/\y.v=.ref b,G.pr,G.σ0,G.orig,fun c=>G.H0 c=none\/G.src c,fun j=>if j ∈ is then (g j).map (·.v) else G.lv j⟩
structure Fk (x y:It3):Prop where
 d:y.d=x.d
 v:y.v=x.v
 L:y.L=x.L
 z:y.f=.z ↔ x.f=.z
theorem Fk.noRoot {x x' y y':It3} (a:Fk x x') (b:Fk y y') (h:NoRoot x y):NoRoot x' y':=fun hf c e=>by
 rw [b.L]
 exact h (fun q=>hf (a.z.mpr q)) c (by rw [<- a.v];exact e)
theorem Fk.apart {x x' y y':It3} (a:Fk x x') (b:Fk y y') (h:Apart3 x y):Apart3 x' y':=⟨a.noRoot b h.1,b.noRoot a h.2⟩
theorem Fk.refl (x:It3):Fk x x:=⟨rfl,rfl,rfl,Iff.rfl⟩
theorem gi (x:It3):Fk x (a8 x):=⟨rfl,rfl,rfl,lentF_z⟩
theorem tV (x:It3):Fk x (pH x):=⟨rfl,rfl,rfl,unlF_z⟩
theorem kb {o:Option It3} {h:Fl->Fl} {p:Option (D × Fl)} (e:o.map (fun x=>(x.d,x.f))=p):(o.map fun x=>{ x with f:=h x.f }).map (fun x:It3=>(x.d,x.f))=p.map fun p=>(p.1,h p.2):=by
 subst e
 cases o <;> rfl
theorem Wf.enter (w:Wf K G H σ ρ T g) (is:List Nat):Wf K (cx G H g is) H σ (aL cG is ρ) (T.map a8) (fun j=>if j ∈ is then (g j).map a8 else g j):=by
 have val:∀ j u,(if j ∈ is then (g j).map a8 else g j)=some u->∃ u0,g j=some u0/\Fk u0 u/\((j ∈ is/\u=a8 u0)\/(j ∉ is/\u=u0)):=fun j u h=>by
  by_cases q:j ∈ is
  ·rw [if_pos q] at h
   obtain ⟨u0,e1,e2⟩:=ue.mp h
   subst e2
   exact ⟨u0,e1,gi u0,.inl ⟨q,rfl⟩⟩
  ·rw [if_neg q] at h
   exact ⟨u,h,Fk.refl u,.inr ⟨q,rfl⟩⟩
 refine ⟨by rw [d9];exact w.len,fun j=>?_,fun j u h=>?_,fun j u h=>?_,fun u hu=>?_,fun i j a b n ha hb=>?_,fun j a h b hb=>?_,?_,fun b o e _=>e,w.pro,⟨fun u hu hf a ea=>?_,fun j u h hp hf a ea=>?_,fun b hb=>?_,w.fx.ob,fun j u h hl=>?_⟩⟩
 ·rw [dz (by intro f;cases f <;> rfl)]
  by_cases q:j ∈ is
  ·rw [if_pos q,if_pos q];exact kb (w.sl j)
  ·rw [if_neg q,if_neg q];exact w.sl j
 ·obtain ⟨u0,e,k,_⟩:=val j u h
  rw [k.v];exact w.sv j u0 e
 ·obtain ⟨u0,e,k,c⟩:=val j u h
  have ok:=w.okS j u0 e
  refine ⟨by rw [k.d,k.v,k.L];exact ok.rep,fun hf=>?_,fun c hc=>.inr (ok.src c (by rw [<- k.L];exact hc))⟩
  obtain ⟨m,a,L',v1,v2,v3,_⟩:=ok.own (fun q=>hf (k.z.mpr q))
  refine ⟨by rw [k.d];exact m,a,L',by rw [k.v];exact v1,by rw [k.L];exact v2,v3,fun hu=>?_⟩
  rcases c with ⟨_,rfl⟩ | ⟨nj,rfl⟩
  ·exact absurd hu (lO _)
  ·exact .inr ⟨j,u,nj,e,hu,v1⟩
 ·obtain ⟨u0,h0,rfl⟩:=uw.mp hu
  have ok:=w.okT u0 h0
  refine ⟨ok.rep,fun hf=>?_,fun c hc=>.inr (ok.src c hc)⟩
  obtain ⟨m,a,L',v1,v2,v3,_⟩:=ok.own (fun q=>hf (lentF_z.mpr q))
  exact ⟨m,a,L',v1,v2,v3,fun hu=>absurd hu (lO _)⟩
 ·obtain ⟨a0,e1,k1,_⟩:=val i a ha
  obtain ⟨b0,e2,k2,_⟩:=val j b hb
  exact k1.noRoot k2 (w.ss i j a0 b0 n e1 e2)
 ·obtain ⟨a0,e1,k1,_⟩:=val j a h
  obtain ⟨b0,h0,rfl⟩:=uw.mp hb
  exact k1.apart (gi b0) (w.st j a0 e1 b0 h0)
 ·rw [List.pairwise_map]
  exact w.tt.imp fun {a b} h=>(gi a).apart (gi b) h
 ·obtain ⟨u0,h0,rfl⟩:=uw.mp hu
  exact w.fx.frT u0 h0 (fun q=>hf (lentF_z.mpr q)) a ea
 ·obtain ⟨u0,e,k,_⟩:=val j u h
  exact w.fx.frS j u0 e hp (fun q=>hf (k.z.mpr q)) a (by rw [<- k.v];exact ea)
 ·obtain ⟨j,y,_,e,hf,hv⟩:=hb
  obtain ⟨_,a,L',v1,v2,_⟩:=(w.okS j y e).own (by rw [hf];intro q;cases q)
  rw [hv] at v1;cases v1
  exact ((w.okS j y e).rep.inH b (by rw [v2];exact ua)).ex
 ·obtain ⟨u0,e,k,c⟩:=val j u h
  show (if j ∈ is then (g j).map (·.v) else G.lv j)=_
  rcases c with ⟨q,rfl⟩ | ⟨q,rfl⟩
  ·rw [if_pos q,e];rfl
  ·rw [if_neg q];exact w.fx.lvS j u e hl
theorem Wf.leave {is:List Nat} {σ':St} {ρ2:Sto} {g2:Nat->Option It3} {R:List It3} (w:Wf K G H σ ρ T g) (his:∀ i ∈ is,∀ y,g i=some y->y.f=.u) (hT:T'.Sublist T) (w2:Wf K (cx G H g is) H' σ' ρ2 (R ++ T'.map a8) g2) :
  Wf K G H' σ' (aL dW is ρ2) (R ++ T') (fun j=>if j ∈ is then (g2 j).map pH else g2 j):=by
 have val:∀ j u,(if j ∈ is then (g2 j).map pH else g2 j)=some u->∃ u0,g2 j=some u0/\Fk u0 u/\((j ∈ is/\u=pH u0)\/(j ∉ is/\u=u0)):=fun j u h=>by
  by_cases q:j ∈ is
  ·rw [if_pos q] at h
   obtain ⟨u0,e1,e2⟩:=ue.mp h
   subst e2
   exact ⟨u0,e1,tV u0,.inl ⟨q,rfl⟩⟩
  ·rw [if_neg q] at h
   exact ⟨u,h,Fk.refl u,.inr ⟨q,rfl⟩⟩
 have may:∀ a,H a=none\/(∃ j y,j ∉ is/\g j=some y/\y.f=.u/\y.v=.ref a)->G.H0 a=none\/G.bw a:=fun a h=>by
  rcases h with h | ⟨j,y,_,e,hf,hv⟩
  ·exact .inl (w.h0none h)
  ·obtain ⟨_,a',L',v1,_,_,v4⟩:=(w.okS j y e).own (by rw [hf];intro q;cases q)
   rw [hv] at v1;cases v1
   exact v4 hf
 have srcs:∀ c,H c=none\/(G.H0 c=none\/G.src c)->G.H0 c=none\/G.src c:=fun c h=>by
  rcases h with h | h
  ·exact .inl (w.h0none h)
  ·exact h
 have tm:∀ x ∈ T',x ∈ T:=fun x hx=>hT.subset hx
 have dom:∀ b o,H b=some o->∃ o',H' b=some o':=fun b o hb=>by
  by_cases q:∃ j y,j ∉ is/\g j=some y/\y.f=.u/\y.v=.ref b
  ·exact w2.fx.bin b q
  ·exact ⟨o,w2.base b o hb q⟩
 refine ⟨by rw [d9];exact w2.len,fun j=>?_,fun j u h=>?_,fun j u h=>?_,fun u hu=>?_,fun i j a b n ha hb=>?_,fun j a h b hb=>?_,?_,fun b o e n=>?_,w2.pro,⟨fun u hu=>?_,fun j u h hp hf a ea=>?_,fun b hb=>?_,w2.fx.ob,fun j u h hl=>?_⟩⟩
 ·rw [dz (by intro f;cases f <;> rfl)]
  by_cases q:j ∈ is
  ·rw [if_pos q,if_pos q];exact kb (w2.sl j)
  ·rw [if_neg q,if_neg q];exact w2.sl j
 ·obtain ⟨u0,e,k,_⟩:=val j u h
  rw [k.v];exact w2.sv j u0 e
 ·obtain ⟨u0,e,k,c⟩:=val j u h
  have ok:=w2.okS j u0 e
  refine ⟨by rw [k.d,k.v,k.L];exact ok.rep,fun hf=>?_,fun c hc=>srcs c (ok.src c (by rw [<- k.L];exact hc))⟩
  obtain ⟨m,a,L',v1,v2,v3,v4⟩:=ok.own (fun q=>hf (k.z.mpr q))
  refine ⟨by rw [k.d];exact m,a,L',by rw [k.v];exact v1,by rw [k.L];exact v2,v3,fun hu=>?_⟩
  rcases c with ⟨q,rfl⟩ | ⟨nj,rfl⟩
  ·cases hf0:u0.f with
   | u=>exact may a (v4 hf0)
   | l =>
    have hl:=w2.fx.lvS j u0 e hf0
    have hl:(if j ∈ is then (g j).map (·.v) else G.lv j)=some u0.v:=hl
    rw [if_pos q] at hl
    obtain ⟨y,ey,ev⟩:=ue.mp hl
    have yu:=his j q y ey
    obtain ⟨_,a',L'',b1,_,_,b4⟩:=(w.okS j y ey).own (by rw [yu];intro q;cases q)
    rw [ev,v1] at b1;cases b1
    exact b4 yu
   | z=>exact absurd (unlF_z.mpr hf0) hf
  ·exact may a (v4 hu)
 ·rcases ul.mp hu with hu | hu
  ·have ok:=w2.okT u (ug _ hu)
   refine ⟨ok.rep,fun hf=>?_,fun c hc=>srcs c (ok.src c hc)⟩
   obtain ⟨m,a,L',v1,v2,v3,v4⟩:=ok.own hf
   exact ⟨m,a,L',v1,v2,v3,fun h=>may a (v4 h)⟩
  ·have ok:=w.okT u (tm u hu)
   exact ⟨(w2.okT (a8 u) (uh _ (uw.mpr ⟨u,hu,rfl⟩))).rep,ok.own,ok.src⟩
 ·obtain ⟨a0,e1,k1,_⟩:=val i a ha
  obtain ⟨b0,e2,k2,_⟩:=val j b hb
  exact k1.noRoot k2 (w2.ss i j a0 b0 n e1 e2)
 ·obtain ⟨a0,e1,k1,_⟩:=val j a h
  rcases ul.mp hb with hb | hb
  ·exact k1.apart (Fk.refl b) (w2.st j a0 e1 b (ug _ hb))
  ·have:=w2.st j a0 e1 (a8 b) (uh _ (uw.mpr ⟨b,hb,rfl⟩))
   exact k1.apart (y:=a8 b) ⟨rfl,rfl,rfl,lentF_z.symm⟩ this
 ·have h:=List.pairwise_append.mp w2.tt
  refine List.pairwise_append.mpr ⟨h.1,w.tt.sublist hT,fun a ha b hb=>?_⟩
  exact (Fk.refl a).apart (y:=a8 b) ⟨rfl,rfl,rfl,lentF_z.symm⟩ (h.2.2 a ha (a8 b) (uw.mpr ⟨b,hb,rfl⟩))
 ·have hb:=w.base b o e n
  refine w2.base b o hb fun q=>?_
  rcases may b (.inr q) with h | h
  ·rw [e] at h;cases h
  ·exact n h
 ·rcases ul.mp hu with hu | hu
  ·exact w2.fx.frT u (ug _ hu)
  ·exact w.fx.frT u (tm u hu)
 ·obtain ⟨u0,e,k,_⟩:=val j u h
  exact w2.fx.frS j u0 e hp (fun q=>hf (k.z.mpr q)) a (by rw [<- k.v];exact ea)
 ·obtain ⟨o,ho⟩:=w.fx.bin b hb
  exact dom b o ho
 ·obtain ⟨u0,e,k,c⟩:=val j u h
  rcases c with ⟨q,rfl⟩ | ⟨q,rfl⟩
  ·exact absurd hl (rH _)
  ·have:=w2.fx.lvS j u e hl
   have this:(if j ∈ is then (g j).map (·.v) else G.lv j)=some u.v:=this
   rw [if_neg q] at this
   exact this
theorem qD {is:List Nat} (w:Wf K G H σ ρ T g) (his:∀ i ∈ is,∀ y,g i=some y->y.f=.u):∀ (H':Hp) (σ':St) (ρ2:Sto) (T2:List It3) (g2:Nat->Option It3),Wf K (cx G H g is) H' σ' ρ2 T2 g2->∃ g3,Wf K G H' σ' (aL dW is ρ2) [] g3 :=
 fun H' σ' ρ2 T2 g2 w2=>⟨_,by simpa using Wf.leave (T':=[]) (R:=[]) w his (List.nil_sublist T) (by simpa using w2.sub (List.nil_sublist T2))⟩
end
end L3
end
section
namespace L3
open PySem L2
section
variable {K:FG} {G G0:Gm} {W W0:D->Sto->Prop} {H H':Hp} {σ:St} {ρ ρ':Sto} {T T':List It3} {g:Nat->Option It3} {x y z:It3} {α β:Type}
noncomputable def Walk (K:FG) (J:It) (H1:Hp) (ys:List It3) (ds:List D):Prop:=∃ els:List It3,(∀ x ∈ els,x.f=.z/\Rep K H1 x.d x.v x.L/\∀ c ∈ x.L,cz ys c) /\
 ∀ (M:Addr->Prop) (H':Hp),(∀ b,M b->MutAt H1 b)->(∀ b o,H1 b=some o->¬ M b->H' b=some o)->(∀ y ∈ ys,∀ b ∈ y.L,¬ M b) ->
  (∀ (i:Nat) (d:D),ds[i]?=some d->J.go i H'/\∀ x H'',J.yld i H' x H''->∃ w,New K H' H'' (cb els) w/\w.d=d/\w.f=.z/\w.v=x)/\J.stop ds.length H'
noncomputable abbrev IM:=M3 (List R3 × List D)
noncomputable def EndI (K:FG) (G:Gm) (W:D->Sto->Prop) (σ:St) (T:List It3) (ρ':Sto) (R:It->Hp->Prop):Except D (List R3 × List D)->Prop
 | .ok p=>∀ J H1 vs Ts g1 ys,Wf K G H1 σ ρ' (Ts ++ T) g1->Ars σ p.1 vs Ts->(∀ y ∈ ys,(∃ i,i ∈ pls p.1/\g1 i=some y)\/y ∈ Ts)->Walk K J H1 ys p.2->R J H1
 | .error e=>W e ρ'
noncomputable def tI (K:FG) (G0:Gm) (W0:D->Sto->Prop) (m:IM):TI:=fun σ H R=>∃ G W,Le K G W G0 W0/\∃ ρ T g r ρ',Wf K G H σ ρ T g/\m ρ=some (r,ρ')/\EndI K G W σ T ρ' R r
theorem tI.seq {m:IM} {k:List R3 × List D->M3 β} {r:Except D β} {P:It->Hp->Prop} (le:Le K G W G0 W0) (w:Wf K G H σ ρ T g) (e:af m k ρ=some (r,ρ')) (he:∀ x,r=.error x->W x ρ')
  (h:∀ p ρ1,k p ρ1=some (r,ρ')->EndI K G W σ T ρ1 P (.ok p)):tI K G0 W0 m σ H P:=by
 unfold af at e
 cases q:m ρ with
 | none=>rw [q] at e;exact nsE e
 | some p =>
  obtain ⟨o,ρ1⟩:=p
  rw [q] at e
  cases o with
  | error x=>cases e;exact ⟨G,W,le,ρ,T,g,.error x,ρ',w,q,he x rfl⟩
  | ok ra=>exact ⟨G,W,le,ρ,T,g,.ok ra,ρ1,w,q,h ra ρ1 e⟩
noncomputable def Bnd (K:FG) (pr:Nat->Bool) (tg:TG) (bnd:D->Sto->Option Sto):Prop:=∀ (G:Gm) (H:Hp) (σ:St) (ρ ρ1:Sto) (T:List It3) (g:Nat->Option It3) (w:It3) (Q:St->Hp->Prop),G.pr=pr->w.f=.z->Wf K G H σ ρ (w :: T) g->bnd w.d ρ=some ρ1 ->
 (∀ σ2 g2,Wf K G H σ2 ρ1 T g2->Q σ2 H)->tg w.v σ H Q
noncomputable def aR (i:Nat) (d:D) (ρ:Sto):Option Sto:=if i < ρ.length then some (ρ.set i (some (d,.z))) else none
set_option tactic.hygienic true in
theorem bt {pr:Nat->Bool} {i:Nat} (hp:pr i=false):Bnd K pr (lX i) (aR i):=fun G H σ ρ ρ1 T g w Q hpr hz wf e q=>by
 unfold aR at e
 split at e
 ·rename_i hi
  cases e
  exact q _ _ (wf.store (f:=.z) hi (by rw [hpr];exact hp) (.inr rfl) (by intro h;cases h))
 ·exact nsE e
noncomputable def pG (K:FG) (pr:Nat->Bool) (tg:TGs) (bnd:List D->Sto->Option Sto):Prop:=∀ (G:Gm) (H:Hp) (σ:St) (ρ ρ1:Sto) (T:List It3) (g:Nat->Option It3) (ws:List It3) (Q:St->Hp->Prop),G.pr=pr->(∀ w ∈ ws,w.f=.z)->Wf K G H σ ρ (ws ++ T) g->bnd (ws.map (·.d)) ρ=some ρ1 ->
 (∀ σ2 g2,Wf K G H σ2 ρ1 T g2->Q σ2 H)->tg (ws.map (·.v)) σ H Q
noncomputable def t5:List D->Sto->Option Sto
 | [],ρ=>some ρ
 | _,_=>none
noncomputable def md (b:D->Sto->Option Sto) (bs:List D->Sto->Option Sto):List D->Sto->Option Sto
 | [],_=>none
 | d :: ds,ρ=>match b d ρ with
  | some ρ1=>bs ds ρ1
  | none=>none
theorem pu {pr:Nat->Bool}:pG K pr gNil t5:=fun G H σ ρ ρ1 T g ws Q _ _ wf e q=>by
 cases ws with
 | nil=>cases e;exact ⟨rfl,q _ _ wf⟩
 | cons w ws=>exact nsE e
theorem ng {pr:Nat->Bool} {tg:TG} {tgs:TGs} {b:D->Sto->Option Sto} {bs:List D->Sto->Option Sto} (h1:Bnd K pr tg b) (h2:pG K pr tgs bs):pG K pr (rC tg tgs) (md b bs):=fun G H σ ρ ρ1 T g ws Q hpr hz wf e q=>by
 cases ws with
 | nil=>exact nsE e
 | cons w ws =>
  have e:(match b w.d ρ with | some ρ1=>bs (ws.map (·.d)) ρ1 | none=>none)=some ρ1:=e
  cases q1:b w.d ρ with
  | none=>rw [q1] at e;exact nsE e
  | some ρ2 =>
   rw [q1] at e
   exact ⟨w.v,ws.map (·.v),rfl,h1 G H σ ρ ρ2 (ws ++ T) g w _ hpr (hz w ua) wf q1 fun σ2 g2 w2=>h2 G H σ2 ρ2 ρ1 T g2 ws Q hpr (fun x hx=>hz x (ub _ hx)) w2 e q⟩
noncomputable def t4 (n:Nat) (bs:List D->Sto->Option Sto):D->Sto->Option Sto
 | .tup ds,ρ=>if ds.length=n then bs ds ρ else none
 | _,_=>none
theorem Reps.split:∀ {ds:List D} {vs:List V} {L:List Addr},Reps (Rep K H) ds vs L->∃ ws:List It3,ws.map (·.d)=ds/\ws.map (·.v)=vs/\(∀ w ∈ ws,w.f=.z/\Rep K H w.d w.v w.L/\∀ c ∈ w.L,c ∈ L)
 | _,_,_,.nil=>⟨[],rfl,rfl,fun _ h=>(by cases h)⟩
 | _,_,_,.cons (d:=d) (v:=v) (L:=L) r rs=>by
  obtain ⟨ws,h1,h2,h3⟩:=Reps.split rs
  refine ⟨⟨d,v,L,.z⟩ :: ws,by simp [h1],by simp [h2],fun w hw=>?_⟩
  rcases ui.mp hw with h | h
  ·subst h;exact ⟨rfl,r,fun c hc=>ug _ hc⟩
  ·exact ⟨(h3 w h).1,(h3 w h).2.1,fun c hc=>uh _ ((h3 w h).2.2 c hc)⟩
theorem Wf.pushAll:∀ {ws:List It3} {T:List It3},Wf K G H σ ρ T g->(∀ w ∈ ws,w.f=.z/\Rep K H w.d w.v w.L/\∀ c ∈ w.L,cp T g c/\(G.H0 c=none\/G.src c))->Wf K G H σ ρ (ws ++ T) g
 | [],T,w,_=>w
 | x :: ws,T,w,h=>by
  have w1:=Wf.pushAll (ws:=ws) w fun y hy=>h y (ub _ hy)
  obtain ⟨hz,hr,hc⟩:=h x ua
  refine w1.push (Ks:=fun c=>c ∈ x.L) ⟨Same.refl _,hr,fun c h=>.inr h,fun q=>absurd hz q⟩ fun c m=>⟨⟨(hc c m).1.1,fun y hy hf=>?_⟩,(hc c m).2⟩
  rcases ul.mp hy with q | q
  ·exact absurd (h y (ub _ q)).1 hf
  ·exact (hc c m).1.2 y q hf
set_option tactic.hygienic true in
theorem qM {pr:Nat->Bool} {n:Nat} {tgs:TGs} {bs:List D->Sto->Option Sto} (h2:pG K pr tgs bs):Bnd K pr (gTup K n tgs) (t4 n bs):=fun G H σ ρ ρ1 T g w Q hpr hz wf e q=>by
 have r:=(wf.okT w ua).rep
 obtain ⟨d,v,L,f⟩:=w
 cases r with
 | @tup xs a vs _ hs rs =>
  have e:(if xs.length=n then bs xs ρ else none)=some ρ1:=e
  split at e
  ·rename_i hl
   obtain ⟨ws,h1,h3,h4⟩:=Reps.split rs
   refine ⟨a,vs,rfl,SqT.of hs,?_,?_⟩
   ·rw [<- h3,uo,<- hl,<- h1,uo]
   ·have w1:Wf K G H σ ρ (ws ++ (⟨.tup xs,.ref a,L,f⟩ :: T)) g:=wf.pushAll fun u hu=>⟨(h4 u hu).1,(h4 u hu).2.1,fun c hc=>⟨wf.kid (y:=⟨.tup xs,.ref a,L,f⟩) (.inr ua) ((h4 u hu).2.2 c hc) fun hf=>absurd hz hf,(wf.okT _ ua).src c ((h4 u hu).2.2 c hc)⟩⟩
    have w2:Wf K G H σ ρ (ws ++ T) g:=w1.sub ((List.Sublist.refl ws).append (List.sublist_cons_self _ _))
    rw [<- h3]
    exact h2 G H σ ρ ρ1 T g ws Q hpr (fun u hu=>(h4 u hu).1) w2 (by rw [h1];exact e) q
  ·exact nsE e
 | non=>exact nsE e
 | bl b=>exact nsE e
 | int i=>exact nsE e
 | str s=>exact nsE e
 | lst _ _=>exact nsE e
 | lstF _ _=>exact nsE e
 | dK _ _ _=>exact nsE e
 | dT _ _ _=>exact nsE e
 | exc _ _=>exact nsE e
noncomputable def dO (bnd:D->Sto->Option Sto) (b:SM):List D->SM
 | []=>bq .nx
 | d :: ds=>fun ρ=>match bnd d ρ with
  | none=>none
  | some ρ1=>af b (fun f=>match f with
   | .nx=>dO bnd b ds
   | .ct=>dO bnd b ds
   | .br=>bq .nx
   | .rt d f=>bq (.rt d f)) ρ1
noncomputable def cY (im:IM) (bnd:D->Sto->Option Sto) (b:SM):SM:=af im fun p=>fun ρ=>(dO bnd b p.2 (aL cG (us ρ (pls p.1)) ρ)).map fun r=>(r.1,aL dW (us ρ (pls p.1)) r.2)
theorem us_u {is:List Nat} (w:Wf K G H σ ρ T g):∀ i ∈ us ρ is,∀ y,g i=some y->y.f=.u:=fun i hi y ey=>by
 have h:=(uO.mp hi).2
 have s:=w.sl i
 rw [ey] at s
 have s:some (y.d,y.f)=(ρ[i]?).join:=s
 rw [<- s] at h
 cases hf:y.f with
 | u=>rfl
 | l=>rw [hf] at h;cases h
 | z=>rw [hf] at h;cases h
theorem nv {is:List Nat} {i:Nat} (w:Wf K G H σ ρ T g) (hi:i ∈ is) (ey:g i=some y) (hf:y.f=.u):i ∈ us ρ is:=by
 refine uO.mpr ⟨hi,?_⟩
 have s:=w.sl i
 rw [ey] at s
 have s:some (y.d,y.f)=(ρ[i]?).join:=s
 rw [<- s,hf]
theorem rW {im:IM} {bnd:D->Sto->Option Sto} {b:SM} {tg:TG} {E:Ends} (hb:Bnd K G0.pr tg bnd) (h:tS K G0 W0 (cY im bnd b) E σ H):tFor (tI K G0 W0 im) tg (tS K G0 W0 b) E σ H:=by
 refine h.use fun G W le ρ T g r ρ' w e q=>?_
 refine tI.seq le w e q.err fun p ρ1 e1=>?_
 intro J H1 vs Ts g1 ys w1 a1 hys hw
 have his:=us_u (is:=pls p.1) w1
 have hus:∀ i y,i ∈ pls p.1->g1 i=some y->y.f=.u->i ∈ us ρ1 (pls p.1):=fun i y hi ey hf=>nv w1 hi ey hf
 generalize us ρ1 (pls p.1)=is at e1 his hus
 have w2:=w1.enter is
 obtain ⟨els,hels,walk⟩:=hw
 have hM:∀ b,(∃ j y,j ∉ is/\g1 j=some y/\y.f=.u/\y.v=.ref b)->MutAt H1 b:=fun b ⟨j,y,_,ey,hf,hv⟩=>by
  obtain ⟨_,a,L',v1,v2,_⟩:=(w1.okS j y ey).own (by rw [hf];intro q;cases q)
  rw [hv] at v1;cases v1
  exact (w1.okS j y ey).rep.inH b (by rw [v2];exact ua)
 have hysM:∀ y ∈ ys,∀ b ∈ y.L,¬ ∃ j y,j ∉ is/\g1 j=some y/\y.f=.u/\y.v=.ref b:=fun y hy b hb ⟨j,y',nj,ey',hf,hv⟩=>by
  have hfz:y'.f ≠ .z:=by rw [hf];intro q;cases q
  rcases hys y hy with ⟨i,hi,ei⟩ | hy
  ·by_cases ij:i=j
   ·subst ij
    rw [ei] at ey';cases ey'
    exact nj (hus i y hi ei hf)
   ·exact w1.ss j i y' y (Ne.symm ij) ey' ei hfz b hv hb
  ·exact (w1.st j y' ey' y (ug _ hy)).1 hfz b hv hb
 have hitm:∀ y ∈ ys,Itm (Ts ++ T) g1 y:=fun y hy=>by
  rcases hys y hy with ⟨i,_,ei⟩ | h
  ·exact .inl ⟨i,ei⟩
  ·exact .inr (ug _ h)
 have kid:∀ x ∈ els,∀ c ∈ x.L,cp ((Ts ++ T).map a8) (fun j=>if j ∈ is then (g1 j).map a8 else g1 j) c/\(H1 c=none\/(G.H0 c=none\/G.src c)):=fun x hx c hc=>by
  obtain ⟨nr,sr⟩:=w1.kids hitm ((hels x hx).2.2 c hc)
  refine ⟨⟨fun i z ez hf hv=>?_,fun z hz hf hv=>?_⟩,.inr sr⟩
  ·have ez:(if i ∈ is then (g1 i).map a8 else g1 i)=some z:=ez
   by_cases q:i ∈ is
   ·rw [if_pos q] at ez
    obtain ⟨z0,e0,e1⟩:=ue.mp ez
    subst e1
    exact nr.1 i z0 e0 (fun q=>hf (lentF_z.mpr q)) hv
   ·rw [if_neg q] at ez
    exact nr.1 i z ez hf hv
  ·obtain ⟨z0,h0,rfl⟩:=uw.mp hz
   exact nr.2 z0 h0 (fun q=>hf (lentF_z.mpr q)) hv
 have w3:Wf K (cx G H1 g1 is) H1 σ (aL cG is ρ1) (els ++ (Ts ++ T).map a8) (fun j=>if j ∈ is then (g1 j).map a8 else g1 j):=w2.pushAll fun x hx=>⟨(hels x hx).1,(hels x hx).2.1,fun c hc=>kid x hx c hc⟩
 cases e2:dO bnd b p.2 (aL cG is ρ1) with
 | none=>rw [e2] at e1;exact nsE e1
 | some rr =>
  obtain ⟨r2,ρ3⟩:=rr
  rw [e2] at e1
  have er:r2=r/\aL dW is ρ3 = ρ':=by cases e1;exact ⟨rfl,rfl⟩
  obtain ⟨rfl,eρ⟩:=er
  have leave:∀ {σ':St} {H':Hp} {ρ2:Sto} {g2:Nat->Option It3} {R:List It3},Wf K (cx G H1 g1 is) H' σ' ρ2 (R ++ (els ++ (Ts ++ T).map a8)) g2->∃ g3,Wf K G H' σ' (aL dW is ρ2) (R ++ T) g3:=fun {σ' H' ρ2 g2 R} w4 =>
   ⟨_,Wf.leave (T:=Ts ++ T) (T':=T) (R:=R) w1 his (uu Ts T) (w4.sub ((List.Sublist.refl R).append (by
    rw [List.map_append]
    exact (uu (Ts.map a8) (T.map a8)).trans (uu els _))))⟩
  have le1:Le K (cx G H1 g1 is) (fun e ρ2=>W e (aL dW is ρ2)) G W:=⟨rfl,fun H' σ' ρ2 T2 g2 e w4 he=>by
   obtain ⟨g3,w5⟩:=qD w1 his H' σ' ρ2 T2 g2 w4
   exact ⟨_,[],g3,w5,he⟩⟩
  have le':Le K (cx G H1 g1 is) (fun e ρ2=>W e (aL dW is ρ2)) G0 W0:=le1.trans le
  refine ⟨fun k m σ' H'=>k<=p.2.length/\m=p.2.length - k/\∃ ρ2 g2,Wf K (cx G H1 g1 is) H' σ' ρ2 (els ++ (Ts ++ T).map a8) g2/\dO bnd b (p.2.drop k) ρ2=some (r2,ρ3),⟨_,Nat.zero_le _,rfl,_,_,w3,e2⟩,?_⟩
  rintro k m σ' H' ⟨hk,rfl,ρ2,g2,w4,e4⟩
  obtain ⟨wgo,wstop⟩:=walk _ H' hM (fun b o hb hn=>w4.base b o hb hn) hysM
  by_cases hlt:k < p.2.length
  ·obtain ⟨d,hd⟩:∃ d,p.2[k]?=some d:=⟨_,uj hlt⟩
   have hdrop:p.2.drop k=d :: p.2.drop (k+1):=by
    rw [List.drop_eq_getElem_cons hlt]
    rw [uj hlt] at hd
    cases hd;rfl
   rw [hdrop] at e4
   obtain ⟨go,yld⟩:=wgo k d hd
   refine .inr ⟨go,fun σ5 H5=>∃ ρ5 g5,Wf K (cx G H1 g1 is) H5 σ5 ρ5 (els ++ (Ts ++ T).map a8) g5/\dO bnd b (p.2.drop (k+1)) ρ5=some (r2,ρ3),fun σ5 H5 ⟨ρ5,g5,w5,e5⟩=>⟨p.2.length - (k+1),by omega,hlt,rfl,ρ5,g5,w5,e5⟩,fun x H'' hy=>?_⟩
   obtain ⟨u,nu,ud,uf,uv⟩:=yld x H'' hy
   have w5:Wf K (cx G H1 g1 is) H'' σ' ρ2 (u :: (els ++ (Ts ++ T).map a8)) g2:=w4.push nu fun c hc=>w4.alls (ys:=els) (fun y hy=>⟨.inr (ug _ hy),(hels y hy).1⟩) hc
   have e5:(match bnd d ρ2 with
    | none=>none
    | some ρ1=>af b (fun f=>match f with
     | .nx=>dO bnd b (p.2.drop (k+1))
     | .ct=>dO bnd b (p.2.drop (k+1))
     | .br=>bq .nx
     | .rt d f=>bq (.rt d f)) ρ1)=some (r2,ρ3):=e4
   cases e6:bnd d ρ2 with
   | none=>rw [e6] at e5;exact nsE e5
   | some ρ6 =>
    rw [e6] at e5
    dsimp only at e5
    rw [<- uv]
    refine hb (cx G H1 g1 is) H'' σ' ρ2 ρ6 _ g2 u _ le.pr uf w5 (by rw [ud];exact e6) fun σ6 g6 w6=>?_
    unfold af at e5
    cases e7:b ρ6 with
    | none=>rw [e7] at e5;exact nsE e5
    | some pr7 =>
     obtain ⟨o7,ρ7⟩:=pr7
     rw [e7] at e5
     cases o7 with
     | error er =>
      cases e5
      refine tS.mk (r:=.error er) le' w6 e7 ?_
      show W er (aL dW is _)
      rw [eρ];exact q
     | ok f =>
      cases f with
      | nx=>exact tS.mk (r:=.ok .nx) le' w6 e7 fun σ8 H8 g8 w8=>⟨ρ7,g8,w8,e5⟩
      | ct=>exact tS.mk (r:=.ok .ct) le' w6 e7 fun σ8 H8 g8 w8=>⟨ρ7,g8,w8,e5⟩
      | br =>
       cases e5
       refine tS.mk (r:=.ok .br) le' w6 e7 fun σ8 H8 g8 w8=>?_
       obtain ⟨g9,w9⟩:=leave (R:=[]) w8
       rw [eρ] at w9
       exact q _ _ _ w9
      | rt d' f' =>
       cases e5
       refine tS.mk (r:=.ok (.rt d' f')) le' w6 e7 fun x8 σ8 H8 g8 w8 x1 x2=>?_
       obtain ⟨g9,w9⟩:=leave (R:=[x8]) w8
       rw [eρ] at w9
       exact q x8 _ _ _ w9 x1 x2
  ·have ek:k=p.2.length:=by omega
   subst ek
   rw [List.drop_length] at e4
   cases e4
   obtain ⟨g9,w9⟩:=leave (R:=[]) w4
   rw [eρ] at w9
   exact .inl ⟨wstop,q _ _ _ w9⟩
end
end L3
end
section
namespace L3
open PySem L2
noncomputable def pg (ix:List (Option Nat)) (ρ:Sto):Sto:=ix.map fun o=>match o with
 | some i=>(ρ[i]?).join
 | none=>none
noncomputable def uncap:List (Option Nat)->Sto->Sto->Option Sto
 | [],_,ρ=>some ρ
 | none :: ix,τ,ρ=>uncap ix τ.tail ρ
 | some i :: ix,τ,ρ=>match (ρ[i]?).join,τ.head? with
  | some (_,f),some (some (d',f'))=>if f'=f\/f'=.z then uncap ix τ.tail (ρ.set i (some (d',f'))) else none
  | _,_=>none
noncomputable def df (bnd:D->Sto->Option Sto) (c:M3 Bool) (elt:EM):List D->M3 (List D)
 | []=>bq []
 | d :: ds=>fun τ=>match bnd d τ with
  | none=>none
  | some τ1=>af c (fun b=>if b then af elt (fun r=>af (eD r) fun p=>af (df bnd c elt ds) fun l=>bq (p.1 :: l)) else df bnd c elt ds) τ1
noncomputable def cF (im:IM) (bnd:D->Sto->Option Sto) (c:M3 Bool) (elt:EM) (ix:List (Option Nat)):EM:=af im fun p=>fun ρ =>
 match df bnd c elt p.2 (pg ix (aL cG (us ρ (pls p.1)) ρ)) with
 | some (.ok ds,τ)=>if p.2.length < 16777216 then (uncap ix τ (aL cG (us ρ (pls p.1)) ρ)).map fun ρ2=>(.ok (.val (.lst ds) .u),aL dW (us ρ (pls p.1)) ρ2) else none
 | _=>none
section
variable {K:FG} {G G0:Gm} {W W0:D->Sto->Prop} {H H':Hp} {σ τ:St} {ρ ρ':Sto} {T T':List It3} {g:Nat->Option It3} {x y z:It3} {α β:Type} {ix:List (Option Nat)}
noncomputable def Inj (ix:List (Option Nat)):Prop:=∀ (j k i:Nat),ix[j]?=some (some i)->ix[k]?=some (some i)->j=k
noncomputable def qI (ix:List (Option Nat)) (g:Nat->Option It3) (j:Nat):Option It3:=(ix[j]?).join.bind g
noncomputable def k9 (ix:List (Option Nat)) (n:Nat) (g:Nat->Option It3):List It3:=(List.range n).filterMap fun i=>if some i ∈ ix then none else g i
noncomputable def ph (G:Gm) (ix:List (Option Nat)) (σ:St):Gm:=⟨G.H0,G.bw,fun j=>((ix[j]?).join).isSome,cap ix σ,fun _=>none,G.src,fun j=>(ix[j]?).join.bind G.lv⟩
theorem cq {j:Nat} (h:qI ix g j=some x):∃ i,ix[j]?=some (some i)/\g i=some x:=by
 unfold qI at h
 cases e:ix[j]? with
 | none=>rw [e] at h;exact nsE h
 | some o =>
  rw [e] at h
  cases o with
  | none=>exact nsE h
  | some i=>exact ⟨i,rfl,h⟩
set_option tactic.hygienic true in
theorem gB {n:Nat} (h:x ∈ k9 ix n g):∃ i,some i ∉ ix/\g i=some x:=by
 obtain ⟨i,_,e⟩:=List.mem_filterMap.mp h
 split at e
 ·exact nsE e
 ·rename_i hn;exact ⟨i,hn,e⟩
theorem ol {n i:Nat} (hi:i < n) (hn:some i ∉ ix) (e:g i=some x):x ∈ k9 ix n g:=List.mem_filterMap.mpr ⟨i,List.mem_range.mpr hi,by rw [if_neg hn];exact e⟩
theorem Wf.cap (w:Wf K G H σ ρ T g) (hij:Inj ix):Wf K (ph G ix σ) H (cap ix σ) (pg ix ρ) (k9 ix ρ.length g ++ T) (qI ix g):=by
 have ne:∀ {i j:Nat},ix[j]?=some (some i)->∀ k,some k ∉ ix->i ≠ k:=fun e k hk q=>hk (by rw [<- q];exact ut e)
 refine ⟨by unfold L2.cap pg;rw [uo,uo],fun j=>?_,fun j x h=>?_,fun j x h=>?_,fun x hx=>?_,fun j k x y n hx hy=>?_,fun j x h y hy=>?_,?_,w.base,fun _ _=>rfl,⟨fun _ _ _ _ _=>rfl,fun _ _ _ _ _ _ _=>rfl,w.fx.bin,fun b o e=>(by cases e),fun j x h hl=>?_⟩⟩
 ·unfold qI pg
  rw [ux]
  cases e:ix[j]? with
  | none=>rfl
  | some o =>
   cases o with
   | none=>rfl
   | some i=>exact w.sl i
 ·obtain ⟨i,e1,e2⟩:=cq h
  unfold L2.cap
  rw [ux,e1]
  show some ((σ[i]?).getD none)=_
  rw [w.sv i x e2];rfl
 ·obtain ⟨i,_,e2⟩:=cq h
  have ok:=w.okS i x e2
  exact ⟨ok.rep,ok.own,ok.src⟩
 ·rcases ul.mp hx with h | h
  ·obtain ⟨i,_,e⟩:=gB h
   have ok:=w.okS i x e
   exact ⟨ok.rep,ok.own,ok.src⟩
  ·have ok:=w.okT x h
   exact ⟨ok.rep,ok.own,ok.src⟩
 ·obtain ⟨i,e1,e2⟩:=cq hx
  obtain ⟨i',e3,e4⟩:=cq hy
  exact w.ss i i' x y (fun q=>n (hij j k i e1 (q ▸ e3))) e2 e4
 ·obtain ⟨i,e1,e2⟩:=cq h
  rcases ul.mp hy with q | q
  ·obtain ⟨k,hk,e⟩:=gB q
   have:=ne e1 k hk
   exact ⟨w.ss i k x y this e2 e,w.ss k i y x (Ne.symm this) e e2⟩
  ·exact w.st i x e2 y q
 ·refine List.pairwise_append.mpr ⟨?_,w.tt,fun a ha b hb=>?_⟩
  ·unfold k9
   rw [List.pairwise_filterMap]
   refine List.pairwise_lt_range.imp fun {i k} lt a ha b hb=>?_
   have ha':(if some i ∈ ix then none else g i)=some a:=ha
   have hb':(if some k ∈ ix then none else g k)=some b:=hb
   split at ha'
   ·cases ha'
   ·split at hb'
    ·cases hb'
    ·exact ⟨w.ss i k a b (uA lt) ha' hb',w.ss k i b a (Nat.ne_of_gt lt) hb' ha'⟩
  ·obtain ⟨k,hk,e⟩:=gB ha
   exact w.st k a e b hb
 ·obtain ⟨i,e1,e2⟩:=cq h
  show (ix[j]?).join.bind G.lv=_
  rw [e1]
  exact w.fx.lvS i x e2 hl
theorem Wf.perm {T T':List It3} (w:Wf K G H σ ρ T g) (p:T.Perm T'):Wf K G H σ ρ T' g :=
 ⟨w.len,w.sl,w.sv,w.okS,fun x hx=>w.okT x (p.mem_iff.mpr hx),w.ss,fun i x e y hy=>w.st i x e y (p.mem_iff.mpr hy),(p.pairwise_iff fun h=>Apart3.symm h).mp w.tt,w.base,w.pro,w.fx.sub fun x hx=>p.mem_iff.mpr hx⟩
set_option tactic.hygienic true in
theorem dX:∀ {ix:List (Option Nat)} {τ ρ ρ2:Sto},uncap ix τ ρ=some ρ2->Inj ix->ρ2.length = ρ.length/\(∀ i,some i ∉ ix->(ρ2[i]?).join=(ρ[i]?).join) /\
  ∀ (j i:Nat),ix[j]?=some (some i)->∃ p q,(ρ[i]?).join=some p/\(τ[j]?).join=some q/\(ρ2[i]?).join=some q/\(q.2=p.2\/q.2=.z)
 | [],τ,ρ,ρ2,e,_=>by cases e;exact ⟨rfl,fun _ _=>rfl,fun j i h=>by simp at h⟩
 | none :: ix,τ,ρ,ρ2,e,hij=>by
  unfold uncap at e
  obtain ⟨h1,h2,h3⟩:=dX e fun j k i a b=>by
   have:=hij (j+1) (k+1) i (by simpa using a) (by simpa using b)
   omega
  refine ⟨h1,fun i hi=>h2 i fun q=>hi (ub _ q),fun j i h=>?_⟩
  cases j with
  | zero=>simp at h
  | succ j =>
   obtain ⟨p,q,a,b,c⟩:=h3 j i (by simpa using h)
   exact ⟨p,q,a,by rw [List.getElem?_tail] at b;exact b,c⟩
 | some i0 :: ix,τ,ρ,ρ2,e,hij=>by
  unfold uncap at e
  cases e1:(ρ[i0]?).join with
  | none=>rw [e1] at e;exact nsE e
  | some p =>
   obtain ⟨d,f⟩:=p
   cases e2:τ.head? with
   | none=>rw [e1,e2] at e;exact nsE e
   | some o =>
    cases o with
    | none=>rw [e1,e2] at e;exact nsE e
    | some q =>
     obtain ⟨d',f'⟩:=q
     rw [e1,e2] at e
     dsimp only at e
     split at e
     ·rename_i hf
      have hi0:=cn e1
      have no0:some i0 ∉ ix:=fun m=>by
       obtain ⟨k,hk,ek⟩:=List.mem_iff_getElem.mp m
       have:=hij 0 (k+1) i0 rfl (by simp [hk,ek])
       omega
      obtain ⟨h1,h2,h3⟩:=dX e fun j k i a b=>by
       have:=hij (j+1) (k+1) i (by simpa using a) (by simpa using b)
       omega
      refine ⟨by rw [h1,List.length_set],fun i hi=>?_,fun j i h=>?_⟩
      ·rw [h2 i fun q=>hi (ub _ q),bx hi0,if_neg (fun q=>hi (by rw [q];exact ua))]
      ·cases j with
       | zero =>
        simp at h
        subst h
        refine ⟨(d,f),(d',f'),e1,?_,?_,hf⟩
        ·rw [List.head?_eq_getElem?] at e2;rw [e2];rfl
        ·rw [h2 i0 no0,bx hi0,if_pos rfl]
       | succ j =>
        have hji:ix[j]?=some (some i):=by simpa using h
        obtain ⟨p,q,a,b,c⟩:=h3 j i hji
        have ii:i ≠ i0:=fun z=>no0 (by rw [<- z];exact ut hji)
        rw [bx hi0,if_neg ii] at a
        exact ⟨p,q,a,by rw [List.getElem?_tail] at b;exact b,c⟩
     ·exact nsE e
theorem Wf.uncap {τ':St} {τρ ρ2:Sto} {gC:Nat->Option It3} {R:List It3} (w:Wf K G H σ ρ T g) (hH:∀ b o,H b=some o->G.H0 b=some o) (hij:Inj ix) (e:L3.uncap ix τρ ρ=some ρ2) (hR:∀ x ∈ R,x.f=.z) (w2:Wf K (ph G ix σ) H' τ' τρ (R ++ (k9 ix ρ.length g ++ T)) gC) :
  ∃ g2,Wf K G H' σ ρ2 (R ++ T) g2:=by
 obtain ⟨hl,h2,h3⟩:=dX e hij
 let inv (i:Nat):Option Nat:=(List.range ix.length).find? fun j=>decide (ix[j]?=some (some i))
 have inv_some:∀ i j,inv i=some j->ix[j]?=some (some i):=fun i j h=>by simpa using List.find?_some h
 have inv_none:∀ i,inv i=none->some i ∉ ix:=fun i h m=>by
  obtain ⟨k,hk,ek⟩:=List.mem_iff_getElem.mp m
  have:=List.find?_eq_none.mp h k (List.mem_range.mpr hk)
  simp [hk,ek] at this
 let g2 (i:Nat):Option It3:=match inv i with | some j=>gC j | none=>g i
 have val:∀ i u,g2 i=some u->(∃ j p q,ix[j]?=some (some i)/\gC j=some u/\(ρ[i]?).join=some p/\(τρ[j]?).join=some q/\(q.2=p.2\/q.2=.z))\/(some i ∉ ix/\g i=some u):=fun i u h=>by
  have h':(match inv i with | some j=>gC j | none=>g i)=some u:=h
  cases ei:inv i with
  | none=>rw [ei] at h';exact .inr ⟨inv_none i ei,h'⟩
  | some j =>
   rw [ei] at h'
   obtain ⟨p,q,a,b,_,c⟩:=h3 j i (inv_some i j ei)
   exact .inl ⟨j,p,q,inv_some i j ei,h',a,b,c⟩
 have out:∀ i u,some i ∉ ix->g i=some u->u ∈ k9 ix ρ.length g:=fun i u hn e=>by
  have s:=w.sl i
  rw [e] at s
  exact ol (cn s.symm) hn e
 have back:∀ i j u,ix[j]?=some (some i)->gC j=some u->σ[i]?=some (some u.v):=fun i j u ej eu=>by
  have a:=w2.sv j u eu
  have b:=w2.pro j (by show ((ix[j]?).join).isSome=true;rw [ej];rfl)
  rw [a] at b
  have b:some (some u.v)=(L2.cap ix σ)[j]?:=b
  unfold L2.cap at b
  rw [ux,ej] at b
  have b:some (some u.v)=some ((σ[i]?).getD none):=b
  cases q:σ[i]? with
  | none=>rw [q] at b;cases b
  | some o=>rw [q] at b;cases b;rfl
 have was:∀ i j u p q,ix[j]?=some (some i)->gC j=some u->(ρ[i]?).join=some p->(τρ[j]?).join=some q->(q.2=p.2\/q.2=.z)->∃ y,g i=some y/\y.v=u.v/\(u.f=y.f\/u.f=.z):=fun i j u p q ej eu ep eq hf=>by
  obtain ⟨y,y1,y2,y3,y4⟩:=w.slot (d:=p.1) (f:=p.2) ep
  have b:=back i j u ej eu
  rw [y4] at b
  have s:=w2.sl j
  rw [eu,eq] at s
  have s:some (u.d,u.f)=some q:=s
  refine ⟨y,y1,by injection b with b;injection b,?_⟩
  rw [y3,show u.f=q.2 by injection s with s;rw [<- s]]
  exact hf
 refine ⟨g2,⟨by rw [hl];exact w.len,fun i=>?_,fun i u h=>?_,fun i u h=>?_,fun u hu=>?_,fun i k a b n ha hb=>?_,fun i a h b hb=>?_,w2.tt.sublist ((List.Sublist.refl R).append (uu _ T)),w2.base,w.pro,⟨fun u hu hf=>?_,fun i u h hp hf a ea=>?_,w2.fx.bin,fun b o hb=>?_,fun i u h hl=>?_⟩⟩⟩
 ·show (match inv i with | some j=>gC j | none=>g i).map _=_
  cases ei:inv i with
  | none=>rw [h2 i (inv_none i ei)];exact w.sl i
  | some j =>
   obtain ⟨p,q,a,b,c,_⟩:=h3 j i (inv_some i j ei)
   rw [c,<- b];exact w2.sl j
 ·rcases val i u h with ⟨j,p,q,ej,eu,_⟩ | ⟨hn,e⟩
  ·exact back i j u ej eu
  ·exact w.sv i u e
 ·rcases val i u h with ⟨j,p,q,ej,eu,_⟩ | ⟨hn,e⟩
  ·have ok:=w2.okS j u eu
   exact ⟨ok.rep,ok.own,ok.src⟩
  ·have ok:=w2.okT u (uh _ (ug _ (out i u hn e)))
   exact ⟨ok.rep,ok.own,ok.src⟩
 ·have ok:=w2.okT u (by
   rcases ul.mp hu with q | q
   ·exact ug _ q
   ·exact uh _ (uh _ q))
  exact ⟨ok.rep,ok.own,ok.src⟩
 ·rcases val i a ha with ⟨j,p,q,ej,eu,_⟩ | ⟨hn,e⟩
  ·rcases val k b hb with ⟨j',p',q',ej',eu',_⟩ | ⟨hn',e'⟩
   ·exact w2.ss j j' a b (fun z=>n (by subst z;rw [ej] at ej';injection ej' with z;injection z)) eu eu'
   ·exact (w2.st j a eu b (uh _ (ug _ (out k b hn' e')))).1
  ·rcases val k b hb with ⟨j',p',q',ej',eu',_⟩ | ⟨hn',e'⟩
   ·exact (w2.st j' b eu' a (uh _ (ug _ (out i a hn e)))).2
   ·exact w.ss i k a b n e e'
 ·have hb':b ∈ R ++ (k9 ix ρ.length g ++ T):=by
   rcases ul.mp hb with q | q
   ·exact ug _ q
   ·exact uh _ (uh _ q)
  rcases val i a h with ⟨j,p,q,ej,eu,_⟩ | ⟨hn,e⟩
  ·exact w2.st j a eu b hb'
  ·rcases ul.mp hb with q | q
   ·exact ((List.pairwise_append.mp w2.tt).2.2 b q a (ug _ (out i a hn e))).symm
   ·exact w.st i a e b q
 ·rcases ul.mp hu with q | q
  ·exact absurd (hR u q) hf
  ·exact w.fx.frT u q hf
 ·rcases val i u h with ⟨j,p,q,ej,eu,ep,eq,hc⟩ | ⟨hn,e⟩
  ·obtain ⟨y,y1,y2,y3⟩:=was i j u p q ej eu ep eq hc
   refine w.fx.frS i y y1 hp (fun z=>hf ?_) a (by rw [y2];exact ea)
   rcases y3 with h | h
   ·rw [h];exact z
   ·exact h
  ·exact w.fx.frS i u e hp hf a ea
 ·obtain ⟨o',ho⟩:=w.fx.ob b o hb
  have h0:=hH b o' ho
  by_cases q:G.bw b
  ·exact w2.fx.bin b q
  ·exact ⟨o',w2.base b o' h0 q⟩
 ·rcases val i u h with ⟨j,p,q,ej,eu,ep,eq,hc⟩ | ⟨hn,e⟩
  ·obtain ⟨y,y1,y2,y3⟩:=was i j u p q ej eu ep eq hc
   rw [<- y2]
   refine w.fx.lvS i y y1 ?_
   rcases y3 with h | h
   ·rw [<- h];exact hl
   ·rw [h] at hl;cases hl
  ·exact w.fx.lvS i u e hl
theorem mY {J:It} {H1:Hp} {ys els:List It3} {ds:List D} {bnd:D->Sto->Option Sto} {c:M3 Bool} {elt:EM} {tg:TG} {tc:TT} {te:TE} {Gc:Gm} {Rst:List It3} {ds':List D} {τρ τρ':Sto} {gC:Nat->Option It3} {Z:List V->Hp->Prop} {M:Addr->Prop}
  (hz:(16777216:Nat)=sizeLine) (hel:∀ x ∈ els,x ∈ Rst/\x.f=.z)
  (hgo:∀ H',(∀ b o,H1 b=some o->¬ Gc.bw b->H' b=some o)->(∀ (i:Nat) (d:D),ds[i]?=some d->J.go i H'/\∀ x H'',J.yld i H' x H''->∃ w,New K H' H'' (cb els) w/\w.d=d/\w.f=.z/\w.v=x)/\J.stop ds.length H')
  (h0:Gc.H0=H1) (hb:Bnd K Gc.pr tg bnd) (htc:∀ σ H Q,tT K Gc (fun _ _=>False) c σ H Q->tc σ H Q) (hte:∀ σ H Q,tE K Gc (fun _ _=>False) elt σ H Q->te σ H Q)
  (hlen:ds.length < 16777216) (w:Wf K Gc H1 τ τρ Rst gC) (e:df bnd c elt ds τρ=some (.ok ds',τρ'))
  (hZ:∀ (us:List It3) (τ':St) (H':Hp) (g':Nat->Option It3),(∀ x ∈ us,x.f=.z)->us.map (·.d)=ds'->Wf K Gc H' τ' τρ' (us ++ Rst) g'->Z (us.map (·.v)) H'):mh J tg tc te Z τ H1:=by
 refine ⟨fun i m vs τ' H'=>i<=ds.length/\m=ds.length - i/\vs.length<=i/\∃ (us:List It3) (ρ2:Sto) (g2:Nat->Option It3) (r:List D),(∀ x ∈ us,x.f=.z)/\us.map (·.v)=vs/\Wf K Gc H' τ' ρ2 (us ++ Rst) g2/\df bnd c elt (ds.drop i) ρ2=some (.ok r,τρ')/\us.map (·.d) ++ r=ds',⟨_,Nat.zero_le _,rfl,uy _,[],τρ,gC,ds',fun _ h=>(by cases h),rfl,w,e,rfl⟩,?_⟩
 rintro i m vs τ1 H2 ⟨hi,rfl,hvl,us,ρ2,g2,r,huz,huv,w2,e2,hds⟩
 refine ⟨by omega,?_⟩
 obtain ⟨wgo,wstop⟩:=hgo H2 fun b o hb' hn=>w2.base b o (by rw [h0];exact hb') hn
 by_cases hlt:i < ds.length
 ·obtain ⟨d,hd⟩:∃ d,ds[i]?=some d:=⟨_,uj hlt⟩
  have hdrop:ds.drop i=d :: ds.drop (i+1):=by
   rw [List.drop_eq_getElem_cons hlt]
   rw [uj hlt] at hd
   cases hd;rfl
  rw [hdrop] at e2
  obtain ⟨go,yld⟩:=wgo i d hd
  refine .inr ⟨go,fun vs5 τ5 H5=>vs5.length<=i+1/\∃ (us:List It3) (ρ5:Sto) (g5:Nat->Option It3) (r:List D),(∀ x ∈ us,x.f=.z)/\us.map (·.v)=vs5/\Wf K Gc H5 τ5 ρ5 (us ++ Rst) g5/\df bnd c elt (ds.drop (i+1)) ρ5=some (.ok r,τρ')/\us.map (·.d) ++ r=ds',
   fun vs5 τ5 H5 ⟨hl5,h5⟩=>⟨ds.length - (i+1),by omega,hlt,rfl,hl5,h5⟩,fun x H'' hy=>?_⟩
  obtain ⟨u,nu,ud,uf,uv⟩:=yld x H'' hy
  have w3:Wf K Gc H'' τ1 ρ2 (u :: (us ++ Rst)) g2:=w2.push nu fun c hc=>w2.alls (ys:=els) (fun y hy=>⟨.inr (uh _ (hel y hy).1),(hel y hy).2⟩) hc
  have e3:(match bnd d ρ2 with
   | none=>none
   | some τ1=>af c (fun b=>if b then af elt (fun r=>af (eD r) fun p=>af (df bnd c elt (ds.drop (i+1))) fun l=>bq (p.1 :: l)) else df bnd c elt (ds.drop (i+1))) τ1)=some (.ok r,τρ'):=e2
  cases e4:bnd d ρ2 with
  | none=>rw [e4] at e3;exact nsE e3
  | some ρ3 =>
   rw [e4] at e3
   dsimp only at e3
   rw [<- uv]
   refine hb Gc H'' τ1 ρ2 ρ3 _ g2 u _ rfl uf w3 (by rw [ud];exact e4) fun τ4 g4 w4=>?_
   refine htc _ _ _ (tT.seq (Le.refl K Gc _) w4 e3 (fun x hx=>by cases hx) fun b ρ5 e5 H5 g5 w5=>?_)
   cases b with
   | false =>
    simp only [uN,if_false] at e5 ⊢
    exact ⟨by omega,us,ρ5,g5,r,huz,huv,w5,e5,hds⟩
   | true =>
    simp only [if_true] at e5 ⊢
    refine hte _ _ _ (tE.seq (Le.refl K Gc _) w5 e5 (fun x hx=>by cases hx) fun ra ρ6 e6 v H6 ⟨Ts,g6,w6,a6⟩=>?_)
    obtain ⟨p,ρ7,g7,x7,e7,w7,f1,f2,_,f3⟩:=a6.take w6 e6
    have w8:=Wf.lowT (Ts:=[x7]) w7
    unfold af at e7
    cases e8:df bnd c elt (ds.drop (i+1)) ρ7 with
    | none=>rw [e8] at e7;exact nsE e7
    | some pr =>
     obtain ⟨o,ρ8⟩:=pr
     rw [e8] at e7
     cases o with
     | error x=>cases e7
     | ok l =>
      cases e7
      refine ⟨by rw [uH];simp;omega,us ++ [bT x7],ρ7,g7,l,fun y hy=>?_,by rw [List.map_append,huv,<- f3];rfl,?_,e8,?_⟩
      ·rcases ul.mp hy with h | h
       ·exact huz y h
       ·rw [uM.mp h];rfl
      ·exact w8.perm (by
        show ([bT x7] ++ (us ++ Rst)).Perm (us ++ [bT x7] ++ Rst)
        rw [<- List.append_assoc]
        exact (List.perm_append_comm).append_right Rst)
      ·rw [List.map_append,List.append_assoc]
       show us.map (·.d) ++ ((bT x7).d :: l)=ds'
       rw [show (bT x7).d=p.1 from f1]
       exact hds
 ·have ei:i=ds.length:=by omega
  subst ei
  rw [List.drop_length] at e2
  cases e2
  rw [List.append_nil] at hds
  subst huv
  exact .inl ⟨wstop,hZ us τ1 H2 g2 huz hds w2⟩
end
end L3
end
section
namespace L3
open PySem L2
section
variable {K:FG} {G G0:Gm} {W W0:D->Sto->Prop} {H H':Hp} {σ τ:St} {ρ ρ':Sto} {T T':List It3} {g:Nat->Option It3} {x y z:It3} {α β:Type} {ix:List (Option Nat)}
noncomputable def bR (ix:List (Option Nat)):Gm:=⟨fun _=>none,fun _=>False,fun j=>((ix[j]?).join).isSome,[],fun _=>none,fun _=>False,fun _=>none⟩
noncomputable abbrev noX:D->Sto->Prop:=fun _ _=>False
theorem lP {G1:Gm} (h:G1.pr=(bR ix).pr) (le:Le K G W G1 noX):Le K G W (bR ix) noX:=⟨le.pr.trans h,fun H σ ρ T g e w q=>by
 obtain ⟨_,_,_,_,f⟩:=le.ex H σ ρ T g e w q
 exact f.elim⟩
theorem pN {G1:Gm} {m:EM} {Q:VK} (h:G1.pr=(bR ix).pr) (q:tE K G1 noX m σ H Q):tE K (bR ix) noX m σ H Q:=by
 obtain ⟨G,W,le,r⟩:=q
 exact ⟨G,W,lP h le,r⟩
theorem pI {G1:Gm} {m:M3 Bool} {Q:Bool->Hp->Prop} (h:G1.pr=(bR ix).pr) (q:tT K G1 noX m σ H Q):tT K (bR ix) noX m σ H Q:=by
 obtain ⟨G,W,le,r⟩:=q
 exact ⟨G,W,lP h le,r⟩
noncomputable def gX:M3 Bool:=bq true
theorem rL {Q:Bool->Hp->Prop} (h:tT K G0 W0 gX σ H Q):tYes σ H Q:=by
 refine h.use fun G W le ρ T g o ρ' w e q=>?_
 cases e
 exact q _ _ w
set_option tactic.hygienic true in
theorem fo {bnd:D->Sto->Option Sto} {c:M3 Bool} {elt:EM}:∀ {ds ds':List D} {τρ τρ':Sto},df bnd c elt ds τρ=some (.ok ds',τρ')->ds'.length<=ds.length
 | [],ds',τρ,τρ',e=>by cases e;exact uy _
 | d :: ds,ds',τρ,τρ',e=>by
  unfold df at e
  split at e
  ·exact nsE e
  ·rename_i τ1 _
   unfold af at e
   split at e
   ·exact nsE e
   ·cases e
   ·rename_i b τ2 _
    cases b with
    | false =>
     simp only [uN,if_false] at e
     have:=fo e
     simp;omega
    | true =>
     simp only [if_true] at e
     split at e
     ·exact nsE e
     ·cases e
     ·split at e
      ·exact nsE e
      ·cases e
      ·split at e
       ·exact nsE e
       ·cases e
       ·rename_i l τ5 h5
        cases e
        have:=fo h5
        simp;omega
set_option tactic.hygienic true in
theorem o9 {im:IM} {bnd:D->Sto->Option Sto} {c:M3 Bool} {elt:EM} {tg:TG} {o:Except D R3} {Z:List V->Hp->Prop} (hz:(16777216:Nat)=sizeLine) (hij:Inj ix) (hb:Bnd K (bR ix).pr tg bnd) (le:Le K G W G0 W0) (w:Wf K G H σ ρ T g) (e:cF im bnd c elt ix ρ=some (o,ρ')) (he:∀ x,o=.error x->W x ρ')
  (hZ:∀ (us:List It3) (H':Hp) (g':Nat->Option It3) (Ts:List It3) (ds:List D),o=.ok (.val (.lst ds) .u)->(∀ x ∈ us,x.f=.z)->us.map (·.d)=ds->us.length<=16777216->Wf K G H' σ ρ' (us ++ T) g'->Z (us.map (·.v)) H') :
  tI K G0 W0 im σ H fun J H1=>mh J tg (tT K (bR ix) noX c) (tE K (bR ix) noX elt) Z (cap ix σ) H1:=by
 refine tI.seq le w e he fun p ρ1 e1=>?_
 intro J H1 vs Ts g1 ys w1 a1 hys hw
 have his:=us_u (is:=pls p.1) w1
 have hus:∀ i y,i ∈ pls p.1->g1 i=some y->y.f=.u->i ∈ us ρ1 (pls p.1):=fun i y hi ey hf=>nv w1 hi ey hf
 generalize us ρ1 (pls p.1)=is at e1 his hus
 have w2:=w1.enter is
 obtain ⟨els,hels,walk⟩:=hw
 have hM:∀ b,(∃ j y,j ∉ is/\g1 j=some y/\y.f=.u/\y.v=.ref b)->MutAt H1 b:=fun b ⟨j,y,_,ey,hf,hv⟩=>by
  obtain ⟨_,a,L',v1,v2,_⟩:=(w1.okS j y ey).own (by rw [hf];intro q;cases q)
  rw [hv] at v1;cases v1
  exact (w1.okS j y ey).rep.inH b (by rw [v2];exact ua)
 have hysM:∀ y ∈ ys,∀ b ∈ y.L,¬ ∃ j y,j ∉ is/\g1 j=some y/\y.f=.u/\y.v=.ref b:=fun y hy b hb ⟨j,y',nj,ey',hf,hv⟩=>by
  have hfz:y'.f ≠ .z:=by rw [hf];intro q;cases q
  rcases hys y hy with ⟨i,hi,ei⟩ | hy
  ·by_cases ij:i=j
   ·subst ij
    rw [ei] at ey';cases ey'
    exact nj (hus i y hi ei hf)
   ·exact w1.ss j i y' y (Ne.symm ij) ey' ei hfz b hv hb
  ·exact (w1.st j y' ey' y (ug _ hy)).1 hfz b hv hb
 have hitm:∀ y ∈ ys,Itm (Ts ++ T) g1 y:=fun y hy=>by
  rcases hys y hy with ⟨i,_,ei⟩ | h
  ·exact .inl ⟨i,ei⟩
  ·exact .inr (ug _ h)
 have kid:∀ x ∈ els,∀ c ∈ x.L,cp ((Ts ++ T).map a8) (fun j=>if j ∈ is then (g1 j).map a8 else g1 j) c/\(H1 c=none\/(G.H0 c=none\/G.src c)):=fun x hx c hc=>by
  obtain ⟨nr,sr⟩:=w1.kids hitm ((hels x hx).2.2 c hc)
  refine ⟨⟨fun i z ez hf hv=>?_,fun z hz hf hv=>?_⟩,.inr sr⟩
  ·have ez:(if i ∈ is then (g1 i).map a8 else g1 i)=some z:=ez
   by_cases q:i ∈ is
   ·rw [if_pos q] at ez
    obtain ⟨z0,e0,e1⟩:=ue.mp ez
    subst e1
    exact nr.1 i z0 e0 (fun q=>hf (lentF_z.mpr q)) hv
   ·rw [if_neg q] at ez
    exact nr.1 i z ez hf hv
  ·obtain ⟨z0,h0,rfl⟩:=uw.mp hz
   exact nr.2 z0 h0 (fun q=>hf (lentF_z.mpr q)) hv
 have w3:Wf K (cx G H1 g1 is) H1 σ (aL cG is ρ1) (els ++ (Ts ++ T).map a8) (fun j=>if j ∈ is then (g1 j).map a8 else g1 j):=w2.pushAll fun x hx=>⟨(hels x hx).1,(hels x hx).2.1,fun c hc=>kid x hx c hc⟩
 have w4:=w3.cap hij
 cases e2:df bnd c elt p.2 (pg ix (aL cG is ρ1)) with
 | none=>rw [e2] at e1;exact nsE e1
 | some rr =>
  obtain ⟨o2,τρ⟩:=rr
  rw [e2] at e1
  cases o2 with
  | error x=>exact nsE e1
  | ok ds =>
   dsimp only at e1
   split at e1
   ·rename_i hlen
    cases e3:uncap ix τρ (aL cG is ρ1) with
    | none=>rw [e3] at e1;exact nsE e1
    | some ρ3 =>
     rw [e3] at e1
     have eo:o=.ok (.val (.lst ds) .u)/\ρ'=aL dW is ρ3:=by cases e1;exact ⟨rfl,rfl⟩
     obtain ⟨eo,eρ⟩:=eo
     refine mY (K:=K) (Gc:=ph (cx G H1 g1 is) ix σ) (els:=els) (M:=fun _=>False) (ys:=ys) hz (fun x hx=>⟨uh _ (ug _ hx),(hels x hx).1⟩) (fun H' hk=>walk _ H' hM hk hysM) rfl hb (fun σ' H Q q=>pI (G1:=ph (cx G H1 g1 is) ix σ) rfl q) (fun σ' H Q q=>pN (G1:=ph (cx G H1 g1 is) ix σ) rfl q) hlen w4 e2 fun us τ' H' g' huz hud w5=>?_
     obtain ⟨g6,w6⟩:=Wf.uncap w3 (fun b o h=>h) hij e3 huz w5
     have w7:=Wf.leave (T:=Ts ++ T) (T':=T) (R:=us) w1 his (uu Ts T) (w6.sub ((List.Sublist.refl us).append (by
      rw [List.map_append]
      exact (uu (Ts.map a8) (T.map a8)).trans (uu els _))))
     have hle:us.length<=16777216:=by
      have h1:us.length=ds.length:=by rw [<- hud,uo]
      have h2:=fo e2
      omega
     rw [<- eρ] at w7
     exact hZ us H' _ Ts ds eo huz hud hle w7
   ·exact nsE e1
theorem mZ {us:List It3} {p:Addr} (w:Wf K G H σ ρ (us ++ T) g) (huz:∀ x ∈ us,x.f=.z) (hp:H p=none) :
  Wf K G (upd H p (.lst (us.map (·.v)))) σ ρ (⟨.lst (us.map (·.d)),.ref p,p :: (us.map (·.L)).flatten,.u⟩ :: T) g:=by
 have hi:∀ y ∈ us,Itm (us ++ T) g y/\y.f=.z:=fun y hy=>⟨.inr (ug _ hy),huz y hy⟩
 have np:p ∉ (us.map (·.L)).flatten:=fun hc=>by
  obtain ⟨y,hm,hc⟩:=cR hc
  obtain ⟨o,ho⟩:=((w.itm (hi y hm).1).rep.inH p hc).ex
  rw [hp] at ho;exact nsE ho
 have n:New K H (upd H p (.lst (us.map (·.v)))) (cb us) ⟨.lst (us.map (·.d)),.ref p,p :: (us.map (·.L)).flatten,.u⟩:=⟨bp hp,.lst aS ((gf fun y hy=>(w.itm (hi y hy).1).rep).same (bp hp)),fun c hc=>by
  rcases ui.mp hc with e | hc
  ·rw [e];exact .inl hp
  ·exact .inr (cR hc),fun _=>⟨rfl,p,_,rfl,rfl,np,hp⟩⟩
 exact (w.push n fun c h=>w.alls hi h).sub (List.Sublist.cons_cons _ (uu us T))
theorem pP {im:IM} {bnd:D->Sto->Option Sto} {c:M3 Bool} {elt:EM} {tg:TG} {Q:VK} (hz:(16777216:Nat)=sizeLine) (hij:Inj ix) (hb:Bnd K (bR ix).pr tg bnd) (h:tE K G0 W0 (cF im bnd c elt ix) σ H Q) :
  qW (tI K G0 W0 im) tg (tT K (bR ix) noX c) (tE K (bR ix) noX elt) ix σ H Q:=by
 refine h.use fun G W le ρ T g o ρ' w e q=>?_
 refine o9 hz hij hb le w e q.err fun us H' g' Ts ds eo huz hud hl w1=>?_
 subst eo hud
 intro p hp
 have w2:=mZ w1 huz hp
 exact q (.ref p) _ ⟨[_],g',w2,Ar.val (⟨.lst (us.map (·.d)),.ref p,p :: (us.map (·.L)).flatten,.u⟩:It3)⟩
end
end L3
end
section
namespace L3
open PySem L2
section
variable {K:FG} {G G0:Gm} {W W0:D->Sto->Prop} {H H':Hp} {σ:St} {ρ ρ':Sto} {T T':List It3} {g:Nat->Option It3} {x y z:It3} {α β:Type}
theorem Wf.mutate {i:Nat} {a:Addr} {o':HO} {d':D} {L0:List Addr} (w:Wf K G H σ ρ T g) (ey:g i=some y) (hu:y.f=.u) (ev:y.v=.ref a) (hm:eS d'=true) (rep:Rep K (upd H a o') d' (.ref a) (a :: L0)) (na:a ∉ L0)
  (hk:∀ c ∈ L0,cp T g c/\(G.H0 c=none\/G.src c)):Wf K G (upd H a o') σ (ρ.set i (some (d',.u))) T (fun j=>if j=i then some ⟨d',.ref a,a :: L0,.u⟩ else g j):=by
 have hfz:y.f ≠ .z:=by rw [hu];intro q;cases q
 have oy:=w.okS i y ey
 obtain ⟨_,a',L',v1,v2,v3,v4⟩:=oy.own hfz
 rw [ev] at v1;cases v1
 have hi:i < ρ.length:=by
  have:=w.sl i
  rw [ey] at this
  exact cn this.symm
 have ma:MutAt H a:=oy.rep.inH a (by rw [v2];exact ua)
 have val:∀ j u,(if j=i then some (⟨d',.ref a,a :: L0,.u⟩:It3) else g j)=some u->(j=i/\u=⟨d',.ref a,a :: L0,.u⟩)\/(j ≠ i/\g j=some u):=fun j u h=>by
  by_cases q:j=i
  ·rw [if_pos q] at h;cases h;exact .inl ⟨q,rfl⟩
  ·rw [if_neg q] at h;exact .inr ⟨q,h⟩
 have keep:∀ u,ItOk K G H u->a ∉ u.L->ItOk K G (upd H a o') u:=fun u ou hn=>ou.keep (M:=fun b=>b=a) (fun b o hb n=>by rw [aC n];exact hb) (fun b e=>by rw [e];exact ma) fun b hb e=>hn (by rw [<- e];exact hb)
 have nS:∀ j u,j ≠ i->g j=some u->a ∉ u.L:=fun j u n e=>w.ss i j y u (Ne.symm n) ey e hfz a ev
 have nT:∀ u ∈ T,a ∉ u.L:=fun u hu'=>(w.st i y ey u hu').1 hfz a ev
 have dom:∀ b o,H b=some o->∃ o'',upd H a o' b=some o'':=fun b o hb=>by
  by_cases q:b=a
  ·rw [q,aS];exact ⟨_,rfl⟩
  ·rw [aC q];exact ⟨o,hb⟩
 refine ⟨by rw [List.length_set];exact w.len,fun j=>?_,fun j u h=>?_,fun j u h=>?_,fun u hu'=>keep u (w.okT u hu') (nT u hu'),fun j k p q n hp hq=>?_,fun j u h t ht=>?_,w.tt,fun b o e n=>?_,w.pro,⟨w.fx.frT,fun j u h hp hf b eb=>?_,fun b hb=>?_,fun b o hb=>?_,fun j u h hl=>?_⟩⟩
 ·rw [bx hi]
  by_cases q:j=i
  ·rw [if_pos q,if_pos q];rfl
  ·rw [if_neg q,if_neg q];exact w.sl j
 ·rcases val j u h with ⟨rfl,rfl⟩ | ⟨n,h⟩
  ·rw [w.sv j y ey,ev]
  ·exact w.sv j u h
 ·rcases val j u h with ⟨rfl,rfl⟩ | ⟨n,h⟩
  ·refine ⟨rep,fun _=>⟨hm,a,L0,rfl,rfl,na,fun _=>v4 hu⟩,fun c hc=>?_⟩
   rcases ui.mp hc with e | hc
   ·rw [e];exact oy.src a (by rw [v2];exact ua)
   ·exact (hk c hc).2
  ·exact keep u (w.okS j u h) (nS j u n h)
 ·rcases val j p hp with ⟨ej,ep⟩ | ⟨n1,hp'⟩
  ·rcases val k q hq with ⟨ek,eq⟩ | ⟨n2,hq'⟩
   ·exact absurd (ej.trans ek.symm) n
   ·rw [ep]
    intro _ c ec
    cases ec
    exact nS k q n2 hq'
  ·rcases val k q hq with ⟨ek,eq⟩ | ⟨n2,hq'⟩
   ·rw [eq]
    intro hf c ec hc
    rcases ui.mp hc with e | hc
    ·obtain ⟨_,b,L2,u1,u2,_⟩:=(w.okS j p hp').own hf
     rw [ec] at u1;cases u1
     exact nS j p n1 hp' (by rw [<- e,u2];exact ua)
    ·exact (hk c hc).1.1 j p hp' hf ec
   ·exact w.ss j k p q n hp' hq'
 ·rcases val j u h with ⟨ej,eu⟩ | ⟨n,h'⟩
  ·rw [eu]
   refine ⟨fun _ c ec=>by cases ec;exact nT t ht,fun hf c ec hc=>?_⟩
   rcases ui.mp hc with e | hc
   ·obtain ⟨_,b,L2,u1,u2,_⟩:=(w.okT t ht).own hf
    rw [ec] at u1;cases u1
    exact nT t ht (by rw [<- e,u2];exact ua)
   ·exact (hk c hc).1.2 t ht hf ec
  ·exact w.st j u h' t ht
 ·have:b ≠ a:=fun z=>by
   subst z
   rcases v4 hu with h | h
   ·rw [e] at h;cases h
   ·exact n h
  rw [aC this];exact w.base b o e n
 ·rcases val j u h with ⟨ej,eu⟩ | ⟨n,h'⟩
  ·subst ej
   rw [eu] at eb
   cases eb
   exact w.fx.frS j y ey hp hfz a ev
  ·exact w.fx.frS j u h' hp hf b eb
 ·obtain ⟨o,ho⟩:=w.fx.bin b hb
  exact dom b o ho
 ·obtain ⟨o2,ho⟩:=w.fx.ob b o hb
  exact dom b o2 ho
 ·rcases val j u h with ⟨ej,eu⟩ | ⟨n,h'⟩
  ·rw [eu] at hl;cases hl
  ·exact w.fx.lvS j u h' hl
noncomputable def MutD (K:FG) (r:V->List V->Hp->VK->Prop) (f:D->List D->Option (D × D)):Prop:=∀ (a:Addr) (d:D) (L0:List Addr) (as:List It3) (H:Hp) (Q:VK) (p:D × D),Rep K H d (.ref a) (a :: L0)->eS d=true->a ∉ L0->(∀ x ∈ as,Rep K H x.d x.v x.L)->(∀ x ∈ as,a ∉ x.L)->f d (as.map (·.d))=some p ->
 (∀ (o':HO) (L1:List Addr) (w:It3),Rep K (upd H a o') p.1 (.ref a) (a :: L1)->eS p.1=true->(∀ c ∈ L1,c ∈ L0\/cb as c)->w.f=.z->w.d=p.2->Rep K (upd H a o') w.d w.v w.L->(∀ c ∈ w.L,c ∈ L0\/cb as c)->Q w.v (upd H a o'))->r (.ref a) (as.map (·.v)) H Q
noncomputable def chk (ok:D->Bool) (i:Nat):M3 Unit:=fun ρ=>match (ρ[i]?).join with
 | some (d,_)=>if ok d then some (.ok (),ρ) else none
 | none=>none
theorem jF {i:Nat} {k:R3->M3 β} {r:Except D β} (e:af (ac i) k ρ=some (r,ρ')):∃ p,(ρ[i]?).join=some p/\k (.pl i) ρ=some (r,ρ'):=by
 unfold af ac at e
 cases q:(ρ[i]?).join with
 | none=>rw [q] at e;exact nsE e
 | some p=>rw [q] at e;exact ⟨p,rfl,e⟩
theorem pc {ok:D->Bool} {i:Nat} {k:Unit->M3 β} {r:Except D β} (e:af (chk ok i) k ρ=some (r,ρ')):(∀ p,(ρ[i]?).join=some p->ok p.1=true)/\k () ρ=some (r,ρ'):=by
 unfold af chk at e
 cases q:(ρ[i]?).join with
 | none=>rw [q] at e;exact nsE e
 | some p =>
  rw [q] at e
  dsimp only at e
  cases h:ok p.1 with
  | false=>rw [h] at e;exact nsE e
  | true=>rw [h] at e;exact ⟨fun p' e'=>by cases e';exact h,e⟩
noncomputable def qB (ok:D->Bool) (f:D->List D->Option (D × D)) (i:Nat) (ms:M3 (List R3)):EM:=af (ac i) fun _=>af (chk ok i) fun _=>af ms fun rs=>af (gives rs) fun ds=>fun ρ=>match (ρ[i]?).join with
 | some (d,.u)=>match f d ds with
  | some p=>some (.ok (.val p.2 .z),ρ.set i (some (p.1,.u)))
  | none=>none
 | _=>none
theorem Wf.changed {i:Nat} {d:D} {as us:List It3} {r:V->List V->Hp->VK->Prop} {f:D->List D->Option (D × D)} {p:D × D} {v:V} {Q:VK} (hr:MutD K r f) (w:Wf K G H σ ρ (us ++ T) g) (e:(ρ[i]?).join=some (d,.u)) (hv:σ[i]?=some (some v)) (ha:∀ y ∈ as,Itm (us ++ T) g y/\y.f=.z)
  (ef:f d (as.map (·.d))=some p) (q:∀ v H',Got K G σ (ρ.set i (some (p.1,.u))) T (.val p.2 .z) v H'->Q v H'):r v (as.map (·.v)) H Q:=by
 obtain ⟨y,y1,y2,y3,y4⟩:=w.slot e
 rw [hv] at y4
 injection y4 with y4
 injection y4 with y4
 have hfz:y.f ≠ .z:=by rw [y3];intro q;cases q
 have oy:=w.okS i y y1
 obtain ⟨m,a,L0,v1,v2,v3,_⟩:=oy.own hfz
 have ra:=oy.rep
 rw [v1,v2,y2] at ra
 rw [y2] at m
 rw [y4,v1]
 have na:∀ x ∈ as,a ∉ x.L:=fun x hx hc=>by
  have:=(w.kid (ha x hx).1 hc fun hf=>absurd (ha x hx).2 hf).1 i y y1 hfz
  exact this v1
 refine hr a d L0 as H Q p ra m v3 (fun x hx=>(w.itm (ha x hx).1).rep) na ef fun o' L1 u r1 m1 s1 uf ud ur us1=>?_
 have hsrc:∀ c,(c ∈ L0\/cb as c)->cp (us ++ T) g c/\(G.H0 c=none\/G.src c):=fun c hc=>by
  rcases hc with hc | hc
  ·have hc':c ∈ y.L:=by rw [v2];exact ub _ hc
   exact ⟨w.kid (.inl ⟨i,y1⟩) hc' fun _ ez=>by rw [v1] at ez;cases ez;exact v3 hc,oy.src c hc'⟩
  ·exact w.alls ha hc
 have nL:∀ c,(c ∈ L0\/cb as c)->c ≠ a:=fun c hc z=>(hsrc c hc).1.1 i y y1 hfz (by rw [z];exact v1)
 have w1:=w.mutate (o':=o') y1 y3 v1 m1 r1 (fun h=>nL a (s1 a h) rfl) fun c hc=>hsrc c (s1 c hc)
 have w2:=w1.pushAll (ws:=[u]) fun x hx=>by
  rw [uM.mp hx]
  refine ⟨uf,ur,fun c hc=>?_⟩
  have s:=hsrc c (us1 c hc)
  refine ⟨⟨fun j z ez hf hz=>?_,s.1.2⟩,s.2⟩
  have ez:(if j=i then some (⟨p.1,.ref a,a :: L1,.u⟩:It3) else g j)=some z:=ez
  by_cases q:j=i
  ·rw [if_pos q] at ez
   cases ez
   cases hz
   exact nL a (us1 a hc) rfl
  ·rw [if_neg q] at ez
   exact s.1.1 j z ez hf hz
 rw [<- ud,<- uf] at q
 exact q u.v _ ⟨[u],_,w2.sub ((List.Sublist.refl [u]).append (uu us T)),.val u⟩
theorem se {i:Nat} {Ty:String} {ok:D->Bool} {ms:M3 (List R3)} {r:V->List V->Hp->VK->Prop} {f:D->List D->Option (D × D)} {Q:VK} (hr:MutD K r f) (hok:∀ d v L H,ok d=true->Rep K H d v L->tyV K Ty v H) (h:tE K G0 W0 (qB ok f i ms) σ H Q):tBM K Ty r (ml i) (tA K G0 W0 ms) σ H Q:=by
 refine h.use fun G W le ρ T g o ρ' w e q=>?_
 obtain ⟨p0,e0,e⟩:=jF e
 obtain ⟨hk,e⟩:=pc e
 obtain ⟨d0,f0⟩:=p0
 obtain ⟨y,y1,y2,y3,y4⟩:=w.slot e0
 refine ⟨y.v,y4,hok d0 y.v y.L H (hk _ e0) (by rw [<- y2];exact (w.okS i y y1).rep),?_⟩
 refine tA.seq le w e q.err fun rs ρ1 e1 vs H1 Ts g1 w1 a1=>?_
 obtain ⟨ds,ρ2,g2,e2,_,w2,_,ys,hy,f1,f2⟩:=a1.gives w1 e1
 subst f1 f2
 cases e3:(ρ2[i]?).join with
 | none=>rw [e3] at e2;exact nsE e2
 | some p3 =>
  obtain ⟨d3,f3⟩:=p3
  rw [e3] at e2
  cases f3 with
  | u =>
   dsimp only at e2
   cases e4:f d3 (ys.map (·.d)) with
   | none=>rw [e4] at e2;exact nsE e2
   | some p =>
    rw [e4] at e2
    cases e2
    exact w2.changed hr e3 y4 hy e4 q
  | l=>exact nsE e2
  | z=>exact nsE e2
noncomputable def d7 (t:V->V->V->Hp->(Hp->Prop)->Prop):V->List V->Hp->VK->Prop:=fun x vs H Q=>∃ k v,vs=[k,v]/\t x k v H fun H'=>Q .non H'
noncomputable def jR (f:D->List D->Option (D × D)) (i:Nat) (mk mv:EM):SM:=af mv fun rv=>af (ac i) fun _=>af mk fun rk=>af (gives [rk,rv]) fun ds=>fun ρ=>match (ρ[i]?).join with
 | some (d,.u)=>match f d ds with
  | some p=>some (.ok .nx,ρ.set i (some (p.1,.u)))
  | none=>none
 | _=>none
theorem rP {i:Nat} {mk mv:EM} {t:nq} {f:D->List D->Option (D × D)} {E:Ends} (hr:MutD K (d7 t) f) (h:tS K G0 W0 (jR f i mk mv) E σ H):nC (tE K G0 W0 mv) (gSub (ml i) (tE K G0 W0 mk) t) E σ H:=by
 refine h.use fun G W le ρ T g r ρ' w e q=>?_
 refine tE.seq le w e q.err fun rv ρ1 e1 v H1 ⟨Ts,g1,w1,a1⟩=>?_
 obtain ⟨p0,e0,e1⟩:=jF e1
 obtain ⟨d0,f0⟩:=p0
 obtain ⟨y,y1,y2,y3,y4⟩:=w1.slot e0
 refine ⟨y.v,y4,?_⟩
 ·refine tE.seq le w1 e1 q.err fun rk ρ2 e2 vk H2 ⟨Us,g2,w2,a2⟩=>?_
  have a3:Ars σ [rk,rv] [vk,v] (([] ++ Ts) ++ Us):=.cons a2 (.cons a1 .nil)
  have w3:Wf K G H2 σ ρ2 ((([] ++ Ts) ++ Us) ++ T) g2:=w2.perm (by
   rw [List.nil_append,<- List.append_assoc]
   exact (List.perm_append_comm).append_right T)
  obtain ⟨ds,ρ3,g3,e3,_,w4,_,ys,hy,f1,f2⟩:=a3.gives w3 e2
  subst f1
  cases e4:(ρ3[i]?).join with
  | none=>rw [e4] at e3;exact nsE e3
  | some p3 =>
   obtain ⟨d3,f3⟩:=p3
   rw [e4] at e3
   cases f3 with
   | u =>
    dsimp only at e3
    cases e5:f d3 (ys.map (·.d)) with
    | none=>rw [e5] at e3;exact nsE e3
    | some p =>
     rw [e5] at e3
     cases e3
     have:=w4.changed (Q:=fun _ H'=>E.nx σ H') hr e4 y4 hy e5 fun v' H' ⟨Vs,g5,w5,a5⟩=>q _ _ _ (w5.sub (uu Vs T))
     rw [f2] at this
     obtain ⟨k',v',ekv,ht⟩:=this
     cases ekv
     exact ht
   | l=>exact nsE e3
   | z=>exact nsE e3
end
end L3
end
section
namespace L3
open PySem L2
structure RE (X:Cx) (G0:Gm) (W0:D->Sto->Prop) (e:Expr) (m:EM):Prop where
 h:PE X e (tE X.K G0 W0 m)
structure RT (X:Cx) (G0:Gm) (W0:D->Sto->Prop) (e:Expr) (m:M3 Bool):Prop where
 h:PT X e (tT X.K G0 W0 m)
structure RW (X:Cx) (G0:Gm) (W0:D->Sto->Prop) (e:Expr) (m:M3 Bool):Prop where
 h:PW X e (tT X.K G0 W0 m)
structure RA (X:Cx) (G0:Gm) (W0:D->Sto->Prop) (es:List Expr) (m:M3 (List R3)):Prop where
 h:PA X es (tA X.K G0 W0 m)
structure RS (X:Cx) (G0:Gm) (W0:D->Sto->Prop) (s:Stmt) (m:SM):Prop where
 h:PS X s (tS X.K G0 W0 m)
structure RSs (X:Cx) (G0:Gm) (W0:D->Sto->Prop) (s:List Stmt) (m:SM):Prop where
 h:PSs X s (tS X.K G0 W0 m)
structure RI (X:Cx) (G0:Gm) (W0:D->Sto->Prop) (tg iter:Expr) (m:IM):Prop where
 h:PI X tg iter (tI X.K G0 W0 m)
structure RG (X:Cx) (pr:Nat->Bool) (target:Expr) (bnd:D->Sto->Option Sto):Prop where
 h:∃ tg,PG X target tg/\Bnd X.K pr tg bnd
structure RGs (X:Cx) (pr:Nat->Bool) (targets:List Expr) (bnd:List D->Sto->Option Sto):Prop where
 h:∃ tg,PGs X targets tg/\pG X.K pr tg bnd
theorem PE.imp {X:Cx} {e:Expr} {t t':TE} (h:PE X e t) (f:∀ σ H Q,t' σ H Q->t σ H Q):PE X e t':=fun pins s σ H Q I q=>h pins s σ H Q I (f σ H Q q)
theorem PT.imp {X:Cx} {e:Expr} {t t':TT} (h:PT X e t) (f:∀ σ H Q,t' σ H Q->t σ H Q):PT X e t':=fun pins s σ H Q I q=>h pins s σ H Q I (f σ H Q q)
theorem PW.imp {X:Cx} {e:Expr} {t t':TT} (h:PW X e t) (f:∀ σ H Q,t' σ H Q->t σ H Q):PW X e t':=fun wh pins s σ H Q I q=>h wh pins s σ H Q I (f σ H Q q)
theorem PA.imp {X:Cx} {e:List Expr} {t t':TA} (h:PA X e t) (f:∀ σ H Q,t' σ H Q->t σ H Q):PA X e t':=fun pos pins s σ H Q I q=>h pos pins s σ H Q I (f σ H Q q)
theorem PS.imp {X:Cx} {e:Stmt} {t t':TS} (h:PS X e t) (f:∀ D σ H,t' D σ H->t D σ H):PS X e t':=fun pins s σ H D I q=>h pins s σ H D I (f D σ H q)
theorem PSs.imp {X:Cx} {e:List Stmt} {t t':TS} (h:PSs X e t) (f:∀ D σ H,t' D σ H->t D σ H):PSs X e t':=fun pins s σ H D I q=>h pins s σ H D I (f D σ H q)
theorem PI.imp {X:Cx} {tg e:Expr} {t t':TI} (h:PI X tg e t) (f:∀ σ H R,t' σ H R->t σ H R):PI X tg e t':=fun pins s σ H R I q=>h pins s σ H R I (f σ H R q)
theorem szl:(16777216:Nat)=sizeLine:=by rw [sizeLine_eq]
section
variable {X:Cx} {G0:Gm} {W0:D->Sto->Prop} {a b c e:Expr} {es:List Expr} {pos:Pos} {ma mb mc m:EM} {ms:M3 (List R3)} {t u:M3 Bool} {dq:List Expr}
theorem nO (i:Nat) {x:Str} (hN:X.N[i]?=some x) (hv:Vis X.env.scope x) (hd:(x == ("__debug__":Str))=false) (hcd:(x == ("__classdict__":Str))=false):RE X G0 W0 (.Name x pos) (ac i):=⟨PE.imp (d8 hN hv hd hcd) fun _ _ _ h=>r6 h⟩
theorem ae {i j}:RE X G0 W0 (.Constant (.int i) j pos) (mC (.int i)):=⟨PE.imp sZ fun _ _ _ h=>eE (fun _=>.int i) h⟩
theorem dw {i j}:RE X G0 W0 (.Constant (.bool i) j pos) (mC (.bl i)):=⟨PE.imp pe_bl fun _ _ _ h=>eE (fun _=>.bl i) h⟩
theorem nR {j}:RE X G0 W0 (.Constant .none j pos) (mC .non):=⟨PE.imp sW fun _ _ _ h=>eE (fun _=>.non) h⟩
theorem aT {x:Str} {i:Int} {tk:Tok} (hg:Gl X x) (hm:X.mg x=some (.int i tk)) (hd:(x == ("__debug__":Str))=false):RE X G0 W0 (.Name x pos) (mC (.int i)):=⟨PE.imp (qe (v:=V.int i) hg hm ⟨_,rfl⟩ hd) fun _ _ _ h=>eE (fun _=>.int i) h⟩
theorem ak {op:Operator} {r:R2} {f:D->D->Option (D × Fl)} (ho:OpR X (binaryOp op) r) (hd:OpD X.K r f) (ha:RE X G0 W0 a ma) (hb:RE X G0 W0 b mb):RE X G0 W0 (.BinOp a op b pos) (ag f ma mb):=⟨PE.imp (pe_op ho ha.h hb.h) fun _ _ _ h=>gl hd h⟩
theorem nP {op:UnaryOp} {r:V->Hp->VK->Prop} {f:D->Option (D × Fl)} (ho:UnR X (unaryOp op) r) (hd:UnD X.K r f) (ha:RE X G0 W0 a ma):RE X G0 W0 (.UnaryOp op a pos) (mUn f ma):=⟨PE.imp (pe_un ho ha.h) fun _ _ _ h=>qU hd h⟩
theorem iY {op:CmpOp} {r:R2} {f:D->D->Option (D × Fl)} (ho:OpR X (compareOp op) r) (hd:OpD X.K r f) (ha:RE X G0 W0 a ma) (hb:RE X G0 W0 b mb) (hm:behindInMarks op b=false):RE X G0 W0 (.Compare a [op] [b] pos) (ag f ma mb):=⟨PE.imp (qg ho ha.h hb.h hm) fun _ _ _ h=>gl hd h⟩
theorem aw {r:R2} {f:D->D->Option (D × Fl)} (ho:IxR X r) (hd:OpD X.K r f) (ha:RE X G0 W0 a ma) (hb:RE X G0 W0 b mb) (hs:mf b):RE X G0 W0 (.Subscript a b pos) (ag f ma mb):=⟨PE.imp (pe_ix ho ha.h hb.h hs) fun _ _ _ h=>gl hd h⟩
theorem d6 (ha:RE X G0 W0 a ma) (hb:RE X G0 W0 (.BoolOp .And (b :: dq) pos) mb):RE X G0 W0 (.BoolOp .And (a :: b :: dq) pos) (ji ma mb):=⟨PE.imp (s0 ha.h hb.h) fun _ _ _ h=>sg h⟩
theorem gw {op} (h:RE X G0 W0 a ma):RE X G0 W0 (.BoolOp op [a] pos) ma:=⟨sU h.h⟩
theorem nQ (ha:RE X G0 W0 a ma):RE X G0 W0 (.UnaryOp .Not a pos) (qA ma):=⟨PE.imp (sV ha.h) fun _ _ _ h=>sd h⟩
noncomputable def ff (f f':D->D->Option (D × Fl)) (ma mb mc:EM):EM:=af ma fun ra=>af mb fun rb=>af (der ra) fun da=>af (der rb) fun db=>af (bA ((f da db).bind fun p=>asB p.1)) fun k=>if k then af mc fun rc=>af (der rb) fun db=>af (der rc) fun dc=>bA ((f' db dc).map fun p=>R3.val p.1 p.2) else bq (.val (.bl false) .z)
theorem dl (ha:RE X G0 W0 a ma) (he:∀ whole,isTrue a X.env whole=(do let v <- whole;standAt a.pos;holding [v] (truthy v))):RT X G0 W0 a (cB ma):=⟨PT.imp (sJ ha.h he) fun _ _ _ h=>rN h⟩
theorem iW (h:RW X G0 W0 a t):RT X G0 W0 a t:=⟨h.h.pt⟩
theorem lB (ha:RT X G0 W0 a t):RW X G0 W0 (.BoolOp .And [a] pos) t:=⟨p5 ha.h⟩
theorem dZ (ha:RT X G0 W0 a t):RW X G0 W0 (.BoolOp .Or [a] pos) t:=⟨sH ha.h⟩
theorem nI (ha:RT X G0 W0 a t) (hb:RW X G0 W0 (.BoolOp .And (b :: dq) pos) u):RW X G0 W0 (.BoolOp .And (a :: b :: dq) pos) (qL t u):=⟨PW.imp (sI ha.h hb.h) fun _ _ _ h=>rO h⟩
theorem eL (ha:RT X G0 W0 a t) (hb:RW X G0 W0 (.BoolOp .Or (b :: dq) pos) u):RW X G0 W0 (.BoolOp .Or (a :: b :: dq) pos) (cOr t u):=⟨PW.imp (pw_or ha.h hb.h) fun _ _ _ h=>tT_or h⟩
theorem cK (ha:RT X G0 W0 a t):RT X G0 W0 (.UnaryOp .Not a pos) (eX t):=⟨PT.imp (sK ha.h) fun _ _ _ h=>rM h⟩
theorem ad:RA X G0 W0 [] aq:=⟨PA.imp oj fun _ _ _ h=>sk h⟩
theorem aa (ha:RE X G0 W0 e m) (hr:RA X G0 W0 es ms) (hs:starEach (e :: es) X.env=(false,eval e X.env) :: starEach es X.env):RA X G0 W0 (e :: es) (ab m ms):=⟨PA.imp (i8 ha.h hr.h hs) fun _ _ _ h=>pQ h⟩
theorem cL {x1} (h:RA X G0 W0 es ms):RE X G0 W0 (.Tuple es x1 pos) (fY ms):=⟨PE.imp (sT h.h) fun _ _ _ h=>r9 szl h⟩
theorem gx (h:RA X G0 W0 es ms):RE X G0 W0 (.List es pos) (jh ms):=⟨PE.imp (sX h.h) fun _ _ _ h=>sf szl h⟩
theorem aA {x:Str} {p:Pos} {id:String} {r:List V->Hp->VK->Prop} {f:List D->Option (D × Fl)} (hc:CallR X (.builtin id) r) (hd:dg X.K r f) (hg:Gl X x) (hm:X.mg x=none) (hv:bootBuiltins x=some (.builtin id)) (ha:RA X G0 W0 (e :: es) ms) (hn:x ≠ "__name__") (hdb:(x == ("__debug__":Str))=false)
  (he:starEach (e :: es) X.env=(false,eval e X.env) :: starEach es X.env) (hpl:(backTo pos (starEach es X.env)).any (·.1)=false):RE X G0 W0 (.Call (.Name x p) (e :: es) [] pos) (aE f ms):=⟨PE.imp (j2 hc hg hm hv ha.h hn hdb he hpl) fun _ _ _ h=>jL hd h⟩
theorem iu {x:Str} {p:Pos} {T:String} {r:List V->Hp->VK->Prop} {f:List D->Option (D × Fl)} (hc:CallR X (.type T) r) (hd:dg X.K r f) (hg:Gl X x) (hm:X.mg x=none) (hv:bootBuiltins x=some (.type T)) (ha:RA X G0 W0 (e :: es) ms) (hn:x ≠ "__name__") (hdb:(x == ("__debug__":Str))=false)
  (he:starEach (e :: es) X.env=(false,eval e X.env) :: starEach es X.env) (hpl:(backTo pos (starEach es X.env)).any (·.1)=false):RE X G0 W0 (.Call (.Name x p) (e :: es) [] pos) (aE f ms):=⟨PE.imp (mD hc hg hm hv ha.h hn hdb he hpl) fun _ _ _ h=>jL hd h⟩
variable {st:Stmt} {sts:List Stmt} {sm sn:SM}
theorem a7:RSs X G0 W0 [] cO:=⟨PSs.imp qa fun _ _ _ h=>rV h⟩
theorem ai (h1:RS X G0 W0 st sm) (h2:RSs X G0 W0 sts sn):RSs X G0 W0 (st :: sts) (aI sm sn):=⟨PSs.imp (n4 h1.h h2.h) fun _ _ _ h=>rR h⟩
theorem aj (h1:RS X G0 W0 st sm):RSs X G0 W0 [st] sm:=⟨p9 h1.h⟩
theorem bZ (he:RE X G0 W0 e m) (hs:swapsWith e none pos.line X.env=pure false):RS X G0 W0 (.Expr e pos) (c9 m):=⟨PS.imp (qb he.h hs) fun _ _ _ h=>pJ h⟩
theorem aD (np:Nat) (hnp:∀ i,np<=i->G0.pr i=false) (he:RE X G0 W0 e m):RS X G0 W0 (.Return (some e) pos) (bj np m):=⟨PS.imp (sM he.h) fun _ _ _ h=>rS hnp h⟩
theorem b6 {x y:List Stmt} (hc:RT X G0 W0 c t) (ha:RSs X G0 W0 x sm) (hb:RSs X G0 W0 y sn):RS X G0 W0 (.If c x y pos) (sIf t sm sn):=⟨PS.imp (ps_if hc.h ha.h hb.h) fun _ _ _ h=>tS_if h⟩
theorem aU (i:Nat) {x:Str} {pos':Pos} (hN:X.N.Nodup) (hi:X.N[i]?=some x) (hx:Loc X.env.scope x) (he:RE X G0 W0 e m) (hs:swapsWith e (some (.Name x pos')) pos.line X.env=pure false) (hf:X.fn x=true\/X.env.scope.names.lookup x=some .local) (hp:G0.pr i=false):RS X G0 W0 (.Assign [.Name x pos'] e pos) (bH i m):=⟨PS.imp (sL hN hi hx he.h hs hf) fun _ _ _ h=>rQ hp h⟩
theorem bI {tg iter:Expr} {body:List Stmt} {im:IM} {bnd:D->Sto->Option Sto} (hp:PassesOwn (model X.prog X.w) X.A X.env X.xe) (hc:X.calm=true) (hi:RI X G0 W0 tg iter im) (hg:RG X G0.pr tg bnd) (hb:RSs X G0 W0 body sm) (hs:∀ x,foldedSetIterable iter X.env x=pure x):RS X G0 W0 (.For tg iter body [] pos) (cY im bnd sm):=by
 obtain ⟨g,h1,h2⟩:=hg.h
 exact ⟨PS.imp (sO hp hc hi.h h1 hb.h hs) fun _ _ _ h=>rW h2 h⟩
theorem bc (i:Nat) {x:Str} {pr:Nat->Bool} (hN:X.N.Nodup) (hi:X.N[i]?=some x) (hx:Loc X.env.scope x) (hf:X.fn x=true\/X.env.scope.names.lookup x=some .local) (hp:pr i=false):RG X pr (.Name x pos) (aR i):=⟨_,bC hN hi hx hf,bt hp⟩
theorem pY {pr:Nat->Bool}:RGs X pr [] t5:=⟨_,qd,pu⟩
theorem jV {pr:Nat->Bool} {bn:D->Sto->Option Sto} {bs:List D->Sto->Option Sto} (h1:RG X pr e bn) (h2:RGs X pr es bs) (hs:(assignEach (e :: es) X.env).map (·.2)=assign e X.env :: (assignEach es X.env).map (·.2)):RGs X pr (e :: es) (md bn bs):=by
 obtain ⟨g,a1,a2⟩:=h1.h
 obtain ⟨gs,b1,b2⟩:=h2.h
 exact ⟨_,oe a1 b1 hs,ng a2 b2⟩
theorem sE {pr:Nat->Bool} {k n:Nat} {bs:List D->Sto->Option Sto} (hc:X.calm=true) (h:RGs X pr es bs) (hn:(assignEach es X.env).length=n) (hst:(assignEach es X.env).findIdx? (·.1)=none):RG X pr (.Tuple es k pos) (t4 n bs):=by
 obtain ⟨gs,b1,b2⟩:=h.h
 exact ⟨_,sR hc b1 hn hst,qM b2⟩
theorem bK {elt tg iter:Expr} {ifs:List Expr} {scope:Scope} {im:IM} {bnd:D->Sto->Option Sto} {cm:M3 Bool} {em:EM} (NY:List Str) (ix:List (Option Nat)) (hc:X.calm=true) (hi:RI X G0 W0 tg iter im)
  (ht:∀ s H C fp,PTs (bg X NY scope s H C fp) ifs (tT X.K (bR ix) noX cm)) (he:∀ s H C fp,RE (bg X NY scope s H C fp) (bR ix) noX elt em)
  (ck:ju scope X.N X.env.scope NY ix=true) (hij:Inj ix) (hs:∀ x,foldedSetIterable iter X.env x=pure x) (hgu:∃ tg',Bnd X.K (bR ix).pr tg' bnd/\∀ s H C fp,PG (bg X NY scope s H C fp) tg tg'):RE X G0 W0 (.ListComp elt [⟨tg,iter,ifs,0⟩] scope pos) (cF im bnd cm em ix):=by
 obtain ⟨tg',b1,b2⟩:=hgu
 exact ⟨PE.imp (qf NY ix hc hi.h b2 ht (fun s H C fp=>(he s H C fp).h) ck hs) fun _ _ _ h=>pP szl hij b1 h⟩
end
end L3
end
section
namespace L3
open PySem L2
noncomputable def av (F:Fn) (ms:M3 (List R3)):EM:=af ms fun rs=>fun ρ=>match prs (frz (kH rs) ρ) rs with
 | none=>none
 | some ps=>match F ps with
  | none=>none
  | some (.ok p,qs)=>if qs.length=ps.length then some (.ok (.val p.1 p.2),back rs ps qs (frz (kH rs) ρ)) else none
  | some (.error _,_)=>none
noncomputable def mn (K:FG) (F:Fn):Sp:=fun vs H Q _=>∃ (ps:List It3) (p:D × Fl) (fs:List (D × Fl)),vs=ps.map (·.v)/\(∀ p ∈ ps,Arg K H p)/\ps.Pairwise Apart3/\F (ps.map fun p=>(p.d,p.f))=some (.ok p,fs) /\
 ∀ x qs H',Behind K H H' ps qs x->x.d=p.1->x.f=p.2->qs.map (fun q=>(q.d,q.f))=fs->Q x.v H'
section
variable {K:FG} {G G0:Gm} {W W0:D->Sto->Prop} {H H':Hp} {σ:St} {ρ ρ':Sto} {T T':List It3} {g:Nat->Option It3} {x y z:It3} {α β:Type}
theorem nz {F:Fn} {ms:M3 (List R3)} {Q:VK} (h:tE K G0 W0 (av F ms) σ H Q):tA K G0 W0 ms σ H fun vs H1=>mn K F vs H1 Q E0:=by
 refine h.use fun G W le ρ T g o ρ' w e q=>?_
 refine tA.seq le w e q.err fun rs ρ1 e1 vs H1 Ts g1 w1 a1=>?_
 obtain ⟨g2,w2,z2⟩:=Wf.frz (is:=kH rs) w1
 cases e2:prs (L3.frz (kH rs) ρ1) rs with
 | none=>rw [e2] at e1;exact nsE e1
 | some pfs =>
  rw [e2] at e1
  dsimp only at e1
  have hd:∀ i,2<=(pls rs).count i->∀ y,g2 i=some y->y.f=.z:=fun i hc y ey=>by
   have hm:i ∈ kH rs:=uO.mpr ⟨List.count_pos_iff.mp (by omega),by simpa using hc⟩
   have s1:=w2.sl i
   rw [ey] at s1
   have hy:∃ y0,g1 i=some y0:=by
    cases q1:g1 i with
    | some y0=>exact ⟨y0,rfl⟩
    | none =>
     exfalso
     have s2:=w1.sl i
     rw [q1] at s2
     have:=kF (is:=kH rs) s2.symm
     rw [this] at s1
     cases s1
   obtain ⟨y0,ey0⟩:=hy
   obtain ⟨y',e3,_,e5⟩:=z2 i y0 ey0
   rw [ey] at e3
   cases e3
   exact e5 hm
  obtain ⟨ps,f1,f2,f3,f4,f5⟩:=Ars.args a1 w2 hd e2
  have hit:∀ p ∈ ps,Itm (Ts ++ T) g2 p:=fun p hp=>by
   rcases f4 p hp with ⟨i,_,ei⟩ | h
   ·exact .inl ⟨i,ei⟩
   ·exact .inr (ug _ h)
  have harg:∀ p ∈ ps,Arg K H1 p:=fun p hp=>⟨(w2.itm (hit p hp)).rep,fun hf=>by
   obtain ⟨m,a,L',v1,v2,v3,_⟩:=(w2.itm (hit p hp)).own hf
   exact ⟨m,a,L',v1,v2,v3⟩⟩
  subst f2
  cases e3:F pfs with
  | none=>rw [e3] at e1;exact nsE e1
  | some r =>
   obtain ⟨out,fs⟩:=r
   rw [e3] at e1
   cases out with
   | ok p =>
    dsimp only at e1
    split at e1
    ·cases e1
     refine ⟨ps,p,fs,rfl,harg,f3,by rw [f1];exact e3,?_⟩
     intro x qs H' B x1 x2 hq
     obtain ⟨g',w3,px⟩:=Wf.after w2 e2 f1 f4 f5 B.toBehindX
     have w4:=px x B.rep B.own B.src B.apx
     rw [hq] at w4
     rw [<- x1,<- x2] at q
     exact q x.v H' ⟨[x],g',w4,.val x⟩
    ·exact nsE e1
   | error er=>exact nsE e1
noncomputable def cw (b:Bool) (p:It3):It3:=if b then bT p else p
theorem iD:∀ {mask:List Bool} {ps:List It3},(List.zipWith cw mask ps).map (fun p=>(p.d,p.f))=List.zipWith qC mask (ps.map fun p=>(p.d,p.f))
 | [],_=>rfl
 | _ :: _,[]=>rfl
 | b :: mask,p :: ps=>by
  simp only [List.zipWith_cons_cons,uC,iD]
  cases b <;> rfl
theorem mM {mask:List Bool} {ps:List It3} {i:Nat} {q:It3} (h:(List.zipWith cw mask ps)[i]?=some q):∃ b p,mask[i]?=some b/\ps[i]?=some p/\q=cw b p:=by
 rw [List.getElem?_zipWith] at h
 cases e1:mask[i]? with
 | none=>rw [e1] at h;exact nsE h
 | some b =>
  cases e2:ps[i]? with
  | none=>rw [e1,e2] at h;exact nsE h
  | some p=>rw [e1,e2] at h;cases h;exact ⟨b,p,rfl,rfl,rfl⟩
theorem kA {mask:List Bool} {ps:List It3} {i:Nat} {p:It3} (hl:ps.length=mask.length) (h:ps[i]?=some p):∃ b,mask[i]?=some b/\(List.zipWith cw mask ps)[i]?=some (cw b p):=by
 have hi:i < mask.length:=by have:=(uq.mp h).1;omega
 refine ⟨mask[i],uj hi,?_⟩
 rw [List.getElem?_zipWith,uj hi,h]
theorem cv (b:Bool) (p:It3):(cw b p).d=p.d/\(cw b p).v=p.v/\(cw b p).L=p.L/\((cw b p).f=p.f\/(cw b p).f=.z):=by
 cases b
 ·exact ⟨rfl,rfl,rfl,.inl rfl⟩
 ·exact ⟨rfl,rfl,rfl,.inr rfl⟩
theorem NoRoot.low {a b a' b':It3} (h:NoRoot a b) (hv:a'.v=a.v) (hf:a'.f=a.f\/a'.f=.z) (hL:b'.L=b.L):NoRoot a' b':=fun q c e=>by
 rw [hL]
 rcases hf with f | f
 ·exact h (by rw [<- f];exact q) c (by rw [<- hv];exact e)
 ·exact absurd f q
noncomputable def prM (mask:List Bool) (i:Nat):Bool:=match mask[i]? with
 | some b=>!b
 | none=>false
theorem qw {α β:Type} {f:α->β} {l:List α} {i:Nat} {a:α} (h:l[i]?=some a):(l.map f)[i]?=some (f a):=by rw [ux,h];rfl
set_option tactic.hygienic true in
theorem lY {mask:List Bool} {m:SM} {n:Nat} {vs:List V} {Q:VK} {E:XK} (hn:mask.length<=n) (h:mn K (fnM mask n m) vs H Q E) :
  ∃ G:Gm,G.pr=prM mask/\tS K G noX m { nx:=fun _ H'=>Q .non H',rt:=Q } (vs.map some ++ List.replicate (n - vs.length) none) H:=by
 obtain ⟨ps,p,fs,rfl,ha,hp,hF,q⟩:=h
 unfold fnM at hF
 rw [uo] at hF
 split at hF
 ·rename_i hl
  rw [<- iD] at hF
  generalize hps:List.zipWith cw mask ps=ps' at hF
  have hl':ps'.length=ps.length:=by rw [<- hps,List.length_zipWith];omega
  have hv:ps'.map (·.v)=ps.map (·.v):=by
   refine List.ext_getElem? fun i=>?_
   rw [ux,ux]
   cases e:ps[i]? with
   | none=>rw [List.getElem?_eq_none (by have:=List.getElem?_eq_none_iff.mp e;omega)]
   | some u =>
    obtain ⟨b,_,e2⟩:=kA (mask:=mask) hl e
    rw [hps] at e2
    rw [e2]
    show some (cw b u).v=some u.v
    rw [(cv b u).2.1]
  have up:∀ (i:Nat) (u:It3),ps'[i]?=some u->∃ b u0,mask[i]?=some b/\ps[i]?=some u0/\u=cw b u0:=fun i u e=>by rw [<- hps] at e;exact mM e
  have upm:∀ u ∈ ps',∃ b u0,u0 ∈ ps/\u=cw b u0:=fun u hu=>by
   obtain ⟨i,hi,e⟩:=List.mem_iff_getElem.mp hu
   obtain ⟨b,u0,_,e2,e3⟩:=up i u (by rw [uj hi,e])
   exact ⟨b,u0,ut e2,e3⟩
  have ha':∀ u ∈ ps',Arg K H u:=fun u hu=>by
   obtain ⟨b,u0,h0,rfl⟩:=upm u hu
   obtain ⟨e1,e2,e3,e4⟩:=cv b u0
   refine ⟨by rw [e1,e2,e3];exact (ha u0 h0).rep,fun hf=>?_⟩
   rw [e1,e2,e3]
   refine (ha u0 h0).own fun z=>hf ?_
   rcases e4 with f | f
   ·rw [f];exact z
   ·exact f
  have hp':ps'.Pairwise Apart3:=by
   rw [List.pairwise_iff_getElem]
   intro i j hi hj lt
   obtain ⟨b,u0,_,e2,e3⟩:=up i _ (uj hi)
   obtain ⟨b',u0',_,e2',e3'⟩:=up j _ (uj hj)
   have ap:=b7 hp (fun _ _=>Apart3.symm) (uA lt) e2 e2'
   rw [e3,e3']
   obtain ⟨_,a2,a3,a4⟩:=cv b u0
   obtain ⟨_,b2,b3,b4⟩:=cv b' u0'
   exact ⟨ap.1.low a2 a4 b3,ap.2.low b2 b4 a3⟩
  have hpr:∀ (i:Nat) (u:It3),ps'[i]?=some u->u.f ≠ .z->prM mask i=true:=fun i u e hf=>by
   obtain ⟨b,u0,e1,e2,e3⟩:=up i u e
   unfold prM
   rw [e1]
   cases b with
   | false=>rfl
   | true=>rw [e3] at hf;exact absurd rfl hf
  have alls:∀ c,cb ps' c->cb ps c:=fun c ⟨u,hu,hc⟩=>by
   obtain ⟨b,u0,h0,rfl⟩:=upm u hu
   exact ⟨u0,h0,by rw [<- (cv b u0).2.2.1];exact hc⟩
  have lift:∀ {H':Hp} {qs:List It3},BehindX K H H' ps' qs->BehindX K H H' ps qs:=fun {H' qs} B=>by
   refine ⟨fun b o hb hn=>B.frame b o hb fun u hu hf hv=>?_,Paired.ofGet ?_ fun k u v eu ev=>?_,B.apart⟩
   ·obtain ⟨b',u0,h0,rfl⟩:=upm u hu
    obtain ⟨_,e2,_,e4⟩:=cv b' u0
    rcases e4 with f | f
    ·exact hn u0 h0 (by rw [<- f];exact hf) (by rw [<- e2];exact hv)
    ·rw [f] at hf;cases hf
   ·rw [<- hl'];exact Paired.length B.back
   ·obtain ⟨b,_,e2⟩:=kA (mask:=mask) hl eu
    rw [hps] at e2
    have b1:=Paired.at B.back e2 ev
    obtain ⟨a1,a2,a3,a4⟩:=cv b u
    refine ⟨fun hz=>?_,by rw [b1.v,a2],?_,b1.arg,fun c hc=>(b1.src c hc).imp id (alls c),fun hf b' hb'=>?_⟩
    ·have:cw b u=u:=by
      cases b
      ·rfl
      ·obtain ⟨d,v,L,f⟩:=u
       have hz:f=.z:=hz
       subst hz;rfl
     rw [<- this]
     exact b1.z (by rw [this];exact hz)
    ·rcases b1.f with h | h
     ·rcases a4 with f | f
      ·exact .inl (h.trans f)
      ·exact .inr (h.trans f)
     ·exact .inr h
    ·rcases a4 with f | f
     ·exact b1.there (by rw [f];exact hf) b' (by rw [a2];exact hb')
     ·-- lowered: as it was
      obtain ⟨_,a,L',v1,v2,_⟩:=(ha u (ut eu)).own (by rw [hf];intro q;cases q)
      rw [hb'] at v1;cases v1
      have hq:=b1.z f
      have r:=b1.arg.rep
      rw [hq,a1,a2,a3] at r
      exact (r.inH b' (by rw [v2];exact ua)).ex
  have hnn:ps'.length<=n:=by omega
  have wf:=nt (K:=K) (H:=H) (n:=n) (pr:=prM mask) hnn ha' hp' hpr
  rw [hv] at wf
  refine ⟨gOf H (prM mask) ((ps.map (·.v)).map some ++ List.replicate (n - (ps.map (·.v)).length) none) ps',rfl,?_⟩
  have h0:∀ (i:Nat) (u:It3),ps'[i]?=some u->((ps.map (·.v)).map some ++ List.replicate (n - (ps.map (·.v)).length) none)[i]?=some (some u.v):=fun i u e=>ip (by rw [<- hv];exact qw e)
  unfold fn0 at hF
  cases e:m (gO n (ps'.map fun p=>(p.d,p.f))) with
  | none=>rw [e] at hF;exact nsE hF
  | some rr =>
   obtain ⟨r,ρ2⟩:=rr
   rw [e] at hF
   refine tS.mk (r:=r) (Le.refl K _ _) wf e ?_
   have fin:∀ {x:It3} {σ':St} {H':Hp} {g':Nat->Option It3} {d:D} {f:Fl},Wf K (gOf H (prM mask) ((ps.map (·.v)).map some ++ List.replicate (n - (ps.map (·.v)).length) none) ps') H' σ' ρ2 [x] g'->x.d=d->x.f=f ->
     ((en ρ2 0 (ps'.map fun p=>(p.d,p.f))).map fun fs=>((.ok (d,f),fs):Except D (D × Fl) × List (D × Fl)))=some (.ok p,fs)->Q x.v H':=fun {x σ' H' g' d f} w1 xd xf hF=>by
    cases e5:en ρ2 0 (ps'.map fun p=>(p.d,p.f)) with
    | none=>rw [e5] at hF;exact nsE hF
    | some fs' =>
     rw [e5] at hF
     cases hF
     obtain ⟨qs,B,hq⟩:=lx (n:=n) ha' hp' hpr h0 w1 e5
     have BX:=lift B.toBehindX
     exact q x qs H' ⟨BX,B.rep,B.own,fun c hc=>(B.src c hc).imp id (alls c),B.apx⟩ xd xf hq
   cases r with
   | error er=>
    dsimp only at hF
    cases e5:en ρ2 0 (ps'.map fun p=>(p.d,p.f)) with
    | none=>rw [e5] at hF;exact nsE hF
    | some fs'=>rw [e5] at hF;cases hF
   | ok fl =>
    cases fl with
    | nx =>
     intro σ' H' g' w1
     obtain ⟨Ts,g2,w2,a2⟩:=w1.const .non
     obtain ⟨x,rfl,x1,x2,x3⟩:=a2.val_inv
     have:=fin w2 x1 x2 hF
     rw [x3] at this
     exact this
    | br=>exact nsE hF
    | ct=>exact nsE hF
    | rt d f =>
     intro x σ' H' g' w1 x1 x2
     exact fin w1 x1 x2 hF
 ·exact nsE hF
end
noncomputable abbrev aK (P:Program) (w:World) (K:FG) (mg:Str->Option Value) (base:Heap) (x:Str) (k:Nat) (ps:List Str) (F:Fn):Prop:=Callee P w K mg base x k ps (mn K F)
set_option tactic.hygienic true in
theorem aM {P:Program} {w:World} {K:FG} {mg:Str->Option Value} {base:Heap} {x:Str} {st:Stmt} {k:Nat} {N ps:List Str} {mask:List Bool} {m:SM} {nn:Nat} (D:Def K mg x st) (S:FnScope N ps (ah st)) (hml:mask.length=ps.length) (hnn:N.length=nn)
  (hb:∀ (kV doc pm:Value) (an:Option Addr) (cdv ct:Value) (us:List Value),us.length=ps.length->bindArgs (PySem.W.fnOf x x (aY st) (aN st) (ah st) .none kV doc pm an cdv ct) ⟨us,[]⟩=pure (ps.zip us))
  (body:∀ (cdv:Value) (A:Around) (outer:List Env) (s:Shared) (H:Hp) (E:XK) (f:Addr) (G:Gm),Room k (A.deeper (PyProof.Rows.envOfC x (ah st) s.heap.objs.size f cdv))->G.pr=prM mask->RSs (kJ CX0 P w K mg base N x (ah st) f cdv A outer s H E).nox G noX (aN st) m) :
  aK P w K mg base x (k+1) ps (fnM mask nn m):=by
 refine D.callee hb fun f fd F=>F.ok S (fun vs H Q E h=>?_) fun cdv A outer s H vs Q E hr h=>?_
 ·obtain ⟨ps',p,fs,rfl,_,_,hF,_⟩:=h
  unfold fnM at hF
  rw [uo] at hF ⊢
  split at hF
  ·rename_i e;rw [e,hml]
  ·exact nsE hF
 ·have hle:mask.length<=nn:=by
   rw [hml,<- hnn]
   have:=congrArg List.length S.pre
   rw [uJ] at this
   omega
  obtain ⟨G,hG,ht⟩:=lY hle h
  subst hnn
  exact ⟨_,(body cdv A outer s H E f G hr hG).h,ht⟩
theorem au {X:Cx} {G0:Gm} {W0:D->Sto->Prop} {x:Str} {p pos:Pos} {e:Expr} {es:List Expr} {ms:M3 (List R3)} {k:Nat} {ps:List Str} {F:Fn} (c:aK X.prog X.w X.K X.mg X.base x k ps F) (hr:Room k X.A) (ha:RA X G0 W0 (e :: es) ms) (hg:Gl X x) (hdb:(x == ("__debug__":Str))=false)
  (he:starEach (e :: es) X.env=(false,eval e X.env) :: starEach es X.env) (hpl:(backTo pos (starEach es X.env)).any (·.1)=false):RE X G0 W0 (.Call (.Name x p) (e :: es) [] pos) (av F ms) :=
 ⟨PE.imp (pe_fn c hr ha.h hg hdb he hpl) fun _ _ _ h=>nz h⟩
end L3
end
section
namespace L3
open PySem L2
noncomputable def orD (f g:D->D->Option (D × Fl)) (a b:D):Option (D × Fl):=match f a b with
 | some p=>some p
 | none=>g a b
section
variable {K:FG} {H:Hp} {Ks:Addr->Prop} {d:D} {v:V} {L:List Addr} {X:Cx}
theorem cu (r:Rep K H d v []):New K H H Ks ⟨d,v,[],.z⟩:=⟨Same.refl _,r,fun _ h=>(by cases h),fun h=>absurd rfl h⟩
theorem j4 (r:Rep K H d v L) (h:∀ c ∈ L,Ks c):New K H H Ks ⟨d,v,L,.z⟩:=⟨Same.refl _,r,fun c hc=>.inr (h c hc),fun h=>absurd rfl h⟩
theorem newL {p:Addr} {ds:List D} {vs:List V} (hp:H p=none) (r:Reps (Rep K H) ds vs L) (h:∀ c ∈ L,Ks c):New K H (upd H p (.lst vs)) Ks ⟨.lst ds,.ref p,p :: L,.u⟩:=by
 have np:p ∉ L:=fun hc=>by obtain ⟨o,ho⟩:=(r.inH p hc).ex;rw [hp] at ho;exact nsE ho
 refine ⟨bp hp,.lst aS (r.same (bp hp)),fun c hc=>?_,fun _=>⟨rfl,p,L,rfl,rfl,np,hp⟩⟩
 rcases ui.mp hc with e | hc
 ·rw [e];exact .inl hp
 ·exact .inr (h c hc)
theorem tz {p:Addr} {ds:List D} {vs:List V} (hp:H p=none) (r:Reps (Rep K H) ds vs L) (h:∀ c ∈ L,Ks c):New K H (upd H p (.tup vs)) Ks ⟨.tup ds,.ref p,L,.z⟩ :=
 ⟨bp hp,.tup aS (r.same (bp hp)),fun c hc=>.inr (h c hc),fun h=>absurd rfl h⟩
theorem jl {y:It3} {ys:List It3} (hy:y ∈ ys) (h:Arg K H y) (hm:eS y.d=false):∀ c ∈ y.L,cz ys c:=fun c hc=>⟨y,hy,hc,fun hf=>by
 have:=(h.own hf).1
 rw [hm] at this;cases this⟩
theorem ll {y:It3} {ys:List It3} {a:Addr} {L:List Addr} (hy:y ∈ ys) (h:Arg K H y) (hv:y.v=.ref a) (hL:y.L=a :: L):∀ c ∈ L,cz ys c:=fun c hc=>⟨y,hy,by rw [hL];exact ub _ hc,fun hf e=>by
 obtain ⟨_,a',L',v1,v2,v3⟩:=h.own hf
 rw [hv] at v1;cases v1
 rw [hL] at v2;cases v2
 rw [hv] at e;cases e
 exact v3 hc⟩
theorem OpD.or {r r':R2} {f g:D->D->Option (D × Fl)} (h:OpD K r f) (h':OpD K r' g):OpD K (fun x y H Q=>r x y H Q\/r' x y H Q) (orD f g):=fun a b H Q p ra rb e q=>by
 unfold orD at e
 cases ef:f a.d b.d with
 | some p'=>rw [ef] at e;cases e;exact .inl (h a b H Q _ ra rb ef q)
 | none=>rw [ef] at e;exact .inr (h' a b H Q p ra rb e q)
noncomputable def dB (C:Int->Int->Bool) (g:Int->Int->D):D->D->Option (D × Fl)
 | .int i,.int j=>if C i j then some (g i j,.z) else none
 | _,_=>none
set_option tactic.hygienic true in
theorem eU {C:Int->Int->Prop} {Cb:Int->Int->Bool} {g:Int->Int->V} {gd:Int->Int->D} (hC:∀ i j,Cb i j=true->C i j) (hg:∀ i j H,Rep K H (gd i j) (g i j) []):OpD K (rI C g) (dB Cb gd):=fun a b H Q p ra rb e q=>by
 obtain ⟨da,va,La,fa⟩:=a
 obtain ⟨db,vb,Lb,fb⟩:=b
 obtain ⟨ra,oa⟩:=ra
 obtain ⟨rb,ob⟩:=rb
 dsimp only at ra rb
 cases da <;> try (exact nsE e)
 rename_i i
 obtain ⟨rfl,rfl⟩:=ra.view
 cases db <;> try (exact nsE e)
 rename_i j
 obtain ⟨rfl,rfl⟩:=rb.view
 have e:(if Cb i j then some (gd i j,Fl.z) else none)=some p:=e
 split at e
 ·rename_i hc
  cases e
  exact ⟨i,j,rfl,rfl,hC i j hc,q ⟨gd i j,g i j,[],.z⟩ H (cu (hg i j H)) rfl rfl⟩
 ·exact nsE e
theorem rI_of {g:Int->Int->V}:rI0 g=rI (fun _ _=>True) g:=by
 funext x y H Q
 unfold rI0 rI
 apply propext
 constructor
 ·rintro ⟨i,j,a,b,c⟩;exact ⟨i,j,a,b,trivial,c⟩
 ·rintro ⟨i,j,a,b,_,c⟩;exact ⟨i,j,a,b,c⟩
theorem cS {g:Int->Int->V} {gd:Int->Int->D} (hg:∀ i j H,Rep K H (gd i j) (g i j) []):OpD K (rI0 g) (dB (fun _ _=>true) gd):=by
 rw [rI_of]
 exact eU (fun _ _ _=>trivial) hg
noncomputable abbrev kU:Int->Int->Bool:=fun _ _=>true
noncomputable abbrev addI:=dB kU fun i j=>.int (i+j)
noncomputable abbrev bS:=dB kU fun i j=>.int (i - j)
noncomputable abbrev eO:=dB (fun i j=>decide ((-(2 ^ 64) < i/\i < 2 ^ 64)\/(-(2 ^ 64) < j/\j < 2 ^ 64))) fun i j=>.int (i * j)
noncomputable abbrev jb:=dB (fun _ j=>decide (0 < j)) fun i j=>.int (i % j)
noncomputable abbrev ltI:=dB kU fun i j=>.bl (decide (i < j))
noncomputable abbrev leI:=dB kU fun i j=>.bl (decide (i<=j))
noncomputable abbrev gtI:=dB kU fun i j=>.bl (decide (j < i))
noncomputable abbrev geI:=dB kU fun i j=>.bl (decide (j<=i))
theorem od_addI:OpD K (rI0 fun i j=>.int (i+j)) addI:=cS fun i j _=>.int _
theorem aG:OpD K (rI0 fun i j=>.int (i - j)) bS:=cS fun i j _=>.int _
theorem bL:OpD K (rI CMul fun i j=>.int (i * j)) eO:=eU (fun i j h=>by simpa [CMul,pF,pD] using h) fun i j _=>.int _
theorem dH:OpD K (rI (fun _ j=>0 < j) fun i j=>.int (i % j)) jb:=eU (fun i j h=>by simpa [CMul,pF,pD] using h) fun i j _=>.int _
theorem rf:OpD K (rI0 fun i j=>.bl (decide (i < j))) ltI:=cS fun i j _=>.bl _
theorem iB:OpD K (rI0 fun i j=>.bl (decide (i<=j))) leI:=cS fun i j _=>.bl _
theorem lM:OpD K (rI0 fun i j=>.bl (decide (j < i))) gtI:=cS fun i j _=>.bl _
theorem rg:OpD K (rI0 fun i j=>.bl (decide (j<=i))) geI:=cS fun i j _=>.bl _
noncomputable def catT:D->D->Option (D × Fl)
 | .tup xs,.tup ys=>if xs.length+ys.length<=16777216 then some (.tup (xs ++ ys),.z) else none
 | _,_=>none
noncomputable def catL:D->D->Option (D × Fl)
 | .lst xs,.lst ys=>if xs.length+ys.length<=16777216 then some (.lst (xs ++ ys),.u) else none
 | _,_=>none
noncomputable def catS:D->D->Option (D × Fl)
 | .str xs,.str ys=>if xs.length+ys.length<=16777216 then some (.str (xs ++ ys),.z) else none
 | _,_=>none
theorem Reps.len {ds:List D} {vs:List V} (r:Reps (Rep K H) ds vs L):ds.length=vs.length:=by
 induction r with
 | nil=>rfl
 | cons _ _ ih=>simp [ih]
theorem Reps.append {ds ds':List D} {vs vs':List V} {L L':List Addr} (r:Reps (Rep K H) ds vs L) (r':Reps (Rep K H) ds' vs' L'):Reps (Rep K H) (ds ++ ds') (vs ++ vs') (L ++ L'):=by
 induction r with
 | nil=>exact r'
 | cons a _ ih=>rw [List.append_assoc];exact .cons a ih
theorem Reps.nil_iff {ds:List D} {vs:List V} (r:Reps (Rep K H) ds vs L):ds=[] ↔ vs=[]:=by cases r <;> simp
noncomputable def i5 (K:FG):R2:=fun x y H Q=>∃ a b ys,x=.ref a/\y=.ref b/\SqT K H a []/\SqT K H b ys/\Q (.ref b) H
theorem ot:OpR X (binaryOp .Add) (i5 X.K):=by
 intro pins s σ H x y v u Q I rx ry h
 obtain ⟨a,b,ys,rfl,rfl,ha,hb,q⟩:=h
 cases rx
 cases ry
 obtain ⟨its,r1,p1,_⟩:=I.tuple ha
 obtain ⟨its2,r2,p2,_⟩:=I.tuple hb
 have e:its=[]:=r1.nil_iff.mpr rfl
 subst e
 obtain ⟨⟨cls,dd,data,sl⟩,ho,hc,n,hd⟩:=id p1
 obtain ⟨⟨cls2,dd2,data2,sl2⟩,ho2,hc2,n2,hd2⟩:=id p2
 simp only at hc hd hc2 hd2
 subst hc hd hc2 hd2
 exact concat_meets ⟨_,ho,rfl⟩ ⟨_,ho2,rfl⟩ noFill_tuple_add seq_tuple_add PySem.F.slot_tuple_add PySem.F.entry_tuple_add (PySem.F.args_tuple_add_2 _ _)
   (PyProof.Rows.tuple_addW0 a b _ _ n n2 dd dd2 sl sl2 (by simp)) ⟨ho,ho2,⟨.ref b,H,I,rfl,q⟩⟩
set_option tactic.hygienic true in
theorem od_catT:OpD K (fun x y H Q=>lH K x y H Q\/i5 K x y H Q) catT:=fun a b H Q p ra rb e q=>by
 obtain ⟨da,va,La,fa⟩:=a
 obtain ⟨db,vb,Lb,fb⟩:=b
 obtain ⟨ra,oa⟩:=ra
 obtain ⟨rb,ob⟩:=rb
 dsimp only at ra rb
 cases da <;> try (exact nsE e)
 rename_i xs
 obtain ⟨pa,vs,rfl,ha,rs⟩:=ra.view
 cases db <;> try (exact nsE e)
 rename_i ys
 obtain ⟨pb,ws,rfl,hb,rs'⟩:=rb.view
 have e:(if xs.length+ys.length<=16777216 then some (D.tup (xs ++ ys),Fl.z) else none)=some p:=e
 split at e
 ·rename_i hl
  cases e
  by_cases hx:vs=[]
  ·have hx0:=rs.nil_iff.mpr hx
   subst hx hx0
   refine .inr ⟨pa,pb,ws,rfl,rfl,SqT.of ha,SqT.of hb,?_⟩
   exact q ⟨.tup ys,.ref pb,Lb,.z⟩ H (j4 (.tup hb rs') (jl (y:=⟨.tup ys,.ref pb,Lb,fb⟩) (ub _ (uM.mpr rfl)) ⟨.tup hb rs',ob⟩ rfl)) rfl rfl
  ·refine .inl ⟨pa,pb,vs,ws,rfl,rfl,SqT.of ha,SqT.of hb,hx,by rw [<- rs.len,<- rs'.len,<- szl];exact hl,fun hw=>?_,fun hw p hp=>?_⟩
   ·have hy0:=rs'.nil_iff.mpr hw
    subst hy0
    refine q ⟨.tup (xs ++ []),.ref pa,La,.z⟩ H (j4 (by rw [List.append_nil];exact .tup ha rs) (jl (y:=⟨.tup xs,.ref pa,La,fa⟩) ua ⟨.tup ha rs,oa⟩ rfl)) rfl rfl
   ·refine q ⟨.tup (xs ++ ys),.ref p,La ++ Lb,.z⟩ _ (tz hp (rs.append rs') fun c hc=>?_) rfl rfl
    rcases ul.mp hc with h | h
    ·exact jl (y:=⟨.tup xs,.ref pa,La,fa⟩) ua ⟨.tup ha rs,oa⟩ rfl c h
    ·exact jl (y:=⟨.tup ys,.ref pb,Lb,fb⟩) (ub _ (uM.mpr rfl)) ⟨.tup hb rs',ob⟩ rfl c h
 ·exact nsE e
set_option tactic.hygienic true in
theorem qp:OpD K p4 catL:=fun a b H Q p ra rb e q=>by
 obtain ⟨da,va,La,fa⟩:=a
 obtain ⟨db,vb,Lb,fb⟩:=b
 obtain ⟨ra,oa⟩:=ra
 obtain ⟨rb,ob⟩:=rb
 dsimp only at ra rb
 cases da <;> try (exact nsE e)
 rename_i xs
 obtain ⟨pa,vs,La,rfl,rfl,ha,rs⟩:=ra.view
 cases db <;> try (exact nsE e)
 rename_i ys
 obtain ⟨pb,ws,Lb,rfl,rfl,hb,rs'⟩:=rb.view
 have e:(if xs.length+ys.length<=16777216 then some (D.lst (xs ++ ys),Fl.u) else none)=some p:=e
 split at e
 ·rename_i hl
  cases e
  refine ⟨pa,pb,vs,ws,rfl,rfl,ha,hb,by rw [<- rs.len,<- rs'.len,<- szl];exact hl,fun p hp=>?_⟩
  refine q ⟨.lst (xs ++ ys),.ref p,p :: (La ++ Lb),.u⟩ _ (newL hp (rs.append rs') fun c hc=>?_) rfl rfl
  rcases ul.mp hc with h | h
  ·exact ll (y:=⟨.lst xs,.ref pa,pa :: La,fa⟩) ua ⟨.lst ha rs,oa⟩ rfl rfl c h
  ·exact ll (y:=⟨.lst ys,.ref pb,pb :: Lb,fb⟩) (ub _ (uM.mpr rfl)) ⟨.lst hb rs',ob⟩ rfl rfl c h
 ·exact nsE e
set_option tactic.hygienic true in
theorem od_catS:OpD K (fun x y H Q=>∃ i j,x=.str i/\y=.str j/\i.length+j.length<=sizeLine/\Q (.str (i ++ j)) H) catS:=fun a b H Q p ra rb e q=>by
 obtain ⟨da,va,La,fa⟩:=a
 obtain ⟨db,vb,Lb,fb⟩:=b
 obtain ⟨ra,oa⟩:=ra
 obtain ⟨rb,ob⟩:=rb
 dsimp only at ra rb
 cases da <;> try (exact nsE e)
 rename_i i
 obtain ⟨rfl,rfl⟩:=ra.view
 cases db <;> try (exact nsE e)
 rename_i j
 obtain ⟨rfl,rfl⟩:=rb.view
 have e:(if i.length+j.length<=16777216 then some (D.str (i ++ j),Fl.z) else none)=some p:=e
 split at e
 ·rename_i hl
  cases e
  exact ⟨i,j,rfl,rfl,by rw [<- szl];exact hl,q ⟨.str (i ++ j),.str (i ++ j),[],.z⟩ H (cu (.str _)) rfl rfl⟩
 ·exact nsE e
noncomputable abbrev bW:=orD addI (orD catS (orD catT catL))
theorem aP:OpD K (fun x y H Q=>rI0 (fun i j=>.int (i+j)) x y H Q\/((∃ i j,x=.str i/\y=.str j/\i.length+j.length<=sizeLine/\Q (.str (i ++ j)) H)\/((lH K x y H Q\/i5 K x y H Q)\/p4 x y H Q))) bW:=od_addI.or (od_catS.or (od_catT.or qp))
theorem aF:OpR X (binaryOp .Add) (fun x y H Q=>rI0 (fun i j=>.int (i+j)) x y H Q\/((∃ i j,x=.str i/\y=.str j/\i.length+j.length<=sizeLine/\Q (.str (i ++ j)) H)\/((lH X.K x y H Q\/i5 X.K x y H Q)\/p4 x y H Q))):=op_add.or (op_add_str.or ((op_catT.or ot).or tp))
noncomputable def eqS:D->D->Option Bool
 | .non,.non=>some true | .non,.int _=>some false | .int _,.non=>some false | .non,.bl _=>some false | .bl _,.non=>some false | .non,.str _=>some false | .str _,.non=>some false
 | .int i,.int j=>some (decide (i=j)) | .bl i,.bl j=>some (decide (i=j)) | .str i,.str j=>some (decide (i=j))
 | .int _,.str _=>some false | .str _,.int _=>some false | .bl _,.str _=>some false | .str _,.bl _=>some false
 | _,_=>none
theorem oY {a b:D} {u v:V} {L L':List Addr} {k:Bool} (ra:Rep K H a u L) (rb:Rep K H b v L') (e:eqS a b=some k):sy u v=true/\k=decide (u=v):=by
 cases a <;> cases b <;> first | exact nsE e | (obtain ⟨rfl,rfl⟩:=ra.view;obtain ⟨rfl,rfl⟩:=rb.view;cases e;exact ⟨rfl,by simp⟩)
noncomputable def oN:D->Bool
 | .non=>true
 | _=>false
noncomputable def isN:D->D->Option (D × Fl)
 | a,.non=>some (.bl (oN a),.z)
 | _,_=>none
theorem Rep.non_iff {a:D} {u:V} (ra:Rep K H a u L):oN a=decide (u=.non):=by cases ra <;> simp [oN]
theorem tu:OpD K (fun x y H Q=>y=.non/\Q (.bl (decide (x=.non))) H) isN:=fun a b H Q p ra rb e q=>by
 obtain ⟨db,vb,Lb,fb⟩:=b
 obtain ⟨rb,ob⟩:=rb
 dsimp only at rb
 cases db <;> try (exact nsE e)
 obtain ⟨rfl,rfl⟩:=rb.view
 unfold isN at e
 cases e
 refine ⟨rfl,?_⟩
 rw [<- ra.rep.non_iff]
 exact q ⟨_,_,[],.z⟩ H (cu (.bl _)) rfl rfl
noncomputable def qr:D->Option (D × Fl)
 | .int i=>some (.int (-i),.z)
 | _=>none
theorem kY:UnD K (rU fun i=>.int (-i)) qr:=fun a H Q p ra e q=>by
 obtain ⟨da,va,La,fa⟩:=a
 obtain ⟨ra,oa⟩:=ra
 dsimp only at ra
 cases da <;> try (exact nsE e)
 obtain ⟨rfl,rfl⟩:=ra.view
 cases e
 exact ⟨_,rfl,q ⟨_,_,[],.z⟩ H (cu (.int _)) rfl rfl⟩
theorem Reps.at:∀ {ds:List D} {vs:List V} {L:List Addr} {i:Nat} {d:D},Reps (Rep K H) ds vs L->ds[i]?=some d->∃ v L',vs[i]?=some v/\Rep K H d v L'/\∀ c ∈ L',c ∈ L
 | _,_,_,_,_,.nil,h=>by simp at h
 | _,_,_,0,_,.cons r _,h=>by simp at h;subst h;exact ⟨_,_,rfl,r,fun c hc=>ug _ hc⟩
 | _,_,_,i+1,_,.cons _ t,h=>by
  obtain ⟨v,L',h1,h2,h3⟩:=Reps.at (i:=i) t (by simpa using h)
  exact ⟨v,L',by simpa using h1,h2,fun c hc=>uh _ (h3 c hc)⟩
theorem Reps.atI {ds:List D} {vs:List V} {i:Int} {d:D} (r:Reps (Rep K H) ds vs L) (h:atI ds i=some d):∃ v L',atI vs i=some v/\Rep K H d v L'/\∀ c ∈ L',c ∈ L:=by
 unfold L2.atI at h ⊢
 rw [<- r.len]
 cases e:ixN ds.length i with
 | none=>rw [e] at h;exact nsE h
 | some j=>rw [e] at h;exact r.at h
noncomputable def ixD:D->D->Option (D × Fl)
 | .lst xs,.int i=>(atI xs i).map fun d=>(d,.z)
 | .fls xs,.int i=>(atI xs i).map fun d=>(d,.z)
 | .tup xs,.int i=>(atI xs i).map fun d=>(d,.z)
 | _,_=>none
set_option tactic.hygienic true in
theorem od_ix:OpD K (fun x y H Q=>nZ K x y H Q\/nY K x y H Q) ixD:=fun a b H Q p ra rb e q=>by
 obtain ⟨da,va,La,fa⟩:=a
 obtain ⟨db,vb,Lb,fb⟩:=b
 obtain ⟨rb,ob⟩:=rb
 have ra0:=ra
 obtain ⟨ra,oa⟩:=ra
 dsimp only at ra rb
 cases da <;> try (exact nsE e)
 all_goals (cases db <;> try (exact nsE e))
 all_goals (rename_i xs i;obtain ⟨rfl,rfl⟩:=rb.view)
 ·obtain ⟨pa,vs,rfl,ha,rs⟩:=ra.view
  obtain ⟨d,h1,h2⟩:=ue.mp (show (atI xs i).map (fun d=>(d,Fl.z))=some p from e)
  subst h2
  obtain ⟨v,L',g1,g2,g3⟩:=rs.atI h1
  refine .inr ⟨pa,vs,i,v,rfl,rfl,SqT.of ha,g1,q ⟨d,v,L',.z⟩ H (j4 g2 fun c hc=>?_) rfl rfl⟩
  exact jl (y:=⟨.tup xs,.ref pa,La,fa⟩) ua ra0 rfl c (g3 c hc)
 ·obtain ⟨pa,vs,La,rfl,rfl,ha,rs⟩:=ra.view
  obtain ⟨d,h1,h2⟩:=ue.mp (show (atI xs i).map (fun d=>(d,Fl.z))=some p from e)
  subst h2
  obtain ⟨v,L',g1,g2,g3⟩:=rs.atI h1
  refine .inl ⟨pa,vs,i,v,rfl,rfl,SqL.of ha,g1,q ⟨d,v,L',.z⟩ H (j4 g2 fun c hc=>?_) rfl rfl⟩
  exact ll (y:=⟨.lst xs,.ref pa,pa :: La,fa⟩) ua ra0 rfl rfl c (g3 c hc)
 ·obtain ⟨pa,vs,rfl,ha,rs⟩:=ra.view
  obtain ⟨d,h1,h2⟩:=ue.mp (show (atI xs i).map (fun d=>(d,Fl.z))=some p from e)
  subst h2
  obtain ⟨v,L',g1,g2,g3⟩:=rs.atI h1
  refine .inl ⟨pa,vs,i,v,rfl,rfl,ha.sq,g1,q ⟨d,v,L',.z⟩ H (j4 g2 fun c hc=>?_) rfl rfl⟩
  exact jl (y:=⟨.fls xs,.ref pa,La,fa⟩) ua ra0 rfl c (g3 c hc)
theorem ix_ok:IxR X (fun x y H Q=>nZ X.K x y H Q\/nY X.K x y H Q):=ix_list.or tO
end
end L3
end
section
namespace L3
open PySem L2
section
variable {K:FG} {H:Hp} {Ks:Addr->Prop} {d:D} {v:V} {L:List Addr} {X:Cx}
noncomputable def c1 (f:D->Option (D × Fl)):List D->Option (D × Fl)
 | [d]=>f d
 | _=>none
noncomputable def c2 (f:D->D->Option (D × Fl)):List D->Option (D × Fl)
 | [d,d']=>f d d'
 | _=>none
theorem gY {ys:List It3} {f:D->Option (D × Fl)} {p:D × Fl} (e:c1 f (ys.map (·.d))=some p):∃ y,ys=[y]/\f y.d=some p:=by
 match ys,e with
 | [],e=>exact nsE e
 | [y],e=>exact ⟨y,rfl,e⟩
 | _ :: _ :: _,e=>exact nsE e
theorem pp {ys:List It3} {f:D->D->Option (D × Fl)} {p:D × Fl} (e:c2 f (ys.map (·.d))=some p):∃ y z,ys=[y,z]/\f y.d z.d=some p:=by
 match ys,e with
 | [],e=>exact nsE e
 | [_],e=>exact nsE e
 | [y,z],e=>exact ⟨y,z,rfl,e⟩
 | _ :: _ :: _ :: _,e=>exact nsE e
noncomputable def lenQ:D->Option (D × Fl)
 | .lst xs=>some (.int xs.length,.z)
 | .fls xs=>some (.int xs.length,.z)
 | .tup xs=>some (.int xs.length,.z)
 | _=>none
noncomputable abbrev dN:=c1 lenQ
set_option tactic.hygienic true in
theorem bN:dg K (fun xs H Q=>∃ p ys,xs=[.ref p]/\(SqL K H p ys\/SqT K H p ys)/\Q (.int ys.length) H) dN:=fun ys H Q p ra e q=>by
 obtain ⟨y,rfl,e2⟩:=gY e
 clear e
 have e:=e2
 clear e2
 have rr:=(ra y ua).rep
 obtain ⟨da,va,La,fa⟩:=y
 dsimp only at rr e
 cases da <;> try (exact nsE e)
 ·rename_i xs
  obtain ⟨pa,vs,rfl,ha,rs⟩:=rr.view
  cases e
  exact ⟨pa,vs,rfl,.inr (SqT.of ha),by rw [<- rs.len];exact q ⟨_,_,[],.z⟩ H (cu (.int _)) rfl rfl⟩
 ·rename_i xs
  obtain ⟨pa,vs,La,rfl,rfl,ha,rs⟩:=rr.view
  cases e
  exact ⟨pa,vs,rfl,.inl (SqL.of ha),by rw [<- rs.len];exact q ⟨_,_,[],.z⟩ H (cu (.int _)) rfl rfl⟩
 ·rename_i xs
  obtain ⟨pa,vs,rfl,ha,rs⟩:=rr.view
  cases e
  exact ⟨pa,vs,rfl,.inl ha.sq,by rw [<- rs.len];exact q ⟨_,_,[],.z⟩ H (cu (.int _)) rfl rfl⟩
noncomputable def tupQ:D->Option (D × Fl)
 | .lst xs=>some (.tup xs,.z)
 | .tup xs=>some (.tup xs,.z)
 | _=>none
noncomputable abbrev rK:=c1 tupQ
set_option tactic.hygienic true in
theorem pd:dg K (fun xs H Q=>∃ p ys,xs=[.ref p]/\((SqL K H p ys/\∀ l,H l=none->Q (.ref l) (upd H l (.tup ys)))\/(SqT K H p ys/\Q (.ref p) H))) rK:=fun ys H Q p ra e q=>by
 obtain ⟨y,rfl,e2⟩:=gY e
 clear e
 have e:=e2
 clear e2
 have ry:=ra y ua
 have rr:=ry.rep
 obtain ⟨da,va,La,fa⟩:=y
 dsimp only at rr e
 cases da <;> try (exact nsE e)
 ·rename_i xs
  obtain ⟨pa,vs,rfl,ha,rs⟩:=rr.view
  cases e
  exact ⟨pa,vs,rfl,.inr ⟨SqT.of ha,q ⟨.tup xs,.ref pa,La,.z⟩ H (j4 (.tup ha rs) (jl (y:=⟨.tup xs,.ref pa,La,fa⟩) ua ry rfl)) rfl rfl⟩⟩
 ·rename_i xs
  obtain ⟨pa,vs,La,rfl,rfl,ha,rs⟩:=rr.view
  cases e
  exact ⟨pa,vs,rfl,.inl ⟨SqL.of ha,fun l hl=>q ⟨.tup xs,.ref l,La,.z⟩ _ (tz hl rs (ll (y:=⟨.lst xs,.ref pa,pa :: La,fa⟩) ua ry rfl rfl)) rfl rfl⟩⟩
noncomputable def absQ:D->Option (D × Fl)
 | .int i=>some (.int (if i < 0 then -i else i),.z)
 | _=>none
noncomputable abbrev absD:=c1 absQ
theorem Rep.int_inv {i:Int} (r:Rep K H (.int i) v L):v=.int i:=by cases r;rfl
theorem t0:dg K (fun xs H Q=>∃ i,xs=[.int i]/\Q (.int (if i < 0 then -i else i)) H) absD:=fun ys H Q p ra e q=>by
 obtain ⟨y,rfl,e2⟩:=gY e
 clear e
 have e:=e2
 clear e2
 have rr:=(ra y ua).rep
 obtain ⟨da,va,La,fa⟩:=y
 dsimp only at rr e
 cases rr <;> try (exact nsE e)
 cases e
 exact ⟨_,rfl,q ⟨_,_,[],.z⟩ H (cu (.int _)) rfl rfl⟩
noncomputable def lT (C:Int->Int->Bool) (g:Int->Int->D):D->D->Option (D × Fl)
 | .int i,.int j=>if C i j then some (g i j,.z) else none
 | _,_=>none
set_option tactic.hygienic true in
theorem iG {a b:D} {C:Int->Int->Bool} {g:Int->Int->D} {p:D × Fl} (e:lT C g a b=some p):∃ i j,a=.int i/\b=.int j/\C i j=true/\p=(g i j,.z):=by
 cases a <;> cases b <;> try (exact nsE e)
 rename_i i j
 have e:(if C i j then some (g i j,Fl.z) else none)=some p:=e
 split at e
 ·rename_i h;cases e;exact ⟨i,j,rfl,rfl,h,rfl⟩
 ·exact nsE e
noncomputable abbrev oC:=c2 (lT kU fun i j=>.int (if j > i then j else i))
noncomputable abbrev o3:=c2 (lT (fun _ j=>decide (0 < j/\j < 1073741824)) fun i j=>.tup [.int (i / j),.int (i % j)])
theorem l8:dg K (fun xs H Q=>∃ i j,xs=[.int i,.int j]/\Q (.int (if j > i then j else i)) H) oC:=fun ys H Q p ra e q=>by
 obtain ⟨y,z,rfl,e2⟩:=pp e
 clear e
 have e:=e2
 clear e2
 obtain ⟨i,j,ei,ej,_,rfl⟩:=iG e
 have r1:=(ra y ua).rep
 have r2:=(ra z (ub _ ua)).rep
 rw [ei] at r1
 rw [ej] at r2
 refine ⟨i,j,?_,q ⟨_,_,[],.z⟩ H (cu (.int _)) rfl rfl⟩
 show [y.v,z.v]=_
 rw [r1.int_inv,r2.int_inv]
theorem m3:dg K (fun xs H Q=>∃ i j,xs=[.int i,.int j]/\pF i j/\∀ p,H p=none->Q (.ref p) (upd H p (.tup [.int (i / j),.int (i % j)]))) o3:=fun ys H Q p ra e q=>by
 obtain ⟨y,z,rfl,e2⟩:=pp e
 clear e
 have e:=e2
 clear e2
 obtain ⟨i,j,ei,ej,hc,rfl⟩:=iG e
 have r1:=(ra y ua).rep
 have r2:=(ra z (ub _ ua)).rep
 rw [ei] at r1
 rw [ej] at r2
 refine ⟨i,j,?_,by simpa [pF] using hc,fun p hp=>q ⟨_,.ref p,[],.z⟩ _ (tz hp (L:=[]) (.cons (L:=[]) (.int _) (.cons (L:=[]) (.int _) .nil)) fun c hc=>by cases hc) rfl rfl⟩
 show [y.v,z.v]=_
 rw [r1.int_inv,r2.int_inv]
noncomputable def kR:List D->Option (List Bool)
 | []=>some []
 | .bl b :: ds=>(kR ds).map (b :: ·)
 | _=>none
set_option tactic.hygienic true in
theorem kQ:∀ {ds:List D} {bs:List Bool},kR ds=some bs->ds=bs.map D.bl
 | [],bs,e=>by cases e;rfl
 | d :: ds,bs,e=>by
  cases d <;> try (exact nsE e)
  rename_i b
  obtain ⟨r,h1,h2⟩:=ue.mp (show (kR ds).map (b :: ·)=some bs from e)
  subst h2
  rw [kQ h1];rfl
theorem Reps.bls:∀ {bs:List Bool} {vs:List V} {L:List Addr},Reps (Rep K H) (bs.map D.bl) vs L->vs=bs.map V.bl
 | [],_,_,.nil=>rfl
 | b :: bs,_,_,.cons r rs=>by
  rw [Reps.bls rs]
  cases r;rfl
noncomputable def allQ:D->Option (D × Fl)
 | .lst xs=>(kR xs).map fun bs=>(.bl (bs.all id),.z)
 | _=>none
noncomputable abbrev qP:=c1 allQ
set_option tactic.hygienic true in
theorem lq:dg K (fun xs H Q=>∃ (a:Addr) (bs:List Bool),xs=[.ref a]/\SqL K H a (bs.map V.bl)/\Q (.bl (bs.all id)) H) qP:=fun ys H Q p ra e q=>by
 obtain ⟨y,rfl,e2⟩:=gY e
 clear e
 have e:=e2
 clear e2
 have rr:=(ra y ua).rep
 obtain ⟨da,va,La,fa⟩:=y
 dsimp only at rr e
 cases da <;> try (exact nsE e)
 rename_i xs
 obtain ⟨pa,vs,La,rfl,rfl,ha,rs⟩:=rr.view
 obtain ⟨bs,h1,h2⟩:=ue.mp (show (kR xs).map (fun bs=>(D.bl (bs.all id),Fl.z))=some p from e)
 subst h2
 have:=kQ h1
 subst this
 have:=rs.bls
 subst this
 exact ⟨pa,bs,rfl,SqL.of ha,q ⟨_,_,[],.z⟩ H (cu (.bl _)) rfl rfl⟩
end
end L3
end
section
namespace L3
open PySem L2
noncomputable def seqOf:D->Option (List D)
 | .lst xs=>some xs
 | .fls xs=>some xs
 | .tup xs=>some xs
 | _=>none
noncomputable def dR (m:EM):IM:=af m fun r=>af (der r) fun d=>bA ((seqOf d).map fun ds=>([r],ds))
noncomputable def iSeq (K:FG) (tl:TE):TI:=fun σ H R=>tl σ H fun x H1=>(∃ a,x=.ref a/\(∃ xs,SqL K H1 a xs)/\R (Itl K a) H1)\/∃ a,x=.ref a/\(∃ xs,SqT K H1 a xs)/\R (Itt K a) H1
theorem sQ {X:Cx} {tg l:Expr} {tl:TE} (hl:PE X l tl):PI X tg l (iSeq X.K tl):=by
 intro pins s σ H R I h
 exact thn (hl pins s σ H _ I h) fun v s1 ⟨x,H1,I1,r1,q1⟩=>by
   rcases q1 with ⟨a,e,⟨xs,hq⟩,q⟩ | ⟨a,e,⟨xs,hq⟩,q⟩
   ·subst e
    cases r1
    obtain ⟨its,rv,p,hz⟩:=I1.list hq
    refine wpAny_pyIter_list p.isList ?_
    refine ⟨s1.heap.objs.size,[s1.heap.objs.size],_,_,H1,rfl,I1.kept (t':=s1.toks) fun b o e=>uc _ e,mj a _,⟨_,um _ rfl,rfl,rfl⟩,fun b hb=>?_,q⟩
    have e:b=s1.heap.objs.size:=by simpa using hb
    subst e
    exact I1.fpOk (uy _) (I1.hok.fresh (uy _))
   ·subst e
    cases r1
    obtain ⟨its,rv,p,hz⟩:=I1.tuple hq
    refine wpAny_pyIter_tuple (show s1.heap.IsTuple a its.toArray from p) ?_
    refine ⟨s1.heap.objs.size,[s1.heap.objs.size],_,_,H1,rfl,I1.kept (t':=s1.toks) fun b o e=>uc _ e,kZ a _,⟨_,um _ rfl,rfl,rfl⟩,fun b hb=>?_,q⟩
    have e:b=s1.heap.objs.size:=by simpa using hb
    subst e
    exact I1.fpOk (uy _) (I1.hok.fresh (uy _))
section
variable {K:FG} {G G0:Gm} {W W0:D->Sto->Prop} {H H':Hp} {σ:St} {ρ ρ':Sto} {T T':List It3} {g:Nat->Option It3} {x y z:It3} {α β:Type} {X:Cx}
theorem Ar.item2 {r:R3} {v:V} {Ts:List It3} {d:D} (w:Wf K G H σ ρ (Ts ++ T) g) (a:Ar σ r v Ts) (e:der r ρ=some (.ok d,ρ)):∃ y,y.d=d/\y.v=v/\((∃ i,i ∈ pls [r]/\g i=some y)\/y ∈ Ts):=by
 cases a with
 | @pl i v h =>
  have er:der (.pl i) ρ=((ρ[i]?).join).map fun p=>(.ok p.1,ρ):=rfl
  rw [er] at e
  cases q:(ρ[i]?).join with
  | none=>rw [q] at e;exact nsE e
  | some p =>
   rw [q] at e
   obtain ⟨y,e1,e2,e3,e4⟩:=w.slot (d:=p.1) (f:=p.2) q
   have e5:p.1=d:=by cases e;rfl
   rw [h] at e4
   injection e4 with e4
   injection e4 with e4
   exact ⟨y,e2.trans e5,e4.symm,.inl ⟨i,ua,e1⟩⟩
 | val x=>cases e;exact ⟨x,rfl,rfl,.inr (by simp)⟩
theorem iP {J:It} {H1:Hp} {y:It3} {ds:List D} {vs:List V} {L0:List Addr} (hr:Reps (Rep K H1) ds vs L0) (hk:∀ c ∈ L0,cz [y] c) (hL:∀ c ∈ L0,c ∈ y.L)
  (hgo:∀ (M:Addr->Prop) (H':Hp),(∀ b,M b->MutAt H1 b)->(∀ b o,H1 b=some o->¬ M b->H' b=some o)->(∀ b ∈ y.L,¬ M b)->(∀ (i:Nat) (v:V),vs[i]?=some v->J.go i H'/\∀ x H'',J.yld i H' x H''->H''=H'/\x=v)/\J.stop vs.length H'):Walk K J H1 [y] ds:=by
 obtain ⟨ws,h1,h2,h3⟩:=Reps.split hr
 refine ⟨ws,fun x hx=>⟨(h3 x hx).1,(h3 x hx).2.1,fun c hc=>hk c ((h3 x hx).2.2 c hc)⟩,fun M H' hm hkp hM=>?_⟩
 obtain ⟨go,stop⟩:=hgo M H' hm hkp (hM y ua)
 refine ⟨fun i d hd=>?_,by rw [hr.len];exact stop⟩
 have hi:∃ u,ws[i]?=some u/\u.d=d:=by
  rw [<- h1,ux] at hd
  obtain ⟨u,a,b⟩:=ue.mp hd
  exact ⟨u,a,b⟩
 obtain ⟨u,eu,ud⟩:=hi
 have hv:vs[i]?=some u.v:=by rw [<- h2,ux,eu];rfl
 obtain ⟨g1,g2⟩:=go i u.v hv
 refine ⟨g1,fun x H'' hy=>?_⟩
 obtain ⟨e1,e2⟩:=g2 x H'' hy
 subst e1 e2
 have hu:=ut eu
 refine ⟨u,⟨Same.refl _,(h3 u hu).2.1.keep hkp hm fun b hb=>hM y ua b (hL b ((h3 u hu).2.2 b hb)),fun c hc=>.inr ⟨u,hu,hc⟩,fun hf=>absurd (h3 u hu).1 hf⟩,ud,(h3 u hu).1,rfl⟩
theorem ik {y:It3} {a:Addr} {ds:List D} {vs:List V} (hq:∀ H',SqL K H' a vs->True) (hs:∀ (M:Addr->Prop) (H':Hp),(∀ b,M b->MutAt H b)->(∀ b o,H b=some o->¬ M b->H' b=some o)->(∀ b ∈ y.L,¬ M b)->SqL K H' a vs) :
  ∀ (M:Addr->Prop) (H':Hp),(∀ b,M b->MutAt H b)->(∀ b o,H b=some o->¬ M b->H' b=some o)->(∀ b ∈ y.L,¬ M b)->(∀ (i:Nat) (v:V),vs[i]?=some v->(Itl K a).go i H'/\∀ x H'',(Itl K a).yld i H' x H''->H''=H'/\x=v)/\(Itl K a).stop vs.length H':=fun M H' hm hk hM=>by
 have sq:SqL K H' a vs:=hs M H' hm hk hM
 refine ⟨fun i v hv=>⟨⟨vs,v,sq,hv⟩,fun x H'' ⟨e1,e2⟩=>⟨e1,?_⟩⟩,⟨vs,sq,uy _⟩⟩
 have:=e2 vs sq
 rw [hv] at this
 injection this with this
 exact this.symm
theorem r0 {m:EM} {R:It->Hp->Prop} (h:tI K G0 W0 (dR m) σ H R):iSeq K (tE K G0 W0 m) σ H R:=by
 obtain ⟨G,W,le,ρ,T,g,o,ρ',w,e,q⟩:=h
 have herr:∀ x,o=.error x->W x ρ':=fun x hx=>by subst hx;exact q
 refine tE.seq le w e herr fun ra ρ1 e1 v H1 ⟨Ts,g1,w1,a1⟩=>?_
 obtain ⟨d,d1,e2⟩:=aX e1
 obtain ⟨p,e3,rfl,rfl⟩:=bD e2
 obtain ⟨ds,e4,e5⟩:=ue.mp e3
 subst e5
 obtain ⟨y,y1,y2,y3⟩:=a1.item2 w1 d1
 have hy:Itm (Ts ++ T) g1 y:=by
  rcases y3 with ⟨i,_,ei⟩ | h
  ·exact .inl ⟨i,ei⟩
  ·exact .inr (ug _ h)
 have ar:=(w1.itm hy).arg
 have qq:∀ J,Walk K J H1 [y] ds->R J H1:=fun J hw=>q J H1 [v] Ts g1 [y] w1 (by simpa using Ars.cons a1 .nil) (fun z hz=>by rw [uM.mp hz];exact y3) hw
 clear e1 e2 e3 q
 subst y1 y2
 have ar0:=ar
 obtain ⟨da,va,La,fa⟩:=y
 obtain ⟨rr,oo⟩:=ar
 dsimp only at rr e4
 cases da with
 | tup xs =>
  obtain ⟨pa,vs,rfl,ha,rs⟩:=rr.view
  cases e4
  refine .inr ⟨pa,rfl,⟨_,SqT.of ha⟩,qq _ (iP rs (jl (y:=⟨.tup ds,.ref pa,La,fa⟩) ua ar0 rfl) (fun c hc=>hc) fun M H' hm hk hM=>?_)⟩
  have sq:SqT K H' pa vs:=SqT.of (hk pa _ ha fun z=>(hm pa z).notup ha)
  refine ⟨fun i v hv=>⟨⟨vs,v,sq,hv⟩,fun x H'' ⟨e1,e2⟩=>⟨e1,?_⟩⟩,⟨vs,sq,uy _⟩⟩
  have:=e2 vs sq
  rw [hv] at this
  injection this with this
  exact this.symm
 | lst xs =>
  obtain ⟨pa,vs,La,rfl,rfl,ha,rs⟩:=rr.view
  cases e4
  refine .inl ⟨pa,rfl,⟨_,SqL.of ha⟩,qq _ (iP rs (ll (y:=⟨.lst ds,.ref pa,pa :: La,fa⟩) ua ar0 rfl rfl) (fun c hc=>ub _ hc) (ik (ds:=ds) (fun _ _=>trivial) fun M H' hm hk hM=>SqL.of (hk pa _ ha (hM pa ua))))⟩
 | fls xs =>
  obtain ⟨pa,vs,rfl,ha,rs⟩:=rr.view
  cases e4
  refine .inl ⟨pa,rfl,⟨_,ha.sq⟩,qq _ (iP rs (jl (y:=⟨.fls ds,.ref pa,La,fa⟩) ua ar0 rfl) (fun c hc=>hc) (ik (ds:=ds) (fun _ _=>trivial) fun M H' hm hk hM=>(ha.keep hk hm).sq))⟩
 | _=>exact nsE e4
theorem dn {tg l:Expr} {m:EM} (h:RE X G0 W0 l m):RI X G0 W0 tg l (dR m):=⟨PI.imp (sQ h.h) fun _ _ _ h=>r0 h⟩
noncomputable def dm (lo:Int) (n:Nat):List D:=(List.range n).map fun (k:Nat)=>D.int (lo+(k:Int))
theorem jE {H1:Hp} {ys:List It3} {lo:Int} {n:Nat}:Walk K (Itr lo n) H1 ys (dm lo n):=by
 refine ⟨[],fun x hx=>(by cases hx),fun M H' _ _ _=>⟨fun i d hd=>?_,?_⟩⟩
 ·unfold dm at hd
  rw [ux] at hd
  obtain ⟨k,a,b⟩:=ue.mp hd
  obtain ⟨hk,e⟩:=uq.mp a
  rw [List.getElem_range] at e
  subst e
  rw [List.length_range] at hk
  refine ⟨hk,fun x H'' ⟨e1,e2⟩=>?_⟩
  subst e1
  exact ⟨⟨d,x,[],.z⟩,cu (by rw [<- b,e2];exact .int _),rfl,rfl,rfl⟩
 ·show n<=(dm lo n).length
  unfold dm
  simp
noncomputable def de (j:Int):Bool:=decide (-(2 ^ 62)<=j/\j < 2 ^ 62)
noncomputable def d5:List D->Option (List D)
 | [.int j]=>if de j then some (dm 0 j.toNat) else none
 | _=>none
noncomputable def hX:List D->Option (List D)
 | [.int i,.int j]=>if de i && de j then some (dm i (j - i).toNat) else none
 | _=>none
noncomputable def bm (f:List D->Option (List D)) (ms:M3 (List R3)):IM:=af ms fun rs=>af (c6 rs) fun ds=>bA ((f ds).map fun xs=>([],xs))
set_option tactic.hygienic true in
theorem pM {ms:M3 (List R3)} {R:It->Hp->Prop} (h:tI K G0 W0 (bm d5 ms) σ H R):rA (tA K G0 W0 ms) σ H R:=by
 obtain ⟨G,W,le,ρ,T,g,o,ρ',w,e,q⟩:=h
 have herr:∀ x,o=.error x->W x ρ':=fun x hx=>by subst hx;exact q
 refine tA.seq le w e herr fun rs ρ1 e1 vs H1 Ts g1 w1 a1=>?_
 obtain ⟨ds,d1,e2⟩:=bV e1
 obtain ⟨p,e3,rfl,rfl⟩:=bD e2
 obtain ⟨xs,e4,e5⟩:=ue.mp e3
 subst e5
 obtain ⟨ys,i1,f1,f2⟩:=a1.items w1 (fun x hx=>ug _ hx) d1
 subst f1 f2
 match ys,e4,i1,a1 with
 | [],e4,_,_=>exact nsE e4
 | y :: z :: r,e4,_,_=>cases hd:y.d <;> (rw [uC,uC,hd] at e4;exact nsE e4)
 | [y],e4,i1,a1 =>
  have rr:=(w1.itm (i1 y ua)).rep
  cases hd:y.d <;> (rw [uC,hd] at e4;try (exact nsE e4))
  rename_i j
  rw [hd] at rr
  have e4:(if de j then some (dm 0 j.toNat) else none)=some xs:=e4
  split at e4
  ·rename_i hj
   cases e4
   have hj:=of_decide_eq_true hj
   refine ⟨j,by show [y.v]=_;rw [rr.int_inv],hj.1,hj.2,?_⟩
   exact q _ H1 [] [] g1 [] (w1.sub (uu Ts T)) .nil (fun _ h=>by cases h) jE
  ·exact nsE e4
set_option tactic.hygienic true in
theorem pL {ms:M3 (List R3)} {R:It->Hp->Prop} (h:tI K G0 W0 (bm hX ms) σ H R):rz (tA K G0 W0 ms) σ H R:=by
 obtain ⟨G,W,le,ρ,T,g,o,ρ',w,e,q⟩:=h
 have herr:∀ x,o=.error x->W x ρ':=fun x hx=>by subst hx;exact q
 refine tA.seq le w e herr fun rs ρ1 e1 vs H1 Ts g1 w1 a1=>?_
 obtain ⟨ds,d1,e2⟩:=bV e1
 obtain ⟨p,e3,rfl,rfl⟩:=bD e2
 obtain ⟨xs,e4,e5⟩:=ue.mp e3
 subst e5
 obtain ⟨ys,i1,f1,f2⟩:=a1.items w1 (fun x hx=>ug _ hx) d1
 subst f1 f2
 have inv:∀ {ds:List D},hX ds=some xs->∃ i j,ds=[.int i,.int j]/\de i=true/\de j=true/\xs=dm i (j - i).toNat:=fun {ds} h=>by
  unfold hX at h
  split at h
  ·rename_i i j
   split at h
   ·rename_i hh
    cases h
    simp only [Bool.and_eq_true] at hh
    exact ⟨i,j,rfl,hh.1,hh.2,rfl⟩
   ·exact nsE h
  ·exact nsE h
 obtain ⟨i,j,eds,hi,hj,rfl⟩:=inv e4
 match ys,eds,i1,a1 with
 | [],eds,_,_=>cases eds
 | [y],eds,_,_=>exact absurd (congrArg List.length eds) (by simp)
 | y :: z :: u :: r,eds,_,_=>exact absurd (congrArg List.length eds) (by simp)
 | [y,z],eds,i1,a1 =>
  have r1:=(w1.itm (i1 y ua)).rep
  have r2:=(w1.itm (i1 z (ub _ ua))).rep
  have h1:y.d=.int i:=by injection eds
  have h2:z.d=.int j:=by injection eds with _ h;injection h
  rw [h1] at r1
  rw [h2] at r2
  have hi:=of_decide_eq_true hi
  have hj:=of_decide_eq_true hj
  refine ⟨i,j,by show [y.v,z.v]=_;rw [r1.int_inv,r2.int_inv],⟨hi.1,hi.2,hj.1,hj.2⟩,?_⟩
  exact q _ H1 [] [] g1 [] (w1.sub (uu Ts T)) .nil (fun _ h=>by cases h) jE
theorem cj {tg a:Expr} {p pos:Pos} {ms:M3 (List R3)} (hg:Gl X "range") (hm:X.mg "range"=none) (ha:RA X G0 W0 [a] ms) (hs:starEach [a] X.env=[(false,eval a X.env)]):RI X G0 W0 tg (.Call (.Name "range" p) [a] [] pos) (bm d5 ms):=⟨PI.imp (mB hg hm ha.h hs) fun _ _ _ h=>pM h⟩
theorem dG {tg a b:Expr} {p pos:Pos} {ms:M3 (List R3)} (hg:Gl X "range") (hm:X.mg "range"=none) (ha:RA X G0 W0 [a,b] ms) (hs:starEach [a,b] X.env=[(false,eval a X.env),(false,eval b X.env)]) (hs2:starEach [b] X.env=[(false,eval b X.env)]):RI X G0 W0 tg (.Call (.Name "range" p) [a,b] [] pos) (bm hX ms):=⟨PI.imp (mz hg hm ha.h hs hs2) fun _ _ _ h=>pL h⟩
end
end L3
end
section
namespace L3
open PySem L2
section
variable {K:FG} {G G0:Gm} {W W0:D->Sto->Prop} {H H':Hp} {σ:St} {ρ ρ':Sto} {T T':List It3} {g:Nat->Option It3} {x y z:It3} {α β:Type} {X:Cx} {L:List Addr}
noncomputable def nH (bnd:D->Sto->Option Sto) (m:EM):SM:=af m fun r=>af (eD r) fun p=>fun ρ=>(bnd p.1 ρ).map fun ρ1=>(.ok .nx,ρ1)
theorem rX {bnd:D->Sto->Option Sto} {tg:TG} {m:EM} {E:Ends} (hb:Bnd K G0.pr tg bnd) (h:tS K G0 W0 (nH bnd m) E σ H):nC (tE K G0 W0 m) tg E σ H:=by
 refine h.use fun G W le ρ T g r ρ' w e q=>?_
 refine tE.seq le w e q.err fun ra ρ1 e1 v H1 ⟨Ts,g1,w1,a1⟩=>?_
 obtain ⟨p,ρ2,g2,x,e2,w2,f1,_,_,f3⟩:=a1.take w1 e1
 have w3:=Wf.lowT (Ts:=[x]) w2
 obtain ⟨ρ3,e3,e4⟩:=ue.mp e2
 cases e4
 rw [<- f3]
 exact hb G H1 σ ρ2 _ T g2 (bT x) _ le.pr rfl w3 (by show bnd x.d ρ2=_;rw [f1];exact e3) fun σ2 g3 w4=>q _ _ _ w4
theorem sD {tg e:Expr} {pos:Pos} {bnd:D->Sto->Option Sto} {m:EM} (hg:RG X G0.pr tg bnd) (he:RE X G0 W0 e m) (hs:swapsWithSole [tg] e pos.line X.env=pure false) (hw:swappedStores [tg] e X.env=pure none) (h1:(assignEach [tg] X.env).map (·.2)=[assign tg X.env]):RS X G0 W0 (.Assign [tg] e pos) (nH bnd m):=by
 obtain ⟨g,a,b⟩:=hg.h
 exact ⟨PS.imp (n6 he.h a hs hw h1) fun _ _ _ h=>rX b h⟩
noncomputable def isL:D->Bool
 | .lst _=>true
 | _=>false
theorem oO:∀ d v L H,isL d=true->Rep K H d v L->tyV K "list" v H:=fun d v L H h r=>by
 cases r with
 | lst ha _=>exact .inl ⟨rfl,_,SqL.of ha⟩
 | _=>cases h
noncomputable def appF:D->List D->Option (D × D)
 | .lst xs,[d]=>if xs.length < 16777216 then some (.lst (xs ++ [d]),.non) else none
 | _,_=>none
set_option tactic.hygienic true in
theorem tF:MutD K lI appF:=fun a d L0 as H Q p r m na ra nA e q=>by
 cases d with
 | lst xs =>
  obtain ⟨_,vs,_,e1,e2,ha,rs⟩:=r.view
  cases e1
  cases e2
  match as,e,ra,nA with
  | [],e,_,_=>exact nsE e
  | _ :: _ :: _,e,_,_=>exact nsE e
  | [y],e,ra,nA =>
   have e:(if xs.length < 16777216 then some (D.lst (xs ++ [y.d]),D.non) else none)=some p:=e
   split at e
   ·rename_i hl
    cases e
    refine ⟨a,vs,y.v,rfl,rfl,ha,by rw [<- rs.len,<- szl];exact hl,?_⟩
    have ry:=ra y ua
    have ny:=nA y ua
    have ma:MutAt H a:=.inl ⟨_,ha⟩
    have keep:∀ {d v L},Rep K H d v L->a ∉ L->Rep K (upd H a (.lst (vs ++ [y.v]))) d v L:=fun {d v L} r n=>r.keep (M:=fun b=>b=a) (fun b o hb h=>by rw [aC h];exact hb) (fun b e=>by rw [e];exact ma) fun b hb e=>n (by rw [<- e];exact hb)
    have keeps:Reps (Rep K (upd H a (.lst (vs ++ [y.v])))) xs vs L0:=rs.keep (M:=fun b=>b=a) (fun b o hb h=>by rw [aC h];exact hb) (fun b e=>by rw [e];exact ma) fun b hb e=>na (by rw [<- e];exact hb)
    exact q (.lst (vs ++ [y.v])) (L0 ++ (y.L ++ [])) ⟨.non,.non,[],.z⟩ (.lst aS (keeps.append (.cons (keep ry ny) .nil))) rfl (fun c hc=>by
     rcases ul.mp hc with h | h
     ·exact .inl h
     ·rw [List.append_nil] at h;exact .inr ⟨y,ua,h⟩) rfl rfl .non fun c hc=>by cases hc
   ·exact nsE e
 | _=>exact nsE e
noncomputable def tW:D->List D->Option (D × D)
 | .lst xs,[.lst ys]=>if xs.length+ys.length<=16777216 then some (.lst (xs ++ ys),.non) else none
 | _,_=>none
theorem ext2 {xs:List D} (a:D) {b:D} {r:List D}:tW (.lst xs) (a :: b :: r)=none:=by cases a <;> rfl
set_option tactic.hygienic true in
theorem tD:MutD K lG tW:=fun a d L0 as H Q p r m na ra nA e q=>by
 cases d with
 | lst xs =>
  obtain ⟨_,vs,_,e1,e2,ha,rs⟩:=r.view
  cases e1
  cases e2
  match as,e,ra,nA with
  | [],e,_,_=>exact nsE e
  | y :: _ :: _,e,_,_=>exact nsE ((ext2 y.d).symm.trans e)
  | [y],e,ra,nA =>
   have ry:=ra y ua
   have ny:=nA y ua
   obtain ⟨yd,yv,yL,yf⟩:=y
   dsimp only at ry ny e
   cases yd with
   | lst ys =>
    obtain ⟨b,ws,L1,rfl,rfl,hb,rs'⟩:=ry.view
    have e:(if xs.length+ys.length<=16777216 then some (D.lst (xs ++ ys),D.non) else none)=some p:=e
    split at e
    ·rename_i hl
     cases e
     refine ⟨a,b,vs,ws,rfl,rfl,ha,hb,by rw [<- rs.len,<- rs'.len,<- szl];exact hl,?_⟩
     have ma:MutAt H a:=.inl ⟨_,ha⟩
     have keeps:∀ {ds vs' L},Reps (Rep K H) ds vs' L->a ∉ L->Reps (Rep K (upd H a (.lst (vs ++ ws)))) ds vs' L:=fun {ds vs' L} r n=>r.keep (M:=fun b=>b=a) (fun b o hb h=>by rw [aC h];exact hb) (fun b e=>by rw [e];exact ma) fun b hb e=>n (by rw [<- e];exact hb)
     exact q (.lst (vs ++ ws)) (L0 ++ L1) ⟨.non,.non,[],.z⟩ (.lst aS ((keeps rs na).append (keeps rs' fun h=>ny (ub _ h)))) rfl (fun c hc=>by
      rcases ul.mp hc with h | h
      ·exact .inl h
      ·exact .inr ⟨_,ua,ub _ h⟩) rfl rfl .non fun c hc=>by cases hc
    ·exact nsE e
   | _=>exact nsE e
 | _=>exact nsE e
noncomputable def pR:D->List D->Option (D × D)
 | .lst xs,[.int i,d]=>(ixN xs.length i).map fun j=>(.lst (xs.set j d),.non)
 | _,_=>none
theorem Reps.set:∀ {ds:List D} {vs:List V} {L L':List Addr} {d:D} {v:V} (j:Nat),Reps (Rep K H) ds vs L->Rep K H d v L'->∃ L2,Reps (Rep K H) (ds.set j d) (vs.set j v) L2/\∀ c ∈ L2,c ∈ L\/c ∈ L'
 | _,_,_,_,_,_,j,.nil,_=>⟨[],.nil,fun c hc=>by cases hc⟩
 | _,_,_,L',_,_,0,.cons (L:=L1) (L':=L1') r rs,r'=>⟨L' ++ L1',.cons r' rs,fun c hc=>by
  rcases ul.mp hc with h | h
  ·exact .inr h
  ·exact .inl (uh _ h)⟩
 | _,_,_,L',_,_,j+1,.cons (L:=L1) (L':=L1') r rs,r'=>by
  obtain ⟨L2,h1,h2⟩:=Reps.set j rs r'
  refine ⟨L1 ++ L2,.cons r h1,fun c hc=>?_⟩
  rcases ul.mp hc with h | h
  ·exact .inl (ug _ h)
  ·rcases h2 c h with h | h
   ·exact .inl (uh _ h)
   ·exact .inr h
theorem set1 {xs:List D} (a:D):pR (.lst xs) [a]=none:=by cases a <;> rfl
theorem set3' {xs:List D} (a:D) {b c:D} {r:List D}:pR (.lst xs) (a :: b :: c :: r)=none:=by cases a <;> rfl
theorem qt:MutD K (d7 lE) pR:=fun a d L0 as H Q p r m na ra nA e q=>by
 cases d with
 | lst xs =>
  obtain ⟨_,vs,_,e1,e2,ha,rs⟩:=r.view
  cases e1
  cases e2
  match as,e,ra,nA with
  | [],e,_,_=>exact nsE e
  | [y],e,_,_=>exact nsE ((set1 y.d).symm.trans e)
  | y :: _ :: _ :: _,e,_,_=>exact nsE ((set3' y.d).symm.trans e)
  | [k,y],e,ra,nA =>
   have rk:=ra k ua
   have ry:=ra y (ub _ ua)
   have ny:=nA y (ub _ ua)
   obtain ⟨kd,kv,kL,kf⟩:=k
   dsimp only at rk
   cases kd with
   | int i =>
    obtain ⟨rfl,rfl⟩:=rk.view
    obtain ⟨j,h1,h2⟩:=ue.mp (show (ixN xs.length i).map (fun j=>(D.lst (xs.set j y.d),D.non))=some p from e)
    subst h2
    refine ⟨.int i,y.v,rfl,a,vs,i,j,rfl,rfl,ha,by rw [<- rs.len];exact h1,?_⟩
    have ma:MutAt H a:=.inl ⟨_,ha⟩
    have ry':Rep K (upd H a (.lst (vs.set j y.v))) y.d y.v y.L:=ry.keep (M:=fun b=>b=a) (fun b o hb h=>by rw [aC h];exact hb) (fun b e=>by rw [e];exact ma) fun b hb e=>ny (by rw [<- e];exact hb)
    have keeps:Reps (Rep K (upd H a (.lst (vs.set j y.v)))) xs vs L0:=rs.keep (M:=fun b=>b=a) (fun b o hb h=>by rw [aC h];exact hb) (fun b e=>by rw [e];exact ma) fun b hb e=>na (by rw [<- e];exact hb)
    obtain ⟨L2,h3,h4⟩:=keeps.set j ry'
    exact q (.lst (vs.set j y.v)) L2 ⟨.non,.non,[],.z⟩ (.lst aS h3) rfl (fun c hc=>(h4 c hc).imp id fun h=>⟨y,ub _ ua,h⟩) rfl rfl .non fun c hc=>by cases hc
   | _=>exact nsE e
 | _=>exact nsE e
theorem lD {i:Nat} {x:Str} {pn apos cpos:Pos} {id:String} {nm:Str} {Ty:String} {e:Expr} {es:List Expr} {ok:D->Bool} {r:V->List V->Hp->VK->Prop} {f:D->List D->Option (D × D)} {ms:M3 (List R3)} (pa:PlainAttrs Ty) (slot:Slot Ty nm id) (hty:typeOf (.builtin id)=pure (.type "method_descriptor")) (hm:MtR X id r) (hr:MutD X.K r f) (hok:∀ d v L H,ok d=true->Rep X.K H d v L->tyV X.K Ty v H)
  (ho:PE X (.Name x pn) (ml i)) (ha:RA X G0 W0 (e :: es) ms) (hbase:attributeBase (.Name x pn) nm X.env (eval (.Name x pn) X.env)=eval (.Name x pn) X.env)
  (hfew:((backTo cpos (starEach (e :: es) X.env)).all (fun x=>!x.1) && (backToKw cpos (keywordEach [] X.env)).all (fun x=>x.1.isSome) && decide ((e :: es).length+([]:List Keyword).length+(if ([]:List Keyword).isEmpty then 0 else 1) < 30))=true)
  (hline:(apos.endLine == cpos.line)=true) (hs:starEach (e :: es) X.env=(false,eval e X.env) :: starEach es X.env) (hplain:(backTo cpos (starEach es X.env)).any (·.1)=false):RE X G0 W0 (.Call (.Attribute (.Name x pn) nm apos) (e :: es) [] cpos) (qB ok f i ms) :=
 ⟨PE.imp (pe_bm pa slot hty hm ho ha.h hbase hfew hline hs hplain) fun _ _ _ h=>se hr hok h⟩
theorem iX {i:Nat} {x:Str} {pn p2 pos:Pos} {k e:Expr} {mk mv:EM} {t:nq} {f:D->List D->Option (D × D)} (hs:pC X t) (hr:MutD X.K (d7 t) f) (ho:PE X (.Name x pn) (ml i)) (hk:RE X G0 W0 k mk) (hv:RE X G0 W0 e mv)
  (ha:∀ v,assign (.Subscript (.Name x pn) k p2) X.env v=(do
   let ov <- holding [v] (eval (.Name x pn) X.env)
   let iv <- holding [v,ov] (eval k X.env)
   standAt p2
   holding [v,ov,iv] (setItem ov iv v)
   release [v,ov,iv] []))
  (h1:swapsWithSole [.Subscript (.Name x pn) k p2] e pos.line X.env=pure false) (h2:swappedStores [.Subscript (.Name x pn) k p2] e X.env=pure none) (h3:(assignEach [.Subscript (.Name x pn) k p2] X.env).map (·.2)=[assign (.Subscript (.Name x pn) k p2) X.env]):RS X G0 W0 (.Assign [.Subscript (.Name x pn) k p2] e pos) (jR f i mk mv) :=
 ⟨PS.imp (n6 hv.h (sS ho hk.h hs ha) h1 h2 h3) fun _ _ _ h=>rP hr h⟩
end
end L3
end
section
namespace L3
open PySem L2
section
variable {K:FG} {G G0:Gm} {W W0:D->Sto->Prop} {H H':Hp} {σ:St} {ρ ρ':Sto} {T T':List It3} {g:Nat->Option It3} {x y z:It3} {α β:Type} {X:Cx} {L:List Addr}
theorem bJ {Y:Cx} {ix:List (Option Nat)}:PTs Y [] (tT K (bR ix) noX gX):=fun pins s σ H Q I h=>p7 pins s σ H Q I (rL h)
theorem jT {Y:Cx} {c:Expr} {ix:List (Option Nat)} {m:M3 Bool} (h:RT Y (bR ix) noX c m):PTs Y [c] (tT Y.K (bR ix) noX m):=p6 h.h
theorem cy {ix:List (Option Nat)} (h:(ix.filterMap id).Nodup):Inj ix:=by
 intro j k i hj hk
 induction ix generalizing j k with
 | nil=>simp at hj
 | cons o ix ih =>
  cases o with
  | none =>
   have h':(ix.filterMap id).Nodup:=by simpa using h
   cases j with
   | zero=>simp at hj
   | succ j =>
    cases k with
    | zero=>simp at hk
    | succ k=>rw [ih h' j k (by simpa using hj) (by simpa using hk)]
  | some i0 =>
   have h':(i0 :: ix.filterMap id).Nodup:=by simpa using h
   obtain ⟨n,h''⟩:=List.nodup_cons.mp h'
   have mem:∀ m:Nat,ix[m]?=some (some i0)->False:=fun m e=>n (List.mem_filterMap.mpr ⟨some i0,ut e,rfl⟩)
   cases j with
   | zero =>
    simp at hj
    cases k with
    | zero=>rfl
    | succ k=>subst hj;exact (mem k (by simpa using hk)).elim
   | succ j =>
    cases k with
    | zero=>simp at hk;subst hk;exact (mem j (by simpa using hj)).elim
    | succ k=>rw [ih h'' j k (by simpa using hj) (by simpa using hk)]
noncomputable def dY:SM:=fun _=>none
theorem gu {st:Stmt}:RS X G0 W0 st dY:=⟨PS.imp n5 fun _ _ _ h=>by
 refine h.use fun G W le ρ T g r ρ' w e q=>?_
 cases e⟩
theorem jK {r r':R2} {f f':D->D->Option (D × Fl)} {ma mb mc:EM} {Q:VK} (ho:OpD K r f) (ho':OpD K r' f') (h:tE K G0 W0 (ff f f' ma mb mc) σ H Q):iQ r r' (tE K G0 W0 ma) (tE K G0 W0 mb) (tE K G0 W0 mc) σ H Q:=by
 refine h.use fun G W le ρ T g o ρ' w e q=>?_
 refine tE.seq le w e q.err fun ra ρ1 e1 va H1 ⟨Ts,g1,w1,a1⟩=>?_
 refine tE.seq le w1 e1 q.err fun rb ρ2 e2 vb H2 ⟨Us,g2,w2,a2⟩=>?_
 obtain ⟨da,d1,e3⟩:=aX e2
 obtain ⟨db,d2,e4⟩:=aX e3
 obtain ⟨k,e5,e6⟩:=fi e4
 obtain ⟨ya,i1,f1,f2⟩:=a1.item w2 (fun x hx=>uh _ (ug _ hx)) d1
 obtain ⟨yb,i2,f3,f4⟩:=a2.item w2 (fun x hx=>ug _ hx) d2
 obtain ⟨p,e7,e8⟩:=uL.mp e5
 have hp:=pA e8
 subst f1 f2 f4
 rw [<- f3] at e7
 refine ho ya yb H2 _ p (w2.itm i1).arg (w2.itm i2).arg e7 fun u H3 nu ud uf=>?_
 have w3:=w2.push nu fun c h=>w2.kids (ys:=[ya,yb]) (fun y hy=>by
  rcases ui.mp hy with h | hy
  ·rw [h];exact i1
  ·rw [uM.mp hy];exact i2) h
 have ru:=nu.rep
 rw [ud,hp] at ru
 refine ⟨k,ru.bl_eq.1,?_⟩
 have w4:=w3.sub (List.sublist_cons_self u _)
 cases k with
 | false =>
  cases e6
  have w5:=w4.sub (T':=T) ((uu Ts T).trans (uu Us _))
  exact q _ _ (w5.const (.bl false))
 | true =>
  simp only [if_true] at e6 ⊢
  refine tE.seq le w4 e6 q.err fun rc ρ5 e9 vc H5 ⟨Vs,g5,w5,a5⟩=>?_
  obtain ⟨db',d3,e10⟩:=aX e9
  obtain ⟨dc,d4,e11⟩:=aX e10
  obtain ⟨p',e12,rfl,rfl⟩:=bD e11
  obtain ⟨yb',i3,f5,f6⟩:=a2.item w5 (fun x hx=>uh _ (ug _ hx)) d3
  obtain ⟨yc,i4,f7,f8⟩:=a5.item w5 (fun x hx=>ug _ hx) d4
  cases ef:f' db' dc with
  | none=>rw [ef] at e12;exact nsE e12
  | some s =>
   rw [ef] at e12
   cases e12
   have w6:=w5
   rw [show Vs ++ (Us ++ (Ts ++ T))=(Vs ++ (Us ++ Ts)) ++ T by simp] at w6
   have i3':Itm ((Vs ++ (Us ++ Ts)) ++ T) g5 yb':=by simpa using i3
   have i4':Itm ((Vs ++ (Us ++ Ts)) ++ T) g5 yc:=by simpa using i4
   rw [<- f6,<- f8]
   refine ho' yb' yc H5 Q s (w5.itm i3).arg (w5.itm i4).arg (by rw [f5,f7];exact ef) (l0 w6 (fun y hy=>?_) q)
   rcases ui.mp hy with h | hy
   ·rw [h];exact i3'
   ·rw [uM.mp hy];exact i4'
theorem nW {op op':CmpOp} {r r':R2} {f f':D->D->Option (D × Fl)} {a b c:Expr} {pos:Pos} {ma mb mc:EM} (ho:OpR X (compareOp op) r) (hd:OpD X.K r f) (ho':OpR X (compareOp op') r') (hd':OpD X.K r' f') (ha:RE X G0 W0 a ma) (hb:RE X G0 W0 b mb) (hc:RE X G0 W0 c mc)
  (h:PE X a (tE X.K G0 W0 ma)->PE X b (tE X.K G0 W0 mb)->PE X c (tE X.K G0 W0 mc)->PE X (.Compare a [op,op'] [b,c] pos) (iQ r r' (tE X.K G0 W0 ma) (tE X.K G0 W0 mb) (tE X.K G0 W0 mc))):RE X G0 W0 (.Compare a [op,op'] [b,c] pos) (ff f f' ma mb mc):=⟨PE.imp (h ha.h hb.h hc.h) fun _ _ _ h=>jK hd hd' h⟩
theorem bf {op:CmpOp} {r:R2} {f:D->D->Option (D × Fl)} {a b:Expr} {pos:Pos} {ma mb:EM} (ho:OpR X (compareOp op) r) (hd:OpD X.K r f) (ha:RE X G0 W0 a ma) (hb:RE X G0 W0 b mb) (hm:behindInMarks op b=false):RT X G0 W0 (.Compare a [op] [b] pos) (cB (ag f ma mb)):=⟨PT.imp (p8 ho ha.h hb.h hm) fun _ _ _ h=>gl hd (rN h)⟩
theorem jS {op op':CmpOp} {r r':R2} {f f':D->D->Option (D × Fl)} {a b c:Expr} {pos:Pos} {ma mb mc:EM} (ho:OpR X (compareOp op) r) (hd:OpD X.K r f) (ho':OpR X (compareOp op') r') (hd':OpD X.K r' f') (ha:RE X G0 W0 a ma) (hb:RE X G0 W0 b mb) (hc:RE X G0 W0 c mc) (hm:lastMarks [op,op'] [b,c]=false):RT X G0 W0 (.Compare a [op,op'] [b,c] pos) (cB (ff f f' ma mb mc)):=⟨PT.imp (n3 ho ho' ha.h hb.h hc.h hm) fun _ _ _ h=>jK hd hd' (rN h)⟩
end
end L3
namespace L3
theorem ay {mask:List Bool} {i:Nat} (h:mask.length<=i):prM mask i=false:=by
 unfold prM
 rw [List.getElem?_eq_none h]
end L3
end
section
namespace L3
open PySem L2
structure Bl (mg:Str->Option Value):Prop where
 len:mg "len"=none
 range:mg "range"=none
 abs:mg "abs"=none
 divmod:mg "divmod"=none
 enumerate:mg "enumerate"=none
 tuple:mg "tuple"=none
 isinstance:mg "isinstance"=none
 int:mg "int"=none
 bool:mg "bool"=none
 all:mg "all"=none
 str:mg "str"=none
 max:mg "max"=none
 min:mg "min"=none
 list:mg "list"=none
 dict:mg "dict"=none
 repr:mg "repr"=none
 sorted:mg "sorted"=none
 set:mg "set"=none
 zip:mg "zip"=none
 reversed:mg "reversed"=none
theorem cI:bootBuiltins "len"=some (.builtin "len"):=by decide +kernel
theorem b_abs:bootBuiltins "abs"=some (.builtin "abs"):=by decide +kernel
theorem pv:bootBuiltins "divmod"=some (.builtin "divmod"):=by decide +kernel
theorem dJ:bootBuiltins "tuple"=some (.type "tuple"):=by decide +kernel
theorem jA:bootBuiltins "isinstance"=some (.builtin "isinstance"):=by decide +kernel
theorem rF:bootBuiltins "int"=some (.type "int"):=by decide +kernel
theorem pw:bootBuiltins "bool"=some (.type "bool"):=by decide +kernel
theorem pz:bootBuiltins "all"=some (.builtin "all"):=by decide +kernel
theorem gZ:bootBuiltins "max"=some (.builtin "max"):=by decide +kernel
theorem b_min:bootBuiltins "min"=some (.builtin "min"):=by decide +kernel
end L3
end
section
namespace L3
open PySem L2
section
variable {K:FG} {G G0:Gm} {W W0:D->Sto->Prop} {H H':Hp} {σ:St} {ρ ρ':Sto} {T T':List It3} {g:Nat->Option It3} {x y z:It3} {α β:Type} {X:Cx} {L:List Addr}
theorem pO {m:EM} {Q Q':VK} (h:tE K G0 W0 m σ H Q) (f:∀ v H,Q v H->Q' v H):tE K G0 W0 m σ H Q':=by
 refine h.use fun G W le ρ T g o ρ' w e q=>?_
 refine tE.mk le w e ?_
 cases o with
 | ok r=>exact fun v H' g=>f v H' (q v H' g)
 | error x=>exact q
noncomputable def rm:D->Option String
 | .non=>some "NoneType" | .bl _=>some "bool" | .int _=>some "int" | .str _=>some "str"
 | .tup _=>some "tuple" | .lst _=>some "list" | .fls _=>some "list" | .dk _=>some "dict" | .dt _=>some "dict" | .exc _ _=>none
noncomputable def jo (t:String) (d:D):Option (D × Fl):=(rm d).map fun k=>(.bl (kB k t),.z)
theorem Rep.kind {d:D} {v:V} {k:String} (r:Rep K H d v L) (e:rm d=some k):KindOf K H v k:=by
 cases r with
 | non=>cases e;exact .non
 | bl b=>cases e;exact .bool b
 | int i=>cases e;exact .int i
 | str s=>cases e;exact .str s
 | tup h _=>cases e;exact .tuple (SqT.of h)
 | lst h _=>cases e;exact .list (SqL.of h)
 | lstF h _=>cases e;exact .list h.sq
 | dK h _ _=>cases e;exact .dK h
 | dT h _ _=>cases e;exact .dT h
 | exc _ _=>cases e
theorem du {t:String} {tn:Str} {a:Expr} {p pT pos:Pos} {ma:EM} (hc:CallR X (.builtin "isinstance") (fun xs H Q=>∃ x k,xs=[x,.ty t]/\KindOf X.K H x k/\Q (.bl (kB k t)) H)) (hg:Gl X "isinstance") (hm:X.mg "isinstance"=none) (ht:PE X (.Name tn pT) (tC (.ty t))) (ha:RE X G0 W0 a ma)
  (he1:starEach [a,.Name tn pT] X.env=(false,eval a X.env) :: starEach [.Name tn pT] X.env) (he2:starEach [.Name tn pT] X.env=(false,eval (.Name tn pT) X.env) :: starEach [] X.env) (hpl:(backTo pos (starEach [.Name tn pT] X.env)).any (·.1)=false):RE X G0 W0 (.Call (.Name "isinstance" p) [a,.Name tn pT] [] pos) (mUn (jo t) ma) :=
 ⟨PE.imp (j2 hc hg hm jA (i8 ha.h (i8 ht oj he2) he1) (by decide) (by decide) he1 hpl) fun σ H Q h=>by
  have h:=qU (r:=fun x H Q=>∃ k,KindOf X.K H x k/\Q (.bl (kB k t)) H) (fun a H Q p ra e q=>by
   obtain ⟨k,h1,h2⟩:=ue.mp e
   subst h2
   exact ⟨k,ra.rep.kind h1,q ⟨.bl (kB k t),.bl (kB k t),[],.z⟩ H (cu (.bl _)) rfl rfl⟩) h
  refine pO h fun x H1 ⟨k,hk,q⟩=>?_
  exact ⟨x,k,rfl,hk,q⟩⟩
noncomputable def oM:D->Option Key
 | .int i=>some (.inl i)
 | .str s=>some (.inr s)
 | _=>none
noncomputable def bU:List D->Option (List Key)
 | []=>some []
 | d :: ds=>match oM d,bU ds with
  | some k,some ks=>some (k :: ks)
  | _,_=>none
theorem mP {d:D} {v:V} {k:Key} (r:Rep K H d v L) (e:oM d=some k):v=kV k:=by
 cases r <;> cases e <;> rfl
theorem cH:∀ {ds:List D} {vs:List V} {L:List Addr} {ks:List Key},Reps (Rep K H) ds vs L->bU ds=some ks->vs=ks.map kV
 | _,_,_,ks,.nil,e=>by cases e;rfl
 | _,_,_,ks,.cons (d:=d) (ds:=ds) r rs,e=>by
  unfold bU at e
  cases h1:oM d with
  | none=>rw [h1] at e;exact nsE e
  | some k =>
   cases h2:bU ds with
   | none=>rw [h1,h2] at e;exact nsE e
   | some ks' =>
    rw [h1,h2] at e
    cases e
    rw [mP r h1,cH rs h2];rfl
noncomputable def js (kvs:List (List Key × D)) (k:List Key):Option D:=(kvs.find? fun kv=>decide (kv.1=k)).map (·.2)
noncomputable def n0 (kvs:List (List Key × D)) (k:List Key) (v:D):List (List Key × D) :=
 if (kvs.any fun kv=>decide (kv.1=k))=true then kvs.map (fun kv=>if kv.1=k then (kv.1,v) else kv) else kvs ++ [(k,v)]
theorem kD:∀ {kvs:List (List Key × D)} {ps:List (List Key × V)} {L:List Addr} {k:List Key} {d:D},kvs.map (·.1)=ps.map (·.1)->Reps (Rep K H) (kvs.map (·.2)) (ps.map (·.2)) L->js kvs k=some d->∃ v L',dL ps k=some v/\Rep K H d v L'/\∀ c ∈ L',c ∈ L
 | [],ps,L,k,d,hk,r,e=>by cases e
 | kv :: kvs,[],L,k,d,hk,r,e=>by cases hk
 | kv :: kvs,p :: ps,L,k,d,hk,r,e=>by
  have hk':kv.1=p.1/\kvs.map (·.1)=ps.map (·.1):=by simpa using hk
  generalize hr:(kv :: kvs).map (·.2)=xs at r
  generalize hp:(p :: ps).map (·.2)=ys at r
  cases r with
  | nil=>cases hr
  | cons a as =>
   cases hr
   cases hp
   unfold js at e
   rw [List.find?_cons] at e
   by_cases h:kv.1=k
   ·rw [uD h] at e
    cases e
    exact ⟨_,_,cM (hk'.1.symm.trans h),a,fun c hc=>ug _ hc⟩
   ·rw [uE h] at e
    obtain ⟨v,L',h1,h2,h3⟩:=kD hk'.2 as e
    exact ⟨v,L',by rw [cN (fun z=>h (hk'.1.trans z))];exact h1,h2,fun c hc=>uh _ (h3 c hc)⟩
noncomputable def rB:D->D->Option (D × Fl)
 | .dt kvs,.tup ks=>match bU ks with
  | some k=>(js kvs k).map fun d=>(d,.z)
  | none=>none
 | _,_=>none
noncomputable def jY:R2:=fun x y H Q=>∃ a v,x=.ref a/\DGet H a y (some v)/\Q v H
theorem qm:OpD K jY rB:=fun a b H Q p ra rb e q=>by
 obtain ⟨da,va,La,fa⟩:=a
 obtain ⟨db,vb,Lb,fb⟩:=b
 have ra0:=ra
 obtain ⟨ra,oa⟩:=ra
 obtain ⟨rb,ob⟩:=rb
 dsimp only at ra rb e
 cases da with
 | dt kvs =>
  obtain ⟨pa,ps,L0,rfl,rfl,ha,hk,rs⟩:=ra.view
  cases db with
  | tup ks =>
   obtain ⟨pb,ws,rfl,hb,rs'⟩:=rb.view
   have e:(match bU ks with | some k=>(js kvs k).map fun d=>(d,Fl.z) | none=>none)=some p:=e
   cases h1:bU ks with
   | none=>rw [h1] at e;exact nsE e
   | some k =>
    rw [h1] at e
    obtain ⟨d,h2,h3⟩:=ue.mp (show (js kvs k).map (fun d=>(d,Fl.z))=some p from e)
    subst h3
    have hw:=cH rs' h1
    subst hw
    obtain ⟨v,L',g1,g2,g3⟩:=kD hk rs h2
    refine ⟨pa,v,rfl,by rw [<- g1];exact DGet.t ha hb,q ⟨d,v,L',.z⟩ H (j4 g2 fun c hc=>?_) rfl rfl⟩
    exact ll (y:=⟨.dt kvs,.ref pa,pa :: L0,fa⟩) ua ra0 rfl rfl c (g3 c hc)
  | _=>exact nsE e
 | _=>exact nsE e
open PySem.Spec PyProof.Rows in
theorem jn (hu:X.A.units+1 < cLine):IxR X jY:=by
 intro value slice pins s σ H x y v u Q I rx ry h hs
 obtain ⟨a,w,rfl,g,q⟩:=h
 cases rx
 have hT:=kI I g
 unfold subscriptTail
 refine t7 ?_
 rw [getitemInPython_of_ne hT.not_modules]
 refine t7 (wpAny_specialOf hT PySem.F.slot_dict_getitem.lookup ?_)
 have fin:wpAny (model X.prog X.w) X.A (subscripted slice false (.ref a) u) (fun r s₃=>wpAny (model X.prog X.w) X.A (letTemporaryGo value (.ref a) r >>= fun _=>pure r) (EP X pins σ Q) X.xe s₃) X.xe s:=by
  rw [hs]
  exact wpAny_operating (mW hu I g ry fun w' s3 I3 rw'=>t7 (wpAny_letTemporaryGo (t8 ⟨w,H,I3,rw',q⟩)))
 first
  | exact t8 (t7 fin)
  | exact t7 (t8 (t7 fin))
  | exact t7 fin
noncomputable abbrev aJ:=orD ixD rB
theorem am:OpD K (fun x y H Q=>(nZ K x y H Q\/nY K x y H Q)\/jY x y H Q) aJ:=od_ix.or qm
theorem ao (hu:X.A.units+1 < cLine):IxR X (fun x y H Q=>(nZ X.K x y H Q\/nY X.K x y H Q)\/jY x y H Q):=ix_ok.or (jn hu)
noncomputable def oH:EM:=bq (.val (.dt []) .u)
theorem nU {pos:Pos}:RE X G0 W0 (.Dict [] [] pos) oH:=⟨PE.imp og fun σ H Q h=>by
 refine h.use fun G W le ρ T g o ρ' w e q=>?_
 cases e
 intro p hp
 refine q _ _ (Wf.done (Us:=[]) (ys:=[]) (x:=⟨.dt [],.ref p,[p],.u⟩) w (fun _ h=>(by cases h)) ⟨bp hp,.dT aS rfl .nil,fun c hc=>?_,fun _=>⟨rfl,p,[],rfl,rfl,(by simp),hp⟩⟩)
 rw [uM.mp hc];exact .inl hp⟩
noncomputable def lJ:D->List D->Option (D × D)
 | .dt kvs,[.tup ks,v]=>match bU ks with
  | some k=>if kvs.length < 16777216 then some (.dt (n0 kvs k v),.non) else none
  | none=>none
 | _,_=>none
noncomputable def iw:nq:=fun o i v H Q=>∃ a H',o=.ref a/\DPut H a i v H'/\Q H'
theorem jN (hu:X.A.units+1 < cLine):pC X iw:=by
 intro pins s σ H o i v ov iv u Q I ro ri rv h
 obtain ⟨a,H',rfl,g,q⟩:=h
 cases ro
 exact mV hu I g ri rv fun s' I'=>⟨H',I',q⟩
theorem j0:∀ {kvs:List (List Key × D)} {ps:List (List Key × V)} {L L':List Addr} {k:List Key} {d:D} {v:V},kvs.map (·.1)=ps.map (·.1)->Reps (Rep K H) (kvs.map (·.2)) (ps.map (·.2)) L->Rep K H d v L' ->
  ∃ L2,Reps (Rep K H) ((kvs.map fun kv=>if kv.1=k then (kv.1,d) else kv).map (·.2)) ((ps.map fun kv=>if kv.1=k then (kv.1,v) else kv).map (·.2)) L2/\(∀ c ∈ L2,c ∈ L\/c ∈ L')
 | [],[],L,L',k,d,v,hk,r,rd=>⟨[],.nil,fun c hc=>by cases hc⟩
 | [],_ :: _,_,_,_,_,_,hk,_,_=>by cases hk
 | _ :: _,[],_,_,_,_,_,hk,_,_=>by cases hk
 | kv :: kvs,p :: ps,L,L',k,d,v,hk,r,rd=>by
  have hk':kv.1=p.1/\kvs.map (·.1)=ps.map (·.1):=by simpa using hk
  generalize hr:(kv :: kvs).map (·.2)=xs at r
  generalize hp:(p :: ps).map (·.2)=ys at r
  cases r with
  | nil=>cases hr
  | @cons _ _ L1 _ _ L1' a as =>
   cases hr
   cases hp
   obtain ⟨L2,h1,h2⟩:=j0 (k:=k) hk'.2 as rd
   by_cases h:kv.1=k
   ·refine ⟨L' ++ L2,?_,fun c hc=>?_⟩
    ·simp only [uC,if_pos h,if_pos (hk'.1.symm.trans h)]
     exact .cons rd h1
    ·rcases ul.mp hc with z | z
     ·exact .inr z
     ·rcases h2 c z with y | y
      ·exact .inl (uh _ y)
      ·exact .inr y
   ·refine ⟨L1 ++ L2,?_,fun c hc=>?_⟩
    ·simp only [uC,if_neg h,if_neg (fun z=>h (hk'.1.trans z))]
     exact .cons a h1
    ·rcases ul.mp hc with z | z
     ·exact .inl (ug _ z)
     ·rcases h2 c z with y | y
      ·exact .inl (uh _ y)
      ·exact .inr y
theorem pB {kvs:List (List Key × D)} {ps:List (List Key × V)} {k:List Key} (hk:kvs.map (·.1)=ps.map (·.1)):(kvs.any fun kv=>decide (kv.1=k))=ps.any fun kv=>decide (kv.1=k):=by
 have h1:(kvs.any fun kv=>decide (kv.1=k))=(kvs.map (·.1)).any fun x=>decide (x=k):=by rw [List.any_map];rfl
 have h2:(ps.any fun kv=>decide (kv.1=k))=(ps.map (·.1)).any fun x=>decide (x=k):=by rw [List.any_map];rfl
 rw [h1,h2,hk]
theorem kc {α:Type} {kvs:List (List Key × α)} {k:List Key} {d:α}:(kvs.map fun kv=>if kv.1=k then (kv.1,d) else kv).map (·.1)=kvs.map (·.1):=by
 rw [List.map_map]
 refine uU fun kv _=>?_
 show (if kv.1=k then (kv.1,d) else kv).1=kv.1
 split <;> rfl
theorem put1 {kvs:List (List Key × D)} (a:D):lJ (.dt kvs) [a]=none:=by cases a <;> rfl
theorem put3' {kvs:List (List Key × D)} (a:D) {b c:D} {r:List D}:lJ (.dt kvs) (a :: b :: c :: r)=none:=by cases a <;> rfl
set_option tactic.hygienic true in
theorem qu:MutD K (d7 iw) lJ:=fun a d L0 as H Q p r m na ra nA e q=>by
 cases d with
 | dt kvs =>
  obtain ⟨_,ps,_,e1,e2,ha,hk,rs⟩:=r.view
  cases e1
  cases e2
  match as,e,ra,nA with
  | [],e,_,_=>exact nsE e
  | [y],e,_,_=>exact nsE ((put1 y.d).symm.trans e)
  | y :: _ :: _ :: _,e,_,_=>exact nsE ((put3' y.d).symm.trans e)
  | [k,y],e,ra,nA =>
   have rk:=ra k ua
   have ry:=ra y (ub _ ua)
   have ny:=nA y (ub _ ua)
   obtain ⟨kd,kv,kL,kf⟩:=k
   dsimp only at rk
   cases kd with
   | tup ks =>
    obtain ⟨pb,ws,rfl,hb,rs'⟩:=rk.view
    have e:(match bU ks with | some k=>if kvs.length < 16777216 then some (D.dt (n0 kvs k y.d),D.non) else none | none=>none)=some p:=e
    cases h1:bU ks with
    | none=>rw [h1] at e;exact nsE e
    | some key =>
     rw [h1] at e
     dsimp only at e
     split at e
     ·rename_i hl
      cases e
      have hw:=cH rs' h1
      subst hw
      have hlen:kvs.length=ps.length:=by have:=congrArg List.length hk;simpa using this
      refine ⟨.ref pb,y.v,rfl,a,_,rfl,DPut.t ha hb (by rw [<- hlen,<- szl];exact hl),?_⟩
      have ma:MutAt H a:=.inr (.inr ⟨_,ha⟩)
      have ry':Rep K (upd H a (.dT (bQ ps key y.v))) y.d y.v y.L:=ry.keep (M:=fun b=>b=a) (fun b o hb h=>by rw [aC h];exact hb) (fun b e=>by rw [e];exact ma) fun b hb e=>ny (by rw [<- e];exact hb)
      have keeps:Reps (Rep K (upd H a (.dT (bQ ps key y.v)))) (kvs.map (·.2)) (ps.map (·.2)) L0:=rs.keep (M:=fun b=>b=a) (fun b o hb h=>by rw [aC h];exact hb) (fun b e=>by rw [e];exact ma) fun b hb e=>na (by rw [<- e];exact hb)
      have fin:∃ L1,Reps (Rep K (upd H a (.dT (bQ ps key y.v)))) ((n0 kvs key y.d).map (·.2)) ((bQ ps key y.v).map (·.2)) L1/\(∀ c ∈ L1,c ∈ L0\/c ∈ y.L)/\(n0 kvs key y.d).map (·.1)=(bQ ps key y.v).map (·.1):=by
       generalize upd H a (HO.dT (bQ ps key y.v))=H2 at keeps ry' ⊢
       unfold n0 bQ
       rw [pB hk]
       split
       ·obtain ⟨L2,g1,g2⟩:=j0 (k:=key) hk keeps ry'
        exact ⟨L2,g1,g2,by rw [kc,kc];exact hk⟩
       ·refine ⟨L0 ++ (y.L ++ []),?_,fun c hc=>?_,by rw [List.map_append,List.map_append,hk];rfl⟩
        ·rw [List.map_append,List.map_append]
         exact keeps.append (.cons ry' .nil)
        ·rcases ul.mp hc with z | z
         ·exact .inl z
         ·rw [List.append_nil] at z;exact .inr z
      obtain ⟨L1,g1,g2,g3⟩:=fin
      exact q (.dT (bQ ps key y.v)) L1 ⟨.non,.non,[],.z⟩ (.dT aS g3 g1) rfl (fun c hc=>(g2 c hc).imp id fun h=>⟨y,ub _ ua,h⟩) rfl rfl .non fun c hc=>by cases hc
     ·exact nsE e
   | _=>exact nsE e
 | _=>exact nsE e
noncomputable def s9 (f g:D->List D->Option (D × D)) (a:D) (b:List D):Option (D × D):=match f a b with
 | some p=>some p
 | none=>g a b
theorem MutD.or {r r':V->List V->Hp->VK->Prop} {f g:D->List D->Option (D × D)} (h:MutD K r f) (h':MutD K r' g):MutD K (fun x y H Q=>r x y H Q\/r' x y H Q) (s9 f g):=fun a d L0 as H Q p r m na ra nA e q=>by
 unfold s9 at e
 cases ef:f d (as.map (·.d)) with
 | some p'=>rw [ef] at e;cases e;exact .inl (h a d L0 as H Q _ r m na ra nA ef q)
 | none=>rw [ef] at e;exact .inr (h' a d L0 as H Q p r m na ra nA e q)
noncomputable abbrev pS:=s9 pR lJ
theorem lb:MutD K (d7 fun o i v H Q=>lE o i v H Q\/iw o i v H Q) pS:=fun a d L0 as H Q p r m na ra nA e q=>by
 rcases MutD.or qt qu a d L0 as H Q p r m na ra nA e q with ⟨k,v,h1,h2⟩ | ⟨k,v,h1,h2⟩
 ·exact ⟨k,v,h1,.inl h2⟩
 ·exact ⟨k,v,h1,.inr h2⟩
theorem iR (hu:X.A.units+1 < cLine):pC X (fun o i v H Q=>lE o i v H Q\/iw o i v H Q):=by
 intro pins s σ H o i v ov iv u Q I ro ri rv h
 rcases h with h | h
 ·exact nF pins s σ H o i v ov iv u Q I ro ri rv h
 ·exact jN hu pins s σ H o i v ov iv u Q I ro ri rv h
end
end L3
end
section
namespace L3
open PySem L2
section
open PySem.Spec PyProof.Rows HT
variable {prog:Program} {w:World} {A:Around} {E:Value->Shared->Prop} {s:Shared}
end
section
variable {K:FG} {G G0:Gm} {W W0:D->Sto->Prop} {H H':Hp} {σ:St} {ρ ρ':Sto} {T T':List It3} {g:Nat->Option It3} {x y z:It3} {α β:Type} {X:Cx} {L:List Addr}
theorem Reps.take:∀ {ds:List D} {vs:List V} {L:List Addr} (n:Nat),Reps (Rep K H) ds vs L->∃ L',Reps (Rep K H) (ds.take n) (vs.take n) L'/\∀ c ∈ L',c ∈ L
 | _,_,_,0,_=>⟨[],by simpa using Reps.nil,fun c hc=>by cases hc⟩
 | _,_,_,n+1,.nil=>⟨[],by simpa using Reps.nil,fun c hc=>by cases hc⟩
 | _,_,_,n+1,.cons (L:=L1) r rs=>by
  obtain ⟨L',h1,h2⟩:=Reps.take n rs
  exact ⟨L1 ++ L',by simpa using Reps.cons r h1,fun c hc=>by
   rcases ul.mp hc with h | h
   ·exact ug _ h
   ·exact uh _ (h2 c h)⟩
theorem Reps.drop:∀ {ds:List D} {vs:List V} {L:List Addr} (n:Nat),Reps (Rep K H) ds vs L->∃ L',Reps (Rep K H) (ds.drop n) (vs.drop n) L'/\∀ c ∈ L',c ∈ L
 | _,_,L,0,r=>⟨L,by simpa using r,fun c hc=>hc⟩
 | _,_,_,n+1,.nil=>⟨[],by simpa using Reps.nil,fun c hc=>by cases hc⟩
 | _,_,_,n+1,.cons r rs=>by
  obtain ⟨L',h1,h2⟩:=Reps.drop n rs
  exact ⟨L',by simpa using h1,fun c hc=>uh _ (h2 c hc)⟩
end
end L3
end
section
namespace L3
open PySem L2
mutual
noncomputable def pyD:D->Option PyData
 | .non=>some .none
 | .bl b=>some (.bool b)
 | .int i=>some (.int i)
 | .str x=>some (.str x)
 | .tup xs=>(jZ xs).map .tuple
 | .lst xs=>(jZ xs).map .list
 | .fls xs=>(jZ xs).map .list
 | .dk _=>none
 | .dt _=>none
 | .exc _ _=>none
noncomputable def jZ:List D->Option (List PyData)
 | []=>some []
 | d :: ds=>match pyD d,jZ ds with
  | some p,some ps=>some (p :: ps)
  | _,_=>none
end
section
variable {K:FG} {H:Hp} {Ks:Addr->Prop} {d:D} {v:V} {L:List Addr} {X:Cx}
set_option tactic.hygienic true in
theorem Rep.dv (r:Rep K H d v L):∀ p,pyD d=some p->DV K H v p:=by
 refine Rep.rec (motive_1:=fun d v _ _=>∀ p,pyD d=some p->DV K H v p) (motive_2:=fun ds vs _ _=>∀ ps,jZ ds=some ps->DVs K H vs ps) ?_ ?_ ?_ ?_ ?_ ?_ ?_ ?_ ?_ ?_ ?_ ?_ r
 ·intro p e;unfold pyD at e;cases e;exact .non
 ·intro _ p e;unfold pyD at e;cases e;exact .bl _
 ·intro _ p e;unfold pyD at e;cases e;exact .int _
 ·intro _ p e;unfold pyD at e;cases e;exact .str _
 ·intro xs a vs L h _ ih p e
  unfold pyD at e
  obtain ⟨ps,e1,rfl⟩:=ue.mp e
  exact .tup (SqT.of h) (ih ps e1)
 ·intro xs a vs L h _ ih p e
  unfold pyD at e
  obtain ⟨ps,e1,rfl⟩:=ue.mp e
  exact .lst (SqL.of h) (ih ps e1)
 ·intro xs a vs L h _ ih p e
  unfold pyD at e
  obtain ⟨ps,e1,rfl⟩:=ue.mp e
  exact .lst h.sq (ih ps e1)
 ·intro _ _ _ _ _ _ _ _ p e;unfold pyD at e;exact nsE e
 ·intro _ _ _ _ _ _ _ _ p e;unfold pyD at e;exact nsE e
 ·intros;rename_i e;unfold pyD at e;exact nsE e
 ·intro ps e;unfold jZ at e;cases e;exact .nil
 ·intro d v L ds vs L' _ _ i1 i2 ps e
  unfold jZ at e
  cases h1:pyD d with
  | none=>rw [h1] at e;exact nsE e
  | some p =>
   cases h2:jZ ds with
   | none=>rw [h1,h2] at e;exact nsE e
   | some qs=>rw [h1,h2] at e;cases e;exact .cons (i1 p h1) (i2 qs h2)
noncomputable def eqP (a b:D):Option Bool:=match pyD a,pyD b with
 | some p,some q=>if p.canLay0 && q.canLay0 && decide (min p.depth q.depth<=30) then some (PyData.eqv p q) else none
 | _,_=>none
noncomputable def eqA (a b:D):Option Bool:=match eqS a b with
 | some k=>some k
 | none=>eqP a b
noncomputable abbrev eqX (a b:D):Option (D × Fl):=(eqA a b).map fun k=>(.bl k,.z)
noncomputable abbrev neX (a b:D):Option (D × Fl):=(eqA a b).map fun k=>(.bl (!k),.z)
noncomputable def rEqP:R2:=fun x y H Q=>∃ p q,DV X.K H x p/\DV X.K H y q/\p.canLay0=true/\q.canLay0=true/\min p.depth q.depth<=30/\Q (.bl (PyData.eqv p q)) H
noncomputable def rNeP:R2:=fun x y H Q=>∃ p q,DV X.K H x p/\DV X.K H y q/\p.canLay0=true/\q.canLay0=true/\min p.depth q.depth<=30/\Q (.bl (!PyData.eqv p q)) H
theorem cZ (hu:X.A.units+64 < cLine):OpR X (compareOp .Eq) (fun x y H Q=>rEq x y H Q\/rEqP (X:=X) x y H Q):=by
 intro pins s σ H x y v u Q I rx ry h
 rcases h with h | ⟨p,q,h1,h2,h3,h4,h5,hq⟩
 ·exact op_eq pins s σ H x y v u Q I rx ry h
 ·obtain ⟨as,ra⟩:=DV.reads I h1 rx
  obtain ⟨bs,rb⟩:=DV.reads I h2 ry
  exact PySem.SeqAt.compareEq_reads ra rb h3 h4 (by omega) ⟨.bl _,H,I,rfl,hq⟩
theorem i9 (hu:X.A.units+64 < cLine):OpR X (compareOp .NotEq) (fun x y H Q=>rNe x y H Q\/rNeP (X:=X) x y H Q):=by
 intro pins s σ H x y v u Q I rx ry h
 rcases h with h | ⟨p,q,h1,h2,h3,h4,h5,hq⟩
 ·exact op_ne pins s σ H x y v u Q I rx ry h
 ·obtain ⟨as,ra⟩:=DV.reads I h1 rx
  obtain ⟨bs,rb⟩:=DV.reads I h2 ry
  exact PySem.SeqAt.compareNe_reads ra rb h3 h4 (by omega) ⟨.bl _,H,I,rfl,hq⟩
set_option tactic.hygienic true in
theorem lZ {a b:D} {k:Bool} (e:eqP a b=some k):∃ p q,pyD a=some p/\pyD b=some q/\p.canLay0=true/\q.canLay0=true/\min p.depth q.depth<=30/\k=PyData.eqv p q:=by
 unfold eqP at e
 cases h1:pyD a with
 | none=>rw [h1] at e;exact nsE e
 | some p =>
  cases h2:pyD b with
  | none=>rw [h1,h2] at e;exact nsE e
  | some q =>
   rw [h1,h2] at e
   dsimp only at e
   split at e
   ·rename_i h
    cases e
    simp only [Bool.and_eq_true,decide_eq_true_eq] at h
    exact ⟨p,q,rfl,rfl,h.1.1,h.1.2,h.2,rfl⟩
   ·exact nsE e
theorem c0:OpD X.K (fun x y H Q=>rEq x y H Q\/rEqP (X:=X) x y H Q) eqX:=fun a b H Q p ra rb e q=>by
 obtain ⟨k,h1,h2⟩:=ue.mp e
 subst h2
 unfold eqA at h1
 cases hs:eqS a.d b.d with
 | some k' =>
  rw [hs] at h1
  cases h1
  obtain ⟨s,hk⟩:=oY ra.rep rb.rep hs
  exact .inl ⟨s,by rw [<- hk];exact q ⟨.bl k,.bl k,[],.z⟩ H (cu (.bl k)) rfl rfl⟩
 | none =>
  rw [hs] at h1
  obtain ⟨p,p',e1,e2,e3,e4,e5,rfl⟩:=lZ h1
  exact .inr ⟨p,p',ra.rep.dv p e1,rb.rep.dv p' e2,e3,e4,e5,q ⟨.bl _,.bl _,[],.z⟩ H (cu (.bl _)) rfl rfl⟩
theorem ja:OpD X.K (fun x y H Q=>rNe x y H Q\/rNeP (X:=X) x y H Q) neX:=fun a b H Q p ra rb e q=>by
 obtain ⟨k,h1,h2⟩:=ue.mp e
 subst h2
 unfold eqA at h1
 cases hs:eqS a.d b.d with
 | some k' =>
  rw [hs] at h1
  cases h1
  obtain ⟨s,hk⟩:=oY ra.rep rb.rep hs
  exact .inl ⟨s,by rw [<- hk];exact q ⟨.bl (!k),.bl (!k),[],.z⟩ H (cu (.bl _)) rfl rfl⟩
 | none =>
  rw [hs] at h1
  obtain ⟨p,p',e1,e2,e3,e4,e5,rfl⟩:=lZ h1
  exact .inr ⟨p,p',ra.rep.dv p e1,rb.rep.dv p' e2,e3,e4,e5,q ⟨.bl _,.bl _,[],.z⟩ H (cu (.bl _)) rfl rfl⟩
end
end L3
end
section
namespace L3
open PySem L2
set_option tactic.hygienic true in
theorem tU {P:Program} {w:World} {K:FG} {mg:Str->Option Value} {base:Heap} {x:Str} {st:Stmt} {k:Nat} {N ps:List Str} {mask:List Bool} {m:SM} {nn:Nat} {f:Addr} {fd:FuncData} (F:Fun K x x st f fd) (S:FnScope N ps (ah st)) (hml:mask.length=ps.length) (hnn:N.length=nn)
  (body:∀ (cdv:Value) (A:Around) (outer:List Env) (s:Shared) (H:Hp) (E:XK) (f:Addr) (G:Gm),Room k (A.deeper (PyProof.Rows.envOfC x (ah st) s.heap.objs.size f cdv))->G.pr=prM mask->RSs (kJ CX0 P w K mg base N x (ah st) f cdv A outer s H E).nox G noX (aN st) m) :
  FnOk P w K mg base CX0 (k+1) f fd ps (mn K (fnM mask nn m)):=by
 refine F.ok S (fun vs H Q E h=>?_) fun cdv A outer s H vs Q E hr h=>?_
 ·obtain ⟨ps',p,fs,rfl,_,_,hF,_⟩:=h
  unfold fnM at hF
  rw [uo] at hF ⊢
  split at hF
  ·rename_i e;rw [e,hml]
  ·exact nsE hF
 ·have hle:mask.length<=nn:=by
   rw [hml,<- hnn]
   have:=congrArg List.length S.pre
   rw [uJ] at this
   omega
  obtain ⟨G,hG,ht⟩:=lY hle h
  subst hnn
  exact ⟨_,(body cdv A outer s H E f G hr hG).h,ht⟩
noncomputable def nE (K:FG):Sp:=fun vs H Q _=>∃ (a:Addr) (ns:List Int),vs=[.ref a]/\SqL K H a (ns.map V.int)/\qQ H/\ns.length<=63/\∀ H',Q (.bl true) H'
theorem ir {K:FG} {H:Hp}:∀ ns:List Int,Reps (Rep K H) (ns.map D.int) (ns.map V.int) []
 | []=>.nil
 | n :: ns=>.cons (L:=[]) (.int n) (ir ns)
theorem qE {K:FG} {F:Fn} (hF:∀ ns:List Int,ns.length<=63->∃ fs,F [(.fls (ns.map .int),.z)]=some (.ok (.bl true,.z),fs)) {vs:List V} {H:Hp} {Q:VK} {E:XK} (h:nE K vs H Q E):mn K F vs H Q E:=by
 obtain ⟨a,ns,rfl,hS,hO,hn,q⟩:=h
 obtain ⟨fs,e⟩:=hF ns hn
 have fz:FzL K H a (ns.map V.int):=by
  rcases hS with (h | h) | h
  ·rcases hO a with z | ⟨o,xs,z⟩
   ·rw [h] at z;cases z
   ·rw [h] at z;cases z
  ·exact .inl h
  ·exact .inr h
 refine ⟨[⟨.fls (ns.map .int),.ref a,[],.z⟩],(.bl true,.z),fs,rfl,fun p hp=>?_,.cons (fun _ h=>by cases h) .nil,e,fun x qs H' B x1 x2 _=>?_⟩
 ·rw [uM.mp hp]
  exact ⟨.lstF fz (ir ns),fun h=>absurd rfl h⟩
 ·have r:=B.rep
  rw [x1] at r
  have inv:∀ {v:V} {L:List Addr},Rep K H' (.bl true) v L->v=.bl true:=fun r=>by cases r;rfl
  rw [inv r]
  exact q H'
end L3
end
section
namespace L3
open PySem L2
section
variable {K:FG} {G G0:Gm} {W W0:D->Sto->Prop} {H H':Hp} {σ:St} {ρ ρ':Sto} {T T':List It3} {g:Nat->Option It3} {x y z:It3} {α β:Type} {X:Cx} {v:V} {d:D} {L:List Addr}
noncomputable def c5:List D->Option (List Int)
 | []=>some []
 | .int i :: ds=>(c5 ds).map (i :: ·)
 | _=>none
set_option tactic.hygienic true in
theorem fj:∀ {ds:List D} {ns:List Int},c5 ds=some ns->ds=ns.map D.int
 | [],ns,e=>by cases e;rfl
 | d :: ds,ns,e=>by
  cases d <;> try (exact nsE e)
  rename_i b
  obtain ⟨r,h1,h2⟩:=ue.mp (show (c5 ds).map (b :: ·)=some ns from e)
  subst h2
  rw [fj h1];rfl
theorem Reps.ints:∀ {ns:List Int} {vs:List V} {L:List Addr},Reps (Rep K H) (ns.map D.int) vs L->vs=ns.map V.int
 | [],_,_,.nil=>rfl
 | b :: bs,_,_,.cons r rs=>by
  rw [Reps.ints rs]
  cases r;rfl
noncomputable def oJ:List Int->Option Int
 | []=>none
 | x :: xs=>some (xs.foldl (fun a b=>if b < a then b else a) x)
noncomputable def oB:List Int->Option Int
 | []=>none
 | x :: xs=>some (xs.foldl (fun a b=>if a < b then b else a) x)
theorem fB:∀ (xs:List Int) (x:Int),(xs.foldl (fun a b=>if b < a then b else a) x) ∈ x :: xs/\∀ n ∈ x :: xs,(xs.foldl (fun a b=>if b < a then b else a) x)<=n
 | [],x=>⟨ua,fun n h=>by simp at h;subst h;exact Int.le_refl _⟩
 | y :: xs,x=>by
  obtain ⟨h1,h2⟩:=fB xs (if y < x then y else x)
  rw [List.foldl_cons]
  refine ⟨?_,fun n hn=>?_⟩
  ·rcases ui.mp h1 with h | h
   ·rw [h];split <;> simp
   ·exact ub _ (ub _ h)
  ·have h3:=h2 _ ua
   have h4:(if y < x then y else x)<=x/\(if y < x then y else x)<=y:=by split <;> omega
   rcases ui.mp hn with h | hn
   ·subst h;exact Int.le_trans h3 h4.1
   ·rcases ui.mp hn with h | hn
    ·subst h;exact Int.le_trans h3 h4.2
    ·exact h2 n (ub _ hn)
theorem gL:∀ (xs:List Int) (x:Int),(xs.foldl (fun a b=>if a < b then b else a) x) ∈ x :: xs/\∀ n ∈ x :: xs,n<=(xs.foldl (fun a b=>if a < b then b else a) x)
 | [],x=>⟨ua,fun n h=>by simp at h;subst h;exact Int.le_refl _⟩
 | y :: xs,x=>by
  obtain ⟨h1,h2⟩:=gL xs (if x < y then y else x)
  rw [List.foldl_cons]
  refine ⟨?_,fun n hn=>?_⟩
  ·rcases ui.mp h1 with h | h
   ·rw [h];split <;> simp
   ·exact ub _ (ub _ h)
  ·have h3:=h2 _ ua
   have h4:x<=(if x < y then y else x)/\y<=(if x < y then y else x):=by split <;> omega
   rcases ui.mp hn with h | hn
   ·subst h;exact Int.le_trans h4.1 h3
   ·rcases ui.mp hn with h | hn
    ·subst h;exact Int.le_trans h4.2 h3
    ·exact h2 n (ub _ hn)
theorem mO {ns:List Int} {m:Int} (h:oJ ns=some m):ns ≠ []/\∀ k,k ∈ ns->(∀ n ∈ ns,k<=n)->k=m:=by
 cases ns with
 | nil=>exact nsE h
 | cons x xs =>
  cases h
  obtain ⟨h1,h2⟩:=fB xs x
  refine ⟨by simp,fun k hk hm=>?_⟩
  have a:=hm _ h1
  have b:=h2 k hk
  omega
theorem j6 {ns:List Int} {m:Int} (h:oB ns=some m):ns ≠ []/\∀ k,k ∈ ns->(∀ n ∈ ns,n<=k)->k=m:=by
 cases ns with
 | nil=>exact nsE h
 | cons x xs =>
  cases h
  obtain ⟨h1,h2⟩:=gL xs x
  refine ⟨by simp,fun k hk hm=>?_⟩
  have a:=hm _ h1
  have b:=h2 k hk
  omega
noncomputable def sF (g:List Int->Option Int):D->Option (D × Fl)
 | .lst xs=>(c5 xs).bind fun ns=>(g ns).map fun m=>(.int m,.z)
 | .tup xs=>(c5 xs).bind fun ns=>(g ns).map fun m=>(.int m,.z)
 | _=>none
noncomputable abbrev rj:=c1 (sF oJ)
noncomputable abbrev j9:=c1 (sF oB)
noncomputable def nX (K:FG) (P:List Int->Int->Prop):List V->Hp->VK->Prop:=fun xs H Q=>(∃ (l:Addr) (ns:List Int),xs=[.ref l]/\SqL K H l (ns.map V.int)/\ns ≠ []/\∀ m,m ∈ ns->P ns m->Q (.int m) H)\/(∃ (l:Addr) (ns:List Int),xs=[.ref l]/\SqT K H l (ns.map V.int)/\ns ≠ []/\∀ m,m ∈ ns->P ns m->Q (.int m) H)
set_option tactic.hygienic true in
theorem pe {g:List Int->Option Int} {P:List Int->Int->Prop} (hg:∀ ns m,g ns=some m->ns ≠ []/\∀ k,k ∈ ns->P ns k->k=m):dg K (nX K P) (c1 (sF g)):=fun ys H Q p ra e q=>by
 obtain ⟨y,rfl,e2⟩:=gY e
 clear e
 have e:=e2
 clear e2
 have rr:=(ra y ua).rep
 obtain ⟨da,va,La,fa⟩:=y
 dsimp only at rr e
 have key:∀ {xs:List D} {vs:List V} {L:List Addr},Reps (Rep K H) xs vs L->((c5 xs).bind fun ns=>(g ns).map fun m=>((.int m,.z):D × Fl))=some p->∃ ns m,vs=ns.map V.int/\g ns=some m/\p=(.int m,.z):=fun {xs vs L} rs e=>by
  obtain ⟨ns,h1,h2⟩:=uL.mp e
  obtain ⟨m,h3,h4⟩:=ue.mp h2
  have:=fj h1
  subst this
  exact ⟨ns,m,rs.ints,h3,h4.symm⟩
 cases da <;> try (exact nsE e)
 ·rename_i xs
  obtain ⟨pa,vs,rfl,ha,rs⟩:=rr.view
  obtain ⟨ns,m,rfl,h1,rfl⟩:=key rs e
  obtain ⟨h2,h3⟩:=hg ns m h1
  exact .inr ⟨pa,ns,rfl,SqT.of ha,h2,fun k hk hp=>by rw [h3 k hk hp];exact q ⟨_,_,[],.z⟩ H (cu (.int _)) rfl rfl⟩
 ·rename_i xs
  obtain ⟨pa,vs,La,rfl,rfl,ha,rs⟩:=rr.view
  obtain ⟨ns,m,rfl,h1,rfl⟩:=key rs e
  obtain ⟨h2,h3⟩:=hg ns m h1
  exact .inl ⟨pa,ns,rfl,SqL.of ha,h2,fun k hk hp=>by rw [h3 k hk hp];exact q ⟨_,_,[],.z⟩ H (cu (.int _)) rfl rfl⟩
theorem qK:dg K (nX K fun ns m=>∀ n ∈ ns,m<=n) rj:=pe (P:=fun ns m=>∀ n ∈ ns,m<=n) fun _ _=>mO
theorem gj:dg K (nX K fun ns m=>∀ n ∈ ns,n<=m) j9:=pe (P:=fun ns m=>∀ n ∈ ns,n<=m) fun _ _=>j6
theorem m6 (hc:X.calm=true):CallR X (.builtin "min") (nX X.K fun ns m=>∀ n ∈ ns,m<=n):=(m5 hc).or (m4 hc)
theorem dI (hc:X.calm=true):CallR X (.builtin "max") (nX X.K fun ns m=>∀ n ∈ ns,n<=m):=(m9 hc).or (m8 hc)
end
end L3
end
section
namespace L3
open PySem L2
end L3
end
section
namespace L3
open PySem L2
section
variable {K:FG} {G G0:Gm} {W W0:D->Sto->Prop} {H H':Hp} {σ:St} {ρ ρ':Sto} {T T':List It3} {g:Nat->Option It3} {x y z:It3} {α β:Type} {X:Cx} {v:V} {d:D} {L:List Addr}
noncomputable def qY (g:List Int->Option Int):D->D->Option (D × Fl)
 | .lst xs,.non=>(c5 xs).map fun ns=>match g ns with
  | some m=>(.int m,.z)
  | none=>(.non,.z)
 | .lst xs,.int k=>(c5 xs).map fun ns=>match g ns with
  | some m=>(.int m,.z)
  | none=>(.int k,.z)
 | _,_=>none
noncomputable abbrev maxD:=qY oB
theorem qk {g:List Int->Option Int} {P:List Int->Int->Prop} (hg:∀ ns m,g ns=some m->ns ≠ []/\∀ k,k ∈ ns->P ns k->k=m) (h0:∀ ns,g ns=none->ns=[]):OpD K (fun x d H Q=>lF K P x d H Q) (qY g):=fun a b H Q p ra rb e q=>by
 obtain ⟨da,va,La,fa⟩:=a
 obtain ⟨db,vb,Lb,fb⟩:=b
 obtain ⟨ra,oa⟩:=ra
 obtain ⟨rb,ob⟩:=rb
 dsimp only at ra rb e
 cases da with
 | lst xs =>
  obtain ⟨pa,vs,La,rfl,rfl,ha,rs⟩:=ra.view
  have key:∀ (dd:D) (dv:V),Rep K H dd dv []->((c5 xs).map fun ns=>match g ns with | some m=>((.int m,.z):D × Fl) | none=>(dd,.z))=some p->lF K P (.ref pa) dv H Q:=fun dd dv rd e=>by
   obtain ⟨ns,h1,h2⟩:=ue.mp e
   have:=fj h1
   subst this
   have:=rs.ints
   subst this
   refine ⟨pa,ns,rfl,SqL.of ha,fun hn=>?_,fun m hm hp=>?_⟩
   ·cases hgn:g ns with
    | some m=>exact absurd hn (hg ns m hgn).1
    | none =>
     rw [hgn] at h2
     subst h2
     exact q ⟨dd,dv,[],.z⟩ H (cu rd) rfl rfl
   ·cases hgn:g ns with
    | none=>rw [h0 ns hgn] at hm;cases hm
    | some m' =>
     rw [hgn] at h2
     subst h2
     rw [(hg ns m' hgn).2 m hm hp]
     exact q ⟨.int m',.int m',[],.z⟩ H (cu (.int _)) rfl rfl
  cases db with
  | non =>
   obtain ⟨rfl,rfl⟩:=rb.view
   exact key .non .non .non e
  | int k =>
   obtain ⟨rfl,rfl⟩:=rb.view
   exact key (.int k) (.int k) (.int k) e
  | _=>exact nsE e
 | _=>first | exact nsE e | (cases db <;> exact nsE e)
theorem ql:OpD K (fun x d H Q=>lF K (fun ns m=>∀ n ∈ ns,n<=m) x d H Q) maxD:=qk (fun _ _=>j6) fun ns h=>by cases ns with | nil=>rfl | cons=>cases h
theorem sG {id:String} {nm:Str} {e d:Expr} {ma mb:EM} {p pos kpos:Pos} {r:V->V->Hp->VK->Prop} {f:D->D->Option (D × Fl)} (hrun:∀ {pins:List (Addr × Obj)} {s:Shared} {σ:St} {H:Hp} {x d:V} {u ud:Value} {Q:VK},Inv X pins σ H s->RelV x u->RelV d ud->r x d H Q->wpAny (model X.prog X.w) X.A (call (.builtin id) [u] [("default",ud)]) (EP X pins σ Q) X.xe s) (ho:OpD X.K (fun x d H Q=>r x d H Q) f)
  (hg:Gl X nm) (hm:X.mg nm=none) (hv:bootBuiltins nm=some (.builtin id)) (he:RE X G0 W0 e ma) (hd:RE X G0 W0 d mb) (hn:nm ≠ "__name__") (hdb:(nm == ("__debug__":Str))=false)
  (hs:backTo pos (starEach [e] X.env)=(false,eval e X.env) :: backTo pos (starEach [] X.env)) (hs0:backTo pos (starEach [] X.env)=[]) (hplain:(backTo pos (starEach [e] X.env)).any (·.1)=false)
  (hall:(backToKw pos (keywordEach [⟨some "default",d,kpos⟩] X.env)).all (·.1.isSome)=true) (hkw:(backToKw pos (keywordEach [⟨some "default",d,kpos⟩] X.env)).any (·.1.isNone)=false) (hks:(backToKw pos (keywordEach [⟨some "default",d,kpos⟩] X.env)).filterMap (·.1)=(["default"]:List Str)) :
  RE X G0 W0 (.Call (.Name nm p) [e] [⟨some "default",d,kpos⟩] pos) (ag f ma mb):=⟨PE.imp (sY hrun hg hm hv he.h hd.h hn hdb hs hs0 hplain hall hkw hks) fun _ _ _ h=>gl ho h⟩
theorem Reps.rep {ds:List D} {vs:List V} {L:List Addr} (r:Reps (Rep K H) ds vs L):∀ n:Nat,∃ L',Reps (Rep K H) (List.replicate n ds).flatten (List.replicate n vs).flatten L'/\∀ c ∈ L',c ∈ L
 | 0=>⟨[],.nil,fun _ h=>by cases h⟩
 | n+1=>by
  obtain ⟨L',h1,h2⟩:=Reps.rep r n
  refine ⟨L ++ L',?_,fun c hc=>?_⟩
  ·rw [List.replicate_succ,List.replicate_succ,List.flatten_cons,List.flatten_cons];exact r.append h1
  ·rcases ul.mp hc with h | h
   ·exact h
   ·exact h2 c h
noncomputable def pE (i j:Int):Prop:=0 < j/\j < 1267650600228229401496703205376
theorem oq:OpR X (binaryOp .FloorDiv) (rI pE fun i j=>.int (i / j)):=opI fun i j _ _ _ _ _ hc q=>by
 have h1:(0:Int) < j:=hc.1
 have h2:j < 1267650600228229401496703205376:=hc.2
 refine PyProof.Rows.floordiv_int (by omega) (by rw [Int.fdiv_eq_ediv_of_nonneg i (by omega)];exact q) (.inl (PyProof.noPylong_of_log2 ?_))
 have h3:j.natAbs < 2 ^ 100:=by omega
 exact Nat.lt_trans ((Nat.log2_lt (by omega)).mpr h3) (by decide)
noncomputable abbrev tY:=dB (fun _ j=>decide (0 < j/\j < 1267650600228229401496703205376)) fun i j=>.int (i / j)
theorem qo:OpD K (rI pE fun i j=>.int (i / j)) tY:=eU (fun i j h=>by simpa [pE] using h) fun i j _=>.int _
end
end L3
end
section
namespace L3
open PySem L2
section
variable {K:FG} {G G0:Gm} {W W0:D->Sto->Prop} {H H':Hp} {σ:St} {ρ ρ':Sto} {T T':List It3} {g:Nat->Option It3} {x y z:It3} {α β:Type} {X:Cx} {v:V} {d:D} {L:List Addr}
noncomputable def sA (i j:Nat) (ms:M3 (List R3)):SM:=af ms fun rs=>af (gives rs) fun ds=>fun ρ=>match ds with
 | [a,b]=>if i < ρ.length/\j < ρ.length then some (.ok .nx,(ρ.set i (some (a,.z))).set j (some (b,.z))) else none
 | _=>none
theorem Wf.again {y:It3} (w:Wf K G H σ ρ T g) (hy:Itm T g y) (hz:y.f=.z):Wf K G H σ ρ (y :: T) g :=
 w.push (Ks:=cz [y]) ⟨Same.refl _,(w.itm hy).rep,fun c hc=>.inr ⟨y,ua,hc,fun h=>absurd hz h⟩,fun h=>absurd hz h⟩ fun c h=>w.kids (fun u hu=>by rw [uM.mp hu];exact hy) h
set_option tactic.hygienic true in
theorem rT {i j:Nat} {ms:M3 (List R3)} {E:Ends} (hi:G0.pr i=false) (hj:G0.pr j=false) (h:tS K G0 W0 (sA i j ms) E σ H):tPar i j (tA K G0 W0 ms) E σ H:=by
 refine h.use fun G W le ρ T g r ρ' w e q=>?_
 refine tA.seq le w e q.err fun rs ρ1 e1 vs H1 Ts g1 w1 a1=>?_
 obtain ⟨ds,ρ2,g2,e2,_,w2,_,ys,hy,f1,f2⟩:=a1.gives w1 e1
 match ds,e2,ys,f1,hy,f2 with
 | [],e2,_,_,_,_=>exact nsE e2
 | [_],e2,_,_,_,_=>exact nsE e2
 | _ :: _ :: _ :: _,e2,_,_,_,_=>exact nsE e2
 | [a,b],e2,[],f1,_,_=>cases f1
 | [a,b],e2,[_],f1,_,_=>cases f1
 | [a,b],e2,_ :: _ :: _ :: _,f1,_,_=>cases f1
 | [a,b],e2,[y1,y2],f1,hy,f2 =>
  have e2:(if i < ρ2.length/\j < ρ2.length then some (Except.ok Flw.nx,(ρ2.set i (some (a,Fl.z))).set j (some (b,Fl.z))) else none)=some (r,ρ'):=e2
  split at e2
  ·rename_i hl
   cases e2
   obtain ⟨i1,z1⟩:=hy y1 ua
   obtain ⟨i2,z2⟩:=hy y2 (ub _ ua)
   have w3:=w2.again i2 z2
   have i1':Itm (y2 :: (Ts.map bT ++ T)) g2 y1:=i1.imp id fun h=>ub _ h
   have w4:=w3.again i1' z1
   have w5:=w4.store (f:=.z) hl.1 (by rw [le.pr];exact hi) (.inr rfl) (by intro h;cases h)
   have w6:=w5.store (f:=.z) (i:=j) (by rw [List.length_set];exact hl.2) (by rw [le.pr];exact hj) (.inr rfl) (by intro h;cases h)
   have w7:=w6.sub (uu (Ts.map bT) T)
   have f1':y1.d=a/\y2.d=b:=by injection f1 with p q;injection q with q _;exact ⟨p,q⟩
   rw [f1'.1,f1'.2] at w7
   exact ⟨y1.v,y2.v,f2.symm,q _ _ _ w7⟩
  ·exact nsE e2
theorem sC (i j:Nat) {x y:Str} {a b:Expr} {ms:M3 (List R3)} {px py pt pos:Pos} {kt k2 pt2} (hc:X.calm=true) (hN:X.N.Nodup) (hi:X.N[i]?=some x) (hj:X.N[j]?=some y) (hij:i ≠ j)
  (hx:X.env.scope.names.lookup x=some .local) (hy:X.env.scope.names.lookup y=some .local) (ha:RA X G0 W0 [a,b] ms)
  (hw:swappedStores [.Tuple [.Name x px,.Name y py] kt pt] (.Tuple [a,b] k2 pt2) X.env=pure (some [x,y]))
  (hs:swapsWithSole [.Tuple [.Name x px,.Name y py] kt pt] (.Tuple [a,b] k2 pt2) pos.line X.env=pure false) (pi:G0.pr i=false) (pj:G0.pr j=false) :
  RS X G0 W0 (.Assign [.Tuple [.Name x px,.Name y py] kt pt] (.Tuple [a,b] k2 pt2) pos) (sA i j ms):=⟨PS.imp (sN hc hN hi hj hij hx hy ha.h hw hs) fun _ _ _ h=>rT pi pj h⟩
end
end L3
end
section
namespace L3
open PySem L2
section
variable {K:FG} {G G0:Gm} {W W0:D->Sto->Prop} {H H':Hp} {σ:St} {ρ ρ':Sto} {T T':List It3} {g:Nat->Option It3} {x y z:It3} {α β:Type} {X:Cx}
noncomputable def mr (hi:Int) (n:Nat):List D:=(List.range n).map fun (k:Nat)=>D.int (hi - (k:Int))
theorem mi {H1:Hp} {ys:List It3} {hi:Int} {n:Nat}:Walk K (Itd hi n) H1 ys (mr hi n):=by
 refine ⟨[],fun x hx=>(by cases hx),fun M H' _ _ _=>⟨fun i d hd=>?_,?_⟩⟩
 ·unfold mr at hd
  rw [ux] at hd
  obtain ⟨k,a,b⟩:=ue.mp hd
  obtain ⟨hk,e⟩:=uq.mp a
  rw [List.getElem_range] at e
  subst e
  rw [List.length_range] at hk
  refine ⟨hk,fun x H'' ⟨e1,e2⟩=>?_⟩
  subst e1
  exact ⟨⟨d,x,[],.z⟩,cu (by rw [<- b,e2];exact .int _),rfl,rfl,rfl⟩
 ·show n<=(mr hi n).length
  unfold mr
  simp
noncomputable def nM:List D->Option (List D)
 | [.int i,.int j,.int c]=>if de i && de j && (c == -1) then some (mr i (i - j).toNat) else none
 | _=>none
set_option tactic.hygienic true in
theorem pK {ms:M3 (List R3)} {R:It->Hp->Prop} (h:tI K G0 W0 (bm nM ms) σ H R):rq (tA K G0 W0 ms) σ H R:=by
 obtain ⟨G,W,le,ρ,T,g,o,ρ',w,e,q⟩:=h
 have herr:∀ x,o=.error x->W x ρ':=fun x hx=>by subst hx;exact q
 refine tA.seq le w e herr fun rs ρ1 e1 vs H1 Ts g1 w1 a1=>?_
 obtain ⟨ds,d1,e2⟩:=bV e1
 obtain ⟨p,e3,rfl,rfl⟩:=bD e2
 obtain ⟨xs,e4,e5⟩:=ue.mp e3
 subst e5
 obtain ⟨ys,i1,f1,f2⟩:=a1.items w1 (fun x hx=>ug _ hx) d1
 subst f1 f2
 have inv:∀ {ds:List D},nM ds=some xs->∃ i j,ds=[.int i,.int j,.int (-1)]/\de i=true/\de j=true/\xs=mr i (i - j).toNat:=fun {ds} h=>by
  unfold nM at h
  split at h
  ·rename_i i j c
   split at h
   ·rename_i hh
    cases h
    simp only [Bool.and_eq_true,beq_iff_eq] at hh
    obtain ⟨⟨h1,h2⟩,rfl⟩:=hh
    exact ⟨i,j,rfl,h1,h2,rfl⟩
   ·exact nsE h
  ·exact nsE h
 obtain ⟨i,j,eds,hi,hj,rfl⟩:=inv e4
 match ys,eds,i1,a1 with
 | [],eds,_,_=>cases eds
 | [y],eds,_,_=>exact absurd (congrArg List.length eds) (by simp)
 | [y,z],eds,_,_=>exact absurd (congrArg List.length eds) (by simp)
 | y :: z :: u :: v :: r,eds,_,_=>exact absurd (congrArg List.length eds) (by simp)
 | [y,z,u],eds,i1,a1 =>
  have r1:=(w1.itm (i1 y ua)).rep
  have r2:=(w1.itm (i1 z (ub _ ua))).rep
  have r3:=(w1.itm (i1 u (ub _ (ub _ ua)))).rep
  have h1:y.d=.int i:=by injection eds
  have h2:z.d=.int j:=by injection eds with _ h;injection h
  have h3:u.d=.int (-1):=by injection eds with _ h;injection h with _ h;injection h
  rw [h1] at r1
  rw [h2] at r2
  rw [h3] at r3
  have hi:=of_decide_eq_true hi
  have hj:=of_decide_eq_true hj
  refine ⟨i,j,by show [y.v,z.v,u.v]=_;rw [r1.int_inv,r2.int_inv,r3.int_inv],⟨hi.1,hi.2,hj.1,hj.2⟩,?_⟩
  exact q _ H1 [] [] g1 [] (w1.sub (uu Ts T)) .nil (fun _ h=>by cases h) mi
theorem pX {tg a b c:Expr} {p pos:Pos} {ms:M3 (List R3)} (hg:Gl X "range") (hm:X.mg "range"=none) (ha:RA X G0 W0 [a,b,c] ms) (hs:starEach [a,b,c] X.env=(false,eval a X.env) :: starEach [b,c] X.env) (hpl:(backTo pos (starEach [b,c] X.env)).any (·.1)=false):RI X G0 W0 tg (.Call (.Name "range" p) [a,b,c] [] pos) (bm nM ms):=⟨PI.imp (my hg hm ha.h hs hpl) fun _ _ _ h=>pK h⟩
end
end L3
end
section
namespace L3
open PySem L2
section
variable {K:FG} {G G0:Gm} {W W0:D->Sto->Prop} {H H':Hp} {σ:St} {ρ ρ':Sto} {T T':List It3} {g:Nat->Option It3} {x y z:It3} {α β:Type} {X:Cx} {v:V} {d:D} {L:List Addr}
noncomputable def tN:Key->D
 | .inl i=>.int i
 | .inr s=>.str s
end
end L3
theorem L2.Room.hu {A:PySem.Around} {k:Nat} (hr:L2.Room k A):A.units+1 < PySem.cLine:=L2.hu_of hr
end
section
namespace L3
open PySem L2
section
variable {K:FG} {G G0:Gm} {W W0:D->Sto->Prop} {H H':Hp} {σ:St} {ρ ρ':Sto} {T T':List It3} {g:Nat->Option It3} {x y z:It3} {α β:Type} {X:Cx} {v:V} {d:D} {L:List Addr}
noncomputable abbrev so:=dB (fun i j=>decide (0<=j/\j<=1000000/\i.natAbs < 2 ^ 64)) fun i j=>.int (i * 2 ^ j.toNat)
theorem tq:OpD K (rI pD fun i j=>.int (i * 2 ^ j.toNat)) so:=eU (fun i j h=>by simpa [pD] using h) fun i j _=>.int _
theorem kE:∀ {kvs:List (List Key × D)} {ps:List (List Key × V)} {k:List Key},kvs.map (·.1)=ps.map (·.1)->(js kvs k).isSome=(dL ps k).isSome
 | [],[],k,_=>rfl
 | [],_ :: _,_,h=>by cases h
 | _ :: _,[],_,h=>by cases h
 | kv :: kvs,p :: ps,k,hk=>by
  have hk':kv.1=p.1/\kvs.map (·.1)=ps.map (·.1):=by simpa using hk
  have ih:=kE (k:=k) hk'.2
  unfold js at ih ⊢
  rw [List.find?_cons]
  by_cases h:kv.1=k
  ·rw [uD h,cM (hk'.1.symm.trans h)];rfl
  ·rw [uE h,cN (fun z=>h (hk'.1.trans z))];exact ih
noncomputable def inT:D->D->Option (D × Fl)
 | .tup ks,.dt kvs=>match bU ks with
  | some k=>some (.bl (js kvs k).isSome,.z)
  | none=>none
 | _,_=>none
theorem ow:OpD K rDIn inT:=fun a b H Q p ra rb e q=>by
 obtain ⟨da,va,La,fa⟩:=a
 obtain ⟨db,vb,Lb,fb⟩:=b
 have ra:=ra.rep
 have rb:=rb.rep
 dsimp only at ra rb
 cases da with
 | tup ks =>
  cases db with
  | dt kvs =>
   obtain ⟨pa,ws,rfl,ha,rs⟩:=ra.view
   obtain ⟨pb,ps,L0,rfl,rfl,hb,hk,rs'⟩:=rb.view
   have e:(match bU ks with | some k=>some ((.bl (js kvs k).isSome,.z):D × Fl) | none=>none)=some p:=e
   cases h1:bU ks with
   | none=>rw [h1] at e;exact nsE e
   | some k =>
    rw [h1] at e
    cases e
    have hw:=cH rs h1
    subst hw
    refine ⟨pb,dL ps k,rfl,DGet.t hb ha,?_⟩
    rw [<- kE hk]
    exact q ⟨.bl _,.bl _,[],.z⟩ H (cu (.bl _)) rfl rfl
  | _=>exact nsE e
 | _=>exact nsE e
noncomputable def qH (kvs:List (Key × D)) (k:Key):Option D:=(kvs.find? fun kv=>decide (kv.1=k)).map (·.2)
noncomputable def j1 (kvs:List (Key × D)) (k:Key) (v:D):List (Key × D) :=
 if (kvs.any fun kv=>decide (kv.1=k))=true then kvs.map (fun kv=>if kv.1=k then (kv.1,v) else kv) else kvs ++ [(k,v)]
theorem iH:∀ {kvs:List (Key × D)} {ps:List (Key × V)} {L:List Addr} {k:Key} {d:D},kvs.map (·.1)=ps.map (·.1)->Reps (Rep K H) (kvs.map (·.2)) (ps.map (·.2)) L->qH kvs k=some d->∃ v L',dL ps k=some v/\Rep K H d v L'/\∀ c ∈ L',c ∈ L
 | [],ps,L,k,d,hk,r,e=>by cases e
 | kv :: kvs,[],L,k,d,hk,r,e=>by cases hk
 | kv :: kvs,p :: ps,L,k,d,hk,r,e=>by
  have hk':kv.1=p.1/\kvs.map (·.1)=ps.map (·.1):=by simpa using hk
  generalize hr:(kv :: kvs).map (·.2)=xs at r
  generalize hp:(p :: ps).map (·.2)=ys at r
  cases r with
  | nil=>cases hr
  | cons a as =>
   cases hr
   cases hp
   unfold qH at e
   rw [List.find?_cons] at e
   by_cases h:kv.1=k
   ·rw [uD h] at e
    cases e
    exact ⟨_,_,cM (hk'.1.symm.trans h),a,fun c hc=>ug _ hc⟩
   ·rw [uE h] at e
    obtain ⟨v,L',h1,h2,h3⟩:=iH hk'.2 as e
    exact ⟨v,L',by rw [cN (fun z=>h (hk'.1.trans z))];exact h1,h2,fun c hc=>uh _ (h3 c hc)⟩
noncomputable def oW:D->D->Option (D × Fl)
 | .dk kvs,.int i=>(qH kvs (.inl i)).map fun d=>(d,.z)
 | _,_=>none
theorem lN:OpD K jY oW:=fun a b H Q p ra rb e q=>by
 obtain ⟨da,va,La,fa⟩:=a
 obtain ⟨db,vb,Lb,fb⟩:=b
 have ra0:=ra
 have ra:=ra.rep
 have rb:=rb.rep
 dsimp only at ra rb
 cases da with
 | dk kvs =>
  obtain ⟨pa,ps,L0,rfl,rfl,ha,hk,rs⟩:=ra.view
  cases db with
  | int i =>
   obtain ⟨rfl,rfl⟩:=rb.view
   obtain ⟨d,h2,h3⟩:=ue.mp (show (qH kvs (.inl i)).map (fun d=>(d,Fl.z))=some p from e)
   subst h3
   obtain ⟨v,L',g1,g2,g3⟩:=iH hk rs h2
   refine ⟨pa,v,rfl,by rw [<- g1];exact DGet.k (k:=.inl i) ha,q ⟨d,v,L',.z⟩ H (j4 g2 fun c hc=>?_) rfl rfl⟩
   exact ll (y:=⟨.dk kvs,.ref pa,pa :: L0,fa⟩) ua ra0 rfl rfl c (g3 c hc)
  | _=>exact nsE e
 | _=>exact nsE e
noncomputable def oI:EM:=bq (.val (.dk []) .u)
theorem nV {pos:Pos}:RE X G0 W0 (.Dict [] [] pos) oI:=⟨PE.imp oh fun σ H Q h=>by
 refine h.use fun G W le ρ T g o ρ' w e q=>?_
 cases e
 intro p hp
 refine q _ _ (Wf.done (Us:=[]) (ys:=[]) (x:=⟨.dk [],.ref p,[p],.u⟩) w (fun _ h=>(by cases h)) ⟨bp hp,.dK aS rfl .nil,fun c hc=>?_,fun _=>⟨rfl,p,[],rfl,rfl,(by simp),hp⟩⟩)
 rw [uM.mp hc];exact .inl hp⟩
noncomputable def lK:D->List D->Option (D × D)
 | .dk kvs,[.int i,v]=>if kvs.length < 16777216 then some (.dk (j1 kvs (.inl i) v),.non) else none
 | _,_=>none
theorem iy:∀ {kvs:List (Key × D)} {ps:List (Key × V)} {L L':List Addr} {k:Key} {d:D} {v:V},kvs.map (·.1)=ps.map (·.1)->Reps (Rep K H) (kvs.map (·.2)) (ps.map (·.2)) L->Rep K H d v L' ->
  ∃ L2,Reps (Rep K H) ((kvs.map fun kv=>if kv.1=k then (kv.1,d) else kv).map (·.2)) ((ps.map fun kv=>if kv.1=k then (kv.1,v) else kv).map (·.2)) L2/\(∀ c ∈ L2,c ∈ L\/c ∈ L')
 | [],[],L,L',k,d,v,hk,r,rd=>⟨[],.nil,fun c hc=>by cases hc⟩
 | [],_ :: _,_,_,_,_,_,hk,_,_=>by cases hk
 | _ :: _,[],_,_,_,_,_,hk,_,_=>by cases hk
 | kv :: kvs,p :: ps,L,L',k,d,v,hk,r,rd=>by
  have hk':kv.1=p.1/\kvs.map (·.1)=ps.map (·.1):=by simpa using hk
  generalize hr:(kv :: kvs).map (·.2)=xs at r
  generalize hp:(p :: ps).map (·.2)=ys at r
  cases r with
  | nil=>cases hr
  | @cons _ _ L1 _ _ L1' a as =>
   cases hr
   cases hp
   obtain ⟨L2,h1,h2⟩:=iy (k:=k) hk'.2 as rd
   by_cases h:kv.1=k
   ·refine ⟨L' ++ L2,?_,fun c hc=>?_⟩
    ·simp only [uC,if_pos h,if_pos (hk'.1.symm.trans h)]
     exact .cons rd h1
    ·rcases ul.mp hc with z | z
     ·exact .inr z
     ·rcases h2 c z with y | y
      ·exact .inl (uh _ y)
      ·exact .inr y
   ·refine ⟨L1 ++ L2,?_,fun c hc=>?_⟩
    ·simp only [uC,if_neg h,if_neg (fun z=>h (hk'.1.trans z))]
     exact .cons a h1
    ·rcases ul.mp hc with z | z
     ·exact .inl (ug _ z)
     ·rcases h2 c z with y | y
      ·exact .inl (uh _ y)
      ·exact .inr y
theorem ni {kvs:List (Key × D)} {ps:List (Key × V)} {k:Key} (hk:kvs.map (·.1)=ps.map (·.1)):(kvs.any fun kv=>decide (kv.1=k))=ps.any fun kv=>decide (kv.1=k):=by
 have h1:(kvs.any fun kv=>decide (kv.1=k))=(kvs.map (·.1)).any fun x=>decide (x=k):=by rw [List.any_map];rfl
 have h2:(ps.any fun kv=>decide (kv.1=k))=(ps.map (·.1)).any fun x=>decide (x=k):=by rw [List.any_map];rfl
 rw [h1,h2,hk]
theorem iC {α:Type} {kvs:List (Key × α)} {k:Key} {d:α}:(kvs.map fun kv=>if kv.1=k then (kv.1,d) else kv).map (·.1)=kvs.map (·.1):=by
 rw [List.map_map]
 refine uU fun kv _=>?_
 show (if kv.1=k then (kv.1,d) else kv).1=kv.1
 split <;> rfl
theorem put1K {kvs:List (Key × D)} (a:D):lK (.dk kvs) [a]=none:=by cases a <;> rfl
theorem put3K {kvs:List (Key × D)} (a:D) {b c:D} {r:List D}:lK (.dk kvs) (a :: b :: c :: r)=none:=by cases a <;> rfl
theorem qv:MutD K (d7 iw) lK:=fun a d L0 as H Q p r m na ra nA e q=>by
 cases d with
 | dk kvs =>
  obtain ⟨_,ps,_,e1,e2,ha,hk,rs⟩:=r.view
  cases e1
  cases e2
  match as,e,ra,nA with
  | [],e,_,_=>exact nsE e
  | [y],e,_,_=>exact nsE ((put1K y.d).symm.trans e)
  | y :: _ :: _ :: _,e,_,_=>exact nsE ((put3K y.d).symm.trans e)
  | [k,y],e,ra,nA =>
   have rk:=ra k ua
   have ry:=ra y (ub _ ua)
   have ny:=nA y (ub _ ua)
   obtain ⟨kd,kv,kL,kf⟩:=k
   dsimp only at rk
   cases kd with
   | int i =>
    obtain ⟨rfl,rfl⟩:=rk.view
    have e:(if kvs.length < 16777216 then some (D.dk (j1 kvs (.inl i) y.d),D.non) else none)=some p:=e
    rcases Decidable.em (kvs.length < 16777216) with hl | hl
    ·rw [if_pos hl] at e
     cases e
     have hlen:kvs.length=ps.length:=by have:=congrArg List.length hk;simpa using this
     generalize hkey:(Sum.inl i:Key)=key
     have hkv:V.int i=kV key:=by rw [<- hkey];rfl
     show d7 iw (.ref a) [V.int i,y.v] H Q
     rw [hkv]
     refine ⟨kV key,y.v,rfl,a,_,rfl,DPut.k ha (by rw [<- hlen,<- szl];exact hl),?_⟩
     have ma:MutAt H a:=.inr (.inl ⟨_,ha⟩)
     have ry':Rep K (upd H a (.dK (bQ ps key y.v))) y.d y.v y.L:=ry.keep (M:=fun b=>b=a) (fun b o hb h=>by rw [aC h];exact hb) (fun b e=>by rw [e];exact ma) fun b hb e=>ny (by rw [<- e];exact hb)
     have keeps:Reps (Rep K (upd H a (.dK (bQ ps key y.v)))) (kvs.map (·.2)) (ps.map (·.2)) L0:=rs.keep (M:=fun b=>b=a) (fun b o hb h=>by rw [aC h];exact hb) (fun b e=>by rw [e];exact ma) fun b hb e=>na (by rw [<- e];exact hb)
     have fin:∃ L1,Reps (Rep K (upd H a (.dK (bQ ps key y.v)))) ((j1 kvs key y.d).map (·.2)) ((bQ ps key y.v).map (·.2)) L1/\(∀ c ∈ L1,c ∈ L0\/c ∈ y.L)/\(j1 kvs key y.d).map (·.1)=(bQ ps key y.v).map (·.1):=by
      generalize upd H a (HO.dK (bQ ps key y.v))=H2 at keeps ry' ⊢
      unfold j1 bQ
      rw [ni hk]
      split
      ·obtain ⟨L2,g1,g2⟩:=iy (k:=key) hk keeps ry'
       exact ⟨L2,g1,g2,by rw [iC,iC];exact hk⟩
      ·refine ⟨L0 ++ (y.L ++ []),?_,fun c hc=>?_,by rw [List.map_append,List.map_append,hk];rfl⟩
       ·rw [List.map_append,List.map_append]
        exact keeps.append (.cons ry' .nil)
       ·rcases ul.mp hc with z | z
        ·exact .inl z
        ·rw [List.append_nil] at z;exact .inr z
     obtain ⟨L1,g1,g2,g3⟩:=fin
     subst hkey
     exact q (.dK (bQ ps (.inl i) y.v)) L1 ⟨.non,.non,[],.z⟩ (.dK aS g3 g1) rfl (fun c hc=>(g2 c hc).imp id fun h=>⟨y,ub _ ua,h⟩) rfl rfl .non fun c hc=>by cases hc
    ·rw [if_neg hl] at e;exact nsE e
   | _=>exact nsE e
 | _=>exact nsE e
noncomputable def keysK:D->Option (List D)
 | .dk kvs=>some (kvs.map fun kv=>tN kv.1)
 | _=>none
noncomputable def jq (m:EM):IM:=af m fun r=>af (der r) fun d=>bA ((keysK d).map fun ds=>([r],ds))
theorem pZ {k:Key}:Rep K H (tN k) (kV k) []:=by cases k <;> constructor
theorem kW {H1:Hp} {y:It3} {a:Addr} {kvs:List (Key × D)} {ps:List (Key × V)} (ha:H1 a=some (.dK ps)) (hk:kvs.map (·.1)=ps.map (·.1)) (hy:a ∈ y.L):Walk K (Iti a ps.length) H1 [y] (kvs.map fun kv=>tN kv.1):=by
 refine ⟨[],fun x hx=>(by cases hx),fun M H' hm hkp hM=>?_⟩
 have h':H' a=some (.dK ps):=hkp a _ ha (hM y ua a hy)
 have hl:kvs.length=ps.length:=by have:=congrArg List.length hk;simpa using this
 refine ⟨fun i d hd=>?_,⟨ps,.inl h',rfl,by rw [uo,hl];exact uy _⟩⟩
 rw [ux] at hd
 obtain ⟨kv,h1,h2⟩:=ue.mp hd
 have hi:i < kvs.length:=(uq.mp h1).1
 obtain ⟨p,hp,hpk⟩:∃ p,ps[i]?=some p/\p.1=kv.1:=by
  have e:=congrArg (fun l=>l[i]?) hk
  simp only [ux,h1] at e
  obtain ⟨p,e1,e2⟩:=ue.mp e.symm
  exact ⟨p,e1,e2⟩
 refine ⟨⟨ps,.inl h',rfl,by omega⟩,fun x H'' ⟨e1,e2⟩=>?_⟩
 subst e1
 have hx:=e2 ps p (.inl h') hp
 subst hx
 exact ⟨⟨d,kV p.1,[],.z⟩,cu (by rw [<- h2,<- hpk];exact pZ),rfl,rfl,rfl⟩
theorem nw {m:EM} {R:It->Hp->Prop} (h:tI K G0 W0 (jq m) σ H R):oU (tE K G0 W0 m) σ H R:=by
 obtain ⟨G,W,le,ρ,T,g,o,ρ',w,e,q⟩:=h
 have herr:∀ x,o=.error x->W x ρ':=fun x hx=>by subst hx;exact q
 refine tE.seq le w e herr fun ra ρ1 e1 v H1 ⟨Ts,g1,w1,a1⟩=>?_
 obtain ⟨d,d1,e2⟩:=aX e1
 obtain ⟨p,e3,rfl,rfl⟩:=bD e2
 obtain ⟨ds,e4,e5⟩:=ue.mp e3
 subst e5
 obtain ⟨y,y1,y2,y3⟩:=a1.item2 w1 d1
 have hy:Itm (Ts ++ T) g1 y:=by
  rcases y3 with ⟨i,_,ei⟩ | h
  ·exact .inl ⟨i,ei⟩
  ·exact .inr (ug _ h)
 have ar:=(w1.itm hy).arg
 have qq:∀ J,Walk K J H1 [y] ds->R J H1:=fun J hw=>q J H1 [v] Ts g1 [y] w1 (by simpa using Ars.cons a1 .nil) (fun z hz=>by rw [uM.mp hz];exact y3) hw
 clear e1 e2 e3 q
 subst y1 y2
 obtain ⟨da,va,La,fa⟩:=y
 obtain ⟨rr,oo⟩:=ar
 dsimp only at rr e4
 cases da with
 | dk kvs =>
  obtain ⟨pa,ps,L0,rfl,rfl,ha,hk,rs⟩:=rr.view
  cases e4
  exact ⟨pa,ps,rfl,.inl ha,qq _ (kW ha hk ua)⟩
 | _=>exact nsE e4
theorem nN {tg l:Expr} {m:EM} (h:RE X G0 W0 l m):RI X G0 W0 tg l (jq m):=⟨PI.imp (n9 h.h) fun _ _ _ h=>nw h⟩
theorem iq {sts:List Stmt}:RSs X G0 W0 sts dY:=⟨fun pins s σ H D I h=>by
 obtain ⟨G,W,le,ρ,T,g,r,ρ',w,e,q⟩:=tS.open h
 cases e⟩
end
end L3
end
section
namespace Bn
open PySem L2 L3
theorem gJ {bnd:L3.D->Sto->Option Sto} {b:SM} (P:Nat->Sto->Prop):∀ {ds:List L3.D} {ρ:Sto} {k:Nat},P k ρ->(∀ i d ρ,ds[i]?=some d->P (k+i) ρ->∃ ρ1 ρ2,bnd d ρ=some ρ1/\(b ρ1=some (.ok .nx,ρ2)\/b ρ1=some (.ok .ct,ρ2))/\P (k+i+1) ρ2)->∃ ρ',dO bnd b ds ρ=some (.ok .nx,ρ')/\P (k+ds.length) ρ'
 | [],ρ,k,h0,_=>⟨ρ,rfl,h0⟩
 | d :: ds,ρ,k,h0,hs=>by
  obtain ⟨ρ1,ρ2,e1,e2,h1⟩:=hs 0 d ρ rfl h0
  obtain ⟨ρ',e3,h3⟩:=gJ P (ds:=ds) (ρ:=ρ2) (k:=k+1) h1 fun i d ρ hd hp=>by
   have:=hs (i+1) d ρ (by simpa using hd) (by rwa [show k+(i+1)=k+1+i by omega])
   rwa [show k+(i+1)+1=k+1+i+1 by omega] at this
  refine ⟨ρ',?_,by rw [uI,show k+(ds.length+1)=k+1+ds.length by omega];exact h3⟩
  unfold dO
  simp only [e1]
  rcases e2 with e2 | e2 <;> simp only [af,e2,e3]
theorem jU {lo:Int} {n i:Nat} {d:L3.D} (h:(dm lo n)[i]?=some d):i < n/\d=.int (lo+i):=by
 unfold dm at h
 rw [ux,ue] at h
 obtain ⟨j,h1,rfl⟩:=h
 have h2:=uq.mp h1
 obtain ⟨h3,h4⟩:=h2
 simp at h3 h4
 subst h4
 exact ⟨h3,rfl⟩
theorem bu {a b:SM} {ρ ρ1:Sto} {r:Option (Except L3.D Flw × Sto)} (h1:a ρ=some (.ok .nx,ρ1)) (h2:b ρ1=r):aI a b ρ=r:=by
 simp only [aI,af,h1]
 exact h2
theorem qN {xs:List L3.D} {i:Nat} {d:L3.D} (h:xs[i]?=some d):L2.atI xs (i:Int)=some d:=by
 obtain ⟨h1,h2⟩:=uq.mp h
 simp [L2.atI,ixN,h1,h2]
theorem oP {f:List L3.D->Option (List L3.D)} {ms:M3 (List R3)} {ρ ρ1 ρ2:Sto} {rs:List R3} {ds xs:List L3.D} (h1:ms ρ=some (.ok rs,ρ1)) (h2:c6 rs ρ1=some (.ok ds,ρ2)) (h3:f ds=some xs):bm f ms ρ=some (.ok ([],xs),ρ2):=by
 simp [bm,af,h1,h2,h3,bA]
theorem lC {b:Int} (hb:-1000<=b/\b<=1000) {n:Nat} (hn:b.toNat=n):d5 [.int b]=some (dm 0 n):=by
 have lm2:de b=true:=uD (by omega)
 show (if (de b)=true then some (dm 0 b.toNat) else none)=_
 rw [lm2,hn]
 exact if_pos rfl
end Bn
end
section
namespace Bn
open PySem L2 L3
section
variable {α:Type} {ρ ρ1 ρ2 ρ3:Sto} {ma mb mc m:EM} {ms:M3 (List R3)} {ra rb r:R3} {rs:List R3} {da db d:L3.D} {ds:List L3.D} {fl:Fl} {i n np:Nat} {sa sb:SM} {c cc:M3 Bool} {b b2:Bool} {x:Option (Except L3.D Flw × Sto)} {y:Option (Except L3.D R3 × Sto)}
theorem oQ {p:L3.D × Fl} (h:(ρ[i]?).join=some p):ac i ρ=some (.ok (.pl i),ρ):=by simp [ac,h]
theorem i_c:mC d ρ=some (.ok (.val d .z),ρ):=rfl
theorem i_bin {f:L3.D->L3.D->Option (L3.D × Fl)} (h1:ma ρ=some (.ok ra,ρ1)) (h2:mb ρ1=some (.ok rb,ρ2)) (h3:der ra ρ2=some (.ok da,ρ2)) (h4:der rb ρ2=some (.ok db,ρ2)) (h5:f da db=some (d,fl)):ag f ma mb ρ=some (.ok (.val d fl),ρ2):=by
 simp only [ag,af,h1,h2,h3,h4,bA,h5,uK]
theorem qG {f:List L3.D->Option (L3.D × Fl)} (h1:ms ρ=some (.ok rs,ρ1)) (h3:c6 rs ρ1=some (.ok ds,ρ1)) (h5:f ds=some (d,fl)):aE f ms ρ=some (.ok (.val d fl),ρ1):=by
 simp only [aE,af,h1,h3,bA,h5,uK]
theorem rn:aq ρ=some (.ok [],ρ):=rfl
theorem oT (h1:m ρ=some (.ok r,ρ1)) (h2:ms ρ1=some (.ok rs,ρ2)):ab m ms ρ=some (.ok (r :: rs),ρ2):=by
 simp only [ab,af,h1,h2,bq]
theorem tP {mk:List L3.D->L3.D} {f:Fl} (h1:ms ρ=some (.ok rs,ρ1)) (h2:gives rs ρ1=some (.ok ds,ρ2)) (h3:ds.length<=16777216):qz mk f ms ρ=some (.ok (.val (mk ds) f),ρ2):=by
 simp only [qz,af,h1,h2,bA,h3,if_true,uK]
theorem fk {F:Fn} {ps qs:List (L3.D × Fl)} (hF:F ps=some (.ok (d,fl),qs)) (h1:ms ρ=some (.ok rs,ρ1)) (h2:prs (frz (kH rs) ρ1) rs=some ps) (h3:qs.length=ps.length) (h4:back rs ps qs (frz (kH rs) ρ1) = ρ2):av F ms ρ=some (.ok (.val d fl),ρ2):=by
 simp only [av,af,h1,h2,hF,h3,if_true,h4]
theorem i_set {p:L3.D × Fl} (h1:m ρ=some (.ok r,ρ1)) (h2:eD r ρ1=some (.ok p,ρ2)) (h3:i < ρ2.length) (h4:ρ2.set i (some p) = ρ3):bH i m ρ=some (.ok .nx,ρ3):=by
 simp only [bH,af,h1,h2,h3,if_true,h4]
theorem i_asg {bnd:L3.D->Sto->Option Sto} {p:L3.D × Fl} (h1:m ρ=some (.ok r,ρ1)) (h2:eD r ρ1=some (.ok p,ρ2)) (h3:bnd p.1 ρ2=some ρ3):nH bnd m ρ=some (.ok .nx,ρ3):=by
 simp only [nH,af,h1,h2,h3,uK]
noncomputable def retF (np:Nat) (r:R3):SM:=bj np (bq r)
theorem oR (h1:m ρ=some (.ok r,ρ1)) (h2:retF np r ρ1=x):bj np m ρ=x:=by
 rw [<- h2]
 unfold retF
 simp only [bj,af,h1,bq]
theorem su (h1:sa ρ=some (.ok (.rt d fl),ρ1)):aI sa sb ρ=some (.ok (.rt d fl),ρ1):=by
 simp only [aI,af,h1,bq]
theorem i_cB (h1:m ρ=some (.ok r,ρ1)) (h2:der r ρ1=some (.ok (.bl b),ρ1)):cB m ρ=some (.ok b,ρ1):=by
 simp only [cB,af,h1,h2,bA,asB,uK]
theorem tQ (h1:c ρ=some (.ok b,ρ1)):eX c ρ=some (.ok (!b),ρ1):=by
 simp only [eX,af,h1,bq]
theorem rp (h1:c ρ=some (.ok b,ρ1)) (hb:b=true) (h2:sa ρ1=x):sIf c sa sb ρ=x:=by
 subst hb;simp only [sIf,af,h1,if_true];exact h2
theorem lV (h1:c ρ=some (.ok b,ρ1)) (hb:b=false) (h2:sb ρ1=x):sIf c sa sb ρ=x:=by
 subst hb;simp only [sIf,af,h1,uN,if_false];exact h2
theorem i_orF (h1:c ρ=some (.ok b,ρ1)) (hb:b=false) (h2:cc ρ1=some (.ok b2,ρ2)):cOr c cc ρ=some (.ok b2,ρ2):=by
 subst hb;simp only [cOr,af,h1,uN,if_false];exact h2
theorem i_sub {f:L3.D->List L3.D->Option (L3.D × L3.D)} {d2 d3 d4:L3.D} (h1:mb ρ=some (.ok rb,ρ1)) (h0:(ρ1[i]?).join=some (d,fl)) (h2:ma ρ1=some (.ok ra,ρ2)) (h3:gives [ra,rb] ρ2=some (.ok ds,ρ3)) (h4:(ρ3[i]?).join=some (d2,.u)) (h5:f d2 ds=some (d3,d4)):jR f i ma mb ρ=some (.ok .nx,ρ3.set i (some (d3,.u))):=by
 simp only [jR,af,h1,oQ h0,h2,h3,h4,h5]
theorem kT {mask:List Bool} {ps qs:List (L3.D × Fl)} (h1:ps.length=mask.length) (h0:gO n (List.zipWith qC mask ps) = ρ) (h2:sa ρ=some (.ok (.rt d fl),ρ1)) (h3:en ρ1 0 (List.zipWith qC mask ps)=some qs):fnM mask n sa ps=some (.ok (d,fl),qs):=by
 subst h0;simp only [fnM,h1,if_true,fn0,h2,h3,uK]
theorem j5 {i j:Int} (h:-18446744073709551616 < i/\i < 18446744073709551616):eO (.int i) (.int j)=some (.int (i * j),.z):=by
 simp [dB,h]
theorem rh {i j:Int} (h:-18446744073709551616 < j/\j < 18446744073709551616):eO (.int i) (.int j)=some (.int (i * j),.z):=by
 simp [dB,h]
theorem oS {im:IM} {bnd:L3.D->Sto->Option Sto} {o:Except L3.D Flw} (h1:im ρ=some (.ok (rs,ds),ρ1)) (hp:us ρ1 (pls rs)=[]) (h2:dO bnd sb ds ρ1=some (o,ρ2)):cY im bnd sb ρ=some (o,ρ2):=by
 have h4:∀ f ρ,aL f [] ρ = ρ:=fun _ _=>rfl
 simp only [cY,af,h1,hp,h4,h2,uK]
theorem lU {f:List L3.D->Option (List L3.D)} {xs:List L3.D} (h1:ms ρ=some (.ok rs,ρ1)) (h2:c6 rs ρ1=some (.ok ds,ρ1)) (h3:f ds=some xs):bm f ms ρ=some (.ok ([],xs),ρ1):=oP h1 h2 h3
end
section
variable {α:Type} {P:List α->Prop} {us:List α}
theorem bnd0 (h:us.length=0) (f:P []):P us:=by
 cases us with
 | nil=>exact f
 | cons a us=>cases h
theorem t2 {n:Nat} (h:us.length=n+1) (f:∀ a r,r.length=n->P (a :: r)):P us:=by
 cases us with
 | nil=>cases h
 | cons a us=>exact f a us (Nat.succ.inj h)
theorem bnd1 (h:us.length=1) (f:∀ a,P [a]):P us:=t2 h fun a _ h=>bnd0 (P:=fun r=>P (a :: r)) h (f a)
theorem bnd2 (h:us.length=2) (f:∀ a b,P [a,b]):P us:=t2 h fun a _ h=>bnd1 (P:=fun r=>P (a :: r)) h (f a)
theorem bnd3 (h:us.length=3) (f:∀ a b c,P [a,b,c]):P us:=t2 h fun a _ h=>bnd2 (P:=fun r=>P (a :: r)) h (f a)
end
theorem hb1 {x:Str} {st:Stmt} {p0:Str} (f:∀ (kV doc pm:Value) (an:Option Addr) (cdv ct a0:Value),bindArgs (PySem.W.fnOf x x (aY st) (aN st) (ah st) .none kV doc pm an cdv ct) ⟨[a0],[]⟩=pure ([p0].zip [a0])) (kV doc pm:Value) (an:Option Addr) (cdv ct:Value) (us:List Value) (hl:us.length=[p0].length):bindArgs (PySem.W.fnOf x x (aY st) (aN st) (ah st) .none kV doc pm an cdv ct) ⟨us,[]⟩=pure ([p0].zip us) :=
 bnd1 (P:=fun us=>bindArgs (PySem.W.fnOf x x (aY st) (aN st) (ah st) .none kV doc pm an cdv ct) ⟨us,[]⟩=pure ([p0].zip us)) hl (f kV doc pm an cdv ct)
theorem hb2 {x:Str} {st:Stmt} {p0 p1:Str} (f:∀ (kV doc pm:Value) (an:Option Addr) (cdv ct a0 a1:Value),bindArgs (PySem.W.fnOf x x (aY st) (aN st) (ah st) .none kV doc pm an cdv ct) ⟨[a0,a1],[]⟩=pure ([p0,p1].zip [a0,a1])) (kV doc pm:Value) (an:Option Addr) (cdv ct:Value) (us:List Value) (hl:us.length=[p0,p1].length):bindArgs (PySem.W.fnOf x x (aY st) (aN st) (ah st) .none kV doc pm an cdv ct) ⟨us,[]⟩=pure ([p0,p1].zip us) :=
 bnd2 (P:=fun us=>bindArgs (PySem.W.fnOf x x (aY st) (aN st) (ah st) .none kV doc pm an cdv ct) ⟨us,[]⟩=pure ([p0,p1].zip us)) hl (f kV doc pm an cdv ct)
theorem hb3 {x:Str} {st:Stmt} {p0 p1 p2:Str} (f:∀ (kV doc pm:Value) (an:Option Addr) (cdv ct a0 a1 a2:Value),bindArgs (PySem.W.fnOf x x (aY st) (aN st) (ah st) .none kV doc pm an cdv ct) ⟨[a0,a1,a2],[]⟩=pure ([p0,p1,p2].zip [a0,a1,a2])) (kV doc pm:Value) (an:Option Addr) (cdv ct:Value) (us:List Value) (hl:us.length=[p0,p1,p2].length):bindArgs (PySem.W.fnOf x x (aY st) (aN st) (ah st) .none kV doc pm an cdv ct) ⟨us,[]⟩=pure ([p0,p1,p2].zip us) :=
 bnd3 (P:=fun us=>bindArgs (PySem.W.fnOf x x (aY st) (aN st) (ah st) .none kV doc pm an cdv ct) ⟨us,[]⟩=pure ([p0,p1,p2].zip us)) hl (f kV doc pm an cdv ct)
end Bn
end
section
namespace Bn
open PySem L2 L3
local macro_rules | `(tactic| infer_instance)=>`(tactic| first | with_reducible apply oQ | with_reducible exact i_c | with_reducible apply i_bin | with_reducible apply i_un | with_reducible apply qG | with_reducible exact rn | with_reducible apply oT | with_reducible apply tP | with_reducible apply i_set | with_reducible apply i_asg | with_reducible apply i_expr | with_reducible apply oR | with_reducible exact i_nilS | with_reducible apply i_cB | with_reducible apply tQ | with_reducible apply i_mNot | with_reducible apply i_sl | with_reducible exact i_pNone | with_reducible apply i_pSome | with_reducible apply i_mut | with_reducible apply i_sub | with_reducible apply i_imSeq | with_reducible apply lU | with_reducible apply i_mAndT | with_reducible apply i_orF)
local macro_rules | `(tactic| eq_refl)=>`(tactic| first | exact rfl | exact Nat.le_of_ble_eq_true rfl)
section
variable {X:Cx} {G0:Gm} {W0:L3.D->Sto->Prop} {pos:Pos}
theorem rvl (i:Nat) {x:Str} (hN:X.N[i]?=some x:=by exact rfl) (hv:Vis X.env.scope x:=by exact Or.inl rfl) (hd:(x == ("__debug__":Str))=false:=by decide) (hc:(x == ("__classdict__":Str))=false:=by decide):RE X G0 W0 (.Name x pos) (ac i):=nO i hN hv hd hc
theorem rvc (i:Nat) {x:Str} (hN:X.N[i]?=some x:=by exact rfl) (hv:Vis X.env.scope x:=by exact Or.inr (Or.inl rfl)) (hd:(x == ("__debug__":Str))=false:=by decide) (hc:(x == ("__classdict__":Str))=false:=by decide):RE X G0 W0 (.Name x pos) (ac i):=nO i hN hv hd hc
end
section
variable {P:Program} {w:World} {K:FG} {mg:Str->Option Value} {base:Heap}
noncomputable def lg:SM:=(bj 1 (ji (mUn (jo "int") (ac 0)) (qA (mUn (jo "bool") (ac 0)))))
noncomputable def bX:Fn:=fnM [false] 1 lg
theorem jO:FnScope ["thing"] ["thing"] (ah cV):=⟨rfl,rfl,rfl,by decide +kernel,rfl,by decide +kernel,by decide +kernel⟩
theorem jx (B:Bl mg) (D:Def K mg "is_whole" cV):aK P w K mg base "is_whole" 1 ["thing"] bX :=
 aM (k:=0) D jO rfl rfl (hb1 fun _ _ _ _ _ _ _=>rfl) fun cdv A outer s H E f G hr hp =>
  (aj (aD 1 (fun i hi=>by rw [hp];exact ay (by simpa using hi)) (d6 (du eV rfl B.isinstance (cE (v:=V.ty "int") rfl B.int rF rfl (by decide) (by decide)) (rvl 0) rfl rfl rfl) (gw (nQ (du dU rfl B.isinstance (cE (v:=V.ty "bool") rfl B.bool pw rfl (by decide) (by decide)) (rvl 0) rfl rfl rfl))))))
noncomputable def li:SM:=(bj 1 (ji (mUn (jo "tuple") (ac 0)) (ji (ag eqX (aE dN (ab (ac 0) aq)) (mC (.int 2))) (ji (av bX (ab (ag aJ (ac 0) (mC (.int 0))) aq)) (av bX (ab (ag aJ (ac 0) (mC (.int 1))) aq))))))
noncomputable def eB:Fn:=fnM [false] 1 li
theorem jQ:FnScope ["thing"] ["thing"] (ah cX):=⟨rfl,rfl,rfl,by decide +kernel,rfl,by decide +kernel,by decide +kernel⟩
theorem jz (B:Bl mg) (D:Def K mg "is_point" cX) (C_is_whole:aK P w K mg base "is_whole" 1 ["thing"] bX):aK P w K mg base "is_point" 2 ["thing"] eB :=
 aM (k:=1) D jQ rfl rfl (hb1 fun _ _ _ _ _ _ _=>rfl) fun cdv A outer s H E f G hr hp =>
  (aj (aD 1 (fun i hi=>by rw [hp];exact ay (by simpa using hi)) (d6 (du bO rfl B.isinstance (cE (v:=V.ty "tuple") rfl B.tuple dJ rfl (by decide) (by decide)) (rvl 0) rfl rfl rfl) (d6 (iY (cZ hr.units) c0 (aA aB bN rfl B.len cI (aa (rvl 0) ad rfl) (by decide) (by decide) rfl rfl) ae (aZ _)) (d6 (au C_is_whole (hr.mono (by decide)) (aa (aw (ao hr.hu) am (rvl 0) ae (fun _ _=>rfl)) ad rfl) rfl (by decide) rfl rfl) (gw (au C_is_whole (hr.mono (by decide)) (aa (aw (ao hr.hu) am (rvl 0) ae (fun _ _=>rfl)) ad rfl) rfl (by decide) rfl rfl)))))))
noncomputable def gH:SM:=(sIf (cOr (eX (cB (av bX (ab (ac 0) aq)))) (eX (cB (ff leI leI (ac 1) (ac 0) (ac 2))))) dY cO)
noncomputable def bh:Fn:=fnM [false,false,false] 3 gH
theorem fF:FnScope ["thing","least","most"] ["thing","least","most"] (ah bG):=⟨rfl,rfl,rfl,by decide +kernel,rfl,by decide +kernel,by decide +kernel⟩
theorem ft (B:Bl mg) (D:Def K mg "check_number" bG) (C_is_whole:aK P w K mg base "is_whole" 1 ["thing"] bX):aK P w K mg base "check_number" 2 ["thing","least","most"] bh :=
 aM (k:=1) D fF rfl rfl (hb3 fun _ _ _ _ _ _ _ _ _=>rfl) fun cdv A outer s H E f G hr hp =>
  (aj (b6 (iW (eL (cK (dl (au C_is_whole (hr.mono (by decide)) (aa (rvl 0) ad rfl) rfl (by decide) rfl rfl) (fun _=>rfl))) (dZ (cK (jS fw iB fw iB (rvl 1) (rvl 0) (rvl 2) (by with_unfolding_all rfl)))))) (aj gu) a7))
noncomputable def kz:SM:=(sIf (cB (ag gtI (ac 0) (ac 1))) dY cO)
noncomputable def b8:Fn:=fnM [false,false] 2 kz
theorem iT:FnScope ["many","most"] ["many","most"] (ah cD):=⟨rfl,rfl,rfl,by decide +kernel,rfl,by decide +kernel,by decide +kernel⟩
theorem ig (B:Bl mg) (D:Def K mg "check_few" cD):aK P w K mg base "check_few" 1 ["many","most"] b8 :=
 aM (k:=0) D iT rfl rfl (hb2 fun _ _ _ _ _ _ _ _=>rfl) fun cdv A outer s H E f G hr hp =>
  (aj (b6 (bf lL lM (rvl 0) (rvl 1) (aZ _)) (aj gu) a7))
noncomputable def fX:EM:=(av eB (ab (ac 0) aq))
noncomputable def fW:EM:=(cF (dR (ac 0)) (aR 0) gX fX [none])
noncomputable def jg:SM:=(bj 1 (ji (ff leI leI (mC (.int 1)) (aE dN (ab (ac 0) aq)) (mC (.int (24)))) (aE qP (ab fW aq))))
noncomputable def c8:Fn:=fnM [false] 1 jg
theorem hV:FnScope ["things"] ["things"] (ah ci):=⟨rfl,rfl,rfl,by decide +kernel,rfl,by decide +kernel,by decide +kernel⟩
theorem gW (B:Bl mg) (D:Def K mg "are_points" ci) (C_is_point:aK P w K mg base "is_point" 2 ["thing"] eB) {tk_MOST_POINTS:Tok} (Q_MOST_POINTS:mg "MOST_POINTS"=some (.int (24) tk_MOST_POINTS)):aK P w K mg base "are_points" 3 ["things"] c8 :=
 aM (k:=2) D hV rfl rfl (hb1 fun _ _ _ _ _ _ _=>rfl) fun cdv A outer s H E f G hr hp =>
  (aj (aD 1 (fun i hi=>by rw [hp];exact ay (by simpa using hi)) (d6 (nW fw iB fw iB ae (aA aB bN rfl B.len cI (aa (rvl 0) ad rfl) (by decide) (by decide) rfl rfl) (aT rfl Q_MOST_POINTS (by decide)) (fun h1 h2 h3=>oi fw fw h1 h2 h3)) (gw (aA (gR rfl) lq rfl B.all pz (aa (bK ["thing"] [none] rfl (dn (rvl 0)) (fun s H C fp=>bJ) (fun s H C fp=>(au C_is_point (hr.mono (by decide)) (aa (rvl 0) ad rfl) rfl (by decide) rfl rfl)) (by rfl) (cy (by decide)) (fun _=>rfl) ⟨_,bt rfl,fun s H C fp=>bC (i:=0) (show (["thing"]:List Str).Nodup by decide +kernel) rfl (Or.inl rfl) (Or.inr rfl)⟩) ad rfl) (by decide) (by decide) rfl rfl)))))
noncomputable def eR:EM:=(ag ltI (ag aJ (ag aJ (ac 1) (ac 0)) (mC (.int 0))) (ag aJ (ag aJ (ac 1) (ag bW (ac 0) (mC (.int 1)))) (mC (.int 0))))
noncomputable def eQ:EM:=(cF (bm d5 (ab (ag bS (aE dN (ab (ac 0) aq)) (mC (.int 1))) aq)) (aR 0) gX eR [none,some 0])
noncomputable def gG:SM:=(bj 1 (aE qP (ab eQ aq)))
noncomputable def cA:Fn:=fnM [false] 1 gG
theorem fE:FnScope ["points"] ["points"] (ah bF):=⟨rfl,rfl,rfl,by decide +kernel,rfl,by decide +kernel,by decide +kernel⟩
theorem fq (B:Bl mg) (D:Def K mg "has_rising_x" bF):aK P w K mg base "has_rising_x" 1 ["points"] cA :=
 aM (k:=0) D fE rfl rfl (hb1 fun _ _ _ _ _ _ _=>rfl) fun cdv A outer s H E f G hr hp =>
  (aj (aD 1 (fun i hi=>by rw [hp];exact ay (by simpa using hi)) (aA (gR rfl) lq rfl B.all pz (aa (bK ["at","points"] [none,some 0] rfl (cj rfl B.range (aa (ak aO aG (aA aB bN rfl B.len cI (aa (rvc 0) ad rfl) (by decide) (by decide) rfl rfl) ae) ad rfl) rfl) (fun s H C fp=>bJ) (fun s H C fp=>(iY q9 rf (aw (ao hr.hu) am (aw (ao hr.hu) am (rvc 1) (rvl 0) (fun _ _=>rfl)) ae (fun _ _=>rfl)) (aw (ao hr.hu) am (aw (ao hr.hu) am (rvc 1) (ak aF aP (rvl 0) ae) (fun _ _=>rfl)) ae (fun _ _=>rfl)) (aZ _))) (by rfl) (cy (by decide)) (fun _=>rfl) ⟨_,bt rfl,fun s H C fp=>bC (i:=0) (show (["at","points"]:List Str).Nodup by decide +kernel) rfl (Or.inl rfl) (Or.inr rfl)⟩) ad rfl) (by decide) (by decide) rfl rfl)))
noncomputable def tH:SM:=(aI (bH 3 (ag eO (ag bS (ag aJ (ac 1) (mC (.int 0))) (ag aJ (ac 0) (mC (.int 0)))) (ag bS (ag aJ (ac 2) (mC (.int 1))) (ag aJ (ac 0) (mC (.int 1)))))) (bj 3 (ag bS (ac 3) (ag eO (ag bS (ag aJ (ac 1) (mC (.int 1))) (ag aJ (ac 0) (mC (.int 1)))) (ag bS (ag aJ (ac 2) (mC (.int 0))) (ag aJ (ac 0) (mC (.int 0))))))))
noncomputable def lz:Fn:=fnM [false,false,false] 4 tH
theorem sc_bend:FnScope ["first","second","third","run"] ["first","second","third"] (ah iV):=⟨rfl,rfl,rfl,by decide +kernel,rfl,by decide +kernel,by decide +kernel⟩
theorem po (B:Bl mg) (D:Def K mg "bend" iV):aK P w K mg base "bend" 1 ["first","second","third"] lz :=
 aM (k:=0) D sc_bend rfl rfl (hb3 fun _ _ _ _ _ _ _ _ _=>rfl) fun cdv A outer s H E f G hr hp =>
  (ai (aU 3 sc_bend.nd rfl (Or.inl rfl) (ak cr bL (ak aO aG (aw (ao hr.hu) am (rvl 1) ae (fun _ _=>rfl)) (aw (ao hr.hu) am (rvl 0) ae (fun _ _=>rfl))) (ak aO aG (aw (ao hr.hu) am (rvl 2) ae (fun _ _=>rfl)) (aw (ao hr.hu) am (rvl 0) ae (fun _ _=>rfl)))) rfl (Or.inl rfl) (by rw [hp];rfl)) (aj (aD 3 (fun i hi=>by rw [hp];exact ay (by simpa using hi)) (ak aO aG (rvl 3) (ak cr bL (ak aO aG (aw (ao hr.hu) am (rvl 1) ae (fun _ _=>rfl)) (aw (ao hr.hu) am (rvl 0) ae (fun _ _=>rfl))) (ak aO aG (aw (ao hr.hu) am (rvl 2) ae (fun _ _=>rfl)) (aw (ao hr.hu) am (rvl 0) ae (fun _ _=>rfl))))))))
noncomputable def kg:EM:=(fY (ab (ac 1) (ab (ac 2) (ab (ac 0) aq))))
noncomputable def ke:EM:=(cF (bm hX (ab (ag bW (ac 3) (mC (.int 1))) (ab (ac 0) aq))) (aR 0) gX kg [none,some 2,some 3])
noncomputable def ki:SM:=(c9 (qB isL tW 1 (ab ke aq)))
noncomputable def kh:SM:=(cY (bm hX (ab (ag bW (ac 2) (mC (.int 1))) (ab (ac 0) aq))) (aR 3) ki)
noncomputable def oD:SM:=(aI (bH 1 (jh aq)) (aI (cY (bm d5 (ab (ac 0) aq)) (aR 2) kh) (bj 1 (ac 1))))
noncomputable def hE:Fn:=fnM [false] 4 oD
theorem sc_threes:FnScope ["many","found","i","j"] ["many"] (ah eG):=⟨rfl,rfl,rfl,by decide +kernel,rfl,by decide +kernel,by decide +kernel⟩
theorem lr (B:Bl mg) (D:Def K mg "threes" eG):aK P w K mg base "threes" 1 ["many"] hE :=
 aM (k:=0) D sc_threes rfl rfl (hb1 fun _ _ _ _ _ _ _=>rfl) fun cdv A outer s H E f G hr hp =>
  (ai (aU 1 sc_threes.nd rfl (Or.inl rfl) (gx ad) rfl (Or.inl rfl) (by rw [hp];rfl)) (ai (bI PassesOwn.never rfl (cj rfl B.range (aa (rvl 0) ad rfl) rfl) (bc 2 sc_threes.nd rfl (Or.inr rfl) (Or.inl rfl) (by rw [hp];rfl)) (aj (bI PassesOwn.never rfl (dG rfl B.range (aa (ak aF aP (rvc 2) ae) (aa (rvl 0) ad rfl) rfl) rfl rfl) (bc 3 sc_threes.nd rfl (Or.inr rfl) (Or.inl rfl) (by rw [hp];rfl)) (aj (bZ (lD (ok:=isL) PySem.F.plainAttrs_list PySem.F.slot_list_extend PySem.F.type_list_extend mG tD oO (d8 (i:=1) rfl (Or.inl rfl) (by decide) (by decide)) (aa (bK ["k","i","j"] [none,some 2,some 3] rfl (dG rfl B.range (aa (ak aF aP (rvc 3) ae) (aa (rvl 0) ad rfl) rfl) rfl rfl) (fun s H C fp=>bJ) (fun s H C fp=>(cL (aa (rvc 1) (aa (rvc 2) (aa (rvl 0) ad rfl) rfl) rfl))) (by rfl) (cy (by decide)) (fun _=>rfl) ⟨_,bt rfl,fun s H C fp=>bC (i:=0) (show (["k","i","j"]:List Str).Nodup by decide +kernel) rfl (Or.inl rfl) (Or.inr rfl)⟩) ad rfl) rfl rfl rfl rfl rfl) rfl)) (fun _=>rfl))) (fun _=>rfl)) (aj (aD 1 (fun i hi=>by rw [hp];exact ay (by simpa using hi)) (rvl 1)))))
noncomputable def eg:EM:=(ag aJ (ac 1) (ac 0))
noncomputable def ee:EM:=(cF (dR (ac 1)) (aR 0) gX eg [none,some 0])
noncomputable def eh:SM:=(aI (bH 2 (aE rK (ab ee aq))) (sIf (cB (ag eqX (av lz (ab (ag aJ (ac 2) (mC (.int 0))) (ab (ag aJ (ac 2) (mC (.int 1))) (ab (ag aJ (ac 2) (mC (.int 2))) aq)))) (mC (.int 0)))) (bj 1 (ac 2)) cO))
noncomputable def fV:SM:=(aI (cY (dR (av hE (ab (aE dN (ab (ac 0) aq)) aq))) (aR 1) eh) (bj 1 (mC .non)))
noncomputable def b9:Fn:=fnM [false] 3 fV
theorem sc_first_on_line:FnScope ["points","three","found"] ["points"] (ah bB):=⟨rfl,rfl,rfl,by decide +kernel,rfl,by decide +kernel,by decide +kernel⟩
theorem eW (B:Bl mg) (D:Def K mg "first_on_line" bB) (C_bend:aK P w K mg base "bend" 1 ["first","second","third"] lz) (C_threes:aK P w K mg base "threes" 1 ["many"] hE):aK P w K mg base "first_on_line" 2 ["points"] b9 :=
 aM (k:=1) D sc_first_on_line rfl rfl (hb1 fun _ _ _ _ _ _ _=>rfl) fun cdv A outer s H E f G hr hp =>
  (ai (bI PassesOwn.never rfl (dn (au C_threes (hr.mono (by decide)) (aa (aA aB bN rfl B.len cI (aa (rvc 0) ad rfl) (by decide) (by decide) rfl rfl) ad rfl) rfl (by decide) rfl rfl)) (bc 1 sc_first_on_line.nd rfl (Or.inl rfl) (Or.inl rfl) (by rw [hp];rfl)) (ai (aU 2 sc_first_on_line.nd rfl (Or.inl rfl) (iu dS pd rfl B.tuple dJ (aa (bK ["place","points"] [none,some 0] rfl (dn (rvl 1)) (fun s H C fp=>bJ) (fun s H C fp=>(aw (ao hr.hu) am (rvc 1) (rvl 0) (fun _ _=>rfl))) (by rfl) (cy (by decide)) (fun _=>rfl) ⟨_,bt rfl,fun s H C fp=>bC (i:=0) (show (["place","points"]:List Str).Nodup by decide +kernel) rfl (Or.inl rfl) (Or.inr rfl)⟩) ad rfl) (by decide) (by decide) rfl rfl) rfl (Or.inl rfl) (by rw [hp];rfl)) (aj (b6 (bf (cZ hr.units) c0 (au C_bend (hr.mono (by decide)) (aa (aw (ao hr.hu) am (rvl 2) ae (fun _ _=>rfl)) (aa (aw (ao hr.hu) am (rvl 2) ae (fun _ _=>rfl)) (aa (aw (ao hr.hu) am (rvl 2) ae (fun _ _=>rfl)) ad rfl) rfl) rfl) rfl (by decide) rfl rfl) ae (aZ _)) (aj (aD 1 (fun i hi=>by rw [hp];exact ay (by simpa using hi)) (rvl 2))) a7))) (fun _=>rfl)) (aj (aD 1 (fun i hi=>by rw [hp];exact ay (by simpa using hi)) nR)))
noncomputable def lh:SM:=(aI (sIf (cOr (eX (cB (mUn (jo "tuple") (ac 0)))) (eX (cB (av c8 (ab (ac 0) aq))))) (bj 1 (mC (.bl false))) cO) (bj 1 (ji (av cA (ab (ac 0) aq)) (ag isN (av b9 (ab (ac 0) aq)) (mC .non)))))
noncomputable def eA:Fn:=fnM [false] 1 lh
theorem jP:FnScope ["thing"] ["thing"] (ah cW):=⟨rfl,rfl,rfl,by decide +kernel,rfl,by decide +kernel,by decide +kernel⟩
theorem jy (B:Bl mg) (D:Def K mg "is_sheet" cW) (C_are_points:aK P w K mg base "are_points" 3 ["things"] c8) (C_first_on_line:aK P w K mg base "first_on_line" 2 ["points"] b9) (C_has_rising_x:aK P w K mg base "has_rising_x" 1 ["points"] cA):aK P w K mg base "is_sheet" 4 ["thing"] eA :=
 aM (k:=3) D jP rfl rfl (hb1 fun _ _ _ _ _ _ _=>rfl) fun cdv A outer s H E f G hr hp =>
  (ai (b6 (iW (eL (cK (dl (du bO rfl B.isinstance (cE (v:=V.ty "tuple") rfl B.tuple dJ rfl (by decide) (by decide)) (rvl 0) rfl rfl rfl) (fun _=>rfl))) (dZ (cK (dl (au C_are_points (hr.mono (by decide)) (aa (rvl 0) ad rfl) rfl (by decide) rfl rfl) (fun _=>rfl)))))) (aj (aD 1 (fun i hi=>by rw [hp];exact ay (by simpa using hi)) dw)) a7) (aj (aD 1 (fun i hi=>by rw [hp];exact ay (by simpa using hi)) (d6 (au C_has_rising_x (hr.mono (by decide)) (aa (rvl 0) ad rfl) rfl (by decide) rfl rfl) (gw (iY tj tu (au C_first_on_line (hr.mono (by decide)) (aa (rvl 0) ad rfl) rfl (by decide) rfl rfl) nR (aZ _)))))))
noncomputable def ib:SM:=(sIf (eX (cB (av eA (ab (ac 0) aq)))) dY cO)
noncomputable def b5:Fn:=fnM [false] 1 ib
theorem gq:FnScope ["thing"] ["thing"] (ah bY):=⟨rfl,rfl,rfl,by decide +kernel,rfl,by decide +kernel,by decide +kernel⟩
theorem gb (B:Bl mg) (D:Def K mg "check_sheet" bY) (C_is_sheet:aK P w K mg base "is_sheet" 4 ["thing"] eA):aK P w K mg base "check_sheet" 5 ["thing"] b5 :=
 aM (k:=4) D gq rfl rfl (hb1 fun _ _ _ _ _ _ _=>rfl) fun cdv A outer s H E f G hr hp =>
  (aj (b6 (cK (dl (au C_is_sheet (hr.mono (by decide)) (aa (rvl 0) ad rfl) rfl (by decide) rfl rfl) (fun _=>rfl))) (aj gu) a7))
noncomputable def dM:SM:=(aI (c9 (av bh (ab (ac 0) (ab (mC (.int (2))) (ab (mC (.int (9))) aq))))) (c9 (av bh (ab (ac 1) (ab (mC (.int (2))) (ab (mC (.int (9))) aq))))))
noncomputable def bz:Fn:=fnM [false,false] 2 dM
theorem di:FnScope ["k","l"] ["k","l"] (ah bb):=⟨rfl,rfl,rfl,by decide +kernel,rfl,by decide +kernel,by decide +kernel⟩
theorem dh (B:Bl mg) (D:Def K mg "check_two_numbers" bb) (C_check_number:aK P w K mg base "check_number" 2 ["thing","least","most"] bh) {tk_LEAST_PLACES:Tok} (Q_LEAST_PLACES:mg "LEAST_PLACES"=some (.int (2) tk_LEAST_PLACES)) {tk_MOST_PLACES:Tok} (Q_MOST_PLACES:mg "MOST_PLACES"=some (.int (9) tk_MOST_PLACES)):aK P w K mg base "check_two_numbers" 3 ["k","l"] bz :=
 aM (k:=2) D di rfl rfl (hb2 fun _ _ _ _ _ _ _ _=>rfl) fun cdv A outer s H E f G hr hp =>
  (ai (bZ (au C_check_number (hr.mono (by decide)) (aa (rvl 0) (aa (aT rfl Q_LEAST_PLACES (by decide)) (aa (aT rfl Q_MOST_PLACES (by decide)) ad rfl) rfl) rfl) rfl (by decide) rfl rfl) rfl) (aj (bZ (au C_check_number (hr.mono (by decide)) (aa (rvl 1) (aa (aT rfl Q_LEAST_PLACES (by decide)) (aa (aT rfl Q_MOST_PLACES (by decide)) ad rfl) rfl) rfl) rfl (by decide) rfl rfl) rfl)))
noncomputable def tG (R:Fn):SM:=(aI (c9 (av bz (ab (ac 0) (ab (ac 1) aq)))) (aI (sIf (cOr (cB (ag eqX (ac 0) (mC (.int (2))))) (cB (ag eqX (ac 1) (mC (.int (2)))))) (bj 2 (mC (.int 1))) cO) (bj 2 (ag bW (av R (ab (ag bS (ac 0) (mC (.int 1))) (ab (ac 1) aq))) (av R (ab (ac 0) (ab (ag bS (ac 1) (mC (.int 1))) aq)))))))
noncomputable def jD:Nat->Fn
 | 0=>fnM [false,false] 2 dY
 | n+1=>fnM [false,false] 2 (tG (jD n))
theorem lA:FnScope ["k","l"] ["k","l"] (ah iU):=⟨rfl,rfl,rfl,by decide +kernel,rfl,by decide +kernel,by decide +kernel⟩
theorem kN (B:Bl mg) (D:Def K mg "room" iU) (C_check_two_numbers:aK P w K mg base "check_two_numbers" 3 ["k","l"] bz) {tk_LEAST_PLACES:Tok} (Q_LEAST_PLACES:mg "LEAST_PLACES"=some (.int (2) tk_LEAST_PLACES)):(n:Nat)->aK P w K mg base "room" (3+n+1) ["k","l"] (jD n)
 | 0=>aM (k:=3) D lA rfl rfl (hb2 fun _ _ _ _ _ _ _ _=>rfl) fun cdv A outer s H E f G hr hp=>iq
 | n+1=>by
  have IH:=kN B D C_check_two_numbers Q_LEAST_PLACES n
  exact aM (k:=3+n+1) D lA rfl rfl (hb2 fun _ _ _ _ _ _ _ _=>rfl) fun cdv A outer s H E f G hr hp =>
   (ai (bZ (au C_check_two_numbers (hr.mono (by omega)) (aa (rvl 0) (aa (rvl 1) ad rfl) rfl) rfl (by decide) rfl rfl) rfl) (ai (b6 (iW (eL (bf (cZ hr.units) c0 (rvl 0) (aT rfl Q_LEAST_PLACES (by decide)) (aZ _)) (dZ (bf (cZ hr.units) c0 (rvl 1) (aT rfl Q_LEAST_PLACES (by decide)) (aZ _))))) (aj (aD 2 (fun i hi=>by rw [hp];exact ay (by simpa using hi)) ae)) a7) (aj (aD 2 (fun i hi=>by rw [hp];exact ay (by simpa using hi)) (ak aF aP (au IH (hr.mono (by omega)) (aa (ak aO aG (rvl 0) ae) (aa (rvl 1) ad rfl) rfl) rfl (by decide) rfl rfl) (au IH (hr.mono (by omega)) (aa (rvl 0) (aa (ak aO aG (rvl 1) ae) ad rfl) rfl) rfl (by decide) rfl rfl))))))
noncomputable def gF:EM:=(aE absD (ab (ag bS (ag aJ (ag aJ (ac 1) (ag bW (ac 0) (mC (.int 1)))) (mC (.int 1))) (ag aJ (ag aJ (ac 1) (ac 0)) (mC (.int 1)))) aq))
noncomputable def gE:EM:=(cF (bm d5 (ab (ag bS (aE dN (ab (ac 0) aq)) (mC (.int 1))) aq)) (aR 0) gX gF [none,some 0])
noncomputable def kj:SM:=(bj 1 (ag maxD gE (mC (.int 0))))
noncomputable def cJ:Fn:=fnM [false] 1 kj
theorem iS:FnScope ["sheet"] ["sheet"] (ah cC):=⟨rfl,rfl,rfl,by decide +kernel,rfl,by decide +kernel,by decide +kernel⟩
theorem ie (B:Bl mg) (D:Def K mg "steepness" cC):aK P w K mg base "steepness" 1 ["sheet"] cJ :=
 aM (k:=0) D iS rfl rfl (hb1 fun _ _ _ _ _ _ _=>rfl) fun cdv A outer s H E f G hr hp =>
  (aj (aD 1 (fun i hi=>by rw [hp];exact ay (by simpa using hi)) (sG (nK rfl) ql rfl B.max gZ (bK ["at","sheet"] [none,some 0] rfl (cj rfl B.range (aa (ak aO aG (aA aB bN rfl B.len cI (aa (rvc 0) ad rfl) (by decide) (by decide) rfl rfl) ae) ad rfl) rfl) (fun s H C fp=>bJ) (fun s H C fp=>(aA pk t0 rfl B.abs b_abs (aa (ak aO aG (aw (ao hr.hu) am (aw (ao hr.hu) am (rvc 1) (ak aF aP (rvl 0) ae) (fun _ _=>rfl)) ae (fun _ _=>rfl)) (aw (ao hr.hu) am (aw (ao hr.hu) am (rvc 1) (rvl 0) (fun _ _=>rfl)) ae (fun _ _=>rfl))) ad rfl) (by decide) (by decide) rfl rfl)) (by rfl) (cy (by decide)) (fun _=>rfl) ⟨_,bt rfl,fun s H C fp=>bC (i:=0) (show (["at","sheet"]:List Str).Nodup by decide +kernel) rfl (Or.inl rfl) (Or.inr rfl)⟩) ae (by decide) (by decide) rfl rfl rfl rfl rfl rfl)))
noncomputable def qx:SM:=(bj 1 (ag bS (ag aJ (ag aJ (ac 0) (mUn qr (mC (.int 1)))) (mC (.int 0))) (ag aJ (ag aJ (ac 0) (mC (.int 0))) (mC (.int 0)))))
noncomputable def gk:Fn:=fnM [false] 1 qx
theorem nG:FnScope ["sheet"] ["sheet"] (ah gc):=⟨rfl,rfl,rfl,by decide +kernel,rfl,by decide +kernel,by decide +kernel⟩
theorem nb (B:Bl mg) (D:Def K mg "width" gc):aK P w K mg base "width" 1 ["sheet"] gk :=
 aM (k:=0) D nG rfl rfl (hb1 fun _ _ _ _ _ _ _=>rfl) fun cdv A outer s H E f G hr hp =>
  (aj (aD 1 (fun i hi=>by rw [hp];exact ay (by simpa using hi)) (ak aO aG (aw (ao hr.hu) am (aw (ao hr.hu) am (rvl 0) (nP kX kY ae) (fun _ _=>rfl)) ae (fun _ _=>rfl)) (aw (ao hr.hu) am (aw (ao hr.hu) am (rvl 0) ae (fun _ _=>rfl)) ae (fun _ _=>rfl)))))
noncomputable def fL:EM:=(ag aJ (ac 0) (mC (.int 1)))
noncomputable def fI:EM:=(cF (dR (ac 0)) (aR 0) gX fL [none])
noncomputable def fK:EM:=(ag aJ (ac 0) (mC (.int 1)))
noncomputable def fH:EM:=(cF (dR (ac 1)) (aR 0) gX fK [none])
noncomputable def fJ:EM:=(fY (ab (ag bW (ag aJ (ac 0) (mC (.int 0))) (ac 1)) (ab (ag bW (ag aJ (ac 0) (mC (.int 1))) (ac 2)) aq)))
noncomputable def fG:EM:=(cF (dR (ac 1)) (aR 0) gX fJ [none,some 2,some 5])
noncomputable def je:SM:=(aI (c9 (av b5 (ab (ac 0) aq))) (aI (c9 (av b5 (ab (ac 1) aq))) (aI (c9 (av b8 (ab (ag bW (aE dN (ab (ac 0) aq)) (aE dN (ab (ac 1) aq))) (ab (mC (.int (24))) aq)))) (aI (bH 2 (ag bS (ag bW (ag aJ (ag aJ (ac 0) (mUn qr (mC (.int 1)))) (mC (.int 0))) (mC (.int 1))) (ag aJ (ag aJ (ac 1) (mC (.int 0))) (mC (.int 0))))) (aI (bH 3 (ag bW (ag bW (av gk (ab (ac 0) aq)) (mC (.int 1))) (av gk (ab (ac 1) aq)))) (aI (bH 4 (ag bW (ag eO (aE oC (ab (av cJ (ab (ac 0) aq)) (ab (av cJ (ab (ac 1) aq)) aq))) (ac 3)) (mC (.int 1)))) (aI (bH 5 (ag bS (ag bW (aE j9 (ab fI aq)) (ac 4)) (aE rj (ab fH aq)))) (bj 2 (ag bW (ac 0) (aE rK (ab fG aq)))))))))))
noncomputable def bP:Fn:=fnM [false,false] 6 je
theorem sc_set_beside:FnScope ["one","other","aside","steps","over","lift"] ["one","other"] (ah ce):=⟨rfl,rfl,rfl,by decide +kernel,rfl,by decide +kernel,by decide +kernel⟩
theorem gS (B:Bl mg) (D:Def K mg "set_beside" ce) (C_check_few:aK P w K mg base "check_few" 1 ["many","most"] b8) (C_check_sheet:aK P w K mg base "check_sheet" 5 ["thing"] b5) (C_steepness:aK P w K mg base "steepness" 1 ["sheet"] cJ) (C_width:aK P w K mg base "width" 1 ["sheet"] gk) {tk_MOST_POINTS:Tok} (Q_MOST_POINTS:mg "MOST_POINTS"=some (.int (24) tk_MOST_POINTS)):aK P w K mg base "set_beside" 6 ["one","other"] bP :=
 aM (k:=5) D sc_set_beside rfl rfl (hb2 fun _ _ _ _ _ _ _ _=>rfl) fun cdv A outer s H E f G hr hp =>
  (ai (bZ (au C_check_sheet (hr.mono (by decide)) (aa (rvl 0) ad rfl) rfl (by decide) rfl rfl) rfl) (ai (bZ (au C_check_sheet (hr.mono (by decide)) (aa (rvl 1) ad rfl) rfl (by decide) rfl rfl) rfl) (ai (bZ (au C_check_few (hr.mono (by decide)) (aa (ak aF aP (aA aB bN rfl B.len cI (aa (rvl 0) ad rfl) (by decide) (by decide) rfl rfl) (aA aB bN rfl B.len cI (aa (rvl 1) ad rfl) (by decide) (by decide) rfl rfl)) (aa (aT rfl Q_MOST_POINTS (by decide)) ad rfl) rfl) rfl (by decide) rfl rfl) rfl) (ai (aU 2 sc_set_beside.nd rfl (Or.inr rfl) (ak aO aG (ak aF aP (aw (ao hr.hu) am (aw (ao hr.hu) am (rvl 0) (nP kX kY ae) (fun _ _=>rfl)) ae (fun _ _=>rfl)) ae) (aw (ao hr.hu) am (aw (ao hr.hu) am (rvl 1) ae (fun _ _=>rfl)) ae (fun _ _=>rfl))) rfl (Or.inl rfl) (by rw [hp];rfl)) (ai (aU 3 sc_set_beside.nd rfl (Or.inl rfl) (ak aF aP (ak aF aP (au C_width (hr.mono (by decide)) (aa (rvl 0) ad rfl) rfl (by decide) rfl rfl) ae) (au C_width (hr.mono (by decide)) (aa (rvl 1) ad rfl) rfl (by decide) rfl rfl)) rfl (Or.inl rfl) (by rw [hp];rfl)) (ai (aU 4 sc_set_beside.nd rfl (Or.inl rfl) (ak aF aP (ak cr bL (aA (iK rfl) l8 rfl B.max gZ (aa (au C_steepness (hr.mono (by decide)) (aa (rvl 0) ad rfl) rfl (by decide) rfl rfl) (aa (au C_steepness (hr.mono (by decide)) (aa (rvl 1) ad rfl) rfl (by decide) rfl rfl) ad rfl) rfl) (by decide) (by decide) rfl rfl) (rvl 3)) ae) rfl (Or.inl rfl) (by rw [hp];rfl)) (ai (aU 5 sc_set_beside.nd rfl (Or.inr rfl) (ak aO aG (ak aF aP (aA (dI rfl) gj rfl B.max gZ (aa (bK ["point"] [none] rfl (dn (rvl 0)) (fun s H C fp=>bJ) (fun s H C fp=>(aw (ao hr.hu) am (rvl 0) ae (fun _ _=>rfl))) (by rfl) (cy (by decide)) (fun _=>rfl) ⟨_,bt rfl,fun s H C fp=>bC (i:=0) (show (["point"]:List Str).Nodup by decide +kernel) rfl (Or.inl rfl) (Or.inr rfl)⟩) ad rfl) (by decide) (by decide) rfl rfl) (rvl 4)) (aA (m6 rfl) qK rfl B.min b_min (aa (bK ["point"] [none] rfl (dn (rvl 1)) (fun s H C fp=>bJ) (fun s H C fp=>(aw (ao hr.hu) am (rvl 0) ae (fun _ _=>rfl))) (by rfl) (cy (by decide)) (fun _=>rfl) ⟨_,bt rfl,fun s H C fp=>bC (i:=0) (show (["point"]:List Str).Nodup by decide +kernel) rfl (Or.inl rfl) (Or.inr rfl)⟩) ad rfl) (by decide) (by decide) rfl rfl)) rfl (Or.inl rfl) (by rw [hp];rfl)) (aj (aD 2 (fun i hi=>by rw [hp];exact ay (by simpa using hi)) (ak aF aP (rvl 0) (iu dS pd rfl B.tuple dJ (aa (bK ["point","aside","lift"] [none,some 2,some 5] rfl (dn (rvl 1)) (fun s H C fp=>bJ) (fun s H C fp=>(cL (aa (ak aF aP (aw (ao hr.hu) am (rvl 0) ae (fun _ _=>rfl)) (rvc 1)) (aa (ak aF aP (aw (ao hr.hu) am (rvl 0) ae (fun _ _=>rfl)) (rvc 2)) ad rfl) rfl))) (by rfl) (cy (by decide)) (fun _=>rfl) ⟨_,bt rfl,fun s H C fp=>bC (i:=0) (show (["point","aside","lift"]:List Str).Nodup by decide +kernel) rfl (Or.inl rfl) (Or.inr rfl)⟩) ad rfl) (by decide) (by decide) rfl rfl)))))))))))
noncomputable def mL (R:Fn):SM:=(aI (c9 (av b8 (ab (av (jD 14) (ab (ac 0) (ab (ac 1) aq))) (ab (mC (.int (24))) aq)))) (aI (sIf (cOr (cB (ag eqX (ac 0) (mC (.int (2))))) (cB (ag eqX (ac 1) (mC (.int (2)))))) (bj 2 (fY (ab (fY (ab (mC (.int 0)) (ab (mC (.int 0)) aq))) aq))) cO) (bj 2 (av bP (ab (av R (ab (ag bS (ac 0) (mC (.int 1))) (ab (ac 1) aq))) (ab (av R (ab (ac 0) (ab (ag bS (ac 1) (mC (.int 1))) aq))) aq))))))
noncomputable def cT:Nat->Fn
 | 0=>fnM [false,false] 2 dY
 | n+1=>fnM [false,false] 2 (mL (cT n))
theorem gp:FnScope ["k","l"] ["k","l"] (ah dF):=⟨rfl,rfl,rfl,by decide +kernel,rfl,by decide +kernel,by decide +kernel⟩
theorem fD (B:Bl mg) (D:Def K mg "drawing" dF) (C_check_few:aK P w K mg base "check_few" 1 ["many","most"] b8) (C_room:aK P w K mg base "room" 18 ["k","l"] (jD 14)) (C_set_beside:aK P w K mg base "set_beside" 6 ["one","other"] bP) {tk_LEAST_PLACES:Tok} (Q_LEAST_PLACES:mg "LEAST_PLACES"=some (.int (2) tk_LEAST_PLACES)) {tk_MOST_POINTS:Tok} (Q_MOST_POINTS:mg "MOST_POINTS"=some (.int (24) tk_MOST_POINTS)):(n:Nat)->aK P w K mg base "drawing" (18+n+1) ["k","l"] (cT n)
 | 0=>aM (k:=18) D gp rfl rfl (hb2 fun _ _ _ _ _ _ _ _=>rfl) fun cdv A outer s H E f G hr hp=>iq
 | n+1=>by
  have IH:=fD B D C_check_few C_room C_set_beside Q_LEAST_PLACES Q_MOST_POINTS n
  exact aM (k:=18+n+1) D gp rfl rfl (hb2 fun _ _ _ _ _ _ _ _=>rfl) fun cdv A outer s H E f G hr hp =>
   (ai (bZ (au C_check_few (hr.mono (by omega)) (aa (au C_room (hr.mono (by omega)) (aa (rvl 0) (aa (rvl 1) ad rfl) rfl) rfl (by decide) rfl rfl) (aa (aT rfl Q_MOST_POINTS (by decide)) ad rfl) rfl) rfl (by decide) rfl rfl) rfl) (ai (b6 (iW (eL (bf (cZ hr.units) c0 (rvl 0) (aT rfl Q_LEAST_PLACES (by decide)) (aZ _)) (dZ (bf (cZ hr.units) c0 (rvl 1) (aT rfl Q_LEAST_PLACES (by decide)) (aZ _))))) (aj (aD 2 (fun i hi=>by rw [hp];exact ay (by simpa using hi)) (cL (aa (cL (aa ae (aa ae ad rfl) rfl)) ad rfl)))) a7) (aj (aD 2 (fun i hi=>by rw [hp];exact ay (by simpa using hi)) (au C_set_beside (hr.mono (by omega)) (aa (au IH (hr.mono (by omega)) (aa (ak aO aG (rvl 0) ae) (aa (rvl 1) ad rfl) rfl) rfl (by decide) rfl rfl) (aa (au IH (hr.mono (by omega)) (aa (rvl 0) (aa (ak aO aG (rvl 1) ae) ad rfl) rfl) rfl (by decide) rfl rfl) ad rfl) rfl) rfl (by decide) rfl rfl)))))
noncomputable def h8:SM:=(bH 1 (av bP (ab (av (cT 14) (ab (ac 2) (ab (ag bS (ag bW (ac 0) (mC (.int (2)))) (ac 2)) aq))) (ab (ac 1) aq))))
noncomputable def lf:SM:=(aI (c9 (av bh (ab (ac 0) (ab (mC (.int (3))) (ab (mC (.int (6))) aq))))) (aI (bH 1 (av (cT 14) (ab (ac 0) (ab (mC (.int (2))) aq)))) (aI (cY (bm nM (ab (ag bS (ac 0) (mC (.int 1))) (ab (ag bS (mC (.int (2))) (mC (.int 1))) (ab (mUn qr (mC (.int 1))) aq)))) (aR 2) h8) (bj 1 (ac 1)))))
noncomputable def bo:Fn:=fnM [false] 3 lf
theorem sc_ringless:FnScope ["many","sheet","k"] ["many"] (ah cU):=⟨rfl,rfl,rfl,by decide +kernel,rfl,by decide +kernel,by decide +kernel⟩
theorem jw (B:Bl mg) (D:Def K mg "ringless" cU) (C_check_number:aK P w K mg base "check_number" 2 ["thing","least","most"] bh) (C_drawing:aK P w K mg base "drawing" 33 ["k","l"] (cT 14)) (C_set_beside:aK P w K mg base "set_beside" 6 ["one","other"] bP) {tk_LEAST_CORNERS:Tok} (Q_LEAST_CORNERS:mg "LEAST_CORNERS"=some (.int (3) tk_LEAST_CORNERS)) {tk_LEAST_PLACES:Tok} (Q_LEAST_PLACES:mg "LEAST_PLACES"=some (.int (2) tk_LEAST_PLACES)) {tk_MOST_FOR_RINGLESS:Tok} (Q_MOST_FOR_RINGLESS:mg "MOST_FOR_RINGLESS"=some (.int (6) tk_MOST_FOR_RINGLESS)):aK P w K mg base "ringless" 34 ["many"] bo :=
 aM (k:=33) D sc_ringless rfl rfl (hb1 fun _ _ _ _ _ _ _=>rfl) fun cdv A outer s H E f G hr hp =>
  (ai (bZ (au C_check_number (hr.mono (by decide)) (aa (rvl 0) (aa (aT rfl Q_LEAST_CORNERS (by decide)) (aa (aT rfl Q_MOST_FOR_RINGLESS (by decide)) ad rfl) rfl) rfl) rfl (by decide) rfl rfl) rfl) (ai (aU 1 sc_ringless.nd rfl (Or.inl rfl) (au C_drawing (hr.mono (by decide)) (aa (rvl 0) (aa (aT rfl Q_LEAST_PLACES (by decide)) ad rfl) rfl) rfl (by decide) rfl rfl) rfl (Or.inl rfl) (by rw [hp];rfl)) (ai (bI PassesOwn.never rfl (pX rfl B.range (aa (ak aO aG (rvl 0) ae) (aa (ak aO aG (aT rfl Q_LEAST_PLACES (by decide)) ae) (aa (nP kX kY ae) ad rfl) rfl) rfl) rfl rfl) (bc 2 sc_ringless.nd rfl (Or.inl rfl) (Or.inl rfl) (by rw [hp];rfl)) (aj (aU 1 sc_ringless.nd rfl (Or.inl rfl) (au C_set_beside (hr.mono (by decide)) (aa (au C_drawing (hr.mono (by decide)) (aa (rvl 2) (aa (ak aO aG (ak aF aP (rvl 0) (aT rfl Q_LEAST_PLACES (by decide))) (rvl 2)) ad rfl) rfl) rfl (by decide) rfl rfl) (aa (rvl 1) ad rfl) rfl) rfl (by decide) rfl rfl) rfl (Or.inl rfl) (by rw [hp];rfl))) (fun _=>rfl)) (aj (aD 1 (fun i hi=>by rw [hp];exact ay (by simpa using hi)) (rvl 1))))))
noncomputable def c4:SM:=(aI (bH 5 (ag jb (ag bW (ag bW (ag eO (ag jb (ac 2) (mC (.int 2147483647))) (mC (.int 48271))) (ag eO (mC (.int 7919)) (ac 4))) (mC (.int 1))) (mC (.int 2147483647)))) (aI (bH 5 (ag jb (ag eO (ac 5) (ac 5)) (mC (.int 2147483629)))) (bH 3 (ag bW (ag eO (ac 3) (mC (.int 2147483647))) (ag jb (ag eO (ac 5) (ag bW (ac 5) (mC (.int 13)))) (mC (.int 2147483647)))))))
noncomputable def qy:SM:=(aI (bH 2 (ag bW (ag eO (mC (.int 7919)) (ac 1)) (mC (.int 13)))) (aI (sIf (cB (ag ltI (ac 1) (aE dN (ab (ac 0) aq)))) (bH 2 (ag aJ (ac 0) (ac 1))) cO) (aI (sIf (cB (ag eqX (ag jb (ac 2) (mC (.int 2))) (mC (.int 0)))) (bj 2 (jh (ab (ag tY (ac 2) (mC (.int 2))) aq))) cO) (aI (bH 3 (mC (.int 0))) (aI (cY (bm d5 (ab (mC (.int 16)) aq)) (aR 4) c4) (bj 2 (jh (ab (ac 3) aq))))))))
noncomputable def fc:Fn:=fnM [false,false] 6 qy
theorem sc_l_box:FnScope ["_law_script","_law_k","_law_here","_law_number","_law_j","_law_part"] ["_law_script","_law_k"] (ah ge):=⟨rfl,rfl,rfl,by decide +kernel,rfl,by decide +kernel,by decide +kernel⟩
theorem nc (B:Bl mg) (D:Def K mg "_law_box" ge):aK P w K mg base "_law_box" 1 ["_law_script","_law_k"] fc :=
 aM (k:=0) D sc_l_box rfl rfl (hb2 fun _ _ _ _ _ _ _ _=>rfl) fun cdv A outer s H E f G hr hp =>
  (ai (aU 2 sc_l_box.nd rfl (Or.inl rfl) (ak aF aP (ak cr bL ae (rvl 1)) ae) rfl (Or.inl rfl) (by rw [hp];rfl)) (ai (b6 (bf q9 rf (rvl 1) (aA aB bN rfl B.len cI (aa (rvl 0) ad rfl) (by decide) (by decide) rfl rfl) (aZ _)) (aj (aU 2 sc_l_box.nd rfl (Or.inl rfl) (aw (ao hr.hu) am (rvl 0) (rvl 1) (fun _ _=>rfl)) rfl (Or.inl rfl) (by rw [hp];rfl))) a7) (ai (b6 (bf (cZ hr.units) c0 (ak fe dH (rvl 2) ae) ae (aZ _)) (aj (aD 2 (fun i hi=>by rw [hp];exact ay (by simpa using hi)) (gx (aa (ak oq qo (rvl 2) ae) ad rfl)))) a7) (ai (aU 3 sc_l_box.nd rfl (Or.inl rfl) ae rfl (Or.inl rfl) (by rw [hp];rfl)) (ai (bI PassesOwn.never rfl (cj rfl B.range (aa ae ad rfl) rfl) (bc 4 sc_l_box.nd rfl (Or.inl rfl) (Or.inl rfl) (by rw [hp];rfl)) (ai (aU 5 sc_l_box.nd rfl (Or.inl rfl) (ak fe dH (ak aF aP (ak aF aP (ak cr bL (ak fe dH (rvl 2) ae) ae) (ak cr bL ae (rvl 4))) ae) ae) rfl (Or.inl rfl) (by rw [hp];rfl)) (ai (aU 5 sc_l_box.nd rfl (Or.inl rfl) (ak fe dH (ak cr bL (rvl 5) (rvl 5)) ae) rfl (Or.inl rfl) (by rw [hp];rfl)) (aj (aU 3 sc_l_box.nd rfl (Or.inl rfl) (ak aF aP (ak cr bL (rvl 3) ae) (ak fe dH (ak cr bL (rvl 5) (ak aF aP (rvl 5) ae)) ae)) rfl (Or.inl rfl) (by rw [hp];rfl))))) (fun _=>rfl)) (aj (aD 2 (fun i hi=>by rw [hp];exact ay (by simpa using hi)) (gx (aa (rvl 3) ad rfl)))))))))
noncomputable def oE:SM:=(aI (nH (t4 2 (md (aR 2) (md (aR 3) t5))) (aE o3 (ab (ag aJ (ac 0) (mC (.int 0))) (ab (ac 1) aq)))) (aI (jR pS 0 (mC (.int 0)) (ac 2)) (bj 2 (ac 3))))
noncomputable def eY:Fn:=fnM [false,false] 4 oE
theorem sc_l_take:FnScope ["_law_box_here","_law_many","_law_left","_law_digit"] ["_law_box_here","_law_many"] (ah eI):=⟨rfl,rfl,rfl,by decide +kernel,rfl,by decide +kernel,by decide +kernel⟩
theorem ls (B:Bl mg) (D:Def K mg "_law_take" eI):aK P w K mg base "_law_take" 1 ["_law_box_here","_law_many"] eY :=
 aM (k:=0) D sc_l_take rfl rfl (hb2 fun _ _ _ _ _ _ _ _=>rfl) fun cdv A outer s H E f G hr hp =>
  (ai (sD (sE rfl (jV (bc 2 sc_l_take.nd rfl (Or.inl rfl) (Or.inl rfl) (by rw [hp];rfl)) (jV (bc 3 sc_l_take.nd rfl (Or.inl rfl) (Or.inl rfl) (by rw [hp];rfl)) pY rfl) rfl) rfl rfl) (aA kM m3 rfl B.divmod pv (aa (aw (ao hr.hu) am (rvl 0) ae (fun _ _=>rfl)) (aa (rvl 1) ad rfl) rfl) (by decide) (by decide) rfl rfl) rfl rfl rfl) (ai (iX (i:=0) (iR hr.hu) lb (d8 rfl (Or.inl rfl) (by decide) (by decide)) ae (rvl 2) (fun _=>rfl) rfl rfl rfl) (aj (aD 2 (fun i hi=>by rw [hp];exact ay (by simpa using hi)) (rvl 3)))))
noncomputable def mK:SM:=(bj 1 (ji (mUn (jo "int") (ac 0)) (qA (mUn (jo "bool") (ac 0)))))
noncomputable def fu:Fn:=fnM [false] 1 mK
theorem k6:FnScope ["_law_thing"] ["_law_thing"] (ah dE):=⟨rfl,rfl,rfl,by decide +kernel,rfl,by decide +kernel,by decide +kernel⟩
theorem kO (B:Bl mg) (D:Def K mg "_law_whole" dE):aK P w K mg base "_law_whole" 1 ["_law_thing"] fu :=
 aM (k:=0) D k6 rfl rfl (hb1 fun _ _ _ _ _ _ _=>rfl) fun cdv A outer s H E f G hr hp =>
  (aj (aD 1 (fun i hi=>by rw [hp];exact ay (by simpa using hi)) (d6 (du eV rfl B.isinstance (cE (v:=V.ty "int") rfl B.int rF rfl (by decide) (by decide)) (rvl 0) rfl rfl rfl) (gw (nQ (du dU rfl B.isinstance (cE (v:=V.ty "bool") rfl B.bool pw rfl (by decide) (by decide)) (rvl 0) rfl rfl rfl))))))
noncomputable def oG:SM:=(aI (bH 3 (ag eO (ag bS (ag aJ (ac 1) (mC (.int 0))) (ag aJ (ac 0) (mC (.int 0)))) (ag bS (ag aJ (ac 2) (mC (.int 1))) (ag aJ (ac 0) (mC (.int 1)))))) (bj 3 (ag bS (ac 3) (ag eO (ag bS (ag aJ (ac 1) (mC (.int 1))) (ag aJ (ac 0) (mC (.int 1)))) (ag bS (ag aJ (ac 2) (mC (.int 0))) (ag aJ (ac 0) (mC (.int 0))))))))
noncomputable def dD:Fn:=fnM [false,false,false] 4 oG
theorem sc_l_bend:FnScope ["_law_one","_law_two","_law_three","_law_across"] ["_law_one","_law_two","_law_three"] (ah eK):=⟨rfl,rfl,rfl,by decide +kernel,rfl,by decide +kernel,by decide +kernel⟩
theorem lw (B:Bl mg) (D:Def K mg "_law_bend" eK):aK P w K mg base "_law_bend" 1 ["_law_one","_law_two","_law_three"] dD :=
 aM (k:=0) D sc_l_bend rfl rfl (hb3 fun _ _ _ _ _ _ _ _ _=>rfl) fun cdv A outer s H E f G hr hp =>
  (ai (aU 3 sc_l_bend.nd rfl (Or.inl rfl) (ak cr bL (ak aO aG (aw (ao hr.hu) am (rvl 1) ae (fun _ _=>rfl)) (aw (ao hr.hu) am (rvl 0) ae (fun _ _=>rfl))) (ak aO aG (aw (ao hr.hu) am (rvl 2) ae (fun _ _=>rfl)) (aw (ao hr.hu) am (rvl 0) ae (fun _ _=>rfl)))) rfl (Or.inl rfl) (by rw [hp];rfl)) (aj (aD 3 (fun i hi=>by rw [hp];exact ay (by simpa using hi)) (ak aO aG (rvl 3) (ak cr bL (ak aO aG (aw (ao hr.hu) am (rvl 1) ae (fun _ _=>rfl)) (aw (ao hr.hu) am (rvl 0) ae (fun _ _=>rfl))) (ak aO aG (aw (ao hr.hu) am (rvl 2) ae (fun _ _=>rfl)) (aw (ao hr.hu) am (rvl 0) ae (fun _ _=>rfl))))))))
noncomputable def fP:EM:=(av fu (ab (ac 0) aq))
noncomputable def fN:EM:=(cF (dR (ac 1)) (aR 0) gX fP [none])
noncomputable def fT:SM:=(sIf (cOr (eX (cB (mUn (jo "tuple") (ac 1)))) (cOr (cB (ag neX (aE dN (ab (ac 1) aq)) (mC (.int 2)))) (eX (cB (aE qP (ab fN aq)))))) (bj 1 (mC (.bl false))) cO)
noncomputable def fQ:M3 Bool:=(cB (ag eqX (av dD (ab (ag aJ (ac 1) (ac 0)) (ab (ag aJ (ac 1) (ac 2)) (ab (ag aJ (ac 1) (ac 3)) aq)))) (mC (.int 0))))
noncomputable def fO:EM:=(ac 0)
noncomputable def fM:EM:=(cF (bm d5 (ab (ac 3) aq)) (aR 0) fQ fO [none,some 0,some 3,some 2])
noncomputable def fS:SM:=(sIf (cB (ag neX fM (jh aq))) (bj 1 (mC (.bl false))) cO)
noncomputable def fR:SM:=(aI (sIf (qL (cB (ag gtI (ac 2) (mC (.int 0)))) (cB (ag geI (ag aJ (ag aJ (ac 0) (ag bS (ac 2) (mC (.int 1)))) (mC (.int 0))) (ag aJ (ag aJ (ac 0) (ac 2)) (mC (.int 0)))))) (bj 1 (mC (.bl false))) cO) (cY (bm d5 (ab (ac 2) aq)) (aR 3) fS))
noncomputable def jf:SM:=(aI (sIf (cOr (eX (cB (mUn (jo "tuple") (ac 0)))) (eX (cB (ff leI leI (mC (.int 1)) (aE dN (ab (ac 0) aq)) (mC (.int 24)))))) (bj 1 (mC (.bl false))) cO) (aI (cY (dR (ac 0)) (aR 1) fT) (aI (cY (bm d5 (ab (aE dN (ab (ac 0) aq)) aq)) (aR 2) fR) (bj 1 (mC (.bl true))))))
noncomputable def a9:Fn:=fnM [false] 4 jf
theorem sc_l_is_sheet:FnScope ["_law_thing","_law_point","_law_k","_law_j"] ["_law_thing"] (ah cf):=⟨rfl,rfl,rfl,by decide +kernel,rfl,by decide +kernel,by decide +kernel⟩
theorem gT (B:Bl mg) (D:Def K mg "_law_is_sheet" cf) (C__law_bend:aK P w K mg base "_law_bend" 1 ["_law_one","_law_two","_law_three"] dD) (C__law_whole:aK P w K mg base "_law_whole" 1 ["_law_thing"] fu):aK P w K mg base "_law_is_sheet" 2 ["_law_thing"] a9 :=
 aM (k:=1) D sc_l_is_sheet rfl rfl (hb1 fun _ _ _ _ _ _ _=>rfl) fun cdv A outer s H E f G hr hp =>
  (ai (b6 (iW (eL (cK (dl (du bO rfl B.isinstance (cE (v:=V.ty "tuple") rfl B.tuple dJ rfl (by decide) (by decide)) (rvc 0) rfl rfl rfl) (fun _=>rfl))) (dZ (cK (jS fw iB fw iB ae (aA aB bN rfl B.len cI (aa (rvc 0) ad rfl) (by decide) (by decide) rfl rfl) ae (by with_unfolding_all rfl)))))) (aj (aD 1 (fun i hi=>by rw [hp];exact ay (by simpa using hi)) dw)) a7) (ai (bI PassesOwn.never rfl (dn (rvc 0)) (bc 1 sc_l_is_sheet.nd rfl (Or.inl rfl) (Or.inl rfl) (by rw [hp];rfl)) (aj (b6 (iW (eL (cK (dl (du bO rfl B.isinstance (cE (v:=V.ty "tuple") rfl B.tuple dJ rfl (by decide) (by decide)) (rvl 1) rfl rfl rfl) (fun _=>rfl))) (eL (bf (i9 hr.units) ja (aA aB bN rfl B.len cI (aa (rvl 1) ad rfl) (by decide) (by decide) rfl rfl) ae (aZ _)) (dZ (cK (dl (aA (gR rfl) lq rfl B.all pz (aa (bK ["_law_one"] [none] rfl (dn (rvl 1)) (fun s H C fp=>bJ) (fun s H C fp=>(au C__law_whole (hr.mono (by decide)) (aa (rvl 0) ad rfl) rfl (by decide) rfl rfl)) (by rfl) (cy (by decide)) (fun _=>rfl) ⟨_,bt rfl,fun s H C fp=>bC (i:=0) (show (["_law_one"]:List Str).Nodup by decide +kernel) rfl (Or.inl rfl) (Or.inr rfl)⟩) ad rfl) (by decide) (by decide) rfl rfl) (fun _=>rfl))))))) (aj (aD 1 (fun i hi=>by rw [hp];exact ay (by simpa using hi)) dw)) a7)) (fun _=>rfl)) (ai (bI PassesOwn.never rfl (cj rfl B.range (aa (aA aB bN rfl B.len cI (aa (rvc 0) ad rfl) (by decide) (by decide) rfl rfl) ad rfl) rfl) (bc 2 sc_l_is_sheet.nd rfl (Or.inr rfl) (Or.inl rfl) (by rw [hp];rfl)) (ai (b6 (iW (nI (bf lL lM (rvc 2) ae (aZ _)) (lB (bf re rg (aw (ao hr.hu) am (aw (ao hr.hu) am (rvc 0) (ak aO aG (rvc 2) ae) (fun _ _=>rfl)) ae (fun _ _=>rfl)) (aw (ao hr.hu) am (aw (ao hr.hu) am (rvc 0) (rvc 2) (fun _ _=>rfl)) ae (fun _ _=>rfl)) (aZ _))))) (aj (aD 1 (fun i hi=>by rw [hp];exact ay (by simpa using hi)) dw)) a7) (aj (bI PassesOwn.never rfl (cj rfl B.range (aa (rvc 2) ad rfl) rfl) (bc 3 sc_l_is_sheet.nd rfl (Or.inr rfl) (Or.inl rfl) (by rw [hp];rfl)) (aj (b6 (bf (i9 hr.units) ja (bK ["_law_i","_law_thing","_law_j","_law_k"] [none,some 0,some 3,some 2] rfl (cj rfl B.range (aa (rvc 3) ad rfl) rfl) (fun s H C fp=>(jT (bf (cZ hr.units) c0 (au C__law_bend (hr.mono (by decide)) (aa (aw (ao hr.hu) am (rvc 1) (rvl 0) (fun _ _=>rfl)) (aa (aw (ao hr.hu) am (rvc 1) (rvc 2) (fun _ _=>rfl)) (aa (aw (ao hr.hu) am (rvc 1) (rvc 3) (fun _ _=>rfl)) ad rfl) rfl) rfl) rfl (by decide) rfl rfl) ae (aZ _)))) (fun s H C fp=>(rvl 0)) (by rfl) (cy (by decide)) (fun _=>rfl) ⟨_,bt rfl,fun s H C fp=>bC (i:=0) (show (["_law_i","_law_thing","_law_j","_law_k"]:List Str).Nodup by decide +kernel) rfl (Or.inl rfl) (Or.inr rfl)⟩) (gx ad) (aZ _)) (aj (aD 1 (fun i hi=>by rw [hp];exact ay (by simpa using hi)) dw)) a7)) (fun _=>rfl)))) (fun _=>rfl)) (aj (aD 1 (fun i hi=>by rw [hp];exact ay (by simpa using hi)) dw)))))
noncomputable def ky:SM:=(sIf (qL (cB (ag inT (fY (ab (ac 8) (ab (ac 6) aq))) (ac 3))) (cB (ag eqX (ag gtI (av dD (ab (ag aJ (ac 0) (ac 8)) (ab (ag aJ (ac 0) (ac 6)) (ab (ag aJ (ac 0) (ac 5)) aq)))) (mC (.int 0))) (ac 2)))) (c9 (qB isL appF 7 (ab (ag bW (ag aJ (ac 3) (fY (ab (ac 8) (ab (ac 6) aq)))) (mC (.int 1))) aq))) cO)
noncomputable def ku:SM:=(aI (bH 7 (jh (ab (mC (.int 0)) aq))) (aI (cY (bm hX (ab (ac 1) (ab (ac 6) aq))) (aR 8) ky) (sIf (cB (ag gtI (aE j9 (ab (ac 7) aq)) (mC (.int 0)))) (jR pS 3 (fY (ab (ac 6) (ab (ac 5) aq))) (aE j9 (ab (ac 7) aq))) cO)))
noncomputable def ko:M3 Bool:=(cB (ag inT (fY (ab (ac 0) (ab (ac 2) aq))) (ac 1)))
noncomputable def kn:EM:=(ag aJ (ac 1) (fY (ab (ac 0) (ab (ac 2) aq))))
noncomputable def km:EM:=(cF (bm hX (ab (ac 1) (ab (ac 5) aq))) (aR 0) ko kn [none,some 3,some 5])
noncomputable def kr:SM:=(aI (jR pS 3 (fY (ab (ac 1) (ab (ac 5) aq))) (mC (.int 2))) (aI (cY (bm hX (ab (ag bW (ac 1) (mC (.int 1))) (ab (ac 5) aq))) (aR 6) ku) (jR lK 4 (ac 5) (aE j9 (ab km aq)))))
noncomputable def oF:SM:=(aI (bH 3 oH) (aI (bH 4 oI) (aI (cY (bm hX (ab (ag bW (ac 1) (mC (.int 1))) (ab (aE dN (ab (ac 0) aq)) aq))) (aR 5) kr) (bj 3 (ac 4)))))
noncomputable def eZ:Fn:=fnM [false,false,false] 9 oF
theorem sc_l_from:FnScope ["_law_sheet","_law_p","_law_up","_law_told","_law_found","_law_j","_law_i","_law_some","_law_h"] ["_law_sheet","_law_p","_law_up"] (ah eJ):=⟨rfl,rfl,rfl,by decide +kernel,rfl,by decide +kernel,by decide +kernel⟩
theorem lu (B:Bl mg) (D:Def K mg "_law_from" eJ) (C__law_bend:aK P w K mg base "_law_bend" 1 ["_law_one","_law_two","_law_three"] dD):aK P w K mg base "_law_from" 2 ["_law_sheet","_law_p","_law_up"] eZ :=
 aM (k:=1) D sc_l_from rfl rfl (hb3 fun _ _ _ _ _ _ _ _ _=>rfl) fun cdv A outer s H E f G hr hp =>
  (ai (aU 3 sc_l_from.nd rfl (Or.inr rfl) nU rfl (Or.inl rfl) (by rw [hp];rfl)) (ai (aU 4 sc_l_from.nd rfl (Or.inl rfl) nV rfl (Or.inl rfl) (by rw [hp];rfl)) (ai (bI PassesOwn.never rfl (dG rfl B.range (aa (ak aF aP (rvl 1) ae) (aa (aA aB bN rfl B.len cI (aa (rvl 0) ad rfl) (by decide) (by decide) rfl rfl) ad rfl) rfl) rfl rfl) (bc 5 sc_l_from.nd rfl (Or.inr rfl) (Or.inl rfl) (by rw [hp];rfl)) (ai (iX (i:=3) (iR hr.hu) lb (d8 rfl (Or.inr (Or.inl rfl)) (by decide) (by decide)) (cL (aa (rvl 1) (aa (rvc 5) ad rfl) rfl)) ae (fun _=>rfl) rfl rfl rfl) (ai (bI PassesOwn.never rfl (dG rfl B.range (aa (ak aF aP (rvl 1) ae) (aa (rvc 5) ad rfl) rfl) rfl rfl) (bc 6 sc_l_from.nd rfl (Or.inl rfl) (Or.inl rfl) (by rw [hp];rfl)) (ai (aU 7 sc_l_from.nd rfl (Or.inl rfl) (gx (aa ae ad rfl)) rfl (Or.inl rfl) (by rw [hp];rfl)) (ai (bI PassesOwn.never rfl (dG rfl B.range (aa (rvl 1) (aa (rvl 6) ad rfl) rfl) rfl rfl) (bc 8 sc_l_from.nd rfl (Or.inl rfl) (Or.inl rfl) (by rw [hp];rfl)) (aj (b6 (iW (nI (bf (om hr.hu) ow (cL (aa (rvl 8) (aa (rvl 6) ad rfl) rfl)) (rvc 3) (by with_unfolding_all rfl)) (lB (bf (cZ hr.units) c0 (iY lL lM (au C__law_bend (hr.mono (by decide)) (aa (aw (ao hr.hu) am (rvl 0) (rvl 8) (fun _ _=>rfl)) (aa (aw (ao hr.hu) am (rvl 0) (rvl 6) (fun _ _=>rfl)) (aa (aw (ao hr.hu) am (rvl 0) (rvc 5) (fun _ _=>rfl)) ad rfl) rfl) rfl) rfl (by decide) rfl rfl) ae (aZ _)) (rvl 2) (aZ _))))) (aj (bZ (lD (ok:=isL) PySem.F.plainAttrs_list PySem.F.slot_list_append PySem.F.type_list_append mH tF oO (d8 (i:=7) rfl (Or.inl rfl) (by decide) (by decide)) (aa (ak aF aP (aw (ao hr.hu) am (rvc 3) (cL (aa (rvl 8) (aa (rvl 6) ad rfl) rfl)) (fun _ _=>rfl)) ae) ad rfl) rfl rfl rfl rfl rfl) rfl)) a7)) (fun _=>rfl)) (aj (b6 (bf lL lM (aA (dI rfl) gj rfl B.max gZ (aa (rvl 7) ad rfl) (by decide) (by decide) rfl rfl) ae (aZ _)) (aj (iX (i:=3) (iR hr.hu) lb (d8 rfl (Or.inr (Or.inl rfl)) (by decide) (by decide)) (cL (aa (rvl 6) (aa (rvc 5) ad rfl) rfl)) (aA (dI rfl) gj rfl B.max gZ (aa (rvl 7) ad rfl) (by decide) (by decide) rfl rfl) (fun _=>rfl) rfl rfl rfl)) a7)))) (fun _=>rfl)) (aj (iX (i:=4) (jN hr.hu) qv (d8 rfl (Or.inl rfl) (by decide) (by decide)) (rvc 5) (aA (dI rfl) gj rfl B.max gZ (aa (bK ["_law_i","_law_told","_law_j"] [none,some 3,some 5] rfl (dG rfl B.range (aa (rvl 1) (aa (rvc 5) ad rfl) rfl) rfl rfl) (fun s H C fp=>(jT (bf (om hr.hu) ow (cL (aa (rvl 0) (aa (rvc 2) ad rfl) rfl)) (rvc 1) (by with_unfolding_all rfl)))) (fun s H C fp=>(aw (ao hr.hu) am (rvc 1) (cL (aa (rvl 0) (aa (rvc 2) ad rfl) rfl)) (fun _ _=>rfl))) (by rfl) (cy (by decide)) (fun _=>rfl) ⟨_,bt rfl,fun s H C fp=>bC (i:=0) (show (["_law_i","_law_told","_law_j"]:List Str).Nodup by decide +kernel) rfl (Or.inl rfl) (Or.inr rfl)⟩) ad rfl) (by decide) (by decide) rfl rfl) (fun _=>rfl) rfl rfl rfl)))) (fun _=>rfl)) (aj (aD 3 (fun i hi=>by rw [hp];exact ay (by simpa using hi)) (rvl 4))))))
noncomputable def fU:SM:=(bH 1 (aE oC (ab (ac 1) (ab (ag bS (ag bW (ag oW (ac 3) (ac 5)) (ag oW (ac 4) (ac 5))) (mC (.int 2))) aq))))
noncomputable def al:SM:=(aI (sA 3 4 (ab (av eZ (ab (ac 0) (ab (ac 2) (ab (mC (.bl true)) aq)))) (ab (av eZ (ab (ac 0) (ab (ac 2) (ab (mC (.bl false)) aq)))) aq))) (cY (jq (ac 3)) (aR 5) fU))
noncomputable def eP:SM:=(aI (bH 1 (mC (.int 2))) (aI (cY (bm d5 (ab (aE dN (ab (ac 0) aq)) aq)) (aR 2) al) (bj 1 (ac 1))))
noncomputable def ba:Fn:=fnM [false] 6 eP
theorem sc_l_greatest:FnScope ["_law_sheet","_law_best","_law_p","_law_low","_law_high","_law_j"] ["_law_sheet"] (ah cg):=⟨rfl,rfl,rfl,by decide +kernel,rfl,by decide +kernel,by decide +kernel⟩
theorem gU (B:Bl mg) (D:Def K mg "_law_greatest" cg) (C__law_from:aK P w K mg base "_law_from" 2 ["_law_sheet","_law_p","_law_up"] eZ):aK P w K mg base "_law_greatest" 3 ["_law_sheet"] ba :=
 aM (k:=2) D sc_l_greatest rfl rfl (hb1 fun _ _ _ _ _ _ _=>rfl) fun cdv A outer s H E f G hr hp =>
  (ai (aU 1 sc_l_greatest.nd rfl (Or.inl rfl) ae rfl (Or.inl rfl) (by rw [hp];rfl)) (ai (bI PassesOwn.never rfl (cj rfl B.range (aa (aA aB bN rfl B.len cI (aa (rvl 0) ad rfl) (by decide) (by decide) rfl rfl) ad rfl) rfl) (bc 2 sc_l_greatest.nd rfl (Or.inl rfl) (Or.inl rfl) (by rw [hp];rfl)) (ai (sC 3 4 rfl sc_l_greatest.nd rfl rfl (by decide) rfl rfl (aa (au C__law_from (hr.mono (by decide)) (aa (rvl 0) (aa (rvl 2) (aa dw ad rfl) rfl) rfl) rfl (by decide) rfl rfl) (aa (au C__law_from (hr.mono (by decide)) (aa (rvl 0) (aa (rvl 2) (aa dw ad rfl) rfl) rfl) rfl (by decide) rfl rfl) ad rfl) rfl) rfl rfl (by rw [hp];rfl) (by rw [hp];rfl)) (aj (bI PassesOwn.never rfl (nN (rvl 3)) (bc 5 sc_l_greatest.nd rfl (Or.inl rfl) (Or.inl rfl) (by rw [hp];rfl)) (aj (aU 1 sc_l_greatest.nd rfl (Or.inl rfl) (aA (iK rfl) l8 rfl B.max gZ (aa (rvl 1) (aa (ak aO aG (ak aF aP (aw (jn hr.hu) lN (rvl 3) (rvl 5) (fun _ _=>rfl)) (aw (jn hr.hu) lN (rvl 4) (rvl 5) (fun _ _=>rfl))) ae) ad rfl) rfl) (by decide) (by decide) rfl rfl) rfl (Or.inl rfl) (by rw [hp];rfl))) (fun _=>rfl)))) (fun _=>rfl)) (aj (aD 1 (fun i hi=>by rw [hp];exact ay (by simpa using hi)) (rvl 1)))))
noncomputable def dA:SM:=(aI (bH 3 (ag bW (mC (.int 3)) (ag jb (ag bW (ac 1) (ac 2)) (mC (.int 4))))) (aI (bH 4 (av bo (ab (ac 3) aq))) (aI (sIf (cOr (eX (cB (av a9 (ab (ac 4) aq)))) (cOr (cB (ag neX (aE dN (ab (ac 4) aq)) (ag so (mC (.int 1)) (ag bS (ac 3) (mC (.int 2)))))) (cB (ag neX (av bo (ab (ac 3) aq)) (ac 4))))) (bj 1 (mC (.bl false))) cO) (sIf (cB (ag geI (av ba (ab (ac 4) aq)) (ac 3))) (bj 1 (mC (.bl false))) cO))))
noncomputable def rl:SM:=(aI (bH 1 (av eY (ab (av fc (ab (ac 0) (ab (mC (.int 0)) aq))) (ab (mC (.int 4)) aq)))) (aI (cY (bm d5 (ab (mC (.int 2)) aq)) (aR 2) dA) (bj 1 (mC (.bl true)))))
noncomputable def rG:Fn:=fnM [false] 5 rl
theorem sc_law:FnScope ["_law_script","_law_begun","_law_lap","_law_many","_law_found"] ["_law_script"] (ah dj):=⟨rfl,rfl,rfl,by decide +kernel,rfl,by decide +kernel,by decide +kernel⟩
theorem qJ {f:Addr} {fd:FuncData} (B:Bl mg) (D:Fun K "law" "law" dj f fd) (C__law_box:aK P w K mg base "_law_box" 1 ["_law_script","_law_k"] fc) (C__law_greatest:aK P w K mg base "_law_greatest" 3 ["_law_sheet"] ba) (C__law_is_sheet:aK P w K mg base "_law_is_sheet" 2 ["_law_thing"] a9) (C__law_take:aK P w K mg base "_law_take" 1 ["_law_box_here","_law_many"] eY) (C_ringless:aK P w K mg base "ringless" 34 ["many"] bo):FnOk P w K mg base CX0 35 f fd ["_law_script"] (mn K rG) :=
 tU (k:=34) D sc_law rfl rfl fun cdv A outer s H E f G hr hp =>
  (ai (aU 1 sc_law.nd rfl (Or.inl rfl) (au C__law_take (hr.mono (by decide)) (aa (au C__law_box (hr.mono (by decide)) (aa (rvl 0) (aa ae ad rfl) rfl) rfl (by decide) rfl rfl) (aa ae ad rfl) rfl) rfl (by decide) rfl rfl) rfl (Or.inl rfl) (by rw [hp];rfl)) (ai (bI PassesOwn.never rfl (cj rfl B.range (aa ae ad rfl) rfl) (bc 2 sc_law.nd rfl (Or.inl rfl) (Or.inl rfl) (by rw [hp];rfl)) (ai (aU 3 sc_law.nd rfl (Or.inl rfl) (ak aF aP ae (ak fe dH (ak aF aP (rvl 1) (rvl 2)) ae)) rfl (Or.inl rfl) (by rw [hp];rfl)) (ai (aU 4 sc_law.nd rfl (Or.inl rfl) (au C_ringless (hr.mono (by decide)) (aa (rvl 3) ad rfl) rfl (by decide) rfl rfl) rfl (Or.inl rfl) (by rw [hp];rfl)) (ai (b6 (iW (eL (cK (dl (au C__law_is_sheet (hr.mono (by decide)) (aa (rvl 4) ad rfl) rfl (by decide) rfl rfl) (fun _=>rfl))) (eL (bf (i9 hr.units) ja (aA aB bN rfl B.len cI (aa (rvl 4) ad rfl) (by decide) (by decide) rfl rfl) (ak tf tq ae (ak aO aG (rvl 3) ae)) (aZ _)) (dZ (bf (i9 hr.units) ja (au C_ringless (hr.mono (by decide)) (aa (rvl 3) ad rfl) rfl (by decide) rfl rfl) (rvl 4) (aZ _)))))) (aj (aD 1 (fun i hi=>by rw [hp];exact ay (by simpa using hi)) dw)) a7) (aj (b6 (bf re rg (au C__law_greatest (hr.mono (by decide)) (aa (rvl 4) ad rfl) rfl (by decide) rfl rfl) (rvl 3) (aZ _)) (aj (aD 1 (fun i hi=>by rw [hp];exact ay (by simpa using hi)) dw)) a7))))) (fun _=>rfl)) (aj (aD 1 (fun i hi=>by rw [hp];exact ay (by simpa using hi)) dw))))
end
set_option tactic.hygienic true in
theorem nJ (n m:Int) (h:0 < m/\m < 1073741824):eY [(.lst [.int n],.u),(.int m,.z)]=some (.ok (.int (n % m),.z),[(.lst [.int (n / m)],.u),(.int m,.z)]):=by
 have hd:o3 [.int n,.int m]=some (.tup [.int (n / m),.int (n % m)],.z):=by simp [c2,lT,h]
 apply kT (ρ:=[some (.lst [.int n],.u),some (.int m,.z),none,none]) rfl rfl
 ·apply bu
  ·(repeat' (first | infer_instance | exact hd | eq_refl))
  ·apply bu
   ·(repeat' (first | infer_instance | eq_refl))
   ·(repeat' (first | infer_instance | eq_refl))
 ·rfl
theorem jt (c:Int) (m:Int) (h:0 < m):0<=c % m/\c % m < m:=⟨Int.emod_nonneg _ (by omega),Int.emod_lt_of_pos _ h⟩
set_option tactic.hygienic true in
theorem pq (S kk:L3.D) (c n j:Int) (v5:Option (L3.D × Fl)):∃ n' p',c4 [some (S,.z),some (kk,.z),some (.int c,.z),some (.int n,.z),some (.int j,.z),v5]=some (.ok .nx,[some (S,.z),some (kk,.z),some (.int c,.z),some (.int n',.z),some (.int j,.z),some (.int p',.z)]):=by
 have b:∀ x:Int,-18446744073709551616 < x % 2147483647/\x % 2147483647 < 18446744073709551616:=fun x=>by have:=jt x 2147483647 (by decide);omega
 have b2:∀ x:Int,-18446744073709551616 < x % 2147483629/\x % 2147483629 < 18446744073709551616:=fun x=>by have:=jt x 2147483629 (by decide);omega
 apply Exists.intro
 apply Exists.intro
 apply bu
 ·(repeat' (first | infer_instance | exact rh (by decide) | exact j5 (by decide) | eq_refl))
 ·apply bu
  ·(repeat' (first | infer_instance | exact j5 (b _) | eq_refl))
  ·(repeat' (first | infer_instance | exact rh (by decide) | exact j5 (b2 _) | eq_refl))
set_option tactic.hygienic true in
theorem kP (S kk:L3.D) (c:Int):∃ (n:Int) (v3 v4 v5:Option (L3.D × Fl)),(aI (sIf (cB (ag eqX (ag jb (ac 2) (mC (.int 2))) (mC (.int 0)))) (bj 2 (jh (ab (ag tY (ac 2) (mC (.int 2))) aq))) cO) (aI (bH 3 (mC (.int 0))) (aI (cY (bm d5 (ab (mC (.int 16)) aq)) (aR 4) c4) (bj 2 (jh (ab (ac 3) aq)))))) [some (S,.z),some (kk,.z),some (.int c,.z),none,none,none]=some (.ok (.rt (.lst [.int n]) .u),[some (S,.z),some (kk,.z),some (.int c,.z),v3,v4,v5]):=by
 by_cases h:c % 2=0
 ·refine ⟨c / 2,none,none,none,?_⟩
  apply su
  apply rp
  ·(repeat' (first | infer_instance | eq_refl))
  ·exact uD h
  ·(repeat' (first | infer_instance | eq_refl))
 ·obtain ⟨ρ',e,n,v4,v5,rfl⟩:=gJ (bnd:=aR 4) (b:=c4) (fun _ ρ=>∃ (n:Int) (v4 v5:Option (L3.D × Fl)),ρ=[some (S,.z),some (kk,.z),some (.int c,.z),some (.int n,.z),v4,v5]) (ds:=dm 0 16) (ρ:=[some (S,.z),some (kk,.z),some (.int c,.z),some (.int 0,.z),none,none]) (k:=0) ⟨0,none,none,rfl⟩ (by
   rintro i d ρ hd ⟨n,v4,v5,rfl⟩
   obtain ⟨hi,rfl⟩:=jU hd
   obtain ⟨n',p',e⟩:=pq S kk c n (0+(i:Int)) v5
   exact ⟨_,_,rfl,.inl e,_,_,_,rfl⟩)
  refine ⟨n,some (.int n,.z),v4,v5,?_⟩
  apply bu
  ·apply lV
   ·(repeat' (first | infer_instance | eq_refl))
   ·exact uE h
   ·rfl
  apply bu
  ·(repeat' (first | infer_instance | eq_refl))
  apply bu
  ·apply oS
   ·exact lU (by (repeat' (first | infer_instance | eq_refl))) rfl (lC (n:=16) (by decide) (by decide))
   ·rfl
   ·exact e
  ·(repeat' (first | infer_instance | eq_refl))
set_option tactic.hygienic true in
theorem pW (ns:List Int) (k:Nat):∃ n:Int,fc [(.fls (ns.map .int),.z),(.int k,.z)]=some (.ok (.lst [.int n],.u),[(.fls (ns.map .int),.z),(.int k,.z)]):=by
 by_cases h:k < ns.length
 ·obtain ⟨n,v3,v4,v5,e⟩:=kP (.fls (ns.map .int)) (.int k) ns[k]
  refine ⟨n,?_⟩
  have a:aJ (.fls (ns.map .int)) (.int (k:Int))=some (.int ns[k],.z):=by
   have:L2.atI (ns.map L3.D.int) (k:Int)=some (.int ns[k]):=qN (by simp [h])
   simp [orD,ixD,this]
  have hk:(k:Int) < ((ns.map L3.D.int).length:Int):=by simp;omega
  generalize (k:Int)=kk at *
  apply kT (ρ:=[some (.fls (ns.map .int),.z),some (.int kk,.z),none,none,none,none]) rfl rfl
  ·apply bu
   ·(repeat' (first | infer_instance | exact j5 (by decide) | eq_refl))
   apply bu
   ·apply rp
    ·(repeat' (first | infer_instance | eq_refl))
    ·exact uD hk
    ·(repeat' (first | infer_instance | exact a | eq_refl))
   ·exact e
  ·rfl
 ·obtain ⟨n,v3,v4,v5,e⟩:=kP (.fls (ns.map .int)) (.int k) (7919 * (k:Int)+13)
  refine ⟨n,?_⟩
  have hk:¬ (k:Int) < ((ns.map L3.D.int).length:Int):=by simp;omega
  generalize (k:Int)=kk at *
  apply kT (ρ:=[some (.fls (ns.map .int),.z),some (.int kk,.z),none,none,none,none]) rfl rfl
  ·apply bu
   ·(repeat' (first | infer_instance | exact j5 (by decide) | eq_refl))
   apply bu
   ·apply lV
    ·(repeat' (first | infer_instance | eq_refl))
    ·exact uE hk
    ·rfl
   ·exact e
  ·rfl
noncomputable abbrev sh3:L3.D:=.tup [.tup [.int 0,.int 0],.tup [.int 1,.int 1]]
noncomputable abbrev sh4:L3.D:=.tup [.tup [.int 0,.int 0],.tup [.int 1,.int 10],.tup [.int 2,.int 11],.tup [.int 3,.int 14]]
noncomputable abbrev sh5:L3.D:=.tup [.tup [.int 0,.int 0],.tup [.int 1,.int 428],.tup [.int 2,.int 431],.tup [.int 3,.int 432],.tup [.int 4,.int 493],.tup [.int 5,.int 494],.tup [.int 6,.int 497],.tup [.int 7,.int 507]]
noncomputable abbrev sh6:L3.D:=.tup [.tup [.int 0,.int 0],.tup [.int 1,.int 86326],.tup [.int 2,.int 86336],.tup [.int 3,.int 86339],.tup [.int 4,.int 86340],.tup [.int 5,.int 92095],.tup [.int 6,.int 92098],.tup [.int 7,.int 92099],.tup [.int 8,.int 92115],.tup [.int 9,.int 92116],.tup [.int 10,.int 92119],.tup [.int 11,.int 92530],.tup [.int 12,.int 92531],.tup [.int 13,.int 92534],.tup [.int 14,.int 92544],.tup [.int 15,.int 92585]]
theorem fr3:bo [(.int 3,.z)]=some (.ok (sh3,.z),[(.int 3,.z)]):=by kernel_rfl
theorem fs3:a9 [(sh3,.z)]=some (.ok (.bl true,.z),[(sh3,.z)]):=by kernel_rfl
theorem fg3:ba [(sh3,.z)]=some (.ok (.int 2,.z),[(sh3,.z)]):=by kernel_rfl
theorem fr4:bo [(.int 4,.z)]=some (.ok (sh4,.z),[(.int 4,.z)]):=by kernel_rfl
theorem fs4:a9 [(sh4,.z)]=some (.ok (.bl true,.z),[(sh4,.z)]):=by kernel_rfl
theorem fg4:ba [(sh4,.z)]=some (.ok (.int 3,.z),[(sh4,.z)]):=by kernel_rfl
theorem fr5:bo [(.int 5,.z)]=some (.ok (sh5,.z),[(.int 5,.z)]):=by kernel_rfl
theorem fs5:a9 [(sh5,.z)]=some (.ok (.bl true,.z),[(sh5,.z)]):=by kernel_rfl
theorem fg5:ba [(sh5,.z)]=some (.ok (.int 4,.z),[(sh5,.z)]):=by kernel_rfl
theorem fr6:bo [(.int 6,.z)]=some (.ok (sh6,.z),[(.int 6,.z)]):=by kernel_rfl
theorem fs6:a9 [(sh6,.z)]=some (.ok (.bl true,.z),[(sh6,.z)]):=by kernel_rfl
theorem bd {bnd:L3.D->Sto->Option Sto} {b:SM} {d:L3.D} {ds:List L3.D} {ρ ρ1 ρ2:Sto} {r:Option (Except L3.D Flw × Sto)} (h1:bnd d ρ=some ρ1) (h2:b ρ1=some (.ok .nx,ρ2)) (h3:dO bnd b ds ρ2=r):dO bnd b (d :: ds) ρ=r:=by
 rw [<- h3]
 simp only [dO,h1,af,h2]
theorem gs0:al [some (sh6,.z),some (.int 2,.z),some (.int 0,.z),none,none,none]=some (.ok .nx,[some (sh6,.z),some (.int 5,.z),some (.int 0,.z),some (.dk [(.inl 1,.int 2),(.inl 2,.int 2),(.inl 3,.int 2),(.inl 4,.int 2),(.inl 5,.int 2),(.inl 6,.int 2),(.inl 7,.int 2),(.inl 8,.int 2),(.inl 9,.int 2),(.inl 10,.int 2),(.inl 11,.int 2),(.inl 12,.int 2),(.inl 13,.int 2),(.inl 14,.int 2),(.inl 15,.int 2)],.z),some (.dk [(.inl 1,.int 2),(.inl 2,.int 3),(.inl 3,.int 4),(.inl 4,.int 5),(.inl 5,.int 3),(.inl 6,.int 4),(.inl 7,.int 5),(.inl 8,.int 4),(.inl 9,.int 5),(.inl 10,.int 5),(.inl 11,.int 4),(.inl 12,.int 5),(.inl 13,.int 5),(.inl 14,.int 5),(.inl 15,.int 5)],.z),some (.int 15,.z)]):=by kernel_rfl
theorem gs1:al [some (sh6,.z),some (.int 5,.z),some (.int 1,.z),some (.dk [(.inl 1,.int 2),(.inl 2,.int 2),(.inl 3,.int 2),(.inl 4,.int 2),(.inl 5,.int 2),(.inl 6,.int 2),(.inl 7,.int 2),(.inl 8,.int 2),(.inl 9,.int 2),(.inl 10,.int 2),(.inl 11,.int 2),(.inl 12,.int 2),(.inl 13,.int 2),(.inl 14,.int 2),(.inl 15,.int 2)],.z),some (.dk [(.inl 1,.int 2),(.inl 2,.int 3),(.inl 3,.int 4),(.inl 4,.int 5),(.inl 5,.int 3),(.inl 6,.int 4),(.inl 7,.int 5),(.inl 8,.int 4),(.inl 9,.int 5),(.inl 10,.int 5),(.inl 11,.int 4),(.inl 12,.int 5),(.inl 13,.int 5),(.inl 14,.int 5),(.inl 15,.int 5)],.z),some (.int 15,.z)]=some (.ok .nx,[some (sh6,.z),some (.int 5,.z),some (.int 1,.z),some (.dk [(.inl 2,.int 2),(.inl 3,.int 2),(.inl 4,.int 2),(.inl 5,.int 3),(.inl 6,.int 3),(.inl 7,.int 3),(.inl 8,.int 3),(.inl 9,.int 3),(.inl 10,.int 3),(.inl 11,.int 3),(.inl 12,.int 3),(.inl 13,.int 3),(.inl 14,.int 3),(.inl 15,.int 3)],.z),some (.dk [(.inl 2,.int 2),(.inl 3,.int 3),(.inl 4,.int 4),(.inl 5,.int 2),(.inl 6,.int 3),(.inl 7,.int 4),(.inl 8,.int 3),(.inl 9,.int 4),(.inl 10,.int 4),(.inl 11,.int 3),(.inl 12,.int 4),(.inl 13,.int 4),(.inl 14,.int 4),(.inl 15,.int 4)],.z),some (.int 15,.z)]):=by kernel_rfl
theorem gs2:al [some (sh6,.z),some (.int 5,.z),some (.int 2,.z),some (.dk [(.inl 2,.int 2),(.inl 3,.int 2),(.inl 4,.int 2),(.inl 5,.int 3),(.inl 6,.int 3),(.inl 7,.int 3),(.inl 8,.int 3),(.inl 9,.int 3),(.inl 10,.int 3),(.inl 11,.int 3),(.inl 12,.int 3),(.inl 13,.int 3),(.inl 14,.int 3),(.inl 15,.int 3)],.z),some (.dk [(.inl 2,.int 2),(.inl 3,.int 3),(.inl 4,.int 4),(.inl 5,.int 2),(.inl 6,.int 3),(.inl 7,.int 4),(.inl 8,.int 3),(.inl 9,.int 4),(.inl 10,.int 4),(.inl 11,.int 3),(.inl 12,.int 4),(.inl 13,.int 4),(.inl 14,.int 4),(.inl 15,.int 4)],.z),some (.int 15,.z)]=some (.ok .nx,[some (sh6,.z),some (.int 5,.z),some (.int 2,.z),some (.dk [(.inl 3,.int 2),(.inl 4,.int 2),(.inl 5,.int 3),(.inl 6,.int 3),(.inl 7,.int 3),(.inl 8,.int 3),(.inl 9,.int 3),(.inl 10,.int 3),(.inl 11,.int 3),(.inl 12,.int 3),(.inl 13,.int 3),(.inl 14,.int 3),(.inl 15,.int 3)],.z),some (.dk [(.inl 3,.int 2),(.inl 4,.int 3),(.inl 5,.int 2),(.inl 6,.int 3),(.inl 7,.int 4),(.inl 8,.int 3),(.inl 9,.int 4),(.inl 10,.int 4),(.inl 11,.int 3),(.inl 12,.int 4),(.inl 13,.int 4),(.inl 14,.int 4),(.inl 15,.int 4)],.z),some (.int 15,.z)]):=by kernel_rfl
theorem gs3:al [some (sh6,.z),some (.int 5,.z),some (.int 3,.z),some (.dk [(.inl 3,.int 2),(.inl 4,.int 2),(.inl 5,.int 3),(.inl 6,.int 3),(.inl 7,.int 3),(.inl 8,.int 3),(.inl 9,.int 3),(.inl 10,.int 3),(.inl 11,.int 3),(.inl 12,.int 3),(.inl 13,.int 3),(.inl 14,.int 3),(.inl 15,.int 3)],.z),some (.dk [(.inl 3,.int 2),(.inl 4,.int 3),(.inl 5,.int 2),(.inl 6,.int 3),(.inl 7,.int 4),(.inl 8,.int 3),(.inl 9,.int 4),(.inl 10,.int 4),(.inl 11,.int 3),(.inl 12,.int 4),(.inl 13,.int 4),(.inl 14,.int 4),(.inl 15,.int 4)],.z),some (.int 15,.z)]=some (.ok .nx,[some (sh6,.z),some (.int 5,.z),some (.int 3,.z),some (.dk [(.inl 4,.int 2),(.inl 5,.int 3),(.inl 6,.int 3),(.inl 7,.int 3),(.inl 8,.int 3),(.inl 9,.int 3),(.inl 10,.int 3),(.inl 11,.int 3),(.inl 12,.int 3),(.inl 13,.int 3),(.inl 14,.int 3),(.inl 15,.int 3)],.z),some (.dk [(.inl 4,.int 2),(.inl 5,.int 2),(.inl 6,.int 3),(.inl 7,.int 4),(.inl 8,.int 3),(.inl 9,.int 4),(.inl 10,.int 4),(.inl 11,.int 3),(.inl 12,.int 4),(.inl 13,.int 4),(.inl 14,.int 4),(.inl 15,.int 4)],.z),some (.int 15,.z)]):=by kernel_rfl
theorem gs4:al [some (sh6,.z),some (.int 5,.z),some (.int 4,.z),some (.dk [(.inl 4,.int 2),(.inl 5,.int 3),(.inl 6,.int 3),(.inl 7,.int 3),(.inl 8,.int 3),(.inl 9,.int 3),(.inl 10,.int 3),(.inl 11,.int 3),(.inl 12,.int 3),(.inl 13,.int 3),(.inl 14,.int 3),(.inl 15,.int 3)],.z),some (.dk [(.inl 4,.int 2),(.inl 5,.int 2),(.inl 6,.int 3),(.inl 7,.int 4),(.inl 8,.int 3),(.inl 9,.int 4),(.inl 10,.int 4),(.inl 11,.int 3),(.inl 12,.int 4),(.inl 13,.int 4),(.inl 14,.int 4),(.inl 15,.int 4)],.z),some (.int 15,.z)]=some (.ok .nx,[some (sh6,.z),some (.int 5,.z),some (.int 4,.z),some (.dk [(.inl 5,.int 2),(.inl 6,.int 2),(.inl 7,.int 2),(.inl 8,.int 2),(.inl 9,.int 2),(.inl 10,.int 2),(.inl 11,.int 2),(.inl 12,.int 2),(.inl 13,.int 2),(.inl 14,.int 2),(.inl 15,.int 2)],.z),some (.dk [(.inl 5,.int 2),(.inl 6,.int 3),(.inl 7,.int 4),(.inl 8,.int 3),(.inl 9,.int 4),(.inl 10,.int 4),(.inl 11,.int 3),(.inl 12,.int 4),(.inl 13,.int 4),(.inl 14,.int 4),(.inl 15,.int 4)],.z),some (.int 15,.z)]):=by kernel_rfl
theorem gs5:al [some (sh6,.z),some (.int 5,.z),some (.int 5,.z),some (.dk [(.inl 5,.int 2),(.inl 6,.int 2),(.inl 7,.int 2),(.inl 8,.int 2),(.inl 9,.int 2),(.inl 10,.int 2),(.inl 11,.int 2),(.inl 12,.int 2),(.inl 13,.int 2),(.inl 14,.int 2),(.inl 15,.int 2)],.z),some (.dk [(.inl 5,.int 2),(.inl 6,.int 3),(.inl 7,.int 4),(.inl 8,.int 3),(.inl 9,.int 4),(.inl 10,.int 4),(.inl 11,.int 3),(.inl 12,.int 4),(.inl 13,.int 4),(.inl 14,.int 4),(.inl 15,.int 4)],.z),some (.int 15,.z)]=some (.ok .nx,[some (sh6,.z),some (.int 5,.z),some (.int 5,.z),some (.dk [(.inl 6,.int 2),(.inl 7,.int 2),(.inl 8,.int 3),(.inl 9,.int 3),(.inl 10,.int 3),(.inl 11,.int 4),(.inl 12,.int 4),(.inl 13,.int 4),(.inl 14,.int 4),(.inl 15,.int 4)],.z),some (.dk [(.inl 6,.int 2),(.inl 7,.int 3),(.inl 8,.int 2),(.inl 9,.int 3),(.inl 10,.int 3),(.inl 11,.int 2),(.inl 12,.int 3),(.inl 13,.int 3),(.inl 14,.int 3),(.inl 15,.int 3)],.z),some (.int 15,.z)]):=by kernel_rfl
theorem gs6:al [some (sh6,.z),some (.int 5,.z),some (.int 6,.z),some (.dk [(.inl 6,.int 2),(.inl 7,.int 2),(.inl 8,.int 3),(.inl 9,.int 3),(.inl 10,.int 3),(.inl 11,.int 4),(.inl 12,.int 4),(.inl 13,.int 4),(.inl 14,.int 4),(.inl 15,.int 4)],.z),some (.dk [(.inl 6,.int 2),(.inl 7,.int 3),(.inl 8,.int 2),(.inl 9,.int 3),(.inl 10,.int 3),(.inl 11,.int 2),(.inl 12,.int 3),(.inl 13,.int 3),(.inl 14,.int 3),(.inl 15,.int 3)],.z),some (.int 15,.z)]=some (.ok .nx,[some (sh6,.z),some (.int 5,.z),some (.int 6,.z),some (.dk [(.inl 7,.int 2),(.inl 8,.int 3),(.inl 9,.int 3),(.inl 10,.int 3),(.inl 11,.int 4),(.inl 12,.int 4),(.inl 13,.int 4),(.inl 14,.int 4),(.inl 15,.int 4)],.z),some (.dk [(.inl 7,.int 2),(.inl 8,.int 2),(.inl 9,.int 3),(.inl 10,.int 3),(.inl 11,.int 2),(.inl 12,.int 3),(.inl 13,.int 3),(.inl 14,.int 3),(.inl 15,.int 3)],.z),some (.int 15,.z)]):=by kernel_rfl
theorem gs7:al [some (sh6,.z),some (.int 5,.z),some (.int 7,.z),some (.dk [(.inl 7,.int 2),(.inl 8,.int 3),(.inl 9,.int 3),(.inl 10,.int 3),(.inl 11,.int 4),(.inl 12,.int 4),(.inl 13,.int 4),(.inl 14,.int 4),(.inl 15,.int 4)],.z),some (.dk [(.inl 7,.int 2),(.inl 8,.int 2),(.inl 9,.int 3),(.inl 10,.int 3),(.inl 11,.int 2),(.inl 12,.int 3),(.inl 13,.int 3),(.inl 14,.int 3),(.inl 15,.int 3)],.z),some (.int 15,.z)]=some (.ok .nx,[some (sh6,.z),some (.int 5,.z),some (.int 7,.z),some (.dk [(.inl 8,.int 2),(.inl 9,.int 2),(.inl 10,.int 2),(.inl 11,.int 3),(.inl 12,.int 3),(.inl 13,.int 3),(.inl 14,.int 3),(.inl 15,.int 3)],.z),some (.dk [(.inl 8,.int 2),(.inl 9,.int 3),(.inl 10,.int 3),(.inl 11,.int 2),(.inl 12,.int 3),(.inl 13,.int 3),(.inl 14,.int 3),(.inl 15,.int 3)],.z),some (.int 15,.z)]):=by kernel_rfl
theorem gs8:al [some (sh6,.z),some (.int 5,.z),some (.int 8,.z),some (.dk [(.inl 8,.int 2),(.inl 9,.int 2),(.inl 10,.int 2),(.inl 11,.int 3),(.inl 12,.int 3),(.inl 13,.int 3),(.inl 14,.int 3),(.inl 15,.int 3)],.z),some (.dk [(.inl 8,.int 2),(.inl 9,.int 3),(.inl 10,.int 3),(.inl 11,.int 2),(.inl 12,.int 3),(.inl 13,.int 3),(.inl 14,.int 3),(.inl 15,.int 3)],.z),some (.int 15,.z)]=some (.ok .nx,[some (sh6,.z),some (.int 5,.z),some (.int 8,.z),some (.dk [(.inl 9,.int 2),(.inl 10,.int 3),(.inl 11,.int 4),(.inl 12,.int 4),(.inl 13,.int 4),(.inl 14,.int 4),(.inl 15,.int 4)],.z),some (.dk [(.inl 9,.int 2),(.inl 10,.int 2),(.inl 11,.int 2),(.inl 12,.int 3),(.inl 13,.int 3),(.inl 14,.int 3),(.inl 15,.int 3)],.z),some (.int 15,.z)]):=by kernel_rfl
theorem gs9:al [some (sh6,.z),some (.int 5,.z),some (.int 9,.z),some (.dk [(.inl 9,.int 2),(.inl 10,.int 3),(.inl 11,.int 4),(.inl 12,.int 4),(.inl 13,.int 4),(.inl 14,.int 4),(.inl 15,.int 4)],.z),some (.dk [(.inl 9,.int 2),(.inl 10,.int 2),(.inl 11,.int 2),(.inl 12,.int 3),(.inl 13,.int 3),(.inl 14,.int 3),(.inl 15,.int 3)],.z),some (.int 15,.z)]=some (.ok .nx,[some (sh6,.z),some (.int 5,.z),some (.int 9,.z),some (.dk [(.inl 10,.int 2),(.inl 11,.int 3),(.inl 12,.int 3),(.inl 13,.int 3),(.inl 14,.int 3),(.inl 15,.int 3)],.z),some (.dk [(.inl 10,.int 2),(.inl 11,.int 2),(.inl 12,.int 3),(.inl 13,.int 3),(.inl 14,.int 3),(.inl 15,.int 3)],.z),some (.int 15,.z)]):=by kernel_rfl
theorem gs10:al [some (sh6,.z),some (.int 5,.z),some (.int 10,.z),some (.dk [(.inl 10,.int 2),(.inl 11,.int 3),(.inl 12,.int 3),(.inl 13,.int 3),(.inl 14,.int 3),(.inl 15,.int 3)],.z),some (.dk [(.inl 10,.int 2),(.inl 11,.int 2),(.inl 12,.int 3),(.inl 13,.int 3),(.inl 14,.int 3),(.inl 15,.int 3)],.z),some (.int 15,.z)]=some (.ok .nx,[some (sh6,.z),some (.int 5,.z),some (.int 10,.z),some (.dk [(.inl 11,.int 2),(.inl 12,.int 2),(.inl 13,.int 2),(.inl 14,.int 2),(.inl 15,.int 2)],.z),some (.dk [(.inl 11,.int 2),(.inl 12,.int 3),(.inl 13,.int 3),(.inl 14,.int 3),(.inl 15,.int 3)],.z),some (.int 15,.z)]):=by kernel_rfl
theorem gs11:al [some (sh6,.z),some (.int 5,.z),some (.int 11,.z),some (.dk [(.inl 11,.int 2),(.inl 12,.int 2),(.inl 13,.int 2),(.inl 14,.int 2),(.inl 15,.int 2)],.z),some (.dk [(.inl 11,.int 2),(.inl 12,.int 3),(.inl 13,.int 3),(.inl 14,.int 3),(.inl 15,.int 3)],.z),some (.int 15,.z)]=some (.ok .nx,[some (sh6,.z),some (.int 5,.z),some (.int 11,.z),some (.dk [(.inl 12,.int 2),(.inl 13,.int 3),(.inl 14,.int 4),(.inl 15,.int 5)],.z),some (.dk [(.inl 12,.int 2),(.inl 13,.int 2),(.inl 14,.int 2),(.inl 15,.int 2)],.z),some (.int 15,.z)]):=by kernel_rfl
theorem gs12:al [some (sh6,.z),some (.int 5,.z),some (.int 12,.z),some (.dk [(.inl 12,.int 2),(.inl 13,.int 3),(.inl 14,.int 4),(.inl 15,.int 5)],.z),some (.dk [(.inl 12,.int 2),(.inl 13,.int 2),(.inl 14,.int 2),(.inl 15,.int 2)],.z),some (.int 15,.z)]=some (.ok .nx,[some (sh6,.z),some (.int 5,.z),some (.int 12,.z),some (.dk [(.inl 13,.int 2),(.inl 14,.int 3),(.inl 15,.int 4)],.z),some (.dk [(.inl 13,.int 2),(.inl 14,.int 2),(.inl 15,.int 2)],.z),some (.int 15,.z)]):=by kernel_rfl
theorem gs13:al [some (sh6,.z),some (.int 5,.z),some (.int 13,.z),some (.dk [(.inl 13,.int 2),(.inl 14,.int 3),(.inl 15,.int 4)],.z),some (.dk [(.inl 13,.int 2),(.inl 14,.int 2),(.inl 15,.int 2)],.z),some (.int 15,.z)]=some (.ok .nx,[some (sh6,.z),some (.int 5,.z),some (.int 13,.z),some (.dk [(.inl 14,.int 2),(.inl 15,.int 3)],.z),some (.dk [(.inl 14,.int 2),(.inl 15,.int 2)],.z),some (.int 15,.z)]):=by kernel_rfl
theorem gs14:al [some (sh6,.z),some (.int 5,.z),some (.int 14,.z),some (.dk [(.inl 14,.int 2),(.inl 15,.int 3)],.z),some (.dk [(.inl 14,.int 2),(.inl 15,.int 2)],.z),some (.int 15,.z)]=some (.ok .nx,[some (sh6,.z),some (.int 5,.z),some (.int 14,.z),some (.dk [(.inl 15,.int 2)],.z),some (.dk [(.inl 15,.int 2)],.z),some (.int 15,.z)]):=by kernel_rfl
theorem gs15:al [some (sh6,.z),some (.int 5,.z),some (.int 15,.z),some (.dk [(.inl 15,.int 2)],.z),some (.dk [(.inl 15,.int 2)],.z),some (.int 15,.z)]=some (.ok .nx,[some (sh6,.z),some (.int 5,.z),some (.int 15,.z),some (.dk [],.z),some (.dk [],.z),some (.int 15,.z)]):=by kernel_rfl
theorem gl6:dO (aR 2) al (dm 0 16) [some (sh6,.z),some (.int 2,.z),none,none,none,none]=some (.ok .nx,[some (sh6,.z),some (.int 5,.z),some (.int 15,.z),some (.dk [],.z),some (.dk [],.z),some (.int 15,.z)]):=(bd rfl gs0 (bd rfl gs1 (bd rfl gs2 (bd rfl gs3 (bd rfl gs4 (bd rfl gs5 (bd rfl gs6 (bd rfl gs7 (bd rfl gs8 (bd rfl gs9 (bd rfl gs10 (bd rfl gs11 (bd rfl gs12 (bd rfl gs13 (bd rfl gs14 (bd rfl gs15 (rfl:dO (aR 2) al [] _=some (.ok .nx,[some (sh6,.z),some (.int 5,.z),some (.int 15,.z),some (.dk [],.z),some (.dk [],.z),some (.int 15,.z)]))))))))))))))))))
theorem fg6:ba [(sh6,.z)]=some (.ok (.int 5,.z),[(sh6,.z)]):=by
 have hr:d5 [.int 16]=some (dm 0 16):=rfl
 apply kT (ρ:=[some (sh6,.z),none,none,none,none,none]) rfl rfl
 ·unfold eP
  apply bu (ρ1:=[some (sh6,.z),some (.int 2,.z),none,none,none,none])
  ·rfl
  apply bu
  ·exact oS (lU (ds:=[.int 16]) rfl rfl hr) rfl gl6
  ·exact oR (oQ rfl) rfl
 ·rfl
set_option tactic.hygienic true in
theorem gh {m:Nat} {sh:L3.D} {len:Nat} {gr b l:Int} {S:L3.D} {v3 v4:Option (L3.D × Fl)} (hm:3+(b+l) % 4=(m:Int)) (h3:3<=m) (h6:m<=6) (fr:bo [(.int m,.z)]=some (.ok (sh,.z),[(.int m,.z)])) (fs:a9 [(sh,.z)]=some (.ok (.bl true,.z),[(sh,.z)])) (fg:ba [(sh,.z)]=some (.ok (.int gr,.z),[(sh,.z)]))
  (hl:dN [sh]=some (.int (len:Nat),.z)) (h2:(1:Int) * 2 ^ ((m:Int) - 2).toNat=(len:Nat)) (he:neX sh sh=some (.bl false,.z)) (hg:gr < m) :
  dA [some (S,.z),some (.int b,.z),some (.int l,.z),v3,v4]=some (.ok .nx,[some (S,.z),some (.int b,.z),some (.int l,.z),some (.int m,.z),some (sh,.z)]):=by
 have hmod:jb (.int (b+l)) (.int 4)=some (.int ((b+l) % 4),.z):=by simp [dB]
 have hs:so (.int 1) (.int ((m:Int) - 2))=some (.int (len:Nat),.z):=by
  rw [<- h2]
  simp [dB]
  omega
 have hne:neX (.int (len:Nat)) (.int (len:Nat))=some (.bl false,.z):=by simp [eqA,eqS]
 have hge:geI (.int gr) (.int m)=some (.bl false,.z):=by simp [dB];omega
 unfold dA
 apply bu (ρ1:=[some (S,.z),some (.int b,.z),some (.int l,.z),some (.int m,.z),v4])
 ·rw [<- hm];(repeat' (first | infer_instance | exact hmod | eq_refl))
 apply bu (ρ1:=[some (S,.z),some (.int b,.z),some (.int l,.z),some (.int m,.z),some (sh,.z)])
 ·(repeat' (first | infer_instance | with_reducible apply fk (fr) | eq_refl))
 apply bu (ρ1:=[some (S,.z),some (.int b,.z),some (.int l,.z),some (.int m,.z),some (sh,.z)])
 ·apply lV
  ·(repeat' (first | infer_instance | with_reducible apply fk (fs) | with_reducible apply fk (fr) | exact hl | exact hs | exact hne | exact he | eq_refl))
  ·(repeat' (first | infer_instance | eq_refl))
  ·(repeat' (first | infer_instance | eq_refl))
 ·apply lV
  ·(repeat' (first | infer_instance | with_reducible apply fk (fg) | exact hge | eq_refl))
  ·(repeat' (first | infer_instance | eq_refl))
  ·(repeat' (first | infer_instance | eq_refl))
theorem qF {b l:Int} {S:L3.D} {v3 v4:Option (L3.D × Fl)}:∃ w3 w4,dA [some (S,.z),some (.int b,.z),some (.int l,.z),v3,v4]=some (.ok .nx,[some (S,.z),some (.int b,.z),some (.int l,.z),w3,w4]):=by
 have h:=jt (b+l) 4 (by omega)
 rcases (show (b+l) % 4=0\/(b+l) % 4=1\/(b+l) % 4=2\/(b+l) % 4=3 by omega) with h | h | h | h
 ·exact ⟨_,_,gh (m:=3) (sh:=sh3) (len:=2) (gr:=2) (by omega) (by decide) (by decide) fr3 fs3 fg3 rfl (by decide) rfl (by decide)⟩
 ·exact ⟨_,_,gh (m:=4) (sh:=sh4) (len:=4) (gr:=3) (by omega) (by decide) (by decide) fr4 fs4 fg4 rfl (by decide) rfl (by decide)⟩
 ·exact ⟨_,_,gh (m:=5) (sh:=sh5) (len:=8) (gr:=4) (by omega) (by decide) (by decide) fr5 fs5 fg5 rfl (by decide) rfl (by decide)⟩
 ·exact ⟨_,_,gh (m:=6) (sh:=sh6) (len:=16) (gr:=5) (by omega) (by decide) (by decide) fr6 fs6 fg6 rfl (by decide) rfl (by decide)⟩
set_option tactic.hygienic true in
theorem pV (ns:List Int) (hn:ns.length<=63):rG [(.fls (ns.map .int),.z)]=some (.ok (.bl true,.z),[(.fls (ns.map .int),.z)]):=by
 obtain ⟨n,eb⟩:=pW ns 0
 have eb:fc [(.fls (ns.map .int),.z),(.int 0,.z)]=some (.ok (.lst [.int n],.u),[(.fls (ns.map .int),.z),(.int 0,.z)]):=eb
 have et:=nJ n 4 (by decide)
 generalize hS:L3.D.fls (ns.map .int)=S at *
 obtain ⟨ρ',e,v2,v3,v4,rfl⟩:=gJ (bnd:=aR 2) (b:=dA) (fun _ ρ=>∃ v2 v3 v4,ρ=[some (S,.z),some (.int (n % 4),.z),v2,v3,v4]) (ds:=dm 0 2) (ρ:=[some (S,.z),some (.int (n % 4),.z),none,none,none]) (k:=0) ⟨_,_,_,rfl⟩ (by
  rintro i d ρ hd ⟨v2,v3,v4,rfl⟩
  obtain ⟨hi,rfl⟩:=jU hd
  obtain ⟨w3,w4,e⟩:=qF (b:=n % 4) (l:=0+(i:Int)) (S:=S) (v3:=v3) (v4:=v4)
  exact ⟨_,_,rfl,.inl e,_,_,_,rfl⟩)
 have hr:d5 [.int 2]=some (dm 0 2):=lC (by decide) (by decide)
 apply kT (ρ:=[some (S,.z),none,none,none,none]) rfl rfl
 ·unfold rl
  apply bu (ρ1:=[some (S,.z),some (.int (n % 4),.z),none,none,none])
  ·(repeat' (first | infer_instance | with_reducible apply fk (eb) | with_reducible apply fk (et) | eq_refl))
  apply bu
  ·exact oS (lU (oT i_c rn) rfl hr) rfl e
  ·exact oR i_c rfl
 ·rfl
end Bn
end
namespace Bn
open PySem L2 L3
theorem t6 {l : PySem.W.OpenLaw} {w : World} {K : FG} {h : Heap} {mg : Str -> Option Value} {fa : Addr} (X : K.In h) (G : h.Ns mainGlobals mg) (hfa : mg "law" = some (.ref fa)) (e : pU K = lW) :
  ∃ fd : FuncData, (∀ (s : Shared) (v : Value), BindsTo s fd ⟨[v], []⟩ [("_law_script", v)]) /\ ∀ base : Heap, K.In base -> base.Ns mainGlobals mg -> FnOk l.prog w K mg base CX0 35 fa fd ["_law_script"] (nE K) := by
 have e0 : dsL.map (fun p => kG K p.1) = dsL.map (fun p => gN p.1 p.2) := congrArg (fun x => x.1) e
 have e1 : blL.map (PySem.W.nsIn K mainGlobals) = blL.map (fun _ => some none) := congrArg (fun x => x.2.1) e
 have e2 : ciL.map (fun p => jp K p.1) = ciL.map (fun p => some p.2) := congrArg (fun x => x.2.2.1) e
 have e3 : csL.map (fun p => nD K p.1) = csL.map (fun p => some p.2) := congrArg (fun x => x.2.2.2) e
 have B : Bl mg := ⟨bE X G e1 0 rfl, bE X G e1 1 rfl, bE X G e1 2 rfl, bE X G e1 3 rfl, bE X G e1 4 rfl, bE X G e1 5 rfl, bE X G e1 6 rfl, bE X G e1 7 rfl, bE X G e1 8 rfl, bE X G e1 9 rfl, bE X G e1 10 rfl, bE X G e1 11 rfl, bE X G e1 12 rfl, bE X G e1 13 rfl, bE X G e1 14 rfl, bE X G e1 15 rfl, bE X G e1 16 rfl, bE X G e1 17 rfl, bE X G e1 18 rfl, bE X G e1 19 rfl⟩
 have D0 : Def K mg "is_whole" cV := aQ X G e0 0 rfl
 have D1 : Def K mg "is_point" cX := aQ X G e0 1 rfl
 have D2 : Def K mg "check_number" bG := aQ X G e0 2 rfl
 have D3 : Def K mg "check_few" cD := aQ X G e0 3 rfl
 have D4 : Def K mg "are_points" ci := aQ X G e0 4 rfl
 have D5 : Def K mg "has_rising_x" bF := aQ X G e0 5 rfl
 have D6 : Def K mg "bend" iV := aQ X G e0 6 rfl
 have D7 : Def K mg "threes" eG := aQ X G e0 7 rfl
 have D8 : Def K mg "first_on_line" bB := aQ X G e0 8 rfl
 have D9 : Def K mg "is_sheet" cW := aQ X G e0 9 rfl
 have D10 : Def K mg "check_sheet" bY := aQ X G e0 10 rfl
 have D11 : Def K mg "check_two_numbers" bb := aQ X G e0 11 rfl
 have D12 : Def K mg "room" iU := aQ X G e0 12 rfl
 have D13 : Def K mg "steepness" cC := aQ X G e0 13 rfl
 have D14 : Def K mg "width" gc := aQ X G e0 14 rfl
 have D15 : Def K mg "set_beside" ce := aQ X G e0 15 rfl
 have D16 : Def K mg "drawing" dF := aQ X G e0 16 rfl
 have D17 : Def K mg "ringless" cU := aQ X G e0 17 rfl
 have D18 : Def K mg "_law_box" ge := aQ X G e0 18 rfl
 have D19 : Def K mg "_law_take" eI := aQ X G e0 19 rfl
 have D20 : Def K mg "_law_whole" dE := aQ X G e0 20 rfl
 have D21 : Def K mg "_law_bend" eK := aQ X G e0 21 rfl
 have D22 : Def K mg "_law_is_sheet" cf := aQ X G e0 22 rfl
 have D23 : Def K mg "_law_from" eJ := aQ X G e0 23 rfl
 have D24 : Def K mg "_law_greatest" cg := aQ X G e0 24 rfl
 obtain ⟨f, fd, F0, hf⟩ : Def K mg "law" dj := aQ X G e0 25 rfl
 cases hfa.symm.trans hf
 have F := F0
 obtain ⟨oc, od, kV, doc, pm, an, cdv, ct, osl, ef, lk, hcd⟩ := F0.ex
 subst ef
 obtain ⟨tk0, Q0⟩ := gI X G e2 0 (n := "MOST_POINTS") (v := 24) rfl
 obtain ⟨tk1, Q1⟩ := gI X G e2 1 (n := "LEAST_PLACES") (v := 2) rfl
 obtain ⟨tk2, Q2⟩ := gI X G e2 2 (n := "MOST_PLACES") (v := 9) rfl
 obtain ⟨tk3, Q3⟩ := gI X G e2 3 (n := "LEAST_CORNERS") (v := 3) rfl
 obtain ⟨tk4, Q4⟩ := gI X G e2 4 (n := "MOST_FOR_RINGLESS") (v := 6) rfl
 refine ⟨PySem.W.fnOf "law" "law" (aY dj) (aN dj) (ah dj) .none kV doc pm an cdv ct, fun s v => .of_eq rfl, fun base _ _ => ?_⟩
 have C_is_whole := jx (P := l.prog) (w := w) (base := base) B D0
 have C_is_point := jz (P := l.prog) (w := w) (base := base) B D1 C_is_whole
 have C_check_number := ft (P := l.prog) (w := w) (base := base) B D2 C_is_whole
 have C_check_few := ig (P := l.prog) (w := w) (base := base) B D3
 have C_are_points := gW (P := l.prog) (w := w) (base := base) B D4 C_is_point Q0
 have C_has_rising_x := fq (P := l.prog) (w := w) (base := base) B D5
 have C_bend := po (P := l.prog) (w := w) (base := base) B D6
 have C_threes := lr (P := l.prog) (w := w) (base := base) B D7
 have C_first_on_line := eW (P := l.prog) (w := w) (base := base) B D8 C_bend C_threes
 have C_is_sheet := jy (P := l.prog) (w := w) (base := base) B D9 C_are_points C_first_on_line C_has_rising_x
 have C_check_sheet := gb (P := l.prog) (w := w) (base := base) B D10 C_is_sheet
 have C_check_two_numbers := dh (P := l.prog) (w := w) (base := base) B D11 C_check_number Q1 Q2
 have C_room := kN (P := l.prog) (w := w) (base := base) B D12 C_check_two_numbers Q1 14
 have C_steepness := ie (P := l.prog) (w := w) (base := base) B D13
 have C_width := nb (P := l.prog) (w := w) (base := base) B D14
 have C_set_beside := gS (P := l.prog) (w := w) (base := base) B D15 C_check_few C_check_sheet C_steepness C_width Q0
 have C_drawing := fD (P := l.prog) (w := w) (base := base) B D16 C_check_few C_room C_set_beside Q1 Q0 14
 have C_ringless := jw (P := l.prog) (w := w) (base := base) B D17 C_check_number C_drawing C_set_beside Q3 Q1 Q4
 have C__law_box := nc (P := l.prog) (w := w) (base := base) B D18
 have C__law_take := ls (P := l.prog) (w := w) (base := base) B D19
 have C__law_whole := kO (P := l.prog) (w := w) (base := base) B D20
 have C__law_bend := lw (P := l.prog) (w := w) (base := base) B D21
 have C__law_is_sheet := gT (P := l.prog) (w := w) (base := base) B D22 C__law_bend C__law_whole
 have C__law_from := lu (P := l.prog) (w := w) (base := base) B D23 C__law_bend
 have C__law_greatest := gU (P := l.prog) (w := w) (base := base) B D24 C__law_from
 exact FnOk.imp (qJ (P := l.prog) (w := w) (base := base) B F C__law_box C__law_greatest C__law_is_sheet C__law_take C_ringless) fun vs H Q E h => qE (fun ns hn => ⟨_, pV ns hn⟩) h
theorem walkL : PySem.W.WalkO viL loL (fun _ _ => True) (fun _ h => ∃ K : FG, K.In h /\ pU K = lW) PySem.Challenge.rw_bentrows_k44_sheets_without_great_rings.row.toRowW ⟨"law", aY dj, aN dj, ah dj, stPos dj⟩ [] (fun f vs => PySem.call f vs) :=
 L2.walk_ofS (l := PySem.Challenge.rw_bentrows_k44_sheets_without_great_rings) (n := 63) (k := 35) (x := "_law_script") (S := fun K => pU K = lW) (CX := CX0) (sp := nE) rfl (by decide) rfl ⟨rfl, by decide, by decide, rfl⟩ (fun _ _ z => z) (fun _ _ _ _ _ e X G hm => t6 X G hm e) (fun _ _ a ns hl hO hS => ⟨a, ns, rfl, hS, hO, hl, fun _ => rfl⟩) fun _ _ _ _ z => z
end Bn
set_option tactic.hygienic true
open PySem PySem.W PyProof.Rows
set_option maxRecDepth 100000 in
set_option maxHeartbeats 0 in
theorem PySem.Challenge.cw_bentrows_k44_sheets_without_great_rings_holds : PySem.Challenge.rw_bentrows_k44_sheets_without_great_rings.Holds :=
 holds_law Bn.okL fun said => holds_open (r := PySem.Challenge.rw_bentrows_k44_sheets_without_great_rings.row) Bn.leftL (fun _ _ e => ⟨_, L2.fragAt_in _, e⟩) (fun _ _ _ ⟨K, X, e⟩ k => ⟨K, X.keeps k, e⟩) (fun _ _ => trivial) (fun _ _ _ _ _ => trivial) (by kernel_rfl) (by kernel_rfl) (by kernel_rfl) (fun s e => recFacts_of e) (by rfl) said (by kernel_rfl) ⟨rfl, rfl, rfl, rfl, rfl, by decide +kernel⟩ ⟨[.list []], by decide +kernel, by decide +kernel⟩ Bn.walkL
