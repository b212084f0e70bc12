import PyProof.Rows.All
import Wide.All
import OpenK.AllK
import Wide.FinOn
import Lean
import PyProof.EqAt
import PyProof.EqKinds
import PyProof.TupleCall
import PyProof.P3Eq
import PyProof.NeData
import PyProof.ListRange
import PyProof.Rows.CallKwBuiltin
import PyProof.Rows.Range3
import PyProof.DictWalks
import PyProof.MinMaxWalk
import PyProof.WalkInts
import PyProof.Walk
import PyProof.WalkLemmas
import PyProof.RulesTry
import PyProof.ZipIter
import PyProof.AttrMissHeap
import PyProof.FactsAll.zip
import PyProof.DictUpdate
import KE.KDictOf
import PyProof.Rows.SortShell
import PyProof.Rows.SortWalk
import PyProof.Rows.SortRuns
import PySem.Challenge.RW_bentrows_k55_all_signs_of_few_places
set_option tactic.hygienic false
set_option genSizeOf false
set_option Elab.async false
set_option linter.all false
set_option maxRecDepth 100000
set_option maxHeartbeats 4000000
section
abbrev FG:=PySem.W.Frag
open PySem PySem.Spec PyProof.Rows
abbrev vj:=@wpAny_bind
abbrev vm:=@wpAny_pure
abbrev vn:=@wpAny_holding
abbrev vo:=@List.mem_cons_self
abbrev vp:=@List.mem_cons_of_mem
abbrev vq:=@Heap.get?_push_of_some
abbrev vt:=@Option.map_eq_some_iff
abbrev vv:=@List.mem_append_left
abbrev vw:=@List.mem_append_right
abbrev vx:=@List.mem_cons
abbrev vy:=@List.getElem?_eq_getElem
abbrev vz:=@Heap.lt_size
abbrev vA:=@List.mem_append
abbrev vB:=@Heap.get?_push_size
abbrev vC:=@List.length_map
abbrev vD:=@List.getElem?_eq_some_iff
abbrev vE:=@List.mem_of_getElem?
abbrev vF:=@List.sublist_append_right
abbrev vG:=@List.mem_map
abbrev vH:=@List.getElem?_map
abbrev vI:=@Nat.le_refl
abbrev vJ:=@Bool.false_ne_true
abbrev vK:=@Nat.ne_of_lt
abbrev vL:=@List.size_toArray
abbrev vM:=@List.map_cons
abbrev vN:=@decide_eq_true
abbrev vO:=@decide_eq_false
abbrev vP:=@Nat.lt_of_lt_of_le
abbrev vQ:=@Nat.zero_add
abbrev vR:=@Heap.get?_update_self
abbrev vS:=@List.length_append
abbrev vT:=@List.length_cons
abbrev vU:=@List.length_take
abbrev vV:=@Option.map_some
abbrev vW:=@Option.bind_eq_some_iff
abbrev vX:=@List.mem_singleton
abbrev vY:=@Bool.false_eq_true
abbrev vZ:=@List.mem_filter
abbrev v9:=@List.getElem?_append_left
abbrev wa:=@Heap.get?_update_other
abbrev wb:=@Heap.size_push
abbrev wc:=@wpAny_truthy_bool
abbrev wd:=@Nat.le_trans
abbrev we:=@List.map_map
abbrev wg:=@Option.some.inj
end
section
namespace L2
open PySem
noncomputable def aP (s : Stmt) : Arguments := match s with
  | .FunctionDef _ a _ _ _ _ _ _ _ _ => a
  | _ => { posonlyargs := [], args := [], vararg := none, kwonlyargs := [], kw_defaults := [], kwarg := none, defaults := [] }
noncomputable def aG (s : Stmt) : List Stmt := match s with
  | .FunctionDef _ _ b _ _ _ _ _ _ _ => b
  | _ => []
noncomputable def ag (s : Stmt) : Scope := match s with
  | .FunctionDef _ _ _ _ _ _ sc _ _ _ => sc
  | _ => { kind := .function, names := [], isGenerator := false, isCoroutine := false }
noncomputable def pW (h : Heap) : FG := (List.range h.objs.size).filterMap fun a => (h.get? a).map fun o => (a, o)
noncomputable def refIn (K : FG) (n : Str) : Addr := match PySem.W.nsIn K mainGlobals n with
  | some (some (.ref f)) => f
  | _ => 0
noncomputable abbrev jE := Str × Str × Arguments × FuncBody × Scope × Addr × List (Str × Addr) × Value × Addr × Bool
noncomputable def kH (K : FG) (n : Str) : Option jE := match PySem.W.nsIn K mainGlobals n with
  | some (some (.ref f)) => (match K.lookup f with
    | some ⟨_, _, .func fd, _⟩ => some (fd.name, fd.qualname, fd.params, fd.body, fd.scope, fd.globals, fd.closure, fd.defaults, fd.builtins, PySem.W.codeIn K fd.code n)
    | _ => none)
  | _ => none
noncomputable def hJ (n : Str) (st : Stmt) : Option jE := some (n, n, aP st, .stmts (aG st), ag st, mainGlobals, [], .none, builtinsNs, true)
noncomputable def jr (K : FG) (n : Str) : Option Int := match PySem.W.nsIn K mainGlobals n with
  | some (some (.int v _)) => some v
  | _ => none
noncomputable def ow (K : FG) (n : Str) : Option Str := match PySem.W.nsIn K mainGlobals n with
  | some (some (.str v _)) => some v
  | _ => none
open PySem.W PyProof.Rows in
theorem nv {p q : Program} {loose : List Str} {Xt : Shared → Bool} {α : Type} {Yf : Shared → α} {Ya : World → α} {N m : Nat} {ann : Option Value}
    (e : opening p = plainProg p.main.scope.names) (hN : Nat.ble 600 N = true) (f : ∀ s, fenceModules? p s = some s)
    (sz : ∀ w : World, ((boot_heap w.params).isNs mainGlobals && (Array.mk [] : Array GenState).size == 0, (boot_heap w.params).objs.size, (boot_heap w.params).nsMap mainGlobals "__annotations__") = (true, m, ann))
    (go : ∀ (w : World) (os : OsState), (PySem.W.Fast.tw14082659384304107361 PySem.W.Fast.tw14364793385576792824 p w m ann N ⟨boot_heap w.params, Array.mk [], boot_drawn, boot_toks, os⟩ (topStub p)).map (fun s => ((staticsOk (importedModules p.main.body) (boot_heap w.params) s.heap && namesBound p s.heap && gensDone s && laidKept (boot_heap w.params) s.heap), PySem.W.Fast.tw4187177175401517315 q loose (importedModules p.main.body) Xt true s, Yf s)) = some (true, openGood q loose, Ya w)) : LeftO p q loose Xt Yf Ya N := fun w => by
  obtain ⟨⟨hp, gn, dr, tk, os⟩, ea, eb⟩ := vt.mp (boot_open e hN f w)
  obtain ⟨rfl, rfl, rfl, rfl⟩ : hp = boot_heap w.params ∧ gn = Array.mk [] ∧ dr = boot_drawn ∧ tk = boot_toks := by simpa using eb
  have sw := sz w
  have rw0 := go w os
  rw [← PySem.W.Fast.te14082659384304107361, ← PySem.W.Fast.te14364793385576792824, ← PySem.W.Fast.te4187177175401517315] at rw0
  simp only [Prod.mk.injEq] at sw
  obtain ⟨s, ec, ed⟩ := vt.mp rw0
  simp only [Prod.mk.injEq] at ed
  have tt : topFrom treeTable p w N ⟨boot_heap w.params, Array.mk [], boot_drawn, boot_toks, os⟩ = some s := by
    unfold topFrom
    dsimp only
    rw [sw.1, sw.2.1, sw.2.2, ec]
    change (match staticsOk (importedModules p.main.body) (boot_heap w.params) s.heap && namesBound p s.heap && gensDone s && laidKept (boot_heap w.params) s.heap with | true => some s | false => none) = some s
    rw [ed.1]
  unfold openEnds
  rw [ea]
  change Option.map _ (topFrom treeTable p w N _) = _
  rw [tt]
  exact congrArg some (Prod.ext ed.2.1 ed.2.2)
theorem mU {l : PySem.W.OpenLaw} (h : PySem.W.Fast.tw9446332074065402090 l = true) : l.wellSaid = true := by rw [← PySem.W.Fast.te9446332074065402090] at h; exact h
end L2
namespace Bn
open PySem L2
noncomputable def top (i : Nat) : Stmt := PySem.Challenge.pw_bentrows_k55_all_signs_of_few_places.main.body.getD i (.Pass ⟨0, 0, 0, 0⟩)
noncomputable abbrev dm : Stmt := top 4
noncomputable abbrev bM : Stmt := top 5
noncomputable abbrev fj : Stmt := top 7
noncomputable abbrev gq : Stmt := top 8
noncomputable abbrev en : Stmt := top 13
noncomputable abbrev bB : Stmt := top 14
noncomputable abbrev aO : Stmt := top 15
noncomputable abbrev bN : Stmt := top 16
noncomputable abbrev cP : Stmt := top 17
noncomputable abbrev gm : Stmt := top 19
noncomputable abbrev fk : Stmt := top 20
noncomputable abbrev el : Stmt := top 21
noncomputable abbrev dl : Stmt := top 22
noncomputable abbrev fm : Stmt := top 23
noncomputable abbrev gp : Stmt := top 24
noncomputable abbrev dO : Stmt := top 25
noncomputable abbrev dsL : List (Str × Stmt) := [(("is_whole" : Str), dm), (("check_number" : Str), bM), (("threes" : Str), fj), (("fours" : Str), gq), (("is_sign" : Str), en), (("turns_by_signs" : Str), bB), (("change_once_at_most" : Str), aO), (("are_signs_of" : Str), bN), (("all_signs" : Str), cP), (("_law_box" : Str), gm), (("_law_take" : Str), fk), (("_law_whole" : Str), el), (("_law_threes" : Str), dl), (("_law_good" : Str), fm), (("_law_all" : Str), gp), (("law" : Str), dO)]
noncomputable abbrev blL : List Str := [("len" : Str), ("range" : Str), ("abs" : Str), ("divmod" : Str), ("enumerate" : Str), ("tuple" : Str), ("isinstance" : Str), ("int" : Str), ("bool" : Str), ("all" : Str), ("str" : Str), ("max" : Str), ("min" : Str), ("list" : Str), ("dict" : Str), ("repr" : Str), ("sorted" : Str), ("set" : Str), ("zip" : Str), ("reversed" : Str)]
noncomputable abbrev ciL : List (Str × Int) := [(("DOWN" : Str), (-1 : Int)), (("UP" : Str), (1 : Int)), (("MOST_FOR_ALL_SIGNS" : Str), (5 : Int))]
noncomputable abbrev csL : List (Str × Str) := []
noncomputable def qS (K : FG) : List (Option jE) × List (Option (Option Value)) × List (Option Int) × List (Option Str) := (dsL.map (fun p => kH K p.1), blL.map (PySem.W.nsIn K mainGlobals), ciL.map (fun p => jr K p.1), csL.map (fun p => ow K p.1))
noncomputable def mo : List (Option jE) × List (Option (Option Value)) × List (Option Int) × List (Option Str) := (dsL.map (fun p => hJ p.1 p.2), blL.map (fun _ => some none), ciL.map (fun p => some p.2), csL.map (fun p => some p.2))
theorem okL : PySem.Challenge.rw_bentrows_k55_all_signs_of_few_places.wellSaid = true := mU (by kernel_rfl)
noncomputable abbrev loL : List Str := [("BentError" : Str), ("NoNumber" : Str), ("is_whole" : Str), ("check_number" : Str), ("threes" : Str), ("fours" : Str), ("UP" : Str), ("DOWN" : Str), ("MOST_FOR_ALL_SIGNS" : Str), ("is_sign" : Str), ("turns_by_signs" : Str), ("change_once_at_most" : Str), ("are_signs_of" : Str), ("all_signs" : Str), ("_law_box" : Str), ("_law_take" : Str), ("_law_whole" : Str), ("_law_threes" : Str), ("_law_good" : Str), ("_law_all" : Str)]
noncomputable abbrev viL : Program := PySem.W.view PySem.Challenge.rw_bentrows_k55_all_signs_of_few_places.row.prog [25]
theorem leftL : PySem.W.LeftO PySem.Challenge.rw_bentrows_k55_all_signs_of_few_places.row.prog viL loL (fun s => PySem.W.recOk (PySem.W.RowW.records PySem.Challenge.rw_bentrows_k55_all_signs_of_few_places.row.toRowW) s) (fun s => qS (pW s.heap)) (fun _ => mo) 40000 :=
  nv (m := 11) (ann := some (.ref 6)) (by kernel_rfl) rfl (fun _ => rfl) (fun w => by kernel_rfl) (fun w os => by kernel_rfl)
end Bn
end
section
namespace L2
open PySem PySem.Spec PyProof.Rows
noncomputable abbrev Key:=Sum Int Str
noncomputable def iV:Key->Value->Bool
  | .inl k,v=>Value.isInt k v
  | .inr x,v=>Value.isStrOf x v
noncomputable def keyH (w:World):Key->Int
  | .inl k=>hashInt k
  | .inr x=>hashStr w x
theorem aY:∀ {k:Key} {v:Value},iV k v=true->(∃ i t,k=Sum.inl i/\v=Value.int i t)\/(∃ x t,k=Sum.inr x/\v=Value.str x t)
  | .inl i,v,h=>by
    obtain ⟨t,e⟩:=Value.isInt_shape (k:=i) (v:=v) h
    exact .inl ⟨i,t,rfl,e⟩
  | .inr x,v,h=>by
    obtain ⟨t,e⟩:=Value.isStrOf_shape (x:=x) (v:=v) h
    exact .inr ⟨x,t,rfl,e⟩
theorem nD (i:Int) (t:Tok):iV (.inl i) (.int i t)=true:=by simp [iV,Value.isInt]
theorem nC (x:Str) (t:Tok):iV (.inr x) (.str x t)=true:=by simp [iV,Value.isStrOf]
theorem uN (a b:Int):decide ((Sum.inl a:Key)=Sum.inl b)=(a == b):=by
  by_cases e:a=b
  · subst e;simp
  · have h:¬ (Sum.inl a:Key)=Sum.inl b:=fun q=>e (Sum.inl.inj q)
    rw [vO h]
    exact (beq_eq_false_iff_ne.mpr e).symm
theorem uK (a b:Str):decide ((Sum.inr a:Key)=Sum.inr b)=decide (a=b):=by
  by_cases e:a=b
  · subst e;simp
  · have h:¬ (Sum.inr a:Key)=Sum.inr b:=fun q=>e (Sum.inr.inj q)
    rw [vO h,vO e]
theorem uM (a:Int) (b:Str):decide ((Sum.inl a:Key)=Sum.inr b)=false:=vO (fun q=>nomatch q)
theorem uL (a:Str) (b:Int):decide ((Sum.inr a:Key)=Sum.inl b)=false:=vO (fun q=>nomatch q)
noncomputable def aW (prog:Program) (w:World):PySem.KeyKind prog w Key where
  is:=iV
  hash:=keyH w
  inj:=fun v a b ha hb=>by
    rcases aY ha with ⟨i,t,rfl,rfl⟩ | ⟨x,t,rfl,rfl⟩
    · rcases aY hb with ⟨j,u,rfl,e⟩ | ⟨y,u,rfl,e⟩
      · injection e with e1 _;rw [e1]
      · exact nomatch e
    · rcases aY hb with ⟨j,u,rfl,e⟩ | ⟨y,u,rfl,e⟩
      · exact nomatch e
      · injection e with e1 _;rw [e1]
  byValue:=fun k v h=>by
    rcases aY h with ⟨i,t,rfl,rfl⟩ | ⟨x,t,rfl,rfl⟩ <;> rfl
  pyHash:=fun hv h=>by
    rcases aY hv with ⟨i,t,rfl,rfl⟩ | ⟨x,t,rfl,rfl⟩
    · exact wpAny_pyHash_int h
    · exact wpAny_pyHash_str h
  eqBool:=fun hu hv h=>by
    rcases aY hu with ⟨i,t,rfl,rfl⟩ | ⟨x,t,rfl,rfl⟩
    · rcases aY hv with ⟨j,u,rfl,rfl⟩ | ⟨y,u,rfl,rfl⟩
      · rw [uN] at h;exact wpAny_eqBool_int h
      · rw [uM] at h;exact SeqAt.EqAt.int_str i t y u _ _ _ _ h
    · rcases aY hv with ⟨j,u,rfl,rfl⟩ | ⟨y,u,rfl,rfl⟩
      · rw [uL] at h;exact SeqAt.EqAt.str_int x t j u _ _ _ _ h
      · rw [uK] at h;exact wpAny_eqBool_str h
  «strs»:=fun k x t v h=>by
    rcases aY h with ⟨i,u,rfl,e⟩ | ⟨y,u,rfl,e⟩
    · exact nomatch e
    · injection e with e1 _
      subst e1
      cases v <;> rfl
theorem j9 (prog:Program) (w:World) (i:Int) (t:Tok):(aW prog w).is (.inl i) (.int i t)=true:=nD i t
theorem j8 (prog:Program) (w:World) (x:Str) (t:Tok):(aW prog w).is (.inr x) (.str x t)=true:=nC x t
end L2
namespace L2
open PySem PySem.Spec PyProof.Rows
inductive V where
  | non | bl (b:Bool) | int (i:Int) | str (x:Str) | byt (b:Array UInt8) | flt (b:UInt64) | ref (a:Addr) | ty (n:String)
  deriving DecidableEq
noncomputable def RelV:V->Value->Prop
  | .non,u=>u=Value.none
  | .bl b,u=>u=Value.bool b
  | .int i,u=>∃ t,u=Value.int i t
  | .str x,u=>∃ t,u=Value.str x t
  | .byt b,u=>∃ t,u=Value.bytes b t
  | .flt b,u=>∃ t,u=Value.float b t
  | .ref a,u=>u=Value.ref a
  | .ty n,u=>u=Value.type n
noncomputable abbrev Vals:List V->List Value->Prop:=Paired RelV
theorem Vals.length {xs:List V} {us:List Value} (r:Vals xs us):xs.length=us.length:=Paired.length r
theorem Vals.get:∀ {xs:List V} {us:List Value} {i:Nat} {x:V},Vals xs us->xs[i]?=some x->∃ u,us[i]?=some u/\RelV x u
  | _,_,_,_,.nil,e=>by simp at e
  | _,_,0,_,.cons r _,e=>by simp at e;subst e;exact ⟨_,rfl,r⟩
  | _,_,i+1,x,.cons _ t,e=>by
    obtain ⟨u,h1,h2⟩:=Vals.get (i:=i) (x:=x) t (by simpa using e)
    exact ⟨u,by simpa using h1,h2⟩
theorem Vals.set {x:V} {u:Value} (r:RelV x u):∀ {xs:List V} {us:List Value} (i:Nat),Vals xs us->Vals (xs.set i x) (us.set i u)
  | _,_,_,.nil=>.nil
  | _,_,0,.cons _ t=>.cons r t
  | _,_,i+1,.cons q t=>.cons q (Vals.set r i t)
theorem Vals.append:∀ {xs ys:List V} {us ws:List Value},Vals xs us->Vals ys ws->Vals (xs ++ ys) (us ++ ws)
  | _,_,_,_,.nil,s=>s
  | _,_,_,_,.cons r t,s=>.cons r (Vals.append t s)
theorem Vals.take:∀ {xs:List V} {us:List Value} (n:Nat),Vals xs us->Vals (xs.take n) (us.take n)
  | _,_,0,_=>.nil
  | _,_,_+1,.nil=>.nil
  | _,_,n+1,.cons r t=>.cons r (Vals.take n t)
theorem Vals.drop:∀ {xs:List V} {us:List Value} (n:Nat),Vals xs us->Vals (xs.drop n) (us.drop n)
  | _,_,0,r=>r
  | _,_,_+1,.nil=>.nil
  | _,_,n+1,.cons _ t=>Vals.drop n t
noncomputable def RelO:Option V->Option Value->Prop
  | some v,some u=>RelV v u
  | none,none=>True
  | _,_=>False
noncomputable def KV {κ:Type}:List (κ × V)->List (κ × Value)->Prop:=Paired fun (p:κ × V) (q:κ × Value)=>p.1=q.1/\RelV p.2 q.2
noncomputable def kV:Key->V
  | .inl i=>.int i
  | .inr x=>.str x
inductive HO where
  | lst (xs:List V)
  | tup (xs:List V)
  | dK (kvs:List (Key × V)) | dT (kvs:List (List Key × V))
  | set (S:Int->Bool) (n:Nat)
  | ins (C dx:Addr) (fs:List (Str × V))
  | own (x:Addr)
  | xd (fs:List (Str × V))
  | met (f x:Addr)
  | rng (lo hi:Int)
  | frz (o:Obj) (u:HO)
  | tbl (ps:Array Value)
  | ext (φ:Heap->Prop)
noncomputable abbrev Hp:=Addr->Option HO
noncomputable def upd (H:Hp) (a:Addr) (o:HO):Hp:=fun b=>if b=a then some o else H b
theorem aL {H:Hp} {a:Addr} {o:HO}:upd H a o a=some o:=by unfold upd;rw [if_pos rfl]
theorem av {H:Hp} {a b:Addr} {o:HO} (h:b ≠ a):upd H a o b=H b:=by unfold upd;rw [if_neg h]
theorem ne_of {H:Hp} {a b:Addr} {o u:HO} (h:H a=some o) (h':H b=some u) (d:o ≠ u):a ≠ b:=by
  intro e;subst e;rw [h] at h';exact d (wg h')
theorem aM {H:Hp} {a b:Addr} {o:HO} (h:H a=some o) (h':H b=none):a ≠ b:=by
  intro e;subst e;rw [h] at h';cases h'
noncomputable def DictOfE {prog:Program} {w:World} {κ:Type} [DecidableEq κ] (knd:KeyKind prog w κ) (h:Heap) (a:Addr) (kvs:List (κ × Value)):Prop :=
  ∃ o es ep,h.get? a=some o/\o.ExactDict/\o.data=.dict es ep/\KeysOf knd es/\Pairs knd es.toList kvs/\(kvs.map (·.1)).Nodup/\ep=es.size
theorem DictOfE.of {prog:Program} {w:World} {κ:Type} [DecidableEq κ] {knd:KeyKind prog w κ} {h:Heap} {a:Addr} {kvs:List (κ × Value)} (x:DictOfE knd h a kvs):h.DictOf knd a kvs:=let ⟨o,es,ep,h1,h2,h3,h4,h5,h6,_⟩:=x;⟨o,es,ep,h1,h2,h3,h4,h5,h6⟩
noncomputable def IsTupD (h:Heap) (a:Addr) (items:Array Value):Prop:=∃ o,h.get? a=some o/\o.cls=.type "tuple"/\∃ n,(o.data,o.dict)=(Data.seq items n,none)
theorem IsTupD.tup {h:Heap} {a:Addr} {items:Array Value} (x:IsTupD h a items):IsTup h a items:=let ⟨o,e,c,n,d⟩:=x;⟨o,e,c,n,congrArg Prod.fst d⟩
theorem IsTupD.lt {h:Heap} {a:Addr} {items:Array Value} (x:IsTupD h a items):a < h.objs.size:=x.tup.lt
theorem IsTupD.new (h:Heap) (items:Array Value):IsTupD (h.push { cls:=.type "tuple",data:=.seq items }) h.objs.size items:=⟨_,vB h rfl,rfl,_,rfl⟩
section
variable (P:Program) (w:World)
noncomputable def ObjOk (H:Hp) (h:Heap) (a:Addr):HO->Prop
  | .lst xs=>xs.length<=sizeLine/\∃ (its:List Value) (n:Nat),Vals xs its/\h.get? a=some { cls:=.type "list",data:=.seq its.toArray n }
  | .tup xs=>xs.length<=sizeLine/\∃ its:List Value,Vals xs its/\IsTupD h a its.toArray
  | .dK kvs=>kvs.length<=sizeLine/\(a == sysModules)=false/\∃ vs,KV kvs vs/\DictOfE (aW P w) h a vs
  | .dT kvs=>kvs.length<=sizeLine/\(a == sysModules)=false/\∃ xs:List (List Key × Addr × Value),
      Paired (fun (p:List Key × V) (q:List Key × Addr × Value)=>p.1=q.1/\H q.2.1=some (.tup (p.1.map kV))/\RelV p.2 q.2.2) kvs xs /\
      ∃ o es ep,h.get? a=some o/\o.ExactDict/\o.data=.dict es ep/\es.toList=xs.map (entryOfKey (tupleKind (aW P w)))/\(xs.map (·.1)).Nodup/\ep=es.size
  | .set S n=>h.SetOf (intKind P w) a S n
  | .ins C dx fs=>H dx=some (.own a)/\fs.length<=1000/\dx ≠ a/\h.get? a=some (PySem.W.instObj C dx) /\
      ∃ mA,h.Ns1 dx mA/\(∀ f,RelO (fs.lookup f) (mA f))/\PySem.Within mA (fs.map (·.1))
  | .own _=>∃ o,h.get? a=some o
  | .xd fs=>∃ mA,h.Ns1 a mA/\∀ f,RelO (fs.lookup f) (mA f)
  | .rng lo hi=>∃ t u v,h.get? a=some { cls:=.type "range",data:=.fields #[.int lo t,.int hi u,.int 1 v] }
  | .frz o u=>h.get? a=some o/\ObjOk H h a u
  | .tbl ps=>h.get? a=some { cls:=.none,data:=.fields ps }
  | .met f x=>h.get? a=some (PySem.W.methodObj (.ref f) (.ref x))
  | .ext φ=>φ h/\(∃ o,h.get? a=some o)/\∀ h1 h2:Heap,φ h1->(∀ o,h1.get? a=some o->h2.get? a=some o)->φ h2
noncomputable def HOk (H:Hp) (h:Heap):Prop:=∀ a o,H a=some o->ObjOk P w H h a o
end
section
variable {P:Program} {w:World} {H H':Hp} {h h':Heap} {a:Addr} {o:HO}
theorem ObjOk.lt (x:ObjOk P w H h a o):a < h.objs.size:=by
  cases o with
  | lst xs=>obtain ⟨_,_,_,_,e⟩:=x;exact vz e
  | tup xs=>obtain ⟨_,_,_,p⟩:=x;exact p.lt
  | dK kvs=>obtain ⟨_,_,_,_,o,_,_,e,_⟩:=x;exact vz e
  | dT kvs=>obtain ⟨_,_,_,_,o,_,_,e,_⟩:=x;exact vz e
  | set S n=>obtain ⟨o,_,_,_,e,_⟩:=x;exact vz e
  | ins C dx fs=>obtain ⟨_,_,_,e,_⟩:=x;exact vz e
  | own y=>obtain ⟨_,e⟩:=x;exact vz e
  | xd fs=>obtain ⟨_,⟨_,_,_,e,_⟩,_⟩:=x;exact vz e
  | rng lo hi=>obtain ⟨_,_,_,e⟩:=x;exact vz e
  | frz ob u=>obtain ⟨e,_⟩:=x;exact vz e
  | tbl ps=>exact vz (show h.get? a=some _ from x)
  | met f y=>exact vz (show h.get? a=some _ from x)
  | ext φ=>obtain ⟨_,⟨_,e⟩,_⟩:=x;exact vz e
theorem Paired.mapP {α β:Type} {F G:α->β->Prop}:∀ {l₁:List α} {l₂:List β},Paired F l₁ l₂->(∀ a b,F a b->G a b)->Paired G l₁ l₂
  | _,_,.nil,_=>.nil
  | _,_,.cons r t,f=>.cons (f _ _ r) (Paired.mapP t f)
theorem ObjOk.stay (x:ObjOk P w H h a o) (k:∀ b u,(b=a\/H b=some (.own a))->h.get? b=some u->h'.get? b=some u)
    (ho:∀ b,H b=some (.own a)->H' b=some (.own a)) (ht:∀ b xs,H b=some (.tup xs)->H' b=some (.tup xs)):ObjOk P w H' h' a o:=by
  induction o with
  | lst xs=>obtain ⟨z,its,n,r,e⟩:=x;exact ⟨z,its,n,r,k _ _ (.inl rfl) e⟩
  | tup xs=>obtain ⟨z,its,r,ob,e,c⟩:=x;exact ⟨z,its,r,ob,k _ _ (.inl rfl) e,c⟩
  | dK kvs=>obtain ⟨z,y,vs,r,ob,es,ep,e,c⟩:=x;exact ⟨z,y,vs,r,ob,es,ep,k _ _ (.inl rfl) e,c⟩
  | dT kvs =>
    obtain ⟨z,y,xs,r,ob,es,ep,e,c⟩:=x
    exact ⟨z,y,xs,Paired.mapP r fun p q z=>⟨z.1,ht _ _ z.2.1,z.2.2⟩,ob,es,ep,k _ _ (.inl rfl) e,c⟩
  | set S n=>obtain ⟨ob,es,ep,t,e,c⟩:=x;exact ⟨ob,es,ep,t,k _ _ (.inl rfl) e,c⟩
  | ins C dx fs =>
    obtain ⟨d,z,ne,e,mA,⟨od,es,ep,e2,c⟩,r⟩:=x
    exact ⟨ho _ d,z,ne,k _ _ (.inl rfl) e,mA,⟨od,es,ep,k _ _ (.inr d) e2,c⟩,r⟩
  | own y=>obtain ⟨ob,e⟩:=x;exact ⟨ob,k _ _ (.inl rfl) e⟩
  | xd fs=>obtain ⟨mA,⟨od,es,ep,e,c⟩,r⟩:=x;exact ⟨mA,⟨od,es,ep,k _ _ (.inl rfl) e,c⟩,r⟩
  | rng lo hi=>obtain ⟨t,u,v,e⟩:=x;exact ⟨t,u,v,k _ _ (.inl rfl) e⟩
  | frz ob u ih=>obtain ⟨e,q⟩:=x;exact ⟨k _ _ (.inl rfl) e,ih q⟩
  | tbl ps =>
    have e:h.get? a=some { cls:=.none,data:=.fields ps }:=x
    show h'.get? a=some { cls:=.none,data:=.fields ps }
    exact k a _ (.inl rfl) e
  | met f y =>
    have e:h.get? a=some (PySem.W.methodObj (.ref f) (.ref y)):=x
    show h'.get? a=some (PySem.W.methodObj (.ref f) (.ref y))
    exact k a _ (.inl rfl) e
  | ext φ=>obtain ⟨p,⟨o,e⟩,st⟩:=x;exact ⟨st _ _ p fun o q=>k _ _ (.inl rfl) q,⟨o,k _ _ (.inl rfl) e⟩,st⟩
theorem HOk.lt (x:HOk P w H h) (e:H a=some o):a < h.objs.size:=(x a o e).lt
theorem HOk.fresh (x:HOk P w H h) (e:h.objs.size<=a):H a=none:=by
  cases q:H a with
  | none=>rfl
  | some u=>exact absurd (vP (x.lt q) e) (Nat.lt_irrefl _)
theorem HOk.kept (x:HOk P w H h) (k:∀ b u,h.get? b=some u->h'.get? b=some u):HOk P w H h':=fun a o e =>
  (x a o e).stay (fun b u _ q=>k b u q) (fun _ q=>q) fun _ _ q=>q
theorem HOk.laid (x:HOk P w H h) (k:∀ b u,h.get? b=some u->h'.get? b=some u) (hp:h.objs.size<=a) (new:ObjOk P w (upd H a o) h' a o):HOk P w (upd H a o) h':=fun b u e=>by
  have hn:=x.fresh hp
  by_cases hb:b=a
  · subst hb;rw [aL] at e;cases e;exact new
  · rw [av hb] at e
    exact (x b u e).stay (fun c v _ q=>k c v q) (fun c q=>by rw [av (aM q hn)];exact q) fun c xs q=>by rw [av (aM q hn)];exact q
end
noncomputable def Rd (H:Hp) (a:Addr) (u:HO):Prop:=H a=some u\/∃ o,H a=some (.frz o u)
theorem Rd.ok {P:Program} {w:World} {H:Hp} {h:Heap} {a:Addr} {u:HO} (r:Rd H a u) (x:HOk P w H h):ObjOk P w H h a u:=by
  rcases r with r | ⟨o,r⟩
  · exact x a u r
  · obtain ⟨_,q⟩:=x a _ r
    exact q
noncomputable def Mut:Option HO->Prop
  | some (.lst _)=>True
  | some (.dK _)=>True
  | some (.dT _)=>True
  | some (.set _ _)=>True
  | some (.ins _ _ _)=>True
  | some (.ext _)=>True
  | _=>False
section
variable {P:Program} {w:World} {H:Hp} {h h':Heap} {x e:Addr} {o':HO}
theorem HOk.write (ok:HOk P w H h) (mu:Mut (H x)) (he:e=x\/H e=some (.own x)) (k:∀ b u,b ≠ e->h.get? b=some u->h'.get? b=some u) (heo:∃ u,h'.get? e=some u)
    (new:ObjOk P w (upd H x o') h' x o'):HOk P w (upd H x o') h':=fun b u q=>by
  have nown:∀ c y,H c=some (.own y)->c ≠ x:=fun c y r z=>by subst z;rw [r] at mu;exact mu
  have ntup:∀ c xs,H c=some (.tup xs)->c ≠ x:=fun c xs r z=>by subst z;rw [r] at mu;exact mu
  by_cases hb:b=x
  · subst hb;rw [aL] at q;cases q;exact new
  · rw [av hb] at q
    by_cases hbe:b=e
    · have q':H b=some (.own x):=by
        rcases he with z | z
        · exact absurd (hbe.trans z) hb
        · rw [hbe];exact z
      rw [q] at q';cases q'
      obtain ⟨v,hv⟩:=heo
      exact ⟨v,by rw [hbe];exact hv⟩
    · refine (ok b u q).stay (fun c v hc r=>k c v ?_ r) (fun c r=>by rw [av (nown c b r)];exact r) fun c xs r=>by rw [av (ntup c xs r)];exact r
      rcases hc with rfl | hc
      · exact hbe
      · rintro rfl
        rcases he with z | z
        · exact nown c b hc z
        · rw [hc] at z;cases z;exact hb rfl
end
structure Un (fs ex:List Addr) (H H':Hp) (h h':Heap):Prop where
  keep:∀ b o,h.get? b=some o->H b=none->b ∉ fs->b ∉ ex->h'.get? b=some o
  slot:∀ b o,h.get? b=some o->H b=none->b ∈ fs->b ∉ ex->∃ sl,h'.get? b=some { o with slots:=sl }
  free:∀ b o,h.get? b=some o->H b=none->b ∉ ex->H' b=none
  there:∀ b o,h.get? b=some o->b ∉ ex->∃ o',h'.get? b=some o'
  tups:∀ b xs,H b=some (.tup xs)->H' b=some (.tup xs)
  frzs:∀ b o u,H b=some (.frz o u)->H' b=some (.frz o u)
  tbls:∀ b ps,H b=some (.tbl ps)->∃ more,H' b=some (.tbl (ps ++ more))
section
variable {fs fs' ex ex':List Addr} {H H1 H2:Hp} {h h1 h2 h':Heap} {a x e:Addr} {o:HO}
theorem Un.any (u:Un fs ex H H1 h h1) {b:Addr} {ob:Obj} (q:h.get? b=some ob) (n:H b=none) (hx:b ∉ ex):∃ sl,h1.get? b=some { ob with slots:=sl }:=by
  by_cases hb:b ∈ fs
  · exact u.slot b ob q n hb hx
  · exact ⟨ob.slots,u.keep b ob q n hb hx⟩
theorem Un.trans (a:Un fs ex H H1 h h1) (b:Un fs ex H1 H2 h1 h2):Un fs ex H H2 h h2 where
  keep:=fun c ob q n hc hx=>b.keep c ob (a.keep c ob q n hc hx) (a.free c ob q n hx) hc hx
  slot:=fun c ob q n hc hx=>by
    obtain ⟨sl,e1⟩:=a.slot c ob q n hc hx
    obtain ⟨sl',e2⟩:=b.slot c _ e1 (a.free c ob q n hx) hc hx
    exact ⟨sl',e2⟩
  free:=fun c ob q n hx=>by
    obtain ⟨o',e1⟩:=a.there c ob q hx
    exact b.free c o' e1 (a.free c ob q n hx) hx
  there:=fun c ob q hx=>by
    obtain ⟨o',e1⟩:=a.there c ob q hx
    exact b.there c o' e1 hx
  tups:=fun c xs q=>b.tups c xs (a.tups c xs q)
  frzs:=fun c ob xs q=>b.frzs c ob xs (a.frzs c ob xs q)
  tbls:=fun c ps q=>by
    obtain ⟨m1,e1⟩:=a.tbls c ps q
    obtain ⟨m2,e2⟩:=b.tbls c _ e1
    exact ⟨m1 ++ m2,by rw [e2,Array.append_assoc]⟩
theorem Un.kept (k:∀ b u,h.get? b=some u->h'.get? b=some u):Un fs ex H H h h' :=
  ⟨fun b ob q _ _ _=>k b ob q,fun b ob q _ _ _=>⟨ob.slots,k b ob q⟩,fun _ _ _ n _=>n,fun b ob q _=>⟨ob,k b ob q⟩,fun _ _ q=>q,fun _ _ _ q=>q,fun _ ps q=>⟨#[],by rw [q];simp⟩⟩
theorem Un.refl:Un fs ex H H h h:=Un.kept fun _ _ q=>q
theorem Un.laid (k:∀ b u,h.get? b=some u->h'.get? b=some u) (hp:h.objs.size<=a) (hn:H a=none):Un fs ex H (upd H a o) h h' where
  keep:=fun b u q _ _ _=>k b u q
  slot:=fun b u q _ _ _=>⟨u.slots,k b u q⟩
  free:=fun b u q n _=>by rw [av (vK (vP (vz q) hp))];exact n
  there:=fun b u q _=>⟨u,k b u q⟩
  tups:=fun b xs q=>by rw [av (aM q hn)];exact q
  frzs:=fun b u xs q=>by rw [av (aM q hn)];exact q
  tbls:=fun b ps q=>⟨#[],by rw [av (aM q hn),q];simp⟩
theorem Un.write (mu:Mut (H x)) (he:e=x\/H e=some (.own x)) (k:∀ b u,b ≠ e->h.get? b=some u->h'.get? b=some u) (heo:∃ u,h'.get? e=some u):Un fs ex H (upd H x o) h h':=by
  have hx:∀ b,H b=none->b ≠ x:=fun b n z=>by subst z;rw [n] at mu;exact mu
  have hb:∀ b,H b=none->b ≠ e:=fun b n z=>by
    subst z
    rcases he with r | r
    · exact hx b n r
    · rw [n] at r;cases r
  have hm:∀ b u,H b=some u->¬ Mut (some u)->b ≠ x:=fun b u q nm z=>by subst z;rw [q] at mu;exact nm mu
  refine ⟨fun b u q n _ _=>k b u (hb b n) q,fun b u q n _ _=>⟨u.slots,k b u (hb b n) q⟩,fun b u q n _=>by rw [av (hx b n)];exact n,fun b u q _=>?_,
    fun b xs q=>by rw [av (hm b _ q fun z=>z)];exact q,fun b u xs q=>by rw [av (hm b _ q fun z=>z)];exact q,fun b ps q=>⟨#[],by rw [av (hm b _ q fun z=>z),q];simp⟩⟩
  by_cases hbe:b=e
  · subst hbe;exact heo
  · exact ⟨u,k b u hbe q⟩
end
noncomputable def trk (h:Heap) (H:Hp):List Addr:=(List.range h.objs.size).filter fun a=>(H a).isSome
noncomputable def ju (h:Heap) (H:Hp):Heap:=PySem.W.hideAll h (trk h H)
theorem nG (h:Heap) (H:Hp):(ju h H).objs.size=h.objs.size:=PySem.W.hideAll_size _ _
theorem pS {h:Heap} {H:Hp} {b:Addr} {o:Obj} (e:h.get? b=some o) (n:H b=none):(ju h H).get? b=some o :=
  PySem.W.hideAll_get _ e fun hm=>by
    have q:(H b).isSome=true:=(vZ.mp hm).2
    rw [n] at q;simp at q
theorem rG {h:Heap} {H:Hp} {b:Addr} {o:Obj} (e:(ju h H).get? b=some o):h.get? b=some o/\H b=none:=by
  have e':h.get? b=some o:=PySem.W.of_hideAll (trk h H) e
  refine ⟨e',?_⟩
  cases q:H b with
  | none=>rfl
  | some x =>
    have hm:b ∈ trk h H:=vZ.mpr ⟨List.mem_range.mpr (vz e'),by simp [q]⟩
    have z:(ju h H).get? b=none:=PySem.W.hideAll_none (trk h H) hm
    rw [z] at e;cases e
noncomputable def sA (g h:Heap) (L:Addr):List (Addr × Obj):=(List.range h.objs.size).filterMap fun a=>if a=L\/(g.get? a).isSome=true then none else (h.get? a).map fun o=>(a,o)
noncomputable def cN (g h:Heap) (L d:Addr):List (Addr × Obj):=(sA g h L).filter fun p=>decide (p.1 ≠ d)
end L2
namespace L2
open PySem PySem.Spec PyProof.Rows
structure Mod (K:FG) (mg:Str->Option Value) (base:Heap):Prop where
  kin:K.In base
  glob:base.Ns mainGlobals mg
  blt:∃ mb,base.Ns builtinsNs mb/\∀ x:Str,x ≠ "__name__"->mb x=bootBuiltins x
  nolimit:base.NoLimit
structure Cx where
  prog:Program
  w:World
  K:FG
  mg:Str->Option Value
  base:Heap
  A:Around
  N:List Str
  s₀:Shared
  H₀:Hp
  env:Env
  outer:List Env
  stack:List Env
  ex:List Addr
  fn:Str->Bool
  calm:Bool
  pn:List (Addr × Obj)
  xe:Value->Shared->Prop
noncomputable def frs (l:List Env):List Addr:=l.filterMap (·.frame)
noncomputable abbrev Cx.fs (X:Cx):List Addr:=frs X.outer
noncomputable def Vis (sc:Scope) (x:Str):Prop:=sc.names.lookup x=some .local\/sc.names.lookup x=some .cell\/sc.names.lookup x=some .free
noncomputable def Loc (sc:Scope) (x:Str):Prop:=sc.names.lookup x=some .local\/sc.names.lookup x=some .cell
noncomputable def Look (env:Env) (h:Heap) (m:Str->Option Value) (x:Str) (u:Value):Prop :=
  (env.kindOf x=some .local/\m x=some u)\/((env.kindOf x=some .cell\/env.kindOf x=some .free)/\∃ c,env.cells.lookup x=some c/\h.IsCell c (some u))
structure Cx.Ok (X:Cx):Prop where
  mod:Mod X.K X.mg X.base
  kind:X.env.scope.kind=.function
  glob:X.env.globals=mainGlobals
  blt:X.env.builtins=builtinsNs
  above:X.s₀.heap.objs.size<=X.env.locals
  inj:∀ x y c,X.env.cells.lookup x=some c->X.env.cells.lookup y=some c->x=y
  has:∀ x,(X.env.kindOf x=some .cell\/X.env.kindOf x=some .free)->∃ c,X.env.cells.lookup x=some c
  cab:∀ x c,X.fn x=true->X.env.cells.lookup x=some c->X.s₀.heap.objs.size<=c
  hd:X.calm=true->X.A.handled=none
  frames:X.A.frames=some X.stack
  stk:X.stack=X.outer\/(X.stack=X.env :: X.outer/\X.env.frame=some X.env.locals)
  exf:∀ b ∈ X.ex,b ≠ X.env.locals/\∀ x c,X.env.cells.lookup x=some c->c ≠ b
  bs:∀ b o,X.base.get? b=some o->X.s₀.heap.get? b=some o/\X.H₀ b=none
  bsz:X.base.objs.size<=X.s₀.heap.objs.size
  noex:∀ b o,X.base.get? b=some o->b ∉ X.ex
  exfs:∀ b ∈ X.ex,b ∉ X.fs
  funs:X.s₀.heap.FunFrames X.base X.outer
  frf:∀ b ∈ X.fs,X.H₀ b=none
structure Inv (X:Cx) (pins:List (Addr × Obj)) (σ:List (Option V)) (H:Hp) (s:Shared):Prop where
  ok:X.Ok
  os:s.os=X.s₀.os
  bare:AllBare s.gens
  base:Un X.fs X.ex X.H₀ H X.s₀.heap s.heap
  loc:∃ m,s.heap.Ns X.env.locals m/\∀ (i:Nat) (x:Str) (v:V),X.N[i]?=some x->σ[i]?=some (some v)->Vis X.env.scope x->∃ u,RelV v u/\Look X.env s.heap m x u
  cell:∀ x c,X.env.cells.lookup x=some c->∃ v,s.heap.IsCell c v
  free:H X.env.locals=none
  freeC:∀ x c,X.env.cells.lookup x=some c->H c=none
  pin:∀ p ∈ X.pn ++ pins,s.heap.get? p.1=some p.2/\H p.1=none/\p.1 ≠ X.env.locals/\p.1 ∉ X.fs/\∀ v,p.2.data ≠ .cell v
  hok:HOk X.prog X.w H s.heap
  len:σ.length=X.N.length
section
variable {X:Cx} {pins:List (Addr × Obj)} {σ:List (Option V)} {H H':Hp} {s:Shared} {h':Heap}
theorem Cx.Ok.nofr (ok:X.Ok) {b:Addr} {o:Obj} (e:X.base.get? b=some o):b ∉ X.fs:=fun hb=>by
  have:=(ok.funs.mem hb).1
  rw [e] at this;cases this
theorem Inv.bs (I:Inv X pins σ H s):∀ b o,X.base.get? b=some o->s.heap.get? b=some o/\H b=none:=fun b o e =>
  ⟨I.base.keep b o (I.ok.bs b o e).1 (I.ok.bs b o e).2 (I.ok.nofr e) (I.ok.noex b o e),I.base.free b o (I.ok.bs b o e).1 (I.ok.bs b o e).2 (I.ok.noex b o e)⟩
theorem Inv.bk (I:Inv X pins σ H s):∀ b o,X.base.get? b=some o->s.heap.get? b=some o:=fun b o e=>(I.bs b o e).1
theorem Inv.mod (I:Inv X pins σ H s):Mod X.K X.mg X.base:=I.ok.mod
theorem Inv.kIn (I:Inv X pins σ H s):X.K.In s.heap:=I.ok.mod.kin.keeps I.bk
theorem Inv.lt (I:Inv X pins σ H s):X.env.locals < s.heap.objs.size:=let ⟨_,hn,_⟩:=I.loc;hn.lt
theorem Inv.sz (I:Inv X pins σ H s):X.s₀.heap.objs.size<=s.heap.objs.size:=wd I.ok.above (Nat.le_of_lt I.lt)
theorem Inv.nofs (I:Inv X pins σ H s) {a:Addr} (h:s.heap.objs.size<=a):a ∉ X.fs:=fun hb=>by
  obtain ⟨_,o,ho,_⟩:=I.ok.funs.mem hb
  exact absurd (vP (vz ho) (wd I.sz h)) (Nat.lt_irrefl _)
theorem Inv.cne (I:Inv X pins σ H s):∀ x c,X.env.cells.lookup x=some c->c ≠ X.env.locals:=fun x c e z=>by
  obtain ⟨v,o,ho,hd⟩:=I.cell x c e
  obtain ⟨m,⟨o',es,ep,ho',hd',_⟩,_⟩:=I.loc
  rw [z,ho'] at ho;cases ho;rw [hd'] at hd;cases hd
theorem Inv.funs (I:Inv X pins σ H s):s.heap.FunFrames X.base X.outer:=by
  have all:∀ (l:List Env),(∀ b ∈ frs l,b ∈ X.fs)->X.s₀.heap.FunFrames X.base l->s.heap.FunFrames X.base l:=by
    intro l
    induction l with
    | nil=>intro _ _;trivial
    | cons env r ih =>
      intro hs hl
      obtain ⟨hk,⟨L,o,hf,hn,ho,hd⟩,hr⟩:=hl
      have hL:L ∈ X.fs:=hs L (by unfold frs;rw [List.filterMap_cons,hf];exact vo)
      obtain ⟨sl,e⟩:=I.base.slot L o ho (I.ok.frf L hL) hL fun z=>I.ok.exfs L z hL
      exact ⟨hk,⟨L,_,hf,hn,e,hd⟩,ih (fun b hb=>hs b (by unfold frs;rw [List.filterMap_cons,hf];exact vp _ hb)) hr⟩
  exact all X.outer (fun _ hb=>hb) I.ok.funs
theorem Inv.stack (I:Inv X pins σ H s):s.heap.FunFrames X.base X.stack:=by
  rcases I.ok.stk with e | ⟨e,hf⟩
  · rw [e];exact I.funs
  · rw [e]
    obtain ⟨m,hn,_⟩:=I.loc
    refine .cons (by rw [I.ok.kind];decide) hf hn ?_ I.funs
    exact Heap.get?_none_of_le (wd I.ok.bsz I.ok.above)
theorem Inv.stkSub (I:Inv X pins σ H s):∀ b ∈ frs X.stack,b ∈ X.env.locals :: X.fs:=fun b hb=>by
  rcases I.ok.stk with e | ⟨e,hf⟩
  · rw [e] at hb;exact vp _ hb
  · rw [e] at hb
    unfold frs at hb
    rw [List.filterMap_cons,hf] at hb
    exact hb
theorem Inv.stkFree (I:Inv X pins σ H s):∀ b ∈ frs X.stack,H b=none:=fun b hb=>by
  rcases vx.mp (I.stkSub b hb) with e | hb
  · rw [e];exact I.free
  · obtain ⟨_,o,ho,_⟩:=I.ok.funs.mem hb
    exact I.base.free b o ho (I.ok.frf b hb) fun z=>I.ok.exfs b z hb
theorem Inv.step {g':Array GenState} {t':Nat} {d':Drawn} {ch:List Addr} (I:Inv X pins σ H s)
    (hch:∀ b ∈ ch,(b ∈ X.ex\/X.s₀.heap.objs.size<=b)/\b ≠ X.env.locals/\(∀ x c,X.env.cells.lookup x=some c->c ≠ b)/\∀ p ∈ X.pn ++ pins,p.1 ≠ b)
    (keep:∀ b o,b ≠ X.env.locals->b ∉ X.fs->b ∉ ch->s.heap.get? b=some o->H b=none->h'.get? b=some o)
    (slot:∀ b o,b ≠ X.env.locals->b ∈ X.fs->b ∉ ch->s.heap.get? b=some o->H b=none->∃ sl,h'.get? b=some { o with slots:=sl }) (free:∀ b o,b ∉ ch->s.heap.get? b=some o->H b=none->H' b=none)
    (there:∀ b o,b ∉ ch->s.heap.get? b=some o->∃ o',h'.get? b=some o')
    (tups:∀ b xs,H b=some (.tup xs)->H' b=some (.tup xs)) (frzs:∀ b o u,H b=some (.frz o u)->H' b=some (.frz o u)) (tbls:∀ b ps,H b=some (.tbl ps)->∃ more,H' b=some (.tbl (ps ++ more)))
    (ns:∀ m,s.heap.Ns X.env.locals m->h'.Ns X.env.locals m) (hok:HOk X.prog X.w H' h') (hg:AllBare g') :
    Inv X pins σ H' { s with heap:=h',gens:=g',drawn:=d',toks:=t' }:=by
  have neL:∀ b o,X.s₀.heap.get? b=some o->b ≠ X.env.locals:=fun b o e=>vK (vP (vz e) I.ok.above)
  have neC:∀ b o,X.s₀.heap.get? b=some o->b ∉ X.ex->b ∉ ch:=fun b o e hx hb=>by
    rcases (hch b hb).1 with z | z
    · exact hx z
    · exact absurd (vP (vz e) z) (Nat.lt_irrefl _)
  have cellK:∀ x c,X.env.cells.lookup x=some c->∀ v,s.heap.IsCell c v->h'.IsCell c v:=fun x c e v ⟨o,ho,hd⟩=>by
    have nch:c ∉ ch:=fun z=>(hch c z).2.2.1 x c e rfl
    by_cases hc:c ∈ X.fs
    · obtain ⟨sl,q⟩:=slot c o (I.cne x c e) hc nch ho (I.freeC x c e)
      exact ⟨_,q,hd⟩
    · exact ⟨o,keep c o (I.cne x c e) hc nch ho (I.freeC x c e),hd⟩
  refine ⟨I.ok,I.os,hg,⟨fun b o e n hb hx=>?_,fun b o e n hb hx=>?_,fun b o e n hx=>?_,fun b o e hx=>?_,fun b xs e=>tups b xs (I.base.tups b xs e),fun b o xs e=>frzs b o xs (I.base.frzs b o xs e),fun b ps e=>?_⟩,?_,fun x c e=>?_,?_,fun x c e=>?_,fun p hp=>?_,hok,I.len⟩
  · exact keep b o (neL b o e) hb (neC b o e hx) (I.base.keep b o e n hb hx) (I.base.free b o e n hx)
  · obtain ⟨sl,e1⟩:=I.base.slot b o e n hb hx
    obtain ⟨sl',e2⟩:=slot b _ (neL b o e) hb (neC b o e hx) e1 (I.base.free b o e n hx)
    exact ⟨sl',e2⟩
  · obtain ⟨o',e1⟩:=I.base.there b o e hx
    exact free b o' (neC b o e hx) e1 (I.base.free b o e n hx)
  · obtain ⟨o',e1⟩:=I.base.there b o e hx
    exact there b o' (neC b o e hx) e1
  · obtain ⟨m1,e1⟩:=I.base.tbls b ps e
    obtain ⟨m2,e2⟩:=tbls b _ e1
    exact ⟨m1 ++ m2,by rw [e2,Array.append_assoc]⟩
  · obtain ⟨m,hn,hl⟩:=I.loc
    refine ⟨m,ns m hn,fun i x v e1 e2 e3=>?_⟩
    obtain ⟨u,r,l⟩:=hl i x v e1 e2 e3
    refine ⟨u,r,?_⟩
    rcases l with l | ⟨k,c,e,z⟩
    · exact .inl l
    · exact .inr ⟨k,c,e,cellK x c e _ z⟩
  · obtain ⟨v,z⟩:=I.cell x c e
    exact ⟨v,cellK x c e v z⟩
  · obtain ⟨m,⟨o,_,_,ho,_⟩,_⟩:=I.loc
    exact free _ o (fun z=>(hch _ z).2.1 rfl) ho I.free
  · obtain ⟨v,o,ho,hd⟩:=I.cell x c e
    exact free c o (fun z=>(hch c z).2.2.1 x c e rfl) ho (I.freeC x c e)
  · obtain ⟨e,n,ne,nf,d⟩:=I.pin p hp
    have nch:p.1 ∉ ch:=fun z=>(hch p.1 z).2.2.2 p hp rfl
    exact ⟨keep p.1 p.2 ne nf nch e n,free p.1 p.2 nch e n,ne,nf,d⟩
theorem Inv.un {t':Nat} (I:Inv X pins σ H s) (u:Un X.fs [] H H' s.heap h') (hok:HOk X.prog X.w H' h'):Inv X pins σ H' { s with heap:=h',toks:=t' }:=by
  obtain ⟨m,⟨o,es,ep,ho,r⟩,_⟩:=id I.loc
  obtain ⟨sl,hL⟩:=u.any ho I.free (by simp)
  exact I.step (g':=s.gens) (d':=s.drawn) (ch:=[]) (fun _ z=>nomatch z) (fun b o _ hb _ e n=>u.keep b o e n hb (by simp)) (fun b o _ hb _ e n=>u.slot b o e n hb (by simp)) (fun b o _ e n=>u.free b o e n (by simp)) (fun b o _ e=>u.there b o e (by simp)) u.tups u.frzs u.tbls (fun m' hm=>by
    obtain ⟨o',es',ep',ho',r'⟩:=hm
    rw [ho] at ho';cases ho'
    exact ⟨_,es',ep',hL,r'⟩) hok I.bare
theorem Inv.call {g':Array GenState} {t':Nat} {d':Drawn} {ch:List Addr} (I:Inv X pins σ H s) (u:Un (frs X.stack) ch H H' s.heap h') (hok:HOk X.prog X.w H' h') (hg:AllBare g')
    (hch:∀ b ∈ ch,(b ∈ X.ex\/X.s₀.heap.objs.size<=b)/\b ≠ X.env.locals/\(∀ x c,X.env.cells.lookup x=some c->c ≠ b)/\∀ p ∈ X.pn ++ pins,p.1 ≠ b) :
    Inv X pins σ H' { s with heap:=h',gens:=g',drawn:=d',toks:=t' }:=by
  obtain ⟨m,⟨o,es,ep,ho,r⟩,_⟩:=id I.loc
  obtain ⟨sl,hL⟩:=u.any ho I.free fun z=>(hch _ z).2.1 rfl
  exact I.step (ch:=ch) hch (fun b o hL hb hc e n=>u.keep b o e n (fun z=>(vx.mp (I.stkSub b z)).elim hL hb) hc) (fun b o _ _ hc e n=>u.any e n hc) (fun b o hc e n=>u.free b o e n hc) (fun b o hc e=>u.there b o e hc) u.tups u.frzs u.tbls (fun m' hm=>by
    obtain ⟨o',es',ep',ho',r'⟩:=hm
    rw [ho] at ho';cases ho'
    exact ⟨_,es',ep',hL,r'⟩) hok hg
theorem Inv.turned {t':Nat} {it:Addr} (I:Inv X pins σ H s) (k:∀ b o,b ≠ it->s.heap.get? b=some o->h'.get? b=some o) (hn:H it=none) (hL:it ≠ X.env.locals)
    (h1:it ∈ X.ex\/X.s₀.heap.objs.size<=it) (h2:∀ x c,X.env.cells.lookup x=some c->c ≠ it) (h3:∀ p ∈ X.pn ++ pins,p.1 ≠ it):Inv X pins σ H { s with heap:=h',toks:=t' }:=by
  have nit:∀ b u,H b=some u->b ≠ it:=fun b u e z=>by rw [z,hn] at e;cases e
  refine I.step (g':=s.gens) (d':=s.drawn) (ch:=[it]) (fun b hb=>?_) (fun b o _ _ hc e _=>k b o (fun z=>hc (by simp [z])) e) (fun b o _ _ hc e _=>⟨o.slots,k b o (fun z=>hc (by simp [z])) e⟩) (fun _ _ _ _ n=>n)
    (fun b o hc e=>⟨o,k b o (fun z=>hc (by simp [z])) e⟩) (fun _ _ e=>e) (fun _ _ _ e=>e) (fun b ps e=>⟨#[],by rw [e];simp⟩) (fun m hm=>?_) (fun b u e=>?_) I.bare
  · have e:b=it:=by simpa using hb
    subst e
    exact ⟨h1,hL,h2,h3⟩
  · obtain ⟨o,es,ep,ho,r⟩:=hm
    exact ⟨o,es,ep,k _ o (Ne.symm hL) ho,r⟩
  · refine (I.hok b u e).stay (fun c v hc q=>k c v ?_ q) (fun _ q=>q) fun _ _ q=>q
    rcases hc with z | z
    · rw [z];exact nit b u e
    · exact nit c _ z
theorem Inv.tok (I:Inv X pins σ H s) (t:Nat):Inv X pins σ H { s with toks:=t }:=I.un (h':=s.heap) (t':=t) Un.refl I.hok
theorem Inv.kept {t':Nat} (I:Inv X pins σ H s) (k:∀ b u,s.heap.get? b=some u->h'.get? b=some u):Inv X pins σ H { s with heap:=h',toks:=t' }:=I.un (Un.kept k) (I.hok.kept k)
theorem Inv.laid {a:Addr} {o:HO} {t':Nat} (I:Inv X pins σ H s) (k:∀ b u,s.heap.get? b=some u->h'.get? b=some u) (hp:s.heap.objs.size<=a) (new:ObjOk X.prog X.w (upd H a o) h' a o) :
    Inv X pins σ (upd H a o) { s with heap:=h',toks:=t' }:=I.un (Un.laid k hp (I.hok.fresh hp)) (I.hok.laid k hp new)
theorem Inv.write {x e:Addr} {o:HO} {t':Nat} (I:Inv X pins σ H s) (mu:Mut (H x)) (he:e=x\/H e=some (.own x)) (k:∀ b u,b ≠ e->s.heap.get? b=some u->h'.get? b=some u) (heo:∃ u,h'.get? e=some u)
    (new:ObjOk X.prog X.w (upd H x o) h' x o):Inv X pins σ (upd H x o) { s with heap:=h',toks:=t' }:=I.un (Un.write mu he k heo) (I.hok.write mu he k heo new)
theorem Inv.pins_of {pins':List (Addr × Obj)} (I:Inv X pins σ H s) (h:∀ p ∈ pins',s.heap.get? p.1=some p.2/\H p.1=none/\p.1 ≠ X.env.locals/\p.1 ∉ X.fs/\∀ v,p.2.data ≠ .cell v):Inv X pins' σ H s :=
  ⟨I.ok,I.os,I.bare,I.base,I.loc,I.cell,I.free,I.freeC,fun p hp=>(vA.mp hp).elim (fun z=>I.pin p (vv _ z)) (h p),I.hok,I.len⟩
theorem j7 {N:List Str} (hN:N.Nodup) {i j:Nat} {x:Str} (a:N[i]?=some x) (b:N[j]?=some x):i=j:=by
  obtain ⟨h1,e1⟩:=vD.mp a
  obtain ⟨h2,e2⟩:=vD.mp b
  exact (List.getElem_inj hN).mp (e1.trans e2.symm)
theorem mP {M:Model} {A:Around} {E:Value->Shared->Prop} {i:Nat} {x:Str} {v:V} {u:Value} {Q:Unit->Shared->Prop} (I:Inv X pins σ H s) (hN:X.N.Nodup) (hi:X.N[i]?=some x) (hx:Loc X.env.scope x) (r:RelV v u)
    (h:∀ s',Inv X pins (σ.set i (some v)) H s'->(∃ a,Heap.SameBut a s.heap s'.heap/\(a=X.env.locals\/X.env.cells.lookup x=some a))->Q () s') (hf:X.fn x=true\/X.env.scope.names.lookup x=some .local:=by first | exact .inl rfl | exact .inr rfl | assumption):wpAny M A (storeName X.env x u) Q E s:=by
  obtain ⟨m,hn,hl⟩:=id I.loc
  have hcls:(X.env.scope.kind == .class || (X.env.scope.kind == .module && X.env.locals != X.env.globals))=false:=by rw [I.ok.kind];rfl
  have hiσ:i < σ.length:=by rw [I.len];exact (vD.mp hi).1
  have cne:=I.cne
  have tracked:∀ {a:Addr} {h':Heap},(∃ o,s.heap.get? a=some o/\H a=none)->Heap.SameBut a s.heap h'->HOk X.prog X.w H h':=fun {a h'} ha hs b ob e=>by
    obtain ⟨_,_,hfree⟩:=ha
    refine (I.hok b ob e).stay (fun c w' hc q=>(hs.2 c ?_).trans q) (fun _ q=>q) fun _ _ q=>q
    rintro rfl
    rcases hc with rfl | hc
    · rw [hfree] at e;cases e
    · rw [hfree] at hc;cases hc
  rcases hx with hk | hk
  · refine wpAny_storeName_local hk hn (fun h' hn' hs=>?_) hcls
    obtain ⟨oL,_,_,hoL,_⟩:=id hn
    refine h _ ⟨I.ok,I.os,I.bare,⟨fun b o e n hb hx=>?_,fun b o e n hb hx=>?_,I.base.free,fun b o e hx=>?_,I.base.tups,I.base.frzs,I.base.tbls⟩,⟨_,hn',fun j y v' e1 e2 e3=>?_⟩,fun y c e=>?_,I.free,I.freeC,fun p hp=>?_,tracked ⟨oL,hoL,I.free⟩ hs,by simpa using I.len⟩ ⟨_,hs,.inl rfl⟩
    · exact (hs.2 b (vK (vP (vz e) I.ok.above))).trans (I.base.keep b o e n hb hx)
    · obtain ⟨sl,e1⟩:=I.base.slot b o e n hb hx
      exact ⟨sl,(hs.2 b (vK (vP (vz e) I.ok.above))).trans e1⟩
    · obtain ⟨o',e1⟩:=I.base.there b o e hx
      exact ⟨o',(hs.2 b (vK (vP (vz e) I.ok.above))).trans e1⟩
    · by_cases hj:j=i
      · subst hj
        rw [hi] at e1;cases e1
        rw [List.getElem?_set_self hiσ] at e2
        cases e2
        exact ⟨u,r,.inl ⟨hk,by simp⟩⟩
      · rw [List.getElem?_set_ne (Ne.symm hj)] at e2
        obtain ⟨u',r',q⟩:=hl j y v' e1 e2 e3
        refine ⟨u',r',?_⟩
        rcases q with ⟨k,e⟩ | ⟨k,c,e,z⟩
        · refine .inl ⟨k,?_⟩
          have:y ≠ x:=fun e=>hj (j7 hN e1 (e ▸ hi))
          simp [this,e]
        · exact .inr ⟨k,c,e,z.sameBut hs (cne y c e)⟩
    · obtain ⟨w',z⟩:=I.cell y c e
      exact ⟨w',z.sameBut hs (cne y c e)⟩
    · obtain ⟨e,n,ne,nf,d⟩:=I.pin p hp
      exact ⟨(hs.2 p.1 ne).trans e,n,ne,nf,d⟩
  · have hfn:X.fn x=true:=by
      rcases hf with z | z
      · exact z
      · rw [z] at hk;cases hk
    obtain ⟨c,hc⟩:=I.ok.has x (.inl hk)
    obtain ⟨w',z⟩:=I.cell x c hc
    refine wpAny_storeName_cell I.ok.kind hk hc z (fun h' hc' hs=>?_)
    obtain ⟨oc,hoc,hocd⟩:=id z
    refine h { s with heap:=h' } ⟨I.ok,I.os,I.bare,⟨fun b o e n hb hx=>?_,fun b o e n hb hx=>?_,I.base.free,fun b o e hx=>?_,I.base.tups,I.base.frzs,I.base.tbls⟩,⟨m,hn.sameBut hs (Ne.symm (cne x c hc)),fun j y v' e1 e2 e3=>?_⟩,fun y c' e=>?_,I.free,I.freeC,fun p hp=>?_,tracked ⟨oc,hoc,I.freeC x c hc⟩ hs,by simpa using I.len⟩ ⟨c,hs,.inr hc⟩
    · exact (hs.2 b (vK (vP (vz e) (I.ok.cab x c hfn hc)))).trans (I.base.keep b o e n hb hx)
    · obtain ⟨sl,e1⟩:=I.base.slot b o e n hb hx
      exact ⟨sl,(hs.2 b (vK (vP (vz e) (I.ok.cab x c hfn hc)))).trans e1⟩
    · obtain ⟨o',e1⟩:=I.base.there b o e hx
      exact ⟨o',(hs.2 b (vK (vP (vz e) (I.ok.cab x c hfn hc)))).trans e1⟩
    · by_cases hj:j=i
      · subst hj
        rw [hi] at e1;cases e1
        rw [List.getElem?_set_self hiσ] at e2
        cases e2
        exact ⟨u,r,.inr ⟨.inl hk,c,hc,hc'⟩⟩
      · rw [List.getElem?_set_ne (Ne.symm hj)] at e2
        obtain ⟨u',r',q⟩:=hl j y v' e1 e2 e3
        refine ⟨u',r',?_⟩
        rcases q with q | ⟨k,c',e,z'⟩
        · exact .inl q
        · refine .inr ⟨k,c',e,z'.sameBut hs ?_⟩
          rintro rfl
          exact hj (j7 hN e1 (I.ok.inj _ _ _ e hc ▸ hi))
    · by_cases hcc:c'=c
      · subst hcc;exact ⟨_,hc'⟩
      · obtain ⟨w2,z2⟩:=I.cell y c' e
        exact ⟨w2,z2.sameBut hs hcc⟩
    · obtain ⟨e,n,ne,nf,d⟩:=I.pin p hp
      refine ⟨(hs.2 p.1 ?_).trans e,n,ne,nf,d⟩
      intro q
      rw [q,hoc] at e
      have q':oc=p.2:=wg e
      exact d w' (by rw [<- q'];exact hocd)
theorem jQ {M:Model} {A:Around} {E:Value->Shared->Prop} {i:Nat} {x:Str} {v:V} {u:Value} {Q:Unit->Shared->Prop} (I:Inv X pins σ H s) (hN:X.N.Nodup) (hi:X.N[i]?=some x) (hx:Loc X.env.scope x) (r:RelV v u)
    (h:∀ s',Inv X pins (σ.set i (some v)) H s'->Q () s') (hf:X.fn x=true\/X.env.scope.names.lookup x=some .local:=by first | exact .inl rfl | exact .inr rfl | assumption):wpAny M A (storeName X.env x u) Q E s :=
  mP I hN hi hx r (fun s' I' _=>h s' I') hf
theorem Inv.call' {s':Shared} {ch:List Addr} (I:Inv X pins σ H s) (ho:s'.os=s.os) (u:Un (frs X.stack) ch H H' s.heap s'.heap) (hok:HOk X.prog X.w H' s'.heap) (hg:AllBare s'.gens)
    (hch:∀ b ∈ ch,(b ∈ X.ex\/X.s₀.heap.objs.size<=b)/\b ≠ X.env.locals/\(∀ x c,X.env.cells.lookup x=some c->c ≠ b)/\∀ p ∈ X.pn ++ pins,p.1 ≠ b):Inv X pins σ H' s':=by
  obtain ⟨h',g',d',t',o'⟩:=s'
  have e:o'=s.os:=ho
  subst e
  exact I.call (g':=g') (t':=t') (d':=d') u hok hg hch
end
noncomputable abbrev XK:=Value->Option Addr->Hp->Prop
noncomputable abbrev St:=List (Option V)
noncomputable abbrev VK:=V->Hp->Prop
noncomputable abbrev TE:=St->Hp->VK->Prop
noncomputable abbrev TT:=St->Hp->(Bool->Hp->Prop)->Prop
noncomputable abbrev TA:=St->Hp->(List V->Hp->Prop)->Prop
structure Ends where
  nx:St->Hp->Prop
  rt:VK
  bk:St->Hp->Prop:=fun _ _=>False
  ct:St->Hp->Prop:=fun _ _=>False
noncomputable abbrev TS:=Ends->St->Hp->Prop
noncomputable def EP (X:Cx) (pins:List (Addr × Obj)) (σ:St) (Q:VK) (u:Value) (s':Shared):Prop:=∃ v H',Inv X pins σ H' s'/\RelV v u/\Q v H'
noncomputable def TP (X:Cx) (pins:List (Addr × Obj)) (σ:St) (Q:Bool->Hp->Prop) (b:Bool) (s':Shared):Prop:=∃ H',Inv X pins σ H' s'/\Q b H'
noncomputable def AP (X:Cx) (pins:List (Addr × Obj)) (σ:St) (Q:List V->Hp->Prop) (us:List Value) (s':Shared):Prop:=∃ vs H',Inv X pins σ H' s'/\Vals vs us/\Q vs H'
set_option tactic.hygienic true in
noncomputable def SP (X:Cx) (pins:List (Addr × Obj)) (D:Ends) (f:Flow) (s':Shared):Prop :=
  match f with
  | .next=>∃ σ' H',Inv X pins σ' H' s'/\D.nx σ' H'
  | .brk=>∃ σ' H',Inv X pins σ' H' s'/\D.bk σ' H'
  | .cont=>∃ σ' H',Inv X pins σ' H' s'/\D.ct σ' H'
  | .ret u=>∃ v σ' H',Inv X pins σ' H' s'/\RelV v u/\D.rt v H'
noncomputable def PE (X:Cx) (e:Expr) (t:TE):Prop :=
  ∀ (pins:List (Addr × Obj)) (s:Shared) (σ:St) (H:Hp) (Q:VK),Inv X pins σ H s->t σ H Q->wpAny (model X.prog X.w) X.A (eval e X.env) (EP X pins σ Q) X.xe s
noncomputable def PT (X:Cx) (e:Expr) (t:TT):Prop :=
  ∀ (pins:List (Addr × Obj)) (s:Shared) (σ:St) (H:Hp) (Q:Bool->Hp->Prop),Inv X pins σ H s->t σ H Q->wpAny (model X.prog X.w) X.A (isTrue e X.env (eval e X.env)) (TP X pins σ Q) X.xe s
noncomputable def PW (X:Cx) (e:Expr) (t:TT):Prop :=
  ∀ (whole:Sem Value) (pins:List (Addr × Obj)) (s:Shared) (σ:St) (H:Hp) (Q:Bool->Hp->Prop),Inv X pins σ H s->t σ H Q->wpAny (model X.prog X.w) X.A (isTrue e X.env whole) (TP X pins σ Q) X.xe s
theorem PW.pt {X:Cx} {e:Expr} {t:TT} (h:PW X e t):PT X e t:=h _
noncomputable def PA (X:Cx) (es:List Expr) (t:TA):Prop :=
  ∀ (pos:Pos) (pins:List (Addr × Obj)) (s:Shared) (σ:St) (H:Hp) (Q:List V->Hp->Prop),Inv X pins σ H s->t σ H Q->wpAny (model X.prog X.w) X.A (spliced (backTo pos (starEach es X.env))) (AP X pins σ Q) X.xe s
noncomputable def PS (X:Cx) (st:Stmt) (t:TS):Prop :=
  ∀ (pins:List (Addr × Obj)) (s:Shared) (σ:St) (H:Hp) (D:Ends),Inv X pins σ H s->t D σ H->wpAny (model X.prog X.w) X.A (exec st X.env) (SP X pins D) X.xe s
noncomputable def PSs (X:Cx) (st:List Stmt) (t:TS):Prop :=
  ∀ (pins:List (Addr × Obj)) (s:Shared) (σ:St) (H:Hp) (D:Ends),Inv X pins σ H s->t D σ H->wpAny (model X.prog X.w) X.A (execs st X.env) (SP X pins D) X.xe s
theorem thn {α:Type} {t:Sem α} {Q Q':α->Shared->Prop} {M:Model} {A:Around} {E:Value->Shared->Prop} {s:Shared} (h:wpAny M A t Q E s) (hQ:∀ a s,Q a s->Q' a s):wpAny M A t Q' E s:=wpAny_mono h hQ fun _ _ x=>x
end L2
namespace L2
open PySem PySem.Spec PyProof.Rows
section
variable {X:Cx}
theorem bin {a b:Expr} {ta tb:TE} (ha:PE X a ta) (hb:PE X b tb) {pins:List (Addr × Obj)} {s:Shared} {σ:St} {H:Hp} {R:V->V->Hp->Prop} (I:Inv X pins σ H s) (h:ta σ H fun x H1=>tb σ H1 fun y H2=>R x y H2)
    {α:Type} {Q:α->Shared->Prop} {f:Value->Value->Sem α}
    (hf:∀ v u s2 x y H2,Inv X pins σ H2 s2->RelV x v->RelV y u->R x y H2->wpAny (model X.prog X.w) X.A (f v u) Q X.xe s2) :
    wpAny (model X.prog X.w) X.A (eval a X.env) (fun v s₁=>wpAny (model X.prog X.w) X.A (eval b X.env) (fun u s₂=>wpAny (model X.prog X.w) X.A (f v u) Q X.xe s₂) X.xe s₁) X.xe s:=by
  refine thn (ha pins s σ H _ I h) fun v s1 ⟨x,H1,I1,r1,q1⟩=>?_
  refine thn (hb pins s1 σ H1 _ I1 q1) fun u s2 ⟨y,H2,I2,r2,q2⟩=>?_
  exact hf v u s2 x y H2 I2 r1 r2 q2
noncomputable def jP (i:Nat):TE:=fun σ H Q=>∃ v,σ[i]?=some (some v)/\Q v H
noncomputable def tC (v:V):TE:=fun _ H Q=>Q v H
theorem eS {i:Nat} {x:Str} {pos:Pos} (hN:X.N[i]?=some x) (hv:Vis X.env.scope x) (hd:(x == ("__debug__":Str))=false:=by decide) (hcd:(x == ("__classdict__":Str))=false:=by decide):PE X (.Name x pos) (jP i):=by
  intro pins s σ H Q I h
  obtain ⟨v,e,h⟩:=h
  obtain ⟨m,hn,hl⟩:=I.loc
  obtain ⟨u,r,l⟩:=hl i x v hN e hv
  have fin:EP X pins σ Q u s:=⟨v,H,I,r,h⟩
  rcases l with ⟨hk,hm⟩ | ⟨hk,c,hc,hcell⟩
  · exact wpAny_Name (wpAny_loadName_local I.ok.kind hk hn hm fin) hd
  · rcases hk with hk | hk
    · exact wpAny_Name (wpAny_loadName_cell I.ok.kind hk hc hcell fin) hd
    · exact wpAny_Name (wpAny_loadName_free I.ok.kind hk hc hcell fin hcd) hd
theorem uk {i j pos}:PE X (.Constant (.int i) j pos) (tC (.int i)):=fun _ _ _ H _ I h=>wpAny_Constant_int ⟨.int i,H,I.tok _,⟨_,rfl⟩,h⟩
theorem pe_bl {b j pos}:PE X (.Constant (.bool b) j pos) (tC (.bl b)):=fun _ _ _ H _ I h=>Constant_bool ⟨.bl b,H,I,rfl,h⟩
noncomputable def Gl (X:Cx) (x:Str):Prop:=X.env.kindOf x=some .globalImplicit
theorem ml {E:Value->Shared->Prop} {pins:List (Addr × Obj)} {s:Shared} {σ:St} {H:Hp} {x:Str} {u:Value} {pos:Pos} {Q:Value->Shared->Prop} (I:Inv X pins σ H s) (hg:Gl X x) (hm:X.mg x=some u) (h:Q u s)
    (hd:(x == ("__debug__":Str))=false:=by decide):wpAny (model X.prog X.w) X.A (eval (.Name x pos) X.env) Q E s :=
  Calls.Name_function_global I.ok.kind hg (Calls.loadGlobal_global (by rw [I.ok.glob];exact I.mod.glob.keeps I.bk) hm h) hd
theorem eY {E:Value->Shared->Prop} {pins:List (Addr × Obj)} {s:Shared} {σ:St} {H:Hp} {x:Str} {u:Value} {pos:Pos} {Q:Value->Shared->Prop} (I:Inv X pins σ H s) (hg:Gl X x) (hm:X.mg x=none) (hv:bootBuiltins x=some u) (h:Q u s)
    (hn:x ≠ "__name__":=by decide) (hd:(x == ("__debug__":Str))=false:=by decide):wpAny (model X.prog X.w) X.A (eval (.Name x pos) X.env) Q E s:=by
  obtain ⟨mb,h1,h2⟩:=I.mod.blt
  exact Calls.Name_function_global I.ok.kind hg (Calls.loadGlobal_builtin (by rw [I.ok.glob];exact I.mod.glob.keeps I.bk) hm (by rw [I.ok.blt];exact h1.keeps I.bk) ((h2 x hn).trans hv) h) hd
theorem rB {x:Str} {v:V} {u:Value} {pos:Pos} (hg:Gl X x) (hm:X.mg x=some u) (r:RelV v u) (hd:(x == ("__debug__":Str))=false:=by decide):PE X (.Name x pos) (tC v) :=
  fun _ _ _ H _ I h=>ml I hg hm ⟨v,H,I,r,h⟩ hd
theorem du {x:Str} {v:V} {u:Value} {pos:Pos} (hg:Gl X x) (hm:X.mg x=none) (hv:bootBuiltins x=some u) (r:RelV v u) (hn:x ≠ "__name__":=by decide) (hd:(x == ("__debug__":Str))=false:=by decide):PE X (.Name x pos) (tC v) :=
  fun _ _ _ H _ I h=>eY I hg hm hv ⟨v,H,I,r,h⟩ hn hd
variable {a b:Expr} {ta tb:TE} {pos:Pos}
noncomputable def PC (X:Cx) (op:CmpOp) (a b:Expr) (t:TE):Prop :=
  ∀ (pins:List (Addr × Obj)) (s:Shared) (σ:St) (H:Hp) (Q:VK),Inv X pins σ H s->t σ H Q ->
    wpAny (model X.prog X.w) X.A (eval a X.env) (fun v s₁=>wpAny (model X.prog X.w) X.A (eval b X.env) (fun u s₂=>wpAny (model X.prog X.w) X.A (compareOp op v u) (EP X pins σ Q) X.xe s₂) X.xe s₁) X.xe s
noncomputable def tB (t:TE):TT:=fun σ H Q=>t σ H fun x H1=>∃ c,x=.bl c/\Q c H1
theorem t6 {e:Expr} {t:TE} (h:PE X e t) (he:∀ whole,isTrue e X.env whole=(do let v <- whole;standAt e.pos;holding [v] (truthy v)):=by intro _;rfl):PT X e (tB t):=by
  intro pins s σ H Q I hw
  refine isTrue_plain (thn (h pins s σ H _ I hw) fun v s1 ⟨x,H1,I1,r1,q1⟩=>?_) (he _)
  obtain ⟨d,rfl,q⟩:=q1
  cases r1
  exact wc ⟨H1,I1,q⟩
variable {tA tB':TT} {cN:List Expr}
noncomputable def tOr (t u:TT):TT:=fun σ H Q=>t σ H fun c H1=>if c=true then Q true H1 else u σ H1 Q
noncomputable def tNot (t:TT):TT:=fun σ H Q=>t σ H fun c H1=>Q (!c) H1
theorem t5 (ha:PT X a tA):PW X (.BoolOp .Or [a] pos) tA:=by
  intro wh pins s σ H Q I h
  refine isTrue_or (thn (ha pins s σ H Q I h) fun c s1 e=>?_)
  cases c with
  | false=>exact isTrue_or_nil e
  | true=>exact e
theorem pw_or (ha:PT X a tA) (hb:PW X (.BoolOp .Or (b :: cN) pos) tB'):PW X (.BoolOp .Or (a :: b :: cN) pos) (tOr tA tB'):=by
  intro wh pins s σ H Q I h
  refine isTrue_or (thn (ha pins s σ H _ I h) fun c s1 ⟨H1,I1,q1⟩=>?_)
  cases c with
  | true=>exact ⟨H1,I1,q1⟩
  | false=>exact hb wh pins s1 σ H1 Q I1 q1
theorem t7 (ha:PT X a tA):PT X (.UnaryOp .Not a pos) (tNot tA):=by
  intro pins s σ H Q I h
  exact isTrue_not (ha pins s σ H (fun c H1=>Q (!c) H1) I h)
noncomputable def sJ (ta tb:TE):TE:=fun σ H Q=>ta σ H fun x H1=>∃ c,x=.bl c/\if c=true then tb σ H1 Q else Q (.bl false) H1
noncomputable def tOrV (ta tb:TE):TE:=fun σ H Q=>ta σ H fun x H1=>∃ c,x=.bl c/\if c=true then Q (.bl true) H1 else tb σ H1 Q
noncomputable def sD (ta:TE):TE:=fun σ H Q=>ta σ H fun x H1=>∃ c,x=.bl c/\Q (.bl (!c)) H1
theorem uh {op} {t:TE} (h:PE X a t):PE X (.BoolOp op [a] pos) t:=fun pins s σ H Q I hw=>BoolOp_one (h pins s σ H Q I hw)
theorem um (ha:PE X a ta) (hb:PE X (.BoolOp .And (b :: cN) pos) tb):PE X (.BoolOp .And (a :: b :: cN) pos) (sJ ta tb):=by
  intro pins s σ H Q I h
  refine BoolOp_and (thn (ha pins s σ H _ I h) fun v s1 ⟨x,H1,I1,r1,q1⟩=>?_)
  obtain ⟨c,rfl,q1⟩:=q1
  cases r1
  refine wc ?_
  cases c with
  | true=>exact hb pins s1 σ H1 Q I1 q1
  | false=>exact ⟨.bl false,H1,I1,rfl,q1⟩
theorem pe_or (ha:PE X a ta) (hb:PE X (.BoolOp .Or (b :: cN) pos) tb):PE X (.BoolOp .Or (a :: b :: cN) pos) (tOrV ta tb):=by
  intro pins s σ H Q I h
  refine BoolOp_or (thn (ha pins s σ H _ I h) fun v s1 ⟨x,H1,I1,r1,q1⟩=>?_)
  obtain ⟨c,rfl,q1⟩:=q1
  cases r1
  refine wc ?_
  cases c with
  | false=>exact hb pins s1 σ H1 Q I1 q1
  | true=>exact ⟨.bl true,H1,I1,rfl,q1⟩
theorem ui (ha:PE X a ta):PE X (.UnaryOp .Not a pos) (sD ta):=by
  intro pins s σ H Q I h
  refine UnaryOp_ (thn (ha pins s σ H _ I h) fun v s1 ⟨x,H1,I1,r1,q1⟩=>?_)
  obtain ⟨c,rfl,q1⟩:=q1
  cases r1
  exact not_of (wc ⟨.bl (!c),H1,I1,rfl,q1⟩)
end
end L2
namespace L2
open PySem PySem.Spec PyProof.Rows
noncomputable def SqL (K:FG) (H:Hp) (a:Addr) (xs:List V):Prop :=
  Rd H a (.lst xs) \/
    ∃ (o:Obj) (its:Array Value) (n:Nat),K.lookup a=some o/\o.cls=.type "list"/\o.dict=none/\o.data=.seq its n/\its.size<=sizeLine/\Vals xs its.toList
noncomputable def SqT (K:FG) (H:Hp) (a:Addr) (xs:List V):Prop :=
  Rd H a (.tup xs) \/
    ∃ (o:Obj) (its:Array Value) (n:Nat),K.lookup a=some o/\o.cls=.type "tuple"/\o.data=.seq its n/\its.size<=sizeLine/\Vals xs its.toList
noncomputable def absV:Value->Option V
  | .none=>some .non
  | .bool b=>some (.bl b)
  | .int i _=>some (.int i)
  | .str x _=>some (.str x)
  | .bytes b _=>some (.byt b)
  | .float b _=>some (.flt b)
  | .ref a=>some (.ref a)
  | .type n=>some (.ty n)
  | _=>none
theorem RelV.abs {x:V} {u:Value} (r:RelV x u):absV u=some x:=by
  cases x with
  | non=>cases r;rfl
  | bl _=>cases r;rfl
  | int _=>obtain ⟨t,rfl⟩:=r;rfl
  | str _=>obtain ⟨t,rfl⟩:=r;rfl
  | byt _=>obtain ⟨t,rfl⟩:=r;rfl
  | flt _=>obtain ⟨t,rfl⟩:=r;rfl
  | ref _=>cases r;rfl
  | ty _=>cases r;rfl
theorem RelV.inj {x y:V} {u:Value} (r:RelV x u) (q:RelV y u):x=y:=wg (r.abs.symm.trans q.abs)
theorem Vals.inj:∀ {xs ys:List V} {us:List Value},Vals xs us->Vals ys us->xs=ys
  | _,_,_,.nil,.nil=>rfl
  | _,_,_,.cons r t,.cons r' t'=>by rw [r.inj r',Vals.inj t t']
section
variable {X:Cx} {pins:List (Addr × Obj)} {σ:St} {H:Hp} {s:Shared} {a:Addr} {xs ys:List V}
theorem SqL.of {K:FG} (h:H a=some (.lst xs)):SqL K H a xs:=.inl (.inl h)
theorem SqT.of {K:FG} (h:H a=some (.tup xs)):SqT K H a xs:=.inl (.inl h)
theorem Inv.list (I:Inv X pins σ H s) (h:SqL X.K H a xs):∃ its:List Value,Vals xs its/\PlainL s.heap a its.toArray/\xs.length<=sizeLine:=by
  rcases h with h | ⟨o,its,n,hk,hc,hd,hs,hz,r⟩
  · obtain ⟨z,its,n,r,e⟩:=h.ok I.hok
    exact ⟨its,r,⟨_,n,e,rfl,rfl,rfl⟩,z⟩
  · refine ⟨its.toList,r,⟨o,n,I.kIn a o hk,hc,hd,by simpa using hs⟩,?_⟩
    have e:=r.length
    simp only [Array.length_toList] at e
    omega
theorem Inv.tuple (I:Inv X pins σ H s) (h:SqT X.K H a xs):∃ its:List Value,Vals xs its/\IsTup s.heap a its.toArray/\xs.length<=sizeLine:=by
  rcases h with h | ⟨o,its,n,hk,hc,hs,hz,r⟩
  · obtain ⟨z,its,r,p⟩:=h.ok I.hok
    exact ⟨its,r,p.tup,z⟩
  · refine ⟨its.toList,r,⟨o,I.kIn a o hk,hc,n,by simpa using hs⟩,?_⟩
    have e:=r.length
    simp only [Array.length_toList] at e
    omega
theorem Inv.list_inj (I:Inv X pins σ H s) (h:SqL X.K H a xs) (h':SqL X.K H a ys):xs=ys:=by
  obtain ⟨its,r,⟨o,n,e,_,_,d⟩,_⟩:=I.list h
  obtain ⟨its',r',⟨o',n',e',_,_,d'⟩,_⟩:=I.list h'
  rw [e] at e';cases e'
  rw [d] at d'
  injection d' with d1 _
  have:its=its':=by simpa using congrArg Array.toList d1
  subst this
  exact r.inj r'
theorem Inv.tuple_inj (I:Inv X pins σ H s) (h:SqT X.K H a xs) (h':SqT X.K H a ys):xs=ys:=by
  obtain ⟨its,r,⟨o,e,_,n,d⟩,_⟩:=I.tuple h
  obtain ⟨its',r',⟨o',e',_,n',d'⟩,_⟩:=I.tuple h'
  rw [e] at e';cases e'
  rw [d] at d'
  injection d' with d1 _
  have:its=its':=by simpa using congrArg Array.toList d1
  subst this
  exact r.inj r'
end
noncomputable abbrev Cx.wish (X:Cx) (E:Value->Shared->Prop):Cx:={ X with xe:=E }
noncomputable abbrev Cx.nox (X:Cx):Cx:=X.wish fun _ _=>False
theorem Cx.Ok.wish {X:Cx} (ok:X.Ok) (E:Value->Shared->Prop):(X.wish E).Ok :=
  ⟨ok.mod,ok.kind,ok.glob,ok.blt,ok.above,ok.inj,ok.has,ok.cab,ok.hd,ok.frames,ok.stk,ok.exf,ok.bs,ok.bsz,ok.noex,ok.exfs,ok.funs,ok.frf⟩
theorem Cx.Ok.unwish {X:Cx} {E:Value->Shared->Prop} (ok:(X.wish E).Ok):X.Ok :=
  ⟨ok.mod,ok.kind,ok.glob,ok.blt,ok.above,ok.inj,ok.has,ok.cab,ok.hd,ok.frames,ok.stk,ok.exf,ok.bs,ok.bsz,ok.noex,ok.exfs,ok.funs,ok.frf⟩
section
variable {X:Cx} {pins:List (Addr × Obj)} {σ:St} {H:Hp} {s:Shared} {E:Value->Shared->Prop}
theorem Inv.wish (I:Inv X pins σ H s) (E:Value->Shared->Prop):Inv (X.wish E) pins σ H s:=⟨I.ok.wish E,I.os,I.bare,I.base,I.loc,I.cell,I.free,I.freeC,I.pin,I.hok,I.len⟩
theorem Inv.unwish (I:Inv (X.wish E) pins σ H s):Inv X pins σ H s:=⟨I.ok.unwish,I.os,I.bare,I.base,I.loc,I.cell,I.free,I.freeC,I.pin,I.hok,I.len⟩
set_option tactic.hygienic true in
theorem SP.unwish {D:Ends} {f:Flow} {s':Shared} (h:SP (X.wish E) pins D f s'):SP X pins D f s':=by
  cases f with
  | next=>obtain ⟨σ',H',I,q⟩:=h;exact ⟨σ',H',I.unwish,q⟩
  | brk=>obtain ⟨σ',H',I,q⟩:=h;exact ⟨σ',H',I.unwish,q⟩
  | cont=>obtain ⟨σ',H',I,q⟩:=h;exact ⟨σ',H',I.unwish,q⟩
  | ret u=>obtain ⟨v,σ',H',I,r,q⟩:=h;exact ⟨v,σ',H',I.unwish,r,q⟩
theorem PSs.nox {st:List Stmt} {t:TS} (h:PSs X.nox st t):PSs X st t:=fun pins s σ H D I hw =>
  wpAny_mono (h pins s σ H D (I.wish _) hw) (fun _ _ q=>q.unwish) fun _ _ z=>False.elim z
end
section
variable {X:Cx} {st:Stmt} {cN:List Stmt} {t u:TS} {e:Expr} {te:TE} {pos:Pos}
noncomputable def sE:TS:=fun D σ H=>D.nx σ H
noncomputable def tSeq (t u:TS):TS:=fun D σ H=>t { D with nx:=u D } σ H
theorem rp:PSs X [] sE:=fun _ _ σ H _ I h=>wpAny_execs_nil ⟨σ,H,I,h⟩
set_option tactic.hygienic true in
theorem o8 (h1:PS X st t) (h2:PSs X cN u):PSs X (st :: cN) (tSeq t u):=by
  intro pins s σ H D I h
  refine wpAny_execs_cons (thn (h1 pins s σ H { D with nx:=u D } I h) fun f s1 q=>?_)
  cases f with
  | next =>
    obtain ⟨σ',H',I',q⟩:=q
    exact h2 pins s1 σ' H' D I' q
  | ret v=>exact q
  | brk=>exact q
  | cont=>exact q
set_option tactic.hygienic true in
theorem rj (h1:PS X st t):PSs X [st] t:=by
  intro pins s σ H D I h
  refine wpAny_execs_cons (thn (h1 pins s σ H D I h) fun f s1 q=>?_)
  cases f with
  | next=>exact wpAny_execs_nil q
  | ret v=>exact q
  | brk=>exact q
  | cont=>exact q
theorem Inv.quiet {pins:List (Addr × Obj)} {σ:St} {H:Hp} {s:Shared} (I:Inv X pins σ H s):interactive X.env=false:=by simp [interactive,I.ok.kind]
noncomputable def sF (te:TE):TS:=fun D σ H=>te σ H fun _ H1=>D.nx σ H1
theorem rq (he:PE X e te) (hs:swapsWith e none pos.line X.env=pure false:=by rfl):PS X (.Expr e pos) (sF te):=by
  intro pins s σ H D I h
  exact wpAny_Expr_any (thn (he pins s σ H _ I h) fun v s1 ⟨x,H1,I1,r1,q1⟩=>⟨σ,H1,I1,q1⟩) I.quiet hs
noncomputable def tRet (te:TE):TS:=fun D σ H=>te σ H D.rt
theorem t9 (he:PE X e te):PS X (.Return (some e) pos) (tRet te):=by
  intro pins s σ H D I h
  exact wpAny_Return_some (thn (he pins s σ H _ I h) fun v s1 ⟨x,H1,I1,r1,q1⟩=>⟨x,σ,H1,I1,r1,q1⟩)
noncomputable def tIfS (c:TT) (t u:TS):TS:=fun D σ H=>c σ H fun b H1=>if b=true then t D σ H1 else u D σ H1
theorem ps_if {c:Expr} {a b:List Stmt} {tc:TT} (hc:PT X c tc) (ha:PSs X a t) (hb:PSs X b u):PS X (.If c a b pos) (tIfS tc t u):=by
  intro pins s σ H D I h
  refine wpAny_If (thn (hc pins s σ H _ I h) fun d s1 ⟨H1,I1,q1⟩=>?_)
  cases d with
  | true=>exact ha pins s1 σ H1 D I1 q1
  | false=>exact hb pins s1 σ H1 D I1 q1
noncomputable def tF:TS:=fun _ _ _=>False
theorem o9:PS X st tF:=fun _ _ _ _ _ _ h=>h.elim
end
noncomputable abbrev TG:=V->St->Hp->(St->Hp->Prop)->Prop
noncomputable abbrev TGs:=List V->St->Hp->(St->Hp->Prop)->Prop
noncomputable def PG (X:Cx) (target:Expr) (t:TG):Prop :=
  ∀ (pins:List (Addr × Obj)) (s:Shared) (σ:St) (H:Hp) (v:V) (u:Value) (Q:St->Hp->Prop),Inv X pins σ H s->RelV v u->t v σ H Q ->
    wpAny (model X.prog X.w) X.A (assign target X.env u) (fun _ s'=>∃ σ' H',Inv X pins σ' H' s'/\Q σ' H') X.xe s
noncomputable def PGs (X:Cx) (ts:List Expr) (t:TGs):Prop :=
  ∀ (pins:List (Addr × Obj)) (s:Shared) (σ:St) (H:Hp) (vs:List V) (us:List Value) (Q:St->Hp->Prop),Inv X pins σ H s->Vals vs us->t vs σ H Q ->
    wpAny (model X.prog X.w) X.A (assignInOrder ((assignEach ts X.env).map (·.2)) us) (fun _ s'=>∃ σ' H',Inv X pins σ' H' s'/\Q σ' H') X.xe s
noncomputable abbrev n3:=V->V->V->Hp->(Hp->Prop)->Prop
noncomputable def qt (X:Cx) (t:n3):Prop :=
  ∀ (pins:List (Addr × Obj)) (s:Shared) (σ:St) (H:Hp) (o i v:V) (ov iv u:Value) (Q:Hp->Prop),Inv X pins σ H s->RelV o ov->RelV i iv->RelV v u->t o i v H Q ->
    wpAny (model X.prog X.w) X.A (setItem ov iv u) (fun _ s'=>∃ H',Inv X pins σ H' s'/\Q H') X.xe s
section
variable {X:Cx} {pos:Pos}
noncomputable def mr (i:Nat):TG:=fun v σ H Q=>Q (σ.set i (some v)) H
theorem bF {i:Nat} {x:Str} (hN:X.N.Nodup) (hi:X.N[i]?=some x) (hx:Loc X.env.scope x) (hf:X.fn x=true\/X.env.scope.names.lookup x=some .local:=by first | exact .inl rfl | exact .inr rfl | assumption):PG X (.Name x pos) (mr i):=by
  intro pins s σ H v u Q I r h
  exact wpAny_assign_Name (jQ I hN hi hx r (fun s' I'=>⟨_,H,I',h⟩) hf)
noncomputable def gNil:TGs:=fun vs σ H Q=>vs=[]/\Q σ H
noncomputable def sT (t:TG) (u:TGs):TGs:=fun vs σ H Q=>∃ v r,vs=v :: r/\t v σ H fun σ' H'=>u r σ' H' Q
theorem rA:PGs X [] gNil:=by
  intro pins s σ H vs us Q I r h
  obtain ⟨e,h⟩:=h
  subst e
  cases r
  exact assignInOrder_nil ⟨σ,H,I,h⟩
theorem pe {e:Expr} {es:List Expr} {t:TG} {u:TGs} (h1:PG X e t) (h2:PGs X es u)
    (hs:(assignEach (e :: es) X.env).map (·.2)=assign e X.env :: (assignEach es X.env).map (·.2):=by rfl):PGs X (e :: es) (sT t u):=by
  intro pins s σ H vs us Q I r h
  obtain ⟨v,vr,e1,h⟩:=h
  subst e1
  cases r with
  | cons r rr =>
    rw [hs]
    refine assignInOrder_cons (thn (h1 pins s σ H _ _ _ I r h) fun _ s1 ⟨σ1,H1,I1,q1⟩=>?_)
    exact h2 pins s1 σ1 H1 _ _ Q I1 rr q1
noncomputable def gTup (K:FG) (n:Nat) (t:TGs):TG:=fun v σ H Q=>∃ a xs,v=.ref a/\SqT K H a xs/\xs.length=n/\t xs σ H Q
theorem uc {es:List Expr} {k:Nat} {t:TGs} {n:Nat} (hc:X.calm=true) (h:PGs X es t)
    (hn:(assignEach es X.env).length=n:=by rfl) (hst:(assignEach es X.env).findIdx? (·.1)=none:=by rfl):PG X (.Tuple es k pos) (gTup X.K n t):=by
  intro pins s σ H v u Q I r hw
  obtain ⟨a,xs,e1,hq,hl,hw⟩:=hw
  subst e1
  cases r
  obtain ⟨its,rv,ht,hz⟩:=I.tuple hq
  refine assign_Tuple_tuple (I.ok.hd hc) ht (by simp [hn,<- hl,rv.length]) hst fun h' hx=>?_
  have I1:Inv X pins σ H { s with heap:=h' }:=I.kept (t':=s.toks) fun b o e=>hx b o (vK (vz e)) e
  exact h pins _ σ H xs _ Q I1 (by simpa using rv) hw
noncomputable def gSub (to ti:TE) (t:n3):TG:=fun v σ H Q=>to σ H fun o H1=>ti σ H1 fun i H2=>t o i v H2 fun H3=>Q σ H3
theorem ue {o i:Expr} {to ti:TE} {t:n3} (ho:PE X o to) (hi:PE X i ti) (hs:qt X t)
    (ha:∀ v,assign (.Subscript o i pos) X.env v=(do
      let ov <- holding [v] (eval o X.env)
      let iv <- holding [v,ov] (eval i X.env)
      standAt pos
      holding [v,ov,iv] (setItem ov iv v)
      release [v,ov,iv] []):=by intro _;rfl):PG X (.Subscript o i pos) (gSub to ti t):=by
  intro pins s σ H v u Q I r h
  rw [ha]
  refine vj (vn (thn (ho pins s σ H _ I h) fun ov s1 ⟨x,H1,I1,r1,q1⟩=>?_))
  refine vj (vn (thn (hi pins s1 σ H1 _ I1 q1) fun iv s2 ⟨y,H2,I2,r2,q2⟩=>?_))
  refine vj (wpAny_standAt (vj (vn (thn (hs pins s2 σ H2 x y v ov iv u _ I2 r1 r2 r q2) fun _ s3 ⟨H3,I3,q3⟩=>?_))))
  exact wpAny_release ⟨σ,H3,I3,q3⟩
noncomputable def oq (te:TE) (g:TG):TS:=fun D σ H=>te σ H fun x H1=>g x σ H1 D.nx
theorem pc {tg e:Expr} {te:TE} {g:TG} (he:PE X e te) (hg:PG X tg g) (hs:swapsWithSole [tg] e pos.line X.env=pure false:=by rfl) (hw:swappedStores [tg] e X.env=pure none:=by rfl)
    (h1:(assignEach [tg] X.env).map (·.2)=[assign tg X.env]:=by rfl):PS X (.Assign [tg] e pos) (oq te g):=by
  intro pins s σ H D I h
  refine wpAny_Assign_stores (thn (he pins s σ H _ I h) fun v s1 ⟨x,H1,I1,r1,q1⟩=>?_) hs hw
  rw [h1]
  exact thn (hg pins s1 σ H1 x v _ I1 r1 q1) fun _ s2 q=>q
theorem t8 {i:Nat} {x:Str} {e:Expr} {te:TE} {pos':Pos} (hN:X.N.Nodup) (hi:X.N[i]?=some x) (hx:Loc X.env.scope x) (he:PE X e te) (hs:swapsWith e (some (.Name x pos')) pos.line X.env=pure false:=by rfl) (hf:X.fn x=true\/X.env.scope.names.lookup x=some .local:=by first | exact .inl rfl | exact .inr rfl | assumption) :
    PS X (.Assign [.Name x pos'] e pos) (oq te (mr i)):=by
  intro pins s σ H D I h
  refine wpAny_Assign_Name (thn (he pins s σ H _ I h) fun v s1 ⟨y,H1,I1,r1,q1⟩=>?_) hs
  exact jQ I1 hN hi hx r1 (fun s2 I2=>⟨_,H1,I2,q1⟩) hf
end
structure It where
  go:Nat->Hp->Prop
  yld:Nat->Hp->V->Hp->Prop
  stop:Nat->Hp->Prop
noncomputable def FpOk (X:Cx) (pins:List (Addr × Obj)) (H:Hp) (b:Addr):Prop :=
  H b=none/\b ≠ X.env.locals/\b ∉ X.fs/\(b ∈ X.ex\/X.s₀.heap.objs.size<=b)/\(∀ x c,X.env.cells.lookup x=some c->c ≠ b)/\∀ p ∈ X.pn ++ pins,p.1 ≠ b
theorem Inv.fpOk {X:Cx} {pins:List (Addr × Obj)} {σ:St} {H H':Hp} {s:Shared} {b:Addr} (I:Inv X pins σ H s) (hb:s.heap.objs.size<=b) (hn:H' b=none):FpOk X pins H' b:=by
  refine ⟨hn,Nat.ne_of_gt (vP I.lt hb),I.nofs hb,.inr (wd I.sz hb),fun x c e z=>?_,fun p hp z=>?_⟩
  · obtain ⟨v,q⟩:=I.cell x c e
    exact absurd (vP q.lt (by rw [z];exact hb)) (Nat.lt_irrefl _)
  · exact absurd (vP (vz (I.pin p hp).1) (by rw [z];exact hb)) (Nat.lt_irrefl _)
structure Turn (P:Program) (w:World) (K:FG) (tg:Expr) (J:It) (fp:List Addr) (it:Addr) (tn:Nat->Heap->Prop):Prop where
  mem:it ∈ fp
  obj:∀ i h,tn i h->∀ b ∈ fp,∃ o,h.get? b=some o/\∀ v,o.data ≠ .cell v
  keep:∀ i h h',tn i h->(∀ b ∈ fp,∀ o,h.get? b=some o->h'.get? b=some o)->tn i h'
  item:∀ (X:Cx),X.prog=P->X.w=w->X.K=K->X.calm=true->∀ (i:Nat) (pins:List (Addr × Obj)) (s:Shared) (σ:St) (H:Hp) (E:Value->Shared->Prop),Inv X pins σ H s->(∀ b ∈ fp,FpOk X pins H b)->tn i s.heap->J.go i H ->
    wpAny (model P w) X.A (pyNext (.ref it)) (fun r s1=>∃ u,r=some u /\
      wpAny (model P w) X.A (letOwnedTupleGo tg (.ref it) u) (fun _ s2=>∃ x H',Inv X pins σ H' s2/\RelV x u/\J.yld i H x H'/\tn (i+1) s2.heap/\∀ b ∈ fp,H' b=none) E s1) E s
  done:∀ (X:Cx),X.prog=P->X.w=w->X.K=K->X.calm=true->∀ (i:Nat) (pins:List (Addr × Obj)) (s:Shared) (σ:St) (H:Hp) (E:Value->Shared->Prop),Inv X pins σ H s->(∀ b ∈ fp,FpOk X pins H b)->tn i s.heap->J.stop i H ->
    wpAny (model P w) X.A (pyNext (.ref it)) (fun r s1=>r=none/\Inv X pins σ H s1) E s
  self:∀ (A:Around) (i:Nat) (s:Shared) (Q:Value->Shared->Prop) (E:Value->Shared->Prop),tn i s.heap->Q (.ref it) s->wpAny (model P w) A (pyIter (.ref it)) Q E s
noncomputable abbrev TI:=St->Hp->(It->Hp->Prop)->Prop
noncomputable def PIE (X:Cx) (pins:List (Addr × Obj)) (σ:St) (tg:Expr) (R:It->Hp->Prop) (itv:Value) (s2:Shared):Prop :=
  ∃ (it:Addr) (fp:List Addr) (tn:Nat->Heap->Prop) (J:It) (H':Hp),itv=.ref it/\Inv X pins σ H' s2/\Turn X.prog X.w X.K tg J fp it tn/\tn 0 s2.heap/\(∀ b ∈ fp,FpOk X pins H' b)/\R J H'
noncomputable def PI (X:Cx) (tg iter:Expr) (wi:TI):Prop :=
  ∀ (pins:List (Addr × Obj)) (s:Shared) (σ:St) (H:Hp) (R:It->Hp->Prop),Inv X pins σ H s->wi σ H R ->
    wpAny (model X.prog X.w) X.A (eval iter X.env) (fun v s1=>wpAny (model X.prog X.w) X.A (pyIter v) (PIE X pins σ tg R) X.xe s1) X.xe s
theorem pU {M : Model} {A : Around} {E : Value -> Shared -> Prop} {s : Shared} {tg : Expr} {it : Addr} {u : Value} {o : Obj} {n : String} {vs : Array Value} {Q : Unit -> Shared -> Prop} (ho : s.heap.get? it = some o) (hc : o.cls = .type n) (hd : o.data = .fields vs)
    (hn : ["enumerate", "zip", "dict_itemiterator", "dict_reverseitemiterator", "odict_iterator", "itertools.zip_longest", "itertools.pairwise"].contains n = false) (hQ : Q () s) : wpAny M A (letOwnedTupleGo tg (.ref it) u) Q E s := by
  unfold letOwnedTupleGo
  cases tg <;> first
    | exact vm hQ
    | (cases u <;> first
        | exact vm hQ
        | (refine vj (wpAny_load ho ?_)
           rw [hc, hd]
           show wpAny M A (if (["enumerate", "zip", "dict_itemiterator", "dict_reverseitemiterator", "odict_iterator", "itertools.zip_longest", "itertools.pairwise"].contains n && vs[0]? == some (rawInt _)) = true then _ else _) Q E s
           rw [if_neg (by intro h; rw [hn, Bool.false_and] at h; cases h)]
           exact vm hQ))
noncomputable def Itl (K:FG) (a:Addr):It :=
  ⟨fun i H=>∃ xs x,SqL K H a xs/\xs[i]?=some x,fun i H x H'=>H'=H/\∀ xs,SqL K H a xs->xs[i]?=some x,fun i H=>∃ xs,SqL K H a xs/\xs.length<=i⟩
noncomputable def Itt (K:FG) (a:Addr):It :=
  ⟨fun i H=>∃ xs x,SqT K H a xs/\xs[i]?=some x,fun i H x H'=>H'=H/\∀ xs,SqT K H a xs->xs[i]?=some x,fun i H=>∃ xs,SqT K H a xs/\xs.length<=i⟩
noncomputable def Itr (lo:Int) (n:Nat):It:=⟨fun i _=>i < n,fun i H x H'=>H'=H/\x=.int (lo+i),fun i _=>n<=i⟩
theorem mO {P:Program} {w:World} {K:FG} {tg:Expr} (a it:Addr):Turn P w K tg (Itl K a) [it] it (fun i h=>h.IsListIter it a i) where
  mem:=by simp
  obj:=fun i h st b hb=>by
    have e:b=it:=by simpa using hb
    subst e
    obtain ⟨o,e,c,d⟩:=st
    exact ⟨o,e,fun v z=>by rw [d] at z;cases z⟩
  keep:=fun i h h' st k=>st.at fun o e=>k it (by simp) o e
  item:=by
    intro X hP hw hK hc i pins s σ H E I hf st hg
    subst hP hw hK
    obtain ⟨xs,x,hq,hx⟩:=hg
    obtain ⟨its,rv,p,hz⟩:=I.list hq
    obtain ⟨u,hu,ru⟩:=rv.get hx
    obtain ⟨f0,f1,f2,f3,f4,f5⟩:=hf it (by simp)
    refine wpAny_pyNext_list_item st p.isList (x:=u) (by simpa using hu) fun h' st' sb=>?_
    have I1:Inv X pins σ H { s with heap:=h' }:=I.turned (t':=s.toks) (fun b o hb e=>(sb.2 b hb).trans e) f0 f1 f3 f4 f5
    obtain ⟨o,e,c,d⟩:=id st'
    exact ⟨u,rfl,pU (s:={ s with heap:=h' }) e c d (by decide) ⟨x,H,I1,ru,⟨rfl,fun ys hy=>by rw [I.list_inj hy hq];exact hx⟩,st',fun b hb=>(hf b hb).1⟩⟩
  done:=by
    intro X hP hw hK hc i pins s σ H E I hf st hg
    subst hP hw hK
    obtain ⟨xs,hq,hx⟩:=hg
    obtain ⟨its,rv,p,hz⟩:=I.list hq
    obtain ⟨f0,f1,f2,f3,f4,f5⟩:=hf it (by simp)
    have hl:=rv.length
    exact wpAny_pyNext_list_end (I.ok.hd hc) st p.isList (by simp;omega) fun h' eb=>⟨rfl,I.turned (t':=s.toks) (fun b o hb e=>eb b o hb e) f0 f1 f3 f4 f5⟩
  self:=fun _ _ _ _ _ st h=>wpAny_pyIter_listiter st h
theorem kW {P:Program} {w:World} {K:FG} {tg:Expr} (a it:Addr):Turn P w K tg (Itt K a) [it] it (fun i h=>h.IsTupleIter it a i) where
  mem:=by simp
  obj:=fun i h st b hb=>by
    have e:b=it:=by simpa using hb
    subst e
    obtain ⟨o,e,c,d⟩:=st
    exact ⟨o,e,fun v z=>by rw [d] at z;cases z⟩
  keep:=fun i h h' st k=>st.at fun o e=>k it (by simp) o e
  item:=by
    intro X hP hw hK hc i pins s σ H E I hf st hg
    subst hP hw hK
    obtain ⟨xs,x,hq,hx⟩:=hg
    obtain ⟨its,rv,p,hz⟩:=I.tuple hq
    obtain ⟨u,hu,ru⟩:=rv.get hx
    obtain ⟨f0,f1,f2,f3,f4,f5⟩:=hf it (by simp)
    refine wpAny_pyNext_tuple_item st (show s.heap.IsTuple a its.toArray from p) (x:=u) (by simpa using hu) fun h' st' sb=>?_
    have I1:Inv X pins σ H { s with heap:=h' }:=I.turned (t':=s.toks) (fun b o hb e=>(sb.2 b hb).trans e) f0 f1 f3 f4 f5
    obtain ⟨o,e,c,d⟩:=id st'
    exact ⟨u,rfl,pU (s:={ s with heap:=h' }) e c d (by decide) ⟨x,H,I1,ru,⟨rfl,fun ys hy=>by rw [I.tuple_inj hy hq];exact hx⟩,st',fun b hb=>(hf b hb).1⟩⟩
  done:=by
    intro X hP hw hK hc i pins s σ H E I hf st hg
    subst hP hw hK
    obtain ⟨xs,hq,hx⟩:=hg
    obtain ⟨its,rv,p,hz⟩:=I.tuple hq
    obtain ⟨f0,f1,f2,f3,f4,f5⟩:=hf it (by simp)
    have hl:=rv.length
    exact wpAny_pyNext_tuple_end (I.ok.hd hc) st (show s.heap.IsTuple a its.toArray from p) (by simp;omega) fun h' eb=>⟨rfl,I.turned (t':=s.toks) (fun b o hb e=>eb b o hb e) f0 f1 f3 f4 f5⟩
  self:=fun _ _ _ _ _ st h=>wpAny_pyIter_tupleiter st h
theorem kX {P:Program} {w:World} {K:FG} {tg:Expr} (it:Addr) (lo:Int) (n:Nat):Turn P w K tg (Itr lo n) [it] it (fun i h=>IsRangeIter h it (lo+(i:Nat) * 1) ((n:Int) - (i:Nat)) 1) where
  mem:=by simp
  obj:=fun i h st b hb=>by
    have e:b=it:=by simpa using hb
    subst e
    exact ⟨_,st,fun v z=>by
      have z':Data.fields _=Data.cell v:=z
      cases z'⟩
  keep:=fun i h h' st k=>k it (by simp) _ st
  item:=by
    intro X hP hw hK hc i pins s σ H E I hf st hg
    subst hP hw hK
    obtain ⟨f0,f1,f2,f3,f4,f5⟩:=hf it (by simp)
    have W:=Walks.range (prog:=X.prog) (w:=X.w) (I.ok.hd hc) it lo 1 n
    refine W.item i s _ _ hg st fun v h' tk hv st' kk=>?_
    obtain ⟨t,rfl⟩:=hv
    have I1:Inv X pins σ H { s with heap:=h',toks:=tk }:=I.turned (fun b o hb e=>kk b o (by simpa using hb) e) f0 f1 f3 f4 f5
    refine ⟨_,rfl,pU (s:={ s with heap:=h',toks:=tk }) (n:="range_iterator") st' rfl rfl (by decide) ⟨.int (lo+i),H,I1,⟨t,?_⟩,⟨rfl,rfl⟩,st',fun b hb=>(hf b hb).1⟩⟩
    rw [Int.mul_one]
  done:=by
    intro X hP hw hK hc i pins s σ H E I hf st hg
    subst hP hw hK
    obtain ⟨f0,f1,f2,f3,f4,f5⟩:=hf it (by simp)
    exact wpAny_pyNext_range_end (I.ok.hd hc) st (by have:n<=i:=hg;omega) fun h' eb=>⟨rfl,I.turned (t':=s.toks) (fun b o hb e=>eb b o hb e) f0 f1 f3 f4 f5⟩
  self:=fun _ _ _ _ _ st h=>wpAny_pyIter_rangeiter st h
end L2
namespace L2
open PySem PySem.Spec PyProof.Rows
section
variable {X:Cx} {tg:Expr}
theorem jZ {pins:List (Addr × Obj)} {σ:St} {H:Hp} {s:Shared} {R:It->Hp->Prop} {E:Value->Shared->Prop} {lo hi:Int} {t u v:Tok} {tk:Nat} (I:Inv X pins σ H s) (h1:-(2 ^ 62)<=lo) (h2:lo < 2 ^ 62) (h3:-(2 ^ 62)<=hi) (h4:hi < 2 ^ 62)
    (q:R (Itr lo (hi - lo).toNat) H):wpAny (model X.prog X.w) X.A (pyIter (.ref s.heap.objs.size)) (PIE X pins σ tg R) E { s with heap:=s.heap.push { cls:=.type "range",data:=.fields #[.int lo t,.int hi u,.int 1 v] },toks:=tk }:=by
  refine wpAny_pyIter_range (IsRange.new ..) (small_one h1 h2 h3 h4) ?_
  have I1:Inv X pins σ H { s with heap:=s.heap.push { cls:=.type "range",data:=.fields #[.int lo t,.int hi u,.int 1 v] },toks:=tk }:=I.kept fun b o e=>vq _ e
  refine ⟨(s.heap.push { cls:=.type "range",data:=.fields #[.int lo t,.int hi u,.int 1 v] }).objs.size,[(s.heap.push { cls:=.type "range",data:=.fields #[.int lo t,.int hi u,.int 1 v] }).objs.size],_,_,H,rfl,
    I1.kept (t':=tk) fun b o e=>vq _ e,kX _ lo (hi - lo).toNat,?_,fun b hb=>?_,q⟩
  · have e1:lo+((0:Nat):Int) * 1=lo:=by simp
    have e2:(((hi - lo).toNat:Nat):Int) - ((0:Nat):Int)=Builtin.Range.rangeSize lo hi 1:=by rw [rangeSize_one];split <;> omega
    show IsRangeIter _ _ (lo+((0:Nat):Int) * 1) ((((hi - lo).toNat:Nat):Int) - ((0:Nat):Int)) 1
    rw [e1,e2]
    exact vB _ rfl
  · have e:b=(s.heap.push { cls:=.type "range",data:=.fields #[.int lo t,.int hi u,.int 1 v] }).objs.size:=by simpa using hb
    subst e
    exact I1.fpOk (vI _) (I1.hok.fresh (vI _))
noncomputable def sR (ta:TA):TI:=fun σ H R=>ta σ H fun vs H1=>∃ j:Int,vs=[.int j]/\-(2 ^ 62)<=j/\j < 2 ^ 62/\R (Itr 0 j.toNat) H1
noncomputable def sQ (ta:TA):TI:=fun σ H R=>ta σ H fun vs H1=>∃ i j:Int,vs=[.int i,.int j]/\(-(2 ^ 62)<=i/\i < 2 ^ 62/\-(2 ^ 62)<=j/\j < 2 ^ 62)/\R (Itr i (j - i).toNat) H1
theorem m4 {a:Expr} {ta:TA} {p pos:Pos} (hg:Gl X "range") (hm:X.mg "range"=none) (ha:PA X [a] ta) (hs:starEach [a] X.env=[(false,eval a X.env)]:=by rfl):PI X tg (.Call (.Name "range" p) [a] [] pos) (sR ta):=by
  intro pins s σ H R I h
  refine Call_ (eY I hg hm boot_range (PyProof.Rows.callWith_type1 (thn (ha pos pins s σ H _ I h) fun us s1 ⟨vs,H1,I1,r1,q1⟩=>?_) hs rfl))
  obtain ⟨j,e,q1,q2,q⟩:=q1
  subst e
  cases r1 with
  | cons r rr =>
    cases rr
    obtain ⟨t,rfl⟩:=r
    exact call_range_1 (jZ I1 (by omega) (by omega) q1 q2 (by simpa using q))
theorem m3 {a b:Expr} {ta:TA} {p pos:Pos} (hg:Gl X "range") (hm:X.mg "range"=none) (ha:PA X [a,b] ta) (hs:starEach [a,b] X.env=[(false,eval a X.env),(false,eval b X.env)]:=by rfl) (hs2:starEach [b] X.env=[(false,eval b X.env)]:=by rfl) :
    PI X tg (.Call (.Name "range" p) [a,b] [] pos) (sQ ta):=by
  intro pins s σ H R I h
  refine Call_ (eY I hg hm boot_range (PyProof.Rows.callWith_type1 (thn (ha pos pins s σ H _ I h) fun us s1 ⟨vs,H1,I1,r1,q1⟩=>?_) (by rw [hs,hs2]) (by rw [hs2];rfl)))
  obtain ⟨i,j,e,⟨q1,q2,q3,q4⟩,q⟩:=q1
  subst e
  cases r1 with
  | cons r rr =>
    cases rr with
    | cons r' rr =>
      cases rr
      obtain ⟨t,rfl⟩:=r
      obtain ⟨t',rfl⟩:=r'
      exact call_range_2 (jZ I1 q1 q2 q3 q4 q)
noncomputable def tFor (wi:TI) (g:TG) (tb:TS):TS:=fun D σ H=>wi σ H fun J H1=>∃ W:Nat->Nat->St->Hp->Prop,(∃ m,W 0 m σ H1)/\∀ i m σ H,W i m σ H ->
  (J.stop i H/\D.nx σ H)\/(J.go i H/\∃ N:St->Hp->Prop,(∀ σ' H',N σ' H'->∃ m',m' < m/\W (i+1) m' σ' H')/\∀ x H',J.yld i H x H'->g x σ H' fun σ2 H2=>tb { D with nx:=N,ct:=N,bk:=D.nx } σ2 H2)
noncomputable def gJ (fp:List Addr) (h:Heap):List (Addr × Obj):=fp.filterMap fun b=>(h.get? b).map fun o=>(b,o)
theorem dy {fp:List Addr} {h:Heap} {b:Addr} {o:Obj} (hb:b ∈ fp) (e:h.get? b=some o):(b,o) ∈ gJ fp h:=List.mem_filterMap.mpr ⟨b,hb,by rw [e];rfl⟩
theorem m8 {fp:List Addr} {h:Heap} {p:Addr × Obj} (hp:p ∈ gJ fp h):p.1 ∈ fp/\h.get? p.1=some p.2:=by
  obtain ⟨b,hb,e⟩:=List.mem_filterMap.mp hp
  cases q:h.get? b with
  | none=>rw [q] at e;cases e
  | some o =>
    rw [q] at e
    have e':(b,o)=p:=wg e
    subst e'
    exact ⟨hb,q⟩
theorem Inv.pinned {pins:List (Addr × Obj)} {σ:St} {H:Hp} {s:Shared} {fp:List Addr} (I:Inv X pins σ H s) (hf:∀ b ∈ fp,FpOk X pins H b) (ho:∀ b ∈ fp,∃ o,s.heap.get? b=some o/\∀ v,o.data ≠ .cell v):Inv X (pins ++ gJ fp s.heap) σ H s :=
  I.pins_of fun p hp=>(vA.mp hp).elim (fun z=>I.pin p (vw _ z)) fun z=>by
    obtain ⟨hb,e⟩:=m8 z
    obtain ⟨f0,f1,f2,_⟩:=hf p.1 hb
    obtain ⟨o,e',d⟩:=ho p.1 hb
    rw [e] at e';cases e'
    exact ⟨e,f0,f1,f2,d⟩
theorem Inv.unpinned {pins pl:List (Addr × Obj)} {σ:St} {H:Hp} {s:Shared} (I:Inv X (pins ++ pl) σ H s):Inv X pins σ H s:=I.pins_of fun p hp=>I.pin p (vw _ (vv _ hp))
set_option tactic.hygienic true in
theorem ua {iter:Expr} {body:List Stmt} {wi:TI} {g:TG} {tb:TS} {pos:Pos} (hp:PassesOwn (model X.prog X.w) X.A X.env X.xe) (hc:X.calm=true) (hi:PI X tg iter wi) (hg:PG X tg g) (hb:PSs X body tb)
    (hs:∀ x,foldedSetIterable iter X.env x=pure x:=by intro _;rfl):PS X (.For tg iter body [] pos) (tFor wi g tb):=by
  intro pins s σ H D I h
  refine wpAny_For (thn (hi pins s σ H _ I h) fun v s1 h1=>thn h1 fun itv s2 h2=>?_) hs
  obtain ⟨it,fp,tn,J,H2,e,I2,T,st2,f2,W,⟨m0,w0⟩,turn⟩:=h2
  subst e
  have stat:∀ {H':Hp},(∀ b ∈ fp,H' b=none)->∀ b ∈ fp,FpOk X pins H' b:=fun hn b hb=>⟨hn b hb,(f2 b hb).2⟩
  refine codeAny_forLoop_any (fun n s'=>∃ i σ' H',Inv X pins σ' H' s'/\tn i s'.heap/\(∀ b ∈ fp,H' b=none)/\W i n σ' H') ?_ m0 ⟨0,σ,H2,I2,st2,fun b hb=>(f2 b hb).1,w0⟩
  rintro n s3 ⟨i,σ3,H3,I3,st3,fr3,w3⟩
  rcases turn i n σ3 H3 w3 with ⟨stop,qn⟩ | ⟨go,N,hN,step⟩
  · refine wpAny_passesOwn hp (thn (T.done X rfl rfl rfl hc i pins s3 σ3 H3 X.xe I3 (stat fr3) st3 stop) fun r s4 ⟨hr,I4⟩=>?_)
    subst hr
    exact wpAny_execs_nil ⟨σ3,H3,I4,qn⟩
  · refine wpAny_passesOwn hp (thn (T.item X rfl rfl rfl hc i pins s3 σ3 H3 X.xe I3 (stat fr3) st3 go) fun r s4 ⟨u,hr,h4⟩=>?_)
    subst hr
    refine wpAny_passesOwn hp (thn h4 fun _ s5 ⟨x,H5,I5,r5,y5,st5,fr5⟩=>?_)
    have I5':=I5.pinned (stat fr5) (T.obj _ _ st5)
    refine wpAny_passesOwn hp (thn (hg _ s5 σ3 H5 x u _ I5' r5 (step x H5 y5)) fun _ s6 ⟨σ6,H6,I6,q6⟩=>?_)
    refine wpAny_passesOwn hp (thn (hb _ s6 σ6 H6 _ I6 q6) fun f s7 q7=>?_)
    have again:∀ {σ7:St} {H7:Hp},Inv X (pins ++ gJ fp s5.heap) σ7 H7 s7->N σ7 H7->∃ m,m < n/\∃ i σ' H',Inv X pins σ' H' s7/\tn i s7.heap/\(∀ b ∈ fp,H' b=none)/\W i m σ' H':=fun {σ7 H7} I7 n7=>by
      obtain ⟨m',hm,w7⟩:=hN σ7 H7 n7
      refine ⟨m',hm,i+1,σ7,H7,I7.unpinned,T.keep _ _ _ st5 fun b hb o e=>(I7.pin (b,o) (vw _ (vw _ (dy hb e)))).1,fun b hb=>?_,w7⟩
      obtain ⟨o,e,d⟩:=T.obj _ _ st5 b hb
      exact (I7.pin (b,o) (vw _ (vw _ (dy hb e)))).2.1
    cases f with
    | next=>obtain ⟨σ7,H7,I7,n7⟩:=q7;exact again I7 n7
    | cont=>obtain ⟨σ7,H7,I7,n7⟩:=q7;exact again I7 n7
    | brk=>obtain ⟨σ7,H7,I7,q7⟩:=q7;exact ⟨σ7,H7,I7.unpinned,q7⟩
    | ret v=>obtain ⟨x7,σ7,H7,I7,r7,q7⟩:=q7;exact ⟨x7,σ7,H7,I7.unpinned,r7,q7⟩
end
end L2
namespace L2
open PySem PySem.Spec PyProof.Rows
noncomputable abbrev R2:=V->V->Hp->VK->Prop
noncomputable def OpR (X:Cx) (f:Value->Value->Sem Value) (r:R2):Prop :=
  ∀ (pins:List (Addr × Obj)) (s:Shared) (σ:St) (H:Hp) (x y:V) (v u:Value) (Q:VK),Inv X pins σ H s->RelV x v->RelV y u->r x y H Q ->
    wpAny (model X.prog X.w) X.A (f v u) (EP X pins σ Q) X.xe s
noncomputable def cM (X:Cx) (f:Value) (r:List V->Hp->VK->Prop):Prop :=
  ∀ (pins:List (Addr × Obj)) (s:Shared) (σ:St) (H:Hp) (xs:List V) (us:List Value) (Q:VK),Inv X pins σ H s->Vals xs us->r xs H Q ->
    wpAny (model X.prog X.w) X.A (call f us) (EP X pins σ Q) X.xe s
noncomputable def tOp (r:R2) (ta tb:TE):TE:=fun σ H Q=>ta σ H fun x H1=>tb σ H1 fun y H2=>r x y H2 Q
noncomputable def tUn (r:V->Hp->VK->Prop) (ta:TE):TE:=fun σ H Q=>ta σ H fun x H1=>r x H1 Q
noncomputable def rI (C:Int->Int->Prop) (g:Int->Int->V):R2:=fun x y H Q=>∃ i j,x=.int i/\y=.int j/\C i j/\Q (g i j) H
noncomputable def rI0 (g:Int->Int->V):R2:=fun x y H Q=>∃ i j,x=.int i/\y=.int j/\Q (g i j) H
section
variable {X:Cx} {a b c:Expr} {ta tb tc:TE} {pos:Pos}
theorem u9 (ha:PE X a ta) (hb:PE X b tb) {pins:List (Addr × Obj)} {s:Shared} {σ:St} {H:Hp} {R:V->V->Hp->Prop} (I:Inv X pins σ H s)
    (h:ta σ H fun x H1=>tb σ H1 fun y H2=>R x y H2) {Q:Value->Shared->Prop} {f:Value->Value->Sem Value}
    (hf:∀ v u s2 x y H2,Inv X pins σ H2 s2->RelV x v->RelV y u->R x y H2->wpAny (model X.prog X.w) X.A (f v u) Q X.xe s2) :
    wpAny (model X.prog X.w) X.A (eval a X.env) (fun v s₁=>wpAny (model X.prog X.w) X.A (eval b X.env) (fun u s₂=>wpAny (model X.prog X.w) X.A (f v u) Q X.xe s₂) X.xe s₁) X.xe s:=by
  refine thn (ha pins s σ H _ I h) fun v s1 ⟨x,H1,I1,r1,q1⟩=>?_
  refine thn (hb pins s1 σ H1 _ I1 q1) fun u s2 ⟨y,H2,I2,r2,q2⟩=>?_
  exact hf v u s2 x y H2 I2 r1 r2 q2
theorem pe_op {op:Operator} {r:R2} (ho:OpR X (binaryOp op) r) (ha:PE X a ta) (hb:PE X b tb):PE X (.BinOp a op b pos) (tOp r ta tb):=by
  intro pins s σ H Q I h
  exact wpAny_BinOp (u9 ha hb I h fun v u s2 x y H2 I2 rx ry q=>ho pins s2 σ H2 x y v u Q I2 rx ry q)
theorem opI {f:Value->Value->Sem Value} {C:Int->Int->Prop} {g:Int->Int->Int}
    (rule:∀ (i j:Int) (t u:Tok) (s:Shared) (Q:Value->Shared->Prop) (E:Value->Shared->Prop),C i j->Q (.int (g i j) s.toks) { s with toks:=s.toks+1 }->wpAny (model X.prog X.w) X.A (f (.int i t) (.int j u)) Q E s) :
    OpR X f (rI C fun i j=>.int (g i j)):=by
  intro pins s σ H x y v u Q I rx ry h
  obtain ⟨i,j,rfl,rfl,hc,q⟩:=h
  obtain ⟨t,rfl⟩:=rx
  obtain ⟨t',rfl⟩:=ry
  exact rule i j t t' s _ _ hc ⟨.int (g i j),H,I.tok _,⟨_,rfl⟩,q⟩
theorem uy {f:Value->Value->Sem Value} {g:Int->Int->Int}
    (rule:∀ (i j:Int) (t u:Tok) (s:Shared) (Q:Value->Shared->Prop) (E:Value->Shared->Prop),Q (.int (g i j) s.toks) { s with toks:=s.toks+1 }->wpAny (model X.prog X.w) X.A (f (.int i t) (.int j u)) Q E s) :
    OpR X f (rI0 fun i j=>.int (g i j)):=by
  intro pins s σ H x y v u Q I rx ry h
  obtain ⟨i,j,rfl,rfl,q⟩:=h
  obtain ⟨t,rfl⟩:=rx
  obtain ⟨t',rfl⟩:=ry
  exact rule i j t t' s _ _ ⟨.int (g i j),H,I.tok _,⟨_,rfl⟩,q⟩
theorem uz {f:Value->Value->Sem Value} {g:Int->Int->Bool}
    (rule:∀ (i j:Int) (t u:Tok) (s:Shared) (Q:Value->Shared->Prop) (E:Value->Shared->Prop),Q (.bool (g i j)) s->wpAny (model X.prog X.w) X.A (f (.int i t) (.int j u)) Q E s) :
    OpR X f (rI0 fun i j=>.bl (g i j)):=by
  intro pins s σ H x y v u Q I rx ry h
  obtain ⟨i,j,rfl,rfl,q⟩:=h
  obtain ⟨t,rfl⟩:=rx
  obtain ⟨t',rfl⟩:=ry
  exact rule i j t t' s _ _ ⟨.bl (g i j),H,I,rfl,q⟩
noncomputable def qw (i j:Int):Prop:=0 < j/\j < 1073741824
noncomputable def qu (i j:Int):Prop:=0<=j/\j<=1000000/\i.natAbs < 2 ^ 64
noncomputable def CMul (i j:Int):Prop:=(-(2 ^ 64) < i/\i < 2 ^ 64)\/(-(2 ^ 64) < j/\j < 2 ^ 64)
theorem CMul.ok {i j:Int} (h:CMul i j):IntMulOk i j:=by
  rcases h with ⟨h1,h2⟩ | ⟨h1,h2⟩
  · exact .of_left (intBits_le_64 h1 h2)
  · exact .of_right (intBits_le_64 h1 h2)
theorem kU (k:Nat):(0:Int)<=2 ^ k:=by
  rw [two_pow_cast]
  exact Int.natCast_nonneg _
theorem op_add:OpR X (binaryOp .Add) (rI0 fun i j=>.int (i+j)):=uy fun _ _ _ _ _ _ _ q=>add_int q
theorem uq:OpR X (binaryOp .Sub) (rI0 fun i j=>.int (i - j)):=uy fun _ _ _ _ _ _ _ q=>sub_int q
theorem eT:OpR X (binaryOp .Mult) (rI CMul fun i j=>.int (i * j)):=opI fun _ _ _ _ _ _ _ hc q=>mul_int q hc.ok
theorem gL:OpR X (binaryOp .Mod) (rI (fun _ j=>0 < j) fun i j=>.int (i % j)):=opI fun i j _ _ _ _ _ hc q=>by
  have h1:(0:Int) < j:=hc
  exact mod_int' (by omega) (by rw [Int.fmod_eq_emod_of_nonneg i (by omega)];exact q)
theorem uu:OpR X (binaryOp .LShift) (rI qu fun i j=>.int (i * 2 ^ j.toNat)):=opI fun _ _ _ _ _ _ _ hc q=>lshift_int_small hc.1 hc.2.1 hc.2.2 q
theorem ut:OpR X (binaryOp .RShift) (rI (fun _ j=>0<=j) fun i j=>.int (i / 2 ^ j.toNat)):=opI fun i j _ _ _ _ _ hc q =>
  rshift_int hc (by rw [Int.fdiv_eq_ediv_of_nonneg i (kU _)];exact q)
theorem ux:OpR X (binaryOp .BitAnd) (rI0 fun i j=>.int (Builtin.bitAnd i j)):=uy fun _ _ _ _ _ _ _ q=>and_int q
end
noncomputable def tR:V->V->Bool
  | .non,.non=>true | .non,.int _=>true | .int _,.non=>true | .non,.bl _=>true | .bl _,.non=>true | .non,.str _=>true | .str _,.non=>true
  | .int _,.int _=>true | .bl _,.bl _=>true | .str _,.str _=>true | .byt _,.byt _=>true
  | .int _,.str _=>true | .str _,.int _=>true | .bl _,.str _=>true | .str _,.bl _=>true
  | _,_=>false
noncomputable def rEq:R2:=fun x y H Q=>tR x y=true/\Q (.bl (decide (x=y))) H
noncomputable def rNe:R2:=fun x y H Q=>tR x y=true/\Q (.bl (!decide (x=y))) H
theorem mE {i j:Int}:decide (V.int i=V.int j)=(i == j):=by
  rw [Bool.eq_iff_iff]
  simp
theorem p8 {i j:Bool}:decide (V.bl i=V.bl j)=(i == j):=by
  rw [Bool.eq_iff_iff]
  simp
theorem mD {i j:Str}:decide (V.str i=V.str j)=(i == j):=by
  rw [Bool.eq_iff_iff]
  simp
theorem mF {i j:Array UInt8}:decide (V.byt i=V.byt j)=(i.toList == j.toList):=by
  rw [Bool.eq_iff_iff]
  cases i
  cases j
  simp
section
variable {X:Cx} {a b c:Expr} {ta tb tc:TE} {pos:Pos}
theorem aC {pins:List (Addr × Obj)} {σ:St} {H:Hp} {s:Shared} {Q:VK} {k k':Bool} (I:Inv X pins σ H s) (q:Q (.bl k) H) (e:k=k'):EP X pins σ Q (.bool k') s:=by
  subst e
  exact ⟨.bl k,H,I,rfl,q⟩
theorem op_eq:OpR X (compareOp .Eq) rEq:=by
  intro pins s σ H x y v u Q I rx ry h
  obtain ⟨hs,q⟩:=h
  cases x with
  | non =>
    cases rx
    cases y with
    | non=>cases ry;exact PySem.EqNone.eq_none_none (aC I q (by simp))
    | bl j=>cases ry;exact PySem.EqNone.eq_none_bool (aC I q (by simp))
    | int j=>obtain ⟨t',rfl⟩:=ry;exact PySem.EqNone.eq_none_int (aC I q (by simp))
    | str j=>obtain ⟨t',rfl⟩:=ry;exact PySem.EqNone.eq_none_str (aC I q (by simp))
    | _=>exact absurd (show false=true from hs) vJ
  | bl i =>
    cases rx
    cases y with
    | non=>cases ry;exact PySem.EqNone.eq_bool_none (aC I q (by simp))
    | bl j=>cases ry;exact eq_bool (aC I q p8)
    | str j=>obtain ⟨t',rfl⟩:=ry;exact PySem.EqMixed.eq_bool_str (aC I q (by simp))
    | _=>exact absurd (show false=true from hs) vJ
  | int i =>
    obtain ⟨t,rfl⟩:=rx
    cases y with
    | non=>cases ry;exact PySem.EqNone.eq_int_none (aC I q (by simp))
    | int j=>obtain ⟨t',rfl⟩:=ry;exact eq_int (aC I q mE)
    | str j=>obtain ⟨t',rfl⟩:=ry;exact PySem.EqMixed.eq_int_str (aC I q (by simp))
    | _=>exact absurd (show false=true from hs) vJ
  | str i =>
    obtain ⟨t,rfl⟩:=rx
    cases y with
    | non=>cases ry;exact PySem.EqNone.eq_str_none (aC I q (by simp))
    | bl j=>cases ry;exact PySem.EqMixed.eq_str_bool (aC I q (by simp))
    | int j=>obtain ⟨t',rfl⟩:=ry;exact PySem.EqMixed.eq_str_int (aC I q (by simp))
    | str j=>obtain ⟨t',rfl⟩:=ry;exact eq_str (aC I q mD)
    | _=>exact absurd (show false=true from hs) vJ
  | byt i =>
    obtain ⟨t,rfl⟩:=rx
    cases y with
    | byt j=>obtain ⟨t',rfl⟩:=ry;exact PySem.W.eq_bytes (aC I q mF)
    | _=>exact absurd (show false=true from hs) vJ
  | _=>cases y <;> exact absurd (show false=true from hs) vJ
theorem op_ne:OpR X (compareOp .NotEq) rNe:=by
  intro pins s σ H x y v u Q I rx ry h
  obtain ⟨hs,q⟩:=h
  cases x with
  | non =>
    cases rx
    cases y with
    | non=>cases ry;exact PySem.EqNone.ne_none_none (aC I q (by simp))
    | bl j=>cases ry;exact PySem.EqNone.ne_none_bool (aC I q (by simp))
    | int j=>obtain ⟨t',rfl⟩:=ry;exact PySem.EqNone.ne_none_int (aC I q (by simp))
    | str j=>obtain ⟨t',rfl⟩:=ry;exact PySem.EqNone.ne_none_str (aC I q (by simp))
    | _=>exact absurd (show false=true from hs) vJ
  | bl i =>
    cases rx
    cases y with
    | non=>cases ry;exact PySem.EqNone.ne_bool_none (aC I q (by simp))
    | bl j=>cases ry;exact ne_bool (aC I q (congrArg not p8))
    | str j=>obtain ⟨t',rfl⟩:=ry;exact PySem.EqMixed.ne_bool_str (aC I q (by simp))
    | _=>exact absurd (show false=true from hs) vJ
  | int i =>
    obtain ⟨t,rfl⟩:=rx
    cases y with
    | non=>cases ry;exact PySem.EqNone.ne_int_none (aC I q (by simp))
    | int j=>obtain ⟨t',rfl⟩:=ry;exact ne_int (aC I q (congrArg not mE))
    | str j=>obtain ⟨t',rfl⟩:=ry;exact PySem.EqMixed.ne_int_str (aC I q (by simp))
    | _=>exact absurd (show false=true from hs) vJ
  | str i =>
    obtain ⟨t,rfl⟩:=rx
    cases y with
    | non=>cases ry;exact PySem.EqNone.ne_str_none (aC I q (by simp))
    | bl j=>cases ry;exact PySem.EqMixed.ne_str_bool (aC I q (by simp))
    | int j=>obtain ⟨t',rfl⟩:=ry;exact PySem.EqMixed.ne_str_int (aC I q (by simp))
    | str j=>obtain ⟨t',rfl⟩:=ry;exact ne_str (aC I q (congrArg not mD))
    | _=>exact absurd (show false=true from hs) vJ
  | byt i =>
    obtain ⟨t,rfl⟩:=rx
    cases y with
    | byt j=>obtain ⟨t',rfl⟩:=ry;exact PySem.W.ne_bytes (aC I q (congrArg not mF))
    | _=>exact absurd (show false=true from hs) vJ
  | _=>cases y <;> exact absurd (show false=true from hs) vJ
theorem op_lt:OpR X (compareOp .Lt) (rI0 fun i j=>.bl (decide (i < j))):=uz fun _ _ _ _ _ _ _ q=>lt_int q
theorem pi:OpR X (compareOp .LtE) (rI0 fun i j=>.bl (decide (i<=j))):=uz fun _ _ _ _ _ _ _ q=>le_int q
theorem op_gt:OpR X (compareOp .Gt) (rI0 fun i j=>.bl (decide (j < i))):=uz fun _ _ _ _ _ _ _ q=>gt_int q
theorem OpR.or {f:Value->Value->Sem Value} {r r':R2} (h:OpR X f r) (h':OpR X f r'):OpR X f (fun x y H Q=>r x y H Q\/r' x y H Q):=by
  intro pins s σ H x y v u Q I rx ry q
  rcases q with q | q
  · exact h pins s σ H x y v u Q I rx ry q
  · exact h' pins s σ H x y v u Q I rx ry q
theorem cj (b : Expr) {op : CmpOp} (h : op ≠ .In := by decide) (h2 : op ≠ .NotIn := by decide) : behindInMarks op b = false := by
  have e1 : (op == CmpOp.In) = false := by cases op <;> first | rfl | exact absurd rfl h
  have e2 : (op == CmpOp.NotIn) = false := by cases op <;> first | rfl | exact absurd rfl h2
  cases b <;> simp [behindInMarks, e1, e2]
theorem rE {op:CmpOp} {r:R2} (ho:OpR X (compareOp op) r) (ha:PE X a ta) (hb:PE X b tb) (hm:behindInMarks op b=false):PE X (.Compare a [op] [b] pos) (tOp r ta tb):=by
  intro pins s σ H Q I h
  exact wpAny_Compare1 (u9 ha hb I h fun v u s2 x y H2 I2 rx ry q=>ho pins s2 σ H2 x y v u Q I2 rx ry q) hm
noncomputable def sC (t:TE):TT:=fun σ H Q=>t σ H fun x H'=>∃ k,x=.bl k/\Q k H'
theorem rh {op:CmpOp} {r:R2} (ho:OpR X (compareOp op) r) (ha:PE X a ta) (hb:PE X b tb) (hm:behindInMarks op b=false):PT X (.Compare a [op] [b] pos) (sC (tOp r ta tb)):=by
  intro pins s σ H Q I h
  refine wpAny_isTrue_Compare1 (thn (ha pins s σ H _ I h) fun v s1 ⟨x,H1,I1,r1,q1⟩=>thn (hb pins s1 σ H1 _ I1 q1) fun u s2 ⟨y,H2,I2,r2,q2⟩ =>
    thn (ho pins s2 σ H2 x y v u _ I2 r1 r2 q2) fun c s3 ⟨z,H3,I3,r3,k,e,q3⟩=>?_) hm
  subst e
  cases r3
  exact wc ⟨H3,I3,q3⟩
noncomputable def om (r r':R2) (ta tb tc:TE):TE:=fun σ H Q=>ta σ H fun x H1=>tb σ H1 fun y H2=>r x y H2 fun z H3=>∃ k,z=.bl k /\
  (if k=true then tc σ H3 fun w' H4=>r' y w' H4 Q else Q (.bl false) H3)
theorem o6 {op op':CmpOp} {r r':R2} (ho:OpR X (compareOp op) r) (ho':OpR X (compareOp op') r') (ha:PE X a ta) (hb:PE X b tb) (hc:PE X c tc)
    (hm:lastMarks [op,op'] [b,c]=false:=by with_unfolding_all rfl):PT X (.Compare a [op,op'] [b,c] pos) (sC (om r r' ta tb tc)):=by
  intro pins s σ H Q I h
  refine isTrue_chain (thn (ha pins s σ H _ I h) fun v s1 ⟨x,H1,I1,r1,q1⟩=>test_link (thn (hb pins s1 σ H1 _ I1 q1) fun u s2 ⟨y,H2,I2,r2,q2⟩ =>
    thn (ho pins s2 σ H2 x y v u _ I2 r1 r2 q2) fun d s3 ⟨z,H3,I3,r3,k,e,q3⟩=>?_)) hm
  subst e
  cases r3
  refine wc ?_
  cases k with
  | false =>
    obtain ⟨k',e',q'⟩:=q3
    cases e'
    exact ite_ff ⟨H3,I3,q'⟩
  | true =>
    refine ite_tt (test_last (thn (hc pins s3 σ H3 _ I3 q3) fun w' s4 ⟨z',H4,I4,r4,q4⟩=>thn (ho' pins s4 σ H4 y z' u w' _ I4 r2 r4 q4) fun d' s5 ⟨z2,H5,I5,r5,k2,e2,q5⟩=>?_))
    subst e2
    cases r5
    exact wc ⟨H5,I5,q5⟩
theorem jo:(sizeLine:Nat) < 2 ^ 63:=by rw [sizeLine_eq];decide
theorem op_add_str:OpR X (binaryOp .Add) (fun x y H Q=>∃ i j,x=.str i/\y=.str j/\i.length+j.length<=sizeLine/\Q (.str (i ++ j)) H):=by
  intro pins s σ H x y v u Q I rx ry h
  obtain ⟨i,j,rfl,rfl,hz,q⟩:=h
  obtain ⟨t,rfl⟩:=rx
  obtain ⟨t',rfl⟩:=ry
  exact add_str (fun t' tk=>⟨.str (i ++ j),H,I.tok _,⟨_,rfl⟩,q⟩) hz
theorem iD {x:V} {us:List Value} (r:Vals [x] us):∃ u,us=[u]/\RelV x u:=by
  cases r with
  | cons r1 r2=>cases r2;exact ⟨_,rfl,r1⟩
theorem jI {x y:V} {us:List Value} (r:Vals [x,y] us):∃ u w',us=[u,w']/\RelV x u/\RelV y w':=by
  cases r with
  | cons r1 r2 =>
    cases r2 with
    | cons r3 r4=>cases r4;exact ⟨_,_,rfl,r1,r3⟩
theorem nR:cM X (.type "int") (fun xs H Q=>(∃ i,xs=[.int i]/\Q (.int i) H)\/∃ k,xs=[.bl k]/\Q (.int (if k then 1 else 0)) H):=by
  intro pins s σ H xs us Q I r h
  rcases h with ⟨i,rfl,q⟩ | ⟨k,rfl,q⟩
  · obtain ⟨u,rfl,t,rfl⟩:=iD r
    exact call_int_int ⟨.int i,H,I,⟨_,rfl⟩,q⟩
  · obtain ⟨u,rfl,r1⟩:=iD r
    cases r1
    exact call_int_bool ⟨.int (if k then 1 else 0),H,I.tok _,⟨_,rfl⟩,q⟩
theorem kN:cM X (.builtin "divmod") (fun xs H Q=>∃ i j,xs=[.int i,.int j]/\qw i j/\∀ p,H p=none->Q (.ref p) (upd H p (.tup [.int (i / j),.int (i % j)]))):=by
  intro pins s σ H xs us Q I r h
  obtain ⟨i,j,rfl,⟨h1,h2⟩,q⟩:=h
  obtain ⟨u,w',rfl,⟨t,rfl⟩,⟨t',rfl⟩⟩:=jI r
  refine divmod_int (by omega) ?_ (.inl (PyProof.noPylong_small (by omega)))
  rw [Int.fdiv_eq_ediv_of_nonneg i (by omega),Int.fmod_eq_emod_of_nonneg i (by omega)]
  have hn:H s.heap.objs.size=none:=I.hok.fresh (vI _)
  refine ⟨.ref s.heap.objs.size,_,?_,rfl,q _ hn⟩
  refine I.laid (fun b o e=>vq _ e) (vI _) ⟨by simp only [vT,List.length_nil];rw [sizeLine_eq];decide,[.int (i / j) s.toks,.int (i % j) (s.toks+1)],.cons ⟨_,rfl⟩ (.cons ⟨_,rfl⟩ .nil),?_⟩
  exact ⟨_,vB s.heap rfl,rfl,0,rfl⟩
end
end L2
namespace L2
open PySem PySem.Spec PyProof.Rows
theorem RelO.some_of {v:V} {o:Option Value} (r:RelO (some v) o):∃ u,o=some u/\RelV v u:=by
  cases o with
  | none=>exact (show False from r).elim
  | some u=>exact ⟨u,rfl,r⟩
end L2
namespace L2
open PySem PySem.Spec PyProof.Rows
structure Room (k:Nat) (A:Around):Prop where
  hd:A.handled=none
  dp:A.depth+3 * k+5 < recursionLimit
  un:A.units+16 * k+200 < cLine
  gd:A.guards=some []
theorem Room.mono {j k:Nat} {A:Around} (r:Room k A) (h:j<=k):Room j A:=⟨r.hd,by have:=r.dp;omega,by have:=r.un;omega,r.gd⟩
theorem Room.deeper {k:Nat} {A:Around} (r:Room (k+1) A) (env:Env):Room k (A.deeper env) :=
  ⟨r.hd,by have:=r.dp;show A.depth+1+3 * k+5 < _;omega,by have:=r.un;show A.units+3+16 * k+200 < _;omega,r.gd⟩
theorem Room.depth {k:Nat} {A:Around} (r:Room k A):A.depth < recursionLimit:=by have:=r.dp;omega
theorem Room.units {k:Nat} {A:Around} (r:Room k A):A.units+64 < cLine:=by have:=r.un;omega
noncomputable def tNil:TA:=fun _ H Q=>Q [] H
noncomputable def sH (ta:TE) (tr:TA):TA:=fun σ H Q=>ta σ H fun x H1=>tr σ H1 fun xs H2=>Q (x :: xs) H2
section
variable {X:Cx} {e:Expr} {es:List Expr} {te:TE} {t:TA} {pos:Pos}
theorem pg:PA X [] tNil:=fun _ _ _ _ H Q I h=>Calls.spliced_nil ⟨[],H,I,.nil,h⟩
theorem jl (ha:PE X e te) (hr:PA X es t) (hs:starEach (e :: es) X.env=(false,eval e X.env) :: starEach es X.env:=by rfl):PA X (e :: es) (sH te t):=by
  intro pos pins s σ H Q I h
  rw [hs]
  show wpAny _ _ (spliced ((false,eval e X.env) :: backTo pos (starEach es X.env))) _ _ s
  refine Calls.spliced_cons (thn (ha pins s σ H _ I h) fun u s1 ⟨x,H1,I1,r1,q1⟩=>?_)
  exact thn (hr pos pins s1 σ H1 _ I1 q1) fun us s2 ⟨xs,H2,I2,r2,q2⟩=>⟨x :: xs,H2,I2,.cons r1 r2,q2⟩
noncomputable def tTup (t:TA):TE:=fun σ H Q=>t σ H fun xs H1=>xs.length<=sizeLine/\∀ p,H1 p=none->Q (.ref p) (upd H1 p (.tup xs))
noncomputable def tLst (t:TA):TE:=fun σ H Q=>t σ H fun xs H1=>xs.length<=sizeLine/\∀ p,H1 p=none->Q (.ref p) (upd H1 p (.lst xs))
theorem ug {x1} (h:PA X es t):PE X (.Tuple es x1 pos) (tTup t):=by
  intro pins s σ H Q I hq
  refine wpAny_Tuple_spliced (thn (h pos pins s σ H _ I hq) fun us s1 ⟨xs,H1,I1,r,z,q⟩=>⟨by rw [<- r.length];exact z,?_⟩)
  have hf:H1 s1.heap.objs.size=none:=I1.hok.fresh (vI _)
  refine ⟨.ref s1.heap.objs.size,upd H1 s1.heap.objs.size (.tup xs),I1.laid (t':=s1.toks) (fun b u e=>vq _ e) (vI _) ?_,rfl,q _ hf⟩
  exact ⟨z,us,r,⟨_,vB _ rfl,rfl,_,rfl⟩⟩
theorem uj (h:PA X es t):PE X (.List es pos) (tLst t):=by
  intro pins s σ H Q I hq
  refine wpAny_List_spliced (thn (h pos pins s σ H _ I hq) fun us s1 ⟨xs,H1,I1,r,z,q⟩=>⟨by rw [<- r.length];exact z,?_⟩)
  have hf:H1 s1.heap.objs.size=none:=I1.hok.fresh (vI _)
  refine ⟨.ref s1.heap.objs.size,upd H1 s1.heap.objs.size (.lst xs),I1.laid (t':=s1.toks) (fun b u e=>vq _ e) (vI _) ?_,rfl,q _ hf⟩
  exact ⟨z,us,0,r,vB _ rfl⟩
end
noncomputable abbrev Sp:=List V->Hp->VK->XK->Prop
noncomputable abbrev CXT:=List Env->Hp->Shared->XK->Value->Shared->Prop
structure Env0 (P:Program) (w:World) (K:FG) (mg:Str->Option Value) (base:Heap) (A:Around) (outer:List Env) (s:Shared) (H:Hp):Prop where
  frames:A.frames=some outer
  mod:Mod K mg base
  bs:∀ b o,base.get? b=some o->s.heap.get? b=some o/\H b=none
  bsz:base.objs.size<=s.heap.objs.size
  funs:s.heap.FunFrames base outer
  frf:∀ b ∈ frs outer,H b=none
  hok:HOk P w H s.heap
  bare:AllBare s.gens
noncomputable def CE (outer:List Env) (P:Program) (w:World) (H:Hp) (s:Shared) (Q:VK) (u:Value) (s':Shared):Prop :=
  ∃ v H',s'.os=s.os/\AllBare s'.gens/\Un (frs outer) [] H H' s.heap s'.heap/\HOk P w H' s'.heap/\RelV v u/\Q v H'
noncomputable def CR (CX:CXT) (outer:List Env) (P:Program) (w:World) (H:Hp) (s:Shared) (Q:VK) (E:XK) (r:Result) (s':Shared):Prop :=
  match r with
  | .ok (.ret u)=>CE outer P w H s Q u s'
  | .ok _=>False
  | .error e=>CX outer H s E e s'
structure FnOk (P:Program) (w:World) (K:FG) (mg:Str->Option Value) (base:Heap) (CX:CXT) (k:Nat) (f:Addr) (fd:FuncData) (ps:List Str) (sp:Sp):Prop where
  len:∀ vs H Q E,sp vs H Q E->vs.length=ps.length
  run:∀ (A:Around) (outer:List Env) (s:Shared) (H:Hp) (args:Args) (us:List Value) (vs:List V) (Q:VK) (E:XK),Room k A->Env0 P w K mg base A outer s H->BindsTo s fd args (ps.zip us)->Vals vs us->sp vs H Q E ->
    codeAny (model P w) A (.call (.ref f) args) (CR CX outer P w H s Q E) s
theorem FnOk.imp {P:Program} {w:World} {K:FG} {mg:Str->Option Value} {base:Heap} {CX:CXT} {k:Nat} {f:Addr} {fd:FuncData} {ps:List Str} {sp sp':Sp} (F:FnOk P w K mg base CX k f fd ps sp)
    (h:∀ vs H Q E,sp' vs H Q E->sp vs H Q E):FnOk P w K mg base CX k f fd ps sp' :=
  ⟨fun vs H Q E q=>F.len vs H Q E (h _ _ _ _ q),fun A outer s H args us vs Q E hr he hb hv hs=>F.run A outer s H args us vs Q E hr he hb hv (h _ _ _ _ hs)⟩
section
variable {X:Cx} {pins:List (Addr × Obj)} {σ:St} {H:Hp} {s s':Shared}
theorem Inv.env0 (I:Inv X pins σ H s):Env0 X.prog X.w X.K X.mg X.base X.A X.stack s H :=
  ⟨I.ok.frames,I.ok.mod,I.bs,wd I.ok.bsz I.sz,I.stack,I.stkFree,I.hok,I.bare⟩
theorem Inv.after {Q:VK} {u:Value} (I:Inv X pins σ H s) (h:CE X.stack X.prog X.w H s Q u s'):EP X pins σ Q u s':=by
  obtain ⟨v,H',os,bare,un,hok,r,q⟩:=h
  obtain ⟨hh,g,d,t,os'⟩:=s'
  obtain rfl:os'=s.os:=os
  exact ⟨v,H',I.call (h':=hh) (g':=g) (d':=d) (t':=t) (ch:=[]) un hok bare (fun b z=>absurd z (by simp)),r,q⟩
end
noncomputable def tCall (sp:Sp) (dvs:List V) (E:XK) (t:TA):TE:=fun σ H Q=>t σ H fun vs H1=>sp (vs ++ dvs) H1 Q E
noncomputable def Binds (K:FG) (fd:FuncData) (ps:List Str) (ds:List Value):Prop :=
  ∀ (s:Shared) (us:List Value),K.In s.heap->(us ++ ds).length=ps.length->BindsTo s fd ⟨us,[]⟩ (ps.zip (us ++ ds))
theorem Binds.all {K:FG} {fd:FuncData} {ps:List Str} (h:∀ us:List Value,us.length=ps.length->bindArgs fd ⟨us,[]⟩=pure (ps.zip us)):Binds K fd ps []:=fun s us _ hl=>by
  rw [List.append_nil] at hl ⊢
  exact .of_eq (h us hl)
noncomputable def lN (CX:CXT) (X:Cx) (E:XK):Prop:=∀ (pins:List (Addr × Obj)) (σ:St) (H:Hp) (s:Shared) (e:Value) (s':Shared),Inv X pins σ H s->CX X.stack H s E e s'->X.xe e s'
section
variable {X:Cx} {CX:CXT} {k:Nat} {f C:Addr} {fd:FuncData} {ps:List Str} {sp:Sp} {dvs:List V} {ds:List Value} {E:XK} {x m:Str} {p pos apos:Pos} {e o:Expr} {es:List Expr} {ta:TE} {t:TA}
set_option tactic.hygienic true in
theorem tV {pins:List (Addr × Obj)} {σ:St} {H:Hp} {s:Shared} {Q:VK} {us:List Value} {vs:List V} (F:FnOk X.prog X.w X.K X.mg X.base CX k f fd ps sp) (hr:Room k X.A) (hb:Binds X.K fd ps ds) (hd:Vals dvs ds) (hx:lN CX X E)
    (I:Inv X pins σ H s) (r:Vals vs us) (h:sp (vs ++ dvs) H Q E):wpAny (model X.prog X.w) X.A (call (.ref f) us) (EP X pins σ Q) X.xe s:=by
  have r2:Vals (vs ++ dvs) (us ++ ds):=r.append hd
  have hl:(us ++ ds).length=ps.length:=by rw [<- r2.length];exact F.len _ _ _ _ h
  refine wpAny_call (codeAny_mono (F.run X.A X.stack s H ⟨us,[]⟩ (us ++ ds) (vs ++ dvs) Q E hr I.env0 (hb s us I.kIn hl) r2 h) fun r s' hq=>?_)
  cases r with
  | error e=>exact hx pins σ H s e s' I hq
  | ok fl =>
    cases fl with
    | ret u=>exact I.after hq
    | next=>exact False.elim hq
    | brk=>exact False.elim hq
    | cont=>exact False.elim hq
theorem rF (F:FnOk X.prog X.w X.K X.mg X.base CX k f fd ps sp) (hr:Room k X.A) (hg:Gl X x) (hm:X.mg x=some (.ref f)) (hk:PySem.W.keepIn X.K (.ref f)=true) (hb:Binds X.K fd ps ds) (hd:Vals dvs ds) (hx:lN CX X E)
    (ha:PA X (e :: es) t) (hdb:(x == ("__debug__":Str))=false:=by decide) (he:starEach (e :: es) X.env=(false,eval e X.env) :: starEach es X.env:=by rfl) (hpl:(backTo pos (starEach es X.env)).any (·.1)=false:=by rfl) :
    PE X (.Call (.Name x p) (e :: es) [] pos) (tCall sp dvs E t):=by
  intro pins s σ H Q I h
  refine wpAny_Call_Name_kw (ml I hg hm ?_ hdb)
  refine PySem.W.callWith_K (h₀:=X.base) I.ok.mod.kin hk (thn (ha pos pins s σ H _ I h) fun us s1 ⟨vs,H1,I1,r,q⟩=>⟨I1.kIn,?_⟩) he hpl
  exact tV F hr hb hd hx I1 r q
end
structure FnScope (N P:List Str) (sc:Scope):Prop where
  kind:sc.kind=.function
  co:sc.isCoroutine=false
  gen:sc.isGenerator=false
  nd:N.Nodup
  pre:N.take P.length=P
  par:∀ x ∈ P,sc.names.lookup x=some .local\/sc.names.lookup x=some .cell
  nofree:∀ y ∈ sc.names,y.2 ≠ .free
theorem i8 {kindOf:Str->Option NameKind} {x:Str}:∀ {binds:List (Str × Value)} {m:Str->Option Value},(∀ v,(x,v) ∉ binds)->bindL kindOf binds m x=m x
  | [],_,_=>rfl
  | (n,v) :: r,m,h=>by
    unfold bindL
    rw [i8 fun w hw=>h w (vp _ hw)]
    split
    · have:x ≠ n:=by rintro rfl;exact h v vo
      simp [this]
    · rfl
theorem ja {kindOf:Str->Option NameKind} {x:Str}:∀ {binds:List (Str × Value)} {m:Str->Option Value},(∀ v,(x,v) ∉ binds)->bindC kindOf binds m x=m x
  | [],_,_=>rfl
  | (n,v) :: r,m,h=>by
    unfold bindC
    rw [ja fun w hw=>h w (vp _ hw)]
    split
    · rfl
    · have:x ≠ n:=by rintro rfl;exact h v vo
      simp [this]
theorem i9 {kindOf:Str->Option NameKind} {x:Str} {v:Value}:∀ {P:List Str} {vs:List Value} {i:Nat} {m:Str->Option Value},P.Nodup->P[i]?=some x->vs[i]?=some v->kindOf x=some .local ->
    bindL kindOf (P.zip vs) m x=some v
  | [],_,_,_,_,h,_,_=>by simp at h
  | _ :: _,[],_,_,_,_,h,_=>by simp at h
  | p :: P,w :: vs,0,m,nd,h1,h2,hk=>by
    simp at h1 h2;subst h1;subst h2
    show bindL kindOf ((p,w) :: P.zip vs) m p=_
    unfold bindL
    rw [i8 fun v hv=>(List.nodup_cons.mp nd).1 (List.of_mem_zip hv).1,if_pos hk]
    simp
  | p :: P,w :: vs,i+1,m,nd,h1,h2,hk=>by
    show bindL kindOf ((p,w) :: P.zip vs) m x=_
    unfold bindL
    exact i9 (i:=i) (List.nodup_cons.mp nd).2 (by simpa using h1) (by simpa using h2) hk
theorem jb {kindOf:Str->Option NameKind} {x:Str} {v:Value}:∀ {P:List Str} {vs:List Value} {i:Nat} {m:Str->Option Value},P.Nodup->P[i]?=some x->vs[i]?=some v->kindOf x ≠ some .local ->
    bindC kindOf (P.zip vs) m x=some v
  | [],_,_,_,_,h,_,_=>by simp at h
  | _ :: _,[],_,_,_,_,h,_=>by simp at h
  | p :: P,w :: vs,0,m,nd,h1,h2,hk=>by
    simp at h1 h2;subst h1;subst h2
    show bindC kindOf ((p,w) :: P.zip vs) m p=_
    unfold bindC
    rw [ja fun v hv=>(List.nodup_cons.mp nd).1 (List.of_mem_zip hv).1,if_neg hk]
    simp
  | p :: P,w :: vs,i+1,m,nd,h1,h2,hk=>by
    show bindC kindOf ((p,w) :: P.zip vs) m x=_
    unfold bindC
    exact jb (i:=i) (List.nodup_cons.mp nd).2 (by simpa using h1) (by simpa using h2) hk
noncomputable def fW (N:List Str) (vs:List V):St:=vs.map some ++ List.replicate (N.length - vs.length) none
noncomputable def kK (CX:CXT) (P:Program) (w:World) (K:FG) (mg:Str->Option Value) (base:Heap) (N:List Str) (qual:Str) (scope:Scope) (f:Addr) (cd:Value) (A:Around) (outer:List Env) (s:Shared) (H:Hp) (E:XK):Cx where
  prog:=P
  w:=w
  K:=K
  mg:=mg
  base:=base
  A:=A.deeper (envOfC qual scope s.heap.objs.size f cd)
  N:=N
  s₀:=s
  H₀:=H
  env:=envOfC qual scope s.heap.objs.size f cd
  outer:=outer
  stack:=envOfC qual scope s.heap.objs.size f cd :: outer
  ex:=[]
  calm:=true
  fn:=fun _=>true
  pn:=[]
  xe:=fun e s'=>wpAny (model P w) (A.deeper (envOfC qual scope s.heap.objs.size f cd)) (leaving (envOfC qual scope s.heap.objs.size f cd) e) (fun _ s''=>CX outer H s E e s'') (fun e' s''=>CX outer H s E e' s'') s'
theorem kM {sc:Scope} {n:Nat} {x:Str} (h:sc.names.lookup x=some .cell):∃ c,(cellsFrom n sc.names []).lookup x=some c:=by
  have q:=PySem.W.cellsFrom_some sc.names n [] (.inl h)
  exact Option.isSome_iff_exists.mp q
theorem nE {CX:CXT} {P:Program} {w:World} {K:FG} {mg:Str->Option Value} {base:Heap} {N ps:List Str} {qual:Str} {scope:Scope} {f:Addr} {cd:Value} {A:Around} {outer:List Env} {s s1:Shared} {H:Hp} {E:XK} {us:List Value} {vs:List V}
    (S:FnScope N ps scope) (hd:A.handled=none) (e0:Env0 P w K mg base A outer s H) (hl:vs.length=ps.length) (r:Vals vs us)
    (x:InCallC s s.heap.objs.size (bindL (envOfC qual scope s.heap.objs.size f cd).kindOf (ps.zip us) fun _=>none) (cellsFrom (s.heap.objs.size+1) scope.names []) (bindC (envOfC qual scope s.heap.objs.size f cd).kindOf (ps.zip us) fun _=>none) s1) :
    Inv (kK CX P w K mg base N qual scope f cd A outer s H E) [] (fW N vs) H s1:=by
  have hpl:ps.length<=N.length:=by have:=congrArg List.length S.pre;rw [vU] at this;omega
  obtain ⟨h1,tk,rfl,hk⟩:=x.done
  have noA:∀ b:Addr,b ∉ (kK CX P w K mg base N qual scope f cd A outer s H E).ex:=fun b z=>absurd (show b ∈ ([]:List Addr) from z) (by simp)
  refine ⟨⟨e0.mod,S.kind,rfl,rfl,vI _,fun y z c h1 h2=>?_,fun y hy=>?_,fun y c _ h=>?_,fun _=>hd,Around.frames_deeper e0.frames,.inr ⟨rfl,rfl⟩,fun b z=>absurd z (noA b),e0.bs,e0.bsz,fun b _ _=>noA b,fun b z=>absurd z (noA b),e0.funs,e0.frf⟩,
    rfl,e0.bare,Un.kept hk,⟨_,x.toInCall.ns,fun i y v h1 h2 h3=>?_⟩,fun y c h=>⟨_,x.cell y c h⟩,e0.hok.fresh (vI _),fun y c h=>?_,fun p hp=>absurd (show p ∈ ([]:List (Addr × Obj)) from hp) (by simp),e0.hok.kept hk,?_⟩
  · exact name_of_addr x.apart (PySem.mem_of_lookup h1) (PySem.mem_of_lookup h2)
  · have hy:scope.names.lookup y=some .cell\/scope.names.lookup y=some .free:=hy
    rcases hy with hy | hy
    · exact kM hy
    · exact absurd rfl (S.nofree _ (PySem.mem_of_lookup hy))
  · exact Nat.le_of_lt (x.above y c (PySem.mem_of_lookup h))
  · have hi:i < vs.length:=by
      unfold fW at h2
      by_cases hi:i < vs.length
      · exact hi
      · rw [List.getElem?_append_right (by simpa using hi)] at h2
        rw [List.getElem?_replicate] at h2
        split at h2 <;> cases h2
    have ha:vs[i]?=some v:=by
      unfold fW at h2
      rw [v9 (by simpa using hi),vH] at h2
      cases e:vs[i]? with
      | none=>rw [e] at h2;cases h2
      | some a=>rw [e] at h2;cases h2;rfl
    obtain ⟨u,hu,rv⟩:=r.get ha
    have hp:ps[i]?=some y:=by
      rw [<- S.pre,List.getElem?_take_of_lt (by omega)];exact h1
    have ndP:ps.Nodup:=by rw [<- S.pre];exact S.nd.sublist (List.take_sublist _ _)
    refine ⟨u,rv,?_⟩
    rcases S.par y (vE hp) with k | k
    · exact .inl ⟨k,i9 ndP hp hu k⟩
    · obtain ⟨c,e⟩:=kM (n:=s.heap.objs.size+1) k
      refine .inr ⟨.inl k,c,e,?_⟩
      have q:=x.cell y c e
      rw [jb ndP hp hu (by show scope.names.lookup y ≠ _;rw [k];decide)] at q
      exact q
  · exact e0.hok.fresh (Nat.le_of_lt (x.above y c (PySem.mem_of_lookup h)))
  · unfold fW
    show _=N.length
    rw [vS,vC,List.length_replicate]
    omega
set_option tactic.hygienic true in
theorem fn_of {CX:CXT} {P:Program} {w:World} {K:FG} {mg:Str->Option Value} {base:Heap} {k:Nat} {f:Addr} {name qual:Str} {params:Arguments} {body:List Stmt} {scope:Scope} {dV kV doc pm cdv ct oc:Value} {an od:Option Addr}
    {osl:Array (Option Value)} {N ps:List Str} {sp:Sp} (lk:K.lookup f=some ⟨oc,od,.func (PySem.W.fnOf name qual params body scope dV kV doc pm an cdv ct),osl⟩) (hcd:PySem.W.codeIn K cdv qual=true) (S:FnScope N ps scope)
    (len:∀ vs H Q E,sp vs H Q E->vs.length=ps.length)
    (hbody:∀ (A:Around) (outer:List Env) (s:Shared) (H:Hp) (vs:List V) (Q:VK) (E:XK),Room k (A.deeper (envOfC qual scope s.heap.objs.size f cdv))->sp vs H Q E ->
      ∃ t,PSs (kK CX P w K mg base N qual scope f cdv A outer s H E) body t/\t { nx:=fun _ H'=>Q .non H',rt:=Q } (fW N vs) H) :
    FnOk P w K mg base CX (k+1) f (PySem.W.fnOf name qual params body scope dV kV doc pm an cdv ct) ps sp:=by
  refine ⟨len,fun A outer s H args us vs Q E hr e0 hb r hsp=>?_⟩
  have hl:=len _ _ _ _ hsp
  have KX:K.In s.heap:=e0.mod.kin.keeps fun b o e=>(e0.bs b o e).1
  have lim:s.heap.NoLimit:=e0.mod.nolimit.keeps fun b o e=>(e0.bs b o e).1
  have hkind:∀ y ∈ ps.zip us,scope.names.lookup y.1=some .local\/(scope.names.lookup y.1=some .cell/\((cellsFrom (s.heap.objs.size+1) scope.names []).lookup y.1).isSome=true):=fun ⟨n,v⟩ hy=>by
    rcases S.par n (List.of_mem_zip hy).1 with q | q
    · exact .inl q
    · exact .inr ⟨q,PySem.W.cellsFrom_some _ _ _ (.inl q)⟩
  refine codeAny_call_function hr.depth (KX _ _ lk) rfl S.co S.gen rfl (PySem.W.codeRec_of KX hcd) (hb _ _ _ _ ?_)
  refine wpAny_newFunctionEnv_cells S.kind hkind fun env he s1 x=>?_
  subst he
  refine ⟨lim.keeps x.toInCall.keep,codeAny_func ?_⟩
  obtain ⟨t,ht,hq⟩:=hbody A outer s H vs Q E (hr.deeper _) hsp
  have I:Inv (kK CX P w K mg base N qual scope f cdv A outer s H E) [] (fW N vs) H s1:=nE S hr.hd e0 hl r x
  refine wpAny_mono (ht [] s1 (fW N vs) H _ I hq) (fun fl s' hs=>?_) fun e s' hs=>hs
  have fin:∀ {σ':St} {H':Hp} {v:V} {u:Value},Inv (kK CX P w K mg base N qual scope f cdv A outer s H E) [] σ' H' s'->RelV v u->Q v H'->CE outer P w H s Q u s' :=
    fun {σ' H' v u} J rv q=>⟨v,H',J.os,J.bare,J.base,J.hok,rv,q⟩
  cases fl with
  | ret u =>
    obtain ⟨v,σ',H',J,rv,q⟩:=hs
    exact fin J rv q
  | next =>
    obtain ⟨σ',H',J,q⟩:=hs
    exact fin (v:=V.non) (u:=Value.none) J rfl q
  | brk =>
    obtain ⟨_,_,_,q⟩:=hs
    exact False.elim q
  | cont =>
    obtain ⟨_,_,_,q⟩:=hs
    exact False.elim q
end L2
namespace L2
open PySem PySem.Spec PyProof.Rows
section
variable {X:Cx} {x:Str} {p pos:Pos} {e:Expr} {es:List Expr} {t:TA} {id T:String} {r:List V->Hp->VK->Prop}
noncomputable def tCB (r:List V->Hp->VK->Prop) (t:TA):TE:=fun σ H Q=>t σ H fun vs H1=>r vs H1 Q
theorem j4 (hc:cM X (.builtin id) r) (hg:Gl X x) (hm:X.mg x=none) (hv:bootBuiltins x=some (.builtin id)) (ha:PA X (e :: es) t) (hn:x ≠ "__name__":=by decide) (hdb:(x == ("__debug__":Str))=false:=by decide)
    (he:starEach (e :: es) X.env=(false,eval e X.env) :: starEach es X.env:=by rfl) (hpl:(backTo pos (starEach es X.env)).any (·.1)=false:=by rfl):PE X (.Call (.Name x p) (e :: es) [] pos) (tCB r t):=by
  intro pins s σ H Q I h
  refine wpAny_Call_Name_kw (eY I hg hm hv ?_ hn hdb)
  exact PyProof.Rows.callWith_builtin1 (thn (ha pos pins s σ H _ I h) fun us s1 ⟨vs,H1,I1,r1,q1⟩=>hc pins s1 σ H1 vs us Q I1 r1 q1) he hpl
theorem m5 (hc:cM X (.type T) r) (hg:Gl X x) (hm:X.mg x=none) (hv:bootBuiltins x=some (.type T)) (ha:PA X (e :: es) t) (hn:x ≠ "__name__":=by decide) (hdb:(x == ("__debug__":Str))=false:=by decide)
    (he:starEach (e :: es) X.env=(false,eval e X.env) :: starEach es X.env:=by rfl) (hpl:(backTo pos (starEach es X.env)).any (·.1)=false:=by rfl):PE X (.Call (.Name x p) (e :: es) [] pos) (tCB r t):=by
  intro pins s σ H Q I h
  refine wpAny_Call_Name_kw (eY I hg hm hv ?_ hn hdb)
  exact PyProof.Rows.callWith_type1 (thn (ha pos pins s σ H _ I h) fun us s1 ⟨vs,H1,I1,r1,q1⟩=>hc pins s1 σ H1 vs us Q I1 r1 q1) he hpl
end
end L2
namespace HT
open PySem PyProof.Rows
noncomputable def lexLt:List Int->List Int->Bool
  | [],[]=>false
  | [],_ :: _=>true
  | _ :: _,[]=>false
  | x :: xs,y :: ys=>if x=y then lexLt xs ys else decide (x < y)
theorem lexLt_cons (x y:Int) (xs ys:List Int):lexLt (x :: xs) (y :: ys)=if x=y then lexLt xs ys else decide (x < y):=rfl
theorem lexLt_nil_nil:lexLt [] []=false:=rfl
theorem lexLt_nil_cons (y:Int) (ys:List Int):lexLt [] (y :: ys)=true:=rfl
theorem lexLt_cons_nil (x:Int) (xs:List Int):lexLt (x :: xs) []=false:=rfl
theorem p4 (A:Around) (s:Shared) (a:Int) (t:Tok) (c:Int) (u:Tok):∃ e,SeqAt.EqAt A s (.int a t) (.int c u) e/\(e=true ↔ a=c) :=
  ⟨(a == c),SeqAt.EqAt.int_int a t c u,by simp⟩
theorem rcLt_int (A:Around) (s:Shared) (a:Int) (t:Tok) (c:Int) (u:Tok) (prog:Program) (w:World) (E:Value->Shared->Prop) (Q:Value->Shared->Prop) (h:Q (.bool (decide (a < c))) s) :
    wpAny (model prog w) A (richCompare .Lt (.int a t) (.int c u)) Q E s :=
  (PyProof.Rows.lt_int h:wpAny (model prog w) A (compareOp .Lt (.int a t) (.int c u)) Q E s)
section
open PySem.SeqAt
open PySem.AutoSeq1 (wpAny_loadPart')
open PySem.MeetsSeq PySem.MeetsSeq2 PySem.MeetsSeq3
set_option tactic.hygienic true in
theorem tuple_lt_ints (l b:Addr) (items items2:Array Value) (n n2:Nat) (dd dd2:Option Addr) (sl sl2:Array (Option Value)) (ns ms:List Int) (hi:IntsAre items.toList ns) (hj:IntsAre items2.toList ms) :
    Meets (Builtin.«tuple.__lt__» ⟨[.ref l,.ref b],[]⟩)
      (fun _ R s=>s.heap.get? l=some { cls:=.type "tuple",dict:=dd,data:=.seq items n,slots:=sl }/\s.heap.get? b=some { cls:=.type "tuple",dict:=dd2,data:=.seq items2 n2,slots:=sl2 } /\
        R (.ok (.ret (.bool (lexLt ns ms)))) s) :=
  .of_wp fun prog w A R s h=>by
    obtain ⟨hp,g,d,tk,os⟩:=s;obtain ⟨hl,hb,h⟩:=h
    have f2:=AutoSeq1.sub_tuple_tuple
    have z1:items.size=ns.length:=by rw [<- hi.length];simp
    have z2:items2.size=ms.length:=by rw [<- hj.length];simp
    wp_walk using wpAny_loadPart' hl,wpAny_loadPart' hb,wpAny_forIn_list _ (fun cN b s'=>b.1=none/\s'=⟨hp,g,d,tk,os⟩/\∃ (vs ws:List Value) (ns' ms':List Int),cN=vs.zip ws /\
      IntsAre vs ns'/\IntsAre ws ms'/\ns'.length+items2.size=ms'.length+items.size/\R (.ok (.ret (.bool (lexLt ns' ms')))) ⟨hp,g,d,tk,os⟩) _
    case turn =>
      rintro ⟨y,x⟩ cN b s' ⟨hb',rfl,vs,ws,ns',ms',hz,hvi,hwi,hlen,hR⟩
      cases hvi with
      | nil=>rw [List.zip_nil_left] at hz;cases hz
      | cons a t hvi' =>
        cases hwi with
        | nil=>rw [List.zip_nil_right] at hz;cases hz
        | cons c u hwi' =>
          rw [List.zip_cons_cons] at hz
          injection hz with hyx hrest
          injection hyx with hy hx
          subst hy hx
          rw [lexLt_cons] at hR
          simp only [vT] at hlen
          obtain ⟨e,he,hiff⟩:=p4 A.in1 ⟨hp,g,d,tk,os⟩ a t c u
          refine vj (he prog w _ _ ?_)
          cases e with
          | true =>
            rw [if_pos (hiff.mp rfl)] at hR
            wp_walk
            exact ⟨rfl,rfl,_,_,_,_,hrest,hvi',hwi',by omega,hR⟩
          | false =>
            rw [if_neg (fun q=>absurd (hiff.mpr q) vJ)] at hR
            have hri:=rcLt_int A.in1 ⟨hp,g,d,tk,os⟩ a t c u prog w
            wp_walk using hri
            exact ⟨_,rfl,by simpa using hR⟩
    case fin =>
      rintro ⟨b1,b2⟩ s' ⟨hb',rfl,vs,ws,ns',ms',hz,hvi,hwi,hlen,hR⟩
      simp only at hb'
      subst hb'
      have hv:lexLt ns' ms'=decide (items.size < items2.size):=by
        cases hvi with
        | nil =>
          cases hwi with
          | nil =>
            simp only [List.length_nil] at hlen
            rw [lexLt_nil_nil]
            exact (vO (by omega)).symm
          | cons c u hw =>
            simp only [List.length_nil,vT] at hlen
            rw [lexLt_nil_cons]
            exact (vN (by omega)).symm
        | cons a t hv =>
          cases hwi with
          | nil =>
            simp only [List.length_nil,vT] at hlen
            rw [lexLt_cons_nil]
            exact (vO (by omega)).symm
          | cons c u hw =>
            rw [List.zip_cons_cons] at hz
            cases hz
      rw [hv] at hR
      wp_walk
      exact ⟨_,rfl,by simpa [Builtin.Tuple.tupleCompareSizes] using hR⟩
    case h =>
      exact ⟨rfl,rfl,items.toList,items2.toList,ns,ms,rfl,hi,hj,by omega,h⟩
end
section
variable {prog:Program} {w:World} {A:Around} {E:Value->Shared->Prop} {s:Shared}
theorem cat_tup {t b:Addr} {vs ws:List Value} {Q:Value->Shared->Prop} (ht:IsTup s.heap t vs.toArray) (hb:IsTup s.heap b ws.toArray) (hv:vs ≠ [])
    (h1:ws=[]->Q (.ref t) s) (h2:ws ≠ []->Q (.ref s.heap.objs.size) { s with heap:=s.heap.push { cls:=.type "tuple",data:=.seq (vs ++ ws).toArray } })
    (hsz:vs.length+ws.length<=sizeLine):wpAny (model prog w) A (binaryOp .Add (.ref t) (.ref b)) Q E s:=by
  obtain ⟨⟨cls,dd,data,sl⟩,ho,hc,n,hd⟩:=id ht
  obtain ⟨⟨cls2,dd2,data2,sl2⟩,ho2,hc2,n2,hd2⟩:=id hb
  simp only at hc hd hc2 hd2
  subst hc hd hc2 hd2
  have e:vs.toArray ++ ws.toArray=(vs ++ ws).toArray:=by simp
  by_cases hw:ws=[]
  · exact concat_meets ⟨_,ho,rfl⟩ ⟨_,ho2,rfl⟩ noFill_tuple_add seq_tuple_add PySem.F.slot_tuple_add PySem.F.entry_tuple_add (PySem.F.args_tuple_add_2 _ _)
      (tuple_addW1 t b vs.toArray ws.toArray n n2 dd dd2 sl sl2 (by simpa using hv) (by simp [hw])) ⟨ho,ho2,h1 hw⟩
  · refine concat_meets ⟨_,ho,rfl⟩ ⟨_,ho2,rfl⟩ noFill_tuple_add seq_tuple_add PySem.F.slot_tuple_add PySem.F.entry_tuple_add (PySem.F.args_tuple_add_2 _ _)
      (tuple_addW2 t b vs.toArray ws.toArray n n2 dd dd2 sl sl2 (by simpa using hv) (by simpa using hw) (by rw [vL,vL];exact hsz)) ⟨ho,ho2,?_⟩
    rw [e]
    exact h2 hw
noncomputable def sIx (n d:Nat):Option Int->Nat
  | none=>d
  | some v=>if v < 0 then (v+(n:Int)).toNat else min v.toNat n
end
end HT
namespace L2
open PySem PySem.Spec PyProof.Rows
noncomputable abbrev TO:=St->Hp->(Option Int->Hp->Prop)->Prop
theorem lA {ns:List Int}:∀ {us:List Value},Vals (ns.map V.int) us->IntsAre us ns:=by
  induction ns with
  | nil=>intro us r;rw [List.map_nil] at r;cases r;exact .nil
  | cons n ns ih =>
    intro us r
    rw [vM] at r
    cases r with
    | cons r1 r2 =>
      obtain ⟨t,e⟩:=r1
      subst e
      exact .cons n t (ih r2)
section
variable {X:Cx} {e:Expr} {te:TE} {lo hi:Option Expr} {tl th:TO} {pos p2:Pos}
noncomputable def SlR (X:Cx) (r:V->Option Int->Option Int->Hp->VK->Prop):Prop :=
  ∀ (pins:List (Addr × Obj)) (s:Shared) (σ:St) (H:Hp) (x:V) (v vl vu:Value) (lo hi:Option Int) (sl:Addr) (Q:VK),Inv X pins σ H s->RelV x v->s.heap.IsSliceOf sl vl vu .none->IsPart vl lo->IsPart vu hi->r x lo hi H Q ->
    ∃ T id,typeLookup (.type T) "__getitem__"=pure (some (.builtin id))/\s.TypeIs v T/\wpAny (model X.prog X.w) X.A (getItem v (.ref sl)) (EP X pins σ Q) X.xe s
noncomputable def cutV (xs:List V) (lo hi:Option Int):List V:=(xs.drop (HT.sIx xs.length 0 lo)).take (HT.sIx xs.length xs.length hi - HT.sIx xs.length 0 lo)
noncomputable def l8 (K:FG):R2:=fun x y H Q=>∃ a b xs ys,x=.ref a/\y=.ref b/\SqT K H a xs/\SqT K H b ys/\xs ≠ []/\xs.length+ys.length<=sizeLine /\
  (ys=[]->Q (.ref a) H)/\(ys ≠ []->∀ p,H p=none->Q (.ref p) (upd H p (.tup (xs ++ ys))))
theorem Vals.nil_iff {xs:List V} {us:List Value} (r:Vals xs us):us=[] ↔ xs=[]:=by
  cases r with
  | nil=>simp
  | cons _ _=>simp
theorem op_catT:OpR X (binaryOp .Add) (l8 X.K):=by
  intro pins s σ H x y v u Q I rx ry h
  obtain ⟨a,b,xs,ys,rfl,rfl,ha,hb,hx,hz,q1,q2⟩:=h
  cases rx
  cases ry
  obtain ⟨its,r1,p1,_⟩:=I.tuple ha
  obtain ⟨its2,r2,p2,_⟩:=I.tuple hb
  refine HT.cat_tup p1 p2 (fun z=>hx (r1.nil_iff.mp z)) (fun z=>⟨.ref a,H,I,rfl,q1 (r2.nil_iff.mp z)⟩) (fun z=>?_) (by rw [<- r1.length,<- r2.length];exact hz)
  refine ⟨.ref s.heap.objs.size,_,I.laid (t':=s.toks) (o:=.tup (xs ++ ys)) (fun b ob q=>vq _ q) (vI _) ?_,rfl,q2 (fun w=>z (r2.nil_iff.mpr w)) _ (I.hok.fresh (vI _))⟩
  exact ⟨by rw [vS];exact hz,_,r1.append r2,IsTupD.new _ _⟩
end
end L2
namespace L2
open PySem PySem.Spec PyProof.Rows
noncomputable def ixN (n:Nat) (i:Int):Option Nat:=if 0<=i then (if i < n then some i.toNat else none) else if -(n:Int)<=i then some (i+n).toNat else none
noncomputable def atI {α:Type} (xs:List α) (i:Int):Option α:=(ixN xs.length i).bind fun j=>xs[j]?
theorem mm {n:Nat} {i:Int} {j:Nat} (h:ixN n i=some j):seqIndex? i n=some j/\j < n/\-(n:Int)<=i/\i < n:=by
  unfold ixN at h
  by_cases h0:0<=i
  · rw [if_pos h0] at h
    by_cases h1:i < n
    · rw [if_pos h1] at h
      have e:i.toNat=j:=wg h
      exact ⟨by rw [seqIndex_of h0 h1,e],by omega,by omega,h1⟩
    · rw [if_neg h1] at h;cases h
  · rw [if_neg h0] at h
    by_cases h1:-(n:Int)<=i
    · rw [if_pos h1] at h
      have e:(i+n).toNat=j:=wg h
      exact ⟨by rw [seqIndex_neg (by omega) h1,e],by omega,h1,by omega⟩
    · rw [if_neg h1] at h;cases h
theorem mJ {α:Type} {xs:List α} {i:Int} {v:α} (h:atI xs i=some v):∃ j,seqIndex? i xs.length=some j/\xs[j]?=some v/\j < xs.length/\-(xs.length:Int)<=i/\i < xs.length:=by
  unfold atI at h
  cases e:ixN xs.length i with
  | none=>rw [e] at h;cases h
  | some j =>
    rw [e] at h
    obtain ⟨h1,h2,h3,h4⟩:=mm e
    exact ⟨j,h1,h,h2,h3,h4⟩
noncomputable def mK (b:Expr):Prop:=∀ o i,subscripted b false o i=operate [o,i] (getItem o i)
noncomputable def IxR (X:Cx) (r:R2):Prop :=
  ∀ (value slice:Expr) (pins:List (Addr × Obj)) (s:Shared) (σ:St) (H:Hp) (x y:V) (v u:Value) (Q:VK),Inv X pins σ H s->RelV x v->RelV y u->r x y H Q ->
    subscripted slice false v u=operate [v,u] (getItem v u)->wpAny (model X.prog X.w) X.A (subscriptTail value slice v u) (EP X pins σ Q) X.xe s
noncomputable def MtR (X:Cx) (id:String) (r:V->List V->Hp->VK->Prop):Prop :=
  ∀ (pins:List (Addr × Obj)) (s:Shared) (σ:St) (H:Hp) (x:V) (xs:List V) (v:Value) (us:List Value) (Q:VK),Inv X pins σ H s->RelV x v->Vals xs us->r x xs H Q ->
    wpAny (model X.prog X.w) X.A (call (.builtin id) (v :: us)) (EP X pins σ Q) X.xe s
section
variable {X:Cx} {a b:Expr} {ta tb:TE} {pos:Pos}
theorem IxR.or {r r':R2} (h:IxR X r) (h':IxR X r'):IxR X (fun x y H Q=>r x y H Q\/r' x y H Q):=by
  intro value slice pins s σ H x y v u Q I rx ry q hs
  rcases q with q | q
  · exact h value slice pins s σ H x y v u Q I rx ry q hs
  · exact h' value slice pins s σ H x y v u Q I rx ry q hs
theorem pe_ix {r:R2} (hr:IxR X r) (ha:PE X a ta) (hb:PE X b tb) (hs:mK b):PE X (.Subscript a b pos) (tOp r ta tb):=by
  intro pins s σ H Q I h
  exact Subscript_ (u9 ha hb I h fun v u s2 x y H2 I2 rx ry q=>hr a b pins s2 σ H2 x y v u Q I2 rx ry q (hs _ _))
noncomputable def o3 (K:FG):R2:=fun x y H Q=>∃ p xs i v,x=.ref p/\y=.int i/\SqL K H p xs/\atI xs i=some v/\Q v H
noncomputable def oZ (K:FG):R2:=fun x y H Q=>∃ p xs i v,x=.ref p/\y=.int i/\SqT K H p xs/\atI xs i=some v/\Q v H
theorem ix_list:IxR X (o3 X.K):=by
  intro value slice pins s σ H x y v u Q I rx ry h hs
  obtain ⟨p,xs,i,z,rfl,rfl,hq,he,q⟩:=h
  cases rx
  obtain ⟨t,rfl⟩:=ry
  obtain ⟨its,r,pl,hz⟩:=I.list hq
  obtain ⟨j,h1,h2,h3,h4,h5⟩:=mJ he
  obtain ⟨w,ew,rw'⟩:=r.get h2
  have hl:=r.length
  have hn:=jo
  have fin:EP X pins σ Q w s:=⟨z,H,I,rw',q⟩
  by_cases h0:0<=i
  · have hj:i.toNat=j:=by
      rw [seqIndex_of h0 h5] at h1
      exact wg h1
    exact item_listR pl.isList h0 (by omega) (by rw [hj];simpa using ew) fin hs
  · have hj:(i+(its.toArray.size:Int)).toNat=j:=by
      rw [seqIndex_neg (by omega) h4] at h1
      rw [vL,<- hl]
      exact wg h1
    exact subscriptTail_builtinR (x:=w) pl.isList.typeIs slot_list_getitem.lookup
      (wpAny_getItem_list_neg (Q:=fun r s'=>r=w/\EP X pins σ Q r s') pl.isList (by omega) (by rw [vL] <;> omega) (by omega) (by rw [hj];simpa using ew) ⟨rfl,fin⟩) hs
theorem uP:IxR X (oZ X.K):=by
  intro value slice pins s σ H x y v u Q I rx ry h hs
  obtain ⟨p,xs,i,z,rfl,rfl,hq,he,q⟩:=h
  cases rx
  obtain ⟨t,rfl⟩:=ry
  obtain ⟨its,r,pl,hz⟩:=I.tuple hq
  obtain ⟨j,h1,h2,h3,h4,h5⟩:=mJ he
  obtain ⟨w,ew,rw'⟩:=r.get h2
  have hl:=r.length
  have hn:=jo
  have fin:EP X pins σ Q w s:=⟨z,H,I,rw',q⟩
  exact subscriptTail_builtinR (x:=w) pl.typeIs slot_tuple_getitem.lookup
    (getItem_tuple (j:=j) (Q:=fun r s'=>r=w/\EP X pins σ Q r s') pl (by omega) (by omega) (by rw [vL,<- hl];exact h1) (by simpa using ew) ⟨rfl,fin⟩) hs
theorem lj (its:List Value) (n j:Nat) (u:Value):Obj.mapSeq (·.setIfInBounds j u) { cls:=.type "list",data:=.seq its.toArray n } = { cls:=.type "list",data:=.seq (its.set j u).toArray n }:=by
  simp [Obj.mapSeq]
theorem Inv.lst {pins:List (Addr × Obj)} {σ:St} {H:Hp} {s:Shared} {p:Addr} {xs:List V} (I:Inv X pins σ H s) (h:H p=some (.lst xs)) :
    ∃ (its:List Value) (n:Nat),Vals xs its/\s.heap.get? p=some { cls:=.type "list",data:=.seq its.toArray n }/\xs.length<=sizeLine:=by
  obtain ⟨z,its,n,r,e⟩:=I.hok p _ h
  exact ⟨its,n,r,e,z⟩
theorem Inv.lstUpd {pins:List (Addr × Obj)} {σ:St} {H:Hp} {s:Shared} {p:Addr} {xs ys:List V} {its its':List Value} {n n':Nat} {f:Obj->Obj} (I:Inv X pins σ H s) (h:H p=some (.lst xs))
    (ho:s.heap.get? p=some { cls:=.type "list",data:=.seq its.toArray n }) (hf:f { cls:=.type "list",data:=.seq its.toArray n } = { cls:=.type "list",data:=.seq its'.toArray n' }) (r:Vals ys its') (hz:ys.length<=sizeLine) (t:Nat) :
    Inv X pins σ (upd H p (.lst ys)) { s with heap:=s.heap.update p f,toks:=t }:=by
  have e:(s.heap.update p f).get? p=some { cls:=.type "list",data:=.seq its'.toArray n' }:=by
    rw [vR f ho (by rw [hf] <;> rfl),hf]
  refine I.write (x:=p) (e:=p) (by rw [h];trivial) (.inl rfl) (fun b u hb q=>(wa _ _ (Ne.symm hb)).trans q) ⟨_,e⟩ ?_
  exact ⟨hz,its',n',r,e⟩
noncomputable def lZ:V->V->V->Hp->(Hp->Prop)->Prop:=fun o i v H Q=>∃ p xs k j,o=.ref p/\i=.int k/\H p=some (.lst xs)/\ixN xs.length k=some j/\Q (upd H p (.lst (xs.set j v)))
theorem oH:qt X lZ:=by
  intro pins s σ H o i v ov iv u Q I ro ri rv h
  obtain ⟨p,xs,k,j,rfl,rfl,hp,hj,q⟩:=h
  cases ro
  obtain ⟨t,rfl⟩:=ri
  obtain ⟨its,n,r,ho,hz⟩:=I.lst hp
  obtain ⟨h1,h2,h3,h4⟩:=mm hj
  have hl:=r.length
  have hn:=jo
  have I':Inv X pins σ (upd H p (.lst (xs.set j v))) { s with heap:=s.heap.update p (Obj.mapSeq (·.setIfInBounds j u)) } :=
    I.lstUpd hp ho (lj its n j u) (r.set rv j) (by rw [List.length_set];exact hz) s.toks
  by_cases h0:0<=k
  · have hk:k.toNat=j:=by
      rw [seqIndex_of h0 h4] at h1
      exact wg h1
    exact PySem.W.ki_setAt ho h0 (by omega) (by rw [vL,<- hl];exact h4) (by rw [hk];exact ⟨_,I',q⟩)
  · have hk:(k+(its.toArray.size:Int)).toNat=j:=by
      rw [seqIndex_neg (by omega) h3] at h1
      rw [vL,<- hl]
      exact wg h1
    exact PySem.W.ki_setBack ho (by omega) (by rw [vL,<- hl];exact h3) (by omega) (by rw [hk];exact ⟨_,I',q⟩)
noncomputable def rSlL (K:FG):V->Option Int->Option Int->Hp->VK->Prop:=fun x lo hi H Q=>∃ a xs,x=.ref a/\SqL K H a xs/\∀ p,H p=none->Q (.ref p) (upd H p (.lst (cutV xs lo hi)))
theorem aZ:cM X (.builtin "len") (fun xs H Q=>∃ p ys,xs=[.ref p]/\(SqL X.K H p ys\/SqT X.K H p ys)/\Q (.int ys.length) H):=by
  intro pins s σ H xs us Q I r h
  obtain ⟨p,ys,rfl,hq,q⟩:=h
  obtain ⟨u,rfl,rx⟩:=iD r
  cases rx
  have hn:=jo
  rcases hq with hq | hq
  · obtain ⟨its,r',pl,hz⟩:=I.list hq
    have hlen:=r'.length
    exact Calls.call_len_list pl.isList (by simp only [vL] <;> omega) ⟨.int ys.length,H,I.tok _,⟨s.toks+1,by rw [vL,hlen]⟩,q⟩
  · obtain ⟨its,r',pl,hz⟩:=I.tuple hq
    have hlen:=r'.length
    exact len_tuple pl (by simp only [vL] <;> omega) ⟨.int ys.length,H,I.tok _,⟨s.toks+1,by rw [vL,hlen]⟩,q⟩
theorem iy:cM X (.type "tuple") (fun xs H Q=>∃ p ys,xs=[.ref p]/\((SqL X.K H p ys/\∀ l,H l=none->Q (.ref l) (upd H l (.tup ys)))\/(SqT X.K H p ys/\Q (.ref p) H))):=by
  intro pins s σ H xs us Q I r h
  obtain ⟨p,ys,rfl,h⟩:=h
  obtain ⟨u,rfl,rx⟩:=iD r
  cases rx
  rcases h with ⟨hq,q⟩ | ⟨hq,q⟩
  · obtain ⟨its,r',pl,hz⟩:=I.list hq
    have hlen:=r'.length
    refine call_tuple_list pl.isList (fun h' kp=>?_) (by simp only [vL] <;> omega)
    have I1:Inv X pins σ H { s with heap:=h' }:=I.kept (t':=s.toks) kp
    have I2:Inv X pins σ (upd H h'.objs.size (.tup ys)) { s with heap:=h'.push { cls:=.type "tuple",data:=.seq its.toArray } } :=
      I1.laid (t':=s.toks) (fun b o e=>vq _ e) (vI _) (show ObjOk X.prog X.w _ _ _ (.tup ys) from ⟨hz,its,r',IsTupD.new _ _⟩)
    exact ⟨.ref h'.objs.size,_,I2,rfl,q _ (I1.hok.fresh (vI _))⟩
  · obtain ⟨its,r',pl,hz⟩:=I.tuple hq
    exact call_tuple_same pl ⟨.ref p,H,I,rfl,q⟩
noncomputable def tyV (K:FG) (T:String) (x:V) (H:Hp):Prop:=match x with
  | .str _=>T = "str"
  | .int _=>T = "int"
  | .ref p=>(T = "list"/\∃ xs,SqL K H p xs)\/(T = "tuple"/\((∃ o,K.lookup p=some o/\o.cls=.type "tuple"/\o.dict=none)\/∃ xs,H p=some (.tup xs))) \/
      (T = "dict"/\((∃ kvs,H p=some (.dK kvs))\/∃ kvs,H p=some (.dT kvs)))\/(T = "set"/\∃ S n,H p=some (.set S n))
  | _=>False
theorem oh {pins:List (Addr × Obj)} {σ:St} {H:Hp} {s:Shared} {T:String} {x:V} {v:Value} (I:Inv X pins σ H s) (r:RelV x v) (ty:tyV X.K T x H) :
    s.TypeIs v T/\∀ a,v=.ref a->∃ ob,s.heap.get? a=some ob/\ob.dict=none:=by
  cases x with
  | str z =>
    obtain ⟨t,rfl⟩:=r
    cases (show T = "str" from ty)
    exact ⟨typeIs_str s z t,fun _ e=>nomatch e⟩
  | int i =>
    obtain ⟨t,rfl⟩:=r
    cases (show T = "int" from ty)
    exact ⟨typeIs_int s i t,fun _ e=>nomatch e⟩
  | ref p =>
    cases r
    rcases ty with ⟨rfl,xs,hq⟩ | ⟨rfl,⟨o,hk,hc,hd⟩ | ⟨xs,ht⟩⟩ | ⟨rfl,hk⟩ | ⟨rfl,S,n,hk⟩
    · obtain ⟨its,_,pl,_⟩:=I.list hq
      refine ⟨pl.isList.typeIs,fun a e=>?_⟩
      cases e
      obtain ⟨o,n,e,c,hd,_⟩:=pl
      exact ⟨o,e,hd⟩
    · refine ⟨⟨o,I.kIn p o hk,hc⟩,fun a e=>?_⟩
      cases e
      exact ⟨o,I.kIn _ o hk,hd⟩
    · obtain ⟨_,its,_,o,e,c,n,d⟩:=I.hok p _ ht
      refine ⟨⟨o,e,c⟩,fun a e2=>?_⟩
      cases e2
      exact ⟨o,e,congrArg Prod.snd d⟩
    · have z:∃ o,s.heap.get? p=some o/\o.ExactDict:=by
        rcases hk with ⟨kvs,hk⟩ | ⟨kvs,hk⟩
        · obtain ⟨_,_,_,_,o,_,_,e,ex,_⟩:=I.hok p _ hk
          exact ⟨o,e,ex⟩
        · obtain ⟨_,_,_,_,o,_,_,e,ex,_⟩:=I.hok p _ hk
          exact ⟨o,e,ex⟩
      obtain ⟨o,e,ex⟩:=z
      refine ⟨⟨o,e,ex.1⟩,fun a e2=>?_⟩
      cases e2
      exact ⟨o,e,ex.2.1⟩
    · obtain ⟨o,_,_,_,e,ex,_⟩:=I.hok p _ hk
      refine ⟨⟨o,e,ex.1⟩,fun a e2=>?_⟩
      cases e2
      exact ⟨o,e,ex.2.1⟩
  | _=>exact False.elim ty
noncomputable def tBM0 (K:FG) (T:String) (r:V->List V->Hp->VK->Prop) (to:TE):TE:=fun σ H Q=>to σ H fun x H1=>tyV K T x H1/\r x [] H1 Q
noncomputable def tBM (K:FG) (T:String) (r:V->List V->Hp->VK->Prop) (to:TE) (t:TA):TE:=fun σ H Q=>to σ H fun x H1=>tyV K T x H1/\t σ H1 fun xs H2=>r x xs H2 Q
variable {o e:Expr} {es:List Expr} {to:TE} {t:TA} {name:Str} {apos cpos:Pos} {T id:String} {r:V->List V->Hp->VK->Prop}
theorem ul (pa:PlainAttrs T) (slot:Slot T name id) (hty:typeOf (.builtin id)=pure (.type "method_descriptor")) (hm:MtR X id r) (ho:PE X o to)
    (hbase:attributeBase o name X.env (eval o X.env)=eval o X.env:=by rfl) (hline:(apos.endLine == cpos.line)=true:=by rfl):PE X (.Call (.Attribute o name apos) [] [] cpos) (tBM0 X.K T r to):=by
  intro pins s σ H Q I h
  refine wpAny_Call_method0_late hbase hline (thn (ho pins s σ H _ I h) fun v s1 ⟨x,H1,I1,r1,ty,q1⟩=>?_)
  obtain ⟨h1,h2⟩:=oh I1 r1 ty
  exact ⟨T,id,pa,slot,hty,h1,h2,Calls.callWith_builtin rfl (PySem.evalArgs_none (hm pins s1 σ H1 x [] v [] Q I1 r1 .nil q1))⟩
theorem pe_bm (pa:PlainAttrs T) (slot:Slot T name id) (hty:typeOf (.builtin id)=pure (.type "method_descriptor")) (hm:MtR X id r) (ho:PE X o to) (ha:PA X (e :: es) t)
    (hbase:attributeBase o name X.env (eval o X.env)=eval o X.env:=by rfl)
    (hfew:((backTo cpos (starEach (e :: es) X.env)).all (fun x=>!x.1) && (backToKw cpos (keywordEach [] X.env)).all (fun x=>x.1.isSome)
      && decide ((e :: es).length+([]:List Keyword).length+(if ([]:List Keyword).isEmpty then 0 else 1) < 30))=true:=by rfl)
    (hline:(apos.endLine == cpos.line)=true:=by rfl) (hs:starEach (e :: es) X.env=(false,eval e X.env) :: starEach es X.env:=by rfl) (hplain:(backTo cpos (starEach es X.env)).any (·.1)=false:=by rfl) :
    PE X (.Call (.Attribute o name apos) (e :: es) [] cpos) (tBM X.K T r to t):=by
  intro pins s σ H Q I h
  refine wpAny_Call_method_late hbase hfew hline rfl (thn (ho pins s σ H _ I h) fun v s1 ⟨x,H1,I1,r1,ty,q1⟩=>?_)
  obtain ⟨h1,h2⟩:=oh I1 r1 ty
  refine ⟨T,id,pa,slot,hty,h1,h2,?_⟩
  have hA:=ha cpos pins s1 σ H1 _ I1 q1
  rw [hs] at hA ⊢
  refine Calls.callWith_builtin (by show (false || (backTo cpos (starEach es X.env)).any (·.1))=false;rw [hplain] <;> rfl) (Calls.evalArgs_plain ?_)
  exact thn hA fun us s2 ⟨vs,H2,I2,r2,q2⟩=>hm pins s2 σ H2 x vs v us Q I2 r1 r2 q2
end
end L2
namespace L2
open PySem PySem.Spec PyProof.Rows
noncomputable def MtM (X:Cx) (id:String) (r:V->List V->Hp->VK->Prop):Prop :=
  ∀ (pins:List (Addr × Obj)) (s:Shared) (σ:St) (H:Hp) (x:V) (xs:List V) (v:Value) (us:List Value) (Q:VK),Inv X pins σ H s->RelV x v->Vals xs us->r x xs H Q ->
    wpAny (model X.prog X.w) X.A (call (.builtin id) (v :: us)) (EP X pins σ Q) X.xe s
theorem Vals.one:∀ {x:V} {us:List Value},Vals [x] us->∃ u,us=[u]/\RelV x u
  | _,_,.cons r .nil=>⟨_,rfl,r⟩
theorem Vals.zero:∀ {us:List Value},Vals [] us->us=[]
  | _,.nil=>rfl
theorem Vals.dropLast {xs:List V} {us:List Value} (h:Vals xs us):Vals xs.dropLast us.dropLast:=by
  induction h with
  | nil=>exact .nil
  | cons r t ih =>
    cases t with
    | nil=>exact .nil
    | cons q t'=>exact .cons r ih
theorem Vals.eraseIdx:∀ {xs:List V} {us:List Value} (i:Nat),Vals xs us->Vals (xs.eraseIdx i) (us.eraseIdx i)
  | _,_,_,.nil=>.nil
  | _,_,0,.cons _ t=>t
  | _,_,i+1,.cons r t=>.cons r (Vals.eraseIdx i t)
section
variable {X:Cx} {pins:List (Addr × Obj)} {σ:St} {H:Hp} {s:Shared} {l b:Addr} {xs ys zs:List V}
theorem Inv.lset {its its':List Value} {n:Nat} {f:Array Value->Array Value} {t':Nat} (I:Inv X pins σ H s) (hH:H l=some (.lst xs))
    (e:s.heap.get? l=some { cls:=.type "list",data:=.seq its.toArray n }) (hf:f its.toArray=its'.toArray) (hv:Vals ys its') (hz:ys.length<=sizeLine) :
    Inv X pins σ (upd H l (.lst ys)) { s with heap:=s.heap.update l (Obj.mapSeq f),toks:=t' }:=by
  have q:=PySem.IsL.update e f
  rw [hf] at q
  refine I.write (x:=l) (e:=l) (by rw [hH];exact trivial) (.inl rfl) (fun b' u hb hu=>(wa s.heap (Obj.mapSeq f) (Ne.symm hb)).trans hu) ⟨_,q⟩ ?_
  exact ⟨hz,its',_,hv,q⟩
theorem Inv.lnew {its:List Value} {t':Nat} (I:Inv X pins σ H s) (hv:Vals ys its) (hz:ys.length<=sizeLine) :
    Inv X pins σ (upd H s.heap.objs.size (.lst ys)) { s with heap:=s.heap.push { cls:=.type "list",data:=.seq its.toArray },toks:=t' } :=
  I.laid (fun _ _ q=>vq _ q) (vI _) ⟨hz,its,0,hv,vB _ rfl⟩
theorem Inv.fresh (I:Inv X pins σ H s):H s.heap.objs.size=none:=I.hok.fresh (vI _)
theorem Inv.lstM (I:Inv X pins σ H s) (hH:H l=some (.lst xs)):xs.length<=sizeLine/\∃ (its:List Value) (n:Nat),Vals xs its/\xs.length=its.length/\s.heap.get? l=some { cls:=.type "list",data:=.seq its.toArray n }:=by
  obtain ⟨z,its,n,r,e⟩:=I.hok l _ hH
  exact ⟨z,its,n,r,r.length,e⟩
theorem pp {n:Nat} (h:n<=sizeLine):Builtin.List.listTooLong n=false:=by
  unfold Builtin.List.listTooLong
  exact vO (by omega)
end
section
variable {X:Cx}
noncomputable def md:V->List V->Hp->VK->Prop:=fun x vs H Q=>∃ l xs y,x=.ref l/\vs=[y]/\H l=some (.lst xs)/\xs.length < sizeLine/\Q .non (upd H l (.lst (xs ++ [y])))
theorem ng:MtM X "list.append" md:=by
  intro pins s σ H x vs v us Q I rx rv h
  obtain ⟨l,xs,y,rfl,rfl,hH,hz,q⟩:=h
  cases rx
  obtain ⟨u,rfl,ru⟩:=rv.one
  obtain ⟨z,its,n,r,hl,e⟩:=I.lstM hH
  refine call_meets F.slot_list_append ⟨_,e,rfl⟩ F.entry_list_append (F.args_list_append_2 _ _) (PySem.list_append l its.toArray n u (by rw [vL];omega)) ⟨e,?_⟩
  refine ⟨.non,_,I.lset (its':=its ++ [u]) hH e (by simp) (r.append (.cons ru .nil)) ?_,rfl,q⟩
  rw [vS,List.length_singleton]
  omega
noncomputable def l6:V->List V->Hp->VK->Prop:=fun x vs H Q=>∃ l b xs zs,x=.ref l/\vs=[.ref b]/\H l=some (.lst xs)/\H b=some (.lst zs)/\xs.length+zs.length<=sizeLine/\Q .non (upd H l (.lst (xs ++ zs)))
theorem fN:MtM X "list.extend" l6:=by
  intro pins s σ H x vs v us Q I rx rv h
  obtain ⟨l,b,xs,zs,rfl,rfl,hH,hB,hz,q⟩:=h
  cases rx
  obtain ⟨u,rfl,ru⟩:=rv.one
  cases ru
  obtain ⟨z,its,n,r,hl,e⟩:=I.lstM hH
  obtain ⟨z2,its2,n2,r2,hl2,e2⟩:=I.lstM hB
  have hsz:its.toArray.size+its2.toArray.size<=sizeLine:=by rw [vL,vL];omega
  have hlong:¬ (!its.toArray.isEmpty && Builtin.List.listTooLong (its.toArray.size+its2.toArray.size))=true:=by
    rw [pp hsz,Bool.and_false]
    exact vJ
  refine call_meets F.slot_list_extend ⟨_,e,rfl⟩ F.entry_list_extend (F.args_list_extend_2 _ _)
    (AutoSeq1.list_extend_list_list_0 l its.toArray n b its2.toArray n2 hlong (by rw [vL];omega) (by omega)) ⟨e,e2,?_⟩
  refine ⟨.non,_,I.lset (its':=its ++ its2) hH e (by simp) (r.append r2) ?_,rfl,q⟩
  rw [vS]
  omega
noncomputable def rPop:V->List V->Hp->VK->Prop:=fun x vs H Q=>∃ l xs y,x=.ref l/\vs=[]/\H l=some (.lst xs)/\xs[xs.length - 1]?=some y/\Q y (upd H l (.lst xs.dropLast))
noncomputable def o4:V->List V->Hp->VK->Prop:=fun x vs H Q=>∃ l xs,x=.ref l/\vs=[]/\H l=some (.lst xs)/\Q .non (upd H l (.lst []))
theorem pu:MtM X "list.clear" o4:=by
  intro pins s σ H x vs v us Q I rx rv h
  obtain ⟨l,xs,rfl,rfl,hH,q⟩:=h
  cases rx
  have hus:=rv.zero
  subst hus
  obtain ⟨z,its,n,r,hl,e⟩:=I.lstM hH
  refine call_meets F.slot_list_clear ⟨_,e,rfl⟩ F.entry_list_clear (F.args_list_clear_1 _) (AutoSeq1.list_clear_list_0 l its.toArray n (by rw [vL];omega)) ⟨e,?_⟩
  exact ⟨.non,_,I.lset (its':=[]) (ys:=[]) hH e rfl .nil (Nat.zero_le _),rfl,q⟩
noncomputable def re:R2:=fun x y H Q=>∃ l b xs zs,x=.ref l/\y=.ref b/\H l=some (.lst xs)/\H b=some (.lst zs)/\xs.length+zs.length<=sizeLine/\∀ p,H p=none->Q (.ref p) (upd H p (.lst (xs ++ zs)))
theorem uw:OpR X (binaryOp .Add) re:=by
  intro pins s σ H x y v u Q I rx ry h
  obtain ⟨l,b,xs,zs,rfl,rfl,hH,hB,hz,q⟩:=h
  cases rx
  cases ry
  obtain ⟨z,its,n,r,hl,e⟩:=I.lstM hH
  obtain ⟨z2,its2,n2,r2,hl2,e2⟩:=I.lstM hB
  refine PySem.P.add_list e e2 ?_ (by rw [vL,vL];omega)
  have ea:its.toArray ++ its2.toArray=(its ++ its2).toArray:=by simp
  rw [ea]
  exact ⟨.ref _,_,I.lnew (t':=s.toks) (r.append r2) (by rw [vS];omega),rfl,q _ I.fresh⟩
end
end L2
namespace Att
open PySem PySem.W PySem.Calls PyProof.Rows
theorem gk {P:Params} {h:Heap}:∀ (ns:List Int) (vs:List Value),WellAll P h vs (ns.map WData.int)->IntsAre vs ns:=by
  intro ns
  induction ns with
  | nil =>
    intro vs w
    rw [List.map_nil] at w
    cases w
    exact .nil
  | cons n ns ih =>
    intro vs w
    rw [vM] at w
    cases w with
    | cons a b =>
      cases a
      exact .cons _ _ (ih _ b)
theorem mT {l:OpenLaw} {n:Nat} (hn:l.most=some n) {P:Params} {h:Heap} {args:List WData} {vals:List Value}
    (hpre:l.row.toRowW.claim.pre args=true) (hwl:WellAll P h vals args) :
    ∃ a vs ns,vals=[Value.ref a]/\args=[WData.list (ns.map WData.int)]/\h.get? a=some { cls:=.type "list",data:=.seq vs.toArray }/\IntsAre vs ns/\ns.length<=n:=by
  have hsh:WShape.hasAll [] args [.list .int]=true:=(pre_splitW hpre).1
  have hc:l.pre.holds [] { args:=args }=true:=(pre_splitW hpre).2
  obtain ⟨d,r,rfl,h1,h2⟩:=hasAllW_cons hsh
  obtain rfl:=hasAllW_nil h2
  obtain ⟨xs,rfl,h3⟩:=hasW_list h1
  obtain ⟨ns,rfl⟩:=items_int h3
  have hlen:ns.length<=n:=by
    unfold OpenLaw.pre at hc
    have h4:(WTm.not (.lt (.lit (.int (n:Int))) (.len (.arg 0)))).holds [] { args:=[.list (ns.map .int)] }=true:=by
      have h4:=(holds_andW hc).1
      rw [hn] at h4
      exact h4
    have h5:=condW_of h4 (w_not (w_lt w_lit (w_len_list (w_arg rfl))))
    rw [vC] at h5
    refine Nat.le_of_not_lt fun q=>?_
    have q':(n:Int) < ((ns.length:Nat):Int):=by omega
    first
      | (rw [vN q'] at h5;exact absurd h5 (by decide))
      | (simp at h5;omega)
  cases hwl with
  | cons w1 w2 =>
    cases w2
    cases w1 with
    | list ho hall=>exact ⟨_,_,ns,rfl,rfl,ho,gk ns _ hall,hlen⟩
theorem mZ (l:OpenLaw) (args:List WData):l.row.toRowW.claim.post args (.bool true) args=true :=
  postW_of (r:=l.row.toRowW) (X:=(true == true))
    (show WShape.has [] (.bool true) .bool=true by first | rfl | decide | simp [WShape.has,WShape.arms,WShape.armsAll])
    (show (WTm.eq .res (.lit (.bool true))).value [] { args:=args,res:=some (.bool true),after:=args }=some (.bool (true == true)) from w_eq_bool (w_res rfl) w_lit) rfl
theorem attach_call {l:OpenLaw} {n:Nat} {q:Program} {loose:List Str} {XP:(Str->Option Value)->Heap->Prop} {YP:World->Heap->Prop} {d:DefRec}
    (hn:l.most=some n) (hdf:d.params.defaults=[])
    (call:∀ (w:World) (s₀ s₁:Shared) (mg mb:Str->Option Value) (fa:Addr) (o:Obj) (pm cd doc:Value) (a:Addr) (vs:List Value) (ns:List Int),
      Ground q loose [] XP w s₀ mg mb s₁.heap->YP w s₁.heap ->
      s₁.heap.get? fa=some o->o.data=.func (docDef d.name d.params d.body d.scope pm cd doc)->s₁.heap.CodeRec cd d.name->mg d.name=some (.ref fa) ->
      s₁.heap.get? a=some { cls:=.type "list",data:=.seq vs.toArray }->IntsAre vs ns->ns.length<=n->s₁.gens = #[] ->
      codeAny (model l.prog w) callerA (.call (.ref fa) ⟨[.ref a],[]⟩) (fun r s'=>r=.ok (.ret (.bool true))/\OldK s₁.heap s'.heap/\s'.os=s₁.os/\AllBare s'.gens) s₁) :
    WalkO q loose XP YP l.row.toRowW d [] (fun f vs=>PySem.call f vs):=by
  intro w s₀ s₁ mg mb G Y fa o pm cd doc dV kV ho hd hcd hD hmg hg args vals as hpre hlay hrd hwl hlo
  obtain rfl:dV=.none:=Dflts.none hD hdf
  obtain rfl:kV=.none:=Dflts.noKw hD
  obtain ⟨a,vs,ns,rfl,rfl,hobj,hints,hlen⟩:=mT hn hpre hwl
  refine enter_call (codeAny_mono (call w s₀ s₁ mg mb fa o pm cd doc a vs ns G Y ho (fd_plain hd) hcd hmg hobj hints hlen hg) fun r s' hq=>?_)
  obtain ⟨rfl,h2,h3,h4⟩:=hq
  exact ⟨.inl ⟨.bool true,.bool true,[],rfl,fun _=>rfl,.bool true,mZ l _,fun _=>⟨List.Pairwise.nil,fun _ hm=>(nomatch hm)⟩⟩,h2,h3,h4⟩
end Att
namespace L2
open PySem PySem.Spec PyProof.Rows
theorem iC:∀ {vs:List Value} {ns:List Int},IntsAre vs ns->Vals (ns.map V.int) vs
  | _,_,.nil=>.nil
  | _,_,.cons n t h=>.cons ⟨t,rfl⟩ (iC h)
noncomputable def sB (H:Hp):Prop:=∀ b,H b=none\/∃ o xs,H b=some (.frz o (.lst xs))
set_option tactic.hygienic true in
theorem pF {P:Program} {w:World} {K:FG} {mg mb:Str->Option Value} {CX:CXT} {k:Nat} {fa a:Addr} {fd:FuncData} {x:Str} {sp:Sp} {s₁:Shared} {vs:List Value} {ns:List Int}
    (KX:K.In s₁.heap) (hns:s₁.heap.Ns mainGlobals mg) (hb:s₁.heap.Ns builtinsNs mb) (hbb:∀ x:Str,x ≠ "__name__"->mb x=bootBuiltins x) (hlim:s₁.heap.NoLimit) (hg:s₁.gens = #[])
    (ha:s₁.heap.get? a=some { cls:=.type "list",data:=.seq vs.toArray }) (hi:IntsAre vs ns) (hl:ns.length<=sizeLine) (hr:Room k callerA)
    (F:∀ base:Heap,K.In base->base.Ns mainGlobals mg->FnOk P w K mg base CX k fa fd [x] sp) (hbind:∀ (s:Shared) (u:Value),BindsTo s fd ⟨[u],[]⟩ [(x,u)])
    (hsp:∀ H:Hp,sB H->SqL K H a (ns.map V.int)->sp [.ref a] H (fun v _=>v=.bl true) fun _ _ _=>False)
    (hCX:∀ H e s',CX [] H s₁ (fun _ _ _=>False) e s'->False) :
    codeAny (model P w) callerA (.call (.ref fa) ⟨[.ref a],[]⟩) (fun r s'=>r=.ok (.ret (.bool true))/\OldK s₁.heap s'.heap/\s'.os=s₁.os/\AllBare s'.gens) s₁:=by
  have rv:=iC hi
  have lenV:=hi.length
  have core:∀ H:Hp,sB H->SqL K H a (ns.map V.int)->HOk P w H s₁.heap->(∀ b,H b ≠ none->b=a)->(H a ≠ none->K.lookup a=none) ->
      codeAny (model P w) callerA (.call (.ref fa) ⟨[.ref a],[]⟩) (fun r s'=>r=.ok (.ret (.bool true))/\OldK s₁.heap s'.heap/\s'.os=s₁.os/\AllBare s'.gens) s₁:=by
    intro H hO hS hok hA hK
    have base_of:∀ {b:Addr} {o:Obj},s₁.heap.get? b=some o->H b=none->(ju s₁.heap H).get? b=some o:=fun e n=>pS e n
    have noA:∀ {b:Addr} {o:Obj} {es:Array DictEntry} {ep:Nat},s₁.heap.get? b=some o->o.data=.dict es ep->H b=none:=fun {b o es ep} e d=>by
      cases q:H b with
      | none=>rfl
      | some u =>
        have e':b=a:=hA b (by rw [q];simp)
        subst e'
        rw [ha] at e;cases e
        have d':Data.seq vs.toArray _=Data.dict es ep:=d
        cases d'
    have nsK:∀ {b:Addr} {m:Str->Option Value},s₁.heap.Ns b m->(ju s₁.heap H).Ns b m:=fun {b m} ⟨o,es,ep,e,d,r⟩=>⟨o,es,ep,base_of e (noA e d),d,r⟩
    have hKb:K.In (ju s₁.heap H):=fun b o e=>base_of (KX b o e) (by
      cases q:H b with
      | none=>rfl
      | some u =>
        have e':b=a:=hA b (by rw [q];simp)
        subst e'
        rw [hK (by rw [q];simp)] at e;cases e)
    have hM:Mod K mg (ju s₁.heap H):=⟨hKb,nsK hns,⟨mb,nsK hb,hbb⟩,let ⟨mc,h1,h2⟩:=hlim;⟨mc,nsK h1,h2⟩⟩
    have e0:Env0 P w K mg (ju s₁.heap H) callerA [] s₁ H:=⟨rfl,hM,fun b o e=>rG e,Nat.le_of_eq (nG _ _),trivial,fun b hb=>absurd (show b ∈ ([]:List Addr) from hb) (by simp),hok,.of_eq hg⟩
    refine codeAny_mono ((F _ hKb (nsK hns)).run callerA [] s₁ H ⟨[.ref a],[]⟩ [.ref a] [.ref a] _ _ hr e0 (hbind s₁ (.ref a)) (.cons rfl .nil) (hsp H hO hS)) fun r s' h=>?_
    cases r with
    | error e=>exact (hCX H e s' h).elim
    | ok fl =>
      cases fl with
      | next=>exact False.elim h
      | brk=>exact False.elim h
      | cont=>exact False.elim h
      | ret u =>
        obtain ⟨v,H',os,bare,un,hok',r',q⟩:=h
        have q':v=.bl true:=q
        subst q'
        obtain rfl:u=Value.bool true:=r'
        refine ⟨rfl,OldK.of_keep fun b o e=>?_,os,bare⟩
        cases q:H b with
        | none=>exact un.keep b o e q (by intro z;exact absurd (show b ∈ ([]:List Addr) from z) (by simp)) (by simp)
        | some u =>
          rcases hO b with z | ⟨ob,xs,z⟩
          · rw [q] at z;cases z
          · have z2:=un.frzs b ob _ z
            obtain ⟨e1,_⟩:=hok b _ z
            obtain ⟨e2,_⟩:=hok' b _ z2
            rw [e] at e1;cases e1
            exact e2
  cases hk:K.lookup a with
  | some o =>
    have e:=KX a o hk
    rw [ha] at e
    cases e
    refine core (fun _=>none) (fun _=>.inl rfl) (.inr ⟨_,vs.toArray,_,hk,rfl,rfl,rfl,by rw [vL,lenV];exact hl,by simpa using rv⟩) (fun b u z=>by have z':(none:Option HO)=some u:=z;cases z') (fun b z=>absurd rfl z) fun z=>absurd rfl z
  | none =>
    refine core (fun b=>if b=a then some (.frz { cls:=.type "list",data:=.seq vs.toArray } (.lst (ns.map V.int))) else none) (fun b=>?_) (.inl (.inr ⟨{ cls:=.type "list",data:=.seq vs.toArray },if_pos rfl⟩)) (fun b u z=>?_) (fun b z=>?_) fun _=>hk
    · by_cases hb:b=a
      · exact .inr ⟨_,_,if_pos hb⟩
      · exact .inl (if_neg hb)
    · by_cases hb:b=a
      · have z':=(if_pos hb).symm.trans z
        cases z'
        subst hb
        exact ⟨ha,by rw [vC];exact hl,vs,_,rv,ha⟩
      · have z':=(if_neg hb).symm.trans z
        cases z'
    · by_cases hb:b=a
      · exact hb
      · exact absurd (if_neg hb) z
end L2
namespace L2
open PySem PySem.Spec PyProof.Rows
end L2
namespace L2
open PySem PySem.Spec PyProof.Rows
noncomputable abbrev CX0:CXT:=fun _ _ _ _ _ _=>False
noncomputable abbrev E0:XK:=fun _ _ _=>False
theorem pass0 {X:Cx}:lN CX0 X E0:=fun _ _ _ _ _ _ _ h=>h.elim
structure Fun (K:FG) (x qual:Str) (st:Stmt) (f:Addr) (fd:FuncData):Prop where
  ex:∃ (oc:Value) (od:Option Addr) (kV doc pm:Value) (an:Option Addr) (cdv ct:Value) (osl:Array (Option Value)),
    fd=PySem.W.fnOf x qual (aP st) (aG st) (ag st) .none kV doc pm an cdv ct/\K.lookup f=some ⟨oc,od,.func fd,osl⟩/\PySem.W.codeIn K cdv qual=true
  kp:PySem.W.keepIn K (.ref f)=true
section
variable {P:Program} {w:World} {K:FG} {mg:Str->Option Value} {base:Heap}
theorem Fun.ok {x qual:Str} {st:Stmt} {f:Addr} {fd:FuncData} {N ps:List Str} {k:Nat} {sp:Sp} (F:Fun K x qual st f fd) (S:FnScope N ps (ag st)) (len:∀ vs H Q E,sp vs H Q E->vs.length=ps.length)
    (hbody:∀ (cdv:Value) (A:Around) (outer:List Env) (s:Shared) (H:Hp) (vs:List V) (Q:VK) (E:XK),Room k (A.deeper (envOfC qual (ag st) s.heap.objs.size f cdv))->sp vs H Q E ->
      ∃ t,PSs (kK CX0 P w K mg base N qual (ag st) f cdv A outer s H E).nox (aG st) t/\t { nx:=fun _ H'=>Q .non H',rt:=Q } (fW N vs) H):FnOk P w K mg base CX0 (k+1) f fd ps sp:=by
  obtain ⟨oc,od,kV,doc,pm,an,cdv,ct,osl,rfl,lk,hcd⟩:=F.ex
  refine fn_of lk hcd S len fun A outer s H vs Q E hr hsp=>?_
  obtain ⟨t,h,q⟩:=hbody cdv A outer s H vs Q E hr hsp
  exact ⟨t,h.nox,q⟩
theorem Fun.binds {x qual:Str} {st:Stmt} {f:Addr} {fd:FuncData} {ps:List Str} (F:Fun K x qual st f fd)
    (h:∀ (kV doc pm:Value) (an:Option Addr) (cdv ct:Value) (us:List Value),us.length=ps.length->bindArgs (PySem.W.fnOf x qual (aP st) (aG st) (ag st) .none kV doc pm an cdv ct) ⟨us,[]⟩=pure (ps.zip us)):Binds K fd ps []:=by
  obtain ⟨oc,od,kV,doc,pm,an,cdv,ct,osl,rfl,lk,hcd⟩:=F.ex
  exact .all (h kV doc pm an cdv ct)
theorem uV {x qual:Str} {st:Stmt} {f:Addr} {oc:Value} {od an:Option Addr} {osl:Array (Option Value)} {kV doc pm cdv ct:Value} (l:K.lookup f=some ⟨oc,od,.func (PySem.W.fnOf x qual (aP st) (aG st) (ag st) .none kV doc pm an cdv ct),osl⟩)
    (c:PySem.W.codeIn K cdv qual=true) (k:PySem.W.keepIn K (.ref f)=true):Fun K x qual st f (PySem.W.fnOf x qual (aP st) (aG st) (ag st) .none kV doc pm an cdv ct):=⟨⟨oc,od,kV,doc,pm,an,cdv,ct,osl,rfl,l,c⟩,k⟩
end
theorem hu_of {A:Around} {k:Nat} (hr:Room k A):A.units+1 < cLine:=Nat.lt_of_le_of_lt (Nat.add_le_add_left (by decide:1<=64) _) hr.units
noncomputable def Same (H H':Hp):Prop:=∀ b o,H b=some o->H' b=some o
theorem Same.refl (H:Hp):Same H H:=fun _ _ h=>h
theorem Same.trans {H H1 H2:Hp} (a:Same H H1) (b:Same H1 H2):Same H H2:=fun c o h=>b c o (a c o h)
theorem Same.free {H H':Hp} (e:Same H H') {l:Addr} (h:H' l=Option.none):H l=Option.none:=by
  cases q:H l with
  | none=>rfl
  | some o =>
    rw [e l o q] at h
    cases h
end L2
end
section
namespace L2
open PySem PySem.Spec PyProof.Rows
section
variable {prog:Program} {w:World} {A:Around} {E:Value->Shared->Prop} {s:Shared}
theorem jR {d:Addr} {k v:Value} {Q:Unit->Shared->Prop} (ty:s.TypeIs (.ref d) "dict") (h:wpAny (model prog w) A.in1 (dictSet d k v) Q E s) :
    wpAny (model prog w) A (setItem (.ref d) k v) Q E s:=by
  unfold setItem
  refine vn (vj (wpAny_sequenceKey ty (by decide) (vj (wpAny_callSpecial?_slot ty slot_dict_setitem (wpAny_call_entry slot_dict_setitem ty entry_dict_setitem ?_ (args_dict_setitem _ _ _))))))
  refine vj (wpAny_notOrdered_dict ty ?_)
  refine (?_:wpAny _ _ (dictSet d k v >>= _) _ _ s)
  exact vj (wpAny_mono h (fun _ _ z=>vm ⟨_,rfl,vm z⟩) fun _ _ z=>z)
theorem iI {d:Addr} {key v:Value} {hs:Int} {o:Obj} {es:Array DictEntry} {ep:Nat} {F:Option Nat->Prop} {Q:Unit->Shared->Prop} (ho:s.heap.get? d=some o) (hc:o.ExactDict) (hd:o.data=.dict es ep) (hz:es.size<=sizeLine)
    (find:wpAny (model prog w) A (dictFind d key hs) (fun r s'=>s'=s/\F r) E s)
    (old:∀ i h' o',F (some i)->h'.get? d=some o'->o'.ExactDict->o'.data=.dict (es.modify i fun e=>{ e with val:=v }) ep->Heap.SameBut d s.heap h'->Q () { s with heap:=h' })
    (new:∀ h' o',F none->h'.get? d=some o'->o'.ExactDict->o'.data=.dict (es.push ⟨hs,key,v⟩) (ep+1)->Heap.SameBut d s.heap h'->Q () { s with heap:=h' }) :
    wpAny (model prog w) A (dictSetHashed d key hs v) Q E s:=by
  unfold dictSetHashed
  refine vn (vj (wpAny_mono find ?_ fun _ _ z=>z))
  rintro (_ | i) _ ⟨rfl,f⟩
  · exact vj (wpAny_rule (wpAny_updateDictKeys (hz:=hz) ho hd (new _ _ f (vR _ ho (Obj.isFreed_of_dict (Obj.data_mapDictKeys hd _))) (hc.mapDictKeys _) (Obj.data_mapDictKeys hd _) (Heap.SameBut.update ..))))
  · exact vj (wpAny_rule (vj (wpAny_updateDict ho hd (wpAny_point (old i _ _ f (vR _ ho (Obj.isFreed_of_dict (Obj.data_mapDict hd _))) (hc.mapDict _) (Obj.data_mapDict hd _) (Heap.SameBut.update ..))))))
end
section
variable {prog:Program} {w:World} {K:Type} [DecidableEq K] {A:Around} {E:Value->Shared->Prop} {s:Shared} {d:Addr} {k:K}
section
variable {knd:HeapKind prog w K}
noncomputable def DictOfHE (knd:HeapKind prog w K) (h:Heap) (d:Addr) (xs:List (K × Addr × Value)):Prop :=
  ∃ o es ep,h.get? d=some o/\o.ExactDict/\o.data=.dict es ep/\es.toList=xs.map (entryOfKey knd)/\(∀ x ∈ xs,knd.is h x.1 x.2.1)/\(xs.map (·.1)).Nodup/\ep=es.size
theorem DictOfHE.of {h:Heap} {d:Addr} {xs:List (K × Addr × Value)} (x:DictOfHE knd h d xs):h.DictOfH knd d xs:=let ⟨o,es,ep,h1,h2,h3,h4,h5,h6,_⟩:=x;⟨o,es,ep,h1,h2,h3,h4,h5,h6⟩
theorem m9 {xs:List (K × Addr × Value)} {y:Addr × Value} (hn:(xs.map (·.1)).Nodup) (h:k ∉ xs.map (·.1)):((xs ++ [(k,y)]).map (·.1)).Nodup:=by
  rw [List.map_append]
  exact List.nodup_append.mpr ⟨hn,List.nodup_cons.mpr ⟨List.not_mem_nil,List.nodup_nil⟩,fun x hx y hy e=>h (by have:=vX.mp hy;subst this;exact e ▸ hx)⟩
theorem eM {a:Addr} {xs:List (K × Addr × Value)} {v:Value} {Q:Unit->Shared->Prop} (hu:knd.room A) (hkey:knd.is s.heap k a) (hm:DictOfHE knd s.heap d xs)
    (hQ:∀ h',DictOfHE knd h' d (storedH xs k a v)->Heap.SameBut d s.heap h'->Q () { s with heap:=h',toks:=s.toks+knd.draws k })
    (hsz:xs.length<=sizeLine:=by size_fits):wpAny (model prog w) A (dictSet d (.ref a) v) Q E s:=by
  obtain ⟨o,es,ep,ho,hc,hd,he,his,hn,rfl⟩:=hm
  unfold dictSet
  refine vn (vj (knd.pyHash hu hkey ?_))
  refine iI (s:={ s with toks:=s.toks+knd.draws k }) (F:=fun | none=>∀ (j:Nat) (p:Addr × Value),xs[j]? ≠ some (k,p) | some j=>∃ p,xs[j]?=some (k,p)) ho hc hd (size_of_entries he ▸ hsz)
    (wpAny_dictFind_heap (s:={ s with toks:=s.toks+knd.draws k }) hu hkey ho hd he his hn (fun z=>⟨rfl,z⟩) fun j p z=>⟨rfl,p,z⟩) ?_ ?_
  · rintro i h' o' ⟨p,f⟩ g1 g2 g3 g4
    have at':=storedH_old (atKey_of_get hn f) a v
    refine hQ h' ⟨o',_,_,g1,g2,g3,?_,?_,?_,?_⟩ g4 <;> try rw [at']
    · rw [Array.toList_modify,he]
      exact modify_map_putAt (entryOfKey knd) _ k v (fun _ _=>rfl) hn f
    · intro x hx
      obtain ⟨y,hy,rfl⟩:=vG.mp hx
      have:=knd.keeps (his y hy) ho hd g4
      by_cases e:y.1=k <;> simpa [putAt,e] using this
    · exact (keys_map_putAt xs k v).symm ▸ hn
    · exact (Array.size_modify).symm
  · intro h' o' f g1 g2 g3 g4
    have at':=storedH_new (atKey_none_of_get f) a v
    refine hQ h' ⟨o',_,_,g1,g2,g3,?_,?_,?_,?_⟩ g4 <;> try rw [at']
    · simp [he,entryOfKey]
    · intro x hx
      rcases vA.mp hx with hx | hx
      · exact knd.keeps (his x hx) ho hd g4
      · cases vX.mp hx;exact knd.keeps hkey ho hd g4
    · exact m9 hn (not_mem_keys_of_get f)
    · simp
theorem il {a:Addr} {xs:List (K × Addr × Value)} {v:Value} {Q:Unit->Shared->Prop} (hu:knd.room A.in1) (hkey:knd.is s.heap k a) (hm:DictOfHE knd s.heap d xs)
    (hQ:∀ h',DictOfHE knd h' d (storedH xs k a v)->Heap.SameBut d s.heap h'->Q () { s with heap:=h',toks:=s.toks+knd.draws k })
    (hsz:xs.length<=sizeLine:=by size_fits):wpAny (model prog w) A (setItem (.ref d) (.ref a) v) Q E s :=
  jR hm.of.typeIs (eM (hsz:=hsz) hu hkey hm hQ)
end
section
variable {knd:KeyKind prog w K} {key:Value}
theorem hX {kvs:List (K × Value)} {v:Value} {Q:Unit->Shared->Prop} (hkey:knd.is k key=true) (hm:DictOfE knd s.heap d kvs)
    (hQ:∀ h',DictOfE knd h' d (stored kvs k v)->Heap.SameBut d s.heap h'->Q () { s with heap:=h',toks:=s.toks+1 })
    (hsz:kvs.length<=sizeLine:=by size_fits):wpAny (model prog w) A (dictSet d key v) Q E s:=by
  obtain ⟨o,⟨es⟩,ep,ho,hc,hd,hk,hp,hn,rfl⟩:=hm
  have same:=hp.findIdx k
  have hz:(⟨es⟩:Array DictEntry).size<=sizeLine:=by have:=hp.length;simp at this ⊢;omega
  unfold dictSet
  refine vn (vj (knd.pyHash hkey ?_))
  refine iI (s:={ s with toks:=s.toks+1 }) (F:=fun r=>es.findIdx? (fun e=>knd.is k e.key)=r) ho hc hd hz
    (wpAny_dictFind_of (s:={ s with toks:=s.toks+1 }) hkey ho hd hk ⟨rfl,by simp⟩) ?_ ?_
  · intro i h' o' f g1 g2 g3 g4
    have at':stored kvs k v=_:=if_pos (any_of_findIdx_some (same.symm.trans f))
    refine hQ h' ⟨o',_,_,g1,g2,g3,hk.modify _ _,?_,?_,(Array.size_modify).symm⟩ g4 <;> rw [at']
    · simpa using hp.modify hn f v
    · exact (keys_map_store kvs k v).symm ▸ hn
  · intro h' o' f g1 g2 g3 g4
    have no:=not_mem_of_findIdx_none (same.symm.trans f)
    have at':stored kvs k v=_:=if_neg fun z=>by
      obtain ⟨x,hx,e⟩:=List.any_eq_true.mp z
      exact no (vG.mpr ⟨x,hx,of_decide_eq_true e⟩)
    refine hQ h' ⟨o',_,_,g1,g2,g3,hk.push hkey _,?_,?_,by simp⟩ g4 <;> rw [at']
    · simpa using hp.append hkey (knd.hash k) v
    · rw [List.map_append]
      exact List.nodup_append.mpr ⟨hn,List.nodup_cons.mpr ⟨List.not_mem_nil,List.nodup_nil⟩,fun x hx y hy e=>no (by cases vX.mp hy;have e':x=k:=e;exact e' ▸ hx)⟩
theorem gF {kvs:List (K × Value)} {v:Value} {Q:Unit->Shared->Prop} (hkey:knd.is k key=true) (hm:DictOfE knd s.heap d kvs)
    (hQ:∀ h',DictOfE knd h' d (stored kvs k v)->Heap.SameBut d s.heap h'->Q () { s with heap:=h',toks:=s.toks+1 })
    (hsz:kvs.length<=sizeLine:=by size_fits):wpAny (model prog w) A (setItem (.ref d) key v) Q E s :=
  jR hm.of.typeIs (hX (hsz:=hsz) hkey hm hQ)
end
end
section
variable {κ:Type} [DecidableEq κ]
noncomputable def gh (kvs:List (κ × V)) (k:κ):Option V:=(kvs.find? fun kv=>decide (kv.1=k)).map (·.2)
noncomputable def dq (kvs:List (κ × V)) (k:κ) (v:V):List (κ × V) :=
  if (kvs.any fun kv=>decide (kv.1=k))=true then kvs.map (fun kv=>if kv.1=k then (kv.1,v) else kv) else kvs ++ [(k,v)]
noncomputable def sV (kvs:List (κ × V)) (k:κ):List (κ × V):=kvs.filter fun kv=>decide (kv.1 ≠ k)
theorem fg {p:κ × V} {r:List (κ × V)} {k:κ} (e:p.1=k):gh (p :: r) k=some p.2:=by simp [gh,List.find?_cons,e]
theorem fh {p:κ × V} {r:List (κ × V)} {k:κ} (e:¬ p.1=k):gh (p :: r) k=gh r k:=by simp [gh,List.find?_cons,e]
theorem jJ (k:κ):∀ kvs:List (κ × V),(kvs.any fun kv=>decide (kv.1=k))=(gh kvs k).isSome
  | []=>rfl
  | p :: r=>by
    rw [List.any_cons]
    by_cases e:p.1=k
    · simp only [fg e,vN e,Bool.true_or,Option.isSome_some]
    · rw [fh e,vO e,Bool.false_or];exact jJ k r
theorem gc (kvs:List (κ × V)) (k:κ) (v:V):(dq kvs k v).length<=kvs.length+1:=by
  unfold dq
  split
  · rw [vC];omega
  · rw [vS,vT,List.length_nil];omega
theorem RelO.isSome_eq {o:Option V} {u:Option Value} (r:RelO o u):o.isSome=u.isSome:=by
  cases o with
  | none=>cases u with
    | none=>rfl
    | some _=>exact (show False from r).elim
  | some _=>cases u with
    | none=>exact (show False from r).elim
    | some _=>rfl
theorem RelO.getD {o:Option V} {u:Option Value} {d:V} {d':Value} (r:RelO o u) (rd:RelV d d'):RelV (o.getD d) (u.getD d'):=by
  cases o with
  | none=>cases u with
    | none=>exact rd
    | some _=>exact (show False from r).elim
  | some _=>cases u with
    | none=>exact (show False from r).elim
    | some _=>exact r
theorem KV.val {kvs:List (κ × V)} {vs:List (κ × Value)} (r:KV kvs vs) (k:κ):RelO (gh kvs k) (valueAt vs k):=by
  unfold KV at r
  induction r with
  | nil=>exact True.intro
  | @cons p q ps qs h t ih =>
    obtain ⟨h1,h2⟩:=h
    by_cases e:p.1=k
    · have e':q.1=k:=h1.symm.trans e
      have b:valueAt (q :: qs) k=some q.2:=by simp [valueAt,List.find?_cons,e']
      rw [fg e,b];exact h2
    · have e':¬ q.1=k:=fun z=>e (h1.trans z)
      have b:valueAt (q :: qs) k=valueAt qs k:=by simp [valueAt,List.find?_cons,e']
      rw [fh e,b];exact ih
theorem KV.any {kvs:List (κ × V)} {vs:List (κ × Value)} (r:KV kvs vs) (k:κ):(kvs.any fun kv=>decide (kv.1=k))=vs.any fun kv=>decide (kv.1=k):=by
  unfold KV at r
  induction r with
  | nil=>rfl
  | cons h t ih=>rw [List.any_cons,List.any_cons,ih,h.1]
theorem KV.repl {kvs:List (κ × V)} {vs:List (κ × Value)} (r:KV kvs vs) (k:κ) {y:V} {u:Value} (ry:RelV y u) :
    KV (kvs.map fun kv=>if kv.1=k then (kv.1,y) else kv) (vs.map fun kv=>if kv.1=k then (kv.1,u) else kv):=by
  unfold KV at r ⊢
  induction r with
  | nil=>exact .nil
  | @cons p q ps qs h t ih =>
    rw [vM,vM]
    refine .cons ?_ ih
    obtain ⟨h1,h2⟩:=h
    by_cases e:p.1=k
    · rw [if_pos e,if_pos (h1.symm.trans e)];exact ⟨h1,ry⟩
    · rw [if_neg e,if_neg (fun z=>e (h1.trans z))];exact ⟨h1,h2⟩
theorem KV.put {kvs:List (κ × V)} {vs:List (κ × Value)} (r:KV kvs vs) (k:κ) {y:V} {u:Value} (ry:RelV y u):KV (dq kvs k y) (stored vs k u):=by
  unfold dq stored
  rw [r.any k]
  by_cases e:(vs.any fun kv=>decide (kv.1=k))=true
  · rw [if_pos e,if_pos e];exact r.repl k ry
  · rw [if_neg e,if_neg e];exact Paired.snoc r ⟨rfl,ry⟩
theorem KV.drop {kvs:List (κ × V)} {vs:List (κ × Value)} (r:KV kvs vs) (k:κ):KV (sV kvs k) (without vs k):=by
  unfold KV at r ⊢
  unfold sV without
  induction r with
  | nil=>exact .nil
  | @cons p q ps qs h t ih =>
    obtain ⟨h1,h2⟩:=h
    rw [List.filter_cons,List.filter_cons]
    by_cases e:p.1=k
    · have a:¬ decide (p.1 ≠ k)=true:=by simp [e]
      have b:¬ decide (q.1 ≠ k)=true:=by simp [h1.symm.trans e]
      rw [if_neg a,if_neg b];exact ih
    · have e':¬ q.1=k:=fun z=>e (h1.trans z)
      have a:decide (p.1 ≠ k)=true:=by simp [e]
      have b:decide (q.1 ≠ k)=true:=by simp [e']
      rw [if_pos a,if_pos b];exact .cons ⟨h1,h2⟩ ih
theorem KV.length {kvs:List (κ × V)} {vs:List (κ × Value)} (r:KV kvs vs):kvs.length=vs.length:=Paired.length r
end
theorem pK {P:Program} {w:World} {k:Key} {u:Value} (r:RelV (kV k) u):(aW P w).is k u=true:=by
  cases k with
  | inl i=>obtain ⟨t,e⟩:=(show ∃ t,u=Value.int i t from r);subst e;exact j9 P w i t
  | inr x=>obtain ⟨t,e⟩:=(show ∃ t,u=Value.str x t from r);subst e;exact j8 P w x t
theorem iW {P:Program} {w:World}:∀ {ks:List Key} {us:List Value},Vals (ks.map kV) us->ItemsAre (aW P w) ks us
  | [],_,r=>by rw [List.map_nil] at r;cases r;exact .nil
  | k :: ks,_,r=>by
    rw [vM] at r
    cases r with
    | cons h t=>exact .cons (pK h) (iW t)
noncomputable abbrev KT (H:Hp):List (List Key × V)->List (List Key × Addr × Value)->Prop:=Paired fun p q=>p.1=q.1/\H q.2.1=some (.tup (p.1.map kV))/\RelV p.2 q.2.2
theorem KT.val {H:Hp} {kvs:List (List Key × V)} {xs:List (List Key × Addr × Value)} (r:KT H kvs xs) (k:List Key):RelO (gh kvs k) ((atKey xs k).map (·.2)):=by
  induction r with
  | nil=>exact True.intro
  | @cons p q ps qs h t ih =>
    obtain ⟨h1,_,h2⟩:=h
    by_cases e:p.1=k
    · have e':q.1=k:=h1.symm.trans e
      have b:atKey (q :: qs) k=some q.2:=by simp [atKey,List.find?_cons,e']
      rw [fg e,b];exact h2
    · have e':¬ q.1=k:=fun z=>e (h1.trans z)
      have b:atKey (q :: qs) k=atKey qs k:=by simp [atKey,List.find?_cons,e']
      rw [fh e,b];exact ih
theorem KT.repl {H:Hp} {kvs:List (List Key × V)} {xs:List (List Key × Addr × Value)} (r:KT H kvs xs) (k:List Key) {y:V} {u:Value} (ry:RelV y u) :
    KT H (kvs.map fun kv=>if kv.1=k then (kv.1,y) else kv) (xs.map (putAt k u)):=by
  induction r with
  | nil=>exact .nil
  | @cons p q ps qs h t ih =>
    rw [vM,vM]
    refine .cons ?_ ih
    obtain ⟨h1,h2,h3⟩:=h
    unfold putAt
    by_cases e:p.1=k
    · rw [if_pos e,if_pos (h1.symm.trans e)];exact ⟨h1,h2,ry⟩
    · rw [if_neg e,if_neg (fun z=>e (h1.trans z))];exact ⟨h1,h2,h3⟩
theorem KT.put {H:Hp} {kvs:List (List Key × V)} {xs:List (List Key × Addr × Value)} (r:KT H kvs xs) (k:List Key) {b:Addr} {y:V} {u:Value} (hb:H b=some (.tup (k.map kV))) (ry:RelV y u) :
    KT H (dq kvs k y) (storedH xs k b u):=by
  have e:(kvs.any fun kv=>decide (kv.1=k))=(atKey xs k).isSome:=by
    rw [jJ,(r.val k).isSome_eq,Option.isSome_map]
  unfold dq storedH
  rw [e]
  by_cases q:(atKey xs k).isSome=true
  · rw [if_pos q,if_pos q];exact r.repl k ry
  · rw [if_neg q,if_neg q];exact Paired.snoc r ⟨rfl,hb,ry⟩
theorem KT.keeps {H H':Hp} {kvs:List (List Key × V)} {xs:List (List Key × Addr × Value)} (r:KT H kvs xs) (ht:∀ b ys,H b=some (.tup ys)->H' b=some (.tup ys)):KT H' kvs xs :=
  Paired.mapP r fun _ _ z=>⟨z.1,ht _ _ z.2.1,z.2.2⟩
section
variable {P:Program} {w:World} {H:Hp} {h:Heap} {a:Addr}
theorem sL {u:HO} (ok:HOk P w H h) (e:Rd H a u):ObjOk P w H h a u:=e.ok ok
theorem p7 {kvs:List (Key × V)} (ok:HOk P w H h) (e:Rd H a (.dK kvs)):kvs.length<=sizeLine/\(a == sysModules)=false/\∃ vs,KV kvs vs/\DictOfE (aW P w) h a vs :=
  show ObjOk P w H h a (.dK kvs) from sL ok e
theorem sW {kvs:List (Key × V)} (ok:HOk P w H h) (e:Rd H a (.dK kvs)):kvs.length<=sizeLine/\(a == sysModules)=false/\∃ vs,KV kvs vs/\h.DictOf (aW P w) a vs:=let ⟨z,y,vs,r,d⟩:=p7 ok e;⟨z,y,vs,r,d.of⟩
theorem jp {ks:List Key} (ok:HOk P w H h) (e:H a=some (.tup (ks.map kV))):(tupleKind (aW P w)).is h ks a:=by
  obtain ⟨_,its,r,o,h1,h2,n,h3⟩:=(show ObjOk P w H h a (.tup (ks.map kV)) from ok a _ e)
  exact ⟨o,its.toArray,n,h1,h2,congrArg Prod.fst h3,by simpa using iW r⟩
theorem p5 {kvs:List (List Key × V)} (ok:HOk P w H h) (e:Rd H a (.dT kvs)):kvs.length<=sizeLine/\(a == sysModules)=false /\
    ∃ xs,KT H kvs xs/\DictOfHE (tupleKind (aW P w)) h a xs:=by
  obtain ⟨z,y,xs,r,o,es,ep,h1,h2,h3,h4,h5⟩:=(show ObjOk P w H h a (.dT kvs) from sL ok e)
  refine ⟨z,y,xs,r,o,es,ep,h1,h2,h3,h4,fun x hx=>?_,h5⟩
  have all:∀ {l:List (List Key × V)} {m:List (List Key × Addr × Value)},KT H l m->∀ x ∈ m,(tupleKind (aW P w)).is h x.1 x.2.1:=by
    intro l m q
    induction q with
    | nil=>intro x hx;exact nomatch hx
    | @cons p q ps qs hq t ih =>
      intro x hx
      rcases vx.mp hx with e | hx
      · subst e
        exact jp ok (by rw [<- hq.1];exact hq.2.1)
      · exact ih x hx
  exact all r x hx
theorem sU {kvs:List (List Key × V)} (ok:HOk P w H h) (e:Rd H a (.dT kvs)):kvs.length<=sizeLine/\(a == sysModules)=false /\
    ∃ xs,KT H kvs xs/\h.DictOfH (tupleKind (aW P w)) a xs:=let ⟨z,y,xs,r,d⟩:=p5 ok e;⟨z,y,xs,r,d.of⟩
end
noncomputable def DGet (H:Hp) (a:Addr) (y:V) (r:Option V):Prop :=
  (∃ kvs k,Rd H a (.dK kvs)/\y=kV k/\r=gh kvs k)\/∃ kvs k b,Rd H a (.dT kvs)/\y=.ref b/\H b=some (.tup (k.map kV))/\r=gh kvs k
noncomputable def DPut (H:Hp) (a:Addr) (y v:V) (H':Hp):Prop :=
  (∃ kvs k,H a=some (.dK kvs)/\y=kV k/\kvs.length < sizeLine/\H'=upd H a (.dK (dq kvs k v))) \/
  ∃ kvs k b,H a=some (.dT kvs)/\y=.ref b/\H b=some (.tup (k.map kV))/\kvs.length < sizeLine/\H'=upd H a (.dT (dq kvs k v))
theorem DGet.t {H:Hp} {a b:Addr} {kvs:List (List Key × V)} {k:List Key} (e:H a=some (.dT kvs)) (eb:H b=some (.tup (k.map kV))):DGet H a (.ref b) (gh kvs k):=.inr ⟨kvs,k,b,.inl e,rfl,eb,rfl⟩
theorem DPut.t {H:Hp} {a b:Addr} {kvs:List (List Key × V)} {k:List Key} {v:V} (e:H a=some (.dT kvs)) (eb:H b=some (.tup (k.map kV))) (hl:kvs.length < sizeLine) :
    DPut H a (.ref b) v (upd H a (.dT (dq kvs k v))):=.inr ⟨kvs,k,b,e,rfl,eb,hl,rfl⟩
section
variable {X:Cx} {pins:List (Addr × Obj)} {σ:St} {H:Hp} {s:Shared} {a:Addr} {y v:V} {u r:Value} {o:Option V} {A:Around} {E:Value->Shared->Prop}
theorem Inv.big (I:Inv X pins σ H s):sysModules < s.heap.objs.size:=by
  have h:mainGlobals < s.heap.objs.size:=(I.mod.glob.keeps I.bk).lt
  exact Nat.lt_trans (by decide) h
theorem nK {Q:Value->Shared->Prop} (hu:A.units+1 < cLine) (I:Inv X pins σ H s) (g:DGet H a y (some v)) (ry:RelV y u) (h:∀ w' s',Inv X pins σ H s'->RelV v w'->Q w' s') :
    wpAny (model X.prog X.w) A (getItem (.ref a) u) Q E s:=by
  rcases g with ⟨kvs,k,e,ey,l⟩ | ⟨kvs,k,b,e,ey,eb,l⟩
  · subst ey
    obtain ⟨z,hd,vs,rel,dd⟩:=sW I.hok e
    obtain ⟨w',hw,rw'⟩:=RelO.some_of (v:=v) (o:=valueAt vs k) (by rw [l];exact rel.val k)
    exact wpAny_getItem_of (pK ry) dd.mapOf hw (h w' _ (I.tok _) rw')
  · subst ey
    cases (show u=Value.ref b from ry)
    obtain ⟨z,hd,xs,rel,dd⟩:=sU I.hok e
    obtain ⟨w',hw,rw'⟩:=RelO.some_of (v:=v) (o:=(atKey xs k).map (·.2)) (by rw [l];exact rel.val k)
    obtain ⟨p,hp,hp2⟩:=vt.mp hw
    refine wpAny_getItem_heap (tupleKind_room_in1 hu) (jp I.hok eb) dd hp ?_
    rw [hp2]
    exact h w' _ (I.tok _) rw'
theorem mG {h':Heap} {t':Nat} {ob:HO} (I:Inv X pins σ H s) (mu:Mut (H a)) (hs:Heap.SameBut a s.heap h') (he:∃ q,h'.get? a=some q) (new:ObjOk X.prog X.w (upd H a ob) h' a ob) :
    Inv X pins σ (upd H a ob) { s with heap:=h',toks:=t' } :=
  I.write (x:=a) (e:=a) mu (.inl rfl) (fun b q hb z=>(hs.2 b hb).trans z) he new
theorem uY {P:Program} {w:World} {H':Hp} {h':Heap} {kvs:List (Key × V)} {vs:List (Key × Value)} (z:kvs.length<=sizeLine) (hd:(a == sysModules)=false) (rel:KV kvs vs) (dd:DictOfE (aW P w) h' a vs) :
    ObjOk P w H' h' a (.dK kvs):=⟨z,hd,vs,rel,dd⟩
theorem nJ {H':Hp} {Q:Unit->Shared->Prop} (hu:A.units+1 < cLine) (I:Inv X pins σ H s) (g:DPut H a y v H') (ry:RelV y u) (rv:RelV v r) (h:∀ s',Inv X pins σ H' s'->Q () s') :
    wpAny (model X.prog X.w) A (setItem (.ref a) u r) Q E s:=by
  rcases g with ⟨kvs,k,e,ey,l,eH⟩ | ⟨kvs,k,b,e,ey,eb,l,eH⟩
  · subst ey eH
    obtain ⟨z,hd,vs,rel,dd⟩:=p7 I.hok (.inl e)
    have hz:vs.length<=sizeLine:=by rw [<- rel.length];exact z
    have hl:(dq kvs k v).length<=sizeLine:=by have:=gc kvs k v;omega
    refine gF (hsz:=hz) (pK ry) dd fun h' dd' hs=>h _ ?_
    have he:∃ q,h'.get? a=some q:=let ⟨q,_,_,hq,_⟩:=dd';⟨q,hq⟩
    exact mG I (by rw [e];exact True.intro) hs he (uY hl hd (rel.put k rv) dd')
  · subst ey eH
    cases (show u=Value.ref b from ry)
    obtain ⟨z,hd,xs,rel,dd⟩:=p5 I.hok (.inl e)
    have hz:xs.length<=sizeLine:=by rw [<- Paired.length rel];exact z
    have hl:(dq kvs k v).length<=sizeLine:=by have:=gc kvs k v;omega
    refine il (hsz:=hz) (tupleKind_room_in1 hu) (jp I.hok eb) dd fun h' dd' hs=>h _ ?_
    obtain ⟨q,es,ep,hq,h2,h3,h4,_,h5⟩:=dd'
    refine mG I (by rw [e];exact True.intro) hs ⟨q,hq⟩ ⟨hl,hd,_,(rel.put k eb rv).keeps fun c ys ec=>?_,q,es,ep,hq,h2,h3,h4,h5⟩
    rw [av (ne_of ec e (fun z=>nomatch z))]
    exact ec
end
theorem kJ {X:Cx} {pins:List (Addr × Obj)} {σ:St} {H:Hp} {s:Shared} {a:Addr} {y:V} {o:Option V} (I:Inv X pins σ H s) (g:DGet H a y o):s.TypeIs (.ref a) "dict":=by
  rcases g with ⟨kvs,k,e,_,_⟩ | ⟨kvs,k,b,e,_,_,_⟩
  · obtain ⟨_,_,vs,_,dd⟩:=sW I.hok e
    exact dd.typeIs
  · obtain ⟨_,_,xs,_,dd⟩:=sU I.hok e
    exact dd.typeIs
end L2
namespace L2
open PySem PySem.Spec PyProof.Rows
end L2
end
section
namespace L2
open PySem PySem.Spec PyProof.Rows
noncomputable def gl (cells:List (Str × Addr)) (cs:List (Str × Addr)) (x:Str × NameKind):List (Str × Addr) :=
  if x.2 == .free then (match cells.lookup x.1 with | some c=>(x.1,c) :: cs | none=>cs) else cs
noncomputable def clo (cells:List (Str × Addr)) (names:List (Str × NameKind)):List (Str × Addr):=names.foldl (gl cells) []
theorem gY {α β:Type} {f:α->β->Sem (ForInStep β)} {g:β->α->β}:∀ {l:List α} {c:β},(∀ x ∈ l,∀ c,f x c=pure (.yield (g c x)))->forIn l c f=pure (l.foldl g c)
  | [],c,_=>rfl
  | x :: l,c,h=>by
    rw [List.forIn_cons,h x vo,pure_bind]
    exact gY fun y hy=>h y (vp _ hy)
theorem ic {scope:Scope} {env:Env} (h:∀ x ∈ scope.names,x.2=.free->∃ c,env.cells.lookup x.1=some c):closureFor scope env=pure (clo env.cells scope.names):=by
  simp only [closureFor]
  rw [gY (g:=gl env.cells) (fun x hx c=>by
    obtain ⟨n,kind⟩:=x
    unfold gl
    by_cases hk:kind=.free
    · subst hk
      obtain ⟨a,e⟩:=h _ hx rfl
      have e':env.cells.lookup n=some a:=e
      simp [cellOf,e']
    · have hb:(kind == NameKind.free)=false:=by simpa using hk
      simp [hb])]
  rfl
theorem iZ {cells:List (Str × Addr)} {x:Str} {c:Addr}:∀ {l:List (Str × NameKind)} {cs:List (Str × Addr)},(∀ y d,cs.lookup y=some d->cells.lookup y=some d)->(l.foldl (gl cells) cs).lookup x=some c->cells.lookup x=some c
  | [],cs,h,e=>h x c e
  | y :: l,cs,h,e=>by
    refine iZ (l:=l) (cs:=gl cells cs y) (fun z d q=>?_) e
    unfold gl at q
    split at q
    · cases e2:cells.lookup y.1 with
      | none=>rw [e2] at q;exact h z d q
      | some a =>
        rw [e2] at q
        simp only [List.lookup_cons] at q
        cases hz:z == y.1 with
        | true=>rw [hz] at q;have:=eq_of_beq hz;subst this;rw [e2];exact q
        | false=>rw [hz] at q;exact h z d q
    · exact h z d q
theorem jw {cells:List (Str × Addr)} {l:List (Str × NameKind)} {x:Str} {c:Addr} (e:(clo cells l).lookup x=some c):cells.lookup x=some c:=iZ (fun _ _ q=>by simp at q) e
theorem gZ {cells:List (Str × Addr)} {x:Str} {c:Addr} (hc:cells.lookup x=some c):∀ {l:List (Str × NameKind)} {cs:List (Str × Addr)},cs.lookup x=some c->(l.foldl (gl cells) cs).lookup x=some c
  | [],_,e=>e
  | y :: l,cs,e=>by
    refine gZ hc (l:=l) (cs:=gl cells cs y) ?_
    unfold gl
    split
    · cases e2:cells.lookup y.1 with
      | none=>exact e
      | some a =>
        simp only [List.lookup_cons]
        cases hz:x == y.1 with
        | true=>have:=eq_of_beq hz;subst this;rw [hc] at e2;exact e2.symm
        | false=>exact e
    · exact e
theorem i6 {cells:List (Str × Addr)} {x:Str} {c:Addr} (hc:cells.lookup x=some c):∀ {l:List (Str × NameKind)} {cs:List (Str × Addr)},(x,NameKind.free) ∈ l->(l.foldl (gl cells) cs).lookup x=some c
  | [],_,m=>by simp at m
  | y :: l,cs,m=>by
    rcases vx.mp m with rfl | m
    · refine gZ hc (l:=l) ?_
      simp [gl,hc]
    · exact i6 hc (l:=l) (cs:=gl cells cs y) m
theorem mH {cells:List (Str × Addr)} {l:List (Str × NameKind)} {x:Str} {c:Addr} (hc:cells.lookup x=some c) (m:(x,NameKind.free) ∈ l):(clo cells l).lookup x=some c:=i6 hc m
theorem fv {env:Env}:∀ {names:List (Str × NameKind)} {x:Str},names.lookup x=some .free ->
    (names.map fun (n,k)=>if (k == NameKind.free && env.scope.kind == .function && env.kindOf n == some .cell) then (n,NameKind.cell) else (n,k)).lookup x=some .cell \/
    (names.map fun (n,k)=>if (k == NameKind.free && env.scope.kind == .function && env.kindOf n == some .cell) then (n,NameKind.cell) else (n,k)).lookup x=some .free
  | [],_,h=>by simp at h
  | (n,k) :: r,x,h=>by
    have ih:=@fv env r x
    show List.lookup x ((if (k == NameKind.free && env.scope.kind == .function && env.kindOf n == some .cell)=true then (n,NameKind.cell) else (n,k)) :: _)=_ \/
      List.lookup x ((if (k == NameKind.free && env.scope.kind == .function && env.kindOf n == some .cell)=true then (n,NameKind.cell) else (n,k)) :: _)=_
    cases hx:x == n with
    | true =>
      simp only [List.lookup_cons,hx] at h
      cases h
      split
      · left;simp [List.lookup_cons,hx]
      · right;simp [List.lookup_cons,hx]
    | false =>
      simp only [List.lookup_cons,hx] at h
      split
      · simp only [List.lookup_cons,hx];exact ih h
      · simp only [List.lookup_cons,hx];exact ih h
theorem gH {env:Env}:∀ {names:List (Str × NameKind)} {x:Str},(∀ y ∈ names,y.2 ≠ .cell) ->
    ((names.map fun (n,k)=>if (k == NameKind.free && env.scope.kind == .function && env.kindOf n == some .cell) then (n,NameKind.cell) else (n,k)).lookup x=some .cell \/
    (names.map fun (n,k)=>if (k == NameKind.free && env.scope.kind == .function && env.kindOf n == some .cell) then (n,NameKind.cell) else (n,k)).lookup x=some .free)->(x,NameKind.free) ∈ names
  | [],_,_,h=>by simp at h
  | (n,k) :: r,x,hc,h=>by
    have ih:=@gH env r x (fun y hy=>hc y (vp _ hy))
    have hk:=hc (n,k) vo
    have h':List.lookup x ((if (k == NameKind.free && env.scope.kind == .function && env.kindOf n == some .cell)=true then (n,NameKind.cell) else (n,k)) :: (r.map fun (n,k)=>if (k == NameKind.free && env.scope.kind == .function && env.kindOf n == some .cell) then (n,NameKind.cell) else (n,k)))=some .cell \/
      List.lookup x ((if (k == NameKind.free && env.scope.kind == .function && env.kindOf n == some .cell)=true then (n,NameKind.cell) else (n,k)) :: (r.map fun (n,k)=>if (k == NameKind.free && env.scope.kind == .function && env.kindOf n == some .cell) then (n,NameKind.cell) else (n,k)))=some .free:=h
    cases hx:x == n with
    | true =>
      have e:=eq_of_beq hx
      subst e
      by_cases hf:k=.free
      · subst hf;exact vo
      · exfalso
        have hb:(k == NameKind.free)=false:=by simpa using hf
        simp [hb,List.lookup_cons] at h'
        rcases h' with q | q
        · exact hk q
        · exact hf q
    | false =>
      refine vp _ (ih ?_)
      split at h'
      · simpa only [List.lookup_cons,hx] using h'
      · simpa only [List.lookup_cons,hx] using h'
noncomputable def ba (X:Cx) (NY:List Str) (scope:Scope) (s:Shared) (H:Hp) (C:Addr) (fp:List Addr):Cx where
  prog:=X.prog
  w:=X.w
  K:=X.K
  mg:=X.mg
  base:=X.base
  A:=X.A
  N:=NY
  s₀:=s
  H₀:=H
  env:=compEnvC scope (clo X.env.cells scope.names) C X.env
  outer:=X.stack
  stack:=X.stack
  ex:=fp
  fn:=fun _=>false
  calm:=X.calm
  pn:=[]
  xe:=fun _ _=>False
noncomputable def cap (ix:List (Option Nat)) (σ:St):St:=ix.map fun o=>match o with | some i=>(σ[i]?).getD none | none=>none
noncomputable def jv (sc:Scope) (XN:List Str) (Xsc:Scope) (NY:List Str) (ix:List (Option Nat)):Bool :=
  sc.kind == .function && sc.names.all (fun y=>y.2 != .cell) && sc.names.all (fun y=>y.2 != .local || sc.names.lookup y.1 == some .local) && sc.names.all (fun y=>y.2 != .free || sc.names.lookup y.1 == some .free)
    && sc.names.all (fun y=>y.2 != .free || (Xsc.names.lookup y.1 == some .cell || Xsc.names.lookup y.1 == some .free))
    && ix.length == NY.length && (NY.zip ix).all fun p=>match p.2 with | none=>true | some i=>(XN[i]? == some p.1) && sc.names.contains (p.1,NameKind.free)
structure CompOk (sc:Scope) (XN:List Str) (Xsc:Scope) (NY:List Str) (ix:List (Option Nat)):Prop where
  kind:sc.kind=.function
  nocell:∀ y ∈ sc.names,y.2 ≠ .cell
  loc:∀ y ∈ sc.names,y.2=.local->sc.names.lookup y.1=some .local
  fre:∀ y ∈ sc.names,y.2=.free->sc.names.lookup y.1=some .free
  out:∀ y ∈ sc.names,y.2=.free->Xsc.names.lookup y.1=some .cell\/Xsc.names.lookup y.1=some .free
  len:ix.length=NY.length
  cap:∀ (j:Nat) x i,NY[j]?=some x->ix[j]?=some (some i)->XN[i]?=some x/\(x,NameKind.free) ∈ sc.names
theorem CompOk.of {sc:Scope} {XN:List Str} {Xsc:Scope} {NY:List Str} {ix:List (Option Nat)} (h:jv sc XN Xsc NY ix=true):CompOk sc XN Xsc NY ix:=by
  simp only [jv,Bool.and_eq_true,List.all_eq_true,beq_iff_eq] at h
  obtain ⟨⟨⟨⟨⟨⟨h1,h2⟩,h3⟩,h4⟩,h5⟩,h6⟩,h7⟩:=h
  refine ⟨h1,fun y hy=>by simpa using h2 y hy,fun y hy e=>?_,fun y hy e=>?_,fun y hy e=>?_,h6,fun j x i e1 e2=>?_⟩
  · have:=h3 y hy;rw [e] at this;simpa using this
  · have:=h4 y hy;rw [e] at this;simpa using this
  · have:=h5 y hy;rw [e] at this;simpa using this
  · have m:(x,some i) ∈ NY.zip ix:=by
      refine vE (i:=j) ?_
      rw [List.getElem?_zip_eq_some]
      exact ⟨e1,e2⟩
    have:=h7 _ m
    simpa using this
section
variable {X:Cx}
theorem FpOk.of_upd {pins:List (Addr × Obj)} {H:Hp} {b D:Addr} {o:HO} (f:FpOk X pins H b) (h:b ≠ D):FpOk X pins (upd H D o) b:=⟨by rw [av h];exact f.1,f.2⟩
theorem HOk.track {P:Program} {w:World} {H:Hp} {h:Heap} {a:Addr} {o:HO} (x:HOk P w H h) (hn:H a=none) (new:ObjOk P w (upd H a o) h a o):HOk P w (upd H a o) h:=fun b u e=>by
  by_cases hb:b=a
  · subst hb;rw [aL] at e;cases e;exact new
  · rw [av hb] at e
    exact (x b u e).stay (fun c v _ q=>q) (fun c q=>by rw [av (aM q hn)];exact q) fun c xs q=>by rw [av (aM q hn)];exact q
noncomputable def PTs (Y:Cx) (ifs:List Expr) (t:TT):Prop :=
  ∀ (pins:List (Addr × Obj)) (s:Shared) (σ:St) (H:Hp) (Q:Bool->Hp->Prop),Inv Y pins σ H s->t σ H Q ->
    wpAny (model Y.prog Y.w) Y.A (forIn ifs true fun c r=>if r=true then do let ok <- isTrue c Y.env (eval c Y.env);pure (ForInStep.yield ok) else pure (ForInStep.yield r)) (TP Y pins σ Q) Y.xe s
noncomputable def tYes:TT:=fun _ H Q=>Q true H
theorem rg {Y:Cx}:PTs Y [] tYes:=fun pins s σ H Q I h=>wpAny_tests_nil ⟨H,I,h⟩
theorem rf {Y:Cx} {c:Expr} {t:TT} (h:PT Y c t):PTs Y [c] t:=fun pins s σ H Q I q=>wpAny_tests_one (h pins s σ H Q I q)
noncomputable def mL (J:It) (g:TG) (tc:TT) (te:TE) (Z:List V->Hp->Prop) (τ0:St) (H1:Hp):Prop :=
  ∃ W:Nat->Nat->List V->St->Hp->Prop,(∃ m,W 0 m [] τ0 H1)/\∀ i m ys τ H,W i m ys τ H->ys.length < sizeLine /\
    ((J.stop i H/\Z ys H)\/(J.go i H/\∃ N:List V->St->Hp->Prop,(∀ ys' τ' H',N ys' τ' H'->∃ m',m' < m/\W (i+1) m' ys' τ' H')/\∀ x H',J.yld i H x H'->g x τ H' fun τ2 H2=>tc τ2 H2 fun b H3 =>
      if b=true then te τ2 H3 fun y H4=>N (ys ++ [y]) τ2 H4 else N ys τ2 H3))
noncomputable def sI (wi:TI) (g:TG) (tc:TT) (te:TE) (ix:List (Option Nat)):TE:=fun σ H Q =>
  wi σ H fun J H1=>mL J g tc te (fun ys H2=>∀ p,H2 p=none->Q (.ref p) (upd H2 p (.lst ys))) (cap ix σ) H1
theorem lE {NY:List Str} {scope:Scope} {ix:List (Option Nat)} {pins:List (Addr × Obj)} {σ:St} {H:Hp} {s s4:Shared} {fp:List Addr} {C:Addr} (ck:CompOk scope X.N X.env.scope NY ix)
    (I:Inv X pins σ H s) (f:∀ b ∈ fp,FpOk X pins H b) (hC:s.heap.objs.size<=C) (hfp:∀ b ∈ fp,b < s.heap.objs.size) (h4:s4.os=s.os) (hg:s4.gens=s.gens) (keep:∀ b o,s.heap.get? b=some o->s4.heap.get? b=some o)
    (ns:s4.heap.Ns C fun _=>none):Inv (ba X NY scope s H C fp) [] (cap ix σ) H s4:=by
  have fC:FpOk X pins H C:=I.fpOk hC (I.hok.fresh hC)
  have cls:∀ x c,(clo X.env.cells scope.names).lookup x=some c->X.env.cells.lookup x=some c:=fun x c e=>jw e
  have hset:∀ x,(x,NameKind.free) ∈ scope.names->∃ c,X.env.cells.lookup x=some c:=fun x m=>by
    rcases ck.out _ m rfl with q | q
    · exact I.ok.has x (.inl q)
    · exact I.ok.has x (.inr q)
  refine ⟨⟨I.ok.mod,ck.kind,I.ok.glob,I.ok.blt,hC,fun x y c e1 e2=>I.ok.inj x y c (cls x c e1) (cls y c e2),fun x hx=>?_,fun x c e _=>(vJ e).elim,fun e=>I.ok.hd e,I.ok.frames,.inl rfl,fun b hb=>⟨vK (vP (hfp b hb) hC),fun x c e=>(f b hb).2.2.2.2.1 x c (cls x c e)⟩,
    I.bs,wd I.ok.bsz I.sz,fun b o e hb=>?_,fun b hb hz=>?_,I.stack,I.stkFree⟩,h4,by rw [hg];exact I.bare,Un.kept keep,⟨_,ns,fun i x v e1 e2 e3=>?_⟩,fun x c e=>?_,fC.1,fun x c e=>I.freeC x c (cls x c e),fun p hp=>absurd (show p ∈ ([]:List (Addr × Obj)) from hp) (by simp),I.hok.kept keep,?_⟩
  · have m:(x,NameKind.free) ∈ scope.names:=gH ck.nocell hx
    obtain ⟨c,e⟩:=hset x m
    exact ⟨c,mH e m⟩
  · rcases (f b hb).2.2.2.1 with z | z
    · exact I.ok.noex b o e z
    · exact absurd (vP (vz e) (wd I.ok.bsz z)) (Nat.lt_irrefl _)
  · rcases vx.mp (I.stkSub b hz) with e | e
    · exact (f b hb).2.1 e
    · exact (f b hb).2.2.1 e
  · -- a captured name
    have q:∃ k,ix[i]?=some (some k)/\σ[k]?=some (some v):=by
      unfold cap at e2
      rw [vH] at e2
      cases e:ix[i]? with
      | none=>rw [e] at e2;simp at e2
      | some o =>
        rw [e] at e2
        cases o with
        | none=>simp at e2
        | some k =>
          refine ⟨k,rfl,?_⟩
          simp only [vV,Option.some.injEq] at e2
          cases e':σ[k]? with
          | none=>rw [e'] at e2;simp at e2
          | some o'=>rw [e'] at e2;simp at e2;rw [e2]
    obtain ⟨k,ek,ev⟩:=q
    obtain ⟨eN,m⟩:=ck.cap i x k e1 ek
    obtain ⟨mX,hnX,hl⟩:=I.loc
    have hv:Vis X.env.scope x:=by
      rcases ck.out _ m rfl with q | q
      · exact .inr (.inl q)
      · exact .inr (.inr q)
    obtain ⟨u,r,l⟩:=hl k x v eN ev hv
    refine ⟨u,r,.inr ?_⟩
    rcases l with ⟨kl,_⟩ | ⟨_,c,ec,hc⟩
    · exfalso
      rcases ck.out _ m rfl with q | q
      · have:=kl.symm.trans q;cases this
      · have:=kl.symm.trans q;cases this
    · obtain ⟨o,ho,hd⟩:=hc
      exact ⟨fv (ck.fre _ m rfl),c,mH ec m,o,keep c o ho,hd⟩
  · obtain ⟨v,o,ho,hd⟩:=I.cell x c (cls x c e)
    exact ⟨v,o,keep c o ho,hd⟩
  · show (cap ix σ).length=NY.length
    unfold cap
    rw [vC]
    exact ck.len
set_option tactic.hygienic true in
theorem d7 {prog:Program} {w:World} {A:Around} {R:Result->Shared->Prop} {s:Shared} {elt target iter:Expr} {ifs:List Expr} {scope:Scope} {pos:Pos} {it acc:Value} {env:Env} (I:Nat->Shared->Prop)
    (turn:∀ n s,I n s->wpAny (model prog w) A (pyNext it) (fun r s₁=>match r with
      | none=>R (.ok .next) s₁
      | some v=>wpAny (model prog w) A (letOwnedTupleGo target it v) (fun _ s₁'=>wpAny (model prog w) A (assign target env v) (fun _ s₂ =>
          wpAny (model prog w) A (forIn ifs true fun c r=>if r=true then do let ok <- isTrue c env (eval c env);pure (ForInStep.yield ok) else pure (ForInStep.yield r)) (fun ok s₃ =>
            if ok=true then wpAny (model prog w) A (eval elt env) (fun x s₄ =>
              wpAny (model prog w) A (call (.builtin "list.append") [acc,x]) (fun _ s₅=>∃ m,m < n/\I m s₅) (fun _ _=>False) s₄) (fun _ _=>False) s₃
            else ∃ m,m < n/\I m s₃) (fun _ _=>False) s₂) (fun _ _=>False) s₁') (fun _ _=>False) s₁) (fun _ _=>False) s)
    (n:Nat) (h:I n s) :
    codeAny (model prog w) A (.compLoop (.ListComp elt [⟨target,iter,ifs,0⟩] scope pos) 0 it acc env) R s:=by
  refine codeAny_loop rfl I (fun n s hI=>?_) n h
  show wpAny _ A ((compTurn (.ListComp elt [⟨target,iter,ifs,0⟩] scope pos) 0 it acc env).onRaise (fun x=>do noteFrame x env;theTreesLotGoes x)) _ _ s
  refine wpAny_noted ?_
  rw [compTurn_list]
  refine vj (wpAny_standAt (vj (wpAny_mono (turn n s hI) (fun r s₁ h₁=>?_) fun _ _ h'=>h'.elim)))
  cases r with
  | none=>exact vm h₁
  | some v =>
    refine vj (wpAny_mono h₁ (fun _ s₁' h₁'=>?_) fun _ _ h'=>h'.elim)
    refine vj (wpAny_mono h₁' (fun _ s₂ h₂=>vj (wpAny_mono h₂ (fun ok s₃ h₃=>?_) fun _ _ h'=>h'.elim)) fun _ _ h'=>h'.elim)
    cases ok with
    | false=>exact vm ⟨rfl,h₃⟩
    | true =>
      exact vj (vj (wpAny_mono h₃ (fun x s₄ h₄=>vj (wpAny_mono h₄ (fun _ s₅ h₅=>vm (vm ⟨rfl,h₅⟩)) fun _ _ h'=>h'.elim)) fun _ _ h'=>h'.elim))
set_option tactic.hygienic true in
theorem p9 {elt tg iter:Expr} {ifs:List Expr} {NY:List Str} {scope:Scope} {ix:List (Option Nat)} {pos:Pos} {pins:List (Addr × Obj)} {σ:St} {H:Hp} {s:Shared} {fp:List Addr} {it:Addr} {tn:Nat->Heap->Prop} {J:It} {g:TG} {tc:TT} {te:TE} {Z:List V->Hp->Prop} {E:Value->Shared->Prop}
    {RR:Value->Addr->Result->Shared->Prop} (hc:X.calm=true) (ck:CompOk scope X.N X.env.scope NY ix)
    (hg:∀ s H C fp,PG (ba X NY scope s H C fp) tg g) (ht:∀ s H C fp,PTs (ba X NY scope s H C fp) ifs tc) (he:∀ s H C fp,PE (ba X NY scope s H C fp) elt te)
    (I:Inv X pins σ H s) (T:Turn X.prog X.w X.K tg J fp it tn) (st:tn 0 s.heap) (f:∀ b ∈ fp,FpOk X pins H b) (hW:mL J g tc te Z (cap ix σ) H)
    (hRR:∀ D C s' ys H' m,s'.heap.Ns C m->H' D=none->FpOk X pins (upd H' D (.lst ys)) C->Inv X pins σ (upd H' D (.lst ys)) s'->Z ys H'->RR (.ref D) C (.ok .next) s') :
    wpAny (model X.prog X.w) X.A (newList []) (fun acc s₃=>wpAny (model X.prog X.w) X.A (newFunctionEnv scope X.env.globals (clo X.env.cells scope.names) [] X.env.qual none .none (some X.env)) (fun cenv s₄ =>
      codeAny (model X.prog X.w) X.A (.compStart (.ListComp elt [⟨tg,iter,ifs,0⟩] scope pos) 0 (.ref it) acc { cenv with scope:=relabel scope X.env }) (RR acc cenv.locals) s₄) E s₃) E s:=by
  obtain ⟨W,⟨m0,w0⟩,turn⟩:=hW
  refine wpAny_newObj_type (wpAny_newFunctionEnv ck.nocell (by intro y hy;simp at hy) (fun h₁ hns₁ hsb₁=>?_) ck.kind)
  dsimp only at hns₁ hsb₁ ⊢
  generalize hH2:s.heap.push { cls:=.type "list",dict:=none,data:=.seq ([]:List Value).toArray }=H2 at hns₁ hsb₁ ⊢
  have hCs:H2.objs.size=s.heap.objs.size+1:=by rw [<- hH2,wb]
  have hDC:s.heap.objs.size ≠ H2.objs.size:=by rw [hCs];exact vK (Nat.lt_succ_self _)
  have hCle:s.heap.objs.size<=H2.objs.size:=by rw [hCs];exact Nat.le_succ _
  generalize hD:s.heap.objs.size=D at *
  generalize hC:H2.objs.size=C at *
  have below:∀ b o,s.heap.get? b=some o->b < D:=fun b o e=>by rw [<- hD];exact vz e
  have old:∀ b o,s.heap.get? b=some o->h₁.get? b=some o:=fun b o e=>hsb₁.extBut b o (vK (vP (below b o e) hCle)) (vq _ (hH2 ▸ vq _ e))
  have hacc0:H2.get? D=some { cls:=.type "list",dict:=none,data:=.seq ([]:List Value).toArray }:=by
    rw [<- hH2,<- hD];exact vB _ rfl
  have hacc:h₁.PlainList D #[]:=⟨_,hsb₁.extBut _ _ hDC (vq _ hacc0)⟩
  have hfp:∀ b ∈ fp,b < s.heap.objs.size:=fun b hb=>by
    obtain ⟨o,e,_⟩:=T.obj 0 _ st b hb
    exact vz e
  have hfpD:∀ b ∈ fp,b < D:=fun b hb=>by rw [<- hD];exact hfp b hb
  have IY:Inv (ba X NY scope s H C fp) [] (cap ix σ) H { s with heap:=h₁,toks:=s.toks+([]:List (Str × Value)).length } :=
    lE ck I f (by rw [hD];exact hCle) hfp rfl rfl old hns₁
  have HDn:H D=none:=I.hok.fresh (by rw [hD];exact vI _)
  have stackLt:∀ b ∈ frs X.stack,b < D:=fun b hb=>by
    obtain ⟨_,o,ho,_⟩:=I.stack.mem hb
    exact below b o ho
  have loop:∀ s₃:Shared,s₃ = { s with heap:=h₁,toks:=s.toks+([]:List (Str × Value)).length } ->
      codeAny (model X.prog X.w) X.A (.compLoop (.ListComp elt [⟨tg,iter,ifs,0⟩] scope pos) 0 (.ref it) (.ref D) (ba X NY scope s H C fp).env) (RR (.ref D) C) s₃:=by
    rintro s₃ rfl
    refine d7 (fun n s'=>∃ i ys τ H' its,Inv (ba X NY scope s H C fp) [] τ H' s'/\H' D=none/\s'.heap.PlainList D its/\Vals ys its.toList/\tn i s'.heap/\(∀ b ∈ fp,H' b=none)/\W i n ys τ H') ?_ m0
      ⟨0,[],cap ix σ,H,#[],IY,HDn,hacc,.nil,T.keep _ _ _ st fun b _ o e=>old b o e,fun b hb=>(f b hb).1,w0⟩
    rintro n s3 ⟨i,ys,τ,H3,its,I3,d3,l3,v3,st3,fr3,w3⟩
    obtain ⟨nl,e3⟩:=id l3
    have I3p:Inv (ba X NY scope s H C fp) [(D,{ cls:=.type "list",data:=.seq its nl })] τ H3 s3:=I3.pins_of fun p hp=>by
      have e:p=(D,{ cls:=.type "list",data:=.seq its nl }):=by simpa using hp
      subst e
      exact ⟨e3,d3,hDC,fun z=>Nat.lt_irrefl _ (stackLt D z),fun v z=>by cases z⟩
    have fpo:∀ {H':Hp} {pl:List (Addr × Obj)},(∀ b ∈ fp,H' b=none)->(∀ p ∈ pl,p.1=D)->∀ b ∈ fp,FpOk (ba X NY scope s H C fp) pl H' b:=fun hn hp b hb =>
      ⟨hn b hb,vK (vP (hfpD b hb) hCle),fun z=>by
        rcases vx.mp (I.stkSub b z) with e | e
        · exact (f b hb).2.1 e
        · exact (f b hb).2.2.1 e,.inl hb,fun x c e=>(f b hb).2.2.2.2.1 x c (jw e),fun p hp'=>by
        have e:p.1=D:=hp p ((vA.mp hp').elim (fun z=>absurd (show p ∈ ([]:List (Addr × Obj)) from z) (by simp)) fun z=>z)
        rw [e]
        exact Nat.ne_of_gt (hfpD b hb)⟩
    obtain ⟨zl,step⟩:=turn i n ys τ H3 w3
    have single:∀ p ∈ [(D,({ cls:=.type "list",data:=.seq its nl }:Obj))],p.1=D:=fun p hp=>by
      have e:p=(D,{ cls:=.type "list",data:=.seq its nl }):=by simpa using hp
      rw [e]
    rcases step with ⟨stop,qn⟩ | ⟨go,N,hN,step⟩
    · refine wpAny_mono (T.done (ba X NY scope s H C fp) rfl rfl rfl hc i _ s3 τ H3 (fun _ _=>False) I3p (fpo fr3 single) st3 stop) (fun r s4 ⟨hr,I4⟩=>?_) fun _ _ e=>e
      subst hr
      obtain ⟨mC,hnC,_⟩:=id I4.loc
      obtain ⟨e4,d4,_⟩:=I4.pin (D,{ cls:=.type "list",data:=.seq its nl }) (by simp [ba])
      have lt4:∀ b o,s.heap.get? b=some o->b ≠ D:=fun b o e=>vK (below b o e)
      have u4:=I4.base
      refine hRR D C s4 ys H3 mC hnC d4 ?_ ?_ qn
      · exact (I.fpOk (by rw [hD];exact hCle) (by exact I4.free)).of_upd (Ne.symm hDC)
      · refine I.call' (ch:=fp) I4.os (H':=upd H3 D (.lst ys)) ⟨u4.keep,u4.slot,fun b o e n hx=>?_,u4.there,fun b xs e=>?_,fun b o u e=>?_,fun b ps e=>?_⟩ ?_ I4.bare fun b hb=>?_
        · rw [av (lt4 b o e)];exact u4.free b o e n hx
        · have q:=u4.tups b xs e;rw [av (aM q d4)];exact q
        · have q:=u4.frzs b o u e;rw [av (aM q d4)];exact q
        · obtain ⟨more,q⟩:=u4.tbls b ps e;exact ⟨more,by rw [av (aM q d4)];exact q⟩
        · exact I4.hok.track d4 ⟨Nat.le_of_lt zl,its.toList,nl,v3,by simpa using e4⟩
        · exact ⟨(f b hb).2.2.2.1,(f b hb).2.1,(f b hb).2.2.2.2.1,(f b hb).2.2.2.2.2⟩
    · refine wpAny_mono (T.item (ba X NY scope s H C fp) rfl rfl rfl hc i _ s3 τ H3 (fun _ _=>False) I3p (fpo fr3 single) st3 go) (fun r s4 ⟨u,hr,h4⟩=>?_) fun _ _ e=>e
      subst hr
      refine wpAny_mono h4 (fun _ s5 ⟨x,H5,I5,r5,y5,st5,fr5⟩=>?_) fun _ _ e=>e
      have I5':=I5.pinned (fpo fr5 single) (T.obj _ _ st5)
      refine wpAny_mono (hg s H C fp _ s5 τ H5 x u _ I5' r5 (step x H5 y5)) (fun _ s6 ⟨τ6,H6,I6,q6⟩=>?_) fun _ _ e=>e
      refine wpAny_mono (ht s H C fp _ s6 τ6 H6 _ I6 q6) (fun b s7 ⟨H7,I7,q7⟩=>?_) fun _ _ e=>e
      have after:∀ {s':Shared} {H':Hp},Inv (ba X NY scope s H C fp) ([(D,{ cls:=.type "list",data:=.seq its nl })] ++ gJ fp s5.heap) τ6 H' s'->tn (i+1) s'.heap/\(∀ b ∈ fp,H' b=none)/\H' D=none/\s'.heap.PlainList D its:=fun {s' H'} I' =>
        ⟨T.keep _ _ _ st5 fun b hb o e=>(I'.pin (b,o) (vw _ (vw _ (dy hb e)))).1,fun b hb=>by
          obtain ⟨o,e,d⟩:=T.obj _ _ st5 b hb
          exact (I'.pin (b,o) (vw _ (vw _ (dy hb e)))).2.1,(I'.pin (D,_) (vw _ (vv _ (vX.mpr rfl)))).2.1,
          nl,(I'.pin (D,_) (vw _ (vv _ (vX.mpr rfl)))).1⟩
      cases b with
      | false =>
        rw [if_neg vJ]
        rw [if_neg vJ] at q7
        obtain ⟨m',hm,w7⟩:=hN _ _ _ q7
        obtain ⟨a1,a2,a3,a4⟩:=after I7
        exact ⟨m',hm,i+1,ys,τ6,H7,its,I7.pins_of (fun _ z=>absurd z (by simp)),a3,a4,v3,a1,a2,w7⟩
      | true =>
        rw [if_pos rfl]
        rw [if_pos rfl] at q7
        refine wpAny_mono (he s H C fp _ s7 τ6 H7 _ I7 q7) (fun y s8 ⟨yv,H8,I8,r8,n8⟩=>?_) fun _ _ e=>e
        obtain ⟨m',hm,w8⟩:=hN _ _ _ n8
        obtain ⟨a1,a2,a3,a4⟩:=after I8
        have hsz0:ys.length=its.size:=by simpa using v3.length
        have hsz:its.size<=sizeLine:=by omega
        refine wpAny_list_append_plain (hsz:=hsz) a4 fun h9 l9 sb9=>?_
        have I9:Inv (ba X NY scope s H C fp) [] τ6 H8 { s8 with heap:=h9,toks:=s8.toks }:=(I8.pins_of (pins':=[]) fun _ z=>absurd z (by simp)).turned (it:=D) (fun b o hb e=>(sb9.2 b hb).trans e) a3 hDC (.inr (by show s.heap.objs.size<=D;rw [hD];exact vI _)) (fun x c e z=>?_) fun p z=>absurd (show p ∈ ([]:List (Addr × Obj)) from z) (by simp)
        · refine ⟨m',hm,i+1,ys ++ [yv],τ6,H8,its.push y,I9,a3,l9,?_,T.keep _ _ _ a1 fun b hb o e=>(sb9.2 b (vK (hfpD b hb))).trans e,a2,w8⟩
          rw [Array.toList_push]
          exact v3.append (.cons r8 .nil)
        · obtain ⟨v,o,ho,_⟩:=I.cell x c (jw e)
          exact Nat.lt_irrefl _ (z ▸ below c o ho)
  exact codeAny_compStart_list (loop _ rfl) (T.self X.A 0 _ _ _ (T.keep _ _ _ st fun b _ o e=>old b o e) (loop _ rfl))
theorem rD {elt tg iter:Expr} {ifs:List Expr} {scope:Scope} {pos:Pos} {wi:TI} {g:TG} {tc:TT} {te:TE} (NY:List Str) (ix:List (Option Nat)) (hc:X.calm=true) (hi:PI X tg iter wi)
    (hg:∀ s H C fp,PG (ba X NY scope s H C fp) tg g) (ht:∀ s H C fp,PTs (ba X NY scope s H C fp) ifs tc) (he:∀ s H C fp,PE (ba X NY scope s H C fp) elt te)
    (ck:jv scope X.N X.env.scope NY ix=true) (hs:∀ x,foldedSetIterable iter X.env x=pure x:=by intro _;rfl):PE X (.ListComp elt [⟨tg,iter,ifs,0⟩] scope pos) (sI wi g tc te ix):=by
  intro pins s σ H Q I h
  have ck:=CompOk.of ck
  rw [eval_ListComp]
  refine wpAny_comprehension_free (use:=none) rfl hs (ic (scope:=scope) (env:=X.env) fun x m e=>?_) ck.kind ck.loc (thn (hi pins s σ H _ I h) fun v s1 h1=>thn h1 fun itv s2 h2=>?_)
  · rcases ck.out x m e with q | q
    · exact I.ok.has x.1 (.inl q)
    · exact I.ok.has x.1 (.inr q)
  · obtain ⟨it,fp,tn,J,H2,e,I2,T,st2,f2,hW⟩:=h2
    subst e
    refine p9 (RR:=fun acc C=>compPost (model X.prog X.w) X.A X.xe none (EP X pins σ Q) acc C) hc ck hg ht he I2 T st2 f2 hW ?_
    intro D C s' ys H' m hn hD fC I' hZ
    obtain ⟨f0,f1,f2,f3,f4,f5⟩:=fC
    exact ⟨m,hn,fun h' sb=>⟨.ref D,_,I'.turned (t':=s'.toks) (fun b o hb e=>(sb.2 b hb).trans e) f0 f1 f3 f4 f5,rfl,hZ D hD⟩⟩
end
end L2
end
section
namespace L2
open PySem PySem.Spec PyProof.Rows
section
variable {X:Cx}
inductive KindOf (K:FG) (H:Hp):V->String->Prop
  | int (i:Int):KindOf K H (.int i) "int"
  | bool (b:Bool):KindOf K H (.bl b) "bool"
  | str (x:Str):KindOf K H (.str x) "str"
  | non:KindOf K H .non "NoneType"
  | tuple {a:Addr} {xs:List V}:SqT K H a xs->KindOf K H (.ref a) "tuple"
  | list {a:Addr} {xs:List V}:SqL K H a xs->KindOf K H (.ref a) "list"
  | dK {a:Addr} {kvs}:H a=some (.dK kvs)->KindOf K H (.ref a) "dict"
  | dT {a:Addr} {kvs}:H a=some (.dT kvs)->KindOf K H (.ref a) "dict"
noncomputable def jq (k t:String):Bool:=k == t || (k == "bool" && t == "int")
theorem Inv.clsK {pins:List (Addr × Obj)} {s:Shared} {σ:St} {H:Hp} {a:Addr} {k:String} (I:Inv X pins σ H s) (h:KindOf X.K H (.ref a) k):∃ o,s.heap.get? a=some o/\o.cls=.type k:=by
  cases h with
  | tuple h=>obtain ⟨its,_,⟨o,e,c,_⟩,_⟩:=I.tuple h;exact ⟨o,e,c⟩
  | list h=>obtain ⟨its,_,⟨o,n,e,c,_⟩,_⟩:=I.list h;exact ⟨o,e,c⟩
  | dK h=>obtain ⟨_,_,_,_,o,_,_,e,c,_⟩:=I.hok a _ h;exact ⟨o,e,c.1⟩
  | dT h=>obtain ⟨_,_,_,_,o,_,_,e,c,_⟩:=I.hok a _ h;exact ⟨o,e,c.1⟩
theorem fG:cM X (.builtin "isinstance") (fun xs H Q=>∃ x k,xs=[x,.ty "int"]/\KindOf X.K H x k/\Q (.bl (jq k "int")) H):=by
  intro pins s σ H xs us Q I r h
  obtain ⟨x,k,rfl,hk,q⟩:=h
  obtain ⟨u,v,rfl,ru,rv⟩:=jI r
  cases (show v=Value.type "int" from rv)
  cases hk with
  | int i=>obtain ⟨tk,rfl⟩:=ru;exact IsiPair.int_int ⟨.bl true,H,I,rfl,q⟩
  | bool b=>cases (show u=Value.bool b from ru);exact IsiPair.bool_int ⟨.bl true,H,I,rfl,q⟩
  | str z=>obtain ⟨tk,rfl⟩:=ru;exact IsiPair.str_int ⟨.bl false,H,I.tok _,rfl,q⟩
  | non=>cases (show u=Value.none from ru);exact IsiPair.NoneType_int ⟨.bl false,H,I.tok _,rfl,q⟩
  | tuple hh=>cases ru;obtain ⟨o,e,c⟩:=I.clsK (.tuple hh);exact IsiPair.tuple_int e c ⟨.bl false,H,I.tok _,rfl,q⟩
  | list hh=>cases ru;obtain ⟨o,e,c⟩:=I.clsK (.list hh);exact IsiPair.list_int e c ⟨.bl false,H,I.tok _,rfl,q⟩
  | dK hh=>cases ru;obtain ⟨o,e,c⟩:=I.clsK (.dK hh);exact IsiPair.dict_int e c ⟨.bl false,H,I.tok _,rfl,q⟩
  | dT hh=>cases ru;obtain ⟨o,e,c⟩:=I.clsK (.dT hh);exact IsiPair.dict_int e c ⟨.bl false,H,I.tok _,rfl,q⟩
theorem eO:cM X (.builtin "isinstance") (fun xs H Q=>∃ x k,xs=[x,.ty "bool"]/\KindOf X.K H x k/\Q (.bl (jq k "bool")) H):=by
  intro pins s σ H xs us Q I r h
  obtain ⟨x,k,rfl,hk,q⟩:=h
  obtain ⟨u,v,rfl,ru,rv⟩:=jI r
  cases (show v=Value.type "bool" from rv)
  cases hk with
  | int i=>obtain ⟨tk,rfl⟩:=ru;exact IsiPair.int_bool ⟨.bl false,H,I.tok _,rfl,q⟩
  | bool b=>cases (show u=Value.bool b from ru);exact IsiPair.bool_bool ⟨.bl true,H,I,rfl,q⟩
  | str z=>obtain ⟨tk,rfl⟩:=ru;exact IsiPair.str_bool ⟨.bl false,H,I.tok _,rfl,q⟩
  | non=>cases (show u=Value.none from ru);exact IsiPair.NoneType_bool ⟨.bl false,H,I.tok _,rfl,q⟩
  | tuple hh=>cases ru;obtain ⟨o,e,c⟩:=I.clsK (.tuple hh);exact IsiPair.tuple_bool e c ⟨.bl false,H,I.tok _,rfl,q⟩
  | list hh=>cases ru;obtain ⟨o,e,c⟩:=I.clsK (.list hh);exact IsiPair.list_bool e c ⟨.bl false,H,I.tok _,rfl,q⟩
  | dK hh=>cases ru;obtain ⟨o,e,c⟩:=I.clsK (.dK hh);exact IsiPair.dict_bool e c ⟨.bl false,H,I.tok _,rfl,q⟩
  | dT hh=>cases ru;obtain ⟨o,e,c⟩:=I.clsK (.dT hh);exact IsiPair.dict_bool e c ⟨.bl false,H,I.tok _,rfl,q⟩
theorem d9:cM X (.builtin "isinstance") (fun xs H Q=>∃ x k,xs=[x,.ty "tuple"]/\KindOf X.K H x k/\Q (.bl (jq k "tuple")) H):=by
  intro pins s σ H xs us Q I r h
  obtain ⟨x,k,rfl,hk,q⟩:=h
  obtain ⟨u,v,rfl,ru,rv⟩:=jI r
  cases (show v=Value.type "tuple" from rv)
  cases hk with
  | int i=>obtain ⟨tk,rfl⟩:=ru;exact IsiPair.int_tuple ⟨.bl false,H,I.tok _,rfl,q⟩
  | bool b=>cases (show u=Value.bool b from ru);exact IsiPair.bool_tuple ⟨.bl false,H,I.tok _,rfl,q⟩
  | str z=>obtain ⟨tk,rfl⟩:=ru;exact IsiPair.str_tuple ⟨.bl false,H,I.tok _,rfl,q⟩
  | non=>cases (show u=Value.none from ru);exact IsiPair.NoneType_tuple ⟨.bl false,H,I.tok _,rfl,q⟩
  | tuple hh=>cases ru;obtain ⟨o,e,c⟩:=I.clsK (.tuple hh);exact IsiPair.tuple_tuple e c ⟨.bl true,H,I,rfl,q⟩
  | list hh=>cases ru;obtain ⟨o,e,c⟩:=I.clsK (.list hh);exact IsiPair.list_tuple e c ⟨.bl false,H,I.tok _,rfl,q⟩
  | dK hh=>cases ru;obtain ⟨o,e,c⟩:=I.clsK (.dK hh);exact IsiPair.dict_tuple e c ⟨.bl false,H,I.tok _,rfl,q⟩
  | dT hh=>cases ru;obtain ⟨o,e,c⟩:=I.clsK (.dT hh);exact IsiPair.dict_tuple e c ⟨.bl false,H,I.tok _,rfl,q⟩
theorem iz:cM X (.builtin "isinstance") (fun xs H Q=>∃ x k,xs=[x,.ty "list"]/\KindOf X.K H x k/\Q (.bl (jq k "list")) H):=by
  intro pins s σ H xs us Q I r h
  obtain ⟨x,k,rfl,hk,q⟩:=h
  obtain ⟨u,v,rfl,ru,rv⟩:=jI r
  cases (show v=Value.type "list" from rv)
  cases hk with
  | int i=>obtain ⟨tk,rfl⟩:=ru;exact IsiPair.int_list ⟨.bl false,H,I.tok _,rfl,q⟩
  | bool b=>cases (show u=Value.bool b from ru);exact IsiPair.bool_list ⟨.bl false,H,I.tok _,rfl,q⟩
  | str z=>obtain ⟨tk,rfl⟩:=ru;exact IsiPair.str_list ⟨.bl false,H,I.tok _,rfl,q⟩
  | non=>cases (show u=Value.none from ru);exact IsiPair.NoneType_list ⟨.bl false,H,I.tok _,rfl,q⟩
  | tuple hh=>cases ru;obtain ⟨o,e,c⟩:=I.clsK (.tuple hh);exact IsiPair.tuple_list e c ⟨.bl false,H,I.tok _,rfl,q⟩
  | list hh=>cases ru;obtain ⟨o,e,c⟩:=I.clsK (.list hh);exact IsiPair.list_list e c ⟨.bl true,H,I,rfl,q⟩
  | dK hh=>cases ru;obtain ⟨o,e,c⟩:=I.clsK (.dK hh);exact IsiPair.dict_list e c ⟨.bl false,H,I.tok _,rfl,q⟩
  | dT hh=>cases ru;obtain ⟨o,e,c⟩:=I.clsK (.dT hh);exact IsiPair.dict_list e c ⟨.bl false,H,I.tok _,rfl,q⟩
theorem nY {bs:List Bool}:((List.range bs.length).all fun i=>bs.getD i false)=bs.all id:=by
  rw [Bool.eq_iff_iff]
  simp only [List.all_eq_true,List.mem_range,id]
  constructor
  · intro h b hb
    obtain ⟨i,hi,rfl⟩:=List.mem_iff_getElem.mp hb
    simpa [List.getD,hi] using h i hi
  · intro h i hi
    simpa [List.getD,hi] using h _ (List.getElem_mem hi)
theorem fH (hc:X.calm=true):cM X (.builtin "all") (fun xs H Q=>∃ (a:Addr) (bs:List Bool),xs=[.ref a]/\SqL X.K H a (bs.map V.bl)/\Q (.bl (bs.all id)) H):=by
  intro pins s σ H xs us Q I r h
  obtain ⟨a,bs,rfl,hq,q⟩:=h
  obtain ⟨u,rfl,ru⟩:=iD r
  cases ru
  obtain ⟨its,rv,p,hz⟩:=I.list hq
  have hl:=rv.length
  rw [vC] at hl
  have hlt:a < s.heap.objs.size:=by obtain ⟨o,_,e,_⟩:=id p;exact vz e
  refine call_all_walk (wpAny_pyIter_list p.isList ?_)
  refine ⟨s.heap.objs.size,_,_,_,_,_,fun i=>bs.getD i false,rfl,Walks.list (show X.A.in1.handled=none from I.ok.hd hc) s.heap.objs.size a (vK hlt) its.toArray,⟨⟨_,vB _ rfl,rfl,rfl⟩,p.isList.at fun o e=>vq _ e⟩,?_,?_⟩
  · intro i v s' Q' E' hv hQ'
    have hv':its[i]?=some v:=by simpa using hv
    have hi:i < bs.length:=by
      have:=(vD.mp hv').1
      omega
    obtain ⟨u,hu,ru⟩:=rv.get (i:=i) (x:=V.bl (bs[i])) (by simp [hi])
    rw [hv'] at hu
    cases hu
    cases (show v=Value.bool bs[i] from ru)
    refine wc ?_
    have e:bs.getD i false=bs[i]:=by simp [List.getD,hi]
    have hQ2:Q' (bs.getD i false) s':=hQ'
    rw [e] at hQ2
    exact hQ2
  · intro h' tk hk
    have I1:Inv X pins σ H { s with heap:=h',toks:=tk }:=I.kept fun b o e=>hk b o (by
      intro hm
      have e':b=s.heap.objs.size:=by simpa using hm
      exact absurd (e' ▸ vz e) (Nat.lt_irrefl _)) (vq _ e)
    refine ⟨.bl (bs.all id),H,I1,?_,q⟩
    show Value.bool _=Value.bool _
    rw [vL,<- hl,nY]
end
end L2
end
section
namespace L2
open PySem PySem.Spec PyProof.Rows
structure Callee (P:Program) (w:World) (K:FG) (mg:Str->Option Value) (base:Heap) (x:Str) (k:Nat) (ps:List Str) (sp:Sp):Prop where
  ex:∃ (f:Addr) (fd:FuncData),FnOk P w K mg base CX0 k f fd ps sp/\mg x=some (.ref f)/\PySem.W.keepIn K (.ref f)=true/\Binds K fd ps []
structure DefAt (K:FG) (mg:Str->Option Value) (x:Str) (st:Stmt) (f:Addr) (fd:FuncData):Prop where
  fn:Fun K x x st f fd
  mg:mg x=some (.ref f)
noncomputable def Def (K:FG) (mg:Str->Option Value) (x:Str) (st:Stmt):Prop:=∃ f fd,DefAt K mg x st f fd
theorem Def.callee {P:Program} {w:World} {K:FG} {mg:Str->Option Value} {base:Heap} {x:Str} {st:Stmt} {k:Nat} {ps:List Str} {sp:Sp} (D:Def K mg x st)
    (hb:∀ (kV doc pm:Value) (an:Option Addr) (cdv ct:Value) (us:List Value),us.length=ps.length->bindArgs (PySem.W.fnOf x x (aP st) (aG st) (ag st) .none kV doc pm an cdv ct) ⟨us,[]⟩=pure (ps.zip us))
    (h:∀ f fd,Fun K x x st f fd->FnOk P w K mg base CX0 k f fd ps sp):Callee P w K mg base x k ps sp :=
  let ⟨f,fd,d⟩:=D
  ⟨f,fd,h f fd d.fn,d.mg,d.fn.kp,d.fn.binds hb⟩
section
variable {X:Cx} {x:Str} {p pos:Pos} {e:Expr} {es:List Expr} {t:TA} {k:Nat} {ps:List Str} {sp:Sp}
noncomputable def tFn (sp:Sp) (t:TA):TE:=fun σ H Q=>t σ H fun vs H1=>sp vs H1 Q E0
theorem pe_fn (c:Callee X.prog X.w X.K X.mg X.base x k ps sp) (hr:Room k X.A) (ha:PA X (e :: es) t) (hg:Gl X x:=by rfl) (hdb:(x == ("__debug__":Str))=false:=by decide)
    (he:starEach (e :: es) X.env=(false,eval e X.env) :: starEach es X.env:=by rfl) (hpl:(backTo pos (starEach es X.env)).any (·.1)=false:=by rfl):PE X (.Call (.Name x p) (e :: es) [] pos) (tFn sp t):=by
  obtain ⟨f,fd,F,hm,hk,hb⟩:=c.ex
  have h:=rF (pos:=pos) (p:=p) (dvs:=[]) (E:=E0) F hr hg hm hk hb .nil pass0 ha hdb he hpl
  intro pins s σ H Q I q
  refine h pins s σ H Q I ?_
  show t σ H fun vs H1=>sp (vs ++ []) H1 Q E0
  have q':t σ H (fun vs H1=>sp vs H1 Q E0):=q
  simpa using q'
end
noncomputable def But (p:Addr) (H H':Hp):Prop:=∀ b o,H b=some o->b ≠ p->H' b=some o
theorem But.trans {p:Addr} {H H1 H2:Hp} (a:But p H H1) (b:But p H1 H2):But p H H2:=fun c o h n=>b c o (a c o h n) n
noncomputable abbrev Pt:=Int × Int
noncomputable def bendI (p q r:Pt):Int:=(q.1 - p.1) * (r.2 - p.2) - (q.2 - p.2) * (r.1 - p.1)
theorem Paired.take {α β:Type} {F:α->β->Prop}:∀ {l:List α} {m:List β} (n:Nat),Paired F l m->Paired F (l.take n) (m.take n)
  | _,_,0,_=>by simpa using Paired.nil
  | _,_,_+1,.nil=>by simpa using Paired.nil
  | _,_,n+1,.cons r t=>by simpa using Paired.cons r (Paired.take n t)
noncomputable def sM:List Pt->List (Pt × Pt)
  | []=>[]
  | p :: r=>r.map (fun q=>(p,q)) ++ sM r
noncomputable def above (ps:List Pt) (x y:Int):Nat:=((sM ps).filter fun pr=>decide (bendI pr.1 pr.2 (x,y)<=0)).length
section InBlock
variable {X:Cx} {NY:List Str} {scope:Scope} {s:Shared} {H:Hp} {C:Addr} {fp:List Addr}
end InBlock
end L2
end
section
namespace L2
open PySem PySem.Spec PyProof.Rows
mutual
inductive DV (K:FG) (H:Hp):V->PyData->Prop
  | non:DV K H .non .none
  | bl (b:Bool):DV K H (.bl b) (.bool b)
  | int (i:Int):DV K H (.int i) (.int i)
  | str (x:Str):DV K H (.str x) (.str x)
  | tup {a:Addr} {xs:List V} {ds:List PyData}:SqT K H a xs->DVs K H xs ds->DV K H (.ref a) (.tuple ds)
  | lst {a:Addr} {xs:List V} {ds:List PyData}:SqL K H a xs->DVs K H xs ds->DV K H (.ref a) (.list ds)
inductive DVs (K:FG) (H:Hp):List V->List PyData->Prop
  | nil:DVs K H [] []
  | cons {x:V} {d:PyData} {xs:List V} {ds:List PyData}:DV K H x d->DVs K H xs ds->DVs K H (x :: xs) (d :: ds)
end
section
variable {X:Cx} {pins:List (Addr × Obj)} {σ:St} {H:Hp} {s:Shared}
mutual
theorem DV.reads (I:Inv X pins σ H s):∀ {v:V} {d:PyData} {u:Value},DV X.K H v d->RelV v u->∃ as,Reads s.heap u d as
  | _,_,u,.non,r=>by cases (show u=Value.none from r);exact ⟨_,.none⟩
  | _,_,u,.bl b,r=>by cases (show u=Value.bool b from r);exact ⟨_,.bool b⟩
  | _,_,u,.int i,r=>by obtain ⟨t,rfl⟩:=r;exact ⟨_,.int i t⟩
  | _,_,u,.str x,r=>by obtain ⟨t,rfl⟩:=r;exact ⟨_,.str x t⟩
  | _,_,u,.tup (a:=a) h rs,r=>by
    cases (show u=Value.ref a from r)
    obtain ⟨its,rv,⟨o,e,c,n,d⟩,_⟩:=I.tuple h
    obtain ⟨as,q⟩:=DVs.reads I rs rv
    exact ⟨_,.tuple e c d (by simpa using q)⟩
  | _,_,u,.lst (a:=a) h rs,r=>by
    cases (show u=Value.ref a from r)
    obtain ⟨its,rv,⟨o,n,e,c,_,d⟩,_⟩:=I.list h
    obtain ⟨as,q⟩:=DVs.reads I rs rv
    exact ⟨_,.list e c d (by simpa using q)⟩
theorem DVs.reads (I:Inv X pins σ H s):∀ {v:List V} {d:List PyData} {us:List Value},DVs X.K H v d->Vals v us->∃ as,ReadsAll s.heap us d as
  | _,_,_,.nil,.nil=>⟨_,.nil⟩
  | _,_,_,.cons h r,.cons q t=>by
    obtain ⟨as,e1⟩:=DV.reads I h q
    obtain ⟨bs,e2⟩:=DVs.reads I r t
    exact ⟨_,.cons e1 e2⟩
end
end
end L2
end
section
namespace L2
open PySem PySem.Spec PyProof.Rows
end L2
end
section
namespace L2
open PySem PySem.Spec PyProof.Rows
end L2
end
section
namespace L2
open PySem PySem.Spec PyProof.Rows
end L2
end
section
namespace L2
open PySem PySem.Spec PyProof.Rows
end L2
end
section
namespace L2
open PySem PySem.Spec PyProof.Rows
end L2
end
section
namespace L2
open PySem PySem.Spec PyProof.Rows
end L2
end
section
namespace L2
open PySem PySem.Spec PyProof.Rows
end L2
end
section
namespace L2
open PySem PySem.Spec PyProof.Rows
end L2
end
section
namespace L2
open PySem PySem.Spec PyProof.Rows
end L2
end
section
namespace L2
open PySem PySem.Spec PyProof.Rows
end L2
end
section
namespace PySem
open Sem (wp)
end PySem
end
section
namespace L2
open PySem PySem.Spec PyProof.Rows
end L2
end
section
namespace L2
open PySem PySem.Spec PyProof.Rows
noncomputable def IsPair (h:Heap) (b:Addr) (n:Int × Int):Prop:=∃ o t u m,h.get? b=some o/\o.cls=.type "tuple"/\o.data=.seq #[.int n.1 t,.int n.2 u] m
end L2
end
section
namespace L2
open PySem
theorem n6:typeLookup (.type "zip") "__getattr__"=pure none:=by rw [typeLookup_type,builtinLookup_eq_fast];kernel_rfl
theorem qy:entryFor table "zip.__getattribute__"=some Builtin.«object.__getattribute__»:=entryFor_alias (id':="object.__getattribute__") (by kernel_rfl) (by decide +kernel) (by decide +kernel) (by kernel_rfl)
theorem mM {a:Addr} {vs:Array Value} {sl:Array (Option Value)} {name:Str} {u:Tok} (hmiss:typeLookup (.type "zip") name=pure none) (hname:(["__module__","__name__","__qualname__","__doc__","__annotations__"]:List Str).contains name=false) (hsz:name.length+100<=sizeLine) :
    Meets (Builtin.«object.__getattribute__» ⟨[.ref a,.str name u],[]⟩) (fun A R s=>s.heap.get? a=some { cls:=.type "zip",dict:=none,data:=.fields vs,slots:=sl }/\raisesAttr (.ref a) name A R s):=by
  refine .of_wp fun prog w A R s h=>?_
  obtain ⟨hp,g,d,tk,os⟩:=s
  obtain ⟨hx,h⟩:=h
  have ty:(⟨hp,g,d,tk,os⟩:Shared).TypeIs (.ref a) "zip":=⟨_,hx,rfl⟩
  wp_walk
  refine wpAny_ite_false (by rw [hname];rfl) ?_
  wp_walk
  exact wpAny_raiseAttrError h.1 h.2 (attrMsg_fits (by decide +kernel) hsz)
theorem getAttr?_miss_zip {prog:Program} {w:World} {A:Around} {E:Value->Shared->Prop} {s:Shared} {a:Addr} {o:Obj} {vs:Array Value} {name:Str} {Q:Option Value->Shared->Prop}
    (hx:s.heap.get? a=some o) (hc:o.cls=.type "zip") (hdat:o.data=.fields vs) (hd:o.dict=none) (hmiss:typeLookup (.type "zip") name=pure none) (hname:(["__module__","__name__","__qualname__","__doc__","__annotations__"]:List Str).contains name=false) (hh:A.handled=none)
    (h:∀ h' tk e,Heap.NewExcOf s.heap h' e "AttributeError"->Q none { s with heap:=h',toks:=tk }) (hsz:name.length+100<=sizeLine:=by size_fits) :
    wpAny (model prog w) A (getAttr? (.ref a) name) Q E s:=by
  obtain ⟨c,dct,dat,sl⟩:=o
  obtain ⟨hp,g,d,tk,os⟩:=s
  simp only at hc hdat hd
  subst hc hdat hd
  have ty:(⟨hp,g,d,tk,os⟩:Shared).TypeIs (.ref a) "zip":=⟨_,hx,rfl⟩
  have l1:=F.slot_zip_getattribute.lookup
  have l2:=F.slot_zip_getattribute.bind (.ref a)
  have l3:=n6
  have l4:=sub_AttributeError
  have ty':∀ tk',(⟨hp,g,d,tk',os⟩:Shared).TypeIs (.ref a) "zip":=fun _=>⟨_,hx,rfl⟩
  repeat ((fail_if_success with_reducible refine wpAny_call ?_);wp_step)
  refine call_meets F.slot_zip_getattribute (ty' _) qy (F.args_zip_getattribute_2 _ _) (mM (vs:=vs) (sl:=sl) hmiss hname hsz) ⟨hx,hh,fun h' tk' e n=>?_⟩
  obtain ⟨t',u',he⟩:=n.there
  refine (?_:wpAny _ _ (getattributeRaised _ _ _ _ _ _ _) _ _ _)
  have in2:(⟨h',g,d,tk',os⟩:Shared).TypeIs (.ref e) "AttributeError":=⟨_,he,rfl⟩
  wp_walk
  exact h _ _ _ n.of
noncomputable abbrev bI (h:Heap) (z TI TO:Addr) (f0 f1:Value):Prop :=
  h.get? z=some { cls:=.type "zip",dict:=none,data:=.fields #[f0,f1,.bool false,.ref TI,.ref TO],slots:=#[] }
noncomputable def dF (h:Heap) (z TO i1 i2:Addr) (f0 f1:Value):Prop:=(f0=.none/\f1=.bool false)\/∃ (T:Nat) (o:Obj),f0=rawInt (T:Nat)/\h.get? T=some o/\∃ b,f1=.bool b/\T ≠ z/\T ≠ TO/\T ≠ i1/\T ≠ i2
theorem n5 (l1 l2:Addr) (xs ys:Array Value) :
    Meets (Builtin.«zip.__new__» ⟨[.type "zip",.ref l1,.ref l2],[]⟩) (fun _ R s=>s.heap.IsList l1 xs/\s.heap.IsTuple l2 ys /\
      ∀ h',(∀ n,n=s.heap.objs.size->bI h' (n+4) (n+2) (n+3) .none (.bool false)/\PySem.IsPair h' (n+2) (.ref n) (.ref (n+1))/\PySem.IsPair h' (n+3) .none .none/\h'.IsListIter n l1 0/\h'.IsTupleIter (n+1) l2 0/\h'.objs.size=n+5) ->
        (∀ c o,s.heap.get? c=some o->h'.get? c=some o)->R (.ok (.ret (.ref (s.heap.objs.size+4)))) { s with heap:=h' }):=by
  refine .of_wp fun prog w A R s h=>?_
  obtain ⟨hp,g,d,tk,os⟩:=s
  obtain ⟨a1,a2,h⟩:=h
  have sub:=sub_zip
  have it1:Heap.IsList (Shared.heap ⟨hp,g,d,tk,os⟩) l1 xs:=a1
  have it2:Heap.IsTuple (Shared.heap ⟨hp.push { cls:=.type "list_iterator",data:=.fields #[.ref l1,.int 0 0] },g,d,tk,os⟩) l2 ys:=Heap.IsTuple.push a2 _
  wp_walk using wpAny_pyIter_list it1,wpAny_pyIter_tuple it2
  refine ⟨_,rfl,?_⟩
  simp only [wb]
  have new:∀ (h:Heap) (u:Obj),u.isFreed=false->∀ n,h.objs.size=n->(h.push u).get? n=some u:=fun h u e n z=>z ▸ vB _ e
  have keep:∀ (h:Heap) (u:Obj) {c o},h.get? c=some o->(h.push u).get? c=some o:=fun h u=>vq _
  refine h _ (fun n e=>?_) fun c o e=>keep _ _ (keep _ _ (keep _ _ (keep _ _ (keep _ _ e))))
  subst e
  refine ⟨new _ _ rfl _ ?_,keep _ _ (keep _ _ (new _ _ rfl _ ?_)),keep _ _ (new _ _ rfl _ ?_),⟨_,keep _ _ (keep _ _ (keep _ _ (keep _ _ (new _ _ rfl _ ?_)))),rfl,rfl⟩,⟨_,keep _ _ (keep _ _ (keep _ _ (new _ _ rfl _ ?_))),rfl,rfl⟩,?_⟩ <;> simp only [wb]
section
variable {prog:Program} {w:World} {A:Around} {E:Value->Shared->Prop} {s:Shared}
theorem cU {it l:Addr} {i:Nat} {items} {x:Value} {Q:Value->Shared->Prop} (hit:s.heap.IsTupleIter it l i)
    (hl:s.heap.IsTuple l items) (hx:items[i]?=some x)
    (hQ:∀ h',h'.IsTupleIter it l (i+1)->Heap.SameBut it s.heap h'->Q x { s with heap:=h' }) :
    wpAny (model prog w) A (Builtin.SmallTypes.nextOf (.ref it)) Q E s:=by
  have ty:=hit.typeIs
  obtain ⟨⟨c1,d1,x1,s1⟩,h1,e1,e2⟩:=hit
  obtain ⟨⟨c2,d2,x2,s2⟩,h2,e3,n,e4⟩:=hl
  obtain ⟨hp,g,dr,tk,os⟩:=s
  simp only at e1 e2 e3 e4
  subst e1 e2 e3 e4
  unfold Builtin.SmallTypes.nextOf
  refine vj (wpAny_callSpecial?_slot ty F.slot_tuple_iterator_next (wpAny_call_entry F.slot_tuple_iterator_next ty F.entry_tuple_iterator_next ?_ (F.args_tuple_iterator_next_1 _)))
  wp_walk
  rw [show items[(i:Int).toNat]?=some x from hx]
  wp_walk
  exact ⟨_,rfl,vm (hQ _ ⟨_,vR _ h1 rfl,rfl,rfl⟩ (Heap.SameBut.update ..))⟩
theorem jF {z TI TO T:Addr} {b:Bool} {oT:Obj} {R:Bool->Shared->Prop} (hz:bI s.heap z TI TO (rawInt (T:Nat)) (.bool b)) (hT:s.heap.get? T=some oT)
    (hR:∀ h₁,bI h₁ z TI TO (rawInt (T:Nat)) (.bool true)->Heap.SameBut z s.heap h₁->R false { s with heap:=h₁ }):wpAny (model prog w) A (Builtin.SmallTypes.ownedTupleIsFree (.ref z)) R E s:=by
  unfold Builtin.SmallTypes.ownedTupleIsFree
  refine vj (wpAny_field hz rfl (x:=rawInt (T:Nat)) rfl ?_)
  show wpAny _ _ (loadIfAlive (Int.toNat (T:Int)) >>= _) _ _ _
  refine vj (fun Γ p hΓ=>?_)
  show Sem.wp _ _ (Sem.loadIfAlive _ Sem.pure) _ _ _ _
  rw [Sem.wp_loadIfAlive,Int.toNat_natCast,hT]
  refine (show wpAny (model prog w) A (pure (some oT)) _ E s from vm ?_) Γ p hΓ
  simp only [Option.isNone_some,vY,if_false]
  refine vj (wpAny_field hz rfl (x:=.bool b) rfl ?_)
  cases b with
  | true=>exact vm (hR s.heap hz (Heap.SameBut.refl _ _))
  | false =>
    refine vj (wpAny_setField_rec hz (by simp) fun h₁ hz₁ hs₁=>vm (hR h₁ hz₁ hs₁))
theorem ik {z TI TO i1 i2 l1 l2 T:Addr} {k1 k2:Nat} {xs ys:Array Value} {x y:Value} {b:Bool} {oT:Obj} {Q:Value->Shared->Prop} (D:ZipApart z TI TO i1 i2 l1 l2)
    (hz:bI s.heap z TI TO (rawInt (T:Nat)) (.bool b)) (hT:s.heap.get? T=some oT) (hTI:PySem.IsPair s.heap TI (.ref i1) (.ref i2))
    (h1:s.heap.IsListIter i1 l1 k1) (h2:s.heap.IsTupleIter i2 l2 k2) (hl1:s.heap.IsList l1 xs) (hl2:s.heap.IsTuple l2 ys) (hx:xs[k1]?=some x) (hy:ys[k2]?=some y)
    (hQ:∀ h',bI h' z TI TO (rawInt (T:Nat)) (.bool true)->h'.IsListIter i1 l1 (k1+1)->h'.IsTupleIter i2 l2 (k2+1)->PySem.IsPair h' s.heap.objs.size x y->h'.objs.size=s.heap.objs.size+1 ->
      (∀ c o,c ≠ z->c ≠ i1->c ≠ i2->s.heap.get? c=some o->h'.get? c=some o)->Q (.ref s.heap.objs.size) { s with heap:=h' }) :
    wpAny (model prog w) A (Builtin.«zip.__next__» ⟨[.ref z],[]⟩) (fun fin s'=>∃ v,fin=.done (.ret v)/\Q v s') E s:=by
  show wpAny _ _ (field (.ref z) 2 >>= _) _ _ _
  refine vj (wpAny_field hz rfl (x:=.bool false) rfl ?_)
  show wpAny _ _ (field (.ref z) 3 >>= _) _ _ _
  refine vj (wpAny_field hz rfl (x:=.ref TI) rfl ?_)
  refine vj (wpAny_seqItems hTI rfl ?_)
  show wpAny _ _ (Builtin.SmallTypes.ownedTupleIsFree (.ref z) >>= _) _ _ _
  refine vj (jF hz hT fun h₁ hz₁ hs₁=>?_)
  simp only [vY,if_false]
  refine vj ?_
  rw [<- Array.forIn_toList]
  simp only [List.forIn_cons,List.forIn_nil]
  refine vj (vj (vn ?_))
  show wpAny _ _ (Builtin.SmallTypes.nextOf (.ref i1) >>= _) _ _ _
  refine vj (wpAny_nextOf_list_item (h1.extBut hs₁.extBut D.i1z) (hl1.extBut hs₁.extBut D.l1z) hx fun h₂ h1₂ hs₂=>vm ?_)
  refine vm (vj (vj (vn ?_)))
  show wpAny _ _ (Builtin.SmallTypes.nextOf (.ref i2) >>= _) _ _ _
  refine vj (cU ((h2.extBut hs₁.extBut D.i2z).extBut hs₂.extBut D.i12.symm) ((hl2.extBut hs₁.extBut D.l2z).extBut hs₂.extBut D.l2i1) hy fun h₃ h2₃ hs₃=>vm ?_)
  refine vm (vm ?_)
  show wpAny _ _ (newTuple [x,y] >>= _) _ _ _
  refine vj (wpAny_newTuple (vm ⟨_,rfl,?_⟩))
  have hz₃:bI h₃ z TI TO (rawInt (T:Nat)) (.bool true):=hs₃.extBut _ _ D.i2z.symm (hs₂.extBut _ _ D.i1z.symm hz₁)
  have hsz:h₃.objs.size=s.heap.objs.size:=by rw [hs₃.1,hs₂.1,hs₁.1]
  have g:(h₃.push { cls:=.type "tuple",data:=.seq #[x,y] }).get? h₃.objs.size=some _:=vB _ rfl
  have:=hQ (h₃.push { cls:=.type "tuple",data:=.seq #[x,y] }) (vq _ hz₃) ((fun ⟨o,e,r⟩=>⟨o,vq _ e,r⟩:h₃.IsListIter i1 l1 (k1+1)->_) (h1₂.extBut hs₃.extBut D.i12)) ((fun ⟨o,e,r⟩=>⟨o,vq _ e,r⟩:h₃.IsTupleIter i2 l2 (k2+1)->_) h2₃)
    (by rw [hsz] at g;exact g) (by rw [wb,hsz]) fun c o c1 c2 c3 e=>vq _ (hs₃.extBut _ _ c3 (hs₂.extBut _ _ c2 (hs₁.extBut _ _ c1 e)))
  rw [<- hsz] at this
  exact this
theorem gA {z TI TO i1 i2 l1 l2:Addr} {k1 k2:Nat} {xs ys:Array Value} {x y a b:Value} {Q:Value->Shared->Prop} (D:ZipApart z TI TO i1 i2 l1 l2)
    (hz:bI s.heap z TI TO .none (.bool false)) (hTI:PySem.IsPair s.heap TI (.ref i1) (.ref i2)) (hTO:PySem.IsPair s.heap TO a b)
    (h1:s.heap.IsListIter i1 l1 k1) (h2:s.heap.IsTupleIter i2 l2 k2) (hl1:s.heap.IsList l1 xs) (hl2:s.heap.IsTuple l2 ys) (hx:xs[k1]?=some x) (hy:ys[k2]?=some y)
    (hQ:∀ h',bI h' z TI TO (rawInt s.heap.objs.size) (.bool false)->h'.IsListIter i1 l1 (k1+1)->h'.IsTupleIter i2 l2 (k2+1)->(∃ a b,PySem.IsPair h' TO a b)/\PySem.IsPair h' s.heap.objs.size x y->h'.objs.size=s.heap.objs.size+1 ->
      (∀ c o,c ≠ z->c ≠ TO->c ≠ i1->c ≠ i2->s.heap.get? c=some o->h'.get? c=some o)->Q (.ref s.heap.objs.size) { s with heap:=h' }) :
    wpAny (model prog w) A (Builtin.«zip.__next__» ⟨[.ref z],[]⟩) (fun fin s'=>∃ v,fin=.done (.ret v)/\Q v s') E s:=by
  obtain ⟨hp,g,dr,tk,os⟩:=s
  obtain ⟨q1,q2,q3,q4,q5,q6,q7,q8,q9,q10,q11,q12,q13,q14,q15,q16,q17,q18⟩:=D
  repeat ((fail_if_success with_reducible refine wpAny_onRaise ?_);wp_step)
  refine wpAny_onRaise (vj ?_)
  refine wpAny_nextOf_list_item (h1.extBut (Heap.SameBut.update ..).extBut q3) (hl1.extBut (Heap.SameBut.update ..).extBut q11) hx fun h₂ j1 s₂=>?_
  have z₂:bI h₂ z TI TO .ellipsis (.bool false):=s₂.extBut _ _ (Ne.symm q3) (vR _ hz rfl)
  have t₂:PySem.IsPair h₂ TO a b:=s₂.extBut _ _ q8 ((Heap.SameBut.update ..).extBut _ _ q2 hTO)
  have k₂:∀ c o,c ≠ z->c ≠ i1->hp.get? c=some o->h₂.get? c=some o:=fun c o c1 c2 e=>s₂.extBut _ _ c2 ((Heap.SameBut.update ..).extBut _ _ c1 e)
  have n₂:h₂.objs.size=hp.objs.size:=by rw [s₂.1];exact (Heap.SameBut.update ..).1
  clear s₂
  repeat ((fail_if_success with_reducible refine wpAny_onRaise ?_);wp_step)
  refine wpAny_onRaise (vj ?_)
  refine cU (it:=i2) (l:=l2) ((fun ⟨o,e,r⟩=>⟨o,(Heap.SameBut.update ..).extBut _ _ (Ne.symm q9) (k₂ _ _ q4 (Ne.symm q10) e),r⟩:hp.IsTupleIter i2 l2 k2->_) h2) ((fun ⟨o,e,r⟩=>⟨o,(Heap.SameBut.update ..).extBut _ _ q16 (k₂ _ _ q15 q17 e),r⟩:hp.IsTuple l2 ys->_) hl2) hy fun h₄ j2 s₄=>?_
  have z₄:bI h₄ z TI TO .ellipsis (.bool false):=s₄.extBut _ _ (Ne.symm q4) ((Heap.SameBut.update ..).extBut _ _ (Ne.symm q2) z₂)
  have t₄:PySem.IsPair h₄ TO x b:=s₄.extBut _ _ q9 (vR _ t₂ rfl)
  have j1':h₄.IsListIter i1 l1 (k1+1):=j1.extBut (Heap.SameBut.update ..).extBut (Ne.symm q8) |>.extBut s₄.extBut q10
  have k₄:∀ c o,c ≠ z->c ≠ TO->c ≠ i1->c ≠ i2->hp.get? c=some o->h₄.get? c=some o:=fun c o c1 c2 c3 c4 e=>s₄.extBut _ _ c4 ((Heap.SameBut.update ..).extBut _ _ c2 (k₂ c o c1 c3 e))
  have n₄:h₄.objs.size=hp.objs.size:=by rw [s₄.1,<- n₂];exact (Heap.SameBut.update ..).1
  clear s₄ j1 z₂ t₂ k₂ n₂
  have n₅:∀ f,(h₄.update TO f).objs.size=hp.objs.size:=fun f=>by rw [Heap.size_update,n₄]
  have lz:=vz hz
  have up:∀ (h:Heap) (u:Obj) (f f':Obj->Obj) (c:Addr) (o:Obj),c ≠ z->h.get? c=some o->(((h.push u).update z f).update z f').get? c=some o:=fun h u f f' c o n e=>(Heap.SameBut.update ..).extBut _ _ n ((Heap.SameBut.update ..).extBut _ _ n (vq _ e))
  have k₅:∀ f c o,c ≠ TO->h₄.get? c=some o->(h₄.update TO f).get? c=some o:=fun f c o n e=>(Heap.SameBut.update ..).extBut _ _ n e
  have new:∀ (h:Heap) (u:Obj),u.isFreed=false->(h.push u).get? h.objs.size=some u:=fun h u e=>vB _ e
  wp_walk
  refine ⟨_,rfl,?_⟩
  have w:=new (h₄.update TO (Obj.mapSeq fun v:Array Value=>v.setIfInBounds (0+1) y)) { cls:=.type "tuple",data:=.seq #[x,y] } rfl
  simp only [n₅] at w ⊢
  refine hQ _ (vR _ (vR _ (vq _ (k₅ _ _ _ (Ne.symm q2) z₄)) rfl) rfl) ?_ ?_ ⟨⟨x,y,up _ _ _ _ _ _ q2 (vR _ t₄ rfl)⟩,?_⟩ ?_ ?_
  · exact (fun ⟨o,e,r⟩=>⟨o,up _ _ _ _ _ _ q3 (k₅ _ _ _ (Ne.symm q8) e),r⟩:h₄.IsListIter i1 l1 (k1+1)->_) j1'
  · exact (fun ⟨o,e,r⟩=>⟨o,up _ _ _ _ _ _ q4 (k₅ _ _ _ (Ne.symm q9) e),r⟩:h₄.IsTupleIter i2 l2 (k2+1)->_) j2
  · exact (Heap.SameBut.update ..).extBut _ _ (Nat.ne_of_gt lz) ((Heap.SameBut.update ..).extBut _ _ (Nat.ne_of_gt lz) w)
  · rw [Heap.size_update,Heap.size_update,wb,n₅]
  · exact fun c o c1 c2 c3 c4 e=>up _ _ _ _ _ _ c1 (k₅ _ _ _ c2 (k₄ c o c1 c2 c3 c4 e))
theorem n4 {z TI TO i1 i2 l1 l2:Addr} {k1 k2:Nat} {xs ys:Array Value} {x y a b f0 f1:Value} {Q:Value->Shared->Prop} (D:ZipApart z TI TO i1 i2 l1 l2)
    (hz:bI s.heap z TI TO f0 f1) (hm:dF s.heap z TO i1 i2 f0 f1) (hTI:PySem.IsPair s.heap TI (.ref i1) (.ref i2)) (hTO:PySem.IsPair s.heap TO a b)
    (h1:s.heap.IsListIter i1 l1 k1) (h2:s.heap.IsTupleIter i2 l2 k2) (hl1:s.heap.IsList l1 xs) (hl2:s.heap.IsTuple l2 ys) (hx:xs[k1]?=some x) (hy:ys[k2]?=some y)
    (hQ:∀ h' f0' f1',bI h' z TI TO f0' f1'->dF h' z TO i1 i2 f0' f1'->(∃ a b,PySem.IsPair h' TO a b)->h'.IsListIter i1 l1 (k1+1)->h'.IsTupleIter i2 l2 (k2+1)->PySem.IsPair h' s.heap.objs.size x y->h'.objs.size=s.heap.objs.size+1 ->
      (∀ c o,c ≠ z->c ≠ TO->c ≠ i1->c ≠ i2->s.heap.get? c=some o->h'.get? c=some o)->Q (.ref s.heap.objs.size) { s with heap:=h' }) :
    wpAny (model prog w) A (Builtin.«zip.__next__» ⟨[.ref z],[]⟩) (fun fin s'=>∃ v,fin=.done (.ret v)/\Q v s') E s:=by
  have lz:z < s.heap.objs.size:=vz hz
  have lTO:TO < s.heap.objs.size:=vz hTO
  have l1':i1 < s.heap.objs.size:=by obtain ⟨_,e,_⟩:=h1;exact vz e
  have l2':i2 < s.heap.objs.size:=by obtain ⟨_,e,_⟩:=h2;exact vz e
  rcases hm with ⟨rfl,rfl⟩ | ⟨T,oT,rfl,hT,b,rfl,t1,t2,t3,t4⟩
  · exact gA D hz hTI hTO h1 h2 hl1 hl2 hx hy fun h' a1 a2 a3 a4 a5 a6=>hQ h' _ _ a1 (.inr ⟨_,_,rfl,a4.2,_,rfl,Nat.ne_of_gt lz,Nat.ne_of_gt lTO,Nat.ne_of_gt l1',Nat.ne_of_gt l2'⟩) a4.1 a2 a3 a4.2 a5 a6
  · exact ik D hz hT hTI h1 h2 hl1 hl2 hx hy fun h' a1 a2 a3 a4 a5 a6=>hQ h' _ _ a1 (.inr ⟨_,_,rfl,a6 _ _ t1 t3 t4 hT,_,rfl,t1,t2,t3,t4⟩) ⟨_,_,a6 _ _ D.TOz D.TOi1 D.TOi2 hTO⟩ a2 a3 a4 a5 fun c o c1 _ c3 c4 e=>a6 c o c1 c3 c4 e
theorem qz {z TI TO i1 i2 l1 l2:Addr} {k1:Nat} {xs:Array Value} {a b f0 f1:Value} {Q:Fin->Shared->Prop} (hh:A.handled=none) (D:ZipApart z TI TO i1 i2 l1 l2)
    (hz:bI s.heap z TI TO f0 f1) (hm:dF s.heap z TO i1 i2 f0 f1) (hTI:PySem.IsPair s.heap TI (.ref i1) (.ref i2)) (hTO:PySem.IsPair s.heap TO a b)
    (h1:s.heap.IsListIter i1 l1 k1) (hl1:s.heap.IsList l1 xs) (hend:xs[k1]?=none)
    (hE:∀ h' e,(∀ c o,c ≠ z->c ≠ TO->c ≠ i1->c ≠ i2->s.heap.get? c=some o->h'.get? c=some o)->(∃ o,h'.get? e=some o/\o.cls=.type "StopIteration")->E (.ref e) { s with heap:=h' }) :
    wpAny (model prog w) A (Builtin.«zip.__next__» ⟨[.ref z],[]⟩) Q E s:=by
  show wpAny _ _ (field (.ref z) 2 >>= _) _ _ _
  refine vj (wpAny_field hz rfl (x:=.bool false) rfl ?_)
  show wpAny _ _ (field (.ref z) 3 >>= _) _ _ _
  refine vj (wpAny_field hz rfl (x:=.ref TI) rfl ?_)
  refine vj (wpAny_seqItems hTI rfl ?_)
  show wpAny _ _ (Builtin.SmallTypes.ownedTupleIsFree (.ref z) >>= _) _ _ _
  rcases hm with ⟨rfl,rfl⟩ | ⟨T,oT,rfl,hT,b,rfl,t1,t2,t3,t4⟩
  · refine vj ?_
    unfold Builtin.SmallTypes.ownedTupleIsFree
    refine vj (wpAny_field hz rfl (x:=.none) rfl (vm ?_))
    simp only [if_true]
    refine vj (wpAny_rule ?_)
    refine vj (wpAny_field hz rfl (x:=.ref TO) rfl ?_)
    refine vj (wpAny_setField_rec hz (by simp) fun h₁ hz₁ hs₁=>?_)
    replace hz₁:bI h₁ z TI TO .ellipsis (.bool false):=hz₁
    refine vj ?_
    simp only [List.zipIdx_cons,List.zipIdx_nil,List.forIn_cons,List.forIn_nil]
    refine vj (vj (wpAny_onRaise ?_))
    show wpAny _ _ (Builtin.SmallTypes.nextOf (.ref i1) >>= _) _ _ _
    refine vj (wpAny_nextOf_list_end hh (h1.extBut hs₁.extBut D.i1z) (hl1.extBut hs₁.extBut D.l1z) hend fun h₂ e hs₂ he=>?_)
    obtain ⟨oe,hoe,hce⟩:=he
    have hz₂:bI h₂ z TI TO .ellipsis (.bool false):=hs₂ _ _ D.i1z.symm hz₁
    have hez:e ≠ z:=fun x=>by subst x;rw [hz₂] at hoe;cases hoe;simp at hce
    refine wpAny_setField_rec hz₂ (by simp) fun h₃ _ hs₃=>hE h₃ e (fun c o c1 _ c3 _ x=>hs₃.extBut _ _ c1 (hs₂ _ _ c3 (hs₁.extBut _ _ c1 x))) ⟨oe,hs₃.extBut _ _ hez hoe,hce⟩
  · refine vj (jF hz hT fun h₁ hz₁ hs₁=>?_)
    simp only [vY,if_false]
    refine vj ?_
    rw [<- Array.forIn_toList]
    simp only [List.forIn_cons,List.forIn_nil]
    refine vj (vj (vn ?_))
    show wpAny _ _ (Builtin.SmallTypes.nextOf (.ref i1) >>= _) _ _ _
    refine vj (wpAny_nextOf_list_end hh (h1.extBut hs₁.extBut D.i1z) (hl1.extBut hs₁.extBut D.l1z) hend fun h₂ e hs₂ he=>?_)
    exact hE h₂ e (fun c o c1 _ c3 _ x=>hs₂ _ _ c3 (hs₁.extBut _ _ c1 x)) he
theorem nQ {l1 l2:Addr} {xs ys:Array Value} {Q:Value->Shared->Prop} (hl1:s.heap.IsList l1 xs) (hl2:s.heap.IsTuple l2 ys)
    (h:∀ h',IsZip h' (s.heap.objs.size+4) (s.heap.objs.size+2) (s.heap.objs.size+3) .none->PySem.IsPair h' (s.heap.objs.size+2) (.ref s.heap.objs.size) (.ref (s.heap.objs.size+1)) ->
      PySem.IsPair h' (s.heap.objs.size+3) .none .none->h'.IsListIter s.heap.objs.size l1 0->h'.IsTupleIter (s.heap.objs.size+1) l2 0->h'.objs.size=s.heap.objs.size+5 ->
      (∀ c o,s.heap.get? c=some o->h'.get? c=some o)->Q (.ref (s.heap.objs.size+4)) { s with heap:=h' }) :
    wpAny (model prog w) A (call (.type "zip") [.ref l1,.ref l2]) Q E s :=
  callType_new F.called_zip (by decide) (F.typeCall_zip_2 _ _) (F.newCall_zip_2 _ _) (fun obj=>F.args_object_init_3 obj _ _) F.entry_zip_new (n5 l1 l2 xs ys) ⟨hl1,hl2,fun h' f k =>
    let ⟨a,b,c,d,e,z⟩:=f _ rfl
    ⟨⟨_,a,rfl⟩,h h' a b c d e z k⟩⟩
end
end L2
end
section
namespace L2
open PySem
namespace Fz
theorem entry_dict_update_loop:entryFor table "dict.update.loop"=some Builtin.«dict.update.loop»:=entryFor_of_tree (by kernel_rfl)
theorem plain_dict_update_loop:plainId "dict.update.loop"=true:=by decide +kernel
end Fz
section
variable {prog:Program} {w:World} {K:Type} [DecidableEq K] {knd:HeapKind prog w K} {A:Around} {E:Value->Shared->Prop} {s:Shared}
theorem nc {z TI TO i1 i2 l1 l2:Addr} {k1 k2:Nat} {xs ys:Array Value} {x y a b f0 f1:Value} {Q:Option Value->Shared->Prop} (D:ZipApart z TI TO i1 i2 l1 l2)
    (hz:bI s.heap z TI TO f0 f1) (hm:dF s.heap z TO i1 i2 f0 f1) (hTI:PySem.IsPair s.heap TI (.ref i1) (.ref i2)) (hTO:PySem.IsPair s.heap TO a b)
    (h1:s.heap.IsListIter i1 l1 k1) (h2:s.heap.IsTupleIter i2 l2 k2) (hl1:s.heap.IsList l1 xs) (hl2:s.heap.IsTuple l2 ys) (hx:xs[k1]?=some x) (hy:ys[k2]?=some y)
    (hQ:∀ h' f0' f1',bI h' z TI TO f0' f1'->dF h' z TO i1 i2 f0' f1'->(∃ a b,PySem.IsPair h' TO a b)->h'.IsListIter i1 l1 (k1+1)->h'.IsTupleIter i2 l2 (k2+1)->PySem.IsPair h' s.heap.objs.size x y->h'.objs.size=s.heap.objs.size+1 ->
      (∀ c o,c ≠ z->c ≠ TO->c ≠ i1->c ≠ i2->s.heap.get? c=some o->h'.get? c=some o)->Q (some (.ref s.heap.objs.size)) { s with heap:=h' }) :
    wpAny (model prog w) A (pyNext (.ref z)) Q E s:=by
  have hT:s.TypeIs (.ref z) "zip":=⟨_,hz,rfl⟩
  unfold pyNext
  exact vj (wpAny_attempt (wpAny_callSpecial?_slot (name:=Str.ofString "__next__") hT PySem.F.slot_zip_next
    (wpAny_call_entry PySem.F.slot_zip_next hT PySem.F.entry_zip_next
      (n4 D hz hm hTI hTO h1 h2 hl1 hl2 hx hy fun h' f0' f1' a1 a2 a3 a4 a5 a6 a7 a8=>vm (hQ h' f0' f1' a1 a2 a3 a4 a5 a6 a7 a8)) (PySem.F.args_zip_next_1 _))))
theorem pq {z TI TO i1 i2 l1 l2:Addr} {k1:Nat} {xs:Array Value} {a b f0 f1:Value} {Q:Option Value->Shared->Prop} (hh:A.handled=none) (D:ZipApart z TI TO i1 i2 l1 l2)
    (hz:bI s.heap z TI TO f0 f1) (hm:dF s.heap z TO i1 i2 f0 f1) (hTI:PySem.IsPair s.heap TI (.ref i1) (.ref i2)) (hTO:PySem.IsPair s.heap TO a b)
    (h1:s.heap.IsListIter i1 l1 k1) (hl1:s.heap.IsList l1 xs) (hend:xs[k1]?=none)
    (hQ:∀ h',(∀ c o,c ≠ z->c ≠ TO->c ≠ i1->c ≠ i2->s.heap.get? c=some o->h'.get? c=some o)->Q none { s with heap:=h' }):wpAny (model prog w) A (pyNext (.ref z)) Q E s:=by
  have hT:s.TypeIs (.ref z) "zip":=⟨_,hz,rfl⟩
  unfold pyNext
  refine vj (wpAny_attempt (wpAny_callSpecial?_slot (name:=Str.ofString "__next__") hT PySem.F.slot_zip_next
    (wpAny_call_entry PySem.F.slot_zip_next hT PySem.F.entry_zip_next (qz hh D hz hm hTI hTO h1 hl1 hend fun h' e hk he=>?_) (PySem.F.args_zip_next_1 _))))
  obtain ⟨o,ho,hc⟩:=he
  refine vj (wpAny_isInstance (T:="StopIteration") (b:=true) ⟨o,ho,hc⟩ isSubtype_stop ?_)
  exact vm (hQ _ hk)
set_option tactic.hygienic true in
theorem lM {tr:List (K × Addr × Value)} (hn:(tr.map (·.1)).Nodup) {i:Nat} {t:K × Addr × Value} (e:tr[i]?=some t):storedH (tr.take i) t.1 t.2.1 t.2.2=tr.take (i+1):=by
  have hno:atKey (tr.take i) t.1=none:=by
    refine atKey_none_of_get fun j p hj=>?_
    have hlt:i < tr.length:=by obtain ⟨h,_⟩:=vD.mp e;exact h
    rw [List.getElem?_take] at hj
    split at hj
    · rename_i hji
      have hjl:j < tr.length:=Nat.lt_trans hji hlt
      have e1:(tr.map (·.1))[j]'(by simpa using hjl)=(tr.map (·.1))[i]'(by simpa using hlt):=by
        have h1:=vD.mp hj
        have h2:=vD.mp e
        simp only [List.getElem_map]
        rw [h1.2,h2.2]
      exact List.pairwise_iff_getElem.mp hn j i _ _ hji e1
    · cases hj
  rw [storedH_new hno,List.take_add_one,e]
  rfl
theorem nI (hh:A.in1.handled=none) (hu:knd.room A.in1) {z TI TO i1 i2 l1 l2 d:Addr} (D:ZipApart z TI TO i1 i2 l1 l2) (dz:d ≠ z) (dTI:d ≠ TI) (dTO:d ≠ TO) (d1:d ≠ i1) (d2:d ≠ i2) (dl1:d ≠ l1) (dl2:d ≠ l2)
    {tr:List (K × Addr × Value)} (hn:(tr.map (·.1)).Nodup) (hsz:tr.length<=sizeLine) {R:Result->Shared->Prop}
    (keep:∀ h h':Heap,(∀ t ∈ tr,knd.is h t.1 t.2.1)->(∀ c o,c ≠ z->c ≠ TO->c ≠ i1->c ≠ i2->h.get? c=some o->h'.get? c=some o)->∀ t ∈ tr,knd.is h' t.1 t.2.1) :
    ∀ (k i:Nat) (s:Shared) (f0 f1 a b:Value),tr.length - i=k->i<=tr.length->bI s.heap z TI TO f0 f1->dF s.heap z TO i1 i2 f0 f1->PySem.IsPair s.heap TI (.ref i1) (.ref i2)->PySem.IsPair s.heap TO a b ->
      s.heap.IsListIter i1 l1 i->s.heap.IsTupleIter i2 l2 i->s.heap.IsList l1 (tr.map fun t=>Value.ref t.2.1).toArray->s.heap.IsTuple l2 (tr.map fun t=>t.2.2).toArray ->
      (∀ t ∈ tr,knd.is s.heap t.1 t.2.1)->DictOfHE knd s.heap d (tr.take i) ->
      (∀ h' tk,DictOfHE knd h' d tr->(∀ c o,c ≠ z->c ≠ TO->c ≠ i1->c ≠ i2->c ≠ d->s.heap.get? c=some o->h'.get? c=some o)->R (.ok (.ret .none)) { s with heap:=h',toks:=tk }) ->
      codeAny (model prog w) A (.builtin "dict.update.loop" ⟨[.ref d,.ref z,rawInt i,.none],[]⟩) R s:=by
  have carry:∀ {h h':Heap} {ys:List (K × Addr × Value)},DictOfHE knd h d ys->(∀ t ∈ ys,knd.is h' t.1 t.2.1)->(∀ c o,c ≠ z->c ≠ TO->c ≠ i1->c ≠ i2->h.get? c=some o->h'.get? c=some o)->DictOfHE knd h' d ys:=fun ⟨o,es,ep,g1,g2,g3,g4,g5,g6,g7⟩ hi hk =>
    ⟨o,es,ep,hk d o dz dTO d1 d2 g1,g2,g3,g4,hi,g6,g7⟩
  intro k
  induction k with
  | zero =>
    intro i s f0 f1 a b hk hi hz hm hTI hTO h1 h2 hl1 hl2 his hd hR
    have hin:i=tr.length:=by omega
    subst hin
    refine codeAny_builtin Fz.entry_dict_update_loop ?_
    rw [Around.under_plainId Fz.plain_dict_update_loop _]
    show wpAny _ A.in1 (pyNext (.ref z) >>= _) _ _ s
    refine vj (pq hh D hz hm hTI hTO h1 hl1 (by simp) fun h' hk'=>?_)
    show wpAny _ A.in1 (Builtin.Dict.addKeywords d [] >>= _) _ _ _
    refine vj (vm (vm ?_))
    rw [List.take_length] at hd
    exact hR h' s.toks (carry hd (keep _ _ his hk') hk') fun c o c1 c2 c3 c4 _ e=>hk' c o c1 c2 c3 c4 e
  | succ k ih =>
    intro i s f0 f1 a b hk hi hz hm hTI hTO h1 h2 hl1 hl2 his hd hR
    have hlt:i < tr.length:=by omega
    have ht:tr[i]?=some tr[i]:=vy hlt
    have hmem:tr[i] ∈ tr:=List.getElem_mem hlt
    refine codeAny_builtin Fz.entry_dict_update_loop ?_
    rw [Around.under_plainId Fz.plain_dict_update_loop _]
    show wpAny _ A.in1 (pyNext (.ref z) >>= _) _ _ s
    refine vj (nc D hz hm hTI hTO h1 h2 hl1 hl2 (x:=.ref tr[i].2.1) (y:=tr[i].2.2) (by simp [ht]) (by simp [ht]) fun h' f0' f1' a1 a2 ⟨a',b',a3⟩ a4 a5 a6 a7 hk'=>?_)
    have his':=keep _ _ his hk'
    have hd':=carry hd (fun t q=>his' t (List.mem_of_mem_take q)) hk'
    refine vj (vn ?_)
    refine vj (wpAny_tryCatch ?_)
    unfold Builtin.Dict.pairItems
    refine vj (wpAny_typeOf (T:="tuple") ⟨_,a6,rfl⟩ ?_)
    rw [if_pos (by decide)]
    refine vj (wpAny_seqItems a6 rfl (vm ?_))
    show wpAny _ _ (holding [Value.ref tr[i].2.1,tr[i].2.2] (dictSet d (.ref tr[i].2.1) tr[i].2.2)) _ _ _
    refine vn (eM hu (his' _ hmem) hd' (hsz:=by rw [vU];omega) fun h₂ hd₂ hs₂=>?_)
    rw [lM hn ht] at hd₂
    obtain ⟨o',es',ep',g1,g2,g3,g4,g5,g6,g7⟩:=hd'
    refine vm ⟨plainId_quiet Fz.plain_dict_update_loop _,?_⟩
    have up:∀ c o,c ≠ d->h'.get? c=some o->h₂.get? c=some o:=fun c o c1 e=>hs₂.extBut _ _ c1 e
    refine ih (i+1) _ f0' f1' a' b' (by omega) hlt (up _ _ dz.symm a1) ?_ (up _ _ dTI.symm (hk' _ _ D.TIz D.TITO D.TIi1 D.TIi2 hTI)) (up _ _ dTO.symm a3) ?_ ?_ ?_ ?_ (fun t q=>knd.keeps (his' t q) g1 g3 hs₂) hd₂ fun h₃ tk hd₃ hk₃=>?_
    · rcases a2 with q | ⟨T,oT,e0,hT,b0,e1,t1⟩
      · exact .inl q
      · by_cases hTd:T=d
        · obtain ⟨o2,_,_,g,_⟩:=hd₂
          exact .inr ⟨T,o2,e0,hTd ▸ g,b0,e1,t1⟩
        · exact .inr ⟨T,oT,e0,up _ _ hTd hT,b0,e1,t1⟩
    · exact a4.at fun o e=>up _ o d1.symm e
    · obtain ⟨o,e,r⟩:=a5
      exact ⟨o,up _ o d2.symm e,r⟩
    · exact (hl1.at fun o e=>hk' _ o D.l1z D.l1TO D.l1i1 D.l1i2 e).at fun o e=>up _ o dl1.symm e
    · obtain ⟨o,e,r⟩:=hl2
      exact ⟨o,up _ o dl2.symm (hk' _ o D.l2z D.l2TO D.l2i1 D.l2i2 e),r⟩
    · exact hR h₃ tk hd₃ fun c o c1 c2 c3 c4 c5 e=>hk₃ c o c1 c2 c3 c4 c5 (up c o c5 (hk' c o c1 c2 c3 c4 e))
theorem pI:typeLookup (.type "zip") "keys"=pure none:=am_miss_of_fast (by kernel_rfl)
theorem jy (hh:A.handled=none) (hu:knd.room A.in1.in1) {z TI TO i1 i2 l1 l2:Addr} {a b:Value} (D:ZipApart z TI TO i1 i2 l1 l2)
    {tr:List (K × Addr × Value)} (hn:(tr.map (·.1)).Nodup) (hsz:tr.length<=sizeLine) {Q:Value->Shared->Prop}
    (keep:∀ h h':Heap,(∀ t ∈ tr,knd.is h t.1 t.2.1)->(∀ c o,c ≠ z->c ≠ TO->c ≠ i1->c ≠ i2->h.get? c=some o->h'.get? c=some o)->∀ t ∈ tr,knd.is h' t.1 t.2.1)
    (hz:bI s.heap z TI TO .none (.bool false)) (hTI:PySem.IsPair s.heap TI (.ref i1) (.ref i2)) (hTO:PySem.IsPair s.heap TO a b)
    (h1:s.heap.IsListIter i1 l1 0) (h2:s.heap.IsTupleIter i2 l2 0) (hl1:s.heap.IsList l1 (tr.map fun t=>Value.ref t.2.1).toArray) (hl2:s.heap.IsTuple l2 (tr.map fun t=>t.2.2).toArray)
    (his:∀ t ∈ tr,knd.is s.heap t.1 t.2.1)
    (hQ:∀ h' tk,DictOfHE knd h' s.heap.objs.size tr->(∀ c o,c ≠ z->c ≠ TO->c ≠ i1->c ≠ i2->s.heap.get? c=some o->h'.get? c=some o)->Q (.ref s.heap.objs.size) { s with heap:=h',toks:=tk }) :
    wpAny (model prog w) A (call (.type "dict") [.ref z]) Q E s:=by
  have lz:z < s.heap.objs.size:=vz hz
  have lTI:TI < s.heap.objs.size:=vz hTI
  have lTO:TO < s.heap.objs.size:=vz hTO
  have li1:i1 < s.heap.objs.size:=by obtain ⟨_,e,_⟩:=h1;exact vz e
  have li2:i2 < s.heap.objs.size:=by obtain ⟨_,e,_⟩:=h2;exact vz e
  have ll1:l1 < s.heap.objs.size:=by obtain ⟨_,e,_⟩:=hl1;exact vz e
  have ll2:l2 < s.heap.objs.size:=by obtain ⟨_,e,_⟩:=hl2;exact vz e
  refine callType_codes (Q₁:=fun obj s₁=>obj=.ref s.heap.objs.size/\s₁ = { s with heap:=s.heap.push { cls:=.type "dict",data:=.dict #[] } }) PySem.F.kt_called_dict (PySem.F.kt_typeCall_dict_1 _) PySem.F.entry_dict_init (kt_code_dict_new _ ⟨rfl,rfl⟩) ?_
  rintro obj s₁ ⟨rfl,rfl⟩
  have hg:(s.heap.push { cls:=.type "dict",data:=.dict #[] }).get? s.heap.objs.size=some _:=vB _ rfl
  have hT:Shared.TypeIs { s with heap:=s.heap.push { cls:=.type "dict",data:=.dict #[] } } (.ref s.heap.objs.size) "dict":=⟨_,hg,rfl⟩
  have pz:=vq { cls:=.type "dict",data:=.dict #[] } hz
  refine ⟨hT,PySem.F.args_dict_init_2 _ _,?_⟩
  unfold Builtin.«dict.__init__»
  refine vj ?_
  unfold Builtin.Dict.selfAndRest
  refine vj (wpAny_notOrdered_dict hT ?_)
  show wpAny _ _ (pure (s.heap.objs.size,[Value.ref z])) _ _ _
  refine vm ?_
  show wpAny _ _ (Builtin.Dict.updateFrom "dict.__init__" s.heap.objs.size (.ref z) [] .none) _ _ _
  unfold Builtin.Dict.updateFrom
  refine vj (wpAny_typeOf (T:="zip") ⟨_,pz,rfl⟩ ?_)
  rw [if_pos (by decide)]
  refine vj (getAttr?_miss_zip pz rfl rfl rfl pI (by decide) ?_ fun h₁ tk₁ e₁ hx₁=>?_)
  · simpa using hh
  · have old:∀ c o,s.heap.get? c=some o->h₁.get? c=some o:=fun c o e=>hx₁.keeps c o (vq _ e)
    have hg₁:=hx₁.keeps _ _ hg
    simp only [Option.isNone_none,if_true]
    refine vj (wpAny_rule (vj (wpAny_pyIter_zip (f0:=.none) (old _ _ hz) (vm ⟨plainId_quiet Fz.plain_dict_update_loop _,?_⟩))))
    have ne:∀ {c:Addr},c < s.heap.objs.size->s.heap.objs.size ≠ c:=fun h=>Nat.ne_of_gt h
    have his₁:∀ t ∈ tr,knd.is h₁ t.1 t.2.1:=keep _ _ his fun c o _ _ _ _ e=>old c o e
    refine nI (A:=A.in1) (by simpa using hh) hu D (ne lz) (ne lTI) (ne lTO) (ne li1) (ne li2) (ne ll1) (ne ll2) hn hsz keep (tr.length - 0) 0 _ .none (.bool false) a b rfl (Nat.zero_le _) (old _ _ hz) (.inl ⟨rfl,rfl⟩) (old _ _ hTI) (old _ _ hTO)
      (h1.at fun o e=>old _ o e) ((fun ⟨o,e,r⟩=>⟨o,old _ o e,r⟩:s.heap.IsTupleIter i2 l2 0->_) h2) (hl1.at fun o e=>old _ o e) ((fun ⟨o,e,r⟩=>⟨o,old _ o e,r⟩:s.heap.IsTuple l2 _->_) hl2) his₁ ⟨_,#[],0,hg₁,⟨rfl,rfl,rfl⟩,rfl,rfl,(fun x hx=>by cases hx),List.nodup_nil,rfl⟩ fun h' tk hd' hk'=>?_
    refine ⟨rfl,hQ h' tk hd' fun c o c1 c2 c3 c4 e=>hk' c o c1 c2 c3 c4 (vK (vz e)) (old c o e)⟩
end
end L2
end
section
namespace L2
open PySem PySem.Spec PyProof.Rows
section
variable {X:Cx}
noncomputable def sG (K:FG) (ta:TA):TE:=fun σ H Q=>ta σ H fun vs H1=>∃ (l t:Addr) (bs:List (Addr × List Key)) (ws:List V),vs=[.ref l,.ref t]/\SqL K H1 l (bs.map fun b=>V.ref b.1)/\SqT K H1 t ws/\(∀ b ∈ bs,H1 b.1=some (.tup (b.2.map kV)))/\bs.length=ws.length/\(bs.map (·.2)).Nodup /\
  ∀ p,H1 p=none->Q (.ref p) (upd H1 p (.dT ((bs.map (·.2)).zip ws)))
noncomputable def dM:List (Addr × List Key)->List Value->List (List Key × Addr × Value)
  | b :: bs,v :: vs=>(b.2,b.1,v) :: dM bs vs
  | _,_=>[]
theorem iH:∀ {bs:List (Addr × List Key)} {vs:List Value},bs.length=vs.length->(dM bs vs).map (·.1)=bs.map (·.2)
  | [],[],_=>rfl
  | b :: bs,v :: vs,e=>by simp [dM,iH (bs:=bs) (vs:=vs) (by simpa using e)]
theorem iG:∀ {bs:List (Addr × List Key)} {vs:List Value},bs.length=vs.length->(dM bs vs).map (fun t=>Value.ref t.2.1)=bs.map fun b=>Value.ref b.1
  | [],[],_=>rfl
  | b :: bs,v :: vs,e=>by simp [dM,iG (bs:=bs) (vs:=vs) (by simpa using e)]
theorem iF:∀ {bs:List (Addr × List Key)} {vs:List Value},bs.length=vs.length->(dM bs vs).map (fun t=>t.2.2)=vs
  | [],[],_=>rfl
  | b :: bs,v :: vs,e=>by simp [dM,iF (bs:=bs) (vs:=vs) (by simpa using e)]
theorem jN:∀ {bs:List (Addr × List Key)} {vs:List Value},bs.length=vs.length->(dM bs vs).length=bs.length
  | [],[],_=>rfl
  | b :: bs,v :: vs,e=>by simp [dM,jN (bs:=bs) (vs:=vs) (by simpa using e)]
theorem jM:∀ {bs:List (Addr × List Key)} {vs:List Value} {t:List Key × Addr × Value},t ∈ dM bs vs->(t.2.1,t.1) ∈ bs
  | [],vs,t,h=>by cases vs <;> cases h
  | b :: bs,[],t,h=>by cases h
  | b :: bs,v :: vs,t,h=>by
    rcases vx.mp h with rfl | h
    · exact vo
    · exact vp _ (jM h)
theorem lO {H:Hp}:∀ {bs:List (Addr × List Key)} {ws:List V} {vs:List Value},Vals ws vs->bs.length=ws.length->(∀ b ∈ bs,H b.1=some (.tup (b.2.map kV)))->KT H ((bs.map (·.2)).zip ws) (dM bs vs)
  | [],_,_,.nil,_,_=>.nil
  | [],_,_,.cons _ _,e,_=>by cases e
  | b :: bs,_,_,.nil,e,_=>by cases e
  | b :: bs,_,_,.cons r rs,e,hb=>.cons ⟨rfl,hb b vo,r⟩ (lO rs (by simpa using e) fun c hc=>hb c (vp _ hc))
theorem qp (n l t:Nat) (hl:l < n) (ht:t < n):ZipApart (n+4) (n+2) (n+3) n (n+1) l t:=by
  constructor <;> intro e <;> (have e:(_:Nat)=_:=e;omega)
theorem iP:∀ {bs:List Addr} {its:List Value},Vals (bs.map V.ref) its->its=bs.map Value.ref
  | [],_,.nil=>rfl
  | _ :: bs,_,.cons r rs=>by cases r;rw [iP rs];rfl
theorem rC {a b:Expr} {ta:TA} {p1 p2 pos1 pos2:Pos} (hc:X.calm=true) (hu:X.A.units+64 < cLine) (hgl:Gl X "dict") (hml:X.mg "dict"=none) (hg:Gl X "zip") (hm:X.mg "zip"=none) (hbd:bootBuiltins "dict"=some (.type "dict")) (hbz:bootBuiltins "zip"=some (.type "zip")) (ha:PA X [a,b] ta)
    (hs:starEach [.Call (.Name "zip" p2) [a,b] [] pos2] X.env=[(false,eval (.Call (.Name "zip" p2) [a,b] [] pos2) X.env)]) (hs2:starEach [a,b] X.env=(false,eval a X.env) :: starEach [b] X.env) (hpl:(backTo pos2 (starEach [b] X.env)).any (·.1)=false) :
    PE X (.Call (.Name "dict" p1) [.Call (.Name "zip" p2) [a,b] [] pos2] [] pos1) (sG X.K ta):=by
  intro pins s σ H Q I h
  refine Call_ (eY I hgl hml hbd (PyProof.Rows.callWith_type1 ?_ hs rfl))
  rw [hs]
  show wpAny _ _ (spliced ((false,eval (.Call (.Name "zip" p2) [a,b] [] pos2) X.env) :: [])) _ _ s
  refine Calls.spliced_cons (Call_ (eY I hg hm hbz (PyProof.Rows.callWith_type1 (thn (ha pos2 pins s σ H _ I h) fun us s1 ⟨vs,H1,I1,r1,q1⟩=>?_) hs2 hpl)))
  obtain ⟨l,t,bs,ws,rfl,hl,ht,hb,hlen,hnd,q⟩:=q1
  cases r1 with
  | cons r rr =>
    cases rr with
    | cons r' rr =>
      cases rr
      cases r
      cases r'
      obtain ⟨its,rl,pl,zl⟩:=I1.list hl
      obtain ⟨vs,rt,pt,zt⟩:=I1.tuple ht
      have e1:its=(bs.map (·.1)).map Value.ref:=iP (by rw [we];exact rl)
      have e2:bs.length=vs.length:=by rw [hlen];exact rt.length
      have pl':s1.heap.IsList l ((dM bs vs).map fun t=>Value.ref t.2.1).toArray:=by rw [iG e2];have:=pl.isList;rw [e1,we] at this;exact this
      have pt':s1.heap.IsTuple t ((dM bs vs).map fun t=>t.2.2).toArray:=by rw [iF e2];exact pt
      have lt:∀ {c:Addr} {o:Obj},s1.heap.get? c=some o->c < s1.heap.objs.size:=fun e=>vz e
      have ll:l < s1.heap.objs.size:=by obtain ⟨_,e,_⟩:=pl';exact lt e
      have lt':t < s1.heap.objs.size:=by obtain ⟨_,e,_⟩:=pt';exact lt e
      refine nQ pl' pt' fun h2 hz hTI hTO hi1 hi2 hsz hk=>Calls.spliced_nil ?_
      have D:=qp s1.heap.objs.size l t ll lt'
      have key:∀ x ∈ dM bs vs,(tupleKind (aW X.prog X.w)).is s1.heap x.1 x.2.1:=fun x hx=>jp I1.hok (hb _ (jM hx))
      have keep:∀ h h':Heap,(∀ x ∈ dM bs vs,(tupleKind (aW X.prog X.w)).is h x.1 x.2.1)->(∀ c o,c ≠ s1.heap.objs.size+4->c ≠ s1.heap.objs.size+3->c ≠ s1.heap.objs.size->c ≠ s1.heap.objs.size+1->h.get? c=some o->h'.get? c=some o)->∀ x ∈ dM bs vs,(tupleKind (aW X.prog X.w)).is h' x.1 x.2.1:=fun h h' hi hk x hx=>by
        obtain ⟨o,its,n,g1,g2,g3,g4⟩:=hi x hx
        obtain ⟨o0,its0,n0,k1,_⟩:=key x hx
        have:=lt k1
        exact ⟨o,its,n,hk _ _ (vK (Nat.lt_add_right 4 this)) (vK (Nat.lt_add_right 3 this)) (vK this) (vK (Nat.lt_add_right 1 this)) g1,g2,g3,g4⟩
      refine jy (knd:=tupleKind (aW X.prog X.w)) (I.ok.hd hc) (show X.A.units+1+1 < cLine by omega) D (by rw [iH e2];exact hnd) (by rw [jN e2,e2];have:=zt;have:=rt.length;omega) keep hz hTI hTO hi1 hi2 (pl'.at fun o e=>hk _ o e) ((fun ⟨o,e,r⟩=>⟨o,hk _ o e,r⟩:s1.heap.IsTuple t _->_) pt') (fun x hx=>?_) fun h' tk hd hk'=>?_
      · obtain ⟨o,its,n,g1,g2,g3,g4⟩:=key x hx
        exact ⟨o,its,n,hk _ _ g1,g2,g3,g4⟩
      · rw [hsz] at hd ⊢
        have old:∀ c o,s1.heap.get? c=some o->h'.get? c=some o:=fun c o e=>hk' c o (vK (Nat.lt_add_right 4 (lt e))) (vK (Nat.lt_add_right 3 (lt e))) (vK (lt e)) (vK (Nat.lt_add_right 1 (lt e))) (hk c o e)
        have fr:s1.heap.objs.size<=s1.heap.objs.size+5:=by omega
        have hp:=I1.hok.fresh fr
        refine ⟨.ref (s1.heap.objs.size+5),_,I1.laid (a:=s1.heap.objs.size+5) (o:=.dT ((bs.map (·.2)).zip ws)) (t':=tk) old fr ⟨?_,?_,dM bs vs,(lO rt hlen hb).keeps fun b ys e=>?_,?_⟩,rfl,q _ hp⟩
        · rw [List.length_zip];simp only [vC];have:=zt;have:=rt.length;omega
        · exact beq_eq_false_iff_ne.mpr (Nat.ne_of_gt (Nat.lt_add_right 5 I1.big))
        · rw [av]
          · exact e
          · intro x;rw [x] at e;rw [hp] at e;cases e
        · obtain ⟨o,es,ep,g1,g2,g3,g4,g5,g6,g7⟩:=hd
          exact ⟨o,es,ep,g1,g2,g3,g4,g6,g7⟩
end
end L2
end
section
namespace L2
open PySem PySem.Spec PyProof.Rows
end L2
end
section
namespace L2
open PySem PySem.Spec PyProof.Rows
noncomputable def IsNts (h:Heap) (b:Addr) (n:List Int):Prop:=∃ it:Array Value,IsTup h b it/\IntsAre it.toList n
end L2
end
section
namespace L2
open PySem PySem.Spec PyProof.Rows
noncomputable abbrev aK (f:Bool):SortKind:=(sortPriv% PySem.Builtin.KeyKind.tuples) f
section
variable {prog:Program} {w:World} {A:Around} {E:Value->Shared->Prop} {s:Shared}
theorem lc (f:Bool) {a b:Int} {t u:Tok} {Q:Bool->Shared->Prop} (h:Q (decide (a < b)) s):wpAny (model prog w) A (oneLt' f (.int a t) (.int b u)) Q E s:=by
  cases f with
  | true=>exact oneLt_int h
  | false =>
    rw [oneLt'_eq]
    simp only [vY,if_false]
    refine vj (HT.rcLt_int A s a t b u prog w E _ ?_)
    exact wc h
set_option tactic.hygienic true in
theorem iS (f:Bool) (n m:Nat) {Q:Bool->Shared->Prop} {g:(Value × Value) × Nat->Option Bool × Unit->Sem (ForInStep (Option Bool × Unit))} {k:Option Bool × Unit->Sem Bool}
    (hg:∀ p q i c,g ((p,q),i) c=(do
          let b <- eqBool p q
          if (!b)=true then do
            let r <- oneLt' (f && i == 0) p q
            pure (ForInStep.done (some r,()))
          else pure (ForInStep.yield (none,())))) (hk1:∀ b,k (some b,())=pure b) (hk2:k (none,())=pure (decide (n < m))):∀ (vs ws:List Value) (ns ms:List Int) (i:Nat),IntsAre vs ns->IntsAre ws ms->ns.length+m=ms.length+n->Q (HT.lexLt ns ms) s ->
    wpAny (model prog w) A (forIn ((vs.zip ws).zipIdx i) ((none,()):Option Bool × Unit) g) (fun r s'=>wpAny (model prog w) A (k r) Q E s') E s
  | [],ws,ns,ms,i,h1,h2,hl,q=>by
    cases h1
    have e:HT.lexLt [] ms=decide (n < m):=by
      cases ms with
      | nil=>simp at hl;rw [HT.lexLt_nil_nil];exact (vO (by omega)).symm
      | cons a ms=>simp at hl;rw [HT.lexLt_nil_cons];exact (vN (by omega)).symm
    rw [e] at q
    rw [List.zip_nil_left]
    simp only [List.zipIdx_nil,List.forIn_nil]
    refine vm ?_
    rw [hk2]
    exact vm q
  | v :: vs,[],ns,ms,i,h1,h2,hl,q=>by
    cases h2
    cases h1 with
    | cons a t h1 =>
    rename_i ns
    have e:HT.lexLt (a :: ns) []=decide (n < m):=by
      simp at hl;rw [HT.lexLt_cons_nil];exact (vO (by omega)).symm
    rw [e] at q
    rw [List.zip_nil_right]
    simp only [List.zipIdx_nil,List.forIn_nil]
    refine vm ?_
    rw [hk2]
    exact vm q
  | v :: vs,u :: ws,ns,ms,i,h1,h2,hl,q=>by
    cases h1 with
    | cons a t h1 =>
    cases h2 with
    | cons b t2 h2 =>
    rename_i ns ms
    rw [List.zip_cons_cons,List.zipIdx_cons,List.forIn_cons,hg]
    rw [HT.lexLt_cons] at q
    refine vj (vj ((intKind prog w).eqBool (a:=a) (b:=b) (by simp [intKind,Value.isInt]) (by simp [intKind,Value.isInt]) ?_))
    by_cases e:a=b
    · rw [if_pos e] at q
      rw [vN e]
      simp only [Bool.not_true,vY,if_false]
      refine vm ?_
      exact iS f n m hg hk1 hk2 vs ws ns ms (i+1) h1 h2 (by simp at hl;omega) q
    · rw [if_neg e] at q
      rw [vO e]
      simp only [Bool.not_false,if_true]
      refine vj (lc _ (vm (vm ?_)))
      rw [hk1]
      exact vm q
theorem nB {f:Bool} {a b:Addr} {x y:List Int} {Q:Bool->Shared->Prop} (hx:IsNts s.heap a x) (hy:IsNts s.heap b y) (h:Q (HT.lexLt x y) s):wpAny (model prog w) A (keyLt' (aK f) (.ref a) (.ref b)) Q E s:=by
  obtain ⟨i1,⟨o1,e1,c1,n1,d1⟩,j1⟩:=hx
  obtain ⟨i2,⟨o2,e2,c2,n2,d2⟩,j2⟩:=hy
  refine vj (listItems_at e1 d1 ?_)
  refine vj (listItems_at e2 d2 ?_)
  refine vj ?_
  have hl1:x.length=i1.size:=by rw [<- j1.length];simp
  have hl2:y.length=i2.size:=by rw [<- j2.length];simp
  exact iS f i1.size i2.size (fun _ _ _ _=>rfl) (fun _=>rfl) rfl i1.toList i2.toList x y 0 j1 j2 (by omega) h
end
end L2
end
section
namespace L2
open PySem PySem.Spec PyProof.Rows
end L2
end
section
namespace L2
open PySem PySem.Spec PyProof.Rows
section
variable {prog:Program} {w:World} {A:Around} {E:Value->Shared->Prop} {s:Shared}
theorem lC (v:Value):firstOfTuple' v=(do
    if (<- typeOf v) != .type "tuple" then return none
    return (<- Builtin.List.listItems v)[0]?):=rfl
theorem i7 {b:Addr} {n:List Int} {Q:Option Value->Shared->Prop} (hb:IsNts s.heap b n) (h0:n ≠ []) (h:∀ i t,Q (some (.int i t)) s):wpAny (model prog w) A (firstOfTuple' (.ref b)) Q E s:=by
  obtain ⟨it,⟨o,e,c,k,d⟩,j⟩:=hb
  rw [lC]
  refine vj (wpAny_typeOf (T:="tuple") ⟨o,e,c⟩ ?_)
  rw [if_neg (by decide)]
  refine vj (listItems_at e d ?_)
  cases hl:it.toList with
  | nil=>rw [hl] at j;cases j;exact absurd rfl h0
  | cons v vs =>
    rw [hl] at j
    cases j with
    | cons i t j =>
      have:it[0]?=some (.int i t):=by rw [<- Array.getElem?_toList,hl];rfl
      rw [this]
      exact vm (h i t)
theorem hU {Q:List (Option Value)->Shared->Prop}:∀ (bs:List Addr),(∀ b ∈ bs,∃ n,n ≠ []/\IsNts s.heap b n)->(∀ (vs:List Value) (ns:List Int),IntsAre vs ns->vs.length=bs.length->Q (vs.map some) s) ->
    wpAny (model prog w) A ((bs.map Value.ref).mapM firstOfTuple') Q E s
  | [],_,q=>by
    simp only [List.map_nil,List.mapM_nil]
    exact vm (q [] [] .nil rfl)
  | b :: bs,h,q=>by
    rw [vM,List.mapM_cons]
    obtain ⟨n,h0,hb⟩:=h b vo
    refine vj (i7 hb h0 fun i t=>?_)
    refine vj (hU bs (fun c hc=>h c (vp _ hc)) fun vs ns hi hl=>?_)
    exact vm (q (.int i t :: vs) (i :: ns) (.cons i t hi) (by simp [hl]))
theorem pG {bs:List Addr} {Q:SortKind->Shared->Prop} (h2:bs ≠ []) (hb:∀ b ∈ bs,∃ n,n ≠ []/\IsNts s.heap b n) (h:Q (aK true) s):wpAny (model prog w) A (keyKind' (bs.map Value.ref).toArray) Q E s:=by
  rw [keyKind'_eq,List.mapM_toArray]
  refine vj ?_
  rw [map_eq_pure_bind]
  refine vj (hU bs hb fun vs ns hi hl=>vm ?_)
  have ha:(vs.map some).toArray.all (·.isSome)=true:=by simp
  rw [if_pos ha]
  refine vj (wpAny_rule ?_)
  have hf:(vs.map some).toArray.filterMap id=vs.toArray:=by simp
  rw [hf,oneTypeOnly'_eq,List.mapM_toArray,mapM_typeOf_ints hi]
  simp only [map_pure,pure_bind]
  cases vs with
  | nil=>exact absurd (List.length_eq_zero_iff.mp hl.symm) h2
  | cons v vs =>
    have hall:((List.map (fun _=>Value.type "int") (v :: vs)).toArray.all fun x=>x == Value.type "int")=true:=by
      simp only [List.all_toArray,List.all_map,List.all_eq_true]
      intro _ _
      rfl
    have h0:(List.map (fun _=>Value.type "int") (v :: vs)).toArray[0]?=some (Value.type "int"):=by simp
    rw [h0]
    simp only [hall,if_true,pure_bind,Option.any_some]
    exact vm h
end
end L2
end
section
namespace L2
open PySem PySem.Spec PyProof.Rows
theorem IsNts.at {h h':Heap} {b:Addr} {n:List Int} (x:IsNts h b n) (e:∀ o,h.get? b=some o->h'.get? b=some o):IsNts h' b n:=by
  obtain ⟨it,⟨o,e1,r⟩,j⟩:=x
  exact ⟨it,⟨o,e o e1,r⟩,j⟩
structure NRow (h:Heap) (bs:List Addr) (ns:List (List Int)):Prop where
  len:ns.length=bs.length
  at':∀ (i:Nat) (b:Addr) (n:List Int),bs[i]?=some b->ns[i]?=some n->IsNts h b n/\n ≠ []
  asc:∀ (i:Nat) (x y:List Int),ns[i]?=some y->ns[i+1]?=some x->HT.lexLt x y=false
theorem NRow.keep {h h':Heap} {bs:List Addr} {ns:List (List Int)} (r:NRow h bs ns) (k:∀ b ∈ bs,∀ o,h.get? b=some o->h'.get? b=some o):NRow h' bs ns :=
  ⟨r.len,fun i b n e1 e2=>⟨(r.at' i b n e1 e2).1.at (k b (vE e1)),(r.at' i b n e1 e2).2⟩,r.asc⟩
end L2
end
section
namespace L2
open PySem PySem.Spec PyProof.Rows
end L2
end
section
namespace L2
open PySem PySem.Spec PyProof.Rows
end L2
end
section
namespace L2
open PySem PySem.Spec PyProof.Rows
theorem ff:∀ bs:List Addr,Vals (bs.map V.ref) (bs.map Value.ref)
  | []=>.nil
  | _ :: bs=>.cons rfl (ff bs)
end L2
end
section
namespace L2
open PySem PySem.Spec PyProof.Rows
noncomputable def kY (l:Array Value):Obj:=seqObj "tuple" l 0
noncomputable def ev (cmp:Nat->Nat->Option Bool) {α:Type} (m:Sem α):Option Addr->Option (α × Option Addr):=by
  induction m with
  | pure a=>exact fun p=>some (a,p)
  | rule _ k ih=>exact ih ()
  | load b _ k ih=>exact fun p=>match p with
    | none=>ih (kY #[]) (some b)
    | some a=>match cmp a b with
      | some true=>ih (kY #[Value.none]) none
      | some false=>ih (kY #[]) none
      | none=>none
  | _=>exact fun _=>none
theorem sh {cmp:Nat->Nat->Option Bool} {α β:Type} (m:Sem α) (f:α->Sem β):∀ p,ev cmp (m.bind f) p=(ev cmp m p).bind fun r=>ev cmp (f r.1) r.2:=by
  induction m with
  | pure a=>exact fun p=>rfl
  | rule _ k ih=>exact ih ()
  | load b _ k ih =>
    intro p
    cases p with
    | none=>exact ih _ _
    | some a =>
      show (match cmp a b with
        | some true=>ev cmp ((k (kY #[Value.none])).bind f) none
        | some false=>ev cmp ((k (kY #[])).bind f) none
        | none=>none)=Option.bind (match cmp a b with
        | some true=>ev cmp (k (kY #[Value.none])) none
        | some false=>ev cmp (k (kY #[])) none
        | none=>none) _
      cases cmp a b with
      | none=>rfl
      | some t=>cases t <;> exact ih _ _
  | _=>exact fun _=>rfl
noncomputable def ld (k:SortKind):Prop:=k=aK true\/k=oneType'
structure Fol (φ:Keyed->Keyed) (st ps:SortSt):Prop where
  kind:ld (kindOf st)
  kind':kindOf ps=aK true
  arr:arrOf st=(arrOf ps).map φ
  pend:pendingOf st=pendingOf ps
  mg:gallopOf st=gallopOf ps
  fail:failedOf st=none
  fail':failedOf ps=none
class EqRl (α:Type) where
instance:EqRl Nat:=⟨⟩
instance:EqRl Bool:=⟨⟩
instance:EqRl PUnit:=⟨⟩
instance {α:Type} [EqRl α]:EqRl (Option α):=⟨⟩
instance {α:Type} [EqRl α]:EqRl (Array α):=⟨⟩
instance {α β:Type} [EqRl α] [EqRl β]:EqRl (α × β):=⟨⟩
instance {α:Type} [EqRl α]:EqRl (ForInStep α):=⟨⟩
class Rl (φ:Keyed->Keyed) (α:Type) where
  rel:α->α->Prop
variable {φ:Keyed->Keyed}
instance rlO {α:Type} [Rl φ α]:Rl φ (Option α):=⟨fun x y=>match x,y with | none,none=>True | some a,some b=>Rl.rel φ a b | _,_=>False⟩
instance rlP {α β:Type} [Rl φ α] [Rl φ β]:Rl φ (α × β):=⟨fun x y=>Rl.rel φ x.1 y.1/\Rl.rel φ x.2 y.2⟩
instance rlF {α:Type} [Rl φ α]:Rl φ (ForInStep α):=⟨fun x y=>match x,y with | .done a,.done b=>Rl.rel φ a b | .yield a,.yield b=>Rl.rel φ a b | _,_=>False⟩
instance rlK:Rl φ Keyed:=⟨fun p i=>p = φ i⟩
instance rlA:Rl φ (Array Keyed):=⟨fun p i=>p=i.map φ⟩
instance rlS:Rl φ SortSt:=⟨Fol φ⟩
instance (priority:=high) rlE {α:Type} [EqRl α]:Rl φ α:=⟨Eq⟩
section
variable {prog:Program} {w:World} {A:Around} {E:Value->Shared->Prop} {s:Shared} {cmp:Nat->Nat->Option Bool} {α β:Type}
noncomputable def Sim (prog:Program) (w:World) (A:Around) (E:Value->Shared->Prop) (s:Shared) (φ:Keyed->Keyed) (cmp:Nat->Nat->Option Bool) {α:Type} [Rl φ α] (m p:StateT SortSt Sem α):Prop :=
  ∀ st ps b ps' q,Fol φ st ps->ev cmp (p.run ps) none=some ((b,ps'),q)->∃ a st',Rl.rel φ a b/\Fol φ st' ps'/\q=none/\∀ Q:α->SortSt->Prop,Q a st'->wpS (model prog w) A E s m Q st
theorem aA [Rl φ α] {a b:α} (h:Rl.rel φ a b):Sim prog w A E s φ cmp (pure a) (pure b):=by
  intro st ps b' ps' q' f e
  cases e
  exact ⟨a,st,h,f,rfl,fun Q q=>wpS_pure q⟩
theorem bL [Rl φ α] [Rl φ β] {m p:StateT SortSt Sem α} {f g:α->StateT SortSt Sem β} (h:Sim prog w A E s φ cmp m p) (k:∀ a b,Rl.rel φ a b->Sim prog w A E s φ cmp (f a) (g b)):Sim prog w A E s φ cmp (m >>= f) (p >>= g):=by
  intro st ps b' ps' q' fo e
  have e:ev cmp ((p.run ps).bind fun x=>(g x.1).run x.2) none=some ((b',ps'),q'):=e
  rw [sh] at e
  obtain ⟨⟨⟨b,ps1⟩,q1⟩,e1,e2⟩:=vW.mp e
  obtain ⟨a,st1,r,fo1,rfl,h1⟩:=h st ps b ps1 q1 fo e1
  obtain ⟨c,st2,r2,fo2,rfl,h2⟩:=k a b r st1 ps1 b' ps' q' fo1 e2
  exact ⟨c,st2,r2,fo2,rfl,fun Q q=>wpS_bind (h1 _ (h2 Q q))⟩
theorem ak [EqRl α] [Rl φ β] {m p:StateT SortSt Sem α} {f g:α->StateT SortSt Sem β} (h:Sim prog w A E s φ cmp m p) (k:∀ a,Sim prog w A E s φ cmp (f a) (g a)):Sim prog w A E s φ cmp (m >>= f) (p >>= g) :=
  bL h fun a b (r:a=b)=>r ▸ k a
theorem a9 [EqRl α] [Rl φ β] {m p:StateT SortSt Sem (Option α)} {f g:Option α->StateT SortSt Sem β} (h:Sim prog w A E s φ cmp m p) (kn:Sim prog w A E s φ cmp (f none) (g none)) (ks:∀ a,Sim prog w A E s φ cmp (f (some a)) (g (some a))):Sim prog w A E s φ cmp (m >>= f) (p >>= g) :=
  bL h fun a b (r:a=b)=>r ▸ (match a with | none=>kn | some a=>ks a)
theorem bf [Rl φ α] {c:Prop} [Decidable c] {m n p q:StateT SortSt Sem α} (h1:c->Sim prog w A E s φ cmp m p) (h2:¬ c->Sim prog w A E s φ cmp n q):Sim prog w A E s φ cmp (if c then m else n) (if c then p else q):=by
  by_cases h:c
  · rw [if_pos h,if_pos h];exact h1 h
  · rw [if_neg h,if_neg h];exact h2 h
theorem oD [Rl φ α] {m p:StateT SortSt Sem α} (h:∀ ps,ev cmp (p.run ps) none=none):Sim prog w A E s φ cmp m p:=fun st ps b ps' q f e=>by
  rw [h] at e
  cases e
theorem bX [Rl φ α] {m:StateT SortSt Sem α} {t:String}:Sim prog w A E s φ cmp m (unsupported t:Sem α):=oD fun _=>rfl
theorem fX [Rl φ α] {f g : Nat -> α -> StateT SortSt Sem (ForInStep α)} (h : ∀ i x y, Rl.rel φ x y -> @Sim prog w A E s φ cmp _ rlF (f i x) (g i y)) : ∀ (l : List Nat) (x y : α), Rl.rel φ x y -> Sim prog w A E s φ cmp (forIn l x f) (forIn l y g)
  | [], x, y, r => by rw [List.forIn_nil, List.forIn_nil]; exact aA r
  | i :: l, x, y, r => by
    rw [List.forIn_cons, List.forIn_cons]
    refine @bL _ _ _ _ _ _ _ _ _ rlF _ _ _ _ _ (h i x y r) fun a b ab => ?_
    cases a <;> cases b <;> first | exact False.elim ab | skip
    · exact aA ab
    · exact fX h l _ _ ab
theorem dj [Rl φ α] {f g:Nat->α->StateT SortSt Sem (ForInStep α)} {a b:Nat} {x y:α} (r:Rl.rel φ x y) (h:∀ i x y,Rl.rel φ x y->@Sim prog w A E s φ cmp _ rlF (f i x) (g i y)):Sim prog w A E s φ cmp (forIn [a:b] x f) (forIn [a:b] y g):=by
  rw [Std.Legacy.Range.forIn_eq_forIn_range',Std.Legacy.Range.forIn_eq_forIn_range']
  exact fX h _ _ _ r
theorem eg [EqRl α] {f g:Nat->α->StateT SortSt Sem (ForInStep α)} {a b:Nat} {x:α} (h:∀ i x,Sim prog w A E s φ cmp (f i x) (g i x)):Sim prog w A E s φ cmp (forIn [a:b] x f) (forIn [a:b] x g):=by
  refine dj rfl fun i x y r=>?_
  cases r
  intro st ps b ps' q fo e
  obtain ⟨c,st',r,cN⟩:=h i x st ps b ps' q fo e
  refine ⟨c,st',?_,cN⟩
  obtain rfl:c=b:=r
  cases c <;> exact (rfl:_=_)
theorem lR:Sim prog w A E s φ cmp (get:StateT SortSt Sem SortSt) get:=by
  intro st ps b ps' q f e
  cases e
  exact ⟨st,st,f,f,rfl,fun Q q=>wpS_get q⟩
theorem cD {f g:SortSt->SortSt} (h:∀ st ps,Fol φ st ps->Fol φ (f st) (g ps)):Sim prog w A E s φ cmp (modify f:StateT SortSt Sem PUnit) (modify g):=by
  intro st ps b ps' q fo e
  cases e
  exact ⟨_,_,rfl,h st ps fo,rfl,fun Q q=>wpS_modify q⟩
theorem qN {st' ps':SortSt} (h:Fol φ st' ps'):Sim prog w A E s φ cmp (set st':StateT SortSt Sem PUnit) (set ps'):=by
  intro st ps b ps' q fo e
  cases e
  exact ⟨_,_,rfl,h,rfl,fun Q q=>vm ⟨rfl,q⟩⟩
theorem cC {r:String}:Sim prog w A E s φ cmp (liftM (PySem.rule r:Sem Unit):StateT SortSt Sem Unit) (liftM (PySem.rule r:Sem Unit)):=by
  intro st ps b ps' q fo e
  cases e
  exact ⟨_,st,rfl,fo,rfl,fun Q q=>wpS_lift (wpAny_rule ⟨rfl,q⟩)⟩
theorem oG {arr:Array Keyed} {i:Nat}:Sim prog w A E s φ cmp (elem' (arr.map φ) i) (elem' arr i):=by
  rw [elem'_eq,elem'_eq]
  cases e:arr[i]? with
  | none=>exact bX
  | some x =>
    have:(arr.map φ)[i]?=some (φ x):=by rw [Array.getElem?_map,e];rfl
    rw [this]
    exact aA rfl
theorem bp [Rl φ α] {arr:Array Keyed} {i:Nat} {f g:Keyed->StateT SortSt Sem α} (k:∀ u,Sim prog w A E s φ cmp (f (φ u)) (g u)):Sim prog w A E s φ cmp (elem' (arr.map φ) i >>= f) (elem' arr i >>= g) :=
  bL oG fun u u' (hu:u = φ u')=>hu ▸ k u'
end
noncomputable def hV (bs:List Addr) (x:Keyed):Keyed:=match x.1 with
  | .ref i=>(.ref (bs.getD i 0),.ref (bs.getD i 0))
  | _=>(.none,.none)
noncomputable def ib (ns:List (List Int)) (i j:Nat):Option Bool:=match ns[i]?,ns[j]? with
  | some x,some y=>some (HT.lexLt x y)
  | _,_=>none
section
variable {prog:Program} {w:World} {A:Around} {E:Value->Shared->Prop} {s:Shared} {bs:List Addr} {ns:List (List Int)}
set_option tactic.hygienic true in
theorem kD {v:Value} (h:∀ a,v ≠ .ref a):∃ t,Builtin.List.listItems v=Sem.unsupported t:=by
  cases v
  case ref a=>exact absurd rfl (h a)
  case builtin id =>
    by_cases hc:(withoutEnding? id "#opaque").isSome=true
    · have e:notAStandIn (.builtin id)=Sem.unsupported id:=if_pos hc
      refine ⟨id,?_⟩
      show Sem.bind (Sem.bind (notAStandIn (.builtin id)) _) _=_
      rw [e]
      rfl
    · have e:notAStandIn (.builtin id)=Sem.pure ():=if_neg hc
      have e2:Builtin.List.listItems (.builtin id)=Sem.bind (Sem.bind (notAStandIn (.builtin id)) _) _:=rfl
      rw [e] at e2
      exact ⟨_,e2⟩
  all_goals exact ⟨_,rfl⟩
theorem rX {v y:Value} (h:∀ a,v ≠ .ref a):∃ t,keyLt' (aK true) v y=Sem.unsupported t:=by
  obtain ⟨t,e⟩:=kD h
  obtain ⟨G,e1⟩:∃ G,keyLt' (aK true) v y=(Builtin.List.listItems v).bind G:=⟨_,rfl⟩
  exact ⟨t,by rw [e1,e];rfl⟩
theorem rW {v:Value} {i:Addr} (h:∀ a,v ≠ .ref a):∃ t,keyLt' (aK true) (.ref i) v=(Builtin.List.listItems (.ref i)).bind fun _=>Sem.unsupported t:=by
  obtain ⟨t,e⟩:=kD h
  obtain ⟨G,e1⟩:∃ G:Array Value->Array Value->Sem Bool,keyLt' (aK true) (.ref i) v=(Builtin.List.listItems (.ref i)).bind fun xs=>(Builtin.List.listItems v).bind (G xs):=⟨_,rfl⟩
  exact ⟨t,by rw [e1,e];rfl⟩
theorem m7 {a b:Addr} {x y:List Int} {Q:Bool->Shared->Prop} (hx:IsNts s.heap a x) (hy:IsNts s.heap b y) (hu:A.units < cLine) (h:Q (HT.lexLt x y) s):wpAny (model prog w) A (oneLt' true (.ref a) (.ref b)) Q E s:=by
  obtain ⟨i1,⟨⟨c1,dd1,da1,sl1⟩,e1,c1,n1,d1⟩,j1⟩:=hx
  obtain ⟨i2,⟨⟨c2,dd2,da2,sl2⟩,e2,c2,n2,d2⟩,j2⟩:=hy
  simp only at c1 d1 c2 d2
  subst c1 d1 c2 d2
  rw [oneLt'_eq]
  simp only [if_true]
  refine vj (wpAny_cRoomFor hu ?_)
  refine vj (wpAny_callSpecialIfBound?_slot (T:="tuple") ⟨_,e1,rfl⟩ PySem.F.slot_tuple_lt (call_meets PySem.F.slot_tuple_lt (T:="tuple") ⟨_,e1,rfl⟩ PySem.F.entry_tuple_lt (PySem.F.args_tuple_lt_2 _ _) (HT.tuple_lt_ints a b i1 i2 n1 n2 dd1 dd2 sl1 sl2 x y j1 j2) ⟨e1,e2,?_⟩))
  exact wc h
theorem tO (hu:A.units < cLine) (hn:∀ (i:Nat) (n:List Int),ns[i]?=some n->IsNts s.heap (bs.getD i 0) n) (x y:Keyed):Sim prog w A E s (hV bs) (ib ns) (lt' (hV bs x) (hV bs y)) (lt' x y):=by
  intro st ps b ps' q f e
  obtain ⟨x1,x2⟩:=x
  obtain ⟨y1,y2⟩:=y
  have hk:=f.kind'
  cases ps with
  | mk k a pd g fl =>
  have hk:k=aK true:=hk
  subst hk
  by_cases hx:∀ a,x1 ≠ .ref a
  · obtain ⟨t,h⟩:=rX (y:=y1) hx
    rw [lt'_eq] at e
    have e:ev (ib ns) (Sem.bind (Sem.bind (Sem.attempt (keyLt' (aK true) x1 y1)) _) _) none=some ((b,ps'),q):=e
    rw [h] at e
    cases e
  · by_cases hy:∀ a,y1 ≠ .ref a
    · obtain ⟨i,hx⟩:=Classical.not_forall.mp hx
      obtain rfl:x1=.ref i:=Classical.not_not.mp hx
      obtain ⟨t,h⟩:=rW (i:=i) hy
      rw [lt'_eq] at e
      have e:ev (ib ns) (Sem.bind (Sem.bind (Sem.attempt (keyLt' (aK true) (.ref i) y1)) _) _) none=some ((b,ps'),q):=e
      rw [h] at e
      cases e
    · obtain ⟨i,hx⟩:=Classical.not_forall.mp hx
      obtain rfl:x1=.ref i:=Classical.not_not.mp hx
      obtain ⟨j,hy⟩:=Classical.not_forall.mp hy
      obtain rfl:y1=.ref j:=Classical.not_not.mp hy
      have e:(match ib ns i j with
        | some true=>some ((some true,SortSt.mk' (aK true) a pd g fl),none)
        | some false=>some ((some false,SortSt.mk' (aK true) a pd g fl),none)
        | none=>none)=some ((b,ps'),q):=e
      unfold ib at e
      cases e1:ns[i]? with
      | none=>rw [e1] at e;cases e
      | some n =>
        cases e2:ns[j]? with
        | none=>rw [e1,e2] at e;cases e
        | some m =>
          rw [e1,e2] at e
          have e:(match some (HT.lexLt n m) with
            | some true=>some ((some true,SortSt.mk' (aK true) a pd g fl),none)
            | some false=>some ((some false,SortSt.mk' (aK true) a pd g fl),none)
            | none=>none)=some ((b,ps'),q):=e
          have e:some ((some (HT.lexLt n m),SortSt.mk' (aK true) a pd g fl),(none:Option Addr))=some ((b,ps'),q):=by
            rw [<- e]
            cases HT.lexLt n m <;> rfl
          cases e
          refine ⟨_,st,rfl,f,rfl,fun Q q=>?_⟩
          rw [lt'_eq]
          refine wpS_bind (wpS_get ?_)
          rcases f.kind with hk | hk <;> rw [hk]
          · refine wpS_bind (wpS_lift (wpAny_attempt (nB (hn i n e1) (hn j m e2) ⟨rfl,?_⟩)))
            exact wpS_pure q
          · rw [keyLt'_oneType]
            refine wpS_bind (wpS_lift (wpAny_attempt (m7 (hn i n e1) (hn j m e2) hu ⟨rfl,?_⟩)))
            exact wpS_pure q
end
end L2
end
section
namespace L2
open PySem PySem.Spec PyProof.Rows
noncomputable def mq:Bool->Keyed->Array Keyed->Nat->Nat->Nat->StateT SortSt Sem (Option Nat):=sortPriv% PySem.Builtin.gallop
noncomputable def kb:Array Keyed->Array Keyed->StateT SortSt Sem (Array Keyed):=sortPriv% PySem.Builtin.mergeLo
noncomputable def kc:Array Keyed->Array Keyed->StateT SortSt Sem (Array Keyed):=sortPriv% PySem.Builtin.mergeHi
noncomputable def oJ:Nat->StateT SortSt Sem Unit:=sortPriv% PySem.Builtin.setMinGallop
section
variable {prog:Program} {w:World} {A:Around} {E:Value->Shared->Prop} {s:Shared} {φ:Keyed->Keyed} {cmp:Nat->Nat->Option Bool}
theorem iK {g:Nat}:Sim prog w A E s φ cmp (oJ g) (oJ g) :=
  cD fun st ps f=>⟨f.kind,f.kind',f.arr,f.pend,rfl,f.fail,f.fail'⟩
theorem eh {γ δ β:Type} [EqRl γ] [EqRl δ] [Rl φ β] {m p:StateT SortSt Sem (Option γ × δ)} {f g:Option γ × δ->StateT SortSt Sem β} (h:Sim prog w A E s φ cmp m p) (kn:∀ d,Sim prog w A E s φ cmp (f (none,d)) (g (none,d))) (ks:∀ c d,Sim prog w A E s φ cmp (f (some c,d)) (g (some c,d))):Sim prog w A E s φ cmp (m >>= f) (p >>= g) :=
  ak h fun x=>match x with
    | (none,d)=>kn d
    | (some c,d)=>ks c d
theorem jW (hl:∀ x y:Keyed,Sim prog w A E s φ cmp (lt' (φ x) (φ y)) (lt' x y)) {i j:Nat}:Sim prog w A E s φ cmp (ltAt' i j) (ltAt' i j):=by
  rw [ltAt'_eq]
  refine bL lR fun st ps f=>?_
  have e:arrOf st=(arrOf ps).map φ:=Fol.arr f
  dsimp only
  rw [e]
  exact bp fun u=>bp fun v=>hl u v
theorem cq {β:Type} (p q:β->Nat):∀ (l:List β) (xs:Array Keyed),l.foldl (fun a k=>a.swapIfInBounds (p k) (q k)) (xs.map φ)=(l.foldl (fun a k=>a.swapIfInBounds (p k) (q k)) xs).map φ
  | [],xs=>rfl
  | k :: l,xs=>by
    rw [List.foldl_cons,List.foldl_cons,<- cq p q l]
    congr 1
    apply Array.ext_getElem?
    intro i
    rw [Array.getElem?_map]
    by_cases h1:p k < xs.size
    · by_cases h2:q k < xs.size
      · rw [getElem?_swapIB (by simpa using h1) (by simpa using h2),getElem?_swapIB h1 h2]
        simp only [Array.getElem?_map]
        repeat' split
        all_goals rfl
      · rw [Array.swapIfInBounds_def,Array.swapIfInBounds_def,dif_pos (by simpa using h1),dif_neg (by simpa using h2),dif_pos h1,dif_neg h2,Array.getElem?_map]
    · rw [Array.swapIfInBounds_def,Array.swapIfInBounds_def,dif_neg (by simpa using h1),dif_neg h1,Array.getElem?_map]
theorem lP {i j:Nat}:Sim prog w A E s φ cmp (reverseSlice' i j) (reverseSlice' i j):=by
  rw [reverseSlice'_eq]
  refine cD fun st ps f=>⟨f.kind,f.kind',?_,f.pend,f.mg,f.fail,f.fail'⟩
  show mirror (arrOf st) _ _ _=(mirror (arrOf ps) _ _ _).map φ
  rw [f.arr]
  exact cq _ _ _ _
theorem jX {i j:Nat}:Sim prog w A E s φ cmp (moveDown' i j) (moveDown' i j):=by
  rw [moveDown'_eq]
  refine cD fun st ps f=>⟨f.kind,f.kind',?_,f.pend,f.mg,f.fail,f.fail'⟩
  show bubble (arrOf st) _ _=(bubble (arrOf ps) _ _).map φ
  rw [f.arr]
  exact cq _ _ _ _
theorem qP (hl:∀ x y:Keyed,Sim prog w A E s φ cmp (lt' (φ x) (φ y)) (lt' x y)) {lo n ok:Nat}:Sim prog w A E s φ cmp (binarySort' lo n ok) (binarySort' lo n ok):=by
  rw [binarySort'_eq]
  repeat' first
    | exact aA rfl
    | exact bX
    | refine bf (fun _=>?_) (fun _=>?_)
    | (refine a9 (jW hl) ?_ (fun u=>?_) <;> try dsimp only)
    | (refine ak lP (fun u=>?_);try dsimp only)
    | (refine ak jX (fun u=>?_);try dsimp only)
    | (refine ak cC (fun u=>?_);try dsimp only)
    | (refine eh (eg fun i x=>?_) (fun d=>?_) (fun c d=>?_) <;> try dsimp only)
    | (refine ak (eg fun i x=>?_) (fun x=>?_) <;> try dsimp only)
theorem qO (hl:∀ x y:Keyed,Sim prog w A E s φ cmp (lt' (φ x) (φ y)) (lt' x y)) {lo n:Nat}:Sim prog w A E s φ cmp (countRun' lo n) (countRun' lo n):=by
  rw [countRun'_eq]
  repeat' first
    | exact aA rfl
    | exact bX
    | refine bf (fun _=>?_) (fun _=>?_)
    | (refine a9 (jW hl) ?_ (fun u=>?_) <;> try dsimp only)
    | (refine ak lP (fun u=>?_);try dsimp only)
    | (refine ak jX (fun u=>?_);try dsimp only)
    | (refine ak cC (fun u=>?_);try dsimp only)
    | (refine eh (eg fun i x=>?_) (fun d=>?_) (fun c d=>?_) <;> try dsimp only)
    | (refine ak (eg fun i x=>?_) (fun x=>?_) <;> try dsimp only)
end
end L2
end
section
namespace L2
open PySem PySem.Spec PyProof.Rows
section
variable {prog:Program} {w:World} {A:Around} {E:Value->Shared->Prop} {s:Shared} {φ:Keyed->Keyed} {cmp:Nat->Nat->Option Bool}
theorem di (hl:∀ x y:Keyed,Sim prog w A E s φ cmp (lt' (φ x) (φ y)) (lt' x y)) {left:Bool} {key:Keyed} {arr:Array Keyed} {base n hint:Nat}:Sim prog w A E s φ cmp (mq left (φ key) (arr.map φ) base n hint) (mq left key arr base n hint):=by
  refine a9 (bp fun u=>bf (fun _=>hl _ _) (fun _=>ak (hl _ _) fun r=>aA rfl)) (aA rfl) (fun u=>?_)
  dsimp only
  repeat' first
    | exact aA rfl
    | refine bf (fun _=>?_) (fun _=>?_)
    | (refine a9 (bp fun u=>bf (fun _=>hl _ _) (fun _=>ak (hl _ _) fun r=>aA rfl)) ?_ (fun u=>?_) <;> try dsimp only)
    | (refine eh (eg fun i x=>?_) (fun d=>?_) (fun c d=>?_) <;> try dsimp only)
end
end L2
end
section
namespace L2
open PySem PySem.Spec PyProof.Rows
section
variable {prog:Program} {w:World} {A:Around} {E:Value->Shared->Prop} {s:Shared} {φ:Keyed->Keyed} {cmp:Nat->Nat->Option Bool}
theorem fY {α:Type} [EqRl α] {a:α}:@Rl.rel φ α rlE a a:=rfl
theorem dR {X Y:Array Keyed} (h:X=Y.map φ):Rl.rel φ X Y:=h
theorem cQ {α:Type} [Rl φ α] {a b:α} (h:Rl.rel φ a b):@Rl.rel φ _ rlO (some a) (some b):=h
theorem cS {α:Type} [Rl φ α]:@Rl.rel φ _ rlO (none:Option α) none:=trivial
theorem cT {α:Type} [Rl φ α] {a b:α} (h:Rl.rel φ a b):@Rl.rel φ _ rlF (ForInStep.done a) (ForInStep.done b):=h
theorem cf {α:Type} [Rl φ α] {a b:α} (h:Rl.rel φ a b):@Rl.rel φ _ rlF (ForInStep.yield a) (ForInStep.yield b):=h
theorem cR {α β:Type} [Rl φ α] [Rl φ β] {a b:α} {a' b':β} (h:Rl.rel φ a b) (h':Rl.rel φ a' b'):@Rl.rel φ _ rlP (a,a') (b,b'):=⟨h,h'⟩
set_option tactic.hygienic true in
theorem oF {γ : Type} [EqRl γ] {a b : Nat} {x y : Option (Array Keyed) × Array Keyed × γ} {f g : Nat -> Option (Array Keyed) × Array Keyed × γ -> StateT SortSt Sem (ForInStep (Option (Array Keyed) × Array Keyed × γ))} (r : Rl.rel φ x y)
    (h : ∀ i o d c, Sim prog w A E s φ cmp (f i (o.map (Array.map φ), d.map φ, c)) (g i (o, d, c))) : Sim prog w A E s φ cmp (forIn [a:b] x f) (forIn [a:b] y g) := by
  refine dj r fun i x y r => ?_
  obtain ⟨x1, x2, x3⟩ := x
  obtain ⟨y1, y2, y3⟩ := y
  obtain ⟨r1, r2, r3⟩ := r
  obtain rfl : x2 = y2.map φ := r2
  obtain rfl : x3 = y3 := r3
  cases x1 <;> cases y1 <;> first | exact False.elim r1 | skip
  · exact h i none y2 x3
  · rename_i p q
    obtain rfl : p = q.map φ := r1
    exact h i (some q) y2 x3
set_option tactic.hygienic true in
theorem mS {γ β : Type} [EqRl γ] [Rl φ β] {m p : StateT SortSt Sem (Option (Array Keyed) × Array Keyed × γ)} {f g : Option (Array Keyed) × Array Keyed × γ -> StateT SortSt Sem β} (h : Sim prog w A E s φ cmp m p) (kn : ∀ d c, Sim prog w A E s φ cmp (f (none, d.map φ, c)) (g (none, d, c))) (ks : ∀ r d c, Sim prog w A E s φ cmp (f (some (r.map φ), d.map φ, c)) (g (some r, d, c))) : Sim prog w A E s φ cmp (m >>= f) (p >>= g) := by
  refine bL h fun x y r => ?_
  obtain ⟨x1, x2, x3⟩ := x
  obtain ⟨y1, y2, y3⟩ := y
  obtain ⟨r1, r2, r3⟩ := r
  obtain rfl : x2 = y2.map φ := r2
  obtain rfl : x3 = y3 := r3
  cases x1 <;> cases y1 <;> first | exact False.elim r1 | skip
  · exact kn y2 x3
  · rename_i p q
    obtain rfl : p = q.map φ := r1
    exact ks q y2 x3
theorem bY {β:Type} [Rl φ β] {f g:SortSt->StateT SortSt Sem β} (k:∀ st ps,Fol φ st ps->Sim prog w A E s φ cmp (f st) (g ps)):Sim prog w A E s φ cmp (get >>= f) (get >>= g) :=
  bL lR fun st ps fo=>k st ps fo
theorem jT (hl:∀ x y:Keyed,Sim prog w A E s φ cmp (lt' (φ x) (φ y)) (lt' x y)) (a b:Array Keyed):Sim prog w A E s φ cmp (kb (a.map φ) (b.map φ)) (kb a b):=by
  refine ak cC fun _=>?_
  refine bp fun y=>?_
  simp only [Array.size_map]
  refine bf (fun _=>aA (by (repeat' first | with_reducible exact cS | with_reducible apply cT | with_reducible apply cf | with_reducible apply cQ | (with_reducible apply dR;simp only [Array.map_append,Array.map_push,Array.map_extract,Array.map_reverse,List.map_toArray,vM,List.map_nil];done) | with_reducible apply cR | with_reducible exact fY))) fun _=>?_
  refine bf (fun _=>aA (by (repeat' first | with_reducible exact cS | with_reducible apply cT | with_reducible apply cf | with_reducible apply cQ | (with_reducible apply dR;simp only [Array.map_append,Array.map_push,Array.map_extract,Array.map_reverse,List.map_toArray,vM,List.map_nil];done) | with_reducible apply cR | with_reducible exact fY))) fun _=>?_
  refine bY fun st ps fo=>?_
  have hg:=fo.mg
  simp only [gallopOf] at hg
  rw [hg]
  repeat' first
    | exact aA (by (repeat' first | with_reducible exact cS | with_reducible apply cT | with_reducible apply cf | with_reducible apply cQ | (with_reducible apply dR;simp only [Array.map_append,Array.map_push,Array.map_extract,Array.map_reverse,List.map_toArray,vM,List.map_nil];done) | with_reducible apply cR | with_reducible exact fY))
    | exact bX
    | refine bf (fun _=>?_) (fun _=>?_)
    | refine ak iK (fun _=>?_)
    | refine ak cC (fun _=>?_)
    | refine bp fun u=>?_
    | (refine a9 (di hl) ?_ (fun u=>?_) <;> try dsimp only)
    | (refine a9 (hl _ _) ?_ (fun u=>?_) <;> try dsimp only)
    | (refine mS (oF (by (repeat' first | with_reducible exact cS | with_reducible apply cT | with_reducible apply cf | with_reducible apply cQ | (with_reducible apply dR;simp only [Array.map_append,Array.map_push,Array.map_extract,Array.map_reverse,List.map_toArray,vM,List.map_nil];done) | with_reducible apply cR | with_reducible exact fY)) fun i o d c=>?_) (fun d c=>?_) (fun r d c=>?_) <;> try dsimp only)
end
end L2
end
section
namespace L2
open PySem PySem.Spec PyProof.Rows
section
variable {prog:Program} {w:World} {A:Around} {E:Value->Shared->Prop} {s:Shared} {φ:Keyed->Keyed} {cmp:Nat->Nat->Option Bool}
set_option tactic.hygienic true in
theorem oE {γ : Type} [EqRl γ] {a b : Nat} {x y : Option (Array Keyed) × Nat × Nat × Array Keyed × γ} {f g : Nat -> Option (Array Keyed) × Nat × Nat × Array Keyed × γ -> StateT SortSt Sem (ForInStep (Option (Array Keyed) × Nat × Nat × Array Keyed × γ))} (r : Rl.rel φ x y)
    (h : ∀ i o m n d c, Sim prog w A E s φ cmp (f i (o.map (Array.map φ), m, n, d.map φ, c)) (g i (o, m, n, d, c))) : Sim prog w A E s φ cmp (forIn [a:b] x f) (forIn [a:b] y g) := by
  refine dj r fun i x y r => ?_
  obtain ⟨x1, xm, xn, x2, x3⟩ := x
  obtain ⟨y1, ym, yn, y2, y3⟩ := y
  obtain ⟨r1, rm, rn, r2, r3⟩ := r
  obtain rfl : xm = ym := rm
  obtain rfl : xn = yn := rn
  obtain rfl : x2 = y2.map φ := r2
  obtain rfl : x3 = y3 := r3
  cases x1 <;> cases y1 <;> first | exact False.elim r1 | skip
  · exact h i none _ _ y2 x3
  · rename_i p q
    obtain rfl : p = q.map φ := r1
    exact h i (some q) _ _ y2 x3
set_option tactic.hygienic true in
theorem mR {γ β : Type} [EqRl γ] [Rl φ β] {m p : StateT SortSt Sem (Option (Array Keyed) × Nat × Nat × Array Keyed × γ)} {f g : Option (Array Keyed) × Nat × Nat × Array Keyed × γ -> StateT SortSt Sem β} (h : Sim prog w A E s φ cmp m p) (kn : ∀ m n d c, Sim prog w A E s φ cmp (f (none, m, n, d.map φ, c)) (g (none, m, n, d, c))) (ks : ∀ r m n d c, Sim prog w A E s φ cmp (f (some (r.map φ), m, n, d.map φ, c)) (g (some r, m, n, d, c))) : Sim prog w A E s φ cmp (m >>= f) (p >>= g) := by
  refine bL h fun x y r => ?_
  obtain ⟨x1, xm, xn, x2, x3⟩ := x
  obtain ⟨y1, ym, yn, y2, y3⟩ := y
  obtain ⟨r1, rm, rn, r2, r3⟩ := r
  obtain rfl : xm = ym := rm
  obtain rfl : xn = yn := rn
  obtain rfl : x2 = y2.map φ := r2
  obtain rfl : x3 = y3 := r3
  cases x1 <;> cases y1 <;> first | exact False.elim r1 | skip
  · exact kn _ _ y2 x3
  · rename_i p q
    obtain rfl : p = q.map φ := r1
    exact ks q _ _ y2 x3
theorem jU (hl:∀ x y:Keyed,Sim prog w A E s φ cmp (lt' (φ x) (φ y)) (lt' x y)) (a b:Array Keyed):Sim prog w A E s φ cmp (kc (a.map φ) (b.map φ)) (kc a b):=by
  refine ak cC fun _=>?_
  simp only [Array.size_map]
  refine bp fun y=>?_
  refine bf (fun _=>aA (by (repeat' first | with_reducible exact cS | with_reducible apply cT | with_reducible apply cf | with_reducible apply cQ | (with_reducible apply dR;simp only [Array.map_append,Array.map_push,Array.map_extract,Array.map_reverse,List.map_toArray,vM,List.map_nil];done) | with_reducible apply cR | with_reducible exact fY))) fun _=>?_
  refine bf (fun _=>aA (by (repeat' first | with_reducible exact cS | with_reducible apply cT | with_reducible apply cf | with_reducible apply cQ | (with_reducible apply dR;simp only [Array.map_append,Array.map_push,Array.map_extract,Array.map_reverse,List.map_toArray,vM,List.map_nil];done) | with_reducible apply cR | with_reducible exact fY))) fun _=>?_
  refine bY fun st ps fo=>?_
  have hg:=fo.mg
  simp only [gallopOf] at hg
  rw [hg]
  repeat' first
    | exact aA (by (repeat' first | with_reducible exact cS | with_reducible apply cT | with_reducible apply cf | with_reducible apply cQ | (with_reducible apply dR;simp only [Array.map_append,Array.map_push,Array.map_extract,Array.map_reverse,List.map_toArray,vM,List.map_nil];done) | with_reducible apply cR | with_reducible exact fY))
    | exact bX
    | refine bf (fun _=>?_) (fun _=>?_)
    | refine ak iK (fun _=>?_)
    | refine ak cC (fun _=>?_)
    | refine bp fun u=>?_
    | (refine a9 (di hl) ?_ (fun u=>?_) <;> try dsimp only)
    | (refine a9 (hl _ _) ?_ (fun u=>?_) <;> try dsimp only)
    | (refine mR (oE (by (repeat' first | with_reducible exact cS | with_reducible apply cT | with_reducible apply cf | with_reducible apply cQ | (with_reducible apply dR;simp only [Array.map_append,Array.map_push,Array.map_extract,Array.map_reverse,List.map_toArray,vM,List.map_nil];done) | with_reducible apply cR | with_reducible exact fY)) fun i o m n d c=>?_) (fun m n d c=>?_) (fun r m n d c=>?_) <;> try dsimp only)
end
end L2
end
section
namespace L2
open PySem PySem.Spec PyProof.Rows
section
variable {prog:Program} {w:World} {A:Around} {E:Value->Shared->Prop} {s:Shared} {φ:Keyed->Keyed} {cmp:Nat->Nat->Option Bool}
theorem i5 {G:Array Keyed->Keyed × Nat->Array Keyed} (hG:∀ a p j,G (a.map φ) (φ p,j)=(G a (p,j)).map φ):∀ (l:List (Keyed × Nat)) (xs:Array Keyed),(l.map fun x=>(φ x.1,x.2)).foldl G (xs.map φ)=(l.foldl G xs).map φ
  | [],xs=>rfl
  | (p,j) :: l,xs=>by
    rw [vM,List.foldl_cons,List.foldl_cons,<- i5 hG l]
    dsimp only
    rw [hG]
theorem lQ {m:Array Keyed} {G:Array Keyed->Keyed × Nat->Array Keyed} {f:SortSt->Array Keyed->SortSt} (hf:∀ st X,f st X=setArr st (X.toList.zipIdx.foldl G (arrOf st))) (hG:∀ a p j,G (a.map φ) (φ p,j)=(G a (p,j)).map φ):Sim prog w A E s φ cmp (modify fun st=>f st (m.map φ)) (modify fun st=>f st m):=by
  refine cD fun st ps fo=>?_
  rw [hf,hf]
  refine ⟨fo.kind,fo.kind',?_,fo.pend,fo.mg,fo.fail,fo.fail'⟩
  show _=Array.map φ (m.toList.zipIdx.foldl G (arrOf ps))
  rw [<- i5 hG,<- fo.arr]
  show (m.map φ).toList.zipIdx.foldl G (arrOf st)=_
  congr 1
  rw [Array.toList_map,List.zipIdx_map]
  rfl
theorem iL {β:Type} [Rl φ β] {m p:StateT SortSt Sem (Array Keyed)} {f g:Array Keyed->StateT SortSt Sem β} (h:Sim prog w A E s φ cmp m p) (k:∀ d,Sim prog w A E s φ cmp (f (d.map φ)) (g d)):Sim prog w A E s φ cmp (m >>= f) (p >>= g):=by
  refine bL h fun x y (r:x=y.map φ)=>?_
  rw [r]
  exact k y
theorem jV (hl:∀ x y:Keyed,Sim prog w A E s φ cmp (lt' (φ x) (φ y)) (lt' x y)) (i:Nat):Sim prog w A E s φ cmp (mergeAt' i) (mergeAt' i):=by
  refine bY fun st ps fo=>?_
  have h1:=fo.arr
  have h2:=fo.pend
  simp only [arrOf,pendingOf] at h1 h2
  rw [h2]
  generalize (pendingOf ps)[i]?=a
  generalize (pendingOf ps)[i+1]?=b
  cases a with
  | none=>exact bX
  | some a =>
  cases b with
  | none=>exact bX
  | some b =>
  obtain ⟨sa,na,pw⟩:=a
  obtain ⟨sb,nb,pw'⟩:=b
  refine ak (qN ⟨fo.kind,fo.kind',fo.arr,rfl,fo.mg,fo.fail,fo.fail'⟩) fun _=>?_
  rw [h1]
  refine bp fun u=>?_
  refine a9 (di hl) (aA rfl) fun k=>?_
  refine bf (fun _=>aA rfl) fun _=>?_
  refine bp fun u=>?_
  refine a9 (di hl) (aA rfl) fun k=>?_
  refine bf (fun _=>aA rfl) fun _=>?_
  simp only [<- Array.map_extract]
  refine bf (fun _=>?_) fun _=>?_
  · refine iL (jT hl _ _) fun d=>ak (lQ (fun _ _=>rfl) fun _ _ _=>Array.map_setIfInBounds.symm) fun _=>bY fun st ps f=>aA ?_
    show (failedOf st).isNone=(failedOf ps).isNone
    rw [f.fail,f.fail']
  · refine iL (jU hl _ _) fun d=>ak (lQ (fun _ _=>rfl) fun _ _ _=>Array.map_setIfInBounds.symm) fun _=>bY fun st ps f=>aA ?_
    show (failedOf st).isNone=(failedOf ps).isNone
    rw [f.fail,f.fail']
theorem jS {f:SortSt->SortSt} (F:Array (Nat × Nat × Nat)->Array (Nat × Nat × Nat)) (hf:∀ st,f st=setPending st (F (pendingOf st))):Sim prog w A E s φ cmp (modify f) (modify f) :=
  cD fun st ps fo=>by
    rw [hf,hf]
    exact ⟨fo.kind,fo.kind',fo.arr,congrArg F fo.pend,fo.mg,fo.fail,fo.fail'⟩
theorem oC (hl:∀ x y:Keyed,Sim prog w A E s φ cmp (lt' (φ x) (φ y)) (lt' x y)):Sim prog w A E s φ cmp sortRuns' sortRuns':=by
  rw [sortRuns'_eq]
  refine bY fun st ps fo=>?_
  have hsz:(arrOf st).size=(arrOf ps).size:=by rw [fo.arr,Array.size_map]
  dsimp only
  rw [hsz]
  generalize (arrOf ps).size=n
  repeat' first
    | exact aA rfl
    | refine bf (fun _=>?_) (fun _=>?_)
    | (refine a9 (qO hl) ?_ (fun u=>?_) <;> try dsimp only)
    | (refine ak (qP hl) (fun u=>?_);try dsimp only)
    | (refine ak (jV hl _) (fun u=>?_);try dsimp only)
    | (refine ak cC (fun u=>?_);try dsimp only)
    | (refine ak (jS (fun p=>p.push _) fun _=>rfl) (fun u=>?_);try dsimp only)
    | (refine ak (jS (fun p=>p.modify (p.size - 1) _) fun _=>rfl) (fun u=>?_);try dsimp only)
    | (refine bY fun st ps fo=>?_;rw [fo.pend];generalize pendingOf ps=p;try dsimp only)
    | (refine eh (eg fun i x=>?_) (fun d=>?_) (fun c d=>?_) <;> try dsimp only)
    | (generalize Array.back? _=d;rcases d with _ | ⟨s1,n1,x⟩ <;> dsimp only)
    | (generalize (if p.size > 1 then p[p.size - 2]? else none)=d;rcases d with _ | ⟨s1,n1,x⟩ <;> dsimp only)
end
end L2
end
section
namespace L2
open PySem PySem.Spec PyProof.Rows
noncomputable def j6 (n:Nat):Array Keyed:=((List.range n).map fun i=>((Value.ref i,Value.ref i):Keyed)).toArray
noncomputable def mf (x:Keyed):Option Nat:=match x.1 with
  | .ref i=>some i
  | _=>none
noncomputable def cb (ns:List (List Int)):Option (List Nat) :=
  match ev (ib ns) (sortRuns'.run (SortSt.mk' (aK true) (j6 ns.length) #[] 7 none)) none with
  | some ((_,st),_)=>(arrOf st).toList.mapM mf
  | none=>none
end L2
end
section
namespace L2
open PySem PySem.Spec PyProof.Rows
structure NRs (h:Heap) (bs:List Addr) (ns:List (List Int)):Prop where
  len:ns.length=bs.length
  at':∀ (i:Nat) (b:Addr) (n:List Int),bs[i]?=some b->ns[i]?=some n->IsNts h b n
theorem NRs.tail {h:Heap} {b:Addr} {bs:List Addr} {n:List Int} {ns:List (List Int)} (r:NRs h (b :: bs) (n :: ns)):NRs h bs ns :=
  ⟨by simpa using r.len,fun i b n e1 e2=>r.at' (i+1) b n (by simpa using e1) (by simpa using e2)⟩
theorem NRs.keep {h h':Heap} {bs:List Addr} {ns:List (List Int)} (r:NRs h bs ns) (k:∀ b ∈ bs,∀ o,h.get? b=some o->h'.get? b=some o):NRs h' bs ns :=
  ⟨r.len,fun i b n e1 e2=>(r.at' i b n e1 e2).at (k b (vE e1))⟩
theorem NRs.mem {h:Heap} {bs:List Addr} {ns:List (List Int)} (r:NRs h bs ns):∀ b ∈ bs,∃ n ∈ ns,IsNts h b n:=fun b hb=>by
  obtain ⟨i,hi⟩:=List.getElem?_of_mem hb
  have hi':i < ns.length:=by rw [r.len];exact (vD.mp hi).1
  exact ⟨ns[i],List.getElem_mem _,r.at' i b _ hi (vy hi')⟩
noncomputable def kOk (ns:List (List Int)):Prop:=(∀ n ∈ ns,n ≠ [])\/ns.head?=some []
theorem k3:cb []=some []:=by kernel_rfl
theorem k0 (n:List Int):cb [n]=some [0]:=by kernel_rfl
section
variable {prog:Program} {w:World} {A:Around} {E:Value->Shared->Prop} {s:Shared}
theorem pX {b:Addr} {Q:Option Value->Shared->Prop} (hb:IsNts s.heap b []) (h:Q none s):wpAny (model prog w) A (firstOfTuple' (.ref b)) Q E s:=by
  obtain ⟨it,⟨o,e,c,k,d⟩,j⟩:=hb
  refine vj (wpAny_typeOf (T:="tuple") ⟨o,e,c⟩ ?_)
  rw [if_neg (by decide)]
  refine vj (listItems_at e d ?_)
  have:it[0]?=none:=by
    rw [<- Array.getElem?_toList]
    generalize it.toList=l at j
    cases j
    rfl
  rw [this]
  exact vm h
theorem fc {Q:List (Option Value)->Shared->Prop}:∀ (bs:List Addr) (ns:List (List Int)),NRs s.heap bs ns->(∀ os:List (Option Value),(ns.head?=some []->os.head?=some none)->Q os s) ->
    wpAny (model prog w) A ((bs.map Value.ref).mapM firstOfTuple') Q E s
  | [],[],_,q=>by
    simp only [List.map_nil,List.mapM_nil]
    exact vm (q [] fun h=>by cases h)
  | [],_ :: _,r,_=>by have:=r.len;cases this
  | _ :: _,[],r,_=>by have:=r.len;cases this
  | b :: bs,n :: ns,r,q=>by
    rw [vM,List.mapM_cons]
    have hb:=r.at' 0 b n rfl rfl
    cases n with
    | nil=>exact vj (pX hb (vj (fc bs ns r.tail fun os _=>vm (q (none :: os) fun _=>rfl))))
    | cons i n=>exact vj (i7 hb (by simp) fun j t=>vj (fc bs ns r.tail fun os _=>vm (q (some (.int j t) :: os) fun h=>by simp at h)))
theorem iE {Q:List Value->Shared->Prop}:∀ (bs:List Addr) (ns:List (List Int)),NRs s.heap bs ns->Q (bs.map fun _=>.type "tuple") s->wpAny (model prog w) A ((bs.map Value.ref).mapM typeOf) Q E s
  | [],_,_,q=>by
    simp only [List.map_nil,List.mapM_nil]
    exact vm q
  | _ :: _,[],r,_=>by have:=r.len;cases this
  | b :: bs,n :: ns,r,q=>by
    rw [vM,List.mapM_cons]
    obtain ⟨it,⟨o,e,c,k,d⟩,j⟩:=r.at' 0 b n rfl rfl
    exact vj (wpAny_typeOf (T:="tuple") ⟨o,e,c⟩ (vj (iE bs ns r.tail (vm q))))
theorem pH {bs:List Addr} {ns:List (List Int)} {Q:SortKind->Shared->Prop} (h2:bs ≠ []) (r:NRs s.heap bs ns) (hk:kOk ns) (h:∀ k,ld k->Q k s):wpAny (model prog w) A (keyKind' (bs.map Value.ref).toArray) Q E s:=by
  rcases hk with hk | hk
  · refine pG h2 (fun b hb=>?_) (h _ (.inl rfl))
    obtain ⟨n,hn,x⟩:=r.mem b hb
    exact ⟨n,hk n hn,x⟩
  · rw [keyKind'_eq,List.mapM_toArray]
    refine vj ?_
    rw [map_eq_pure_bind]
    refine vj (fc bs ns r fun os ho=>vm ?_)
    have ho:=ho hk
    obtain ⟨os,rfl⟩:∃ l,os=none :: l:=by
      cases os with
      | nil=>cases ho
      | cons x l=>cases ho;exact ⟨l,rfl⟩
    rw [if_neg (by simp),if_neg (by simp),oneTypeOnly'_eq,List.mapM_toArray]
    refine vj (vj ?_)
    rw [map_eq_pure_bind]
    refine vj (iE bs ns r (vm ?_))
    have h0:(List.map (fun _:Addr=>Value.type "tuple") bs).toArray[0]?=some (Value.type "tuple"):=by
      cases bs with
      | nil=>exact absurd rfl h2
      | cons b bs=>simp
    have hall:((List.map (fun _:Addr=>Value.type "tuple") bs).toArray.all fun x=>x == Value.type "tuple")=true:=by
      simp only [List.all_toArray,List.all_map,List.all_eq_true]
      intro _ _
      rfl
    rw [h0]
    dsimp only
    rw [if_pos hall]
    exact vm (vm (h _ (.inr rfl)))
theorem m6 (bs:List Addr):(bs.map Value.ref).toArray.zip (bs.map Value.ref).toArray=(j6 bs.length).map (hV bs):=by
  apply Array.ext_getElem?
  intro i
  rw [List.zip_toArray,Array.getElem?_map]
  unfold j6
  simp only [List.getElem?_toArray,vH]
  by_cases hi:i < bs.length
  · rw [List.getElem?_range hi]
    have e:bs[i]?=some bs[i]:=vy hi
    have:((bs.map Value.ref).zip (bs.map Value.ref))[i]?=some (Value.ref bs[i],Value.ref bs[i]):=by
      simp [List.getElem?_zip_eq_some,e]
    rw [this]
    simp [hV,List.getD,e]
  · rw [List.getElem?_eq_none (by simp;omega),List.getElem?_eq_none (by simp;omega)]
    rfl
theorem j5 {bs:List Addr}:∀ {l:List Keyed} {is:List Nat},l.mapM mf=some is->l.map (fun x=>(hV bs x).2)=is.map fun i=>Value.ref (bs.getD i 0)
  | [],is,h=>by cases h;rfl
  | x :: l,is,h=>by
    rw [List.mapM_cons] at h
    obtain ⟨i,e1,h⟩:=vW.mp h
    obtain ⟨is',e2,h⟩:=vW.mp h
    cases h
    rw [vM,vM,j5 e2]
    congr 1
    unfold mf at e1
    unfold hV
    cases hx:x.1 <;> rw [hx] at e1 <;> cases e1
    rfl
theorem mV {bs:List Addr} {ns:List (List Int)} {is:List Nat} {k:SortKind} {Q:Unit->SortSt->Prop} (hu:A.units < cLine) (r:NRs s.heap bs ns) (hk:ld k) (hs:cb ns=some is)
    (h:∀ st',(arrOf st').map (·.2)=(is.map fun i=>Value.ref (bs.getD i 0)).toArray->failedOf st'=none->Q () st') :
    wpS (model prog w) A E s sortRuns' Q (SortSt.mk' k ((bs.map Value.ref).toArray.zip (bs.map Value.ref).toArray) #[] 7 none):=by
  unfold cb at hs
  cases e:ev (ib ns) (sortRuns'.run (SortSt.mk' (aK true) (j6 ns.length) #[] 7 none)) none with
  | none=>rw [e] at hs;cases hs
  | some p =>
    obtain ⟨⟨u,ps⟩,q⟩:=p
    rw [e] at hs
    have hs:(arrOf ps).toList.mapM mf=some is:=hs
    have hn:∀ (i:Nat) (n:List Int),ns[i]?=some n->IsNts s.heap (bs.getD i 0) n:=fun i n e=>by
      have hi:i < bs.length:=by rw [<- r.len];exact (vD.mp e).1
      have e2:bs[i]?=some bs[i]:=vy hi
      rw [List.getD,e2]
      exact r.at' i _ n e2 e
    obtain ⟨a,st',_,f,_,hw⟩:=oC (tO (prog:=prog) (w:=w) (E:=E) hu hn) (SortSt.mk' k ((bs.map Value.ref).toArray.zip (bs.map Value.ref).toArray) #[] 7 none) (SortSt.mk' (aK true) (j6 ns.length) #[] 7 none) u ps q
      ⟨hk,rfl,by rw [r.len];exact m6 bs,rfl,rfl,rfl,rfl⟩ e
    refine hw _ (h st' ?_ f.fail)
    rw [f.arr,Array.map_map]
    apply Array.ext'
    rw [Array.toList_map]
    exact j5 hs
theorem oB {a:Addr} {bs:List Addr} {ns:List (List Int)} {is:List Nat} {n:Nat} {P:Fin->Shared->Prop} (hu:A.units < cLine) (ho:s.heap.get? a=some (seqObj "list" (bs.map Value.ref).toArray n)) (r:NRs s.heap bs ns) (hk:kOk ns) (hs:cb ns=some is) (hsz:bs.length<=sizeLine) (hiz:is.length<=sizeLine)
    (h:P (.done (.ret .none)) { s with heap:=sortedHeap s.heap a (bs.map Value.ref) (is.map fun i=>Value.ref (bs.getD i 0)).toArray }) :
    wpAny (model prog w) A (Builtin.«list.sort» ⟨[.ref a],[]⟩) P E s:=by
  rw [list_sort_plain]
  have ha:a < s.heap.objs.size:=vz ho
  have hsz2:(bs.map Value.ref).toArray.size<=sizeLine:=by simpa using hsz
  have hsz3:(is.map fun i=>Value.ref (bs.getD i 0)).toArray.size<=sizeLine:=by simpa using hiz
  have hba:∀ b ∈ bs,b ≠ a:=fun b hb z=>by
    obtain ⟨m,_,it,⟨o,e1,c,_⟩,_⟩:=r.mem b hb
    rw [z,ho] at e1
    cases e1
    have c:Value.type "list"=Value.type "tuple":=c
    injection c with c
    exact absurd c (by decide)
  refine vj (listItems_at ho rfl ?_)
  refine vj (listUpdate_at ho rfl ?_)
  obtain ⟨e1,ho1⟩:∃ e1,(s.heap.update a (Obj.mapSeq fun _=>#[])).get? a=some (seqObj "list" #[] e1):=⟨_,get?_update_seq ho (fun _=>#[])⟩
  refine vj (seqEpoch_at ho1 rfl ?_)
  refine vj (wpAny_newTuple ?_)
  refine vj (wpAny_newList ?_)
  refine vn ?_
  have ho6:(((s.heap.update a (Obj.mapSeq fun _=>#[])).push (seqObj "tuple" (bs.map Value.ref).toArray 0)).push (seqObj "list" #[] 0)).get? a=some (seqObj "list" #[] e1) :=
    vq _ (vq _ ho1)
  have r6:NRs (((s.heap.update a (Obj.mapSeq fun _=>#[])).push (seqObj "tuple" (bs.map Value.ref).toArray 0)).push (seqObj "list" #[] 0)) bs ns:=r.keep fun b hb o e =>
    vq _ (vq _ ((wa _ _ (Ne.symm (hba b hb))).trans e))
  show wpAny (model prog w) A _ P E { s with heap:=((s.heap.update a (Obj.mapSeq fun _=>#[])).push (seqObj "tuple" (bs.map Value.ref).toArray 0)).push (seqObj "list" #[] 0) }
  dsimp only
  by_cases h2:(bs.map Value.ref).toArray.size < 2
  · rw [if_pos h2,if_pos h2]
    refine vj (vm ?_)
    rw [StateT.run_pure]
    refine vj (vm ?_)
    dsimp only
    have out:((bs.map Value.ref).toArray.zip (bs.map Value.ref).toArray).map (·.2)=(is.map fun i=>Value.ref (bs.getD i 0)).toArray:=by
      have hl:=r.len
      match bs,ns,hl,h2 with
      | [],[],_,_=>rw [k3] at hs;cases hs;simp
      | [b],[n],_,_=>rw [k0] at hs;cases hs;simp [List.zip_toArray]
      | _ :: _ :: _,_,_,h2=>simp at h2;omega
    refine vj (seqEpoch_at ho6 rfl ?_)
    show wpAny _ _ (Builtin.List.listUpdate (.ref a) (fun _=>((bs.map Value.ref).toArray.zip (bs.map Value.ref).toArray).map (·.2)) >>= _) _ _ _
    rw [out]
    refine vj (listUpdate_at ho6 rfl ?_ (hsz2:=Nat.le_succ_of_le hsz3))
    simp only [bne_self_eq_false,vY,if_false]
    exact vm h
  · rw [if_neg h2,if_neg h2]
    have hne:bs ≠ []:=fun z=>by subst z;simp at h2
    refine vj (pH hne r6 hk fun k hk=>?_)
    refine vj (wpAny_mono (mV (Q:=fun _ st'=>(arrOf st').map (·.2)=(is.map fun i=>Value.ref (bs.getD i 0)).toArray/\failedOf st'=none) hu r6 hk hs fun st' a1 a2=>⟨a1,a2⟩) ?_ fun _ _ e=>e)
    rintro ⟨⟨⟩,st'⟩ s' ⟨rfl,hp,hf⟩
    dsimp only
    refine vj (seqEpoch_at ho6 rfl ?_)
    rw [hp]
    refine vj (listUpdate_at ho6 rfl ?_ (hsz2:=Nat.le_succ_of_le hsz3))
    rw [hf]
    simp only [bne_self_eq_false,vY,if_false]
    exact vm h
end
end L2
end
section
namespace L2
open PySem PySem.Spec PyProof.Rows
section
variable {prog:Program} {w:World} {A:Around} {E:Value->Shared->Prop} {s:Shared}
theorem kZ {l:Addr} {bs:List Addr} {ns:List (List Int)} {is:List Nat} {Q:Value->Shared->Prop} (hu:A.units+2 < cLine) (hl:s.heap.IsList l (bs.map Value.ref).toArray) (r:NRs s.heap bs ns) (hk:kOk ns) (hs:cb ns=some is) (hsz:bs.length<=sizeLine) (hiz:is.length<=sizeLine)
    (h:∀ h' p,s.heap.objs.size<=p->(∀ b o,s.heap.get? b=some o->h'.get? b=some o)->(∃ e,h'.get? p=some (seqObj "list" (is.map fun i=>Value.ref (bs.getD i 0)).toArray e))->Q (.ref p) { s with heap:=h' }) :
    wpAny (model prog w) A (call (.builtin "sorted") [.ref l]) Q E s:=by
  refine Calls.call_function_entry kind_sorted plain_sorted entry_sorted (args_sorted1 _) ?_
  unfold Builtin.«sorted»
  refine vj (m:=checkCount "sorted" 1 1 _) (vm ?_)
  refine vj (collect_list hl ?_ (by rw [vC];exact hsz))
  refine vj (wpAny_newList ?_ (by rw [vC];exact hsz))
  obtain ⟨h1,k1,z1,e1⟩:∃ h1,(∀ b o,s.heap.get? b=some o->h1.get? b=some o)/\s.heap.objs.size<=h1.objs.size/\h1=(s.heap.push (seqObj "list" #[] 0)).update s.heap.objs.size (Obj.mapSeq (· ++ (bs.map Value.ref).toArray)):=by
    refine ⟨_,fun b o e=>?_,?_,rfl⟩
    · exact (wa _ _ (Nat.ne_of_gt (vz e))).trans (vq _ e)
    · rw [Heap.size_update,wb]
      exact Nat.le_succ _
  rw [<- e1]
  have hoL:(h1.push (seqObj "list" (bs.map Value.ref).toArray 0)).get? h1.objs.size=some (seqObj "list" (bs.map Value.ref).toArray 0):=vB _ rfl
  have k2:∀ b o,s.heap.get? b=some o->(h1.push (seqObj "list" (bs.map Value.ref).toArray 0)).get? b=some o:=fun b o e=>vq _ (k1 b o e)
  show wpAny _ _ _ _ _ { s with heap:=h1.push (seqObj "list" (bs.map Value.ref).toArray 0) }
  refine vj (vn (wpAny_call_entry slot_list_sort ⟨_,hoL,rfl⟩ entry_list_sort (oB (s:={ s with heap:=h1.push (seqObj "list" (bs.map Value.ref).toArray 0) }) ?_ hoL (r.keep fun b _ o e=>k2 b o e) hk hs hsz hiz ⟨_,rfl,?_⟩) (args_list_sort _)))
  · exact hu
  refine vm ⟨_,rfl,h _ h1.objs.size z1 (fun b o e=>?_) ?_⟩
  · have hb1:b < h1.objs.size:=vz (k1 b o e)
    unfold sortedHeap
    refine (wa _ _ (Nat.ne_of_gt hb1)).trans (vq _ (vq _ ?_))
    exact (wa _ _ (Nat.ne_of_gt hb1)).trans (k2 b o e)
  · unfold sortedHeap
    obtain ⟨e1,h1e⟩:∃ e1,((h1.push (seqObj "list" (bs.map Value.ref).toArray 0)).update h1.objs.size (Obj.mapSeq fun _=>#[])).get? h1.objs.size=some (seqObj "list" #[] e1):=⟨_,get?_update_seq hoL (fun _=>#[])⟩
    exact ⟨_,get?_update_seq (vq _ (vq _ h1e)) (fun _=>(is.map fun i=>Value.ref (bs.getD i 0)).toArray)⟩
end
section
variable {X:Cx}
noncomputable def oY (K:FG):List V->Hp->VK->Prop:=fun xs H Q=>∃ (l:Addr) (bs:List Addr) (ns:List (List Int)) (is:List Nat),xs=[.ref l]/\SqL K H l (bs.map V.ref)/\ns.length=bs.length/\(∀ (i:Nat) (b:Addr) (n:List Int),bs[i]?=some b->ns[i]?=some n->H b=some (.tup (n.map V.int))) /\
  kOk ns/\cb ns=some is/\ns.length<=sizeLine/\is.length<=sizeLine/\∀ p,H p=none->Q (.ref p) (upd H p (.lst (is.map fun i=>V.ref (bs.getD i 0))))
theorem lX:∀ {us:List Value} {bs:List Addr},Vals (bs.map V.ref) us->us=bs.map Value.ref
  | _,[],h=>by cases h;rfl
  | _,b :: bs,h=>by
    cases h with
    | cons r h =>
      cases (show _=Value.ref b from r)
      rw [vM,lX h]
theorem lF (hu:X.A.units+2 < cLine):cM X (.builtin "sorted") (oY X.K):=by
  intro pins s σ H xs us Q I rx h
  obtain ⟨l,bs,ns,is,rfl,hl,hn,hb,hk,hs,hz,hiz,q⟩:=h
  obtain ⟨u,rfl,ru⟩:=iD rx
  cases (show u=Value.ref l from ru)
  obtain ⟨its,rv,p,_⟩:=I.list hl
  have ei:=lX rv
  subst ei
  refine kZ hu (by simpa using p.isList) ⟨hn,fun i b n e1 e2=>?_⟩ hk hs (by omega) hiz fun h' p hp k ⟨e,he⟩=>?_
  · obtain ⟨its,r,p,_⟩:=I.tuple (SqT.of (hb i b n e1 e2))
    exact ⟨_,p,lA r⟩
  · have er:(is.map fun i=>V.ref (bs.getD i 0))=(is.map fun i=>bs.getD i 0).map V.ref:=by rw [we];rfl
    have er2:(is.map fun i=>Value.ref (bs.getD i 0))=(is.map fun i=>bs.getD i 0).map Value.ref:=by rw [we];rfl
    refine ⟨.ref p,_,I.laid (a:=p) (o:=.lst (is.map fun i=>V.ref (bs.getD i 0))) (t':=s.toks) (fun b o q=>k b o q) hp ⟨by rw [vC];exact hiz,is.map (fun i=>Value.ref (bs.getD i 0)),e,?_,he⟩,rfl,q p (I.hok.fresh hp)⟩
    rw [er,er2]
    exact ff _
end
end L2
end
section
namespace L2
open PySem PySem.W PySem.Spec PyProof.Rows
noncomputable abbrev excO (a:Addr) (cls:Value):HO:=.ext fun h=>∃ o,h.get? a=some o/\o.cls=cls
noncomputable abbrev excF (ob:Obj) (a:Addr) (cls:Value):HO:=.frz ob (excO a cls)
structure ExcK (K:FG) (D:Addr):Prop where
  ga:findIn K (.ref D) "__getattribute__"=some (some (.builtin "BaseException.__getattribute__"))
  gt:findIn K (.ref D) "__getattr__"=some none
  cl:(clsIn K D).isSome=true
  ca:findIn K (.ref D) "__class__"=some (some (.builtin "object.__class__"))
  sp:specialIn K (.builtin "object.__class__") "__get__"=some (some (.builtin "getset_descriptor.__get__"))
  tk:takesIn K (.builtin "object.__class__")=some true
  ob:mroIn K D (.type "object")=some true
  be:mroIn K D (.type "BaseException")=some true
structure XName (K:FG) (c:String) (D:Addr):Prop where
  ns:nsIn K mainGlobals (Str.ofString c)=some (some (.ref D))
  ex:ExcK K D
theorem XName.inj {K:FG} {c:String} {D D':Addr} (a:XName K c D) (b:XName K c D'):D=D':=by
  have:=a.ns.symm.trans b.ns
  cases this
  rfl
end L2
end
section
namespace L2
open PySem
section
variable {K:FG} {h:Heap} {mg:Str->Option Value}
theorem fP {h:Heap}:∀ {l:List Nat} {a:Nat} {o:Obj},(l.filterMap fun a=>(h.get? a).map fun o=>(a,o)).lookup a=some o->h.get? a=some o
  | [],_,_,e=>by cases e
  | b :: l,a,o,e=>by
    rw [List.filterMap_cons] at e
    cases hb:h.get? b with
    | none=>rw [hb] at e;exact fP e
    | some p =>
      rw [hb] at e
      replace e:List.lookup a ((b,p) :: l.filterMap fun a=>(h.get? a).map fun o=>(a,o))=some o:=e
      rw [List.lookup_cons] at e
      cases hab:a == b with
      | true=>rw [hab] at e;cases eq_of_beq hab;cases e;exact hb
      | false=>rw [hab] at e;exact fP e
theorem fragAt_in (h:Heap):(pW h).In h:=fun _ _ e=>fP e
noncomputable def stPos (s:Stmt):Pos:=match s with
  | .FunctionDef _ _ _ _ _ _ _ _ _ p=>p
  | _=>⟨0,0,0,0⟩
set_option tactic.hygienic true in
theorem u3 {n:Str} {st:Stmt} (X:K.In h) (G:h.Ns mainGlobals mg) (e:kH K n=hJ n st):Def K mg n st:=by
  unfold kH at e
  split at e
  · rename_i f hf
    split at e
    · rename_i oc od fd sl hl
      unfold hJ at e
      obtain ⟨name,qual,params,body,scope,globals,closure,defaults,kw,doc,pm,an,cd,ct,bi⟩:=fd
      simp only [Option.some.injEq,Prod.mk.injEq] at e
      obtain ⟨rfl,rfl,rfl,rfl,rfl,rfl,rfl,rfl,rfl,hc⟩:=e
      exact ⟨f,_,uV (st:=st) hl hc (by unfold PySem.W.keepIn;simp only [hl]),PySem.W.mg_of X G hf⟩
    · cases e
  · cases e
theorem lf {α β:Type} {f g:α->β} {l:List α} (e:l.map f=l.map g) (i:Nat) {a:α} (h:l[i]?=some a):f a=g a:=List.map_inj_left.mp e a (vE h)
theorem bE {ds:List (Str × Stmt)} {n:Str} {st:Stmt} (X:K.In h) (G:h.Ns mainGlobals mg) (e:ds.map (fun p=>kH K p.1)=ds.map (fun p=>hJ p.1 p.2)) (i:Nat) (hi:ds[i]?=some (n,st)):Def K mg n st:=u3 X G (lf e i hi)
theorem bH {l:List Str} {n:Str} (X:K.In h) (G:h.Ns mainGlobals mg) (e:l.map (PySem.W.nsIn K mainGlobals)=l.map (fun _=>some none)) (i:Nat) (hi:l[i]?=some n):mg n=none:=PySem.W.mg_none_of X G (lf e i hi)
set_option tactic.hygienic true in
theorem lB {l:List (Str × Int)} {n:Str} {v:Int} (X:K.In h) (G:h.Ns mainGlobals mg) (e:l.map (fun p=>jr K p.1)=l.map (fun p=>some p.2)) (i:Nat) (hi:l[i]?=some (n,v)):∃ t,mg n=some (.int v t):=by
  have e:=lf e i hi
  unfold jr at e
  dsimp only at e
  split at e
  · rename_i v' t hs;cases e;exact ⟨t,PySem.W.mg_of X G hs⟩
  · cases e
theorem walk_ofS {l:PySem.W.OpenLaw} {n k:Nat} {q:Program} {loose:List Str} {XP:(Str->Option Value)->Heap->Prop} {YP:World->Heap->Prop} {d:DefRec} {S:FG->Prop} {CX:CXT} {sp:FG->Sp} {x:Str}
    (hn:l.most=some n) (hn2:n<=sizeLine) (hdf:d.params.defaults=[]) (hr:Room k callerA)
    (hY:∀ (w:World) (h:Heap),YP w h->∃ K:FG,K.In h/\S K)
    (F:∀ (w:World) (mg:Str->Option Value) (fa:Addr) (h:Heap) (K:FG),S K->K.In h->h.Ns mainGlobals mg->mg d.name=some (.ref fa) ->
      ∃ fd:FuncData,(∀ (s:Shared) (u:Value),BindsTo s fd ⟨[u],[]⟩ [(x,u)]) /\
        ∀ base:Heap,K.In base->base.Ns mainGlobals mg->FnOk l.prog w K mg base CX k fa fd [x] (sp K))
    (hsp:∀ (K:FG) (H:Hp) (a:Addr) (ns:List Int),ns.length<=n->sB H->SqL K H a (ns.map V.int)->sp K [.ref a] H (fun v _=>v=.bl true) fun _ _ _=>False)
    (hCX:∀ (H:Hp) (s:Shared) (e:Value) (s':Shared),CX [] H s (fun _ _ _=>False) e s'->False) :
    PySem.W.WalkO q loose XP YP l.row.toRowW d [] (fun f vs=>PySem.call f vs):=by
  refine Att.attach_call hn hdf fun w s₀ s₁ mg mb fa o pm cd doc a vs ns G Y ho hd hcd hmg hobj hints hlen hg=>?_
  obtain ⟨K,KX,hS⟩:=hY w _ Y
  obtain ⟨fd,hb,hF⟩:=F w mg fa _ K hS KX G.T.g hmg
  exact pF KX G.T.g G.T.b G.T.builtins G.T.nolimit hg hobj hints (wd hlen hn2) hr hF hb (fun H hO hS=>hsp K H a ns hlen hO hS) fun H e s'=>hCX H s₁ e s'
end
end L2
end
section
namespace L3
open PySem L2
theorem nsE {α:Type} {p:α} {P:Prop} (e:(none:Option α)=some p):P:=nomatch e
inductive D where
 | non | bl (b:Bool) | int (i:Int) | str (x:Str)
 | tup (xs:List D) | lst (xs:List D) | fls (xs:List D) | dk (kvs:List (Key × D)) | dt (kvs:List (List Key × D))
 | exc (c:String) (fs:List (String × D))
noncomputable def fD:D->Bool
 | .lst _=>true
 | .dk _=>true
 | .dt _=>true
 | _=>false
noncomputable def FzL (K:FG) (H:Hp) (a:Addr) (vs:List V):Prop:=(∃ o,H a=some (.frz o (.lst vs)))\/∃ (o:Obj) (its:Array Value) (n:Nat),K.lookup a=some o/\o.cls=.type "list"/\o.dict=none/\o.data=.seq its n/\its.size<=sizeLine/\Vals vs its.toList
theorem FzL.sq {K:FG} {H:Hp} {a:Addr} {vs:List V} (h:FzL K H a vs):SqL K H a vs:=h.elim (fun ⟨o,e⟩=>.inl (.inr ⟨o,e⟩)) .inr
inductive Reps (R:D->V->List Addr->Prop):List D->List V->List Addr->Prop where
 | nil:Reps R [] [] []
 | cons {d v L ds vs L'}:R d v L->Reps R ds vs L'->Reps R (d :: ds) (v :: vs) (L ++ L')
inductive Rep (K:FG) (H:Hp):D->V->List Addr->Prop where
 | non:Rep K H .non .non []
 | bl (b:Bool):Rep K H (.bl b) (.bl b) []
 | int (i:Int):Rep K H (.int i) (.int i) []
 | str (x:Str):Rep K H (.str x) (.str x) []
 | tup {xs a vs L}:H a=some (.tup vs)->Reps (Rep K H) xs vs L->Rep K H (.tup xs) (.ref a) L
 | lst {xs a vs L}:H a=some (.lst vs)->Reps (Rep K H) xs vs L->Rep K H (.lst xs) (.ref a) (a :: L)
 | lstF {xs a vs L}:FzL K H a vs->Reps (Rep K H) xs vs L->Rep K H (.fls xs) (.ref a) L
 | dK {kvs a ps L}:H a=some (.dK ps)->kvs.map (·.1)=ps.map (·.1)->Reps (Rep K H) (kvs.map (·.2)) (ps.map (·.2)) L->Rep K H (.dk kvs) (.ref a) (a :: L)
 | dT {kvs a ps L}:H a=some (.dT ps)->kvs.map (·.1)=ps.map (·.1)->Reps (Rep K H) (kvs.map (·.2)) (ps.map (·.2)) L->Rep K H (.dt kvs) (.ref a) (a :: L)
 | exc {c a D ob}:XName K c D->H a=some (excF ob a (.ref D))->Rep K H (.exc c []) (.ref a) []
noncomputable def RepV (K:FG) (H:Hp) (d:D) (v:V) (L:List Addr):Prop:=match d with
 | .non=>v=.non/\L=[]
 | .bl b=>v=.bl b/\L=[]
 | .int i=>v=.int i/\L=[]
 | .str x=>v=.str x/\L=[]
 | .tup xs=>∃ a vs,v=.ref a/\H a=some (.tup vs)/\Reps (Rep K H) xs vs L
 | .lst xs=>∃ a vs L',v=.ref a/\L=a :: L'/\H a=some (.lst vs)/\Reps (Rep K H) xs vs L'
 | .fls xs=>∃ a vs,v=.ref a/\FzL K H a vs/\Reps (Rep K H) xs vs L
 | .dk kvs=>∃ a ps L',v=.ref a/\L=a :: L'/\H a=some (.dK ps)/\kvs.map (·.1)=ps.map (·.1)/\Reps (Rep K H) (kvs.map (·.2)) (ps.map (·.2)) L'
 | .dt kvs=>∃ a ps L',v=.ref a/\L=a :: L'/\H a=some (.dT ps)/\kvs.map (·.1)=ps.map (·.1)/\Reps (Rep K H) (kvs.map (·.2)) (ps.map (·.2)) L'
 | .exc c fs=>fs=[]/\L=[]/\∃ a D ob,v=.ref a/\XName K c D/\H a=some (excF ob a (.ref D))
theorem Rep.view {K:FG} {H:Hp} {d:D} {v:V} {L:List Addr} (r:Rep K H d v L):RepV K H d v L:=by
 cases r with
 | non=>exact ⟨rfl,rfl⟩
 | bl b=>exact ⟨rfl,rfl⟩
 | int i=>exact ⟨rfl,rfl⟩
 | str x=>exact ⟨rfl,rfl⟩
 | tup h r=>exact ⟨_,_,rfl,h,r⟩
 | lst h r=>exact ⟨_,_,_,rfl,rfl,h,r⟩
 | lstF h r=>exact ⟨_,_,rfl,h,r⟩
 | dK h k r=>exact ⟨_,_,_,rfl,rfl,h,k,r⟩
 | dT h k r=>exact ⟨_,_,_,rfl,rfl,h,k,r⟩
 | exc n h=>exact ⟨rfl,rfl,_,_,_,rfl,n,h⟩
noncomputable def MutAt (H:Hp) (b:Addr):Prop:=(∃ xs,H b=some (.lst xs))\/(∃ ps,H b=some (.dK ps))\/∃ ps,H b=some (.dT ps)
theorem MutAt.ex {H:Hp} {b:Addr} (m:MutAt H b):∃ o,H b=some o:=by
 rcases m with ⟨_,h⟩ | ⟨_,h⟩ | ⟨_,h⟩ <;> exact ⟨_,h⟩
theorem MutAt.notup {H:Hp} {b:Addr} {vs:List V} (m:MutAt H b) (h:H b=some (.tup vs)):False:=by
 rcases m with ⟨_,e⟩ | ⟨_,e⟩ | ⟨_,e⟩ <;> rw [e] at h <;> cases h
theorem MutAt.nofrz {H:Hp} {b:Addr} {o:Obj} {u:HO} (m:MutAt H b) (h:H b=some (.frz o u)):False:=by
 rcases m with ⟨_,e⟩ | ⟨_,e⟩ | ⟨_,e⟩ <;> rw [e] at h <;> cases h
theorem FzL.keep {K:FG} {H H':Hp} {a:Addr} {vs:List V} {M:Addr->Prop} (h:FzL K H a vs) (k:∀ b o,H b=some o->¬ M b->H' b=some o) (hm:∀ b,M b->MutAt H b):FzL K H' a vs:=h.elim (fun ⟨o,e⟩=>.inl ⟨o,k a _ e fun z=>(hm a z).nofrz e⟩) .inr
section
variable {K:FG} {H H':Hp} {d:D} {v:V} {L:List Addr}
theorem Rep.inH (r:Rep K H d v L):∀ b ∈ L,MutAt H b:=by
 refine Rep.rec (motive_1:=fun _ _ L _=>∀ b ∈ L,MutAt H b) (motive_2:=fun _ _ L _=>∀ b ∈ L,MutAt H b) ?_ ?_ ?_ ?_ ?_ ?_ ?_ ?_ ?_ ?_ ?_ ?_ r
 ·intro b hb;cases hb
 ·intro _ b hb;cases hb
 ·intro _ b hb;cases hb
 ·intro _ b hb;cases hb
 ·intro _ _ _ _ _ _ ih;exact ih
 ·intro _ _ _ _ h _ ih b hb
  rcases vx.mp hb with e | hb
  ·rw [e];exact .inl ⟨_,h⟩
  ·exact ih b hb
 ·intro _ _ _ _ _ _ ih;exact ih
 ·intro _ _ _ _ h _ _ ih b hb
  rcases vx.mp hb with e | hb
  ·rw [e];exact .inr (.inl ⟨_,h⟩)
  ·exact ih b hb
 ·intro _ _ _ _ h _ _ ih b hb
  rcases vx.mp hb with e | hb
  ·rw [e];exact .inr (.inr ⟨_,h⟩)
  ·exact ih b hb
 ·intro _ _ _ _ _ _ b hb;cases hb
 ·intro b hb;cases hb
 ·intro _ _ _ _ _ _ _ _ i1 i2 b hb
  rcases vA.mp hb with h | h
  ·exact i1 b h
  ·exact i2 b h
theorem Reps.inH {ds:List D} {vs:List V} (r:Reps (Rep K H) ds vs L):∀ b ∈ L,MutAt H b:=by
 induction r with
 | nil=>intro b hb;cases hb
 | cons r _ ih =>
  intro b hb
  rcases vA.mp hb with h | h
  ·exact r.inH b h
  ·exact ih b h
theorem Rep.keep {M:Addr->Prop} (k:∀ b o,H b=some o->¬ M b->H' b=some o) (hm:∀ b,M b->MutAt H b) (r:Rep K H d v L):(∀ b ∈ L,¬ M b)->Rep K H' d v L:=by
 refine Rep.rec (motive_1:=fun d v L _=>(∀ b ∈ L,¬ M b)->Rep K H' d v L) (motive_2:=fun ds vs L _=>(∀ b ∈ L,¬ M b)->Reps (Rep K H') ds vs L) ?_ ?_ ?_ ?_ ?_ ?_ ?_ ?_ ?_ ?_ ?_ ?_ r
 ·intro _;exact .non
 ·intro b _;exact .bl b
 ·intro b _;exact .int b
 ·intro b _;exact .str b
 ·intro xs a vs L h _ ih hL
  exact .tup (k a _ h fun z=>(hm a z).notup h) (ih hL)
 ·intro xs a vs L h _ ih hL
  exact .lst (k a _ h (hL a vo)) (ih fun b hb=>hL b (vp _ hb))
 ·intro xs a vs L h _ ih hL
  exact .lstF (h.keep k hm) (ih hL)
 ·intro kvs a ps L h e _ ih hL
  exact .dK (k a _ h (hL a vo)) e (ih fun b hb=>hL b (vp _ hb))
 ·intro kvs a ps L h e _ ih hL
  exact .dT (k a _ h (hL a vo)) e (ih fun b hb=>hL b (vp _ hb))
 ·intro c a D ob n h _
  exact .exc n (k a _ h fun z=>(hm a z).nofrz h)
 ·intro _;exact .nil
 ·intro d v L ds vs L' _ _ i1 i2 hL
  exact .cons (i1 fun b hb=>hL b (vv _ hb)) (i2 fun b hb=>hL b (vw _ hb))
theorem Rep.same (r:Rep K H d v L) (s:Same H H'):Rep K H' d v L:=r.keep (M:=fun _=>False) (fun b o h _=>s b o h) (fun _ z=>z.elim) fun _ _ z=>z
theorem Reps.keep {M:Addr->Prop} {ds:List D} {vs:List V} (k:∀ b o,H b=some o->¬ M b->H' b=some o) (hm:∀ b,M b->MutAt H b) (r:Reps (Rep K H) ds vs L):(∀ b ∈ L,¬ M b)->Reps (Rep K H') ds vs L:=by
 induction r with
 | nil=>intro _;exact .nil
 | cons r _ ih=>intro hL;exact .cons (r.keep k hm fun b hb=>hL b (vv _ hb)) (ih fun b hb=>hL b (vw _ hb))
theorem Reps.same {ds:List D} {vs:List V} (r:Reps (Rep K H) ds vs L) (s:Same H H'):Reps (Rep K H') ds vs L:=r.keep (M:=fun _=>False) (fun b o h _=>s b o h) (fun _ z=>z.elim) fun _ _ z=>z
end
inductive Fl where
 | u | l | z
 deriving DecidableEq
structure It3 where
 d:D
 v:V
 L:List Addr
 f:Fl
noncomputable abbrev Sto:=List (Option (D × Fl))
structure Gm where
 H0:Hp
 bw:Addr->Prop
 pr:Nat->Bool
 σ0:St
 orig:Hp
 src:Addr->Prop
 lv:Nat->Option V
noncomputable def OwnOk (G:Gm) (x:It3):Prop:=fD x.d=true/\∃ a L',x.v=.ref a/\x.L=a :: L'/\a ∉ L'/\(x.f=.u->G.H0 a=none\/G.bw a)
structure ItOk (K:FG) (G:Gm) (H:Hp) (x:It3):Prop where
 rep:Rep K H x.d x.v x.L
 own:x.f ≠ .z->OwnOk G x
 src:∀ c ∈ x.L,G.H0 c=none\/G.src c
structure Fx (G:Gm) (H:Hp) (T:List It3) (g:Nat->Option It3):Prop where
 frT:∀ x ∈ T,x.f ≠ .z->∀ a,x.v=.ref a->G.orig a=none
 frS:∀ i x,g i=some x->G.pr i=false->x.f ≠ .z->∀ a,x.v=.ref a->G.orig a=none
 bin:∀ b,G.bw b->∃ o,H b=some o
 ob:∀ b o,G.orig b=some o->∃ o',H b=some o'
 lvS:∀ i x,g i=some x->x.f=.l->G.lv i=some x.v
noncomputable def NoRoot (x y:It3):Prop:=x.f ≠ .z->∀ a,x.v=.ref a->a ∉ y.L
noncomputable def Apart3 (x y:It3):Prop:=NoRoot x y/\NoRoot y x
structure Wf (K:FG) (G:Gm) (H:Hp) (σ:St) (ρ:Sto) (T:List It3) (g:Nat->Option It3):Prop where
 len:σ.length = ρ.length
 sl:∀ i,(g i).map (fun x=>(x.d,x.f))=(ρ[i]?).join
 sv:∀ i x,g i=some x->σ[i]?=some (some x.v)
 okS:∀ i x,g i=some x->ItOk K G H x
 okT:∀ x ∈ T,ItOk K G H x
 ss:∀ i j x y,i ≠ j->g i=some x->g j=some y->NoRoot x y
 st:∀ i x,g i=some x->∀ y ∈ T,Apart3 x y
 tt:T.Pairwise Apart3
 base:∀ b o,G.H0 b=some o->¬ G.bw b->H b=some o
 pro:∀ i,G.pr i=true->σ[i]?=G.σ0[i]?
 fx:Fx G H T g
structure Le (K:FG) (G:Gm) (W:D->Sto->Prop) (G0:Gm) (W0:D->Sto->Prop):Prop where
 pr:G.pr=G0.pr
 ex:∀ (H:Hp) (σ:St) (ρ:Sto) (T:List It3) (g:Nat->Option It3) (e:D),Wf K G H σ ρ T g->W e ρ->∃ ρ0 T0 g0,Wf K G0 H σ ρ0 T0 g0/\W0 e ρ0
theorem Le.refl (K:FG) (G:Gm) (W:D->Sto->Prop):Le K G W G W:=⟨rfl,fun _ _ ρ T g _ w h=>⟨ρ,T,g,w,h⟩⟩
theorem Le.trans {K:FG} {G G1 G2:Gm} {W W1 W2:D->Sto->Prop} (a:Le K G W G1 W1) (b:Le K G1 W1 G2 W2):Le K G W G2 W2:=⟨a.pr.trans b.pr,fun H σ ρ T g e w h=>by
 obtain ⟨ρ1,T1,g1,w1,h1⟩:=a.ex H σ ρ T g e w h
 exact b.ex H σ ρ1 T1 g1 e w1 h1⟩
section
variable {K:FG} {G:Gm} {H H':Hp} {σ:St} {ρ:Sto} {T T':List It3} {g:Nat->Option It3} {x y z:It3}
theorem ItOk.keep {M:Addr->Prop} (h:ItOk K G H x) (k:∀ b o,H b=some o->¬ M b->H' b=some o) (hm:∀ b,M b->MutAt H b) (hL:∀ b ∈ x.L,¬ M b):ItOk K G H' x:=⟨h.rep.keep k hm hL,h.own,h.src⟩
theorem ItOk.same (h:ItOk K G H x) (s:Same H H'):ItOk K G H' x:=⟨h.rep.same s,h.own,h.src⟩
theorem Fx.more (f:Fx G H T g) (s:∀ b o,H b=some o->∃ o',H' b=some o'):Fx G H' T g:=⟨f.frT,f.frS,fun b h=>let ⟨o,e⟩:=f.bin b h;s b o e,fun b o h=>let ⟨o',e⟩:=f.ob b o h;s b o' e,f.lvS⟩
theorem Fx.sub (f:Fx G H T g) (h:∀ x ∈ T',x ∈ T):Fx G H T' g:=⟨fun x hx=>f.frT x (h x hx),f.frS,f.bin,f.ob,f.lvS⟩
theorem Wf.grow (w:Wf K G H σ ρ T g) (s:Same H H'):Wf K G H' σ ρ T g :=
 ⟨w.len,w.sl,w.sv,fun i x e=>(w.okS i x e).same s,fun x hx=>(w.okT x hx).same s,w.ss,w.st,w.tt,fun b o e n=>s b o (w.base b o e n),w.pro,w.fx.more fun b o h=>⟨o,s b o h⟩⟩
theorem Wf.sub (w:Wf K G H σ ρ T g) (h:T'.Sublist T):Wf K G H σ ρ T' g :=
 ⟨w.len,w.sl,w.sv,w.okS,fun x hx=>w.okT x (h.subset hx),w.ss,fun i x e y hy=>w.st i x e y (h.subset hy),w.tt.sublist h,w.base,w.pro,w.fx.sub fun x hx=>h.subset hx⟩
noncomputable def Itm (T:List It3) (g:Nat->Option It3) (y:It3):Prop:=(∃ i,g i=some y)\/y ∈ T
noncomputable def cy (T:List It3) (g:Nat->Option It3) (c:Addr):Prop:=(∀ i z,g i=some z->z.f ≠ .z->z.v ≠ .ref c)/\∀ z ∈ T,z.f ≠ .z->z.v ≠ .ref c
theorem Wf.itm (w:Wf K G H σ ρ T g) (h:Itm T g y):ItOk K G H y:=by
 rcases h with ⟨i,e⟩ | h
 ·exact w.okS i y e
 ·exact w.okT y h
theorem jj {α:Type} {R:α->α->Prop} {l:List α} (p:l.Pairwise R) (hs:∀ a b,R a b->R b a):∀ a ∈ l,∀ b ∈ l,a ≠ b->R a b:=by
 induction p with
 | nil=>intro a ha;cases ha
 | @cons c l hc _ ih =>
  intro a ha b hb n
  rcases vx.mp ha with ea | ha
  ·rcases vx.mp hb with eb | hb
   ·exact absurd (ea.trans eb.symm) n
   ·rw [ea];exact hc b hb
  ·rcases vx.mp hb with eb | hb
   ·rw [eb];exact hs _ _ (hc a ha)
   ·exact ih a ha b hb n
theorem Apart3.symm (h:Apart3 x y):Apart3 y x:=⟨h.2,h.1⟩
theorem Wf.kid (w:Wf K G H σ ρ T g) (h:Itm T g y) {c:Addr} (hc:c ∈ y.L) (hn:y.f ≠ .z->y.v ≠ .ref c):cy T g c:=by
 refine ⟨fun i z e hz ez=>?_,fun z hm hz ez=>?_⟩
 ·rcases h with ⟨j,ej⟩ | hy
  ·by_cases ij:i=j
   ·subst ij
    rw [e] at ej
    cases ej
    exact hn hz ez
   ·exact w.ss i j z y ij e ej hz c ez hc
  ·exact (w.st i z e y hy).1 hz c ez hc
 ·rcases h with ⟨j,ej⟩ | hy
  ·exact (w.st j y ej z hm).2 hz c ez hc
  ·by_cases e:z=y
   ·subst e;exact hn hz ez
   ·exact (jj w.tt (fun _ _=>Apart3.symm) z hm y hy e).1 hz c ez hc
structure New (K:FG) (H H':Hp) (Ks:Addr->Prop) (x:It3):Prop where
 same:Same H H'
 rep:Rep K H' x.d x.v x.L
 sub:∀ c ∈ x.L,H c=none\/Ks c
 own:x.f ≠ .z->fD x.d=true/\∃ a L',x.v=.ref a/\x.L=a :: L'/\a ∉ L'/\H a=none
theorem Wf.h0none (w:Wf K G H σ ρ T g) {a:Addr} (h:H a=none):G.H0 a=none:=by
 cases e:G.H0 a with
 | none=>rfl
 | some o =>
  by_cases b:G.bw a
  ·obtain ⟨o,e⟩:=w.fx.bin a b
   rw [h] at e;cases e
  ·have:=w.base a o e b
   rw [h] at this;cases this
theorem Wf.ornone (w:Wf K G H σ ρ T g) {a:Addr} (h:H a=none):G.orig a=none:=by
 cases e:G.orig a with
 | none=>rfl
 | some o =>
  obtain ⟨o,e⟩:=w.fx.ob a o e
  rw [h] at e;cases e
theorem Wf.push {Ks:Addr->Prop} (w:Wf K G H σ ρ T g) (n:New K H H' Ks x) (hk:∀ c,Ks c->cy T g c/\(G.H0 c=none\/G.src c)):Wf K G H' σ ρ (x :: T) g:=by
 have w':=w.grow n.same
 have a1:∀ y:It3,ItOk K G H y->(∀ c,Ks c->y.f ≠ .z->y.v ≠ .ref c)->Apart3 y x:=fun y oy hy=>by
  refine ⟨fun hf a e hm=>?_,fun hf a e hm=>?_⟩
  ·obtain ⟨_,a',L',e1,e2,_,_⟩:=oy.own hf
   rw [e] at e1
   cases e1
   rcases n.sub a hm with h | h
   ·obtain ⟨o,ho⟩:=(oy.rep.inH a (by rw [e2];exact vo)).ex
    rw [h] at ho;cases ho
   ·exact hy a h hf e
  ·obtain ⟨_,a',L',e1,e2,_,h⟩:=n.own hf
   rw [e] at e1
   cases e1
   obtain ⟨o,ho⟩:=(oy.rep.inH a hm).ex
   rw [h] at ho;cases ho
 refine ⟨w'.len,w'.sl,w'.sv,w'.okS,?_,w'.ss,?_,?_,w'.base,w'.pro,⟨fun y hy hf a ea=>?_,w'.fx.frS,w'.fx.bin,w'.fx.ob,w'.fx.lvS⟩⟩
 ·intro y hy
  rcases vx.mp hy with rfl | hy
  ·refine ⟨n.rep,fun hf=>?_,fun c hc=>?_⟩
   ·obtain ⟨e0,a,L',e1,e2,e3,e4⟩:=n.own hf
    exact ⟨e0,a,L',e1,e2,e3,fun _=>.inl (w.h0none e4)⟩
   ·rcases n.sub c hc with h | h
    ·exact .inl (w.h0none h)
    ·exact (hk c h).2
  ·exact w'.okT y hy
 ·intro i z e y hy
  rcases vx.mp hy with rfl | hy
  ·exact a1 z (w.okS i z e) fun c hc=>(hk c hc).1.1 i z e
  ·exact w'.st i z e y hy
 ·refine List.pairwise_cons.mpr ⟨fun y hy=>(a1 y (w.okT y hy) fun c hc=>(hk c hc).1.2 y hy).symm,w'.tt⟩
 ·rcases vx.mp hy with h | hy
  ·subst h
   obtain ⟨e0,a',L',e1,e2,e3,e4⟩:=n.own hf
   rw [ea] at e1
   cases e1
   exact w.ornone e4
  ·exact w'.fx.frT y hy hf a ea
noncomputable def c9 (ys:List It3) (c:Addr):Prop:=∃ y ∈ ys,c ∈ y.L/\(y.f ≠ .z->y.v ≠ .ref c)
theorem Wf.kids (w:Wf K G H σ ρ T g) {ys:List It3} (hy:∀ y ∈ ys,Itm T g y) {c:Addr} (h:c9 ys c):cy T g c/\(G.H0 c=none\/G.src c):=by
 obtain ⟨y,m,hc,hn⟩:=h
 exact ⟨w.kid (hy y m) hc hn,(w.itm (hy y m)).src c hc⟩
structure Arg (K:FG) (H:Hp) (p:It3):Prop where
 rep:Rep K H p.d p.v p.L
 own:p.f ≠ .z->fD p.d=true/\∃ a L',p.v=.ref a/\p.L=a :: L'/\a ∉ L'
theorem ItOk.arg (h:ItOk K G H x):Arg K H x:=⟨h.rep,fun hf=>by
 obtain ⟨m,a,L',v1,v2,v3,_⟩:=h.own hf
 exact ⟨m,a,L',v1,v2,v3⟩⟩
end
end L3
end
section
namespace L3
open PySem L2
inductive R3 where
 | pl (i:Nat) | val (d:D) (f:Fl)
noncomputable abbrev M3 (α:Type):=Sto->Option (Except D α × Sto)
noncomputable abbrev EM:=M3 R3
noncomputable def ac {α β:Type} (m:M3 α) (k:α->M3 β):M3 β:=fun ρ=>match m ρ with
 | none=>none
 | some (.error e,ρ')=>some (.error e,ρ')
 | some (.ok a,ρ')=>k a ρ'
noncomputable def bb {α:Type} (a:α):M3 α:=fun ρ=>some (.ok a,ρ)
noncomputable def bd {α:Type} (o:Option α):M3 α:=fun ρ=>o.map fun a=>(.ok a,ρ)
noncomputable def der (r:R3):M3 D:=fun ρ=>match r with
 | .pl i=>((ρ[i]?).join).map fun p=>(.ok p.1,ρ)
 | .val d _=>some (.ok d,ρ)
inductive Ar (σ:St):R3->V->List It3->Prop where
 | pl {i:Nat} {v:V}:σ[i]?=some (some v)->Ar σ (.pl i) v []
 | val (x:It3):Ar σ (.val x.d x.f) x.v [x]
noncomputable def Got (K:FG) (G:Gm) (σ:St) (ρ:Sto) (T:List It3) (r:R3) (v:V) (H:Hp):Prop:=∃ Ts g,Wf K G H σ ρ (Ts ++ T) g/\Ar σ r v Ts
noncomputable def tE (K:FG) (G0:Gm) (W0:D->Sto->Prop) (m:EM):TE:=fun σ H Q=>∃ G W,Le K G W G0 W0/\∃ ρ T g r ρ',Wf K G H σ ρ T g/\m ρ=some (r,ρ')/\match r with
 | .ok r=>∀ v H',Got K G σ ρ' T r v H'->Q v H'
 | .error e=>W e ρ'
noncomputable def tT (K:FG) (G0:Gm) (W0:D->Sto->Prop) (m:M3 Bool):TT:=fun σ H Q=>∃ G W,Le K G W G0 W0/\∃ ρ T g r ρ',Wf K G H σ ρ T g/\m ρ=some (r,ρ')/\match r with
 | .ok b=>∀ H' g',Wf K G H' σ ρ' T g'->Q b H'
 | .error e=>W e ρ'
inductive Ars (σ:St):List R3->List V->List It3->Prop where
 | nil:Ars σ [] [] []
 | cons {r v Ts rs vs Us}:Ar σ r v Ts->Ars σ rs vs Us->Ars σ (r :: rs) (v :: vs) (Us ++ Ts)
noncomputable def tA (K:FG) (G0:Gm) (W0:D->Sto->Prop) (m:M3 (List R3)):TA:=fun σ H Q=>∃ G W,Le K G W G0 W0/\∃ ρ T g r ρ',Wf K G H σ ρ T g/\m ρ=some (r,ρ')/\match r with
 | .ok rs=>∀ vs H' Ts g',Wf K G H' σ ρ' (Ts ++ T) g'->Ars σ rs vs Ts->Q vs H'
 | .error e=>W e ρ'
inductive Flw where
 | nx | br | ct | rt (d:D) (f:Fl)
noncomputable abbrev SM:=M3 Flw
noncomputable def tS (K:FG) (G0:Gm) (W0:D->Sto->Prop) (m:SM):TS:=fun E σ H=>∃ G W,Le K G W G0 W0/\∃ ρ T g r ρ',Wf K G H σ ρ T g/\m ρ=some (r,ρ')/\match r with
 | .ok .nx=>∀ σ' H' g',Wf K G H' σ' ρ' T g'->E.nx σ' H'
 | .ok .br=>∀ σ' H' g',Wf K G H' σ' ρ' T g'->E.bk σ' H'
 | .ok .ct=>∀ σ' H' g',Wf K G H' σ' ρ' T g'->E.ct σ' H'
 | .ok (.rt d f)=>∀ x σ' H' g',Wf K G H' σ' ρ' (x :: T) g'->x.d=d->x.f=f->E.rt x.v H'
 | .error e=>W e ρ'
section
variable {K:FG} {G G0:Gm} {W W0:D->Sto->Prop} {H H':Hp} {σ:St} {ρ ρ':Sto} {T T':List It3} {g:Nat->Option It3} {x y z:It3} {α β:Type}
theorem aN {r:R3} {k:D->M3 β} {o:Except D β} (e:ac (der r) k ρ=some (o,ρ')):∃ d,der r ρ=some (.ok d,ρ)/\k d ρ=some (o,ρ'):=by
 cases r with
 | pl i =>
  have er:der (.pl i) ρ=((ρ[i]?).join).map fun p=>(.ok p.1,ρ):=rfl
  unfold ac at e
  rw [er] at e ⊢
  cases h:(ρ[i]?).join with
  | none=>rw [h] at e;exact nsE e
  | some p=>rw [h] at e;exact ⟨p.1,rfl,e⟩
 | val d f=>exact ⟨d,rfl,e⟩
theorem b8 {o:Option α} {r:Except D α} (e:bd o ρ=some (r,ρ')):∃ a,o=some a/\r=.ok a/\ρ' = ρ:=by
 unfold bd at e
 cases o with
 | none=>exact nsE e
 | some a=>cases e;exact ⟨a,rfl,rfl,rfl⟩
theorem Wf.slot (w:Wf K G H σ ρ T g) {i:Nat} {d:D} {f:Fl} (e:(ρ[i]?).join=some (d,f)):∃ y,g i=some y/\y.d=d/\y.f=f/\σ[i]?=some (some y.v):=by
 have h:=w.sl i
 rw [e] at h
 cases q:g i with
 | none=>rw [q] at h;exact nsE h
 | some y =>
  rw [q] at h
  cases h
  exact ⟨y,rfl,rfl,rfl,w.sv i y q⟩
theorem Ar.item {r:R3} {v:V} {Ts:List It3} {d:D} (w:Wf K G H σ ρ T g) (a:Ar σ r v Ts) (hs:∀ x ∈ Ts,x ∈ T) (e:der r ρ=some (.ok d,ρ)):∃ y,Itm T g y/\y.d=d/\y.v=v:=by
 cases a with
 | @pl i v h =>
  have er:der (.pl i) ρ=((ρ[i]?).join).map fun p=>(.ok p.1,ρ):=rfl
  rw [er] at e
  cases q:(ρ[i]?).join with
  | none=>rw [q] at e;exact nsE e
  | some p =>
   rw [q] at e
   obtain ⟨y,e1,e2,e3,e4⟩:=w.slot (d:=p.1) (f:=p.2) q
   have e5:p.1=d:=by cases e;rfl
   rw [h] at e4
   refine ⟨y,.inl ⟨i,e1⟩,e2.trans e5,?_⟩
   cases e4;rfl
 | val x=>cases e;exact ⟨x,.inr (hs x (by simp)),rfl,rfl⟩
theorem Wf.done {Us:List It3} {ys:List It3} (w:Wf K G H σ ρ (Us ++ T) g) (hy:∀ y ∈ ys,Itm (Us ++ T) g y) (n:New K H H' (c9 ys) x):Got K G σ ρ T (.val x.d x.f) x.v H' :=
 ⟨[x],g,(w.push n fun c h=>w.kids hy h).sub (by simpa using List.Sublist.cons_cons x (vF Us T)),.val x⟩
theorem tE.seq {ma:EM} {k:R3->M3 β} {r:Except D β} {P:VK} (le:Le K G W G0 W0) (w:Wf K G H σ ρ T g) (e:ac ma k ρ=some (r,ρ')) (he:∀ x,r=.error x->W x ρ')
  (h:∀ ra ρ1,k ra ρ1=some (r,ρ')->∀ v H1,Got K G σ ρ1 T ra v H1->P v H1):tE K G0 W0 ma σ H P:=by
 unfold ac at e
 cases q:ma ρ with
 | none=>rw [q] at e;exact nsE e
 | some p =>
  obtain ⟨o,ρ1⟩:=p
  rw [q] at e
  cases o with
  | error x=>cases e;exact ⟨G,W,le,ρ,T,g,.error x,ρ',w,q,he x rfl⟩
  | ok ra=>exact ⟨G,W,le,ρ,T,g,.ok ra,ρ1,w,q,h ra ρ1 e⟩
theorem tT.seq {ma:M3 Bool} {k:Bool->M3 β} {r:Except D β} {P:Bool->Hp->Prop} (le:Le K G W G0 W0) (w:Wf K G H σ ρ T g) (e:ac ma k ρ=some (r,ρ')) (he:∀ x,r=.error x->W x ρ')
  (h:∀ b ρ1,k b ρ1=some (r,ρ')->∀ H1 g1,Wf K G H1 σ ρ1 T g1->P b H1):tT K G0 W0 ma σ H P:=by
 unfold ac at e
 cases q:ma ρ with
 | none=>rw [q] at e;exact nsE e
 | some p =>
  obtain ⟨o,ρ1⟩:=p
  rw [q] at e
  cases o with
  | error x=>cases e;exact ⟨G,W,le,ρ,T,g,.error x,ρ',w,q,he x rfl⟩
  | ok ra=>exact ⟨G,W,le,ρ,T,g,.ok ra,ρ1,w,q,h ra ρ1 e⟩
theorem tA.seq {ma:M3 (List R3)} {k:List R3->M3 β} {r:Except D β} {P:List V->Hp->Prop} (le:Le K G W G0 W0) (w:Wf K G H σ ρ T g) (e:ac ma k ρ=some (r,ρ')) (he:∀ x,r=.error x->W x ρ')
  (h:∀ rs ρ1,k rs ρ1=some (r,ρ')->∀ vs H1 Ts g1,Wf K G H1 σ ρ1 (Ts ++ T) g1->Ars σ rs vs Ts->P vs H1):tA K G0 W0 ma σ H P:=by
 unfold ac at e
 cases q:ma ρ with
 | none=>rw [q] at e;exact nsE e
 | some p =>
  obtain ⟨o,ρ1⟩:=p
  rw [q] at e
  cases o with
  | error x=>cases e;exact ⟨G,W,le,ρ,T,g,.error x,ρ',w,q,he x rfl⟩
  | ok ra=>exact ⟨G,W,le,ρ,T,g,.ok ra,ρ1,w,q,h ra ρ1 e⟩
noncomputable def EndE (K:FG) (G:Gm) (W:D->Sto->Prop) (σ:St) (T:List It3) (ρ':Sto) (Q:VK):Except D R3->Prop
 | .ok r=>∀ v H',Got K G σ ρ' T r v H'->Q v H'
 | .error e=>W e ρ'
theorem EndE.err {Q:VK} {r:Except D R3} (h:EndE K G W σ T ρ' Q r):∀ x,r=.error x->W x ρ':=by
 intro x e;subst e;exact h
theorem tE.open {m:EM} {Q:VK} (h:tE K G0 W0 m σ H Q):∃ G W,Le K G W G0 W0/\∃ ρ T g r ρ',Wf K G H σ ρ T g/\m ρ=some (r,ρ')/\EndE K G W σ T ρ' Q r:=by
 obtain ⟨G,W,le,ρ,T,g,r,ρ',w,e,q⟩:=h
 refine ⟨G,W,le,ρ,T,g,r,ρ',w,e,?_⟩
 cases r with
 | ok r=>exact q
 | error x=>exact q
theorem tE.use {m:EM} {Q:VK} (h:tE K G0 W0 m σ H Q) {P:Prop} (k:∀ G W,Le K G W G0 W0->∀ ρ T g r ρ',Wf K G H σ ρ T g->m ρ=some (r,ρ')->EndE K G W σ T ρ' Q r->P):P:=by
 obtain ⟨G,W,le,ρ,T,g,r,ρ',w,e,q⟩:=h.open
 exact k G W le ρ T g r ρ' w e q
theorem tE.mk {m:EM} {Q:VK} {r:Except D R3} (le:Le K G W G0 W0) (w:Wf K G H σ ρ T g) (e:m ρ=some (r,ρ')) (h:EndE K G W σ T ρ' Q r):tE K G0 W0 m σ H Q:=by
 refine ⟨G,W,le,ρ,T,g,r,ρ',w,e,?_⟩
 cases r with
 | ok r=>exact h
 | error x=>exact h
noncomputable def ae (i:Nat):EM:=fun ρ=>((ρ[i]?).join).map fun _=>(.ok (.pl i),ρ)
theorem tH {i:Nat} {Q:VK} (h:tE K G0 W0 (ae i) σ H Q):jP i σ H Q:=by
 refine h.use fun G W le ρ T g r ρ' w e q=>?_
 unfold ae at e
 cases h:(ρ[i]?).join with
 | none=>rw [h] at e;exact nsE e
 | some p =>
  rw [h] at e
  cases e
  obtain ⟨y,_,_,_,e4⟩:=w.slot (d:=p.1) (f:=p.2) h
  exact ⟨y.v,e4,q y.v H ⟨[],g,w,.pl e4⟩⟩
noncomputable def mC (d:D):EM:=bb (.val d .z)
theorem Wf.const {d:D} {v:V} (w:Wf K G H σ ρ T g) (r:Rep K H d v []):Got K G σ ρ T (.val d .z) v H :=
 Wf.done (Us:=[]) (ys:=[]) (x:=⟨d,v,[],.z⟩) w (fun _ h=>(by cases h)) ⟨Same.refl _,r,fun _ h=>(by cases h),fun h=>absurd rfl h⟩
theorem gD {d:D} {v:V} {Q:VK} (r:∀ H,Rep K H d v []) (h:tE K G0 W0 (mC d) σ H Q):tC v σ H Q:=by
 refine h.use fun G W le ρ T g o ρ' w e q=>?_
 cases e
 exact q v H (w.const (r H))
noncomputable def aq (f:D->D->Option (D × Fl)) (ma mb:EM):EM:=ac ma fun ra=>ac mb fun rb=>ac (der ra) fun da=>ac (der rb) fun db=>bd ((f da db).map fun p=>R3.val p.1 p.2)
noncomputable def OpD (K:FG) (r:R2) (f:D->D->Option (D × Fl)):Prop:=∀ (a b:It3) (H:Hp) (Q:VK) (p:D × Fl),Arg K H a->Arg K H b->f a.d b.d=some p ->
 (∀ w H',New K H H' (c9 [a,b]) w->w.d=p.1->w.f=p.2->Q w.v H')->r a.v b.v H Q
theorem my {Us:List It3} {ys:List It3} {Q:VK} {d:D} {f:Fl} (w:Wf K G H σ ρ (Us ++ T) g) (hy:∀ y ∈ ys,Itm (Us ++ T) g y) (q:EndE K G W σ T ρ Q (.ok (.val d f))) :
  ∀ w' H',New K H H' (c9 ys) w'->w'.d=d->w'.f=f->Q w'.v H':=by
 intro w' H' n e1 e2
 subst e1 e2
 exact q w'.v H' (w.done hy n)
theorem jd {r:R2} {f:D->D->Option (D × Fl)} {ma mb:EM} {Q:VK} (ho:OpD K r f) (h:tE K G0 W0 (aq f ma mb) σ H Q):tOp r (tE K G0 W0 ma) (tE K G0 W0 mb) σ H Q:=by
 refine h.use fun G W le ρ T g o ρ' w e q=>?_
 refine tE.seq le w e q.err fun ra ρ1 e1 va H1 ⟨Ts,g1,w1,a1⟩=>?_
 refine tE.seq le w1 e1 q.err fun rb ρ2 e2 vb H2 ⟨Us,g2,w2,a2⟩=>?_
 obtain ⟨da,d1,e3⟩:=aN e2
 obtain ⟨db,d2,e4⟩:=aN e3
 obtain ⟨p,e5,rfl,rfl⟩:=b8 e4
 obtain ⟨ya,i1,f1,f2⟩:=a1.item w2 (fun x hx=>vw _ (vv _ hx)) d1
 obtain ⟨yb,i2,f3,f4⟩:=a2.item w2 (fun x hx=>vv _ hx) d2
 subst f1 f2 f3 f4
 cases ef:f ya.d yb.d with
 | none=>rw [ef] at e5;exact nsE e5
 | some s =>
  rw [ef] at e5
  cases e5
  rw [<- List.append_assoc] at w2 i1 i2
  refine ho ya yb H2 Q s (w2.itm i1).arg (w2.itm i2).arg ef (my w2 (fun y hy=>?_) q)
  rcases vx.mp hy with h | hy
  ·rw [h];exact i1
  ·rw [vX.mp hy];exact i2
noncomputable def mUn (f:D->Option (D × Fl)) (ma:EM):EM:=ac ma fun ra=>ac (der ra) fun da=>bd ((f da).map fun p=>R3.val p.1 p.2)
noncomputable def UnD (K:FG) (r:V->Hp->VK->Prop) (f:D->Option (D × Fl)):Prop:=∀ (a:It3) (H:Hp) (Q:VK) (p:D × Fl),Arg K H a->f a.d=some p ->
 (∀ w H',New K H H' (c9 [a]) w->w.d=p.1->w.f=p.2->Q w.v H')->r a.v H Q
theorem tE_un {r:V->Hp->VK->Prop} {f:D->Option (D × Fl)} {ma:EM} {Q:VK} (ho:UnD K r f) (h:tE K G0 W0 (mUn f ma) σ H Q):tUn r (tE K G0 W0 ma) σ H Q:=by
 refine h.use fun G W le ρ T g o ρ' w e q=>?_
 refine tE.seq le w e q.err fun ra ρ1 e1 va H1 ⟨Ts,g1,w1,a1⟩=>?_
 obtain ⟨da,d1,e3⟩:=aN e1
 obtain ⟨p,e5,rfl,rfl⟩:=b8 e3
 obtain ⟨ya,i1,f1,f2⟩:=a1.item w1 (fun x hx=>vv _ hx) d1
 subst f1 f2
 cases ef:f ya.d with
 | none=>rw [ef] at e5;exact nsE e5
 | some s =>
  rw [ef] at e5
  cases e5
  exact ho ya H1 Q s (w1.itm i1).arg ef (my w1 (fun y hy=>by rw [vX.mp hy];exact i1) q)
noncomputable def aj:M3 (List R3):=bb []
noncomputable def ad (m:EM) (ms:M3 (List R3)):M3 (List R3):=ac m fun r=>ac ms fun rs=>bb (r :: rs)
noncomputable def EndA (K:FG) (G:Gm) (W:D->Sto->Prop) (σ:St) (T:List It3) (ρ':Sto) (Q:List V->Hp->Prop):Except D (List R3)->Prop
 | .ok rs=>∀ vs H' Ts g',Wf K G H' σ ρ' (Ts ++ T) g'->Ars σ rs vs Ts->Q vs H'
 | .error e=>W e ρ'
theorem EndA.err {Q:List V->Hp->Prop} {r:Except D (List R3)} (h:EndA K G W σ T ρ' Q r):∀ x,r=.error x->W x ρ':=by
 intro x e;subst e;exact h
theorem tA.open {m:M3 (List R3)} {Q:List V->Hp->Prop} (h:tA K G0 W0 m σ H Q):∃ G W,Le K G W G0 W0/\∃ ρ T g r ρ',Wf K G H σ ρ T g/\m ρ=some (r,ρ')/\EndA K G W σ T ρ' Q r:=by
 obtain ⟨G,W,le,ρ,T,g,r,ρ',w,e,q⟩:=h
 refine ⟨G,W,le,ρ,T,g,r,ρ',w,e,?_⟩
 cases r with
 | ok r=>exact q
 | error x=>exact q
theorem tA.use {m:M3 (List R3)} {Q:List V->Hp->Prop} (h:tA K G0 W0 m σ H Q) {P:Prop} (k:∀ G W,Le K G W G0 W0->∀ ρ T g r ρ',Wf K G H σ ρ T g->m ρ=some (r,ρ')->EndA K G W σ T ρ' Q r->P):P:=by
 obtain ⟨G,W,le,ρ,T,g,r,ρ',w,e,q⟩:=h.open
 exact k G W le ρ T g r ρ' w e q
theorem ot {Q:List V->Hp->Prop} (h:tA K G0 W0 aj σ H Q):tNil σ H Q:=by
 refine h.use fun G W le ρ T g r ρ' w e q=>?_
 cases e
 exact q [] H [] g w .nil
theorem qL {m:EM} {ms:M3 (List R3)} {Q:List V->Hp->Prop} (h:tA K G0 W0 (ad m ms) σ H Q):sH (tE K G0 W0 m) (tA K G0 W0 ms) σ H Q:=by
 refine h.use fun G W le ρ T g r ρ' w e q=>?_
 refine tE.seq le w e q.err fun ra ρ1 e1 va H1 ⟨Ts,g1,w1,a1⟩=>?_
 refine tA.seq le w1 e1 q.err fun rs ρ2 e2 vs H2 Us g2 w2 a2=>?_
 cases e2
 refine q (va :: vs) H2 (Us ++ Ts) g2 ?_ (.cons a1 a2)
 rw [List.append_assoc]
 exact w2
noncomputable def dC:List R3->M3 (List D)
 | []=>bb []
 | r :: rs=>ac (der r) fun d=>ac (dC rs) fun ds=>bb (d :: ds)
theorem mB:∀ {rs:List R3} {ρ ρ':Sto} {o:Except D (List D)},dC rs ρ=some (o,ρ')->∃ ds,o=.ok ds/\ρ' = ρ
 | [],ρ,ρ',o,e=>by cases e;exact ⟨[],rfl,rfl⟩
 | r :: rs,ρ,ρ',o,e=>by
  obtain ⟨d,e1,e2⟩:=aN (k:=fun d=>ac (dC rs) fun ds=>bb (d :: ds)) e
  unfold ac at e2
  cases q:dC rs ρ with
  | none=>rw [q] at e2;exact nsE e2
  | some p =>
   obtain ⟨o',ρ1⟩:=p
   obtain ⟨ds,rfl,rfl⟩:=mB q
   rw [q] at e2
   cases e2
   exact ⟨d :: ds,rfl,rfl⟩
theorem cA {rs:List R3} {k:List D->M3 β} {o:Except D β} (e:ac (dC rs) k ρ=some (o,ρ')):∃ ds,dC rs ρ=some (.ok ds,ρ)/\k ds ρ=some (o,ρ'):=by
 unfold ac at e
 cases q:dC rs ρ with
 | none=>rw [q] at e;exact nsE e
 | some p =>
  obtain ⟨o',ρ1⟩:=p
  obtain ⟨ds,rfl,rfl⟩:=mB q
  rw [q] at e
  exact ⟨ds,rfl,e⟩
theorem Ars.items:∀ {rs:List R3} {vs:List V} {Ts:List It3} {ds:List D} ,Wf K G H σ ρ T g->Ars σ rs vs Ts->(∀ x ∈ Ts,x ∈ T)->dC rs ρ=some (.ok ds,ρ)->∃ ys:List It3,(∀ y ∈ ys,Itm T g y)/\ys.map (·.d)=ds/\ys.map (·.v)=vs
 | [],_,_,ds,w,.nil,_,e=>by cases e;exact ⟨[],fun _ h=>(by cases h),rfl,rfl⟩
 | r :: rs,_,_,ds,w,.cons a as,hs,e=>by
  obtain ⟨d,e1,e2⟩:=aN (k:=fun d=>ac (dC rs) fun ds=>bb (d :: ds)) e
  obtain ⟨ds',e3,e4⟩:=cA e2
  cases e4
  obtain ⟨y,i1,f1,f2⟩:=a.item w (fun x hx=>hs x (vw _ hx)) e1
  obtain ⟨ys,i2,f3,f4⟩:=Ars.items w as (fun x hx=>hs x (vv _ hx)) e3
  refine ⟨y :: ys,fun z hz=>?_,by simp [f1,f3],by simp [f2,f4]⟩
  rcases vx.mp hz with h | hz
  ·rw [h];exact i1
  ·exact i2 z hz
noncomputable def aF (f:List D->Option (D × Fl)) (ms:M3 (List R3)):EM:=ac ms fun rs=>ac (dC rs) fun ds=>bd ((f ds).map fun p=>R3.val p.1 p.2)
noncomputable def fM (K:FG) (r:List V->Hp->VK->Prop) (f:List D->Option (D × Fl)):Prop:=∀ (ys:List It3) (H:Hp) (Q:VK) (p:D × Fl),(∀ y ∈ ys,Arg K H y)->f (ys.map (·.d))=some p ->
 (∀ w H',New K H H' (c9 ys) w->w.d=p.1->w.f=p.2->Q w.v H')->r (ys.map (·.v)) H Q
theorem gE {r:List V->Hp->VK->Prop} {f:List D->Option (D × Fl)} {ms:M3 (List R3)} {Q:VK} (ho:fM K r f) (h:tE K G0 W0 (aF f ms) σ H Q):tCB r (tA K G0 W0 ms) σ H Q:=by
 refine h.use fun G W le ρ T g o ρ' w e q=>?_
 refine tA.seq le w e q.err fun rs ρ1 e1 vs H1 Ts g1 w1 a1=>?_
 obtain ⟨ds,d1,e2⟩:=cA e1
 obtain ⟨p,e5,rfl,rfl⟩:=b8 e2
 obtain ⟨ys,i1,f1,f2⟩:=a1.items w1 (fun x hx=>vv _ hx) d1
 subst f1 f2
 cases ef:f (ys.map (·.d)) with
 | none=>rw [ef] at e5;exact nsE e5
 | some s =>
  rw [ef] at e5
  cases e5
  exact ho ys H1 Q s (fun y hy=>(w1.itm (i1 y hy)).arg) ef (my w1 i1 q)
noncomputable def asB:D->Option Bool
 | .bl b=>some b
 | _=>none
noncomputable def lw (ma mb:EM):EM:=ac ma fun ra=>ac (der ra) fun d=>ac (bd (asB d)) fun b=>if b then mb else bb (.val (.bl false) .z)
noncomputable def mOr (ma mb:EM):EM:=ac ma fun ra=>ac (der ra) fun d=>ac (bd (asB d)) fun b=>if b then bb (.val (.bl true) .z) else mb
noncomputable def rS (ma:EM):EM:=ac ma fun ra=>ac (der ra) fun d=>ac (bd (asB d)) fun b=>bb (.val (.bl (!b)) .z)
theorem eC {o:Option α} {k:α->M3 β} {r:Except D β} (e:ac (bd o) k ρ=some (r,ρ')):∃ a,o=some a/\k a ρ=some (r,ρ'):=by
 unfold ac bd at e
 cases o with
 | none=>exact nsE e
 | some a=>exact ⟨a,rfl,e⟩
theorem qo {d:D} {b:Bool} (e:asB d=some b):d=.bl b:=by
 cases d <;> first | exact nsE e | cases e
 rfl
theorem Rep.bl_eq {b:Bool} {v:V} {L:List Addr} (r:Rep K H (.bl b) v L):v=.bl b/\L=[]:=by cases r;exact ⟨rfl,rfl⟩
theorem Ar.bool {ra:R3} {v:V} {Ts:List It3} {d:D} {b:Bool} (w:Wf K G H σ ρ (Ts ++ T) g) (a:Ar σ ra v Ts) (e:der ra ρ=some (.ok d,ρ)) (hb:asB d=some b):v=.bl b:=by
 obtain ⟨y,i1,f1,f2⟩:=a.item w (fun x hx=>vv _ hx) e
 have r:=(w.itm i1).rep
 rw [f1,qo hb] at r
 rw [<- f2]
 exact r.bl_eq.1
theorem tM {ma mb:EM} {Q:VK} (h:tE K G0 W0 (lw ma mb) σ H Q):sJ (tE K G0 W0 ma) (tE K G0 W0 mb) σ H Q:=by
 refine h.use fun G W le ρ T g o ρ' w e q=>?_
 refine tE.seq le w e q.err fun ra ρ1 e1 va H1 ⟨Ts,g1,w1,a1⟩=>?_
 obtain ⟨d,d1,e2⟩:=aN e1
 obtain ⟨b,hb,e3⟩:=eC e2
 refine ⟨b,a1.bool w1 d1 hb,?_⟩
 have w2:=w1.sub (vF Ts T)
 cases b with
 | true=>exact tE.mk le w2 e3 q
 | false=>cases e3;exact q _ _ (w2.const (.bl false))
theorem tE_or {ma mb:EM} {Q:VK} (h:tE K G0 W0 (mOr ma mb) σ H Q):tOrV (tE K G0 W0 ma) (tE K G0 W0 mb) σ H Q:=by
 refine h.use fun G W le ρ T g o ρ' w e q=>?_
 refine tE.seq le w e q.err fun ra ρ1 e1 va H1 ⟨Ts,g1,w1,a1⟩=>?_
 obtain ⟨d,d1,e2⟩:=aN e1
 obtain ⟨b,hb,e3⟩:=eC e2
 refine ⟨b,a1.bool w1 d1 hb,?_⟩
 have w2:=w1.sub (vF Ts T)
 cases b with
 | false=>exact tE.mk le w2 e3 q
 | true=>cases e3;exact q _ _ (w2.const (.bl true))
theorem tK {ma:EM} {Q:VK} (h:tE K G0 W0 (rS ma) σ H Q):sD (tE K G0 W0 ma) σ H Q:=by
 refine h.use fun G W le ρ T g o ρ' w e q=>?_
 refine tE.seq le w e q.err fun ra ρ1 e1 va H1 ⟨Ts,g1,w1,a1⟩=>?_
 obtain ⟨d,d1,e2⟩:=aN e1
 obtain ⟨b,hb,e3⟩:=eC e2
 refine ⟨b,a1.bool w1 d1 hb,?_⟩
 have w2:=w1.sub (vF Ts T)
 cases e3;exact q _ _ (w2.const (.bl (!b)))
noncomputable def EndT (K:FG) (G:Gm) (W:D->Sto->Prop) (σ:St) (T:List It3) (ρ':Sto) (Q:Bool->Hp->Prop):Except D Bool->Prop
 | .ok b=>∀ H' g',Wf K G H' σ ρ' T g'->Q b H'
 | .error e=>W e ρ'
theorem EndT.err {Q:Bool->Hp->Prop} {r:Except D Bool} (h:EndT K G W σ T ρ' Q r):∀ x,r=.error x->W x ρ':=by
 intro x e;subst e;exact h
theorem tT.open {m:M3 Bool} {Q:Bool->Hp->Prop} (h:tT K G0 W0 m σ H Q):∃ G W,Le K G W G0 W0/\∃ ρ T g r ρ',Wf K G H σ ρ T g/\m ρ=some (r,ρ')/\EndT K G W σ T ρ' Q r:=by
 obtain ⟨G,W,le,ρ,T,g,r,ρ',w,e,q⟩:=h
 refine ⟨G,W,le,ρ,T,g,r,ρ',w,e,?_⟩
 cases r with
 | ok r=>exact q
 | error x=>exact q
theorem tT.use {m:M3 Bool} {Q:Bool->Hp->Prop} (h:tT K G0 W0 m σ H Q) {P:Prop} (k:∀ G W,Le K G W G0 W0->∀ ρ T g r ρ',Wf K G H σ ρ T g->m ρ=some (r,ρ')->EndT K G W σ T ρ' Q r->P):P:=by
 obtain ⟨G,W,le,ρ,T,g,r,ρ',w,e,q⟩:=h.open
 exact k G W le ρ T g r ρ' w e q
theorem tT.mk {m:M3 Bool} {Q:Bool->Hp->Prop} {r:Except D Bool} (le:Le K G W G0 W0) (w:Wf K G H σ ρ T g) (e:m ρ=some (r,ρ')) (h:EndT K G W σ T ρ' Q r):tT K G0 W0 m σ H Q:=by
 refine ⟨G,W,le,ρ,T,g,r,ρ',w,e,?_⟩
 cases r with
 | ok r=>exact h
 | error x=>exact h
noncomputable def cB (m:EM):M3 Bool:=ac m fun r=>ac (der r) fun d=>bd (asB d)
theorem s9 {m:EM} {Q:Bool->Hp->Prop} (h:tT K G0 W0 (cB m) σ H Q):tB (tE K G0 W0 m) σ H Q:=by
 refine h.use fun G W le ρ T g o ρ' w e q=>?_
 refine tE.seq le w e q.err fun ra ρ1 e1 va H1 ⟨Ts,g1,w1,a1⟩=>?_
 obtain ⟨d,d1,e2⟩:=aN e1
 obtain ⟨b,hb,rfl,rfl⟩:=b8 e2
 exact ⟨b,a1.bool w1 d1 hb,q _ _ (w1.sub (vF Ts T))⟩
noncomputable def cOr (a b:M3 Bool):M3 Bool:=ac a fun c=>if c then bb true else b
noncomputable def fU (a:M3 Bool):M3 Bool:=ac a fun c=>bb (!c)
theorem tT_or {a b:M3 Bool} {Q:Bool->Hp->Prop} (h:tT K G0 W0 (cOr a b) σ H Q):tOr (tT K G0 W0 a) (tT K G0 W0 b) σ H Q:=by
 refine h.use fun G W le ρ T g o ρ' w e q=>?_
 refine tT.seq le w e q.err fun c ρ1 e1 H1 g1 w1=>?_
 cases c with
 | false=>exact tT.mk le w1 e1 q
 | true=>cases e1;exact q _ _ w1
theorem s0 {a:M3 Bool} {Q:Bool->Hp->Prop} (h:tT K G0 W0 (fU a) σ H Q):tNot (tT K G0 W0 a) σ H Q:=by
 refine h.use fun G W le ρ T g o ρ' w e q=>?_
 refine tT.seq le w e q.err fun c ρ1 e1 H1 g1 w1=>?_
 cases e1;exact q _ _ w1
end
end L3
end
section
namespace L3
open PySem L2
noncomputable def cn (x:It3):It3:={ x with f:=.z }
theorem bT {x y:It3}:NoRoot (cn x) y:=fun h=>absurd rfl h
noncomputable def lowAt (i:Nat) (ρ:Sto):Sto:=match (ρ[i]?).join with
 | some (d,.u)=>ρ.set i (some (d,.z))
 | some (d,.l)=>ρ.set i (some (d,.z))
 | _=>ρ
noncomputable def frz (is:List Nat) (ρ:Sto):Sto:=is.foldl (fun ρ i=>lowAt i ρ) ρ
noncomputable def frz3 (is:List Nat):M3 Unit:=fun ρ=>some (.ok (),frz is ρ)
noncomputable def pls:List R3->List Nat
 | []=>[]
 | .pl i :: rs=>i :: pls rs
 | .val _ _ :: rs=>pls rs
section
variable {K:FG} {G G0:Gm} {W W0:D->Sto->Prop} {H H':Hp} {σ:St} {ρ ρ':Sto} {T T':List It3} {g:Nat->Option It3} {x y z:It3} {α β:Type}
theorem ItOk.low (h:ItOk K G H x):ItOk K G H (cn x):=⟨h.rep,fun q=>absurd rfl q,h.src⟩
theorem bv {ρ:Sto} {i j:Nat} {o:Option (D × Fl)} (hi:i < ρ.length):((ρ.set i o)[j]?).join=if j=i then o else (ρ[j]?).join:=by
 by_cases e:j=i
 ·subst e
  rw [if_pos rfl,List.getElem?_set_self hi]
  rfl
 ·rw [if_neg e,List.getElem?_set_ne (fun h=>e h.symm)]
theorem cx {ρ:Sto} {i:Nat} {p:D × Fl} (h:(ρ[i]?).join=some p):i < ρ.length:=by
 cases q:ρ[i]? with
 | none=>rw [q] at h;exact nsE h
 | some o=>exact (vD.mp q).1
theorem Wf.lowSlot (w:Wf K G H σ ρ T g) {i:Nat} {d:D} {f:Fl} (e:(ρ[i]?).join=some (d,f)):Wf K G H σ (ρ.set i (some (d,.z))) T (fun j=>if j=i then (g i).map cn else g j):=by
 have hi:=cx e
 obtain ⟨y,gy,ed,ef,ev⟩:=w.slot e
 have val:∀ j x,(if j=i then (g i).map cn else g j)=some x->∃ x0,g j=some x0/\(x=x0\/x=cn x0)/\(j=i->x=cn x0):=fun j x h=>by
  by_cases q:j=i
  ·subst q
   rw [if_pos rfl,gy] at h
   cases h
   exact ⟨y,gy,.inr rfl,fun _=>rfl⟩
  ·rw [if_neg q] at h
   exact ⟨x,h,.inl rfl,fun z=>absurd z q⟩
 have nr:∀ {a b:It3},NoRoot a b->∀ a' b',(a'=a\/a'=cn a)->(b'=b\/b'=cn b)->NoRoot a' b':=fun h a' b' h1 h2=>by
  rcases h1 with rfl | rfl
  ·rcases h2 with rfl | rfl
   ·exact h
   ·exact h
  ·exact bT
 refine ⟨by rw [List.length_set];exact w.len,fun j=>?_,fun j x h=>?_,fun j x h=>?_,w.okT,fun j k a b n h1 h2=>?_,fun j a h b hb=>?_,w.tt,w.base,w.pro,⟨w.fx.frT,fun j x h hp hf a ea=>?_,w.fx.bin,w.fx.ob,fun j x h hl=>?_⟩⟩
 ·rw [bv hi]
  by_cases q:j=i
  ·subst q
   rw [if_pos rfl,if_pos rfl,gy]
   show some ((cn y).d,Fl.z)=_
   rw [<- ed];rfl
  ·rw [if_neg q,if_neg q];exact w.sl j
 ·obtain ⟨x0,h0,hx,_⟩:=val j x h
  have:=w.sv j x0 h0
  rcases hx with rfl | rfl <;> exact this
 ·obtain ⟨x0,h0,hx,_⟩:=val j x h
  rcases hx with rfl | rfl
  ·exact w.okS j x h0
  ·exact (w.okS j x0 h0).low
 ·obtain ⟨a0,h0,ha,_⟩:=val j a h1
  obtain ⟨b0,h0',hb,_⟩:=val k b h2
  exact nr (w.ss j k a0 b0 n h0 h0') a b ha hb
 ·obtain ⟨a0,h0,ha,_⟩:=val j a h
  exact ⟨nr (w.st j a0 h0 b hb).1 a b ha (.inl rfl),nr (w.st j a0 h0 b hb).2 b a (.inl rfl) ha⟩
 ·obtain ⟨x0,h0,hx,_⟩:=val j x h
  rcases hx with rfl | rfl
  ·exact w.fx.frS j x h0 hp hf a ea
  ·exact absurd rfl hf
 ·obtain ⟨x0,h0,hx,_⟩:=val j x h
  rcases hx with rfl | rfl
  ·exact w.fx.lvS j x h0 hl
  ·cases hl
noncomputable def Kin (x y:It3):Prop:=y.d=x.d/\y.v=x.v/\y.L=x.L/\(y.f=x.f\/y.f=.z)
theorem Kin.refl (x:It3):Kin x x:=⟨rfl,rfl,rfl,.inl rfl⟩
theorem Kin.trans (a:Kin x y) (b:Kin y z):Kin x z:=⟨b.1.trans a.1,b.2.1.trans a.2.1,b.2.2.1.trans a.2.2.1,by
 rcases b.2.2.2 with h | h
 ·rcases a.2.2.2 with h' | h'
  ·exact .inl (h.trans h')
  ·exact .inr (h.trans h')
 ·exact .inr h⟩
theorem Wf.lowAt {i:Nat} (w:Wf K G H σ ρ T g):∃ g',Wf K G H σ (lowAt i ρ) T g'/\(∀ j y,g j=some y->∃ y',g' j=some y'/\Kin y y'/\(j=i->y'.f=.z)):=by
 have keep:∀ d,(ρ[i]?).join=some (d,.z)->∃ g',Wf K G H σ ρ T g'/\(∀ j y,g j=some y->∃ y',g' j=some y'/\Kin y y'/\(j=i->y'.f=.z)):=fun d e=>⟨g,w,fun j y h=>⟨y,h,Kin.refl y,fun q=>by
  subst q
  obtain ⟨y',h',_,hf,_⟩:=w.slot e
  rw [h] at h';cases h';exact hf⟩⟩
 have low:∀ d f,(ρ[i]?).join=some (d,f)->∃ g',Wf K G H σ (ρ.set i (some (d,.z))) T g'/\(∀ j y,g j=some y->∃ y',g' j=some y'/\Kin y y'/\(j=i->y'.f=.z)):=fun d f e=>⟨_,w.lowSlot e,fun j y h=>by
  by_cases q:j=i
  ·subst q;exact ⟨cn y,by rw [if_pos rfl,h];rfl,⟨rfl,rfl,rfl,.inr rfl⟩,fun _=>rfl⟩
  ·exact ⟨y,by rw [if_neg q];exact h,Kin.refl y,fun z=>absurd z q⟩⟩
 unfold L3.lowAt
 cases e:(ρ[i]?).join with
 | none =>
  refine ⟨g,w,fun j y h=>⟨y,h,Kin.refl y,fun q=>?_⟩⟩
  subst q
  have:=w.sl j
  rw [h,e] at this;cases this
 | some p =>
  obtain ⟨d,f⟩:=p
  cases f with
  | u=>exact low d _ e
  | l=>exact low d _ e
  | z=>exact keep d e
theorem Wf.frz:∀ {is:List Nat} {ρ:Sto} {g:Nat->Option It3},Wf K G H σ ρ T g->∃ g',Wf K G H σ (frz is ρ) T g'/\(∀ j y,g j=some y->∃ y',g' j=some y'/\Kin y y'/\(j ∈ is->y'.f=.z))
 | [],ρ,g,w=>⟨g,w,fun j y h=>⟨y,h,Kin.refl y,fun q=>by cases q⟩⟩
 | i :: is,ρ,g,w=>by
  obtain ⟨g1,w1,h1⟩:=w.lowAt (i:=i)
  obtain ⟨g2,w2,h2⟩:=Wf.frz (is:=is) w1
  refine ⟨g2,w2,fun j y h=>?_⟩
  obtain ⟨y1,e1,k1,z1⟩:=h1 j y h
  obtain ⟨y2,e2,k2,z2⟩:=h2 j y1 e1
  refine ⟨y2,e2,k1.trans k2,fun hm=>?_⟩
  rcases vx.mp hm with q | q
  ·rcases k2.2.2.2 with h | h
   ·exact h.trans (z1 q)
   ·exact h
  ·exact z2 q
theorem Wf.lowT {Ts:List It3} (w:Wf K G H σ ρ (Ts ++ T) g):Wf K G H σ ρ (Ts.map cn ++ T) g:=by
 have sp:∀ {a b:It3},Apart3 a b->Apart3 (cn a) (cn b):=fun h=>⟨bT,bT⟩
 refine ⟨w.len,w.sl,w.sv,w.okS,fun x hx=>?_,w.ss,fun i x e y hy=>?_,?_,w.base,w.pro,⟨fun x hx hf a ea=>?_,w.fx.frS,w.fx.bin,w.fx.ob,w.fx.lvS⟩⟩
 ·rcases vA.mp hx with h | h
  ·obtain ⟨x0,h0,rfl⟩:=vG.mp h
   exact (w.okT x0 (vv _ h0)).low
  ·exact w.okT x (vw _ h)
 ·rcases vA.mp hy with h | h
  ·obtain ⟨y0,h0,rfl⟩:=vG.mp h
   exact ⟨(w.st i x e y0 (vv _ h0)).1,bT⟩
  ·exact w.st i x e y (vw _ h)
 ·have h:=List.pairwise_append.mp w.tt
  refine List.pairwise_append.mpr ⟨?_,h.2.1,fun a ha b hb=>?_⟩
  ·rw [List.pairwise_map]
   exact h.1.imp fun h=>sp h
  ·obtain ⟨a0,h0,rfl⟩:=vG.mp ha
   exact ⟨bT,(h.2.2 a0 h0 b hb).2⟩
 ·rcases vA.mp hx with h | h
  ·obtain ⟨x0,h0,rfl⟩:=vG.mp h
   exact absurd rfl hf
  ·exact w.fx.frT x (vw _ h) hf a ea
theorem gv:∀ {rs:List R3} {i:Nat},R3.pl i ∈ rs->i ∈ pls rs
 | [],_,h=>by cases h
 | .pl j :: rs,i,h=>by
  rcases vx.mp h with e | h
  ·cases e;exact vo
  ·exact vp _ (gv h)
 | .val _ _ :: rs,i,h=>by
  rcases vx.mp h with e | h
  ·cases e
  ·exact gv (rs:=rs) h
theorem Ars.given:∀ {rs:List R3} {vs:List V} {Ts:List It3} {ds:List D} {S:List It3} {g':Nat->Option It3} {is:List Nat},Wf K G H σ ρ T g->(∀ j y,g j=some y->∃ y',g' j=some y'/\Kin y y'/\(j ∈ is->y'.f=.z))->(∀ i,R3.pl i ∈ rs->i ∈ is) ->
  Ars σ rs vs Ts->(∀ x ∈ Ts,x ∈ T)->(∀ x ∈ Ts,cn x ∈ S)->dC rs ρ=some (.ok ds,ρ)->∃ ys:List It3,(∀ y ∈ ys,Itm S g' y/\y.f=.z)/\ys.map (·.d)=ds/\ys.map (·.v)=vs
 | [],_,_,ds,S,g',is,w,hg,hi,.nil,_,_,e=>by cases e;exact ⟨[],fun _ h=>(by cases h),rfl,rfl⟩
 | r :: rs,_,_,ds,S,g',is,w,hg,hi,.cons (v:=v0) a as,hs,hS,e=>by
  obtain ⟨d,e1,e2⟩:=aN (k:=fun d=>ac (dC rs) fun ds=>bb (d :: ds)) e
  obtain ⟨ds',e3,e4⟩:=cA e2
  cases e4
  obtain ⟨ys,i2,f3,f4⟩:=Ars.given w hg (fun i h=>hi i (vp _ h)) as (fun x hx=>hs x (vv _ hx)) (fun x hx=>hS x (vv _ hx)) e3
  have one:∃ y,(Itm S g' y/\y.f=.z)/\y.d=d/\y.v=v0:=by
   cases a with
   | @pl i v h =>
    have er:der (.pl i) ρ=((ρ[i]?).join).map fun p=>(.ok p.1,ρ):=rfl
    rw [er] at e1
    cases q:(ρ[i]?).join with
    | none=>rw [q] at e1;exact nsE e1
    | some p =>
     rw [q] at e1
     obtain ⟨y,y1,y2,y3,y4⟩:=w.slot (d:=p.1) (f:=p.2) q
     obtain ⟨y',h1,h2,h3⟩:=hg i y y1
     have e5:p.1=d:=by cases e1;rfl
     rw [h] at y4
     refine ⟨y',⟨.inl ⟨i,h1⟩,h3 (hi i vo)⟩,h2.1.trans (y2.trans e5),?_⟩
     rw [h2.2.1];cases y4;rfl
   | val x=>cases e1;exact ⟨cn x,⟨.inr (hS x (by simp)),rfl⟩,rfl,rfl⟩
  obtain ⟨y,i1,f1,f2⟩:=one
  refine ⟨y :: ys,fun z hz=>?_,by simp [f1,f3],by simp [f2,f4]⟩
  rcases vx.mp hz with h | hz
  ·rw [h];exact i1
  ·exact i2 z hz
noncomputable def cv (ys:List It3) (c:Addr):Prop:=∃ y ∈ ys,c ∈ y.L
noncomputable def gives (rs:List R3):M3 (List D):=ac (dC rs) fun ds=>ac (frz3 (pls rs)) fun _=>bb ds
theorem Ars.gives {rs:List R3} {vs:List V} {Ts:List It3} {k:List D->M3 β} {r:Except D β} (w:Wf K G H σ ρ (Ts ++ T) g) (a:Ars σ rs vs Ts) (e:ac (gives rs) k ρ=some (r,ρ')) :
  ∃ ds ρ1 g1,k ds ρ1=some (r,ρ')/\ρ1=frz (pls rs) ρ/\Wf K G H σ ρ1 (Ts.map cn ++ T) g1/\(∀ j y,g j=some y->∃ y',g1 j=some y'/\Kin y y')/\∃ ys:List It3,(∀ y ∈ ys,Itm (Ts.map cn ++ T) g1 y/\y.f=.z)/\ys.map (·.d)=ds/\ys.map (·.v)=vs:=by
 unfold L3.gives at e
 have e0:ac (dC rs) (fun ds=>ac (frz3 (pls rs)) fun _=>k ds) ρ=some (r,ρ'):=by
  rw [<- e]
  unfold ac
  cases q:dC rs ρ with
  | none=>rfl
  | some p =>
   obtain ⟨o,ρ2⟩:=p
   cases o with
   | error x=>rfl
   | ok ds=>rfl
 obtain ⟨ds,d1,e1⟩:=cA e0
 obtain ⟨g1,w1,h1⟩:=Wf.frz (is:=pls rs) w
 refine ⟨ds,L3.frz (pls rs) ρ,g1,e1,rfl,w1.lowT,fun j y h=>let ⟨y',a,b,_⟩:=h1 j y h;⟨y',a,b⟩,?_⟩
 exact Ars.given w h1 (fun i h=>gv h) a (fun x hx=>vv _ hx) (fun x hx=>vv _ (vG.mpr ⟨x,hx,rfl⟩)) d1
theorem Wf.alls (w:Wf K G H σ ρ T g) {ys:List It3} (hy:∀ y ∈ ys,Itm T g y/\y.f=.z) {c:Addr} (h:cv ys c):cy T g c/\(G.H0 c=none\/G.src c):=by
 obtain ⟨y,m,hc⟩:=h
 exact ⟨w.kid (hy y m).1 hc fun hf=>absurd (hy y m).2 hf,(w.itm (hy y m).1).src c hc⟩
theorem Wf.doneA {Us:List It3} {ys:List It3} (w:Wf K G H σ ρ (Us ++ T) g) (hy:∀ y ∈ ys,Itm (Us ++ T) g y/\y.f=.z) (n:New K H H' (cv ys) x):Got K G σ ρ T (.val x.d x.f) x.v H' :=
 ⟨[x],g,(w.push n fun c h=>w.alls hy h).sub (by simpa using List.Sublist.cons_cons x (vF Us T)),.val x⟩
theorem gr:∀ {ys:List It3},(∀ y ∈ ys,Rep K H y.d y.v y.L)->Reps (Rep K H) (ys.map (·.d)) (ys.map (·.v)) (ys.map (·.L)).flatten
 | [],_=>.nil
 | y :: ys,h=>.cons (h y vo) (gr fun z hz=>h z (vp _ hz))
theorem de {ys:List It3} {c:Addr} (h:c ∈ (ys.map (·.L)).flatten):cv ys c:=by
 obtain ⟨l,hl,hc⟩:=List.mem_flatten.mp h
 obtain ⟨y,hy,rfl⟩:=vG.mp hl
 exact ⟨y,hy,hc⟩
noncomputable def rR (mk:List D->D) (f:Fl) (ms:M3 (List R3)):EM:=ac ms fun rs=>ac (gives rs) fun ds=>bd (if ds.length<=16777216 then some (.val (mk ds) f) else none)
noncomputable abbrev eG:M3 (List R3)->EM:=rR .tup .z
noncomputable abbrev eX:M3 (List R3)->EM:=rR .lst .u
theorem bm {H:Hp} {p:Addr} {o:HO} (h:H p=none):Same H (upd H p o):=fun b u e=>by
 rw [av (aM e h)];exact e
set_option tactic.hygienic true in
theorem tJ (hz:(16777216:Nat)=sizeLine) {ms:M3 (List R3)} {Q:VK} (h:tE K G0 W0 (eG ms) σ H Q):tTup (tA K G0 W0 ms) σ H Q:=by
 refine h.use fun G W le ρ T g o ρ' w e q=>?_
 refine tA.seq le w e q.err fun rs ρ1 e1 vs H1 Ts g1 w1 a1=>?_
 obtain ⟨ds,ρ2,g2,e2,_,w2,_,ys,hy,f1,f2⟩:=a1.gives w1 e1
 obtain ⟨v,e3,rfl,rfl⟩:=b8 e2
 subst f1 f2
 split at e3
 ·rename_i hl
  cases e3
  refine ⟨by rw [vC] at hl ⊢;omega,fun p hp=>?_⟩
  refine q _ _ (Wf.doneA (x:=⟨.tup (ys.map (·.d)),.ref p,(ys.map (·.L)).flatten,.z⟩) w2 hy ⟨bm hp,.tup aL ((gr fun y hy'=>(w2.itm (hy y hy').1).rep).same (bm hp)),fun c hc=>.inr (de hc),fun hf=>absurd rfl hf⟩)
 ·exact nsE e3
set_option tactic.hygienic true in
theorem tL (hz:(16777216:Nat)=sizeLine) {ms:M3 (List R3)} {Q:VK} (h:tE K G0 W0 (eX ms) σ H Q):tLst (tA K G0 W0 ms) σ H Q:=by
 refine h.use fun G W le ρ T g o ρ' w e q=>?_
 refine tA.seq le w e q.err fun rs ρ1 e1 vs H1 Ts g1 w1 a1=>?_
 obtain ⟨ds,ρ2,g2,e2,_,w2,_,ys,hy,f1,f2⟩:=a1.gives w1 e1
 obtain ⟨v,e3,rfl,rfl⟩:=b8 e2
 subst f1 f2
 split at e3
 ·rename_i hl
  cases e3
  refine ⟨by rw [vC] at hl ⊢;omega,fun p hp=>?_⟩
  have np:p ∉ (ys.map (·.L)).flatten:=fun hc=>by
   obtain ⟨y,hm,hc⟩:=de hc
   obtain ⟨o,ho⟩:=((w2.itm (hy y hm).1).rep.inH p hc).ex
   rw [hp] at ho;exact nsE ho
  refine q _ _ (Wf.doneA (x:=⟨.lst (ys.map (·.d)),.ref p,p :: (ys.map (·.L)).flatten,.u⟩) w2 hy ⟨bm hp,.lst aL ((gr fun y hy'=>(w2.itm (hy y hy').1).rep).same (bm hp)),fun c hc=>?_,fun _=>⟨rfl,p,_,rfl,rfl,np,hp⟩⟩)
  rcases vx.mp hc with e | hc
  ·rw [e];exact .inl hp
  ·exact .inr (de hc)
 ·exact nsE e3
end
end L3
end
section
namespace L3
open PySem L2
section
variable {K:FG} {G G0:Gm} {W W0:D->Sto->Prop} {H H':Hp} {σ:St} {ρ ρ':Sto} {T T':List It3} {g:Nat->Option It3} {x y z:It3} {α β:Type}
noncomputable def EndS (K:FG) (G:Gm) (W:D->Sto->Prop) (T:List It3) (ρ':Sto) (E:Ends):Except D Flw->Prop
 | .ok .nx=>∀ σ' H' g',Wf K G H' σ' ρ' T g'->E.nx σ' H'
 | .ok .br=>∀ σ' H' g',Wf K G H' σ' ρ' T g'->E.bk σ' H'
 | .ok .ct=>∀ σ' H' g',Wf K G H' σ' ρ' T g'->E.ct σ' H'
 | .ok (.rt d f)=>∀ x σ' H' g',Wf K G H' σ' ρ' (x :: T) g'->x.d=d->x.f=f->E.rt x.v H'
 | .error e=>W e ρ'
theorem EndS.err {E:Ends} {r:Except D Flw} (h:EndS K G W T ρ' E r):∀ x,r=.error x->W x ρ':=by
 intro x e;subst e;exact h
theorem tS.open {m:SM} {E:Ends} (h:tS K G0 W0 m E σ H):∃ G W,Le K G W G0 W0/\∃ ρ T g r ρ',Wf K G H σ ρ T g/\m ρ=some (r,ρ')/\EndS K G W T ρ' E r:=by
 obtain ⟨G,W,le,ρ,T,g,r,ρ',w,e,q⟩:=h
 refine ⟨G,W,le,ρ,T,g,r,ρ',w,e,?_⟩
 cases r with
 | ok r=>cases r <;> exact q
 | error x=>exact q
theorem tS.use {m:SM} {E:Ends} (h:tS K G0 W0 m E σ H) {P:Prop} (k:∀ G W,Le K G W G0 W0->∀ ρ T g r ρ',Wf K G H σ ρ T g->m ρ=some (r,ρ')->EndS K G W T ρ' E r->P):P:=by
 obtain ⟨G,W,le,ρ,T,g,r,ρ',w,e,q⟩:=h.open
 exact k G W le ρ T g r ρ' w e q
theorem tS.mk {m:SM} {E:Ends} {r:Except D Flw} (le:Le K G W G0 W0) (w:Wf K G H σ ρ T g) (e:m ρ=some (r,ρ')) (h:EndS K G W T ρ' E r):tS K G0 W0 m E σ H:=by
 refine ⟨G,W,le,ρ,T,g,r,ρ',w,e,?_⟩
 cases r with
 | ok r=>cases r <;> exact h
 | error x=>exact h
noncomputable def fq:SM:=bb .nx
noncomputable def aH (a b:SM):SM:=ac a fun f=>match f with
 | .nx=>b
 | o=>bb o
theorem tw {E:Ends} (h:tS K G0 W0 fq E σ H):sE E σ H:=by
 refine h.use fun G W le ρ T g r ρ' w e q=>?_
 cases e
 exact q _ _ _ w
theorem tu {a b:SM} {E:Ends} (h:tS K G0 W0 (aH a b) E σ H):tSeq (tS K G0 W0 a) (tS K G0 W0 b) E σ H:=by
 refine h.use fun G W le ρ T g r ρ' w e q=>?_
 unfold aH ac at e
 cases p:a ρ with
 | none=>rw [p] at e;exact nsE e
 | some p' =>
  obtain ⟨o,ρ1⟩:=p'
  rw [p] at e
  cases o with
  | error x=>cases e;exact tS.mk le w p q
  | ok f =>
   cases f with
   | nx=>exact tS.mk le (r:=.ok .nx) w p fun σ' H' g' w'=>tS.mk le w' e q
   | br=>cases e;exact tS.mk le w p q
   | ct=>cases e;exact tS.mk le w p q
   | rt d f=>cases e;exact tS.mk le w p q
noncomputable def eK (m:EM):SM:=ac m fun _=>bb .nx
theorem qD {m:EM} {E:Ends} (h:tS K G0 W0 (eK m) E σ H):sF (tE K G0 W0 m) E σ H:=by
 refine h.use fun G W le ρ T g r ρ' w e q=>?_
 refine tE.seq le w e q.err fun ra ρ1 e1 v H1 ⟨Ts,g1,w1,a1⟩=>?_
 cases e1
 exact q _ _ _ (w1.sub (vF Ts T))
noncomputable def sIf (c:M3 Bool) (a b:SM):SM:=ac c fun t=>if t then a else b
theorem tS_if {c:M3 Bool} {a b:SM} {E:Ends} (h:tS K G0 W0 (sIf c a b) E σ H):tIfS (tT K G0 W0 c) (tS K G0 W0 a) (tS K G0 W0 b) E σ H:=by
 refine h.use fun G W le ρ T g r ρ' w e q=>?_
 refine tT.seq le w e q.err fun t ρ1 e1 H1 g1 w1=>?_
 cases t with
 | true=>exact tS.mk le w1 e1 q
 | false=>exact tS.mk le w1 e1 q
noncomputable def nol:Fl->Fl
 | .u=>.u
 | _=>.z
theorem uE (f:Fl):nol f ≠ .l:=by cases f <;> intro h <;> cases h
theorem uD (f:Fl):nol f=f\/nol f=.z:=by cases f <;> first | exact .inl rfl | exact .inr rfl
noncomputable def dN (r:R3):M3 (D × Fl):=match r with
 | .val d f=>bb (d,nol f)
 | .pl i=>fun ρ=>((ρ[i]?).join).map fun p=>(.ok (p.1,.z),lowAt i ρ)
theorem jO {i:Nat}:dN (.pl i) ρ=((ρ[i]?).join).map fun p=>(.ok (p.1,.z),lowAt i ρ):=rfl
theorem Ar.val_inv {d:D} {f:Fl} {v:V} {Ts:List It3} (a:Ar σ (.val d f) v Ts):∃ x,Ts=[x]/\x.d=d/\x.f=f/\x.v=v:=by
 generalize h:R3.val d f=r at a
 cases a with
 | pl _=>cases h
 | val x=>cases h;exact ⟨x,rfl,rfl,rfl,rfl⟩
theorem Ar.take {r:R3} {v:V} {Ts:List It3} {k:D × Fl->M3 β} {o:Except D β} (w:Wf K G H σ ρ (Ts ++ T) g) (a:Ar σ r v Ts) (e:ac (dN r) k ρ=some (o,ρ')) :
  ∃ p ρ1 g1 x,k p ρ1=some (o,ρ')/\Wf K G H σ ρ1 (x :: T) g1/\x.d=p.1/\(p.2=x.f\/p.2=.z)/\p.2 ≠ .l/\x.v=v:=by
 cases a with
 | val x=>exact ⟨(x.d,nol x.f),ρ,g,x,e,w,rfl,uD _,uE _,rfl⟩
 | @pl i v h =>
  unfold ac at e
  rw [jO] at e
  cases q:(ρ[i]?).join with
  | none=>rw [q] at e;exact nsE e
  | some p =>
   rw [q] at e
   obtain ⟨y,y1,y2,y3,y4⟩:=w.slot (d:=p.1) (f:=p.2) q
   obtain ⟨g1,w1,h1⟩:=w.lowAt (i:=i)
   obtain ⟨y',z1,z2,z3⟩:=h1 i y y1
   have hz:=z3 rfl
   refine ⟨(p.1,.z),_,g1,y',e,?_,z2.1.trans y2,.inr rfl,(by intro h;cases h),?_⟩
   ·have nr:∀ u:It3,NoRoot y' u:=fun u hf=>absurd hz hf
    refine ⟨w1.len,w1.sl,w1.sv,w1.okS,fun u hu=>?_,w1.ss,fun j u eu u' hu=>?_,?_,w1.base,w1.pro,⟨fun u hu hf a ea=>?_,w1.fx.frS,w1.fx.bin,w1.fx.ob,w1.fx.lvS⟩⟩
    ·rcases vx.mp hu with h | hu
     ·rw [h];exact w1.okS i y' z1
     ·exact w1.okT u hu
    ·rcases vx.mp hu with h | hu
     ·rw [h]
      refine ⟨?_,nr _⟩
      by_cases ij:j=i
      ·subst ij
       rw [z1] at eu;cases eu
       exact nr _
      ·exact w1.ss j i u y' ij eu z1
     ·exact w1.st j u eu u' hu
    ·exact List.pairwise_cons.mpr ⟨fun u hu=>⟨nr _,(w1.st i y' z1 u hu).2⟩,w1.tt⟩
    ·rcases vx.mp hu with h | hu
     ·rw [h] at hf;exact absurd hz hf
     ·exact w1.fx.frT u hu hf a ea
   ·rw [z2.2.1]
    rw [h] at y4;cases y4;rfl
theorem Wf.store {i:Nat} {f:Fl} (w:Wf K G H σ ρ (x :: T) g) (hi:i < ρ.length) (hp:G.pr i=false) (hf:f=x.f\/f=.z) (hnl:f ≠ .l) :
  Wf K G H (σ.set i (some x.v)) (ρ.set i (some (x.d,f))) T (fun j=>if j=i then some { x with f:=f } else g j):=by
 have hil:i < σ.length:=by rw [w.len];exact hi
 have tx:=List.pairwise_cons.mp w.tt
 have ox:=w.okT x vo
 have nx:∀ u:It3,NoRoot x u->NoRoot { x with f:=f } u:=fun u h q=>by
  rcases hf with e | e
  ·exact h (by rw [<- e];exact q)
  ·exact absurd e q
 have val:∀ j u,(if j=i then some { x with f:=f } else g j)=some u->(j=i/\u = { x with f:=f })\/(j ≠ i/\g j=some u):=fun j u h=>by
  by_cases q:j=i
  ·rw [if_pos q] at h;cases h;exact .inl ⟨q,rfl⟩
  ·rw [if_neg q] at h;exact .inr ⟨q,h⟩
 refine ⟨by rw [List.length_set,List.length_set];exact w.len,fun j=>?_,fun j u h=>?_,fun j u h=>?_,fun u hu=>w.okT u (vp _ hu),fun j k a b n h1 h2=>?_,fun j a h b hb=>?_,tx.2,w.base,fun j hj=>?_,⟨fun u hu=>w.fx.frT u (vp _ hu),fun j u h hpj hfu a ea=>?_,w.fx.bin,w.fx.ob,fun j u h hl=>?_⟩⟩
 ·rw [bv hi]
  by_cases q:j=i
  ·rw [if_pos q,if_pos q];rfl
  ·rw [if_neg q,if_neg q];exact w.sl j
 ·rcases val j u h with ⟨rfl,rfl⟩ | ⟨n,h⟩
  ·rw [List.getElem?_set_self hil]
  ·rw [List.getElem?_set_ne (fun z=>n z.symm)];exact w.sv j u h
 ·rcases val j u h with ⟨rfl,rfl⟩ | ⟨n,h⟩
  ·refine ⟨ox.rep,fun q=>?_,ox.src⟩
   rcases hf with e | e
   ·subst e
    exact ox.own q
   ·exact absurd e q
  ·exact w.okS j u h
 ·rcases val j a h1 with ⟨ej,ea⟩ | ⟨n1,h1'⟩
  ·rcases val k b h2 with ⟨ek,eb⟩ | ⟨n2,h2'⟩
   ·exact absurd (ej.trans ek.symm) n
   ·rw [ea];exact nx b (w.st k b h2' x vo).2
  ·rcases val k b h2 with ⟨ek,eb⟩ | ⟨n2,h2'⟩
   ·rw [eb];exact (w.st j a h1' x vo).1
   ·exact w.ss j k a b n h1' h2'
 ·rcases val j a h with ⟨rfl,rfl⟩ | ⟨n,h⟩
  ·exact ⟨nx b (tx.1 b hb).1,(tx.1 b hb).2⟩
  ·exact w.st j a h b (vp _ hb)
 ·have n:j ≠ i:=fun z=>by subst z;rw [hp] at hj;cases hj
  rw [List.getElem?_set_ne (fun z=>n z.symm)];exact w.pro j hj
 ·rcases val j u h with ⟨_,rfl⟩ | ⟨n,h⟩
  ·rcases hf with e | e
   ·exact w.fx.frT x vo (by rw [<- e];exact hfu) a ea
   ·exact absurd e hfu
  ·exact w.fx.frS j u h hpj hfu a ea
 ·rcases val j u h with ⟨_,rfl⟩ | ⟨n,h⟩
  ·exact absurd hl hnl
  ·exact w.fx.lvS j u h hl
noncomputable def bD (i:Nat) (m:EM):SM:=ac m fun r=>ac (dN r) fun p=>fun ρ=>if i < ρ.length then some (.ok .nx,ρ.set i (some p)) else none
set_option tactic.hygienic true in
theorem tq {i:Nat} {m:EM} {E:Ends} (hp:G0.pr i=false) (h:tS K G0 W0 (bD i m) E σ H):oq (tE K G0 W0 m) (mr i) E σ H:=by
 refine h.use fun G W le ρ T g r ρ' w e q=>?_
 refine tE.seq le w e q.err fun ra ρ1 e1 v H1 ⟨Ts,g1,w1,a1⟩=>?_
 obtain ⟨p,ρ2,g2,x,e2,w2,f1,f2,f4,f3⟩:=a1.take w1 e1
 split at e2
 ·rename_i hi
  cases e2
  have:=w2.store (f:=p.2) hi (by rw [le.pr];exact hp) f2 f4
  rw [f1,f3] at this
  exact q _ _ _ this
 ·exact nsE e2
noncomputable def bK (np:Nat) (m:EM):SM:=ac m fun r=>match r with
 | .val d f=>bb (.rt d f)
 | .pl i=>fun ρ=>match (ρ[i]?).join with
  | some (d,.u)=>if i < np then some (.ok (.rt d .z),lowAt i ρ) else some (.ok (.rt d .u),ρ.set i none)
  | some (d,_)=>some (.ok (.rt d .z),lowAt i ρ)
  | none=>none
theorem Wf.move {i:Nat} (w:Wf K G H σ ρ T g) (hp:G.pr i=false) (e:g i=some y):Wf K G H σ (ρ.set i none) (y :: T) (fun j=>if j=i then none else g j):=by
 have hi:i < ρ.length:=by
  have:=w.sl i
  rw [e] at this
  exact cx this.symm
 have val:∀ j u,(if j=i then none else g j)=some u->j ≠ i/\g j=some u:=fun j u h=>by
  by_cases q:j=i
  ·rw [if_pos q] at h;exact nsE h
  ·rw [if_neg q] at h;exact ⟨q,h⟩
 refine ⟨by rw [List.length_set];exact w.len,fun j=>?_,fun j u h=>w.sv j u (val j u h).2,fun j u h=>w.okS j u (val j u h).2,fun u hu=>?_,fun j k a b n h1 h2=>w.ss j k a b n (val j a h1).2 (val k b h2).2,fun j a h b hb=>?_,?_,w.base,w.pro,⟨fun u hu hf a ea=>?_,fun j u h=>w.fx.frS j u (val j u h).2,w.fx.bin,w.fx.ob,fun j u h=>w.fx.lvS j u (val j u h).2⟩⟩
 ·rw [bv hi]
  by_cases q:j=i
  ·rw [if_pos q,if_pos q];rfl
  ·rw [if_neg q,if_neg q];exact w.sl j
 ·rcases vx.mp hu with h | hu
  ·rw [h];exact w.okS i y e
  ·exact w.okT u hu
 ·obtain ⟨n,h⟩:=val j a h
  rcases vx.mp hb with h' | hb
  ·rw [h'];exact ⟨w.ss j i a y n h e,w.ss i j y a (Ne.symm n) e h⟩
  ·exact w.st j a h b hb
 ·exact List.pairwise_cons.mpr ⟨fun u hu=>w.st i y e u hu,w.tt⟩
 ·rcases vx.mp hu with h | hu
  ·subst h;exact w.fx.frS i u e hp hf a ea
  ·exact w.fx.frT u hu hf a ea
theorem tv {np:Nat} {m:EM} {E:Ends} (hnp:∀ i,np<=i->G0.pr i=false) (h:tS K G0 W0 (bK np m) E σ H):tRet (tE K G0 W0 m) E σ H:=by
 refine h.use fun G W le ρ T g r ρ' w e q=>?_
 refine tE.seq le w e q.err fun ra ρ1 e1 v H1 ⟨Ts,g1,w1,a1⟩=>?_
 have low:∀ {i:Nat} {d:D} {f:Fl},(ρ1[i]?).join=some (d,f)->some ((.ok (.rt d .z),lowAt i ρ1):Except D Flw × Sto)=some (r,ρ')->Ar σ (.pl i) v Ts->E.rt v H1:=fun {i d f} ej e2 a=>by
  cases e2
  have e3:ac (dN (.pl i)) (fun p=>bb (Flw.rt p.1 p.2)) ρ1=some (.ok (.rt d .z),L3.lowAt i ρ1):=by
   unfold ac
   rw [jO,ej]
   rfl
  obtain ⟨p,ρ2,g2,x,e4,w2,f1,f2,_,f3⟩:=a.take w1 e3
  have e5:Flw.rt p.1 p.2=Flw.rt d .z/\ρ2=L3.lowAt i ρ1:=by
   unfold bb at e4
   injection e4 with e4
   injection e4 with e5 e6
   injection e5 with e5
   exact ⟨e5,e6⟩
  obtain ⟨e5,e6⟩:=e5
  injection e5 with e7 e8
  subst e6
  rw [<- f3]
  have w3:=Wf.lowT (Ts:=[x]) w2
  exact q (cn x) σ H1 g2 w3 (f1.trans e7) rfl
 cases a1 with
 | val x=>cases e1;exact q x σ H1 g1 w1 rfl rfl
 | @pl i v h =>
  dsimp only at e1
  cases ej:(ρ1[i]?).join with
  | none=>rw [ej] at e1;exact nsE e1
  | some p =>
   obtain ⟨d,f⟩:=p
   rw [ej] at e1
   cases f with
   | u =>
    dsimp only at e1
    split at e1
    ·exact low ej e1 (.pl h)
    ·cases e1
     obtain ⟨y,y1,y2,y3,y4⟩:=w1.slot ej
     have w2:=Wf.move w1 (by rw [le.pr];exact hnp i (by omega)) y1
     have:=q y σ H1 _ w2 y2 y3
     rw [h] at y4
     cases y4
     exact this
   | l=>exact low ej e1 (.pl h)
   | z=>exact low ej e1 (.pl h)
end
end L3
end
section
namespace L3
open PySem L2
noncomputable abbrev Fn:=List (D × Fl)->Option (Except D (D × Fl) × List (D × Fl))
noncomputable def prs (ρ:Sto):List R3->Option (List (D × Fl))
 | []=>some []
 | .pl i :: rs=>match (ρ[i]?).join,prs ρ rs with
  | some p,some ps=>some (p :: ps)
  | _,_=>none
 | .val d f :: rs=>match prs ρ rs with
  | some ps=>some ((d,f) :: ps)
  | _=>none
noncomputable def kI (rs:List R3):List Nat:=(pls rs).filter fun i=>decide (2<=(pls rs).count i)
noncomputable def back:List R3->List (D × Fl)->List (D × Fl)->Sto->Sto
 | .pl i :: rs,p :: ps,q :: qs,ρ=>back rs ps qs (if p.2=.z then ρ else ρ.set i (some (q.1,if q.2=.z then .z else p.2)))
 | .val _ _ :: rs,_ :: ps,_ :: qs,ρ=>back rs ps qs ρ
 | _,_,_,ρ=>ρ
section
variable {K:FG} {G G0:Gm} {W W0:D->Sto->Prop} {H H':Hp} {σ:St} {ρ ρ':Sto} {T T':List It3} {g:Nat->Option It3} {x y z:It3} {α β:Type}
structure Back1 (K:FG) (H H':Hp) (ps:List It3) (p q:It3):Prop where
 z:p.f=.z->q=p
 v:q.v=p.v
 f:q.f=p.f\/q.f=.z
 arg:Arg K H' q
 src:∀ c ∈ q.L,H c=none\/cv ps c
 there:p.f=.u->∀ b,p.v=.ref b->∃ o,H' b=some o
structure BehindX (K:FG) (H H':Hp) (ps qs:List It3):Prop where
 frame:∀ b o,H b=some o->(∀ p ∈ ps,p.f=.u->p.v ≠ .ref b)->H' b=some o
 back:Paired (Back1 K H H' ps) ps qs
 apart:qs.Pairwise Apart3
structure Behind (K:FG) (H H':Hp) (ps qs:List It3) (x:It3):Prop extends BehindX K H H' ps qs where
 rep:Rep K H' x.d x.v x.L
 own:x.f ≠ .z->fD x.d=true/\∃ a L',x.v=.ref a/\x.L=a :: L'/\a ∉ L'/\H a=none
 src:∀ c ∈ x.L,H c=none\/cv ps c
 apx:∀ q ∈ qs,Apart3 x q
theorem Ars.args:∀ {rs:List R3} {vs:List V} {Ts T:List It3} {pfs:List (D × Fl)},Ars σ rs vs Ts->Wf K G H σ ρ (Ts ++ T) g->(∀ i,2<=(pls rs).count i->∀ y,g i=some y->y.f=.z)->prs ρ rs=some pfs ->
  ∃ ps:List It3,ps.map (fun p=>(p.d,p.f))=pfs/\ps.map (·.v)=vs/\ps.Pairwise Apart3/\(∀ p ∈ ps,(∃ i,R3.pl i ∈ rs/\g i=some p)\/p ∈ Ts)/\Paired (fun r p=>match r with | .pl i=>g i=some p | .val _ _=>p ∈ Ts) rs ps
 | [],_,_,T,pfs,.nil,w,_,e=>by cases e;exact ⟨[],rfl,rfl,.nil,fun _ h=>(by cases h),.nil⟩
 | r :: rs,_,_,T,pfs,.cons (v:=v0) (Ts:=T0) (Us:=U0) a as,w,hd,e=>by
  have wt:Wf K G H σ ρ (U0 ++ (T0 ++ T)) g:=by rw [<- List.append_assoc];exact w
  have hd':∀ i,2<=(pls rs).count i->∀ y,g i=some y->y.f=.z:=fun i hc=>hd i (by
   cases r with
   | pl j=>show 2<=(j :: pls rs).count i;rw [List.count_cons];omega
   | val _ _=>exact hc)
  cases a with
  | @pl i v h =>
   unfold prs at e
   cases q:(ρ[i]?).join with
   | none=>rw [q] at e;exact nsE e
   | some p0 =>
    cases q2:prs ρ rs with
    | none=>rw [q,q2] at e;exact nsE e
    | some pfs' =>
     rw [q,q2] at e
     cases e
     obtain ⟨ps,f1,f2,f3,f4,f5⟩:=Ars.args as wt hd' q2
     obtain ⟨y,y1,y2,y3,y4⟩:=w.slot (d:=p0.1) (f:=p0.2) q
     have hv:y.v=v0:=by rw [h] at y4;cases y4;rfl
     refine ⟨y :: ps,by rw [vM,f1,y2,y3],by rw [vM,f2,hv],List.pairwise_cons.mpr ⟨fun p hp=>?_,f3⟩,fun p hp=>?_,.cons y1 ?_⟩
     ·rcases f4 p hp with ⟨j,hj,ej⟩ | hp
      ·by_cases ij:i=j
       ·subst ij
        have hc:2<=(pls (R3.pl i :: rs)).count i:=by
         show 2<=(i :: pls rs).count i
         rw [List.count_cons_self]
         have:=List.count_pos_iff.mpr (gv hj)
         omega
        have hz:=hd i hc y y1
        have hz':=hd i hc p ej
        exact ⟨fun q=>absurd hz q,fun q=>absurd hz' q⟩
       ·exact ⟨w.ss i j y p ij y1 ej,w.ss j i p y (Ne.symm ij) ej y1⟩
      ·exact w.st i y y1 p (vv _ (vv _ hp))
     ·rcases vx.mp hp with h' | hp
      ·rw [h'];exact .inl ⟨i,vo,y1⟩
      ·rcases f4 p hp with ⟨j,hj,ej⟩ | hp
       ·exact .inl ⟨j,vp _ hj,ej⟩
       ·exact .inr (vv _ hp)
     ·exact Paired.mapP f5 fun r p h=>by
       cases r with
       | pl j=>exact h
       | val _ _=>exact vv _ h
  | val x =>
   unfold prs at e
   cases q2:prs ρ rs with
   | none=>rw [q2] at e;exact nsE e
   | some pfs' =>
    rw [q2] at e
    cases e
    obtain ⟨ps,f1,f2,f3,f4,f5⟩:=Ars.args as wt hd' q2
    refine ⟨x :: ps,by rw [vM,f1],by rw [vM,f2],List.pairwise_cons.mpr ⟨fun p hp=>?_,f3⟩,fun p hp=>?_,.cons (vw _ vo) ?_⟩
    ·rcases f4 p hp with ⟨j,hj,ej⟩ | hp
     ·exact (w.st j p ej x (vv _ (vw _ vo))).symm
     ·have t1:=(List.pairwise_append.mp w.tt).1
      exact ((List.pairwise_append.mp t1).2.2 p hp x vo).symm
    ·rcases vx.mp hp with h' | hp
     ·rw [h'];exact .inr (vw _ vo)
     ·rcases f4 p hp with ⟨j,hj,ej⟩ | hp
      ·exact .inl ⟨j,vp _ hj,ej⟩
      ·exact .inr (vv _ hp)
    ·exact Paired.mapP f5 fun r p h=>by
      cases r with
      | pl j=>exact h
      | val _ _=>exact vv _ h
theorem dD:∀ {rs:List R3} {ps qs:List It3} {ρ:Sto} {g:Nat->Option It3},(∀ j,(g j).map (fun x=>(x.d,x.f))=(ρ[j]?).join)->rs.length=ps.length->Paired (Back1 K H H' T) ps qs->(∀ i,R3.pl i ∈ rs->i < ρ.length) ->
  ∃ g':Nat->Option It3,(∀ j,(g' j).map (fun x=>(x.d,x.f))=((back rs (ps.map fun p=>(p.d,p.f)) (qs.map fun q=>(q.d,q.f)) ρ)[j]?).join)/\(back rs (ps.map fun p=>(p.d,p.f)) (qs.map fun q=>(q.d,q.f)) ρ).length = ρ.length /\
   ∀ j:Nat,(g' j=g j/\∀ (k:Nat) (p:It3),rs[k]?=some (R3.pl j)->ps[k]?=some p->p.f=.z)\/∃ (k:Nat) (p q:It3),rs[k]?=some (R3.pl j)/\ps[k]?=some p/\qs[k]?=some q/\p.f ≠ .z/\g' j=some q
 | [],[],_,ρ,g,hg,_,.nil,_=>⟨g,hg,rfl,fun j=>.inl ⟨rfl,fun k p h=>by simp at h⟩⟩
 | [],_ :: _,_,_,_,_,h,_,_=>by cases h
 | _ :: _,[],_,_,_,_,h,_,_=>by cases h
 | .val d f :: rs,p :: ps,_,ρ,g,hg,hl,.cons (b:=q) (l₂:=qs) b1 bs,hi=>by
  obtain ⟨g',h1,h2,h3⟩:=dD (rs:=rs) hg (by simpa using hl) bs fun i h=>hi i (vp _ h)
  refine ⟨g',h1,h2,fun j=>?_⟩
  rcases h3 j with ⟨e,h⟩ | ⟨k,p',q',a1,a2,a3,a4⟩
  ·refine .inl ⟨e,fun k p' e1 e2=>?_⟩
   cases k with
   | zero=>simp at e1
   | succ k=>exact h k p' (by simpa using e1) (by simpa using e2)
  ·exact .inr ⟨k+1,p',q',by simpa using a1,by simpa using a2,by simpa using a3,a4⟩
 | .pl i :: rs,p :: ps,_,ρ,g,hg,hl,.cons (b:=q) (l₂:=qs) b1 bs,hi=>by
  have hil:=hi i vo
  by_cases hz:p.f=.z
  ·have eb:back (.pl i :: rs) ((p :: ps).map fun p=>(p.d,p.f)) ((q :: qs).map fun q=>(q.d,q.f)) ρ=back rs (ps.map fun p=>(p.d,p.f)) (qs.map fun q=>(q.d,q.f)) ρ:=by
    show back rs _ _ (if p.f=.z then ρ else _)=_
    rw [if_pos hz]
   rw [eb]
   obtain ⟨g',h1,h2,h3⟩:=dD (rs:=rs) hg (by simpa using hl) bs fun i h=>hi i (vp _ h)
   refine ⟨g',h1,h2,fun j=>?_⟩
   rcases h3 j with ⟨e,h⟩ | ⟨k,p',q',a1,a2,a3,a4⟩
   ·refine .inl ⟨e,fun k p' e1 e2=>?_⟩
    cases k with
    | zero=>simp at e2;rw [<- e2];exact hz
    | succ k=>exact h k p' (by simpa using e1) (by simpa using e2)
   ·exact .inr ⟨k+1,p',q',by simpa using a1,by simpa using a2,by simpa using a3,a4⟩
  ·have eb:back (.pl i :: rs) ((p :: ps).map fun p=>(p.d,p.f)) ((q :: qs).map fun q=>(q.d,q.f)) ρ=back rs (ps.map fun p=>(p.d,p.f)) (qs.map fun q=>(q.d,q.f)) (ρ.set i (some (q.d,q.f))):=by
    show back rs _ _ (if p.f=.z then ρ else ρ.set i (some (q.d,if q.f=.z then .z else p.f)))=_
    rw [if_neg hz]
    have:(if q.f=.z then Fl.z else p.f)=q.f:=by
     by_cases h:q.f=.z
     ·rw [if_pos h,h]
     ·rw [if_neg h]
      rcases b1.f with h' | h'
      ·exact h'.symm
      ·exact absurd h' h
    rw [this]
   rw [eb]
   obtain ⟨g',h1,h2,h3⟩:=dD (rs:=rs) (ρ:=ρ.set i (some (q.d,q.f))) (g:=fun j=>if j=i then some q else g j) (fun j=>by
    rw [bv hil]
    by_cases e:j=i
    ·rw [if_pos e,if_pos e];rfl
    ·rw [if_neg e,if_neg e];exact hg j) (by simpa using hl) bs fun i h=>by rw [List.length_set];exact hi i (vp _ h)
   refine ⟨g',h1,by rw [h2,List.length_set],fun j=>?_⟩
   rcases h3 j with ⟨e,h⟩ | ⟨k,p',q',a1,a2,a3,a4⟩
   ·by_cases ej:j=i
    ·rw [if_pos ej] at e
     exact .inr ⟨0,p,q,by simp [ej],rfl,rfl,hz,e⟩
    ·rw [if_neg ej] at e
     refine .inl ⟨e,fun k p' e1 e2=>?_⟩
     cases k with
     | zero=>simp at e1;exact absurd e1.symm ej
     | succ k=>exact h k p' (by simpa using e1) (by simpa using e2)
   ·exact .inr ⟨k+1,p',q',by simpa using a1,by simpa using a2,by simpa using a3,a4⟩
theorem ji:∀ {rs:List R3} {pfs:List (D × Fl)},prs ρ rs=some pfs->rs.length=pfs.length
 | [],pfs,e=>by cases e;rfl
 | .pl i :: rs,pfs,e=>by
  unfold prs at e
  cases q:(ρ[i]?).join with
  | none=>rw [q] at e;exact nsE e
  | some p =>
   cases q2:prs ρ rs with
   | none=>rw [q,q2] at e;exact nsE e
   | some ps=>rw [q,q2] at e;cases e;rw [vT,vT,ji q2]
 | .val d f :: rs,pfs,e=>by
  unfold prs at e
  cases q2:prs ρ rs with
  | none=>rw [q2] at e;exact nsE e
  | some ps=>rw [q2] at e;cases e;rw [vT,vT,ji q2]
theorem la:∀ {rs:List R3} {pfs:List (D × Fl)},prs ρ rs=some pfs->∀ i,R3.pl i ∈ rs->i < ρ.length
 | [],pfs,e,i,h=>by cases h
 | .pl i :: rs,pfs,e,j,h=>by
  unfold prs at e
  cases q:(ρ[i]?).join with
  | none=>rw [q] at e;exact nsE e
  | some p =>
   cases q2:prs ρ rs with
   | none=>rw [q,q2] at e;exact nsE e
   | some ps =>
    rcases vx.mp h with h | h
    ·cases h;exact cx q
    ·exact la q2 j h
 | .val d f :: rs,pfs,e,j,h=>by
  unfold prs at e
  cases q2:prs ρ rs with
  | none=>rw [q2] at e;exact nsE e
  | some ps =>
   rcases vx.mp h with h | h
   ·cases h
   ·exact la q2 j h
theorem Paired.at {α β:Type} {F:α->β->Prop}:∀ {l:List α} {m:List β} {k:Nat} {a:α} {b:β},Paired F l m->l[k]?=some a->m[k]?=some b->F a b
 | _,_,_,_,_,.nil,h,_=>by simp at h
 | _,_,0,_,_,.cons r _,h,h'=>by simp at h h';subst h h';exact r
 | _,_,k+1,_,_,.cons _ t,h,h'=>Paired.at (k:=k) t (by simpa using h) (by simpa using h')
theorem Paired.exL {α β:Type} {F:α->β->Prop}:∀ {l:List α} {m:List β} {k:Nat} {a:α},Paired F l m->l[k]?=some a->∃ b,m[k]?=some b/\F a b
 | _,_,_,_,.nil,h=>by simp at h
 | _,_,0,_,.cons r _,h=>by simp at h;subst h;exact ⟨_,rfl,r⟩
 | _,_,k+1,_,.cons _ t,h=>let ⟨b,h1,h2⟩:=Paired.exL (k:=k) t (by simpa using h);⟨b,by simpa using h1,h2⟩
theorem Paired.exR {α β:Type} {F:α->β->Prop}:∀ {l:List α} {m:List β} {k:Nat} {b:β},Paired F l m->m[k]?=some b->∃ a,l[k]?=some a/\F a b
 | _,_,_,_,.nil,h=>by simp at h
 | _,_,0,_,.cons r _,h=>by simp at h;subst h;exact ⟨_,rfl,r⟩
 | _,_,k+1,_,.cons _ t,h=>let ⟨b,h1,h2⟩:=Paired.exR (k:=k) t (by simpa using h);⟨b,by simpa using h1,h2⟩
theorem cg {α:Type} {R:α->α->Prop} {l:List α} (p:l.Pairwise R) (hs:∀ a b,R a b->R b a) {i j:Nat} {a b:α} (n:i ≠ j) (ha:l[i]?=some a) (hb:l[j]?=some b):R a b:=by
 obtain ⟨h1,e1⟩:=vD.mp ha
 obtain ⟨h2,e2⟩:=vD.mp hb
 have q:=List.pairwise_iff_getElem.mp p
 rcases Nat.lt_or_ge i j with h | h
 ·rw [<- e1,<- e2];exact q i j h1 h2 h
 ·rw [<- e1,<- e2];exact hs _ _ (q j i h2 h1 (by omega))
theorem Wf.after {rs:List R3} {Ts ps qs:List It3} {pfs:List (D × Fl)} (w:Wf K G H σ ρ (Ts ++ T) g) (e:prs ρ rs=some pfs) (f1:ps.map (fun p=>(p.d,p.f))=pfs)
  (f4:∀ p ∈ ps,(∃ i,R3.pl i ∈ rs/\g i=some p)\/p ∈ Ts) (f5:Paired (fun r p=>match r with | .pl i=>g i=some p | .val _ _=>p ∈ Ts) rs ps) (B:BehindX K H H' ps qs) :
  ∃ g',Wf K G H' σ (L3.back rs pfs (qs.map fun q=>(q.d,q.f)) ρ) T g' /\
   ∀ x,Rep K H' x.d x.v x.L->(x.f ≠ .z->fD x.d=true/\∃ a L',x.v=.ref a/\x.L=a :: L'/\a ∉ L'/\H a=none)->(∀ c ∈ x.L,H c=none\/cv ps c)->(∀ q ∈ qs,Apart3 x q)->Wf K G H' σ (L3.back rs pfs (qs.map fun q=>(q.d,q.f)) ρ) (x :: T) g':=by
 subst f1
 have hl:rs.length=ps.length:=by have:=ji e;rwa [vC] at this
 obtain ⟨g',h1,h2,h3⟩:=dD (K:=K) (H:=H) (H':=H') (T:=ps) (rs:=rs) (ps:=ps) (qs:=qs) w.sl hl B.back (la e)
 have hps:∀ p ∈ ps,Itm (Ts ++ T) g p:=fun p hp=>by
  rcases f4 p hp with ⟨i,_,ei⟩ | h
  ·exact .inl ⟨i,ei⟩
  ·exact .inr (vv _ h)
 have dom:∀ b o,H b=some o->∃ o',H' b=some o':=fun b o hb=>by
  by_cases h:∀ p ∈ ps,p.f=.u->p.v ≠ .ref b
  ·exact ⟨o,B.frame b o hb h⟩
  ·have h':∃ p,p ∈ ps/\p.f=.u/\p.v=.ref b:=by
    refine Classical.byContradiction fun n=>h fun p hp hf hv=>n ⟨p,hp,hf,hv⟩
   obtain ⟨p,hp,hf,hv⟩:=h'
   obtain ⟨k,hk,ek⟩:=List.mem_iff_getElem.mp hp
   obtain ⟨q,e1,b1⟩:=Paired.exL B.back (show ps[k]?=some p by rw [vy hk,ek])
   exact b1.there hf b hv
 have ka:∀ j z,g j=some z->(∀ (k:Nat) (p:It3),rs[k]?=some (R3.pl j)->ps[k]?=some p->p.f=.z)->∀ p ∈ ps,Apart3 p z:=fun j z ej hu p hp=>by
  rcases f4 p hp with ⟨i,hi,ei⟩ | h
  ·by_cases ij:i=j
   ·subst ij
    have epz:p=z:=wg (ei.symm.trans ej)
    subst epz
    have hz:p.f=.z:=by
     obtain ⟨k,hk,ek⟩:=List.mem_iff_getElem.mp hi
     have ek':rs[k]?=some (R3.pl i):=by rw [vy hk,ek]
     obtain ⟨p',e1,e2⟩:=Paired.exL f5 ek'
     have e2:g i=some p':=e2
     rw [ei] at e2
     cases e2
     exact hu k p ek' e1
    exact ⟨fun q=>absurd hz q,fun q=>absurd hz q⟩
   ·exact ⟨w.ss i j p z ij ei ej,w.ss j i z p (Ne.symm ij) ej ei⟩
  ·exact (w.st j z ej p (vv _ h)).symm
 have kt:∀ z ∈ T,∀ p ∈ ps,Apart3 p z:=fun z hz p hp=>by
  rcases f4 p hp with ⟨i,hi,ei⟩ | h
  ·exact w.st i p ei z (vw _ hz)
  ·exact (List.pairwise_append.mp w.tt).2.2 p h z hz
 have keep:∀ z,ItOk K G H z->(∀ p ∈ ps,Apart3 p z)->ItOk K G H' z:=fun z oz az=>by
  refine oz.keep (M:=fun b=>∃ p ∈ ps,p.f=.u/\p.v=.ref b) (fun b o hb n=>B.frame b o hb fun p hp hf hv=>n ⟨p,hp,hf,hv⟩) (fun b ⟨p,hp,hf,hv⟩=>?_) (fun b hb ⟨p,hp,hf,hv⟩=>?_)
  ·obtain ⟨_,a,L',e1,e2,_⟩:=(w.itm (hps p hp)).own (by rw [hf];intro q;cases q)
   rw [hv] at e1
   cases e1
   exact (w.itm (hps p hp)).rep.inH b (by rw [e2];exact vo)
  ·exact (az p hp).1 (by rw [hf];intro q;cases q) b hv hb
 have okq:∀ k p q,ps[k]?=some p->qs[k]?=some q->ItOk K G H' q:=fun k p q e1 e2=>by
  have b:=Paired.at B.back e1 e2
  refine ⟨b.arg.rep,fun hf=>?_,fun c hc=>?_⟩
  ·obtain ⟨m,a,L',v1,v2,v3⟩:=b.arg.own hf
   refine ⟨m,a,L',v1,v2,v3,fun hu=>?_⟩
   have pf:p.f=.u:=by
    rcases b.f with h | h
    ·rw [<- h];exact hu
    ·rw [h] at hu;cases hu
   obtain ⟨_,a',L'',e3,_,_,e5⟩:=(w.itm (hps p (vE e1))).own (by rw [pf];intro q;cases q)
   rw [<- b.v,v1] at e3
   cases e3
   exact e5 pf
  ·rcases b.src c hc with h | ⟨p',hp',h⟩
   ·exact .inl (w.h0none h)
   ·exact (w.itm (hps p' hp')).src c h
 have kq:∀ z,ItOk K G H z->(∀ p ∈ ps,Apart3 p z)->∀ k p q,ps[k]?=some p->qs[k]?=some q->Apart3 z q:=fun z oz az k p q e1 e2=>by
  have b:=Paired.at B.back e1 e2
  refine ⟨fun hf a ev hm=>?_,fun hf a ev=>?_⟩
  ·rcases b.src a hm with h | ⟨p',hp',hc⟩
   ·obtain ⟨_,a',L',q1,q2,_⟩:=oz.own hf
    rw [ev] at q1;cases q1
    obtain ⟨o,ho⟩:=(oz.rep.inH a (by rw [q2];exact vo)).ex
    rw [h] at ho;exact nsE ho
   ·exact (az p' hp').2 hf a ev hc
  ·have pf:p.f ≠ .z:=fun q'=>by
    have:=b.z q'
    rw [this] at hf
    exact hf q'
   exact (az p (vE e1)).1 pf a (by rw [<- b.v];exact ev)
 have old:∀ j z,g' j=some z->(g j=some z/\∀ p ∈ ps,Apart3 p z)\/∃ k p,rs[k]?=some (R3.pl j)/\ps[k]?=some p/\qs[k]?=some z:=fun j z ez=>by
  rcases h3 j with ⟨e1,hu⟩ | ⟨k,p,q,a1,a2,a3,_,a5⟩
  ·rw [e1] at ez
   exact .inl ⟨ez,ka j z ez hu⟩
  ·rw [a5] at ez
   cases ez
   exact .inr ⟨k,p,a1,a2,a3⟩
 have wf:Wf K G H' σ (L3.back rs (ps.map fun p=>(p.d,p.f)) (qs.map fun q=>(q.d,q.f)) ρ) T g':=by
  refine ⟨by rw [h2];exact w.len,h1,fun j z ez=>?_,fun j z ez=>?_,fun z hz=>keep z (w.okT z (vw _ hz)) (kt z hz),fun i j a b n ea eb=>?_,fun j z ez t ht=>?_,(List.pairwise_append.mp w.tt).2.1,fun b o e n=>?_,w.pro,⟨fun u hu=>w.fx.frT u (vw _ hu),fun j u h hp hf a ea=>?_,fun b hb=>?_,fun b o h=>?_,fun j u h hl=>?_⟩⟩
  ·rcases old j z ez with ⟨e1,_⟩ | ⟨k,p,a1,a2,a3⟩
   ·exact w.sv j z e1
   ·have ep:g j=some p:=by
     obtain ⟨p',q1,q2⟩:=Paired.exL f5 a1
     rw [a2] at q1;cases q1
     exact q2
    rw [(Paired.at B.back a2 a3).v]
    exact w.sv j p ep
  ·rcases old j z ez with ⟨e1,ap⟩ | ⟨k,p,a1,a2,a3⟩
   ·exact keep z (w.okS j z e1) ap
   ·exact okq k p z a2 a3
  ·rcases old i a ea with ⟨e1,ap⟩ | ⟨k,p,a1,a2,a3⟩
   ·rcases old j b eb with ⟨e2,_⟩ | ⟨k',p',b1,b2,b3⟩
    ·exact w.ss i j a b n e1 e2
    ·exact (kq a (w.okS i a e1) ap k' p' b b2 b3).1
   ·rcases old j b eb with ⟨e2,ap⟩ | ⟨k',p',b1,b2,b3⟩
    ·exact (kq b (w.okS j b e2) ap k p a a2 a3).2
    ·have kk:k ≠ k':=fun z=>by
      subst z
      rw [a1] at b1
      cases b1
      exact n rfl
     exact (cg B.apart (fun _ _=>Apart3.symm) kk a3 b3).1
  ·rcases old j z ez with ⟨e1,ap⟩ | ⟨k,p,a1,a2,a3⟩
   ·exact w.st j z e1 t (vw _ ht)
   ·exact (kq t (w.okT t (vw _ ht)) (kt t ht) k p z a2 a3).symm
  ·refine B.frame b o (w.base b o e n) fun p hp hf hv=>?_
   obtain ⟨_,a,L',e1,_,_,e3⟩:=(w.itm (hps p hp)).own (by rw [hf];intro q;cases q)
   rw [hv] at e1
   cases e1
   rcases e3 hf with h | h
   ·rw [e] at h;cases h
   ·exact n h
  ·rcases old j u h with ⟨e1,_⟩ | ⟨k,p,a1,a2,a3⟩
   ·exact w.fx.frS j u e1 hp hf a ea
   ·have b:=Paired.at B.back a2 a3
    have ep:g j=some p:=by
     obtain ⟨p',q1,q2⟩:=Paired.exL f5 a1
     rw [a2] at q1;cases q1
     exact q2
    refine w.fx.frS j p ep hp (fun q'=>?_) a (by rw [<- b.v];exact ea)
    have:=b.z q'
    rw [this] at hf
    exact hf q'
  ·obtain ⟨o,ho⟩:=w.fx.bin b hb
   exact dom b o ho
  ·obtain ⟨o',ho⟩:=w.fx.ob b o h
   exact dom b o' ho
  ·rcases old j u h with ⟨e1,_⟩ | ⟨k,p,a1,a2,a3⟩
   ·exact w.fx.lvS j u e1 hl
   ·have b:=Paired.at B.back a2 a3
    have ep:g j=some p:=by
     obtain ⟨p',q1,q2⟩:=Paired.exL f5 a1
     rw [a2] at q1;cases q1
     exact q2
    rw [b.v]
    refine w.fx.lvS j p ep ?_
    rcases b.f with h | h
    ·rw [<- h];exact hl
    ·rw [h] at hl;cases hl
 refine ⟨g',wf,fun x rx ox sx ax=>?_⟩
 have kx:∀ z,ItOk K G H z->(∀ p ∈ ps,Apart3 p z)->Apart3 z x:=fun z oz az=>by
  refine ⟨fun hf a ev hm=>?_,fun hf a ev hm=>?_⟩
  ·rcases sx a hm with h | ⟨p',hp',hc⟩
   ·obtain ⟨_,a',L',q1,q2,_⟩:=oz.own hf
    rw [ev] at q1;cases q1
    obtain ⟨o,ho⟩:=(oz.rep.inH a (by rw [q2];exact vo)).ex
    rw [h] at ho;exact nsE ho
   ·exact (az p' hp').2 hf a ev hc
  ·obtain ⟨_,a',L',q1,_,_,q4⟩:=ox hf
   rw [ev] at q1;cases q1
   obtain ⟨o,ho⟩:=(oz.rep.inH a hm).ex
   rw [q4] at ho;exact nsE ho
 refine ⟨wf.len,wf.sl,wf.sv,wf.okS,fun z hz=>?_,wf.ss,fun j z ez t ht=>?_,?_,wf.base,wf.pro,⟨fun u hu hf a ea=>?_,wf.fx.frS,wf.fx.bin,wf.fx.ob,wf.fx.lvS⟩⟩
 ·rcases vx.mp hz with h | hz
  ·rw [h]
   refine ⟨rx,fun hf=>?_,fun c hc=>?_⟩
   ·obtain ⟨m,a,L',v1,v2,v3,v4⟩:=ox hf
    exact ⟨m,a,L',v1,v2,v3,fun _=>.inl (w.h0none v4)⟩
   ·rcases sx c hc with h | ⟨p',hp',h⟩
    ·exact .inl (w.h0none h)
    ·exact (w.itm (hps p' hp')).src c h
  ·exact wf.okT z hz
 ·rcases vx.mp ht with h | ht
  ·rw [h]
   rcases old j z ez with ⟨e1,ap⟩ | ⟨k,p,a1,a2,a3⟩
   ·exact kx z (w.okS j z e1) ap
   ·exact (ax z (vE a3)).symm
  ·exact wf.st j z ez t ht
 ·exact List.pairwise_cons.mpr ⟨fun t ht=>(kx t (w.okT t (vw _ ht)) (kt t ht)).symm,wf.tt⟩
 ·rcases vx.mp hu with h | hu
  ·subst h
   obtain ⟨_,a',L',q1,_,_,q4⟩:=ox hf
   rw [ea] at q1;cases q1
   exact w.ornone q4
  ·exact wf.fx.frT u hu hf a ea
set_option tactic.hygienic true in
theorem lx {i a:Nat} (h:(ρ[i]?).join=none):((L3.lowAt a ρ)[i]?).join=none:=by
 unfold L3.lowAt
 split
 ·rename_i d hd
  rw [bv (cx hd)]
  by_cases ia:i=a
  ·subst ia;rw [h] at hd;exact nsE hd
  ·rw [if_neg ia];exact h
 ·rename_i d hd
  rw [bv (cx hd)]
  by_cases ia:i=a
  ·subst ia;rw [h] at hd;exact nsE hd
  ·rw [if_neg ia];exact h
 ·exact h
theorem kG {i:Nat}:∀ {is:List Nat} {ρ:Sto},(ρ[i]?).join=none->((L3.frz is ρ)[i]?).join=none
 | [],ρ,h=>h
 | a :: is,ρ,h=>kG (is:=is) (ρ:=L3.lowAt a ρ) (lx h)
end
end L3
end
section
namespace L3
open PySem L2
noncomputable def eI (ρ:Sto):Nat->List (D × Fl)->Option (List (D × Fl))
 | _,[]=>some []
 | i,(d,.z) :: ps=>(eI ρ (i+1) ps).map fun r=>(d,.z) :: r
 | i,(d,f) :: ps=>match (ρ[i]?).join,eI ρ (i+1) ps with
  | some (d',f'),some r=>if f'=f\/f'=.z then some ((d',f') :: r) else none
  | _,_=>none
noncomputable def gf (n:Nat) (ps:List (D × Fl)):Sto:=ps.map some ++ List.replicate (n - ps.length) none
noncomputable def fn0 (n:Nat) (b:SM):Fn:=fun ps=>match b (gf n ps) with
 | some (.ok .nx,ρ')=>(eI ρ' 0 ps).map fun fs=>(.ok (.non,.z),fs)
 | some (.ok (.rt d f),ρ')=>(eI ρ' 0 ps).map fun fs=>(.ok (d,f),fs)
 | some (.error e,ρ')=>(eI ρ' 0 ps).map fun fs=>(.error e,fs)
 | _=>none
noncomputable def nt (b:Bool) (p:D × Fl):D × Fl:=if b then (p.1,.z) else p
noncomputable def fnM (mask:List Bool) (n:Nat) (b:SM):Fn:=fun ps=>if ps.length=mask.length then fn0 n b (List.zipWith nt mask ps) else none
section
variable {K:FG} {G:Gm} {W:D->Sto->Prop} {H H':Hp} {σ:St} {ρ ρ':Sto} {T T':List It3} {g:Nat->Option It3} {x y z:It3} {α β:Type}
noncomputable def gOf (H:Hp) (pr:Nat->Bool) (σ0:St) (ps:List It3):Gm:=⟨H,fun b=>∃ p ∈ ps,p.f=.u/\p.v=.ref b,pr,σ0,H,cv ps,fun i=>(ps[i]?).map (·.v)⟩
theorem nH {n:Nat} {ps:List (D × Fl)} (hn:ps.length<=n) (i:Nat):((gf n ps)[i]?).join=ps[i]?:=by
 unfold gf
 by_cases h:i < ps.length
 ·rw [v9 (by simpa using h),vH]
  cases ps[i]? <;> rfl
 ·rw [List.getElem?_append_right (by simpa using h),List.getElem?_replicate,List.getElem?_eq_none (by omega)]
  split <;> rfl
theorem iJ {n:Nat} {vs:List V} {i:Nat} {v:V} (h:vs[i]?=some v):(vs.map some ++ List.replicate n (none:Option V))[i]?=some (some v):=by
 obtain ⟨hi,e⟩:=vD.mp h
 rw [v9 (by simpa using hi),vH,h]
 rfl
theorem n9 {n:Nat} {pr:Nat->Bool} {ps:List It3} (hn:ps.length<=n) (ha:∀ p ∈ ps,Arg K H p) (hp:ps.Pairwise Apart3) (hpr:∀ (i:Nat) (p:It3),ps[i]?=some p->p.f ≠ .z->pr i=true) :
  Wf K (gOf H pr ((ps.map (·.v)).map some ++ List.replicate (n - (ps.map (·.v)).length) none) ps) H ((ps.map (·.v)).map some ++ List.replicate (n - (ps.map (·.v)).length) none) (gf n (ps.map fun p=>(p.d,p.f))) [] (fun i=>ps[i]?):=by
 refine ⟨?_,fun i=>?_,fun i x e=>?_,fun i x e=>?_,fun _ h=>(by cases h),fun i j a b n ea eb=>?_,fun _ _ _ _ h=>(by cases h),.nil,fun b o e _=>e,fun i _=>rfl,⟨fun _ h=>(by cases h),fun i x e hz hf=>?_,fun b h=>?_,fun b o e=>⟨o,e⟩,fun i x e _=>(by show (ps[i]?).map (·.v)=_;rw [e];rfl)⟩⟩
 ·unfold gf;simp
 ·rw [nH (by simpa using hn),vH]
 ·exact iJ (by rw [vH,e];rfl)
 ·have hm:=vE e
  refine ⟨(ha x hm).rep,fun hf=>?_,fun c hc=>.inr ⟨x,hm,hc⟩⟩
  obtain ⟨m,a,L',v1,v2,v3⟩:=(ha x hm).own hf
  exact ⟨m,a,L',v1,v2,v3,fun hu=>.inr ⟨x,hm,hu,v1⟩⟩
 ·exact (cg hp (fun _ _=>Apart3.symm) n ea eb).1
 ·have hz:pr i=false:=hz
  rw [hpr i x e hf] at hz;cases hz
 ·obtain ⟨p,hm,hf,hv⟩:=h
  obtain ⟨_,a,L',v1,v2,_⟩:=(ha p hm).own (by rw [hf];intro q;cases q)
  rw [hv] at v1;cases v1
  exact ((ha p hm).rep.inH b (by rw [v2];exact vo)).ex
noncomputable def FinsOk (ρ:Sto) (i:Nat) (ps fs:List (D × Fl)):Prop:=fs.length=ps.length/\∀ (k:Nat) (p:D × Fl),ps[k]?=some p->∃ q,fs[k]?=some q/\(p.2=.z->q=p)/\(p.2 ≠ .z->(ρ[i+k]?).join=some q/\(q.2=p.2\/q.2=.z))
theorem FinsOk.cons {i:Nat} {p0 q0:D × Fl} {ps fs:List (D × Fl)} (h:FinsOk ρ (i+1) ps fs) (hz:p0.2=.z->q0=p0) (hn:p0.2 ≠ .z->(ρ[i]?).join=some q0/\(q0.2=p0.2\/q0.2=.z)):FinsOk ρ i (p0 :: ps) (q0 :: fs):=by
 refine ⟨by rw [vT,vT,h.1],fun k p hk=>?_⟩
 cases k with
 | zero=>cases hk;exact ⟨q0,rfl,hz,hn⟩
 | succ k =>
  obtain ⟨q,a,b,c⟩:=h.2 k p hk
  exact ⟨q,a,b,fun n=>by have:=c n;rwa [show i+1+k=i+(k+1) by omega] at this⟩
theorem fQ:∀ {i:Nat} {ps:List (D × Fl)} {fs:List (D × Fl)},eI ρ i ps=some fs->FinsOk ρ i ps fs
 | i,[],fs,e=>by cases e;exact ⟨rfl,fun k p h=>by cases h⟩
 | i,p0 :: ps,fs,e=>by
  obtain ⟨d,f⟩:=p0
  have key:f ≠ .z->(match (ρ[i]?).join,eI ρ (i+1) ps with
    | some (d',f'),some r=>if f'=f\/f'=.z then some ((d',f') :: r) else none
    | _,_=>none)=some fs->FinsOk ρ i ((d,f) :: ps) fs:=fun hf e=>by
   cases h:(ρ[i]?).join with
   | none=>rw [h] at e;exact nsE e
   | some p0 =>
    cases h2:eI ρ (i+1) ps with
    | none=>rw [h,h2] at e;exact nsE e
    | some r =>
     rw [h,h2] at e
     obtain ⟨d',f'⟩:=p0
     dsimp only at e
     rcases Decidable.em (f'=f\/f'=.z) with hc | hc
     ·rw [if_pos hc] at e
      cases e
      exact (fQ h2).cons (fun z=>absurd z hf) fun _=>⟨h,hc⟩
     ·rw [if_neg hc] at e;exact nsE e
  cases f with
  | z =>
   obtain ⟨r,h,h'⟩:=vt.mp (show (eI ρ (i+1) ps).map (fun r=>(d,Fl.z) :: r)=some fs from e)
   subst h'
   exact (fQ h).cons (fun _=>rfl) fun n=>absurd rfl n
  | u=>exact key (by intro q;cases q) e
  | l=>exact key (by intro q;cases q) e
theorem gb {α β:Type} {P:Nat->α->β->Prop}:∀ (l:List α) (i:Nat),(∀ (k:Nat) a,l[k]?=some a->∃ b,P (i+k) a b)->∃ m:List β,m.length=l.length/\∀ (k:Nat) a,l[k]?=some a->∃ b,m[k]?=some b/\P (i+k) a b
 | [],i,_=>⟨[],rfl,fun k a h=>by simp at h⟩
 | a :: l,i,h=>by
  obtain ⟨b,hb⟩:=h 0 a rfl
  obtain ⟨m,h1,h2⟩:=gb l (i+1) fun k a e=>by
   have:=h (k+1) a (by simpa using e)
   rwa [show i+(k+1)=i+1+k by omega] at this
  refine ⟨b :: m,by simp [h1],fun k a' e=>?_⟩
  cases k with
  | zero=>simp at e;subst e;exact ⟨b,rfl,hb⟩
  | succ k =>
   obtain ⟨b',e1,e2⟩:=h2 k a' (by simpa using e)
   exact ⟨b',by simpa using e1,by rwa [show i+(k+1)=i+1+k by omega]⟩
theorem Paired.ofGet {α β:Type} {F:α->β->Prop}:∀ {l:List α} {m:List β},l.length=m.length->(∀ (k:Nat) a b,l[k]?=some a->m[k]?=some b->F a b)->Paired F l m
 | [],[],_,_=>.nil
 | [],_ :: _,h,_=>by cases h
 | _ :: _,[],h,_=>by cases h
 | a :: l,b :: m,h,f=>.cons (f 0 a b rfl rfl) (Paired.ofGet (by simpa using h) fun k a b e1 e2=>f (k+1) a b (by simpa using e1) (by simpa using e2))
theorem kT {n:Nat} {pr:Nat->Bool} {σ0:St} {ps:List It3} {fs:List (D × Fl)} (ha:∀ p ∈ ps,Arg K H p) (hp:ps.Pairwise Apart3) (hpr:∀ (i:Nat) (p:It3),ps[i]?=some p->p.f ≠ .z->pr i=true) (h0:∀ (i:Nat) (p:It3),ps[i]?=some p->σ0[i]?=some (some p.v))
  (w:Wf K (gOf H pr σ0 ps) H' σ ρ T g) (e:eI ρ 0 (ps.map fun p=>(p.d,p.f))=some fs) :
  ∃ qs,BehindX K H H' ps qs/\qs.map (fun q=>(q.d,q.f))=fs/\(∀ (k:Nat) (p q:It3),ps[k]?=some p->qs[k]?=some q->(p.f=.z/\q=p)\/(p.f ≠ .z/\g k=some q)):=by
 obtain ⟨hl,hs⟩:=fQ e
 rw [vC] at hl
 have frame:∀ b o,H b=some o->(∀ p ∈ ps,p.f=.u->p.v ≠ .ref b)->H' b=some o:=fun b o hb hn=>w.base b o hb fun ⟨p,hm,hf,hv⟩=>hn p hm hf hv
 have there:∀ b o,H b=some o->∃ o',H' b=some o':=fun b o hb=>w.fx.ob b o hb
 have repz:∀ (k:Nat) (p:It3),ps[k]?=some p->p.f=.z->Rep K H' p.d p.v p.L:=fun k p ek hz=>by
  refine (ha p (vE ek)).rep.keep (M:=fun b=>∃ p ∈ ps,p.f=.u/\p.v=.ref b) (fun b o hb hn=>frame b o hb fun p hp hf hv=>hn ⟨p,hp,hf,hv⟩) (fun b ⟨p',hm,hf,hv⟩=>?_) fun b hb ⟨p',hm,hf,hv⟩=>?_
  ·obtain ⟨_,a,L',v1,v2,_⟩:=(ha p' hm).own (by rw [hf];intro q;cases q)
   rw [hv] at v1;cases v1
   exact (ha p' hm).rep.inH b (by rw [v2];exact vo)
  ·obtain ⟨j,hj,ej⟩:=List.mem_iff_getElem.mp hm
   have ej':ps[j]?=some p':=by rw [vy hj,ej]
   have jk:j ≠ k:=fun z=>by subst z;rw [ek] at ej';cases ej';rw [hz] at hf;cases hf
   exact (cg hp (fun _ _=>Apart3.symm) jk ej' ek).1 (by rw [hf];intro q;cases q) b hv hb
 have one:∀ (k:Nat) (p:It3),ps[k]?=some p->∃ q,(q.d,q.f)=(fs[k]?).getD (p.d,p.f)/\fs[k]?=some (q.d,q.f)/\Back1 K H H' ps p q/\((p.f=.z/\q=p)\/(p.f ≠ .z/\g k=some q)):=fun k p ek=>by
  have hm:=vE ek
  obtain ⟨q0,f1,f2,f3⟩:=hs k (p.d,p.f) (by rw [vH,ek];rfl)
  by_cases hz:p.f=.z
  ·have:=f2 hz
   subst this
   refine ⟨p,by rw [f1];rfl,f1,⟨fun _=>rfl,rfl,.inl rfl,⟨repz k p ek hz,fun h=>absurd hz h⟩,fun c hc=>.inr ⟨p,hm,hc⟩,fun h=>?_⟩,.inl ⟨hz,rfl⟩⟩
   rw [hz] at h;cases h
  ·obtain ⟨h1,h2⟩:=f3 hz
   rw [vQ] at h1
   obtain ⟨y,y1,y2,y3,y4⟩:=w.slot (d:=q0.1) (f:=q0.2) h1
   have hv:y.v=p.v:=by
    have:=w.pro k (hpr k p ek hz)
    rw [y4] at this
    have h0:some (some y.v)=some (some p.v):=this.trans (h0 k p ek)
    injection h0 with h0
    injection h0
   have ok:=w.okS k y y1
   refine ⟨y,by rw [f1,y2,y3];rfl,by rw [f1,y2,y3],⟨fun h=>absurd h hz,hv,by rw [y3];exact h2,⟨ok.rep,fun hf=>?_⟩,fun c hc=>ok.src c hc,fun hf b hb=>?_⟩,.inr ⟨hz,y1⟩⟩
   ·obtain ⟨m,a,L',v1,v2,v3,_⟩:=ok.own hf
    exact ⟨m,a,L',v1,v2,v3⟩
   ·obtain ⟨_,a,L',v1,v2,_⟩:=(ha p hm).own hz
    rw [hb] at v1;cases v1
    obtain ⟨o,ho⟩:=((ha p hm).rep.inH b (by rw [v2];exact vo)).ex
    exact there b o ho
 obtain ⟨qs,hq,hall⟩:=gb (P:=fun k p q=>fs[k]?=some (q.d,q.f)/\Back1 K H H' ps p q/\((p.f=.z/\q=p)\/(p.f ≠ .z/\g k=some q))) ps 0 fun k p ek=>by
  obtain ⟨q,_,a,b,c⟩:=one k p ek
  exact ⟨q,by simpa using ⟨a,b,c⟩⟩
 have get:∀ (k:Nat) (p q:It3),ps[k]?=some p->qs[k]?=some q->fs[k]?=some (q.d,q.f)/\Back1 K H H' ps p q/\((p.f=.z/\q=p)\/(p.f ≠ .z/\g k=some q)):=fun k p q ep eq=>by
  obtain ⟨q',e1,e2⟩:=hall k p ep
  rw [eq] at e1
  cases e1
  simpa using e2
 have par:∀ (k:Nat) (q:It3),qs[k]?=some q->∃ p,ps[k]?=some p:=fun k q e=>by
  have hk:=(vD.mp e).1
  exact ⟨ps[k]'(by omega),by simp [show k < ps.length by omega]⟩
 refine ⟨qs,⟨frame,Paired.ofGet hq.symm fun k p q ep eq=>(get k p q ep eq).2.1,?_⟩,?_,fun k p q ep eq=>(get k p q ep eq).2.2⟩
 ·rw [List.pairwise_iff_getElem]
  intro k j hk hj lt
  have ek:qs[k]?=some qs[k]:=vy hk
  have ej:qs[j]?=some qs[j]:=vy hj
  have side:∀ (k j:Nat) (q r:It3),k ≠ j->qs[k]?=some q->qs[j]?=some r->NoRoot q r:=fun k j q r n eq er=>by
   obtain ⟨p,ep⟩:=par k q eq
   obtain ⟨p',ep'⟩:=par j r er
   obtain ⟨_,b,c⟩:=get k p q ep eq
   obtain ⟨_,b',c'⟩:=get j p' r ep' er
   rcases c with ⟨hz,e⟩ | ⟨hz,e⟩
   ·rw [e];exact fun h=>absurd hz h
   ·rcases c' with ⟨hz',e'⟩ | ⟨hz',e'⟩
    ·rw [e']
     intro hf a ea
     exact (cg hp (fun _ _=>Apart3.symm) n ep ep').1 hz a (by rw [<- b.v];exact ea)
    ·exact w.ss k j q r n e e'
  exact ⟨side k j _ _ (vK lt) ek ej,side j k _ _ (Nat.ne_of_gt lt) ej ek⟩
 ·refine List.ext_getElem? fun k=>?_
  rw [vH]
  cases eq:qs[k]? with
  | none =>
   have:qs.length<=k:=List.getElem?_eq_none_iff.mp eq
   rw [List.getElem?_eq_none (by omega)]
   rfl
  | some q =>
   obtain ⟨p,ep⟩:=par k q eq
   rw [(get k p q ep eq).1]
   rfl
theorem lJ {n:Nat} {pr:Nat->Bool} {σ0:St} {ps:List It3} {fs:List (D × Fl)} (ha:∀ p ∈ ps,Arg K H p) (hp:ps.Pairwise Apart3) (hpr:∀ (i:Nat) (p:It3),ps[i]?=some p->p.f ≠ .z->pr i=true) (h0:∀ (i:Nat) (p:It3),ps[i]?=some p->σ0[i]?=some (some p.v))
  (w:Wf K (gOf H pr σ0 ps) H' σ ρ (x :: T) g) (e:eI ρ 0 (ps.map fun p=>(p.d,p.f))=some fs):∃ qs,Behind K H H' ps qs x/\qs.map (fun q=>(q.d,q.f))=fs:=by
 obtain ⟨qs,B,f,hg⟩:=kT (n:=n) ha hp hpr h0 w e
 have ok:=w.okT x vo
 refine ⟨qs,⟨B,ok.rep,fun hf=>?_,fun c hc=>ok.src c hc,fun q hq=>?_⟩,f⟩
 ·obtain ⟨m,a,L',v1,v2,v3,_⟩:=ok.own hf
  exact ⟨m,a,L',v1,v2,v3,w.fx.frT x vo hf a v1⟩
 ·obtain ⟨k,hk,ek⟩:=List.mem_iff_getElem.mp hq
  have eq:qs[k]?=some q:=by rw [vy hk,ek]
  obtain ⟨p,ep,b⟩:=Paired.exR B.back eq
  rcases hg k p q ep eq with ⟨hz,e⟩ | ⟨hz,e⟩
  ·rw [e]
   refine ⟨fun hf a ea hm=>?_,fun h=>absurd hz h⟩
   have h1:=w.fx.frT x vo hf a ea
   obtain ⟨o,ho⟩:=((ha p (vE ep)).rep.inH a hm).ex
   have h2:H a=none:=h1
   rw [h2] at ho;exact nsE ho
  ·exact (w.st k q e x vo).symm
end
end L3
end
section
namespace L3
open PySem L2
noncomputable def ci:Fl->Fl
 | .u=>.l
 | f=>f
noncomputable def aX (x:It3):It3:={ x with f:=ci x.f }
noncomputable def dL:Fl->Fl
 | .l=>.u
 | f=>f
noncomputable def qA (x:It3):It3:={ x with f:=dL x.f }
noncomputable def gP (h:Fl->Fl) (i:Nat) (ρ:Sto):Sto:=match (ρ[i]?).join with
 | some (d,f)=>ρ.set i (some (d,h f))
 | none=>ρ
noncomputable def aB (h:Fl->Fl) (is:List Nat) (ρ:Sto):Sto:=is.foldl (fun ρ i=>gP h i ρ) ρ
noncomputable def us (ρ:Sto) (is:List Nat):List Nat:=is.filter fun i=>match (ρ[i]?).join with
 | some (_,.u)=>true
 | _=>false
theorem lentF_z {f:Fl}:ci f=.z ↔ f=.z:=by cases f <;> simp [ci]
theorem unlF_z {f:Fl}:dL f=.z ↔ f=.z:=by cases f <;> simp [dL]
theorem mi (f:Fl):ci f ≠ .u:=by cases f <;> simp [ci]
theorem sY (f:Fl):dL f ≠ .l:=by cases f <;> simp [dL]
section
variable {K:FG} {G G0:Gm} {W W0:D->Sto->Prop} {H H':Hp} {σ:St} {ρ ρ':Sto} {T T':List It3} {g:Nat->Option It3} {x y z:It3} {α β:Type}
theorem ln {h:Fl->Fl} {i j:Nat}:((gP h i ρ)[j]?).join=if j=i then ((ρ[j]?).join).map (fun p=>(p.1,h p.2)) else (ρ[j]?).join:=by
 unfold gP
 cases e:(ρ[i]?).join with
 | none =>
  by_cases q:j=i
  ·subst q;rw [if_pos rfl,e];rfl
  ·rw [if_neg q]
 | some p =>
  obtain ⟨d,f⟩:=p
  dsimp only
  rw [bv (cx e)]
  by_cases q:j=i
  ·subst q;rw [if_pos rfl,if_pos rfl,e];rfl
  ·rw [if_neg q,if_neg q]
theorem nh {h:Fl->Fl} {i:Nat}:(gP h i ρ).length = ρ.length:=by
 unfold gP
 split
 ·rw [List.length_set]
 ·rfl
theorem dW {h:Fl->Fl} (hh:∀ f,h (h f)=h f):∀ {is:List Nat} {ρ:Sto} {j:Nat},((aB h is ρ)[j]?).join=if j ∈ is then ((ρ[j]?).join).map (fun p=>(p.1,h p.2)) else (ρ[j]?).join
 | [],ρ,j=>by simp [aB]
 | i :: is,ρ,j=>by
  have e:aB h (i :: is) ρ=aB h is (gP h i ρ):=rfl
  rw [e,dW hh,ln]
  by_cases q:j=i
  ·subst q
   by_cases m:j ∈ is
   ·rw [if_pos m,if_pos rfl,if_pos vo]
    cases (ρ[j]?).join with
    | none=>rfl
    | some p=>simp [hh]
   ·rw [if_neg m,if_pos rfl,if_pos vo]
  ·by_cases m:j ∈ is
   ·rw [if_pos m,if_neg q,if_pos (vp _ m)]
   ·rw [if_neg m,if_neg q,if_neg (fun z=>(vx.mp z).elim q m)]
theorem eU {h:Fl->Fl}:∀ {is:List Nat} {ρ:Sto},(aB h is ρ).length = ρ.length
 | [],ρ=>rfl
 | i :: is,ρ=>by
  have e:aB h (i :: is) ρ=aB h is (gP h i ρ):=rfl
  rw [e,eU,nh]
noncomputable def cJ (G:Gm) (H:Hp) (g:Nat->Option It3) (is:List Nat):Gm :=
 ⟨H,fun b=>∃ j y,j ∉ is/\g j=some y/\y.f=.u/\y.v=.ref b,G.pr,G.σ0,G.orig,fun c=>G.H0 c=none\/G.src c,fun j=>if j ∈ is then (g j).map (·.v) else G.lv j⟩
structure Fk (x y:It3):Prop where
 d:y.d=x.d
 v:y.v=x.v
 L:y.L=x.L
 z:y.f=.z ↔ x.f=.z
theorem Fk.noRoot {x x' y y':It3} (a:Fk x x') (b:Fk y y') (h:NoRoot x y):NoRoot x' y':=fun hf c e=>by
 rw [b.L]
 exact h (fun q=>hf (a.z.mpr q)) c (by rw [<- a.v];exact e)
theorem Fk.apart {x x' y y':It3} (a:Fk x x') (b:Fk y y') (h:Apart3 x y):Apart3 x' y':=⟨a.noRoot b h.1,b.noRoot a h.2⟩
theorem Fk.refl (x:It3):Fk x x:=⟨rfl,rfl,rfl,Iff.rfl⟩
theorem gw (x:It3):Fk x (aX x):=⟨rfl,rfl,rfl,lentF_z⟩
theorem uX (x:It3):Fk x (qA x):=⟨rfl,rfl,rfl,unlF_z⟩
theorem ke {o:Option It3} {h:Fl->Fl} {p:Option (D × Fl)} (e:o.map (fun x=>(x.d,x.f))=p):(o.map fun x=>{ x with f:=h x.f }).map (fun x:It3=>(x.d,x.f))=p.map fun p=>(p.1,h p.2):=by
 subst e
 cases o <;> rfl
theorem Wf.enter (w:Wf K G H σ ρ T g) (is:List Nat):Wf K (cJ G H g is) H σ (aB ci is ρ) (T.map aX) (fun j=>if j ∈ is then (g j).map aX else g j):=by
 have val:∀ j u,(if j ∈ is then (g j).map aX else g j)=some u->∃ u0,g j=some u0/\Fk u0 u/\((j ∈ is/\u=aX u0)\/(j ∉ is/\u=u0)):=fun j u h=>by
  by_cases q:j ∈ is
  ·rw [if_pos q] at h
   obtain ⟨u0,e1,e2⟩:=vt.mp h
   subst e2
   exact ⟨u0,e1,gw u0,.inl ⟨q,rfl⟩⟩
  ·rw [if_neg q] at h
   exact ⟨u,h,Fk.refl u,.inr ⟨q,rfl⟩⟩
 refine ⟨by rw [eU];exact w.len,fun j=>?_,fun j u h=>?_,fun j u h=>?_,fun u hu=>?_,fun i j a b n ha hb=>?_,fun j a h b hb=>?_,?_,fun b o e _=>e,w.pro,⟨fun u hu hf a ea=>?_,fun j u h hp hf a ea=>?_,fun b hb=>?_,w.fx.ob,fun j u h hl=>?_⟩⟩
 ·rw [dW (by intro f;cases f <;> rfl)]
  by_cases q:j ∈ is
  ·rw [if_pos q,if_pos q];exact ke (w.sl j)
  ·rw [if_neg q,if_neg q];exact w.sl j
 ·obtain ⟨u0,e,k,_⟩:=val j u h
  rw [k.v];exact w.sv j u0 e
 ·obtain ⟨u0,e,k,c⟩:=val j u h
  have ok:=w.okS j u0 e
  refine ⟨by rw [k.d,k.v,k.L];exact ok.rep,fun hf=>?_,fun c hc=>.inr (ok.src c (by rw [<- k.L];exact hc))⟩
  obtain ⟨m,a,L',v1,v2,v3,_⟩:=ok.own (fun q=>hf (k.z.mpr q))
  refine ⟨by rw [k.d];exact m,a,L',by rw [k.v];exact v1,by rw [k.L];exact v2,v3,fun hu=>?_⟩
  rcases c with ⟨_,rfl⟩ | ⟨nj,rfl⟩
  ·exact absurd hu (mi _)
  ·exact .inr ⟨j,u,nj,e,hu,v1⟩
 ·obtain ⟨u0,h0,rfl⟩:=vG.mp hu
  have ok:=w.okT u0 h0
  refine ⟨ok.rep,fun hf=>?_,fun c hc=>.inr (ok.src c hc)⟩
  obtain ⟨m,a,L',v1,v2,v3,_⟩:=ok.own (fun q=>hf (lentF_z.mpr q))
  exact ⟨m,a,L',v1,v2,v3,fun hu=>absurd hu (mi _)⟩
 ·obtain ⟨a0,e1,k1,_⟩:=val i a ha
  obtain ⟨b0,e2,k2,_⟩:=val j b hb
  exact k1.noRoot k2 (w.ss i j a0 b0 n e1 e2)
 ·obtain ⟨a0,e1,k1,_⟩:=val j a h
  obtain ⟨b0,h0,rfl⟩:=vG.mp hb
  exact k1.apart (gw b0) (w.st j a0 e1 b0 h0)
 ·rw [List.pairwise_map]
  exact w.tt.imp fun {a b} h=>(gw a).apart (gw b) h
 ·obtain ⟨u0,h0,rfl⟩:=vG.mp hu
  exact w.fx.frT u0 h0 (fun q=>hf (lentF_z.mpr q)) a ea
 ·obtain ⟨u0,e,k,_⟩:=val j u h
  exact w.fx.frS j u0 e hp (fun q=>hf (k.z.mpr q)) a (by rw [<- k.v];exact ea)
 ·obtain ⟨j,y,_,e,hf,hv⟩:=hb
  obtain ⟨_,a,L',v1,v2,_⟩:=(w.okS j y e).own (by rw [hf];intro q;cases q)
  rw [hv] at v1;cases v1
  exact ((w.okS j y e).rep.inH b (by rw [v2];exact vo)).ex
 ·obtain ⟨u0,e,k,c⟩:=val j u h
  show (if j ∈ is then (g j).map (·.v) else G.lv j)=_
  rcases c with ⟨q,rfl⟩ | ⟨q,rfl⟩
  ·rw [if_pos q,e];rfl
  ·rw [if_neg q];exact w.fx.lvS j u e hl
theorem Wf.leave {is:List Nat} {σ':St} {ρ2:Sto} {g2:Nat->Option It3} {R:List It3} (w:Wf K G H σ ρ T g) (his:∀ i ∈ is,∀ y,g i=some y->y.f=.u) (hT:T'.Sublist T) (w2:Wf K (cJ G H g is) H' σ' ρ2 (R ++ T'.map aX) g2) :
  Wf K G H' σ' (aB dL is ρ2) (R ++ T') (fun j=>if j ∈ is then (g2 j).map qA else g2 j):=by
 have val:∀ j u,(if j ∈ is then (g2 j).map qA else g2 j)=some u->∃ u0,g2 j=some u0/\Fk u0 u/\((j ∈ is/\u=qA u0)\/(j ∉ is/\u=u0)):=fun j u h=>by
  by_cases q:j ∈ is
  ·rw [if_pos q] at h
   obtain ⟨u0,e1,e2⟩:=vt.mp h
   subst e2
   exact ⟨u0,e1,uX u0,.inl ⟨q,rfl⟩⟩
  ·rw [if_neg q] at h
   exact ⟨u,h,Fk.refl u,.inr ⟨q,rfl⟩⟩
 have may:∀ a,H a=none\/(∃ j y,j ∉ is/\g j=some y/\y.f=.u/\y.v=.ref a)->G.H0 a=none\/G.bw a:=fun a h=>by
  rcases h with h | ⟨j,y,_,e,hf,hv⟩
  ·exact .inl (w.h0none h)
  ·obtain ⟨_,a',L',v1,_,_,v4⟩:=(w.okS j y e).own (by rw [hf];intro q;cases q)
   rw [hv] at v1;cases v1
   exact v4 hf
 have srcs:∀ c,H c=none\/(G.H0 c=none\/G.src c)->G.H0 c=none\/G.src c:=fun c h=>by
  rcases h with h | h
  ·exact .inl (w.h0none h)
  ·exact h
 have tm:∀ x ∈ T',x ∈ T:=fun x hx=>hT.subset hx
 have dom:∀ b o,H b=some o->∃ o',H' b=some o':=fun b o hb=>by
  by_cases q:∃ j y,j ∉ is/\g j=some y/\y.f=.u/\y.v=.ref b
  ·exact w2.fx.bin b q
  ·exact ⟨o,w2.base b o hb q⟩
 refine ⟨by rw [eU];exact w2.len,fun j=>?_,fun j u h=>?_,fun j u h=>?_,fun u hu=>?_,fun i j a b n ha hb=>?_,fun j a h b hb=>?_,?_,fun b o e n=>?_,w2.pro,⟨fun u hu=>?_,fun j u h hp hf a ea=>?_,fun b hb=>?_,w2.fx.ob,fun j u h hl=>?_⟩⟩
 ·rw [dW (by intro f;cases f <;> rfl)]
  by_cases q:j ∈ is
  ·rw [if_pos q,if_pos q];exact ke (w2.sl j)
  ·rw [if_neg q,if_neg q];exact w2.sl j
 ·obtain ⟨u0,e,k,_⟩:=val j u h
  rw [k.v];exact w2.sv j u0 e
 ·obtain ⟨u0,e,k,c⟩:=val j u h
  have ok:=w2.okS j u0 e
  refine ⟨by rw [k.d,k.v,k.L];exact ok.rep,fun hf=>?_,fun c hc=>srcs c (ok.src c (by rw [<- k.L];exact hc))⟩
  obtain ⟨m,a,L',v1,v2,v3,v4⟩:=ok.own (fun q=>hf (k.z.mpr q))
  refine ⟨by rw [k.d];exact m,a,L',by rw [k.v];exact v1,by rw [k.L];exact v2,v3,fun hu=>?_⟩
  rcases c with ⟨q,rfl⟩ | ⟨nj,rfl⟩
  ·cases hf0:u0.f with
   | u=>exact may a (v4 hf0)
   | l =>
    have hl:=w2.fx.lvS j u0 e hf0
    have hl:(if j ∈ is then (g j).map (·.v) else G.lv j)=some u0.v:=hl
    rw [if_pos q] at hl
    obtain ⟨y,ey,ev⟩:=vt.mp hl
    have yu:=his j q y ey
    obtain ⟨_,a',L'',b1,_,_,b4⟩:=(w.okS j y ey).own (by rw [yu];intro q;cases q)
    rw [ev,v1] at b1;cases b1
    exact b4 yu
   | z=>exact absurd (unlF_z.mpr hf0) hf
  ·exact may a (v4 hu)
 ·rcases vA.mp hu with hu | hu
  ·have ok:=w2.okT u (vv _ hu)
   refine ⟨ok.rep,fun hf=>?_,fun c hc=>srcs c (ok.src c hc)⟩
   obtain ⟨m,a,L',v1,v2,v3,v4⟩:=ok.own hf
   exact ⟨m,a,L',v1,v2,v3,fun h=>may a (v4 h)⟩
  ·have ok:=w.okT u (tm u hu)
   exact ⟨(w2.okT (aX u) (vw _ (vG.mpr ⟨u,hu,rfl⟩))).rep,ok.own,ok.src⟩
 ·obtain ⟨a0,e1,k1,_⟩:=val i a ha
  obtain ⟨b0,e2,k2,_⟩:=val j b hb
  exact k1.noRoot k2 (w2.ss i j a0 b0 n e1 e2)
 ·obtain ⟨a0,e1,k1,_⟩:=val j a h
  rcases vA.mp hb with hb | hb
  ·exact k1.apart (Fk.refl b) (w2.st j a0 e1 b (vv _ hb))
  ·have:=w2.st j a0 e1 (aX b) (vw _ (vG.mpr ⟨b,hb,rfl⟩))
   exact k1.apart (y:=aX b) ⟨rfl,rfl,rfl,lentF_z.symm⟩ this
 ·have h:=List.pairwise_append.mp w2.tt
  refine List.pairwise_append.mpr ⟨h.1,w.tt.sublist hT,fun a ha b hb=>?_⟩
  exact (Fk.refl a).apart (y:=aX b) ⟨rfl,rfl,rfl,lentF_z.symm⟩ (h.2.2 a ha (aX b) (vG.mpr ⟨b,hb,rfl⟩))
 ·have hb:=w.base b o e n
  refine w2.base b o hb fun q=>?_
  rcases may b (.inr q) with h | h
  ·rw [e] at h;cases h
  ·exact n h
 ·rcases vA.mp hu with hu | hu
  ·exact w2.fx.frT u (vv _ hu)
  ·exact w.fx.frT u (tm u hu)
 ·obtain ⟨u0,e,k,_⟩:=val j u h
  exact w2.fx.frS j u0 e hp (fun q=>hf (k.z.mpr q)) a (by rw [<- k.v];exact ea)
 ·obtain ⟨o,ho⟩:=w.fx.bin b hb
  exact dom b o ho
 ·obtain ⟨u0,e,k,c⟩:=val j u h
  rcases c with ⟨q,rfl⟩ | ⟨q,rfl⟩
  ·exact absurd hl (sY _)
  ·have:=w2.fx.lvS j u e hl
   have this:(if j ∈ is then (g j).map (·.v) else G.lv j)=some u.v:=this
   rw [if_neg q] at this
   exact this
theorem rU {is:List Nat} (w:Wf K G H σ ρ T g) (his:∀ i ∈ is,∀ y,g i=some y->y.f=.u):∀ (H':Hp) (σ':St) (ρ2:Sto) (T2:List It3) (g2:Nat->Option It3),Wf K (cJ G H g is) H' σ' ρ2 T2 g2->∃ g3,Wf K G H' σ' (aB dL is ρ2) [] g3 :=
 fun H' σ' ρ2 T2 g2 w2=>⟨_,by simpa using Wf.leave (T':=[]) (R:=[]) w his (List.nil_sublist T) (by simpa using w2.sub (List.nil_sublist T2))⟩
end
end L3
end
section
namespace L3
open PySem L2
section
variable {K:FG} {G G0:Gm} {W W0:D->Sto->Prop} {H H':Hp} {σ:St} {ρ ρ':Sto} {T T':List It3} {g:Nat->Option It3} {x y z:It3} {α β:Type}
noncomputable def Walk (K:FG) (J:It) (H1:Hp) (ys:List It3) (ds:List D):Prop:=∃ els:List It3,(∀ x ∈ els,x.f=.z/\Rep K H1 x.d x.v x.L/\∀ c ∈ x.L,c9 ys c) /\
 ∀ (M:Addr->Prop) (H':Hp),(∀ b,M b->MutAt H1 b)->(∀ b o,H1 b=some o->¬ M b->H' b=some o)->(∀ y ∈ ys,∀ b ∈ y.L,¬ M b) ->
  (∀ (i:Nat) (d:D),ds[i]?=some d->J.go i H'/\∀ x H'',J.yld i H' x H''->∃ w,New K H' H'' (cv els) w/\w.d=d/\w.f=.z/\w.v=x)/\J.stop ds.length H'
noncomputable abbrev IM:=M3 (List R3 × List D)
noncomputable def EndI (K:FG) (G:Gm) (W:D->Sto->Prop) (σ:St) (T:List It3) (ρ':Sto) (R:It->Hp->Prop):Except D (List R3 × List D)->Prop
 | .ok p=>∀ J H1 vs Ts g1 ys,Wf K G H1 σ ρ' (Ts ++ T) g1->Ars σ p.1 vs Ts->(∀ y ∈ ys,(∃ i,i ∈ pls p.1/\g1 i=some y)\/y ∈ Ts)->Walk K J H1 ys p.2->R J H1
 | .error e=>W e ρ'
noncomputable def tI (K:FG) (G0:Gm) (W0:D->Sto->Prop) (m:IM):TI:=fun σ H R=>∃ G W,Le K G W G0 W0/\∃ ρ T g r ρ',Wf K G H σ ρ T g/\m ρ=some (r,ρ')/\EndI K G W σ T ρ' R r
theorem tI.seq {m:IM} {k:List R3 × List D->M3 β} {r:Except D β} {P:It->Hp->Prop} (le:Le K G W G0 W0) (w:Wf K G H σ ρ T g) (e:ac m k ρ=some (r,ρ')) (he:∀ x,r=.error x->W x ρ')
  (h:∀ p ρ1,k p ρ1=some (r,ρ')->EndI K G W σ T ρ1 P (.ok p)):tI K G0 W0 m σ H P:=by
 unfold ac at e
 cases q:m ρ with
 | none=>rw [q] at e;exact nsE e
 | some p =>
  obtain ⟨o,ρ1⟩:=p
  rw [q] at e
  cases o with
  | error x=>cases e;exact ⟨G,W,le,ρ,T,g,.error x,ρ',w,q,he x rfl⟩
  | ok ra=>exact ⟨G,W,le,ρ,T,g,.ok ra,ρ1,w,q,h ra ρ1 e⟩
noncomputable def Bnd (K:FG) (pr:Nat->Bool) (tg:TG) (bnd:D->Sto->Option Sto):Prop:=∀ (G:Gm) (H:Hp) (σ:St) (ρ ρ1:Sto) (T:List It3) (g:Nat->Option It3) (w:It3) (Q:St->Hp->Prop),G.pr=pr->w.f=.z->Wf K G H σ ρ (w :: T) g->bnd w.d ρ=some ρ1 ->
 (∀ σ2 g2,Wf K G H σ2 ρ1 T g2->Q σ2 H)->tg w.v σ H Q
noncomputable def au (i:Nat) (d:D) (ρ:Sto):Option Sto:=if i < ρ.length then some (ρ.set i (some (d,.z))) else none
set_option tactic.hygienic true in
theorem bo {pr:Nat->Bool} {i:Nat} (hp:pr i=false):Bnd K pr (mr i) (au i):=fun G H σ ρ ρ1 T g w Q hpr hz wf e q=>by
 unfold au at e
 split at e
 ·rename_i hi
  cases e
  exact q _ _ (wf.store (f:=.z) hi (by rw [hpr];exact hp) (.inr rfl) (by intro h;cases h))
 ·exact nsE e
noncomputable def qx (K:FG) (pr:Nat->Bool) (tg:TGs) (bnd:List D->Sto->Option Sto):Prop:=∀ (G:Gm) (H:Hp) (σ:St) (ρ ρ1:Sto) (T:List It3) (g:Nat->Option It3) (ws:List It3) (Q:St->Hp->Prop),G.pr=pr->(∀ w ∈ ws,w.f=.z)->Wf K G H σ ρ (ws ++ T) g->bnd (ws.map (·.d)) ρ=some ρ1 ->
 (∀ σ2 g2,Wf K G H σ2 ρ1 T g2->Q σ2 H)->tg (ws.map (·.v)) σ H Q
noncomputable def lL:List D->Sto->Option Sto
 | [],ρ=>some ρ
 | _,_=>none
noncomputable def cu (b:D->Sto->Option Sto) (bs:List D->Sto->Option Sto):List D->Sto->Option Sto
 | [],_=>none
 | d :: ds,ρ=>match b d ρ with
  | some ρ1=>bs ds ρ1
  | none=>none
theorem qi {pr:Nat->Bool}:qx K pr gNil lL:=fun G H σ ρ ρ1 T g ws Q _ _ wf e q=>by
 cases ws with
 | nil=>cases e;exact ⟨rfl,q _ _ wf⟩
 | cons w ws=>exact nsE e
theorem nX {pr:Nat->Bool} {tg:TG} {tgs:TGs} {b:D->Sto->Option Sto} {bs:List D->Sto->Option Sto} (h1:Bnd K pr tg b) (h2:qx K pr tgs bs):qx K pr (sT tg tgs) (cu b bs):=fun G H σ ρ ρ1 T g ws Q hpr hz wf e q=>by
 cases ws with
 | nil=>exact nsE e
 | cons w ws =>
  have e:(match b w.d ρ with | some ρ1=>bs (ws.map (·.d)) ρ1 | none=>none)=some ρ1:=e
  cases q1:b w.d ρ with
  | none=>rw [q1] at e;exact nsE e
  | some ρ2 =>
   rw [q1] at e
   exact ⟨w.v,ws.map (·.v),rfl,h1 G H σ ρ ρ2 (ws ++ T) g w _ hpr (hz w vo) wf q1 fun σ2 g2 w2=>h2 G H σ2 ρ2 ρ1 T g2 ws Q hpr (fun x hx=>hz x (vp _ hx)) w2 e q⟩
noncomputable def lK (n:Nat) (bs:List D->Sto->Option Sto):D->Sto->Option Sto
 | .tup ds,ρ=>if ds.length=n then bs ds ρ else none
 | _,_=>none
theorem Reps.split:∀ {ds:List D} {vs:List V} {L:List Addr},Reps (Rep K H) ds vs L->∃ ws:List It3,ws.map (·.d)=ds/\ws.map (·.v)=vs/\(∀ w ∈ ws,w.f=.z/\Rep K H w.d w.v w.L/\∀ c ∈ w.L,c ∈ L)
 | _,_,_,.nil=>⟨[],rfl,rfl,fun _ h=>(by cases h)⟩
 | _,_,_,.cons (d:=d) (v:=v) (L:=L) r rs=>by
  obtain ⟨ws,h1,h2,h3⟩:=Reps.split rs
  refine ⟨⟨d,v,L,.z⟩ :: ws,by simp [h1],by simp [h2],fun w hw=>?_⟩
  rcases vx.mp hw with h | h
  ·subst h;exact ⟨rfl,r,fun c hc=>vv _ hc⟩
  ·exact ⟨(h3 w h).1,(h3 w h).2.1,fun c hc=>vw _ ((h3 w h).2.2 c hc)⟩
theorem Wf.pushAll:∀ {ws:List It3} {T:List It3},Wf K G H σ ρ T g->(∀ w ∈ ws,w.f=.z/\Rep K H w.d w.v w.L/\∀ c ∈ w.L,cy T g c/\(G.H0 c=none\/G.src c))->Wf K G H σ ρ (ws ++ T) g
 | [],T,w,_=>w
 | x :: ws,T,w,h=>by
  have w1:=Wf.pushAll (ws:=ws) w fun y hy=>h y (vp _ hy)
  obtain ⟨hz,hr,hc⟩:=h x vo
  refine w1.push (Ks:=fun c=>c ∈ x.L) ⟨Same.refl _,hr,fun c h=>.inr h,fun q=>absurd hz q⟩ fun c m=>⟨⟨(hc c m).1.1,fun y hy hf=>?_⟩,(hc c m).2⟩
  rcases vA.mp hy with q | q
  ·exact absurd (h y (vp _ q)).1 hf
  ·exact (hc c m).1.2 y q hf
set_option tactic.hygienic true in
theorem sk {pr:Nat->Bool} {n:Nat} {tgs:TGs} {bs:List D->Sto->Option Sto} (h2:qx K pr tgs bs):Bnd K pr (gTup K n tgs) (lK n bs):=fun G H σ ρ ρ1 T g w Q hpr hz wf e q=>by
 have r:=(wf.okT w vo).rep
 obtain ⟨d,v,L,f⟩:=w
 cases r with
 | @tup xs a vs _ hs rs =>
  have e:(if xs.length=n then bs xs ρ else none)=some ρ1:=e
  split at e
  ·rename_i hl
   obtain ⟨ws,h1,h3,h4⟩:=Reps.split rs
   refine ⟨a,vs,rfl,SqT.of hs,?_,?_⟩
   ·rw [<- h3,vC,<- hl,<- h1,vC]
   ·have w1:Wf K G H σ ρ (ws ++ (⟨.tup xs,.ref a,L,f⟩ :: T)) g:=wf.pushAll fun u hu=>⟨(h4 u hu).1,(h4 u hu).2.1,fun c hc=>⟨wf.kid (y:=⟨.tup xs,.ref a,L,f⟩) (.inr vo) ((h4 u hu).2.2 c hc) fun hf=>absurd hz hf,(wf.okT _ vo).src c ((h4 u hu).2.2 c hc)⟩⟩
    have w2:Wf K G H σ ρ (ws ++ T) g:=w1.sub ((List.Sublist.refl ws).append (List.sublist_cons_self _ _))
    rw [<- h3]
    exact h2 G H σ ρ ρ1 T g ws Q hpr (fun u hu=>(h4 u hu).1) w2 (by rw [h1];exact e) q
  ·exact nsE e
 | non=>exact nsE e
 | bl b=>exact nsE e
 | int i=>exact nsE e
 | str s=>exact nsE e
 | lst _ _=>exact nsE e
 | lstF _ _=>exact nsE e
 | dK _ _ _=>exact nsE e
 | dT _ _ _=>exact nsE e
 | exc _ _=>exact nsE e
noncomputable def c8 (bnd:D->Sto->Option Sto) (b:SM):List D->SM
 | []=>bb .nx
 | d :: ds=>fun ρ=>match bnd d ρ with
  | none=>none
  | some ρ1=>ac b (fun f=>match f with
   | .nx=>c8 bnd b ds
   | .ct=>c8 bnd b ds
   | .br=>bb .nx
   | .rt d f=>bb (.rt d f)) ρ1
noncomputable def cZ (im:IM) (bnd:D->Sto->Option Sto) (b:SM):SM:=ac im fun p=>fun ρ=>(c8 bnd b p.2 (aB ci (us ρ (pls p.1)) ρ)).map fun r=>(r.1,aB dL (us ρ (pls p.1)) r.2)
theorem us_u {is:List Nat} (w:Wf K G H σ ρ T g):∀ i ∈ us ρ is,∀ y,g i=some y->y.f=.u:=fun i hi y ey=>by
 have h:=(vZ.mp hi).2
 have s:=w.sl i
 rw [ey] at s
 have s:some (y.d,y.f)=(ρ[i]?).join:=s
 rw [<- s] at h
 cases hf:y.f with
 | u=>rfl
 | l=>rw [hf] at h;cases h
 | z=>rw [hf] at h;cases h
theorem og {is:List Nat} {i:Nat} (w:Wf K G H σ ρ T g) (hi:i ∈ is) (ey:g i=some y) (hf:y.f=.u):i ∈ us ρ is:=by
 refine vZ.mpr ⟨hi,?_⟩
 have s:=w.sl i
 rw [ey] at s
 have s:some (y.d,y.f)=(ρ[i]?).join:=s
 rw [<- s,hf]
theorem tz {im:IM} {bnd:D->Sto->Option Sto} {b:SM} {tg:TG} {E:Ends} (hb:Bnd K G0.pr tg bnd) (h:tS K G0 W0 (cZ im bnd b) E σ H):tFor (tI K G0 W0 im) tg (tS K G0 W0 b) E σ H:=by
 refine h.use fun G W le ρ T g r ρ' w e q=>?_
 refine tI.seq le w e q.err fun p ρ1 e1=>?_
 intro J H1 vs Ts g1 ys w1 a1 hys hw
 have his:=us_u (is:=pls p.1) w1
 have hus:∀ i y,i ∈ pls p.1->g1 i=some y->y.f=.u->i ∈ us ρ1 (pls p.1):=fun i y hi ey hf=>og w1 hi ey hf
 generalize us ρ1 (pls p.1)=is at e1 his hus
 have w2:=w1.enter is
 obtain ⟨els,hels,walk⟩:=hw
 have hM:∀ b,(∃ j y,j ∉ is/\g1 j=some y/\y.f=.u/\y.v=.ref b)->MutAt H1 b:=fun b ⟨j,y,_,ey,hf,hv⟩=>by
  obtain ⟨_,a,L',v1,v2,_⟩:=(w1.okS j y ey).own (by rw [hf];intro q;cases q)
  rw [hv] at v1;cases v1
  exact (w1.okS j y ey).rep.inH b (by rw [v2];exact vo)
 have hysM:∀ y ∈ ys,∀ b ∈ y.L,¬ ∃ j y,j ∉ is/\g1 j=some y/\y.f=.u/\y.v=.ref b:=fun y hy b hb ⟨j,y',nj,ey',hf,hv⟩=>by
  have hfz:y'.f ≠ .z:=by rw [hf];intro q;cases q
  rcases hys y hy with ⟨i,hi,ei⟩ | hy
  ·by_cases ij:i=j
   ·subst ij
    rw [ei] at ey';cases ey'
    exact nj (hus i y hi ei hf)
   ·exact w1.ss j i y' y (Ne.symm ij) ey' ei hfz b hv hb
  ·exact (w1.st j y' ey' y (vv _ hy)).1 hfz b hv hb
 have hitm:∀ y ∈ ys,Itm (Ts ++ T) g1 y:=fun y hy=>by
  rcases hys y hy with ⟨i,_,ei⟩ | h
  ·exact .inl ⟨i,ei⟩
  ·exact .inr (vv _ h)
 have kid:∀ x ∈ els,∀ c ∈ x.L,cy ((Ts ++ T).map aX) (fun j=>if j ∈ is then (g1 j).map aX else g1 j) c/\(H1 c=none\/(G.H0 c=none\/G.src c)):=fun x hx c hc=>by
  obtain ⟨nr,sr⟩:=w1.kids hitm ((hels x hx).2.2 c hc)
  refine ⟨⟨fun i z ez hf hv=>?_,fun z hz hf hv=>?_⟩,.inr sr⟩
  ·have ez:(if i ∈ is then (g1 i).map aX else g1 i)=some z:=ez
   by_cases q:i ∈ is
   ·rw [if_pos q] at ez
    obtain ⟨z0,e0,e1⟩:=vt.mp ez
    subst e1
    exact nr.1 i z0 e0 (fun q=>hf (lentF_z.mpr q)) hv
   ·rw [if_neg q] at ez
    exact nr.1 i z ez hf hv
  ·obtain ⟨z0,h0,rfl⟩:=vG.mp hz
   exact nr.2 z0 h0 (fun q=>hf (lentF_z.mpr q)) hv
 have w3:Wf K (cJ G H1 g1 is) H1 σ (aB ci is ρ1) (els ++ (Ts ++ T).map aX) (fun j=>if j ∈ is then (g1 j).map aX else g1 j):=w2.pushAll fun x hx=>⟨(hels x hx).1,(hels x hx).2.1,fun c hc=>kid x hx c hc⟩
 cases e2:c8 bnd b p.2 (aB ci is ρ1) with
 | none=>rw [e2] at e1;exact nsE e1
 | some rr =>
  obtain ⟨r2,ρ3⟩:=rr
  rw [e2] at e1
  have er:r2=r/\aB dL is ρ3 = ρ':=by cases e1;exact ⟨rfl,rfl⟩
  obtain ⟨rfl,eρ⟩:=er
  have leave:∀ {σ':St} {H':Hp} {ρ2:Sto} {g2:Nat->Option It3} {R:List It3},Wf K (cJ G H1 g1 is) H' σ' ρ2 (R ++ (els ++ (Ts ++ T).map aX)) g2->∃ g3,Wf K G H' σ' (aB dL is ρ2) (R ++ T) g3:=fun {σ' H' ρ2 g2 R} w4 =>
   ⟨_,Wf.leave (T:=Ts ++ T) (T':=T) (R:=R) w1 his (vF Ts T) (w4.sub ((List.Sublist.refl R).append (by
    rw [List.map_append]
    exact (vF (Ts.map aX) (T.map aX)).trans (vF els _))))⟩
  have le1:Le K (cJ G H1 g1 is) (fun e ρ2=>W e (aB dL is ρ2)) G W:=⟨rfl,fun H' σ' ρ2 T2 g2 e w4 he=>by
   obtain ⟨g3,w5⟩:=rU w1 his H' σ' ρ2 T2 g2 w4
   exact ⟨_,[],g3,w5,he⟩⟩
  have le':Le K (cJ G H1 g1 is) (fun e ρ2=>W e (aB dL is ρ2)) G0 W0:=le1.trans le
  refine ⟨fun k m σ' H'=>k<=p.2.length/\m=p.2.length - k/\∃ ρ2 g2,Wf K (cJ G H1 g1 is) H' σ' ρ2 (els ++ (Ts ++ T).map aX) g2/\c8 bnd b (p.2.drop k) ρ2=some (r2,ρ3),⟨_,Nat.zero_le _,rfl,_,_,w3,e2⟩,?_⟩
  rintro k m σ' H' ⟨hk,rfl,ρ2,g2,w4,e4⟩
  obtain ⟨wgo,wstop⟩:=walk _ H' hM (fun b o hb hn=>w4.base b o hb hn) hysM
  by_cases hlt:k < p.2.length
  ·obtain ⟨d,hd⟩:∃ d,p.2[k]?=some d:=⟨_,vy hlt⟩
   have hdrop:p.2.drop k=d :: p.2.drop (k+1):=by
    rw [List.drop_eq_getElem_cons hlt]
    rw [vy hlt] at hd
    cases hd;rfl
   rw [hdrop] at e4
   obtain ⟨go,yld⟩:=wgo k d hd
   refine .inr ⟨go,fun σ5 H5=>∃ ρ5 g5,Wf K (cJ G H1 g1 is) H5 σ5 ρ5 (els ++ (Ts ++ T).map aX) g5/\c8 bnd b (p.2.drop (k+1)) ρ5=some (r2,ρ3),fun σ5 H5 ⟨ρ5,g5,w5,e5⟩=>⟨p.2.length - (k+1),by omega,hlt,rfl,ρ5,g5,w5,e5⟩,fun x H'' hy=>?_⟩
   obtain ⟨u,nu,ud,uf,uv⟩:=yld x H'' hy
   have w5:Wf K (cJ G H1 g1 is) H'' σ' ρ2 (u :: (els ++ (Ts ++ T).map aX)) g2:=w4.push nu fun c hc=>w4.alls (ys:=els) (fun y hy=>⟨.inr (vv _ hy),(hels y hy).1⟩) hc
   have e5:(match bnd d ρ2 with
    | none=>none
    | some ρ1=>ac b (fun f=>match f with
     | .nx=>c8 bnd b (p.2.drop (k+1))
     | .ct=>c8 bnd b (p.2.drop (k+1))
     | .br=>bb .nx
     | .rt d f=>bb (.rt d f)) ρ1)=some (r2,ρ3):=e4
   cases e6:bnd d ρ2 with
   | none=>rw [e6] at e5;exact nsE e5
   | some ρ6 =>
    rw [e6] at e5
    dsimp only at e5
    rw [<- uv]
    refine hb (cJ G H1 g1 is) H'' σ' ρ2 ρ6 _ g2 u _ le.pr uf w5 (by rw [ud];exact e6) fun σ6 g6 w6=>?_
    unfold ac at e5
    cases e7:b ρ6 with
    | none=>rw [e7] at e5;exact nsE e5
    | some pr7 =>
     obtain ⟨o7,ρ7⟩:=pr7
     rw [e7] at e5
     cases o7 with
     | error er =>
      cases e5
      refine tS.mk (r:=.error er) le' w6 e7 ?_
      show W er (aB dL is _)
      rw [eρ];exact q
     | ok f =>
      cases f with
      | nx=>exact tS.mk (r:=.ok .nx) le' w6 e7 fun σ8 H8 g8 w8=>⟨ρ7,g8,w8,e5⟩
      | ct=>exact tS.mk (r:=.ok .ct) le' w6 e7 fun σ8 H8 g8 w8=>⟨ρ7,g8,w8,e5⟩
      | br =>
       cases e5
       refine tS.mk (r:=.ok .br) le' w6 e7 fun σ8 H8 g8 w8=>?_
       obtain ⟨g9,w9⟩:=leave (R:=[]) w8
       rw [eρ] at w9
       exact q _ _ _ w9
      | rt d' f' =>
       cases e5
       refine tS.mk (r:=.ok (.rt d' f')) le' w6 e7 fun x8 σ8 H8 g8 w8 x1 x2=>?_
       obtain ⟨g9,w9⟩:=leave (R:=[x8]) w8
       rw [eρ] at w9
       exact q x8 _ _ _ w9 x1 x2
  ·have ek:k=p.2.length:=by omega
   subst ek
   rw [List.drop_length] at e4
   cases e4
   obtain ⟨g9,w9⟩:=leave (R:=[]) w4
   rw [eρ] at w9
   exact .inl ⟨wstop,q _ _ _ w9⟩
end
end L3
end
section
namespace L3
open PySem L2
noncomputable def nP (ix:List (Option Nat)) (ρ:Sto):Sto:=ix.map fun o=>match o with
 | some i=>(ρ[i]?).join
 | none=>none
noncomputable def uncap:List (Option Nat)->Sto->Sto->Option Sto
 | [],_,ρ=>some ρ
 | none :: ix,τ,ρ=>uncap ix τ.tail ρ
 | some i :: ix,τ,ρ=>match (ρ[i]?).join,τ.head? with
  | some (_,f),some (some (d',f'))=>if f'=f\/f'=.z then uncap ix τ.tail (ρ.set i (some (d',f'))) else none
  | _,_=>none
noncomputable def bU (bnd:D->Sto->Option Sto) (c:M3 Bool) (elt:EM):List D->M3 (List D)
 | []=>bb []
 | d :: ds=>fun τ=>match bnd d τ with
  | none=>none
  | some τ1=>ac c (fun b=>if b then ac elt (fun r=>ac (dN r) fun p=>ac (bU bnd c elt ds) fun l=>bb (p.1 :: l)) else bU bnd c elt ds) τ1
noncomputable def cr (im:IM) (bnd:D->Sto->Option Sto) (c:M3 Bool) (elt:EM) (ix:List (Option Nat)):EM:=ac im fun p=>fun ρ =>
 match bU bnd c elt p.2 (nP ix (aB ci (us ρ (pls p.1)) ρ)) with
 | some (.ok ds,τ)=>if p.2.length < 16777216 then (uncap ix τ (aB ci (us ρ (pls p.1)) ρ)).map fun ρ2=>(.ok (.val (.lst ds) .u),aB dL (us ρ (pls p.1)) ρ2) else none
 | _=>none
section
variable {K:FG} {G G0:Gm} {W W0:D->Sto->Prop} {H H':Hp} {σ τ:St} {ρ ρ':Sto} {T T':List It3} {g:Nat->Option It3} {x y z:It3} {α β:Type} {ix:List (Option Nat)}
noncomputable def Inj (ix:List (Option Nat)):Prop:=∀ (j k i:Nat),ix[j]?=some (some i)->ix[k]?=some (some i)->j=k
noncomputable def sd (ix:List (Option Nat)) (g:Nat->Option It3) (j:Nat):Option It3:=(ix[j]?).join.bind g
noncomputable def lb (ix:List (Option Nat)) (n:Nat) (g:Nat->Option It3):List It3:=(List.range n).filterMap fun i=>if some i ∈ ix then none else g i
noncomputable def qf (G:Gm) (ix:List (Option Nat)) (σ:St):Gm:=⟨G.H0,G.bw,fun j=>((ix[j]?).join).isSome,cap ix σ,fun _=>none,G.src,fun j=>(ix[j]?).join.bind G.lv⟩
theorem cz {j:Nat} (h:sd ix g j=some x):∃ i,ix[j]?=some (some i)/\g i=some x:=by
 unfold sd at h
 cases e:ix[j]? with
 | none=>rw [e] at h;exact nsE h
 | some o =>
  rw [e] at h
  cases o with
  | none=>exact nsE h
  | some i=>exact ⟨i,rfl,h⟩
set_option tactic.hygienic true in
theorem gO {n:Nat} (h:x ∈ lb ix n g):∃ i,some i ∉ ix/\g i=some x:=by
 obtain ⟨i,_,e⟩:=List.mem_filterMap.mp h
 split at e
 ·exact nsE e
 ·rename_i hn;exact ⟨i,hn,e⟩
theorem ph {n i:Nat} (hi:i < n) (hn:some i ∉ ix) (e:g i=some x):x ∈ lb ix n g:=List.mem_filterMap.mpr ⟨i,List.mem_range.mpr hi,by rw [if_neg hn];exact e⟩
theorem Wf.cap (w:Wf K G H σ ρ T g) (hij:Inj ix):Wf K (qf G ix σ) H (cap ix σ) (nP ix ρ) (lb ix ρ.length g ++ T) (sd ix g):=by
 have ne:∀ {i j:Nat},ix[j]?=some (some i)->∀ k,some k ∉ ix->i ≠ k:=fun e k hk q=>hk (by rw [<- q];exact vE e)
 refine ⟨by unfold L2.cap nP;rw [vC,vC],fun j=>?_,fun j x h=>?_,fun j x h=>?_,fun x hx=>?_,fun j k x y n hx hy=>?_,fun j x h y hy=>?_,?_,w.base,fun _ _=>rfl,⟨fun _ _ _ _ _=>rfl,fun _ _ _ _ _ _ _=>rfl,w.fx.bin,fun b o e=>(by cases e),fun j x h hl=>?_⟩⟩
 ·unfold sd nP
  rw [vH]
  cases e:ix[j]? with
  | none=>rfl
  | some o =>
   cases o with
   | none=>rfl
   | some i=>exact w.sl i
 ·obtain ⟨i,e1,e2⟩:=cz h
  unfold L2.cap
  rw [vH,e1]
  show some ((σ[i]?).getD none)=_
  rw [w.sv i x e2];rfl
 ·obtain ⟨i,_,e2⟩:=cz h
  have ok:=w.okS i x e2
  exact ⟨ok.rep,ok.own,ok.src⟩
 ·rcases vA.mp hx with h | h
  ·obtain ⟨i,_,e⟩:=gO h
   have ok:=w.okS i x e
   exact ⟨ok.rep,ok.own,ok.src⟩
  ·have ok:=w.okT x h
   exact ⟨ok.rep,ok.own,ok.src⟩
 ·obtain ⟨i,e1,e2⟩:=cz hx
  obtain ⟨i',e3,e4⟩:=cz hy
  exact w.ss i i' x y (fun q=>n (hij j k i e1 (q ▸ e3))) e2 e4
 ·obtain ⟨i,e1,e2⟩:=cz h
  rcases vA.mp hy with q | q
  ·obtain ⟨k,hk,e⟩:=gO q
   have:=ne e1 k hk
   exact ⟨w.ss i k x y this e2 e,w.ss k i y x (Ne.symm this) e e2⟩
  ·exact w.st i x e2 y q
 ·refine List.pairwise_append.mpr ⟨?_,w.tt,fun a ha b hb=>?_⟩
  ·unfold lb
   rw [List.pairwise_filterMap]
   refine List.pairwise_lt_range.imp fun {i k} lt a ha b hb=>?_
   have ha':(if some i ∈ ix then none else g i)=some a:=ha
   have hb':(if some k ∈ ix then none else g k)=some b:=hb
   split at ha'
   ·cases ha'
   ·split at hb'
    ·cases hb'
    ·exact ⟨w.ss i k a b (vK lt) ha' hb',w.ss k i b a (Nat.ne_of_gt lt) hb' ha'⟩
  ·obtain ⟨k,hk,e⟩:=gO ha
   exact w.st k a e b hb
 ·obtain ⟨i,e1,e2⟩:=cz h
  show (ix[j]?).join.bind G.lv=_
  rw [e1]
  exact w.fx.lvS i x e2 hl
theorem Wf.perm {T T':List It3} (w:Wf K G H σ ρ T g) (p:T.Perm T'):Wf K G H σ ρ T' g :=
 ⟨w.len,w.sl,w.sv,w.okS,fun x hx=>w.okT x (p.mem_iff.mpr hx),w.ss,fun i x e y hy=>w.st i x e y (p.mem_iff.mpr hy),(p.pairwise_iff fun h=>Apart3.symm h).mp w.tt,w.base,w.pro,w.fx.sub fun x hx=>p.mem_iff.mpr hx⟩
set_option tactic.hygienic true in
theorem eP:∀ {ix:List (Option Nat)} {τ ρ ρ2:Sto},uncap ix τ ρ=some ρ2->Inj ix->ρ2.length = ρ.length/\(∀ i,some i ∉ ix->(ρ2[i]?).join=(ρ[i]?).join) /\
  ∀ (j i:Nat),ix[j]?=some (some i)->∃ p q,(ρ[i]?).join=some p/\(τ[j]?).join=some q/\(ρ2[i]?).join=some q/\(q.2=p.2\/q.2=.z)
 | [],τ,ρ,ρ2,e,_=>by cases e;exact ⟨rfl,fun _ _=>rfl,fun j i h=>by simp at h⟩
 | none :: ix,τ,ρ,ρ2,e,hij=>by
  unfold uncap at e
  obtain ⟨h1,h2,h3⟩:=eP e fun j k i a b=>by
   have:=hij (j+1) (k+1) i (by simpa using a) (by simpa using b)
   omega
  refine ⟨h1,fun i hi=>h2 i fun q=>hi (vp _ q),fun j i h=>?_⟩
  cases j with
  | zero=>simp at h
  | succ j =>
   obtain ⟨p,q,a,b,c⟩:=h3 j i (by simpa using h)
   exact ⟨p,q,a,by rw [List.getElem?_tail] at b;exact b,c⟩
 | some i0 :: ix,τ,ρ,ρ2,e,hij=>by
  unfold uncap at e
  cases e1:(ρ[i0]?).join with
  | none=>rw [e1] at e;exact nsE e
  | some p =>
   obtain ⟨d,f⟩:=p
   cases e2:τ.head? with
   | none=>rw [e1,e2] at e;exact nsE e
   | some o =>
    cases o with
    | none=>rw [e1,e2] at e;exact nsE e
    | some q =>
     obtain ⟨d',f'⟩:=q
     rw [e1,e2] at e
     dsimp only at e
     split at e
     ·rename_i hf
      have hi0:=cx e1
      have no0:some i0 ∉ ix:=fun m=>by
       obtain ⟨k,hk,ek⟩:=List.mem_iff_getElem.mp m
       have:=hij 0 (k+1) i0 rfl (by simp [hk,ek])
       omega
      obtain ⟨h1,h2,h3⟩:=eP e fun j k i a b=>by
       have:=hij (j+1) (k+1) i (by simpa using a) (by simpa using b)
       omega
      refine ⟨by rw [h1,List.length_set],fun i hi=>?_,fun j i h=>?_⟩
      ·rw [h2 i fun q=>hi (vp _ q),bv hi0,if_neg (fun q=>hi (by rw [q];exact vo))]
      ·cases j with
       | zero =>
        simp at h
        subst h
        refine ⟨(d,f),(d',f'),e1,?_,?_,hf⟩
        ·rw [List.head?_eq_getElem?] at e2;rw [e2];rfl
        ·rw [h2 i0 no0,bv hi0,if_pos rfl]
       | succ j =>
        have hji:ix[j]?=some (some i):=by simpa using h
        obtain ⟨p,q,a,b,c⟩:=h3 j i hji
        have ii:i ≠ i0:=fun z=>no0 (by rw [<- z];exact vE hji)
        rw [bv hi0,if_neg ii] at a
        exact ⟨p,q,a,by rw [List.getElem?_tail] at b;exact b,c⟩
     ·exact nsE e
theorem Wf.uncap {τ':St} {τρ ρ2:Sto} {gC:Nat->Option It3} {R:List It3} (w:Wf K G H σ ρ T g) (hH:∀ b o,H b=some o->G.H0 b=some o) (hij:Inj ix) (e:L3.uncap ix τρ ρ=some ρ2) (hR:∀ x ∈ R,x.f=.z) (w2:Wf K (qf G ix σ) H' τ' τρ (R ++ (lb ix ρ.length g ++ T)) gC) :
  ∃ g2,Wf K G H' σ ρ2 (R ++ T) g2:=by
 obtain ⟨hl,h2,h3⟩:=eP e hij
 let inv (i:Nat):Option Nat:=(List.range ix.length).find? fun j=>decide (ix[j]?=some (some i))
 have inv_some:∀ i j,inv i=some j->ix[j]?=some (some i):=fun i j h=>by simpa using List.find?_some h
 have inv_none:∀ i,inv i=none->some i ∉ ix:=fun i h m=>by
  obtain ⟨k,hk,ek⟩:=List.mem_iff_getElem.mp m
  have:=List.find?_eq_none.mp h k (List.mem_range.mpr hk)
  simp [hk,ek] at this
 let g2 (i:Nat):Option It3:=match inv i with | some j=>gC j | none=>g i
 have val:∀ i u,g2 i=some u->(∃ j p q,ix[j]?=some (some i)/\gC j=some u/\(ρ[i]?).join=some p/\(τρ[j]?).join=some q/\(q.2=p.2\/q.2=.z))\/(some i ∉ ix/\g i=some u):=fun i u h=>by
  have h':(match inv i with | some j=>gC j | none=>g i)=some u:=h
  cases ei:inv i with
  | none=>rw [ei] at h';exact .inr ⟨inv_none i ei,h'⟩
  | some j =>
   rw [ei] at h'
   obtain ⟨p,q,a,b,_,c⟩:=h3 j i (inv_some i j ei)
   exact .inl ⟨j,p,q,inv_some i j ei,h',a,b,c⟩
 have out:∀ i u,some i ∉ ix->g i=some u->u ∈ lb ix ρ.length g:=fun i u hn e=>by
  have s:=w.sl i
  rw [e] at s
  exact ph (cx s.symm) hn e
 have back:∀ i j u,ix[j]?=some (some i)->gC j=some u->σ[i]?=some (some u.v):=fun i j u ej eu=>by
  have a:=w2.sv j u eu
  have b:=w2.pro j (by show ((ix[j]?).join).isSome=true;rw [ej];rfl)
  rw [a] at b
  have b:some (some u.v)=(L2.cap ix σ)[j]?:=b
  unfold L2.cap at b
  rw [vH,ej] at b
  have b:some (some u.v)=some ((σ[i]?).getD none):=b
  cases q:σ[i]? with
  | none=>rw [q] at b;cases b
  | some o=>rw [q] at b;cases b;rfl
 have was:∀ i j u p q,ix[j]?=some (some i)->gC j=some u->(ρ[i]?).join=some p->(τρ[j]?).join=some q->(q.2=p.2\/q.2=.z)->∃ y,g i=some y/\y.v=u.v/\(u.f=y.f\/u.f=.z):=fun i j u p q ej eu ep eq hf=>by
  obtain ⟨y,y1,y2,y3,y4⟩:=w.slot (d:=p.1) (f:=p.2) ep
  have b:=back i j u ej eu
  rw [y4] at b
  have s:=w2.sl j
  rw [eu,eq] at s
  have s:some (u.d,u.f)=some q:=s
  refine ⟨y,y1,by injection b with b;injection b,?_⟩
  rw [y3,show u.f=q.2 by injection s with s;rw [<- s]]
  exact hf
 refine ⟨g2,⟨by rw [hl];exact w.len,fun i=>?_,fun i u h=>?_,fun i u h=>?_,fun u hu=>?_,fun i k a b n ha hb=>?_,fun i a h b hb=>?_,w2.tt.sublist ((List.Sublist.refl R).append (vF _ T)),w2.base,w.pro,⟨fun u hu hf=>?_,fun i u h hp hf a ea=>?_,w2.fx.bin,fun b o hb=>?_,fun i u h hl=>?_⟩⟩⟩
 ·show (match inv i with | some j=>gC j | none=>g i).map _=_
  cases ei:inv i with
  | none=>rw [h2 i (inv_none i ei)];exact w.sl i
  | some j =>
   obtain ⟨p,q,a,b,c,_⟩:=h3 j i (inv_some i j ei)
   rw [c,<- b];exact w2.sl j
 ·rcases val i u h with ⟨j,p,q,ej,eu,_⟩ | ⟨hn,e⟩
  ·exact back i j u ej eu
  ·exact w.sv i u e
 ·rcases val i u h with ⟨j,p,q,ej,eu,_⟩ | ⟨hn,e⟩
  ·have ok:=w2.okS j u eu
   exact ⟨ok.rep,ok.own,ok.src⟩
  ·have ok:=w2.okT u (vw _ (vv _ (out i u hn e)))
   exact ⟨ok.rep,ok.own,ok.src⟩
 ·have ok:=w2.okT u (by
   rcases vA.mp hu with q | q
   ·exact vv _ q
   ·exact vw _ (vw _ q))
  exact ⟨ok.rep,ok.own,ok.src⟩
 ·rcases val i a ha with ⟨j,p,q,ej,eu,_⟩ | ⟨hn,e⟩
  ·rcases val k b hb with ⟨j',p',q',ej',eu',_⟩ | ⟨hn',e'⟩
   ·exact w2.ss j j' a b (fun z=>n (by subst z;rw [ej] at ej';injection ej' with z;injection z)) eu eu'
   ·exact (w2.st j a eu b (vw _ (vv _ (out k b hn' e')))).1
  ·rcases val k b hb with ⟨j',p',q',ej',eu',_⟩ | ⟨hn',e'⟩
   ·exact (w2.st j' b eu' a (vw _ (vv _ (out i a hn e)))).2
   ·exact w.ss i k a b n e e'
 ·have hb':b ∈ R ++ (lb ix ρ.length g ++ T):=by
   rcases vA.mp hb with q | q
   ·exact vv _ q
   ·exact vw _ (vw _ q)
  rcases val i a h with ⟨j,p,q,ej,eu,_⟩ | ⟨hn,e⟩
  ·exact w2.st j a eu b hb'
  ·rcases vA.mp hb with q | q
   ·exact ((List.pairwise_append.mp w2.tt).2.2 b q a (vv _ (out i a hn e))).symm
   ·exact w.st i a e b q
 ·rcases vA.mp hu with q | q
  ·exact absurd (hR u q) hf
  ·exact w.fx.frT u q hf
 ·rcases val i u h with ⟨j,p,q,ej,eu,ep,eq,hc⟩ | ⟨hn,e⟩
  ·obtain ⟨y,y1,y2,y3⟩:=was i j u p q ej eu ep eq hc
   refine w.fx.frS i y y1 hp (fun z=>hf ?_) a (by rw [y2];exact ea)
   rcases y3 with h | h
   ·rw [h];exact z
   ·exact h
  ·exact w.fx.frS i u e hp hf a ea
 ·obtain ⟨o',ho⟩:=w.fx.ob b o hb
  have h0:=hH b o' ho
  by_cases q:G.bw b
  ·exact w2.fx.bin b q
  ·exact ⟨o',w2.base b o' h0 q⟩
 ·rcases val i u h with ⟨j,p,q,ej,eu,ep,eq,hc⟩ | ⟨hn,e⟩
  ·obtain ⟨y,y1,y2,y3⟩:=was i j u p q ej eu ep eq hc
   rw [<- y2]
   refine w.fx.lvS i y y1 ?_
   rcases y3 with h | h
   ·rw [<- h];exact hl
   ·rw [h] at hl;cases hl
  ·exact w.fx.lvS i u e hl
theorem nM {J:It} {H1:Hp} {ys els:List It3} {ds:List D} {bnd:D->Sto->Option Sto} {c:M3 Bool} {elt:EM} {tg:TG} {tc:TT} {te:TE} {Gc:Gm} {Rst:List It3} {ds':List D} {τρ τρ':Sto} {gC:Nat->Option It3} {Z:List V->Hp->Prop} {M:Addr->Prop}
  (hz:(16777216:Nat)=sizeLine) (hel:∀ x ∈ els,x ∈ Rst/\x.f=.z)
  (hgo:∀ H',(∀ b o,H1 b=some o->¬ Gc.bw b->H' b=some o)->(∀ (i:Nat) (d:D),ds[i]?=some d->J.go i H'/\∀ x H'',J.yld i H' x H''->∃ w,New K H' H'' (cv els) w/\w.d=d/\w.f=.z/\w.v=x)/\J.stop ds.length H')
  (h0:Gc.H0=H1) (hb:Bnd K Gc.pr tg bnd) (htc:∀ σ H Q,tT K Gc (fun _ _=>False) c σ H Q->tc σ H Q) (hte:∀ σ H Q,tE K Gc (fun _ _=>False) elt σ H Q->te σ H Q)
  (hlen:ds.length < 16777216) (w:Wf K Gc H1 τ τρ Rst gC) (e:bU bnd c elt ds τρ=some (.ok ds',τρ'))
  (hZ:∀ (us:List It3) (τ':St) (H':Hp) (g':Nat->Option It3),(∀ x ∈ us,x.f=.z)->us.map (·.d)=ds'->Wf K Gc H' τ' τρ' (us ++ Rst) g'->Z (us.map (·.v)) H'):mL J tg tc te Z τ H1:=by
 refine ⟨fun i m vs τ' H'=>i<=ds.length/\m=ds.length - i/\vs.length<=i/\∃ (us:List It3) (ρ2:Sto) (g2:Nat->Option It3) (r:List D),(∀ x ∈ us,x.f=.z)/\us.map (·.v)=vs/\Wf K Gc H' τ' ρ2 (us ++ Rst) g2/\bU bnd c elt (ds.drop i) ρ2=some (.ok r,τρ')/\us.map (·.d) ++ r=ds',⟨_,Nat.zero_le _,rfl,vI _,[],τρ,gC,ds',fun _ h=>(by cases h),rfl,w,e,rfl⟩,?_⟩
 rintro i m vs τ1 H2 ⟨hi,rfl,hvl,us,ρ2,g2,r,huz,huv,w2,e2,hds⟩
 refine ⟨by omega,?_⟩
 obtain ⟨wgo,wstop⟩:=hgo H2 fun b o hb' hn=>w2.base b o (by rw [h0];exact hb') hn
 by_cases hlt:i < ds.length
 ·obtain ⟨d,hd⟩:∃ d,ds[i]?=some d:=⟨_,vy hlt⟩
  have hdrop:ds.drop i=d :: ds.drop (i+1):=by
   rw [List.drop_eq_getElem_cons hlt]
   rw [vy hlt] at hd
   cases hd;rfl
  rw [hdrop] at e2
  obtain ⟨go,yld⟩:=wgo i d hd
  refine .inr ⟨go,fun vs5 τ5 H5=>vs5.length<=i+1/\∃ (us:List It3) (ρ5:Sto) (g5:Nat->Option It3) (r:List D),(∀ x ∈ us,x.f=.z)/\us.map (·.v)=vs5/\Wf K Gc H5 τ5 ρ5 (us ++ Rst) g5/\bU bnd c elt (ds.drop (i+1)) ρ5=some (.ok r,τρ')/\us.map (·.d) ++ r=ds',
   fun vs5 τ5 H5 ⟨hl5,h5⟩=>⟨ds.length - (i+1),by omega,hlt,rfl,hl5,h5⟩,fun x H'' hy=>?_⟩
  obtain ⟨u,nu,ud,uf,uv⟩:=yld x H'' hy
  have w3:Wf K Gc H'' τ1 ρ2 (u :: (us ++ Rst)) g2:=w2.push nu fun c hc=>w2.alls (ys:=els) (fun y hy=>⟨.inr (vw _ (hel y hy).1),(hel y hy).2⟩) hc
  have e3:(match bnd d ρ2 with
   | none=>none
   | some τ1=>ac c (fun b=>if b then ac elt (fun r=>ac (dN r) fun p=>ac (bU bnd c elt (ds.drop (i+1))) fun l=>bb (p.1 :: l)) else bU bnd c elt (ds.drop (i+1))) τ1)=some (.ok r,τρ'):=e2
  cases e4:bnd d ρ2 with
  | none=>rw [e4] at e3;exact nsE e3
  | some ρ3 =>
   rw [e4] at e3
   dsimp only at e3
   rw [<- uv]
   refine hb Gc H'' τ1 ρ2 ρ3 _ g2 u _ rfl uf w3 (by rw [ud];exact e4) fun τ4 g4 w4=>?_
   refine htc _ _ _ (tT.seq (Le.refl K Gc _) w4 e3 (fun x hx=>by cases hx) fun b ρ5 e5 H5 g5 w5=>?_)
   cases b with
   | false =>
    simp only [vY,if_false] at e5 ⊢
    exact ⟨by omega,us,ρ5,g5,r,huz,huv,w5,e5,hds⟩
   | true =>
    simp only [if_true] at e5 ⊢
    refine hte _ _ _ (tE.seq (Le.refl K Gc _) w5 e5 (fun x hx=>by cases hx) fun ra ρ6 e6 v H6 ⟨Ts,g6,w6,a6⟩=>?_)
    obtain ⟨p,ρ7,g7,x7,e7,w7,f1,f2,_,f3⟩:=a6.take w6 e6
    have w8:=Wf.lowT (Ts:=[x7]) w7
    unfold ac at e7
    cases e8:bU bnd c elt (ds.drop (i+1)) ρ7 with
    | none=>rw [e8] at e7;exact nsE e7
    | some pr =>
     obtain ⟨o,ρ8⟩:=pr
     rw [e8] at e7
     cases o with
     | error x=>cases e7
     | ok l =>
      cases e7
      refine ⟨by rw [vS];simp;omega,us ++ [cn x7],ρ7,g7,l,fun y hy=>?_,by rw [List.map_append,huv,<- f3];rfl,?_,e8,?_⟩
      ·rcases vA.mp hy with h | h
       ·exact huz y h
       ·rw [vX.mp h];rfl
      ·exact w8.perm (by
        show ([cn x7] ++ (us ++ Rst)).Perm (us ++ [cn x7] ++ Rst)
        rw [<- List.append_assoc]
        exact (List.perm_append_comm).append_right Rst)
      ·rw [List.map_append,List.append_assoc]
       show us.map (·.d) ++ ((cn x7).d :: l)=ds'
       rw [show (cn x7).d=p.1 from f1]
       exact hds
 ·have ei:i=ds.length:=by omega
  subst ei
  rw [List.drop_length] at e2
  cases e2
  rw [List.append_nil] at hds
  subst huv
  exact .inl ⟨wstop,hZ us τ1 H2 g2 huz hds w2⟩
end
end L3
end
section
namespace L3
open PySem L2
section
variable {K:FG} {G G0:Gm} {W W0:D->Sto->Prop} {H H':Hp} {σ τ:St} {ρ ρ':Sto} {T T':List It3} {g:Nat->Option It3} {x y z:It3} {α β:Type} {ix:List (Option Nat)}
noncomputable def bW (ix:List (Option Nat)):Gm:=⟨fun _=>none,fun _=>False,fun j=>((ix[j]?).join).isSome,[],fun _=>none,fun _=>False,fun _=>none⟩
noncomputable abbrev noX:D->Sto->Prop:=fun _ _=>False
theorem mj {G1:Gm} (h:G1.pr=(bW ix).pr) (le:Le K G W G1 noX):Le K G W (bW ix) noX:=⟨le.pr.trans h,fun H σ ρ T g e w q=>by
 obtain ⟨_,_,_,_,f⟩:=le.ex H σ ρ T g e w q
 exact f.elim⟩
theorem qG {G1:Gm} {m:EM} {Q:VK} (h:G1.pr=(bW ix).pr) (q:tE K G1 noX m σ H Q):tE K (bW ix) noX m σ H Q:=by
 obtain ⟨G,W,le,r⟩:=q
 exact ⟨G,W,mj h le,r⟩
theorem qC {G1:Gm} {m:M3 Bool} {Q:Bool->Hp->Prop} (h:G1.pr=(bW ix).pr) (q:tT K G1 noX m σ H Q):tT K (bW ix) noX m σ H Q:=by
 obtain ⟨G,W,le,r⟩:=q
 exact ⟨G,W,mj h le,r⟩
noncomputable def fI:M3 Bool:=bb true
theorem sZ {Q:Bool->Hp->Prop} (h:tT K G0 W0 fI σ H Q):tYes σ H Q:=by
 refine h.use fun G W le ρ T g o ρ' w e q=>?_
 cases e
 exact q _ _ w
set_option tactic.hygienic true in
theorem fR {bnd:D->Sto->Option Sto} {c:M3 Bool} {elt:EM}:∀ {ds ds':List D} {τρ τρ':Sto},bU bnd c elt ds τρ=some (.ok ds',τρ')->ds'.length<=ds.length
 | [],ds',τρ,τρ',e=>by cases e;exact vI _
 | d :: ds,ds',τρ,τρ',e=>by
  unfold bU at e
  split at e
  ·exact nsE e
  ·rename_i τ1 _
   unfold ac at e
   split at e
   ·exact nsE e
   ·cases e
   ·rename_i b τ2 _
    cases b with
    | false =>
     simp only [vY,if_false] at e
     have:=fR e
     simp;omega
    | true =>
     simp only [if_true] at e
     split at e
     ·exact nsE e
     ·cases e
     ·split at e
      ·exact nsE e
      ·cases e
      ·split at e
       ·exact nsE e
       ·cases e
       ·rename_i l τ5 h5
        cases e
        have:=fR h5
        simp;omega
set_option tactic.hygienic true in
theorem qa {im:IM} {bnd:D->Sto->Option Sto} {c:M3 Bool} {elt:EM} {tg:TG} {o:Except D R3} {Z:List V->Hp->Prop} (hz:(16777216:Nat)=sizeLine) (hij:Inj ix) (hb:Bnd K (bW ix).pr tg bnd) (le:Le K G W G0 W0) (w:Wf K G H σ ρ T g) (e:cr im bnd c elt ix ρ=some (o,ρ')) (he:∀ x,o=.error x->W x ρ')
  (hZ:∀ (us:List It3) (H':Hp) (g':Nat->Option It3) (Ts:List It3) (ds:List D),o=.ok (.val (.lst ds) .u)->(∀ x ∈ us,x.f=.z)->us.map (·.d)=ds->us.length<=16777216->Wf K G H' σ ρ' (us ++ T) g'->Z (us.map (·.v)) H') :
  tI K G0 W0 im σ H fun J H1=>mL J tg (tT K (bW ix) noX c) (tE K (bW ix) noX elt) Z (cap ix σ) H1:=by
 refine tI.seq le w e he fun p ρ1 e1=>?_
 intro J H1 vs Ts g1 ys w1 a1 hys hw
 have his:=us_u (is:=pls p.1) w1
 have hus:∀ i y,i ∈ pls p.1->g1 i=some y->y.f=.u->i ∈ us ρ1 (pls p.1):=fun i y hi ey hf=>og w1 hi ey hf
 generalize us ρ1 (pls p.1)=is at e1 his hus
 have w2:=w1.enter is
 obtain ⟨els,hels,walk⟩:=hw
 have hM:∀ b,(∃ j y,j ∉ is/\g1 j=some y/\y.f=.u/\y.v=.ref b)->MutAt H1 b:=fun b ⟨j,y,_,ey,hf,hv⟩=>by
  obtain ⟨_,a,L',v1,v2,_⟩:=(w1.okS j y ey).own (by rw [hf];intro q;cases q)
  rw [hv] at v1;cases v1
  exact (w1.okS j y ey).rep.inH b (by rw [v2];exact vo)
 have hysM:∀ y ∈ ys,∀ b ∈ y.L,¬ ∃ j y,j ∉ is/\g1 j=some y/\y.f=.u/\y.v=.ref b:=fun y hy b hb ⟨j,y',nj,ey',hf,hv⟩=>by
  have hfz:y'.f ≠ .z:=by rw [hf];intro q;cases q
  rcases hys y hy with ⟨i,hi,ei⟩ | hy
  ·by_cases ij:i=j
   ·subst ij
    rw [ei] at ey';cases ey'
    exact nj (hus i y hi ei hf)
   ·exact w1.ss j i y' y (Ne.symm ij) ey' ei hfz b hv hb
  ·exact (w1.st j y' ey' y (vv _ hy)).1 hfz b hv hb
 have hitm:∀ y ∈ ys,Itm (Ts ++ T) g1 y:=fun y hy=>by
  rcases hys y hy with ⟨i,_,ei⟩ | h
  ·exact .inl ⟨i,ei⟩
  ·exact .inr (vv _ h)
 have kid:∀ x ∈ els,∀ c ∈ x.L,cy ((Ts ++ T).map aX) (fun j=>if j ∈ is then (g1 j).map aX else g1 j) c/\(H1 c=none\/(G.H0 c=none\/G.src c)):=fun x hx c hc=>by
  obtain ⟨nr,sr⟩:=w1.kids hitm ((hels x hx).2.2 c hc)
  refine ⟨⟨fun i z ez hf hv=>?_,fun z hz hf hv=>?_⟩,.inr sr⟩
  ·have ez:(if i ∈ is then (g1 i).map aX else g1 i)=some z:=ez
   by_cases q:i ∈ is
   ·rw [if_pos q] at ez
    obtain ⟨z0,e0,e1⟩:=vt.mp ez
    subst e1
    exact nr.1 i z0 e0 (fun q=>hf (lentF_z.mpr q)) hv
   ·rw [if_neg q] at ez
    exact nr.1 i z ez hf hv
  ·obtain ⟨z0,h0,rfl⟩:=vG.mp hz
   exact nr.2 z0 h0 (fun q=>hf (lentF_z.mpr q)) hv
 have w3:Wf K (cJ G H1 g1 is) H1 σ (aB ci is ρ1) (els ++ (Ts ++ T).map aX) (fun j=>if j ∈ is then (g1 j).map aX else g1 j):=w2.pushAll fun x hx=>⟨(hels x hx).1,(hels x hx).2.1,fun c hc=>kid x hx c hc⟩
 have w4:=w3.cap hij
 cases e2:bU bnd c elt p.2 (nP ix (aB ci is ρ1)) with
 | none=>rw [e2] at e1;exact nsE e1
 | some rr =>
  obtain ⟨o2,τρ⟩:=rr
  rw [e2] at e1
  cases o2 with
  | error x=>exact nsE e1
  | ok ds =>
   dsimp only at e1
   split at e1
   ·rename_i hlen
    cases e3:uncap ix τρ (aB ci is ρ1) with
    | none=>rw [e3] at e1;exact nsE e1
    | some ρ3 =>
     rw [e3] at e1
     have eo:o=.ok (.val (.lst ds) .u)/\ρ'=aB dL is ρ3:=by cases e1;exact ⟨rfl,rfl⟩
     obtain ⟨eo,eρ⟩:=eo
     refine nM (K:=K) (Gc:=qf (cJ G H1 g1 is) ix σ) (els:=els) (M:=fun _=>False) (ys:=ys) hz (fun x hx=>⟨vw _ (vv _ hx),(hels x hx).1⟩) (fun H' hk=>walk _ H' hM hk hysM) rfl hb (fun σ' H Q q=>qC (G1:=qf (cJ G H1 g1 is) ix σ) rfl q) (fun σ' H Q q=>qG (G1:=qf (cJ G H1 g1 is) ix σ) rfl q) hlen w4 e2 fun us τ' H' g' huz hud w5=>?_
     obtain ⟨g6,w6⟩:=Wf.uncap w3 (fun b o h=>h) hij e3 huz w5
     have w7:=Wf.leave (T:=Ts ++ T) (T':=T) (R:=us) w1 his (vF Ts T) (w6.sub ((List.Sublist.refl us).append (by
      rw [List.map_append]
      exact (vF (Ts.map aX) (T.map aX)).trans (vF els _))))
     have hle:us.length<=16777216:=by
      have h1:us.length=ds.length:=by rw [<- hud,vC]
      have h2:=fR e2
      omega
     rw [<- eρ] at w7
     exact hZ us H' _ Ts ds eo huz hud hle w7
   ·exact nsE e1
theorem nN {us:List It3} {p:Addr} (w:Wf K G H σ ρ (us ++ T) g) (huz:∀ x ∈ us,x.f=.z) (hp:H p=none) :
  Wf K G (upd H p (.lst (us.map (·.v)))) σ ρ (⟨.lst (us.map (·.d)),.ref p,p :: (us.map (·.L)).flatten,.u⟩ :: T) g:=by
 have hi:∀ y ∈ us,Itm (us ++ T) g y/\y.f=.z:=fun y hy=>⟨.inr (vv _ hy),huz y hy⟩
 have np:p ∉ (us.map (·.L)).flatten:=fun hc=>by
  obtain ⟨y,hm,hc⟩:=de hc
  obtain ⟨o,ho⟩:=((w.itm (hi y hm).1).rep.inH p hc).ex
  rw [hp] at ho;exact nsE ho
 have n:New K H (upd H p (.lst (us.map (·.v)))) (cv us) ⟨.lst (us.map (·.d)),.ref p,p :: (us.map (·.L)).flatten,.u⟩:=⟨bm hp,.lst aL ((gr fun y hy=>(w.itm (hi y hy).1).rep).same (bm hp)),fun c hc=>by
  rcases vx.mp hc with e | hc
  ·rw [e];exact .inl hp
  ·exact .inr (de hc),fun _=>⟨rfl,p,_,rfl,rfl,np,hp⟩⟩
 exact (w.push n fun c h=>w.alls hi h).sub (List.Sublist.cons_cons _ (vF us T))
theorem qK {im:IM} {bnd:D->Sto->Option Sto} {c:M3 Bool} {elt:EM} {tg:TG} {Q:VK} (hz:(16777216:Nat)=sizeLine) (hij:Inj ix) (hb:Bnd K (bW ix).pr tg bnd) (h:tE K G0 W0 (cr im bnd c elt ix) σ H Q) :
  sI (tI K G0 W0 im) tg (tT K (bW ix) noX c) (tE K (bW ix) noX elt) ix σ H Q:=by
 refine h.use fun G W le ρ T g o ρ' w e q=>?_
 refine qa hz hij hb le w e q.err fun us H' g' Ts ds eo huz hud hl w1=>?_
 subst eo hud
 intro p hp
 have w2:=nN w1 huz hp
 exact q (.ref p) _ ⟨[_],g',w2,Ar.val (⟨.lst (us.map (·.d)),.ref p,p :: (us.map (·.L)).flatten,.u⟩:It3)⟩
end
end L3
end
section
namespace L3
open PySem L2
section
variable {K:FG} {G G0:Gm} {W W0:D->Sto->Prop} {H H':Hp} {σ:St} {ρ ρ':Sto} {T T':List It3} {g:Nat->Option It3} {x y z:It3} {α β:Type}
theorem Wf.mutate {i:Nat} {a:Addr} {o':HO} {d':D} {L0:List Addr} (w:Wf K G H σ ρ T g) (ey:g i=some y) (hu:y.f=.u) (ev:y.v=.ref a) (hm:fD d'=true) (rep:Rep K (upd H a o') d' (.ref a) (a :: L0)) (na:a ∉ L0)
  (hk:∀ c ∈ L0,cy T g c/\(G.H0 c=none\/G.src c)):Wf K G (upd H a o') σ (ρ.set i (some (d',.u))) T (fun j=>if j=i then some ⟨d',.ref a,a :: L0,.u⟩ else g j):=by
 have hfz:y.f ≠ .z:=by rw [hu];intro q;cases q
 have oy:=w.okS i y ey
 obtain ⟨_,a',L',v1,v2,v3,v4⟩:=oy.own hfz
 rw [ev] at v1;cases v1
 have hi:i < ρ.length:=by
  have:=w.sl i
  rw [ey] at this
  exact cx this.symm
 have ma:MutAt H a:=oy.rep.inH a (by rw [v2];exact vo)
 have val:∀ j u,(if j=i then some (⟨d',.ref a,a :: L0,.u⟩:It3) else g j)=some u->(j=i/\u=⟨d',.ref a,a :: L0,.u⟩)\/(j ≠ i/\g j=some u):=fun j u h=>by
  by_cases q:j=i
  ·rw [if_pos q] at h;cases h;exact .inl ⟨q,rfl⟩
  ·rw [if_neg q] at h;exact .inr ⟨q,h⟩
 have keep:∀ u,ItOk K G H u->a ∉ u.L->ItOk K G (upd H a o') u:=fun u ou hn=>ou.keep (M:=fun b=>b=a) (fun b o hb n=>by rw [av n];exact hb) (fun b e=>by rw [e];exact ma) fun b hb e=>hn (by rw [<- e];exact hb)
 have nS:∀ j u,j ≠ i->g j=some u->a ∉ u.L:=fun j u n e=>w.ss i j y u (Ne.symm n) ey e hfz a ev
 have nT:∀ u ∈ T,a ∉ u.L:=fun u hu'=>(w.st i y ey u hu').1 hfz a ev
 have dom:∀ b o,H b=some o->∃ o'',upd H a o' b=some o'':=fun b o hb=>by
  by_cases q:b=a
  ·rw [q,aL];exact ⟨_,rfl⟩
  ·rw [av q];exact ⟨o,hb⟩
 refine ⟨by rw [List.length_set];exact w.len,fun j=>?_,fun j u h=>?_,fun j u h=>?_,fun u hu'=>keep u (w.okT u hu') (nT u hu'),fun j k p q n hp hq=>?_,fun j u h t ht=>?_,w.tt,fun b o e n=>?_,w.pro,⟨w.fx.frT,fun j u h hp hf b eb=>?_,fun b hb=>?_,fun b o hb=>?_,fun j u h hl=>?_⟩⟩
 ·rw [bv hi]
  by_cases q:j=i
  ·rw [if_pos q,if_pos q];rfl
  ·rw [if_neg q,if_neg q];exact w.sl j
 ·rcases val j u h with ⟨rfl,rfl⟩ | ⟨n,h⟩
  ·rw [w.sv j y ey,ev]
  ·exact w.sv j u h
 ·rcases val j u h with ⟨rfl,rfl⟩ | ⟨n,h⟩
  ·refine ⟨rep,fun _=>⟨hm,a,L0,rfl,rfl,na,fun _=>v4 hu⟩,fun c hc=>?_⟩
   rcases vx.mp hc with e | hc
   ·rw [e];exact oy.src a (by rw [v2];exact vo)
   ·exact (hk c hc).2
  ·exact keep u (w.okS j u h) (nS j u n h)
 ·rcases val j p hp with ⟨ej,ep⟩ | ⟨n1,hp'⟩
  ·rcases val k q hq with ⟨ek,eq⟩ | ⟨n2,hq'⟩
   ·exact absurd (ej.trans ek.symm) n
   ·rw [ep]
    intro _ c ec
    cases ec
    exact nS k q n2 hq'
  ·rcases val k q hq with ⟨ek,eq⟩ | ⟨n2,hq'⟩
   ·rw [eq]
    intro hf c ec hc
    rcases vx.mp hc with e | hc
    ·obtain ⟨_,b,L2,u1,u2,_⟩:=(w.okS j p hp').own hf
     rw [ec] at u1;cases u1
     exact nS j p n1 hp' (by rw [<- e,u2];exact vo)
    ·exact (hk c hc).1.1 j p hp' hf ec
   ·exact w.ss j k p q n hp' hq'
 ·rcases val j u h with ⟨ej,eu⟩ | ⟨n,h'⟩
  ·rw [eu]
   refine ⟨fun _ c ec=>by cases ec;exact nT t ht,fun hf c ec hc=>?_⟩
   rcases vx.mp hc with e | hc
   ·obtain ⟨_,b,L2,u1,u2,_⟩:=(w.okT t ht).own hf
    rw [ec] at u1;cases u1
    exact nT t ht (by rw [<- e,u2];exact vo)
   ·exact (hk c hc).1.2 t ht hf ec
  ·exact w.st j u h' t ht
 ·have:b ≠ a:=fun z=>by
   subst z
   rcases v4 hu with h | h
   ·rw [e] at h;cases h
   ·exact n h
  rw [av this];exact w.base b o e n
 ·rcases val j u h with ⟨ej,eu⟩ | ⟨n,h'⟩
  ·subst ej
   rw [eu] at eb
   cases eb
   exact w.fx.frS j y ey hp hfz a ev
  ·exact w.fx.frS j u h' hp hf b eb
 ·obtain ⟨o,ho⟩:=w.fx.bin b hb
  exact dom b o ho
 ·obtain ⟨o2,ho⟩:=w.fx.ob b o hb
  exact dom b o2 ho
 ·rcases val j u h with ⟨ej,eu⟩ | ⟨n,h'⟩
  ·rw [eu] at hl;cases hl
  ·exact w.fx.lvS j u h' hl
noncomputable def MutD (K:FG) (r:V->List V->Hp->VK->Prop) (f:D->List D->Option (D × D)):Prop:=∀ (a:Addr) (d:D) (L0:List Addr) (as:List It3) (H:Hp) (Q:VK) (p:D × D),Rep K H d (.ref a) (a :: L0)->fD d=true->a ∉ L0->(∀ x ∈ as,Rep K H x.d x.v x.L)->(∀ x ∈ as,a ∉ x.L)->f d (as.map (·.d))=some p ->
 (∀ (o':HO) (L1:List Addr) (w:It3),Rep K (upd H a o') p.1 (.ref a) (a :: L1)->fD p.1=true->(∀ c ∈ L1,c ∈ L0\/cv as c)->w.f=.z->w.d=p.2->Rep K (upd H a o') w.d w.v w.L->(∀ c ∈ w.L,c ∈ L0\/cv as c)->Q w.v (upd H a o'))->r (.ref a) (as.map (·.v)) H Q
noncomputable def chk (ok:D->Bool) (i:Nat):M3 Unit:=fun ρ=>match (ρ[i]?).join with
 | some (d,_)=>if ok d then some (.ok (),ρ) else none
 | none=>none
theorem jH {i:Nat} {k:R3->M3 β} {r:Except D β} (e:ac (ae i) k ρ=some (r,ρ')):∃ p,(ρ[i]?).join=some p/\k (.pl i) ρ=some (r,ρ'):=by
 unfold ac ae at e
 cases q:(ρ[i]?).join with
 | none=>rw [q] at e;exact nsE e
 | some p=>rw [q] at e;exact ⟨p,rfl,e⟩
theorem qb {ok:D->Bool} {i:Nat} {k:Unit->M3 β} {r:Except D β} (e:ac (chk ok i) k ρ=some (r,ρ')):(∀ p,(ρ[i]?).join=some p->ok p.1=true)/\k () ρ=some (r,ρ'):=by
 unfold ac chk at e
 cases q:(ρ[i]?).join with
 | none=>rw [q] at e;exact nsE e
 | some p =>
  rw [q] at e
  dsimp only at e
  cases h:ok p.1 with
  | false=>rw [h] at e;exact nsE e
  | true=>rw [h] at e;exact ⟨fun p' e'=>by cases e';exact h,e⟩
noncomputable def gS (ok:D->Bool) (f:D->List D->Option (D × D)) (i:Nat) (ms:M3 (List R3)):EM:=ac (ae i) fun _=>ac (chk ok i) fun _=>ac ms fun rs=>ac (gives rs) fun ds=>fun ρ=>match (ρ[i]?).join with
 | some (d,.u)=>match f d ds with
  | some p=>some (.ok (.val p.2 .z),ρ.set i (some (p.1,.u)))
  | none=>none
 | _=>none
theorem Wf.changed {i:Nat} {d:D} {as us:List It3} {r:V->List V->Hp->VK->Prop} {f:D->List D->Option (D × D)} {p:D × D} {v:V} {Q:VK} (hr:MutD K r f) (w:Wf K G H σ ρ (us ++ T) g) (e:(ρ[i]?).join=some (d,.u)) (hv:σ[i]?=some (some v)) (ha:∀ y ∈ as,Itm (us ++ T) g y/\y.f=.z)
  (ef:f d (as.map (·.d))=some p) (q:∀ v H',Got K G σ (ρ.set i (some (p.1,.u))) T (.val p.2 .z) v H'->Q v H'):r v (as.map (·.v)) H Q:=by
 obtain ⟨y,y1,y2,y3,y4⟩:=w.slot e
 rw [hv] at y4
 injection y4 with y4
 injection y4 with y4
 have hfz:y.f ≠ .z:=by rw [y3];intro q;cases q
 have oy:=w.okS i y y1
 obtain ⟨m,a,L0,v1,v2,v3,_⟩:=oy.own hfz
 have ra:=oy.rep
 rw [v1,v2,y2] at ra
 rw [y2] at m
 rw [y4,v1]
 have na:∀ x ∈ as,a ∉ x.L:=fun x hx hc=>by
  have:=(w.kid (ha x hx).1 hc fun hf=>absurd (ha x hx).2 hf).1 i y y1 hfz
  exact this v1
 refine hr a d L0 as H Q p ra m v3 (fun x hx=>(w.itm (ha x hx).1).rep) na ef fun o' L1 u r1 m1 s1 uf ud ur us1=>?_
 have hsrc:∀ c,(c ∈ L0\/cv as c)->cy (us ++ T) g c/\(G.H0 c=none\/G.src c):=fun c hc=>by
  rcases hc with hc | hc
  ·have hc':c ∈ y.L:=by rw [v2];exact vp _ hc
   exact ⟨w.kid (.inl ⟨i,y1⟩) hc' fun _ ez=>by rw [v1] at ez;cases ez;exact v3 hc,oy.src c hc'⟩
  ·exact w.alls ha hc
 have nL:∀ c,(c ∈ L0\/cv as c)->c ≠ a:=fun c hc z=>(hsrc c hc).1.1 i y y1 hfz (by rw [z];exact v1)
 have w1:=w.mutate (o':=o') y1 y3 v1 m1 r1 (fun h=>nL a (s1 a h) rfl) fun c hc=>hsrc c (s1 c hc)
 have w2:=w1.pushAll (ws:=[u]) fun x hx=>by
  rw [vX.mp hx]
  refine ⟨uf,ur,fun c hc=>?_⟩
  have s:=hsrc c (us1 c hc)
  refine ⟨⟨fun j z ez hf hz=>?_,s.1.2⟩,s.2⟩
  have ez:(if j=i then some (⟨p.1,.ref a,a :: L1,.u⟩:It3) else g j)=some z:=ez
  by_cases q:j=i
  ·rw [if_pos q] at ez
   cases ez
   cases hz
   exact nL a (us1 a hc) rfl
  ·rw [if_neg q] at ez
   exact s.1.1 j z ez hf hz
 rw [<- ud,<- uf] at q
 exact q u.v _ ⟨[u],_,w2.sub ((List.Sublist.refl [u]).append (vF us T)),.val u⟩
theorem oi {i:Nat} {Ty:String} {ok:D->Bool} {ms:M3 (List R3)} {r:V->List V->Hp->VK->Prop} {f:D->List D->Option (D × D)} {Q:VK} (hr:MutD K r f) (hok:∀ d v L H,ok d=true->Rep K H d v L->tyV K Ty v H) (h:tE K G0 W0 (gS ok f i ms) σ H Q):tBM K Ty r (jP i) (tA K G0 W0 ms) σ H Q:=by
 refine h.use fun G W le ρ T g o ρ' w e q=>?_
 obtain ⟨p0,e0,e⟩:=jH e
 obtain ⟨hk,e⟩:=qb e
 obtain ⟨d0,f0⟩:=p0
 obtain ⟨y,y1,y2,y3,y4⟩:=w.slot e0
 refine ⟨y.v,y4,hok d0 y.v y.L H (hk _ e0) (by rw [<- y2];exact (w.okS i y y1).rep),?_⟩
 refine tA.seq le w e q.err fun rs ρ1 e1 vs H1 Ts g1 w1 a1=>?_
 obtain ⟨ds,ρ2,g2,e2,_,w2,_,ys,hy,f1,f2⟩:=a1.gives w1 e1
 subst f1 f2
 cases e3:(ρ2[i]?).join with
 | none=>rw [e3] at e2;exact nsE e2
 | some p3 =>
  obtain ⟨d3,f3⟩:=p3
  rw [e3] at e2
  cases f3 with
  | u =>
   dsimp only at e2
   cases e4:f d3 (ys.map (·.d)) with
   | none=>rw [e4] at e2;exact nsE e2
   | some p =>
    rw [e4] at e2
    cases e2
    exact w2.changed hr e3 y4 hy e4 q
  | l=>exact nsE e2
  | z=>exact nsE e2
theorem qH {i:Nat} {Ty:String} {ok:D->Bool} {r:V->List V->Hp->VK->Prop} {f:D->List D->Option (D × D)} {Q:VK} (hr:MutD K r f) (hok:∀ d v L H,ok d=true->Rep K H d v L->tyV K Ty v H) (h:tE K G0 W0 (gS ok f i aj) σ H Q):tBM0 K Ty r (jP i) σ H Q:=by
 obtain ⟨v,hv,ty,q⟩:=oi hr hok h
 refine ⟨v,hv,ty,?_⟩
 exact ot q
noncomputable def gI (t:V->V->V->Hp->(Hp->Prop)->Prop):V->List V->Hp->VK->Prop:=fun x vs H Q=>∃ k v,vs=[k,v]/\t x k v H fun H'=>Q .non H'
noncomputable def oM (f:D->List D->Option (D × D)) (i:Nat) (mk mv:EM):SM:=ac mv fun rv=>ac (ae i) fun _=>ac mk fun rk=>ac (gives [rk,rv]) fun ds=>fun ρ=>match (ρ[i]?).join with
 | some (d,.u)=>match f d ds with
  | some p=>some (.ok .nx,ρ.set i (some (p.1,.u)))
  | none=>none
 | _=>none
theorem tp {i:Nat} {mk mv:EM} {t:n3} {f:D->List D->Option (D × D)} {E:Ends} (hr:MutD K (gI t) f) (h:tS K G0 W0 (oM f i mk mv) E σ H):oq (tE K G0 W0 mv) (gSub (jP i) (tE K G0 W0 mk) t) E σ H:=by
 refine h.use fun G W le ρ T g r ρ' w e q=>?_
 refine tE.seq le w e q.err fun rv ρ1 e1 v H1 ⟨Ts,g1,w1,a1⟩=>?_
 obtain ⟨p0,e0,e1⟩:=jH e1
 obtain ⟨d0,f0⟩:=p0
 obtain ⟨y,y1,y2,y3,y4⟩:=w1.slot e0
 refine ⟨y.v,y4,?_⟩
 ·refine tE.seq le w1 e1 q.err fun rk ρ2 e2 vk H2 ⟨Us,g2,w2,a2⟩=>?_
  have a3:Ars σ [rk,rv] [vk,v] (([] ++ Ts) ++ Us):=.cons a2 (.cons a1 .nil)
  have w3:Wf K G H2 σ ρ2 ((([] ++ Ts) ++ Us) ++ T) g2:=w2.perm (by
   rw [List.nil_append,<- List.append_assoc]
   exact (List.perm_append_comm).append_right T)
  obtain ⟨ds,ρ3,g3,e3,_,w4,_,ys,hy,f1,f2⟩:=a3.gives w3 e2
  subst f1
  cases e4:(ρ3[i]?).join with
  | none=>rw [e4] at e3;exact nsE e3
  | some p3 =>
   obtain ⟨d3,f3⟩:=p3
   rw [e4] at e3
   cases f3 with
   | u =>
    dsimp only at e3
    cases e5:f d3 (ys.map (·.d)) with
    | none=>rw [e5] at e3;exact nsE e3
    | some p =>
     rw [e5] at e3
     cases e3
     have:=w4.changed (Q:=fun _ H'=>E.nx σ H') hr e4 y4 hy e5 fun v' H' ⟨Vs,g5,w5,a5⟩=>q _ _ _ (w5.sub (vF Vs T))
     rw [f2] at this
     obtain ⟨k',v',ekv,ht⟩:=this
     cases ekv
     exact ht
   | l=>exact nsE e3
   | z=>exact nsE e3
end
end L3
end
section
namespace L3
open PySem L2
structure RE (X:Cx) (G0:Gm) (W0:D->Sto->Prop) (e:Expr) (m:EM):Prop where
 h:PE X e (tE X.K G0 W0 m)
structure RT (X:Cx) (G0:Gm) (W0:D->Sto->Prop) (e:Expr) (m:M3 Bool):Prop where
 h:PT X e (tT X.K G0 W0 m)
structure RW (X:Cx) (G0:Gm) (W0:D->Sto->Prop) (e:Expr) (m:M3 Bool):Prop where
 h:PW X e (tT X.K G0 W0 m)
structure RA (X:Cx) (G0:Gm) (W0:D->Sto->Prop) (es:List Expr) (m:M3 (List R3)):Prop where
 h:PA X es (tA X.K G0 W0 m)
structure RS (X:Cx) (G0:Gm) (W0:D->Sto->Prop) (s:Stmt) (m:SM):Prop where
 h:PS X s (tS X.K G0 W0 m)
structure RSs (X:Cx) (G0:Gm) (W0:D->Sto->Prop) (s:List Stmt) (m:SM):Prop where
 h:PSs X s (tS X.K G0 W0 m)
structure RI (X:Cx) (G0:Gm) (W0:D->Sto->Prop) (tg iter:Expr) (m:IM):Prop where
 h:PI X tg iter (tI X.K G0 W0 m)
structure RG (X:Cx) (pr:Nat->Bool) (target:Expr) (bnd:D->Sto->Option Sto):Prop where
 h:∃ tg,PG X target tg/\Bnd X.K pr tg bnd
structure RGs (X:Cx) (pr:Nat->Bool) (targets:List Expr) (bnd:List D->Sto->Option Sto):Prop where
 h:∃ tg,PGs X targets tg/\qx X.K pr tg bnd
theorem PE.imp {X:Cx} {e:Expr} {t t':TE} (h:PE X e t) (f:∀ σ H Q,t' σ H Q->t σ H Q):PE X e t':=fun pins s σ H Q I q=>h pins s σ H Q I (f σ H Q q)
theorem PT.imp {X:Cx} {e:Expr} {t t':TT} (h:PT X e t) (f:∀ σ H Q,t' σ H Q->t σ H Q):PT X e t':=fun pins s σ H Q I q=>h pins s σ H Q I (f σ H Q q)
theorem PW.imp {X:Cx} {e:Expr} {t t':TT} (h:PW X e t) (f:∀ σ H Q,t' σ H Q->t σ H Q):PW X e t':=fun wh pins s σ H Q I q=>h wh pins s σ H Q I (f σ H Q q)
theorem PA.imp {X:Cx} {e:List Expr} {t t':TA} (h:PA X e t) (f:∀ σ H Q,t' σ H Q->t σ H Q):PA X e t':=fun pos pins s σ H Q I q=>h pos pins s σ H Q I (f σ H Q q)
theorem PS.imp {X:Cx} {e:Stmt} {t t':TS} (h:PS X e t) (f:∀ D σ H,t' D σ H->t D σ H):PS X e t':=fun pins s σ H D I q=>h pins s σ H D I (f D σ H q)
theorem PSs.imp {X:Cx} {e:List Stmt} {t t':TS} (h:PSs X e t) (f:∀ D σ H,t' D σ H->t D σ H):PSs X e t':=fun pins s σ H D I q=>h pins s σ H D I (f D σ H q)
theorem PI.imp {X:Cx} {tg e:Expr} {t t':TI} (h:PI X tg e t) (f:∀ σ H R,t' σ H R->t σ H R):PI X tg e t':=fun pins s σ H R I q=>h pins s σ H R I (f σ H R q)
theorem szl:(16777216:Nat)=sizeLine:=by rw [sizeLine_eq]
section
variable {X:Cx} {G0:Gm} {W0:D->Sto->Prop} {a b c e:Expr} {es:List Expr} {pos:Pos} {ma mb mc m:EM} {ms:M3 (List R3)} {t u:M3 Bool} {cN:List Expr}
theorem oW (i:Nat) {x:Str} (hN:X.N[i]?=some x) (hv:Vis X.env.scope x) (hd:(x == ("__debug__":Str))=false) (hcd:(x == ("__classdict__":Str))=false):RE X G0 W0 (.Name x pos) (ae i):=⟨PE.imp (eS hN hv hd hcd) fun _ _ _ h=>tH h⟩
theorem al {i j}:RE X G0 W0 (.Constant (.int i) j pos) (mC (.int i)):=⟨PE.imp uk fun _ _ _ h=>gD (fun _=>.int i) h⟩
theorem fZ {i j}:RE X G0 W0 (.Constant (.bool i) j pos) (mC (.bl i)):=⟨PE.imp pe_bl fun _ _ _ h=>gD (fun _=>.bl i) h⟩
theorem dU {x:Str} {i:Int} {tk:Tok} (hg:Gl X x) (hm:X.mg x=some (.int i tk)) (hd:(x == ("__debug__":Str))=false):RE X G0 W0 (.Name x pos) (mC (.int i)):=⟨PE.imp (rB (v:=V.int i) hg hm ⟨_,rfl⟩ hd) fun _ _ _ h=>gD (fun _=>.int i) h⟩
theorem ay {op:Operator} {r:R2} {f:D->D->Option (D × Fl)} (ho:OpR X (binaryOp op) r) (hd:OpD X.K r f) (ha:RE X G0 W0 a ma) (hb:RE X G0 W0 b mb):RE X G0 W0 (.BinOp a op b pos) (aq f ma mb):=⟨PE.imp (pe_op ho ha.h hb.h) fun _ _ _ h=>jd hd h⟩
theorem jg {op:CmpOp} {r:R2} {f:D->D->Option (D × Fl)} (ho:OpR X (compareOp op) r) (hd:OpD X.K r f) (ha:RE X G0 W0 a ma) (hb:RE X G0 W0 b mb) (hm:behindInMarks op b=false):RE X G0 W0 (.Compare a [op] [b] pos) (aq f ma mb):=⟨PE.imp (rE ho ha.h hb.h hm) fun _ _ _ h=>jd hd h⟩
theorem bP {r:R2} {f:D->D->Option (D × Fl)} (ho:IxR X r) (hd:OpD X.K r f) (ha:RE X G0 W0 a ma) (hb:RE X G0 W0 b mb) (hs:mK b):RE X G0 W0 (.Subscript a b pos) (aq f ma mb):=⟨PE.imp (pe_ix ho ha.h hb.h hs) fun _ _ _ h=>jd hd h⟩
theorem k9 (ha:RE X G0 W0 a ma) (hb:RE X G0 W0 (.BoolOp .And (b :: cN) pos) mb):RE X G0 W0 (.BoolOp .And (a :: b :: cN) pos) (lw ma mb):=⟨PE.imp (um ha.h hb.h) fun _ _ _ h=>tM h⟩
theorem re_or (ha:RE X G0 W0 a ma) (hb:RE X G0 W0 (.BoolOp .Or (b :: cN) pos) mb):RE X G0 W0 (.BoolOp .Or (a :: b :: cN) pos) (mOr ma mb):=⟨PE.imp (pe_or ha.h hb.h) fun _ _ _ h=>tE_or h⟩
theorem jf {op} (h:RE X G0 W0 a ma):RE X G0 W0 (.BoolOp op [a] pos) ma:=⟨uh h.h⟩
theorem oX (ha:RE X G0 W0 a ma):RE X G0 W0 (.UnaryOp .Not a pos) (rS ma):=⟨PE.imp (ui ha.h) fun _ _ _ h=>tK h⟩
noncomputable def gT (f f':D->D->Option (D × Fl)) (ma mb mc:EM):EM:=ac ma fun ra=>ac mb fun rb=>ac (der ra) fun da=>ac (der rb) fun db=>ac (bd ((f da db).bind fun p=>asB p.1)) fun k=>if k then ac mc fun rc=>ac (der rb) fun db=>ac (der rc) fun dc=>bd ((f' db dc).map fun p=>R3.val p.1 p.2) else bb (.val (.bl false) .z)
theorem dP (ha:RE X G0 W0 a ma) (he:∀ whole,isTrue a X.env whole=(do let v <- whole;standAt a.pos;holding [v] (truthy v))):RT X G0 W0 a (cB ma):=⟨PT.imp (t6 ha.h he) fun _ _ _ h=>s9 h⟩
theorem tX (h:RW X G0 W0 a t):RT X G0 W0 a t:=⟨h.h.pt⟩
theorem k7 (ha:RT X G0 W0 a t):RW X G0 W0 (.BoolOp .Or [a] pos) t:=⟨t5 ha.h⟩
theorem lS (ha:RT X G0 W0 a t) (hb:RW X G0 W0 (.BoolOp .Or (b :: cN) pos) u):RW X G0 W0 (.BoolOp .Or (a :: b :: cN) pos) (cOr t u):=⟨PW.imp (pw_or ha.h hb.h) fun _ _ _ h=>tT_or h⟩
theorem eQ (ha:RT X G0 W0 a t):RT X G0 W0 (.UnaryOp .Not a pos) (fU t):=⟨PT.imp (t7 ha.h) fun _ _ _ h=>s0 h⟩
theorem af:RA X G0 W0 [] aj:=⟨PA.imp pg fun _ _ _ h=>ot h⟩
theorem aa (ha:RE X G0 W0 e m) (hr:RA X G0 W0 es ms) (hs:starEach (e :: es) X.env=(false,eval e X.env) :: starEach es X.env):RA X G0 W0 (e :: es) (ad m ms):=⟨PA.imp (jl ha.h hr.h hs) fun _ _ _ h=>qL h⟩
theorem bO {x1} (h:RA X G0 W0 es ms):RE X G0 W0 (.Tuple es x1 pos) (eG ms):=⟨PE.imp (ug h.h) fun _ _ _ h=>tJ szl h⟩
theorem cE (h:RA X G0 W0 es ms):RE X G0 W0 (.List es pos) (eX ms):=⟨PE.imp (uj h.h) fun _ _ _ h=>tL szl h⟩
theorem aU {x:Str} {p:Pos} {id:String} {r:List V->Hp->VK->Prop} {f:List D->Option (D × Fl)} (hc:cM X (.builtin id) r) (hd:fM X.K r f) (hg:Gl X x) (hm:X.mg x=none) (hv:bootBuiltins x=some (.builtin id)) (ha:RA X G0 W0 (e :: es) ms) (hn:x ≠ "__name__") (hdb:(x == ("__debug__":Str))=false)
  (he:starEach (e :: es) X.env=(false,eval e X.env) :: starEach es X.env) (hpl:(backTo pos (starEach es X.env)).any (·.1)=false):RE X G0 W0 (.Call (.Name x p) (e :: es) [] pos) (aF f ms):=⟨PE.imp (j4 hc hg hm hv ha.h hn hdb he hpl) fun _ _ _ h=>gE hd h⟩
theorem iQ {x:Str} {p:Pos} {T:String} {r:List V->Hp->VK->Prop} {f:List D->Option (D × Fl)} (hc:cM X (.type T) r) (hd:fM X.K r f) (hg:Gl X x) (hm:X.mg x=none) (hv:bootBuiltins x=some (.type T)) (ha:RA X G0 W0 (e :: es) ms) (hn:x ≠ "__name__") (hdb:(x == ("__debug__":Str))=false)
  (he:starEach (e :: es) X.env=(false,eval e X.env) :: starEach es X.env) (hpl:(backTo pos (starEach es X.env)).any (·.1)=false):RE X G0 W0 (.Call (.Name x p) (e :: es) [] pos) (aF f ms):=⟨PE.imp (m5 hc hg hm hv ha.h hn hdb he hpl) fun _ _ _ h=>gE hd h⟩
variable {st:Stmt} {sts:List Stmt} {sm sn:SM}
theorem b7:RSs X G0 W0 [] fq:=⟨PSs.imp rp fun _ _ _ h=>tw h⟩
theorem ah (h1:RS X G0 W0 st sm) (h2:RSs X G0 W0 sts sn):RSs X G0 W0 (st :: sts) (aH sm sn):=⟨PSs.imp (o8 h1.h h2.h) fun _ _ _ h=>tu h⟩
theorem ai (h1:RS X G0 W0 st sm):RSs X G0 W0 [st] sm:=⟨rj h1.h⟩
theorem eA (he:RE X G0 W0 e m) (hs:swapsWith e none pos.line X.env=pure false):RS X G0 W0 (.Expr e pos) (eK m):=⟨PS.imp (rq he.h hs) fun _ _ _ h=>qD h⟩
theorem aQ (np:Nat) (hnp:∀ i,np<=i->G0.pr i=false) (he:RE X G0 W0 e m):RS X G0 W0 (.Return (some e) pos) (bK np m):=⟨PS.imp (t9 he.h) fun _ _ _ h=>tv hnp h⟩
theorem eL {x y:List Stmt} (hc:RT X G0 W0 c t) (ha:RSs X G0 W0 x sm) (hb:RSs X G0 W0 y sn):RS X G0 W0 (.If c x y pos) (sIf t sm sn):=⟨PS.imp (ps_if hc.h ha.h hb.h) fun _ _ _ h=>tS_if h⟩
theorem aE (i:Nat) {x:Str} {pos':Pos} (hN:X.N.Nodup) (hi:X.N[i]?=some x) (hx:Loc X.env.scope x) (he:RE X G0 W0 e m) (hs:swapsWith e (some (.Name x pos')) pos.line X.env=pure false) (hf:X.fn x=true\/X.env.scope.names.lookup x=some .local) (hp:G0.pr i=false):RS X G0 W0 (.Assign [.Name x pos'] e pos) (bD i m):=⟨PS.imp (t8 hN hi hx he.h hs hf) fun _ _ _ h=>tq hp h⟩
theorem bZ {tg iter:Expr} {body:List Stmt} {im:IM} {bnd:D->Sto->Option Sto} (hp:PassesOwn (model X.prog X.w) X.A X.env X.xe) (hc:X.calm=true) (hi:RI X G0 W0 tg iter im) (hg:RG X G0.pr tg bnd) (hb:RSs X G0 W0 body sm) (hs:∀ x,foldedSetIterable iter X.env x=pure x):RS X G0 W0 (.For tg iter body [] pos) (cZ im bnd sm):=by
 obtain ⟨g,h1,h2⟩:=hg.h
 exact ⟨PS.imp (ua hp hc hi.h h1 hb.h hs) fun _ _ _ h=>tz h2 h⟩
theorem aT (i:Nat) {x:Str} {pr:Nat->Bool} (hN:X.N.Nodup) (hi:X.N[i]?=some x) (hx:Loc X.env.scope x) (hf:X.fn x=true\/X.env.scope.names.lookup x=some .local) (hp:pr i=false):RG X pr (.Name x pos) (au i):=⟨_,bF hN hi hx hf,bo hp⟩
theorem lV {pr:Nat->Bool}:RGs X pr [] lL:=⟨_,rA,qi⟩
theorem dS {pr:Nat->Bool} {bn:D->Sto->Option Sto} {bs:List D->Sto->Option Sto} (h1:RG X pr e bn) (h2:RGs X pr es bs) (hs:(assignEach (e :: es) X.env).map (·.2)=assign e X.env :: (assignEach es X.env).map (·.2)):RGs X pr (e :: es) (cu bn bs):=by
 obtain ⟨g,a1,a2⟩:=h1.h
 obtain ⟨gs,b1,b2⟩:=h2.h
 exact ⟨_,pe a1 b1 hs,nX a2 b2⟩
theorem oV {pr:Nat->Bool} {k n:Nat} {bs:List D->Sto->Option Sto} (hc:X.calm=true) (h:RGs X pr es bs) (hn:(assignEach es X.env).length=n) (hst:(assignEach es X.env).findIdx? (·.1)=none):RG X pr (.Tuple es k pos) (lK n bs):=by
 obtain ⟨gs,b1,b2⟩:=h.h
 exact ⟨_,uc hc b1 hn hst,sk b2⟩
theorem bQ {elt tg iter:Expr} {ifs:List Expr} {scope:Scope} {im:IM} {bnd:D->Sto->Option Sto} {cm:M3 Bool} {em:EM} (NY:List Str) (ix:List (Option Nat)) (hc:X.calm=true) (hi:RI X G0 W0 tg iter im)
  (ht:∀ s H C fp,PTs (ba X NY scope s H C fp) ifs (tT X.K (bW ix) noX cm)) (he:∀ s H C fp,RE (ba X NY scope s H C fp) (bW ix) noX elt em)
  (ck:jv scope X.N X.env.scope NY ix=true) (hij:Inj ix) (hs:∀ x,foldedSetIterable iter X.env x=pure x) (hgu:∃ tg',Bnd X.K (bW ix).pr tg' bnd/\∀ s H C fp,PG (ba X NY scope s H C fp) tg tg'):RE X G0 W0 (.ListComp elt [⟨tg,iter,ifs,0⟩] scope pos) (cr im bnd cm em ix):=by
 obtain ⟨tg',b1,b2⟩:=hgu
 exact ⟨PE.imp (rD NY ix hc hi.h b2 ht (fun s H C fp=>(he s H C fp).h) ck hs) fun _ _ _ h=>qK szl hij b1 h⟩
end
end L3
end
section
namespace L3
open PySem L2
noncomputable def aJ (F:Fn) (ms:M3 (List R3)):EM:=ac ms fun rs=>fun ρ=>match prs (frz (kI rs) ρ) rs with
 | none=>none
 | some ps=>match F ps with
  | none=>none
  | some (.ok p,qs)=>if qs.length=ps.length then some (.ok (.val p.1 p.2),back rs ps qs (frz (kI rs) ρ)) else none
  | some (.error _,_)=>none
noncomputable def mQ (K:FG) (F:Fn):Sp:=fun vs H Q _=>∃ (ps:List It3) (p:D × Fl) (fs:List (D × Fl)),vs=ps.map (·.v)/\(∀ p ∈ ps,Arg K H p)/\ps.Pairwise Apart3/\F (ps.map fun p=>(p.d,p.f))=some (.ok p,fs) /\
 ∀ x qs H',Behind K H H' ps qs x->x.d=p.1->x.f=p.2->qs.map (fun q=>(q.d,q.f))=fs->Q x.v H'
section
variable {K:FG} {G G0:Gm} {W W0:D->Sto->Prop} {H H':Hp} {σ:St} {ρ ρ':Sto} {T T':List It3} {g:Nat->Option It3} {x y z:It3} {α β:Type}
theorem ol {F:Fn} {ms:M3 (List R3)} {Q:VK} (h:tE K G0 W0 (aJ F ms) σ H Q):tA K G0 W0 ms σ H fun vs H1=>mQ K F vs H1 Q E0:=by
 refine h.use fun G W le ρ T g o ρ' w e q=>?_
 refine tA.seq le w e q.err fun rs ρ1 e1 vs H1 Ts g1 w1 a1=>?_
 obtain ⟨g2,w2,z2⟩:=Wf.frz (is:=kI rs) w1
 cases e2:prs (L3.frz (kI rs) ρ1) rs with
 | none=>rw [e2] at e1;exact nsE e1
 | some pfs =>
  rw [e2] at e1
  dsimp only at e1
  have hd:∀ i,2<=(pls rs).count i->∀ y,g2 i=some y->y.f=.z:=fun i hc y ey=>by
   have hm:i ∈ kI rs:=vZ.mpr ⟨List.count_pos_iff.mp (by omega),by simpa using hc⟩
   have s1:=w2.sl i
   rw [ey] at s1
   have hy:∃ y0,g1 i=some y0:=by
    cases q1:g1 i with
    | some y0=>exact ⟨y0,rfl⟩
    | none =>
     exfalso
     have s2:=w1.sl i
     rw [q1] at s2
     have:=kG (is:=kI rs) s2.symm
     rw [this] at s1
     cases s1
   obtain ⟨y0,ey0⟩:=hy
   obtain ⟨y',e3,_,e5⟩:=z2 i y0 ey0
   rw [ey] at e3
   cases e3
   exact e5 hm
  obtain ⟨ps,f1,f2,f3,f4,f5⟩:=Ars.args a1 w2 hd e2
  have hit:∀ p ∈ ps,Itm (Ts ++ T) g2 p:=fun p hp=>by
   rcases f4 p hp with ⟨i,_,ei⟩ | h
   ·exact .inl ⟨i,ei⟩
   ·exact .inr (vv _ h)
  have harg:∀ p ∈ ps,Arg K H1 p:=fun p hp=>⟨(w2.itm (hit p hp)).rep,fun hf=>by
   obtain ⟨m,a,L',v1,v2,v3,_⟩:=(w2.itm (hit p hp)).own hf
   exact ⟨m,a,L',v1,v2,v3⟩⟩
  subst f2
  cases e3:F pfs with
  | none=>rw [e3] at e1;exact nsE e1
  | some r =>
   obtain ⟨out,fs⟩:=r
   rw [e3] at e1
   cases out with
   | ok p =>
    dsimp only at e1
    split at e1
    ·cases e1
     refine ⟨ps,p,fs,rfl,harg,f3,by rw [f1];exact e3,?_⟩
     intro x qs H' B x1 x2 hq
     obtain ⟨g',w3,px⟩:=Wf.after w2 e2 f1 f4 f5 B.toBehindX
     have w4:=px x B.rep B.own B.src B.apx
     rw [hq] at w4
     rw [<- x1,<- x2] at q
     exact q x.v H' ⟨[x],g',w4,.val x⟩
    ·exact nsE e1
   | error er=>exact nsE e1
noncomputable def cI (b:Bool) (p:It3):It3:=if b then cn p else p
theorem iT:∀ {mask:List Bool} {ps:List It3},(List.zipWith cI mask ps).map (fun p=>(p.d,p.f))=List.zipWith nt mask (ps.map fun p=>(p.d,p.f))
 | [],_=>rfl
 | _ :: _,[]=>rfl
 | b :: mask,p :: ps=>by
  simp only [List.zipWith_cons_cons,vM,iT]
  cases b <;> rfl
theorem nq {mask:List Bool} {ps:List It3} {i:Nat} {q:It3} (h:(List.zipWith cI mask ps)[i]?=some q):∃ b p,mask[i]?=some b/\ps[i]?=some p/\q=cI b p:=by
 rw [List.getElem?_zipWith] at h
 cases e1:mask[i]? with
 | none=>rw [e1] at h;exact nsE h
 | some b =>
  cases e2:ps[i]? with
  | none=>rw [e1,e2] at h;exact nsE h
  | some p=>rw [e1,e2] at h;cases h;exact ⟨b,p,rfl,rfl,rfl⟩
theorem kC {mask:List Bool} {ps:List It3} {i:Nat} {p:It3} (hl:ps.length=mask.length) (h:ps[i]?=some p):∃ b,mask[i]?=some b/\(List.zipWith cI mask ps)[i]?=some (cI b p):=by
 have hi:i < mask.length:=by have:=(vD.mp h).1;omega
 refine ⟨mask[i],vy hi,?_⟩
 rw [List.getElem?_zipWith,vy hi,h]
theorem cH (b:Bool) (p:It3):(cI b p).d=p.d/\(cI b p).v=p.v/\(cI b p).L=p.L/\((cI b p).f=p.f\/(cI b p).f=.z):=by
 cases b
 ·exact ⟨rfl,rfl,rfl,.inl rfl⟩
 ·exact ⟨rfl,rfl,rfl,.inr rfl⟩
theorem NoRoot.low {a b a' b':It3} (h:NoRoot a b) (hv:a'.v=a.v) (hf:a'.f=a.f\/a'.f=.z) (hL:b'.L=b.L):NoRoot a' b':=fun q c e=>by
 rw [hL]
 rcases hf with f | f
 ·exact h (by rw [<- f];exact q) c (by rw [<- hv];exact e)
 ·exact absurd f q
noncomputable def prM (mask:List Bool) (i:Nat):Bool:=match mask[i]? with
 | some b=>!b
 | none=>false
theorem rO {α β:Type} {f:α->β} {l:List α} {i:Nat} {a:α} (h:l[i]?=some a):(l.map f)[i]?=some (f a):=by rw [vH,h];rfl
set_option tactic.hygienic true in
theorem mw {mask:List Bool} {m:SM} {n:Nat} {vs:List V} {Q:VK} {E:XK} (hn:mask.length<=n) (h:mQ K (fnM mask n m) vs H Q E) :
  ∃ G:Gm,G.pr=prM mask/\tS K G noX m { nx:=fun _ H'=>Q .non H',rt:=Q } (vs.map some ++ List.replicate (n - vs.length) none) H:=by
 obtain ⟨ps,p,fs,rfl,ha,hp,hF,q⟩:=h
 unfold fnM at hF
 rw [vC] at hF
 split at hF
 ·rename_i hl
  rw [<- iT] at hF
  generalize hps:List.zipWith cI mask ps=ps' at hF
  have hl':ps'.length=ps.length:=by rw [<- hps,List.length_zipWith];omega
  have hv:ps'.map (·.v)=ps.map (·.v):=by
   refine List.ext_getElem? fun i=>?_
   rw [vH,vH]
   cases e:ps[i]? with
   | none=>rw [List.getElem?_eq_none (by have:=List.getElem?_eq_none_iff.mp e;omega)]
   | some u =>
    obtain ⟨b,_,e2⟩:=kC (mask:=mask) hl e
    rw [hps] at e2
    rw [e2]
    show some (cI b u).v=some u.v
    rw [(cH b u).2.1]
  have up:∀ (i:Nat) (u:It3),ps'[i]?=some u->∃ b u0,mask[i]?=some b/\ps[i]?=some u0/\u=cI b u0:=fun i u e=>by rw [<- hps] at e;exact nq e
  have upm:∀ u ∈ ps',∃ b u0,u0 ∈ ps/\u=cI b u0:=fun u hu=>by
   obtain ⟨i,hi,e⟩:=List.mem_iff_getElem.mp hu
   obtain ⟨b,u0,_,e2,e3⟩:=up i u (by rw [vy hi,e])
   exact ⟨b,u0,vE e2,e3⟩
  have ha':∀ u ∈ ps',Arg K H u:=fun u hu=>by
   obtain ⟨b,u0,h0,rfl⟩:=upm u hu
   obtain ⟨e1,e2,e3,e4⟩:=cH b u0
   refine ⟨by rw [e1,e2,e3];exact (ha u0 h0).rep,fun hf=>?_⟩
   rw [e1,e2,e3]
   refine (ha u0 h0).own fun z=>hf ?_
   rcases e4 with f | f
   ·rw [f];exact z
   ·exact f
  have hp':ps'.Pairwise Apart3:=by
   rw [List.pairwise_iff_getElem]
   intro i j hi hj lt
   obtain ⟨b,u0,_,e2,e3⟩:=up i _ (vy hi)
   obtain ⟨b',u0',_,e2',e3'⟩:=up j _ (vy hj)
   have ap:=cg hp (fun _ _=>Apart3.symm) (vK lt) e2 e2'
   rw [e3,e3']
   obtain ⟨_,a2,a3,a4⟩:=cH b u0
   obtain ⟨_,b2,b3,b4⟩:=cH b' u0'
   exact ⟨ap.1.low a2 a4 b3,ap.2.low b2 b4 a3⟩
  have hpr:∀ (i:Nat) (u:It3),ps'[i]?=some u->u.f ≠ .z->prM mask i=true:=fun i u e hf=>by
   obtain ⟨b,u0,e1,e2,e3⟩:=up i u e
   unfold prM
   rw [e1]
   cases b with
   | false=>rfl
   | true=>rw [e3] at hf;exact absurd rfl hf
  have alls:∀ c,cv ps' c->cv ps c:=fun c ⟨u,hu,hc⟩=>by
   obtain ⟨b,u0,h0,rfl⟩:=upm u hu
   exact ⟨u0,h0,by rw [<- (cH b u0).2.2.1];exact hc⟩
  have lift:∀ {H':Hp} {qs:List It3},BehindX K H H' ps' qs->BehindX K H H' ps qs:=fun {H' qs} B=>by
   refine ⟨fun b o hb hn=>B.frame b o hb fun u hu hf hv=>?_,Paired.ofGet ?_ fun k u v eu ev=>?_,B.apart⟩
   ·obtain ⟨b',u0,h0,rfl⟩:=upm u hu
    obtain ⟨_,e2,_,e4⟩:=cH b' u0
    rcases e4 with f | f
    ·exact hn u0 h0 (by rw [<- f];exact hf) (by rw [<- e2];exact hv)
    ·rw [f] at hf;cases hf
   ·rw [<- hl'];exact Paired.length B.back
   ·obtain ⟨b,_,e2⟩:=kC (mask:=mask) hl eu
    rw [hps] at e2
    have b1:=Paired.at B.back e2 ev
    obtain ⟨a1,a2,a3,a4⟩:=cH b u
    refine ⟨fun hz=>?_,by rw [b1.v,a2],?_,b1.arg,fun c hc=>(b1.src c hc).imp id (alls c),fun hf b' hb'=>?_⟩
    ·have:cI b u=u:=by
      cases b
      ·rfl
      ·obtain ⟨d,v,L,f⟩:=u
       have hz:f=.z:=hz
       subst hz;rfl
     rw [<- this]
     exact b1.z (by rw [this];exact hz)
    ·rcases b1.f with h | h
     ·rcases a4 with f | f
      ·exact .inl (h.trans f)
      ·exact .inr (h.trans f)
     ·exact .inr h
    ·rcases a4 with f | f
     ·exact b1.there (by rw [f];exact hf) b' (by rw [a2];exact hb')
     ·-- lowered: as it was
      obtain ⟨_,a,L',v1,v2,_⟩:=(ha u (vE eu)).own (by rw [hf];intro q;cases q)
      rw [hb'] at v1;cases v1
      have hq:=b1.z f
      have r:=b1.arg.rep
      rw [hq,a1,a2,a3] at r
      exact (r.inH b' (by rw [v2];exact vo)).ex
  have hnn:ps'.length<=n:=by omega
  have wf:=n9 (K:=K) (H:=H) (n:=n) (pr:=prM mask) hnn ha' hp' hpr
  rw [hv] at wf
  refine ⟨gOf H (prM mask) ((ps.map (·.v)).map some ++ List.replicate (n - (ps.map (·.v)).length) none) ps',rfl,?_⟩
  have h0:∀ (i:Nat) (u:It3),ps'[i]?=some u->((ps.map (·.v)).map some ++ List.replicate (n - (ps.map (·.v)).length) none)[i]?=some (some u.v):=fun i u e=>iJ (by rw [<- hv];exact rO e)
  unfold fn0 at hF
  cases e:m (gf n (ps'.map fun p=>(p.d,p.f))) with
  | none=>rw [e] at hF;exact nsE hF
  | some rr =>
   obtain ⟨r,ρ2⟩:=rr
   rw [e] at hF
   refine tS.mk (r:=r) (Le.refl K _ _) wf e ?_
   have fin:∀ {x:It3} {σ':St} {H':Hp} {g':Nat->Option It3} {d:D} {f:Fl},Wf K (gOf H (prM mask) ((ps.map (·.v)).map some ++ List.replicate (n - (ps.map (·.v)).length) none) ps') H' σ' ρ2 [x] g'->x.d=d->x.f=f ->
     ((eI ρ2 0 (ps'.map fun p=>(p.d,p.f))).map fun fs=>((.ok (d,f),fs):Except D (D × Fl) × List (D × Fl)))=some (.ok p,fs)->Q x.v H':=fun {x σ' H' g' d f} w1 xd xf hF=>by
    cases e5:eI ρ2 0 (ps'.map fun p=>(p.d,p.f)) with
    | none=>rw [e5] at hF;exact nsE hF
    | some fs' =>
     rw [e5] at hF
     cases hF
     obtain ⟨qs,B,hq⟩:=lJ (n:=n) ha' hp' hpr h0 w1 e5
     have BX:=lift B.toBehindX
     exact q x qs H' ⟨BX,B.rep,B.own,fun c hc=>(B.src c hc).imp id (alls c),B.apx⟩ xd xf hq
   cases r with
   | error er=>
    dsimp only at hF
    cases e5:eI ρ2 0 (ps'.map fun p=>(p.d,p.f)) with
    | none=>rw [e5] at hF;exact nsE hF
    | some fs'=>rw [e5] at hF;cases hF
   | ok fl =>
    cases fl with
    | nx =>
     intro σ' H' g' w1
     obtain ⟨Ts,g2,w2,a2⟩:=w1.const .non
     obtain ⟨x,rfl,x1,x2,x3⟩:=a2.val_inv
     have:=fin w2 x1 x2 hF
     rw [x3] at this
     exact this
    | br=>exact nsE hF
    | ct=>exact nsE hF
    | rt d f =>
     intro x σ' H' g' w1 x1 x2
     exact fin w1 x1 x2 hF
 ·exact nsE hF
end
noncomputable abbrev bq (P:Program) (w:World) (K:FG) (mg:Str->Option Value) (base:Heap) (x:Str) (k:Nat) (ps:List Str) (F:Fn):Prop:=Callee P w K mg base x k ps (mQ K F)
set_option tactic.hygienic true in
theorem bG {P:Program} {w:World} {K:FG} {mg:Str->Option Value} {base:Heap} {x:Str} {st:Stmt} {k:Nat} {N ps:List Str} {mask:List Bool} {m:SM} {nn:Nat} (D:Def K mg x st) (S:FnScope N ps (ag st)) (hml:mask.length=ps.length) (hnn:N.length=nn)
  (hb:∀ (kV doc pm:Value) (an:Option Addr) (cdv ct:Value) (us:List Value),us.length=ps.length->bindArgs (PySem.W.fnOf x x (aP st) (aG st) (ag st) .none kV doc pm an cdv ct) ⟨us,[]⟩=pure (ps.zip us))
  (body:∀ (cdv:Value) (A:Around) (outer:List Env) (s:Shared) (H:Hp) (E:XK) (f:Addr) (G:Gm),Room k (A.deeper (PyProof.Rows.envOfC x (ag st) s.heap.objs.size f cdv))->G.pr=prM mask->RSs (kK CX0 P w K mg base N x (ag st) f cdv A outer s H E).nox G noX (aG st) m) :
  bq P w K mg base x (k+1) ps (fnM mask nn m):=by
 refine D.callee hb fun f fd F=>F.ok S (fun vs H Q E h=>?_) fun cdv A outer s H vs Q E hr h=>?_
 ·obtain ⟨ps',p,fs,rfl,_,_,hF,_⟩:=h
  unfold fnM at hF
  rw [vC] at hF ⊢
  split at hF
  ·rename_i e;rw [e,hml]
  ·exact nsE hF
 ·have hle:mask.length<=nn:=by
   rw [hml,<- hnn]
   have:=congrArg List.length S.pre
   rw [vU] at this
   omega
  obtain ⟨G,hG,ht⟩:=mw hle h
  subst hnn
  exact ⟨_,(body cdv A outer s H E f G hr hG).h,ht⟩
theorem aI {X:Cx} {G0:Gm} {W0:D->Sto->Prop} {x:Str} {p pos:Pos} {e:Expr} {es:List Expr} {ms:M3 (List R3)} {k:Nat} {ps:List Str} {F:Fn} (c:bq X.prog X.w X.K X.mg X.base x k ps F) (hr:Room k X.A) (ha:RA X G0 W0 (e :: es) ms) (hg:Gl X x) (hdb:(x == ("__debug__":Str))=false)
  (he:starEach (e :: es) X.env=(false,eval e X.env) :: starEach es X.env) (hpl:(backTo pos (starEach es X.env)).any (·.1)=false):RE X G0 W0 (.Call (.Name x p) (e :: es) [] pos) (aJ F ms) :=
 ⟨PE.imp (pe_fn c hr ha.h hg hdb he hpl) fun _ _ _ h=>ol h⟩
end L3
end
section
namespace L3
open PySem L2
noncomputable def orD (f g:D->D->Option (D × Fl)) (a b:D):Option (D × Fl):=match f a b with
 | some p=>some p
 | none=>g a b
section
variable {K:FG} {H:Hp} {Ks:Addr->Prop} {d:D} {v:V} {L:List Addr} {X:Cx}
theorem fy (r:Rep K H d v []):New K H H Ks ⟨d,v,[],.z⟩:=⟨Same.refl _,r,fun _ h=>(by cases h),fun h=>absurd rfl h⟩
theorem lg (r:Rep K H d v L) (h:∀ c ∈ L,Ks c):New K H H Ks ⟨d,v,L,.z⟩:=⟨Same.refl _,r,fun c hc=>.inr (h c hc),fun h=>absurd rfl h⟩
theorem newL {p:Addr} {ds:List D} {vs:List V} (hp:H p=none) (r:Reps (Rep K H) ds vs L) (h:∀ c ∈ L,Ks c):New K H (upd H p (.lst vs)) Ks ⟨.lst ds,.ref p,p :: L,.u⟩:=by
 have np:p ∉ L:=fun hc=>by obtain ⟨o,ho⟩:=(r.inH p hc).ex;rw [hp] at ho;exact nsE ho
 refine ⟨bm hp,.lst aL (r.same (bm hp)),fun c hc=>?_,fun _=>⟨rfl,p,L,rfl,rfl,np,hp⟩⟩
 rcases vx.mp hc with e | hc
 ·rw [e];exact .inl hp
 ·exact .inr (h c hc)
theorem uF {p:Addr} {ds:List D} {vs:List V} (hp:H p=none) (r:Reps (Rep K H) ds vs L) (h:∀ c ∈ L,Ks c):New K H (upd H p (.tup vs)) Ks ⟨.tup ds,.ref p,L,.z⟩ :=
 ⟨bm hp,.tup aL (r.same (bm hp)),fun c hc=>.inr (h c hc),fun h=>absurd rfl h⟩
theorem iu {y:It3} {ys:List It3} (hy:y ∈ ys) (h:Arg K H y) (hm:fD y.d=false):∀ c ∈ y.L,c9 ys c:=fun c hc=>⟨y,hy,hc,fun hf=>by
 have:=(h.own hf).1
 rw [hm] at this;cases this⟩
theorem nw {y:It3} {ys:List It3} {a:Addr} {L:List Addr} (hy:y ∈ ys) (h:Arg K H y) (hv:y.v=.ref a) (hL:y.L=a :: L):∀ c ∈ L,c9 ys c:=fun c hc=>⟨y,hy,by rw [hL];exact vp _ hc,fun hf e=>by
 obtain ⟨_,a',L',v1,v2,v3⟩:=h.own hf
 rw [hv] at v1;cases v1
 rw [hL] at v2;cases v2
 rw [hv] at e;cases e
 exact v3 hc⟩
theorem OpD.or {r r':R2} {f g:D->D->Option (D × Fl)} (h:OpD K r f) (h':OpD K r' g):OpD K (fun x y H Q=>r x y H Q\/r' x y H Q) (orD f g):=fun a b H Q p ra rb e q=>by
 unfold orD at e
 cases ef:f a.d b.d with
 | some p'=>rw [ef] at e;cases e;exact .inl (h a b H Q _ ra rb ef q)
 | none=>rw [ef] at e;exact .inr (h' a b H Q p ra rb e q)
noncomputable def dB (C:Int->Int->Bool) (g:Int->Int->D):D->D->Option (D × Fl)
 | .int i,.int j=>if C i j then some (g i j,.z) else none
 | _,_=>none
set_option tactic.hygienic true in
theorem eD {C:Int->Int->Prop} {Cb:Int->Int->Bool} {g:Int->Int->V} {gd:Int->Int->D} (hC:∀ i j,Cb i j=true->C i j) (hg:∀ i j H,Rep K H (gd i j) (g i j) []):OpD K (rI C g) (dB Cb gd):=fun a b H Q p ra rb e q=>by
 obtain ⟨da,va,La,fa⟩:=a
 obtain ⟨db,vb,Lb,fb⟩:=b
 obtain ⟨ra,oa⟩:=ra
 obtain ⟨rb,ob⟩:=rb
 dsimp only at ra rb
 cases da <;> try (exact nsE e)
 rename_i i
 obtain ⟨rfl,rfl⟩:=ra.view
 cases db <;> try (exact nsE e)
 rename_i j
 obtain ⟨rfl,rfl⟩:=rb.view
 have e:(if Cb i j then some (gd i j,Fl.z) else none)=some p:=e
 split at e
 ·rename_i hc
  cases e
  exact ⟨i,j,rfl,rfl,hC i j hc,q ⟨gd i j,g i j,[],.z⟩ H (fy (hg i j H)) rfl rfl⟩
 ·exact nsE e
theorem rI_of {g:Int->Int->V}:rI0 g=rI (fun _ _=>True) g:=by
 funext x y H Q
 unfold rI0 rI
 apply propext
 constructor
 ·rintro ⟨i,j,a,b,c⟩;exact ⟨i,j,a,b,trivial,c⟩
 ·rintro ⟨i,j,a,b,_,c⟩;exact ⟨i,j,a,b,c⟩
theorem df {g:Int->Int->V} {gd:Int->Int->D} (hg:∀ i j H,Rep K H (gd i j) (g i j) []):OpD K (rI0 g) (dB (fun _ _=>true) gd):=by
 rw [rI_of]
 exact eD (fun _ _ _=>trivial) hg
noncomputable abbrev mN:Int->Int->Bool:=fun _ _=>true
noncomputable abbrev vi:=dB mN fun i j=>.int (i+j)
noncomputable abbrev subI:=dB mN fun i j=>.int (i - j)
noncomputable abbrev gN:=dB (fun i j=>decide ((-(2 ^ 64) < i/\i < 2 ^ 64)\/(-(2 ^ 64) < j/\j < 2 ^ 64))) fun i j=>.int (i * j)
noncomputable abbrev lh:=dB (fun _ j=>decide (0 < j)) fun i j=>.int (i % j)
noncomputable abbrev ltI:=dB mN fun i j=>.bl (decide (i < j))
noncomputable abbrev leI:=dB mN fun i j=>.bl (decide (i<=j))
noncomputable abbrev gtI:=dB mN fun i j=>.bl (decide (j < i))
theorem od_addI:OpD K (rI0 fun i j=>.int (i+j)) vi:=df fun i j _=>.int _
theorem rH:OpD K (rI0 fun i j=>.int (i - j)) subI:=df fun i j _=>.int _
theorem dw:OpD K (rI CMul fun i j=>.int (i * j)) gN:=eD (fun i j h=>by simpa [CMul,qw,qu] using h) fun i j _=>.int _
theorem fw:OpD K (rI (fun _ j=>0 < j) fun i j=>.int (i % j)) lh:=eD (fun i j h=>by simpa [CMul,qw,qu] using h) fun i j _=>.int _
theorem od_lt:OpD K (rI0 fun i j=>.bl (decide (i < j))) ltI:=df fun i j _=>.bl _
theorem po:OpD K (rI0 fun i j=>.bl (decide (i<=j))) leI:=df fun i j _=>.bl _
theorem od_gt:OpD K (rI0 fun i j=>.bl (decide (j < i))) gtI:=df fun i j _=>.bl _
noncomputable def qe:D->D->Option (D × Fl)
 | .tup xs,.tup ys=>if xs.length+ys.length<=16777216 then some (.tup (xs ++ ys),.z) else none
 | _,_=>none
noncomputable def u7:D->D->Option (D × Fl)
 | .lst xs,.lst ys=>if xs.length+ys.length<=16777216 then some (.lst (xs ++ ys),.u) else none
 | _,_=>none
noncomputable def sj:D->D->Option (D × Fl)
 | .str xs,.str ys=>if xs.length+ys.length<=16777216 then some (.str (xs ++ ys),.z) else none
 | _,_=>none
theorem Reps.len {ds:List D} {vs:List V} (r:Reps (Rep K H) ds vs L):ds.length=vs.length:=by
 induction r with
 | nil=>rfl
 | cons _ _ ih=>simp [ih]
theorem Reps.append {ds ds':List D} {vs vs':List V} {L L':List Addr} (r:Reps (Rep K H) ds vs L) (r':Reps (Rep K H) ds' vs' L'):Reps (Rep K H) (ds ++ ds') (vs ++ vs') (L ++ L'):=by
 induction r with
 | nil=>exact r'
 | cons a _ ih=>rw [List.append_assoc];exact .cons a ih
theorem Reps.nil_iff {ds:List D} {vs:List V} (r:Reps (Rep K H) ds vs L):ds=[] ↔ vs=[]:=by cases r <;> simp
noncomputable def jh (K:FG):R2:=fun x y H Q=>∃ a b ys,x=.ref a/\y=.ref b/\SqT K H a []/\SqT K H b ys/\Q (.ref b) H
theorem pk:OpR X (binaryOp .Add) (jh X.K):=by
 intro pins s σ H x y v u Q I rx ry h
 obtain ⟨a,b,ys,rfl,rfl,ha,hb,q⟩:=h
 cases rx
 cases ry
 obtain ⟨its,r1,p1,_⟩:=I.tuple ha
 obtain ⟨its2,r2,p2,_⟩:=I.tuple hb
 have e:its=[]:=r1.nil_iff.mpr rfl
 subst e
 obtain ⟨⟨cls,dd,data,sl⟩,ho,hc,n,hd⟩:=id p1
 obtain ⟨⟨cls2,dd2,data2,sl2⟩,ho2,hc2,n2,hd2⟩:=id p2
 simp only at hc hd hc2 hd2
 subst hc hd hc2 hd2
 exact concat_meets ⟨_,ho,rfl⟩ ⟨_,ho2,rfl⟩ noFill_tuple_add seq_tuple_add PySem.F.slot_tuple_add PySem.F.entry_tuple_add (PySem.F.args_tuple_add_2 _ _)
   (PyProof.Rows.tuple_addW0 a b _ _ n n2 dd dd2 sl sl2 (by simp)) ⟨ho,ho2,⟨.ref b,H,I,rfl,q⟩⟩
set_option tactic.hygienic true in
theorem od_catT:OpD K (fun x y H Q=>l8 K x y H Q\/jh K x y H Q) qe:=fun a b H Q p ra rb e q=>by
 obtain ⟨da,va,La,fa⟩:=a
 obtain ⟨db,vb,Lb,fb⟩:=b
 obtain ⟨ra,oa⟩:=ra
 obtain ⟨rb,ob⟩:=rb
 dsimp only at ra rb
 cases da <;> try (exact nsE e)
 rename_i xs
 obtain ⟨pa,vs,rfl,ha,rs⟩:=ra.view
 cases db <;> try (exact nsE e)
 rename_i ys
 obtain ⟨pb,ws,rfl,hb,rs'⟩:=rb.view
 have e:(if xs.length+ys.length<=16777216 then some (D.tup (xs ++ ys),Fl.z) else none)=some p:=e
 split at e
 ·rename_i hl
  cases e
  by_cases hx:vs=[]
  ·have hx0:=rs.nil_iff.mpr hx
   subst hx hx0
   refine .inr ⟨pa,pb,ws,rfl,rfl,SqT.of ha,SqT.of hb,?_⟩
   exact q ⟨.tup ys,.ref pb,Lb,.z⟩ H (lg (.tup hb rs') (iu (y:=⟨.tup ys,.ref pb,Lb,fb⟩) (vp _ (vX.mpr rfl)) ⟨.tup hb rs',ob⟩ rfl)) rfl rfl
  ·refine .inl ⟨pa,pb,vs,ws,rfl,rfl,SqT.of ha,SqT.of hb,hx,by rw [<- rs.len,<- rs'.len,<- szl];exact hl,fun hw=>?_,fun hw p hp=>?_⟩
   ·have hy0:=rs'.nil_iff.mpr hw
    subst hy0
    refine q ⟨.tup (xs ++ []),.ref pa,La,.z⟩ H (lg (by rw [List.append_nil];exact .tup ha rs) (iu (y:=⟨.tup xs,.ref pa,La,fa⟩) vo ⟨.tup ha rs,oa⟩ rfl)) rfl rfl
   ·refine q ⟨.tup (xs ++ ys),.ref p,La ++ Lb,.z⟩ _ (uF hp (rs.append rs') fun c hc=>?_) rfl rfl
    rcases vA.mp hc with h | h
    ·exact iu (y:=⟨.tup xs,.ref pa,La,fa⟩) vo ⟨.tup ha rs,oa⟩ rfl c h
    ·exact iu (y:=⟨.tup ys,.ref pb,Lb,fb⟩) (vp _ (vX.mpr rfl)) ⟨.tup hb rs',ob⟩ rfl c h
 ·exact nsE e
set_option tactic.hygienic true in
theorem rL:OpD K re u7:=fun a b H Q p ra rb e q=>by
 obtain ⟨da,va,La,fa⟩:=a
 obtain ⟨db,vb,Lb,fb⟩:=b
 obtain ⟨ra,oa⟩:=ra
 obtain ⟨rb,ob⟩:=rb
 dsimp only at ra rb
 cases da <;> try (exact nsE e)
 rename_i xs
 obtain ⟨pa,vs,La,rfl,rfl,ha,rs⟩:=ra.view
 cases db <;> try (exact nsE e)
 rename_i ys
 obtain ⟨pb,ws,Lb,rfl,rfl,hb,rs'⟩:=rb.view
 have e:(if xs.length+ys.length<=16777216 then some (D.lst (xs ++ ys),Fl.u) else none)=some p:=e
 split at e
 ·rename_i hl
  cases e
  refine ⟨pa,pb,vs,ws,rfl,rfl,ha,hb,by rw [<- rs.len,<- rs'.len,<- szl];exact hl,fun p hp=>?_⟩
  refine q ⟨.lst (xs ++ ys),.ref p,p :: (La ++ Lb),.u⟩ _ (newL hp (rs.append rs') fun c hc=>?_) rfl rfl
  rcases vA.mp hc with h | h
  ·exact nw (y:=⟨.lst xs,.ref pa,pa :: La,fa⟩) vo ⟨.lst ha rs,oa⟩ rfl rfl c h
  ·exact nw (y:=⟨.lst ys,.ref pb,pb :: Lb,fb⟩) (vp _ (vX.mpr rfl)) ⟨.lst hb rs',ob⟩ rfl rfl c h
 ·exact nsE e
set_option tactic.hygienic true in
theorem od_catS:OpD K (fun x y H Q=>∃ i j,x=.str i/\y=.str j/\i.length+j.length<=sizeLine/\Q (.str (i ++ j)) H) sj:=fun a b H Q p ra rb e q=>by
 obtain ⟨da,va,La,fa⟩:=a
 obtain ⟨db,vb,Lb,fb⟩:=b
 obtain ⟨ra,oa⟩:=ra
 obtain ⟨rb,ob⟩:=rb
 dsimp only at ra rb
 cases da <;> try (exact nsE e)
 rename_i i
 obtain ⟨rfl,rfl⟩:=ra.view
 cases db <;> try (exact nsE e)
 rename_i j
 obtain ⟨rfl,rfl⟩:=rb.view
 have e:(if i.length+j.length<=16777216 then some (D.str (i ++ j),Fl.z) else none)=some p:=e
 split at e
 ·rename_i hl
  cases e
  exact ⟨i,j,rfl,rfl,by rw [<- szl];exact hl,q ⟨.str (i ++ j),.str (i ++ j),[],.z⟩ H (fy (.str _)) rfl rfl⟩
 ·exact nsE e
noncomputable abbrev dE:=orD vi (orD sj (orD qe u7))
theorem bt:OpD K (fun x y H Q=>rI0 (fun i j=>.int (i+j)) x y H Q\/((∃ i j,x=.str i/\y=.str j/\i.length+j.length<=sizeLine/\Q (.str (i ++ j)) H)\/((l8 K x y H Q\/jh K x y H Q)\/re x y H Q))) dE:=od_addI.or (od_catS.or (od_catT.or rL))
theorem aV:OpR X (binaryOp .Add) (fun x y H Q=>rI0 (fun i j=>.int (i+j)) x y H Q\/((∃ i j,x=.str i/\y=.str j/\i.length+j.length<=sizeLine/\Q (.str (i ++ j)) H)\/((l8 X.K x y H Q\/jh X.K x y H Q)\/re x y H Q))):=op_add.or (op_add_str.or ((op_catT.or pk).or uw))
noncomputable def eqS:D->D->Option Bool
 | .non,.non=>some true | .non,.int _=>some false | .int _,.non=>some false | .non,.bl _=>some false | .bl _,.non=>some false | .non,.str _=>some false | .str _,.non=>some false
 | .int i,.int j=>some (decide (i=j)) | .bl i,.bl j=>some (decide (i=j)) | .str i,.str j=>some (decide (i=j))
 | .int _,.str _=>some false | .str _,.int _=>some false | .bl _,.str _=>some false | .str _,.bl _=>some false
 | _,_=>none
theorem pZ {a b:D} {u v:V} {L L':List Addr} {k:Bool} (ra:Rep K H a u L) (rb:Rep K H b v L') (e:eqS a b=some k):tR u v=true/\k=decide (u=v):=by
 cases a <;> cases b <;> first | exact nsE e | (obtain ⟨rfl,rfl⟩:=ra.view;obtain ⟨rfl,rfl⟩:=rb.view;cases e;exact ⟨rfl,by simp⟩)
theorem Reps.at:∀ {ds:List D} {vs:List V} {L:List Addr} {i:Nat} {d:D},Reps (Rep K H) ds vs L->ds[i]?=some d->∃ v L',vs[i]?=some v/\Rep K H d v L'/\∀ c ∈ L',c ∈ L
 | _,_,_,_,_,.nil,h=>by simp at h
 | _,_,_,0,_,.cons r _,h=>by simp at h;subst h;exact ⟨_,_,rfl,r,fun c hc=>vv _ hc⟩
 | _,_,_,i+1,_,.cons _ t,h=>by
  obtain ⟨v,L',h1,h2,h3⟩:=Reps.at (i:=i) t (by simpa using h)
  exact ⟨v,L',by simpa using h1,h2,fun c hc=>vw _ (h3 c hc)⟩
theorem Reps.atI {ds:List D} {vs:List V} {i:Int} {d:D} (r:Reps (Rep K H) ds vs L) (h:atI ds i=some d):∃ v L',atI vs i=some v/\Rep K H d v L'/\∀ c ∈ L',c ∈ L:=by
 unfold L2.atI at h ⊢
 rw [<- r.len]
 cases e:ixN ds.length i with
 | none=>rw [e] at h;exact nsE h
 | some j=>rw [e] at h;exact r.at h
noncomputable def ixD:D->D->Option (D × Fl)
 | .lst xs,.int i=>(atI xs i).map fun d=>(d,.z)
 | .fls xs,.int i=>(atI xs i).map fun d=>(d,.z)
 | .tup xs,.int i=>(atI xs i).map fun d=>(d,.z)
 | _,_=>none
set_option tactic.hygienic true in
theorem od_ix:OpD K (fun x y H Q=>o3 K x y H Q\/oZ K x y H Q) ixD:=fun a b H Q p ra rb e q=>by
 obtain ⟨da,va,La,fa⟩:=a
 obtain ⟨db,vb,Lb,fb⟩:=b
 obtain ⟨rb,ob⟩:=rb
 have ra0:=ra
 obtain ⟨ra,oa⟩:=ra
 dsimp only at ra rb
 cases da <;> try (exact nsE e)
 all_goals (cases db <;> try (exact nsE e))
 all_goals (rename_i xs i;obtain ⟨rfl,rfl⟩:=rb.view)
 ·obtain ⟨pa,vs,rfl,ha,rs⟩:=ra.view
  obtain ⟨d,h1,h2⟩:=vt.mp (show (atI xs i).map (fun d=>(d,Fl.z))=some p from e)
  subst h2
  obtain ⟨v,L',g1,g2,g3⟩:=rs.atI h1
  refine .inr ⟨pa,vs,i,v,rfl,rfl,SqT.of ha,g1,q ⟨d,v,L',.z⟩ H (lg g2 fun c hc=>?_) rfl rfl⟩
  exact iu (y:=⟨.tup xs,.ref pa,La,fa⟩) vo ra0 rfl c (g3 c hc)
 ·obtain ⟨pa,vs,La,rfl,rfl,ha,rs⟩:=ra.view
  obtain ⟨d,h1,h2⟩:=vt.mp (show (atI xs i).map (fun d=>(d,Fl.z))=some p from e)
  subst h2
  obtain ⟨v,L',g1,g2,g3⟩:=rs.atI h1
  refine .inl ⟨pa,vs,i,v,rfl,rfl,SqL.of ha,g1,q ⟨d,v,L',.z⟩ H (lg g2 fun c hc=>?_) rfl rfl⟩
  exact nw (y:=⟨.lst xs,.ref pa,pa :: La,fa⟩) vo ra0 rfl rfl c (g3 c hc)
 ·obtain ⟨pa,vs,rfl,ha,rs⟩:=ra.view
  obtain ⟨d,h1,h2⟩:=vt.mp (show (atI xs i).map (fun d=>(d,Fl.z))=some p from e)
  subst h2
  obtain ⟨v,L',g1,g2,g3⟩:=rs.atI h1
  refine .inl ⟨pa,vs,i,v,rfl,rfl,ha.sq,g1,q ⟨d,v,L',.z⟩ H (lg g2 fun c hc=>?_) rfl rfl⟩
  exact iu (y:=⟨.fls xs,.ref pa,La,fa⟩) vo ra0 rfl c (g3 c hc)
theorem ix_ok:IxR X (fun x y H Q=>o3 X.K x y H Q\/oZ X.K x y H Q):=ix_list.or uP
end
end L3
end
section
namespace L3
open PySem L2
section
variable {K:FG} {H:Hp} {Ks:Addr->Prop} {d:D} {v:V} {L:List Addr} {X:Cx}
noncomputable def c1 (f:D->Option (D × Fl)):List D->Option (D × Fl)
 | [d]=>f d
 | _=>none
noncomputable def c2 (f:D->D->Option (D × Fl)):List D->Option (D × Fl)
 | [d,d']=>f d d'
 | _=>none
theorem ie {ys:List It3} {f:D->Option (D × Fl)} {p:D × Fl} (e:c1 f (ys.map (·.d))=some p):∃ y,ys=[y]/\f y.d=some p:=by
 match ys,e with
 | [],e=>exact nsE e
 | [y],e=>exact ⟨y,rfl,e⟩
 | _ :: _ :: _,e=>exact nsE e
theorem qg {ys:List It3} {f:D->D->Option (D × Fl)} {p:D × Fl} (e:c2 f (ys.map (·.d))=some p):∃ y z,ys=[y,z]/\f y.d z.d=some p:=by
 match ys,e with
 | [],e=>exact nsE e
 | [_],e=>exact nsE e
 | [y,z],e=>exact ⟨y,z,rfl,e⟩
 | _ :: _ :: _ :: _,e=>exact nsE e
noncomputable def lenQ:D->Option (D × Fl)
 | .lst xs=>some (.int xs.length,.z)
 | .fls xs=>some (.int xs.length,.z)
 | .tup xs=>some (.int xs.length,.z)
 | _=>none
noncomputable abbrev fB:=c1 lenQ
set_option tactic.hygienic true in
theorem d8:fM K (fun xs H Q=>∃ p ys,xs=[.ref p]/\(SqL K H p ys\/SqT K H p ys)/\Q (.int ys.length) H) fB:=fun ys H Q p ra e q=>by
 obtain ⟨y,rfl,e2⟩:=ie e
 clear e
 have e:=e2
 clear e2
 have rr:=(ra y vo).rep
 obtain ⟨da,va,La,fa⟩:=y
 dsimp only at rr e
 cases da <;> try (exact nsE e)
 ·rename_i xs
  obtain ⟨pa,vs,rfl,ha,rs⟩:=rr.view
  cases e
  exact ⟨pa,vs,rfl,.inr (SqT.of ha),by rw [<- rs.len];exact q ⟨_,_,[],.z⟩ H (fy (.int _)) rfl rfl⟩
 ·rename_i xs
  obtain ⟨pa,vs,La,rfl,rfl,ha,rs⟩:=rr.view
  cases e
  exact ⟨pa,vs,rfl,.inl (SqL.of ha),by rw [<- rs.len];exact q ⟨_,_,[],.z⟩ H (fy (.int _)) rfl rfl⟩
 ·rename_i xs
  obtain ⟨pa,vs,rfl,ha,rs⟩:=rr.view
  cases e
  exact ⟨pa,vs,rfl,.inl ha.sq,by rw [<- rs.len];exact q ⟨_,_,[],.z⟩ H (fy (.int _)) rfl rfl⟩
noncomputable def tupQ:D->Option (D × Fl)
 | .lst xs=>some (.tup xs,.z)
 | .tup xs=>some (.tup xs,.z)
 | _=>none
noncomputable abbrev qB:=c1 tupQ
set_option tactic.hygienic true in
theorem u6:fM K (fun xs H Q=>∃ p ys,xs=[.ref p]/\((SqL K H p ys/\∀ l,H l=none->Q (.ref l) (upd H l (.tup ys)))\/(SqT K H p ys/\Q (.ref p) H))) qB:=fun ys H Q p ra e q=>by
 obtain ⟨y,rfl,e2⟩:=ie e
 clear e
 have e:=e2
 clear e2
 have ry:=ra y vo
 have rr:=ry.rep
 obtain ⟨da,va,La,fa⟩:=y
 dsimp only at rr e
 cases da <;> try (exact nsE e)
 ·rename_i xs
  obtain ⟨pa,vs,rfl,ha,rs⟩:=rr.view
  cases e
  exact ⟨pa,vs,rfl,.inr ⟨SqT.of ha,q ⟨.tup xs,.ref pa,La,.z⟩ H (lg (.tup ha rs) (iu (y:=⟨.tup xs,.ref pa,La,fa⟩) vo ry rfl)) rfl rfl⟩⟩
 ·rename_i xs
  obtain ⟨pa,vs,La,rfl,rfl,ha,rs⟩:=rr.view
  cases e
  exact ⟨pa,vs,rfl,.inl ⟨SqL.of ha,fun l hl=>q ⟨.tup xs,.ref l,La,.z⟩ _ (uF hl rs (nw (y:=⟨.lst xs,.ref pa,pa :: La,fa⟩) vo ry rfl rfl)) rfl rfl⟩⟩
noncomputable def absQ:D->Option (D × Fl)
 | .int i=>some (.int (if i < 0 then -i else i),.z)
 | _=>none
theorem Rep.int_inv {i:Int} (r:Rep K H (.int i) v L):v=.int i:=by cases r;rfl
noncomputable def pL (C:Int->Int->Bool) (g:Int->Int->D):D->D->Option (D × Fl)
 | .int i,.int j=>if C i j then some (g i j,.z) else none
 | _,_=>none
set_option tactic.hygienic true in
theorem nF {a b:D} {C:Int->Int->Bool} {g:Int->Int->D} {p:D × Fl} (e:pL C g a b=some p):∃ i j,a=.int i/\b=.int j/\C i j=true/\p=(g i j,.z):=by
 cases a <;> cases b <;> try (exact nsE e)
 rename_i i j
 have e:(if C i j then some (g i j,Fl.z) else none)=some p:=e
 split at e
 ·rename_i h;cases e;exact ⟨i,j,rfl,rfl,h,rfl⟩
 ·exact nsE e
noncomputable abbrev p6:=c2 (pL (fun _ j=>decide (0 < j/\j < 1073741824)) fun i j=>.tup [.int (i / j),.int (i % j)])
theorem nO:fM K (fun xs H Q=>∃ i j,xs=[.int i,.int j]/\qw i j/\∀ p,H p=none->Q (.ref p) (upd H p (.tup [.int (i / j),.int (i % j)]))) p6:=fun ys H Q p ra e q=>by
 obtain ⟨y,z,rfl,e2⟩:=qg e
 clear e
 have e:=e2
 clear e2
 obtain ⟨i,j,ei,ej,hc,rfl⟩:=nF e
 have r1:=(ra y vo).rep
 have r2:=(ra z (vp _ vo)).rep
 rw [ei] at r1
 rw [ej] at r2
 refine ⟨i,j,?_,by simpa [qw] using hc,fun p hp=>q ⟨_,.ref p,[],.z⟩ _ (uF hp (L:=[]) (.cons (L:=[]) (.int _) (.cons (L:=[]) (.int _) .nil)) fun c hc=>by cases hc) rfl rfl⟩
 show [y.v,z.v]=_
 rw [r1.int_inv,r2.int_inv]
noncomputable def kS:List D->Option (List Bool)
 | []=>some []
 | .bl b :: ds=>(kS ds).map (b :: ·)
 | _=>none
set_option tactic.hygienic true in
theorem kR:∀ {ds:List D} {bs:List Bool},kS ds=some bs->ds=bs.map D.bl
 | [],bs,e=>by cases e;rfl
 | d :: ds,bs,e=>by
  cases d <;> try (exact nsE e)
  rename_i b
  obtain ⟨r,h1,h2⟩:=vt.mp (show (kS ds).map (b :: ·)=some bs from e)
  subst h2
  rw [kR h1];rfl
theorem Reps.bls:∀ {bs:List Bool} {vs:List V} {L:List Addr},Reps (Rep K H) (bs.map D.bl) vs L->vs=bs.map V.bl
 | [],_,_,.nil=>rfl
 | b :: bs,_,_,.cons r rs=>by
  rw [Reps.bls rs]
  cases r;rfl
noncomputable def vh:D->Option (D × Fl)
 | .lst xs=>(kS xs).map fun bs=>(.bl (bs.all id),.z)
 | _=>none
noncomputable abbrev nZ:=c1 vh
set_option tactic.hygienic true in
theorem jx:fM K (fun xs H Q=>∃ (a:Addr) (bs:List Bool),xs=[.ref a]/\SqL K H a (bs.map V.bl)/\Q (.bl (bs.all id)) H) nZ:=fun ys H Q p ra e q=>by
 obtain ⟨y,rfl,e2⟩:=ie e
 clear e
 have e:=e2
 clear e2
 have rr:=(ra y vo).rep
 obtain ⟨da,va,La,fa⟩:=y
 dsimp only at rr e
 cases da <;> try (exact nsE e)
 rename_i xs
 obtain ⟨pa,vs,La,rfl,rfl,ha,rs⟩:=rr.view
 obtain ⟨bs,h1,h2⟩:=vt.mp (show (kS xs).map (fun bs=>(D.bl (bs.all id),Fl.z))=some p from e)
 subst h2
 have:=kR h1
 subst this
 have:=rs.bls
 subst this
 exact ⟨pa,bs,rfl,SqL.of ha,q ⟨_,_,[],.z⟩ H (fy (.bl _)) rfl rfl⟩
end
end L3
end
section
namespace L3
open PySem L2
noncomputable def sK:D->Option (List D)
 | .lst xs=>some xs
 | .fls xs=>some xs
 | .tup xs=>some xs
 | _=>none
noncomputable def cL (m:EM):IM:=ac m fun r=>ac (der r) fun d=>bd ((sK d).map fun ds=>([r],ds))
noncomputable def iSeq (K:FG) (tl:TE):TI:=fun σ H R=>tl σ H fun x H1=>(∃ a,x=.ref a/\(∃ xs,SqL K H1 a xs)/\R (Itl K a) H1)\/∃ a,x=.ref a/\(∃ xs,SqT K H1 a xs)/\R (Itt K a) H1
theorem ub {X:Cx} {tg l:Expr} {tl:TE} (hl:PE X l tl):PI X tg l (iSeq X.K tl):=by
 intro pins s σ H R I h
 exact thn (hl pins s σ H _ I h) fun v s1 ⟨x,H1,I1,r1,q1⟩=>by
   rcases q1 with ⟨a,e,⟨xs,hq⟩,q⟩ | ⟨a,e,⟨xs,hq⟩,q⟩
   ·subst e
    cases r1
    obtain ⟨its,rv,p,hz⟩:=I1.list hq
    refine wpAny_pyIter_list p.isList ?_
    refine ⟨s1.heap.objs.size,[s1.heap.objs.size],_,_,H1,rfl,I1.kept (t':=s1.toks) fun b o e=>vq _ e,mO a _,⟨_,vB _ rfl,rfl,rfl⟩,fun b hb=>?_,q⟩
    have e:b=s1.heap.objs.size:=by simpa using hb
    subst e
    exact I1.fpOk (vI _) (I1.hok.fresh (vI _))
   ·subst e
    cases r1
    obtain ⟨its,rv,p,hz⟩:=I1.tuple hq
    refine wpAny_pyIter_tuple (show s1.heap.IsTuple a its.toArray from p) ?_
    refine ⟨s1.heap.objs.size,[s1.heap.objs.size],_,_,H1,rfl,I1.kept (t':=s1.toks) fun b o e=>vq _ e,kW a _,⟨_,vB _ rfl,rfl,rfl⟩,fun b hb=>?_,q⟩
    have e:b=s1.heap.objs.size:=by simpa using hb
    subst e
    exact I1.fpOk (vI _) (I1.hok.fresh (vI _))
section
variable {K:FG} {G G0:Gm} {W W0:D->Sto->Prop} {H H':Hp} {σ:St} {ρ ρ':Sto} {T T':List It3} {g:Nat->Option It3} {x y z:It3} {α β:Type} {X:Cx}
theorem Ar.item2 {r:R3} {v:V} {Ts:List It3} {d:D} (w:Wf K G H σ ρ (Ts ++ T) g) (a:Ar σ r v Ts) (e:der r ρ=some (.ok d,ρ)):∃ y,y.d=d/\y.v=v/\((∃ i,i ∈ pls [r]/\g i=some y)\/y ∈ Ts):=by
 cases a with
 | @pl i v h =>
  have er:der (.pl i) ρ=((ρ[i]?).join).map fun p=>(.ok p.1,ρ):=rfl
  rw [er] at e
  cases q:(ρ[i]?).join with
  | none=>rw [q] at e;exact nsE e
  | some p =>
   rw [q] at e
   obtain ⟨y,e1,e2,e3,e4⟩:=w.slot (d:=p.1) (f:=p.2) q
   have e5:p.1=d:=by cases e;rfl
   rw [h] at e4
   injection e4 with e4
   injection e4 with e4
   exact ⟨y,e2.trans e5,e4.symm,.inl ⟨i,vo,e1⟩⟩
 | val x=>cases e;exact ⟨x,rfl,rfl,.inr (by simp)⟩
theorem jc {J:It} {H1:Hp} {y:It3} {ds:List D} {vs:List V} {L0:List Addr} (hr:Reps (Rep K H1) ds vs L0) (hk:∀ c ∈ L0,c9 [y] c) (hL:∀ c ∈ L0,c ∈ y.L)
  (hgo:∀ (M:Addr->Prop) (H':Hp),(∀ b,M b->MutAt H1 b)->(∀ b o,H1 b=some o->¬ M b->H' b=some o)->(∀ b ∈ y.L,¬ M b)->(∀ (i:Nat) (v:V),vs[i]?=some v->J.go i H'/\∀ x H'',J.yld i H' x H''->H''=H'/\x=v)/\J.stop vs.length H'):Walk K J H1 [y] ds:=by
 obtain ⟨ws,h1,h2,h3⟩:=Reps.split hr
 refine ⟨ws,fun x hx=>⟨(h3 x hx).1,(h3 x hx).2.1,fun c hc=>hk c ((h3 x hx).2.2 c hc)⟩,fun M H' hm hkp hM=>?_⟩
 obtain ⟨go,stop⟩:=hgo M H' hm hkp (hM y vo)
 refine ⟨fun i d hd=>?_,by rw [hr.len];exact stop⟩
 have hi:∃ u,ws[i]?=some u/\u.d=d:=by
  rw [<- h1,vH] at hd
  obtain ⟨u,a,b⟩:=vt.mp hd
  exact ⟨u,a,b⟩
 obtain ⟨u,eu,ud⟩:=hi
 have hv:vs[i]?=some u.v:=by rw [<- h2,vH,eu];rfl
 obtain ⟨g1,g2⟩:=go i u.v hv
 refine ⟨g1,fun x H'' hy=>?_⟩
 obtain ⟨e1,e2⟩:=g2 x H'' hy
 subst e1 e2
 have hu:=vE eu
 refine ⟨u,⟨Same.refl _,(h3 u hu).2.1.keep hkp hm fun b hb=>hM y vo b (hL b ((h3 u hu).2.2 b hb)),fun c hc=>.inr ⟨u,hu,hc⟩,fun hf=>absurd (h3 u hu).1 hf⟩,ud,(h3 u hu).1,rfl⟩
theorem iB {y:It3} {a:Addr} {ds:List D} {vs:List V} (hq:∀ H',SqL K H' a vs->True) (hs:∀ (M:Addr->Prop) (H':Hp),(∀ b,M b->MutAt H b)->(∀ b o,H b=some o->¬ M b->H' b=some o)->(∀ b ∈ y.L,¬ M b)->SqL K H' a vs) :
  ∀ (M:Addr->Prop) (H':Hp),(∀ b,M b->MutAt H b)->(∀ b o,H b=some o->¬ M b->H' b=some o)->(∀ b ∈ y.L,¬ M b)->(∀ (i:Nat) (v:V),vs[i]?=some v->(Itl K a).go i H'/\∀ x H'',(Itl K a).yld i H' x H''->H''=H'/\x=v)/\(Itl K a).stop vs.length H':=fun M H' hm hk hM=>by
 have sq:SqL K H' a vs:=hs M H' hm hk hM
 refine ⟨fun i v hv=>⟨⟨vs,v,sq,hv⟩,fun x H'' ⟨e1,e2⟩=>⟨e1,?_⟩⟩,⟨vs,sq,vI _⟩⟩
 have:=e2 vs sq
 rw [hv] at this
 injection this with this
 exact this.symm
theorem tG {m:EM} {R:It->Hp->Prop} (h:tI K G0 W0 (cL m) σ H R):iSeq K (tE K G0 W0 m) σ H R:=by
 obtain ⟨G,W,le,ρ,T,g,o,ρ',w,e,q⟩:=h
 have herr:∀ x,o=.error x->W x ρ':=fun x hx=>by subst hx;exact q
 refine tE.seq le w e herr fun ra ρ1 e1 v H1 ⟨Ts,g1,w1,a1⟩=>?_
 obtain ⟨d,d1,e2⟩:=aN e1
 obtain ⟨p,e3,rfl,rfl⟩:=b8 e2
 obtain ⟨ds,e4,e5⟩:=vt.mp e3
 subst e5
 obtain ⟨y,y1,y2,y3⟩:=a1.item2 w1 d1
 have hy:Itm (Ts ++ T) g1 y:=by
  rcases y3 with ⟨i,_,ei⟩ | h
  ·exact .inl ⟨i,ei⟩
  ·exact .inr (vv _ h)
 have ar:=(w1.itm hy).arg
 have qq:∀ J,Walk K J H1 [y] ds->R J H1:=fun J hw=>q J H1 [v] Ts g1 [y] w1 (by simpa using Ars.cons a1 .nil) (fun z hz=>by rw [vX.mp hz];exact y3) hw
 clear e1 e2 e3 q
 subst y1 y2
 have ar0:=ar
 obtain ⟨da,va,La,fa⟩:=y
 obtain ⟨rr,oo⟩:=ar
 dsimp only at rr e4
 cases da with
 | tup xs =>
  obtain ⟨pa,vs,rfl,ha,rs⟩:=rr.view
  cases e4
  refine .inr ⟨pa,rfl,⟨_,SqT.of ha⟩,qq _ (jc rs (iu (y:=⟨.tup ds,.ref pa,La,fa⟩) vo ar0 rfl) (fun c hc=>hc) fun M H' hm hk hM=>?_)⟩
  have sq:SqT K H' pa vs:=SqT.of (hk pa _ ha fun z=>(hm pa z).notup ha)
  refine ⟨fun i v hv=>⟨⟨vs,v,sq,hv⟩,fun x H'' ⟨e1,e2⟩=>⟨e1,?_⟩⟩,⟨vs,sq,vI _⟩⟩
  have:=e2 vs sq
  rw [hv] at this
  injection this with this
  exact this.symm
 | lst xs =>
  obtain ⟨pa,vs,La,rfl,rfl,ha,rs⟩:=rr.view
  cases e4
  refine .inl ⟨pa,rfl,⟨_,SqL.of ha⟩,qq _ (jc rs (nw (y:=⟨.lst ds,.ref pa,pa :: La,fa⟩) vo ar0 rfl rfl) (fun c hc=>vp _ hc) (iB (ds:=ds) (fun _ _=>trivial) fun M H' hm hk hM=>SqL.of (hk pa _ ha (hM pa vo))))⟩
 | fls xs =>
  obtain ⟨pa,vs,rfl,ha,rs⟩:=rr.view
  cases e4
  refine .inl ⟨pa,rfl,⟨_,ha.sq⟩,qq _ (jc rs (iu (y:=⟨.fls ds,.ref pa,La,fa⟩) vo ar0 rfl) (fun c hc=>hc) (iB (ds:=ds) (fun _ _=>trivial) fun M H' hm hk hM=>(ha.keep hk hm).sq))⟩
 | _=>exact nsE e4
theorem dn {tg l:Expr} {m:EM} (h:RE X G0 W0 l m):RI X G0 W0 tg l (cL m):=⟨PI.imp (ub h.h) fun _ _ _ h=>tG h⟩
noncomputable def b5 (lo:Int) (n:Nat):List D:=(List.range n).map fun (k:Nat)=>D.int (lo+(k:Int))
theorem jG {H1:Hp} {ys:List It3} {lo:Int} {n:Nat}:Walk K (Itr lo n) H1 ys (b5 lo n):=by
 refine ⟨[],fun x hx=>(by cases hx),fun M H' _ _ _=>⟨fun i d hd=>?_,?_⟩⟩
 ·unfold b5 at hd
  rw [vH] at hd
  obtain ⟨k,a,b⟩:=vt.mp hd
  obtain ⟨hk,e⟩:=vD.mp a
  rw [List.getElem_range] at e
  subst e
  rw [List.length_range] at hk
  refine ⟨hk,fun x H'' ⟨e1,e2⟩=>?_⟩
  subst e1
  exact ⟨⟨d,x,[],.z⟩,fy (by rw [<- b,e2];exact .int _),rfl,rfl,rfl⟩
 ·show n<=(b5 lo n).length
  unfold b5
  simp
noncomputable def dH (j:Int):Bool:=decide (-(2 ^ 62)<=j/\j < 2 ^ 62)
noncomputable def eF:List D->Option (List D)
 | [.int j]=>if dH j then some (b5 0 j.toNat) else none
 | _=>none
noncomputable def gj:List D->Option (List D)
 | [.int i,.int j]=>if dH i && dH j then some (b5 i (j - i).toNat) else none
 | _=>none
noncomputable def bx (f:List D->Option (List D)) (ms:M3 (List R3)):IM:=ac ms fun rs=>ac (dC rs) fun ds=>bd ((f ds).map fun xs=>([],xs))
set_option tactic.hygienic true in
theorem qF {ms:M3 (List R3)} {R:It->Hp->Prop} (h:tI K G0 W0 (bx eF ms) σ H R):sR (tA K G0 W0 ms) σ H R:=by
 obtain ⟨G,W,le,ρ,T,g,o,ρ',w,e,q⟩:=h
 have herr:∀ x,o=.error x->W x ρ':=fun x hx=>by subst hx;exact q
 refine tA.seq le w e herr fun rs ρ1 e1 vs H1 Ts g1 w1 a1=>?_
 obtain ⟨ds,d1,e2⟩:=cA e1
 obtain ⟨p,e3,rfl,rfl⟩:=b8 e2
 obtain ⟨xs,e4,e5⟩:=vt.mp e3
 subst e5
 obtain ⟨ys,i1,f1,f2⟩:=a1.items w1 (fun x hx=>vv _ hx) d1
 subst f1 f2
 match ys,e4,i1,a1 with
 | [],e4,_,_=>exact nsE e4
 | y :: z :: r,e4,_,_=>cases hd:y.d <;> (rw [vM,vM,hd] at e4;exact nsE e4)
 | [y],e4,i1,a1 =>
  have rr:=(w1.itm (i1 y vo)).rep
  cases hd:y.d <;> (rw [vM,hd] at e4;try (exact nsE e4))
  rename_i j
  rw [hd] at rr
  have e4:(if dH j then some (b5 0 j.toNat) else none)=some xs:=e4
  split at e4
  ·rename_i hj
   cases e4
   have hj:=of_decide_eq_true hj
   refine ⟨j,by show [y.v]=_;rw [rr.int_inv],hj.1,hj.2,?_⟩
   exact q _ H1 [] [] g1 [] (w1.sub (vF Ts T)) .nil (fun _ h=>by cases h) jG
  ·exact nsE e4
set_option tactic.hygienic true in
theorem qE {ms:M3 (List R3)} {R:It->Hp->Prop} (h:tI K G0 W0 (bx gj ms) σ H R):sQ (tA K G0 W0 ms) σ H R:=by
 obtain ⟨G,W,le,ρ,T,g,o,ρ',w,e,q⟩:=h
 have herr:∀ x,o=.error x->W x ρ':=fun x hx=>by subst hx;exact q
 refine tA.seq le w e herr fun rs ρ1 e1 vs H1 Ts g1 w1 a1=>?_
 obtain ⟨ds,d1,e2⟩:=cA e1
 obtain ⟨p,e3,rfl,rfl⟩:=b8 e2
 obtain ⟨xs,e4,e5⟩:=vt.mp e3
 subst e5
 obtain ⟨ys,i1,f1,f2⟩:=a1.items w1 (fun x hx=>vv _ hx) d1
 subst f1 f2
 have inv:∀ {ds:List D},gj ds=some xs->∃ i j,ds=[.int i,.int j]/\dH i=true/\dH j=true/\xs=b5 i (j - i).toNat:=fun {ds} h=>by
  unfold gj at h
  split at h
  ·rename_i i j
   split at h
   ·rename_i hh
    cases h
    simp only [Bool.and_eq_true] at hh
    exact ⟨i,j,rfl,hh.1,hh.2,rfl⟩
   ·exact nsE h
  ·exact nsE h
 obtain ⟨i,j,eds,hi,hj,rfl⟩:=inv e4
 match ys,eds,i1,a1 with
 | [],eds,_,_=>cases eds
 | [y],eds,_,_=>exact absurd (congrArg List.length eds) (by simp)
 | y :: z :: u :: r,eds,_,_=>exact absurd (congrArg List.length eds) (by simp)
 | [y,z],eds,i1,a1 =>
  have r1:=(w1.itm (i1 y vo)).rep
  have r2:=(w1.itm (i1 z (vp _ vo))).rep
  have h1:y.d=.int i:=by injection eds
  have h2:z.d=.int j:=by injection eds with _ h;injection h
  rw [h1] at r1
  rw [h2] at r2
  have hi:=of_decide_eq_true hi
  have hj:=of_decide_eq_true hj
  refine ⟨i,j,by show [y.v,z.v]=_;rw [r1.int_inv,r2.int_inv],⟨hi.1,hi.2,hj.1,hj.2⟩,?_⟩
  exact q _ H1 [] [] g1 [] (w1.sub (vF Ts T)) .nil (fun _ h=>by cases h) jG
theorem cw {tg a:Expr} {p pos:Pos} {ms:M3 (List R3)} (hg:Gl X "range") (hm:X.mg "range"=none) (ha:RA X G0 W0 [a] ms) (hs:starEach [a] X.env=[(false,eval a X.env)]):RI X G0 W0 tg (.Call (.Name "range" p) [a] [] pos) (bx eF ms):=⟨PI.imp (m4 hg hm ha.h hs) fun _ _ _ h=>qF h⟩
theorem eB {tg a b:Expr} {p pos:Pos} {ms:M3 (List R3)} (hg:Gl X "range") (hm:X.mg "range"=none) (ha:RA X G0 W0 [a,b] ms) (hs:starEach [a,b] X.env=[(false,eval a X.env),(false,eval b X.env)]) (hs2:starEach [b] X.env=[(false,eval b X.env)]):RI X G0 W0 tg (.Call (.Name "range" p) [a,b] [] pos) (bx gj ms):=⟨PI.imp (m3 hg hm ha.h hs hs2) fun _ _ _ h=>qE h⟩
end
end L3
end
section
namespace L3
open PySem L2
section
variable {K:FG} {G G0:Gm} {W W0:D->Sto->Prop} {H H':Hp} {σ:St} {ρ ρ':Sto} {T T':List It3} {g:Nat->Option It3} {x y z:It3} {α β:Type} {X:Cx} {L:List Addr}
noncomputable def oO (bnd:D->Sto->Option Sto) (m:EM):SM:=ac m fun r=>ac (dN r) fun p=>fun ρ=>(bnd p.1 ρ).map fun ρ1=>(.ok .nx,ρ1)
theorem tD {bnd:D->Sto->Option Sto} {tg:TG} {m:EM} {E:Ends} (hb:Bnd K G0.pr tg bnd) (h:tS K G0 W0 (oO bnd m) E σ H):oq (tE K G0 W0 m) tg E σ H:=by
 refine h.use fun G W le ρ T g r ρ' w e q=>?_
 refine tE.seq le w e q.err fun ra ρ1 e1 v H1 ⟨Ts,g1,w1,a1⟩=>?_
 obtain ⟨p,ρ2,g2,x,e2,w2,f1,_,_,f3⟩:=a1.take w1 e1
 have w3:=Wf.lowT (Ts:=[x]) w2
 obtain ⟨ρ3,e3,e4⟩:=vt.mp e2
 cases e4
 rw [<- f3]
 exact hb G H1 σ ρ2 _ T g2 (cn x) _ le.pr rfl w3 (by show bnd x.d ρ2=_;rw [f1];exact e3) fun σ2 g3 w4=>q _ _ _ w4
theorem tZ {tg e:Expr} {pos:Pos} {bnd:D->Sto->Option Sto} {m:EM} (hg:RG X G0.pr tg bnd) (he:RE X G0 W0 e m) (hs:swapsWithSole [tg] e pos.line X.env=pure false) (hw:swappedStores [tg] e X.env=pure none) (h1:(assignEach [tg] X.env).map (·.2)=[assign tg X.env]):RS X G0 W0 (.Assign [tg] e pos) (oO bnd m):=by
 obtain ⟨g,a,b⟩:=hg.h
 exact ⟨PS.imp (pc he.h a hs hw h1) fun _ _ _ h=>tD b h⟩
noncomputable def isL:D->Bool
 | .lst _=>true
 | _=>false
theorem gV:∀ d v L H,isL d=true->Rep K H d v L->tyV K "list" v H:=fun d v L H h r=>by
 cases r with
 | lst ha _=>exact .inl ⟨rfl,_,SqL.of ha⟩
 | _=>cases h
noncomputable def sy:D->List D->Option (D × D)
 | .lst xs,[d]=>if xs.length < 16777216 then some (.lst (xs ++ [d]),.non) else none
 | _,_=>none
set_option tactic.hygienic true in
theorem uI:MutD K md sy:=fun a d L0 as H Q p r m na ra nA e q=>by
 cases d with
 | lst xs =>
  obtain ⟨_,vs,_,e1,e2,ha,rs⟩:=r.view
  cases e1
  cases e2
  match as,e,ra,nA with
  | [],e,_,_=>exact nsE e
  | _ :: _ :: _,e,_,_=>exact nsE e
  | [y],e,ra,nA =>
   have e:(if xs.length < 16777216 then some (D.lst (xs ++ [y.d]),D.non) else none)=some p:=e
   split at e
   ·rename_i hl
    cases e
    refine ⟨a,vs,y.v,rfl,rfl,ha,by rw [<- rs.len,<- szl];exact hl,?_⟩
    have ry:=ra y vo
    have ny:=nA y vo
    have ma:MutAt H a:=.inl ⟨_,ha⟩
    have keep:∀ {d v L},Rep K H d v L->a ∉ L->Rep K (upd H a (.lst (vs ++ [y.v]))) d v L:=fun {d v L} r n=>r.keep (M:=fun b=>b=a) (fun b o hb h=>by rw [av h];exact hb) (fun b e=>by rw [e];exact ma) fun b hb e=>n (by rw [<- e];exact hb)
    have keeps:Reps (Rep K (upd H a (.lst (vs ++ [y.v])))) xs vs L0:=rs.keep (M:=fun b=>b=a) (fun b o hb h=>by rw [av h];exact hb) (fun b e=>by rw [e];exact ma) fun b hb e=>na (by rw [<- e];exact hb)
    exact q (.lst (vs ++ [y.v])) (L0 ++ (y.L ++ [])) ⟨.non,.non,[],.z⟩ (.lst aL (keeps.append (.cons (keep ry ny) .nil))) rfl (fun c hc=>by
     rcases vA.mp hc with h | h
     ·exact .inl h
     ·rw [List.append_nil] at h;exact .inr ⟨y,vo,h⟩) rfl rfl .non fun c hc=>by cases hc
   ·exact nsE e
 | _=>exact nsE e
noncomputable def lD:D->List D->Option (D × D)
 | .lst xs,[.lst ys]=>if xs.length+ys.length<=16777216 then some (.lst (xs ++ ys),.non) else none
 | _,_=>none
theorem ext2 {xs:List D} (a:D) {b:D} {r:List D}:lD (.lst xs) (a :: b :: r)=none:=by cases a <;> rfl
set_option tactic.hygienic true in
theorem li:MutD K l6 lD:=fun a d L0 as H Q p r m na ra nA e q=>by
 cases d with
 | lst xs =>
  obtain ⟨_,vs,_,e1,e2,ha,rs⟩:=r.view
  cases e1
  cases e2
  match as,e,ra,nA with
  | [],e,_,_=>exact nsE e
  | y :: _ :: _,e,_,_=>exact nsE ((ext2 y.d).symm.trans e)
  | [y],e,ra,nA =>
   have ry:=ra y vo
   have ny:=nA y vo
   obtain ⟨yd,yv,yL,yf⟩:=y
   dsimp only at ry ny e
   cases yd with
   | lst ys =>
    obtain ⟨b,ws,L1,rfl,rfl,hb,rs'⟩:=ry.view
    have e:(if xs.length+ys.length<=16777216 then some (D.lst (xs ++ ys),D.non) else none)=some p:=e
    split at e
    ·rename_i hl
     cases e
     refine ⟨a,b,vs,ws,rfl,rfl,ha,hb,by rw [<- rs.len,<- rs'.len,<- szl];exact hl,?_⟩
     have ma:MutAt H a:=.inl ⟨_,ha⟩
     have keeps:∀ {ds vs' L},Reps (Rep K H) ds vs' L->a ∉ L->Reps (Rep K (upd H a (.lst (vs ++ ws)))) ds vs' L:=fun {ds vs' L} r n=>r.keep (M:=fun b=>b=a) (fun b o hb h=>by rw [av h];exact hb) (fun b e=>by rw [e];exact ma) fun b hb e=>n (by rw [<- e];exact hb)
     exact q (.lst (vs ++ ws)) (L0 ++ L1) ⟨.non,.non,[],.z⟩ (.lst aL ((keeps rs na).append (keeps rs' fun h=>ny (vp _ h)))) rfl (fun c hc=>by
      rcases vA.mp hc with h | h
      ·exact .inl h
      ·exact .inr ⟨_,vo,vp _ h⟩) rfl rfl .non fun c hc=>by cases hc
    ·exact nsE e
   | _=>exact nsE e
 | _=>exact nsE e
noncomputable def qR:D->List D->Option (D × D)
 | .lst xs,[.int i,d]=>(ixN xs.length i).map fun j=>(.lst (xs.set j d),.non)
 | _,_=>none
theorem Reps.set:∀ {ds:List D} {vs:List V} {L L':List Addr} {d:D} {v:V} (j:Nat),Reps (Rep K H) ds vs L->Rep K H d v L'->∃ L2,Reps (Rep K H) (ds.set j d) (vs.set j v) L2/\∀ c ∈ L2,c ∈ L\/c ∈ L'
 | _,_,_,_,_,_,j,.nil,_=>⟨[],.nil,fun c hc=>by cases hc⟩
 | _,_,_,L',_,_,0,.cons (L:=L1) (L':=L1') r rs,r'=>⟨L' ++ L1',.cons r' rs,fun c hc=>by
  rcases vA.mp hc with h | h
  ·exact .inr h
  ·exact .inl (vw _ h)⟩
 | _,_,_,L',_,_,j+1,.cons (L:=L1) (L':=L1') r rs,r'=>by
  obtain ⟨L2,h1,h2⟩:=Reps.set j rs r'
  refine ⟨L1 ++ L2,.cons r h1,fun c hc=>?_⟩
  rcases vA.mp hc with h | h
  ·exact .inl (vv _ h)
  ·rcases h2 c h with h | h
   ·exact .inl (vw _ h)
   ·exact .inr h
theorem set1 {xs:List D} (a:D):qR (.lst xs) [a]=none:=by cases a <;> rfl
theorem set3' {xs:List D} (a:D) {b c:D} {r:List D}:qR (.lst xs) (a :: b :: c :: r)=none:=by cases a <;> rfl
theorem rM:MutD K (gI lZ) qR:=fun a d L0 as H Q p r m na ra nA e q=>by
 cases d with
 | lst xs =>
  obtain ⟨_,vs,_,e1,e2,ha,rs⟩:=r.view
  cases e1
  cases e2
  match as,e,ra,nA with
  | [],e,_,_=>exact nsE e
  | [y],e,_,_=>exact nsE ((set1 y.d).symm.trans e)
  | y :: _ :: _ :: _,e,_,_=>exact nsE ((set3' y.d).symm.trans e)
  | [k,y],e,ra,nA =>
   have rk:=ra k vo
   have ry:=ra y (vp _ vo)
   have ny:=nA y (vp _ vo)
   obtain ⟨kd,kv,kL,kf⟩:=k
   dsimp only at rk
   cases kd with
   | int i =>
    obtain ⟨rfl,rfl⟩:=rk.view
    obtain ⟨j,h1,h2⟩:=vt.mp (show (ixN xs.length i).map (fun j=>(D.lst (xs.set j y.d),D.non))=some p from e)
    subst h2
    refine ⟨.int i,y.v,rfl,a,vs,i,j,rfl,rfl,ha,by rw [<- rs.len];exact h1,?_⟩
    have ma:MutAt H a:=.inl ⟨_,ha⟩
    have ry':Rep K (upd H a (.lst (vs.set j y.v))) y.d y.v y.L:=ry.keep (M:=fun b=>b=a) (fun b o hb h=>by rw [av h];exact hb) (fun b e=>by rw [e];exact ma) fun b hb e=>ny (by rw [<- e];exact hb)
    have keeps:Reps (Rep K (upd H a (.lst (vs.set j y.v)))) xs vs L0:=rs.keep (M:=fun b=>b=a) (fun b o hb h=>by rw [av h];exact hb) (fun b e=>by rw [e];exact ma) fun b hb e=>na (by rw [<- e];exact hb)
    obtain ⟨L2,h3,h4⟩:=keeps.set j ry'
    exact q (.lst (vs.set j y.v)) L2 ⟨.non,.non,[],.z⟩ (.lst aL h3) rfl (fun c hc=>(h4 c hc).imp id fun h=>⟨y,vp _ vo,h⟩) rfl rfl .non fun c hc=>by cases hc
   | _=>exact nsE e
 | _=>exact nsE e
theorem gu {i:Nat} {x:Str} {pn apos cpos:Pos} {id:String} {nm:Str} {Ty:String} {e:Expr} {es:List Expr} {ok:D->Bool} {r:V->List V->Hp->VK->Prop} {f:D->List D->Option (D × D)} {ms:M3 (List R3)} (pa:PlainAttrs Ty) (slot:Slot Ty nm id) (hty:typeOf (.builtin id)=pure (.type "method_descriptor")) (hm:MtR X id r) (hr:MutD X.K r f) (hok:∀ d v L H,ok d=true->Rep X.K H d v L->tyV X.K Ty v H)
  (ho:PE X (.Name x pn) (jP i)) (ha:RA X G0 W0 (e :: es) ms) (hbase:attributeBase (.Name x pn) nm X.env (eval (.Name x pn) X.env)=eval (.Name x pn) X.env)
  (hfew:((backTo cpos (starEach (e :: es) X.env)).all (fun x=>!x.1) && (backToKw cpos (keywordEach [] X.env)).all (fun x=>x.1.isSome) && decide ((e :: es).length+([]:List Keyword).length+(if ([]:List Keyword).isEmpty then 0 else 1) < 30))=true)
  (hline:(apos.endLine == cpos.line)=true) (hs:starEach (e :: es) X.env=(false,eval e X.env) :: starEach es X.env) (hplain:(backTo cpos (starEach es X.env)).any (·.1)=false):RE X G0 W0 (.Call (.Attribute (.Name x pn) nm apos) (e :: es) [] cpos) (gS ok f i ms) :=
 ⟨PE.imp (pe_bm pa slot hty hm ho ha.h hbase hfew hline hs hplain) fun _ _ _ h=>oi hr hok h⟩
theorem qZ {i:Nat} {x:Str} {pn apos cpos:Pos} {id:String} {nm:Str} {Ty:String} {ok:D->Bool} {r:V->List V->Hp->VK->Prop} {f:D->List D->Option (D × D)} (pa:PlainAttrs Ty) (slot:Slot Ty nm id) (hty:typeOf (.builtin id)=pure (.type "method_descriptor")) (hm:MtR X id r) (hr:MutD X.K r f) (hok:∀ d v L H,ok d=true->Rep X.K H d v L->tyV X.K Ty v H)
  (ho:PE X (.Name x pn) (jP i)) (hbase:attributeBase (.Name x pn) nm X.env (eval (.Name x pn) X.env)=eval (.Name x pn) X.env) (hline:(apos.endLine == cpos.line)=true):RE X G0 W0 (.Call (.Attribute (.Name x pn) nm apos) [] [] cpos) (gS ok f i aj) :=
 ⟨PE.imp (ul pa slot hty hm ho hbase hline) fun _ _ _ h=>qH hr hok h⟩
theorem tY {i:Nat} {x:Str} {pn p2 pos:Pos} {k e:Expr} {mk mv:EM} {t:n3} {f:D->List D->Option (D × D)} (hs:qt X t) (hr:MutD X.K (gI t) f) (ho:PE X (.Name x pn) (jP i)) (hk:RE X G0 W0 k mk) (hv:RE X G0 W0 e mv)
  (ha:∀ v,assign (.Subscript (.Name x pn) k p2) X.env v=(do
   let ov <- holding [v] (eval (.Name x pn) X.env)
   let iv <- holding [v,ov] (eval k X.env)
   standAt p2
   holding [v,ov,iv] (setItem ov iv v)
   release [v,ov,iv] []))
  (h1:swapsWithSole [.Subscript (.Name x pn) k p2] e pos.line X.env=pure false) (h2:swappedStores [.Subscript (.Name x pn) k p2] e X.env=pure none) (h3:(assignEach [.Subscript (.Name x pn) k p2] X.env).map (·.2)=[assign (.Subscript (.Name x pn) k p2) X.env]):RS X G0 W0 (.Assign [.Subscript (.Name x pn) k p2] e pos) (oM f i mk mv) :=
 ⟨PS.imp (pc hv.h (ue ho hk.h hs ha) h1 h2 h3) fun _ _ _ h=>tp hr h⟩
end
end L3
end
section
namespace L3
open PySem L2
section
variable {K:FG} {G G0:Gm} {W W0:D->Sto->Prop} {H H':Hp} {σ:St} {ρ ρ':Sto} {T T':List It3} {g:Nat->Option It3} {x y z:It3} {α β:Type} {X:Cx} {L:List Addr}
theorem ce {Y:Cx} {ix:List (Option Nat)}:PTs Y [] (tT K (bW ix) noX fI):=fun pins s σ H Q I h=>rg pins s σ H Q I (sZ h)
theorem gG {Y:Cx} {c:Expr} {ix:List (Option Nat)} {m:M3 Bool} (h:RT Y (bW ix) noX c m):PTs Y [c] (tT Y.K (bW ix) noX m):=rf h.h
theorem cK {ix:List (Option Nat)} (h:(ix.filterMap id).Nodup):Inj ix:=by
 intro j k i hj hk
 induction ix generalizing j k with
 | nil=>simp at hj
 | cons o ix ih =>
  cases o with
  | none =>
   have h':(ix.filterMap id).Nodup:=by simpa using h
   cases j with
   | zero=>simp at hj
   | succ j =>
    cases k with
    | zero=>simp at hk
    | succ k=>rw [ih h' j k (by simpa using hj) (by simpa using hk)]
  | some i0 =>
   have h':(i0 :: ix.filterMap id).Nodup:=by simpa using h
   obtain ⟨n,h''⟩:=List.nodup_cons.mp h'
   have mem:∀ m:Nat,ix[m]?=some (some i0)->False:=fun m e=>n (List.mem_filterMap.mpr ⟨some i0,vE e,rfl⟩)
   cases j with
   | zero =>
    simp at hj
    cases k with
    | zero=>rfl
    | succ k=>subst hj;exact (mem k (by simpa using hk)).elim
   | succ j =>
    cases k with
    | zero=>simp at hk;subst hk;exact (mem j (by simpa using hj)).elim
    | succ k=>rw [ih h'' j k (by simpa using hj) (by simpa using hk)]
noncomputable def oN:SM:=fun _=>none
theorem oU {st:Stmt}:RS X G0 W0 st oN:=⟨PS.imp o9 fun _ _ _ h=>by
 refine h.use fun G W le ρ T g r ρ' w e q=>?_
 cases e⟩
theorem oj {r r':R2} {f f':D->D->Option (D × Fl)} {ma mb mc:EM} {Q:VK} (ho:OpD K r f) (ho':OpD K r' f') (h:tE K G0 W0 (gT f f' ma mb mc) σ H Q):om r r' (tE K G0 W0 ma) (tE K G0 W0 mb) (tE K G0 W0 mc) σ H Q:=by
 refine h.use fun G W le ρ T g o ρ' w e q=>?_
 refine tE.seq le w e q.err fun ra ρ1 e1 va H1 ⟨Ts,g1,w1,a1⟩=>?_
 refine tE.seq le w1 e1 q.err fun rb ρ2 e2 vb H2 ⟨Us,g2,w2,a2⟩=>?_
 obtain ⟨da,d1,e3⟩:=aN e2
 obtain ⟨db,d2,e4⟩:=aN e3
 obtain ⟨k,e5,e6⟩:=eC e4
 obtain ⟨ya,i1,f1,f2⟩:=a1.item w2 (fun x hx=>vw _ (vv _ hx)) d1
 obtain ⟨yb,i2,f3,f4⟩:=a2.item w2 (fun x hx=>vv _ hx) d2
 obtain ⟨p,e7,e8⟩:=vW.mp e5
 have hp:=qo e8
 subst f1 f2 f4
 rw [<- f3] at e7
 refine ho ya yb H2 _ p (w2.itm i1).arg (w2.itm i2).arg e7 fun u H3 nu ud uf=>?_
 have w3:=w2.push nu fun c h=>w2.kids (ys:=[ya,yb]) (fun y hy=>by
  rcases vx.mp hy with h | hy
  ·rw [h];exact i1
  ·rw [vX.mp hy];exact i2) h
 have ru:=nu.rep
 rw [ud,hp] at ru
 refine ⟨k,ru.bl_eq.1,?_⟩
 have w4:=w3.sub (List.sublist_cons_self u _)
 cases k with
 | false =>
  cases e6
  have w5:=w4.sub (T':=T) ((vF Ts T).trans (vF Us _))
  exact q _ _ (w5.const (.bl false))
 | true =>
  simp only [if_true] at e6 ⊢
  refine tE.seq le w4 e6 q.err fun rc ρ5 e9 vc H5 ⟨Vs,g5,w5,a5⟩=>?_
  obtain ⟨db',d3,e10⟩:=aN e9
  obtain ⟨dc,d4,e11⟩:=aN e10
  obtain ⟨p',e12,rfl,rfl⟩:=b8 e11
  obtain ⟨yb',i3,f5,f6⟩:=a2.item w5 (fun x hx=>vw _ (vv _ hx)) d3
  obtain ⟨yc,i4,f7,f8⟩:=a5.item w5 (fun x hx=>vv _ hx) d4
  cases ef:f' db' dc with
  | none=>rw [ef] at e12;exact nsE e12
  | some s =>
   rw [ef] at e12
   cases e12
   have w6:=w5
   rw [show Vs ++ (Us ++ (Ts ++ T))=(Vs ++ (Us ++ Ts)) ++ T by simp] at w6
   have i3':Itm ((Vs ++ (Us ++ Ts)) ++ T) g5 yb':=by simpa using i3
   have i4':Itm ((Vs ++ (Us ++ Ts)) ++ T) g5 yc:=by simpa using i4
   rw [<- f6,<- f8]
   refine ho' yb' yc H5 Q s (w5.itm i3).arg (w5.itm i4).arg (by rw [f5,f7];exact ef) (my w6 (fun y hy=>?_) q)
   rcases vx.mp hy with h | hy
   ·rw [h];exact i3'
   ·rw [vX.mp hy];exact i4'
theorem dQ {op:CmpOp} {r:R2} {f:D->D->Option (D × Fl)} {a b:Expr} {pos:Pos} {ma mb:EM} (ho:OpR X (compareOp op) r) (hd:OpD X.K r f) (ha:RE X G0 W0 a ma) (hb:RE X G0 W0 b mb) (hm:behindInMarks op b=false):RT X G0 W0 (.Compare a [op] [b] pos) (cB (aq f ma mb)):=⟨PT.imp (rh ho ha.h hb.h hm) fun _ _ _ h=>jd hd (s9 h)⟩
theorem oS {op op':CmpOp} {r r':R2} {f f':D->D->Option (D × Fl)} {a b c:Expr} {pos:Pos} {ma mb mc:EM} (ho:OpR X (compareOp op) r) (hd:OpD X.K r f) (ho':OpR X (compareOp op') r') (hd':OpD X.K r' f') (ha:RE X G0 W0 a ma) (hb:RE X G0 W0 b mb) (hc:RE X G0 W0 c mc) (hm:lastMarks [op,op'] [b,c]=false):RT X G0 W0 (.Compare a [op,op'] [b,c] pos) (cB (gT f f' ma mb mc)):=⟨PT.imp (o6 ho ho' ha.h hb.h hc.h hm) fun _ _ _ h=>oj hd hd' (s9 h)⟩
end
end L3
namespace L3
theorem aD {mask:List Bool} {i:Nat} (h:mask.length<=i):prM mask i=false:=by
 unfold prM
 rw [List.getElem?_eq_none h]
end L3
end
section
namespace L3
open PySem L2
structure Bl (mg:Str->Option Value):Prop where
 len:mg "len"=none
 range:mg "range"=none
 abs:mg "abs"=none
 divmod:mg "divmod"=none
 enumerate:mg "enumerate"=none
 tuple:mg "tuple"=none
 isinstance:mg "isinstance"=none
 int:mg "int"=none
 bool:mg "bool"=none
 all:mg "all"=none
 str:mg "str"=none
 max:mg "max"=none
 min:mg "min"=none
 list:mg "list"=none
 dict:mg "dict"=none
 repr:mg "repr"=none
 sorted:mg "sorted"=none
 set:mg "set"=none
 zip:mg "zip"=none
 reversed:mg "reversed"=none
theorem gg:bootBuiltins "len"=some (.builtin "len"):=by decide +kernel
theorem ql:bootBuiltins "divmod"=some (.builtin "divmod"):=by decide +kernel
theorem jC:bootBuiltins "tuple"=some (.type "tuple"):=by decide +kernel
theorem jD:bootBuiltins "isinstance"=some (.builtin "isinstance"):=by decide +kernel
theorem qk:bootBuiltins "int"=some (.type "int"):=by decide +kernel
theorem qm:bootBuiltins "bool"=some (.type "bool"):=by decide +kernel
theorem mI:bootBuiltins "all"=some (.builtin "all"):=by decide +kernel
theorem vd:bootBuiltins "list"=some (.type "list"):=by decide +kernel
theorem ve:bootBuiltins "dict"=some (.type "dict"):=by decide +kernel
theorem qj:bootBuiltins "sorted"=some (.builtin "sorted"):=by decide +kernel
theorem b_zip:bootBuiltins "zip"=some (.type "zip"):=by decide +kernel
end L3
end
section
namespace L3
open PySem L2
section
variable {K:FG} {G G0:Gm} {W W0:D->Sto->Prop} {H H':Hp} {σ:St} {ρ ρ':Sto} {T T':List It3} {g:Nat->Option It3} {x y z:It3} {α β:Type} {X:Cx} {L:List Addr}
theorem qI {m:EM} {Q Q':VK} (h:tE K G0 W0 m σ H Q) (f:∀ v H,Q v H->Q' v H):tE K G0 W0 m σ H Q':=by
 refine h.use fun G W le ρ T g o ρ' w e q=>?_
 refine tE.mk le w e ?_
 cases o with
 | ok r=>exact fun v H' g=>f v H' (q v H' g)
 | error x=>exact q
noncomputable def sP:D->Option String
 | .non=>some "NoneType" | .bl _=>some "bool" | .int _=>some "int" | .str _=>some "str"
 | .tup _=>some "tuple" | .lst _=>some "list" | .fls _=>some "list" | .dk _=>some "dict" | .dt _=>some "dict" | .exc _ _=>none
noncomputable def iw (t:String) (d:D):Option (D × Fl):=(sP d).map fun k=>(.bl (jq k t),.z)
theorem Rep.kind {d:D} {v:V} {k:String} (r:Rep K H d v L) (e:sP d=some k):KindOf K H v k:=by
 cases r with
 | non=>cases e;exact .non
 | bl b=>cases e;exact .bool b
 | int i=>cases e;exact .int i
 | str s=>cases e;exact .str s
 | tup h _=>cases e;exact .tuple (SqT.of h)
 | lst h _=>cases e;exact .list (SqL.of h)
 | lstF h _=>cases e;exact .list h.sq
 | dK h _ _=>cases e;exact .dK h
 | dT h _ _=>cases e;exact .dT h
 | exc _ _=>cases e
theorem eR {t:String} {tn:Str} {a:Expr} {p pT pos:Pos} {ma:EM} (hc:cM X (.builtin "isinstance") (fun xs H Q=>∃ x k,xs=[x,.ty t]/\KindOf X.K H x k/\Q (.bl (jq k t)) H)) (hg:Gl X "isinstance") (hm:X.mg "isinstance"=none) (ht:PE X (.Name tn pT) (tC (.ty t))) (ha:RE X G0 W0 a ma)
  (he1:starEach [a,.Name tn pT] X.env=(false,eval a X.env) :: starEach [.Name tn pT] X.env) (he2:starEach [.Name tn pT] X.env=(false,eval (.Name tn pT) X.env) :: starEach [] X.env) (hpl:(backTo pos (starEach [.Name tn pT] X.env)).any (·.1)=false):RE X G0 W0 (.Call (.Name "isinstance" p) [a,.Name tn pT] [] pos) (mUn (iw t) ma) :=
 ⟨PE.imp (j4 hc hg hm jD (jl ha.h (jl ht pg he2) he1) (by decide) (by decide) he1 hpl) fun σ H Q h=>by
  have h:=tE_un (r:=fun x H Q=>∃ k,KindOf X.K H x k/\Q (.bl (jq k t)) H) (fun a H Q p ra e q=>by
   obtain ⟨k,h1,h2⟩:=vt.mp e
   subst h2
   exact ⟨k,ra.rep.kind h1,q ⟨.bl (jq k t),.bl (jq k t),[],.z⟩ H (fy (.bl _)) rfl rfl⟩) h
  refine qI h fun x H1 ⟨k,hk,q⟩=>?_
  exact ⟨x,k,rfl,hk,q⟩⟩
noncomputable def pJ:D->Option Key
 | .int i=>some (.inl i)
 | .str s=>some (.inr s)
 | _=>none
noncomputable def cp:List D->Option (List Key)
 | []=>some []
 | d :: ds=>match pJ d,cp ds with
  | some k,some ks=>some (k :: ks)
  | _,_=>none
theorem nz {d:D} {v:V} {k:Key} (r:Rep K H d v L) (e:pJ d=some k):v=kV k:=by
 cases r <;> cases e <;> rfl
theorem cX:∀ {ds:List D} {vs:List V} {L:List Addr} {ks:List Key},Reps (Rep K H) ds vs L->cp ds=some ks->vs=ks.map kV
 | _,_,_,ks,.nil,e=>by cases e;rfl
 | _,_,_,ks,.cons (d:=d) (ds:=ds) r rs,e=>by
  unfold cp at e
  cases h1:pJ d with
  | none=>rw [h1] at e;exact nsE e
  | some k =>
   cases h2:cp ds with
   | none=>rw [h1,h2] at e;exact nsE e
   | some ks' =>
    rw [h1,h2] at e
    cases e
    rw [nz r h1,cX rs h2];rfl
noncomputable def pV (kvs:List (List Key × D)) (k:List Key):Option D:=(kvs.find? fun kv=>decide (kv.1=k)).map (·.2)
noncomputable def o5 (kvs:List (List Key × D)) (k:List Key) (v:D):List (List Key × D) :=
 if (kvs.any fun kv=>decide (kv.1=k))=true then kvs.map (fun kv=>if kv.1=k then (kv.1,v) else kv) else kvs ++ [(k,v)]
theorem kF:∀ {kvs:List (List Key × D)} {ps:List (List Key × V)} {L:List Addr} {k:List Key} {d:D},kvs.map (·.1)=ps.map (·.1)->Reps (Rep K H) (kvs.map (·.2)) (ps.map (·.2)) L->pV kvs k=some d->∃ v L',gh ps k=some v/\Rep K H d v L'/\∀ c ∈ L',c ∈ L
 | [],ps,L,k,d,hk,r,e=>by cases e
 | kv :: kvs,[],L,k,d,hk,r,e=>by cases hk
 | kv :: kvs,p :: ps,L,k,d,hk,r,e=>by
  have hk':kv.1=p.1/\kvs.map (·.1)=ps.map (·.1):=by simpa using hk
  generalize hr:(kv :: kvs).map (·.2)=xs at r
  generalize hp:(p :: ps).map (·.2)=ys at r
  cases r with
  | nil=>cases hr
  | cons a as =>
   cases hr
   cases hp
   unfold pV at e
   rw [List.find?_cons] at e
   by_cases h:kv.1=k
   ·rw [vN h] at e
    cases e
    exact ⟨_,_,fg (hk'.1.symm.trans h),a,fun c hc=>vv _ hc⟩
   ·rw [vO h] at e
    obtain ⟨v,L',h1,h2,h3⟩:=kF hk'.2 as e
    exact ⟨v,L',by rw [fh (fun z=>h (hk'.1.trans z))];exact h1,h2,fun c hc=>vw _ (h3 c hc)⟩
noncomputable def sS:D->D->Option (D × Fl)
 | .dt kvs,.tup ks=>match cp ks with
  | some k=>(pV kvs k).map fun d=>(d,.z)
  | none=>none
 | _,_=>none
noncomputable def l7:R2:=fun x y H Q=>∃ a v,x=.ref a/\DGet H a y (some v)/\Q v H
theorem rJ:OpD K l7 sS:=fun a b H Q p ra rb e q=>by
 obtain ⟨da,va,La,fa⟩:=a
 obtain ⟨db,vb,Lb,fb⟩:=b
 have ra0:=ra
 obtain ⟨ra,oa⟩:=ra
 obtain ⟨rb,ob⟩:=rb
 dsimp only at ra rb e
 cases da with
 | dt kvs =>
  obtain ⟨pa,ps,L0,rfl,rfl,ha,hk,rs⟩:=ra.view
  cases db with
  | tup ks =>
   obtain ⟨pb,ws,rfl,hb,rs'⟩:=rb.view
   have e:(match cp ks with | some k=>(pV kvs k).map fun d=>(d,Fl.z) | none=>none)=some p:=e
   cases h1:cp ks with
   | none=>rw [h1] at e;exact nsE e
   | some k =>
    rw [h1] at e
    obtain ⟨d,h2,h3⟩:=vt.mp (show (pV kvs k).map (fun d=>(d,Fl.z))=some p from e)
    subst h3
    have hw:=cX rs' h1
    subst hw
    obtain ⟨v,L',g1,g2,g3⟩:=kF hk rs h2
    refine ⟨pa,v,rfl,by rw [<- g1];exact DGet.t ha hb,q ⟨d,v,L',.z⟩ H (lg g2 fun c hc=>?_) rfl rfl⟩
    exact nw (y:=⟨.dt kvs,.ref pa,pa :: L0,fa⟩) vo ra0 rfl rfl c (g3 c hc)
  | _=>exact nsE e
 | _=>exact nsE e
open PySem.Spec PyProof.Rows in
theorem rZ (hu:X.A.units+1 < cLine):IxR X l7:=by
 intro value slice pins s σ H x y v u Q I rx ry h hs
 obtain ⟨a,w,rfl,g,q⟩:=h
 cases rx
 have hT:=kJ I g
 unfold subscriptTail
 refine vj ?_
 rw [getitemInPython_of_ne hT.not_modules]
 refine vj (wpAny_specialOf hT PySem.F.slot_dict_getitem.lookup ?_)
 have fin:wpAny (model X.prog X.w) X.A (subscripted slice false (.ref a) u) (fun r s₃=>wpAny (model X.prog X.w) X.A (letTemporaryGo value (.ref a) r >>= fun _=>pure r) (EP X pins σ Q) X.xe s₃) X.xe s:=by
  rw [hs]
  exact wpAny_operating (nK hu I g ry fun w' s3 I3 rw'=>vj (wpAny_letTemporaryGo (vm ⟨w,H,I3,rw',q⟩)))
 first
  | exact vm (vj fin)
  | exact vj (vm (vj fin))
  | exact vj fin
noncomputable abbrev cY:=orD ixD sS
theorem bg:OpD K (fun x y H Q=>(o3 K x y H Q\/oZ K x y H Q)\/l7 x y H Q) cY:=od_ix.or rJ
theorem bh (hu:X.A.units+1 < cLine):IxR X (fun x y H Q=>(o3 X.K x y H Q\/oZ X.K x y H Q)\/l7 x y H Q):=ix_ok.or (rZ hu)
noncomputable def me:D->List D->Option (D × D)
 | .dt kvs,[.tup ks,v]=>match cp ks with
  | some k=>if kvs.length < 16777216 then some (.dt (o5 kvs k v),.non) else none
  | none=>none
 | _,_=>none
noncomputable def l5:n3:=fun o i v H Q=>∃ a H',o=.ref a/\DPut H a i v H'/\Q H'
theorem oI (hu:X.A.units+1 < cLine):qt X l5:=by
 intro pins s σ H o i v ov iv u Q I ro ri rv h
 obtain ⟨a,H',rfl,g,q⟩:=h
 cases ro
 exact nJ hu I g ri rv fun s' I'=>⟨H',I',q⟩
theorem j3:∀ {kvs:List (List Key × D)} {ps:List (List Key × V)} {L L':List Addr} {k:List Key} {d:D} {v:V},kvs.map (·.1)=ps.map (·.1)->Reps (Rep K H) (kvs.map (·.2)) (ps.map (·.2)) L->Rep K H d v L' ->
  ∃ L2,Reps (Rep K H) ((kvs.map fun kv=>if kv.1=k then (kv.1,d) else kv).map (·.2)) ((ps.map fun kv=>if kv.1=k then (kv.1,v) else kv).map (·.2)) L2/\(∀ c ∈ L2,c ∈ L\/c ∈ L')
 | [],[],L,L',k,d,v,hk,r,rd=>⟨[],.nil,fun c hc=>by cases hc⟩
 | [],_ :: _,_,_,_,_,_,hk,_,_=>by cases hk
 | _ :: _,[],_,_,_,_,_,hk,_,_=>by cases hk
 | kv :: kvs,p :: ps,L,L',k,d,v,hk,r,rd=>by
  have hk':kv.1=p.1/\kvs.map (·.1)=ps.map (·.1):=by simpa using hk
  generalize hr:(kv :: kvs).map (·.2)=xs at r
  generalize hp:(p :: ps).map (·.2)=ys at r
  cases r with
  | nil=>cases hr
  | @cons _ _ L1 _ _ L1' a as =>
   cases hr
   cases hp
   obtain ⟨L2,h1,h2⟩:=j3 (k:=k) hk'.2 as rd
   by_cases h:kv.1=k
   ·refine ⟨L' ++ L2,?_,fun c hc=>?_⟩
    ·simp only [vM,if_pos h,if_pos (hk'.1.symm.trans h)]
     exact .cons rd h1
    ·rcases vA.mp hc with z | z
     ·exact .inr z
     ·rcases h2 c z with y | y
      ·exact .inl (vw _ y)
      ·exact .inr y
   ·refine ⟨L1 ++ L2,?_,fun c hc=>?_⟩
    ·simp only [vM,if_neg h,if_neg (fun z=>h (hk'.1.trans z))]
     exact .cons a h1
    ·rcases vA.mp hc with z | z
     ·exact .inl (vv _ z)
     ·rcases h2 c z with y | y
      ·exact .inl (vw _ y)
      ·exact .inr y
theorem qr {kvs:List (List Key × D)} {ps:List (List Key × V)} {k:List Key} (hk:kvs.map (·.1)=ps.map (·.1)):(kvs.any fun kv=>decide (kv.1=k))=ps.any fun kv=>decide (kv.1=k):=by
 have h1:(kvs.any fun kv=>decide (kv.1=k))=(kvs.map (·.1)).any fun x=>decide (x=k):=by rw [List.any_map];rfl
 have h2:(ps.any fun kv=>decide (kv.1=k))=(ps.map (·.1)).any fun x=>decide (x=k):=by rw [List.any_map];rfl
 rw [h1,h2,hk]
theorem kg {α:Type} {kvs:List (List Key × α)} {k:List Key} {d:α}:(kvs.map fun kv=>if kv.1=k then (kv.1,d) else kv).map (·.1)=kvs.map (·.1):=by
 rw [we]
 refine List.map_congr_left fun kv _=>?_
 show (if kv.1=k then (kv.1,d) else kv).1=kv.1
 split <;> rfl
theorem put1 {kvs:List (List Key × D)} (a:D):me (.dt kvs) [a]=none:=by cases a <;> rfl
theorem put3' {kvs:List (List Key × D)} (a:D) {b c:D} {r:List D}:me (.dt kvs) (a :: b :: c :: r)=none:=by cases a <;> rfl
set_option tactic.hygienic true in
theorem rN:MutD K (gI l5) me:=fun a d L0 as H Q p r m na ra nA e q=>by
 cases d with
 | dt kvs =>
  obtain ⟨_,ps,_,e1,e2,ha,hk,rs⟩:=r.view
  cases e1
  cases e2
  match as,e,ra,nA with
  | [],e,_,_=>exact nsE e
  | [y],e,_,_=>exact nsE ((put1 y.d).symm.trans e)
  | y :: _ :: _ :: _,e,_,_=>exact nsE ((put3' y.d).symm.trans e)
  | [k,y],e,ra,nA =>
   have rk:=ra k vo
   have ry:=ra y (vp _ vo)
   have ny:=nA y (vp _ vo)
   obtain ⟨kd,kv,kL,kf⟩:=k
   dsimp only at rk
   cases kd with
   | tup ks =>
    obtain ⟨pb,ws,rfl,hb,rs'⟩:=rk.view
    have e:(match cp ks with | some k=>if kvs.length < 16777216 then some (D.dt (o5 kvs k y.d),D.non) else none | none=>none)=some p:=e
    cases h1:cp ks with
    | none=>rw [h1] at e;exact nsE e
    | some key =>
     rw [h1] at e
     dsimp only at e
     split at e
     ·rename_i hl
      cases e
      have hw:=cX rs' h1
      subst hw
      have hlen:kvs.length=ps.length:=by have:=congrArg List.length hk;simpa using this
      refine ⟨.ref pb,y.v,rfl,a,_,rfl,DPut.t ha hb (by rw [<- hlen,<- szl];exact hl),?_⟩
      have ma:MutAt H a:=.inr (.inr ⟨_,ha⟩)
      have ry':Rep K (upd H a (.dT (dq ps key y.v))) y.d y.v y.L:=ry.keep (M:=fun b=>b=a) (fun b o hb h=>by rw [av h];exact hb) (fun b e=>by rw [e];exact ma) fun b hb e=>ny (by rw [<- e];exact hb)
      have keeps:Reps (Rep K (upd H a (.dT (dq ps key y.v)))) (kvs.map (·.2)) (ps.map (·.2)) L0:=rs.keep (M:=fun b=>b=a) (fun b o hb h=>by rw [av h];exact hb) (fun b e=>by rw [e];exact ma) fun b hb e=>na (by rw [<- e];exact hb)
      have fin:∃ L1,Reps (Rep K (upd H a (.dT (dq ps key y.v)))) ((o5 kvs key y.d).map (·.2)) ((dq ps key y.v).map (·.2)) L1/\(∀ c ∈ L1,c ∈ L0\/c ∈ y.L)/\(o5 kvs key y.d).map (·.1)=(dq ps key y.v).map (·.1):=by
       generalize upd H a (HO.dT (dq ps key y.v))=H2 at keeps ry' ⊢
       unfold o5 dq
       rw [qr hk]
       split
       ·obtain ⟨L2,g1,g2⟩:=j3 (k:=key) hk keeps ry'
        exact ⟨L2,g1,g2,by rw [kg,kg];exact hk⟩
       ·refine ⟨L0 ++ (y.L ++ []),?_,fun c hc=>?_,by rw [List.map_append,List.map_append,hk];rfl⟩
        ·rw [List.map_append,List.map_append]
         exact keeps.append (.cons ry' .nil)
        ·rcases vA.mp hc with z | z
         ·exact .inl z
         ·rw [List.append_nil] at z;exact .inr z
      obtain ⟨L1,g1,g2,g3⟩:=fin
      exact q (.dT (dq ps key y.v)) L1 ⟨.non,.non,[],.z⟩ (.dT aL g3 g1) rfl (fun c hc=>(g2 c hc).imp id fun h=>⟨y,vp _ vo,h⟩) rfl rfl .non fun c hc=>by cases hc
     ·exact nsE e
   | _=>exact nsE e
 | _=>exact nsE e
noncomputable def uo (f g:D->List D->Option (D × D)) (a:D) (b:List D):Option (D × D):=match f a b with
 | some p=>some p
 | none=>g a b
theorem MutD.or {r r':V->List V->Hp->VK->Prop} {f g:D->List D->Option (D × D)} (h:MutD K r f) (h':MutD K r' g):MutD K (fun x y H Q=>r x y H Q\/r' x y H Q) (uo f g):=fun a d L0 as H Q p r m na ra nA e q=>by
 unfold uo at e
 cases ef:f d (as.map (·.d)) with
 | some p'=>rw [ef] at e;cases e;exact .inl (h a d L0 as H Q _ r m na ra nA ef q)
 | none=>rw [ef] at e;exact .inr (h' a d L0 as H Q p r m na ra nA e q)
noncomputable abbrev setD:=uo qR me
theorem uG:MutD K (gI fun o i v H Q=>lZ o i v H Q\/l5 o i v H Q) setD:=fun a d L0 as H Q p r m na ra nA e q=>by
 rcases MutD.or rM rN a d L0 as H Q p r m na ra nA e q with ⟨k,v,h1,h2⟩ | ⟨k,v,h1,h2⟩
 ·exact ⟨k,v,h1,.inl h2⟩
 ·exact ⟨k,v,h1,.inr h2⟩
theorem qQ (hu:X.A.units+1 < cLine):qt X (fun o i v H Q=>lZ o i v H Q\/l5 o i v H Q):=by
 intro pins s σ H o i v ov iv u Q I ro ri rv h
 rcases h with h | h
 ·exact oH pins s σ H o i v ov iv u Q I ro ri rv h
 ·exact oI hu pins s σ H o i v ov iv u Q I ro ri rv h
end
end L3
end
section
namespace L3
open PySem L2
section
open PySem.Spec PyProof.Rows HT
variable {prog:Program} {w:World} {A:Around} {E:Value->Shared->Prop} {s:Shared}
end
section
variable {K:FG} {G G0:Gm} {W W0:D->Sto->Prop} {H H':Hp} {σ:St} {ρ ρ':Sto} {T T':List It3} {g:Nat->Option It3} {x y z:It3} {α β:Type} {X:Cx} {L:List Addr}
theorem Reps.take:∀ {ds:List D} {vs:List V} {L:List Addr} (n:Nat),Reps (Rep K H) ds vs L->∃ L',Reps (Rep K H) (ds.take n) (vs.take n) L'/\∀ c ∈ L',c ∈ L
 | _,_,_,0,_=>⟨[],by simpa using Reps.nil,fun c hc=>by cases hc⟩
 | _,_,_,n+1,.nil=>⟨[],by simpa using Reps.nil,fun c hc=>by cases hc⟩
 | _,_,_,n+1,.cons (L:=L1) r rs=>by
  obtain ⟨L',h1,h2⟩:=Reps.take n rs
  exact ⟨L1 ++ L',by simpa using Reps.cons r h1,fun c hc=>by
   rcases vA.mp hc with h | h
   ·exact vv _ h
   ·exact vw _ (h2 c h)⟩
theorem Reps.drop:∀ {ds:List D} {vs:List V} {L:List Addr} (n:Nat),Reps (Rep K H) ds vs L->∃ L',Reps (Rep K H) (ds.drop n) (vs.drop n) L'/\∀ c ∈ L',c ∈ L
 | _,_,L,0,r=>⟨L,by simpa using r,fun c hc=>hc⟩
 | _,_,_,n+1,.nil=>⟨[],by simpa using Reps.nil,fun c hc=>by cases hc⟩
 | _,_,_,n+1,.cons r rs=>by
  obtain ⟨L',h1,h2⟩:=Reps.drop n rs
  exact ⟨L',by simpa using h1,fun c hc=>vw _ (h2 c hc)⟩
end
end L3
end
section
namespace L3
open PySem L2
mutual
noncomputable def pyD:D->Option PyData
 | .non=>some .none
 | .bl b=>some (.bool b)
 | .int i=>some (.int i)
 | .str x=>some (.str x)
 | .tup xs=>(j0 xs).map .tuple
 | .lst xs=>(j0 xs).map .list
 | .fls xs=>(j0 xs).map .list
 | .dk _=>none
 | .dt _=>none
 | .exc _ _=>none
noncomputable def j0:List D->Option (List PyData)
 | []=>some []
 | d :: ds=>match pyD d,j0 ds with
  | some p,some ps=>some (p :: ps)
  | _,_=>none
end
section
variable {K:FG} {H:Hp} {Ks:Addr->Prop} {d:D} {v:V} {L:List Addr} {X:Cx}
set_option tactic.hygienic true in
theorem Rep.dv (r:Rep K H d v L):∀ p,pyD d=some p->DV K H v p:=by
 refine Rep.rec (motive_1:=fun d v _ _=>∀ p,pyD d=some p->DV K H v p) (motive_2:=fun ds vs _ _=>∀ ps,j0 ds=some ps->DVs K H vs ps) ?_ ?_ ?_ ?_ ?_ ?_ ?_ ?_ ?_ ?_ ?_ ?_ r
 ·intro p e;unfold pyD at e;cases e;exact .non
 ·intro _ p e;unfold pyD at e;cases e;exact .bl _
 ·intro _ p e;unfold pyD at e;cases e;exact .int _
 ·intro _ p e;unfold pyD at e;cases e;exact .str _
 ·intro xs a vs L h _ ih p e
  unfold pyD at e
  obtain ⟨ps,e1,rfl⟩:=vt.mp e
  exact .tup (SqT.of h) (ih ps e1)
 ·intro xs a vs L h _ ih p e
  unfold pyD at e
  obtain ⟨ps,e1,rfl⟩:=vt.mp e
  exact .lst (SqL.of h) (ih ps e1)
 ·intro xs a vs L h _ ih p e
  unfold pyD at e
  obtain ⟨ps,e1,rfl⟩:=vt.mp e
  exact .lst h.sq (ih ps e1)
 ·intro _ _ _ _ _ _ _ _ p e;unfold pyD at e;exact nsE e
 ·intro _ _ _ _ _ _ _ _ p e;unfold pyD at e;exact nsE e
 ·intros;rename_i e;unfold pyD at e;exact nsE e
 ·intro ps e;unfold j0 at e;cases e;exact .nil
 ·intro d v L ds vs L' _ _ i1 i2 ps e
  unfold j0 at e
  cases h1:pyD d with
  | none=>rw [h1] at e;exact nsE e
  | some p =>
   cases h2:j0 ds with
   | none=>rw [h1,h2] at e;exact nsE e
   | some qs=>rw [h1,h2] at e;cases e;exact .cons (i1 p h1) (i2 qs h2)
noncomputable def eqP (a b:D):Option Bool:=match pyD a,pyD b with
 | some p,some q=>if p.canLay0 && q.canLay0 && decide (min p.depth q.depth<=30) then some (PyData.eqv p q) else none
 | _,_=>none
noncomputable def eqA (a b:D):Option Bool:=match eqS a b with
 | some k=>some k
 | none=>eqP a b
noncomputable abbrev eqX (a b:D):Option (D × Fl):=(eqA a b).map fun k=>(.bl k,.z)
noncomputable abbrev neX (a b:D):Option (D × Fl):=(eqA a b).map fun k=>(.bl (!k),.z)
noncomputable def rEqP:R2:=fun x y H Q=>∃ p q,DV X.K H x p/\DV X.K H y q/\p.canLay0=true/\q.canLay0=true/\min p.depth q.depth<=30/\Q (.bl (PyData.eqv p q)) H
noncomputable def rNeP:R2:=fun x y H Q=>∃ p q,DV X.K H x p/\DV X.K H y q/\p.canLay0=true/\q.canLay0=true/\min p.depth q.depth<=30/\Q (.bl (!PyData.eqv p q)) H
theorem jm (hu:X.A.units+64 < cLine):OpR X (compareOp .Eq) (fun x y H Q=>rEq x y H Q\/rEqP (X:=X) x y H Q):=by
 intro pins s σ H x y v u Q I rx ry h
 rcases h with h | ⟨p,q,h1,h2,h3,h4,h5,hq⟩
 ·exact op_eq pins s σ H x y v u Q I rx ry h
 ·obtain ⟨as,ra⟩:=DV.reads I h1 rx
  obtain ⟨bs,rb⟩:=DV.reads I h2 ry
  exact PySem.SeqAt.compareEq_reads ra rb h3 h4 (by omega) ⟨.bl _,H,I,rfl,hq⟩
theorem gK (hu:X.A.units+64 < cLine):OpR X (compareOp .NotEq) (fun x y H Q=>rNe x y H Q\/rNeP (X:=X) x y H Q):=by
 intro pins s σ H x y v u Q I rx ry h
 rcases h with h | ⟨p,q,h1,h2,h3,h4,h5,hq⟩
 ·exact op_ne pins s σ H x y v u Q I rx ry h
 ·obtain ⟨as,ra⟩:=DV.reads I h1 rx
  obtain ⟨bs,rb⟩:=DV.reads I h2 ry
  exact PySem.SeqAt.compareNe_reads ra rb h3 h4 (by omega) ⟨.bl _,H,I,rfl,hq⟩
set_option tactic.hygienic true in
theorem mx {a b:D} {k:Bool} (e:eqP a b=some k):∃ p q,pyD a=some p/\pyD b=some q/\p.canLay0=true/\q.canLay0=true/\min p.depth q.depth<=30/\k=PyData.eqv p q:=by
 unfold eqP at e
 cases h1:pyD a with
 | none=>rw [h1] at e;exact nsE e
 | some p =>
  cases h2:pyD b with
  | none=>rw [h1,h2] at e;exact nsE e
  | some q =>
   rw [h1,h2] at e
   dsimp only at e
   split at e
   ·rename_i h
    cases e
    simp only [Bool.and_eq_true,decide_eq_true_eq] at h
    exact ⟨p,q,rfl,rfl,h.1.1,h.1.2,h.2,rfl⟩
   ·exact nsE e
theorem jn:OpD X.K (fun x y H Q=>rEq x y H Q\/rEqP (X:=X) x y H Q) eqX:=fun a b H Q p ra rb e q=>by
 obtain ⟨k,h1,h2⟩:=vt.mp e
 subst h2
 unfold eqA at h1
 cases hs:eqS a.d b.d with
 | some k' =>
  rw [hs] at h1
  cases h1
  obtain ⟨s,hk⟩:=pZ ra.rep rb.rep hs
  exact .inl ⟨s,by rw [<- hk];exact q ⟨.bl k,.bl k,[],.z⟩ H (fy (.bl k)) rfl rfl⟩
 | none =>
  rw [hs] at h1
  obtain ⟨p,p',e1,e2,e3,e4,e5,rfl⟩:=mx h1
  exact .inr ⟨p,p',ra.rep.dv p e1,rb.rep.dv p' e2,e3,e4,e5,q ⟨.bl _,.bl _,[],.z⟩ H (fy (.bl _)) rfl rfl⟩
theorem gM:OpD X.K (fun x y H Q=>rNe x y H Q\/rNeP (X:=X) x y H Q) neX:=fun a b H Q p ra rb e q=>by
 obtain ⟨k,h1,h2⟩:=vt.mp e
 subst h2
 unfold eqA at h1
 cases hs:eqS a.d b.d with
 | some k' =>
  rw [hs] at h1
  cases h1
  obtain ⟨s,hk⟩:=pZ ra.rep rb.rep hs
  exact .inl ⟨s,by rw [<- hk];exact q ⟨.bl (!k),.bl (!k),[],.z⟩ H (fy (.bl _)) rfl rfl⟩
 | none =>
  rw [hs] at h1
  obtain ⟨p,p',e1,e2,e3,e4,e5,rfl⟩:=mx h1
  exact .inr ⟨p,p',ra.rep.dv p e1,rb.rep.dv p' e2,e3,e4,e5,q ⟨.bl _,.bl _,[],.z⟩ H (fy (.bl _)) rfl rfl⟩
noncomputable def intQ1:D->Option (D × Fl)
 | .int i=>some (.int i,.z)
 | .bl k=>some (.int (if k then 1 else 0),.z)
 | _=>none
noncomputable abbrev pM:=c1 intQ1
set_option tactic.hygienic true in
theorem si:fM K (fun xs H Q=>(∃ i,xs=[.int i]/\Q (.int i) H)\/∃ k,xs=[.bl k]/\Q (.int (if k then 1 else 0)) H) pM:=fun ys H Q p ra e q=>by
 obtain ⟨y,rfl,e2⟩:=ie e
 clear e
 have e:=e2
 clear e2
 have rr:=(ra y vo).rep
 obtain ⟨da,va,La,fa⟩:=y
 dsimp only at rr e
 cases rr <;> try (exact nsE e)
 ·rename_i b
  cases e
  exact .inr ⟨b,rfl,q ⟨_,_,[],.z⟩ H (fy (.int _)) rfl rfl⟩
 ·rename_i i
  cases e
  exact .inl ⟨i,rfl,q ⟨_,_,[],.z⟩ H (fy (.int _)) rfl rfl⟩
end
end L3
end
section
namespace L3
open PySem L2
set_option tactic.hygienic true in
theorem uW {P:Program} {w:World} {K:FG} {mg:Str->Option Value} {base:Heap} {x:Str} {st:Stmt} {k:Nat} {N ps:List Str} {mask:List Bool} {m:SM} {nn:Nat} {f:Addr} {fd:FuncData} (F:Fun K x x st f fd) (S:FnScope N ps (ag st)) (hml:mask.length=ps.length) (hnn:N.length=nn)
  (body:∀ (cdv:Value) (A:Around) (outer:List Env) (s:Shared) (H:Hp) (E:XK) (f:Addr) (G:Gm),Room k (A.deeper (PyProof.Rows.envOfC x (ag st) s.heap.objs.size f cdv))->G.pr=prM mask->RSs (kK CX0 P w K mg base N x (ag st) f cdv A outer s H E).nox G noX (aG st) m) :
  FnOk P w K mg base CX0 (k+1) f fd ps (mQ K (fnM mask nn m)):=by
 refine F.ok S (fun vs H Q E h=>?_) fun cdv A outer s H vs Q E hr h=>?_
 ·obtain ⟨ps',p,fs,rfl,_,_,hF,_⟩:=h
  unfold fnM at hF
  rw [vC] at hF ⊢
  split at hF
  ·rename_i e;rw [e,hml]
  ·exact nsE hF
 ·have hle:mask.length<=nn:=by
   rw [hml,<- hnn]
   have:=congrArg List.length S.pre
   rw [vU] at this
   omega
  obtain ⟨G,hG,ht⟩:=mw hle h
  subst hnn
  exact ⟨_,(body cdv A outer s H E f G hr hG).h,ht⟩
noncomputable def oA (K:FG):Sp:=fun vs H Q _=>∃ (a:Addr) (ns:List Int),vs=[.ref a]/\SqL K H a (ns.map V.int)/\sB H/\ns.length<=63/\∀ H',Q (.bl true) H'
theorem iO {K:FG} {H:Hp}:∀ ns:List Int,Reps (Rep K H) (ns.map D.int) (ns.map V.int) []
 | []=>.nil
 | n :: ns=>.cons (L:=[]) (.int n) (iO ns)
theorem rV {K:FG} {F:Fn} (hF:∀ ns:List Int,ns.length<=63->∃ fs,F [(.fls (ns.map .int),.z)]=some (.ok (.bl true,.z),fs)) {vs:List V} {H:Hp} {Q:VK} {E:XK} (h:oA K vs H Q E):mQ K F vs H Q E:=by
 obtain ⟨a,ns,rfl,hS,hO,hn,q⟩:=h
 obtain ⟨fs,e⟩:=hF ns hn
 have fz:FzL K H a (ns.map V.int):=by
  rcases hS with (h | h) | h
  ·rcases hO a with z | ⟨o,xs,z⟩
   ·rw [h] at z;cases z
   ·rw [h] at z;cases z
  ·exact .inl h
  ·exact .inr h
 refine ⟨[⟨.fls (ns.map .int),.ref a,[],.z⟩],(.bl true,.z),fs,rfl,fun p hp=>?_,.cons (fun _ h=>by cases h) .nil,e,fun x qs H' B x1 x2 _=>?_⟩
 ·rw [vX.mp hp]
  exact ⟨.lstF fz (iO ns),fun h=>absurd rfl h⟩
 ·have r:=B.rep
  rw [x1] at r
  have inv:∀ {v:V} {L:List Addr},Rep K H' (.bl true) v L->v=.bl true:=fun r=>by cases r;rfl
  rw [inv r]
  exact q H'
end L3
end
section
namespace L3
open PySem L2
section
variable {K:FG} {G G0:Gm} {W W0:D->Sto->Prop} {H H':Hp} {σ:St} {ρ ρ':Sto} {T T':List It3} {g:Nat->Option It3} {x y z:It3} {α β:Type} {X:Cx} {v:V} {d:D} {L:List Addr}
noncomputable def eZ:List D->Option (List Int)
 | []=>some []
 | .int i :: ds=>(eZ ds).map (i :: ·)
 | _=>none
set_option tactic.hygienic true in
theorem iX:∀ {ds:List D} {ns:List Int},eZ ds=some ns->ds=ns.map D.int
 | [],ns,e=>by cases e;rfl
 | d :: ds,ns,e=>by
  cases d <;> try (exact nsE e)
  rename_i b
  obtain ⟨r,h1,h2⟩:=vt.mp (show (eZ ds).map (b :: ·)=some ns from e)
  subst h2
  rw [iX h1];rfl
theorem Reps.ints:∀ {ns:List Int} {vs:List V} {L:List Addr},Reps (Rep K H) (ns.map D.int) vs L->vs=ns.map V.int
 | [],_,_,.nil=>rfl
 | b :: bs,_,_,.cons r rs=>by
  rw [Reps.ints rs]
  cases r;rfl
end
end L3
end
section
namespace L3
open PySem L2
end L3
end
section
namespace L3
open PySem L2
section
variable {K:FG} {G G0:Gm} {W W0:D->Sto->Prop} {H H':Hp} {σ:St} {ρ ρ':Sto} {T T':List It3} {g:Nat->Option It3} {x y z:It3} {α β:Type} {X:Cx} {v:V} {d:D} {L:List Addr}
noncomputable def qv (i j:Int):Prop:=0 < j/\j < 1267650600228229401496703205376
theorem pj:OpR X (binaryOp .FloorDiv) (rI qv fun i j=>.int (i / j)):=opI fun i j _ _ _ _ _ hc q=>by
 have h1:(0:Int) < j:=hc.1
 have h2:j < 1267650600228229401496703205376:=hc.2
 refine PyProof.Rows.floordiv_int (by omega) (by rw [Int.fdiv_eq_ediv_of_nonneg i (by omega)];exact q) (.inl (PyProof.noPylong_of_log2 ?_))
 have h3:j.natAbs < 2 ^ 100:=by omega
 exact Nat.lt_trans ((Nat.log2_lt (by omega)).mpr h3) (by decide)
noncomputable abbrev uZ:=dB (fun _ j=>decide (0 < j/\j < 1267650600228229401496703205376)) fun i j=>.int (i / j)
theorem rK:OpD K (rI qv fun i j=>.int (i / j)) uZ:=eD (fun i j h=>by simpa [qv] using h) fun i j _=>.int _
end
end L3
end
section
namespace L3
open PySem L2
end L3
end
section
namespace L3
open PySem L2
end L3
end
section
namespace L3
open PySem L2
end L3
theorem L2.Room.hu {A:PySem.Around} {k:Nat} (hr:L2.Room k A):A.units+1 < PySem.cLine:=L2.hu_of hr
end
section
namespace L3
open PySem L2
section
variable {K:FG} {G G0:Gm} {W W0:D->Sto->Prop} {H H':Hp} {σ:St} {ρ ρ':Sto} {T T':List It3} {g:Nat->Option It3} {x y z:It3} {α β:Type} {X:Cx} {v:V} {d:D} {L:List Addr}
noncomputable def iU:List D->Option (List (List Key))
 | []=>some []
 | .tup xs :: ds=>match cp xs,iU ds with
  | some k,some ks=>some (k :: ks)
  | _,_=>none
 | _=>none
noncomputable def dzQ:D->D->Option (D × Fl)
 | .lst xs,.tup ys=>(iU xs).bind fun ks=>if ks.length=ys.length/\ks.Nodup then some (.dt (ks.zip ys),.u) else none
 | _,_=>none
noncomputable abbrev dzD:=c2 dzQ
noncomputable abbrev kB (ms:M3 (List R3)):EM:=aF dzD ms
set_option tactic.hygienic true in
theorem gU:∀ {ds:List D} {vs:List V} {L:List Addr} {ks:List (List Key)},Reps (Rep K H) ds vs L->iU ds=some ks->∃ bs:List (Addr × List Key),vs=bs.map (fun b=>V.ref b.1)/\bs.map (·.2)=ks/\∀ b ∈ bs,H b.1=some (.tup (b.2.map kV))
 | _,_,_,ks,.nil,e=>by cases e;exact ⟨[],rfl,rfl,fun b hb=>by cases hb⟩
 | _,_,_,ks,.cons (d:=d) (ds:=ds) r rs,e=>by
  cases d <;> try (exact nsE e)
  rename_i xs
  obtain ⟨pa,ws,rfl,ha,rs'⟩:=r.view
  unfold iU at e
  cases h1:cp xs with
  | none=>rw [h1] at e;exact nsE e
  | some k =>
   cases h2:iU ds with
   | none=>rw [h1,h2] at e;exact nsE e
   | some ks' =>
    rw [h1,h2] at e
    cases e
    obtain ⟨bs,g1,g2,g3⟩:=gU rs h2
    have hw:=cX rs' h1
    subst hw
    refine ⟨(pa,k) :: bs,by rw [g1];rfl,by rw [vM,g2],fun b hb=>?_⟩
    rcases vx.mp hb with rfl | hb
    ·exact ha
    ·exact g3 b hb
theorem gz {α β:Type}:∀ {ks:List α} {ys:List β},ks.length=ys.length->(ks.zip ys).map (·.2)=ys
 | [],[],_=>rfl
 | k :: ks,y :: ys,e=>by simp [gz (ks:=ks) (ys:=ys) (by simpa using e)]
theorem gB {α β:Type}:∀ {ks:List α} {ys:List β},ks.length=ys.length->(ks.zip ys).map (·.1)=ks
 | [],[],_=>rfl
 | k :: ks,y :: ys,e=>by simp [gB (ks:=ks) (ys:=ys) (by simpa using e)]
set_option tactic.hygienic true in
theorem qJ {ms:M3 (List R3)} {Q:VK} (h:tE K G0 W0 (kB ms) σ H Q):sG K (tA K G0 W0 ms) σ H Q:=by
 refine gE (r:=fun xs H Q=>∃ (l t:Addr) (bs:List (Addr × List Key)) (ws:List V),xs=[.ref l,.ref t]/\SqL K H l (bs.map fun b=>V.ref b.1)/\SqT K H t ws/\(∀ b ∈ bs,H b.1=some (.tup (b.2.map kV)))/\bs.length=ws.length/\(bs.map (·.2)).Nodup/\∀ p,H p=none->Q (.ref p) (upd H p (.dT ((bs.map (·.2)).zip ws)))) (fun ys H Q p ra e q=>?_) h
 obtain ⟨y,z,rfl,e2⟩:=qg e
 clear e
 have ry:=(ra y vo).rep
 have rz:=(ra z (vp _ vo)).rep
 have az:=ra z (vp _ vo)
 obtain ⟨da,va,La,fa⟩:=y
 obtain ⟨db,vb,Lb,fb⟩:=z
 dsimp only at ry rz e2
 cases da <;> try (exact nsE e2)
 rename_i xs
 cases db <;> try (exact nsE e2)
 rename_i ws
 obtain ⟨pa,vs,L0,rfl,rfl,ha,rs⟩:=ry.view
 obtain ⟨pb,us,rfl,hb,rs'⟩:=rz.view
 obtain ⟨ks,h1,h2⟩:=vW.mp (show ((iU xs).bind fun ks=>if ks.length=ws.length/\ks.Nodup then some ((.dt (ks.zip ws),.u):D × Fl) else none)=some p from e2)
 split at h2
 ·rename_i hc
  cases h2
  obtain ⟨bs,g1,g2,g3⟩:=gU rs h1
  subst g1 g2
  have hl:(bs.map (·.2)).length=us.length:=by rw [hc.1,rs'.len]
  refine ⟨pa,pb,bs,us,rfl,SqL.of ha,SqT.of hb,g3,by simpa using hl,hc.2,fun p hp=>?_⟩
  refine q ⟨.dt ((bs.map (·.2)).zip ws),.ref p,p :: Lb,.u⟩ _ ⟨bm hp,.dT aL (by rw [gB hc.1,gB hl]) (by rw [gz hc.1,gz hl];exact rs'.same (bm hp)),fun c hc=>?_,fun _=>⟨rfl,p,Lb,rfl,rfl,fun hc=>?_,hp⟩⟩ rfl rfl
  ·rcases vx.mp hc with e | hc
   ·rw [e];exact .inl hp
   ·exact .inr (iu (y:=⟨.tup ws,.ref pb,Lb,fb⟩) (vp _ vo) az rfl c hc)
  ·obtain ⟨o,ho⟩:=(rs'.inH p hc).ex
   rw [hp] at ho
   exact nsE ho
 ·exact nsE h2
theorem lY {a b:Expr} {ms:M3 (List R3)} {p1 p2 pos1 pos2:Pos} (hc:X.calm=true) (hu:X.A.units+64 < cLine) (hgl:Gl X "dict") (hml:X.mg "dict"=none) (hg:Gl X "zip") (hm:X.mg "zip"=none) (ha:RA X G0 W0 [a,b] ms)
  (hs:starEach [.Call (.Name "zip" p2) [a,b] [] pos2] X.env=[(false,eval (.Call (.Name "zip" p2) [a,b] [] pos2) X.env)]) (hs2:starEach [a,b] X.env=(false,eval a X.env) :: starEach [b] X.env) (hpl:(backTo pos2 (starEach [b] X.env)).any (·.1)=false) :
  RE X G0 W0 (.Call (.Name "dict" p1) [.Call (.Name "zip" p2) [a,b] [] pos2] [] pos1) (kB ms):=⟨PE.imp (rC hc hu hgl hml hg hm ve b_zip ha.h hs hs2 hpl) fun _ _ _ h=>qJ h⟩
end
end L3
end
section
namespace L3
open PySem L2
section
variable {K:FG} {G G0:Gm} {W W0:D->Sto->Prop} {H H':Hp} {σ:St} {ρ ρ':Sto} {T T':List It3} {g:Nat->Option It3} {x y z:It3} {α β:Type} {X:Cx} {v:V} {d:D} {L:List Addr}
noncomputable abbrev tQ:=dB (fun i j=>decide (0<=j/\j<=1000000/\i.natAbs < 2 ^ 64)) fun i j=>.int (i * 2 ^ j.toNat)
theorem uB:OpD K (rI qu fun i j=>.int (i * 2 ^ j.toNat)) tQ:=eD (fun i j h=>by simpa [qu] using h) fun i j _=>.int _
end
end L3
end
section
namespace L3
open PySem L2
section
variable {K:FG} {G G0:Gm} {W W0:D->Sto->Prop} {H H':Hp}
noncomputable def ntD (n:List Int):D:=.tup (n.map D.int)
theorem ly:∀ n:List Int,eZ (n.map D.int)=some n
 | []=>rfl
 | a :: n=>by
  show (eZ (n.map D.int)).map _=_
  rw [ly n];rfl
theorem fu:∀ n:List Int,Reps (Rep K H) (n.map D.int) (n.map V.int) []
 | []=>.nil
 | a :: n=>.cons (L:=[]) (.int a) (fu n)
end
end L3
end
section
namespace L3
open PySem L2
end L3
end
section
namespace L3
open PySem L2
section
variable {K:FG} {H H':Hp}
theorem lW:∀ {ns:List (List Int)} {bs:List Addr},bs.length=ns.length->(∀ (i:Nat) (b:Addr) (n:List Int),bs[i]?=some b->ns[i]?=some n->H b=some (.tup (n.map V.int)))->Reps (Rep K H) (ns.map ntD) (bs.map V.ref) []
 | [],[],_,_=>.nil
 | [],_ :: _,h,_=>by cases h
 | _ :: _,[],h,_=>by cases h
 | n :: ns,b :: bs,h,q=>.cons (L:=[]) (.tup (q 0 b n rfl rfl) (fu n)) (lW (by simpa using h) fun i b n e1 e2=>q (i+1) b n (by simpa using e1) (by simpa using e2))
end
end L3
end
section
namespace L3
open PySem L2
section
variable {K:FG} {H H':Hp}
noncomputable abbrev tP:=dB (fun _ j=>decide (0<=j)) fun i j=>.int (i / 2 ^ j.toNat)
theorem uA:OpD K (rI (fun _ j=>0<=j) fun i j=>.int (i / 2 ^ j.toNat)) tP:=eD (fun i j h=>by simpa using h) fun i j _=>.int _
noncomputable abbrev vf:=dB mN fun i j=>.int (Builtin.bitAnd i j)
theorem uC:OpD K (rI0 fun i j=>.int (Builtin.bitAnd i j)) vf:=df fun i j _=>.int _
noncomputable def u5:D->List D->Option (D × D)
 | .lst _,[]=>some (.lst [],.non)
 | _,_=>none
theorem uH:MutD K o4 u5:=fun a d L0 as H Q p r m na ra nA e q=>by
 cases d with
 | lst xs =>
  obtain ⟨_,vs,_,e1,e2,ha,rs⟩:=r.view
  cases e1
  cases e2
  match as,e with
  | y :: r,e=>exact nsE e
  | [],e =>
   cases e
   refine ⟨a,vs,rfl,rfl,ha,?_⟩
   exact q (.lst []) [] ⟨.non,.non,[],.z⟩ (.lst aL .nil) rfl (fun c hc=>by cases hc) rfl rfl .non fun c hc=>by cases hc
 | _=>exact nsE e
end
end L3
end
section
namespace L3
open PySem L2
section
variable {K:FG} {H H':Hp}
noncomputable def jL:List D->Option (List (List Int))
 | []=>some []
 | .tup ys :: ds=>(eZ ys).bind fun n=>(jL ds).map (n :: ·)
 | _=>none
theorem jK:∀ {ds:List D} {ns:List (List Int)},jL ds=some ns->ds=ns.map ntD
 | [],ns,h=>by cases h;rfl
 | d :: ds,ns,h=>by
  cases d with
  | tup ys =>
   obtain ⟨n,h1,h2⟩:=vW.mp (show ((eZ ys).bind fun n=>(jL ds).map (n :: ·))=some ns from h)
   obtain ⟨ms,h3,h4⟩:=vt.mp h2
   rw [jK h3,<- h4,iX h1];rfl
  | _=>exact nsE h
noncomputable def uO (ns:List (List Int)):Bool:=ns.all (fun n=>!n.isEmpty) || (match ns with | [] :: _=>true | _=>false)
theorem rY {ns:List (List Int)} (h:uO ns=true):kOk ns:=by
 rcases Bool.or_eq_true_iff.mp h with h | h
 ·refine .inl fun n hn z=>?_
  have:=List.all_eq_true.mp h n hn
  subst z;simp at this
 ·refine .inr ?_
  cases ns with
  | nil=>cases h
  | cons n ns=>cases n with
   | nil=>rfl
   | cons i n=>cases h
noncomputable def tN:D->Option (D × Fl)
 | .lst ds=>(jL ds).bind fun ns=>if (uO ns && decide (ns.length<=16777216))=true then (cb ns).bind fun is=>if (decide (is.length<=16777216) && is.all fun i=>decide (i < ns.length))=true then some (.lst (is.map fun i=>ntD (ns.getD i [])),.u) else none else none
 | _=>none
noncomputable abbrev k4:=c1 tN
theorem iN:∀ {ns:List (List Int)} {vs:List V} {L:List Addr},Reps (Rep K H) (ns.map ntD) vs L->∃ bs:List Addr,vs=bs.map V.ref/\ns.length=bs.length/\∀ (i:Nat) (b:Addr) (n:List Int),bs[i]?=some b->ns[i]?=some n->H b=some (.tup (n.map V.int))
 | [],_,_,.nil=>⟨[],rfl,rfl,fun i b n e=>by simp at e⟩
 | n :: ns,_,_,.cons r rs=>by
  obtain ⟨bs,e1,e2,e3⟩:=iN rs
  cases r with
  | @tup _ a vs _ ha hr =>
   have hv:vs=n.map V.int:=Reps.ints hr
   subst hv e1
   refine ⟨a :: bs,rfl,by simp [e2],fun i b m h1 h2=>?_⟩
   cases i with
   | zero=>cases h1;cases h2;exact ha
   | succ i=>exact e3 i b m (by simpa using h1) (by simpa using h2)
theorem qc:fM K (oY K) k4:=fun ys H Q p ra e q=>by
 obtain ⟨y,rfl,e2⟩:=ie e
 clear e
 have e:=e2
 clear e2
 have rr:=(ra y vo).rep
 obtain ⟨da,va,La,fa⟩:=y
 dsimp only at rr e
 cases da with
 | lst ds =>
  obtain ⟨ns,h1,h2⟩:=vW.mp (show ((jL ds).bind fun ns=>_)=some p from e)
  by_cases hc:(uO ns && decide (ns.length<=16777216))=true
  ·rw [if_pos hc] at h2
   obtain ⟨h3,h4⟩:=Bool.and_eq_true_iff.mp hc
   obtain ⟨is,h5,h6⟩:=vW.mp h2
   by_cases hd:(decide (is.length<=16777216) && is.all fun i=>decide (i < ns.length))=true
   ·rw [if_pos hd] at h6
    cases h6
    obtain ⟨h7,h8⟩:=Bool.and_eq_true_iff.mp hd
    cases jK h1
    obtain ⟨a,vs,L0,rfl,rfl,ha,rs⟩:=rr.view
    obtain ⟨bs,rfl,hn,hb⟩:=iN rs
    refine ⟨a,bs,ns,is,rfl,SqL.of ha,hn,hb,rY h3,h5,by rw [sizeLine_eq];exact of_decide_eq_true h4,by rw [sizeLine_eq];exact of_decide_eq_true h7,fun p hp=>?_⟩
    have er:(is.map fun i=>V.ref (bs.getD i 0))=(is.map fun i=>bs.getD i 0).map V.ref:=by rw [we];rfl
    have er2:(is.map fun i=>ntD (ns.getD i []))=(is.map fun i=>ns.getD i []).map ntD:=by rw [we];rfl
    rw [er]
    refine q ⟨.lst (is.map fun i=>ntD (ns.getD i [])),.ref p,[p],.u⟩ _ (newL hp ?_ fun c hc=>by cases hc) rfl rfl
    rw [er2]
    refine lW (by simp) fun i b n e1 e2=>?_
    rw [vH] at e1 e2
    cases hi:is[i]? with
    | none=>rw [hi] at e1;cases e1
    | some j =>
     rw [hi] at e1 e2
     have hj:j < ns.length:=of_decide_eq_true (List.all_eq_true.mp h8 j (vE hi))
     have g1:bs[j]?=some bs[j]:=vy (by omega)
     have g2:ns[j]?=some ns[j]:=vy hj
     have e1:bs.getD j 0=b:=wg e1
     have e2:ns.getD j []=n:=wg e2
     rw [List.getD,g1] at e1
     rw [List.getD,g2] at e2
     subst e1 e2
     exact hb j _ _ g1 g2
   ·rw [if_neg hd] at h6;exact nsE h6
  ·rw [if_neg hc] at h2;exact nsE h2
 | _=>exact nsE e
end
end L3
end
section
namespace Bn
open PySem L2 L3
theorem dg {bnd:L3.D->Sto->Option Sto} {b:SM} (P:Nat->Sto->Prop):∀ {ds:List L3.D} {ρ:Sto} {k:Nat},P k ρ->(∀ i d ρ,ds[i]?=some d->P (k+i) ρ->∃ ρ1 ρ2,bnd d ρ=some ρ1/\(b ρ1=some (.ok .nx,ρ2)\/b ρ1=some (.ok .ct,ρ2))/\P (k+i+1) ρ2)->∃ ρ',c8 bnd b ds ρ=some (.ok .nx,ρ')/\P (k+ds.length) ρ'
 | [],ρ,k,h0,_=>⟨ρ,rfl,h0⟩
 | d :: ds,ρ,k,h0,hs=>by
  obtain ⟨ρ1,ρ2,e1,e2,h1⟩:=hs 0 d ρ rfl h0
  obtain ⟨ρ',e3,h3⟩:=dg P (ds:=ds) (ρ:=ρ2) (k:=k+1) h1 fun i d ρ hd hp=>by
   have:=hs (i+1) d ρ (by simpa using hd) (by rwa [show k+(i+1)=k+1+i by omega])
   rwa [show k+(i+1)+1=k+1+i+1 by omega] at this
  refine ⟨ρ',?_,by rw [vT,show k+(ds.length+1)=k+1+ds.length by omega];exact h3⟩
  unfold c8
  simp only [e1]
  rcases e2 with e2 | e2 <;> simp only [ac,e2,e3]
theorem ft {lo:Int} {n i:Nat} {d:L3.D} (h:(b5 lo n)[i]?=some d):i < n/\d=.int (lo+i):=by
 unfold b5 at h
 rw [vH,vt] at h
 obtain ⟨j,h1,rfl⟩:=h
 have h2:=vD.mp h1
 obtain ⟨h3,h4⟩:=h2
 simp at h3 h4
 subst h4
 exact ⟨h3,rfl⟩
theorem aw {a b:SM} {ρ ρ1:Sto} {r:Option (Except L3.D Flw × Sto)} (h1:a ρ=some (.ok .nx,ρ1)) (h2:b ρ1=r):aH a b ρ=r:=by
 simp only [aH,ac,h1]
 exact h2
theorem fA {im:IM} {bnd:L3.D->Sto->Option Sto} {c:M3 Bool} {elt:EM} {ix:List (Option Nat)} {ρ ρ1 ρ2 τ:Sto} {rs:List R3} {ds out:List L3.D} (h1:im ρ=some (.ok (rs,ds),ρ1)) (h2:bU bnd c elt ds (nP ix (aB ci (us ρ1 (pls rs)) ρ1))=some (.ok out,τ)) (h3:ds.length < 16777216) (h4:uncap ix τ (aB ci (us ρ1 (pls rs)) ρ1)=some ρ2) :
  cr im bnd c elt ix ρ=some (.ok (.val (.lst out) .u),aB dL (us ρ1 (pls rs)) ρ2):=by
 simp [cr,ac,h1,h2,h3,h4]
theorem su {xs:List L3.D} {i:Nat} {d:L3.D} (h:xs[i]?=some d):L2.atI xs (i:Int)=some d:=by
 obtain ⟨h1,h2⟩:=vD.mp h
 simp [L2.atI,ixN,h1,h2]
theorem pN {f:List L3.D->Option (List L3.D)} {ms:M3 (List R3)} {ρ ρ1 ρ2:Sto} {rs:List R3} {ds xs:List L3.D} (h1:ms ρ=some (.ok rs,ρ1)) (h2:dC rs ρ1=some (.ok ds,ρ2)) (h3:f ds=some xs):bx f ms ρ=some (.ok ([],xs),ρ2):=by
 simp [bx,ac,h1,h2,h3,bd]
theorem lU {a b:Int} (ha:-1000<=a/\a<=1000) (hb:-1000<=b/\b<=1000) {n:Nat} (hn:(b - a).toNat=n):gj [.int a,.int b]=some (b5 a n):=by
 have lm:dH a=true:=vN (by omega)
 have lm2:dH b=true:=vN (by omega)
 show (if (dH a && dH b)=true then some (b5 a (b - a).toNat) else none)=_
 rw [lm,lm2,hn]
 exact if_pos rfl
theorem je {b:Int} (hb:-1000<=b/\b<=1000) {n:Nat} (hn:b.toNat=n):eF [.int b]=some (b5 0 n):=by
 have lm2:dH b=true:=vN (by omega)
 show (if (dH b)=true then some (b5 0 b.toNat) else none)=_
 rw [lm2,hn]
 exact if_pos rfl
end Bn
end
section
namespace Bn
open PySem L2 L3
section
variable {α:Type} {ρ ρ1 ρ2 ρ3:Sto} {ma mb mc m:EM} {ms:M3 (List R3)} {ra rb r:R3} {rs:List R3} {da db d:L3.D} {ds:List L3.D} {fl:Fl} {i n np:Nat} {sa sb:SM} {c cc:M3 Bool} {b b2:Bool} {x:Option (Except L3.D Flw × Sto)} {y:Option (Except L3.D R3 × Sto)}
theorem d6 {p:L3.D × Fl} (h:(ρ[i]?).join=some p):ae i ρ=some (.ok (.pl i),ρ):=by simp [ae,h]
theorem i_c:mC d ρ=some (.ok (.val d .z),ρ):=rfl
theorem mn {f:L3.D->L3.D->Option (L3.D × Fl)} (h1:ma ρ=some (.ok ra,ρ1)) (h2:mb ρ1=some (.ok rb,ρ2)) (h3:der ra ρ2=some (.ok da,ρ2)) (h4:der rb ρ2=some (.ok db,ρ2)) (h5:f da db=some (d,fl)):aq f ma mb ρ=some (.ok (.val d fl),ρ2):=by
 simp only [aq,ac,h1,h2,h3,h4,bd,h5,vV]
theorem r9 {f:List L3.D->Option (L3.D × Fl)} (h1:ms ρ=some (.ok rs,ρ1)) (h3:dC rs ρ1=some (.ok ds,ρ1)) (h5:f ds=some (d,fl)):aF f ms ρ=some (.ok (.val d fl),ρ1):=by
 simp only [aF,ac,h1,h3,bd,h5,vV]
theorem i_nil:aj ρ=some (.ok [],ρ):=rfl
theorem uU (h1:m ρ=some (.ok r,ρ1)) (h2:ms ρ1=some (.ok rs,ρ2)):ad m ms ρ=some (.ok (r :: rs),ρ2):=by
 simp only [ad,ac,h1,h2,bb]
theorem uT {mk:List L3.D->L3.D} {f:Fl} (h1:ms ρ=some (.ok rs,ρ1)) (h2:gives rs ρ1=some (.ok ds,ρ2)) (h3:ds.length<=16777216):rR mk f ms ρ=some (.ok (.val (mk ds) f),ρ2):=by
 simp only [rR,ac,h1,h2,bd,h3,if_true,vV]
theorem aR {F:Fn} {ps qs:List (L3.D × Fl)} (hF:F ps=some (.ok (d,fl),qs)) (h1:ms ρ=some (.ok rs,ρ1)) (h2:prs (frz (kI rs) ρ1) rs=some ps) (h3:qs.length=ps.length) (h4:back rs ps qs (frz (kI rs) ρ1) = ρ2):aJ F ms ρ=some (.ok (.val d fl),ρ2):=by
 simp only [aJ,ac,h1,h2,hF,h3,if_true,h4]
theorem pO {p:L3.D × Fl} (h1:m ρ=some (.ok r,ρ1)) (h2:dN r ρ1=some (.ok p,ρ2)) (h3:i < ρ2.length) (h4:ρ2.set i (some p) = ρ3):bD i m ρ=some (.ok .nx,ρ3):=by
 simp only [bD,ac,h1,h2,h3,if_true,h4]
theorem i_asg {bnd:L3.D->Sto->Option Sto} {p:L3.D × Fl} (h1:m ρ=some (.ok r,ρ1)) (h2:dN r ρ1=some (.ok p,ρ2)) (h3:bnd p.1 ρ2=some ρ3):oO bnd m ρ=some (.ok .nx,ρ3):=by
 simp only [oO,ac,h1,h2,h3,vV]
theorem uS (h1:m ρ=some (.ok r,ρ1)):eK m ρ=some (.ok .nx,ρ1):=by
 simp only [eK,ac,h1,bb]
noncomputable def retF (np:Nat) (r:R3):SM:=bK np (bb r)
theorem ge (h1:m ρ=some (.ok r,ρ1)) (h2:retF np r ρ1=x):bK np m ρ=x:=by
 rw [<- h2]
 unfold retF
 simp only [bK,ac,h1,bb]
theorem oK (h1:sa ρ=some (.ok (.rt d fl),ρ1)):aH sa sb ρ=some (.ok (.rt d fl),ρ1):=by
 simp only [aH,ac,h1,bb]
theorem i_cB (h1:m ρ=some (.ok r,ρ1)) (h2:der r ρ1=some (.ok (.bl b),ρ1)):cB m ρ=some (.ok b,ρ1):=by
 simp only [cB,ac,h1,h2,bd,asB,vV]
theorem gX (h1:c ρ=some (.ok b,ρ1)):fU c ρ=some (.ok (!b),ρ1):=by
 simp only [fU,ac,h1,bb]
theorem pQ (h1:c ρ=some (.ok b,ρ1)) (hb:b=true) (h2:sa ρ1=x):sIf c sa sb ρ=x:=by
 subst hb;simp only [sIf,ac,h1,if_true];exact h2
theorem gW (h1:c ρ=some (.ok b,ρ1)) (hb:b=false) (h2:sb ρ1=x):sIf c sa sb ρ=x:=by
 subst hb;simp only [sIf,ac,h1,vY,if_false];exact h2
theorem pP (h1:c ρ=some (.ok b,ρ1)) (hb:b=false) (h2:cc ρ1=some (.ok b2,ρ2)):cOr c cc ρ=some (.ok b2,ρ2):=by
 subst hb;simp only [cOr,ac,h1,vY,if_false];exact h2
theorem js (h1:ma ρ=some (.ok r,ρ1)) (h2:der r ρ1=some (.ok (.bl b),ρ1)) (hb:b=true) (h3:mb ρ1=y):lw ma mb ρ=y:=by
 subst hb;simp only [lw,ac,h1,h2,bd,asB,vV,if_true];exact h3
theorem uQ (h1:ma ρ=some (.ok r,ρ1)) (h2:der r ρ1=some (.ok (.bl b),ρ1)) (hb:b=true):mOr ma mb ρ=some (.ok (.val (.bl true) .z),ρ1):=by
 subst hb;simp only [mOr,ac,h1,h2,bd,asB,vV,if_true];rfl
theorem uR (h1:ma ρ=some (.ok r,ρ1)) (h2:der r ρ1=some (.ok (.bl b),ρ1)) (hb:b=false) (h3:mb ρ1=y):mOr ma mb ρ=y:=by
 subst hb;simp only [mOr,ac,h1,h2,bd,asB,vV,vY,if_false];exact h3
theorem i_mut {ok:L3.D->Bool} {f:L3.D->List L3.D->Option (L3.D × L3.D)} {d2 d3 d4:L3.D} (h0:(ρ[i]?).join=some (d,fl)) (hk:ok d=true) (h1:ms ρ=some (.ok rs,ρ1)) (h2:gives rs ρ1=some (.ok ds,ρ2)) (h3:(ρ2[i]?).join=some (d2,.u)) (h4:f d2 ds=some (d3,d4)) (h5:ρ2.set i (some (d3,.u)) = ρ3):gS ok f i ms ρ=some (.ok (.val d4 .z),ρ3):=by
 simp only [gS,ac,d6 h0,chk,h0,hk,if_true,h1,h2,h3,h4,h5]
theorem i_sub {f:L3.D->List L3.D->Option (L3.D × L3.D)} {d2 d3 d4:L3.D} (h1:mb ρ=some (.ok rb,ρ1)) (h0:(ρ1[i]?).join=some (d,fl)) (h2:ma ρ1=some (.ok ra,ρ2)) (h3:gives [ra,rb] ρ2=some (.ok ds,ρ3)) (h4:(ρ3[i]?).join=some (d2,.u)) (h5:f d2 ds=some (d3,d4)):oM f i ma mb ρ=some (.ok .nx,ρ3.set i (some (d3,.u))):=by
 simp only [oM,ac,h1,d6 h0,h2,h3,h4,h5]
theorem dI {mask:List Bool} {ps qs:List (L3.D × Fl)} (h1:ps.length=mask.length) (h0:gf n (List.zipWith nt mask ps) = ρ) (h2:sa ρ=some (.ok (.rt d fl),ρ1)) (h3:eI ρ1 0 (List.zipWith nt mask ps)=some qs):fnM mask n sa ps=some (.ok (d,fl),qs):=by
 subst h0;simp only [fnM,h1,if_true,fn0,h2,h3,vV]
theorem F_nx {mask:List Bool} {ps qs:List (L3.D × Fl)} (h1:ps.length=mask.length) (h0:gf n (List.zipWith nt mask ps) = ρ) (h2:sa ρ=some (.ok .nx,ρ1)) (h3:eI ρ1 0 (List.zipWith nt mask ps)=some qs):fnM mask n sa ps=some (.ok (.non,.z),qs):=by
 subst h0;simp only [fnM,h1,if_true,fn0,h2,h3,vV]
theorem iR {i j:Int} (h:-18446744073709551616 < i/\i < 18446744073709551616):gN (.int i) (.int j)=some (.int (i * j),.z):=by
 simp [dB,h]
theorem sN {i j:Int} (h:-18446744073709551616 < j/\j < 18446744073709551616):gN (.int i) (.int j)=some (.int (i * j),.z):=by
 simp [dB,h]
theorem kE {im:IM} {bnd:L3.D->Sto->Option Sto} {o:Except L3.D Flw} (h1:im ρ=some (.ok (rs,ds),ρ1)) (hp:us ρ1 (pls rs)=[]) (h2:c8 bnd sb ds ρ1=some (o,ρ2)):cZ im bnd sb ρ=some (o,ρ2):=by
 have h4:∀ f ρ,aB f [] ρ = ρ:=fun _ _=>rfl
 simp only [cZ,ac,h1,hp,h4,h2,vV]
theorem pR {im:IM} {bnd:L3.D->Sto->Option Sto} {o:Except L3.D Flw} {is:List Nat} (h1:im ρ=some (.ok (rs,ds),ρ1)) (hp:us ρ1 (pls rs)=is) (h2:c8 bnd sb ds (aB ci is ρ1)=some (o,ρ2)):cZ im bnd sb ρ=some (o,aB dL is ρ2):=by
 simp only [cZ,ac,h1,hp,h2,vV]
theorem jt (h1:m ρ=some (.ok r,ρ1)) (h2:der r ρ1=some (.ok d,ρ1)) (h3:sK d=some ds):cL m ρ=some (.ok ([r],ds),ρ1):=by
 simp only [cL,ac,h1,h2,bd,h3,vV]
theorem iY {f:List L3.D->Option (List L3.D)} {xs:List L3.D} (h1:ms ρ=some (.ok rs,ρ1)) (h2:dC rs ρ1=some (.ok ds,ρ1)) (h3:f ds=some xs):bx f ms ρ=some (.ok ([],xs),ρ1):=pN h1 h2 h3
end
theorem fF {α:Type} {bnd:L3.D->Sto->Option Sto} {c:M3 Bool} {elt:EM} (P:Sto->Prop) (D:α->L3.D) (g:α->Bool) (f:α->L3.D):∀ {xs:List α} {τ:Sto},P τ ->
  (∀ x ∈ xs,∀ τ,P τ->∃ τ1 τ2,bnd (D x) τ=some τ1/\c τ1=some (.ok (g x),τ2)/\(g x=false->P τ2)/\(g x=true->∃ r τ3 p τ4,elt τ2=some (.ok r,τ3)/\dN r τ3=some (.ok p,τ4)/\p.1=f x/\P τ4)) ->
  ∃ τ',bU bnd c elt (xs.map D) τ=some (.ok ((xs.filter g).map f),τ')/\P τ'
 | [],τ,h0,_=>⟨τ,rfl,h0⟩
 | x :: xs,τ,h0,hs=>by
  obtain ⟨τ1,τ2,e1,e2,hf,ht⟩:=hs x vo τ h0
  cases hg:g x with
  | false =>
   obtain ⟨τ',e,hp⟩:=fF P D g f (xs:=xs) (τ:=τ2) (hf hg) fun d hd=>hs d (vp _ hd)
   refine ⟨τ',?_,hp⟩
   rw [vM]
   unfold bU
   rw [hg] at e2
   simp [e1,ac,e2,e,List.filter_cons,hg]
  | true =>
   obtain ⟨r,τ3,p,τ4,e3,e4,e5,hp4⟩:=ht hg
   obtain ⟨τ',e,hp⟩:=fF P D g f (xs:=xs) (τ:=τ4) hp4 fun d hd=>hs d (vp _ hd)
   refine ⟨τ',?_,hp⟩
   rw [vM]
   unfold bU
   rw [hg] at e2
   simp [e1,ac,e2,e3,e4,e,List.filter_cons,hg,bb,e5]
section
variable {α:Type} {P:List α->Prop} {us:List α}
theorem bnd0 (h:us.length=0) (f:P []):P us:=by
 cases us with
 | nil=>exact f
 | cons a us=>cases h
theorem u8 {n:Nat} (h:us.length=n+1) (f:∀ a r,r.length=n->P (a :: r)):P us:=by
 cases us with
 | nil=>cases h
 | cons a us=>exact f a us (Nat.succ.inj h)
theorem bnd1 (h:us.length=1) (f:∀ a,P [a]):P us:=u8 h fun a _ h=>bnd0 (P:=fun r=>P (a :: r)) h (f a)
theorem bnd2 (h:us.length=2) (f:∀ a b,P [a,b]):P us:=u8 h fun a _ h=>bnd1 (P:=fun r=>P (a :: r)) h (f a)
theorem bnd3 (h:us.length=3) (f:∀ a b c,P [a,b,c]):P us:=u8 h fun a _ h=>bnd2 (P:=fun r=>P (a :: r)) h (f a)
end
theorem hb1 {x:Str} {st:Stmt} {p0:Str} (f:∀ (kV doc pm:Value) (an:Option Addr) (cdv ct a0:Value),bindArgs (PySem.W.fnOf x x (aP st) (aG st) (ag st) .none kV doc pm an cdv ct) ⟨[a0],[]⟩=pure ([p0].zip [a0])) (kV doc pm:Value) (an:Option Addr) (cdv ct:Value) (us:List Value) (hl:us.length=[p0].length):bindArgs (PySem.W.fnOf x x (aP st) (aG st) (ag st) .none kV doc pm an cdv ct) ⟨us,[]⟩=pure ([p0].zip us) :=
 bnd1 (P:=fun us=>bindArgs (PySem.W.fnOf x x (aP st) (aG st) (ag st) .none kV doc pm an cdv ct) ⟨us,[]⟩=pure ([p0].zip us)) hl (f kV doc pm an cdv ct)
theorem hb2 {x:Str} {st:Stmt} {p0 p1:Str} (f:∀ (kV doc pm:Value) (an:Option Addr) (cdv ct a0 a1:Value),bindArgs (PySem.W.fnOf x x (aP st) (aG st) (ag st) .none kV doc pm an cdv ct) ⟨[a0,a1],[]⟩=pure ([p0,p1].zip [a0,a1])) (kV doc pm:Value) (an:Option Addr) (cdv ct:Value) (us:List Value) (hl:us.length=[p0,p1].length):bindArgs (PySem.W.fnOf x x (aP st) (aG st) (ag st) .none kV doc pm an cdv ct) ⟨us,[]⟩=pure ([p0,p1].zip us) :=
 bnd2 (P:=fun us=>bindArgs (PySem.W.fnOf x x (aP st) (aG st) (ag st) .none kV doc pm an cdv ct) ⟨us,[]⟩=pure ([p0,p1].zip us)) hl (f kV doc pm an cdv ct)
theorem hb3 {x:Str} {st:Stmt} {p0 p1 p2:Str} (f:∀ (kV doc pm:Value) (an:Option Addr) (cdv ct a0 a1 a2:Value),bindArgs (PySem.W.fnOf x x (aP st) (aG st) (ag st) .none kV doc pm an cdv ct) ⟨[a0,a1,a2],[]⟩=pure ([p0,p1,p2].zip [a0,a1,a2])) (kV doc pm:Value) (an:Option Addr) (cdv ct:Value) (us:List Value) (hl:us.length=[p0,p1,p2].length):bindArgs (PySem.W.fnOf x x (aP st) (aG st) (ag st) .none kV doc pm an cdv ct) ⟨us,[]⟩=pure ([p0,p1,p2].zip us) :=
 bnd3 (P:=fun us=>bindArgs (PySem.W.fnOf x x (aP st) (aG st) (ag st) .none kV doc pm an cdv ct) ⟨us,[]⟩=pure ([p0,p1,p2].zip us)) hl (f kV doc pm an cdv ct)
end Bn
end
section
namespace Bn
open PySem L2 L3
local macro_rules | `(tactic| infer_instance)=>`(tactic| first | with_reducible apply d6 | with_reducible exact i_c | with_reducible apply mn | with_reducible apply i_un | with_reducible apply r9 | with_reducible exact i_nil | with_reducible apply uU | with_reducible apply uT | with_reducible apply pO | with_reducible apply i_asg | with_reducible apply uS | with_reducible apply ge | with_reducible exact i_nilS | with_reducible apply i_cB | with_reducible apply gX | with_reducible apply i_mNot | with_reducible apply i_sl | with_reducible exact i_pNone | with_reducible apply i_pSome | with_reducible apply i_mut | with_reducible apply i_sub | with_reducible apply jt | with_reducible apply iY | with_reducible apply js | with_reducible apply pP)
local macro_rules | `(tactic| eq_refl)=>`(tactic| first | exact rfl | exact Nat.le_of_ble_eq_true rfl)
section
variable {X:Cx} {G0:Gm} {W0:L3.D->Sto->Prop} {pos:Pos}
theorem rvl (i:Nat) {x:Str} (hN:X.N[i]?=some x:=by exact rfl) (hv:Vis X.env.scope x:=by exact Or.inl rfl) (hd:(x == ("__debug__":Str))=false:=by decide) (hc:(x == ("__classdict__":Str))=false:=by decide):RE X G0 W0 (.Name x pos) (ae i):=oW i hN hv hd hc
theorem rvc (i:Nat) {x:Str} (hN:X.N[i]?=some x:=by exact rfl) (hv:Vis X.env.scope x:=by exact Or.inr (Or.inl rfl)) (hd:(x == ("__debug__":Str))=false:=by decide) (hc:(x == ("__classdict__":Str))=false:=by decide):RE X G0 W0 (.Name x pos) (ae i):=oW i hN hv hd hc
end
section
variable {P:Program} {w:World} {K:FG} {mg:Str->Option Value} {base:Heap}
noncomputable def lq:SM:=(bK 1 (lw (mUn (iw "int") (ae 0)) (rS (mUn (iw "bool") (ae 0)))))
noncomputable def b6:Fn:=fnM [false] 1 lq
theorem jY:FnScope ["thing"] ["thing"] (ag dm):=⟨rfl,rfl,rfl,by decide +kernel,rfl,by decide +kernel,by decide +kernel⟩
theorem jA (B:Bl mg) (D:Def K mg "is_whole" dm):bq P w K mg base "is_whole" 1 ["thing"] b6 :=
 bG (k:=0) D jY rfl rfl (hb1 fun _ _ _ _ _ _ _=>rfl) fun cdv A outer s H E f G hr hp =>
  (ai (aQ 1 (fun i hi=>by rw [hp];exact aD (by simpa using hi)) (k9 (eR fG rfl B.isinstance (du (v:=V.ty "int") rfl B.int qk rfl (by decide) (by decide)) (rvl 0) rfl rfl rfl) (jf (oX (eR eO rfl B.isinstance (du (v:=V.ty "bool") rfl B.bool qm rfl (by decide) (by decide)) (rvl 0) rfl rfl rfl))))))
noncomputable def gR:SM:=(sIf (cOr (fU (cB (aJ b6 (ad (ae 0) aj)))) (fU (cB (gT leI leI (ae 1) (ae 0) (ae 2))))) oN fq)
noncomputable def bV:Fn:=fnM [false,false,false] 3 gR
theorem gi:FnScope ["thing","least","most"] ["thing","least","most"] (ag bM):=⟨rfl,rfl,rfl,by decide +kernel,rfl,by decide +kernel,by decide +kernel⟩
theorem fS (B:Bl mg) (D:Def K mg "check_number" bM) (C_is_whole:bq P w K mg base "is_whole" 1 ["thing"] b6):bq P w K mg base "check_number" 2 ["thing","least","most"] bV :=
 bG (k:=1) D gi rfl rfl (hb3 fun _ _ _ _ _ _ _ _ _=>rfl) fun cdv A outer s H E f G hr hp =>
  (ai (eL (tX (lS (eQ (dP (aI C_is_whole (hr.mono (by decide)) (aa (rvl 0) af rfl) rfl (by decide) rfl rfl) (fun _=>rfl))) (k7 (eQ (oS pi po pi po (rvl 1) (rvl 0) (rvl 2) (by with_unfolding_all rfl)))))) (ai oU) b7))
noncomputable def ki:EM:=(eG (ad (ae 1) (ad (ae 2) (ad (ae 0) aj))))
noncomputable def kh:EM:=(cr (bx gj (ad (aq dE (ae 3) (mC (.int 1))) (ad (ae 0) aj))) (au 0) fI ki [none,some 2,some 3])
noncomputable def km:SM:=(eK (gS isL lD 1 (ad kh aj)))
noncomputable def kj:SM:=(cZ (bx gj (ad (aq dE (ae 2) (mC (.int 1))) (ad (ae 0) aj))) (au 3) km)
noncomputable def pv:SM:=(aH (bD 1 (eX aj)) (aH (cZ (bx eF (ad (ae 0) aj)) (au 2) kj) (bK 1 (ae 1))))
noncomputable def bz:Fn:=fnM [false] 4 pv
theorem sc_threes:FnScope ["many","found","i","j"] ["many"] (ag fj):=⟨rfl,rfl,rfl,by decide +kernel,rfl,by decide +kernel,by decide +kernel⟩
theorem lG (B:Bl mg) (D:Def K mg "threes" fj):bq P w K mg base "threes" 1 ["many"] bz :=
 bG (k:=0) D sc_threes rfl rfl (hb1 fun _ _ _ _ _ _ _=>rfl) fun cdv A outer s H E f G hr hp =>
  (ah (aE 1 sc_threes.nd rfl (Or.inl rfl) (cE af) rfl (Or.inl rfl) (by rw [hp];rfl)) (ah (bZ PassesOwn.never rfl (cw rfl B.range (aa (rvl 0) af rfl) rfl) (aT 2 sc_threes.nd rfl (Or.inr rfl) (Or.inl rfl) (by rw [hp];rfl)) (ai (bZ PassesOwn.never rfl (eB rfl B.range (aa (ay aV bt (rvc 2) al) (aa (rvl 0) af rfl) rfl) rfl rfl) (aT 3 sc_threes.nd rfl (Or.inr rfl) (Or.inl rfl) (by rw [hp];rfl)) (ai (eA (gu (ok:=isL) PySem.F.plainAttrs_list PySem.F.slot_list_extend PySem.F.type_list_extend fN li gV (eS (i:=1) rfl (Or.inl rfl) (by decide) (by decide)) (aa (bQ ["k","i","j"] [none,some 2,some 3] rfl (eB rfl B.range (aa (ay aV bt (rvc 3) al) (aa (rvl 0) af rfl) rfl) rfl rfl) (fun s H C fp=>ce) (fun s H C fp=>(bO (aa (rvc 1) (aa (rvc 2) (aa (rvl 0) af rfl) rfl) rfl))) (by rfl) (cK (by decide)) (fun _=>rfl) ⟨_,bo rfl,fun s H C fp=>bF (i:=0) (show (["k","i","j"]:List Str).Nodup by decide +kernel) rfl (Or.inl rfl) (Or.inr rfl)⟩) af rfl) rfl rfl rfl rfl rfl) rfl)) (fun _=>rfl))) (fun _=>rfl)) (ai (aQ 1 (fun i hi=>by rw [hp];exact aD (by simpa using hi)) (rvl 1)))))
noncomputable def ls:EM:=(aq dE (ae 1) (eG (ad (ae 0) aj)))
noncomputable def lr:EM:=(cr (bx gj (ad (aq dE (aq cY (ae 2) (mC (.int 2))) (mC (.int 1))) (ad (ae 0) aj))) (au 0) fI ls [none,some 2])
noncomputable def lu:SM:=(eK (gS isL lD 1 (ad lr aj)))
noncomputable def rQ:SM:=(aH (bD 1 (eX aj)) (aH (cZ (cL (aJ bz (ad (ae 0) aj))) (au 2) lu) (bK 1 (ae 1))))
noncomputable def gx:Fn:=fnM [false] 3 rQ
theorem sc_fours:FnScope ["many","found","three"] ["many"] (ag gq):=⟨rfl,rfl,rfl,by decide +kernel,rfl,by decide +kernel,by decide +kernel⟩
theorem nW (B:Bl mg) (D:Def K mg "fours" gq) (C_threes:bq P w K mg base "threes" 1 ["many"] bz):bq P w K mg base "fours" 2 ["many"] gx :=
 bG (k:=1) D sc_fours rfl rfl (hb1 fun _ _ _ _ _ _ _=>rfl) fun cdv A outer s H E f G hr hp =>
  (ah (aE 1 sc_fours.nd rfl (Or.inl rfl) (cE af) rfl (Or.inl rfl) (by rw [hp];rfl)) (ah (bZ PassesOwn.never rfl (dn (aI C_threes (hr.mono (by decide)) (aa (rvl 0) af rfl) rfl (by decide) rfl rfl)) (aT 2 sc_fours.nd rfl (Or.inr rfl) (Or.inl rfl) (by rw [hp];rfl)) (ai (eA (gu (ok:=isL) PySem.F.plainAttrs_list PySem.F.slot_list_extend PySem.F.type_list_extend fN li gV (eS (i:=1) rfl (Or.inl rfl) (by decide) (by decide)) (aa (bQ ["last","three"] [none,some 2] rfl (eB rfl B.range (aa (ay aV bt (bP (bh hr.hu) bg (rvc 2) al (fun _ _=>rfl)) al) (aa (rvl 0) af rfl) rfl) rfl rfl) (fun s H C fp=>ce) (fun s H C fp=>(ay aV bt (rvc 1) (bO (aa (rvl 0) af rfl)))) (by rfl) (cK (by decide)) (fun _=>rfl) ⟨_,bo rfl,fun s H C fp=>bF (i:=0) (show (["last","three"]:List Str).Nodup by decide +kernel) rfl (Or.inl rfl) (Or.inr rfl)⟩) af rfl) rfl rfl rfl rfl rfl) rfl)) (fun _=>rfl)) (ai (aQ 1 (fun i hi=>by rw [hp];exact aD (by simpa using hi)) (rvl 1)))))
noncomputable def nk:SM:=(bK 1 (lw (aJ b6 (ad (ae 0) aj)) (mOr (aq eqX (ae 0) (mC (.int (1)))) (aq eqX (ae 0) (mC (.int (-1)))))))
noncomputable def eE:Fn:=fnM [false] 1 nk
theorem k6:FnScope ["thing"] ["thing"] (ag en):=⟨rfl,rfl,rfl,by decide +kernel,rfl,by decide +kernel,by decide +kernel⟩
theorem kP (B:Bl mg) (D:Def K mg "is_sign" en) (C_is_whole:bq P w K mg base "is_whole" 1 ["thing"] b6) {tk_DOWN:Tok} (Q_DOWN:mg "DOWN"=some (.int (-1) tk_DOWN)) {tk_UP:Tok} (Q_UP:mg "UP"=some (.int (1) tk_UP)):bq P w K mg base "is_sign" 2 ["thing"] eE :=
 bG (k:=1) D k6 rfl rfl (hb1 fun _ _ _ _ _ _ _=>rfl) fun cdv A outer s H E f G hr hp =>
  (ai (aQ 1 (fun i hi=>by rw [hp];exact aD (by simpa using hi)) (k9 (aI C_is_whole (hr.mono (by decide)) (aa (rvl 0) af rfl) rfl (by decide) rfl rfl) (jf (re_or (jg (jm hr.units) jn (rvl 0) (dU rfl Q_UP (by decide)) (cj _)) (jf (jg (jm hr.units) jn (rvl 0) (dU rfl Q_DOWN (by decide)) (cj _))))))))
noncomputable def fO:SM:=(bK 2 (kB (ad (aJ bz (ad (ae 0) aj)) (ad (ae 1) aj))))
noncomputable def bC:Fn:=fnM [false,false] 2 fO
theorem fi:FnScope ["many","signs"] ["many","signs"] (ag bB):=⟨rfl,rfl,rfl,by decide +kernel,rfl,by decide +kernel,by decide +kernel⟩
theorem fe (B:Bl mg) (D:Def K mg "turns_by_signs" bB) (C_threes:bq P w K mg base "threes" 1 ["many"] bz):bq P w K mg base "turns_by_signs" 2 ["many","signs"] bC :=
 bG (k:=1) D fi rfl rfl (hb2 fun _ _ _ _ _ _ _ _=>rfl) fun cdv A outer s H E f G hr hp =>
  (ai (aQ 2 (fun i hi=>by rw [hp];exact aD (by simpa using hi)) (lY rfl hr.units rfl B.dict rfl B.zip (aa (aI C_threes (hr.mono (by decide)) (aa (rvl 0) af rfl) rfl (by decide) rfl rfl) (aa (rvl 1) af rfl) rfl) rfl rfl rfl)))
noncomputable def c7:M3 Bool:=(cB (aq neX (aq cY (ae 1) (ae 0)) (aq cY (ae 1) (aq dE (ae 0) (mC (.int 1))))))
noncomputable def c6:EM:=(ae 0)
noncomputable def c0:EM:=(cr (bx eF (ad (mC (.int 3)) aj)) (au 0) c7 c6 [none,some 6])
noncomputable def dJ:SM:=(aH (bD 2 (aq cY (ae 1) (mC (.int 0)))) (aH (bD 3 (aq cY (ae 1) (mC (.int 1)))) (aH (bD 4 (aq cY (ae 1) (mC (.int 2)))) (aH (bD 5 (aq cY (ae 1) (mC (.int 3)))) (aH (bD 6 (eX (ad (aq cY (ae 0) (eG (ad (ae 2) (ad (ae 3) (ad (ae 4) aj))))) (ad (aq cY (ae 0) (eG (ad (ae 2) (ad (ae 3) (ad (ae 5) aj))))) (ad (aq cY (ae 0) (eG (ad (ae 2) (ad (ae 4) (ad (ae 5) aj))))) (ad (aq cY (ae 0) (eG (ad (ae 3) (ad (ae 4) (ad (ae 5) aj))))) aj)))))) (bK 2 (aq leI (aF fB (ad c0 aj)) (mC (.int 1)))))))))
noncomputable def ao:Fn:=fnM [false,false] 7 dJ
theorem sc_change_once_at_most:FnScope ["turns","four","h","i","j","k","row"] ["turns","four"] (ag aO):=⟨rfl,rfl,rfl,by decide +kernel,rfl,by decide +kernel,by decide +kernel⟩
theorem dh (B:Bl mg) (D:Def K mg "change_once_at_most" aO):bq P w K mg base "change_once_at_most" 1 ["turns","four"] ao :=
 bG (k:=0) D sc_change_once_at_most rfl rfl (hb2 fun _ _ _ _ _ _ _ _=>rfl) fun cdv A outer s H E f G hr hp =>
  (ah (aE 2 sc_change_once_at_most.nd rfl (Or.inl rfl) (bP (bh hr.hu) bg (rvl 1) al (fun _ _=>rfl)) rfl (Or.inl rfl) (by rw [hp];rfl)) (ah (aE 3 sc_change_once_at_most.nd rfl (Or.inl rfl) (bP (bh hr.hu) bg (rvl 1) al (fun _ _=>rfl)) rfl (Or.inl rfl) (by rw [hp];rfl)) (ah (aE 4 sc_change_once_at_most.nd rfl (Or.inl rfl) (bP (bh hr.hu) bg (rvl 1) al (fun _ _=>rfl)) rfl (Or.inl rfl) (by rw [hp];rfl)) (ah (aE 5 sc_change_once_at_most.nd rfl (Or.inl rfl) (bP (bh hr.hu) bg (rvl 1) al (fun _ _=>rfl)) rfl (Or.inl rfl) (by rw [hp];rfl)) (ah (aE 6 sc_change_once_at_most.nd rfl (Or.inr rfl) (cE (aa (bP (bh hr.hu) bg (rvl 0) (bO (aa (rvl 2) (aa (rvl 3) (aa (rvl 4) af rfl) rfl) rfl)) (fun _ _=>rfl)) (aa (bP (bh hr.hu) bg (rvl 0) (bO (aa (rvl 2) (aa (rvl 3) (aa (rvl 5) af rfl) rfl) rfl)) (fun _ _=>rfl)) (aa (bP (bh hr.hu) bg (rvl 0) (bO (aa (rvl 2) (aa (rvl 4) (aa (rvl 5) af rfl) rfl) rfl)) (fun _ _=>rfl)) (aa (bP (bh hr.hu) bg (rvl 0) (bO (aa (rvl 3) (aa (rvl 4) (aa (rvl 5) af rfl) rfl) rfl)) (fun _ _=>rfl)) af rfl) rfl) rfl) rfl)) rfl (Or.inl rfl) (by rw [hp];rfl)) (ai (aQ 2 (fun i hi=>by rw [hp];exact aD (by simpa using hi)) (jg pi po (aU aZ d8 rfl B.len gg (aa (bQ ["at","row"] [none,some 6] rfl (cw rfl B.range (aa al af rfl) rfl) (fun s H C fp=>(gG (dQ (gK hr.units) gM (bP (bh hr.hu) bg (rvc 1) (rvl 0) (fun _ _=>rfl)) (bP (bh hr.hu) bg (rvc 1) (ay aV bt (rvl 0) al) (fun _ _=>rfl)) (cj _)))) (fun s H C fp=>(rvl 0)) (by rfl) (cK (by decide)) (fun _=>rfl) ⟨_,bo rfl,fun s H C fp=>bF (i:=0) (show (["at","row"]:List Str).Nodup by decide +kernel) rfl (Or.inl rfl) (Or.inr rfl)⟩) af rfl) (by decide) (by decide) rfl rfl) al (cj _)))))))))
noncomputable def bR:EM:=(aJ eE (ad (ae 0) aj))
noncomputable def cW:EM:=(cr (cL (ae 1)) (au 0) fI bR [none])
noncomputable def am:EM:=(aJ ao (ad (ae 1) (ad (ae 0) aj)))
noncomputable def cV:EM:=(cr (cL (aJ gx (ad (ae 0) aj))) (au 0) fI am [none,some 2])
noncomputable def dY:SM:=(aH (sIf (cOr (fU (cB (mUn (iw "tuple") (ae 1)))) (fU (cB (aF nZ (ad cW aj))))) (bK 2 (mC (.bl false))) fq) (aH (sIf (cB (aq neX (aF fB (ad (ae 1) aj)) (aF fB (ad (aJ bz (ad (ae 0) aj)) aj)))) (bK 2 (mC (.bl false))) fq) (aH (bD 2 (aJ bC (ad (ae 0) (ad (ae 1) aj)))) (bK 2 (aF nZ (ad cV aj))))))
noncomputable def bA:Fn:=fnM [false,false] 3 dY
theorem sc_are_signs_of:FnScope ["many","thing","turns"] ["many","thing"] (ag bN):=⟨rfl,rfl,rfl,by decide +kernel,rfl,by decide +kernel,by decide +kernel⟩
theorem fT (B:Bl mg) (D:Def K mg "are_signs_of" bN) (C_change_once_at_most:bq P w K mg base "change_once_at_most" 1 ["turns","four"] ao) (C_fours:bq P w K mg base "fours" 2 ["many"] gx) (C_is_sign:bq P w K mg base "is_sign" 2 ["thing"] eE) (C_threes:bq P w K mg base "threes" 1 ["many"] bz) (C_turns_by_signs:bq P w K mg base "turns_by_signs" 2 ["many","signs"] bC):bq P w K mg base "are_signs_of" 3 ["many","thing"] bA :=
 bG (k:=2) D sc_are_signs_of rfl rfl (hb2 fun _ _ _ _ _ _ _ _=>rfl) fun cdv A outer s H E f G hr hp =>
  (ah (eL (tX (lS (eQ (dP (eR d9 rfl B.isinstance (du (v:=V.ty "tuple") rfl B.tuple jC rfl (by decide) (by decide)) (rvl 1) rfl rfl rfl) (fun _=>rfl))) (k7 (eQ (dP (aU (fH rfl) jx rfl B.all mI (aa (bQ ["sign"] [none] rfl (dn (rvl 1)) (fun s H C fp=>ce) (fun s H C fp=>(aI C_is_sign (hr.mono (by decide)) (aa (rvl 0) af rfl) rfl (by decide) rfl rfl)) (by rfl) (cK (by decide)) (fun _=>rfl) ⟨_,bo rfl,fun s H C fp=>bF (i:=0) (show (["sign"]:List Str).Nodup by decide +kernel) rfl (Or.inl rfl) (Or.inr rfl)⟩) af rfl) (by decide) (by decide) rfl rfl) (fun _=>rfl)))))) (ai (aQ 2 (fun i hi=>by rw [hp];exact aD (by simpa using hi)) fZ)) b7) (ah (eL (dQ (gK hr.units) gM (aU aZ d8 rfl B.len gg (aa (rvl 1) af rfl) (by decide) (by decide) rfl rfl) (aU aZ d8 rfl B.len gg (aa (aI C_threes (hr.mono (by decide)) (aa (rvl 0) af rfl) rfl (by decide) rfl rfl) af rfl) (by decide) (by decide) rfl rfl) (cj _)) (ai (aQ 2 (fun i hi=>by rw [hp];exact aD (by simpa using hi)) fZ)) b7) (ah (aE 2 sc_are_signs_of.nd rfl (Or.inr rfl) (aI C_turns_by_signs (hr.mono (by decide)) (aa (rvl 0) (aa (rvl 1) af rfl) rfl) rfl (by decide) rfl rfl) rfl (Or.inl rfl) (by rw [hp];rfl)) (ai (aQ 2 (fun i hi=>by rw [hp];exact aD (by simpa using hi)) (aU (fH rfl) jx rfl B.all mI (aa (bQ ["four","turns"] [none,some 2] rfl (dn (aI C_fours (hr.mono (by decide)) (aa (rvl 0) af rfl) rfl (by decide) rfl rfl)) (fun s H C fp=>ce) (fun s H C fp=>(aI C_change_once_at_most (hr.mono (by decide)) (aa (rvc 1) (aa (rvl 0) af rfl) rfl) rfl (by decide) rfl rfl)) (by rfl) (cK (by decide)) (fun _=>rfl) ⟨_,bo rfl,fun s H C fp=>bF (i:=0) (show (["four","turns"]:List Str).Nodup by decide +kernel) rfl (Or.inl rfl) (Or.inr rfl)⟩) af rfl) (by decide) (by decide) rfl rfl))))))
noncomputable def bS:SM:=(eK (gS isL lD 3 (ad (eX (ad (aq dE (ae 4) (eG (ad (mC (.int (-1))) aj))) (ad (aq dE (ae 4) (eG (ad (mC (.int (1))) aj))) aj))) aj)))
noncomputable def bu:SM:=(aH (bD 3 (eX aj)) (aH (cZ (cL (ae 1)) (au 4) bS) (bD 1 (ae 3))))
noncomputable def cG:M3 Bool:=(cB (aJ bA (ad (ae 1) (ad (ae 0) aj))))
noncomputable def d5:EM:=(ae 0)
noncomputable def dZ:EM:=(cr (cL (ae 1)) (au 0) cG d5 [none,some 0])
noncomputable def f9:SM:=(aH (eK (aJ bV (ad (ae 0) (ad (mC (.int 1)) (ad (mC (.int (5))) aj))))) (aH (bD 1 (eX (ad (eG aj) aj))) (aH (cZ (bx eF (ad (aF fB (ad (aJ bz (ad (ae 0) aj)) aj)) aj)) (au 2) bu) (bK 1 dZ))))
noncomputable def bJ:Fn:=fnM [false] 5 f9
theorem sc_all_signs:FnScope ["many","rows","at","longer","row"] ["many"] (ag cP):=⟨rfl,rfl,rfl,by decide +kernel,rfl,by decide +kernel,by decide +kernel⟩
theorem iA (B:Bl mg) (D:Def K mg "all_signs" cP) (C_are_signs_of:bq P w K mg base "are_signs_of" 3 ["many","thing"] bA) (C_check_number:bq P w K mg base "check_number" 2 ["thing","least","most"] bV) (C_threes:bq P w K mg base "threes" 1 ["many"] bz) {tk_DOWN:Tok} (Q_DOWN:mg "DOWN"=some (.int (-1) tk_DOWN)) {tk_MOST_FOR_ALL_SIGNS:Tok} (Q_MOST_FOR_ALL_SIGNS:mg "MOST_FOR_ALL_SIGNS"=some (.int (5) tk_MOST_FOR_ALL_SIGNS)) {tk_UP:Tok} (Q_UP:mg "UP"=some (.int (1) tk_UP)):bq P w K mg base "all_signs" 4 ["many"] bJ :=
 bG (k:=3) D sc_all_signs rfl rfl (hb1 fun _ _ _ _ _ _ _=>rfl) fun cdv A outer s H E f G hr hp =>
  (ah (eA (aI C_check_number (hr.mono (by decide)) (aa (rvc 0) (aa al (aa (dU rfl Q_MOST_FOR_ALL_SIGNS (by decide)) af rfl) rfl) rfl) rfl (by decide) rfl rfl) rfl) (ah (aE 1 sc_all_signs.nd rfl (Or.inl rfl) (cE (aa (bO af) af rfl)) rfl (Or.inl rfl) (by rw [hp];rfl)) (ah (bZ PassesOwn.never rfl (cw rfl B.range (aa (aU aZ d8 rfl B.len gg (aa (aI C_threes (hr.mono (by decide)) (aa (rvc 0) af rfl) rfl (by decide) rfl rfl) af rfl) (by decide) (by decide) rfl rfl) af rfl) rfl) (aT 2 sc_all_signs.nd rfl (Or.inl rfl) (Or.inl rfl) (by rw [hp];rfl)) (ah (aE 3 sc_all_signs.nd rfl (Or.inl rfl) (cE af) rfl (Or.inl rfl) (by rw [hp];rfl)) (ah (bZ PassesOwn.never rfl (dn (rvl 1)) (aT 4 sc_all_signs.nd rfl (Or.inl rfl) (Or.inl rfl) (by rw [hp];rfl)) (ai (eA (gu (ok:=isL) PySem.F.plainAttrs_list PySem.F.slot_list_extend PySem.F.type_list_extend fN li gV (eS (i:=3) rfl (Or.inl rfl) (by decide) (by decide)) (aa (cE (aa (ay aV bt (rvl 4) (bO (aa (dU rfl Q_DOWN (by decide)) af rfl))) (aa (ay aV bt (rvl 4) (bO (aa (dU rfl Q_UP (by decide)) af rfl))) af rfl) rfl)) af rfl) rfl rfl rfl rfl rfl) rfl)) (fun _=>rfl)) (ai (aE 1 sc_all_signs.nd rfl (Or.inl rfl) (rvl 3) rfl (Or.inl rfl) (by rw [hp];rfl))))) (fun _=>rfl)) (ai (aQ 1 (fun i hi=>by rw [hp];exact aD (by simpa using hi)) (bQ ["row","many"] [none,some 0] rfl (dn (rvl 1)) (fun s H C fp=>(gG (dP (aI C_are_signs_of (hr.mono (by decide)) (aa (rvc 1) (aa (rvl 0) af rfl) rfl) rfl (by decide) rfl rfl) (fun _=>rfl)))) (fun s H C fp=>(rvl 0)) (by rfl) (cK (by decide)) (fun _=>rfl) ⟨_,bo rfl,fun s H C fp=>bF (i:=0) (show (["row","many"]:List Str).Nodup by decide +kernel) rfl (Or.inl rfl) (Or.inr rfl)⟩))))))
noncomputable def dA:SM:=(aH (bD 5 (aq lh (aq dE (aq dE (aq gN (aq lh (ae 2) (mC (.int 2147483647))) (mC (.int 48271))) (aq gN (mC (.int 7919)) (ae 4))) (mC (.int 1))) (mC (.int 2147483647)))) (aH (bD 5 (aq lh (aq gN (ae 5) (ae 5)) (mC (.int 2147483629)))) (bD 3 (aq dE (aq gN (ae 3) (mC (.int 2147483647))) (aq lh (aq gN (ae 5) (aq dE (ae 5) (mC (.int 13)))) (mC (.int 2147483647)))))))
noncomputable def rP:SM:=(aH (bD 2 (aq dE (aq gN (mC (.int 7919)) (ae 1)) (mC (.int 13)))) (aH (sIf (cB (aq ltI (ae 1) (aF fB (ad (ae 0) aj)))) (bD 2 (aq cY (ae 0) (ae 1))) fq) (aH (sIf (cB (aq eqX (aq lh (ae 2) (mC (.int 2))) (mC (.int 0)))) (bK 2 (eX (ad (aq uZ (ae 2) (mC (.int 2))) aj))) fq) (aH (bD 3 (mC (.int 0))) (aH (cZ (bx eF (ad (mC (.int 16)) aj)) (au 4) dA) (bK 2 (eX (ad (ae 3) aj))))))))
noncomputable def fK:Fn:=fnM [false,false] 6 rP
theorem sc_l_box:FnScope ["_law_script","_law_k","_law_here","_law_number","_law_j","_law_part"] ["_law_script","_law_k"] (ag gm):=⟨rfl,rfl,rfl,by decide +kernel,rfl,by decide +kernel,by decide +kernel⟩
theorem nU (B:Bl mg) (D:Def K mg "_law_box" gm):bq P w K mg base "_law_box" 1 ["_law_script","_law_k"] fK :=
 bG (k:=0) D sc_l_box rfl rfl (hb2 fun _ _ _ _ _ _ _ _=>rfl) fun cdv A outer s H E f G hr hp =>
  (ah (aE 2 sc_l_box.nd rfl (Or.inl rfl) (ay aV bt (ay eT dw al (rvl 1)) al) rfl (Or.inl rfl) (by rw [hp];rfl)) (ah (eL (dQ op_lt od_lt (rvl 1) (aU aZ d8 rfl B.len gg (aa (rvl 0) af rfl) (by decide) (by decide) rfl rfl) (cj _)) (ai (aE 2 sc_l_box.nd rfl (Or.inl rfl) (bP (bh hr.hu) bg (rvl 0) (rvl 1) (fun _ _=>rfl)) rfl (Or.inl rfl) (by rw [hp];rfl))) b7) (ah (eL (dQ (jm hr.units) jn (ay gL fw (rvl 2) al) al (cj _)) (ai (aQ 2 (fun i hi=>by rw [hp];exact aD (by simpa using hi)) (cE (aa (ay pj rK (rvl 2) al) af rfl)))) b7) (ah (aE 3 sc_l_box.nd rfl (Or.inl rfl) al rfl (Or.inl rfl) (by rw [hp];rfl)) (ah (bZ PassesOwn.never rfl (cw rfl B.range (aa al af rfl) rfl) (aT 4 sc_l_box.nd rfl (Or.inl rfl) (Or.inl rfl) (by rw [hp];rfl)) (ah (aE 5 sc_l_box.nd rfl (Or.inl rfl) (ay gL fw (ay aV bt (ay aV bt (ay eT dw (ay gL fw (rvl 2) al) al) (ay eT dw al (rvl 4))) al) al) rfl (Or.inl rfl) (by rw [hp];rfl)) (ah (aE 5 sc_l_box.nd rfl (Or.inl rfl) (ay gL fw (ay eT dw (rvl 5) (rvl 5)) al) rfl (Or.inl rfl) (by rw [hp];rfl)) (ai (aE 3 sc_l_box.nd rfl (Or.inl rfl) (ay aV bt (ay eT dw (rvl 3) al) (ay gL fw (ay eT dw (rvl 5) (ay aV bt (rvl 5) al)) al)) rfl (Or.inl rfl) (by rw [hp];rfl))))) (fun _=>rfl)) (ai (aQ 2 (fun i hi=>by rw [hp];exact aD (by simpa using hi)) (cE (aa (rvl 3) af rfl)))))))))
noncomputable def pC:SM:=(aH (oO (lK 2 (cu (au 2) (cu (au 3) lL))) (aF p6 (ad (aq cY (ae 0) (mC (.int 0))) (ad (ae 1) aj)))) (aH (oM setD 0 (mC (.int 0)) (ae 2)) (bK 2 (ae 3))))
noncomputable def fJ:Fn:=fnM [false,false] 4 pC
theorem sc_l_take:FnScope ["_law_box_here","_law_many","_law_left","_law_digit"] ["_law_box_here","_law_many"] (ag fk):=⟨rfl,rfl,rfl,by decide +kernel,rfl,by decide +kernel,by decide +kernel⟩
theorem lH (B:Bl mg) (D:Def K mg "_law_take" fk):bq P w K mg base "_law_take" 1 ["_law_box_here","_law_many"] fJ :=
 bG (k:=0) D sc_l_take rfl rfl (hb2 fun _ _ _ _ _ _ _ _=>rfl) fun cdv A outer s H E f G hr hp =>
  (ah (tZ (oV rfl (dS (aT 2 sc_l_take.nd rfl (Or.inl rfl) (Or.inl rfl) (by rw [hp];rfl)) (dS (aT 3 sc_l_take.nd rfl (Or.inl rfl) (Or.inl rfl) (by rw [hp];rfl)) lV rfl) rfl) rfl rfl) (aU kN nO rfl B.divmod ql (aa (bP (bh hr.hu) bg (rvl 0) al (fun _ _=>rfl)) (aa (rvl 1) af rfl) rfl) (by decide) (by decide) rfl rfl) rfl rfl rfl) (ah (tY (i:=0) (qQ hr.hu) uG (eS rfl (Or.inl rfl) (by decide) (by decide)) al (rvl 2) (fun _=>rfl) rfl rfl rfl) (ai (aQ 2 (fun i hi=>by rw [hp];exact aD (by simpa using hi)) (rvl 3)))))
noncomputable def ni:SM:=(bK 1 (lw (mUn (iw "int") (ae 0)) (rS (mUn (iw "bool") (ae 0)))))
noncomputable def fV:Fn:=fnM [false] 1 ni
theorem k5:FnScope ["_law_thing"] ["_law_thing"] (ag el):=⟨rfl,rfl,rfl,by decide +kernel,rfl,by decide +kernel,by decide +kernel⟩
theorem kO (B:Bl mg) (D:Def K mg "_law_whole" el):bq P w K mg base "_law_whole" 1 ["_law_thing"] fV :=
 bG (k:=0) D k5 rfl rfl (hb1 fun _ _ _ _ _ _ _=>rfl) fun cdv A outer s H E f G hr hp =>
  (ai (aQ 1 (fun i hi=>by rw [hp];exact aD (by simpa using hi)) (k9 (eR fG rfl B.isinstance (du (v:=V.ty "int") rfl B.int qk rfl (by decide) (by decide)) (rvl 0) rfl rfl rfl) (jf (oX (eR eO rfl B.isinstance (du (v:=V.ty "bool") rfl B.bool qm rfl (by decide) (by decide)) (rvl 0) rfl rfl rfl))))))
noncomputable def ip:EM:=(eG (ad (ae 1) (ad (ae 2) (ad (ae 0) aj))))
noncomputable def io:EM:=(cr (bx gj (ad (aq dE (ae 3) (mC (.int 1))) (ad (ae 0) aj))) (au 0) fI ip [none,some 2,some 3])
noncomputable def ir:SM:=(bD 1 (aq dE (ae 1) io))
noncomputable def iq:SM:=(cZ (bx gj (ad (aq dE (ae 2) (mC (.int 1))) (ad (ae 0) aj))) (au 3) ir)
noncomputable def lp:SM:=(aH (bD 1 (eX aj)) (aH (cZ (bx eF (ad (ae 0) aj)) (au 2) iq) (bK 1 (ae 1))))
noncomputable def dG:Fn:=fnM [false] 4 lp
theorem sc_l_threes:FnScope ["_law_many","_law_found","_law_i","_law_j"] ["_law_many"] (ag dl):=⟨rfl,rfl,rfl,by decide +kernel,rfl,by decide +kernel,by decide +kernel⟩
theorem jz (B:Bl mg) (D:Def K mg "_law_threes" dl):bq P w K mg base "_law_threes" 1 ["_law_many"] dG :=
 bG (k:=0) D sc_l_threes rfl rfl (hb1 fun _ _ _ _ _ _ _=>rfl) fun cdv A outer s H E f G hr hp =>
  (ah (aE 1 sc_l_threes.nd rfl (Or.inl rfl) (cE af) rfl (Or.inl rfl) (by rw [hp];rfl)) (ah (bZ PassesOwn.never rfl (cw rfl B.range (aa (rvl 0) af rfl) rfl) (aT 2 sc_l_threes.nd rfl (Or.inr rfl) (Or.inl rfl) (by rw [hp];rfl)) (ai (bZ PassesOwn.never rfl (eB rfl B.range (aa (ay aV bt (rvc 2) al) (aa (rvl 0) af rfl) rfl) rfl rfl) (aT 3 sc_l_threes.nd rfl (Or.inr rfl) (Or.inl rfl) (by rw [hp];rfl)) (ai (aE 1 sc_l_threes.nd rfl (Or.inl rfl) (ay aV bt (rvl 1) (bQ ["_law_k","_law_i","_law_j"] [none,some 2,some 3] rfl (eB rfl B.range (aa (ay aV bt (rvc 3) al) (aa (rvl 0) af rfl) rfl) rfl rfl) (fun s H C fp=>ce) (fun s H C fp=>(bO (aa (rvc 1) (aa (rvc 2) (aa (rvl 0) af rfl) rfl) rfl))) (by rfl) (cK (by decide)) (fun _=>rfl) ⟨_,bo rfl,fun s H C fp=>bF (i:=0) (show (["_law_k","_law_i","_law_j"]:List Str).Nodup by decide +kernel) rfl (Or.inl rfl) (Or.inr rfl)⟩)) rfl (Or.inl rfl) (by rw [hp];rfl))) (fun _=>rfl))) (fun _=>rfl)) (ai (aQ 1 (fun i hi=>by rw [hp];exact aD (by simpa using hi)) (rvl 1)))))
noncomputable def kz:M3 Bool:=(cB (aq neX (aq cY (ae 1) (ae 0)) (aq cY (ae 1) (aq dE (ae 0) (mC (.int 1))))))
noncomputable def ky:EM:=(ae 0)
noncomputable def ku:EM:=(cr (bx eF (ad (mC (.int 3)) aj)) (au 0) kz ky [none,some 8])
noncomputable def kA:SM:=(aH (bD 8 (eX (ad (aq cY (ae 3) (eG (ad (ae 7) (ad (ae 4) (ad (ae 5) aj))))) (ad (aq cY (ae 3) (eG (ad (ae 7) (ad (ae 4) (ad (ae 6) aj))))) (ad (aq cY (ae 3) (eG (ad (ae 7) (ad (ae 5) (ad (ae 6) aj))))) (ad (aq cY (ae 3) (eG (ad (ae 4) (ad (ae 5) (ad (ae 6) aj))))) aj)))))) (sIf (cB (aq gtI (aF fB (ad ku aj)) (mC (.int 1)))) (bK 3 (mC (.bl false))) fq))
noncomputable def bc:SM:=(cZ (bx eF (ad (ae 4) aj)) (au 7) kA)
noncomputable def gQ:SM:=(aH (bD 3 (kB (ad (ae 1) (ad (ae 2) aj)))) (aH (cZ (cL (ae 1)) (lK 3 (cu (au 4) (cu (au 5) (cu (au 6) lL)))) bc) (bK 3 (mC (.bl true)))))
noncomputable def ee:Fn:=fnM [false,false,false] 9 gQ
theorem sc_l_good:FnScope ["_law_many","_law_threes_here","_law_row","_law_told","_law_i","_law_j","_law_k","_law_h","_law_some"] ["_law_many","_law_threes_here","_law_row"] (ag fm):=⟨rfl,rfl,rfl,by decide +kernel,rfl,by decide +kernel,by decide +kernel⟩
theorem lI (B:Bl mg) (D:Def K mg "_law_good" fm):bq P w K mg base "_law_good" 1 ["_law_many","_law_threes_here","_law_row"] ee :=
 bG (k:=0) D sc_l_good rfl rfl (hb3 fun _ _ _ _ _ _ _ _ _=>rfl) fun cdv A outer s H E f G hr hp =>
  (ah (aE 3 sc_l_good.nd rfl (Or.inl rfl) (lY rfl hr.units rfl B.dict rfl B.zip (aa (rvl 1) (aa (rvl 2) af rfl) rfl) rfl rfl rfl) rfl (Or.inl rfl) (by rw [hp];rfl)) (ah (bZ PassesOwn.never rfl (dn (rvl 1)) (oV rfl (dS (aT 4 sc_l_good.nd rfl (Or.inl rfl) (Or.inl rfl) (by rw [hp];rfl)) (dS (aT 5 sc_l_good.nd rfl (Or.inl rfl) (Or.inl rfl) (by rw [hp];rfl)) (dS (aT 6 sc_l_good.nd rfl (Or.inl rfl) (Or.inl rfl) (by rw [hp];rfl)) lV rfl) rfl) rfl) rfl rfl) (ai (bZ PassesOwn.never rfl (cw rfl B.range (aa (rvl 4) af rfl) rfl) (aT 7 sc_l_good.nd rfl (Or.inl rfl) (Or.inl rfl) (by rw [hp];rfl)) (ah (aE 8 sc_l_good.nd rfl (Or.inr rfl) (cE (aa (bP (bh hr.hu) bg (rvl 3) (bO (aa (rvl 7) (aa (rvl 4) (aa (rvl 5) af rfl) rfl) rfl)) (fun _ _=>rfl)) (aa (bP (bh hr.hu) bg (rvl 3) (bO (aa (rvl 7) (aa (rvl 4) (aa (rvl 6) af rfl) rfl) rfl)) (fun _ _=>rfl)) (aa (bP (bh hr.hu) bg (rvl 3) (bO (aa (rvl 7) (aa (rvl 5) (aa (rvl 6) af rfl) rfl) rfl)) (fun _ _=>rfl)) (aa (bP (bh hr.hu) bg (rvl 3) (bO (aa (rvl 4) (aa (rvl 5) (aa (rvl 6) af rfl) rfl) rfl)) (fun _ _=>rfl)) af rfl) rfl) rfl) rfl)) rfl (Or.inl rfl) (by rw [hp];rfl)) (ai (eL (dQ op_gt od_gt (aU aZ d8 rfl B.len gg (aa (bQ ["_law_at","_law_some"] [none,some 8] rfl (cw rfl B.range (aa al af rfl) rfl) (fun s H C fp=>(gG (dQ (gK hr.units) gM (bP (bh hr.hu) bg (rvc 1) (rvl 0) (fun _ _=>rfl)) (bP (bh hr.hu) bg (rvc 1) (ay aV bt (rvl 0) al) (fun _ _=>rfl)) (cj _)))) (fun s H C fp=>(rvl 0)) (by rfl) (cK (by decide)) (fun _=>rfl) ⟨_,bo rfl,fun s H C fp=>bF (i:=0) (show (["_law_at","_law_some"]:List Str).Nodup by decide +kernel) rfl (Or.inl rfl) (Or.inr rfl)⟩) af rfl) (by decide) (by decide) rfl rfl) al (cj _)) (ai (aQ 3 (fun i hi=>by rw [hp];exact aD (by simpa using hi)) fZ)) b7))) (fun _=>rfl))) (fun _=>rfl)) (ai (aQ 3 (fun i hi=>by rw [hp];exact aD (by simpa using hi)) fZ))))
noncomputable def eW:EM:=(aq subI (aq gN (mC (.int 2)) (aq vf (aq tP (ae 1) (ae 0)) (mC (.int 1)))) (mC (.int 1)))
noncomputable def eV:EM:=(cr (bx eF (ad (aF fB (ad (ae 1) aj)) aj)) (au 0) fI eW [none,some 3])
noncomputable def cF:SM:=(aH (bD 4 (aF qB (ad eV aj))) (sIf (cB (aJ ee (ad (ae 0) (ad (ae 1) (ad (ae 4) aj))))) (eK (gS isL sy 2 (ad (ae 4) aj))) fq))
noncomputable def mh:SM:=(aH (bD 1 (aJ dG (ad (ae 0) aj))) (aH (bD 2 (eX aj)) (aH (cZ (bx eF (ad (aq tQ (mC (.int 1)) (aF fB (ad (ae 1) aj))) aj)) (au 3) cF) (bK 1 (aF k4 (ad (ae 2) aj))))))
noncomputable def fL:Fn:=fnM [false] 5 mh
theorem sc_l_all:FnScope ["_law_many","_law_threes_here","_law_found","_law_lot","_law_row"] ["_law_many"] (ag gp):=⟨rfl,rfl,rfl,by decide +kernel,rfl,by decide +kernel,by decide +kernel⟩
theorem nV (B:Bl mg) (D:Def K mg "_law_all" gp) (C__law_good:bq P w K mg base "_law_good" 1 ["_law_many","_law_threes_here","_law_row"] ee) (C__law_threes:bq P w K mg base "_law_threes" 1 ["_law_many"] dG):bq P w K mg base "_law_all" 2 ["_law_many"] fL :=
 bG (k:=1) D sc_l_all rfl rfl (hb1 fun _ _ _ _ _ _ _=>rfl) fun cdv A outer s H E f G hr hp =>
  (ah (aE 1 sc_l_all.nd rfl (Or.inl rfl) (aI C__law_threes (hr.mono (by decide)) (aa (rvl 0) af rfl) rfl (by decide) rfl rfl) rfl (Or.inl rfl) (by rw [hp];rfl)) (ah (aE 2 sc_l_all.nd rfl (Or.inl rfl) (cE af) rfl (Or.inl rfl) (by rw [hp];rfl)) (ah (bZ PassesOwn.never rfl (cw rfl B.range (aa (ay uu uB al (aU aZ d8 rfl B.len gg (aa (rvl 1) af rfl) (by decide) (by decide) rfl rfl)) af rfl) rfl) (aT 3 sc_l_all.nd rfl (Or.inr rfl) (Or.inl rfl) (by rw [hp];rfl)) (ah (aE 4 sc_l_all.nd rfl (Or.inl rfl) (iQ iy u6 rfl B.tuple jC (aa (bQ ["_law_at","_law_lot"] [none,some 3] rfl (cw rfl B.range (aa (aU aZ d8 rfl B.len gg (aa (rvl 1) af rfl) (by decide) (by decide) rfl rfl) af rfl) rfl) (fun s H C fp=>ce) (fun s H C fp=>(ay uq rH (ay eT dw al (ay ux uC (ay ut uA (rvc 1) (rvl 0)) al)) al)) (by rfl) (cK (by decide)) (fun _=>rfl) ⟨_,bo rfl,fun s H C fp=>bF (i:=0) (show (["_law_at","_law_lot"]:List Str).Nodup by decide +kernel) rfl (Or.inl rfl) (Or.inr rfl)⟩) af rfl) (by decide) (by decide) rfl rfl) rfl (Or.inl rfl) (by rw [hp];rfl)) (ai (eL (dP (aI C__law_good (hr.mono (by decide)) (aa (rvl 0) (aa (rvl 1) (aa (rvl 4) af rfl) rfl) rfl) rfl (by decide) rfl rfl) (fun _=>rfl)) (ai (eA (gu (ok:=isL) PySem.F.plainAttrs_list PySem.F.slot_list_append PySem.F.type_list_append ng uI gV (eS (i:=2) rfl (Or.inl rfl) (by decide) (by decide)) (aa (rvl 4) af rfl) rfl rfl rfl rfl rfl) rfl)) b7))) (fun _=>rfl)) (ai (aQ 1 (fun i hi=>by rw [hp];exact aD (by simpa using hi)) (aU (lF (Nat.lt_of_le_of_lt (Nat.add_le_add_left (by decide:2<=64) _) hr.units)) qc rfl B.sorted qj (aa (rvl 2) af rfl) (by decide) (by decide) rfl rfl))))))
noncomputable def pB:EM:=(mUn (iw "tuple") (ae 0))
noncomputable def ko:EM:=(cr (cL (ae 4)) (au 0) fI pB [none])
noncomputable def pA:EM:=(aJ fV (ad (ae 0) aj))
noncomputable def py:EM:=(cr (cL (ae 5)) (au 0) fI pA [none])
noncomputable def kr:SM:=(sIf (fU (cB (aF nZ (ad py aj)))) (bK 1 (mC (.bl false))) fq)
noncomputable def dX:SM:=(aH (bD 3 (aJ fL (ad (ae 2) aj))) (aH (bD 4 (aJ bJ (ad (ae 2) aj))) (aH (sIf (cOr (fU (cB (mUn (iw "list") (ae 4)))) (cOr (cB (aq neX (ae 4) (ae 3))) (fU (cB (aF nZ (ad ko aj)))))) (bK 1 (mC (.bl false))) fq) (aH (cZ (cL (ae 4)) (au 5) kr) (aH (eK (gS isL u5 4 aj)) (sIf (cB (aq neX (aJ bJ (ad (ae 2) aj)) (ae 3))) (bK 1 (mC (.bl false))) fq))))))
noncomputable def sO:SM:=(aH (bD 1 (aJ fK (ad (ae 0) (ad (mC (.int 0)) aj)))) (aH (cZ (bx gj (ad (mC (.int 1)) (ad (aq dE (mC (.int 5)) (aF pM (ad (aq eqX (aJ fJ (ad (ae 1) (ad (mC (.int 4)) aj))) (mC (.int 3))) aj))) aj))) (au 2) dX) (bK 1 (mC (.bl true)))))
noncomputable def sX:Fn:=fnM [false] 6 sO
theorem sc_law:FnScope ["_law_script","_law_box_here","_law_many","_law_due","_law_found","_law_row"] ["_law_script"] (ag dO):=⟨rfl,rfl,rfl,by decide +kernel,rfl,by decide +kernel,by decide +kernel⟩
theorem se {f:Addr} {fd:FuncData} (B:Bl mg) (D:Fun K "law" "law" dO f fd) (C__law_all:bq P w K mg base "_law_all" 2 ["_law_many"] fL) (C__law_box:bq P w K mg base "_law_box" 1 ["_law_script","_law_k"] fK) (C__law_take:bq P w K mg base "_law_take" 1 ["_law_box_here","_law_many"] fJ) (C__law_whole:bq P w K mg base "_law_whole" 1 ["_law_thing"] fV) (C_all_signs:bq P w K mg base "all_signs" 4 ["many"] bJ):FnOk P w K mg base CX0 5 f fd ["_law_script"] (mQ K sX) :=
 uW (k:=4) D sc_law rfl rfl fun cdv A outer s H E f G hr hp =>
  (ah (aE 1 sc_law.nd rfl (Or.inl rfl) (aI C__law_box (hr.mono (by decide)) (aa (rvl 0) (aa al af rfl) rfl) rfl (by decide) rfl rfl) rfl (Or.inl rfl) (by rw [hp];rfl)) (ah (bZ PassesOwn.never rfl (eB rfl B.range (aa al (aa (ay aV bt al (iQ nR si rfl B.int qk (aa (jg (jm hr.units) jn (aI C__law_take (hr.mono (by decide)) (aa (rvl 1) (aa al af rfl) rfl) rfl (by decide) rfl rfl) al (cj _)) af rfl) (by decide) (by decide) rfl rfl)) af rfl) rfl) rfl rfl) (aT 2 sc_law.nd rfl (Or.inl rfl) (Or.inl rfl) (by rw [hp];rfl)) (ah (aE 3 sc_law.nd rfl (Or.inl rfl) (aI C__law_all (hr.mono (by decide)) (aa (rvl 2) af rfl) rfl (by decide) rfl rfl) rfl (Or.inl rfl) (by rw [hp];rfl)) (ah (aE 4 sc_law.nd rfl (Or.inl rfl) (aI C_all_signs (hr.mono (by decide)) (aa (rvl 2) af rfl) rfl (by decide) rfl rfl) rfl (Or.inl rfl) (by rw [hp];rfl)) (ah (eL (tX (lS (eQ (dP (eR iz rfl B.isinstance (du (v:=V.ty "list") rfl B.list vd rfl (by decide) (by decide)) (rvl 4) rfl rfl rfl) (fun _=>rfl))) (lS (dQ (gK hr.units) gM (rvl 4) (rvl 3) (cj _)) (k7 (eQ (dP (aU (fH rfl) jx rfl B.all mI (aa (bQ ["_law_row"] [none] rfl (dn (rvl 4)) (fun s H C fp=>ce) (fun s H C fp=>(eR d9 rfl B.isinstance (du (v:=V.ty "tuple") rfl B.tuple jC rfl (by decide) (by decide)) (rvl 0) rfl rfl rfl)) (by rfl) (cK (by decide)) (fun _=>rfl) ⟨_,bo rfl,fun s H C fp=>bF (i:=0) (show (["_law_row"]:List Str).Nodup by decide +kernel) rfl (Or.inl rfl) (Or.inr rfl)⟩) af rfl) (by decide) (by decide) rfl rfl) (fun _=>rfl))))))) (ai (aQ 1 (fun i hi=>by rw [hp];exact aD (by simpa using hi)) fZ)) b7) (ah (bZ PassesOwn.never rfl (dn (rvl 4)) (aT 5 sc_law.nd rfl (Or.inl rfl) (Or.inl rfl) (by rw [hp];rfl)) (ai (eL (eQ (dP (aU (fH rfl) jx rfl B.all mI (aa (bQ ["_law_one"] [none] rfl (dn (rvl 5)) (fun s H C fp=>ce) (fun s H C fp=>(aI C__law_whole (hr.mono (by decide)) (aa (rvl 0) af rfl) rfl (by decide) rfl rfl)) (by rfl) (cK (by decide)) (fun _=>rfl) ⟨_,bo rfl,fun s H C fp=>bF (i:=0) (show (["_law_one"]:List Str).Nodup by decide +kernel) rfl (Or.inl rfl) (Or.inr rfl)⟩) af rfl) (by decide) (by decide) rfl rfl) (fun _=>rfl))) (ai (aQ 1 (fun i hi=>by rw [hp];exact aD (by simpa using hi)) fZ)) b7)) (fun _=>rfl)) (ah (eA (qZ (ok:=isL) PySem.F.plainAttrs_list PySem.F.slot_list_clear PySem.F.type_list_clear pu uH gV (eS (i:=4) rfl (Or.inl rfl) (by decide) (by decide)) rfl rfl) rfl) (ai (eL (dQ (gK hr.units) gM (aI C_all_signs (hr.mono (by decide)) (aa (rvl 2) af rfl) rfl (by decide) rfl rfl) (rvl 3) (cj _)) (ai (aQ 1 (fun i hi=>by rw [hp];exact aD (by simpa using hi)) fZ)) b7))))))) (fun _=>rfl)) (ai (aQ 1 (fun i hi=>by rw [hp];exact aD (by simpa using hi)) fZ))))
end
set_option tactic.hygienic true in
theorem iM (i:Int):b6 [(.int i,.z)]=some (.ok (.bl true,.z),[(.int i,.z)]):=by
 apply dI (ρ:=[some (.int i,.z)]) rfl rfl
 ·(repeat' (first | infer_instance | eq_refl))
 ·rfl
theorem r0 {f f':L3.D->L3.D->Option (L3.D × Fl)} {ma mb mc:EM} {ra rb rc:R3} {ρ ρ1 ρ2 ρ3:Sto} {da db db2 dc d:L3.D} {fl fl2:Fl} (h1:ma ρ=some (.ok ra,ρ1)) (h2:mb ρ1=some (.ok rb,ρ2)) (h3:der ra ρ2=some (.ok da,ρ2)) (h4:der rb ρ2=some (.ok db,ρ2)) (h5:f da db=some (.bl true,fl)) (h6:mc ρ2=some (.ok rc,ρ3)) (h7:der rb ρ3=some (.ok db2,ρ3)) (h8:der rc ρ3=some (.ok dc,ρ3)) (h9:f' db2 dc=some (d,fl2)):gT f f' ma mb mc ρ=some (.ok (.val d fl2),ρ3):=by
 simp only [gT,ac,h1,h2,h3,h4,h5,bd,Option.bind_some,asB,vV,if_true,h6,h7,h8,h9]
set_option tactic.hygienic true in
theorem oP (n m:Int) (h:0 < m/\m < 1073741824):fJ [(.lst [.int n],.u),(.int m,.z)]=some (.ok (.int (n % m),.z),[(.lst [.int (n / m)],.u),(.int m,.z)]):=by
 have hd:p6 [.int n,.int m]=some (.tup [.int (n / m),.int (n % m)],.z):=by simp [c2,pL,h]
 apply dI (ρ:=[some (.lst [.int n],.u),some (.int m,.z),none,none]) rfl rfl
 ·apply aw
  ·(repeat' (first | infer_instance | exact hd | eq_refl))
  ·apply aw
   ·(repeat' (first | infer_instance | eq_refl))
   ·(repeat' (first | infer_instance | eq_refl))
 ·rfl
theorem mz (c:Int) (m:Int) (h:0 < m):0<=c % m/\c % m < m:=⟨Int.emod_nonneg _ (by omega),Int.emod_lt_of_pos _ h⟩
set_option tactic.hygienic true in
theorem qh (S kk:L3.D) (c n j:Int) (v5:Option (L3.D × Fl)):∃ n' p',dA [some (S,.z),some (kk,.z),some (.int c,.z),some (.int n,.z),some (.int j,.z),v5]=some (.ok .nx,[some (S,.z),some (kk,.z),some (.int c,.z),some (.int n',.z),some (.int j,.z),some (.int p',.z)]):=by
 have b:∀ x:Int,-18446744073709551616 < x % 2147483647/\x % 2147483647 < 18446744073709551616:=fun x=>by have:=mz x 2147483647 (by decide);omega
 have b2:∀ x:Int,-18446744073709551616 < x % 2147483629/\x % 2147483629 < 18446744073709551616:=fun x=>by have:=mz x 2147483629 (by decide);omega
 apply Exists.intro
 apply Exists.intro
 apply aw
 ·(repeat' (first | infer_instance | exact sN (by decide) | exact iR (by decide) | eq_refl))
 ·apply aw
  ·(repeat' (first | infer_instance | exact iR (b _) | eq_refl))
  ·(repeat' (first | infer_instance | exact sN (by decide) | exact iR (b2 _) | eq_refl))
set_option tactic.hygienic true in
theorem kQ (S kk:L3.D) (c:Int):∃ (n:Int) (v3 v4 v5:Option (L3.D × Fl)),(aH (sIf (cB (aq eqX (aq lh (ae 2) (mC (.int 2))) (mC (.int 0)))) (bK 2 (eX (ad (aq uZ (ae 2) (mC (.int 2))) aj))) fq) (aH (bD 3 (mC (.int 0))) (aH (cZ (bx eF (ad (mC (.int 16)) aj)) (au 4) dA) (bK 2 (eX (ad (ae 3) aj)))))) [some (S,.z),some (kk,.z),some (.int c,.z),none,none,none]=some (.ok (.rt (.lst [.int n]) .u),[some (S,.z),some (kk,.z),some (.int c,.z),v3,v4,v5]):=by
 by_cases h:c % 2=0
 ·refine ⟨c / 2,none,none,none,?_⟩
  apply oK
  apply pQ
  ·(repeat' (first | infer_instance | eq_refl))
  ·exact vN h
  ·(repeat' (first | infer_instance | eq_refl))
 ·obtain ⟨ρ',e,n,v4,v5,rfl⟩:=dg (bnd:=au 4) (b:=dA) (fun _ ρ=>∃ (n:Int) (v4 v5:Option (L3.D × Fl)),ρ=[some (S,.z),some (kk,.z),some (.int c,.z),some (.int n,.z),v4,v5]) (ds:=b5 0 16) (ρ:=[some (S,.z),some (kk,.z),some (.int c,.z),some (.int 0,.z),none,none]) (k:=0) ⟨0,none,none,rfl⟩ (by
   rintro i d ρ hd ⟨n,v4,v5,rfl⟩
   obtain ⟨hi,rfl⟩:=ft hd
   obtain ⟨n',p',e⟩:=qh S kk c n (0+(i:Int)) v5
   exact ⟨_,_,rfl,.inl e,_,_,_,rfl⟩)
  refine ⟨n,some (.int n,.z),v4,v5,?_⟩
  apply aw
  ·apply gW
   ·(repeat' (first | infer_instance | eq_refl))
   ·exact vO h
   ·rfl
  apply aw
  ·(repeat' (first | infer_instance | eq_refl))
  apply aw
  ·apply kE
   ·exact iY (by (repeat' (first | infer_instance | eq_refl))) rfl (je (n:=16) (by decide) (by decide))
   ·rfl
   ·exact e
  ·(repeat' (first | infer_instance | eq_refl))
set_option tactic.hygienic true in
theorem qY (ns:List Int) (k:Nat):∃ n:Int,fK [(.fls (ns.map .int),.z),(.int k,.z)]=some (.ok (.lst [.int n],.u),[(.fls (ns.map .int),.z),(.int k,.z)]):=by
 by_cases h:k < ns.length
 ·obtain ⟨n,v3,v4,v5,e⟩:=kQ (.fls (ns.map .int)) (.int k) ns[k]
  refine ⟨n,?_⟩
  have a:cY (.fls (ns.map .int)) (.int (k:Int))=some (.int ns[k],.z):=by
   have:L2.atI (ns.map L3.D.int) (k:Int)=some (.int ns[k]):=su (by simp [h])
   simp [orD,ixD,this]
  have hk:(k:Int) < ((ns.map L3.D.int).length:Int):=by simp;omega
  generalize (k:Int)=kk at *
  apply dI (ρ:=[some (.fls (ns.map .int),.z),some (.int kk,.z),none,none,none,none]) rfl rfl
  ·apply aw
   ·(repeat' (first | infer_instance | exact iR (by decide) | eq_refl))
   apply aw
   ·apply pQ
    ·(repeat' (first | infer_instance | eq_refl))
    ·exact vN hk
    ·(repeat' (first | infer_instance | exact a | eq_refl))
   ·exact e
  ·rfl
 ·obtain ⟨n,v3,v4,v5,e⟩:=kQ (.fls (ns.map .int)) (.int k) (7919 * (k:Int)+13)
  refine ⟨n,?_⟩
  have hk:¬ (k:Int) < ((ns.map L3.D.int).length:Int):=by simp;omega
  generalize (k:Int)=kk at *
  apply dI (ρ:=[some (.fls (ns.map .int),.z),some (.int kk,.z),none,none,none,none]) rfl rfl
  ·apply aw
   ·(repeat' (first | infer_instance | exact iR (by decide) | eq_refl))
   apply aw
   ·apply gW
    ·(repeat' (first | infer_instance | eq_refl))
    ·exact vO hk
    ·rfl
   ·exact e
  ·rfl
set_option tactic.hygienic true in
theorem qV {k lo hi:Int} (h1:lo<=k) (h2:k<=hi):bV [(.int k,.z),(.int lo,.z),(.int hi,.z)]=some (.ok (.non,.z),[(.int k,.z),(.int lo,.z),(.int hi,.z)]):=by
 have l1:leI (.int lo) (.int k)=some (.bl true,.z):=by simp [dB,h1]
 have l2:leI (.int k) (.int hi)=some (.bl true,.z):=by simp [dB,h2]
 have f:=iM k
 apply F_nx (ρ:=[some (.int k,.z),some (.int lo,.z),some (.int hi,.z)]) rfl rfl
 ·apply gW
  ·apply pP (b:=false)
   ·apply gX (b:=true)
    (repeat' (first | infer_instance | with_reducible apply aR (f) | eq_refl))
   ·rfl
   ·exact gX (i_cB (r0 (d6 rfl) (d6 rfl) rfl rfl l1 (d6 rfl) rfl rfl l2) rfl)
  ·rfl
  ·rfl
 ·rfl
set_option tactic.hygienic true in
theorem k8 {s:Int} (h:s=1\/s = -1):eE [(.int s,.z)]=some (.ok (.bl true,.z),[(.int s,.z)]):=by
 have f:=iM s
 rcases h with rfl | rfl
 ·apply dI (ρ:=[some (.int 1,.z)]) rfl rfl
  ·apply ge
   ·apply js (b:=true)
    ·(repeat' (first | infer_instance | with_reducible apply aR (f) | eq_refl))
    ·rfl
    ·rfl
    ·apply uQ (b:=true)
     ·exact mn (d6 rfl) i_c rfl rfl rfl
     ·rfl
     ·rfl
   ·rfl
  ·rfl
 ·apply dI (ρ:=[some (.int (-1),.z)]) rfl rfl
  ·apply ge
   ·apply js (b:=true)
    ·(repeat' (first | infer_instance | with_reducible apply aR (f) | eq_refl))
    ·rfl
    ·rfl
    ·apply uR (b:=false)
     ·exact mn (d6 rfl) i_c rfl rfl rfl
     ·rfl
     ·rfl
     ·exact mn (d6 rfl) i_c rfl rfl rfl
   ·rfl
  ·rfl
noncomputable abbrev sg (l:List Int):L3.D:=.tup (l.map .int)
noncomputable def chgI (a b c d:Int):Nat:=(if a=b then 0 else 1)+(if b=c then 0 else 1)+(if c=d then 0 else 1)
noncomputable abbrev ok4 (a b c d:Int):Bool:=decide (chgI a b c d<=1)
noncomputable def cO (l:List Int):Bool:=match l with
 | [a,b,c,d,e,f,g,h,i,j]=>ok4 a b d g && ok4 a c e h && ok4 b c f i && ok4 d e f j && ok4 g h i j
 | _=>false
noncomputable def eJ:Nat->List (List Int)
 | 0=>[[]]
 | n+1=>(eJ n).flatMap fun r=>[r ++ [-1],r ++ [1]]
noncomputable abbrev Ts:L3.D:=.lst [sg [0,1,2],sg [0,1,3],sg [0,1,4],sg [0,2,3],sg [0,2,4],sg [0,3,4],sg [1,2,3],sg [1,2,4],sg [1,3,4],sg [2,3,4]]
noncomputable abbrev Fs:L3.D:=.lst [sg [0,1,2,3],sg [0,1,2,4],sg [0,1,3,4],sg [0,2,3,4],sg [1,2,3,4]]
noncomputable abbrev T5 (a b c d e f g h i j:Int):L3.D:=.dt [([.inl 0,.inl 1,.inl 2],.int a),([.inl 0,.inl 1,.inl 3],.int b),([.inl 0,.inl 1,.inl 4],.int c),([.inl 0,.inl 2,.inl 3],.int d),([.inl 0,.inl 2,.inl 4],.int e),([.inl 0,.inl 3,.inl 4],.int f),([.inl 1,.inl 2,.inl 3],.int g),([.inl 1,.inl 2,.inl 4],.int h),([.inl 1,.inl 3,.inl 4],.int i),([.inl 2,.inl 3,.inl 4],.int j)]
noncomputable def Si (a:Int):Prop:=a=1\/a = -1
theorem lT:bz [(.int 5,.z)]=some (.ok (Ts,.u),[(.int 5,.z)]):=by kernel_rfl
theorem qX:gx [(.int 5,.z)]=some (.ok (Fs,.u),[(.int 5,.z)]):=by kernel_rfl
theorem qT (a b c d e f g h i j:Int):bC [(.int 5,.z),(sg [a,b,c,d,e,f,g,h,i,j],.z)]=some (.ok (T5 a b c d e f g h i j,.u),[(.int 5,.z),(sg [a,b,c,d,e,f,g,h,i,j],.z)]):=by kernel_rfl
theorem ch0 {a b c d e f g h i j:Int} (h1:Si a) (h2:Si b) (h3:Si d) (h4:Si g):ao [(T5 a b c d e f g h i j,.u),(sg [0,1,2,3],.z)]=some (.ok (.bl (ok4 a b d g),.z),[(T5 a b c d e f g h i j,.u),(sg [0,1,2,3],.z)]):=by
 rcases h1 with rfl | rfl <;> rcases h2 with rfl | rfl <;> rcases h3 with rfl | rfl <;> rcases h4 with rfl | rfl <;> kernel_rfl
theorem ch1 {a b c d e f g h i j:Int} (h1:Si a) (h2:Si c) (h3:Si e) (h4:Si h):ao [(T5 a b c d e f g h i j,.u),(sg [0,1,2,4],.z)]=some (.ok (.bl (ok4 a c e h),.z),[(T5 a b c d e f g h i j,.u),(sg [0,1,2,4],.z)]):=by
 rcases h1 with rfl | rfl <;> rcases h2 with rfl | rfl <;> rcases h3 with rfl | rfl <;> rcases h4 with rfl | rfl <;> kernel_rfl
theorem ch2 {a b c d e f g h i j:Int} (h1:Si b) (h2:Si c) (h3:Si f) (h4:Si i):ao [(T5 a b c d e f g h i j,.u),(sg [0,1,3,4],.z)]=some (.ok (.bl (ok4 b c f i),.z),[(T5 a b c d e f g h i j,.u),(sg [0,1,3,4],.z)]):=by
 rcases h1 with rfl | rfl <;> rcases h2 with rfl | rfl <;> rcases h3 with rfl | rfl <;> rcases h4 with rfl | rfl <;> kernel_rfl
theorem ch3 {a b c d e f g h i j:Int} (h1:Si d) (h2:Si e) (h3:Si f) (h4:Si j):ao [(T5 a b c d e f g h i j,.u),(sg [0,2,3,4],.z)]=some (.ok (.bl (ok4 d e f j),.z),[(T5 a b c d e f g h i j,.u),(sg [0,2,3,4],.z)]):=by
 rcases h1 with rfl | rfl <;> rcases h2 with rfl | rfl <;> rcases h3 with rfl | rfl <;> rcases h4 with rfl | rfl <;> kernel_rfl
theorem ch4 {a b c d e f g h i j:Int} (h1:Si g) (h2:Si h) (h3:Si i) (h4:Si j):ao [(T5 a b c d e f g h i j,.u),(sg [1,2,3,4],.z)]=some (.ok (.bl (ok4 g h i j),.z),[(T5 a b c d e f g h i j,.u),(sg [1,2,3,4],.z)]):=by
 rcases h1 with rfl | rfl <;> rcases h2 with rfl | rfl <;> rcases h3 with rfl | rfl <;> rcases h4 with rfl | rfl <;> kernel_rfl
theorem bj {bnd:L3.D->Sto->Option Sto} {elt:EM} {d:L3.D} {ds l:List L3.D} {τ τ1 τ3 τ4 τ5:Sto} {r:R3} {p:L3.D × Fl} (h1:bnd d τ=some τ1) (h2:elt τ1=some (.ok r,τ3)) (h3:dN r τ3=some (.ok p,τ4)) (h4:bU bnd fI elt ds τ4=some (.ok l,τ5)):bU bnd fI elt (d :: ds) τ=some (.ok (p.1 :: l),τ5):=by
 unfold bU
 simp [h1,ac,show ∀ τ:Sto,fI τ=some (.ok true,τ) from fun _=>rfl,bb,h2,h3,h4]
set_option tactic.hygienic true in
theorem oQ {a b c d e f g h i j:Int} (za:Si a) (zb:Si b) (zc:Si c) (zd:Si d) (ze:Si e) (zf:Si f) (zg:Si g) (zh:Si h) (zi:Si i) (zj:Si j):bA [(.int 5,.z),(sg [a,b,c,d,e,f,g,h,i,j],.z)]=some (.ok (.bl (cO [a,b,c,d,e,f,g,h,i,j]),.z),[(.int 5,.z),(sg [a,b,c,d,e,f,g,h,i,j],.z)]):=by
 have th:=lT
 have fo:=qX
 have hb:=qT a b c d e f g h i j
 have f0:=ch0 za zb zd zg (c:=c) (e:=e) (f:=f) (h:=h) (i:=i) (j:=j)
 have f1:=ch1 za zc ze zh (b:=b) (d:=d) (f:=f) (g:=g) (i:=i) (j:=j)
 have f2:=ch2 zb zc zf zi (a:=a) (d:=d) (e:=e) (g:=g) (h:=h) (j:=j)
 have f3:=ch3 zd ze zf zj (a:=a) (b:=b) (c:=c) (g:=g) (h:=h) (i:=i)
 have f4:=ch4 zg zh zi zj (a:=a) (b:=b) (c:=c) (d:=d) (e:=e) (f:=f)
 have st:∀ {x:Int} {v:Option (L3.D × Fl)},Si x->∃ τ1,au 0 (.int x) [v]=some τ1/\bR τ1=some (.ok (.val (.bl true) .z),[some (.int x,.z)]):=fun {x v} hx=>by
  have f:=k8 hx
  exact ⟨[some (.int x,.z)],rfl,by unfold bR;(repeat' (first | infer_instance | with_reducible apply aR (f) | eq_refl))⟩
 have l1:cW [some (.int 5,.z),some (sg [a,b,c,d,e,f,g,h,i,j],.z),none]=some (.ok (.val (.lst [.bl true,.bl true,.bl true,.bl true,.bl true,.bl true,.bl true,.bl true,.bl true,.bl true]) .u),[some (.int 5,.z),some (sg [a,b,c,d,e,f,g,h,i,j],.z),none]):=by
  refine fA (im:=cL (ae 1)) (ix:=[none]) (τ:=[some (.int j,.z)]) (ρ1:=[some (.int 5,.z),some (sg [a,b,c,d,e,f,g,h,i,j],.z),none]) (ρ2:=[some (.int 5,.z),some (sg [a,b,c,d,e,f,g,h,i,j],.z),none]) (rs:=[.pl 1]) (by (repeat' (first | infer_instance | eq_refl))) ?_ (by show 10 < 16777216;decide) rfl
  obtain ⟨ta,xa,ya⟩:=st (v:=none) za
  refine bj xa ya rfl ?_
  obtain ⟨tb,xb,yb⟩:=st (v:=some (.int a,.z)) zb
  refine bj xb yb rfl ?_
  obtain ⟨tc,xc,yc⟩:=st (v:=some (.int b,.z)) zc
  refine bj xc yc rfl ?_
  obtain ⟨td,xd,yd⟩:=st (v:=some (.int c,.z)) zd
  refine bj xd yd rfl ?_
  obtain ⟨te,xe,ye⟩:=st (v:=some (.int d,.z)) ze
  refine bj xe ye rfl ?_
  obtain ⟨tf,xf,yf⟩:=st (v:=some (.int e,.z)) zf
  refine bj xf yf rfl ?_
  obtain ⟨tg,xg,yg⟩:=st (v:=some (.int f,.z)) zg
  refine bj xg yg rfl ?_
  obtain ⟨th,xh,yh⟩:=st (v:=some (.int g,.z)) zh
  refine bj xh yh rfl ?_
  obtain ⟨ti,xi,yi⟩:=st (v:=some (.int h,.z)) zi
  refine bj xi yi rfl ?_
  obtain ⟨tj,xj,yj⟩:=st (v:=some (.int i,.z)) zj
  refine bj xj yj rfl ?_
  rfl
 have l2:cV [some (.int 5,.z),some (sg [a,b,c,d,e,f,g,h,i,j],.z),some (T5 a b c d e f g h i j,.u)]=some (.ok (.val (.lst [.bl (ok4 a b d g),.bl (ok4 a c e h),.bl (ok4 b c f i),.bl (ok4 d e f j),.bl (ok4 g h i j)]) .u),[some (.int 5,.z),some (sg [a,b,c,d,e,f,g,h,i,j],.z),some (T5 a b c d e f g h i j,.u)]):=by
  refine fA (τ:=[some (sg [1,2,3,4],.z),some (T5 a b c d e f g h i j,.u)]) (ρ1:=[some (.int 5,.z),some (sg [a,b,c,d,e,f,g,h,i,j],.z),some (T5 a b c d e f g h i j,.u)]) (rs:=[.val Fs .u]) (by (repeat' (first | infer_instance | with_reducible apply aR (fo) | eq_refl))) ?_ (by decide) rfl
  have e0:am [some (sg [0,1,2,3],.z),some (T5 a b c d e f g h i j,.u)]=some (.ok (.val (.bl (ok4 a b d g)) .z),[some (sg [0,1,2,3],.z),some (T5 a b c d e f g h i j,.u)]):=by
   unfold am
   (repeat' (first | infer_instance | with_reducible apply aR (f0) | eq_refl))
  refine bj (τ1:=[some (sg [0,1,2,3],.z),some (T5 a b c d e f g h i j,.u)]) rfl e0 rfl ?_
  have e1:am [some (sg [0,1,2,4],.z),some (T5 a b c d e f g h i j,.u)]=some (.ok (.val (.bl (ok4 a c e h)) .z),[some (sg [0,1,2,4],.z),some (T5 a b c d e f g h i j,.u)]):=by
   unfold am
   (repeat' (first | infer_instance | with_reducible apply aR (f1) | eq_refl))
  refine bj (τ1:=[some (sg [0,1,2,4],.z),some (T5 a b c d e f g h i j,.u)]) rfl e1 rfl ?_
  have e2:am [some (sg [0,1,3,4],.z),some (T5 a b c d e f g h i j,.u)]=some (.ok (.val (.bl (ok4 b c f i)) .z),[some (sg [0,1,3,4],.z),some (T5 a b c d e f g h i j,.u)]):=by
   unfold am
   (repeat' (first | infer_instance | with_reducible apply aR (f2) | eq_refl))
  refine bj (τ1:=[some (sg [0,1,3,4],.z),some (T5 a b c d e f g h i j,.u)]) rfl e2 rfl ?_
  have e3:am [some (sg [0,2,3,4],.z),some (T5 a b c d e f g h i j,.u)]=some (.ok (.val (.bl (ok4 d e f j)) .z),[some (sg [0,2,3,4],.z),some (T5 a b c d e f g h i j,.u)]):=by
   unfold am
   (repeat' (first | infer_instance | with_reducible apply aR (f3) | eq_refl))
  refine bj (τ1:=[some (sg [0,2,3,4],.z),some (T5 a b c d e f g h i j,.u)]) rfl e3 rfl ?_
  have e4:am [some (sg [1,2,3,4],.z),some (T5 a b c d e f g h i j,.u)]=some (.ok (.val (.bl (ok4 g h i j)) .z),[some (sg [1,2,3,4],.z),some (T5 a b c d e f g h i j,.u)]):=by
   unfold am
   (repeat' (first | infer_instance | with_reducible apply aR (f4) | eq_refl))
  refine bj (τ1:=[some (sg [1,2,3,4],.z),some (T5 a b c d e f g h i j,.u)]) rfl e4 rfl ?_
  rfl
 have hlen:cB (aq neX (aF fB (ad (ae 1) aj)) (aF fB (ad (aJ bz (ad (ae 0) aj)) aj))) [some (.int 5,.z),some (sg [a,b,c,d,e,f,g,h,i,j],.z),none]=some (.ok false,[some (.int 5,.z),some (sg [a,b,c,d,e,f,g,h,i,j],.z),none]):=by kernel_rfl
 have hty:cB (mUn (iw "tuple") (ae 1)) [some (.int 5,.z),some (sg [a,b,c,d,e,f,g,h,i,j],.z),none]=some (.ok true,[some (.int 5,.z),some (sg [a,b,c,d,e,f,g,h,i,j],.z),none]):=by kernel_rfl
 have a3:vh (.lst [.bl true,.bl true,.bl true,.bl true,.bl true,.bl true,.bl true,.bl true,.bl true,.bl true])=some (.bl true,.z):=rfl
 have a4:vh (.lst [.bl (ok4 a b d g),.bl (ok4 a c e h),.bl (ok4 b c f i),.bl (ok4 d e f j),.bl (ok4 g h i j)])=some (.bl (cO [a,b,c,d,e,f,g,h,i,j]),.z):=by
  show some (L3.D.bl (ok4 a b d g && (ok4 a c e h && (ok4 b c f i && (ok4 d e f j && (ok4 g h i j && true))))),Fl.z)=some (L3.D.bl (ok4 a b d g && ok4 a c e h && ok4 b c f i && ok4 d e f j && ok4 g h i j),Fl.z)
  rw [Bool.and_true]
  simp only [Bool.and_assoc]
 generalize cO [a,b,c,d,e,f,g,h,i,j]=R at *
 generalize hS:sg [a,b,c,d,e,f,g,h,i,j]=S at *
 generalize T5 a b c d e f g h i j=T at *
 generalize L3.D.lst [.bl (ok4 a b d g),.bl (ok4 a c e h),.bl (ok4 b c f i),.bl (ok4 d e f j),.bl (ok4 g h i j)]=O2 at *
 apply dI (ρ:=[some (.int 5,.z),some (S,.z),none]) rfl rfl
 ·unfold dY
  apply aw (ρ1:=[some (.int 5,.z),some (S,.z),none])
  ·apply gW
   ·apply pP (b:=false)
    ·apply gX (b:=true)
     exact hty
    ·rfl
    ·apply gX (b:=true)
     (repeat' (first | with_reducible exact l1 | infer_instance | exact a3 | eq_refl))
   ·rfl
   ·rfl
  apply aw (ρ1:=[some (.int 5,.z),some (S,.z),none])
  ·apply gW
   ·exact hlen
   ·rfl
   ·rfl
  apply aw (ρ1:=[some (.int 5,.z),some (S,.z),some (T,.u)])
  ·(repeat' (first | infer_instance | with_reducible apply aR (hb) | eq_refl))
  ·apply ge
   ·(repeat' (first | with_reducible exact l2 | infer_instance | exact a4 | eq_refl))
   ·rfl
 ·rfl
theorem b9 {bnd:L3.D->Sto->Option Sto} {b:SM} {d:L3.D} {ds:List L3.D} {ρ ρ1 ρ2:Sto} {r:Option (Except L3.D Flw × Sto)} (h1:bnd d ρ=some ρ1) (h2:b ρ1=some (.ok .nx,ρ2)) (h3:c8 bnd b ds ρ2=r):c8 bnd b (d :: ds) ρ=r:=by
 rw [<- h3]
 simp only [c8,h1,ac,h2]
theorem fE {bnd:L3.D->Sto->Option Sto} {b:SM} {d x:L3.D} {f:Fl} {ds:List L3.D} {ρ ρ1 ρ2:Sto} (h1:bnd d ρ=some ρ1) (h2:b ρ1=some (.ok (.rt x f),ρ2)):c8 bnd b (d :: ds) ρ=some (.ok (.rt x f),ρ2):=by
 simp only [c8,h1,ac,h2,bb]
noncomputable abbrev flw (c:Bool):Flw:=if c=true then .nx else .rt (.bl false) .z
theorem g1 {a b c d e f g h i j:Int} {v7 v8:Option (L3.D × Fl)} (h1:Si a) (h2:Si b) (h3:Si d) (h4:Si g):bc [some (.int 5,.z),some (Ts,.l),some (sg [a,b,c,d,e,f,g,h,i,j],.z),some (T5 a b c d e f g h i j,.u),some (.int 1,.z),some (.int 2,.z),some (.int 3,.z),v7,v8]=some (.ok (flw (ok4 a b d g)),[some (.int 5,.z),some (Ts,.l),some (sg [a,b,c,d,e,f,g,h,i,j],.z),some (T5 a b c d e f g h i j,.u),some (.int 1,.z),some (.int 2,.z),some (.int 3,.z),some (.int 0,.z),some (.lst [.int a,.int b,.int d,.int g],.u)]):=by
 rcases h1 with rfl | rfl <;> rcases h2 with rfl | rfl <;> rcases h3 with rfl | rfl <;> rcases h4 with rfl | rfl <;> kernel_rfl
theorem g2 {a b c d e f g h i j:Int} {v7 v8:Option (L3.D × Fl)} (h1:Si a) (h2:Si c) (h3:Si e) (h4:Si h):bc [some (.int 5,.z),some (Ts,.l),some (sg [a,b,c,d,e,f,g,h,i,j],.z),some (T5 a b c d e f g h i j,.u),some (.int 1,.z),some (.int 2,.z),some (.int 4,.z),v7,v8]=some (.ok (flw (ok4 a c e h)),[some (.int 5,.z),some (Ts,.l),some (sg [a,b,c,d,e,f,g,h,i,j],.z),some (T5 a b c d e f g h i j,.u),some (.int 1,.z),some (.int 2,.z),some (.int 4,.z),some (.int 0,.z),some (.lst [.int a,.int c,.int e,.int h],.u)]):=by
 rcases h1 with rfl | rfl <;> rcases h2 with rfl | rfl <;> rcases h3 with rfl | rfl <;> rcases h4 with rfl | rfl <;> kernel_rfl
theorem g3 {a b c d e f g h i j:Int} {v7 v8:Option (L3.D × Fl)} (h1:Si b) (h2:Si c) (h3:Si f) (h4:Si i):bc [some (.int 5,.z),some (Ts,.l),some (sg [a,b,c,d,e,f,g,h,i,j],.z),some (T5 a b c d e f g h i j,.u),some (.int 1,.z),some (.int 3,.z),some (.int 4,.z),v7,v8]=some (.ok (flw (ok4 b c f i)),[some (.int 5,.z),some (Ts,.l),some (sg [a,b,c,d,e,f,g,h,i,j],.z),some (T5 a b c d e f g h i j,.u),some (.int 1,.z),some (.int 3,.z),some (.int 4,.z),some (.int 0,.z),some (.lst [.int b,.int c,.int f,.int i],.u)]):=by
 rcases h1 with rfl | rfl <;> rcases h2 with rfl | rfl <;> rcases h3 with rfl | rfl <;> rcases h4 with rfl | rfl <;> kernel_rfl
theorem g4 {a b c d e f g h i j:Int} {v7 v8:Option (L3.D × Fl)} (h1:Si d) (h2:Si e) (h3:Si f) (h4:Si j) (h5:Si g) (h6:Si h) (h7:Si i):bc [some (.int 5,.z),some (Ts,.l),some (sg [a,b,c,d,e,f,g,h,i,j],.z),some (T5 a b c d e f g h i j,.u),some (.int 2,.z),some (.int 3,.z),some (.int 4,.z),v7,v8]=some (.ok (flw (ok4 d e f j && ok4 g h i j)),bif ok4 d e f j then [some (.int 5,.z),some (Ts,.l),some (sg [a,b,c,d,e,f,g,h,i,j],.z),some (T5 a b c d e f g h i j,.u),some (.int 2,.z),some (.int 3,.z),some (.int 4,.z),some (.int 1,.z),some (.lst [.int g,.int h,.int i,.int j],.u)] else [some (.int 5,.z),some (Ts,.l),some (sg [a,b,c,d,e,f,g,h,i,j],.z),some (T5 a b c d e f g h i j,.u),some (.int 2,.z),some (.int 3,.z),some (.int 4,.z),some (.int 0,.z),some (.lst [.int d,.int e,.int f,.int j],.u)]):=by
 rcases h1 with rfl | rfl <;> rcases h2 with rfl | rfl <;> rcases h3 with rfl | rfl <;> rcases h4 with rfl | rfl <;> rcases h5 with rfl | rfl <;> rcases h6 with rfl | rfl <;> rcases h7 with rfl | rfl <;> kernel_rfl
theorem six {a b c d e f g h i j:Int}:c8 (lK 3 (cu (au 4) (cu (au 5) (cu (au 6) lL)))) bc [sg [0,1,2],sg [0,1,3],sg [0,1,4],sg [0,2,3],sg [0,2,4],sg [0,3,4],sg [1,2,3],sg [1,2,4],sg [1,3,4],sg [2,3,4]] [some (.int 5,.z),some (Ts,.l),some (sg [a,b,c,d,e,f,g,h,i,j],.z),some (T5 a b c d e f g h i j,.u),none,none,none,none,none]=c8 (lK 3 (cu (au 4) (cu (au 5) (cu (au 6) lL)))) bc [sg [1,2,3],sg [1,2,4],sg [1,3,4],sg [2,3,4]] [some (.int 5,.z),some (Ts,.l),some (sg [a,b,c,d,e,f,g,h,i,j],.z),some (T5 a b c d e f g h i j,.u),some (.int 0,.z),some (.int 3,.z),some (.int 4,.z),none,none]:=by
 refine b9 (ρ1:=[some (.int 5,.z),some (Ts,.l),some (sg [a,b,c,d,e,f,g,h,i,j],.z),some (T5 a b c d e f g h i j,.u),some (.int 0,.z),some (.int 1,.z),some (.int 2,.z),none,none]) (ρ2:=[some (.int 5,.z),some (Ts,.l),some (sg [a,b,c,d,e,f,g,h,i,j],.z),some (T5 a b c d e f g h i j,.u),some (.int 0,.z),some (.int 1,.z),some (.int 2,.z),none,none]) rfl (by kernel_rfl) ?_
 refine b9 (ρ1:=[some (.int 5,.z),some (Ts,.l),some (sg [a,b,c,d,e,f,g,h,i,j],.z),some (T5 a b c d e f g h i j,.u),some (.int 0,.z),some (.int 1,.z),some (.int 3,.z),none,none]) (ρ2:=[some (.int 5,.z),some (Ts,.l),some (sg [a,b,c,d,e,f,g,h,i,j],.z),some (T5 a b c d e f g h i j,.u),some (.int 0,.z),some (.int 1,.z),some (.int 3,.z),none,none]) rfl (by kernel_rfl) ?_
 refine b9 (ρ1:=[some (.int 5,.z),some (Ts,.l),some (sg [a,b,c,d,e,f,g,h,i,j],.z),some (T5 a b c d e f g h i j,.u),some (.int 0,.z),some (.int 1,.z),some (.int 4,.z),none,none]) (ρ2:=[some (.int 5,.z),some (Ts,.l),some (sg [a,b,c,d,e,f,g,h,i,j],.z),some (T5 a b c d e f g h i j,.u),some (.int 0,.z),some (.int 1,.z),some (.int 4,.z),none,none]) rfl (by kernel_rfl) ?_
 refine b9 (ρ1:=[some (.int 5,.z),some (Ts,.l),some (sg [a,b,c,d,e,f,g,h,i,j],.z),some (T5 a b c d e f g h i j,.u),some (.int 0,.z),some (.int 2,.z),some (.int 3,.z),none,none]) (ρ2:=[some (.int 5,.z),some (Ts,.l),some (sg [a,b,c,d,e,f,g,h,i,j],.z),some (T5 a b c d e f g h i j,.u),some (.int 0,.z),some (.int 2,.z),some (.int 3,.z),none,none]) rfl (by kernel_rfl) ?_
 refine b9 (ρ1:=[some (.int 5,.z),some (Ts,.l),some (sg [a,b,c,d,e,f,g,h,i,j],.z),some (T5 a b c d e f g h i j,.u),some (.int 0,.z),some (.int 2,.z),some (.int 4,.z),none,none]) (ρ2:=[some (.int 5,.z),some (Ts,.l),some (sg [a,b,c,d,e,f,g,h,i,j],.z),some (T5 a b c d e f g h i j,.u),some (.int 0,.z),some (.int 2,.z),some (.int 4,.z),none,none]) rfl (by kernel_rfl) ?_
 refine b9 (ρ1:=[some (.int 5,.z),some (Ts,.l),some (sg [a,b,c,d,e,f,g,h,i,j],.z),some (T5 a b c d e f g h i j,.u),some (.int 0,.z),some (.int 3,.z),some (.int 4,.z),none,none]) (ρ2:=[some (.int 5,.z),some (Ts,.l),some (sg [a,b,c,d,e,f,g,h,i,j],.z),some (T5 a b c d e f g h i j,.u),some (.int 0,.z),some (.int 3,.z),some (.int 4,.z),none,none]) rfl (by kernel_rfl) ?_
 rfl
set_option tactic.hygienic true in
theorem mY {a b c d e f g h i j:Int} (za:Si a) (zb:Si b) (zc:Si c) (zd:Si d) (ze:Si e) (zf:Si f) (zg:Si g) (zh:Si h) (zi:Si i) (zj:Si j):ee [(.int 5,.z),(Ts,.u),(sg [a,b,c,d,e,f,g,h,i,j],.z)]=some (.ok (.bl (cO [a,b,c,d,e,f,g,h,i,j]),.z),[(.int 5,.z),(Ts,.u),(sg [a,b,c,d,e,f,g,h,i,j],.z)]):=by
 obtain ⟨v4,v5,v6,v7,v8,hf⟩:∃ v4 v5 v6 v7 v8,c8 (lK 3 (cu (au 4) (cu (au 5) (cu (au 6) lL)))) bc [sg [0,1,2],sg [0,1,3],sg [0,1,4],sg [0,2,3],sg [0,2,4],sg [0,3,4],sg [1,2,3],sg [1,2,4],sg [1,3,4],sg [2,3,4]] [some (.int 5,.z),some (Ts,.l),some (sg [a,b,c,d,e,f,g,h,i,j],.z),some (T5 a b c d e f g h i j,.u),none,none,none,none,none]=some (.ok (flw (cO [a,b,c,d,e,f,g,h,i,j])),[some (.int 5,.z),some (Ts,.l),some (sg [a,b,c,d,e,f,g,h,i,j],.z),some (T5 a b c d e f g h i j,.u),v4,v5,v6,v7,v8]):=by
  have ho:cO [a,b,c,d,e,f,g,h,i,j]=(ok4 a b d g && ok4 a c e h && ok4 b c f i && ok4 d e f j && ok4 g h i j):=rfl
  rw [six,ho]
  have e0:=g1 (v7:=none) (v8:=none) za zb zd zg (c:=c) (e:=e) (f:=f) (h:=h) (i:=i) (j:=j)
  cases h0:ok4 a b d g
  ·rw [h0] at e0
   exact ⟨_,_,_,_,_,fE (ρ1:=[some (.int 5,.z),some (Ts,.l),some (sg [a,b,c,d,e,f,g,h,i,j],.z),some (T5 a b c d e f g h i j,.u),some (.int 1,.z),some (.int 2,.z),some (.int 3,.z),none,none]) rfl e0⟩
  rw [h0] at e0
  rw [b9 (ρ1:=[some (.int 5,.z),some (Ts,.l),some (sg [a,b,c,d,e,f,g,h,i,j],.z),some (T5 a b c d e f g h i j,.u),some (.int 1,.z),some (.int 2,.z),some (.int 3,.z),none,none]) rfl e0 rfl]
  have e1:=g2 (v7:=some (.int 0,.z)) (v8:=some (.lst [.int a,.int b,.int d,.int g],.u)) za zc ze zh (b:=b) (d:=d) (f:=f) (g:=g) (i:=i) (j:=j)
  cases h1:ok4 a c e h
  ·rw [h1] at e1
   exact ⟨_,_,_,_,_,fE (ρ1:=[some (.int 5,.z),some (Ts,.l),some (sg [a,b,c,d,e,f,g,h,i,j],.z),some (T5 a b c d e f g h i j,.u),some (.int 1,.z),some (.int 2,.z),some (.int 4,.z),some (.int 0,.z),some (.lst [.int a,.int b,.int d,.int g],.u)]) rfl e1⟩
  rw [h1] at e1
  rw [b9 (ρ1:=[some (.int 5,.z),some (Ts,.l),some (sg [a,b,c,d,e,f,g,h,i,j],.z),some (T5 a b c d e f g h i j,.u),some (.int 1,.z),some (.int 2,.z),some (.int 4,.z),some (.int 0,.z),some (.lst [.int a,.int b,.int d,.int g],.u)]) rfl e1 rfl]
  have e2:=g3 (v7:=some (.int 0,.z)) (v8:=some (.lst [.int a,.int c,.int e,.int h],.u)) zb zc zf zi (a:=a) (d:=d) (e:=e) (g:=g) (h:=h) (j:=j)
  cases h2:ok4 b c f i
  ·rw [h2] at e2
   exact ⟨_,_,_,_,_,fE (ρ1:=[some (.int 5,.z),some (Ts,.l),some (sg [a,b,c,d,e,f,g,h,i,j],.z),some (T5 a b c d e f g h i j,.u),some (.int 1,.z),some (.int 3,.z),some (.int 4,.z),some (.int 0,.z),some (.lst [.int a,.int c,.int e,.int h],.u)]) rfl e2⟩
  rw [h2] at e2
  rw [b9 (ρ1:=[some (.int 5,.z),some (Ts,.l),some (sg [a,b,c,d,e,f,g,h,i,j],.z),some (T5 a b c d e f g h i j,.u),some (.int 1,.z),some (.int 3,.z),some (.int 4,.z),some (.int 0,.z),some (.lst [.int a,.int c,.int e,.int h],.u)]) rfl e2 rfl]
  have e3:=g4 (v7:=some (.int 0,.z)) (v8:=some (.lst [.int b,.int c,.int f,.int i],.u)) zd ze zf zj zg zh zi (a:=a) (b:=b) (c:=c)
  cases h3:ok4 d e f j
  ·rw [h3] at e3
   exact ⟨_,_,_,_,_,fE (ρ1:=[some (.int 5,.z),some (Ts,.l),some (sg [a,b,c,d,e,f,g,h,i,j],.z),some (T5 a b c d e f g h i j,.u),some (.int 2,.z),some (.int 3,.z),some (.int 4,.z),some (.int 0,.z),some (.lst [.int b,.int c,.int f,.int i],.u)]) rfl e3⟩
  rw [h3] at e3
  cases h4:ok4 g h i j
  ·rw [h4] at e3
   exact ⟨_,_,_,_,_,fE (ρ1:=[some (.int 5,.z),some (Ts,.l),some (sg [a,b,c,d,e,f,g,h,i,j],.z),some (T5 a b c d e f g h i j,.u),some (.int 2,.z),some (.int 3,.z),some (.int 4,.z),some (.int 0,.z),some (.lst [.int b,.int c,.int f,.int i],.u)]) rfl e3⟩
  rw [h4] at e3
  exact ⟨_,_,_,_,_,b9 (ρ1:=[some (.int 5,.z),some (Ts,.l),some (sg [a,b,c,d,e,f,g,h,i,j],.z),some (T5 a b c d e f g h i j,.u),some (.int 2,.z),some (.int 3,.z),some (.int 4,.z),some (.int 0,.z),some (.lst [.int b,.int c,.int f,.int i],.u)]) rfl e3 rfl⟩
 have dz:bD 3 (kB (ad (ae 1) (ad (ae 2) aj))) [some (.int 5,.z),some (Ts,.u),some (sg [a,b,c,d,e,f,g,h,i,j],.z),none,none,none,none,none,none]=some (.ok .nx,[some (.int 5,.z),some (Ts,.u),some (sg [a,b,c,d,e,f,g,h,i,j],.z),some (T5 a b c d e f g h i j,.u),none,none,none,none,none]):=by kernel_rfl
 cases ho:cO [a,b,c,d,e,f,g,h,i,j]
 ·rw [ho] at hf
  apply dI (ρ:=[some (.int 5,.z),some (Ts,.u),some (sg [a,b,c,d,e,f,g,h,i,j],.z),none,none,none,none,none,none]) rfl rfl
  ·unfold gQ
   refine aw dz ?_
   exact oK (pR (is:=[1]) (ρ1:=[some (.int 5,.z),some (Ts,.u),some (sg [a,b,c,d,e,f,g,h,i,j],.z),some (T5 a b c d e f g h i j,.u),none,none,none,none,none]) (by (repeat' (first | infer_instance | eq_refl))) rfl hf)
  ·rfl
 ·rw [ho] at hf
  apply dI (ρ:=[some (.int 5,.z),some (Ts,.u),some (sg [a,b,c,d,e,f,g,h,i,j],.z),none,none,none,none,none,none]) rfl rfl
  ·unfold gQ
   refine aw dz ?_
   refine aw (pR (is:=[1]) (ρ1:=[some (.int 5,.z),some (Ts,.u),some (sg [a,b,c,d,e,f,g,h,i,j],.z),some (T5 a b c d e f g h i j,.u),none,none,none,none,none]) (by (repeat' (first | infer_instance | eq_refl))) rfl hf) ?_
   exact ge i_c rfl
  ·rfl
noncomputable def A5:List (List Int):=[[-1,-1,-1,-1,-1,-1,-1,-1,-1,-1],[-1,-1,-1,-1,-1,-1,-1,-1,-1,1],[-1,-1,-1,-1,-1,-1,-1,-1,1,1],[-1,-1,-1,-1,-1,-1,-1,1,1,1],[-1,-1,-1,-1,-1,-1,1,-1,-1,-1],[-1,-1,-1,-1,-1,-1,1,1,-1,-1],[-1,-1,-1,-1,-1,-1,1,1,1,-1],[-1,-1,-1,-1,-1,-1,1,1,1,1],[-1,-1,-1,-1,-1,1,-1,-1,1,1],[-1,-1,-1,-1,-1,1,-1,1,1,1],[-1,-1,-1,-1,-1,1,1,1,1,1],[-1,-1,-1,-1,1,1,-1,1,1,1],[-1,-1,-1,-1,1,1,1,1,1,1],[-1,-1,-1,1,-1,-1,1,-1,-1,-1],[-1,-1,-1,1,-1,-1,1,1,-1,-1],[-1,-1,-1,1,-1,-1,1,1,1,-1],[-1,-1,-1,1,1,-1,1,1,-1,-1],[-1,-1,-1,1,1,-1,1,1,1,-1],[-1,-1,-1,1,1,1,1,1,1,-1],[-1,-1,-1,1,1,1,1,1,1,1],[-1,-1,1,-1,1,1,-1,1,1,1],[-1,-1,1,-1,1,1,1,1,1,1],[-1,-1,1,1,1,1,1,1,1,-1],[-1,-1,1,1,1,1,1,1,1,1],[-1,1,-1,1,-1,-1,1,-1,-1,-1],[-1,1,-1,1,-1,-1,1,1,-1,-1],[-1,1,-1,1,1,-1,1,1,-1,-1],[-1,1,1,1,1,-1,1,1,-1,-1],[-1,1,1,1,1,1,1,1,-1,-1],[-1,1,1,1,1,1,1,1,1,-1],[-1,1,1,1,1,1,1,1,1,1],[1,-1,-1,-1,-1,-1,-1,-1,-1,-1],[1,-1,-1,-1,-1,-1,-1,-1,-1,1],[1,-1,-1,-1,-1,-1,-1,-1,1,1],[1,-1,-1,-1,-1,1,-1,-1,1,1],[1,-1,1,-1,-1,1,-1,-1,1,1],[1,-1,1,-1,1,1,-1,-1,1,1],[1,-1,1,-1,1,1,-1,1,1,1],[1,1,-1,-1,-1,-1,-1,-1,-1,-1],[1,1,-1,-1,-1,-1,-1,-1,-1,1],[1,1,-1,1,-1,-1,-1,-1,-1,-1],[1,1,-1,1,-1,-1,1,-1,-1,-1],[1,1,1,-1,-1,-1,-1,-1,-1,-1],[1,1,1,-1,-1,-1,-1,-1,-1,1],[1,1,1,-1,-1,1,-1,-1,-1,1],[1,1,1,-1,-1,1,-1,-1,1,1],[1,1,1,-1,1,1,-1,-1,-1,1],[1,1,1,-1,1,1,-1,-1,1,1],[1,1,1,-1,1,1,-1,1,1,1],[1,1,1,1,-1,-1,-1,-1,-1,-1],[1,1,1,1,-1,-1,1,-1,-1,-1],[1,1,1,1,1,-1,-1,-1,-1,-1],[1,1,1,1,1,-1,1,-1,-1,-1],[1,1,1,1,1,-1,1,1,-1,-1],[1,1,1,1,1,1,-1,-1,-1,-1],[1,1,1,1,1,1,-1,-1,-1,1],[1,1,1,1,1,1,-1,-1,1,1],[1,1,1,1,1,1,-1,1,1,1],[1,1,1,1,1,1,1,-1,-1,-1],[1,1,1,1,1,1,1,1,-1,-1],[1,1,1,1,1,1,1,1,1,-1],[1,1,1,1,1,1,1,1,1,1]]
theorem so:(eJ 10).filter cO=A5:=by kernel_rfl
theorem jB:∀ (n:Nat) (r:List Int),r ∈ eJ n->r.length=n/\∀ x ∈ r,Si x
 | 0,r,h=>by
  cases vX.mp h
  exact ⟨rfl,fun x hx=>by cases hx⟩
 | n+1,r,h=>by
  obtain ⟨q,hq,hr⟩:=List.mem_flatMap.mp h
  obtain ⟨h1,h2⟩:=jB n q hq
  rcases vx.mp hr with rfl | hr
  ·exact ⟨by simp [h1],fun x hx=>by rcases vA.mp hx with hx | hx;exact h2 x hx;cases vX.mp hx;exact .inr rfl⟩
  ·cases vX.mp hr
   exact ⟨by simp [h1],fun x hx=>by rcases vA.mp hx with hx | hx;exact h2 x hx;cases vX.mp hx;exact .inl rfl⟩
theorem ten {r:List Int} (hl:r.length=10):∃ a b c d e f g h i j:Int,r=[a,b,c,d,e,f,g,h,i,j]:=by
 match r,hl with
 | [a,b,c,d,e,f,g,h,i,j],_=>exact ⟨a,b,c,d,e,f,g,h,i,j,rfl⟩
theorem aso5 {r:List Int} (hl:r.length=10) (hs:∀ x ∈ r,Si x):bA [(.int 5,.z),(sg r,.z)]=some (.ok (.bl (cO r),.z),[(.int 5,.z),(sg r,.z)]):=by
 obtain ⟨a,b,c,d,e,f,g,h,i,j,rfl⟩:=ten hl
 exact oQ (hs _ (by simp)) (hs _ (by simp)) (hs _ (by simp)) (hs _ (by simp)) (hs _ (by simp)) (hs _ (by simp)) (hs _ (by simp)) (hs _ (by simp)) (hs _ (by simp)) (hs _ (by simp))
theorem good5 {r:List Int} (hl:r.length=10) (hs:∀ x ∈ r,Si x):ee [(.int 5,.z),(Ts,.u),(sg r,.z)]=some (.ok (.bl (cO r),.z),[(.int 5,.z),(Ts,.u),(sg r,.z)]):=by
 obtain ⟨a,b,c,d,e,f,g,h,i,j,rfl⟩:=ten hl
 exact mY (hs _ (by simp)) (hs _ (by simp)) (hs _ (by simp)) (hs _ (by simp)) (hs _ (by simp)) (hs _ (by simp)) (hs _ (by simp)) (hs _ (by simp)) (hs _ (by simp)) (hs _ (by simp))
theorem qd {r:List Int} {x:Int} (h:r.length < 100):dE (sg r) (.tup [.int x])=some (sg (r ++ [x]),.z):=by
 have:qe (sg r) (.tup [.int x])=some (sg (r ++ [x]),.z):=by
  simp only [qe,vC]
  rw [if_pos (by simp;omega)]
  simp [sg]
 show orD vi (orD sj (orD qe u7)) _ _=_
 simp [orD,this,dB,sj]
theorem ig:∀ n,(eJ n).length=2 ^ n
 | 0=>rfl
 | n+1=>by
  have:∀ l:List (List Int),(l.flatMap fun r=>[r ++ [-1],r ++ [1]]).length=2 * l.length:=fun l=>by
   induction l with
   | nil=>rfl
   | cons a l ih=>simp only [List.flatMap_cons,vS,ih,vT,List.length_nil];omega
  show ((eJ n).flatMap _).length=_
  rw [this,ig n]
  omega
set_option tactic.hygienic true in
theorem sf {L:List L3.D} {r:List Int} {N:L3.D} {v1 v2:Option (L3.D × Fl)} (hr:r.length < 100) (hL:L.length < 10000):bS [some (N,.z),v1,v2,some (.lst L,.u),some (sg r,.z)]=some (.ok .nx,[some (N,.z),v1,v2,some (.lst (L ++ [sg (r ++ [-1]),sg (r ++ [1])]),.u),some (sg r,.z)]):=by
 have c1:=qd (x:=-1) hr
 have c2:=qd (x:=1) hr
 have ex:lD (.lst L) [.lst [sg (r ++ [-1]),sg (r ++ [1])]]=some (.lst (L ++ [sg (r ++ [-1]),sg (r ++ [1])]),.non):=by
  simp only [lD]
  rw [if_pos (by simp;omega)]
 generalize sg (r ++ [-1])=P at *
 generalize sg (r ++ [1])=Q at *
 generalize sg r=S at *
 unfold bS
 (repeat' (first | infer_instance | exact c1 | exact c2 | exact ex | eq_refl))
set_option tactic.hygienic true in
theorem pY {N:L3.D} {v2 v3 v4:Option (L3.D × Fl)} {rows:List (List Int)} (hr:∀ r ∈ rows,r.length < 100) (hl:rows.length < 2000):∃ w4,bu [some (N,.z),some (.lst (rows.map sg),.z),v2,v3,v4]=some (.ok .nx,[some (N,.z),some (.lst ((rows.flatMap fun r=>[r ++ [-1],r ++ [1]]).map sg),.z),v2,some (.lst ((rows.flatMap fun r=>[r ++ [-1],r ++ [1]]).map sg),.z),w4]):=by
 have fl:∀ l:List (List Int),(l.flatMap fun r=>[r ++ [-1],r ++ [1]]).length=2 * l.length:=fun l=>by
  induction l with
  | nil=>rfl
  | cons a l ih=>simp only [List.flatMap_cons,vS,ih,vT,List.length_nil];omega
 obtain ⟨ρ',e,w4,rfl⟩:=dg (bnd:=au 4) (b:=bS) (fun i ρ=>∃ w4,ρ=[some (N,.z),some (.lst (rows.map sg),.z),v2,some (.lst (((rows.take i).flatMap fun r=>[r ++ [-1],r ++ [1]]).map sg),.u),w4]) (ds:=rows.map sg) (ρ:=[some (N,.z),some (.lst (rows.map sg),.z),v2,some (.lst [],.u),v4]) (k:=0) ⟨v4,rfl⟩ (by
  rintro i d ρ hd ⟨w4,rfl⟩
  rw [vH] at hd
  obtain ⟨r,h1,rfl⟩:=vt.mp hd
  have hm:=vE h1
  have hi:i < rows.length:=(vD.mp h1).1
  have e:=sf (L:=((rows.take (0+i)).flatMap fun r=>[r ++ [-1],r ++ [1]]).map sg) (r:=r) (N:=N) (v1:=some (.lst (rows.map sg),.z)) (v2:=v2) (hr r hm) (by rw [vC,fl,vU];omega)
  refine ⟨_,_,rfl,.inl e,some (sg r,.z),?_⟩
  rw [vQ,List.take_add_one,h1,List.flatMap_append,List.map_append]
  rfl)
 rw [vC,vQ,List.take_length] at e
 refine ⟨w4,?_⟩
 generalize (rows.flatMap fun r=>[r ++ [-1],r ++ [1]]).map sg=O at *
 generalize rows.map sg=R at *
 unfold bu
 apply aw (ρ1:=[some (N,.z),some (.lst R,.z),v2,some (.lst [],.u),v4])
 ·(repeat' (first | infer_instance | eq_refl))
 apply aw (ρ1:=[some (N,.z),some (.lst R,.z),v2,some (.lst O,.u),w4])
 ·exact kE (jt (d6 rfl) rfl rfl) rfl e
 ·(repeat' (first | infer_instance | eq_refl))
theorem rw0 {N:L3.D}:bu [some (N,.z),some (.lst ((eJ 0).map sg),.u),some (.int 0,.z),none,none]=some (.ok .nx,[some (N,.z),some (.lst ((eJ 1).map sg),.z),some (.int 0,.z),some (.lst ((eJ 1).map sg),.z),some (sg [],.z)]):=by kernel_rfl
set_option tactic.hygienic true in
theorem oR:bJ [(.int 5,.z)]=some (.ok (.lst (A5.map sg),.u),[(.int 5,.z)]):=by
 have th:=lT
 have nm:=qV (k:=5) (lo:=1) (hi:=5) (by decide) (by decide)
 have hr:eF [.int 10]=some (b5 0 10):=je (by decide) (by decide)
 obtain ⟨ρ',e,hP⟩:=dg (bnd:=au 2) (b:=bu) (fun k ρ=>(k=0/\ρ=[some (.int 5,.z),some (.lst ((eJ 0).map sg),.u),none,none,none])\/(1<=k/\∃ v2 v3 v4,ρ=[some (.int 5,.z),some (.lst ((eJ k).map sg),.z),v2,v3,v4])) (ds:=b5 0 10) (ρ:=[some (.int 5,.z),some (.lst ((eJ 0).map sg),.u),none,none,none]) (k:=0) (.inl ⟨rfl,rfl⟩) (by
  rintro i d ρ hd hP
  obtain ⟨hi,rfl⟩:=ft hd
  have hi:i < 10:=by omega
  rcases hP with ⟨h0,rfl⟩ | ⟨h1,v2,v3,v4,rfl⟩
  ·obtain rfl:i=0:=by omega
   exact ⟨_,_,rfl,.inl rw0,.inr ⟨by omega,_,_,_,rfl⟩⟩
  ·obtain ⟨w4,e⟩:=pY (N:=.int 5) (v2:=some (.int (0+(i:Int)),.z)) (v3:=v3) (v4:=v4) (rows:=eJ (0+i)) (fun r hr=>by have:=(jB _ r hr).1;omega) (by
    rw [ig]
    have:2 ^ (0+i)<=2 ^ 9:=Nat.pow_le_pow_right (by decide) (by omega)
    omega)
   exact ⟨_,_,rfl,.inl e,.inr ⟨by omega,_,_,_,rfl⟩⟩)
 have hl:(b5 0 10).length=10:=rfl
 rw [hl] at hP
 rcases hP with ⟨h,_⟩ | ⟨_,v2,v3,v4,rfl⟩
 ·cases h
 obtain ⟨τ',e2,a,rfl⟩:=fF (bnd:=au 0) (c:=cG) (elt:=d5) (fun τ=>∃ a,τ=[a,some (.int 5,.z)]) sg cO sg (xs:=eJ 10) (τ:=[none,some (.int 5,.z)]) ⟨none,rfl⟩ (by
  rintro r hr τ ⟨a,rfl⟩
  obtain ⟨h1,h2⟩:=jB _ r hr
  have f:=aso5 h1 h2
  generalize cO r=o at *
  generalize sg r=R at *
  exact ⟨[some (R,.z),some (.int 5,.z)],[some (R,.z),some (.int 5,.z)],rfl,by unfold cG;(repeat' (first | infer_instance | with_reducible apply aR (f) | eq_refl)),fun _=>⟨_,rfl⟩,fun _=>⟨.pl 0,[some (R,.z),some (.int 5,.z)],(R,.z),[some (R,.z),some (.int 5,.z)],rfl,rfl,rfl,_,rfl⟩⟩)
 rw [so] at e2
 have hlen:((eJ 10).map sg).length < 16777216:=by rw [vC,ig];decide
 have hl0:fB [Ts]=some (.int 10,.z):=rfl
 rw [vQ] at e
 rw [show (eJ 0).map sg=[sg []] from rfl] at e
 generalize (eJ 10).map sg=R at *
 generalize A5.map sg=O at *
 have c2:dZ [some (.int 5,.z),some (.lst R,.z),v2,v3,v4]=some (.ok (.val (.lst O) .u),[some (.int 5,.z),some (.lst R,.z),v2,v3,v4]):=fA (ρ1:=[some (.int 5,.z),some (.lst R,.z),v2,v3,v4]) (rs:=[.pl 1]) (jt (d6 rfl) rfl rfl) e2 hlen rfl
 generalize hTs:Ts=W at *
 apply dI (ρ:=[some (.int 5,.z),none,none,none,none]) rfl rfl
 ·unfold f9
  apply aw (ρ1:=[some (.int 5,.z),none,none,none,none])
  ·(repeat' (first | infer_instance | with_reducible apply aR (nm) | eq_refl))
  apply aw (ρ1:=[some (.int 5,.z),some (.lst [sg []],.u),none,none,none])
  ·(repeat' (first | infer_instance | eq_refl))
  apply aw (ρ1:=[some (.int 5,.z),some (.lst R,.z),v2,v3,v4])
  ·apply kE (ρ1:=[some (.int 5,.z),some (.lst [sg []],.u),none,none,none])
   ·(repeat' (first | with_reducible apply iY (h3:=hr) | infer_instance | with_reducible apply aR (th) | exact hl0 | eq_refl))
   ·rfl
   ·exact e
  ·exact ge c2 rfl
 ·rfl
noncomputable def aS (lot:Nat):List Int:=(List.range 10).map fun k:Nat=>2 * Builtin.bitAnd ((lot:Int) / 2 ^ (k:Int).toNat) 1 - 1
noncomputable def B5:List (List Int):=[[-1,-1,-1,-1,-1,-1,-1,-1,-1,-1],[1,-1,-1,-1,-1,-1,-1,-1,-1,-1],[1,1,-1,-1,-1,-1,-1,-1,-1,-1],[1,1,1,-1,-1,-1,-1,-1,-1,-1],[1,1,-1,1,-1,-1,-1,-1,-1,-1],[1,1,1,1,-1,-1,-1,-1,-1,-1],[1,1,1,1,1,-1,-1,-1,-1,-1],[1,1,1,1,1,1,-1,-1,-1,-1],[-1,-1,-1,-1,-1,-1,1,-1,-1,-1],[-1,-1,-1,1,-1,-1,1,-1,-1,-1],[-1,1,-1,1,-1,-1,1,-1,-1,-1],[1,1,-1,1,-1,-1,1,-1,-1,-1],[1,1,1,1,-1,-1,1,-1,-1,-1],[1,1,1,1,1,-1,1,-1,-1,-1],[1,1,1,1,1,1,1,-1,-1,-1],[-1,-1,-1,-1,-1,-1,1,1,-1,-1],[-1,-1,-1,1,-1,-1,1,1,-1,-1],[-1,1,-1,1,-1,-1,1,1,-1,-1],[-1,-1,-1,1,1,-1,1,1,-1,-1],[-1,1,-1,1,1,-1,1,1,-1,-1],[-1,1,1,1,1,-1,1,1,-1,-1],[1,1,1,1,1,-1,1,1,-1,-1],[-1,1,1,1,1,1,1,1,-1,-1],[1,1,1,1,1,1,1,1,-1,-1],[-1,-1,-1,-1,-1,-1,1,1,1,-1],[-1,-1,-1,1,-1,-1,1,1,1,-1],[-1,-1,-1,1,1,-1,1,1,1,-1],[-1,-1,-1,1,1,1,1,1,1,-1],[-1,-1,1,1,1,1,1,1,1,-1],[-1,1,1,1,1,1,1,1,1,-1],[1,1,1,1,1,1,1,1,1,-1],[-1,-1,-1,-1,-1,-1,-1,-1,-1,1],[1,-1,-1,-1,-1,-1,-1,-1,-1,1],[1,1,-1,-1,-1,-1,-1,-1,-1,1],[1,1,1,-1,-1,-1,-1,-1,-1,1],[1,1,1,-1,-1,1,-1,-1,-1,1],[1,1,1,-1,1,1,-1,-1,-1,1],[1,1,1,1,1,1,-1,-1,-1,1],[-1,-1,-1,-1,-1,-1,-1,-1,1,1],[1,-1,-1,-1,-1,-1,-1,-1,1,1],[-1,-1,-1,-1,-1,1,-1,-1,1,1],[1,-1,-1,-1,-1,1,-1,-1,1,1],[1,-1,1,-1,-1,1,-1,-1,1,1],[1,1,1,-1,-1,1,-1,-1,1,1],[1,-1,1,-1,1,1,-1,-1,1,1],[1,1,1,-1,1,1,-1,-1,1,1],[1,1,1,1,1,1,-1,-1,1,1],[-1,-1,-1,-1,-1,-1,-1,1,1,1],[-1,-1,-1,-1,-1,1,-1,1,1,1],[-1,-1,-1,-1,1,1,-1,1,1,1],[-1,-1,1,-1,1,1,-1,1,1,1],[1,-1,1,-1,1,1,-1,1,1,1],[1,1,1,-1,1,1,-1,1,1,1],[1,1,1,1,1,1,-1,1,1,1],[-1,-1,-1,-1,-1,-1,1,1,1,1],[-1,-1,-1,-1,-1,1,1,1,1,1],[-1,-1,-1,-1,1,1,1,1,1,1],[-1,-1,1,-1,1,1,1,1,1,1],[-1,-1,-1,1,1,1,1,1,1,1],[-1,-1,1,1,1,1,1,1,1,1],[-1,1,1,1,1,1,1,1,1,1],[1,1,1,1,1,1,1,1,1,1]]
theorem rT:((List.range 1024).map aS).filter cO=B5:=by kernel_rfl
theorem qM:k4 [.lst (B5.map sg)]=some (.lst (A5.map sg),.u):=by kernel_rfl
theorem bit1 {x:Int} (h:0<=x):Builtin.bitAnd x 1=0\/Builtin.bitAnd x 1=1:=by
 have e:Builtin.bitAnd x 1=((x.toNat &&& 1:Nat):Int):=by
  unfold Builtin.bitAnd
  rw [vN h]
  rfl
 rw [e,Nat.and_one_is_mod]
 omega
theorem t0 (lot:Nat):(aS lot).length=10/\∀ x ∈ aS lot,Si x:=by
 refine ⟨by simp [aS],fun x hx=>?_⟩
 obtain ⟨k,_,rfl⟩:=vG.mp hx
 have h:(0:Int)<=(lot:Int) / 2 ^ (k:Int).toNat:=Int.ediv_nonneg (by omega) (by exact Int.le_of_lt (Int.pow_pos (by decide)))
 unfold Si
 rcases bit1 h with e | e <;> rw [e]
 ·exact .inr (by decide)
 ·exact .inl (by decide)
set_option tactic.hygienic true in
theorem qU {lot:Nat} {F v4:Option (L3.D × Fl)}:aF qB (ad eV aj) [some (.int 5,.z),some (Ts,.u),F,some (.int lot,.z),v4]=some (.ok (.val (sg (aS lot)) .z),[some (.int 5,.z),some (Ts,.u),F,some (.int lot,.z),v4]):=by
 have hr:eF [.int 10]=some (b5 0 10):=je (by decide) (by decide)
 have hl0:fB [Ts]=some (.int 10,.z):=rfl
 obtain ⟨τ',e,a,rfl⟩:=fF (bnd:=au 0) (c:=fI) (elt:=eW) (fun τ=>∃ a,τ=[a,some (.int lot,.z)]) (fun k:Nat=>L3.D.int k) (fun _=>true) (fun k:Nat=>L3.D.int (2 * Builtin.bitAnd ((lot:Int) / 2 ^ (k:Int).toNat) 1 - 1)) (xs:=List.range 10) (τ:=[none,some (.int lot,.z)]) ⟨none,rfl⟩ (by
  rintro k hk τ ⟨a,rfl⟩
  have s1:tP (.int lot) (.int k)=some (.int ((lot:Int) / 2 ^ (k:Int).toNat),.z):=by simp [dB]
  generalize (lot:Int) / 2 ^ (k:Int).toNat=x at *
  generalize (k:Int)=K at *
  generalize (lot:Int)=L at *
  have s2:vf (.int x) (.int 1)=some (.int (Builtin.bitAnd x 1),.z):=rfl
  generalize Builtin.bitAnd x 1=y at *
  have s3:gN (.int 2) (.int y)=some (.int (2 * y),.z):=iR (by decide)
  generalize 2 * y=z at *
  exact ⟨[some (.int K,.z),some (.int L,.z)],_,rfl,rfl,(fun h=>by cases h),fun _=>⟨.val (.int (z - 1)) .z,[some (.int K,.z),some (.int L,.z)],(.int (z - 1),.z),[some (.int K,.z),some (.int L,.z)],by unfold eW;(repeat' (first | infer_instance | exact s1 | exact s2 | exact s3 | eq_refl)),rfl,rfl,_,rfl⟩⟩)
 have er:(List.range 10).map (fun k:Nat=>L3.D.int k)=b5 0 10:=rfl
 have eo:((List.range 10).filter fun _=>true).map (fun k:Nat=>L3.D.int (2 * Builtin.bitAnd ((lot:Int) / 2 ^ (k:Int).toNat) 1 - 1))=(aS lot).map L3.D.int:=by
  rw [List.filter_eq_self.mpr (fun _ _=>rfl),aS,we]
  rfl
 rw [er,eo] at e
 generalize hTs:Ts=W at *
 have ht:qB [.lst ((aS lot).map L3.D.int)]=some (sg (aS lot),.z):=rfl
 generalize (aS lot).map L3.D.int=O at *
 generalize sg (aS lot)=R at *
 have l1:eV [some (.int 5,.z),some (W,.u),F,some (.int lot,.z),v4]=some (.ok (.val (.lst O) .u),[some (.int 5,.z),some (W,.u),F,some (.int lot,.z),v4]):=fA (rs:=[]) (ρ1:=[some (.int 5,.z),some (W,.u),F,some (.int lot,.z),v4]) (by (repeat' (first | with_reducible apply iY (h3:=hr) | infer_instance | exact hl0 | eq_refl))) e (by decide) rfl
 (repeat' (first | with_reducible exact l1 | infer_instance | exact ht | eq_refl))
set_option tactic.hygienic true in
theorem pD {l:List (List Int)} {lot:Nat} {v4:Option (L3.D × Fl)} (hl:l.length < 5000):cF [some (.int 5,.z),some (Ts,.u),some (.lst (l.map sg),.u),some (.int lot,.z),v4]=some (.ok .nx,[some (.int 5,.z),some (Ts,.u),some (.lst ((l ++ (if cO (aS lot)=true then [aS lot] else [])).map sg),.u),some (.int lot,.z),some (sg (aS lot),.z)]):=by
 have e1:=qU (lot:=lot) (F:=some (.lst (l.map sg),.u)) (v4:=v4)
 obtain ⟨h1,h2⟩:=t0 lot
 have f:=good5 h1 h2
 have ap:sy (.lst (l.map sg)) [sg (aS lot)]=some (.lst ((l ++ [aS lot]).map sg),.non):=by
  simp only [sy,vC]
  rw [if_pos (by omega),List.map_append]
  rfl
 cases ho:cO (aS lot)
 ·rw [ho] at f
  rw [if_neg (by decide),List.append_nil]
  generalize sg (aS lot)=R at *
  generalize hTs:Ts=W at *
  generalize l.map sg=L at *
  unfold cF
  apply aw (ρ1:=[some (.int 5,.z),some (W,.u),some (.lst L,.u),some (.int lot,.z),some (R,.z)])
  ·exact pO e1 rfl (by show 4 < 5;decide) rfl
  ·apply gW
   ·(repeat' (first | infer_instance | with_reducible apply aR (f) | eq_refl))
   ·rfl
   ·rfl
 ·rw [ho] at f
  rw [if_pos rfl]
  generalize sg (aS lot)=R at *
  generalize hTs:Ts=W at *
  generalize (l ++ [aS lot]).map sg=L2 at *
  generalize l.map sg=L at *
  unfold cF
  apply aw (ρ1:=[some (.int 5,.z),some (W,.u),some (.lst L,.u),some (.int lot,.z),some (R,.z)])
  ·exact pO e1 rfl (by show 4 < 5;decide) rfl
  ·apply pQ
   ·(repeat' (first | infer_instance | with_reducible apply aR (f) | eq_refl))
   ·rfl
   ·(repeat' (first | infer_instance | exact ap | eq_refl))
set_option tactic.hygienic true in
theorem mW:fL [(.int 5,.z)]=some (.ok (.lst (A5.map sg),.u),[(.int 5,.z)]):=by
 have th:dG [(.int 5,.z)]=some (.ok (Ts,.u),[(.int 5,.z)]):=by kernel_rfl
 have hr:eF [.int 1024]=some (b5 0 1024):=by kernel_rfl
 obtain ⟨ρ',e,v3,v4,rfl⟩:=dg (bnd:=au 3) (b:=cF) (fun k ρ=>∃ v3 v4,ρ=[some (.int 5,.z),some (Ts,.u),some (.lst ((((List.range k).map aS).filter cO).map sg),.u),v3,v4]) (ds:=b5 0 1024) (ρ:=[some (.int 5,.z),some (Ts,.u),some (.lst [],.u),none,none]) (k:=0) ⟨_,_,rfl⟩ (by
  rintro i d ρ hd ⟨v3,v4,rfl⟩
  obtain ⟨hi,rfl⟩:=ft hd
  have hi:i < 1024:=by omega
  have e:=pD (l:=((List.range (0+i)).map aS).filter cO) (lot:=i) (v4:=v4) (by
   have:=List.length_filter_le cO ((List.range (0+i)).map aS)
   rw [vC,List.length_range] at this
   omega)
  refine ⟨[some (.int 5,.z),some (Ts,.u),some (.lst ((((List.range (0+i)).map aS).filter cO).map sg),.u),some (.int i,.z),v4],_,by rw [Int.zero_add];rfl,.inl e,some (.int i,.z),some (sg (aS i),.z),?_⟩
  have:((List.range (0+i+1)).map aS).filter cO=((List.range (0+i)).map aS).filter cO ++ (if cO (aS i)=true then [aS i] else []):=by
   rw [vQ,List.range_succ,List.map_append,List.filter_append]
   simp only [vM,List.map_nil,List.filter_cons,List.filter_nil]
  rw [this])
 have hl:(b5 0 1024).length=1024:=by simp [b5]
 rw [hl,vQ,rT] at e
 have sb:=qM
 have l0:aq tQ (mC (.int 1)) (aF fB (ad (ae 1) aj)) [some (.int 5,.z),some (Ts,.u),some (.lst [],.u),none,none]=some (.ok (.val (.int 1024) .z),[some (.int 5,.z),some (Ts,.u),some (.lst [],.u),none,none]):=by kernel_rfl
 generalize hTs:Ts=W at *
 generalize B5.map sg=B at *
 generalize A5.map sg=A at *
 apply dI (ρ:=[some (.int 5,.z),none,none,none,none]) rfl rfl
 ·unfold mh
  apply aw (ρ1:=[some (.int 5,.z),some (W,.u),none,none,none])
  ·(repeat' (first | infer_instance | with_reducible apply aR (th) | eq_refl))
  apply aw (ρ1:=[some (.int 5,.z),some (W,.u),some (.lst [],.u),none,none])
  ·(repeat' (first | infer_instance | eq_refl))
  apply aw (ρ1:=[some (.int 5,.z),some (W,.u),some (.lst B,.u),v3,v4])
  ·apply kE (ρ1:=[some (.int 5,.z),some (W,.u),some (.lst [],.u),none,none])
   ·(repeat' (first | with_reducible exact l0 | with_reducible apply iY (h3:=hr) | infer_instance | eq_refl))
   ·rfl
   ·exact e
  ·apply ge
   ·(repeat' (first | infer_instance | exact sb | eq_refl))
   ·rfl
 ·rfl
noncomputable def alS:Nat->List (List Int)
 | 1=>[[]]
 | 2=>[[]]
 | 3=>[[-1],[1]]
 | 4=>[[-1,-1,-1,-1],[-1,-1,-1,1],[-1,-1,1,1],[-1,1,1,1],[1,-1,-1,-1],[1,1,-1,-1],[1,1,1,-1],[1,1,1,1]]
 | _=>A5
theorem tW:∀ m:Nat,1<=m->m<=5->bJ [(.int m,.z)]=some (.ok (.lst ((alS m).map sg),.u),[(.int m,.z)])
 | 0,h,_=>absurd h (by decide)
 | 1,_,_=>by kernel_rfl
 | 2,_,_=>by kernel_rfl
 | 3,_,_=>by kernel_rfl
 | 4,_,_=>by kernel_rfl
 | 5,_,_=>oR
 | m+6,_,h=>absurd h (by omega)
theorem tU:∀ m:Nat,1<=m->m<=5->fL [(.int m,.z)]=some (.ok (.lst ((alS m).map sg),.u),[(.int m,.z)])
 | 0,h,_=>absurd h (by decide)
 | 1,_,_=>by kernel_rfl
 | 2,_,_=>by kernel_rfl
 | 3,_,_=>by kernel_rfl
 | 4,_,_=>by kernel_rfl
 | 5,_,_=>mW
 | m+6,_,h=>absurd h (by omega)
structure Fin5 (m:Nat):Prop where
 a:∀ S B v5,sIf (cOr (fU (cB (mUn (iw "list") (ae 4)))) (cOr (cB (aq neX (ae 4) (ae 3))) (fU (cB (aF nZ (ad ko aj)))))) (bK 1 (mC (.bl false))) fq [some (S,.z),some (B,.u),some (.int m,.z),some (.lst ((alS m).map sg),.u),some (.lst ((alS m).map sg),.u),v5]=some (.ok .nx,[some (S,.z),some (B,.u),some (.int m,.z),some (.lst ((alS m).map sg),.u),some (.lst ((alS m).map sg),.u),v5])
 b:∀ S B v5,∃ w5,cZ (cL (ae 4)) (au 5) kr [some (S,.z),some (B,.u),some (.int m,.z),some (.lst ((alS m).map sg),.u),some (.lst ((alS m).map sg),.u),v5]=some (.ok .nx,[some (S,.z),some (B,.u),some (.int m,.z),some (.lst ((alS m).map sg),.u),some (.lst ((alS m).map sg),.u),w5])
 c:neX (.lst ((alS m).map sg)) (.lst ((alS m).map sg))=some (.bl false,.z)
theorem fin5:∀ m:Nat,1<=m->m<=5->Fin5 m
 | 0,h,_=>absurd h (by decide)
 | 1,_,_=>⟨fun _ _ _=>by kernel_rfl,fun _ _ _=>⟨some (sg ((alS 1).getLastD []),.z),by kernel_rfl⟩,by kernel_rfl⟩
 | 2,_,_=>⟨fun _ _ _=>by kernel_rfl,fun _ _ _=>⟨some (sg ((alS 2).getLastD []),.z),by kernel_rfl⟩,by kernel_rfl⟩
 | 3,_,_=>⟨fun _ _ _=>by kernel_rfl,fun _ _ _=>⟨some (sg ((alS 3).getLastD []),.z),by kernel_rfl⟩,by kernel_rfl⟩
 | 4,_,_=>⟨fun _ _ _=>by kernel_rfl,fun _ _ _=>⟨some (sg ((alS 4).getLastD []),.z),by kernel_rfl⟩,by kernel_rfl⟩
 | 5,_,_=>⟨fun _ _ _=>by kernel_rfl,fun _ _ _=>⟨some (sg ((alS 5).getLastD []),.z),by kernel_rfl⟩,by kernel_rfl⟩
 | m+6,_,h=>absurd h (by omega)
set_option tactic.hygienic true in
theorem uJ {m:Nat} (h1:1<=m) (h2:m<=5) {S B:L3.D} {v3 v4 v5:Option (L3.D × Fl)}:∃ w3 w4 w5,dX [some (S,.z),some (B,.u),some (.int m,.z),v3,v4,v5]=some (.ok .nx,[some (S,.z),some (B,.u),some (.int m,.z),w3,w4,w5]):=by
 have fs:=tW m h1 h2
 have fa:=tU m h1 h2
 obtain ⟨ha,hb,hc⟩:=fin5 m h1 h2
 have ha:=ha S B v5
 obtain ⟨w5,hb⟩:=hb S B v5
 have cl:u5 (.lst ((alS m).map sg)) []=some (.lst [],.non):=rfl
 generalize (alS m).map sg=L at *
 generalize L3.D.int (m:Int)=M at *
 refine ⟨some (.lst L,.u),some (.lst [],.u),w5,?_⟩
 unfold dX
 apply aw (ρ1:=[some (S,.z),some (B,.u),some (M,.z),some (.lst L,.u),v4,v5])
 ·(repeat' (first | infer_instance | with_reducible apply aR (fa) | eq_refl))
 apply aw (ρ1:=[some (S,.z),some (B,.u),some (M,.z),some (.lst L,.u),some (.lst L,.u),v5])
 ·(repeat' (first | infer_instance | with_reducible apply aR (fs) | eq_refl))
 refine aw ha ?_
 refine aw hb ?_
 apply aw (ρ1:=[some (S,.z),some (B,.u),some (M,.z),some (.lst L,.u),some (.lst [],.u),w5])
 ·(repeat' (first | infer_instance | exact cl | eq_refl))
 ·apply gW
  ·(repeat' (first | infer_instance | with_reducible apply aR (fs) | exact hc | eq_refl))
  ·rfl
  ·rfl
theorem pE {S B:L3.D} {k:Nat} (hk:k<=5):∃ v2 v3 v4 v5,c8 (au 2) dX (b5 1 k) [some (S,.z),some (B,.u),none,none,none,none]=some (.ok .nx,[some (S,.z),some (B,.u),v2,v3,v4,v5]):=by
 obtain ⟨ρ',e,v2,v3,v4,v5,rfl⟩:=dg (bnd:=au 2) (b:=dX) (fun _ ρ=>∃ v2 v3 v4 v5,ρ=[some (S,.z),some (B,.u),v2,v3,v4,v5]) (ds:=b5 1 k) (ρ:=[some (S,.z),some (B,.u),none,none,none,none]) (k:=0) ⟨_,_,_,_,rfl⟩ (by
  rintro i d ρ hd ⟨v2,v3,v4,v5,rfl⟩
  obtain ⟨hi,rfl⟩:=ft hd
  obtain ⟨w3,w4,w5,e⟩:=uJ (m:=1+i) (by omega) (by omega) (S:=S) (B:=B) (v3:=v3) (v4:=v4) (v5:=v5)
  have em:((1+i:Nat):Int)=1+(i:Int):=by omega
  rw [em] at e
  exact ⟨_,_,rfl,.inl e,_,_,_,_,rfl⟩)
 exact ⟨_,_,_,_,e⟩
set_option tactic.hygienic true in
theorem qW (ns:List Int) (hn:ns.length<=63):sX [(.fls (ns.map .int),.z)]=some (.ok (.bl true,.z),[(.fls (ns.map .int),.z)]):=by
 obtain ⟨n,eb⟩:=qY ns 0
 have eb:fK [(.fls (ns.map .int),.z),(.int 0,.z)]=some (.ok (.lst [.int n],.u),[(.fls (ns.map .int),.z),(.int 0,.z)]):=eb
 have et:=oP n 4 (by decide)
 generalize L3.D.fls (ns.map .int)=S at *
 obtain ⟨q,k,r,hk,h1,h2,h3⟩:∃ (q:Bool) (k:Nat) (r:Int),k<=5/\eqX (.int (n % 4)) (.int 3)=some (.bl q,.z)/\pM [.bl q]=some (.int r,.z)/\gj [.int 1,.int (5+r)]=some (b5 1 k):=by
  by_cases h:n % 4=3
  ·exact ⟨true,5,1,by decide,by rw [h];rfl,rfl,lU (by decide) (by decide) (by decide)⟩
  ·refine ⟨false,4,0,by decide,?_,rfl,lU (by decide) (by decide) (by decide)⟩
   show some (L3.D.bl (decide (n % 4=3)),Fl.z)=_
   rw [vO h]
 obtain ⟨v2,v3,v4,v5,e⟩:=pE (S:=S) (B:=.lst [.int (n / 4)]) hk
 generalize n % 4=d at *
 generalize n / 4=n' at *
 apply dI (ρ:=[some (S,.z),none,none,none,none,none]) rfl rfl
 ·unfold sO
  apply aw (ρ1:=[some (S,.z),some (.lst [.int n],.u),none,none,none,none])
  ·(repeat' (first | infer_instance | with_reducible apply aR (eb) | eq_refl))
  apply aw (ρ1:=[some (S,.z),some (.lst [.int n'],.u),v2,v3,v4,v5])
  ·apply kE (ρ1:=[some (S,.z),some (.lst [.int n'],.u),none,none,none,none])
   ·(repeat' (first | with_reducible apply iY (h3:=h3) | infer_instance | with_reducible apply aR (et) | exact h1 | exact h2 | eq_refl))
   ·rfl
   ·exact e
  ·exact ge i_c rfl
 ·rfl
end Bn
end
namespace Bn
open PySem L2 L3
theorem vg {l : PySem.W.OpenLaw} {w : World} {K : FG} {h : Heap} {mg : Str -> Option Value} {fa : Addr} (X : K.In h) (G : h.Ns mainGlobals mg) (hfa : mg "law" = some (.ref fa)) (e : qS K = mo) :
  ∃ fd : FuncData, (∀ (s : Shared) (v : Value), BindsTo s fd ⟨[v], []⟩ [("_law_script", v)]) /\ ∀ base : Heap, K.In base -> base.Ns mainGlobals mg -> FnOk l.prog w K mg base CX0 5 fa fd ["_law_script"] (oA K) := by
 have e0 : dsL.map (fun p => kH K p.1) = dsL.map (fun p => hJ p.1 p.2) := congrArg (fun x => x.1) e
 have e1 : blL.map (PySem.W.nsIn K mainGlobals) = blL.map (fun _ => some none) := congrArg (fun x => x.2.1) e
 have e2 : ciL.map (fun p => jr K p.1) = ciL.map (fun p => some p.2) := congrArg (fun x => x.2.2.1) e
 have e3 : csL.map (fun p => ow K p.1) = csL.map (fun p => some p.2) := congrArg (fun x => x.2.2.2) e
 have B : Bl mg := ⟨bH X G e1 0 rfl, bH X G e1 1 rfl, bH X G e1 2 rfl, bH X G e1 3 rfl, bH X G e1 4 rfl, bH X G e1 5 rfl, bH X G e1 6 rfl, bH X G e1 7 rfl, bH X G e1 8 rfl, bH X G e1 9 rfl, bH X G e1 10 rfl, bH X G e1 11 rfl, bH X G e1 12 rfl, bH X G e1 13 rfl, bH X G e1 14 rfl, bH X G e1 15 rfl, bH X G e1 16 rfl, bH X G e1 17 rfl, bH X G e1 18 rfl, bH X G e1 19 rfl⟩
 have D0 : Def K mg "is_whole" dm := bE X G e0 0 rfl
 have D1 : Def K mg "check_number" bM := bE X G e0 1 rfl
 have D2 : Def K mg "threes" fj := bE X G e0 2 rfl
 have D3 : Def K mg "fours" gq := bE X G e0 3 rfl
 have D4 : Def K mg "is_sign" en := bE X G e0 4 rfl
 have D5 : Def K mg "turns_by_signs" bB := bE X G e0 5 rfl
 have D6 : Def K mg "change_once_at_most" aO := bE X G e0 6 rfl
 have D7 : Def K mg "are_signs_of" bN := bE X G e0 7 rfl
 have D8 : Def K mg "all_signs" cP := bE X G e0 8 rfl
 have D9 : Def K mg "_law_box" gm := bE X G e0 9 rfl
 have D10 : Def K mg "_law_take" fk := bE X G e0 10 rfl
 have D11 : Def K mg "_law_whole" el := bE X G e0 11 rfl
 have D12 : Def K mg "_law_threes" dl := bE X G e0 12 rfl
 have D13 : Def K mg "_law_good" fm := bE X G e0 13 rfl
 have D14 : Def K mg "_law_all" gp := bE X G e0 14 rfl
 obtain ⟨f, fd, F0, hf⟩ : Def K mg "law" dO := bE X G e0 15 rfl
 cases hfa.symm.trans hf
 have F := F0
 obtain ⟨oc, od, kV, doc, pm, an, cdv, ct, osl, ef, lk, hcd⟩ := F0.ex
 subst ef
 obtain ⟨tk0, Q0⟩ := lB X G e2 0 (n := "DOWN") (v := -1) rfl
 obtain ⟨tk1, Q1⟩ := lB X G e2 1 (n := "UP") (v := 1) rfl
 obtain ⟨tk2, Q2⟩ := lB X G e2 2 (n := "MOST_FOR_ALL_SIGNS") (v := 5) rfl
 refine ⟨PySem.W.fnOf "law" "law" (aP dO) (aG dO) (ag dO) .none kV doc pm an cdv ct, fun s v => .of_eq rfl, fun base _ _ => ?_⟩
 have C_is_whole := jA (P := l.prog) (w := w) (base := base) B D0
 have C_check_number := fS (P := l.prog) (w := w) (base := base) B D1 C_is_whole
 have C_threes := lG (P := l.prog) (w := w) (base := base) B D2
 have C_fours := nW (P := l.prog) (w := w) (base := base) B D3 C_threes
 have C_is_sign := kP (P := l.prog) (w := w) (base := base) B D4 C_is_whole Q0 Q1
 have C_turns_by_signs := fe (P := l.prog) (w := w) (base := base) B D5 C_threes
 have C_change_once_at_most := dh (P := l.prog) (w := w) (base := base) B D6
 have C_are_signs_of := fT (P := l.prog) (w := w) (base := base) B D7 C_change_once_at_most C_fours C_is_sign C_threes C_turns_by_signs
 have C_all_signs := iA (P := l.prog) (w := w) (base := base) B D8 C_are_signs_of C_check_number C_threes Q0 Q2 Q1
 have C__law_box := nU (P := l.prog) (w := w) (base := base) B D9
 have C__law_take := lH (P := l.prog) (w := w) (base := base) B D10
 have C__law_whole := kO (P := l.prog) (w := w) (base := base) B D11
 have C__law_threes := jz (P := l.prog) (w := w) (base := base) B D12
 have C__law_good := lI (P := l.prog) (w := w) (base := base) B D13
 have C__law_all := nV (P := l.prog) (w := w) (base := base) B D14 C__law_good C__law_threes
 exact FnOk.imp (se (P := l.prog) (w := w) (base := base) B F C__law_all C__law_box C__law_take C__law_whole C_all_signs) fun vs H Q E h => rV (fun ns hn => ⟨_, qW ns hn⟩) h
theorem walkL : PySem.W.WalkO viL loL (fun _ _ => True) (fun _ h => ∃ K : FG, K.In h /\ qS K = mo) PySem.Challenge.rw_bentrows_k55_all_signs_of_few_places.row.toRowW ⟨"law", aP dO, aG dO, ag dO, stPos dO⟩ [] (fun f vs => PySem.call f vs) :=
 L2.walk_ofS (l := PySem.Challenge.rw_bentrows_k55_all_signs_of_few_places) (n := 63) (k := 5) (x := "_law_script") (S := fun K => qS K = mo) (CX := CX0) (sp := oA) rfl (by decide) rfl ⟨rfl, by decide, by decide, rfl⟩ (fun _ _ z => z) (fun _ _ _ _ _ e X G hm => vg X G hm e) (fun _ _ a ns hl hO hS => ⟨a, ns, rfl, hS, hO, hl, fun _ => rfl⟩) fun _ _ _ _ z => z
end Bn
set_option tactic.hygienic true
open PySem PySem.W PyProof.Rows
set_option maxRecDepth 100000 in
set_option maxHeartbeats 0 in
theorem PySem.Challenge.cw_bentrows_k55_all_signs_of_few_places_holds : PySem.Challenge.rw_bentrows_k55_all_signs_of_few_places.Holds :=
 holds_law Bn.okL fun said => holds_open (r := PySem.Challenge.rw_bentrows_k55_all_signs_of_few_places.row) Bn.leftL (fun _ _ e => ⟨_, L2.fragAt_in _, e⟩) (fun _ _ _ ⟨K, X, e⟩ k => ⟨K, X.keeps k, e⟩) (fun _ _ => trivial) (fun _ _ _ _ _ => trivial) (by kernel_rfl) (by kernel_rfl) (by kernel_rfl) (fun s e => recFacts_of e) (by rfl) said (by kernel_rfl) ⟨rfl, rfl, rfl, rfl, rfl, by decide +kernel⟩ ⟨[.list []], by decide +kernel, by decide +kernel⟩ Bn.walkL
