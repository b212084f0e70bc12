import PyProof.Rows.All
import Wide.All
import OpenK.AllK
import Wide.FinOn
import Lean
import PyProof.EqAt
import PyProof.EqKinds
import PyProof.TupleCall
import PyProof.P3Eq
import PyProof.NeData
import PyProof.ListRange
import PyProof.Rows.CallKwBuiltin
import PyProof.Rows.Range3
import PyProof.DictWalks
import PyProof.MinMaxWalk
import PyProof.WalkInts
import PyProof.Walk
import PyProof.WalkLemmas
import PyProof.RulesTry
import PyProof.Rows.SortShell
import PyProof.Rows.SortWalk
import PyProof.Rows.SortRuns
import PyProof.Rows.SetFrom
import PyProof.SetKind
import PyProof.SetScanFacts
import PyProof.FactsAll.subtypes_4
import PyProof.FactsAll.set_1
import PyProof.DictDisplay
import KE.KRevIter
import PyProof.SetRoads
import PySem.Challenge.RW_bentrows_k01_sheets_known
set_option genSizeOf false
set_option Elab.async false
noncomputable section
set_option linter.all false
set_option maxRecDepth 100000
set_option maxHeartbeats 4000000
section
abbrev FG:=PySem.W.Frag
open PySem PySem.Spec PyProof.Rows
abbrev Bq:=@wpAny_bind
abbrev Br:=@wpAny_pure
abbrev Bs:=@wpAny_holding
abbrev Bt:=@List.mem_cons_self
abbrev Bu:=@List.mem_cons_of_mem
abbrev Bv:=@Heap.get?_push_of_some
abbrev Bw:=@Option.map_eq_some_iff
abbrev Bx:=@List.mem_append_left
abbrev By:=@List.mem_append_right
abbrev Bz:=@List.mem_cons
abbrev BA:=@List.getElem?_eq_getElem
abbrev BC:=@Heap.lt_size
abbrev BD:=@List.mem_append
abbrev BE:=@Heap.get?_push_size
abbrev BF:=@List.length_map
abbrev BG:=@List.getElem?_eq_some_iff
abbrev BH:=@List.mem_of_getElem?
abbrev BI:=@List.sublist_append_right
abbrev BJ:=@List.mem_map
abbrev BK:=@List.getElem?_map
abbrev BL:=@Nat.le_refl
abbrev BM:=@Bool.false_ne_true
abbrev BN:=@Nat.ne_of_lt
abbrev BO:=@List.size_toArray
abbrev BP:=@List.map_cons
abbrev BQ:=@decide_eq_true
abbrev BR:=@decide_eq_false
abbrev BS:=@Nat.lt_of_lt_of_le
abbrev BT:=@Nat.zero_add
abbrev BU:=@Heap.get?_update_self
abbrev BV:=@List.length_append
abbrev BW:=@List.length_cons
abbrev BY:=@List.length_take
abbrev BZ:=@Option.map_some
abbrev B0:=@Option.bind_eq_some_iff
abbrev B1:=@List.mem_singleton
abbrev B2:=@Bool.false_eq_true
abbrev B3:=@List.mem_filter
abbrev B4:=@List.getElem?_append_left
abbrev B5:=@Heap.get?_update_other
abbrev B6:=@Heap.size_push
abbrev B7:=@wpAny_truthy_bool
abbrev B8:=@Nat.le_trans
abbrev B9:=@List.filter_eq_self
abbrev Ca:=@List.mem_flatMap
abbrev Cc:=@List.map_map
abbrev Cd:=@List.map_congr_left
abbrev Ce:=@Option.some.inj
end
section
namespace L2
open PySem
def bd (s : Stmt) : Arguments := match s with
 | .FunctionDef _ a _ _ _ _ _ _ _ _ => a
 | _ => { posonlyargs := [], args := [], vararg := none, kwonlyargs := [], kw_defaults := [], kwarg := none, defaults := [] }
def aU (s : Stmt) : List Stmt := match s with
 | .FunctionDef _ _ b _ _ _ _ _ _ _ => b
 | _ => []
def ah (s : Stmt) : Scope := match s with
 | .FunctionDef _ _ _ _ _ _ sc _ _ _ => sc
 | _ => { kind := .function, names := [], isGenerator := false, isCoroutine := false }
def nB (p : Nat × Obj) : Option (Nat × Obj) := match p.2 with
 | ⟨_, _, .freed, _⟩ => none
 | o => some (p.1, o)
def vm (h : Heap) : FG := ((List.range h.objs.size).zip h.objs.toList).filterMap nB
def refIn (K : FG) (n : Str) : Addr := match PySem.W.nsIn K mainGlobals n with
 | some (some (.ref f)) => f
 | _ => 0
abbrev mf := Str × Str × Arguments × FuncBody × Scope × Addr × List (Str × Addr) × Value × Addr × Bool
def nH (K : FG) (n : Str) : Option mf := match PySem.W.nsIn K mainGlobals n with
 | some (some (.ref f)) => (match K.lookup f with
  | some ⟨_, _, .func fd, _⟩ => some (fd.name, fd.qualname, fd.params, fd.body, fd.scope, fd.globals, fd.closure, fd.defaults, fd.builtins, PySem.W.codeIn K fd.code n)
  | _ => none)
 | _ => none
def j0 (n : Str) (st : Stmt) : Option mf := some (n, n, bd st, .stmts (aU st), ah st, mainGlobals, [], .none, builtinsNs, true)
def lT (K : FG) (n : Str) : Option Int := match PySem.W.nsIn K mainGlobals n with
 | some (some (.int v _)) => some v
 | _ => none
def sZ (K : FG) (n : Str) : Option Str := match PySem.W.nsIn K mainGlobals n with
 | some (some (.str v _)) => some v
 | _ => none
open PySem.W PyProof.Rows in
theorem rS {p q : Program} {loose : List Str} {d : Shared → Bool} {α : Type} {g : Shared → α} {c : World → α} {N m : Nat} {ann : Option Value}
  (e : opening p = plainProg p.main.scope.names) (r : Nat.ble 600 N = true) (f : ∀ s, fenceModules? p s = some s)
  (sz : ∀ w : World, ((boot_heap w.params).isNs mainGlobals && (Array.mk [] : Array GenState).size == 0, (boot_heap w.params).objs.size, (boot_heap w.params).nsMap mainGlobals "__annotations__") = (true, m, ann))
  (go : ∀ (w : World) (os : OsState), (PySem.W.Fast.tw14082659384304107361 PySem.W.Fast.tw14364793385576792824 p w m ann N ⟨boot_heap w.params, Array.mk [], boot_drawn, boot_toks, os⟩ (topStub p)).map (fun s => ((staticsOk (importedModules p.main.body) (boot_heap w.params) s.heap && namesBound p s.heap && gensDone s && laidKept (boot_heap w.params) s.heap), PySem.W.Fast.tw4187177175401517315 q loose (importedModules p.main.body) d true s, g s)) = some (true, openGood q loose, c w)) : LeftO p q loose d g c N := fun w => by
 obtain ⟨⟨i, l, n, k, os⟩, o, j⟩ := Bw.mp (boot_open e r f w)
 obtain ⟨rfl, rfl, rfl, rfl⟩ : i = boot_heap w.params ∧ l = Array.mk [] ∧ n = boot_drawn ∧ k = boot_toks := by simpa using j
 have sw := sz w
 have a := go w os
 rw [← PySem.W.Fast.te14082659384304107361, ← PySem.W.Fast.te14364793385576792824, ← PySem.W.Fast.te4187177175401517315] at a
 simp only [Prod.mk.injEq] at sw
 obtain ⟨s, h, b⟩ := Bw.mp a
 simp only [Prod.mk.injEq] at b
 have tt : topFrom treeTable p w N ⟨boot_heap w.params, Array.mk [], boot_drawn, boot_toks, os⟩ = some s := by
  unfold topFrom
  dsimp only
  rw [sw.1, sw.2.1, sw.2.2, h]
  change (match staticsOk (importedModules p.main.body) (boot_heap w.params) s.heap && namesBound p s.heap && gensDone s && laidKept (boot_heap w.params) s.heap with | true => some s | false => none) = some s
  rw [b.1]
 unfold openEnds
 rw [o]
 change Option.map _ (topFrom treeTable p w N _) = _
 rw [tt]
 exact congrArg some (Prod.ext b.2.1 b.2.2)
theorem rg (h : PySem.W.Fast.tw9446332074065402090 l = true) : l.wellSaid = true := by rw [← PySem.W.Fast.te9446332074065402090] at h; exact h
end L2
namespace Bn
open PySem L2
def top (i : Nat) : Stmt := PySem.Challenge.pw_bentrows_k01_sheets_known.main.body.getD i (.Pass ⟨0, 0, 0, 0⟩)
abbrev eg : Stmt := top 1
abbrev eA : Stmt := top 2
abbrev cZ : Stmt := top 5
abbrev b7 : Stmt := top 6
abbrev lz : Stmt := top 7
abbrev gh : Stmt := top 8
abbrev bQ : Stmt := top 9
abbrev eh : Stmt := top 10
abbrev gl : Stmt := top 12
abbrev jq : Stmt := top 13
abbrev jr : Stmt := top 14
abbrev gi : Stmt := top 15
abbrev fF : Stmt := top 16
abbrev fG : Stmt := top 17
abbrev gr : Stmt := top 18
abbrev gk : Stmt := top 19
abbrev fH : Stmt := top 20
abbrev jp : Stmt := top 21
abbrev ee : Stmt := top 22
abbrev gj : Stmt := top 23
abbrev cY : Stmt := top 24
abbrev gq : Stmt := top 25
abbrev eQ : Stmt := top 26
abbrev dsL : List (Str × Stmt) := [(("is_whole" : Str), eg), (("is_point" : Str), eA), (("are_points" : Str), cZ), (("has_rising_x" : Str), b7), (("bend" : Str), lz), (("threes" : Str), gh), (("first_on_line" : Str), bQ), (("is_sheet" : Str), eh), (("_law_cell" : Str), gl), (("_law_mix" : Str), jq), (("_law_box" : Str), jr), (("_law_take" : Str), gi), (("_law_whole" : Str), fF), (("_law_truth" : Str), fG), (("_law_bend" : Str), gr), (("_law_free" : Str), gk), (("_law_sheet" : Str), fH), (("_law_odd" : Str), jp), (("_law_points" : Str), ee), (("_law_line" : Str), gj), (("_law_is_sheet" : Str), cY), (("_law_bent" : Str), gq), (("law" : Str), eQ)]
abbrev blL : List Str := [("len" : Str), ("range" : Str), ("abs" : Str), ("divmod" : Str), ("enumerate" : Str), ("tuple" : Str), ("isinstance" : Str), ("int" : Str), ("bool" : Str), ("all" : Str), ("str" : Str), ("max" : Str), ("min" : Str), ("list" : Str), ("dict" : Str), ("repr" : Str), ("sorted" : Str), ("set" : Str), ("zip" : Str), ("reversed" : Str)]
abbrev ciL : List (Str × Int) := [(("MOST_POINTS" : Str), (24 : Int))]
abbrev csL : List (Str × Str) := []
def wJ (K : FG) : List (Option mf) × List (Option (Option Value)) × List (Option Int) × List (Option Str) := (dsL.map (fun p => nH K p.1), blL.map (PySem.W.nsIn K mainGlobals), ciL.map (fun p => lT K p.1), csL.map (fun p => sZ K p.1))
def qv : List (Option mf) × List (Option (Option Value)) × List (Option Int) × List (Option Str) := (dsL.map (fun p => j0 p.1 p.2), blL.map (fun _ => some none), ciL.map (fun p => some p.2), csL.map (fun p => some p.2))
theorem okL : PySem.Challenge.rw_bentrows_k01_sheets_known.wellSaid = true := rg (by kernel_rfl)
abbrev loL : List Str := [("is_whole" : Str), ("is_point" : Str), ("MOST_POINTS" : Str), ("are_points" : Str), ("has_rising_x" : Str), ("bend" : Str), ("threes" : Str), ("first_on_line" : Str), ("is_sheet" : Str), ("_law_cell" : Str), ("_law_mix" : Str), ("_law_box" : Str), ("_law_take" : Str), ("_law_whole" : Str), ("_law_truth" : Str), ("_law_bend" : Str), ("_law_free" : Str), ("_law_sheet" : Str), ("_law_odd" : Str), ("_law_points" : Str), ("_law_line" : Str), ("_law_is_sheet" : Str), ("_law_bent" : Str)]
abbrev viL : Program := PySem.W.view PySem.Challenge.rw_bentrows_k01_sheets_known.row.prog [26]
theorem leftL : PySem.W.LeftO PySem.Challenge.rw_bentrows_k01_sheets_known.row.prog viL loL (fun s => PySem.W.recOk (PySem.W.RowW.records PySem.Challenge.rw_bentrows_k01_sheets_known.row.toRowW) s) (fun s => wJ (vm s.heap)) (fun _ => qv) 40000 :=
 rS (m := 11) (ann := some (.ref 6)) (by kernel_rfl) rfl (fun _ => rfl) (fun w => by kernel_rfl) (fun w os => by kernel_rfl)
end Bn
end
section
namespace L2
open PySem PySem.Spec PyProof.Rows
abbrev Key:=Sum Int Str
def kW:Key->Value->Bool
 | .inl k,v=>Value.isInt k v
 | .inr x,v=>Value.isStrOf x v
def keyH (w:World):Key->Int
 | .inl k=>hashInt k
 | .inr x=>hashStr w x
theorem a8:∀ {k:Key} {v:Value},kW k v=true->(∃ i t,k=Sum.inl i/\v=Value.int i t)\/(∃ x t,k=Sum.inr x/\v=Value.str x t)
 | .inl i,v,h=>by
  obtain ⟨t,e⟩:=Value.isInt_shape (k:=i) (v:=v) h
  exact .inl ⟨i,t,rfl,e⟩
 | .inr x,v,h=>by
  obtain ⟨t,e⟩:=Value.isStrOf_shape (x:=x) (v:=v) h
  exact .inr ⟨x,t,rfl,e⟩
theorem rX (i:Int) (t:Tok):kW (.inl i) (.int i t)=true:=by simp [kW,Value.isInt]
theorem rW (x:Str) (t:Tok):kW (.inr x) (.str x t)=true:=by simp [kW,Value.isStrOf]
theorem AR (a b:Int):decide ((Sum.inl a:Key)=Sum.inl b)=(a == b):=by
 by_cases e:a=b
 ·subst e;simp
 ·have h:¬ (Sum.inl a:Key)=Sum.inl b:=fun q=>e (Sum.inl.inj q)
  rw [BR h]
  exact (beq_eq_false_iff_ne.mpr e).symm
theorem AN (a b:Str):decide ((Sum.inr a:Key)=Sum.inr b)=decide (a=b):=by
 by_cases e:a=b
 ·subst e;simp
 ·have h:¬ (Sum.inr a:Key)=Sum.inr b:=fun q=>e (Sum.inr.inj q)
  rw [BR h,BR e]
theorem AQ (a:Int) (b:Str):decide ((Sum.inl a:Key)=Sum.inr b)=false:=BR (fun q=>nomatch q)
theorem AO (a:Str) (b:Int):decide ((Sum.inr a:Key)=Sum.inl b)=false:=BR (fun q=>nomatch q)
def bD (prog:Program) (w:World):PySem.KeyKind prog w Key where
 is:=kW
 hash:=keyH w
 inj:=fun v a b f d=>by
  rcases a8 f with ⟨i,t,rfl,rfl⟩ | ⟨x,t,rfl,rfl⟩
  ·rcases a8 d with ⟨j,u,rfl,e⟩ | ⟨y,u,rfl,e⟩
   ·injection e with e1 _;rw [e1]
   ·exact nomatch e
  ·rcases a8 d with ⟨j,u,rfl,e⟩ | ⟨y,u,rfl,e⟩
   ·exact nomatch e
   ·injection e with e1 _;rw [e1]
 byValue:=fun k v h=>by
  rcases a8 h with ⟨i,t,rfl,rfl⟩ | ⟨x,t,rfl,rfl⟩ <;> rfl
 pyHash:=fun c h=>by
  rcases a8 c with ⟨i,t,rfl,rfl⟩ | ⟨x,t,rfl,rfl⟩
  ·exact wpAny_pyHash_int h
  ·exact wpAny_pyHash_str h
 eqBool:=fun hu c h=>by
  rcases a8 hu with ⟨i,t,rfl,rfl⟩ | ⟨x,t,rfl,rfl⟩
  ·rcases a8 c with ⟨j,u,rfl,rfl⟩ | ⟨y,u,rfl,rfl⟩
   ·rw [AR] at h;exact wpAny_eqBool_int h
   ·rw [AQ] at h;exact SeqAt.EqAt.int_str i t y u _ _ _ _ h
  ·rcases a8 c with ⟨j,u,rfl,rfl⟩ | ⟨y,u,rfl,rfl⟩
   ·rw [AO] at h;exact SeqAt.EqAt.str_int x t j u _ _ _ _ h
   ·rw [AN] at h;exact wpAny_eqBool_str h
 «strs»:=fun k x t v h=>by
  rcases a8 h with ⟨i,u,rfl,e⟩ | ⟨y,u,rfl,e⟩
  ·exact nomatch e
  ·injection e with e1 _
   subst e1
   cases v <;> rfl
theorem m6 (prog:Program) (w:World) (i:Int) (t:Tok):(bD prog w).is (.inl i) (.int i t)=true:=rX i t
theorem m5 (prog:Program) (w:World) (x:Str) (t:Tok):(bD prog w).is (.inr x) (.str x t)=true:=rW x t
end L2
namespace L2
open PySem PySem.Spec PyProof.Rows
inductive V where
 | non | bl (b:Bool) | int (i:Int) | str (x:Str) | byt (b:Array UInt8) | flt (b:UInt64) | ref (a:Addr) | ty (n:String)
 deriving DecidableEq
def RelV:V->Value->Prop
 | .non,u=>u=Value.none
 | .bl b,u=>u=Value.bool b
 | .int i,u=>∃ t,u=Value.int i t
 | .str x,u=>∃ t,u=Value.str x t
 | .byt b,u=>∃ t,u=Value.bytes b t
 | .flt b,u=>∃ t,u=Value.float b t
 | .ref a,u=>u=Value.ref a
 | .ty n,u=>u=Value.type n
abbrev Vals:List V->List Value->Prop:=Paired RelV
theorem Vals.length (r:Vals xs us):xs.length=us.length:=Paired.length r
theorem Vals.get:∀ {xs:List V} {us:List Value} {i:Nat} {x:V},Vals xs us->xs[i]?=some x->∃ u,us[i]?=some u/\RelV x u
 | _,_,_,_,.nil,e=>by simp at e
 | _,_,0,_,.cons r _,e=>by simp at e;subst e;exact ⟨_,rfl,r⟩
 | _,_,i+1,x,.cons _ t,e=>by
  obtain ⟨u,h1,h2⟩:=Vals.get (i:=i) (x:=x) t (by simpa using e)
  exact ⟨u,by simpa using h1,h2⟩
theorem Vals.set (r:RelV x u):∀ {xs:List V} {us:List Value} (i:Nat),Vals xs us->Vals (xs.set i x) (us.set i u)
 | _,_,_,.nil=>.nil
 | _,_,0,.cons _ t=>.cons r t
 | _,_,i+1,.cons q t=>.cons q (Vals.set r i t)
theorem Vals.append:∀ {xs ys:List V} {us ws:List Value},Vals xs us->Vals ys ws->Vals (xs ++ ys) (us ++ ws)
 | _,_,_,_,.nil,s=>s
 | _,_,_,_,.cons r t,s=>.cons r (Vals.append t s)
theorem Vals.take:∀ {xs:List V} {us:List Value} (n:Nat),Vals xs us->Vals (xs.take n) (us.take n)
 | _,_,0,_=>.nil
 | _,_,_+1,.nil=>.nil
 | _,_,n+1,.cons r t=>.cons r (Vals.take n t)
theorem Vals.drop:∀ {xs:List V} {us:List Value} (n:Nat),Vals xs us->Vals (xs.drop n) (us.drop n)
 | _,_,0,r=>r
 | _,_,_+1,.nil=>.nil
 | _,_,n+1,.cons _ t=>Vals.drop n t
def RelO:Option V->Option Value->Prop
 | some v,some u=>RelV v u
 | none,none=>True
 | _,_=>False
def KV {κ:Type}:List (κ × V)->List (κ × Value)->Prop:=Paired fun (p:κ × V) (q:κ × Value)=>p.1=q.1/\RelV p.2 q.2
def kV:Key->V
 | .inl i=>.int i
 | .inr x=>.str x
inductive HO where
 | lst (xs:List V)
 | tup (xs:List V)
 | dK (kvs:List (Key × V)) | dT (kvs:List (List Key × V))
 | set (S:Int->Bool) (n:Nat)
 | ins (C dx:Addr) (fs:List (Str × V))
 | own (x:Addr)
 | xd (fs:List (Str × V))
 | met (f x:Addr)
 | rng (lo hi:Int)
 | frz (o:Obj) (u:HO)
 | tbl (ps:Array Value)
 | ext (φ:Heap->Prop)
abbrev Hp:=Addr->Option HO
def upd (H:Hp) (a:Addr) (o:HO):Hp:=fun b=>if b=a then some o else H b
theorem aC:upd H a o a=some o:=by unfold upd;rw [if_pos rfl]
theorem aq (h:b ≠ a):upd H a o b=H b:=by unfold upd;rw [if_neg h]
theorem yO {H:Hp} (h:H a=some o) (h':H b=some u) (d:o ≠ u):a ≠ b:=by
 intro e;subst e;rw [h] at h';exact d (Ce h')
theorem aM {H:Hp} (h:H a=some o) (h':H b=none):a ≠ b:=by
 intro e;subst e;rw [h] at h';cases h'
def DictOfE {prog:Program} {w:World} {κ:Type} [DecidableEq κ] (knd:KeyKind prog w κ) (h:Heap) (a:Addr) (kvs:List (κ × Value)):Prop :=
 ∃ o es b,h.get? a=some o/\o.ExactDict/\o.data=.dict es b/\KeysOf knd es/\Pairs knd es.toList kvs/\(kvs.map (·.1)).Nodup/\b=es.size
theorem DictOfE.of [DecidableEq κ] {knd:KeyKind prog w κ} {kvs:List (κ × Value)} (x:DictOfE knd h a kvs):h.DictOf knd a kvs:=let ⟨o,es,e,h1,h2,h3,b,d,c,_⟩:=x;⟨o,es,e,h1,h2,h3,b,d,c⟩
def IsTupD (h:Heap) (a:Addr) (items:Array Value):Prop:=∃ o,h.get? a=some o/\o.cls=.type "tuple"/\∃ n,(o.data,o.dict)=(Data.seq items n,none)
theorem IsTupD.tup {h:Heap} {a:Addr} {items:Array Value} (x:IsTupD h a items):IsTup h a items:=let ⟨o,e,c,n,d⟩:=x;⟨o,e,c,n,congrArg Prod.fst d⟩
theorem IsTupD.lt (x:IsTupD h a items):a < h.objs.size:=x.tup.lt
theorem IsTupD.new (h:Heap) (items:Array Value):IsTupD (h.push { cls:=.type "tuple",data:=.seq items }) h.objs.size items:=⟨_,BE h rfl,rfl,_,rfl⟩
section
variable (P:Program) (w:World)
def ObjOk (H:Hp) (h:Heap) (a:Addr):HO->Prop
 | .lst xs=>xs.length<=sizeLine/\∃ (its:List Value) (n:Nat),Vals xs its/\h.get? a=some { cls:=.type "list",data:=.seq its.toArray n }
 | .tup xs=>xs.length<=sizeLine/\∃ its:List Value,Vals xs its/\IsTupD h a its.toArray
 | .dK kvs=>kvs.length<=sizeLine/\(a == sysModules)=false/\∃ c,KV kvs c/\DictOfE (bD P w) h a c
 | .dT kvs=>kvs.length<=sizeLine/\(a == sysModules)=false/\∃ xs:List (List Key × Addr × Value),
   Paired (fun (p:List Key × V) (q:List Key × Addr × Value)=>p.1=q.1/\H q.2.1=some (.tup (p.1.map kV))/\RelV p.2 q.2.2) kvs xs /\
   ∃ o es d,h.get? a=some o/\o.ExactDict/\o.data=.dict es d/\es.toList=xs.map (entryOfKey (tupleKind (bD P w)))/\(xs.map (·.1)).Nodup/\d=es.size
 | .set S n=>h.SetOf (intKind P w) a S n
 | .ins C dx fs=>H dx=some (.own a)/\fs.length<=1000/\dx ≠ a/\h.get? a=some (PySem.W.instObj C dx) /\
   ∃ b,h.Ns1 dx b/\(∀ f,RelO (fs.lookup f) (b f))/\PySem.Within b (fs.map (·.1))
 | .own _=>∃ o,h.get? a=some o
 | .xd fs=>∃ b,h.Ns1 a b/\∀ f,RelO (fs.lookup f) (b f)
 | .rng lo hi=>∃ t u v,h.get? a=some { cls:=.type "range",data:=.fields #[.int lo t,.int hi u,.int 1 v] }
 | .frz o u=>h.get? a=some o/\ObjOk H h a u
 | .tbl ps=>h.get? a=some { cls:=.none,data:=.fields ps }
 | .met f x=>h.get? a=some (PySem.W.methodObj (.ref f) (.ref x))
 | .ext φ=>φ h/\(∃ o,h.get? a=some o)/\∀ h1 h2:Heap,φ h1->(∀ o,h1.get? a=some o->h2.get? a=some o)->φ h2
def HOk (H:Hp) (h:Heap):Prop:=∀ a o,H a=some o->ObjOk P w H h a o
end
section
variable {P:Program} {w:World} {H H':Hp} {h h':Heap} {a:Addr} {o:HO}
theorem ObjOk.lt (x:ObjOk P w H h a o):a < h.objs.size:=by
 cases o with
 | lst xs=>obtain ⟨_,_,_,_,e⟩:=x;exact BC e
 | tup xs=>obtain ⟨_,_,_,p⟩:=x;exact p.lt
 | dK kvs=>obtain ⟨_,_,_,_,o,_,_,e,_⟩:=x;exact BC e
 | dT kvs=>obtain ⟨_,_,_,_,o,_,_,e,_⟩:=x;exact BC e
 | set S n=>obtain ⟨o,_,_,_,e,_⟩:=x;exact BC e
 | ins C dx fs=>obtain ⟨_,_,_,e,_⟩:=x;exact BC e
 | own y=>obtain ⟨_,e⟩:=x;exact BC e
 | xd fs=>obtain ⟨_,⟨_,_,_,e,_⟩,_⟩:=x;exact BC e
 | rng lo hi=>obtain ⟨_,_,_,e⟩:=x;exact BC e
 | frz ob u=>obtain ⟨e,_⟩:=x;exact BC e
 | tbl ps=>exact BC (show h.get? a=some _ from x)
 | met f y=>exact BC (show h.get? a=some _ from x)
 | ext φ=>obtain ⟨_,⟨_,e⟩,_⟩:=x;exact BC e
theorem Paired.mapP:∀ {c:List α} {d:List β},Paired F c d->(∀ a b,F a b->G a b)->Paired G c d
 | _,_,.nil,_=>.nil
 | _,_,.cons r t,f=>.cons (f _ _ r) (Paired.mapP t f)
theorem ObjOk.stay (x:ObjOk P w H h a o) (k:∀ b u,(b=a\/H b=some (.own a))->h.get? b=some u->h'.get? b=some u)
  (s:∀ b,H b=some (.own a)->H' b=some (.own a)) (m:∀ b xs,H b=some (.tup xs)->H' b=some (.tup xs)):ObjOk P w H' h' a o:=by
 induction o with
 | lst xs=>obtain ⟨z,its,n,r,e⟩:=x;exact ⟨z,its,n,r,k _ _ (.inl rfl) e⟩
 | tup xs=>obtain ⟨z,its,r,ob,e,c⟩:=x;exact ⟨z,its,r,ob,k _ _ (.inl rfl) e,c⟩
 | dK kvs=>obtain ⟨z,y,l,r,ob,es,g,e,c⟩:=x;exact ⟨z,y,l,r,ob,es,g,k _ _ (.inl rfl) e,c⟩
 | dT kvs =>
  obtain ⟨z,y,xs,r,ob,es,g,e,c⟩:=x
  exact ⟨z,y,xs,Paired.mapP r fun p q z=>⟨z.1,m _ _ z.2.1,z.2.2⟩,ob,es,g,k _ _ (.inl rfl) e,c⟩
 | set S n=>obtain ⟨ob,es,g,t,e,c⟩:=x;exact ⟨ob,es,g,t,k _ _ (.inl rfl) e,c⟩
 | ins C dx fs =>
  obtain ⟨d,z,ne,e,j,⟨i,es,g,A,c⟩,r⟩:=x
  exact ⟨s _ d,z,ne,k _ _ (.inl rfl) e,j,⟨i,es,g,k _ _ (.inr d) A,c⟩,r⟩
 | own y=>obtain ⟨ob,e⟩:=x;exact ⟨ob,k _ _ (.inl rfl) e⟩
 | xd fs=>obtain ⟨j,⟨i,es,g,e,c⟩,r⟩:=x;exact ⟨j,⟨i,es,g,k _ _ (.inl rfl) e,c⟩,r⟩
 | rng lo hi=>obtain ⟨t,u,v,e⟩:=x;exact ⟨t,u,v,k _ _ (.inl rfl) e⟩
 | frz ob u ih=>obtain ⟨e,q⟩:=x;exact ⟨k _ _ (.inl rfl) e,ih q⟩
 | tbl ps =>
  have e:h.get? a=some { cls:=.none,data:=.fields ps }:=x
  show h'.get? a=some { cls:=.none,data:=.fields ps }
  exact k a _ (.inl rfl) e
 | met f y =>
  have e:h.get? a=some (PySem.W.methodObj (.ref f) (.ref y)):=x
  show h'.get? a=some (PySem.W.methodObj (.ref f) (.ref y))
  exact k a _ (.inl rfl) e
 | ext φ=>obtain ⟨p,⟨o,e⟩,st⟩:=x;exact ⟨st _ _ p fun o q=>k _ _ (.inl rfl) q,⟨o,k _ _ (.inl rfl) e⟩,st⟩
theorem HOk.lt (x:HOk P w H h) (e:H a=some o):a < h.objs.size:=(x a o e).lt
theorem HOk.fresh (x:HOk P w H h) (e:h.objs.size<=a):H a=none:=by
 cases q:H a with
 | none=>rfl
 | some u=>exact absurd (BS (x.lt q) e) (Nat.lt_irrefl _)
theorem HOk.kept (x:HOk P w H h) (k:∀ b u,h.get? b=some u->h'.get? b=some u):HOk P w H h':=fun a o e =>
 (x a o e).stay (fun b u _ q=>k b u q) (fun _ q=>q) fun _ _ q=>q
theorem HOk.laid (x:HOk P w H h) (k:∀ b u,h.get? b=some u->h'.get? b=some u) (g:h.objs.size<=a) (new:ObjOk P w (upd H a o) h' a o):HOk P w (upd H a o) h':=fun b u e=>by
 have f:=x.fresh g
 by_cases d:b=a
 ·subst d;rw [aC] at e;cases e;exact new
 ·rw [aq d] at e
  exact (x b u e).stay (fun c v _ q=>k c v q) (fun c q=>by rw [aq (aM q f)];exact q) fun c xs q=>by rw [aq (aM q f)];exact q
end
def Rd (H:Hp) (a:Addr) (u:HO):Prop:=H a=some u\/∃ o,H a=some (.frz o u)
theorem Rd.ok (r:Rd H a u) (x:HOk P w H h):ObjOk P w H h a u:=by
 rcases r with r | ⟨o,r⟩
 ·exact x a u r
 ·obtain ⟨_,q⟩:=x a _ r
  exact q
def Mut:Option HO->Prop
 | some (.lst _)=>True
 | some (.dK _)=>True
 | some (.dT _)=>True
 | some (.set _ _)=>True
 | some (.ins _ _ _)=>True
 | some (.ext _)=>True
 | _=>False
section
variable {P:Program} {w:World} {H:Hp} {h h':Heap} {x e:Addr} {o':HO}
theorem HOk.write (ok:HOk P w H h) (j:Mut (H x)) (he:e=x\/H e=some (.own x)) (k:∀ b u,b ≠ e->h.get? b=some u->h'.get? b=some u) (l:∃ u,h'.get? e=some u)
  (new:ObjOk P w (upd H x o') h' x o'):HOk P w (upd H x o') h':=fun b u q=>by
 have d:∀ c y,H c=some (.own y)->c ≠ x:=fun c y r z=>by subst z;rw [r] at j;exact j
 have f:∀ c xs,H c=some (.tup xs)->c ≠ x:=fun c xs r z=>by subst z;rw [r] at j;exact j
 by_cases i:b=x
 ·subst i;rw [aC] at q;cases q;exact new
 ·rw [aq i] at q
  by_cases a:b=e
  ·have m:H b=some (.own x):=by
    rcases he with z | z
    ·exact absurd (a.trans z) i
    ·rw [a];exact z
   rw [q] at m;cases m
   obtain ⟨v,n⟩:=l
   exact ⟨v,by rw [a];exact n⟩
  ·refine (ok b u q).stay (fun c v g r=>k c v ?_ r) (fun c r=>by rw [aq (d c b r)];exact r) fun c xs r=>by rw [aq (f c xs r)];exact r
   rcases g with rfl | g
   ·exact a
   ·rintro rfl
    rcases he with z | z
    ·exact d c b g z
    ·rw [g] at z;cases z;exact i rfl
end
structure Un (fs ex:List Addr) (H H':Hp) (h h':Heap):Prop where
 keep:∀ b o,h.get? b=some o->H b=none->b ∉ fs->b ∉ ex->h'.get? b=some o
 slot:∀ b o,h.get? b=some o->H b=none->b ∈ fs->b ∉ ex->∃ sl,h'.get? b=some { o with slots:=sl }
 free:∀ b o,h.get? b=some o->H b=none->b ∉ ex->H' b=none
 there:∀ b o,h.get? b=some o->b ∉ ex->∃ o',h'.get? b=some o'
 tups:∀ b xs,H b=some (.tup xs)->H' b=some (.tup xs)
 frzs:∀ b o u,H b=some (.frz o u)->H' b=some (.frz o u)
 tbls:∀ b ps,H b=some (.tbl ps)->∃ more,H' b=some (.tbl (ps ++ more))
section
variable {fs fs' ex ex':List Addr} {H H1 H2:Hp} {h h1 h2 h':Heap} {a x e:Addr} {o:HO}
theorem Un.any (u:Un fs ex H H1 h h1) (q:h.get? b=some ob) (n:H b=none) (a:b ∉ ex):∃ sl,h1.get? b=some { ob with slots:=sl }:=by
 by_cases c:b ∈ fs
 ·exact u.slot b ob q n c a
 ·exact ⟨ob.slots,u.keep b ob q n c a⟩
theorem Un.trans (a:Un fs ex H H1 h h1) (b:Un fs ex H1 H2 h1 h2):Un fs ex H H2 h h2 where
 keep:=fun c ob q n e d=>b.keep c ob (a.keep c ob q n e d) (a.free c ob q n d) e d
 slot:=fun c ob q n e d=>by
  obtain ⟨sl,e1⟩:=a.slot c ob q n e d
  obtain ⟨g,f⟩:=b.slot c _ e1 (a.free c ob q n d) e d
  exact ⟨g,f⟩
 free:=fun c ob q n d=>by
  obtain ⟨o',e1⟩:=a.there c ob q d
  exact b.free c o' e1 (a.free c ob q n d) d
 there:=fun c ob q d=>by
  obtain ⟨o',e1⟩:=a.there c ob q d
  exact b.there c o' e1 d
 tups:=fun c xs q=>b.tups c xs (a.tups c xs q)
 frzs:=fun c ob xs q=>b.frzs c ob xs (a.frzs c ob xs q)
 tbls:=fun c ps q=>by
  obtain ⟨i,e1⟩:=a.tbls c ps q
  obtain ⟨j,f⟩:=b.tbls c _ e1
  exact ⟨i ++ j,by rw [f,Array.append_assoc]⟩
theorem Un.kept (k:∀ b u,h.get? b=some u->h'.get? b=some u):Un fs ex H H h h' :=
 ⟨fun b ob q _ _ _=>k b ob q,fun b ob q _ _ _=>⟨ob.slots,k b ob q⟩,fun _ _ _ n _=>n,fun b ob q _=>⟨ob,k b ob q⟩,fun _ _ q=>q,fun _ _ _ q=>q,fun _ ps q=>⟨#[],by rw [q];simp⟩⟩
theorem Un.refl:Un fs ex H H h h:=Un.kept fun _ _ q=>q
theorem Un.laid (k:∀ b u,h.get? b=some u->h'.get? b=some u) (d:h.objs.size<=a) (c:H a=none):Un fs ex H (upd H a o) h h' where
 keep:=fun b u q _ _ _=>k b u q
 slot:=fun b u q _ _ _=>⟨u.slots,k b u q⟩
 free:=fun b u q n _=>by rw [aq (BN (BS (BC q) d))];exact n
 there:=fun b u q _=>⟨u,k b u q⟩
 tups:=fun b xs q=>by rw [aq (aM q c)];exact q
 frzs:=fun b u xs q=>by rw [aq (aM q c)];exact q
 tbls:=fun b ps q=>⟨#[],by rw [aq (aM q c),q];simp⟩
theorem Un.write (c:Mut (H x)) (he:e=x\/H e=some (.own x)) (k:∀ b u,b ≠ e->h.get? b=some u->h'.get? b=some u) (d:∃ u,h'.get? e=some u):Un fs ex H (upd H x o) h h':=by
 have f:∀ b,H b=none->b ≠ x:=fun b n z=>by subst z;rw [n] at c;exact c
 have g:∀ b,H b=none->b ≠ e:=fun b n z=>by
  subst z
  rcases he with r | r
  ·exact f b n r
  ·rw [n] at r;cases r
 have hm:∀ b u,H b=some u->¬ Mut (some u)->b ≠ x:=fun b u q nm z=>by subst z;rw [q] at c;exact nm c
 refine ⟨fun b u q n _ _=>k b u (g b n) q,fun b u q n _ _=>⟨u.slots,k b u (g b n) q⟩,fun b u q n _=>by rw [aq (f b n)];exact n,fun b u q _=>?_,
  fun b xs q=>by rw [aq (hm b _ q fun z=>z)];exact q,fun b u xs q=>by rw [aq (hm b _ q fun z=>z)];exact q,fun b ps q=>⟨#[],by rw [aq (hm b _ q fun z=>z),q];simp⟩⟩
 by_cases a:b=e
 ·subst a;exact d
 ·exact ⟨u,k b u a q⟩
end
def trk (h:Heap) (H:Hp):List Addr:=(List.range h.objs.size).filter fun a=>(H a).isSome
def lU (h:Heap) (H:Hp):Heap:=PySem.W.hideAll h (trk h H)
theorem rZ (h:Heap) (H:Hp):(lU h H).objs.size=h.objs.size:=PySem.W.hideAll_size _ _
theorem vd (e:h.get? b=some o) (n:H b=none):(lU h H).get? b=some o :=
 PySem.W.hideAll_get _ e fun hm=>by
  have q:(H b).isSome=true:=(B3.mp hm).2
  rw [n] at q;simp at q
theorem xA (e:(lU h H).get? b=some o):h.get? b=some o/\H b=none:=by
 have a:h.get? b=some o:=PySem.W.of_hideAll (trk h H) e
 refine ⟨a,?_⟩
 cases q:H b with
 | none=>rfl
 | some x =>
  have hm:b ∈ trk h H:=B3.mpr ⟨List.mem_range.mpr (BC a),by simp [q]⟩
  have z:(lU h H).get? b=none:=PySem.W.hideAll_none (trk h H) hm
  rw [z] at e;cases e
def yt (g h:Heap) (L:Addr):List (Addr × Obj):=(List.range h.objs.size).filterMap fun a=>if a=L\/(g.get? a).isSome=true then none else (h.get? a).map fun o=>(a,o)
def eK (g h:Heap) (L d:Addr):List (Addr × Obj):=(yt g h L).filter fun p=>decide (p.1 ≠ d)
end L2
namespace L2
open PySem PySem.Spec PyProof.Rows
structure Mod (K:FG) (mg:Str->Option Value) (base:Heap):Prop where
 kin:K.In base
 glob:base.Ns mainGlobals mg
 blt:∃ mb,base.Ns builtinsNs mb/\∀ x:Str,x ≠ "__name__"->mb x=bootBuiltins x
 nolimit:base.NoLimit
structure Cx where
 prog:Program
 w:World
 K:FG
 mg:Str->Option Value
 base:Heap
 A:Around
 N:List Str
 s₀:Shared
 H₀:Hp
 env:Env
 outer:List Env
 stack:List Env
 ex:List Addr
 fn:Str->Bool
 calm:Bool
 pn:List (Addr × Obj)
 xe:Value->Shared->Prop
def frs (l:List Env):List Addr:=l.filterMap (·.frame)
abbrev Cx.fs (X:Cx):List Addr:=frs X.outer
def Vis (sc:Scope) (x:Str):Prop:=sc.names.lookup x=some .local\/sc.names.lookup x=some .cell\/sc.names.lookup x=some .free
def Loc (sc:Scope) (x:Str):Prop:=sc.names.lookup x=some .local\/sc.names.lookup x=some .cell
def Look (env:Env) (h:Heap) (m:Str->Option Value) (x:Str) (u:Value):Prop :=
 (env.kindOf x=some .local/\m x=some u)\/((env.kindOf x=some .cell\/env.kindOf x=some .free)/\∃ c,env.cells.lookup x=some c/\h.IsCell c (some u))
structure Cx.Ok (X:Cx):Prop where
 mod:Mod X.K X.mg X.base
 kind:X.env.scope.kind=.function
 glob:X.env.globals=mainGlobals
 blt:X.env.builtins=builtinsNs
 above:X.s₀.heap.objs.size<=X.env.locals
 inj:∀ x y c,X.env.cells.lookup x=some c->X.env.cells.lookup y=some c->x=y
 has:∀ x,(X.env.kindOf x=some .cell\/X.env.kindOf x=some .free)->∃ c,X.env.cells.lookup x=some c
 cab:∀ x c,X.fn x=true->X.env.cells.lookup x=some c->X.s₀.heap.objs.size<=c
 hd:X.calm=true->X.A.handled=none
 frames:X.A.frames=some X.stack
 stk:X.stack=X.outer\/(X.stack=X.env :: X.outer/\X.env.frame=some X.env.locals)
 exf:∀ b ∈ X.ex,b ≠ X.env.locals/\∀ x c,X.env.cells.lookup x=some c->c ≠ b
 bs:∀ b o,X.base.get? b=some o->X.s₀.heap.get? b=some o/\X.H₀ b=none
 bsz:X.base.objs.size<=X.s₀.heap.objs.size
 noex:∀ b o,X.base.get? b=some o->b ∉ X.ex
 exfs:∀ b ∈ X.ex,b ∉ X.fs
 funs:X.s₀.heap.FunFrames X.base X.outer
 frf:∀ b ∈ X.fs,X.H₀ b=none
structure Inv (X:Cx) (pins:List (Addr × Obj)) (σ:List (Option V)) (H:Hp) (s:Shared):Prop where
 ok:X.Ok
 os:s.os=X.s₀.os
 bare:AllBare s.gens
 base:Un X.fs X.ex X.H₀ H X.s₀.heap s.heap
 loc:∃ m,s.heap.Ns X.env.locals m/\∀ (i:Nat) (x:Str) (v:V),X.N[i]?=some x->σ[i]?=some (some v)->Vis X.env.scope x->∃ u,RelV v u/\Look X.env s.heap m x u
 cell:∀ x c,X.env.cells.lookup x=some c->∃ v,s.heap.IsCell c v
 free:H X.env.locals=none
 freeC:∀ x c,X.env.cells.lookup x=some c->H c=none
 pin:∀ p ∈ X.pn ++ pins,s.heap.get? p.1=some p.2/\H p.1=none/\p.1 ≠ X.env.locals/\p.1 ∉ X.fs/\∀ v,p.2.data ≠ .cell v
 hok:HOk X.prog X.w H s.heap
 len:σ.length=X.N.length
section
variable {X:Cx} {pins:List (Addr × Obj)} {σ:List (Option V)} {H H':Hp} {s:Shared} {h':Heap}
theorem Cx.Ok.nofr (ok:X.Ok) (e:X.base.get? b=some o):b ∉ X.fs:=fun a=>by
 have:=(ok.funs.mem a).1
 rw [e] at this;cases this
theorem Inv.bs (I:Inv X pins σ H s):∀ b o,X.base.get? b=some o->s.heap.get? b=some o/\H b=none:=fun b o e =>
 ⟨I.base.keep b o (I.ok.bs b o e).1 (I.ok.bs b o e).2 (I.ok.nofr e) (I.ok.noex b o e),I.base.free b o (I.ok.bs b o e).1 (I.ok.bs b o e).2 (I.ok.noex b o e)⟩
theorem Inv.bk (I:Inv X pins σ H s):∀ b o,X.base.get? b=some o->s.heap.get? b=some o:=fun b o e=>(I.bs b o e).1
theorem Inv.mod (I:Inv X pins σ H s):Mod X.K X.mg X.base:=I.ok.mod
theorem Inv.kIn (I:Inv X pins σ H s):X.K.In s.heap:=I.ok.mod.kin.keeps I.bk
theorem Inv.lt (I:Inv X pins σ H s):X.env.locals < s.heap.objs.size:=let ⟨_,a,_⟩:=I.loc;a.lt
theorem Inv.sz (I:Inv X pins σ H s):X.s₀.heap.objs.size<=s.heap.objs.size:=B8 I.ok.above (Nat.le_of_lt I.lt)
theorem Inv.nofs (I:Inv X pins σ H s) (h:s.heap.objs.size<=a):a ∉ X.fs:=fun b=>by
 obtain ⟨_,o,c,_⟩:=I.ok.funs.mem b
 exact absurd (BS (BC c) (B8 I.sz h)) (Nat.lt_irrefl _)
theorem Inv.cne (I:Inv X pins σ H s):∀ x c,X.env.cells.lookup x=some c->c ≠ X.env.locals:=fun x c e z=>by
 obtain ⟨v,o,d,hd⟩:=I.cell x c e
 obtain ⟨m,⟨o',es,f,a,b,_⟩,_⟩:=I.loc
 rw [z,a] at d;cases d;rw [b] at hd;cases hd
theorem Inv.funs (I:Inv X pins σ H s):s.heap.FunFrames X.base X.outer:=by
 have all:∀ (l:List Env),(∀ b ∈ frs l,b ∈ X.fs)->X.s₀.heap.FunFrames X.base l->s.heap.FunFrames X.base l:=by
  intro l
  induction l with
  | nil=>intro _ _;trivial
  | cons env r ih =>
   intro d f
   obtain ⟨i,⟨L,o,hf,g,h,hd⟩,j⟩:=f
   have c:L ∈ X.fs:=d L (by unfold frs;rw [List.filterMap_cons,hf];exact Bt)
   obtain ⟨sl,e⟩:=I.base.slot L o h (I.ok.frf L c) c fun z=>I.ok.exfs L z c
   exact ⟨i,⟨L,_,hf,g,e,hd⟩,ih (fun b a=>d b (by unfold frs;rw [List.filterMap_cons,hf];exact Bu _ a)) j⟩
 exact all X.outer (fun _ a=>a) I.ok.funs
theorem Inv.stack (I:Inv X pins σ H s):s.heap.FunFrames X.base X.stack:=by
 rcases I.ok.stk with e | ⟨e,hf⟩
 ·rw [e];exact I.funs
 ·rw [e]
  obtain ⟨m,a,_⟩:=I.loc
  refine .cons (by rw [I.ok.kind];decide) hf a ?_ I.funs
  exact Heap.get?_none_of_le (B8 I.ok.bsz I.ok.above)
theorem Inv.stkSub (I:Inv X pins σ H s):∀ b ∈ frs X.stack,b ∈ X.env.locals :: X.fs:=fun b a=>by
 rcases I.ok.stk with e | ⟨e,hf⟩
 ·rw [e] at a;exact Bu _ a
 ·rw [e] at a
  unfold frs at a
  rw [List.filterMap_cons,hf] at a
  exact a
theorem Inv.stkFree (I:Inv X pins σ H s):∀ b ∈ frs X.stack,H b=none:=fun b a=>by
 rcases Bz.mp (I.stkSub b a) with e | a
 ·rw [e];exact I.free
 ·obtain ⟨_,o,c,_⟩:=I.ok.funs.mem a
  exact I.base.free b o c (I.ok.frf b a) fun z=>I.ok.exfs b z a
theorem Inv.step {t':Nat} {ch:List Addr} (I:Inv X pins σ H s) (f:∀ b ∈ ch,(b ∈ X.ex\/X.s₀.heap.objs.size<=b)/\b ≠ X.env.locals/\(∀ x c,X.env.cells.lookup x=some c->c ≠ b)/\∀ p ∈ X.pn ++ pins,p.1 ≠ b) (keep:∀ b o,b ≠ X.env.locals->b ∉ X.fs->b ∉ ch->s.heap.get? b=some o->H b=none->h'.get? b=some o) (slot:∀ b o,b ≠ X.env.locals->b ∈ X.fs->b ∉ ch->s.heap.get? b=some o->H b=none->∃ sl,h'.get? b=some { o with slots:=sl }) (free:∀ b o,b ∉ ch->s.heap.get? b=some o->H b=none->H' b=none) (there:∀ b o,b ∉ ch->s.heap.get? b=some o->∃ o',h'.get? b=some o') (tups:∀ b xs,H b=some (.tup xs)->H' b=some (.tup xs)) (frzs:∀ b o u,H b=some (.frz o u)->H' b=some (.frz o u)) (tbls:∀ b ps,H b=some (.tbl ps)->∃ more,H' b=some (.tbl (ps ++ more))) (ns:∀ m,s.heap.Ns X.env.locals m->h'.Ns X.env.locals m) (hok:HOk X.prog X.w H' h') (M:AllBare g') :
  Inv X pins σ H' { s with heap:=h',gens:=g',drawn:=d',toks:=t' }:=by
 have A:∀ b o,X.s₀.heap.get? b=some o->b ≠ X.env.locals:=fun b o e=>BN (BS (BC e) I.ok.above)
 have h:∀ b o,X.s₀.heap.get? b=some o->b ∉ X.ex->b ∉ ch:=fun b o e a j=>by
  rcases (f b j).1 with z | z
  ·exact a z
  ·exact absurd (BS (BC e) z) (Nat.lt_irrefl _)
 have cellK:∀ x c,X.env.cells.lookup x=some c->∀ v,s.heap.IsCell c v->h'.IsCell c v:=fun x c e v ⟨o,t,hd⟩=>by
  have g:c ∉ ch:=fun z=>(f c z).2.2.1 x c e rfl
  by_cases E:c ∈ X.fs
  ·obtain ⟨sl,q⟩:=slot c o (I.cne x c e) E g t (I.freeC x c e)
   exact ⟨_,q,hd⟩
  ·exact ⟨o,keep c o (I.cne x c e) E g t (I.freeC x c e),hd⟩
 refine ⟨I.ok,I.os,M,⟨fun b o e n j a=>?_,fun b o e n j a=>?_,fun b o e n a=>?_,fun b o e a=>?_,fun b xs e=>tups b xs (I.base.tups b xs e),fun b o xs e=>frzs b o xs (I.base.frzs b o xs e),fun b ps e=>?_⟩,?_,fun x c e=>?_,?_,fun x c e=>?_,fun p C=>?_,hok,I.len⟩
 ·exact keep b o (A b o e) j (h b o e a) (I.base.keep b o e n j a) (I.base.free b o e n a)
 ·obtain ⟨sl,e1⟩:=I.base.slot b o e n j a
  obtain ⟨B,y⟩:=slot b _ (A b o e) j (h b o e a) e1 (I.base.free b o e n a)
  exact ⟨B,y⟩
 ·obtain ⟨o',e1⟩:=I.base.there b o e a
  exact free b o' (h b o e a) e1 (I.base.free b o e n a)
 ·obtain ⟨o',e1⟩:=I.base.there b o e a
  exact there b o' (h b o e a) e1
 ·obtain ⟨L,e1⟩:=I.base.tbls b ps e
  obtain ⟨G,y⟩:=tbls b _ e1
  exact ⟨L ++ G,by rw [y,Array.append_assoc]⟩
 ·obtain ⟨m,K,J⟩:=I.loc
  refine ⟨m,ns m K,fun i x v e1 y F=>?_⟩
  obtain ⟨u,r,l⟩:=J i x v e1 y F
  refine ⟨u,r,?_⟩
  rcases l with l | ⟨k,c,e,z⟩
  ·exact .inl l
  ·exact .inr ⟨k,c,e,cellK x c e _ z⟩
 ·obtain ⟨v,z⟩:=I.cell x c e
  exact ⟨v,cellK x c e v z⟩
 ·obtain ⟨m,⟨o,_,_,t,_⟩,_⟩:=I.loc
  exact free _ o (fun z=>(f _ z).2.1 rfl) t I.free
 ·obtain ⟨v,o,t,hd⟩:=I.cell x c e
  exact free c o (fun z=>(f c z).2.2.1 x c e rfl) t (I.freeC x c e)
 ·obtain ⟨e,n,ne,D,d⟩:=I.pin p C
  have g:p.1 ∉ ch:=fun z=>(f p.1 z).2.2.2 p C rfl
  exact ⟨keep p.1 p.2 ne D g e n,free p.1 p.2 g e n,ne,D,d⟩
theorem Inv.un {t':Nat} (I:Inv X pins σ H s) (u:Un X.fs [] H H' s.heap h') (hok:HOk X.prog X.w H' h'):Inv X pins σ H' { s with heap:=h',toks:=t' }:=by
 obtain ⟨m,⟨o,es,j,g,r⟩,_⟩:=id I.loc
 obtain ⟨sl,h⟩:=u.any g I.free (by simp)
 exact I.step (g':=s.gens) (d':=s.drawn) (ch:=[]) (fun _ z=>nomatch z) (fun b o _ c _ e n=>u.keep b o e n c (by simp)) (fun b o _ c _ e n=>u.slot b o e n c (by simp)) (fun b o _ e n=>u.free b o e n (by simp)) (fun b o _ e=>u.there b o e (by simp)) u.tups u.frzs u.tbls (fun m' hm=>by
  obtain ⟨o',d,f,a,i⟩:=hm
  rw [g] at a;cases a
  exact ⟨_,d,f,h,i⟩) hok I.bare
theorem Inv.call {t':Nat} (I:Inv X pins σ H s) (u:Un (frs X.stack) ch H H' s.heap h') (hok:HOk X.prog X.w H' h') (q:AllBare g') (f:∀ b ∈ ch,(b ∈ X.ex\/X.s₀.heap.objs.size<=b)/\b ≠ X.env.locals/\(∀ x c,X.env.cells.lookup x=some c->c ≠ b)/\∀ p ∈ X.pn ++ pins,p.1 ≠ b) :
  Inv X pins σ H' { s with heap:=h',gens:=g',drawn:=d',toks:=t' }:=by
 obtain ⟨m,⟨o,es,t,j,r⟩,_⟩:=id I.loc
 obtain ⟨sl,h⟩:=u.any j I.free fun z=>(f _ z).2.1 rfl
 exact I.step (ch:=ch) f (fun b o h k a e n=>u.keep b o e n (fun z=>(Bz.mp (I.stkSub b z)).elim h k) a) (fun b o _ _ a e n=>u.any e n a) (fun b o a e n=>u.free b o e n a) (fun b o a e=>u.there b o e a) u.tups u.frzs u.tbls (fun m' hm=>by
  obtain ⟨o',g,i,d,l⟩:=hm
  rw [j] at d;cases d
  exact ⟨_,g,i,h,l⟩) hok q
theorem Inv.turned {t':Nat} (I:Inv X pins σ H s) (k:∀ b o,b ≠ it->s.heap.get? b=some o->h'.get? b=some o) (h:H it=none) (f:it ≠ X.env.locals) (h1:it ∈ X.ex\/X.s₀.heap.objs.size<=it) (h2:∀ x c,X.env.cells.lookup x=some c->c ≠ it) (h3:∀ p ∈ X.pn ++ pins,p.1 ≠ it):Inv X pins σ H { s with heap:=h',toks:=t' }:=by
 have d:∀ b u,H b=some u->b ≠ it:=fun b u e z=>by rw [z,h] at e;cases e
 refine I.step (g':=s.gens) (d':=s.drawn) (ch:=[it]) (fun b g=>?_) (fun b o _ _ a e _=>k b o (fun z=>a (by simp [z])) e) (fun b o _ _ a e _=>⟨o.slots,k b o (fun z=>a (by simp [z])) e⟩) (fun _ _ _ _ n=>n)
  (fun b o a e=>⟨o,k b o (fun z=>a (by simp [z])) e⟩) (fun _ _ e=>e) (fun _ _ _ e=>e) (fun b ps e=>⟨#[],by rw [e];simp⟩) (fun m hm=>?_) (fun b u e=>?_) I.bare
 ·have e:b=it:=by simpa using g
  subst e
  exact ⟨h1,f,h2,h3⟩
 ·obtain ⟨o,es,j,i,r⟩:=hm
  exact ⟨o,es,j,k _ o (Ne.symm f) i,r⟩
 ·refine (I.hok b u e).stay (fun c v a q=>k c v ?_ q) (fun _ q=>q) fun _ _ q=>q
  rcases a with z | z
  ·rw [z];exact d b u e
  ·exact d c _ z
theorem Inv.tok (I:Inv X pins σ H s) (t:Nat):Inv X pins σ H { s with toks:=t }:=I.un (h':=s.heap) (t':=t) Un.refl I.hok
theorem Inv.kept {t':Nat} (I:Inv X pins σ H s) (k:∀ b u,s.heap.get? b=some u->h'.get? b=some u):Inv X pins σ H { s with heap:=h',toks:=t' }:=I.un (Un.kept k) (I.hok.kept k)
theorem Inv.laid {t':Nat} (I:Inv X pins σ H s) (k:∀ b u,s.heap.get? b=some u->h'.get? b=some u) (c:s.heap.objs.size<=a) (new:ObjOk X.prog X.w (upd H a o) h' a o) :
  Inv X pins σ (upd H a o) { s with heap:=h',toks:=t' }:=I.un (Un.laid k c (I.hok.fresh c)) (I.hok.laid k c new)
theorem Inv.write {t':Nat} (I:Inv X pins σ H s) (c:Mut (H x)) (he:e=x\/H e=some (.own x)) (k:∀ b u,b ≠ e->s.heap.get? b=some u->h'.get? b=some u) (a:∃ u,h'.get? e=some u) (new:ObjOk X.prog X.w (upd H x o) h' x o):Inv X pins σ (upd H x o) { s with heap:=h',toks:=t' }:=I.un (Un.write c he k a) (I.hok.write c he k a new)
theorem Inv.pins_of (I:Inv X pins σ H s) (h:∀ p ∈ pins',s.heap.get? p.1=some p.2/\H p.1=none/\p.1 ≠ X.env.locals/\p.1 ∉ X.fs/\∀ v,p.2.data ≠ .cell v):Inv X pins' σ H s :=
 ⟨I.ok,I.os,I.bare,I.base,I.loc,I.cell,I.free,I.freeC,fun p a=>(BD.mp a).elim (fun z=>I.pin p (Bx _ z)) (h p),I.hok,I.len⟩
theorem mZ {N:List Str} (d:N.Nodup) {i j:Nat} (a:N[i]?=some x) (b:N[j]?=some x):i=j:=by
 obtain ⟨h1,e1⟩:=BG.mp a
 obtain ⟨h2,c⟩:=BG.mp b
 exact (List.getElem_inj d).mp (e1.trans c.symm)
theorem ky {i:Nat} (I:Inv X pins σ H s) (hN:X.N.Nodup) (hi:X.N[i]?=some x) (t:Loc X.env.scope x) (r:RelV v u) (h:∀ s',Inv X pins (σ.set i (some v)) H s'->(∃ a,Heap.SameBut a s.heap s'.heap/\(a=X.env.locals\/X.env.cells.lookup x=some a))->Q () s') (hf:X.fn x=true\/X.env.scope.names.lookup x=some .local:=by first | exact .inl rfl | exact .inr rfl | assumption):wpAny M A (storeName X.env x u) Q E s:=by
 obtain ⟨m,Z,hl⟩:=id I.loc
 have R:(X.env.scope.kind == .class || (X.env.scope.kind == .module && X.env.locals != X.env.globals))=false:=by rw [I.ok.kind];rfl
 have hiσ:i < σ.length:=by rw [I.len];exact (BG.mp hi).1
 have cne:=I.cne
 have g:∀ {a:Addr} {h':Heap},(∃ o,s.heap.get? a=some o/\H a=none)->Heap.SameBut a s.heap h'->HOk X.prog X.w H h':=fun {a h'} ha f b ob e=>by
  obtain ⟨_,_,B⟩:=ha
  refine (I.hok b ob e).stay (fun c T l q=>(f.2 c ?_).trans q) (fun _ q=>q) fun _ _ q=>q
  rintro rfl
  rcases l with rfl | l
  ·rw [B] at e;cases e
  ·rw [B] at l;cases l
 rcases t with D | D
 ·refine wpAny_storeName_local D Z (fun h' Y f=>?_) R
  obtain ⟨oL,_,_,ab,_⟩:=id Z
  refine h _ ⟨I.ok,I.os,I.bare,⟨fun b o e n G t=>?_,fun b o e n G t=>?_,I.base.free,fun b o e t=>?_,I.base.tups,I.base.frzs,I.base.tbls⟩,⟨_,Y,fun j y v' e1 C V=>?_⟩,fun y c e=>?_,I.free,I.freeC,fun p U=>?_,g ⟨oL,ab,I.free⟩ f,by simpa using I.len⟩ ⟨_,f,.inl rfl⟩
  ·exact (f.2 b (BN (BS (BC e) I.ok.above))).trans (I.base.keep b o e n G t)
  ·obtain ⟨sl,e1⟩:=I.base.slot b o e n G t
   exact ⟨sl,(f.2 b (BN (BS (BC e) I.ok.above))).trans e1⟩
  ·obtain ⟨o',e1⟩:=I.base.there b o e t
   exact ⟨o',(f.2 b (BN (BS (BC e) I.ok.above))).trans e1⟩
  ·by_cases F:j=i
   ·subst F
    rw [hi] at e1;cases e1
    rw [List.getElem?_set_self hiσ] at C
    cases C
    exact ⟨u,r,.inl ⟨D,by simp⟩⟩
   ·rw [List.getElem?_set_ne (Ne.symm F)] at C
    obtain ⟨u',r',q⟩:=hl j y v' e1 C V
    refine ⟨u',r',?_⟩
    rcases q with ⟨k,e⟩ | ⟨k,c,e,z⟩
    ·refine .inl ⟨k,?_⟩
     have:y ≠ x:=fun e=>F (mZ hN e1 (e ▸ hi))
     simp [this,e]
    ·exact .inr ⟨k,c,e,z.sameBut f (cne y c e)⟩
  ·obtain ⟨T,z⟩:=I.cell y c e
   exact ⟨T,z.sameBut f (cne y c e)⟩
  ·obtain ⟨e,n,ne,W,d⟩:=I.pin p U
   exact ⟨(f.2 p.1 ne).trans e,n,ne,W,d⟩
 ·have J:X.fn x=true:=by
   rcases hf with z | z
   ·exact z
   ·rw [z] at D;cases D
  obtain ⟨c,l⟩:=I.ok.has x (.inl D)
  obtain ⟨T,z⟩:=I.cell x c l
  refine wpAny_storeName_cell I.ok.kind D l z (fun h' L f=>?_)
  obtain ⟨oc,K,O⟩:=id z
  refine h { s with heap:=h' } ⟨I.ok,I.os,I.bare,⟨fun b o e n G t=>?_,fun b o e n G t=>?_,I.base.free,fun b o e t=>?_,I.base.tups,I.base.frzs,I.base.tbls⟩,⟨m,Z.sameBut f (Ne.symm (cne x c l)),fun j y v' e1 C V=>?_⟩,fun y S e=>?_,I.free,I.freeC,fun p U=>?_,g ⟨oc,K,I.freeC x c l⟩ f,by simpa using I.len⟩ ⟨c,f,.inr l⟩
  ·exact (f.2 b (BN (BS (BC e) (I.ok.cab x c J l)))).trans (I.base.keep b o e n G t)
  ·obtain ⟨sl,e1⟩:=I.base.slot b o e n G t
   exact ⟨sl,(f.2 b (BN (BS (BC e) (I.ok.cab x c J l)))).trans e1⟩
  ·obtain ⟨o',e1⟩:=I.base.there b o e t
   exact ⟨o',(f.2 b (BN (BS (BC e) (I.ok.cab x c J l)))).trans e1⟩
  ·by_cases F:j=i
   ·subst F
    rw [hi] at e1;cases e1
    rw [List.getElem?_set_self hiσ] at C
    cases C
    exact ⟨u,r,.inr ⟨.inl D,c,l,L⟩⟩
   ·rw [List.getElem?_set_ne (Ne.symm F)] at C
    obtain ⟨u',r',q⟩:=hl j y v' e1 C V
    refine ⟨u',r',?_⟩
    rcases q with q | ⟨k,S,e,z'⟩
    ·exact .inl q
    ·refine .inr ⟨k,S,e,z'.sameBut f ?_⟩
     rintro rfl
     exact F (mZ hN e1 (I.ok.inj _ _ _ e l ▸ hi))
  ·by_cases P:S=c
   ·subst P;exact ⟨_,L⟩
   ·obtain ⟨w2,z2⟩:=I.cell y S e
    exact ⟨w2,z2.sameBut f P⟩
  ·obtain ⟨e,n,ne,W,d⟩:=I.pin p U
   refine ⟨(f.2 p.1 ?_).trans e,n,ne,W,d⟩
   intro q
   rw [q,K] at e
   have q':oc=p.2:=Ce e
   exact d T (by rw [<- q'];exact O)
theorem gg {i:Nat} (I:Inv X pins σ H s) (c:X.N.Nodup) (hi:X.N[i]?=some x) (a:Loc X.env.scope x) (r:RelV v u) (h:∀ s',Inv X pins (σ.set i (some v)) H s'->Q () s') (hf:X.fn x=true\/X.env.scope.names.lookup x=some .local:=by first | exact .inl rfl | exact .inr rfl | assumption):wpAny M A (storeName X.env x u) Q E s :=
 ky I c hi a r (fun s' b _=>h s' b) hf
theorem Inv.call' (I:Inv X pins σ H s) (d:s'.os=s.os) (u:Un (frs X.stack) ch H H' s.heap s'.heap) (hok:HOk X.prog X.w H' s'.heap) (f:AllBare s'.gens) (a:∀ b ∈ ch,(b ∈ X.ex\/X.s₀.heap.objs.size<=b)/\b ≠ X.env.locals/\(∀ x c,X.env.cells.lookup x=some c->c ≠ b)/\∀ p ∈ X.pn ++ pins,p.1 ≠ b):Inv X pins σ H' s':=by
 obtain ⟨h',g',d',t',o'⟩:=s'
 have e:o'=s.os:=d
 subst e
 exact I.call (g':=g') (t':=t') (d':=d') u hok f a
end
abbrev XK:=Value->Option Addr->Hp->Prop
abbrev St:=List (Option V)
abbrev VK:=V->Hp->Prop
abbrev TE:=St->Hp->VK->Prop
abbrev TT:=St->Hp->(Bool->Hp->Prop)->Prop
abbrev TA:=St->Hp->(List V->Hp->Prop)->Prop
structure Ends where
 nx:St->Hp->Prop
 rt:VK
 bk:St->Hp->Prop:=fun _ _=>False
 ct:St->Hp->Prop:=fun _ _=>False
abbrev TS:=Ends->St->Hp->Prop
def EP (X:Cx) (pins:List (Addr × Obj)) (σ:St) (Q:VK) (u:Value) (s':Shared):Prop:=∃ v H',Inv X pins σ H' s'/\RelV v u/\Q v H'
def TP (X:Cx) (pins:List (Addr × Obj)) (σ:St) (Q:Bool->Hp->Prop) (b:Bool) (s':Shared):Prop:=∃ H',Inv X pins σ H' s'/\Q b H'
def AP (X:Cx) (pins:List (Addr × Obj)) (σ:St) (Q:List V->Hp->Prop) (us:List Value) (s':Shared):Prop:=∃ a H',Inv X pins σ H' s'/\Vals a us/\Q a H'
def SP (X:Cx) (pins:List (Addr × Obj)) (D:Ends) (f:Flow) (s':Shared):Prop :=
 match f with
 | .next=>∃ σ' H',Inv X pins σ' H' s'/\D.nx σ' H'
 | .brk=>∃ σ' H',Inv X pins σ' H' s'/\D.bk σ' H'
 | .cont=>∃ σ' H',Inv X pins σ' H' s'/\D.ct σ' H'
 | .ret u=>∃ v σ' H',Inv X pins σ' H' s'/\RelV v u/\D.rt v H'
def PE (X:Cx) (e:Expr) (t:TE):Prop :=
 ∀ (pins:List (Addr × Obj)) (s:Shared) (σ:St) (H:Hp) (Q:VK),Inv X pins σ H s->t σ H Q->wpAny (model X.prog X.w) X.A (eval e X.env) (EP X pins σ Q) X.xe s
def PT (X:Cx) (e:Expr) (t:TT):Prop :=
 ∀ (pins:List (Addr × Obj)) (s:Shared) (σ:St) (H:Hp) (Q:Bool->Hp->Prop),Inv X pins σ H s->t σ H Q->wpAny (model X.prog X.w) X.A (isTrue e X.env (eval e X.env)) (TP X pins σ Q) X.xe s
def PW (X:Cx) (e:Expr) (t:TT):Prop :=
 ∀ (whole:Sem Value) (pins:List (Addr × Obj)) (s:Shared) (σ:St) (H:Hp) (Q:Bool->Hp->Prop),Inv X pins σ H s->t σ H Q->wpAny (model X.prog X.w) X.A (isTrue e X.env whole) (TP X pins σ Q) X.xe s
theorem PW.pt (h:PW X e t):PT X e t:=h _
def PA (X:Cx) (es:List Expr) (t:TA):Prop :=
 ∀ (pos:Pos) (pins:List (Addr × Obj)) (s:Shared) (σ:St) (H:Hp) (Q:List V->Hp->Prop),Inv X pins σ H s->t σ H Q->wpAny (model X.prog X.w) X.A (spliced (backTo pos (starEach es X.env))) (AP X pins σ Q) X.xe s
def PS (X:Cx) (st:Stmt) (t:TS):Prop :=
 ∀ (pins:List (Addr × Obj)) (s:Shared) (σ:St) (H:Hp) (D:Ends),Inv X pins σ H s->t D σ H->wpAny (model X.prog X.w) X.A (exec st X.env) (SP X pins D) X.xe s
def PSs (X:Cx) (st:List Stmt) (t:TS):Prop :=
 ∀ (pins:List (Addr × Obj)) (s:Shared) (σ:St) (H:Hp) (D:Ends),Inv X pins σ H s->t D σ H->wpAny (model X.prog X.w) X.A (execs st X.env) (SP X pins D) X.xe s
theorem thn (h:wpAny M A t Q E s) (b:∀ a s,Q a s->Q' a s):wpAny M A t Q' E s:=wpAny_mono h b fun _ _ x=>x
end L2
namespace L2
open PySem PySem.Spec PyProof.Rows
section
variable {X:Cx}
theorem bin (l:PE X a ta) (c:PE X b tb) {R:V->V->Hp->Prop} (I:Inv X pins σ H s) (h:ta σ H fun x H1=>tb σ H1 fun y H2=>R x y H2) {Q:α->Shared->Prop} {f:Value->Value->Sem α} (hf:∀ v u s2 x y H2,Inv X pins σ H2 s2->RelV x v->RelV y u->R x y H2->wpAny (model X.prog X.w) X.A (f v u) Q X.xe s2) :
  wpAny (model X.prog X.w) X.A (eval a X.env) (fun v k=>wpAny (model X.prog X.w) X.A (eval b X.env) (fun u d=>wpAny (model X.prog X.w) X.A (f v u) Q X.xe d) X.xe k) X.xe s:=by
 refine thn (l pins s σ H _ I h) fun v s1 ⟨x,H1,g,i,e⟩=>?_
 refine thn (c pins s1 σ H1 _ g e) fun u s2 ⟨y,H2,n,m,j⟩=>?_
 exact hf v u s2 x y H2 n i m j
def qY (i:Nat):TE:=fun σ H Q=>∃ v,σ[i]?=some (some v)/\Q v H
def tC (v:V):TE:=fun _ H Q=>Q v H
theorem lH {i:Nat} (n:X.N[i]?=some x) (k:Vis X.env.scope x) (hd:(x == ("__debug__":Str))=false:=by decide) (d:(x == ("__classdict__":Str))=false:=by decide):PE X (.Name x pos) (qY i):=by
 intro pins s σ H Q I h
 obtain ⟨v,e,h⟩:=h
 obtain ⟨m,j,g⟩:=I.loc
 obtain ⟨u,r,l⟩:=g i x v n e k
 have fin:EP X pins σ Q u s:=⟨v,H,I,r,h⟩
 rcases l with ⟨b,hm⟩ | ⟨b,c,f,a⟩
 ·exact wpAny_Name (wpAny_loadName_local I.ok.kind b j hm fin) hd
 ·rcases b with b | b
  ·exact wpAny_Name (wpAny_loadName_cell I.ok.kind b f a fin) hd
  ·exact wpAny_Name (wpAny_loadName_free I.ok.kind b f a fin d) hd
theorem lI:PE X (.Constant (.int i) j pos) (tC (.int i)):=fun _ _ _ H _ I h=>wpAny_Constant_int ⟨.int i,H,I.tok _,⟨_,rfl⟩,h⟩
theorem pe_bl:PE X (.Constant (.bool b) j pos) (tC (.bl b)):=fun _ _ _ H _ I h=>Constant_bool ⟨.bl b,H,I,rfl,h⟩
theorem Al:PE X (.Constant .none j pos) (tC .non):=fun _ _ _ H _ I h=>Constant_none ⟨.non,H,I,rfl,h⟩
theorem ux:PE X (.Constant (.str x) j pos) (tC (.str x)):=fun _ _ _ H _ I h=>Calls.Constant_str ⟨.str x,H,I.tok _,⟨_,rfl⟩,h⟩
def Gl (X:Cx) (x:Str):Prop:=X.env.kindOf x=some .globalImplicit
theorem qp (I:Inv X pins σ H s) (a:Gl X x) (hm:X.mg x=some u) (h:Q u s) (hd:(x == ("__debug__":Str))=false:=by decide):wpAny (model X.prog X.w) X.A (eval (.Name x pos) X.env) Q E s :=
 Calls.Name_function_global I.ok.kind a (Calls.loadGlobal_global (by rw [I.ok.glob];exact I.mod.glob.keeps I.bk) hm h) hd
theorem iN (I:Inv X pins σ H s) (a:Gl X x) (hm:X.mg x=none) (c:bootBuiltins x=some u) (h:Q u s) (b:x ≠ "__name__":=by decide) (hd:(x == ("__debug__":Str))=false:=by decide):wpAny (model X.prog X.w) X.A (eval (.Name x pos) X.env) Q E s:=by
 obtain ⟨mb,h1,h2⟩:=I.mod.blt
 exact Calls.Name_function_global I.ok.kind a (Calls.loadGlobal_builtin (by rw [I.ok.glob];exact I.mod.glob.keeps I.bk) hm (by rw [I.ok.blt];exact h1.keeps I.bk) ((h2 x b).trans c) h) hd
theorem xu (a:Gl X x) (hm:X.mg x=some u) (r:RelV v u) (hd:(x == ("__debug__":Str))=false:=by decide):PE X (.Name x pos) (tC v) :=
 fun _ _ _ H _ I h=>qp I a hm ⟨v,H,I,r,h⟩ hd
theorem lJ (a:Gl X x) (hm:X.mg x=none) (c:bootBuiltins x=some u) (r:RelV v u) (b:x ≠ "__name__":=by decide) (hd:(x == ("__debug__":Str))=false:=by decide):PE X (.Name x pos) (tC v) :=
 fun _ _ _ H _ I h=>iN I a hm c ⟨v,H,I,r,h⟩ b hd
variable {a b:Expr} {ta tb:TE} {pos:Pos}
def PC (X:Cx) (op:CmpOp) (a b:Expr) (t:TE):Prop :=
 ∀ (pins:List (Addr × Obj)) (s:Shared) (σ:St) (H:Hp) (Q:VK),Inv X pins σ H s->t σ H Q ->
  wpAny (model X.prog X.w) X.A (eval a X.env) (fun v c=>wpAny (model X.prog X.w) X.A (eval b X.env) (fun u d=>wpAny (model X.prog X.w) X.A (compareOp op v u) (EP X pins σ Q) X.xe d) X.xe c) X.xe s
def tB (t:TE):TT:=fun σ H Q=>t σ H fun x H1=>∃ c,x=.bl c/\Q c H1
theorem Aa (h:PE X e t) (he:∀ whole,isTrue e X.env whole=(do let v <- whole;standAt e.pos;holding [v] (truthy v)):=by intro _;rfl):PT X e (tB t):=by
 intro pins s σ H Q I hw
 refine isTrue_plain (thn (h pins s σ H _ I hw) fun v s1 ⟨x,H1,b,c,a⟩=>?_) (he _)
 obtain ⟨d,rfl,q⟩:=a
 cases c
 exact B7 ⟨H1,b,q⟩
variable {tA tB':TT} {eK:List Expr}
def tOr (t u:TT):TT:=fun σ H Q=>t σ H fun c H1=>if c=true then Q true H1 else u σ H1 Q
def tNot (t:TT):TT:=fun σ H Q=>t σ H fun c H1=>Q (!c) H1
theorem z8 (b:PT X a tA):PW X (.BoolOp .Or [a] pos) tA:=by
 intro wh pins s σ H Q I h
 refine isTrue_or (thn (b pins s σ H Q I h) fun c s1 e=>?_)
 cases c with
 | false=>exact isTrue_or_nil e
 | true=>exact e
theorem pw_or (f:PT X a tA) (g:PW X (.BoolOp .Or (b :: eK) pos) tB'):PW X (.BoolOp .Or (a :: b :: eK) pos) (tOr tA tB'):=by
 intro wh pins s σ H Q I h
 refine isTrue_or (thn (f pins s σ H _ I h) fun c s1 ⟨H1,e,d⟩=>?_)
 cases c with
 | true=>exact ⟨H1,e,d⟩
 | false=>exact g wh pins s1 σ H1 Q e d
theorem lF (b:PT X a tA):PT X (.UnaryOp .Not a pos) (tNot tA):=by
 intro pins s σ H Q I h
 exact isTrue_not (b pins s σ H (fun c H1=>Q (!c) H1) I h)
def yF (ta tb:TE):TE:=fun σ H Q=>ta σ H fun x H1=>∃ c,x=.bl c/\if c=true then tb σ H1 Q else Q (.bl false) H1
def yz (ta:TE):TE:=fun σ H Q=>ta σ H fun x H1=>∃ c,x=.bl c/\Q (.bl (!c)) H1
theorem Aj (h:PE X a t):PE X (.BoolOp op [a] pos) t:=fun pins s σ H Q I hw=>BoolOp_one (h pins s σ H Q I hw)
theorem Ap (i:PE X a ta) (f:PE X (.BoolOp .And (b :: eK) pos) tb):PE X (.BoolOp .And (a :: b :: eK) pos) (yF ta tb):=by
 intro pins s σ H Q I h
 refine BoolOp_and (thn (i pins s σ H _ I h) fun v s1 ⟨x,H1,e,g,d⟩=>?_)
 obtain ⟨c,rfl,d⟩:=d
 cases g
 refine B7 ?_
 cases c with
 | true=>exact f pins s1 σ H1 Q e d
 | false=>exact ⟨.bl false,H1,e,rfl,d⟩
theorem Ak (d:PE X a ta):PE X (.UnaryOp .Not a pos) (yz ta):=by
 intro pins s σ H Q I h
 refine UnaryOp_ (thn (d pins s σ H _ I h) fun v s1 ⟨x,H1,e,f,b⟩=>?_)
 obtain ⟨c,rfl,b⟩:=b
 cases f
 exact not_of (B7 ⟨.bl (!c),H1,e,rfl,b⟩)
end
end L2
namespace L2
open PySem PySem.Spec PyProof.Rows
def SqL (K:FG) (H:Hp) (a:Addr) (xs:List V):Prop :=
 Rd H a (.lst xs) \/
  ∃ (o:Obj) (its:Array Value) (n:Nat),K.lookup a=some o/\o.cls=.type "list"/\o.dict=none/\o.data=.seq its n/\its.size<=sizeLine/\Vals xs its.toList
def SqT (K:FG) (H:Hp) (a:Addr) (xs:List V):Prop :=
 Rd H a (.tup xs) \/
  ∃ (o:Obj) (its:Array Value) (n:Nat),K.lookup a=some o/\o.cls=.type "tuple"/\o.data=.seq its n/\its.size<=sizeLine/\Vals xs its.toList
def absV:Value->Option V
 | .none=>some .non
 | .bool b=>some (.bl b)
 | .int i _=>some (.int i)
 | .str x _=>some (.str x)
 | .bytes b _=>some (.byt b)
 | .float b _=>some (.flt b)
 | .ref a=>some (.ref a)
 | .type n=>some (.ty n)
 | _=>none
theorem RelV.abs (r:RelV x u):absV u=some x:=by
 cases x with
 | non=>cases r;rfl
 | bl _=>cases r;rfl
 | int _=>obtain ⟨t,rfl⟩:=r;rfl
 | str _=>obtain ⟨t,rfl⟩:=r;rfl
 | byt _=>obtain ⟨t,rfl⟩:=r;rfl
 | flt _=>obtain ⟨t,rfl⟩:=r;rfl
 | ref _=>cases r;rfl
 | ty _=>cases r;rfl
theorem RelV.inj (r:RelV x u) (q:RelV y u):x=y:=Ce (r.abs.symm.trans q.abs)
theorem Vals.inj:∀ {xs ys:List V} {us:List Value},Vals xs us->Vals ys us->xs=ys
 | _,_,_,.nil,.nil=>rfl
 | _,_,_,.cons r t,.cons r' t'=>by rw [r.inj r',Vals.inj t t']
section
variable {X:Cx} {pins:List (Addr × Obj)} {σ:St} {H:Hp} {s:Shared} {a:Addr} {xs ys:List V}
theorem SqL.of {K:FG} (h:H a=some (.lst xs)):SqL K H a xs:=.inl (.inl h)
theorem SqT.of {K:FG} (h:H a=some (.tup xs)):SqT K H a xs:=.inl (.inl h)
theorem Inv.list (I:Inv X pins σ H s) (h:SqL X.K H a xs):∃ its:List Value,Vals xs its/\PlainL s.heap a its.toArray/\xs.length<=sizeLine:=by
 rcases h with h | ⟨o,its,n,d,b,hd,c,hz,r⟩
 ·obtain ⟨z,its,n,r,e⟩:=h.ok I.hok
  exact ⟨its,r,⟨_,n,e,rfl,rfl,rfl⟩,z⟩
 ·refine ⟨its.toList,r,⟨o,n,I.kIn a o d,b,hd,by simpa using c⟩,?_⟩
  have e:=r.length
  simp only [Array.length_toList] at e
  omega
theorem Inv.tuple (I:Inv X pins σ H s) (h:SqT X.K H a xs):∃ its:List Value,Vals xs its/\IsTup s.heap a its.toArray/\xs.length<=sizeLine:=by
 rcases h with h | ⟨o,its,n,d,b,c,hz,r⟩
 ·obtain ⟨z,its,r,p⟩:=h.ok I.hok
  exact ⟨its,r,p.tup,z⟩
 ·refine ⟨its.toList,r,⟨o,I.kIn a o d,b,n,by simpa using c⟩,?_⟩
  have e:=r.length
  simp only [Array.length_toList] at e
  omega
theorem Inv.list_inj (I:Inv X pins σ H s) (h:SqL X.K H a xs) (h':SqL X.K H a ys):xs=ys:=by
 obtain ⟨its,r,⟨o,n,e,_,_,d⟩,_⟩:=I.list h
 obtain ⟨its',c,⟨o',f,b,_,_,d'⟩,_⟩:=I.list h'
 rw [e] at b;cases b
 rw [d] at d'
 injection d' with d1 _
 have:its=its':=by simpa using congrArg Array.toList d1
 subst this
 exact r.inj c
theorem Inv.tuple_inj (I:Inv X pins σ H s) (h:SqT X.K H a xs) (h':SqT X.K H a ys):xs=ys:=by
 obtain ⟨its,r,⟨o,e,_,n,d⟩,_⟩:=I.tuple h
 obtain ⟨its',c,⟨o',b,_,f,d'⟩,_⟩:=I.tuple h'
 rw [e] at b;cases b
 rw [d] at d'
 injection d' with d1 _
 have:its=its':=by simpa using congrArg Array.toList d1
 subst this
 exact r.inj c
end
abbrev Cx.wish (X:Cx) (E:Value->Shared->Prop):Cx:={ X with xe:=E }
abbrev Cx.nox (X:Cx):Cx:=X.wish fun _ _=>False
theorem Cx.Ok.wish {X:Cx} (ok:X.Ok) (E:Value->Shared->Prop):(X.wish E).Ok :=
 ⟨ok.mod,ok.kind,ok.glob,ok.blt,ok.above,ok.inj,ok.has,ok.cab,ok.hd,ok.frames,ok.stk,ok.exf,ok.bs,ok.bsz,ok.noex,ok.exfs,ok.funs,ok.frf⟩
theorem Cx.Ok.unwish {X:Cx} (ok:(X.wish E).Ok):X.Ok :=
 ⟨ok.mod,ok.kind,ok.glob,ok.blt,ok.above,ok.inj,ok.has,ok.cab,ok.hd,ok.frames,ok.stk,ok.exf,ok.bs,ok.bsz,ok.noex,ok.exfs,ok.funs,ok.frf⟩
section
variable {X:Cx} {pins:List (Addr × Obj)} {σ:St} {H:Hp} {s:Shared} {E:Value->Shared->Prop}
theorem Inv.wish (I:Inv X pins σ H s) (E:Value->Shared->Prop):Inv (X.wish E) pins σ H s:=⟨I.ok.wish E,I.os,I.bare,I.base,I.loc,I.cell,I.free,I.freeC,I.pin,I.hok,I.len⟩
theorem Inv.unwish (I:Inv (X.wish E) pins σ H s):Inv X pins σ H s:=⟨I.ok.unwish,I.os,I.bare,I.base,I.loc,I.cell,I.free,I.freeC,I.pin,I.hok,I.len⟩
theorem SP.unwish (h:SP (X.wish E) pins D f s'):SP X pins D f s':=by
 cases f with
 | next=>obtain ⟨σ',H',I,q⟩:=h;exact ⟨σ',H',I.unwish,q⟩
 | brk=>obtain ⟨σ',H',I,q⟩:=h;exact ⟨σ',H',I.unwish,q⟩
 | cont=>obtain ⟨σ',H',I,q⟩:=h;exact ⟨σ',H',I.unwish,q⟩
 | ret u=>obtain ⟨v,σ',H',I,r,q⟩:=h;exact ⟨v,σ',H',I.unwish,r,q⟩
theorem PSs.nox {st:List Stmt} (h:PSs X.nox st t):PSs X st t:=fun pins s σ H D I hw =>
 wpAny_mono (h pins s σ H D (I.wish _) hw) (fun _ _ q=>q.unwish) fun _ _ z=>False.elim z
end
section
variable {X:Cx} {st:Stmt} {eK:List Stmt} {t u:TS} {e:Expr} {te:TE} {pos:Pos}
def yA:TS:=fun D σ H=>D.nx σ H
def tSeq (t u:TS):TS:=fun D σ H=>t { D with nx:=u D } σ H
theorem xk:PSs X [] yA:=fun _ _ σ H _ I h=>wpAny_execs_nil ⟨σ,H,I,h⟩
theorem uj (h1:PS X st t) (h2:PSs X eK u):PSs X (st :: eK) (tSeq t u):=by
 intro pins s σ H D I h
 refine wpAny_execs_cons (thn (h1 pins s σ H { D with nx:=u D } I h) fun f s1 q=>?_)
 cases f with
 | next =>
  obtain ⟨σ',H',a,q⟩:=q
  exact h2 pins s1 σ' H' D a q
 | ret v=>exact q
 | brk=>exact q
 | cont=>exact q
theorem xj (h1:PS X st t):PSs X [st] t:=by
 intro pins s σ H D I h
 refine wpAny_execs_cons (thn (h1 pins s σ H D I h) fun f s1 q=>?_)
 cases f with
 | next=>exact wpAny_execs_nil q
 | ret v=>exact q
 | brk=>exact q
 | cont=>exact q
theorem Inv.quiet (I:Inv X pins σ H s):interactive X.env=false:=by simp [interactive,I.ok.kind]
def yC (te:TE):TS:=fun D σ H=>te σ H fun _ H1=>D.nx σ H1
theorem xl (he:PE X e te) (a:swapsWith e none pos.line X.env=pure false:=by rfl):PS X (.Expr e pos) (yC te):=by
 intro pins s σ H D I h
 exact wpAny_Expr_any (thn (he pins s σ H _ I h) fun v s1 ⟨x,H1,c,d,b⟩=>⟨σ,H1,c,b⟩) I.quiet a
def tRet (te:TE):TS:=fun D σ H=>te σ H D.rt
theorem Ac (he:PE X e te):PS X (.Return (some e) pos) (tRet te):=by
 intro pins s σ H D I h
 exact wpAny_Return_some (thn (he pins s σ H _ I h) fun v s1 ⟨x,H1,b,c,a⟩=>⟨x,σ,H1,b,c,a⟩)
def tIfS (c:TT) (t u:TS):TS:=fun D σ H=>c σ H fun b H1=>if b=true then t D σ H1 else u D σ H1
theorem ps_if (i:PT X c tc) (g:PSs X a t) (j:PSs X b u):PS X (.If c a b pos) (tIfS tc t u):=by
 intro pins s σ H D I h
 refine wpAny_If (thn (i pins s σ H _ I h) fun d s1 ⟨H1,f,e⟩=>?_)
 cases d with
 | true=>exact g pins s1 σ H1 D f e
 | false=>exact j pins s1 σ H1 D f e
end
abbrev TG:=V->St->Hp->(St->Hp->Prop)->Prop
abbrev TGs:=List V->St->Hp->(St->Hp->Prop)->Prop
def PG (X:Cx) (target:Expr) (t:TG):Prop :=
 ∀ (pins:List (Addr × Obj)) (s:Shared) (σ:St) (H:Hp) (v:V) (u:Value) (Q:St->Hp->Prop),Inv X pins σ H s->RelV v u->t v σ H Q ->
  wpAny (model X.prog X.w) X.A (assign target X.env u) (fun _ s'=>∃ σ' H',Inv X pins σ' H' s'/\Q σ' H') X.xe s
def PGs (X:Cx) (ts:List Expr) (t:TGs):Prop :=
 ∀ (pins:List (Addr × Obj)) (s:Shared) (σ:St) (H:Hp) (a:List V) (us:List Value) (Q:St->Hp->Prop),Inv X pins σ H s->Vals a us->t a σ H Q ->
  wpAny (model X.prog X.w) X.A (assignInOrder ((assignEach ts X.env).map (·.2)) us) (fun _ s'=>∃ σ' H',Inv X pins σ' H' s'/\Q σ' H') X.xe s
abbrev Bm:=V->V->V->Hp->(Hp->Prop)->Prop
def wc (X:Cx) (t:Bm):Prop :=
 ∀ (pins:List (Addr × Obj)) (s:Shared) (σ:St) (H:Hp) (o i v:V) (ov a u:Value) (Q:Hp->Prop),Inv X pins σ H s->RelV o ov->RelV i a->RelV v u->t o i v H Q ->
  wpAny (model X.prog X.w) X.A (setItem ov a u) (fun _ s'=>∃ H',Inv X pins σ H' s'/\Q H') X.xe s
section
variable {X:Cx} {pos:Pos}
def qy (i:Nat):TG:=fun v σ H Q=>Q (σ.set i (some v)) H
theorem jv {i:Nat} (c:X.N.Nodup) (hi:X.N[i]?=some x) (a:Loc X.env.scope x) (hf:X.fn x=true\/X.env.scope.names.lookup x=some .local:=by first | exact .inl rfl | exact .inr rfl | assumption):PG X (.Name x pos) (qy i):=by
 intro pins s σ H v u Q I r h
 exact wpAny_assign_Name (gg I c hi a r (fun s' b=>⟨_,H,b,h⟩) hf)
def gNil:TGs:=fun a σ H Q=>a=[]/\Q σ H
def yW (t:TG) (u:TGs):TGs:=fun a σ H Q=>∃ v r,a=v :: r/\t v σ H fun σ' H'=>u r σ' H' Q
theorem qe:PGs X [] gNil:=by
 intro pins s σ H a us Q I r h
 obtain ⟨e,h⟩:=h
 subst e
 cases r
 exact assignInOrder_nil ⟨σ,H,I,h⟩
theorem jP (h1:PG X e t) (h2:PGs X es u) (a:(assignEach (e :: es) X.env).map (·.2)=assign e X.env :: (assignEach es X.env).map (·.2):=by rfl):PGs X (e :: es) (yW t u):=by
 intro pins s σ H d us Q I r h
 obtain ⟨v,f,e1,h⟩:=h
 subst e1
 cases r with
 | cons r rr =>
  rw [a]
  refine assignInOrder_cons (thn (h1 pins s σ H _ _ _ I r h) fun _ s1 ⟨σ1,H1,c,b⟩=>?_)
  exact h2 pins s1 σ1 H1 _ _ Q c rr b
def gTup (K:FG) (n:Nat) (t:TGs):TG:=fun v σ H Q=>∃ a xs,v=.ref a/\SqT K H a xs/\xs.length=n/\t xs σ H Q
theorem uu {k:Nat} {n:Nat} (g:X.calm=true) (h:PGs X es t) (m:(assignEach es X.env).length=n:=by rfl) (c:(assignEach es X.env).findIdx? (·.1)=none:=by rfl):PG X (.Tuple es k pos) (gTup X.K n t):=by
 intro pins s σ H v u Q I r hw
 obtain ⟨a,xs,e1,i,l,hw⟩:=hw
 subst e1
 cases r
 obtain ⟨its,d,j,hz⟩:=I.tuple i
 refine assign_Tuple_tuple (I.ok.hd g) j (by simp [m,<- l,d.length]) c fun h' f=>?_
 have p:Inv X pins σ H { s with heap:=h' }:=I.kept (t':=s.toks) fun b o e=>f b o (BN (BC e)) e
 exact h pins _ σ H xs _ Q p (by simpa using d) hw
def gSub (to b:TE) (t:Bm):TG:=fun v σ H Q=>to σ H fun o H1=>b σ H1 fun i H2=>t o i v H2 fun a=>Q σ a
theorem Ai (j:PE X o to) (hi:PE X i ti) (c:wc X t) (l:∀ v,assign (.Subscript o i pos) X.env v=(do
   let ov <- holding [v] (eval o X.env)
   let a <- holding [v,ov] (eval i X.env)
   standAt pos
   holding [v,ov,a] (setItem ov a v)
   release [v,ov,a] []):=by intro _;rfl):PG X (.Subscript o i pos) (gSub to ti t):=by
 intro pins s σ H v u Q I r h
 rw [l]
 refine Bq (Bs (thn (j pins s σ H _ I h) fun ov s1 ⟨x,H1,e,g,d⟩=>?_))
 refine Bq (Bs (thn (hi pins s1 σ H1 _ e d) fun a s2 ⟨y,H2,p,m,f⟩=>?_))
 refine Bq (wpAny_standAt (Bq (Bs (thn (c pins s2 σ H2 x y v ov a u _ p g m r f) fun _ s3 ⟨n,b,k⟩=>?_))))
 exact wpAny_release ⟨σ,n,b,k⟩
def sY (te:TE) (g:TG):TS:=fun D σ H=>te σ H fun x H1=>g x σ H1 D.nx
theorem ul (he:PE X e te) (f:PG X tg g) (a:swapsWithSole [tg] e pos.line X.env=pure false:=by rfl) (hw:swappedStores [tg] e X.env=pure none:=by rfl) (h1:(assignEach [tg] X.env).map (·.2)=[assign tg X.env]:=by rfl):PS X (.Assign [tg] e pos) (sY te g):=by
 intro pins s σ H D I h
 refine wpAny_Assign_stores (thn (he pins s σ H _ I h) fun v s1 ⟨x,H1,c,d,b⟩=>?_) a hw
 rw [h1]
 exact thn (f pins s1 σ H1 x v _ c d b) fun _ s2 q=>q
theorem Ab {i:Nat} (j:X.N.Nodup) (hi:X.N[i]?=some x) (a:Loc X.env.scope x) (he:PE X e te) (b:swapsWith e (some (.Name x pos')) pos.line X.env=pure false:=by rfl) (hf:X.fn x=true\/X.env.scope.names.lookup x=some .local:=by first | exact .inl rfl | exact .inr rfl | assumption) :
  PS X (.Assign [.Name x pos'] e pos) (sY te (qy i)):=by
 intro pins s σ H D I h
 refine wpAny_Assign_Name (thn (he pins s σ H _ I h) fun v s1 ⟨y,H1,d,f,c⟩=>?_) b
 exact gg d j hi a f (fun s2 g=>⟨_,H1,g,c⟩) hf
def tPar (i j:Nat) (ta:TA):TS:=fun D σ H=>ta σ H fun a H1=>∃ v w,a=[v,w]/\D.nx ((σ.set i (some v)).set j (some w)) H1
theorem Ad {i j:Nat} (G:X.calm=true) (r:X.N.Nodup) (hi:X.N[i]?=some x) (z:X.N[j]?=some y) (k:i ≠ j) (m:X.env.scope.names.lookup x=some .local) (t:X.env.scope.names.lookup y=some .local) (C:PA X [a,b] ta) (hw:swappedStores [.Tuple [.Name x px,.Name y py] kt pt] (.Tuple [a,b] k2 pt2) X.env=pure (some [x,y])) (J:swapsWithSole [.Tuple [.Name x px,.Name y py] kt pt] (.Tuple [a,b] k2 pt2) pos.line X.env=pure false:=by rfl) :
  PS X (.Assign [.Tuple [.Name x px,.Name y py] kt pt] (.Tuple [a,b] k2 pt2) pos) (tPar i j ta):=by
 intro pins s σ H D I h
 rw [exec_Assign_arm]
 refine Bq (wpAny_standAt ?_)
 rw [J]
 refine Bq (Br ?_)
 rw [if_neg (by decide)]
 refine Bq (Tuple_ (thn (C _ pins s σ H _ I h) fun us s1 ⟨M,H1,K,B,g⟩=>?_))
 obtain ⟨v,w,e1,g⟩:=g
 subst e1
 obtain ⟨d,c,rfl,E,l⟩:∃ d c,us=[d,c]/\RelV v d/\RelV w c:=by
  cases B with
  | cons p q =>
   cases q with
   | cons p' q' =>
    cases q'
    exact ⟨_,_,rfl,p,p'⟩
 refine wpAny_newObj_type ?_ (by show 2<=sizeLine;decide)
 have L:Inv X pins σ H1 { s1 with heap:=s1.heap.push { cls:=.type "tuple",data:=.seq [d,c].toArray } }:=K.kept (t':=s1.toks) fun b o e=>Bv _ e
 rw [hw]
 refine Bq (Br ?_)
 show wpAny (model X.prog X.w) X.A (do rule "assign.swapped-stores";let items <- unpackItems (.ref s1.heap.objs.size) 2 none;assignInOrder [fun v=>bindName X.env y v,fun v=>bindName X.env x v] items.reverse;pure Flow.next) _ _ _
 refine Bq (wpAny_rule (Bq (unpackItems_tuple (items:=#[d,c]) (I.ok.hd G) (IsTup.new s1.heap _) fun h' f=>?_)))
 have u:=L.kept (h':=h') (t':=s1.toks) fun b o e=>f b o (BN (BC e)) e
 show wpAny _ _ (assignInOrder [fun v=>bindName X.env y v,fun v=>bindName X.env x v] [c,d] >>= fun _=>pure Flow.next) _ _ _
 refine Bq (assignInOrder_cons (wpAny_bindName (gg u r z (.inl t) l (fun s2 F=>?_) (.inr t))))
 refine assignInOrder_cons (wpAny_bindName (gg F r hi (.inl m) E (fun s3 n=>assignInOrder_nil (Br ?_)) (.inr m)))
 rw [List.set_comm _ _ (Ne.symm k)] at n
 exact ⟨_,H1,n,g⟩
end
section
variable {X:Cx} {pos:Pos}
def sU (c:TT) (tb:TS):TS:=fun D σ H=>∃ W:Nat->St->Hp->Prop,(∃ m,W m σ H)/\∀ m σ H,W m σ H ->
 c σ H fun b H1=>if b=true then ∃ N:St->Hp->Prop,(∀ σ' H',N σ' H'->∃ m',m' < m/\W m' σ' H')/\tb { D with nx:=N,ct:=N,bk:=D.nx } σ H1 else D.nx σ H1
theorem uk (k:PassesOwn (model X.prog X.w) X.A X.env X.xe) (p:PT X c tc) (q:PSs X body tb):PS X (.While c body [] pos) (sU tc tb):=by
 intro pins s σ H D I h
 obtain ⟨W,⟨m0,o⟩,turn⟩:=h
 refine wpAny_While (codeAny_whileLoop (fun n s'=>∃ σ' H',Inv X pins σ' H' s'/\W n σ' H') ?_ m0 ⟨σ,H,I,o⟩)
 rintro n s1 ⟨σ1,H1,r,t⟩
 refine wpAny_passesOwn k (thn (p pins s1 σ1 H1 _ r (turn n σ1 H1 t)) fun b s2 ⟨H2,m,d⟩=>?_)
 cases b with
 | true =>
  obtain ⟨N,l,d⟩:=d
  rw [if_pos rfl]
  refine wpAny_passesOwn k (thn (q pins s2 σ1 H2 _ m d) fun f s3 e=>?_)
  cases f with
  | next =>
   obtain ⟨σ3,a,g,j⟩:=e
   obtain ⟨m',hm,i⟩:=l σ3 a j
   exact ⟨m',hm,σ3,a,g,i⟩
  | cont =>
   obtain ⟨σ3,a,g,j⟩:=e
   obtain ⟨m',hm,i⟩:=l σ3 a j
   exact ⟨m',hm,σ3,a,g,i⟩
  | brk=>exact e
  | ret v=>exact e
 | false =>
  rw [if_neg BM]
  exact wpAny_execs_nil ⟨σ1,H2,m,d⟩
end
structure It where
 go:Nat->Hp->Prop
 yld:Nat->Hp->V->Hp->Prop
 stop:Nat->Hp->Prop
def FpOk (X:Cx) (pins:List (Addr × Obj)) (H:Hp) (b:Addr):Prop :=
 H b=none/\b ≠ X.env.locals/\b ∉ X.fs/\(b ∈ X.ex\/X.s₀.heap.objs.size<=b)/\(∀ x c,X.env.cells.lookup x=some c->c ≠ b)/\∀ p ∈ X.pn ++ pins,p.1 ≠ b
theorem Inv.fpOk (I:Inv X pins σ H s) (a:s.heap.objs.size<=b) (f:H' b=none):FpOk X pins H' b:=by
 refine ⟨f,Nat.ne_of_gt (BS I.lt a),I.nofs a,.inr (B8 I.sz a),fun x c e z=>?_,fun p d z=>?_⟩
 ·obtain ⟨v,q⟩:=I.cell x c e
  exact absurd (BS q.lt (by rw [z];exact a)) (Nat.lt_irrefl _)
 ·exact absurd (BS (BC (I.pin p d).1) (by rw [z];exact a)) (Nat.lt_irrefl _)
structure Turn (P:Program) (w:World) (K:FG) (tg:Expr) (J:It) (fp:List Addr) (it:Addr) (tn:Nat->Heap->Prop):Prop where
 mem:it ∈ fp
 obj:∀ i h,tn i h->∀ b ∈ fp,∃ o,h.get? b=some o/\∀ v,o.data ≠ .cell v
 keep:∀ i h h',tn i h->(∀ b ∈ fp,∀ o,h.get? b=some o->h'.get? b=some o)->tn i h'
 item:∀ (X:Cx),X.prog=P->X.w=w->X.K=K->X.calm=true->∀ (i:Nat) (pins:List (Addr × Obj)) (s:Shared) (σ:St) (H:Hp) (E:Value->Shared->Prop),Inv X pins σ H s->(∀ b ∈ fp,FpOk X pins H b)->tn i s.heap->J.go i H ->
  wpAny (model P w) X.A (pyNext (.ref it)) (fun r s1=>∃ u,r=some u /\
   wpAny (model P w) X.A (letOwnedTupleGo tg (.ref it) u) (fun _ s2=>∃ x H',Inv X pins σ H' s2/\RelV x u/\J.yld i H x H'/\tn (i+1) s2.heap/\∀ b ∈ fp,H' b=none) E s1) E s
 done:∀ (X:Cx),X.prog=P->X.w=w->X.K=K->X.calm=true->∀ (i:Nat) (pins:List (Addr × Obj)) (s:Shared) (σ:St) (H:Hp) (E:Value->Shared->Prop),Inv X pins σ H s->(∀ b ∈ fp,FpOk X pins H b)->tn i s.heap->J.stop i H ->
  wpAny (model P w) X.A (pyNext (.ref it)) (fun r s1=>r=none/\Inv X pins σ H s1) E s
 self:∀ (A:Around) (i:Nat) (s:Shared) (Q:Value->Shared->Prop) (E:Value->Shared->Prop),tn i s.heap->Q (.ref it) s->wpAny (model P w) A (pyIter (.ref it)) Q E s
abbrev TI:=St->Hp->(It->Hp->Prop)->Prop
def PIE (X:Cx) (pins:List (Addr × Obj)) (σ:St) (tg:Expr) (R:It->Hp->Prop) (a:Value) (s2:Shared):Prop :=
 ∃ (it:Addr) (fp:List Addr) (c:Nat->Heap->Prop) (J:It) (H':Hp),a=.ref it/\Inv X pins σ H' s2/\Turn X.prog X.w X.K tg J fp it c/\c 0 s2.heap/\(∀ b ∈ fp,FpOk X pins H' b)/\R J H'
def PI (X:Cx) (tg iter:Expr) (a:TI):Prop :=
 ∀ (pins:List (Addr × Obj)) (s:Shared) (σ:St) (H:Hp) (R:It->Hp->Prop),Inv X pins σ H s->a σ H R ->
  wpAny (model X.prog X.w) X.A (eval iter X.env) (fun v s1=>wpAny (model X.prog X.w) X.A (pyIter v) (PIE X pins σ tg R) X.xe s1) X.xe s
theorem vg (d : s.heap.get? it = some o) (c : o.cls = .type n) (hd : o.data = .fields vs) (b : ["enumerate", "zip", "dict_itemiterator", "dict_reverseitemiterator", "odict_iterator", "itertools.zip_longest", "itertools.pairwise"].contains n = false) (a : Q () s) : wpAny M A (letOwnedTupleGo tg (.ref it) u) Q E s := by
  unfold letOwnedTupleGo
  cases tg <;> first
    | exact Br a
    | (cases u <;> first
        | exact Br a
        | (refine Bq (wpAny_load d ?_)
           rw [c, hd]
           show wpAny M A (if (["enumerate", "zip", "dict_itemiterator", "dict_reverseitemiterator", "odict_iterator", "itertools.zip_longest", "itertools.pairwise"].contains n && vs[0]? == some (rawInt _)) = true then _ else _) Q E s
           rw [if_neg (by intro h; rw [b, Bool.false_and] at h; cases h)]
           exact Br a))
def Itl (K:FG) (a:Addr):It :=
 ⟨fun i H=>∃ xs x,SqL K H a xs/\xs[i]?=some x,fun i H x H'=>H'=H/\∀ xs,SqL K H a xs->xs[i]?=some x,fun i H=>∃ xs,SqL K H a xs/\xs.length<=i⟩
def Itt (K:FG) (a:Addr):It :=
 ⟨fun i H=>∃ xs x,SqT K H a xs/\xs[i]?=some x,fun i H x H'=>H'=H/\∀ xs,SqT K H a xs->xs[i]?=some x,fun i H=>∃ xs,SqT K H a xs/\xs.length<=i⟩
def Itr (lo:Int) (n:Nat):It:=⟨fun i _=>i < n,fun i H x H'=>H'=H/\x=.int (lo+i),fun i _=>n<=i⟩
theorem qV {P:Program} {w:World} {K:FG} {tg:Expr} (a it:Addr):Turn P w K tg (Itl K a) [it] it (fun i h=>h.IsListIter it a i) where
 mem:=by simp
 obj:=fun i h st b f=>by
  have e:b=it:=by simpa using f
  subst e
  obtain ⟨o,e,c,d⟩:=st
  exact ⟨o,e,fun v z=>by rw [d] at z;cases z⟩
 keep:=fun i h h' st k=>st.at fun o e=>k it (by simp) o e
 item:=by
  intro X n hw r A i pins s σ H E I hf st t
  subst n hw r
  obtain ⟨xs,x,j,l⟩:=t
  obtain ⟨its,q,p,hz⟩:=I.list j
  obtain ⟨u,hu,C⟩:=q.get l
  obtain ⟨f0,f1,f2,m,f4,y⟩:=hf it (by simp)
  refine wpAny_pyNext_list_item st p.isList (x:=u) (by simpa using hu) fun h' g sb=>?_
  have F:Inv X pins σ H { s with heap:=h' }:=I.turned (t':=s.toks) (fun b o f e=>(sb.2 b f).trans e) f0 f1 m f4 y
  obtain ⟨o,e,c,d⟩:=id g
  exact ⟨u,rfl,vg (s:={ s with heap:=h' }) e c d (by decide) ⟨x,H,F,C,⟨rfl,fun ys D=>by rw [I.list_inj D j];exact l⟩,g,fun b f=>(hf b f).1⟩⟩
 done:=by
  intro X n hw r A i pins s σ H E I hf st t
  subst n hw r
  obtain ⟨xs,j,l⟩:=t
  obtain ⟨its,q,p,hz⟩:=I.list j
  obtain ⟨f0,f1,f2,m,f4,y⟩:=hf it (by simp)
  have G:=q.length
  exact wpAny_pyNext_list_end (I.ok.hd A) st p.isList (by simp;omega) fun h' B=>⟨rfl,I.turned (t':=s.toks) (fun b o f e=>B b o f e) f0 f1 m f4 y⟩
 self:=fun _ _ _ _ _ st h=>wpAny_pyIter_listiter st h
theorem n9 {P:Program} {w:World} {K:FG} {tg:Expr} (a it:Addr):Turn P w K tg (Itt K a) [it] it (fun i h=>h.IsTupleIter it a i) where
 mem:=by simp
 obj:=fun i h st b f=>by
  have e:b=it:=by simpa using f
  subst e
  obtain ⟨o,e,c,d⟩:=st
  exact ⟨o,e,fun v z=>by rw [d] at z;cases z⟩
 keep:=fun i h h' st k=>st.at fun o e=>k it (by simp) o e
 item:=by
  intro X n hw r A i pins s σ H E I hf st t
  subst n hw r
  obtain ⟨xs,x,j,l⟩:=t
  obtain ⟨its,q,p,hz⟩:=I.tuple j
  obtain ⟨u,hu,C⟩:=q.get l
  obtain ⟨f0,f1,f2,m,f4,y⟩:=hf it (by simp)
  refine wpAny_pyNext_tuple_item st (show s.heap.IsTuple a its.toArray from p) (x:=u) (by simpa using hu) fun h' g sb=>?_
  have F:Inv X pins σ H { s with heap:=h' }:=I.turned (t':=s.toks) (fun b o f e=>(sb.2 b f).trans e) f0 f1 m f4 y
  obtain ⟨o,e,c,d⟩:=id g
  exact ⟨u,rfl,vg (s:={ s with heap:=h' }) e c d (by decide) ⟨x,H,F,C,⟨rfl,fun ys D=>by rw [I.tuple_inj D j];exact l⟩,g,fun b f=>(hf b f).1⟩⟩
 done:=by
  intro X n hw r A i pins s σ H E I hf st t
  subst n hw r
  obtain ⟨xs,j,l⟩:=t
  obtain ⟨its,q,p,hz⟩:=I.tuple j
  obtain ⟨f0,f1,f2,m,f4,y⟩:=hf it (by simp)
  have G:=q.length
  exact wpAny_pyNext_tuple_end (I.ok.hd A) st (show s.heap.IsTuple a its.toArray from p) (by simp;omega) fun h' B=>⟨rfl,I.turned (t':=s.toks) (fun b o f e=>B b o f e) f0 f1 m f4 y⟩
 self:=fun _ _ _ _ _ st h=>wpAny_pyIter_tupleiter st h
theorem oe {P:Program} {w:World} {K:FG} {tg:Expr} (it:Addr) (lo:Int) (n:Nat):Turn P w K tg (Itr lo n) [it] it (fun i h=>IsRangeIter h it (lo+(i:Nat) * 1) ((n:Int) - (i:Nat)) 1) where
 mem:=by simp
 obj:=fun i h st b a=>by
  have e:b=it:=by simpa using a
  subst e
  exact ⟨_,st,fun v z=>by
   have x:Data.fields _=Data.cell v:=z
   cases x⟩
 keep:=fun i h h' st k=>k it (by simp) _ st
 item:=by
  intro X f hw j g i pins s σ H E I hf st l
  subst f hw j
  obtain ⟨f0,f1,f2,d,f4,m⟩:=hf it (by simp)
  have W:=Walks.range (prog:=X.prog) (w:=X.w) (I.ok.hd g) it lo 1 n
  refine W.item i s _ _ l st fun v h' p r c u=>?_
  obtain ⟨t,rfl⟩:=r
  have y:Inv X pins σ H { s with heap:=h',toks:=p }:=I.turned (fun b o a e=>u b o (by simpa using a) e) f0 f1 d f4 m
  refine ⟨_,rfl,vg (s:={ s with heap:=h',toks:=p }) (n:="range_iterator") c rfl rfl (by decide) ⟨.int (lo+i),H,y,⟨t,?_⟩,⟨rfl,rfl⟩,c,fun b a=>(hf b a).1⟩⟩
  rw [Int.mul_one]
 done:=by
  intro X f hw j g i pins s σ H E I hf st l
  subst f hw j
  obtain ⟨f0,f1,f2,d,f4,m⟩:=hf it (by simp)
  exact wpAny_pyNext_range_end (I.ok.hd g) st (by have:n<=i:=l;omega) fun h' q=>⟨rfl,I.turned (t':=s.toks) (fun b o a e=>q b o a e) f0 f1 d f4 m⟩
 self:=fun _ _ _ _ _ st h=>wpAny_pyIter_rangeiter st h
end L2
namespace L2
open PySem PySem.Spec PyProof.Rows
section
variable {X:Cx} {tg:Expr}
theorem mQ {lo hi:Int} {c:Nat} (I:Inv X pins σ H s) (h1:-(2 ^ 62)<=lo) (h2:lo < 2 ^ 62) (h3:-(2 ^ 62)<=hi) (d:hi < 2 ^ 62) (q:R (Itr lo (hi - lo).toNat) H):wpAny (model X.prog X.w) X.A (pyIter (.ref s.heap.objs.size)) (PIE X pins σ tg R) E { s with heap:=s.heap.push { cls:=.type "range",data:=.fields #[.int lo t,.int hi u,.int 1 v] },toks:=c }:=by
 refine wpAny_pyIter_range (IsRange.new ..) (small_one h1 h2 h3 d) ?_
 have a:Inv X pins σ H { s with heap:=s.heap.push { cls:=.type "range",data:=.fields #[.int lo t,.int hi u,.int 1 v] },toks:=c }:=I.kept fun b o e=>Bv _ e
 refine ⟨(s.heap.push { cls:=.type "range",data:=.fields #[.int lo t,.int hi u,.int 1 v] }).objs.size,[(s.heap.push { cls:=.type "range",data:=.fields #[.int lo t,.int hi u,.int 1 v] }).objs.size],_,_,H,rfl,
  a.kept (t':=c) fun b o e=>Bv _ e,oe _ lo (hi - lo).toNat,?_,fun b f=>?_,q⟩
 ·have e1:lo+((0:Nat):Int) * 1=lo:=by simp
  have g:(((hi - lo).toNat:Nat):Int) - ((0:Nat):Int)=Builtin.Range.rangeSize lo hi 1:=by rw [rangeSize_one];split <;> omega
  show IsRangeIter _ _ (lo+((0:Nat):Int) * 1) ((((hi - lo).toNat:Nat):Int) - ((0:Nat):Int)) 1
  rw [e1,g]
  exact BE _ rfl
 ·have e:b=(s.heap.push { cls:=.type "range",data:=.fields #[.int lo t,.int hi u,.int 1 v] }).objs.size:=by simpa using f
  subst e
  exact a.fpOk (BL _) (a.hok.fresh (BL _))
def yU (ta:TA):TI:=fun σ H R=>ta σ H fun a H1=>∃ j:Int,a=[.int j]/\-(2 ^ 62)<=j/\j < 2 ^ 62/\R (Itr 0 j.toNat) H1
def yT (ta:TA):TI:=fun σ H R=>ta σ H fun a H1=>∃ i j:Int,a=[.int i,.int j]/\(-(2 ^ 62)<=i/\i < 2 ^ 62/\-(2 ^ 62)<=j/\j < 2 ^ 62)/\R (Itr i (j - i).toNat) H1
theorem rB (k:Gl X "range") (hm:X.mg "range"=none) (i:PA X [a] ta) (c:starEach [a] X.env=[(false,eval a X.env)]:=by rfl):PI X tg (.Call (.Name "range" p) [a] [] pos) (yU ta):=by
 intro pins s σ H R I h
 refine Call_ (iN I k hm boot_range (PyProof.Rows.callWith_type1 (thn (i pos pins s σ H _ I h) fun us s1 ⟨l,H1,d,f,b⟩=>?_) c rfl))
 obtain ⟨j,e,b,g,q⟩:=b
 subst e
 cases f with
 | cons r rr =>
  cases rr
  obtain ⟨t,rfl⟩:=r
  exact call_range_1 (mQ d (by omega) (by omega) b g (by simpa using q))
theorem rA (u:Gl X "range") (hm:X.mg "range"=none) (n:PA X [a,b] ta) (f:starEach [a,b] X.env=[(false,eval a X.env),(false,eval b X.env)]:=by rfl) (c:starEach [b] X.env=[(false,eval b X.env)]:=by rfl) :
  PI X tg (.Call (.Name "range" p) [a,b] [] pos) (yT ta):=by
 intro pins s σ H R I h
 refine Call_ (iN I u hm boot_range (PyProof.Rows.callWith_type1 (thn (n pos pins s σ H _ I h) fun us s1 ⟨v,H1,g,k,d⟩=>?_) (by rw [f,c]) (by rw [c];rfl)))
 obtain ⟨i,j,e,⟨d,m,l,o⟩,q⟩:=d
 subst e
 cases k with
 | cons r rr =>
  cases rr with
  | cons r' rr =>
   cases rr
   obtain ⟨t,rfl⟩:=r
   obtain ⟨t',rfl⟩:=r'
   exact call_range_2 (mQ g d m l o q)
def tFor (a:TI) (g:TG) (tb:TS):TS:=fun D σ H=>a σ H fun J H1=>∃ W:Nat->Nat->St->Hp->Prop,(∃ m,W 0 m σ H1)/\∀ i m σ H,W i m σ H ->
 (J.stop i H/\D.nx σ H)\/(J.go i H/\∃ N:St->Hp->Prop,(∀ σ' H',N σ' H'->∃ m',m' < m/\W (i+1) m' σ' H')/\∀ x H',J.yld i H x H'->g x σ H' fun σ2 H2=>tb { D with nx:=N,ct:=N,bk:=D.nx } σ2 H2)
def jO (fp:List Addr) (h:Heap):List (Addr × Obj):=fp.filterMap fun b=>(h.get? b).map fun o=>(b,o)
theorem eC (a:b ∈ fp) (e:h.get? b=some o):(b,o) ∈ jO fp h:=List.mem_filterMap.mpr ⟨b,a,by rw [e];rfl⟩
theorem rE (d:p ∈ jO fp h):p.1 ∈ fp/\h.get? p.1=some p.2:=by
 obtain ⟨b,c,e⟩:=List.mem_filterMap.mp d
 cases q:h.get? b with
 | none=>rw [q] at e;cases e
 | some o =>
  rw [q] at e
  have a:(b,o)=p:=Ce e
  subst a
  exact ⟨c,q⟩
theorem Inv.pinned (I:Inv X pins σ H s) (hf:∀ b ∈ fp,FpOk X pins H b) (g:∀ b ∈ fp,∃ o,s.heap.get? b=some o/\∀ v,o.data ≠ .cell v):Inv X (pins ++ jO fp s.heap) σ H s :=
 I.pins_of fun p f=>(BD.mp f).elim (fun z=>I.pin p (By _ z)) fun z=>by
  obtain ⟨c,e⟩:=rE z
  obtain ⟨f0,f1,f2,_⟩:=hf p.1 c
  obtain ⟨o,a,d⟩:=g p.1 c
  rw [e] at a;cases a
  exact ⟨e,f0,f1,f2,d⟩
theorem Inv.unpinned (I:Inv X (pins ++ pl) σ H s):Inv X pins σ H s:=I.pins_of fun p a=>I.pin p (By _ (Bx _ a))
theorem Ae (t:PassesOwn (model X.prog X.w) X.A X.env X.xe) (O:X.calm=true) (hi:PI X tg iter wi) (Y:PG X tg g) (k:PSs X body tb) (S:∀ x,foldedSetIterable iter X.env x=pure x:=by intro _;rfl):PS X (.For tg iter body [] pos) (tFor wi g tb):=by
 intro pins s σ H D I h
 refine wpAny_For (thn (hi pins s σ H _ I h) fun v s1 h1=>thn h1 fun ab s2 h2=>?_) S
 obtain ⟨it,fp,P,J,H2,e,I2,T,F,f2,W,⟨m0,w0⟩,turn⟩:=h2
 subst e
 have a:∀ {H':Hp},(∀ b ∈ fp,H' b=none)->∀ b ∈ fp,FpOk X pins H' b:=fun U b k=>⟨U b k,(f2 b k).2⟩
 refine codeAny_forLoop_any (fun n s'=>∃ i σ' H',Inv X pins σ' H' s'/\P i s'.heap/\(∀ b ∈ fp,H' b=none)/\W i n σ' H') ?_ m0 ⟨0,σ,H2,I2,F,fun b k=>(f2 b k).1,w0⟩
 rintro n s3 ⟨i,σ3,B,L,z,q,w3⟩
 rcases turn i n σ3 B w3 with ⟨stop,qn⟩ | ⟨go,N,hN,step⟩
 ·refine wpAny_passesOwn t (thn (T.done X rfl rfl rfl O i pins s3 σ3 B X.xe L (a q) z stop) fun r s4 ⟨K,I4⟩=>?_)
  subst K
  exact wpAny_execs_nil ⟨σ3,B,I4,qn⟩
 ·refine wpAny_passesOwn t (thn (T.item X rfl rfl rfl O i pins s3 σ3 B X.xe L (a q) z go) fun r s4 ⟨u,K,h4⟩=>?_)
  subst K
  refine wpAny_passesOwn t (thn h4 fun _ s5 ⟨x,M,I5,V,y5,p,E⟩=>?_)
  have C:=I5.pinned (a E) (T.obj _ _ p)
  refine wpAny_passesOwn t (thn (Y _ s5 σ3 M x u _ C V (step x M y5)) fun _ s6 ⟨σ6,H6,Q,q6⟩=>?_)
  refine wpAny_passesOwn t (thn (k _ s6 σ6 H6 _ Q q6) fun f G l=>?_)
  have again:∀ {σ7:St} {c:Hp},Inv X (pins ++ jO fp s5.heap) σ7 c G->N σ7 c->∃ m,m < n/\∃ i σ' H',Inv X pins σ' H' G/\P i G.heap/\(∀ b ∈ fp,H' b=none)/\W i m σ' H':=fun {σ7 c} j y=>by
   obtain ⟨m',hm,w7⟩:=hN σ7 c y
   refine ⟨m',hm,i+1,σ7,c,j.unpinned,T.keep _ _ _ p fun b k o e=>(j.pin (b,o) (By _ (By _ (eC k e)))).1,fun b k=>?_,w7⟩
   obtain ⟨o,e,d⟩:=T.obj _ _ p b k
   exact (j.pin (b,o) (By _ (By _ (eC k e)))).2.1
  cases f with
  | next=>obtain ⟨σ7,c,j,y⟩:=l;exact again j y
  | cont=>obtain ⟨σ7,c,j,y⟩:=l;exact again j y
  | brk=>obtain ⟨σ7,c,j,l⟩:=l;exact ⟨σ7,c,j.unpinned,l⟩
  | ret v=>obtain ⟨Z,σ7,c,j,R,l⟩:=l;exact ⟨Z,σ7,c,j.unpinned,R,l⟩
end
end L2
namespace L2
open PySem PySem.Spec PyProof.Rows
abbrev R2:=V->V->Hp->VK->Prop
def OpR (X:Cx) (f:Value->Value->Sem Value) (r:R2):Prop :=
 ∀ (pins:List (Addr × Obj)) (s:Shared) (σ:St) (H:Hp) (x y:V) (v u:Value) (Q:VK),Inv X pins σ H s->RelV x v->RelV y u->r x y H Q ->
  wpAny (model X.prog X.w) X.A (f v u) (EP X pins σ Q) X.xe s
def UnR (X:Cx) (f:Value->Sem Value) (r:V->Hp->VK->Prop):Prop :=
 ∀ (pins:List (Addr × Obj)) (s:Shared) (σ:St) (H:Hp) (x:V) (v:Value) (Q:VK),Inv X pins σ H s->RelV x v->r x H Q ->
  wpAny (model X.prog X.w) X.A (f v) (EP X pins σ Q) X.xe s
def bX (X:Cx) (f:Value) (r:List V->Hp->VK->Prop):Prop :=
 ∀ (pins:List (Addr × Obj)) (s:Shared) (σ:St) (H:Hp) (xs:List V) (us:List Value) (Q:VK),Inv X pins σ H s->Vals xs us->r xs H Q ->
  wpAny (model X.prog X.w) X.A (call f us) (EP X pins σ Q) X.xe s
def tOp (r:R2) (ta tb:TE):TE:=fun σ H Q=>ta σ H fun x H1=>tb σ H1 fun y H2=>r x y H2 Q
def tUn (r:V->Hp->VK->Prop) (ta:TE):TE:=fun σ H Q=>ta σ H fun x H1=>r x H1 Q
def rI (C:Int->Int->Prop) (g:Int->Int->V):R2:=fun x y H Q=>∃ i j,x=.int i/\y=.int j/\C i j/\Q (g i j) H
def rI0 (g:Int->Int->V):R2:=fun x y H Q=>∃ i j,x=.int i/\y=.int j/\Q (g i j) H
def rU (g:Int->V):V->Hp->VK->Prop:=fun x H Q=>∃ i,x=.int i/\Q (g i) H
section
variable {X:Cx} {a b c:Expr} {ta tb tc:TE} {pos:Pos}
theorem Bf (l:PE X a ta) (c:PE X b tb) {R:V->V->Hp->Prop} (I:Inv X pins σ H s) (h:ta σ H fun x H1=>tb σ H1 fun y H2=>R x y H2) {f:Value->Value->Sem Value} (hf:∀ v u s2 x y H2,Inv X pins σ H2 s2->RelV x v->RelV y u->R x y H2->wpAny (model X.prog X.w) X.A (f v u) Q X.xe s2) :
  wpAny (model X.prog X.w) X.A (eval a X.env) (fun v k=>wpAny (model X.prog X.w) X.A (eval b X.env) (fun u d=>wpAny (model X.prog X.w) X.A (f v u) Q X.xe d) X.xe k) X.xe s:=by
 refine thn (l pins s σ H _ I h) fun v s1 ⟨x,H1,g,i,e⟩=>?_
 refine thn (c pins s1 σ H1 _ g e) fun u s2 ⟨y,H2,n,m,j⟩=>?_
 exact hf v u s2 x y H2 n i m j
theorem pe_op (d:OpR X (binaryOp op) r) (e:PE X a ta) (c:PE X b tb):PE X (.BinOp a op b pos) (tOp r ta tb):=by
 intro pins s σ H Q I h
 exact wpAny_BinOp (Bf e c I h fun v u s2 x y H2 g i f q=>d pins s2 σ H2 x y v u Q g i f q)
theorem pe_un (f:UnR X (unaryOp op) r) (b:PE X a ta):PE X (.UnaryOp op a pos) (tUn r ta):=by
 intro pins s σ H Q I h
 exact UnaryOp_ (thn (b pins s σ H _ I h) fun v s1 ⟨x,H1,e,d,c⟩=>f pins s1 σ H1 x v Q e d c)
theorem opI {g:Int->Int->Int} (rule:∀ (i j:Int) (t u:Tok) (s:Shared) (Q:Value->Shared->Prop) (E:Value->Shared->Prop),C i j->Q (.int (g i j) s.toks) { s with toks:=s.toks+1 }->wpAny (model X.prog X.w) X.A (f (.int i t) (.int j u)) Q E s) :
  OpR X f (rI C fun i j=>.int (g i j)):=by
 intro pins s σ H x y v u Q I c b h
 obtain ⟨i,j,rfl,rfl,a,q⟩:=h
 obtain ⟨t,rfl⟩:=c
 obtain ⟨t',rfl⟩:=b
 exact rule i j t t' s _ _ a ⟨.int (g i j),H,I.tok _,⟨_,rfl⟩,q⟩
theorem opI0 {g:Int->Int->Int} (rule:∀ (i j:Int) (t u:Tok) (s:Shared) (Q:Value->Shared->Prop) (E:Value->Shared->Prop),Q (.int (g i j) s.toks) { s with toks:=s.toks+1 }->wpAny (model X.prog X.w) X.A (f (.int i t) (.int j u)) Q E s) :
  OpR X f (rI0 fun i j=>.int (g i j)):=by
 intro pins s σ H x y v u Q I b a h
 obtain ⟨i,j,rfl,rfl,q⟩:=h
 obtain ⟨t,rfl⟩:=b
 obtain ⟨t',rfl⟩:=a
 exact rule i j t t' s _ _ ⟨.int (g i j),H,I.tok _,⟨_,rfl⟩,q⟩
theorem opB0 {g:Int->Int->Bool} (rule:∀ (i j:Int) (t u:Tok) (s:Shared) (Q:Value->Shared->Prop) (E:Value->Shared->Prop),Q (.bool (g i j)) s->wpAny (model X.prog X.w) X.A (f (.int i t) (.int j u)) Q E s) :
  OpR X f (rI0 fun i j=>.bl (g i j)):=by
 intro pins s σ H x y v u Q I b a h
 obtain ⟨i,j,rfl,rfl,q⟩:=h
 obtain ⟨t,rfl⟩:=b
 obtain ⟨t',rfl⟩:=a
 exact rule i j t t' s _ _ ⟨.bl (g i j),H,I,rfl,q⟩
def sM (i j:Int):Prop:=0 < j/\j < 1073741824
def wg (i j:Int):Prop:=0<=j/\j<=1000000/\i.natAbs < 2 ^ 64
def CMul (i j:Int):Prop:=(-(2 ^ 64) < i/\i < 2 ^ 64)\/(-(2 ^ 64) < j/\j < 2 ^ 64)
theorem CMul.ok {i j:Int} (h:CMul i j):IntMulOk i j:=by
 rcases h with ⟨h1,h2⟩ | ⟨h1,h2⟩
 ·exact .of_left (intBits_le_64 h1 h2)
 ·exact .of_right (intBits_le_64 h1 h2)
theorem op_add:OpR X (binaryOp .Add) (rI0 fun i j=>.int (i+j)):=opI0 fun _ _ _ _ _ _ _ q=>add_int q
theorem As:OpR X (binaryOp .Sub) (rI0 fun i j=>.int (i - j)):=opI0 fun _ _ _ _ _ _ _ q=>sub_int q
theorem Av:OpR X (binaryOp .Mult) (rI CMul fun i j=>.int (i * j)):=opI fun _ _ _ _ _ _ _ a q=>mul_int q a.ok
theorem Aw:OpR X (binaryOp .Mod) (rI (fun _ j=>0 < j) fun i j=>.int (i % j)):=opI fun i j _ _ _ _ _ a q=>by
 have h1:(0:Int) < j:=a
 exact mod_int' (by omega) (by rw [Int.fmod_eq_emod_of_nonneg i (by omega)];exact q)
theorem At:OpR X (binaryOp .Pow) (rI wg fun i j=>.int (i ^ j.toNat)):=opI fun _ _ _ _ _ _ _ a q=>pow_int_small a.1 a.2.1 a.2.2 q
theorem unI {g:Int->Int} (rule:∀ (i:Int) (t:Tok) (s:Shared) (Q:Value->Shared->Prop) (E:Value->Shared->Prop),Q (.int (g i) s.toks) { s with toks:=s.toks+1 }->wpAny (model X.prog X.w) X.A (f (.int i t)) Q E s) :
  UnR X f (rU fun i=>.int (g i)):=by
 intro pins s σ H x v Q I a h
 obtain ⟨i,rfl,q⟩:=h
 obtain ⟨t,rfl⟩:=a
 exact rule i t s _ _ ⟨.int (g i),H,I.tok _,⟨_,rfl⟩,q⟩
theorem y9:UnR X (unaryOp .USub) (rU fun i=>.int (-i)):=unI fun _ _ _ _ _ q=>neg_int q
end
def zC:V->V->Bool
 | .non,.non=>true | .non,.int _=>true | .int _,.non=>true | .non,.bl _=>true | .bl _,.non=>true | .non,.str _=>true | .str _,.non=>true
 | .int _,.int _=>true | .bl _,.bl _=>true | .str _,.str _=>true | .byt _,.byt _=>true
 | .int _,.str _=>true | .str _,.int _=>true | .bl _,.str _=>true | .str _,.bl _=>true
 | _,_=>false
def rEq:R2:=fun x y H Q=>zC x y=true/\Q (.bl (decide (x=y))) H
def rNe:R2:=fun x y H Q=>zC x y=true/\Q (.bl (!decide (x=y))) H
theorem qG {i j:Int}:decide (V.int i=V.int j)=(i == j):=by
 rw [Bool.eq_iff_iff]
 simp
theorem vD:decide (V.bl i=V.bl j)=(i == j):=by
 rw [Bool.eq_iff_iff]
 simp
theorem qF:decide (V.str i=V.str j)=(i == j):=by
 rw [Bool.eq_iff_iff]
 simp
theorem qH:decide (V.byt i=V.byt j)=(i.toList == j.toList):=by
 rw [Bool.eq_iff_iff]
 cases i
 cases j
 simp
section
variable {X:Cx} {a b c:Expr} {ta tb tc:TE} {pos:Pos}
theorem aJ (I:Inv X pins σ H s) (q:Q (.bl k) H) (e:k=k'):EP X pins σ Q (.bool k') s:=by
 subst e
 exact ⟨.bl k,H,I,rfl,q⟩
theorem op_eq:OpR X (compareOp .Eq) rEq:=by
 intro pins s σ H x y v u Q I c a h
 obtain ⟨b,q⟩:=h
 cases x with
 | non =>
  cases c
  cases y with
  | non=>cases a;exact PySem.EqNone.eq_none_none (aJ I q (by simp))
  | bl j=>cases a;exact PySem.EqNone.eq_none_bool (aJ I q (by simp))
  | int j=>obtain ⟨t',rfl⟩:=a;exact PySem.EqNone.eq_none_int (aJ I q (by simp))
  | str j=>obtain ⟨t',rfl⟩:=a;exact PySem.EqNone.eq_none_str (aJ I q (by simp))
  | _=>exact absurd (show false=true from b) BM
 | bl i =>
  cases c
  cases y with
  | non=>cases a;exact PySem.EqNone.eq_bool_none (aJ I q (by simp))
  | bl j=>cases a;exact eq_bool (aJ I q vD)
  | str j=>obtain ⟨t',rfl⟩:=a;exact PySem.EqMixed.eq_bool_str (aJ I q (by simp))
  | _=>exact absurd (show false=true from b) BM
 | int i =>
  obtain ⟨t,rfl⟩:=c
  cases y with
  | non=>cases a;exact PySem.EqNone.eq_int_none (aJ I q (by simp))
  | int j=>obtain ⟨t',rfl⟩:=a;exact eq_int (aJ I q qG)
  | str j=>obtain ⟨t',rfl⟩:=a;exact PySem.EqMixed.eq_int_str (aJ I q (by simp))
  | _=>exact absurd (show false=true from b) BM
 | str i =>
  obtain ⟨t,rfl⟩:=c
  cases y with
  | non=>cases a;exact PySem.EqNone.eq_str_none (aJ I q (by simp))
  | bl j=>cases a;exact PySem.EqMixed.eq_str_bool (aJ I q (by simp))
  | int j=>obtain ⟨t',rfl⟩:=a;exact PySem.EqMixed.eq_str_int (aJ I q (by simp))
  | str j=>obtain ⟨t',rfl⟩:=a;exact eq_str (aJ I q qF)
  | _=>exact absurd (show false=true from b) BM
 | byt i =>
  obtain ⟨t,rfl⟩:=c
  cases y with
  | byt j=>obtain ⟨t',rfl⟩:=a;exact PySem.W.eq_bytes (aJ I q qH)
  | _=>exact absurd (show false=true from b) BM
 | _=>cases y <;> exact absurd (show false=true from b) BM
theorem op_ne:OpR X (compareOp .NotEq) rNe:=by
 intro pins s σ H x y v u Q I c a h
 obtain ⟨b,q⟩:=h
 cases x with
 | non =>
  cases c
  cases y with
  | non=>cases a;exact PySem.EqNone.ne_none_none (aJ I q (by simp))
  | bl j=>cases a;exact PySem.EqNone.ne_none_bool (aJ I q (by simp))
  | int j=>obtain ⟨t',rfl⟩:=a;exact PySem.EqNone.ne_none_int (aJ I q (by simp))
  | str j=>obtain ⟨t',rfl⟩:=a;exact PySem.EqNone.ne_none_str (aJ I q (by simp))
  | _=>exact absurd (show false=true from b) BM
 | bl i =>
  cases c
  cases y with
  | non=>cases a;exact PySem.EqNone.ne_bool_none (aJ I q (by simp))
  | bl j=>cases a;exact ne_bool (aJ I q (congrArg not vD))
  | str j=>obtain ⟨t',rfl⟩:=a;exact PySem.EqMixed.ne_bool_str (aJ I q (by simp))
  | _=>exact absurd (show false=true from b) BM
 | int i =>
  obtain ⟨t,rfl⟩:=c
  cases y with
  | non=>cases a;exact PySem.EqNone.ne_int_none (aJ I q (by simp))
  | int j=>obtain ⟨t',rfl⟩:=a;exact ne_int (aJ I q (congrArg not qG))
  | str j=>obtain ⟨t',rfl⟩:=a;exact PySem.EqMixed.ne_int_str (aJ I q (by simp))
  | _=>exact absurd (show false=true from b) BM
 | str i =>
  obtain ⟨t,rfl⟩:=c
  cases y with
  | non=>cases a;exact PySem.EqNone.ne_str_none (aJ I q (by simp))
  | bl j=>cases a;exact PySem.EqMixed.ne_str_bool (aJ I q (by simp))
  | int j=>obtain ⟨t',rfl⟩:=a;exact PySem.EqMixed.ne_str_int (aJ I q (by simp))
  | str j=>obtain ⟨t',rfl⟩:=a;exact ne_str (aJ I q (congrArg not qF))
  | _=>exact absurd (show false=true from b) BM
 | byt i =>
  obtain ⟨t,rfl⟩:=c
  cases y with
  | byt j=>obtain ⟨t',rfl⟩:=a;exact PySem.W.ne_bytes (aJ I q (congrArg not qH))
  | _=>exact absurd (show false=true from b) BM
 | _=>cases y <;> exact absurd (show false=true from b) BM
theorem yK:OpR X (compareOp .Lt) (rI0 fun i j=>.bl (decide (i < j))):=opB0 fun _ _ _ _ _ _ _ q=>lt_int q
theorem qg:OpR X (compareOp .LtE) (rI0 fun i j=>.bl (decide (i<=j))):=opB0 fun _ _ _ _ _ _ _ q=>le_int q
theorem Ax : OpR X (compareOp .Is) (fun x y H Q => y = .non /\ Q (.bl (decide (x = .non))) H) := by
  intro pins s σ H x y v u Q I a b h
  obtain ⟨rfl, q⟩ := h
  cases b
  refine is_none_gen (aJ I q ?_)
  cases x <;> first
    | (cases a; rfl)
    | (obtain ⟨t, rfl⟩ := a; rfl)
theorem OpR.or (h:OpR X f r) (h':OpR X f r'):OpR X f (fun x y H Q=>r x y H Q\/r' x y H Q):=by
 intro pins s σ H x y v u Q I b a q
 rcases q with q | q
 ·exact h pins s σ H x y v u Q I b a q
 ·exact h' pins s σ H x y v u Q I b a q
theorem iJ (b : Expr) (h : op ≠ .In := by decide) (h2 : op ≠ .NotIn := by decide) : behindInMarks op b = false := by
  have e1 : (op == CmpOp.In) = false := by cases op <;> first | rfl | exact absurd rfl h
  have a : (op == CmpOp.NotIn) = false := by cases op <;> first | rfl | exact absurd rfl h2
  cases b <;> simp [behindInMarks, e1, a]
theorem xw (d:OpR X (compareOp op) r) (e:PE X a ta) (c:PE X b tb) (hm:behindInMarks op b=false):PE X (.Compare a [op] [b] pos) (tOp r ta tb):=by
 intro pins s σ H Q I h
 exact wpAny_Compare1 (Bf e c I h fun v u s2 x y H2 g i f q=>d pins s2 σ H2 x y v u Q g i f q) hm
def tTest (t:TE):TT:=fun σ H Q=>t σ H fun x H'=>∃ k,x=.bl k/\Q k H'
theorem xi (m:OpR X (compareOp op) r) (o:PE X a ta) (d:PE X b tb) (hm:behindInMarks op b=false):PT X (.Compare a [op] [b] pos) (tTest (tOp r ta tb)):=by
 intro pins s σ H Q I h
 refine wpAny_isTrue_Compare1 (thn (o pins s σ H _ I h) fun v s1 ⟨x,H1,i,l,g⟩=>thn (d pins s1 σ H1 _ i g) fun u s2 ⟨y,H2,w,q,j⟩ =>
  thn (m pins s2 σ H2 x y v u _ w l q j) fun c s3 ⟨z,t,f,p,k,e,n⟩=>?_) hm
 subst e
 cases p
 exact B7 ⟨t,f,n⟩
def om (r c:R2) (ta tb tc:TE):TE:=fun σ H Q=>ta σ H fun x H1=>tb σ H1 fun y H2=>r x y H2 fun z a=>∃ k,z=.bl k /\
 (if k=true then tc σ a fun d b=>c y d b Q else Q (.bl false) a)
theorem uz (E:OpR X (compareOp op) r) (f:OpR X (compareOp op') r') (q:PE X a ta) (C:PE X b tb) (B:PE X c tc) (hm:lastMarks [op,op'] [b,c]=false:=by with_unfolding_all rfl):PE X (.Compare a [op,op'] [b,c] pos) (om r r' ta tb tc):=by
 intro pins s σ H Q I h
 refine Compare_chain (thn (q pins s σ H _ I h) fun v s1 ⟨x,H1,D,n,m⟩=>chain_link (thn (C pins s1 σ H1 _ D m) fun u s2 ⟨y,H2,J,i,o⟩ =>
  thn (E pins s2 σ H2 x y v u _ J n i o) fun d s3 ⟨z,l,g,F,k,e,j⟩=>?_)) hm
 subst e
 cases F
 refine B7 ?_
 cases k with
 | false=>exact ite_ff ⟨.bl false,l,g,rfl,j⟩
 | true=>exact ite_tt (chain_last (thn (B pins s3 σ l _ g j) fun K s4 ⟨A,G,w,p,t⟩=>f pins s4 σ G y A u K Q w i p t))
theorem lQ:(sizeLine:Nat) < 2 ^ 63:=by rw [sizeLine_eq];decide
theorem op_add_str:OpR X (binaryOp .Add) (fun x y H Q=>∃ i j,x=.str i/\y=.str j/\i.length+j.length<=sizeLine/\Q (.str (i ++ j)) H):=by
 intro pins s σ H x y v u Q I b a h
 obtain ⟨i,j,rfl,rfl,hz,q⟩:=h
 obtain ⟨t,rfl⟩:=b
 obtain ⟨t',rfl⟩:=a
 exact add_str (fun t' c=>⟨.str (i ++ j),H,I.tok _,⟨_,rfl⟩,q⟩) hz
theorem du (r:Vals [x] us):∃ u,us=[u]/\RelV x u:=by
 cases r with
 | cons r1 r2=>cases r2;exact ⟨_,rfl,r1⟩
theorem ko (r:Vals [x,y] us):∃ u a,us=[u,a]/\RelV x u/\RelV y a:=by
 cases r with
 | cons r1 r2 =>
  cases r2 with
  | cons r3 r4=>cases r4;exact ⟨_,_,rfl,r1,r3⟩
theorem vM:bX X (.builtin "abs") (fun xs H Q=>∃ i,xs=[.int i]/\Q (.int (if i < 0 then -i else i)) H):=by
 intro pins s σ H xs us Q I r h
 obtain ⟨i,rfl,q⟩:=h
 obtain ⟨u,rfl,t,rfl⟩:=du r
 exact call_abs_int fun u a=>⟨.int (if i < 0 then -i else i),H,I.tok _,⟨_,rfl⟩,q⟩
theorem sC (b:X.calm=true):bX X (.builtin "max") (fun xs H Q=>∃ i j,xs=[.int i,.int j]/\Q (.int (if j > i then j else i)) H):=by
 intro pins s σ H xs us Q I r h
 obtain ⟨i,j,rfl,q⟩:=h
 obtain ⟨u,d,rfl,⟨t,rfl⟩,⟨t',rfl⟩⟩:=ko r
 refine max_two_ints (I.ok.hd b) fun h' c k=>⟨_,H,I.kept k,?_,q⟩
 by_cases a:j > i
 ·rw [if_pos a,if_pos a];exact ⟨_,rfl⟩
 ·rw [if_neg a,if_neg a];exact ⟨_,rfl⟩
theorem sB (b:X.calm=true):bX X (.builtin "min") (fun xs H Q=>∃ i j,xs=[.int i,.int j]/\Q (.int (if j < i then j else i)) H):=by
 intro pins s σ H xs us Q I r h
 obtain ⟨i,j,rfl,q⟩:=h
 obtain ⟨u,d,rfl,⟨t,rfl⟩,⟨t',rfl⟩⟩:=ko r
 refine min_two_ints (I.ok.hd b) fun h' c k=>⟨_,H,I.kept k,?_,q⟩
 by_cases a:j < i
 ·rw [if_pos a,if_pos a];exact ⟨_,rfl⟩
 ·rw [if_neg a,if_neg a];exact ⟨_,rfl⟩
theorem nR:bX X (.builtin "divmod") (fun xs H Q=>∃ i j,xs=[.int i,.int j]/\sM i j/\∀ p,H p=none->Q (.ref p) (upd H p (.tup [.int (i / j),.int (i % j)]))):=by
 intro pins s σ H xs us Q I r h
 obtain ⟨i,j,rfl,⟨h1,h2⟩,q⟩:=h
 obtain ⟨u,c,rfl,⟨t,rfl⟩,⟨t',rfl⟩⟩:=ko r
 refine divmod_int (by omega) ?_ (.inl (PyProof.noPylong_small (by omega)))
 rw [Int.fdiv_eq_ediv_of_nonneg i (by omega),Int.fmod_eq_emod_of_nonneg i (by omega)]
 have a:H s.heap.objs.size=none:=I.hok.fresh (BL _)
 refine ⟨.ref s.heap.objs.size,_,?_,rfl,q _ a⟩
 refine I.laid (fun b o e=>Bv _ e) (BL _) ⟨by simp only [BW,List.length_nil];rw [sizeLine_eq];decide,[.int (i / j) s.toks,.int (i % j) (s.toks+1)],.cons ⟨_,rfl⟩ (.cons ⟨_,rfl⟩ .nil),?_⟩
 exact ⟨_,BE s.heap rfl,rfl,0,rfl⟩
end
end L2
namespace L2
open PySem PySem.Spec PyProof.Rows
theorem RelO.some_of (r:RelO (some v) o):∃ u,o=some u/\RelV v u:=by
 cases o with
 | none=>exact (show False from r).elim
 | some u=>exact ⟨u,rfl,r⟩
end L2
namespace L2
open PySem PySem.Spec PyProof.Rows
structure Room (k:Nat) (A:Around):Prop where
 hd:A.handled=none
 dp:A.depth+3 * k+5 < recursionLimit
 un:A.units+16 * k+200 < cLine
 gd:A.guards=some []
theorem Room.mono {j k:Nat} (r:Room k A) (h:j<=k):Room j A:=⟨r.hd,by have:=r.dp;omega,by have:=r.un;omega,r.gd⟩
theorem Room.deeper {k:Nat} (r:Room (k+1) A) (env:Env):Room k (A.deeper env) :=
 ⟨r.hd,by have:=r.dp;show A.depth+1+3 * k+5 < _;omega,by have:=r.un;show A.units+3+16 * k+200 < _;omega,r.gd⟩
theorem Room.depth {k:Nat} (r:Room k A):A.depth < recursionLimit:=by have:=r.dp;omega
theorem Room.units {k:Nat} (r:Room k A):A.units+64 < cLine:=by have:=r.un;omega
def tNil:TA:=fun _ H Q=>Q [] H
def yD (ta:TE) (a:TA):TA:=fun σ H Q=>ta σ H fun x H1=>a σ H1 fun xs H2=>Q (x :: xs) H2
section
variable {X:Cx} {e:Expr} {es:List Expr} {te:TE} {t:TA} {pos:Pos}
theorem lL:PA X [] tNil:=fun _ _ _ _ H Q I h=>Calls.spliced_nil ⟨[],H,I,.nil,h⟩
theorem gw (g:PE X e te) (k:PA X es t) (a:starEach (e :: es) X.env=(false,eval e X.env) :: starEach es X.env:=by rfl):PA X (e :: es) (yD te t):=by
 intro pos pins s σ H Q I h
 rw [a]
 show wpAny _ _ (spliced ((false,eval e X.env) :: backTo pos (starEach es X.env))) _ _ s
 refine Calls.spliced_cons (thn (g pins s σ H _ I h) fun u s1 ⟨x,H1,c,f,b⟩=>?_)
 exact thn (k pos pins s1 σ H1 _ c b) fun us s2 ⟨xs,H2,j,i,d⟩=>⟨x :: xs,H2,j,.cons f i,d⟩
def tTup (t:TA):TE:=fun σ H Q=>t σ H fun xs H1=>xs.length<=sizeLine/\∀ p,H1 p=none->Q (.ref p) (upd H1 p (.tup xs))
def tLst (t:TA):TE:=fun σ H Q=>t σ H fun xs H1=>xs.length<=sizeLine/\∀ p,H1 p=none->Q (.ref p) (upd H1 p (.lst xs))
theorem uw (h:PA X es t):PE X (.Tuple es x1 pos) (tTup t):=by
 intro pins s σ H Q I c
 refine wpAny_Tuple_spliced (thn (h pos pins s σ H _ I c) fun us s1 ⟨xs,H1,a,r,z,q⟩=>⟨by rw [<- r.length];exact z,?_⟩)
 have hf:H1 s1.heap.objs.size=none:=a.hok.fresh (BL _)
 refine ⟨.ref s1.heap.objs.size,upd H1 s1.heap.objs.size (.tup xs),a.laid (t':=s1.toks) (fun b u e=>Bv _ e) (BL _) ?_,rfl,q _ hf⟩
 exact ⟨z,us,r,⟨_,BE _ rfl,rfl,_,rfl⟩⟩
theorem Am (h:PA X es t):PE X (.List es pos) (tLst t):=by
 intro pins s σ H Q I c
 refine wpAny_List_spliced (thn (h pos pins s σ H _ I c) fun us s1 ⟨xs,H1,a,r,z,q⟩=>⟨by rw [<- r.length];exact z,?_⟩)
 have hf:H1 s1.heap.objs.size=none:=a.hok.fresh (BL _)
 refine ⟨.ref s1.heap.objs.size,upd H1 s1.heap.objs.size (.lst xs),a.laid (t':=s1.toks) (fun b u e=>Bv _ e) (BL _) ?_,rfl,q _ hf⟩
 exact ⟨z,us,0,r,BE _ rfl⟩
end
abbrev Sp:=List V->Hp->VK->XK->Prop
abbrev CXT:=List Env->Hp->Shared->XK->Value->Shared->Prop
structure Env0 (P:Program) (w:World) (K:FG) (mg:Str->Option Value) (base:Heap) (A:Around) (outer:List Env) (s:Shared) (H:Hp):Prop where
 frames:A.frames=some outer
 mod:Mod K mg base
 bs:∀ b o,base.get? b=some o->s.heap.get? b=some o/\H b=none
 bsz:base.objs.size<=s.heap.objs.size
 funs:s.heap.FunFrames base outer
 frf:∀ b ∈ frs outer,H b=none
 hok:HOk P w H s.heap
 bare:AllBare s.gens
def CE (outer:List Env) (P:Program) (w:World) (H:Hp) (s:Shared) (Q:VK) (u:Value) (s':Shared):Prop :=
 ∃ v H',s'.os=s.os/\AllBare s'.gens/\Un (frs outer) [] H H' s.heap s'.heap/\HOk P w H' s'.heap/\RelV v u/\Q v H'
def CR (CX:CXT) (outer:List Env) (P:Program) (w:World) (H:Hp) (s:Shared) (Q:VK) (E:XK) (r:Result) (s':Shared):Prop :=
 match r with
 | .ok (.ret u)=>CE outer P w H s Q u s'
 | .ok _=>False
 | .error e=>CX outer H s E e s'
structure FnOk (P:Program) (w:World) (K:FG) (mg:Str->Option Value) (base:Heap) (CX:CXT) (k:Nat) (f:Addr) (fd:FuncData) (ps:List Str) (sp:Sp):Prop where
 len:∀ vs H Q E,sp vs H Q E->vs.length=ps.length
 run:∀ (A:Around) (outer:List Env) (s:Shared) (H:Hp) (args:Args) (us:List Value) (vs:List V) (Q:VK) (E:XK),Room k A->Env0 P w K mg base A outer s H->BindsTo s fd args (ps.zip us)->Vals vs us->sp vs H Q E ->
  codeAny (model P w) A (.call (.ref f) args) (CR CX outer P w H s Q E) s
theorem FnOk.imp {K:FG} {k:Nat} (F:FnOk P w K mg base CX k f fd ps sp) (h:∀ a H Q E,sp' a H Q E->sp a H Q E):FnOk P w K mg base CX k f fd ps sp' :=
 ⟨fun a H Q E q=>F.len a H Q E (h _ _ _ _ q),fun A outer s H args us a Q E e he b d c=>F.run A outer s H args us a Q E e he b d (h _ _ _ _ c)⟩
section
variable {X:Cx} {pins:List (Addr × Obj)} {σ:St} {H:Hp} {s s':Shared}
theorem Inv.env0 (I:Inv X pins σ H s):Env0 X.prog X.w X.K X.mg X.base X.A X.stack s H :=
 ⟨I.ok.frames,I.ok.mod,I.bs,B8 I.ok.bsz I.sz,I.stack,I.stkFree,I.hok,I.bare⟩
theorem Inv.after (I:Inv X pins σ H s) (h:CE X.stack X.prog X.w H s Q u s'):EP X pins σ Q u s':=by
 obtain ⟨v,H',os,bare,un,hok,r,q⟩:=h
 obtain ⟨c,g,d,t,a⟩:=s'
 obtain rfl:a=s.os:=os
 exact ⟨v,H',I.call (h':=c) (g':=g) (d':=d) (t':=t) (ch:=[]) un hok bare (fun b z=>absurd z (by simp)),r,q⟩
end
def tCall (sp:Sp) (dvs:List V) (E:XK) (t:TA):TE:=fun σ H Q=>t σ H fun a H1=>sp (a ++ dvs) H1 Q E
def Binds (K:FG) (fd:FuncData) (ps:List Str) (ds:List Value):Prop :=
 ∀ (s:Shared) (us:List Value),K.In s.heap->(us ++ ds).length=ps.length->BindsTo s fd ⟨us,[]⟩ (ps.zip (us ++ ds))
theorem Binds.all {K:FG} (h:∀ us:List Value,us.length=ps.length->bindArgs fd ⟨us,[]⟩=pure (ps.zip us)):Binds K fd ps []:=fun s us _ a=>by
 rw [List.append_nil] at a ⊢
 exact .of_eq (h us a)
def pN (CX:CXT) (X:Cx) (E:XK):Prop:=∀ (pins:List (Addr × Obj)) (σ:St) (H:Hp) (s:Shared) (e:Value) (s':Shared),Inv X pins σ H s->CX X.stack H s E e s'->X.xe e s'
section
variable {X:Cx} {CX:CXT} {k:Nat} {f C:Addr} {fd:FuncData} {ps:List Str} {sp:Sp} {dvs:List V} {ds:List Value} {E:XK} {x m:Str} {p pos apos:Pos} {e o:Expr} {es:List Expr} {ta:TE} {t:TA}
theorem zF (F:FnOk X.prog X.w X.K X.mg X.base CX k f fd ps sp) (i:Room k X.A) (d:Binds X.K fd ps ds) (hd:Vals dvs ds) (c:pN CX X E) (I:Inv X pins σ H s) (r:Vals vs us) (h:sp (vs ++ dvs) H Q E):wpAny (model X.prog X.w) X.A (call (.ref f) us) (EP X pins σ Q) X.xe s:=by
 have b:Vals (vs ++ dvs) (us ++ ds):=r.append hd
 have g:(us ++ ds).length=ps.length:=by rw [<- b.length];exact F.len _ _ _ _ h
 refine wpAny_call (codeAny_mono (F.run X.A X.stack s H ⟨us,[]⟩ (us ++ ds) (vs ++ dvs) Q E i I.env0 (d s us I.kIn g) b h) fun r s' a=>?_)
 cases r with
 | error e=>exact c pins σ H s e s' I a
 | ok fl =>
  cases fl with
  | ret u=>exact I.after a
  | next=>exact False.elim a
  | brk=>exact False.elim a
  | cont=>exact False.elim a
theorem xx (F:FnOk X.prog X.w X.K X.mg X.base CX k f fd ps sp) (m:Room k X.A) (l:Gl X x) (hm:X.mg x=some (.ref f)) (j:PySem.W.keepIn X.K (.ref f)=true) (g:Binds X.K fd ps ds) (hd:Vals dvs ds) (d:pN CX X E)
  (i:PA X (e :: es) t) (a:(x == ("__debug__":Str))=false:=by decide) (he:starEach (e :: es) X.env=(false,eval e X.env) :: starEach es X.env:=by rfl) (b:(backTo pos (starEach es X.env)).any (·.1)=false:=by rfl) :
  PE X (.Call (.Name x p) (e :: es) [] pos) (tCall sp dvs E t):=by
 intro pins s σ H Q I h
 refine wpAny_Call_Name_kw (qp I l hm ?_ a)
 refine PySem.W.callWith_K (h₀:=X.base) I.ok.mod.kin j (thn (i pos pins s σ H _ I h) fun us s1 ⟨n,H1,c,r,q⟩=>⟨c.kIn,?_⟩) he b
 exact zF F m g hd d c r q
end
structure FnScope (N P:List Str) (sc:Scope):Prop where
 kind:sc.kind=.function
 co:sc.isCoroutine=false
 gen:sc.isGenerator=false
 nd:N.Nodup
 pre:N.take P.length=P
 par:∀ x ∈ P,sc.names.lookup x=some .local\/sc.names.lookup x=some .cell
 nofree:∀ y ∈ sc.names,y.2 ≠ .free
theorem k9 {kindOf:Str->Option NameKind}:∀ {binds:List (Str × Value)} {m:Str->Option Value},(∀ v,(x,v) ∉ binds)->bindL kindOf binds m x=m x
 | [],_,_=>rfl
 | (n,v) :: r,m,h=>by
  unfold bindL
  rw [k9 fun w hw=>h w (Bu _ hw)]
  split
  ·have:x ≠ n:=by rintro rfl;exact h v Bt
   simp [this]
  ·rfl
theorem lc {kindOf:Str->Option NameKind}:∀ {binds:List (Str × Value)} {m:Str->Option Value},(∀ v,(x,v) ∉ binds)->bindC kindOf binds m x=m x
 | [],_,_=>rfl
 | (n,v) :: r,m,h=>by
  unfold bindC
  rw [lc fun w hw=>h w (Bu _ hw)]
  split
  ·rfl
  ·have:x ≠ n:=by rintro rfl;exact h v Bt
   simp [this]
theorem la {kindOf:Str->Option NameKind}:∀ {P:List Str} {a:List Value} {i:Nat} {m:Str->Option Value},P.Nodup->P[i]?=some x->a[i]?=some v->kindOf x=some .local ->
  bindL kindOf (P.zip a) m x=some v
 | [],_,_,_,_,h,_,_=>by simp at h
 | _ :: _,[],_,_,_,_,h,_=>by simp at h
 | p :: P,w :: a,0,m,nd,h1,h2,hk=>by
  simp at h1 h2;subst h1;subst h2
  show bindL kindOf ((p,w) :: P.zip a) m p=_
  unfold bindL
  rw [k9 fun v b=>(List.nodup_cons.mp nd).1 (List.of_mem_zip b).1,if_pos hk]
  simp
 | p :: P,w :: a,i+1,m,nd,h1,h2,hk=>by
  show bindL kindOf ((p,w) :: P.zip a) m x=_
  unfold bindL
  exact la (i:=i) (List.nodup_cons.mp nd).2 (by simpa using h1) (by simpa using h2) hk
theorem ld {kindOf:Str->Option NameKind}:∀ {P:List Str} {a:List Value} {i:Nat} {m:Str->Option Value},P.Nodup->P[i]?=some x->a[i]?=some v->kindOf x ≠ some .local ->
  bindC kindOf (P.zip a) m x=some v
 | [],_,_,_,_,h,_,_=>by simp at h
 | _ :: _,[],_,_,_,_,h,_=>by simp at h
 | p :: P,w :: a,0,m,nd,h1,h2,hk=>by
  simp at h1 h2;subst h1;subst h2
  show bindC kindOf ((p,w) :: P.zip a) m p=_
  unfold bindC
  rw [lc fun v b=>(List.nodup_cons.mp nd).1 (List.of_mem_zip b).1,if_neg hk]
  simp
 | p :: P,w :: a,i+1,m,nd,h1,h2,hk=>by
  show bindC kindOf ((p,w) :: P.zip a) m x=_
  unfold bindC
  exact ld (i:=i) (List.nodup_cons.mp nd).2 (by simpa using h1) (by simpa using h2) hk
def i5 (N:List Str) (a:List V):St:=a.map some ++ List.replicate (N.length - a.length) none
def nK (CX:CXT) (P:Program) (w:World) (K:FG) (mg:Str->Option Value) (base:Heap) (N:List Str) (qual:Str) (scope:Scope) (f:Addr) (cd:Value) (A:Around) (outer:List Env) (s:Shared) (H:Hp) (E:XK):Cx where
 prog:=P
 w:=w
 K:=K
 mg:=mg
 base:=base
 A:=A.deeper (envOfC qual scope s.heap.objs.size f cd)
 N:=N
 s₀:=s
 H₀:=H
 env:=envOfC qual scope s.heap.objs.size f cd
 outer:=outer
 stack:=envOfC qual scope s.heap.objs.size f cd :: outer
 ex:=[]
 calm:=true
 fn:=fun _=>true
 pn:=[]
 xe:=fun e s'=>wpAny (model P w) (A.deeper (envOfC qual scope s.heap.objs.size f cd)) (leaving (envOfC qual scope s.heap.objs.size f cd) e) (fun _ a=>CX outer H s E e a) (fun b a=>CX outer H s E b a) s'
theorem nP {sc:Scope} {n:Nat} (h:sc.names.lookup x=some .cell):∃ c,(cellsFrom n sc.names []).lookup x=some c:=by
 have q:=PySem.W.cellsFrom_some sc.names n [] (.inl h)
 exact Option.isSome_iff_exists.mp q
theorem rY {K:FG} (S:FnScope N ps scope) (hd:A.handled=none) (d:Env0 P w K mg base A outer s H) (D:vs.length=ps.length) (r:Vals vs us) (x:InCallC s s.heap.objs.size (bindL (envOfC qual scope s.heap.objs.size f cd).kindOf (ps.zip us) fun _=>none) (cellsFrom (s.heap.objs.size+1) scope.names []) (bindC (envOfC qual scope s.heap.objs.size f cd).kindOf (ps.zip us) fun _=>none) s1) :
  Inv (nK CX P w K mg base N qual scope f cd A outer s H E) [] (i5 N vs) H s1:=by
 have B:ps.length<=N.length:=by have:=congrArg List.length S.pre;rw [BY] at this;omega
 obtain ⟨h1,F,rfl,o⟩:=x.done
 have j:∀ b:Addr,b ∉ (nK CX P w K mg base N qual scope f cd A outer s H E).ex:=fun b z=>absurd (show b ∈ ([]:List Addr) from z) (by simp)
 refine ⟨⟨d.mod,S.kind,rfl,rfl,BL _,fun y z c h1 h2=>?_,fun y g=>?_,fun y c _ h=>?_,fun _=>hd,Around.frames_deeper d.frames,.inr ⟨rfl,rfl⟩,fun b z=>absurd z (j b),d.bs,d.bsz,fun b _ _=>j b,fun b z=>absurd z (j b),d.funs,d.frf⟩,
  rfl,d.bare,Un.kept o,⟨_,x.toInCall.ns,fun i y v h1 h2 h3=>?_⟩,fun y c h=>⟨_,x.cell y c h⟩,d.hok.fresh (BL _),fun y c h=>?_,fun p l=>absurd (show p ∈ ([]:List (Addr × Obj)) from l) (by simp),d.hok.kept o,?_⟩
 ·exact name_of_addr x.apart (PySem.mem_of_lookup h1) (PySem.mem_of_lookup h2)
 ·have g:scope.names.lookup y=some .cell\/scope.names.lookup y=some .free:=g
  rcases g with g | g
  ·exact nP g
  ·exact absurd rfl (S.nofree _ (PySem.mem_of_lookup g))
 ·exact Nat.le_of_lt (x.above y c (PySem.mem_of_lookup h))
 ·have hi:i < vs.length:=by
   unfold i5 at h2
   by_cases hi:i < vs.length
   ·exact hi
   ·rw [List.getElem?_append_right (by simpa using hi)] at h2
    rw [List.getElem?_replicate] at h2
    split at h2 <;> cases h2
  have t:vs[i]?=some v:=by
   unfold i5 at h2
   rw [B4 (by simpa using hi),BK] at h2
   cases e:vs[i]? with
   | none=>rw [e] at h2;cases h2
   | some a=>rw [e] at h2;cases h2;rfl
  obtain ⟨u,hu,C⟩:=r.get t
  have l:ps[i]?=some y:=by
   rw [<- S.pre,List.getElem?_take_of_lt (by omega)];exact h1
  have m:ps.Nodup:=by rw [<- S.pre];exact S.nd.sublist (List.take_sublist _ _)
  refine ⟨u,C,?_⟩
  rcases S.par y (BH l) with k | k
  ·exact .inl ⟨k,la m l hu k⟩
  ·obtain ⟨c,e⟩:=nP (n:=s.heap.objs.size+1) k
   refine .inr ⟨.inl k,c,e,?_⟩
   have q:=x.cell y c e
   rw [ld m l hu (by show scope.names.lookup y ≠ _;rw [k];decide)] at q
   exact q
 ·exact d.hok.fresh (Nat.le_of_lt (x.above y c (PySem.mem_of_lookup h)))
 ·unfold i5
  show _=N.length
  rw [BV,BF,List.length_replicate]
  omega
theorem fn_of {K:FG} {k:Nat} {B kV doc pm a ct L:Value} (O:K.lookup f=some ⟨L,od,.func (PySem.W.fnOf name qual params body scope B kV doc pm an a ct),osl⟩) (m:PySem.W.codeIn K a qual=true) (S:FnScope N ps scope) (len:∀ c H Q E,sp c H Q E->c.length=ps.length) (g:∀ (A:Around) (outer:List Env) (s:Shared) (H:Hp) (c:List V) (Q:VK) (E:XK),Room k (A.deeper (envOfC qual scope s.heap.objs.size f a))->sp c H Q E ->
   ∃ t,PSs (nK CX P w K mg base N qual scope f a A outer s H E) body t/\t { nx:=fun _ H'=>Q .non H',rt:=Q } (i5 N c) H) :
  FnOk P w K mg base CX (k+1) f (PySem.W.fnOf name qual params body scope B kV doc pm an a ct) ps sp:=by
 refine ⟨len,fun A outer s H args us c Q E p j F r i=>?_⟩
 have M:=len _ _ _ _ i
 have z:K.In s.heap:=j.mod.kin.keeps fun b o e=>(j.bs b o e).1
 have lim:s.heap.NoLimit:=j.mod.nolimit.keeps fun b o e=>(j.bs b o e).1
 have d:∀ y ∈ ps.zip us,scope.names.lookup y.1=some .local\/(scope.names.lookup y.1=some .cell/\((cellsFrom (s.heap.objs.size+1) scope.names []).lookup y.1).isSome=true):=fun ⟨n,v⟩ G=>by
  rcases S.par n (List.of_mem_zip G).1 with q | q
  ·exact .inl q
  ·exact .inr ⟨q,PySem.W.cellsFrom_some _ _ _ (.inl q)⟩
 refine codeAny_call_function p.depth (z _ _ O) rfl S.co S.gen rfl (PySem.W.codeRec_of z m) (F _ _ _ _ ?_)
 refine wpAny_newFunctionEnv_cells S.kind d fun env he s1 x=>?_
 subst he
 refine ⟨lim.keeps x.toInCall.keep,codeAny_func ?_⟩
 obtain ⟨t,C,D⟩:=g A outer s H c Q E (p.deeper _) i
 have I:Inv (nK CX P w K mg base N qual scope f a A outer s H E) [] (i5 N c) H s1:=rY S p.hd j M r x
 refine wpAny_mono (C [] s1 (i5 N c) H _ I D) (fun fl s' h=>?_) fun e s' h=>h
 have fin:∀ {σ':St} {H':Hp} {v:V} {u:Value},Inv (nK CX P w K mg base N qual scope f a A outer s H E) [] σ' H' s'->RelV v u->Q v H'->CE outer P w H s Q u s' :=
  fun {σ' H' v u} J l q=>⟨v,H',J.os,J.bare,J.base,J.hok,l,q⟩
 cases fl with
 | ret u =>
  obtain ⟨v,σ',H',J,l,q⟩:=h
  exact fin J l q
 | next =>
  obtain ⟨σ',H',J,q⟩:=h
  exact fin (v:=V.non) (u:=Value.none) J rfl q
 | brk =>
  obtain ⟨_,_,_,q⟩:=h
  exact False.elim q
 | cont =>
  obtain ⟨_,_,_,q⟩:=h
  exact False.elim q
end L2
namespace L2
open PySem PySem.Spec PyProof.Rows
section
variable {X:Cx} {x:Str} {p pos:Pos} {e:Expr} {es:List Expr} {t:TA} {id T:String} {r:List V->Hp->VK->Prop}
def tCB (r:List V->Hp->VK->Prop) (t:TA):TE:=fun σ H Q=>t σ H fun a H1=>r a H1 Q
theorem jQ (d:bX X (.builtin id) r) (m:Gl X x) (hm:X.mg x=none) (i:bootBuiltins x=some (.builtin id)) (l:PA X (e :: es) t) (g:x ≠ "__name__":=by decide) (a:(x == ("__debug__":Str))=false:=by decide)
  (he:starEach (e :: es) X.env=(false,eval e X.env) :: starEach es X.env:=by rfl) (b:(backTo pos (starEach es X.env)).any (·.1)=false:=by rfl):PE X (.Call (.Name x p) (e :: es) [] pos) (tCB r t):=by
 intro pins s σ H Q I h
 refine wpAny_Call_Name_kw (iN I m hm i ?_ g a)
 exact PyProof.Rows.callWith_builtin1 (thn (l pos pins s σ H _ I h) fun us s1 ⟨c,H1,j,k,f⟩=>d pins s1 σ H1 c us Q j k f) he b
theorem kI (d:bX X (.type T) r) (m:Gl X x) (hm:X.mg x=none) (i:bootBuiltins x=some (.type T)) (l:PA X (e :: es) t) (g:x ≠ "__name__":=by decide) (a:(x == ("__debug__":Str))=false:=by decide)
  (he:starEach (e :: es) X.env=(false,eval e X.env) :: starEach es X.env:=by rfl) (b:(backTo pos (starEach es X.env)).any (·.1)=false:=by rfl):PE X (.Call (.Name x p) (e :: es) [] pos) (tCB r t):=by
 intro pins s σ H Q I h
 refine wpAny_Call_Name_kw (iN I m hm i ?_ g a)
 exact PyProof.Rows.callWith_type1 (thn (l pos pins s σ H _ I h) fun us s1 ⟨c,H1,j,k,f⟩=>d pins s1 σ H1 c us Q j k f) he b
end
end L2
namespace HT
open PySem PyProof.Rows
def lexLt:List Int->List Int->Bool
 | [],[]=>false
 | [],_ :: _=>true
 | _ :: _,[]=>false
 | x :: xs,y :: ys=>if x=y then lexLt xs ys else decide (x < y)
theorem lexLt_cons (x y:Int) (xs ys:List Int):lexLt (x :: xs) (y :: ys)=if x=y then lexLt xs ys else decide (x < y):=rfl
theorem lexLt_nil_nil:lexLt [] []=false:=rfl
theorem lexLt_nil_cons (y:Int) (ys:List Int):lexLt [] (y :: ys)=true:=rfl
theorem lexLt_cons_nil (x:Int) (xs:List Int):lexLt (x :: xs) []=false:=rfl
theorem vw (A:Around) (s:Shared) (a:Int) (t:Tok) (c:Int) (u:Tok):∃ e,SeqAt.EqAt A s (.int a t) (.int c u) e/\(e=true ↔ a=c) :=
 ⟨(a == c),SeqAt.EqAt.int_int a t c u,by simp⟩
theorem rcLt_int (A:Around) (s:Shared) (a:Int) (t:Tok) (c:Int) (u:Tok) (prog:Program) (w:World) (E:Value->Shared->Prop) (Q:Value->Shared->Prop) (h:Q (.bool (decide (a < c))) s) :
  wpAny (model prog w) A (richCompare .Lt (.int a t) (.int c u)) Q E s :=
 (PyProof.Rows.lt_int h:wpAny (model prog w) A (compareOp .Lt (.int a t) (.int c u)) Q E s)
section
open PySem.SeqAt
open PySem.AutoSeq1 (wpAny_loadPart')
open PySem.MeetsSeq PySem.MeetsSeq2 PySem.MeetsSeq3
theorem tuple_lt_ints (l b:Addr) (items f:Array Value) (n I:Nat) (H E:Option Addr) (sl C:Array (Option Value)) (ns ms:List Int) (hi:IntsAre items.toList ns) (G:IntsAre f.toList ms) :
  Meets (Builtin.«tuple.__lt__» ⟨[.ref l,.ref b],[]⟩)
   (fun _ R s=>s.heap.get? l=some { cls:=.type "tuple",dict:=H,data:=.seq items n,slots:=sl }/\s.heap.get? b=some { cls:=.type "tuple",dict:=E,data:=.seq f I,slots:=C } /\
    R (.ok (.ret (.bool (lexLt ns ms)))) s) :=
 .of_wp fun prog w A R s h=>by
  obtain ⟨v,g,d,z,os⟩:=s;obtain ⟨K,J,h⟩:=h
  have f2:=AutoSeq1.sub_tuple_tuple
  have L:items.size=ns.length:=by rw [<- hi.length];simp
  have M:f.size=ms.length:=by rw [<- G.length];simp
  wp_walk using wpAny_loadPart' K,wpAny_loadPart' J,wpAny_forIn_list _ (fun eK b s'=>b.1=none/\s'=⟨v,g,d,z,os⟩/\∃ (B ws:List Value) (j i:List Int),eK=B.zip ws /\
   IntsAre B j/\IntsAre ws i/\j.length+f.size=i.length+items.size/\R (.ok (.ret (.bool (lexLt j i)))) ⟨v,g,d,z,os⟩) _
  case turn =>
   rintro ⟨y,x⟩ eK b s' ⟨p,rfl,B,ws,j,i,hz,r,k,hlen,m⟩
   cases r with
   | nil=>rw [List.zip_nil_left] at hz;cases hz
   | cons a t hvi' =>
    cases k with
    | nil=>rw [List.zip_nil_right] at hz;cases hz
    | cons c u hwi' =>
     rw [List.zip_cons_cons] at hz
     injection hz with hyx hrest
     injection hyx with hy hx
     subst hy hx
     rw [lexLt_cons] at m
     simp only [BW] at hlen
     obtain ⟨e,he,o⟩:=vw A.in1 ⟨v,g,d,z,os⟩ a t c u
     refine Bq (he prog w _ _ ?_)
     cases e with
     | true =>
      rw [if_pos (o.mp rfl)] at m
      wp_walk
      exact ⟨rfl,rfl,_,_,_,_,hrest,hvi',hwi',by omega,m⟩
     | false =>
      rw [if_neg (fun q=>absurd (o.mpr q) BM)] at m
      have D:=rcLt_int A.in1 ⟨v,g,d,z,os⟩ a t c u prog w
      wp_walk using D
      exact ⟨_,rfl,by simpa using m⟩
  case fin =>
   rintro ⟨b1,b2⟩ s' ⟨p,rfl,B,ws,j,i,hz,r,k,hlen,m⟩
   simp only at p
   subst p
   have F:lexLt j i=decide (items.size < f.size):=by
    cases r with
    | nil =>
     cases k with
     | nil =>
      simp only [List.length_nil] at hlen
      rw [lexLt_nil_nil]
      exact (BR (by omega)).symm
     | cons c u hw =>
      simp only [List.length_nil,BW] at hlen
      rw [lexLt_nil_cons]
      exact (BQ (by omega)).symm
    | cons a t F =>
     cases k with
     | nil =>
      simp only [List.length_nil,BW] at hlen
      rw [lexLt_cons_nil]
      exact (BR (by omega)).symm
     | cons c u hw =>
      rw [List.zip_cons_cons] at hz
      cases hz
   rw [F] at m
   wp_walk
   exact ⟨_,rfl,by simpa [Builtin.Tuple.tupleCompareSizes] using m⟩
  case h =>
   exact ⟨rfl,rfl,items.toList,f.toList,ns,ms,rfl,hi,G,by omega,h⟩
end
section
variable {prog:Program} {w:World} {A:Around} {E:Value->Shared->Prop} {s:Shared}
theorem cat_tup (m:IsTup s.heap t vs.toArray) (o:IsTup s.heap b ws.toArray) (i:vs ≠ []) (h1:ws=[]->Q (.ref t) s) (h2:ws ≠ []->Q (.ref s.heap.objs.size) { s with heap:=s.heap.push { cls:=.type "tuple",data:=.seq (vs ++ ws).toArray } }) (hsz:vs.length+ws.length<=sizeLine):wpAny (model prog w) A (binaryOp .Add (.ref t) (.ref b)) Q E s:=by
 obtain ⟨⟨cls,j,data,sl⟩,g,h,n,hd⟩:=id m
 obtain ⟨⟨l,f,data2,c⟩,a,d,k,hd2⟩:=id o
 simp only at h hd d hd2
 subst h hd d hd2
 have e:vs.toArray ++ ws.toArray=(vs ++ ws).toArray:=by simp
 by_cases hw:ws=[]
 ·exact concat_meets ⟨_,g,rfl⟩ ⟨_,a,rfl⟩ noFill_tuple_add seq_tuple_add PySem.F.slot_tuple_add PySem.F.entry_tuple_add (PySem.F.args_tuple_add_2 _ _)
   (tuple_addW1 t b vs.toArray ws.toArray n k j f sl c (by simpa using i) (by simp [hw])) ⟨g,a,h1 hw⟩
 ·refine concat_meets ⟨_,g,rfl⟩ ⟨_,a,rfl⟩ noFill_tuple_add seq_tuple_add PySem.F.slot_tuple_add PySem.F.entry_tuple_add (PySem.F.args_tuple_add_2 _ _)
   (tuple_addW2 t b vs.toArray ws.toArray n k j f sl c (by simpa using i) (by simpa using hw) (by rw [BO,BO];exact hsz)) ⟨g,a,?_⟩
  rw [e]
  exact h2 hw
def sIx (n d:Nat):Option Int->Nat
 | none=>d
 | some v=>if v < 0 then (v+(n:Int)).toNat else min v.toNat n
theorem zD (n d:Nat) (hd:d<=n) (o:Option Int):sIx n d o<=n:=by
 cases o with
 | none=>exact hd
 | some v =>
  show (if v < 0 then (v+(n:Int)).toNat else min v.toNat n)<=n
  by_cases a:v < 0
  ·rw [if_pos a];omega
  ·rw [if_neg a];exact Nat.min_le_right _ _
theorem qK (v:Int) (n d:Nat):(if v < 0 then max (v+(n:Int)) 0 else min v (n:Int))=((sIx n d (some v):Nat):Int):=by
 show (if v < 0 then max (v+(n:Int)) 0 else min v (n:Int))=(((if v < 0 then (v+(n:Int)).toNat else min v.toNat n):Nat):Int)
 by_cases a:v < 0
 ·simp only [if_pos a];omega
 ·simp only [if_neg a];omega
theorem pM (lo hi:Option Int) (n:Nat):Builtin.Slice.sliceAdjust lo hi 1 (n:Int)=(((sIx n 0 lo:Nat):Int),((sIx n n hi:Nat):Int)):=by
 have h1:¬ ((1:Int) < 0):=by omega
 unfold Builtin.Slice.sliceAdjust
 simp only [h1,if_false]
 refine Prod.ext ?_ ?_
 ·cases lo with
  | none=>rfl
  | some v=>exact qK v n 0
 ·cases hi with
  | none=>rfl
  | some v=>exact qK v n n
theorem oP (i j:Nat):Builtin.Slice.slicePlaces (i:Int) (j:Int) 1=j - i:=by
 unfold Builtin.Slice.slicePlaces
 have h1:(1:Int) > 0:=by omega
 simp only [h1,if_true,Int.ediv_one]
 split <;> omega
theorem slicePart_ (p:IsPart v o) (h:Q o s):wpAny (model prog w) A (Builtin.Slice.slicePartIndex v) Q E s:=by
 cases p with
 | none=>exact slicePart_none h
 | int i t=>exact slicePart_int h
theorem dR {sl:Addr} {d c:Value} {lo hi:Option Int} {n:Nat} (e:s.heap.IsSliceOf sl d c .none) (pl:IsPart d lo) (pu:IsPart c hi) (h:Q (((sIx n 0 lo:Nat):Int),1,sIx n n hi - sIx n 0 lo) s):wpAny (model prog w) A (Builtin.Slice.sliceApplied (.ref sl) (pure (n:Int))) Q E s:=by
 obtain ⟨os,a,f,b⟩:=id e
 unfold Builtin.Slice.sliceApplied Builtin.Slice.sliceFields
 refine Bq (Bq (wpAny_field a b (x:=d) rfl (Bq (wpAny_field a b (x:=c) rfl (Bq (wpAny_field a b (x:=.none) rfl (Br ?_)))))))
 refine Bq (slicePart_none ?_)
 show wpAny _ _ (if ((1:Int) == 0)=true then _ else _) _ _ s
 rw [if_neg (by decide)]
 refine Bq (slicePart_ pl (Bq (slicePart_ pu (Bq (Br ?_)))))
 show wpAny _ _ (match Builtin.Slice.sliceAdjust lo hi 1 (n:Int) with | (lo,hi)=>pure (lo,(1:Int),Builtin.Slice.slicePlaces lo hi 1)) _ _ s
 rw [pM lo hi n]
 show wpAny _ _ (pure (((sIx n 0 lo:Nat):Int),(1:Int),Builtin.Slice.slicePlaces ((sIx n 0 lo:Nat):Int) ((sIx n n hi:Nat):Int) 1)) _ _ s
 rw [oP]
 exact Br h
theorem ut (xs:Array Value) (i k:Nat):((List.range k).filterMap fun (m:Nat)=>xs[((i:Int)+(m:Int) * 1).toNat]?).toArray=((xs.toList.drop i).take k).toArray:=by
 have e:(fun (m:Nat)=>xs[((i:Int)+(m:Int) * 1).toNat]?)=fun m=>xs[i+m]?:=by
  funext m
  have:((i:Int)+(m:Int) * 1).toNat=i+m:=by omega
  rw [this]
 rw [e]
 have:=pick_run xs i k
 rw [List.filterMap_map] at this
 have a:((fun x=>xs[x]?) ∘ fun x=>i+x)=fun m=>xs[i+m]?:=rfl
 rw [a] at this
 rw [this]
theorem getItem_tuple_cut {lo hi:Option Int} (b:IsTup s.heap t items) (g:s.heap.IsSliceOf sl vl vu .none) (pl:IsPart vl lo) (pu:IsPart vu hi) (hw:¬ (sIx items.size 0 lo=0/\sIx items.size items.size hi=items.size)) (h:Q (.ref s.heap.objs.size) { s with heap:=s.heap.push { cls:=.type "tuple",data:=.seq ((items.toList.drop (sIx items.size 0 lo)).take (sIx items.size items.size hi - sIx items.size 0 lo)).toArray } }) (hsz:items.size<=sizeLine):wpAny (model prog w) A (getItem (.ref t) (.ref sl)) Q E s:=by
 have a:sizeOk (.seq ((items.toList.drop (sIx items.size 0 lo)).take (sIx items.size items.size hi - sIx items.size 0 lo)).toArray):=by
  show ((items.toList.drop (sIx items.size 0 lo)).take (sIx items.size items.size hi - sIx items.size 0 lo)).toArray.size<=sizeLine
  rw [BO,BY,List.length_drop,Array.length_toList]
  omega
 have k:sIx items.size items.size hi<=items.size:=zD _ _ (BL _) hi
 obtain ⟨os,f,e,i⟩:=id g
 have d:s.TypeIs (.ref sl) "slice":=⟨os,f,e⟩
 unfold getItem
 try with_reducible refine Bs ?_
 first | refine Bq (Br ?_) | skip
 refine Bq (wpAny_sequenceKey b.typeIs (by decide) ?_)
 refine Bq (wpAny_callSpecial?_slot (name:=Str.ofString "__getitem__") b.typeIs PyProof.Rows.slot_tuple_getitem
  (wpAny_call_entry PyProof.Rows.slot_tuple_getitem b.typeIs entry_tuple_getitem ?_ (args_tuple_getitem _ _)))
 show wpAny _ _ (Builtin.Tuple.tupleItemsOf (.ref t) >>= _) _ _ s
 refine Bq (tupleItemsOf_ b ?_)
 refine Bq (wpAny_typeOf d ?_)
 rw [if_pos (by decide)]
 refine Bq (dR g pl pu ?_)
 have c:¬ ((((sIx items.size 0 lo:Nat):Int) == 0 && (1:Int) == 1 && (sIx items.size items.size hi - sIx items.size 0 lo) == items.size)=true):=by
  intro q
  rw [Bool.and_eq_true,Bool.and_eq_true] at q
  have j:((sIx items.size 0 lo:Nat):Int)=0:=eq_of_beq q.1.1
  have l:sIx items.size items.size hi - sIx items.size 0 lo=items.size:=eq_of_beq q.2
  exact hw ⟨by omega,by omega⟩
 show wpAny _ _ (if (((sIx items.size 0 lo:Nat):Int) == 0 && (1:Int) == 1 && (sIx items.size items.size hi - sIx items.size 0 lo) == items.size)=true then _ else _) _ _ s
 rw [if_neg c,ut]
 first
  | exact Bq (m:=Builtin.Tuple.tupleExact _) (wpAny_newObj_type (Br ⟨_,rfl,Br h⟩) a)
  | exact Bq (m:=Builtin.Tuple.tupleExact _) (wpAny_newObj_type (Bq (Br (Br ⟨_,rfl,Br h⟩))) a)
  | exact Bq (Bq (m:=Builtin.Tuple.tupleExact _) (wpAny_newObj_type (Br (Br ⟨_,rfl,Br h⟩)) a))
  | exact Bq (Bq (m:=Builtin.Tuple.tupleExact _) (wpAny_newObj_type (Br ⟨_,rfl,Br h⟩) a))
end
end HT
namespace L2
open PySem PySem.Spec PyProof.Rows
abbrev TO:=St->Hp->(Option Int->Hp->Prop)->Prop
def PO (X:Cx) (e:Option Expr) (t:TO):Prop :=
 ∀ (pins:List (Addr × Obj)) (s:Shared) (σ:St) (H:Hp) (Q:Option Int->Hp->Prop),Inv X pins σ H s->t σ H Q ->
  wpAny (model X.prog X.w) X.A (evalPart e X.env) (fun u s'=>∃ o H',Inv X pins σ H' s'/\IsPart u o/\Q o H') X.xe s
def wq:TO:=fun _ H Q=>Q none H
def tPart (t:TE):TO:=fun σ H Q=>t σ H fun x H1=>∃ i,x=.int i/\Q (some i) H1
theorem jV:∀ {us:List Value},Vals (ns.map V.int) us->IntsAre us ns:=by
 induction ns with
 | nil=>intro us r;rw [List.map_nil] at r;cases r;exact .nil
 | cons n ns ih =>
  intro us r
  rw [BP] at r
  cases r with
  | cons r1 r2 =>
   obtain ⟨t,e⟩:=r1
   subst e
   exact .cons n t (ih r2)
section
variable {X:Cx} {e:Expr} {te:TE} {lo hi:Option Expr} {tl th:TO} {pos p2:Pos}
theorem xq:PO X none wq:=by
 intro pins s σ H Q I h
 rw [evalPart_none]
 exact Br ⟨none,H,I,.none,h⟩
theorem xp (h:PE X e te):PO X (some e) (tPart te):=by
 intro pins s σ H Q I hw
 rw [evalPart_some]
 refine thn (h pins s σ H _ I hw) fun u s1 ⟨x,H1,b,c,a⟩=>?_
 obtain ⟨i,rfl,q⟩:=a
 obtain ⟨t,rfl⟩:=c
 exact ⟨some i,H1,b,.int i t,q⟩
def SlR (X:Cx) (r:V->Option Int->Option Int->Hp->VK->Prop):Prop :=
 ∀ (pins:List (Addr × Obj)) (s:Shared) (σ:St) (H:Hp) (x:V) (v b a:Value) (lo hi:Option Int) (sl:Addr) (Q:VK),Inv X pins σ H s->RelV x v->s.heap.IsSliceOf sl b a .none->IsPart b lo->IsPart a hi->r x lo hi H Q ->
  ∃ T id,typeLookup (.type T) "__getitem__"=pure (some (.builtin id))/\s.TypeIs v T/\wpAny (model X.prog X.w) X.A (getItem v (.ref sl)) (EP X pins σ Q) X.xe s
theorem SlR.or (h:SlR X r) (h':SlR X r'):SlR X (fun x lo hi H Q=>r x lo hi H Q\/r' x lo hi H Q):=by
 intro pins s σ H x v d a lo hi sl Q I c b pl pu q
 rcases q with q | q
 ·exact h pins s σ H x v d a lo hi sl Q I c b pl pu q
 ·exact h' pins s σ H x v d a lo hi sl Q I c b pl pu q
def tSl (r:V->Option Int->Option Int->Hp->VK->Prop) (te:TE) (tl th:TO):TE:=fun σ H Q=>te σ H fun x H1=>tl σ H1 fun l H2=>th σ H2 fun u a=>r x l u a Q
theorem uy (B:SlR X r) (he:PE X e te) (o:PO X lo tl) (hu:PO X hi th):PE X (.Subscript e (.Slice lo hi none p2) pos) (tSl r te tl th):=by
 intro pins s σ H Q I h
 refine Subscript_ (thn (he pins s σ H _ I h) fun v s1 ⟨x,H1,p,j,i⟩=>?_)
 refine wpAny_Slice (thn (o pins s1 σ H1 _ p i) fun c s2 ⟨l,H2,y,pl,k⟩=>thn (hu pins s2 σ H2 _ y k) fun a s3 ⟨u,d,g,pu,t⟩=>?_)
 rw [evalPart_none]
 refine Br ?_
 have n:Inv X pins σ d { s3 with heap:=s3.heap.push { cls:=.type "slice",data:=.fields #[c,a,.none] } }:=g.kept (t':=s3.toks) fun b ob q=>Bv _ q
 obtain ⟨T,id,m,f,z⟩:=B pins { s3 with heap:=s3.heap.push { cls:=.type "slice",data:=.fields #[c,a,.none] } } σ d x v c a l u s3.heap.objs.size Q n j (Heap.IsSliceOf.new ..) pl pu t
 show wpAny (model X.prog X.w) X.A (subscriptTail e (.Slice lo hi none p2) v (.ref s3.heap.objs.size)) (EP X pins σ Q) X.xe { s3 with heap:=s3.heap.push { cls:=.type "slice",data:=.fields #[c,a,.none] } }
 exact tail_any (ops:=[.ref s3.heap.objs.size,v]) f m z (by with_unfolding_all rfl)
def nM (xs:List V) (lo hi:Option Int):List V:=(xs.drop (HT.sIx xs.length 0 lo)).take (HT.sIx xs.length xs.length hi - HT.sIx xs.length 0 lo)
theorem jg (xs:List V) (lo hi:Option Int):(nM xs lo hi).length<=xs.length:=by
 unfold nM
 rw [BY,List.length_drop]
 omega
def z6 (K:FG):V->Option Int->Option Int->Hp->VK->Prop:=fun x lo hi H Q=>∃ a xs,x=.ref a/\SqT K H a xs /\
 ¬ (HT.sIx xs.length 0 lo=0/\HT.sIx xs.length xs.length hi=xs.length)/\∀ p,H p=none->Q (.ref p) (upd H p (.tup (nM xs lo hi)))
theorem sl_tup:SlR X (z6 X.K):=by
 intro pins s σ H x v i g lo hi sl Q I f e pl pu h
 obtain ⟨a,xs,rfl,d,hw,q⟩:=h
 cases f
 obtain ⟨its,r,c,hz⟩:=I.tuple d
 have hlen:its.toArray.size=xs.length:=by rw [BO];exact r.length.symm
 refine ⟨"tuple",_,PyProof.Rows.slot_tuple_getitem.lookup,c.typeIs,?_⟩
 refine HT.getItem_tuple_cut c e pl pu (by rw [hlen];exact hw) ?_ (by rw [hlen];exact hz)
 rw [hlen]
 refine ⟨.ref s.heap.objs.size,_,I.laid (t':=s.toks) (o:=.tup (nM xs lo hi)) (fun b ob q=>Bv _ q) (BL _) ?_,rfl,q _ (I.hok.fresh (BL _))⟩
 exact ⟨B8 (jg xs lo hi) hz,_,(r.drop (HT.sIx xs.length 0 lo)).take (HT.sIx xs.length xs.length hi - HT.sIx xs.length 0 lo),IsTupD.new _ _⟩
def qb (K:FG):R2:=fun x y H Q=>∃ a b xs ys,x=.ref a/\y=.ref b/\SqT K H a xs/\SqT K H b ys/\xs ≠ []/\xs.length+ys.length<=sizeLine /\
 (ys=[]->Q (.ref a) H)/\(ys ≠ []->∀ p,H p=none->Q (.ref p) (upd H p (.tup (xs ++ ys))))
theorem Vals.nil_iff (r:Vals xs us):us=[] ↔ xs=[]:=by
 cases r with
 | nil=>simp
 | cons _ _=>simp
theorem op_catT:OpR X (binaryOp .Add) (qb X.K):=by
 intro pins s σ H x y v u Q I n m h
 obtain ⟨a,b,xs,ys,rfl,rfl,l,g,f,hz,j,k⟩:=h
 cases n
 cases m
 obtain ⟨its,d,i,_⟩:=I.tuple l
 obtain ⟨e,c,p2,_⟩:=I.tuple g
 refine HT.cat_tup i p2 (fun z=>f (d.nil_iff.mp z)) (fun z=>⟨.ref a,H,I,rfl,j (c.nil_iff.mp z)⟩) (fun z=>?_) (by rw [<- d.length,<- c.length];exact hz)
 refine ⟨.ref s.heap.objs.size,_,I.laid (t':=s.toks) (o:=.tup (xs ++ ys)) (fun b ob q=>Bv _ q) (BL _) ?_,rfl,k (fun w=>z (c.nil_iff.mpr w)) _ (I.hok.fresh (BL _))⟩
 exact ⟨by rw [BV];exact hz,_,d.append c,IsTupD.new _ _⟩
end
end L2
namespace L2
open PySem PySem.Spec PyProof.Rows
def ixN (n:Nat) (i:Int):Option Nat:=if 0<=i then (if i < n then some i.toNat else none) else if -(n:Int)<=i then some (i+n).toNat else none
def atI {α:Type} (xs:List α) (i:Int):Option α:=(ixN xs.length i).bind fun j=>xs[j]?
theorem qt {n:Nat} {i:Int} {j:Nat} (h:ixN n i=some j):seqIndex? i n=some j/\j < n/\-(n:Int)<=i/\i < n:=by
 unfold ixN at h
 by_cases h0:0<=i
 ·rw [if_pos h0] at h
  by_cases h1:i < n
  ·rw [if_pos h1] at h
   have e:i.toNat=j:=Ce h
   exact ⟨by rw [seqIndex_of h0 h1,e],by omega,by omega,h1⟩
  ·rw [if_neg h1] at h;cases h
 ·rw [if_neg h0] at h
  by_cases h1:-(n:Int)<=i
  ·rw [if_pos h1] at h
   have e:(i+n).toNat=j:=Ce h
   exact ⟨by rw [seqIndex_neg (by omega) h1,e],by omega,h1,by omega⟩
  ·rw [if_neg h1] at h;cases h
theorem qO {i:Int} (h:atI xs i=some v):∃ j,seqIndex? i xs.length=some j/\xs[j]?=some v/\j < xs.length/\-(xs.length:Int)<=i/\i < xs.length:=by
 unfold atI at h
 cases e:ixN xs.length i with
 | none=>rw [e] at h;cases h
 | some j =>
  rw [e] at h
  obtain ⟨h1,h2,h3,a⟩:=qt e
  exact ⟨j,h1,h,h2,h3,a⟩
def qQ (b:Expr):Prop:=∀ o i,subscripted b false o i=operate [o,i] (getItem o i)
def IxR (X:Cx) (r:R2):Prop :=
 ∀ (value slice:Expr) (pins:List (Addr × Obj)) (s:Shared) (σ:St) (H:Hp) (x y:V) (v u:Value) (Q:VK),Inv X pins σ H s->RelV x v->RelV y u->r x y H Q ->
  subscripted slice false v u=operate [v,u] (getItem v u)->wpAny (model X.prog X.w) X.A (subscriptTail value slice v u) (EP X pins σ Q) X.xe s
def MtR (X:Cx) (id:String) (r:V->List V->Hp->VK->Prop):Prop :=
 ∀ (pins:List (Addr × Obj)) (s:Shared) (σ:St) (H:Hp) (x:V) (xs:List V) (v:Value) (us:List Value) (Q:VK),Inv X pins σ H s->RelV x v->Vals xs us->r x xs H Q ->
  wpAny (model X.prog X.w) X.A (call (.builtin id) (v :: us)) (EP X pins σ Q) X.xe s
section
variable {X:Cx} {a b:Expr} {ta tb:TE} {pos:Pos}
theorem IxR.or (h:IxR X r) (h':IxR X r'):IxR X (fun x y H Q=>r x y H Q\/r' x y H Q):=by
 intro value slice pins s σ H x y v u Q I c b q a
 rcases q with q | q
 ·exact h value slice pins s σ H x y v u Q I c b q a
 ·exact h' value slice pins s σ H x y v u Q I c b q a
theorem pe_ix (j:IxR X r) (e:PE X a ta) (c:PE X b tb) (d:qQ b):PE X (.Subscript a b pos) (tOp r ta tb):=by
 intro pins s σ H Q I h
 exact Subscript_ (Bf e c I h fun v u s2 x y H2 g i f q=>j a b pins s2 σ H2 x y v u Q g i f q (d _ _))
def uc (K:FG):R2:=fun x y H Q=>∃ p xs i v,x=.ref p/\y=.int i/\SqL K H p xs/\atI xs i=some v/\Q v H
def ub (K:FG):R2:=fun x y H Q=>∃ p xs i v,x=.ref p/\y=.int i/\SqT K H p xs/\atI xs i=some v/\Q v H
theorem ix_list:IxR X (uc X.K):=by
 intro value slice pins s σ H x y v u Q I k m h d
 obtain ⟨p,xs,i,z,rfl,rfl,e,he,q⟩:=h
 cases k
 obtain ⟨t,rfl⟩:=m
 obtain ⟨its,r,pl,hz⟩:=I.list e
 obtain ⟨j,h1,h2,h3,f,g⟩:=qO he
 obtain ⟨w,c,b⟩:=r.get h2
 have l:=r.length
 have n:=lQ
 have fin:EP X pins σ Q w s:=⟨z,H,I,b,q⟩
 by_cases h0:0<=i
 ·have a:i.toNat=j:=by
   rw [seqIndex_of h0 g] at h1
   exact Ce h1
  exact item_listR pl.isList h0 (by omega) (by rw [a];simpa using c) fin d
 ·have a:(i+(its.toArray.size:Int)).toNat=j:=by
   rw [seqIndex_neg (by omega) f] at h1
   rw [BO,<- l]
   exact Ce h1
  exact subscriptTail_builtinR (x:=w) pl.isList.typeIs slot_list_getitem.lookup
   (wpAny_getItem_list_neg (Q:=fun r s'=>r=w/\EP X pins σ Q r s') pl.isList (by omega) (by rw [BO] <;> omega) (by omega) (by rw [a];simpa using c) ⟨rfl,fin⟩) d
theorem AS:IxR X (ub X.K):=by
 intro value slice pins s σ H x y v u Q I d g h e
 obtain ⟨p,xs,i,z,rfl,rfl,b,he,q⟩:=h
 cases d
 obtain ⟨t,rfl⟩:=g
 obtain ⟨its,r,pl,hz⟩:=I.tuple b
 obtain ⟨j,h1,h2,h3,k,l⟩:=qO he
 obtain ⟨w,c,a⟩:=r.get h2
 have f:=r.length
 have m:=lQ
 have fin:EP X pins σ Q w s:=⟨z,H,I,a,q⟩
 exact subscriptTail_builtinR (x:=w) pl.typeIs slot_tuple_getitem.lookup
  (getItem_tuple (j:=j) (Q:=fun r s'=>r=w/\EP X pins σ Q r s') pl (by omega) (by omega) (by rw [BO,<- f];exact h1) (by simpa using c) ⟨rfl,fin⟩) e
theorem oX (its:List Value) (n j:Nat) (u:Value):Obj.mapSeq (·.setIfInBounds j u) { cls:=.type "list",data:=.seq its.toArray n } = { cls:=.type "list",data:=.seq (its.set j u).toArray n }:=by
 simp [Obj.mapSeq]
theorem Inv.lst {pins:List (Addr × Obj)} {σ:St} {H:Hp} {s:Shared} {p:Addr} {xs:List V} (I:Inv X pins σ H s) (h:H p=some (.lst xs)) :
  ∃ (its:List Value) (n:Nat),Vals xs its/\s.heap.get? p=some { cls:=.type "list",data:=.seq its.toArray n }/\xs.length<=sizeLine:=by
 obtain ⟨z,its,n,r,e⟩:=I.hok p _ h
 exact ⟨its,n,r,e,z⟩
theorem Inv.lstUpd {its its':List Value} {n a:Nat} (I:Inv X pins σ H s) (h:H p=some (.lst xs)) (d:s.heap.get? p=some { cls:=.type "list",data:=.seq its.toArray n }) (hf:f { cls:=.type "list",data:=.seq its.toArray n } = { cls:=.type "list",data:=.seq its'.toArray a }) (r:Vals ys its') (hz:ys.length<=sizeLine) (t:Nat) :
  Inv X pins σ (upd H p (.lst ys)) { s with heap:=s.heap.update p f,toks:=t }:=by
 have e:(s.heap.update p f).get? p=some { cls:=.type "list",data:=.seq its'.toArray a }:=by
  rw [BU f d (by rw [hf] <;> rfl),hf]
 refine I.write (x:=p) (e:=p) (by rw [h];trivial) (.inl rfl) (fun b u c q=>(B5 _ _ (Ne.symm c)).trans q) ⟨_,e⟩ ?_
 exact ⟨hz,its',a,r,e⟩
def jL:V->V->V->Hp->(Hp->Prop)->Prop:=fun o i v H Q=>∃ p xs k j,o=.ref p/\i=.int k/\H p=some (.lst xs)/\ixN xs.length k=some j/\Q (upd H p (.lst (xs.set j v)))
theorem tG:wc X jL:=by
 intro pins s σ H o i v ov x u Q I l w m h
 obtain ⟨p,xs,k,j,rfl,rfl,e,g,q⟩:=h
 cases l
 obtain ⟨t,rfl⟩:=w
 obtain ⟨its,n,r,c,hz⟩:=I.lst e
 obtain ⟨h1,h2,h3,d⟩:=qt g
 have b:=r.length
 have y:=lQ
 have f:Inv X pins σ (upd H p (.lst (xs.set j v))) { s with heap:=s.heap.update p (Obj.mapSeq (·.setIfInBounds j u)) } :=
  I.lstUpd e c (oX its n j u) (r.set m j) (by rw [List.length_set];exact hz) s.toks
 by_cases h0:0<=k
 ·have a:k.toNat=j:=by
   rw [seqIndex_of h0 d] at h1
   exact Ce h1
  exact PySem.W.ki_setAt c h0 (by omega) (by rw [BO,<- b];exact d) (by rw [a];exact ⟨_,f,q⟩)
 ·have a:(k+(its.toArray.size:Int)).toNat=j:=by
   rw [seqIndex_neg (by omega) h3] at h1
   rw [BO,<- b]
   exact Ce h1
  exact PySem.W.ki_setBack c (by omega) (by rw [BO,<- b];exact h3) (by omega) (by rw [a];exact ⟨_,f,q⟩)
theorem lx (lo hi:Option Int) (n:Nat):(sliceBounds lo hi none n).1=((HT.sIx n 0 lo:Nat):Int)/\(sliceBounds lo hi none n).2.1=((HT.sIx n n hi:Nat):Int)/\(sliceBounds lo hi none n).2.2=1:=by
 refine ⟨?_,?_,rfl⟩
 ·cases lo with
  | none=>simp [sliceBounds,HT.sIx]
  | some i =>
   simp only [sliceBounds,HT.sIx,Option.getD_none,show (1:Int) > 0 by decide,if_true]
   by_cases h:i < 0
   ·simp only [h,if_true] <;> omega
   ·simp only [h,if_false] <;> omega
 ·cases hi with
  | none=>simp [sliceBounds,HT.sIx]
  | some i =>
   simp only [sliceBounds,HT.sIx,Option.getD_none,show (1:Int) > 0 by decide,if_true]
   by_cases h:i < 0
   ·simp only [h,if_true] <;> omega
   ·simp only [h,if_false] <;> omega
theorem kb (its:List Value) (lo hi:Option Int):slicePick its.toArray lo hi none=((its.drop (HT.sIx its.length 0 lo)).take (HT.sIx its.length its.length hi - HT.sIx its.length 0 lo)).toArray:=by
 obtain ⟨h1,h2,h3⟩:=lx lo hi its.toArray.size
 unfold slicePick
 rw [h1,h2,h3]
 simp only [sliceRange_one,pick_run,BO] <;> rfl
def z7 (K:FG):V->Option Int->Option Int->Hp->VK->Prop:=fun x lo hi H Q=>∃ a xs,x=.ref a/\SqL K H a xs/\∀ p,H p=none->Q (.ref p) (upd H p (.lst (nM xs lo hi)))
theorem sl_list:SlR X (z7 X.K):=by
 intro pins s σ H x v i g lo hi sl Q I f e pl pu h
 obtain ⟨a,xs,rfl,d,q⟩:=h
 cases f
 obtain ⟨its,r,c,hz⟩:=I.list d
 have hlen:=r.length
 refine ⟨"list",_,slot_list_getitem.lookup,c.isList.typeIs,?_⟩
 refine wpAny_getItem_list_slice c.isList e pl pu .none (by simp) ?_ (by rw [BO] <;> omega)
 rw [kb,<- hlen]
 refine ⟨.ref s.heap.objs.size,_,I.laid (t':=s.toks) (o:=.lst (nM xs lo hi)) (fun b ob q=>Bv _ q) (BL _) ?_,rfl,q _ (I.hok.fresh (BL _))⟩
 exact ⟨B8 (jg xs lo hi) hz,_,0,(r.drop (HT.sIx xs.length 0 lo)).take (HT.sIx xs.length xs.length hi - HT.sIx xs.length 0 lo),BE _ rfl⟩
theorem l4:bX X (.builtin "len") (fun xs H Q=>∃ p ys,xs=[.ref p]/\(SqL X.K H p ys\/SqT X.K H p ys)/\Q (.int ys.length) H):=by
 intro pins s σ H xs us Q I r h
 obtain ⟨p,ys,rfl,a,q⟩:=h
 obtain ⟨u,rfl,c⟩:=du r
 cases c
 have d:=lQ
 rcases a with a | a
 ·obtain ⟨its,b,pl,hz⟩:=I.list a
  have hlen:=b.length
  exact Calls.call_len_list pl.isList (by simp only [BO] <;> omega) ⟨.int ys.length,H,I.tok _,⟨s.toks+1,by rw [BO,hlen]⟩,q⟩
 ·obtain ⟨its,b,pl,hz⟩:=I.tuple a
  have hlen:=b.length
  exact len_tuple pl (by simp only [BO] <;> omega) ⟨.int ys.length,H,I.tok _,⟨s.toks+1,by rw [BO,hlen]⟩,q⟩
theorem lZ:bX X (.type "list") (fun xs H Q=>∃ p ys,xs=[.ref p]/\(SqL X.K H p ys\/SqT X.K H p ys)/\∀ l,H l=none->Q (.ref l) (upd H l (.lst ys))):=by
 intro pins s σ H xs us Q I r h
 obtain ⟨p,ys,rfl,d,q⟩:=h
 obtain ⟨u,rfl,i⟩:=du r
 cases i
 have fin:∀ (its:List Value),Vals ys its->ys.length<=sizeLine->∀ (h':Heap) (a:Nat),(∀ b o',s.heap.get? b=some o'->h'.get? b=some o') ->
   h'.get? s.heap.objs.size=some { cls:=.type "list",dict:=none,data:=.seq its.toArray a,slots:=#[] }->EP X pins σ Q (.ref s.heap.objs.size) { s with heap:=h' }:=fun its c hz h' a kp e =>
  ⟨.ref s.heap.objs.size,_,I.laid (t':=s.toks) kp (BL _) (show ObjOk X.prog X.w _ h' _ (.lst ys) from ⟨hz,its,a,c,e⟩),rfl,q _ (I.hok.fresh (BL _))⟩
 rcases d with d | d
 ·obtain ⟨its,c,pl,hz⟩:=I.list d
  have hlen:=c.length
  obtain ⟨o,g,f,n,hd⟩:=pl.isList
  exact call_list_seq p (.inl rfl) g f hd (fun h' a kp e=>fin its c hz h' a kp e) (by simp only [BO] <;> omega)
 ·obtain ⟨its,c,pl,hz⟩:=I.tuple d
  have hlen:=c.length
  obtain ⟨o,g,f,n,hd⟩:=pl
  exact call_list_seq p (.inr rfl) g f hd (fun h' a kp e=>fin its c hz h' a kp e) (by simp only [BO] <;> omega)
theorem kh:bX X (.type "tuple") (fun xs H Q=>∃ p ys,xs=[.ref p]/\((SqL X.K H p ys/\∀ l,H l=none->Q (.ref l) (upd H l (.tup ys)))\/(SqT X.K H p ys/\Q (.ref p) H))):=by
 intro pins s σ H xs us Q I r h
 obtain ⟨p,ys,rfl,h⟩:=h
 obtain ⟨u,rfl,g⟩:=du r
 cases g
 rcases h with ⟨a,q⟩ | ⟨a,q⟩
 ·obtain ⟨its,c,pl,hz⟩:=I.list a
  have hlen:=c.length
  refine call_tuple_list pl.isList (fun h' kp=>?_) (by simp only [BO] <;> omega)
  have d:Inv X pins σ H { s with heap:=h' }:=I.kept (t':=s.toks) kp
  have f:Inv X pins σ (upd H h'.objs.size (.tup ys)) { s with heap:=h'.push { cls:=.type "tuple",data:=.seq its.toArray } } :=
   d.laid (t':=s.toks) (fun b o e=>Bv _ e) (BL _) (show ObjOk X.prog X.w _ _ _ (.tup ys) from ⟨hz,its,c,IsTupD.new _ _⟩)
  exact ⟨.ref h'.objs.size,_,f,rfl,q _ (d.hok.fresh (BL _))⟩
 ·obtain ⟨its,c,pl,hz⟩:=I.tuple a
  exact call_tuple_same pl ⟨.ref p,H,I,rfl,q⟩
def tyV (K:FG) (T:String) (x:V) (H:Hp):Prop:=match x with
 | .str _=>T = "str"
 | .int _=>T = "int"
 | .ref p=>(T = "list"/\∃ xs,SqL K H p xs)\/(T = "tuple"/\((∃ o,K.lookup p=some o/\o.cls=.type "tuple"/\o.dict=none)\/∃ xs,H p=some (.tup xs))) \/
   (T = "dict"/\((∃ kvs,H p=some (.dK kvs))\/∃ kvs,H p=some (.dT kvs)))\/(T = "set"/\∃ S n,H p=some (.set S n))
 | _=>False
theorem zb (I:Inv X pins σ H s) (r:RelV x v) (ty:tyV X.K T x H) :
  s.TypeIs v T/\∀ a,v=.ref a->∃ ob,s.heap.get? a=some ob/\ob.dict=none:=by
 cases x with
 | str z =>
  obtain ⟨t,rfl⟩:=r
  cases (show T = "str" from ty)
  exact ⟨typeIs_str s z t,fun _ e=>nomatch e⟩
 | int i =>
  obtain ⟨t,rfl⟩:=r
  cases (show T = "int" from ty)
  exact ⟨typeIs_int s i t,fun _ e=>nomatch e⟩
 | ref p =>
  cases r
  rcases ty with ⟨rfl,xs,j⟩ | ⟨rfl,⟨o,b,h,hd⟩ | ⟨xs,g⟩⟩ | ⟨rfl,b⟩ | ⟨rfl,S,n,b⟩
  ·obtain ⟨its,_,pl,_⟩:=I.list j
   refine ⟨pl.isList.typeIs,fun a e=>?_⟩
   cases e
   obtain ⟨o,n,e,c,hd,_⟩:=pl
   exact ⟨o,e,hd⟩
  ·refine ⟨⟨o,I.kIn p o b,h⟩,fun a e=>?_⟩
   cases e
   exact ⟨o,I.kIn _ o b,hd⟩
  ·obtain ⟨_,its,_,o,e,c,n,d⟩:=I.hok p _ g
   refine ⟨⟨o,e,c⟩,fun a f=>?_⟩
   cases f
   exact ⟨o,e,congrArg Prod.snd d⟩
  ·have z:∃ o,s.heap.get? p=some o/\o.ExactDict:=by
    rcases b with ⟨kvs,b⟩ | ⟨kvs,b⟩
    ·obtain ⟨_,_,_,_,o,_,_,e,ex,_⟩:=I.hok p _ b
     exact ⟨o,e,ex⟩
    ·obtain ⟨_,_,_,_,o,_,_,e,ex,_⟩:=I.hok p _ b
     exact ⟨o,e,ex⟩
   obtain ⟨o,e,ex⟩:=z
   refine ⟨⟨o,e,ex.1⟩,fun a f=>?_⟩
   cases f
   exact ⟨o,e,ex.2.1⟩
  ·obtain ⟨o,_,_,_,e,ex,_⟩:=I.hok p _ b
   refine ⟨⟨o,e,ex.1⟩,fun a f=>?_⟩
   cases f
   exact ⟨o,e,ex.2.1⟩
 | _=>exact False.elim ty
def tBM (K:FG) (T:String) (r:V->List V->Hp->VK->Prop) (to:TE) (t:TA):TE:=fun σ H Q=>to σ H fun x H1=>tyV K T x H1/\t σ H1 fun xs H2=>r x xs H2 Q
variable {o e:Expr} {es:List Expr} {to:TE} {t:TA} {name:Str} {apos cpos:Pos} {T id:String} {r:V->List V->Hp->VK->Prop}
theorem pe_bm (n:PlainAttrs T) (slot:Slot T name id) (f:typeOf (.builtin id)=pure (.type "method_descriptor")) (hm:MtR X id r) (p:PE X o to) (u:PA X (e :: es) t)
  (c:attributeBase o name X.env (eval o X.env)=eval o X.env:=by rfl)
  (d:((backTo cpos (starEach (e :: es) X.env)).all (fun x=>!x.1) && (backToKw cpos (keywordEach [] X.env)).all (fun x=>x.1.isSome)
   && decide ((e :: es).length+([]:List Keyword).length+(if ([]:List Keyword).isEmpty then 0 else 1) < 30))=true:=by rfl)
  (b:(apos.endLine == cpos.line)=true:=by rfl) (l:starEach (e :: es) X.env=(false,eval e X.env) :: starEach es X.env:=by rfl) (a:(backTo cpos (starEach es X.env)).any (·.1)=false:=by rfl) :
  PE X (.Call (.Attribute o name apos) (e :: es) [] cpos) (tBM X.K T r to t):=by
 intro pins s σ H Q I h
 refine wpAny_Call_method_late c d b rfl (thn (p pins s σ H _ I h) fun v s1 ⟨x,H1,g,i,ty,m⟩=>?_)
 obtain ⟨h1,h2⟩:=zb g i ty
 refine ⟨T,id,n,slot,f,h1,h2,?_⟩
 have j:=u cpos pins s1 σ H1 _ g m
 rw [l] at j ⊢
 refine Calls.callWith_builtin (by show (false || (backTo cpos (starEach es X.env)).any (·.1))=false;rw [a] <;> rfl) (Calls.evalArgs_plain ?_)
 exact thn j fun us s2 ⟨k,H2,y,w,q⟩=>hm pins s2 σ H2 x k v us Q y i w q
end
end L2
namespace L2
open PySem PySem.Spec PyProof.Rows
def MtM (X:Cx) (id:String) (r:V->List V->Hp->VK->Prop):Prop :=
 ∀ (pins:List (Addr × Obj)) (s:Shared) (σ:St) (H:Hp) (x:V) (xs:List V) (v:Value) (us:List Value) (Q:VK),Inv X pins σ H s->RelV x v->Vals xs us->r x xs H Q ->
  wpAny (model X.prog X.w) X.A (call (.builtin id) (v :: us)) (EP X pins σ Q) X.xe s
theorem Vals.one:∀ {x:V} {us:List Value},Vals [x] us->∃ u,us=[u]/\RelV x u
 | _,_,.cons r .nil=>⟨_,rfl,r⟩
theorem Vals.rep (h:Vals xs us):∀ k:Nat,Vals (List.replicate k xs).flatten (List.replicate k us).flatten
 | 0=>.nil
 | k+1=>by
  rw [List.replicate_succ,List.replicate_succ,List.flatten_cons,List.flatten_cons]
  exact Vals.append h (Vals.rep h k)
section
variable {X:Cx} {pins:List (Addr × Obj)} {σ:St} {H:Hp} {s:Shared} {l b:Addr} {xs ys zs:List V}
theorem Inv.lset {its its':List Value} {n:Nat} {t':Nat} (I:Inv X pins σ H s) (c:H l=some (.lst xs)) (e:s.heap.get? l=some { cls:=.type "list",data:=.seq its.toArray n }) (hf:f its.toArray=its'.toArray) (b:Vals ys its') (hz:ys.length<=sizeLine) :
  Inv X pins σ (upd H l (.lst ys)) { s with heap:=s.heap.update l (Obj.mapSeq f),toks:=t' }:=by
 have q:=PySem.IsL.update e f
 rw [hf] at q
 refine I.write (x:=l) (e:=l) (by rw [c];exact trivial) (.inl rfl) (fun d u a hu=>(B5 s.heap (Obj.mapSeq f) (Ne.symm a)).trans hu) ⟨_,q⟩ ?_
 exact ⟨hz,its',_,b,q⟩
theorem Inv.lnew {t':Nat} (I:Inv X pins σ H s) (a:Vals ys its) (hz:ys.length<=sizeLine) :
  Inv X pins σ (upd H s.heap.objs.size (.lst ys)) { s with heap:=s.heap.push { cls:=.type "list",data:=.seq its.toArray },toks:=t' } :=
 I.laid (fun _ _ q=>Bv _ q) (BL _) ⟨hz,its,0,a,BE _ rfl⟩
theorem Inv.fresh (I:Inv X pins σ H s):H s.heap.objs.size=none:=I.hok.fresh (BL _)
theorem Inv.lstM (I:Inv X pins σ H s) (a:H l=some (.lst xs)):xs.length<=sizeLine/\∃ (its:List Value) (n:Nat),Vals xs its/\xs.length=its.length/\s.heap.get? l=some { cls:=.type "list",data:=.seq its.toArray n }:=by
 obtain ⟨z,its,n,r,e⟩:=I.hok l _ a
 exact ⟨z,its,n,r,r.length,e⟩
theorem uF {n:Nat} (h:n<=sizeLine):Builtin.List.listTooLong n=false:=by
 unfold Builtin.List.listTooLong
 exact BR (by omega)
end
section
variable {X:Cx}
def qc:V->List V->Hp->VK->Prop:=fun x a H Q=>∃ l xs y,x=.ref l/\a=[y]/\H l=some (.lst xs)/\xs.length < sizeLine/\Q .non (upd H l (.lst (xs ++ [y])))
theorem rL:MtM X "list.append" qc:=by
 intro pins s σ H x f v us Q I d c h
 obtain ⟨l,xs,y,rfl,rfl,a,hz,q⟩:=h
 cases d
 obtain ⟨u,rfl,b⟩:=c.one
 obtain ⟨z,its,n,r,g,e⟩:=I.lstM a
 refine call_meets F.slot_list_append ⟨_,e,rfl⟩ F.entry_list_append (F.args_list_append_2 _ _) (PySem.list_append l its.toArray n u (by rw [BO];omega)) ⟨e,?_⟩
 refine ⟨.non,_,I.lset (its':=its ++ [u]) a e (by simp) (r.append (.cons b .nil)) ?_,rfl,q⟩
 rw [BV,List.length_singleton]
 omega
def p9:V->List V->Hp->VK->Prop:=fun x a H Q=>∃ l b xs zs,x=.ref l/\a=[.ref b]/\H l=some (.lst xs)/\H b=some (.lst zs)/\xs.length+zs.length<=sizeLine/\Q .non (upd H l (.lst (xs ++ zs)))
theorem rK:MtM X "list.extend" p9:=by
 intro pins s σ H x t v us Q I p o h
 obtain ⟨l,b,xs,zs,rfl,rfl,d,f,hz,q⟩:=h
 cases p
 obtain ⟨u,rfl,m⟩:=o.one
 cases m
 obtain ⟨z,its,n,r,w,e⟩:=I.lstM d
 obtain ⟨y,a,j,i,g,k⟩:=I.lstM f
 have hsz:its.toArray.size+a.toArray.size<=sizeLine:=by rw [BO,BO];omega
 have c:¬ (!its.toArray.isEmpty && Builtin.List.listTooLong (its.toArray.size+a.toArray.size))=true:=by
  rw [uF hsz,Bool.and_false]
  exact BM
 refine call_meets F.slot_list_extend ⟨_,e,rfl⟩ F.entry_list_extend (F.args_list_extend_2 _ _)
  (AutoSeq1.list_extend_list_list_0 l its.toArray n b a.toArray j c (by rw [BO];omega) (by omega)) ⟨e,k,?_⟩
 refine ⟨.non,_,I.lset (its':=its ++ a) d e (by simp) (r.append i) ?_,rfl,q⟩
 rw [BV]
 omega
def xc:R2:=fun x y H Q=>∃ l b xs zs,x=.ref l/\y=.ref b/\H l=some (.lst xs)/\H b=some (.lst zs)/\xs.length+zs.length<=sizeLine/\∀ p,H p=none->Q (.ref p) (upd H p (.lst (xs ++ zs)))
theorem Ay:OpR X (binaryOp .Add) xc:=by
 intro pins s σ H x y v u Q I m i h
 obtain ⟨l,b,xs,zs,rfl,rfl,g,c,hz,q⟩:=h
 cases m
 cases i
 obtain ⟨z,its,n,r,o,e⟩:=I.lstM g
 obtain ⟨t,a,p,f,d,j⟩:=I.lstM c
 refine PySem.P.add_list e j ?_ (by rw [BO,BO];omega)
 have k:its.toArray ++ a.toArray=(its ++ a).toArray:=by simp
 rw [k]
 exact ⟨.ref _,_,I.lnew (t':=s.toks) (r.append f) (by rw [BV];omega),rfl,q _ I.fresh⟩
end
end L2
namespace Att
open PySem PySem.W PySem.Calls PyProof.Rows
theorem jm:∀ (ns:List Int) (c:List Value),WellAll P h c (ns.map WData.int)->IntsAre c ns:=by
 intro ns
 induction ns with
 | nil =>
  intro c w
  rw [List.map_nil] at w
  cases w
  exact .nil
 | cons n ns ih =>
  intro c w
  rw [BP] at w
  cases w with
  | cons a b =>
   cases a
   exact .cons _ _ (ih _ b)
theorem rf {l:OpenLaw} {n:Nat} (m:l.most=some n) (b:l.row.toRowW.claim.pre args=true) (f:WellAll P h vals args) :
  ∃ a i ns,vals=[Value.ref a]/\args=[WData.list (ns.map WData.int)]/\h.get? a=some { cls:=.type "list",data:=.seq i.toArray }/\IntsAre i ns/\ns.length<=n:=by
 have g:WShape.hasAll [] args [.list .int]=true:=(pre_splitW b).1
 have j:l.pre.holds [] { args:=args }=true:=(pre_splitW b).2
 obtain ⟨d,r,rfl,h1,h2⟩:=hasAllW_cons g
 obtain rfl:=hasAllW_nil h2
 obtain ⟨xs,rfl,h3⟩:=hasW_list h1
 obtain ⟨ns,rfl⟩:=items_int h3
 have hlen:ns.length<=n:=by
  unfold OpenLaw.pre at j
  have c:(WTm.not (.lt (.lit (.int (n:Int))) (.len (.arg 0)))).holds [] { args:=[.list (ns.map .int)] }=true:=by
   have c:=(holds_andW j).1
   rw [m] at c
   exact c
  have e:=condW_of c (w_not (w_lt w_lit (w_len_list (w_arg rfl))))
  rw [BF] at e
  refine Nat.le_of_not_lt fun q=>?_
  have k:(n:Int) < ((ns.length:Nat):Int):=by omega
  first
   | (rw [BQ k] at e;exact absurd e (by decide))
   | (simp at e;omega)
 cases f with
 | cons w1 w2 =>
  cases w2
  cases w1 with
  | list ho hall=>exact ⟨_,_,ns,rfl,rfl,ho,jm ns _ hall,hlen⟩
theorem rz (l:OpenLaw) (args:List WData):l.row.toRowW.claim.post args (.bool true) args=true :=
 postW_of (r:=l.row.toRowW) (X:=(true == true))
  (show WShape.has [] (.bool true) .bool=true by first | rfl | decide | simp [WShape.has,WShape.arms,WShape.armsAll])
  (show (WTm.eq .res (.lit (.bool true))).value [] { args:=args,res:=some (.bool true),after:=args }=some (.bool (true == true)) from w_eq_bool (w_res rfl) w_lit) rfl
theorem attach_call {l:OpenLaw} {n:Nat} (x:l.most=some n) (m:d.params.defaults=[]) (call:∀ (w:World) (s₀ b:Shared) (mg mb:Str->Option Value) (e:Addr) (o:Obj) (pm cd doc:Value) (a:Addr) (c:List Value) (ns:List Int),
   Ground q loose [] XP w s₀ mg mb b.heap->YP w b.heap ->
   b.heap.get? e=some o->o.data=.func (docDef d.name d.params d.body d.scope pm cd doc)->b.heap.CodeRec cd d.name->mg d.name=some (.ref e) ->
   b.heap.get? a=some { cls:=.type "list",data:=.seq c.toArray }->IntsAre c ns->ns.length<=n->b.gens = #[] ->
   codeAny (model l.prog w) callerA (.call (.ref e) ⟨[.ref a],[]⟩) (fun r s'=>r=.ok (.ret (.bool true))/\OldK b.heap s'.heap/\s'.os=b.os/\AllBare s'.gens) b) :
  WalkO q loose XP YP l.row.toRowW d [] (fun f c=>PySem.call f c):=by
 intro w s₀ b mg mb G Y e o pm cd doc y kV z hd j s i B args vals as h p v k A
 obtain rfl:y=.none:=Dflts.none s m
 obtain rfl:kV=.none:=Dflts.noKw s
 obtain ⟨a,c,ns,rfl,rfl,g,hints,hlen⟩:=rf x h k
 refine enter_call (codeAny_mono (call w s₀ b mg mb e o pm cd doc a c ns G Y z (fd_plain hd) j i g hints hlen B) fun r s' t=>?_)
 obtain ⟨rfl,h2,h3,u⟩:=t
 exact ⟨.inl ⟨.bool true,.bool true,[],rfl,fun _=>rfl,.bool true,rz l _,fun _=>⟨List.Pairwise.nil,fun _ hm=>(nomatch hm)⟩⟩,h2,h3,u⟩
end Att
namespace L2
open PySem PySem.Spec PyProof.Rows
theorem km:∀ {a:List Value} {ns:List Int},IntsAre a ns->Vals (ns.map V.int) a
 | _,_,.nil=>.nil
 | _,_,.cons n t h=>.cons ⟨t,rfl⟩ (km h)
def yw (H:Hp):Prop:=∀ b,H b=none\/∃ o xs,H b=some (.frz o (.lst xs))
theorem uV {K:FG} {k:Nat} (M:K.In s₁.heap) (p:s₁.heap.Ns mainGlobals mg) (f:s₁.heap.Ns builtinsNs mb) (D:∀ x:Str,x ≠ "__name__"->mb x=bootBuiltins x) (y:s₁.heap.NoLimit) (Z:s₁.gens = #[]) (C:s₁.heap.get? a=some { cls:=.type "list",data:=.seq vs.toArray }) (hi:IntsAre vs ns) (Q:ns.length<=sizeLine) (hr:Room k callerA) (F:∀ base:Heap,K.In base->base.Ns mainGlobals mg->FnOk P w K mg base CX k fa fd [x] sp) (i:∀ (s:Shared) (u:Value),BindsTo s fd ⟨[u],[]⟩ [(x,u)]) (L:∀ H:Hp,yw H->SqL K H a (ns.map V.int)->sp [.ref a] H (fun v _=>v=.bl true) fun _ _ _=>False) (J:∀ H e s',CX [] H s₁ (fun _ _ _=>False) e s'->False) :
  codeAny (model P w) callerA (.call (.ref fa) ⟨[.ref a],[]⟩) (fun r s'=>r=.ok (.ret (.bool true))/\OldK s₁.heap s'.heap/\s'.os=s₁.os/\AllBare s'.gens) s₁:=by
 have O:=km hi
 have A:=hi.length
 have core:∀ H:Hp,yw H->SqL K H a (ns.map V.int)->HOk P w H s₁.heap->(∀ b,H b ≠ none->b=a)->(H a ≠ none->K.lookup a=none) ->
   codeAny (model P w) callerA (.call (.ref fa) ⟨[.ref a],[]⟩) (fun r s'=>r=.ok (.ret (.bool true))/\OldK s₁.heap s'.heap/\s'.os=s₁.os/\AllBare s'.gens) s₁:=by
  intro H R X hok N W
  have c:∀ {b:Addr} {o:Obj},s₁.heap.get? b=some o->H b=none->(lU s₁.heap H).get? b=some o:=fun e n=>vd e n
  have G:∀ {b:Addr} {o:Obj} {es:Array DictEntry} {B:Nat},s₁.heap.get? b=some o->o.data=.dict es B->H b=none:=fun {b o es B} e d=>by
   cases q:H b with
   | none=>rfl
   | some u =>
    have E:b=a:=N b (by rw [q];simp)
    subst E
    rw [C] at e;cases e
    have d':Data.seq vs.toArray _=Data.dict es B:=d
    cases d'
  have g:∀ {b:Addr} {m:Str->Option Value},s₁.heap.Ns b m->(lU s₁.heap H).Ns b m:=fun {b m} ⟨o,es,B,e,d,r⟩=>⟨o,es,B,c e (G e d),d,r⟩
  have j:K.In (lU s₁.heap H):=fun b o e=>c (M b o e) (by
   cases q:H b with
   | none=>rfl
   | some u =>
    have E:b=a:=N b (by rw [q];simp)
    subst E
    rw [W (by rw [q];simp)] at e;cases e)
  have T:Mod K mg (lU s₁.heap H):=⟨j,g p,⟨mb,g f,D⟩,let ⟨mc,h1,h2⟩:=y;⟨mc,g h1,h2⟩⟩
  have e0:Env0 P w K mg (lU s₁.heap H) callerA [] s₁ H:=⟨rfl,T,fun b o e=>xA e,Nat.le_of_eq (rZ _ _),trivial,fun b f=>absurd (show b ∈ ([]:List Addr) from f) (by simp),hok,.of_eq Z⟩
  refine codeAny_mono ((F _ j (g p)).run callerA [] s₁ H ⟨[.ref a],[]⟩ [.ref a] [.ref a] _ _ hr e0 (i s₁ (.ref a)) (.cons rfl .nil) (L H R X)) fun r s' h=>?_
  cases r with
  | error e=>exact (J H e s' h).elim
  | ok fl =>
   cases fl with
   | next=>exact False.elim h
   | brk=>exact False.elim h
   | cont=>exact False.elim h
   | ret u =>
    obtain ⟨v,H',os,bare,un,l,r',q⟩:=h
    have S:v=.bl true:=q
    subst S
    obtain rfl:u=Value.bool true:=r'
    refine ⟨rfl,OldK.of_keep fun b o e=>?_,os,bare⟩
    cases q:H b with
    | none=>exact un.keep b o e q (by intro z;exact absurd (show b ∈ ([]:List Addr) from z) (by simp)) (by simp)
    | some u =>
     rcases R b with z | ⟨ob,xs,z⟩
     ·rw [q] at z;cases z
     ·have Y:=un.frzs b ob _ z
      obtain ⟨e1,_⟩:=hok b _ z
      obtain ⟨U,_⟩:=l b _ Y
      rw [e] at e1;cases e1
      exact U
 cases I:K.lookup a with
 | some o =>
  have e:=M a o I
  rw [C] at e
  cases e
  refine core (fun _=>none) (fun _=>.inl rfl) (.inr ⟨_,vs.toArray,_,I,rfl,rfl,rfl,by rw [BO,A];exact Q,by simpa using O⟩) (fun b u z=>by have t:(none:Option HO)=some u:=z;cases t) (fun b z=>absurd rfl z) fun z=>absurd rfl z
 | none =>
  refine core (fun b=>if b=a then some (.frz { cls:=.type "list",data:=.seq vs.toArray } (.lst (ns.map V.int))) else none) (fun b=>?_) (.inl (.inr ⟨{ cls:=.type "list",data:=.seq vs.toArray },if_pos rfl⟩)) (fun b u z=>?_) (fun b z=>?_) fun _=>I
  ·by_cases f:b=a
   ·exact .inr ⟨_,_,if_pos f⟩
   ·exact .inl (if_neg f)
  ·by_cases f:b=a
   ·have t:=(if_pos f).symm.trans z
    cases t
    subst f
    exact ⟨C,by rw [BF];exact Q,vs,_,O,C⟩
   ·have t:=(if_neg f).symm.trans z
    cases t
  ·by_cases f:b=a
   ·exact f
   ·exact absurd (if_neg f) z
end L2
namespace L2
open PySem PySem.Spec PyProof.Rows
end L2
namespace L2
open PySem PySem.Spec PyProof.Rows
abbrev CX0:CXT:=fun _ _ _ _ _ _=>False
abbrev E0:XK:=fun _ _ _=>False
theorem pass0:pN CX0 X E0:=fun _ _ _ _ _ _ _ h=>h.elim
structure Fun (K:FG) (x qual:Str) (st:Stmt) (f:Addr) (fd:FuncData):Prop where
 ex:∃ (oc:Value) (od:Option Addr) (kV doc pm:Value) (an:Option Addr) (cdv ct:Value) (osl:Array (Option Value)),
  fd=PySem.W.fnOf x qual (bd st) (aU st) (ah st) .none kV doc pm an cdv ct/\K.lookup f=some ⟨oc,od,.func fd,osl⟩/\PySem.W.codeIn K cdv qual=true
 kp:PySem.W.keepIn K (.ref f)=true
section
variable {P:Program} {w:World} {K:FG} {mg:Str->Option Value} {base:Heap}
theorem Fun.ok {st:Stmt} {k:Nat} (F:Fun K x qual st f fd) (S:FnScope N ps (ah st)) (len:∀ b H Q E,sp b H Q E->b.length=ps.length) (c:∀ (a:Value) (A:Around) (outer:List Env) (s:Shared) (H:Hp) (b:List V) (Q:VK) (E:XK),Room k (A.deeper (envOfC qual (ah st) s.heap.objs.size f a))->sp b H Q E ->
   ∃ t,PSs (nK CX0 P w K mg base N qual (ah st) f a A outer s H E).nox (aU st) t/\t { nx:=fun _ H'=>Q .non H',rt:=Q } (i5 N b) H):FnOk P w K mg base CX0 (k+1) f fd ps sp:=by
 obtain ⟨m,l,kV,doc,pm,an,a,ct,i,rfl,g,e⟩:=F.ex
 refine fn_of g e S len fun A outer s H b Q E j d=>?_
 obtain ⟨t,h,q⟩:=c a A outer s H b Q E j d
 exact ⟨t,h.nox,q⟩
theorem Fun.binds {st:Stmt} (F:Fun K x qual st f fd) (h:∀ (kV doc pm:Value) (an:Option Addr) (a ct:Value) (us:List Value),us.length=ps.length->bindArgs (PySem.W.fnOf x qual (bd st) (aU st) (ah st) .none kV doc pm an a ct) ⟨us,[]⟩=pure (ps.zip us)):Binds K fd ps []:=by
 obtain ⟨e,d,kV,doc,pm,an,a,ct,c,rfl,g,b⟩:=F.ex
 exact .all (h kV doc pm an a ct)
theorem AX {st:Stmt} {kV doc pm a ct:Value} (l:K.lookup f=some ⟨oc,od,.func (PySem.W.fnOf x qual (bd st) (aU st) (ah st) .none kV doc pm an a ct),osl⟩) (c:PySem.W.codeIn K a qual=true) (k:PySem.W.keepIn K (.ref f)=true):Fun K x qual st f (PySem.W.fnOf x qual (bd st) (aU st) (ah st) .none kV doc pm an a ct):=⟨⟨oc,od,kV,doc,pm,an,a,ct,osl,rfl,l,c⟩,k⟩
end
theorem hu_of {k:Nat} (a:Room k A):A.units+1 < cLine:=Nat.lt_of_le_of_lt (Nat.add_le_add_left (by decide:1<=64) _) a.units
def Same (H H':Hp):Prop:=∀ b o,H b=some o->H' b=some o
theorem Same.refl (H:Hp):Same H H:=fun _ _ h=>h
theorem Same.trans (a:Same H H1) (b:Same H1 H2):Same H H2:=fun c o h=>b c o (a c o h)
theorem Same.free (e:Same H H') (h:H' l=Option.none):H l=Option.none:=by
 cases q:H l with
 | none=>rfl
 | some o =>
  rw [e l o q] at h
  cases h
theorem Same.seq {K:FG} (e:Same H H') (h:SqL K H a xs):SqL K H' a xs:=by
 rcases h with (h | ⟨o,h⟩) | h
 ·exact .inl (.inl (e _ _ h))
 ·exact .inl (.inr ⟨o,e _ _ h⟩)
 ·exact .inr h
end L2
end
section
namespace L2
open PySem PySem.Spec PyProof.Rows
section
variable {prog:Program} {w:World} {A:Around} {E:Value->Shared->Prop} {s:Shared}
theorem mx (ty:s.TypeIs (.ref d) "dict") (h:wpAny (model prog w) A.in1 (dictSet d k v) Q E s) :
  wpAny (model prog w) A (setItem (.ref d) k v) Q E s:=by
 unfold setItem
 refine Bs (Bq (wpAny_sequenceKey ty (by decide) (Bq (wpAny_callSpecial?_slot ty slot_dict_setitem (wpAny_call_entry slot_dict_setitem ty entry_dict_setitem ?_ (args_dict_setitem _ _ _))))))
 refine Bq (wpAny_notOrdered_dict ty ?_)
 refine (?_:wpAny _ _ (dictSet d k v >>= _) _ _ s)
 exact Bq (wpAny_mono h (fun _ _ z=>Br ⟨_,rfl,Br z⟩) fun _ _ z=>z)
theorem ku {b:Int} {c:Nat} {F:Option Nat->Prop} (a:s.heap.get? d=some o) (g:o.ExactDict) (hd:o.data=.dict es c) (hz:es.size<=sizeLine) (find:wpAny (model prog w) A (dictFind d key b) (fun r s'=>s'=s/\F r) E s) (old:∀ i h' o',F (some i)->h'.get? d=some o'->o'.ExactDict->o'.data=.dict (es.modify i fun e=>{ e with val:=v }) c->Heap.SameBut d s.heap h'->Q () { s with heap:=h' }) (new:∀ h' o',F none->h'.get? d=some o'->o'.ExactDict->o'.data=.dict (es.push ⟨b,key,v⟩) (c+1)->Heap.SameBut d s.heap h'->Q () { s with heap:=h' }) :
  wpAny (model prog w) A (dictSetHashed d key b v) Q E s:=by
 unfold dictSetHashed
 refine Bs (Bq (wpAny_mono find ?_ fun _ _ z=>z))
 rintro (_ | i) _ ⟨rfl,f⟩
 ·exact Bq (wpAny_rule (wpAny_updateDictKeys (hz:=hz) a hd (new _ _ f (BU _ a (Obj.isFreed_of_dict (Obj.data_mapDictKeys hd _))) (g.mapDictKeys _) (Obj.data_mapDictKeys hd _) (Heap.SameBut.update ..))))
 ·exact Bq (wpAny_rule (Bq (wpAny_updateDict a hd (wpAny_point (old i _ _ f (BU _ a (Obj.isFreed_of_dict (Obj.data_mapDict hd _))) (g.mapDict _) (Obj.data_mapDict hd _) (Heap.SameBut.update ..))))))
end
section
variable {prog:Program} {w:World} {K:Type} [DecidableEq K] {A:Around} {E:Value->Shared->Prop} {s:Shared} {d:Addr} {k:K}
section
variable {knd:HeapKind prog w K}
def DictOfHE (knd:HeapKind prog w K) (h:Heap) (d:Addr) (xs:List (K × Addr × Value)):Prop :=
 ∃ o es a,h.get? d=some o/\o.ExactDict/\o.data=.dict es a/\es.toList=xs.map (entryOfKey knd)/\(∀ x ∈ xs,knd.is h x.1 x.2.1)/\(xs.map (·.1)).Nodup/\a=es.size
theorem DictOfHE.of (x:DictOfHE knd h d xs):h.DictOfH knd d xs:=let ⟨o,es,e,h1,h2,h3,a,c,b,_⟩:=x;⟨o,es,e,h1,h2,h3,a,c,b⟩
theorem rG {y:Addr × Value} (c:(xs.map (·.1)).Nodup) (h:k ∉ xs.map (·.1)):((xs ++ [(k,y)]).map (·.1)).Nodup:=by
 rw [List.map_append]
 exact List.nodup_append.mpr ⟨c,List.nodup_cons.mpr ⟨List.not_mem_nil,List.nodup_nil⟩,fun x a y b e=>h (by have:=B1.mp b;subst this;exact e ▸ a)⟩
theorem fR (hu:knd.room A) (b:knd.is s.heap k a) (hm:DictOfHE knd s.heap d xs) (n:∀ h',DictOfHE knd h' d (storedH xs k a v)->Heap.SameBut d s.heap h'->Q () { s with heap:=h',toks:=s.toks+knd.draws k }) (hsz:xs.length<=sizeLine:=by size_fits):wpAny (model prog w) A (dictSet d (.ref a) v) Q E s:=by
 obtain ⟨o,es,t,m,q,hd,he,g,l,rfl⟩:=hm
 unfold dictSet
 refine Bs (Bq (knd.pyHash hu b ?_))
 refine ku (s:={ s with toks:=s.toks+knd.draws k }) (F:=fun | none=>∀ (j:Nat) (p:Addr × Value),xs[j]? ≠ some (k,p) | some j=>∃ p,xs[j]?=some (k,p)) m q hd (size_of_entries he ▸ hsz)
  (wpAny_dictFind_heap (s:={ s with toks:=s.toks+knd.draws k }) hu b m hd he g l (fun z=>⟨rfl,z⟩) fun j p z=>⟨rfl,p,z⟩) ?_ ?_
 ·rintro i h' o' ⟨p,f⟩ g1 g2 g3 h
  have at':=storedH_old (atKey_of_get l f) a v
  refine n h' ⟨o',_,_,g1,g2,g3,?_,?_,?_,?_⟩ h <;> try rw [at']
  ·rw [Array.toList_modify,he]
   exact modify_map_putAt (entryOfKey knd) _ k v (fun _ _=>rfl) l f
  ·intro x c
   obtain ⟨y,r,rfl⟩:=BJ.mp c
   have:=knd.keeps (g y r) m hd h
   by_cases e:y.1=k <;> simpa [putAt,e] using this
  ·exact (keys_map_putAt xs k v).symm ▸ l
  ·exact (Array.size_modify).symm
 ·intro h' o' f g1 g2 g3 h
  have at':=storedH_new (atKey_none_of_get f) a v
  refine n h' ⟨o',_,_,g1,g2,g3,?_,?_,?_,?_⟩ h <;> try rw [at']
  ·simp [he,entryOfKey]
  ·intro x c
   rcases BD.mp c with c | c
   ·exact knd.keeps (g x c) m hd h
   ·cases B1.mp c;exact knd.keeps b m hd h
  ·exact rG l (not_mem_keys_of_get f)
  ·simp
theorem kc (hu:knd.room A.in1) (b:knd.is s.heap k a) (hm:DictOfHE knd s.heap d xs) (c:∀ h',DictOfHE knd h' d (storedH xs k a v)->Heap.SameBut d s.heap h'->Q () { s with heap:=h',toks:=s.toks+knd.draws k }) (hsz:xs.length<=sizeLine:=by size_fits):wpAny (model prog w) A (setItem (.ref d) (.ref a) v) Q E s :=
 mx hm.of.typeIs (fR (hsz:=hsz) hu b hm c)
end
section
variable {knd:KeyKind prog w K} {key:Value}
theorem fm (a:knd.is k key=true) (hm:DictOfE knd s.heap d kvs) (l:∀ h',DictOfE knd h' d (stored kvs k v)->Heap.SameBut d s.heap h'->Q () { s with heap:=h',toks:=s.toks+1 }) (hsz:kvs.length<=sizeLine:=by size_fits):wpAny (model prog w) A (dictSet d key v) Q E s:=by
 obtain ⟨o,⟨es⟩,t,m,p,hd,g,b,h,rfl⟩:=hm
 have same:=b.findIdx k
 have hz:(⟨es⟩:Array DictEntry).size<=sizeLine:=by have:=b.length;simp at this ⊢;omega
 unfold dictSet
 refine Bs (Bq (knd.pyHash a ?_))
 refine ku (s:={ s with toks:=s.toks+1 }) (F:=fun r=>es.findIdx? (fun e=>knd.is k e.key)=r) m p hd hz
  (wpAny_dictFind_of (s:={ s with toks:=s.toks+1 }) a m hd g ⟨rfl,by simp⟩) ?_ ?_
 ·intro i h' o' f g1 g2 g3 j
  have at':stored kvs k v=_:=if_pos (any_of_findIdx_some (same.symm.trans f))
  refine l h' ⟨o',_,_,g1,g2,g3,g.modify _ _,?_,?_,(Array.size_modify).symm⟩ j <;> rw [at']
  ·simpa using b.modify h f v
  ·exact (keys_map_store kvs k v).symm ▸ h
 ·intro h' o' f g1 g2 g3 j
  have no:=not_mem_of_findIdx_none (same.symm.trans f)
  have at':stored kvs k v=_:=if_neg fun z=>by
   obtain ⟨x,c,e⟩:=List.any_eq_true.mp z
   exact no (BJ.mpr ⟨x,c,of_decide_eq_true e⟩)
  refine l h' ⟨o',_,_,g1,g2,g3,g.push a _,?_,?_,by simp⟩ j <;> rw [at']
  ·simpa using b.append a (knd.hash k) v
  ·rw [List.map_append]
   exact List.nodup_append.mpr ⟨h,List.nodup_cons.mpr ⟨List.not_mem_nil,List.nodup_nil⟩,fun x c y q e=>no (by cases B1.mp q;have n:x=k:=e;exact n ▸ c)⟩
theorem jH (a:knd.is k key=true) (hm:DictOfE knd s.heap d kvs) (b:∀ h',DictOfE knd h' d (stored kvs k v)->Heap.SameBut d s.heap h'->Q () { s with heap:=h',toks:=s.toks+1 }) (hsz:kvs.length<=sizeLine:=by size_fits):wpAny (model prog w) A (setItem (.ref d) key v) Q E s :=
 mx hm.of.typeIs (fm (hsz:=hsz) a hm b)
end
end
section
variable {κ:Type} [DecidableEq κ]
def jh (kvs:List (κ × V)) (k:κ):Option V:=(kvs.find? fun a=>decide (a.1=k)).map (·.2)
def eB (kvs:List (κ × V)) (k:κ) (v:V):List (κ × V) :=
 if (kvs.any fun a=>decide (a.1=k))=true then kvs.map (fun a=>if a.1=k then (a.1,v) else a) else kvs ++ [(k,v)]
theorem ge {p:κ × V} {k:κ} (e:p.1=k):jh (p :: r) k=some p.2:=by simp [jh,List.find?_cons,e]
theorem gf {p:κ × V} {k:κ} (e:¬ p.1=k):jh (p :: r) k=jh r k:=by simp [jh,List.find?_cons,e]
theorem mn (k:κ):∀ kvs:List (κ × V),(kvs.any fun a=>decide (a.1=k))=(jh kvs k).isSome
 | []=>rfl
 | p :: r=>by
  rw [List.any_cons]
  by_cases e:p.1=k
  ·simp only [ge e,BQ e,Bool.true_or,Option.isSome_some]
  ·rw [gf e,BR e,Bool.false_or];exact mn k r
theorem jd (kvs:List (κ × V)) (k:κ) (v:V):(eB kvs k v).length<=kvs.length+1:=by
 unfold eB
 split
 ·rw [BF];omega
 ·rw [BV,BW,List.length_nil];omega
theorem RelO.isSome_eq (r:RelO o u):o.isSome=u.isSome:=by
 cases o with
 | none=>cases u with
  | none=>rfl
  | some _=>exact (show False from r).elim
 | some _=>cases u with
  | none=>exact (show False from r).elim
  | some _=>rfl
theorem RelO.getD (r:RelO o u) (a:RelV d d'):RelV (o.getD d) (u.getD d'):=by
 cases o with
 | none=>cases u with
  | none=>exact a
  | some _=>exact (show False from r).elim
 | some _=>cases u with
  | none=>exact (show False from r).elim
  | some _=>exact r
theorem KV.val (r:KV kvs vs) (k:κ):RelO (jh kvs k) (valueAt vs k):=by
 unfold KV at r
 induction r with
 | nil=>exact True.intro
 | @cons p q ps qs h t ih =>
  obtain ⟨h1,h2⟩:=h
  by_cases e:p.1=k
  ·have a:q.1=k:=h1.symm.trans e
   have b:valueAt (q :: qs) k=some q.2:=by simp [valueAt,List.find?_cons,a]
   rw [ge e,b];exact h2
  ·have a:¬ q.1=k:=fun z=>e (h1.trans z)
   have b:valueAt (q :: qs) k=valueAt qs k:=by simp [valueAt,List.find?_cons,a]
   rw [gf e,b];exact ih
theorem KV.any (r:KV kvs vs) (k:κ):(kvs.any fun a=>decide (a.1=k))=vs.any fun a=>decide (a.1=k):=by
 unfold KV at r
 induction r with
 | nil=>rfl
 | cons h t ih=>rw [List.any_cons,List.any_cons,ih,h.1]
theorem KV.repl (r:KV kvs vs) (k:κ) (b:RelV y u) :
  KV (kvs.map fun a=>if a.1=k then (a.1,y) else a) (vs.map fun a=>if a.1=k then (a.1,u) else a):=by
 unfold KV at r ⊢
 induction r with
 | nil=>exact .nil
 | @cons p q ps qs h t ih =>
  rw [BP,BP]
  refine .cons ?_ ih
  obtain ⟨h1,h2⟩:=h
  by_cases e:p.1=k
  ·rw [if_pos e,if_pos (h1.symm.trans e)];exact ⟨h1,b⟩
  ·rw [if_neg e,if_neg (fun z=>e (h1.trans z))];exact ⟨h1,h2⟩
theorem KV.put (r:KV kvs vs) (k:κ) (a:RelV y u):KV (eB kvs k y) (stored vs k u):=by
 unfold eB stored
 rw [r.any k]
 by_cases e:(vs.any fun b=>decide (b.1=k))=true
 ·rw [if_pos e,if_pos e];exact r.repl k a
 ·rw [if_neg e,if_neg e];exact Paired.snoc r ⟨rfl,a⟩
theorem KV.length {kvs:List (κ × V)} (r:KV kvs vs):kvs.length=vs.length:=Paired.length r
end
theorem qr (r:RelV (kV k) u):(bD P w).is k u=true:=by
 cases k with
 | inl i=>obtain ⟨t,e⟩:=(show ∃ t,u=Value.int i t from r);subst e;exact m6 P w i t
 | inr x=>obtain ⟨t,e⟩:=(show ∃ t,u=Value.str x t from r);subst e;exact m5 P w x t
theorem kX:∀ {a:List Key} {us:List Value},Vals (a.map kV) us->ItemsAre (bD P w) a us
 | [],_,r=>by rw [List.map_nil] at r;cases r;exact .nil
 | k :: a,_,r=>by
  rw [BP] at r
  cases r with
  | cons h t=>exact .cons (qr h) (kX t)
abbrev KT (H:Hp):List (List Key × V)->List (List Key × Addr × Value)->Prop:=Paired fun p q=>p.1=q.1/\H q.2.1=some (.tup (p.1.map kV))/\RelV p.2 q.2.2
theorem KT.val (r:KT H kvs xs) (k:List Key):RelO (jh kvs k) ((atKey xs k).map (·.2)):=by
 induction r with
 | nil=>exact True.intro
 | @cons p q ps qs h t ih =>
  obtain ⟨h1,_,h2⟩:=h
  by_cases e:p.1=k
  ·have a:q.1=k:=h1.symm.trans e
   have b:atKey (q :: qs) k=some q.2:=by simp [atKey,List.find?_cons,a]
   rw [ge e,b];exact h2
  ·have a:¬ q.1=k:=fun z=>e (h1.trans z)
   have b:atKey (q :: qs) k=atKey qs k:=by simp [atKey,List.find?_cons,a]
   rw [gf e,b];exact ih
theorem KT.repl (r:KT H kvs xs) (k:List Key) (b:RelV y u) :
  KT H (kvs.map fun a=>if a.1=k then (a.1,y) else a) (xs.map (putAt k u)):=by
 induction r with
 | nil=>exact .nil
 | @cons p q ps qs h t ih =>
  rw [BP,BP]
  refine .cons ?_ ih
  obtain ⟨h1,h2,h3⟩:=h
  unfold putAt
  by_cases e:p.1=k
  ·rw [if_pos e,if_pos (h1.symm.trans e)];exact ⟨h1,h2,b⟩
  ·rw [if_neg e,if_neg (fun z=>e (h1.trans z))];exact ⟨h1,h2,h3⟩
theorem KT.put (r:KT H kvs xs) (k:List Key) (d:H b=some (.tup (k.map kV))) (a:RelV y u) :
  KT H (eB kvs k y) (storedH xs k b u):=by
 have e:(kvs.any fun c=>decide (c.1=k))=(atKey xs k).isSome:=by
  rw [mn,(r.val k).isSome_eq,Option.isSome_map]
 unfold eB storedH
 rw [e]
 by_cases q:(atKey xs k).isSome=true
 ·rw [if_pos q,if_pos q];exact r.repl k a
 ·rw [if_neg q,if_neg q];exact Paired.snoc r ⟨rfl,d,a⟩
theorem KT.keeps (r:KT H kvs xs) (a:∀ b ys,H b=some (.tup ys)->H' b=some (.tup ys)):KT H' kvs xs :=
 Paired.mapP r fun _ _ z=>⟨z.1,a _ _ z.2.1,z.2.2⟩
section
variable {P:Program} {w:World} {H:Hp} {h:Heap} {a:Addr}
theorem yI (ok:HOk P w H h) (e:Rd H a u):ObjOk P w H h a u:=e.ok ok
theorem pg (ok:HOk P w H h) (e:Rd H a (.dK kvs)):kvs.length<=sizeLine/\(a == sysModules)=false/\∃ b,KV kvs b/\DictOfE (bD P w) h a b :=
 show ObjOk P w H h a (.dK kvs) from yI ok e
theorem yY (ok:HOk P w H h) (e:Rd H a (.dK kvs)):kvs.length<=sizeLine/\(a == sysModules)=false/\∃ b,KV kvs b/\h.DictOf (bD P w) a b:=let ⟨z,y,b,r,d⟩:=pg ok e;⟨z,y,b,r,d.of⟩
theorem lS (ok:HOk P w H h) (e:H a=some (.tup (ks.map kV))):(tupleKind (bD P w)).is h ks a:=by
 obtain ⟨_,its,r,o,h1,h2,n,h3⟩:=(show ObjOk P w H h a (.tup (ks.map kV)) from ok a _ e)
 exact ⟨o,its.toArray,n,h1,h2,congrArg Prod.fst h3,by simpa using kX r⟩
theorem pe (ok:HOk P w H h) (e:Rd H a (.dT kvs)):kvs.length<=sizeLine/\(a == sysModules)=false /\
  ∃ xs,KT H kvs xs/\DictOfHE (tupleKind (bD P w)) h a xs:=by
 obtain ⟨z,y,xs,r,o,es,f,h1,h2,h3,c,d⟩:=(show ObjOk P w H h a (.dT kvs) from yI ok e)
 refine ⟨z,y,xs,r,o,es,f,h1,h2,h3,c,fun x b=>?_,d⟩
 have all:∀ {l:List (List Key × V)} {m:List (List Key × Addr × Value)},KT H l m->∀ x ∈ m,(tupleKind (bD P w)).is h x.1 x.2.1:=by
  intro l m q
  induction q with
  | nil=>intro x b;exact nomatch b
  | @cons p q ps qs hq t ih =>
   intro x b
   rcases Bz.mp b with e | b
   ·subst e
    exact lS ok (by rw [<- hq.1];exact hq.2.1)
   ·exact ih x b
 exact all r x b
theorem yX (ok:HOk P w H h) (e:Rd H a (.dT kvs)):kvs.length<=sizeLine/\(a == sysModules)=false /\
  ∃ xs,KT H kvs xs/\h.DictOfH (tupleKind (bD P w)) a xs:=let ⟨z,y,xs,r,d⟩:=pe ok e;⟨z,y,xs,r,d.of⟩
end
def DGet (H:Hp) (a:Addr) (y:V) (r:Option V):Prop :=
 (∃ kvs k,Rd H a (.dK kvs)/\y=kV k/\r=jh kvs k)\/∃ kvs k b,Rd H a (.dT kvs)/\y=.ref b/\H b=some (.tup (k.map kV))/\r=jh kvs k
def DPut (H:Hp) (a:Addr) (y v:V) (H':Hp):Prop :=
 (∃ kvs k,H a=some (.dK kvs)/\y=kV k/\kvs.length < sizeLine/\H'=upd H a (.dK (eB kvs k v))) \/
 ∃ kvs k b,H a=some (.dT kvs)/\y=.ref b/\H b=some (.tup (k.map kV))/\kvs.length < sizeLine/\H'=upd H a (.dT (eB kvs k v))
theorem DGet.t (e:H a=some (.dT kvs)) (c:H b=some (.tup (k.map kV))):DGet H a (.ref b) (jh kvs k):=.inr ⟨kvs,k,b,.inl e,rfl,c,rfl⟩
theorem DPut.t (e:H a=some (.dT kvs)) (c:H b=some (.tup (k.map kV))) (d:kvs.length < sizeLine) :
  DPut H a (.ref b) v (upd H a (.dT (eB kvs k v))):=.inr ⟨kvs,k,b,e,rfl,c,d,rfl⟩
section
variable {X:Cx} {pins:List (Addr × Obj)} {σ:St} {H:Hp} {s:Shared} {a:Addr} {y v:V} {u r:Value} {o:Option V} {A:Around} {E:Value->Shared->Prop}
theorem Inv.big (I:Inv X pins σ H s):sysModules < s.heap.objs.size:=by
 have h:mainGlobals < s.heap.objs.size:=(I.mod.glob.keeps I.bk).lt
 exact Nat.lt_trans (by decide) h
theorem so (hu:A.units+1 < cLine) (I:Inv X pins σ H s) (g:DGet H a y (some v)) (m:RelV y u) (h:∀ d s',Inv X pins σ H s'->RelV v d->Q d s') :
  wpAny (model X.prog X.w) A (getItem (.ref a) u) Q E s:=by
 rcases g with ⟨kvs,k,e,f,l⟩ | ⟨kvs,k,b,e,f,r,l⟩
 ·subst f
  obtain ⟨z,hd,n,rel,i⟩:=yY I.hok e
  obtain ⟨d,hw,c⟩:=RelO.some_of (v:=v) (o:=valueAt n k) (by rw [l];exact rel.val k)
  exact wpAny_getItem_of (qr m) i.mapOf hw (h d _ (I.tok _) c)
 ·subst f
  cases (show u=Value.ref b from m)
  obtain ⟨z,hd,xs,rel,i⟩:=yX I.hok e
  obtain ⟨d,hw,c⟩:=RelO.some_of (v:=v) (o:=(atKey xs k).map (·.2)) (by rw [l];exact rel.val k)
  obtain ⟨p,q,j⟩:=Bw.mp hw
  refine wpAny_getItem_heap (tupleKind_room_in1 hu) (lS I.hok r) i q ?_
  rw [j]
  exact h d _ (I.tok _) c
theorem jy {t':Nat} (I:Inv X pins σ H s) (f:Mut (H a)) (d:Heap.SameBut a s.heap h') (he:∃ q,h'.get? a=some q) (new:ObjOk X.prog X.w (upd H a ob) h' a ob) :
  Inv X pins σ (upd H a ob) { s with heap:=h',toks:=t' } :=
 I.write (x:=a) (e:=a) f (.inl rfl) (fun b q c z=>(d.2 b c).trans z) he new
theorem vB (z:kvs.length<=sizeLine) (hd:(a == sysModules)=false) (rel:KV kvs vs) (b:DictOfE (bD P w) h' a vs) :
  ObjOk P w H' h' a (.dK kvs):=⟨z,hd,vs,rel,b⟩
theorem sk (hu:A.units+1 < cLine) (I:Inv X pins σ H s) (g:DPut H a y v H') (B:RelV y u) (x:RelV v r) (h:∀ s',Inv X pins σ H' s'->Q () s') :
  wpAny (model X.prog X.w) A (setItem (.ref a) u r) Q E s:=by
 rcases g with ⟨kvs,k,e,n,l,j⟩ | ⟨kvs,k,b,e,n,t,l,j⟩
 ·subst n j
  obtain ⟨z,hd,F,rel,i⟩:=pg I.hok (.inl e)
  have hz:F.length<=sizeLine:=by rw [<- rel.length];exact z
  have o:(eB kvs k v).length<=sizeLine:=by have:=jd kvs k v;omega
  refine jH (hsz:=hz) (qr B) i fun h' d m=>h _ ?_
  have he:∃ q,h'.get? a=some q:=let ⟨q,_,_,f,_⟩:=d;⟨q,f⟩
  exact jy I (by rw [e];exact True.intro) m he (vB o hd (rel.put k x) d)
 ·subst n j
  cases (show u=Value.ref b from B)
  obtain ⟨z,hd,xs,rel,i⟩:=pe I.hok (.inl e)
  have hz:xs.length<=sizeLine:=by rw [<- Paired.length rel];exact z
  have o:(eB kvs k v).length<=sizeLine:=by have:=jd kvs k v;omega
  refine kc (hsz:=hz) (tupleKind_room_in1 hu) (lS I.hok t) i fun h' d m=>h _ ?_
  obtain ⟨q,es,G,f,h2,h3,C,_,D⟩:=d
  refine jy I (by rw [e];exact True.intro) m ⟨q,f⟩ ⟨o,hd,_,(rel.put k t x).keeps fun c ys p=>?_,q,es,G,f,h2,h3,C,D⟩
  rw [aq (yO p e (fun z=>nomatch z))]
  exact p
end
theorem nJ (I:Inv X pins σ H s) (g:DGet H a y o):s.TypeIs (.ref a) "dict":=by
 rcases g with ⟨kvs,k,e,_,_⟩ | ⟨kvs,k,b,e,_,_,_⟩
 ·obtain ⟨_,_,d,_,c⟩:=yY I.hok e
  exact c.typeIs
 ·obtain ⟨_,_,xs,_,c⟩:=yX I.hok e
  exact c.typeIs
theorem vC (h:Heap) (a:sysModules < h.objs.size):ObjOk P w H (h.push { cls:=.type "dict",data:=.dict #[] }) h.objs.size (.dK []) :=
 ⟨Nat.zero_le _,beq_eq_false_iff_ne.mpr (Ne.symm (BN a)),[],.nil,_,#[],0,BE _ rfl,⟨rfl,rfl,rfl⟩,rfl,(fun _ h=>by simp at h),.nil,List.nodup_nil,rfl⟩
theorem vz (h:Heap) (a:sysModules < h.objs.size):ObjOk P w H (h.push { cls:=.type "dict",data:=.dict #[] }) h.objs.size (.dT []) :=
 ⟨Nat.zero_le _,beq_eq_false_iff_ne.mpr (Ne.symm (BN a)),[],.nil,_,#[],0,BE _ rfl,⟨rfl,rfl,rfl⟩,rfl,rfl,List.nodup_nil,rfl⟩
structure M1 (X:Cx) (o:Expr) (m:Str) (apos:Pos) (e:Expr) (cpos:Pos):Prop where
 base:attributeBase o m X.env (eval o X.env)=eval o X.env
 few:((backTo cpos (starEach [e] X.env)).all (fun x=>!x.1) && (backToKw cpos (keywordEach [] X.env)).all (fun x=>x.1.isSome)
  && decide (([e]:List Expr).length+([]:List Keyword).length+(if ([]:List Keyword).isEmpty then 0 else 1) < 30))=true
 line:(apos.endLine == cpos.line)=true
 trees:backTo cpos (starEach [e] X.env)=[(false,eval e X.env)]
structure M2 (X:Cx) (o:Expr) (m:Str) (apos:Pos) (e f:Expr) (cpos:Pos):Prop where
 base:attributeBase o m X.env (eval o X.env)=eval o X.env
 few:((backTo cpos (starEach [e,f] X.env)).all (fun x=>!x.1) && (backToKw cpos (keywordEach [] X.env)).all (fun x=>x.1.isSome)
  && decide (([e,f]:List Expr).length+([]:List Keyword).length+(if ([]:List Keyword).isEmpty then 0 else 1) < 30))=true
 line:(apos.endLine == cpos.line)=true
 trees:backTo cpos (starEach [e,f] X.env)=[(false,eval e X.env),(false,eval f X.env)]
end L2
namespace L2
open PySem PySem.Spec PyProof.Rows
end L2
end
section
namespace L2
open PySem PySem.Spec PyProof.Rows
def jo (cells:List (Str × Addr)) (cs:List (Str × Addr)) (x:Str × NameKind):List (Str × Addr) :=
 if x.2 == .free then (match cells.lookup x.1 with | some c=>(x.1,c) :: cs | none=>cs) else cs
def clo (cells:List (Str × Addr)) (names:List (Str × NameKind)):List (Str × Addr):=names.foldl (jo cells) []
theorem jY {α β:Type} {f:α->β->Sem (ForInStep β)} {g:β->α->β}:∀ {l:List α} {c:β},(∀ x ∈ l,∀ c,f x c=pure (.yield (g c x)))->forIn l c f=pure (l.foldl g c)
 | [],c,_=>rfl
 | x :: l,c,h=>by
  rw [List.forIn_cons,h x Bt,pure_bind]
  exact jY fun y a=>h y (Bu _ a)
theorem fu (h:∀ x ∈ scope.names,x.2=.free->∃ c,env.cells.lookup x.1=some c):closureFor scope env=pure (clo env.cells scope.names):=by
 simp only [closureFor]
 rw [jY (g:=jo env.cells) (fun x d c=>by
  obtain ⟨n,kind⟩:=x
  unfold jo
  by_cases b:kind=.free
  ·subst b
   obtain ⟨a,e⟩:=h _ d rfl
   have f:env.cells.lookup n=some a:=e
   simp [cellOf,f]
  ·have i:(kind == NameKind.free)=false:=by simpa using b
   simp [i])]
 rfl
theorem kZ:∀ {l:List (Str × NameKind)} {cs:List (Str × Addr)},(∀ y d,cs.lookup y=some d->cells.lookup y=some d)->(l.foldl (jo cells) cs).lookup x=some c->cells.lookup x=some c
 | [],cs,h,e=>h x c e
 | y :: l,cs,h,e=>by
  refine kZ (l:=l) (cs:=jo cells cs y) (fun z d q=>?_) e
  unfold jo at q
  split at q
  ·cases b:cells.lookup y.1 with
   | none=>rw [b] at q;exact h z d q
   | some a =>
    rw [b] at q
    simp only [List.lookup_cons] at q
    cases hz:z == y.1 with
    | true=>rw [hz] at q;have:=eq_of_beq hz;subst this;rw [b];exact q
    | false=>rw [hz] at q;exact h z d q
  ·exact h z d q
theorem lV (e:(clo cells l).lookup x=some c):cells.lookup x=some c:=kZ (fun _ _ q=>by simp at q) e
theorem jZ (d:cells.lookup x=some c):∀ {l:List (Str × NameKind)} {cs:List (Str × Addr)},cs.lookup x=some c->(l.foldl (jo cells) cs).lookup x=some c
 | [],_,e=>e
 | y :: l,cs,e=>by
  refine jZ d (l:=l) (cs:=jo cells cs y) ?_
  unfold jo
  split
  ·cases b:cells.lookup y.1 with
   | none=>exact e
   | some a =>
    simp only [List.lookup_cons]
    cases hz:x == y.1 with
    | true=>have:=eq_of_beq hz;subst this;rw [d] at b;exact b.symm
    | false=>exact e
  ·exact e
theorem k5 (a:cells.lookup x=some c):∀ {l:List (Str × NameKind)} {cs:List (Str × Addr)},(x,NameKind.free) ∈ l->(l.foldl (jo cells) cs).lookup x=some c
 | [],_,m=>by simp at m
 | y :: l,cs,m=>by
  rcases Bz.mp m with rfl | m
  ·refine jZ a (l:=l) ?_
   simp [jo,a]
  ·exact k5 a (l:=l) (cs:=jo cells cs y) m
theorem qJ (a:cells.lookup x=some c) (m:(x,NameKind.free) ∈ l):(clo cells l).lookup x=some c:=k5 a m
theorem gv {env:Env}:∀ {names:List (Str × NameKind)} {x:Str},names.lookup x=some .free ->
  (names.map fun (n,k)=>if (k == NameKind.free && env.scope.kind == .function && env.kindOf n == some .cell) then (n,NameKind.cell) else (n,k)).lookup x=some .cell \/
  (names.map fun (n,k)=>if (k == NameKind.free && env.scope.kind == .function && env.kindOf n == some .cell) then (n,NameKind.cell) else (n,k)).lookup x=some .free
 | [],_,h=>by simp at h
 | (n,k) :: r,x,h=>by
  have b:=@gv env r x
  show List.lookup x ((if (k == NameKind.free && env.scope.kind == .function && env.kindOf n == some .cell)=true then (n,NameKind.cell) else (n,k)) :: _)=_ \/
   List.lookup x ((if (k == NameKind.free && env.scope.kind == .function && env.kindOf n == some .cell)=true then (n,NameKind.cell) else (n,k)) :: _)=_
  cases a:x == n with
  | true =>
   simp only [List.lookup_cons,a] at h
   cases h
   split
   ·left;simp [List.lookup_cons,a]
   ·right;simp [List.lookup_cons,a]
  | false =>
   simp only [List.lookup_cons,a] at h
   split
   ·simp only [List.lookup_cons,a];exact b h
   ·simp only [List.lookup_cons,a];exact b h
theorem jK {env:Env}:∀ {names:List (Str × NameKind)} {x:Str},(∀ y ∈ names,y.2 ≠ .cell) ->
  ((names.map fun (n,k)=>if (k == NameKind.free && env.scope.kind == .function && env.kindOf n == some .cell) then (n,NameKind.cell) else (n,k)).lookup x=some .cell \/
  (names.map fun (n,k)=>if (k == NameKind.free && env.scope.kind == .function && env.kindOf n == some .cell) then (n,NameKind.cell) else (n,k)).lookup x=some .free)->(x,NameKind.free) ∈ names
 | [],_,_,h=>by simp at h
 | (n,k) :: r,x,hc,h=>by
  have d:=@jK env r x (fun y c=>hc y (Bu _ c))
  have b:=hc (n,k) Bt
  have h':List.lookup x ((if (k == NameKind.free && env.scope.kind == .function && env.kindOf n == some .cell)=true then (n,NameKind.cell) else (n,k)) :: (r.map fun (n,k)=>if (k == NameKind.free && env.scope.kind == .function && env.kindOf n == some .cell) then (n,NameKind.cell) else (n,k)))=some .cell \/
   List.lookup x ((if (k == NameKind.free && env.scope.kind == .function && env.kindOf n == some .cell)=true then (n,NameKind.cell) else (n,k)) :: (r.map fun (n,k)=>if (k == NameKind.free && env.scope.kind == .function && env.kindOf n == some .cell) then (n,NameKind.cell) else (n,k)))=some .free:=h
  cases a:x == n with
  | true =>
   have e:=eq_of_beq a
   subst e
   by_cases hf:k=.free
   ·subst hf;exact Bt
   ·exfalso
    have f:(k == NameKind.free)=false:=by simpa using hf
    simp [f,List.lookup_cons] at h'
    rcases h' with q | q
    ·exact b q
    ·exact hf q
  | false =>
   refine Bu _ (d ?_)
   split at h'
   ·simpa only [List.lookup_cons,a] using h'
   ·simpa only [List.lookup_cons,a] using h'
def aG (X:Cx) (NY:List Str) (scope:Scope) (s:Shared) (H:Hp) (C:Addr) (fp:List Addr):Cx where
 prog:=X.prog
 w:=X.w
 K:=X.K
 mg:=X.mg
 base:=X.base
 A:=X.A
 N:=NY
 s₀:=s
 H₀:=H
 env:=compEnvC scope (clo X.env.cells scope.names) C X.env
 outer:=X.stack
 stack:=X.stack
 ex:=fp
 fn:=fun _=>false
 calm:=X.calm
 pn:=[]
 xe:=fun _ _=>False
def cap (ix:List (Option Nat)) (σ:St):St:=ix.map fun o=>match o with | some i=>(σ[i]?).getD none | none=>none
def fq (sc:Scope) (b:List Str) (a:Scope) (NY:List Str) (ix:List (Option Nat)):Bool :=
 sc.kind == .function && sc.names.all (fun y=>y.2 != .cell) && sc.names.all (fun y=>y.2 != .local || sc.names.lookup y.1 == some .local) && sc.names.all (fun y=>y.2 != .free || sc.names.lookup y.1 == some .free)
  && sc.names.all (fun y=>y.2 != .free || (a.names.lookup y.1 == some .cell || a.names.lookup y.1 == some .free))
  && ix.length == NY.length && (NY.zip ix).all fun p=>match p.2 with | none=>true | some i=>(b[i]? == some p.1) && sc.names.contains (p.1,NameKind.free)
structure CompOk (sc:Scope) (XN:List Str) (Xsc:Scope) (NY:List Str) (ix:List (Option Nat)):Prop where
 kind:sc.kind=.function
 nocell:∀ y ∈ sc.names,y.2 ≠ .cell
 loc:∀ y ∈ sc.names,y.2=.local->sc.names.lookup y.1=some .local
 fre:∀ y ∈ sc.names,y.2=.free->sc.names.lookup y.1=some .free
 out:∀ y ∈ sc.names,y.2=.free->Xsc.names.lookup y.1=some .cell\/Xsc.names.lookup y.1=some .free
 len:ix.length=NY.length
 cap:∀ (j:Nat) x i,NY[j]?=some x->ix[j]?=some (some i)->XN[i]?=some x/\(x,NameKind.free) ∈ sc.names
theorem CompOk.of (h:fq sc XN Xsc NY ix=true):CompOk sc XN Xsc NY ix:=by
 simp only [fq,Bool.and_eq_true,List.all_eq_true,beq_iff_eq] at h
 obtain ⟨⟨⟨⟨⟨⟨h1,h2⟩,h3⟩,b⟩,g⟩,c⟩,d⟩:=h
 refine ⟨h1,fun y a=>by simpa using h2 y a,fun y a e=>?_,fun y a e=>?_,fun y a e=>?_,c,fun j x i e1 f=>?_⟩
 ·have:=h3 y a;rw [e] at this;simpa using this
 ·have:=b y a;rw [e] at this;simpa using this
 ·have:=g y a;rw [e] at this;simpa using this
 ·have m:(x,some i) ∈ NY.zip ix:=by
   refine BH (i:=j) ?_
   rw [List.getElem?_zip_eq_some]
   exact ⟨e1,f⟩
  have:=d _ m
  simpa using this
section
variable {X:Cx}
theorem FpOk.of_upd (f:FpOk X pins H b) (h:b ≠ D):FpOk X pins (upd H D o) b:=⟨by rw [aq h];exact f.1,f.2⟩
theorem HOk.track (x:HOk P w H h) (f:H a=none) (new:ObjOk P w (upd H a o) h a o):HOk P w (upd H a o) h:=fun b u e=>by
 by_cases d:b=a
 ·subst d;rw [aC] at e;cases e;exact new
 ·rw [aq d] at e
  exact (x b u e).stay (fun c v _ q=>q) (fun c q=>by rw [aq (aM q f)];exact q) fun c xs q=>by rw [aq (aM q f)];exact q
def PTs (Y:Cx) (ifs:List Expr) (t:TT):Prop :=
 ∀ (pins:List (Addr × Obj)) (s:Shared) (σ:St) (H:Hp) (Q:Bool->Hp->Prop),Inv Y pins σ H s->t σ H Q ->
  wpAny (model Y.prog Y.w) Y.A (forIn ifs true fun c r=>if r=true then do let ok <- isTrue c Y.env (eval c Y.env);pure (ForInStep.yield ok) else pure (ForInStep.yield r)) (TP Y pins σ Q) Y.xe s
def tYes:TT:=fun _ H Q=>Q true H
theorem xg:PTs Y [] tYes:=fun pins s σ H Q I h=>wpAny_tests_nil ⟨H,I,h⟩
def n6 (J:It) (g:TG) (tc:TT) (te:TE) (Z:List V->Hp->Prop) (τ0:St) (H1:Hp):Prop :=
 ∃ W:Nat->Nat->List V->St->Hp->Prop,(∃ m,W 0 m [] τ0 H1)/\∀ i m ys τ H,W i m ys τ H->ys.length < sizeLine /\
  ((J.stop i H/\Z ys H)\/(J.go i H/\∃ N:List V->St->Hp->Prop,(∀ a τ' H',N a τ' H'->∃ m',m' < m/\W (i+1) m' a τ' H')/\∀ x H',J.yld i H x H'->g x τ H' fun τ2 H2=>tc τ2 H2 fun b c =>
   if b=true then te τ2 c fun y d=>N (ys ++ [y]) τ2 d else N ys τ2 c))
def yE (a:TI) (g:TG) (tc:TT) (te:TE) (ix:List (Option Nat)):TE:=fun σ H Q =>
 a σ H fun J H1=>n6 J g tc te (fun ys H2=>∀ p,H2 p=none->Q (.ref p) (upd H2 p (.lst ys))) (cap ix σ) H1
theorem ph (g:CompOk scope X.N X.env.scope NY ix) (I:Inv X pins σ H s) (f:∀ b ∈ fp,FpOk X pins H b) (n:s.heap.objs.size<=C) (t:∀ b ∈ fp,b < s.heap.objs.size) (F:s4.os=s.os) (Q:s4.gens=s.gens) (keep:∀ b o,s.heap.get? b=some o->s4.heap.get? b=some o) (ns:s4.heap.Ns C fun _=>none):Inv (aG X NY scope s H C fp) [] (cap ix σ) H s4:=by
 have J:FpOk X pins H C:=I.fpOk n (I.hok.fresh n)
 have cls:∀ x c,(clo X.env.cells scope.names).lookup x=some c->X.env.cells.lookup x=some c:=fun x c e=>lV e
 have j:∀ x,(x,NameKind.free) ∈ scope.names->∃ c,X.env.cells.lookup x=some c:=fun x m=>by
  rcases g.out _ m rfl with q | q
  ·exact I.ok.has x (.inl q)
  ·exact I.ok.has x (.inr q)
 refine ⟨⟨I.ok.mod,g.kind,I.ok.glob,I.ok.blt,n,fun x y c e1 d=>I.ok.inj x y c (cls x c e1) (cls y c d),fun x B=>?_,fun x c e _=>(BM e).elim,fun e=>I.ok.hd e,I.ok.frames,.inl rfl,fun b h=>⟨BN (BS (t b h) n),fun x c e=>(f b h).2.2.2.2.1 x c (cls x c e)⟩,
  I.bs,B8 I.ok.bsz I.sz,fun b o e h=>?_,fun b h hz=>?_,I.stack,I.stkFree⟩,F,by rw [Q];exact I.bare,Un.kept keep,⟨_,ns,fun i x v e1 d R=>?_⟩,fun x c e=>?_,J.1,fun x c e=>I.freeC x c (cls x c e),fun p G=>absurd (show p ∈ ([]:List (Addr × Obj)) from G) (by simp),I.hok.kept keep,?_⟩
 ·have m:(x,NameKind.free) ∈ scope.names:=jK g.nocell B
  obtain ⟨c,e⟩:=j x m
  exact ⟨c,qJ e m⟩
 ·rcases (f b h).2.2.2.1 with z | z
  ·exact I.ok.noex b o e z
  ·exact absurd (BS (BC e) (B8 I.ok.bsz z)) (Nat.lt_irrefl _)
 ·rcases Bz.mp (I.stkSub b hz) with e | e
  ·exact (f b h).2.1 e
  ·exact (f b h).2.2.1 e
 ·-- a captured name
  have q:∃ k,ix[i]?=some (some k)/\σ[k]?=some (some v):=by
   unfold cap at d
   rw [BK] at d
   cases e:ix[i]? with
   | none=>rw [e] at d;simp at d
   | some o =>
    rw [e] at d
    cases o with
    | none=>simp at d
    | some k =>
     refine ⟨k,rfl,?_⟩
     simp only [BZ,Option.some.injEq] at d
     cases e':σ[k]? with
     | none=>rw [e'] at d;simp at d
     | some o'=>rw [e'] at d;simp at d;rw [d]
  obtain ⟨k,E,ev⟩:=q
  obtain ⟨L,m⟩:=g.cap i x k e1 E
  obtain ⟨S,M,P⟩:=I.loc
  have K:Vis X.env.scope x:=by
   rcases g.out _ m rfl with q | q
   ·exact .inr (.inl q)
   ·exact .inr (.inr q)
  obtain ⟨u,r,l⟩:=P k x v L ev K
  refine ⟨u,r,.inr ?_⟩
  rcases l with ⟨A,_⟩ | ⟨_,c,D,O⟩
  ·exfalso
   rcases g.out _ m rfl with q | q
   ·have:=A.symm.trans q;cases this
   ·have:=A.symm.trans q;cases this
  ·obtain ⟨o,w,hd⟩:=O
   exact ⟨gv (g.fre _ m rfl),c,qJ D m,o,keep c o w,hd⟩
 ·obtain ⟨v,o,w,hd⟩:=I.cell x c (cls x c e)
  exact ⟨v,o,keep c o w,hd⟩
 ·show (cap ix σ).length=NY.length
  unfold cap
  rw [BF]
  exact g.len
theorem ft (I:Nat->Shared->Prop) (turn:∀ n s,I n s->wpAny (model prog w) A (pyNext it) (fun r d=>match r with
   | none=>R (.ok .next) d
   | some v=>wpAny (model prog w) A (letOwnedTupleGo target it v) (fun _ a=>wpAny (model prog w) A (assign target env v) (fun _ i =>
     wpAny (model prog w) A (forIn ifs true fun c r=>if r=true then do let ok <- isTrue c env (eval c env);pure (ForInStep.yield ok) else pure (ForInStep.yield r)) (fun ok e =>
      if ok=true then wpAny (model prog w) A (eval elt env) (fun x g =>
       wpAny (model prog w) A (call (.builtin "list.append") [acc,x]) (fun _ k=>∃ m,m < n/\I m k) (fun _ _=>False) g) (fun _ _=>False) e
      else ∃ m,m < n/\I m e) (fun _ _=>False) i) (fun _ _=>False) a) (fun _ _=>False) d) (fun _ _=>False) s) (n:Nat) (h:I n s) :
  codeAny (model prog w) A (.compLoop (.ListComp elt [⟨target,iter,ifs,0⟩] scope pos) 0 it acc env) R s:=by
 refine codeAny_loop rfl I (fun n s p=>?_) n h
 show wpAny _ A ((compTurn (.ListComp elt [⟨target,iter,ifs,0⟩] scope pos) 0 it acc env).onRaise (fun x=>do noteFrame x env;theTreesLotGoes x)) _ _ s
 refine wpAny_noted ?_
 rw [compTurn_list]
 refine Bq (wpAny_standAt (Bq (wpAny_mono (turn n s p) (fun r d f=>?_) fun _ _ h'=>h'.elim)))
 cases r with
 | none=>exact Br f
 | some v =>
  refine Bq (wpAny_mono f (fun _ a b=>?_) fun _ _ h'=>h'.elim)
  refine Bq (wpAny_mono b (fun _ i l=>Bq (wpAny_mono l (fun ok e j=>?_) fun _ _ h'=>h'.elim)) fun _ _ h'=>h'.elim)
  cases ok with
  | false=>exact Br ⟨rfl,j⟩
  | true =>
   exact Bq (Bq (wpAny_mono j (fun x g q=>Bq (wpAny_mono q (fun _ k o=>Br (Br ⟨rfl,o⟩)) fun _ _ h'=>h'.elim)) fun _ _ h'=>h'.elim))
theorem nN {RR:Value->Addr->Result->Shared->Prop} (hc:X.calm=true) (ck:CompOk scope X.N X.env.scope NY ix) (hg:∀ s H C fp,PG (aG X NY scope s H C fp) tg g) (ht:∀ s H C fp,PTs (aG X NY scope s H C fp) ifs tc) (he:∀ s H C fp,PE (aG X NY scope s H C fp) elt te) (I:Inv X pins σ H s) (T:Turn X.prog X.w X.K tg J fp it tn) (st:tn 0 s.heap) (f:∀ b ∈ fp,FpOk X pins H b) (hW:n6 J g tc te Z (cap ix σ) H) (a6:∀ D C s' ys H' m,s'.heap.Ns C m->H' D=none->FpOk X pins (upd H' D (.lst ys)) C->Inv X pins σ (upd H' D (.lst ys)) s'->Z ys H'->RR (.ref D) C (.ok .next) s') :
  wpAny (model X.prog X.w) X.A (newList []) (fun acc V=>wpAny (model X.prog X.w) X.A (newFunctionEnv scope X.env.globals (clo X.env.cells scope.names) [] X.env.qual none .none (some X.env)) (fun F s₄ =>
   codeAny (model X.prog X.w) X.A (.compStart (.ListComp elt [⟨tg,iter,ifs,0⟩] scope pos) 0 (.ref it) acc { F with scope:=relabel scope X.env }) (RR acc F.locals) s₄) E V) E s:=by
 obtain ⟨W,⟨m0,w0⟩,turn⟩:=hW
 refine wpAny_newObj_type (wpAny_newFunctionEnv ck.nocell (by intro y hy;simp at hy) (fun h₁ t j=>?_) ck.kind)
 dsimp only at t j ⊢
 generalize O:s.heap.push { cls:=.type "list",dict:=none,data:=.seq ([]:List Value).toArray }=H2 at t j ⊢
 have az:H2.objs.size=s.heap.objs.size+1:=by rw [<- O,B6]
 have B:s.heap.objs.size ≠ H2.objs.size:=by rw [az];exact BN (Nat.lt_succ_self _)
 have h:s.heap.objs.size<=H2.objs.size:=by rw [az];exact Nat.le_succ _
 generalize Q:s.heap.objs.size=D at *
 generalize hC:H2.objs.size=C at *
 have below:∀ b o,s.heap.get? b=some o->b < D:=fun b o e=>by rw [<- Q];exact BC e
 have old:∀ b o,s.heap.get? b=some o->h₁.get? b=some o:=fun b o e=>j.extBut b o (BN (BS (below b o e) h)) (Bv _ (O ▸ Bv _ e))
 have P:H2.get? D=some { cls:=.type "list",dict:=none,data:=.seq ([]:List Value).toArray }:=by
  rw [<- O,<- Q];exact BE _ rfl
 have a5:h₁.PlainList D #[]:=⟨_,j.extBut _ _ B (Bv _ P)⟩
 have ar:∀ b ∈ fp,b < s.heap.objs.size:=fun b a=>by
  obtain ⟨o,e,_⟩:=T.obj 0 _ st b a
  exact BC e
 have l:∀ b ∈ fp,b < D:=fun b a=>by rw [<- Q];exact ar b a
 have IY:Inv (aG X NY scope s H C fp) [] (cap ix σ) H { s with heap:=h₁,toks:=s.toks+([]:List (Str × Value)).length } :=
  ph ck I f (by rw [Q];exact h) ar rfl rfl old t
 have b6:H D=none:=I.hok.fresh (by rw [Q];exact BL _)
 have k:∀ b ∈ frs X.stack,b < D:=fun b a=>by
  obtain ⟨_,o,ho,_⟩:=I.stack.mem a
  exact below b o ho
 have loop:∀ V:Shared,V = { s with heap:=h₁,toks:=s.toks+([]:List (Str × Value)).length } ->
   codeAny (model X.prog X.w) X.A (.compLoop (.ListComp elt [⟨tg,iter,ifs,0⟩] scope pos) 0 (.ref it) (.ref D) (aG X NY scope s H C fp).env) (RR (.ref D) C) V:=by
  rintro V rfl
  refine ft (fun n s'=>∃ i ys τ H' its,Inv (aG X NY scope s H C fp) [] τ H' s'/\H' D=none/\s'.heap.PlainList D its/\Vals ys its.toList/\tn i s'.heap/\(∀ b ∈ fp,H' b=none)/\W i n ys τ H') ?_ m0
   ⟨0,[],cap ix σ,H,#[],IY,b6,a5,.nil,T.keep _ _ _ st fun b _ o e=>old b o e,fun b a=>(f b a).1,w0⟩
  rintro n s3 ⟨i,ys,τ,S,its,I3,d3,l3,v3,a0,ab,w3⟩
  obtain ⟨nl,e3⟩:=id l3
  have Y:Inv (aG X NY scope s H C fp) [(D,{ cls:=.type "list",data:=.seq its nl })] τ S s3:=I3.pins_of fun p U=>by
   have e:p=(D,{ cls:=.type "list",data:=.seq its nl }):=by simpa using U
   subst e
   exact ⟨e3,d3,B,fun z=>Nat.lt_irrefl _ (k D z),fun v z=>by cases z⟩
  have L:∀ {H':Hp} {pl:List (Addr × Obj)},(∀ b ∈ fp,H' b=none)->(∀ p ∈ pl,p.1=D)->∀ b ∈ fp,FpOk (aG X NY scope s H C fp) pl H' b:=fun hn U b a =>
   ⟨hn b a,BN (BS (l b a) h),fun z=>by
    rcases Bz.mp (I.stkSub b z) with e | e
    ·exact (f b a).2.1 e
    ·exact (f b a).2.2.1 e,.inl a,fun x c e=>(f b a).2.2.2.2.1 x c (lV e),fun p b0=>by
    have e:p.1=D:=U p ((BD.mp b0).elim (fun z=>absurd (show p ∈ ([]:List (Addr × Obj)) from z) (by simp)) fun z=>z)
    rw [e]
    exact Nat.ne_of_gt (l b a)⟩
  obtain ⟨zl,step⟩:=turn i n ys τ S w3
  have single:∀ p ∈ [(D,({ cls:=.type "list",data:=.seq its nl }:Obj))],p.1=D:=fun p U=>by
   have e:p=(D,{ cls:=.type "list",data:=.seq its nl }):=by simpa using U
   rw [e]
  rcases step with ⟨stop,qn⟩ | ⟨go,N,hN,step⟩
  ·refine wpAny_mono (T.done (aG X NY scope s H C fp) rfl rfl rfl hc i _ s3 τ S (fun _ _=>False) Y (L ab single) a0 stop) (fun r s4 ⟨hr,M⟩=>?_) fun _ _ e=>e
   subst hr
   obtain ⟨mC,b3,_⟩:=id M.loc
   obtain ⟨e4,d4,_⟩:=M.pin (D,{ cls:=.type "list",data:=.seq its nl }) (by simp [aG])
   have be:∀ b o,s.heap.get? b=some o->b ≠ D:=fun b o e=>BN (below b o e)
   have R:=M.base
   refine a6 D C s4 ys S mC b3 d4 ?_ ?_ qn
   ·exact (I.fpOk (by rw [Q];exact h) (by exact M.free)).of_upd (Ne.symm B)
   ·refine I.call' (ch:=fp) M.os (H':=upd S D (.lst ys)) ⟨R.keep,R.slot,fun b o e n hx=>?_,R.there,fun b xs e=>?_,fun b o u e=>?_,fun b ps e=>?_⟩ ?_ M.bare fun b a=>?_
    ·rw [aq (be b o e)];exact R.free b o e n hx
    ·have q:=R.tups b xs e;rw [aq (aM q d4)];exact q
    ·have q:=R.frzs b o u e;rw [aq (aM q d4)];exact q
    ·obtain ⟨more,q⟩:=R.tbls b ps e;exact ⟨more,by rw [aq (aM q d4)];exact q⟩
    ·exact M.hok.track d4 ⟨Nat.le_of_lt zl,its.toList,nl,v3,by simpa using e4⟩
    ·exact ⟨(f b a).2.2.2.1,(f b a).2.1,(f b a).2.2.2.2.1,(f b a).2.2.2.2.2⟩
  ·refine wpAny_mono (T.item (aG X NY scope s H C fp) rfl rfl rfl hc i _ s3 τ S (fun _ _=>False) Y (L ab single) a0 go) (fun r s4 ⟨u,hr,h4⟩=>?_) fun _ _ e=>e
   subst hr
   refine wpAny_mono h4 (fun _ s5 ⟨x,H5,I5,r5,y5,G,b5⟩=>?_) fun _ _ e=>e
   have b4:=I5.pinned (L b5 single) (T.obj _ _ G)
   refine wpAny_mono (hg s H C fp _ s5 τ H5 x u _ b4 r5 (step x H5 y5)) (fun _ s6 ⟨τ6,H6,I6,q6⟩=>?_) fun _ _ e=>e
   refine wpAny_mono (ht s H C fp _ s6 τ6 H6 _ I6 q6) (fun b s7 ⟨H7,I7,q7⟩=>?_) fun _ _ e=>e
   have after:∀ {s':Shared} {H':Hp},Inv (aG X NY scope s H C fp) ([(D,{ cls:=.type "list",data:=.seq its nl })] ++ jO fp s5.heap) τ6 H' s'->tn (i+1) s'.heap/\(∀ b ∈ fp,H' b=none)/\H' D=none/\s'.heap.PlainList D its:=fun {s' H'} I' =>
    ⟨T.keep _ _ _ G fun b a o e=>(I'.pin (b,o) (By _ (By _ (eC a e)))).1,fun b a=>by
     obtain ⟨o,e,d⟩:=T.obj _ _ G b a
     exact (I'.pin (b,o) (By _ (By _ (eC a e)))).2.1,(I'.pin (D,_) (By _ (Bx _ (B1.mpr rfl)))).2.1,
     nl,(I'.pin (D,_) (By _ (Bx _ (B1.mpr rfl)))).1⟩
   cases b with
   | false =>
    rw [if_neg BM]
    rw [if_neg BM] at q7
    obtain ⟨m',hm,w7⟩:=hN _ _ _ q7
    obtain ⟨a1,a2,a3,a4⟩:=after I7
    exact ⟨m',hm,i+1,ys,τ6,H7,its,I7.pins_of (fun _ z=>absurd z (by simp)),a3,a4,v3,a1,a2,w7⟩
   | true =>
    rw [if_pos rfl]
    rw [if_pos rfl] at q7
    refine wpAny_mono (he s H C fp _ s7 τ6 H7 _ I7 q7) (fun y s8 ⟨yv,H8,I8,r8,n8⟩=>?_) fun _ _ e=>e
    obtain ⟨m',hm,w8⟩:=hN _ _ _ n8
    obtain ⟨a1,a2,a3,a4⟩:=after I8
    have cm:ys.length=its.size:=by simpa using v3.length
    have hsz:its.size<=sizeLine:=by omega
    refine wpAny_list_append_plain (hsz:=hsz) a4 fun h9 l9 ax=>?_
    have I9:Inv (aG X NY scope s H C fp) [] τ6 H8 { s8 with heap:=h9,toks:=s8.toks }:=(I8.pins_of (pins':=[]) fun _ z=>absurd z (by simp)).turned (it:=D) (fun b o a e=>(ax.2 b a).trans e) a3 B (.inr (by show s.heap.objs.size<=D;rw [Q];exact BL _)) (fun x c e z=>?_) fun p z=>absurd (show p ∈ ([]:List (Addr × Obj)) from z) (by simp)
    ·refine ⟨m',hm,i+1,ys ++ [yv],τ6,H8,its.push y,I9,a3,l9,?_,T.keep _ _ _ a1 fun b a o e=>(ax.2 b (BN (l b a))).trans e,a2,w8⟩
     rw [Array.toList_push]
     exact v3.append (.cons r8 .nil)
    ·obtain ⟨v,o,ho,_⟩:=I.cell x c (lV e)
     exact Nat.lt_irrefl _ (z ▸ below c o ho)
 exact codeAny_compStart_list (loop _ rfl) (T.self X.A 0 _ _ _ (T.keep _ _ _ st fun b _ o e=>old b o e) (loop _ rfl))
theorem xv (NY:List Str) (ix:List (Option Nat)) (j:X.calm=true) (hi:PI X tg iter wi) (y:∀ s H C fp,PG (aG X NY scope s H C fp) tg g) (f:∀ s H C fp,PTs (aG X NY scope s H C fp) ifs tc) (he:∀ s H C fp,PE (aG X NY scope s H C fp) elt te) (a:fq scope X.N X.env.scope NY ix=true) (n:∀ x,foldedSetIterable iter X.env x=pure x:=by intro _;rfl):PE X (.ListComp elt [⟨tg,iter,ifs,0⟩] scope pos) (yE wi g tc te ix):=by
 intro pins s σ H Q I h
 have a:=CompOk.of a
 rw [eval_ListComp]
 refine wpAny_comprehension_free (use:=none) rfl n (fu (scope:=scope) (env:=X.env) fun x m e=>?_) a.kind a.loc (thn (hi pins s σ H _ I h) fun v s1 h1=>thn h1 fun z s2 h2=>?_)
 ·rcases a.out x m e with q | q
  ·exact I.ok.has x.1 (.inl q)
  ·exact I.ok.has x.1 (.inr q)
 ·obtain ⟨it,fp,F,J,H2,e,u,T,c,f2,l⟩:=h2
  subst e
  refine nN (RR:=fun acc C=>compPost (model X.prog X.w) X.A X.xe none (EP X pins σ Q) acc C) j a y f he u T c f2 l ?_
  intro D C s' ys H' m r p i t E
  obtain ⟨f0,f1,f2,d,f4,B⟩:=i
  exact ⟨m,r,fun h' sb=>⟨.ref D,_,t.turned (t':=s'.toks) (fun b o k e=>(sb.2 b k).trans e) f0 f1 d f4 B,rfl,E D p⟩⟩
def yH (i:Nat) (a:TI) (g:TG) (tc:TT) (te:TE) (ix:List (Option Nat)):TS:=fun D σ H =>
 a σ H fun J H1=>n6 J g tc te (fun ys H2=>∀ p,H2 p=none->D.nx (σ.set i (some (.ref p))) (upd H2 p (.lst ys))) (cap ix σ) H1
theorem oM {i:Nat} (G:X.N.Nodup) (L:X.N[i]?=some y) (r:Loc X.env.scope y) (NY:List Str) (ix:List (Option Nat)) (K:X.calm=true) (hi:PI X tg iter wi) (W:∀ s H C fp,PG (aG X NY scope s H C fp) tg g) (t:∀ s H C fp,PTs (aG X NY scope s H C fp) ifs tc) (he:∀ s H C fp,PE (aG X NY scope s H C fp) elt te) (c:fq scope X.N X.env.scope NY ix=true) (l:swapsWith (.ListComp elt [⟨tg,iter,ifs,0⟩] scope pos) (some (.Name y py)) spos.line X.env=pure true:=by rfl) (hf:X.fn y=true\/X.env.scope.names.lookup y=some .local:=by first | exact .inl rfl | exact .inr rfl | assumption) (P:∀ x,foldedSetIterable iter X.env x=pure x:=by intro _;rfl):PS X (.Assign [.Name y py] (.ListComp elt [⟨tg,iter,ifs,0⟩] scope pos) spos) (yH i wi g tc te ix):=by
 intro pins s σ H D I h
 have c:=CompOk.of c
 rw [exec_Assign_Name_used _ _ _ _ l]
 refine Bq (wpAny_standAt (Bq ?_))
 show wpAny _ X.A (do let _ <- comprehension (.ListComp elt [⟨tg,iter,ifs,0⟩] scope pos) scope X.env _ (newList []) false (eval iter X.env) (some (assign (.Name y py) X.env))) _ _ s
 refine Bq (wpAny_mono (wpAny_comprehension_free (use:=some (assign (.Name y py) X.env)) (Q:=fun _ s'=>SP X pins D .next s') rfl P (fu (scope:=scope) (env:=X.env) fun x m e=>?_) c.kind c.loc
  (thn (hi pins s σ H _ I h) fun v s1 h1=>thn h1 fun Y s2 h2=>?_)) (fun _ s' u=>Br (Br u)) fun _ _ e=>e)
 ·rcases c.out x m e with q | q
  ·exact I.ok.has x.1 (.inl q)
  ·exact I.ok.has x.1 (.inr q)
 ·obtain ⟨it,fp,tn,J,H2,e,V,T,k,f2,O⟩:=h2
  subst e
  refine nN (RR:=fun acc C=>compPost (model X.prog X.w) X.A X.xe (some (assign (.Name y py) X.env)) (fun _ s'=>SP X pins D .next s') acc C) K c W t he V T k f2 O ?_
  intro f C s' ys H' m S R E U hZ
  obtain ⟨f0,f1,f2,B,f4,Z⟩:=E
  show wpAny _ X.A (assign (.Name y py) X.env (.ref f)) _ _ _
  refine wpAny_assign_Name (ky U G L r (v:=.ref f) rfl (fun j n ⟨a,sb,F⟩=>?_) hf)
  have d:C ≠ a:=by
   rcases F with e | e
   ·rw [e];exact f1
   ·exact fun z=>f4 y a e z.symm
  exact ⟨m,S.sameBut sb d,fun h' p=>⟨_,_,n.turned (t':=j.toks) (fun b o M e=>(p.2 b M).trans e) f0 f1 B f4 Z,hZ f R⟩⟩
end
end L2
end
section
namespace L2
open PySem PySem.Spec PyProof.Rows
section
variable {X:Cx}
inductive KindOf (K:FG) (H:Hp):V->String->Prop
 | int (i:Int):KindOf K H (.int i) "int"
 | bool (b:Bool):KindOf K H (.bl b) "bool"
 | str (x:Str):KindOf K H (.str x) "str"
 | non:KindOf K H .non "NoneType"
 | tuple {a:Addr} {xs:List V}:SqT K H a xs->KindOf K H (.ref a) "tuple"
 | list {a:Addr} {xs:List V}:SqL K H a xs->KindOf K H (.ref a) "list"
 | dK {a:Addr} {kvs}:H a=some (.dK kvs)->KindOf K H (.ref a) "dict"
 | dT {a:Addr} {kvs}:H a=some (.dT kvs)->KindOf K H (.ref a) "dict"
def jj (k t:String):Bool:=k == t || (k == "bool" && t == "int")
theorem Inv.clsK (I:Inv X pins σ H s) (h:KindOf X.K H (.ref a) k):∃ o,s.heap.get? a=some o/\o.cls=.type k:=by
 cases h with
 | tuple h=>obtain ⟨its,_,⟨o,e,c,_⟩,_⟩:=I.tuple h;exact ⟨o,e,c⟩
 | list h=>obtain ⟨its,_,⟨o,n,e,c,_⟩,_⟩:=I.list h;exact ⟨o,e,c⟩
 | dK h=>obtain ⟨_,_,_,_,o,_,_,e,c,_⟩:=I.hok a _ h;exact ⟨o,e,c.1⟩
 | dT h=>obtain ⟨_,_,_,_,o,_,_,e,c,_⟩:=I.hok a _ h;exact ⟨o,e,c.1⟩
theorem l5:bX X (.builtin "isinstance") (fun xs H Q=>∃ x k,xs=[x,.ty "int"]/\KindOf X.K H x k/\Q (.bl (jj k "int")) H):=by
 intro pins s σ H xs us Q I r h
 obtain ⟨x,k,rfl,f,q⟩:=h
 obtain ⟨u,v,rfl,a,g⟩:=ko r
 cases (show v=Value.type "int" from g)
 cases f with
 | int i=>obtain ⟨d,rfl⟩:=a;exact IsiPair.int_int ⟨.bl true,H,I,rfl,q⟩
 | bool b=>cases (show u=Value.bool b from a);exact IsiPair.bool_int ⟨.bl true,H,I,rfl,q⟩
 | str z=>obtain ⟨d,rfl⟩:=a;exact IsiPair.str_int ⟨.bl false,H,I.tok _,rfl,q⟩
 | non=>cases (show u=Value.none from a);exact IsiPair.NoneType_int ⟨.bl false,H,I.tok _,rfl,q⟩
 | tuple hh=>cases a;obtain ⟨o,e,c⟩:=I.clsK (.tuple hh);exact IsiPair.tuple_int e c ⟨.bl false,H,I.tok _,rfl,q⟩
 | list hh=>cases a;obtain ⟨o,e,c⟩:=I.clsK (.list hh);exact IsiPair.list_int e c ⟨.bl false,H,I.tok _,rfl,q⟩
 | dK hh=>cases a;obtain ⟨o,e,c⟩:=I.clsK (.dK hh);exact IsiPair.dict_int e c ⟨.bl false,H,I.tok _,rfl,q⟩
 | dT hh=>cases a;obtain ⟨o,e,c⟩:=I.clsK (.dT hh);exact IsiPair.dict_int e c ⟨.bl false,H,I.tok _,rfl,q⟩
theorem ki:bX X (.builtin "isinstance") (fun xs H Q=>∃ x k,xs=[x,.ty "bool"]/\KindOf X.K H x k/\Q (.bl (jj k "bool")) H):=by
 intro pins s σ H xs us Q I r h
 obtain ⟨x,k,rfl,f,q⟩:=h
 obtain ⟨u,v,rfl,a,g⟩:=ko r
 cases (show v=Value.type "bool" from g)
 cases f with
 | int i=>obtain ⟨d,rfl⟩:=a;exact IsiPair.int_bool ⟨.bl false,H,I.tok _,rfl,q⟩
 | bool b=>cases (show u=Value.bool b from a);exact IsiPair.bool_bool ⟨.bl true,H,I,rfl,q⟩
 | str z=>obtain ⟨d,rfl⟩:=a;exact IsiPair.str_bool ⟨.bl false,H,I.tok _,rfl,q⟩
 | non=>cases (show u=Value.none from a);exact IsiPair.NoneType_bool ⟨.bl false,H,I.tok _,rfl,q⟩
 | tuple hh=>cases a;obtain ⟨o,e,c⟩:=I.clsK (.tuple hh);exact IsiPair.tuple_bool e c ⟨.bl false,H,I.tok _,rfl,q⟩
 | list hh=>cases a;obtain ⟨o,e,c⟩:=I.clsK (.list hh);exact IsiPair.list_bool e c ⟨.bl false,H,I.tok _,rfl,q⟩
 | dK hh=>cases a;obtain ⟨o,e,c⟩:=I.clsK (.dK hh);exact IsiPair.dict_bool e c ⟨.bl false,H,I.tok _,rfl,q⟩
 | dT hh=>cases a;obtain ⟨o,e,c⟩:=I.clsK (.dT hh);exact IsiPair.dict_bool e c ⟨.bl false,H,I.tok _,rfl,q⟩
theorem j7:bX X (.builtin "isinstance") (fun xs H Q=>∃ x k,xs=[x,.ty "tuple"]/\KindOf X.K H x k/\Q (.bl (jj k "tuple")) H):=by
 intro pins s σ H xs us Q I r h
 obtain ⟨x,k,rfl,f,q⟩:=h
 obtain ⟨u,v,rfl,a,g⟩:=ko r
 cases (show v=Value.type "tuple" from g)
 cases f with
 | int i=>obtain ⟨d,rfl⟩:=a;exact IsiPair.int_tuple ⟨.bl false,H,I.tok _,rfl,q⟩
 | bool b=>cases (show u=Value.bool b from a);exact IsiPair.bool_tuple ⟨.bl false,H,I.tok _,rfl,q⟩
 | str z=>obtain ⟨d,rfl⟩:=a;exact IsiPair.str_tuple ⟨.bl false,H,I.tok _,rfl,q⟩
 | non=>cases (show u=Value.none from a);exact IsiPair.NoneType_tuple ⟨.bl false,H,I.tok _,rfl,q⟩
 | tuple hh=>cases a;obtain ⟨o,e,c⟩:=I.clsK (.tuple hh);exact IsiPair.tuple_tuple e c ⟨.bl true,H,I,rfl,q⟩
 | list hh=>cases a;obtain ⟨o,e,c⟩:=I.clsK (.list hh);exact IsiPair.list_tuple e c ⟨.bl false,H,I.tok _,rfl,q⟩
 | dK hh=>cases a;obtain ⟨o,e,c⟩:=I.clsK (.dK hh);exact IsiPair.dict_tuple e c ⟨.bl false,H,I.tok _,rfl,q⟩
 | dT hh=>cases a;obtain ⟨o,e,c⟩:=I.clsK (.dT hh);exact IsiPair.dict_tuple e c ⟨.bl false,H,I.tok _,rfl,q⟩
theorem sK {bs:List Bool}:((List.range bs.length).all fun i=>bs.getD i false)=bs.all id:=by
 rw [Bool.eq_iff_iff]
 simp only [List.all_eq_true,List.mem_range,id]
 constructor
 ·intro h b a
  obtain ⟨i,hi,rfl⟩:=List.mem_iff_getElem.mp a
  simpa [List.getD,hi] using h i hi
 ·intro h i hi
  simpa [List.getD,hi] using h _ (List.getElem_mem hi)
theorem vL (z:X.calm=true):bX X (.builtin "all") (fun xs H Q=>∃ (a:Addr) (bs:List Bool),xs=[.ref a]/\SqL X.K H a (bs.map V.bl)/\Q (.bl (bs.all id)) H):=by
 intro pins s σ H xs us Q I r h
 obtain ⟨a,bs,rfl,m,q⟩:=h
 obtain ⟨u,rfl,f⟩:=du r
 cases f
 obtain ⟨its,k,p,hz⟩:=I.list m
 have l:=k.length
 rw [BF] at l
 have j:a < s.heap.objs.size:=by obtain ⟨o,_,e,_⟩:=id p;exact BC e
 refine call_all_walk (wpAny_pyIter_list p.isList ?_)
 refine ⟨s.heap.objs.size,_,_,_,_,_,fun i=>bs.getD i false,rfl,Walks.list (show X.A.in1.handled=none from I.ok.hd z) s.heap.objs.size a (BN j) its.toArray,⟨⟨_,BE _ rfl,rfl,rfl⟩,p.isList.at fun o e=>Bv _ e⟩,?_,?_⟩
 ·intro i v s' C D t g
  have c:its[i]?=some v:=by simpa using t
  have hi:i < bs.length:=by
   have:=(BG.mp c).1
   omega
  obtain ⟨u,hu,f⟩:=k.get (i:=i) (x:=V.bl (bs[i])) (by simp [hi])
  rw [c] at hu
  cases hu
  cases (show v=Value.bool bs[i] from f)
  refine B7 ?_
  have e:bs.getD i false=bs[i]:=by simp [List.getD,hi]
  have d:C (bs.getD i false) s':=g
  rw [e] at d
  exact d
 ·intro h' w y
  have B:Inv X pins σ H { s with heap:=h',toks:=w }:=I.kept fun b o e=>y b o (by
   intro hm
   have n:b=s.heap.objs.size:=by simpa using hm
   exact absurd (n ▸ BC e) (Nat.lt_irrefl _)) (Bv _ e)
  refine ⟨.bl (bs.all id),H,B,?_,q⟩
  show Value.bool _=Value.bool _
  rw [BO,<- l,sK]
def Ite (K:FG) (a:Addr):It :=
 ⟨fun i H=>∃ xs x,SqL K H a xs/\xs[i]?=some x,fun i H x H'=>∃ T y,x=.ref T/\H T=none/\H'=upd H T (.tup [.int i,y])/\∀ xs,SqL K H a xs->xs[i]?=some y,fun i H=>∃ xs,SqL K H a xs/\xs.length<=i⟩
theorem Inv.two {p:Nat} (I:Inv X pins σ H s) (g:FpOk X pins H e) (h:FpOk X pins H it) (k:∀ b o,b ≠ e->b ≠ it->s.heap.get? b=some o->h'.get? b=some o):Inv X pins σ H { s with heap:=h',toks:=p }:=by
 have f:∀ b u,H b=some u->b ≠ e/\b ≠ it:=fun b u q=>⟨aM q g.1,aM q h.1⟩
 have d:∀ b,b ∉ [e,it]->b ≠ e/\b ≠ it:=fun b i=>⟨fun z=>i (by simp [z]),fun z=>i (by simp [z])⟩
 refine I.step (g':=s.gens) (d':=s.drawn) (ch:=[e,it]) (fun b i=>?_) (fun b o _ _ a q _=>k b o (d b a).1 (d b a).2 q) (fun b o _ _ a q _=>⟨o.slots,k b o (d b a).1 (d b a).2 q⟩) (fun _ _ _ _ n=>n)
  (fun b o a q=>⟨o,k b o (d b a).1 (d b a).2 q⟩) (fun _ _ q=>q) (fun _ _ _ q=>q) (fun b ps q=>⟨#[],by rw [q];simp⟩) (fun m hm=>?_) (fun b u q=>?_) I.bare
 ·have j:b=e\/b=it:=by simpa using i
  rcases j with rfl | rfl
  ·exact ⟨g.2.2.2.1,g.2.1,g.2.2.2.2.1,g.2.2.2.2.2⟩
  ·exact ⟨h.2.2.2.1,h.2.1,h.2.2.2.2.1,h.2.2.2.2.2⟩
 ·obtain ⟨o,es,t,l,r⟩:=hm
  exact ⟨o,es,t,k _ o (Ne.symm g.2.1) (Ne.symm h.2.1) l,r⟩
 ·refine (I.hok b u q).stay (fun c v a z=>?_) (fun _ z=>z) fun _ _ z=>z
  rcases a with a | a
  ·rw [a] at z ⊢;exact k b v (f b u q).1 (f b u q).2 z
  ·exact k c v (f c _ a).1 (f c _ a).2 z
theorem Inv.trackT (I:Inv X pins σ H s) (J:Inv X pins σ H s0) (f:s0.heap.objs.size<=T) (g:IsTupD s.heap T its.toArray) (C:Vals xs its) (hz:xs.length<=sizeLine):Inv X pins σ (upd H T (.tup xs)) s:=by
 have m:H T=none:=J.hok.fresh f
 obtain ⟨e1,A,w,a,y,F,E,z,t,h,k⟩:=id I
 have d:∀ b,H b=none->∀ o,s0.heap.get? b=some o->upd H T (.tup xs) b=none:=fun b D o e=>by
  rw [aq (BN (BS (BC e) f))];exact D
 have i:∀ b u,H b=some u->upd H T (.tup xs) b=some u:=fun b u e=>by rw [aq (aM e m)];exact e
 have j:X.s₀.heap.objs.size<=T:=B8 J.sz f
 refine ⟨e1,A,w,⟨a.keep,a.slot,fun b o q n g=>?_,a.there,fun b ys q=>i _ _ (a.tups b ys q),fun b o u q=>i _ _ (a.frzs b o u q),fun b ps q=>?_⟩,y,F,?_,fun x c q=>?_,fun p l=>?_,?_,k⟩
 ·rw [aq (BN (BS (BC q) j))];exact a.free b o q n g
 ·obtain ⟨more,r⟩:=a.tbls b ps q;exact ⟨more,i _ _ r⟩
 ·rw [aq (BN (BS J.lt f))];exact E
 ·obtain ⟨v,o,G,_⟩:=J.cell x c q
  exact d c (z x c q) o G
 ·obtain ⟨a1,a2,B⟩:=t p l
  exact ⟨a1,d p.1 a2 p.2 (J.pin p l).1,B⟩
 ·exact h.track m ⟨hz,its,C,g⟩
theorem qW {P:Program} {w:World} {K:FG} {elts:List Expr} {k:Nat} {pos:Pos} (a e it:Addr) (t:e ≠ it):Turn P w K (.Tuple elts k pos) (Ite K a) [e,it] e (fun i h=>(∃ old,IsEnum h e it i old)/\h.IsListIter it a i) where
 mem:=by simp
 obj:=fun i h st b g=>by
  obtain ⟨⟨old,he⟩,o,l,c,d⟩:=st
  have J:b=e\/b=it:=by simpa using g
  rcases J with rfl | rfl
  ·exact ⟨_,he,fun v z=>by cases z⟩
  ·exact ⟨o,l,fun v z=>by rw [d] at z;cases z⟩
 keep:=fun i h h' st k=>⟨let ⟨old,he⟩:=st.1;⟨old,k e (by simp) _ he⟩,st.2.at fun o q=>k it (by simp) o q⟩
 item:=by
  intro X C hw L O i pins s σ H E I hf st F
  subst C hw L
  obtain ⟨xs,x,A,B⟩:=F
  obtain ⟨its,D,p,hz⟩:=I.list A
  obtain ⟨u,hu,U⟩:=D.get B
  obtain ⟨⟨old,he⟩,hit⟩:=st
  refine wpAny_pyNext_enum_item he hit p.isList (x:=u) (by simpa using hu) t fun h' M n S hsz R=>?_
  refine ⟨_,rfl,wpAny_letOwnedTupleGo_enum M fun m y f=>?_⟩
  have j:e < s.heap.objs.size:=BC he
  have W:Inv X pins σ H { s with heap:=m,toks:=s.toks+1 }:=I.two (hf e (by simp)) (hf it (by simp)) fun b o hb1 hb2 q=>(f.2 b hb1).trans (R b o hb1 hb2 q)
  have G:m.get? s.heap.objs.size=some { cls:=.type "tuple",data:=.seq #[.int i s.toks,u] }:=(f.2 _ (Nat.ne_of_gt j)).trans S
  have Z:=W.trackT (s0:=s) (T:=s.heap.objs.size) (xs:=[.int i,x]) (its:=[.int i s.toks,u]) I (BL _) ⟨_,G,rfl,_,rfl⟩ (.cons ⟨_,rfl⟩ (.cons U .nil)) (by show 2<=sizeLine;decide)
  refine ⟨.ref s.heap.objs.size,_,Z,rfl,⟨_,x,rfl,I.hok.fresh (BL _),rfl,fun ys V=>by rw [I.list_inj V A];exact B⟩,⟨⟨_,by simpa using y⟩,?_⟩,fun b g=>?_⟩
  ·obtain ⟨o,l,r⟩:=n
   exact ⟨o,(f.2 it (Ne.symm t)).trans l,r⟩
  ·have N:b < s.heap.objs.size:=by
    have J:b=e\/b=it:=by simpa using g
    rcases J with rfl | rfl
    ·exact j
    ·obtain ⟨o,l,r⟩:=hit;exact BC l
   rw [aq (BN N)]
   exact (hf b g).1
 done:=by
  intro X C hw L O i pins s σ H E I hf st F
  subst C hw L
  obtain ⟨xs,A,B⟩:=F
  obtain ⟨its,D,p,hz⟩:=I.list A
  obtain ⟨⟨old,he⟩,hit⟩:=st
  have hl:=D.length
  obtain ⟨f0,f1,f2,Q,f4,f5⟩:=hf it (by simp)
  exact wpAny_pyNext_enum_end (I.ok.hd O) he hit p.isList (by simp;omega) fun h' Y=>⟨rfl,I.turned (t':=s.toks) (fun b o g q=>Y b o g q) f0 f1 Q f4 f5⟩
 self:=fun _ _ _ _ _ st h=>let ⟨_,he⟩:=st.1;wpAny_pyIter_enum he h
def yV (K:FG) (ta:TA):TI:=fun σ H R=>ta σ H fun b H1=>∃ a,b=[.ref a]/\(∃ xs,SqL K H1 a xs)/\R (Ite K a) H1
theorem xr {k:Nat} (v:Gl X "enumerate") (hm:X.mg "enumerate"=none) (l:PA X [a] ta) (r:starEach [a] X.env=[(false,eval a X.env)]:=by rfl):PI X (.Tuple elts k tp) (.Call (.Name "enumerate" p) [a] [] pos) (yV X.K ta):=by
 intro pins s σ H R I h
 refine Call_ (iN I v hm boot_enumerate (PyProof.Rows.callWith_type1 (thn (l pos pins s σ H _ I h) fun us s1 ⟨x,H1,d,j,i⟩=>?_) r rfl))
 obtain ⟨a,e,⟨xs,f⟩,q⟩:=i
 subst e
 obtain ⟨u,rfl,n⟩:=du j
 cases n
 obtain ⟨its,w,pl,hz⟩:=d.list f
 refine call_enumerate_list pl.isList fun h' he hit hsz m=>?_
 refine wpAny_pyIter_enum he ?_
 have t:Inv X pins σ H1 { s1 with heap:=h' }:=d.kept (t':=s1.toks) m
 refine ⟨s1.heap.objs.size+1,[s1.heap.objs.size+1,s1.heap.objs.size],_,_,H1,rfl,t,qW a _ _ (Nat.succ_ne_self _),⟨⟨_,he⟩,hit⟩,fun b o=>?_,q⟩
 have c:s1.heap.objs.size<=b:=by
  have g:b=s1.heap.objs.size+1\/b=s1.heap.objs.size:=by simpa using o
  rcases g with rfl | rfl
  ·exact Nat.le_succ _
  ·exact BL _
 exact d.fpOk c (d.hok.fresh c)
end
end L2
end
section
namespace L2
open PySem PySem.Spec PyProof.Rows
structure Callee (P:Program) (w:World) (K:FG) (mg:Str->Option Value) (base:Heap) (x:Str) (k:Nat) (ps:List Str) (sp:Sp):Prop where
 ex:∃ (f:Addr) (fd:FuncData),FnOk P w K mg base CX0 k f fd ps sp/\mg x=some (.ref f)/\PySem.W.keepIn K (.ref f)=true/\Binds K fd ps []
structure DefAt (K:FG) (mg:Str->Option Value) (x:Str) (st:Stmt) (f:Addr) (fd:FuncData):Prop where
 fn:Fun K x x st f fd
 mg:mg x=some (.ref f)
def Def (K:FG) (mg:Str->Option Value) (x:Str) (st:Stmt):Prop:=∃ f fd,DefAt K mg x st f fd
theorem Def.callee {K:FG} {st:Stmt} {k:Nat} (D:Def K mg x st) (b:∀ (kV doc pm:Value) (an:Option Addr) (a ct:Value) (us:List Value),us.length=ps.length->bindArgs (PySem.W.fnOf x x (bd st) (aU st) (ah st) .none kV doc pm an a ct) ⟨us,[]⟩=pure (ps.zip us)) (h:∀ f fd,Fun K x x st f fd->FnOk P w K mg base CX0 k f fd ps sp):Callee P w K mg base x k ps sp :=
 let ⟨f,fd,d⟩:=D
 ⟨f,fd,h f fd d.fn,d.mg,d.fn.kp,d.fn.binds b⟩
section
variable {X:Cx} {x:Str} {p pos:Pos} {e:Expr} {es:List Expr} {t:TA} {k:Nat} {ps:List Str} {sp:Sp}
def tFn (sp:Sp) (t:TA):TE:=fun σ H Q=>t σ H fun a H1=>sp a H1 Q E0
theorem pe_fn (c:Callee X.prog X.w X.K X.mg X.base x k ps sp) (n:Room k X.A) (j:PA X (e :: es) t) (m:Gl X x:=by rfl) (b:(x == ("__debug__":Str))=false:=by decide)
  (he:starEach (e :: es) X.env=(false,eval e X.env) :: starEach es X.env:=by rfl) (d:(backTo pos (starEach es X.env)).any (·.1)=false:=by rfl):PE X (.Call (.Name x p) (e :: es) [] pos) (tFn sp t):=by
 obtain ⟨f,fd,F,hm,l,i⟩:=c.ex
 have h:=xx (pos:=pos) (p:=p) (dvs:=[]) (E:=E0) F n m hm l i .nil pass0 j b he d
 intro pins s σ H Q I q
 refine h pins s σ H Q I ?_
 show t σ H fun a H1=>sp (a ++ []) H1 Q E0
 have g:t σ H (fun a H1=>sp a H1 Q E0):=q
 simpa using g
end
def But (p:Addr) (H H':Hp):Prop:=∀ b o,H b=some o->b ≠ p->H' b=some o
theorem But.trans (a:But p H H1) (b:But p H1 H2):But p H H2:=fun c o h n=>b c o (a c o h n) n
abbrev Pt:=Int × Int
def aL (p q r:Pt):Int:=(q.1 - p.1) * (r.2 - p.2) - (q.2 - p.2) * (r.1 - p.1)
def Small (p:Pt):Prop:=-(2 ^ 62) < p.1/\p.1 < 2 ^ 62/\-(2 ^ 62) < p.2/\p.2 < 2 ^ 62
def Rising (ps:List Pt):Prop:=∀ (i j:Nat) (p q:Pt),i < j->ps[i]?=some p->ps[j]?=some q->p.1 < q.1
def NoLine (ps:List Pt):Prop:=∀ (i j k:Nat) (p q r:Pt),i < j->j < k->ps[i]?=some p->ps[j]?=some q->ps[k]?=some r->aL p q r ≠ 0
structure GoodSh (ps:List Pt):Prop where
 pos:0 < ps.length
 most:ps.length<=24
 small:∀ p ∈ ps,Small p
 rising:Rising ps
 noline:NoLine ps
def sH:Expr->Option Int
 | .Constant (.int i) _ _=>some i
 | _=>none
theorem qf:∀ {es:List Expr} (ns:List Int),es.map sH=ns.map some->PA X es (fun _ H Q=>Q (ns.map V.int) H)
 | [],[],_=>lL
 | [],_ :: _,h=>by simp at h
 | _ :: _,[],h=>by simp at h
 | e :: es,n :: ns,h=>by
  simp only [BP,List.cons.injEq] at h
  obtain ⟨h1,h2⟩:=h
  have b:=qf (X:=X) ns h2
  cases e with
  | Constant c j pos =>
   cases c with
   | int i =>
    have a:i=n:=by simpa [sH] using h1
    subst a
    exact gw lI b
   | _=>simp [sH] at h1
  | _=>simp [sH] at h1
def i9:List Pt->List (Pt × Pt)
 | []=>[]
 | p :: r=>r.map (fun q=>(p,q)) ++ i9 r
theorem kN:∀ {ps:List Pt} {i j:Nat} {p q:Pt},i < j->ps[i]?=some p->ps[j]?=some q->(p,q) ∈ i9 ps
 | [],_,_,_,_,_,h,_=>by simp at h
 | a :: r,0,0,_,_,h,_,_=>by omega
 | a :: r,0,j+1,p,q,_,h1,h2=>by
  simp at h1 h2;subst h1
  exact Bx _ (BJ.mpr ⟨q,BH h2,rfl⟩)
 | a :: r,i+1,0,_,_,h,_,_=>by omega
 | a :: r,i+1,j+1,p,q,h,h1,h2=>By _ (kN (ps:=r) (i:=i) (j:=j) (by omega) (by simpa using h1) (by simpa using h2))
theorem mV:∀ {ps:List Pt} {p q:Pt},(p,q) ∈ i9 ps->∃ i j:Nat,i < j/\ps[i]?=some p/\ps[j]?=some q
 | [],_,_,h=>by simp [i9] at h
 | a :: r,p,q,h=>by
  rcases BD.mp h with h | h
  ·obtain ⟨z,hz,e⟩:=BJ.mp h
   cases e
   obtain ⟨j,b,e⟩:=List.mem_iff_getElem.mp hz
   exact ⟨0,j+1,by omega,rfl,by simp [b,e]⟩
  ·obtain ⟨i,j,h0,h1,h2⟩:=mV h
   exact ⟨i+1,j+1,by omega,by simpa using h1,by simpa using h2⟩
theorem kJ:∀ ps:List Pt,(i9 ps).length<=ps.length * ps.length
 | []=>by simp [i9]
 | a :: r=>by
  have b:=kJ r
  simp only [i9,BV,BF,BW]
  have:(r.length+1) * (r.length+1)=r.length * r.length+2 * r.length+1:=by
   rw [Nat.add_mul,Nat.mul_add];omega
  omega
def we (ps:List Pt) (z:Pt):Prop:=∀ (i j:Nat) (p q:Pt),i < j->ps[i]?=some p->ps[j]?=some q->aL p q z ≠ 0
def above (ps:List Pt) (x y:Int):Nat:=((i9 ps).filter fun pr=>decide (aL pr.1 pr.2 (x,y)<=0)).length
theorem vG {α:Type} {p q:α->Bool}:∀ {l:List α},(∀ a ∈ l,p a=true->q a=true)->(l.filter p).length<=(l.filter q).length
 | [],_=>by simp
 | a :: l,h=>by
  have e:=vG (l:=l) fun b g=>h b (Bu _ g)
  have f:=h a Bt
  cases c:p a with
  | true=>rw [List.filter_cons_of_pos c,List.filter_cons_of_pos (f c)];simpa using e
  | false =>
   rw [List.filter_cons_of_neg (by simp [c])]
   cases d:q a with
   | true=>rw [List.filter_cons_of_pos d];simp;omega
   | false=>rw [List.filter_cons_of_neg (by simp [d])];exact e
theorem vF {α:Type} {p q:α->Bool}:∀ {l:List α} {z:α},(∀ a ∈ l,p a=true->q a=true)->z ∈ l->q z=true->p z=false->(l.filter p).length < (l.filter q).length
 | [],_,_,hz,_,_=>by simp at hz
 | a :: l,z,h,hz,h1,h2=>by
  have f:∀ b ∈ l,p b=true->q b=true:=fun b i=>h b (Bu _ i)
  rcases Bz.mp hz with rfl | hz
  ·rw [List.filter_cons_of_neg (by simp [h2]),List.filter_cons_of_pos h1]
   have:=vG f
   simp;omega
  ·have e:=vF f hz h1 h2
   have g:=h a Bt
   cases c:p a with
   | true=>rw [List.filter_cons_of_pos c,List.filter_cons_of_pos (g c)];simpa using e
   | false =>
    rw [List.filter_cons_of_neg (by simp [c])]
    cases d:q a with
    | true=>rw [List.filter_cons_of_pos d];simp;omega
    | false=>rw [List.filter_cons_of_neg (by simp [d])];exact e
theorem qM (p q:Pt) (x y:Int):aL p q (x,y+1)=aL p q (x,y)+(q.1 - p.1):=by
 unfold aL
 have e:(q.1 - p.1) * (y+1 - p.2)=(q.1 - p.1) * (y - p.2)+(q.1 - p.1):=by
  rw [show y+1 - p.2=(y - p.2)+1 by omega,Int.mul_add,Int.mul_one]
 show (q.1 - p.1) * (y+1 - p.2) - (q.2 - p.2) * (x - p.1)=(q.1 - p.1) * (y - p.2) - (q.2 - p.2) * (x - p.1)+(q.1 - p.1)
 rw [e];omega
theorem vY {x y:Int} (R:Rising ps) {i j:Nat} (a:i < j) (hi:ps[i]?=some p) (c:ps[j]?=some q) (h0:aL p q (x,y)=0):above ps x (y+1) < above ps x y:=by
 refine vF (z:=(p,q)) (fun pr b h=>?_) (kN a hi c) (by simp [h0]) ?_
 ·obtain ⟨f,d,h',e1,e⟩:=mV (p:=pr.1) (q:=pr.2) b
  have:=R f d _ _ h' e1 e
  have h:=of_decide_eq_true h
  rw [qM] at h
  exact BQ (by omega)
 ·have:=R i j _ _ a hi c
  show decide (aL p q (x,y+1)<=0)=false
  rw [qM,h0]
  exact BR (by omega)
theorem vZ (ps:List Pt) (x y:Int):above ps x y<=ps.length * ps.length:=B8 (List.length_filter_le _ _) (kJ ps)
theorem cT {α:Type} {l:List α} {z a:α} {i:Nat} (h:(l ++ [z])[i]?=some a):(l[i]?=some a/\i < l.length)\/(a=z/\i=l.length):=by
 by_cases hi:i < l.length
 ·rw [B4 hi] at h;exact .inl ⟨h,hi⟩
 ·rw [List.getElem?_append_right (by omega)] at h
  have:i - l.length=0:=by
   cases e:i - l.length with
   | zero=>rfl
   | succ n=>rw [e] at h;simp at h
  rw [this] at h;simp at h
  exact .inr ⟨h.symm,by omega⟩
theorem Rising.snoc (R:Rising ps) (h:∀ p ∈ ps,p.1 < z.1):Rising (ps ++ [z]):=fun i j p q a h1 h2=>by
 rcases cT h1 with ⟨a1,b1⟩ | ⟨rfl,b1⟩
 ·rcases cT h2 with ⟨a2,b2⟩ | ⟨rfl,b2⟩
  ·exact R i j p q a a1 a2
  ·exact h p (BH a1)
 ·rcases cT h2 with ⟨a2,b2⟩ | ⟨rfl,b2⟩
  ·omega
  ·omega
theorem NoLine.snoc (N:NoLine ps) (F:we ps z):NoLine (ps ++ [z]):=fun i j k p q r a c h1 h2 h3=>by
 rcases cT h1 with ⟨a1,b1⟩ | ⟨rfl,b1⟩
 ·rcases cT h2 with ⟨a2,b2⟩ | ⟨rfl,b2⟩
  ·rcases cT h3 with ⟨d,b⟩ | ⟨rfl,b⟩
   ·exact N i j k p q r a c a1 a2 d
   ·exact F i j p q a a1 a2
  ·rcases cT h3 with ⟨d,b⟩ | ⟨rfl,b⟩ <;> omega
 ·rcases cT h2 with ⟨a2,b2⟩ | ⟨rfl,b2⟩ <;> omega
def fV (a b c:Int) (p:Pt):Pt:=(a * p.1+c,b * p.2)
theorem pI (a b c:Int) (p q r:Pt):aL (fV a b c p) (fV a b c q) (fV a b c r)=(a * b) * aL p q r:=by
 unfold aL fV
 show (a * q.1+c - (a * p.1+c)) * (b * r.2 - b * p.2) - (b * q.2 - b * p.2) * (a * r.1+c - (a * p.1+c))=_
 have e1:a * q.1+c - (a * p.1+c)=a * (q.1 - p.1):=by rw [Int.mul_sub];omega
 have e:b * r.2 - b * p.2=b * (r.2 - p.2):=by rw [Int.mul_sub]
 have f:b * q.2 - b * p.2=b * (q.2 - p.2):=by rw [Int.mul_sub]
 have d:a * r.1+c - (a * p.1+c)=a * (r.1 - p.1):=by rw [Int.mul_sub];omega
 rw [e1,e,f,d,Int.mul_sub (a * b)]
 have f1:a * (q.1 - p.1) * (b * (r.2 - p.2))=a * b * ((q.1 - p.1) * (r.2 - p.2)):=by
  rw [Int.mul_assoc,Int.mul_assoc,Int.mul_left_comm (q.1 - p.1)]
 have f2:b * (q.2 - p.2) * (a * (r.1 - p.1))=a * b * ((q.2 - p.2) * (r.1 - p.1)):=by
  rw [Int.mul_comm a b,Int.mul_assoc,Int.mul_assoc,Int.mul_left_comm (q.2 - p.2)]
 rw [f1,f2]
theorem Rising.scale {a b c:Int} (g:0 < a) (R:Rising ps):Rising (ps.map (fV a b c)):=fun i j p q e h1 h2=>by
 rw [BK] at h1 h2
 obtain ⟨f,e1,rfl⟩:=Bw.mp h1
 obtain ⟨d,h,rfl⟩:=Bw.mp h2
 have:=R i j f d e e1 h
 have h3:a * f.1 < a * d.1:=Int.mul_lt_mul_of_pos_left this g
 show a * f.1+c < a * d.1+c
 omega
theorem NoLine.scale {a b c:Int} (o:0 < a) (n:0 < b) (N:NoLine ps):NoLine (ps.map (fV a b c)):=fun i j k p q r d e h1 h2 h3=>by
 rw [BK] at h1 h2 h3
 obtain ⟨h,e1,rfl⟩:=Bw.mp h1
 obtain ⟨f,l,rfl⟩:=Bw.mp h2
 obtain ⟨m,g,rfl⟩:=Bw.mp h3
 rw [pI]
 exact Int.mul_ne_zero (Int.mul_ne_zero (by omega) (by omega)) (N i j k h f m d e e1 l g)
section InBlock
variable {X:Cx} {NY:List Str} {scope:Scope} {s:Shared} {H:Hp} {C:Addr} {fp:List Addr}
end InBlock
end L2
end
section
namespace L2
open PySem PySem.Spec PyProof.Rows
mutual
inductive DV (K:FG) (H:Hp):V->PyData->Prop
 | non:DV K H .non .none
 | bl (b:Bool):DV K H (.bl b) (.bool b)
 | int (i:Int):DV K H (.int i) (.int i)
 | str (x:Str):DV K H (.str x) (.str x)
 | tup {a:Addr} {xs:List V} {ds:List PyData}:SqT K H a xs->DVs K H xs ds->DV K H (.ref a) (.tuple ds)
 | lst {a:Addr} {xs:List V} {ds:List PyData}:SqL K H a xs->DVs K H xs ds->DV K H (.ref a) (.list ds)
inductive DVs (K:FG) (H:Hp):List V->List PyData->Prop
 | nil:DVs K H [] []
 | cons {x:V} {d:PyData} {xs:List V} {ds:List PyData}:DV K H x d->DVs K H xs ds->DVs K H (x :: xs) (d :: ds)
end
section
variable {X:Cx} {pins:List (Addr × Obj)} {σ:St} {H:Hp} {s:Shared}
mutual
theorem DV.reads (I:Inv X pins σ H s):∀ {v:V} {d:PyData} {u:Value},DV X.K H v d->RelV v u->∃ as,Reads s.heap u d as
 | _,_,u,.non,r=>by cases (show u=Value.none from r);exact ⟨_,.none⟩
 | _,_,u,.bl b,r=>by cases (show u=Value.bool b from r);exact ⟨_,.bool b⟩
 | _,_,u,.int i,r=>by obtain ⟨t,rfl⟩:=r;exact ⟨_,.int i t⟩
 | _,_,u,.str x,r=>by obtain ⟨t,rfl⟩:=r;exact ⟨_,.str x t⟩
 | _,_,u,.tup (a:=a) h rs,r=>by
  cases (show u=Value.ref a from r)
  obtain ⟨its,f,⟨o,e,c,n,d⟩,_⟩:=I.tuple h
  obtain ⟨as,q⟩:=DVs.reads I rs f
  exact ⟨_,.tuple e c d (by simpa using q)⟩
 | _,_,u,.lst (a:=a) h rs,r=>by
  cases (show u=Value.ref a from r)
  obtain ⟨its,f,⟨o,n,e,c,_,d⟩,_⟩:=I.list h
  obtain ⟨as,q⟩:=DVs.reads I rs f
  exact ⟨_,.list e c d (by simpa using q)⟩
theorem DVs.reads (I:Inv X pins σ H s):∀ {v:List V} {d:List PyData} {us:List Value},DVs X.K H v d->Vals v us->∃ as,ReadsAll s.heap us d as
 | _,_,_,.nil,.nil=>⟨_,.nil⟩
 | _,_,_,.cons h r,.cons q t=>by
  obtain ⟨as,e1⟩:=DV.reads I h q
  obtain ⟨bs,a⟩:=DVs.reads I r t
  exact ⟨_,.cons e1 a⟩
end
end
end L2
end
section
namespace L2
open PySem PySem.Spec PyProof.Rows
abbrev kg (i:Int):Str:=Str.ofString (toString i)
def dig (m:Nat):List Nat:=(Nat.toDigits 10 m).map Char.toNat
theorem numC (i:Int):(kg i).cps.toList=if i < 0 then 45 :: dig i.natAbs else dig i.natAbs:=by
 cases i with
 | ofNat m =>
  rw [if_neg (by simp)]
  exact PySem.W.KIN.signs_num m
 | negSucc m =>
  rw [if_pos (by exact Int.negSucc_lt_zero m)]
  unfold kg
  rw [PyProof.Rows.signs_ofString]
  show (("-" ++ toString (Nat.succ m)):String).toList.map Char.toNat=45 :: dig (Nat.succ m)
  rw [String.toList_append,List.map_append]
  show [45] ++ ((Nat.repr (m+1)).toList.map Char.toNat)=_
  rw [Nat.toList_repr]
  rfl
theorem yj {m k:Nat} (a:0 < k) (h:m < 10 ^ k):(dig m).length<=k:=by
 unfold dig
 rw [BF]
 exact (Nat.length_toDigits_le_iff (by decide) a).mpr h
end L2
end
section
namespace L2
open PySem PySem.Spec PyProof.Rows
end L2
end
section
namespace L2
open PySem PySem.Spec PyProof.Rows
end L2
end
section
namespace L2
open PySem PySem.Spec PyProof.Rows
end L2
end
section
namespace L2
open PySem PySem.Spec PyProof.Rows
end L2
end
section
namespace L2
open PySem PySem.Spec PyProof.Rows
end L2
end
section
namespace L2
open PySem PySem.Spec PyProof.Rows
end L2
end
section
namespace L2
open PySem PySem.Spec PyProof.Rows
end L2
end
section
namespace L2
open PySem PySem.Spec PyProof.Rows
end L2
end
section
namespace L2
open PySem PySem.Spec PyProof.Rows
end L2
end
section
namespace PySem
open Sem (wp)
end PySem
end
section
namespace L2
open PySem PySem.Spec PyProof.Rows
end L2
end
section
namespace L2
open PySem PySem.Spec PyProof.Rows
end L2
end
section
namespace L2
open PySem PySem.Spec PyProof.Rows
end L2
end
section
namespace PyProof.Rows
open PySem
section
variable {prog:Program} {w:World} {A:Around} {E:Value->Shared->Prop} {s:Shared}
theorem j6 (f:s.heap.IsTuple l vs.toArray) (h:Q vs { s with heap:=(s.heap.push (seqObj "list" #[] 0)).update s.heap.objs.size (Obj.mapSeq (· ++ vs.toArray)) }) (hsz:vs.length<=sizeLine:=by size_fits) :
  wpAny (model prog w) A (collect (.ref l)) Q E s:=by
 obtain ⟨⟨c,i,da,sl⟩,h1,e1,n,b⟩:=f
 obtain ⟨a,g,k,j,os⟩:=s
 simp only at e1 b h1
 subst e1 b
 have h2:(a.push (seqObj "list" #[] 0)).get? l=some { cls:=.type "tuple",dict:=i,data:=.seq vs.toArray n,slots:=sl }:=Bv _ h1
 have h3:(a.push (seqObj "list" #[] 0)).get? a.objs.size=some (seqObj "list" #[] 0):=BE _ rfl
 unfold collect
 refine Bq (wpAny_runValue (codeAny_builtin entry_proto_collect' ?_))
 unfold Builtin.«proto.collect»
 refine Bq (wpAny_newList (Br ⟨Code.quiet_builtin _ (by decide +kernel),codeAny_builtin entry_list_iadd' ?_⟩))
 wp_walk
 rw [show (Obj.mapSeq (fun x=>x ++ vs.toArray) (seqObj "list" #[] 0)).data.pastItsLine=none from pastItsLine_seq (by simp;omega)]
 have d:=BU (Obj.mapSeq (· ++ vs.toArray)) h3 rfl
 refine Br (Br (Bq (wpAny_load d ?_)))
 have e:((#[]:Array Value) ++ vs.toArray).toList=vs:=by simp
 exact Br (e.symm ▸ h)
end
end PyProof.Rows
end
section
namespace L2
open PySem PySem.Spec PyProof.Rows
end L2
end
section
namespace L2
open PySem PySem.Spec PyProof.Rows
end L2
end
section
namespace L2
open PySem PySem.Spec PyProof.Rows
def IsNts (h:Heap) (b:Addr) (n:List Int):Prop:=∃ it:Array Value,IsTup h b it/\IntsAre it.toList n
theorem jU:∀ x:List Int,HT.lexLt x x=false
 | []=>rfl
 | a :: x=>by rw [HT.lexLt_cons,if_pos rfl];exact jU x
theorem iM:∀ {x y z:List Int},HT.lexLt x y=true->HT.lexLt y z=true->HT.lexLt x z=true
 | [],[],_,h1,_=>by cases h1
 | [],_ :: _,[],_,h2=>by cases h2
 | [],_ :: _,_ :: _,_,_=>rfl
 | _ :: _,[],_,h1,_=>by cases h1
 | _ :: _,_ :: _,[],_,h2=>by cases h2
 | a :: x,b :: y,c :: z,h1,h2=>by
  rw [HT.lexLt_cons] at *
  by_cases e1:a=b
  ·rw [if_pos e1] at h1
   by_cases d:b=c
   ·rw [if_pos d] at h2
    rw [if_pos (e1.trans d)];exact iM h1 h2
   ·rw [if_neg d] at h2
    rw [if_neg (fun q=>d (e1.symm.trans q)),e1];exact h2
  ·rw [if_neg e1] at h1
   have e:=of_decide_eq_true h1
   by_cases d:b=c
   ·rw [if_neg (fun q=>e1 (q.trans d.symm)),<- d];exact h1
   ·rw [if_neg d] at h2
    have f:=of_decide_eq_true h2
    rw [if_neg (by omega)];exact BQ (by omega)
theorem ql:∀ {x y:List Int},HT.lexLt x y=false->HT.lexLt y x=false->x=y
 | [],[],_,_=>rfl
 | [],_ :: _,h,_=>by cases h
 | _ :: _,[],_,h=>by cases h
 | a :: x,b :: y,h1,h2=>by
  rw [HT.lexLt_cons] at *
  by_cases e:a=b
  ·rw [if_pos e] at h1
   rw [if_pos e.symm] at h2
   rw [e,ql h1 h2]
  ·rw [if_neg e] at h1
   rw [if_neg (Ne.symm e)] at h2
   have:=of_decide_eq_false h1
   have:=of_decide_eq_false h2
   omega
end L2
end
section
namespace L2
open PySem PySem.Spec PyProof.Rows
abbrev aR (f:Bool):SortKind:=(sortPriv% PySem.Builtin.KeyKind.tuples) f
section
variable {prog:Program} {w:World} {A:Around} {E:Value->Shared->Prop} {s:Shared}
theorem oT (f:Bool) {a b:Int} (h:Q (decide (a < b)) s):wpAny (model prog w) A (oneLt' f (.int a t) (.int b u)) Q E s:=by
 cases f with
 | true=>exact oneLt_int h
 | false =>
  rw [oneLt'_eq]
  simp only [B2,if_false]
  refine Bq (HT.rcLt_int A s a t b u prog w E _ ?_)
  exact B7 h
theorem kR (f:Bool) (n m:Nat) {k:Option Bool × Unit->Sem Bool} (l:∀ p q i c,g ((p,q),i) c=(do
          let b <- eqBool p q
          if (!b)=true then do
            let r <- oneLt' (f && i == 0) p q
            pure (ForInStep.done (some r,()))
          else pure (ForInStep.yield (none,())))) (j:∀ b,k (some b,())=pure b) (d:k (none,())=pure (decide (n < m))):∀ (h ws:List Value) (ns ms:List Int) (i:Nat),IntsAre h ns->IntsAre ws ms->ns.length+m=ms.length+n->Q (HT.lexLt ns ms) s ->
    wpAny (model prog w) A (forIn ((h.zip ws).zipIdx i) ((none,()):Option Bool × Unit) g) (fun r s'=>wpAny (model prog w) A (k r) Q E s') E s
  | [],ws,ns,ms,i,h1,h2,hl,q=>by
    cases h1
    have e:HT.lexLt [] ms=decide (n < m):=by
      cases ms with
      | nil=>simp at hl;rw [HT.lexLt_nil_nil];exact (BR (by omega)).symm
      | cons a ms=>simp at hl;rw [HT.lexLt_nil_cons];exact (BQ (by omega)).symm
    rw [e] at q
    rw [List.zip_nil_left]
    simp only [List.zipIdx_nil,List.forIn_nil]
    refine Br ?_
    rw [d]
    exact Br q
  | v :: h,[],ns,ms,i,h1,h2,hl,q=>by
    cases h2
    cases h1 with
    | cons a t h1 =>
    rename_i ns
    have e:HT.lexLt (a :: ns) []=decide (n < m):=by
      simp at hl;rw [HT.lexLt_cons_nil];exact (BR (by omega)).symm
    rw [e] at q
    rw [List.zip_nil_right]
    simp only [List.zipIdx_nil,List.forIn_nil]
    refine Br ?_
    rw [d]
    exact Br q
  | v :: h,u :: ws,ns,ms,i,h1,h2,hl,q=>by
    cases h1 with
    | cons a t h1 =>
    cases h2 with
    | cons b t2 h2 =>
    rename_i ns ms
    rw [List.zip_cons_cons,List.zipIdx_cons,List.forIn_cons,l]
    rw [HT.lexLt_cons] at q
    refine Bq (Bq ((intKind prog w).eqBool (a:=a) (b:=b) (by simp [intKind,Value.isInt]) (by simp [intKind,Value.isInt]) ?_))
    by_cases e:a=b
    · rw [if_pos e] at q
      rw [BQ e]
      simp only [Bool.not_true,B2,if_false]
      refine Br ?_
      exact kR f n m l j d h ws ns ms (i+1) h1 h2 (by simp at hl;omega) q
    · rw [if_neg e] at q
      rw [BR e]
      simp only [Bool.not_false,if_true]
      refine Bq (oT _ (Br (Br ?_)))
      rw [j]
      exact Br q
theorem rV (i:IsNts s.heap a x) (j:IsNts s.heap b y) (h:Q (HT.lexLt x y) s):wpAny (model prog w) A (keyLt' (aR f) (.ref a) (.ref b)) Q E s:=by
 obtain ⟨c,⟨p,e1,c1,q,d1⟩,e⟩:=i
 obtain ⟨d,⟨o,n,c2,r,l⟩,g⟩:=j
 refine Bq (listItems_at e1 d1 ?_)
 refine Bq (listItems_at n l ?_)
 refine Bq ?_
 have m:x.length=c.size:=by rw [<- e.length];simp
 have k:y.length=d.size:=by rw [<- g.length];simp
 exact kR f c.size d.size (fun _ _ _ _=>rfl) (fun _=>rfl) rfl c.toList d.toList x y 0 e g (by omega) h
end
end L2
end
section
namespace L2
open PySem PySem.Spec PyProof.Rows
end L2
end
section
namespace L2
open PySem PySem.Spec PyProof.Rows
section
variable {prog:Program} {w:World} {A:Around} {E:Value->Shared->Prop} {s:Shared}
theorem pc (v:Value):firstOfTuple' v=(do
  if (<- typeOf v) != .type "tuple" then return none
  return (<- Builtin.List.listItems v)[0]?):=rfl
theorem k6 (f:IsNts s.heap b n) (h0:n ≠ []) (h:∀ i t,Q (some (.int i t)) s):wpAny (model prog w) A (firstOfTuple' (.ref b)) Q E s:=by
 obtain ⟨it,⟨o,e,c,k,d⟩,j⟩:=f
 rw [pc]
 refine Bq (wpAny_typeOf (T:="tuple") ⟨o,e,c⟩ ?_)
 rw [if_neg (by decide)]
 refine Bq (listItems_at e d ?_)
 cases a:it.toList with
 | nil=>rw [a] at j;cases j;exact absurd rfl h0
 | cons v vs =>
  rw [a] at j
  cases j with
  | cons i t j =>
   have:it[0]?=some (.int i t):=by rw [<- Array.getElem?_toList,a];rfl
   rw [this]
   exact Br (h i t)
theorem j3:∀ (bs:List Addr),(∀ b ∈ bs,∃ n,n ≠ []/\IsNts s.heap b n)->(∀ (a:List Value) (ns:List Int),IntsAre a ns->a.length=bs.length->Q (a.map some) s) ->
  wpAny (model prog w) A ((bs.map Value.ref).mapM firstOfTuple') Q E s
 | [],_,q=>by
  simp only [List.map_nil,List.mapM_nil]
  exact Br (q [] [] .nil rfl)
 | b :: bs,h,q=>by
  rw [BP,List.mapM_cons]
  obtain ⟨n,h0,e⟩:=h b Bt
  refine Bq (k6 e h0 fun i t=>?_)
  refine Bq (j3 bs (fun c d=>h c (Bu _ d)) fun a ns hi f=>?_)
  exact Br (q (.int i t :: a) (i :: ns) (.cons i t hi) (by simp [f]))
theorem uX (h2:bs ≠ []) (e:∀ b ∈ bs,∃ n,n ≠ []/\IsNts s.heap b n) (h:Q (aR true) s):wpAny (model prog w) A (keyKind' (bs.map Value.ref).toArray) Q E s:=by
 rw [keyKind'_eq,List.mapM_toArray]
 refine Bq ?_
 rw [map_eq_pure_bind]
 refine Bq (j3 bs e fun a ns hi f=>Br ?_)
 have d:(a.map some).toArray.all (·.isSome)=true:=by simp
 rw [if_pos d]
 refine Bq (wpAny_rule ?_)
 have hf:(a.map some).toArray.filterMap id=a.toArray:=by simp
 rw [hf,oneTypeOnly'_eq,List.mapM_toArray,mapM_typeOf_ints hi]
 simp only [map_pure,pure_bind]
 cases a with
 | nil=>exact absurd (List.length_eq_zero_iff.mp f.symm) h2
 | cons v a =>
  have c:((List.map (fun _=>Value.type "int") (v :: a)).toArray.all fun x=>x == Value.type "int")=true:=by
   simp only [List.all_toArray,List.all_map,List.all_eq_true]
   intro _ _
   rfl
  have h0:(List.map (fun _=>Value.type "int") (v :: a)).toArray[0]?=some (Value.type "int"):=by simp
  rw [h0]
  simp only [c,if_true,pure_bind,Option.any_some]
  exact Br h
end
end L2
end
section
namespace L2
open PySem PySem.Spec PyProof.Rows
theorem IsNts.at (x:IsNts h b n) (e:∀ o,h.get? b=some o->h'.get? b=some o):IsNts h' b n:=by
 obtain ⟨it,⟨o,e1,r⟩,j⟩:=x
 exact ⟨it,⟨o,e o e1,r⟩,j⟩
structure NRow (h:Heap) (bs:List Addr) (ns:List (List Int)):Prop where
 len:ns.length=bs.length
 at':∀ (i:Nat) (b:Addr) (n:List Int),bs[i]?=some b->ns[i]?=some n->IsNts h b n/\n ≠ []
 asc:∀ (i:Nat) (x y:List Int),ns[i]?=some y->ns[i+1]?=some x->HT.lexLt x y=false
theorem NRow.keep (r:NRow h bs ns) (k:∀ b ∈ bs,∀ o,h.get? b=some o->h'.get? b=some o):NRow h' bs ns :=
 ⟨r.len,fun i b n e1 a=>⟨(r.at' i b n e1 a).1.at (k b (BH e1)),(r.at' i b n e1 a).2⟩,r.asc⟩
end L2
end
section
namespace L2
open PySem PySem.Spec PyProof.Rows
end L2
end
section
namespace L2
open PySem PySem.Spec PyProof.Rows
end L2
end
section
namespace L2
open PySem PySem.Spec PyProof.Rows
theorem gc:∀ bs:List Addr,Vals (bs.map V.ref) (bs.map Value.ref)
 | []=>.nil
 | _ :: bs=>.cons rfl (gc bs)
end L2
end
section
namespace L2
open PySem
abbrev Up (xs:Array Nat):Prop:=xs.toList.Pairwise (· < ·)
theorem Up.at (h:Up xs) {i k:Nat} (a:i < k) (b:k < xs.size):xs[i]'(by omega) < xs[k]:=by
 have:=List.pairwise_iff_getElem.mp h i k (by simp;omega) (by simpa using b) a
 simpa using this
theorem vP (h:Up xs) (j:Nat):∀ (fuel lo hi:Nat),hi - lo<=fuel->lo<=hi->hi<=xs.size ->
  (∀ i (z:i < xs.size),i < lo->xs[i] < j)->(∀ i (z:i < xs.size),hi<=i->j<=xs[i]) ->
  (∀ i (z:i < xs.size),i < SetTable.below.go xs j fuel lo hi->xs[i] < j)/\(∀ i (z:i < xs.size),SetTable.below.go xs j fuel lo hi<=i->j<=xs[i])/\SetTable.below.go xs j fuel lo hi<=xs.size:=by
 intro fuel
 induction fuel with
 | zero =>
  intro lo hi f l z a b
  have e:lo=hi:=by omega
  subst e
  unfold SetTable.below.go
  exact ⟨a,b,z⟩
 | succ fuel ih =>
  intro lo hi f l z a b
  unfold SetTable.below.go
  by_cases k:lo < hi
  ·rw [if_pos k]
   have hm:(lo+hi) / 2 < xs.size:=by omega
   have m:xs.getD ((lo+hi) / 2) j=xs[(lo+hi) / 2]:=by simp [Array.getD,hm]
   dsimp only
   rw [m]
   by_cases c:xs[(lo+hi) / 2] < j
   ·rw [if_pos c]
    refine ih _ _ (by omega) (by omega) z (fun i g d=>?_) b
    by_cases e:i=(lo+hi) / 2
    ·subst e;exact c
    ·exact Nat.lt_trans (h.at (show i < (lo+hi) / 2 by omega) hm) c
   ·rw [if_neg c]
    refine ih _ _ (by omega) (by omega) (by omega) a (fun i g d=>?_)
    by_cases e:i=(lo+hi) / 2
    ·subst e;omega
    ·have:=h.at (show (lo+hi) / 2 < i by omega) g;omega
  ·rw [if_neg k]
   have e:lo=hi:=by omega
   subst e
   exact ⟨a,b,z⟩
theorem vO (h:Up xs) (j:Nat):(∀ i (z:i < xs.size),i < SetTable.below xs j->xs[i] < j)/\(∀ i (z:i < xs.size),SetTable.below xs j<=i->j<=xs[i])/\SetTable.below xs j<=xs.size :=
 vP h j xs.size 0 xs.size (by omega) (by omega) (BL _) (fun i z c=>by omega) (fun i z c=>by omega)
theorem qU (h:Up xs) {j:Nat} (m:(xs[SetTable.below xs j]? == some j)=false):Up (SetTable.insertAt xs (SetTable.below xs j) j):=by
 obtain ⟨a,b,c⟩:=vO h j
 show (SetTable.insertAt xs (SetTable.below xs j) j).toList.Pairwise _
 rw [SetTable.toList_insertAt]
 generalize SetTable.below xs j=r at *
 have g:∀ x ∈ xs.toList.take r,x < j:=fun x d=>by
  obtain ⟨i,hi,rfl⟩:=List.mem_take_iff_getElem.mp d
  simp at hi
  exact a i (by omega) (by omega)
 have f:∀ x ∈ xs.toList.drop r,j < x:=fun x d=>by
  obtain ⟨i,hi,rfl⟩:=List.mem_drop_iff_getElem.mp d
  simp at hi
  have h1:=b (r+i) (by omega) (by omega)
  have h2:xs[r]'(by omega) ≠ j:=by
   intro e
   rw [Array.getElem?_eq_getElem (by omega),e] at m
   simp at m
  simp only [Array.getElem_toList]
  rcases Nat.eq_zero_or_pos i with e | e
  ·subst e
   simp only [Nat.add_zero] at h1 ⊢
   omega
  ·have h3:=h.at (show r < r+i by omega) (by omega)
   have n:=b r (by omega) (BL _)
   omega
 have l:(xs.toList.take r ++ xs.toList.drop r).Pairwise (· < ·):=by rw [List.take_append_drop];exact h
 rw [List.pairwise_append] at l ⊢
 refine ⟨l.1,List.pairwise_cons.mpr ⟨f,l.2.1⟩,fun x d y k=>?_⟩
 rcases Bz.mp k with rfl | k
 ·exact g x d
 ·exact Nat.lt_trans (g x d) (f y k)
theorem q5 {t:SetTable} {j:Nat} (h:∀ i,t.slot j ≠ .live i):(t.place[SetTable.below t.place j]? == some j)=false:=by
 cases e:(t.place[SetTable.below t.place j]? == some j) with
 | false=>rfl
 | true =>
  refine absurd ?_ (h (SetTable.below t.place j))
  unfold SetTable.slot
  simp only [e,if_true]
theorem um {h:Int} {j:Nat}:∀ (n:Nat) (p:SetTable.Probe),(∀ x,p.dummy=some x->∀ i,t.slot x ≠ .live i) ->
  SetTable.probe.go t f h n p=some (.empty j d)->∀ i,t.slot (d.getD j) ≠ .live i:=by
 intro n
 induction n with
 | zero=>intro p _ e;simp [SetTable.probe.go] at e
 | succ n ih =>
  intro p g e
  have b:∀ q:SetTable.Probe,(t.advance q).dummy=q.dummy:=fun q=>by unfold SetTable.advance;split <;> rfl
  unfold SetTable.probe.go at e
  split at e
  ·rename_i c
   simp only [Option.some.injEq,SetTable.Met.empty.injEq] at e
   obtain ⟨e1,k⟩:=e
   cases hd:p.dummy with
   | none=>rw [<- k,hd,Option.getD_none,<- e1,c];exact fun i z=>by cases z
   | some x=>rw [<- k,hd,Option.getD_some];exact g x hd
  ·rename_i c
   refine ih _ (fun x a=>?_) e
   rw [b] at a
   simp only [Option.some.injEq] at a
   rw [<- a,c]
   exact fun i z=>by cases z
  ·split at e
   ·simp at e
   ·exact ih _ (fun x a=>g x (by rw [<- a,b])) e
theorem se {t:SetTable} {h:Int} {j:Nat} (e:t.freeSlot h=some (j,b)):∀ i,t.slot j ≠ .live i:=by
 unfold SetTable.freeSlot at e
 split at e
 ·rename_i f d c
  simp only [Option.some.injEq,Prod.mk.injEq] at e
  rw [<- e.1]
  exact um _ _ (fun x a=>by simp [SetTable.probeStart] at a) c
 ·cases e
structure Tab (b:Bool) (t:SetTable):Prop where
 up:Up t.place
 led:t.led=b
theorem sQ (n:Nat):Up (Array.range n):=by
 show (Array.range n).toList.Pairwise _
 rw [Array.toList_range]
 exact List.pairwise_lt_range
theorem Tab.stand (h:Tab b t) (n:Nat):Tab b (t.standIn n):=⟨sQ n,h.led⟩
theorem Tab.or (h:Tab b t) (n:Nat):Tab b (t.orStandIn n):=by
 unfold SetTable.orStandIn
 split
 ·exact h
 ·exact h.stand n
theorem Tab.new (h:Tab b t) (es:Array (Int × Value)) (k:Int) (x:Value):Tab b (layNew t es k x).2.1:=by
 unfold layNew
 split
 ·rename_i j d e
  have z:Tab b (t.put j).1:=⟨qU h.up (q5 (se e)),h.led⟩
  exact z.or _
 ·exact h.stand _
theorem Tab.all (h:Tab b t) (es:Array (Int × Value)) (n:Nat):Tab b (relayAll t es n).2.1:=by
 unfold relayAll
 split
 ·rename_i t' order e
  dsimp only
  split
  ·unfold SetTable.relaid SetTable.laid at e
   simp only [Option.bind_eq_bind,B0,Option.pure_def,Option.some.injEq,Prod.mk.injEq] at e
   obtain ⟨k,_,e1,_⟩:=e
   subst e1
   refine ⟨?_,h.led⟩
   have aux:∀ (f:Nat->Option Nat) (m:Nat),((List.filterMap (fun j=>(f j).map (j,·)) (List.range m)).map (·.1)).Pairwise (· < ·):=fun f m=>by
    rw [List.pairwise_map,List.pairwise_filterMap]
    refine List.pairwise_lt_range.imp fun {a c} d x g y i=>?_
    rw [Bw] at g i
    obtain ⟨_,_,rfl⟩:=g
    obtain ⟨_,_,rfl⟩:=i
    exact d
   exact aux _ _
  ·exact h.stand _
 ·exact h.stand _
theorem Tab.off (h:Tab b t) (c:Bool):Tab b (if c=true then t else { t with plain:=false }):=by
 cases c
 ·exact ⟨h.up,h.led⟩
 ·exact h
end L2
end
section
namespace L2
open PySem PyProof.Rows
abbrev hU (w:World):Bool:=!w.params.followText "set-order"
def SetL (prog:Program) (w:World) (h:Heap) (a:Addr) (ns:List Int):Prop :=
 ∃ o es b t ms,h.get? a=some o/\o.ExactSet/\o.data=.set es b t/\ElemsOf (intKind prog w) es.toList/\IntsAre (es.toList.map (·.2)) ms/\ms.Perm ns/\es.size < scanBound/\t.fits es.size=true/\Tab (hU w) t
theorem SetL.keep (x:SetL prog w h a ns) (k:∀ o,h.get? a=some o->h'.get? a=some o):SetL prog w h' a ns :=
 let ⟨o,es,b,t,ms,e,r⟩:=x;⟨o,es,b,t,ms,k o e,r⟩
def met (ns:List Int) (k:Int):List Int:=if k ∈ ns then ns else ns ++ [k]
theorem dO:∀ {l:List (Int × Value)},ElemsOf (intKind prog w) l->∃ ms,IntsAre (l.map (·.2)) ms
 | [],_=>⟨[],.nil⟩
 | e :: l,h=>by
  obtain ⟨ms,hm⟩:=dO h.tail
  obtain ⟨⟨k,a,_⟩,_⟩:=h.head
  obtain ⟨t,b⟩:=Value.isInt_shape a
  refine ⟨k :: ms,?_⟩
  rw [BP,b]
  exact .cons k t hm
theorem kY (p:List.Perm vs ws) (a:IntsAre vs ns) (b:IntsAre ws ms):ns.Perm ms:=by
 rw [<- a.nums,<- b.nums]
 exact p.map _
section
variable {prog:Program} {w:World} {A:Around} {E:Value->Shared->Prop} {s:Shared}
theorem sf {l:List (Int × Value)} {k:Int} (hi:IntsAre (l.map (·.2)) ms):(l.findIdx? (fun e=>(intKind prog w).is k e.2)).isSome=true ↔ k ∈ ms:=by
 induction l generalizing ms with
 | nil=>cases hi;simp
 | cons e l ih =>
  obtain ⟨h0,v⟩:=e
  rw [BP] at hi
  cases hi with
  | cons n t hr =>
   rw [List.findIdx?_cons]
   by_cases c:k=n
   ·subst c
    rw [if_pos (intKind_is prog w k t)]
    simp
   ·have:(intKind prog w).is k (Value.int n t)=false:=by
     cases z:(intKind prog w).is k (Value.int n t) with
     | false=>rfl
     | true=>exact absurd ((intKind prog w).inj _ _ _ z (intKind_is prog w n t)) c
    rw [this]
    simp only [B2,if_false,Option.isSome_map,Bz,c,false_or]
    exact ih hr
theorem tK {k:Int} (hS:SetL prog w s.heap a ns) (K:ns.length+1 < scanBound) (h:∀ b h',Heap.SameBut a s.heap h'->SetL prog w h' a (met ns k)->Q b { s with heap:=h' }):wpAny (model prog w) A (setAddHashed a (.int k tk) (hashInt k)) Q E s:=by
 obtain ⟨o,es,O,t,ms,B,hex,hd,g,hi,y,V,hf,T⟩:=hS
 have hn:es.size=ns.length:=by rw [<- y.length_eq,<- hi.length,BF,Array.length_toList]
 have C:=sf (prog:=prog) (w:=w) (k:=k) hi
 unfold setAddHashed setAddHashedIn
 refine Bs (Bq (wpAny_setState_of B hd hf ?_))
 dsimp only
 rw [if_pos (byScan_of (x:=.int k tk) rfl V g)]
 refine Bq (Bq (wpAny_rule (Bq (wpAny_setScan_of (knd:=intKind prog w) (intKind_is prog w k tk) B hd hf g ?_))))
 cases W:List.findIdx? (fun e=>(intKind prog w).is k e.2) es.toList with
 | some j =>
  rw [W] at C
  have H:k ∈ ns:=y.mem_iff.mp (C.mp rfl)
  refine Br (Br ?_)
  have:=h false s.heap (Heap.SameBut.refl a s.heap) ⟨o,es,O,t,ms,B,hex,hd,g,hi,by rw [met,if_pos H];exact y,V,hf,T⟩
  exact this
 | none =>
  rw [W] at C
  have H:k ∉ ns:=fun z=>by have:=C.mpr (y.mem_iff.mpr z);simp at this
  have p:=layNew_perm t es (hashInt k) (.int k tk)
  have f1:=layNew_fits t es (hashInt k) (.int k tk)
  have t1:=T.new es (hashInt k) (.int k tk)
  generalize layNew t es (hashInt k) (.int k tk)=L at p f1 t1 ⊢
  obtain ⟨d,u,wd,R⟩:=L
  dsimp only at p f1 t1 ⊢
  rw [Array.toList_push] at p
  have m:ElemsOf (intKind prog w) d.toList:=(g.push (intKind_is prog w k tk) rfl).perm p
  obtain ⟨M,U⟩:=dO m
  have b1:d.size=es.size+1:=by have:=p.length_eq;simpa using this
  have Y:M.Perm (met ns k):=by
   have i0:IntsAre ((es.toList ++ [(hashInt k,Value.int k tk)]).map (·.2)) (ms ++ [k]):=by
    rw [List.map_append]
    exact hi.append (.cons k tk .nil)
   rw [met,if_neg H]
   exact (kY (p.map _) U i0).trans (y.append_right [k])
  have done:∀ (h1:Heap) (i:Obj) (f:Array (Int × Value)) (n:Nat) (l:SetTable),h1.get? a=some i->i.ExactSet->i.data=.set f n l->f.toList.Perm d.toList->l.fits f.size=true->Tab (hU w) l->Heap.SameBut a s.heap h1->Q true { s with heap:=h1 }:=by
   intro h1 i f n l g1 g2 g3 F g5 g6 Z
   obtain ⟨N,P⟩:=dO (m.perm F)
   exact h true h1 Z ⟨i,f,n,l,N,g1,g2,g3,m.perm F,P,(kY (F.map _) P U).trans Y,by have:=F.length_eq;simp at this;omega,g5,g6⟩
  have S:∀ (b:Bool) {I:Shared} {J:Unit->Shared->Prop},J () I->wpAny (model prog w) A (match b with | true=>rule "set.scan.the-table-gave-way" | false=>pure ()) J E I:=fun b I J q=>by
   cases b
   ·exact Br q
   ·exact wpAny_rule q
  have two:∀ (c:Bool),wpAny (model prog w) A (do
    storeSet a d (if c=true then u else { u with plain:=false })
    if (!wd && (if c=true then u else { u with plain:=false }).tooFull)=true then do
     let r:=relayAll (if c=true then u else { u with plain:=false }) d (SetTable.grown d.size)
     (match r.2.2 with | true=>rule "set.scan.the-table-gave-way" | false=>pure ())
     storeSet a r.1 r.2.1
     pure (some true)
    else pure (some true)) (fun r s'=>r=some true/\Q true s') E s:=by
   intro c
   have l:=t1.off c
   have f2:(if c=true then u else { u with plain:=false }).fits d.size=true:=by cases c <;> exact f1
   generalize (if c=true then u else { u with plain:=false })=v at l f2 ⊢
   refine Bq (wpAny_storeSet_of (hz:=fits_of_scanBound (by omega)) B hd ?_)
   have i:(s.heap.update a (Obj.putSet d v)).get? a=some { o with data:=.set d (O+1) v }:=by
    have:=BU (Obj.putSet d v) B (by rw [putSet_of d v hd];rfl)
    rw [putSet_of d v hd] at this
    exact this
   split
   ·have D:=relayAll_perm v d (SetTable.grown d.size)
    have G:=relayAll_fits v d (SetTable.grown d.size)
    have t3:=l.all d (SetTable.grown d.size)
    generalize relayAll v d (SetTable.grown d.size)=r at D G t3 ⊢
    obtain ⟨f,v2,g2⟩:=r
    dsimp only at D G t3 ⊢
    have b3:f.size=d.size:=by have:=D.length_eq;simpa using this
    refine Bq (S _ (Bq (wpAny_storeSet_of (hz:=fits_of_scanBound (by omega)) i rfl (Br ⟨rfl,?_⟩))))
    have X:((s.heap.update a (Obj.putSet d v)).update a (Obj.putSet f v2)).get? a=some { o with data:=.set f (O+1+1) v2 }:=by
     have:=BU (Obj.putSet f v2) i (by rw [putSet_of f v2 rfl];rfl)
     rw [putSet_of f v2 rfl] at this
     exact this
    exact done _ _ f _ v2 X hex rfl D G t3 ((Heap.SameBut.update _ a _).trans (Heap.SameBut.update _ a _))
   ·refine Br ⟨rfl,?_⟩
    exact done _ _ d _ v i hex rfl (List.Perm.refl _) f2 l (Heap.SameBut.update _ a _)
  have fin:∀ (r:Option Bool) (s':Shared) {x:Sem Bool},r=some true/\Q true s'->wpAny (model prog w) A (match r with | some b=>pure b | none=>x) Q E s':=fun r s' x z=>by
   obtain ⟨rfl,q⟩:=z
   exact Br q
  refine Bq (S _ ?_)
  split
  ·refine Bq (wpAny_of_eq (a:=true) rfl ?_)
   exact wpAny_mono (two true) (fun r s' z=>fin r s' z) fun _ _ z=>z
  ·refine Bq (Br ?_)
   exact wpAny_mono (two true) (fun r s' z=>fin r s' z) fun _ _ z=>z
end
end L2
end
section
namespace L2
open PySem PyProof.Rows
theorem qj (ns:List Int) (k:Int):(met ns k).length<=ns.length+1:=by
 unfold met
 split <;> simp
theorem m7:∀ (c ns:List Int),(c.foldl met ns).length<=ns.length+c.length
 | [],ns=>BL _
 | k :: c,ns=>by
  have a:=m7 c (met ns k)
  have b:=qj ns k
  simp only [List.foldl_cons,BW]
  omega
section
variable {prog:Program} {w:World} {A:Around} {E:Value->Shared->Prop}
variable {s:Shared}
theorem xJ (h:∀ o,o=({ cls:=.type "set",dict:=none,data:=.set #[] 0 (.fresh 0 0 (hU w)) }:Obj)->Q (.ref s.heap.objs.size) { s with heap:=s.heap.push o }) :
  codeAny (model prog w) A (.call (.builtin "set.__new__") ⟨[.type "set",a],[]⟩) (wants Q E) s:=by
 refine codeAny_of_tree ?_
 refine Bq (wpAny_of_eq (F.newCall_set_1 a) (Br ⟨plainId_quiet F.plain_set_new _,codeAny_builtin F.entry_set_new ?_⟩))
 rw [Around.under_plainId F.plain_set_new _]
 have sub:=sub_set_self
 obtain ⟨b,g,d,c,os⟩:=s
 wp_walk
 refine wpAny_askSetting ?_
 wp_walk
 exact h _ rfl
end
end L2
end
section
namespace L2
open PySem PyProof.Rows
def SIt (w : World) (h : Heap) (I a : Addr) (es : Array (Int × Value)) (b : Nat) (t : SetTable) (ord : List Value) (i : Nat) : Prop :=
  ∃ first, h.get? I = some { cls := .type "set_iterator", dict := none, data := .fields #[first, rawInt i, .ref a, rawInt es.size, rawInt b], slots := #[] } /\
    ((w.params.followText "set-order" = true /\ first = rawInt 0 /\ ord = (pickOrder (w.params.setOrder a b) es).toList.map (·.2)) \/
     (w.params.followText "set-order" = false /\ (!t.plain && es.size > 1) = false /\ (∃ k : Nat, first = rawInt k /\ SetTable.below t.place k = i) /\ ord = es.toList.map (·.2)) \/
     (∃ (T : Addr) (ps : List Nat), first = .ref T /\ T ≠ I /\ h.get? T = some { cls := .type "tuple", data := .seq (ps.map fun (p : Nat) => rawInt p).toArray } /\ ps.Perm (List.range es.size) /\ ord = ps.filterMap fun p => es[p]?.map (·.2)))
structure SAt (w:World) (h:Heap) (a:Addr) (es:Array (Int × Value)) (ep:Nat) (t:SetTable):Prop where
 at':∃ o,h.get? a=some o/\o.data=.set es ep t
 fits:t.fits es.size=true
 tab:Tab (hU w) t
end L2
end
section
namespace L2
open PySem PyProof.Rows
section
variable {prog:Program} {w:World} {A:Around} {E:Value->Shared->Prop} {s:Shared}
theorem SAt.keep {b:Nat} (x:SAt w h a es b t) (k:∀ o,h.get? a=some o->h'.get? a=some o):SAt w h' a es b t :=
 let ⟨⟨o,e,d⟩,f,t⟩:=x;⟨⟨o,k o e,d⟩,f,t⟩
theorem SIt.keep {d:Nat} {i:Nat} (x:SIt w h I a es d t ord i) (n:I ≠ S) (e:∀ T ps,h.get? T=some { cls:=.type "tuple",data:=.seq ps }->T ≠ S) (k:∀ b o,b ≠ S->h.get? b=some o->h'.get? b=some o):SIt w h' I a es d t ord i:=by
 obtain ⟨f,g,m⟩:=x
 refine ⟨f,k _ _ n g,?_⟩
 rcases m with m | m | ⟨T,ps,e1,l,c,j⟩
 ·exact .inl m
 ·exact .inr (.inl m)
 ·exact .inr (.inr ⟨T,ps,e1,l,k _ _ (e _ _ c) c,j⟩)
end
end L2
end
section
namespace L2
open PySem PySem.Spec PyProof.Rows
section
variable {X:Cx}
abbrev zB (X:Cx) (p:Addr) (ns:List Int):HO:=.ext fun h=>SetL X.prog X.w h p ns
end
end L2
end
section
namespace L2
open PySem PySem.Spec PyProof.Rows
section
variable {X:Cx}
theorem mU (h:wpAny (model prog w) A (eval k env) (fun x s1=>wpAny (model prog w) A (eval v env) (fun y s2=>wpAny (model prog w) A (dictSet s.heap.objs.size x y) (fun _ s3=>Q (.ref s.heap.objs.size) s3) E s2) E s1) E { s with heap:=s.heap.push { cls:=.type "dict",data:=.dict #[] } }) :
  wpAny (model prog w) A (eval (.Dict [some k] [v] pos) env) Q E s:=by
 rw [arm_eval_Dict]
 refine Bq (wpAny_standAt ?_)
 have e:=dictDisplay_pairs [(eval k env,(do let x <- eval v env;standAt pos;pure x:Sem Value))] (by simp) (by simp)
 refine (show wpAny (model prog w) A (dictDisplay ([(eval k env,(do let x <- eval v env;standAt pos;pure x:Sem Value))].map fun p=>(some p.1,p.2))) Q E s from ?_)
 rw [e]
 refine Bq ?_
 unfold subDict
 refine Bq (wpAny_alloc (Bq (Bs ?_)))
 rw [if_pos (by simp)]
 refine Bq ?_
 unfold evalPairs
 refine Bq (wpAny_mono h (fun x s1 h1=>?_) fun _ _ z=>z)
 refine Bq (Bs (Bq (wpAny_mono h1 (fun y s2 h2=>?_) fun _ _ z=>z)))
 refine Bq (wpAny_standAt (Br ?_))
 refine Bq (Bs (Br (Br (Bs ?_))))
 simp only [List.forIn_cons,List.forIn_nil]
 refine Bq (Bq (Bq (wpAny_mono h2 (fun _ s3 h3=>?_) fun _ _ z=>z)))
 exact Br (Br (Br (Br (Br h3))))
def tD1K (k:Key) (v:V):TE:=fun _ H Q=>∀ p,H p=none->Q (.ref p) (upd (upd H p (.dK [])) p (.dK [(k,v)]))
theorem Ao (l:PE X k (tC (kV key))) (i:PE X v (tC d)):PE X (.Dict [some k] [v] pos) (tD1K key d):=by
 intro pins s σ H Q I q
 have p:=I.hok.fresh (BL s.heap.objs.size)
 have r:=I.laid (a:=s.heap.objs.size) (o:=.dK []) (h':=s.heap.push { cls:=.type "dict",data:=.dict #[] }) (t':=s.toks) (fun _ _ q=>Bv _ q) (BL _) (vC s.heap I.big)
 refine mU (thn (l pins _ σ _ (fun x H2=>x=kV key/\H2=upd H s.heap.objs.size (.dK [])) r ⟨rfl,rfl⟩) fun x s1 ⟨A,H1,w,m,e1,e⟩=>thn (i pins s1 σ H1 (fun y H2=>y=d/\H2=upd H s.heap.objs.size (.dK [])) w ⟨rfl,e⟩) fun y s2 ⟨f,H2,c,u,h,t⟩=>?_)
 subst e1 e h t
 obtain ⟨z,hd,B,rel,j⟩:=pg c.hok (.inl aC)
 cases rel
 refine fm (hsz:=Nat.zero_le _) (qr m) j fun h' b n=>?_
 have he:∃ q,h'.get? s.heap.objs.size=some q:=let ⟨q,_,_,g,_⟩:=b;⟨q,g⟩
 have hz:[(key,f)].length<=sizeLine:=(by decide:1<=sizeLine)
 exact ⟨.ref s.heap.objs.size,_,jy c (by rw [aC];exact True.intro) n he (vB (kvs:=[(key,f)]) hz hd (KV.put (kvs:=[]) .nil key u) b),rfl,q _ p⟩
def tD1T (ns:List Int) (v:V):TE:=fun _ H Q=>∀ p,H p=none->∀ b,upd H p (.dT []) b=none->Q (.ref p) (upd (upd (upd H p (.dT [])) b (.tup (ns.map V.int))) p (.dT [(ns.map Sum.inl,v)]))
theorem An {x1:Nat} (hu:X.A.units+1 < cLine) (h0:ns ≠ []) (hz:ns.length<=100) (u:es.map sH=ns.map some) (r:PE X v (tC d)):PE X (.Dict [some (.Tuple es x1 pos')] [v] pos) (tD1T ns d):=by
 intro pins s σ H Q I q
 have J:=I.hok.fresh (BL s.heap.objs.size)
 have K:=I.laid (a:=s.heap.objs.size) (o:=.dT []) (h':=s.heap.push { cls:=.type "dict",data:=.dict #[] }) (t':=s.toks) (fun _ _ q=>Bv _ q) (BL _) (vz s.heap I.big)
 have B:=uw (X:=X) (x1:=x1) (pos:=pos') (qf ns u)
 have len:(ns.map V.int).length<=sizeLine:=by rw [BF,sizeLine_eq];omega
 refine mU (thn (B pins _ σ _ (fun x H2=>∃ b,x=.ref b/\upd H s.heap.objs.size (.dT []) b=none/\H2=upd (upd H s.heap.objs.size (.dT [])) b (.tup (ns.map V.int))) K ⟨len,fun b e=>⟨b,rfl,e,rfl⟩⟩) fun x s1 ⟨O,H1,N,E,b,e1,e,C⟩=>thn (r pins s1 σ H1 (fun y H2=>y=d/\H2=H1) N ⟨rfl,rfl⟩) fun y s2 ⟨F,H2,f,M,p,L⟩=>?_)
 subst e1 C p L
 have nb:b ≠ s.heap.objs.size:=fun z=>by rw [z,aC] at e;cases e
 cases (show x=Value.ref b from E)
 have g:upd (upd H s.heap.objs.size (.dT [])) b (.tup (ns.map V.int)) s.heap.objs.size=some (.dT []):=by rw [aq (Ne.symm nb),aC]
 have hb2:upd (upd H s.heap.objs.size (.dT [])) b (.tup (ns.map V.int)) b=some (.tup ((ns.map Sum.inl).map kV)):=by rw [aC,Cc];rfl
 obtain ⟨z,hd,xs,rel,t⟩:=pe f.hok (.inl g)
 cases rel
 refine fR (hsz:=Nat.zero_le _) (show (tupleKind (bD X.prog X.w)).room X.A from Nat.lt_of_succ_lt hu) (lS f.hok hb2) t fun h' i G=>?_
 obtain ⟨l,j,h,m,h2,h3,n,_,D⟩:=i
 refine ⟨.ref s.heap.objs.size,_,jy (ob:=.dT [(ns.map Sum.inl,F)]) f (by rw [g];exact True.intro) G ⟨l,m⟩ ⟨(by decide:1<=sizeLine),hd,_,(KT.put (kvs:=[]) .nil (ns.map Sum.inl) hb2 M).keeps fun c ys k=>?_,l,j,h,m,h2,h3,n,D⟩,rfl,q _ J b e⟩
 rw [aq (yO k g (fun z=>nomatch z))]
 exact k
end
end L2
end
section
namespace L2
open PySem PySem.Spec PyProof.Rows
def oh (l:Array Value):Obj:=seqObj "tuple" l 0
def ev (cmp:Nat->Nat->Option Bool) {α:Type} (m:Sem α):Option Addr->Option (α × Option Addr):=by
 induction m with
 | pure a=>exact fun p=>some (a,p)
 | rule _ k ih=>exact ih ()
 | load b _ k ih=>exact fun p=>match p with
  | none=>ih (oh #[]) (some b)
  | some a=>match cmp a b with
   | some true=>ih (oh #[Value.none]) none
   | some false=>ih (oh #[]) none
   | none=>none
 | _=>exact fun _=>none
theorem qA (m:Sem α) (f:α->Sem β):∀ p,ev cmp (m.bind f) p=(ev cmp m p).bind fun r=>ev cmp (f r.1) r.2:=by
 induction m with
 | pure a=>exact fun p=>rfl
 | rule _ k ih=>exact ih ()
 | load b _ k ih =>
  intro p
  cases p with
  | none=>exact ih _ _
  | some a =>
   show (match cmp a b with
    | some true=>ev cmp ((k (oh #[Value.none])).bind f) none
    | some false=>ev cmp ((k (oh #[])).bind f) none
    | none=>none)=Option.bind (match cmp a b with
    | some true=>ev cmp (k (oh #[Value.none])) none
    | some false=>ev cmp (k (oh #[])) none
    | none=>none) _
   cases cmp a b with
   | none=>rfl
   | some t=>cases t <;> exact ih _ _
 | _=>exact fun _=>rfl
def oU (k:SortKind):Prop:=k=aR true\/k=oneType'
structure Fol (φ:Keyed->Keyed) (st ps:SortSt):Prop where
 kind:oU (kindOf st)
 kind':kindOf ps=aR true
 arr:arrOf st=(arrOf ps).map φ
 pend:pendingOf st=pendingOf ps
 mg:gallopOf st=gallopOf ps
 fail:failedOf st=none
 fail':failedOf ps=none
class EqRl (α:Type) where
instance:EqRl Nat:=⟨⟩
instance:EqRl Bool:=⟨⟩
instance:EqRl PUnit:=⟨⟩
instance {α:Type} [EqRl α]:EqRl (Option α):=⟨⟩
instance {α:Type} [EqRl α]:EqRl (Array α):=⟨⟩
instance {α β:Type} [EqRl α] [EqRl β]:EqRl (α × β):=⟨⟩
instance {α:Type} [EqRl α]:EqRl (ForInStep α):=⟨⟩
class Rl (φ:Keyed->Keyed) (α:Type) where
 rel:α->α->Prop
variable {φ:Keyed->Keyed}
instance rlO {α:Type} [Rl φ α]:Rl φ (Option α):=⟨fun x y=>match x,y with | none,none=>True | some a,some b=>Rl.rel φ a b | _,_=>False⟩
instance rlP {α β:Type} [Rl φ α] [Rl φ β]:Rl φ (α × β):=⟨fun x y=>Rl.rel φ x.1 y.1/\Rl.rel φ x.2 y.2⟩
instance rlF {α:Type} [Rl φ α]:Rl φ (ForInStep α):=⟨fun x y=>match x,y with | .done a,.done b=>Rl.rel φ a b | .yield a,.yield b=>Rl.rel φ a b | _,_=>False⟩
instance rlK:Rl φ Keyed:=⟨fun p i=>p = φ i⟩
instance rlA:Rl φ (Array Keyed):=⟨fun p i=>p=i.map φ⟩
instance rlS:Rl φ SortSt:=⟨Fol φ⟩
instance (priority:=high) rlE {α:Type} [EqRl α]:Rl φ α:=⟨Eq⟩
section
variable {prog:Program} {w:World} {A:Around} {E:Value->Shared->Prop} {s:Shared} {cmp:Nat->Nat->Option Bool} {α β:Type}
def Sim (prog:Program) (w:World) (A:Around) (E:Value->Shared->Prop) (s:Shared) (φ:Keyed->Keyed) (cmp:Nat->Nat->Option Bool) {α:Type} [Rl φ α] (m p:StateT SortSt Sem α):Prop :=
 ∀ st ps b d q,Fol φ st ps->ev cmp (p.run ps) none=some ((b,d),q)->∃ a c,Rl.rel φ a b/\Fol φ c d/\q=none/\∀ Q:α->SortSt->Prop,Q a c->wpS (model prog w) A E s m Q st
theorem aD [Rl φ α] {a b:α} (h:Rl.rel φ a b):Sim prog w A E s φ cmp (pure a) (pure b):=by
 intro st ps g c d f e
 cases e
 exact ⟨a,st,h,f,rfl,fun Q q=>wpS_pure q⟩
theorem bZ [Rl φ α] [Rl φ β] {m p:StateT SortSt Sem α} {f g:α->StateT SortSt Sem β} (h:Sim prog w A E s φ cmp m p) (k:∀ a b,Rl.rel φ a b->Sim prog w A E s φ cmp (f a) (g b)):Sim prog w A E s φ cmp (m >>= f) (p >>= g):=by
 intro st ps t i o v e
 have e:ev cmp ((p.run ps).bind fun x=>(g x.1).run x.2) none=some ((t,i),o):=e
 rw [qA] at e
 obtain ⟨⟨⟨b,d⟩,u⟩,e1,z⟩:=B0.mp e
 obtain ⟨a,st1,r,l,rfl,h1⟩:=h st ps b d u v e1
 obtain ⟨c,n,y,j,rfl,h2⟩:=k a b r st1 d t i o l z
 exact ⟨c,n,y,j,rfl,fun Q q=>wpS_bind (h1 _ (h2 Q q))⟩
theorem av [EqRl α] [Rl φ β] {f g:α->StateT SortSt Sem β} (h:Sim prog w A E s φ cmp m p) (k:∀ a,Sim prog w A E s φ cmp (f a) (g a)):Sim prog w A E s φ cmp (m >>= f) (p >>= g) :=
 bZ h fun a b (r:a=b)=>r ▸ k a
theorem bt [EqRl α] [Rl φ β] {f g:Option α->StateT SortSt Sem β} (h:Sim prog w A E s φ cmp m p) (c:Sim prog w A E s φ cmp (f none) (g none)) (d:∀ a,Sim prog w A E s φ cmp (f (some a)) (g (some a))):Sim prog w A E s φ cmp (m >>= f) (p >>= g) :=
 bZ h fun a b (r:a=b)=>r ▸ (match a with | none=>c | some a=>d a)
theorem bv [Rl φ α] [Decidable c] {m n p q:StateT SortSt Sem α} (h1:c->Sim prog w A E s φ cmp m p) (h2:¬ c->Sim prog w A E s φ cmp n q):Sim prog w A E s φ cmp (if c then m else n) (if c then p else q):=by
 by_cases h:c
 ·rw [if_pos h,if_pos h];exact h1 h
 ·rw [if_neg h,if_neg h];exact h2 h
theorem tv [Rl φ α] {m p:StateT SortSt Sem α} (h:∀ ps,ev cmp (p.run ps) none=none):Sim prog w A E s φ cmp m p:=fun st ps b a q f e=>by
 rw [h] at e
 cases e
theorem cC [Rl φ α]:Sim prog w A E s φ cmp m (unsupported t:Sem α):=tv fun _=>rfl
theorem i6 [Rl φ α] (h : ∀ i x y, Rl.rel φ x y -> @Sim prog w A E s φ cmp _ rlF (f i x) (g i y)) : ∀ (l : List Nat) (x y : α), Rl.rel φ x y -> Sim prog w A E s φ cmp (forIn l x f) (forIn l y g)
  | [], x, y, r => by rw [List.forIn_nil, List.forIn_nil]; exact aD r
  | i :: l, x, y, r => by
    rw [List.forIn_cons, List.forIn_cons]
    refine @bZ _ _ _ _ _ _ _ _ _ rlF _ _ _ _ _ (h i x y r) fun a b c => ?_
    cases a <;> cases b <;> first | exact False.elim c | skip
    · exact aD c
    · exact i6 h l _ _ c
theorem d9 [Rl φ α] {a b:Nat} {x y:α} (r:Rl.rel φ x y) (h:∀ i x y,Rl.rel φ x y->@Sim prog w A E s φ cmp _ rlF (f i x) (g i y)):Sim prog w A E s φ cmp (forIn [a:b] x f) (forIn [a:b] y g):=by
 rw [Std.Legacy.Range.forIn_eq_forIn_range',Std.Legacy.Range.forIn_eq_forIn_range']
 exact i6 h _ _ _ r
theorem fD [EqRl α] {a b:Nat} {x:α} (h:∀ i x,Sim prog w A E s φ cmp (f i x) (g i x)):Sim prog w A E s φ cmp (forIn [a:b] x f) (forIn [a:b] x g):=by
 refine d9 rfl fun i x y r=>?_
 cases r
 intro st ps b j q k e
 obtain ⟨c,d,r,eK⟩:=h i x st ps b j q k e
 refine ⟨c,d,?_,eK⟩
 obtain rfl:c=b:=r
 cases c <;> exact (rfl:_=_)
theorem pU:Sim prog w A E s φ cmp (get:StateT SortSt Sem SortSt) get:=by
 intro st ps b a q f e
 cases e
 exact ⟨st,st,f,f,rfl,fun Q q=>wpS_get q⟩
theorem dg (h:∀ st ps,Fol φ st ps->Fol φ (f st) (g ps)):Sim prog w A E s φ cmp (modify f:StateT SortSt Sem PUnit) (modify g):=by
 intro st ps b c q a e
 cases e
 exact ⟨_,_,rfl,h st ps a,rfl,fun Q q=>wpS_modify q⟩
theorem wE (h:Fol φ c a):Sim prog w A E s φ cmp (set c:StateT SortSt Sem PUnit) (set a):=by
 intro st ps b a q d e
 cases e
 exact ⟨_,_,rfl,h,rfl,fun Q q=>Br ⟨rfl,q⟩⟩
theorem df:Sim prog w A E s φ cmp (liftM (PySem.rule r:Sem Unit):StateT SortSt Sem Unit) (liftM (PySem.rule r:Sem Unit)):=by
 intro st ps b c q a e
 cases e
 exact ⟨_,st,rfl,a,rfl,fun Q q=>wpS_lift (wpAny_rule ⟨rfl,q⟩)⟩
theorem tD {i:Nat}:Sim prog w A E s φ cmp (elem' (arr.map φ) i) (elem' arr i):=by
 rw [elem'_eq,elem'_eq]
 cases e:arr[i]? with
 | none=>exact cC
 | some x =>
  have:(arr.map φ)[i]?=some (φ x):=by rw [Array.getElem?_map,e];rfl
  rw [this]
  exact aD rfl
theorem bC [Rl φ α] {i:Nat} {f g:Keyed->StateT SortSt Sem α} (k:∀ u,Sim prog w A E s φ cmp (f (φ u)) (g u)):Sim prog w A E s φ cmp (elem' (arr.map φ) i >>= f) (elem' arr i >>= g) :=
 bZ tD fun u u' (hu:u = φ u')=>hu ▸ k u'
end
def j4 (bs:List Addr) (x:Keyed):Keyed:=match x.1 with
 | .ref i=>(.ref (bs.getD i 0),.ref (bs.getD i 0))
 | _=>(.none,.none)
def fS (ns:List (List Int)) (i j:Nat):Option Bool:=match ns[i]?,ns[j]? with
 | some x,some y=>some (HT.lexLt x y)
 | _,_=>none
section
variable {prog:Program} {w:World} {A:Around} {E:Value->Shared->Prop} {s:Shared} {bs:List Addr} {ns:List (List Int)}
theorem nC (h:∀ a,v ≠ .ref a):∃ t,Builtin.List.listItems v=Sem.unsupported t:=by
 cases v
 case ref a=>exact absurd rfl (h a)
 case builtin id =>
  by_cases c:(withoutEnding? id "#opaque").isSome=true
  ·have e:notAStandIn (.builtin id)=Sem.unsupported id:=if_pos c
   refine ⟨id,?_⟩
   show Sem.bind (Sem.bind (notAStandIn (.builtin id)) _) _=_
   rw [e]
   rfl
  ·have e:notAStandIn (.builtin id)=Sem.pure ():=if_neg c
   have b:Builtin.List.listItems (.builtin id)=Sem.bind (Sem.bind (notAStandIn (.builtin id)) _) _:=rfl
   rw [e] at b
   exact ⟨_,b⟩
 all_goals exact ⟨_,rfl⟩
theorem xU (h:∀ a,v ≠ .ref a):∃ t,keyLt' (aR true) v y=Sem.unsupported t:=by
 obtain ⟨t,e⟩:=nC h
 obtain ⟨G,e1⟩:∃ G,keyLt' (aR true) v y=(Builtin.List.listItems v).bind G:=⟨_,rfl⟩
 exact ⟨t,by rw [e1,e];rfl⟩
theorem xT (h:∀ a,v ≠ .ref a):∃ t,keyLt' (aR true) (.ref i) v=(Builtin.List.listItems (.ref i)).bind fun _=>Sem.unsupported t:=by
 obtain ⟨t,e⟩:=nC h
 obtain ⟨G,e1⟩:∃ G:Array Value->Array Value->Sem Bool,keyLt' (aR true) (.ref i) v=(Builtin.List.listItems (.ref i)).bind fun xs=>(Builtin.List.listItems v).bind (G xs):=⟨_,rfl⟩
 exact ⟨t,by rw [e1,e];rfl⟩
theorem rD (j:IsNts s.heap a x) (l:IsNts s.heap b y) (hu:A.units < cLine) (h:Q (HT.lexLt x y) s):wpAny (model prog w) A (oneLt' true (.ref a) (.ref b)) Q E s:=by
 obtain ⟨k,⟨⟨c1,d,o,f⟩,e1,c1,n,d1⟩,i⟩:=j
 obtain ⟨q,⟨⟨c2,e,m,c⟩,r,c2,p,g⟩,t⟩:=l
 simp only at c1 d1 c2 g
 subst c1 d1 c2 g
 rw [oneLt'_eq]
 simp only [if_true]
 refine Bq (wpAny_cRoomFor hu ?_)
 refine Bq (wpAny_callSpecialIfBound?_slot (T:="tuple") ⟨_,e1,rfl⟩ PySem.F.slot_tuple_lt (call_meets PySem.F.slot_tuple_lt (T:="tuple") ⟨_,e1,rfl⟩ PySem.F.entry_tuple_lt (PySem.F.args_tuple_lt_2 _ _) (HT.tuple_lt_ints a b k q n p d e f c x y i t) ⟨e1,r,?_⟩))
 exact B7 h
theorem zA (hu:A.units < cLine) (r:∀ (i:Nat) (n:List Int),ns[i]?=some n->IsNts s.heap (bs.getD i 0) n) (x y:Keyed):Sim prog w A E s (j4 bs) (fS ns) (lt' (j4 bs x) (j4 bs y)) (lt' x y):=by
 intro st ps b c q f e
 obtain ⟨x1,v⟩:=x
 obtain ⟨o,z⟩:=y
 have l:=f.kind'
 cases ps with
 | mk k a pd g fl =>
 have l:k=aR true:=l
 subst l
 by_cases d:∀ a,x1 ≠ .ref a
 ·obtain ⟨t,h⟩:=xU (y:=o) d
  rw [lt'_eq] at e
  have e:ev (fS ns) (Sem.bind (Sem.bind (Sem.attempt (keyLt' (aR true) x1 o)) _) _) none=some ((b,c),q):=e
  rw [h] at e
  cases e
 ·by_cases p:∀ a,o ≠ .ref a
  ·obtain ⟨i,d⟩:=Classical.not_forall.mp d
   obtain rfl:x1=.ref i:=Classical.not_not.mp d
   obtain ⟨t,h⟩:=xT (i:=i) p
   rw [lt'_eq] at e
   have e:ev (fS ns) (Sem.bind (Sem.bind (Sem.attempt (keyLt' (aR true) (.ref i) o)) _) _) none=some ((b,c),q):=e
   rw [h] at e
   cases e
  ·obtain ⟨i,d⟩:=Classical.not_forall.mp d
   obtain rfl:x1=.ref i:=Classical.not_not.mp d
   obtain ⟨j,p⟩:=Classical.not_forall.mp p
   obtain rfl:o=.ref j:=Classical.not_not.mp p
   have e:(match fS ns i j with
    | some true=>some ((some true,SortSt.mk' (aR true) a pd g fl),none)
    | some false=>some ((some false,SortSt.mk' (aR true) a pd g fl),none)
    | none=>none)=some ((b,c),q):=e
   unfold fS at e
   cases e1:ns[i]? with
   | none=>rw [e1] at e;cases e
   | some n =>
    cases u:ns[j]? with
    | none=>rw [e1,u] at e;cases e
    | some m =>
     rw [e1,u] at e
     have e:(match some (HT.lexLt n m) with
      | some true=>some ((some true,SortSt.mk' (aR true) a pd g fl),none)
      | some false=>some ((some false,SortSt.mk' (aR true) a pd g fl),none)
      | none=>none)=some ((b,c),q):=e
     have e:some ((some (HT.lexLt n m),SortSt.mk' (aR true) a pd g fl),(none:Option Addr))=some ((b,c),q):=by
      rw [<- e]
      cases HT.lexLt n m <;> rfl
     cases e
     refine ⟨_,st,rfl,f,rfl,fun Q q=>?_⟩
     rw [lt'_eq]
     refine wpS_bind (wpS_get ?_)
     rcases f.kind with l | l <;> rw [l]
     ·refine wpS_bind (wpS_lift (wpAny_attempt (rV (r i n e1) (r j m u) ⟨rfl,?_⟩)))
      exact wpS_pure q
     ·rw [keyLt'_oneType]
      refine wpS_bind (wpS_lift (wpAny_attempt (rD (r i n e1) (r j m u) hu ⟨rfl,?_⟩)))
      exact wpS_pure q
end
end L2
end
section
namespace L2
open PySem PySem.Spec PyProof.Rows
def qx:Bool->Keyed->Array Keyed->Nat->Nat->Nat->StateT SortSt Sem (Option Nat):=sortPriv% PySem.Builtin.gallop
def m8:Array Keyed->Array Keyed->StateT SortSt Sem (Array Keyed):=sortPriv% PySem.Builtin.mergeLo
def m9:Array Keyed->Array Keyed->StateT SortSt Sem (Array Keyed):=sortPriv% PySem.Builtin.mergeHi
def tJ:Nat->StateT SortSt Sem Unit:=sortPriv% PySem.Builtin.setMinGallop
section
variable {prog:Program} {w:World} {A:Around} {E:Value->Shared->Prop} {s:Shared} {φ:Keyed->Keyed} {cmp:Nat->Nat->Option Bool}
theorem kA {g:Nat}:Sim prog w A E s φ cmp (tJ g) (tJ g) :=
 dg fun st ps f=>⟨f.kind,f.kind',f.arr,f.pend,rfl,f.fail,f.fail'⟩
theorem fE [EqRl γ] [EqRl δ] [Rl φ β] {m p:StateT SortSt Sem (Option γ × δ)} {f g:Option γ × δ->StateT SortSt Sem β} (h:Sim prog w A E s φ cmp m p) (a:∀ d,Sim prog w A E s φ cmp (f (none,d)) (g (none,d))) (b:∀ c d,Sim prog w A E s φ cmp (f (some c,d)) (g (some c,d))):Sim prog w A E s φ cmp (m >>= f) (p >>= g) :=
 av h fun x=>match x with
  | (none,d)=>a d
  | (some c,d)=>b c d
theorem mH (a:∀ x y:Keyed,Sim prog w A E s φ cmp (lt' (φ x) (φ y)) (lt' x y)) {i j:Nat}:Sim prog w A E s φ cmp (ltAt' i j) (ltAt' i j):=by
 rw [ltAt'_eq]
 refine bZ pU fun st ps f=>?_
 have e:arrOf st=(arrOf ps).map φ:=Fol.arr f
 dsimp only
 rw [e]
 exact bC fun u=>bC fun v=>a u v
theorem cV {β:Type} (p q:β->Nat):∀ (l:List β) (xs:Array Keyed),l.foldl (fun a k=>a.swapIfInBounds (p k) (q k)) (xs.map φ)=(l.foldl (fun a k=>a.swapIfInBounds (p k) (q k)) xs).map φ
 | [],xs=>rfl
 | k :: l,xs=>by
  rw [List.foldl_cons,List.foldl_cons,<- cV p q l]
  congr 1
  apply Array.ext_getElem?
  intro i
  rw [Array.getElem?_map]
  by_cases h1:p k < xs.size
  ·by_cases h2:q k < xs.size
   ·rw [getElem?_swapIB (by simpa using h1) (by simpa using h2),getElem?_swapIB h1 h2]
    simp only [Array.getElem?_map]
    repeat' split
    all_goals rfl
   ·rw [Array.swapIfInBounds_def,Array.swapIfInBounds_def,dif_pos (by simpa using h1),dif_neg (by simpa using h2),dif_pos h1,dif_neg h2,Array.getElem?_map]
  ·rw [Array.swapIfInBounds_def,Array.swapIfInBounds_def,dif_neg (by simpa using h1),dif_neg h1,Array.getElem?_map]
theorem pR {i j:Nat}:Sim prog w A E s φ cmp (reverseSlice' i j) (reverseSlice' i j):=by
 rw [reverseSlice'_eq]
 refine dg fun st ps f=>⟨f.kind,f.kind',?_,f.pend,f.mg,f.fail,f.fail'⟩
 show mirror (arrOf st) _ _ _=(mirror (arrOf ps) _ _ _).map φ
 rw [f.arr]
 exact cV _ _ _ _
theorem mI {i j:Nat}:Sim prog w A E s φ cmp (moveDown' i j) (moveDown' i j):=by
 rw [moveDown'_eq]
 refine dg fun st ps f=>⟨f.kind,f.kind',?_,f.pend,f.mg,f.fail,f.fail'⟩
 show bubble (arrOf st) _ _=(bubble (arrOf ps) _ _).map φ
 rw [f.arr]
 exact cV _ _ _ _
theorem wG (a:∀ x y:Keyed,Sim prog w A E s φ cmp (lt' (φ x) (φ y)) (lt' x y)) {lo n ok:Nat}:Sim prog w A E s φ cmp (binarySort' lo n ok) (binarySort' lo n ok):=by
 rw [binarySort'_eq]
 repeat' first
  | exact aD rfl
  | exact cC
  | refine bv (fun _=>?_) (fun _=>?_)
  | (refine bt (mH a) ?_ (fun u=>?_) <;> try dsimp only)
  | (refine av pR (fun u=>?_);try dsimp only)
  | (refine av mI (fun u=>?_);try dsimp only)
  | (refine av df (fun u=>?_);try dsimp only)
  | (refine fE (fD fun i x=>?_) (fun d=>?_) (fun c d=>?_) <;> try dsimp only)
  | (refine av (fD fun i x=>?_) (fun x=>?_) <;> try dsimp only)
theorem wF (a:∀ x y:Keyed,Sim prog w A E s φ cmp (lt' (φ x) (φ y)) (lt' x y)) {lo n:Nat}:Sim prog w A E s φ cmp (countRun' lo n) (countRun' lo n):=by
 rw [countRun'_eq]
 repeat' first
  | exact aD rfl
  | exact cC
  | refine bv (fun _=>?_) (fun _=>?_)
  | (refine bt (mH a) ?_ (fun u=>?_) <;> try dsimp only)
  | (refine av pR (fun u=>?_);try dsimp only)
  | (refine av mI (fun u=>?_);try dsimp only)
  | (refine av df (fun u=>?_);try dsimp only)
  | (refine fE (fD fun i x=>?_) (fun d=>?_) (fun c d=>?_) <;> try dsimp only)
  | (refine av (fD fun i x=>?_) (fun x=>?_) <;> try dsimp only)
end
end L2
end
section
namespace L2
open PySem PySem.Spec PyProof.Rows
section
variable {prog:Program} {w:World} {A:Around} {E:Value->Shared->Prop} {s:Shared} {φ:Keyed->Keyed} {cmp:Nat->Nat->Option Bool}
theorem d8 (a:∀ x y:Keyed,Sim prog w A E s φ cmp (lt' (φ x) (φ y)) (lt' x y)) {base n hint:Nat}:Sim prog w A E s φ cmp (qx left (φ key) (arr.map φ) base n hint) (qx left key arr base n hint):=by
 refine bt (bC fun u=>bv (fun _=>a _ _) (fun _=>av (a _ _) fun r=>aD rfl)) (aD rfl) (fun u=>?_)
 dsimp only
 repeat' first
  | exact aD rfl
  | refine bv (fun _=>?_) (fun _=>?_)
  | (refine bt (bC fun u=>bv (fun _=>a _ _) (fun _=>av (a _ _) fun r=>aD rfl)) ?_ (fun u=>?_) <;> try dsimp only)
  | (refine fE (fD fun i x=>?_) (fun d=>?_) (fun c d=>?_) <;> try dsimp only)
end
end L2
end
section
namespace L2
open PySem PySem.Spec PyProof.Rows
section
variable {prog:Program} {w:World} {A:Around} {E:Value->Shared->Prop} {s:Shared} {φ:Keyed->Keyed} {cmp:Nat->Nat->Option Bool}
theorem i7 [EqRl α]:@Rl.rel φ α rlE a a:=rfl
theorem eU {X Y:Array Keyed} (h:X=Y.map φ):Rl.rel φ X Y:=h
theorem dy [Rl φ α] {a b:α} (h:Rl.rel φ a b):@Rl.rel φ _ rlO (some a) (some b):=h
theorem dA [Rl φ α]:@Rl.rel φ _ rlO (none:Option α) none:=trivial
theorem dB [Rl φ α] {a b:α} (h:Rl.rel φ a b):@Rl.rel φ _ rlF (ForInStep.done a) (ForInStep.done b):=h
theorem cM [Rl φ α] {a b:α} (h:Rl.rel φ a b):@Rl.rel φ _ rlF (ForInStep.yield a) (ForInStep.yield b):=h
theorem dz [Rl φ α] [Rl φ β] {a b:α} {c d:β} (h:Rl.rel φ a b) (h':Rl.rel φ c d):@Rl.rel φ _ rlP (a,c) (b,d):=⟨h,h'⟩
theorem tz [EqRl γ] {a b : Nat} {x y : Option (Array Keyed) × Array Keyed × γ} {f g : Nat -> Option (Array Keyed) × Array Keyed × γ -> StateT SortSt Sem (ForInStep (Option (Array Keyed) × Array Keyed × γ))} (r : Rl.rel φ x y) (h : ∀ i o d c, Sim prog w A E s φ cmp (f i (o.map (Array.map φ), d.map φ, c)) (g i (o, d, c))) : Sim prog w A E s φ cmp (forIn [a:b] x f) (forIn [a:b] y g) := by
  refine d9 r fun i x y r => ?_
  obtain ⟨x1, l, j⟩ := x
  obtain ⟨t, e, m⟩ := y
  obtain ⟨k, u, n⟩ := r
  obtain rfl : l = e.map φ := u
  obtain rfl : j = m := n
  cases x1 <;> cases t <;> first | exact False.elim k | skip
  · exact h i none e j
  · rename_i p q
    obtain rfl : p = q.map φ := k
    exact h i (some q) e j
theorem q9 [EqRl γ] [Rl φ β] {m p : StateT SortSt Sem (Option (Array Keyed) × Array Keyed × γ)} {f g : Option (Array Keyed) × Array Keyed × γ -> StateT SortSt Sem β} (h : Sim prog w A E s φ cmp m p) (k : ∀ d c, Sim prog w A E s φ cmp (f (none, d.map φ, c)) (g (none, d, c))) (t : ∀ r d c, Sim prog w A E s φ cmp (f (some (r.map φ), d.map φ, c)) (g (some r, d, c))) : Sim prog w A E s φ cmp (m >>= f) (p >>= g) := by
  refine bZ h fun x y r => ?_
  obtain ⟨x1, i, b⟩ := x
  obtain ⟨n, a, j⟩ := y
  obtain ⟨e, o, l⟩ := r
  obtain rfl : i = a.map φ := o
  obtain rfl : b = j := l
  cases x1 <;> cases n <;> first | exact False.elim e | skip
  · exact k a b
  · rename_i p q
    obtain rfl : p = q.map φ := e
    exact t q a b
theorem cD [Rl φ β] {f g:SortSt->StateT SortSt Sem β} (k:∀ st ps,Fol φ st ps->Sim prog w A E s φ cmp (f st) (g ps)):Sim prog w A E s φ cmp (get >>= f) (get >>= g) :=
 bZ pU fun st ps a=>k st ps a
theorem mE (e:∀ x y:Keyed,Sim prog w A E s φ cmp (lt' (φ x) (φ y)) (lt' x y)) (a b:Array Keyed):Sim prog w A E s φ cmp (m8 (a.map φ) (b.map φ)) (m8 a b):=by
 refine av df fun _=>?_
 refine bC fun y=>?_
 simp only [Array.size_map]
 refine bv (fun _=>aD (by (repeat' first | with_reducible exact dA | with_reducible apply dB | with_reducible apply cM | with_reducible apply dy | (with_reducible apply eU;simp only [Array.map_append,Array.map_push,Array.map_extract,Array.map_reverse,List.map_toArray,BP,List.map_nil];done) | with_reducible apply dz | with_reducible exact i7))) fun _=>?_
 refine bv (fun _=>aD (by (repeat' first | with_reducible exact dA | with_reducible apply dB | with_reducible apply cM | with_reducible apply dy | (with_reducible apply eU;simp only [Array.map_append,Array.map_push,Array.map_extract,Array.map_reverse,List.map_toArray,BP,List.map_nil];done) | with_reducible apply dz | with_reducible exact i7))) fun _=>?_
 refine cD fun st ps g=>?_
 have f:=g.mg
 simp only [gallopOf] at f
 rw [f]
 repeat' first
  | exact aD (by (repeat' first | with_reducible exact dA | with_reducible apply dB | with_reducible apply cM | with_reducible apply dy | (with_reducible apply eU;simp only [Array.map_append,Array.map_push,Array.map_extract,Array.map_reverse,List.map_toArray,BP,List.map_nil];done) | with_reducible apply dz | with_reducible exact i7))
  | exact cC
  | refine bv (fun _=>?_) (fun _=>?_)
  | refine av kA (fun _=>?_)
  | refine av df (fun _=>?_)
  | refine bC fun u=>?_
  | (refine bt (d8 e) ?_ (fun u=>?_) <;> try dsimp only)
  | (refine bt (e _ _) ?_ (fun u=>?_) <;> try dsimp only)
  | (refine q9 (tz (by (repeat' first | with_reducible exact dA | with_reducible apply dB | with_reducible apply cM | with_reducible apply dy | (with_reducible apply eU;simp only [Array.map_append,Array.map_push,Array.map_extract,Array.map_reverse,List.map_toArray,BP,List.map_nil];done) | with_reducible apply dz | with_reducible exact i7)) fun i o d c=>?_) (fun d c=>?_) (fun r d c=>?_) <;> try dsimp only)
end
end L2
end
section
namespace L2
open PySem PySem.Spec PyProof.Rows
section
variable {prog:Program} {w:World} {A:Around} {E:Value->Shared->Prop} {s:Shared} {φ:Keyed->Keyed} {cmp:Nat->Nat->Option Bool}
theorem tw [EqRl γ] {a b : Nat} {x y : Option (Array Keyed) × Nat × Nat × Array Keyed × γ} {f g : Nat -> Option (Array Keyed) × Nat × Nat × Array Keyed × γ -> StateT SortSt Sem (ForInStep (Option (Array Keyed) × Nat × Nat × Array Keyed × γ))} (r : Rl.rel φ x y) (h : ∀ i o m n d c, Sim prog w A E s φ cmp (f i (o.map (Array.map φ), m, n, d.map φ, c)) (g i (o, m, n, d, c))) : Sim prog w A E s φ cmp (forIn [a:b] x f) (forIn [a:b] y g) := by
  refine d9 r fun i x y r => ?_
  obtain ⟨x1, C, l, t, j⟩ := x
  obtain ⟨D, H, z, e, B⟩ := y
  obtain ⟨k, u, v, G, F⟩ := r
  obtain rfl : C = H := u
  obtain rfl : l = z := v
  obtain rfl : t = e.map φ := G
  obtain rfl : j = B := F
  cases x1 <;> cases D <;> first | exact False.elim k | skip
  · exact h i none _ _ e j
  · rename_i p q
    obtain rfl : p = q.map φ := k
    exact h i (some q) _ _ e j
theorem q8 [EqRl γ] [Rl φ β] {m p : StateT SortSt Sem (Option (Array Keyed) × Nat × Nat × Array Keyed × γ)} {f g : Option (Array Keyed) × Nat × Nat × Array Keyed × γ -> StateT SortSt Sem β} (h : Sim prog w A E s φ cmp m p) (u : ∀ m n d c, Sim prog w A E s φ cmp (f (none, m, n, d.map φ, c)) (g (none, m, n, d, c))) (F : ∀ r m n d c, Sim prog w A E s φ cmp (f (some (r.map φ), m, n, d.map φ, c)) (g (some r, m, n, d, c))) : Sim prog w A E s φ cmp (m >>= f) (p >>= g) := by
  refine bZ h fun x y r => ?_
  obtain ⟨x1, v, i, j, b⟩ := x
  obtain ⟨z, D, o, a, t⟩ := y
  obtain ⟨e, k, l, C, B⟩ := r
  obtain rfl : v = D := k
  obtain rfl : i = o := l
  obtain rfl : j = a.map φ := C
  obtain rfl : b = t := B
  cases x1 <;> cases z <;> first | exact False.elim e | skip
  · exact u _ _ a b
  · rename_i p q
    obtain rfl : p = q.map φ := e
    exact F q _ _ a b
theorem mF (e:∀ x y:Keyed,Sim prog w A E s φ cmp (lt' (φ x) (φ y)) (lt' x y)) (a b:Array Keyed):Sim prog w A E s φ cmp (m9 (a.map φ) (b.map φ)) (m9 a b):=by
 refine av df fun _=>?_
 simp only [Array.size_map]
 refine bC fun y=>?_
 refine bv (fun _=>aD (by (repeat' first | with_reducible exact dA | with_reducible apply dB | with_reducible apply cM | with_reducible apply dy | (with_reducible apply eU;simp only [Array.map_append,Array.map_push,Array.map_extract,Array.map_reverse,List.map_toArray,BP,List.map_nil];done) | with_reducible apply dz | with_reducible exact i7))) fun _=>?_
 refine bv (fun _=>aD (by (repeat' first | with_reducible exact dA | with_reducible apply dB | with_reducible apply cM | with_reducible apply dy | (with_reducible apply eU;simp only [Array.map_append,Array.map_push,Array.map_extract,Array.map_reverse,List.map_toArray,BP,List.map_nil];done) | with_reducible apply dz | with_reducible exact i7))) fun _=>?_
 refine cD fun st ps g=>?_
 have f:=g.mg
 simp only [gallopOf] at f
 rw [f]
 repeat' first
  | exact aD (by (repeat' first | with_reducible exact dA | with_reducible apply dB | with_reducible apply cM | with_reducible apply dy | (with_reducible apply eU;simp only [Array.map_append,Array.map_push,Array.map_extract,Array.map_reverse,List.map_toArray,BP,List.map_nil];done) | with_reducible apply dz | with_reducible exact i7))
  | exact cC
  | refine bv (fun _=>?_) (fun _=>?_)
  | refine av kA (fun _=>?_)
  | refine av df (fun _=>?_)
  | refine bC fun u=>?_
  | (refine bt (d8 e) ?_ (fun u=>?_) <;> try dsimp only)
  | (refine bt (e _ _) ?_ (fun u=>?_) <;> try dsimp only)
  | (refine q8 (tw (by (repeat' first | with_reducible exact dA | with_reducible apply dB | with_reducible apply cM | with_reducible apply dy | (with_reducible apply eU;simp only [Array.map_append,Array.map_push,Array.map_extract,Array.map_reverse,List.map_toArray,BP,List.map_nil];done) | with_reducible apply dz | with_reducible exact i7)) fun i o m n d c=>?_) (fun m n d c=>?_) (fun r m n d c=>?_) <;> try dsimp only)
end
end L2
end
section
namespace L2
open PySem PySem.Spec PyProof.Rows
section
variable {prog:Program} {w:World} {A:Around} {E:Value->Shared->Prop} {s:Shared} {φ:Keyed->Keyed} {cmp:Nat->Nat->Option Bool}
theorem k4 (b:∀ a p j,G (a.map φ) (φ p,j)=(G a (p,j)).map φ):∀ (l:List (Keyed × Nat)) (xs:Array Keyed),(l.map fun x=>(φ x.1,x.2)).foldl G (xs.map φ)=(l.foldl G xs).map φ
 | [],xs=>rfl
 | (p,j) :: l,xs=>by
  rw [BP,List.foldl_cons,List.foldl_cons,<- k4 b l]
  dsimp only
  rw [b]
theorem pS {f:SortSt->Array Keyed->SortSt} (hf:∀ st X,f st X=setArr st (X.toList.zipIdx.foldl G (arrOf st))) (c:∀ a p j,G (a.map φ) (φ p,j)=(G a (p,j)).map φ):Sim prog w A E s φ cmp (modify fun st=>f st (m.map φ)) (modify fun st=>f st m):=by
 refine dg fun st ps b=>?_
 rw [hf,hf]
 refine ⟨b.kind,b.kind',?_,b.pend,b.mg,b.fail,b.fail'⟩
 show _=Array.map φ (m.toList.zipIdx.foldl G (arrOf ps))
 rw [<- k4 c,<- b.arr]
 show (m.map φ).toList.zipIdx.foldl G (arrOf st)=_
 congr 1
 rw [Array.toList_map,List.zipIdx_map]
 rfl
theorem kB [Rl φ β] {f g:Array Keyed->StateT SortSt Sem β} (h:Sim prog w A E s φ cmp m p) (k:∀ d,Sim prog w A E s φ cmp (f (d.map φ)) (g d)):Sim prog w A E s φ cmp (m >>= f) (p >>= g):=by
 refine bZ h fun x y (r:x=y.map φ)=>?_
 rw [r]
 exact k y
theorem mG (e:∀ x y:Keyed,Sim prog w A E s φ cmp (lt' (φ x) (φ y)) (lt' x y)) (i:Nat):Sim prog w A E s φ cmp (mergeAt' i) (mergeAt' i):=by
 refine cD fun st ps c=>?_
 have h1:=c.arr
 have h2:=c.pend
 simp only [arrOf,pendingOf] at h1 h2
 rw [h2]
 generalize (pendingOf ps)[i]?=a
 generalize (pendingOf ps)[i+1]?=b
 cases a with
 | none=>exact cC
 | some a =>
 cases b with
 | none=>exact cC
 | some b =>
 obtain ⟨sa,na,h⟩:=a
 obtain ⟨sb,nb,g⟩:=b
 refine av (wE ⟨c.kind,c.kind',c.arr,rfl,c.mg,c.fail,c.fail'⟩) fun _=>?_
 rw [h1]
 refine bC fun u=>?_
 refine bt (d8 e) (aD rfl) fun k=>?_
 refine bv (fun _=>aD rfl) fun _=>?_
 refine bC fun u=>?_
 refine bt (d8 e) (aD rfl) fun k=>?_
 refine bv (fun _=>aD rfl) fun _=>?_
 simp only [<- Array.map_extract]
 refine bv (fun _=>?_) fun _=>?_
 ·refine kB (mE e _ _) fun d=>av (pS (fun _ _=>rfl) fun _ _ _=>Array.map_setIfInBounds.symm) fun _=>cD fun st ps f=>aD ?_
  show (failedOf st).isNone=(failedOf ps).isNone
  rw [f.fail,f.fail']
 ·refine kB (mF e _ _) fun d=>av (pS (fun _ _=>rfl) fun _ _ _=>Array.map_setIfInBounds.symm) fun _=>cD fun st ps f=>aD ?_
  show (failedOf st).isNone=(failedOf ps).isNone
  rw [f.fail,f.fail']
theorem mD (F:Array (Nat × Nat × Nat)->Array (Nat × Nat × Nat)) (hf:∀ st,f st=setPending st (F (pendingOf st))):Sim prog w A E s φ cmp (modify f) (modify f) :=
 dg fun st ps a=>by
  rw [hf,hf]
  exact ⟨a.kind,a.kind',a.arr,congrArg F a.pend,a.mg,a.fail,a.fail'⟩
theorem tu (a:∀ x y:Keyed,Sim prog w A E s φ cmp (lt' (φ x) (φ y)) (lt' x y)):Sim prog w A E s φ cmp sortRuns' sortRuns':=by
 rw [sortRuns'_eq]
 refine cD fun st ps b=>?_
 have hsz:(arrOf st).size=(arrOf ps).size:=by rw [b.arr,Array.size_map]
 dsimp only
 rw [hsz]
 generalize (arrOf ps).size=n
 repeat' first
  | exact aD rfl
  | refine bv (fun _=>?_) (fun _=>?_)
  | (refine bt (wF a) ?_ (fun u=>?_) <;> try dsimp only)
  | (refine av (wG a) (fun u=>?_);try dsimp only)
  | (refine av (mG a _) (fun u=>?_);try dsimp only)
  | (refine av df (fun u=>?_);try dsimp only)
  | (refine av (mD (fun p=>p.push _) fun _=>rfl) (fun u=>?_);try dsimp only)
  | (refine av (mD (fun p=>p.modify (p.size - 1) _) fun _=>rfl) (fun u=>?_);try dsimp only)
  | (refine cD fun st ps b=>?_;rw [b.pend];generalize pendingOf ps=p;try dsimp only)
  | (refine fE (fD fun i x=>?_) (fun d=>?_) (fun c d=>?_) <;> try dsimp only)
  | (generalize Array.back? _=d;rcases d with _ | ⟨s1,e,x⟩ <;> dsimp only)
  | (generalize (if p.size > 1 then p[p.size - 2]? else none)=d;rcases d with _ | ⟨s1,e,x⟩ <;> dsimp only)
end
end L2
end
section
namespace L2
open PySem PySem.Spec PyProof.Rows
def kM (n:Nat):Array Keyed:=((List.range n).map fun i=>((Value.ref i,Value.ref i):Keyed)).toArray
def jR (x:Keyed):Option Nat:=match x.1 with
 | .ref i=>some i
 | _=>none
def bH (ns:List (List Int)):Option (List Nat) :=
 match ev (fS ns) (sortRuns'.run (SortSt.mk' (aR true) (kM ns.length) #[] 7 none)) none with
 | some ((_,st),_)=>(arrOf st).toList.mapM jR
 | none=>none
end L2
end
section
namespace L2
open PySem PySem.Spec PyProof.Rows
structure NRs (h:Heap) (bs:List Addr) (ns:List (List Int)):Prop where
 len:ns.length=bs.length
 at':∀ (i:Nat) (b:Addr) (n:List Int),bs[i]?=some b->ns[i]?=some n->IsNts h b n
theorem NRs.tail (r:NRs h (b :: bs) (n :: ns)):NRs h bs ns :=
 ⟨by simpa using r.len,fun i b n e1 a=>r.at' (i+1) b n (by simpa using e1) (by simpa using a)⟩
theorem NRs.keep (r:NRs h bs ns) (k:∀ b ∈ bs,∀ o,h.get? b=some o->h'.get? b=some o):NRs h' bs ns :=
 ⟨r.len,fun i b n e1 a=>(r.at' i b n e1 a).at (k b (BH e1))⟩
theorem NRs.mem (r:NRs h bs ns):∀ b ∈ bs,∃ n ∈ ns,IsNts h b n:=fun b c=>by
 obtain ⟨i,hi⟩:=List.getElem?_of_mem c
 have a:i < ns.length:=by rw [r.len];exact (BG.mp hi).1
 exact ⟨ns[i],List.getElem_mem _,r.at' i b _ hi (BA a)⟩
def kOk (ns:List (List Int)):Prop:=(∀ n ∈ ns,n ≠ [])\/ns.head?=some []
theorem jF:bH []=some []:=by kernel_rfl
theorem jE (n:List Int):bH [n]=some [0]:=by kernel_rfl
section
variable {prog:Program} {w:World} {A:Around} {E:Value->Shared->Prop} {s:Shared}
theorem vn (a:IsNts s.heap b []) (h:Q none s):wpAny (model prog w) A (firstOfTuple' (.ref b)) Q E s:=by
 obtain ⟨it,⟨o,e,c,k,d⟩,j⟩:=a
 refine Bq (wpAny_typeOf (T:="tuple") ⟨o,e,c⟩ ?_)
 rw [if_neg (by decide)]
 refine Bq (listItems_at e d ?_)
 have:it[0]?=none:=by
  rw [<- Array.getElem?_toList]
  generalize it.toList=l at j
  cases j
  rfl
 rw [this]
 exact Br h
theorem gb:∀ (bs:List Addr) (ns:List (List Int)),NRs s.heap bs ns->(∀ os:List (Option Value),(ns.head?=some []->os.head?=some none)->Q os s) ->
  wpAny (model prog w) A ((bs.map Value.ref).mapM firstOfTuple') Q E s
 | [],[],_,q=>by
  simp only [List.map_nil,List.mapM_nil]
  exact Br (q [] fun h=>by cases h)
 | [],_ :: _,r,_=>by have:=r.len;cases this
 | _ :: _,[],r,_=>by have:=r.len;cases this
 | b :: bs,n :: ns,r,q=>by
  rw [BP,List.mapM_cons]
  have a:=r.at' 0 b n rfl rfl
  cases n with
  | nil=>exact Bq (vn a (Bq (gb bs ns r.tail fun os _=>Br (q (none :: os) fun _=>rfl))))
  | cons i n=>exact Bq (k6 a (by simp) fun j t=>Bq (gb bs ns r.tail fun os _=>Br (q (some (.int j t) :: os) fun h=>by simp at h)))
theorem kr:∀ (bs:List Addr) (ns:List (List Int)),NRs s.heap bs ns->Q (bs.map fun _=>.type "tuple") s->wpAny (model prog w) A ((bs.map Value.ref).mapM typeOf) Q E s
 | [],_,_,q=>by
  simp only [List.map_nil,List.mapM_nil]
  exact Br q
 | _ :: _,[],r,_=>by have:=r.len;cases this
 | b :: bs,n :: ns,r,q=>by
  rw [BP,List.mapM_cons]
  obtain ⟨it,⟨o,e,c,k,d⟩,j⟩:=r.at' 0 b n rfl rfl
  exact Bq (wpAny_typeOf (T:="tuple") ⟨o,e,c⟩ (Bq (kr bs ns r.tail (Br q))))
theorem uY (h2:bs ≠ []) (r:NRs s.heap bs ns) (a:kOk ns) (h:∀ k,oU k->Q k s):wpAny (model prog w) A (keyKind' (bs.map Value.ref).toArray) Q E s:=by
 rcases a with a | a
 ·refine uX h2 (fun b e=>?_) (h _ (.inl rfl))
  obtain ⟨n,f,x⟩:=r.mem b e
  exact ⟨n,a n f,x⟩
 ·rw [keyKind'_eq,List.mapM_toArray]
  refine Bq ?_
  rw [map_eq_pure_bind]
  refine Bq (gb bs ns r fun os d=>Br ?_)
  have d:=d a
  obtain ⟨os,rfl⟩:∃ l,os=none :: l:=by
   cases os with
   | nil=>cases d
   | cons x l=>cases d;exact ⟨l,rfl⟩
  rw [if_neg (by simp),if_neg (by simp),oneTypeOnly'_eq,List.mapM_toArray]
  refine Bq (Bq ?_)
  rw [map_eq_pure_bind]
  refine Bq (kr bs ns r (Br ?_))
  have h0:(List.map (fun _:Addr=>Value.type "tuple") bs).toArray[0]?=some (Value.type "tuple"):=by
   cases bs with
   | nil=>exact absurd rfl h2
   | cons b bs=>simp
  have c:((List.map (fun _:Addr=>Value.type "tuple") bs).toArray.all fun x=>x == Value.type "tuple")=true:=by
   simp only [List.all_toArray,List.all_map,List.all_eq_true]
   intro _ _
   rfl
  rw [h0]
  dsimp only
  rw [if_pos c]
  exact Br (Br (h _ (.inr rfl)))
theorem rC (bs:List Addr):(bs.map Value.ref).toArray.zip (bs.map Value.ref).toArray=(kM bs.length).map (j4 bs):=by
 apply Array.ext_getElem?
 intro i
 rw [List.zip_toArray,Array.getElem?_map]
 unfold kM
 simp only [List.getElem?_toArray,BK]
 by_cases hi:i < bs.length
 ·rw [List.getElem?_range hi]
  have e:bs[i]?=some bs[i]:=BA hi
  have:((bs.map Value.ref).zip (bs.map Value.ref))[i]?=some (Value.ref bs[i],Value.ref bs[i]):=by
   simp [List.getElem?_zip_eq_some,e]
  rw [this]
  simp [j4,List.getD,e]
 ·rw [List.getElem?_eq_none (by simp;omega),List.getElem?_eq_none (by simp;omega)]
  rfl
theorem mY:∀ {l:List Keyed} {is:List Nat},l.mapM jR=some is->l.map (fun x=>(j4 bs x).2)=is.map fun i=>Value.ref (bs.getD i 0)
 | [],is,h=>by cases h;rfl
 | x :: l,is,h=>by
  rw [List.mapM_cons] at h
  obtain ⟨i,e1,h⟩:=B0.mp h
  obtain ⟨c,b,h⟩:=B0.mp h
  cases h
  rw [BP,BP,mY b]
  congr 1
  unfold jR at e1
  unfold j4
  cases a:x.1 <;> rw [a] at e1 <;> cases e1
  rfl
theorem rh (hu:A.units < cLine) (r:NRs s.heap bs ns) (j:oU k) (c:bH ns=some is) (h:∀ b,(arrOf b).map (·.2)=(is.map fun i=>Value.ref (bs.getD i 0)).toArray->failedOf b=none->Q () b) :
  wpS (model prog w) A E s sortRuns' Q (SortSt.mk' k ((bs.map Value.ref).toArray.zip (bs.map Value.ref).toArray) #[] 7 none):=by
 unfold bH at c
 cases e:ev (fS ns) (sortRuns'.run (SortSt.mk' (aR true) (kM ns.length) #[] 7 none)) none with
 | none=>rw [e] at c;cases c
 | some p =>
  obtain ⟨⟨u,ps⟩,q⟩:=p
  rw [e] at c
  have c:(arrOf ps).toList.mapM jR=some is:=c
  have g:∀ (i:Nat) (n:List Int),ns[i]?=some n->IsNts s.heap (bs.getD i 0) n:=fun i n e=>by
   have hi:i < bs.length:=by rw [<- r.len];exact (BG.mp e).1
   have d:bs[i]?=some bs[i]:=BA hi
   rw [List.getD,d]
   exact r.at' i _ n d e
  obtain ⟨a,b,_,f,_,hw⟩:=tu (zA (prog:=prog) (w:=w) (E:=E) hu g) (SortSt.mk' k ((bs.map Value.ref).toArray.zip (bs.map Value.ref).toArray) #[] 7 none) (SortSt.mk' (aR true) (kM ns.length) #[] 7 none) u ps q
   ⟨j,rfl,by rw [r.len];exact rC bs,rfl,rfl,rfl,rfl⟩ e
  refine hw _ (h b ?_ f.fail)
  rw [f.arr,Array.map_map]
  apply Array.ext'
  rw [Array.toList_map]
  exact mY c
theorem td {n:Nat} (hu:A.units < cLine) (p:s.heap.get? a=some (seqObj "list" (bs.map Value.ref).toArray n)) (r:NRs s.heap bs ns) (t:kOk ns) (l:bH ns=some is) (hsz:bs.length<=sizeLine) (q:is.length<=sizeLine) (h:P (.done (.ret .none)) { s with heap:=sortedHeap s.heap a (bs.map Value.ref) (is.map fun i=>Value.ref (bs.getD i 0)).toArray }) :
  wpAny (model prog w) A (Builtin.«list.sort» ⟨[.ref a],[]⟩) P E s:=by
 rw [list_sort_plain]
 have D:a < s.heap.objs.size:=BC p
 have hsz2:(bs.map Value.ref).toArray.size<=sizeLine:=by simpa using hsz
 have g:(is.map fun i=>Value.ref (bs.getD i 0)).toArray.size<=sizeLine:=by simpa using q
 have v:∀ b ∈ bs,b ≠ a:=fun b x z=>by
  obtain ⟨m,_,it,⟨o,e1,c,_⟩,_⟩:=r.mem b x
  rw [z,p] at e1
  cases e1
  have c:Value.type "list"=Value.type "tuple":=c
  injection c with c
  exact absurd c (by decide)
 refine Bq (listItems_at p rfl ?_)
 refine Bq (listUpdate_at p rfl ?_)
 obtain ⟨e1,j⟩:∃ e1,(s.heap.update a (Obj.mapSeq fun _=>#[])).get? a=some (seqObj "list" #[] e1):=⟨_,get?_update_seq p (fun _=>#[])⟩
 refine Bq (seqEpoch_at j rfl ?_)
 refine Bq (wpAny_newTuple ?_)
 refine Bq (wpAny_newList ?_)
 refine Bs ?_
 have d:(((s.heap.update a (Obj.mapSeq fun _=>#[])).push (seqObj "tuple" (bs.map Value.ref).toArray 0)).push (seqObj "list" #[] 0)).get? a=some (seqObj "list" #[] e1) :=
  Bv _ (Bv _ j)
 have y:NRs (((s.heap.update a (Obj.mapSeq fun _=>#[])).push (seqObj "tuple" (bs.map Value.ref).toArray 0)).push (seqObj "list" #[] 0)) bs ns:=r.keep fun b x o e =>
  Bv _ (Bv _ ((B5 _ _ (Ne.symm (v b x))).trans e))
 show wpAny (model prog w) A _ P E { s with heap:=((s.heap.update a (Obj.mapSeq fun _=>#[])).push (seqObj "tuple" (bs.map Value.ref).toArray 0)).push (seqObj "list" #[] 0) }
 dsimp only
 by_cases h2:(bs.map Value.ref).toArray.size < 2
 ·rw [if_pos h2,if_pos h2]
  refine Bq (Br ?_)
  rw [StateT.run_pure]
  refine Bq (Br ?_)
  dsimp only
  have out:((bs.map Value.ref).toArray.zip (bs.map Value.ref).toArray).map (·.2)=(is.map fun i=>Value.ref (bs.getD i 0)).toArray:=by
   have C:=r.len
   match bs,ns,C,h2 with
   | [],[],_,_=>rw [jF] at l;cases l;simp
   | [b],[n],_,_=>rw [jE] at l;cases l;simp [List.zip_toArray]
   | _ :: _ :: _,_,_,h2=>simp at h2;omega
  refine Bq (seqEpoch_at d rfl ?_)
  show wpAny _ _ (Builtin.List.listUpdate (.ref a) (fun _=>((bs.map Value.ref).toArray.zip (bs.map Value.ref).toArray).map (·.2)) >>= _) _ _ _
  rw [out]
  refine Bq (listUpdate_at d rfl ?_ (hsz2:=Nat.le_succ_of_le g))
  simp only [bne_self_eq_false,B2,if_false]
  exact Br h
 ·rw [if_neg h2,if_neg h2]
  have u:bs ≠ []:=fun z=>by subst z;simp at h2
  refine Bq (uY u y t fun k t=>?_)
  refine Bq (wpAny_mono (rh (Q:=fun _ f=>(arrOf f).map (·.2)=(is.map fun i=>Value.ref (bs.getD i 0)).toArray/\failedOf f=none) hu y t l fun f a1 a2=>⟨a1,a2⟩) ?_ fun _ _ e=>e)
  rintro ⟨⟨⟩,f⟩ s' ⟨rfl,B,hf⟩
  dsimp only
  refine Bq (seqEpoch_at d rfl ?_)
  rw [B]
  refine Bq (listUpdate_at d rfl ?_ (hsz2:=Nat.le_succ_of_le g))
  rw [hf]
  simp only [bne_self_eq_false,B2,if_false]
  exact Br h
end
end L2
end
section
namespace L2
open PySem PySem.Spec PyProof.Rows
section
variable {X:Cx}
theorem p5:∀ {us:List Value} {bs:List Addr},Vals (bs.map V.ref) us->us=bs.map Value.ref
 | _,[],h=>by cases h;rfl
 | _,b :: bs,h=>by
  cases h with
  | cons r h =>
   cases (show _=Value.ref b from r)
   rw [BP,p5 h]
end
end L2
end
section
namespace PySem
namespace F
end F
end PySem
namespace PySem
namespace F
end F
end PySem
end
section
namespace L2
open PySem PySem.Spec PyProof.Rows
def IsRv (h:Heap) (r a:Addr) (i:Int):Prop:=∃ o,h.get? r=some o/\o.cls=.type "reversed"/\o.data=.fields #[.ref a,rawInt i]
section
variable {prog:Program} {w:World} {A:Around} {E:Value->Shared->Prop} {s:Shared}
theorem IsRv.at {h h':Heap} {r a:Addr} {i:Int} (x:IsRv h r a i) (e:∀ o,h.get? r=some o->h'.get? r=some o):IsRv h' r a i:=let ⟨o,b,q⟩:=x;⟨o,e _ b,q⟩
end
end L2
end
section
namespace L2
open PySem PySem.Spec PyProof.Rows
end L2
end
section
namespace L2
open PySem PySem.Spec PyProof.Rows
theorem uq (xs:Array Value):((List.range xs.size).filterMap fun (m:Nat)=>xs[(((xs.size:Int) - 1)+(m:Int) * (-1)).toNat]?)=xs.toList.reverse:=by
 have h:∀ (l:List Value) (k:Nat),k<=l.length->((List.range k).filterMap fun m:Nat=>l[((l.length:Int) - 1+(m:Int) * (-1)).toNat]?)=l.reverse.take k:=by
  intro l k
  induction k with
  | zero=>intro _;simp
  | succ k ih =>
   intro a
   rw [List.range_succ,List.filterMap_append,ih (by omega),List.take_add_one]
   congr 1
   have e:((l.length:Int) - 1+(k:Int) * (-1)).toNat=l.length - 1 - k:=by omega
   rw [List.filterMap_cons,List.filterMap_nil,e,List.getElem?_reverse (by omega)]
   cases l[l.length - 1 - k]? <;> rfl
 have:=h xs.toList xs.size (by simp)
 simp only [Array.length_toList,Array.getElem?_toList] at this
 rw [this,List.take_of_length_le (by simp)]
section
variable {prog:Program} {w:World} {A:Around} {E:Value->Shared->Prop} {s:Shared}
theorem iE {sl:Addr} {t:Tok} {n:Nat} {Q:Int × Int × Nat->Shared->Prop} (d:s.heap.IsSliceOf sl .none .none (.int (-1) t)) (h:Q ((n:Int) - 1,-1,n) s) :
  wpAny (model prog w) A (Builtin.Slice.sliceApplied (.ref sl) (pure (n:Int))) Q E s:=by
 obtain ⟨os,a,e,b⟩:=id d
 unfold Builtin.Slice.sliceApplied Builtin.Slice.sliceFields
 refine Bq (Bq (wpAny_field a b (x:=.none) rfl (Bq (wpAny_field a b (x:=.none) rfl (Bq (wpAny_field a b (x:=.int (-1) t) rfl (Br ?_)))))))
 refine Bq (HT.slicePart_ (.int (-1) t) ?_)
 show wpAny _ _ (if ((-1:Int) == 0)=true then _ else _) _ _ s
 rw [if_neg (by decide)]
 refine Bq (HT.slicePart_ .none (Bq (HT.slicePart_ .none (Bq (Br ?_)))))
 have e1:Builtin.Slice.sliceAdjust none none (-1) (n:Int)=((n:Int) - 1,-1):=rfl
 show wpAny _ _ (match Builtin.Slice.sliceAdjust none none (-1) (n:Int) with | (lo,hi)=>pure (lo,(-1:Int),Builtin.Slice.slicePlaces lo hi (-1))) _ _ s
 rw [e1]
 have c:Builtin.Slice.slicePlaces ((n:Int) - 1) (-1) (-1)=n:=by
  unfold Builtin.Slice.slicePlaces
  rw [if_neg (by decide)]
  by_cases q:(n:Int) - 1 > -1
  ·rw [if_pos q]
   have:((n:Int) - 1 - -1 - 1) / (- -1)+1=n:=by
    rw [show (- -1:Int)=1 from rfl,Int.ediv_one];omega
   rw [this];simp
  ·rw [if_neg q]
   have:n=0:=by omega
   subst this;rfl
 show wpAny _ _ (pure ((n:Int) - 1,(-1:Int),Builtin.Slice.slicePlaces ((n:Int) - 1) (-1) (-1))) _ _ s
 rw [c]
 exact Br h
theorem ir {t sl:Addr} {items:Array Value} {u:Tok} {Q:Value->Shared->Prop} (b:IsTup s.heap t items) (f:s.heap.IsSliceOf sl .none .none (.int (-1) u))
  (h:Q (.ref s.heap.objs.size) { s with heap:=s.heap.push { cls:=.type "tuple",data:=.seq items.toList.reverse.toArray } })
  (hsz:items.size<=sizeLine):wpAny (model prog w) A (getItem (.ref t) (.ref sl)) Q E s:=by
 have a:sizeOk (.seq items.toList.reverse.toArray):=by
  show items.toList.reverse.toArray.size<=sizeLine
  rw [BO,List.length_reverse,Array.length_toList]
  exact hsz
 obtain ⟨os,e,c,g⟩:=id f
 have d:s.TypeIs (.ref sl) "slice":=⟨os,e,c⟩
 unfold getItem
 try with_reducible refine Bs ?_
 first | refine Bq (Br ?_) | skip
 refine Bq (wpAny_sequenceKey b.typeIs (by decide) ?_)
 refine Bq (wpAny_callSpecial?_slot (name:=Str.ofString "__getitem__") b.typeIs PyProof.Rows.slot_tuple_getitem
  (wpAny_call_entry PyProof.Rows.slot_tuple_getitem b.typeIs entry_tuple_getitem ?_ (args_tuple_getitem _ _)))
 show wpAny _ _ (Builtin.Tuple.tupleItemsOf (.ref t) >>= _) _ _ s
 refine Bq (tupleItemsOf_ b ?_)
 refine Bq (wpAny_typeOf d ?_)
 rw [if_pos (by decide)]
 refine Bq (iE f ?_)
 show wpAny _ _ (if (((items.size:Int) - 1 == 0) && ((-1:Int) == 1) && (items.size == items.size))=true then _ else _) _ _ s
 rw [if_neg (by simp),uq]
 first
  | exact Bq (m:=Builtin.Tuple.tupleExact _) (wpAny_newObj_type (Br ⟨_,rfl,Br h⟩) a)
  | exact Bq (m:=Builtin.Tuple.tupleExact _) (wpAny_newObj_type (Bq (Br (Br ⟨_,rfl,Br h⟩))) a)
  | exact Bq (Bq (m:=Builtin.Tuple.tupleExact _) (wpAny_newObj_type (Br (Br ⟨_,rfl,Br h⟩)) a))
  | exact Bq (Bq (m:=Builtin.Tuple.tupleExact _) (wpAny_newObj_type (Br ⟨_,rfl,Br h⟩) a))
end
section
variable {X:Cx}
def yy (K:FG) (te:TE) (b:TO):TE:=fun σ H Q=>te σ H fun x H1=>b σ H1 fun o H2=>∃ a xs,o=some (-1)/\x=.ref a/\SqT K H2 a xs/\∀ p,H2 p=none->Q (.ref p) (upd H2 p (.tup xs.reverse))
theorem Vals.rev:∀ {xs:List V} {us:List Value},Vals xs us->Vals xs.reverse us.reverse
 | [],_,.nil=>.nil
 | x :: xs,_,.cons r t=>by
  rw [List.reverse_cons,List.reverse_cons]
  exact (Vals.rev t).append (.cons r .nil)
theorem xt {e st:Expr} {te:TE} {f:TO} {p2 pos:Pos} (he:PE X e te) (k:PO X (some st) f):PE X (.Subscript e (.Slice none none (some st) p2) pos) (yy X.K te f):=by
 intro pins s σ H Q I h
 refine Subscript_ (thn (he pins s σ H _ I h) fun v s1 ⟨x,H1,n,m,l⟩=>?_)
 refine wpAny_Slice ?_
 rw [evalPart_none]
 refine Br ?_
 refine Br ?_
 refine thn (k pins s1 σ H1 _ n l) fun y s3 ⟨o,u,j,po,p⟩=>?_
 obtain ⟨a,xs,rfl,rfl,g,q⟩:=p
 cases m
 cases po with
 | int i t =>
 have c:Inv X pins σ u { s3 with heap:=s3.heap.push { cls:=.type "slice",data:=.fields #[.none,.none,.int (-1) t] } }:=j.kept (t':=s3.toks) fun b ob q=>Bv _ q
 obtain ⟨its,r,d,hz⟩:=c.tuple g
 have hlen:its.toArray.size=xs.length:=by rw [BO];exact r.length.symm
 show wpAny (model X.prog X.w) X.A (subscriptTail e (.Slice none none (some st) p2) (.ref a) (.ref s3.heap.objs.size)) (EP X pins σ Q) X.xe { s3 with heap:=s3.heap.push { cls:=.type "slice",data:=.fields #[.none,.none,.int (-1) t] } }
 refine tail_any (ops:=[.ref a,.ref s3.heap.objs.size]) d.typeIs PyProof.Rows.slot_tuple_getitem.lookup ?_ (by with_unfolding_all rfl)
 refine ir d (Heap.IsSliceOf.new ..) ?_ (by rw [hlen];exact hz)
 refine ⟨.ref (s3.heap.push { cls:=.type "slice",data:=.fields #[.none,.none,.int (-1) t] }).objs.size,_,c.laid (t':=s3.toks) (o:=.tup xs.reverse) (fun b ob q=>Bv _ q) (BL _) ?_,rfl,q _ (c.hok.fresh (BL _))⟩
 exact ⟨by rw [List.length_reverse];exact hz,_,r.rev,IsTupD.new _ _⟩
end
end L2
end
section
namespace L2
open PySem PySem.W PySem.Spec PyProof.Rows
abbrev excO (a:Addr) (cls:Value):HO:=.ext fun h=>∃ o,h.get? a=some o/\o.cls=cls
abbrev excF (ob:Obj) (a:Addr) (cls:Value):HO:=.frz ob (excO a cls)
structure ExcK (K:FG) (D:Addr):Prop where
 ga:findIn K (.ref D) "__getattribute__"=some (some (.builtin "BaseException.__getattribute__"))
 gt:findIn K (.ref D) "__getattr__"=some none
 cl:(clsIn K D).isSome=true
 ca:findIn K (.ref D) "__class__"=some (some (.builtin "object.__class__"))
 sp:specialIn K (.builtin "object.__class__") "__get__"=some (some (.builtin "getset_descriptor.__get__"))
 tk:takesIn K (.builtin "object.__class__")=some true
 ob:mroIn K D (.type "object")=some true
 be:mroIn K D (.type "BaseException")=some true
structure XName (K:FG) (c:String) (D:Addr):Prop where
 ns:nsIn K mainGlobals (Str.ofString c)=some (some (.ref D))
 ex:ExcK K D
theorem XName.inj {K:FG} (a:XName K c D) (b:XName K c D'):D=D':=by
 have:=a.ns.symm.trans b.ns
 cases this
 rfl
end L2
end
section
namespace L2
open PySem
section
variable {K:FG} {h:Heap} {mg:Str->Option Value}
theorem uT {h : Heap} {i : Nat} {p : Obj} {q : Nat × Obj} (a : h.objs[i]? = some p) (e : nB (i, p) = some q) : q.1 = i /\ h.get? i = some q.2 := by
  obtain ⟨c, d, x, y⟩ := p
  unfold Heap.get?
  rw [a]
  cases x <;> first | (cases e; exact ⟨rfl, rfl⟩) | cases e
theorem iK:∀ {is:List Nat} {l:List Obj} {a:Nat} {o:Obj},(∀ (j i:Nat) (p:Obj),is[j]?=some i->l[j]?=some p->h.objs[i]?=some p)->((is.zip l).filterMap nB).lookup a=some o->h.get? a=some o
 | [],_,_,_,_,e=>by cases e
 | _ :: _,[],_,_,_,e=>by cases e
 | b :: is,p :: l,a,o,hj,e=>by
  have k:=hj 0 b p rfl rfl
  have f:∀ (j i:Nat) (p:Obj),is[j]?=some i->l[j]?=some p->h.objs[i]?=some p:=fun j i p h1 h2=>hj (j+1) i p (by simpa using h1) (by simpa using h2)
  rw [List.zip_cons_cons,List.filterMap_cons] at e
  cases d:nB (b,p) with
  | none=>rw [d] at e;exact iK f e
  | some q =>
   rw [d] at e
   obtain ⟨h1,h2⟩:=uT k d
   obtain ⟨g,m⟩:=q
   cases h1
   replace e:List.lookup a ((g,m) :: (is.zip l).filterMap nB)=some o:=e
   rw [List.lookup_cons] at e
   cases c:a == g with
   | true=>rw [c] at e;cases eq_of_beq c;cases e;exact h2
   | false=>rw [c] at e;exact iK f e
theorem fragAt_in (h:Heap):(vm h).In h:=fun _ _ e=>iK (fun j i p h1 h2=>by
 obtain ⟨a,rfl⟩:=BG.mp h1
 simpa using h2) e
def stPos (s:Stmt):Pos:=match s with
 | .FunctionDef _ _ _ _ _ _ _ _ _ p=>p
 | _=>⟨0,0,0,0⟩
theorem A5 (X:K.In h) (G:h.Ns mainGlobals mg) (e:nH K n=j0 n st):Def K mg n st:=by
 unfold nH at e
 split at e
 ·rename_i f hf
  split at e
  ·rename_i d c fd sl a
   unfold j0 at e
   obtain ⟨name,qual,params,body,scope,globals,closure,defaults,kw,doc,pm,an,cd,ct,bi⟩:=fd
   simp only [Option.some.injEq,Prod.mk.injEq] at e
   obtain ⟨rfl,rfl,rfl,rfl,rfl,rfl,rfl,rfl,rfl,b⟩:=e
   exact ⟨f,_,AX (st:=st) a b (by unfold PySem.W.keepIn;simp only [a]),PySem.W.mg_of X G hf⟩
  ·cases e
 ·cases e
theorem oV {α β:Type} {f g:α->β} {l:List α} (e:l.map f=l.map g) (i:Nat) {a:α} (h:l[i]?=some a):f a=g a:=List.map_inj_left.mp e a (BH h)
theorem bb {ds:List (Str × Stmt)} (X:K.In h) (G:h.Ns mainGlobals mg) (e:ds.map (fun p=>nH K p.1)=ds.map (fun p=>j0 p.1 p.2)) (i:Nat) (hi:ds[i]?=some (n,st)):Def K mg n st:=A5 X G (oV e i hi)
theorem bU {l:List Str} (X:K.In h) (G:h.Ns mainGlobals mg) (e:l.map (PySem.W.nsIn K mainGlobals)=l.map (fun _=>some none)) (i:Nat) (hi:l[i]?=some n):mg n=none:=PySem.W.mg_none_of X G (oV e i hi)
theorem AU {l:List (Str × Int)} {v:Int} (X:K.In h) (G:h.Ns mainGlobals mg) (e:l.map (fun p=>lT K p.1)=l.map (fun p=>some p.2)) (i:Nat) (hi:l[i]?=some (n,v)):∃ t,mg n=some (.int v t):=by
 have e:=oV e i hi
 unfold lT at e
 dsimp only at e
 split at e
 ·rename_i b t a;cases e;exact ⟨t,PySem.W.mg_of X G a⟩
 ·cases e
theorem walk_ofS {l:PySem.W.OpenLaw} {n k:Nat} {S:FG->Prop} {sp:FG->Sp} (I:l.most=some n) (y:n<=sizeLine) (r:d.params.defaults=[]) (N:Room k callerA) (E:∀ (w:World) (h:Heap),YP w h->∃ K:FG,K.In h/\S K) (F:∀ (w:World) (mg:Str->Option Value) (i:Addr) (h:Heap) (K:FG),S K->K.In h->h.Ns mainGlobals mg->mg d.name=some (.ref i) ->
   ∃ fd:FuncData,(∀ (s:Shared) (u:Value),BindsTo s fd ⟨[u],[]⟩ [(x,u)]) /\
    ∀ base:Heap,K.In base->base.Ns mainGlobals mg->FnOk l.prog w K mg base CX k i fd [x] (sp K)) (p:∀ (K:FG) (H:Hp) (a:Addr) (ns:List Int),ns.length<=n->yw H->SqL K H a (ns.map V.int)->sp K [.ref a] H (fun v _=>v=.bl true) fun _ _ _=>False) (m:∀ (H:Hp) (s:Shared) (e:Value) (s':Shared),CX [] H s (fun _ _ _=>False) e s'->False) :
  PySem.W.WalkO q loose XP YP l.row.toRowW d [] (fun f A=>PySem.call f A):=by
 refine Att.attach_call I r fun w s₀ J mg mb i o pm cd doc a A ns G Y O hd C j c hints hlen M=>?_
 obtain ⟨K,z,t⟩:=E w _ Y
 obtain ⟨fd,D,B⟩:=F w mg i _ K t z G.T.g j
 exact uV z G.T.g G.T.b G.T.builtins G.T.nolimit M c hints (B8 hlen y) N B D (fun H L t=>p K H a ns hlen L t) fun H e s'=>m H J e s'
end
end L2
end
section
namespace L3
open PySem L2
theorem nsE {α:Type} {p:α} {P:Prop} (e:(none:Option α)=some p):P:=nomatch e
inductive D where
 | non | bl (b:Bool) | int (i:Int) | str (x:Str)
 | tup (xs:List D) | lst (xs:List D) | fls (xs:List D) | dk (kvs:List (Key × D)) | dt (kvs:List (List Key × D))
 | exc (c:String) (fs:List (String × D))
def ie:D->Bool
 | .lst _=>true
 | .dk _=>true
 | .dt _=>true
 | _=>false
def FzL (K:FG) (H:Hp) (a:Addr) (b:List V):Prop:=(∃ o,H a=some (.frz o (.lst b)))\/∃ (o:Obj) (its:Array Value) (n:Nat),K.lookup a=some o/\o.cls=.type "list"/\o.dict=none/\o.data=.seq its n/\its.size<=sizeLine/\Vals b its.toList
theorem FzL.sq (h:FzL K H a vs):SqL K H a vs:=h.elim (fun ⟨o,e⟩=>.inl (.inr ⟨o,e⟩)) .inr
inductive Reps (R:D->V->List Addr->Prop):List D->List V->List Addr->Prop where
 | nil:Reps R [] [] []
 | cons {d v L ds vs L'}:R d v L->Reps R ds vs L'->Reps R (d :: ds) (v :: vs) (L ++ L')
inductive Rep (K:FG) (H:Hp):D->V->List Addr->Prop where
 | non:Rep K H .non .non []
 | bl (b:Bool):Rep K H (.bl b) (.bl b) []
 | int (i:Int):Rep K H (.int i) (.int i) []
 | str (x:Str):Rep K H (.str x) (.str x) []
 | tup {xs a vs L}:H a=some (.tup vs)->Reps (Rep K H) xs vs L->Rep K H (.tup xs) (.ref a) L
 | lst {xs a vs L}:H a=some (.lst vs)->Reps (Rep K H) xs vs L->Rep K H (.lst xs) (.ref a) (a :: L)
 | lstF {xs a vs L}:FzL K H a vs->Reps (Rep K H) xs vs L->Rep K H (.fls xs) (.ref a) L
 | dK {kvs a ps L}:H a=some (.dK ps)->kvs.map (·.1)=ps.map (·.1)->Reps (Rep K H) (kvs.map (·.2)) (ps.map (·.2)) L->Rep K H (.dk kvs) (.ref a) (a :: L)
 | dT {kvs a ps L}:H a=some (.dT ps)->kvs.map (·.1)=ps.map (·.1)->Reps (Rep K H) (kvs.map (·.2)) (ps.map (·.2)) L->Rep K H (.dt kvs) (.ref a) (a :: L)
 | exc {c a D ob}:XName K c D->H a=some (excF ob a (.ref D))->Rep K H (.exc c []) (.ref a) []
def RepV (K:FG) (H:Hp) (d:D) (v:V) (L:List Addr):Prop:=match d with
 | .non=>v=.non/\L=[]
 | .bl b=>v=.bl b/\L=[]
 | .int i=>v=.int i/\L=[]
 | .str x=>v=.str x/\L=[]
 | .tup xs=>∃ a e,v=.ref a/\H a=some (.tup e)/\Reps (Rep K H) xs e L
 | .lst xs=>∃ a e L',v=.ref a/\L=a :: L'/\H a=some (.lst e)/\Reps (Rep K H) xs e L'
 | .fls xs=>∃ a e,v=.ref a/\FzL K H a e/\Reps (Rep K H) xs e L
 | .dk kvs=>∃ a ps L',v=.ref a/\L=a :: L'/\H a=some (.dK ps)/\kvs.map (·.1)=ps.map (·.1)/\Reps (Rep K H) (kvs.map (·.2)) (ps.map (·.2)) L'
 | .dt kvs=>∃ a ps L',v=.ref a/\L=a :: L'/\H a=some (.dT ps)/\kvs.map (·.1)=ps.map (·.1)/\Reps (Rep K H) (kvs.map (·.2)) (ps.map (·.2)) L'
 | .exc c fs=>fs=[]/\L=[]/\∃ a D ob,v=.ref a/\XName K c D/\H a=some (excF ob a (.ref D))
theorem Rep.view (r:Rep K H d v L):RepV K H d v L:=by
 cases r with
 | non=>exact ⟨rfl,rfl⟩
 | bl b=>exact ⟨rfl,rfl⟩
 | int i=>exact ⟨rfl,rfl⟩
 | str x=>exact ⟨rfl,rfl⟩
 | tup h r=>exact ⟨_,_,rfl,h,r⟩
 | lst h r=>exact ⟨_,_,_,rfl,rfl,h,r⟩
 | lstF h r=>exact ⟨_,_,rfl,h,r⟩
 | dK h k r=>exact ⟨_,_,_,rfl,rfl,h,k,r⟩
 | dT h k r=>exact ⟨_,_,_,rfl,rfl,h,k,r⟩
 | exc n h=>exact ⟨rfl,rfl,_,_,_,rfl,n,h⟩
def MutAt (H:Hp) (b:Addr):Prop:=(∃ xs,H b=some (.lst xs))\/(∃ ps,H b=some (.dK ps))\/∃ ps,H b=some (.dT ps)
theorem MutAt.ex (m:MutAt H b):∃ o,H b=some o:=by
 rcases m with ⟨_,h⟩ | ⟨_,h⟩ | ⟨_,h⟩ <;> exact ⟨_,h⟩
theorem MutAt.notup (m:MutAt H b) (h:H b=some (.tup vs)):False:=by
 rcases m with ⟨_,e⟩ | ⟨_,e⟩ | ⟨_,e⟩ <;> rw [e] at h <;> cases h
theorem MutAt.nofrz (m:MutAt H b) (h:H b=some (.frz o u)):False:=by
 rcases m with ⟨_,e⟩ | ⟨_,e⟩ | ⟨_,e⟩ <;> rw [e] at h <;> cases h
theorem FzL.keep {M:Addr->Prop} (h:FzL K H a vs) (k:∀ b o,H b=some o->¬ M b->H' b=some o) (hm:∀ b,M b->MutAt H b):FzL K H' a vs:=h.elim (fun ⟨o,e⟩=>.inl ⟨o,k a _ e fun z=>(hm a z).nofrz e⟩) .inr
section
variable {K:FG} {H H':Hp} {d:D} {v:V} {L:List Addr}
theorem Rep.inH (r:Rep K H d v L):∀ b ∈ L,MutAt H b:=by
 refine Rep.rec (motive_1:=fun _ _ L _=>∀ b ∈ L,MutAt H b) (motive_2:=fun _ _ L _=>∀ b ∈ L,MutAt H b) ?_ ?_ ?_ ?_ ?_ ?_ ?_ ?_ ?_ ?_ ?_ ?_ r
 ·intro b a;cases a
 ·intro _ b a;cases a
 ·intro _ b a;cases a
 ·intro _ b a;cases a
 ·intro _ _ _ _ _ _ c;exact c
 ·intro _ _ _ _ h _ c b a
  rcases Bz.mp a with e | a
  ·rw [e];exact .inl ⟨_,h⟩
  ·exact c b a
 ·intro _ _ _ _ _ _ c;exact c
 ·intro _ _ _ _ h _ _ c b a
  rcases Bz.mp a with e | a
  ·rw [e];exact .inr (.inl ⟨_,h⟩)
  ·exact c b a
 ·intro _ _ _ _ h _ _ c b a
  rcases Bz.mp a with e | a
  ·rw [e];exact .inr (.inr ⟨_,h⟩)
  ·exact c b a
 ·intro _ _ _ _ _ _ b a;cases a
 ·intro b a;cases a
 ·intro _ _ _ _ _ _ _ _ f g b a
  rcases BD.mp a with h | h
  ·exact f b h
  ·exact g b h
theorem Reps.inH (r:Reps (Rep K H) ds vs L):∀ b ∈ L,MutAt H b:=by
 induction r with
 | nil=>intro b a;cases a
 | cons r _ ih =>
  intro b a
  rcases BD.mp a with h | h
  ·exact r.inH b h
  ·exact ih b h
theorem Rep.keep {M:Addr->Prop} (k:∀ b o,H b=some o->¬ M b->H' b=some o) (hm:∀ b,M b->MutAt H b) (r:Rep K H d v L):(∀ b ∈ L,¬ M b)->Rep K H' d v L:=by
 refine Rep.rec (motive_1:=fun d v L _=>(∀ b ∈ L,¬ M b)->Rep K H' d v L) (motive_2:=fun ds j L _=>(∀ b ∈ L,¬ M b)->Reps (Rep K H') ds j L) ?_ ?_ ?_ ?_ ?_ ?_ ?_ ?_ ?_ ?_ ?_ ?_ r
 ·intro _;exact .non
 ·intro b _;exact .bl b
 ·intro b _;exact .int b
 ·intro b _;exact .str b
 ·intro xs a j L h _ i f
  exact .tup (k a _ h fun z=>(hm a z).notup h) (i f)
 ·intro xs a j L h _ i f
  exact .lst (k a _ h (f a Bt)) (i fun b g=>f b (Bu _ g))
 ·intro xs a j L h _ i f
  exact .lstF (h.keep k hm) (i f)
 ·intro kvs a ps L h e _ i f
  exact .dK (k a _ h (f a Bt)) e (i fun b g=>f b (Bu _ g))
 ·intro kvs a ps L h e _ i f
  exact .dT (k a _ h (f a Bt)) e (i fun b g=>f b (Bu _ g))
 ·intro c a D ob n h _
  exact .exc n (k a _ h fun z=>(hm a z).nofrz h)
 ·intro _;exact .nil
 ·intro d v L ds j L' _ _ l m f
  exact .cons (l fun b g=>f b (Bx _ g)) (m fun b g=>f b (By _ g))
theorem Rep.same (r:Rep K H d v L) (s:Same H H'):Rep K H' d v L:=r.keep (M:=fun _=>False) (fun b o h _=>s b o h) (fun _ z=>z.elim) fun _ _ z=>z
theorem Reps.keep {M:Addr->Prop} (k:∀ b o,H b=some o->¬ M b->H' b=some o) (hm:∀ b,M b->MutAt H b) (r:Reps (Rep K H) ds vs L):(∀ b ∈ L,¬ M b)->Reps (Rep K H') ds vs L:=by
 induction r with
 | nil=>intro _;exact .nil
 | cons r _ ih=>intro c;exact .cons (r.keep k hm fun b a=>c b (Bx _ a)) (ih fun b a=>c b (By _ a))
theorem Reps.same (r:Reps (Rep K H) ds vs L) (s:Same H H'):Reps (Rep K H') ds vs L:=r.keep (M:=fun _=>False) (fun b o h _=>s b o h) (fun _ z=>z.elim) fun _ _ z=>z
end
inductive Fl where
 | u | l | z
 deriving DecidableEq
structure It3 where
 d:D
 v:V
 L:List Addr
 f:Fl
abbrev Sto:=List (Option (D × Fl))
structure Gm where
 H0:Hp
 bw:Addr->Prop
 pr:Nat->Bool
 σ0:St
 orig:Hp
 src:Addr->Prop
 lv:Nat->Option V
def OwnOk (G:Gm) (x:It3):Prop:=ie x.d=true/\∃ a L',x.v=.ref a/\x.L=a :: L'/\a ∉ L'/\(x.f=.u->G.H0 a=none\/G.bw a)
structure ItOk (K:FG) (G:Gm) (H:Hp) (x:It3):Prop where
 rep:Rep K H x.d x.v x.L
 own:x.f ≠ .z->OwnOk G x
 src:∀ c ∈ x.L,G.H0 c=none\/G.src c
structure Fx (G:Gm) (H:Hp) (T:List It3) (g:Nat->Option It3):Prop where
 frT:∀ x ∈ T,x.f ≠ .z->∀ a,x.v=.ref a->G.orig a=none
 frS:∀ i x,g i=some x->G.pr i=false->x.f ≠ .z->∀ a,x.v=.ref a->G.orig a=none
 bin:∀ b,G.bw b->∃ o,H b=some o
 ob:∀ b o,G.orig b=some o->∃ o',H b=some o'
 lvS:∀ i x,g i=some x->x.f=.l->G.lv i=some x.v
def NoRoot (x y:It3):Prop:=x.f ≠ .z->∀ a,x.v=.ref a->a ∉ y.L
def Apart3 (x y:It3):Prop:=NoRoot x y/\NoRoot y x
structure Wf (K:FG) (G:Gm) (H:Hp) (σ:St) (ρ:Sto) (T:List It3) (g:Nat->Option It3):Prop where
 len:σ.length = ρ.length
 sl:∀ i,(g i).map (fun x=>(x.d,x.f))=(ρ[i]?).join
 sv:∀ i x,g i=some x->σ[i]?=some (some x.v)
 okS:∀ i x,g i=some x->ItOk K G H x
 okT:∀ x ∈ T,ItOk K G H x
 ss:∀ i j x y,i ≠ j->g i=some x->g j=some y->NoRoot x y
 st:∀ i x,g i=some x->∀ y ∈ T,Apart3 x y
 tt:T.Pairwise Apart3
 base:∀ b o,G.H0 b=some o->¬ G.bw b->H b=some o
 pro:∀ i,G.pr i=true->σ[i]?=G.σ0[i]?
 fx:Fx G H T g
structure Le (K:FG) (G:Gm) (W:D->Sto->Prop) (G0:Gm) (W0:D->Sto->Prop):Prop where
 pr:G.pr=G0.pr
 ex:∀ (H:Hp) (σ:St) (ρ:Sto) (T:List It3) (g:Nat->Option It3) (e:D),Wf K G H σ ρ T g->W e ρ->∃ ρ0 T0 g0,Wf K G0 H σ ρ0 T0 g0/\W0 e ρ0
theorem Le.refl (K:FG) (G:Gm) (W:D->Sto->Prop):Le K G W G W:=⟨rfl,fun _ _ ρ T g _ w h=>⟨ρ,T,g,w,h⟩⟩
theorem Le.trans (a:Le K G W G1 W1) (b:Le K G1 W1 G2 W2):Le K G W G2 W2:=⟨a.pr.trans b.pr,fun H σ ρ T g e w h=>by
 obtain ⟨ρ1,c,g1,d,h1⟩:=a.ex H σ ρ T g e w h
 exact b.ex H σ ρ1 c g1 e d h1⟩
section
variable {K:FG} {G:Gm} {H H':Hp} {σ:St} {ρ:Sto} {T T':List It3} {g:Nat->Option It3} {x y z:It3}
theorem ItOk.keep {M:Addr->Prop} (h:ItOk K G H x) (k:∀ b o,H b=some o->¬ M b->H' b=some o) (hm:∀ b,M b->MutAt H b) (a:∀ b ∈ x.L,¬ M b):ItOk K G H' x:=⟨h.rep.keep k hm a,h.own,h.src⟩
theorem ItOk.same (h:ItOk K G H x) (s:Same H H'):ItOk K G H' x:=⟨h.rep.same s,h.own,h.src⟩
theorem Fx.more (f:Fx G H T g) (s:∀ b o,H b=some o->∃ o',H' b=some o'):Fx G H' T g:=⟨f.frT,f.frS,fun b h=>let ⟨o,e⟩:=f.bin b h;s b o e,fun b o h=>let ⟨o',e⟩:=f.ob b o h;s b o' e,f.lvS⟩
theorem Fx.sub (f:Fx G H T g) (h:∀ x ∈ T',x ∈ T):Fx G H T' g:=⟨fun x a=>f.frT x (h x a),f.frS,f.bin,f.ob,f.lvS⟩
theorem Wf.grow (w:Wf K G H σ ρ T g) (s:Same H H'):Wf K G H' σ ρ T g :=
 ⟨w.len,w.sl,w.sv,fun i x e=>(w.okS i x e).same s,fun x a=>(w.okT x a).same s,w.ss,w.st,w.tt,fun b o e n=>s b o (w.base b o e n),w.pro,w.fx.more fun b o h=>⟨o,s b o h⟩⟩
theorem Wf.sub (w:Wf K G H σ ρ T g) (h:T'.Sublist T):Wf K G H σ ρ T' g :=
 ⟨w.len,w.sl,w.sv,w.okS,fun x a=>w.okT x (h.subset a),w.ss,fun i x e y b=>w.st i x e y (h.subset b),w.tt.sublist h,w.base,w.pro,w.fx.sub fun x a=>h.subset a⟩
def Itm (T:List It3) (g:Nat->Option It3) (y:It3):Prop:=(∃ i,g i=some y)\/y ∈ T
def c7 (T:List It3) (g:Nat->Option It3) (c:Addr):Prop:=(∀ i z,g i=some z->z.f ≠ .z->z.v ≠ .ref c)/\∀ z ∈ T,z.f ≠ .z->z.v ≠ .ref c
theorem Wf.itm (w:Wf K G H σ ρ T g) (h:Itm T g y):ItOk K G H y:=by
 rcases h with ⟨i,e⟩ | h
 ·exact w.okS i y e
 ·exact w.okT y h
theorem lK {α:Type} {R:α->α->Prop} {l:List α} (p:l.Pairwise R) (h:∀ a b,R a b->R b a):∀ a ∈ l,∀ b ∈ l,a ≠ b->R a b:=by
 induction p with
 | nil=>intro a d;cases d
 | @cons c l hc _ ih =>
  intro a d b e n
  rcases Bz.mp d with g | d
  ·rcases Bz.mp e with f | e
   ·exact absurd (g.trans f.symm) n
   ·rw [g];exact hc b e
  ·rcases Bz.mp e with f | e
   ·rw [f];exact h _ _ (hc a d)
   ·exact ih a d b e n
theorem Apart3.symm (h:Apart3 x y):Apart3 y x:=⟨h.2,h.1⟩
theorem Wf.kid (w:Wf K G H σ ρ T g) (h:Itm T g y) (d:c ∈ y.L) (m:y.f ≠ .z->y.v ≠ .ref c):c7 T g c:=by
 refine ⟨fun i z e hz a=>?_,fun z hm hz a=>?_⟩
 ·rcases h with ⟨j,b⟩ | k
  ·by_cases l:i=j
   ·subst l
    rw [e] at b
    cases b
    exact m hz a
   ·exact w.ss i j z y l e b hz c a d
  ·exact (w.st i z e y k).1 hz c a d
 ·rcases h with ⟨j,b⟩ | k
  ·exact (w.st j y b z hm).2 hz c a d
  ·by_cases e:z=y
   ·subst e;exact m hz a
   ·exact (lK w.tt (fun _ _=>Apart3.symm) z hm y k e).1 hz c a d
structure New (K:FG) (H H':Hp) (Ks:Addr->Prop) (x:It3):Prop where
 same:Same H H'
 rep:Rep K H' x.d x.v x.L
 sub:∀ c ∈ x.L,H c=none\/Ks c
 own:x.f ≠ .z->ie x.d=true/\∃ a L',x.v=.ref a/\x.L=a :: L'/\a ∉ L'/\H a=none
theorem Wf.h0none (w:Wf K G H σ ρ T g) (h:H a=none):G.H0 a=none:=by
 cases e:G.H0 a with
 | none=>rfl
 | some o =>
  by_cases b:G.bw a
  ·obtain ⟨o,e⟩:=w.fx.bin a b
   rw [h] at e;cases e
  ·have:=w.base a o e b
   rw [h] at this;cases this
theorem Wf.ornone (w:Wf K G H σ ρ T g) (h:H a=none):G.orig a=none:=by
 cases e:G.orig a with
 | none=>rfl
 | some o =>
  obtain ⟨o,e⟩:=w.fx.ob a o e
  rw [h] at e;cases e
theorem Wf.push (w:Wf K G H σ ρ T g) (n:New K H H' Ks x) (p:∀ c,Ks c->c7 T g c/\(G.H0 c=none\/G.src c)):Wf K G H' σ ρ (x :: T) g:=by
 have d:=w.grow n.same
 have a1:∀ y:It3,ItOk K G H y->(∀ c,Ks c->y.f ≠ .z->y.v ≠ .ref c)->Apart3 y x:=fun y m b=>by
  refine ⟨fun hf a e hm=>?_,fun hf a e hm=>?_⟩
  ·obtain ⟨_,s,L',e1,l,_,_⟩:=m.own hf
   rw [e] at e1
   cases e1
   rcases n.sub a hm with h | h
   ·obtain ⟨o,k⟩:=(m.rep.inH a (by rw [l];exact Bt)).ex
    rw [h] at k;cases k
   ·exact b a h hf e
  ·obtain ⟨_,s,L',e1,l,_,h⟩:=n.own hf
   rw [e] at e1
   cases e1
   obtain ⟨o,k⟩:=(m.rep.inH a hm).ex
   rw [h] at k;cases k
 refine ⟨d.len,d.sl,d.sv,d.okS,?_,d.ss,?_,?_,d.base,d.pro,⟨fun y b hf a t=>?_,d.fx.frS,d.fx.bin,d.fx.ob,d.fx.lvS⟩⟩
 ·intro y b
  rcases Bz.mp b with rfl | b
  ·refine ⟨n.rep,fun hf=>?_,fun c j=>?_⟩
   ·obtain ⟨u,a,L',e1,l,r,q⟩:=n.own hf
    exact ⟨u,a,L',e1,l,r,fun _=>.inl (w.h0none q)⟩
   ·rcases n.sub c j with h | h
    ·exact .inl (w.h0none h)
    ·exact (p c h).2
  ·exact d.okT y b
 ·intro i z e y b
  rcases Bz.mp b with rfl | b
  ·exact a1 z (w.okS i z e) fun c j=>(p c j).1.1 i z e
  ·exact d.st i z e y b
 ·refine List.pairwise_cons.mpr ⟨fun y b=>(a1 y (w.okT y b) fun c j=>(p c j).1.2 y b).symm,d.tt⟩
 ·rcases Bz.mp b with h | b
  ·subst h
   obtain ⟨u,s,L',e1,l,r,q⟩:=n.own hf
   rw [t] at e1
   cases e1
   exact w.ornone q
  ·exact d.fx.frT y b hf a t
def cW (ys:List It3) (c:Addr):Prop:=∃ y ∈ ys,c ∈ y.L/\(y.f ≠ .z->y.v ≠ .ref c)
theorem Wf.kids (w:Wf K G H σ ρ T g) (b:∀ y ∈ ys,Itm T g y) (h:cW ys c):c7 T g c/\(G.H0 c=none\/G.src c):=by
 obtain ⟨y,m,a,d⟩:=h
 exact ⟨w.kid (b y m) a d,(w.itm (b y m)).src c a⟩
structure Arg (K:FG) (H:Hp) (p:It3):Prop where
 rep:Rep K H p.d p.v p.L
 own:p.f ≠ .z->ie p.d=true/\∃ a L',p.v=.ref a/\p.L=a :: L'/\a ∉ L'
theorem ItOk.arg (h:ItOk K G H x):Arg K H x:=⟨h.rep,fun hf=>by
 obtain ⟨m,a,L',v1,v2,v3,_⟩:=h.own hf
 exact ⟨m,a,L',v1,v2,v3⟩⟩
end
end L3
end
section
namespace L3
open PySem L2
inductive R3 where
 | pl (i:Nat) | val (d:D) (f:Fl)
abbrev M3 (α:Type):=Sto->Option (Except D α × Sto)
abbrev EM:=M3 R3
noncomputable def ad {α β:Type} (m:M3 α) (k:α->M3 β):M3 β:=fun ρ=>match m ρ with
 | none=>none
 | some (.error e,ρ')=>some (.error e,ρ')
 | some (.ok a,ρ')=>k a ρ'
noncomputable def aN {α:Type} (a:α):M3 α:=fun ρ=>some (.ok a,ρ)
noncomputable def aO {α:Type} (o:Option α):M3 α:=fun ρ=>o.map fun a=>(.ok a,ρ)
noncomputable def der (r:R3):M3 D:=fun ρ=>match r with
 | .pl i=>((ρ[i]?).join).map fun p=>(.ok p.1,ρ)
 | .val d _=>some (.ok d,ρ)
inductive Ar (σ:St):R3->V->List It3->Prop where
 | pl {i:Nat} {v:V}:σ[i]?=some (some v)->Ar σ (.pl i) v []
 | val (x:It3):Ar σ (.val x.d x.f) x.v [x]
def Got (K:FG) (G:Gm) (σ:St) (ρ:Sto) (T:List It3) (r:R3) (v:V) (H:Hp):Prop:=∃ Ts g,Wf K G H σ ρ (Ts ++ T) g/\Ar σ r v Ts
def tE (K:FG) (G0:Gm) (W0:D->Sto->Prop) (m:EM):TE:=fun σ H Q=>∃ G W,Le K G W G0 W0/\∃ ρ T g r ρ',Wf K G H σ ρ T g/\m ρ=some (r,ρ')/\match r with
 | .ok r=>∀ v H',Got K G σ ρ' T r v H'->Q v H'
 | .error e=>W e ρ'
def tT (K:FG) (G0:Gm) (W0:D->Sto->Prop) (m:M3 Bool):TT:=fun σ H Q=>∃ G W,Le K G W G0 W0/\∃ ρ T g r ρ',Wf K G H σ ρ T g/\m ρ=some (r,ρ')/\match r with
 | .ok b=>∀ H' g',Wf K G H' σ ρ' T g'->Q b H'
 | .error e=>W e ρ'
inductive Ars (σ:St):List R3->List V->List It3->Prop where
 | nil:Ars σ [] [] []
 | cons {r v Ts rs vs Us}:Ar σ r v Ts->Ars σ rs vs Us->Ars σ (r :: rs) (v :: vs) (Us ++ Ts)
def tA (K:FG) (G0:Gm) (W0:D->Sto->Prop) (m:M3 (List R3)):TA:=fun σ H Q=>∃ G W,Le K G W G0 W0/\∃ ρ T g r ρ',Wf K G H σ ρ T g/\m ρ=some (r,ρ')/\match r with
 | .ok rs=>∀ a H' Ts g',Wf K G H' σ ρ' (Ts ++ T) g'->Ars σ rs a Ts->Q a H'
 | .error e=>W e ρ'
inductive Flw where
 | nx | br | ct | rt (d:D) (f:Fl)
abbrev SM:=M3 Flw
def tS (K:FG) (G0:Gm) (W0:D->Sto->Prop) (m:SM):TS:=fun E σ H=>∃ G W,Le K G W G0 W0/\∃ ρ T g r ρ',Wf K G H σ ρ T g/\m ρ=some (r,ρ')/\match r with
 | .ok .nx=>∀ σ' H' g',Wf K G H' σ' ρ' T g'->E.nx σ' H'
 | .ok .br=>∀ σ' H' g',Wf K G H' σ' ρ' T g'->E.bk σ' H'
 | .ok .ct=>∀ σ' H' g',Wf K G H' σ' ρ' T g'->E.ct σ' H'
 | .ok (.rt d f)=>∀ x σ' H' g',Wf K G H' σ' ρ' (x :: T) g'->x.d=d->x.f=f->E.rt x.v H'
 | .error e=>W e ρ'
section
variable {K:FG} {G G0:Gm} {W W0:D->Sto->Prop} {H H':Hp} {σ:St} {ρ ρ':Sto} {T T':List It3} {g:Nat->Option It3} {x y z:It3} {α β:Type}
theorem aK (e:ad (der r) k ρ=some (o,ρ')):∃ d,der r ρ=some (.ok d,ρ)/\k d ρ=some (o,ρ'):=by
 cases r with
 | pl i =>
  have a:der (.pl i) ρ=((ρ[i]?).join).map fun p=>(.ok p.1,ρ):=rfl
  unfold ad at e
  rw [a] at e ⊢
  cases h:(ρ[i]?).join with
  | none=>rw [h] at e;exact nsE e
  | some p=>rw [h] at e;exact ⟨p.1,rfl,e⟩
 | val d f=>exact ⟨d,rfl,e⟩
theorem bE (e:aO o ρ=some (r,ρ')):∃ a,o=some a/\r=.ok a/\ρ' = ρ:=by
 unfold aO at e
 cases o with
 | none=>exact nsE e
 | some a=>cases e;exact ⟨a,rfl,rfl,rfl⟩
theorem Wf.slot (w:Wf K G H σ ρ T g) {i:Nat} (e:(ρ[i]?).join=some (d,f)):∃ y,g i=some y/\y.d=d/\y.f=f/\σ[i]?=some (some y.v):=by
 have h:=w.sl i
 rw [e] at h
 cases q:g i with
 | none=>rw [q] at h;exact nsE h
 | some y =>
  rw [q] at h
  cases h
  exact ⟨y,rfl,rfl,rfl,w.sv i y q⟩
theorem Ar.item (w:Wf K G H σ ρ T g) (a:Ar σ r v Ts) (k:∀ x ∈ Ts,x ∈ T) (e:der r ρ=some (.ok d,ρ)):∃ y,Itm T g y/\y.d=d/\y.v=v:=by
 cases a with
 | @pl i v h =>
  have c:der (.pl i) ρ=((ρ[i]?).join).map fun p=>(.ok p.1,ρ):=rfl
  rw [c] at e
  cases q:(ρ[i]?).join with
  | none=>rw [q] at e;exact nsE e
  | some p =>
   rw [q] at e
   obtain ⟨y,e1,j,m,b⟩:=w.slot (d:=p.1) (f:=p.2) q
   have l:p.1=d:=by cases e;rfl
   rw [h] at b
   refine ⟨y,.inl ⟨i,e1⟩,j.trans l,?_⟩
   cases b;rfl
 | val x=>cases e;exact ⟨x,.inr (k x (by simp)),rfl,rfl⟩
theorem Wf.done (w:Wf K G H σ ρ (Us ++ T) g) (a:∀ y ∈ ys,Itm (Us ++ T) g y) (n:New K H H' (cW ys) x):Got K G σ ρ T (.val x.d x.f) x.v H' :=
 ⟨[x],g,(w.push n fun c h=>w.kids a h).sub (by simpa using List.Sublist.cons_cons x (BI Us T)),.val x⟩
theorem tE.seq (le:Le K G W G0 W0) (w:Wf K G H σ ρ T g) (e:ad ma k ρ=some (r,ρ')) (he:∀ x,r=.error x->W x ρ') (h:∀ ra ρ1,k ra ρ1=some (r,ρ')->∀ v H1,Got K G σ ρ1 T ra v H1->P v H1):tE K G0 W0 ma σ H P:=by
 unfold ad at e
 cases q:ma ρ with
 | none=>rw [q] at e;exact nsE e
 | some p =>
  obtain ⟨o,ρ1⟩:=p
  rw [q] at e
  cases o with
  | error x=>cases e;exact ⟨G,W,le,ρ,T,g,.error x,ρ',w,q,he x rfl⟩
  | ok ra=>exact ⟨G,W,le,ρ,T,g,.ok ra,ρ1,w,q,h ra ρ1 e⟩
theorem tT.seq (le:Le K G W G0 W0) (w:Wf K G H σ ρ T g) (e:ad ma k ρ=some (r,ρ')) (he:∀ x,r=.error x->W x ρ') (h:∀ b ρ1,k b ρ1=some (r,ρ')->∀ H1 g1,Wf K G H1 σ ρ1 T g1->P b H1):tT K G0 W0 ma σ H P:=by
 unfold ad at e
 cases q:ma ρ with
 | none=>rw [q] at e;exact nsE e
 | some p =>
  obtain ⟨o,ρ1⟩:=p
  rw [q] at e
  cases o with
  | error x=>cases e;exact ⟨G,W,le,ρ,T,g,.error x,ρ',w,q,he x rfl⟩
  | ok ra=>exact ⟨G,W,le,ρ,T,g,.ok ra,ρ1,w,q,h ra ρ1 e⟩
theorem tA.seq (le:Le K G W G0 W0) (w:Wf K G H σ ρ T g) (e:ad ma k ρ=some (r,ρ')) (he:∀ x,r=.error x->W x ρ') (h:∀ rs ρ1,k rs ρ1=some (r,ρ')->∀ a H1 Ts g1,Wf K G H1 σ ρ1 (Ts ++ T) g1->Ars σ rs a Ts->P a H1):tA K G0 W0 ma σ H P:=by
 unfold ad at e
 cases q:ma ρ with
 | none=>rw [q] at e;exact nsE e
 | some p =>
  obtain ⟨o,ρ1⟩:=p
  rw [q] at e
  cases o with
  | error x=>cases e;exact ⟨G,W,le,ρ,T,g,.error x,ρ',w,q,he x rfl⟩
  | ok ra=>exact ⟨G,W,le,ρ,T,g,.ok ra,ρ1,w,q,h ra ρ1 e⟩
def EndE (K:FG) (G:Gm) (W:D->Sto->Prop) (σ:St) (T:List It3) (ρ':Sto) (Q:VK):Except D R3->Prop
 | .ok r=>∀ v H',Got K G σ ρ' T r v H'->Q v H'
 | .error e=>W e ρ'
theorem EndE.err (h:EndE K G W σ T ρ' Q r):∀ x,r=.error x->W x ρ':=by
 intro x e;subst e;exact h
theorem tE.open (h:tE K G0 W0 m σ H Q):∃ G W,Le K G W G0 W0/\∃ ρ T g r ρ',Wf K G H σ ρ T g/\m ρ=some (r,ρ')/\EndE K G W σ T ρ' Q r:=by
 obtain ⟨G,W,le,ρ,T,g,r,ρ',w,e,q⟩:=h
 refine ⟨G,W,le,ρ,T,g,r,ρ',w,e,?_⟩
 cases r with
 | ok r=>exact q
 | error x=>exact q
theorem tE.use (h:tE K G0 W0 m σ H Q) {P:Prop} (k:∀ G W,Le K G W G0 W0->∀ ρ T g r ρ',Wf K G H σ ρ T g->m ρ=some (r,ρ')->EndE K G W σ T ρ' Q r->P):P:=by
 obtain ⟨G,W,le,ρ,T,g,r,ρ',w,e,q⟩:=h.open
 exact k G W le ρ T g r ρ' w e q
theorem tE.mk (le:Le K G W G0 W0) (w:Wf K G H σ ρ T g) (e:m ρ=some (r,ρ')) (h:EndE K G W σ T ρ' Q r):tE K G0 W0 m σ H Q:=by
 refine ⟨G,W,le,ρ,T,g,r,ρ',w,e,?_⟩
 cases r with
 | ok r=>exact h
 | error x=>exact h
def ac (i:Nat):EM:=fun ρ=>((ρ[i]?).join).map fun _=>(.ok (.pl i),ρ)
theorem zq {i:Nat} (h:tE K G0 W0 (ac i) σ H Q):qY i σ H Q:=by
 refine h.use fun G W le ρ T g r ρ' w e q=>?_
 unfold ac at e
 cases h:(ρ[i]?).join with
 | none=>rw [h] at e;exact nsE e
 | some p =>
  rw [h] at e
  cases e
  obtain ⟨y,_,_,_,a⟩:=w.slot (d:=p.1) (f:=p.2) h
  exact ⟨y.v,a,q y.v H ⟨[],g,w,.pl a⟩⟩
def mC (d:D):EM:=aN (.val d .z)
theorem Wf.const (w:Wf K G H σ ρ T g) (r:Rep K H d v []):Got K G σ ρ T (.val d .z) v H :=
 Wf.done (Us:=[]) (ys:=[]) (x:=⟨d,v,[],.z⟩) w (fun _ h=>(by cases h)) ⟨Same.refl _,r,fun _ h=>(by cases h),fun h=>absurd rfl h⟩
theorem eO (r:∀ H,Rep K H d v []) (h:tE K G0 W0 (mC d) σ H Q):tC v σ H Q:=by
 refine h.use fun G W le ρ T g o ρ' w e q=>?_
 cases e
 exact q v H (w.const (r H))
def af (f:D->D->Option (D × Fl)) (ma mb:EM):EM:=ad ma fun ra=>ad mb fun rb=>ad (der ra) fun da=>ad (der rb) fun db=>aO ((f da db).map fun p=>R3.val p.1 p.2)
def OpD (K:FG) (r:R2) (f:D->D->Option (D × Fl)):Prop:=∀ (a b:It3) (H:Hp) (Q:VK) (p:D × Fl),Arg K H a->Arg K H b->f a.d b.d=some p ->
 (∀ w H',New K H H' (cW [a,b]) w->w.d=p.1->w.f=p.2->Q w.v H')->r a.v b.v H Q
theorem k7 (w:Wf K G H σ ρ (Us ++ T) g) (b:∀ y ∈ ys,Itm (Us ++ T) g y) (q:EndE K G W σ T ρ Q (.ok (.val d f))) :
  ∀ a H',New K H H' (cW ys) a->a.d=d->a.f=f->Q a.v H':=by
 intro a H' n e1 c
 subst e1 c
 exact q a.v H' (w.done b n)
theorem lq (A:OpD K r f) (h:tE K G0 W0 (af f ma mb) σ H Q):tOp r (tE K G0 W0 ma) (tE K G0 W0 mb) σ H Q:=by
 refine h.use fun G W le ρ T g o ρ' w e q=>?_
 refine tE.seq le w e q.err fun ra ρ1 e1 E H1 ⟨Ts,g1,C,a1⟩=>?_
 refine tE.seq le C e1 q.err fun rb ρ2 z D H2 ⟨Us,g2,a,a2⟩=>?_
 obtain ⟨da,d1,u⟩:=aK z
 obtain ⟨db,v,B⟩:=aK u
 obtain ⟨p,b,rfl,rfl⟩:=bE B
 obtain ⟨n,i,f1,f2⟩:=a1.item a (fun x c=>By _ (Bx _ c)) d1
 obtain ⟨m,j,t,f4⟩:=a2.item a (fun x c=>Bx _ c) v
 subst f1 f2 t f4
 cases l:f n.d m.d with
 | none=>rw [l] at b;exact nsE b
 | some s =>
  rw [l] at b
  cases b
  rw [<- List.append_assoc] at a i j
  refine A n m H2 Q s (a.itm i).arg (a.itm j).arg l (k7 a (fun y k=>?_) q)
  rcases Bz.mp k with h | k
  ·rw [h];exact i
  ·rw [B1.mp k];exact j
def mUn (f:D->Option (D × Fl)) (ma:EM):EM:=ad ma fun ra=>ad (der ra) fun da=>aO ((f da).map fun p=>R3.val p.1 p.2)
def UnD (K:FG) (r:V->Hp->VK->Prop) (f:D->Option (D × Fl)):Prop:=∀ (a:It3) (H:Hp) (Q:VK) (p:D × Fl),Arg K H a->f a.d=some p ->
 (∀ w H',New K H H' (cW [a]) w->w.d=p.1->w.f=p.2->Q w.v H')->r a.v H Q
theorem yB (n:UnD K r f) (h:tE K G0 W0 (mUn f ma) σ H Q):tUn r (tE K G0 W0 ma) σ H Q:=by
 refine h.use fun G W le ρ T g o ρ' w e q=>?_
 refine tE.seq le w e q.err fun ra ρ1 e1 t H1 ⟨Ts,g1,b,a1⟩=>?_
 obtain ⟨da,d1,m⟩:=aK e1
 obtain ⟨p,a,rfl,rfl⟩:=bE m
 obtain ⟨j,i,f1,f2⟩:=a1.item b (fun x k=>Bx _ k) d1
 subst f1 f2
 cases c:f j.d with
 | none=>rw [c] at a;exact nsE a
 | some s =>
  rw [c] at a
  cases a
  exact n j H1 Q s (b.itm i).arg c (k7 b (fun y l=>by rw [B1.mp l];exact i) q)
def ae:M3 (List R3):=aN []
def aa (m:EM) (ms:M3 (List R3)):M3 (List R3):=ad m fun r=>ad ms fun rs=>aN (r :: rs)
def EndA (K:FG) (G:Gm) (W:D->Sto->Prop) (σ:St) (T:List It3) (ρ':Sto) (Q:List V->Hp->Prop):Except D (List R3)->Prop
 | .ok rs=>∀ a H' Ts g',Wf K G H' σ ρ' (Ts ++ T) g'->Ars σ rs a Ts->Q a H'
 | .error e=>W e ρ'
theorem EndA.err (h:EndA K G W σ T ρ' Q r):∀ x,r=.error x->W x ρ':=by
 intro x e;subst e;exact h
theorem tA.open (h:tA K G0 W0 m σ H Q):∃ G W,Le K G W G0 W0/\∃ ρ T g r ρ',Wf K G H σ ρ T g/\m ρ=some (r,ρ')/\EndA K G W σ T ρ' Q r:=by
 obtain ⟨G,W,le,ρ,T,g,r,ρ',w,e,q⟩:=h
 refine ⟨G,W,le,ρ,T,g,r,ρ',w,e,?_⟩
 cases r with
 | ok r=>exact q
 | error x=>exact q
theorem tA.use (h:tA K G0 W0 m σ H Q) {P:Prop} (k:∀ G W,Le K G W G0 W0->∀ ρ T g r ρ',Wf K G H σ ρ T g->m ρ=some (r,ρ')->EndA K G W σ T ρ' Q r->P):P:=by
 obtain ⟨G,W,le,ρ,T,g,r,ρ',w,e,q⟩:=h.open
 exact k G W le ρ T g r ρ' w e q
theorem zx (h:tA K G0 W0 ae σ H Q):tNil σ H Q:=by
 refine h.use fun G W le ρ T g r ρ' w e q=>?_
 cases e
 exact q [] H [] g w .nil
theorem wA (h:tA K G0 W0 (aa m ms) σ H Q):yD (tE K G0 W0 m) (tA K G0 W0 ms) σ H Q:=by
 refine h.use fun G W le ρ T g r ρ' w e q=>?_
 refine tE.seq le w e q.err fun ra ρ1 e1 d H1 ⟨Ts,g1,f,a1⟩=>?_
 refine tA.seq le f e1 q.err fun rs ρ2 c a H2 Us g2 b a2=>?_
 cases c
 refine q (d :: a) H2 (Us ++ Ts) g2 ?_ (.cons a1 a2)
 rw [List.append_assoc]
 exact b
def cx:List R3->M3 (List D)
 | []=>aN []
 | r :: rs=>ad (der r) fun d=>ad (cx rs) fun ds=>aN (d :: ds)
theorem qE:∀ {rs:List R3} {ρ ρ':Sto} {o:Except D (List D)},cx rs ρ=some (o,ρ')->∃ ds,o=.ok ds/\ρ' = ρ
 | [],ρ,ρ',o,e=>by cases e;exact ⟨[],rfl,rfl⟩
 | r :: rs,ρ,ρ',o,e=>by
  obtain ⟨d,e1,a⟩:=aK (k:=fun d=>ad (cx rs) fun ds=>aN (d :: ds)) e
  unfold ad at a
  cases q:cx rs ρ with
  | none=>rw [q] at a;exact nsE a
  | some p =>
   obtain ⟨o',ρ1⟩:=p
   obtain ⟨ds,rfl,rfl⟩:=qE q
   rw [q] at a
   cases a
   exact ⟨d :: ds,rfl,rfl⟩
theorem bL (e:ad (cx rs) k ρ=some (o,ρ')):∃ ds,cx rs ρ=some (.ok ds,ρ)/\k ds ρ=some (o,ρ'):=by
 unfold ad at e
 cases q:cx rs ρ with
 | none=>rw [q] at e;exact nsE e
 | some p =>
  obtain ⟨o',ρ1⟩:=p
  obtain ⟨ds,rfl,rfl⟩:=qE q
  rw [q] at e
  exact ⟨ds,rfl,e⟩
theorem Ars.items:∀ {rs:List R3} {c:List V} {Ts:List It3} {ds:List D} ,Wf K G H σ ρ T g->Ars σ rs c Ts->(∀ x ∈ Ts,x ∈ T)->cx rs ρ=some (.ok ds,ρ)->∃ ys:List It3,(∀ y ∈ ys,Itm T g y)/\ys.map (·.d)=ds/\ys.map (·.v)=c
 | [],_,_,ds,w,.nil,_,e=>by cases e;exact ⟨[],fun _ h=>(by cases h),rfl,rfl⟩
 | r :: rs,_,_,ds,w,.cons a as,hs,e=>by
  obtain ⟨d,e1,n⟩:=aK (k:=fun d=>ad (cx rs) fun ds=>aN (d :: ds)) e
  obtain ⟨o,j,l⟩:=bL n
  cases l
  obtain ⟨y,f,f1,f2⟩:=a.item w (fun x b=>hs x (By _ b)) e1
  obtain ⟨ys,m,i,f4⟩:=Ars.items w as (fun x b=>hs x (Bx _ b)) j
  refine ⟨y :: ys,fun z hz=>?_,by simp [f1,i],by simp [f2,f4]⟩
  rcases Bz.mp hz with h | hz
  ·rw [h];exact f
  ·exact m z hz
def ao (f:List D->Option (D × Fl)) (ms:M3 (List R3)):EM:=ad ms fun rs=>ad (cx rs) fun ds=>aO ((f ds).map fun p=>R3.val p.1 p.2)
def dG (K:FG) (r:List V->Hp->VK->Prop) (f:List D->Option (D × Fl)):Prop:=∀ (ys:List It3) (H:Hp) (Q:VK) (p:D × Fl),(∀ y ∈ ys,Arg K H y)->f (ys.map (·.d))=some p ->
 (∀ w H',New K H H' (cW ys) w->w.d=p.1->w.f=p.2->Q w.v H')->r (ys.map (·.v)) H Q
theorem jC (l:dG K r f) (h:tE K G0 W0 (ao f ms) σ H Q):tCB r (tA K G0 W0 ms) σ H Q:=by
 refine h.use fun G W le ρ T g o ρ' w e q=>?_
 refine tA.seq le w e q.err fun rs ρ1 e1 n H1 Ts g1 b a1=>?_
 obtain ⟨ds,d1,m⟩:=bL e1
 obtain ⟨p,a,rfl,rfl⟩:=bE m
 obtain ⟨ys,i,f1,f2⟩:=a1.items b (fun x j=>Bx _ j) d1
 subst f1 f2
 cases c:f (ys.map (·.d)) with
 | none=>rw [c] at a;exact nsE a
 | some s =>
  rw [c] at a
  cases a
  exact l ys H1 Q s (fun y k=>(b.itm (i y k)).arg) c (k7 b i q)
def asB:D->Option Bool
 | .bl b=>some b
 | _=>none
def cH (ma mb:EM):EM:=ad ma fun ra=>ad (der ra) fun d=>ad (aO (asB d)) fun b=>if b then mb else aN (.val (.bl false) .z)
def mOr (ma mb:EM):EM:=ad ma fun ra=>ad (der ra) fun d=>ad (aO (asB d)) fun b=>if b then aN (.val (.bl true) .z) else mb
def nt (ma:EM):EM:=ad ma fun ra=>ad (der ra) fun d=>ad (aO (asB d)) fun b=>aN (.val (.bl (!b)) .z)
theorem iL (e:ad (aO o) k ρ=some (r,ρ')):∃ a,o=some a/\k a ρ=some (r,ρ'):=by
 unfold ad aO at e
 cases o with
 | none=>exact nsE e
 | some a=>exact ⟨a,rfl,e⟩
theorem vT (e:asB d=some b):d=.bl b:=by
 cases d <;> first | exact nsE e | cases e
 rfl
theorem Rep.bl_eq (r:Rep K H (.bl b) v L):v=.bl b/\L=[]:=by cases r;exact ⟨rfl,rfl⟩
theorem Ar.bool (w:Wf K G H σ ρ (Ts ++ T) g) (a:Ar σ ra v Ts) (e:der ra ρ=some (.ok d,ρ)) (h:asB d=some b):v=.bl b:=by
 obtain ⟨y,f,f1,f2⟩:=a.item w (fun x c=>Bx _ c) e
 have r:=(w.itm f).rep
 rw [f1,vT h] at r
 rw [<- f2]
 exact r.bl_eq.1
theorem zw (h:tE K G0 W0 (cH ma mb) σ H Q):yF (tE K G0 W0 ma) (tE K G0 W0 mb) σ H Q:=by
 refine h.use fun G W le ρ T g o ρ' w e q=>?_
 refine tE.seq le w e q.err fun ra ρ1 e1 k H1 ⟨Ts,g1,f,a1⟩=>?_
 obtain ⟨d,d1,j⟩:=aK e1
 obtain ⟨b,i,c⟩:=iL j
 refine ⟨b,a1.bool f d1 i,?_⟩
 have a:=f.sub (BI Ts T)
 cases b with
 | true=>exact tE.mk le a c q
 | false=>cases c;exact q _ _ (a.const (.bl false))
theorem zt (h:tE K G0 W0 (nt ma) σ H Q):yz (tE K G0 W0 ma) σ H Q:=by
 refine h.use fun G W le ρ T g o ρ' w e q=>?_
 refine tE.seq le w e q.err fun ra ρ1 e1 k H1 ⟨Ts,g1,a,a1⟩=>?_
 obtain ⟨d,d1,j⟩:=aK e1
 obtain ⟨b,c,i⟩:=iL j
 refine ⟨b,a1.bool a d1 c,?_⟩
 have f:=a.sub (BI Ts T)
 cases i;exact q _ _ (f.const (.bl (!b)))
def EndT (K:FG) (G:Gm) (W:D->Sto->Prop) (σ:St) (T:List It3) (ρ':Sto) (Q:Bool->Hp->Prop):Except D Bool->Prop
 | .ok b=>∀ H' g',Wf K G H' σ ρ' T g'->Q b H'
 | .error e=>W e ρ'
theorem EndT.err (h:EndT K G W σ T ρ' Q r):∀ x,r=.error x->W x ρ':=by
 intro x e;subst e;exact h
theorem tT.open (h:tT K G0 W0 m σ H Q):∃ G W,Le K G W G0 W0/\∃ ρ T g r ρ',Wf K G H σ ρ T g/\m ρ=some (r,ρ')/\EndT K G W σ T ρ' Q r:=by
 obtain ⟨G,W,le,ρ,T,g,r,ρ',w,e,q⟩:=h
 refine ⟨G,W,le,ρ,T,g,r,ρ',w,e,?_⟩
 cases r with
 | ok r=>exact q
 | error x=>exact q
theorem tT.use (h:tT K G0 W0 m σ H Q) {P:Prop} (k:∀ G W,Le K G W G0 W0->∀ ρ T g r ρ',Wf K G H σ ρ T g->m ρ=some (r,ρ')->EndT K G W σ T ρ' Q r->P):P:=by
 obtain ⟨G,W,le,ρ,T,g,r,ρ',w,e,q⟩:=h.open
 exact k G W le ρ T g r ρ' w e q
theorem tT.mk (le:Le K G W G0 W0) (w:Wf K G H σ ρ T g) (e:m ρ=some (r,ρ')) (h:EndT K G W σ T ρ' Q r):tT K G0 W0 m σ H Q:=by
 refine ⟨G,W,le,ρ,T,g,r,ρ',w,e,?_⟩
 cases r with
 | ok r=>exact h
 | error x=>exact h
def cB (m:EM):M3 Bool:=ad m fun r=>ad (der r) fun d=>aO (asB d)
theorem tT_b (h:tT K G0 W0 (cB m) σ H Q):tB (tE K G0 W0 m) σ H Q:=by
 refine h.use fun G W le ρ T g o ρ' w e q=>?_
 refine tE.seq le w e q.err fun ra ρ1 e1 i H1 ⟨Ts,g1,a,a1⟩=>?_
 obtain ⟨d,d1,f⟩:=aK e1
 obtain ⟨b,c,rfl,rfl⟩:=bE f
 exact ⟨b,a1.bool a d1 c,q _ _ (a.sub (BI Ts T))⟩
def yq (a b:M3 Bool):M3 Bool:=ad a fun c=>if c then b else aN false
def cOr (a b:M3 Bool):M3 Bool:=ad a fun c=>if c then aN true else b
def cy (a:M3 Bool):M3 Bool:=ad a fun c=>aN (!c)
theorem tT_or (h:tT K G0 W0 (cOr a b) σ H Q):tOr (tT K G0 W0 a) (tT K G0 W0 b) σ H Q:=by
 refine h.use fun G W le ρ T g o ρ' w e q=>?_
 refine tT.seq le w e q.err fun c ρ1 e1 H1 g1 d=>?_
 cases c with
 | false=>exact tT.mk le d e1 q
 | true=>cases e1;exact q _ _ d
theorem ze (h:tT K G0 W0 (cy a) σ H Q):tNot (tT K G0 W0 a) σ H Q:=by
 refine h.use fun G W le ρ T g o ρ' w e q=>?_
 refine tT.seq le w e q.err fun c ρ1 e1 H1 g1 b=>?_
 cases e1;exact q _ _ b
def mIf (c:M3 Bool) (ma mb:EM):EM:=ad c fun b=>if b then ma else mb
end
end L3
end
section
namespace L3
open PySem L2
def cI (x:It3):It3:={ x with f:=.z }
theorem cg:NoRoot (cI x) y:=fun h=>absurd rfl h
def lowAt (i:Nat) (ρ:Sto):Sto:=match (ρ[i]?).join with
 | some (d,.u)=>ρ.set i (some (d,.z))
 | some (d,.l)=>ρ.set i (some (d,.z))
 | _=>ρ
noncomputable def frz (is:List Nat) (ρ:Sto):Sto:=is.foldl (fun ρ i=>lowAt i ρ) ρ
def sd (is:List Nat):M3 Unit:=fun ρ=>some (.ok (),frz is ρ)
def pls:List R3->List Nat
 | []=>[]
 | .pl i :: rs=>i :: pls rs
 | .val _ _ :: rs=>pls rs
section
variable {K:FG} {G G0:Gm} {W W0:D->Sto->Prop} {H H':Hp} {σ:St} {ρ ρ':Sto} {T T':List It3} {g:Nat->Option It3} {x y z:It3} {α β:Type}
theorem ItOk.low (h:ItOk K G H x):ItOk K G H (cI x):=⟨h.rep,fun q=>absurd rfl q,h.src⟩
theorem bK {i j:Nat} (hi:i < ρ.length):((ρ.set i o)[j]?).join=if j=i then o else (ρ[j]?).join:=by
 by_cases e:j=i
 ·subst e
  rw [if_pos rfl,List.getElem?_set_self hi]
  rfl
 ·rw [if_neg e,List.getElem?_set_ne (fun h=>e h.symm)]
theorem c5 {i:Nat} (h:(ρ[i]?).join=some p):i < ρ.length:=by
 cases q:ρ[i]? with
 | none=>rw [q] at h;exact nsE h
 | some o=>exact (BG.mp q).1
theorem Wf.lowSlot (w:Wf K G H σ ρ T g) {i:Nat} (e:(ρ[i]?).join=some (d,f)):Wf K G H σ (ρ.set i (some (d,.z))) T (fun j=>if j=i then (g i).map cI else g j):=by
 have hi:=c5 e
 obtain ⟨y,s,B,E,ev⟩:=w.slot e
 have val:∀ j x,(if j=i then (g i).map cI else g j)=some x->∃ x0,g j=some x0/\(x=x0\/x=cI x0)/\(j=i->x=cI x0):=fun j x h=>by
  by_cases q:j=i
  ·subst q
   rw [if_pos rfl,s] at h
   cases h
   exact ⟨y,s,.inr rfl,fun _=>rfl⟩
  ·rw [if_neg q] at h
   exact ⟨x,h,.inl rfl,fun z=>absurd z q⟩
 have t:∀ {a b:It3},NoRoot a b->∀ m l,(m=a\/m=cI a)->(l=b\/l=cI b)->NoRoot m l:=fun h m l h1 h2=>by
  rcases h1 with rfl | rfl
  ·rcases h2 with rfl | rfl
   ·exact h
   ·exact h
  ·exact cg
 refine ⟨by rw [List.length_set];exact w.len,fun j=>?_,fun j x h=>?_,fun j x h=>?_,w.okT,fun j k a b n h1 h2=>?_,fun j a h b r=>?_,w.tt,w.base,w.pro,⟨w.fx.frT,fun j x h A hf a D=>?_,w.fx.bin,w.fx.ob,fun j x h v=>?_⟩⟩
 ·rw [bK hi]
  by_cases q:j=i
  ·subst q
   rw [if_pos rfl,if_pos rfl,s]
   show some ((cI y).d,Fl.z)=_
   rw [<- B];rfl
  ·rw [if_neg q,if_neg q];exact w.sl j
 ·obtain ⟨x0,h0,c,_⟩:=val j x h
  have:=w.sv j x0 h0
  rcases c with rfl | rfl <;> exact this
 ·obtain ⟨x0,h0,c,_⟩:=val j x h
  rcases c with rfl | rfl
  ·exact w.okS j x h0
  ·exact (w.okS j x0 h0).low
 ·obtain ⟨p,h0,o,_⟩:=val j a h1
  obtain ⟨C,u,r,_⟩:=val k b h2
  exact t (w.ss j k p C n h0 u) a b o r
 ·obtain ⟨p,h0,o,_⟩:=val j a h
  exact ⟨t (w.st j p h0 b r).1 a b o (.inl rfl),t (w.st j p h0 b r).2 b a (.inl rfl) o⟩
 ·obtain ⟨x0,h0,c,_⟩:=val j x h
  rcases c with rfl | rfl
  ·exact w.fx.frS j x h0 A hf a D
  ·exact absurd rfl hf
 ·obtain ⟨x0,h0,c,_⟩:=val j x h
  rcases c with rfl | rfl
  ·exact w.fx.lvS j x h0 v
  ·cases v
def Kin (x y:It3):Prop:=y.d=x.d/\y.v=x.v/\y.L=x.L/\(y.f=x.f\/y.f=.z)
theorem Kin.refl (x:It3):Kin x x:=⟨rfl,rfl,rfl,.inl rfl⟩
theorem Kin.trans (a:Kin x y) (b:Kin y z):Kin x z:=⟨b.1.trans a.1,b.2.1.trans a.2.1,b.2.2.1.trans a.2.2.1,by
 rcases b.2.2.2 with h | h
 ·rcases a.2.2.2 with h' | h'
  ·exact .inl (h.trans h')
  ·exact .inr (h.trans h')
 ·exact .inr h⟩
theorem Wf.lowAt {i:Nat} (w:Wf K G H σ ρ T g):∃ g',Wf K G H σ (lowAt i ρ) T g'/\(∀ j y,g j=some y->∃ a,g' j=some a/\Kin y a/\(j=i->a.f=.z)):=by
 have keep:∀ d,(ρ[i]?).join=some (d,.z)->∃ g',Wf K G H σ ρ T g'/\(∀ j y,g j=some y->∃ a,g' j=some a/\Kin y a/\(j=i->a.f=.z)):=fun d e=>⟨g,w,fun j y h=>⟨y,h,Kin.refl y,fun q=>by
  subst q
  obtain ⟨a,h',_,hf,_⟩:=w.slot e
  rw [h] at h';cases h';exact hf⟩⟩
 have low:∀ d f,(ρ[i]?).join=some (d,f)->∃ g',Wf K G H σ (ρ.set i (some (d,.z))) T g'/\(∀ j y,g j=some y->∃ a,g' j=some a/\Kin y a/\(j=i->a.f=.z)):=fun d f e=>⟨_,w.lowSlot e,fun j y h=>by
  by_cases q:j=i
  ·subst q;exact ⟨cI y,by rw [if_pos rfl,h];rfl,⟨rfl,rfl,rfl,.inr rfl⟩,fun _=>rfl⟩
  ·exact ⟨y,by rw [if_neg q];exact h,Kin.refl y,fun z=>absurd z q⟩⟩
 unfold L3.lowAt
 cases e:(ρ[i]?).join with
 | none =>
  refine ⟨g,w,fun j y h=>⟨y,h,Kin.refl y,fun q=>?_⟩⟩
  subst q
  have:=w.sl j
  rw [h,e] at this;cases this
 | some p =>
  obtain ⟨d,f⟩:=p
  cases f with
  | u=>exact low d _ e
  | l=>exact low d _ e
  | z=>exact keep d e
theorem Wf.frz:∀ {is:List Nat} {ρ:Sto} {g:Nat->Option It3},Wf K G H σ ρ T g->∃ g',Wf K G H σ (frz is ρ) T g'/\(∀ j y,g j=some y->∃ a,g' j=some a/\Kin y a/\(j ∈ is->a.f=.z))
 | [],ρ,g,w=>⟨g,w,fun j y h=>⟨y,h,Kin.refl y,fun q=>by cases q⟩⟩
 | i :: is,ρ,g,w=>by
  obtain ⟨g1,n,h1⟩:=w.lowAt (i:=i)
  obtain ⟨g2,o,h2⟩:=Wf.frz (is:=is) n
  refine ⟨g2,o,fun j y h=>?_⟩
  obtain ⟨k,e1,d,e⟩:=h1 j y h
  obtain ⟨c,m,b,l⟩:=h2 j k e1
  refine ⟨c,m,d.trans b,fun hm=>?_⟩
  rcases Bz.mp hm with q | q
  ·rcases b.2.2.2 with h | h
   ·exact h.trans (e q)
   ·exact h
  ·exact l q
theorem Wf.lowT (w:Wf K G H σ ρ (Ts ++ T) g):Wf K G H σ ρ (Ts.map cI ++ T) g:=by
 have sp:∀ {a b:It3},Apart3 a b->Apart3 (cI a) (cI b):=fun h=>⟨cg,cg⟩
 refine ⟨w.len,w.sl,w.sv,w.okS,fun x c=>?_,w.ss,fun i x e y d=>?_,?_,w.base,w.pro,⟨fun x c hf a k=>?_,w.fx.frS,w.fx.bin,w.fx.ob,w.fx.lvS⟩⟩
 ·rcases BD.mp c with h | h
  ·obtain ⟨x0,h0,rfl⟩:=BJ.mp h
   exact (w.okT x0 (Bx _ h0)).low
  ·exact w.okT x (By _ h)
 ·rcases BD.mp d with h | h
  ·obtain ⟨y0,h0,rfl⟩:=BJ.mp h
   exact ⟨(w.st i x e y0 (Bx _ h0)).1,cg⟩
  ·exact w.st i x e y (By _ h)
 ·have h:=List.pairwise_append.mp w.tt
  refine List.pairwise_append.mpr ⟨?_,h.2.1,fun a j b f=>?_⟩
  ·rw [List.pairwise_map]
   exact h.1.imp fun h=>sp h
  ·obtain ⟨l,h0,rfl⟩:=BJ.mp j
   exact ⟨cg,(h.2.2 l h0 b f).2⟩
 ·rcases BD.mp c with h | h
  ·obtain ⟨x0,h0,rfl⟩:=BJ.mp h
   exact absurd rfl hf
  ·exact w.fx.frT x (By _ h) hf a k
theorem jw:∀ {rs:List R3} {i:Nat},R3.pl i ∈ rs->i ∈ pls rs
 | [],_,h=>by cases h
 | .pl j :: rs,i,h=>by
  rcases Bz.mp h with e | h
  ·cases e;exact Bt
  ·exact Bu _ (jw h)
 | .val _ _ :: rs,i,h=>by
  rcases Bz.mp h with e | h
  ·cases e
  ·exact jw (rs:=rs) h
theorem Ars.given:∀ {rs:List R3} {m:List V} {Ts:List It3} {ds:List D} {S:List It3} {g':Nat->Option It3} {is:List Nat},Wf K G H σ ρ T g->(∀ j y,g j=some y->∃ b,g' j=some b/\Kin y b/\(j ∈ is->b.f=.z))->(∀ i,R3.pl i ∈ rs->i ∈ is) ->
  Ars σ rs m Ts->(∀ x ∈ Ts,x ∈ T)->(∀ x ∈ Ts,cI x ∈ S)->cx rs ρ=some (.ok ds,ρ)->∃ ys:List It3,(∀ y ∈ ys,Itm S g' y/\y.f=.z)/\ys.map (·.d)=ds/\ys.map (·.v)=m
 | [],_,_,ds,S,g',is,w,hg,hi,.nil,_,_,e=>by cases e;exact ⟨[],fun _ h=>(by cases h),rfl,rfl⟩
 | r :: rs,_,_,ds,S,g',is,w,hg,hi,.cons (v:=v0) a as,hs,hS,e=>by
  obtain ⟨d,e1,E⟩:=aK (k:=fun d=>ad (cx rs) fun ds=>aN (d :: ds)) e
  obtain ⟨F,u,I⟩:=bL E
  cases I
  obtain ⟨ys,C,o,f4⟩:=Ars.given w hg (fun i h=>hi i (Bu _ h)) as (fun x c=>hs x (Bx _ c)) (fun x c=>hS x (Bx _ c)) u
  have one:∃ y,(Itm S g' y/\y.f=.z)/\y.d=d/\y.v=v0:=by
   cases a with
   | @pl i v h =>
    have n:der (.pl i) ρ=((ρ[i]?).join).map fun p=>(.ok p.1,ρ):=rfl
    rw [n] at e1
    cases q:(ρ[i]?).join with
    | none=>rw [q] at e1;exact nsE e1
    | some p =>
     rw [q] at e1
     obtain ⟨y,B,t,J,l⟩:=w.slot (d:=p.1) (f:=p.2) q
     obtain ⟨b,h1,h2,h3⟩:=hg i y B
     have A:p.1=d:=by cases e1;rfl
     rw [h] at l
     refine ⟨b,⟨.inl ⟨i,h1⟩,h3 (hi i Bt)⟩,h2.1.trans (t.trans A),?_⟩
     rw [h2.2.1];cases l;rfl
   | val x=>cases e1;exact ⟨cI x,⟨.inr (hS x (by simp)),rfl⟩,rfl,rfl⟩
  obtain ⟨y,s,f1,f2⟩:=one
  refine ⟨y :: ys,fun z hz=>?_,by simp [f1,o],by simp [f2,f4]⟩
  rcases Bz.mp hz with h | hz
  ·rw [h];exact s
  ·exact C z hz
def cX (ys:List It3) (c:Addr):Prop:=∃ y ∈ ys,c ∈ y.L
def gives (rs:List R3):M3 (List D):=ad (cx rs) fun ds=>ad (sd (pls rs)) fun _=>aN ds
theorem Ars.gives (w:Wf K G H σ ρ (Ts ++ T) g) (a:Ars σ rs vs Ts) (e:ad (gives rs) k ρ=some (r,ρ')) :
  ∃ ds ρ1 g1,k ds ρ1=some (r,ρ')/\ρ1=frz (pls rs) ρ/\Wf K G H σ ρ1 (Ts.map cI ++ T) g1/\(∀ j y,g j=some y->∃ c,g1 j=some c/\Kin y c)/\∃ ys:List It3,(∀ y ∈ ys,Itm (Ts.map cI ++ T) g1 y/\y.f=.z)/\ys.map (·.d)=ds/\ys.map (·.v)=vs:=by
 unfold L3.gives at e
 have m:ad (cx rs) (fun ds=>ad (sd (pls rs)) fun _=>k ds) ρ=some (r,ρ'):=by
  rw [<- e]
  unfold ad
  cases q:cx rs ρ with
  | none=>rfl
  | some p =>
   obtain ⟨o,ρ2⟩:=p
   cases o with
   | error x=>rfl
   | ok ds=>rfl
 obtain ⟨ds,d1,e1⟩:=bL m
 obtain ⟨g1,n,h1⟩:=Wf.frz (is:=pls rs) w
 refine ⟨ds,L3.frz (pls rs) ρ,g1,e1,rfl,n.lowT,fun j y h=>let ⟨c,a,b,_⟩:=h1 j y h;⟨c,a,b⟩,?_⟩
 exact Ars.given w h1 (fun i h=>jw h) a (fun x l=>Bx _ l) (fun x l=>Bx _ (BJ.mpr ⟨x,l,rfl⟩)) d1
theorem Wf.alls (w:Wf K G H σ ρ T g) (a:∀ y ∈ ys,Itm T g y/\y.f=.z) (h:cX ys c):c7 T g c/\(G.H0 c=none\/G.src c):=by
 obtain ⟨y,m,b⟩:=h
 exact ⟨w.kid (a y m).1 b fun hf=>absurd (a y m).2 hf,(w.itm (a y m).1).src c b⟩
theorem Wf.doneA (w:Wf K G H σ ρ (Us ++ T) g) (a:∀ y ∈ ys,Itm (Us ++ T) g y/\y.f=.z) (n:New K H H' (cX ys) x):Got K G σ ρ T (.val x.d x.f) x.v H' :=
 ⟨[x],g,(w.push n fun c h=>w.alls a h).sub (by simpa using List.Sublist.cons_cons x (BI Us T)),.val x⟩
theorem jt:∀ {ys:List It3},(∀ y ∈ ys,Rep K H y.d y.v y.L)->Reps (Rep K H) (ys.map (·.d)) (ys.map (·.v)) (ys.map (·.L)).flatten
 | [],_=>.nil
 | y :: ys,h=>.cons (h y Bt) (jt fun z hz=>h z (Bu _ hz))
theorem dU (h:c ∈ (ys.map (·.L)).flatten):cX ys c:=by
 obtain ⟨l,a,b⟩:=List.mem_flatten.mp h
 obtain ⟨y,d,rfl⟩:=BJ.mp a
 exact ⟨y,d,b⟩
noncomputable def nq (mk:List D->D) (f:Fl) (ms:M3 (List R3)):EM:=ad ms fun rs=>ad (gives rs) fun ds=>aO (if ds.length<=16777216 then some (.val (mk ds) f) else none)
abbrev aS:M3 (List R3)->EM:=nq .tup .z
abbrev aW:M3 (List R3)->EM:=nq .lst .u
theorem bI (h:H p=none):Same H (upd H p o):=fun b u e=>by
 rw [aq (aM e h)];exact e
theorem zr (hz:(16777216:Nat)=sizeLine) (h:tE K G0 W0 (aS ms) σ H Q):tTup (tA K G0 W0 ms) σ H Q:=by
 refine h.use fun G W le ρ T g o ρ' w e q=>?_
 refine tA.seq le w e q.err fun rs ρ1 e1 r H1 Ts g1 n a1=>?_
 obtain ⟨ds,ρ2,g2,k,_,i,_,ys,j,f1,f2⟩:=a1.gives n e1
 obtain ⟨v,b,rfl,rfl⟩:=bE k
 subst f1 f2
 split at b
 ·rename_i m
  cases b
  refine ⟨by rw [BF] at m ⊢;omega,fun p f=>?_⟩
  refine q _ _ (Wf.doneA (x:=⟨.tup (ys.map (·.d)),.ref p,(ys.map (·.L)).flatten,.z⟩) i j ⟨bI f,.tup aC ((jt fun y a=>(i.itm (j y a).1).rep).same (bI f)),fun c l=>.inr (dU l),fun hf=>absurd rfl hf⟩)
 ·exact nsE b
theorem zv (hz:(16777216:Nat)=sizeLine) (h:tE K G0 W0 (aW ms) σ H Q):tLst (tA K G0 W0 ms) σ H Q:=by
 refine h.use fun G W le ρ T g o ρ' w e q=>?_
 refine tA.seq le w e q.err fun rs ρ1 e1 s H1 Ts g1 r a1=>?_
 obtain ⟨ds,ρ2,g2,m,_,j,_,ys,k,f1,f2⟩:=a1.gives r e1
 obtain ⟨v,i,rfl,rfl⟩:=bE m
 subst f1 f2
 split at i
 ·rename_i n
  cases i
  refine ⟨by rw [BF] at n ⊢;omega,fun p b=>?_⟩
  have np:p ∉ (ys.map (·.L)).flatten:=fun a=>by
   obtain ⟨y,hm,a⟩:=dU a
   obtain ⟨o,l⟩:=((j.itm (k y hm).1).rep.inH p a).ex
   rw [b] at l;exact nsE l
  refine q _ _ (Wf.doneA (x:=⟨.lst (ys.map (·.d)),.ref p,p :: (ys.map (·.L)).flatten,.u⟩) j k ⟨bI b,.lst aC ((jt fun y f=>(j.itm (k y f).1).rep).same (bI b)),fun c a=>?_,fun _=>⟨rfl,p,_,rfl,rfl,np,b⟩⟩)
  rcases Bz.mp a with e | a
  ·rw [e];exact .inl b
  ·exact .inr (dU a)
 ·exact nsE i
end
end L3
end
section
namespace L3
open PySem L2
section
variable {K:FG} {G G0:Gm} {W W0:D->Sto->Prop} {H H':Hp} {σ:St} {ρ ρ':Sto} {T T':List It3} {g:Nat->Option It3} {x y z:It3} {α β:Type}
def EndS (K:FG) (G:Gm) (W:D->Sto->Prop) (T:List It3) (ρ':Sto) (E:Ends):Except D Flw->Prop
 | .ok .nx=>∀ σ' H' g',Wf K G H' σ' ρ' T g'->E.nx σ' H'
 | .ok .br=>∀ σ' H' g',Wf K G H' σ' ρ' T g'->E.bk σ' H'
 | .ok .ct=>∀ σ' H' g',Wf K G H' σ' ρ' T g'->E.ct σ' H'
 | .ok (.rt d f)=>∀ x σ' H' g',Wf K G H' σ' ρ' (x :: T) g'->x.d=d->x.f=f->E.rt x.v H'
 | .error e=>W e ρ'
theorem EndS.err (h:EndS K G W T ρ' E r):∀ x,r=.error x->W x ρ':=by
 intro x e;subst e;exact h
theorem tS.open (h:tS K G0 W0 m E σ H):∃ G W,Le K G W G0 W0/\∃ ρ T g r ρ',Wf K G H σ ρ T g/\m ρ=some (r,ρ')/\EndS K G W T ρ' E r:=by
 obtain ⟨G,W,le,ρ,T,g,r,ρ',w,e,q⟩:=h
 refine ⟨G,W,le,ρ,T,g,r,ρ',w,e,?_⟩
 cases r with
 | ok r=>cases r <;> exact q
 | error x=>exact q
theorem tS.use (h:tS K G0 W0 m E σ H) {P:Prop} (k:∀ G W,Le K G W G0 W0->∀ ρ T g r ρ',Wf K G H σ ρ T g->m ρ=some (r,ρ')->EndS K G W T ρ' E r->P):P:=by
 obtain ⟨G,W,le,ρ,T,g,r,ρ',w,e,q⟩:=h.open
 exact k G W le ρ T g r ρ' w e q
theorem tS.mk (le:Le K G W G0 W0) (w:Wf K G H σ ρ T g) (e:m ρ=some (r,ρ')) (h:EndS K G W T ρ' E r):tS K G0 W0 m E σ H:=by
 refine ⟨G,W,le,ρ,T,g,r,ρ',w,e,?_⟩
 cases r with
 | ok r=>cases r <;> exact h
 | error x=>exact h
def dS:SM:=aN .nx
noncomputable def aF (a b:SM):SM:=ad a fun f=>match f with
 | .nx=>b
 | o=>aN o
theorem zm (h:tS K G0 W0 dS E σ H):yA E σ H:=by
 refine h.use fun G W le ρ T g r ρ' w e q=>?_
 cases e
 exact q _ _ _ w
theorem zh (h:tS K G0 W0 (aF a b) E σ H):tSeq (tS K G0 W0 a) (tS K G0 W0 b) E σ H:=by
 refine h.use fun G W le ρ T g r ρ' w e q=>?_
 unfold aF ad at e
 cases p:a ρ with
 | none=>rw [p] at e;exact nsE e
 | some p' =>
  obtain ⟨o,ρ1⟩:=p'
  rw [p] at e
  cases o with
  | error x=>cases e;exact tS.mk le w p q
  | ok f =>
   cases f with
   | nx=>exact tS.mk le (r:=.ok .nx) w p fun σ' H' g' c=>tS.mk le c e q
   | br=>cases e;exact tS.mk le w p q
   | ct=>cases e;exact tS.mk le w p q
   | rt d f=>cases e;exact tS.mk le w p q
def eS (m:EM):SM:=ad m fun _=>aN .nx
theorem wo (h:tS K G0 W0 (eS m) E σ H):yC (tE K G0 W0 m) E σ H:=by
 refine h.use fun G W le ρ T g r ρ' w e q=>?_
 refine tE.seq le w e q.err fun ra ρ1 e1 v H1 ⟨Ts,g1,a,a1⟩=>?_
 cases e1
 exact q _ _ _ (a.sub (BI Ts T))
def sIf (c:M3 Bool) (a b:SM):SM:=ad c fun t=>if t then a else b
theorem tS_if (h:tS K G0 W0 (sIf c a b) E σ H):tIfS (tT K G0 W0 c) (tS K G0 W0 a) (tS K G0 W0 b) E σ H:=by
 refine h.use fun G W le ρ T g r ρ' w e q=>?_
 refine tT.seq le w e q.err fun t ρ1 e1 H1 g1 d=>?_
 cases t with
 | true=>exact tS.mk le d e1 q
 | false=>exact tS.mk le d e1 q
def nol:Fl->Fl
 | .u=>.u
 | _=>.z
theorem AF (f:Fl):nol f ≠ .l:=by cases f <;> intro h <;> cases h
theorem AE (f:Fl):nol f=f\/nol f=.z:=by cases f <;> first | exact .inl rfl | exact .inr rfl
noncomputable def cL (r:R3):M3 (D × Fl):=match r with
 | .val d f=>aN (d,nol f)
 | .pl i=>fun ρ=>((ρ[i]?).join).map fun p=>(.ok (p.1,.z),lowAt i ρ)
theorem mw {i:Nat}:cL (.pl i) ρ=((ρ[i]?).join).map fun p=>(.ok (p.1,.z),lowAt i ρ):=rfl
theorem Ar.val_inv (a:Ar σ (.val d f) v Ts):∃ x,Ts=[x]/\x.d=d/\x.f=f/\x.v=v:=by
 generalize h:R3.val d f=r at a
 cases a with
 | pl _=>cases h
 | val x=>cases h;exact ⟨x,rfl,rfl,rfl,rfl⟩
theorem Ar.take (w:Wf K G H σ ρ (Ts ++ T) g) (a:Ar σ r v Ts) (e:ad (cL r) k ρ=some (o,ρ')) :
  ∃ p ρ1 g1 x,k p ρ1=some (o,ρ')/\Wf K G H σ ρ1 (x :: T) g1/\x.d=p.1/\(p.2=x.f\/p.2=.z)/\p.2 ≠ .l/\x.v=v:=by
 cases a with
 | val x=>exact ⟨(x.d,nol x.f),ρ,g,x,e,w,rfl,AE _,AF _,rfl⟩
 | @pl i v h =>
  unfold ad at e
  rw [mw] at e
  cases q:(ρ[i]?).join with
  | none=>rw [q] at e;exact nsE e
  | some p =>
   rw [q] at e
   obtain ⟨y,E,D,J,t⟩:=w.slot (d:=p.1) (f:=p.2) q
   obtain ⟨g1,b,h1⟩:=w.lowAt (i:=i)
   obtain ⟨c,m,B,C⟩:=h1 i y E
   have hz:=C rfl
   refine ⟨(p.1,.z),_,g1,c,e,?_,B.1.trans D,.inr rfl,(by intro h;cases h),?_⟩
   ·have s:∀ u:It3,NoRoot c u:=fun u hf=>absurd hz hf
    refine ⟨b.len,b.sl,b.sv,b.okS,fun u hu=>?_,b.ss,fun j u n F hu=>?_,?_,b.base,b.pro,⟨fun u hu hf a I=>?_,b.fx.frS,b.fx.bin,b.fx.ob,b.fx.lvS⟩⟩
    ·rcases Bz.mp hu with h | hu
     ·rw [h];exact b.okS i c m
     ·exact b.okT u hu
    ·rcases Bz.mp hu with h | hu
     ·rw [h]
      refine ⟨?_,s _⟩
      by_cases A:j=i
      ·subst A
       rw [m] at n;cases n
       exact s _
      ·exact b.ss j i u c A n m
     ·exact b.st j u n F hu
    ·exact List.pairwise_cons.mpr ⟨fun u hu=>⟨s _,(b.st i c m u hu).2⟩,b.tt⟩
    ·rcases Bz.mp hu with h | hu
     ·rw [h] at hf;exact absurd hz hf
     ·exact b.fx.frT u hu hf a I
   ·rw [B.2.1]
    rw [h] at t;cases t;rfl
theorem Wf.store {i:Nat} (w:Wf K G H σ ρ (x :: T) g) (hi:i < ρ.length) (I:G.pr i=false) (hf:f=x.f\/f=.z) (A:f ≠ .l) :
  Wf K G H (σ.set i (some x.v)) (ρ.set i (some (x.d,f))) T (fun j=>if j=i then some { x with f:=f } else g j):=by
 have r:i < σ.length:=by rw [w.len];exact hi
 have C:=List.pairwise_cons.mp w.tt
 have y:=w.okT x Bt
 have nx:∀ u:It3,NoRoot x u->NoRoot { x with f:=f } u:=fun u h q=>by
  rcases hf with e | e
  ·exact h (by rw [<- e];exact q)
  ·exact absurd e q
 have val:∀ j u,(if j=i then some { x with f:=f } else g j)=some u->(j=i/\u = { x with f:=f })\/(j ≠ i/\g j=some u):=fun j u h=>by
  by_cases q:j=i
  ·rw [if_pos q] at h;cases h;exact .inl ⟨q,rfl⟩
  ·rw [if_neg q] at h;exact .inr ⟨q,h⟩
 refine ⟨by rw [List.length_set,List.length_set];exact w.len,fun j=>?_,fun j u h=>?_,fun j u h=>?_,fun u hu=>w.okT u (Bu _ hu),fun j k a b n h1 h2=>?_,fun j a h b B=>?_,C.2,w.base,fun j t=>?_,⟨fun u hu=>w.fx.frT u (Bu _ hu),fun j u h s m a p=>?_,w.fx.bin,w.fx.ob,fun j u h F=>?_⟩⟩
 ·rw [bK hi]
  by_cases q:j=i
  ·rw [if_pos q,if_pos q];rfl
  ·rw [if_neg q,if_neg q];exact w.sl j
 ·rcases val j u h with ⟨rfl,rfl⟩ | ⟨n,h⟩
  ·rw [List.getElem?_set_self r]
  ·rw [List.getElem?_set_ne (fun z=>n z.symm)];exact w.sv j u h
 ·rcases val j u h with ⟨rfl,rfl⟩ | ⟨n,h⟩
  ·refine ⟨y.rep,fun q=>?_,y.src⟩
   rcases hf with e | e
   ·subst e
    exact y.own q
   ·exact absurd e q
  ·exact w.okS j u h
 ·rcases val j a h1 with ⟨L,p⟩ | ⟨M,o⟩
  ·rcases val k b h2 with ⟨D,E⟩ | ⟨J,c⟩
   ·exact absurd (L.trans D.symm) n
   ·rw [p];exact nx b (w.st k b c x Bt).2
  ·rcases val k b h2 with ⟨D,E⟩ | ⟨J,c⟩
   ·rw [E];exact (w.st j a o x Bt).1
   ·exact w.ss j k a b n o c
 ·rcases val j a h with ⟨rfl,rfl⟩ | ⟨n,h⟩
  ·exact ⟨nx b (C.1 b B).1,(C.1 b B).2⟩
  ·exact w.st j a h b (Bu _ B)
 ·have n:j ≠ i:=fun z=>by subst z;rw [I] at t;cases t
  rw [List.getElem?_set_ne (fun z=>n z.symm)];exact w.pro j t
 ·rcases val j u h with ⟨_,rfl⟩ | ⟨n,h⟩
  ·rcases hf with e | e
   ·exact w.fx.frT x Bt (by rw [<- e];exact m) a p
   ·exact absurd e m
  ·exact w.fx.frS j u h s m a p
 ·rcases val j u h with ⟨_,rfl⟩ | ⟨n,h⟩
  ·exact absurd F A
  ·exact w.fx.lvS j u h F
def aX (i:Nat) (m:EM):SM:=ad m fun r=>ad (cL r) fun p=>fun ρ=>if i < ρ.length then some (.ok .nx,ρ.set i (some p)) else none
theorem zg {i:Nat} (c:G0.pr i=false) (h:tS K G0 W0 (aX i m) E σ H):sY (tE K G0 W0 m) (qy i) E σ H:=by
 refine h.use fun G W le ρ T g r ρ' w e q=>?_
 refine tE.seq le w e q.err fun ra ρ1 e1 v H1 ⟨Ts,g1,j,a1⟩=>?_
 obtain ⟨p,ρ2,g2,x,a,d,f1,f2,f4,b⟩:=a1.take j e1
 split at a
 ·rename_i hi
  cases a
  have:=d.store (f:=p.2) hi (by rw [le.pr];exact c) f2 f4
  rw [f1,b] at this
  exact q _ _ _ this
 ·exact nsE a
def bf (np:Nat) (m:EM):SM:=ad m fun r=>match r with
 | .val d f=>aN (.rt d f)
 | .pl i=>fun ρ=>match (ρ[i]?).join with
  | some (d,.u)=>if i < np then some (.ok (.rt d .z),lowAt i ρ) else some (.ok (.rt d .u),ρ.set i none)
  | some (d,_)=>some (.ok (.rt d .z),lowAt i ρ)
  | none=>none
def pW:SM:=aN (.rt .non .z)
theorem Wf.move {i:Nat} (w:Wf K G H σ ρ T g) (f:G.pr i=false) (e:g i=some y):Wf K G H σ (ρ.set i none) (y :: T) (fun j=>if j=i then none else g j):=by
 have hi:i < ρ.length:=by
  have:=w.sl i
  rw [e] at this
  exact c5 this.symm
 have val:∀ j u,(if j=i then none else g j)=some u->j ≠ i/\g j=some u:=fun j u h=>by
  by_cases q:j=i
  ·rw [if_pos q] at h;exact nsE h
  ·rw [if_neg q] at h;exact ⟨q,h⟩
 refine ⟨by rw [List.length_set];exact w.len,fun j=>?_,fun j u h=>w.sv j u (val j u h).2,fun j u h=>w.okS j u (val j u h).2,fun u hu=>?_,fun j k a b n h1 h2=>w.ss j k a b n (val j a h1).2 (val k b h2).2,fun j a h b c=>?_,?_,w.base,w.pro,⟨fun u hu hf a d=>?_,fun j u h=>w.fx.frS j u (val j u h).2,w.fx.bin,w.fx.ob,fun j u h=>w.fx.lvS j u (val j u h).2⟩⟩
 ·rw [bK hi]
  by_cases q:j=i
  ·rw [if_pos q,if_pos q];rfl
  ·rw [if_neg q,if_neg q];exact w.sl j
 ·rcases Bz.mp hu with h | hu
  ·rw [h];exact w.okS i y e
  ·exact w.okT u hu
 ·obtain ⟨n,h⟩:=val j a h
  rcases Bz.mp c with h' | c
  ·rw [h'];exact ⟨w.ss j i a y n h e,w.ss i j y a (Ne.symm n) e h⟩
  ·exact w.st j a h b c
 ·exact List.pairwise_cons.mpr ⟨fun u hu=>w.st i y e u hu,w.tt⟩
 ·rcases Bz.mp hu with h | hu
  ·subst h;exact w.fx.frS i u e f hf a d
  ·exact w.fx.frT u hu hf a d
theorem zj {np:Nat} (s:∀ i,np<=i->G0.pr i=false) (h:tS K G0 W0 (bf np m) E σ H):tRet (tE K G0 W0 m) E σ H:=by
 refine h.use fun G W le ρ T g r ρ' w e q=>?_
 refine tE.seq le w e q.err fun ra ρ1 e1 v H1 ⟨Ts,g1,k,a1⟩=>?_
 have low:∀ {i:Nat} {d:D} {f:Fl},(ρ1[i]?).join=some (d,f)->some ((.ok (.rt d .z),lowAt i ρ1):Except D Flw × Sto)=some (r,ρ')->Ar σ (.pl i) v Ts->E.rt v H1:=fun {i d f} b J a=>by
  cases J
  have F:ad (cL (.pl i)) (fun p=>aN (Flw.rt p.1 p.2)) ρ1=some (.ok (.rt d .z),L3.lowAt i ρ1):=by
   unfold ad
   rw [mw,b]
   rfl
  obtain ⟨p,ρ2,g2,x,j,n,f1,f2,_,A⟩:=a.take k F
  have c:Flw.rt p.1 p.2=Flw.rt d .z/\ρ2=L3.lowAt i ρ1:=by
   unfold aN at j
   injection j with j
   injection j with c o
   injection c with c
   exact ⟨c,o⟩
  obtain ⟨c,o⟩:=c
  injection c with e7 e8
  subst o
  rw [<- A]
  have C:=Wf.lowT (Ts:=[x]) n
  exact q (cI x) σ H1 g2 C (f1.trans e7) rfl
 cases a1 with
 | val x=>cases e1;exact q x σ H1 g1 k rfl rfl
 | @pl i v h =>
  dsimp only at e1
  cases b:(ρ1[i]?).join with
  | none=>rw [b] at e1;exact nsE e1
  | some p =>
   obtain ⟨d,f⟩:=p
   rw [b] at e1
   cases f with
   | u =>
    dsimp only at e1
    split at e1
    ·exact low b e1 (.pl h)
    ·cases e1
     obtain ⟨y,I,B,L,t⟩:=k.slot b
     have n:=Wf.move k (by rw [le.pr];exact s i (by omega)) I
     have:=q y σ H1 _ n B L
     rw [h] at t
     cases t
     exact this
   | l=>exact low b e1 (.pl h)
   | z=>exact low b e1 (.pl h)
def bN (c:M3 Bool) (b:SM):Nat->SM
 | 0=>fun _=>none
 | n+1=>ad c fun t=>if t then ad b (fun f=>match f with
   | .nx=>bN c b n
   | .ct=>bN c b n
   | .br=>aN .nx
   | .rt d f=>aN (.rt d f)) else aN .nx
def eR (c:M3 Bool) (b:SM):SM:=fun ρ=>open Classical in if h:∃ n r,bN c b n ρ=some r then some (Classical.choose (Classical.choose_spec h)) else none
theorem eM:∀ {n:Nat} {ρ:Sto} {r:Except D Flw × Sto},bN c b n ρ=some r->bN c b (n+1) ρ=some r
 | 0,ρ,r,e=>by cases e
 | n+1,ρ,r,e=>by
  unfold bN at e ⊢
  unfold ad at e ⊢
  cases h:c ρ with
  | none=>rw [h] at e;exact nsE e
  | some p =>
   obtain ⟨o,ρ1⟩:=p
   rw [h] at e
   cases o with
   | error x=>exact e
   | ok t =>
    cases t with
    | false=>exact e
    | true =>
     simp only [if_true] at e ⊢
     cases h2:b ρ1 with
     | none=>rw [h2] at e;exact nsE e
     | some p2 =>
      obtain ⟨a,ρ2⟩:=p2
      rw [h2] at e
      cases a with
      | error x=>exact e
      | ok f =>
       cases f with
       | nx=>exact eM (n:=n) e
       | ct=>exact eM (n:=n) e
       | br=>exact e
       | rt d f=>exact e
theorem iC {n m:Nat} (h:n<=m) (e:bN c b n ρ=some r):bN c b m ρ=some r:=by
 induction h with
 | refl=>exact e
 | step _ ih=>exact eM ih
theorem mK (e:eR c b ρ=some r):∃ n,bN c b n ρ=some r:=by
 unfold eR at e
 split at e
 ·rename_i h
  have a:=Classical.choose_spec (Classical.choose_spec h)
  injection e with e
  exact ⟨Classical.choose h,by rw [<- e];exact a⟩
 ·exact nsE e
theorem sV (h:tS K G0 W0 (eR c b) E σ H):sU (tT K G0 W0 c) (tS K G0 W0 b) E σ H:=by
 refine h.use fun G W le ρ T g r ρ' w e q=>?_
 obtain ⟨n,e⟩:=mK e
 refine ⟨fun m σ H=>∃ ρ g,Wf K G H σ ρ T g/\bN c b m ρ=some (r,ρ'),⟨n,ρ,g,w,e⟩,?_⟩
 rintro m σ1 H1 ⟨ρ1,g1,k,e1⟩
 cases m with
 | zero=>exact nsE e1
 | succ m =>
  unfold bN at e1
  refine tT.seq le k e1 q.err fun t ρ2 a H2 g2 i=>?_
  cases t with
  | false=>cases a;exact q _ _ _ i
  | true =>
   refine ⟨fun σ H=>∃ ρ g,Wf K G H σ ρ T g/\bN c b m ρ=some (r,ρ'),fun σ' H' h=>⟨m,Nat.lt_succ_self m,h⟩,?_⟩
   simp only [if_true] at a
   unfold ad at a
   cases p:b ρ2 with
   | none=>rw [p] at a;exact nsE a
   | some p2 =>
    obtain ⟨o,ρ3⟩:=p2
    rw [p] at a
    cases o with
    | error x=>cases a;exact tS.mk le i p q
    | ok f =>
     cases f with
     | nx=>exact tS.mk le (r:=.ok .nx) i p fun σ' H' g' j=>⟨ρ3,g',j,a⟩
     | ct=>exact tS.mk le (r:=.ok .ct) i p fun σ' H' g' j=>⟨ρ3,g',j,a⟩
     | br=>cases a;exact tS.mk le (r:=.ok .br) i p q
     | rt d f=>cases a;exact tS.mk le (r:=.ok (.rt d f)) i p q
end
end L3
end
section
namespace L3
open PySem L2
abbrev Fn:=List (D × Fl)->Option (Except D (D × Fl) × List (D × Fl))
def prs (ρ:Sto):List R3->Option (List (D × Fl))
 | []=>some []
 | .pl i :: rs=>match (ρ[i]?).join,prs ρ rs with
  | some p,some ps=>some (p :: ps)
  | _,_=>none
 | .val d f :: rs=>match prs ρ rs with
  | some ps=>some ((d,f) :: ps)
  | _=>none
def jn (rs:List R3):List Nat:=(pls rs).filter fun i=>decide (2<=(pls rs).count i)
def back:List R3->List (D × Fl)->List (D × Fl)->Sto->Sto
 | .pl i :: rs,p :: ps,q :: qs,ρ=>back rs ps qs (if p.2=.z then ρ else ρ.set i (some (q.1,if q.2=.z then .z else p.2)))
 | .val _ _ :: rs,_ :: ps,_ :: qs,ρ=>back rs ps qs ρ
 | _,_,_,ρ=>ρ
section
variable {K:FG} {G G0:Gm} {W W0:D->Sto->Prop} {H H':Hp} {σ:St} {ρ ρ':Sto} {T T':List It3} {g:Nat->Option It3} {x y z:It3} {α β:Type}
structure Back1 (K:FG) (H H':Hp) (ps:List It3) (p q:It3):Prop where
 z:p.f=.z->q=p
 v:q.v=p.v
 f:q.f=p.f\/q.f=.z
 arg:Arg K H' q
 src:∀ c ∈ q.L,H c=none\/cX ps c
 there:p.f=.u->∀ b,p.v=.ref b->∃ o,H' b=some o
structure BehindX (K:FG) (H H':Hp) (ps qs:List It3):Prop where
 frame:∀ b o,H b=some o->(∀ p ∈ ps,p.f=.u->p.v ≠ .ref b)->H' b=some o
 back:Paired (Back1 K H H' ps) ps qs
 apart:qs.Pairwise Apart3
structure Behind (K:FG) (H H':Hp) (ps qs:List It3) (x:It3):Prop extends BehindX K H H' ps qs where
 rep:Rep K H' x.d x.v x.L
 own:x.f ≠ .z->ie x.d=true/\∃ a L',x.v=.ref a/\x.L=a :: L'/\a ∉ L'/\H a=none
 src:∀ c ∈ x.L,H c=none\/cX ps c
 apx:∀ q ∈ qs,Apart3 x q
theorem Ars.args:∀ {rs:List R3} {E:List V} {Ts T:List It3} {c:List (D × Fl)},Ars σ rs E Ts->Wf K G H σ ρ (Ts ++ T) g->(∀ i,2<=(pls rs).count i->∀ y,g i=some y->y.f=.z)->prs ρ rs=some c ->
  ∃ ps:List It3,ps.map (fun p=>(p.d,p.f))=c/\ps.map (·.v)=E/\ps.Pairwise Apart3/\(∀ p ∈ ps,(∃ i,R3.pl i ∈ rs/\g i=some p)\/p ∈ Ts)/\Paired (fun r p=>match r with | .pl i=>g i=some p | .val _ _=>p ∈ Ts) rs ps
 | [],_,_,T,c,.nil,w,_,e=>by cases e;exact ⟨[],rfl,rfl,.nil,fun _ h=>(by cases h),.nil⟩
 | r :: rs,_,_,T,c,.cons (v:=v0) (Ts:=T0) (Us:=U0) a as,w,hd,e=>by
  have F:Wf K G H σ ρ (U0 ++ (T0 ++ T)) g:=by rw [<- List.append_assoc];exact w
  have o:∀ i,2<=(pls rs).count i->∀ y,g i=some y->y.f=.z:=fun i s=>hd i (by
   cases r with
   | pl j=>show 2<=(j :: pls rs).count i;rw [List.count_cons];omega
   | val _ _=>exact s)
  cases a with
  | @pl i v h =>
   unfold prs at e
   cases q:(ρ[i]?).join with
   | none=>rw [q] at e;exact nsE e
   | some p0 =>
    cases l:prs ρ rs with
    | none=>rw [q,l] at e;exact nsE e
    | some pfs' =>
     rw [q,l] at e
     cases e
     obtain ⟨ps,f1,f2,t,f4,B⟩:=Ars.args as F o l
     obtain ⟨y,n,I,L,C⟩:=w.slot (d:=p0.1) (f:=p0.2) q
     have J:y.v=v0:=by rw [h] at C;cases C;rfl
     refine ⟨y :: ps,by rw [BP,f1,I,L],by rw [BP,f2,J],List.pairwise_cons.mpr ⟨fun p b=>?_,t⟩,fun p b=>?_,.cons n ?_⟩
     ·rcases f4 p b with ⟨j,m,k⟩ | b
      ·by_cases A:i=j
       ·subst A
        have s:2<=(pls (R3.pl i :: rs)).count i:=by
         show 2<=(i :: pls rs).count i
         rw [List.count_cons_self]
         have:=List.count_pos_iff.mpr (jw m)
         omega
        have hz:=hd i s y n
        have u:=hd i s p k
        exact ⟨fun q=>absurd hz q,fun q=>absurd u q⟩
       ·exact ⟨w.ss i j y p A n k,w.ss j i p y (Ne.symm A) k n⟩
      ·exact w.st i y n p (Bx _ (Bx _ b))
     ·rcases Bz.mp b with h' | b
      ·rw [h'];exact .inl ⟨i,Bt,n⟩
      ·rcases f4 p b with ⟨j,m,k⟩ | b
       ·exact .inl ⟨j,Bu _ m,k⟩
       ·exact .inr (Bx _ b)
     ·exact Paired.mapP B fun r p h=>by
       cases r with
       | pl j=>exact h
       | val _ _=>exact Bx _ h
  | val x =>
   unfold prs at e
   cases l:prs ρ rs with
   | none=>rw [l] at e;exact nsE e
   | some pfs' =>
    rw [l] at e
    cases e
    obtain ⟨ps,f1,f2,t,f4,B⟩:=Ars.args as F o l
    refine ⟨x :: ps,by rw [BP,f1],by rw [BP,f2],List.pairwise_cons.mpr ⟨fun p b=>?_,t⟩,fun p b=>?_,.cons (By _ Bt) ?_⟩
    ·rcases f4 p b with ⟨j,m,k⟩ | b
     ·exact (w.st j p k x (Bx _ (By _ Bt))).symm
     ·have t1:=(List.pairwise_append.mp w.tt).1
      exact ((List.pairwise_append.mp t1).2.2 p b x Bt).symm
    ·rcases Bz.mp b with h' | b
     ·rw [h'];exact .inr (By _ Bt)
     ·rcases f4 p b with ⟨j,m,k⟩ | b
      ·exact .inl ⟨j,Bu _ m,k⟩
      ·exact .inr (Bx _ b)
    ·exact Paired.mapP B fun r p h=>by
      cases r with
      | pl j=>exact h
      | val _ _=>exact Bx _ h
theorem eI:∀ {rs:List R3} {ps qs:List It3} {ρ:Sto} {g:Nat->Option It3},(∀ j,(g j).map (fun x=>(x.d,x.f))=(ρ[j]?).join)->rs.length=ps.length->Paired (Back1 K H H' T) ps qs->(∀ i,R3.pl i ∈ rs->i < ρ.length) ->
  ∃ g':Nat->Option It3,(∀ j,(g' j).map (fun x=>(x.d,x.f))=((back rs (ps.map fun p=>(p.d,p.f)) (qs.map fun q=>(q.d,q.f)) ρ)[j]?).join)/\(back rs (ps.map fun p=>(p.d,p.f)) (qs.map fun q=>(q.d,q.f)) ρ).length = ρ.length /\
   ∀ j:Nat,(g' j=g j/\∀ (k:Nat) (p:It3),rs[k]?=some (R3.pl j)->ps[k]?=some p->p.f=.z)\/∃ (k:Nat) (p q:It3),rs[k]?=some (R3.pl j)/\ps[k]?=some p/\qs[k]?=some q/\p.f ≠ .z/\g' j=some q
 | [],[],_,ρ,g,hg,_,.nil,_=>⟨g,hg,rfl,fun j=>.inl ⟨rfl,fun k p h=>by simp at h⟩⟩
 | [],_ :: _,_,_,_,_,h,_,_=>by cases h
 | _ :: _,[],_,_,_,_,h,_,_=>by cases h
 | .val d f :: rs,p :: ps,_,ρ,g,hg,hl,.cons (b:=q) (l₂:=qs) b1 bs,hi=>by
  obtain ⟨g',h1,h2,h3⟩:=eI (rs:=rs) hg (by simpa using hl) bs fun i h=>hi i (Bu _ h)
  refine ⟨g',h1,h2,fun j=>?_⟩
  rcases h3 j with ⟨e,h⟩ | ⟨k,a,l,a1,a2,n,m⟩
  ·refine .inl ⟨e,fun k a e1 c=>?_⟩
   cases k with
   | zero=>simp at e1
   | succ k=>exact h k a (by simpa using e1) (by simpa using c)
  ·exact .inr ⟨k+1,a,l,by simpa using a1,by simpa using a2,by simpa using n,m⟩
 | .pl i :: rs,p :: ps,_,ρ,g,hg,hl,.cons (b:=q) (l₂:=qs) b1 bs,hi=>by
  have r:=hi i Bt
  by_cases hz:p.f=.z
  ·have s:back (.pl i :: rs) ((p :: ps).map fun p=>(p.d,p.f)) ((q :: qs).map fun q=>(q.d,q.f)) ρ=back rs (ps.map fun p=>(p.d,p.f)) (qs.map fun q=>(q.d,q.f)) ρ:=by
    show back rs _ _ (if p.f=.z then ρ else _)=_
    rw [if_pos hz]
   rw [s]
   obtain ⟨g',h1,h2,h3⟩:=eI (rs:=rs) hg (by simpa using hl) bs fun i h=>hi i (Bu _ h)
   refine ⟨g',h1,h2,fun j=>?_⟩
   rcases h3 j with ⟨e,h⟩ | ⟨k,a,l,a1,a2,n,m⟩
   ·refine .inl ⟨e,fun k a e1 c=>?_⟩
    cases k with
    | zero=>simp at c;rw [<- c];exact hz
    | succ k=>exact h k a (by simpa using e1) (by simpa using c)
   ·exact .inr ⟨k+1,a,l,by simpa using a1,by simpa using a2,by simpa using n,m⟩
  ·have s:back (.pl i :: rs) ((p :: ps).map fun p=>(p.d,p.f)) ((q :: qs).map fun q=>(q.d,q.f)) ρ=back rs (ps.map fun p=>(p.d,p.f)) (qs.map fun q=>(q.d,q.f)) (ρ.set i (some (q.d,q.f))):=by
    show back rs _ _ (if p.f=.z then ρ else ρ.set i (some (q.d,if q.f=.z then .z else p.f)))=_
    rw [if_neg hz]
    have:(if q.f=.z then Fl.z else p.f)=q.f:=by
     by_cases h:q.f=.z
     ·rw [if_pos h,h]
     ·rw [if_neg h]
      rcases b1.f with h' | h'
      ·exact h'.symm
      ·exact absurd h' h
    rw [this]
   rw [s]
   obtain ⟨g',h1,h2,h3⟩:=eI (rs:=rs) (ρ:=ρ.set i (some (q.d,q.f))) (g:=fun j=>if j=i then some q else g j) (fun j=>by
    rw [bK r]
    by_cases e:j=i
    ·rw [if_pos e,if_pos e];rfl
    ·rw [if_neg e,if_neg e];exact hg j) (by simpa using hl) bs fun i h=>by rw [List.length_set];exact hi i (Bu _ h)
   refine ⟨g',h1,by rw [h2,List.length_set],fun j=>?_⟩
   rcases h3 j with ⟨e,h⟩ | ⟨k,a,l,a1,a2,n,m⟩
   ·by_cases o:j=i
    ·rw [if_pos o] at e
     exact .inr ⟨0,p,q,by simp [o],rfl,rfl,hz,e⟩
    ·rw [if_neg o] at e
     refine .inl ⟨e,fun k a e1 c=>?_⟩
     cases k with
     | zero=>simp at e1;exact absurd e1.symm o
     | succ k=>exact h k a (by simpa using e1) (by simpa using c)
   ·exact .inr ⟨k+1,a,l,by simpa using a1,by simpa using a2,by simpa using n,m⟩
theorem lG:∀ {rs:List R3} {a:List (D × Fl)},prs ρ rs=some a->rs.length=a.length
 | [],a,e=>by cases e;rfl
 | .pl i :: rs,a,e=>by
  unfold prs at e
  cases q:(ρ[i]?).join with
  | none=>rw [q] at e;exact nsE e
  | some p =>
   cases b:prs ρ rs with
   | none=>rw [q,b] at e;exact nsE e
   | some ps=>rw [q,b] at e;cases e;rw [BW,BW,lG b]
 | .val d f :: rs,a,e=>by
  unfold prs at e
  cases b:prs ρ rs with
  | none=>rw [b] at e;exact nsE e
  | some ps=>rw [b] at e;cases e;rw [BW,BW,lG b]
theorem oN:∀ {rs:List R3} {a:List (D × Fl)},prs ρ rs=some a->∀ i,R3.pl i ∈ rs->i < ρ.length
 | [],a,e,i,h=>by cases h
 | .pl i :: rs,a,e,j,h=>by
  unfold prs at e
  cases q:(ρ[i]?).join with
  | none=>rw [q] at e;exact nsE e
  | some p =>
   cases b:prs ρ rs with
   | none=>rw [q,b] at e;exact nsE e
   | some ps =>
    rcases Bz.mp h with h | h
    ·cases h;exact c5 q
    ·exact oN b j h
 | .val d f :: rs,a,e,j,h=>by
  unfold prs at e
  cases b:prs ρ rs with
  | none=>rw [b] at e;exact nsE e
  | some ps =>
   rcases Bz.mp h with h | h
   ·cases h
   ·exact oN b j h
theorem Paired.at:∀ {l:List α} {m:List β} {k:Nat} {a:α} {b:β},Paired F l m->l[k]?=some a->m[k]?=some b->F a b
 | _,_,_,_,_,.nil,h,_=>by simp at h
 | _,_,0,_,_,.cons r _,h,h'=>by simp at h h';subst h h';exact r
 | _,_,k+1,_,_,.cons _ t,h,h'=>Paired.at (k:=k) t (by simpa using h) (by simpa using h')
theorem Paired.exL:∀ {l:List α} {m:List β} {k:Nat} {a:α},Paired F l m->l[k]?=some a->∃ b,m[k]?=some b/\F a b
 | _,_,_,_,.nil,h=>by simp at h
 | _,_,0,_,.cons r _,h=>by simp at h;subst h;exact ⟨_,rfl,r⟩
 | _,_,k+1,_,.cons _ t,h=>let ⟨b,h1,h2⟩:=Paired.exL (k:=k) t (by simpa using h);⟨b,by simpa using h1,h2⟩
theorem Paired.exR:∀ {l:List α} {m:List β} {k:Nat} {b:β},Paired F l m->m[k]?=some b->∃ a,l[k]?=some a/\F a b
 | _,_,_,_,.nil,h=>by simp at h
 | _,_,0,_,.cons r _,h=>by simp at h;subst h;exact ⟨_,rfl,r⟩
 | _,_,k+1,_,.cons _ t,h=>let ⟨b,h1,h2⟩:=Paired.exR (k:=k) t (by simpa using h);⟨b,by simpa using h1,h2⟩
theorem cO {R:α->α->Prop} {l:List α} (p:l.Pairwise R) (f:∀ a b,R a b->R b a) {i j:Nat} {a b:α} (n:i ≠ j) (d:l[i]?=some a) (e:l[j]?=some b):R a b:=by
 obtain ⟨h1,e1⟩:=BG.mp d
 obtain ⟨h2,c⟩:=BG.mp e
 have q:=List.pairwise_iff_getElem.mp p
 rcases Nat.lt_or_ge i j with h | h
 ·rw [<- e1,<- c];exact q i j h1 h2 h
 ·rw [<- e1,<- c];exact f _ _ (q j i h2 h1 (by omega))
theorem Wf.after (w:Wf K G H σ ρ (Ts ++ T) g) (e:prs ρ rs=some pfs) (f1:ps.map (fun p=>(p.d,p.f))=pfs) (f4:∀ p ∈ ps,(∃ i,R3.pl i ∈ rs/\g i=some p)\/p ∈ Ts) (f5:Paired (fun r p=>match r with | .pl i=>g i=some p | .val _ _=>p ∈ Ts) rs ps) (B:BehindX K H H' ps qs) :
  ∃ g',Wf K G H' σ (L3.back rs pfs (qs.map fun q=>(q.d,q.f)) ρ) T g' /\
   ∀ x,Rep K H' x.d x.v x.L->(x.f ≠ .z->ie x.d=true/\∃ a L',x.v=.ref a/\x.L=a :: L'/\a ∉ L'/\H a=none)->(∀ c ∈ x.L,H c=none\/cX ps c)->(∀ q ∈ qs,Apart3 x q)->Wf K G H' σ (L3.back rs pfs (qs.map fun q=>(q.d,q.f)) ρ) (x :: T) g':=by
 subst f1
 have W:rs.length=ps.length:=by have:=lG e;rwa [BF] at this
 obtain ⟨g',h1,h2,h3⟩:=eI (K:=K) (H:=H) (H':=H') (T:=ps) (rs:=rs) (ps:=ps) (qs:=qs) w.sl W B.back (oN e)
 have F:∀ p ∈ ps,Itm (Ts ++ T) g p:=fun p l=>by
  rcases f4 p l with ⟨i,_,Q⟩ | h
  ·exact .inl ⟨i,Q⟩
  ·exact .inr (Bx _ h)
 have X:∀ b o,H b=some o->∃ o',H' b=some o':=fun b o U=>by
  by_cases h:∀ p ∈ ps,p.f=.u->p.v ≠ .ref b
  ·exact ⟨o,B.frame b o U h⟩
  ·have h':∃ p,p ∈ ps/\p.f=.u/\p.v=.ref b:=by
    refine Classical.byContradiction fun n=>h fun p l hf J=>n ⟨p,l,hf,J⟩
   obtain ⟨p,l,hf,J⟩:=h'
   obtain ⟨k,hk,ek⟩:=List.mem_iff_getElem.mp l
   obtain ⟨q,e1,b1⟩:=Paired.exL B.back (show ps[k]?=some p by rw [BA hk,ek])
   exact b1.there hf b J
 have ka:∀ j z,g j=some z->(∀ (k:Nat) (p:It3),rs[k]?=some (R3.pl j)->ps[k]?=some p->p.f=.z)->∀ p ∈ ps,Apart3 p z:=fun j z ej hu p l=>by
  rcases f4 p l with ⟨i,hi,Q⟩ | h
  ·by_cases ij:i=j
   ·subst ij
    have ar:p=z:=Ce (Q.symm.trans ej)
    subst ar
    have hz:p.f=.z:=by
     obtain ⟨k,hk,ek⟩:=List.mem_iff_getElem.mp hi
     have Z:rs[k]?=some (R3.pl i):=by rw [BA hk,ek]
     obtain ⟨A,e1,D⟩:=Paired.exL f5 Z
     have D:g i=some A:=D
     rw [Q] at D
     cases D
     exact hu k p Z e1
    exact ⟨fun q=>absurd hz q,fun q=>absurd hz q⟩
   ·exact ⟨w.ss i j p z ij Q ej,w.ss j i z p (Ne.symm ij) ej Q⟩
  ·exact (w.st j z ej p (Bx _ h)).symm
 have kt:∀ z ∈ T,∀ p ∈ ps,Apart3 p z:=fun z hz p l=>by
  rcases f4 p l with ⟨i,hi,Q⟩ | h
  ·exact w.st i p Q z (By _ hz)
  ·exact (List.pairwise_append.mp w.tt).2.2 p h z hz
 have keep:∀ z,ItOk K G H z->(∀ p ∈ ps,Apart3 p z)->ItOk K G H' z:=fun z P V=>by
  refine P.keep (M:=fun b=>∃ p ∈ ps,p.f=.u/\p.v=.ref b) (fun b o U n=>B.frame b o U fun p l hf J=>n ⟨p,l,hf,J⟩) (fun b ⟨p,l,hf,J⟩=>?_) (fun b U ⟨p,l,hf,J⟩=>?_)
  ·obtain ⟨_,a,L',e1,D,_⟩:=(w.itm (F p l)).own (by rw [hf];intro q;cases q)
   rw [J] at e1
   cases e1
   exact (w.itm (F p l)).rep.inH b (by rw [D];exact Bt)
  ·exact (V p l).1 (by rw [hf];intro q;cases q) b J U
 have ab:∀ k p q,ps[k]?=some p->qs[k]?=some q->ItOk K G H' q:=fun k p q e1 D=>by
  have b:=Paired.at B.back e1 D
  refine ⟨b.arg.rep,fun hf=>?_,fun c R=>?_⟩
  ·obtain ⟨m,a,L',v1,v2,v3⟩:=b.arg.own hf
   refine ⟨m,a,L',v1,v2,v3,fun hu=>?_⟩
   have pf:p.f=.u:=by
    rcases b.f with h | h
    ·rw [<- h];exact hu
    ·rw [h] at hu;cases hu
   obtain ⟨_,a',a0,e3,_,_,e5⟩:=(w.itm (F p (BH e1))).own (by rw [pf];intro q;cases q)
   rw [<- b.v,v1] at e3
   cases e3
   exact e5 pf
  ·rcases b.src c R with h | ⟨A,C,h⟩
   ·exact .inl (w.h0none h)
   ·exact (w.itm (F A C)).src c h
 have kq:∀ z,ItOk K G H z->(∀ p ∈ ps,Apart3 p z)->∀ k p q,ps[k]?=some p->qs[k]?=some q->Apart3 z q:=fun z P V k p q e1 D=>by
  have b:=Paired.at B.back e1 D
  refine ⟨fun hf a ev hm=>?_,fun hf a ev=>?_⟩
  ·rcases b.src a hm with h | ⟨A,C,R⟩
   ·obtain ⟨_,a',L',s,O,_⟩:=P.own hf
    rw [ev] at s;cases s
    obtain ⟨o,I⟩:=(P.rep.inH a (by rw [O];exact Bt)).ex
    rw [h] at I;exact nsE I
   ·exact (V A C).2 hf a ev R
  ·have pf:p.f ≠ .z:=fun Y=>by
    have:=b.z Y
    rw [this] at hf
    exact hf Y
   exact (V p (BH e1)).1 pf a (by rw [<- b.v];exact ev)
 have old:∀ j z,g' j=some z->(g j=some z/\∀ p ∈ ps,Apart3 p z)\/∃ k p,rs[k]?=some (R3.pl j)/\ps[k]?=some p/\qs[k]?=some z:=fun j z E=>by
  rcases h3 j with ⟨e1,hu⟩ | ⟨k,p,q,a1,a2,y,_,a5⟩
  ·rw [e1] at E
   exact .inl ⟨E,ka j z E hu⟩
  ·rw [a5] at E
   cases E
   exact .inr ⟨k,p,a1,a2,y⟩
 have wf:Wf K G H' σ (L3.back rs (ps.map fun p=>(p.d,p.f)) (qs.map fun q=>(q.d,q.f)) ρ) T g':=by
  refine ⟨by rw [h2];exact w.len,h1,fun j z E=>?_,fun j z E=>?_,fun z hz=>keep z (w.okT z (By _ hz)) (kt z hz),fun i j a b n S eb=>?_,fun j z E t N=>?_,(List.pairwise_append.mp w.tt).2.1,fun b o e n=>?_,w.pro,⟨fun u hu=>w.fx.frT u (By _ hu),fun j u h l hf a S=>?_,fun b U=>?_,fun b o h=>?_,fun j u h W=>?_⟩⟩
  ·rcases old j z E with ⟨e1,_⟩ | ⟨k,p,a1,a2,y⟩
   ·exact w.sv j z e1
   ·have ep:g j=some p:=by
     obtain ⟨A,s,O⟩:=Paired.exL f5 a1
     rw [a2] at s;cases s
     exact O
    rw [(Paired.at B.back a2 y).v]
    exact w.sv j p ep
  ·rcases old j z E with ⟨e1,ap⟩ | ⟨k,p,a1,a2,y⟩
   ·exact keep z (w.okS j z e1) ap
   ·exact ab k p z a2 y
  ·rcases old i a S with ⟨e1,ap⟩ | ⟨k,p,a1,a2,y⟩
   ·rcases old j b eb with ⟨D,_⟩ | ⟨k',A,b1,b2,b3⟩
    ·exact w.ss i j a b n e1 D
    ·exact (kq a (w.okS i a e1) ap k' A b b2 b3).1
   ·rcases old j b eb with ⟨D,ap⟩ | ⟨k',A,b1,b2,b3⟩
    ·exact (kq b (w.okS j b D) ap k p a a2 y).2
    ·have kk:k ≠ k':=fun z=>by
      subst z
      rw [a1] at b1
      cases b1
      exact n rfl
     exact (cO B.apart (fun _ _=>Apart3.symm) kk y b3).1
  ·rcases old j z E with ⟨e1,ap⟩ | ⟨k,p,a1,a2,y⟩
   ·exact w.st j z e1 t (By _ N)
   ·exact (kq t (w.okT t (By _ N)) (kt t N) k p z a2 y).symm
  ·refine B.frame b o (w.base b o e n) fun p l hf J=>?_
   obtain ⟨_,a,L',e1,_,_,e3⟩:=(w.itm (F p l)).own (by rw [hf];intro q;cases q)
   rw [J] at e1
   cases e1
   rcases e3 hf with h | h
   ·rw [e] at h;cases h
   ·exact n h
  ·rcases old j u h with ⟨e1,_⟩ | ⟨k,p,a1,a2,y⟩
   ·exact w.fx.frS j u e1 l hf a S
   ·have b:=Paired.at B.back a2 y
    have ep:g j=some p:=by
     obtain ⟨A,s,O⟩:=Paired.exL f5 a1
     rw [a2] at s;cases s
     exact O
    refine w.fx.frS j p ep l (fun Y=>?_) a (by rw [<- b.v];exact S)
    have:=b.z Y
    rw [this] at hf
    exact hf Y
  ·obtain ⟨o,I⟩:=w.fx.bin b U
   exact X b o I
  ·obtain ⟨o',I⟩:=w.fx.ob b o h
   exact X b o' I
  ·rcases old j u h with ⟨e1,_⟩ | ⟨k,p,a1,a2,y⟩
   ·exact w.fx.lvS j u e1 W
   ·have b:=Paired.at B.back a2 y
    have ep:g j=some p:=by
     obtain ⟨A,s,O⟩:=Paired.exL f5 a1
     rw [a2] at s;cases s
     exact O
    rw [b.v]
    refine w.fx.lvS j p ep ?_
    rcases b.f with h | h
    ·rw [<- h];exact W
    ·rw [h] at W;cases W
 refine ⟨g',wf,fun x rx ox sx ax=>?_⟩
 have kx:∀ z,ItOk K G H z->(∀ p ∈ ps,Apart3 p z)->Apart3 z x:=fun z P V=>by
  refine ⟨fun hf a ev hm=>?_,fun hf a ev hm=>?_⟩
  ·rcases sx a hm with h | ⟨A,C,R⟩
   ·obtain ⟨_,a',L',s,O,_⟩:=P.own hf
    rw [ev] at s;cases s
    obtain ⟨o,I⟩:=(P.rep.inH a (by rw [O];exact Bt)).ex
    rw [h] at I;exact nsE I
   ·exact (V A C).2 hf a ev R
  ·obtain ⟨_,a',L',s,_,_,q4⟩:=ox hf
   rw [ev] at s;cases s
   obtain ⟨o,I⟩:=(P.rep.inH a hm).ex
   rw [q4] at I;exact nsE I
 refine ⟨wf.len,wf.sl,wf.sv,wf.okS,fun z hz=>?_,wf.ss,fun j z E t N=>?_,?_,wf.base,wf.pro,⟨fun u hu hf a S=>?_,wf.fx.frS,wf.fx.bin,wf.fx.ob,wf.fx.lvS⟩⟩
 ·rcases Bz.mp hz with h | hz
  ·rw [h]
   refine ⟨rx,fun hf=>?_,fun c R=>?_⟩
   ·obtain ⟨m,a,L',v1,v2,v3,v4⟩:=ox hf
    exact ⟨m,a,L',v1,v2,v3,fun _=>.inl (w.h0none v4)⟩
   ·rcases sx c R with h | ⟨A,C,h⟩
    ·exact .inl (w.h0none h)
    ·exact (w.itm (F A C)).src c h
  ·exact wf.okT z hz
 ·rcases Bz.mp N with h | N
  ·rw [h]
   rcases old j z E with ⟨e1,ap⟩ | ⟨k,p,a1,a2,y⟩
   ·exact kx z (w.okS j z e1) ap
   ·exact (ax z (BH y)).symm
  ·exact wf.st j z E t N
 ·exact List.pairwise_cons.mpr ⟨fun t N=>(kx t (w.okT t (By _ N)) (kt t N)).symm,wf.tt⟩
 ·rcases Bz.mp hu with h | hu
  ·subst h
   obtain ⟨_,a',L',s,_,_,q4⟩:=ox hf
   rw [S] at s;cases s
   exact w.ornone q4
  ·exact wf.fx.frT u hu hf a S
theorem o8 {i a:Nat} (h:(ρ[i]?).join=none):((L3.lowAt a ρ)[i]?).join=none:=by
 unfold L3.lowAt
 split
 ·rename_i d hd
  rw [bK (c5 hd)]
  by_cases b:i=a
  ·subst b;rw [h] at hd;exact nsE hd
  ·rw [if_neg b];exact h
 ·rename_i d hd
  rw [bK (c5 hd)]
  by_cases b:i=a
  ·subst b;rw [h] at hd;exact nsE hd
  ·rw [if_neg b];exact h
 ·exact h
theorem nF {i:Nat}:∀ {is:List Nat} {ρ:Sto},(ρ[i]?).join=none->((L3.frz is ρ)[i]?).join=none
 | [],ρ,h=>h
 | a :: is,ρ,h=>nF (is:=is) (ρ:=L3.lowAt a ρ) (o8 h)
end
end L3
end
section
namespace L3
open PySem L2
def eF (ρ:Sto):Nat->List (D × Fl)->Option (List (D × Fl))
 | _,[]=>some []
 | i,(d,.z) :: ps=>(eF ρ (i+1) ps).map fun r=>(d,.z) :: r
 | i,(d,f) :: ps=>match (ρ[i]?).join,eF ρ (i+1) ps with
  | some (d',f'),some r=>if f'=f\/f'=.z then some ((d',f') :: r) else none
  | _,_=>none
def fk (n:Nat) (ps:List (D × Fl)):Sto:=ps.map some ++ List.replicate (n - ps.length) none
def fn0 (n:Nat) (b:SM):Fn:=fun ps=>match b (fk n ps) with
 | some (.ok .nx,ρ')=>(eF ρ' 0 ps).map fun fs=>(.ok (.non,.z),fs)
 | some (.ok (.rt d f),ρ')=>(eF ρ' 0 ps).map fun fs=>(.ok (d,f),fs)
 | some (.error e,ρ')=>(eF ρ' 0 ps).map fun fs=>(.error e,fs)
 | _=>none
def nz (b:Bool) (p:D × Fl):D × Fl:=if b then (p.1,.z) else p
noncomputable def fnM (mask:List Bool) (n:Nat) (b:SM):Fn:=fun ps=>if ps.length=mask.length then fn0 n b (List.zipWith nz mask ps) else none
section
variable {K:FG} {G:Gm} {W:D->Sto->Prop} {H H':Hp} {σ:St} {ρ ρ':Sto} {T T':List It3} {g:Nat->Option It3} {x y z:It3} {α β:Type}
def gOf (H:Hp) (pr:Nat->Bool) (σ0:St) (ps:List It3):Gm:=⟨H,fun b=>∃ p ∈ ps,p.f=.u/\p.v=.ref b,pr,σ0,H,cX ps,fun i=>(ps[i]?).map (·.v)⟩
theorem sh {n:Nat} (a:ps.length<=n) (i:Nat):((fk n ps)[i]?).join=ps[i]?:=by
 unfold fk
 by_cases h:i < ps.length
 ·rw [B4 (by simpa using h),BK]
  cases ps[i]? <;> rfl
 ·rw [List.getElem?_append_right (by simpa using h),List.getElem?_replicate,List.getElem?_eq_none (by omega)]
  split <;> rfl
theorem kz {n:Nat} {a:List V} {i:Nat} (h:a[i]?=some v):(a.map some ++ List.replicate n (none:Option V))[i]?=some (some v):=by
 obtain ⟨hi,e⟩:=BG.mp h
 rw [B4 (by simpa using hi),BK,h]
 rfl
theorem sN {n:Nat} (t:ps.length<=n) (g:∀ p ∈ ps,Arg K H p) (r:ps.Pairwise Apart3) (k:∀ (i:Nat) (p:It3),ps[i]?=some p->p.f ≠ .z->pr i=true) :
  Wf K (gOf H pr ((ps.map (·.v)).map some ++ List.replicate (n - (ps.map (·.v)).length) none) ps) H ((ps.map (·.v)).map some ++ List.replicate (n - (ps.map (·.v)).length) none) (fk n (ps.map fun p=>(p.d,p.f))) [] (fun i=>ps[i]?):=by
 refine ⟨?_,fun i=>?_,fun i x e=>?_,fun i x e=>?_,fun _ h=>(by cases h),fun i j a b n w s=>?_,fun _ _ _ _ h=>(by cases h),.nil,fun b o e _=>e,fun i _=>rfl,⟨fun _ h=>(by cases h),fun i x e hz hf=>?_,fun b h=>?_,fun b o e=>⟨o,e⟩,fun i x e _=>(by show (ps[i]?).map (·.v)=_;rw [e];rfl)⟩⟩
 ·unfold fk;simp
 ·rw [sh (by simpa using t),BK]
 ·exact kz (by rw [BK,e];rfl)
 ·have hm:=BH e
  refine ⟨(g x hm).rep,fun hf=>?_,fun c l=>.inr ⟨x,hm,l⟩⟩
  obtain ⟨m,a,L',v1,v2,v3⟩:=(g x hm).own hf
  exact ⟨m,a,L',v1,v2,v3,fun hu=>.inr ⟨x,hm,hu,v1⟩⟩
 ·exact (cO r (fun _ _=>Apart3.symm) n w s).1
 ·have hz:pr i=false:=hz
  rw [k i x e hf] at hz;cases hz
 ·obtain ⟨p,hm,hf,u⟩:=h
  obtain ⟨_,a,L',v1,v2,_⟩:=(g p hm).own (by rw [hf];intro q;cases q)
  rw [u] at v1;cases v1
  exact ((g p hm).rep.inH b (by rw [v2];exact Bt)).ex
def FinsOk (ρ:Sto) (i:Nat) (ps fs:List (D × Fl)):Prop:=fs.length=ps.length/\∀ (k:Nat) (p:D × Fl),ps[k]?=some p->∃ q,fs[k]?=some q/\(p.2=.z->q=p)/\(p.2 ≠ .z->(ρ[i+k]?).join=some q/\(q.2=p.2\/q.2=.z))
theorem FinsOk.cons {i:Nat} {e d:D × Fl} {ps fs:List (D × Fl)} (h:FinsOk ρ (i+1) ps fs) (hz:e.2=.z->d=e) (g:e.2 ≠ .z->(ρ[i]?).join=some d/\(d.2=e.2\/d.2=.z)):FinsOk ρ i (e :: ps) (d :: fs):=by
 refine ⟨by rw [BW,BW,h.1],fun k p f=>?_⟩
 cases k with
 | zero=>cases f;exact ⟨d,rfl,hz,g⟩
 | succ k =>
  obtain ⟨q,a,b,c⟩:=h.2 k p f
  exact ⟨q,a,b,fun n=>by have:=c n;rwa [show i+1+k=i+(k+1) by omega] at this⟩
theorem iS:∀ {i:Nat} {ps:List (D × Fl)} {fs:List (D × Fl)},eF ρ i ps=some fs->FinsOk ρ i ps fs
 | i,[],fs,e=>by cases e;exact ⟨rfl,fun k p h=>by cases h⟩
 | i,p0 :: ps,fs,e=>by
  obtain ⟨d,f⟩:=p0
  have key:f ≠ .z->(match (ρ[i]?).join,eF ρ (i+1) ps with
    | some (d',a),some r=>if a=f\/a=.z then some ((d',a) :: r) else none
    | _,_=>none)=some fs->FinsOk ρ i ((d,f) :: ps) fs:=fun hf e=>by
   cases h:(ρ[i]?).join with
   | none=>rw [h] at e;exact nsE e
   | some p0 =>
    cases h2:eF ρ (i+1) ps with
    | none=>rw [h,h2] at e;exact nsE e
    | some r =>
     rw [h,h2] at e
     obtain ⟨d',a⟩:=p0
     dsimp only at e
     rcases Decidable.em (a=f\/a=.z) with b | b
     ·rw [if_pos b] at e
      cases e
      exact (iS h2).cons (fun z=>absurd z hf) fun _=>⟨h,b⟩
     ·rw [if_neg b] at e;exact nsE e
  cases f with
  | z =>
   obtain ⟨r,h,h'⟩:=Bw.mp (show (eF ρ (i+1) ps).map (fun r=>(d,Fl.z) :: r)=some fs from e)
   subst h'
   exact (iS h).cons (fun _=>rfl) fun n=>absurd rfl n
  | u=>exact key (by intro q;cases q) e
  | l=>exact key (by intro q;cases q) e
theorem jc {P:Nat->α->β->Prop}:∀ (l:List α) (i:Nat),(∀ (k:Nat) a,l[k]?=some a->∃ b,P (i+k) a b)->∃ m:List β,m.length=l.length/\∀ (k:Nat) a,l[k]?=some a->∃ b,m[k]?=some b/\P (i+k) a b
 | [],i,_=>⟨[],rfl,fun k a h=>by simp at h⟩
 | a :: l,i,h=>by
  obtain ⟨b,d⟩:=h 0 a rfl
  obtain ⟨m,h1,h2⟩:=jc l (i+1) fun k a e=>by
   have:=h (k+1) a (by simpa using e)
   rwa [show i+(k+1)=i+1+k by omega] at this
  refine ⟨b :: m,by simp [h1],fun k c e=>?_⟩
  cases k with
  | zero=>simp at e;subst e;exact ⟨b,rfl,d⟩
  | succ k =>
   obtain ⟨f,e1,g⟩:=h2 k c (by simpa using e)
   exact ⟨f,by simpa using e1,by rwa [show i+(k+1)=i+1+k by omega]⟩
theorem Paired.ofGet:∀ {l:List α} {m:List β},l.length=m.length->(∀ (k:Nat) a b,l[k]?=some a->m[k]?=some b->F a b)->Paired F l m
 | [],[],_,_=>.nil
 | [],_ :: _,h,_=>by cases h
 | _ :: _,[],h,_=>by cases h
 | a :: l,b :: m,h,f=>.cons (f 0 a b rfl rfl) (Paired.ofGet (by simpa using h) fun k a b e1 c=>f (k+1) a b (by simpa using e1) (by simpa using c))
theorem nZ {n:Nat} {pr:Nat->Bool} {σ0:St} {ps:List It3} {fs:List (D × Fl)} (C:∀ p ∈ ps,Arg K H p) (I:ps.Pairwise Apart3) (V:∀ (i:Nat) (p:It3),ps[i]?=some p->p.f ≠ .z->pr i=true) (h0:∀ (i:Nat) (p:It3),ps[i]?=some p->σ0[i]?=some (some p.v))
  (w:Wf K (gOf H pr σ0 ps) H' σ ρ T g) (e:eF ρ 0 (ps.map fun p=>(p.d,p.f))=some fs) :
  ∃ qs,BehindX K H H' ps qs/\qs.map (fun q=>(q.d,q.f))=fs/\(∀ (k:Nat) (p q:It3),ps[k]?=some p->qs[k]?=some q->(p.f=.z/\q=p)\/(p.f ≠ .z/\g k=some q)):=by
 obtain ⟨hl,hs⟩:=iS e
 rw [BF] at hl
 have frame:∀ b o,H b=some o->(∀ p ∈ ps,p.f=.u->p.v ≠ .ref b)->H' b=some o:=fun b o x Q=>w.base b o x fun ⟨p,hm,hf,t⟩=>Q p hm hf t
 have there:∀ b o,H b=some o->∃ o',H' b=some o':=fun b o x=>w.fx.ob b o x
 have E:∀ (k:Nat) (p:It3),ps[k]?=some p->p.f=.z->Rep K H' p.d p.v p.L:=fun k p l hz=>by
  refine (C p (BH l)).rep.keep (M:=fun b=>∃ p ∈ ps,p.f=.u/\p.v=.ref b) (fun b o x Q=>frame b o x fun p I hf t=>Q ⟨p,I,hf,t⟩) (fun b ⟨B,hm,hf,t⟩=>?_) fun b x ⟨B,hm,hf,t⟩=>?_
  ·obtain ⟨_,a,L',v1,v2,_⟩:=(C B hm).own (by rw [hf];intro q;cases q)
   rw [t] at v1;cases v1
   exact (C B hm).rep.inH b (by rw [v2];exact Bt)
  ·obtain ⟨j,U,J⟩:=List.mem_iff_getElem.mp hm
   have A:ps[j]?=some B:=by rw [BA U,J]
   have jk:j ≠ k:=fun z=>by subst z;rw [l] at A;cases A;rw [hz] at hf;cases hf
   exact (cO I (fun _ _=>Apart3.symm) jk A l).1 (by rw [hf];intro q;cases q) b t x
 have one:∀ (k:Nat) (p:It3),ps[k]?=some p->∃ q,(q.d,q.f)=(fs[k]?).getD (p.d,p.f)/\fs[k]?=some (q.d,q.f)/\Back1 K H H' ps p q/\((p.f=.z/\q=p)\/(p.f ≠ .z/\g k=some q)):=fun k p l=>by
  have hm:=BH l
  obtain ⟨Z,f1,f2,f3⟩:=hs k (p.d,p.f) (by rw [BK,l];rfl)
  by_cases hz:p.f=.z
  ·have:=f2 hz
   subst this
   refine ⟨p,by rw [f1];rfl,f1,⟨fun _=>rfl,rfl,.inl rfl,⟨E k p l hz,fun h=>absurd hz h⟩,fun c N=>.inr ⟨p,hm,N⟩,fun h=>?_⟩,.inl ⟨hz,rfl⟩⟩
   rw [hz] at h;cases h
  ·obtain ⟨h1,h2⟩:=f3 hz
   rw [BT] at h1
   obtain ⟨y,y1,Y,O,y4⟩:=w.slot (d:=Z.1) (f:=Z.2) h1
   have t:y.v=p.v:=by
    have:=w.pro k (V k p l hz)
    rw [y4] at this
    have h0:some (some y.v)=some (some p.v):=this.trans (h0 k p l)
    injection h0 with h0
    injection h0
   have ok:=w.okS k y y1
   refine ⟨y,by rw [f1,Y,O];rfl,by rw [f1,Y,O],⟨fun h=>absurd h hz,t,by rw [O];exact h2,⟨ok.rep,fun hf=>?_⟩,fun c N=>ok.src c N,fun hf b x=>?_⟩,.inr ⟨hz,y1⟩⟩
   ·obtain ⟨m,a,L',v1,v2,v3,_⟩:=ok.own hf
    exact ⟨m,a,L',v1,v2,v3⟩
   ·obtain ⟨_,a,L',v1,v2,_⟩:=(C p hm).own hz
    rw [x] at v1;cases v1
    obtain ⟨o,ho⟩:=((C p hm).rep.inH b (by rw [v2];exact Bt)).ex
    exact there b o ho
 obtain ⟨qs,hq,G⟩:=jc (P:=fun k p q=>fs[k]?=some (q.d,q.f)/\Back1 K H H' ps p q/\((p.f=.z/\q=p)\/(p.f ≠ .z/\g k=some q))) ps 0 fun k p l=>by
  obtain ⟨q,_,a,b,c⟩:=one k p l
  exact ⟨q,by simpa using ⟨a,b,c⟩⟩
 have get:∀ (k:Nat) (p q:It3),ps[k]?=some p->qs[k]?=some q->fs[k]?=some (q.d,q.f)/\Back1 K H H' ps p q/\((p.f=.z/\q=p)\/(p.f ≠ .z/\g k=some q)):=fun k p q s eq=>by
  obtain ⟨q',e1,e2⟩:=G k p s
  rw [eq] at e1
  cases e1
  simpa using e2
 have par:∀ (k:Nat) (q:It3),qs[k]?=some q->∃ p,ps[k]?=some p:=fun k q e=>by
  have X:=(BG.mp e).1
  exact ⟨ps[k]'(by omega),by simp [show k < ps.length by omega]⟩
 refine ⟨qs,⟨frame,Paired.ofGet hq.symm fun k p q s eq=>(get k p q s eq).2.1,?_⟩,?_,fun k p q s eq=>(get k p q s eq).2.2⟩
 ·rw [List.pairwise_iff_getElem]
  intro k j X U lt
  have l:qs[k]?=some qs[k]:=BA X
  have J:qs[j]?=some qs[j]:=BA U
  have side:∀ (k j:Nat) (q r:It3),k ≠ j->qs[k]?=some q->qs[j]?=some r->NoRoot q r:=fun k j q r n eq W=>by
   obtain ⟨p,s⟩:=par k q eq
   obtain ⟨B,F⟩:=par j r W
   obtain ⟨_,b,c⟩:=get k p q s eq
   obtain ⟨_,b',c'⟩:=get j B r F W
   rcases c with ⟨hz,e⟩ | ⟨hz,e⟩
   ·rw [e];exact fun h=>absurd hz h
   ·rcases c' with ⟨R,S⟩ | ⟨R,S⟩
    ·rw [S]
     intro hf a ea
     exact (cO I (fun _ _=>Apart3.symm) n s F).1 hz a (by rw [<- b.v];exact ea)
    ·exact w.ss k j q r n e S
  exact ⟨side k j _ _ (BN lt) l J,side j k _ _ (Nat.ne_of_gt lt) J l⟩
 ·refine List.ext_getElem? fun k=>?_
  rw [BK]
  cases eq:qs[k]? with
  | none =>
   have:qs.length<=k:=List.getElem?_eq_none_iff.mp eq
   rw [List.getElem?_eq_none (by omega)]
   rfl
  | some q =>
   obtain ⟨p,s⟩:=par k q eq
   rw [(get k p q s eq).1]
   rfl
theorem pJ {n:Nat} {pr:Nat->Bool} {σ0:St} {ps:List It3} {fs:List (D × Fl)} (l:∀ p ∈ ps,Arg K H p) (y:ps.Pairwise Apart3) (j:∀ (i:Nat) (p:It3),ps[i]?=some p->p.f ≠ .z->pr i=true) (h0:∀ (i:Nat) (p:It3),ps[i]?=some p->σ0[i]?=some (some p.v))
  (w:Wf K (gOf H pr σ0 ps) H' σ ρ (x :: T) g) (e:eF ρ 0 (ps.map fun p=>(p.d,p.f))=some fs):∃ qs,Behind K H H' ps qs x/\qs.map (fun q=>(q.d,q.f))=fs:=by
 obtain ⟨qs,B,f,E⟩:=nZ (n:=n) l y j h0 w e
 have ok:=w.okT x Bt
 refine ⟨qs,⟨B,ok.rep,fun hf=>?_,fun c C=>ok.src c C,fun q t=>?_⟩,f⟩
 ·obtain ⟨m,a,L',v1,v2,v3,_⟩:=ok.own hf
  exact ⟨m,a,L',v1,v2,v3,w.fx.frT x Bt hf a v1⟩
 ·obtain ⟨k,A,u⟩:=List.mem_iff_getElem.mp t
  have eq:qs[k]?=some q:=by rw [BA A,u]
  obtain ⟨p,s,b⟩:=Paired.exR B.back eq
  rcases E k p q s eq with ⟨hz,e⟩ | ⟨hz,e⟩
  ·rw [e]
   refine ⟨fun hf a F hm=>?_,fun h=>absurd hz h⟩
   have h1:=w.fx.frT x Bt hf a F
   obtain ⟨o,r⟩:=((l p (BH s)).rep.inH a hm).ex
   have h2:H a=none:=h1
   rw [h2] at r;exact nsE r
  ·exact (w.st k q e x Bt).symm
end
end L3
end
section
namespace L3
open PySem L2
def bP:Fl->Fl
 | .u=>.l
 | f=>f
def bm (x:It3):It3:={ x with f:=bP x.f }
def d6:Fl->Fl
 | .l=>.u
 | f=>f
def wm (x:It3):It3:={ x with f:=d6 x.f }
def gz (h:Fl->Fl) (i:Nat) (ρ:Sto):Sto:=match (ρ[i]?).join with
 | some (d,f)=>ρ.set i (some (d,h f))
 | none=>ρ
def aA (h:Fl->Fl) (is:List Nat) (ρ:Sto):Sto:=is.foldl (fun ρ i=>gz h i ρ) ρ
def us (ρ:Sto) (is:List Nat):List Nat:=is.filter fun i=>match (ρ[i]?).join with
 | some (_,.u)=>true
 | _=>false
theorem lentF_z:bP f=.z ↔ f=.z:=by cases f <;> simp [bP]
theorem unlF_z:d6 f=.z ↔ f=.z:=by cases f <;> simp [d6]
theorem qm (f:Fl):bP f ≠ .u:=by cases f <;> simp [bP]
theorem y8 (f:Fl):d6 f ≠ .l:=by cases f <;> simp [d6]
section
variable {K:FG} {G G0:Gm} {W W0:D->Sto->Prop} {H H':Hp} {σ:St} {ρ ρ':Sto} {T T':List It3} {g:Nat->Option It3} {x y z:It3} {α β:Type}
theorem oY {i j:Nat}:((gz h i ρ)[j]?).join=if j=i then ((ρ[j]?).join).map (fun p=>(p.1,h p.2)) else (ρ[j]?).join:=by
 unfold gz
 cases e:(ρ[i]?).join with
 | none =>
  by_cases q:j=i
  ·subst q;rw [if_pos rfl,e];rfl
  ·rw [if_neg q]
 | some p =>
  obtain ⟨d,f⟩:=p
  dsimp only
  rw [bK (c5 e)]
  by_cases q:j=i
  ·subst q;rw [if_pos rfl,if_pos rfl,e];rfl
  ·rw [if_neg q,if_neg q]
theorem rN {i:Nat}:(gz h i ρ).length = ρ.length:=by
 unfold gz
 split
 ·rw [List.length_set]
 ·rfl
theorem eX (a:∀ f,h (h f)=h f):∀ {is:List Nat} {ρ:Sto} {j:Nat},((aA h is ρ)[j]?).join=if j ∈ is then ((ρ[j]?).join).map (fun p=>(p.1,h p.2)) else (ρ[j]?).join
 | [],ρ,j=>by simp [aA]
 | i :: is,ρ,j=>by
  have e:aA h (i :: is) ρ=aA h is (gz h i ρ):=rfl
  rw [e,eX a,oY]
  by_cases q:j=i
  ·subst q
   by_cases m:j ∈ is
   ·rw [if_pos m,if_pos rfl,if_pos Bt]
    cases (ρ[j]?).join with
    | none=>rfl
    | some p=>simp [a]
   ·rw [if_neg m,if_pos rfl,if_pos Bt]
  ·by_cases m:j ∈ is
   ·rw [if_pos m,if_neg q,if_pos (Bu _ m)]
   ·rw [if_neg m,if_neg q,if_neg (fun z=>(Bz.mp z).elim q m)]
theorem fX:∀ {is:List Nat} {ρ:Sto},(aA h is ρ).length = ρ.length
 | [],ρ=>rfl
 | i :: is,ρ=>by
  have e:aA h (i :: is) ρ=aA h is (gz h i ρ):=rfl
  rw [e,fX,rN]
def dl (G:Gm) (H:Hp) (g:Nat->Option It3) (is:List Nat):Gm :=
 ⟨H,fun b=>∃ j y,j ∉ is/\g j=some y/\y.f=.u/\y.v=.ref b,G.pr,G.σ0,G.orig,fun c=>G.H0 c=none\/G.src c,fun j=>if j ∈ is then (g j).map (·.v) else G.lv j⟩
structure Fk (x y:It3):Prop where
 d:y.d=x.d
 v:y.v=x.v
 L:y.L=x.L
 z:y.f=.z ↔ x.f=.z
theorem Fk.noRoot (a:Fk x x') (b:Fk y y') (h:NoRoot x y):NoRoot x' y':=fun hf c e=>by
 rw [b.L]
 exact h (fun q=>hf (a.z.mpr q)) c (by rw [<- a.v];exact e)
theorem Fk.apart (a:Fk x x') (b:Fk y y') (h:Apart3 x y):Apart3 x' y':=⟨a.noRoot b h.1,b.noRoot a h.2⟩
theorem Fk.refl (x:It3):Fk x x:=⟨rfl,rfl,rfl,Iff.rfl⟩
theorem jx (x:It3):Fk x (bm x):=⟨rfl,rfl,rfl,lentF_z⟩
theorem AZ (x:It3):Fk x (wm x):=⟨rfl,rfl,rfl,unlF_z⟩
theorem ng {o:Option It3} {h:Fl->Fl} (e:o.map (fun x=>(x.d,x.f))=p):(o.map fun x=>{ x with f:=h x.f }).map (fun x:It3=>(x.d,x.f))=p.map fun p=>(p.1,h p.2):=by
 subst e
 cases o <;> rfl
theorem Wf.enter (w:Wf K G H σ ρ T g) (is:List Nat):Wf K (dl G H g is) H σ (aA bP is ρ) (T.map bm) (fun j=>if j ∈ is then (g j).map bm else g j):=by
 have val:∀ j u,(if j ∈ is then (g j).map bm else g j)=some u->∃ l,g j=some l/\Fk l u/\((j ∈ is/\u=bm l)\/(j ∉ is/\u=l)):=fun j u h=>by
  by_cases q:j ∈ is
  ·rw [if_pos q] at h
   obtain ⟨l,e1,t⟩:=Bw.mp h
   subst t
   exact ⟨l,e1,jx l,.inl ⟨q,rfl⟩⟩
  ·rw [if_neg q] at h
   exact ⟨u,h,Fk.refl u,.inr ⟨q,rfl⟩⟩
 refine ⟨by rw [fX];exact w.len,fun j=>?_,fun j u h=>?_,fun j u h=>?_,fun u hu=>?_,fun i j a b n F p=>?_,fun j a h b p=>?_,?_,fun b o e _=>e,w.pro,⟨fun u hu hf a B=>?_,fun j u h D hf a B=>?_,fun b p=>?_,w.fx.ob,fun j u h I=>?_⟩⟩
 ·rw [eX (by intro f;cases f <;> rfl)]
  by_cases q:j ∈ is
  ·rw [if_pos q,if_pos q];exact ng (w.sl j)
  ·rw [if_neg q,if_neg q];exact w.sl j
 ·obtain ⟨l,e,k,_⟩:=val j u h
  rw [k.v];exact w.sv j l e
 ·obtain ⟨l,e,k,c⟩:=val j u h
  have ok:=w.okS j l e
  refine ⟨by rw [k.d,k.v,k.L];exact ok.rep,fun hf=>?_,fun c A=>.inr (ok.src c (by rw [<- k.L];exact A))⟩
  obtain ⟨m,a,L',v1,v2,v3,_⟩:=ok.own (fun q=>hf (k.z.mpr q))
  refine ⟨by rw [k.d];exact m,a,L',by rw [k.v];exact v1,by rw [k.L];exact v2,v3,fun hu=>?_⟩
  rcases c with ⟨_,rfl⟩ | ⟨J,rfl⟩
  ·exact absurd hu (qm _)
  ·exact .inr ⟨j,u,J,e,hu,v1⟩
 ·obtain ⟨l,h0,rfl⟩:=BJ.mp hu
  have ok:=w.okT l h0
  refine ⟨ok.rep,fun hf=>?_,fun c A=>.inr (ok.src c A)⟩
  obtain ⟨m,a,L',v1,v2,v3,_⟩:=ok.own (fun q=>hf (lentF_z.mpr q))
  exact ⟨m,a,L',v1,v2,v3,fun hu=>absurd hu (qm _)⟩
 ·obtain ⟨x,e1,s,_⟩:=val i a F
  obtain ⟨r,t,C,_⟩:=val j b p
  exact s.noRoot C (w.ss i j x r n e1 t)
 ·obtain ⟨x,e1,s,_⟩:=val j a h
  obtain ⟨r,h0,rfl⟩:=BJ.mp p
  exact s.apart (jx r) (w.st j x e1 r h0)
 ·rw [List.pairwise_map]
  exact w.tt.imp fun {a b} h=>(jx a).apart (jx b) h
 ·obtain ⟨l,h0,rfl⟩:=BJ.mp hu
  exact w.fx.frT l h0 (fun q=>hf (lentF_z.mpr q)) a B
 ·obtain ⟨l,e,k,_⟩:=val j u h
  exact w.fx.frS j l e D (fun q=>hf (k.z.mpr q)) a (by rw [<- k.v];exact B)
 ·obtain ⟨j,y,_,e,hf,E⟩:=p
  obtain ⟨_,a,L',v1,v2,_⟩:=(w.okS j y e).own (by rw [hf];intro q;cases q)
  rw [E] at v1;cases v1
  exact ((w.okS j y e).rep.inH b (by rw [v2];exact Bt)).ex
 ·obtain ⟨l,e,k,c⟩:=val j u h
  show (if j ∈ is then (g j).map (·.v) else G.lv j)=_
  rcases c with ⟨q,rfl⟩ | ⟨q,rfl⟩
  ·rw [if_pos q,e];rfl
  ·rw [if_neg q];exact w.fx.lvS j u e I
theorem Wf.leave (w:Wf K G H σ ρ T g) (F:∀ i ∈ is,∀ y,g i=some y->y.f=.u) (N:T'.Sublist T) (p:Wf K (dl G H g is) H' σ' ρ2 (R ++ T'.map bm) g2) :
  Wf K G H' σ' (aA d6 is ρ2) (R ++ T') (fun j=>if j ∈ is then (g2 j).map wm else g2 j):=by
 have val:∀ j u,(if j ∈ is then (g2 j).map wm else g2 j)=some u->∃ r,g2 j=some r/\Fk r u/\((j ∈ is/\u=wm r)\/(j ∉ is/\u=r)):=fun j u h=>by
  by_cases q:j ∈ is
  ·rw [if_pos q] at h
   obtain ⟨r,e1,I⟩:=Bw.mp h
   subst I
   exact ⟨r,e1,AZ r,.inl ⟨q,rfl⟩⟩
  ·rw [if_neg q] at h
   exact ⟨u,h,Fk.refl u,.inr ⟨q,rfl⟩⟩
 have may:∀ a,H a=none\/(∃ j y,j ∉ is/\g j=some y/\y.f=.u/\y.v=.ref a)->G.H0 a=none\/G.bw a:=fun a h=>by
  rcases h with h | ⟨j,y,_,e,hf,X⟩
  ·exact .inl (w.h0none h)
  ·obtain ⟨_,Y,L',v1,_,_,v4⟩:=(w.okS j y e).own (by rw [hf];intro q;cases q)
   rw [X] at v1;cases v1
   exact v4 hf
 have t:∀ c,H c=none\/(G.H0 c=none\/G.src c)->G.H0 c=none\/G.src c:=fun c h=>by
  rcases h with h | h
  ·exact .inl (w.h0none h)
  ·exact h
 have Q:∀ x ∈ T',x ∈ T:=fun x U=>N.subset U
 have M:∀ b o,H b=some o->∃ o',H' b=some o':=fun b o s=>by
  by_cases q:∃ j y,j ∉ is/\g j=some y/\y.f=.u/\y.v=.ref b
  ·exact p.fx.bin b q
  ·exact ⟨o,p.base b o s q⟩
 refine ⟨by rw [fX];exact p.len,fun j=>?_,fun j u h=>?_,fun j u h=>?_,fun u hu=>?_,fun i j a b n E s=>?_,fun j a h b s=>?_,?_,fun b o e n=>?_,p.pro,⟨fun u hu=>?_,fun j u h W hf a ea=>?_,fun b s=>?_,p.fx.ob,fun j u h B=>?_⟩⟩
 ·rw [eX (by intro f;cases f <;> rfl)]
  by_cases q:j ∈ is
  ·rw [if_pos q,if_pos q];exact ng (p.sl j)
  ·rw [if_neg q,if_neg q];exact p.sl j
 ·obtain ⟨r,e,k,_⟩:=val j u h
  rw [k.v];exact p.sv j r e
 ·obtain ⟨r,e,k,c⟩:=val j u h
  have ok:=p.okS j r e
  refine ⟨by rw [k.d,k.v,k.L];exact ok.rep,fun hf=>?_,fun c J=>t c (ok.src c (by rw [<- k.L];exact J))⟩
  obtain ⟨m,a,L',v1,v2,v3,v4⟩:=ok.own (fun q=>hf (k.z.mpr q))
  refine ⟨by rw [k.d];exact m,a,L',by rw [k.v];exact v1,by rw [k.L];exact v2,v3,fun hu=>?_⟩
  rcases c with ⟨q,rfl⟩ | ⟨nj,rfl⟩
  ·cases A:r.f with
   | u=>exact may a (v4 A)
   | l =>
    have B:=p.fx.lvS j r e A
    have B:(if j ∈ is then (g j).map (·.v) else G.lv j)=some r.v:=B
    rw [if_pos q] at B
    obtain ⟨y,P,ev⟩:=Bw.mp B
    have O:=F j q y P
    obtain ⟨_,Y,V,b1,_,_,b4⟩:=(w.okS j y P).own (by rw [O];intro q;cases q)
    rw [ev,v1] at b1;cases b1
    exact b4 O
   | z=>exact absurd (unlF_z.mpr A) hf
  ·exact may a (v4 hu)
 ·rcases BD.mp hu with hu | hu
  ·have ok:=p.okT u (Bx _ hu)
   refine ⟨ok.rep,fun hf=>?_,fun c J=>t c (ok.src c J)⟩
   obtain ⟨m,a,L',v1,v2,v3,v4⟩:=ok.own hf
   exact ⟨m,a,L',v1,v2,v3,fun h=>may a (v4 h)⟩
  ·have ok:=w.okT u (Q u hu)
   exact ⟨(p.okT (bm u) (By _ (BJ.mpr ⟨u,hu,rfl⟩))).rep,ok.own,ok.src⟩
 ·obtain ⟨D,e1,C,_⟩:=val i a E
  obtain ⟨Z,I,S,_⟩:=val j b s
  exact C.noRoot S (p.ss i j D Z n e1 I)
 ·obtain ⟨D,e1,C,_⟩:=val j a h
  rcases BD.mp s with s | s
  ·exact C.apart (Fk.refl b) (p.st j D e1 b (Bx _ s))
  ·have:=p.st j D e1 (bm b) (By _ (BJ.mpr ⟨b,s,rfl⟩))
   exact C.apart (y:=bm b) ⟨rfl,rfl,rfl,lentF_z.symm⟩ this
 ·have h:=List.pairwise_append.mp p.tt
  refine List.pairwise_append.mpr ⟨h.1,w.tt.sublist N,fun a E b s=>?_⟩
  exact (Fk.refl a).apart (y:=bm b) ⟨rfl,rfl,rfl,lentF_z.symm⟩ (h.2.2 a E (bm b) (BJ.mpr ⟨b,s,rfl⟩))
 ·have s:=w.base b o e n
  refine p.base b o s fun q=>?_
  rcases may b (.inr q) with h | h
  ·rw [e] at h;cases h
  ·exact n h
 ·rcases BD.mp hu with hu | hu
  ·exact p.fx.frT u (Bx _ hu)
  ·exact w.fx.frT u (Q u hu)
 ·obtain ⟨r,e,k,_⟩:=val j u h
  exact p.fx.frS j r e W (fun q=>hf (k.z.mpr q)) a (by rw [<- k.v];exact ea)
 ·obtain ⟨o,ho⟩:=w.fx.bin b s
  exact M b o ho
 ·obtain ⟨r,e,k,c⟩:=val j u h
  rcases c with ⟨q,rfl⟩ | ⟨q,rfl⟩
  ·exact absurd B (y8 _)
  ·have:=p.fx.lvS j u e B
   have this:(if j ∈ is then (g j).map (·.v) else G.lv j)=some u.v:=this
   rw [if_neg q] at this
   exact this
theorem xR (w:Wf K G H σ ρ T g) (b:∀ i ∈ is,∀ y,g i=some y->y.f=.u):∀ (H':Hp) (σ':St) (ρ2:Sto) (a:List It3) (g2:Nat->Option It3),Wf K (dl G H g is) H' σ' ρ2 a g2->∃ g3,Wf K G H' σ' (aA d6 is ρ2) [] g3 :=
 fun H' σ' ρ2 a g2 c=>⟨_,by simpa using Wf.leave (T':=[]) (R:=[]) w b (List.nil_sublist T) (by simpa using c.sub (List.nil_sublist a))⟩
end
end L3
end
section
namespace L3
open PySem L2
section
variable {K:FG} {G G0:Gm} {W W0:D->Sto->Prop} {H H':Hp} {σ:St} {ρ ρ':Sto} {T T':List It3} {g:Nat->Option It3} {x y z:It3} {α β:Type}
def Walk (K:FG) (J:It) (H1:Hp) (ys:List It3) (ds:List D):Prop:=∃ els:List It3,(∀ x ∈ els,x.f=.z/\Rep K H1 x.d x.v x.L/\∀ c ∈ x.L,cW ys c) /\
 ∀ (M:Addr->Prop) (H':Hp),(∀ b,M b->MutAt H1 b)->(∀ b o,H1 b=some o->¬ M b->H' b=some o)->(∀ y ∈ ys,∀ b ∈ y.L,¬ M b) ->
  (∀ (i:Nat) (d:D),ds[i]?=some d->J.go i H'/\∀ x a,J.yld i H' x a->∃ w,New K H' a (cX els) w/\w.d=d/\w.f=.z/\w.v=x)/\J.stop ds.length H'
abbrev IM:=M3 (List R3 × List D)
def EndI (K:FG) (G:Gm) (W:D->Sto->Prop) (σ:St) (T:List It3) (ρ':Sto) (R:It->Hp->Prop):Except D (List R3 × List D)->Prop
 | .ok p=>∀ J H1 a Ts g1 ys,Wf K G H1 σ ρ' (Ts ++ T) g1->Ars σ p.1 a Ts->(∀ y ∈ ys,(∃ i,i ∈ pls p.1/\g1 i=some y)\/y ∈ Ts)->Walk K J H1 ys p.2->R J H1
 | .error e=>W e ρ'
def tI (K:FG) (G0:Gm) (W0:D->Sto->Prop) (m:IM):TI:=fun σ H R=>∃ G W,Le K G W G0 W0/\∃ ρ T g r ρ',Wf K G H σ ρ T g/\m ρ=some (r,ρ')/\EndI K G W σ T ρ' R r
theorem tI.seq (le:Le K G W G0 W0) (w:Wf K G H σ ρ T g) (e:ad m k ρ=some (r,ρ')) (he:∀ x,r=.error x->W x ρ') (h:∀ p ρ1,k p ρ1=some (r,ρ')->EndI K G W σ T ρ1 P (.ok p)):tI K G0 W0 m σ H P:=by
 unfold ad at e
 cases q:m ρ with
 | none=>rw [q] at e;exact nsE e
 | some p =>
  obtain ⟨o,ρ1⟩:=p
  rw [q] at e
  cases o with
  | error x=>cases e;exact ⟨G,W,le,ρ,T,g,.error x,ρ',w,q,he x rfl⟩
  | ok ra=>exact ⟨G,W,le,ρ,T,g,.ok ra,ρ1,w,q,h ra ρ1 e⟩
def Bnd (K:FG) (pr:Nat->Bool) (tg:TG) (bnd:D->Sto->Option Sto):Prop:=∀ (G:Gm) (H:Hp) (σ:St) (ρ ρ1:Sto) (T:List It3) (g:Nat->Option It3) (w:It3) (Q:St->Hp->Prop),G.pr=pr->w.f=.z->Wf K G H σ ρ (w :: T) g->bnd w.d ρ=some ρ1 ->
 (∀ σ2 g2,Wf K G H σ2 ρ1 T g2->Q σ2 H)->tg w.v σ H Q
def aj (i:Nat) (d:D) (ρ:Sto):Option Sto:=if i < ρ.length then some (ρ.set i (some (d,.z))) else none
theorem iy {i:Nat} (b:pr i=false):Bnd K pr (qy i) (aj i):=fun G H σ ρ ρ1 T g w Q a hz wf e q=>by
 unfold aj at e
 split at e
 ·rename_i hi
  cases e
  exact q _ _ (wf.store (f:=.z) hi (by rw [a];exact b) (.inr rfl) (by intro h;cases h))
 ·exact nsE e
def wk (K:FG) (pr:Nat->Bool) (tg:TGs) (bnd:List D->Sto->Option Sto):Prop:=∀ (G:Gm) (H:Hp) (σ:St) (ρ ρ1:Sto) (T:List It3) (g:Nat->Option It3) (ws:List It3) (Q:St->Hp->Prop),G.pr=pr->(∀ w ∈ ws,w.f=.z)->Wf K G H σ ρ (ws ++ T) g->bnd (ws.map (·.d)) ρ=some ρ1 ->
 (∀ σ2 g2,Wf K G H σ2 ρ1 T g2->Q σ2 H)->tg (ws.map (·.v)) σ H Q
def fO:List D->Sto->Option Sto
 | [],ρ=>some ρ
 | _,_=>none
def bG (b:D->Sto->Option Sto) (bs:List D->Sto->Option Sto):List D->Sto->Option Sto
 | [],_=>none
 | d :: ds,ρ=>match b d ρ with
  | some ρ1=>bs ds ρ1
  | none=>none
theorem nX:wk K pr gNil fO:=fun G H σ ρ ρ1 T g ws Q _ _ wf e q=>by
 cases ws with
 | nil=>cases e;exact ⟨rfl,q _ _ wf⟩
 | cons w ws=>exact nsE e
theorem iX (h1:Bnd K pr tg b) (h2:wk K pr tgs bs):wk K pr (yW tg tgs) (bG b bs):=fun G H σ ρ ρ1 T g ws Q a hz wf e q=>by
 cases ws with
 | nil=>exact nsE e
 | cons w ws =>
  have e:(match b w.d ρ with | some ρ1=>bs (ws.map (·.d)) ρ1 | none=>none)=some ρ1:=e
  cases c:b w.d ρ with
  | none=>rw [c] at e;exact nsE e
  | some ρ2 =>
   rw [c] at e
   exact ⟨w.v,ws.map (·.v),rfl,h1 G H σ ρ ρ2 (ws ++ T) g w _ a (hz w Bt) wf c fun σ2 g2 h=>h2 G H σ2 ρ2 ρ1 T g2 ws Q a (fun x f=>hz x (Bu _ f)) h e q⟩
def fN (n:Nat) (bs:List D->Sto->Option Sto):D->Sto->Option Sto
 | .tup ds,ρ=>if ds.length=n then bs ds ρ else none
 | _,_=>none
theorem Reps.split:∀ {ds:List D} {b:List V} {L:List Addr},Reps (Rep K H) ds b L->∃ ws:List It3,ws.map (·.d)=ds/\ws.map (·.v)=b/\(∀ w ∈ ws,w.f=.z/\Rep K H w.d w.v w.L/\∀ c ∈ w.L,c ∈ L)
 | _,_,_,.nil=>⟨[],rfl,rfl,fun _ h=>(by cases h)⟩
 | _,_,_,.cons (d:=d) (v:=v) (L:=L) r rs=>by
  obtain ⟨ws,h1,h2,h3⟩:=Reps.split rs
  refine ⟨⟨d,v,L,.z⟩ :: ws,by simp [h1],by simp [h2],fun w hw=>?_⟩
  rcases Bz.mp hw with h | h
  ·subst h;exact ⟨rfl,r,fun c a=>Bx _ a⟩
  ·exact ⟨(h3 w h).1,(h3 w h).2.1,fun c a=>By _ ((h3 w h).2.2 c a)⟩
theorem Wf.pushAll:∀ {ws:List It3} {T:List It3},Wf K G H σ ρ T g->(∀ w ∈ ws,w.f=.z/\Rep K H w.d w.v w.L/\∀ c ∈ w.L,c7 T g c/\(G.H0 c=none\/G.src c))->Wf K G H σ ρ (ws ++ T) g
 | [],T,w,_=>w
 | x :: ws,T,w,h=>by
  have e:=Wf.pushAll (ws:=ws) w fun y b=>h y (Bu _ b)
  obtain ⟨hz,i,a⟩:=h x Bt
  refine e.push (Ks:=fun c=>c ∈ x.L) ⟨Same.refl _,i,fun c h=>.inr h,fun q=>absurd hz q⟩ fun c m=>⟨⟨(a c m).1.1,fun y b hf=>?_⟩,(a c m).2⟩
  rcases BD.mp b with q | q
  ·exact absurd (h y (Bu _ q)).1 hf
  ·exact (a c m).1.2 y q hf
theorem qL {n:Nat} (h2:wk K pr tgs bs):Bnd K pr (gTup K n tgs) (fN n bs):=fun G H σ ρ ρ1 T g w Q j hz wf e q=>by
 have r:=(wf.okT w Bt).rep
 obtain ⟨d,v,L,f⟩:=w
 cases r with
 | @tup xs a vs _ hs rs =>
  have e:(if xs.length=n then bs xs ρ else none)=some ρ1:=e
  split at e
  ·rename_i m
   obtain ⟨ws,h1,h3,h⟩:=Reps.split rs
   refine ⟨a,vs,rfl,SqT.of hs,?_,?_⟩
   ·rw [<- h3,BF,<- m,<- h1,BF]
   ·have l:Wf K G H σ ρ (ws ++ (⟨.tup xs,.ref a,L,f⟩ :: T)) g:=wf.pushAll fun u hu=>⟨(h u hu).1,(h u hu).2.1,fun c k=>⟨wf.kid (y:=⟨.tup xs,.ref a,L,f⟩) (.inr Bt) ((h u hu).2.2 c k) fun hf=>absurd hz hf,(wf.okT _ Bt).src c ((h u hu).2.2 c k)⟩⟩
    have o:Wf K G H σ ρ (ws ++ T) g:=l.sub ((List.Sublist.refl ws).append (List.sublist_cons_self _ _))
    rw [<- h3]
    exact h2 G H σ ρ ρ1 T g ws Q j (fun u hu=>(h u hu).1) o (by rw [h1];exact e) q
  ·exact nsE e
 | non=>exact nsE e
 | bl b=>exact nsE e
 | int i=>exact nsE e
 | str s=>exact nsE e
 | lst _ _=>exact nsE e
 | lstF _ _=>exact nsE e
 | dK _ _ _=>exact nsE e
 | dT _ _ _=>exact nsE e
 | exc _ _=>exact nsE e
noncomputable def cw (bnd:D->Sto->Option Sto) (b:SM):List D->SM
 | []=>aN .nx
 | d :: ds=>fun ρ=>match bnd d ρ with
  | none=>none
  | some ρ1=>ad b (fun f=>match f with
   | .nx=>cw bnd b ds
   | .ct=>cw bnd b ds
   | .br=>aN .nx
   | .rt d f=>aN (.rt d f)) ρ1
noncomputable def cE (im:IM) (bnd:D->Sto->Option Sto) (b:SM):SM:=ad im fun p=>fun ρ=>(cw bnd b p.2 (aA bP (us ρ (pls p.1)) ρ)).map fun r=>(r.1,aA d6 (us ρ (pls p.1)) r.2)
theorem us_u (w:Wf K G H σ ρ T g):∀ i ∈ us ρ is,∀ y,g i=some y->y.f=.u:=fun i hi y a=>by
 have h:=(B3.mp hi).2
 have s:=w.sl i
 rw [a] at s
 have s:some (y.d,y.f)=(ρ[i]?).join:=s
 rw [<- s] at h
 cases hf:y.f with
 | u=>rfl
 | l=>rw [hf] at h;cases h
 | z=>rw [hf] at h;cases h
theorem sO {i:Nat} (w:Wf K G H σ ρ T g) (hi:i ∈ is) (a:g i=some y) (hf:y.f=.u):i ∈ us ρ is:=by
 refine B3.mpr ⟨hi,?_⟩
 have s:=w.sl i
 rw [a] at s
 have s:some (y.d,y.f)=(ρ[i]?).join:=s
 rw [<- s,hf]
theorem zn (U:Bnd K G0.pr tg bnd) (h:tS K G0 W0 (cE im bnd b) E σ H):tFor (tI K G0 W0 im) tg (tS K G0 W0 b) E σ H:=by
 refine h.use fun G W le ρ T g r ρ' w e q=>?_
 refine tI.seq le w e q.err fun p ρ1 e1=>?_
 intro J H1 vs Ts g1 ys A a1 ar hw
 have P:=us_u (is:=pls p.1) A
 have a0:∀ i y,i ∈ pls p.1->g1 i=some y->y.f=.u->i ∈ us ρ1 (pls p.1):=fun i y hi ey hf=>sO A hi ey hf
 generalize us ρ1 (pls p.1)=is at e1 P a0
 have w2:=A.enter is
 obtain ⟨els,n,walk⟩:=hw
 have hM:∀ b,(∃ j y,j ∉ is/\g1 j=some y/\y.f=.u/\y.v=.ref b)->MutAt H1 b:=fun b ⟨j,y,_,ey,hf,C⟩=>by
  obtain ⟨_,a,L',v1,v2,_⟩:=(A.okS j y ey).own (by rw [hf];intro q;cases q)
  rw [C] at v1;cases v1
  exact (A.okS j y ey).rep.inH b (by rw [v2];exact Bt)
 have ax:∀ y ∈ ys,∀ b ∈ y.L,¬ ∃ j y,j ∉ is/\g1 j=some y/\y.f=.u/\y.v=.ref b:=fun y t b U ⟨j,y',nj,B,hf,C⟩=>by
  have az:y'.f ≠ .z:=by rw [hf];intro q;cases q
  rcases ar y t with ⟨i,hi,ei⟩ | t
  ·by_cases ij:i=j
   ·subst ij
    rw [ei] at B;cases B
    exact nj (a0 i y hi ei hf)
   ·exact A.ss j i y' y (Ne.symm ij) B ei az b C U
  ·exact (A.st j y' B y (Bx _ t)).1 az b C U
 have ab:∀ y ∈ ys,Itm (Ts ++ T) g1 y:=fun y t=>by
  rcases ar y t with ⟨i,_,ei⟩ | h
  ·exact .inl ⟨i,ei⟩
  ·exact .inr (Bx _ h)
 have kid:∀ x ∈ els,∀ c ∈ x.L,c7 ((Ts ++ T).map bm) (fun j=>if j ∈ is then (g1 j).map bm else g1 j) c/\(H1 c=none\/(G.H0 c=none\/G.src c)):=fun x X c Y=>by
  obtain ⟨nr,sr⟩:=A.kids ab ((n x X).2.2 c Y)
  refine ⟨⟨fun i z V hf C=>?_,fun z hz hf C=>?_⟩,.inr sr⟩
  ·have V:(if i ∈ is then (g1 i).map bm else g1 i)=some z:=V
   by_cases q:i ∈ is
   ·rw [if_pos q] at V
    obtain ⟨z0,e0,e1⟩:=Bw.mp V
    subst e1
    exact nr.1 i z0 e0 (fun q=>hf (lentF_z.mpr q)) C
   ·rw [if_neg q] at V
    exact nr.1 i z V hf C
  ·obtain ⟨z0,h0,rfl⟩:=BJ.mp hz
   exact nr.2 z0 h0 (fun q=>hf (lentF_z.mpr q)) C
 have w3:Wf K (dl G H1 g1 is) H1 σ (aA bP is ρ1) (els ++ (Ts ++ T).map bm) (fun j=>if j ∈ is then (g1 j).map bm else g1 j):=w2.pushAll fun x X=>⟨(n x X).1,(n x X).2.1,fun c Y=>kid x X c Y⟩
 cases e2:cw bnd b p.2 (aA bP is ρ1) with
 | none=>rw [e2] at e1;exact nsE e1
 | some rr =>
  obtain ⟨r2,ρ3⟩:=rr
  rw [e2] at e1
  have er:r2=r/\aA d6 is ρ3 = ρ':=by cases e1;exact ⟨rfl,rfl⟩
  obtain ⟨rfl,eρ⟩:=er
  have leave:∀ {σ':St} {H':Hp} {ρ2:Sto} {g2:Nat->Option It3} {R:List It3},Wf K (dl G H1 g1 is) H' σ' ρ2 (R ++ (els ++ (Ts ++ T).map bm)) g2->∃ g3,Wf K G H' σ' (aA d6 is ρ2) (R ++ T) g3:=fun {σ' H' ρ2 g2 R} I =>
   ⟨_,Wf.leave (T:=Ts ++ T) (T':=T) (R:=R) A P (BI Ts T) (I.sub ((List.Sublist.refl R).append (by
    rw [List.map_append]
    exact (BI (Ts.map bm) (T.map bm)).trans (BI els _))))⟩
  have a4:Le K (dl G H1 g1 is) (fun e ρ2=>W e (aA d6 is ρ2)) G W:=⟨rfl,fun H' σ' ρ2 T2 g2 e I he=>by
   obtain ⟨g3,Z⟩:=xR A P H' σ' ρ2 T2 g2 I
   exact ⟨_,[],g3,Z,he⟩⟩
  have s:Le K (dl G H1 g1 is) (fun e ρ2=>W e (aA d6 is ρ2)) G0 W0:=a4.trans le
  refine ⟨fun k m σ' H'=>k<=p.2.length/\m=p.2.length - k/\∃ ρ2 g2,Wf K (dl G H1 g1 is) H' σ' ρ2 (els ++ (Ts ++ T).map bm) g2/\cw bnd b (p.2.drop k) ρ2=some (r2,ρ3),⟨_,Nat.zero_le _,rfl,_,_,w3,e2⟩,?_⟩
  rintro k m σ' H' ⟨hk,rfl,ρ2,g2,I,e4⟩
  obtain ⟨a3,O⟩:=walk _ H' hM (fun b o U hn=>I.base b o U hn) ax
  by_cases D:k < p.2.length
  ·obtain ⟨d,hd⟩:∃ d,p.2[k]?=some d:=⟨_,BA D⟩
   have M:p.2.drop k=d :: p.2.drop (k+1):=by
    rw [List.drop_eq_getElem_cons D]
    rw [BA D] at hd
    cases hd;rfl
   rw [M] at e4
   obtain ⟨go,yld⟩:=a3 k d hd
   refine .inr ⟨go,fun σ5 H5=>∃ ρ5 g5,Wf K (dl G H1 g1 is) H5 σ5 ρ5 (els ++ (Ts ++ T).map bm) g5/\cw bnd b (p.2.drop (k+1)) ρ5=some (r2,ρ3),fun σ5 H5 ⟨ρ5,g5,Z,l⟩=>⟨p.2.length - (k+1),by omega,D,rfl,ρ5,g5,Z,l⟩,fun x Q t=>?_⟩
   obtain ⟨u,nu,ud,uf,uv⟩:=yld x Q t
   have Z:Wf K (dl G H1 g1 is) Q σ' ρ2 (u :: (els ++ (Ts ++ T).map bm)) g2:=I.push nu fun c Y=>I.alls (ys:=els) (fun y t=>⟨.inr (Bx _ t),(n y t).1⟩) Y
   have l:(match bnd d ρ2 with
    | none=>none
    | some ρ1=>ad b (fun f=>match f with
     | .nx=>cw bnd b (p.2.drop (k+1))
     | .ct=>cw bnd b (p.2.drop (k+1))
     | .br=>aN .nx
     | .rt d f=>aN (.rt d f)) ρ1)=some (r2,ρ3):=e4
   cases e6:bnd d ρ2 with
   | none=>rw [e6] at l;exact nsE l
   | some ρ6 =>
    rw [e6] at l
    dsimp only at l
    rw [<- uv]
    refine U (dl G H1 g1 is) Q σ' ρ2 ρ6 _ g2 u _ le.pr uf Z (by rw [ud];exact e6) fun σ6 g6 w6=>?_
    unfold ad at l
    cases S:b ρ6 with
    | none=>rw [S] at l;exact nsE l
    | some pr7 =>
     obtain ⟨o7,ρ7⟩:=pr7
     rw [S] at l
     cases o7 with
     | error er =>
      cases l
      refine tS.mk (r:=.error er) s w6 S ?_
      show W er (aA d6 is _)
      rw [eρ];exact q
     | ok f =>
      cases f with
      | nx=>exact tS.mk (r:=.ok .nx) s w6 S fun σ8 H8 g8 N=>⟨ρ7,g8,N,l⟩
      | ct=>exact tS.mk (r:=.ok .ct) s w6 S fun σ8 H8 g8 N=>⟨ρ7,g8,N,l⟩
      | br =>
       cases l
       refine tS.mk (r:=.ok .br) s w6 S fun σ8 H8 g8 N=>?_
       obtain ⟨g9,F⟩:=leave (R:=[]) N
       rw [eρ] at F
       exact q _ _ _ F
      | rt d' f' =>
       cases l
       refine tS.mk (r:=.ok (.rt d' f')) s w6 S fun x8 σ8 H8 g8 N x1 x2=>?_
       obtain ⟨g9,F⟩:=leave (R:=[x8]) N
       rw [eρ] at F
       exact q x8 _ _ _ F x1 x2
  ·have ek:k=p.2.length:=by omega
   subst ek
   rw [List.drop_length] at e4
   cases e4
   obtain ⟨g9,F⟩:=leave (R:=[]) I
   rw [eρ] at F
   exact .inl ⟨O,q _ _ _ F⟩
end
end L3
end
section
namespace L3
open PySem L2
def nQ (ix:List (Option Nat)) (ρ:Sto):Sto:=ix.map fun o=>match o with
 | some i=>(ρ[i]?).join
 | none=>none
def uncap:List (Option Nat)->Sto->Sto->Option Sto
 | [],_,ρ=>some ρ
 | none :: ix,τ,ρ=>uncap ix τ.tail ρ
 | some i :: ix,τ,ρ=>match (ρ[i]?).join,τ.head? with
  | some (_,f),some (some (d',f'))=>if f'=f\/f'=.z then uncap ix τ.tail (ρ.set i (some (d',f'))) else none
  | _,_=>none
noncomputable def bM (bnd:D->Sto->Option Sto) (c:M3 Bool) (elt:EM):List D->M3 (List D)
 | []=>aN []
 | d :: ds=>fun τ=>match bnd d τ with
  | none=>none
  | some τ1=>ad c (fun b=>if b then ad elt (fun r=>ad (cL r) fun p=>ad (bM bnd c elt ds) fun l=>aN (p.1 :: l)) else bM bnd c elt ds) τ1
def cf (im:IM) (bnd:D->Sto->Option Sto) (c:M3 Bool) (elt:EM) (ix:List (Option Nat)):EM:=ad im fun p=>fun ρ =>
 match bM bnd c elt p.2 (nQ ix (aA bP (us ρ (pls p.1)) ρ)) with
 | some (.ok ds,τ)=>if p.2.length < 16777216 then (uncap ix τ (aA bP (us ρ (pls p.1)) ρ)).map fun ρ2=>(.ok (.val (.lst ds) .u),aA d6 (us ρ (pls p.1)) ρ2) else none
 | _=>none
section
variable {K:FG} {G G0:Gm} {W W0:D->Sto->Prop} {H H':Hp} {σ τ:St} {ρ ρ':Sto} {T T':List It3} {g:Nat->Option It3} {x y z:It3} {α β:Type} {ix:List (Option Nat)}
def Inj (ix:List (Option Nat)):Prop:=∀ (j k i:Nat),ix[j]?=some (some i)->ix[k]?=some (some i)->j=k
def xY (ix:List (Option Nat)) (g:Nat->Option It3) (j:Nat):Option It3:=(ix[j]?).join.bind g
def oR (ix:List (Option Nat)) (n:Nat) (g:Nat->Option It3):List It3:=(List.range n).filterMap fun i=>if some i ∈ ix then none else g i
def vK (G:Gm) (ix:List (Option Nat)) (σ:St):Gm:=⟨G.H0,G.bw,fun j=>((ix[j]?).join).isSome,cap ix σ,fun _=>none,G.src,fun j=>(ix[j]?).join.bind G.lv⟩
theorem c8 {j:Nat} (h:xY ix g j=some x):∃ i,ix[j]?=some (some i)/\g i=some x:=by
 unfold xY at h
 cases e:ix[j]? with
 | none=>rw [e] at h;exact nsE h
 | some o =>
  rw [e] at h
  cases o with
  | none=>exact nsE h
  | some i=>exact ⟨i,rfl,h⟩
theorem jS {n:Nat} (h:x ∈ oR ix n g):∃ i,some i ∉ ix/\g i=some x:=by
 obtain ⟨i,_,e⟩:=List.mem_filterMap.mp h
 split at e
 ·exact nsE e
 ·rename_i a;exact ⟨i,a,e⟩
theorem uA {n i:Nat} (hi:i < n) (a:some i ∉ ix) (e:g i=some x):x ∈ oR ix n g:=List.mem_filterMap.mpr ⟨i,List.mem_range.mpr hi,by rw [if_neg a];exact e⟩
theorem Wf.cap (w:Wf K G H σ ρ T g) (s:Inj ix):Wf K (vK G ix σ) H (cap ix σ) (nQ ix ρ) (oR ix ρ.length g ++ T) (xY ix g):=by
 have ne:∀ {i j:Nat},ix[j]?=some (some i)->∀ k,some k ∉ ix->i ≠ k:=fun e k l q=>l (by rw [<- q];exact BH e)
 refine ⟨by unfold L2.cap nQ;rw [BF,BF],fun j=>?_,fun j x h=>?_,fun j x h=>?_,fun x m=>?_,fun j k x y n m p=>?_,fun j x h y p=>?_,?_,w.base,fun _ _=>rfl,⟨fun _ _ _ _ _=>rfl,fun _ _ _ _ _ _ _=>rfl,w.fx.bin,fun b o e=>(by cases e),fun j x h v=>?_⟩⟩
 ·unfold xY nQ
  rw [BK]
  cases e:ix[j]? with
  | none=>rfl
  | some o =>
   cases o with
   | none=>rfl
   | some i=>exact w.sl i
 ·obtain ⟨i,e1,c⟩:=c8 h
  unfold L2.cap
  rw [BK,e1]
  show some ((σ[i]?).getD none)=_
  rw [w.sv i x c];rfl
 ·obtain ⟨i,_,c⟩:=c8 h
  have ok:=w.okS i x c
  exact ⟨ok.rep,ok.own,ok.src⟩
 ·rcases BD.mp m with h | h
  ·obtain ⟨i,_,e⟩:=jS h
   have ok:=w.okS i x e
   exact ⟨ok.rep,ok.own,ok.src⟩
  ·have ok:=w.okT x h
   exact ⟨ok.rep,ok.own,ok.src⟩
 ·obtain ⟨i,e1,c⟩:=c8 m
  obtain ⟨z,u,A⟩:=c8 p
  exact w.ss i z x y (fun q=>n (s j k i e1 (q ▸ u))) c A
 ·obtain ⟨i,e1,c⟩:=c8 h
  rcases BD.mp p with q | q
  ·obtain ⟨k,l,e⟩:=jS q
   have:=ne e1 k l
   exact ⟨w.ss i k x y this c e,w.ss k i y x (Ne.symm this) e c⟩
  ·exact w.st i x c y q
 ·refine List.pairwise_append.mpr ⟨?_,w.tt,fun a t b r=>?_⟩
  ·unfold oR
   rw [List.pairwise_filterMap]
   refine List.pairwise_lt_range.imp fun {i k} lt a t b r=>?_
   have d:(if some i ∈ ix then none else g i)=some a:=t
   have f:(if some k ∈ ix then none else g k)=some b:=r
   split at d
   ·cases d
   ·split at f
    ·cases f
    ·exact ⟨w.ss i k a b (BN lt) d f,w.ss k i b a (Nat.ne_of_gt lt) f d⟩
  ·obtain ⟨k,l,e⟩:=jS t
   exact w.st k a e b r
 ·obtain ⟨i,e1,c⟩:=c8 h
  show (ix[j]?).join.bind G.lv=_
  rw [e1]
  exact w.fx.lvS i x c v
theorem Wf.perm (w:Wf K G H σ ρ T g) (p:T.Perm T'):Wf K G H σ ρ T' g :=
 ⟨w.len,w.sl,w.sv,w.okS,fun x a=>w.okT x (p.mem_iff.mpr a),w.ss,fun i x e y b=>w.st i x e y (p.mem_iff.mpr b),(p.pairwise_iff fun h=>Apart3.symm h).mp w.tt,w.base,w.pro,w.fx.sub fun x a=>p.mem_iff.mpr a⟩
theorem fU:∀ {ix:List (Option Nat)} {τ ρ ρ2:Sto},uncap ix τ ρ=some ρ2->Inj ix->ρ2.length = ρ.length/\(∀ i,some i ∉ ix->(ρ2[i]?).join=(ρ[i]?).join) /\
  ∀ (j i:Nat),ix[j]?=some (some i)->∃ p q,(ρ[i]?).join=some p/\(τ[j]?).join=some q/\(ρ2[i]?).join=some q/\(q.2=p.2\/q.2=.z)
 | [],τ,ρ,ρ2,e,_=>by cases e;exact ⟨rfl,fun _ _=>rfl,fun j i h=>by simp at h⟩
 | none :: ix,τ,ρ,ρ2,e,hij=>by
  unfold uncap at e
  obtain ⟨h1,h2,h3⟩:=fU e fun j k i a b=>by
   have:=hij (j+1) (k+1) i (by simpa using a) (by simpa using b)
   omega
  refine ⟨h1,fun i hi=>h2 i fun q=>hi (Bu _ q),fun j i h=>?_⟩
  cases j with
  | zero=>simp at h
  | succ j =>
   obtain ⟨p,q,a,b,c⟩:=h3 j i (by simpa using h)
   exact ⟨p,q,a,by rw [List.getElem?_tail] at b;exact b,c⟩
 | some i0 :: ix,τ,ρ,ρ2,e,hij=>by
  unfold uncap at e
  cases e1:(ρ[i0]?).join with
  | none=>rw [e1] at e;exact nsE e
  | some p =>
   obtain ⟨d,f⟩:=p
   cases n:τ.head? with
   | none=>rw [e1,n] at e;exact nsE e
   | some o =>
    cases o with
    | none=>rw [e1,n] at e;exact nsE e
    | some q =>
     obtain ⟨d',u⟩:=q
     rw [e1,n] at e
     dsimp only at e
     split at e
     ·rename_i hf
      have g:=c5 e1
      have l:some i0 ∉ ix:=fun m=>by
       obtain ⟨k,t,s⟩:=List.mem_iff_getElem.mp m
       have:=hij 0 (k+1) i0 rfl (by simp [t,s])
       omega
      obtain ⟨h1,h2,h3⟩:=fU e fun j k i a b=>by
       have:=hij (j+1) (k+1) i (by simpa using a) (by simpa using b)
       omega
      refine ⟨by rw [h1,List.length_set],fun i hi=>?_,fun j i h=>?_⟩
      ·rw [h2 i fun q=>hi (Bu _ q),bK g,if_neg (fun q=>hi (by rw [q];exact Bt))]
      ·cases j with
       | zero =>
        simp at h
        subst h
        refine ⟨(d,f),(d',u),e1,?_,?_,hf⟩
        ·rw [List.head?_eq_getElem?] at n;rw [n];rfl
        ·rw [h2 i0 l,bK g,if_pos rfl]
       | succ j =>
        have r:ix[j]?=some (some i):=by simpa using h
        obtain ⟨p,q,a,b,c⟩:=h3 j i r
        have ii:i ≠ i0:=fun z=>l (by rw [<- z];exact BH r)
        rw [bK g,if_neg ii] at a
        exact ⟨p,q,a,by rw [List.getElem?_tail] at b;exact b,c⟩
     ·exact nsE e
theorem Wf.uncap (w:Wf K G H σ ρ T g) (hH:∀ b o,H b=some o->G.H0 b=some o) (W:Inj ix) (e:L3.uncap ix τρ ρ=some ρ2) (hR:∀ x ∈ R,x.f=.z) (A:Wf K (vK G ix σ) H' τ' τρ (R ++ (oR ix ρ.length g ++ T)) gC) :
  ∃ g2,Wf K G H' σ ρ2 (R ++ T) g2:=by
 obtain ⟨J,h2,h3⟩:=fU e W
 let inv (i:Nat):Option Nat:=(List.range ix.length).find? fun j=>decide (ix[j]?=some (some i))
 have l:∀ i j,inv i=some j->ix[j]?=some (some i):=fun i j h=>by simpa using List.find?_some h
 have r:∀ i,inv i=none->some i ∉ ix:=fun i h m=>by
  obtain ⟨k,Z,ek⟩:=List.mem_iff_getElem.mp m
  have:=List.find?_eq_none.mp h k (List.mem_range.mpr Z)
  simp [Z,ek] at this
 let g2 (i:Nat):Option It3:=match inv i with | some j=>gC j | none=>g i
 have val:∀ i u,g2 i=some u->(∃ j p q,ix[j]?=some (some i)/\gC j=some u/\(ρ[i]?).join=some p/\(τρ[j]?).join=some q/\(q.2=p.2\/q.2=.z))\/(some i ∉ ix/\g i=some u):=fun i u h=>by
  have h':(match inv i with | some j=>gC j | none=>g i)=some u:=h
  cases D:inv i with
  | none=>rw [D] at h';exact .inr ⟨r i D,h'⟩
  | some j =>
   rw [D] at h'
   obtain ⟨p,q,a,b,_,c⟩:=h3 j i (l i j D)
   exact .inl ⟨j,p,q,l i j D,h',a,b,c⟩
 have out:∀ i u,some i ∉ ix->g i=some u->u ∈ oR ix ρ.length g:=fun i u C e=>by
  have s:=w.sl i
  rw [e] at s
  exact uA (c5 s.symm) C e
 have back:∀ i j u,ix[j]?=some (some i)->gC j=some u->σ[i]?=some (some u.v):=fun i j u B t=>by
  have a:=A.sv j u t
  have b:=A.pro j (by show ((ix[j]?).join).isSome=true;rw [B];rfl)
  rw [a] at b
  have b:some (some u.v)=(L2.cap ix σ)[j]?:=b
  unfold L2.cap at b
  rw [BK,B] at b
  have b:some (some u.v)=some ((σ[i]?).getD none):=b
  cases q:σ[i]? with
  | none=>rw [q] at b;cases b
  | some o=>rw [q] at b;cases b;rfl
 have O:∀ i j u p q,ix[j]?=some (some i)->gC j=some u->(ρ[i]?).join=some p->(τρ[j]?).join=some q->(q.2=p.2\/q.2=.z)->∃ y,g i=some y/\y.v=u.v/\(u.f=y.f\/u.f=.z):=fun i j u p q B t P eq hf=>by
  obtain ⟨y,L,Q,N,y4⟩:=w.slot (d:=p.1) (f:=p.2) P
  have b:=back i j u B t
  rw [y4] at b
  have s:=A.sl j
  rw [t,eq] at s
  have s:some (u.d,u.f)=some q:=s
  refine ⟨y,L,by injection b with b;injection b,?_⟩
  rw [N,show u.f=q.2 by injection s with s;rw [<- s]]
  exact hf
 refine ⟨g2,⟨by rw [J];exact w.len,fun i=>?_,fun i u h=>?_,fun i u h=>?_,fun u hu=>?_,fun i k a b n ha F=>?_,fun i a h b F=>?_,A.tt.sublist ((List.Sublist.refl R).append (BI _ T)),A.base,w.pro,⟨fun u hu hf=>?_,fun i u h Y hf a ea=>?_,A.fx.bin,fun b o F=>?_,fun i u h J=>?_⟩⟩⟩
 ·show (match inv i with | some j=>gC j | none=>g i).map _=_
  cases D:inv i with
  | none=>rw [h2 i (r i D)];exact w.sl i
  | some j =>
   obtain ⟨p,q,a,b,c,_⟩:=h3 j i (l i j D)
   rw [c,<- b];exact A.sl j
 ·rcases val i u h with ⟨j,p,q,B,t,_⟩ | ⟨C,e⟩
  ·exact back i j u B t
  ·exact w.sv i u e
 ·rcases val i u h with ⟨j,p,q,B,t,_⟩ | ⟨C,e⟩
  ·have ok:=A.okS j u t
   exact ⟨ok.rep,ok.own,ok.src⟩
  ·have ok:=A.okT u (By _ (Bx _ (out i u C e)))
   exact ⟨ok.rep,ok.own,ok.src⟩
 ·have ok:=A.okT u (by
   rcases BD.mp hu with q | q
   ·exact Bx _ q
   ·exact By _ (By _ q))
  exact ⟨ok.rep,ok.own,ok.src⟩
 ·rcases val i a ha with ⟨j,p,q,B,t,_⟩ | ⟨C,e⟩
  ·rcases val k b F with ⟨S,p',q',I,E,_⟩ | ⟨M,U⟩
   ·exact A.ss j S a b (fun z=>n (by subst z;rw [B] at I;injection I with z;injection z)) t E
   ·exact (A.st j a t b (By _ (Bx _ (out k b M U)))).1
  ·rcases val k b F with ⟨S,p',q',I,E,_⟩ | ⟨M,U⟩
   ·exact (A.st S b E a (By _ (Bx _ (out i a C e)))).2
   ·exact w.ss i k a b n e U
 ·have X:b ∈ R ++ (oR ix ρ.length g ++ T):=by
   rcases BD.mp F with q | q
   ·exact Bx _ q
   ·exact By _ (By _ q)
  rcases val i a h with ⟨j,p,q,B,t,_⟩ | ⟨C,e⟩
  ·exact A.st j a t b X
  ·rcases BD.mp F with q | q
   ·exact ((List.pairwise_append.mp A.tt).2.2 b q a (Bx _ (out i a C e))).symm
   ·exact w.st i a e b q
 ·rcases BD.mp hu with q | q
  ·exact absurd (hR u q) hf
  ·exact w.fx.frT u q hf
 ·rcases val i u h with ⟨j,p,q,B,t,P,eq,V⟩ | ⟨C,e⟩
  ·obtain ⟨y,L,Q,N⟩:=O i j u p q B t P eq V
   refine w.fx.frS i y L Y (fun z=>hf ?_) a (by rw [Q];exact ea)
   rcases N with h | h
   ·rw [h];exact z
   ·exact h
  ·exact w.fx.frS i u e Y hf a ea
 ·obtain ⟨o',ho⟩:=w.fx.ob b o F
  have h0:=hH b o' ho
  by_cases q:G.bw b
  ·exact A.fx.bin b q
  ·exact ⟨o',A.base b o' h0 q⟩
 ·rcases val i u h with ⟨j,p,q,B,t,P,eq,V⟩ | ⟨C,e⟩
  ·obtain ⟨y,L,Q,N⟩:=O i j u p q B t P eq V
   rw [<- Q]
   refine w.fx.lvS i y L ?_
   rcases N with h | h
   ·rw [<- h];exact J
   ·rw [h] at J;cases J
  ·exact w.fx.lvS i u e J
theorem su {J:It} {H1:Hp} {ys els:List It3} {ds:List D} {bnd:D->Sto->Option Sto} {c:M3 Bool} {elt:EM} {tg:TG} {tc:TT} {te:TE} {Gc:Gm} {a:List It3} {g:List D} {τρ τρ':Sto} {gC:Nat->Option It3} {Z:List V->Hp->Prop} {M:Addr->Prop}
  (hz:(16777216:Nat)=sizeLine) (G:∀ x ∈ els,x ∈ a/\x.f=.z)
  (U:∀ H',(∀ b o,H1 b=some o->¬ Gc.bw b->H' b=some o)->(∀ (i:Nat) (d:D),ds[i]?=some d->J.go i H'/\∀ x j,J.yld i H' x j->∃ w,New K H' j (cX els) w/\w.d=d/\w.f=.z/\w.v=x)/\J.stop ds.length H')
  (h0:Gc.H0=H1) (hb:Bnd K Gc.pr tg bnd) (X:∀ σ H Q,tT K Gc (fun _ _=>False) c σ H Q->tc σ H Q) (T:∀ σ H Q,tE K Gc (fun _ _=>False) elt σ H Q->te σ H Q)
  (hlen:ds.length < 16777216) (w:Wf K Gc H1 τ τρ a gC) (e:bM bnd c elt ds τρ=some (.ok g,τρ'))
  (hZ:∀ (us:List It3) (τ':St) (H':Hp) (g':Nat->Option It3),(∀ x ∈ us,x.f=.z)->us.map (·.d)=g->Wf K Gc H' τ' τρ' (us ++ a) g'->Z (us.map (·.v)) H'):n6 J tg tc te Z τ H1:=by
 refine ⟨fun i m vs τ' H'=>i<=ds.length/\m=ds.length - i/\vs.length<=i/\∃ (us:List It3) (ρ2:Sto) (g2:Nat->Option It3) (r:List D),(∀ x ∈ us,x.f=.z)/\us.map (·.v)=vs/\Wf K Gc H' τ' ρ2 (us ++ a) g2/\bM bnd c elt (ds.drop i) ρ2=some (.ok r,τρ')/\us.map (·.d) ++ r=g,⟨_,Nat.zero_le _,rfl,BL _,[],τρ,gC,g,fun _ h=>(by cases h),rfl,w,e,rfl⟩,?_⟩
 rintro i m vs τ1 H2 ⟨hi,rfl,ar,us,ρ2,g2,r,B,s,O,L,k⟩
 refine ⟨by omega,?_⟩
 obtain ⟨R,t⟩:=U H2 fun b o ab hn=>O.base b o (by rw [h0];exact ab) hn
 by_cases n:i < ds.length
 ·obtain ⟨d,hd⟩:∃ d,ds[i]?=some d:=⟨_,BA n⟩
  have q:ds.drop i=d :: ds.drop (i+1):=by
   rw [List.drop_eq_getElem_cons n]
   rw [BA n] at hd
   cases hd;rfl
  rw [q] at L
  obtain ⟨go,yld⟩:=R i d hd
  refine .inr ⟨go,fun A τ5 S=>A.length<=i+1/\∃ (us:List It3) (ρ5:Sto) (g5:Nat->Option It3) (r:List D),(∀ x ∈ us,x.f=.z)/\us.map (·.v)=A/\Wf K Gc S τ5 ρ5 (us ++ a) g5/\bM bnd c elt (ds.drop (i+1)) ρ5=some (.ok r,τρ')/\us.map (·.d) ++ r=g,
   fun A τ5 S ⟨Y,h5⟩=>⟨ds.length - (i+1),by omega,n,rfl,Y,h5⟩,fun x j C=>?_⟩
  obtain ⟨u,nu,ud,uf,uv⟩:=yld x j C
  have w3:Wf K Gc j τ1 ρ2 (u :: (us ++ a)) g2:=O.push nu fun c hc=>O.alls (ys:=els) (fun y C=>⟨.inr (By _ (G y C).1),(G y C).2⟩) hc
  have I:(match bnd d ρ2 with
   | none=>none
   | some τ1=>ad c (fun b=>if b then ad elt (fun r=>ad (cL r) fun p=>ad (bM bnd c elt (ds.drop (i+1))) fun l=>aN (p.1 :: l)) else bM bnd c elt (ds.drop (i+1))) τ1)=some (.ok r,τρ'):=L
  cases W:bnd d ρ2 with
  | none=>rw [W] at I;exact nsE I
  | some ρ3 =>
   rw [W] at I
   dsimp only at I
   rw [<- uv]
   refine hb Gc j τ1 ρ2 ρ3 _ g2 u _ rfl uf w3 (by rw [ud];exact W) fun τ4 g4 w4=>?_
   refine X _ _ _ (tT.seq (Le.refl K Gc _) w4 I (fun x P=>by cases P) fun b ρ5 N S g5 w5=>?_)
   cases b with
   | false =>
    simp only [B2,if_false] at N ⊢
    exact ⟨by omega,us,ρ5,g5,r,B,s,w5,N,k⟩
   | true =>
    simp only [if_true] at N ⊢
    refine T _ _ _ (tE.seq (Le.refl K Gc _) w5 N (fun x P=>by cases P) fun ra ρ6 e6 v H6 ⟨Ts,g6,w6,a6⟩=>?_)
    obtain ⟨p,ρ7,g7,E,F,w7,f1,f2,_,f3⟩:=a6.take w6 e6
    have w8:=Wf.lowT (Ts:=[E]) w7
    unfold ad at F
    cases e8:bM bnd c elt (ds.drop (i+1)) ρ7 with
    | none=>rw [e8] at F;exact nsE F
    | some pr =>
     obtain ⟨o,ρ8⟩:=pr
     rw [e8] at F
     cases o with
     | error x=>cases F
     | ok l =>
      cases F
      refine ⟨by rw [BV];simp;omega,us ++ [cI E],ρ7,g7,l,fun y C=>?_,by rw [List.map_append,s,<- f3];rfl,?_,e8,?_⟩
      ·rcases BD.mp C with h | h
       ·exact B y h
       ·rw [B1.mp h];rfl
      ·exact w8.perm (by
        show ([cI E] ++ (us ++ a)).Perm (us ++ [cI E] ++ a)
        rw [<- List.append_assoc]
        exact (List.perm_append_comm).append_right a)
      ·rw [List.map_append,List.append_assoc]
       show us.map (·.d) ++ ((cI E).d :: l)=g
       rw [show (cI E).d=p.1 from f1]
       exact k
 ·have ei:i=ds.length:=by omega
  subst ei
  rw [List.drop_length] at L
  cases L
  rw [List.append_nil] at k
  subst s
  exact .inl ⟨t,hZ us τ1 H2 g2 B k O⟩
end
end L3
end
section
namespace L3
open PySem L2
section
variable {K:FG} {G G0:Gm} {W W0:D->Sto->Prop} {H H':Hp} {σ τ:St} {ρ ρ':Sto} {T T':List It3} {g:Nat->Option It3} {x y z:It3} {α β:Type} {ix:List (Option Nat)}
def bq (ix:List (Option Nat)):Gm:=⟨fun _=>none,fun _=>False,fun j=>((ix[j]?).join).isSome,[],fun _=>none,fun _=>False,fun _=>none⟩
abbrev noX:D->Sto->Prop:=fun _ _=>False
theorem qo (h:G1.pr=(bq ix).pr) (le:Le K G W G1 noX):Le K G W (bq ix) noX:=⟨le.pr.trans h,fun H σ ρ T g e w q=>by
 obtain ⟨_,_,_,_,f⟩:=le.ex H σ ρ T g e w q
 exact f.elim⟩
theorem ww (h:G1.pr=(bq ix).pr) (q:tE K G1 noX m σ H Q):tE K (bq ix) noX m σ H Q:=by
 obtain ⟨G,W,le,r⟩:=q
 exact ⟨G,W,qo h le,r⟩
theorem wn (h:G1.pr=(bq ix).pr) (q:tT K G1 noX m σ H Q):tT K (bq ix) noX m σ H Q:=by
 obtain ⟨G,W,le,r⟩:=q
 exact ⟨G,W,qo h le,r⟩
def dq:M3 Bool:=aN true
theorem zd (h:tT K G0 W0 dq σ H Q):tYes σ H Q:=by
 refine h.use fun G W le ρ T g o ρ' w e q=>?_
 cases e
 exact q _ _ w
theorem iV:∀ {ds a:List D} {τρ τρ':Sto},bM bnd c elt ds τρ=some (.ok a,τρ')->a.length<=ds.length
 | [],a,τρ,τρ',e=>by cases e;exact BL _
 | d :: ds,a,τρ,τρ',e=>by
  unfold bM at e
  split at e
  ·exact nsE e
  ·rename_i τ1 _
   unfold ad at e
   split at e
   ·exact nsE e
   ·cases e
   ·rename_i b τ2 _
    cases b with
    | false =>
     simp only [B2,if_false] at e
     have:=iV e
     simp;omega
    | true =>
     simp only [if_true] at e
     split at e
     ·exact nsE e
     ·cases e
     ·split at e
      ·exact nsE e
      ·cases e
      ·split at e
       ·exact nsE e
       ·cases e
       ·rename_i l τ5 f
        cases e
        have:=iV f
        simp;omega
theorem nO (hz:(16777216:Nat)=sizeLine) (A:Inj ix) (V:Bnd K (bq ix).pr tg bnd) (le:Le K G W G0 W0) (w:Wf K G H σ ρ T g) (e:cf im bnd c elt ix ρ=some (o,ρ')) (he:∀ x,o=.error x->W x ρ') (hZ:∀ (us:List It3) (H':Hp) (g':Nat->Option It3) (Ts:List It3) (ds:List D),o=.ok (.val (.lst ds) .u)->(∀ x ∈ us,x.f=.z)->us.map (·.d)=ds->us.length<=16777216->Wf K G H' σ ρ' (us ++ T) g'->Z (us.map (·.v)) H') :
  tI K G0 W0 im σ H fun J H1=>n6 J tg (tT K (bq ix) noX c) (tE K (bq ix) noX elt) Z (cap ix σ) H1:=by
 refine tI.seq le w e he fun p ρ1 e1=>?_
 intro J H1 vs Ts g1 ys n a1 E hw
 have F:=us_u (is:=pls p.1) n
 have S:∀ i y,i ∈ pls p.1->g1 i=some y->y.f=.u->i ∈ us ρ1 (pls p.1):=fun i y hi X hf=>sO n hi X hf
 generalize us ρ1 (pls p.1)=is at e1 F S
 have w2:=n.enter is
 obtain ⟨els,k,walk⟩:=hw
 have hM:∀ b,(∃ j y,j ∉ is/\g1 j=some y/\y.f=.u/\y.v=.ref b)->MutAt H1 b:=fun b ⟨j,y,_,X,hf,m⟩=>by
  obtain ⟨_,a,L',v1,v2,_⟩:=(n.okS j y X).own (by rw [hf];intro q;cases q)
  rw [m] at v1;cases v1
  exact (n.okS j y X).rep.inH b (by rw [v2];exact Bt)
 have I:∀ y ∈ ys,∀ b ∈ y.L,¬ ∃ j y,j ∉ is/\g1 j=some y/\y.f=.u/\y.v=.ref b:=fun y t b V ⟨j,Y,nj,l,hf,m⟩=>by
  have O:Y.f ≠ .z:=by rw [hf];intro q;cases q
  rcases E y t with ⟨i,hi,P⟩ | t
  ·by_cases ij:i=j
   ·subst ij
    rw [P] at l;cases l
    exact nj (S i y hi P hf)
   ·exact n.ss j i Y y (Ne.symm ij) l P O b m V
  ·exact (n.st j Y l y (Bx _ t)).1 O b m V
 have B:∀ y ∈ ys,Itm (Ts ++ T) g1 y:=fun y t=>by
  rcases E y t with ⟨i,_,P⟩ | h
  ·exact .inl ⟨i,P⟩
  ·exact .inr (Bx _ h)
 have kid:∀ x ∈ els,∀ c ∈ x.L,c7 ((Ts ++ T).map bm) (fun j=>if j ∈ is then (g1 j).map bm else g1 j) c/\(H1 c=none\/(G.H0 c=none\/G.src c)):=fun x r c hc=>by
  obtain ⟨nr,sr⟩:=n.kids B ((k x r).2.2 c hc)
  refine ⟨⟨fun i z s hf m=>?_,fun z hz hf m=>?_⟩,.inr sr⟩
  ·have s:(if i ∈ is then (g1 i).map bm else g1 i)=some z:=s
   by_cases q:i ∈ is
   ·rw [if_pos q] at s
    obtain ⟨z0,e0,e1⟩:=Bw.mp s
    subst e1
    exact nr.1 i z0 e0 (fun q=>hf (lentF_z.mpr q)) m
   ·rw [if_neg q] at s
    exact nr.1 i z s hf m
  ·obtain ⟨z0,h0,rfl⟩:=BJ.mp hz
   exact nr.2 z0 h0 (fun q=>hf (lentF_z.mpr q)) m
 have w3:Wf K (dl G H1 g1 is) H1 σ (aA bP is ρ1) (els ++ (Ts ++ T).map bm) (fun j=>if j ∈ is then (g1 j).map bm else g1 j):=w2.pushAll fun x r=>⟨(k x r).1,(k x r).2.1,fun c hc=>kid x r c hc⟩
 have w4:=w3.cap A
 cases U:bM bnd c elt p.2 (nQ ix (aA bP is ρ1)) with
 | none=>rw [U] at e1;exact nsE e1
 | some rr =>
  obtain ⟨o2,τρ⟩:=rr
  rw [U] at e1
  cases o2 with
  | error x=>exact nsE e1
  | ok ds =>
   dsimp only at e1
   split at e1
   ·rename_i hlen
    cases e3:uncap ix τρ (aA bP is ρ1) with
    | none=>rw [e3] at e1;exact nsE e1
    | some ρ3 =>
     rw [e3] at e1
     have eo:o=.ok (.val (.lst ds) .u)/\ρ'=aA d6 is ρ3:=by cases e1;exact ⟨rfl,rfl⟩
     obtain ⟨eo,eρ⟩:=eo
     refine su (K:=K) (Gc:=vK (dl G H1 g1 is) ix σ) (els:=els) (M:=fun _=>False) (ys:=ys) hz (fun x r=>⟨By _ (Bx _ r),(k x r).1⟩) (fun H' hk=>walk _ H' hM hk I) rfl V (fun σ' H Q q=>wn (G1:=vK (dl G H1 g1 is) ix σ) rfl q) (fun σ' H Q q=>ww (G1:=vK (dl G H1 g1 is) ix σ) rfl q) hlen w4 U fun us τ' H' g' C N w5=>?_
     obtain ⟨g6,w6⟩:=Wf.uncap w3 (fun b o h=>h) A e3 C w5
     have w7:=Wf.leave (T:=Ts ++ T) (T':=T) (R:=us) n F (BI Ts T) (w6.sub ((List.Sublist.refl us).append (by
      rw [List.map_append]
      exact (BI (Ts.map bm) (T.map bm)).trans (BI els _))))
     have hle:us.length<=16777216:=by
      have h1:us.length=ds.length:=by rw [<- N,BF]
      have h2:=iV U
      omega
     rw [<- eρ] at w7
     exact hZ us H' _ Ts ds eo C N hle w7
   ·exact nsE e1
theorem k8 {us:List It3} (w:Wf K G H σ ρ (us ++ T) g) (j:∀ x ∈ us,x.f=.z) (b:H p=none) :
  Wf K G (upd H p (.lst (us.map (·.v)))) σ ρ (⟨.lst (us.map (·.d)),.ref p,p :: (us.map (·.L)).flatten,.u⟩ :: T) g:=by
 have hi:∀ y ∈ us,Itm (us ++ T) g y/\y.f=.z:=fun y i=>⟨.inr (Bx _ i),j y i⟩
 have np:p ∉ (us.map (·.L)).flatten:=fun a=>by
  obtain ⟨y,hm,a⟩:=dU a
  obtain ⟨o,k⟩:=((w.itm (hi y hm).1).rep.inH p a).ex
  rw [b] at k;exact nsE k
 have n:New K H (upd H p (.lst (us.map (·.v)))) (cX us) ⟨.lst (us.map (·.d)),.ref p,p :: (us.map (·.L)).flatten,.u⟩:=⟨bI b,.lst aC ((jt fun y i=>(w.itm (hi y i).1).rep).same (bI b)),fun c a=>by
  rcases Bz.mp a with e | a
  ·rw [e];exact .inl b
  ·exact .inr (dU a),fun _=>⟨rfl,p,_,rfl,rfl,np,b⟩⟩
 exact (w.push n fun c h=>w.alls hi h).sub (List.Sublist.cons_cons _ (BI us T))
theorem wz (hz:(16777216:Nat)=sizeLine) (a:Inj ix) (j:Bnd K (bq ix).pr tg bnd) (h:tE K G0 W0 (cf im bnd c elt ix) σ H Q) :
  yE (tI K G0 W0 im) tg (tT K (bq ix) noX c) (tE K (bq ix) noX elt) ix σ H Q:=by
 refine h.use fun G W le ρ T g o ρ' w e q=>?_
 refine nO hz a j le w e q.err fun us H' g' Ts ds i f b n m=>?_
 subst i b
 intro p k
 have l:=k8 m f k
 exact q (.ref p) _ ⟨[_],g',l,Ar.val (⟨.lst (us.map (·.d)),.ref p,p :: (us.map (·.L)).flatten,.u⟩:It3)⟩
theorem ol {i:Nat} (hz:(16777216:Nat)=sizeLine) (b:Inj ix) (s:Bnd K (bq ix).pr tg bnd) (t:G0.pr i=false) (h:tS K G0 W0 (aX i (cf im bnd c elt ix)) E σ H) :
  yH i (tI K G0 W0 im) tg (tT K (bq ix) noX c) (tE K (bq ix) noX elt) ix E σ H:=by
 refine h.use fun G W le ρ T g r ρ' w e q=>?_
 unfold aX ad at e
 cases e1:cf im bnd c elt ix ρ with
 | none=>rw [e1] at e;exact nsE e
 | some pr =>
  obtain ⟨o,ρ1⟩:=pr
  rw [e1] at e
  have a:∀ x,o=.error x->W x ρ1:=fun x m=>by subst m;cases e;exact q
  refine nO hz b s le w e1 a fun us H' g' Ts ds n k j z y=>?_
  subst n j
  intro p l
  have v:=k8 y k l
  have e:(if i < ρ1.length then some ((.ok .nx,ρ1.set i (some (D.lst (us.map (·.d)),Fl.u))):Except D Flw × Sto) else none)=some (r,ρ'):=e
  split at e
  ·rename_i hi
   cases e
   exact q _ _ _ (v.store (f:=.u) hi (by rw [le.pr];exact t) (.inl rfl) (by intro h;cases h))
  ·exact nsE e
end
end L3
end
section
namespace L3
open PySem L2
section
variable {K:FG} {G G0:Gm} {W W0:D->Sto->Prop} {H H':Hp} {σ:St} {ρ ρ':Sto} {T T':List It3} {g:Nat->Option It3} {x y z:It3} {α β:Type}
theorem Wf.mutate {i:Nat} (w:Wf K G H σ ρ T g) (C:g i=some y) (hu:y.f=.u) (ev:y.v=.ref a) (hm:ie d'=true) (rep:Rep K (upd H a o') d' (.ref a) (a :: B)) (na:a ∉ B) (Q:∀ c ∈ B,c7 T g c/\(G.H0 c=none\/G.src c)):Wf K G (upd H a o') σ (ρ.set i (some (d',.u))) T (fun j=>if j=i then some ⟨d',.ref a,a :: B,.u⟩ else g j):=by
 have x:y.f ≠ .z:=by rw [hu];intro q;cases q
 have S:=w.okS i y C
 obtain ⟨_,a',L',v1,v2,v3,v4⟩:=S.own x
 rw [ev] at v1;cases v1
 have hi:i < ρ.length:=by
  have:=w.sl i
  rw [C] at this
  exact c5 this.symm
 have ma:MutAt H a:=S.rep.inH a (by rw [v2];exact Bt)
 have val:∀ j u,(if j=i then some (⟨d',.ref a,a :: B,.u⟩:It3) else g j)=some u->(j=i/\u=⟨d',.ref a,a :: B,.u⟩)\/(j ≠ i/\g j=some u):=fun j u h=>by
  by_cases q:j=i
  ·rw [if_pos q] at h;cases h;exact .inl ⟨q,rfl⟩
  ·rw [if_neg q] at h;exact .inr ⟨q,h⟩
 have keep:∀ u,ItOk K G H u->a ∉ u.L->ItOk K G (upd H a o') u:=fun u ou hn=>ou.keep (M:=fun b=>b=a) (fun b o r n=>by rw [aq n];exact r) (fun b e=>by rw [e];exact ma) fun b r e=>hn (by rw [<- e];exact r)
 have W:∀ j u,j ≠ i->g j=some u->a ∉ u.L:=fun j u n e=>w.ss i j y u (Ne.symm n) C e x a ev
 have R:∀ u ∈ T,a ∉ u.L:=fun u m=>(w.st i y C u m).1 x a ev
 have I:∀ b o,H b=some o->∃ X,upd H a o' b=some X:=fun b o r=>by
  by_cases q:b=a
  ·rw [q,aC];exact ⟨_,rfl⟩
  ·rw [aq q];exact ⟨o,r⟩
 refine ⟨by rw [List.length_set];exact w.len,fun j=>?_,fun j u h=>?_,fun j u h=>?_,fun u m=>keep u (w.okT u m) (R u m),fun j k p q n N Y=>?_,fun j u h t D=>?_,w.tt,fun b o e n=>?_,w.pro,⟨w.fx.frT,fun j u h N hf b O=>?_,fun b r=>?_,fun b o r=>?_,fun j u h U=>?_⟩⟩
 ·rw [bK hi]
  by_cases q:j=i
  ·rw [if_pos q,if_pos q];rfl
  ·rw [if_neg q,if_neg q];exact w.sl j
 ·rcases val j u h with ⟨rfl,rfl⟩ | ⟨n,h⟩
  ·rw [w.sv j y C,ev]
  ·exact w.sv j u h
 ·rcases val j u h with ⟨rfl,rfl⟩ | ⟨n,h⟩
  ·refine ⟨rep,fun _=>⟨hm,a,B,rfl,rfl,na,fun _=>v4 hu⟩,fun c d=>?_⟩
   rcases Bz.mp d with e | d
   ·rw [e];exact S.src a (by rw [v2];exact Bt)
   ·exact (Q c d).2
  ·exact keep u (w.okS j u h) (W j u n h)
 ·rcases val j p N with ⟨J,ep⟩ | ⟨n1,s⟩
  ·rcases val k q Y with ⟨Z,eq⟩ | ⟨n2,A⟩
   ·exact absurd (J.trans Z.symm) n
   ·rw [ep]
    intro _ c l
    cases l
    exact W k q n2 A
  ·rcases val k q Y with ⟨Z,eq⟩ | ⟨n2,A⟩
   ·rw [eq]
    intro hf c l d
    rcases Bz.mp d with e | d
    ·obtain ⟨_,b,L2,F,P,_⟩:=(w.okS j p s).own hf
     rw [l] at F;cases F
     exact W j p n1 s (by rw [<- e,P];exact Bt)
    ·exact (Q c d).1.1 j p s hf l
   ·exact w.ss j k p q n s A
 ·rcases val j u h with ⟨J,E⟩ | ⟨n,h'⟩
  ·rw [E]
   refine ⟨fun _ c l=>by cases l;exact R t D,fun hf c l d=>?_⟩
   rcases Bz.mp d with e | d
   ·obtain ⟨_,b,L2,F,P,_⟩:=(w.okT t D).own hf
    rw [l] at F;cases F
    exact R t D (by rw [<- e,P];exact Bt)
   ·exact (Q c d).1.2 t D hf l
  ·exact w.st j u h' t D
 ·have:b ≠ a:=fun z=>by
   subst z
   rcases v4 hu with h | h
   ·rw [e] at h;cases h
   ·exact n h
  rw [aq this];exact w.base b o e n
 ·rcases val j u h with ⟨J,E⟩ | ⟨n,h'⟩
  ·subst J
   rw [E] at O
   cases O
   exact w.fx.frS j y C N x a ev
  ·exact w.fx.frS j u h' N hf b O
 ·obtain ⟨o,V⟩:=w.fx.bin b r
  exact I b o V
 ·obtain ⟨o2,V⟩:=w.fx.ob b o r
  exact I b o2 V
 ·rcases val j u h with ⟨J,E⟩ | ⟨n,h'⟩
  ·rw [E] at U;cases U
  ·exact w.fx.lvS j u h' U
def MutD (K:FG) (r:V->List V->Hp->VK->Prop) (f:D->List D->Option (D × D)):Prop:=∀ (a:Addr) (d:D) (b:List Addr) (as:List It3) (H:Hp) (Q:VK) (p:D × D),Rep K H d (.ref a) (a :: b)->ie d=true->a ∉ b->(∀ x ∈ as,Rep K H x.d x.v x.L)->(∀ x ∈ as,a ∉ x.L)->f d (as.map (·.d))=some p ->
 (∀ (o':HO) (e:List Addr) (w:It3),Rep K (upd H a o') p.1 (.ref a) (a :: e)->ie p.1=true->(∀ c ∈ e,c ∈ b\/cX as c)->w.f=.z->w.d=p.2->Rep K (upd H a o') w.d w.v w.L->(∀ c ∈ w.L,c ∈ b\/cX as c)->Q w.v (upd H a o'))->r (.ref a) (as.map (·.v)) H Q
def chk (ok:D->Bool) (i:Nat):M3 Unit:=fun ρ=>match (ρ[i]?).join with
 | some (d,_)=>if ok d then some (.ok (),ρ) else none
 | none=>none
theorem mm {i:Nat} (e:ad (ac i) k ρ=some (r,ρ')):∃ p,(ρ[i]?).join=some p/\k (.pl i) ρ=some (r,ρ'):=by
 unfold ad ac at e
 cases q:(ρ[i]?).join with
 | none=>rw [q] at e;exact nsE e
 | some p=>rw [q] at e;exact ⟨p,rfl,e⟩
theorem vH {i:Nat} (e:ad (chk ok i) k ρ=some (r,ρ')):(∀ p,(ρ[i]?).join=some p->ok p.1=true)/\k () ρ=some (r,ρ'):=by
 unfold ad chk at e
 cases q:(ρ[i]?).join with
 | none=>rw [q] at e;exact nsE e
 | some p =>
  rw [q] at e
  dsimp only at e
  cases h:ok p.1 with
  | false=>rw [h] at e;exact nsE e
  | true=>rw [h] at e;exact ⟨fun b a=>by cases a;exact h,e⟩
def o5 (ok:D->Bool) (f:D->List D->Option (D × D)) (i:Nat) (ms:M3 (List R3)):EM:=ad (ac i) fun _=>ad (chk ok i) fun _=>ad ms fun rs=>ad (gives rs) fun ds=>fun ρ=>match (ρ[i]?).join with
 | some (d,.u)=>match f d ds with
  | some p=>some (.ok (.val p.2 .z),ρ.set i (some (p.1,.u)))
  | none=>none
 | _=>none
theorem Wf.changed {i:Nat} {as us:List It3} (Y:MutD K r f) (w:Wf K G H σ ρ (us ++ T) g) (e:(ρ[i]?).join=some (d,.u)) (O:σ[i]?=some (some v)) (D:∀ y ∈ as,Itm (us ++ T) g y/\y.f=.z) (W:f d (as.map (·.d))=some p) (q:∀ v H',Got K G σ (ρ.set i (some (p.1,.u))) T (.val p.2 .z) v H'->Q v H'):r v (as.map (·.v)) H Q:=by
 obtain ⟨y,A,J,M,t⟩:=w.slot e
 rw [O] at t
 injection t with t
 injection t with t
 have n:y.f ≠ .z:=by rw [M];intro q;cases q
 have F:=w.okS i y A
 obtain ⟨m,a,E,v1,v2,v3,_⟩:=F.own n
 have ra:=F.rep
 rw [v1,v2,J] at ra
 rw [J] at m
 rw [t,v1]
 have na:∀ x ∈ as,a ∉ x.L:=fun x o b=>by
  have:=(w.kid (D x o).1 b fun hf=>absurd (D x o).2 hf).1 i y A n
  exact this v1
 refine Y a d E as H Q p ra m v3 (fun x o=>(w.itm (D x o).1).rep) na W fun o' U u P V s1 N R Z C=>?_
 have k:∀ c,(c ∈ E\/cX as c)->c7 (us ++ T) g c/\(G.H0 c=none\/G.src c):=fun c b=>by
  rcases b with b | b
  ·have B:c ∈ y.L:=by rw [v2];exact Bu _ b
   exact ⟨w.kid (.inl ⟨i,A⟩) B fun _ l=>by rw [v1] at l;cases l;exact v3 b,F.src c B⟩
  ·exact w.alls D b
 have I:∀ c,(c ∈ E\/cX as c)->c ≠ a:=fun c b z=>(k c b).1.1 i y A n (by rw [z];exact v1)
 have X:=w.mutate (o':=o') A M v1 V P (fun h=>I a (s1 a h) rfl) fun c b=>k c (s1 c b)
 have S:=X.pushAll (ws:=[u]) fun x o=>by
  rw [B1.mp o]
  refine ⟨N,Z,fun c b=>?_⟩
  have s:=k c (C c b)
  refine ⟨⟨fun j z l hf hz=>?_,s.1.2⟩,s.2⟩
  have l:(if j=i then some (⟨p.1,.ref a,a :: U,.u⟩:It3) else g j)=some z:=l
  by_cases q:j=i
  ·rw [if_pos q] at l
   cases l
   cases hz
   exact I a (C a b) rfl
  ·rw [if_neg q] at l
   exact s.1.1 j z l hf hz
 rw [<- R,<- N] at q
 exact q u.v _ ⟨[u],_,S.sub ((List.Sublist.refl [u]).append (BI us T)),.val u⟩
theorem zu {i:Nat} (F:MutD K r f) (hok:∀ d v L H,ok d=true->Rep K H d v L->tyV K Ty v H) (h:tE K G0 W0 (o5 ok f i ms) σ H Q):tBM K Ty r (qY i) (tA K G0 W0 ms) σ H Q:=by
 refine h.use fun G W le ρ T g o ρ' w e q=>?_
 obtain ⟨s,k,e⟩:=mm e
 obtain ⟨A,e⟩:=vH e
 obtain ⟨t,f0⟩:=s
 obtain ⟨y,x,n,J,j⟩:=w.slot k
 refine ⟨y.v,j,hok t y.v y.L H (A _ k) (by rw [<- n];exact (w.okS i y x).rep),?_⟩
 refine tA.seq le w e q.err fun rs ρ1 e1 I H1 Ts g1 D a1=>?_
 obtain ⟨ds,ρ2,g2,a,_,B,_,ys,C,f1,f2⟩:=a1.gives D e1
 subst f1 f2
 cases b:(ρ2[i]?).join with
 | none=>rw [b] at a;exact nsE a
 | some p3 =>
  obtain ⟨E,m⟩:=p3
  rw [b] at a
  cases m with
  | u =>
   dsimp only at a
   cases c:f E (ys.map (·.d)) with
   | none=>rw [c] at a;exact nsE a
   | some p =>
    rw [c] at a
    cases a
    exact B.changed F b j C c q
  | l=>exact nsE a
  | z=>exact nsE a
def jM (t:V->V->V->Hp->(Hp->Prop)->Prop):V->List V->Hp->VK->Prop:=fun x a H Q=>∃ k v,a=[k,v]/\t x k v H fun H'=>Q .non H'
def lA (f:D->List D->Option (D × D)) (i:Nat) (mk a:EM):SM:=ad a fun b=>ad (ac i) fun _=>ad mk fun c=>ad (gives [c,b]) fun ds=>fun ρ=>match (ρ[i]?).join with
 | some (d,.u)=>match f d ds with
  | some p=>some (.ok .nx,ρ.set i (some (p.1,.u)))
  | none=>none
 | _=>none
theorem zf {i:Nat} (S:MutD K (jM t) f) (h:tS K G0 W0 (lA f i mk mv) E σ H):sY (tE K G0 W0 mv) (gSub (qY i) (tE K G0 W0 mk) t) E σ H:=by
 refine h.use fun G W le ρ T g r ρ' w e q=>?_
 refine tE.seq le w e q.err fun F ρ1 e1 v H1 ⟨Ts,g1,m,a1⟩=>?_
 obtain ⟨A,P,e1⟩:=mm e1
 obtain ⟨V,f0⟩:=A
 obtain ⟨y,X,U,Y,k⟩:=m.slot P
 refine ⟨y.v,k,?_⟩
 ·refine tE.seq le m e1 q.err fun L ρ2 C M H2 ⟨Us,g2,I,a2⟩=>?_
  have D:Ars σ [L,F] [M,v] (([] ++ Ts) ++ Us):=.cons a2 (.cons a1 .nil)
  have x:Wf K G H2 σ ρ2 ((([] ++ Ts) ++ Us) ++ T) g2:=I.perm (by
   rw [List.nil_append,<- List.append_assoc]
   exact (List.perm_append_comm).append_right T)
  obtain ⟨ds,ρ3,g3,a,_,s,_,ys,J,f1,f2⟩:=D.gives x C
  subst f1
  cases c:(ρ3[i]?).join with
  | none=>rw [c] at a;exact nsE a
  | some p3 =>
   obtain ⟨R,n⟩:=p3
   rw [c] at a
   cases n with
   | u =>
    dsimp only at a
    cases b:f R (ys.map (·.d)) with
    | none=>rw [b] at a;exact nsE a
    | some p =>
     rw [b] at a
     cases a
     have:=s.changed (Q:=fun _ H'=>E.nx σ H') S c k J b fun N H' ⟨B,Z,O,a5⟩=>q _ _ _ (O.sub (BI B T))
     rw [f2] at this
     obtain ⟨k',N,j,o⟩:=this
     cases j
     exact o
   | l=>exact nsE a
   | z=>exact nsE a
end
end L3
end
section
namespace L3
open PySem L2
structure RE (X:Cx) (G0:Gm) (W0:D->Sto->Prop) (e:Expr) (m:EM):Prop where
 h:PE X e (tE X.K G0 W0 m)
structure RT (X:Cx) (G0:Gm) (W0:D->Sto->Prop) (e:Expr) (m:M3 Bool):Prop where
 h:PT X e (tT X.K G0 W0 m)
structure RW (X:Cx) (G0:Gm) (W0:D->Sto->Prop) (e:Expr) (m:M3 Bool):Prop where
 h:PW X e (tT X.K G0 W0 m)
structure RA (X:Cx) (G0:Gm) (W0:D->Sto->Prop) (es:List Expr) (m:M3 (List R3)):Prop where
 h:PA X es (tA X.K G0 W0 m)
structure RS (X:Cx) (G0:Gm) (W0:D->Sto->Prop) (s:Stmt) (m:SM):Prop where
 h:PS X s (tS X.K G0 W0 m)
structure RSs (X:Cx) (G0:Gm) (W0:D->Sto->Prop) (s:List Stmt) (m:SM):Prop where
 h:PSs X s (tS X.K G0 W0 m)
structure RI (X:Cx) (G0:Gm) (W0:D->Sto->Prop) (tg iter:Expr) (m:IM):Prop where
 h:PI X tg iter (tI X.K G0 W0 m)
structure RG (X:Cx) (pr:Nat->Bool) (target:Expr) (bnd:D->Sto->Option Sto):Prop where
 h:∃ tg,PG X target tg/\Bnd X.K pr tg bnd
structure RGs (X:Cx) (pr:Nat->Bool) (targets:List Expr) (bnd:List D->Sto->Option Sto):Prop where
 h:∃ tg,PGs X targets tg/\wk X.K pr tg bnd
theorem PE.imp (h:PE X e t) (f:∀ σ H Q,t' σ H Q->t σ H Q):PE X e t':=fun pins s σ H Q I q=>h pins s σ H Q I (f σ H Q q)
theorem PT.imp (h:PT X e t) (f:∀ σ H Q,t' σ H Q->t σ H Q):PT X e t':=fun pins s σ H Q I q=>h pins s σ H Q I (f σ H Q q)
theorem PW.imp (h:PW X e t) (f:∀ σ H Q,t' σ H Q->t σ H Q):PW X e t':=fun wh pins s σ H Q I q=>h wh pins s σ H Q I (f σ H Q q)
theorem PA.imp (h:PA X e t) (f:∀ σ H Q,t' σ H Q->t σ H Q):PA X e t':=fun pos pins s σ H Q I q=>h pos pins s σ H Q I (f σ H Q q)
theorem PS.imp (h:PS X e t) (f:∀ D σ H,t' D σ H->t D σ H):PS X e t':=fun pins s σ H D I q=>h pins s σ H D I (f D σ H q)
theorem PSs.imp (h:PSs X e t) (f:∀ D σ H,t' D σ H->t D σ H):PSs X e t':=fun pins s σ H D I q=>h pins s σ H D I (f D σ H q)
theorem PI.imp (h:PI X tg e t) (f:∀ σ H R,t' σ H R->t σ H R):PI X tg e t':=fun pins s σ H R I q=>h pins s σ H R I (f σ H R q)
theorem szl:(16777216:Nat)=sizeLine:=by rw [sizeLine_eq]
section
variable {X:Cx} {G0:Gm} {W0:D->Sto->Prop} {a b c e:Expr} {es:List Expr} {pos:Pos} {ma mb mc m:EM} {ms:M3 (List R3)} {t u:M3 Bool} {eK:List Expr}
theorem lD (i:Nat) (c:X.N[i]?=some x) (b:Vis X.env.scope x) (hd:(x == ("__debug__":Str))=false) (a:(x == ("__classdict__":Str))=false):RE X G0 W0 (.Name x pos) (ac i):=⟨PE.imp (lH c b hd a) fun _ _ _ h=>zq h⟩
theorem zX:RE X G0 W0 (.Constant (.int i) j pos) (mC (.int i)):=⟨PE.imp lI fun _ _ _ h=>eO (fun _=>.int i) h⟩
theorem re_bl:RE X G0 W0 (.Constant (.bool i) j pos) (mC (.bl i)):=⟨PE.imp pe_bl fun _ _ _ h=>eO (fun _=>.bl i) h⟩
theorem zU:RE X G0 W0 (.Constant .none j pos) (mC .non):=⟨PE.imp Al fun _ _ _ h=>eO (fun _=>.non) h⟩
theorem zR:RE X G0 W0 (.Constant (.str i) j pos) (mC (.str i)):=⟨PE.imp ux fun _ _ _ h=>eO (fun _=>.str i) h⟩
theorem mP {i:Int} (a:Gl X x) (hm:X.mg x=some (.int i tk)) (hd:(x == ("__debug__":Str))=false):RE X G0 W0 (.Name x pos) (mC (.int i)):=⟨PE.imp (xu (v:=V.int i) a hm ⟨_,rfl⟩ hd) fun _ _ _ h=>eO (fun _=>.int i) h⟩
theorem iI (e:OpR X (binaryOp op) r) (hd:OpD X.K r f) (c:RE X G0 W0 a ma) (d:RE X G0 W0 b mb):RE X G0 W0 (.BinOp a op b pos) (af f ma mb):=⟨PE.imp (pe_op e c.h d.h) fun _ _ _ h=>lq hd h⟩
theorem re_un (c:UnR X (unaryOp op) r) (hd:UnD X.K r f) (b:RE X G0 W0 a ma):RE X G0 W0 (.UnaryOp op a pos) (mUn f ma):=⟨PE.imp (pe_un c b.h) fun _ _ _ h=>yB hd h⟩
theorem oI (e:OpR X (compareOp op) r) (hd:OpD X.K r f) (c:RE X G0 W0 a ma) (d:RE X G0 W0 b mb) (hm:behindInMarks op b=false):RE X G0 W0 (.Compare a [op] [b] pos) (af f ma mb):=⟨PE.imp (xw e c.h d.h hm) fun _ _ _ h=>lq hd h⟩
theorem re_ix (g:IxR X r) (hd:OpD X.K r f) (d:RE X G0 W0 a ma) (e:RE X G0 W0 b mb) (c:qQ b):RE X G0 W0 (.Subscript a b pos) (af f ma mb):=⟨PE.imp (pe_ix g d.h e.h c) fun _ _ _ h=>lq hd h⟩
theorem z4 (c:RE X G0 W0 a ma) (d:RE X G0 W0 (.BoolOp .And (b :: eK) pos) mb):RE X G0 W0 (.BoolOp .And (a :: b :: eK) pos) (cH ma mb):=⟨PE.imp (Ap c.h d.h) fun _ _ _ h=>zw h⟩
theorem zS (h:RE X G0 W0 a ma):RE X G0 W0 (.BoolOp op [a] pos) ma:=⟨Aj h.h⟩
theorem zT (b:RE X G0 W0 a ma):RE X G0 W0 (.UnaryOp .Not a pos) (nt ma):=⟨PE.imp (Ak b.h) fun _ _ _ h=>zt h⟩
def cG (f b:D->D->Option (D × Fl)) (ma mb mc:EM):EM:=ad ma fun ra=>ad mb fun rb=>ad (der ra) fun da=>ad (der rb) fun db=>ad (aO ((f da db).bind fun p=>asB p.1)) fun k=>if k then ad mc fun rc=>ad (der rb) fun db=>ad (der rc) fun a=>aO ((b db a).map fun p=>R3.val p.1 p.2) else aN (.val (.bl false) .z)
theorem zG (b:RE X G0 W0 a ma) (he:∀ whole,isTrue a X.env whole=(do let v <- whole;standAt a.pos;holding [v] (truthy v))):RT X G0 W0 a (cB ma):=⟨PT.imp (Aa b.h he) fun _ _ _ h=>tT_b h⟩
theorem rt_w (h:RW X G0 W0 a t):RT X G0 W0 a t:=⟨h.h.pt⟩
theorem zE (b:RT X G0 W0 a t):RW X G0 W0 (.BoolOp .Or [a] pos) t:=⟨z8 b.h⟩
theorem rw_or (c:RT X G0 W0 a t) (d:RW X G0 W0 (.BoolOp .Or (b :: eK) pos) u):RW X G0 W0 (.BoolOp .Or (a :: b :: eK) pos) (cOr t u):=⟨PW.imp (pw_or c.h d.h) fun _ _ _ h=>tT_or h⟩
theorem zH (b:RT X G0 W0 a t):RT X G0 W0 (.UnaryOp .Not a pos) (cy t):=⟨PT.imp (lF b.h) fun _ _ _ h=>ze h⟩
theorem t8:RA X G0 W0 [] ae:=⟨PA.imp lL fun _ _ _ h=>zx h⟩
theorem p7 (b:RE X G0 W0 e m) (c:RA X G0 W0 es ms) (a:starEach (e :: es) X.env=(false,eval e X.env) :: starEach es X.env):RA X G0 W0 (e :: es) (aa m ms):=⟨PA.imp (gw b.h c.h a) fun _ _ _ h=>wA h⟩
theorem zQ (h:RA X G0 W0 es ms):RE X G0 W0 (.Tuple es x1 pos) (aS ms):=⟨PE.imp (uw h.h) fun _ _ _ h=>zr szl h⟩
theorem zV (h:RA X G0 W0 es ms):RE X G0 W0 (.List es pos) (aW ms):=⟨PE.imp (Am h.h) fun _ _ _ h=>zv szl h⟩
theorem cN {id:String} (d:bX X (.builtin id) r) (hd:dG X.K r f) (g:Gl X x) (hm:X.mg x=none) (j:bootBuiltins x=some (.builtin id)) (c:RA X G0 W0 (e :: es) ms) (i:x ≠ "__name__") (b:(x == ("__debug__":Str))=false) (he:starEach (e :: es) X.env=(false,eval e X.env) :: starEach es X.env) (a:(backTo pos (starEach es X.env)).any (·.1)=false):RE X G0 W0 (.Call (.Name x p) (e :: es) [] pos) (ao f ms):=⟨PE.imp (jQ d g hm j c.h i b he a) fun _ _ _ h=>jC hd h⟩
theorem kH (d:bX X (.type T) r) (hd:dG X.K r f) (g:Gl X x) (hm:X.mg x=none) (j:bootBuiltins x=some (.type T)) (c:RA X G0 W0 (e :: es) ms) (i:x ≠ "__name__") (b:(x == ("__debug__":Str))=false) (he:starEach (e :: es) X.env=(false,eval e X.env) :: starEach es X.env) (a:(backTo pos (starEach es X.env)).any (·.1)=false):RE X G0 W0 (.Call (.Name x p) (e :: es) [] pos) (ao f ms):=⟨PE.imp (kI d g hm j c.h i b he a) fun _ _ _ h=>jC hd h⟩
variable {st:Stmt} {sts:List Stmt} {sm sn:SM}
theorem wP:RSs X G0 W0 [] dS:=⟨PSs.imp xk fun _ _ _ h=>zm h⟩
theorem tW (h1:RS X G0 W0 st sm) (h2:RSs X G0 W0 sts sn):RSs X G0 W0 (st :: sts) (aF sm sn):=⟨PSs.imp (uj h1.h h2.h) fun _ _ _ h=>zh h⟩
theorem wO (h1:RS X G0 W0 st sm):RSs X G0 W0 [st] sm:=⟨xj h1.h⟩
theorem wQ (he:RE X G0 W0 e m) (a:swapsWith e none pos.line X.env=pure false):RS X G0 W0 (.Expr e pos) (eS m):=⟨PS.imp (xl he.h a) fun _ _ _ h=>wo h⟩
theorem zK (np:Nat) (a:∀ i,np<=i->G0.pr i=false) (he:RE X G0 W0 e m):RS X G0 W0 (.Return (some e) pos) (bf np m):=⟨PS.imp (Ac he.h) fun _ _ _ h=>zj a h⟩
theorem rs_if (b:RT X G0 W0 c t) (a:RSs X G0 W0 x sm) (d:RSs X G0 W0 y sn):RS X G0 W0 (.If c x y pos) (sIf t sm sn):=⟨PS.imp (ps_if b.h a.h d.h) fun _ _ _ h=>tS_if h⟩
theorem zJ (i:Nat) (d:X.N.Nodup) (hi:X.N[i]?=some x) (a:Loc X.env.scope x) (he:RE X G0 W0 e m) (c:swapsWith e (some (.Name x pos')) pos.line X.env=pure false) (hf:X.fn x=true\/X.env.scope.names.lookup x=some .local) (b:G0.pr i=false):RS X G0 W0 (.Assign [.Name x pos'] e pos) (aX i m):=⟨PS.imp (Ab d hi a he.h c hf) fun _ _ _ h=>zg b h⟩
theorem tX (d:PassesOwn (model X.prog X.w) X.A X.env X.xe) (a:RT X G0 W0 c t) (b:RSs X G0 W0 body sm):RS X G0 W0 (.While c body [] pos) (eR t sm):=⟨PS.imp (uk d a.h b.h) fun _ _ _ h=>sV h⟩
theorem zM (c:PassesOwn (model X.prog X.w) X.A X.env X.xe) (a:X.calm=true) (hi:RI X G0 W0 tg iter im) (e:RG X G0.pr tg bnd) (b:RSs X G0 W0 body sm) (d:∀ x,foldedSetIterable iter X.env x=pure x):RS X G0 W0 (.For tg iter body [] pos) (cE im bnd sm):=by
 obtain ⟨g,h1,h2⟩:=e.h
 exact ⟨PS.imp (Ae c a hi.h h1 b.h d) fun _ _ _ h=>zn h2 h⟩
theorem pZ (i:Nat) (c:X.N.Nodup) (hi:X.N[i]?=some x) (a:Loc X.env.scope x) (hf:X.fn x=true\/X.env.scope.names.lookup x=some .local) (b:pr i=false):RG X pr (.Name x pos) (aj i):=⟨_,jv c hi a hf,iy b⟩
theorem wY:RGs X pr [] fO:=⟨_,qe,nX⟩
theorem t4 (h1:RG X pr e bn) (h2:RGs X pr es bs) (a:(assignEach (e :: es) X.env).map (·.2)=assign e X.env :: (assignEach es X.env).map (·.2)):RGs X pr (e :: es) (bG bn bs):=by
 obtain ⟨g,a1,a2⟩:=h1.h
 obtain ⟨b,b1,b2⟩:=h2.h
 exact ⟨_,jP a1 b1 a,iX a2 b2⟩
theorem zP {k n:Nat} (b:X.calm=true) (h:RGs X pr es bs) (c:(assignEach es X.env).length=n) (a:(assignEach es X.env).findIdx? (·.1)=none):RG X pr (.Tuple es k pos) (fN n bs):=by
 obtain ⟨d,b1,b2⟩:=h.h
 exact ⟨_,uu b b1 c a,qL b2⟩
theorem xa (NY:List Str) (ix:List (Option Nat)) (d:X.calm=true) (hi:RI X G0 W0 tg iter im) (e:∀ s H C fp,PTs (aG X NY scope s H C fp) ifs (tT X.K (bq ix) noX cm)) (he:∀ s H C fp,RE (aG X NY scope s H C fp) (bq ix) noX elt em) (g:fq scope X.N X.env.scope NY ix=true) (b:Inj ix) (f:∀ x,foldedSetIterable iter X.env x=pure x) (c:∃ a,Bnd X.K (bq ix).pr a bnd/\∀ s H C fp,PG (aG X NY scope s H C fp) tg a):RE X G0 W0 (.ListComp elt [⟨tg,iter,ifs,0⟩] scope pos) (cf im bnd cm em ix):=by
 obtain ⟨a,b1,b2⟩:=c
 exact ⟨PE.imp (xv NY ix d hi.h b2 e (fun s H C fp=>(he s H C fp).h) g f) fun _ _ _ h=>wz szl b b1 h⟩
end
end L3
end
section
namespace L3
open PySem L2
noncomputable def am (F:Fn) (ms:M3 (List R3)):EM:=ad ms fun rs=>fun ρ=>match prs (frz (jn rs) ρ) rs with
 | none=>none
 | some ps=>match F ps with
  | none=>none
  | some (.ok p,qs)=>if qs.length=ps.length then some (.ok (.val p.1 p.2),back rs ps qs (frz (jn rs) ρ)) else none
  | some (.error _,_)=>none
def qZ (K:FG) (F:Fn):Sp:=fun a H Q _=>∃ (ps:List It3) (p:D × Fl) (fs:List (D × Fl)),a=ps.map (·.v)/\(∀ p ∈ ps,Arg K H p)/\ps.Pairwise Apart3/\F (ps.map fun p=>(p.d,p.f))=some (.ok p,fs) /\
 ∀ x qs H',Behind K H H' ps qs x->x.d=p.1->x.f=p.2->qs.map (fun q=>(q.d,q.f))=fs->Q x.v H'
section
variable {K:FG} {G G0:Gm} {W W0:D->Sto->Prop} {H H':Hp} {σ:St} {ρ ρ':Sto} {T T':List It3} {g:Nat->Option It3} {x y z:It3} {α β:Type}
theorem sX (h:tE K G0 W0 (am F ms) σ H Q):tA K G0 W0 ms σ H fun n H1=>qZ K F n H1 Q E0:=by
 refine h.use fun G W le ρ T g o ρ' w e q=>?_
 refine tA.seq le w e q.err fun rs ρ1 e1 n H1 Ts g1 t a1=>?_
 obtain ⟨g2,d,N⟩:=Wf.frz (is:=jn rs) t
 cases k:prs (L3.frz (jn rs) ρ1) rs with
 | none=>rw [k] at e1;exact nsE e1
 | some pfs =>
  rw [k] at e1
  dsimp only at e1
  have hd:∀ i,2<=(pls rs).count i->∀ y,g2 i=some y->y.f=.z:=fun i J y s=>by
   have hm:i ∈ jn rs:=B3.mpr ⟨List.count_pos_iff.mp (by omega),by simpa using J⟩
   have s1:=d.sl i
   rw [s] at s1
   have L:∃ y0,g1 i=some y0:=by
    cases E:g1 i with
    | some y0=>exact ⟨y0,rfl⟩
    | none =>
     exfalso
     have s2:=t.sl i
     rw [E] at s2
     have:=nF (is:=jn rs) s2.symm
     rw [this] at s1
     cases s1
   obtain ⟨y0,l⟩:=L
   obtain ⟨S,b,_,I⟩:=N i y0 l
   rw [s] at b
   cases b
   exact I hm
  obtain ⟨ps,f1,f2,A,f4,O⟩:=Ars.args a1 d hd k
  have hit:∀ p ∈ ps,Itm (Ts ++ T) g2 p:=fun p j=>by
   rcases f4 p j with ⟨i,_,P⟩ | h
   ·exact .inl ⟨i,P⟩
   ·exact .inr (Bx _ h)
  have c:∀ p ∈ ps,Arg K H1 p:=fun p j=>⟨(d.itm (hit p j)).rep,fun hf=>by
   obtain ⟨m,a,L',v1,v2,v3,_⟩:=(d.itm (hit p j)).own hf
   exact ⟨m,a,L',v1,v2,v3⟩⟩
  subst f2
  cases b:F pfs with
  | none=>rw [b] at e1;exact nsE e1
  | some r =>
   obtain ⟨out,fs⟩:=r
   rw [b] at e1
   cases out with
   | ok p =>
    dsimp only at e1
    split at e1
    ·cases e1
     refine ⟨ps,p,fs,rfl,c,A,by rw [f1];exact b,?_⟩
     intro x qs H' B x1 C D
     obtain ⟨g',R,M⟩:=Wf.after d k f1 f4 O B.toBehindX
     have u:=M x B.rep B.own B.src B.apx
     rw [D] at u
     rw [<- x1,<- C] at q
     exact q x.v H' ⟨[x],g',u,.val x⟩
    ·exact nsE e1
   | error er=>exact nsE e1
def dj (b:Bool) (p:It3):It3:=if b then cI p else p
theorem kT:∀ {mask:List Bool} {ps:List It3},(List.zipWith dj mask ps).map (fun p=>(p.d,p.f))=List.zipWith nz mask (ps.map fun p=>(p.d,p.f))
 | [],_=>rfl
 | _ :: _,[]=>rfl
 | b :: mask,p :: ps=>by
  simp only [List.zipWith_cons_cons,BP,kT]
  cases b <;> rfl
theorem rQ {i:Nat} (h:(List.zipWith dj mask ps)[i]?=some q):∃ b p,mask[i]?=some b/\ps[i]?=some p/\q=dj b p:=by
 rw [List.getElem?_zipWith] at h
 cases e1:mask[i]? with
 | none=>rw [e1] at h;exact nsE h
 | some b =>
  cases a:ps[i]? with
  | none=>rw [e1,a] at h;exact nsE h
  | some p=>rw [e1,a] at h;cases h;exact ⟨b,p,rfl,rfl,rfl⟩
theorem nv {i:Nat} (a:ps.length=mask.length) (h:ps[i]?=some p):∃ b,mask[i]?=some b/\(List.zipWith dj mask ps)[i]?=some (dj b p):=by
 have hi:i < mask.length:=by have:=(BG.mp h).1;omega
 refine ⟨mask[i],BA hi,?_⟩
 rw [List.getElem?_zipWith,BA hi,h]
theorem di (b:Bool) (p:It3):(dj b p).d=p.d/\(dj b p).v=p.v/\(dj b p).L=p.L/\((dj b p).f=p.f\/(dj b p).f=.z):=by
 cases b
 ·exact ⟨rfl,rfl,rfl,.inl rfl⟩
 ·exact ⟨rfl,rfl,rfl,.inr rfl⟩
theorem NoRoot.low (h:NoRoot a b) (g:a'.v=a.v) (hf:a'.f=a.f\/a'.f=.z) (d:b'.L=b.L):NoRoot a' b':=fun q c e=>by
 rw [d]
 rcases hf with f | f
 ·exact h (by rw [<- f];exact q) c (by rw [<- g];exact e)
 ·exact absurd f q
def prM (mask:List Bool) (i:Nat):Bool:=match mask[i]? with
 | some b=>!b
 | none=>false
theorem xM {f:α->β} {l:List α} {i:Nat} {a:α} (h:l[i]?=some a):(l.map f)[i]?=some (f a):=by rw [BK,h];rfl
theorem qz {n:Nat} (hn:mask.length<=n) (h:qZ K (fnM mask n m) vs H Q E) :
  ∃ G:Gm,G.pr=prM mask/\tS K G noX m { nx:=fun _ H'=>Q .non H',rt:=Q } (vs.map some ++ List.replicate (n - vs.length) none) H:=by
 obtain ⟨ps,p,fs,rfl,U,hp,l,q⟩:=h
 unfold fnM at l
 rw [BF] at l
 split at l
 ·rename_i hl
  rw [<- kT] at l
  generalize w:List.zipWith dj mask ps=g at l
  have V:g.length=ps.length:=by rw [<- w,List.length_zipWith];omega
  have S:g.map (·.v)=ps.map (·.v):=by
   refine List.ext_getElem? fun i=>?_
   rw [BK,BK]
   cases e:ps[i]? with
   | none=>rw [List.getElem?_eq_none (by have:=List.getElem?_eq_none_iff.mp e;omega)]
   | some u =>
    obtain ⟨b,_,t⟩:=nv (mask:=mask) hl e
    rw [w] at t
    rw [t]
    show some (dj b u).v=some u.v
    rw [(di b u).2.1]
  have up:∀ (i:Nat) (u:It3),g[i]?=some u->∃ b s,mask[i]?=some b/\ps[i]?=some s/\u=dj b s:=fun i u e=>by rw [<- w] at e;exact rQ e
  have A:∀ u ∈ g,∃ b s,s ∈ ps/\u=dj b s:=fun u hu=>by
   obtain ⟨i,hi,e⟩:=List.mem_iff_getElem.mp hu
   obtain ⟨b,s,_,t,y⟩:=up i u (by rw [BA hi,e])
   exact ⟨b,s,BH t,y⟩
  have J:∀ u ∈ g,Arg K H u:=fun u hu=>by
   obtain ⟨b,s,h0,rfl⟩:=A u hu
   obtain ⟨e1,t,y,X⟩:=di b s
   refine ⟨by rw [e1,t,y];exact (U s h0).rep,fun hf=>?_⟩
   rw [e1,t,y]
   refine (U s h0).own fun z=>hf ?_
   rcases X with f | f
   ·rw [f];exact z
   ·exact f
  have M:g.Pairwise Apart3:=by
   rw [List.pairwise_iff_getElem]
   intro i j hi hj lt
   obtain ⟨b,s,_,t,y⟩:=up i _ (BA hi)
   obtain ⟨F,ab,_,W,ar⟩:=up j _ (BA hj)
   have ap:=cO hp (fun _ _=>Apart3.symm) (BN lt) t W
   rw [y,ar]
   obtain ⟨_,a2,a3,R⟩:=di b s
   obtain ⟨_,b2,b3,b4⟩:=di F ab
   exact ⟨ap.1.low a2 R b3,ap.2.low b2 b4 a3⟩
  have O:∀ (i:Nat) (u:It3),g[i]?=some u->u.f ≠ .z->prM mask i=true:=fun i u e hf=>by
   obtain ⟨b,s,e1,t,y⟩:=up i u e
   unfold prM
   rw [e1]
   cases b with
   | false=>rfl
   | true=>rw [y] at hf;exact absurd rfl hf
  have alls:∀ c,cX g c->cX ps c:=fun c ⟨u,hu,I⟩=>by
   obtain ⟨b,s,h0,rfl⟩:=A u hu
   exact ⟨s,h0,by rw [<- (di b s).2.2.1];exact I⟩
  have lift:∀ {H':Hp} {qs:List It3},BehindX K H H' g qs->BehindX K H H' ps qs:=fun {H' qs} B=>by
   refine ⟨fun b o hb hn=>B.frame b o hb fun u hu hf S=>?_,Paired.ofGet ?_ fun k u v eu ev=>?_,B.apart⟩
   ·obtain ⟨F,s,h0,rfl⟩:=A u hu
    obtain ⟨_,t,_,X⟩:=di F s
    rcases X with f | f
    ·exact hn s h0 (by rw [<- f];exact hf) (by rw [<- t];exact S)
    ·rw [f] at hf;cases hf
   ·rw [<- V];exact Paired.length B.back
   ·obtain ⟨b,_,t⟩:=nv (mask:=mask) hl eu
    rw [w] at t
    have b1:=Paired.at B.back t ev
    obtain ⟨a1,a2,a3,R⟩:=di b u
    refine ⟨fun hz=>?_,by rw [b1.v,a2],?_,b1.arg,fun c I=>(b1.src c I).imp id (alls c),fun hf F N=>?_⟩
    ·have:dj b u=u:=by
      cases b
      ·rfl
      ·obtain ⟨d,v,L,f⟩:=u
       have hz:f=.z:=hz
       subst hz;rfl
     rw [<- this]
     exact b1.z (by rw [this];exact hz)
    ·rcases b1.f with h | h
     ·rcases R with f | f
      ·exact .inl (h.trans f)
      ·exact .inr (h.trans f)
     ·exact .inr h
    ·rcases R with f | f
     ·exact b1.there (by rw [f];exact hf) F (by rw [a2];exact N)
     ·-- lowered: as it was
      obtain ⟨_,a,L',v1,v2,_⟩:=(U u (BH eu)).own (by rw [hf];intro q;cases q)
      rw [N] at v1;cases v1
      have Z:=b1.z f
      have r:=b1.arg.rep
      rw [Z,a1,a2,a3] at r
      exact (r.inH F (by rw [v2];exact Bt)).ex
  have Y:g.length<=n:=by omega
  have wf:=sN (K:=K) (H:=H) (n:=n) (pr:=prM mask) Y J M O
  rw [S] at wf
  refine ⟨gOf H (prM mask) ((ps.map (·.v)).map some ++ List.replicate (n - (ps.map (·.v)).length) none) g,rfl,?_⟩
  have h0:∀ (i:Nat) (u:It3),g[i]?=some u->((ps.map (·.v)).map some ++ List.replicate (n - (ps.map (·.v)).length) none)[i]?=some (some u.v):=fun i u e=>kz (by rw [<- S];exact xM e)
  unfold fn0 at l
  cases e:m (fk n (g.map fun p=>(p.d,p.f))) with
  | none=>rw [e] at l;exact nsE l
  | some rr =>
   obtain ⟨r,ρ2⟩:=rr
   rw [e] at l
   refine tS.mk (r:=r) (Le.refl K _ _) wf e ?_
   have fin:∀ {x:It3} {σ':St} {H':Hp} {g':Nat->Option It3} {d:D} {f:Fl},Wf K (gOf H (prM mask) ((ps.map (·.v)).map some ++ List.replicate (n - (ps.map (·.v)).length) none) g) H' σ' ρ2 [x] g'->x.d=d->x.f=f ->
     ((eF ρ2 0 (g.map fun p=>(p.d,p.f))).map fun fs=>((.ok (d,f),fs):Except D (D × Fl) × List (D × Fl)))=some (.ok p,fs)->Q x.v H':=fun {x σ' H' g' d f} P xd xf l=>by
    cases C:eF ρ2 0 (g.map fun p=>(p.d,p.f)) with
    | none=>rw [C] at l;exact nsE l
    | some fs' =>
     rw [C] at l
     cases l
     obtain ⟨qs,B,Z⟩:=pJ (n:=n) J M O h0 P C
     have BX:=lift B.toBehindX
     exact q x qs H' ⟨BX,B.rep,B.own,fun c I=>(B.src c I).imp id (alls c),B.apx⟩ xd xf Z
   cases r with
   | error er=>
    dsimp only at l
    cases C:eF ρ2 0 (g.map fun p=>(p.d,p.f)) with
    | none=>rw [C] at l;exact nsE l
    | some fs'=>rw [C] at l;cases l
   | ok fl =>
    cases fl with
    | nx =>
     intro σ' H' g' P
     obtain ⟨Ts,g2,w2,a2⟩:=P.const .non
     obtain ⟨x,rfl,x1,T,x3⟩:=a2.val_inv
     have:=fin w2 x1 T l
     rw [x3] at this
     exact this
    | br=>exact nsE l
    | ct=>exact nsE l
    | rt d f =>
     intro x σ' H' g' P x1 T
     exact fin P x1 T l
 ·exact nsE l
end
abbrev a7 (P:Program) (w:World) (K:FG) (mg:Str->Option Value) (base:Heap) (x:Str) (k:Nat) (ps:List Str) (F:Fn):Prop:=Callee P w K mg base x k ps (qZ K F)
theorem bg {k:Nat} {nn:Nat} (D:Def K mg x st) (S:FnScope N ps (ah st)) (b:mask.length=ps.length) (c:N.length=nn) (l:∀ (kV doc pm:Value) (an:Option Addr) (a ct:Value) (us:List Value),us.length=ps.length->bindArgs (PySem.W.fnOf x x (bd st) (aU st) (ah st) .none kV doc pm an a ct) ⟨us,[]⟩=pure (ps.zip us)) (body:∀ (a:Value) (A:Around) (outer:List Env) (s:Shared) (H:Hp) (E:XK) (f:Addr) (G:Gm),Room k (A.deeper (PyProof.Rows.envOfC x (ah st) s.heap.objs.size f a))->G.pr=prM mask->RSs (nK CX0 P w K mg base N x (ah st) f a A outer s H E).nox G noX (aU st) m) :
  a7 P w K mg base x (k+1) ps (fnM mask nn m):=by
 refine D.callee l fun f fd F=>F.ok S (fun j H Q E h=>?_) fun a A outer s H j Q E o h=>?_
 ·obtain ⟨i,p,fs,rfl,_,_,d,_⟩:=h
  unfold fnM at d
  rw [BF] at d ⊢
  split at d
  ·rename_i e;rw [e,b]
  ·exact nsE d
 ·have hle:mask.length<=nn:=by
   rw [b,<- c]
   have:=congrArg List.length S.pre
   rw [BY] at this
   omega
  obtain ⟨G,n,g⟩:=qz hle h
  subst c
  exact ⟨_,(body a A outer s H E f G o n).h,g⟩
theorem xb {k:Nat} (c:a7 X.prog X.w X.K X.mg X.base x k ps F) (g:Room k X.A) (d:RA X G0 W0 (e :: es) ms) (f:Gl X x) (b:(x == ("__debug__":Str))=false) (he:starEach (e :: es) X.env=(false,eval e X.env) :: starEach es X.env) (a:(backTo pos (starEach es X.env)).any (·.1)=false):RE X G0 W0 (.Call (.Name x p) (e :: es) [] pos) (am F ms) :=
 ⟨PE.imp (pe_fn c g d.h f b he a) fun _ _ _ h=>sX h⟩
end L3
end
section
namespace L3
open PySem L2
def orD (f g:D->D->Option (D × Fl)) (a b:D):Option (D × Fl):=match f a b with
 | some p=>some p
 | none=>g a b
section
variable {K:FG} {H:Hp} {Ks:Addr->Prop} {d:D} {v:V} {L:List Addr} {X:Cx}
theorem dn (r:Rep K H d v []):New K H H Ks ⟨d,v,[],.z⟩:=⟨Same.refl _,r,fun _ h=>(by cases h),fun h=>absurd rfl h⟩
theorem m4 (r:Rep K H d v L) (h:∀ c ∈ L,Ks c):New K H H Ks ⟨d,v,L,.z⟩:=⟨Same.refl _,r,fun c a=>.inr (h c a),fun h=>absurd rfl h⟩
theorem rJ (b:H p=none) (r:Reps (Rep K H) ds vs L) (h:∀ c ∈ L,Ks c):New K H (upd H p (.lst vs)) Ks ⟨.lst ds,.ref p,p :: L,.u⟩:=by
 have np:p ∉ L:=fun a=>by obtain ⟨o,d⟩:=(r.inH p a).ex;rw [b] at d;exact nsE d
 refine ⟨bI b,.lst aC (r.same (bI b)),fun c a=>?_,fun _=>⟨rfl,p,L,rfl,rfl,np,b⟩⟩
 rcases Bz.mp a with e | a
 ·rw [e];exact .inl b
 ·exact .inr (h c a)
theorem rH (a:H p=none) (r:Reps (Rep K H) ds vs L) (h:∀ c ∈ L,Ks c):New K H (upd H p (.tup vs)) Ks ⟨.tup ds,.ref p,L,.z⟩ :=
 ⟨bI a,.tup aC (r.same (bI a)),fun c b=>.inr (h c b),fun h=>absurd rfl h⟩
theorem ic (b:y ∈ ys) (h:Arg K H y) (hm:ie y.d=false):∀ c ∈ y.L,cW ys c:=fun c a=>⟨y,b,a,fun hf=>by
 have:=(h.own hf).1
 rw [hm] at this;cases this⟩
theorem lR (g:y ∈ ys) (h:Arg K H y) (f:y.v=.ref a) (d:y.L=a :: L):∀ c ∈ L,cW ys c:=fun c b=>⟨y,g,by rw [d];exact Bu _ b,fun hf e=>by
 obtain ⟨_,i,L',v1,v2,v3⟩:=h.own hf
 rw [f] at v1;cases v1
 rw [d] at v2;cases v2
 rw [f] at e;cases e
 exact v3 b⟩
theorem OpD.or (h:OpD K r f) (h':OpD K r' g):OpD K (fun x y H Q=>r x y H Q\/r' x y H Q) (orD f g):=fun a b H Q p ra rb e q=>by
 unfold orD at e
 cases c:f a.d b.d with
 | some p'=>rw [c] at e;cases e;exact .inl (h a b H Q _ ra rb c q)
 | none=>rw [c] at e;exact .inr (h' a b H Q p ra rb e q)
def bS (C:Int->Int->Bool) (g:Int->Int->D):D->D->Option (D × Fl)
 | .int i,.int j=>if C i j then some (g i j,.z) else none
 | _,_=>none
theorem io (c:∀ i j,Cb i j=true->C i j) (f:∀ i j H,Rep K H (gd i j) (g i j) []):OpD K (rI C g) (bS Cb gd):=fun a b H Q p ra rb e q=>by
 obtain ⟨da,o,h,r⟩:=a
 obtain ⟨db,l,k,n⟩:=b
 obtain ⟨ra,m⟩:=ra
 obtain ⟨rb,ob⟩:=rb
 dsimp only at ra rb
 cases da <;> try (exact nsE e)
 rename_i i
 obtain ⟨rfl,rfl⟩:=ra.view
 cases db <;> try (exact nsE e)
 rename_i j
 obtain ⟨rfl,rfl⟩:=rb.view
 have e:(if Cb i j then some (gd i j,Fl.z) else none)=some p:=e
 split at e
 ·rename_i d
  cases e
  exact ⟨i,j,rfl,rfl,c i j d,q ⟨gd i j,g i j,[],.z⟩ H (dn (f i j H)) rfl rfl⟩
 ·exact nsE e
theorem rI_of:rI0 g=rI (fun _ _=>True) g:=by
 funext x y H Q
 unfold rI0 rI
 apply propext
 constructor
 ·rintro ⟨i,j,a,b,c⟩;exact ⟨i,j,a,b,trivial,c⟩
 ·rintro ⟨i,j,a,b,_,c⟩;exact ⟨i,j,a,b,c⟩
theorem ik (a:∀ i j H,Rep K H (gd i j) (g i j) []):OpD K (rI0 g) (bS (fun _ _=>true) gd):=by
 rw [rI_of]
 exact io (fun _ _ _=>trivial) a
abbrev qR:Int->Int->Bool:=fun _ _=>true
abbrev addI:=bS qR fun i j=>.int (i+j)
abbrev de:=bS qR fun i j=>.int (i - j)
abbrev cP:=bS (fun i j=>decide ((-(2 ^ 64) < i/\i < 2 ^ 64)\/(-(2 ^ 64) < j/\j < 2 ^ 64))) fun i j=>.int (i * j)
abbrev oW:=bS (fun _ j=>decide (0 < j)) fun i j=>.int (i % j)
abbrev oO:=bS (fun i j=>decide (0<=j/\j<=1000000/\i.natAbs < 2 ^ 64)) fun i j=>.int (i ^ j.toNat)
abbrev ltI:=bS qR fun i j=>.bl (decide (i < j))
abbrev leI:=bS qR fun i j=>.bl (decide (i<=j))
theorem od_addI:OpD K (rI0 fun i j=>.int (i+j)) addI:=ik fun i j _=>.int _
theorem xB:OpD K (rI0 fun i j=>.int (i - j)) de:=ik fun i j _=>.int _
theorem xD:OpD K (rI CMul fun i j=>.int (i * j)) cP:=io (fun i j h=>by simpa [CMul,sM,wg] using h) fun i j _=>.int _
theorem xE:OpD K (rI (fun _ j=>0 < j) fun i j=>.int (i % j)) oW:=io (fun i j h=>by simpa [CMul,sM,wg] using h) fun i j _=>.int _
theorem xC:OpD K (rI wg fun i j=>.int (i ^ j.toNat)) oO:=io (fun i j h=>by simpa [CMul,sM,wg] using h) fun i j _=>.int _
theorem yM:OpD K (rI0 fun i j=>.bl (decide (i < j))) ltI:=ik fun i j _=>.bl _
theorem yN:OpD K (rI0 fun i j=>.bl (decide (i<=j))) leI:=ik fun i j _=>.bl _
def pk:D->D->Option (D × Fl)
 | .tup xs,.tup ys=>if xs.length+ys.length<=16777216 then some (.tup (xs ++ ys),.z) else none
 | _,_=>none
def pv:D->D->Option (D × Fl)
 | .lst xs,.lst ys=>if xs.length+ys.length<=16777216 then some (.lst (xs ++ ys),.u) else none
 | _,_=>none
def pq:D->D->Option (D × Fl)
 | .str xs,.str ys=>if xs.length+ys.length<=16777216 then some (.str (xs ++ ys),.z) else none
 | _,_=>none
theorem Reps.len (r:Reps (Rep K H) ds vs L):ds.length=vs.length:=by
 induction r with
 | nil=>rfl
 | cons _ _ ih=>simp [ih]
theorem Reps.append (r:Reps (Rep K H) ds vs L) (b:Reps (Rep K H) ds' vs' L'):Reps (Rep K H) (ds ++ ds') (vs ++ vs') (L ++ L'):=by
 induction r with
 | nil=>exact b
 | cons a _ ih=>rw [List.append_assoc];exact .cons a ih
theorem Reps.nil_iff (r:Reps (Rep K H) ds vs L):ds=[] ↔ vs=[]:=by cases r <;> simp
def lE (K:FG):R2:=fun x y H Q=>∃ a b ys,x=.ref a/\y=.ref b/\SqT K H a []/\SqT K H b ys/\Q (.ref b) H
theorem uD:OpR X (binaryOp .Add) (lE X.K):=by
 intro pins s σ H x y v u Q I w A h
 obtain ⟨a,b,ys,rfl,rfl,r,z,q⟩:=h
 cases w
 cases A
 obtain ⟨its,o,m,_⟩:=I.tuple r
 obtain ⟨i,B,p2,_⟩:=I.tuple z
 have e:its=[]:=o.nil_iff.mpr rfl
 subst e
 obtain ⟨⟨cls,p,data,sl⟩,k,j,n,hd⟩:=id m
 obtain ⟨⟨l,g,data2,f⟩,d,c,t,hd2⟩:=id p2
 simp only at j hd c hd2
 subst j hd c hd2
 exact concat_meets ⟨_,k,rfl⟩ ⟨_,d,rfl⟩ noFill_tuple_add seq_tuple_add PySem.F.slot_tuple_add PySem.F.entry_tuple_add (PySem.F.args_tuple_add_2 _ _)
   (PyProof.Rows.tuple_addW0 a b _ _ n t p g sl f (by simp)) ⟨k,d,⟨.ref b,H,I,rfl,q⟩⟩
theorem od_catT:OpD K (fun x y H Q=>qb K x y H Q\/lE K x y H Q) pk:=fun a b H Q p ra rb e q=>by
 obtain ⟨da,C,k,s⟩:=a
 obtain ⟨db,B,l,u⟩:=b
 obtain ⟨ra,r⟩:=ra
 obtain ⟨rb,ob⟩:=rb
 dsimp only at ra rb
 cases da <;> try (exact nsE e)
 rename_i xs
 obtain ⟨j,t,rfl,g,rs⟩:=ra.view
 cases db <;> try (exact nsE e)
 rename_i ys
 obtain ⟨f,ws,rfl,i,d⟩:=rb.view
 have e:(if xs.length+ys.length<=16777216 then some (D.tup (xs ++ ys),Fl.z) else none)=some p:=e
 split at e
 ·rename_i A
  cases e
  by_cases m:t=[]
  ·have o:=rs.nil_iff.mpr m
   subst m o
   refine .inr ⟨j,f,ws,rfl,rfl,SqT.of g,SqT.of i,?_⟩
   exact q ⟨.tup ys,.ref f,l,.z⟩ H (m4 (.tup i d) (ic (y:=⟨.tup ys,.ref f,l,u⟩) (Bu _ (B1.mpr rfl)) ⟨.tup i d,ob⟩ rfl)) rfl rfl
  ·refine .inl ⟨j,f,t,ws,rfl,rfl,SqT.of g,SqT.of i,m,by rw [<- rs.len,<- d.len,<- szl];exact A,fun hw=>?_,fun hw p v=>?_⟩
   ·have n:=d.nil_iff.mpr hw
    subst n
    refine q ⟨.tup (xs ++ []),.ref j,k,.z⟩ H (m4 (by rw [List.append_nil];exact .tup g rs) (ic (y:=⟨.tup xs,.ref j,k,s⟩) Bt ⟨.tup g rs,r⟩ rfl)) rfl rfl
   ·refine q ⟨.tup (xs ++ ys),.ref p,k ++ l,.z⟩ _ (rH v (rs.append d) fun c w=>?_) rfl rfl
    rcases BD.mp w with h | h
    ·exact ic (y:=⟨.tup xs,.ref j,k,s⟩) Bt ⟨.tup g rs,r⟩ rfl c h
    ·exact ic (y:=⟨.tup ys,.ref f,l,u⟩) (Bu _ (B1.mpr rfl)) ⟨.tup i d,ob⟩ rfl c h
 ·exact nsE e
theorem xH:OpD K xc pv:=fun a b H Q p ra rb e q=>by
 obtain ⟨da,x,f,v⟩:=a
 obtain ⟨db,w,g,t⟩:=b
 obtain ⟨ra,s⟩:=ra
 obtain ⟨rb,ob⟩:=rb
 dsimp only at ra rb
 cases da <;> try (exact nsE e)
 rename_i xs
 obtain ⟨j,m,f,rfl,rfl,l,rs⟩:=ra.view
 cases db <;> try (exact nsE e)
 rename_i ys
 obtain ⟨i,ws,g,rfl,rfl,k,d⟩:=rb.view
 have e:(if xs.length+ys.length<=16777216 then some (D.lst (xs ++ ys),Fl.u) else none)=some p:=e
 split at e
 ·rename_i r
  cases e
  refine ⟨j,i,m,ws,rfl,rfl,l,k,by rw [<- rs.len,<- d.len,<- szl];exact r,fun p o=>?_⟩
  refine q ⟨.lst (xs ++ ys),.ref p,p :: (f ++ g),.u⟩ _ (rJ o (rs.append d) fun c n=>?_) rfl rfl
  rcases BD.mp n with h | h
  ·exact lR (y:=⟨.lst xs,.ref j,j :: f,v⟩) Bt ⟨.lst l rs,s⟩ rfl rfl c h
  ·exact lR (y:=⟨.lst ys,.ref i,i :: g,t⟩) (Bu _ (B1.mpr rfl)) ⟨.lst k d,ob⟩ rfl rfl c h
 ·exact nsE e
theorem od_catS:OpD K (fun x y H Q=>∃ i j,x=.str i/\y=.str j/\i.length+j.length<=sizeLine/\Q (.str (i ++ j)) H) pq:=fun a b H Q p ra rb e q=>by
 obtain ⟨da,l,d,m⟩:=a
 obtain ⟨db,g,f,k⟩:=b
 obtain ⟨ra,h⟩:=ra
 obtain ⟨rb,ob⟩:=rb
 dsimp only at ra rb
 cases da <;> try (exact nsE e)
 rename_i i
 obtain ⟨rfl,rfl⟩:=ra.view
 cases db <;> try (exact nsE e)
 rename_i j
 obtain ⟨rfl,rfl⟩:=rb.view
 have e:(if i.length+j.length<=16777216 then some (D.str (i ++ j),Fl.z) else none)=some p:=e
 split at e
 ·rename_i c
  cases e
  exact ⟨i,j,rfl,rfl,by rw [<- szl];exact c,q ⟨.str (i ++ j),.str (i ++ j),[],.z⟩ H (dn (.str _)) rfl rfl⟩
 ·exact nsE e
abbrev aH:=orD addI (orD pq (orD pk pv))
theorem AD:OpD K (fun x y H Q=>rI0 (fun i j=>.int (i+j)) x y H Q\/((∃ i j,x=.str i/\y=.str j/\i.length+j.length<=sizeLine/\Q (.str (i ++ j)) H)\/((qb K x y H Q\/lE K x y H Q)\/xc x y H Q))) aH:=od_addI.or (od_catS.or (od_catT.or xH))
theorem xy:OpR X (binaryOp .Add) (fun x y H Q=>rI0 (fun i j=>.int (i+j)) x y H Q\/((∃ i j,x=.str i/\y=.str j/\i.length+j.length<=sizeLine/\Q (.str (i ++ j)) H)\/((qb X.K x y H Q\/lE X.K x y H Q)\/xc x y H Q))):=op_add.or (op_add_str.or ((op_catT.or uD).or Ay))
def eqS:D->D->Option Bool
 | .non,.non=>some true | .non,.int _=>some false | .int _,.non=>some false | .non,.bl _=>some false | .bl _,.non=>some false | .non,.str _=>some false | .str _,.non=>some false
 | .int i,.int j=>some (decide (i=j)) | .bl i,.bl j=>some (decide (i=j)) | .str i,.str j=>some (decide (i=j))
 | .int _,.str _=>some false | .str _,.int _=>some false | .bl _,.str _=>some false | .str _,.bl _=>some false
 | _,_=>none
theorem vv (ra:Rep K H a u L) (rb:Rep K H b v L') (e:eqS a b=some k):zC u v=true/\k=decide (u=v):=by
 cases a <;> cases b <;> first | exact nsE e | (obtain ⟨rfl,rfl⟩:=ra.view;obtain ⟨rfl,rfl⟩:=rb.view;cases e;exact ⟨rfl,by simp⟩)
def cz:D->Bool
 | .non=>true
 | _=>false
def isN:D->D->Option (D × Fl)
 | a,.non=>some (.bl (cz a),.z)
 | _,_=>none
def xI:D->D->Option (D × Fl)
 | a,.non=>some (.bl (!cz a),.z)
 | _,_=>none
theorem Rep.non_iff (ra:Rep K H a u L):cz a=decide (u=.non):=by cases ra <;> simp [cz]
theorem AC:OpD K (fun x y H Q=>y=.non/\Q (.bl (decide (x=.non))) H) isN:=fun a b H Q p ra rb e q=>by
 obtain ⟨db,f,c,d⟩:=b
 obtain ⟨rb,ob⟩:=rb
 dsimp only at rb
 cases db <;> try (exact nsE e)
 obtain ⟨rfl,rfl⟩:=rb.view
 unfold isN at e
 cases e
 refine ⟨rfl,?_⟩
 rw [<- ra.rep.non_iff]
 exact q ⟨_,_,[],.z⟩ H (dn (.bl _)) rfl rfl
def cF:D->Option (D × Fl)
 | .int i=>some (.int (-i),.z)
 | _=>none
theorem za:UnD K (rU fun i=>.int (-i)) cF:=fun a H Q p ra e q=>by
 obtain ⟨da,c,b,d⟩:=a
 obtain ⟨ra,f⟩:=ra
 dsimp only at ra
 cases da <;> try (exact nsE e)
 obtain ⟨rfl,rfl⟩:=ra.view
 cases e
 exact ⟨_,rfl,q ⟨_,_,[],.z⟩ H (dn (.int _)) rfl rfl⟩
theorem Reps.at:∀ {ds:List D} {b:List V} {L:List Addr} {i:Nat} {d:D},Reps (Rep K H) ds b L->ds[i]?=some d->∃ v L',b[i]?=some v/\Rep K H d v L'/\∀ c ∈ L',c ∈ L
 | _,_,_,_,_,.nil,h=>by simp at h
 | _,_,_,0,_,.cons r _,h=>by simp at h;subst h;exact ⟨_,_,rfl,r,fun c a=>Bx _ a⟩
 | _,_,_,i+1,_,.cons _ t,h=>by
  obtain ⟨v,L',h1,h2,h3⟩:=Reps.at (i:=i) t (by simpa using h)
  exact ⟨v,L',by simpa using h1,h2,fun c a=>By _ (h3 c a)⟩
theorem Reps.atI {i:Int} (r:Reps (Rep K H) ds vs L) (h:atI ds i=some d):∃ v L',atI vs i=some v/\Rep K H d v L'/\∀ c ∈ L',c ∈ L:=by
 unfold L2.atI at h ⊢
 rw [<- r.len]
 cases e:ixN ds.length i with
 | none=>rw [e] at h;exact nsE h
 | some j=>rw [e] at h;exact r.at h
def ixD:D->D->Option (D × Fl)
 | .lst xs,.int i=>(atI xs i).map fun d=>(d,.z)
 | .fls xs,.int i=>(atI xs i).map fun d=>(d,.z)
 | .tup xs,.int i=>(atI xs i).map fun d=>(d,.z)
 | _,_=>none
theorem od_ix:OpD K (fun x y H Q=>uc K x y H Q\/ub K x y H Q) ixD:=fun a b H Q p ra rb e q=>by
 obtain ⟨da,r,l,m⟩:=a
 obtain ⟨db,n,s,t⟩:=b
 obtain ⟨rb,ob⟩:=rb
 have g:=ra
 obtain ⟨ra,o⟩:=ra
 dsimp only at ra rb
 cases da <;> try (exact nsE e)
 all_goals (cases db <;> try (exact nsE e))
 all_goals (rename_i xs i;obtain ⟨rfl,rfl⟩:=rb.view)
 ·obtain ⟨f,j,rfl,h,rs⟩:=ra.view
  obtain ⟨d,h1,h2⟩:=Bw.mp (show (atI xs i).map (fun d=>(d,Fl.z))=some p from e)
  subst h2
  obtain ⟨v,L',g1,g2,g3⟩:=rs.atI h1
  refine .inr ⟨f,j,i,v,rfl,rfl,SqT.of h,g1,q ⟨d,v,L',.z⟩ H (m4 g2 fun c k=>?_) rfl rfl⟩
  exact ic (y:=⟨.tup xs,.ref f,l,m⟩) Bt g rfl c (g3 c k)
 ·obtain ⟨f,j,l,rfl,rfl,h,rs⟩:=ra.view
  obtain ⟨d,h1,h2⟩:=Bw.mp (show (atI xs i).map (fun d=>(d,Fl.z))=some p from e)
  subst h2
  obtain ⟨v,L',g1,g2,g3⟩:=rs.atI h1
  refine .inl ⟨f,j,i,v,rfl,rfl,SqL.of h,g1,q ⟨d,v,L',.z⟩ H (m4 g2 fun c k=>?_) rfl rfl⟩
  exact lR (y:=⟨.lst xs,.ref f,f :: l,m⟩) Bt g rfl rfl c (g3 c k)
 ·obtain ⟨f,j,rfl,h,rs⟩:=ra.view
  obtain ⟨d,h1,h2⟩:=Bw.mp (show (atI xs i).map (fun d=>(d,Fl.z))=some p from e)
  subst h2
  obtain ⟨v,L',g1,g2,g3⟩:=rs.atI h1
  refine .inl ⟨f,j,i,v,rfl,rfl,h.sq,g1,q ⟨d,v,L',.z⟩ H (m4 g2 fun c k=>?_) rfl rfl⟩
  exact ic (y:=⟨.fls xs,.ref f,l,m⟩) Bt g rfl c (g3 c k)
theorem ix_ok:IxR X (fun x y H Q=>uc X.K x y H Q\/ub X.K x y H Q):=ix_list.or AS
end
end L3
end
section
namespace L3
open PySem L2
def orC (f g:List D->Option (D × Fl)) (a:List D):Option (D × Fl):=match f a with
 | some p=>some p
 | none=>g a
section
variable {K:FG} {H:Hp} {Ks:Addr->Prop} {d:D} {v:V} {L:List Addr} {X:Cx}
def c1 (f:D->Option (D × Fl)):List D->Option (D × Fl)
 | [d]=>f d
 | _=>none
def c2 (f:D->D->Option (D × Fl)):List D->Option (D × Fl)
 | [d,d']=>f d d'
 | _=>none
theorem fv {ys:List It3} (e:c1 f (ys.map (·.d))=some p):∃ y,ys=[y]/\f y.d=some p:=by
 match ys,e with
 | [],e=>exact nsE e
 | [y],e=>exact ⟨y,rfl,e⟩
 | _ :: _ :: _,e=>exact nsE e
theorem pH {ys:List It3} (e:c2 f (ys.map (·.d))=some p):∃ y z,ys=[y,z]/\f y.d z.d=some p:=by
 match ys,e with
 | [],e=>exact nsE e
 | [_],e=>exact nsE e
 | [y,z],e=>exact ⟨y,z,rfl,e⟩
 | _ :: _ :: _ :: _,e=>exact nsE e
def rR:D->Option (D × Fl)
 | .lst xs=>some (.int xs.length,.z)
 | .fls xs=>some (.int xs.length,.z)
 | .tup xs=>some (.int xs.length,.z)
 | _=>none
abbrev cR:=c1 rR
theorem Ba:dG K (fun xs H Q=>∃ p ys,xs=[.ref p]/\(SqL K H p ys\/SqT K H p ys)/\Q (.int ys.length) H) cR:=fun ys H Q p ra e q=>by
 obtain ⟨y,rfl,f⟩:=fv e
 clear e
 have e:=f
 clear f
 have d:=(ra y Bt).rep
 obtain ⟨da,h,g,i⟩:=y
 dsimp only at d e
 cases da <;> try (exact nsE e)
 ·rename_i xs
  obtain ⟨b,a,rfl,c,rs⟩:=d.view
  cases e
  exact ⟨b,a,rfl,.inr (SqT.of c),by rw [<- rs.len];exact q ⟨_,_,[],.z⟩ H (dn (.int _)) rfl rfl⟩
 ·rename_i xs
  obtain ⟨b,a,g,rfl,rfl,c,rs⟩:=d.view
  cases e
  exact ⟨b,a,rfl,.inl (SqL.of c),by rw [<- rs.len];exact q ⟨_,_,[],.z⟩ H (dn (.int _)) rfl rfl⟩
 ·rename_i xs
  obtain ⟨b,a,rfl,c,rs⟩:=d.view
  cases e
  exact ⟨b,a,rfl,.inl c.sq,by rw [<- rs.len];exact q ⟨_,_,[],.z⟩ H (dn (.int _)) rfl rfl⟩
def sS:D->Option (D × Fl)
 | .lst xs=>some (.tup xs,.z)
 | .tup xs=>some (.tup xs,.z)
 | _=>none
abbrev lh:=c1 sS
theorem A7:dG K (fun xs H Q=>∃ p ys,xs=[.ref p]/\((SqL K H p ys/\∀ l,H l=none->Q (.ref l) (upd H l (.tup ys)))\/(SqT K H p ys/\Q (.ref p) H))) lh:=fun ys H Q p ra e q=>by
 obtain ⟨y,rfl,h⟩:=fv e
 clear e
 have e:=h
 clear h
 have g:=ra y Bt
 have f:=g.rep
 obtain ⟨da,k,b,i⟩:=y
 dsimp only at f e
 cases da <;> try (exact nsE e)
 ·rename_i xs
  obtain ⟨a,d,rfl,c,rs⟩:=f.view
  cases e
  exact ⟨a,d,rfl,.inr ⟨SqT.of c,q ⟨.tup xs,.ref a,b,.z⟩ H (m4 (.tup c rs) (ic (y:=⟨.tup xs,.ref a,b,i⟩) Bt g rfl)) rfl rfl⟩⟩
 ·rename_i xs
  obtain ⟨a,d,b,rfl,rfl,c,rs⟩:=f.view
  cases e
  exact ⟨a,d,rfl,.inl ⟨SqL.of c,fun l j=>q ⟨.tup xs,.ref l,b,.z⟩ _ (rH j rs (lR (y:=⟨.lst xs,.ref a,a :: b,i⟩) Bt g rfl rfl)) rfl rfl⟩⟩
def uQ:D->Option (D × Fl)
 | .lst xs=>some (.lst xs,.u)
 | .tup xs=>some (.lst xs,.u)
 | _=>none
abbrev o6:=c1 uQ
theorem A8:dG K (fun xs H Q=>∃ p ys,xs=[.ref p]/\(SqL K H p ys\/SqT K H p ys)/\∀ l,H l=none->Q (.ref l) (upd H l (.lst ys))) o6:=fun ys H Q p ra e q=>by
 obtain ⟨y,rfl,i⟩:=fv e
 clear e
 have e:=i
 clear i
 have h:=ra y Bt
 have d:=h.rep
 obtain ⟨da,k,b,j⟩:=y
 dsimp only at d e
 cases da <;> try (exact nsE e)
 ·rename_i xs
  obtain ⟨a,c,rfl,g,rs⟩:=d.view
  cases e
  exact ⟨a,c,rfl,.inr (SqT.of g),fun l f=>q ⟨.lst xs,.ref l,l :: b,.u⟩ _ (rJ f rs (ic (y:=⟨.tup xs,.ref a,b,j⟩) Bt h rfl)) rfl rfl⟩
 ·rename_i xs
  obtain ⟨a,c,b,rfl,rfl,g,rs⟩:=d.view
  cases e
  exact ⟨a,c,rfl,.inl (SqL.of g),fun l f=>q ⟨.lst xs,.ref l,l :: b,.u⟩ _ (rJ f rs (lR (y:=⟨.lst xs,.ref a,a :: b,j⟩) Bt h rfl rfl)) rfl rfl⟩
def vX:D->Option (D × Fl)
 | .int i=>some (.int (if i < 0 then -i else i),.z)
 | _=>none
abbrev absD:=c1 vX
theorem Rep.int_inv {i:Int} (r:Rep K H (.int i) v L):v=.int i:=by cases r;rfl
theorem Bc:dG K (fun xs H Q=>∃ i,xs=[.int i]/\Q (.int (if i < 0 then -i else i)) H) absD:=fun ys H Q p ra e q=>by
 obtain ⟨y,rfl,b⟩:=fv e
 clear e
 have e:=b
 clear b
 have a:=(ra y Bt).rep
 obtain ⟨da,d,c,f⟩:=y
 dsimp only at a e
 cases a <;> try (exact nsE e)
 cases e
 exact ⟨_,rfl,q ⟨_,_,[],.z⟩ H (dn (.int _)) rfl rfl⟩
def ig (C:Int->Int->Bool) (g:Int->Int->D):D->D->Option (D × Fl)
 | .int i,.int j=>if C i j then some (g i j,.z) else none
 | _,_=>none
theorem iQ (e:ig C g a b=some p):∃ i j,a=.int i/\b=.int j/\C i j=true/\p=(g i j,.z):=by
 cases a <;> cases b <;> try (exact nsE e)
 rename_i i j
 have e:(if C i j then some (g i j,Fl.z) else none)=some p:=e
 split at e
 ·rename_i h;cases e;exact ⟨i,j,rfl,rfl,h,rfl⟩
 ·exact nsE e
abbrev yQ:=c2 (ig qR fun i j=>.int (if j > i then j else i))
abbrev yP:=c2 (ig qR fun i j=>.int (if j < i then j else i))
abbrev vA:=c2 (ig (fun _ j=>decide (0 < j/\j < 1073741824)) fun i j=>.tup [.int (i / j),.int (i % j)])
theorem yp:dG K (fun xs H Q=>∃ i j,xs=[.int i,.int j]/\Q (.int (if j > i then j else i)) H) yQ:=fun ys H Q p ra e q=>by
 obtain ⟨y,z,rfl,c⟩:=pH e
 clear e
 have e:=c
 clear c
 obtain ⟨i,j,f,d,_,rfl⟩:=iQ e
 have a:=(ra y Bt).rep
 have b:=(ra z (Bu _ Bt)).rep
 rw [f] at a
 rw [d] at b
 refine ⟨i,j,?_,q ⟨_,_,[],.z⟩ H (dn (.int _)) rfl rfl⟩
 show [y.v,z.v]=_
 rw [a.int_inv,b.int_inv]
theorem yo:dG K (fun xs H Q=>∃ i j,xs=[.int i,.int j]/\Q (.int (if j < i then j else i)) H) yP:=fun ys H Q p ra e q=>by
 obtain ⟨y,z,rfl,c⟩:=pH e
 clear e
 have e:=c
 clear c
 obtain ⟨i,j,f,d,_,rfl⟩:=iQ e
 have a:=(ra y Bt).rep
 have b:=(ra z (Bu _ Bt)).rep
 rw [f] at a
 rw [d] at b
 refine ⟨i,j,?_,q ⟨_,_,[],.z⟩ H (dn (.int _)) rfl rfl⟩
 show [y.v,z.v]=_
 rw [a.int_inv,b.int_inv]
theorem sy:dG K (fun xs H Q=>∃ i j,xs=[.int i,.int j]/\sM i j/\∀ p,H p=none->Q (.ref p) (upd H p (.tup [.int (i / j),.int (i % j)]))) vA:=fun ys H Q p ra e q=>by
 obtain ⟨y,z,rfl,f⟩:=pH e
 clear e
 have e:=f
 clear f
 obtain ⟨i,j,k,h,a,rfl⟩:=iQ e
 have b:=(ra y Bt).rep
 have d:=(ra z (Bu _ Bt)).rep
 rw [k] at b
 rw [h] at d
 refine ⟨i,j,?_,by simpa [sM] using a,fun p g=>q ⟨_,.ref p,[],.z⟩ _ (rH g (L:=[]) (.cons (L:=[]) (.int _) (.cons (L:=[]) (.int _) .nil)) fun c a=>by cases a) rfl rfl⟩
 show [y.v,z.v]=_
 rw [b.int_inv,d.int_inv]
def fT:List D->Option (List Bool)
 | []=>some []
 | .bl b :: ds=>(fT ds).map (b :: ·)
 | _=>none
theorem nY:∀ {ds:List D} {bs:List Bool},fT ds=some bs->ds=bs.map D.bl
 | [],bs,e=>by cases e;rfl
 | d :: ds,bs,e=>by
  cases d <;> try (exact nsE e)
  rename_i b
  obtain ⟨r,h1,h2⟩:=Bw.mp (show (fT ds).map (b :: ·)=some bs from e)
  subst h2
  rw [nY h1];rfl
theorem Reps.bls:∀ {bs:List Bool} {a:List V} {L:List Addr},Reps (Rep K H) (bs.map D.bl) a L->a=bs.map V.bl
 | [],_,_,.nil=>rfl
 | b :: bs,_,_,.cons r rs=>by
  rw [Reps.bls rs]
  cases r;rfl
def Bk:D->Option (D × Fl)
 | .lst xs=>(fT xs).map fun bs=>(.bl (bs.all id),.z)
 | _=>none
abbrev sL:=c1 Bk
theorem Bb:dG K (fun xs H Q=>∃ (a:Addr) (bs:List Bool),xs=[.ref a]/\SqL K H a (bs.map V.bl)/\Q (.bl (bs.all id)) H) sL:=fun ys H Q p ra e q=>by
 obtain ⟨y,rfl,c⟩:=fv e
 clear e
 have e:=c
 clear c
 have b:=(ra y Bt).rep
 obtain ⟨da,i,d,j⟩:=y
 dsimp only at b e
 cases da <;> try (exact nsE e)
 rename_i xs
 obtain ⟨f,h,d,rfl,rfl,g,rs⟩:=b.view
 obtain ⟨bs,h1,h2⟩:=Bw.mp (show (fT xs).map (fun bs=>(D.bl (bs.all id),Fl.z))=some p from e)
 subst h2
 have:=nY h1
 subst this
 have:=rs.bls
 subst this
 exact ⟨f,bs,rfl,SqL.of g,q ⟨_,_,[],.z⟩ H (dn (.bl _)) rfl rfl⟩
def eG (xs:List D) (lo hi:Option Int):List D:=(xs.drop (HT.sIx xs.length 0 lo)).take (HT.sIx xs.length xs.length hi - HT.sIx xs.length 0 lo)
end
end L3
end
section
namespace L3
open PySem L2
def pV:D->Option (List D)
 | .lst xs=>some xs
 | .fls xs=>some xs
 | .tup xs=>some xs
 | _=>none
def ci (m:EM):IM:=ad m fun r=>ad (der r) fun d=>aO ((pV d).map fun ds=>([r],ds))
def iSeq (K:FG) (tl:TE):TI:=fun σ H R=>tl σ H fun x H1=>(∃ a,x=.ref a/\(∃ xs,SqL K H1 a xs)/\R (Itl K a) H1)\/∃ a,x=.ref a/\(∃ xs,SqT K H1 a xs)/\R (Itt K a) H1
theorem Ah (j:PE X l tl):PI X tg l (iSeq X.K tl):=by
 intro pins s σ H R I h
 exact thn (j pins s σ H _ I h) fun v s1 ⟨x,H1,c,g,i⟩=>by
   rcases i with ⟨a,e,⟨xs,d⟩,q⟩ | ⟨a,e,⟨xs,d⟩,q⟩
   ·subst e
    cases g
    obtain ⟨its,k,p,hz⟩:=c.list d
    refine wpAny_pyIter_list p.isList ?_
    refine ⟨s1.heap.objs.size,[s1.heap.objs.size],_,_,H1,rfl,c.kept (t':=s1.toks) fun b o e=>Bv _ e,qV a _,⟨_,BE _ rfl,rfl,rfl⟩,fun b f=>?_,q⟩
    have e:b=s1.heap.objs.size:=by simpa using f
    subst e
    exact c.fpOk (BL _) (c.hok.fresh (BL _))
   ·subst e
    cases g
    obtain ⟨its,k,p,hz⟩:=c.tuple d
    refine wpAny_pyIter_tuple (show s1.heap.IsTuple a its.toArray from p) ?_
    refine ⟨s1.heap.objs.size,[s1.heap.objs.size],_,_,H1,rfl,c.kept (t':=s1.toks) fun b o e=>Bv _ e,n9 a _,⟨_,BE _ rfl,rfl,rfl⟩,fun b f=>?_,q⟩
    have e:b=s1.heap.objs.size:=by simpa using f
    subst e
    exact c.fpOk (BL _) (c.hok.fresh (BL _))
section
variable {K:FG} {G G0:Gm} {W W0:D->Sto->Prop} {H H':Hp} {σ:St} {ρ ρ':Sto} {T T':List It3} {g:Nat->Option It3} {x y z:It3} {α β:Type} {X:Cx}
theorem Ar.item2 (w:Wf K G H σ ρ (Ts ++ T) g) (a:Ar σ r v Ts) (e:der r ρ=some (.ok d,ρ)):∃ y,y.d=d/\y.v=v/\((∃ i,i ∈ pls [r]/\g i=some y)\/y ∈ Ts):=by
 cases a with
 | @pl i v h =>
  have c:der (.pl i) ρ=((ρ[i]?).join).map fun p=>(.ok p.1,ρ):=rfl
  rw [c] at e
  cases q:(ρ[i]?).join with
  | none=>rw [q] at e;exact nsE e
  | some p =>
   rw [q] at e
   obtain ⟨y,e1,j,l,b⟩:=w.slot (d:=p.1) (f:=p.2) q
   have k:p.1=d:=by cases e;rfl
   rw [h] at b
   injection b with b
   injection b with b
   exact ⟨y,j.trans k,b.symm,.inl ⟨i,Bt,e1⟩⟩
 | val x=>cases e;exact ⟨x,rfl,rfl,.inr (by simp)⟩
theorem lg (n:Reps (Rep K H1) ds vs k) (s:∀ c ∈ k,cW [y] c) (p:∀ c ∈ k,c ∈ y.L) (j:∀ (M:Addr->Prop) (H':Hp),(∀ b,M b->MutAt H1 b)->(∀ b o,H1 b=some o->¬ M b->H' b=some o)->(∀ b ∈ y.L,¬ M b)->(∀ (i:Nat) (v:V),vs[i]?=some v->J.go i H'/\∀ x e,J.yld i H' x e->e=H'/\x=v)/\J.stop vs.length H'):Walk K J H1 [y] ds:=by
 obtain ⟨ws,h1,h2,h3⟩:=Reps.split n
 refine ⟨ws,fun x g=>⟨(h3 x g).1,(h3 x g).2.1,fun c h=>s c ((h3 x g).2.2 c h)⟩,fun M H' hm f l=>?_⟩
 obtain ⟨go,stop⟩:=j M H' hm f (l y Bt)
 refine ⟨fun i d hd=>?_,by rw [n.len];exact stop⟩
 have hi:∃ u,ws[i]?=some u/\u.d=d:=by
  rw [<- h1,BK] at hd
  obtain ⟨u,a,b⟩:=Bw.mp hd
  exact ⟨u,a,b⟩
 obtain ⟨u,m,r⟩:=hi
 have q:vs[i]?=some u.v:=by rw [<- h2,BK,m];rfl
 obtain ⟨g1,g2⟩:=go i u.v q
 refine ⟨g1,fun x e w=>?_⟩
 obtain ⟨e1,t⟩:=g2 x e w
 subst e1 t
 have hu:=BH m
 refine ⟨u,⟨Same.refl _,(h3 u hu).2.1.keep f hm fun b z=>l y Bt b (p b ((h3 u hu).2.2 b z)),fun c h=>.inr ⟨u,hu,h⟩,fun hf=>absurd (h3 u hu).1 hf⟩,r,(h3 u hu).1,rfl⟩
theorem kj {y:It3} {a:Addr} {ds:List D} {c:List V} (k:∀ H',SqL K H' a c->True) (f:∀ (M:Addr->Prop) (H':Hp),(∀ b,M b->MutAt H b)->(∀ b o,H b=some o->¬ M b->H' b=some o)->(∀ b ∈ y.L,¬ M b)->SqL K H' a c) :
  ∀ (M:Addr->Prop) (H':Hp),(∀ b,M b->MutAt H b)->(∀ b o,H b=some o->¬ M b->H' b=some o)->(∀ b ∈ y.L,¬ M b)->(∀ (i:Nat) (v:V),c[i]?=some v->(Itl K a).go i H'/\∀ x d,(Itl K a).yld i H' x d->d=H'/\x=v)/\(Itl K a).stop c.length H':=fun M H' hm h g=>by
 have sq:SqL K H' a c:=f M H' hm h g
 refine ⟨fun i v e=>⟨⟨c,v,sq,e⟩,fun x d ⟨e1,j⟩=>⟨e1,?_⟩⟩,⟨c,sq,BL _⟩⟩
 have:=j c sq
 rw [e] at this
 injection this with this
 exact this.symm
theorem zp (h:tI K G0 W0 (ci m) σ H R):iSeq K (tE K G0 W0 m) σ H R:=by
 obtain ⟨G,W,le,ρ,T,g,o,ρ',w,e,q⟩:=h
 have l:∀ x,o=.error x->W x ρ':=fun x N=>by subst N;exact q
 refine tE.seq le w e l fun ra ρ1 e1 v H1 ⟨Ts,g1,D,a1⟩=>?_
 obtain ⟨d,d1,u⟩:=aK e1
 obtain ⟨p,E,rfl,rfl⟩:=bE u
 obtain ⟨ds,r,P⟩:=Bw.mp E
 subst P
 obtain ⟨y,Q,O,I⟩:=a1.item2 D d1
 have U:Itm (Ts ++ T) g1 y:=by
  rcases I with ⟨i,_,V⟩ | h
  ·exact .inl ⟨i,V⟩
  ·exact .inr (Bx _ h)
 have L:=(D.itm U).arg
 have A:∀ J,Walk K J H1 [y] ds->R J H1:=fun J hw=>q J H1 [v] Ts g1 [y] D (by simpa using Ars.cons a1 .nil) (fun z hz=>by rw [B1.mp hz];exact I) hw
 clear e1 u E q
 subst Q O
 have f:=L
 obtain ⟨da,X,s,C⟩:=y
 obtain ⟨t,Y⟩:=L
 dsimp only at t r
 cases da with
 | tup xs =>
  obtain ⟨a,j,rfl,b,rs⟩:=t.view
  cases r
  refine .inr ⟨a,rfl,⟨_,SqT.of b⟩,A _ (lg rs (ic (y:=⟨.tup ds,.ref a,s,C⟩) Bt f rfl) (fun c n=>n) fun M H' hm k B=>?_)⟩
  have sq:SqT K H' a j:=SqT.of (k a _ b fun z=>(hm a z).notup b)
  refine ⟨fun i v F=>⟨⟨j,v,sq,F⟩,fun x S ⟨e1,u⟩=>⟨e1,?_⟩⟩,⟨j,sq,BL _⟩⟩
  have:=u j sq
  rw [F] at this
  injection this with this
  exact this.symm
 | lst xs =>
  obtain ⟨a,j,s,rfl,rfl,b,rs⟩:=t.view
  cases r
  refine .inl ⟨a,rfl,⟨_,SqL.of b⟩,A _ (lg rs (lR (y:=⟨.lst ds,.ref a,a :: s,C⟩) Bt f rfl rfl) (fun c n=>Bu _ n) (kj (ds:=ds) (fun _ _=>trivial) fun M H' hm k B=>SqL.of (k a _ b (B a Bt))))⟩
 | fls xs =>
  obtain ⟨a,j,rfl,b,rs⟩:=t.view
  cases r
  refine .inl ⟨a,rfl,⟨_,b.sq⟩,A _ (lg rs (ic (y:=⟨.fls ds,.ref a,s,C⟩) Bt f rfl) (fun c n=>n) (kj (ds:=ds) (fun _ _=>trivial) fun M H' hm k B=>(b.keep k hm).sq))⟩
 | _=>exact nsE r
theorem zO (h:RE X G0 W0 l m):RI X G0 W0 tg l (ci m):=⟨PI.imp (Ah h.h) fun _ _ _ h=>zp h⟩
def aQ (lo:Int) (n:Nat):List D:=(List.range n).map fun (k:Nat)=>D.int (lo+(k:Int))
theorem mj {lo:Int} {n:Nat}:Walk K (Itr lo n) H1 ys (aQ lo n):=by
 refine ⟨[],fun x f=>(by cases f),fun M H' _ _ _=>⟨fun i d hd=>?_,?_⟩⟩
 ·unfold aQ at hd
  rw [BK] at hd
  obtain ⟨k,a,b⟩:=Bw.mp hd
  obtain ⟨c,e⟩:=BG.mp a
  rw [List.getElem_range] at e
  subst e
  rw [List.length_range] at c
  refine ⟨c,fun x g ⟨e1,h⟩=>?_⟩
  subst e1
  exact ⟨⟨d,x,[],.z⟩,dn (by rw [<- b,h];exact .int _),rfl,rfl,rfl⟩
 ·show n<=(aQ lo n).length
  unfold aQ
  simp
def eJ (j:Int):Bool:=decide (-(2 ^ 62)<=j/\j < 2 ^ 62)
def dH:List D->Option (List D)
 | [.int j]=>if eJ j then some (aQ 0 j.toNat) else none
 | _=>none
def fW:List D->Option (List D)
 | [.int i,.int j]=>if eJ i && eJ j then some (aQ i (j - i).toNat) else none
 | _=>none
def bF (f:List D->Option (List D)) (ms:M3 (List R3)):IM:=ad ms fun rs=>ad (cx rs) fun ds=>aO ((f ds).map fun xs=>([],xs))
theorem wu (h:tI K G0 W0 (bF dH ms) σ H R):yU (tA K G0 W0 ms) σ H R:=by
 obtain ⟨G,W,le,ρ,T,g,o,ρ',w,e,q⟩:=h
 have b:∀ x,o=.error x->W x ρ':=fun x f=>by subst f;exact q
 refine tA.seq le w e b fun rs ρ1 e1 t H1 Ts g1 k a1=>?_
 obtain ⟨ds,d1,s⟩:=bL e1
 obtain ⟨p,m,rfl,rfl⟩:=bE s
 obtain ⟨xs,a,n⟩:=Bw.mp m
 subst n
 obtain ⟨ys,i,f1,f2⟩:=a1.items k (fun x f=>Bx _ f) d1
 subst f1 f2
 match ys,a,i,a1 with
 | [],a,_,_=>exact nsE a
 | y :: z :: r,a,_,_=>cases hd:y.d <;> (rw [BP,BP,hd] at a;exact nsE a)
 | [y],a,i,a1 =>
  have l:=(k.itm (i y Bt)).rep
  cases hd:y.d <;> (rw [BP,hd] at a;try (exact nsE a))
  rename_i j
  rw [hd] at l
  have a:(if eJ j then some (aQ 0 j.toNat) else none)=some xs:=a
  split at a
  ·rename_i c
   cases a
   have c:=of_decide_eq_true c
   refine ⟨j,by show [y.v]=_;rw [l.int_inv],c.1,c.2,?_⟩
   exact q _ H1 [] [] g1 [] (k.sub (BI Ts T)) .nil (fun _ h=>by cases h) mj
  ·exact nsE a
theorem wr (h:tI K G0 W0 (bF fW ms) σ H R):yT (tA K G0 W0 ms) σ H R:=by
 obtain ⟨G,W,le,ρ,T,g,o,ρ',w,e,q⟩:=h
 have b:∀ x,o=.error x->W x ρ':=fun x l=>by subst l;exact q
 refine tA.seq le w e b fun rs ρ1 e1 E H1 Ts g1 k a1=>?_
 obtain ⟨ds,d1,B⟩:=bL e1
 obtain ⟨p,t,rfl,rfl⟩:=bE B
 obtain ⟨xs,C,A⟩:=Bw.mp t
 subst A
 obtain ⟨ys,c,f1,f2⟩:=a1.items k (fun x l=>Bx _ l) d1
 subst f1 f2
 have inv:∀ {ds:List D},fW ds=some xs->∃ i j,ds=[.int i,.int j]/\eJ i=true/\eJ j=true/\xs=aQ i (j - i).toNat:=fun {ds} h=>by
  unfold fW at h
  split at h
  ·rename_i i j
   split at h
   ·rename_i m
    cases h
    simp only [Bool.and_eq_true] at m
    exact ⟨i,j,rfl,m.1,m.2,rfl⟩
   ·exact nsE h
  ·exact nsE h
 obtain ⟨i,j,a,hi,f,rfl⟩:=inv C
 match ys,a,c,a1 with
 | [],a,_,_=>cases a
 | [y],a,_,_=>exact absurd (congrArg List.length a) (by simp)
 | y :: z :: u :: r,a,_,_=>exact absurd (congrArg List.length a) (by simp)
 | [y,z],a,c,a1 =>
  have n:=(k.itm (c y Bt)).rep
  have s:=(k.itm (c z (Bu _ Bt))).rep
  have h1:y.d=.int i:=by injection a
  have h2:z.d=.int j:=by injection a with _ h;injection h
  rw [h1] at n
  rw [h2] at s
  have hi:=of_decide_eq_true hi
  have f:=of_decide_eq_true f
  refine ⟨i,j,by show [y.v,z.v]=_;rw [n.int_inv,s.int_inv],⟨hi.1,hi.2,f.1,f.2⟩,?_⟩
  exact q _ H1 [] [] g1 [] (k.sub (BI Ts T)) .nil (fun _ h=>by cases h) mj
theorem wW (c:Gl X "range") (hm:X.mg "range"=none) (d:RA X G0 W0 [a] ms) (b:starEach [a] X.env=[(false,eval a X.env)]):RI X G0 W0 tg (.Call (.Name "range" p) [a] [] pos) (bF dH ms):=⟨PI.imp (rB c hm d.h b) fun _ _ _ h=>wu h⟩
theorem wV (e:Gl X "range") (hm:X.mg "range"=none) (f:RA X G0 W0 [a,b] ms) (d:starEach [a,b] X.env=[(false,eval a X.env),(false,eval b X.env)]) (c:starEach [b] X.env=[(false,eval b X.env)]):RI X G0 W0 tg (.Call (.Name "range" p) [a,b] [] pos) (bF fW ms):=⟨PI.imp (rA e hm f.h d c) fun _ _ _ h=>wr h⟩
end
end L3
end
section
namespace L3
open PySem L2
section
variable {K:FG} {G G0:Gm} {W W0:D->Sto->Prop} {H H':Hp} {σ:St} {ρ ρ':Sto} {T T':List It3} {g:Nat->Option It3} {x y z:It3} {α β:Type} {X:Cx} {L:List Addr}
def jI (bnd:D->Sto->Option Sto) (m:EM):SM:=ad m fun r=>ad (cL r) fun p=>fun ρ=>(bnd p.1 ρ).map fun ρ1=>(.ok .nx,ρ1)
theorem zo (b:Bnd K G0.pr tg bnd) (h:tS K G0 W0 (jI bnd m) E σ H):sY (tE K G0 W0 m) tg E σ H:=by
 refine h.use fun G W le ρ T g r ρ' w e q=>?_
 refine tE.seq le w e q.err fun ra ρ1 e1 v H1 ⟨Ts,g1,l,a1⟩=>?_
 obtain ⟨p,ρ2,g2,x,k,c,f1,_,_,a⟩:=a1.take l e1
 have f:=Wf.lowT (Ts:=[x]) c
 obtain ⟨ρ3,i,j⟩:=Bw.mp k
 cases j
 rw [<- a]
 exact b G H1 σ ρ2 _ T g2 (cI x) _ le.pr rfl f (by show bnd x.d ρ2=_;rw [f1];exact i) fun σ2 g3 n=>q _ _ _ n
theorem zN (d:RG X G0.pr tg bnd) (he:RE X G0 W0 e m) (c:swapsWithSole [tg] e pos.line X.env=pure false) (hw:swappedStores [tg] e X.env=pure none) (h1:(assignEach [tg] X.env).map (·.2)=[assign tg X.env]):RS X G0 W0 (.Assign [tg] e pos) (jI bnd m):=by
 obtain ⟨g,a,b⟩:=d.h
 exact ⟨PS.imp (ul he.h a c hw h1) fun _ _ _ h=>zo b h⟩
theorem oE {i:Nat} {y:Str} (n:X.N.Nodup) (g:X.N[i]?=some y) (e:Loc X.env.scope y) (NY:List Str) (ix:List (Option Nat)) (f:X.calm=true) (hi:RI X G0 W0 tg iter im) (j:∀ s H C fp,PTs (aG X NY scope s H C fp) ifs (tT X.K (bq ix) noX cm)) (he:∀ s H C fp,RE (aG X NY scope s H C fp) (bq ix) noX elt em) (m:fq scope X.N X.env.scope NY ix=true) (c:Inj ix) (b:swapsWith (.ListComp elt [⟨tg,iter,ifs,0⟩] scope pos) (some (.Name y py)) spos.line X.env=pure true) (hf:X.fn y=true\/X.env.scope.names.lookup y=some .local) (l:∀ x,foldedSetIterable iter X.env x=pure x) (k:G0.pr i=false) (d:∃ a,Bnd X.K (bq ix).pr a bnd/\∀ s H C fp,PG (aG X NY scope s H C fp) tg a):RS X G0 W0 (.Assign [.Name y py] (.ListComp elt [⟨tg,iter,ifs,0⟩] scope pos) spos) (aX i (cf im bnd cm em ix)):=by
 obtain ⟨a,b1,b2⟩:=d
 exact ⟨PS.imp (oM n g e NY ix f hi.h b2 j (fun s H C fp=>(he s H C fp).h) m b hf l) fun _ _ _ h=>ol szl c b1 k h⟩
def isL:D->Bool
 | .lst _=>true
 | _=>false
theorem u5:∀ d v L H,isL d=true->Rep K H d v L->tyV K "list" v H:=fun d v L H h r=>by
 cases r with
 | lst ha _=>exact .inl ⟨rfl,_,SqL.of ha⟩
 | _=>cases h
def sJ:D->List D->Option (D × D)
 | .lst xs,[d]=>if xs.length < 16777216 then some (.lst (xs ++ [d]),.non) else none
 | _,_=>none
theorem AJ:MutD K qc sJ:=fun a d k as H Q p r m na ra j e q=>by
 cases d with
 | lst xs =>
  obtain ⟨_,g,_,e1,u,l,rs⟩:=r.view
  cases e1
  cases u
  match as,e,ra,j with
  | [],e,_,_=>exact nsE e
  | _ :: _ :: _,e,_,_=>exact nsE e
  | [y],e,ra,j =>
   have e:(if xs.length < 16777216 then some (D.lst (xs ++ [y.d]),D.non) else none)=some p:=e
   split at e
   ·rename_i s
    cases e
    refine ⟨a,g,y.v,rfl,rfl,l,by rw [<- rs.len,<- szl];exact s,?_⟩
    have t:=ra y Bt
    have w:=j y Bt
    have ma:MutAt H a:=.inl ⟨_,l⟩
    have keep:∀ {d v L},Rep K H d v L->a ∉ L->Rep K (upd H a (.lst (g ++ [y.v]))) d v L:=fun {d v L} r n=>r.keep (M:=fun b=>b=a) (fun b o f h=>by rw [aq h];exact f) (fun b e=>by rw [e];exact ma) fun b f e=>n (by rw [<- e];exact f)
    have keeps:Reps (Rep K (upd H a (.lst (g ++ [y.v])))) xs g k:=rs.keep (M:=fun b=>b=a) (fun b o f h=>by rw [aq h];exact f) (fun b e=>by rw [e];exact ma) fun b f e=>na (by rw [<- e];exact f)
    exact q (.lst (g ++ [y.v])) (k ++ (y.L ++ [])) ⟨.non,.non,[],.z⟩ (.lst aC (keeps.append (.cons (keep t w) .nil))) rfl (fun c i=>by
     rcases BD.mp i with h | h
     ·exact .inl h
     ·rw [List.append_nil] at h;exact .inr ⟨y,Bt,h⟩) rfl rfl .non fun c i=>by cases i
   ·exact nsE e
 | _=>exact nsE e
def vo:D->List D->Option (D × D)
 | .lst xs,[.lst ys]=>if xs.length+ys.length<=16777216 then some (.lst (xs ++ ys),.non) else none
 | _,_=>none
theorem ext2 (a:D):vo (.lst xs) (a :: b :: r)=none:=by cases a <;> rfl
theorem AI:MutD K p9 vo:=fun a d v as H Q p r m na ra l e q=>by
 cases d with
 | lst xs =>
  obtain ⟨_,j,_,e1,w,s,rs⟩:=r.view
  cases e1
  cases w
  match as,e,ra,l with
  | [],e,_,_=>exact nsE e
  | y :: _ :: _,e,_,_=>exact nsE ((ext2 y.d).symm.trans e)
  | [y],e,ra,l =>
   have t:=ra y Bt
   have u:=l y Bt
   obtain ⟨x,F,E,C⟩:=y
   dsimp only at t u e
   cases x with
   | lst ys =>
    obtain ⟨b,ws,A,rfl,rfl,g,i⟩:=t.view
    have e:(if xs.length+ys.length<=16777216 then some (D.lst (xs ++ ys),D.non) else none)=some p:=e
    split at e
    ·rename_i B
     cases e
     refine ⟨a,b,j,ws,rfl,rfl,s,g,by rw [<- rs.len,<- i.len,<- szl];exact B,?_⟩
     have ma:MutAt H a:=.inl ⟨_,s⟩
     have keeps:∀ {ds f L},Reps (Rep K H) ds f L->a ∉ L->Reps (Rep K (upd H a (.lst (j ++ ws)))) ds f L:=fun {ds f L} r n=>r.keep (M:=fun b=>b=a) (fun b o g h=>by rw [aq h];exact g) (fun b e=>by rw [e];exact ma) fun b g e=>n (by rw [<- e];exact g)
     exact q (.lst (j ++ ws)) (v ++ A) ⟨.non,.non,[],.z⟩ (.lst aC ((keeps rs na).append (keeps i fun h=>u (Bu _ h)))) rfl (fun c k=>by
      rcases BD.mp k with h | h
      ·exact .inl h
      ·exact .inr ⟨_,Bt,Bu _ h⟩) rfl rfl .non fun c k=>by cases k
    ·exact nsE e
   | _=>exact nsE e
 | _=>exact nsE e
def mJ:D->List D->Option (D × D)
 | .lst xs,[.int i,d]=>(ixN xs.length i).map fun j=>(.lst (xs.set j d),.non)
 | _,_=>none
theorem Reps.set:∀ {ds:List D} {b:List V} {L L':List Addr} {d:D} {v:V} (j:Nat),Reps (Rep K H) ds b L->Rep K H d v L'->∃ L2,Reps (Rep K H) (ds.set j d) (b.set j v) L2/\∀ c ∈ L2,c ∈ L\/c ∈ L'
 | _,_,_,_,_,_,j,.nil,_=>⟨[],.nil,fun c a=>by cases a⟩
 | _,_,_,L',_,_,0,.cons (L:=L1) (L':=L1') r rs,r'=>⟨L' ++ L1',.cons r' rs,fun c a=>by
  rcases BD.mp a with h | h
  ·exact .inr h
  ·exact .inl (By _ h)⟩
 | _,_,_,L',_,_,j+1,.cons (L:=L1) (L':=L1') r rs,r'=>by
  obtain ⟨L2,h1,h2⟩:=Reps.set j rs r'
  refine ⟨L1 ++ L2,.cons r h1,fun c a=>?_⟩
  rcases BD.mp a with h | h
  ·exact .inl (Bx _ h)
  ·rcases h2 c h with h | h
   ·exact .inl (By _ h)
   ·exact .inr h
theorem set1 (a:D):mJ (.lst xs) [a]=none:=by cases a <;> rfl
theorem set3' (a:D):mJ (.lst xs) (a :: b :: c :: r)=none:=by cases a <;> rfl
theorem xK:MutD K (jM jL) mJ:=fun a d x as H Q p r m na ra s e q=>by
 cases d with
 | lst xs =>
  obtain ⟨_,g,_,e1,A,t,rs⟩:=r.view
  cases e1
  cases A
  match as,e,ra,s with
  | [],e,_,_=>exact nsE e
  | [y],e,_,_=>exact nsE ((set1 y.d).symm.trans e)
  | y :: _ :: _ :: _,e,_,_=>exact nsE ((set3' y.d).symm.trans e)
  | [k,y],e,ra,s =>
   have u:=ra k Bt
   have B:=ra y (Bu _ Bt)
   have C:=s y (Bu _ Bt)
   obtain ⟨kd,E,G,F⟩:=k
   dsimp only at u
   cases kd with
   | int i =>
    obtain ⟨rfl,rfl⟩:=u.view
    obtain ⟨j,h1,h2⟩:=Bw.mp (show (ixN xs.length i).map (fun j=>(D.lst (xs.set j y.d),D.non))=some p from e)
    subst h2
    refine ⟨.int i,y.v,rfl,a,g,i,j,rfl,rfl,t,by rw [<- rs.len];exact h1,?_⟩
    have ma:MutAt H a:=.inl ⟨_,t⟩
    have l:Rep K (upd H a (.lst (g.set j y.v))) y.d y.v y.L:=B.keep (M:=fun b=>b=a) (fun b o f h=>by rw [aq h];exact f) (fun b e=>by rw [e];exact ma) fun b f e=>C (by rw [<- e];exact f)
    have keeps:Reps (Rep K (upd H a (.lst (g.set j y.v)))) xs g x:=rs.keep (M:=fun b=>b=a) (fun b o f h=>by rw [aq h];exact f) (fun b e=>by rw [e];exact ma) fun b f e=>na (by rw [<- e];exact f)
    obtain ⟨L2,h3,w⟩:=keeps.set j l
    exact q (.lst (g.set j y.v)) L2 ⟨.non,.non,[],.z⟩ (.lst aC h3) rfl (fun c n=>(w c n).imp id fun h=>⟨y,Bu _ Bt,h⟩) rfl rfl .non fun c n=>by cases n
   | _=>exact nsE e
 | _=>exact nsE e
theorem p6 {i:Nat} {x:Str} {id:String} (l:PlainAttrs Ty) (slot:Slot Ty nm id) (j:typeOf (.builtin id)=pure (.type "method_descriptor")) (hm:MtR X id r) (o:MutD X.K r f) (hok:∀ d v L H,ok d=true->Rep X.K H d v L->tyV X.K Ty v H) (m:PE X (.Name x pn) (qY i)) (n:RA X G0 W0 (e :: es) ms) (c:attributeBase (.Name x pn) nm X.env (eval (.Name x pn) X.env)=eval (.Name x pn) X.env) (g:((backTo cpos (starEach (e :: es) X.env)).all (fun x=>!x.1) && (backToKw cpos (keywordEach [] X.env)).all (fun x=>x.1.isSome) && decide ((e :: es).length+([]:List Keyword).length+(if ([]:List Keyword).isEmpty then 0 else 1) < 30))=true) (b:(apos.endLine == cpos.line)=true) (k:starEach (e :: es) X.env=(false,eval e X.env) :: starEach es X.env) (a:(backTo cpos (starEach es X.env)).any (·.1)=false):RE X G0 W0 (.Call (.Attribute (.Name x pn) nm apos) (e :: es) [] cpos) (o5 ok f i ms) :=
 ⟨PE.imp (pe_bm l slot j hm m n.h c g b k a) fun _ _ _ h=>zu o hok h⟩
theorem zI {i:Nat} {x:Str} (d:wc X t) (l:MutD X.K (jM t) f) (j:PE X (.Name x pn) (qY i)) (c:RE X G0 W0 k mk) (g:RE X G0 W0 e mv) (b:∀ v,assign (.Subscript (.Name x pn) k p2) X.env v=(do
   let ov <- holding [v] (eval (.Name x pn) X.env)
   let a <- holding [v,ov] (eval k X.env)
   standAt p2
   holding [v,ov,a] (setItem ov a v)
   release [v,ov,a] [])) (h1:swapsWithSole [.Subscript (.Name x pn) k p2] e pos.line X.env=pure false) (h2:swappedStores [.Subscript (.Name x pn) k p2] e X.env=pure none) (h3:(assignEach [.Subscript (.Name x pn) k p2] X.env).map (·.2)=[assign (.Subscript (.Name x pn) k p2) X.env]):RS X G0 W0 (.Assign [.Subscript (.Name x pn) k p2] e pos) (lA f i mk mv) :=
 ⟨PS.imp (ul g.h (Ai j c.h d b) h1 h2 h3) fun _ _ _ h=>zf l h⟩
end
end L3
end
section
namespace L3
open PySem L2
section
variable {K:FG} {G G0:Gm} {W W0:D->Sto->Prop} {H H':Hp} {σ:St} {ρ ρ':Sto} {T T':List It3} {g:Nat->Option It3} {x y z:It3} {α β:Type} {X:Cx} {L:List Addr}
theorem tY:PTs Y [] (tT K (bq ix) noX dq):=fun pins s σ H Q I h=>xg pins s σ H Q I (zd h)
theorem u7 (h:(ix.filterMap id).Nodup):Inj ix:=by
 intro j k i a b
 induction ix generalizing j k with
 | nil=>simp at a
 | cons o ix ih =>
  cases o with
  | none =>
   have h':(ix.filterMap id).Nodup:=by simpa using h
   cases j with
   | zero=>simp at a
   | succ j =>
    cases k with
    | zero=>simp at b
    | succ k=>rw [ih h' j k (by simpa using a) (by simpa using b)]
  | some c =>
   have h':(c :: ix.filterMap id).Nodup:=by simpa using h
   obtain ⟨n,d⟩:=List.nodup_cons.mp h'
   have mem:∀ m:Nat,ix[m]?=some (some c)->False:=fun m e=>n (List.mem_filterMap.mpr ⟨some c,BH e,rfl⟩)
   cases j with
   | zero =>
    simp at a
    cases k with
    | zero=>rfl
    | succ k=>subst a;exact (mem k (by simpa using b)).elim
   | succ j =>
    cases k with
    | zero=>simp at b;subst b;exact (mem j (by simpa using a)).elim
    | succ k=>rw [ih d j k (by simpa using a) (by simpa using b)]
theorem sW (ho:OpD K r f) (n:OpD K r' f') (h:tE K G0 W0 (cG f f' ma mb mc) σ H Q):om r r' (tE K G0 W0 ma) (tE K G0 W0 mb) (tE K G0 W0 mc) σ H Q:=by
 refine h.use fun G W le ρ T g o ρ' w e q=>?_
 refine tE.seq le w e q.err fun ra ρ1 e1 va H1 ⟨Ts,g1,w1,a1⟩=>?_
 refine tE.seq le w1 e1 q.err fun rb ρ2 e2 vb H2 ⟨Us,g2,j,a2⟩=>?_
 obtain ⟨da,d1,e3⟩:=aK e2
 obtain ⟨db,d2,e4⟩:=aK e3
 obtain ⟨k,e5,v⟩:=iL e4
 obtain ⟨J,M,f1,f2⟩:=a1.item j (fun x b=>By _ (Bx _ b)) d1
 obtain ⟨O,E,X,f4⟩:=a2.item j (fun x b=>Bx _ b) d2
 obtain ⟨p,S,e8⟩:=B0.mp e5
 have Y:=vT e8
 subst f1 f2 f4
 rw [<- X] at S
 refine ho J O H2 _ p (j.itm M).arg (j.itm E).arg S fun u H3 V ud uf=>?_
 have w3:=j.push V fun c h=>j.kids (ys:=[J,O]) (fun y d=>by
  rcases Bz.mp d with h | d
  ·rw [h];exact M
  ·rw [B1.mp d];exact E) h
 have F:=V.rep
 rw [ud,Y] at F
 refine ⟨k,F.bl_eq.1,?_⟩
 have L:=w3.sub (List.sublist_cons_self u _)
 cases k with
 | false =>
  cases v
  have i:=L.sub (T':=T) ((BI Ts T).trans (BI Us _))
  exact q _ _ (i.const (.bl false))
 | true =>
  simp only [if_true] at v ⊢
  refine tE.seq le L v q.err fun rc ρ5 e9 vc H5 ⟨m,U,i,a5⟩=>?_
  obtain ⟨D,d3,A⟩:=aK e9
  obtain ⟨dc,d4,z⟩:=aK A
  obtain ⟨p',a,rfl,rfl⟩:=bE z
  obtain ⟨l,N,f5,Z⟩:=a2.item i (fun x b=>By _ (Bx _ b)) d3
  obtain ⟨P,I,f7,f8⟩:=a5.item i (fun x b=>Bx _ b) d4
  cases C:f' D dc with
  | none=>rw [C] at a;exact nsE a
  | some s =>
   rw [C] at a
   cases a
   have R:=i
   rw [show m ++ (Us ++ (Ts ++ T))=(m ++ (Us ++ Ts)) ++ T by simp] at R
   have B:Itm ((m ++ (Us ++ Ts)) ++ T) U l:=by simpa using N
   have t:Itm ((m ++ (Us ++ Ts)) ++ T) U P:=by simpa using I
   rw [<- Z,<- f8]
   refine n l P H5 Q s (i.itm N).arg (i.itm I).arg (by rw [f5,f7];exact C) (k7 R (fun y d=>?_) q)
   rcases Bz.mp d with h | d
   ·rw [h];exact B
   ·rw [B1.mp d];exact t
theorem t7 (k:OpR X (compareOp op) r) (hd:OpD X.K r f) (e:OpR X (compareOp op') r') (d:OpD X.K r' f') (g:RE X G0 W0 a ma) (j:RE X G0 W0 b mb) (i:RE X G0 W0 c mc) (h:PE X a (tE X.K G0 W0 ma)->PE X b (tE X.K G0 W0 mb)->PE X c (tE X.K G0 W0 mc)->PE X (.Compare a [op,op'] [b,c] pos) (om r r' (tE X.K G0 W0 ma) (tE X.K G0 W0 mb) (tE X.K G0 W0 mc))):RE X G0 W0 (.Compare a [op,op'] [b,c] pos) (cG f f' ma mb mc):=⟨PE.imp (h g.h j.h i.h) fun _ _ _ h=>sW hd d h⟩
theorem oD (e:OpR X (compareOp op) r) (hd:OpD X.K r f) (c:RE X G0 W0 a ma) (d:RE X G0 W0 b mb) (hm:behindInMarks op b=false):RT X G0 W0 (.Compare a [op] [b] pos) (cB (af f ma mb)):=⟨PT.imp (xi e c.h d.h hm) fun _ _ _ h=>lq hd (tT_b h)⟩
def fj (n:Nat):List D->List D
 | []=>[]
 | d :: ds=>.tup [.int n,d] :: fj (n+1) ds
theorem iU:∀ {ds:List D} {n i:Nat},(fj n ds)[i]?=(ds[i]?).map fun d=>.tup [.int ((n+i:Nat):Int),d]
 | [],n,i=>by simp [fj]
 | d :: ds,n,0=>by simp [fj]
 | d :: ds,n,i+1=>by
  show (fj (n+1) ds)[i]?=_
  rw [iU]
  simp only [List.getElem?_cons_succ]
  rw [show n+1+i=n+(i+1) by omega]
theorem iT:∀ {ds:List D} {n:Nat},(fj n ds).length=ds.length
 | [],_=>rfl
 | d :: ds,n=>by simp [fj,iT]
def jW (ms:M3 (List R3)):IM:=ad ms fun rs=>ad (cx rs) fun ds=>aO (match ds with
 | [.lst xs]=>some (rs,fj 0 xs)
 | _=>none)
theorem wv (h:tI K G0 W0 (jW ms) σ H R):yV K (tA K G0 W0 ms) σ H R:=by
 obtain ⟨G,W,le,ρ,T,g,o,ρ',w,e,q⟩:=h
 have m:∀ x,o=.error x->W x ρ':=fun x l=>by subst l;exact q
 refine tA.seq le w e m fun rs ρ1 e1 j H1 Ts g1 E a1=>?_
 obtain ⟨ds,d1,A⟩:=bL e1
 obtain ⟨p,n,rfl,rfl⟩:=bE A
 have inv:∃ xs,ds=[.lst xs]/\p=(rs,fj 0 xs):=by
  split at n
  ·cases n;exact ⟨_,rfl,rfl⟩
  ·exact nsE n
 obtain ⟨xs,rfl,rfl⟩:=inv
 match rs,d1,a1,q with
 | [],d1,_,_=>cases d1
 | r :: r' :: rs,d1,_,_ =>
  obtain ⟨_,_,f⟩:=aK (k:=fun d=>ad (cx (r' :: rs)) fun ds=>aN (d :: ds)) d1
  obtain ⟨X,e6,e7⟩:=bL f
  obtain ⟨_,_,e8⟩:=aK (k:=fun d=>ad (cx rs) fun ds=>aN (d :: ds)) e6
  obtain ⟨ab,_,e9⟩:=bL e8
  cases e9
  cases e7
 | [r],d1,a1,q =>
  obtain ⟨d,C,f⟩:=aK (k:=fun d=>ad (cx []) fun ds=>aN (d :: ds)) d1
  have hd:d=.lst xs:=by
   have f:some ((.ok [d],ρ'):Except D (List D) × Sto)=some (.ok [.lst xs],ρ'):=f
   cases f;rfl
  subst hd
  cases a1 with
  | @cons _ v Ts1 _ vs1 Us1 a as =>
   cases as with
   | nil =>
    obtain ⟨y,S,y2,I⟩:=Ar.item2 (T:=T) (by simpa using E) a C
    have hy:Itm (([] ++ Ts1) ++ T) g1 y:=by
     rcases I with ⟨i,_,ei⟩ | h
     ·exact .inl ⟨i,ei⟩
     ·exact .inr (by simpa using Bx T h)
    have V:=(E.itm hy).arg
    have qq:∀ J,Walk K J H1 [y] (fj 0 xs)->R J H1:=fun J hw=>q J H1 [v] ([] ++ Ts1) g1 [y] E (.cons a .nil) (fun z hz=>by
     rw [B1.mp hz]
     rcases I with h | h
     ·exact .inl h
     ·exact .inr (by simpa using h)) hw
    clear q
    subst y2
    have t:=V
    obtain ⟨yd,yv,yL,Z⟩:=y
    obtain ⟨N,oo⟩:=V
    dsimp only at N S
    subst S
    cases N with
    | @lst _ pa j La ha rs =>
     refine ⟨pa,rfl,⟨_,SqL.of ha⟩,qq _ ?_⟩
     obtain ⟨ws,h1,h2,h3⟩:=Reps.split rs
     refine ⟨ws,fun x l=>⟨(h3 x l).1,(h3 x l).2.1,fun c B=>lR (y:=⟨.lst xs,.ref pa,pa :: La,Z⟩) Bt t rfl rfl c ((h3 x l).2.2 c B)⟩,fun M H' hm F Q=>?_⟩
     have sq:SqL K H' pa j:=SqL.of (F pa _ ha (Q _ Bt pa Bt))
     refine ⟨fun i d hd=>?_,by rw [iT];exact ⟨j,sq,by rw [<- rs.len];exact BL _⟩⟩
     rw [iU] at hd
     obtain ⟨O,s,rfl⟩:=Bw.mp hd
     have hw:∃ u,ws[i]?=some u/\u.d=O:=by
      rw [<- h1,BK] at s
      obtain ⟨u,a,b⟩:=Bw.mp s
      exact ⟨u,a,b⟩
     obtain ⟨u,U,ud⟩:=hw
     have P:j[i]?=some u.v:=by rw [<- h2,BK,U];rfl
     have hu:=BH U
     refine ⟨⟨j,u.v,sq,P⟩,fun x ax ⟨Y,yv,e1,A,n,C⟩=>?_⟩
     have f:=C j sq
     rw [P] at f
     cases f
     subst e1 n
     have ru:Rep K H' u.d u.v u.L:=(h3 u hu).2.1.keep F hm fun b hb=>Q _ Bt b (Bu _ ((h3 u hu).2.2 b hb))
     refine ⟨⟨.tup [.int ((0+i:Nat):Int),O],.ref Y,[] ++ (u.L ++ []),.z⟩,rH A (.cons (L:=[]) (by rw [BT];exact .int _) (.cons (by rw [<- ud];exact ru) .nil)) (fun c B=>⟨u,hu,by simpa using B⟩),rfl,rfl,rfl⟩
theorem wX {k:Nat} (c:Gl X "enumerate") (hm:X.mg "enumerate"=none) (d:RA X G0 W0 [a] ms) (b:starEach [a] X.env=[(false,eval a X.env)]):RI X G0 W0 (.Tuple elts k tp) (.Call (.Name "enumerate" p) [a] [] pos) (jW ms):=⟨PI.imp (xr c hm d.h b) fun _ _ _ h=>wv h⟩
end
end L3
namespace L3
theorem xo {i:Nat} (h:mask.length<=i):prM mask i=false:=by
 unfold prM
 rw [List.getElem?_eq_none h]
end L3
end
section
namespace L3
open PySem L2
structure Bl (mg:Str->Option Value):Prop where
 len:mg "len"=none
 range:mg "range"=none
 abs:mg "abs"=none
 divmod:mg "divmod"=none
 enumerate:mg "enumerate"=none
 tuple:mg "tuple"=none
 isinstance:mg "isinstance"=none
 int:mg "int"=none
 bool:mg "bool"=none
 all:mg "all"=none
 str:mg "str"=none
 max:mg "max"=none
 min:mg "min"=none
 list:mg "list"=none
 dict:mg "dict"=none
 repr:mg "repr"=none
 sorted:mg "sorted"=none
 set:mg "set"=none
 zip:mg "zip"=none
 reversed:mg "reversed"=none
theorem y6:bootBuiltins "len"=some (.builtin "len"):=by decide +kernel
theorem b_abs:bootBuiltins "abs"=some (.builtin "abs"):=by decide +kernel
theorem vR:bootBuiltins "divmod"=some (.builtin "divmod"):=by decide +kernel
theorem qN:bootBuiltins "tuple"=some (.type "tuple"):=by decide +kernel
theorem me:bootBuiltins "isinstance"=some (.builtin "isinstance"):=by decide +kernel
theorem b_int:bootBuiltins "int"=some (.type "int"):=by decide +kernel
theorem Bi:bootBuiltins "bool"=some (.type "bool"):=by decide +kernel
theorem b_all:bootBuiltins "all"=some (.builtin "all"):=by decide +kernel
theorem b_max:bootBuiltins "max"=some (.builtin "max"):=by decide +kernel
theorem b_min:bootBuiltins "min"=some (.builtin "min"):=by decide +kernel
theorem Bh:bootBuiltins "list"=some (.type "list"):=by decide +kernel
theorem Bg:bootBuiltins "repr"=some (.builtin "repr"):=by decide +kernel
theorem vQ:bootBuiltins "sorted"=some (.builtin "sorted"):=by decide +kernel
theorem b_set:bootBuiltins "set"=some (.type "set"):=by decide +kernel
end L3
end
section
namespace L3
open PySem L2
section
variable {K:FG} {G G0:Gm} {W W0:D->Sto->Prop} {H H':Hp} {σ:St} {ρ ρ':Sto} {T T':List It3} {g:Nat->Option It3} {x y z:It3} {α β:Type} {X:Cx} {L:List Addr}
theorem wy (h:tE K G0 W0 m σ H Q) (f:∀ v H,Q v H->Q' v H):tE K G0 W0 m σ H Q':=by
 refine h.use fun G W le ρ T g o ρ' w e q=>?_
 refine tE.mk le w e ?_
 cases o with
 | ok r=>exact fun v H' g=>f v H' (q v H' g)
 | error x=>exact q
def kU:D->Option String
 | .non=>some "NoneType" | .bl _=>some "bool" | .int _=>some "int" | .str _=>some "str"
 | .tup _=>some "tuple" | .lst _=>some "list" | .fls _=>some "list" | .dk _=>some "dict" | .dt _=>some "dict" | .exc _ _=>none
def cS (t:String) (d:D):Option (D × Fl):=(kU d).map fun k=>(.bl (jj k t),.z)
theorem Rep.kind (r:Rep K H d v L) (e:kU d=some k):KindOf K H v k:=by
 cases r with
 | non=>cases e;exact .non
 | bl b=>cases e;exact .bool b
 | int i=>cases e;exact .int i
 | str s=>cases e;exact .str s
 | tup h _=>cases e;exact .tuple (SqT.of h)
 | lst h _=>cases e;exact .list (SqL.of h)
 | lstF h _=>cases e;exact .list h.sq
 | dK h _ _=>cases e;exact .dK h
 | dT h _ _=>cases e;exact .dT h
 | exc _ _=>cases e
theorem oH (g:bX X (.builtin "isinstance") (fun xs H Q=>∃ x k,xs=[x,.ty t]/\KindOf X.K H x k/\Q (.bl (jj k t)) H)) (l:Gl X "isinstance") (hm:X.mg "isinstance"=none) (f:PE X (.Name tn pT) (tC (.ty t))) (i:RE X G0 W0 a ma) (b:starEach [a,.Name tn pT] X.env=(false,eval a X.env) :: starEach [.Name tn pT] X.env) (c:starEach [.Name tn pT] X.env=(false,eval (.Name tn pT) X.env) :: starEach [] X.env) (d:(backTo pos (starEach [.Name tn pT] X.env)).any (·.1)=false):RE X G0 W0 (.Call (.Name "isinstance" p) [a,.Name tn pT] [] pos) (mUn (cS t) ma) :=
 ⟨PE.imp (jQ g l hm me (gw i.h (gw f lL c) b) (by decide) (by decide) b d) fun σ H Q h=>by
  have h:=yB (r:=fun x H Q=>∃ k,KindOf X.K H x k/\Q (.bl (jj k t)) H) (fun a H Q p ra e q=>by
   obtain ⟨k,h1,h2⟩:=Bw.mp e
   subst h2
   exact ⟨k,ra.rep.kind h1,q ⟨.bl (jj k t),.bl (jj k t),[],.z⟩ H (dn (.bl _)) rfl rfl⟩) h
  refine wy h fun x H1 ⟨k,j,q⟩=>?_
  exact ⟨x,k,rfl,j,q⟩⟩
def uZ:D->Option Key
 | .int i=>some (.inl i)
 | .str s=>some (.inr s)
 | _=>none
def dN:List D->Option (List Key)
 | []=>some []
 | d :: ds=>match uZ d,dN ds with
  | some k,some ks=>some (k :: ks)
  | _,_=>none
theorem rT (r:Rep K H d v L) (e:uZ d=some k):v=kV k:=by
 cases r <;> cases e <;> rfl
theorem fg:∀ {ds:List D} {b:List V} {L:List Addr} {a:List Key},Reps (Rep K H) ds b L->dN ds=some a->b=a.map kV
 | _,_,_,a,.nil,e=>by cases e;rfl
 | _,_,_,a,.cons (d:=d) (ds:=ds) r rs,e=>by
  unfold dN at e
  cases h1:uZ d with
  | none=>rw [h1] at e;exact nsE e
  | some k =>
   cases h2:dN ds with
   | none=>rw [h1,h2] at e;exact nsE e
   | some ks' =>
    rw [h1,h2] at e
    cases e
    rw [rT r h1,fg rs h2];rfl
def vh (kvs:List (List Key × D)) (k:List Key):Option D:=(kvs.find? fun a=>decide (a.1=k)).map (·.2)
def ug (kvs:List (List Key × D)) (k:List Key) (v:D):List (List Key × D) :=
 if (kvs.any fun a=>decide (a.1=k))=true then kvs.map (fun a=>if a.1=k then (a.1,v) else a) else kvs ++ [(k,v)]
theorem nE:∀ {kvs:List (List Key × D)} {ps:List (List Key × V)} {L:List Addr} {k:List Key} {d:D},kvs.map (·.1)=ps.map (·.1)->Reps (Rep K H) (kvs.map (·.2)) (ps.map (·.2)) L->vh kvs k=some d->∃ v L',jh ps k=some v/\Rep K H d v L'/\∀ c ∈ L',c ∈ L
 | [],ps,L,k,d,hk,r,e=>by cases e
 | f :: kvs,[],L,k,d,hk,r,e=>by cases hk
 | f :: kvs,p :: ps,L,k,d,hk,r,e=>by
  have b:f.1=p.1/\kvs.map (·.1)=ps.map (·.1):=by simpa using hk
  generalize i:(f :: kvs).map (·.2)=xs at r
  generalize j:(p :: ps).map (·.2)=ys at r
  cases r with
  | nil=>cases i
  | cons a as =>
   cases i
   cases j
   unfold vh at e
   rw [List.find?_cons] at e
   by_cases h:f.1=k
   ·rw [BQ h] at e
    cases e
    exact ⟨_,_,ge (b.1.symm.trans h),a,fun c g=>Bx _ g⟩
   ·rw [BR h] at e
    obtain ⟨v,L',h1,h2,h3⟩:=nE b.2 as e
    exact ⟨v,L',by rw [gf (fun z=>h (b.1.trans z))];exact h1,h2,fun c g=>By _ (h3 c g)⟩
def jf:D->D->Option (D × Fl)
 | .dt kvs,.tup ks=>match dN ks with
  | some k=>(vh kvs k).map fun d=>(d,.z)
  | none=>none
 | _,_=>none
def qa:R2:=fun x y H Q=>∃ a v,x=.ref a/\DGet H a y (some v)/\Q v H
theorem xF:OpD K qa jf:=fun a b H Q p ra rb e q=>by
 obtain ⟨da,x,r,m⟩:=a
 obtain ⟨db,s,A,B⟩:=b
 have f:=ra
 obtain ⟨ra,w⟩:=ra
 obtain ⟨rb,ob⟩:=rb
 dsimp only at ra rb e
 cases da with
 | dt kvs =>
  obtain ⟨h,ps,i,rfl,rfl,j,l,rs⟩:=ra.view
  cases db with
  | tup ks =>
   obtain ⟨u,ws,rfl,o,g⟩:=rb.view
   have e:(match dN ks with | some k=>(vh kvs k).map fun d=>(d,Fl.z) | none=>none)=some p:=e
   cases h1:dN ks with
   | none=>rw [h1] at e;exact nsE e
   | some k =>
    rw [h1] at e
    obtain ⟨d,h2,h3⟩:=Bw.mp (show (vh kvs k).map (fun d=>(d,Fl.z))=some p from e)
    subst h3
    have hw:=fg g h1
    subst hw
    obtain ⟨v,L',g1,g2,g3⟩:=nE l rs h2
    refine ⟨h,v,rfl,by rw [<- g1];exact DGet.t j o,q ⟨d,v,L',.z⟩ H (m4 g2 fun c n=>?_) rfl rfl⟩
    exact lR (y:=⟨.dt kvs,.ref h,h :: i,m⟩) Bt f rfl rfl c (g3 c n)
  | _=>exact nsE e
 | _=>exact nsE e
open PySem.Spec PyProof.Rows in
theorem xW (hu:X.A.units+1 < cLine):IxR X qa:=by
 intro value slice pins s σ H x y v u Q I j f h e
 obtain ⟨a,w,rfl,g,q⟩:=h
 cases j
 have c:=nJ I g
 unfold subscriptTail
 refine Bq ?_
 rw [getitemInPython_of_ne c.not_modules]
 refine Bq (wpAny_specialOf c PySem.F.slot_dict_getitem.lookup ?_)
 have fin:wpAny (model X.prog X.w) X.A (subscripted slice false (.ref a) u) (fun r i=>wpAny (model X.prog X.w) X.A (letTemporaryGo value (.ref a) r >>= fun _=>pure r) (EP X pins σ Q) X.xe i) X.xe s:=by
  rw [e]
  exact wpAny_operating (so hu I g f fun k s3 d b=>Bq (wpAny_letTemporaryGo (Br ⟨w,H,d,b,q⟩)))
 first
  | exact Br (Bq fin)
  | exact Bq (Br (Bq fin))
  | exact Bq fin
abbrev ay:=orD ixD jf
theorem Az:OpD K (fun x y H Q=>(uc K x y H Q\/ub K x y H Q)\/qa x y H Q) ay:=od_ix.or xF
theorem AT (hu:X.A.units+1 < cLine):IxR X (fun x y H Q=>(uc X.K x y H Q\/ub X.K x y H Q)\/qa x y H Q):=ix_ok.or (xW hu)
def i8:D->List D->Option (D × D)
 | .dt kvs,[.tup ks,v]=>match dN ks with
  | some k=>if kvs.length < 16777216 then some (.dt (ug kvs k v),.non) else none
  | none=>none
 | _,_=>none
def p8:Bm:=fun o i v H Q=>∃ a H',o=.ref a/\DPut H a i v H'/\Q H'
theorem tH (hu:X.A.units+1 < cLine):wc X p8:=by
 intro pins s σ H o i v ov f u Q I c d e h
 obtain ⟨a,H',rfl,g,q⟩:=h
 cases c
 exact sk hu I g d e fun s' b=>⟨H',b,q⟩
theorem mS:∀ {kvs:List (List Key × D)} {ps:List (List Key × V)} {L L':List Addr} {k:List Key} {d:D} {v:V},kvs.map (·.1)=ps.map (·.1)->Reps (Rep K H) (kvs.map (·.2)) (ps.map (·.2)) L->Rep K H d v L' ->
  ∃ L2,Reps (Rep K H) ((kvs.map fun b=>if b.1=k then (b.1,d) else b).map (·.2)) ((ps.map fun b=>if b.1=k then (b.1,v) else b).map (·.2)) L2/\(∀ c ∈ L2,c ∈ L\/c ∈ L')
 | [],[],L,L',k,d,v,hk,r,rd=>⟨[],.nil,fun c f=>by cases f⟩
 | [],_ :: _,_,_,_,_,_,hk,_,_=>by cases hk
 | _ :: _,[],_,_,_,_,_,hk,_,_=>by cases hk
 | b :: kvs,p :: ps,L,L',k,d,v,hk,r,rd=>by
  have e:b.1=p.1/\kvs.map (·.1)=ps.map (·.1):=by simpa using hk
  generalize g:(b :: kvs).map (·.2)=xs at r
  generalize i:(p :: ps).map (·.2)=ys at r
  cases r with
  | nil=>cases g
  | @cons _ _ L1 _ _ L1' a as =>
   cases g
   cases i
   obtain ⟨L2,h1,h2⟩:=mS (k:=k) e.2 as rd
   by_cases h:b.1=k
   ·refine ⟨L' ++ L2,?_,fun c f=>?_⟩
    ·simp only [BP,if_pos h,if_pos (e.1.symm.trans h)]
     exact .cons rd h1
    ·rcases BD.mp f with z | z
     ·exact .inr z
     ·rcases h2 c z with y | y
      ·exact .inl (By _ y)
      ·exact .inr y
   ·refine ⟨L1 ++ L2,?_,fun c f=>?_⟩
    ·simp only [BP,if_neg h,if_neg (fun z=>h (e.1.trans z))]
     exact .cons a h1
    ·rcases BD.mp f with z | z
     ·exact .inl (Bx _ z)
     ·rcases h2 c z with y | y
      ·exact .inl (By _ y)
      ·exact .inr y
theorem vW {kvs:List (List Key × D)} {ps:List (List Key × V)} (b:kvs.map (·.1)=ps.map (·.1)):(kvs.any fun a=>decide (a.1=k))=ps.any fun a=>decide (a.1=k):=by
 have h1:(kvs.any fun a=>decide (a.1=k))=(kvs.map (·.1)).any fun x=>decide (x=k):=by rw [List.any_map];rfl
 have h2:(ps.any fun a=>decide (a.1=k))=(ps.map (·.1)).any fun x=>decide (x=k):=by rw [List.any_map];rfl
 rw [h1,h2,b]
theorem nh {kvs:List (List Key × α)} {d:α}:(kvs.map fun a=>if a.1=k then (a.1,d) else a).map (·.1)=kvs.map (·.1):=by
 rw [Cc]
 refine Cd fun a _=>?_
 show (if a.1=k then (a.1,d) else a).1=a.1
 split <;> rfl
theorem put1 (a:D):i8 (.dt kvs) [a]=none:=by cases a <;> rfl
theorem put3' (a:D):i8 (.dt kvs) (a :: b :: c :: r)=none:=by cases a <;> rfl
theorem xL:MutD K (jM p8) i8:=fun a d n as H Q p r m na ra u e q=>by
 cases d with
 | dt kvs =>
  obtain ⟨_,ps,_,e1,B,w,i,rs⟩:=r.view
  cases e1
  cases B
  match as,e,ra,u with
  | [],e,_,_=>exact nsE e
  | [y],e,_,_=>exact nsE ((put1 y.d).symm.trans e)
  | y :: _ :: _ :: _,e,_,_=>exact nsE ((put3' y.d).symm.trans e)
  | [k,y],e,ra,u =>
   have x:=ra k Bt
   have E:=ra y (Bu _ Bt)
   have F:=u y (Bu _ Bt)
   obtain ⟨kd,G,J,I⟩:=k
   dsimp only at x
   cases kd with
   | tup ks =>
    obtain ⟨A,ws,rfl,f,s⟩:=x.view
    have e:(match dN ks with | some k=>if kvs.length < 16777216 then some (D.dt (ug kvs k y.d),D.non) else none | none=>none)=some p:=e
    cases h1:dN ks with
    | none=>rw [h1] at e;exact nsE e
    | some key =>
     rw [h1] at e
     dsimp only at e
     split at e
     ·rename_i C
      cases e
      have hw:=fg s h1
      subst hw
      have hlen:kvs.length=ps.length:=by have:=congrArg List.length i;simpa using this
      refine ⟨.ref A,y.v,rfl,a,_,rfl,DPut.t w f (by rw [<- hlen,<- szl];exact C),?_⟩
      have ma:MutAt H a:=.inr (.inr ⟨_,w⟩)
      have g:Rep K (upd H a (.dT (eB ps key y.v))) y.d y.v y.L:=E.keep (M:=fun b=>b=a) (fun b o f h=>by rw [aq h];exact f) (fun b e=>by rw [e];exact ma) fun b f e=>F (by rw [<- e];exact f)
      have keeps:Reps (Rep K (upd H a (.dT (eB ps key y.v)))) (kvs.map (·.2)) (ps.map (·.2)) n:=rs.keep (M:=fun b=>b=a) (fun b o f h=>by rw [aq h];exact f) (fun b e=>by rw [e];exact ma) fun b f e=>na (by rw [<- e];exact f)
      have fin:∃ l,Reps (Rep K (upd H a (.dT (eB ps key y.v)))) ((ug kvs key y.d).map (·.2)) ((eB ps key y.v).map (·.2)) l/\(∀ c ∈ l,c ∈ n\/c ∈ y.L)/\(ug kvs key y.d).map (·.1)=(eB ps key y.v).map (·.1):=by
       generalize upd H a (HO.dT (eB ps key y.v))=H2 at keeps g ⊢
       unfold ug eB
       rw [vW i]
       split
       ·obtain ⟨L2,g1,g2⟩:=mS (k:=key) i keeps g
        exact ⟨L2,g1,g2,by rw [nh,nh];exact i⟩
       ·refine ⟨n ++ (y.L ++ []),?_,fun c j=>?_,by rw [List.map_append,List.map_append,i];rfl⟩
        ·rw [List.map_append,List.map_append]
         exact keeps.append (.cons g .nil)
        ·rcases BD.mp j with z | z
         ·exact .inl z
         ·rw [List.append_nil] at z;exact .inr z
      obtain ⟨l,g1,g2,g3⟩:=fin
      exact q (.dT (eB ps key y.v)) l ⟨.non,.non,[],.z⟩ (.dT aC g3 g1) rfl (fun c j=>(g2 c j).imp id fun h=>⟨y,Bu _ Bt,h⟩) rfl rfl .non fun c j=>by cases j
     ·exact nsE e
   | _=>exact nsE e
 | _=>exact nsE e
def oS (f g:D->List D->Option (D × D)) (a:D) (b:List D):Option (D × D):=match f a b with
 | some p=>some p
 | none=>g a b
theorem MutD.or {f g:D->List D->Option (D × D)} (h:MutD K r f) (h':MutD K r' g):MutD K (fun x y H Q=>r x y H Q\/r' x y H Q) (oS f g):=fun a d c as H Q p r m na ra i e q=>by
 unfold oS at e
 cases b:f d (as.map (·.d)) with
 | some p'=>rw [b] at e;cases e;exact .inl (h a d c as H Q _ r m na ra i b q)
 | none=>rw [b] at e;exact .inr (h' a d c as H Q p r m na ra i e q)
abbrev setD:=oS mJ i8
theorem AH:MutD K (jM fun o i v H Q=>jL o i v H Q\/p8 o i v H Q) setD:=fun a d b as H Q p r m na ra c e q=>by
 rcases MutD.or xK xL a d b as H Q p r m na ra c e q with ⟨k,v,h1,h2⟩ | ⟨k,v,h1,h2⟩
 ·exact ⟨k,v,h1,.inl h2⟩
 ·exact ⟨k,v,h1,.inr h2⟩
theorem wI (hu:X.A.units+1 < cLine):wc X (fun o i v H Q=>jL o i v H Q\/p8 o i v H Q):=by
 intro pins s σ H o i v ov d u Q I a b c h
 rcases h with h | h
 ·exact tG pins s σ H o i v ov d u Q I a b c h
 ·exact tH hu pins s σ H o i v ov d u Q I a b c h
end
end L3
end
section
namespace L3
open PySem L2
section
open PySem.Spec PyProof.Rows HT
variable {prog:Program} {w:World} {A:Around} {E:Value->Shared->Prop} {s:Shared}
theorem fM {lo hi:Option Int} (a:IsTup s.heap t items) (e:s.heap.IsSliceOf sl vl vu .none) (pl:IsPart vl lo) (pu:IsPart vu hi) (hw:sIx items.size 0 lo=0/\sIx items.size items.size hi=items.size) (h:Q (.ref t) s) (hsz:items.size<=sizeLine):wpAny (model prog w) A (getItem (.ref t) (.ref sl)) Q E s:=by
 obtain ⟨os,d,c,f⟩:=id e
 have b:s.TypeIs (.ref sl) "slice":=⟨os,d,c⟩
 unfold getItem
 try with_reducible refine Bs ?_
 first | refine Bq (Br ?_) | skip
 refine Bq (wpAny_sequenceKey a.typeIs (by decide) ?_)
 refine Bq (wpAny_callSpecial?_slot (name:=Str.ofString "__getitem__") a.typeIs PyProof.Rows.slot_tuple_getitem
  (wpAny_call_entry PyProof.Rows.slot_tuple_getitem a.typeIs entry_tuple_getitem ?_ (args_tuple_getitem _ _)))
 show wpAny _ _ (Builtin.Tuple.tupleItemsOf (.ref t) >>= _) _ _ s
 refine Bq (tupleItemsOf_ a ?_)
 refine Bq (wpAny_typeOf b ?_)
 rw [if_pos (by decide)]
 refine Bq (dR e pl pu ?_)
 show wpAny _ _ (if (((sIx items.size 0 lo:Nat):Int) == 0 && (1:Int) == 1 && (sIx items.size items.size hi - sIx items.size 0 lo) == items.size)=true then _ else _) _ _ s
 rw [if_pos (by simp [hw.1,hw.2])]
 refine Bq ?_
 unfold Builtin.Tuple.tupleIsExact
 refine Bq (wpAny_typeOf a.typeIs ?_)
 refine Br ?_
 rw [if_pos (by decide)]
 exact Bq (wpAny_rule (Br ⟨_,rfl,Br h⟩))
end
section
variable {K:FG} {G G0:Gm} {W W0:D->Sto->Prop} {H H':Hp} {σ:St} {ρ ρ':Sto} {T T':List It3} {g:Nat->Option It3} {x y z:It3} {α β:Type} {X:Cx} {L:List Addr}
def ua (K:FG):V->Option Int->Option Int->Hp->VK->Prop:=fun x lo hi H Q=>∃ a xs,x=.ref a/\SqT K H a xs/\(HT.sIx xs.length 0 lo=0/\HT.sIx xs.length xs.length hi=xs.length)/\Q (.ref a) H
theorem wD:SlR X (ua X.K):=by
 intro pins s σ H x v g f lo hi sl Q I e d pl pu h
 obtain ⟨a,xs,rfl,c,hw,q⟩:=h
 cases e
 obtain ⟨its,r,b,hz⟩:=I.tuple c
 have hlen:its.toArray.size=xs.length:=by rw [BO];exact r.length.symm
 refine ⟨"tuple",_,PyProof.Rows.slot_tuple_getitem.lookup,b.typeIs,?_⟩
 exact fM b d pl pu (by rw [hlen];exact hw) ⟨.ref a,H,I,rfl,q⟩ (by rw [hlen];exact hz)
def asI:D->Option Int
 | .int i=>some i
 | _=>none
def eW:M3 (Option Int):=aN none
def dh (m:EM):M3 (Option Int):=ad m fun r=>ad (der r) fun d=>aO ((asI d).map some)
def EndP (K:FG) (G:Gm) (W:D->Sto->Prop) (σ:St) (T:List It3) (ρ':Sto) (Q:Option Int->Hp->Prop):Except D (Option Int)->Prop
 | .ok b=>∀ H' g',Wf K G H' σ ρ' T g'->Q b H'
 | .error e=>W e ρ'
def tP (K:FG) (G0:Gm) (W0:D->Sto->Prop) (m:M3 (Option Int)):TO:=fun σ H Q=>∃ G W,Le K G W G0 W0/\∃ ρ T g r ρ',Wf K G H σ ρ T g/\m ρ=some (r,ρ')/\EndP K G W σ T ρ' Q r
structure RP (X:Cx) (G0:Gm) (W0:D->Sto->Prop) (e:Option Expr) (m:M3 (Option Int)):Prop where
 h:PO X e (tP X.K G0 W0 m)
theorem PO.imp (h:PO X e t) (f:∀ σ H Q,t' σ H Q->t σ H Q):PO X e t':=fun pins s σ H Q I q=>h pins s σ H Q I (f σ H Q q)
theorem wS:RP X G0 W0 none eW:=⟨PO.imp xq fun σ H Q h=>by
 obtain ⟨G,W,le,ρ,T,g,r,ρ',w,e,q⟩:=h
 cases e
 exact q _ _ w⟩
theorem wR (h:RE X G0 W0 e m):RP X G0 W0 (some e) (dh m):=⟨PO.imp (xp h.h) fun σ H Q h=>by
 obtain ⟨G,W,le,ρ,T,g,r,ρ',w,e,q⟩:=h
 have a:∀ x,r=.error x->W x ρ':=fun x b=>by subst b;exact q
 refine tE.seq le w e a fun ra ρ1 e1 v H1 ⟨Ts,g1,f,a1⟩=>?_
 obtain ⟨d,d1,n⟩:=aK e1
 obtain ⟨o,k,rfl,rfl⟩:=bE n
 obtain ⟨i,p,l⟩:=Bw.mp k
 subst l
 obtain ⟨y,j,f1,f2⟩:=a1.item f (fun x b=>Bx _ b) d1
 have c:=(f.itm j).rep
 rw [f1] at c
 have hd:d=.int i:=by cases d <;> cases p;rfl
 rw [hd] at c
 refine ⟨i,by rw [<- f2];exact c.int_inv,q _ _ (f.sub (BI Ts T))⟩⟩
def mSl (f:D->Option Int->Option Int->Option (D × Fl)) (ma:EM) (pl pu:M3 (Option Int)):EM:=ad ma fun ra=>ad pl fun lo=>ad pu fun hi=>ad (der ra) fun d=>aO ((f d lo hi).map fun p=>R3.val p.1 p.2)
def SlD (K:FG) (r:V->Option Int->Option Int->Hp->VK->Prop) (f:D->Option Int->Option Int->Option (D × Fl)):Prop:=∀ (a:It3) (lo hi:Option Int) (H:Hp) (Q:VK) (p:D × Fl),Arg K H a->f a.d lo hi=some p ->
 (∀ w H',New K H H' (cW [a]) w->w.d=p.1->w.f=p.2->Q w.v H')->r a.v lo hi H Q
theorem tP.seq (le:Le K G W G0 W0) (w:Wf K G H σ ρ T g) (e:ad ma k ρ=some (r,ρ')) (he:∀ x,r=.error x->W x ρ') (h:∀ b ρ1,k b ρ1=some (r,ρ')->∀ H1 g1,Wf K G H1 σ ρ1 T g1->P b H1):tP K G0 W0 ma σ H P:=by
 unfold ad at e
 cases q:ma ρ with
 | none=>rw [q] at e;exact nsE e
 | some p =>
  obtain ⟨o,ρ1⟩:=p
  rw [q] at e
  cases o with
  | error x=>cases e;exact ⟨G,W,le,ρ,T,g,.error x,ρ',w,q,he x rfl⟩
  | ok ra=>exact ⟨G,W,le,ρ,T,g,.ok ra,ρ1,w,q,h ra ρ1 e⟩
theorem tE_sl (hd:SlD K r f) (h:tE K G0 W0 (mSl f ma pl pu) σ H Q):tSl r (tE K G0 W0 ma) (tP K G0 W0 pl) (tP K G0 W0 pu) σ H Q:=by
 refine h.use fun G W le ρ T g o ρ' w e q=>?_
 refine tE.seq le w e q.err fun ra ρ1 e1 v H1 ⟨Ts,g1,u,a1⟩=>?_
 refine tP.seq le u e1 q.err fun lo ρ2 l H2 g2 m=>?_
 refine tP.seq le m l q.err fun hi ρ3 k t g3 b=>?_
 obtain ⟨d,d1,n⟩:=aK k
 obtain ⟨p,a,rfl,rfl⟩:=bE n
 obtain ⟨y,i,f1,f2⟩:=a1.item b (fun x j=>Bx _ j) d1
 subst f1 f2
 cases c:f y.d lo hi with
 | none=>rw [c] at a;exact nsE a
 | some s =>
  rw [c] at a
  cases a
  exact hd y lo hi t Q s (b.itm i).arg c (k7 b (fun z hz=>by rw [B1.mp hz];exact i) q)
theorem Reps.take:∀ {ds:List D} {b:List V} {L:List Addr} (n:Nat),Reps (Rep K H) ds b L->∃ L',Reps (Rep K H) (ds.take n) (b.take n) L'/\∀ c ∈ L',c ∈ L
 | _,_,_,0,_=>⟨[],by simpa using Reps.nil,fun c a=>by cases a⟩
 | _,_,_,n+1,.nil=>⟨[],by simpa using Reps.nil,fun c a=>by cases a⟩
 | _,_,_,n+1,.cons (L:=L1) r rs=>by
  obtain ⟨L',h1,h2⟩:=Reps.take n rs
  exact ⟨L1 ++ L',by simpa using Reps.cons r h1,fun c a=>by
   rcases BD.mp a with h | h
   ·exact Bx _ h
   ·exact By _ (h2 c h)⟩
theorem Reps.drop:∀ {ds:List D} {b:List V} {L:List Addr} (n:Nat),Reps (Rep K H) ds b L->∃ L',Reps (Rep K H) (ds.drop n) (b.drop n) L'/\∀ c ∈ L',c ∈ L
 | _,_,L,0,r=>⟨L,by simpa using r,fun c a=>a⟩
 | _,_,_,n+1,.nil=>⟨[],by simpa using Reps.nil,fun c a=>by cases a⟩
 | _,_,_,n+1,.cons r rs=>by
  obtain ⟨L',h1,h2⟩:=Reps.drop n rs
  exact ⟨L',by simpa using h1,fun c a=>By _ (h2 c a)⟩
theorem Reps.cut (lo hi:Option Int) (r:Reps (Rep K H) ds vs L):∃ L',Reps (Rep K H) (eG ds lo hi) (nM vs lo hi) L'/\∀ c ∈ L',c ∈ L:=by
 unfold eG nM
 rw [<- r.len]
 obtain ⟨d,h1,h2⟩:=r.drop (HT.sIx ds.length 0 lo)
 obtain ⟨L2,h3,b⟩:=h1.take (HT.sIx ds.length ds.length hi - HT.sIx ds.length 0 lo)
 exact ⟨L2,h3,fun c a=>h2 c (b c a)⟩
def slD:D->Option Int->Option Int->Option (D × Fl)
 | .lst xs,lo,hi=>some (.lst (eG xs lo hi),.u)
 | .fls xs,lo,hi=>some (.lst (eG xs lo hi),.u)
 | .tup xs,lo,hi=>some (.tup (eG xs lo hi),.z)
 | _,_,_=>none
theorem sd_sl:SlD K (fun x lo hi H Q=>z7 K x lo hi H Q\/(z6 K x lo hi H Q\/ua K x lo hi H Q)) slD:=fun a lo hi H Q p ra e q=>by
 obtain ⟨da,n,j,k⟩:=a
 have f:=ra
 obtain ⟨ra,m⟩:=ra
 dsimp only at ra e
 cases da with
 | lst xs =>
  obtain ⟨b,d,l,rfl,rfl,h,rs⟩:=ra.view
  cases e
  obtain ⟨L',h1,h2⟩:=rs.cut lo hi
  exact .inl ⟨b,d,rfl,SqL.of h,fun p i=>q ⟨_,.ref p,p :: L',.u⟩ _ (rJ i h1 fun c g=>lR (y:=⟨.lst xs,.ref b,b :: l,k⟩) Bt f rfl rfl c (h2 c g)) rfl rfl⟩
 | fls xs =>
  obtain ⟨b,d,rfl,h,rs⟩:=ra.view
  cases e
  obtain ⟨L',h1,h2⟩:=rs.cut lo hi
  exact .inl ⟨b,d,rfl,h.sq,fun p i=>q ⟨_,.ref p,p :: L',.u⟩ _ (rJ i h1 fun c g=>ic (y:=⟨.fls xs,.ref b,j,k⟩) Bt f rfl c (h2 c g)) rfl rfl⟩
 | tup xs =>
  obtain ⟨b,d,rfl,h,rs⟩:=ra.view
  cases e
  by_cases hw:HT.sIx d.length 0 lo=0/\HT.sIx d.length d.length hi=d.length
  ·have g:eG xs lo hi=xs:=by
    unfold eG
    rw [rs.len,hw.1,hw.2,<- rs.len]
    simp
   rw [g] at q
   exact .inr (.inr ⟨b,d,rfl,SqT.of h,hw,q ⟨.tup xs,.ref b,j,.z⟩ H (m4 (.tup h rs) (ic (y:=⟨.tup xs,.ref b,j,k⟩) Bt f rfl)) rfl rfl⟩)
  ·obtain ⟨L',h1,h2⟩:=rs.cut lo hi
   exact .inr (.inl ⟨b,d,rfl,SqT.of h,hw,fun p i=>q ⟨_,.ref p,L',.z⟩ _ (rH i h1 fun c g=>ic (y:=⟨.tup xs,.ref b,j,k⟩) Bt f rfl c (h2 c g)) rfl rfl⟩)
 | _=>exact nsE e
theorem zy:SlR X (fun x lo hi H Q=>z7 X.K x lo hi H Q\/(z6 X.K x lo hi H Q\/ua X.K x lo hi H Q)):=sl_list.or (sl_tup.or wD)
theorem t5 (he:RE X G0 W0 e m) (a:RP X G0 W0 lo pl) (hu:RP X G0 W0 hi pu):RE X G0 W0 (.Subscript e (.Slice lo hi none p2) pos) (mSl slD m pl pu):=⟨PE.imp (uy zy he.h a.h hu.h) fun _ _ _ h=>tE_sl sd_sl h⟩
end
end L3
end
section
namespace L3
open PySem L2
mutual
def pyD:D->Option PyData
 | .non=>some .none
 | .bl b=>some (.bool b)
 | .int i=>some (.int i)
 | .str x=>some (.str x)
 | .tup xs=>(dI xs).map .tuple
 | .lst xs=>(dI xs).map .list
 | .fls xs=>(dI xs).map .list
 | .dk _=>none
 | .dt _=>none
 | .exc _ _=>none
def dI:List D->Option (List PyData)
 | []=>some []
 | d :: ds=>match pyD d,dI ds with
  | some p,some ps=>some (p :: ps)
  | _,_=>none
end
section
variable {K:FG} {H:Hp} {Ks:Addr->Prop} {d:D} {v:V} {L:List Addr} {X:Cx}
theorem Rep.dv (r:Rep K H d v L):∀ p,pyD d=some p->DV K H v p:=by
 refine Rep.rec (motive_1:=fun d v _ _=>∀ p,pyD d=some p->DV K H v p) (motive_2:=fun ds b _ _=>∀ ps,dI ds=some ps->DVs K H b ps) ?_ ?_ ?_ ?_ ?_ ?_ ?_ ?_ ?_ ?_ ?_ ?_ r
 ·intro p e;unfold pyD at e;cases e;exact .non
 ·intro _ p e;unfold pyD at e;cases e;exact .bl _
 ·intro _ p e;unfold pyD at e;cases e;exact .int _
 ·intro _ p e;unfold pyD at e;cases e;exact .str _
 ·intro xs a b L h _ c p e
  unfold pyD at e
  obtain ⟨ps,e1,rfl⟩:=Bw.mp e
  exact .tup (SqT.of h) (c ps e1)
 ·intro xs a b L h _ c p e
  unfold pyD at e
  obtain ⟨ps,e1,rfl⟩:=Bw.mp e
  exact .lst (SqL.of h) (c ps e1)
 ·intro xs a b L h _ c p e
  unfold pyD at e
  obtain ⟨ps,e1,rfl⟩:=Bw.mp e
  exact .lst h.sq (c ps e1)
 ·intro _ _ _ _ _ _ _ _ p e;unfold pyD at e;exact nsE e
 ·intro _ _ _ _ _ _ _ _ p e;unfold pyD at e;exact nsE e
 ·intros;rename_i e;unfold pyD at e;exact nsE e
 ·intro ps e;unfold dI at e;cases e;exact .nil
 ·intro d v L ds b L' _ _ f g ps e
  unfold dI at e
  cases h1:pyD d with
  | none=>rw [h1] at e;exact nsE e
  | some p =>
   cases h2:dI ds with
   | none=>rw [h1,h2] at e;exact nsE e
   | some qs=>rw [h1,h2] at e;cases e;exact .cons (f p h1) (g qs h2)
def eqP (a b:D):Option Bool:=match pyD a,pyD b with
 | some p,some q=>if p.canLay0 && q.canLay0 && decide (min p.depth q.depth<=30) then some (PyData.eqv p q) else none
 | _,_=>none
def eqA (a b:D):Option Bool:=match eqS a b with
 | some k=>some k
 | none=>eqP a b
abbrev eqX (a b:D):Option (D × Fl):=(eqA a b).map fun k=>(.bl k,.z)
abbrev neX (a b:D):Option (D × Fl):=(eqA a b).map fun k=>(.bl (!k),.z)
def rEqP:R2:=fun x y H Q=>∃ p q,DV X.K H x p/\DV X.K H y q/\p.canLay0=true/\q.canLay0=true/\min p.depth q.depth<=30/\Q (.bl (PyData.eqv p q)) H
def rNeP:R2:=fun x y H Q=>∃ p q,DV X.K H x p/\DV X.K H y q/\p.canLay0=true/\q.canLay0=true/\min p.depth q.depth<=30/\Q (.bl (!PyData.eqv p q)) H
theorem uC (hu:X.A.units+64 < cLine):OpR X (compareOp .Eq) (fun x y H Q=>rEq x y H Q\/rEqP (X:=X) x y H Q):=by
 intro pins s σ H x y v u Q I b a h
 rcases h with h | ⟨p,q,h1,h2,h3,d,e,c⟩
 ·exact op_eq pins s σ H x y v u Q I b a h
 ·obtain ⟨as,ra⟩:=DV.reads I h1 b
  obtain ⟨bs,rb⟩:=DV.reads I h2 a
  exact PySem.SeqAt.compareEq_reads ra rb h3 d (by omega) ⟨.bl _,H,I,rfl,c⟩
theorem Au (hu:X.A.units+64 < cLine):OpR X (compareOp .NotEq) (fun x y H Q=>rNe x y H Q\/rNeP (X:=X) x y H Q):=by
 intro pins s σ H x y v u Q I b a h
 rcases h with h | ⟨p,q,h1,h2,h3,d,e,c⟩
 ·exact op_ne pins s σ H x y v u Q I b a h
 ·obtain ⟨as,ra⟩:=DV.reads I h1 b
  obtain ⟨bs,rb⟩:=DV.reads I h2 a
  exact PySem.SeqAt.compareNe_reads ra rb h3 d (by omega) ⟨.bl _,H,I,rfl,c⟩
theorem qC (e:eqP a b=some k):∃ p q,pyD a=some p/\pyD b=some q/\p.canLay0=true/\q.canLay0=true/\min p.depth q.depth<=30/\k=PyData.eqv p q:=by
 unfold eqP at e
 cases h1:pyD a with
 | none=>rw [h1] at e;exact nsE e
 | some p =>
  cases h2:pyD b with
  | none=>rw [h1,h2] at e;exact nsE e
  | some q =>
   rw [h1,h2] at e
   dsimp only at e
   split at e
   ·rename_i h
    cases e
    simp only [Bool.and_eq_true,decide_eq_true_eq] at h
    exact ⟨p,q,rfl,rfl,h.1.1,h.1.2,h.2,rfl⟩
   ·exact nsE e
theorem uE:OpD X.K (fun x y H Q=>rEq x y H Q\/rEqP (X:=X) x y H Q) eqX:=fun a b H Q p ra rb e q=>by
 obtain ⟨k,h1,h2⟩:=Bw.mp e
 subst h2
 unfold eqA at h1
 cases c:eqS a.d b.d with
 | some k' =>
  rw [c] at h1
  cases h1
  obtain ⟨s,i⟩:=vv ra.rep rb.rep c
  exact .inl ⟨s,by rw [<- i];exact q ⟨.bl k,.bl k,[],.z⟩ H (dn (.bl k)) rfl rfl⟩
 | none =>
  rw [c] at h1
  obtain ⟨p,f,e1,l,g,j,h,rfl⟩:=qC h1
  exact .inr ⟨p,f,ra.rep.dv p e1,rb.rep.dv f l,g,j,h,q ⟨.bl _,.bl _,[],.z⟩ H (dn (.bl _)) rfl rfl⟩
theorem AB:OpD X.K (fun x y H Q=>rNe x y H Q\/rNeP (X:=X) x y H Q) neX:=fun a b H Q p ra rb e q=>by
 obtain ⟨k,h1,h2⟩:=Bw.mp e
 subst h2
 unfold eqA at h1
 cases c:eqS a.d b.d with
 | some k' =>
  rw [c] at h1
  cases h1
  obtain ⟨s,i⟩:=vv ra.rep rb.rep c
  exact .inl ⟨s,by rw [<- i];exact q ⟨.bl (!k),.bl (!k),[],.z⟩ H (dn (.bl _)) rfl rfl⟩
 | none =>
  rw [c] at h1
  obtain ⟨p,f,e1,l,g,j,h,rfl⟩:=qC h1
  exact .inr ⟨p,f,ra.rep.dv p e1,rb.rep.dv f l,g,j,h,q ⟨.bl _,.bl _,[],.z⟩ H (dn (.bl _)) rfl rfl⟩
end
end L3
end
section
namespace L3
open PySem L2
theorem AY {k:Nat} {nn:Nat} (F:Fun K x x st f fd) (S:FnScope N ps (ah st)) (b:mask.length=ps.length) (c:N.length=nn) (body:∀ (a:Value) (A:Around) (outer:List Env) (s:Shared) (H:Hp) (E:XK) (f:Addr) (G:Gm),Room k (A.deeper (PyProof.Rows.envOfC x (ah st) s.heap.objs.size f a))->G.pr=prM mask->RSs (nK CX0 P w K mg base N x (ah st) f a A outer s H E).nox G noX (aU st) m) :
  FnOk P w K mg base CX0 (k+1) f fd ps (qZ K (fnM mask nn m)):=by
 refine F.ok S (fun g H Q E h=>?_) fun a A outer s H g Q E n h=>?_
 ·obtain ⟨j,p,fs,rfl,_,_,d,_⟩:=h
  unfold fnM at d
  rw [BF] at d ⊢
  split at d
  ·rename_i e;rw [e,b]
  ·exact nsE d
 ·have hle:mask.length<=nn:=by
   rw [b,<- c]
   have:=congrArg List.length S.pre
   rw [BY] at this
   omega
  obtain ⟨G,l,i⟩:=qz hle h
  subst c
  exact ⟨_,(body a A outer s H E f G n l).h,i⟩
def s9 (K:FG):Sp:=fun b H Q _=>∃ (a:Addr) (ns:List Int),b=[.ref a]/\SqL K H a (ns.map V.int)/\yw H/\ns.length<=63/\∀ H',Q (.bl true) H'
theorem kG:∀ ns:List Int,Reps (Rep K H) (ns.map D.int) (ns.map V.int) []
 | []=>.nil
 | n :: ns=>.cons (L:=[]) (.int n) (kG ns)
theorem xS (b:∀ ns:List Int,ns.length<=63->∃ fs,F [(.fls (ns.map .int),.z)]=some (.ok (.bl true,.z),fs)) (h:s9 K vs H Q E):qZ K F vs H Q E:=by
 obtain ⟨a,ns,rfl,f,g,d,q⟩:=h
 obtain ⟨fs,e⟩:=b ns d
 have i:FzL K H a (ns.map V.int):=by
  rcases f with (h | h) | h
  ·rcases g a with z | ⟨o,xs,z⟩
   ·rw [h] at z;cases z
   ·rw [h] at z;cases z
  ·exact .inl h
  ·exact .inr h
 refine ⟨[⟨.fls (ns.map .int),.ref a,[],.z⟩],(.bl true,.z),fs,rfl,fun p c=>?_,.cons (fun _ h=>by cases h) .nil,e,fun x qs H' B x1 j _=>?_⟩
 ·rw [B1.mp c]
  exact ⟨.lstF i (kG ns),fun h=>absurd rfl h⟩
 ·have r:=B.rep
  rw [x1] at r
  have inv:∀ {v:V} {L:List Addr},Rep K H' (.bl true) v L->v=.bl true:=fun r=>by cases r;rfl
  rw [inv r]
  exact q H'
end L3
end
section
namespace L3
open PySem L2
section
variable {K:FG} {G G0:Gm} {W W0:D->Sto->Prop} {H H':Hp} {σ:St} {ρ ρ':Sto} {T T':List It3} {g:Nat->Option It3} {x y z:It3} {α β:Type} {X:Cx} {v:V} {d:D} {L:List Addr}
def dP:List D->Option (List Int)
 | []=>some []
 | .int i :: ds=>(dP ds).map (i :: ·)
 | _=>none
theorem iP:∀ {ds:List D} {ns:List Int},dP ds=some ns->ds=ns.map D.int
 | [],ns,e=>by cases e;rfl
 | d :: ds,ns,e=>by
  cases d <;> try (exact nsE e)
  rename_i b
  obtain ⟨r,h1,h2⟩:=Bw.mp (show (dP ds).map (b :: ·)=some ns from e)
  subst h2
  rw [iP h1];rfl
theorem Reps.ints:∀ {ns:List Int} {a:List V} {L:List Addr},Reps (Rep K H) (ns.map D.int) a L->a=ns.map V.int
 | [],_,_,.nil=>rfl
 | b :: bs,_,_,.cons r rs=>by
  rw [Reps.ints rs]
  cases r;rfl
end
end L3
end
section
namespace L3
open PySem L2
end L3
end
section
namespace L3
open PySem L2
section
variable {K:FG} {G G0:Gm} {W W0:D->Sto->Prop} {H H':Hp} {σ:St} {ρ ρ':Sto} {T T':List It3} {g:Nat->Option It3} {x y z:It3} {α β:Type} {X:Cx} {v:V} {d:D} {L:List Addr}
theorem Reps.rep (r:Reps (Rep K H) ds vs L):∀ n:Nat,∃ L',Reps (Rep K H) (List.replicate n ds).flatten (List.replicate n vs).flatten L'/\∀ c ∈ L',c ∈ L
 | 0=>⟨[],.nil,fun _ h=>by cases h⟩
 | n+1=>by
  obtain ⟨L',h1,h2⟩:=Reps.rep r n
  refine ⟨L ++ L',?_,fun c a=>?_⟩
  ·rw [List.replicate_succ,List.replicate_succ,List.flatten_cons,List.flatten_cons];exact r.append h1
  ·rcases BD.mp a with h | h
   ·exact h
   ·exact h2 c h
def wj (i j:Int):Prop:=0 < j/\j < 1267650600228229401496703205376
theorem uB:OpR X (binaryOp .FloorDiv) (rI wj fun i j=>.int (i / j)):=opI fun i j _ _ _ _ _ a q=>by
 have h1:(0:Int) < j:=a.1
 have h2:j < 1267650600228229401496703205376:=a.2
 refine PyProof.Rows.floordiv_int (by omega) (by rw [Int.fdiv_eq_ediv_of_nonneg i (by omega)];exact q) (.inl (PyProof.noPylong_of_log2 ?_))
 have h3:j.natAbs < 2 ^ 100:=by omega
 exact Nat.lt_trans ((Nat.log2_lt (by omega)).mpr h3) (by decide)
abbrev si:=bS (fun _ j=>decide (0 < j/\j < 1267650600228229401496703205376)) fun i j=>.int (i / j)
theorem xG:OpD K (rI wj fun i j=>.int (i / j)) si:=io (fun i j h=>by simpa [wj] using h) fun i j _=>.int _
end
end L3
end
section
namespace L3
open PySem L2
section
variable {K:FG} {G G0:Gm} {W W0:D->Sto->Prop} {H H':Hp} {σ:St} {ρ ρ':Sto} {T T':List It3} {g:Nat->Option It3} {x y z:It3} {α β:Type} {X:Cx} {v:V} {d:D} {L:List Addr}
def tL (i j:Nat) (ms:M3 (List R3)):SM:=ad ms fun rs=>ad (gives rs) fun ds=>fun ρ=>match ds with
 | [a,b]=>if i < ρ.length/\j < ρ.length then some (.ok .nx,(ρ.set i (some (a,.z))).set j (some (b,.z))) else none
 | _=>none
theorem Wf.again (w:Wf K G H σ ρ T g) (a:Itm T g y) (hz:y.f=.z):Wf K G H σ ρ (y :: T) g :=
 w.push (Ks:=cW [y]) ⟨Same.refl _,(w.itm a).rep,fun c b=>.inr ⟨y,Bt,b,fun h=>absurd hz h⟩,fun h=>absurd hz h⟩ fun c h=>w.kids (fun u hu=>by rw [B1.mp hu];exact a) h
theorem zk {i j:Nat} (hi:G0.pr i=false) (x:G0.pr j=false) (h:tS K G0 W0 (tL i j ms) E σ H):tPar i j (tA K G0 W0 ms) E σ H:=by
 refine h.use fun G W le ρ T g r ρ' w e q=>?_
 refine tA.seq le w e q.err fun rs ρ1 e1 L H1 Ts g1 I a1=>?_
 obtain ⟨ds,ρ2,g2,c,_,C,_,ys,m,f1,f2⟩:=a1.gives I e1
 match ds,c,ys,f1,m,f2 with
 | [],c,_,_,_,_=>exact nsE c
 | [_],c,_,_,_,_=>exact nsE c
 | _ :: _ :: _ :: _,c,_,_,_,_=>exact nsE c
 | [a,b],c,[],f1,_,_=>cases f1
 | [a,b],c,[_],f1,_,_=>cases f1
 | [a,b],c,_ :: _ :: _ :: _,f1,_,_=>cases f1
 | [a,b],c,[y1,l],f1,m,f2 =>
  have c:(if i < ρ2.length/\j < ρ2.length then some (Except.ok Flw.nx,(ρ2.set i (some (a,Fl.z))).set j (some (b,Fl.z))) else none)=some (r,ρ'):=c
  split at c
  ·rename_i s
   cases c
   obtain ⟨t,y⟩:=m y1 Bt
   obtain ⟨B,F⟩:=m l (Bu _ Bt)
   have u:=C.again B F
   have n:Itm (l :: (Ts.map cI ++ T)) g2 y1:=t.imp id fun h=>Bu _ h
   have J:=u.again n y
   have D:=J.store (f:=.z) s.1 (by rw [le.pr];exact hi) (.inr rfl) (by intro h;cases h)
   have A:=D.store (f:=.z) (i:=j) (by rw [List.length_set];exact s.2) (by rw [le.pr];exact x) (.inr rfl) (by intro h;cases h)
   have o:=A.sub (BI (Ts.map cI) T)
   have k:y1.d=a/\l.d=b:=by injection f1 with p q;injection q with q _;exact ⟨p,q⟩
   rw [k.1,k.2] at o
   exact ⟨y1.v,l.v,f2.symm,q _ _ _ o⟩
  ·exact nsE c
theorem zL (i j:Nat) {x y:Str} (f:X.calm=true) (n:X.N.Nodup) (hi:X.N[i]?=some x) (m:X.N[j]?=some y) (c:i ≠ j) (d:X.env.scope.names.lookup x=some .local) (g:X.env.scope.names.lookup y=some .local) (e:RA X G0 W0 [a,b] ms) (hw:swappedStores [.Tuple [.Name x px,.Name y py] kt pt] (.Tuple [a,b] k2 pt2) X.env=pure (some [x,y])) (k:swapsWithSole [.Tuple [.Name x px,.Name y py] kt pt] (.Tuple [a,b] k2 pt2) pos.line X.env=pure false) (pi:G0.pr i=false) (l:G0.pr j=false) :
  RS X G0 W0 (.Assign [.Tuple [.Name x px,.Name y py] kt pt] (.Tuple [a,b] k2 pt2) pos) (tL i j ms):=⟨PS.imp (Ad f n hi m c d g e.h hw k) fun _ _ _ h=>zk pi l h⟩
end
end L3
end
section
namespace L3
open PySem L2
end L3
end
section
namespace L3
open PySem L2
end L3
theorem L2.Room.hu {k:Nat} (a:L2.Room k A):A.units+1 < PySem.cLine:=L2.hu_of a
end
section
namespace L3
open PySem L2
end L3
end
section
namespace L3
open PySem L2
end L3
end
section
namespace L3
open PySem L2
section
variable {K:FG} {G G0:Gm} {W W0:D->Sto->Prop} {H H':Hp}
def ntD (n:List Int):D:=.tup (n.map D.int)
theorem fZ:∀ n:List Int,dP (n.map D.int)=some n
 | []=>rfl
 | a :: n=>by
  show (dP (n.map D.int)).map _=_
  rw [fZ n];rfl
theorem gu:∀ n:List Int,Reps (Rep K H) (n.map D.int) (n.map V.int) []
 | []=>.nil
 | a :: n=>.cons (L:=[]) (.int a) (gu n)
end
end L3
end
section
namespace L3
open PySem L2
section
variable {K:FG} {G G0:Gm} {W W0:D->Sto->Prop} {H H':Hp} {σ:St} {ρ ρ':Sto} {T T':List It3} {g:Nat->Option It3} {x y z:It3} {α β:Type} {X:Cx}
theorem Reps.rev:∀ {ds:List D} {b:List V} {L:List Addr},Reps (Rep K H) ds b L->∃ L',Reps (Rep K H) ds.reverse b.reverse L'/\∀ c ∈ L',c ∈ L
 | [],_,_,.nil=>⟨[],.nil,fun c a=>a⟩
 | d :: ds,_,_,.cons (v:=v) (L:=L1) r rs=>by
  obtain ⟨L',h1,h2⟩:=Reps.rev rs
  rw [List.reverse_cons,List.reverse_cons]
  refine ⟨L' ++ (L1 ++ []),h1.append (.cons r .nil),fun c a=>?_⟩
  rcases BD.mp a with h | h
  ·exact By _ (h2 c h)
  ·rw [List.append_nil] at h;exact Bx _ h
def imRev (ms:M3 (List R3)):IM:=ad ms fun rs=>ad (cx rs) fun ds=>aO (match ds with
 | [.tup xs]=>some (rs,xs.reverse)
 | _=>none)
def kQ (ma:EM) (pp:M3 (Option Int)):EM:=ad ma fun ra=>ad pp fun o=>ad (der ra) fun d=>aO (match d with
 | .tup xs=>if o=some (-1) then some (R3.val (.tup xs.reverse) .z) else none
 | _=>none)
theorem wx {ma:EM} {pp:M3 (Option Int)} {Q:VK} (h:tE K G0 W0 (kQ ma pp) σ H Q):yy K (tE K G0 W0 ma) (tP K G0 W0 pp) σ H Q:=by
 refine h.use fun G W le ρ T g o ρ' w e q=>?_
 refine tE.seq le w e q.err fun ra ρ1 e1 A H1 ⟨Ts,g1,D,a1⟩=>?_
 refine tP.seq le D e1 q.err fun lo ρ2 m H2 g2 i=>?_
 obtain ⟨d,d1,r⟩:=aK m
 obtain ⟨p,a,rfl,rfl⟩:=bE r
 obtain ⟨y,k,f1,f2⟩:=a1.item i (fun x b=>Bx _ b) d1
 subst f1 f2
 have s:=(i.itm k).arg
 have inv:∃ xs,y.d=.tup xs/\lo=some (-1)/\p=R3.val (.tup xs.reverse) .z:=by
  split at a
  ·rename_i xs b
   by_cases j:lo=some (-1)
   ·rw [if_pos j] at a
    exact ⟨xs,b,j,(Ce a).symm⟩
   ·rw [if_neg j] at a;cases a
  ·cases a
 obtain ⟨xs,n,rfl,rfl⟩:=inv
 have u:=k7 i (ys:=[y]) (fun z hz=>by rw [B1.mp hz];exact k) q
 clear e e1 m r a d1 q
 obtain ⟨da,A,t,B⟩:=y
 dsimp only at n
 subst n
 have f:=s
 obtain ⟨l,E⟩:=s
 dsimp only at l
 cases l with
 | @tup _ pa vs L ha rs =>
  obtain ⟨L',h1,h2⟩:=rs.rev
  exact ⟨pa,vs,rfl,rfl,SqT.of ha,fun p v=>u ⟨_,.ref p,L',.z⟩ _ (rH v h1 fun c C=>ic (y:=⟨.tup xs,.ref pa,t,B⟩) Bt f rfl c (h2 c C)) rfl rfl⟩
theorem wZ {e st:Expr} {p2 pos:Pos} {m:EM} {pp:M3 (Option Int)} (he:RE X G0 W0 e m) (a:RP X G0 W0 (some st) pp):RE X G0 W0 (.Subscript e (.Slice none none (some st) p2) pos) (kQ m pp):=⟨PE.imp (xt he.h a.h) fun _ _ _ h=>wx h⟩
end
end L3
end
section
namespace L3
open PySem L2
end L3
end
section
namespace L3
open PySem L2
section
variable {K:FG} {H H':Hp}
theorem p4:∀ {ns:List (List Int)} {bs:List Addr},bs.length=ns.length->(∀ (i:Nat) (b:Addr) (n:List Int),bs[i]?=some b->ns[i]?=some n->H b=some (.tup (n.map V.int)))->Reps (Rep K H) (ns.map ntD) (bs.map V.ref) []
 | [],[],_,_=>.nil
 | [],_ :: _,h,_=>by cases h
 | _ :: _,[],h,_=>by cases h
 | n :: ns,b :: bs,h,q=>.cons (L:=[]) (.tup (q 0 b n rfl rfl) (gu n)) (p4 (by simpa using h) fun i b n e1 a=>q (i+1) b n (by simpa using e1) (by simpa using a))
end
end L3
end
section
namespace L3
open PySem L2
end L3
end
section
namespace L3
open PySem L2
section
variable {K:FG} {H H':Hp}
def iY:List D->Option (List (List Int))
 | []=>some []
 | .tup ys :: ds=>(dP ys).bind fun n=>(iY ds).map (n :: ·)
 | _=>none
theorem mq:∀ {ds:List D} {ns:List (List Int)},iY ds=some ns->ds=ns.map ntD
 | [],ns,h=>by cases h;rfl
 | d :: ds,ns,h=>by
  cases d with
  | tup ys =>
   obtain ⟨n,h1,h2⟩:=B0.mp (show ((dP ys).bind fun n=>(iY ds).map (n :: ·))=some ns from h)
   obtain ⟨ms,h3,a⟩:=Bw.mp h2
   rw [mq h3,<- a,iP h1];rfl
  | _=>exact nsE h
def u3 (ns:List (List Int)):Bool:=ns.all (fun n=>!n.isEmpty) || (match ns with | [] :: _=>true | _=>false)
theorem xV (h:u3 ns=true):kOk ns:=by
 rcases Bool.or_eq_true_iff.mp h with h | h
 ·refine .inl fun n a z=>?_
  have:=List.all_eq_true.mp h n a
  subst z;simp at this
 ·refine .inr ?_
  cases ns with
  | nil=>cases h
  | cons n ns=>cases n with
   | nil=>rfl
   | cons i n=>cases h
theorem kF:∀ {ns:List (List Int)} {c:List V} {L:List Addr},Reps (Rep K H) (ns.map ntD) c L->∃ bs:List Addr,c=bs.map V.ref/\ns.length=bs.length/\∀ (i:Nat) (b:Addr) (n:List Int),bs[i]?=some b->ns[i]?=some n->H b=some (.tup (n.map V.int))
 | [],_,_,.nil=>⟨[],rfl,rfl,fun i b n e=>by simp at e⟩
 | n :: ns,_,_,.cons r rs=>by
  obtain ⟨bs,e1,d,f⟩:=kF rs
  cases r with
  | @tup _ a c _ ha hr =>
   have g:c=n.map V.int:=Reps.ints hr
   subst g e1
   refine ⟨a :: bs,rfl,by simp [d],fun i b m h1 h2=>?_⟩
   cases i with
   | zero=>cases h1;cases h2;exact ha
   | succ i=>exact f i b m (by simpa using h1) (by simpa using h2)
end
end L3
end
section
namespace L3
open PySem L2
end L3
end
section
namespace L3
open PySem L2
section
variable {K:FG} {G0:Gm} {W0:D->Sto->Prop} {X:Cx}
def AM (k:Key) (i:Int):EM:=aN (.val (.dk [(k,.int i)]) .u)
theorem zZ {i:Int} (l:PE X k (tC (kV key))) (j:PE X v (tC (.int i))):RE X G0 W0 (.Dict [some k] [v] pos) (AM key i):=⟨PE.imp (Ao l j) fun σ H Q h=>by
 refine h.use fun G W le ρ T g o ρ' w e q=>?_
 cases e
 intro p d
 have sm:Same H (upd (upd H p (.dK [])) p (.dK [(key,.int i)])):=fun b o a=>by
  have n:b ≠ p:=fun z=>by rw [z,d] at a;cases a
  rw [aq n,aq n];exact a
 refine q _ _ (Wf.done (Us:=[]) (ys:=[]) (x:=⟨.dk [(key,.int i)],.ref p,[p],.u⟩) w (fun _ h=>(by cases h)) ⟨sm,.dK (L:=[]) aC rfl (.cons (L:=[]) (.int i) .nil),fun c f=>?_,fun _=>⟨rfl,p,[],rfl,rfl,(by simp),d⟩⟩)
 rw [B1.mp f];exact .inl d⟩
def AL (ns:List Int) (i:Int):EM:=aN (.val (.dt [(ns.map Sum.inl,.int i)]) .u)
theorem zY {x1:Nat} {i:Int} (hu:X.A.units+1 < cLine) (h0:ns ≠ []) (hz:ns.length<=100) (l:es.map sH=ns.map some) (k:PE X v (tC (.int i))):RE X G0 W0 (.Dict [some (.Tuple es x1 pos')] [v] pos) (AL ns i):=⟨PE.imp (An hu h0 hz l k) fun σ H Q h=>by
 refine h.use fun G W le ρ T g o ρ' w e q=>?_
 cases e
 intro p f b d
 have nb:b ≠ p:=fun z=>by rw [z,aC] at d;cases d
 have j:H b=none:=by rw [aq nb] at d;exact d
 have sm:Same H (upd (upd (upd H p (.dT [])) b (.tup (ns.map V.int))) p (.dT [(ns.map Sum.inl,.int i)])):=fun c o a=>by
  have n:c ≠ p:=fun z=>by rw [z,f] at a;cases a
  have m:c ≠ b:=fun z=>by rw [z,j] at a;cases a
  rw [aq n,aq m,aq n];exact a
 refine q _ _ (Wf.done (Us:=[]) (ys:=[]) (x:=⟨.dt [(ns.map Sum.inl,.int i)],.ref p,[p],.u⟩) w (fun _ h=>(by cases h)) ⟨sm,.dT (L:=[]) aC rfl (.cons (L:=[]) (.int i) .nil),fun c a=>?_,fun _=>⟨rfl,p,[],rfl,rfl,(by simp),f⟩⟩)
 rw [B1.mp a];exact .inl f⟩
end
end L3
end
section
namespace L2
open PySem PySem.Spec PyProof.Rows
variable {cmp:Nat->Nat->Option Bool} {α β:Type}
theorem dY {m:StateT SortSt Sem α} {f:α->StateT SortSt Sem β} {st st1:SortSt} {a:α} (h1:ev cmp (m.run st) none=some ((a,st1),none)) (h2:ev cmp ((f a).run st1) none=r):ev cmp ((m >>= f).run st) none=r:=by
 show ev cmp ((m.run st).bind fun x=>(f x.1).run x.2) none=r
 rw [qA,h1]
 exact h2
theorem ye {f:Nat->β->StateT SortSt Sem (ForInStep β)} {i:Nat} {st st1:SortSt} (h:ev cmp ((f i b).run st) none=some ((.yield b1,st1),none)) (h2:ev cmp ((forIn l b1 f).run st1) none=r):ev cmp ((forIn (i :: l) b f).run st) none=r:=by
 rw [List.forIn_cons]
 exact dY h h2
theorem yh {f:Nat->β->StateT SortSt Sem (ForInStep β)} {i:Nat} {st st1:SortSt} (h:ev cmp ((f i b).run st) none=some ((.done b1,st1),none)):ev cmp ((forIn (i :: l) b f).run st) none=some ((b1,st1),none):=by
 rw [List.forIn_cons]
 exact dY h rfl
def aE (l:List Nat) (p:List (Nat × Nat × Nat)) (g:Nat):SortSt:=SortSt.mk' (aR true) ((l.map fun i=>((Value.ref i,Value.ref i):Keyed)).toArray) p.toArray g none
theorem kK:∀ L:List Nat,(L.map fun i=>((Value.ref i,Value.ref i):Keyed)).mapM jR=some L
 | []=>rfl
 | x :: L=>by
  have a:=kK L
  rw [BP,List.mapM_cons,a]
  rfl
theorem mz {n:Nat} {g:Nat} (h0:ns.length=n) (h:ev (fS ns) (sortRuns'.run (aE (List.range n) [] 7)) none=some (((),aE L1 p g),none)):bH ns=some L1:=by
 unfold bH
 subst h0
 have e:SortSt.mk' (aR true) (kM ns.length) #[] 7 none=aE (List.range ns.length) [] 7:=rfl
 rw [e,h]
 show (arrOf (aE L1 p g)).toList.mapM jR=some L1
 show ((L1.map fun i=>((Value.ref i,Value.ref i):Keyed)).toArray).toList.mapM jR=some L1
 rw [List.toList_toArray]
 exact kK L1
end L2
end
section
namespace L2
open PySem PySem.Spec PyProof.Rows
variable {cmp:Nat->Nat->Option Bool} {α β:Type}
theorem A4 (a b:Nat) (l:List Nat) (p:List (Nat × Nat × Nat)) (g:Nat):ev cmp ((lt' (.ref a,.ref a) (.ref b,.ref b)).run (aE l p g)) none=(match cmp a b with | some true=>some ((some true,aE l p g),none) | some false=>some ((some false,aE l p g),none) | none=>none):=by
 rfl
theorem x6 {l:List Nat} {p:List (Nat × Nat × Nat)} {g i j a b:Nat} {c:Bool} (hi:l[i]?=some a) (h:l[j]?=some b) (e:cmp a b=some c):ev cmp ((ltAt' i j).run (aE l p g)) none=some ((some c,aE l p g),none):=by
 have e1:elem' (arrOf (aE l p g)) i=pure (.ref a,.ref a):=by
  rw [elem'_eq]
  have:(arrOf (aE l p g))[i]?=some (.ref a,.ref a):=by
   show ((l.map fun i=>((Value.ref i,Value.ref i):Keyed)).toArray)[i]?=_
   simp [hi]
  rw [this]
 have f:elem' (arrOf (aE l p g)) j=pure (.ref b,.ref b):=by
  rw [elem'_eq]
  have:(arrOf (aE l p g))[j]?=some (.ref b,.ref b):=by
   show ((l.map fun i=>((Value.ref i,Value.ref i):Keyed)).toArray)[j]?=_
   simp [h]
  rw [this]
 have d:=A4 (cmp:=cmp) a b l p g
 rw [e] at d
 rw [ltAt'_eq]
 refine dY (a:=aE l p g) (st1:=aE l p g) rfl ?_
 dsimp only
 rw [e1]
 refine dY (a:=(.ref a,.ref a)) (st1:=aE l p g) rfl ?_
 rw [f]
 refine dY (a:=(.ref b,.ref b)) (st1:=aE l p g) rfl ?_
 rw [d]
 cases c <;> rfl
theorem vt {f:Nat->β->StateT SortSt Sem (ForInStep β)} (I:Nat->β->SortSt->Prop) (D:β->SortSt->Prop):∀ (m a:Nat) (b:β) (st:SortSt),I a b st ->
  (∀ i b st,a<=i->i < a+m->I i b st->(∃ d c,ev cmp ((f i b).run st) none=some ((.yield d,c),none)/\I (i+1) d c)\/∃ d c,ev cmp ((f i b).run st) none=some ((.done d,c),none)/\D d c) ->
  ∃ d c,ev cmp ((forIn (List.range' a m) b f).run st) none=some ((d,c),none)/\(I (a+m) d c\/D d c)
 | 0,a,b,st,h0,_=>⟨b,st,by rw [List.range'_zero,List.forIn_nil];rfl,.inl h0⟩
 | m+1,a,b,st,h0,hs=>by
  rw [List.range'_succ]
  rcases hs a b st (BL _) (by omega) h0 with ⟨b1,st1,e1,h1⟩ | ⟨b1,st1,e1,h1⟩
  ·obtain ⟨b2,e,g,h2⟩:=vt I D m (a+1) b1 st1 h1 fun i b st x y z=>hs i b st (by omega) (by omega) z
   exact ⟨b2,e,ye e1 g,by rw [show a+(m+1)=a+1+m by omega];exact h2⟩
  ·exact ⟨b1,st1,yh e1,.inr h1⟩
theorem yg {f:Nat->β->StateT SortSt Sem (ForInStep β)} (I:Nat->β->SortSt->Prop) (D:β->SortSt->Prop) {a n:Nat} {b:β} {st:SortSt} (h0:I a b st)
  (e:∀ i b st,a<=i->i < n->I i b st->(∃ d c,ev cmp ((f i b).run st) none=some ((.yield d,c),none)/\I (i+1) d c)\/∃ d c,ev cmp ((f i b).run st) none=some ((.done d,c),none)/\D d c) :
  ∃ d c,ev cmp ((forIn [a:n] b f).run st) none=some ((d,c),none)/\(I (max a n) d c\/D d c):=by
 rw [Std.Legacy.Range.forIn_eq_forIn_range']
 by_cases h:a<=n
 ·have hz:([a:n]:Std.Legacy.Range).size=n - a:=by simp [Std.Legacy.Range.size]
  rw [show max a n=a+(n - a) by omega]
  have:=vt (cmp:=cmp) (f:=f) I D (n - a) a b st h0 fun i b st x y z=>e i b st x (by omega) z
  simpa [hz] using this
 ·have hz:([a:n]:Std.Legacy.Range).size=0:=by simp [Std.Legacy.Range.size];omega
  rw [show max a n=a by omega]
  refine ⟨b,st,?_,.inl h0⟩
  rw [hz,List.range'_zero,List.forIn_nil]
  rfl
end L2
end
section
namespace L2
open PySem PySem.Spec PyProof.Rows
variable {cmp:Nat->Nat->Option Bool} {α β:Type}
def EvW (cmp:Nat->Nat->Option Bool) (m:StateT SortSt Sem α) (P:α->SortSt->Prop) (st:SortSt):Prop:=∃ a b,ev cmp (m.run st) none=some ((a,b),none)/\P a b
theorem aP {a:α} {P:α->SortSt->Prop} {st:SortSt} (h:P a st):EvW cmp (pure a) P st:=⟨a,st,rfl,h⟩
theorem aB {m:StateT SortSt Sem α} {f:α->StateT SortSt Sem β} {P:β->SortSt->Prop} {st:SortSt} (h:EvW cmp m (fun a c=>EvW cmp (f a) P c) st):EvW cmp (m >>= f) P st:=by
 obtain ⟨a,st1,e1,b,d,e,h⟩:=h
 exact ⟨b,d,dY e1 e,h⟩
theorem vp {m:StateT SortSt Sem α} {P Q:α->SortSt->Prop} {st:SortSt} (h:EvW cmp m P st) (k:∀ a b,P a b->Q a b):EvW cmp m Q st:=by
 obtain ⟨a,st1,e1,h⟩:=h
 exact ⟨a,st1,e1,k _ _ h⟩
theorem fh {l:List Nat} {p:List (Nat × Nat × Nat)} {g i j a b:Nat} {c:Bool} {P:Option Bool->SortSt->Prop} (hi:l[i]?=some a) (e:l[j]?=some b) (d:cmp a b=some c) (h:P (some c) (aE l p g)):EvW cmp (ltAt' i j) P (aE l p g):=⟨_,_,x6 hi e d,h⟩
theorem nI {r:String} {P:Unit->SortSt->Prop} {st:SortSt} (h:P () st):EvW cmp (liftM (PySem.rule r:Sem Unit):StateT SortSt Sem Unit) P st:=⟨(),st,rfl,h⟩
theorem fK {f:Nat->β->StateT SortSt Sem (ForInStep β)} (I:Nat->β->SortSt->Prop) {P:β->SortSt->Prop} {a n:Nat} {b:β} {st:SortSt} (h0:I a b st)
  (g:∀ i b st,a<=i->i < n->I i b st->EvW cmp (f i b) (fun r c=>match r with | .yield d=>I (i+1) d c | .done d=>P d c) st)
  (he:∀ b st,I (max a n) b st->P b st):EvW cmp (forIn [a:n] b f) P st:=by
 obtain ⟨d,c,e,h⟩:=yg (cmp:=cmp) (f:=f) I P (n:=n) h0 fun i b st x y z=>by
  obtain ⟨r,c,e,h⟩:=g i b st x y z
  cases r with
  | yield d=>exact .inl ⟨d,c,e,h⟩
  | done d=>exact .inr ⟨d,c,e,h⟩
 exact ⟨d,c,e,h.elim (he d c) id⟩
theorem iD {γ δ:Type} (φ:γ->δ) (p q:β->Nat):∀ (l:List β) (xs:Array γ),l.foldl (fun a k=>a.swapIfInBounds (p k) (q k)) (xs.map φ)=(l.foldl (fun a k=>a.swapIfInBounds (p k) (q k)) xs).map φ
 | [],xs=>rfl
 | k :: l,xs=>by
  rw [List.foldl_cons,List.foldl_cons,<- iD φ p q l]
  congr 1
  apply Array.ext_getElem?
  intro i
  rw [Array.getElem?_map]
  by_cases h1:p k < xs.size
  ·by_cases h2:q k < xs.size
   ·rw [getElem?_swapIB (by simpa using h1) (by simpa using h2),getElem?_swapIB h1 h2]
    simp only [Array.getElem?_map]
    repeat' split
    all_goals rfl
   ·rw [Array.swapIfInBounds_def,Array.swapIfInBounds_def,dif_pos (by simpa using h1),dif_neg (by simpa using h2),dif_pos h1,dif_neg h2,Array.getElem?_map]
  ·rw [Array.swapIfInBounds_def,Array.swapIfInBounds_def,dif_neg (by simpa using h1),dif_neg h1,Array.getElem?_map]
abbrev kd (i:Nat):Keyed:=(Value.ref i,Value.ref i)
theorem pK (l:List Nat):(l.map fun i=>((Value.ref i,Value.ref i):Keyed)).toArray=l.toArray.map kd:=by simp
theorem tF {l:List Nat} {p:List (Nat × Nat × Nat)} {g:Nat} {a:Array Nat}:setArr (aE l p g) (a.map kd)=aE a.toList p g:=by
 have:(a.toList.map fun i=>((Value.ref i,Value.ref i):Keyed)).toArray=a.map kd:=by rw [pK]
 show SortSt.mk' _ _ _ _ _=SortSt.mk' _ _ _ _ _
 rw [this]
 rfl
theorem vq {l:List Nat} {p:List (Nat × Nat × Nat)} {g i j:Nat} {P:PUnit->SortSt->Prop} (h:P ⟨⟩ (aE (bubble l.toArray i (i - j)).toList p g)):EvW cmp (moveDown' i j) P (aE l p g):=by
 refine ⟨⟨⟩,_,?_,h⟩
 rw [moveDown'_eq]
 have e:bubble (arrOf (aE l p g)) i (i - j)=(bubble l.toArray i (i - j)).map kd:=by
  show bubble ((l.map fun i=>((Value.ref i,Value.ref i):Keyed)).toArray) _ _=_
  rw [pK]
  exact iD kd _ _ _ _
 show some ((PUnit.unit,setArr (aE l p g) (bubble (arrOf (aE l p g)) i (i - j))),none)=_
 rw [e,tF]
theorem x5 {l:List Nat} {p:List (Nat × Nat × Nat)} {g i j:Nat} {P:PUnit->SortSt->Prop} (h:P ⟨⟩ (aE (mirror l.toArray i j ((j - i) / 2)).toList p g)):EvW cmp (reverseSlice' i j) P (aE l p g):=by
 refine ⟨⟨⟩,_,?_,h⟩
 rw [reverseSlice'_eq]
 have e:mirror (arrOf (aE l p g)) i j ((j - i) / 2)=(mirror l.toArray i j ((j - i) / 2)).map kd:=by
  show mirror ((l.map fun i=>((Value.ref i,Value.ref i):Keyed)).toArray) _ _ _=_
  rw [pK]
  exact iD kd _ _ _ _
 show some ((PUnit.unit,setArr (aE l p g) (mirror (arrOf (aE l p g)) i j ((j - i) / 2))),none)=_
 rw [e,tF]
structure Tot (cmp:Nat->Nat->Option Bool) (lt:Nat->Nat->Bool) (n:Nat):Prop where
 is:∀ a b,a < n->b < n->cmp a b=some (lt a b)
 asym:∀ a b,lt a b=true->lt b a=false
 tot:∀ a b,a < n->b < n->a ≠ b->lt a b=false->lt b a=true
 trans:∀ a b c,lt a b=true->lt b c=true->lt a c=true
def fw (lt:Nat->Nat->Bool) (l:List Nat) (m:Nat):Prop:=∀ i j a b:Nat,i < j->j < m->l[i]?=some a->l[j]?=some b->lt a b=true
section
variable {lt:Nat->Nat->Bool} {n:Nat}
theorem fI {l:List Nat} (h:l.Perm (List.range n)):l.length=n/\(∀ i a:Nat,l[i]?=some a->a < n)/\∀ i j a:Nat,l[i]?=some a->l[j]?=some a->i=j:=by
 refine ⟨by rw [h.length_eq,List.length_range],fun i a e=>List.mem_range.mp (h.subset (BH e)),fun i j a e1 b=>?_⟩
 have nd:l.Nodup:=h.nodup_iff.mpr List.nodup_range
 obtain ⟨h1,e1⟩:=BG.mp e1
 obtain ⟨h2,b⟩:=BG.mp b
 have a1:=nd.idxOf_getElem i h1
 have a2:=nd.idxOf_getElem j h2
 rw [e1] at a1
 rw [b] at a2
 omega
theorem f9 {l:List Nat} {i:Nat} (h:i < l.length):∃ a,l[i]?=some a:=⟨_,BA h⟩
theorem u6 (T:Tot cmp lt n) {l:List Nat} {p:List (Nat × Nat × Nat)} {g k lo key:Nat} (s:l.Perm (List.range n)) (m:fw lt l k) (x:k < n) (t:l[k]?=some key) (w:lo<=k) (u:∀ i a:Nat,i < lo->l[i]?=some a->lt a key=true) (y:∀ i a:Nat,lo<=i->i < k->l[i]?=some a->lt key a=true) {Q:ForInStep (Option Bool × Unit)->SortSt->Prop} (h:∀ o,o.Perm (List.range n)->fw lt o (k+1)->Q (.yield (none,())) (aE o p g)) :
  EvW cmp (do
   moveDown' (0+k) (0+lo)
   pure (ForInStep.yield (none,()))) Q (aE l p g):=by
 obtain ⟨z,C,li⟩:=fI s
 rw [BT,BT]
 refine aB (vq (aP (h _ ?_ ?_)))
 ·have v:(bubble l.toArray k (k - lo)).toList.Perm l:=by
   have:=bubble_perm l.toArray k (k - lo)
   simpa using Array.perm_iff_toList_perm.mp this
  exact v.trans s
 ·have get:∀ q:Nat,(bubble l.toArray k (k - lo)).toList[q]?=if q=lo then l[k]? else if lo < q/\q<=k then l[q - 1]? else l[q]?:=fun q=>by
   have:=getElem?_bubble (xs:=l.toArray) (src:=k) (by simpa using (by omega:k < l.length)) (k - lo) (by omega) q
   rw [show k - (k - lo)=lo by omega] at this
   simpa using this
  intro i j a b f A d c
  rw [get] at d c
  by_cases e:j=lo
  ·rw [if_pos e,t] at c
   cases c
   rw [if_neg (by omega),if_neg (by omega)] at d
   exact u i a (by omega) d
  ·by_cases r:i=lo
   ·rw [if_pos r,t] at d
    cases d
    rw [if_neg e,if_pos (by omega)] at c
    exact y (j - 1) b (by omega) (by omega) c
   ·rw [if_neg r] at d
    rw [if_neg e] at c
    by_cases B:lo < i
    ·rw [if_pos (by omega)] at d c
     exact m (i - 1) (j - 1) a b (by omega) (by omega) d c
    ·rw [if_neg (by omega)] at d
     by_cases D:lo < j
     ·rw [if_pos (by omega)] at c
      exact m i (j - 1) a b (by omega) (by omega) d c
     ·rw [if_neg (by omega)] at c
      exact m i j a b f (by omega) d c
theorem Be (T:Tot cmp lt n) {l:List Nat} {p:List (Nat × Nat × Nat)} {g ok:Nat} (q:l.Perm (List.range n)) (hok:ok<=n) (f:fw lt l ok) {P:Bool->SortSt->Prop} (h:∀ r,r.Perm (List.range n)->fw lt r n->P true (aE r p g)):EvW cmp (binarySort' 0 n ok) P (aE l p g):=by
 rw [binarySort'_eq]
 refine aB (fK (fun k c st=>c=(none,⟨⟩)/\∃ l,st=aE l p g/\l.Perm (List.range n)/\fw lt l k) ⟨rfl,l,rfl,q,?_⟩ ?_ ?_)
 ·intro i j a b v G D F
  by_cases h0:ok=0
  ·omega
  ·exact f i j a b v (by omega) D F
 ·rintro k c st h1 h2 ⟨rfl,l,rfl,q,f⟩
  dsimp only
  obtain ⟨J,E,li⟩:=fI q
  obtain ⟨key,s⟩:=f9 (l:=l) (i:=k) (by omega)
  have t:=E k key s
  refine aB (fK (fun x c st=>st=aE l p g/\∃ lo hi,c=(none,lo,hi)/\lo<=hi/\hi<=k/\hi - lo<=k - x/\(∀ i a:Nat,i < lo->l[i]?=some a->lt a key=true)/\∀ i a:Nat,hi<=i->i < k->l[i]?=some a->lt key a=true) ⟨rfl,0,k,rfl,Nat.zero_le _,BL _,BL _,fun i a h=>by omega,fun i a h=>by omega⟩ ?_ ?_)
  ·rintro x c st _ I ⟨rfl,lo,hi,rfl,a1,a2,H,z,A⟩
   dsimp only
   by_cases u:lo ≥ hi
   ·rw [if_pos u]
    refine aP ?_
    exact u6 T q f (by omega) s (by omega) z (fun i a h3 d o=>A i a (by omega) d o) fun r x1 B=>⟨rfl,r,rfl,x1,B⟩
   ·rw [if_neg u]
    obtain ⟨m,hm⟩:=f9 (l:=l) (i:=(lo+hi) / 2) (by omega)
    have w:=E _ m hm
    refine aB (fh (a:=key) (b:=m) (by rw [BT];exact s) (by rw [BT];exact hm) (T.is key m t w) ?_)
    dsimp only
    cases C:lt key m with
    | true =>
     rw [if_pos rfl]
     refine aP ⟨rfl,lo,(lo+hi) / 2,rfl,by omega,by omega,by omega,z,fun i a h3 d o=>?_⟩
     by_cases he:i=(lo+hi) / 2
     ·subst he
      rw [hm] at o
      cases o
      exact C
     ·exact T.trans key m a C (f _ i m a (by omega) d hm o)
    | false =>
     rw [if_neg (by decide)]
     have y:lt m key=true:=T.tot key m t w (fun e=>by subst e;have:=li _ _ _ s hm;omega) C
     refine aP ⟨rfl,(lo+hi) / 2+1,hi,rfl,by omega,by omega,by omega,fun i a h3 d=>?_,A⟩
     by_cases he:i=(lo+hi) / 2
     ·subst he
      rw [hm] at d
      cases d
      exact y
     ·exact T.trans a m key (f i _ a m (by omega) (by omega) d hm) y
  ·rintro c st ⟨rfl,lo,hi,rfl,a1,a2,H,z,A⟩
   dsimp only
   exact u6 T q f (by omega) s (by omega) z (fun i a h3 d o=>A i a (by omega) d o) fun r x1 B=>⟨rfl,r,rfl,x1,B⟩
 ·rintro c st ⟨rfl,l,rfl,q,f⟩
  dsimp only
  refine aP (h l q ?_)
  by_cases hm:max ok 1<=n
  ·rwa [show max (max ok 1) n=n by omega] at f
  ·intro i j a b v G D F
   omega
end
end L2
end
section
namespace L2
open PySem PySem.Spec PyProof.Rows
variable {cmp:Nat->Nat->Option Bool} {lt:Nat->Nat->Bool} {n:Nat}
theorem qT (T:Tot cmp lt n) {l:List Nat} (o:l.Perm (List.range n)) {x u v:Nat} (h1:1<=x) (g:fw lt l x) (hu:l[x - 1]?=some u) (k:l[x]?=some v) (h:lt u v=true):fw lt l (x+1):=by
 intro i j a b f p c d
 by_cases e:j=x
 ·subst e
  rw [k] at d
  cases d
  by_cases m:i=j - 1
  ·subst m
   rw [hu] at c
   cases c
   exact h
  ·exact T.trans a u v (g i (j - 1) a u (by omega) (by omega) c hu) h
 ·exact g i j a b f (by omega) c d
theorem vS (T:Tot cmp lt n) {l:List Nat} {p:List (Nat × Nat × Nat)} {g a:Nat} (o:l.Perm (List.range n)) (h1:1<=a) (j:a<=n) (b:fw lt l a) {P:AscSt->SortSt->Prop}
  (h:∀ m,a<=m->m<=n->fw lt l m->(m=n\/∃ u v,l[m - 1]?=some u/\l[m]?=some v/\lt v u=true)->P (none,m) (aE l p g)):EvW cmp (ascLoop a n) P (aE l p g):=by
 obtain ⟨q,f,li⟩:=fI o
 unfold ascLoop
 refine fK (fun x c st=>c=(none,x)/\st=aE l p g/\fw lt l x) ⟨rfl,rfl,b⟩ ?_ ?_
 ·rintro x c st h2 h3 ⟨rfl,rfl,b⟩
  dsimp only
  obtain ⟨v,d⟩:=f9 (l:=l) (i:=x) (by omega)
  obtain ⟨u,hu⟩:=f9 (l:=l) (i:=x - 1) (by omega)
  refine aB (fh d hu (T.is v u (f _ _ d) (f _ _ hu)) ?_)
  dsimp only
  cases k:lt v u with
  | true =>
   rw [if_pos rfl]
   exact aP (h x h2 (by omega) b (.inr ⟨u,v,hu,d,k⟩))
  | false =>
   rw [if_neg (by decide)]
   refine aP ⟨rfl,rfl,qT T o (by omega) b hu d (T.tot v u (f _ _ d) (f _ _ hu) (fun e=>by subst e;have:=li _ _ _ d hu;omega) k)⟩
 ·rintro c st ⟨rfl,rfl,b⟩
  rw [show max a n=n by omega] at b ⊢
  exact h n j (BL _) b (.inl rfl)
def Bp (lt:Nat->Nat->Bool) (l:List Nat) (m:Nat):Prop:=∀ i j a b:Nat,i < j->j < m->l[i]?=some a->l[j]?=some b->lt b a=true
theorem pO (T:Tot cmp lt n) {l:List Nat} {p:List (Nat × Nat × Nat)} {g m:Nat} (o:l.Perm (List.range n)) (h1:1<=m) (hm:m<=n) (u:Bp lt l m) {P:Option Nat->SortSt->Prop}
  (h:∀ c q,c.Perm (List.range n)->1<=q->q<=n->fw lt c q->P (some q) (aE c p g)):EvW cmp (tail3 m n) P (aE l p g):=by
 obtain ⟨y,z,li⟩:=fI o
 unfold tail3
 have k:(mirror l.toArray 0 m ((m - 0) / 2)).toList.Perm (List.range n):=by
  have:=mirror_perm l.toArray 0 m ((m - 0) / 2)
  have:(mirror l.toArray 0 m ((m - 0) / 2)).toList.Perm l:=by simpa using Array.perm_iff_toList_perm.mp this
  exact this.trans o
 have get:∀ q:Nat,q < m->(mirror l.toArray 0 m ((m - 0) / 2)).toList[q]?=l[m - 1 - q]?:=fun q x=>by
  have:=getElem?_mirror (xs:=l.toArray) (i:=0) (j:=m) (by simp;omega) ((m - 0) / 2) (by omega) q
  have e:(mirror l.toArray 0 m ((m - 0) / 2)).toList[q]?=(mirror l.toArray 0 m ((m - 0) / 2))[q]?:=by simp
  rw [e,this]
  by_cases d:(0<=q/\q < 0+(m - 0) / 2)\/(m - (m - 0) / 2<=q/\q < m)
  ·rw [if_pos d]
   simp
  ·rw [if_neg d]
   have:q=m - 1 - q:=by omega
   rw [<- this]
   simp
 have hu:fw lt (mirror l.toArray 0 m ((m - 0) / 2)).toList m:=by
  intro i j a b t v r f
  rw [get i (by omega)] at r
  rw [get j v] at f
  exact u (m - 1 - j) (m - 1 - i) b a (by omega) (by omega) f r
 refine aB (x5 (aB (vS T k h1 hm hu fun q h3 s w _=>?_)))
 exact aP (h _ q k (by omega) s w)
theorem yk (T:Tot cmp lt n) {l:List Nat} {p:List (Nat × Nat × Nat)} {g u v:Nat} (A:l.Perm (List.range n)) (h2:2<=n) (hu:l[0]?=some u) (C:l[1]?=some v) (hd:lt v u=true) {P:Option Nat->SortSt->Prop}
  (h:∀ B q,B.Perm (List.range n)->1<=q->q<=n->fw lt B q->P (some q) (aE B p g)):EvW cmp (descPart 1 n) P (aE l p g):=by
 obtain ⟨F,r,li⟩:=fI A
 unfold descPart
 refine aB (nI (aB ?_))
 have h0:Bp lt l 2:=by
  intro i j a b s D f k
  have e1:i=0:=by omega
  have y:j=1:=by omega
  subst e1 y
  rw [hu] at f
  rw [C] at k
  cases f
  cases k
  exact hd
 unfold descLoop
 refine fK (fun x c st=>c=(none,x,0)/\st=aE l p g/\Bp lt l x) ⟨rfl,rfl,h0⟩ ?_ ?_
 ·rintro x c st h3 E ⟨rfl,rfl,t⟩
  dsimp only
  obtain ⟨b,k⟩:=f9 (l:=l) (i:=x) (by omega)
  obtain ⟨a,f⟩:=f9 (l:=l) (i:=x - 1) (by omega)
  refine aB (fh k f (T.is b a (r _ _ k) (r _ _ f)) ?_)
  dsimp only
  cases z:lt b a with
  | true =>
   rw [if_pos rfl,if_neg (by decide)]
   refine aP ⟨rfl,rfl,fun i j c d s D m o=>?_⟩
   by_cases e:j=x
   ·subst e
    rw [k] at o
    cases o
    by_cases y:i=j - 1
    ·subst y
     rw [f] at m
     cases m
     exact z
    ·exact T.trans b a c z (t i (j - 1) c a (by omega) (by omega) m f)
   ·exact t i j c d s (by omega) m o
  | false =>
   rw [if_neg (by decide)]
   have w:=T.tot b a (r _ _ k) (r _ _ f) (fun e=>by subst e;have:=li _ _ _ k f;omega) z
   refine aB (fh f k (T.is a b (r _ _ f) (r _ _ k)) ?_)
   dsimp only
   rw [w,if_pos rfl]
   refine aP ?_
   dsimp only
   rw [if_neg (by decide)]
   exact pO T A (by omega) (by omega) t h
 ·rintro c st ⟨rfl,rfl,t⟩
  dsimp only
  rw [if_neg (by decide)]
  exact pO T A (by omega) (by omega) t h
theorem A6 (T:Tot cmp lt n) {l:List Nat} {p:List (Nat × Nat × Nat)} {g:Nat} (c:l.Perm (List.range n)) (h2:2<=n) {P:Option Nat->SortSt->Prop}
  (h:∀ f q,f.Perm (List.range n)->1<=q->q<=n->fw lt f q->P (some q) (aE f p g)):EvW cmp (countRun' 0 n) P (aE l p g):=by
 obtain ⟨y,o,li⟩:=fI c
 rw [countRun0_eq]
 refine aB (vS T c (BL _) (by omega) (fun i j a b s z=>by omega) fun m h3 k d r=>?_)
 dsimp only
 by_cases e:m=n
 ·rw [if_pos (by simpa using e)]
  exact aP (h l m c h3 k d)
 ·rw [if_neg (by simpa using e)]
  obtain ⟨u,v,hu,t,hd⟩:=r.resolve_left e
  by_cases e1:m > 1
  ·rw [if_pos e1]
   obtain ⟨w,hw⟩:=f9 (l:=l) (i:=0) (by omega)
   refine aB (fh hw hu (T.is w u (o _ _ hw) (o _ _ hu)) ?_)
   dsimp only
   rw [d 0 (m - 1) w u (by omega) (by omega) hw hu,if_pos rfl]
   exact aP (h l m c h3 k d)
  ·rw [if_neg e1]
   have x:m=1:=by omega
   subst x
   exact yk T c h2 hu t hd h
theorem lN (n:Nat) (h:n < 64) (h0:0 < n):minRun' n n 0=n:=by
 cases n with
 | zero=>cases h0
 | succ k=>rw [minRun'_succ,if_pos h]
theorem wB (T:Tot cmp lt n) (h2:2<=n) (g:n < 64):EvW cmp sortRuns' (fun _ st=>∃ a,st=aE a [(0,n,0)] 7/\a.Perm (List.range n)/\fw lt a n) (aE (List.range n) [] 7):=by
 rw [sortRuns'_eq]
 refine aB ⟨aE (List.range n) [] 7,aE (List.range n) [] 7,rfl,?_⟩
 have hz:(arrOf (aE (List.range n) [] 7)).size=n:=by
  show ((List.range n).map fun i=>((Value.ref i,Value.ref i):Keyed)).toArray.size=n
  simp
 dsimp only
 rw [hz,lN n g (by omega)]
 refine aB (vp (P:=fun c st=>c=(none,n)/\∃ a,st=aE a [(0,n,0)] 7/\a.Perm (List.range n)/\fw lt a n) (fK (fun x c st=>(x=0/\c=(none,0)/\st=aE (List.range n) [] 7)\/(1<=x/\c=(none,n)/\∃ a,st=aE a [(0,n,0)] 7/\a.Perm (List.range n)/\fw lt a n)) (.inl ⟨rfl,rfl,rfl⟩) ?_ ?_) ?_)
 ·rintro x c st h3 m (⟨rfl,rfl,rfl⟩ | ⟨f,rfl,l,rfl,b,hu⟩)
  ·dsimp only
   rw [if_neg (by omega)]
   refine aB (A6 T (List.Perm.refl _) h2 fun l q k f o j=>?_)
   dsimp only
   by_cases h:q < n
   ·rw [if_pos h]
    refine aB (nI (aB ?_))
    rw [show min (n - 0) n=n by omega]
    refine Be T k (by omega) j fun a d hu=>?_
    rw [if_neg (by decide)]
    refine aB ⟨aE a [] 7,aE a [] 7,rfl,?_⟩
    refine aB ⟨⟨⟩,aE a [(0,n,0)] 7,rfl,?_⟩
    exact aP (.inr ⟨by omega,by rw [BT],a,rfl,d,hu⟩)
   ·rw [if_neg h]
    have e:q=n:=by omega
    subst e
    refine aB ⟨aE l [] 7,aE l [] 7,rfl,?_⟩
    refine aB ⟨⟨⟩,aE l [(0,q,0)] 7,rfl,?_⟩
    exact aP (.inr ⟨by omega,by rw [BT],l,rfl,k,j⟩)
  ·dsimp only
   rw [if_pos (by omega)]
   exact aP ⟨rfl,l,rfl,b,hu⟩
 ·rintro c st (⟨f,rfl,rfl⟩ | ⟨f,rfl,l,rfl,b,hu⟩)
  ·omega
  ·exact ⟨rfl,l,rfl,b,hu⟩
 ·rintro c st ⟨rfl,l,rfl,b,hu⟩
  ·dsimp only
   refine aB (fK (fun x c st=>c=(none,())/\st=aE l [(0,n,0)] 7) ⟨rfl,rfl⟩ ?_ ?_)
   ·rintro x c st _ _ ⟨rfl,rfl⟩
    refine aB ⟨aE l [(0,n,0)] 7,aE l [(0,n,0)] 7,rfl,?_⟩
    dsimp only
    rw [if_pos (show (pendingOf (aE l [(0,n,0)] 7)).size<=1 from BL 1)]
    refine aP ?_
    exact aP ⟨l,rfl,b,hu⟩
   ·rintro c st ⟨rfl,rfl⟩
    exact aP ⟨l,rfl,b,hu⟩
end L2
end
section
namespace L2
open PySem PySem.Spec PyProof.Rows
theorem qw {ns:List (List Int)} {i:Nat} (h:i < ns.length):ns[i]?=some (ns.getD i []):=by
 rw [List.getD_eq_getElem?_getD,BA h]
 rfl
theorem zc {ns:List (List Int)} (nd:∀ i j:Nat,i < ns.length->j < ns.length->ns.getD i []=ns.getD j []->i=j):Tot (fS ns) (fun a b=>HT.lexLt (ns.getD a []) (ns.getD b [])) ns.length where
 is a b ha hb:=by
  unfold fS
  rw [qw ha,qw hb]
 asym a b h:=by
  cases d:HT.lexLt (ns.getD b []) (ns.getD a []) with
  | false=>rfl
  | true =>
   have:=iM h d
   rw [jU] at this
   cases this
 tot a b ha hb hab h:=by
  cases d:HT.lexLt (ns.getD b []) (ns.getD a []) with
  | true=>rfl
  | false=>exact absurd (nd a b ha hb (ql h d)) hab
 trans a b c h1 h2:=iM h1 h2
theorem jD {ns:List (List Int)} (d:ns.length < 64) (nd:∀ i j:Nat,i < ns.length->j < ns.length->ns.getD i []=ns.getD j []->i=j):∃ is,bH ns=some is/\is.Perm (List.range ns.length)/\∀ i j a b:Nat,i < j->is[i]?=some a->is[j]?=some b->HT.lexLt (ns.getD a []) (ns.getD b [])=true:=by
 by_cases h2:2<=ns.length
 ·obtain ⟨_,st,e,l,rfl,g,hu⟩:=wB (zc nd) h2 d
  refine ⟨l,mz rfl e,g,fun i j a b c k f=>hu i j a b c ?_ k f⟩
  have:=(BG.mp f).1
  rw [g.length_eq,List.length_range] at this
  exact this
 ·match ns,h2 with
  | [],_=>exact ⟨[],jF,.refl _,fun i j a b _ h=>by simp at h⟩
  | [n],_ =>
   refine ⟨[0],jE n,.refl _,fun i j a b c h1 h2=>?_⟩
   have:=(BG.mp h2).1
   simp at this
   omega
  | _ :: _ :: _,h=>simp at h
section
variable {prog:Program} {w:World} {A:Around} {E:Value->Shared->Prop} {s:Shared}
theorem my {l:Addr} {bs:List Addr} {ns:List (List Int)} {is:List Nat} {Q:Value->Shared->Prop} (hu:A.units+2 < cLine) (q:s.heap.IsTuple l (bs.map Value.ref).toArray) (r:NRs s.heap bs ns) (k:kOk ns) (n:bH ns=some is) (hsz:bs.length<=sizeLine) (c:is.length<=sizeLine)
  (h:∀ h' p,s.heap.objs.size<=p->(∀ b o,s.heap.get? b=some o->h'.get? b=some o)->(∃ e,h'.get? p=some (seqObj "list" (is.map fun i=>Value.ref (bs.getD i 0)).toArray e))->Q (.ref p) { s with heap:=h' }) :
  wpAny (model prog w) A (call (.builtin "sorted") [.ref l]) Q E s:=by
 refine Calls.call_function_entry kind_sorted plain_sorted entry_sorted (args_sorted1 _) ?_
 unfold Builtin.«sorted»
 refine Bq (m:=checkCount "sorted" 1 1 _) (Br ?_)
 refine Bq (j6 q ?_ (by rw [BF];exact hsz))
 refine Bq (wpAny_newList ?_ (by rw [BF];exact hsz))
 obtain ⟨h1,g,j,e1⟩:∃ h1,(∀ b o,s.heap.get? b=some o->h1.get? b=some o)/\s.heap.objs.size<=h1.objs.size/\h1=(s.heap.push (seqObj "list" #[] 0)).update s.heap.objs.size (Obj.mapSeq (· ++ (bs.map Value.ref).toArray)):=by
  refine ⟨_,fun b o e=>?_,?_,rfl⟩
  ·exact (B5 _ _ (Nat.ne_of_gt (BC e))).trans (Bv _ e)
  ·rw [Heap.size_update,B6]
   exact Nat.le_succ _
 rw [<- e1]
 have a:(h1.push (seqObj "list" (bs.map Value.ref).toArray 0)).get? h1.objs.size=some (seqObj "list" (bs.map Value.ref).toArray 0):=BE _ rfl
 have f:∀ b o,s.heap.get? b=some o->(h1.push (seqObj "list" (bs.map Value.ref).toArray 0)).get? b=some o:=fun b o e=>Bv _ (g b o e)
 show wpAny _ _ _ _ _ { s with heap:=h1.push (seqObj "list" (bs.map Value.ref).toArray 0) }
 refine Bq (Bs (wpAny_call_entry slot_list_sort ⟨_,a,rfl⟩ entry_list_sort (td (s:={ s with heap:=h1.push (seqObj "list" (bs.map Value.ref).toArray 0) }) ?_ a (r.keep fun b _ o e=>f b o e) k n hsz c ⟨_,rfl,?_⟩) (args_list_sort _)))
 ·exact hu
 refine Br ⟨_,rfl,h _ h1.objs.size j (fun b o e=>?_) ?_⟩
 ·have hb1:b < h1.objs.size:=BC (g b o e)
  unfold sortedHeap
  refine (B5 _ _ (Nat.ne_of_gt hb1)).trans (Bv _ (Bv _ ?_))
  exact (B5 _ _ (Nat.ne_of_gt hb1)).trans (f b o e)
 ·unfold sortedHeap
  obtain ⟨e1,d⟩:∃ e1,((h1.push (seqObj "list" (bs.map Value.ref).toArray 0)).update h1.objs.size (Obj.mapSeq fun _=>#[])).get? h1.objs.size=some (seqObj "list" #[] e1):=⟨_,get?_update_seq a (fun _=>#[])⟩
  exact ⟨_,get?_update_seq (Bv _ (Bv _ d)) (fun _=>(is.map fun i=>Value.ref (bs.getD i 0)).toArray)⟩
end
section
variable {X:Cx}
def t9 (K:FG):List V->Hp->VK->Prop:=fun xs H Q=>∃ (l:Addr) (bs:List Addr) (ns:List (List Int)) (is:List Nat),xs=[.ref l]/\SqT K H l (bs.map V.ref)/\ns.length=bs.length/\(∀ (i:Nat) (b:Addr) (n:List Int),bs[i]?=some b->ns[i]?=some n->H b=some (.tup (n.map V.int))) /\
 kOk ns/\bH ns=some is/\ns.length<=sizeLine/\is.length<=sizeLine/\∀ p,H p=none->Q (.ref p) (upd H p (.lst (is.map fun i=>V.ref (bs.getD i 0))))
theorem pz (hu:X.A.units+2 < cLine):bX X (.builtin "sorted") (t9 X.K):=by
 intro pins s σ H xs us Q I w h
 obtain ⟨l,bs,ns,is,rfl,z,B,x,j,y,hz,c,q⟩:=h
 obtain ⟨u,rfl,t⟩:=du w
 cases (show u=Value.ref l from t)
 obtain ⟨its,v,p,_⟩:=I.tuple z
 have C:=p5 v
 subst C
 refine my hu (show s.heap.IsTuple l (bs.map Value.ref).toArray from p) ⟨B,fun i b n e1 m=>?_⟩ j y (by omega) c fun h' p f k ⟨e,he⟩=>?_
 ·obtain ⟨its,r,p,_⟩:=I.tuple (SqT.of (x i b n e1 m))
  exact ⟨_,p,jV r⟩
 ·have g:(is.map fun i=>V.ref (bs.getD i 0))=(is.map fun i=>bs.getD i 0).map V.ref:=by rw [Cc];rfl
  have d:(is.map fun i=>Value.ref (bs.getD i 0))=(is.map fun i=>bs.getD i 0).map Value.ref:=by rw [Cc];rfl
  refine ⟨.ref p,_,I.laid (a:=p) (o:=.lst (is.map fun i=>V.ref (bs.getD i 0))) (t':=s.toks) (fun b o q=>k b o q) f ⟨by rw [BF];exact c,is.map (fun i=>Value.ref (bs.getD i 0)),e,?_,he⟩,rfl,q p (I.hok.fresh f)⟩
  rw [g,d]
  exact gc _
end
end L2
end
section
namespace L3
open PySem L2
section
variable {K:FG} {H H':Hp}
def ot:D->Option (D × Fl)
 | .tup ds=>(iY ds).bind fun ns=>if (u3 ns && decide (ns.length<=16777216))=true then (bH ns).bind fun is=>if (decide (is.length<=16777216) && is.all fun i=>decide (i < ns.length))=true then some (.lst (is.map fun i=>ntD (ns.getD i [])),.u) else none else none
 | _=>none
abbrev lu:=c1 ot
theorem vI:dG K (t9 K) lu:=fun ys H Q p ra e q=>by
 obtain ⟨y,rfl,d⟩:=fv e
 clear e
 have e:=d
 clear d
 have k:=(ra y Bt).rep
 obtain ⟨da,B,A,C⟩:=y
 dsimp only at k e
 cases da with
 | tup ds =>
  obtain ⟨ns,h1,h2⟩:=B0.mp (show ((iY ds).bind fun ns=>_)=some p from e)
  by_cases f:(u3 ns && decide (ns.length<=16777216))=true
  ·rw [if_pos f] at h2
   obtain ⟨h3,o⟩:=Bool.and_eq_true_iff.mp f
   obtain ⟨is,v,g⟩:=B0.mp h2
   by_cases hd:(decide (is.length<=16777216) && is.all fun i=>decide (i < ns.length))=true
   ·rw [if_pos hd] at g
    cases g
    obtain ⟨w,z⟩:=Bool.and_eq_true_iff.mp hd
    cases mq h1
    obtain ⟨a,D,rfl,t,rs⟩:=k.view
    obtain ⟨bs,rfl,x,l⟩:=kF rs
    refine ⟨a,bs,ns,is,rfl,SqT.of t,x,l,xV h3,v,by rw [sizeLine_eq];exact of_decide_eq_true o,by rw [sizeLine_eq];exact of_decide_eq_true w,fun p r=>?_⟩
    have m:(is.map fun i=>V.ref (bs.getD i 0))=(is.map fun i=>bs.getD i 0).map V.ref:=by rw [Cc];rfl
    have h:(is.map fun i=>ntD (ns.getD i []))=(is.map fun i=>ns.getD i []).map ntD:=by rw [Cc];rfl
    rw [m]
    refine q ⟨.lst (is.map fun i=>ntD (ns.getD i [])),.ref p,[p],.u⟩ _ (rJ r ?_ fun c f=>by cases f) rfl rfl
    rw [h]
    refine p4 (by simp) fun i b n e1 d=>?_
    rw [BK] at e1 d
    cases hi:is[i]? with
    | none=>rw [hi] at e1;cases e1
    | some j =>
     rw [hi] at e1 d
     have s:j < ns.length:=of_decide_eq_true (List.all_eq_true.mp z j (BH hi))
     have g1:bs[j]?=some bs[j]:=BA (by omega)
     have g2:ns[j]?=some ns[j]:=BA s
     have e1:bs.getD j 0=b:=Ce e1
     have d:ns.getD j []=n:=Ce d
     rw [List.getD,g1] at e1
     rw [List.getD,g2] at d
     subst e1 d
     exact l j _ _ g1 g2
   ·rw [if_neg hd] at g;exact nsE g
  ·rw [if_neg f] at h2;exact nsE h2
 | _=>exact nsE e
theorem mo:∀ ns:List (List Int),(∀ n ∈ ns,True)->iY (ns.map ntD)=some ns
 | [],_=>rfl
 | n :: ns,_=>by
  show ((dP (n.map D.int)).bind fun n=>(iY (ns.map ntD)).map (n :: ·))=_
  rw [mo ns fun _ _=>trivial,fZ]
  rfl
theorem tj {ns:List (List Int)} (c:ns.length < 64) (d:u3 ns=true) (nd:∀ i j:Nat,i < ns.length->j < ns.length->ns.getD i []=ns.getD j []->i=j):∃ is:List Nat,ot (.tup (ns.map ntD))=some (.lst (is.map fun i=>ntD (ns.getD i [])),.u)/\is.Perm (List.range ns.length)/\∀ i j a b:Nat,i < j->is[i]?=some a->is[j]?=some b->HT.lexLt (ns.getD a []) (ns.getD b [])=true:=by
 obtain ⟨is,h1,h2,h3⟩:=jD c nd
 refine ⟨is,?_,h2,h3⟩
 have e:=h2.length_eq
 rw [List.length_range] at e
 show ((iY (ns.map ntD)).bind fun ns=>_)=_
 rw [mo ns fun _ _=>trivial]
 show (if _ then _ else _)=_
 rw [if_pos (by rw [d];exact BQ (by omega)),h1]
 show (if _ then _ else _)=_
 rw [if_pos]
 rw [Bool.and_eq_true]
 refine ⟨BQ (by omega),List.all_eq_true.mpr fun i hi=>BQ ?_⟩
 have:=h2.mem_iff.mp hi
 simpa using this
end
end L3
end
section
namespace L3
open PySem L2
def kP:Key->PyData
 | .inl i=>.int i
 | .inr x=>.str x
def d1 {α:Type}:List (α × D)->Option (α × Int)
 | [(k,.int i)]=>some (k,i)
 | _=>none
theorem yZ {i:Int} (h:d1 l=some (k,i)):l=[(k,.int i)]:=by
 unfold d1 at h
 split at h
 ·cases h;rfl
 ·cases h
mutual
def pyN:D->Option PyData
 | .non=>some .none
 | .bl b=>some (.bool b)
 | .int i=>some (.int i)
 | .str x=>some (.str x)
 | .tup xs=>(mR xs).map .tuple
 | .dk kvs=>(d1 kvs).map fun p=>.dict [(kP p.1,.int p.2)]
 | .dt kvs=>(d1 kvs).map fun p=>.dict [(.tuple (p.1.map kP),.int p.2)]
 | _=>none
def mR:List D->Option (List PyData)
 | []=>some []
 | d :: ds=>match pyN d,mR ds with
  | some p,some ps=>some (p :: ps)
  | _,_=>none
end
def RdN (H:Hp) (v:V) (p:PyData):Prop:=∀ (X:Cx) (pins:List (Addr × Obj)) (σ:St) (s:Shared),Inv X pins σ H s->∀ u,RelV v u->∃ as,Reads s.heap u p as/\sysModules ∉ as
def RdNs (H:Hp) (a:List V) (ps:List PyData):Prop:=∀ (X:Cx) (pins:List (Addr × Obj)) (σ:St) (s:Shared),Inv X pins σ H s->∀ us,Vals a us->∃ as,ReadsAll s.heap us ps as/\sysModules ∉ as
theorem iO:∀ {a:List Key} {us:List Value},Vals (a.map kV) us->ReadsAll h us (a.map kP) []
 | [],_,.nil=>.nil
 | .inl i :: a,_,.cons r rs=>by
  obtain ⟨t,rfl⟩:=r
  exact .cons (as:=[]) (bs:=[]) (.int i t) (iO rs)
 | .inr x :: a,_,.cons r rs=>by
  obtain ⟨t,rfl⟩:=r
  exact .cons (as:=[]) (bs:=[]) (.str x t) (iO rs)
theorem qh {α:Type} {k:α} {i:Int} {ps:List (α × V)} (b:∀ v L,R (.int i) v L->v=.int i) (h1:[k]=ps.map (·.1)) (h2:Reps R [.int i] (ps.map (·.2)) L):ps=[(k,.int i)]:=by
 match ps,h1,h2 with
 | [(k',v)],h1,.cons a _ =>
  have:=b _ _ a
  subst this
  cases h1
  rfl
section
variable {K:FG} {H:Hp} {d:D} {v:V} {L:List Addr}
theorem Rep.rdN (r:Rep K H d v L):∀ p,pyN d=some p->RdN H v p:=by
 refine Rep.rec (motive_1:=fun d v _ _=>∀ p,pyN d=some p->RdN H v p) (motive_2:=fun ds l _ _=>∀ ps,mR ds=some ps->RdNs H l ps) ?_ ?_ ?_ ?_ ?_ ?_ ?_ ?_ ?_ ?_ ?_ ?_ r
 ·intro p e;unfold pyN at e;cases e;intro X pins σ s I u hu;cases (show u=Value.none from hu);exact ⟨[],.none,by simp⟩
 ·intro b p e;unfold pyN at e;cases e;intro X pins σ s I u hu;cases (show u=Value.bool b from hu);exact ⟨[],.bool b,by simp⟩
 ·intro i p e;unfold pyN at e;cases e;intro X pins σ s I u hu;obtain ⟨t,rfl⟩:=hu;exact ⟨[],.int i t,by simp⟩
 ·intro x p e;unfold pyN at e;cases e;intro X pins σ s I u hu;obtain ⟨t,rfl⟩:=hu;exact ⟨[],.str x t,by simp⟩
 ·intro xs a l L h _ B p e
  unfold pyN at e
  obtain ⟨ps,e1,rfl⟩:=Bw.mp e
  intro X pins σ s I u hu
  cases (show u=Value.ref a from hu)
  obtain ⟨its,C,⟨o,e,c,n,d⟩,_⟩:=I.tuple (SqT.of h)
  obtain ⟨as,q,nm⟩:=B ps e1 X pins σ s I _ C
  exact ⟨_,.tuple e c d (by simpa using q),nm⟩
 ·intro xs a l L h _ B p e;unfold pyN at e;exact nsE e
 ·intro xs a l L h _ B p e;unfold pyN at e;exact nsE e
 ·intro kvs a ps L h y rs _ p e
  unfold pyN at e
  obtain ⟨⟨k,i⟩,e1,rfl⟩:=Bw.mp e
  have D:=yZ e1
  subst D
  clear e e1
  have:=qh (fun v L (q:Rep K H (.int i) v L)=>q.int_inv) y rs
  subst this
  intro X pins σ s I u hu
  cases (show u=Value.ref a from hu)
  obtain ⟨_,hm,l,A,o,es,R,g,xd,hd,_,pr,_,_⟩:=(show ObjOk X.prog X.w H s.heap a (.dK [(k,.int i)]) from I.hok a _ h)
  match l,A with
  | [(k',v')],.cons ⟨e1,e2⟩ .nil =>
   subst e1
   obtain ⟨t,rfl⟩:=e2
   generalize f:es.toList=el at pr
   cases pr with
   | cons q1 q2 q3 =>
    cases q3
    rename_i E
    refine ⟨_,.dict (as:=[]) (bs:=[]) g xd.1 hd ?_ ?_,?_⟩
    ·rw [f]
     show ReadsAll s.heap [E.key] [kP k] []
     rcases a8 q1 with ⟨j,t',rfl,m⟩ | ⟨x,t',rfl,m⟩
     ·rw [m];exact .cons (as:=[]) (bs:=[]) (.int _ _) .nil
     ·rw [m];exact .cons (as:=[]) (bs:=[]) (.str _ _) .nil
    ·rw [f]
     show ReadsAll s.heap [E.val] [.int i] []
     rw [q2];exact .cons (as:=[]) (bs:=[]) (.int _ _) .nil
    ·simp only [List.append_nil,B1]
     intro z
     rw [z] at hm
     simp at hm
 ·intro kvs a ps L h y rs _ p e
  unfold pyN at e
  obtain ⟨⟨k,i⟩,e1,rfl⟩:=Bw.mp e
  have D:=yZ e1
  subst D
  clear e e1
  have:=qh (fun v L (q:Rep K H (.int i) v L)=>q.int_inv) y rs
  subst this
  intro X pins σ s I u hu
  cases (show u=Value.ref a from hu)
  obtain ⟨_,hm,xs,A,o,es,R,g,xd,hd,f,_⟩:=(show ObjOk X.prog X.w H s.heap a (.dT [(k,.int i)]) from I.hok a _ h)
  match xs,A with
  | [(k',b,v')],.cons ⟨e1,e3,e2⟩ .nil =>
   subst e1
   obtain ⟨t,rfl⟩:=e2
   obtain ⟨its,C,⟨o',G,P,S,d'⟩,_⟩:=I.tuple (SqT.of e3)
   refine ⟨_,.dict (as:=[]) (bs:=[]) g xd.1 hd ?_ ?_,?_⟩
   ·rw [f]
    show ReadsAll s.heap [.ref b] [.tuple (k.map kP)] []
    exact .cons (as:=[]) (bs:=[]) (.tuple G P d' (by simpa using iO C)) .nil
   ·rw [f]
    show ReadsAll s.heap [.int i t] [.int i] []
    exact .cons (as:=[]) (bs:=[]) (.int _ _) .nil
   ·simp only [List.append_nil,B1]
    intro z
    rw [z] at hm
    simp at hm
 ·intros;rename_i e;unfold pyN at e;exact nsE e
 ·intro ps e;unfold mR at e;cases e;intro X pins σ s I us hu;cases hu;exact ⟨[],.nil,by simp⟩
 ·intro d v L ds l L' _ _ F N ps e
  unfold mR at e
  cases h1:pyN d with
  | none=>rw [h1] at e;exact nsE e
  | some p =>
   cases h2:mR ds with
   | none=>rw [h1,h2] at e;exact nsE e
   | some qs =>
    rw [h1,h2] at e
    cases e
    intro X pins σ s I us hu
    cases hu with
    | cons a b =>
     obtain ⟨as,J,Q⟩:=F p h1 X pins σ s I _ a
     obtain ⟨bs,M,O⟩:=N qs h2 X pins σ s I _ b
     exact ⟨_,.cons J M,by simp [Q,O]⟩
end
def jG (p:PyData):Bool:=p.showable && decide (p.depth<=16) && decide (p.shown.length<=16777216)
def pyA (d:D):Option PyData:=match pyD d with
 | some p=>if p.hasDict then none else some p
 | none=>pyN d
def oJ (K:FG):List V->Hp->VK->Prop:=fun xs H Q=>(xs=[.non]/\Q (.str "None") H)\/(∃ b,xs=[.bl b]/\Q (.str (if b then "True" else "False")) H)\/(∃ i:Int,xs=[.int i]/\i.natAbs.log2 < 1920/\Q (.str (kg i)) H) \/
 (∃ t:Str,xs=[.str t]/\(reprText t).length<=sizeLine/\Q (.str (reprText t)) H) \/
 ∃ (a:Addr) (p:PyData),xs=[.ref a]/\(∀ (X:Cx) (pins:List (Addr × Obj)) (σ:St) (s:Shared),X.K=K->Inv X pins σ H s->∀ u,RelV (.ref a) u->∃ as,Reads s.heap u p as/\(p.hasDict=true->sysModules ∉ as))/\jG p=true/\Q (.str p.shown) H
theorem lY (o:X.A.guards=some []) (hu:X.A.units+64 < cLine):bX X (.builtin "repr") (oJ X.K):=by
 intro pins s σ H xs us Q I d h
 rcases h with ⟨rfl,q⟩ | ⟨b,rfl,q⟩ | ⟨i,rfl,hi,q⟩ | ⟨t,rfl,m,q⟩ | ⟨a,p,rfl,r,g,q⟩
 ·obtain ⟨u,rfl,c⟩:=du d
  cases (show u=Value.none from c)
  exact PySem.P.repr_of_none ⟨.str "None",H,I.tok _,⟨_,rfl⟩,q⟩
 ·obtain ⟨u,rfl,c⟩:=du d
  cases (show u=Value.bool b from c)
  exact PySem.P.repr_of_bool ⟨.str (if b then "True" else "False"),H,I.tok _,⟨_,rfl⟩,q⟩
 ·obtain ⟨u,rfl,c⟩:=du d
  obtain ⟨t,rfl⟩:=c
  exact PySem.P.repr_of_int hi ⟨.str (kg i),H,I.tok _,⟨_,rfl⟩,q⟩
 ·obtain ⟨u,rfl,c⟩:=du d
  obtain ⟨t',rfl⟩:=c
  exact PySem.P.repr_of_str ⟨.str _,H,I.tok _,⟨_,rfl⟩,q⟩ m
 ·obtain ⟨u,rfl,c⟩:=du d
  obtain ⟨as,n,nm⟩:=r X pins σ s rfl I u c
  cases (show u=Value.ref a from c)
  unfold jG at g
  obtain ⟨h3,j⟩:=Bool.and_eq_true_iff.mp g
  obtain ⟨l,f⟩:=Bool.and_eq_true_iff.mp h3
  have f:=of_decide_eq_true f
  exact repr_of_reads' n l nm o (by omega) (fun _ _ e=>e) (fun h' w v k=>⟨.str p.shown,H,I.kept k,⟨_,rfl⟩,q⟩) (by rw [sizeLine_eq];exact of_decide_eq_true j)
def shA (d:D):Option (D × Fl):=(pyA d).bind fun p=>if jG p=true then some (.str p.shown,.z) else none
def iH:D->Option (D × Fl)
 | .non=>some (.str "None",.z)
 | .bl b=>some (.str (if b then "True" else "False"),.z)
 | .int i=>if i.natAbs.log2 < 1920 then some (.str (kg i),.z) else none
 | .str t=>if (reprText t).length<=16777216 then some (.str (reprText t),.z) else none
 | .exc _ _=>none
 | d=>shA d
abbrev lC:=c1 iH
theorem z5 (r:Rep K H d v L) (e:pyA d=some p):∀ (X:Cx) (pins:List (Addr × Obj)) (σ:St) (s:Shared),X.K=K->Inv X pins σ H s->∀ u,RelV v u->∃ as,Reads s.heap u p as/\(p.hasDict=true->sysModules ∉ as):=by
 intro X pins σ s c I u hu
 unfold pyA at e
 cases h:pyD d with
 | none =>
  rw [h] at e
  obtain ⟨as,a,b⟩:=r.rdN p e X pins σ s I u hu
  exact ⟨as,a,fun _=>b⟩
 | some q =>
  rw [h] at e
  subst c
  obtain ⟨as,a⟩:=DV.reads I (r.dv q h) hu
  have e:(if q.hasDict then none else some q)=some p:=e
  cases hd:q.hasDict with
  | true=>rw [hd] at e;exact nsE e
  | false =>
   rw [hd] at e
   cases (Ce e)
   exact ⟨as,a,fun z=>by rw [hd] at z;cases z⟩
theorem vJ:dG K (oJ K) lC:=fun ys H Q p ra e q=>by
 obtain ⟨y,rfl,f⟩:=fv e
 have h:=(ra y Bt).rep
 obtain ⟨da,n,o,r⟩:=y
 dsimp only at h f
 have big:∀ a,n=.ref a->shA da=some p->oJ K [n] H fun v H'=>Q v H':=fun a g f=>by
  obtain ⟨d,h1,h2⟩:=B0.mp f
  by_cases k:jG d=true
  ·rw [if_pos k] at h2
   have m:=Ce h2
   refine .inr (.inr (.inr (.inr ⟨a,d,congrArg (fun x=>[x]) g,?_,k,q ⟨.str d.shown,_,[],.z⟩ H (dn (.str _)) (congrArg Prod.fst m) (congrArg Prod.snd m)⟩)))
   rw [<- g]
   exact z5 h h1
  ·rw [if_neg k] at h2;exact nsE h2
 cases da with
 | non =>
  obtain ⟨rfl,rfl⟩:=h.view
  cases f
  exact .inl ⟨rfl,q ⟨_,_,[],.z⟩ H (dn (.str _)) rfl rfl⟩
 | bl b =>
  obtain ⟨rfl,rfl⟩:=h.view
  cases f
  exact .inr (.inl ⟨b,rfl,q ⟨_,_,[],.z⟩ H (dn (.str _)) rfl rfl⟩)
 | int i =>
  obtain ⟨rfl,rfl⟩:=h.view
  have f:(if i.natAbs.log2 < 1920 then some ((.str (kg i),.z):D × Fl) else none)=some p:=f
  by_cases j:i.natAbs.log2 < 1920
  ·rw [if_pos j] at f
   cases f
   exact .inr (.inr (.inl ⟨i,rfl,j,q ⟨_,_,[],.z⟩ H (dn (.str _)) rfl rfl⟩))
  ·rw [if_neg j] at f;exact nsE f
 | str t =>
  obtain ⟨rfl,rfl⟩:=h.view
  have f:(if (reprText t).length<=16777216 then some ((.str (reprText t),.z):D × Fl) else none)=some p:=f
  by_cases j:(reprText t).length<=16777216
  ·rw [if_pos j] at f
   cases f
   exact .inr (.inr (.inr (.inl ⟨t,rfl,by rw [sizeLine_eq];exact j,q ⟨_,_,[],.z⟩ H (dn (.str _)) rfl rfl⟩)))
  ·rw [if_neg j] at f;exact nsE f
 | tup xs=>obtain ⟨a,l,g,_⟩:=h.view;exact big a g f
 | lst xs=>obtain ⟨a,l,L',g,_⟩:=h.view;exact big a g f
 | fls xs=>obtain ⟨a,l,g,_⟩:=h.view;exact big a g f
 | dk kvs=>obtain ⟨a,ps,L',g,_⟩:=h.view;exact big a g f
 | dt kvs=>obtain ⟨a,ps,L',g,_⟩:=h.view;exact big a g f
 | exc c fs=>exact nsE f
end L3
end
section
namespace L2
open PySem PyProof.Rows
section
variable {prog:Program} {w:World} {A:Around} {E:Value->Shared->Prop}
theorem re {S I l:Addr} {items:Array Value} {R:Result->Shared->Prop} (C:A.handled=none) (p:I ≠ S) (z:l ≠ S) (G:l ≠ I) :
  ∀ (k i:Nat) (s:Shared) (ns ms:List Int),items.size - i=k->s.heap.IsListIter I l i->s.heap.IsList l items->IntsAre (items.toList.drop i) ms->SetL prog w s.heap S ns->ns.length+ms.length+1 < scanBound ->
   (∀ h' x,SetL prog w h' S (ms.foldl met ns)->(∀ b o,b ≠ S->b ≠ I->s.heap.get? b=some o->h'.get? b=some o)->R (.ok (.ret .none)) { s with heap:=h',toks:=x }) ->
   codeAny (model prog w) A (.builtin "set.update.loop" ⟨[.ref S,.ref I],[]⟩) R s:=by
 intro k
 induction k with
 | zero =>
  intro i s ns ms y hi f a m j g
  refine codeAny_builtin F.entry_set_update_loop ?_
  rw [Around.under_plainId F.plain_set_update_loop _]
  have e:ms=[]:=by
   rw [List.drop_eq_nil_of_le (by simp;omega)] at a
   cases a
   rfl
  subst e
  refine Bq (wpAny_pyNext_list_end (s:=s) C hi f (Array.getElem?_eq_none (by omega)) fun h' d=>?_)
  exact Br (g h' s.toks (m.keep fun o e=>d _ _ (Ne.symm p) e) fun b o _ c e=>d _ _ c e)
 | succ k ih =>
  intro i s ns ms y hi f a m j g
  have lt:i < items.size:=by omega
  refine codeAny_builtin F.entry_set_update_loop ?_
  rw [Around.under_plainId F.plain_set_update_loop _]
  rw [List.drop_eq_getElem_cons (by simpa using lt)] at a
  generalize r:items.toList[i]=v at a
  have d:items[i]?=some v:=by rw [<- r,Array.getElem?_eq_getElem lt,Array.getElem_toList]
  cases a with
  | @cons n t _ ms' hr =>
   refine Bq (wpAny_pyNext_list_item (s:=s) hi f d fun h1 E s1=>?_)
   have q:SetL prog w h1 S ns:=m.keep fun o e=>s1.extBut _ _ (Ne.symm p) e
   have B:h1.IsList l items:=f.extBut s1.extBut G
   refine Bq (Bs (Bs (Bq ((intKind prog w).pyHash (k:=n) (intKind_is prog w n t) ?_))))
   refine tK (s:={ s with heap:=h1,toks:=s.toks+1 }) q (by simp only [BW] at j;omega) fun b h2 s2 H=>?_
   refine Br ⟨plainId_quiet F.plain_set_update_loop _,?_⟩
   have J:=qj ns n
   refine ih (i+1) { s with heap:=h2,toks:=s.toks+1 } (met ns n) ms' (by omega) (E.extBut s2.extBut p) (B.extBut s2.extBut z) hr H (by simp only [BW] at j;omega) fun h3 h u D=>?_
   exact g h3 h u fun b o c1 c2 e=>D b o c1 c2 (s2.extBut _ _ c1 (s1.extBut _ _ c2 e))
variable {s:Shared}
theorem lX {l:Addr} {items:Array Value} {ns:List Int} {Q:Value->Shared->Prop} (B:A.handled=none) (u:s.heap.IsList l items) (hi:IntsAre items.toList ns) (K:items.size+1 < scanBound)
  (h:∀ h' j,SetL prog w h' s.heap.objs.size (ns.foldl met [])->(∀ b o,s.heap.get? b=some o->h'.get? b=some o)->Q (.ref s.heap.objs.size) { s with heap:=h',toks:=j }) :
  wpAny (model prog w) A (call (.type "set") [.ref l]) Q E s:=by
 obtain ⟨c,tl,r⟩:=F.called_set.mro
 have made:=F.called_set.made
 have below:=F.called_set.sub
 have m:=F.called_set.notType
 have G:=F.called_set.canCreate
 have one:=F.typeCall_set_1 (.ref l)
 obtain ⟨i,g,d,j,os⟩:=s
 refine wpAny_call (codeAny_of_tree (Br ⟨Code.quiet_builtin _ (by decide +kernel),codeAny_builtin F.entry_type_call ?_⟩))
 rw [Around.under_plain (weight_type_call_type "set" [.ref l] []) rfl]
 repeat (any_goals (first | assumption | wp_step))
 refine codeAny_mono (xJ (E:=E) (Q:=fun v x=>v=.ref i.objs.size/\x=⟨i.push { cls:=.type "set",dict:=none,data:=.set #[] 0 (.fresh 0 0 (hU w)) },g,d,j,os⟩) fun o e=>by subst e;exact ⟨rfl,rfl⟩) ?_
 rintro (e | f) x q
 ·exact q
 cases f with
 | ret v =>
  obtain ⟨rfl,rfl⟩:=q
  have got:(i.push { cls:=.type "set",dict:=none,data:=.set #[] 0 (.fresh 0 0 (hU w)) }).get? i.objs.size=some { cls:=.type "set",dict:=none,data:=.set #[] 0 (.fresh 0 0 (hU w)) }:=BE _ rfl
  have ty:(⟨i.push { cls:=.type "set",dict:=none,data:=.set #[] 0 (.fresh 0 0 (hU w)) },g,d,j,os⟩:Shared).TypeIs (.ref i.objs.size) "set":=⟨_,got,rfl⟩
  have p:(i.push { cls:=.type "set",dict:=none,data:=.set #[] 0 (.fresh 0 0 (hU w)) }).IsList l items:=u.push _
  refine Bq (wpAny_isInstance ty sub_set_self (wpAny_ite_false rfl ?_))
  refine Bq (Bs (wpAny_callSpecial?_slot ty F.called_set.init (wpAny_call (codeAny_call_builtin F.called_set.init.plain F.entry_set_init (check_set_init_1 ty ?_)))))
  obtain ⟨⟨c2,I,H,s2⟩,h2,t,J,y⟩:=id p
  simp only at t y
  subst t y
  have D:=F.sub_list_set
  have C:=F.sub_list_frozenset
  wp_walk using wpAny_pyIter_list p
  have lt:l < i.objs.size:=by obtain ⟨_,e,_⟩:=u;exact BC e
  refine re (l:=l) (items:=items) (by simpa using B) (by rw [B6];exact Nat.ne_of_gt (Nat.lt_succ_self _)) (BN lt) (by rw [B6];exact BN (Nat.lt_succ_of_lt lt)) items.size 0 _ [] ns (by omega) ⟨_,BE _ rfl,rfl,rfl⟩ (p.push _) (by simpa using hi) ⟨_,#[],0,_,[],Bv _ got,⟨rfl,rfl,rfl⟩,rfl,(fun e he=>by simp at he),.nil,List.Perm.refl _,by decide,rfl,⟨List.Pairwise.nil,rfl⟩⟩ (by have:=hi.length;simp at this;simp;omega) fun h' n S k=>?_
  wp_walk
  exact h h' n S fun b o e=>k b o (fun z=>by subst z;exact absurd (BC e) (Nat.lt_irrefl _)) (fun z=>by have a:=BC e;rw [z,B6] at a;exact absurd a (Nat.not_lt.mpr (Nat.le_succ _))) (Bv _ (Bv _ e))
 | _=>exact q.elim
end
end L2
end
section
namespace L3
open PySem L2 PyProof.Rows
section
variable {K:FG} {G0:Gm} {W0:D->Sto->Prop} {X:Cx}
def jL (X:Cx):List V->Hp->VK->Prop:=fun xs H Q=>∃ (l:Addr) (ns:List Int),xs=[.ref l]/\SqL X.K H l (ns.map V.int)/\ns.length < 64/\∀ p,H p=none->Q (.ref p) (upd H p (zB X p (ns.foldl met [])))
theorem sA (i:X.calm=true):bX X (.type "set") (jL X):=by
 intro pins s σ H xs us Q I g h
 obtain ⟨l,ns,rfl,j,m,q⟩:=h
 obtain ⟨u,rfl,f⟩:=du g
 cases (show u=Value.ref l from f)
 obtain ⟨its,r,⟨o,n,e,c,_,d⟩,hz⟩:=I.list j
 have hlen:=r.length
 refine lX (I.ok.hd i) (show s.heap.IsList l its.toArray from ⟨o,e,c,n,d⟩) (by simpa using jV r) (by simp at hlen ⊢;unfold scanBound;omega) fun h' b S k=>?_
 exact ⟨.ref s.heap.objs.size,_,I.laid (a:=s.heap.objs.size) (o:=zB X s.heap.objs.size (ns.foldl met [])) (t':=b) k (BL _) ⟨S,(let ⟨o,_,_,_,_,e,_⟩:=S;⟨o,e⟩),fun h1 h2 x k=>x.keep k⟩,rfl,q _ (I.hok.fresh (BL _))⟩
end
end L3
end
section
namespace L3
open PySem L2 PyProof.Rows
section
variable {K:FG} {G0:Gm} {W0:D->Sto->Prop} {X:Cx}
def lsQ:D->Option (D × Fl)
 | .lst xs=>(dP xs).bind fun ns=>if ns.length < 64 then some (.int ((ns.foldl met []).length:Int),.z) else none
 | _=>none
abbrev lsD:=c1 lsQ
def yJ (X:Cx):List V->Hp->VK->Prop:=fun xs H Q=>∃ (p:Addr) (ns:List Int),xs=[.ref p]/\H p=some (zB X p ns)/\ns.length < 64/\Q (.int (ns.length:Int)) H
theorem sD:bX X (.builtin "len") (yJ X):=by
 intro pins s σ H xs us Q I g h
 obtain ⟨p,ns,rfl,b,i,q⟩:=h
 obtain ⟨u,rfl,f⟩:=du g
 cases (show u=Value.ref p from f)
 obtain ⟨S,_,_⟩:=I.hok p _ b
 obtain ⟨o,es,l,t,ms,d,hex,hd,c,hi,pm,k,hf,j⟩:=S
 have e:es.size=ns.length:=by
  have a:=hi.length
  rw [BF] at a
  rw [<- pm.length_eq,<- a]
  simp
 refine call_len_set d hex hd hf (by rw [e];omega) ?_
 rw [e]
 exact ⟨.int (ns.length:Int),H,I.tok _,⟨_,rfl⟩,q⟩
def rLS (X:Cx):List V->Hp->VK->Prop:=fun xs H Q=>jL X xs H fun v H1=>yJ X [v] H1 Q
theorem A9:dG X.K (rLS X) lsD:=fun ys H Q p ra e q=>by
 obtain ⟨y,rfl,d⟩:=fv e
 clear e
 have f:=(ra y Bt).rep
 obtain ⟨da,s,n,t⟩:=y
 dsimp only at f d
 cases da <;> try (exact nsE d)
 rename_i xs
 obtain ⟨j,m,r,rfl,o,k,rs⟩:=f.view
 obtain ⟨ns,h1,h2⟩:=B0.mp d
 split at h2
 ·rename_i b
  cases h2
  have h:=iP h1
  subst h
  have l:=rs.ints
  subst l
  refine ⟨j,ns,rfl,SqL.of k,b,fun a i=>⟨a,ns.foldl met [],rfl,aC,?_,?_⟩⟩
  ·have:=m7 ns []
   simp at this
   omega
  ·exact q ⟨.int _,.int _,[],.z⟩ _ ⟨bI i,.int _,(fun c g=>by cases g),fun z=>absurd rfl z⟩ rfl rfl
 ·exact nsE h2
theorem zW {e:Expr} {m:EM} {x y:Str} {p b pos pos':Pos} (i:X.calm=true) (n:Gl X x) (hm:X.mg x=none) (k:bootBuiltins x=some (.builtin "len")) (c:Gl X y) (a:X.mg y=none) (d:bootBuiltins y=some (.type "set")) (l:RE X G0 W0 e m)
  (j:x ≠ "__name__") (hd:(x == ("__debug__":Str))=false) (f:y ≠ "__name__") (g:(y == ("__debug__":Str))=false) (s1:starEach [e] X.env=(false,eval e X.env) :: starEach [] X.env)
  (s2:starEach [.Call (.Name y b) [e] [] pos'] X.env=(false,eval (.Call (.Name y b) [e] [] pos') X.env) :: starEach [] X.env) :
  RE X G0 W0 (.Call (.Name x p) [.Call (.Name y b) [e] [] pos'] [] pos) (ao lsD (aa m ae)) :=
 ⟨PE.imp (jQ sD n hm k (gw (kI (sA i) c a d (p7 l t8 s1).h f g s1 rfl) lL s2) j hd s2 rfl) fun σ H Q h=>(jC (r:=rLS X) A9 h:tCB (rLS X) (tA X.K G0 W0 (aa m ae)) σ H Q)⟩
end
end L3
end
section
namespace Bn
open PySem L2 L3
abbrev Pd (p:Int × Int):L3.D:=.tup [.int p.1,.int p.2]
theorem cq {bnd:L3.D->Sto->Option Sto} {b:SM} (P:Nat->Sto->Prop):∀ {ds:List L3.D} {ρ:Sto} {k:Nat},P k ρ->(∀ i d ρ,ds[i]?=some d->P (k+i) ρ->∃ ρ1 ρ2,bnd d ρ=some ρ1/\(b ρ1=some (.ok .nx,ρ2)\/b ρ1=some (.ok .ct,ρ2))/\P (k+i+1) ρ2)->∃ ρ',cw bnd b ds ρ=some (.ok .nx,ρ')/\P (k+ds.length) ρ'
 | [],ρ,k,h0,_=>⟨ρ,rfl,h0⟩
 | d :: ds,ρ,k,h0,hs=>by
  obtain ⟨ρ1,ρ2,e1,a,h1⟩:=hs 0 d ρ rfl h0
  obtain ⟨ρ',c,h3⟩:=cq P (ds:=ds) (ρ:=ρ2) (k:=k+1) h1 fun i d ρ hd e=>by
   have:=hs (i+1) d ρ (by simpa using hd) (by rwa [show k+(i+1)=k+1+i by omega])
   rwa [show k+(i+1)+1=k+1+i+1 by omega] at this
  refine ⟨ρ',?_,by rw [BW,show k+(ds.length+1)=k+1+ds.length by omega];exact h3⟩
  unfold cw
  simp only [e1]
  rcases a with a | a <;> simp only [ad,a,c]
theorem iu {bnd:L3.D->Sto->Option Sto} {b:SM} (P:Nat->Sto->Prop) (E:Nat->L3.D->Fl->Sto->Prop):∀ {ds:List L3.D} {ρ:Sto} {k:Nat},P k ρ ->
  (∀ i d ρ,ds[i]?=some d->P (k+i) ρ->∃ ρ1 ρ2,bnd d ρ=some ρ1/\(((b ρ1=some (.ok .nx,ρ2)\/b ρ1=some (.ok .ct,ρ2))/\P (k+i+1) ρ2)\/∃ r f,b ρ1=some (.ok (.rt r f),ρ2)/\E (k+i) r f ρ2)) ->
  ∃ ρ',(cw bnd b ds ρ=some (.ok .nx,ρ')/\P (k+ds.length) ρ')\/∃ i r f,i < ds.length/\cw bnd b ds ρ=some (.ok (.rt r f),ρ')/\E (k+i) r f ρ'
 | [],ρ,k,h0,_=>⟨ρ,.inl ⟨rfl,h0⟩⟩
 | d :: ds,ρ,k,h0,hs=>by
  obtain ⟨ρ1,ρ2,e1,h1⟩:=hs 0 d ρ rfl h0
  rcases h1 with ⟨a,h1⟩ | ⟨r,f,a,h1⟩
  ·obtain ⟨ρ',h3⟩:=iu P E (ds:=ds) (ρ:=ρ2) (k:=k+1) h1 fun i d ρ hd g=>by
    have:=hs (i+1) d ρ (by simpa using hd) (by rwa [show k+(i+1)=k+1+i by omega])
    rwa [show k+(i+1)=k+1+i by omega] at this
   have e:cw bnd b (d :: ds) ρ=cw bnd b ds ρ2:=by
    conv=>lhs;unfold cw
    simp only [e1]
    rcases a with a | a <;> simp only [ad,a]
   rcases h3 with ⟨c,h3⟩ | ⟨i,r,f,hi,c,h3⟩
   ·exact ⟨ρ',.inl ⟨e.trans c,by rw [BW,show k+(ds.length+1)=k+1+ds.length by omega];exact h3⟩⟩
   ·exact ⟨ρ',.inr ⟨i+1,r,f,by simp;omega,e.trans c,by rw [show k+(i+1)=k+1+i by omega];exact h3⟩⟩
  ·refine ⟨ρ2,.inr ⟨0,r,f,by simp,?_,h1⟩⟩
   unfold cw
   simp only [e1,ad,a,aN]
theorem bA {lo:Int} {n i:Nat} {d:L3.D} (h:(aQ lo n)[i]?=some d):i < n/\d=.int (lo+i):=by
 unfold aQ at h
 rw [BK,Bw] at h
 obtain ⟨j,h1,rfl⟩:=h
 have h2:=BG.mp h1
 obtain ⟨h3,a⟩:=h2
 simp at h3 a
 subst a
 exact ⟨h3,rfl⟩
theorem b8 {lo:Int} {n:Nat}:(aQ lo n).length=n:=by unfold aQ;simp
theorem yl {xs:List L3.D} {m:Nat} (h:m<=xs.length):eG xs none (some (m:Int))=xs.take m:=by
 have e1:HT.sIx xs.length 0 none=0:=rfl
 have a:HT.sIx xs.length xs.length (some (m:Int))=m:=by
  simp only [HT.sIx]
  split <;> omega
 unfold eG
 rw [e1,a]
 simp
theorem Small.sub {p q:Pt} (b:Small p) (a:Small q):(-18446744073709551616 < q.1 - p.1/\q.1 - p.1 < 18446744073709551616)/\(-18446744073709551616 < q.2 - p.2/\q.2 - p.2 < 18446744073709551616):=by
 obtain ⟨a1,a2,e,c⟩:=b
 obtain ⟨b1,b2,f,d⟩:=a
 exact ⟨⟨by omega,by omega⟩,⟨by omega,by omega⟩⟩
theorem qS {c:M3 Bool} {b:SM} (P:Nat->Sto->Prop) (Q:Sto->Prop) {n:Nat} {ρ:Sto} (h0:P n ρ)
  (k:∀ n ρ,P n ρ->(∃ ρ1,c ρ=some (.ok false,ρ1)/\Q ρ1)\/∃ ρ1 ρ2 m,c ρ=some (.ok true,ρ1)/\(b ρ1=some (.ok .nx,ρ2)\/b ρ1=some (.ok .ct,ρ2))/\m < n/\P m ρ2):∃ ρ',eR c b ρ=some (.ok .nx,ρ')/\Q ρ':=by
 have main:∀ n ρ,P n ρ->∃ ρ',bN c b (n+1) ρ=some (.ok .nx,ρ')/\Q ρ':=by
  intro n
  induction n using Nat.strongRecOn with
  | _ n ih =>
   intro ρ j
   rcases k n ρ j with ⟨ρ1,e1,d⟩ | ⟨ρ1,ρ2,m,e1,a,hm,i⟩
   ·refine ⟨ρ1,?_,d⟩
    unfold bN
    simp [ad,e1,aN]
   ·obtain ⟨ρ',g,d⟩:=ih m hm ρ2 i
    refine ⟨ρ',?_,d⟩
    have f:=iC (show m+1<=n by omega) g
    unfold bN
    rcases a with a | a <;> simp [ad,e1,a,f]
 obtain ⟨ρ',e,d⟩:=main n ρ h0
 refine ⟨ρ',?_,d⟩
 unfold eR
 have h:∃ n r,bN c b n ρ=some r:=⟨_,_,e⟩
 rw [dif_pos h]
 have a:=Classical.choose_spec (Classical.choose_spec h)
 have g:=iC (Nat.le_max_left (n+1) (Classical.choose h)) e
 have f:=iC (Nat.le_max_right (n+1) (Classical.choose h)) a
 rw [g] at f
 exact f.symm
theorem ak {a b:SM} {ρ ρ1:Sto} {r:Option (Except L3.D Flw × Sto)} (h1:a ρ=some (.ok .nx,ρ1)) (h2:b ρ1=r):aF a b ρ=r:=by
 simp only [aF,ad,h1]
 exact h2
theorem cr {bnd:L3.D->Sto->Option Sto} {c:M3 Bool} {elt:EM} (P:Sto->Prop) (g:L3.D->Bool) (f:L3.D->L3.D):∀ {ds:List L3.D} {τ:Sto},P τ ->
  (∀ d ∈ ds,∀ τ,P τ->∃ τ1 τ2,bnd d τ=some τ1/\c τ1=some (.ok (g d),τ2)/\(g d=false->P τ2)/\(g d=true->∃ r τ3 p τ4,elt τ2=some (.ok r,τ3)/\cL r τ3=some (.ok p,τ4)/\p.1=f d/\P τ4)) ->
  ∃ τ',bM bnd c elt ds τ=some (.ok ((ds.filter g).map f),τ')/\P τ'
 | [],τ,h0,_=>⟨τ,rfl,h0⟩
 | d :: ds,τ,h0,hs=>by
  obtain ⟨τ1,τ2,e1,b,hf,j⟩:=hs d Bt τ h0
  cases a:g d with
  | false =>
   obtain ⟨τ',e,h⟩:=cr P g f (ds:=ds) (τ:=τ2) (hf a) fun d hd=>hs d (Bu _ hd)
   refine ⟨τ',?_,h⟩
   unfold bM
   rw [a] at b
   simp [e1,ad,b,e,List.filter_cons,a]
  | true =>
   obtain ⟨r,τ3,p,τ4,k,m,l,i⟩:=j a
   obtain ⟨τ',e,h⟩:=cr P g f (ds:=ds) (τ:=τ4) i fun d hd=>hs d (Bu _ hd)
   refine ⟨τ',?_,h⟩
   unfold bM
   rw [a] at b
   simp [e1,ad,b,k,m,e,List.filter_cons,a,aN,l]
abbrev Tri:=Nat × Nat × Nat
def ke (i j m:Nat):List Tri:=(List.range m).map fun k=>(i,j,j+1+k)
def iG (n i m:Nat):List Tri:=(List.range m).flatMap fun j=>ke i (i+1+j) (n - (i+1+j+1))
def lB (n m:Nat):List Tri:=(List.range m).flatMap fun i=>iG n i (n - (i+1))
def mr (n:Nat):List Tri:=lB n n
theorem mO (i j m:Nat):(ke i j m).length=m:=by simp [ke]
theorem kD (n i m:Nat):iG n i (m+1)=iG n i m ++ ke i (i+1+m) (n - (i+1+m+1)):=by simp [iG,List.range_succ,List.flatMap_append]
theorem kE (n m:Nat):lB n (m+1)=lB n m ++ iG n m (n - (m+1)):=by simp [lB,List.range_succ,List.flatMap_append]
theorem uJ {i j m:Nat} {t:Tri} (h:t ∈ ke i j m):t.1=i/\t.2.1=j/\j < t.2.2/\t.2.2 < j+1+m:=by
 obtain ⟨k,a,rfl⟩:=BJ.mp h
 rw [List.mem_range] at a
 exact ⟨rfl,rfl,by show j < j+1+k;omega,by show j+1+k < j+1+m;omega⟩
theorem nc {n:Nat} {t:Tri} (h:t ∈ mr n):t.1 < t.2.1/\t.2.1 < t.2.2/\t.2.2 < n:=by
 obtain ⟨i,hi,h⟩:=Ca.mp h
 obtain ⟨j,a,h⟩:=Ca.mp h
 rw [List.mem_range] at hi a
 obtain ⟨h1,h2,h3,b⟩:=uJ h
 exact ⟨by omega,by omega,by omega⟩
theorem pY (n i m:Nat):(iG n i m).length<=m * n:=by
 induction m with
 | zero=>simp [iG]
 | succ m ih=>rw [kD,BV,mO,Nat.succ_mul];omega
theorem wT (n m:Nat):(lB n m).length<=m * (n * n):=by
 induction m with
 | zero=>simp [lB]
 | succ m ih =>
  rw [kE,BV,Nat.succ_mul]
  have:=pY n m (n - (m+1))
  have h2:(n - (m+1)) * n<=n * n:=Nat.mul_le_mul (by omega) (BL _)
  omega
theorem oG {n m:Nat} (a:n<=25) (hm:m<=25):(lB n m).length<=15625:=by
 have h1:=wT n m
 have h2:n * n<=25 * 25:=Nat.mul_le_mul a a
 have h3:m * (n * n)<=25 * (25 * 25):=Nat.mul_le_mul hm h2
 omega
theorem oF {n i m:Nat} (a:n<=25) (hm:m<=25):(iG n i m).length<=625:=by
 have h1:=pY n i m
 have h2:m * n<=25 * 25:=Nat.mul_le_mul hm a
 omega
abbrev Td (t:Tri):L3.D:=.tup [.int t.1,.int t.2.1,.int t.2.2]
abbrev Shd (ps:List Pt):L3.D:=.tup (ps.map Pd)
theorem bO {im:IM} {bnd:L3.D->Sto->Option Sto} {c:M3 Bool} {elt:EM} {ix:List (Option Nat)} {ρ ρ1 ρ2 τ:Sto} {rs:List R3} {ds out:List L3.D} (h1:im ρ=some (.ok (rs,ds),ρ1)) (h2:bM bnd c elt ds (nQ ix (aA bP (us ρ1 (pls rs)) ρ1))=some (.ok out,τ)) (h3:ds.length < 16777216) (a:uncap ix τ (aA bP (us ρ1 (pls rs)) ρ1)=some ρ2) :
  cf im bnd c elt ix ρ=some (.ok (.val (.lst out) .u),aA d6 (us ρ1 (pls rs)) ρ2):=by
 simp [cf,ad,h1,h2,h3,a]
theorem n5:∀ {ds:List L3.D},(∀ d ∈ ds,d=.bl true)->fT ds=some (List.replicate ds.length true)
 | [],_=>rfl
 | d :: ds,h=>by
  have h1:=h d Bt
  subst h1
  have h2:=n5 fun d hd=>h d (Bu _ hd)
  simp [fT,h2,List.replicate_succ]
theorem lf {ds:List L3.D} (h:∀ d ∈ ds,d=.bl true):Bk (.lst ds)=some (.bl true,.z):=by
 simp [Bk,n5 h]
theorem iz {xs:List L3.D} {i:Nat} {d:L3.D} (h:xs[i]?=some d):L2.atI xs (i:Int)=some d:=by
 obtain ⟨h1,h2⟩:=BG.mp h
 simp [L2.atI,ixN,h1,h2]
theorem eL {ps:List Pt} {i:Nat} {p:Pt} (h:ps[i]?=some p):L2.atI (ps.map Pd) (i:Int)=some (Pd p):=iz (by simp [h])
theorem u8 {f:List L3.D->Option (List L3.D)} {ms:M3 (List R3)} {ρ ρ1 ρ2:Sto} {rs:List R3} {ds xs:List L3.D} (h1:ms ρ=some (.ok rs,ρ1)) (h2:cx rs ρ1=some (.ok ds,ρ2)) (h3:f ds=some xs):bF f ms ρ=some (.ok ([],xs),ρ2):=by
 simp [bF,ad,h1,h2,h3,aO]
theorem js {a b:Int} (e:-1000<=a/\a<=1000) (f:-1000<=b/\b<=1000) {n:Nat} (d:(b - a).toNat=n):fW [.int a,.int b]=some (aQ a n):=by
 have lm:eJ a=true:=BQ (by omega)
 have c:eJ b=true:=BQ (by omega)
 show (if (eJ a && eJ b)=true then some (aQ a (b - a).toNat) else none)=_
 rw [lm,c,d]
 exact if_pos rfl
theorem dw {b:Int} (d:-1000<=b/\b<=1000) {n:Nat} (c:b.toNat=n):dH [.int b]=some (aQ 0 n):=by
 have a:eJ b=true:=BQ (by omega)
 show (if (eJ b)=true then some (aQ 0 b.toNat) else none)=_
 rw [a,c]
 exact if_pos rfl
end Bn
end
section
namespace Bn
open PySem L2 L3
section
variable {α:Type} {ρ ρ1 ρ2 ρ3:Sto} {ma mb mc m:EM} {ms:M3 (List R3)} {ra rb r:R3} {rs:List R3} {da db d:L3.D} {ds:List L3.D} {fl:Fl} {i n np:Nat} {sa sb:SM} {c cc:M3 Bool} {b b2:Bool} {x:Option (Except L3.D Flw × Sto)} {y:Option (Except L3.D R3 × Sto)}
theorem ai {p:L3.D × Fl} (h:(ρ[i]?).join=some p):ac i ρ=some (.ok (.pl i),ρ):=by simp [ac,h]
theorem i_c:mC d ρ=some (.ok (.val d .z),ρ):=rfl
theorem a9 {f:L3.D->L3.D->Option (L3.D × Fl)} (h1:ma ρ=some (.ok ra,ρ1)) (h2:mb ρ1=some (.ok rb,ρ2)) (h3:der ra ρ2=some (.ok da,ρ2)) (b:der rb ρ2=some (.ok db,ρ2)) (a:f da db=some (d,fl)):af f ma mb ρ=some (.ok (.val d fl),ρ2):=by
 simp only [af,ad,h1,h2,h3,b,aO,a,BZ]
theorem iR {f:L3.D->Option (L3.D × Fl)} (h1:ma ρ=some (.ok ra,ρ1)) (h3:der ra ρ1=some (.ok da,ρ1)) (a:f da=some (d,fl)):mUn f ma ρ=some (.ok (.val d fl),ρ1):=by
 simp only [mUn,ad,h1,h3,aO,a,BZ]
theorem aT {f:List L3.D->Option (L3.D × Fl)} (h1:ms ρ=some (.ok rs,ρ1)) (h3:cx rs ρ1=some (.ok ds,ρ1)) (a:f ds=some (d,fl)):ao f ms ρ=some (.ok (.val d fl),ρ1):=by
 simp only [ao,ad,h1,h3,aO,a,BZ]
theorem aw:ae ρ=some (.ok [],ρ):=rfl
theorem ag (h1:m ρ=some (.ok r,ρ1)) (h2:ms ρ1=some (.ok rs,ρ2)):aa m ms ρ=some (.ok (r :: rs),ρ2):=by
 simp only [aa,ad,h1,h2,aN]
theorem bx {mk:List L3.D->L3.D} {f:Fl} (h1:ms ρ=some (.ok rs,ρ1)) (h2:gives rs ρ1=some (.ok ds,ρ2)) (h3:ds.length<=16777216):nq mk f ms ρ=some (.ok (.val (mk ds) f),ρ2):=by
 simp only [nq,ad,h1,h2,aO,h3,if_true,BZ]
theorem au {F:Fn} {ps qs:List (L3.D × Fl)} (b:F ps=some (.ok (d,fl),qs)) (h1:ms ρ=some (.ok rs,ρ1)) (h2:prs (frz (jn rs) ρ1) rs=some ps) (h3:qs.length=ps.length) (a:back rs ps qs (frz (jn rs) ρ1) = ρ2):am F ms ρ=some (.ok (.val d fl),ρ2):=by
 simp only [am,ad,h1,h2,b,h3,if_true,a]
theorem u9 {p:L3.D × Fl} (h1:m ρ=some (.ok r,ρ1)) (h2:cL r ρ1=some (.ok p,ρ2)) (h3:i < ρ2.length) (a:ρ2.set i (some p) = ρ3):aX i m ρ=some (.ok .nx,ρ3):=by
 simp only [aX,ad,h1,h2,h3,if_true,a]
theorem yS {bnd:L3.D->Sto->Option Sto} {p:L3.D × Fl} (h1:m ρ=some (.ok r,ρ1)) (h2:cL r ρ1=some (.ok p,ρ2)) (h3:bnd p.1 ρ2=some ρ3):jI bnd m ρ=some (.ok .nx,ρ3):=by
 simp only [jI,ad,h1,h2,h3,BZ]
theorem i_par {a b:L3.D} {j:Nat} (h1:ms ρ=some (.ok rs,ρ1)) (h2:gives rs ρ1=some (.ok [a,b],ρ2)) (hi:i < ρ2.length) (c:j < ρ2.length) (h3:(ρ2.set i (some (a,.z))).set j (some (b,.z)) = ρ3):tL i j ms ρ=some (.ok .nx,ρ3):=by
 simp only [tL,ad,h1,h2,hi,c,and_self,if_true,h3]
theorem AW (h1:m ρ=some (.ok r,ρ1)):eS m ρ=some (.ok .nx,ρ1):=by
 simp only [eS,ad,h1,aN]
def retF (np:Nat) (r:R3):SM:=bf np (aN r)
theorem cj (h1:m ρ=some (.ok r,ρ1)) (h2:retF np r ρ1=x):bf np m ρ=x:=by
 rw [<- h2]
 unfold retF
 simp only [bf,ad,h1,aN]
theorem eP (h1:sa ρ=some (.ok (.rt d fl),ρ1)):aF sa sb ρ=some (.ok (.rt d fl),ρ1):=by
 simp only [aF,ad,h1,aN]
theorem dQ (h1:m ρ=some (.ok r,ρ1)) (h2:der r ρ1=some (.ok (.bl b),ρ1)):cB m ρ=some (.ok b,ρ1):=by
 simp only [cB,ad,h1,h2,aO,asB,BZ]
theorem cn (h1:c ρ=some (.ok b,ρ1)):cy c ρ=some (.ok (!b),ρ1):=by
 simp only [cy,ad,h1,aN]
theorem fQ (h1:c ρ=some (.ok b,ρ1)) (a:b=true) (h2:sa ρ1=x):sIf c sa sb ρ=x:=by
 subst a;simp only [sIf,ad,h1,if_true];exact h2
theorem dX (h1:c ρ=some (.ok b,ρ1)) (a:b=false) (h2:sb ρ1=x):sIf c sa sb ρ=x:=by
 subst a;simp only [sIf,ad,h1,B2,if_false];exact h2
theorem je (h1:c ρ=some (.ok b,ρ1)) (a:b=false) (h2:cc ρ1=some (.ok b2,ρ2)):cOr c cc ρ=some (.ok b2,ρ2):=by
 subst a;simp only [cOr,ad,h1,B2,if_false];exact h2
theorem qu (h1:c ρ=some (.ok b,ρ1)) (a:b=true):cOr c cc ρ=some (.ok true,ρ1):=by
 subst a;simp only [cOr,ad,h1,if_true];rfl
theorem dE (h1:ma ρ=some (.ok r,ρ1)) (h2:der r ρ1=some (.ok (.bl b),ρ1)) (a:b=true) (h3:mb ρ1=y):cH ma mb ρ=y:=by
 subst a;simp only [cH,ad,h1,h2,aO,asB,BZ,if_true];exact h3
theorem eE (h1:ma ρ=some (.ok r,ρ1)) (h2:der r ρ1=some (.ok (.bl b),ρ1)) (a:b=false):cH ma mb ρ=some (.ok (.val (.bl false) .z),ρ1):=by
 subst a;simp only [cH,ad,h1,h2,aO,asB,BZ,B2,if_false];rfl
theorem xX {f:L3.D->Option Int->Option Int->Option (L3.D × Fl)} {pl pu:M3 (Option Int)} {lo hi:Option Int} (h1:ma ρ=some (.ok ra,ρ1)) (h2:pl ρ1=some (.ok lo,ρ2)) (h3:pu ρ2=some (.ok hi,ρ3)) (a:der ra ρ3=some (.ok da,ρ3)) (b:f da lo hi=some (d,fl)):mSl f ma pl pu ρ=some (.ok (.val d fl),ρ3):=by
 simp only [mSl,ad,h1,h2,h3,a,aO,b,BZ]
theorem i_mut {ok:L3.D->Bool} {f:L3.D->List L3.D->Option (L3.D × L3.D)} {c b a:L3.D} (h0:(ρ[i]?).join=some (d,fl)) (e:ok d=true) (h1:ms ρ=some (.ok rs,ρ1)) (h2:gives rs ρ1=some (.ok ds,ρ2)) (h3:(ρ2[i]?).join=some (c,.u)) (g:f c ds=some (b,a)) (h:ρ2.set i (some (b,.u)) = ρ3):o5 ok f i ms ρ=some (.ok (.val a .z),ρ3):=by
 simp only [o5,ad,ai h0,chk,h0,e,if_true,h1,h2,h3,g,h]
theorem i_sub {f:L3.D->List L3.D->Option (L3.D × L3.D)} {b a c:L3.D} (h1:mb ρ=some (.ok rb,ρ1)) (h0:(ρ1[i]?).join=some (d,fl)) (h2:ma ρ1=some (.ok ra,ρ2)) (h3:gives [ra,rb] ρ2=some (.ok ds,ρ3)) (e:(ρ3[i]?).join=some (b,.u)) (g:f b ds=some (a,c)):lA f i ma mb ρ=some (.ok .nx,ρ3.set i (some (a,.u))):=by
 simp only [lA,ad,h1,ai h0,h2,h3,e,g]
theorem aY {mask:List Bool} {ps qs:List (L3.D × Fl)} (h1:ps.length=mask.length) (h0:fk n (List.zipWith nz mask ps) = ρ) (h2:sa ρ=some (.ok (.rt d fl),ρ1)) (h3:eF ρ1 0 (List.zipWith nz mask ps)=some qs):fnM mask n sa ps=some (.ok (d,fl),qs):=by
 subst h0;simp only [fnM,h1,if_true,fn0,h2,h3,BZ]
theorem dC {i j:Int} (h:-18446744073709551616 < i/\i < 18446744073709551616):cP (.int i) (.int j)=some (.int (i * j),.z):=by
 simp [bS,h]
theorem uG {i j:Int} (h:-18446744073709551616 < j/\j < 18446744073709551616):cP (.int i) (.int j)=some (.int (i * j),.z):=by
 simp [bS,h]
theorem dF {im:IM} {bnd:L3.D->Sto->Option Sto} {o:Except L3.D Flw} (h1:im ρ=some (.ok (rs,ds),ρ1)) (b:us ρ1 (pls rs)=[]) (h2:cw bnd sb ds ρ1=some (o,ρ2)):cE im bnd sb ρ=some (o,ρ2):=by
 have a:∀ f ρ,aA f [] ρ = ρ:=fun _ _=>rfl
 simp only [cE,ad,h1,b,a,h2,BZ]
theorem AV {im:IM} {bnd:L3.D->Sto->Option Sto} {o:Except L3.D Flw} {is:List Nat} (h1:im ρ=some (.ok (rs,ds),ρ1)) (a:us ρ1 (pls rs)=is) (h2:cw bnd sb ds (aA bP is ρ1)=some (o,ρ2)):cE im bnd sb ρ=some (o,aA d6 is ρ2):=by
 simp only [cE,ad,h1,a,h2,BZ]
theorem ip (h1:m ρ=some (.ok r,ρ1)) (h2:der r ρ1=some (.ok d,ρ1)) (h3:pV d=some ds):ci m ρ=some (.ok ([r],ds),ρ1):=by
 simp only [ci,ad,h1,h2,aO,h3,BZ]
theorem dW {f:List L3.D->Option (List L3.D)} {xs:List L3.D} (h1:ms ρ=some (.ok rs,ρ1)) (h2:cx rs ρ1=some (.ok ds,ρ1)) (h3:f ds=some xs):bF f ms ρ=some (.ok ([],xs),ρ1):=u8 h1 h2 h3
end
theorem j5 {α:Type} {bnd:L3.D->Sto->Option Sto} {c:M3 Bool} {elt:EM} (P:Sto->Prop) (D:α->L3.D) (g:α->Bool) (f:α->L3.D):∀ {xs:List α} {τ:Sto},P τ ->
  (∀ x ∈ xs,∀ τ,P τ->∃ τ1 τ2,bnd (D x) τ=some τ1/\c τ1=some (.ok (g x),τ2)/\(g x=false->P τ2)/\(g x=true->∃ r τ3 p τ4,elt τ2=some (.ok r,τ3)/\cL r τ3=some (.ok p,τ4)/\p.1=f x/\P τ4)) ->
  ∃ τ',bM bnd c elt (xs.map D) τ=some (.ok ((xs.filter g).map f),τ')/\P τ'
 | [],τ,h0,_=>⟨τ,rfl,h0⟩
 | x :: xs,τ,h0,hs=>by
  obtain ⟨τ1,τ2,e1,b,hf,j⟩:=hs x Bt τ h0
  cases a:g x with
  | false =>
   obtain ⟨τ',e,h⟩:=j5 P D g f (xs:=xs) (τ:=τ2) (hf a) fun d hd=>hs d (Bu _ hd)
   refine ⟨τ',?_,h⟩
   rw [BP]
   unfold bM
   rw [a] at b
   simp [e1,ad,b,e,List.filter_cons,a]
  | true =>
   obtain ⟨r,τ3,p,τ4,k,m,l,i⟩:=j a
   obtain ⟨τ',e,h⟩:=j5 P D g f (xs:=xs) (τ:=τ4) i fun d hd=>hs d (Bu _ hd)
   refine ⟨τ',?_,h⟩
   rw [BP]
   unfold bM
   rw [a] at b
   simp [e1,ad,b,k,m,e,List.filter_cons,a,aN,l]
section
variable {α:Type} {P:List α->Prop} {us:List α}
theorem bnd0 (h:us.length=0) (f:P []):P us:=by
 cases us with
 | nil=>exact f
 | cons a us=>cases h
theorem Bd {n:Nat} (h:us.length=n+1) (f:∀ a r,r.length=n->P (a :: r)):P us:=by
 cases us with
 | nil=>cases h
 | cons a us=>exact f a us (Nat.succ.inj h)
theorem bnd1 (h:us.length=1) (f:∀ a,P [a]):P us:=Bd h fun a _ h=>bnd0 (P:=fun r=>P (a :: r)) h (f a)
theorem bnd2 (h:us.length=2) (f:∀ a b,P [a,b]):P us:=Bd h fun a _ h=>bnd1 (P:=fun r=>P (a :: r)) h (f a)
theorem bnd3 (h:us.length=3) (f:∀ a b c,P [a,b,c]):P us:=Bd h fun a _ h=>bnd2 (P:=fun r=>P (a :: r)) h (f a)
end
theorem hb1 {x:Str} {st:Stmt} {b:Str} (f:∀ (kV doc pm:Value) (an:Option Addr) (a ct c:Value),bindArgs (PySem.W.fnOf x x (bd st) (aU st) (ah st) .none kV doc pm an a ct) ⟨[c],[]⟩=pure ([b].zip [c])) (kV doc pm:Value) (an:Option Addr) (a ct:Value) (us:List Value) (d:us.length=[b].length):bindArgs (PySem.W.fnOf x x (bd st) (aU st) (ah st) .none kV doc pm an a ct) ⟨us,[]⟩=pure ([b].zip us) :=
 bnd1 (P:=fun us=>bindArgs (PySem.W.fnOf x x (bd st) (aU st) (ah st) .none kV doc pm an a ct) ⟨us,[]⟩=pure ([b].zip us)) d (f kV doc pm an a ct)
theorem hb2 {x:Str} {st:Stmt} {c b:Str} (f:∀ (kV doc pm:Value) (an:Option Addr) (a ct d a1:Value),bindArgs (PySem.W.fnOf x x (bd st) (aU st) (ah st) .none kV doc pm an a ct) ⟨[d,a1],[]⟩=pure ([c,b].zip [d,a1])) (kV doc pm:Value) (an:Option Addr) (a ct:Value) (us:List Value) (e:us.length=[c,b].length):bindArgs (PySem.W.fnOf x x (bd st) (aU st) (ah st) .none kV doc pm an a ct) ⟨us,[]⟩=pure ([c,b].zip us) :=
 bnd2 (P:=fun us=>bindArgs (PySem.W.fnOf x x (bd st) (aU st) (ah st) .none kV doc pm an a ct) ⟨us,[]⟩=pure ([c,b].zip us)) e (f kV doc pm an a ct)
theorem hb3 {x:Str} {st:Stmt} {c b p2:Str} (f:∀ (kV doc pm:Value) (an:Option Addr) (a ct d a1 a2:Value),bindArgs (PySem.W.fnOf x x (bd st) (aU st) (ah st) .none kV doc pm an a ct) ⟨[d,a1,a2],[]⟩=pure ([c,b,p2].zip [d,a1,a2])) (kV doc pm:Value) (an:Option Addr) (a ct:Value) (us:List Value) (e:us.length=[c,b,p2].length):bindArgs (PySem.W.fnOf x x (bd st) (aU st) (ah st) .none kV doc pm an a ct) ⟨us,[]⟩=pure ([c,b,p2].zip us) :=
 bnd3 (P:=fun us=>bindArgs (PySem.W.fnOf x x (bd st) (aU st) (ah st) .none kV doc pm an a ct) ⟨us,[]⟩=pure ([c,b,p2].zip us)) e (f kV doc pm an a ct)
end Bn
end
section
namespace L3
open PySem L2
def tgN:Expr->List Str
 | .Name x _=>[x]
 | .Tuple [.Name x _,.Name y _] _ _=>[x,y]
 | .Tuple [.Name x _,.Name y _,.Name z _] _ _=>[x,y,z]
 | _=>[]
def mW (tg:Expr) (N:List Str) (ix:List (Option Nat)):List Str:=tgN tg ++ ix.filterMap fun o=>o.bind fun i=>N[i]?
def ndB:List Str->Bool
 | []=>true
 | x :: xs=>!(xs.any fun y=>decide (y=x)) && ndB xs
theorem qi:∀ {xs:List Str},ndB xs=true->xs.Nodup
 | [],_=>.nil
 | x :: xs,h=>by
  simp only [ndB,Bool.and_eq_true,Bool.not_eq_true',List.any_eq_false,decide_eq_true_eq] at h
  exact List.nodup_cons.mpr ⟨fun m=>h.1 x m rfl,qi h.2⟩
section
variable {X:Cx} {G0:Gm} {W0:D->Sto->Prop} {pos:Pos}
theorem t6 (e:X.calm=true) (hi:RI X G0 W0 tg iter im) (d:∀ s H C fp,PTs (aG X (mW tg X.N ix) scope s H C fp) ifs (tT X.K (bq ix) noX cm)) (he:∀ s H C fp,RE (aG X (mW tg X.N ix) scope s H C fp) (bq ix) noX elt em) (g:fq scope X.N X.env.scope (mW tg X.N ix) ix=true) (b:Inj ix) (f:∀ x,foldedSetIterable iter X.env x=pure x) (c:∃ a,Bnd X.K (bq ix).pr a bnd/\∀ s H C fp,PG (aG X (mW tg X.N ix) scope s H C fp) tg a):RE X G0 W0 (.ListComp elt [⟨tg,iter,ifs,0⟩] scope pos) (cf im bnd cm em ix) :=
 xa _ ix e hi d he g b f c
theorem mN {i:Nat} (m:X.N.Nodup) (h:X.N[i]?=some y) (e:Loc X.env.scope y) (g:X.calm=true) (hi:RI X G0 W0 tg iter im) (f:∀ s H C fp,PTs (aG X (mW tg X.N ix) scope s H C fp) ifs (tT X.K (bq ix) noX cm)) (he:∀ s H C fp,RE (aG X (mW tg X.N ix) scope s H C fp) (bq ix) noX elt em) (l:fq scope X.N X.env.scope (mW tg X.N ix) ix=true) (c:Inj ix) (b:swapsWith (.ListComp elt [⟨tg,iter,ifs,0⟩] scope pos) (some (.Name y py)) spos.line X.env=pure true) (hf:X.fn y=true\/X.env.scope.names.lookup y=some .local) (k:∀ x,foldedSetIterable iter X.env x=pure x) (j:G0.pr i=false) (d:∃ a,Bnd X.K (bq ix).pr a bnd/\∀ s H C fp,PG (aG X (mW tg X.N ix) scope s H C fp) tg a):RS X G0 W0 (.Assign [.Name y py] (.ListComp elt [⟨tg,iter,ifs,0⟩] scope pos) spos) (aX i (cf im bnd cm em ix)) :=
 oE m h e _ ix g hi f he l c b hf k j d
end
section
variable {X:Cx} {G0:Gm} {W0:D->Sto->Prop} {p q r:Pos} {m:EM} {e e1:Expr} {es:List Expr} {t:M3 Bool} {sm:SM}
theorem gN {i:Nat} (h:RE X G0 W0 (.Name x p) (ac i)):RE X G0 W0 (.Name x p) (ac i):=h
theorem gG (h:RE X G0 W0 (.Name x p) (mC d)):RE X G0 W0 (.Name x p) (mC d):=h
theorem gK {k:Nat} (h:RE X G0 W0 (.Constant c k p) m):RE X G0 W0 (.Constant c k p) m:=h
theorem gB (op:Operator) (h:RE X G0 W0 (.BinOp e op e1 p) m):RE X G0 W0 (.BinOp e op e1 p) m:=h
theorem gU (op:UnaryOp) (h:RE X G0 W0 (.UnaryOp op e p) m):RE X G0 W0 (.UnaryOp op e p) m:=h
theorem gP (os:List CmpOp) (h:RE X G0 W0 (.Compare e os es p) m):RE X G0 W0 (.Compare e os es p) m:=h
theorem gO (h:RE X G0 W0 (.BoolOp op es p) m):RE X G0 W0 (.BoolOp op es p) m:=h
theorem gS (h:RE X G0 W0 (.Subscript e e1 p) m):RE X G0 W0 (.Subscript e e1 p) m:=h
theorem gL (h:RE X G0 W0 (.Subscript e (.Slice a b c p) q) m):RE X G0 W0 (.Subscript e (.Slice a b c p) q) m:=h
theorem gI (x:Str) (h:RE X G0 W0 (.Call (.Name s p) [e,.Name x q] [] r) m):RE X G0 W0 (.Call (.Name s p) [e,.Name x q] [] r) m:=h
theorem gC (x:Str) (h:RE X G0 W0 (.Call (.Name x p) es ks q) m):RE X G0 W0 (.Call (.Name x p) es ks q) m:=h
theorem gD (h:RE X G0 W0 (.Call (.Name x p) es ks q) m):RE X G0 W0 (.Call (.Name x p) es ks q) m:=h
theorem gM (x:Str) (h:RE X G0 W0 (.Call (.Attribute e x p) es ks q) m):RE X G0 W0 (.Call (.Attribute e x p) es ks q) m:=h
theorem gE (h:RE X G0 W0 e m):RE X G0 W0 e m:=h
theorem gA (h:RA X G0 W0 es ms):RA X G0 W0 es ms:=h
theorem gQ (os:List CmpOp) (h:RT X G0 W0 (.Compare e os es p) t):RT X G0 W0 (.Compare e os es p) t:=h
theorem gW (h:RT X G0 W0 (.BoolOp op es p) t):RT X G0 W0 (.BoolOp op es p) t:=h
theorem gV (h:RT X G0 W0 (.UnaryOp .Not e p) t):RT X G0 W0 (.UnaryOp .Not e p) t:=h
theorem gT (h:RT X G0 W0 e t):RT X G0 W0 e t:=h
theorem gR (h:RS X G0 W0 (.Return o p) sm):RS X G0 W0 (.Return o p) sm:=h
theorem gF (h:RS X G0 W0 (.If e ss tt p) sm):RS X G0 W0 (.If e ss tt p) sm:=h
theorem gX (h:RS X G0 W0 (.Assign [.Name x p] e q) sm):RS X G0 W0 (.Assign [.Name x p] e q) sm:=h
theorem gZ (h:RS X G0 W0 st sm):RS X G0 W0 st sm:=h
theorem gY (h:RSs X G0 W0 ss sm):RSs X G0 W0 ss sm:=h
end
end L3
end
section
namespace Bn
open PySem L2 L3
local macro_rules | `(tactic| infer_instance)=>`(tactic| first | with_reducible apply ai | with_reducible exact i_c | with_reducible apply a9 | with_reducible apply iR | with_reducible apply aT | with_reducible exact aw | with_reducible apply ag | with_reducible apply bx | with_reducible apply u9 | with_reducible apply yS | with_reducible apply AW | with_reducible apply cj | with_reducible exact i_nilS | with_reducible apply dQ | with_reducible apply cn | with_reducible apply i_mNot | with_reducible apply xX | with_reducible exact i_pNone | with_reducible apply i_pSome | with_reducible apply i_mut | with_reducible apply i_sub | with_reducible apply ip | with_reducible apply dW | with_reducible apply dE | with_reducible apply je)
local macro_rules | `(tactic| eq_refl)=>`(tactic| first | exact rfl | exact Nat.le_of_ble_eq_true rfl)
local macro_rules | `(tactic| nofun) => `(tactic| repeat' (first | infer_instance | eq_refl))
local macro_rules | `(tactic| exists $es,*) => `(tactic| repeat' (first | infer_instance | (first $[| exact $es]*) | eq_refl))
local macro_rules | `(tactic| nomatch [$fs,*]) => `(tactic| repeat' (first | infer_instance | (first $[| with_reducible apply au $fs]*) | eq_refl))
local macro_rules | `(tactic| nomatch [$fs,*], [$es,*]) => `(tactic| repeat' (first | infer_instance | (first $[| with_reducible apply au $fs]*) | (first $[| exact $es]*) | eq_refl))
section
variable {X:Cx} {G0:Gm} {W0:L3.D->Sto->Prop} {pos:Pos}
end
section
variable {P:Program} {w:World} {K:FG} {mg:Str->Option Value} {base:Heap}
local macro_rules | `(tactic| ac_rfl) => `(tactic| exact ⟨rfl,rfl,rfl,by decide +kernel,rfl,by decide +kernel,by decide +kernel⟩)
set_option hygiene false
local macro_rules | `(tactic| and_intros)=>`(tactic| repeat' (first
 | ((with_reducible apply gA);first | refine p7 ?_ ?_ rfl | refine t8)
 | ((with_reducible apply gN);first | refine lD _ rfl (Or.inl rfl) (by decide) (by decide) | refine lD _ rfl (Or.inr (Or.inl rfl)) (by decide) (by decide))
 | ((with_reducible apply gG);refine mP rfl (by assumption) (by decide))
 | ((with_reducible apply gK);first | refine zX | refine re_bl | refine zU | refine zR)
 | ((with_reducible apply gL);first | refine t5 ?_ ?_ ?_ | refine wZ ?_ ?_)
 | ((with_reducible apply gS);refine re_ix (AT hr.hu) Az ?_ ?_ (fun _ _=>rfl))
 | ((with_reducible apply gB .Add);refine iI xy AD ?_ ?_)
 | ((with_reducible apply gB .Mult);refine iI Av xD ?_ ?_)
 | ((with_reducible apply gB .Sub);refine iI As xB ?_ ?_)
 | ((with_reducible apply gB .Mod);refine iI Aw xE ?_ ?_)
 | ((with_reducible apply gB .FloorDiv);refine iI uB xG ?_ ?_)
 | ((with_reducible apply gB .Pow);refine iI At xC ?_ ?_)
 | ((with_reducible apply gQ [.Eq]);refine oD (uC hr.units) uE ?_ ?_ (iJ _))
 | ((with_reducible apply gQ [.Lt]);refine oD yK yM ?_ ?_ (iJ _))
 | ((with_reducible apply gQ [.NotEq]);refine oD (Au hr.units) AB ?_ ?_ (iJ _))
 | ((with_reducible apply gW);refine rt_w ?_)
 | ((with_reducible apply gV);refine zH ?_)
 | ((with_reducible apply gT);refine zG ?_ (fun _=>rfl))
 | ((with_reducible apply gP [.Eq]);refine oI (uC hr.units) uE ?_ ?_ (iJ _))
 | ((with_reducible apply gP [.LtE,.LtE]);refine t7 qg yN qg yN ?_ ?_ ?_ (fun h1 h2 h3=>uz qg qg h1 h2 h3))
 | ((with_reducible apply gP [.Is]);refine oI Ax AC ?_ ?_ (iJ _))
 | ((with_reducible apply gP [.Lt]);refine oI yK yM ?_ ?_ (iJ _))
 | ((with_reducible apply gO);first | refine z4 ?_ ?_ | refine zS ?_)
 | ((with_reducible apply gU .USub);refine re_un y9 za ?_)
 | ((with_reducible apply gU .Not);refine zT ?_)
 | ((with_reducible apply gI "tuple");refine oH j7 rfl B.isinstance (lJ (v:=V.ty "tuple") rfl B.tuple qN rfl (by decide) (by decide)) ?_ rfl rfl rfl)
 | ((with_reducible apply gI "bool");refine oH ki rfl B.isinstance (lJ (v:=V.ty "bool") rfl B.bool Bi rfl (by decide) (by decide)) ?_ rfl rfl rfl)
 | ((with_reducible apply gI "int");refine oH l5 rfl B.isinstance (lJ (v:=V.ty "int") rfl B.int b_int rfl (by decide) (by decide)) ?_ rfl rfl rfl)
 | ((with_reducible apply gC "len");first | refine cN l4 Ba rfl B.len y6 ?_ (by decide) (by decide) rfl rfl | refine zW rfl rfl B.len y6 rfl B.set b_set ?_ (by decide) (by decide) (by decide) (by decide) rfl rfl)
 | ((with_reducible apply gC "tuple");refine kH kh A7 rfl B.tuple qN ?_ (by decide) (by decide) rfl rfl)
 | ((with_reducible apply gC "all");refine cN (vL rfl) Bb rfl B.all b_all ?_ (by decide) (by decide) rfl rfl)
 | ((with_reducible apply gC "list");refine kH lZ A8 rfl B.list Bh ?_ (by decide) (by decide) rfl rfl)
 | ((with_reducible apply gC "repr");refine cN (lY hr.gd hr.units) vJ rfl B.repr Bg ?_ (by decide) (by decide) rfl rfl)
 | ((with_reducible apply gC "abs");refine cN vM Bc rfl B.abs b_abs ?_ (by decide) (by decide) rfl rfl)
 | ((with_reducible apply gC "divmod");refine cN nR sy rfl B.divmod vR ?_ (by decide) (by decide) rfl rfl)
 | ((with_reducible apply gC "sorted");refine cN (pz (Nat.lt_of_le_of_lt (Nat.add_le_add_left (by decide:2<=64) _) hr.units)) vI rfl B.sorted vQ ?_ (by decide) (by decide) rfl rfl)
 | ((with_reducible apply gC "min");refine cN (sB rfl) yo rfl B.min b_min ?_ (by decide) (by decide) rfl rfl)
 | ((with_reducible apply gC "max");refine cN (sC rfl) yp rfl B.max b_max ?_ (by decide) (by decide) rfl rfl)
 | ((with_reducible apply gD);refine xb (by assumption) (hr.mono (by first | decide | omega)) ?_ rfl (by decide) rfl rfl)
 | ((with_reducible apply gM "append");refine p6 (ok:=isL) PySem.F.plainAttrs_list PySem.F.slot_list_append PySem.F.type_list_append rL AJ u5 (lH rfl (Or.inl rfl) (by decide) (by decide)) ?_ rfl rfl rfl rfl rfl)
 | ((with_reducible apply gM "extend");refine p6 (ok:=isL) PySem.F.plainAttrs_list PySem.F.slot_list_extend PySem.F.type_list_extend rK AI u5 (lH rfl (Or.inl rfl) (by decide) (by decide)) ?_ rfl rfl rfl rfl rfl)
 | ((with_reducible apply gH);first | refine lD _ rfl (Or.inl rfl) (by decide) (by decide) | refine lD _ rfl (Or.inr (Or.inl rfl)) (by decide) (by decide) | refine mP rfl (by assumption) (by decide))
 | ((with_reducible apply gE);first | refine zQ ?_ | refine zV ?_ | refine t6 rfl ?_ (fun s H C fp=>?_) (fun s H C fp=>?_) (by rfl) (u7 (by decide)) (fun _=>rfl) ⟨_,iy rfl,fun s H C fp=>jv (qi rfl) rfl (Or.inl rfl) (Or.inr rfl)⟩ | refine zZ (key:=.inr "a") ux lI | refine zY (ns:=[0,1]) hr.hu (by decide) (by decide) rfl lI)
 | ((with_reducible apply gY);first | refine tW ?_ ?_ | refine wO ?_ | refine wP)
 | ((with_reducible apply gR);refine zK _ (fun i hi=>by rw [hp] ;exact xo (by simpa using hi)) ?_)
 | ((with_reducible apply gF);refine rs_if ?_ ?_ ?_)
 | ((with_reducible apply gX);first | refine mN nd rfl (Or.inl rfl) rfl ?_ (fun s H C fp=>?_) (fun s H C fp=>?_) (by rfl) (u7 (by decide)) rfl (Or.inl rfl) (fun _=>rfl) (by rw [hp] ;rfl) ⟨_,qL (iX (iy rfl) (iX (iy rfl) nX)),fun s H C fp=>uu (n:=2) rfl (jP (jv (qi rfl) rfl (Or.inl rfl) (Or.inr rfl)) (jP (jv (qi rfl) rfl (Or.inl rfl) (Or.inr rfl)) qe rfl) rfl) rfl rfl⟩ | refine zJ _ nd rfl (Or.inl rfl) ?_ rfl (Or.inl rfl) (by rw [hp] ;rfl))
 | ((with_reducible apply gZ);first | refine zM PassesOwn.never rfl ?_ ?_ ?_ (fun _=>rfl) | refine wQ ?_ rfl | refine zN ?_ ?_ rfl rfl rfl | refine zI (wI hr.hu) AH (lH rfl (Or.inl rfl) (by decide) (by decide)) ?_ ?_ (fun _=>rfl) rfl rfl rfl | refine tX PassesOwn.never ?_ ?_ | refine zL _ _ rfl nd rfl rfl (by decide) rfl rfl ?_ rfl rfl (by rw [hp] ;rfl) (by rw [hp] ;rfl))
 | refine pZ _ nd rfl (Or.inl rfl) (Or.inl rfl) (by rw [hp] ;rfl)
 | refine zO ?_
 | refine tY
 | refine wW rfl B.range ?_ rfl
 | refine t4 ?_ ?_ rfl
 | refine rw_or ?_ ?_
 | refine zE ?_
 | refine wR ?_
 | refine wV rfl B.range ?_ rfl rfl
 | refine wY
 | refine zP rfl ?_ rfl rfl
 | refine wS
 | refine pZ _ nd rfl (Or.inr rfl) (Or.inl rfl) (by rw [hp] ;rfl)
 | refine wX rfl B.enumerate ?_ rfl))
local macro_rules | `(tactic| specialize $q) => `(tactic| exact bg D $q rfl rfl (by first | exact hb1 fun _ _ _ _ _ _ _=>rfl | exact hb2 fun _ _ _ _ _ _ _ _=>rfl | exact hb3 fun _ _ _ _ _ _ _ _ _=>rfl) fun cdv A outer s H E f G hr hp=>have nd:=($q).nd;by and_intros)
set_option hygiene true
def o0:SM:=(bf 1 (cH (mUn (cS "int") (ac 0)) (nt (mUn (cS "bool") (ac 0)))))
def bT:Fn:=fnM [false] 1 o0
theorem sc_is_whole:FnScope ["thing"] ["thing"] (ah eg):=by ac_rfl
theorem l7 (B:Bl mg) (D:Def K mg "is_whole" eg):a7 P w K mg base "is_whole" 1 ["thing"] bT :=by specialize sc_is_whole
def o4:SM:=(bf 1 (cH (mUn (cS "tuple") (ac 0)) (cH (af eqX (ao cR (aa (ac 0) ae)) (mC (.int 2))) (cH (am bT (aa (af ay (ac 0) (mC (.int 0))) ae)) (am bT (aa (af ay (ac 0) (mC (.int 1))) ae))))))
def cJ:Fn:=fnM [false] 1 o4
theorem sc_is_point:FnScope ["thing"] ["thing"] (ah eA):=by ac_rfl
theorem md (B:Bl mg) (D:Def K mg "is_point" eA) (a:a7 P w K mg base "is_whole" 1 ["thing"] bT):a7 P w K mg base "is_point" 2 ["thing"] cJ :=by specialize sc_is_point
def bB:EM:=(am cJ (aa (ac 0) ae))
def cU:EM:=(cf (ci (ac 0)) (aj 0) dq bB [none])
def lP:SM:=(bf 1 (cH (cG leI leI (mC (.int 1)) (ao cR (aa (ac 0) ae)) (mC (.int (24)))) (ao sL (aa cU ae))))
def bo:Fn:=fnM [false] 1 lP
theorem sc_are_points:FnScope ["things"] ["things"] (ah cZ):=by ac_rfl
theorem j9 (B:Bl mg) (D:Def K mg "are_points" cZ) (c:a7 P w K mg base "is_point" 2 ["thing"] cJ) {a:Tok} (b:mg "MOST_POINTS"=some (.int (24) a)):a7 P w K mg base "are_points" 3 ["things"] bo :=by specialize sc_are_points
def bj:EM:=(af ltI (af ay (af ay (ac 1) (ac 0)) (mC (.int 0))) (af ay (af ay (ac 1) (af aH (ac 0) (mC (.int 1)))) (mC (.int 0))))
def ce:EM:=(cf (bF dH (aa (af de (ao cR (aa (ac 0) ae)) (mC (.int 1))) ae)) (aj 0) dq bj [none,some 0])
def ff:SM:=(bf 1 (ao sL (aa ce ae)))
def bu:Fn:=fnM [false] 1 ff
theorem sc_has_rising_x:FnScope ["points"] ["points"] (ah b7):=by ac_rfl
theorem iW (B:Bl mg) (D:Def K mg "has_rising_x" b7):a7 P w K mg base "has_rising_x" 1 ["points"] bu :=by specialize sc_has_rising_x
def AK:SM:=(aF (aX 3 (af cP (af de (af ay (ac 1) (mC (.int 0))) (af ay (ac 0) (mC (.int 0)))) (af de (af ay (ac 2) (mC (.int 1))) (af ay (ac 0) (mC (.int 1)))))) (bf 3 (af de (ac 3) (af cP (af de (af ay (ac 1) (mC (.int 1))) (af ay (ac 0) (mC (.int 1)))) (af de (af ay (ac 2) (mC (.int 0))) (af ay (ac 0) (mC (.int 0))))))))
def mh:Fn:=fnM [false,false,false] 4 AK
theorem sc_bend:FnScope ["first","second","third","run"] ["first","second","third"] (ah lz):=by ac_rfl
theorem vN (B:Bl mg) (D:Def K mg "bend" lz):a7 P w K mg base "bend" 1 ["first","second","third"] mh :=by specialize sc_bend
def eY:EM:=(aS (aa (ac 1) (aa (ac 2) (aa (ac 0) ae))))
def ja:EM:=(cf (bF fW (aa (af aH (ac 3) (mC (.int 1))) (aa (ac 0) ae))) (aj 0) dq eY [none,some 2,some 3])
def eZ:SM:=(eS (o5 isL vo 1 (aa ja ae)))
def jb:SM:=(cE (bF fW (aa (af aH (ac 2) (mC (.int 1))) (aa (ac 0) ae))) (aj 3) eZ)
def uK:SM:=(aF (aX 1 (aW ae)) (aF (cE (bF dH (aa (ac 0) ae)) (aj 2) jb) (bf 1 (ac 1))))
def iA:Fn:=fnM [false] 4 uK
theorem sc_threes:FnScope ["many","found","i","j"] ["many"] (ah gh):=by ac_rfl
theorem pA (B:Bl mg) (D:Def K mg "threes" gh):a7 P w K mg base "threes" 1 ["many"] iA :=by specialize sc_threes
def ba:EM:=(af ay (ac 1) (ac 0))
def bR:EM:=(cf (ci (ac 1)) (aj 0) dq ba [none,some 0])
def aI:SM:=(aF (aX 2 (ao lh (aa bR ae))) (sIf (cB (af eqX (am mh (aa (af ay (ac 2) (mC (.int 0))) (aa (af ay (ac 2) (mC (.int 1))) (aa (af ay (ac 2) (mC (.int 2))) ae)))) (mC (.int 0)))) (bf 1 (ac 2)) dS))
def ji:SM:=(aF (cE (ci (am iA (aa (ao cR (aa (ac 0) ae)) ae))) (aj 1) aI) (bf 1 (mC .non)))
def bh:Fn:=fnM [false] 3 ji
theorem sc_first_on_line:FnScope ["points","three","found"] ["points"] (ah bQ):=by ac_rfl
theorem iw (B:Bl mg) (D:Def K mg "first_on_line" bQ) (b:a7 P w K mg base "bend" 1 ["first","second","third"] mh) (a:a7 P w K mg base "threes" 1 ["many"] iA):a7 P w K mg base "first_on_line" 2 ["points"] bh :=by specialize sc_first_on_line
def o3:SM:=(aF (sIf (cOr (cy (cB (mUn (cS "tuple") (ac 0)))) (cy (cB (am bo (aa (ac 0) ae))))) (bf 1 (mC (.bl false))) dS) (bf 1 (cH (am bu (aa (ac 0) ae)) (af isN (am bh (aa (ac 0) ae)) (mC .non)))))
def bc:Fn:=fnM [false] 1 o3
theorem sc_is_sheet:FnScope ["thing"] ["thing"] (ah eh):=by ac_rfl
theorem l8 (B:Bl mg) (D:Def K mg "is_sheet" eh) (c:a7 P w K mg base "are_points" 3 ["things"] bo) (a:a7 P w K mg base "first_on_line" 2 ["points"] bh) (b:a7 P w K mg base "has_rising_x" 1 ["points"] bu):a7 P w K mg base "is_sheet" 4 ["thing"] bc :=by specialize sc_is_sheet
def uO:SM:=(aF (sIf (cB (af ltI (ac 1) (ao cR (aa (ac 0) ae)))) (bf 2 (af ay (ac 0) (ac 1))) dS) (bf 2 (mC (.int 0))))
def iB:Fn:=fnM [false,false] 2 uO
theorem sc_l_cell:FnScope ["_law_script","_law_k"] ["_law_script","_law_k"] (ah gl):=by ac_rfl
theorem pE (B:Bl mg) (D:Def K mg "_law_cell" gl):a7 P w K mg base "_law_cell" 1 ["_law_script","_law_k"] iB :=by specialize sc_l_cell
def xN:SM:=(aF (aX 2 (aW (aa (mC (.int 48271)) (aa (mC (.int 69621)) (aa (mC (.int 16807)) (aa (mC (.int 39373)) (aa (mC (.int 30269)) (aa (mC (.int 40014)) (aa (mC (.int 40692)) (aa (mC (.int 50021)) (aa (mC (.int 61687)) (aa (mC (.int 71993)) (aa (mC (.int 83869)) (aa (mC (.int 95561)) (aa (mC (.int 30307)) ae))))))))))))))) (aF (aX 3 (af aH (af aH (af cP (af aH (af oW (ac 0) (mC (.int 2147483647))) (mC (.int 12345))) (af ay (ac 2) (af oW (ac 1) (mC (.int 13))))) (af cP (mC (.int 977)) (ac 1))) (af cP (mC (.int 7919)) (af si (ac 1) (mC (.int 13)))))) (aF (aX 3 (af oW (ac 3) (mC (.int 1000000007)))) (bf 2 (af si (af oW (af aH (af cP (ac 3) (ac 3)) (af cP (mC (.int 48271)) (ac 1))) (mC (.int 1000000007))) (mC (.int 7)))))))
def jA:Fn:=fnM [false,false] 4 xN
theorem sc_l_mix:FnScope ["_law_cell_here","_law_k","_law_some","_law_stir"] ["_law_cell_here","_law_k"] (ah jq):=by ac_rfl
theorem sF (B:Bl mg) (D:Def K mg "_law_mix" jq):a7 P w K mg base "_law_mix" 1 ["_law_cell_here","_law_k"] jA :=by specialize sc_l_mix
def fY:SM:=(aX 3 (af aH (af cP (ac 3) (mC (.int 142857143))) (am jA (aa (ac 2) (aa (ac 4) ae)))))
def xO:SM:=(aF (aX 2 (am iB (aa (ac 0) (aa (ac 1) ae)))) (aF (sIf (cB (af eqX (af oW (ac 2) (mC (.int 2))) (mC (.int 0)))) (bf 2 (aW (aa (af si (ao absD (aa (ac 2) ae)) (mC (.int 2))) ae))) dS) (aF (aX 3 (mC (.int 0))) (aF (cE (bF dH (aa (mC (.int 40)) ae)) (aj 4) fY) (bf 2 (aW (aa (ac 3) ae)))))))
def jB:Fn:=fnM [false,false] 5 xO
theorem sc_l_box:FnScope ["_law_script","_law_k","_law_cell_here","_law_number","_law_j"] ["_law_script","_law_k"] (ah jr):=by ac_rfl
theorem sG (B:Bl mg) (D:Def K mg "_law_box" jr) (a:a7 P w K mg base "_law_cell" 1 ["_law_script","_law_k"] iB) (b:a7 P w K mg base "_law_mix" 1 ["_law_cell_here","_law_k"] jA):a7 P w K mg base "_law_box" 2 ["_law_script","_law_k"] jB :=by specialize sc_l_box
def uM:SM:=(aF (jI (fN 2 (bG (aj 2) (bG (aj 3) fO))) (ao vA (aa (af ay (ac 0) (mC (.int 0))) (aa (ac 1) ae)))) (aF (lA setD 0 (mC (.int 0)) (ac 2)) (bf 2 (ac 3))))
def aZ:Fn:=fnM [false,false] 4 uM
theorem sc_l_take:FnScope ["_law_box_here","_law_many","_law_left","_law_digit"] ["_law_box_here","_law_many"] (ah gi):=by ac_rfl
theorem pB (B:Bl mg) (D:Def K mg "_law_take" gi):a7 P w K mg base "_law_take" 1 ["_law_box_here","_law_many"] aZ :=by specialize sc_l_take
def rO:SM:=(bf 1 (cH (mUn (cS "int") (ac 0)) (nt (mUn (cS "bool") (ac 0)))))
def fL:Fn:=fnM [false] 1 rO
theorem sc_l_whole:FnScope ["_law_thing"] ["_law_thing"] (ah fF):=by ac_rfl
theorem nU (B:Bl mg) (D:Def K mg "_law_whole" fF):a7 P w K mg base "_law_whole" 1 ["_law_thing"] fL :=by specialize sc_l_whole
def rP:SM:=(bf 2 (cH (mUn (cS "bool") (ac 0)) (af eqX (ac 0) (ac 1))))
def c9:Fn:=fnM [false,false] 2 rP
theorem sc_l_truth:FnScope ["_law_found","_law_due"] ["_law_found","_law_due"] (ah fG):=by ac_rfl
theorem nV (B:Bl mg) (D:Def K mg "_law_truth" fG):a7 P w K mg base "_law_truth" 1 ["_law_found","_law_due"] c9 :=by specialize sc_l_truth
def uP:SM:=(aF (jI (fN 2 (bG (aj 3) (bG (aj 4) fO))) (ac 0)) (aF (aX 5 (af cP (af de (af ay (ac 1) (mC (.int 0))) (ac 3)) (af de (af ay (ac 2) (mC (.int 1))) (ac 4)))) (bf 3 (af de (ac 5) (af cP (af de (af ay (ac 1) (mC (.int 1))) (ac 4)) (af de (af ay (ac 2) (mC (.int 0))) (ac 3)))))))
def dm:Fn:=fnM [false,false,false] 6 uP
theorem sc_l_bend:FnScope ["_law_one","_law_two","_law_three","_law_x","_law_y","_law_wide"] ["_law_one","_law_two","_law_three"] (ah gr):=by ac_rfl
theorem pG (B:Bl mg) (D:Def K mg "_law_bend" gr):a7 P w K mg base "_law_bend" 1 ["_law_one","_law_two","_law_three"] dm :=by specialize sc_l_bend
def cQ:SM:=(sIf (cB (af eqX (am dm (aa (ac 4) (aa (ac 3) (aa (ac 1) ae)))) (mC (.int 0)))) (bf 2 (mC (.bl false))) dS)
def dD:SM:=(cE (ci (mSl slD (ac 0) eW (dh (ac 2)))) (aj 4) cQ)
def jT:SM:=(aF (cE (jW (aa (ac 0) ae)) (fN 2 (bG (aj 2) (bG (aj 3) fO))) dD) (bf 2 (mC (.bl true))))
def d5:Fn:=fnM [false,false] 5 jT
theorem sc_l_free:FnScope ["_law_found","_law_point","_law_at","_law_one","_law_two"] ["_law_found","_law_point"] (ah gk):=by ac_rfl
theorem pD (B:Bl mg) (D:Def K mg "_law_free" gk) (a:a7 P w K mg base "_law_bend" 1 ["_law_one","_law_two","_law_three"] dm):a7 P w K mg base "_law_free" 2 ["_law_found","_law_point"] d5 :=by specialize sc_l_free
def b9:M3 Bool:=(cy (cB (am d5 (aa (ac 5) (aa (aS (aa (ac 4) (aa (ac 9) ae))) ae)))))
def c3:SM:=(aX 9 (af aH (ac 9) (mC (.int 1))))
def cb:SM:=(aF (aX 4 (af aH (af aH (ac 4) (mC (.int 1))) (am aZ (aa (ac 0) (aa (mC (.int 3)) ae))))) (aF (aX 7 (af de (am aZ (aa (ac 0) (aa (mC (.int 31)) ae))) (mC (.int 15)))) (aF (aX 8 (aW (aa (ac 7) (aa (ac 7) (aa (af aH (af cP (ac 6) (ac 6)) (af si (ac 7) (mC (.int 9)))) (aa (af de (af si (ac 7) (mC (.int 9))) (af cP (ac 6) (ac 6))) ae)))))) (aF (aX 8 (af aH (ac 8) (aW (aa (af cP (af aH (af cP (ac 6) (ac 6)) (mC (.int 30))) (af de (mC (.int 1)) (af cP (mC (.int 2)) (af oW (ac 6) (mC (.int 2)))))) (aa (af cP (ac 7) (mC (.int 1000))) ae))))) (aF (aX 9 (af ay (ac 8) (ac 3))) (aF (eR b9 c3) (eS (o5 isL sJ 5 (aa (aS (aa (ac 4) (aa (ac 9) ae))) ae)))))))))
def eD:EM:=(aS (aa (af aH (af cP (af oO (mC (.int 10)) (mC (.int 12))) (ac 0)) (mC (.int 7))) (aa (af cP (af oO (mC (.int 10)) (mC (.int 9))) (ac 1)) ae)))
def c0:EM:=(cf (ci (ac 5)) (fN 2 (bG (aj 0) (bG (aj 1) fO))) dq eD [none,none])
def kO:SM:=(aF (aX 2 (af aH (mC (.int 1)) (am aZ (aa (ac 0) (aa (ac 1) ae))))) (aF (aX 3 (am aZ (aa (ac 0) (aa (mC (.int 6)) ae)))) (aF (aX 4 (af de (am aZ (aa (ac 0) (aa (mC (.int 9)) ae))) (mC (.int 4)))) (aF (aX 5 (aW ae)) (aF (cE (bF dH (aa (ac 2) ae)) (aj 6) cb) (aF (sIf (cB (af eqX (am aZ (aa (ac 0) (aa (mC (.int 6)) ae))) (mC (.int 5)))) (aX 5 c0) dS) (bf 2 (ao lh (aa (ac 5) ae)))))))))
def dZ:Fn:=fnM [false,false] 10 kO
theorem sc_l_sheet:FnScope ["_law_box_here","_law_most","_law_many","_law_kind","_law_x","_law_found","_law_k","_law_given","_law_some","_law_y"] ["_law_box_here","_law_most"] (ah fH):=by ac_rfl
theorem nW (B:Bl mg) (D:Def K mg "_law_sheet" fH) (a:a7 P w K mg base "_law_free" 2 ["_law_found","_law_point"] d5) (b:a7 P w K mg base "_law_take" 1 ["_law_box_here","_law_many"] aZ):a7 P w K mg base "_law_sheet" 3 ["_law_box_here","_law_most"] dZ :=by specialize sc_l_sheet
def qk:SM:=(aF (aX 1 (aW (aa (mC .non) (aa (mC (.bl true)) (aa (mC (.bl false)) (aa (mC (.int 0)) (aa (mUn cF (mC (.int 1))) (aa (mC (.int 1)) (aa (mC (.str "")) (aa (mC (.str "1")) (aa (aS ae) (aa (aW ae) (aa (aS (aa (mC (.int 0)) ae)) (aa (aS (aa (mC (.int 0)) (aa (mC (.int 1)) ae))) (aa (aW (aa (mC (.int 0)) ae)) (aa (AM (.inr "a") 1) ae)))))))))))))))) (aF (aX 1 (af aH (ac 1) (aW (aa (af oO (mC (.int 10)) (mC (.int 29))) (aa (aS (aa (aS (aa (mC (.int 0)) (aa (mC (.int 0)) ae))) ae)) (aa (aS (aa (aS (aa (mC (.int 0)) (aa (mC (.int 1)) ae))) (aa (aS (aa (mC (.int 1)) (aa (mC (.int 2)) ae))) ae))) (aa (mC (.str "0,0")) (aa (aS (aa (mC (.int 0)) (aa (mC (.int 1)) (aa (mC (.int 2)) ae)))) (aa (AL [0,1] 2) ae))))))))) (bf 1 (af ay (ac 1) (am aZ (aa (ac 0) (aa (mC (.int 20)) ae)))))))
def jz:Fn:=fnM [false] 2 qk
theorem sc_l_odd:FnScope ["_law_box_here","_law_some"] ["_law_box_here"] (ah jp):=by ac_rfl
theorem sE (B:Bl mg) (D:Def K mg "_law_odd" jp) (a:a7 P w K mg base "_law_take" 1 ["_law_box_here","_law_many"] aZ):a7 P w K mg base "_law_odd" 2 ["_law_box_here"] jz :=by specialize sc_l_odd
def dM:EM:=(am fL (aa (ac 0) ae))
def dL:EM:=(cf (ci (ac 1)) (aj 0) dq dM [none])
def bp:SM:=(sIf (cOr (cy (cB (mUn (cS "tuple") (ac 1)))) (cOr (cB (af neX (ao cR (aa (ac 1) ae)) (mC (.int 2)))) (cy (cB (ao sL (aa dL ae)))))) (bf 1 (mC (.bl false))) dS)
def cK:EM:=(af ay (ac 0) (mC (.int 0)))
def dJ:EM:=(cf (ci (ac 0)) (aj 0) dq cK [none])
def oZ:SM:=(aF (cE (ci (ac 0)) (aj 1) bp) (bf 1 (cH (cG leI leI (mC (.int 1)) (ao cR (aa (ac 0) ae)) (mC (.int 24))) (af eqX (ao lsD (aa dJ ae)) (ao cR (aa (ac 0) ae))))))
def bz:Fn:=fnM [false] 2 oZ
theorem sc_l_points:FnScope ["_law_things","_law_thing"] ["_law_things"] (ah ee):=by ac_rfl
theorem l6 (B:Bl mg) (D:Def K mg "_law_points" ee) (a:a7 P w K mg base "_law_whole" 1 ["_law_thing"] fL):a7 P w K mg base "_law_points" 2 ["_law_things"] bz :=by specialize sc_l_points
def bW:SM:=(sIf (cB (af eqX (am dm (aa (af ay (ac 0) (ac 1)) (aa (af ay (ac 0) (ac 2)) (aa (af ay (ac 0) (ac 3)) ae)))) (mC (.int 0)))) (bf 1 (aS (aa (af ay (ac 0) (ac 1)) (aa (af ay (ac 0) (ac 2)) (aa (af ay (ac 0) (ac 3)) ae))))) dS)
def bJ:SM:=(cE (bF fW (aa (af aH (ac 2) (mC (.int 1))) (aa (ao cR (aa (ac 0) ae)) ae))) (aj 3) bW)
def bV:SM:=(cE (bF fW (aa (af aH (ac 1) (mC (.int 1))) (aa (ao cR (aa (ac 0) ae)) ae))) (aj 2) bJ)
def uN:SM:=(aF (cE (bF dH (aa (ao cR (aa (ac 0) ae)) ae)) (aj 1) bV) (bf 1 (mC .non)))
def fy:Fn:=fnM [false] 4 uN
theorem sc_l_line:FnScope ["_law_points_here","_law_i","_law_j","_law_k"] ["_law_points_here"] (ah gj):=by ac_rfl
theorem pC (B:Bl mg) (D:Def K mg "_law_line" gj) (a:a7 P w K mg base "_law_bend" 1 ["_law_one","_law_two","_law_three"] dm):a7 P w K mg base "_law_line" 2 ["_law_points_here"] fy :=by specialize sc_l_line
def lO:SM:=(aF (sIf (cOr (cy (cB (mUn (cS "tuple") (ac 0)))) (cy (cB (am bz (aa (ac 0) ae))))) (bf 1 (mC (.bl false))) dS) (bf 1 (cH (af eqX (ao o6 (aa (ac 0) ae)) (ao lu (aa (ac 0) ae))) (af isN (am fy (aa (ac 0) ae)) (mC .non)))))
def cu:Fn:=fnM [false] 1 lO
theorem sc_l_is_sheet:FnScope ["_law_thing"] ["_law_thing"] (ah cY):=by ac_rfl
theorem j8 (B:Bl mg) (D:Def K mg "_law_is_sheet" cY) (b:a7 P w K mg base "_law_line" 2 ["_law_points_here"] fy) (a:a7 P w K mg base "_law_points" 2 ["_law_things"] bz):a7 P w K mg base "_law_is_sheet" 3 ["_law_thing"] cu :=by specialize sc_l_is_sheet
def nk:SM:=(aF (aX 3 (am aZ (aa (ac 0) (aa (ao cR (aa (ac 1) ae)) ae)))) (aF (jI (fN 2 (bG (aj 4) (bG (aj 5) fO))) (af ay (ac 1) (ac 3))) (aF (tL 6 7 (aa (af ay (ac 1) (mC (.int 0))) (aa (af ay (ac 1) (mUn cF (mC (.int 1)))) ae))) (aF (aX 8 (aS (aa (af de (af cP (mC (.int 2)) (af ay (ac 7) (mC (.int 0)))) (af ay (ac 6) (mC (.int 0)))) (aa (af de (af cP (mC (.int 2)) (af ay (ac 7) (mC (.int 1)))) (af ay (ac 6) (mC (.int 1)))) ae)))) (aF (aX 9 (aW (aa (aW ae) (aa (aW (aa (aS (aa (ac 4) (aa (ac 5) ae))) (aa (aS (aa (ac 4) (aa (ac 5) ae))) ae))) (aa (aW (aa (aS (aa (ac 4) (aa (af aH (ac 5) (mC (.int 1))) ae))) ae)) (aa (aW (aa (aS (aa (af aH (ac 4) (mC (.int 1))) (aa (ac 5) ae))) ae)) (aa (aW (aa (aS (aa (ac 4) (aa (af eqX (ac 5) (mC (.int 1))) ae))) ae)) (aa (aW (aa (aW (aa (ac 4) (aa (ac 5) ae))) ae)) (aa (aW (aa (aS (aa (ac 4) (aa (ac 5) (aa (mC (.int 0)) ae)))) ae)) (aa (aW (aa (ac 2) ae)) (aa (aW (aa (aS (aa (ac 4) (aa (mUn cF (ac 5)) ae))) ae)) ae))))))))))) (aF (aX 10 (am aZ (aa (ac 0) (aa (mC (.int 13)) ae)))) (aF (sIf (cB (af ltI (ac 10) (mC (.int 9)))) (bf 3 (af aH (af aH (mSl slD (ac 1) eW (dh (ac 3))) (ao lh (aa (af ay (ac 9) (ac 10)) ae))) (mSl slD (ac 1) (dh (af aH (ac 3) (mC (.int 1)))) eW))) dS) (bf 3 (af ay (aW (aa (kQ (ac 1) (dh (mUn cF (mC (.int 1))))) (aa (ao o6 (aa (ac 1) ae)) (aa (af aH (ac 1) (aS (aa (ac 8) ae))) (aa (aS (aa (ac 1) ae)) ae))))) (af de (ac 10) (mC (.int 9))))))))))))
def fA:Fn:=fnM [false,false,false] 11 nk
theorem sc_l_bent:FnScope ["_law_box_here","_law_sheet_here","_law_odd_here","_law_at","_law_x","_law_y","_law_first","_law_last","_law_half","_law_news","_law_kind"] ["_law_box_here","_law_sheet_here","_law_odd_here"] (ah gq):=by ac_rfl
theorem pF (B:Bl mg) (D:Def K mg "_law_bent" gq) (a:a7 P w K mg base "_law_take" 1 ["_law_box_here","_law_many"] aZ):a7 P w K mg base "_law_bent" 2 ["_law_box_here","_law_sheet_here","_law_odd_here"] fA :=by specialize sc_l_bent
def uL:EM:=(aS (aa (ac 0) (aa (af cP (ac 0) (ac 0)) ae)))
def ni:EM:=(cf (bF dH (aa (mC (.int 25)) ae)) (aj 0) dq uL [none])
def hE:SM:=(eS (o5 isL sJ 6 (aa (am fA (aa (ac 3) (aa (ac 4) (aa (ac 5) ae)))) ae)))
def fc:SM:=(aF (aX 9 (ao lC (aa (ac 8) ae))) (sIf (cOr (cy (cB (am c9 (aa (am bc (aa (ac 8) ae)) (aa (am cu (aa (ac 8) ae)) ae))))) (cB (af neX (ao lC (aa (ac 8) ae)) (ac 9)))) (bf 1 (mC (.bl false))) dS))
def gJ:SM:=(aF (aX 3 (am jB (aa (ac 0) (aa (ac 2) ae)))) (aF (aX 4 (am dZ (aa (ac 3) (aa (mC (.int 9)) ae)))) (aF (aX 5 (am jz (aa (ac 3) ae))) (aF (aX 6 (aW (aa (ac 4) (aa (ac 5) (aa (aS ae) (aa (aS (aa (ac 5) ae)) ae)))))) (aF (cE (bF dH (aa (mC (.int 4)) ae)) (aj 7) hE) (cE (ci (ac 6)) (aj 8) fc))))))
def yR:SM:=(aF (aX 1 (ao lh (aa ni ae))) (aF (sIf (cOr (cy (cB (am c9 (aa (am bc (aa (ac 1) ae)) (aa (mC (.bl false)) ae))))) (cy (cB (am c9 (aa (am bc (aa (mSl slD (ac 1) (dh (mC (.int 1))) eW) ae)) (aa (mC (.bl true)) ae)))))) (bf 1 (mC (.bl false))) dS) (aF (cE (bF dH (aa (ao yQ (aa (mC (.int 1)) (aa (ao yP (aa (ao cR (aa (ac 0) ae)) (aa (mC (.int 6)) ae))) ae))) ae)) (aj 2) gJ) (bf 1 (mC (.bl true))))))
def y7:Fn:=fnM [false] 10 yR
theorem sc_law:FnScope ["_law_script","_law_great","_law_k","_law_box_here","_law_sheet_here","_law_odd_here","_law_things","_law_go","_law_thing","_law_kept"] ["_law_script"] (ah eQ):=by ac_rfl
theorem x4 {f:Addr} {fd:FuncData} (B:Bl mg) (D:Fun K "law" "law" eQ f fd) (d:a7 P w K mg base "_law_bent" 2 ["_law_box_here","_law_sheet_here","_law_odd_here"] fA) (e:a7 P w K mg base "_law_box" 2 ["_law_script","_law_k"] jB) (a:a7 P w K mg base "_law_is_sheet" 3 ["_law_thing"] cu) (g:a7 P w K mg base "_law_odd" 2 ["_law_box_here"] jz) (c:a7 P w K mg base "_law_sheet" 3 ["_law_box_here","_law_most"] dZ) (b:a7 P w K mg base "_law_truth" 1 ["_law_found","_law_due"] c9) (h:a7 P w K mg base "is_sheet" 4 ["thing"] bc):FnOk P w K mg base CX0 5 f fd ["_law_script"] (qZ K y7) :=
 AY (k:=4) D sc_law rfl rfl fun cdv A outer s H E f G hr hp =>
  have nd:=sc_law.nd;by and_intros
end
theorem rq (p:Pt):cJ [(Pd p,.z)]=some (.ok (.bl true,.z),[(Pd p,.z)]):=by
 apply aY (ρ:=[some (Pd p,.z)]) rfl rfl
 ·nomatch [(run_whole _)]
 ·rfl
theorem iq {f e:L3.D->L3.D->Option (L3.D × Fl)} {ma mb mc:EM} {ra rb rc:R3} {ρ ρ1 ρ2 ρ3:Sto} {da db b c d:L3.D} {fl a:Fl} (h1:ma ρ=some (.ok ra,ρ1)) (h2:mb ρ1=some (.ok rb,ρ2)) (h3:der ra ρ2=some (.ok da,ρ2)) (g:der rb ρ2=some (.ok db,ρ2)) (k:f da db=some (.bl true,fl)) (h:mc ρ2=some (.ok rc,ρ3)) (i:der rb ρ3=some (.ok b,ρ3)) (l:der rc ρ3=some (.ok c,ρ3)) (j:e b c=some (d,a)):cG f e ma mb mc ρ=some (.ok (.val d a),ρ3):=by
 simp only [cG,ad,h1,h2,h3,g,k,aO,Option.bind_some,asB,BZ,if_true,h,i,l,j]
theorem tV (ps:List Pt) (h0:0 < ps.length) (h1:ps.length<=24):bo [(Shd ps,.z)]=some (.ok (.bl true,.z),[(Shd ps,.z)]):=by
 obtain ⟨τ',e,a,rfl⟩:=cr (bnd:=aj 0) (c:=dq) (elt:=bB) (fun τ=>∃ a,τ=[a]) (fun _=>true) (fun _=>.bl true) (ds:=ps.map Pd) (τ:=[none]) ⟨none,rfl⟩ (by
  rintro d hd τ ⟨a,rfl⟩
  obtain ⟨p,j,rfl⟩:=BJ.mp hd
  exact ⟨[some (Pd p,.z)],_,rfl,rfl,(fun h=>by cases h),fun _=>⟨.val (.bl true) .z,[some (Pd p,.z)],(.bl true,.z),[some (Pd p,.z)],by unfold bB;(nomatch [(rq _)]),rfl,rfl,_,rfl⟩⟩)
 have f:=lf (ds:=((ps.map Pd).filter fun _=>true).map fun _=>.bl true) (fun d hd=>by obtain ⟨_,_,rfl⟩:=BJ.mp hd;rfl)
 generalize ((ps.map Pd).filter fun _=>true).map (fun _=>L3.D.bl true)=out at *
 have b:cU [some (Shd ps,.z)]=some (.ok (.val (.lst out) .u),[some (Shd ps,.z)]):=bO (im:=ci (ac 0)) (ix:=[none]) (ρ1:=[some (Shd ps,.z)]) (ρ2:=[some (Shd ps,.z)]) (ds:=ps.map Pd) (rs:=[.pl 0]) rfl e (by simp;omega) rfl
 have i:leI (.int 1) (.int ((ps.map Pd).length:Int))=some (.bl true,.z):=by simp [bS];omega
 have g:leI (.int ((ps.map Pd).length:Int)) (.int 24)=some (.bl true,.z):=by simp [bS];omega
 apply aY (ρ:=[some (Shd ps,.z)]) rfl rfl
 ·apply cj
  ·apply dE
   ·apply iq
    ·exact i_c
    ·nofun
    ·rfl
    ·rfl
    ·exact i
    ·exact i_c
    ·rfl
    ·rfl
    ·exact g
   ·rfl
   ·rfl
   ·(repeat' (first | with_reducible exact b | infer_instance | exact f | eq_refl))
  ·rfl
 ·rfl
theorem aV {xs:List L3.D} {k:Int} {d:L3.D} (h:L2.atI xs k=some d):ay (.tup xs) (.int k)=some (d,.z):=by
 show orD ixD jf (.tup xs) (.int k)=_
 simp [orD,ixD,h]
theorem lr {xs:List L3.D} {k:Int} {d:L3.D} (h:L2.atI xs k=some d):ay (.lst xs) (.int k)=some (d,.z):=by
 show orD ixD jf (.lst xs) (.int k)=_
 simp [orD,ixD,h]
theorem tN (ps:List Pt) (h0:0 < ps.length) (h1:ps.length<=24) (R:Rising ps):bu [(Shd ps,.z)]=some (.ok (.bl true,.z),[(Shd ps,.z)]):=by
 obtain ⟨τ',e,a,rfl⟩:=cr (bnd:=aj 0) (c:=dq) (elt:=bj) (fun τ=>∃ a,τ=[a,some (Shd ps,.z)]) (fun _=>true) (fun _=>.bl true) (ds:=aQ 0 (ps.length - 1)) (τ:=[none,some (Shd ps,.z)]) ⟨none,rfl⟩ (by
  rintro d hd τ ⟨a,rfl⟩
  obtain ⟨i,hi⟩:=List.getElem?_of_mem hd
  obtain ⟨hi,rfl⟩:=bA hi
  have f:ps[i]?=some ps[i]:=BA _
  have g:ps[i+1]?=some ps[i+1]:=BA _
  have b:=R i (i+1) _ _ (by omega) f g
  have a1:ay (Shd ps) (.int (0+(i:Int)))=some (Pd ps[i],.z):=aV (by rw [Int.zero_add];exact eL f)
  have a2:ay (Shd ps) (.int (0+(i:Int)+1))=some (Pd ps[i+1],.z):=aV (by rw [Int.zero_add];exact eL g)
  have k:ltI (.int ps[i].1) (.int ps[i+1].1)=some (.bl true,.z):=by simp [bS,b]
  generalize (0+(i:Int))=j at *
  refine ⟨[some (.int j,.z),some (Shd ps,.z)],_,rfl,rfl,(fun h=>by cases h),fun _=>⟨.val (.bl true) .z,[some (.int j,.z),some (Shd ps,.z)],(.bl true,.z),[some (.int j,.z),some (Shd ps,.z)],?_,rfl,rfl,_,rfl⟩⟩
  unfold bj
  (exists a1,a2,k))
 have o:((ps.length:Int) - 1).toNat=ps.length - 1:=by omega
 have n:dH [.int (((ps.map Pd).length:Int) - 1)]=some (aQ 0 (ps.length - 1)):=dw (by simp;omega) (by simp)
 have l:=lf (ds:=((aQ 0 (ps.length - 1)).filter fun _=>true).map fun _=>.bl true) (fun d hd=>by obtain ⟨_,_,rfl⟩:=BJ.mp hd;rfl)
 generalize ((aQ 0 (ps.length - 1)).filter fun _=>true).map (fun _=>L3.D.bl true)=out at *
 have m:ce [some (Shd ps,.z)]=some (.ok (.val (.lst out) .u),[some (Shd ps,.z)]):=bO (ρ1:=[some (Shd ps,.z)]) (rs:=[]) (by (repeat' (first | with_reducible apply dW (h3:=n) | infer_instance | eq_refl))) e (by rw [b8];omega) rfl
 apply aY (ρ:=[some (Shd ps,.z)]) rfl rfl
 ·unfold ff;(repeat' (first | with_reducible exact m | infer_instance | exact l | eq_refl))
 ·rfl
theorem kC (p q r:Int × Int) (h1:-18446744073709551616 < q.1 - p.1/\q.1 - p.1 < 18446744073709551616) (h2:-18446744073709551616 < q.2 - p.2/\q.2 - p.2 < 18446744073709551616):mh [(Pd p,.z),(Pd q,.z),(Pd r,.z)]=some (.ok (.int (aL p q r),.z),[(Pd p,.z),(Pd q,.z),(Pd r,.z)]):=by
 apply aY (ρ:=[some (Pd p,.z),some (Pd q,.z),some (Pd r,.z),none]) rfl rfl
 ·apply ak
  ·exists dC h1
  ·exists dC h2
 ·rfl
theorem sT {n i j:Nat} (xs:List L3.D) (k:n<=25) (l:j < n) (elt:EM) (he:∀ (a b c:L3.D),elt [some (c,.z),some (a,.z),some (b,.z)]=some (.ok (.val (.tup [a,b,c]) .z),[some (c,.z),some (a,.z),some (b,.z)])) :
  cf (bF fW (aa (af aH (ac 3) (mC (.int 1))) (aa (ac 0) ae))) (aj 0) dq elt [none,some 2,some 3] [some (.int n,.z),some (.lst xs,.u),some (.int i,.z),some (.int j,.z)]=some (.ok (.val (.lst ((ke i j (n - (j+1))).map Td)) .u),[some (.int n,.z),some (.lst xs,.u),some (.int i,.z),some (.int j,.z)]):=by
 obtain ⟨τ',e,a,rfl⟩:=cr (bnd:=aj 0) (c:=dq) (elt:=elt) (fun τ=>∃ a,τ=[a,some (.int i,.z),some (.int j,.z)]) (fun _=>true) (fun d=>.tup [.int i,.int j,d]) (ds:=aQ ((j:Int)+1) (n - (j+1))) (τ:=[none,some (.int i,.z),some (.int j,.z)]) ⟨none,rfl⟩ (by
  rintro d hd τ ⟨a,rfl⟩
  exact ⟨[some (d,.z),some (.int i,.z),some (.int j,.z)],_,rfl,rfl,(fun h=>by cases h),fun _=>⟨_,_,(.tup [.int i,.int j,d],.z),_,he _ _ _,rfl,rfl,_,rfl⟩⟩)
 have f:((aQ ((j:Int)+1) (n - (j+1))).filter fun _=>true).map (fun d=>L3.D.tup [.int i,.int j,d])=(ke i j (n - (j+1))).map Td:=by
  rw [B9.mpr (fun _ _=>rfl)]
  simp [aQ,ke,Function.comp_def]
 rw [f] at e
 have g:fW [.int ((j:Int)+1),.int n]=some (aQ ((j:Int)+1) (n - (j+1))):=js (by omega) (by omega) (by omega)
 exact bO (rs:=[]) (by (repeat' (first | with_reducible apply dW (h3:=g) | infer_instance | eq_refl))) e (by rw [b8];omega) rfl
theorem A0 {A B:List L3.D} (h:A.length+B.length<=16777216):vo (.lst A) [.lst B]=some (.lst (A ++ B),.non):=by simp [vo,h]
theorem vV {A:List L3.D} {d:L3.D} (h:A.length < 16777216):sJ (.lst A) [d]=some (.lst (A ++ [d]),.non):=by simp [sJ,h]
theorem lW {A B:List L3.D} (h:A.length+B.length<=16777216):aH (.tup A) (.tup B)=some (.tup (A ++ B),.z):=by simp [orD,bS,pq,pk,pv,h]
theorem qX {n:Nat} (h:n<=25) {b1 b2:SM} (h2:b2=cE (bF fW (aa (af aH (ac 2) (mC (.int 1))) (aa (ac 0) ae))) (aj 3) b1)
  (h1:∀ (i j:Nat) (xs:List L3.D),j < n->xs.length<=20000->b1 [some (.int n,.z),some (.lst xs,.u),some (.int i,.z),some (.int j,.z)]=some (.ok .nx,[some (.int n,.z),some (.lst (xs ++ (ke i j (n - (j+1))).map Td),.u),some (.int i,.z),some (.int j,.z)])) :
  ∃ v2 v3,cE (bF dH (aa (ac 0) ae)) (aj 2) b2 [some (.int n,.z),some (.lst [],.u),none,none]=some (.ok .nx,[some (.int n,.z),some (.lst ((mr n).map Td),.u),v2,v3]):=by
 have inner:∀ (i:Nat) (xs:List Tri) (v3:Option (L3.D × Fl)),i < n->xs.length<=15625->∃ a,b2 [some (.int n,.z),some (.lst (xs.map Td),.u),some (.int i,.z),v3]=some (.ok .nx,[some (.int n,.z),some (.lst ((xs ++ iG n i (n - (i+1))).map Td),.u),some (.int i,.z),a]):=by
  intro i xs v3 hi l
  obtain ⟨ρ',e,a,rfl⟩:=cq (bnd:=aj 3) (b:=b1) (fun m ρ=>∃ v3,ρ=[some (.int n,.z),some (.lst ((xs ++ iG n i m).map Td),.u),some (.int i,.z),v3]) (ds:=aQ ((i:Int)+1) (n - (i+1))) (ρ:=[some (.int n,.z),some (.lst (xs.map Td),.u),some (.int i,.z),v3]) (k:=0) ⟨v3,by simp [iG]⟩ (by
   rintro m d ρ hd ⟨v3,rfl⟩
   obtain ⟨hm,rfl⟩:=bA hd
   have f:((xs ++ iG n i m).map Td).length<=20000:=by
    have:=oF (n:=n) (i:=i) (m:=m) h (by omega)
    simp only [BF,BV]
    omega
   have c:=h1 i (i+1+m) ((xs ++ iG n i m).map Td) (by omega) f
   rw [show ((i+1+m:Nat):Int)=(i:Int)+1+m by omega,<- List.map_append,List.append_assoc,<- kD] at c
   exact ⟨_,_,by rw [BT];rfl,.inl c,_,by rw [BT]⟩)
  refine ⟨a,?_⟩
  rw [b8,BT] at e
  have g:fW [.int ((i:Int)+1),.int n]=some (aQ ((i:Int)+1) (n - (i+1))):=js (by omega) (by omega) (by omega)
  rw [h2]
  apply dF
  ·(repeat' (first | with_reducible apply dW (h3:=g) | infer_instance | eq_refl))
  ·rfl
  ·exact e
 obtain ⟨ρ',e,v2,v3,rfl⟩:=cq (bnd:=aj 2) (b:=b2) (fun m ρ=>∃ v2 v3,ρ=[some (.int n,.z),some (.lst ((lB n m).map Td),.u),v2,v3]) (ds:=aQ 0 n) (ρ:=[some (.int n,.z),some (.lst [],.u),none,none]) (k:=0) ⟨none,none,rfl⟩ (by
  rintro m d ρ hd ⟨v2,v3,rfl⟩
  obtain ⟨hm,rfl⟩:=bA hd
  rw [BT,Int.zero_add]
  obtain ⟨a,e⟩:=inner m (lB n m) v3 hm (oG h (by omega))
  rw [<- kE] at e
  exact ⟨_,_,rfl,.inl e,_,_,rfl⟩)
 rw [b8,BT] at e
 have g:dH [.int (n:Int)]=some (aQ 0 n):=dw (by omega) (by omega)
 refine ⟨v2,v3,?_⟩
 apply dF
 ·(repeat' (first | with_reducible apply dW (h3:=g) | infer_instance | eq_refl))
 ·rfl
 ·exact e
theorem jJ (n:Nat) (d:n<=25):iA [(.int n,.z)]=some (.ok (.lst ((mr n).map Td),.u),[(.int n,.z)]):=by
 obtain ⟨v2,v3,e⟩:=qX (n:=n) d (b1:=eZ) (b2:=jb) rfl (by
  intro i j xs g h
  have c:=sT (n:=n) (i:=i) (j:=j) xs d g eY (fun a b c=>by unfold eY;(nofun))
  have f:xs.length+((ke i j (n - (j+1))).map Td).length<=16777216:=by
   rw [BF,mO];omega
  unfold eZ ja
  (repeat' (first | with_reducible exact c | infer_instance | exact A0 f | eq_refl)))
 apply aY (ρ:=[some (.int n,.z),none,none,none]) rfl rfl
 ·apply ak
  ·nofun
  ·apply ak
   ·exact e
   ·nofun
 ·rfl
theorem nG {S:List L3.D} {i j k:Int} {p q r:Pt} {v2:Option (L3.D × Fl)} (a1:ay (.tup S) (.int i)=some (Pd p,.z)) (a2:ay (.tup S) (.int j)=some (Pd q,.z)) (n:ay (.tup S) (.int k)=some (Pd r,.z)) (f:Small p) (e:Small q) (h0:aL p q r ≠ 0):aI [some (.tup S,.z),some (.tup [.int i,.int j,.int k],.z),v2]=some (.ok .nx,[some (.tup S,.z),some (.tup [.int i,.int j,.int k],.z),some (.tup [Pd p,Pd q,Pd r],.z)]):=by
 have b:=kC p q r (Small.sub f e).1 (Small.sub f e).2
 have one:∀ (x d:L3.D) (a:Option (L3.D × Fl)),ay (.tup S) x=some (d,.z)->ba [some (x,.z),some (.tup S,.z)]=some (.ok (.val d .z),[some (x,.z),some (.tup S,.z)]):=fun x d a h=>by unfold ba;(exists h)
 have c:bR [some (.tup S,.z),some (.tup [.int i,.int j,.int k],.z),v2]=some (.ok (.val (.lst [Pd p,Pd q,Pd r]) .u),[some (.tup S,.z),some (.tup [.int i,.int j,.int k],.z),v2]):=by
  refine bO (ρ1:=[some (.tup S,.z),some (.tup [.int i,.int j,.int k],.z),v2]) (ρ2:=[some (.tup S,.z),some (.tup [.int i,.int j,.int k],.z),v2]) (ds:=[.int i,.int j,.int k]) (rs:=[.pl 1]) (τ:=[some (.int k,.z),some (.tup S,.z)]) rfl ?_ (by simp) rfl
  have e1:=one (.int i) _ none a1
  have m:=one (.int j) _ none a2
  have l:=one (.int k) _ none n
  have g:∀ d a,aj 0 d [a,some (L3.D.tup S,.z)]=some [some (d,.z),some (.tup S,.z)]:=fun _ _=>rfl
  have cs:nQ [none,some 0] (aA bP (us [some (L3.D.tup S,.z),some (.tup [.int i,.int j,.int k],.z),v2] (pls [R3.pl 1])) [some (.tup S,.z),some (.tup [.int i,.int j,.int k],.z),v2])=[none,some (.tup S,.z)]:=rfl
  rw [cs]
  simp only [bM,g,dq,ad,aN,if_true,e1,m,l,cL,nol]
 unfold aI
 apply ak
 ·(repeat' (first | with_reducible exact c | infer_instance | eq_refl))
 ·apply dX
  ·nomatch [b]
  ·exact BR h0
  ·rfl
theorem pX (ps:List Pt) (n:ps.length<=24) (g:∀ p ∈ ps,Small p) (i:NoLine ps):bh [(Shd ps,.z)]=some (.ok (.non,.z),[(Shd ps,.z)]):=by
 have a:=jJ ps.length (by omega)
 rw [show (ps.length:Int)=((ps.map Pd).length:Int) by rw [BF]] at a
 obtain ⟨ρ',e,v1,v2,rfl⟩:=cq (bnd:=aj 1) (b:=aI) (fun _ ρ=>∃ v1 v2,ρ=[some (Shd ps,.z),v1,v2]) (ds:=(mr ps.length).map Td) (ρ:=[some (Shd ps,.z),none,none]) (k:=0) ⟨none,none,rfl⟩ (by
  rintro m d ρ hd ⟨v1,v2,rfl⟩
  rw [BK,Bw] at hd
  obtain ⟨t,a,rfl⟩:=hd
  obtain ⟨j,l,o⟩:=nc (BH a)
  have c:ps[t.1]?=some (ps[t.1]'(by omega)):=BA _
  have f:ps[t.2.1]?=some (ps[t.2.1]'(by omega)):=BA _
  have h:ps[t.2.2]?=some (ps[t.2.2]'(by omega)):=BA _
  have b:=nG (v2:=v2) (aV (eL c)) (aV (eL f)) (aV (eL h)) (g _ (BH c)) (g _ (BH f)) (i _ _ _ _ _ _ j l c f h)
  exact ⟨[some (Shd ps,.z),some (Td t,.z),v2],_,rfl,.inl b,_,_,rfl⟩)
 apply aY (ρ:=[some (Shd ps,.z),none,none]) rfl rfl
 ·apply ak
  ·apply dF
   ·nomatch [a]
   ·rfl
   ·exact e
  ·nofun
 ·rfl
theorem mL {ps:List Pt} (g:GoodSh ps):bc [(Shd ps,.z)]=some (.ok (.bl true,.z),[(Shd ps,.z)]):=by
 have h1:=tV ps g.pos g.most
 have h2:=tN ps g.pos g.most g.rising
 have h3:=pX ps g.most g.small g.noline
 apply aY (ρ:=[some (Shd ps,.z)]) rfl rfl
 ·apply ak
  ·apply dX
   ·nomatch [h1]
   ·rfl
   ·rfl
  ·nomatch [h2,h3]
 ·rfl
theorem c6 (c:Int) (m:Int) (h:0 < m):0<=c % m/\c % m < m:=⟨Int.emod_nonneg _ (by omega),Int.emod_lt_of_pos _ h⟩
theorem eT (n m:Int) (h:0 < m/\m < 1073741824):aZ [(.lst [.int n],.u),(.int m,.z)]=some (.ok (.int (n % m),.z),[(.lst [.int (n / m)],.u),(.int m,.z)]):=by
 have hd:vA [.int n,.int m]=some (.tup [.int (n / m),.int (n % m)],.z):=by simp [c2,ig,h]
 apply aY (ρ:=[some (.lst [.int n],.u),some (.int m,.z),none,none]) rfl rfl
 ·apply ak
  ·exists hd
  ·apply ak
   ·nofun
   ·nofun
 ·rfl
theorem mM (p q r:Int × Int) (h1:-18446744073709551616 < q.1 - p.1/\q.1 - p.1 < 18446744073709551616) (h2:-18446744073709551616 < q.2 - p.2/\q.2 - p.2 < 18446744073709551616):dm [(Pd p,.z),(Pd q,.z),(Pd r,.z)]=some (.ok (.int (aL p q r),.z),[(Pd p,.z),(Pd q,.z),(Pd r,.z)]):=by
 apply aY (ρ:=[some (Pd p,.z),some (Pd q,.z),some (Pd r,.z),none,none,none]) rfl rfl
 ·apply ak
  ·nofun
  apply ak
  ·exists dC h1
  ·exists dC h2
 ·rfl
theorem tR (ns:List Int) (k:Nat):∃ n:Int,iB [(.fls (ns.map .int),.z),(.int k,.z)]=some (.ok (.int n,.z),[(.fls (ns.map .int),.z),(.int k,.z)]):=by
 by_cases h:k < ns.length
 ·refine ⟨ns[k],?_⟩
  have a:ay (.fls (ns.map .int)) (.int (k:Int))=some (.int ns[k],.z):=by
   have:L2.atI (ns.map L3.D.int) (k:Int)=some (.int ns[k]):=iz (by simp [h])
   simp [orD,ixD,this]
  have b:(k:Int) < ((ns.map L3.D.int).length:Int):=by simp;omega
  generalize (k:Int)=kk at *
  apply aY (ρ:=[some (.fls (ns.map .int),.z),some (.int kk,.z)]) rfl rfl
  ·apply eP
   apply fQ
   ·nofun
   ·exact BQ b
   ·exists a
  ·rfl
 ·refine ⟨0,?_⟩
  have b:¬ (k:Int) < ((ns.map L3.D.int).length:Int):=by simp;omega
  generalize (k:Int)=kk at *
  apply aY (ρ:=[some (.fls (ns.map .int),.z),some (.int kk,.z)]) rfl rfl
  ·apply ak
   ·apply dX
    ·nofun
    ·exact BR b
    ·rfl
   ·nofun
  ·rfl
theorem wL (c j:Int):∃ n:Int,jA [(.int c,.z),(.int j,.z)]=some (.ok (.int n,.z),[(.int c,.z),(.int j,.z)]):=by
 have a:=c6 c 2147483647 (by decide)
 have b:=c6 j 13 (by decide)
 obtain ⟨m,hm⟩:∃ m:Nat,j % 13=m:=⟨(j % 13).toNat,by omega⟩
 have e:m < 13:=by omega
 have d:∃ v:Int,ay (.lst [.int 48271,.int 69621,.int 16807,.int 39373,.int 30269,.int 40014,.int 40692,.int 50021,.int 61687,.int 71993,.int 83869,.int 95561,.int 30307]) (.int (j % 13))=some (.int v,.z):=by
  rw [hm]
  clear hm
  match m,e with
  | 0,_=>exact ⟨_,rfl⟩
  | 1,_=>exact ⟨_,rfl⟩
  | 2,_=>exact ⟨_,rfl⟩
  | 3,_=>exact ⟨_,rfl⟩
  | 4,_=>exact ⟨_,rfl⟩
  | 5,_=>exact ⟨_,rfl⟩
  | 6,_=>exact ⟨_,rfl⟩
  | 7,_=>exact ⟨_,rfl⟩
  | 8,_=>exact ⟨_,rfl⟩
  | 9,_=>exact ⟨_,rfl⟩
  | 10,_=>exact ⟨_,rfl⟩
  | 11,_=>exact ⟨_,rfl⟩
  | 12,_=>exact ⟨_,rfl⟩
 obtain ⟨v,f⟩:=d
 have c1:-18446744073709551616 < c % 2147483647+12345/\c % 2147483647+12345 < 18446744073709551616:=by omega
 have c2:∀ z:Int,-18446744073709551616 < z % 1000000007/\z % 1000000007 < 18446744073709551616:=fun z=>by
  have:=c6 z 1000000007 (by decide)
  omega
 apply Exists.intro
 apply aY (ρ:=[some (.int c,.z),some (.int j,.z),none,none]) rfl rfl
 ·apply ak
  ·nofun
  apply ak
  ·exists f,dC (by decide),dC c1
  apply ak
  ·nofun
  ·exists dC (by decide),dC (c2 _)
 ·rfl
theorem wN (ns:List Int) (k:Nat):∃ n:Int,jB [(.fls (ns.map .int),.z),(.int k,.z)]=some (.ok (.lst [.int n],.u),[(.fls (ns.map .int),.z),(.int k,.z)]):=by
 obtain ⟨c,a⟩:=tR ns k
 generalize L3.D.fls (ns.map .int)=S at *
 generalize L3.D.int (k:Int)=kk at *
 by_cases h:c % 2=0
 ·apply Exists.intro
  apply aY (ρ:=[some (S,.z),some (kk,.z),none,none,none]) rfl rfl
  ·apply ak
   ·nomatch [a]
   apply eP
   apply fQ
   ·nofun
   ·exact BQ h
   ·nofun
  ·rfl
 ·obtain ⟨ρ',e,n,v4,rfl⟩:=cq (bnd:=aj 4) (b:=fY) (fun _ ρ=>∃ (n:Int) (v4:Option (L3.D × Fl)),ρ=[some (S,.z),some (kk,.z),some (.int c,.z),some (.int n,.z),v4]) (ds:=aQ 0 40) (ρ:=[some (S,.z),some (kk,.z),some (.int c,.z),some (.int 0,.z),none]) (k:=0) ⟨0,none,rfl⟩ (by
   rintro i d ρ hd ⟨n,v4,rfl⟩
   obtain ⟨hi,rfl⟩:=bA hd
   obtain ⟨m,hm⟩:=wL c (0+(i:Int))
   generalize (0+(i:Int))=j at *
   exact ⟨_,[some (S,.z),some (kk,.z),some (.int c,.z),some (.int (n * 142857143+m),.z),some (.int j,.z)],rfl,.inl (by unfold fY;(nomatch [hm],[uG (by decide)])),_,_,rfl⟩)
  refine ⟨n,?_⟩
  apply aY (ρ:=[some (S,.z),some (kk,.z),none,none,none]) rfl rfl
  ·apply ak
   ·nomatch [a]
   apply ak
   ·apply dX
    ·nofun
    ·exact BR h
    ·rfl
   apply ak
   ·nofun
   apply ak
   ·apply dF
    ·exact dW (by (nofun)) rfl (dw (n:=40) (by decide) (by decide))
    ·rfl
    ·exact e
   ·nofun
  ·rfl
theorem vj {X Z:L3.D} {f:Fl} {k:L3.D} {p q:L3.D} {b:Int} (a:dm [(p,.z),(q,.z),(Z,.z)]=some (.ok (.int b,.z),[(p,.z),(q,.z),(Z,.z)])) :
  cQ [some (X,f),some (Z,.z),some (k,.z),some (q,.z),some (p,.z)]=some (.ok (if b=0 then .rt (.bl false) .z else .nx),[some (X,f),some (Z,.z),some (k,.z),some (q,.z),some (p,.z)]):=by
 by_cases h:b=0
 ·rw [if_pos h]
  apply fQ
  ·nomatch [a]
  ·exact BQ h
  ·nofun
 ·rw [if_neg h]
  apply dX
  ·nomatch [a]
  ·exact BR h
  ·rfl
theorem tQ (ps:List Pt) (z:Pt) (x:∀ p ∈ ps,Small p) (E:ps.length<=24):∃ b:Bool,d5 [(.lst (ps.map Pd),.u),(Pd z,.z)]=some (.ok (.bl b,.z),[(.lst (ps.map Pd),.u),(Pd z,.z)])/\(b=true->we ps z)/\(b=false->∃ (i j:Nat) (p q:Pt),i < j/\ps[i]?=some p/\ps[j]?=some q/\aL p q z=0):=by
 have inner:∀ (i:Nat) (q:Pt) (v4:Option (L3.D × Fl)),ps[i]?=some q->∃ a,cw (aj 4) cQ ((ps.take i).map Pd) [some (.lst (ps.map Pd),.l),some (Pd z,.z),some (.int i,.z),some (Pd q,.z),v4]=some (.ok .nx,[some (.lst (ps.map Pd),.l),some (Pd z,.z),some (.int i,.z),some (Pd q,.z),a])/\(∀ j p,j < i->ps[j]?=some p->aL p q z ≠ 0) \/
   cw (aj 4) cQ ((ps.take i).map Pd) [some (.lst (ps.map Pd),.l),some (Pd z,.z),some (.int i,.z),some (Pd q,.z),v4]=some (.ok (.rt (.bl false) .z),[some (.lst (ps.map Pd),.l),some (Pd z,.z),some (.int i,.z),some (Pd q,.z),a])/\∃ j p,j < i/\ps[j]?=some p/\aL p q z=0:=by
  intro i q v4 n
  have hi:i < ps.length:=(BG.mp n).1
  obtain ⟨ρ',h⟩:=iu (bnd:=aj 4) (b:=cQ) (fun m ρ=>∃ v4,ρ=[some (.lst (ps.map Pd),.l),some (Pd z,.z),some (.int i,.z),some (Pd q,.z),v4]/\∀ j p,j < m->ps[j]?=some p->aL p q z ≠ 0)
   (fun m r f ρ=>r=.bl false/\f=.z/\∃ v4,ρ=[some (.lst (ps.map Pd),.l),some (Pd z,.z),some (.int i,.z),some (Pd q,.z),v4]/\∃ p,ps[m]?=some p/\aL p q z=0)
   (ds:=(ps.take i).map Pd) (ρ:=[some (.lst (ps.map Pd),.l),some (Pd z,.z),some (.int i,.z),some (Pd q,.z),v4]) (k:=0) ⟨v4,rfl,fun j p h=>absurd h (Nat.not_lt_zero _)⟩ (by
    rintro m d ρ hd ⟨v4,rfl,w⟩
    rw [BK,Bw] at hd
    obtain ⟨p,g,rfl⟩:=hd
    have v:ps[m]?=some p/\m < i:=by
     rw [List.getElem?_take] at g
     split at g
     ·exact ⟨g,by assumption⟩
     ·cases g
    have sm:=Small.sub (x p (BH v.1)) (x q (BH n))
    have rb:=mM p q z sm.1 sm.2
    have rb:=vj (X:=.lst (ps.map Pd)) (f:=.l) (k:=.int (i:Int)) rb
    by_cases h0:aL p q z=0
    ·rw [if_pos h0] at rb
     exact ⟨_,_,rfl,.inr ⟨.bl false,.z,rb,rfl,rfl,_,rfl,p,by simpa using v.1,h0⟩⟩
    ·rw [if_neg h0] at rb
     refine ⟨_,_,rfl,.inl ⟨.inl rb,_,rfl,fun j B o s=>?_⟩⟩
     by_cases e:j=m
     ·subst e;rw [v.1] at s;cases s;exact h0
     ·exact w j B (by omega) s)
  rcases h with ⟨e,a,rfl,h⟩ | ⟨m,r,f,hm,e,rfl,rfl,a,rfl,p,g,h0⟩
  ·exact ⟨a,.inl ⟨e,fun j p o=>h j p (by simp;omega)⟩⟩
  ·refine ⟨a,.inr ⟨e,m,p,by simp at hm;omega,by simpa using g,h0⟩⟩
 obtain ⟨ρ',h⟩:=iu (bnd:=fN 2 (bG (aj 2) (bG (aj 3) fO))) (b:=dD) (fun m ρ=>∃ v2 v3 v4,ρ=[some (.lst (ps.map Pd),.l),some (Pd z,.z),v2,v3,v4]/\∀ i j p q,i < j->j < m->ps[i]?=some p->ps[j]?=some q->aL p q z ≠ 0)
   (fun m r f ρ=>r=.bl false/\f=.z/\∃ v2 v3 v4,ρ=[some (.lst (ps.map Pd),.l),some (Pd z,.z),v2,v3,v4]/\∃ (i j:Nat) (p q:Pt),i < j/\ps[i]?=some p/\ps[j]?=some q/\aL p q z=0)
   (ds:=fj 0 (ps.map Pd)) (ρ:=[some (.lst (ps.map Pd),.l),some (Pd z,.z),none,none,none]) (k:=0) ⟨_,_,_,rfl,fun i j p q _ h=>absurd h (Nat.not_lt_zero _)⟩ (by
    rintro m d ρ hd ⟨v2,v3,v4,rfl,w⟩
    rw [iU,BK,Option.map_map,Bw] at hd
    obtain ⟨q,n,rfl⟩:=hd
    have hm:m < ps.length:=(BG.mp n).1
    obtain ⟨a,h⟩:=inner m q v4 n
    have sl:=yl (xs:=ps.map Pd) (m:=m) (by simp;omega)
    rw [<- List.map_take] at sl
    rcases h with ⟨e,h⟩ | ⟨e,j,p,o,g,h0⟩
    ·refine ⟨_,[some (.lst (ps.map Pd),.l),some (Pd z,.z),some (.int m,.z),some (Pd q,.z),a],by simp [aj,fN,bG,fO];rfl,.inl ⟨.inl (by simp [dD,ad,aN,aO,der,ac,mC,af,mUn,ae,aa,cx,ao,dS,aF,bf,pW,aX,jI,sIf,eS,cL,lowAt,nol,frz,sd,pls,gives,nq,orD,bS,ixD,jf,aj,fO,bG,fN,fnM,fn0,fk,eF,nz,c1,c2,ig,lA,mJ,oS,i8,mSl,slD,eW,dh,asI,cB,yq,cOr,cy,cH,mOr,nt,mIf,cG,asB,eqS,eqA,am,prs,jn,back,cS,kU,jj,cF,isN,xI,cz,rR,vX,sS,uQ,orC,pq,pk,pv,L2.atI,ixN,cE,ci,pV,-List.map_take,sl,aA,us,e]),_,_,_,rfl,fun i j p y c o hi t=>?_⟩⟩
     by_cases C:j=m
     ·subst C;rw [n] at t;cases t;exact h i p c hi
     ·exact w i j p y c (by omega) hi t
    ·refine ⟨_,[some (.lst (ps.map Pd),.l),some (Pd z,.z),some (.int m,.z),some (Pd q,.z),a],by simp [aj,fN,bG,fO];rfl,.inr ⟨.bl false,.z,by simp [dD,ad,aN,aO,der,ac,mC,af,mUn,ae,aa,cx,ao,dS,aF,bf,pW,aX,jI,sIf,eS,cL,lowAt,nol,frz,sd,pls,gives,nq,orD,bS,ixD,jf,aj,fO,bG,fN,fnM,fn0,fk,eF,nz,c1,c2,ig,lA,mJ,oS,i8,mSl,slD,eW,dh,asI,cB,yq,cOr,cy,cH,mOr,nt,mIf,cG,asB,eqS,eqA,am,prs,jn,back,cS,kU,jj,cF,isN,xI,cz,rR,vX,sS,uQ,orC,pq,pk,pv,L2.atI,ixN,cE,ci,pV,-List.map_take,sl,aA,us,e],rfl,rfl,_,_,_,rfl,j,m,p,q,o,g,n,h0⟩⟩)
 rcases h with ⟨e,v2,v3,v4,rfl,h⟩ | ⟨m,r,f,hm,e,rfl,rfl,v2,v3,v4,rfl,A⟩
 ·refine ⟨true,?_,fun _ i j p q c hi o=>h i j p q c ?_ hi o,fun h=>by cases h⟩
  ·simp [d5,jT,ad,aN,aO,der,ac,mC,af,mUn,ae,aa,cx,ao,dS,aF,bf,pW,aX,jI,sIf,eS,cL,lowAt,nol,frz,sd,pls,gives,nq,orD,bS,ixD,jf,aj,fO,bG,fN,fnM,fn0,fk,eF,nz,c1,c2,ig,lA,mJ,oS,i8,mSl,slD,eW,dh,asI,cB,yq,cOr,cy,cH,mOr,nt,mIf,cG,asB,eqS,eqA,am,prs,jn,back,cS,kU,jj,cF,isN,xI,cz,rR,vX,sS,uQ,orC,pq,pk,pv,L2.atI,ixN,cE,jW,aA,us,gz,bP,d6,e]
  ·have:=(BG.mp o).1
   simp [iT];omega
 ·refine ⟨false,?_,fun h=>(by cases h),fun _=>A⟩
  simp [d5,jT,ad,aN,aO,der,ac,mC,af,mUn,ae,aa,cx,ao,dS,aF,bf,pW,aX,jI,sIf,eS,cL,lowAt,nol,frz,sd,pls,gives,nq,orD,bS,ixD,jf,aj,fO,bG,fN,fnM,fn0,fk,eF,nz,c1,c2,ig,lA,mJ,oS,i8,mSl,slD,eW,dh,asI,cB,yq,cOr,cy,cH,mOr,nt,mIf,cG,asB,eqS,eqA,am,prs,jn,back,cS,kU,jj,cF,isN,xI,cz,rR,vX,sS,uQ,orC,pq,pk,pv,L2.atI,ixN,cE,jW,aA,us,gz,bP,d6,e]
theorem sq_le {i:Nat} (h:i < 12):0<=(i:Int) * (i:Int)/\(i:Int) * (i:Int)<=144:=by
 have h1:i * i<=12 * 12:=Nat.mul_le_mul (by omega) (by omega)
 have h2:(i:Int) * (i:Int)=((i * i:Nat):Int):=by simp
 rw [h2];omega
theorem wl {i:Nat} {g kd:Int} (hi:i < 12) (d:-15<=g) (g1:g<=15) (f:0<=kd) (h:kd < 6) :
  ∃ y:Int,ay (.lst [.int g,.int g,.int ((i:Int) * i+g / 9),.int (g / 9 - (i:Int) * i),.int (((i:Int) * i+30) * (1 - 2 * ((i:Int) % 2))),.int (g * 1000)]) (.int kd)=some (.int y,.z)/\-16000<=y/\y<=16000:=by
 obtain ⟨b,c⟩:=sq_le hi
 obtain ⟨j,rfl⟩:∃ j:Nat,kd=(j:Int):=⟨kd.toNat,by omega⟩
 have a:j < 6:=by omega
 generalize (i:Int) * (i:Int)=qq at *
 have hm:(qq+30) * (1 - 2 * ((i:Int) % 2))<=16000/\-16000<=(qq+30) * (1 - 2 * ((i:Int) % 2)):=by
  rcases Int.emod_two_eq (i:Int) with e | e
  ·rw [e];simp;omega
  ·rw [e];simp;omega
 generalize (qq+30) * (1 - 2 * ((i:Int) % 2))=zz at *
 match j,a with
 | 0,_=>exact ⟨_,rfl,by omega,by omega⟩
 | 1,_=>exact ⟨_,rfl,by omega,by omega⟩
 | 2,_=>exact ⟨_,rfl,by omega,by omega⟩
 | 3,_=>exact ⟨_,rfl,by omega,by omega⟩
 | 4,_=>exact ⟨_,rfl,by omega,by omega⟩
 | 5,_=>exact ⟨_,rfl,by omega,by omega⟩
abbrev cA (n most many kd x:Int) (ps:List Pt) (v6 v7 v8 v9:Option (L3.D × Fl)):Sto:=[some (.lst [.int n],.u),some (.int most,.z),some (.int many,.z),some (.int kd,.z),some (.int x,.z),some (.lst (ps.map Pd),.u),v6,v7,v8,v9]
theorem oC {n most many kd x y0:Int} {ps:List Pt} {v6 v7 v8:Option (L3.D × Fl)} (R:Rising ps) (k:∀ p ∈ ps,Small p) (r:ps.length<=12) :
  ∃ y,eR b9 c3 (cA n most many kd x ps v6 v7 v8 (some (.int y0,.z)))=some (.ok .nx,cA n most many kd x ps v6 v7 v8 (some (.int y,.z)))/\we ps (x,y)/\y0<=y/\y<=y0+144:=by
 have g:above ps x y0<=144:=by
  have h1:=vZ ps x y0
  have h2:ps.length * ps.length<=12 * 12:=Nat.mul_le_mul (by omega) (by omega)
  omega
 obtain ⟨ρ',e,y,rfl,hf,h1,h2⟩:=qS (c:=b9) (b:=c3) (fun m ρ=>∃ y:Int,ρ=cA n most many kd x ps v6 v7 v8 (some (.int y,.z))/\m=above ps x y/\y0<=y/\y+(above ps x y:Int)<=y0+(above ps x y0:Int))
  (fun ρ=>∃ y:Int,ρ=cA n most many kd x ps v6 v7 v8 (some (.int y,.z))/\we ps (x,y)/\y0<=y/\y<=y0+144) (ρ:=cA n most many kd x ps v6 v7 v8 (some (.int y0,.z))) ⟨y0,rfl,rfl,Int.le_refl _,Int.le_refl _⟩ (by
   rintro m ρ ⟨y,rfl,rfl,h1,h2⟩
   obtain ⟨b,l,h,hf⟩:=tQ ps (x,y) k (by omega)
   have f:b9 (cA n most many kd x ps v6 v7 v8 (some (.int y,.z)))=some (.ok (!b),cA n most many kd x ps v6 v7 v8 (some (.int y,.z))):=by
    unfold b9
    nomatch [l]
   cases b with
   | true=>exact .inl ⟨_,f,y,rfl,h rfl,h1,by omega⟩
   | false =>
    obtain ⟨i,j,p,q,a,e1,o,h0⟩:=hf rfl
    have d:=vY R a e1 o h0
    exact .inr ⟨_,cA n most many kd x ps v6 v7 v8 (some (.int (y+1),.z)),_,f,.inl (by unfold c3;(nofun)),d,y+1,rfl,rfl,by omega,by omega⟩)
 exact ⟨y,e,hf,h1,h2⟩
theorem tM {n most many kd x:Int} {i:Nat} {ps:List Pt} {v7 v8 v9:Option (L3.D × Fl)} (R:Rising ps) (r:∀ p ∈ ps,Small p) (s:ps.length<=12) (hi:i < 12) (A:0<=kd) (m:kd < 6) :
  ∃ (k d y:Int) (c a e:Option (L3.D × Fl)),cb (cA n most many kd x ps (some (.int i,.z)) v7 v8 v9)=some (.ok .nx,cA k most many kd (x+1+d) (ps ++ [(x+1+d,y)]) (some (.int i,.z)) c a e)/\0<=d/\d < 3/\we ps (x+1+d,y)/\-16000<=y/\y<=16144:=by
 have t:=eT
 have E:=c6 (n / 3) 31 (by decide)
 have f:=c6 n 3 (by decide)
 generalize w:n / 3 % 31 - 15=G at *
 obtain ⟨y0,v,C,B⟩:=wl (i:=i) (g:=G) (kd:=kd) hi (by omega) (by omega) A m
 have j:-18446744073709551616 < (i:Int)/\(i:Int) < 18446744073709551616:=by omega
 have o:-18446744073709551616 < 1 - 2 * ((i:Int) % 2)/\1 - 2 * ((i:Int) % 2) < 18446744073709551616:=by omega
 generalize b:x+1+n % 3=X at *
 obtain ⟨y,q,hf,h1,h2⟩:=oC (n:=n / 3 / 31) (most:=most) (many:=many) (kd:=kd) (x:=X) (y0:=y0) (ps:=ps) (v6:=some (.int i,.z)) (v7:=some (.int G,.z)) (v8:=some (.lst [.int G,.int G,.int ((i:Int) * i+G / 9),.int (G / 9 - (i:Int) * i),.int (((i:Int) * i+30) * (1 - 2 * ((i:Int) % 2))),.int (G * 1000)],.u)) R r s
 refine ⟨n / 3 / 31,n % 3,y,some (.int G,.z),some (.lst [.int G,.int G,.int ((i:Int) * i+G / 9),.int (G / 9 - (i:Int) * i),.int (((i:Int) * i+30) * (1 - 2 * ((i:Int) % 2))),.int (G * 1000)],.u),some (.int y,.z),?_,f.1,f.2,by rw [b];exact hf,by omega,by omega⟩
 rw [b]
 have l:(ps.map Pd).length < 16777216:=by simp;omega
 have h:=vV (d:=Pd (X,y)) l
 rw [show ps.map Pd ++ [Pd (X,y)]=(ps ++ [(X,y)]).map Pd by simp] at h
 clear hi
 generalize (i:Int)=zi at *
 unfold cb
 apply ak (ρ1:=cA (n / 3) most many kd X ps (some (.int zi,.z)) v7 v8 v9)
 ·rw [<- b]
  nomatch [(t _ _ (by decide))]
 apply ak (ρ1:=cA (n / 3 / 31) most many kd X ps (some (.int zi,.z)) (some (.int G,.z)) v8 v9)
 ·rw [<- w]
  nomatch [(t _ _ (by decide))]
 apply ak (ρ1:=cA (n / 3 / 31) most many kd X ps (some (.int zi,.z)) (some (.int G,.z)) (some (.lst [.int G,.int G,.int (zi * zi+G / 9),.int (G / 9 - zi * zi)],.u)) v9)
 ·exists dC j
 apply ak (ρ1:=cA (n / 3 / 31) most many kd X ps (some (.int zi,.z)) (some (.int G,.z)) (some (.lst [.int G,.int G,.int (zi * zi+G / 9),.int (G / 9 - zi * zi),.int ((zi * zi+30) * (1 - 2 * (zi % 2))),.int (G * 1000)],.u)) v9)
 ·exists dC j,dC (by decide),uG o,uG (by decide)
 apply ak (ρ1:=cA (n / 3 / 31) most many kd X ps (some (.int zi,.z)) (some (.int G,.z)) (some (.lst [.int G,.int G,.int (zi * zi+G / 9),.int (G / 9 - zi * zi),.int ((zi * zi+30) * (1 - 2 * (zi % 2))),.int (G * 1000)],.u)) (some (.int y0,.z)))
 ·exists v
 apply ak
 ·exact q
 ·exists h
theorem tO {n most many kd x:Int} (hm:0<=many/\many<=12) (v:0<=kd) (s:kd < 6) (x0:-4<=x) (x1:x<=4) :
  ∃ (g j:Int) (ps:List Pt) (v6 v7 v8 v9:Option (L3.D × Fl)),cE (bF dH (aa (ac 2) ae)) (aj 6) cb (cA n most many kd x [] none none none none)=some (.ok .nx,cA g most many kd j ps v6 v7 v8 v9)/\(ps.length:Int)=many/\Rising ps/\NoLine ps/\(∀ q ∈ ps,-5<=q.1/\q.1<=100/\-17000<=q.2/\q.2<=17000):=by
 obtain ⟨ρ',e,g,j,ps,v6,v7,v8,v9,rfl,p,c,f,bnd,h1,h2⟩:=cq (bnd:=aj 6) (b:=cb) (fun i ρ=>∃ (n x:Int) (ps:List Pt) (v6 v7 v8 v9:Option (L3.D × Fl)),ρ=cA n most many kd x ps v6 v7 v8 v9/\ps.length=i/\Rising ps/\NoLine ps/\(∀ q ∈ ps,q.1<=x/\-5<=q.1/\-17000<=q.2/\q.2<=17000)/\-4<=x/\x<=4+3 * (i:Int))
  (ds:=aQ 0 many.toNat) (ρ:=cA n most many kd x [] none none none none) (k:=0) ⟨n,x,[],none,none,none,none,rfl,rfl,fun _ _ _ _ _ e _=>by simp at e,fun _ _ _ _ _ _ _ _ e _ _=>by simp at e,fun _ e=>by simp at e,by omega,by omega⟩ (by
   rintro i d ρ hd ⟨n,x,ps,v6,v7,v8,v9,rfl,p,c,f,bnd,h1,h2⟩
   obtain ⟨hi,rfl⟩:=bA hd
   have l:∀ q ∈ ps,Small q:=fun q a=>by
    obtain ⟨a1,a2,o,m⟩:=bnd q a
    exact ⟨by omega,by omega,by omega,by omega⟩
   obtain ⟨g,h,y,t,r,u,e,A,d1,fr,y0,B⟩:=tM (n:=n) (most:=most) (many:=many) (kd:=kd) (x:=x) (i:=i) (ps:=ps) (v7:=v7) (v8:=v8) (v9:=v9) c l (by omega) (by omega) v s
   refine ⟨cA n most many kd x ps (some (.int i,.z)) v7 v8 v9,_,by rw [Int.zero_add];rfl,.inl e,g,x+1+h,ps ++ [(x+1+h,y)],_,_,_,_,rfl,by simp;omega,c.snoc fun q a=>?_,f.snoc fr,fun q a=>?_,by omega,by omega⟩
   ·show q.1 < x+1+h
    have:=(bnd q a).1
    omega
   ·rcases BD.mp a with a | a
    ·obtain ⟨a1,a2,o,m⟩:=bnd q a
     exact ⟨by omega,by omega,by omega,by omega⟩
    ·have e:q=(x+1+h,y):=by simpa using a
     subst e
     exact ⟨Int.le_refl _,by show -5<=x+1+h;omega,by show -17000<=y;omega,by show y<=17000;omega⟩)
 rw [b8] at p h2
 have w:dH [.int many]=some (aQ 0 many.toNat):=dw (by omega) rfl
 refine ⟨g,j,ps,v6,v7,v8,v9,?_,by omega,c,f,fun q a=>?_⟩
 ·apply dF
  ·(repeat' (first | with_reducible apply dW (h3:=w) | infer_instance | eq_refl))
  ·rfl
  ·exact e
 ·obtain ⟨a1,a2,o,m⟩:=bnd q a
  exact ⟨by omega,by omega,by omega,by omega⟩
abbrev scJ (p:Pt):Pt:=fV 1000000000000 1000000000 7 p
theorem pow12:oO (.int 10) (.int 12)=some (.int 1000000000000,.z):=rfl
theorem pow9:oO (.int 10) (.int 9)=some (.int 1000000000,.z):=rfl
def Bo (p:Pt):Prop:=-(2 ^ 50) < p.1/\p.1 < 2 ^ 50/\-(2 ^ 50) < p.2/\p.2 < 2 ^ 50
theorem rl (ps:List Pt) (g:ps.length<=24) {n most many kd x:Int} {v6 v7 v8 v9:Option (L3.D × Fl)}:aX 5 c0 (cA n most many kd x ps v6 v7 v8 v9)=some (.ok .nx,cA n most many kd x (ps.map scJ) v6 v7 v8 v9):=by
 obtain ⟨τ',e,a,b,rfl⟩:=j5 (bnd:=fN 2 (bG (aj 0) (bG (aj 1) fO))) (c:=dq) (elt:=eD) (fun τ=>∃ a b,τ=[a,b]) Pd (fun _=>true) (fun p=>Pd (scJ p)) (xs:=ps) (τ:=[none,none]) ⟨none,none,rfl⟩ (by
  rintro p f τ ⟨a,b,rfl⟩
  exact ⟨[some (.int p.1,.z),some (.int p.2,.z)],_,rfl,rfl,(fun h=>by cases h),fun _=>⟨.val (Pd (scJ p)) .z,[some (.int p.1,.z),some (.int p.2,.z)],(Pd (scJ p),.z),_,by unfold eD;(exists pow12,pow9,dC (by decide)),rfl,rfl,_,_,rfl⟩⟩)
 rw [B9.mpr (fun _ _=>rfl)] at e
 have d:c0 (cA n most many kd x ps v6 v7 v8 v9)=some (.ok (.val (.lst (ps.map fun p=>Pd (scJ p))) .u),cA n most many kd x ps v6 v7 v8 v9):=bO (rs:=[.pl 5]) (ρ1:=cA n most many kd x ps v6 v7 v8 v9) (ρ2:=[some (.lst [.int n],.u),some (.int most,.z),some (.int many,.z),some (.int kd,.z),some (.int x,.z),some (.lst (ps.map Pd),.l),v6,v7,v8,v9]) rfl e (by simp;omega) rfl
 rw [show (ps.map fun p=>Pd (scJ p))=(ps.map scJ).map Pd by simp] at d
 exact u9 d rfl (Nat.le_of_ble_eq_true rfl) rfl
theorem rj (n most:Int) (h1:1<=most) (h2:most<=12):∃ (c:Int) (ps:List Pt),dZ [(.lst [.int n],.u),(.int most,.z)]=some (.ok (.tup (ps.map Pd),.z),[(.lst [.int c],.u),(.int most,.z)])/\GoodSh ps/\(ps.length:Int)<=most/\∀ p ∈ ps,Bo p:=by
 have t:=eT
 have s:=c6 n most (by omega)
 have j:=c6 (n / most) 6 (by decide)
 have m:=c6 (n / most / 6) 9 (by decide)
 obtain ⟨c,l,ps,v6,v7,v8,v9,e,o,d,f,bnd⟩:=tO (n:=n / most / 6 / 9) (most:=most) (many:=1+n % most) (kd:=n / most % 6) (x:=n / most / 6 % 9 - 4) ⟨by omega,by omega⟩ j.1 j.2 (by omega) (by omega)
 have good:GoodSh ps:=⟨by omega,by omega,fun q a=>by
  obtain ⟨a1,a2,i,h⟩:=bnd q a
  exact ⟨by omega,by omega,by omega,by omega⟩,d,f⟩
 have b:GoodSh (ps.map scJ):=⟨by simpa using good.pos,by simpa using good.most,fun q a=>by
  obtain ⟨r,g,rfl⟩:=BJ.mp a
  obtain ⟨a1,a2,i,h⟩:=bnd r g
  exact ⟨by show -(2 ^ 62) < (1000000000000:Int) * r.1+7;omega,by show (1000000000000:Int) * r.1+7 < 2 ^ 62;omega,by show -(2 ^ 62) < (1000000000:Int) * r.2;omega,by show (1000000000:Int) * r.2 < 2 ^ 62;omega⟩,d.scale (by decide),f.scale (by decide) (by decide)⟩
 have pre:∀ {r:Option (Except L3.D Flw × Sto)},aF (sIf (cB (af eqX (am aZ (aa (ac 0) (aa (mC (.int 6)) ae))) (mC (.int 5)))) (aX 5 c0) dS) (bf 2 (ao lh (aa (ac 5) ae))) (cA c most (1+n % most) (n / most % 6) l ps v6 v7 v8 v9)=r->kO [some (.lst [.int n],.u),some (.int most,.z),none,none,none,none,none,none,none,none]=r:=by
  intro r g
  apply ak (ρ1:=[some (.lst [.int (n / most)],.u),some (.int most,.z),some (.int (1+n % most),.z),none,none,none,none,none,none,none])
  ·nomatch [(t n most (by omega))]
  apply ak (ρ1:=[some (.lst [.int (n / most / 6)],.u),some (.int most,.z),some (.int (1+n % most),.z),some (.int (n / most % 6),.z),none,none,none,none,none,none])
  ·nomatch [(t _ _ (by decide))]
  apply ak (ρ1:=[some (.lst [.int (n / most / 6 / 9)],.u),some (.int most,.z),some (.int (1+n % most),.z),some (.int (n / most % 6),.z),some (.int (n / most / 6 % 9 - 4),.z),none,none,none,none,none])
  ·nomatch [(t _ _ (by decide))]
  apply ak (ρ1:=cA (n / most / 6 / 9) most (1+n % most) (n / most % 6) (n / most / 6 % 9 - 4) [] none none none none)
  ·nofun
  exact ak e g
 by_cases k:c % 6=5
 ·refine ⟨c / 6,ps.map scJ,?_,b,by rw [BF];omega,fun q a=>by
   obtain ⟨r,g,rfl⟩:=BJ.mp a
   obtain ⟨a1,a2,i,h⟩:=bnd r g
   exact ⟨by show -(2 ^ 50) < (1000000000000:Int) * r.1+7;omega,by show (1000000000000:Int) * r.1+7 < 2 ^ 50;omega,by show -(2 ^ 50) < (1000000000:Int) * r.2;omega,by show (1000000000:Int) * r.2 < 2 ^ 50;omega⟩⟩
  apply aY (ρ:=[some (.lst [.int n],.u),some (.int most,.z),none,none,none,none,none,none,none,none]) rfl rfl
  ·apply pre
   apply ak
   ·apply fQ
    ·nomatch [(t _ _ (by decide))]
    ·exact BQ k
    ·exact rl ps (by omega)
   ·nofun
  ·rfl
 ·refine ⟨c / 6,ps,?_,good,by omega,fun q a=>by
   obtain ⟨a1,a2,i,h⟩:=bnd q a
   exact ⟨by omega,by omega,by omega,by omega⟩⟩
  apply aY (ρ:=[some (.lst [.int n],.u),some (.int most,.z),none,none,none,none,none,none,none,none]) rfl rfl
  ·apply pre
   apply ak
   ·apply dX
    ·nomatch [(t _ _ (by decide))]
    ·exact BR k
    ·rfl
   ·nofun
  ·rfl
theorem qP {α:Type} (b:α->Bool):∀ xs:List α,fT (xs.map fun x=>L3.D.bl (b x))=some (xs.map b)
 | []=>rfl
 | x :: xs=>by simp [fT,qP b xs]
theorem pL {α:Type} (b:α->Bool) (xs:List α):sL [.lst (xs.map fun x=>L3.D.bl (b x))]=some (.bl (xs.all b),.z):=by
 show (fT _).map _=_
 rw [qP]
 simp [List.all_map]
def nox:L3.D->Bool
 | .exc _ _=>false
 | _=>true
def wh:L3.D->Bool
 | .int _=>true
 | _=>false
theorem wh_l {d:L3.D} (h:nox d=true):fL [(d,.z)]=some (.ok (.bl (wh d),.z),[(d,.z)]):=by
 cases d <;> first | exact (BM h).elim | kernel_rfl
theorem wh_p {d:L3.D} (h:nox d=true):bT [(d,.z)]=some (.ok (.bl (wh d),.z),[(d,.z)]):=by
 cases d <;> first | exact (BM h).elim | kernel_rfl
theorem nD {f c:L3.D->L3.D->Option (L3.D × Fl)} {ma mb mc:EM} {ra rb:R3} {ρ ρ1 ρ2:Sto} {da db:L3.D} {fl:Fl} (h1:ma ρ=some (.ok ra,ρ1)) (h2:mb ρ1=some (.ok rb,ρ2)) (h3:der ra ρ2=some (.ok da,ρ2)) (a:der rb ρ2=some (.ok db,ρ2)) (b:f da db=some (.bl false,fl)):cG f c ma mb mc ρ=some (.ok (.val (.bl false) .z),ρ2):=by
 simp only [cG,ad,h1,h2,h3,a,b,aO,Option.bind_some,asB,BZ,B2,if_false]
 rfl
def okp:L3.D->Bool
 | .exc _ _=>false
 | .tup xs=>xs.all nox && decide (xs.length<=16000)
 | _=>true
def cv:L3.D->Bool
 | .tup [.int _,.int _]=>true
 | _=>false
theorem xz {d:L3.D} (h:okp d=true):nox d=true:=by
 cases d <;> first | rfl | exact (BM h).elim
theorem ui {a b:L3.D}:cv (.tup [a,b])=(wh a && wh b):=by
 cases a <;> cases b <;> rfl
theorem lF {xs:List L3.D} (h:xs.length ≠ 2):cv (.tup xs)=false:=by
 unfold cv
 split
 ·rename_i e
  cases e
  exact absurd rfl h
 ·rfl
theorem o9 {ma mb:EM} {r:R3} {ρ ρ1:Sto} {x y:Bool} (h1:ma ρ=some (.ok r,ρ1)) (h2:der r ρ1=some (.ok (.bl x),ρ1)) (h3:x=true->mb ρ1=some (.ok (.val (.bl y) .z),ρ1)):cH ma mb ρ=some (.ok (.val (.bl (x && y)) .z),ρ1):=by
 cases x with
 | false=>exact eE h1 h2 rfl
 | true=>exact dE h1 h2 rfl (h3 rfl)
theorem sR {xs:List L3.D} (h:xs.length=2):∃ a b,xs=[a,b]:=by
 match xs,h with
 | [a,b],_=>exact ⟨a,b,rfl⟩
theorem c4 (xs:List L3.D):cR [.tup xs]=some (.int (xs.length:Int),.z):=by simp [rR,c1]
theorem pt_p {d:L3.D} (h:okp d=true):cJ [(d,.z)]=some (.ok (.bl (cv d),.z),[(d,.z)]):=by
 have run:∀ {x:Bool},cH (mUn (cS "tuple") (ac 0)) (cH (af eqX (ao cR (aa (ac 0) ae)) (mC (.int 2))) (cH (am bT (aa (af ay (ac 0) (mC (.int 0))) ae)) (am bT (aa (af ay (ac 0) (mC (.int 1))) ae)))) [some (d,.z)]=some (.ok (.val (.bl x) .z),[some (d,.z)])->cJ [(d,.z)]=some (.ok (.bl x,.z),[(d,.z)]):=fun e =>
  aY (ρ:=[some (d,.z)]) (ρ1:=[some (d,.z)]) rfl rfl (cj e rfl) rfl
 by_cases g:∃ xs,d=.tup xs
 ·obtain ⟨xs,rfl⟩:=g
  have f:=List.all_eq_true.mp (Bool.and_eq_true_iff.mp (show (xs.all nox && decide (xs.length<=16000))=true from h)).1
  have i:=c4 xs
  have c:cS "tuple" (.tup xs)=some (.bl true,.z):=rfl
  have eq:eqX (.int (xs.length:Int)) (.int 2)=some (.bl (decide ((xs.length:Int)=2)),.z):=rfl
  by_cases h2:xs.length=2
  ·obtain ⟨a,b,rfl⟩:=sR h2
   have j:=wh_p (f a (by simp))
   have k:=wh_p (f b (by simp))
   have sa:ay (.tup [a,b]) (.int 0)=some (a,.z):=aV rfl
   have sb:ay (.tup [a,b]) (.int 1)=some (b,.z):=aV rfl
   rw [ui]
   refine run ?_
   clear h f h2 run
   generalize L3.D.tup [a,b]=T at *
   exact dE (iR (ai rfl) rfl c) rfl rfl (dE (a9 (aT (ag (ai rfl) aw) rfl i) i_c rfl rfl eq) rfl rfl (o9 (au j (ag (a9 (ai rfl) i_c rfl rfl sa) aw) rfl rfl rfl) rfl fun _=>au k (ag (a9 (ai rfl) i_c rfl rfl sb) aw) rfl rfl rfl))
  ·rw [lF h2]
   refine run ?_
   clear h f run
   generalize L3.D.tup xs=T at *
   exact dE (iR (ai rfl) rfl c) rfl rfl (eE (a9 (aT (ag (ai rfl) aw) rfl i) i_c rfl rfl eq) rfl (BR (by omega)))
 ·have e:cv d=false:=by
   unfold cv
   split
   ·exact absurd ⟨_,rfl⟩ g
   ·rfl
  have c:cS "tuple" d=some (.bl false,.z):=by
   cases d <;> first | exact (BM h).elim | exact absurd ⟨_,rfl⟩ g | rfl
  rw [e]
  exact run (eE (iR (ai rfl) rfl c) rfl rfl)
theorem vU {xs:List L3.D} (f:∀ d ∈ xs,okp d=true) (k:xs.length<=16000):bo [(.tup xs,.z)]=some (.ok (.bl (decide (1<=xs.length/\xs.length<=24) && xs.all cv),.z),[(.tup xs,.z)]):=by
 have g:=c4 xs
 by_cases h1:1<=xs.length
 ·by_cases h2:xs.length<=24
  ·obtain ⟨τ',e,a,rfl⟩:=cr (bnd:=aj 0) (c:=dq) (elt:=bB) (fun τ=>∃ a,τ=[a]) (fun _=>true) (fun d=>.bl (cv d)) (ds:=xs) (τ:=[none]) ⟨none,rfl⟩ (by
    rintro d hd τ ⟨a,rfl⟩
    have pt:=pt_p (f d hd)
    exact ⟨[some (d,.z)],_,rfl,rfl,(fun h=>by cases h),fun _=>⟨.val (.bl (cv d)) .z,[some (d,.z)],(.bl (cv d),.z),[some (d,.z)],by unfold bB;exact au pt (ag (ai rfl) aw) rfl rfl rfl,rfl,rfl,_,rfl⟩⟩)
   rw [B9.mpr fun _ _=>rfl] at e
   have j:=pL cv xs
   have i:cU [some (.tup xs,.z)]=some (.ok (.val (.lst (xs.map fun d=>L3.D.bl (cv d))) .u),[some (.tup xs,.z)]):=bO (im:=ci (ac 0)) (ix:=[none]) (ρ1:=[some (.tup xs,.z)]) (ρ2:=[some (.tup xs,.z)]) (ds:=xs) (rs:=[.pl 0]) rfl e (by omega) rfl
   have g1:leI (.int 1) (.int (xs.length:Int))=some (.bl true,.z):=by simp [bS];omega
   have g2:leI (.int (xs.length:Int)) (.int 24)=some (.bl true,.z):=by simp [bS];omega
   rw [BQ ⟨h1,h2⟩,Bool.true_and]
   clear e f
   generalize (xs.map fun d=>L3.D.bl (cv d))=out at *
   generalize xs.all cv=b at *
   generalize L3.D.int (xs.length:Int)=N at *
   generalize L3.D.tup xs=T at *
   refine aY (ρ:=[some (T,.z)]) (ρ1:=[some (T,.z)]) rfl rfl (cj (dE (iq i_c (aT (ag (ai rfl) aw) rfl g) rfl rfl g1 i_c rfl rfl g2) rfl rfl (aT (ag i aw) rfl j)) rfl) rfl
  ·have g1:leI (.int 1) (.int (xs.length:Int))=some (.bl true,.z):=by simp [bS];omega
   have g2:leI (.int (xs.length:Int)) (.int 24)=some (.bl false,.z):=by simp [bS];omega
   rw [BR (fun h=>h2 h.2),Bool.false_and]
   clear f
   generalize L3.D.int (xs.length:Int)=N at *
   generalize L3.D.tup xs=T at *
   refine aY (ρ:=[some (T,.z)]) (ρ1:=[some (T,.z)]) rfl rfl (cj (eE (iq i_c (aT (ag (ai rfl) aw) rfl g) rfl rfl g1 i_c rfl rfl g2) rfl rfl) rfl) rfl
 ·have g1:leI (.int 1) (.int (xs.length:Int))=some (.bl false,.z):=by simp [bS];omega
  rw [BR (fun h=>h1 h.1),Bool.false_and]
  clear f
  generalize L3.D.int (xs.length:Int)=N at *
  generalize L3.D.tup xs=T at *
  refine aY (ρ:=[some (T,.z)]) (ρ1:=[some (T,.z)]) rfl rfl (cj (eE (nD i_c (aT (ag (ai rfl) aw) rfl g) rfl rfl g1) rfl rfl) rfl) rfl
theorem xQ {T d:L3.D} (h:okp d=true):bp [some (T,.z),some (d,.z)]=some (.ok (if cv d then .nx else .rt (.bl false) .z),[some (T,.z),some (d,.z)]):=by
 have run:∀ {x:Bool},(cOr (cy (cB (mUn (cS "tuple") (ac 1)))) (cOr (cB (af neX (ao cR (aa (ac 1) ae)) (mC (.int 2)))) (cy (cB (ao sL (aa dL ae)))))) [some (T,.z),some (d,.z)]=some (.ok (!x),[some (T,.z),some (d,.z)])->bp [some (T,.z),some (d,.z)]=some (.ok (if x then .nx else .rt (.bl false) .z),[some (T,.z),some (d,.z)]):=fun {x} e=>by
  unfold bp
  cases x with
  | true=>exact dX e rfl rfl
  | false=>exact fQ e rfl (cj i_c rfl)
 by_cases i:∃ xs,d=.tup xs
 ·obtain ⟨xs,rfl⟩:=i
  have g:=List.all_eq_true.mp (Bool.and_eq_true_iff.mp (show (xs.all nox && decide (xs.length<=16000))=true from h)).1
  have k:=c4 xs
  have f:cS "tuple" (.tup xs)=some (.bl true,.z):=rfl
  have eq:neX (.int (xs.length:Int)) (.int 2)=some (.bl (!decide ((xs.length:Int)=2)),.z):=rfl
  by_cases h2:xs.length=2
  ·obtain ⟨a,b,rfl⟩:=sR h2
   obtain ⟨τ',e,u,rfl⟩:=cr (bnd:=aj 0) (c:=dq) (elt:=dM) (fun τ=>∃ a,τ=[a]) (fun _=>true) (fun d=>.bl (wh d)) (ds:=[a,b]) (τ:=[none]) ⟨none,rfl⟩ (by
    rintro d hd τ ⟨u,rfl⟩
    have w:=wh_l (g d hd)
    exact ⟨[some (d,.z)],_,rfl,rfl,(fun h=>by cases h),fun _=>⟨.val (.bl (wh d)) .z,[some (d,.z)],(.bl (wh d),.z),[some (d,.z)],by unfold dM;exact au w (ag (ai rfl) aw) rfl rfl rfl,rfl,rfl,_,rfl⟩⟩)
   rw [B9.mpr fun _ _=>rfl] at e
   have j:=pL wh [a,b]
   have l:dL [some (T,.z),some (.tup [a,b],.z)]=some (.ok (.val (.lst ([a,b].map fun d=>L3.D.bl (wh d))) .u),[some (T,.z),some (.tup [a,b],.z)]):=bO (im:=ci (ac 1)) (ix:=[none]) (ρ1:=[some (T,.z),some (.tup [a,b],.z)]) (ρ2:=[some (T,.z),some (.tup [a,b],.z)]) (ds:=[a,b]) (rs:=[.pl 1]) rfl e (by simp) rfl
   rw [ui]
   have m:[a,b].all wh=(wh a && wh b):=by simp
   rw [m] at j
   refine run ?_
   clear h g h2 run e
   generalize ([a,b].map fun d=>L3.D.bl (wh d))=out at *
   generalize L3.D.tup [a,b]=D2 at *
   exact je (cn (dQ (iR (ai rfl) rfl f) rfl)) rfl (je (dQ (a9 (aT (ag (ai rfl) aw) rfl k) i_c rfl rfl eq) rfl) rfl (cn (dQ (aT (ag l aw) rfl j) rfl)))
  ·rw [lF h2]
   refine run ?_
   rw [BR (by omega)] at eq
   clear h g run
   generalize L3.D.tup xs=D2 at *
   exact je (cn (dQ (iR (ai rfl) rfl f) rfl)) rfl (qu (dQ (a9 (aT (ag (ai rfl) aw) rfl k) i_c rfl rfl eq) rfl) rfl)
 ·have e:cv d=false:=by
   unfold cv
   split
   ·exact absurd ⟨_,rfl⟩ i
   ·rfl
  have f:cS "tuple" d=some (.bl false,.z):=by
   cases d <;> first | exact (BM h).elim | exact absurd ⟨_,rfl⟩ i | rfl
  rw [e]
  exact run (qu (cn (dQ (iR (ai rfl) rfl f) rfl)) rfl)
theorem kS {xs:List L3.D} (g:∀ d ∈ xs,okp d=true):∃ w,cw (aj 1) bp xs [some (.tup xs,.z),none]=some (.ok (if xs.all cv then .nx else .rt (.bl false) .z),[some (.tup xs,.z),w]):=by
 have key:∀ (ds:List L3.D) (v:Option (L3.D × Fl)),(∀ d ∈ ds,okp d=true)->∃ w,cw (aj 1) bp ds [some (.tup xs,.z),v]=some (.ok (if ds.all cv then .nx else .rt (.bl false) .z),[some (.tup xs,.z),w]):=by
  intro ds v hd
  obtain ⟨ρ',h⟩:=iu (bnd:=aj 1) (b:=bp) (fun k ρ=>(∃ w,ρ=[some (.tup xs,.z),w])/\∀ (i:Nat) d,i < k->ds[i]?=some d->cv d=true) (fun i r f ρ=>(∃ w,ρ=[some (.tup xs,.z),w])/\r=.bl false/\f=.z/\∃ d ∈ ds,cv d=false) (ds:=ds) (ρ:=[some (.tup xs,.z),v]) (k:=0) ⟨⟨v,rfl⟩,fun i d h=>by omega⟩ (by
   rintro i d ρ hi ⟨⟨w,rfl⟩,c⟩
   have one:=xQ (T:=.tup xs) (hd d (BH hi))
   refine ⟨[some (.tup xs,.z),some (d,.z)],[some (.tup xs,.z),some (d,.z)],rfl,?_⟩
   cases a:cv d with
   | true =>
    rw [a] at one
    refine .inl ⟨.inl one,⟨_,rfl⟩,fun j e l he=>?_⟩
    by_cases z:j=i
    ·subst z;rw [hi] at he;cases he;exact a
    ·exact c j e (by omega) he
   | false =>
    rw [a] at one
    exact .inr ⟨.bl false,.z,one,⟨_,rfl⟩,rfl,rfl,d,BH hi,a⟩)
  rcases h with ⟨e,⟨w,rfl⟩,c⟩ | ⟨i,r,f,hi,e,⟨w,rfl⟩,rfl,rfl,d,hd,a⟩
  ·refine ⟨w,?_⟩
   rw [if_pos]
   ·exact e
   ·refine List.all_eq_true.mpr fun d hd=>?_
    obtain ⟨i,hi⟩:=List.getElem?_of_mem hd
    exact c i d (by have:=(BG.mp hi).1;omega) hi
  ·refine ⟨w,?_⟩
   rw [if_neg]
   ·exact e
   ·intro h
    have:=List.all_eq_true.mp h d hd
    rw [a] at this
    cases this
 exact key xs none g
theorem xP {xs:List L3.D} (a:∀ d ∈ xs,okp d=true) (h:xs.all cv=false):bz [(.tup xs,.z)]=some (.ok (.bl false,.z),[(.tup xs,.z)]):=by
 obtain ⟨w,e⟩:=kS a
 rw [h] at e
 refine aY (ρ:=[some (.tup xs,.z),none]) (ρ1:=[some (.tup xs,.z),w]) rfl rfl (eP (dF (ip (ai rfl) rfl rfl) rfl e)) rfl
theorem uh:∀ {xs:List L3.D},xs.all cv=true->∃ ps:List Pt,xs=ps.map Pd
 | [],_=>⟨[],rfl⟩
 | d :: xs,h=>by
  rw [List.all_cons,Bool.and_eq_true] at h
  obtain ⟨ps,rfl⟩:=uh h.2
  have h1:=h.1
  unfold cv at h1
  split at h1
  ·exact ⟨(_,_) :: ps,rfl⟩
  ·cases h1
theorem xh (ps:List Pt):(ps.map Pd).all cv=true:=by
 refine List.all_eq_true.mpr fun d hd=>?_
 obtain ⟨p,_,rfl⟩:=BJ.mp hd
 rfl
theorem z9 (ps:List Pt):∀ d ∈ ps.map Pd,okp d=true:=fun d hd=>by
 obtain ⟨p,_,rfl⟩:=BJ.mp hd
 rfl
def dst (zs:List Int):Bool:=decide ((zs.foldl met []).length=zs.length)
theorem uR (ps:List Pt) (k:ps.length<=60):bz [(Shd ps,.z)]=some (.ok (.bl (decide (1<=ps.length/\ps.length<=24) && dst (ps.map (·.1))),.z),[(Shd ps,.z)]):=by
 obtain ⟨w,e⟩:=kS (z9 ps)
 rw [xh] at e
 have f:cR [Shd ps]=some (.int (ps.length:Int),.z):=by
  have:=c4 (ps.map Pd)
  rwa [BF] at this
 have fin:∀ {x:Bool},cH (cG leI leI (mC (.int 1)) (ao cR (aa (ac 0) ae)) (mC (.int 24))) (af eqX (ao lsD (aa dJ ae)) (ao cR (aa (ac 0) ae))) [some (Shd ps,.z),w]=some (.ok (.val (.bl x) .z),[some (Shd ps,.z),w])->bz [(Shd ps,.z)]=some (.ok (.bl x,.z),[(Shd ps,.z)]):=fun {x} h=>by
  refine aY (ρ:=[some (Shd ps,.z),none]) (ρ1:=[some (Shd ps,.z),w]) rfl rfl (ak (dF (ip (ai rfl) rfl rfl) rfl e) ?_) rfl
  exact cj h rfl
 refine fin ?_
 by_cases h1:1<=ps.length
 ·have g1:leI (.int 1) (.int (ps.length:Int))=some (.bl true,.z):=by simp [bS];omega
  by_cases h2:ps.length<=24
  ·obtain ⟨τ',e,a,rfl⟩:=cr (bnd:=aj 0) (c:=dq) (elt:=cK) (fun τ=>∃ a,τ=[a]) (fun _=>true) (fun d=>match d with | .tup (x :: _)=>x | _=>.non) (ds:=ps.map Pd) (τ:=[none]) ⟨none,rfl⟩ (by
    rintro d hd τ ⟨a,rfl⟩
    obtain ⟨p,j,rfl⟩:=BJ.mp hd
    have s0:ay (Pd p) (.int 0)=some (.int p.1,.z):=aV rfl
    exact ⟨[some (Pd p,.z)],_,rfl,rfl,(fun h=>by cases h),fun _=>⟨.val (.int p.1) .z,[some (Pd p,.z)],(.int p.1,.z),[some (Pd p,.z)],by unfold cK;exact a9 (ai rfl) i_c rfl rfl s0,rfl,rfl,_,rfl⟩⟩)
   rw [B9.mpr fun _ _=>rfl,Cc] at e
   have e:bM (aj 0) dq cK (ps.map Pd) [none]=some (.ok ((ps.map (·.1)).map L3.D.int),[a]):=by
    rw [e,Cc]
    rfl
   have i:dJ [some (Shd ps,.z),w]=some (.ok (.val (.lst ((ps.map (·.1)).map L3.D.int)) .u),[some (Shd ps,.z),w]):=bO (im:=ci (ac 0)) (ix:=[none]) (ρ1:=[some (Shd ps,.z),w]) (ρ2:=[some (Shd ps,.z),w]) (ds:=ps.map Pd) (rs:=[.pl 0]) rfl e (by simp;omega) rfl
   have g2:leI (.int (ps.length:Int)) (.int 24)=some (.bl true,.z):=by simp [bS];omega
   have g:lsD [.lst ((ps.map (·.1)).map L3.D.int)]=some (.int (((ps.map (·.1)).foldl met []).length:Int),.z):=by
    show (dP _).bind _=_
    rw [fZ]
    show (if _ then _ else _)=_
    rw [if_pos (by rw [BF];omega)]
   have eq:eqX (.int (((ps.map (·.1)).foldl met []).length:Int)) (.int (ps.length:Int))=some (.bl (dst (ps.map (·.1))),.z):=by
    have:dst (ps.map (·.1))=decide ((((ps.map (·.1)).foldl met []).length:Int)=(ps.length:Int)):=by
     unfold dst
     rw [BF]
     exact decide_eq_decide.mpr (by omega)
    rw [this]
    rfl
   rw [BQ ⟨h1,h2⟩,Bool.true_and]
   clear e fin
   generalize (ps.map (·.1)).map L3.D.int=out at *
   generalize dst (ps.map (·.1))=b at *
   generalize L3.D.int (((ps.map (·.1)).foldl met []).length:Int)=M at *
   generalize L3.D.int (ps.length:Int)=N at *
   generalize Shd ps=T at *
   exact dE (iq i_c (aT (ag (ai rfl) aw) rfl f) rfl rfl g1 i_c rfl rfl g2) rfl rfl (a9 (aT (ag i aw) rfl g) (aT (ag (ai rfl) aw) rfl f) rfl rfl eq)
  ·have g2:leI (.int (ps.length:Int)) (.int 24)=some (.bl false,.z):=by simp [bS];omega
   rw [BR (fun h=>h2 h.2),Bool.false_and]
   exact eE (iq i_c (aT (ag (ai rfl) aw) rfl f) rfl rfl g1 i_c rfl rfl g2) rfl rfl
 ·have g1:leI (.int 1) (.int (ps.length:Int))=some (.bl false,.z):=by simp [bS];omega
  rw [BR (fun h=>h1 h.1),Bool.false_and]
  exact eE (nD i_c (aT (ag (ai rfl) aw) rfl f) rfl rfl g1) rfl rfl
theorem fJ {bnd:L3.D->Sto->Option Sto} {b:SM} (P:Sto->Prop) (hit:Nat->Prop) {ds:List L3.D} {ρ:Sto} (h0:P ρ)
  (m:∀ i d ρ,ds[i]?=some d->P ρ->∃ ρ1 ρ2,bnd d ρ=some ρ1/\P ρ2/\((b ρ1=some (.ok .nx,ρ2)/\¬ hit i)\/∃ q,b ρ1=some (.ok (.rt (.tup q) .z),ρ2)/\hit i)) :
  ∃ ρ',P ρ'/\((cw bnd b ds ρ=some (.ok .nx,ρ')/\∀ i,i < ds.length->¬ hit i)\/∃ q,cw bnd b ds ρ=some (.ok (.rt (.tup q) .z),ρ')/\∃ i,i < ds.length/\hit i):=by
 obtain ⟨ρ',h⟩:=iu (bnd:=bnd) (b:=b) (fun k ρ=>P ρ/\∀ i,i < k->¬ hit i) (fun i r f ρ=>P ρ/\(∃ q,r=.tup q)/\f=.z/\hit i) (ds:=ds) (ρ:=ρ) (k:=0) ⟨h0,fun i h=>by omega⟩ (by
  rintro i d ρ hi ⟨a,g⟩
  rw [BT] at g ⊢
  obtain ⟨ρ1,ρ2,e1,c,h | ⟨q,n,l⟩⟩:=m i d ρ hi a
  ·refine ⟨ρ1,ρ2,e1,.inl ⟨.inl h.1,c,fun j o=>?_⟩⟩
   by_cases z:j=i
   ·subst z;exact h.2
   ·exact g j (by omega)
  ·exact ⟨ρ1,ρ2,e1,.inr ⟨_,_,n,c,⟨q,rfl⟩,rfl,l⟩⟩)
 rcases h with ⟨e,a,g⟩ | ⟨i,r,f,hi,e,a,⟨q,rfl⟩,rfl,l⟩
 ·exact ⟨ρ',a,.inl ⟨e,fun i hi=>g i (by omega)⟩⟩
 ·exact ⟨ρ',a,.inr ⟨q,e,i,hi,by rwa [BT] at l⟩⟩
theorem rM {n i j k:Nat} (h1:i < j) (h2:j < k) (h3:k < n):(i,j,k) ∈ mr n:=by
 refine Ca.mpr ⟨i,List.mem_range.mpr (by omega),Ca.mpr ⟨j - (i+1),List.mem_range.mpr (by omega),BJ.mpr ⟨k - (j+1),List.mem_range.mpr (by omega),?_⟩⟩⟩
 refine Prod.ext rfl (Prod.ext ?_ ?_) <;> simp <;> omega
def rb (ps:List Pt):L3.D->Bool
 | .int i=>decide ((ps.getD i.toNat (0,0)).1 < (ps.getD (i.toNat+1) (0,0)).1)
 | _=>false
theorem tZ (ps:List Pt) (h0:0 < ps.length) (h1:ps.length<=24):bu [(Shd ps,.z)]=some (.ok (.bl ((aQ 0 (ps.length - 1)).all (rb ps)),.z),[(Shd ps,.z)]):=by
 obtain ⟨τ',e,a,rfl⟩:=cr (bnd:=aj 0) (c:=dq) (elt:=bj) (fun τ=>∃ a,τ=[a,some (Shd ps,.z)]) (fun _=>true) (fun d=>.bl (rb ps d)) (ds:=aQ 0 (ps.length - 1)) (τ:=[none,some (Shd ps,.z)]) ⟨none,rfl⟩ (by
  rintro d hd τ ⟨a,rfl⟩
  obtain ⟨i,hi⟩:=List.getElem?_of_mem hd
  obtain ⟨hi,rfl⟩:=bA hi
  have f:ps[i]?=some (ps[i]'(by omega)):=BA _
  have g:ps[i+1]?=some (ps[i+1]'(by omega)):=BA _
  have k:rb ps (.int (0+(i:Int)))=decide ((ps[i]'(by omega)).1 < (ps[i+1]'(by omega)).1):=by
   rw [Int.zero_add]
   show decide ((ps.getD (i:Int).toNat (0,0)).1 < (ps.getD ((i:Int).toNat+1) (0,0)).1)=_
   rw [Int.toNat_natCast,List.getD_eq_getElem?_getD,List.getD_eq_getElem?_getD,f,g]
   rfl
  have a1:ay (Shd ps) (.int (0+(i:Int)))=some (Pd (ps[i]'(by omega)),.z):=aV (by rw [Int.zero_add];exact eL f)
  have a2:ay (Shd ps) (.int (0+(i:Int)+1))=some (Pd (ps[i+1]'(by omega)),.z):=aV (by rw [Int.zero_add];exact eL g)
  have l:ltI (.int (ps[i]'(by omega)).1) (.int (ps[i+1]'(by omega)).1)=some (.bl (rb ps (.int (0+(i:Int)))),.z):=by rw [k];simp [bS]
  generalize rb ps (.int (0+(i:Int)))=c at *
  generalize (0+(i:Int))=j at *
  refine ⟨[some (.int j,.z),some (Shd ps,.z)],_,rfl,rfl,(fun h=>by cases h),fun _=>⟨.val (.bl c) .z,[some (.int j,.z),some (Shd ps,.z)],(.bl c,.z),[some (.int j,.z),some (Shd ps,.z)],?_,rfl,rfl,_,rfl⟩⟩
  unfold bj
  (exists a1,a2,l))
 rw [B9.mpr fun _ _=>rfl] at e
 have o:dH [.int (((ps.map Pd).length:Int) - 1)]=some (aQ 0 (ps.length - 1)):=dw (by simp;omega) (by simp)
 have m:=pL (rb ps) (aQ 0 (ps.length - 1))
 generalize ((aQ 0 (ps.length - 1)).map fun d=>L3.D.bl (rb ps d))=out at *
 have n:ce [some (Shd ps,.z)]=some (.ok (.val (.lst out) .u),[some (Shd ps,.z)]):=bO (ρ1:=[some (Shd ps,.z)]) (rs:=[]) (by (repeat' (first | with_reducible apply dW (h3:=o) | infer_instance | eq_refl))) e (by rw [b8];omega) rfl
 generalize (aQ 0 (ps.length - 1)).all (rb ps)=b at *
 exact aY (ρ:=[some (Shd ps,.z)]) (ρ1:=[some (Shd ps,.z)]) rfl rfl (cj (aT (ag n aw) rfl m) rfl) rfl
theorem wU (ps:List Pt):(aQ 0 (ps.length - 1)).all (rb ps)=true ↔ Rising ps:=by
 rw [List.all_eq_true]
 constructor
 ·intro h
  have st:∀ (i:Nat) (p q:Pt),ps[i]?=some p->ps[i+1]?=some q->p.1 < q.1:=fun i p q b a=>by
   have hi:=(BG.mp a).1
   have:=h (.int (0+(i:Int))) (by unfold aQ;exact BJ.mpr ⟨i,List.mem_range.mpr (by omega),rfl⟩)
   rw [Int.zero_add] at this
   have this:decide ((ps.getD (i:Int).toNat (0,0)).1 < (ps.getD ((i:Int).toNat+1) (0,0)).1)=true:=this
   rw [Int.toNat_natCast,List.getD_eq_getElem?_getD,List.getD_eq_getElem?_getD,b,a] at this
   exact of_decide_eq_true this
  have up:∀ (m i:Nat) (p q:Pt),ps[i]?=some p->ps[i+1+m]?=some q->p.1 < q.1:=by
   intro m
   induction m with
   | zero=>exact fun i p q b a=>st i p q b a
   | succ m ih =>
    intro i p q b a
    have g:=(BG.mp a).1
    have hm:ps[i+1+m]?=some (ps[i+1+m]'(by omega)):=BA _
    exact Int.lt_trans (ih i p _ b hm) (st (i+1+m) _ q hm a)
  intro i j p q f b a
  exact up (j - (i+1)) i p q b (by rwa [show i+1+(j - (i+1))=j by omega])
 ·intro R d hd
  obtain ⟨i,hi⟩:=List.getElem?_of_mem hd
  obtain ⟨hi,rfl⟩:=bA hi
  have c:ps[i]?=some (ps[i]'(by omega)):=BA _
  have e:ps[i+1]?=some (ps[i+1]'(by omega)):=BA _
  rw [Int.zero_add]
  show decide ((ps.getD (i:Int).toNat (0,0)).1 < (ps.getD ((i:Int).toNat+1) (0,0)).1)=true
  rw [Int.toNat_natCast,List.getD_eq_getElem?_getD,List.getD_eq_getElem?_getD,c,e]
  exact BQ (R i (i+1) _ _ (by omega) c e)
theorem ll_b1 {ps:List Pt} {i j k:Nat} {p q r:Pt} (d:ps[i]?=some p) (c:ps[j]?=some q) (e:ps[k]?=some r) (sp:Small p) (sq:Small q):bW [some (Shd ps,.z),some (.int (i:Int),.z),some (.int (j:Int),.z),some (.int (k:Int),.z)]=some (.ok (if aL p q r=0 then .rt (.tup [Pd p,Pd q,Pd r]) .z else .nx),[some (Shd ps,.z),some (.int (i:Int),.z),some (.int (j:Int),.z),some (.int (k:Int),.z)]):=by
 have b:=mM p q r (Small.sub sp sq).1 (Small.sub sp sq).2
 have a1:ay (Shd ps) (.int (i:Int))=some (Pd p,.z):=aV (eL d)
 have a2:ay (Shd ps) (.int (j:Int))=some (Pd q,.z):=aV (eL c)
 have a:ay (Shd ps) (.int (k:Int))=some (Pd r,.z):=aV (eL e)
 have eq:eqX (.int (aL p q r)) (.int 0)=some (.bl (decide (aL p q r=0)),.z):=rfl
 by_cases h:aL p q r=0
 ·rw [if_pos h]
  rw [BQ h] at eq
  generalize L3.D.int (aL p q r)=B at *
  generalize L3.D.int (i:Int)=I at *
  generalize L3.D.int (j:Int)=J at *
  generalize L3.D.int (k:Int)=KK at *
  generalize Shd ps=T at *
  generalize Pd p=X1 at *
  generalize Pd q=X2 at *
  generalize Pd r=X3 at *
  unfold bW
  refine fQ (b:=true) (dQ (a9 (au b (ag (a9 (ai rfl) (ai rfl) rfl rfl a1) (ag (a9 (ai rfl) (ai rfl) rfl rfl a2) (ag (a9 (ai rfl) (ai rfl) rfl rfl a) aw))) rfl rfl rfl) i_c rfl rfl eq) rfl) rfl ?_
  apply cj
  ·exists a1,a2,a
  ·rfl
 ·rw [if_neg h]
  rw [BR h] at eq
  generalize L3.D.int (aL p q r)=B at *
  generalize L3.D.int (i:Int)=I at *
  generalize L3.D.int (j:Int)=J at *
  generalize L3.D.int (k:Int)=KK at *
  generalize Shd ps=T at *
  generalize Pd p=X1 at *
  generalize Pd q=X2 at *
  generalize Pd r=X3 at *
  unfold bW
  exact dX (b:=false) (dQ (a9 (au b (ag (a9 (ai rfl) (ai rfl) rfl rfl a1) (ag (a9 (ai rfl) (ai rfl) rfl rfl a2) (ag (a9 (ai rfl) (ai rfl) rfl rfl a) aw))) rfl rfl rfl) i_c rfl rfl eq) rfl) rfl rfl
theorem ll_b2 {ps:List Pt} (A:ps.length<=24) (l:∀ p ∈ ps,Small p) {i j:Nat} {p q:Pt} (n:i < j) (g:ps[i]?=some p) (a:ps[j]?=some q) (v3:Option (L3.D × Fl)):∃ w,(bJ [some (Shd ps,.z),some (.int (i:Int),.z),some (.int (j:Int),.z),v3]=some (.ok .nx,[some (Shd ps,.z),some (.int (i:Int),.z),some (.int (j:Int),.z),w])/\∀ k r,j < k->ps[k]?=some r->aL p q r ≠ 0)\/∃ x,bJ [some (Shd ps,.z),some (.int (i:Int),.z),some (.int (j:Int),.z),v3]=some (.ok (.rt (.tup x) .z),[some (Shd ps,.z),some (.int (i:Int),.z),some (.int (j:Int),.z),w])/\∃ k r,j < k/\ps[k]?=some r/\aL p q r=0:=by
 have y:=(BG.mp a).1
 have t:cR [Shd ps]=some (.int (ps.length:Int),.z):=by
  have:=c4 (ps.map Pd)
  rwa [BF] at this
 have f:fW [.int ((j:Int)+1),.int (ps.length:Int)]=some (aQ ((j:Int)+1) (ps.length - (j+1))):=js (by omega) (by omega) (by omega)
 obtain ⟨ρ',⟨w,rfl⟩,h⟩:=fJ (bnd:=aj 3) (b:=bW) (fun ρ=>∃ w,ρ=[some (Shd ps,.z),some (.int (i:Int),.z),some (.int (j:Int),.z),w]) (fun m=>∃ r,ps[j+1+m]?=some r/\aL p q r=0) (ds:=aQ ((j:Int)+1) (ps.length - (j+1))) (ρ:=[some (Shd ps,.z),some (.int (i:Int),.z),some (.int (j:Int),.z),v3]) ⟨v3,rfl⟩ (by
  rintro m d ρ hd ⟨w,rfl⟩
  obtain ⟨hm,rfl⟩:=bA hd
  have c:ps[j+1+m]?=some (ps[j+1+m]'(by omega)):=BA _
  have one:=ll_b1 g a c (l p (BH g)) (l q (BH a))
  rw [show ((j+1+m:Nat):Int)=(j:Int)+1+(m:Int) by omega] at one
  refine ⟨[some (Shd ps,.z),some (.int (i:Int),.z),some (.int (j:Int),.z),some (.int ((j:Int)+1+(m:Int)),.z)],[some (Shd ps,.z),some (.int (i:Int),.z),some (.int (j:Int),.z),some (.int ((j:Int)+1+(m:Int)),.z)],rfl,⟨_,rfl⟩,?_⟩
  by_cases h:aL p q (ps[j+1+m]'(by omega))=0
  ·rw [if_pos h] at one
   exact .inr ⟨_,one,_,c,h⟩
  ·rw [if_neg h] at one
   exact .inl ⟨one,fun ⟨r,h1,h2⟩=>by rw [c] at h1;cases h1;exact h h2⟩)
 have run:∀ {o:Except L3.D Flw},cw (aj 3) bW (aQ ((j:Int)+1) (ps.length - (j+1))) [some (Shd ps,.z),some (.int (i:Int),.z),some (.int (j:Int),.z),v3]=some (o,[some (Shd ps,.z),some (.int (i:Int),.z),some (.int (j:Int),.z),w])->bJ [some (Shd ps,.z),some (.int (i:Int),.z),some (.int (j:Int),.z),v3]=some (o,[some (Shd ps,.z),some (.int (i:Int),.z),some (.int (j:Int),.z),w]):=fun {o} e=>by
  unfold bJ
  apply dF
  ·(repeat' (first | with_reducible apply dW (h3:=f) | infer_instance | exact t | eq_refl))
  ·rfl
  ·exact e
 rcases h with ⟨e,s⟩ | ⟨x,e,m,hm,r,h1,h2⟩
 ·refine ⟨w,.inl ⟨run e,fun k r v f h0=>?_⟩⟩
  have u:=(BG.mp f).1
  exact s (k - (j+1)) (by rw [b8];omega) ⟨r,by rwa [show j+1+(k - (j+1))=k by omega],h0⟩
 ·exact ⟨w,.inr ⟨x,run e,j+1+m,r,by omega,h1,h2⟩⟩
theorem ll_b3 {ps:List Pt} (u:ps.length<=24) (t:∀ p ∈ ps,Small p) {i:Nat} {p:Pt} (s:ps[i]?=some p) (v2 v3:Option (L3.D × Fl)):∃ c a,(bV [some (Shd ps,.z),some (.int (i:Int),.z),v2,v3]=some (.ok .nx,[some (Shd ps,.z),some (.int (i:Int),.z),c,a])/\∀ j k q r,i < j->j < k->ps[j]?=some q->ps[k]?=some r->aL p q r ≠ 0)\/∃ x,bV [some (Shd ps,.z),some (.int (i:Int),.z),v2,v3]=some (.ok (.rt (.tup x) .z),[some (Shd ps,.z),some (.int (i:Int),.z),c,a])/\∃ j k q r,i < j/\j < k/\ps[j]?=some q/\ps[k]?=some r/\aL p q r=0:=by
 have B:=(BG.mp s).1
 have v:cR [Shd ps]=some (.int (ps.length:Int),.z):=by
  have:=c4 (ps.map Pd)
  rwa [BF] at this
 have f:fW [.int ((i:Int)+1),.int (ps.length:Int)]=some (aQ ((i:Int)+1) (ps.length - (i+1))):=js (by omega) (by omega) (by omega)
 obtain ⟨ρ',⟨c,a,rfl⟩,h⟩:=fJ (bnd:=aj 2) (b:=bJ) (fun ρ=>∃ c a,ρ=[some (Shd ps,.z),some (.int (i:Int),.z),c,a]) (fun m=>∃ k q r,i+1+m < k/\ps[i+1+m]?=some q/\ps[k]?=some r/\aL p q r=0) (ds:=aQ ((i:Int)+1) (ps.length - (i+1))) (ρ:=[some (Shd ps,.z),some (.int (i:Int),.z),v2,v3]) ⟨v2,v3,rfl⟩ (by
  rintro m d ρ hd ⟨c,a,rfl⟩
  obtain ⟨hm,rfl⟩:=bA hd
  have l:ps[i+1+m]?=some (ps[i+1+m]'(by omega)):=BA _
  obtain ⟨w,one⟩:=ll_b2 u t (i:=i) (j:=i+1+m) (by omega) s l a
  rw [show ((i+1+m:Nat):Int)=(i:Int)+1+(m:Int) by omega] at one
  refine ⟨[some (Shd ps,.z),some (.int (i:Int),.z),some (.int ((i:Int)+1+(m:Int)),.z),a],[some (Shd ps,.z),some (.int (i:Int),.z),some (.int ((i:Int)+1+(m:Int)),.z),w],rfl,⟨_,_,rfl⟩,?_⟩
  rcases one with ⟨e,n⟩ | ⟨x,e,k,r,h1,h2,h3⟩
  ·exact .inl ⟨e,fun ⟨k,q,r,h1,h2,h3,g⟩=>by rw [l] at h2;cases h2;exact n k r h1 h3 g⟩
  ·exact .inr ⟨x,e,k,_,r,h1,l,h2,h3⟩)
 have run:∀ {o:Except L3.D Flw},cw (aj 2) bJ (aQ ((i:Int)+1) (ps.length - (i+1))) [some (Shd ps,.z),some (.int (i:Int),.z),v2,v3]=some (o,[some (Shd ps,.z),some (.int (i:Int),.z),c,a])->bV [some (Shd ps,.z),some (.int (i:Int),.z),v2,v3]=some (o,[some (Shd ps,.z),some (.int (i:Int),.z),c,a]):=fun {o} e=>by
  unfold bV
  apply dF
  ·(repeat' (first | with_reducible apply dW (h3:=f) | infer_instance | exact v | eq_refl))
  ·rfl
  ·exact e
 rcases h with ⟨e,n⟩ | ⟨x,e,m,hm,k,q,r,h1,h2,h3,g⟩
 ·refine ⟨c,a,.inl ⟨run e,fun j k q r A E y f h0=>?_⟩⟩
  have C:=(BG.mp f).1
  exact n (j - (i+1)) (by rw [b8];omega) ⟨k,q,r,by omega,by rwa [show i+1+(j - (i+1))=j by omega],f,h0⟩
 ·exact ⟨c,a,.inr ⟨x,run e,i+1+m,k,q,r,by omega,h1,h2,h3,g⟩⟩
theorem uU {ps:List Pt} (C:ps.length<=24) (B:∀ p ∈ ps,Small p):∃ d,fy [(Shd ps,.z)]=some (.ok (d,.z),[(Shd ps,.z)])/\(cz d=true ↔ NoLine ps):=by
 have E:cR [Shd ps]=some (.int (ps.length:Int),.z):=by
  have:=c4 (ps.map Pd)
  rwa [BF] at this
 have u:dH [.int (ps.length:Int)]=some (aQ 0 ps.length):=dw (by omega) (by omega)
 obtain ⟨ρ',⟨l,c,a,rfl⟩,h⟩:=fJ (bnd:=aj 1) (b:=bV) (fun ρ=>∃ l c a,ρ=[some (Shd ps,.z),l,c,a]) (fun i=>∃ j k p q r,i < j/\j < k/\ps[i]?=some p/\ps[j]?=some q/\ps[k]?=some r/\aL p q r=0) (ds:=aQ 0 ps.length) (ρ:=[some (Shd ps,.z),none,none,none]) ⟨none,none,none,rfl⟩ (by
  rintro i d ρ hd ⟨l,c,a,rfl⟩
  obtain ⟨hi,rfl⟩:=bA hd
  have o:ps[i]?=some (ps[i]'hi):=BA _
  obtain ⟨w,D,one⟩:=ll_b3 C B o c a
  rw [Int.zero_add]
  refine ⟨[some (Shd ps,.z),some (.int (i:Int),.z),c,a],[some (Shd ps,.z),some (.int (i:Int),.z),w,D],rfl,⟨_,_,_,rfl⟩,?_⟩
  rcases one with ⟨e,t⟩ | ⟨x,e,j,k,q,r,h1,h2,h3,f,g⟩
  ·exact .inl ⟨e,fun ⟨j,k,p,q,r,h1,h2,h3,f,g,m⟩=>by rw [o] at h3;cases h3;exact t j k q r h1 h2 f g m⟩
  ·exact .inr ⟨x,e,j,k,_,q,r,h1,h2,o,h3,f,g⟩)
 have im:bF dH (aa (ao cR (aa (ac 0) ae)) ae) [some (Shd ps,.z),none,none,none]=some (.ok ([],aQ 0 ps.length),[some (Shd ps,.z),none,none,none]):=by
  (repeat' (first | with_reducible apply dW (h3:=u) | infer_instance | exact E | eq_refl))
 rcases h with ⟨e,t⟩ | ⟨x,e,i,hi,j,k,p,q,r,h1,h2,h3,f,g,m⟩
 ·refine ⟨.non,aY (ρ:=[some (Shd ps,.z),none,none,none]) (ρ1:=[some (Shd ps,.z),l,c,a]) rfl rfl (ak (dF im rfl e) (cj i_c rfl)) rfl,fun _=>?_,fun _=>rfl⟩
  intro i j k p q r s n v y u h0
  have A:=(BG.mp v).1
  exact t i (by rw [b8];exact A) ⟨j,k,p,q,r,s,n,v,y,u,h0⟩
 ·refine ⟨.tup x,aY (ρ:=[some (Shd ps,.z),none,none,none]) (ρ1:=[some (Shd ps,.z),l,c,a]) rfl rfl (eP (dF im rfl e)) rfl,fun h=>(by cases h),fun h=>?_⟩
  exact absurd m (h i j k p q r h1 h2 h3 f g)
theorem sg {S:List L3.D} {i j k:Int} {p q r:Pt} {v2:Option (L3.D × Fl)} (a1:ay (.tup S) (.int i)=some (Pd p,.z)) (a2:ay (.tup S) (.int j)=some (Pd q,.z)) (n:ay (.tup S) (.int k)=some (Pd r,.z)) (f:Small p) (e:Small q) (h0:aL p q r=0):aI [some (.tup S,.z),some (.tup [.int i,.int j,.int k],.z),v2]=some (.ok (.rt (.tup [Pd p,Pd q,Pd r]) .z),[some (.tup S,.z),some (.tup [.int i,.int j,.int k],.z),some (.tup [Pd p,Pd q,Pd r],.z)]):=by
 have b:=kC p q r (Small.sub f e).1 (Small.sub f e).2
 have one:∀ (x d:L3.D) (a:Option (L3.D × Fl)),ay (.tup S) x=some (d,.z)->ba [some (x,.z),some (.tup S,.z)]=some (.ok (.val d .z),[some (x,.z),some (.tup S,.z)]):=fun x d a h=>by unfold ba;(exists h)
 have c:bR [some (.tup S,.z),some (.tup [.int i,.int j,.int k],.z),v2]=some (.ok (.val (.lst [Pd p,Pd q,Pd r]) .u),[some (.tup S,.z),some (.tup [.int i,.int j,.int k],.z),v2]):=by
  refine bO (ρ1:=[some (.tup S,.z),some (.tup [.int i,.int j,.int k],.z),v2]) (ρ2:=[some (.tup S,.z),some (.tup [.int i,.int j,.int k],.z),v2]) (ds:=[.int i,.int j,.int k]) (rs:=[.pl 1]) (τ:=[some (.int k,.z),some (.tup S,.z)]) rfl ?_ (by simp) rfl
  have e1:=one (.int i) _ none a1
  have m:=one (.int j) _ none a2
  have l:=one (.int k) _ none n
  have g:∀ d a,aj 0 d [a,some (L3.D.tup S,.z)]=some [some (d,.z),some (.tup S,.z)]:=fun _ _=>rfl
  have cs:nQ [none,some 0] (aA bP (us [some (L3.D.tup S,.z),some (.tup [.int i,.int j,.int k],.z),v2] (pls [R3.pl 1])) [some (.tup S,.z),some (.tup [.int i,.int j,.int k],.z),v2])=[none,some (.tup S,.z)]:=rfl
  rw [cs]
  simp only [bM,g,dq,ad,aN,if_true,e1,m,l,cL,nol]
 unfold aI
 apply ak (ρ1:=[some (.tup S,.z),some (.tup [.int i,.int j,.int k],.z),some (.tup [Pd p,Pd q,Pd r],.z)])
 ·(repeat' (first | with_reducible exact c | infer_instance | eq_refl))
 ·apply fQ
  ·nomatch [b]
  ·exact BQ h0
  ·exact cj (ai rfl) rfl
theorem xZ {ps:List Pt} (J:ps.length<=24) (l:∀ p ∈ ps,Small p):∃ d,bh [(Shd ps,.z)]=some (.ok (d,.z),[(Shd ps,.z)])/\(cz d=true ↔ NoLine ps):=by
 have g:=jJ ps.length (by omega)
 have K:cR [Shd ps]=some (.int (ps.length:Int),.z):=by
  have:=c4 (ps.map Pd)
  rwa [BF] at this
 by_cases o:NoLine ps
 ·exact ⟨.non,pX ps J l o,fun _=>o,fun _=>rfl⟩
 obtain ⟨ρ',⟨v,a,rfl⟩,h⟩:=fJ (bnd:=aj 1) (b:=aI) (fun ρ=>∃ v a,ρ=[some (Shd ps,.z),v,a]) (fun m=>∃ t p q r,(mr ps.length)[m]?=some t/\ps[t.1]?=some p/\ps[t.2.1]?=some q/\ps[t.2.2]?=some r/\aL p q r=0) (ds:=(mr ps.length).map Td) (ρ:=[some (Shd ps,.z),none,none]) ⟨none,none,rfl⟩ (by
  rintro m d ρ hd ⟨v,a,rfl⟩
  rw [BK,Bw] at hd
  obtain ⟨t,g,rfl⟩:=hd
  obtain ⟨N,M,L⟩:=nc (BH g)
  have c:ps[t.1]?=some (ps[t.1]'(by omega)):=BA _
  have f:ps[t.2.1]?=some (ps[t.2.1]'(by omega)):=BA _
  have s:ps[t.2.2]?=some (ps[t.2.2]'(by omega)):=BA _
  refine ⟨[some (Shd ps,.z),some (Td t,.z),a],[some (Shd ps,.z),some (Td t,.z),some (.tup [Pd (ps[t.1]'(by omega)),Pd (ps[t.2.1]'(by omega)),Pd (ps[t.2.2]'(by omega))],.z)],rfl,⟨_,_,rfl⟩,?_⟩
  by_cases h0:aL (ps[t.1]'(by omega)) (ps[t.2.1]'(by omega)) (ps[t.2.2]'(by omega))=0
  ·exact .inr ⟨_,sg (v2:=a) (aV (eL c)) (aV (eL f)) (aV (eL s)) (l _ (BH c)) (l _ (BH f)) h0,t,_,_,_,g,c,f,s,h0⟩
  ·refine .inl ⟨nG (v2:=a) (aV (eL c)) (aV (eL f)) (aV (eL s)) (l _ (BH c)) (l _ (BH f)) h0,fun ⟨t',p,q,r,e1,B,A,C,G⟩=>?_⟩
   rw [g] at e1
   cases e1
   rw [c] at B
   rw [f] at A
   rw [s] at C
   cases B
   cases A
   cases C
   exact h0 G)
 rcases h with ⟨e,I⟩ | ⟨x,e,_⟩
 ·refine absurd (fun i j k p q r y w F E D h0=>?_) o
  have H:=(BG.mp D).1
  obtain ⟨m,hm⟩:=List.getElem?_of_mem (rM (n:=ps.length) y w H)
  exact I m (by rw [BF];exact (BG.mp hm).1) ⟨_,p,q,r,hm,F,E,D,h0⟩
 ·refine ⟨.tup x,aY (ρ:=[some (Shd ps,.z),none,none]) (ρ1:=[some (Shd ps,.z),v,a]) rfl rfl (eP (dF (rs:=[.val (.lst ((mr ps.length).map Td)) .u]) (ρ1:=[some (Shd ps,.z),none,none]) ?_ rfl e)) rfl,fun h=>(by cases h),fun h=>absurd h o⟩
  exact ip (au g (ag (aT (ag (ai rfl) aw) rfl K) aw) rfl rfl rfl) rfl rfl
theorem uH:∀ (l ns:List Int),(l.foldl met ns).length<=ns.length+l.length
 | [],ns=>by simp
 | y :: l,ns=>by
  have h:=uH l (met ns y)
  have:(met ns y).length<=ns.length+1:=by
   unfold met
   split <;> simp
  rw [List.foldl_cons,BW]
  omega
theorem uI:∀ (zs ns:List Int),(zs.foldl met ns).length=ns.length+zs.length ↔ zs.Nodup/\∀ z ∈ zs,z ∉ ns
 | [],ns=>by simp
 | z :: zs,ns=>by
  rw [List.foldl_cons]
  by_cases h:z ∈ ns
  ·have e:met ns z=ns:=by unfold met;rw [if_pos h]
   rw [e]
   have:=uH zs ns
   constructor
   ·intro h1
    rw [BW] at h1
    omega
   ·intro h1
    exact absurd h (h1.2 z Bt)
  ·have e:met ns z=ns ++ [z]:=by unfold met;rw [if_neg h]
   rw [e]
   have b:=uI zs (ns ++ [z])
   rw [BV,List.length_singleton] at b
   rw [BW,show ns.length+(zs.length+1)=ns.length+1+zs.length by omega,b,List.nodup_cons]
   constructor
   ·rintro ⟨h1,h2⟩
    refine ⟨⟨fun hz=>?_,h1⟩,fun y a=>?_⟩
    ·have:=h2 z hz
     simp at this
    ·rcases Bz.mp a with rfl | a
     ·exact h
     ·have:=h2 y a
      simp at this
      exact this.1
   ·rintro ⟨⟨h1,h2⟩,h3⟩
    refine ⟨h2,fun y a hm=>?_⟩
    rcases BD.mp hm with hm | hm
    ·exact h3 y (Bu _ a) hm
    ·rw [B1.mp hm] at a
     exact h1 a
theorem qD (zs:List Int):dst zs=true ↔ zs.Nodup:=by
 unfold dst
 rw [decide_eq_true_iff]
 have:=uI zs []
 rw [List.length_nil,BT] at this
 rw [this]
 simp
abbrev Py2 (p:Pt):PyData:=.tuple [.int p.1,.int p.2]
theorem oK:∀ ps:List Pt,dI (ps.map Pd)=some (ps.map Py2)/\PyData.canLayAll0 (ps.map Py2)=true/\PyData.depthAll (ps.map Py2)<=1
 | []=>⟨rfl,rfl,by simp [PyData.depthAll]⟩
 | p :: ps=>by
  obtain ⟨a,b,c⟩:=oK ps
  refine ⟨?_,by simp [PyData.canLayAll0,PyData.canLay0,b],by simp [PyData.depthAll,PyData.depth];omega⟩
  show (match pyD (Pd p),dI (ps.map Pd) with | some p,some ps=>some (p :: ps) | _,_=>none)=_
  rw [a]
  rfl
theorem qB:∀ l m:List Pt,PyData.eqvAll (l.map Py2) (m.map Py2)=decide (l=m)
 | [],[]=>by simp [PyData.eqvAll]
 | [],_ :: _=>by simp [PyData.eqvAll]
 | _ :: _,[]=>by simp [PyData.eqvAll]
 | (a,b) :: l,(c,d) :: m=>by
  rw [BP,BP,PyData.eqvAll,qB l m]
  simp [PyData.eqv,PyData.eqvAll,Bool.decide_and,Bool.and_assoc]
  rfl
theorem yi (l m:List Pt):eqA (.lst (l.map Pd)) (.lst (m.map Pd))=some (decide (l=m)):=by
 obtain ⟨a,b,c⟩:=oK l
 obtain ⟨d,f,g⟩:=oK m
 have e:pyD (.lst (l.map Pd))=some (.list (l.map Py2)):=by unfold pyD;rw [a];rfl
 have p2:pyD (.lst (m.map Pd))=some (.list (m.map Py2)):=by unfold pyD;rw [d];rfl
 show eqP _ _=_
 unfold eqP
 rw [e,p2]
 have:((PyData.list (l.map Py2)).canLay0 && (PyData.list (m.map Py2)).canLay0 && decide (min (PyData.list (l.map Py2)).depth (PyData.list (m.map Py2)).depth<=30))=true:=by
  simp [PyData.canLay0,b,f,PyData.depth]
  omega
 show (if _ then _ else _)=_
 rw [if_pos this,PyData.eqv,qB]
theorem yx:∀ (l m:List Nat),l.Perm m->l.Pairwise (· < ·)->m.Pairwise (· < ·)->l=m
 | [],m,h,_,_=>(List.nil_perm.mp h).symm
 | x :: l,[],h,_,_=>by cases List.perm_nil.mp h
 | x :: l,y :: m,h,h1,h2=>by
  rw [List.pairwise_cons] at h1 h2
  have e:x=y:=by
   have b:=h.mem_iff.mp (Bt (a:=x) (l:=l))
   have c:=h.mem_iff.mpr (Bt (a:=y) (l:=m))
   rcases Bz.mp b with e | b
   ·exact e
   ·rcases Bz.mp c with e | c
    ·exact e.symm
    ·have:=h1.1 y c
     have:=h2.1 x b
     omega
  subst e
  rw [yx l m h.cons_inv h1.2 h2.2]
theorem oq {ps:List Pt} (v:ps.length < 64) (nd:(ps.map (·.1)).Nodup):∃ qs:List Pt,lu [Shd ps]=some (.lst (qs.map Pd),.u)/\(ps=qs ↔ Rising ps):=by
 have A:∀ i j:Nat,∀ p q,ps[i]?=some p->ps[j]?=some q->p.1=q.1->i=j:=fun i j p q o l e=>by
  have h1:(ps.map (·.1))[i]?=some p.1:=by rw [BK,o];rfl
  have h2:(ps.map (·.1))[j]?=some q.1:=by rw [BK,l];rfl
  obtain ⟨H,e1⟩:=BG.mp h1
  obtain ⟨K,g⟩:=BG.mp h2
  exact (List.getElem_inj nd).mp (by rw [e1,g,e])
 have d:∀ i (h:i < ps.length),(ps.map fun p=>[p.1,p.2]).getD i []=[(ps[i]'h).1,(ps[i]'h).2]:=fun i h=>by
  rw [List.getD_eq_getElem?_getD,BK,BA h]
  rfl
 have t:∀ i (h:i < ps.length),ps.getD i (0,0)=ps[i]'h:=fun i h=>by
  rw [List.getD_eq_getElem?_getD,BA h]
  rfl
 have ln:(ps.map fun p=>[p.1,p.2]).length=ps.length:=BF ..
 obtain ⟨is,e1,g,y⟩:=tj (ns:=ps.map fun p=>[p.1,p.2]) (by rw [ln];exact v) (by
  unfold u3
  rw [Bool.or_eq_true]
  refine .inl (List.all_eq_true.mpr fun n F=>?_)
  obtain ⟨p,_,rfl⟩:=BJ.mp F
  rfl) (fun i j hi f e=>by
   rw [ln] at hi f
   rw [d i hi,d j f] at e
   exact A i j _ _ (BA hi) (BA f) (by injection e))
 rw [ln] at g
 have m:∀ i ∈ is,i < ps.length:=fun i hi=>by simpa using g.mem_iff.mp hi
 have I:is.length=ps.length:=by rw [g.length_eq,List.length_range]
 refine ⟨is.map fun i=>ps.getD i (0,0),?_,fun h=>?_,fun R=>?_⟩
 ·have es:(ps.map fun p=>[p.1,p.2]).map ntD=ps.map Pd:=by rw [Cc];rfl
  rw [es] at e1
  show ot (.tup (ps.map Pd))=_
  rw [e1,Cc]
  have:(is.map fun i=>ntD ((ps.map fun p=>[p.1,p.2]).getD i []))=is.map (Pd ∘ fun i=>ps.getD i (0,0)):=Cd fun i hi=>by
   rw [d i (m i hi)]
   show _=Pd (ps.getD i (0,0))
   rw [t i (m i hi)]
   rfl
  rw [this]
 ·intro i j p q c o l
  have J:=(BG.mp l).1
  have at':∀ (k:Nat) (x:Pt),ps[k]?=some x->∃ a,is[k]?=some a/\a < ps.length/\ps[a]?=some x:=fun k x w=>by
   rw [h,BK,Bw] at w
   obtain ⟨a,s,e⟩:=w
   have al:=m a (BH s)
   refine ⟨a,s,al,?_⟩
   rw [t a al] at e
   rw [<- e]
   exact BA al
  obtain ⟨a,s,al,B⟩:=at' i p o
  obtain ⟨b,E,bl,z⟩:=at' j q l
  have lt:=y i j a b c s E
  rw [d a al,d b bl] at lt
  have G:ps[a]'al=p:=by rw [BA al] at B;exact Ce B
  have C:ps[b]'bl=q:=by rw [BA bl] at z;exact Ce z
  rw [G,C,HT.lexLt_cons] at lt
  by_cases ex:p.1=q.1
  ·have:=A i j p q o l ex
   omega
  ·rw [if_neg ex] at lt
   exact of_decide_eq_true lt
 ·have up:is.Pairwise (· < ·):=by
   rw [List.pairwise_iff_getElem]
   intro i j hi f c
   have al:=m is[i] (List.getElem_mem hi)
   have bl:=m is[j] (List.getElem_mem f)
   have lt:=y i j is[i] is[j] c (BA hi) (BA f)
   rw [d _ al,d _ bl] at lt
   by_cases D:is[i] < is[j]
   ·exact D
   ·exfalso
    by_cases he:is[i]=is[j]
    ·have:HT.lexLt [(ps[is[i]]'al).1,(ps[is[i]]'al).2] [(ps[is[j]]'bl).1,(ps[is[j]]'bl).2]=true:=lt
     simp only [he] at this
     rw [jU] at this
     cases this
    ·have r:=R is[j] is[i] _ _ (by omega) (BA bl) (BA al)
     rw [HT.lexLt_cons,if_neg (by omega)] at lt
     have:=of_decide_eq_true lt
     omega
  have:is=List.range ps.length:=yx _ _ g up List.pairwise_lt_range
  rw [this]
  refine List.ext_getElem? fun i=>?_
  rw [BK]
  by_cases hi:i < ps.length
  ·rw [List.getElem?_range hi]
   show _=some (ps.getD i (0,0))
   rw [t i hi]
   exact BA hi
  ·rw [List.getElem?_eq_none (by omega),List.getElem?_eq_none (by simp;omega)]
   rfl
def Th (d:L3.D):Prop:=nox d=true/\∀ xs,d=.tup xs->(∀ x ∈ xs,okp x=true)/\xs.length<=60/\∀ ps:List Pt,xs=ps.map Pd->∀ p ∈ ps,Small p
theorem ly {d:L3.D} {x:Bool} (h:(cOr (cy (cB (mUn (cS "tuple") (ac 0)))) (cy (cB (am bo (aa (ac 0) ae))))) [some (d,.z)]=some (.ok (!x),[some (d,.z)])) {y:Bool} (h2:x=true->(cH (am bu (aa (ac 0) ae)) (af isN (am bh (aa (ac 0) ae)) (mC .non))) [some (d,.z)]=some (.ok (.val (.bl y) .z),[some (d,.z)])):bc [(d,.z)]=some (.ok (.bl (x && y),.z),[(d,.z)]):=by
 cases x with
 | false=>exact aY (ρ:=[some (d,.z)]) (ρ1:=[some (d,.z)]) rfl rfl (eP (fQ h rfl (cj i_c rfl))) rfl
 | true=>exact aY (ρ:=[some (d,.z)]) (ρ1:=[some (d,.z)]) rfl rfl (ak (dX h rfl rfl) (cj (h2 rfl) rfl)) rfl
theorem hJ {d:L3.D} {x:Bool} (h:(cOr (cy (cB (mUn (cS "tuple") (ac 0)))) (cy (cB (am bz (aa (ac 0) ae))))) [some (d,.z)]=some (.ok (!x),[some (d,.z)])) {y:Bool} (h2:x=true->(cH (af eqX (ao o6 (aa (ac 0) ae)) (ao lu (aa (ac 0) ae))) (af isN (am fy (aa (ac 0) ae)) (mC .non))) [some (d,.z)]=some (.ok (.val (.bl y) .z),[some (d,.z)])):cu [(d,.z)]=some (.ok (.bl (x && y),.z),[(d,.z)]):=by
 cases x with
 | false=>exact aY (ρ:=[some (d,.z)]) (ρ1:=[some (d,.z)]) rfl rfl (eP (fQ h rfl (cj i_c rfl))) rfl
 | true=>exact aY (ρ:=[some (d,.z)]) (ρ1:=[some (d,.z)]) rfl rfl (ak (dX h rfl rfl) (cj (h2 rfl) rfl)) rfl
theorem oB {d:L3.D} (h:Th d):∃ b,bc [(d,.z)]=some (.ok (.bl b,.z),[(d,.z)])/\cu [(d,.z)]=some (.ok (.bl b,.z),[(d,.z)]):=by
 by_cases q:∃ xs,d=.tup xs
 ·obtain ⟨xs,rfl⟩:=q
  obtain ⟨p,r,m⟩:=h.2 xs rfl
  have a:cS "tuple" (.tup xs)=some (.bl true,.z):=rfl
  have ap:=vU p (by omega)
  have o:∀ {x:Bool},bo [(.tup xs,.z)]=some (.ok (.bl x,.z),[(.tup xs,.z)])->(cOr (cy (cB (mUn (cS "tuple") (ac 0)))) (cy (cB (am bo (aa (ac 0) ae))))) [some (.tup xs,.z)]=some (.ok (!x),[some (.tup xs,.z)]):=fun {x} e=>je (cn (dQ (iR (ai rfl) rfl a) rfl)) rfl (cn (dQ (au e (ag (ai rfl) aw) rfl rfl rfl) rfl))
  have cl:∀ {x:Bool},bz [(.tup xs,.z)]=some (.ok (.bl x,.z),[(.tup xs,.z)])->(cOr (cy (cB (mUn (cS "tuple") (ac 0)))) (cy (cB (am bz (aa (ac 0) ae))))) [some (.tup xs,.z)]=some (.ok (!x),[some (.tup xs,.z)]):=fun {x} e=>je (cn (dQ (iR (ai rfl) rfl a) rfl)) rfl (cn (dQ (au e (ag (ai rfl) aw) rfl rfl rfl) rfl))
  cases l:xs.all cv with
  | false =>
   rw [l,Bool.and_false] at ap
   exact ⟨false,ly (y:=false) (o ap) (fun z=>by cases z),hJ (y:=false) (cl (xP p l)) (fun z=>by cases z)⟩
  | true =>
   obtain ⟨ps,rfl⟩:=uh l
   rw [l,Bool.and_true,BF] at ap
   rw [BF] at r
   have m:=m ps rfl
   have f:=uR ps r
   cases g:decide (1<=ps.length/\ps.length<=24) with
   | false =>
    rw [g] at ap f
    exact ⟨false,ly (y:=false) (o ap) (fun z=>by cases z),hJ (y:=false) (cl f) (fun z=>by cases z)⟩
   | true =>
    rw [g] at ap f
    obtain ⟨h1,h2⟩:=of_decide_eq_true g
    have C:=tZ ps (by omega) h2
    obtain ⟨d1,f1,F⟩:=xZ h2 m
    obtain ⟨k,f2,A⟩:=uU h2 m
    have E:cz d1=cz k:=by rw [Bool.eq_iff_iff,F,A]
    have t:isN d1 .non=some (.bl (cz d1),.z):=rfl
    have B:isN k .non=some (.bl (cz k),.z):=rfl
    rw [Bool.true_and] at f
    have s:=wU ps
    generalize (aQ 0 (ps.length - 1)).all (rb ps)=c at *
    have e1:bc [(Shd ps,.z)]=some (.ok (.bl (c && cz d1),.z),[(Shd ps,.z)]):=by
     have:=ly (y:=c && cz d1) (o ap) fun _=>o9 (au C (ag (ai rfl) aw) rfl rfl rfl) rfl fun _=>a9 (au f1 (ag (ai rfl) aw) rfl rfl rfl) i_c rfl rfl t
     rwa [Bool.true_and] at this
    refine ⟨c && cz d1,e1,?_⟩
    cases hd:dst (ps.map (·.1)) with
    | false =>
     rw [hd] at f
     have g:c=false:=by
      cases c with
      | false=>rfl
      | true =>
       have R:=s.mp rfl
       have:(ps.map (·.1)).Nodup:=by
        unfold List.Nodup
        rw [List.pairwise_map,List.pairwise_iff_getElem]
        intro i j hi w n
        have:=R i j _ _ n (BA hi) (BA w)
        omega
       rw [(qD _).mpr this] at hd
       cases hd
     rw [g,Bool.false_and]
     exact hJ (y:=false) (cl f) (fun z=>by cases z)
    | true =>
     rw [hd] at f
     obtain ⟨qs,st,iff⟩:=oq (by omega) ((qD _).mp hd)
     have eq:eqX (.lst (ps.map Pd)) (.lst (qs.map Pd))=some (.bl c,.z):=by
      show (eqA _ _).map _=_
      rw [yi]
      have:decide (ps=qs)=c:=by rw [Bool.eq_iff_iff,decide_eq_true_iff,iff,s]
      rw [this]
      rfl
     have v:o6 [Shd ps]=some (.lst (ps.map Pd),.u):=rfl
     rw [E]
     have:=hJ (y:=c && cz k) (cl f) fun _=>o9 (a9 (aT (ag (ai rfl) aw) rfl v) (aT (ag (ai rfl) aw) rfl st) rfl rfl eq) rfl fun _=>a9 (au f2 (ag (ai rfl) aw) rfl rfl rfl) i_c rfl rfl B
     rwa [Bool.true_and] at this
 ·have a:cS "tuple" d=some (.bl false,.z):=by
   have h:=h.1
   cases d <;> first | exact (BM h).elim | exact absurd ⟨_,rfl⟩ q | rfl
  exact ⟨false,ly (x:=false) (y:=false) (qu (cn (dQ (iR (ai rfl) rfl a) rfl)) rfl) (fun z=>by cases z),hJ (x:=false) (y:=false) (qu (cn (dQ (iR (ai rfl) rfl a) rfl)) rfl) (fun z=>by cases z)⟩
theorem mT {m:Nat}:∀ {ts:List Str},(∀ t ∈ ts,t.length<=m)->piled ts<=ts.length * (m+2)
 | [],_=>by simp [piled]
 | t :: ts,h=>by
  have h1:=h t Bt
  have h2:=mT (ts:=ts) fun u hu=>h u (Bu _ hu)
  rw [piled_cons,BW,Nat.succ_mul]
  omega
theorem og {m:Nat} {ts:List Str} (h:∀ t ∈ ts,t.length<=m):(tupleText ts).length<=ts.length * (m+2)+3:=by
 have a:=mT h
 have c:(Str.join ", " ts).length<=ts.length * (m+2):=by
  by_cases e:ts=[]
  ·subst e;exact Nat.zero_le _
  ·have:=join_length_add ts e
   omega
 unfold tupleText
 rw [strLen_append,strLen_append]
 have e1:(("(":String):Str).length=1:=rfl
 have b:((if ts.length == 1 then ",)" else ")":String):Str).length<=2:=by
  cases ts.length == 1 <;> decide
 omega
theorem iZ {m:Nat}:∀ {ts:List Str} {k:Nat} {acc:Str},(∀ t ∈ ts,t.length<=m)->(textFrom k acc ts).length<=acc.length+ts.length * (m+2)
 | [],_,_,_=>by simp [textFrom]
 | t :: ts,k,acc,h=>by
  have h1:=h t Bt
  have h2:=iZ (ts:=ts) (k:=k+1) (acc:=acc ++ (if k > 0 then ", " else "":String) ++ t) fun u hu=>h u (Bu _ hu)
  have b:((if k > 0 then ", " else "":String):Str).length<=2:=by
   by_cases a:k > 0
   ·rw [if_pos a] <;> decide
   ·rw [if_neg a] <;> decide
  rw [strLen_append,strLen_append] at h2
  rw [BW,Nat.succ_mul]
  show (textFrom (k+1) _ ts).length<=_
  omega
mutual
theorem ue:∀ (d:L3.D) (p:PyData),pyD d=some p->p.hasDict=false
 | .non,p,e=>by unfold pyD at e;cases e;rfl
 | .bl _,p,e=>by unfold pyD at e;cases e;rfl
 | .int _,p,e=>by unfold pyD at e;cases e;rfl
 | .str _,p,e=>by unfold pyD at e;cases e;rfl
 | .tup xs,p,e=>by
  unfold pyD at e
  obtain ⟨ps,e1,rfl⟩:=Bw.mp e
  simpa [PyData.hasDict] using ju xs ps e1
 | .lst xs,p,e=>by
  unfold pyD at e
  obtain ⟨ps,e1,rfl⟩:=Bw.mp e
  simpa [PyData.hasDict] using ju xs ps e1
 | .fls xs,p,e=>by
  unfold pyD at e
  obtain ⟨ps,e1,rfl⟩:=Bw.mp e
  simpa [PyData.hasDict] using ju xs ps e1
 | .dk _,p,e=>by unfold pyD at e;cases e
 | .dt _,p,e=>by unfold pyD at e;cases e
 | .exc _ _,p,e=>by unfold pyD at e;cases e
theorem ju:∀ (ds:List L3.D) (ps:List PyData),dI ds=some ps->PyData.hasDictAll ps=false
 | [],ps,e=>by unfold dI at e;cases e;rfl
 | d :: ds,ps,e=>by
  unfold dI at e
  cases h1:pyD d with
  | none=>rw [h1] at e;cases e
  | some p =>
   cases h2:dI ds with
   | none=>rw [h1,h2] at e;cases e
   | some qs =>
    rw [h1,h2] at e
    cases e
    simp [PyData.hasDictAll,ue d p h1,ju ds qs h2]
end
def sm (f:L3.D->Option PyData) (k m:Nat) (d:L3.D):Bool:=match f d with
 | some p=>p.showable && decide (p.depth<=k) && decide (p.shown.length<=m)
 | none=>false
structure Sml (k m:Nat) (p:PyData):Prop where
 s:p.showable=true
 d:p.depth<=k
 l:p.shown.length<=m
theorem lw {f:L3.D->Option PyData} {k m:Nat} {d:L3.D} (h:sm f k m d=true):∃ p,f d=some p/\Sml k m p:=by
 unfold sm at h
 cases e:f d with
 | none=>rw [e] at h;cases h
 | some p =>
  rw [e] at h
  simp only [Bool.and_eq_true,decide_eq_true_eq] at h
  exact ⟨p,rfl,h.1.1,h.1.2,h.2⟩
theorem mB {f:L3.D->Option PyData} {k m:Nat} {d:L3.D} {p:PyData} (e:f d=some p) (h:Sml k m p):sm f k m d=true:=by
 unfold sm
 rw [e]
 simp [h.s,h.d,h.l]
theorem bY {f:L3.D->Option PyData} {k m k' m':Nat} {d:L3.D} (h:sm f k m d=true) (a:k<=k') (hm:m<=m'):sm f k' m' d=true:=by
 obtain ⟨p,e,q⟩:=lw h
 exact mB e ⟨q.s,B8 q.d a,B8 q.l hm⟩
structure Rdg (f:L3.D->Option PyData) (fs:List L3.D->Option (List PyData)):Prop where
 n:fs []=some []
 c:∀ d ds p ps,f d=some p->fs ds=some ps->fs (d :: ds)=some (p :: ps)
 t:∀ xs ps,fs xs=some ps->f (.tup xs)=some (.tuple ps)
theorem rdD:Rdg pyD dI:=⟨rfl,fun d ds p ps h1 h2=>by unfold dI;rw [h1,h2],fun xs ps h=>by unfold pyD;rw [h];rfl⟩
theorem rdN:Rdg pyN mR:=⟨rfl,fun d ds p ps h1 h2=>by unfold mR;rw [h1,h2],fun xs ps h=>by unfold pyN;rw [h];rfl⟩
theorem oA {f:L3.D->Option PyData} {fs:List L3.D->Option (List PyData)} (R:Rdg f fs) {k m:Nat}:∀ {xs:List L3.D},(∀ x ∈ xs,sm f k m x=true)->∃ ps,fs xs=some ps/\PyData.showableAll ps=true/\PyData.depthAll ps<=k/\(∀ t ∈ PyData.shownAll ps,t.length<=m)/\(PyData.shownAll ps).length=xs.length
 | [],_=>⟨[],R.n,rfl,Nat.zero_le _,(fun t a=>by cases a),rfl⟩
 | x :: xs,h=>by
  obtain ⟨p,a1,a2⟩:=lw (h x Bt)
  obtain ⟨ps,b1,b2,i,e,g⟩:=oA R (xs:=xs) fun y b=>h y (Bu _ b)
  refine ⟨p :: ps,R.c _ _ _ _ a1 b1,by simp [PyData.showableAll,a2.s,b2],by have:=a2.d;simp only [PyData.depthAll];omega,fun t a=>?_,by simp [PyData.shownAll,g]⟩
  rcases Bz.mp (show t ∈ p.shown :: PyData.shownAll ps from a) with rfl | a
  ·exact a2.l
  ·exact e t a
theorem d7 {f:L3.D->Option PyData} {fs:List L3.D->Option (List PyData)} (R:Rdg f fs) {k m:Nat} {xs:List L3.D} (h:∀ x ∈ xs,sm f k m x=true):sm f (k+1) (xs.length * (m+2)+3) (.tup xs)=true:=by
 obtain ⟨ps,b1,b2,c,b,a⟩:=oA R h
 have:=og b
 rw [a] at this
 exact mB (R.t xs ps b1) ⟨by simpa [PyData.showable] using b2,by simp only [PyData.depth];omega,by simpa only [PyData.shown] using this⟩
theorem tq {k m:Nat} {xs:List L3.D} (h:∀ x ∈ xs,sm pyD k m x=true):sm pyD (k+1) (xs.length * (m+2)+3) (.lst xs)=true:=by
 obtain ⟨ps,b1,b2,e,c,b⟩:=oA rdD h
 have h1:=iZ (k:=0) (acc:="[") c
 rw [b] at h1
 have e1:(("[":String):Str).length=1:=rfl
 have d:(("]":String):Str).length=1:=rfl
 have:(listText (PyData.shownAll ps)).length<=xs.length * (m+2)+3:=by
  unfold listText
  rw [strLen_append]
  omega
 have a:pyD (.lst xs)=some (.list ps):=by unfold pyD;rw [b1];rfl
 exact mB a ⟨by simpa [PyData.showable] using b2,by simp only [PyData.depth];omega,by simpa only [PyData.shown] using this⟩
def Sh' (d:L3.D):Prop:=∃ t,iH d=some (.str t,.z)
theorem yG {d:L3.D} {p:PyData} (e:iH d=shA d) (h:pyA d=some p) (q:Sml 16 16777216 p):Sh' d:=⟨p.shown,by
 have a:jG p=true:=by unfold jG;simp [q.s,q.d,q.l]
 rw [e]
 unfold shA
 rw [h]
 show (if jG p=true then _ else _)=_
 rw [if_pos a]⟩
theorem wH {d:L3.D} (e:iH d=shA d) (h:sm pyD 16 16777216 d=true):Sh' d:=by
 obtain ⟨p,h1,q⟩:=lw h
 refine yG e ?_ q
 unfold pyA
 rw [h1]
 show (if p.hasDict then none else some p)=_
 rw [ue d p h1]
 rfl
theorem sh_N {d:L3.D} (e:iH d=shA d) (h0:pyD d=none) (h:sm pyN 16 16777216 d=true):Sh' d:=by
 obtain ⟨p,h1,q⟩:=lw h
 refine yG e ?_ q
 unfold pyA
 rw [h0]
 exact h1
theorem rF {i:Int} (h0:-(2 ^ 100) < i) (h1:i < 2 ^ 100):(kg i).length<=40:=by
 have e:(kg i).length=(kg i).cps.toList.length:=by simp [Str.length]
 have hd:(dig i.natAbs).length<=31:=yj (by decide) (by omega)
 rw [e,numC]
 split
 ·simp only [BW];omega
 ·omega
theorem uS {i:Int} (h0:-(2 ^ 100) < i) (h1:i < 2 ^ 100):i.natAbs.log2 < 1920:=by
 by_cases h:i.natAbs=0
 ·rw [h];decide
 ·rw [Nat.log2_lt h]
  have:i.natAbs < 2 ^ 100:=by omega
  exact Nat.lt_trans this (Nat.pow_lt_pow_right (by decide) (by decide))
theorem pP {i:Int} (h0:-(2 ^ 100) < i) (h1:i < 2 ^ 100):Sml 0 40 (.int i):=⟨by simp only [PyData.showable];exact BQ (uS h0 h1),by simp [PyData.depth],by
 show (kg i).length<=40
 exact rF h0 h1⟩
theorem fB {i:Int} (h0:-(2 ^ 100) < i) (h1:i < 2 ^ 100):sm pyD 0 40 (.int i)=true:=mB rfl (pP h0 h1)
theorem pQ {i:Int} (h0:-(2 ^ 100) < i) (h1:i < 2 ^ 100):sm pyN 0 40 (.int i)=true:=mB rfl (pP h0 h1)
def smB:L3.D->Bool
 | .tup [.int a,.int b]=>decide ((-(2 ^ 62) < a/\a < 2 ^ 62)/\-(2 ^ 62) < b/\b < 2 ^ 62)
 | _=>true
def inB (d:L3.D):Bool:=okp d && smB d && (sm pyD 3 400 d || ((pyD d).isNone && sm pyN 3 400 d))
def plB (d:L3.D):Bool:=okp d && smB d && sm pyD 3 400 d && sm pyN 3 400 d
def pkB (d:L3.D):Bool:=okp d && smB d && sm pyD 3 400 d
abbrev Gt (d:L3.D):Prop:=Th d/\Sh' d
theorem eV {d:L3.D} (h:plB d=true):okp d=true/\smB d=true/\sm pyD 3 400 d=true/\sm pyN 3 400 d=true:=by
 unfold plB at h
 simp only [Bool.and_eq_true] at h
 exact ⟨h.1.1.1,h.1.1.2,h.1.2,h.2⟩
theorem oQ {d:L3.D} (h:pkB d=true):okp d=true/\smB d=true/\sm pyD 3 400 d=true:=by
 unfold pkB at h
 simp only [Bool.and_eq_true] at h
 exact ⟨h.1.1,h.1.2,h.2⟩
theorem fP {d:L3.D} (h:plB d=true):pkB d=true:=by
 obtain ⟨a,b,c,_⟩:=eV h
 unfold pkB
 rw [a,b,c]
 rfl
theorem lj {xs:List L3.D} (h:∀ d ∈ xs,okp d=true/\smB d=true) (c:xs.length<=60):Th (.tup xs):=⟨rfl,fun ys e=>by
 cases e
 refine ⟨fun x a=>(h x a).1,c,fun ps e p b=>?_⟩
 have:=(h (Pd p) (by rw [e];exact BJ.mpr ⟨p,b,rfl⟩)).2
 have:=of_decide_eq_true (show decide ((-(2 ^ 62) < p.1/\p.1 < 2 ^ 62)/\-(2 ^ 62) < p.2/\p.2 < 2 ^ 62)=true from this)
 exact ⟨this.1.1,this.1.2,this.2.1,this.2.2⟩⟩
theorem jN {a b:Int} (h:(-(2 ^ 62) < a/\a < 2 ^ 62)/\-(2 ^ 62) < b/\b < 2 ^ 62):plB (.tup [.int a,.int b])=true:=by
 have e:∀ d ∈ [L3.D.int a,.int b],sm pyD 0 40 d=true:=fun d hd=>by
  rcases Bz.mp hd with rfl | hd
  ·exact fB (by omega) (by omega)
  ·rw [B1.mp hd];exact fB (by omega) (by omega)
 have c:∀ d ∈ [L3.D.int a,.int b],sm pyN 0 40 d=true:=fun d hd=>by
  rcases Bz.mp hd with rfl | hd
  ·exact pQ (by omega) (by omega)
  ·rw [B1.mp hd];exact pQ (by omega) (by omega)
 have s1:=bY (d7 rdD e) (k':=3) (m':=400) (by decide) (by simp)
 have s2:=bY (d7 rdN c) (k':=3) (m':=400) (by decide) (by simp)
 unfold plB
 rw [s1,s2,show smB (.tup [.int a,.int b])=true from BQ h]
 rfl
theorem jX {xs:List L3.D} (h:∀ d ∈ xs,pkB d=true) (a:xs.length<=60):Gt (.tup xs) :=
 ⟨lj (fun d hd=>⟨(oQ (h d hd)).1,(oQ (h d hd)).2.1⟩) a,wH rfl (bY (d7 rdD fun d hd=>(oQ (h d hd)).2.2) (by decide) (by omega))⟩
theorem qd {V:L3.D} (b:pyD V=none):∀ (A B:List L3.D),dI (A ++ [V] ++ B)=none
 | [],B=>by
  show dI (V :: B)=none
  unfold dI
  rw [b]
 | a :: A,B=>by
  have c:=qd b A B
  show dI (a :: (A ++ [V] ++ B))=none
  unfold dI
  rw [c]
  cases pyD a <;> rfl
theorem vi {V:L3.D} (b:inB V=true) {A B:List L3.D} (j:∀ d ∈ A,plB d=true) (c:∀ d ∈ B,plB d=true) (k:A.length+B.length<=59):Gt (.tup (A ++ [V] ++ B)):=by
 unfold inB at b
 rw [Bool.and_eq_true,Bool.and_eq_true,Bool.or_eq_true] at b
 obtain ⟨g,a⟩:=b
 have mem:∀ {P:L3.D->Prop},(∀ d,plB d=true->P d)->P V->∀ d ∈ A ++ [V] ++ B,P d:=fun {P} h1 h2 d hd=>by
  rcases BD.mp hd with hd | hd
  ·rcases BD.mp hd with hd | hd
   ·exact h1 d (j d hd)
   ·rw [B1.mp hd];exact h2
  ·exact h1 d (c d hd)
 have f:(A ++ [V] ++ B).length<=60:=by simp;omega
 refine ⟨lj (mem (P:=fun d=>okp d=true/\smB d=true) (fun d h=>⟨(eV h).1,(eV h).2.1⟩) g) f,?_⟩
 rcases a with a | a
 ·exact wH rfl (bY (d7 rdD (mem (P:=fun d=>sm pyD 3 400 d=true) (fun d h=>(eV h).2.2.1) a)) (by decide) (by omega))
 ·rw [Bool.and_eq_true] at a
  refine sh_N rfl ?_ (bY (d7 rdN (mem (P:=fun d=>sm pyN 3 400 d=true) (fun d h=>(eV h).2.2.2) a.2)) (by decide) (by omega))
  have i:pyD V=none:=by
   cases e:pyD V with
   | none=>rfl
   | some p=>rw [e] at a;cases a.1
  unfold pyD
  rw [qd i]
  rfl
def ov:List L3.D:=[.non,.bl true,.bl false,.int 0,.int (-1),.int 1,.str "",.str "1",.tup [],.lst [],.tup [.int 0],.tup [.int 0,.int 1],.lst [.int 0],.dk [(.inr "a",.int 1)],.int 100000000000000000000000000000,.tup [.tup [.int 0,.int 0]],.tup [.tup [.int 0,.int 1],.tup [.int 1,.int 2]],.str "0,0",.tup [.int 0,.int 1,.int 2],.dt [([.inl 0,.inl 1],.int 2)]]
theorem ov_at (i:Nat) (h:i < 20):∃ v,ay (.lst ov) (.int (i:Int))=some (v,.z)/\v ∈ ov:=by
 have a:i < ov.length:=h
 exact ⟨ov[i],lr (iz (BA a)),List.getElem_mem a⟩
def thB:L3.D->Bool
 | .exc _ _=>false
 | .tup xs=>xs.all (fun x=>okp x && smB x) && decide (xs.length<=60)
 | _=>true
theorem th_of {d:L3.D} (h:thB d=true):Th d:=by
 by_cases a:∃ xs,d=.tup xs
 ·obtain ⟨xs,rfl⟩:=a
  have h:(xs.all (fun x=>okp x && smB x) && decide (xs.length<=60))=true:=h
  rw [Bool.and_eq_true] at h
  exact lj (fun x b=>Bool.and_eq_true_iff.mp (List.all_eq_true.mp h.1 x b)) (of_decide_eq_true h.2)
 ·refine ⟨?_,fun xs e=>absurd ⟨xs,e⟩ a⟩
  cases d <;> first | rfl | exact (BM h).elim
def shB:L3.D->Bool:=fun d=>match iH d with
 | some (.str _,.z)=>true
 | _=>false
theorem sh_b {d:L3.D} (h:shB d=true):Sh' d:=by
 unfold shB at h
 split at h
 ·exact ⟨_,by assumption⟩
 ·cases h
def odB (d:L3.D):Bool:=thB d && shB d && inB d
theorem ov_ok:ov.map odB=ov.map fun _=>true:=by kernel_rfl
theorem Aq {v:L3.D} (h:v ∈ ov):Gt v/\inB v=true:=by
 have:=List.map_inj_left.mp ov_ok v h
 unfold odB at this
 rw [Bool.and_eq_true,Bool.and_eq_true] at this
 exact ⟨⟨th_of this.1.1,sh_b this.1.2⟩,this.2⟩
theorem wK {n m:Int} {j v:L3.D} (t:aZ [(.lst [.int n],.u),(.int 20,.z)]=some (.ok (j,.z),[(.lst [.int m],.u),(.int 20,.z)])) (h:ay (.lst ov) j=some (v,.z)):jz [(.lst [.int n],.u)]=some (.ok (v,.z),[(.lst [.int m],.u)]):=by
 have a:∀ B:L3.D,(aX 1 (aW (aa (mC .non) (aa (mC (.bl true)) (aa (mC (.bl false)) (aa (mC (.int 0)) (aa (mUn cF (mC (.int 1))) (aa (mC (.int 1)) (aa (mC (.str "")) (aa (mC (.str "1")) (aa (aS ae) (aa (aW ae) (aa (aS (aa (mC (.int 0)) ae)) (aa (aS (aa (mC (.int 0)) (aa (mC (.int 1)) ae))) (aa (aW (aa (mC (.int 0)) ae)) (aa (AM (.inr "a") 1) ae)))))))))))))))) [some (B,.u),none]=some (.ok .nx,[some (B,.u),some (.lst (ov.take 14),.u)]):=fun B=>by kernel_rfl
 have b:∀ B:L3.D,(aX 1 (af aH (ac 1) (aW (aa (af oO (mC (.int 10)) (mC (.int 29))) (aa (aS (aa (aS (aa (mC (.int 0)) (aa (mC (.int 0)) ae))) ae)) (aa (aS (aa (aS (aa (mC (.int 0)) (aa (mC (.int 1)) ae))) (aa (aS (aa (mC (.int 1)) (aa (mC (.int 2)) ae))) ae))) (aa (mC (.str "0,0")) (aa (aS (aa (mC (.int 0)) (aa (mC (.int 1)) (aa (mC (.int 2)) ae)))) (aa (AL [0,1] 2) ae))))))))) [some (B,.u),some (.lst (ov.take 14),.u)]=some (.ok .nx,[some (B,.u),some (.lst ov,.u)]):=fun B=>by kernel_rfl
 have a:=a (.lst [.int n])
 have b:=b (.lst [.int n])
 generalize L3.D.lst (ov.take 14)=S7 at *
 generalize L3.D.lst ov=SV at *
 apply aY (ρ:=[some (.lst [.int n],.u),none]) (ρ1:=[some (.lst [.int m],.u),some (SV,.u)]) rfl rfl
 ·unfold qk
  refine ak a ?_
  refine ak b ?_
  apply cj
  ·nomatch [t],[h]
  ·rfl
 ·rfl
theorem lM (n:Int) {m:Nat} (h:0 < m):∃ x:Nat,x < m/\n % (m:Int)=(x:Int):=by
 have:=c6 n (m:Int) (by omega)
 exact ⟨(n % (m:Int)).toNat,by omega,by omega⟩
theorem vE {xs:List L3.D} {d:L3.D} {lo hi:Option Int} (h:d ∈ eG xs lo hi):d ∈ xs:=by
 unfold eG at h
 first | exact List.mem_of_mem_drop (List.mem_of_mem_take h) | exact List.mem_of_mem_take (List.mem_of_mem_drop h)
theorem qI {xs:List L3.D} {lo hi:Option Int}:(eG xs lo hi).length<=xs.length:=by
 unfold eG
 simp only [BY,List.length_drop]
 omega
theorem yr {xs:List L3.D} {d:L3.D} (h:xs[xs.length - 1]?=some d):L2.atI xs (-1)=some d:=by
 have lt:=(BG.mp h).1
 unfold L2.atI L2.ixN
 rw [if_neg (by decide),if_pos (by omega)]
 rw [show ((-1:Int)+(xs.length:Int)).toNat=xs.length - 1 by omega,Option.bind_some]
 exact h
theorem rv_is {B V A X Y F L H N K:L3.D} {f:Fl} {xs:List L3.D}:kQ (ac 1) (dh (mUn cF (mC (.int 1)))) [some (B,.u),some (.tup xs,.z),some (V,.z),some (A,.z),some (X,.z),some (Y,.z),some (F,.z),some (L,.z),some (H,.z),some (N,f),some (K,.z)]=some (.ok (.val (.tup xs.reverse) .z),[some (B,.u),some (.tup xs,.z),some (V,.z),some (A,.z),some (X,.z),some (Y,.z),some (F,.z),some (L,.z),some (H,.z),some (N,f),some (K,.z)]):=rfl
theorem wC {xs:List L3.D} (h:∀ d ∈ xs,cv d=true):smB (.tup xs)=true:=by
 unfold smB
 split
 ·rename_i e
  cases e
  have:=h (.int _) Bt
  cases this
 ·rfl
theorem Af {x:Int} {e:L3.D} (h0:-(2 ^ 62) < x) (h1:x < 2 ^ 62) (he:nox e=true) (a:sm pyD 0 40 e=true) (hw:wh e=false):pkB (.tup [.int x,e])=true:=by
 have s1:=bY (d7 (xs:=[.int x,e]) (k:=0) (m:=40) rdD fun d hd=>by
  rcases Bz.mp hd with rfl | hd
  ·exact fB (by omega) (by omega)
  ·rw [B1.mp hd];exact a) (k':=3) (m':=400) (by decide) (by simp)
 have s2:smB (.tup [.int x,e])=true:=by
  cases e <;> first | rfl | cases hw
 have s3:okp (.tup [.int x,e])=true:=by
  show ((nox (.int x) && (nox e && true)) && decide (2<=16000))=true
  rw [he]
  rfl
 unfold pkB
 rw [s1,s2,s3]
 rfl
theorem Ag {x y:Int} (h0:-(2 ^ 62) < x) (h1:x < 2 ^ 62) (h2:-(2 ^ 62) < y) (h3:y < 2 ^ 62):pkB (.lst [.int x,.int y])=true:=by
 have s1:=bY (tq (xs:=[.int x,.int y]) (k:=0) (m:=40) fun d hd=>by
  rcases Bz.mp hd with rfl | hd
  ·exact fB (by omega) (by omega)
  ·rw [B1.mp hd];exact fB (by omega) (by omega)) (k':=3) (m':=400) (by decide) (by simp)
 unfold pkB
 rw [s1]
 rfl
theorem uo {x y:Int} (h0:-(2 ^ 62) < x) (h1:x < 2 ^ 62) (h2:-(2 ^ 62) < y) (h3:y < 2 ^ 62):pkB (.tup [.int x,.int y,.int 0])=true:=by
 have s1:=bY (d7 (xs:=[.int x,.int y,.int 0]) (k:=0) (m:=40) rdD fun d hd=>by
  simp only [Bz,List.not_mem_nil,or_false] at hd
  rcases hd with rfl | rfl | rfl <;> exact fB (by omega) (by omega)) (k':=3) (m':=400) (by decide) (by simp)
 unfold pkB
 rw [s1]
 rfl
section
variable {B S V A X Y P0 P2 H X1 Y1 YN BB:L3.D}
theorem nw0 (d:aH X (.int 1)=some (X1,.z)) (b:aH Y (.int 1)=some (Y1,.z)) (a:eqX Y (.int 1)=some (BB,.z)) (c:cF Y=some (YN,.z)):(aW ae) [some (B,.u),some (S,.z),some (V,.z),some (A,.z),some (X,.z),some (Y,.z),some (P0,.z),some (P2,.z),some (H,.z),none,none]=some (.ok (.val (.lst []) .u),[some (B,.u),some (S,.z),some (V,.z),some (A,.z),some (X,.z),some (Y,.z),some (P0,.z),some (P2,.z),some (H,.z),none,none]):=(bx aw rfl (Nat.le_of_ble_eq_true rfl))
theorem nw1 (d:aH X (.int 1)=some (X1,.z)) (b:aH Y (.int 1)=some (Y1,.z)) (a:eqX Y (.int 1)=some (BB,.z)) (c:cF Y=some (YN,.z)):(aW (aa (aS (aa (ac 4) (aa (ac 5) ae))) (aa (aS (aa (ac 4) (aa (ac 5) ae))) ae))) [some (B,.u),some (S,.z),some (V,.z),some (A,.z),some (X,.z),some (Y,.z),some (P0,.z),some (P2,.z),some (H,.z),none,none]=some (.ok (.val (.lst [.tup [X,Y],.tup [X,Y]]) .u),[some (B,.u),some (S,.z),some (V,.z),some (A,.z),some (X,.z),some (Y,.z),some (P0,.z),some (P2,.z),some (H,.z),none,none]):=(bx (ag (bx (ag (ai rfl) (ag (ai rfl) aw)) rfl (Nat.le_of_ble_eq_true rfl)) (ag (bx (ag (ai rfl) (ag (ai rfl) aw)) rfl (Nat.le_of_ble_eq_true rfl)) aw)) rfl (Nat.le_of_ble_eq_true rfl))
theorem nw2 (d:aH X (.int 1)=some (X1,.z)) (a:aH Y (.int 1)=some (Y1,.z)) (b:eqX Y (.int 1)=some (BB,.z)) (c:cF Y=some (YN,.z)):(aW (aa (aS (aa (ac 4) (aa (af aH (ac 5) (mC (.int 1))) ae))) ae)) [some (B,.u),some (S,.z),some (V,.z),some (A,.z),some (X,.z),some (Y,.z),some (P0,.z),some (P2,.z),some (H,.z),none,none]=some (.ok (.val (.lst [.tup [X,Y1]]) .u),[some (B,.u),some (S,.z),some (V,.z),some (A,.z),some (X,.z),some (Y,.z),some (P0,.z),some (P2,.z),some (H,.z),none,none]):=(bx (ag (bx (ag (ai rfl) (ag (a9 (ai rfl) i_c rfl rfl a) aw)) rfl (Nat.le_of_ble_eq_true rfl)) aw) rfl (Nat.le_of_ble_eq_true rfl))
theorem nw3 (a:aH X (.int 1)=some (X1,.z)) (c:aH Y (.int 1)=some (Y1,.z)) (b:eqX Y (.int 1)=some (BB,.z)) (d:cF Y=some (YN,.z)):(aW (aa (aS (aa (af aH (ac 4) (mC (.int 1))) (aa (ac 5) ae))) ae)) [some (B,.u),some (S,.z),some (V,.z),some (A,.z),some (X,.z),some (Y,.z),some (P0,.z),some (P2,.z),some (H,.z),none,none]=some (.ok (.val (.lst [.tup [X1,Y]]) .u),[some (B,.u),some (S,.z),some (V,.z),some (A,.z),some (X,.z),some (Y,.z),some (P0,.z),some (P2,.z),some (H,.z),none,none]):=(bx (ag (bx (ag (a9 (ai rfl) i_c rfl rfl a) (ag (ai rfl) aw)) rfl (Nat.le_of_ble_eq_true rfl)) aw) rfl (Nat.le_of_ble_eq_true rfl))
theorem nw4 (d:aH X (.int 1)=some (X1,.z)) (b:aH Y (.int 1)=some (Y1,.z)) (a:eqX Y (.int 1)=some (BB,.z)) (c:cF Y=some (YN,.z)):(aW (aa (aS (aa (ac 4) (aa (af eqX (ac 5) (mC (.int 1))) ae))) ae)) [some (B,.u),some (S,.z),some (V,.z),some (A,.z),some (X,.z),some (Y,.z),some (P0,.z),some (P2,.z),some (H,.z),none,none]=some (.ok (.val (.lst [.tup [X,BB]]) .u),[some (B,.u),some (S,.z),some (V,.z),some (A,.z),some (X,.z),some (Y,.z),some (P0,.z),some (P2,.z),some (H,.z),none,none]):=(bx (ag (bx (ag (ai rfl) (ag (a9 (ai rfl) i_c rfl rfl a) aw)) rfl (Nat.le_of_ble_eq_true rfl)) aw) rfl (Nat.le_of_ble_eq_true rfl))
theorem nw5 (d:aH X (.int 1)=some (X1,.z)) (b:aH Y (.int 1)=some (Y1,.z)) (a:eqX Y (.int 1)=some (BB,.z)) (c:cF Y=some (YN,.z)):(aW (aa (aW (aa (ac 4) (aa (ac 5) ae))) ae)) [some (B,.u),some (S,.z),some (V,.z),some (A,.z),some (X,.z),some (Y,.z),some (P0,.z),some (P2,.z),some (H,.z),none,none]=some (.ok (.val (.lst [.lst [X,Y]]) .u),[some (B,.u),some (S,.z),some (V,.z),some (A,.z),some (X,.z),some (Y,.z),some (P0,.z),some (P2,.z),some (H,.z),none,none]):=(bx (ag (bx (ag (ai rfl) (ag (ai rfl) aw)) rfl (Nat.le_of_ble_eq_true rfl)) aw) rfl (Nat.le_of_ble_eq_true rfl))
theorem nw6 (d:aH X (.int 1)=some (X1,.z)) (b:aH Y (.int 1)=some (Y1,.z)) (a:eqX Y (.int 1)=some (BB,.z)) (c:cF Y=some (YN,.z)):(aW (aa (aS (aa (ac 4) (aa (ac 5) (aa (mC (.int 0)) ae)))) ae)) [some (B,.u),some (S,.z),some (V,.z),some (A,.z),some (X,.z),some (Y,.z),some (P0,.z),some (P2,.z),some (H,.z),none,none]=some (.ok (.val (.lst [.tup [X,Y,.int 0]]) .u),[some (B,.u),some (S,.z),some (V,.z),some (A,.z),some (X,.z),some (Y,.z),some (P0,.z),some (P2,.z),some (H,.z),none,none]):=(bx (ag (bx (ag (ai rfl) (ag (ai rfl) (ag i_c aw))) rfl (Nat.le_of_ble_eq_true rfl)) aw) rfl (Nat.le_of_ble_eq_true rfl))
theorem nw7 (d:aH X (.int 1)=some (X1,.z)) (b:aH Y (.int 1)=some (Y1,.z)) (a:eqX Y (.int 1)=some (BB,.z)) (c:cF Y=some (YN,.z)):(aW (aa (ac 2) ae)) [some (B,.u),some (S,.z),some (V,.z),some (A,.z),some (X,.z),some (Y,.z),some (P0,.z),some (P2,.z),some (H,.z),none,none]=some (.ok (.val (.lst [V]) .u),[some (B,.u),some (S,.z),some (V,.z),some (A,.z),some (X,.z),some (Y,.z),some (P0,.z),some (P2,.z),some (H,.z),none,none]):=(bx (ag (ai rfl) aw) rfl (Nat.le_of_ble_eq_true rfl))
theorem nw8 (d:aH X (.int 1)=some (X1,.z)) (c:aH Y (.int 1)=some (Y1,.z)) (b:eqX Y (.int 1)=some (BB,.z)) (a:cF Y=some (YN,.z)):(aW (aa (aS (aa (ac 4) (aa (mUn cF (ac 5)) ae))) ae)) [some (B,.u),some (S,.z),some (V,.z),some (A,.z),some (X,.z),some (Y,.z),some (P0,.z),some (P2,.z),some (H,.z),none,none]=some (.ok (.val (.lst [.tup [X,YN]]) .u),[some (B,.u),some (S,.z),some (V,.z),some (A,.z),some (X,.z),some (Y,.z),some (P0,.z),some (P2,.z),some (H,.z),none,none]):=(bx (ag (bx (ag (ai rfl) (ag (iR (ai rfl) rfl a) aw)) rfl (Nat.le_of_ble_eq_true rfl)) aw) rfl (Nat.le_of_ble_eq_true rfl))
theorem nws (d:aH X (.int 1)=some (X1,.z)) (b:aH Y (.int 1)=some (Y1,.z)) (a:eqX Y (.int 1)=some (BB,.z)) (c:cF Y=some (YN,.z)):(aX 9 (aW (aa (aW ae) (aa (aW (aa (aS (aa (ac 4) (aa (ac 5) ae))) (aa (aS (aa (ac 4) (aa (ac 5) ae))) ae))) (aa (aW (aa (aS (aa (ac 4) (aa (af aH (ac 5) (mC (.int 1))) ae))) ae)) (aa (aW (aa (aS (aa (af aH (ac 4) (mC (.int 1))) (aa (ac 5) ae))) ae)) (aa (aW (aa (aS (aa (ac 4) (aa (af eqX (ac 5) (mC (.int 1))) ae))) ae)) (aa (aW (aa (aW (aa (ac 4) (aa (ac 5) ae))) ae)) (aa (aW (aa (aS (aa (ac 4) (aa (ac 5) (aa (mC (.int 0)) ae)))) ae)) (aa (aW (aa (ac 2) ae)) (aa (aW (aa (aS (aa (ac 4) (aa (mUn cF (ac 5)) ae))) ae)) ae))))))))))) [some (B,.u),some (S,.z),some (V,.z),some (A,.z),some (X,.z),some (Y,.z),some (P0,.z),some (P2,.z),some (H,.z),none,none]=some (.ok .nx,[some (B,.u),some (S,.z),some (V,.z),some (A,.z),some (X,.z),some (Y,.z),some (P0,.z),some (P2,.z),some (H,.z),some (.lst [.lst [],.lst [.tup [X,Y],.tup [X,Y]],.lst [.tup [X,Y1]],.lst [.tup [X1,Y]],.lst [.tup [X,BB]],.lst [.lst [X,Y]],.lst [.tup [X,Y,.int 0]],.lst [V],.lst [.tup [X,YN]]],.u),none]) :=
 u9 (r:=.val (.lst [.lst [],.lst [.tup [X,Y],.tup [X,Y]],.lst [.tup [X,Y1]],.lst [.tup [X1,Y]],.lst [.tup [X,BB]],.lst [.lst [X,Y]],.lst [.tup [X,Y,.int 0]],.lst [V],.lst [.tup [X,YN]]]) .u) (ρ1:=[some (B,.u),some (S,.z),some (V,.z),some (A,.z),some (X,.z),some (Y,.z),some (P0,.z),some (P2,.z),some (H,.z),none,none]) (bx (rs:=[.val (.lst []) .u,.val (.lst [.tup [X,Y],.tup [X,Y]]) .u,.val (.lst [.tup [X,Y1]]) .u,.val (.lst [.tup [X1,Y]]) .u,.val (.lst [.tup [X,BB]]) .u,.val (.lst [.lst [X,Y]]) .u,.val (.lst [.tup [X,Y,.int 0]]) .u,.val (.lst [V]) .u,.val (.lst [.tup [X,YN]]) .u]) (ds:=[.lst [],.lst [.tup [X,Y],.tup [X,Y]],.lst [.tup [X,Y1]],.lst [.tup [X1,Y]],.lst [.tup [X,BB]],.lst [.lst [X,Y]],.lst [.tup [X,Y,.int 0]],.lst [V],.lst [.tup [X,YN]]]) (ρ1:=[some (B,.u),some (S,.z),some (V,.z),some (A,.z),some (X,.z),some (Y,.z),some (P0,.z),some (P2,.z),some (H,.z),none,none]) (ρ2:=[some (B,.u),some (S,.z),some (V,.z),some (A,.z),some (X,.z),some (Y,.z),some (P0,.z),some (P2,.z),some (H,.z),none,none]) (ag (nw0 d b a c) (ag (nw1 d b a c) (ag (nw2 d b a c) (ag (nw3 d b a c) (ag (nw4 d b a c) (ag (nw5 d b a c) (ag (nw6 d b a c) (ag (nw7 d b a c) (ag (nw8 d b a c) aw))))))))) rfl (Nat.le_of_ble_eq_true rfl)) rfl (Nat.le_of_ble_eq_true rfl) rfl
end
abbrev nwL (p:Pt) (V:L3.D):List (List L3.D):=[[],[Pd p,Pd p],[.tup [.int p.1,.int (p.2+1)]],[.tup [.int (p.1+1),.int p.2]],[.tup [.int p.1,.bl (decide (p.2=1))]],[.lst [.int p.1,.int p.2]],[.tup [.int p.1,.int p.2,.int 0]],[V],[.tup [.int p.1,.int (-p.2)]]]
theorem tU {ps:List Pt} (h1:1<=ps.length) (h9:ps.length<=9) (hm:∀ p ∈ ps,Bo p) {V:L3.D} (hV:inB V=true) (n:Int):∃ n' d,fA [(.lst [.int n],.u),(Shd ps,.z),(V,.z)]=some (.ok (d,.z),[(.lst [.int n'],.u),(Shd ps,.z),(V,.z)])/\Gt d:=by
 have ln:cR [Shd ps]=some (.int (ps.length:Int),.z):=by
  have:=c4 (ps.map Pd)
  rwa [BF] at this
 have t0:=eT n (ps.length:Int) (by omega)
 obtain ⟨a,ha,ea⟩:=lM n (m:=ps.length) (by omega)
 rw [ea] at t0
 generalize n / (ps.length:Int)=n0 at t0
 clear ea
 have t1:=eT n0 13 (by decide)
 obtain ⟨j,hj,ej⟩:=lM n0 (m:=13) (by decide)
 rw [show ((13:Nat):Int)=13 from rfl] at ej
 rw [ej] at t1
 generalize n0 / 13=n1 at t1
 clear ej
 have q1:ps[a]?=some (ps[a]'ha):=BA _
 have q0:ps[0]?=some (ps[0]'(by omega)):=BA _
 have q2:ps[ps.length - 1]?=some (ps[ps.length - 1]'(by omega)):=BA _
 have m1:=hm _ (BH q1)
 have m0:=hm _ (BH q0)
 have m2:=hm _ (BH q2)
 have a1:ay (Shd ps) (.int (a:Int))=some (Pd (ps[a]'ha),.z):=aV (eL q1)
 have a0:ay (Shd ps) (.int 0)=some (Pd (ps[0]'(by omega)),.z):=aV (eL q0)
 have a2:ay (Shd ps) (.int (-1))=some (Pd (ps[ps.length - 1]'(by omega)),.z):=aV (yr (by rw [BF,BK,q2];rfl))
 generalize ps[a]'ha=p at *
 generalize ps[0]'(by omega)=c at *
 generalize ps[ps.length - 1]'(by omega)=p2 at *
 have l:∀ d ∈ ps.map Pd,plB d=true:=fun d hd=>by
  obtain ⟨q,hq,rfl⟩:=BJ.mp hd
  obtain ⟨b1,b2,b3,b4⟩:=hm q hq
  exact jN ⟨⟨by omega,by omega⟩,by omega,by omega⟩
 have Z:slD (Shd ps) none (some (a:Int))=some (.tup (eG (ps.map Pd) none (some (a:Int))),.z):=rfl
 have T:slD (Shd ps) (some ((a:Int)+1)) none=some (.tup (eG (ps.map Pd) (some ((a:Int)+1)) none),.z):=rfl
 have M:∀ d ∈ eG (ps.map Pd) none (some (a:Int)),plB d=true:=fun d hd=>l d (vE hd)
 have Q:∀ d ∈ eG (ps.map Pd) (some ((a:Int)+1)) none,plB d=true:=fun d hd=>l d (vE hd)
 have l1:=qI (xs:=ps.map Pd) (lo:=none) (hi:=some (a:Int))
 have l2:=qI (xs:=ps.map Pd) (lo:=some ((a:Int)+1)) (hi:=none)
 rw [BF] at l1 l2
 generalize eG (ps.map Pd) none (some (a:Int))=C1 at *
 generalize eG (ps.map Pd) (some ((a:Int)+1)) none=C2 at *
 obtain ⟨b1,b2,b3,b4⟩:=m1
 have small:∀ nw:List L3.D,(∀ d ∈ nw,pkB d=true)->nw.length<=2->Gt (.tup (C1 ++ nw ++ C2)):=fun nw h hl=>jX (fun d hd=>by
  rcases BD.mp hd with hd | hd
  ·rcases BD.mp hd with hd | hd
   ·exact fP (M d hd)
   ·exact h d hd
  ·exact fP (Q d hd)) (by simp;omega)
 have one:∀ {y:L3.D},pkB y=true->∀ d ∈ [y],pkB d=true:=fun hy d hd=>B1.mp hd ▸ hy
 have C:∀ nw ∈ nwL p V,Gt (.tup (C1 ++ nw ++ C2))/\nw.length<=2:=by
  intro nw o
  simp only [nwL,Bz,List.not_mem_nil,or_false] at o
  rcases o with rfl | rfl | rfl | rfl | rfl | rfl | rfl | rfl | rfl
  ·exact ⟨small _ (fun d hd=>by cases hd) (by decide),by decide⟩
  ·refine ⟨small _ (fun d hd=>?_) (by simp),by simp⟩
   simp only [Bz,List.not_mem_nil,or_false,or_self] at hd
   rw [hd]
   exact fP (jN ⟨⟨by omega,by omega⟩,by omega,by omega⟩)
  ·exact ⟨small _ (one (fP (jN ⟨⟨by omega,by omega⟩,by omega,by omega⟩))) (by simp),by simp⟩
  ·exact ⟨small _ (one (fP (jN ⟨⟨by omega,by omega⟩,by omega,by omega⟩))) (by simp),by simp⟩
  ·exact ⟨small _ (one (Af (by omega) (by omega) rfl (by cases decide (p.2=1) <;> kernel_rfl) rfl)) (by simp),by simp⟩
  ·exact ⟨small _ (one (Ag (by omega) (by omega) (by omega) (by omega))) (by simp),by simp⟩
  ·exact ⟨small _ (one (uo (by omega) (by omega) (by omega) (by omega))) (by simp),by simp⟩
  ·exact ⟨vi hV M Q (by omega),by simp⟩
  ·exact ⟨small _ (one (fP (jN ⟨⟨by omega,by omega⟩,by omega,by omega⟩))) (by simp),by simp⟩
 have ax:=m2
 obtain ⟨d1,d2,d3,d4⟩:=m0
 obtain ⟨e1,e2,e3,e4⟩:=m2
 have hH:plB (.tup [.int (2 * p2.1 - c.1),.int (2 * p2.2 - c.2)])=true:=jN ⟨⟨by omega,by omega⟩,by omega,by omega⟩
 have v:Gt (.tup (ps.map Pd).reverse):=jX (fun d hd=>fP (l d (List.mem_reverse.mp hd))) (by simp;omega)
 have w:Gt (.lst (ps.map Pd)):=⟨⟨rfl,fun xs e=>by cases e⟩,wH rfl (bY (tq fun d hd=>(eV (l d hd)).2.2.1) (by decide) (by rw [BF];omega))⟩
 have x:Gt (.tup (ps.map Pd ++ [.tup [.int (2 * p2.1 - c.1),.int (2 * p2.2 - c.2)]])):=jX (fun d hd=>by
  rcases BD.mp hd with hd | hd
  ·exact fP (l d hd)
  ·rw [B1.mp hd];exact fP hH) (by simp;omega)
 have t:Gt (.tup [Shd ps]):=⟨lj (fun d hd=>by
  rw [B1.mp hd]
  refine ⟨?_,wC fun d hd=>?_⟩
  ·show ((ps.map Pd).all nox && decide ((ps.map Pd).length<=16000))=true
   rw [BF,BQ (show ps.length<=16000 by omega),Bool.and_true]
   exact List.all_eq_true.mpr fun d hd=>xz (eV (l d hd)).1
  ·obtain ⟨q,_,rfl⟩:=BJ.mp hd
   rfl) (by simp),wH rfl (bY (d7 (m:=4000) (k:=4) rdD fun d hd=>by
  rw [B1.mp hd]
  exact bY (d7 rdD fun d hd=>(eV (l d hd)).2.2.1) (by decide) (by rw [BF];omega)) (by decide) (by simp))⟩
 have li:o6 [Shd ps]=some (.lst (ps.map Pd),.u):=rfl
 have ct:aH (Shd ps) (.tup [.tup [.int (2 * p2.1 - c.1),.int (2 * p2.2 - c.2)]])=some (.tup (ps.map Pd ++ [.tup [.int (2 * p2.1 - c.1),.int (2 * p2.2 - c.2)]]),.z):=lW (by simp;omega)
 have P:∀ {B V A X Y F L H N K:L3.D} {f:Fl},kQ (ac 1) (dh (mUn cF (mC (.int 1)))) [some (B,.u),some (Shd ps,.z),some (V,.z),some (A,.z),some (X,.z),some (Y,.z),some (F,.z),some (L,.z),some (H,.z),some (N,f),some (K,.z)]=some (.ok (.val (.tup (ps.map Pd).reverse) .z),[some (B,.u),some (Shd ps,.z),some (V,.z),some (A,.z),some (X,.z),some (Y,.z),some (F,.z),some (L,.z),some (H,.z),some (N,f),some (K,.z)]):=rv_is
 have O:cF (.int 1)=some (.int (-1),.z):=rfl
 have J:cF (.int p.2)=some (.int (-p.2),.z):=rfl
 have ar:aH (.int p.1) (.int 1)=some (.int (p.1+1),.z):=rfl
 have E:aH (.int p.2) (.int 1)=some (.int (p.2+1),.z):=rfl
 have ab:eqX (.int p.2) (.int 1)=some (.bl (decide (p.2=1)),.z):=rfl
 have az:aH (.int (a:Int)) (.int 1)=some (.int ((a:Int)+1),.z):=rfl
 have f0:ay (Pd c) (.int 0)=some (.int c.1,.z):=aV rfl
 have f1:ay (Pd c) (.int 1)=some (.int c.2,.z):=aV rfl
 have g0:ay (Pd p2) (.int 0)=some (.int p2.1,.z):=aV rfl
 have g1:ay (Pd p2) (.int 1)=some (.int p2.2,.z):=aV rfl
 have R:cP (.int 2) (.int p2.1)=some (.int (2 * p2.1),.z):=dC (by decide)
 have W:cP (.int 2) (.int p2.2)=some (.int (2 * p2.2),.z):=dC (by decide)
 have U:de (.int (2 * p2.1)) (.int c.1)=some (.int (2 * p2.1 - c.1),.z):=rfl
 have I:de (.int (2 * p2.2)) (.int c.2)=some (.int (2 * p2.2 - c.2),.z):=rfl
 have g:ltI (.int (j:Int)) (.int 9)=some (.bl (decide ((j:Int) < 9)),.z):=by simp [bS]
 have sj:de (.int (j:Int)) (.int 9)=some (.int ((j:Int) - 9),.z):=rfl
 have tk:fN 2 (bG (aj 4) (bG (aj 5) fO)) (Pd p) [some (.lst [.int n0],.u),some (Shd ps,.z),some (V,.z),some (.int (a:Int),.z),none,none,none,none,none,none,none]=some [some (.lst [.int n0],.u),some (Shd ps,.z),some (V,.z),some (.int (a:Int),.z),some (.int p.1,.z),some (.int p.2,.z),none,none,none,none,none]:=rfl
 clear hH l M Q small one hm ax
 have pre:∀ {r:L3.D},(aF (sIf (cB (af ltI (ac 10) (mC (.int 9)))) (bf 3 (af aH (af aH (mSl slD (ac 1) eW (dh (ac 3))) (ao lh (aa (af ay (ac 9) (ac 10)) ae))) (mSl slD (ac 1) (dh (af aH (ac 3) (mC (.int 1)))) eW))) dS) (bf 3 (af ay (aW (aa (kQ (ac 1) (dh (mUn cF (mC (.int 1))))) (aa (ao o6 (aa (ac 1) ae)) (aa (af aH (ac 1) (aS (aa (ac 8) ae))) (aa (aS (aa (ac 1) ae)) ae))))) (af de (ac 10) (mC (.int 9)))))) [some (.lst [.int n1],.u),some (Shd ps,.z),some (V,.z),some (.int (a:Int),.z),some (.int p.1,.z),some (.int p.2,.z),some (Pd c,.z),some (Pd p2,.z),some (.tup [.int (2 * p2.1 - c.1),.int (2 * p2.2 - c.2)],.z),some (.lst ((nwL p V).map .lst),.u),some (.int (j:Int),.z)]=some (.ok (.rt r .z),[some (.lst [.int n1],.u),some (Shd ps,.z),some (V,.z),some (.int (a:Int),.z),some (.int p.1,.z),some (.int p.2,.z),some (Pd c,.z),some (Pd p2,.z),some (.tup [.int (2 * p2.1 - c.1),.int (2 * p2.2 - c.2)],.z),some (.lst ((nwL p V).map .lst),.u),some (.int (j:Int),.z)])->fA [(.lst [.int n],.u),(Shd ps,.z),(V,.z)]=some (.ok (r,.z),[(.lst [.int n1],.u),(Shd ps,.z),(V,.z)]):=fun {r} hr=>by
  have nn:(L3.D.lst ((nwL p V).map .lst))=.lst [.lst [],.lst [.tup [.int p.1,.int p.2],.tup [.int p.1,.int p.2]],.lst [.tup [.int p.1,.int (p.2+1)]],.lst [.tup [.int (p.1+1),.int p.2]],.lst [.tup [.int p.1,.bl (decide (p.2=1))]],.lst [.lst [.int p.1,.int p.2]],.lst [.tup [.int p.1,.int p.2,.int 0]],.lst [V],.lst [.tup [.int p.1,.int (-p.2)]]]:=rfl
  rw [nn] at hr
  clear P nn C v w x t
  generalize Shd ps=S at *
  generalize Pd c=P0 at *
  generalize Pd p2=P2 at *
  generalize L3.D.int (ps.length:Int)=LN at *
  generalize L3.D.int (a:Int)=AA at *
  generalize L3.D.int (j:Int)=JJ at *
  generalize L3.D.int p.1=X at *
  generalize L3.D.int p.2=Y at *
  generalize L3.D.int (p.1+1)=X1 at *
  generalize L3.D.int (p.2+1)=Y1 at *
  generalize L3.D.int (-p.2)=YN at *
  generalize L3.D.int (2 * p2.1)=M1 at *
  generalize L3.D.int (2 * p2.2)=M2 at *
  generalize L3.D.int (2 * p2.1 - c.1)=H1 at *
  generalize L3.D.int (2 * p2.2 - c.2)=H2 at *
  generalize L3.D.bl (decide (p.2=1))=BB at *
  apply aY (ρ:=[some (.lst [.int n],.u),some (S,.z),some (V,.z),none,none,none,none,none,none,none,none]) rfl rfl
  ·unfold nk
   apply ak (ρ1:=[some (.lst [.int n0],.u),some (S,.z),some (V,.z),some (AA,.z),none,none,none,none,none,none,none])
   ·nomatch [t0],[ln]
   apply ak (ρ1:=[some (.lst [.int n0],.u),some (S,.z),some (V,.z),some (AA,.z),some (X,.z),some (Y,.z),none,none,none,none,none])
   ·exact yS (p:=(Pd p,.z)) (ρ2:=[some (.lst [.int n0],.u),some (S,.z),some (V,.z),some (AA,.z),none,none,none,none,none,none,none]) (a9 (ai rfl) (ai rfl) rfl rfl a1) rfl tk
   apply ak (ρ1:=[some (.lst [.int n0],.u),some (S,.z),some (V,.z),some (AA,.z),some (X,.z),some (Y,.z),some (P0,.z),some (P2,.z),none,none,none])
   ·exact i_par (a:=P0) (b:=P2) (ρ2:=[some (.lst [.int n0],.u),some (S,.z),some (V,.z),some (AA,.z),some (X,.z),some (Y,.z),none,none,none,none,none]) (ag (a9 (ai rfl) i_c rfl rfl a0) (ag (a9 (ai rfl) (iR i_c rfl O) rfl rfl a2) aw)) rfl (Nat.le_of_ble_eq_true rfl) (Nat.le_of_ble_eq_true rfl) rfl
   apply ak (ρ1:=[some (.lst [.int n0],.u),some (S,.z),some (V,.z),some (AA,.z),some (X,.z),some (Y,.z),some (P0,.z),some (P2,.z),some (.tup [H1,H2],.z),none,none])
   ·exists f0,f1,g0,g1,R,W,U,I
   apply ak (ρ1:=[some (.lst [.int n0],.u),some (S,.z),some (V,.z),some (AA,.z),some (X,.z),some (Y,.z),some (P0,.z),some (P2,.z),some (.tup [H1,H2],.z),some (.lst [.lst [],.lst [.tup [X,Y],.tup [X,Y]],.lst [.tup [X,Y1]],.lst [.tup [X1,Y]],.lst [.tup [X,BB]],.lst [.lst [X,Y]],.lst [.tup [X,Y,.int 0]],.lst [V],.lst [.tup [X,YN]]],.u),none])
   ·exact nws ar E ab J
   apply ak (ρ1:=[some (.lst [.int n1],.u),some (S,.z),some (V,.z),some (AA,.z),some (X,.z),some (Y,.z),some (P0,.z),some (P2,.z),some (.tup [H1,H2],.z),some (.lst [.lst [],.lst [.tup [X,Y],.tup [X,Y]],.lst [.tup [X,Y1]],.lst [.tup [X1,Y]],.lst [.tup [X,BB]],.lst [.lst [X,Y]],.lst [.tup [X,Y,.int 0]],.lst [V],.lst [.tup [X,YN]]],.u),some (JJ,.z)])
   ·nomatch [t1]
   exact hr
  ·rfl
 by_cases h9':j < 9
 ·have i:j < (nwL p V).length:=h9'
  obtain ⟨nw,o⟩:∃ nw,(nwL p V)[j]?=some nw:=⟨_,BA i⟩
  obtain ⟨G,nl⟩:=C nw (BH o)
  have sn:ay (.lst ((nwL p V).map .lst)) (.int (j:Int))=some (.lst nw,.z):=lr (iz (by rw [BK,o];rfl))
  have tp:lh [.lst nw]=some (.tup nw,.z):=rfl
  have c1:aH (.tup C1) (.tup nw)=some (.tup (C1 ++ nw),.z):=lW (by omega)
  have c2:aH (.tup (C1 ++ nw)) (.tup C2)=some (.tup (C1 ++ nw ++ C2),.z):=lW (by rw [BV];omega)
  refine ⟨n1,.tup (C1 ++ nw ++ C2),pre ?_,G⟩
  rw [BQ (show (j:Int) < 9 by omega)] at g
  clear pre C v w x t P o G
  generalize L3.D.lst ((nwL p V).map .lst)=NW at *
  generalize Shd ps=S at *
  generalize L3.D.int (j:Int)=JJ at *
  exact eP (fQ (b:=true) (dQ (a9 (ai rfl) i_c rfl rfl g) rfl) rfl (cj (a9 (a9 (xX (ai rfl) rfl rfl rfl Z) (aT (ag (a9 (ai rfl) (ai rfl) rfl rfl sn) aw) rfl tp) rfl rfl c1) (xX (ai rfl) rfl rfl rfl T) rfl rfl c2) rfl))
 ·have s:(j:Int) - 9=((j - 9:Nat):Int):=by omega
  obtain ⟨d,hd,G⟩:∃ d,[L3.D.tup (ps.map Pd).reverse,.lst (ps.map Pd),.tup (ps.map Pd ++ [.tup [.int (2 * p2.1 - c.1),.int (2 * p2.2 - c.2)]]),.tup [Shd ps]][j - 9]?=some d/\Gt d:=by
   have all:∀ d ∈ [L3.D.tup (ps.map Pd).reverse,.lst (ps.map Pd),.tup (ps.map Pd ++ [.tup [.int (2 * p2.1 - c.1),.int (2 * p2.2 - c.2)]]),.tup [Shd ps]],Gt d:=by
    intro d hd
    simp only [Bz,List.not_mem_nil,or_false] at hd
    rcases hd with rfl | rfl | rfl | rfl
    ·exact v
    ·exact w
    ·exact x
    ·exact t
   have i:j - 9 < [L3.D.tup (ps.map Pd).reverse,.lst (ps.map Pd),.tup (ps.map Pd ++ [.tup [.int (2 * p2.1 - c.1),.int (2 * p2.2 - c.2)]]),.tup [Shd ps]].length:=by show j - 9 < 4;omega
   exact ⟨_,BA i,all _ (List.getElem_mem i)⟩
  have sn:ay (.lst [L3.D.tup (ps.map Pd).reverse,.lst (ps.map Pd),.tup (ps.map Pd ++ [.tup [.int (2 * p2.1 - c.1),.int (2 * p2.2 - c.2)]]),.tup [Shd ps]]) (.int ((j:Int) - 9))=some (d,.z):=by rw [s];exact lr (iz hd)
  refine ⟨n1,d,pre ?_,G⟩
  rw [BR (show ¬ (j:Int) < 9 by omega)] at g
  clear pre C v w x t hd G s
  generalize L3.D.lst ((nwL p V).map .lst)=NW at *
  generalize L3.D.tup [.int (2 * p2.1 - c.1),.int (2 * p2.2 - c.2)]=HH at *
  generalize L3.D.tup (ps.map Pd ++ [HH])=A3 at *
  generalize L3.D.tup (ps.map Pd).reverse=A1 at *
  generalize L3.D.lst (ps.map Pd)=A2 at *
  generalize Shd ps=S at *
  generalize L3.D.int ((j:Int) - 9)=J9 at *
  generalize L3.D.int (j:Int)=JJ at *
  refine ak (dX (b:=false) (dQ (a9 (ai rfl) i_c rfl rfl g) rfl) rfl rfl) ?_
  apply cj
  ·exists P,li,ct,sj,sn
  ·rfl
theorem AG (s:Str):neX (.str s) (.str s)=some (.bl false,.z):=by
 simp [eqA,eqS]
theorem iF (b:Bool):c9 [(.bl b,.z),(.bl b,.z)]=some (.ok (.bl true,.z),[(.bl b,.z),(.bl b,.z)]):=by
 cases b <;> kernel_rfl
theorem oj {d:L3.D} (hd:Gt d) {S Gr KK B H V T:L3.D} {v7 v9:Option (L3.D × Fl)}:∃ w,fc [some (S,.z),some (Gr,.z),some (KK,.z),some (B,.u),some (H,.z),some (V,.z),some (T,.l),v7,some (d,.z),v9]=some (.ok .nx,[some (S,.z),some (Gr,.z),some (KK,.z),some (B,.u),some (H,.z),some (V,.z),some (T,.l),v7,some (d,.z),w]):=by
 obtain ⟨b,e,f⟩:=oB hd.1
 obtain ⟨t,a⟩:=hd.2
 have c:lC [d]=some (.str t,.z):=a
 have g:=iF b
 have ne:=AG t
 clear a hd
 refine ⟨some (.str t,.z),?_⟩
 unfold fc
 apply ak (ρ1:=[some (S,.z),some (Gr,.z),some (KK,.z),some (B,.u),some (H,.z),some (V,.z),some (T,.l),v7,some (d,.z),some (.str t,.z)])
 ·exists c
 refine dX (b:=false) (je (b:=false) (ρ1:=[some (S,.z),some (Gr,.z),some (KK,.z),some (B,.u),some (H,.z),some (V,.z),some (T,.l),v7,some (d,.z),some (.str t,.z)]) ?_ rfl ?_) rfl rfl
 ·exact cn (dQ (au g (ag (au e (ag (ai rfl) aw) rfl rfl rfl) (ag (au f (ag (ai rfl) aw) rfl rfl rfl) aw)) rfl rfl rfl) rfl)
 ·exact dQ (a9 (aT (ag (ai rfl) aw) rfl c) (ai rfl) rfl rfl ne) rfl
theorem oi {ds:List L3.D} (hd:∀ d ∈ ds,Gt d) {S Gr KK B H V T:L3.D} {v7 v8 v9:Option (L3.D × Fl)}:∃ c a,cw (aj 8) fc ds [some (S,.z),some (Gr,.z),some (KK,.z),some (B,.u),some (H,.z),some (V,.z),some (T,.l),v7,v8,v9]=some (.ok .nx,[some (S,.z),some (Gr,.z),some (KK,.z),some (B,.u),some (H,.z),some (V,.z),some (T,.l),v7,c,a]):=by
 obtain ⟨ρ',e,c,a,rfl⟩:=cq (bnd:=aj 8) (b:=fc) (fun _ ρ=>∃ c a,ρ=[some (S,.z),some (Gr,.z),some (KK,.z),some (B,.u),some (H,.z),some (V,.z),some (T,.l),v7,c,a]) (ds:=ds) (ρ:=[some (S,.z),some (Gr,.z),some (KK,.z),some (B,.u),some (H,.z),some (V,.z),some (T,.l),v7,v8,v9]) (k:=0) ⟨_,_,rfl⟩ (by
  rintro i d ρ hi ⟨c,a,rfl⟩
  obtain ⟨w,e⟩:=oj (hd d (BH hi)) (S:=S) (Gr:=Gr) (KK:=KK) (B:=B) (H:=H) (V:=V) (T:=T) (v7:=v7) (v9:=a)
  exact ⟨_,_,rfl,.inl e,_,_,rfl⟩)
 exact ⟨c,a,e⟩
theorem sI {ps:List Pt} (h1:1<=ps.length) (q:ps.length<=9) (hm:∀ p ∈ ps,Bo p) {V:L3.D} (o:inB V=true) (n:Int) {A:List L3.D} (r:∀ d ∈ A,Gt d) (t:A.length<=100) {S Gr KK:L3.D} {v7 v8 v9:Option (L3.D × Fl)}:∃ g a f,cw (aj 7) hE (aQ 0 4) [some (S,.z),some (Gr,.z),some (KK,.z),some (.lst [.int n],.u),some (Shd ps,.z),some (V,.z),some (.lst A,.u),v7,v8,v9]=some (.ok .nx,[some (S,.z),some (Gr,.z),some (KK,.z),some (.lst [.int g],.u),some (Shd ps,.z),some (V,.z),some (.lst a,.u),f,v8,v9])/\∀ d ∈ a,Gt d:=by
 obtain ⟨ρ',e,g,a,f,rfl,c,_⟩:=cq (bnd:=aj 7) (b:=hE) (fun m ρ=>∃ n a f,ρ=[some (S,.z),some (Gr,.z),some (KK,.z),some (.lst [.int n],.u),some (Shd ps,.z),some (V,.z),some (.lst a,.u),f,v8,v9]/\(∀ d ∈ a,Gt d)/\a.length=A.length+m) (ds:=aQ 0 4) (ρ:=[some (S,.z),some (Gr,.z),some (KK,.z),some (.lst [.int n],.u),some (Shd ps,.z),some (V,.z),some (.lst A,.u),v7,v8,v9]) (k:=0) ⟨n,A,v7,rfl,r,by omega⟩ (by
  rintro i d ρ hd ⟨n,a,f,rfl,c,al⟩
  obtain ⟨hi,rfl⟩:=bA hd
  obtain ⟨j,x,l,s⟩:=tU h1 q hm o n
  have ap:sJ (.lst a) [x]=some (.lst (a ++ [x]),.non):=vV (by omega)
  refine ⟨_,[some (S,.z),some (Gr,.z),some (KK,.z),some (.lst [.int j],.u),some (Shd ps,.z),some (V,.z),some (.lst (a ++ [x]),.u),some (.int (0+(i:Int)),.z),v8,v9],rfl,.inl ?_,j,a ++ [x],_,rfl,fun d hd=>(BD.mp hd).elim (c d) (fun h=>by rw [B1.mp h];exact s),by rw [BV,al,List.length_singleton];omega⟩
  unfold hE
  generalize L3.D.int (0+(i:Int))=II at *
  generalize Shd ps=H at *
  (nomatch [l],[ap]))
 exact ⟨g,a,f,e,c⟩
theorem uW {ns:List Int} (k:Nat) {Gr:L3.D} {v3 v4 v5 v6 v7 v8 v9:Option (L3.D × Fl)}:∃ F E M L b j h,gJ [some (.fls (ns.map .int),.z),some (Gr,.z),some (.int k,.z),v3,v4,v5,v6,v7,v8,v9]=some (.ok .nx,[some (.fls (ns.map .int),.z),some (Gr,.z),some (.int k,.z),F,E,M,L,b,j,h]):=by
 obtain ⟨n,G⟩:=wN ns k
 obtain ⟨c,ps,es,g,O,p⟩:=rj n 9 (by decide) (by decide)
 have K:ps.length<=9:=by omega
 have h1:1<=ps.length:=g.pos
 have t0:=eT c 20 (by decide)
 obtain ⟨a,J,r⟩:=lM c (m:=20) (by decide)
 rw [show ((20:Nat):Int)=20 from rfl] at r
 rw [r] at t0
 clear r
 generalize c / 20=n3 at *
 obtain ⟨V,I,hm⟩:=ov_at a J
 have y:=wK t0 I
 obtain ⟨w,o⟩:=Aq hm
 have x:∀ d ∈ ps.map Pd,pkB d=true:=fun d hd=>by
  obtain ⟨q,C,rfl⟩:=BJ.mp hd
  obtain ⟨b1,b2,Q,P⟩:=p q C
  exact fP (jN ⟨⟨by omega,by omega⟩,by omega,by omega⟩)
 have G0:Gt (Shd ps):=jX x (by simp;omega)
 have t:Gt (.tup []):=jX (fun d hd=>by cases hd) (by decide)
 have s:Gt (.tup [V]):=vi o (A:=[]) (B:=[]) (fun d hd=>by cases hd) (fun d hd=>by cases hd) (by decide)
 have v:∀ d ∈ [Shd ps,V,.tup [],.tup [V]],Gt d:=by
  intro d hd
  simp only [Bz,List.not_mem_nil,or_false] at hd
  rcases hd with rfl | rfl | rfl | rfl
  ·exact G0
  ·exact w
  ·exact t
  ·exact s
 generalize L3.D.fls (ns.map .int)=S at *
 generalize L3.D.int (k:Int)=KK at *
 obtain ⟨e,A,b,bl,f⟩:=sI h1 K p o n3 v (Nat.le_of_ble_eq_true rfl) (S:=S) (Gr:=Gr) (KK:=KK) (v7:=v7) (v8:=v8) (v9:=v9)
 obtain ⟨j,h,lo⟩:=oi f (S:=S) (Gr:=Gr) (KK:=KK) (B:=.lst [.int e]) (H:=Shd ps) (V:=V) (T:=.lst A) (v7:=b) (v8:=v8) (v9:=v9)
 refine ⟨some (.lst [.int e],.u),some (Shd ps,.z),some (V,.z),some (.lst A,.u),b,j,h,?_⟩
 clear v f x G0 t s g p w o hm
 have N:dH [.int 4]=some (aQ 0 4):=dw (by decide) (by decide)
 have es:dZ [(.lst [.int n],.u),(.int 9,.z)]=some (.ok (Shd ps,.z),[(.lst [.int c],.u),(.int 9,.z)]):=es
 generalize aQ 0 4=RG at *
 generalize Shd ps=H at *
 unfold gJ
 apply ak (ρ1:=[some (S,.z),some (Gr,.z),some (KK,.z),some (.lst [.int n],.u),v4,v5,v6,v7,v8,v9])
 ·nomatch [G]
 apply ak (ρ1:=[some (S,.z),some (Gr,.z),some (KK,.z),some (.lst [.int c],.u),some (H,.z),v5,v6,v7,v8,v9])
 ·nomatch [es]
 apply ak (ρ1:=[some (S,.z),some (Gr,.z),some (KK,.z),some (.lst [.int n3],.u),some (H,.z),some (V,.z),v6,v7,v8,v9])
 ·nomatch [y]
 apply ak (ρ1:=[some (S,.z),some (Gr,.z),some (KK,.z),some (.lst [.int n3],.u),some (H,.z),some (V,.z),some (.lst [H,V,.tup [],.tup [V]],.u),v7,v8,v9])
 ·nofun
 apply ak (ρ1:=[some (S,.z),some (Gr,.z),some (KK,.z),some (.lst [.int e],.u),some (H,.z),some (V,.z),some (.lst A,.u),b,v8,v9])
 ·apply dF
  ·(repeat' (first | with_reducible apply dW (h3:=N) | infer_instance | eq_refl))
  ·rfl
  ·exact bl
 exact AV (is:=[6]) (ρ1:=[some (S,.z),some (Gr,.z),some (KK,.z),some (.lst [.int e],.u),some (H,.z),some (V,.z),some (.lst A,.u),b,v8,v9]) (ρ2:=[some (S,.z),some (Gr,.z),some (KK,.z),some (.lst [.int e],.u),some (H,.z),some (V,.z),some (.lst A,.l),b,j,h]) (ip (ai (i:=6) rfl) rfl rfl) rfl lo
def gps:List Pt:=(List.range 25).map fun k:Nat=>((k:Int),(k:Int) * (k:Int))
theorem vf (S:L3.D):(aX 1 (ao lh (aa ni ae))) [some (S,.z),none,none,none,none,none,none,none,none,none]=some (.ok .nx,[some (S,.z),some (Shd gps,.z),none,none,none,none,none,none,none,none]):=by kernel_rfl
theorem ve:bc [(Shd gps,.z)]=some (.ok (.bl false,.z),[(Shd gps,.z)]):=by kernel_rfl
theorem r9:slD (Shd gps) (some 1) none=some (Shd (gps.drop 1),.z):=by kernel_rfl
theorem r0:bc [(Shd (gps.drop 1),.z)]=some (.ok (.bl true,.z),[(Shd (gps.drop 1),.z)]):=by
 have d:∀ (i:Nat) (p:Pt),(gps.drop 1)[i]?=some p->p=(((i+1:Nat):Int),((i+1:Nat):Int) * ((i+1:Nat):Int))/\i < 24:=fun i p h=>by
  have g:=(BG.mp h).1
  have g:i < 24:=g
  rw [List.getElem?_drop] at h
  unfold gps at h
  rw [BK,List.getElem?_range (by omega)] at h
  have h:=Ce h
  rw [<- h,Nat.add_comm 1 i]
  exact ⟨rfl,g⟩
 refine mL ⟨by decide,by decide,fun p f=>?_,fun i j p q m f l=>?_,fun i j k p q r m n f l o=>?_⟩
 ·obtain ⟨i,hi⟩:=List.getElem?_of_mem f
  obtain ⟨rfl,g⟩:=d i p hi
  have:((i+1:Nat):Int) * ((i+1:Nat):Int)<=24 * 24:=Int.mul_le_mul (by omega) (by omega) (by omega) (by omega)
  have h0:0<=((i+1:Nat):Int) * ((i+1:Nat):Int):=Int.mul_nonneg (by omega) (by omega)
  exact ⟨by show -(2 ^ 62) < ((i+1:Nat):Int);omega,by show ((i+1:Nat):Int) < 2 ^ 62;omega,by show -(2 ^ 62) < ((i+1:Nat):Int) * ((i+1:Nat):Int);omega,by show ((i+1:Nat):Int) * ((i+1:Nat):Int) < 2 ^ 62;omega⟩
 ·obtain ⟨rfl,_⟩:=d i p f
  obtain ⟨rfl,_⟩:=d j q l
  show ((i+1:Nat):Int) < ((j+1:Nat):Int)
  omega
 ·obtain ⟨rfl,_⟩:=d i p f
  obtain ⟨rfl,_⟩:=d j q l
  obtain ⟨rfl,_⟩:=d k r o
  generalize u:((i+1:Nat):Int)=a
  generalize t:((j+1:Nat):Int)=b
  generalize s:((k+1:Nat):Int)=c
  have e:aL (a,a * a) (b,b * b) (c,c * c)=(b - a) * ((c - a) * (c - b)):=by
   show (b - a) * (c * c - a * a) - (b * b - a * a) * (c - a)=_
   simp only [Int.sub_mul,Int.mul_sub,Int.mul_comm,Int.mul_left_comm,Int.mul_assoc]
   omega
  rw [e]
  exact Int.mul_ne_zero (by omega) (Int.mul_ne_zero (by omega) (by omega))
theorem wM (ns:List Int) (q:ns.length<=63):y7 [(.fls (ns.map .int),.z)]=some (.ok (.bl true,.z),[(.fls (ns.map .int),.z)]):=by
 have c:∃ m:Nat,(if (if ((6:Int) < ((ns.map L3.D.int).length:Int)) then (6:Int) else ((ns.map L3.D.int).length:Int)) > 1 then (if ((6:Int) < ((ns.map L3.D.int).length:Int)) then (6:Int) else ((ns.map L3.D.int).length:Int)) else (1:Int))=(m:Int)/\m<=6:=by
  refine ⟨max 1 (min ns.length 6),?_,by omega⟩
  simp only [BF]
  split <;> split <;> omega
 obtain ⟨m,hm,a⟩:=c
 obtain ⟨ρ',e,v2,v3,v4,v5,v6,v7,v8,v9,rfl⟩:=cq (bnd:=aj 2) (b:=gJ) (fun _ ρ=>∃ v2 v3 v4 v5 v6 v7 v8 v9,ρ=[some (.fls (ns.map .int),.z),some (Shd gps,.z),v2,v3,v4,v5,v6,v7,v8,v9]) (ds:=aQ 0 m) (ρ:=[some (.fls (ns.map .int),.z),some (Shd gps,.z),none,none,none,none,none,none,none,none]) (k:=0) ⟨_,_,_,_,_,_,_,_,rfl⟩ (by
  rintro i d ρ hd ⟨v2,v3,v4,v5,v6,v7,v8,v9,rfl⟩
  obtain ⟨hi,rfl⟩:=bA hd
  rw [Int.zero_add]
  obtain ⟨l,j,r,o,n,s,p,e⟩:=uW (ns:=ns) i (Gr:=Shd gps) (v3:=v3) (v4:=v4) (v5:=v5) (v6:=v6) (v7:=v7) (v8:=v8) (v9:=v9)
  exact ⟨_,_,rfl,.inl e,_,_,_,_,_,_,_,_,rfl⟩)
 have g:dH [.int (if (if ((6:Int) < ((ns.map L3.D.int).length:Int)) then (6:Int) else ((ns.map L3.D.int).length:Int)) > 1 then (if ((6:Int) < ((ns.map L3.D.int).length:Int)) then (6:Int) else ((ns.map L3.D.int).length:Int)) else (1:Int))]=some (aQ 0 m):=by
  rw [hm]
  exact dw (by omega) (by omega)
 have f:=vf (.fls (ns.map .int))
 have g1:=ve
 have g2:=r9
 have g3:=r0
 have h:=iF false
 have tt:=iF true
 generalize Shd (gps.drop 1)=G1 at *
 generalize Shd gps=G0 at *
 apply aY (ρ:=[some (.fls (ns.map .int),.z),none,none,none,none,none,none,none,none,none]) rfl rfl
 ·unfold yR
  refine ak f ?_
  apply ak (ρ1:=[some (.fls (ns.map .int),.z),some (G0,.z),none,none,none,none,none,none,none,none])
  ·generalize L3.D.fls (ns.map .int)=S at *
   exact dX (b:=false) (je (b:=false) (ρ1:=[some (S,.z),some (G0,.z),none,none,none,none,none,none,none,none]) (cn (dQ (au h (ag (au g1 (ag (ai rfl) aw) rfl rfl rfl) (ag i_c aw)) rfl rfl rfl) rfl)) rfl (cn (dQ (au tt (ag (au g3 (ag (xX (ai rfl) rfl rfl rfl g2) aw) rfl rfl rfl) (ag i_c aw)) rfl rfl rfl) rfl))) rfl rfl
  apply ak
  ·apply dF
   ·(repeat' (first | with_reducible apply dW (h3:=g) | infer_instance | eq_refl))
   ·rfl
   ·exact e
  ·nofun
 ·rfl
end Bn
end
namespace Bn
open PySem L2 L3
theorem Bj {l : PySem.W.OpenLaw} {w : World} {K : FG} {h : Heap} {mg : Str -> Option Value} {fa : Addr} (X : K.In h) (G : h.Ns mainGlobals mg) (ax : mg "law" = some (.ref fa)) (e : wJ K = qv) :
  ∃ fd : FuncData, (∀ (s : Shared) (v : Value), BindsTo s fd ⟨[v], []⟩ [("_law_script", v)]) /\ ∀ base : Heap, K.In base -> base.Ns mainGlobals mg -> FnOk l.prog w K mg base CX0 5 fa fd ["_law_script"] (s9 K) := by
 have i : dsL.map (fun p => nH K p.1) = dsL.map (fun p => j0 p.1 p.2) := congrArg (fun x => x.1) e
 have e1 : blL.map (PySem.W.nsIn K mainGlobals) = blL.map (fun _ => some none) := congrArg (fun x => x.2.1) e
 have e2 : ciL.map (fun p => lT K p.1) = ciL.map (fun p => some p.2) := congrArg (fun x => x.2.2.1) e
 have e3 : csL.map (fun p => sZ K p.1) = csL.map (fun p => some p.2) := congrArg (fun x => x.2.2.2) e
 have B : Bl mg := ⟨bU X G e1 0 rfl, bU X G e1 1 rfl, bU X G e1 2 rfl, bU X G e1 3 rfl, bU X G e1 4 rfl, bU X G e1 5 rfl, bU X G e1 6 rfl, bU X G e1 7 rfl, bU X G e1 8 rfl, bU X G e1 9 rfl, bU X G e1 10 rfl, bU X G e1 11 rfl, bU X G e1 12 rfl, bU X G e1 13 rfl, bU X G e1 14 rfl, bU X G e1 15 rfl, bU X G e1 16 rfl, bU X G e1 17 rfl, bU X G e1 18 rfl, bU X G e1 19 rfl⟩
 have D0 : Def K mg "is_whole" eg := bb X G i 0 rfl
 have D1 : Def K mg "is_point" eA := bb X G i 1 rfl
 have D2 : Def K mg "are_points" cZ := bb X G i 2 rfl
 have D3 : Def K mg "has_rising_x" b7 := bb X G i 3 rfl
 have D4 : Def K mg "bend" lz := bb X G i 4 rfl
 have D5 : Def K mg "threes" gh := bb X G i 5 rfl
 have D6 : Def K mg "first_on_line" bQ := bb X G i 6 rfl
 have D7 : Def K mg "is_sheet" eh := bb X G i 7 rfl
 have D8 : Def K mg "_law_cell" gl := bb X G i 8 rfl
 have D9 : Def K mg "_law_mix" jq := bb X G i 9 rfl
 have S : Def K mg "_law_box" jr := bb X G i 10 rfl
 have U : Def K mg "_law_take" gi := bb X G i 11 rfl
 have O : Def K mg "_law_whole" fF := bb X G i 12 rfl
 have ar : Def K mg "_law_truth" fG := bb X G i 13 rfl
 have Y : Def K mg "_law_bend" gr := bb X G i 14 rfl
 have R : Def K mg "_law_free" gk := bb X G i 15 rfl
 have ab : Def K mg "_law_sheet" fH := bb X G i 16 rfl
 have T : Def K mg "_law_odd" jp := bb X G i 17 rfl
 have a0 : Def K mg "_law_points" ee := bb X G i 18 rfl
 have N : Def K mg "_law_line" gj := bb X G i 19 rfl
 have V : Def K mg "_law_is_sheet" cY := bb X G i 20 rfl
 have az : Def K mg "_law_bent" gq := bb X G i 21 rfl
 obtain ⟨f, fd, F0, hf⟩ : Def K mg "law" eQ := bb X G i 22 rfl
 cases ax.symm.trans hf
 have F := F0
 obtain ⟨oc, od, kV, doc, pm, an, Z, ct, a5, ef, lk, a3⟩ := F0.ex
 subst ef
 obtain ⟨a4, Q0⟩ := AU X G e2 0 (n := "MOST_POINTS") (v := 24) rfl
 refine ⟨PySem.W.fnOf "law" "law" (bd eQ) (aU eQ) (ah eQ) .none kV doc pm an Z ct, fun s v => .of_eq rfl, fun base _ _ => ?_⟩
 have z := l7 (P := l.prog) (w := w) (base := base) B D0
 have J := md (P := l.prog) (w := w) (base := base) B D1 z
 have k := j9 (P := l.prog) (w := w) (base := base) B D2 J Q0
 have g := iW (P := l.prog) (w := w) (base := base) B D3
 have M := vN (P := l.prog) (w := w) (base := base) B D4
 have L := pA (P := l.prog) (w := w) (base := base) B D5
 have c := iw (P := l.prog) (w := w) (base := base) B D6 M L
 have D := l8 (P := l.prog) (w := w) (base := base) B D7 k c g
 have r := pE (P := l.prog) (w := w) (base := base) B D8
 have I := sF (P := l.prog) (w := w) (base := base) B D9
 have A := sG (P := l.prog) (w := w) (base := base) B S r I
 have a := pB (P := l.prog) (w := w) (base := base) B U
 have o := nU (P := l.prog) (w := w) (base := base) B O
 have q := nV (P := l.prog) (w := w) (base := base) B ar
 have b := pG (P := l.prog) (w := w) (base := base) B Y
 have u := pD (P := l.prog) (w := w) (base := base) B R b
 have m := nW (P := l.prog) (w := w) (base := base) B ab u a
 have C := sE (P := l.prog) (w := w) (base := base) B T a
 have j := l6 (P := l.prog) (w := w) (base := base) B a0 o
 have t := pC (P := l.prog) (w := w) (base := base) B N b
 have d := j8 (P := l.prog) (w := w) (base := base) B V t j
 have y := pF (P := l.prog) (w := w) (base := base) B az a
 exact FnOk.imp (x4 (P := l.prog) (w := w) (base := base) B F y A d C m q D) fun vs H Q E h => xS (fun ns hn => ⟨_, wM ns hn⟩) h
theorem walkL : PySem.W.WalkO viL loL (fun _ _ => True) (fun _ h => ∃ K : FG, K.In h /\ wJ K = qv) PySem.Challenge.rw_bentrows_k01_sheets_known.row.toRowW ⟨"law", bd eQ, aU eQ, ah eQ, stPos eQ⟩ [] (fun f b => PySem.call f b) :=
 L2.walk_ofS (l := PySem.Challenge.rw_bentrows_k01_sheets_known) (n := 63) (k := 5) (x := "_law_script") (S := fun K => wJ K = qv) (CX := CX0) (sp := s9) rfl (by decide) rfl ⟨rfl, by decide, by decide, rfl⟩ (fun _ _ z => z) (fun _ _ _ _ _ e X G hm => Bj X G hm e) (fun _ _ a ns g c d => ⟨a, ns, rfl, d, c, g, fun _ => rfl⟩) fun _ _ _ _ z => z
end Bn
open PySem PySem.W PyProof.Rows
set_option maxRecDepth 100000 in
set_option maxHeartbeats 0 in
theorem PySem.Challenge.cw_bentrows_k01_sheets_known_holds : PySem.Challenge.rw_bentrows_k01_sheets_known.Holds :=
 holds_law Bn.okL fun said => holds_open (r := PySem.Challenge.rw_bentrows_k01_sheets_known.row) Bn.leftL (fun _ _ e => ⟨_, L2.fragAt_in _, e⟩) (fun _ _ _ ⟨K, X, e⟩ k => ⟨K, X.keeps k, e⟩) (fun _ _ => trivial) (fun _ _ _ _ _ => trivial) (by kernel_rfl) (by kernel_rfl) (by kernel_rfl) (fun s e => recFacts_of e) (by rfl) said (by kernel_rfl) ⟨rfl, rfl, rfl, rfl, rfl, by decide +kernel⟩ ⟨[.list []], by decide +kernel, by decide +kernel⟩ Bn.walkL
