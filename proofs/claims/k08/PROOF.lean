import PyProof.Rows.All
import Wide.All
import OpenK.AllK
import Wide.FinOn
import Lean
import PyProof.EqAt
import PyProof.EqKinds
import PyProof.TupleCall
import PyProof.P3Eq
import PyProof.NeData
import PyProof.ListRange
import PyProof.Rows.CallKwBuiltin
import PyProof.Rows.Range3
import PyProof.DictWalks
import PyProof.MinMaxWalk
import PyProof.WalkInts
import PyProof.Walk
import PyProof.WalkLemmas
import PyProof.RulesTry
import PyProof.Rows.SortShell
import PyProof.Rows.SortWalk
import PyProof.Rows.SortRuns
import PyProof.Rows.SetFrom
import PyProof.SetKind
import PyProof.SetScanFacts
import PyProof.FactsAll.subtypes_4
import PyProof.FactsAll.set_1
import PyProof.DictDisplay
import KE.KRevIter
import PyProof.SetRoads
import PyProof.TupleCall
import PyProof.TupleOfGen
import PySem.Challenge.RW_bentrows_k08_rows_known
set_option genSizeOf false
set_option Elab.async false
noncomputable section
set_option linter.all false
set_option maxRecDepth 100000
set_option maxHeartbeats 4000000
section
abbrev FG:=PySem.W.Frag
open PySem PySem.Spec PyProof.Rows
abbrev B0:=@wpAny_bind
abbrev B4:=@wpAny_pure
abbrev B5:=@wpAny_holding
abbrev B6:=@List.mem_cons_self
abbrev B7:=@List.mem_cons_of_mem
abbrev B8:=@Heap.get?_push_of_some
abbrev B9:=@Option.map_eq_some_iff
abbrev Ca:=@List.mem_append_left
abbrev Cc:=@List.mem_append_right
abbrev Cd:=@List.mem_cons
abbrev Ce:=@List.getElem?_eq_getElem
abbrev Cf:=@Heap.lt_size
abbrev Cg:=@List.mem_append
abbrev Ch:=@Heap.get?_push_size
abbrev Ci:=@List.length_map
abbrev Cj:=@List.getElem?_eq_some_iff
abbrev Ck:=@List.mem_of_getElem?
abbrev Cl:=@List.sublist_append_right
abbrev Cm:=@List.mem_map
abbrev Cn:=@List.getElem?_map
abbrev Co:=@Nat.le_refl
abbrev Cp:=@Bool.false_ne_true
abbrev Cq:=@Nat.ne_of_lt
abbrev Cr:=@List.size_toArray
abbrev Cs:=@List.map_cons
abbrev Ct:=@decide_eq_true
abbrev Cu:=@decide_eq_false
abbrev Cv:=@Nat.lt_of_lt_of_le
abbrev Cw:=@Nat.zero_add
abbrev Cy:=@Heap.get?_update_self
abbrev Cz:=@List.length_append
abbrev CA:=@List.length_cons
abbrev CB:=@List.length_take
abbrev CD:=@Option.map_some
abbrev CF:=@Option.bind_eq_some_iff
abbrev CG:=@List.mem_singleton
abbrev CH:=@Bool.false_eq_true
abbrev CI:=@List.mem_filter
abbrev CJ:=@List.getElem?_append_left
abbrev CK:=@Heap.get?_update_other
abbrev CL:=@Heap.size_push
abbrev CM:=@wpAny_truthy_bool
abbrev CN:=@Nat.le_trans
abbrev CO:=@List.filter_eq_self
abbrev CP:=@List.mem_flatMap
abbrev CQ:=@List.map_map
abbrev CS:=@Option.some.inj
abbrev CT:=@List.length_eq_zero_iff
end
section
namespace L2
open PySem
def aW (s : Stmt) : Arguments := match s with
 | .FunctionDef _ a _ _ _ _ _ _ _ _ => a
 | _ => { posonlyargs := [], args := [], vararg := none, kwonlyargs := [], kw_defaults := [], kwarg := none, defaults := [] }
def aM (s : Stmt) : List Stmt := match s with
 | .FunctionDef _ _ b _ _ _ _ _ _ _ => b
 | _ => []
def af (s : Stmt) : Scope := match s with
 | .FunctionDef _ _ _ _ _ _ sc _ _ _ => sc
 | _ => { kind := .function, names := [], isGenerator := false, isCoroutine := false }
def wc (h : Heap) : FG := (List.range h.objs.size).filterMap fun a => (h.get? a).map fun o => (a, o)
def refIn (K : FG) (n : Str) : Addr := match PySem.W.nsIn K mainGlobals n with
 | some (some (.ref f)) => f
 | _ => 0
abbrev mP := Str × Str × Arguments × FuncBody × Scope × Addr × List (Str × Addr) × Value × Addr × Bool
def oq (K : FG) (n : Str) : Option mP := match PySem.W.nsIn K mainGlobals n with
 | some (some (.ref f)) => (match K.lookup f with
  | some ⟨_, _, .func fd, _⟩ => some (fd.name, fd.qualname, fd.params, fd.body, fd.scope, fd.globals, fd.closure, fd.defaults, fd.builtins, PySem.W.codeIn K fd.code n)
  | _ => none)
 | _ => none
def km (n : Str) (st : Stmt) : Option mP := some (n, n, aW st, .stmts (aM st), af st, mainGlobals, [], .none, builtinsNs, true)
def mj (K : FG) (n : Str) : Option Int := match PySem.W.nsIn K mainGlobals n with
 | some (some (.int v _)) => some v
 | _ => none
def um (K : FG) (n : Str) : Option Str := match PySem.W.nsIn K mainGlobals n with
 | some (some (.str v _)) => some v
 | _ => none
open PySem.W PyProof.Rows in
theorem sS {p q : Program} {loose : List Str} {c : Shared → Bool} {α : Type} {g : Shared → α} {d : World → α} {N m : Nat} {ann : Option Value}
  (e : opening p = plainProg p.main.scope.names) (h : Nat.ble 600 N = true) (f : ∀ s, fenceModules? p s = some s)
  (sz : ∀ w : World, ((boot_heap w.params).isNs mainGlobals && (Array.mk [] : Array GenState).size == 0, (boot_heap w.params).objs.size, (boot_heap w.params).nsMap mainGlobals "__annotations__") = (true, m, ann))
  (go : ∀ (w : World) (os : OsState), (PySem.W.Fast.tw14082659384304107361 PySem.W.Fast.tw14364793385576792824 p w m ann N ⟨boot_heap w.params, Array.mk [], boot_drawn, boot_toks, os⟩ (topStub p)).map (fun s => ((staticsOk (importedModules p.main.body) (boot_heap w.params) s.heap && namesBound p s.heap && gensDone s && laidKept (boot_heap w.params) s.heap), PySem.W.Fast.tw4187177175401517315 q loose (importedModules p.main.body) c true s, g s)) = some (true, openGood q loose, d w)) : LeftO p q loose c g d N := fun w => by
 obtain ⟨⟨n, j, o, tk, os⟩, k, i⟩ := B9.mp (boot_open e h f w)
 obtain ⟨rfl, rfl, rfl, rfl⟩ : n = boot_heap w.params ∧ j = Array.mk [] ∧ o = boot_drawn ∧ tk = boot_toks := by simpa using i
 have sw := sz w
 have a := go w os
 rw [← PySem.W.Fast.te14082659384304107361, ← PySem.W.Fast.te14364793385576792824, ← PySem.W.Fast.te4187177175401517315] at a
 simp only [Prod.mk.injEq] at sw
 obtain ⟨s, l, b⟩ := B9.mp a
 simp only [Prod.mk.injEq] at b
 have tt : topFrom treeTable p w N ⟨boot_heap w.params, Array.mk [], boot_drawn, boot_toks, os⟩ = some s := by
  unfold topFrom
  dsimp only
  rw [sw.1, sw.2.1, sw.2.2, l]
  change (match staticsOk (importedModules p.main.body) (boot_heap w.params) s.heap && namesBound p s.heap && gensDone s && laidKept (boot_heap w.params) s.heap with | true => some s | false => none) = some s
  rw [b.1]
 unfold openEnds
 rw [k]
 change Option.map _ (topFrom treeTable p w N _) = _
 rw [tt]
 exact congrArg some (Prod.ext b.2.1 b.2.2)
theorem si (h : PySem.W.Fast.tw9446332074065402090 l = true) : l.wellSaid = true := by rw [← PySem.W.Fast.te9446332074065402090] at h; exact h
end L2
namespace Bn
open PySem L2
def top (i : Nat) : Stmt := PySem.Challenge.pw_bentrows_k08_rows_known.main.body.getD i (.Pass ⟨0, 0, 0, 0⟩)
abbrev eG : Stmt := top 4
abbrev eJ : Stmt := top 5
abbrev eK : Stmt := top 6
abbrev bh : Stmt := top 7
abbrev cX : Stmt := top 10
abbrev cb : Stmt := top 11
abbrev lQ : Stmt := top 12
abbrev gJ : Stmt := top 13
abbrev bR : Stmt := top 14
abbrev eI : Stmt := top 15
abbrev cE : Stmt := top 16
abbrev fX : Stmt := top 17
abbrev dM : Stmt := top 18
abbrev dL : Stmt := top 22
abbrev jL : Stmt := top 23
abbrev ig : Stmt := top 24
abbrev ik : Stmt := top 25
abbrev ib : Stmt := top 27
abbrev jJ : Stmt := top 28
abbrev jK : Stmt := top 29
abbrev hE : Stmt := top 30
abbrev fY : Stmt := top 31
abbrev fZ : Stmt := top 32
abbrev ie : Stmt := top 33
abbrev hU : Stmt := top 34
abbrev f9 : Stmt := top 35
abbrev jI : Stmt := top 36
abbrev lP : Stmt := top 37
abbrev eF : Stmt := top 38
abbrev gc : Stmt := top 39
abbrev hJ : Stmt := top 40
abbrev ic : Stmt := top 41
abbrev fu : Stmt := top 42
abbrev dsL : List (Str × Stmt) := [(("is_whole" : Str), eG), (("is_point" : Str), eJ), (("is_place" : Str), eK), (("are_rising_places" : Str), bh), (("are_points" : Str), cX), (("has_rising_x" : Str), cb), (("bend" : Str), lQ), (("threes" : Str), gJ), (("first_on_line" : Str), bR), (("is_sheet" : Str), eI), (("check_sheet" : Str), cE), (("turn_at" : Str), fX), (("all_turns" : Str), dM), (("row_bends" : Str), dL), (("bends" : Str), jL), (("is_cup" : Str), ig), (("is_cap" : Str), ik), (("_law_cell" : Str), ib), (("_law_mix" : Str), jJ), (("_law_box" : Str), jK), (("_law_take" : Str), hE), (("_law_whole" : Str), fY), (("_law_truth" : Str), fZ), (("_law_bend" : Str), ie), (("_law_free" : Str), hU), (("_law_sheet" : Str), f9), (("_law_odd" : Str), jI), (("_law_up" : Str), lP), (("_law_rising" : Str), eF), (("_law_bends" : Str), gc), (("_law_gone" : Str), hJ), (("_law_bent" : Str), ic), (("law" : Str), fu)]
abbrev blL : List Str := [("len" : Str), ("range" : Str), ("abs" : Str), ("divmod" : Str), ("enumerate" : Str), ("tuple" : Str), ("isinstance" : Str), ("int" : Str), ("bool" : Str), ("all" : Str), ("str" : Str), ("max" : Str), ("min" : Str), ("list" : Str), ("dict" : Str), ("repr" : Str), ("sorted" : Str), ("set" : Str), ("zip" : Str), ("reversed" : Str)]
abbrev ciL : List (Str × Int) := [(("MOST_POINTS" : Str), (24 : Int)), (("UP" : Str), (1 : Int)), (("DOWN" : Str), (-1 : Int))]
abbrev csL : List (Str × Str) := []
def xn (K : FG) : List (Option mP) × List (Option (Option Value)) × List (Option Int) × List (Option Str) := (dsL.map (fun p => oq K p.1), blL.map (PySem.W.nsIn K mainGlobals), ciL.map (fun p => mj K p.1), csL.map (fun p => um K p.1))
def rB : List (Option mP) × List (Option (Option Value)) × List (Option Int) × List (Option Str) := (dsL.map (fun p => km p.1 p.2), blL.map (fun _ => some none), ciL.map (fun p => some p.2), csL.map (fun p => some p.2))
theorem okL : PySem.Challenge.rw_bentrows_k08_rows_known.wellSaid = true := si (by kernel_rfl)
abbrev loL : List Str := [("BentError" : Str), ("NoSheet" : Str), ("is_whole" : Str), ("is_point" : Str), ("is_place" : Str), ("are_rising_places" : Str), ("MOST_POINTS" : Str), ("are_points" : Str), ("has_rising_x" : Str), ("bend" : Str), ("threes" : Str), ("first_on_line" : Str), ("is_sheet" : Str), ("check_sheet" : Str), ("turn_at" : Str), ("all_turns" : Str), ("UP" : Str), ("DOWN" : Str), ("row_bends" : Str), ("bends" : Str), ("is_cup" : Str), ("is_cap" : Str), ("_law_cell" : Str), ("_law_mix" : Str), ("_law_box" : Str), ("_law_take" : Str), ("_law_whole" : Str), ("_law_truth" : Str), ("_law_bend" : Str), ("_law_free" : Str), ("_law_sheet" : Str), ("_law_odd" : Str), ("_law_up" : Str), ("_law_rising" : Str), ("_law_bends" : Str), ("_law_gone" : Str), ("_law_bent" : Str)]
abbrev viL : Program := PySem.W.view PySem.Challenge.rw_bentrows_k08_rows_known.row.prog [42]
theorem leftL : PySem.W.LeftO PySem.Challenge.rw_bentrows_k08_rows_known.row.prog viL loL (fun s => PySem.W.recOk (PySem.W.RowW.records PySem.Challenge.rw_bentrows_k08_rows_known.row.toRowW) s) (fun s => xn (wc s.heap)) (fun _ => rB) 40000 :=
 sS (m := 11) (ann := some (.ref 6)) (by kernel_rfl) rfl (fun _ => rfl) (fun w => by kernel_rfl) (fun w os => by kernel_rfl)
end Bn
end
section
namespace L2
open PySem PySem.Spec PyProof.Rows
abbrev Key:=Sum Int Str
def lp:Key->Value->Bool
 | .inl k,v=>Value.isInt k v
 | .inr x,v=>Value.isStrOf x v
def keyH (w:World):Key->Int
 | .inl k=>hashInt k
 | .inr x=>hashStr w x
theorem a7:∀ {k:Key} {v:Value},lp k v=true->(∃ i t,k=Sum.inl i/\v=Value.int i t)\/(∃ x t,k=Sum.inr x/\v=Value.str x t)
 | .inl i,v,h=>by
  obtain ⟨t,e⟩:=Value.isInt_shape (k:=i) (v:=v) h
  exact .inl ⟨i,t,rfl,e⟩
 | .inr x,v,h=>by
  obtain ⟨t,e⟩:=Value.isStrOf_shape (x:=x) (v:=v) h
  exact .inr ⟨x,t,rfl,e⟩
theorem sV (i:Int) (t:Tok):lp (.inl i) (.int i t)=true:=by simp [lp,Value.isInt]
theorem sU (x:Str) (t:Tok):lp (.inr x) (.str x t)=true:=by simp [lp,Value.isStrOf]
theorem Bv (a b:Int):decide ((Sum.inl a:Key)=Sum.inl b)=(a == b):=by
 by_cases e:a=b
 ·subst e;simp
 ·have h:¬ (Sum.inl a:Key)=Sum.inl b:=fun q=>e (Sum.inl.inj q)
  rw [Cu h]
  exact (beq_eq_false_iff_ne.mpr e).symm
theorem Bs (a b:Str):decide ((Sum.inr a:Key)=Sum.inr b)=decide (a=b):=by
 by_cases e:a=b
 ·subst e;simp
 ·have h:¬ (Sum.inr a:Key)=Sum.inr b:=fun q=>e (Sum.inr.inj q)
  rw [Cu h,Cu e]
theorem Bu (a:Int) (b:Str):decide ((Sum.inl a:Key)=Sum.inr b)=false:=Cu (fun q=>nomatch q)
theorem Bt (a:Str) (b:Int):decide ((Sum.inr a:Key)=Sum.inl b)=false:=Cu (fun q=>nomatch q)
def bA (prog:Program) (w:World):PySem.KeyKind prog w Key where
 is:=lp
 hash:=keyH w
 inj:=fun v a b f d=>by
  rcases a7 f with ⟨i,t,rfl,rfl⟩ | ⟨x,t,rfl,rfl⟩
  ·rcases a7 d with ⟨j,u,rfl,e⟩ | ⟨y,u,rfl,e⟩
   ·injection e with e1 _;rw [e1]
   ·exact nomatch e
  ·rcases a7 d with ⟨j,u,rfl,e⟩ | ⟨y,u,rfl,e⟩
   ·exact nomatch e
   ·injection e with e1 _;rw [e1]
 byValue:=fun k v h=>by
  rcases a7 h with ⟨i,t,rfl,rfl⟩ | ⟨x,t,rfl,rfl⟩ <;> rfl
 pyHash:=fun c h=>by
  rcases a7 c with ⟨i,t,rfl,rfl⟩ | ⟨x,t,rfl,rfl⟩
  ·exact wpAny_pyHash_int h
  ·exact wpAny_pyHash_str h
 eqBool:=fun hu c h=>by
  rcases a7 hu with ⟨i,t,rfl,rfl⟩ | ⟨x,t,rfl,rfl⟩
  ·rcases a7 c with ⟨j,u,rfl,rfl⟩ | ⟨y,u,rfl,rfl⟩
   ·rw [Bv] at h;exact wpAny_eqBool_int h
   ·rw [Bu] at h;exact SeqAt.EqAt.int_str i t y u _ _ _ _ h
  ·rcases a7 c with ⟨j,u,rfl,rfl⟩ | ⟨y,u,rfl,rfl⟩
   ·rw [Bt] at h;exact SeqAt.EqAt.str_int x t j u _ _ _ _ h
   ·rw [Bs] at h;exact wpAny_eqBool_str h
 «strs»:=fun k x t v h=>by
  rcases a7 h with ⟨i,u,rfl,e⟩ | ⟨y,u,rfl,e⟩
  ·exact nomatch e
  ·injection e with e1 _
   subst e1
   cases v <;> rfl
theorem nK (prog:Program) (w:World) (i:Int) (t:Tok):(bA prog w).is (.inl i) (.int i t)=true:=sV i t
theorem nJ (prog:Program) (w:World) (x:Str) (t:Tok):(bA prog w).is (.inr x) (.str x t)=true:=sU x t
end L2
namespace L2
open PySem PySem.Spec PyProof.Rows
inductive V where
 | non | bl (b:Bool) | int (i:Int) | str (x:Str) | byt (b:Array UInt8) | flt (b:UInt64) | ref (a:Addr) | ty (n:String)
 deriving DecidableEq
def RelV:V->Value->Prop
 | .non,u=>u=Value.none
 | .bl b,u=>u=Value.bool b
 | .int i,u=>∃ t,u=Value.int i t
 | .str x,u=>∃ t,u=Value.str x t
 | .byt b,u=>∃ t,u=Value.bytes b t
 | .flt b,u=>∃ t,u=Value.float b t
 | .ref a,u=>u=Value.ref a
 | .ty n,u=>u=Value.type n
abbrev Vals:List V->List Value->Prop:=Paired RelV
theorem Vals.length (r:Vals xs us):xs.length=us.length:=Paired.length r
theorem Vals.get:∀ {xs:List V} {us:List Value} {i:Nat} {x:V},Vals xs us->xs[i]?=some x->∃ u,us[i]?=some u/\RelV x u
 | _,_,_,_,.nil,e=>by simp at e
 | _,_,0,_,.cons r _,e=>by simp at e;subst e;exact ⟨_,rfl,r⟩
 | _,_,i+1,x,.cons _ t,e=>by
  obtain ⟨u,h1,h2⟩:=Vals.get (i:=i) (x:=x) t (by simpa using e)
  exact ⟨u,by simpa using h1,h2⟩
theorem Vals.set (r:RelV x u):∀ {xs:List V} {us:List Value} (i:Nat),Vals xs us->Vals (xs.set i x) (us.set i u)
 | _,_,_,.nil=>.nil
 | _,_,0,.cons _ t=>.cons r t
 | _,_,i+1,.cons q t=>.cons q (Vals.set r i t)
theorem Vals.append:∀ {xs ys:List V} {us ws:List Value},Vals xs us->Vals ys ws->Vals (xs ++ ys) (us ++ ws)
 | _,_,_,_,.nil,s=>s
 | _,_,_,_,.cons r t,s=>.cons r (Vals.append t s)
theorem Vals.take:∀ {xs:List V} {us:List Value} (n:Nat),Vals xs us->Vals (xs.take n) (us.take n)
 | _,_,0,_=>.nil
 | _,_,_+1,.nil=>.nil
 | _,_,n+1,.cons r t=>.cons r (Vals.take n t)
theorem Vals.drop:∀ {xs:List V} {us:List Value} (n:Nat),Vals xs us->Vals (xs.drop n) (us.drop n)
 | _,_,0,r=>r
 | _,_,_+1,.nil=>.nil
 | _,_,n+1,.cons _ t=>Vals.drop n t
def RelO:Option V->Option Value->Prop
 | some v,some u=>RelV v u
 | none,none=>True
 | _,_=>False
def KV {κ:Type}:List (κ × V)->List (κ × Value)->Prop:=Paired fun (p:κ × V) (q:κ × Value)=>p.1=q.1/\RelV p.2 q.2
def kV:Key->V
 | .inl i=>.int i
 | .inr x=>.str x
inductive HO where
 | lst (xs:List V)
 | tup (xs:List V)
 | dK (kvs:List (Key × V)) | dT (kvs:List (List Key × V))
 | set (S:Int->Bool) (n:Nat)
 | ins (C dx:Addr) (fs:List (Str × V))
 | own (x:Addr)
 | xd (fs:List (Str × V))
 | met (f x:Addr)
 | rng (lo hi:Int)
 | frz (o:Obj) (u:HO)
 | tbl (ps:Array Value)
 | ext (φ:Heap->Prop)
abbrev Hp:=Addr->Option HO
def upd (H:Hp) (a:Addr) (o:HO):Hp:=fun b=>if b=a then some o else H b
theorem aC:upd H a o a=some o:=by unfold upd;rw [if_pos rfl]
theorem au (h:b ≠ a):upd H a o b=H b:=by unfold upd;rw [if_neg h]
theorem zg {H:Hp} (h:H a=some o) (h':H b=some u) (d:o ≠ u):a ≠ b:=by
 intro e;subst e;rw [h] at h';exact d (CS h')
theorem aP {H:Hp} (h:H a=some o) (h':H b=none):a ≠ b:=by
 intro e;subst e;rw [h] at h';cases h'
def DictOfE {prog:Program} {w:World} {κ:Type} [DecidableEq κ] (knd:KeyKind prog w κ) (h:Heap) (a:Addr) (kvs:List (κ × Value)):Prop :=
 ∃ o es b,h.get? a=some o/\o.ExactDict/\o.data=.dict es b/\KeysOf knd es/\Pairs knd es.toList kvs/\(kvs.map (·.1)).Nodup/\b=es.size
theorem DictOfE.of [DecidableEq κ] {knd:KeyKind prog w κ} {kvs:List (κ × Value)} (x:DictOfE knd h a kvs):h.DictOf knd a kvs:=let ⟨o,es,c,h1,h2,h3,d,b,e,_⟩:=x;⟨o,es,c,h1,h2,h3,d,b,e⟩
def IsTupD (h:Heap) (a:Addr) (items:Array Value):Prop:=∃ o,h.get? a=some o/\o.cls=.type "tuple"/\∃ n,(o.data,o.dict)=(Data.seq items n,none)
theorem IsTupD.tup {h:Heap} {a:Addr} {items:Array Value} (x:IsTupD h a items):IsTup h a items:=let ⟨o,e,c,n,d⟩:=x;⟨o,e,c,n,congrArg Prod.fst d⟩
theorem IsTupD.lt (x:IsTupD h a items):a < h.objs.size:=x.tup.lt
theorem IsTupD.new (h:Heap) (items:Array Value):IsTupD (h.push { cls:=.type "tuple",data:=.seq items }) h.objs.size items:=⟨_,Ch h rfl,rfl,_,rfl⟩
section
variable (P:Program) (w:World)
def ObjOk (H:Hp) (h:Heap) (a:Addr):HO->Prop
 | .lst xs=>xs.length<=sizeLine/\∃ (its:List Value) (n:Nat),Vals xs its/\h.get? a=some { cls:=.type "list",data:=.seq its.toArray n }
 | .tup xs=>xs.length<=sizeLine/\∃ its:List Value,Vals xs its/\IsTupD h a its.toArray
 | .dK kvs=>kvs.length<=sizeLine/\(a == sysModules)=false/\∃ c,KV kvs c/\DictOfE (bA P w) h a c
 | .dT kvs=>kvs.length<=sizeLine/\(a == sysModules)=false/\∃ xs:List (List Key × Addr × Value),
   Paired (fun (p:List Key × V) (q:List Key × Addr × Value)=>p.1=q.1/\H q.2.1=some (.tup (p.1.map kV))/\RelV p.2 q.2.2) kvs xs /\
   ∃ o es d,h.get? a=some o/\o.ExactDict/\o.data=.dict es d/\es.toList=xs.map (entryOfKey (tupleKind (bA P w)))/\(xs.map (·.1)).Nodup/\d=es.size
 | .set S n=>h.SetOf (intKind P w) a S n
 | .ins C dx fs=>H dx=some (.own a)/\fs.length<=1000/\dx ≠ a/\h.get? a=some (PySem.W.instObj C dx) /\
   ∃ b,h.Ns1 dx b/\(∀ f,RelO (fs.lookup f) (b f))/\PySem.Within b (fs.map (·.1))
 | .own _=>∃ o,h.get? a=some o
 | .xd fs=>∃ b,h.Ns1 a b/\∀ f,RelO (fs.lookup f) (b f)
 | .rng lo hi=>∃ t u v,h.get? a=some { cls:=.type "range",data:=.fields #[.int lo t,.int hi u,.int 1 v] }
 | .frz o u=>h.get? a=some o/\ObjOk H h a u
 | .tbl ps=>h.get? a=some { cls:=.none,data:=.fields ps }
 | .met f x=>h.get? a=some (PySem.W.methodObj (.ref f) (.ref x))
 | .ext φ=>φ h/\(∃ o,h.get? a=some o)/\∀ h1 h2:Heap,φ h1->(∀ o,h1.get? a=some o->h2.get? a=some o)->φ h2
def HOk (H:Hp) (h:Heap):Prop:=∀ a o,H a=some o->ObjOk P w H h a o
end
section
variable {P:Program} {w:World} {H H':Hp} {h h':Heap} {a:Addr} {o:HO}
theorem ObjOk.lt (x:ObjOk P w H h a o):a < h.objs.size:=by
 cases o with
 | lst xs=>obtain ⟨_,_,_,_,e⟩:=x;exact Cf e
 | tup xs=>obtain ⟨_,_,_,p⟩:=x;exact p.lt
 | dK kvs=>obtain ⟨_,_,_,_,o,_,_,e,_⟩:=x;exact Cf e
 | dT kvs=>obtain ⟨_,_,_,_,o,_,_,e,_⟩:=x;exact Cf e
 | set S n=>obtain ⟨o,_,_,_,e,_⟩:=x;exact Cf e
 | ins C dx fs=>obtain ⟨_,_,_,e,_⟩:=x;exact Cf e
 | own y=>obtain ⟨_,e⟩:=x;exact Cf e
 | xd fs=>obtain ⟨_,⟨_,_,_,e,_⟩,_⟩:=x;exact Cf e
 | rng lo hi=>obtain ⟨_,_,_,e⟩:=x;exact Cf e
 | frz ob u=>obtain ⟨e,_⟩:=x;exact Cf e
 | tbl ps=>exact Cf (show h.get? a=some _ from x)
 | met f y=>exact Cf (show h.get? a=some _ from x)
 | ext φ=>obtain ⟨_,⟨_,e⟩,_⟩:=x;exact Cf e
theorem Paired.mapP:∀ {d:List α} {c:List β},Paired F d c->(∀ a b,F a b->G a b)->Paired G d c
 | _,_,.nil,_=>.nil
 | _,_,.cons r t,f=>.cons (f _ _ r) (Paired.mapP t f)
theorem ObjOk.stay (x:ObjOk P w H h a o) (k:∀ b u,(b=a\/H b=some (.own a))->h.get? b=some u->h'.get? b=some u)
  (s:∀ b,H b=some (.own a)->H' b=some (.own a)) (l:∀ b xs,H b=some (.tup xs)->H' b=some (.tup xs)):ObjOk P w H' h' a o:=by
 induction o with
 | lst xs=>obtain ⟨z,its,n,r,e⟩:=x;exact ⟨z,its,n,r,k _ _ (.inl rfl) e⟩
 | tup xs=>obtain ⟨z,its,r,ob,e,c⟩:=x;exact ⟨z,its,r,ob,k _ _ (.inl rfl) e,c⟩
 | dK kvs=>obtain ⟨z,y,m,r,ob,es,g,e,c⟩:=x;exact ⟨z,y,m,r,ob,es,g,k _ _ (.inl rfl) e,c⟩
 | dT kvs =>
  obtain ⟨z,y,xs,r,ob,es,g,e,c⟩:=x
  exact ⟨z,y,xs,Paired.mapP r fun p q z=>⟨z.1,l _ _ z.2.1,z.2.2⟩,ob,es,g,k _ _ (.inl rfl) e,c⟩
 | set S n=>obtain ⟨ob,es,g,t,e,c⟩:=x;exact ⟨ob,es,g,t,k _ _ (.inl rfl) e,c⟩
 | ins C dx fs =>
  obtain ⟨d,z,ne,e,j,⟨i,es,g,A,c⟩,r⟩:=x
  exact ⟨s _ d,z,ne,k _ _ (.inl rfl) e,j,⟨i,es,g,k _ _ (.inr d) A,c⟩,r⟩
 | own y=>obtain ⟨ob,e⟩:=x;exact ⟨ob,k _ _ (.inl rfl) e⟩
 | xd fs=>obtain ⟨j,⟨i,es,g,e,c⟩,r⟩:=x;exact ⟨j,⟨i,es,g,k _ _ (.inl rfl) e,c⟩,r⟩
 | rng lo hi=>obtain ⟨t,u,v,e⟩:=x;exact ⟨t,u,v,k _ _ (.inl rfl) e⟩
 | frz ob u ih=>obtain ⟨e,q⟩:=x;exact ⟨k _ _ (.inl rfl) e,ih q⟩
 | tbl ps =>
  have e:h.get? a=some { cls:=.none,data:=.fields ps }:=x
  show h'.get? a=some { cls:=.none,data:=.fields ps }
  exact k a _ (.inl rfl) e
 | met f y =>
  have e:h.get? a=some (PySem.W.methodObj (.ref f) (.ref y)):=x
  show h'.get? a=some (PySem.W.methodObj (.ref f) (.ref y))
  exact k a _ (.inl rfl) e
 | ext φ=>obtain ⟨p,⟨o,e⟩,st⟩:=x;exact ⟨st _ _ p fun o q=>k _ _ (.inl rfl) q,⟨o,k _ _ (.inl rfl) e⟩,st⟩
theorem HOk.lt (x:HOk P w H h) (e:H a=some o):a < h.objs.size:=(x a o e).lt
theorem HOk.fresh (x:HOk P w H h) (e:h.objs.size<=a):H a=none:=by
 cases q:H a with
 | none=>rfl
 | some u=>exact absurd (Cv (x.lt q) e) (Nat.lt_irrefl _)
theorem HOk.kept (x:HOk P w H h) (k:∀ b u,h.get? b=some u->h'.get? b=some u):HOk P w H h':=fun a o e =>
 (x a o e).stay (fun b u _ q=>k b u q) (fun _ q=>q) fun _ _ q=>q
theorem HOk.laid (x:HOk P w H h) (k:∀ b u,h.get? b=some u->h'.get? b=some u) (g:h.objs.size<=a) (new:ObjOk P w (upd H a o) h' a o):HOk P w (upd H a o) h':=fun b u e=>by
 have f:=x.fresh g
 by_cases d:b=a
 ·subst d;rw [aC] at e;cases e;exact new
 ·rw [au d] at e
  exact (x b u e).stay (fun c v _ q=>k c v q) (fun c q=>by rw [au (aP q f)];exact q) fun c xs q=>by rw [au (aP q f)];exact q
end
def Rd (H:Hp) (a:Addr) (u:HO):Prop:=H a=some u\/∃ o,H a=some (.frz o u)
theorem Rd.ok (r:Rd H a u) (x:HOk P w H h):ObjOk P w H h a u:=by
 rcases r with r | ⟨o,r⟩
 ·exact x a u r
 ·obtain ⟨_,q⟩:=x a _ r
  exact q
def Mut:Option HO->Prop
 | some (.lst _)=>True
 | some (.dK _)=>True
 | some (.dT _)=>True
 | some (.set _ _)=>True
 | some (.ins _ _ _)=>True
 | some (.ext _)=>True
 | _=>False
section
variable {P:Program} {w:World} {H:Hp} {h h':Heap} {x e:Addr} {o':HO}
theorem HOk.write (ok:HOk P w H h) (i:Mut (H x)) (he:e=x\/H e=some (.own x)) (k:∀ b u,b ≠ e->h.get? b=some u->h'.get? b=some u) (l:∃ u,h'.get? e=some u)
  (new:ObjOk P w (upd H x o') h' x o'):HOk P w (upd H x o') h':=fun b u q=>by
 have d:∀ c y,H c=some (.own y)->c ≠ x:=fun c y r z=>by subst z;rw [r] at i;exact i
 have f:∀ c xs,H c=some (.tup xs)->c ≠ x:=fun c xs r z=>by subst z;rw [r] at i;exact i
 by_cases j:b=x
 ·subst j;rw [aC] at q;cases q;exact new
 ·rw [au j] at q
  by_cases a:b=e
  ·have m:H b=some (.own x):=by
    rcases he with z | z
    ·exact absurd (a.trans z) j
    ·rw [a];exact z
   rw [q] at m;cases m
   obtain ⟨v,n⟩:=l
   exact ⟨v,by rw [a];exact n⟩
  ·refine (ok b u q).stay (fun c v g r=>k c v ?_ r) (fun c r=>by rw [au (d c b r)];exact r) fun c xs r=>by rw [au (f c xs r)];exact r
   rcases g with rfl | g
   ·exact a
   ·rintro rfl
    rcases he with z | z
    ·exact d c b g z
    ·rw [g] at z;cases z;exact j rfl
end
structure Un (fs ex:List Addr) (H H':Hp) (h h':Heap):Prop where
 keep:∀ b o,h.get? b=some o->H b=none->b ∉ fs->b ∉ ex->h'.get? b=some o
 slot:∀ b o,h.get? b=some o->H b=none->b ∈ fs->b ∉ ex->∃ sl,h'.get? b=some { o with slots:=sl }
 free:∀ b o,h.get? b=some o->H b=none->b ∉ ex->H' b=none
 there:∀ b o,h.get? b=some o->b ∉ ex->∃ o',h'.get? b=some o'
 tups:∀ b xs,H b=some (.tup xs)->H' b=some (.tup xs)
 frzs:∀ b o u,H b=some (.frz o u)->H' b=some (.frz o u)
 tbls:∀ b ps,H b=some (.tbl ps)->∃ more,H' b=some (.tbl (ps ++ more))
section
variable {fs fs' ex ex':List Addr} {H H1 H2:Hp} {h h1 h2 h':Heap} {a x e:Addr} {o:HO}
theorem Un.any (u:Un fs ex H H1 h h1) (q:h.get? b=some ob) (n:H b=none) (a:b ∉ ex):∃ sl,h1.get? b=some { ob with slots:=sl }:=by
 by_cases c:b ∈ fs
 ·exact u.slot b ob q n c a
 ·exact ⟨ob.slots,u.keep b ob q n c a⟩
theorem Un.trans (a:Un fs ex H H1 h h1) (b:Un fs ex H1 H2 h1 h2):Un fs ex H H2 h h2 where
 keep:=fun c ob q n e d=>b.keep c ob (a.keep c ob q n e d) (a.free c ob q n d) e d
 slot:=fun c ob q n e d=>by
  obtain ⟨sl,e1⟩:=a.slot c ob q n e d
  obtain ⟨g,f⟩:=b.slot c _ e1 (a.free c ob q n d) e d
  exact ⟨g,f⟩
 free:=fun c ob q n d=>by
  obtain ⟨o',e1⟩:=a.there c ob q d
  exact b.free c o' e1 (a.free c ob q n d) d
 there:=fun c ob q d=>by
  obtain ⟨o',e1⟩:=a.there c ob q d
  exact b.there c o' e1 d
 tups:=fun c xs q=>b.tups c xs (a.tups c xs q)
 frzs:=fun c ob xs q=>b.frzs c ob xs (a.frzs c ob xs q)
 tbls:=fun c ps q=>by
  obtain ⟨i,e1⟩:=a.tbls c ps q
  obtain ⟨j,f⟩:=b.tbls c _ e1
  exact ⟨i ++ j,by rw [f,Array.append_assoc]⟩
theorem Un.kept (k:∀ b u,h.get? b=some u->h'.get? b=some u):Un fs ex H H h h' :=
 ⟨fun b ob q _ _ _=>k b ob q,fun b ob q _ _ _=>⟨ob.slots,k b ob q⟩,fun _ _ _ n _=>n,fun b ob q _=>⟨ob,k b ob q⟩,fun _ _ q=>q,fun _ _ _ q=>q,fun _ ps q=>⟨#[],by rw [q];simp⟩⟩
theorem Un.refl:Un fs ex H H h h:=Un.kept fun _ _ q=>q
theorem Un.laid (k:∀ b u,h.get? b=some u->h'.get? b=some u) (d:h.objs.size<=a) (c:H a=none):Un fs ex H (upd H a o) h h' where
 keep:=fun b u q _ _ _=>k b u q
 slot:=fun b u q _ _ _=>⟨u.slots,k b u q⟩
 free:=fun b u q n _=>by rw [au (Cq (Cv (Cf q) d))];exact n
 there:=fun b u q _=>⟨u,k b u q⟩
 tups:=fun b xs q=>by rw [au (aP q c)];exact q
 frzs:=fun b u xs q=>by rw [au (aP q c)];exact q
 tbls:=fun b ps q=>⟨#[],by rw [au (aP q c),q];simp⟩
theorem Un.write (c:Mut (H x)) (he:e=x\/H e=some (.own x)) (k:∀ b u,b ≠ e->h.get? b=some u->h'.get? b=some u) (d:∃ u,h'.get? e=some u):Un fs ex H (upd H x o) h h':=by
 have f:∀ b,H b=none->b ≠ x:=fun b n z=>by subst z;rw [n] at c;exact c
 have g:∀ b,H b=none->b ≠ e:=fun b n z=>by
  subst z
  rcases he with r | r
  ·exact f b n r
  ·rw [n] at r;cases r
 have hm:∀ b u,H b=some u->¬ Mut (some u)->b ≠ x:=fun b u q nm z=>by subst z;rw [q] at c;exact nm c
 refine ⟨fun b u q n _ _=>k b u (g b n) q,fun b u q n _ _=>⟨u.slots,k b u (g b n) q⟩,fun b u q n _=>by rw [au (f b n)];exact n,fun b u q _=>?_,
  fun b xs q=>by rw [au (hm b _ q fun z=>z)];exact q,fun b u xs q=>by rw [au (hm b _ q fun z=>z)];exact q,fun b ps q=>⟨#[],by rw [au (hm b _ q fun z=>z),q];simp⟩⟩
 by_cases a:b=e
 ·subst a;exact d
 ·exact ⟨u,k b u a q⟩
end
def trk (h:Heap) (H:Hp):List Addr:=(List.range h.objs.size).filter fun a=>(H a).isSome
def mq (h:Heap) (H:Hp):Heap:=PySem.W.hideAll h (trk h H)
theorem sX (h:Heap) (H:Hp):(mq h H).objs.size=h.objs.size:=PySem.W.hideAll_size _ _
theorem vX (e:h.get? b=some o) (n:H b=none):(mq h H).get? b=some o :=
 PySem.W.hideAll_get _ e fun hm=>by
  have q:(H b).isSome=true:=(CI.mp hm).2
  rw [n] at q;simp at q
theorem yh (e:(mq h H).get? b=some o):h.get? b=some o/\H b=none:=by
 have a:h.get? b=some o:=PySem.W.of_hideAll (trk h H) e
 refine ⟨a,?_⟩
 cases q:H b with
 | none=>rfl
 | some x =>
  have hm:b ∈ trk h H:=CI.mpr ⟨List.mem_range.mpr (Cf a),by simp [q]⟩
  have z:(mq h H).get? b=none:=PySem.W.hideAll_none (trk h H) hm
  rw [z] at e;cases e
def yR (g h:Heap) (L:Addr):List (Addr × Obj):=(List.range h.objs.size).filterMap fun a=>if a=L\/(g.get? a).isSome=true then none else (h.get? a).map fun o=>(a,o)
def fA (g h:Heap) (L d:Addr):List (Addr × Obj):=(yR g h L).filter fun p=>decide (p.1 ≠ d)
end L2
namespace L2
open PySem PySem.Spec PyProof.Rows
structure Mod (K:FG) (mg:Str->Option Value) (base:Heap):Prop where
 kin:K.In base
 glob:base.Ns mainGlobals mg
 blt:∃ mb,base.Ns builtinsNs mb/\∀ x:Str,x ≠ "__name__"->mb x=bootBuiltins x
 nolimit:base.NoLimit
structure Cx where
 prog:Program
 w:World
 K:FG
 mg:Str->Option Value
 base:Heap
 A:Around
 N:List Str
 s₀:Shared
 H₀:Hp
 env:Env
 outer:List Env
 stack:List Env
 ex:List Addr
 fn:Str->Bool
 calm:Bool
 pn:List (Addr × Obj)
 xe:Value->Shared->Prop
def frs (l:List Env):List Addr:=l.filterMap (·.frame)
abbrev Cx.fs (X:Cx):List Addr:=frs X.outer
def Vis (sc:Scope) (x:Str):Prop:=sc.names.lookup x=some .local\/sc.names.lookup x=some .cell\/sc.names.lookup x=some .free
def Loc (sc:Scope) (x:Str):Prop:=sc.names.lookup x=some .local\/sc.names.lookup x=some .cell
def Look (env:Env) (h:Heap) (m:Str->Option Value) (x:Str) (u:Value):Prop :=
 (env.kindOf x=some .local/\m x=some u)\/((env.kindOf x=some .cell\/env.kindOf x=some .free)/\∃ c,env.cells.lookup x=some c/\h.IsCell c (some u))
structure Cx.Ok (X:Cx):Prop where
 mod:Mod X.K X.mg X.base
 kind:X.env.scope.kind=.function
 glob:X.env.globals=mainGlobals
 blt:X.env.builtins=builtinsNs
 above:X.s₀.heap.objs.size<=X.env.locals
 inj:∀ x y c,X.env.cells.lookup x=some c->X.env.cells.lookup y=some c->x=y
 has:∀ x,(X.env.kindOf x=some .cell\/X.env.kindOf x=some .free)->∃ c,X.env.cells.lookup x=some c
 cab:∀ x c,X.fn x=true->X.env.cells.lookup x=some c->X.s₀.heap.objs.size<=c
 hd:X.calm=true->X.A.handled=none
 frames:X.A.frames=some X.stack
 stk:X.stack=X.outer\/(X.stack=X.env :: X.outer/\X.env.frame=some X.env.locals)
 exf:∀ b ∈ X.ex,b ≠ X.env.locals/\∀ x c,X.env.cells.lookup x=some c->c ≠ b
 bs:∀ b o,X.base.get? b=some o->X.s₀.heap.get? b=some o/\X.H₀ b=none
 bsz:X.base.objs.size<=X.s₀.heap.objs.size
 noex:∀ b o,X.base.get? b=some o->b ∉ X.ex
 exfs:∀ b ∈ X.ex,b ∉ X.fs
 funs:X.s₀.heap.FunFrames X.base X.outer
 frf:∀ b ∈ X.fs,X.H₀ b=none
structure Inv (X:Cx) (pins:List (Addr × Obj)) (σ:List (Option V)) (H:Hp) (s:Shared):Prop where
 ok:X.Ok
 os:s.os=X.s₀.os
 bare:AllBare s.gens
 base:Un X.fs X.ex X.H₀ H X.s₀.heap s.heap
 loc:∃ m,s.heap.Ns X.env.locals m/\∀ (i:Nat) (x:Str) (v:V),X.N[i]?=some x->σ[i]?=some (some v)->Vis X.env.scope x->∃ u,RelV v u/\Look X.env s.heap m x u
 cell:∀ x c,X.env.cells.lookup x=some c->∃ v,s.heap.IsCell c v
 free:H X.env.locals=none
 freeC:∀ x c,X.env.cells.lookup x=some c->H c=none
 pin:∀ p ∈ X.pn ++ pins,s.heap.get? p.1=some p.2/\H p.1=none/\p.1 ≠ X.env.locals/\p.1 ∉ X.fs/\∀ v,p.2.data ≠ .cell v
 hok:HOk X.prog X.w H s.heap
 len:σ.length=X.N.length
section
variable {X:Cx} {pins:List (Addr × Obj)} {σ:List (Option V)} {H H':Hp} {s:Shared} {h':Heap}
theorem Cx.Ok.nofr (ok:X.Ok) (e:X.base.get? b=some o):b ∉ X.fs:=fun a=>by
 have:=(ok.funs.mem a).1
 rw [e] at this;cases this
theorem Inv.bs (I:Inv X pins σ H s):∀ b o,X.base.get? b=some o->s.heap.get? b=some o/\H b=none:=fun b o e =>
 ⟨I.base.keep b o (I.ok.bs b o e).1 (I.ok.bs b o e).2 (I.ok.nofr e) (I.ok.noex b o e),I.base.free b o (I.ok.bs b o e).1 (I.ok.bs b o e).2 (I.ok.noex b o e)⟩
theorem Inv.bk (I:Inv X pins σ H s):∀ b o,X.base.get? b=some o->s.heap.get? b=some o:=fun b o e=>(I.bs b o e).1
theorem Inv.mod (I:Inv X pins σ H s):Mod X.K X.mg X.base:=I.ok.mod
theorem Inv.kIn (I:Inv X pins σ H s):X.K.In s.heap:=I.ok.mod.kin.keeps I.bk
theorem Inv.lt (I:Inv X pins σ H s):X.env.locals < s.heap.objs.size:=let ⟨_,a,_⟩:=I.loc;a.lt
theorem Inv.sz (I:Inv X pins σ H s):X.s₀.heap.objs.size<=s.heap.objs.size:=CN I.ok.above (Nat.le_of_lt I.lt)
theorem Inv.nofs (I:Inv X pins σ H s) (h:s.heap.objs.size<=a):a ∉ X.fs:=fun c=>by
 obtain ⟨_,o,b,_⟩:=I.ok.funs.mem c
 exact absurd (Cv (Cf b) (CN I.sz h)) (Nat.lt_irrefl _)
theorem Inv.cne (I:Inv X pins σ H s):∀ x c,X.env.cells.lookup x=some c->c ≠ X.env.locals:=fun x c e z=>by
 obtain ⟨v,o,d,hd⟩:=I.cell x c e
 obtain ⟨m,⟨o',es,f,a,b,_⟩,_⟩:=I.loc
 rw [z,a] at d;cases d;rw [b] at hd;cases hd
theorem Inv.funs (I:Inv X pins σ H s):s.heap.FunFrames X.base X.outer:=by
 have all:∀ (l:List Env),(∀ b ∈ frs l,b ∈ X.fs)->X.s₀.heap.FunFrames X.base l->s.heap.FunFrames X.base l:=by
  intro l
  induction l with
  | nil=>intro _ _;trivial
  | cons env r ih =>
   intro d j
   obtain ⟨h,⟨L,o,hf,g,f,hd⟩,i⟩:=j
   have a:L ∈ X.fs:=d L (by unfold frs;rw [List.filterMap_cons,hf];exact B6)
   obtain ⟨sl,e⟩:=I.base.slot L o f (I.ok.frf L a) a fun z=>I.ok.exfs L z a
   exact ⟨h,⟨L,_,hf,g,e,hd⟩,ih (fun b c=>d b (by unfold frs;rw [List.filterMap_cons,hf];exact B7 _ c)) i⟩
 exact all X.outer (fun _ c=>c) I.ok.funs
theorem Inv.stack (I:Inv X pins σ H s):s.heap.FunFrames X.base X.stack:=by
 rcases I.ok.stk with e | ⟨e,hf⟩
 ·rw [e];exact I.funs
 ·rw [e]
  obtain ⟨m,a,_⟩:=I.loc
  refine .cons (by rw [I.ok.kind];decide) hf a ?_ I.funs
  exact Heap.get?_none_of_le (CN I.ok.bsz I.ok.above)
theorem Inv.stkSub (I:Inv X pins σ H s):∀ b ∈ frs X.stack,b ∈ X.env.locals :: X.fs:=fun b a=>by
 rcases I.ok.stk with e | ⟨e,hf⟩
 ·rw [e] at a;exact B7 _ a
 ·rw [e] at a
  unfold frs at a
  rw [List.filterMap_cons,hf] at a
  exact a
theorem Inv.stkFree (I:Inv X pins σ H s):∀ b ∈ frs X.stack,H b=none:=fun b a=>by
 rcases Cd.mp (I.stkSub b a) with e | a
 ·rw [e];exact I.free
 ·obtain ⟨_,o,c,_⟩:=I.ok.funs.mem a
  exact I.base.free b o c (I.ok.frf b a) fun z=>I.ok.exfs b z a
theorem Inv.step {t':Nat} {ch:List Addr} (I:Inv X pins σ H s) (f:∀ b ∈ ch,(b ∈ X.ex\/X.s₀.heap.objs.size<=b)/\b ≠ X.env.locals/\(∀ x c,X.env.cells.lookup x=some c->c ≠ b)/\∀ p ∈ X.pn ++ pins,p.1 ≠ b) (keep:∀ b o,b ≠ X.env.locals->b ∉ X.fs->b ∉ ch->s.heap.get? b=some o->H b=none->h'.get? b=some o) (slot:∀ b o,b ≠ X.env.locals->b ∈ X.fs->b ∉ ch->s.heap.get? b=some o->H b=none->∃ sl,h'.get? b=some { o with slots:=sl }) (free:∀ b o,b ∉ ch->s.heap.get? b=some o->H b=none->H' b=none) (there:∀ b o,b ∉ ch->s.heap.get? b=some o->∃ o',h'.get? b=some o') (tups:∀ b xs,H b=some (.tup xs)->H' b=some (.tup xs)) (frzs:∀ b o u,H b=some (.frz o u)->H' b=some (.frz o u)) (tbls:∀ b ps,H b=some (.tbl ps)->∃ more,H' b=some (.tbl (ps ++ more))) (ns:∀ m,s.heap.Ns X.env.locals m->h'.Ns X.env.locals m) (hok:HOk X.prog X.w H' h') (G:AllBare g') :
  Inv X pins σ H' { s with heap:=h',gens:=g',drawn:=d',toks:=t' }:=by
 have y:∀ b o,X.s₀.heap.get? b=some o->b ≠ X.env.locals:=fun b o e=>Cq (Cv (Cf e) I.ok.above)
 have h:∀ b o,X.s₀.heap.get? b=some o->b ∉ X.ex->b ∉ ch:=fun b o e a j=>by
  rcases (f b j).1 with z | z
  ·exact a z
  ·exact absurd (Cv (Cf e) z) (Nat.lt_irrefl _)
 have cellK:∀ x c,X.env.cells.lookup x=some c->∀ v,s.heap.IsCell c v->h'.IsCell c v:=fun x c e v ⟨o,t,hd⟩=>by
  have g:c ∉ ch:=fun z=>(f c z).2.2.1 x c e rfl
  by_cases C:c ∈ X.fs
  ·obtain ⟨sl,q⟩:=slot c o (I.cne x c e) C g t (I.freeC x c e)
   exact ⟨_,q,hd⟩
  ·exact ⟨o,keep c o (I.cne x c e) C g t (I.freeC x c e),hd⟩
 refine ⟨I.ok,I.os,G,⟨fun b o e n j a=>?_,fun b o e n j a=>?_,fun b o e n a=>?_,fun b o e a=>?_,fun b xs e=>tups b xs (I.base.tups b xs e),fun b o xs e=>frzs b o xs (I.base.frzs b o xs e),fun b ps e=>?_⟩,?_,fun x c e=>?_,?_,fun x c e=>?_,fun p D=>?_,hok,I.len⟩
 ·exact keep b o (y b o e) j (h b o e a) (I.base.keep b o e n j a) (I.base.free b o e n a)
 ·obtain ⟨sl,e1⟩:=I.base.slot b o e n j a
  obtain ⟨B,A⟩:=slot b _ (y b o e) j (h b o e a) e1 (I.base.free b o e n a)
  exact ⟨B,A⟩
 ·obtain ⟨o',e1⟩:=I.base.there b o e a
  exact free b o' (h b o e a) e1 (I.base.free b o e n a)
 ·obtain ⟨o',e1⟩:=I.base.there b o e a
  exact there b o' (h b o e a) e1
 ·obtain ⟨K,e1⟩:=I.base.tbls b ps e
  obtain ⟨M,A⟩:=tbls b _ e1
  exact ⟨K ++ M,by rw [A,Array.append_assoc]⟩
 ·obtain ⟨m,J,F⟩:=I.loc
  refine ⟨m,ns m J,fun i x v e1 A L=>?_⟩
  obtain ⟨u,r,l⟩:=F i x v e1 A L
  refine ⟨u,r,?_⟩
  rcases l with l | ⟨k,c,e,z⟩
  ·exact .inl l
  ·exact .inr ⟨k,c,e,cellK x c e _ z⟩
 ·obtain ⟨v,z⟩:=I.cell x c e
  exact ⟨v,cellK x c e v z⟩
 ·obtain ⟨m,⟨o,_,_,t,_⟩,_⟩:=I.loc
  exact free _ o (fun z=>(f _ z).2.1 rfl) t I.free
 ·obtain ⟨v,o,t,hd⟩:=I.cell x c e
  exact free c o (fun z=>(f c z).2.2.1 x c e rfl) t (I.freeC x c e)
 ·obtain ⟨e,n,ne,E,d⟩:=I.pin p D
  have g:p.1 ∉ ch:=fun z=>(f p.1 z).2.2.2 p D rfl
  exact ⟨keep p.1 p.2 ne E g e n,free p.1 p.2 g e n,ne,E,d⟩
theorem Inv.un {t':Nat} (I:Inv X pins σ H s) (u:Un X.fs [] H H' s.heap h') (hok:HOk X.prog X.w H' h'):Inv X pins σ H' { s with heap:=h',toks:=t' }:=by
 obtain ⟨m,⟨o,es,k,g,r⟩,_⟩:=id I.loc
 obtain ⟨sl,h⟩:=u.any g I.free (by simp)
 exact I.step (g':=s.gens) (d':=s.drawn) (ch:=[]) (fun _ z=>nomatch z) (fun b o _ f _ e n=>u.keep b o e n f (by simp)) (fun b o _ f _ e n=>u.slot b o e n f (by simp)) (fun b o _ e n=>u.free b o e n (by simp)) (fun b o _ e=>u.there b o e (by simp)) u.tups u.frzs u.tbls (fun j hm=>by
  obtain ⟨o',c,d,a,i⟩:=hm
  rw [g] at a;cases a
  exact ⟨_,c,d,h,i⟩) hok I.bare
theorem Inv.call {t':Nat} (I:Inv X pins σ H s) (u:Un (frs X.stack) ch H H' s.heap h') (hok:HOk X.prog X.w H' h') (k:AllBare g') (d:∀ b ∈ ch,(b ∈ X.ex\/X.s₀.heap.objs.size<=b)/\b ≠ X.env.locals/\(∀ x c,X.env.cells.lookup x=some c->c ≠ b)/\∀ p ∈ X.pn ++ pins,p.1 ≠ b) :
  Inv X pins σ H' { s with heap:=h',gens:=g',drawn:=d',toks:=t' }:=by
 obtain ⟨m,⟨o,es,v,j,r⟩,_⟩:=id I.loc
 obtain ⟨sl,h⟩:=u.any j I.free fun z=>(d _ z).2.1 rfl
 exact I.step (ch:=ch) d (fun b o h q a e n=>u.keep b o e n (fun z=>(Cd.mp (I.stkSub b z)).elim h q) a) (fun b o _ _ a e n=>u.any e n a) (fun b o a e n=>u.free b o e n a) (fun b o a e=>u.there b o e a) u.tups u.frzs u.tbls (fun t hm=>by
  obtain ⟨o',g,i,f,l⟩:=hm
  rw [j] at f;cases f
  exact ⟨_,g,i,h,l⟩) hok k
theorem Inv.turned {t':Nat} (I:Inv X pins σ H s) (k:∀ b o,b ≠ it->s.heap.get? b=some o->h'.get? b=some o) (h:H it=none) (f:it ≠ X.env.locals) (h1:it ∈ X.ex\/X.s₀.heap.objs.size<=it) (h2:∀ x c,X.env.cells.lookup x=some c->c ≠ it) (h3:∀ p ∈ X.pn ++ pins,p.1 ≠ it):Inv X pins σ H { s with heap:=h',toks:=t' }:=by
 have d:∀ b u,H b=some u->b ≠ it:=fun b u e z=>by rw [z,h] at e;cases e
 refine I.step (g':=s.gens) (d':=s.drawn) (ch:=[it]) (fun b j=>?_) (fun b o _ _ a e _=>k b o (fun z=>a (by simp [z])) e) (fun b o _ _ a e _=>⟨o.slots,k b o (fun z=>a (by simp [z])) e⟩) (fun _ _ _ _ n=>n)
  (fun b o a e=>⟨o,k b o (fun z=>a (by simp [z])) e⟩) (fun _ _ e=>e) (fun _ _ _ e=>e) (fun b ps e=>⟨#[],by rw [e];simp⟩) (fun m hm=>?_) (fun b u e=>?_) I.bare
 ·have e:b=it:=by simpa using j
  subst e
  exact ⟨h1,f,h2,h3⟩
 ·obtain ⟨o,es,i,g,r⟩:=hm
  exact ⟨o,es,i,k _ o (Ne.symm f) g,r⟩
 ·refine (I.hok b u e).stay (fun c v a q=>k c v ?_ q) (fun _ q=>q) fun _ _ q=>q
  rcases a with z | z
  ·rw [z];exact d b u e
  ·exact d c _ z
theorem Inv.tok (I:Inv X pins σ H s) (t:Nat):Inv X pins σ H { s with toks:=t }:=I.un (h':=s.heap) (t':=t) Un.refl I.hok
theorem Inv.kept {t':Nat} (I:Inv X pins σ H s) (k:∀ b u,s.heap.get? b=some u->h'.get? b=some u):Inv X pins σ H { s with heap:=h',toks:=t' }:=I.un (Un.kept k) (I.hok.kept k)
theorem Inv.laid {t':Nat} (I:Inv X pins σ H s) (k:∀ b u,s.heap.get? b=some u->h'.get? b=some u) (c:s.heap.objs.size<=a) (new:ObjOk X.prog X.w (upd H a o) h' a o) :
  Inv X pins σ (upd H a o) { s with heap:=h',toks:=t' }:=I.un (Un.laid k c (I.hok.fresh c)) (I.hok.laid k c new)
theorem Inv.write {t':Nat} (I:Inv X pins σ H s) (c:Mut (H x)) (he:e=x\/H e=some (.own x)) (k:∀ b u,b ≠ e->s.heap.get? b=some u->h'.get? b=some u) (a:∃ u,h'.get? e=some u) (new:ObjOk X.prog X.w (upd H x o) h' x o):Inv X pins σ (upd H x o) { s with heap:=h',toks:=t' }:=I.un (Un.write c he k a) (I.hok.write c he k a new)
theorem Inv.pins_of (I:Inv X pins σ H s) (h:∀ p ∈ pins',s.heap.get? p.1=some p.2/\H p.1=none/\p.1 ≠ X.env.locals/\p.1 ∉ X.fs/\∀ v,p.2.data ≠ .cell v):Inv X pins' σ H s :=
 ⟨I.ok,I.os,I.bare,I.base,I.loc,I.cell,I.free,I.freeC,fun p a=>(Cg.mp a).elim (fun z=>I.pin p (Ca _ z)) (h p),I.hok,I.len⟩
theorem nG {N:List Str} (c:N.Nodup) {i j:Nat} (a:N[i]?=some x) (b:N[j]?=some x):i=j:=by
 obtain ⟨h1,e1⟩:=Cj.mp a
 obtain ⟨h2,d⟩:=Cj.mp b
 exact (List.getElem_inj c).mp (e1.trans d.symm)
theorem kU {i:Nat} (I:Inv X pins σ H s) (hN:X.N.Nodup) (hi:X.N[i]?=some x) (t:Loc X.env.scope x) (r:RelV v u) (h:∀ s',Inv X pins (σ.set i (some v)) H s'->(∃ a,Heap.SameBut a s.heap s'.heap/\(a=X.env.locals\/X.env.cells.lookup x=some a))->Q () s') (hf:X.fn x=true\/X.env.scope.names.lookup x=some .local:=by first | exact .inl rfl | exact .inr rfl | assumption):wpAny M A (storeName X.env x u) Q E s:=by
 obtain ⟨m,hn,hl⟩:=id I.loc
 have K:(X.env.scope.kind == .class || (X.env.scope.kind == .module && X.env.locals != X.env.globals))=false:=by rw [I.ok.kind];rfl
 have hiσ:i < σ.length:=by rw [I.len];exact (Cj.mp hi).1
 have cne:=I.cne
 have g:∀ {a:Addr} {h':Heap},(∃ o,s.heap.get? a=some o/\H a=none)->Heap.SameBut a s.heap h'->HOk X.prog X.w H h':=fun {a h'} ha f b ob e=>by
  obtain ⟨_,_,B⟩:=ha
  refine (I.hok b ob e).stay (fun c T l q=>(f.2 c ?_).trans q) (fun _ q=>q) fun _ _ q=>q
  rintro rfl
  rcases l with rfl | l
  ·rw [B] at e;cases e
  ·rw [B] at l;cases l
 rcases t with D | D
 ·refine wpAny_storeName_local D hn (fun h' W f=>?_) K
  obtain ⟨oL,_,_,V,_⟩:=id hn
  refine h _ ⟨I.ok,I.os,I.bare,⟨fun b o e n J t=>?_,fun b o e n J t=>?_,I.base.free,fun b o e t=>?_,I.base.tups,I.base.frzs,I.base.tbls⟩,⟨_,W,fun j y Z e1 C e3=>?_⟩,fun y c e=>?_,I.free,I.freeC,fun p hp=>?_,g ⟨oL,V,I.free⟩ f,by simpa using I.len⟩ ⟨_,f,.inl rfl⟩
  ·exact (f.2 b (Cq (Cv (Cf e) I.ok.above))).trans (I.base.keep b o e n J t)
  ·obtain ⟨sl,e1⟩:=I.base.slot b o e n J t
   exact ⟨sl,(f.2 b (Cq (Cv (Cf e) I.ok.above))).trans e1⟩
  ·obtain ⟨o',e1⟩:=I.base.there b o e t
   exact ⟨o',(f.2 b (Cq (Cv (Cf e) I.ok.above))).trans e1⟩
  ·by_cases F:j=i
   ·subst F
    rw [hi] at e1;cases e1
    rw [List.getElem?_set_self hiσ] at C
    cases C
    exact ⟨u,r,.inl ⟨D,by simp⟩⟩
   ·rw [List.getElem?_set_ne (Ne.symm F)] at C
    obtain ⟨U,Y,q⟩:=hl j y Z e1 C e3
    refine ⟨U,Y,?_⟩
    rcases q with ⟨k,e⟩ | ⟨k,c,e,z⟩
    ·refine .inl ⟨k,?_⟩
     have:y ≠ x:=fun e=>F (nG hN e1 (e ▸ hi))
     simp [this,e]
    ·exact .inr ⟨k,c,e,z.sameBut f (cne y c e)⟩
  ·obtain ⟨T,z⟩:=I.cell y c e
   exact ⟨T,z.sameBut f (cne y c e)⟩
  ·obtain ⟨e,n,ne,nf,d⟩:=I.pin p hp
   exact ⟨(f.2 p.1 ne).trans e,n,ne,nf,d⟩
 ·have G:X.fn x=true:=by
   rcases hf with z | z
   ·exact z
   ·rw [z] at D;cases D
  obtain ⟨c,l⟩:=I.ok.has x (.inl D)
  obtain ⟨T,z⟩:=I.cell x c l
  refine wpAny_storeName_cell I.ok.kind D l z (fun h' P f=>?_)
  obtain ⟨oc,L,O⟩:=id z
  refine h { s with heap:=h' } ⟨I.ok,I.os,I.bare,⟨fun b o e n J t=>?_,fun b o e n J t=>?_,I.base.free,fun b o e t=>?_,I.base.tups,I.base.frzs,I.base.tbls⟩,⟨m,hn.sameBut f (Ne.symm (cne x c l)),fun j y Z e1 C e3=>?_⟩,fun y S e=>?_,I.free,I.freeC,fun p hp=>?_,g ⟨oc,L,I.freeC x c l⟩ f,by simpa using I.len⟩ ⟨c,f,.inr l⟩
  ·exact (f.2 b (Cq (Cv (Cf e) (I.ok.cab x c G l)))).trans (I.base.keep b o e n J t)
  ·obtain ⟨sl,e1⟩:=I.base.slot b o e n J t
   exact ⟨sl,(f.2 b (Cq (Cv (Cf e) (I.ok.cab x c G l)))).trans e1⟩
  ·obtain ⟨o',e1⟩:=I.base.there b o e t
   exact ⟨o',(f.2 b (Cq (Cv (Cf e) (I.ok.cab x c G l)))).trans e1⟩
  ·by_cases F:j=i
   ·subst F
    rw [hi] at e1;cases e1
    rw [List.getElem?_set_self hiσ] at C
    cases C
    exact ⟨u,r,.inr ⟨.inl D,c,l,P⟩⟩
   ·rw [List.getElem?_set_ne (Ne.symm F)] at C
    obtain ⟨U,Y,q⟩:=hl j y Z e1 C e3
    refine ⟨U,Y,?_⟩
    rcases q with q | ⟨k,S,e,z'⟩
    ·exact .inl q
    ·refine .inr ⟨k,S,e,z'.sameBut f ?_⟩
     rintro rfl
     exact F (nG hN e1 (I.ok.inj _ _ _ e l ▸ hi))
  ·by_cases R:S=c
   ·subst R;exact ⟨_,P⟩
   ·obtain ⟨w2,z2⟩:=I.cell y S e
    exact ⟨w2,z2.sameBut f R⟩
  ·obtain ⟨e,n,ne,nf,d⟩:=I.pin p hp
   refine ⟨(f.2 p.1 ?_).trans e,n,ne,nf,d⟩
   intro q
   rw [q,L] at e
   have q':oc=p.2:=CS e
   exact d T (by rw [<- q'];exact O)
theorem mW {i:Nat} (I:Inv X pins σ H s) (c:X.N.Nodup) (hi:X.N[i]?=some x) (a:Loc X.env.scope x) (r:RelV v u) (h:∀ s',Inv X pins (σ.set i (some v)) H s'->Q () s') (hf:X.fn x=true\/X.env.scope.names.lookup x=some .local:=by first | exact .inl rfl | exact .inr rfl | assumption):wpAny M A (storeName X.env x u) Q E s :=
 kU I c hi a r (fun s' b _=>h s' b) hf
theorem Inv.call' (I:Inv X pins σ H s) (f:s'.os=s.os) (u:Un (frs X.stack) ch H H' s.heap s'.heap) (hok:HOk X.prog X.w H' s'.heap) (d:AllBare s'.gens) (a:∀ b ∈ ch,(b ∈ X.ex\/X.s₀.heap.objs.size<=b)/\b ≠ X.env.locals/\(∀ x c,X.env.cells.lookup x=some c->c ≠ b)/\∀ p ∈ X.pn ++ pins,p.1 ≠ b):Inv X pins σ H' s':=by
 obtain ⟨h',g',d',t',o'⟩:=s'
 have e:o'=s.os:=f
 subst e
 exact I.call (g':=g') (t':=t') (d':=d') u hok d a
end
abbrev XK:=Value->Option Addr->Hp->Prop
abbrev St:=List (Option V)
abbrev VK:=V->Hp->Prop
abbrev TE:=St->Hp->VK->Prop
abbrev TT:=St->Hp->(Bool->Hp->Prop)->Prop
abbrev TA:=St->Hp->(List V->Hp->Prop)->Prop
structure Ends where
 nx:St->Hp->Prop
 rt:VK
 bk:St->Hp->Prop:=fun _ _=>False
 ct:St->Hp->Prop:=fun _ _=>False
abbrev TS:=Ends->St->Hp->Prop
def EP (X:Cx) (pins:List (Addr × Obj)) (σ:St) (Q:VK) (u:Value) (s':Shared):Prop:=∃ v H',Inv X pins σ H' s'/\RelV v u/\Q v H'
def TP (X:Cx) (pins:List (Addr × Obj)) (σ:St) (Q:Bool->Hp->Prop) (b:Bool) (s':Shared):Prop:=∃ H',Inv X pins σ H' s'/\Q b H'
def AP (X:Cx) (pins:List (Addr × Obj)) (σ:St) (Q:List V->Hp->Prop) (us:List Value) (s':Shared):Prop:=∃ a H',Inv X pins σ H' s'/\Vals a us/\Q a H'
def SP (X:Cx) (pins:List (Addr × Obj)) (D:Ends) (f:Flow) (s':Shared):Prop :=
 match f with
 | .next=>∃ σ' H',Inv X pins σ' H' s'/\D.nx σ' H'
 | .brk=>∃ σ' H',Inv X pins σ' H' s'/\D.bk σ' H'
 | .cont=>∃ σ' H',Inv X pins σ' H' s'/\D.ct σ' H'
 | .ret u=>∃ v σ' H',Inv X pins σ' H' s'/\RelV v u/\D.rt v H'
def PE (X:Cx) (e:Expr) (t:TE):Prop :=
 ∀ (pins:List (Addr × Obj)) (s:Shared) (σ:St) (H:Hp) (Q:VK),Inv X pins σ H s->t σ H Q->wpAny (model X.prog X.w) X.A (eval e X.env) (EP X pins σ Q) X.xe s
def PT (X:Cx) (e:Expr) (t:TT):Prop :=
 ∀ (pins:List (Addr × Obj)) (s:Shared) (σ:St) (H:Hp) (Q:Bool->Hp->Prop),Inv X pins σ H s->t σ H Q->wpAny (model X.prog X.w) X.A (isTrue e X.env (eval e X.env)) (TP X pins σ Q) X.xe s
def PW (X:Cx) (e:Expr) (t:TT):Prop :=
 ∀ (whole:Sem Value) (pins:List (Addr × Obj)) (s:Shared) (σ:St) (H:Hp) (Q:Bool->Hp->Prop),Inv X pins σ H s->t σ H Q->wpAny (model X.prog X.w) X.A (isTrue e X.env whole) (TP X pins σ Q) X.xe s
theorem PW.pt (h:PW X e t):PT X e t:=h _
def PA (X:Cx) (es:List Expr) (t:TA):Prop :=
 ∀ (pos:Pos) (pins:List (Addr × Obj)) (s:Shared) (σ:St) (H:Hp) (Q:List V->Hp->Prop),Inv X pins σ H s->t σ H Q->wpAny (model X.prog X.w) X.A (spliced (backTo pos (starEach es X.env))) (AP X pins σ Q) X.xe s
def PS (X:Cx) (st:Stmt) (t:TS):Prop :=
 ∀ (pins:List (Addr × Obj)) (s:Shared) (σ:St) (H:Hp) (D:Ends),Inv X pins σ H s->t D σ H->wpAny (model X.prog X.w) X.A (exec st X.env) (SP X pins D) X.xe s
def PSs (X:Cx) (st:List Stmt) (t:TS):Prop :=
 ∀ (pins:List (Addr × Obj)) (s:Shared) (σ:St) (H:Hp) (D:Ends),Inv X pins σ H s->t D σ H->wpAny (model X.prog X.w) X.A (execs st X.env) (SP X pins D) X.xe s
theorem thn (h:wpAny M A t Q E s) (b:∀ a s,Q a s->Q' a s):wpAny M A t Q' E s:=wpAny_mono h b fun _ _ x=>x
end L2
namespace L2
open PySem PySem.Spec PyProof.Rows
section
variable {X:Cx}
theorem bin (n:PE X a ta) (j:PE X b tb) {R:V->V->Hp->Prop} (I:Inv X pins σ H s) (h:ta σ H fun x H1=>tb σ H1 fun y H2=>R x y H2) {Q:α->Shared->Prop} {f:Value->Value->Sem α} (hf:∀ v u s2 x y H2,Inv X pins σ H2 s2->RelV x v->RelV y u->R x y H2->wpAny (model X.prog X.w) X.A (f v u) Q X.xe s2) :
  wpAny (model X.prog X.w) X.A (eval a X.env) (fun v k=>wpAny (model X.prog X.w) X.A (eval b X.env) (fun u l=>wpAny (model X.prog X.w) X.A (f v u) Q X.xe l) X.xe k) X.xe s:=by
 refine thn (n pins s σ H _ I h) fun v s1 ⟨x,H1,i,c,m⟩=>?_
 refine thn (j pins s1 σ H1 _ i m) fun u s2 ⟨y,H2,e,g,d⟩=>?_
 exact hf v u s2 x y H2 e c g d
def gh (i:Nat):TE:=fun σ H Q=>∃ v,σ[i]?=some (some v)/\Q v H
def tC (v:V):TE:=fun _ H Q=>Q v H
theorem fF {i:Nat} (g:X.N[i]?=some x) (k:Vis X.env.scope x) (hd:(x == ("__debug__":Str))=false:=by decide) (d:(x == ("__classdict__":Str))=false:=by decide):PE X (.Name x pos) (gh i):=by
 intro pins s σ H Q I h
 obtain ⟨v,e,h⟩:=h
 obtain ⟨m,j,n⟩:=I.loc
 obtain ⟨u,r,l⟩:=n i x v g e k
 have fin:EP X pins σ Q u s:=⟨v,H,I,r,h⟩
 rcases l with ⟨b,hm⟩ | ⟨b,c,f,a⟩
 ·exact wpAny_Name (wpAny_loadName_local I.ok.kind b j hm fin) hd
 ·rcases b with b | b
  ·exact wpAny_Name (wpAny_loadName_cell I.ok.kind b f a fin) hd
  ·exact wpAny_Name (wpAny_loadName_free I.ok.kind b f a fin d) hd
theorem l4:PE X (.Constant (.int i) j pos) (tC (.int i)):=fun _ _ _ H _ I h=>wpAny_Constant_int ⟨.int i,H,I.tok _,⟨_,rfl⟩,h⟩
theorem pe_bl:PE X (.Constant (.bool b) j pos) (tC (.bl b)):=fun _ _ _ H _ I h=>Constant_bool ⟨.bl b,H,I,rfl,h⟩
theorem AN:PE X (.Constant .none j pos) (tC .non):=fun _ _ _ H _ I h=>Constant_none ⟨.non,H,I,rfl,h⟩
theorem vg:PE X (.Constant (.str x) j pos) (tC (.str x)):=fun _ _ _ H _ I h=>Calls.Constant_str ⟨.str x,H,I.tok _,⟨_,rfl⟩,h⟩
def Gl (X:Cx) (x:Str):Prop:=X.env.kindOf x=some .globalImplicit
theorem rj (I:Inv X pins σ H s) (a:Gl X x) (hm:X.mg x=some u) (h:Q u s) (hd:(x == ("__debug__":Str))=false:=by decide):wpAny (model X.prog X.w) X.A (eval (.Name x pos) X.env) Q E s :=
 Calls.Name_function_global I.ok.kind a (Calls.loadGlobal_global (by rw [I.ok.glob];exact I.mod.glob.keeps I.bk) hm h) hd
theorem fO (I:Inv X pins σ H s) (b:Gl X x) (hm:X.mg x=none) (a:bootBuiltins x=some u) (h:Q u s) (c:x ≠ "__name__":=by decide) (hd:(x == ("__debug__":Str))=false:=by decide):wpAny (model X.prog X.w) X.A (eval (.Name x pos) X.env) Q E s:=by
 obtain ⟨mb,h1,h2⟩:=I.mod.blt
 exact Calls.Name_function_global I.ok.kind b (Calls.loadGlobal_builtin (by rw [I.ok.glob];exact I.mod.glob.keeps I.bk) hm (by rw [I.ok.blt];exact h1.keeps I.bk) ((h2 x c).trans a) h) hd
theorem xZ (a:Gl X x) (hm:X.mg x=some u) (r:RelV v u) (hd:(x == ("__debug__":Str))=false:=by decide):PE X (.Name x pos) (tC v) :=
 fun _ _ _ H _ I h=>rj I a hm ⟨v,H,I,r,h⟩ hd
theorem l5 (b:Gl X x) (hm:X.mg x=none) (a:bootBuiltins x=some u) (r:RelV v u) (c:x ≠ "__name__":=by decide) (hd:(x == ("__debug__":Str))=false:=by decide):PE X (.Name x pos) (tC v) :=
 fun _ _ _ H _ I h=>fO I b hm a ⟨v,H,I,r,h⟩ c hd
variable {a b:Expr} {ta tb:TE} {pos:Pos}
def PC (X:Cx) (op:CmpOp) (a b:Expr) (t:TE):Prop :=
 ∀ (pins:List (Addr × Obj)) (s:Shared) (σ:St) (H:Hp) (Q:VK),Inv X pins σ H s->t σ H Q ->
  wpAny (model X.prog X.w) X.A (eval a X.env) (fun v c=>wpAny (model X.prog X.w) X.A (eval b X.env) (fun u d=>wpAny (model X.prog X.w) X.A (compareOp op v u) (EP X pins σ Q) X.xe d) X.xe c) X.xe s
def tB (t:TE):TT:=fun σ H Q=>t σ H fun x H1=>∃ c,x=.bl c/\Q c H1
theorem AF (h:PE X e t) (he:∀ whole,isTrue e X.env whole=(do let v <- whole;standAt e.pos;holding [v] (truthy v)):=by intro _;rfl):PT X e (tB t):=by
 intro pins s σ H Q I hw
 refine isTrue_plain (thn (h pins s σ H _ I hw) fun v s1 ⟨x,H1,b,a,c⟩=>?_) (he _)
 obtain ⟨d,rfl,q⟩:=c
 cases a
 exact CM ⟨H1,b,q⟩
variable {tA tB':TT} {fA:List Expr}
def tAnd (t u:TT):TT:=fun σ H Q=>t σ H fun c H1=>if c=true then u σ H1 Q else Q false H1
def tOr (t u:TT):TT:=fun σ H Q=>t σ H fun c H1=>if c=true then Q true H1 else u σ H1 Q
def tNot (t:TT):TT:=fun σ H Q=>t σ H fun c H1=>Q (!c) H1
theorem xL (b:PT X a tA):PW X (.BoolOp .And [a] pos) tA:=by
 intro wh pins s σ H Q I h
 refine isTrue_and (thn (b pins s σ H Q I h) fun c s1 e=>?_)
 cases c with
 | true=>exact isTrue_and_nil e
 | false=>exact e
theorem AC (b:PT X a tA):PW X (.BoolOp .Or [a] pos) tA:=by
 intro wh pins s σ H Q I h
 refine isTrue_or (thn (b pins s σ H Q I h) fun c s1 e=>?_)
 cases c with
 | false=>exact isTrue_or_nil e
 | true=>exact e
theorem AD (f:PT X a tA) (g:PW X (.BoolOp .And (b :: fA) pos) tB'):PW X (.BoolOp .And (a :: b :: fA) pos) (tAnd tA tB'):=by
 intro wh pins s σ H Q I h
 refine isTrue_and (thn (f pins s σ H _ I h) fun c s1 ⟨H1,e,d⟩=>?_)
 cases c with
 | true=>exact g wh pins s1 σ H1 Q e d
 | false=>exact ⟨H1,e,d⟩
theorem pw_or (f:PT X a tA) (g:PW X (.BoolOp .Or (b :: fA) pos) tB'):PW X (.BoolOp .Or (a :: b :: fA) pos) (tOr tA tB'):=by
 intro wh pins s σ H Q I h
 refine isTrue_or (thn (f pins s σ H _ I h) fun c s1 ⟨H1,e,d⟩=>?_)
 cases c with
 | true=>exact ⟨H1,e,d⟩
 | false=>exact g wh pins s1 σ H1 Q e d
theorem AG (b:PT X a tA):PT X (.UnaryOp .Not a pos) (tNot tA):=by
 intro pins s σ H Q I h
 exact isTrue_not (b pins s σ H (fun c H1=>Q (!c) H1) I h)
def y7 (ta tb:TE):TE:=fun σ H Q=>ta σ H fun x H1=>∃ c,x=.bl c/\if c=true then tb σ H1 Q else Q (.bl false) H1
def yV (ta:TE):TE:=fun σ H Q=>ta σ H fun x H1=>∃ c,x=.bl c/\Q (.bl (!c)) H1
theorem AL (h:PE X a t):PE X (.BoolOp op [a] pos) t:=fun pins s σ H Q I hw=>BoolOp_one (h pins s σ H Q I hw)
theorem AS (g:PE X a ta) (i:PE X (.BoolOp .And (b :: fA) pos) tb):PE X (.BoolOp .And (a :: b :: fA) pos) (y7 ta tb):=by
 intro pins s σ H Q I h
 refine BoolOp_and (thn (g pins s σ H _ I h) fun v s1 ⟨x,H1,e,f,d⟩=>?_)
 obtain ⟨c,rfl,d⟩:=d
 cases f
 refine CM ?_
 cases c with
 | true=>exact i pins s1 σ H1 Q e d
 | false=>exact ⟨.bl false,H1,e,rfl,d⟩
theorem AM (e:PE X a ta):PE X (.UnaryOp .Not a pos) (yV ta):=by
 intro pins s σ H Q I h
 refine UnaryOp_ (thn (e pins s σ H _ I h) fun v s1 ⟨x,H1,f,d,b⟩=>?_)
 obtain ⟨c,rfl,b⟩:=b
 cases d
 exact not_of (CM ⟨.bl (!c),H1,f,rfl,b⟩)
def tIf (t:TT) (ta tb:TE):TE:=fun σ H Q=>t σ H fun c H1=>if c=true then ta σ H1 Q else tb σ H1 Q
theorem vi (g:PT X c tA) (i:PE X a ta) (j:PE X b tb):PE X (.IfExp c a b pos) (tIf tA ta tb):=by
 intro pins s σ H Q I h
 refine wpAny_IfExp (thn (g pins s σ H _ I h) fun d s1 ⟨H1,f,e⟩=>?_)
 cases d with
 | true=>exact i pins s1 σ H1 Q f e
 | false=>exact j pins s1 σ H1 Q f e
end
end L2
namespace L2
open PySem PySem.Spec PyProof.Rows
def SqL (K:FG) (H:Hp) (a:Addr) (xs:List V):Prop :=
 Rd H a (.lst xs) \/
  ∃ (o:Obj) (its:Array Value) (n:Nat),K.lookup a=some o/\o.cls=.type "list"/\o.dict=none/\o.data=.seq its n/\its.size<=sizeLine/\Vals xs its.toList
def SqT (K:FG) (H:Hp) (a:Addr) (xs:List V):Prop :=
 Rd H a (.tup xs) \/
  ∃ (o:Obj) (its:Array Value) (n:Nat),K.lookup a=some o/\o.cls=.type "tuple"/\o.data=.seq its n/\its.size<=sizeLine/\Vals xs its.toList
def absV:Value->Option V
 | .none=>some .non
 | .bool b=>some (.bl b)
 | .int i _=>some (.int i)
 | .str x _=>some (.str x)
 | .bytes b _=>some (.byt b)
 | .float b _=>some (.flt b)
 | .ref a=>some (.ref a)
 | .type n=>some (.ty n)
 | _=>none
theorem RelV.abs (r:RelV x u):absV u=some x:=by
 cases x with
 | non=>cases r;rfl
 | bl _=>cases r;rfl
 | int _=>obtain ⟨t,rfl⟩:=r;rfl
 | str _=>obtain ⟨t,rfl⟩:=r;rfl
 | byt _=>obtain ⟨t,rfl⟩:=r;rfl
 | flt _=>obtain ⟨t,rfl⟩:=r;rfl
 | ref _=>cases r;rfl
 | ty _=>cases r;rfl
theorem RelV.inj (r:RelV x u) (q:RelV y u):x=y:=CS (r.abs.symm.trans q.abs)
theorem Vals.inj:∀ {xs ys:List V} {us:List Value},Vals xs us->Vals ys us->xs=ys
 | _,_,_,.nil,.nil=>rfl
 | _,_,_,.cons r t,.cons r' t'=>by rw [r.inj r',Vals.inj t t']
section
variable {X:Cx} {pins:List (Addr × Obj)} {σ:St} {H:Hp} {s:Shared} {a:Addr} {xs ys:List V}
theorem SqL.of {K:FG} (h:H a=some (.lst xs)):SqL K H a xs:=.inl (.inl h)
theorem SqT.of {K:FG} (h:H a=some (.tup xs)):SqT K H a xs:=.inl (.inl h)
theorem Inv.list (I:Inv X pins σ H s) (h:SqL X.K H a xs):∃ its:List Value,Vals xs its/\PlainL s.heap a its.toArray/\xs.length<=sizeLine:=by
 rcases h with h | ⟨o,its,n,c,b,hd,d,hz,r⟩
 ·obtain ⟨z,its,n,r,e⟩:=h.ok I.hok
  exact ⟨its,r,⟨_,n,e,rfl,rfl,rfl⟩,z⟩
 ·refine ⟨its.toList,r,⟨o,n,I.kIn a o c,b,hd,by simpa using d⟩,?_⟩
  have e:=r.length
  simp only [Array.length_toList] at e
  omega
theorem Inv.tuple (I:Inv X pins σ H s) (h:SqT X.K H a xs):∃ its:List Value,Vals xs its/\IsTup s.heap a its.toArray/\xs.length<=sizeLine:=by
 rcases h with h | ⟨o,its,n,c,b,d,hz,r⟩
 ·obtain ⟨z,its,r,p⟩:=h.ok I.hok
  exact ⟨its,r,p.tup,z⟩
 ·refine ⟨its.toList,r,⟨o,I.kIn a o c,b,n,by simpa using d⟩,?_⟩
  have e:=r.length
  simp only [Array.length_toList] at e
  omega
theorem Inv.list_inj (I:Inv X pins σ H s) (h:SqL X.K H a xs) (h':SqL X.K H a ys):xs=ys:=by
 obtain ⟨its,r,⟨o,n,e,_,_,d⟩,_⟩:=I.list h
 obtain ⟨its',c,⟨o',f,b,_,_,d'⟩,_⟩:=I.list h'
 rw [e] at b;cases b
 rw [d] at d'
 injection d' with d1 _
 have:its=its':=by simpa using congrArg Array.toList d1
 subst this
 exact r.inj c
theorem Inv.tuple_inj (I:Inv X pins σ H s) (h:SqT X.K H a xs) (h':SqT X.K H a ys):xs=ys:=by
 obtain ⟨its,r,⟨o,e,_,n,d⟩,_⟩:=I.tuple h
 obtain ⟨its',c,⟨o',b,_,f,d'⟩,_⟩:=I.tuple h'
 rw [e] at b;cases b
 rw [d] at d'
 injection d' with d1 _
 have:its=its':=by simpa using congrArg Array.toList d1
 subst this
 exact r.inj c
end
abbrev Cx.wish (X:Cx) (E:Value->Shared->Prop):Cx:={ X with xe:=E }
abbrev Cx.nox (X:Cx):Cx:=X.wish fun _ _=>False
theorem Cx.Ok.wish {X:Cx} (ok:X.Ok) (E:Value->Shared->Prop):(X.wish E).Ok :=
 ⟨ok.mod,ok.kind,ok.glob,ok.blt,ok.above,ok.inj,ok.has,ok.cab,ok.hd,ok.frames,ok.stk,ok.exf,ok.bs,ok.bsz,ok.noex,ok.exfs,ok.funs,ok.frf⟩
theorem Cx.Ok.unwish {X:Cx} (ok:(X.wish E).Ok):X.Ok :=
 ⟨ok.mod,ok.kind,ok.glob,ok.blt,ok.above,ok.inj,ok.has,ok.cab,ok.hd,ok.frames,ok.stk,ok.exf,ok.bs,ok.bsz,ok.noex,ok.exfs,ok.funs,ok.frf⟩
section
variable {X:Cx} {pins:List (Addr × Obj)} {σ:St} {H:Hp} {s:Shared} {E:Value->Shared->Prop}
theorem Inv.wish (I:Inv X pins σ H s) (E:Value->Shared->Prop):Inv (X.wish E) pins σ H s:=⟨I.ok.wish E,I.os,I.bare,I.base,I.loc,I.cell,I.free,I.freeC,I.pin,I.hok,I.len⟩
theorem Inv.unwish (I:Inv (X.wish E) pins σ H s):Inv X pins σ H s:=⟨I.ok.unwish,I.os,I.bare,I.base,I.loc,I.cell,I.free,I.freeC,I.pin,I.hok,I.len⟩
theorem SP.unwish (h:SP (X.wish E) pins D f s'):SP X pins D f s':=by
 cases f with
 | next=>obtain ⟨σ',H',I,q⟩:=h;exact ⟨σ',H',I.unwish,q⟩
 | brk=>obtain ⟨σ',H',I,q⟩:=h;exact ⟨σ',H',I.unwish,q⟩
 | cont=>obtain ⟨σ',H',I,q⟩:=h;exact ⟨σ',H',I.unwish,q⟩
 | ret u=>obtain ⟨v,σ',H',I,r,q⟩:=h;exact ⟨v,σ',H',I.unwish,r,q⟩
theorem PSs.nox {st:List Stmt} (h:PSs X.nox st t):PSs X st t:=fun pins s σ H D I hw =>
 wpAny_mono (h pins s σ H D (I.wish _) hw) (fun _ _ q=>q.unwish) fun _ _ z=>False.elim z
end
section
variable {X:Cx} {st:Stmt} {fA:List Stmt} {t u:TS} {e:Expr} {te:TE} {pos:Pos}
def yW:TS:=fun D σ H=>D.nx σ H
def tSeq (t u:TS):TS:=fun D σ H=>t { D with nx:=u D } σ H
theorem xQ:PSs X [] yW:=fun _ _ σ H _ I h=>wpAny_execs_nil ⟨σ,H,I,h⟩
theorem u5 (h1:PS X st t) (h2:PSs X fA u):PSs X (st :: fA) (tSeq t u):=by
 intro pins s σ H D I h
 refine wpAny_execs_cons (thn (h1 pins s σ H { D with nx:=u D } I h) fun f s1 q=>?_)
 cases f with
 | next =>
  obtain ⟨σ',H',a,q⟩:=q
  exact h2 pins s1 σ' H' D a q
 | ret v=>exact q
 | brk=>exact q
 | cont=>exact q
theorem xP (h1:PS X st t):PSs X [st] t:=by
 intro pins s σ H D I h
 refine wpAny_execs_cons (thn (h1 pins s σ H D I h) fun f s1 q=>?_)
 cases f with
 | next=>exact wpAny_execs_nil q
 | ret v=>exact q
 | brk=>exact q
 | cont=>exact q
theorem Inv.quiet (I:Inv X pins σ H s):interactive X.env=false:=by simp [interactive,I.ok.kind]
def yY (te:TE):TS:=fun D σ H=>te σ H fun _ H1=>D.nx σ H1
theorem xR (he:PE X e te) (b:swapsWith e none pos.line X.env=pure false:=by rfl):PS X (.Expr e pos) (yY te):=by
 intro pins s σ H D I h
 exact wpAny_Expr_any (thn (he pins s σ H _ I h) fun v s1 ⟨x,H1,c,d,a⟩=>⟨σ,H1,c,a⟩) I.quiet b
def tRet (te:TE):TS:=fun D σ H=>te σ H D.rt
theorem AI (he:PE X e te):PS X (.Return (some e) pos) (tRet te):=by
 intro pins s σ H D I h
 exact wpAny_Return_some (thn (he pins s σ H _ I h) fun v s1 ⟨x,H1,c,a,b⟩=>⟨x,σ,H1,c,a,b⟩)
def tIfS (c:TT) (t u:TS):TS:=fun D σ H=>c σ H fun b H1=>if b=true then t D σ H1 else u D σ H1
theorem ps_if (g:PT X c tc) (i:PSs X a t) (j:PSs X b u):PS X (.If c a b pos) (tIfS tc t u):=by
 intro pins s σ H D I h
 refine wpAny_If (thn (g pins s σ H _ I h) fun d s1 ⟨H1,f,e⟩=>?_)
 cases d with
 | true=>exact i pins s1 σ H1 D f e
 | false=>exact j pins s1 σ H1 D f e
def zM:TS:=fun _ _ _=>False
theorem u7:PS X st zM:=fun _ _ _ _ _ _ h=>h.elim
end
abbrev TG:=V->St->Hp->(St->Hp->Prop)->Prop
abbrev TGs:=List V->St->Hp->(St->Hp->Prop)->Prop
def PG (X:Cx) (target:Expr) (t:TG):Prop :=
 ∀ (pins:List (Addr × Obj)) (s:Shared) (σ:St) (H:Hp) (v:V) (u:Value) (Q:St->Hp->Prop),Inv X pins σ H s->RelV v u->t v σ H Q ->
  wpAny (model X.prog X.w) X.A (assign target X.env u) (fun _ s'=>∃ σ' H',Inv X pins σ' H' s'/\Q σ' H') X.xe s
def PGs (X:Cx) (ts:List Expr) (t:TGs):Prop :=
 ∀ (pins:List (Addr × Obj)) (s:Shared) (σ:St) (H:Hp) (a:List V) (us:List Value) (Q:St->Hp->Prop),Inv X pins σ H s->Vals a us->t a σ H Q ->
  wpAny (model X.prog X.w) X.A (assignInOrder ((assignEach ts X.env).map (·.2)) us) (fun _ s'=>∃ σ' H',Inv X pins σ' H' s'/\Q σ' H') X.xe s
abbrev tY:=V->V->V->Hp->(Hp->Prop)->Prop
def tZ (X:Cx) (t:tY):Prop :=
 ∀ (pins:List (Addr × Obj)) (s:Shared) (σ:St) (H:Hp) (o i v:V) (ov a u:Value) (Q:Hp->Prop),Inv X pins σ H s->RelV o ov->RelV i a->RelV v u->t o i v H Q ->
  wpAny (model X.prog X.w) X.A (setItem ov a u) (fun _ s'=>∃ H',Inv X pins σ H' s'/\Q H') X.xe s
section
variable {X:Cx} {pos:Pos}
def rC (i:Nat):TG:=fun v σ H Q=>Q (σ.set i (some v)) H
theorem jO {i:Nat} (c:X.N.Nodup) (hi:X.N[i]?=some x) (a:Loc X.env.scope x) (hf:X.fn x=true\/X.env.scope.names.lookup x=some .local:=by first | exact .inl rfl | exact .inr rfl | assumption):PG X (.Name x pos) (rC i):=by
 intro pins s σ H v u Q I r h
 exact wpAny_assign_Name (mW I c hi a r (fun s' b=>⟨_,H,b,h⟩) hf)
def BD:TGs:=fun a σ H Q=>a=[]/\Q σ H
def rD (t:TG) (u:TGs):TGs:=fun a σ H Q=>∃ v r,a=v :: r/\t v σ H fun σ' H'=>u r σ' H' Q
theorem lZ:PGs X [] BD:=by
 intro pins s σ H a us Q I r h
 obtain ⟨e,h⟩:=h
 subst e
 cases r
 exact assignInOrder_nil ⟨σ,H,I,h⟩
theorem fE (h1:PG X e t) (h2:PGs X es u) (a:(assignEach (e :: es) X.env).map (·.2)=assign e X.env :: (assignEach es X.env).map (·.2):=by rfl):PGs X (e :: es) (rD t u):=by
 intro pins s σ H d us Q I r h
 obtain ⟨v,f,e1,h⟩:=h
 subst e1
 cases r with
 | cons r rr =>
  rw [a]
  refine assignInOrder_cons (thn (h1 pins s σ H _ _ _ I r h) fun _ s1 ⟨σ1,H1,b,c⟩=>?_)
  exact h2 pins s1 σ1 H1 _ _ Q b rr c
def yH (K:FG) (n:Nat) (t:TGs):TG:=fun v σ H Q=>∃ a xs,v=.ref a/\SqT K H a xs/\xs.length=n/\t xs σ H Q
theorem pO {k:Nat} {n:Nat} (j:X.calm=true) (h:PGs X es t) (l:(assignEach es X.env).length=n:=by rfl) (c:(assignEach es X.env).findIdx? (·.1)=none:=by rfl):PG X (.Tuple es k pos) (yH X.K n t):=by
 intro pins s σ H v u Q I r hw
 obtain ⟨a,xs,e1,i,p,hw⟩:=hw
 subst e1
 cases r
 obtain ⟨its,d,g,hz⟩:=I.tuple i
 refine assign_Tuple_tuple (I.ok.hd j) g (by simp [l,<- p,d.length]) c fun h' f=>?_
 have m:Inv X pins σ H { s with heap:=h' }:=I.kept (t':=s.toks) fun b o e=>f b o (Cq (Cf e)) e
 exact h pins _ σ H xs _ Q m (by simpa using d) hw
def wa (to a:TE) (t:tY):TG:=fun v σ H Q=>to σ H fun o H1=>a σ H1 fun i H2=>t o i v H2 fun b=>Q σ b
theorem pP (b:PE X o to) (hi:PE X i ti) (p:tZ X t) (n:∀ v,assign (.Subscript o i pos) X.env v=(do
   let ov <- holding [v] (eval o X.env)
   let a <- holding [v,ov] (eval i X.env)
   standAt pos
   holding [v,ov,a] (setItem ov a v)
   release [v,ov,a] []):=by intro _;rfl):PG X (.Subscript o i pos) (wa to ti t):=by
 intro pins s σ H v u Q I r h
 rw [n]
 refine B0 (B5 (thn (b pins s σ H _ I h) fun ov s1 ⟨x,H1,j,c,m⟩=>?_))
 refine B0 (B5 (thn (hi pins s1 σ H1 _ j m) fun a s2 ⟨y,H2,f,g,d⟩=>?_))
 refine B0 (wpAny_standAt (B0 (B5 (thn (p pins s2 σ H2 x y v ov a u _ f c g r d) fun _ s3 ⟨k,l,e⟩=>?_))))
 exact wpAny_release ⟨σ,k,l,e⟩
def sd (te:TE) (g:TG):TS:=fun D σ H=>te σ H fun x H1=>g x σ H1 D.nx
theorem pK (he:PE X e te) (b:PG X tg g) (a:swapsWithSole [tg] e pos.line X.env=pure false:=by rfl) (hw:swappedStores [tg] e X.env=pure none:=by rfl) (h1:(assignEach [tg] X.env).map (·.2)=[assign tg X.env]:=by rfl):PS X (.Assign [tg] e pos) (sd te g):=by
 intro pins s σ H D I h
 refine wpAny_Assign_stores (thn (he pins s σ H _ I h) fun v s1 ⟨x,H1,d,c,f⟩=>?_) a hw
 rw [h1]
 exact thn (b pins s1 σ H1 x v _ d c f) fun _ s2 q=>q
theorem AH {i:Nat} (b:X.N.Nodup) (hi:X.N[i]?=some x) (a:Loc X.env.scope x) (he:PE X e te) (j:swapsWith e (some (.Name x pos')) pos.line X.env=pure false:=by rfl) (hf:X.fn x=true\/X.env.scope.names.lookup x=some .local:=by first | exact .inl rfl | exact .inr rfl | assumption) :
  PS X (.Assign [.Name x pos'] e pos) (sd te (rC i)):=by
 intro pins s σ H D I h
 refine wpAny_Assign_Name (thn (he pins s σ H _ I h) fun v s1 ⟨y,H1,f,c,g⟩=>?_) j
 exact mW f b hi a c (fun s2 d=>⟨_,H1,d,g⟩) hf
end
section
variable {X:Cx} {pos:Pos}
def uh (c:TT) (tb:TS):TS:=fun D σ H=>∃ W:Nat->St->Hp->Prop,(∃ m,W m σ H)/\∀ m σ H,W m σ H ->
 c σ H fun b H1=>if b=true then ∃ N:St->Hp->Prop,(∀ σ' H',N σ' H'->∃ a,a < m/\W a σ' H')/\tb { D with nx:=N,ct:=N,bk:=D.nx } σ H1 else D.nx σ H1
theorem u6 (o:PassesOwn (model X.prog X.w) X.A X.env X.xe) (r:PT X c tc) (u:PSs X body tb):PS X (.While c body [] pos) (uh tc tb):=by
 intro pins s σ H D I h
 obtain ⟨W,⟨m0,p⟩,turn⟩:=h
 refine wpAny_While (codeAny_whileLoop (fun n s'=>∃ σ' H',Inv X pins σ' H' s'/\W n σ' H') ?_ m0 ⟨σ,H,I,p⟩)
 rintro n s1 ⟨σ1,H1,t,q⟩
 refine wpAny_passesOwn o (thn (r pins s1 σ1 H1 _ t (turn n σ1 H1 q)) fun b s2 ⟨H2,m,d⟩=>?_)
 cases b with
 | true =>
  obtain ⟨N,l,d⟩:=d
  rw [if_pos rfl]
  refine wpAny_passesOwn o (thn (u pins s2 σ1 H2 _ m d) fun f s3 e=>?_)
  cases f with
  | next =>
   obtain ⟨σ3,a,j,i⟩:=e
   obtain ⟨g,hm,k⟩:=l σ3 a i
   exact ⟨g,hm,σ3,a,j,k⟩
  | cont =>
   obtain ⟨σ3,a,j,i⟩:=e
   obtain ⟨g,hm,k⟩:=l σ3 a i
   exact ⟨g,hm,σ3,a,j,k⟩
  | brk=>exact e
  | ret v=>exact e
 | false =>
  rw [if_neg Cp]
  exact wpAny_execs_nil ⟨σ1,H2,m,d⟩
end
structure It where
 go:Nat->Hp->Prop
 yld:Nat->Hp->V->Hp->Prop
 stop:Nat->Hp->Prop
def FpOk (X:Cx) (pins:List (Addr × Obj)) (H:Hp) (b:Addr):Prop :=
 H b=none/\b ≠ X.env.locals/\b ∉ X.fs/\(b ∈ X.ex\/X.s₀.heap.objs.size<=b)/\(∀ x c,X.env.cells.lookup x=some c->c ≠ b)/\∀ p ∈ X.pn ++ pins,p.1 ≠ b
theorem Inv.fpOk (I:Inv X pins σ H s) (a:s.heap.objs.size<=b) (f:H' b=none):FpOk X pins H' b:=by
 refine ⟨f,Nat.ne_of_gt (Cv I.lt a),I.nofs a,.inr (CN I.sz a),fun x c e z=>?_,fun p d z=>?_⟩
 ·obtain ⟨v,q⟩:=I.cell x c e
  exact absurd (Cv q.lt (by rw [z];exact a)) (Nat.lt_irrefl _)
 ·exact absurd (Cv (Cf (I.pin p d).1) (by rw [z];exact a)) (Nat.lt_irrefl _)
structure Turn (P:Program) (w:World) (K:FG) (tg:Expr) (J:It) (fp:List Addr) (it:Addr) (tn:Nat->Heap->Prop):Prop where
 mem:it ∈ fp
 obj:∀ i h,tn i h->∀ b ∈ fp,∃ o,h.get? b=some o/\∀ v,o.data ≠ .cell v
 keep:∀ i h h',tn i h->(∀ b ∈ fp,∀ o,h.get? b=some o->h'.get? b=some o)->tn i h'
 item:∀ (X:Cx),X.prog=P->X.w=w->X.K=K->X.calm=true->∀ (i:Nat) (pins:List (Addr × Obj)) (s:Shared) (σ:St) (H:Hp) (E:Value->Shared->Prop),Inv X pins σ H s->(∀ b ∈ fp,FpOk X pins H b)->tn i s.heap->J.go i H ->
  wpAny (model P w) X.A (pyNext (.ref it)) (fun r s1=>∃ u,r=some u /\
   wpAny (model P w) X.A (letOwnedTupleGo tg (.ref it) u) (fun _ s2=>∃ x H',Inv X pins σ H' s2/\RelV x u/\J.yld i H x H'/\tn (i+1) s2.heap/\∀ b ∈ fp,H' b=none) E s1) E s
 done:∀ (X:Cx),X.prog=P->X.w=w->X.K=K->X.calm=true->∀ (i:Nat) (pins:List (Addr × Obj)) (s:Shared) (σ:St) (H:Hp) (E:Value->Shared->Prop),Inv X pins σ H s->(∀ b ∈ fp,FpOk X pins H b)->tn i s.heap->J.stop i H ->
  wpAny (model P w) X.A (pyNext (.ref it)) (fun r s1=>r=none/\Inv X pins σ H s1) E s
 self:∀ (A:Around) (i:Nat) (s:Shared) (Q:Value->Shared->Prop) (E:Value->Shared->Prop),tn i s.heap->Q (.ref it) s->wpAny (model P w) A (pyIter (.ref it)) Q E s
abbrev TI:=St->Hp->(It->Hp->Prop)->Prop
def PIE (X:Cx) (pins:List (Addr × Obj)) (σ:St) (tg:Expr) (R:It->Hp->Prop) (a:Value) (s2:Shared):Prop :=
 ∃ (it:Addr) (fp:List Addr) (c:Nat->Heap->Prop) (J:It) (H':Hp),a=.ref it/\Inv X pins σ H' s2/\Turn X.prog X.w X.K tg J fp it c/\c 0 s2.heap/\(∀ b ∈ fp,FpOk X pins H' b)/\R J H'
def PI (X:Cx) (tg iter:Expr) (a:TI):Prop :=
 ∀ (pins:List (Addr × Obj)) (s:Shared) (σ:St) (H:Hp) (R:It->Hp->Prop),Inv X pins σ H s->a σ H R ->
  wpAny (model X.prog X.w) X.A (eval iter X.env) (fun v s1=>wpAny (model X.prog X.w) X.A (pyIter v) (PIE X pins σ tg R) X.xe s1) X.xe s
theorem vY (d : s.heap.get? it = some o) (b : o.cls = .type n) (hd : o.data = .fields vs) (c : ["enumerate", "zip", "dict_itemiterator", "dict_reverseitemiterator", "odict_iterator", "itertools.zip_longest", "itertools.pairwise"].contains n = false) (a : Q () s) : wpAny M A (letOwnedTupleGo tg (.ref it) u) Q E s := by
  unfold letOwnedTupleGo
  cases tg <;> first
    | exact B4 a
    | (cases u <;> first
        | exact B4 a
        | (refine B0 (wpAny_load d ?_)
           rw [b, hd]
           show wpAny M A (if (["enumerate", "zip", "dict_itemiterator", "dict_reverseitemiterator", "odict_iterator", "itertools.zip_longest", "itertools.pairwise"].contains n && vs[0]? == some (rawInt _)) = true then _ else _) Q E s
           rw [if_neg (by intro h; rw [c, Bool.false_and] at h; cases h)]
           exact B4 a))
def Itl (K:FG) (a:Addr):It :=
 ⟨fun i H=>∃ xs x,SqL K H a xs/\xs[i]?=some x,fun i H x H'=>H'=H/\∀ xs,SqL K H a xs->xs[i]?=some x,fun i H=>∃ xs,SqL K H a xs/\xs.length<=i⟩
def Itt (K:FG) (a:Addr):It :=
 ⟨fun i H=>∃ xs x,SqT K H a xs/\xs[i]?=some x,fun i H x H'=>H'=H/\∀ xs,SqT K H a xs->xs[i]?=some x,fun i H=>∃ xs,SqT K H a xs/\xs.length<=i⟩
def Itr (lo:Int) (n:Nat):It:=⟨fun i _=>i < n,fun i H x H'=>H'=H/\x=.int (lo+i),fun i _=>n<=i⟩
theorem rY {P:Program} {w:World} {K:FG} {tg:Expr} (a it:Addr):Turn P w K tg (Itl K a) [it] it (fun i h=>h.IsListIter it a i) where
 mem:=by simp
 obj:=fun i h st b f=>by
  have e:b=it:=by simpa using f
  subst e
  obtain ⟨o,e,c,d⟩:=st
  exact ⟨o,e,fun v z=>by rw [d] at z;cases z⟩
 keep:=fun i h h' st k=>st.at fun o e=>k it (by simp) o e
 item:=by
  intro X n hw m A i pins s σ H E I hf st q
  subst n hw m
  obtain ⟨xs,x,j,l⟩:=q
  obtain ⟨its,y,p,hz⟩:=I.list j
  obtain ⟨u,hu,D⟩:=y.get l
  obtain ⟨f0,f1,f2,t,f4,r⟩:=hf it (by simp)
  refine wpAny_pyNext_list_item st p.isList (x:=u) (by simpa using hu) fun h' g sb=>?_
  have F:Inv X pins σ H { s with heap:=h' }:=I.turned (t':=s.toks) (fun b o f e=>(sb.2 b f).trans e) f0 f1 t f4 r
  obtain ⟨o,e,c,d⟩:=id g
  exact ⟨u,rfl,vY (s:={ s with heap:=h' }) e c d (by decide) ⟨x,H,F,D,⟨rfl,fun ys C=>by rw [I.list_inj C j];exact l⟩,g,fun b f=>(hf b f).1⟩⟩
 done:=by
  intro X n hw m A i pins s σ H E I hf st q
  subst n hw m
  obtain ⟨xs,j,l⟩:=q
  obtain ⟨its,y,p,hz⟩:=I.list j
  obtain ⟨f0,f1,f2,t,f4,r⟩:=hf it (by simp)
  have G:=y.length
  exact wpAny_pyNext_list_end (I.ok.hd A) st p.isList (by simp;omega) fun h' B=>⟨rfl,I.turned (t':=s.toks) (fun b o f e=>B b o f e) f0 f1 t f4 r⟩
 self:=fun _ _ _ _ _ st h=>wpAny_pyIter_listiter st h
theorem o4 {P:Program} {w:World} {K:FG} {tg:Expr} (a it:Addr):Turn P w K tg (Itt K a) [it] it (fun i h=>h.IsTupleIter it a i) where
 mem:=by simp
 obj:=fun i h st b f=>by
  have e:b=it:=by simpa using f
  subst e
  obtain ⟨o,e,c,d⟩:=st
  exact ⟨o,e,fun v z=>by rw [d] at z;cases z⟩
 keep:=fun i h h' st k=>st.at fun o e=>k it (by simp) o e
 item:=by
  intro X n hw m A i pins s σ H E I hf st q
  subst n hw m
  obtain ⟨xs,x,j,l⟩:=q
  obtain ⟨its,y,p,hz⟩:=I.tuple j
  obtain ⟨u,hu,D⟩:=y.get l
  obtain ⟨f0,f1,f2,t,f4,r⟩:=hf it (by simp)
  refine wpAny_pyNext_tuple_item st (show s.heap.IsTuple a its.toArray from p) (x:=u) (by simpa using hu) fun h' g sb=>?_
  have F:Inv X pins σ H { s with heap:=h' }:=I.turned (t':=s.toks) (fun b o f e=>(sb.2 b f).trans e) f0 f1 t f4 r
  obtain ⟨o,e,c,d⟩:=id g
  exact ⟨u,rfl,vY (s:={ s with heap:=h' }) e c d (by decide) ⟨x,H,F,D,⟨rfl,fun ys C=>by rw [I.tuple_inj C j];exact l⟩,g,fun b f=>(hf b f).1⟩⟩
 done:=by
  intro X n hw m A i pins s σ H E I hf st q
  subst n hw m
  obtain ⟨xs,j,l⟩:=q
  obtain ⟨its,y,p,hz⟩:=I.tuple j
  obtain ⟨f0,f1,f2,t,f4,r⟩:=hf it (by simp)
  have G:=y.length
  exact wpAny_pyNext_tuple_end (I.ok.hd A) st (show s.heap.IsTuple a its.toArray from p) (by simp;omega) fun h' B=>⟨rfl,I.turned (t':=s.toks) (fun b o f e=>B b o f e) f0 f1 t f4 r⟩
 self:=fun _ _ _ _ _ st h=>wpAny_pyIter_tupleiter st h
theorem o5 {P:Program} {w:World} {K:FG} {tg:Expr} (it:Addr) (lo:Int) (n:Nat):Turn P w K tg (Itr lo n) [it] it (fun i h=>IsRangeIter h it (lo+(i:Nat) * 1) ((n:Int) - (i:Nat)) 1) where
 mem:=by simp
 obj:=fun i h st b a=>by
  have e:b=it:=by simpa using a
  subst e
  exact ⟨_,st,fun v z=>by
   have r:Data.fields _=Data.cell v:=z
   cases r⟩
 keep:=fun i h h' st k=>k it (by simp) _ st
 item:=by
  intro X f hw d l i pins s σ H E I hf st g
  subst f hw d
  obtain ⟨f0,f1,f2,m,f4,j⟩:=hf it (by simp)
  have W:=Walks.range (prog:=X.prog) (w:=X.w) (I.ok.hd l) it lo 1 n
  refine W.item i s _ _ g st fun v h' tk x c q=>?_
  obtain ⟨t,rfl⟩:=x
  have u:Inv X pins σ H { s with heap:=h',toks:=tk }:=I.turned (fun b o a e=>q b o (by simpa using a) e) f0 f1 m f4 j
  refine ⟨_,rfl,vY (s:={ s with heap:=h',toks:=tk }) (n:="range_iterator") c rfl rfl (by decide) ⟨.int (lo+i),H,u,⟨t,?_⟩,⟨rfl,rfl⟩,c,fun b a=>(hf b a).1⟩⟩
  rw [Int.mul_one]
 done:=by
  intro X f hw d l i pins s σ H E I hf st g
  subst f hw d
  obtain ⟨f0,f1,f2,m,f4,j⟩:=hf it (by simp)
  exact wpAny_pyNext_range_end (I.ok.hd l) st (by have:n<=i:=g;omega) fun h' p=>⟨rfl,I.turned (t':=s.toks) (fun b o a e=>p b o a e) f0 f1 m f4 j⟩
 self:=fun _ _ _ _ _ st h=>wpAny_pyIter_rangeiter st h
end L2
namespace L2
open PySem PySem.Spec PyProof.Rows
section
variable {X:Cx} {tg:Expr}
theorem nk {lo hi:Int} {tk:Nat} (I:Inv X pins σ H s) (h1:-(2 ^ 62)<=lo) (h2:lo < 2 ^ 62) (h3:-(2 ^ 62)<=hi) (c:hi < 2 ^ 62) (q:R (Itr lo (hi - lo).toNat) H):wpAny (model X.prog X.w) X.A (pyIter (.ref s.heap.objs.size)) (PIE X pins σ tg R) E { s with heap:=s.heap.push { cls:=.type "range",data:=.fields #[.int lo t,.int hi u,.int 1 v] },toks:=tk }:=by
 refine wpAny_pyIter_range (IsRange.new ..) (small_one h1 h2 h3 c) ?_
 have a:Inv X pins σ H { s with heap:=s.heap.push { cls:=.type "range",data:=.fields #[.int lo t,.int hi u,.int 1 v] },toks:=tk }:=I.kept fun b o e=>B8 _ e
 refine ⟨(s.heap.push { cls:=.type "range",data:=.fields #[.int lo t,.int hi u,.int 1 v] }).objs.size,[(s.heap.push { cls:=.type "range",data:=.fields #[.int lo t,.int hi u,.int 1 v] }).objs.size],_,_,H,rfl,
  a.kept (t':=tk) fun b o e=>B8 _ e,o5 _ lo (hi - lo).toNat,?_,fun b d=>?_,q⟩
 ·have e1:lo+((0:Nat):Int) * 1=lo:=by simp
  have f:(((hi - lo).toNat:Nat):Int) - ((0:Nat):Int)=Builtin.Range.rangeSize lo hi 1:=by rw [rangeSize_one];split <;> omega
  show IsRangeIter _ _ (lo+((0:Nat):Int) * 1) ((((hi - lo).toNat:Nat):Int) - ((0:Nat):Int)) 1
  rw [e1,f]
  exact Ch _ rfl
 ·have e:b=(s.heap.push { cls:=.type "range",data:=.fields #[.int lo t,.int hi u,.int 1 v] }).objs.size:=by simpa using d
  subst e
  exact a.fpOk (Co _) (a.hok.fresh (Co _))
def zo (ta:TA):TI:=fun σ H R=>ta σ H fun a H1=>∃ j:Int,a=[.int j]/\-(2 ^ 62)<=j/\j < 2 ^ 62/\R (Itr 0 j.toNat) H1
def zn (ta:TA):TI:=fun σ H R=>ta σ H fun a H1=>∃ i j:Int,a=[.int i,.int j]/\(-(2 ^ 62)<=i/\i < 2 ^ 62/\-(2 ^ 62)<=j/\j < 2 ^ 62)/\R (Itr i (j - i).toNat) H1
theorem sF (c:Gl X "range") (hm:X.mg "range"=none) (i:PA X [a] ta) (k:starEach [a] X.env=[(false,eval a X.env)]:=by rfl):PI X tg (.Call (.Name "range" p) [a] [] pos) (zo ta):=by
 intro pins s σ H R I h
 refine Call_ (fO I c hm boot_range (PyProof.Rows.callWith_type1 (thn (i pos pins s σ H _ I h) fun us s1 ⟨l,H1,g,d,b⟩=>?_) k rfl))
 obtain ⟨j,e,b,f,q⟩:=b
 subst e
 cases d with
 | cons r rr =>
  cases rr
  obtain ⟨t,rfl⟩:=r
  exact call_range_1 (nk g (by omega) (by omega) b f (by simpa using q))
theorem sE (f:Gl X "range") (hm:X.mg "range"=none) (o:PA X [a,b] ta) (u:starEach [a,b] X.env=[(false,eval a X.env),(false,eval b X.env)]:=by rfl) (c:starEach [b] X.env=[(false,eval b X.env)]:=by rfl) :
  PI X tg (.Call (.Name "range" p) [a,b] [] pos) (zn ta):=by
 intro pins s σ H R I h
 refine Call_ (fO I f hm boot_range (PyProof.Rows.callWith_type1 (thn (o pos pins s σ H _ I h) fun us s1 ⟨v,H1,m,g,d⟩=>?_) (by rw [u,c]) (by rw [c];rfl)))
 obtain ⟨i,j,e,⟨d,k,l,n⟩,q⟩:=d
 subst e
 cases g with
 | cons r rr =>
  cases rr with
  | cons r' rr =>
   cases rr
   obtain ⟨t,rfl⟩:=r
   obtain ⟨t',rfl⟩:=r'
   exact call_range_2 (nk m d k l n q)
def tFor (b:TI) (g:TG) (tb:TS):TS:=fun D σ H=>b σ H fun J H1=>∃ W:Nat->Nat->St->Hp->Prop,(∃ m,W 0 m σ H1)/\∀ i m σ H,W i m σ H ->
 (J.stop i H/\D.nx σ H)\/(J.go i H/\∃ N:St->Hp->Prop,(∀ σ' H',N σ' H'->∃ a,a < m/\W (i+1) a σ' H')/\∀ x H',J.yld i H x H'->g x σ H' fun σ2 H2=>tb { D with nx:=N,ct:=N,bk:=D.nx } σ2 H2)
def j4 (fp:List Addr) (h:Heap):List (Addr × Obj):=fp.filterMap fun b=>(h.get? b).map fun o=>(b,o)
theorem eP (a:b ∈ fp) (e:h.get? b=some o):(b,o) ∈ j4 fp h:=List.mem_filterMap.mpr ⟨b,a,by rw [e];rfl⟩
theorem sG (c:p ∈ j4 fp h):p.1 ∈ fp/\h.get? p.1=some p.2:=by
 obtain ⟨b,d,e⟩:=List.mem_filterMap.mp c
 cases q:h.get? b with
 | none=>rw [q] at e;cases e
 | some o =>
  rw [q] at e
  have a:(b,o)=p:=CS e
  subst a
  exact ⟨d,q⟩
theorem Inv.pinned (I:Inv X pins σ H s) (hf:∀ b ∈ fp,FpOk X pins H b) (f:∀ b ∈ fp,∃ o,s.heap.get? b=some o/\∀ v,o.data ≠ .cell v):Inv X (pins ++ j4 fp s.heap) σ H s :=
 I.pins_of fun p g=>(Cg.mp g).elim (fun z=>I.pin p (Cc _ z)) fun z=>by
  obtain ⟨a,e⟩:=sG z
  obtain ⟨f0,f1,f2,_⟩:=hf p.1 a
  obtain ⟨o,c,d⟩:=f p.1 a
  rw [e] at c;cases c
  exact ⟨e,f0,f1,f2,d⟩
theorem Inv.unpinned (I:Inv X (pins ++ pl) σ H s):Inv X pins σ H s:=I.pins_of fun p a=>I.pin p (Cc _ (Ca _ a))
theorem AJ (z:PassesOwn (model X.prog X.w) X.A X.env X.xe) (M:X.calm=true) (hi:PI X tg iter wi) (hg:PG X tg g) (c:PSs X body tb) (hs:∀ x,foldedSetIterable iter X.env x=pure x:=by intro _;rfl):PS X (.For tg iter body [] pos) (tFor wi g tb):=by
 intro pins s σ H D I h
 refine wpAny_For (thn (hi pins s σ H _ I h) fun v s1 h1=>thn h1 fun Y s2 h2=>?_) hs
 obtain ⟨it,fp,L,J,H2,e,I2,T,K,f2,W,⟨m0,w0⟩,turn⟩:=h2
 subst e
 have k:∀ {H':Hp},(∀ b ∈ fp,H' b=none)->∀ b ∈ fp,FpOk X pins H' b:=fun hn b c=>⟨hn b c,(f2 b c).2⟩
 refine codeAny_forLoop_any (fun n s'=>∃ i σ' H',Inv X pins σ' H' s'/\L i s'.heap/\(∀ b ∈ fp,H' b=none)/\W i n σ' H') ?_ m0 ⟨0,σ,H2,I2,K,fun b c=>(f2 b c).1,w0⟩
 rintro n s3 ⟨i,σ3,B,P,t,y,w3⟩
 rcases turn i n σ3 B w3 with ⟨stop,qn⟩ | ⟨go,N,hN,step⟩
 ·refine wpAny_passesOwn z (thn (T.done X rfl rfl rfl M i pins s3 σ3 B X.xe P (k y) t stop) fun r s4 ⟨F,I4⟩=>?_)
  subst F
  exact wpAny_execs_nil ⟨σ3,B,I4,qn⟩
 ·refine wpAny_passesOwn z (thn (T.item X rfl rfl rfl M i pins s3 σ3 B X.xe P (k y) t go) fun r s4 ⟨u,F,h4⟩=>?_)
  subst F
  refine wpAny_passesOwn z (thn h4 fun _ s5 ⟨x,O,I5,Q,U,p,E⟩=>?_)
  have G:=I5.pinned (k E) (T.obj _ _ p)
  refine wpAny_passesOwn z (thn (hg _ s5 σ3 O x u _ G Q (step x O U)) fun _ s6 ⟨σ6,H6,I6,Z⟩=>?_)
  refine wpAny_passesOwn z (thn (c _ s6 σ6 H6 _ I6 Z) fun f C l=>?_)
  have again:∀ {σ7:St} {a:Hp},Inv X (pins ++ j4 fp s5.heap) σ7 a C->N σ7 a->∃ m,m < n/\∃ i σ' H',Inv X pins σ' H' C/\L i C.heap/\(∀ b ∈ fp,H' b=none)/\W i m σ' H':=fun {σ7 a} j q=>by
   obtain ⟨R,hm,V⟩:=hN σ7 a q
   refine ⟨R,hm,i+1,σ7,a,j.unpinned,T.keep _ _ _ p fun b c o e=>(j.pin (b,o) (Cc _ (Cc _ (eP c e)))).1,fun b c=>?_,V⟩
   obtain ⟨o,e,d⟩:=T.obj _ _ p b c
   exact (j.pin (b,o) (Cc _ (Cc _ (eP c e)))).2.1
  cases f with
  | next=>obtain ⟨σ7,a,j,q⟩:=l;exact again j q
  | cont=>obtain ⟨σ7,a,j,q⟩:=l;exact again j q
  | brk=>obtain ⟨σ7,a,j,l⟩:=l;exact ⟨σ7,a,j.unpinned,l⟩
  | ret v=>obtain ⟨x7,σ7,a,j,S,l⟩:=l;exact ⟨x7,σ7,a,j.unpinned,S,l⟩
end
end L2
namespace L2
open PySem PySem.Spec PyProof.Rows
abbrev R2:=V->V->Hp->VK->Prop
def OpR (X:Cx) (f:Value->Value->Sem Value) (r:R2):Prop :=
 ∀ (pins:List (Addr × Obj)) (s:Shared) (σ:St) (H:Hp) (x y:V) (v u:Value) (Q:VK),Inv X pins σ H s->RelV x v->RelV y u->r x y H Q ->
  wpAny (model X.prog X.w) X.A (f v u) (EP X pins σ Q) X.xe s
def UnR (X:Cx) (f:Value->Sem Value) (r:V->Hp->VK->Prop):Prop :=
 ∀ (pins:List (Addr × Obj)) (s:Shared) (σ:St) (H:Hp) (x:V) (v:Value) (Q:VK),Inv X pins σ H s->RelV x v->r x H Q ->
  wpAny (model X.prog X.w) X.A (f v) (EP X pins σ Q) X.xe s
def bZ (X:Cx) (f:Value) (r:List V->Hp->VK->Prop):Prop :=
 ∀ (pins:List (Addr × Obj)) (s:Shared) (σ:St) (H:Hp) (xs:List V) (us:List Value) (Q:VK),Inv X pins σ H s->Vals xs us->r xs H Q ->
  wpAny (model X.prog X.w) X.A (call f us) (EP X pins σ Q) X.xe s
def tOp (r:R2) (ta tb:TE):TE:=fun σ H Q=>ta σ H fun x H1=>tb σ H1 fun y H2=>r x y H2 Q
def tUn (r:V->Hp->VK->Prop) (ta:TE):TE:=fun σ H Q=>ta σ H fun x H1=>r x H1 Q
def rI (C:Int->Int->Prop) (g:Int->Int->V):R2:=fun x y H Q=>∃ i j,x=.int i/\y=.int j/\C i j/\Q (g i j) H
def rI0 (g:Int->Int->V):R2:=fun x y H Q=>∃ i j,x=.int i/\y=.int j/\Q (g i j) H
def rU (g:Int->V):V->Hp->VK->Prop:=fun x H Q=>∃ i,x=.int i/\Q (g i) H
section
variable {X:Cx} {a b c:Expr} {ta tb tc:TE} {pos:Pos}
theorem BT (n:PE X a ta) (j:PE X b tb) {R:V->V->Hp->Prop} (I:Inv X pins σ H s) (h:ta σ H fun x H1=>tb σ H1 fun y H2=>R x y H2) {f:Value->Value->Sem Value} (hf:∀ v u s2 x y H2,Inv X pins σ H2 s2->RelV x v->RelV y u->R x y H2->wpAny (model X.prog X.w) X.A (f v u) Q X.xe s2) :
  wpAny (model X.prog X.w) X.A (eval a X.env) (fun v k=>wpAny (model X.prog X.w) X.A (eval b X.env) (fun u l=>wpAny (model X.prog X.w) X.A (f v u) Q X.xe l) X.xe k) X.xe s:=by
 refine thn (n pins s σ H _ I h) fun v s1 ⟨x,H1,i,c,m⟩=>?_
 refine thn (j pins s1 σ H1 _ i m) fun u s2 ⟨y,H2,e,g,d⟩=>?_
 exact hf v u s2 x y H2 e c g d
theorem pe_op (c:OpR X (binaryOp op) r) (i:PE X a ta) (g:PE X b tb):PE X (.BinOp a op b pos) (tOp r ta tb):=by
 intro pins s σ H Q I h
 exact wpAny_BinOp (BT i g I h fun v u s2 x y H2 e f d q=>c pins s2 σ H2 x y v u Q e f d q)
theorem pe_un (b:UnR X (unaryOp op) r) (e:PE X a ta):PE X (.UnaryOp op a pos) (tUn r ta):=by
 intro pins s σ H Q I h
 exact UnaryOp_ (thn (e pins s σ H _ I h) fun v s1 ⟨x,H1,f,c,d⟩=>b pins s1 σ H1 x v Q f c d)
theorem opI {g:Int->Int->Int} (rule:∀ (i j:Int) (t u:Tok) (s:Shared) (Q:Value->Shared->Prop) (E:Value->Shared->Prop),C i j->Q (.int (g i j) s.toks) { s with toks:=s.toks+1 }->wpAny (model X.prog X.w) X.A (f (.int i t) (.int j u)) Q E s) :
  OpR X f (rI C fun i j=>.int (g i j)):=by
 intro pins s σ H x y v u Q I c a h
 obtain ⟨i,j,rfl,rfl,b,q⟩:=h
 obtain ⟨t,rfl⟩:=c
 obtain ⟨t',rfl⟩:=a
 exact rule i j t t' s _ _ b ⟨.int (g i j),H,I.tok _,⟨_,rfl⟩,q⟩
theorem opI0 {g:Int->Int->Int} (rule:∀ (i j:Int) (t u:Tok) (s:Shared) (Q:Value->Shared->Prop) (E:Value->Shared->Prop),Q (.int (g i j) s.toks) { s with toks:=s.toks+1 }->wpAny (model X.prog X.w) X.A (f (.int i t) (.int j u)) Q E s) :
  OpR X f (rI0 fun i j=>.int (g i j)):=by
 intro pins s σ H x y v u Q I b a h
 obtain ⟨i,j,rfl,rfl,q⟩:=h
 obtain ⟨t,rfl⟩:=b
 obtain ⟨t',rfl⟩:=a
 exact rule i j t t' s _ _ ⟨.int (g i j),H,I.tok _,⟨_,rfl⟩,q⟩
theorem yg {g:Int->Int->Bool} (rule:∀ (i j:Int) (t u:Tok) (s:Shared) (Q:Value->Shared->Prop) (E:Value->Shared->Prop),Q (.bool (g i j)) s->wpAny (model X.prog X.w) X.A (f (.int i t) (.int j u)) Q E s) :
  OpR X f (rI0 fun i j=>.bl (g i j)):=by
 intro pins s σ H x y v u Q I b a h
 obtain ⟨i,j,rfl,rfl,q⟩:=h
 obtain ⟨t,rfl⟩:=b
 obtain ⟨t',rfl⟩:=a
 exact rule i j t t' s _ _ ⟨.bl (g i j),H,I,rfl,q⟩
def t4 (i j:Int):Prop:=0 < j/\j < 1073741824
def wN (i j:Int):Prop:=0<=j/\j<=1000000/\i.natAbs < 2 ^ 64
def CMul (i j:Int):Prop:=(-(2 ^ 64) < i/\i < 2 ^ 64)\/(-(2 ^ 64) < j/\j < 2 ^ 64)
theorem CMul.ok {i j:Int} (h:CMul i j):IntMulOk i j:=by
 rcases h with ⟨h1,h2⟩ | ⟨h1,h2⟩
 ·exact .of_left (intBits_le_64 h1 h2)
 ·exact .of_right (intBits_le_64 h1 h2)
theorem op_add:OpR X (binaryOp .Add) (rI0 fun i j=>.int (i+j)):=opI0 fun _ _ _ _ _ _ _ q=>add_int q
theorem AU:OpR X (binaryOp .Sub) (rI0 fun i j=>.int (i - j)):=opI0 fun _ _ _ _ _ _ _ q=>sub_int q
theorem AX:OpR X (binaryOp .Mult) (rI CMul fun i j=>.int (i * j)):=opI fun _ _ _ _ _ _ _ a q=>mul_int q a.ok
theorem AY:OpR X (binaryOp .Mod) (rI (fun _ j=>0 < j) fun i j=>.int (i % j)):=opI fun i j _ _ _ _ _ a q=>by
 have h1:(0:Int) < j:=a
 exact mod_int' (by omega) (by rw [Int.fmod_eq_emod_of_nonneg i (by omega)];exact q)
theorem AV:OpR X (binaryOp .Pow) (rI wN fun i j=>.int (i ^ j.toNat)):=opI fun _ _ _ _ _ _ _ a q=>pow_int_small a.1 a.2.1 a.2.2 q
theorem unI {g:Int->Int} (rule:∀ (i:Int) (t:Tok) (s:Shared) (Q:Value->Shared->Prop) (E:Value->Shared->Prop),Q (.int (g i) s.toks) { s with toks:=s.toks+1 }->wpAny (model X.prog X.w) X.A (f (.int i t)) Q E s) :
  UnR X f (rU fun i=>.int (g i)):=by
 intro pins s σ H x v Q I a h
 obtain ⟨i,rfl,q⟩:=h
 obtain ⟨t,rfl⟩:=a
 exact rule i t s _ _ ⟨.int (g i),H,I.tok _,⟨_,rfl⟩,q⟩
theorem zy:UnR X (unaryOp .USub) (rU fun i=>.int (-i)):=unI fun _ _ _ _ _ q=>neg_int q
end
def z5:V->V->Bool
 | .non,.non=>true | .non,.int _=>true | .int _,.non=>true | .non,.bl _=>true | .bl _,.non=>true | .non,.str _=>true | .str _,.non=>true
 | .int _,.int _=>true | .bl _,.bl _=>true | .str _,.str _=>true | .byt _,.byt _=>true
 | .int _,.str _=>true | .str _,.int _=>true | .bl _,.str _=>true | .str _,.bl _=>true
 | _,_=>false
def rEq:R2:=fun x y H Q=>z5 x y=true/\Q (.bl (decide (x=y))) H
def rNe:R2:=fun x y H Q=>z5 x y=true/\Q (.bl (!decide (x=y))) H
theorem rJ {i j:Int}:decide (V.int i=V.int j)=(i == j):=by
 rw [Bool.eq_iff_iff]
 simp
theorem wr:decide (V.bl i=V.bl j)=(i == j):=by
 rw [Bool.eq_iff_iff]
 simp
theorem rH:decide (V.str i=V.str j)=(i == j):=by
 rw [Bool.eq_iff_iff]
 simp
theorem rK:decide (V.byt i=V.byt j)=(i.toList == j.toList):=by
 rw [Bool.eq_iff_iff]
 cases i
 cases j
 simp
section
variable {X:Cx} {a b c:Expr} {ta tb tc:TE} {pos:Pos}
theorem aK (I:Inv X pins σ H s) (q:Q (.bl k) H) (e:k=k'):EP X pins σ Q (.bool k') s:=by
 subst e
 exact ⟨.bl k,H,I,rfl,q⟩
theorem op_eq:OpR X (compareOp .Eq) rEq:=by
 intro pins s σ H x y v u Q I c a h
 obtain ⟨b,q⟩:=h
 cases x with
 | non =>
  cases c
  cases y with
  | non=>cases a;exact PySem.EqNone.eq_none_none (aK I q (by simp))
  | bl j=>cases a;exact PySem.EqNone.eq_none_bool (aK I q (by simp))
  | int j=>obtain ⟨t',rfl⟩:=a;exact PySem.EqNone.eq_none_int (aK I q (by simp))
  | str j=>obtain ⟨t',rfl⟩:=a;exact PySem.EqNone.eq_none_str (aK I q (by simp))
  | _=>exact absurd (show false=true from b) Cp
 | bl i =>
  cases c
  cases y with
  | non=>cases a;exact PySem.EqNone.eq_bool_none (aK I q (by simp))
  | bl j=>cases a;exact eq_bool (aK I q wr)
  | str j=>obtain ⟨t',rfl⟩:=a;exact PySem.EqMixed.eq_bool_str (aK I q (by simp))
  | _=>exact absurd (show false=true from b) Cp
 | int i =>
  obtain ⟨t,rfl⟩:=c
  cases y with
  | non=>cases a;exact PySem.EqNone.eq_int_none (aK I q (by simp))
  | int j=>obtain ⟨t',rfl⟩:=a;exact eq_int (aK I q rJ)
  | str j=>obtain ⟨t',rfl⟩:=a;exact PySem.EqMixed.eq_int_str (aK I q (by simp))
  | _=>exact absurd (show false=true from b) Cp
 | str i =>
  obtain ⟨t,rfl⟩:=c
  cases y with
  | non=>cases a;exact PySem.EqNone.eq_str_none (aK I q (by simp))
  | bl j=>cases a;exact PySem.EqMixed.eq_str_bool (aK I q (by simp))
  | int j=>obtain ⟨t',rfl⟩:=a;exact PySem.EqMixed.eq_str_int (aK I q (by simp))
  | str j=>obtain ⟨t',rfl⟩:=a;exact eq_str (aK I q rH)
  | _=>exact absurd (show false=true from b) Cp
 | byt i =>
  obtain ⟨t,rfl⟩:=c
  cases y with
  | byt j=>obtain ⟨t',rfl⟩:=a;exact PySem.W.eq_bytes (aK I q rK)
  | _=>exact absurd (show false=true from b) Cp
 | _=>cases y <;> exact absurd (show false=true from b) Cp
theorem op_ne:OpR X (compareOp .NotEq) rNe:=by
 intro pins s σ H x y v u Q I c a h
 obtain ⟨b,q⟩:=h
 cases x with
 | non =>
  cases c
  cases y with
  | non=>cases a;exact PySem.EqNone.ne_none_none (aK I q (by simp))
  | bl j=>cases a;exact PySem.EqNone.ne_none_bool (aK I q (by simp))
  | int j=>obtain ⟨t',rfl⟩:=a;exact PySem.EqNone.ne_none_int (aK I q (by simp))
  | str j=>obtain ⟨t',rfl⟩:=a;exact PySem.EqNone.ne_none_str (aK I q (by simp))
  | _=>exact absurd (show false=true from b) Cp
 | bl i =>
  cases c
  cases y with
  | non=>cases a;exact PySem.EqNone.ne_bool_none (aK I q (by simp))
  | bl j=>cases a;exact ne_bool (aK I q (congrArg not wr))
  | str j=>obtain ⟨t',rfl⟩:=a;exact PySem.EqMixed.ne_bool_str (aK I q (by simp))
  | _=>exact absurd (show false=true from b) Cp
 | int i =>
  obtain ⟨t,rfl⟩:=c
  cases y with
  | non=>cases a;exact PySem.EqNone.ne_int_none (aK I q (by simp))
  | int j=>obtain ⟨t',rfl⟩:=a;exact ne_int (aK I q (congrArg not rJ))
  | str j=>obtain ⟨t',rfl⟩:=a;exact PySem.EqMixed.ne_int_str (aK I q (by simp))
  | _=>exact absurd (show false=true from b) Cp
 | str i =>
  obtain ⟨t,rfl⟩:=c
  cases y with
  | non=>cases a;exact PySem.EqNone.ne_str_none (aK I q (by simp))
  | bl j=>cases a;exact PySem.EqMixed.ne_str_bool (aK I q (by simp))
  | int j=>obtain ⟨t',rfl⟩:=a;exact PySem.EqMixed.ne_str_int (aK I q (by simp))
  | str j=>obtain ⟨t',rfl⟩:=a;exact ne_str (aK I q (congrArg not rH))
  | _=>exact absurd (show false=true from b) Cp
 | byt i =>
  obtain ⟨t,rfl⟩:=c
  cases y with
  | byt j=>obtain ⟨t',rfl⟩:=a;exact PySem.W.ne_bytes (aK I q (congrArg not rK))
  | _=>exact absurd (show false=true from b) Cp
 | _=>cases y <;> exact absurd (show false=true from b) Cp
theorem q5:OpR X (compareOp .Lt) (rI0 fun i j=>.bl (decide (i < j))):=yg fun _ _ _ _ _ _ _ q=>lt_int q
theorem ld:OpR X (compareOp .LtE) (rI0 fun i j=>.bl (decide (i<=j))):=yg fun _ _ _ _ _ _ _ q=>le_int q
theorem ze:OpR X (compareOp .Gt) (rI0 fun i j=>.bl (decide (j < i))):=yg fun _ _ _ _ _ _ _ q=>gt_int q
theorem op_ge:OpR X (compareOp .GtE) (rI0 fun i j=>.bl (decide (j<=i))):=yg fun _ _ _ _ _ _ _ q=>ge_int q
theorem AZ : OpR X (compareOp .Is) (fun x y H Q => y = .non /\ Q (.bl (decide (x = .non))) H) := by
  intro pins s σ H x y v u Q I a b h
  obtain ⟨rfl, q⟩ := h
  cases b
  refine is_none_gen (aK I q ?_)
  cases x <;> first
    | (cases a; rfl)
    | (obtain ⟨t, rfl⟩ := a; rfl)
theorem OpR.or (h:OpR X f r) (h':OpR X f r'):OpR X f (fun x y H Q=>r x y H Q\/r' x y H Q):=by
 intro pins s σ H x y v u Q I b a q
 rcases q with q | q
 ·exact h pins s σ H x y v u Q I b a q
 ·exact h' pins s σ H x y v u Q I b a q
theorem eO (b : Expr) (h : op ≠ .In := by decide) (h2 : op ≠ .NotIn := by decide) : behindInMarks op b = false := by
  have e1 : (op == CmpOp.In) = false := by cases op <;> first | rfl | exact absurd rfl h
  have a : (op == CmpOp.NotIn) = false := by cases op <;> first | rfl | exact absurd rfl h2
  cases b <;> simp [behindInMarks, e1, a]
theorem x5 (c:OpR X (compareOp op) r) (i:PE X a ta) (g:PE X b tb) (hm:behindInMarks op b=false):PE X (.Compare a [op] [b] pos) (tOp r ta tb):=by
 intro pins s σ H Q I h
 exact wpAny_Compare1 (BT i g I h fun v u s2 x y H2 e f d q=>c pins s2 σ H2 x y v u Q e f d q) hm
def tTest (t:TE):TT:=fun σ H Q=>t σ H fun x H'=>∃ k,x=.bl k/\Q k H'
theorem xO (d:OpR X (compareOp op) r) (w:PE X a ta) (n:PE X b tb) (hm:behindInMarks op b=false):PT X (.Compare a [op] [b] pos) (tTest (tOp r ta tb)):=by
 intro pins s σ H Q I h
 refine wpAny_isTrue_Compare1 (thn (w pins s σ H _ I h) fun v s1 ⟨x,H1,m,f,q⟩=>thn (n pins s1 σ H1 _ m q) fun u s2 ⟨y,H2,j,l,g⟩ =>
  thn (d pins s2 σ H2 x y v u _ j f l g) fun c s3 ⟨z,o,p,t,k,e,i⟩=>?_) hm
 subst e
 cases t
 exact CM ⟨o,p,i⟩
def pe (r c:R2) (ta tb tc:TE):TE:=fun σ H Q=>ta σ H fun x H1=>tb σ H1 fun y H2=>r x y H2 fun z a=>∃ k,z=.bl k /\
 (if k=true then tc σ a fun d b=>c y d b Q else Q (.bl false) a)
theorem nC (m:OpR X (compareOp op) r) (f:OpR X (compareOp op') r') (G:PE X a ta) (t:PE X b tb) (A:PE X c tc) (hm:lastMarks [op,op'] [b,c]=false:=by with_unfolding_all rfl):PE X (.Compare a [op,op'] [b,c] pos) (pe r r' ta tb tc):=by
 intro pins s σ H Q I h
 refine Compare_chain (thn (G pins s σ H _ I h) fun v s1 ⟨x,H1,D,n,p⟩=>chain_link (thn (t pins s1 σ H1 _ D p) fun u s2 ⟨y,H2,C,i,w⟩ =>
  thn (m pins s2 σ H2 x y v u _ C n i w) fun d s3 ⟨z,j,l,q,k,e,g⟩=>?_)) hm
 subst e
 cases q
 refine CM ?_
 cases k with
 | false=>exact ite_ff ⟨.bl false,j,l,rfl,g⟩
 | true=>exact ite_tt (chain_last (thn (A pins s3 σ j _ l g) fun J s4 ⟨K,E,o,B,F⟩=>f pins s4 σ E y K u J Q o i B F))
theorem mf:(sizeLine:Nat) < 2 ^ 63:=by rw [sizeLine_eq];decide
theorem op_add_str:OpR X (binaryOp .Add) (fun x y H Q=>∃ i j,x=.str i/\y=.str j/\i.length+j.length<=sizeLine/\Q (.str (i ++ j)) H):=by
 intro pins s σ H x y v u Q I b a h
 obtain ⟨i,j,rfl,rfl,hz,q⟩:=h
 obtain ⟨t,rfl⟩:=b
 obtain ⟨t',rfl⟩:=a
 exact add_str (fun t' tk=>⟨.str (i ++ j),H,I.tok _,⟨_,rfl⟩,q⟩) hz
theorem dj (r:Vals [x] us):∃ u,us=[u]/\RelV x u:=by
 cases r with
 | cons r1 r2=>cases r2;exact ⟨_,rfl,r1⟩
theorem kS (r:Vals [x,y] us):∃ u a,us=[u,a]/\RelV x u/\RelV y a:=by
 cases r with
 | cons r1 r2 =>
  cases r2 with
  | cons r3 r4=>cases r4;exact ⟨_,_,rfl,r1,r3⟩
theorem wA:bZ X (.builtin "abs") (fun xs H Q=>∃ i,xs=[.int i]/\Q (.int (if i < 0 then -i else i)) H):=by
 intro pins s σ H xs us Q I r h
 obtain ⟨i,rfl,q⟩:=h
 obtain ⟨u,rfl,t,rfl⟩:=dj r
 exact call_abs_int fun u tk=>⟨.int (if i < 0 then -i else i),H,I.tok _,⟨_,rfl⟩,q⟩
theorem tJ (b:X.calm=true):bZ X (.builtin "max") (fun xs H Q=>∃ i j,xs=[.int i,.int j]/\Q (.int (if j > i then j else i)) H):=by
 intro pins s σ H xs us Q I r h
 obtain ⟨i,j,rfl,q⟩:=h
 obtain ⟨u,c,rfl,⟨t,rfl⟩,⟨t',rfl⟩⟩:=kS r
 refine max_two_ints (I.ok.hd b) fun h' tk k=>⟨_,H,I.kept k,?_,q⟩
 by_cases a:j > i
 ·rw [if_pos a,if_pos a];exact ⟨_,rfl⟩
 ·rw [if_neg a,if_neg a];exact ⟨_,rfl⟩
theorem tH (b:X.calm=true):bZ X (.builtin "min") (fun xs H Q=>∃ i j,xs=[.int i,.int j]/\Q (.int (if j < i then j else i)) H):=by
 intro pins s σ H xs us Q I r h
 obtain ⟨i,j,rfl,q⟩:=h
 obtain ⟨u,c,rfl,⟨t,rfl⟩,⟨t',rfl⟩⟩:=kS r
 refine min_two_ints (I.ok.hd b) fun h' tk k=>⟨_,H,I.kept k,?_,q⟩
 by_cases a:j < i
 ·rw [if_pos a,if_pos a];exact ⟨_,rfl⟩
 ·rw [if_neg a,if_neg a];exact ⟨_,rfl⟩
theorem oN:bZ X (.builtin "divmod") (fun xs H Q=>∃ i j,xs=[.int i,.int j]/\t4 i j/\∀ p,H p=none->Q (.ref p) (upd H p (.tup [.int (i / j),.int (i % j)]))):=by
 intro pins s σ H xs us Q I r h
 obtain ⟨i,j,rfl,⟨h1,h2⟩,q⟩:=h
 obtain ⟨u,c,rfl,⟨t,rfl⟩,⟨t',rfl⟩⟩:=kS r
 refine divmod_int (by omega) ?_ (.inl (PyProof.noPylong_small (by omega)))
 rw [Int.fdiv_eq_ediv_of_nonneg i (by omega),Int.fmod_eq_emod_of_nonneg i (by omega)]
 have a:H s.heap.objs.size=none:=I.hok.fresh (Co _)
 refine ⟨.ref s.heap.objs.size,_,?_,rfl,q _ a⟩
 refine I.laid (fun b o e=>B8 _ e) (Co _) ⟨by simp only [CA,List.length_nil];rw [sizeLine_eq];decide,[.int (i / j) s.toks,.int (i % j) (s.toks+1)],.cons ⟨_,rfl⟩ (.cons ⟨_,rfl⟩ .nil),?_⟩
 exact ⟨_,Ch s.heap rfl,rfl,0,rfl⟩
end
end L2
namespace L2
open PySem PySem.Spec PyProof.Rows
theorem RelO.some_of (r:RelO (some v) o):∃ u,o=some u/\RelV v u:=by
 cases o with
 | none=>exact (show False from r).elim
 | some u=>exact ⟨u,rfl,r⟩
end L2
namespace L2
open PySem PySem.Spec PyProof.Rows
structure Room (k:Nat) (A:Around):Prop where
 hd:A.handled=none
 dp:A.depth+3 * k+5 < recursionLimit
 un:A.units+16 * k+200 < cLine
 gd:A.guards=some []
theorem Room.mono {j k:Nat} (r:Room k A) (h:j<=k):Room j A:=⟨r.hd,by have:=r.dp;omega,by have:=r.un;omega,r.gd⟩
theorem Room.deeper {k:Nat} (r:Room (k+1) A) (env:Env):Room k (A.deeper env) :=
 ⟨r.hd,by have:=r.dp;show A.depth+1+3 * k+5 < _;omega,by have:=r.un;show A.units+3+16 * k+200 < _;omega,r.gd⟩
theorem Room.depth {k:Nat} (r:Room k A):A.depth < recursionLimit:=by have:=r.dp;omega
theorem Room.units {k:Nat} (r:Room k A):A.units+64 < cLine:=by have:=r.un;omega
def tNil:TA:=fun _ H Q=>Q [] H
def yZ (ta:TE) (a:TA):TA:=fun σ H Q=>ta σ H fun x H1=>a σ H1 fun xs H2=>Q (x :: xs) H2
section
variable {X:Cx} {e:Expr} {es:List Expr} {te:TE} {t:TA} {pos:Pos}
theorem j5:PA X [] tNil:=fun _ _ _ _ H Q I h=>Calls.spliced_nil ⟨[],H,I,.nil,h⟩
theorem gf (j:PE X e te) (f:PA X es t) (k:starEach (e :: es) X.env=(false,eval e X.env) :: starEach es X.env:=by rfl):PA X (e :: es) (yZ te t):=by
 intro pos pins s σ H Q I h
 rw [k]
 show wpAny _ _ (spliced ((false,eval e X.env) :: backTo pos (starEach es X.env))) _ _ s
 refine Calls.spliced_cons (thn (j pins s σ H _ I h) fun u s1 ⟨x,H1,g,a,i⟩=>?_)
 exact thn (f pos pins s1 σ H1 _ g i) fun us s2 ⟨xs,H2,c,d,b⟩=>⟨x :: xs,H2,c,.cons a d,b⟩
def tTup (t:TA):TE:=fun σ H Q=>t σ H fun xs H1=>xs.length<=sizeLine/\∀ p,H1 p=none->Q (.ref p) (upd H1 p (.tup xs))
def tLst (t:TA):TE:=fun σ H Q=>t σ H fun xs H1=>xs.length<=sizeLine/\∀ p,H1 p=none->Q (.ref p) (upd H1 p (.lst xs))
theorem vf (h:PA X es t):PE X (.Tuple es x1 pos) (tTup t):=by
 intro pins s σ H Q I c
 refine wpAny_Tuple_spliced (thn (h pos pins s σ H _ I c) fun us s1 ⟨xs,H1,a,r,z,q⟩=>⟨by rw [<- r.length];exact z,?_⟩)
 have hf:H1 s1.heap.objs.size=none:=a.hok.fresh (Co _)
 refine ⟨.ref s1.heap.objs.size,upd H1 s1.heap.objs.size (.tup xs),a.laid (t':=s1.toks) (fun b u e=>B8 _ e) (Co _) ?_,rfl,q _ hf⟩
 exact ⟨z,us,r,⟨_,Ch _ rfl,rfl,_,rfl⟩⟩
theorem AO (h:PA X es t):PE X (.List es pos) (tLst t):=by
 intro pins s σ H Q I c
 refine wpAny_List_spliced (thn (h pos pins s σ H _ I c) fun us s1 ⟨xs,H1,a,r,z,q⟩=>⟨by rw [<- r.length];exact z,?_⟩)
 have hf:H1 s1.heap.objs.size=none:=a.hok.fresh (Co _)
 refine ⟨.ref s1.heap.objs.size,upd H1 s1.heap.objs.size (.lst xs),a.laid (t':=s1.toks) (fun b u e=>B8 _ e) (Co _) ?_,rfl,q _ hf⟩
 exact ⟨z,us,0,r,Ch _ rfl⟩
end
abbrev Sp:=List V->Hp->VK->XK->Prop
abbrev CXT:=List Env->Hp->Shared->XK->Value->Shared->Prop
structure Env0 (P:Program) (w:World) (K:FG) (mg:Str->Option Value) (base:Heap) (A:Around) (outer:List Env) (s:Shared) (H:Hp):Prop where
 frames:A.frames=some outer
 mod:Mod K mg base
 bs:∀ b o,base.get? b=some o->s.heap.get? b=some o/\H b=none
 bsz:base.objs.size<=s.heap.objs.size
 funs:s.heap.FunFrames base outer
 frf:∀ b ∈ frs outer,H b=none
 hok:HOk P w H s.heap
 bare:AllBare s.gens
def CE (outer:List Env) (P:Program) (w:World) (H:Hp) (s:Shared) (Q:VK) (u:Value) (s':Shared):Prop :=
 ∃ v H',s'.os=s.os/\AllBare s'.gens/\Un (frs outer) [] H H' s.heap s'.heap/\HOk P w H' s'.heap/\RelV v u/\Q v H'
def CR (CX:CXT) (outer:List Env) (P:Program) (w:World) (H:Hp) (s:Shared) (Q:VK) (E:XK) (r:Result) (s':Shared):Prop :=
 match r with
 | .ok (.ret u)=>CE outer P w H s Q u s'
 | .ok _=>False
 | .error e=>CX outer H s E e s'
structure FnOk (P:Program) (w:World) (K:FG) (mg:Str->Option Value) (base:Heap) (CX:CXT) (k:Nat) (f:Addr) (fd:FuncData) (ps:List Str) (sp:Sp):Prop where
 len:∀ vs H Q E,sp vs H Q E->vs.length=ps.length
 run:∀ (A:Around) (outer:List Env) (s:Shared) (H:Hp) (args:Args) (us:List Value) (vs:List V) (Q:VK) (E:XK),Room k A->Env0 P w K mg base A outer s H->BindsTo s fd args (ps.zip us)->Vals vs us->sp vs H Q E ->
  codeAny (model P w) A (.call (.ref f) args) (CR CX outer P w H s Q E) s
theorem FnOk.imp {K:FG} {k:Nat} (F:FnOk P w K mg base CX k f fd ps sp) (h:∀ a H Q E,sp' a H Q E->sp a H Q E):FnOk P w K mg base CX k f fd ps sp' :=
 ⟨fun a H Q E q=>F.len a H Q E (h _ _ _ _ q),fun A outer s H args us a Q E b he d c e=>F.run A outer s H args us a Q E b he d c (h _ _ _ _ e)⟩
section
variable {X:Cx} {pins:List (Addr × Obj)} {σ:St} {H:Hp} {s s':Shared}
theorem Inv.env0 (I:Inv X pins σ H s):Env0 X.prog X.w X.K X.mg X.base X.A X.stack s H :=
 ⟨I.ok.frames,I.ok.mod,I.bs,CN I.ok.bsz I.sz,I.stack,I.stkFree,I.hok,I.bare⟩
theorem Inv.after (I:Inv X pins σ H s) (h:CE X.stack X.prog X.w H s Q u s'):EP X pins σ Q u s':=by
 obtain ⟨v,H',os,bare,un,hok,r,q⟩:=h
 obtain ⟨c,g,d,t,a⟩:=s'
 obtain rfl:a=s.os:=os
 exact ⟨v,H',I.call (h':=c) (g':=g) (d':=d) (t':=t) (ch:=[]) un hok bare (fun b z=>absurd z (by simp)),r,q⟩
end
def tCall (sp:Sp) (dvs:List V) (E:XK) (t:TA):TE:=fun σ H Q=>t σ H fun a H1=>sp (a ++ dvs) H1 Q E
def Binds (K:FG) (fd:FuncData) (ps:List Str) (ds:List Value):Prop :=
 ∀ (s:Shared) (us:List Value),K.In s.heap->(us ++ ds).length=ps.length->BindsTo s fd ⟨us,[]⟩ (ps.zip (us ++ ds))
theorem Binds.all {K:FG} (h:∀ us:List Value,us.length=ps.length->bindArgs fd ⟨us,[]⟩=pure (ps.zip us)):Binds K fd ps []:=fun s us _ a=>by
 rw [List.append_nil] at a ⊢
 exact .of_eq (h us a)
def qI (CX:CXT) (X:Cx) (E:XK):Prop:=∀ (pins:List (Addr × Obj)) (σ:St) (H:Hp) (s:Shared) (e:Value) (s':Shared),Inv X pins σ H s->CX X.stack H s E e s'->X.xe e s'
section
variable {X:Cx} {CX:CXT} {k:Nat} {f C:Addr} {fd:FuncData} {ps:List Str} {sp:Sp} {dvs:List V} {ds:List Value} {E:XK} {x m:Str} {p pos apos:Pos} {e o:Expr} {es:List Expr} {ta:TE} {t:TA}
theorem Ac (F:FnOk X.prog X.w X.K X.mg X.base CX k f fd ps sp) (i:Room k X.A) (d:Binds X.K fd ps ds) (hd:Vals dvs ds) (c:qI CX X E) (I:Inv X pins σ H s) (r:Vals vs us) (h:sp (vs ++ dvs) H Q E):wpAny (model X.prog X.w) X.A (call (.ref f) us) (EP X pins σ Q) X.xe s:=by
 have b:Vals (vs ++ dvs) (us ++ ds):=r.append hd
 have g:(us ++ ds).length=ps.length:=by rw [<- b.length];exact F.len _ _ _ _ h
 refine wpAny_call (codeAny_mono (F.run X.A X.stack s H ⟨us,[]⟩ (us ++ ds) (vs ++ dvs) Q E i I.env0 (d s us I.kIn g) b h) fun r s' a=>?_)
 cases r with
 | error e=>exact c pins σ H s e s' I a
 | ok fl =>
  cases fl with
  | ret u=>exact I.after a
  | next=>exact False.elim a
  | brk=>exact False.elim a
  | cont=>exact False.elim a
theorem x6 (F:FnOk X.prog X.w X.K X.mg X.base CX k f fd ps sp) (j:Room k X.A) (g:Gl X x) (hm:X.mg x=some (.ref f)) (i:PySem.W.keepIn X.K (.ref f)=true) (m:Binds X.K fd ps ds) (hd:Vals dvs ds) (d:qI CX X E)
  (l:PA X (e :: es) t) (b:(x == ("__debug__":Str))=false:=by decide) (he:starEach (e :: es) X.env=(false,eval e X.env) :: starEach es X.env:=by rfl) (a:(backTo pos (starEach es X.env)).any (·.1)=false:=by rfl) :
  PE X (.Call (.Name x p) (e :: es) [] pos) (tCall sp dvs E t):=by
 intro pins s σ H Q I h
 refine wpAny_Call_Name_kw (rj I g hm ?_ b)
 refine PySem.W.callWith_K (h₀:=X.base) I.ok.mod.kin i (thn (l pos pins s σ H _ I h) fun us s1 ⟨n,H1,c,r,q⟩=>⟨c.kIn,?_⟩) he a
 exact Ac F j m hd d c r q
end
structure FnScope (N P:List Str) (sc:Scope):Prop where
 kind:sc.kind=.function
 co:sc.isCoroutine=false
 gen:sc.isGenerator=false
 nd:N.Nodup
 pre:N.take P.length=P
 par:∀ x ∈ P,sc.names.lookup x=some .local\/sc.names.lookup x=some .cell
 nofree:∀ y ∈ sc.names,y.2 ≠ .free
theorem lB {kindOf:Str->Option NameKind}:∀ {binds:List (Str × Value)} {m:Str->Option Value},(∀ v,(x,v) ∉ binds)->bindL kindOf binds m x=m x
 | [],_,_=>rfl
 | (n,v) :: r,m,h=>by
  unfold bindL
  rw [lB fun w hw=>h w (B7 _ hw)]
  split
  ·have:x ≠ n:=by rintro rfl;exact h v B6
   simp [this]
  ·rfl
theorem lD {kindOf:Str->Option NameKind}:∀ {binds:List (Str × Value)} {m:Str->Option Value},(∀ v,(x,v) ∉ binds)->bindC kindOf binds m x=m x
 | [],_,_=>rfl
 | (n,v) :: r,m,h=>by
  unfold bindC
  rw [lD fun w hw=>h w (B7 _ hw)]
  split
  ·rfl
  ·have:x ≠ n:=by rintro rfl;exact h v B6
   simp [this]
theorem lC {kindOf:Str->Option NameKind}:∀ {P:List Str} {a:List Value} {i:Nat} {m:Str->Option Value},P.Nodup->P[i]?=some x->a[i]?=some v->kindOf x=some .local ->
  bindL kindOf (P.zip a) m x=some v
 | [],_,_,_,_,h,_,_=>by simp at h
 | _ :: _,[],_,_,_,_,h,_=>by simp at h
 | p :: P,w :: a,0,m,nd,h1,h2,hk=>by
  simp at h1 h2;subst h1;subst h2
  show bindL kindOf ((p,w) :: P.zip a) m p=_
  unfold bindL
  rw [lB fun v b=>(List.nodup_cons.mp nd).1 (List.of_mem_zip b).1,if_pos hk]
  simp
 | p :: P,w :: a,i+1,m,nd,h1,h2,hk=>by
  show bindL kindOf ((p,w) :: P.zip a) m x=_
  unfold bindL
  exact lC (i:=i) (List.nodup_cons.mp nd).2 (by simpa using h1) (by simpa using h2) hk
theorem lE {kindOf:Str->Option NameKind}:∀ {P:List Str} {a:List Value} {i:Nat} {m:Str->Option Value},P.Nodup->P[i]?=some x->a[i]?=some v->kindOf x ≠ some .local ->
  bindC kindOf (P.zip a) m x=some v
 | [],_,_,_,_,h,_,_=>by simp at h
 | _ :: _,[],_,_,_,_,h,_=>by simp at h
 | p :: P,w :: a,0,m,nd,h1,h2,hk=>by
  simp at h1 h2;subst h1;subst h2
  show bindC kindOf ((p,w) :: P.zip a) m p=_
  unfold bindC
  rw [lD fun v b=>(List.nodup_cons.mp nd).1 (List.of_mem_zip b).1,if_neg hk]
  simp
 | p :: P,w :: a,i+1,m,nd,h1,h2,hk=>by
  show bindC kindOf ((p,w) :: P.zip a) m x=_
  unfold bindC
  exact lE (i:=i) (List.nodup_cons.mp nd).2 (by simpa using h1) (by simpa using h2) hk
def jo (N:List Str) (a:List V):St:=a.map some ++ List.replicate (N.length - a.length) none
def oB (CX:CXT) (P:Program) (w:World) (K:FG) (mg:Str->Option Value) (base:Heap) (N:List Str) (qual:Str) (scope:Scope) (f:Addr) (cd:Value) (A:Around) (outer:List Env) (s:Shared) (H:Hp) (E:XK):Cx where
 prog:=P
 w:=w
 K:=K
 mg:=mg
 base:=base
 A:=A.deeper (envOfC qual scope s.heap.objs.size f cd)
 N:=N
 s₀:=s
 H₀:=H
 env:=envOfC qual scope s.heap.objs.size f cd
 outer:=outer
 stack:=envOfC qual scope s.heap.objs.size f cd :: outer
 ex:=[]
 calm:=true
 fn:=fun _=>true
 pn:=[]
 xe:=fun e s'=>wpAny (model P w) (A.deeper (envOfC qual scope s.heap.objs.size f cd)) (leaving (envOfC qual scope s.heap.objs.size f cd) e) (fun _ a=>CX outer H s E e a) (fun b a=>CX outer H s E b a) s'
theorem oI {sc:Scope} {n:Nat} (h:sc.names.lookup x=some .cell):∃ c,(cellsFrom n sc.names []).lookup x=some c:=by
 have q:=PySem.W.cellsFrom_some sc.names n [] (.inl h)
 exact Option.isSome_iff_exists.mp q
theorem sW {K:FG} (S:FnScope N ps scope) (hd:A.handled=none) (d:Env0 P w K mg base A outer s H) (D:vs.length=ps.length) (r:Vals vs us) (x:InCallC s s.heap.objs.size (bindL (envOfC qual scope s.heap.objs.size f cd).kindOf (ps.zip us) fun _=>none) (cellsFrom (s.heap.objs.size+1) scope.names []) (bindC (envOfC qual scope s.heap.objs.size f cd).kindOf (ps.zip us) fun _=>none) s1) :
  Inv (oB CX P w K mg base N qual scope f cd A outer s H E) [] (jo N vs) H s1:=by
 have t:ps.length<=N.length:=by have:=congrArg List.length S.pre;rw [CB] at this;omega
 obtain ⟨h1,tk,rfl,o⟩:=x.done
 have j:∀ b:Addr,b ∉ (oB CX P w K mg base N qual scope f cd A outer s H E).ex:=fun b z=>absurd (show b ∈ ([]:List Addr) from z) (by simp)
 refine ⟨⟨d.mod,S.kind,rfl,rfl,Co _,fun y z c h1 h2=>?_,fun y g=>?_,fun y c _ h=>?_,fun _=>hd,Around.frames_deeper d.frames,.inr ⟨rfl,rfl⟩,fun b z=>absurd z (j b),d.bs,d.bsz,fun b _ _=>j b,fun b z=>absurd z (j b),d.funs,d.frf⟩,
  rfl,d.bare,Un.kept o,⟨_,x.toInCall.ns,fun i y v h1 h2 h3=>?_⟩,fun y c h=>⟨_,x.cell y c h⟩,d.hok.fresh (Co _),fun y c h=>?_,fun p m=>absurd (show p ∈ ([]:List (Addr × Obj)) from m) (by simp),d.hok.kept o,?_⟩
 ·exact name_of_addr x.apart (PySem.mem_of_lookup h1) (PySem.mem_of_lookup h2)
 ·have g:scope.names.lookup y=some .cell\/scope.names.lookup y=some .free:=g
  rcases g with g | g
  ·exact oI g
  ·exact absurd rfl (S.nofree _ (PySem.mem_of_lookup g))
 ·exact Nat.le_of_lt (x.above y c (PySem.mem_of_lookup h))
 ·have hi:i < vs.length:=by
   unfold jo at h2
   by_cases hi:i < vs.length
   ·exact hi
   ·rw [List.getElem?_append_right (by simpa using hi)] at h2
    rw [List.getElem?_replicate] at h2
    split at h2 <;> cases h2
  have C:vs[i]?=some v:=by
   unfold jo at h2
   rw [CJ (by simpa using hi),Cn] at h2
   cases e:vs[i]? with
   | none=>rw [e] at h2;cases h2
   | some a=>rw [e] at h2;cases h2;rfl
  obtain ⟨u,hu,B⟩:=r.get C
  have m:ps[i]?=some y:=by
   rw [<- S.pre,List.getElem?_take_of_lt (by omega)];exact h1
  have l:ps.Nodup:=by rw [<- S.pre];exact S.nd.sublist (List.take_sublist _ _)
  refine ⟨u,B,?_⟩
  rcases S.par y (Ck m) with k | k
  ·exact .inl ⟨k,lC l m hu k⟩
  ·obtain ⟨c,e⟩:=oI (n:=s.heap.objs.size+1) k
   refine .inr ⟨.inl k,c,e,?_⟩
   have q:=x.cell y c e
   rw [lE l m hu (by show scope.names.lookup y ≠ _;rw [k];decide)] at q
   exact q
 ·exact d.hok.fresh (Nat.le_of_lt (x.above y c (PySem.mem_of_lookup h)))
 ·unfold jo
  show _=N.length
  rw [Cz,Ci,List.length_replicate]
  omega
theorem fn_of {K:FG} {k:Nat} {B kV doc pm a ct C:Value} (L:K.lookup f=some ⟨C,od,.func (PySem.W.fnOf name qual params body scope B kV doc pm an a ct),osl⟩) (m:PySem.W.codeIn K a qual=true) (S:FnScope N ps scope) (len:∀ c H Q E,sp c H Q E->c.length=ps.length) (d:∀ (A:Around) (outer:List Env) (s:Shared) (H:Hp) (c:List V) (Q:VK) (E:XK),Room k (A.deeper (envOfC qual scope s.heap.objs.size f a))->sp c H Q E ->
   ∃ t,PSs (oB CX P w K mg base N qual scope f a A outer s H E) body t/\t { nx:=fun _ H'=>Q .non H',rt:=Q } (jo N c) H) :
  FnOk P w K mg base CX (k+1) f (PySem.W.fnOf name qual params body scope B kV doc pm an a ct) ps sp:=by
 refine ⟨len,fun A outer s H args us c Q E l j O r i=>?_⟩
 have G:=len _ _ _ _ i
 have z:K.In s.heap:=j.mod.kin.keeps fun b o e=>(j.bs b o e).1
 have lim:s.heap.NoLimit:=j.mod.nolimit.keeps fun b o e=>(j.bs b o e).1
 have g:∀ y ∈ ps.zip us,scope.names.lookup y.1=some .local\/(scope.names.lookup y.1=some .cell/\((cellsFrom (s.heap.objs.size+1) scope.names []).lookup y.1).isSome=true):=fun ⟨n,v⟩ F=>by
  rcases S.par n (List.of_mem_zip F).1 with q | q
  ·exact .inl q
  ·exact .inr ⟨q,PySem.W.cellsFrom_some _ _ _ (.inl q)⟩
 refine codeAny_call_function l.depth (z _ _ L) rfl S.co S.gen rfl (PySem.W.codeRec_of z m) (O _ _ _ _ ?_)
 refine wpAny_newFunctionEnv_cells S.kind g fun env he s1 x=>?_
 subst he
 refine ⟨lim.keeps x.toInCall.keep,codeAny_func ?_⟩
 obtain ⟨t,M,D⟩:=d A outer s H c Q E (l.deeper _) i
 have I:Inv (oB CX P w K mg base N qual scope f a A outer s H E) [] (jo N c) H s1:=sW S l.hd j G r x
 refine wpAny_mono (M [] s1 (jo N c) H _ I D) (fun fl s' h=>?_) fun e s' h=>h
 have fin:∀ {σ':St} {H':Hp} {v:V} {u:Value},Inv (oB CX P w K mg base N qual scope f a A outer s H E) [] σ' H' s'->RelV v u->Q v H'->CE outer P w H s Q u s' :=
  fun {σ' H' v u} J p q=>⟨v,H',J.os,J.bare,J.base,J.hok,p,q⟩
 cases fl with
 | ret u =>
  obtain ⟨v,σ',H',J,p,q⟩:=h
  exact fin J p q
 | next =>
  obtain ⟨σ',H',J,q⟩:=h
  exact fin (v:=V.non) (u:=Value.none) J rfl q
 | brk =>
  obtain ⟨_,_,_,q⟩:=h
  exact False.elim q
 | cont =>
  obtain ⟨_,_,_,q⟩:=h
  exact False.elim q
end L2
namespace L2
open PySem PySem.Spec PyProof.Rows
section
variable {X:Cx} {x:Str} {p pos:Pos} {e:Expr} {es:List Expr} {t:TA} {id T:String} {r:List V->Hp->VK->Prop}
def tCB (r:List V->Hp->VK->Prop) (t:TA):TE:=fun σ H Q=>t σ H fun a H1=>r a H1 Q
theorem ir (g:bZ X (.builtin id) r) (d:Gl X x) (hm:X.mg x=none) (k:bootBuiltins x=some (.builtin id)) (m:PA X (e :: es) t) (i:x ≠ "__name__":=by decide) (b:(x == ("__debug__":Str))=false:=by decide)
  (he:starEach (e :: es) X.env=(false,eval e X.env) :: starEach es X.env:=by rfl) (a:(backTo pos (starEach es X.env)).any (·.1)=false:=by rfl):PE X (.Call (.Name x p) (e :: es) [] pos) (tCB r t):=by
 intro pins s σ H Q I h
 refine wpAny_Call_Name_kw (fO I d hm k ?_ i b)
 exact PyProof.Rows.callWith_builtin1 (thn (m pos pins s σ H _ I h) fun us s1 ⟨c,H1,j,f,l⟩=>g pins s1 σ H1 c us Q j f l) he a
theorem iW (g:bZ X (.type T) r) (d:Gl X x) (hm:X.mg x=none) (k:bootBuiltins x=some (.type T)) (m:PA X (e :: es) t) (i:x ≠ "__name__":=by decide) (b:(x == ("__debug__":Str))=false:=by decide)
  (he:starEach (e :: es) X.env=(false,eval e X.env) :: starEach es X.env:=by rfl) (a:(backTo pos (starEach es X.env)).any (·.1)=false:=by rfl):PE X (.Call (.Name x p) (e :: es) [] pos) (tCB r t):=by
 intro pins s σ H Q I h
 refine wpAny_Call_Name_kw (fO I d hm k ?_ i b)
 exact PyProof.Rows.callWith_type1 (thn (m pos pins s σ H _ I h) fun us s1 ⟨c,H1,j,f,l⟩=>g pins s1 σ H1 c us Q j f l) he a
end
end L2
namespace HT
open PySem PyProof.Rows
def lexLt:List Int->List Int->Bool
 | [],[]=>false
 | [],_ :: _=>true
 | _ :: _,[]=>false
 | x :: xs,y :: ys=>if x=y then lexLt xs ys else decide (x < y)
section
open PySem.SeqAt
open PySem.AutoSeq1 (wpAny_loadPart')
open PySem.MeetsSeq PySem.MeetsSeq2 PySem.MeetsSeq3
end
section
variable {prog:Program} {w:World} {A:Around} {E:Value->Shared->Prop} {s:Shared}
theorem cat_tup (m:IsTup s.heap t vs.toArray) (o:IsTup s.heap b ws.toArray) (l:vs ≠ []) (h1:ws=[]->Q (.ref t) s) (h2:ws ≠ []->Q (.ref s.heap.objs.size) { s with heap:=s.heap.push { cls:=.type "tuple",data:=.seq (vs ++ ws).toArray } }) (hsz:vs.length+ws.length<=sizeLine):wpAny (model prog w) A (binaryOp .Add (.ref t) (.ref b)) Q E s:=by
 obtain ⟨⟨cls,h,data,sl⟩,g,j,n,hd⟩:=id m
 obtain ⟨⟨k,d,data2,f⟩,a,c,i,hd2⟩:=id o
 simp only at j hd c hd2
 subst j hd c hd2
 have e:vs.toArray ++ ws.toArray=(vs ++ ws).toArray:=by simp
 by_cases hw:ws=[]
 ·exact concat_meets ⟨_,g,rfl⟩ ⟨_,a,rfl⟩ noFill_tuple_add seq_tuple_add PySem.F.slot_tuple_add PySem.F.entry_tuple_add (PySem.F.args_tuple_add_2 _ _)
   (tuple_addW1 t b vs.toArray ws.toArray n i h d sl f (by simpa using l) (by simp [hw])) ⟨g,a,h1 hw⟩
 ·refine concat_meets ⟨_,g,rfl⟩ ⟨_,a,rfl⟩ noFill_tuple_add seq_tuple_add PySem.F.slot_tuple_add PySem.F.entry_tuple_add (PySem.F.args_tuple_add_2 _ _)
   (tuple_addW2 t b vs.toArray ws.toArray n i h d sl f (by simpa using l) (by simpa using hw) (by rw [Cr,Cr];exact hsz)) ⟨g,a,?_⟩
  rw [e]
  exact h2 hw
def sIx (n d:Nat):Option Int->Nat
 | none=>d
 | some v=>if v < 0 then (v+(n:Int)).toNat else min v.toNat n
theorem sIx_nat (n d k:Nat):sIx n d (some (k:Int))=min k n:=by
 show (if (k:Int) < 0 then ((k:Int)+(n:Int)).toNat else min (k:Int).toNat n)=min k n
 rw [if_neg (by omega),Int.toNat_natCast]
theorem z6 (n d:Nat) (hd:d<=n) (o:Option Int):sIx n d o<=n:=by
 cases o with
 | none=>exact hd
 | some v =>
  show (if v < 0 then (v+(n:Int)).toNat else min v.toNat n)<=n
  by_cases a:v < 0
  ·rw [if_pos a];omega
  ·rw [if_neg a];exact Nat.min_le_right _ _
theorem rM (v:Int) (n d:Nat):(if v < 0 then max (v+(n:Int)) 0 else min v (n:Int))=((sIx n d (some v):Nat):Int):=by
 show (if v < 0 then max (v+(n:Int)) 0 else min v (n:Int))=(((if v < 0 then (v+(n:Int)).toNat else min v.toNat n):Nat):Int)
 by_cases a:v < 0
 ·simp only [if_pos a];omega
 ·simp only [if_neg a];omega
theorem qH (lo hi:Option Int) (n:Nat):Builtin.Slice.sliceAdjust lo hi 1 (n:Int)=(((sIx n 0 lo:Nat):Int),((sIx n n hi:Nat):Int)):=by
 have h1:¬ ((1:Int) < 0):=by omega
 unfold Builtin.Slice.sliceAdjust
 simp only [h1,if_false]
 refine Prod.ext ?_ ?_
 ·cases lo with
  | none=>rfl
  | some v=>exact rM v n 0
 ·cases hi with
  | none=>rfl
  | some v=>exact rM v n n
theorem pN (i j:Nat):Builtin.Slice.slicePlaces (i:Int) (j:Int) 1=j - i:=by
 unfold Builtin.Slice.slicePlaces
 have h1:(1:Int) > 0:=by omega
 simp only [h1,if_true,Int.ediv_one]
 split <;> omega
theorem slicePart_ (p:IsPart v o) (h:Q o s):wpAny (model prog w) A (Builtin.Slice.slicePartIndex v) Q E s:=by
 cases p with
 | none=>exact slicePart_none h
 | int i t=>exact slicePart_int h
theorem d7 {sl:Addr} {c d:Value} {lo hi:Option Int} {n:Nat} (f:s.heap.IsSliceOf sl c d .none) (pl:IsPart c lo) (pu:IsPart d hi) (h:Q (((sIx n 0 lo:Nat):Int),1,sIx n n hi - sIx n 0 lo) s):wpAny (model prog w) A (Builtin.Slice.sliceApplied (.ref sl) (pure (n:Int))) Q E s:=by
 obtain ⟨os,b,e,a⟩:=id f
 unfold Builtin.Slice.sliceApplied Builtin.Slice.sliceFields
 refine B0 (B0 (wpAny_field b a (x:=c) rfl (B0 (wpAny_field b a (x:=d) rfl (B0 (wpAny_field b a (x:=.none) rfl (B4 ?_)))))))
 refine B0 (slicePart_none ?_)
 show wpAny _ _ (if ((1:Int) == 0)=true then _ else _) _ _ s
 rw [if_neg (by decide)]
 refine B0 (slicePart_ pl (B0 (slicePart_ pu (B0 (B4 ?_)))))
 show wpAny _ _ (match Builtin.Slice.sliceAdjust lo hi 1 (n:Int) with | (lo,hi)=>pure (lo,(1:Int),Builtin.Slice.slicePlaces lo hi 1)) _ _ s
 rw [qH lo hi n]
 show wpAny _ _ (pure (((sIx n 0 lo:Nat):Int),(1:Int),Builtin.Slice.slicePlaces ((sIx n 0 lo:Nat):Int) ((sIx n n hi:Nat):Int) 1)) _ _ s
 rw [pN]
 exact B4 h
theorem ve (xs:Array Value) (i k:Nat):((List.range k).filterMap fun (m:Nat)=>xs[((i:Int)+(m:Int) * 1).toNat]?).toArray=((xs.toList.drop i).take k).toArray:=by
 have e:(fun (m:Nat)=>xs[((i:Int)+(m:Int) * 1).toNat]?)=fun m=>xs[i+m]?:=by
  funext m
  have:((i:Int)+(m:Int) * 1).toNat=i+m:=by omega
  rw [this]
 rw [e]
 have:=pick_run xs i k
 rw [List.filterMap_map] at this
 have a:((fun x=>xs[x]?) ∘ fun x=>i+x)=fun m=>xs[i+m]?:=rfl
 rw [a] at this
 rw [this]
theorem getItem_tuple_cut {lo hi:Option Int} (b:IsTup s.heap t items) (g:s.heap.IsSliceOf sl vl vu .none) (pl:IsPart vl lo) (pu:IsPart vu hi) (hw:¬ (sIx items.size 0 lo=0/\sIx items.size items.size hi=items.size)) (h:Q (.ref s.heap.objs.size) { s with heap:=s.heap.push { cls:=.type "tuple",data:=.seq ((items.toList.drop (sIx items.size 0 lo)).take (sIx items.size items.size hi - sIx items.size 0 lo)).toArray } }) (hsz:items.size<=sizeLine):wpAny (model prog w) A (getItem (.ref t) (.ref sl)) Q E s:=by
 have a:sizeOk (.seq ((items.toList.drop (sIx items.size 0 lo)).take (sIx items.size items.size hi - sIx items.size 0 lo)).toArray):=by
  show ((items.toList.drop (sIx items.size 0 lo)).take (sIx items.size items.size hi - sIx items.size 0 lo)).toArray.size<=sizeLine
  rw [Cr,CB,List.length_drop,Array.length_toList]
  omega
 have k:sIx items.size items.size hi<=items.size:=z6 _ _ (Co _) hi
 obtain ⟨os,c,e,i⟩:=id g
 have d:s.TypeIs (.ref sl) "slice":=⟨os,c,e⟩
 unfold getItem
 try with_reducible refine B5 ?_
 first | refine B0 (B4 ?_) | skip
 refine B0 (wpAny_sequenceKey b.typeIs (by decide) ?_)
 refine B0 (wpAny_callSpecial?_slot (name:=Str.ofString "__getitem__") b.typeIs PyProof.Rows.slot_tuple_getitem
  (wpAny_call_entry PyProof.Rows.slot_tuple_getitem b.typeIs entry_tuple_getitem ?_ (args_tuple_getitem _ _)))
 show wpAny _ _ (Builtin.Tuple.tupleItemsOf (.ref t) >>= _) _ _ s
 refine B0 (tupleItemsOf_ b ?_)
 refine B0 (wpAny_typeOf d ?_)
 rw [if_pos (by decide)]
 refine B0 (d7 g pl pu ?_)
 have f:¬ ((((sIx items.size 0 lo:Nat):Int) == 0 && (1:Int) == 1 && (sIx items.size items.size hi - sIx items.size 0 lo) == items.size)=true):=by
  intro q
  rw [Bool.and_eq_true,Bool.and_eq_true] at q
  have l:((sIx items.size 0 lo:Nat):Int)=0:=eq_of_beq q.1.1
  have j:sIx items.size items.size hi - sIx items.size 0 lo=items.size:=eq_of_beq q.2
  exact hw ⟨by omega,by omega⟩
 show wpAny _ _ (if (((sIx items.size 0 lo:Nat):Int) == 0 && (1:Int) == 1 && (sIx items.size items.size hi - sIx items.size 0 lo) == items.size)=true then _ else _) _ _ s
 rw [if_neg f,ve]
 first
  | exact B0 (m:=Builtin.Tuple.tupleExact _) (wpAny_newObj_type (B4 ⟨_,rfl,B4 h⟩) a)
  | exact B0 (m:=Builtin.Tuple.tupleExact _) (wpAny_newObj_type (B0 (B4 (B4 ⟨_,rfl,B4 h⟩))) a)
  | exact B0 (B0 (m:=Builtin.Tuple.tupleExact _) (wpAny_newObj_type (B4 (B4 ⟨_,rfl,B4 h⟩)) a))
  | exact B0 (B0 (m:=Builtin.Tuple.tupleExact _) (wpAny_newObj_type (B4 ⟨_,rfl,B4 h⟩) a))
end
end HT
namespace L2
open PySem PySem.Spec PyProof.Rows
abbrev TO:=St->Hp->(Option Int->Hp->Prop)->Prop
def PO (X:Cx) (e:Option Expr) (t:TO):Prop :=
 ∀ (pins:List (Addr × Obj)) (s:Shared) (σ:St) (H:Hp) (Q:Option Int->Hp->Prop),Inv X pins σ H s->t σ H Q ->
  wpAny (model X.prog X.w) X.A (evalPart e X.env) (fun u s'=>∃ o H',Inv X pins σ H' s'/\IsPart u o/\Q o H') X.xe s
def wV:TO:=fun _ H Q=>Q none H
def tPart (t:TE):TO:=fun σ H Q=>t σ H fun x H1=>∃ i,x=.int i/\Q (some i) H1
theorem ke:∀ {us:List Value},Vals (ns.map V.int) us->IntsAre us ns:=by
 induction ns with
 | nil=>intro us r;rw [List.map_nil] at r;cases r;exact .nil
 | cons n ns ih =>
  intro us r
  rw [Cs] at r
  cases r with
  | cons r1 r2 =>
   obtain ⟨t,e⟩:=r1
   subst e
   exact .cons n t (ih r2)
section
variable {X:Cx} {e:Expr} {te:TE} {lo hi:Option Expr} {tl th:TO} {pos p2:Pos}
theorem xU:PO X none wV:=by
 intro pins s σ H Q I h
 rw [evalPart_none]
 exact B4 ⟨none,H,I,.none,h⟩
theorem xT (h:PE X e te):PO X (some e) (tPart te):=by
 intro pins s σ H Q I hw
 rw [evalPart_some]
 refine thn (h pins s σ H _ I hw) fun u s1 ⟨x,H1,b,a,c⟩=>?_
 obtain ⟨i,rfl,q⟩:=c
 obtain ⟨t,rfl⟩:=a
 exact ⟨some i,H1,b,.int i t,q⟩
def SlR (X:Cx) (r:V->Option Int->Option Int->Hp->VK->Prop):Prop :=
 ∀ (pins:List (Addr × Obj)) (s:Shared) (σ:St) (H:Hp) (x:V) (v a b:Value) (lo hi:Option Int) (sl:Addr) (Q:VK),Inv X pins σ H s->RelV x v->s.heap.IsSliceOf sl a b .none->IsPart a lo->IsPart b hi->r x lo hi H Q ->
  ∃ T id,typeLookup (.type T) "__getitem__"=pure (some (.builtin id))/\s.TypeIs v T/\wpAny (model X.prog X.w) X.A (getItem v (.ref sl)) (EP X pins σ Q) X.xe s
theorem SlR.or (h:SlR X r) (h':SlR X r'):SlR X (fun x lo hi H Q=>r x lo hi H Q\/r' x lo hi H Q):=by
 intro pins s σ H x v c a lo hi sl Q I b d pl pu q
 rcases q with q | q
 ·exact h pins s σ H x v c a lo hi sl Q I b d pl pu q
 ·exact h' pins s σ H x v c a lo hi sl Q I b d pl pu q
def tSl (r:V->Option Int->Option Int->Hp->VK->Prop) (te:TE) (tl th:TO):TE:=fun σ H Q=>te σ H fun x H1=>tl σ H1 fun l H2=>th σ H2 fun u a=>r x l u a Q
theorem vh (g:SlR X r) (he:PE X e te) (j:PO X lo tl) (hu:PO X hi th):PE X (.Subscript e (.Slice lo hi none p2) pos) (tSl r te tl th):=by
 intro pins s σ H Q I h
 refine Subscript_ (thn (he pins s σ H _ I h) fun v s1 ⟨x,H1,z,f,k⟩=>?_)
 refine wpAny_Slice (thn (j pins s1 σ H1 _ z k) fun a s2 ⟨l,H2,y,pl,p⟩=>thn (hu pins s2 σ H2 _ y p) fun c s3 ⟨u,d,B,pu,t⟩=>?_)
 rw [evalPart_none]
 refine B4 ?_
 have i:Inv X pins σ d { s3 with heap:=s3.heap.push { cls:=.type "slice",data:=.fields #[a,c,.none] } }:=B.kept (t':=s3.toks) fun b ob q=>B8 _ q
 obtain ⟨T,id,m,n,o⟩:=g pins { s3 with heap:=s3.heap.push { cls:=.type "slice",data:=.fields #[a,c,.none] } } σ d x v a c l u s3.heap.objs.size Q i f (Heap.IsSliceOf.new ..) pl pu t
 show wpAny (model X.prog X.w) X.A (subscriptTail e (.Slice lo hi none p2) v (.ref s3.heap.objs.size)) (EP X pins σ Q) X.xe { s3 with heap:=s3.heap.push { cls:=.type "slice",data:=.fields #[a,c,.none] } }
 exact tail_any (ops:=[.ref s3.heap.objs.size,v]) n m o (by with_unfolding_all rfl)
def oC (xs:List V) (lo hi:Option Int):List V:=(xs.drop (HT.sIx xs.length 0 lo)).take (HT.sIx xs.length xs.length hi - HT.sIx xs.length 0 lo)
theorem jy (xs:List V) (lo hi:Option Int):(oC xs lo hi).length<=xs.length:=by
 unfold oC
 rw [CB,List.length_drop]
 omega
def Az (K:FG):V->Option Int->Option Int->Hp->VK->Prop:=fun x lo hi H Q=>∃ a xs,x=.ref a/\SqT K H a xs /\
 ¬ (HT.sIx xs.length 0 lo=0/\HT.sIx xs.length xs.length hi=xs.length)/\∀ p,H p=none->Q (.ref p) (upd H p (.tup (oC xs lo hi)))
theorem sl_tup:SlR X (Az X.K):=by
 intro pins s σ H x v i g lo hi sl Q I e f pl pu h
 obtain ⟨a,xs,rfl,d,hw,q⟩:=h
 cases e
 obtain ⟨its,r,c,hz⟩:=I.tuple d
 have hlen:its.toArray.size=xs.length:=by rw [Cr];exact r.length.symm
 refine ⟨"tuple",_,PyProof.Rows.slot_tuple_getitem.lookup,c.typeIs,?_⟩
 refine HT.getItem_tuple_cut c f pl pu (by rw [hlen];exact hw) ?_ (by rw [hlen];exact hz)
 rw [hlen]
 refine ⟨.ref s.heap.objs.size,_,I.laid (t':=s.toks) (o:=.tup (oC xs lo hi)) (fun b ob q=>B8 _ q) (Co _) ?_,rfl,q _ (I.hok.fresh (Co _))⟩
 exact ⟨CN (jy xs lo hi) hz,_,(r.drop (HT.sIx xs.length 0 lo)).take (HT.sIx xs.length xs.length hi - HT.sIx xs.length 0 lo),IsTupD.new _ _⟩
def qW (K:FG):R2:=fun x y H Q=>∃ a b xs ys,x=.ref a/\y=.ref b/\SqT K H a xs/\SqT K H b ys/\xs ≠ []/\xs.length+ys.length<=sizeLine /\
 (ys=[]->Q (.ref a) H)/\(ys ≠ []->∀ p,H p=none->Q (.ref p) (upd H p (.tup (xs ++ ys))))
theorem Vals.nil_iff (r:Vals xs us):us=[] ↔ xs=[]:=by
 cases r with
 | nil=>simp
 | cons _ _=>simp
theorem op_catT:OpR X (binaryOp .Add) (qW X.K):=by
 intro pins s σ H x y v u Q I j g h
 obtain ⟨a,b,xs,ys,rfl,rfl,n,l,f,hz,m,i⟩:=h
 cases j
 cases g
 obtain ⟨its,d,k,_⟩:=I.tuple n
 obtain ⟨e,c,p2,_⟩:=I.tuple l
 refine HT.cat_tup k p2 (fun z=>f (d.nil_iff.mp z)) (fun z=>⟨.ref a,H,I,rfl,m (c.nil_iff.mp z)⟩) (fun z=>?_) (by rw [<- d.length,<- c.length];exact hz)
 refine ⟨.ref s.heap.objs.size,_,I.laid (t':=s.toks) (o:=.tup (xs ++ ys)) (fun b ob q=>B8 _ q) (Co _) ?_,rfl,i (fun w=>z (c.nil_iff.mpr w)) _ (I.hok.fresh (Co _))⟩
 exact ⟨by rw [Cz];exact hz,_,d.append c,IsTupD.new _ _⟩
end
end L2
namespace L2
open PySem PySem.Spec PyProof.Rows
def ixN (n:Nat) (i:Int):Option Nat:=if 0<=i then (if i < n then some i.toNat else none) else if -(n:Int)<=i then some (i+n).toNat else none
def atI {α:Type} (xs:List α) (i:Int):Option α:=(ixN xs.length i).bind fun j=>xs[j]?
theorem rn {n:Nat} {i:Int} {j:Nat} (h:ixN n i=some j):seqIndex? i n=some j/\j < n/\-(n:Int)<=i/\i < n:=by
 unfold ixN at h
 by_cases h0:0<=i
 ·rw [if_pos h0] at h
  by_cases h1:i < n
  ·rw [if_pos h1] at h
   have e:i.toNat=j:=CS h
   exact ⟨by rw [seqIndex_of h0 h1,e],by omega,by omega,h1⟩
  ·rw [if_neg h1] at h;cases h
 ·rw [if_neg h0] at h
  by_cases h1:-(n:Int)<=i
  ·rw [if_pos h1] at h
   have e:(i+n).toNat=j:=CS h
   exact ⟨by rw [seqIndex_neg (by omega) h1,e],by omega,h1,by omega⟩
  ·rw [if_neg h1] at h;cases h
theorem rS {i:Int} (h:atI xs i=some v):∃ j,seqIndex? i xs.length=some j/\xs[j]?=some v/\j < xs.length/\-(xs.length:Int)<=i/\i < xs.length:=by
 unfold atI at h
 cases e:ixN xs.length i with
 | none=>rw [e] at h;cases h
 | some j =>
  rw [e] at h
  obtain ⟨h1,h2,h3,a⟩:=rn e
  exact ⟨j,h1,h,h2,h3,a⟩
def rV (b:Expr):Prop:=∀ o i,subscripted b false o i=operate [o,i] (getItem o i)
def IxR (X:Cx) (r:R2):Prop :=
 ∀ (value slice:Expr) (pins:List (Addr × Obj)) (s:Shared) (σ:St) (H:Hp) (x y:V) (v u:Value) (Q:VK),Inv X pins σ H s->RelV x v->RelV y u->r x y H Q ->
  subscripted slice false v u=operate [v,u] (getItem v u)->wpAny (model X.prog X.w) X.A (subscriptTail value slice v u) (EP X pins σ Q) X.xe s
def MtR (X:Cx) (id:String) (r:V->List V->Hp->VK->Prop):Prop :=
 ∀ (pins:List (Addr × Obj)) (s:Shared) (σ:St) (H:Hp) (x:V) (xs:List V) (v:Value) (us:List Value) (Q:VK),Inv X pins σ H s->RelV x v->Vals xs us->r x xs H Q ->
  wpAny (model X.prog X.w) X.A (call (.builtin id) (v :: us)) (EP X pins σ Q) X.xe s
section
variable {X:Cx} {a b:Expr} {ta tb:TE} {pos:Pos}
theorem IxR.or (h:IxR X r) (h':IxR X r'):IxR X (fun x y H Q=>r x y H Q\/r' x y H Q):=by
 intro value slice pins s σ H x y v u Q I b a q c
 rcases q with q | q
 ·exact h value slice pins s σ H x y v u Q I b a q c
 ·exact h' value slice pins s σ H x y v u Q I b a q c
theorem pe_ix (f:IxR X r) (i:PE X a ta) (g:PE X b tb) (j:rV b):PE X (.Subscript a b pos) (tOp r ta tb):=by
 intro pins s σ H Q I h
 exact Subscript_ (BT i g I h fun v u s2 x y H2 d e c q=>f a b pins s2 σ H2 x y v u Q d e c q (j _ _))
def uY (K:FG):R2:=fun x y H Q=>∃ p xs i v,x=.ref p/\y=.int i/\SqL K H p xs/\atI xs i=some v/\Q v H
def uX (K:FG):R2:=fun x y H Q=>∃ p xs i v,x=.ref p/\y=.int i/\SqT K H p xs/\atI xs i=some v/\Q v H
theorem ix_list:IxR X (uY X.K):=by
 intro value slice pins s σ H x y v u Q I l k h d
 obtain ⟨p,xs,i,z,rfl,rfl,f,he,q⟩:=h
 cases l
 obtain ⟨t,rfl⟩:=k
 obtain ⟨its,r,pl,hz⟩:=I.list f
 obtain ⟨j,h1,h2,h3,e,m⟩:=rS he
 obtain ⟨w,c,b⟩:=r.get h2
 have g:=r.length
 have n:=mf
 have fin:EP X pins σ Q w s:=⟨z,H,I,b,q⟩
 by_cases h0:0<=i
 ·have a:i.toNat=j:=by
   rw [seqIndex_of h0 m] at h1
   exact CS h1
  exact item_listR pl.isList h0 (by omega) (by rw [a];simpa using c) fin d
 ·have a:(i+(its.toArray.size:Int)).toNat=j:=by
   rw [seqIndex_neg (by omega) e] at h1
   rw [Cr,<- g]
   exact CS h1
  exact subscriptTail_builtinR (x:=w) pl.isList.typeIs slot_list_getitem.lookup
   (wpAny_getItem_list_neg (Q:=fun r s'=>r=w/\EP X pins σ Q r s') pl.isList (by omega) (by rw [Cr] <;> omega) (by omega) (by rw [a];simpa using c) ⟨rfl,fin⟩) d
theorem Bw:IxR X (uX X.K):=by
 intro value slice pins s σ H x y v u Q I g f h e
 obtain ⟨p,xs,i,z,rfl,rfl,b,he,q⟩:=h
 cases g
 obtain ⟨t,rfl⟩:=f
 obtain ⟨its,r,pl,hz⟩:=I.tuple b
 obtain ⟨j,h1,h2,h3,k,m⟩:=rS he
 obtain ⟨w,c,a⟩:=r.get h2
 have d:=r.length
 have l:=mf
 have fin:EP X pins σ Q w s:=⟨z,H,I,a,q⟩
 exact subscriptTail_builtinR (x:=w) pl.typeIs slot_tuple_getitem.lookup
  (getItem_tuple (j:=j) (Q:=fun r s'=>r=w/\EP X pins σ Q r s') pl (by omega) (by omega) (by rw [Cr,<- d];exact h1) (by simpa using c) ⟨rfl,fin⟩) e
theorem pZ (its:List Value) (n j:Nat) (u:Value):Obj.mapSeq (·.setIfInBounds j u) { cls:=.type "list",data:=.seq its.toArray n } = { cls:=.type "list",data:=.seq (its.set j u).toArray n }:=by
 simp [Obj.mapSeq]
theorem Inv.lst {pins:List (Addr × Obj)} {σ:St} {H:Hp} {s:Shared} {p:Addr} {xs:List V} (I:Inv X pins σ H s) (h:H p=some (.lst xs)) :
  ∃ (its:List Value) (n:Nat),Vals xs its/\s.heap.get? p=some { cls:=.type "list",data:=.seq its.toArray n }/\xs.length<=sizeLine:=by
 obtain ⟨z,its,n,r,e⟩:=I.hok p _ h
 exact ⟨its,n,r,e,z⟩
theorem Inv.lstUpd {its its':List Value} {n a:Nat} (I:Inv X pins σ H s) (h:H p=some (.lst xs)) (c:s.heap.get? p=some { cls:=.type "list",data:=.seq its.toArray n }) (hf:f { cls:=.type "list",data:=.seq its.toArray n } = { cls:=.type "list",data:=.seq its'.toArray a }) (r:Vals ys its') (hz:ys.length<=sizeLine) (t:Nat) :
  Inv X pins σ (upd H p (.lst ys)) { s with heap:=s.heap.update p f,toks:=t }:=by
 have e:(s.heap.update p f).get? p=some { cls:=.type "list",data:=.seq its'.toArray a }:=by
  rw [Cy f c (by rw [hf] <;> rfl),hf]
 refine I.write (x:=p) (e:=p) (by rw [h];trivial) (.inl rfl) (fun b u d q=>(CK _ _ (Ne.symm d)).trans q) ⟨_,e⟩ ?_
 exact ⟨hz,its',a,r,e⟩
def j2:V->V->V->Hp->(Hp->Prop)->Prop:=fun o i v H Q=>∃ p xs k j,o=.ref p/\i=.int k/\H p=some (.lst xs)/\ixN xs.length k=some j/\Q (upd H p (.lst (xs.set j v)))
theorem uw:tZ X j2:=by
 intro pins s σ H o i v ov x u Q I g l w h
 obtain ⟨p,xs,k,j,rfl,rfl,f,m,q⟩:=h
 cases g
 obtain ⟨t,rfl⟩:=l
 obtain ⟨its,n,r,a,hz⟩:=I.lst f
 obtain ⟨h1,h2,h3,d⟩:=rn m
 have c:=r.length
 have y:=mf
 have e:Inv X pins σ (upd H p (.lst (xs.set j v))) { s with heap:=s.heap.update p (Obj.mapSeq (·.setIfInBounds j u)) } :=
  I.lstUpd f a (pZ its n j u) (r.set w j) (by rw [List.length_set];exact hz) s.toks
 by_cases h0:0<=k
 ·have b:k.toNat=j:=by
   rw [seqIndex_of h0 d] at h1
   exact CS h1
  exact PySem.W.ki_setAt a h0 (by omega) (by rw [Cr,<- c];exact d) (by rw [b];exact ⟨_,e,q⟩)
 ·have b:(k+(its.toArray.size:Int)).toNat=j:=by
   rw [seqIndex_neg (by omega) h3] at h1
   rw [Cr,<- c]
   exact CS h1
  exact PySem.W.ki_setBack a (by omega) (by rw [Cr,<- c];exact h3) (by omega) (by rw [b];exact ⟨_,e,q⟩)
theorem lN (lo hi:Option Int) (n:Nat):(sliceBounds lo hi none n).1=((HT.sIx n 0 lo:Nat):Int)/\(sliceBounds lo hi none n).2.1=((HT.sIx n n hi:Nat):Int)/\(sliceBounds lo hi none n).2.2=1:=by
 refine ⟨?_,?_,rfl⟩
 ·cases lo with
  | none=>simp [sliceBounds,HT.sIx]
  | some i =>
   simp only [sliceBounds,HT.sIx,Option.getD_none,show (1:Int) > 0 by decide,if_true]
   by_cases h:i < 0
   ·simp only [h,if_true] <;> omega
   ·simp only [h,if_false] <;> omega
 ·cases hi with
  | none=>simp [sliceBounds,HT.sIx]
  | some i =>
   simp only [sliceBounds,HT.sIx,Option.getD_none,show (1:Int) > 0 by decide,if_true]
   by_cases h:i < 0
   ·simp only [h,if_true] <;> omega
   ·simp only [h,if_false] <;> omega
theorem kC (its:List Value) (lo hi:Option Int):slicePick its.toArray lo hi none=((its.drop (HT.sIx its.length 0 lo)).take (HT.sIx its.length its.length hi - HT.sIx its.length 0 lo)).toArray:=by
 obtain ⟨h1,h2,h3⟩:=lN lo hi its.toArray.size
 unfold slicePick
 rw [h1,h2,h3]
 simp only [sliceRange_one,pick_run,Cr] <;> rfl
def AA (K:FG):V->Option Int->Option Int->Hp->VK->Prop:=fun x lo hi H Q=>∃ a xs,x=.ref a/\SqL K H a xs/\∀ p,H p=none->Q (.ref p) (upd H p (.lst (oC xs lo hi)))
theorem sl_list:SlR X (AA X.K):=by
 intro pins s σ H x v i g lo hi sl Q I e f pl pu h
 obtain ⟨a,xs,rfl,d,q⟩:=h
 cases e
 obtain ⟨its,r,c,hz⟩:=I.list d
 have hlen:=r.length
 refine ⟨"list",_,slot_list_getitem.lookup,c.isList.typeIs,?_⟩
 refine wpAny_getItem_list_slice c.isList f pl pu .none (by simp) ?_ (by rw [Cr] <;> omega)
 rw [kC,<- hlen]
 refine ⟨.ref s.heap.objs.size,_,I.laid (t':=s.toks) (o:=.lst (oC xs lo hi)) (fun b ob q=>B8 _ q) (Co _) ?_,rfl,q _ (I.hok.fresh (Co _))⟩
 exact ⟨CN (jy xs lo hi) hz,_,0,(r.drop (HT.sIx xs.length 0 lo)).take (HT.sIx xs.length xs.length hi - HT.sIx xs.length 0 lo),Ch _ rfl⟩
theorem mF:bZ X (.builtin "len") (fun xs H Q=>∃ p ys,xs=[.ref p]/\(SqL X.K H p ys\/SqT X.K H p ys)/\Q (.int ys.length) H):=by
 intro pins s σ H xs us Q I r h
 obtain ⟨p,ys,rfl,a,q⟩:=h
 obtain ⟨u,rfl,c⟩:=dj r
 cases c
 have d:=mf
 rcases a with a | a
 ·obtain ⟨its,b,pl,hz⟩:=I.list a
  have hlen:=b.length
  exact Calls.call_len_list pl.isList (by simp only [Cr] <;> omega) ⟨.int ys.length,H,I.tok _,⟨s.toks+1,by rw [Cr,hlen]⟩,q⟩
 ·obtain ⟨its,b,pl,hz⟩:=I.tuple a
  have hlen:=b.length
  exact len_tuple pl (by simp only [Cr] <;> omega) ⟨.int ys.length,H,I.tok _,⟨s.toks+1,by rw [Cr,hlen]⟩,q⟩
theorem mE:bZ X (.type "list") (fun xs H Q=>∃ p ys,xs=[.ref p]/\(SqL X.K H p ys\/SqT X.K H p ys)/\∀ l,H l=none->Q (.ref l) (upd H l (.lst ys))):=by
 intro pins s σ H xs us Q I r h
 obtain ⟨p,ys,rfl,d,q⟩:=h
 obtain ⟨u,rfl,i⟩:=dj r
 cases i
 have fin:∀ (its:List Value),Vals ys its->ys.length<=sizeLine->∀ (h':Heap) (a:Nat),(∀ b o',s.heap.get? b=some o'->h'.get? b=some o') ->
   h'.get? s.heap.objs.size=some { cls:=.type "list",dict:=none,data:=.seq its.toArray a,slots:=#[] }->EP X pins σ Q (.ref s.heap.objs.size) { s with heap:=h' }:=fun its c hz h' a kp e =>
  ⟨.ref s.heap.objs.size,_,I.laid (t':=s.toks) kp (Co _) (show ObjOk X.prog X.w _ h' _ (.lst ys) from ⟨hz,its,a,c,e⟩),rfl,q _ (I.hok.fresh (Co _))⟩
 rcases d with d | d
 ·obtain ⟨its,c,pl,hz⟩:=I.list d
  have hlen:=c.length
  obtain ⟨o,f,g,n,hd⟩:=pl.isList
  exact call_list_seq p (.inl rfl) f g hd (fun h' a kp e=>fin its c hz h' a kp e) (by simp only [Cr] <;> omega)
 ·obtain ⟨its,c,pl,hz⟩:=I.tuple d
  have hlen:=c.length
  obtain ⟨o,f,g,n,hd⟩:=pl
  exact call_list_seq p (.inr rfl) f g hd (fun h' a kp e=>fin its c hz h' a kp e) (by simp only [Cr] <;> omega)
theorem kK:bZ X (.type "tuple") (fun xs H Q=>∃ p ys,xs=[.ref p]/\((SqL X.K H p ys/\∀ l,H l=none->Q (.ref l) (upd H l (.tup ys)))\/(SqT X.K H p ys/\Q (.ref p) H))):=by
 intro pins s σ H xs us Q I r h
 obtain ⟨p,ys,rfl,h⟩:=h
 obtain ⟨u,rfl,g⟩:=dj r
 cases g
 rcases h with ⟨a,q⟩ | ⟨a,q⟩
 ·obtain ⟨its,c,pl,hz⟩:=I.list a
  have hlen:=c.length
  refine call_tuple_list pl.isList (fun h' kp=>?_) (by simp only [Cr] <;> omega)
  have d:Inv X pins σ H { s with heap:=h' }:=I.kept (t':=s.toks) kp
  have f:Inv X pins σ (upd H h'.objs.size (.tup ys)) { s with heap:=h'.push { cls:=.type "tuple",data:=.seq its.toArray } } :=
   d.laid (t':=s.toks) (fun b o e=>B8 _ e) (Co _) (show ObjOk X.prog X.w _ _ _ (.tup ys) from ⟨hz,its,c,IsTupD.new _ _⟩)
  exact ⟨.ref h'.objs.size,_,f,rfl,q _ (d.hok.fresh (Co _))⟩
 ·obtain ⟨its,c,pl,hz⟩:=I.tuple a
  exact call_tuple_same pl ⟨.ref p,H,I,rfl,q⟩
def tyV (K:FG) (T:String) (x:V) (H:Hp):Prop:=match x with
 | .str _=>T = "str"
 | .int _=>T = "int"
 | .ref p=>(T = "list"/\∃ xs,SqL K H p xs)\/(T = "tuple"/\((∃ o,K.lookup p=some o/\o.cls=.type "tuple"/\o.dict=none)\/∃ xs,H p=some (.tup xs))) \/
   (T = "dict"/\((∃ kvs,H p=some (.dK kvs))\/∃ kvs,H p=some (.dT kvs)))\/(T = "set"/\∃ S n,H p=some (.set S n))
 | _=>False
theorem zB (I:Inv X pins σ H s) (r:RelV x v) (ty:tyV X.K T x H) :
  s.TypeIs v T/\∀ a,v=.ref a->∃ ob,s.heap.get? a=some ob/\ob.dict=none:=by
 cases x with
 | str z =>
  obtain ⟨t,rfl⟩:=r
  cases (show T = "str" from ty)
  exact ⟨typeIs_str s z t,fun _ e=>nomatch e⟩
 | int i =>
  obtain ⟨t,rfl⟩:=r
  cases (show T = "int" from ty)
  exact ⟨typeIs_int s i t,fun _ e=>nomatch e⟩
 | ref p =>
  cases r
  rcases ty with ⟨rfl,xs,h⟩ | ⟨rfl,⟨o,b,j,hd⟩ | ⟨xs,g⟩⟩ | ⟨rfl,b⟩ | ⟨rfl,S,n,b⟩
  ·obtain ⟨its,_,pl,_⟩:=I.list h
   refine ⟨pl.isList.typeIs,fun a e=>?_⟩
   cases e
   obtain ⟨o,n,e,c,hd,_⟩:=pl
   exact ⟨o,e,hd⟩
  ·refine ⟨⟨o,I.kIn p o b,j⟩,fun a e=>?_⟩
   cases e
   exact ⟨o,I.kIn _ o b,hd⟩
  ·obtain ⟨_,its,_,o,e,c,n,d⟩:=I.hok p _ g
   refine ⟨⟨o,e,c⟩,fun a f=>?_⟩
   cases f
   exact ⟨o,e,congrArg Prod.snd d⟩
  ·have z:∃ o,s.heap.get? p=some o/\o.ExactDict:=by
    rcases b with ⟨kvs,b⟩ | ⟨kvs,b⟩
    ·obtain ⟨_,_,_,_,o,_,_,e,ex,_⟩:=I.hok p _ b
     exact ⟨o,e,ex⟩
    ·obtain ⟨_,_,_,_,o,_,_,e,ex,_⟩:=I.hok p _ b
     exact ⟨o,e,ex⟩
   obtain ⟨o,e,ex⟩:=z
   refine ⟨⟨o,e,ex.1⟩,fun a f=>?_⟩
   cases f
   exact ⟨o,e,ex.2.1⟩
  ·obtain ⟨o,_,_,_,e,ex,_⟩:=I.hok p _ b
   refine ⟨⟨o,e,ex.1⟩,fun a f=>?_⟩
   cases f
   exact ⟨o,e,ex.2.1⟩
 | _=>exact False.elim ty
def tBM (K:FG) (T:String) (r:V->List V->Hp->VK->Prop) (to:TE) (t:TA):TE:=fun σ H Q=>to σ H fun x H1=>tyV K T x H1/\t σ H1 fun xs H2=>r x xs H2 Q
variable {o e:Expr} {es:List Expr} {to:TE} {t:TA} {name:Str} {apos cpos:Pos} {T id:String} {r:V->List V->Hp->VK->Prop}
theorem pe_bm (n:PlainAttrs T) (slot:Slot T name id) (f:typeOf (.builtin id)=pure (.type "method_descriptor")) (hm:MtR X id r) (l:PE X o to) (w:PA X (e :: es) t)
  (c:attributeBase o name X.env (eval o X.env)=eval o X.env:=by rfl)
  (d:((backTo cpos (starEach (e :: es) X.env)).all (fun x=>!x.1) && (backToKw cpos (keywordEach [] X.env)).all (fun x=>x.1.isSome)
   && decide ((e :: es).length+([]:List Keyword).length+(if ([]:List Keyword).isEmpty then 0 else 1) < 30))=true:=by rfl)
  (b:(apos.endLine == cpos.line)=true:=by rfl) (y:starEach (e :: es) X.env=(false,eval e X.env) :: starEach es X.env:=by rfl) (a:(backTo cpos (starEach es X.env)).any (·.1)=false:=by rfl) :
  PE X (.Call (.Attribute o name apos) (e :: es) [] cpos) (tBM X.K T r to t):=by
 intro pins s σ H Q I h
 refine wpAny_Call_method_late c d b rfl (thn (l pins s σ H _ I h) fun v s1 ⟨x,H1,j,g,ty,u⟩=>?_)
 obtain ⟨h1,h2⟩:=zB j g ty
 refine ⟨T,id,n,slot,f,h1,h2,?_⟩
 have i:=w cpos pins s1 σ H1 _ j u
 rw [y] at i ⊢
 refine Calls.callWith_builtin (by show (false || (backTo cpos (starEach es X.env)).any (·.1))=false;rw [a] <;> rfl) (Calls.evalArgs_plain ?_)
 exact thn i fun us s2 ⟨k,H2,p,q,m⟩=>hm pins s2 σ H2 x k v us Q p g q m
end
end L2
namespace L2
open PySem PySem.Spec PyProof.Rows
def MtM (X:Cx) (id:String) (r:V->List V->Hp->VK->Prop):Prop :=
 ∀ (pins:List (Addr × Obj)) (s:Shared) (σ:St) (H:Hp) (x:V) (xs:List V) (v:Value) (us:List Value) (Q:VK),Inv X pins σ H s->RelV x v->Vals xs us->r x xs H Q ->
  wpAny (model X.prog X.w) X.A (call (.builtin id) (v :: us)) (EP X pins σ Q) X.xe s
theorem Vals.one:∀ {x:V} {us:List Value},Vals [x] us->∃ u,us=[u]/\RelV x u
 | _,_,.cons r .nil=>⟨_,rfl,r⟩
theorem Vals.rep (h:Vals xs us):∀ k:Nat,Vals (List.replicate k xs).flatten (List.replicate k us).flatten
 | 0=>.nil
 | k+1=>by
  rw [List.replicate_succ,List.replicate_succ,List.flatten_cons,List.flatten_cons]
  exact Vals.append h (Vals.rep h k)
section
variable {X:Cx} {pins:List (Addr × Obj)} {σ:St} {H:Hp} {s:Shared} {l b:Addr} {xs ys zs:List V}
theorem Inv.lset {its its':List Value} {n:Nat} {t':Nat} (I:Inv X pins σ H s) (a:H l=some (.lst xs)) (e:s.heap.get? l=some { cls:=.type "list",data:=.seq its.toArray n }) (hf:f its.toArray=its'.toArray) (b:Vals ys its') (hz:ys.length<=sizeLine) :
  Inv X pins σ (upd H l (.lst ys)) { s with heap:=s.heap.update l (Obj.mapSeq f),toks:=t' }:=by
 have q:=PySem.IsL.update e f
 rw [hf] at q
 refine I.write (x:=l) (e:=l) (by rw [a];exact trivial) (.inl rfl) (fun d u c hu=>(CK s.heap (Obj.mapSeq f) (Ne.symm c)).trans hu) ⟨_,q⟩ ?_
 exact ⟨hz,its',_,b,q⟩
theorem Inv.lnew {t':Nat} (I:Inv X pins σ H s) (a:Vals ys its) (hz:ys.length<=sizeLine) :
  Inv X pins σ (upd H s.heap.objs.size (.lst ys)) { s with heap:=s.heap.push { cls:=.type "list",data:=.seq its.toArray },toks:=t' } :=
 I.laid (fun _ _ q=>B8 _ q) (Co _) ⟨hz,its,0,a,Ch _ rfl⟩
theorem Inv.fresh (I:Inv X pins σ H s):H s.heap.objs.size=none:=I.hok.fresh (Co _)
theorem Inv.lstM (I:Inv X pins σ H s) (a:H l=some (.lst xs)):xs.length<=sizeLine/\∃ (its:List Value) (n:Nat),Vals xs its/\xs.length=its.length/\s.heap.get? l=some { cls:=.type "list",data:=.seq its.toArray n }:=by
 obtain ⟨z,its,n,r,e⟩:=I.hok l _ a
 exact ⟨z,its,n,r,r.length,e⟩
theorem vA {n:Nat} (h:n<=sizeLine):Builtin.List.listTooLong n=false:=by
 unfold Builtin.List.listTooLong
 exact Cu (by omega)
end
section
variable {X:Cx}
def qX:V->List V->Hp->VK->Prop:=fun x a H Q=>∃ l xs y,x=.ref l/\a=[y]/\H l=some (.lst xs)/\xs.length < sizeLine/\Q .non (upd H l (.lst (xs ++ [y])))
theorem sJ:MtM X "list.append" qX:=by
 intro pins s σ H x f v us Q I c d h
 obtain ⟨l,xs,y,rfl,rfl,a,hz,q⟩:=h
 cases c
 obtain ⟨u,rfl,b⟩:=d.one
 obtain ⟨z,its,n,r,g,e⟩:=I.lstM a
 refine call_meets F.slot_list_append ⟨_,e,rfl⟩ F.entry_list_append (F.args_list_append_2 _ _) (PySem.list_append l its.toArray n u (by rw [Cr];omega)) ⟨e,?_⟩
 refine ⟨.non,_,I.lset (its':=its ++ [u]) a e (by simp) (r.append (.cons b .nil)) ?_,rfl,q⟩
 rw [Cz,List.length_singleton]
 omega
def qU:V->List V->Hp->VK->Prop:=fun x a H Q=>∃ l b xs zs,x=.ref l/\a=[.ref b]/\H l=some (.lst xs)/\H b=some (.lst zs)/\xs.length+zs.length<=sizeLine/\Q .non (upd H l (.lst (xs ++ zs)))
theorem sI:MtM X "list.extend" qU:=by
 intro pins s σ H x t v us Q I k o h
 obtain ⟨l,b,xs,zs,rfl,rfl,d,i,hz,q⟩:=h
 cases k
 obtain ⟨u,rfl,f⟩:=o.one
 cases f
 obtain ⟨z,its,n,r,y,e⟩:=I.lstM d
 obtain ⟨w,a,g,j,m,p⟩:=I.lstM i
 have hsz:its.toArray.size+a.toArray.size<=sizeLine:=by rw [Cr,Cr];omega
 have c:¬ (!its.toArray.isEmpty && Builtin.List.listTooLong (its.toArray.size+a.toArray.size))=true:=by
  rw [vA hsz,Bool.and_false]
  exact Cp
 refine call_meets F.slot_list_extend ⟨_,e,rfl⟩ F.entry_list_extend (F.args_list_extend_2 _ _)
  (AutoSeq1.list_extend_list_list_0 l its.toArray n b a.toArray g c (by rw [Cr];omega) (by omega)) ⟨e,p,?_⟩
 refine ⟨.non,_,I.lset (its':=its ++ a) d e (by simp) (r.append j) ?_,rfl,q⟩
 rw [Cz]
 omega
def xK:R2:=fun x y H Q=>∃ l b xs zs,x=.ref l/\y=.ref b/\H l=some (.lst xs)/\H b=some (.lst zs)/\xs.length+zs.length<=sizeLine/\∀ p,H p=none->Q (.ref p) (upd H p (.lst (xs ++ zs)))
theorem Bb:OpR X (binaryOp .Add) xK:=by
 intro pins s σ H x y v u Q I j c h
 obtain ⟨l,b,xs,zs,rfl,rfl,d,f,hz,q⟩:=h
 cases j
 cases c
 obtain ⟨z,its,n,r,t,e⟩:=I.lstM d
 obtain ⟨p,a,o,i,k,m⟩:=I.lstM f
 refine PySem.P.add_list e m ?_ (by rw [Cr,Cr];omega)
 have g:its.toArray ++ a.toArray=(its ++ a).toArray:=by simp
 rw [g]
 exact ⟨.ref _,_,I.lnew (t':=s.toks) (r.append i) (by rw [Cz];omega),rfl,q _ I.fresh⟩
end
end L2
namespace Att
open PySem PySem.W PySem.Calls PyProof.Rows
theorem jD:∀ (ns:List Int) (c:List Value),WellAll P h c (ns.map WData.int)->IntsAre c ns:=by
 intro ns
 induction ns with
 | nil =>
  intro c w
  rw [List.map_nil] at w
  cases w
  exact .nil
 | cons n ns ih =>
  intro c w
  rw [Cs] at w
  cases w with
  | cons a b =>
   cases a
   exact .cons _ _ (ih _ b)
theorem sh {l:OpenLaw} {n:Nat} (k:l.most=some n) (b:l.row.toRowW.claim.pre args=true) (g:WellAll P h vals args) :
  ∃ a i ns,vals=[Value.ref a]/\args=[WData.list (ns.map WData.int)]/\h.get? a=some { cls:=.type "list",data:=.seq i.toArray }/\IntsAre i ns/\ns.length<=n:=by
 have f:WShape.hasAll [] args [.list .int]=true:=(pre_splitW b).1
 have j:l.pre.holds [] { args:=args }=true:=(pre_splitW b).2
 obtain ⟨d,r,rfl,h1,h2⟩:=hasAllW_cons f
 obtain rfl:=hasAllW_nil h2
 obtain ⟨xs,rfl,h3⟩:=hasW_list h1
 obtain ⟨ns,rfl⟩:=items_int h3
 have hlen:ns.length<=n:=by
  unfold OpenLaw.pre at j
  have c:(WTm.not (.lt (.lit (.int (n:Int))) (.len (.arg 0)))).holds [] { args:=[.list (ns.map .int)] }=true:=by
   have c:=(holds_andW j).1
   rw [k] at c
   exact c
  have e:=condW_of c (w_not (w_lt w_lit (w_len_list (w_arg rfl))))
  rw [Ci] at e
  refine Nat.le_of_not_lt fun q=>?_
  have m:(n:Int) < ((ns.length:Nat):Int):=by omega
  first
   | (rw [Ct m] at e;exact absurd e (by decide))
   | (simp at e;omega)
 cases g with
 | cons w1 w2 =>
  cases w2
  cases w1 with
  | list ho hall=>exact ⟨_,_,ns,rfl,rfl,ho,jD ns _ hall,hlen⟩
theorem sC (l:OpenLaw) (args:List WData):l.row.toRowW.claim.post args (.bool true) args=true :=
 postW_of (r:=l.row.toRowW) (X:=(true == true))
  (show WShape.has [] (.bool true) .bool=true by first | rfl | decide | simp [WShape.has,WShape.arms,WShape.armsAll])
  (show (WTm.eq .res (.lit (.bool true))).value [] { args:=args,res:=some (.bool true),after:=args }=some (.bool (true == true)) from w_eq_bool (w_res rfl) w_lit) rfl
theorem attach_call {l:OpenLaw} {n:Nat} (A:l.most=some n) (k:d.params.defaults=[]) (call:∀ (w:World) (s₀ b:Shared) (mg mb:Str->Option Value) (e:Addr) (o:Obj) (pm cd doc:Value) (a:Addr) (c:List Value) (ns:List Int),
   Ground q loose [] XP w s₀ mg mb b.heap->YP w b.heap ->
   b.heap.get? e=some o->o.data=.func (docDef d.name d.params d.body d.scope pm cd doc)->b.heap.CodeRec cd d.name->mg d.name=some (.ref e) ->
   b.heap.get? a=some { cls:=.type "list",data:=.seq c.toArray }->IntsAre c ns->ns.length<=n->b.gens = #[] ->
   codeAny (model l.prog w) callerA (.call (.ref e) ⟨[.ref a],[]⟩) (fun r s'=>r=.ok (.ret (.bool true))/\OldK b.heap s'.heap/\s'.os=b.os/\AllBare s'.gens) b) :
  WalkO q loose XP YP l.row.toRowW d [] (fun f c=>PySem.call f c):=by
 intro w s₀ b mg mb G Y e o pm cd doc B kV t hd j p i y args vals as g s x m v
 obtain rfl:B=.none:=Dflts.none p k
 obtain rfl:kV=.none:=Dflts.noKw p
 obtain ⟨a,c,ns,rfl,rfl,h,hints,hlen⟩:=sh A g m
 refine enter_call (codeAny_mono (call w s₀ b mg mb e o pm cd doc a c ns G Y t (fd_plain hd) j i h hints hlen y) fun r s' u=>?_)
 obtain ⟨rfl,h2,h3,z⟩:=u
 exact ⟨.inl ⟨.bool true,.bool true,[],rfl,fun _=>rfl,.bool true,sC l _,fun _=>⟨List.Pairwise.nil,fun _ hm=>(nomatch hm)⟩⟩,h2,h3,z⟩
end Att
namespace L2
open PySem PySem.Spec PyProof.Rows
theorem kR:∀ {a:List Value} {ns:List Int},IntsAre a ns->Vals (ns.map V.int) a
 | _,_,.nil=>.nil
 | _,_,.cons n t h=>.cons ⟨t,rfl⟩ (kR h)
def yS (H:Hp):Prop:=∀ b,H b=none\/∃ o xs,H b=some (.frz o (.lst xs))
theorem vL {K:FG} {k:Nat} (M:K.In s₁.heap) (l:s₁.heap.Ns mainGlobals mg) (f:s₁.heap.Ns builtinsNs mb) (L:∀ x:Str,x ≠ "__name__"->mb x=bootBuiltins x) (y:s₁.heap.NoLimit) (Z:s₁.gens = #[]) (C:s₁.heap.get? a=some { cls:=.type "list",data:=.seq vs.toArray }) (hi:IntsAre vs ns) (O:ns.length<=sizeLine) (T:Room k callerA) (F:∀ base:Heap,K.In base->base.Ns mainGlobals mg->FnOk P w K mg base CX k fa fd [x] sp) (i:∀ (s:Shared) (u:Value),BindsTo s fd ⟨[u],[]⟩ [(x,u)]) (I:∀ H:Hp,yS H->SqL K H a (ns.map V.int)->sp [.ref a] H (fun v _=>v=.bl true) fun _ _ _=>False) (D:∀ H e s',CX [] H s₁ (fun _ _ _=>False) e s'->False) :
  codeAny (model P w) callerA (.call (.ref fa) ⟨[.ref a],[]⟩) (fun r s'=>r=.ok (.ret (.bool true))/\OldK s₁.heap s'.heap/\s'.os=s₁.os/\AllBare s'.gens) s₁:=by
 have R:=kR hi
 have j:=hi.length
 have core:∀ H:Hp,yS H->SqL K H a (ns.map V.int)->HOk P w H s₁.heap->(∀ b,H b ≠ none->b=a)->(H a ≠ none->K.lookup a=none) ->
   codeAny (model P w) callerA (.call (.ref fa) ⟨[.ref a],[]⟩) (fun r s'=>r=.ok (.ret (.bool true))/\OldK s₁.heap s'.heap/\s'.os=s₁.os/\AllBare s'.gens) s₁:=by
  intro H N hS hok Q U
  have c:∀ {b:Addr} {o:Obj},s₁.heap.get? b=some o->H b=none->(mq s₁.heap H).get? b=some o:=fun e n=>vX e n
  have E:∀ {b:Addr} {o:Obj} {es:Array DictEntry} {A:Nat},s₁.heap.get? b=some o->o.data=.dict es A->H b=none:=fun {b o es A} e d=>by
   cases q:H b with
   | none=>rfl
   | some u =>
    have J:b=a:=Q b (by rw [q];simp)
    subst J
    rw [C] at e;cases e
    have d':Data.seq vs.toArray _=Data.dict es A:=d
    cases d'
  have g:∀ {b:Addr} {m:Str->Option Value},s₁.heap.Ns b m->(mq s₁.heap H).Ns b m:=fun {b m} ⟨o,es,A,e,d,r⟩=>⟨o,es,A,c e (E e d),d,r⟩
  have B:K.In (mq s₁.heap H):=fun b o e=>c (M b o e) (by
   cases q:H b with
   | none=>rfl
   | some u =>
    have J:b=a:=Q b (by rw [q];simp)
    subst J
    rw [U (by rw [q];simp)] at e;cases e)
  have S:Mod K mg (mq s₁.heap H):=⟨B,g l,⟨mb,g f,L⟩,let ⟨mc,h1,h2⟩:=y;⟨mc,g h1,h2⟩⟩
  have e0:Env0 P w K mg (mq s₁.heap H) callerA [] s₁ H:=⟨rfl,S,fun b o e=>yh e,Nat.le_of_eq (sX _ _),trivial,fun b f=>absurd (show b ∈ ([]:List Addr) from f) (by simp),hok,.of_eq Z⟩
  refine codeAny_mono ((F _ B (g l)).run callerA [] s₁ H ⟨[.ref a],[]⟩ [.ref a] [.ref a] _ _ T e0 (i s₁ (.ref a)) (.cons rfl .nil) (I H N hS)) fun r s' h=>?_
  cases r with
  | error e=>exact (D H e s' h).elim
  | ok fl =>
   cases fl with
   | next=>exact False.elim h
   | brk=>exact False.elim h
   | cont=>exact False.elim h
   | ret u =>
    obtain ⟨v,H',os,bare,un,p,Y,q⟩:=h
    have X:v=.bl true:=q
    subst X
    obtain rfl:u=Value.bool true:=Y
    refine ⟨rfl,OldK.of_keep fun b o e=>?_,os,bare⟩
    cases q:H b with
    | none=>exact un.keep b o e q (by intro z;exact absurd (show b ∈ ([]:List Addr) from z) (by simp)) (by simp)
    | some u =>
     rcases N b with z | ⟨ob,xs,z⟩
     ·rw [q] at z;cases z
     ·have W:=un.frzs b ob _ z
      obtain ⟨e1,_⟩:=hok b _ z
      obtain ⟨e2,_⟩:=p b _ W
      rw [e] at e1;cases e1
      exact e2
 cases G:K.lookup a with
 | some o =>
  have e:=M a o G
  rw [C] at e
  cases e
  refine core (fun _=>none) (fun _=>.inl rfl) (.inr ⟨_,vs.toArray,_,G,rfl,rfl,rfl,by rw [Cr,j];exact O,by simpa using R⟩) (fun b u z=>by have t:(none:Option HO)=some u:=z;cases t) (fun b z=>absurd rfl z) fun z=>absurd rfl z
 | none =>
  refine core (fun b=>if b=a then some (.frz { cls:=.type "list",data:=.seq vs.toArray } (.lst (ns.map V.int))) else none) (fun b=>?_) (.inl (.inr ⟨{ cls:=.type "list",data:=.seq vs.toArray },if_pos rfl⟩)) (fun b u z=>?_) (fun b z=>?_) fun _=>G
  ·by_cases f:b=a
   ·exact .inr ⟨_,_,if_pos f⟩
   ·exact .inl (if_neg f)
  ·by_cases f:b=a
   ·have t:=(if_pos f).symm.trans z
    cases t
    subst f
    exact ⟨C,by rw [Ci];exact O,vs,_,R,C⟩
   ·have t:=(if_neg f).symm.trans z
    cases t
  ·by_cases f:b=a
   ·exact f
   ·exact absurd (if_neg f) z
end L2
namespace L2
open PySem PySem.Spec PyProof.Rows
end L2
namespace L2
open PySem PySem.Spec PyProof.Rows
abbrev CX0:CXT:=fun _ _ _ _ _ _=>False
abbrev E0:XK:=fun _ _ _=>False
theorem pass0:qI CX0 X E0:=fun _ _ _ _ _ _ _ h=>h.elim
structure Fun (K:FG) (x qual:Str) (st:Stmt) (f:Addr) (fd:FuncData):Prop where
 ex:∃ (oc:Value) (od:Option Addr) (kV doc pm:Value) (an:Option Addr) (cdv ct:Value) (osl:Array (Option Value)),
  fd=PySem.W.fnOf x qual (aW st) (aM st) (af st) .none kV doc pm an cdv ct/\K.lookup f=some ⟨oc,od,.func fd,osl⟩/\PySem.W.codeIn K cdv qual=true
 kp:PySem.W.keepIn K (.ref f)=true
section
variable {P:Program} {w:World} {K:FG} {mg:Str->Option Value} {base:Heap}
theorem Fun.ok {st:Stmt} {k:Nat} (F:Fun K x qual st f fd) (S:FnScope N ps (af st)) (len:∀ b H Q E,sp b H Q E->b.length=ps.length) (c:∀ (a:Value) (A:Around) (outer:List Env) (s:Shared) (H:Hp) (b:List V) (Q:VK) (E:XK),Room k (A.deeper (envOfC qual (af st) s.heap.objs.size f a))->sp b H Q E ->
   ∃ t,PSs (oB CX0 P w K mg base N qual (af st) f a A outer s H E).nox (aM st) t/\t { nx:=fun _ H'=>Q .non H',rt:=Q } (jo N b) H):FnOk P w K mg base CX0 (k+1) f fd ps sp:=by
 obtain ⟨m,l,kV,doc,pm,an,a,ct,j,rfl,i,d⟩:=F.ex
 refine fn_of i d S len fun A outer s H b Q E g e=>?_
 obtain ⟨t,h,q⟩:=c a A outer s H b Q E g e
 exact ⟨t,h.nox,q⟩
theorem Fun.binds {st:Stmt} (F:Fun K x qual st f fd) (h:∀ (kV doc pm:Value) (an:Option Addr) (a ct:Value) (us:List Value),us.length=ps.length->bindArgs (PySem.W.fnOf x qual (aW st) (aM st) (af st) .none kV doc pm an a ct) ⟨us,[]⟩=pure (ps.zip us)):Binds K fd ps []:=by
 obtain ⟨e,d,kV,doc,pm,an,a,ct,c,rfl,g,b⟩:=F.ex
 exact .all (h kV doc pm an a ct)
theorem BE {st:Stmt} {kV doc pm a ct:Value} (l:K.lookup f=some ⟨oc,od,.func (PySem.W.fnOf x qual (aW st) (aM st) (af st) .none kV doc pm an a ct),osl⟩) (c:PySem.W.codeIn K a qual=true) (k:PySem.W.keepIn K (.ref f)=true):Fun K x qual st f (PySem.W.fnOf x qual (aW st) (aM st) (af st) .none kV doc pm an a ct):=⟨⟨oc,od,kV,doc,pm,an,a,ct,osl,rfl,l,c⟩,k⟩
end
theorem hu_of {k:Nat} (a:Room k A):A.units+1 < cLine:=Nat.lt_of_le_of_lt (Nat.add_le_add_left (by decide:1<=64) _) a.units
def Same (H H':Hp):Prop:=∀ b o,H b=some o->H' b=some o
theorem Same.refl (H:Hp):Same H H:=fun _ _ h=>h
theorem Same.trans (a:Same H H1) (b:Same H1 H2):Same H H2:=fun c o h=>b c o (a c o h)
theorem Same.free (e:Same H H') (h:H' l=Option.none):H l=Option.none:=by
 cases q:H l with
 | none=>rfl
 | some o =>
  rw [e l o q] at h
  cases h
end L2
end
section
namespace L2
open PySem PySem.Spec PyProof.Rows
section
variable {prog:Program} {w:World} {A:Around} {E:Value->Shared->Prop} {s:Shared}
theorem mY (ty:s.TypeIs (.ref d) "dict") (h:wpAny (model prog w) A.in1 (dictSet d k v) Q E s) :
  wpAny (model prog w) A (setItem (.ref d) k v) Q E s:=by
 unfold setItem
 refine B5 (B0 (wpAny_sequenceKey ty (by decide) (B0 (wpAny_callSpecial?_slot ty slot_dict_setitem (wpAny_call_entry slot_dict_setitem ty entry_dict_setitem ?_ (args_dict_setitem _ _ _))))))
 refine B0 (wpAny_notOrdered_dict ty ?_)
 refine (?_:wpAny _ _ (dictSet d k v >>= _) _ _ s)
 exact B0 (wpAny_mono h (fun _ _ z=>B4 ⟨_,rfl,B4 z⟩) fun _ _ z=>z)
theorem kT {c:Int} {b:Nat} {F:Option Nat->Prop} (a:s.heap.get? d=some o) (g:o.ExactDict) (hd:o.data=.dict es b) (hz:es.size<=sizeLine) (find:wpAny (model prog w) A (dictFind d key c) (fun r s'=>s'=s/\F r) E s) (old:∀ i h' o',F (some i)->h'.get? d=some o'->o'.ExactDict->o'.data=.dict (es.modify i fun e=>{ e with val:=v }) b->Heap.SameBut d s.heap h'->Q () { s with heap:=h' }) (new:∀ h' o',F none->h'.get? d=some o'->o'.ExactDict->o'.data=.dict (es.push ⟨c,key,v⟩) (b+1)->Heap.SameBut d s.heap h'->Q () { s with heap:=h' }) :
  wpAny (model prog w) A (dictSetHashed d key c v) Q E s:=by
 unfold dictSetHashed
 refine B5 (B0 (wpAny_mono find ?_ fun _ _ z=>z))
 rintro (_ | i) _ ⟨rfl,f⟩
 ·exact B0 (wpAny_rule (wpAny_updateDictKeys (hz:=hz) a hd (new _ _ f (Cy _ a (Obj.isFreed_of_dict (Obj.data_mapDictKeys hd _))) (g.mapDictKeys _) (Obj.data_mapDictKeys hd _) (Heap.SameBut.update ..))))
 ·exact B0 (wpAny_rule (B0 (wpAny_updateDict a hd (wpAny_point (old i _ _ f (Cy _ a (Obj.isFreed_of_dict (Obj.data_mapDict hd _))) (g.mapDict _) (Obj.data_mapDict hd _) (Heap.SameBut.update ..))))))
end
section
variable {prog:Program} {w:World} {K:Type} [DecidableEq K] {A:Around} {E:Value->Shared->Prop} {s:Shared} {d:Addr} {k:K}
section
variable {knd:HeapKind prog w K}
def DictOfHE (knd:HeapKind prog w K) (h:Heap) (d:Addr) (xs:List (K × Addr × Value)):Prop :=
 ∃ o es a,h.get? d=some o/\o.ExactDict/\o.data=.dict es a/\es.toList=xs.map (entryOfKey knd)/\(∀ x ∈ xs,knd.is h x.1 x.2.1)/\(xs.map (·.1)).Nodup/\a=es.size
theorem DictOfHE.of (x:DictOfHE knd h d xs):h.DictOfH knd d xs:=let ⟨o,es,b,h1,h2,h3,c,a,e,_⟩:=x;⟨o,es,b,h1,h2,h3,c,a,e⟩
theorem sH {y:Addr × Value} (c:(xs.map (·.1)).Nodup) (h:k ∉ xs.map (·.1)):((xs ++ [(k,y)]).map (·.1)).Nodup:=by
 rw [List.map_append]
 exact List.nodup_append.mpr ⟨c,List.nodup_cons.mpr ⟨List.not_mem_nil,List.nodup_nil⟩,fun x a y b e=>h (by have:=CG.mp b;subst this;exact e ▸ a)⟩
theorem gk (hu:knd.room A) (b:knd.is s.heap k a) (hm:DictOfHE knd s.heap d xs) (n:∀ h',DictOfHE knd h' d (storedH xs k a v)->Heap.SameBut d s.heap h'->Q () { s with heap:=h',toks:=s.toks+knd.draws k }) (hsz:xs.length<=sizeLine:=by size_fits):wpAny (model prog w) A (dictSet d (.ref a) v) Q E s:=by
 obtain ⟨o,es,t,l,r,hd,he,g,m,rfl⟩:=hm
 unfold dictSet
 refine B5 (B0 (knd.pyHash hu b ?_))
 refine kT (s:={ s with toks:=s.toks+knd.draws k }) (F:=fun | none=>∀ (j:Nat) (p:Addr × Value),xs[j]? ≠ some (k,p) | some j=>∃ p,xs[j]?=some (k,p)) l r hd (size_of_entries he ▸ hsz)
  (wpAny_dictFind_heap (s:={ s with toks:=s.toks+knd.draws k }) hu b l hd he g m (fun z=>⟨rfl,z⟩) fun j p z=>⟨rfl,p,z⟩) ?_ ?_
 ·rintro i h' o' ⟨p,f⟩ g1 g2 g3 h
  have at':=storedH_old (atKey_of_get m f) a v
  refine n h' ⟨o',_,_,g1,g2,g3,?_,?_,?_,?_⟩ h <;> try rw [at']
  ·rw [Array.toList_modify,he]
   exact modify_map_putAt (entryOfKey knd) _ k v (fun _ _=>rfl) m f
  ·intro x c
   obtain ⟨y,q,rfl⟩:=Cm.mp c
   have:=knd.keeps (g y q) l hd h
   by_cases e:y.1=k <;> simpa [putAt,e] using this
  ·exact (keys_map_putAt xs k v).symm ▸ m
  ·exact (Array.size_modify).symm
 ·intro h' o' f g1 g2 g3 h
  have at':=storedH_new (atKey_none_of_get f) a v
  refine n h' ⟨o',_,_,g1,g2,g3,?_,?_,?_,?_⟩ h <;> try rw [at']
  ·simp [he,entryOfKey]
  ·intro x c
   rcases Cg.mp c with c | c
   ·exact knd.keeps (g x c) l hd h
   ·cases CG.mp c;exact knd.keeps b l hd h
  ·exact sH m (not_mem_keys_of_get f)
  ·simp
theorem kE (hu:knd.room A.in1) (b:knd.is s.heap k a) (hm:DictOfHE knd s.heap d xs) (c:∀ h',DictOfHE knd h' d (storedH xs k a v)->Heap.SameBut d s.heap h'->Q () { s with heap:=h',toks:=s.toks+knd.draws k }) (hsz:xs.length<=sizeLine:=by size_fits):wpAny (model prog w) A (setItem (.ref d) (.ref a) v) Q E s :=
 mY hm.of.typeIs (gk (hsz:=hsz) hu b hm c)
end
section
variable {knd:KeyKind prog w K} {key:Value}
theorem fR (a:knd.is k key=true) (hm:DictOfE knd s.heap d kvs) (m:∀ h',DictOfE knd h' d (stored kvs k v)->Heap.SameBut d s.heap h'->Q () { s with heap:=h',toks:=s.toks+1 }) (hsz:kvs.length<=sizeLine:=by size_fits):wpAny (model prog w) A (dictSet d key v) Q E s:=by
 obtain ⟨o,⟨es⟩,t,l,q,hd,g,b,j,rfl⟩:=hm
 have same:=b.findIdx k
 have hz:(⟨es⟩:Array DictEntry).size<=sizeLine:=by have:=b.length;simp at this ⊢;omega
 unfold dictSet
 refine B5 (B0 (knd.pyHash a ?_))
 refine kT (s:={ s with toks:=s.toks+1 }) (F:=fun r=>es.findIdx? (fun e=>knd.is k e.key)=r) l q hd hz
  (wpAny_dictFind_of (s:={ s with toks:=s.toks+1 }) a l hd g ⟨rfl,by simp⟩) ?_ ?_
 ·intro i h' o' f g1 g2 g3 h
  have at':stored kvs k v=_:=if_pos (any_of_findIdx_some (same.symm.trans f))
  refine m h' ⟨o',_,_,g1,g2,g3,g.modify _ _,?_,?_,(Array.size_modify).symm⟩ h <;> rw [at']
  ·simpa using b.modify j f v
  ·exact (keys_map_store kvs k v).symm ▸ j
 ·intro h' o' f g1 g2 g3 h
  have no:=not_mem_of_findIdx_none (same.symm.trans f)
  have at':stored kvs k v=_:=if_neg fun z=>by
   obtain ⟨x,c,e⟩:=List.any_eq_true.mp z
   exact no (Cm.mpr ⟨x,c,of_decide_eq_true e⟩)
  refine m h' ⟨o',_,_,g1,g2,g3,g.push a _,?_,?_,by simp⟩ h <;> rw [at']
  ·simpa using b.append a (knd.hash k) v
  ·rw [List.map_append]
   exact List.nodup_append.mpr ⟨j,List.nodup_cons.mpr ⟨List.not_mem_nil,List.nodup_nil⟩,fun x c y n e=>no (by cases CG.mp n;have p:x=k:=e;exact p ▸ c)⟩
theorem jX (a:knd.is k key=true) (hm:DictOfE knd s.heap d kvs) (b:∀ h',DictOfE knd h' d (stored kvs k v)->Heap.SameBut d s.heap h'->Q () { s with heap:=h',toks:=s.toks+1 }) (hsz:kvs.length<=sizeLine:=by size_fits):wpAny (model prog w) A (setItem (.ref d) key v) Q E s :=
 mY hm.of.typeIs (fR (hsz:=hsz) a hm b)
end
end
section
variable {κ:Type} [DecidableEq κ]
def jz (kvs:List (κ × V)) (k:κ):Option V:=(kvs.find? fun a=>decide (a.1=k)).map (·.2)
def eL (kvs:List (κ × V)) (k:κ) (v:V):List (κ × V) :=
 if (kvs.any fun a=>decide (a.1=k))=true then kvs.map (fun a=>if a.1=k then (a.1,v) else a) else kvs ++ [(k,v)]
theorem gx {p:κ × V} {k:κ} (e:p.1=k):jz (p :: r) k=some p.2:=by simp [jz,List.find?_cons,e]
theorem gz {p:κ × V} {k:κ} (e:¬ p.1=k):jz (p :: r) k=jz r k:=by simp [jz,List.find?_cons,e]
theorem mT (k:κ):∀ kvs:List (κ × V),(kvs.any fun a=>decide (a.1=k))=(jz kvs k).isSome
 | []=>rfl
 | p :: r=>by
  rw [List.any_cons]
  by_cases e:p.1=k
  ·simp only [gx e,Ct e,Bool.true_or,Option.isSome_some]
  ·rw [gz e,Cu e,Bool.false_or];exact mT k r
theorem ju (kvs:List (κ × V)) (k:κ) (v:V):(eL kvs k v).length<=kvs.length+1:=by
 unfold eL
 split
 ·rw [Ci];omega
 ·rw [Cz,CA,List.length_nil];omega
theorem RelO.isSome_eq (r:RelO o u):o.isSome=u.isSome:=by
 cases o with
 | none=>cases u with
  | none=>rfl
  | some _=>exact (show False from r).elim
 | some _=>cases u with
  | none=>exact (show False from r).elim
  | some _=>rfl
theorem RelO.getD (r:RelO o u) (a:RelV d d'):RelV (o.getD d) (u.getD d'):=by
 cases o with
 | none=>cases u with
  | none=>exact a
  | some _=>exact (show False from r).elim
 | some _=>cases u with
  | none=>exact (show False from r).elim
  | some _=>exact r
theorem KV.val (r:KV kvs vs) (k:κ):RelO (jz kvs k) (valueAt vs k):=by
 unfold KV at r
 induction r with
 | nil=>exact True.intro
 | @cons p q ps qs h t ih =>
  obtain ⟨h1,h2⟩:=h
  by_cases e:p.1=k
  ·have a:q.1=k:=h1.symm.trans e
   have b:valueAt (q :: qs) k=some q.2:=by simp [valueAt,List.find?_cons,a]
   rw [gx e,b];exact h2
  ·have a:¬ q.1=k:=fun z=>e (h1.trans z)
   have b:valueAt (q :: qs) k=valueAt qs k:=by simp [valueAt,List.find?_cons,a]
   rw [gz e,b];exact ih
theorem KV.any (r:KV kvs vs) (k:κ):(kvs.any fun a=>decide (a.1=k))=vs.any fun a=>decide (a.1=k):=by
 unfold KV at r
 induction r with
 | nil=>rfl
 | cons h t ih=>rw [List.any_cons,List.any_cons,ih,h.1]
theorem KV.repl (r:KV kvs vs) (k:κ) (b:RelV y u) :
  KV (kvs.map fun a=>if a.1=k then (a.1,y) else a) (vs.map fun a=>if a.1=k then (a.1,u) else a):=by
 unfold KV at r ⊢
 induction r with
 | nil=>exact .nil
 | @cons p q ps qs h t ih =>
  rw [Cs,Cs]
  refine .cons ?_ ih
  obtain ⟨h1,h2⟩:=h
  by_cases e:p.1=k
  ·rw [if_pos e,if_pos (h1.symm.trans e)];exact ⟨h1,b⟩
  ·rw [if_neg e,if_neg (fun z=>e (h1.trans z))];exact ⟨h1,h2⟩
theorem KV.put (r:KV kvs vs) (k:κ) (a:RelV y u):KV (eL kvs k y) (stored vs k u):=by
 unfold eL stored
 rw [r.any k]
 by_cases e:(vs.any fun b=>decide (b.1=k))=true
 ·rw [if_pos e,if_pos e];exact r.repl k a
 ·rw [if_neg e,if_neg e];exact Paired.snoc r ⟨rfl,a⟩
theorem KV.length {kvs:List (κ × V)} (r:KV kvs vs):kvs.length=vs.length:=Paired.length r
end
theorem rm (r:RelV (kV k) u):(bA P w).is k u=true:=by
 cases k with
 | inl i=>obtain ⟨t,e⟩:=(show ∃ t,u=Value.int i t from r);subst e;exact nK P w i t
 | inr x=>obtain ⟨t,e⟩:=(show ∃ t,u=Value.str x t from r);subst e;exact nJ P w x t
theorem lq:∀ {a:List Key} {us:List Value},Vals (a.map kV) us->ItemsAre (bA P w) a us
 | [],_,r=>by rw [List.map_nil] at r;cases r;exact .nil
 | k :: a,_,r=>by
  rw [Cs] at r
  cases r with
  | cons h t=>exact .cons (rm h) (lq t)
abbrev KT (H:Hp):List (List Key × V)->List (List Key × Addr × Value)->Prop:=Paired fun p q=>p.1=q.1/\H q.2.1=some (.tup (p.1.map kV))/\RelV p.2 q.2.2
theorem KT.val (r:KT H kvs xs) (k:List Key):RelO (jz kvs k) ((atKey xs k).map (·.2)):=by
 induction r with
 | nil=>exact True.intro
 | @cons p q ps qs h t ih =>
  obtain ⟨h1,_,h2⟩:=h
  by_cases e:p.1=k
  ·have a:q.1=k:=h1.symm.trans e
   have b:atKey (q :: qs) k=some q.2:=by simp [atKey,List.find?_cons,a]
   rw [gx e,b];exact h2
  ·have a:¬ q.1=k:=fun z=>e (h1.trans z)
   have b:atKey (q :: qs) k=atKey qs k:=by simp [atKey,List.find?_cons,a]
   rw [gz e,b];exact ih
theorem KT.repl (r:KT H kvs xs) (k:List Key) (b:RelV y u) :
  KT H (kvs.map fun a=>if a.1=k then (a.1,y) else a) (xs.map (putAt k u)):=by
 induction r with
 | nil=>exact .nil
 | @cons p q ps qs h t ih =>
  rw [Cs,Cs]
  refine .cons ?_ ih
  obtain ⟨h1,h2,h3⟩:=h
  unfold putAt
  by_cases e:p.1=k
  ·rw [if_pos e,if_pos (h1.symm.trans e)];exact ⟨h1,h2,b⟩
  ·rw [if_neg e,if_neg (fun z=>e (h1.trans z))];exact ⟨h1,h2,h3⟩
theorem KT.put (r:KT H kvs xs) (k:List Key) (c:H b=some (.tup (k.map kV))) (a:RelV y u) :
  KT H (eL kvs k y) (storedH xs k b u):=by
 have e:(kvs.any fun d=>decide (d.1=k))=(atKey xs k).isSome:=by
  rw [mT,(r.val k).isSome_eq,Option.isSome_map]
 unfold eL storedH
 rw [e]
 by_cases q:(atKey xs k).isSome=true
 ·rw [if_pos q,if_pos q];exact r.repl k a
 ·rw [if_neg q,if_neg q];exact Paired.snoc r ⟨rfl,c,a⟩
theorem KT.keeps (r:KT H kvs xs) (a:∀ b ys,H b=some (.tup ys)->H' b=some (.tup ys)):KT H' kvs xs :=
 Paired.mapP r fun _ _ z=>⟨z.1,a _ _ z.2.1,z.2.2⟩
section
variable {P:Program} {w:World} {H:Hp} {h:Heap} {a:Addr}
theorem zb (ok:HOk P w H h) (e:Rd H a u):ObjOk P w H h a u:=e.ok ok
theorem ql (ok:HOk P w H h) (e:Rd H a (.dK kvs)):kvs.length<=sizeLine/\(a == sysModules)=false/\∃ b,KV kvs b/\DictOfE (bA P w) h a b :=
 show ObjOk P w H h a (.dK kvs) from zb ok e
theorem zr (ok:HOk P w H h) (e:Rd H a (.dK kvs)):kvs.length<=sizeLine/\(a == sysModules)=false/\∃ b,KV kvs b/\h.DictOf (bA P w) a b:=let ⟨z,y,b,r,d⟩:=ql ok e;⟨z,y,b,r,d.of⟩
theorem mi (ok:HOk P w H h) (e:H a=some (.tup (ks.map kV))):(tupleKind (bA P w)).is h ks a:=by
 obtain ⟨_,its,r,o,h1,h2,n,h3⟩:=(show ObjOk P w H h a (.tup (ks.map kV)) from ok a _ e)
 exact ⟨o,its.toArray,n,h1,h2,congrArg Prod.fst h3,by simpa using lq r⟩
theorem qk (ok:HOk P w H h) (e:Rd H a (.dT kvs)):kvs.length<=sizeLine/\(a == sysModules)=false /\
  ∃ xs,KT H kvs xs/\DictOfHE (tupleKind (bA P w)) h a xs:=by
 obtain ⟨z,y,xs,r,o,es,f,h1,h2,h3,c,d⟩:=(show ObjOk P w H h a (.dT kvs) from zb ok e)
 refine ⟨z,y,xs,r,o,es,f,h1,h2,h3,c,fun x b=>?_,d⟩
 have all:∀ {l:List (List Key × V)} {m:List (List Key × Addr × Value)},KT H l m->∀ x ∈ m,(tupleKind (bA P w)).is h x.1 x.2.1:=by
  intro l m q
  induction q with
  | nil=>intro x b;exact nomatch b
  | @cons p q ps qs hq t ih =>
   intro x b
   rcases Cd.mp b with e | b
   ·subst e
    exact mi ok (by rw [<- hq.1];exact hq.2.1)
   ·exact ih x b
 exact all r x b
theorem zq (ok:HOk P w H h) (e:Rd H a (.dT kvs)):kvs.length<=sizeLine/\(a == sysModules)=false /\
  ∃ xs,KT H kvs xs/\h.DictOfH (tupleKind (bA P w)) a xs:=let ⟨z,y,xs,r,d⟩:=qk ok e;⟨z,y,xs,r,d.of⟩
end
def DGet (H:Hp) (a:Addr) (y:V) (r:Option V):Prop :=
 (∃ kvs k,Rd H a (.dK kvs)/\y=kV k/\r=jz kvs k)\/∃ kvs k b,Rd H a (.dT kvs)/\y=.ref b/\H b=some (.tup (k.map kV))/\r=jz kvs k
def DPut (H:Hp) (a:Addr) (y v:V) (H':Hp):Prop :=
 (∃ kvs k,H a=some (.dK kvs)/\y=kV k/\kvs.length < sizeLine/\H'=upd H a (.dK (eL kvs k v))) \/
 ∃ kvs k b,H a=some (.dT kvs)/\y=.ref b/\H b=some (.tup (k.map kV))/\kvs.length < sizeLine/\H'=upd H a (.dT (eL kvs k v))
theorem DGet.t (e:H a=some (.dT kvs)) (c:H b=some (.tup (k.map kV))):DGet H a (.ref b) (jz kvs k):=.inr ⟨kvs,k,b,.inl e,rfl,c,rfl⟩
theorem DPut.t (e:H a=some (.dT kvs)) (d:H b=some (.tup (k.map kV))) (c:kvs.length < sizeLine) :
  DPut H a (.ref b) v (upd H a (.dT (eL kvs k v))):=.inr ⟨kvs,k,b,e,rfl,d,c,rfl⟩
section
variable {X:Cx} {pins:List (Addr × Obj)} {σ:St} {H:Hp} {s:Shared} {a:Addr} {y v:V} {u r:Value} {o:Option V} {A:Around} {E:Value->Shared->Prop}
theorem Inv.big (I:Inv X pins σ H s):sysModules < s.heap.objs.size:=by
 have h:mainGlobals < s.heap.objs.size:=(I.mod.glob.keeps I.bk).lt
 exact Nat.lt_trans (by decide) h
theorem tw (hu:A.units+1 < cLine) (I:Inv X pins σ H s) (g:DGet H a y (some v)) (m:RelV y u) (h:∀ d s',Inv X pins σ H s'->RelV v d->Q d s') :
  wpAny (model X.prog X.w) A (getItem (.ref a) u) Q E s:=by
 rcases g with ⟨kvs,k,e,i,l⟩ | ⟨kvs,k,b,e,i,q,l⟩
 ·subst i
  obtain ⟨z,hd,n,rel,f⟩:=zr I.hok e
  obtain ⟨d,hw,c⟩:=RelO.some_of (v:=v) (o:=valueAt n k) (by rw [l];exact rel.val k)
  exact wpAny_getItem_of (rm m) f.mapOf hw (h d _ (I.tok _) c)
 ·subst i
  cases (show u=Value.ref b from m)
  obtain ⟨z,hd,xs,rel,f⟩:=zq I.hok e
  obtain ⟨d,hw,c⟩:=RelO.some_of (v:=v) (o:=(atKey xs k).map (·.2)) (by rw [l];exact rel.val k)
  obtain ⟨p,r,j⟩:=B9.mp hw
  refine wpAny_getItem_heap (tupleKind_room_in1 hu) (mi I.hok q) f r ?_
  rw [j]
  exact h d _ (I.tok _) c
theorem jS {t':Nat} (I:Inv X pins σ H s) (f:Mut (H a)) (d:Heap.SameBut a s.heap h') (he:∃ q,h'.get? a=some q) (new:ObjOk X.prog X.w (upd H a ob) h' a ob) :
  Inv X pins σ (upd H a ob) { s with heap:=h',toks:=t' } :=
 I.write (x:=a) (e:=a) f (.inl rfl) (fun b q c z=>(d.2 b c).trans z) he new
theorem wo (z:kvs.length<=sizeLine) (hd:(a == sysModules)=false) (rel:KV kvs vs) (b:DictOfE (bA P w) h' a vs) :
  ObjOk P w H' h' a (.dK kvs):=⟨z,hd,vs,rel,b⟩
theorem tv (hu:A.units+1 < cLine) (I:Inv X pins σ H s) (g:DPut H a y v H') (t:RelV y u) (B:RelV v r) (h:∀ s',Inv X pins σ H' s'->Q () s') :
  wpAny (model X.prog X.w) A (setItem (.ref a) u r) Q E s:=by
 rcases g with ⟨kvs,k,e,o,l,m⟩ | ⟨kvs,k,b,e,o,p,l,m⟩
 ·subst o m
  obtain ⟨z,hd,C,rel,n⟩:=ql I.hok (.inl e)
  have hz:C.length<=sizeLine:=by rw [<- rel.length];exact z
  have i:(eL kvs k v).length<=sizeLine:=by have:=ju kvs k v;omega
  refine jX (hsz:=hz) (rm t) n fun h' d j=>h _ ?_
  have he:∃ q,h'.get? a=some q:=let ⟨q,_,_,f,_⟩:=d;⟨q,f⟩
  exact jS I (by rw [e];exact True.intro) j he (wo i hd (rel.put k B) d)
 ·subst o m
  cases (show u=Value.ref b from t)
  obtain ⟨z,hd,xs,rel,n⟩:=qk I.hok (.inl e)
  have hz:xs.length<=sizeLine:=by rw [<- Paired.length rel];exact z
  have i:(eL kvs k v).length<=sizeLine:=by have:=ju kvs k v;omega
  refine kE (hsz:=hz) (tupleKind_room_in1 hu) (mi I.hok p) n fun h' d j=>h _ ?_
  obtain ⟨q,es,G,f,h2,h3,D,_,F⟩:=d
  refine jS I (by rw [e];exact True.intro) j ⟨q,f⟩ ⟨i,hd,_,(rel.put k p B).keeps fun c ys x=>?_,q,es,G,f,h2,h3,D,F⟩
  rw [au (zg x e (fun z=>nomatch z))]
  exact x
end
theorem oA (I:Inv X pins σ H s) (g:DGet H a y o):s.TypeIs (.ref a) "dict":=by
 rcases g with ⟨kvs,k,e,_,_⟩ | ⟨kvs,k,b,e,_,_,_⟩
 ·obtain ⟨_,_,d,_,c⟩:=zr I.hok e
  exact c.typeIs
 ·obtain ⟨_,_,xs,_,c⟩:=zq I.hok e
  exact c.typeIs
theorem wq (h:Heap) (a:sysModules < h.objs.size):ObjOk P w H (h.push { cls:=.type "dict",data:=.dict #[] }) h.objs.size (.dK []) :=
 ⟨Nat.zero_le _,beq_eq_false_iff_ne.mpr (Ne.symm (Cq a)),[],.nil,_,#[],0,Ch _ rfl,⟨rfl,rfl,rfl⟩,rfl,(fun _ h=>by simp at h),.nil,List.nodup_nil,rfl⟩
theorem ot (h:Heap) (a:sysModules < h.objs.size):ObjOk P w H (h.push { cls:=.type "dict",data:=.dict #[] }) h.objs.size (.dT []) :=
 ⟨Nat.zero_le _,beq_eq_false_iff_ne.mpr (Ne.symm (Cq a)),[],.nil,_,#[],0,Ch _ rfl,⟨rfl,rfl,rfl⟩,rfl,rfl,List.nodup_nil,rfl⟩
def zU:TE:=fun _ H Q=>∀ p,H p=none->Q (.ref p) (upd H p (.dT []))
section
variable {X:Cx} {pos:Pos}
theorem vj:PE X (.Dict [] [] pos) zU:=fun pins s σ H Q I h =>
 wpAny_Dict_empty ⟨.ref s.heap.objs.size,_,I.laid (a:=s.heap.objs.size) (o:=.dT []) (t':=s.toks) (fun _ _ q=>B8 _ q) (Co _) (ot s.heap I.big),rfl,h _ (I.hok.fresh (Co _))⟩
end
end L2
namespace L2
open PySem PySem.Spec PyProof.Rows
end L2
end
section
namespace L2
open PySem PySem.Spec PyProof.Rows
def jF (cells:List (Str × Addr)) (cs:List (Str × Addr)) (x:Str × NameKind):List (Str × Addr) :=
 if x.2 == .free then (match cells.lookup x.1 with | some c=>(x.1,c) :: cs | none=>cs) else cs
def clo (cells:List (Str × Addr)) (names:List (Str × NameKind)):List (Str × Addr):=names.foldl (jF cells) []
theorem ki {α β:Type} {f:α->β->Sem (ForInStep β)} {g:β->α->β}:∀ {l:List α} {c:β},(∀ x ∈ l,∀ c,f x c=pure (.yield (g c x)))->forIn l c f=pure (l.foldl g c)
 | [],c,_=>rfl
 | x :: l,c,h=>by
  rw [List.forIn_cons,h x B6,pure_bind]
  exact ki fun y a=>h y (B7 _ a)
theorem fV (h:∀ x ∈ scope.names,x.2=.free->∃ c,env.cells.lookup x.1=some c):closureFor scope env=pure (clo env.cells scope.names):=by
 simp only [closureFor]
 rw [ki (g:=jF env.cells) (fun x d c=>by
  obtain ⟨n,kind⟩:=x
  unfold jF
  by_cases b:kind=.free
  ·subst b
   obtain ⟨a,e⟩:=h _ d rfl
   have i:env.cells.lookup n=some a:=e
   simp [cellOf,i]
  ·have f:(kind == NameKind.free)=false:=by simpa using b
   simp [f])]
 rfl
theorem lw:∀ {l:List (Str × NameKind)} {cs:List (Str × Addr)},(∀ y d,cs.lookup y=some d->cells.lookup y=some d)->(l.foldl (jF cells) cs).lookup x=some c->cells.lookup x=some c
 | [],cs,h,e=>h x c e
 | y :: l,cs,h,e=>by
  refine lw (l:=l) (cs:=jF cells cs y) (fun z d q=>?_) e
  unfold jF at q
  split at q
  ·cases b:cells.lookup y.1 with
   | none=>rw [b] at q;exact h z d q
   | some a =>
    rw [b] at q
    simp only [List.lookup_cons] at q
    cases hz:z == y.1 with
    | true=>rw [hz] at q;have:=eq_of_beq hz;subst this;rw [b];exact q
    | false=>rw [hz] at q;exact h z d q
  ·exact h z d q
theorem mx (e:(clo cells l).lookup x=some c):cells.lookup x=some c:=lw (fun _ _ q=>by simp at q) e
theorem kj (b:cells.lookup x=some c):∀ {l:List (Str × NameKind)} {cs:List (Str × Addr)},cs.lookup x=some c->(l.foldl (jF cells) cs).lookup x=some c
 | [],_,e=>e
 | y :: l,cs,e=>by
  refine kj b (l:=l) (cs:=jF cells cs y) ?_
  unfold jF
  split
  ·cases d:cells.lookup y.1 with
   | none=>exact e
   | some a =>
    simp only [List.lookup_cons]
    cases hz:x == y.1 with
    | true=>have:=eq_of_beq hz;subst this;rw [b] at d;exact d.symm
    | false=>exact e
  ·exact e
theorem lx (a:cells.lookup x=some c):∀ {l:List (Str × NameKind)} {cs:List (Str × Addr)},(x,NameKind.free) ∈ l->(l.foldl (jF cells) cs).lookup x=some c
 | [],_,m=>by simp at m
 | y :: l,cs,m=>by
  rcases Cd.mp m with rfl | m
  ·refine kj a (l:=l) ?_
   simp [jF,a]
  ·exact lx a (l:=l) (cs:=jF cells cs y) m
theorem rL (a:cells.lookup x=some c) (m:(x,NameKind.free) ∈ l):(clo cells l).lookup x=some c:=lx a m
theorem ip {env:Env}:∀ {names:List (Str × NameKind)} {x:Str},names.lookup x=some .free ->
  (names.map fun (n,k)=>if (k == NameKind.free && env.scope.kind == .function && env.kindOf n == some .cell) then (n,NameKind.cell) else (n,k)).lookup x=some .cell \/
  (names.map fun (n,k)=>if (k == NameKind.free && env.scope.kind == .function && env.kindOf n == some .cell) then (n,NameKind.cell) else (n,k)).lookup x=some .free
 | [],_,h=>by simp at h
 | (n,k) :: r,x,h=>by
  have b:=@ip env r x
  show List.lookup x ((if (k == NameKind.free && env.scope.kind == .function && env.kindOf n == some .cell)=true then (n,NameKind.cell) else (n,k)) :: _)=_ \/
   List.lookup x ((if (k == NameKind.free && env.scope.kind == .function && env.kindOf n == some .cell)=true then (n,NameKind.cell) else (n,k)) :: _)=_
  cases a:x == n with
  | true =>
   simp only [List.lookup_cons,a] at h
   cases h
   split
   ·left;simp [List.lookup_cons,a]
   ·right;simp [List.lookup_cons,a]
  | false =>
   simp only [List.lookup_cons,a] at h
   split
   ·simp only [List.lookup_cons,a];exact b h
   ·simp only [List.lookup_cons,a];exact b h
theorem j0 {env:Env}:∀ {names:List (Str × NameKind)} {x:Str},(∀ y ∈ names,y.2 ≠ .cell) ->
  ((names.map fun (n,k)=>if (k == NameKind.free && env.scope.kind == .function && env.kindOf n == some .cell) then (n,NameKind.cell) else (n,k)).lookup x=some .cell \/
  (names.map fun (n,k)=>if (k == NameKind.free && env.scope.kind == .function && env.kindOf n == some .cell) then (n,NameKind.cell) else (n,k)).lookup x=some .free)->(x,NameKind.free) ∈ names
 | [],_,_,h=>by simp at h
 | (n,k) :: r,x,hc,h=>by
  have d:=@j0 env r x (fun y c=>hc y (B7 _ c))
  have f:=hc (n,k) B6
  have h':List.lookup x ((if (k == NameKind.free && env.scope.kind == .function && env.kindOf n == some .cell)=true then (n,NameKind.cell) else (n,k)) :: (r.map fun (n,k)=>if (k == NameKind.free && env.scope.kind == .function && env.kindOf n == some .cell) then (n,NameKind.cell) else (n,k)))=some .cell \/
   List.lookup x ((if (k == NameKind.free && env.scope.kind == .function && env.kindOf n == some .cell)=true then (n,NameKind.cell) else (n,k)) :: (r.map fun (n,k)=>if (k == NameKind.free && env.scope.kind == .function && env.kindOf n == some .cell) then (n,NameKind.cell) else (n,k)))=some .free:=h
  cases a:x == n with
  | true =>
   have e:=eq_of_beq a
   subst e
   by_cases hf:k=.free
   ·subst hf;exact B6
   ·exfalso
    have b:(k == NameKind.free)=false:=by simpa using hf
    simp [b,List.lookup_cons] at h'
    rcases h' with q | q
    ·exact f q
    ·exact hf q
  | false =>
   refine B7 _ (d ?_)
   split at h'
   ·simpa only [List.lookup_cons,a] using h'
   ·simpa only [List.lookup_cons,a] using h'
def aJ (X:Cx) (NY:List Str) (scope:Scope) (s:Shared) (H:Hp) (C:Addr) (fp:List Addr):Cx where
 prog:=X.prog
 w:=X.w
 K:=X.K
 mg:=X.mg
 base:=X.base
 A:=X.A
 N:=NY
 s₀:=s
 H₀:=H
 env:=compEnvC scope (clo X.env.cells scope.names) C X.env
 outer:=X.stack
 stack:=X.stack
 ex:=fp
 fn:=fun _=>false
 calm:=X.calm
 pn:=[]
 xe:=fun _ _=>False
def cap (ix:List (Option Nat)) (σ:St):St:=ix.map fun o=>match o with | some i=>(σ[i]?).getD none | none=>none
def fS (sc:Scope) (b:List Str) (a:Scope) (NY:List Str) (ix:List (Option Nat)):Bool :=
 sc.kind == .function && sc.names.all (fun y=>y.2 != .cell) && sc.names.all (fun y=>y.2 != .local || sc.names.lookup y.1 == some .local) && sc.names.all (fun y=>y.2 != .free || sc.names.lookup y.1 == some .free)
  && sc.names.all (fun y=>y.2 != .free || (a.names.lookup y.1 == some .cell || a.names.lookup y.1 == some .free))
  && ix.length == NY.length && (NY.zip ix).all fun p=>match p.2 with | none=>true | some i=>(b[i]? == some p.1) && sc.names.contains (p.1,NameKind.free)
structure CompOk (sc:Scope) (XN:List Str) (Xsc:Scope) (NY:List Str) (ix:List (Option Nat)):Prop where
 kind:sc.kind=.function
 nocell:∀ y ∈ sc.names,y.2 ≠ .cell
 loc:∀ y ∈ sc.names,y.2=.local->sc.names.lookup y.1=some .local
 fre:∀ y ∈ sc.names,y.2=.free->sc.names.lookup y.1=some .free
 out:∀ y ∈ sc.names,y.2=.free->Xsc.names.lookup y.1=some .cell\/Xsc.names.lookup y.1=some .free
 len:ix.length=NY.length
 cap:∀ (j:Nat) x i,NY[j]?=some x->ix[j]?=some (some i)->XN[i]?=some x/\(x,NameKind.free) ∈ sc.names
theorem CompOk.of (h:fS sc XN Xsc NY ix=true):CompOk sc XN Xsc NY ix:=by
 simp only [fS,Bool.and_eq_true,List.all_eq_true,beq_iff_eq] at h
 obtain ⟨⟨⟨⟨⟨⟨h1,h2⟩,h3⟩,c⟩,b⟩,g⟩,d⟩:=h
 refine ⟨h1,fun y a=>by simpa using h2 y a,fun y a e=>?_,fun y a e=>?_,fun y a e=>?_,g,fun j x i e1 f=>?_⟩
 ·have:=h3 y a;rw [e] at this;simpa using this
 ·have:=c y a;rw [e] at this;simpa using this
 ·have:=b y a;rw [e] at this;simpa using this
 ·have m:(x,some i) ∈ NY.zip ix:=by
   refine Ck (i:=j) ?_
   rw [List.getElem?_zip_eq_some]
   exact ⟨e1,f⟩
  have:=d _ m
  simpa using this
section
variable {X:Cx}
theorem FpOk.of_upd (f:FpOk X pins H b) (h:b ≠ D):FpOk X pins (upd H D o) b:=⟨by rw [au h];exact f.1,f.2⟩
theorem HOk.track (x:HOk P w H h) (f:H a=none) (new:ObjOk P w (upd H a o) h a o):HOk P w (upd H a o) h:=fun b u e=>by
 by_cases d:b=a
 ·subst d;rw [aC] at e;cases e;exact new
 ·rw [au d] at e
  exact (x b u e).stay (fun c v _ q=>q) (fun c q=>by rw [au (aP q f)];exact q) fun c xs q=>by rw [au (aP q f)];exact q
def PTs (Y:Cx) (ifs:List Expr) (t:TT):Prop :=
 ∀ (pins:List (Addr × Obj)) (s:Shared) (σ:St) (H:Hp) (Q:Bool->Hp->Prop),Inv Y pins σ H s->t σ H Q ->
  wpAny (model Y.prog Y.w) Y.A (forIn ifs true fun c r=>if r=true then do let ok <- isTrue c Y.env (eval c Y.env);pure (ForInStep.yield ok) else pure (ForInStep.yield r)) (TP Y pins σ Q) Y.xe s
def tYes:TT:=fun _ H Q=>Q true H
theorem xN:PTs Y [] tYes:=fun pins s σ H Q I h=>wpAny_tests_nil ⟨H,I,h⟩
theorem xM (h:PT Y c t):PTs Y [c] t:=fun pins s σ H Q I q=>wpAny_tests_one (h pins s σ H Q I q)
def o0 (J:It) (g:TG) (tc:TT) (te:TE) (Z:List V->Hp->Prop) (τ0:St) (H1:Hp):Prop :=
 ∃ W:Nat->Nat->List V->St->Hp->Prop,(∃ m,W 0 m [] τ0 H1)/\∀ i m ys τ H,W i m ys τ H->ys.length < sizeLine /\
  ((J.stop i H/\Z ys H)\/(J.go i H/\∃ N:List V->St->Hp->Prop,(∀ a τ' H',N a τ' H'->∃ c,c < m/\W (i+1) c a τ' H')/\∀ x H',J.yld i H x H'->g x τ H' fun τ2 H2=>tc τ2 H2 fun b d =>
   if b=true then te τ2 d fun y e=>N (ys ++ [y]) τ2 e else N ys τ2 d))
def y6 (a:TI) (g:TG) (tc:TT) (te:TE) (ix:List (Option Nat)):TE:=fun σ H Q =>
 a σ H fun J H1=>o0 J g tc te (fun ys H2=>∀ p,H2 p=none->Q (.ref p) (upd H2 p (.lst ys))) (cap ix σ) H1
theorem qo (g:CompOk scope X.N X.env.scope NY ix) (I:Inv X pins σ H s) (f:∀ b ∈ fp,FpOk X pins H b) (n:s.heap.objs.size<=C) (w:∀ b ∈ fp,b < s.heap.objs.size) (D:s4.os=s.os) (J:s4.gens=s.gens) (keep:∀ b o,s.heap.get? b=some o->s4.heap.get? b=some o) (ns:s4.heap.Ns C fun _=>none):Inv (aJ X NY scope s H C fp) [] (cap ix σ) H s4:=by
 have E:FpOk X pins H C:=I.fpOk n (I.hok.fresh n)
 have cls:∀ x c,(clo X.env.cells scope.names).lookup x=some c->X.env.cells.lookup x=some c:=fun x c e=>mx e
 have j:∀ x,(x,NameKind.free) ∈ scope.names->∃ c,X.env.cells.lookup x=some c:=fun x m=>by
  rcases g.out _ m rfl with q | q
  ·exact I.ok.has x (.inl q)
  ·exact I.ok.has x (.inr q)
 refine ⟨⟨I.ok.mod,g.kind,I.ok.glob,I.ok.blt,n,fun x y c e1 d=>I.ok.inj x y c (cls x c e1) (cls y c d),fun x B=>?_,fun x c e _=>(Cp e).elim,fun e=>I.ok.hd e,I.ok.frames,.inl rfl,fun b h=>⟨Cq (Cv (w b h) n),fun x c e=>(f b h).2.2.2.2.1 x c (cls x c e)⟩,
  I.bs,CN I.ok.bsz I.sz,fun b o e h=>?_,fun b h hz=>?_,I.stack,I.stkFree⟩,D,by rw [J];exact I.bare,Un.kept keep,⟨_,ns,fun i x v e1 d S=>?_⟩,fun x c e=>?_,E.1,fun x c e=>I.freeC x c (cls x c e),fun p P=>absurd (show p ∈ ([]:List (Addr × Obj)) from P) (by simp),I.hok.kept keep,?_⟩
 ·have m:(x,NameKind.free) ∈ scope.names:=j0 g.nocell B
  obtain ⟨c,e⟩:=j x m
  exact ⟨c,rL e m⟩
 ·rcases (f b h).2.2.2.1 with z | z
  ·exact I.ok.noex b o e z
  ·exact absurd (Cv (Cf e) (CN I.ok.bsz z)) (Nat.lt_irrefl _)
 ·rcases Cd.mp (I.stkSub b hz) with e | e
  ·exact (f b h).2.1 e
  ·exact (f b h).2.2.1 e
 ·-- a captured name
  have q:∃ k,ix[i]?=some (some k)/\σ[k]?=some (some v):=by
   unfold cap at d
   rw [Cn] at d
   cases e:ix[i]? with
   | none=>rw [e] at d;simp at d
   | some o =>
    rw [e] at d
    cases o with
    | none=>simp at d
    | some k =>
     refine ⟨k,rfl,?_⟩
     simp only [CD,Option.some.injEq] at d
     cases e':σ[k]? with
     | none=>rw [e'] at d;simp at d
     | some o'=>rw [e'] at d;simp at d;rw [d]
  obtain ⟨k,Q,ev⟩:=q
  obtain ⟨L,m⟩:=g.cap i x k e1 Q
  obtain ⟨R,F,G⟩:=I.loc
  have M:Vis X.env.scope x:=by
   rcases g.out _ m rfl with q | q
   ·exact .inr (.inl q)
   ·exact .inr (.inr q)
  obtain ⟨u,r,l⟩:=G k x v L ev M
  refine ⟨u,r,.inr ?_⟩
  rcases l with ⟨A,_⟩ | ⟨_,c,O,K⟩
  ·exfalso
   rcases g.out _ m rfl with q | q
   ·have:=A.symm.trans q;cases this
   ·have:=A.symm.trans q;cases this
  ·obtain ⟨o,t,hd⟩:=K
   exact ⟨ip (g.fre _ m rfl),c,rL O m,o,keep c o t,hd⟩
 ·obtain ⟨v,o,t,hd⟩:=I.cell x c (cls x c e)
  exact ⟨v,o,keep c o t,hd⟩
 ·show (cap ix σ).length=NY.length
  unfold cap
  rw [Ci]
  exact g.len
theorem fU (I:Nat->Shared->Prop) (turn:∀ n s,I n s->wpAny (model prog w) A (pyNext it) (fun r d=>match r with
   | none=>R (.ok .next) d
   | some v=>wpAny (model prog w) A (letOwnedTupleGo target it v) (fun _ a=>wpAny (model prog w) A (assign target env v) (fun _ k =>
     wpAny (model prog w) A (forIn ifs true fun c r=>if r=true then do let ok <- isTrue c env (eval c env);pure (ForInStep.yield ok) else pure (ForInStep.yield r)) (fun ok b =>
      if ok=true then wpAny (model prog w) A (eval elt env) (fun x j =>
       wpAny (model prog w) A (call (.builtin "list.append") [acc,x]) (fun _ i=>∃ m,m < n/\I m i) (fun _ _=>False) j) (fun _ _=>False) b
      else ∃ m,m < n/\I m b) (fun _ _=>False) k) (fun _ _=>False) a) (fun _ _=>False) d) (fun _ _=>False) s) (n:Nat) (h:I n s) :
  codeAny (model prog w) A (.compLoop (.ListComp elt [⟨target,iter,ifs,0⟩] scope pos) 0 it acc env) R s:=by
 refine codeAny_loop rfl I (fun n s q=>?_) n h
 show wpAny _ A ((compTurn (.ListComp elt [⟨target,iter,ifs,0⟩] scope pos) 0 it acc env).onRaise (fun x=>do noteFrame x env;theTreesLotGoes x)) _ _ s
 refine wpAny_noted ?_
 rw [compTurn_list]
 refine B0 (wpAny_standAt (B0 (wpAny_mono (turn n s q) (fun r d f=>?_) fun _ _ h'=>h'.elim)))
 cases r with
 | none=>exact B4 f
 | some v =>
  refine B0 (wpAny_mono f (fun _ a e=>?_) fun _ _ h'=>h'.elim)
  refine B0 (wpAny_mono e (fun _ k o=>B0 (wpAny_mono o (fun ok b g=>?_) fun _ _ h'=>h'.elim)) fun _ _ h'=>h'.elim)
  cases ok with
  | false=>exact B4 ⟨rfl,g⟩
  | true =>
   exact B0 (B0 (wpAny_mono g (fun x j p=>B0 (wpAny_mono p (fun _ i l=>B4 (B4 ⟨rfl,l⟩)) fun _ _ h'=>h'.elim)) fun _ _ h'=>h'.elim))
theorem oD {RR:Value->Addr->Result->Shared->Prop} (hc:X.calm=true) (ck:CompOk scope X.N X.env.scope NY ix) (hg:∀ s H C fp,PG (aJ X NY scope s H C fp) tg g) (ht:∀ s H C fp,PTs (aJ X NY scope s H C fp) ifs tc) (he:∀ s H C fp,PE (aJ X NY scope s H C fp) elt te) (I:Inv X pins σ H s) (T:Turn X.prog X.w X.K tg J fp it tn) (st:tn 0 s.heap) (f:∀ b ∈ fp,FpOk X pins H b) (hW:o0 J g tc te Z (cap ix σ) H) (b3:∀ D C s' ys H' m,s'.heap.Ns C m->H' D=none->FpOk X pins (upd H' D (.lst ys)) C->Inv X pins σ (upd H' D (.lst ys)) s'->Z ys H'->RR (.ref D) C (.ok .next) s') :
  wpAny (model X.prog X.w) X.A (newList []) (fun acc s₃=>wpAny (model X.prog X.w) X.A (newFunctionEnv scope X.env.globals (clo X.env.cells scope.names) [] X.env.qual none .none (some X.env)) (fun F s₄ =>
   codeAny (model X.prog X.w) X.A (.compStart (.ListComp elt [⟨tg,iter,ifs,0⟩] scope pos) 0 (.ref it) acc { F with scope:=relabel scope X.env }) (RR acc F.locals) s₄) E s₃) E s:=by
 obtain ⟨W,⟨m0,w0⟩,turn⟩:=hW
 refine wpAny_newObj_type (wpAny_newFunctionEnv ck.nocell (by intro y hy;simp at hy) (fun h₁ k h=>?_) ck.kind)
 dsimp only at k h ⊢
 generalize R:s.heap.push { cls:=.type "list",dict:=none,data:=.seq ([]:List Value).toArray }=H2 at k h ⊢
 have ar:H2.objs.size=s.heap.objs.size+1:=by rw [<- R,CL]
 have B:s.heap.objs.size ≠ H2.objs.size:=by rw [ar];exact Cq (Nat.lt_succ_self _)
 have j:s.heap.objs.size<=H2.objs.size:=by rw [ar];exact Nat.le_succ _
 generalize Q:s.heap.objs.size=D at *
 generalize hC:H2.objs.size=C at *
 have below:∀ b o,s.heap.get? b=some o->b < D:=fun b o e=>by rw [<- Q];exact Cf e
 have old:∀ b o,s.heap.get? b=some o->h₁.get? b=some o:=fun b o e=>h.extBut b o (Cq (Cv (below b o e) j)) (B8 _ (R ▸ B8 _ e))
 have L:H2.get? D=some { cls:=.type "list",dict:=none,data:=.seq ([]:List Value).toArray }:=by
  rw [<- R,<- Q];exact Ch _ rfl
 have ax:h₁.PlainList D #[]:=⟨_,h.extBut _ _ B (B8 _ L)⟩
 have V:∀ b ∈ fp,b < s.heap.objs.size:=fun b a=>by
  obtain ⟨o,e,_⟩:=T.obj 0 _ st b a
  exact Cf e
 have l:∀ b ∈ fp,b < D:=fun b a=>by rw [<- Q];exact V b a
 have IY:Inv (aJ X NY scope s H C fp) [] (cap ix σ) H { s with heap:=h₁,toks:=s.toks+([]:List (Str × Value)).length } :=
  qo ck I f (by rw [Q];exact j) V rfl rfl old k
 have b0:H D=none:=I.hok.fresh (by rw [Q];exact Co _)
 have t:∀ b ∈ frs X.stack,b < D:=fun b a=>by
  obtain ⟨_,o,ho,_⟩:=I.stack.mem a
  exact below b o ho
 have loop:∀ s₃:Shared,s₃ = { s with heap:=h₁,toks:=s.toks+([]:List (Str × Value)).length } ->
   codeAny (model X.prog X.w) X.A (.compLoop (.ListComp elt [⟨tg,iter,ifs,0⟩] scope pos) 0 (.ref it) (.ref D) (aJ X NY scope s H C fp).env) (RR (.ref D) C) s₃:=by
  rintro s₃ rfl
  refine fU (fun n s'=>∃ i ys τ H' its,Inv (aJ X NY scope s H C fp) [] τ H' s'/\H' D=none/\s'.heap.PlainList D its/\Vals ys its.toList/\tn i s'.heap/\(∀ b ∈ fp,H' b=none)/\W i n ys τ H') ?_ m0
   ⟨0,[],cap ix σ,H,#[],IY,b0,ax,.nil,T.keep _ _ _ st fun b _ o e=>old b o e,fun b a=>(f b a).1,w0⟩
  rintro n s3 ⟨i,ys,τ,S,its,I3,d3,l3,v3,a0,a5,w3⟩
  obtain ⟨nl,e3⟩:=id l3
  have az:Inv (aJ X NY scope s H C fp) [(D,{ cls:=.type "list",data:=.seq its nl })] τ S s3:=I3.pins_of fun p hp=>by
   have e:p=(D,{ cls:=.type "list",data:=.seq its nl }):=by simpa using hp
   subst e
   exact ⟨e3,d3,B,fun z=>Nat.lt_irrefl _ (t D z),fun v z=>by cases z⟩
  have M:∀ {H':Hp} {pl:List (Addr × Obj)},(∀ b ∈ fp,H' b=none)->(∀ p ∈ pl,p.1=D)->∀ b ∈ fp,FpOk (aJ X NY scope s H C fp) pl H' b:=fun hn hp b a =>
   ⟨hn b a,Cq (Cv (l b a) j),fun z=>by
    rcases Cd.mp (I.stkSub b z) with e | e
    ·exact (f b a).2.1 e
    ·exact (f b a).2.2.1 e,.inl a,fun x c e=>(f b a).2.2.2.2.1 x c (mx e),fun p bb=>by
    have e:p.1=D:=hp p ((Cg.mp bb).elim (fun z=>absurd (show p ∈ ([]:List (Addr × Obj)) from z) (by simp)) fun z=>z)
    rw [e]
    exact Nat.ne_of_gt (l b a)⟩
  obtain ⟨zl,step⟩:=turn i n ys τ S w3
  have single:∀ p ∈ [(D,({ cls:=.type "list",data:=.seq its nl }:Obj))],p.1=D:=fun p hp=>by
   have e:p=(D,{ cls:=.type "list",data:=.seq its nl }):=by simpa using hp
   rw [e]
  rcases step with ⟨stop,qn⟩ | ⟨go,N,hN,step⟩
  ·refine wpAny_mono (T.done (aJ X NY scope s H C fp) rfl rfl rfl hc i _ s3 τ S (fun _ _=>False) az (M a5 single) a0 stop) (fun r s4 ⟨hr,P⟩=>?_) fun _ _ e=>e
   subst hr
   obtain ⟨mC,a6,_⟩:=id P.loc
   obtain ⟨e4,U,_⟩:=P.pin (D,{ cls:=.type "list",data:=.seq its nl }) (by simp [aJ])
   have be:∀ b o,s.heap.get? b=some o->b ≠ D:=fun b o e=>Cq (below b o e)
   have G:=P.base
   refine b3 D C s4 ys S mC a6 U ?_ ?_ qn
   ·exact (I.fpOk (by rw [Q];exact j) (by exact P.free)).of_upd (Ne.symm B)
   ·refine I.call' (ch:=fp) P.os (H':=upd S D (.lst ys)) ⟨G.keep,G.slot,fun b o e n hx=>?_,G.there,fun b xs e=>?_,fun b o u e=>?_,fun b ps e=>?_⟩ ?_ P.bare fun b a=>?_
    ·rw [au (be b o e)];exact G.free b o e n hx
    ·have q:=G.tups b xs e;rw [au (aP q U)];exact q
    ·have q:=G.frzs b o u e;rw [au (aP q U)];exact q
    ·obtain ⟨more,q⟩:=G.tbls b ps e;exact ⟨more,by rw [au (aP q U)];exact q⟩
    ·exact P.hok.track U ⟨Nat.le_of_lt zl,its.toList,nl,v3,by simpa using e4⟩
    ·exact ⟨(f b a).2.2.2.1,(f b a).2.1,(f b a).2.2.2.2.1,(f b a).2.2.2.2.2⟩
  ·refine wpAny_mono (T.item (aJ X NY scope s H C fp) rfl rfl rfl hc i _ s3 τ S (fun _ _=>False) az (M a5 single) a0 go) (fun r s4 ⟨u,hr,h4⟩=>?_) fun _ _ e=>e
   subst hr
   refine wpAny_mono h4 (fun _ s5 ⟨x,H5,I5,r5,y5,O,b4⟩=>?_) fun _ _ e=>e
   have bq:=I5.pinned (M b4 single) (T.obj _ _ O)
   refine wpAny_mono (hg s H C fp _ s5 τ H5 x u _ bq r5 (step x H5 y5)) (fun _ s6 ⟨τ6,H6,I6,q6⟩=>?_) fun _ _ e=>e
   refine wpAny_mono (ht s H C fp _ s6 τ6 H6 _ I6 q6) (fun b s7 ⟨H7,I7,q7⟩=>?_) fun _ _ e=>e
   have after:∀ {s':Shared} {H':Hp},Inv (aJ X NY scope s H C fp) ([(D,{ cls:=.type "list",data:=.seq its nl })] ++ j4 fp s5.heap) τ6 H' s'->tn (i+1) s'.heap/\(∀ b ∈ fp,H' b=none)/\H' D=none/\s'.heap.PlainList D its:=fun {s' H'} I' =>
    ⟨T.keep _ _ _ O fun b a o e=>(I'.pin (b,o) (Cc _ (Cc _ (eP a e)))).1,fun b a=>by
     obtain ⟨o,e,d⟩:=T.obj _ _ O b a
     exact (I'.pin (b,o) (Cc _ (Cc _ (eP a e)))).2.1,(I'.pin (D,_) (Cc _ (Ca _ (CG.mpr rfl)))).2.1,
     nl,(I'.pin (D,_) (Cc _ (Ca _ (CG.mpr rfl)))).1⟩
   cases b with
   | false =>
    rw [if_neg Cp]
    rw [if_neg Cp] at q7
    obtain ⟨m',hm,w7⟩:=hN _ _ _ q7
    obtain ⟨a1,a2,a3,a4⟩:=after I7
    exact ⟨m',hm,i+1,ys,τ6,H7,its,I7.pins_of (fun _ z=>absurd z (by simp)),a3,a4,v3,a1,a2,w7⟩
   | true =>
    rw [if_pos rfl]
    rw [if_pos rfl] at q7
    refine wpAny_mono (he s H C fp _ s7 τ6 H7 _ I7 q7) (fun y s8 ⟨yv,H8,I8,r8,n8⟩=>?_) fun _ _ e=>e
    obtain ⟨m',hm,w8⟩:=hN _ _ _ n8
    obtain ⟨a1,a2,a3,a4⟩:=after I8
    have b5:ys.length=its.size:=by simpa using v3.length
    have hsz:its.size<=sizeLine:=by omega
    refine wpAny_list_append_plain (hsz:=hsz) a4 fun h9 l9 Y=>?_
    have I9:Inv (aJ X NY scope s H C fp) [] τ6 H8 { s8 with heap:=h9,toks:=s8.toks }:=(I8.pins_of (pins':=[]) fun _ z=>absurd z (by simp)).turned (it:=D) (fun b o a e=>(Y.2 b a).trans e) a3 B (.inr (by show s.heap.objs.size<=D;rw [Q];exact Co _)) (fun x c e z=>?_) fun p z=>absurd (show p ∈ ([]:List (Addr × Obj)) from z) (by simp)
    ·refine ⟨m',hm,i+1,ys ++ [yv],τ6,H8,its.push y,I9,a3,l9,?_,T.keep _ _ _ a1 fun b a o e=>(Y.2 b (Cq (l b a))).trans e,a2,w8⟩
     rw [Array.toList_push]
     exact v3.append (.cons r8 .nil)
    ·obtain ⟨v,o,ho,_⟩:=I.cell x c (mx e)
     exact Nat.lt_irrefl _ (z ▸ below c o ho)
 exact codeAny_compStart_list (loop _ rfl) (T.self X.A 0 _ _ _ (T.keep _ _ _ st fun b _ o e=>old b o e) (loop _ rfl))
theorem x4 (NY:List Str) (ix:List (Option Nat)) (r:X.calm=true) (hi:PI X tg iter wi) (p:∀ s H C fp,PG (aJ X NY scope s H C fp) tg g) (n:∀ s H C fp,PTs (aJ X NY scope s H C fp) ifs tc) (he:∀ s H C fp,PE (aJ X NY scope s H C fp) elt te) (a:fS scope X.N X.env.scope NY ix=true) (j:∀ x,foldedSetIterable iter X.env x=pure x:=by intro _;rfl):PE X (.ListComp elt [⟨tg,iter,ifs,0⟩] scope pos) (y6 wi g tc te ix):=by
 intro pins s σ H Q I h
 have a:=CompOk.of a
 rw [eval_ListComp]
 refine wpAny_comprehension_free (use:=none) rfl j (fV (scope:=scope) (env:=X.env) fun x m e=>?_) a.kind a.loc (thn (hi pins s σ H _ I h) fun v s1 h1=>thn h1 fun i s2 h2=>?_)
 ·rcases a.out x m e with q | q
  ·exact I.ok.has x.1 (.inl q)
  ·exact I.ok.has x.1 (.inr q)
 ·obtain ⟨it,fp,F,J,H2,e,y,T,c,f2,d⟩:=h2
  subst e
  refine oD (RR:=fun acc C=>compPost (model X.prog X.w) X.A X.xe none (EP X pins σ Q) acc C) r a p n he y T c f2 d ?_
  intro D C s' ys H' m u k f l B
  obtain ⟨f0,f1,f2,z,f4,t⟩:=f
  exact ⟨m,u,fun h' sb=>⟨.ref D,_,l.turned (t':=s'.toks) (fun b o E e=>(sb.2 b E).trans e) f0 f1 z f4 t,rfl,B D k⟩⟩
def y9 (i:Nat) (a:TI) (g:TG) (tc:TT) (te:TE) (ix:List (Option Nat)):TS:=fun D σ H =>
 a σ H fun J H1=>o0 J g tc te (fun ys H2=>∀ p,H2 p=none->D.nx (σ.set i (some (.ref p))) (upd H2 p (.lst ys))) (cap ix σ) H1
theorem pJ {i:Nat} (O:X.N.Nodup) (u:X.N[i]?=some y) (r:Loc X.env.scope y) (NY:List Str) (ix:List (Option Nat)) (R:X.calm=true) (hi:PI X tg iter wi) (P:∀ s H C fp,PG (aJ X NY scope s H C fp) tg g) (M:∀ s H C fp,PTs (aJ X NY scope s H C fp) ifs tc) (he:∀ s H C fp,PE (aJ X NY scope s H C fp) elt te) (c:fS scope X.N X.env.scope NY ix=true) (p:swapsWith (.ListComp elt [⟨tg,iter,ifs,0⟩] scope pos) (some (.Name y py)) spos.line X.env=pure true:=by rfl) (hf:X.fn y=true\/X.env.scope.names.lookup y=some .local:=by first | exact .inl rfl | exact .inr rfl | assumption) (G:∀ x,foldedSetIterable iter X.env x=pure x:=by intro _;rfl):PS X (.Assign [.Name y py] (.ListComp elt [⟨tg,iter,ifs,0⟩] scope pos) spos) (y9 i wi g tc te ix):=by
 intro pins s σ H D I h
 have c:=CompOk.of c
 rw [exec_Assign_Name_used _ _ _ _ p]
 refine B0 (wpAny_standAt (B0 ?_))
 show wpAny _ X.A (do let _ <- comprehension (.ListComp elt [⟨tg,iter,ifs,0⟩] scope pos) scope X.env _ (newList []) false (eval iter X.env) (some (assign (.Name y py) X.env))) _ _ s
 refine B0 (wpAny_mono (wpAny_comprehension_free (use:=some (assign (.Name y py) X.env)) (Q:=fun _ s'=>SP X pins D .next s') rfl G (fV (scope:=scope) (env:=X.env) fun x m e=>?_) c.kind c.loc
  (thn (hi pins s σ H _ I h) fun v s1 h1=>thn h1 fun F s2 h2=>?_)) (fun _ s' t=>B4 (B4 t)) fun _ _ e=>e)
 ·rcases c.out x m e with q | q
  ·exact I.ok.has x.1 (.inl q)
  ·exact I.ok.has x.1 (.inr q)
 ·obtain ⟨it,fp,tn,J,H2,e,V,T,n,f2,B⟩:=h2
  subst e
  refine oD (RR:=fun acc C=>compPost (model X.prog X.w) X.A X.xe (some (assign (.Name y py) X.env)) (fun _ s'=>SP X pins D .next s') acc C) R c P M he V T n f2 B ?_
  intro l C s' ys H' m U K E L Y
  obtain ⟨f0,f1,f2,W,f4,S⟩:=E
  show wpAny _ X.A (assign (.Name y py) X.env (.ref l)) _ _ _
  refine wpAny_assign_Name (kU L O u r (v:=.ref l) rfl (fun f k ⟨a,sb,Z⟩=>?_) hf)
  have d:C ≠ a:=by
   rcases Z with e | e
   ·rw [e];exact f1
   ·exact fun z=>f4 y a e z.symm
  exact ⟨m,U.sameBut sb d,fun h' j=>⟨_,_,k.turned (t':=f.toks) (fun b o hb e=>(j.2 b hb).trans e) f0 f1 W f4 S,Y l K⟩⟩
end
end L2
end
section
namespace L2
open PySem PySem.Spec PyProof.Rows
section
variable {X:Cx}
inductive KindOf (K:FG) (H:Hp):V->String->Prop
 | int (i:Int):KindOf K H (.int i) "int"
 | bool (b:Bool):KindOf K H (.bl b) "bool"
 | str (x:Str):KindOf K H (.str x) "str"
 | non:KindOf K H .non "NoneType"
 | tuple {a:Addr} {xs:List V}:SqT K H a xs->KindOf K H (.ref a) "tuple"
 | list {a:Addr} {xs:List V}:SqL K H a xs->KindOf K H (.ref a) "list"
 | dK {a:Addr} {kvs}:H a=some (.dK kvs)->KindOf K H (.ref a) "dict"
 | dT {a:Addr} {kvs}:H a=some (.dT kvs)->KindOf K H (.ref a) "dict"
def jC (k t:String):Bool:=k == t || (k == "bool" && t == "int")
theorem Inv.clsK (I:Inv X pins σ H s) (h:KindOf X.K H (.ref a) k):∃ o,s.heap.get? a=some o/\o.cls=.type k:=by
 cases h with
 | tuple h=>obtain ⟨its,_,⟨o,e,c,_⟩,_⟩:=I.tuple h;exact ⟨o,e,c⟩
 | list h=>obtain ⟨its,_,⟨o,n,e,c,_⟩,_⟩:=I.list h;exact ⟨o,e,c⟩
 | dK h=>obtain ⟨_,_,_,_,o,_,_,e,c,_⟩:=I.hok a _ h;exact ⟨o,e,c.1⟩
 | dT h=>obtain ⟨_,_,_,_,o,_,_,e,c,_⟩:=I.hok a _ h;exact ⟨o,e,c.1⟩
theorem mG:bZ X (.builtin "isinstance") (fun xs H Q=>∃ x k,xs=[x,.ty "int"]/\KindOf X.K H x k/\Q (.bl (jC k "int")) H):=by
 intro pins s σ H xs us Q I r h
 obtain ⟨x,k,rfl,d,q⟩:=h
 obtain ⟨u,v,rfl,a,f⟩:=kS r
 cases (show v=Value.type "int" from f)
 cases d with
 | int i=>obtain ⟨tk,rfl⟩:=a;exact IsiPair.int_int ⟨.bl true,H,I,rfl,q⟩
 | bool b=>cases (show u=Value.bool b from a);exact IsiPair.bool_int ⟨.bl true,H,I,rfl,q⟩
 | str z=>obtain ⟨tk,rfl⟩:=a;exact IsiPair.str_int ⟨.bl false,H,I.tok _,rfl,q⟩
 | non=>cases (show u=Value.none from a);exact IsiPair.NoneType_int ⟨.bl false,H,I.tok _,rfl,q⟩
 | tuple hh=>cases a;obtain ⟨o,e,c⟩:=I.clsK (.tuple hh);exact IsiPair.tuple_int e c ⟨.bl false,H,I.tok _,rfl,q⟩
 | list hh=>cases a;obtain ⟨o,e,c⟩:=I.clsK (.list hh);exact IsiPair.list_int e c ⟨.bl false,H,I.tok _,rfl,q⟩
 | dK hh=>cases a;obtain ⟨o,e,c⟩:=I.clsK (.dK hh);exact IsiPair.dict_int e c ⟨.bl false,H,I.tok _,rfl,q⟩
 | dT hh=>cases a;obtain ⟨o,e,c⟩:=I.clsK (.dT hh);exact IsiPair.dict_int e c ⟨.bl false,H,I.tok _,rfl,q⟩
theorem kM:bZ X (.builtin "isinstance") (fun xs H Q=>∃ x k,xs=[x,.ty "bool"]/\KindOf X.K H x k/\Q (.bl (jC k "bool")) H):=by
 intro pins s σ H xs us Q I r h
 obtain ⟨x,k,rfl,d,q⟩:=h
 obtain ⟨u,v,rfl,a,f⟩:=kS r
 cases (show v=Value.type "bool" from f)
 cases d with
 | int i=>obtain ⟨tk,rfl⟩:=a;exact IsiPair.int_bool ⟨.bl false,H,I.tok _,rfl,q⟩
 | bool b=>cases (show u=Value.bool b from a);exact IsiPair.bool_bool ⟨.bl true,H,I,rfl,q⟩
 | str z=>obtain ⟨tk,rfl⟩:=a;exact IsiPair.str_bool ⟨.bl false,H,I.tok _,rfl,q⟩
 | non=>cases (show u=Value.none from a);exact IsiPair.NoneType_bool ⟨.bl false,H,I.tok _,rfl,q⟩
 | tuple hh=>cases a;obtain ⟨o,e,c⟩:=I.clsK (.tuple hh);exact IsiPair.tuple_bool e c ⟨.bl false,H,I.tok _,rfl,q⟩
 | list hh=>cases a;obtain ⟨o,e,c⟩:=I.clsK (.list hh);exact IsiPair.list_bool e c ⟨.bl false,H,I.tok _,rfl,q⟩
 | dK hh=>cases a;obtain ⟨o,e,c⟩:=I.clsK (.dK hh);exact IsiPair.dict_bool e c ⟨.bl false,H,I.tok _,rfl,q⟩
 | dT hh=>cases a;obtain ⟨o,e,c⟩:=I.clsK (.dT hh);exact IsiPair.dict_bool e c ⟨.bl false,H,I.tok _,rfl,q⟩
theorem ky:bZ X (.builtin "isinstance") (fun xs H Q=>∃ x k,xs=[x,.ty "tuple"]/\KindOf X.K H x k/\Q (.bl (jC k "tuple")) H):=by
 intro pins s σ H xs us Q I r h
 obtain ⟨x,k,rfl,d,q⟩:=h
 obtain ⟨u,v,rfl,a,f⟩:=kS r
 cases (show v=Value.type "tuple" from f)
 cases d with
 | int i=>obtain ⟨tk,rfl⟩:=a;exact IsiPair.int_tuple ⟨.bl false,H,I.tok _,rfl,q⟩
 | bool b=>cases (show u=Value.bool b from a);exact IsiPair.bool_tuple ⟨.bl false,H,I.tok _,rfl,q⟩
 | str z=>obtain ⟨tk,rfl⟩:=a;exact IsiPair.str_tuple ⟨.bl false,H,I.tok _,rfl,q⟩
 | non=>cases (show u=Value.none from a);exact IsiPair.NoneType_tuple ⟨.bl false,H,I.tok _,rfl,q⟩
 | tuple hh=>cases a;obtain ⟨o,e,c⟩:=I.clsK (.tuple hh);exact IsiPair.tuple_tuple e c ⟨.bl true,H,I,rfl,q⟩
 | list hh=>cases a;obtain ⟨o,e,c⟩:=I.clsK (.list hh);exact IsiPair.list_tuple e c ⟨.bl false,H,I.tok _,rfl,q⟩
 | dK hh=>cases a;obtain ⟨o,e,c⟩:=I.clsK (.dK hh);exact IsiPair.dict_tuple e c ⟨.bl false,H,I.tok _,rfl,q⟩
 | dT hh=>cases a;obtain ⟨o,e,c⟩:=I.clsK (.dT hh);exact IsiPair.dict_tuple e c ⟨.bl false,H,I.tok _,rfl,q⟩
theorem tW {bs:List Bool}:((List.range bs.length).all fun i=>bs.getD i false)=bs.all id:=by
 rw [Bool.eq_iff_iff]
 simp only [List.all_eq_true,List.mem_range,id]
 constructor
 ·intro h b a
  obtain ⟨i,hi,rfl⟩:=List.mem_iff_getElem.mp a
  simpa [List.getD,hi] using h i hi
 ·intro h i hi
  simpa [List.getD,hi] using h _ (List.getElem_mem hi)
theorem wz (y:X.calm=true):bZ X (.builtin "all") (fun xs H Q=>∃ (a:Addr) (bs:List Bool),xs=[.ref a]/\SqL X.K H a (bs.map V.bl)/\Q (.bl (bs.all id)) H):=by
 intro pins s σ H xs us Q I r h
 obtain ⟨a,bs,rfl,m,q⟩:=h
 obtain ⟨u,rfl,f⟩:=dj r
 cases f
 obtain ⟨its,l,p,hz⟩:=I.list m
 have k:=l.length
 rw [Ci] at k
 have j:a < s.heap.objs.size:=by obtain ⟨o,_,e,_⟩:=id p;exact Cf e
 refine call_all_walk (wpAny_pyIter_list p.isList ?_)
 refine ⟨s.heap.objs.size,_,_,_,_,_,fun i=>bs.getD i false,rfl,Walks.list (show X.A.in1.handled=none from I.ok.hd y) s.heap.objs.size a (Cq j) its.toArray,⟨⟨_,Ch _ rfl,rfl,rfl⟩,p.isList.at fun o e=>B8 _ e⟩,?_,?_⟩
 ·intro i v s' w C B g
  have d:its[i]?=some v:=by simpa using B
  have hi:i < bs.length:=by
   have:=(Cj.mp d).1
   omega
  obtain ⟨u,hu,f⟩:=l.get (i:=i) (x:=V.bl (bs[i])) (by simp [hi])
  rw [d] at hu
  cases hu
  cases (show v=Value.bool bs[i] from f)
  refine CM ?_
  have e:bs.getD i false=bs[i]:=by simp [List.getD,hi]
  have c:w (bs.getD i false) s':=g
  rw [e] at c
  exact c
 ·intro h' tk n
  have z:Inv X pins σ H { s with heap:=h',toks:=tk }:=I.kept fun b o e=>n b o (by
   intro hm
   have t:b=s.heap.objs.size:=by simpa using hm
   exact absurd (t ▸ Cf e) (Nat.lt_irrefl _)) (B8 _ e)
  refine ⟨.bl (bs.all id),H,z,?_,q⟩
  show Value.bool _=Value.bool _
  rw [Cr,<- k,tW]
def Ite (K:FG) (a:Addr):It :=
 ⟨fun i H=>∃ xs x,SqL K H a xs/\xs[i]?=some x,fun i H x H'=>∃ T y,x=.ref T/\H T=none/\H'=upd H T (.tup [.int i,y])/\∀ xs,SqL K H a xs->xs[i]?=some y,fun i H=>∃ xs,SqL K H a xs/\xs.length<=i⟩
theorem Inv.two {tk:Nat} (I:Inv X pins σ H s) (g:FpOk X pins H e) (h:FpOk X pins H it) (k:∀ b o,b ≠ e->b ≠ it->s.heap.get? b=some o->h'.get? b=some o):Inv X pins σ H { s with heap:=h',toks:=tk }:=by
 have f:∀ b u,H b=some u->b ≠ e/\b ≠ it:=fun b u q=>⟨aP q g.1,aP q h.1⟩
 have d:∀ b,b ∉ [e,it]->b ≠ e/\b ≠ it:=fun b i=>⟨fun z=>i (by simp [z]),fun z=>i (by simp [z])⟩
 refine I.step (g':=s.gens) (d':=s.drawn) (ch:=[e,it]) (fun b i=>?_) (fun b o _ _ a q _=>k b o (d b a).1 (d b a).2 q) (fun b o _ _ a q _=>⟨o.slots,k b o (d b a).1 (d b a).2 q⟩) (fun _ _ _ _ n=>n)
  (fun b o a q=>⟨o,k b o (d b a).1 (d b a).2 q⟩) (fun _ _ q=>q) (fun _ _ _ q=>q) (fun b ps q=>⟨#[],by rw [q];simp⟩) (fun m hm=>?_) (fun b u q=>?_) I.bare
 ·have j:b=e\/b=it:=by simpa using i
  rcases j with rfl | rfl
  ·exact ⟨g.2.2.2.1,g.2.1,g.2.2.2.2.1,g.2.2.2.2.2⟩
  ·exact ⟨h.2.2.2.1,h.2.1,h.2.2.2.2.1,h.2.2.2.2.2⟩
 ·obtain ⟨o,es,p,l,r⟩:=hm
  exact ⟨o,es,p,k _ o (Ne.symm g.2.1) (Ne.symm h.2.1) l,r⟩
 ·refine (I.hok b u q).stay (fun c v a z=>?_) (fun _ z=>z) fun _ _ z=>z
  rcases a with a | a
  ·rw [a] at z ⊢;exact k b v (f b u q).1 (f b u q).2 z
  ·exact k c v (f c _ a).1 (f c _ a).2 z
theorem Inv.trackT (I:Inv X pins σ H s) (J:Inv X pins σ H s0) (f:s0.heap.objs.size<=T) (g:IsTupD s.heap T its.toArray) (D:Vals xs its) (hz:xs.length<=sizeLine):Inv X pins σ (upd H T (.tup xs)) s:=by
 have l:H T=none:=J.hok.fresh f
 obtain ⟨e1,E,F,a,C,B,w,A,z,i,k⟩:=id I
 have d:∀ b,H b=none->∀ o,s0.heap.get? b=some o->upd H T (.tup xs) b=none:=fun b G o e=>by
  rw [au (Cq (Cv (Cf e) f))];exact G
 have j:∀ b u,H b=some u->upd H T (.tup xs) b=some u:=fun b u e=>by rw [au (aP e l)];exact e
 have h:X.s₀.heap.objs.size<=T:=CN J.sz f
 refine ⟨e1,E,F,⟨a.keep,a.slot,fun b o q n g=>?_,a.there,fun b ys q=>j _ _ (a.tups b ys q),fun b o u q=>j _ _ (a.frzs b o u q),fun b ps q=>?_⟩,C,B,?_,fun x c q=>?_,fun p m=>?_,?_,k⟩
 ·rw [au (Cq (Cv (Cf q) h))];exact a.free b o q n g
 ·obtain ⟨more,t⟩:=a.tbls b ps q;exact ⟨more,j _ _ t⟩
 ·rw [au (Cq (Cv J.lt f))];exact w
 ·obtain ⟨v,o,r,_⟩:=J.cell x c q
  exact d c (A x c q) o r
 ·obtain ⟨a1,a2,y⟩:=z p m
  exact ⟨a1,d p.1 a2 p.2 (J.pin p m).1,y⟩
 ·exact i.track l ⟨hz,its,D,g⟩
theorem rZ {P:Program} {w:World} {K:FG} {elts:List Expr} {k:Nat} {pos:Pos} (a e it:Addr) (y:e ≠ it):Turn P w K (.Tuple elts k pos) (Ite K a) [e,it] e (fun i h=>(∃ old,IsEnum h e it i old)/\h.IsListIter it a i) where
 mem:=by simp
 obj:=fun i h st b g=>by
  obtain ⟨⟨old,he⟩,o,m,c,d⟩:=st
  have C:b=e\/b=it:=by simpa using g
  rcases C with rfl | rfl
  ·exact ⟨_,he,fun v z=>by cases z⟩
  ·exact ⟨o,m,fun v z=>by rw [d] at z;cases z⟩
 keep:=fun i h h' st k=>⟨let ⟨old,he⟩:=st.1;⟨old,k e (by simp) _ he⟩,st.2.at fun o q=>k it (by simp) o q⟩
 item:=by
  intro X J hw F O i pins s σ H E I hf st L
  subst J hw F
  obtain ⟨xs,x,A,D⟩:=L
  obtain ⟨its,N,p,hz⟩:=I.list A
  obtain ⟨u,hu,S⟩:=N.get D
  obtain ⟨⟨old,he⟩,hit⟩:=st
  refine wpAny_pyNext_enum_item he hit p.isList (x:=u) (by simpa using hu) y fun h' G t V hsz U=>?_
  refine ⟨_,rfl,wpAny_letOwnedTupleGo_enum G fun l n f=>?_⟩
  have j:e < s.heap.objs.size:=Cf he
  have I1:Inv X pins σ H { s with heap:=l,toks:=s.toks+1 }:=I.two (hf e (by simp)) (hf it (by simp)) fun b o hb1 hb2 q=>(f.2 b hb1).trans (U b o hb1 hb2 q)
  have B:l.get? s.heap.objs.size=some { cls:=.type "tuple",data:=.seq #[.int i s.toks,u] }:=(f.2 _ (Nat.ne_of_gt j)).trans V
  have Z:=I1.trackT (s0:=s) (T:=s.heap.objs.size) (xs:=[.int i,x]) (its:=[.int i s.toks,u]) I (Co _) ⟨_,B,rfl,_,rfl⟩ (.cons ⟨_,rfl⟩ (.cons S .nil)) (by show 2<=sizeLine;decide)
  refine ⟨.ref s.heap.objs.size,_,Z,rfl,⟨_,x,rfl,I.hok.fresh (Co _),rfl,fun ys R=>by rw [I.list_inj R A];exact D⟩,⟨⟨_,by simpa using n⟩,?_⟩,fun b g=>?_⟩
  ·obtain ⟨o,m,r⟩:=t
   exact ⟨o,(f.2 it (Ne.symm y)).trans m,r⟩
  ·have M:b < s.heap.objs.size:=by
    have C:b=e\/b=it:=by simpa using g
    rcases C with rfl | rfl
    ·exact j
    ·obtain ⟨o,m,r⟩:=hit;exact Cf m
   rw [au (Cq M)]
   exact (hf b g).1
 done:=by
  intro X J hw F O i pins s σ H E I hf st L
  subst J hw F
  obtain ⟨xs,A,D⟩:=L
  obtain ⟨its,N,p,hz⟩:=I.list A
  obtain ⟨⟨old,he⟩,hit⟩:=st
  have hl:=N.length
  obtain ⟨f0,f1,f2,Y,f4,W⟩:=hf it (by simp)
  exact wpAny_pyNext_enum_end (I.ok.hd O) he hit p.isList (by simp;omega) fun h' Q=>⟨rfl,I.turned (t':=s.toks) (fun b o g q=>Q b o g q) f0 f1 Y f4 W⟩
 self:=fun _ _ _ _ _ st h=>let ⟨_,he⟩:=st.1;wpAny_pyIter_enum he h
def zp (K:FG) (ta:TA):TI:=fun σ H R=>ta σ H fun b H1=>∃ a,b=[.ref a]/\(∃ xs,SqL K H1 a xs)/\R (Ite K a) H1
theorem xW {k:Nat} (o:Gl X "enumerate") (hm:X.mg "enumerate"=none) (t:PA X [a] ta) (m:starEach [a] X.env=[(false,eval a X.env)]:=by rfl):PI X (.Tuple elts k tp) (.Call (.Name "enumerate" p) [a] [] pos) (zp X.K ta):=by
 intro pins s σ H R I h
 refine Call_ (fO I o hm boot_enumerate (PyProof.Rows.callWith_type1 (thn (t pos pins s σ H _ I h) fun us s1 ⟨w,H1,d,g,l⟩=>?_) m rfl))
 obtain ⟨a,e,⟨xs,f⟩,q⟩:=l
 subst e
 obtain ⟨u,rfl,i⟩:=dj g
 cases i
 obtain ⟨its,x,pl,hz⟩:=d.list f
 refine call_enumerate_list pl.isList fun h' he hit hsz j=>?_
 refine wpAny_pyIter_enum he ?_
 have r:Inv X pins σ H1 { s1 with heap:=h' }:=d.kept (t':=s1.toks) j
 refine ⟨s1.heap.objs.size+1,[s1.heap.objs.size+1,s1.heap.objs.size],_,_,H1,rfl,r,rZ a _ _ (Nat.succ_ne_self _),⟨⟨_,he⟩,hit⟩,fun b v=>?_,q⟩
 have c:s1.heap.objs.size<=b:=by
  have n:b=s1.heap.objs.size+1\/b=s1.heap.objs.size:=by simpa using v
  rcases n with rfl | rfl
  ·exact Nat.le_succ _
  ·exact Co _
 exact d.fpOk c (d.hok.fresh c)
end
end L2
end
section
namespace L2
open PySem PySem.Spec PyProof.Rows
structure Callee (P:Program) (w:World) (K:FG) (mg:Str->Option Value) (base:Heap) (x:Str) (k:Nat) (ps:List Str) (sp:Sp):Prop where
 ex:∃ (f:Addr) (fd:FuncData),FnOk P w K mg base CX0 k f fd ps sp/\mg x=some (.ref f)/\PySem.W.keepIn K (.ref f)=true/\Binds K fd ps []
structure DefAt (K:FG) (mg:Str->Option Value) (x:Str) (st:Stmt) (f:Addr) (fd:FuncData):Prop where
 fn:Fun K x x st f fd
 mg:mg x=some (.ref f)
def Def (K:FG) (mg:Str->Option Value) (x:Str) (st:Stmt):Prop:=∃ f fd,DefAt K mg x st f fd
theorem Def.callee {K:FG} {st:Stmt} {k:Nat} (D:Def K mg x st) (b:∀ (kV doc pm:Value) (an:Option Addr) (a ct:Value) (us:List Value),us.length=ps.length->bindArgs (PySem.W.fnOf x x (aW st) (aM st) (af st) .none kV doc pm an a ct) ⟨us,[]⟩=pure (ps.zip us)) (h:∀ f fd,Fun K x x st f fd->FnOk P w K mg base CX0 k f fd ps sp):Callee P w K mg base x k ps sp :=
 let ⟨f,fd,d⟩:=D
 ⟨f,fd,h f fd d.fn,d.mg,d.fn.kp,d.fn.binds b⟩
section
variable {X:Cx} {x:Str} {p pos:Pos} {e:Expr} {es:List Expr} {t:TA} {k:Nat} {ps:List Str} {sp:Sp}
def tFn (sp:Sp) (t:TA):TE:=fun σ H Q=>t σ H fun a H1=>sp a H1 Q E0
theorem pe_fn (c:Callee X.prog X.w X.K X.mg X.base x k ps sp) (j:Room k X.A) (n:PA X (e :: es) t) (g:Gl X x:=by rfl) (d:(x == ("__debug__":Str))=false:=by decide)
  (he:starEach (e :: es) X.env=(false,eval e X.env) :: starEach es X.env:=by rfl) (b:(backTo pos (starEach es X.env)).any (·.1)=false:=by rfl):PE X (.Call (.Name x p) (e :: es) [] pos) (tFn sp t):=by
 obtain ⟨f,fd,F,hm,i,l⟩:=c.ex
 have h:=x6 (pos:=pos) (p:=p) (dvs:=[]) (E:=E0) F j g hm i l .nil pass0 n d he b
 intro pins s σ H Q I q
 refine h pins s σ H Q I ?_
 show t σ H fun a H1=>sp (a ++ []) H1 Q E0
 have m:t σ H (fun a H1=>sp a H1 Q E0):=q
 simpa using m
end
def But (p:Addr) (H H':Hp):Prop:=∀ b o,H b=some o->b ≠ p->H' b=some o
theorem But.trans (a:But p H H1) (b:But p H1 H2):But p H H2:=fun c o h n=>b c o (a c o h n) n
abbrev Pt:=Int × Int
def aV (p q r:Pt):Int:=(q.1 - p.1) * (r.2 - p.2) - (q.2 - p.2) * (r.1 - p.1)
def Small (p:Pt):Prop:=-(2 ^ 62) < p.1/\p.1 < 2 ^ 62/\-(2 ^ 62) < p.2/\p.2 < 2 ^ 62
def Rising (ps:List Pt):Prop:=∀ (i j:Nat) (p q:Pt),i < j->ps[i]?=some p->ps[j]?=some q->p.1 < q.1
def NoLine (ps:List Pt):Prop:=∀ (i j k:Nat) (p q r:Pt),i < j->j < k->ps[i]?=some p->ps[j]?=some q->ps[k]?=some r->aV p q r ≠ 0
structure GoodSh (ps:List Pt):Prop where
 pos:0 < ps.length
 most:ps.length<=24
 small:∀ p ∈ ps,Small p
 rising:Rising ps
 noline:NoLine ps
def tQ:Expr->Option Int
 | .Constant (.int i) _ _=>some i
 | _=>none
theorem qZ:∀ {es:List Expr} (ns:List Int),es.map tQ=ns.map some->PA X es (fun _ H Q=>Q (ns.map V.int) H)
 | [],[],_=>j5
 | [],_ :: _,h=>by simp at h
 | _ :: _,[],h=>by simp at h
 | e :: es,n :: ns,h=>by
  simp only [Cs,List.cons.injEq] at h
  obtain ⟨h1,h2⟩:=h
  have b:=qZ (X:=X) ns h2
  cases e with
  | Constant c j pos =>
   cases c with
   | int i =>
    have a:i=n:=by simpa [tQ] using h1
    subst a
    exact gf l4 b
   | _=>simp [tQ] at h1
  | _=>simp [tQ] at h1
def jp:List Pt->List (Pt × Pt)
 | []=>[]
 | p :: r=>r.map (fun q=>(p,q)) ++ jp r
theorem lf:∀ {ps:List Pt} {i j:Nat} {p q:Pt},i < j->ps[i]?=some p->ps[j]?=some q->(p,q) ∈ jp ps
 | [],_,_,_,_,_,h,_=>by simp at h
 | a :: r,0,0,_,_,h,_,_=>by omega
 | a :: r,0,j+1,p,q,_,h1,h2=>by
  simp at h1 h2;subst h1
  exact Ca _ (Cm.mpr ⟨q,Ck h2,rfl⟩)
 | a :: r,i+1,0,_,_,h,_,_=>by omega
 | a :: r,i+1,j+1,p,q,h,h1,h2=>Cc _ (lf (ps:=r) (i:=i) (j:=j) (by omega) (by simpa using h1) (by simpa using h2))
theorem nE:∀ {ps:List Pt} {p q:Pt},(p,q) ∈ jp ps->∃ i j:Nat,i < j/\ps[i]?=some p/\ps[j]?=some q
 | [],_,_,h=>by simp [jp] at h
 | a :: r,p,q,h=>by
  rcases Cg.mp h with h | h
  ·obtain ⟨z,hz,e⟩:=Cm.mp h
   cases e
   obtain ⟨j,b,e⟩:=List.mem_iff_getElem.mp hz
   exact ⟨0,j+1,by omega,rfl,by simp [b,e]⟩
  ·obtain ⟨i,j,h0,h1,h2⟩:=nE h
   exact ⟨i+1,j+1,by omega,by simpa using h1,by simpa using h2⟩
theorem lc:∀ ps:List Pt,(jp ps).length<=ps.length * ps.length
 | []=>by simp [jp]
 | a :: r=>by
  have b:=lc r
  simp only [jp,Cz,Ci,CA]
  have:(r.length+1) * (r.length+1)=r.length * r.length+2 * r.length+1:=by
   rw [Nat.add_mul,Nat.mul_add];omega
  omega
def wM (ps:List Pt) (z:Pt):Prop:=∀ (i j:Nat) (p q:Pt),i < j->ps[i]?=some p->ps[j]?=some q->aV p q z ≠ 0
def above (ps:List Pt) (x y:Int):Nat:=((jp ps).filter fun pr=>decide (aV pr.1 pr.2 (x,y)<=0)).length
theorem wv {α:Type} {p q:α->Bool}:∀ {l:List α},(∀ a ∈ l,p a=true->q a=true)->(l.filter p).length<=(l.filter q).length
 | [],_=>by simp
 | a :: l,h=>by
  have e:=wv (l:=l) fun b g=>h b (B7 _ g)
  have f:=h a B6
  cases c:p a with
  | true=>rw [List.filter_cons_of_pos c,List.filter_cons_of_pos (f c)];simpa using e
  | false =>
   rw [List.filter_cons_of_neg (by simp [c])]
   cases d:q a with
   | true=>rw [List.filter_cons_of_pos d];simp;omega
   | false=>rw [List.filter_cons_of_neg (by simp [d])];exact e
theorem wu {α:Type} {p q:α->Bool}:∀ {l:List α} {z:α},(∀ a ∈ l,p a=true->q a=true)->z ∈ l->q z=true->p z=false->(l.filter p).length < (l.filter q).length
 | [],_,_,hz,_,_=>by simp at hz
 | a :: l,z,h,hz,h1,h2=>by
  have f:∀ b ∈ l,p b=true->q b=true:=fun b g=>h b (B7 _ g)
  rcases Cd.mp hz with rfl | hz
  ·rw [List.filter_cons_of_neg (by simp [h2]),List.filter_cons_of_pos h1]
   have:=wv f
   simp;omega
  ·have e:=wu f hz h1 h2
   have i:=h a B6
   cases c:p a with
   | true=>rw [List.filter_cons_of_pos c,List.filter_cons_of_pos (i c)];simpa using e
   | false =>
    rw [List.filter_cons_of_neg (by simp [c])]
    cases d:q a with
    | true=>rw [List.filter_cons_of_pos d];simp;omega
    | false=>rw [List.filter_cons_of_neg (by simp [d])];exact e
theorem rP (p q:Pt) (x y:Int):aV p q (x,y+1)=aV p q (x,y)+(q.1 - p.1):=by
 unfold aV
 have e:(q.1 - p.1) * (y+1 - p.2)=(q.1 - p.1) * (y - p.2)+(q.1 - p.1):=by
  rw [show y+1 - p.2=(y - p.2)+1 by omega,Int.mul_add,Int.mul_one]
 show (q.1 - p.1) * (y+1 - p.2) - (q.2 - p.2) * (x - p.1)=(q.1 - p.1) * (y - p.2) - (q.2 - p.2) * (x - p.1)+(q.1 - p.1)
 rw [e];omega
theorem wJ {x y:Int} (R:Rising ps) {i j:Nat} (a:i < j) (hi:ps[i]?=some p) (c:ps[j]?=some q) (h0:aV p q (x,y)=0):above ps x (y+1) < above ps x y:=by
 refine wu (z:=(p,q)) (fun pr b h=>?_) (lf a hi c) (by simp [h0]) ?_
 ·obtain ⟨f,d,h',e1,e⟩:=nE (p:=pr.1) (q:=pr.2) b
  have:=R f d _ _ h' e1 e
  have h:=of_decide_eq_true h
  rw [rP] at h
  exact Ct (by omega)
 ·have:=R i j _ _ a hi c
  show decide (aV p q (x,y+1)<=0)=false
  rw [rP,h0]
  exact Cu (by omega)
theorem wK (ps:List Pt) (x y:Int):above ps x y<=ps.length * ps.length:=CN (List.length_filter_le _ _) (lc ps)
theorem cP {α:Type} {l:List α} {z a:α} {i:Nat} (h:(l ++ [z])[i]?=some a):(l[i]?=some a/\i < l.length)\/(a=z/\i=l.length):=by
 by_cases hi:i < l.length
 ·rw [CJ hi] at h;exact .inl ⟨h,hi⟩
 ·rw [List.getElem?_append_right (by omega)] at h
  have:i - l.length=0:=by
   cases e:i - l.length with
   | zero=>rfl
   | succ n=>rw [e] at h;simp at h
  rw [this] at h;simp at h
  exact .inr ⟨h.symm,by omega⟩
theorem Rising.snoc (R:Rising ps) (h:∀ p ∈ ps,p.1 < z.1):Rising (ps ++ [z]):=fun i j p q a h1 h2=>by
 rcases cP h1 with ⟨a1,b1⟩ | ⟨rfl,b1⟩
 ·rcases cP h2 with ⟨a2,b2⟩ | ⟨rfl,b2⟩
  ·exact R i j p q a a1 a2
  ·exact h p (Ck a1)
 ·rcases cP h2 with ⟨a2,b2⟩ | ⟨rfl,b2⟩
  ·omega
  ·omega
theorem NoLine.snoc (N:NoLine ps) (F:wM ps z):NoLine (ps ++ [z]):=fun i j k p q r a b h1 h2 h3=>by
 rcases cP h1 with ⟨a1,b1⟩ | ⟨rfl,b1⟩
 ·rcases cP h2 with ⟨a2,b2⟩ | ⟨rfl,b2⟩
  ·rcases cP h3 with ⟨d,c⟩ | ⟨rfl,c⟩
   ·exact N i j k p q r a b a1 a2 d
   ·exact F i j p q a a1 a2
  ·rcases cP h3 with ⟨d,c⟩ | ⟨rfl,c⟩ <;> omega
 ·rcases cP h2 with ⟨a2,b2⟩ | ⟨rfl,b2⟩ <;> omega
def gq (a b c:Int) (p:Pt):Pt:=(a * p.1+c,b * p.2)
theorem qD (a b c:Int) (p q r:Pt):aV (gq a b c p) (gq a b c q) (gq a b c r)=(a * b) * aV p q r:=by
 unfold aV gq
 show (a * q.1+c - (a * p.1+c)) * (b * r.2 - b * p.2) - (b * q.2 - b * p.2) * (a * r.1+c - (a * p.1+c))=_
 have e1:a * q.1+c - (a * p.1+c)=a * (q.1 - p.1):=by rw [Int.mul_sub];omega
 have d:b * r.2 - b * p.2=b * (r.2 - p.2):=by rw [Int.mul_sub]
 have f:b * q.2 - b * p.2=b * (q.2 - p.2):=by rw [Int.mul_sub]
 have e:a * r.1+c - (a * p.1+c)=a * (r.1 - p.1):=by rw [Int.mul_sub];omega
 rw [e1,d,f,e,Int.mul_sub (a * b)]
 have f1:a * (q.1 - p.1) * (b * (r.2 - p.2))=a * b * ((q.1 - p.1) * (r.2 - p.2)):=by
  rw [Int.mul_assoc,Int.mul_assoc,Int.mul_left_comm (q.1 - p.1)]
 have f2:b * (q.2 - p.2) * (a * (r.1 - p.1))=a * b * ((q.2 - p.2) * (r.1 - p.1)):=by
  rw [Int.mul_comm a b,Int.mul_assoc,Int.mul_assoc,Int.mul_left_comm (q.2 - p.2)]
 rw [f1,f2]
theorem Rising.scale {a b c:Int} (h:0 < a) (R:Rising ps):Rising (ps.map (gq a b c)):=fun i j p q d h1 h2=>by
 rw [Cn] at h1 h2
 obtain ⟨f,e1,rfl⟩:=B9.mp h1
 obtain ⟨e,g,rfl⟩:=B9.mp h2
 have:=R i j f e d e1 g
 have h3:a * f.1 < a * e.1:=Int.mul_lt_mul_of_pos_left this h
 show a * f.1+c < a * e.1+c
 omega
theorem NoLine.scale {a b c:Int} (n:0 < a) (o:0 < b) (N:NoLine ps):NoLine (ps.map (gq a b c)):=fun i j k p q r d e h1 h2 h3=>by
 rw [Cn] at h1 h2 h3
 obtain ⟨f,e1,rfl⟩:=B9.mp h1
 obtain ⟨g,l,rfl⟩:=B9.mp h2
 obtain ⟨h,m,rfl⟩:=B9.mp h3
 rw [qD]
 exact Int.mul_ne_zero (Int.mul_ne_zero (by omega) (by omega)) (N i j k f g h d e e1 l m)
section InBlock
variable {X:Cx} {NY:List Str} {scope:Scope} {s:Shared} {H:Hp} {C:Addr} {fp:List Addr}
end InBlock
end L2
end
section
namespace L2
open PySem PySem.Spec PyProof.Rows
mutual
inductive DV (K:FG) (H:Hp):V->PyData->Prop
 | non:DV K H .non .none
 | bl (b:Bool):DV K H (.bl b) (.bool b)
 | int (i:Int):DV K H (.int i) (.int i)
 | str (x:Str):DV K H (.str x) (.str x)
 | tup {a:Addr} {xs:List V} {ds:List PyData}:SqT K H a xs->DVs K H xs ds->DV K H (.ref a) (.tuple ds)
 | lst {a:Addr} {xs:List V} {ds:List PyData}:SqL K H a xs->DVs K H xs ds->DV K H (.ref a) (.list ds)
inductive DVs (K:FG) (H:Hp):List V->List PyData->Prop
 | nil:DVs K H [] []
 | cons {x:V} {d:PyData} {xs:List V} {ds:List PyData}:DV K H x d->DVs K H xs ds->DVs K H (x :: xs) (d :: ds)
end
section
variable {X:Cx} {pins:List (Addr × Obj)} {σ:St} {H:Hp} {s:Shared}
mutual
theorem DV.reads (I:Inv X pins σ H s):∀ {v:V} {d:PyData} {u:Value},DV X.K H v d->RelV v u->∃ as,Reads s.heap u d as
 | _,_,u,.non,r=>by cases (show u=Value.none from r);exact ⟨_,.none⟩
 | _,_,u,.bl b,r=>by cases (show u=Value.bool b from r);exact ⟨_,.bool b⟩
 | _,_,u,.int i,r=>by obtain ⟨t,rfl⟩:=r;exact ⟨_,.int i t⟩
 | _,_,u,.str x,r=>by obtain ⟨t,rfl⟩:=r;exact ⟨_,.str x t⟩
 | _,_,u,.tup (a:=a) h rs,r=>by
  cases (show u=Value.ref a from r)
  obtain ⟨its,f,⟨o,e,c,n,d⟩,_⟩:=I.tuple h
  obtain ⟨as,q⟩:=DVs.reads I rs f
  exact ⟨_,.tuple e c d (by simpa using q)⟩
 | _,_,u,.lst (a:=a) h rs,r=>by
  cases (show u=Value.ref a from r)
  obtain ⟨its,f,⟨o,n,e,c,_,d⟩,_⟩:=I.list h
  obtain ⟨as,q⟩:=DVs.reads I rs f
  exact ⟨_,.list e c d (by simpa using q)⟩
theorem DVs.reads (I:Inv X pins σ H s):∀ {v:List V} {d:List PyData} {us:List Value},DVs X.K H v d->Vals v us->∃ as,ReadsAll s.heap us d as
 | _,_,_,.nil,.nil=>⟨_,.nil⟩
 | _,_,_,.cons h r,.cons q t=>by
  obtain ⟨as,e1⟩:=DV.reads I h q
  obtain ⟨bs,a⟩:=DVs.reads I r t
  exact ⟨_,.cons e1 a⟩
end
end
end L2
end
section
namespace L2
open PySem PySem.Spec PyProof.Rows
abbrev yq (i:Int):Str:=Str.ofString (toString i)
end L2
end
section
namespace L2
open PySem PySem.Spec PyProof.Rows
end L2
end
section
namespace L2
open PySem PySem.Spec PyProof.Rows
end L2
end
section
namespace L2
open PySem PySem.Spec PyProof.Rows
end L2
end
section
namespace L2
open PySem PySem.Spec PyProof.Rows
end L2
end
section
namespace L2
open PySem PySem.Spec PyProof.Rows
end L2
end
section
namespace L2
open PySem PySem.Spec PyProof.Rows
end L2
end
section
namespace L2
open PySem PySem.Spec PyProof.Rows
section
variable {X:Cx}
def kH (n:Nat):List V:=(List.range n).map fun (k:Nat)=>V.int (0+(k:Int))
theorem sA:∀ {n:Nat} {acc:List Value},acc.length=n->(∀ (j:Nat) v,acc[j]?=some v->∃ t,v=Value.int (0+(j:Int) * 1) t)->Vals (kH n) acc:=by
 intro n
 induction n with
 | zero=>intro acc b _;cases acc with | nil=>exact .nil | cons a r=>simp at b
 | succ n ih =>
  intro acc b d
  obtain ⟨init,last,rfl⟩:∃ init last,acc=init ++ [last]:=⟨acc.dropLast,acc.getLast (by intro e;rw [e] at b;simp at b),(List.dropLast_concat_getLast _).symm⟩
  have c:init.length=n:=by simpa using b
  have h1:=ih c fun j v f=>d j v (by rw [CJ (Cj.mp f).1];exact f)
  obtain ⟨t,g⟩:=d n last (by rw [<- c,List.getElem?_append_right (Co _)];simp)
  have e:kH (n+1)=kH n ++ [V.int (0+(n:Int))]:=by simp [kH,List.range_succ]
  rw [e]
  exact h1.append (.cons ⟨t,by rw [g,Int.mul_one]⟩ .nil)
end
end L2
end
section
namespace L2
open PySem PySem.Spec PyProof.Rows
end L2
end
section
namespace L2
open PySem PySem.Spec PyProof.Rows
end L2
end
section
namespace PySem
open Sem (wp)
end PySem
end
section
namespace L2
open PySem PySem.Spec PyProof.Rows
end L2
end
section
namespace L2
open PySem PySem.Spec PyProof.Rows
end L2
end
section
namespace L2
open PySem PySem.Spec PyProof.Rows
end L2
end
section
namespace PyProof.Rows
open PySem
end PyProof.Rows
end
section
namespace L2
open PySem PySem.Spec PyProof.Rows
theorem gw:∀ {us:List Value} {ns:List Int},IntsAre us ns->Vals (ns.map V.int) us
 | _,_,.nil=>.nil
 | _,_,.cons n t h=>.cons ⟨t,rfl⟩ (gw h)
end L2
end
section
namespace L2
open PySem PySem.Spec PyProof.Rows
end L2
end
section
namespace L2
open PySem PySem.Spec PyProof.Rows
def IsNts (h:Heap) (b:Addr) (n:List Int):Prop:=∃ it:Array Value,IsTup h b it/\IntsAre it.toList n
end L2
end
section
namespace L2
open PySem PySem.Spec PyProof.Rows
end L2
end
section
namespace L2
open PySem PySem.Spec PyProof.Rows
end L2
end
section
namespace L2
open PySem PySem.Spec PyProof.Rows
end L2
end
section
namespace L2
open PySem PySem.Spec PyProof.Rows
theorem IsNts.at (x:IsNts h b n) (e:∀ o,h.get? b=some o->h'.get? b=some o):IsNts h' b n:=by
 obtain ⟨it,⟨o,e1,r⟩,j⟩:=x
 exact ⟨it,⟨o,e o e1,r⟩,j⟩
structure NRow (h:Heap) (bs:List Addr) (ns:List (List Int)):Prop where
 len:ns.length=bs.length
 at':∀ (i:Nat) (b:Addr) (n:List Int),bs[i]?=some b->ns[i]?=some n->IsNts h b n/\n ≠ []
 asc:∀ (i:Nat) (x y:List Int),ns[i]?=some y->ns[i+1]?=some x->HT.lexLt x y=false
theorem NRow.keep (r:NRow h bs ns) (k:∀ b ∈ bs,∀ o,h.get? b=some o->h'.get? b=some o):NRow h' bs ns :=
 ⟨r.len,fun i b n e1 a=>⟨(r.at' i b n e1 a).1.at (k b (Ck e1)),(r.at' i b n e1 a).2⟩,r.asc⟩
end L2
end
section
namespace L2
open PySem PySem.Spec PyProof.Rows
end L2
end
section
namespace L2
open PySem PySem.Spec PyProof.Rows
end L2
end
section
namespace L2
open PySem PySem.Spec PyProof.Rows
end L2
end
section
namespace L2
open PySem
abbrev Up (xs:Array Nat):Prop:=xs.toList.Pairwise (· < ·)
theorem Up.at (h:Up xs) {i k:Nat} (a:i < k) (b:k < xs.size):xs[i]'(by omega) < xs[k]:=by
 have:=List.pairwise_iff_getElem.mp h i k (by simp;omega) (by simpa using b) a
 simpa using this
theorem wD (h:Up xs) (j:Nat):∀ (fuel lo hi:Nat),hi - lo<=fuel->lo<=hi->hi<=xs.size ->
  (∀ i (z:i < xs.size),i < lo->xs[i] < j)->(∀ i (z:i < xs.size),hi<=i->j<=xs[i]) ->
  (∀ i (z:i < xs.size),i < SetTable.below.go xs j fuel lo hi->xs[i] < j)/\(∀ i (z:i < xs.size),SetTable.below.go xs j fuel lo hi<=i->j<=xs[i])/\SetTable.below.go xs j fuel lo hi<=xs.size:=by
 intro fuel
 induction fuel with
 | zero =>
  intro lo hi f l z a b
  have e:lo=hi:=by omega
  subst e
  unfold SetTable.below.go
  exact ⟨a,b,z⟩
 | succ fuel ih =>
  intro lo hi f l z a b
  unfold SetTable.below.go
  by_cases g:lo < hi
  ·rw [if_pos g]
   have hm:(lo+hi) / 2 < xs.size:=by omega
   have m:xs.getD ((lo+hi) / 2) j=xs[(lo+hi) / 2]:=by simp [Array.getD,hm]
   dsimp only
   rw [m]
   by_cases c:xs[(lo+hi) / 2] < j
   ·rw [if_pos c]
    refine ih _ _ (by omega) (by omega) z (fun i k d=>?_) b
    by_cases e:i=(lo+hi) / 2
    ·subst e;exact c
    ·exact Nat.lt_trans (h.at (show i < (lo+hi) / 2 by omega) hm) c
   ·rw [if_neg c]
    refine ih _ _ (by omega) (by omega) (by omega) a (fun i k d=>?_)
    by_cases e:i=(lo+hi) / 2
    ·subst e;omega
    ·have:=h.at (show (lo+hi) / 2 < i by omega) k;omega
  ·rw [if_neg g]
   have e:lo=hi:=by omega
   subst e
   exact ⟨a,b,z⟩
theorem kB (h:Up xs) (j:Nat):(∀ i (z:i < xs.size),i < SetTable.below xs j->xs[i] < j)/\(∀ i (z:i < xs.size),SetTable.below xs j<=i->j<=xs[i])/\SetTable.below xs j<=xs.size :=
 wD h j xs.size 0 xs.size (by omega) (by omega) (Co _) (fun i z c=>by omega) (fun i z c=>by omega)
theorem qF (h:Up xs) {i:Nat} (hi:i < xs.size):SetTable.below xs (xs[i]+1)=i+1:=by
 obtain ⟨a,b,c⟩:=kB h (xs[i]+1)
 generalize SetTable.below xs (xs[i]+1)=r at *
 by_cases l:r<=i
 ·have:=b i hi l;omega
 ·by_cases g:i+1 < r
  ·have h1:=a (i+1) (by omega) g
   have h2:=h.at (show i < i+1 by omega) (by omega)
   omega
  ·omega
theorem qE (h:Up xs):SetTable.below xs 0=0:=by
 obtain ⟨a,b,c⟩:=kB h 0
 by_cases l:0 < SetTable.below xs 0
 ·have:=a 0 (by omega) l;omega
 ·omega
theorem rX (h:Up xs) {j:Nat} (m:(xs[SetTable.below xs j]? == some j)=false):Up (SetTable.insertAt xs (SetTable.below xs j) j):=by
 obtain ⟨a,b,c⟩:=kB h j
 show (SetTable.insertAt xs (SetTable.below xs j) j).toList.Pairwise _
 rw [SetTable.toList_insertAt]
 generalize SetTable.below xs j=r at *
 have f:∀ x ∈ xs.toList.take r,x < j:=fun x d=>by
  obtain ⟨i,hi,rfl⟩:=List.mem_take_iff_getElem.mp d
  simp at hi
  exact a i (by omega) (by omega)
 have g:∀ x ∈ xs.toList.drop r,j < x:=fun x d=>by
  obtain ⟨i,hi,rfl⟩:=List.mem_drop_iff_getElem.mp d
  simp at hi
  have h1:=b (r+i) (by omega) (by omega)
  have h2:xs[r]'(by omega) ≠ j:=by
   intro e
   rw [Array.getElem?_eq_getElem (by omega),e] at m
   simp at m
  simp only [Array.getElem_toList]
  rcases Nat.eq_zero_or_pos i with e | e
  ·subst e
   simp only [Nat.add_zero] at h1 ⊢
   omega
  ·have h3:=h.at (show r < r+i by omega) (by omega)
   have n:=b r (by omega) (Co _)
   omega
 have l:(xs.toList.take r ++ xs.toList.drop r).Pairwise (· < ·):=by rw [List.take_append_drop];exact h
 rw [List.pairwise_append] at l ⊢
 refine ⟨l.1,List.pairwise_cons.mpr ⟨g,l.2.1⟩,fun x d y k=>?_⟩
 rcases Cd.mp k with rfl | k
 ·exact f x d
 ·exact Nat.lt_trans (f x d) (g y k)
theorem sf {t:SetTable} {j:Nat} (h:∀ i,t.slot j ≠ .live i):(t.place[SetTable.below t.place j]? == some j)=false:=by
 cases e:(t.place[SetTable.below t.place j]? == some j) with
 | false=>rfl
 | true =>
  refine absurd ?_ (h (SetTable.below t.place j))
  unfold SetTable.slot
  simp only [e,if_true]
theorem u8 {h:Int} {j:Nat}:∀ (n:Nat) (p:SetTable.Probe),(∀ x,p.dummy=some x->∀ i,t.slot x ≠ .live i) ->
  SetTable.probe.go t f h n p=some (.empty j d)->∀ i,t.slot (d.getD j) ≠ .live i:=by
 intro n
 induction n with
 | zero=>intro p _ e;simp [SetTable.probe.go] at e
 | succ n ih =>
  intro p g e
  have a:∀ q:SetTable.Probe,(t.advance q).dummy=q.dummy:=fun q=>by unfold SetTable.advance;split <;> rfl
  unfold SetTable.probe.go at e
  split at e
  ·rename_i c
   simp only [Option.some.injEq,SetTable.Met.empty.injEq] at e
   obtain ⟨e1,k⟩:=e
   cases hd:p.dummy with
   | none=>rw [<- k,hd,Option.getD_none,<- e1,c];exact fun i z=>by cases z
   | some x=>rw [<- k,hd,Option.getD_some];exact g x hd
  ·rename_i c
   refine ih _ (fun x b=>?_) e
   rw [a] at b
   simp only [Option.some.injEq] at b
   rw [<- b,c]
   exact fun i z=>by cases z
  ·split at e
   ·simp at e
   ·exact ih _ (fun x b=>g x (by rw [<- b,a])) e
theorem s9 {t:SetTable} {h:Int} {j:Nat} (e:t.freeSlot h=some (j,b)):∀ i,t.slot j ≠ .live i:=by
 unfold SetTable.freeSlot at e
 split at e
 ·rename_i f d c
  simp only [Option.some.injEq,Prod.mk.injEq] at e
  rw [<- e.1]
  exact u8 _ _ (fun x a=>by simp [SetTable.probeStart] at a) c
 ·cases e
structure Tab (b:Bool) (t:SetTable):Prop where
 up:Up t.place
 led:t.led=b
theorem t7 (n:Nat):Up (Array.range n):=by
 show (Array.range n).toList.Pairwise _
 rw [Array.toList_range]
 exact List.pairwise_lt_range
theorem Tab.stand (h:Tab b t) (n:Nat):Tab b (t.standIn n):=⟨t7 n,h.led⟩
theorem Tab.or (h:Tab b t) (n:Nat):Tab b (t.orStandIn n):=by
 unfold SetTable.orStandIn
 split
 ·exact h
 ·exact h.stand n
theorem Tab.new (h:Tab b t) (es:Array (Int × Value)) (k:Int) (x:Value):Tab b (layNew t es k x).2.1:=by
 unfold layNew
 split
 ·rename_i j d e
  have z:Tab b (t.put j).1:=⟨rX h.up (sf (s9 e)),h.led⟩
  exact z.or _
 ·exact h.stand _
theorem Tab.all (h:Tab b t) (es:Array (Int × Value)) (n:Nat):Tab b (relayAll t es n).2.1:=by
 unfold relayAll
 split
 ·rename_i t' order e
  dsimp only
  split
  ·unfold SetTable.relaid SetTable.laid at e
   simp only [Option.bind_eq_bind,CF,Option.pure_def,Option.some.injEq,Prod.mk.injEq] at e
   obtain ⟨k,_,e1,_⟩:=e
   subst e1
   refine ⟨?_,h.led⟩
   have aux:∀ (f:Nat->Option Nat) (m:Nat),((List.filterMap (fun j=>(f j).map (j,·)) (List.range m)).map (·.1)).Pairwise (· < ·):=fun f m=>by
    rw [List.pairwise_map,List.pairwise_filterMap]
    refine List.pairwise_lt_range.imp fun {a c} d x g y i=>?_
    rw [B9] at g i
    obtain ⟨_,_,rfl⟩:=g
    obtain ⟨_,_,rfl⟩:=i
    exact d
   exact aux _ _
  ·exact h.stand _
 ·exact h.stand _
theorem Tab.off (h:Tab b t) (c:Bool):Tab b (if c=true then t else { t with plain:=false }):=by
 cases c
 ·exact ⟨h.up,h.led⟩
 ·exact h
end L2
end
section
namespace L2
open PySem PyProof.Rows
abbrev cU (w:World):Bool:=!w.params.followText "set-order"
def SetL (prog:Program) (w:World) (h:Heap) (a:Addr) (ns:List Int):Prop :=
 ∃ o es b t ms,h.get? a=some o/\o.ExactSet/\o.data=.set es b t/\ElemsOf (intKind prog w) es.toList/\IntsAre (es.toList.map (·.2)) ms/\ms.Perm ns/\es.size < scanBound/\t.fits es.size=true/\Tab (cU w) t
theorem SetL.keep (x:SetL prog w h a ns) (k:∀ o,h.get? a=some o->h'.get? a=some o):SetL prog w h' a ns :=
 let ⟨o,es,b,t,ms,e,r⟩:=x;⟨o,es,b,t,ms,k o e,r⟩
theorem SetL.typeIs {s:Shared} (x:SetL prog w s.heap a ns):s.TypeIs (.ref a) "set" :=
 let ⟨o,_,_,_,_,e,c,_⟩:=x;⟨o,e,c.1⟩
def met (ns:List Int) (k:Int):List Int:=if k ∈ ns then ns else ns ++ [k]
theorem d5:∀ {l:List (Int × Value)},ElemsOf (intKind prog w) l->∃ ms,IntsAre (l.map (·.2)) ms
 | [],_=>⟨[],.nil⟩
 | e :: l,h=>by
  obtain ⟨ms,hm⟩:=d5 h.tail
  obtain ⟨⟨k,b,_⟩,_⟩:=h.head
  obtain ⟨t,a⟩:=Value.isInt_shape b
  refine ⟨k :: ms,?_⟩
  rw [Cs,a]
  exact .cons k t hm
theorem i8 (p:List.Perm vs ws) (a:IntsAre vs ns) (b:IntsAre ws ms):ns.Perm ms:=by
 rw [<- a.nums,<- b.nums]
 exact p.map _
section
variable {prog:Program} {w:World} {A:Around} {E:Value->Shared->Prop} {s:Shared}
theorem td {l:List (Int × Value)} {k:Int} (hi:IntsAre (l.map (·.2)) ms):(l.findIdx? (fun e=>(intKind prog w).is k e.2)).isSome=true ↔ k ∈ ms:=by
 induction l generalizing ms with
 | nil=>cases hi;simp
 | cons e l ih =>
  obtain ⟨h0,v⟩:=e
  rw [Cs] at hi
  cases hi with
  | cons n t hr =>
   rw [List.findIdx?_cons]
   by_cases c:k=n
   ·subst c
    rw [if_pos (intKind_is prog w k t)]
    simp
   ·have:(intKind prog w).is k (Value.int n t)=false:=by
     cases z:(intKind prog w).is k (Value.int n t) with
     | false=>rfl
     | true=>exact absurd ((intKind prog w).inj _ _ _ z (intKind_is prog w n t)) c
    rw [this]
    simp only [CH,if_false,Option.isSome_map,Cd,c,false_or]
    exact ih hr
theorem mZ {k:Int} (hS:SetL prog w s.heap a ns) (N:ns.length+1 < scanBound) (h:∀ b h',Heap.SameBut a s.heap h'->SetL prog w h' a (met ns k)->Q b { s with heap:=h' }):wpAny (model prog w) A (setAddHashed a (.int k tk) (hashInt k)) Q E s:=by
 obtain ⟨o,es,M,t,ms,y,hex,hd,g,hi,B,T,hf,S⟩:=hS
 have hn:es.size=ns.length:=by rw [<- B.length_eq,<- hi.length,Ci,Array.length_toList]
 have C:=td (prog:=prog) (w:=w) (k:=k) hi
 unfold setAddHashed setAddHashedIn
 refine B5 (B0 (wpAny_setState_of y hd hf ?_))
 dsimp only
 rw [if_pos (byScan_of (x:=.int k tk) rfl T g)]
 refine B0 (B0 (wpAny_rule (B0 (wpAny_setScan_of (knd:=intKind prog w) (intKind_is prog w k tk) y hd hf g ?_))))
 cases V:List.findIdx? (fun e=>(intKind prog w).is k e.2) es.toList with
 | some j =>
  rw [V] at C
  have H:k ∈ ns:=B.mem_iff.mp (C.mp rfl)
  refine B4 (B4 ?_)
  have:=h false s.heap (Heap.SameBut.refl a s.heap) ⟨o,es,M,t,ms,y,hex,hd,g,hi,by rw [met,if_pos H];exact B,T,hf,S⟩
  exact this
 | none =>
  rw [V] at C
  have H:k ∉ ns:=fun z=>by have:=C.mpr (B.mem_iff.mpr z);simp at this
  have p:=layNew_perm t es (hashInt k) (.int k tk)
  have f1:=layNew_fits t es (hashInt k) (.int k tk)
  have t1:=S.new es (hashInt k) (.int k tk)
  generalize layNew t es (hashInt k) (.int k tk)=L at p f1 t1 ⊢
  obtain ⟨d,u,Y,U⟩:=L
  dsimp only at p f1 t1 ⊢
  rw [Array.toList_push] at p
  have m:ElemsOf (intKind prog w) d.toList:=(g.push (intKind_is prog w k tk) rfl).perm p
  obtain ⟨G,P⟩:=d5 m
  have b1:d.size=es.size+1:=by have:=p.length_eq;simpa using this
  have q1:G.Perm (met ns k):=by
   have i0:IntsAre ((es.toList ++ [(hashInt k,Value.int k tk)]).map (·.2)) (ms ++ [k]):=by
    rw [List.map_append]
    exact hi.append (.cons k tk .nil)
   rw [met,if_neg H]
   exact (i8 (p.map _) P i0).trans (B.append_right [k])
  have done:∀ (h1:Heap) (i:Obj) (f:Array (Int × Value)) (n:Nat) (l:SetTable),h1.get? a=some i->i.ExactSet->i.data=.set f n l->f.toList.Perm d.toList->l.fits f.size=true->Tab (cU w) l->Heap.SameBut a s.heap h1->Q true { s with heap:=h1 }:=by
   intro h1 i f n l g1 g2 g3 F X g6 Z
   obtain ⟨I,R⟩:=d5 (m.perm F)
   exact h true h1 Z ⟨i,f,n,l,I,g1,g2,g3,m.perm F,R,(i8 (F.map _) R P).trans q1,by have:=F.length_eq;simp at this;omega,X,g6⟩
  have W:∀ (b:Bool) {O:Shared} {J:Unit->Shared->Prop},J () O->wpAny (model prog w) A (match b with | true=>rule "set.scan.the-table-gave-way" | false=>pure ()) J E O:=fun b O J q=>by
   cases b
   ·exact B4 q
   ·exact wpAny_rule q
  have two:∀ (c:Bool),wpAny (model prog w) A (do
    storeSet a d (if c=true then u else { u with plain:=false })
    if (!Y && (if c=true then u else { u with plain:=false }).tooFull)=true then do
     let r:=relayAll (if c=true then u else { u with plain:=false }) d (SetTable.grown d.size)
     (match r.2.2 with | true=>rule "set.scan.the-table-gave-way" | false=>pure ())
     storeSet a r.1 r.2.1
     pure (some true)
    else pure (some true)) (fun r s'=>r=some true/\Q true s') E s:=by
   intro c
   have l:=t1.off c
   have f2:(if c=true then u else { u with plain:=false }).fits d.size=true:=by cases c <;> exact f1
   generalize (if c=true then u else { u with plain:=false })=v at l f2 ⊢
   refine B0 (wpAny_storeSet_of (hz:=fits_of_scanBound (by omega)) y hd ?_)
   have i:(s.heap.update a (Obj.putSet d v)).get? a=some { o with data:=.set d (M+1) v }:=by
    have:=Cy (Obj.putSet d v) y (by rw [putSet_of d v hd];rfl)
    rw [putSet_of d v hd] at this
    exact this
   split
   ·have D:=relayAll_perm v d (SetTable.grown d.size)
    have K:=relayAll_fits v d (SetTable.grown d.size)
    have t3:=l.all d (SetTable.grown d.size)
    generalize relayAll v d (SetTable.grown d.size)=r at D K t3 ⊢
    obtain ⟨f,v2,g2⟩:=r
    dsimp only at D K t3 ⊢
    have b3:f.size=d.size:=by have:=D.length_eq;simpa using this
    refine B0 (W _ (B0 (wpAny_storeSet_of (hz:=fits_of_scanBound (by omega)) i rfl (B4 ⟨rfl,?_⟩))))
    have o2:((s.heap.update a (Obj.putSet d v)).update a (Obj.putSet f v2)).get? a=some { o with data:=.set f (M+1+1) v2 }:=by
     have:=Cy (Obj.putSet f v2) i (by rw [putSet_of f v2 rfl];rfl)
     rw [putSet_of f v2 rfl] at this
     exact this
    exact done _ _ f _ v2 o2 hex rfl D K t3 ((Heap.SameBut.update _ a _).trans (Heap.SameBut.update _ a _))
   ·refine B4 ⟨rfl,?_⟩
    exact done _ _ d _ v i hex rfl (List.Perm.refl _) f2 l (Heap.SameBut.update _ a _)
  have fin:∀ (r:Option Bool) (s':Shared) {x:Sem Bool},r=some true/\Q true s'->wpAny (model prog w) A (match r with | some b=>pure b | none=>x) Q E s':=fun r s' x z=>by
   obtain ⟨rfl,q⟩:=z
   exact B4 q
  refine B0 (W _ ?_)
  split
  ·refine B0 (wpAny_of_eq (a:=true) rfl ?_)
   exact wpAny_mono (two true) (fun r s' z=>fin r s' z) fun _ _ z=>z
  ·refine B0 (B4 ?_)
   exact wpAny_mono (two true) (fun r s' z=>fin r s' z) fun _ _ z=>z
end
end L2
end
section
namespace L2
open PySem PyProof.Rows
theorem gg (ns:List Int) (k:Int):(met ns k).length<=ns.length+1:=by
 unfold met
 split <;> simp
theorem j6:∀ (c ns:List Int),(c.foldl met ns).length<=ns.length+c.length
 | [],ns=>Co _
 | k :: c,ns=>by
  have a:=j6 c (met ns k)
  have b:=gg ns k
  simp only [List.foldl_cons,CA]
  omega
section
variable {prog:Program} {w:World} {A:Around} {E:Value->Shared->Prop}
theorem uu (y:A.handled=none) (h:I ≠ S) (C:l ≠ S) (x:l ≠ I) :
  ∀ (k i:Nat) (s:Shared) (ns ms:List Int),items.size - i=k->s.heap.IsTupleIter I l i->s.heap.IsTuple l items->IntsAre (items.toList.drop i) ms->SetL prog w s.heap S ns->ns.length+ms.length+1 < scanBound ->
   (∀ h' tk,SetL prog w h' S (ms.foldl met ns)->(∀ b o,b ≠ S->b ≠ I->s.heap.get? b=some o->h'.get? b=some o)->R (.ok (.ret .none)) { s with heap:=h',toks:=tk }) ->
   codeAny (model prog w) A (.builtin "set.update.loop" ⟨[.ref S,.ref I],[]⟩) R s:=by
 intro k
 induction k with
 | zero =>
  intro i s ns ms q hi f a m p g
  refine codeAny_builtin F.entry_set_update_loop ?_
  rw [Around.under_plainId F.plain_set_update_loop _]
  have e:ms=[]:=by
   rw [List.drop_eq_nil_of_le (by simp;omega)] at a
   cases a
   rfl
  subst e
  refine B0 (wpAny_pyNext_tuple_end (s:=s) y hi f (Array.getElem?_eq_none (by omega)) fun h' d=>?_)
  exact B4 (g h' s.toks (m.keep fun o e=>d _ _ (Ne.symm h) e) fun b o _ c e=>d _ _ c e)
 | succ k ih =>
  intro i s ns ms q hi f a m p g
  have lt:i < items.size:=by omega
  refine codeAny_builtin F.entry_set_update_loop ?_
  rw [Around.under_plainId F.plain_set_update_loop _]
  rw [List.drop_eq_getElem_cons (by simpa using lt)] at a
  generalize D:items.toList[i]=v at a
  have d:items[i]?=some v:=by rw [<- D,Array.getElem?_eq_getElem lt,Array.getElem_toList]
  cases a with
  | @cons n t _ ms' hr =>
   refine B0 (wpAny_pyNext_tuple_item (s:=s) hi f d fun h1 z s1=>?_)
   have u:SetL prog w h1 S ns:=m.keep fun o e=>s1.extBut _ _ (Ne.symm h) e
   have r:h1.IsTuple l items:=f.extBut s1.extBut x
   refine B0 (B5 (B5 (B0 ((intKind prog w).pyHash (k:=n) (intKind_is prog w n t) ?_))))
   refine mZ (s:={ s with heap:=h1,toks:=s.toks+1 }) u (by simp only [CA] at p;omega) fun b h2 s2 E=>?_
   refine B4 ⟨plainId_quiet F.plain_set_update_loop _,?_⟩
   have G:=gg ns n
   refine ih (i+1) { s with heap:=h2,toks:=s.toks+1 } (met ns n) ms' (by omega) (z.extBut s2.extBut h) (r.extBut s2.extBut C) hr E (by simp only [CA] at p;omega) fun h3 j B k3=>?_
   exact g h3 j B fun b o c1 c2 e=>k3 b o c1 c2 (s2.extBut _ _ c1 (s1.extBut _ _ c2 e))
variable {s:Shared}
theorem q9 (h:∀ o,o=({ cls:=.type "set",dict:=none,data:=.set #[] 0 (.fresh 0 0 (cU w)) }:Obj)->Q (.ref s.heap.objs.size) { s with heap:=s.heap.push o }) :
  codeAny (model prog w) A (.call (.builtin "set.__new__") ⟨[.type "set",a],[]⟩) (wants Q E) s:=by
 refine codeAny_of_tree ?_
 refine B0 (wpAny_of_eq (F.newCall_set_1 a) (B4 ⟨plainId_quiet F.plain_set_new _,codeAny_builtin F.entry_set_new ?_⟩))
 rw [Around.under_plainId F.plain_set_new _]
 have sub:=sub_set_self
 obtain ⟨b,g,d,tk,os⟩:=s
 wp_walk
 refine wpAny_askSetting ?_
 wp_walk
 exact h _ rfl
theorem mz (B:A.handled=none) (q:s.heap.IsTuple l items) (hi:IntsAre items.toList ns) (J:items.size+1 < scanBound) (h:∀ h' tk,SetL prog w h' s.heap.objs.size (ns.foldl met [])->(∀ b o,s.heap.get? b=some o->h'.get? b=some o)->Q (.ref s.heap.objs.size) { s with heap:=h',toks:=tk }) :
  wpAny (model prog w) A (call (.type "set") [.ref l]) Q E s:=by
 obtain ⟨c,tl,t⟩:=F.called_set.mro
 have made:=F.called_set.made
 have below:=F.called_set.sub
 have j:=F.called_set.notType
 have y:=F.called_set.canCreate
 have one:=F.typeCall_set_1 (.ref l)
 obtain ⟨i,g,d,tk,os⟩:=s
 refine wpAny_call (codeAny_of_tree (B4 ⟨Code.quiet_builtin _ (by decide +kernel),codeAny_builtin F.entry_type_call ?_⟩))
 rw [Around.under_plain (weight_type_call_type "set" [.ref l] []) rfl]
 repeat (any_goals (first | assumption | wp_step))
 refine codeAny_mono (q9 (E:=E) (Q:=fun v r=>v=.ref i.objs.size/\r=⟨i.push { cls:=.type "set",dict:=none,data:=.set #[] 0 (.fresh 0 0 (cU w)) },g,d,tk,os⟩) fun o e=>by subst e;exact ⟨rfl,rfl⟩) ?_
 rintro (e | f) r m
 ·exact m
 cases f with
 | ret v =>
  obtain ⟨rfl,rfl⟩:=m
  have got:(i.push { cls:=.type "set",dict:=none,data:=.set #[] 0 (.fresh 0 0 (cU w)) }).get? i.objs.size=some { cls:=.type "set",dict:=none,data:=.set #[] 0 (.fresh 0 0 (cU w)) }:=Ch _ rfl
  have ty:(⟨i.push { cls:=.type "set",dict:=none,data:=.set #[] 0 (.fresh 0 0 (cU w)) },g,d,tk,os⟩:Shared).TypeIs (.ref i.objs.size) "set":=⟨_,got,rfl⟩
  have p:(i.push { cls:=.type "set",dict:=none,data:=.set #[] 0 (.fresh 0 0 (cU w)) }).IsTuple l items:=q.push _
  refine B0 (wpAny_isInstance ty sub_set_self (wpAny_ite_false rfl ?_))
  refine B0 (B5 (wpAny_callSpecial?_slot ty F.called_set.init (wpAny_call (codeAny_call_builtin F.called_set.init.plain F.entry_set_init (check_set_init_1 ty ?_)))))
  obtain ⟨⟨c2,G,I,s2⟩,h2,x,H,u⟩:=id p
  simp only at x u
  subst x u
  have C:=F.sub_tuple_set
  have D:=F.sub_tuple_frozenset
  wp_walk using wpAny_pyIter_tuple p
  have lt:l < i.objs.size:=by obtain ⟨_,e,_⟩:=q;exact Cf e
  refine uu (l:=l) (items:=items) (by simpa using B) (by rw [CL];exact Nat.ne_of_gt (Nat.lt_succ_self _)) (Cq lt) (by rw [CL];exact Cq (Nat.lt_succ_of_lt lt)) items.size 0 _ [] ns (by omega) ⟨_,Ch _ rfl,rfl,rfl⟩ (p.push _) (by simpa using hi) ⟨_,#[],0,_,[],B8 _ got,⟨rfl,rfl,rfl⟩,rfl,(fun e he=>by simp at he),.nil,List.Perm.refl _,by decide,rfl,⟨List.Pairwise.nil,rfl⟩⟩ (by have:=hi.length;simp at this;simp;omega) fun h' n S k=>?_
  wp_walk
  exact h h' n S fun b o e=>k b o (fun z=>by subst z;exact absurd (Cf e) (Nat.lt_irrefl _)) (fun z=>by have a:=Cf e;rw [z,CL] at a;exact absurd a (Nat.not_lt.mpr (Nat.le_succ _))) (B8 _ (B8 _ e))
 | _=>exact m.elim
end
end L2
end
section
namespace L2
open PySem PyProof.Rows
theorem xV (f:Nat->Nat):∀ (n k:Nat) (left:List α) (out:Array α),left.length<=n->(pickOrder.go f n k left out).toList.Perm (out.toList ++ left):=by
 intro n
 induction n with
 | zero =>
  intro k left out h
  obtain rfl:left=[]:=CT.mp (by omega)
  simp [pickOrder.go]
 | succ n ih =>
  intro k left out h
  unfold pickOrder.go
  cases e:left[f k % left.length]? with
  | none =>
   have d:left.length<=f k % left.length:=List.getElem?_eq_none_iff.mp e
   have z:left.length=0:=by
    rcases Nat.eq_zero_or_pos left.length with z | z
    ·exact z
    ·have:=Nat.mod_lt (f k) z;omega
   obtain rfl:left=[]:=CT.mp z
   simp
  | some x =>
   have b:f k % left.length < left.length:=(Cj.mp e).1
   dsimp only
   refine (ih _ _ _ (by rw [List.length_eraseIdx];split <;> omega)).trans ?_
   rw [Array.toList_push,List.append_assoc]
   refine List.Perm.append_left _ ?_
   rw [List.eraseIdx_eq_take_drop_succ]
   have c:left=left.take (f k % left.length) ++ x :: left.drop (f k % left.length+1):=by
    rw [<- (Cj.mp e).2,<- List.drop_eq_getElem_cons b,List.take_append_drop]
   have p:=(List.perm_middle (a:=x) (l₁:=left.take (f k % left.length)) (l₂:=left.drop (f k % left.length+1))).symm
   rw [<- c] at p
   exact p
theorem sD (f:Nat->Nat) (xs:Array α):(pickOrder f xs).toList.Perm xs.toList:=by
 have:=xV f xs.size 0 xs.toList #[] (by simp)
 simpa [pickOrder] using this
section
variable {prog:Program} {w:World} {A:Around} {E:Value->Shared->Prop}
theorem lz:∀ (n:Nat) (xs:List α) (s:Shared) {Q:List α->Shared->Prop},xs.length<=n->(∀ ys d',ys.Perm xs->Q ys { s with drawn:=d' })->wpAny (model prog w) A (drawOrder n xs) Q E s
 | 0,xs,s,Q,h,hQ=>by
  obtain rfl:xs=[]:=CT.mp (by omega)
  exact B4 (hQ [] s.drawn (List.Perm.refl _))
 | n+1,[],s,Q,h,hQ=>B4 (hQ [] s.drawn (List.Perm.refl _))
 | n+1,x :: xs,s,Q,h,hQ=>by
  unfold drawOrder
  refine B0 (fun Γ p hΓ=>?_)
  show Sem.wp _ _ (Sem.choose _ _ Sem.pure) _ _ _ _
  rw [Sem.wp_choose]
  refine ⟨by simp,?_⟩
  generalize hi:(model prog w).w.draws .order (s.drawn.get .order) % (x :: xs).length=i
  have lt:i < (x :: xs).length:=by rw [<- hi];exact Nat.mod_lt _ (by simp)
  refine (show wpAny (model prog w) A (pure i) _ E { s with drawn:=s.drawn.bump .order } from B4 ?_) Γ p hΓ
  obtain ⟨y,a⟩:∃ y,(x :: xs)[i]?=some y:=⟨_,Ce lt⟩
  rw [a]
  dsimp only
  refine B0 (lz n ((x :: xs).eraseIdx i) _ (by rw [List.length_eraseIdx,if_pos lt];simp at h ⊢;omega) fun ys d' b=>?_)
  refine B4 (hQ (y :: ys) d' ?_)
  refine (b.cons y).trans ?_
  rw [List.eraseIdx_eq_take_drop_succ]
  have c:x :: xs=(x :: xs).take i ++ y :: (x :: xs).drop (i+1):=by
   rw [<- (Cj.mp a).2,<- List.drop_eq_getElem_cons lt,List.take_append_drop]
  exact (List.perm_middle.symm).trans (by rw [<- c])
end
theorem slot_next:Slot "set_iterator" "__next__" "set_iterator.__next__" :=
 .of (owner:="set_iterator") (n:="__next__") (by rw [typeLookup_type,builtinLookup_eq_fast];kernel_rfl) (by decide +kernel) (by decide +kernel) (by decide +kernel) (by first | exact .inl (by decide +kernel) | exact .inr (by decide +kernel)) (by rw [isSubtype_type];kernel_rfl)
theorem kn:entryFor table "set_iterator.__next__"=some Builtin.«set_iterator.__next__»:=entryFor_of_tree (by kernel_rfl)
theorem vm:Manifest.owners.lookup (String.ofList (['r','o','t','a','r','e','t','i','_','t','e','s']:List Char).reverse)=some Manifest.sig_set_iterator:=by kernel_rfl
theorem lG (a:Value):argsOk "set_iterator.__next__" ⟨[a],[]⟩:=by
 unfold argsOk
 rw [signature?_of (id:="set_iterator.__next__") (n:=['_','_','t','x','e','n','_','_']) (o:=['r','o','t','a','r','e','t','i','_','t','e','s']) (by kernel_rfl) vm]
 kernel_rfl
theorem qj:entryFor table "set.__iter__"=some Builtin.«frozenset.__iter__»:=entryFor_alias (id':="frozenset.__iter__") (by kernel_rfl) rfl (by decide +kernel) (by kernel_rfl)
def SIt (w : World) (h : Heap) (I a : Addr) (es : Array (Int × Value)) (b : Nat) (t : SetTable) (ord : List Value) (i : Nat) : Prop :=
  ∃ first, h.get? I = some { cls := .type "set_iterator", dict := none, data := .fields #[first, rawInt i, .ref a, rawInt es.size, rawInt b], slots := #[] } /\
    ((w.params.followText "set-order" = true /\ first = rawInt 0 /\ ord = (pickOrder (w.params.setOrder a b) es).toList.map (·.2)) \/
     (w.params.followText "set-order" = false /\ (!t.plain && es.size > 1) = false /\ (∃ k : Nat, first = rawInt k /\ SetTable.below t.place k = i) /\ ord = es.toList.map (·.2)) \/
     (∃ (T : Addr) (ps : List Nat), first = .ref T /\ T ≠ I /\ h.get? T = some { cls := .type "tuple", data := .seq (ps.map fun (p : Nat) => rawInt p).toArray } /\ ps.Perm (List.range es.size) /\ ord = ps.filterMap fun p => es[p]?.map (·.2)))
structure SAt (w:World) (h:Heap) (a:Addr) (es:Array (Int × Value)) (ep:Nat) (t:SetTable):Prop where
 at':∃ o,h.get? a=some o/\o.data=.set es ep t
 fits:t.fits es.size=true
 tab:Tab (cU w) t
section
variable {prog:Program} {w:World} {A:Around} {E:Value->Shared->Prop} {s:Shared}
theorem ut {c:Nat} {i:Nat} (M:SIt w s.heap I a es c t ord i) (J:SAt w s.heap a es c t) (d:ord[i]?=some v) (u:∀ h',SIt w h' I a es c t ord (i+1)->Heap.SameBut I s.heap h'->Q (some v) { s with heap:=h' }):wpAny (model prog w) A (pyNext (.ref I)) Q E s:=by
 obtain ⟨⟨o,f,hd⟩,hf,C⟩:=J
 obtain ⟨first,g1,m⟩:=M
 obtain ⟨z,g,O,tk,os⟩:=s
 have ty:(⟨z,g,O,tk,os⟩:Shared).TypeIs (.ref I) "set_iterator":=⟨_,g1,rfl⟩
 have led:=C.led
 unfold pyNext
 refine B0 (wpAny_attempt (wpAny_callSpecial?_slot ty slot_next (wpAny_call_entry slot_next ty kn ?_ (lG _))))
 rcases m with ⟨l,rfl,b⟩ | ⟨l,nd,⟨k,rfl,bk⟩,b⟩ | ⟨T,ps,rfl,D,gT,pp,b⟩
 ·have N:(model prog w).w.params.followText "set-order"=true:=l
  have j:(pickOrder (w.params.setOrder a c) es)[i]?.map (·.2)=some v:=by rw [<- d,b];simp
  obtain ⟨x,K,ex⟩:=B9.mp j
  have at2:Option.map (fun e:Int × Value=>(e.2,Int.toNat 0)) (pickOrder (({ program:=(model prog w).prog,params:=(model prog w).w.params }:Setting).params.setOrder a c) es)[(i:Int).toNat]?=some (v,0):=by
   refine (show Option.map _ (pickOrder (w.params.setOrder a c) es)[(i:Int).toNat]?=_ from ?_)
   rw [Int.toNat_natCast,K,<- ex];rfl
  wp_walk using wpAny_setState_of f hd hf,wpAny_askSetting
  rw [at2]
  wp_walk
  exact ⟨_,rfl,B4 (u _ ⟨rawInt 0,Cy _ (Cy _ g1 rfl) rfl,.inl ⟨l,rfl,b⟩⟩ ((Heap.SameBut.update ..).trans (Heap.SameBut.update ..)))⟩
 ·have N:(model prog w).w.params.followText "set-order"=false:=l
  have B:t.led=true:=by rw [led];simp [cU,l]
  have lt:i < es.size:=by
   have:=(Cj.mp d).1
   rw [b] at this
   simpa using this
  have P:t.place.size=es.size:=by
   unfold SetTable.fits at hf
   rw [Bool.and_eq_true] at hf
   exact eq_of_beq hf.1
  have ev:es[i].2=v:=by
   rw [b,Cn,Array.getElem?_toList,Array.getElem?_eq_getElem lt] at d
   simpa using d
  have h:SetTable.below t.place (k:Int).toNat=i:=bk
  wp_walk using wpAny_setState_of f hd hf,wpAny_askSetting
  refine wpAny_ite_false (show decide ((!t.plain && decide (es.size > 1))=true)=false by rw [nd];rfl) ?_
  wp_walk
  rw [h,Array.getElem?_eq_getElem lt,Array.getElem?_eq_getElem (show i < t.place.size by omega)]
  wp_walk
  subst ev
  exact ⟨_,rfl,B4 (u _ ⟨rawInt (t.place[i]+1:Nat),Cy _ (Cy _ g1 rfl) rfl,.inr (.inl ⟨l,nd,⟨_,rfl,qF C.up (by omega)⟩,b⟩)⟩ ((Heap.SameBut.update ..).trans (Heap.SameBut.update ..)))⟩
 ·obtain ⟨p,x,y,r,ev⟩:∃ p x,ps[i]?=some p/\es[p]?=some x/\x.2=v:=by
   have all:∀ (l:List Nat),(∀ p ∈ l,p < es.size)->∀ i:Nat,(l.filterMap fun p=>es[p]?.map fun x:Int × Value=>x.2)[i]?=l[i]?.bind fun p=>es[p]?.map fun x:Int × Value=>x.2:=by
    intro l
    induction l with
    | nil=>intro _ i;simp
    | cons p l ih =>
     intro n i
     rw [List.filterMap_cons,Array.getElem?_eq_getElem (n p B6)]
     cases i with
     | zero=>simp [Array.getElem?_eq_getElem (n p B6)]
     | succ i=>simpa using ih (fun q L=>n q (B7 _ L)) i
   rw [b,all ps (fun p z=>List.mem_range.mp (pp.mem_iff.mp z))] at d
   obtain ⟨p,e1,F⟩:=CF.mp d
   obtain ⟨x,H,G⟩:=B9.mp F
   exact ⟨p,x,e1,H,G⟩
  wp_walk using wpAny_setState_of f hd hf,wpAny_askSetting
  rw [show (List.map (fun p:Nat=>rawInt p) ps).toArray[(i:Int).toNat]?=some (rawInt p) by simp [y]]
  wp_walk using wpAny_setState_of f hd hf,wpAny_askSetting
  rw [show es[(p:Int).toNat]?=some x from r]
  wp_walk
  subst ev
  exact ⟨_,rfl,B4 (u _ ⟨.ref T,Cy _ g1 rfl,.inr (.inr ⟨T,ps,rfl,D,(Heap.SameBut.update ..).extBut _ _ D gT,pp,b⟩)⟩ (Heap.SameBut.update ..))⟩
theorem xm {h:Nat} {i:Nat} (C:A.handled=none) (D:SIt w s.heap I a es h t ord i) (J:SAt w s.heap a es h t) (d:ord.length<=i) (r:∀ h',Heap.ExtBut I s.heap h'->Q none { s with heap:=h' }):wpAny (model prog w) A (pyNext (.ref I)) Q E s:=by
 obtain ⟨⟨o,n,hd⟩,hf,F⟩:=J
 obtain ⟨first,g1,m⟩:=D
 obtain ⟨u,g,H,tk,os⟩:=s
 have ty:(⟨u,g,H,tk,os⟩:Shared).TypeIs (.ref I) "set_iterator":=⟨_,g1,rfl⟩
 have led:=F.led
 have c:A.in1.handled=none:=C
 unfold pyNext
 refine B0 (wpAny_attempt (wpAny_callSpecial?_slot ty slot_next (wpAny_call_entry slot_next ty kn ?_ (lG _))))
 rcases m with ⟨l,rfl,f⟩ | ⟨l,nd,⟨k,rfl,bk⟩,f⟩ | ⟨T,ps,rfl,K,gT,pp,f⟩
 ·have G:(model prog w).w.params.followText "set-order"=true:=l
  have at2:Option.map (fun e:Int × Value=>(e.2,Int.toNat 0)) (pickOrder (({ program:=(model prog w).prog,params:=(model prog w).w.params }:Setting).params.setOrder a h) es)[(i:Int).toNat]?=none:=by
   refine (show Option.map _ (pickOrder (w.params.setOrder a h) es)[(i:Int).toNat]?=_ from ?_)
   rw [Int.toNat_natCast,Array.getElem?_eq_none (by rw [f] at d;simpa using d)];rfl
  wp_walk using wpAny_setState_of n hd hf,wpAny_askSetting
  rw [at2]
  wp_walk
  refine wpAny_raiseNew_none c ?_
  refine B0 (wpAny_isInstance (v:=.ref _) (T:="StopIteration") (b:=true) ?_ isSubtype_stop ?_)
  ·exact ⟨_,Ch _ rfl,rfl⟩
  ·exact B4 (r _ (((Heap.SameBut.update ..).extBut.push _).push _))
 ·have G:(model prog w).w.params.followText "set-order"=false:=l
  have y:t.led=true:=by rw [led];simp [cU,l]
  have ge:es.size<=i:=by rw [f] at d;simpa using d
  have j:SetTable.below t.place (k:Int).toNat=i:=bk
  wp_walk using wpAny_setState_of n hd hf,wpAny_askSetting
  refine wpAny_ite_false (show decide ((!t.plain && decide (es.size > 1))=true)=false by rw [nd];rfl) ?_
  wp_walk
  rw [j,Array.getElem?_eq_none ge]
  wp_walk
  refine wpAny_raiseNew_none c ?_
  refine B0 (wpAny_isInstance (v:=.ref _) (T:="StopIteration") (b:=true) ?_ isSubtype_stop ?_)
  ·exact ⟨_,Ch _ rfl,rfl⟩
  ·exact B4 (r _ (((Heap.SameBut.update ..).extBut.push _).push _))
 ·have len:∀ (l:List Nat),(∀ p ∈ l,p < es.size)->(l.filterMap fun p=>es[p]?.map fun x:Int × Value=>x.2).length=l.length:=by
   intro l
   induction l with
   | nil=>intro _;rfl
   | cons p l ih =>
    intro z
    rw [List.filterMap_cons,Array.getElem?_eq_getElem (z p B6)]
    simpa using ih fun q B=>z q (B7 _ B)
  rw [f,len ps fun p u=>List.mem_range.mp (pp.mem_iff.mp u)] at d
  wp_walk using wpAny_setState_of n hd hf,wpAny_askSetting
  rw [show (List.map (fun p:Nat=>rawInt p) ps).toArray[(i:Int).toNat]?=none by simpa using d]
  wp_walk
  refine wpAny_raiseNew_none c ?_
  refine B0 (wpAny_isInstance (v:=.ref _) (T:="StopIteration") (b:=true) ?_ isSubtype_stop ?_)
  ·exact ⟨_,Ch _ rfl,rfl⟩
  ·exact B4 (r _ ((((Heap.SameBut.update ..).trans (Heap.SameBut.update ..)).extBut.push _).push _))
end
end L2
end
section
namespace L2
open PySem PyProof.Rows
section
variable {prog:Program} {w:World} {A:Around} {E:Value->Shared->Prop} {s:Shared}
theorem ux {h:Nat} (n:SAt w s.heap a es h t) (d:s.TypeIs (.ref a) "set") (hz:es.size<=sizeLine) (f:∀ h' I d' ord,s.heap.objs.size<=I->ord.Perm (es.toList.map (·.2))->SIt w h' I a es h t ord 0->(∀ b o,s.heap.get? b=some o->h'.get? b=some o)->Q (.ref I) { s with heap:=h',drawn:=d' }) :
  wpAny (model prog w) A (pyIter (.ref a)) Q E s:=by
 obtain ⟨⟨o,c,hd⟩,hf,k⟩:=n
 obtain ⟨i,g,j,tk,os⟩:=s
 refine wpAny_pyIter_slot d F.slot_set_iter (wpAny_call_entry F.slot_set_iter d qj ?_ (F.args_set_iter_1 _))
 cases l:w.params.followText "set-order" with
 | true =>
  have m:(model prog w).w.params.followText "set-order"=true:=l
  wp_walk using wpAny_setState_of c hd hf,wpAny_askSetting
  exact ⟨_,rfl,"set_iterator",_,⟨_,Ch _ rfl,rfl⟩,slot_next.lookup,f _ i.objs.size j _ (Co _) ((sD (w.params.setOrder a h) es).map _) ⟨rawInt 0,Ch _ rfl,.inl ⟨l,rfl,rfl⟩⟩ fun b o e=>B8 _ e⟩
 | false =>
  have m:(model prog w).w.params.followText "set-order"=false:=l
  cases nd:(!t.plain && decide (es.size > 1)) with
  | false =>
   wp_walk using wpAny_setState_of c hd hf,wpAny_askSetting
   refine wpAny_ite_false (show decide ((!w.params.followText "set-order" && (!t.plain && decide (es.size > 1)))=true)=false by rw [l,nd];rfl) ?_
   wp_walk using wpAny_setState_of c hd hf,wpAny_askSetting
   exact ⟨_,rfl,"set_iterator",_,⟨_,Ch _ rfl,rfl⟩,slot_next.lookup,f _ i.objs.size j _ (Co _) (List.Perm.refl _) ⟨rawInt 0,Ch _ rfl,.inr (.inl ⟨l,nd,⟨0,rfl,qE k.up⟩,rfl⟩)⟩ fun b o e=>B8 _ e⟩
  | true =>
   wp_walk using wpAny_setState_of c hd hf,wpAny_askSetting
   refine wpAny_ite_true (show decide ((!w.params.followText "set-order" && (!t.plain && decide (es.size > 1)))=true)=true by rw [l,nd];rfl) ?_
   refine B0 (lz _ _ _ (by simp) fun ys d' pp=>?_)
   have q:ys.length=es.size:=by have:=pp.length_eq;simpa using this
   refine B0 (wpAny_newTuple ?_ (by simp;omega))
   refine B0 (B0 (wpAny_setState_of (B8 _ c) hd hf (B4 ?_)))
   wp_walk
   have pm:(ys.filterMap fun p=>es[p]?.map fun x:Int × Value=>x.2).Perm (es.toList.map (·.2)):=by
    refine (pp.filterMap _).trans ?_
    rw [<- filterMap_getElem?_range es,List.map_filterMap]
   refine ⟨_,rfl,"set_iterator",_,⟨_,Ch _ rfl,rfl⟩,slot_next.lookup,f _ _ d' _ ?_ pm ⟨.ref i.objs.size,Ch _ rfl,.inr (.inr ⟨_,ys,rfl,?_,B8 _ (Ch _ rfl),pp,rfl⟩)⟩ fun b o e=>B8 _ (B8 _ e)⟩
   ·rw [CL];exact Nat.le_succ _
   ·rw [CL];exact Cq (Nat.lt_succ_self _)
theorem SAt.keep {b:Nat} (x:SAt w h a es b t) (k:∀ o,h.get? a=some o->h'.get? a=some o):SAt w h' a es b t :=
 let ⟨⟨o,e,d⟩,f,t⟩:=x;⟨⟨o,k o e,d⟩,f,t⟩
theorem SIt.keep {c:Nat} {i:Nat} (x:SIt w h I a es c t ord i) (e:I ≠ S) (j:∀ T ps,h.get? T=some { cls:=.type "tuple",data:=.seq ps }->T ≠ S) (k:∀ b o,b ≠ S->h.get? b=some o->h'.get? b=some o):SIt w h' I a es c t ord i:=by
 obtain ⟨f,g,m⟩:=x
 refine ⟨f,k _ _ e g,?_⟩
 rcases m with m | m | ⟨T,ps,e1,l,d,n⟩
 ·exact .inl m
 ·exact .inr (.inl m)
 ·exact .inr (.inr ⟨T,ps,e1,l,k _ _ (j _ _ d) d,n⟩)
theorem yK (C:A.handled=none) (B:a ≠ I) (j:S ≠ I) (y:S ≠ a) {q:Nat} (hz:ord.length<=sizeLine) (res:Value) :
  ∀ (k i:Nat) (s:Shared) (c:Nat),ord.length - i=k->i<=ord.length->SIt w s.heap I a es q t ord i->SAt w s.heap a es q t ->
  s.heap.get? S=some { cls:=.type "list",dict:=none,data:=.seq (ord.take i).toArray c,slots:=#[] } ->
  (∀ h' u tk,h'.get? S=some { cls:=.type "list",dict:=none,data:=.seq ord.toArray u,slots:=#[] }->(∀ b o,b ≠ I->b ≠ S->s.heap.get? b=some o->h'.get? b=some o)->R (.ok (.ret res)) { s with heap:=h',toks:=tk }) ->
  codeAny (model prog w) A (.builtin "list.extend.loop" ⟨[.ref S,.ref I,res],[]⟩) R s:=by
 intro k
 induction k with
 | zero =>
  intro i s c x hi hit hm d fin
  obtain rfl:i=ord.length:=by omega
  refine codeAny_builtin F.entry_extend_loop ?_
  rw [Around.under_plainId F.plain_extend_loop _]
  refine B0 (xm (s:=s) (show A.in1.handled=none from C) hit hm (Co _) fun h' m=>?_)
  rw [List.take_length] at d
  exact B4 (fin h' c s.toks (m S _ j d) fun b o f _ e=>m b o f e)
 | succ k ih =>
  intro i s c x hi hit hm d fin
  have lt:i < ord.length:=by omega
  refine codeAny_builtin F.entry_extend_loop ?_
  rw [Around.under_plainId F.plain_extend_loop _]
  refine B0 (ut (s:=s) (v:=ord[i]) hit hm (Ce lt) fun h1 h s1=>?_)
  have g:=s1.extBut _ _ j d
  refine B0 (wpAny_updateSeq g rfl (B4 ⟨plainId_quiet F.plain_extend_loop _,?_⟩) (by simp;omega) (by simp;omega))
  obtain ⟨c2,r⟩:∃ c2,(h1.update S (Obj.mapSeq (·.push ord[i]))).get? S=some (seqObj "list" ((ord.take i).toArray.push ord[i]) c2):=⟨_,get?_update_seq g (·.push ord[i])⟩
  have up:∀ b o,b ≠ S->h1.get? b=some o->(h1.update S (Obj.mapSeq (·.push ord[i]))).get? b=some o:=fun b o n e=>(Heap.SameBut.update ..).extBut _ _ n e
  have tk:(ord.take i).toArray.push ord[i]=(ord.take (i+1)).toArray:=by
   rw [List.take_add_one,Ce lt]
   simp
  rw [tk] at r
  refine ih (i+1) { s with heap:=h1.update S (Obj.mapSeq (·.push ord[i])) } c2 (by omega) lt (h.keep (S:=S) (Ne.symm j) (fun T ps e z=>by subst z;rw [g] at e;simp at e) up) ((hm.keep fun o e=>s1.extBut _ _ B e).keep fun o e=>up _ _ (Ne.symm y) e) r fun h3 D l g3 k3=>?_
  exact fin h3 D l g3 fun b o f p e=>k3 b o f p (up _ _ p (s1.extBut _ _ f e))
theorem vW (ty:s.TypeIs (.ref d) "set") (h:Q false s):wpAny (model prog w) A (Builtin.List.listLengthHint (.ref d)) Q E s:=by
 unfold Builtin.List.listLengthHint
 refine B0 (wpAny_specialOf ty F.slot_set_len.lookup ?_)
 have cut:splitId "set.__len__"=some ("set","__len__"):=by kernel_rfl
 dsimp only
 simp only [cut]
 refine B0 (wpAny_isInstance ty (b:=true) sub_set_self (wpAny_ite_false rfl ?_))
 rw [if_pos (by kernel_rfl)]
 exact B0 (wpAny_typeOf ty (B4 h))
theorem oF {v:Nat} (P:A.handled=none) (K:SAt w s.heap a es v t) (ty:s.TypeIs (.ref a) "set") (hz:es.size<=sizeLine) (h:∀ h' d' tk ord,ord.Perm (es.toList.map (·.2))->s.heap.objs.size<=h'.objs.size->(∀ b o,s.heap.get? b=some o->h'.get? b=some o)->Q ord { s with heap:=h',drawn:=d',toks:=tk }):wpAny (model prog w) A (collect (.ref a)) Q E s:=by
 have lt:a < s.heap.objs.size:=by obtain ⟨⟨o,e,_⟩,_⟩:=K;exact Cf e
 obtain ⟨d,g,B,tk,os⟩:=s
 unfold collect
 refine B0 (wpAny_runValue (codeAny_builtin F.entry_proto_collect ?_))
 rw [Around.under_plainId F.plain_proto_collect _]
 refine B0 (wpAny_newObj_type (B4 ⟨plainId_quiet F.plain_list_iadd _,codeAny_builtin F.entry_list_iadd ?_⟩))
 rw [Around.under_plainId F.plain_list_iadd _]
 have M:(d.push { cls:=.type "list",data:=.seq ([]:List Value).toArray }).get? d.objs.size=some { cls:=.type "list",data:=.seq ([]:List Value).toArray }:=Ch _ rfl
 have a1:SAt w (d.push { cls:=.type "list",data:=.seq ([]:List Value).toArray }) a es v t:=K.keep fun o e=>B8 _ e
 have f:(⟨d.push { cls:=.type "list",data:=.seq ([]:List Value).toArray },g,B,tk,os⟩:Shared).TypeIs (.ref a) "set":=let ⟨o,e,c⟩:=ty;⟨o,B8 _ e,c⟩
 have R:(d.push { cls:=.type "list",data:=.seq ([]:List Value).toArray }).objs.size=d.objs.size+1:=CL ..
 have V:∀ b o,d.get? b=some o->(d.push { cls:=.type "list",data:=.seq ([]:List Value).toArray }).get? b=some o:=fun b o e=>B8 _ e
 refine (show wpAny _ A.in1 (Builtin.List.listExtendWith (.ref d.objs.size) (.ref a) (.ref d.objs.size)) _ _ ⟨d.push { cls:=.type "list",data:=.seq ([]:List Value).toArray },g,B,tk,os⟩ from ?_)
 generalize d.push { cls:=.type "list",data:=.seq ([]:List Value).toArray }=H1 at *
 unfold Builtin.List.listExtendWith
 refine B0 (wpAny_typeOf f ?_)
 rw [if_neg (by
  have e1:Builtin.List.listSameRef (.ref d.objs.size) (.ref a)=false:=beq_false_of_ne (Nat.ne_of_gt lt)
  have X:(Value.type "set" == Value.type "list")=false:=by decide
  have Y:(Value.type "set" == Value.type "tuple")=false:=by decide
  rw [e1,X,Y]
  decide)]
 refine B0 (ux (s:=⟨H1,g,B,tk,os⟩) a1 f hz fun h2 I k ord j pm r l=>?_)
 have p:(⟨h2,g,k,tk,os⟩:Shared).TypeIs (.ref a) "set":=let ⟨o,e,c⟩:=f;⟨o,l _ _ e,c⟩
 refine B0 (B5 (vW p ?_))
 have j:H1.objs.size<=I:=j
 rw [R] at j
 have C:d.objs.size ≠ I:=Cq j
 have U:a ≠ I:=Cq (Nat.lt_trans lt j)
 have ol:ord.length=es.size:=by have:=pm.length_eq;simpa using this
 have x:h2.get? d.objs.size=some (seqObj "list" #[] 0):=l _ _ M
 have a2:SAt w h2 a es v t:=a1.keep fun o e=>l _ _ e
 refine wpAny_ite_true (by kernel_rfl) ?_
 refine B0 (wpAny_rule ?_)
 refine B0 (B0 (listUpdate_at (s:=⟨h2,g,k,tk,os⟩) x rfl ?_))
 obtain ⟨H,G⟩:∃ H,(h2.update d.objs.size (Obj.mapSeq (·.push Value.none))).get? d.objs.size=some (seqObj "list" (#[].push Value.none) H):=⟨_,get?_update_seq x (·.push Value.none)⟩
 refine listUpdate_at (s:=⟨h2.update d.objs.size (Obj.mapSeq (·.push Value.none)),g,k,tk,os⟩) G rfl ?_
 obtain ⟨q,J⟩:∃ q,((h2.update d.objs.size (Obj.mapSeq (·.push Value.none))).update d.objs.size (Obj.mapSeq (·.pop))).get? d.objs.size=some (seqObj "list" (#[].push Value.none).pop q):=⟨_,get?_update_seq G (·.pop)⟩
 have i:∀ b o,b ≠ d.objs.size->h2.get? b=some o->((h2.update d.objs.size (Obj.mapSeq (·.push Value.none))).update d.objs.size (Obj.mapSeq (·.pop))).get? b=some o:=fun b o n e=>(Heap.SameBut.update ..).extBut _ _ n ((Heap.SameBut.update ..).extBut _ _ n e)
 have y:=r.keep (S:=d.objs.size) (Ne.symm C) (fun T ps e z=>by subst z;rw [x] at e;simp [seqObj] at e) i
 have N:=a2.keep fun o e=>i _ _ (Cq lt) e
 have O:d.objs.size < ((h2.update d.objs.size (Obj.mapSeq (·.push Value.none))).update d.objs.size (Obj.mapSeq (·.pop))).objs.size:=Cf J
 generalize ((h2.update d.objs.size (Obj.mapSeq (·.push Value.none))).update d.objs.size (Obj.mapSeq (·.pop)))=H4 at *
 refine B4 ⟨plainId_quiet F.plain_extend_loop _,yK (ord:=ord) P U C (Nat.ne_of_gt lt) (by omega) _ ord.length 0 ⟨H4,g,k,tk,os⟩ q (by omega) (Nat.zero_le _) y N (by simpa [seqObj] using J) fun W Z m D L=>?_⟩
 refine B0 (wpAny_load D ?_)
 refine B4 ?_
 have e:ord.toArray.toList=ord:=by simp
 refine e.symm ▸ h W k m ord pm ?_ fun b o e=>?_
 ·exact Nat.le_of_lt (Cf D)
 ·have u:=Cf e
  exact L b o (Cq (Nat.lt_trans u j)) (Cq u) (i _ _ (Cq u) (l _ _ (V _ _ e)))
end
end L2
end
section
namespace L2
open PySem PySem.Spec PyProof.Rows
section
variable {X:Cx}
abbrev pq (X:Cx) (p:Addr) (ns:List Int):HO:=.ext fun h=>SetL X.prog X.w h p ns
theorem Inv.drew (I:Inv X pins σ H s):Inv X pins σ H { s with drawn:=d } :=
 ⟨I.ok,I.os,I.bare,I.base,I.loc,I.cell,I.free,I.freeC,I.pin,I.hok,I.len⟩
def rSet (X:Cx):List V->Hp->VK->Prop:=fun xs H Q=>∃ (l:Addr) (ns:List Int),xs=[.ref l]/\SqT X.K H l (ns.map V.int)/\ns.length < 64/\∀ p,H p=none->Q (.ref p) (upd H p (pq X p (ns.foldl met [])))
theorem tF (c:X.calm=true):bZ X (.type "set") (rSet X):=by
 intro pins s σ H xs us Q I d h
 obtain ⟨l,ns,rfl,g,f,q⟩:=h
 obtain ⟨u,rfl,b⟩:=dj d
 cases (show u=Value.ref l from b)
 obtain ⟨its,r,p,hz⟩:=I.tuple g
 have hlen:=r.length
 refine mz (I.ok.hd c) (show s.heap.IsTuple l its.toArray from p) (by simpa using ke r) (by simp at hlen ⊢;unfold scanBound;omega) fun h' tk S k=>?_
 exact ⟨.ref s.heap.objs.size,_,I.laid (a:=s.heap.objs.size) (o:=pq X s.heap.objs.size (ns.foldl met [])) (t':=tk) k (Co _) ⟨S,(let ⟨o,_,_,_,_,e,_⟩:=S;⟨o,e⟩),fun h1 h2 x k=>x.keep k⟩,rfl,q _ (I.hok.fresh (Co _))⟩
def pH (X:Cx):List V->Hp->VK->Prop:=fun xs H Q=>∃ (p:Addr) (ns:List Int),xs=[.ref p]/\H p=some (pq X p ns)/\ns.length < 64/\∀ q,H q=none->∀ a:List Int,a.Perm ns->a.Pairwise (·<=·)->Q (.ref q) (upd H q (.lst (a.map V.int)))
theorem ku (E:X.calm=true):bZ X (.builtin "sorted") (pH X):=by
 intro pins s σ H xs us Q I F h
 obtain ⟨p,ns,rfl,J,i,q⟩:=h
 obtain ⟨u,rfl,y⟩:=dj F
 cases (show u=Value.ref p from y)
 obtain ⟨S,_,_⟩:=I.hok p _ J
 have ty:=S.typeIs (s:=s)
 obtain ⟨o,es,L,t,ms,x,hex,hd,B,hi,pm,K,hf,D⟩:=S
 have C:=I.ok.hd E
 have sz:es.size<=sizeLine:=fits_of_scanBound K
 refine Calls.call_function_entry kind_sorted plain_sorted entry_sorted (args_sorted1 _) (B0 (B4 (B0 (oF (show X.A.in1.handled=none from C) ⟨⟨o,x,hd⟩,hf,D⟩ ty sz fun h1 d1 l ord po k G=>?_))))
 obtain ⟨j,g⟩:∃ j,IntsAre ord j:=by
  have:∀ v ∈ ord,∃ n t,v=Value.int n t:=fun v r=>by
   have:=po.mem_iff.mp r
   exact hi.all v this
  clear po
  induction ord with
  | nil=>exact ⟨[],.nil⟩
  | cons v ord ih =>
   obtain ⟨n,t,rfl⟩:=this v B6
   obtain ⟨j,h⟩:=ih fun v r=>this v (B7 _ r)
   exact ⟨n :: j,.cons n t h⟩
 have m:j.Perm ns:=(i8 po g hi).trans pm
 have ol:ord.length < 64:=by rw [g.length,m.length_eq];exact i
 refine B0 (wpAny_newList ?_)
 have got:(h1.push (seqObj "list" ord.toArray 0)).get? h1.objs.size=some (seqObj "list" ord.toArray 0):=Ch _ rfl
 refine B0 (B5 (wpAny_call_entry slot_list_sort ⟨_,got,rfl⟩ entry_list_sort (list_sort_tree got g ol fun out f a b c=>⟨_,rfl,B4 ⟨_,rfl,?_⟩⟩) (args_list_sort _)))
 obtain ⟨e,he⟩:=sortedHeap_at (out:=out) got
 have nl:f.length < 64:=by rw [b.length_eq,m.length_eq];exact i
 have keep:∀ (b:Addr) (u:Obj),s.heap.get? b=some u->(sortedHeap (h1.push (seqObj "list" ord.toArray 0)) h1.objs.size ord out).get? b=some u:=fun b u z=>by
  have w:=Cf z
  rw [sortedHeap_old (Cq (Cv w k)) (by rw [CL];exact Nat.lt_succ_of_lt (Cv w k))]
  exact B8 _ (G _ _ z)
 refine ⟨.ref h1.objs.size,_,(I.drew (d:=d1)).laid (a:=h1.objs.size) (o:=.lst (f.map V.int)) (t':=l) keep k ⟨?_,out.toList,e,gw a,by rw [he]⟩,rfl,q _ (I.hok.fresh k) f (b.trans m) c⟩
 rw [Ci]
 have:64<=sizeLine:=by decide
 omega
end
end L2
end
section
namespace L2
open PySem PySem.Spec PyProof.Rows
section
variable {X:Cx}
theorem nD (h:wpAny (model prog w) A (eval k env) (fun x s1=>wpAny (model prog w) A (eval v env) (fun y s2=>wpAny (model prog w) A (dictSet s.heap.objs.size x y) (fun _ s3=>Q (.ref s.heap.objs.size) s3) E s2) E s1) E { s with heap:=s.heap.push { cls:=.type "dict",data:=.dict #[] } }) :
  wpAny (model prog w) A (eval (.Dict [some k] [v] pos) env) Q E s:=by
 rw [arm_eval_Dict]
 refine B0 (wpAny_standAt ?_)
 have e:=dictDisplay_pairs [(eval k env,(do let x <- eval v env;standAt pos;pure x:Sem Value))] (by simp) (by simp)
 refine (show wpAny (model prog w) A (dictDisplay ([(eval k env,(do let x <- eval v env;standAt pos;pure x:Sem Value))].map fun p=>(some p.1,p.2))) Q E s from ?_)
 rw [e]
 refine B0 ?_
 unfold subDict
 refine B0 (wpAny_alloc (B0 (B5 ?_)))
 rw [if_pos (by simp)]
 refine B0 ?_
 unfold evalPairs
 refine B0 (wpAny_mono h (fun x s1 h1=>?_) fun _ _ z=>z)
 refine B0 (B5 (B0 (wpAny_mono h1 (fun y s2 h2=>?_) fun _ _ z=>z)))
 refine B0 (wpAny_standAt (B4 ?_))
 refine B0 (B5 (B4 (B4 (B5 ?_))))
 simp only [List.forIn_cons,List.forIn_nil]
 refine B0 (B0 (B0 (wpAny_mono h2 (fun _ s3 h3=>?_) fun _ _ z=>z)))
 exact B4 (B4 (B4 (B4 (B4 h3))))
def tD1K (k:Key) (v:V):TE:=fun _ H Q=>∀ p,H p=none->Q (.ref p) (upd (upd H p (.dK [])) p (.dK [(k,v)]))
theorem AR (h:PE X k (tC (kV key))) (t:PE X v (tC d)):PE X (.Dict [some k] [v] pos) (tD1K key d):=by
 intro pins s σ H Q I q
 have n:=I.hok.fresh (Co s.heap.objs.size)
 have r:=I.laid (a:=s.heap.objs.size) (o:=.dK []) (h':=s.heap.push { cls:=.type "dict",data:=.dict #[] }) (t':=s.toks) (fun _ _ q=>B8 _ q) (Co _) (wq s.heap I.big)
 refine nD (thn (h pins _ σ _ (fun x H2=>x=kV key/\H2=upd H s.heap.objs.size (.dK [])) r ⟨rfl,rfl⟩) fun x s1 ⟨B,H1,m,p,e1,f⟩=>thn (t pins s1 σ H1 (fun y H2=>y=d/\H2=upd H s.heap.objs.size (.dK [])) m ⟨rfl,f⟩) fun y s2 ⟨c,H2,e,l,w,u⟩=>?_)
 subst e1 f w u
 obtain ⟨z,hd,A,rel,j⟩:=ql e.hok (.inl aC)
 cases rel
 refine fR (hsz:=Nat.zero_le _) (rm p) j fun h' b i=>?_
 have he:∃ q,h'.get? s.heap.objs.size=some q:=let ⟨q,_,_,g,_⟩:=b;⟨q,g⟩
 have hz:[(key,c)].length<=sizeLine:=(by decide:1<=sizeLine)
 exact ⟨.ref s.heap.objs.size,_,jS e (by rw [aC];exact True.intro) i he (wo (kvs:=[(key,c)]) hz hd (KV.put (kvs:=[]) .nil key l) b),rfl,q _ n⟩
def tD1T (ns:List Int) (v:V):TE:=fun _ H Q=>∀ p,H p=none->∀ b,upd H p (.dT []) b=none->Q (.ref p) (upd (upd (upd H p (.dT [])) b (.tup (ns.map V.int))) p (.dT [(ns.map Sum.inl,v)]))
theorem AQ {x1:Nat} (hu:X.A.units+1 < cLine) (h0:ns ≠ []) (hz:ns.length<=100) (p:es.map tQ=ns.map some) (K:PE X v (tC d)):PE X (.Dict [some (.Tuple es x1 pos')] [v] pos) (tD1T ns d):=by
 intro pins s σ H Q I q
 have E:=I.hok.fresh (Co s.heap.objs.size)
 have G:=I.laid (a:=s.heap.objs.size) (o:=.dT []) (h':=s.heap.push { cls:=.type "dict",data:=.dict #[] }) (t':=s.toks) (fun _ _ q=>B8 _ q) (Co _) (ot s.heap I.big)
 have t:=vf (X:=X) (x1:=x1) (pos:=pos') (qZ ns p)
 have len:(ns.map V.int).length<=sizeLine:=by rw [Ci,sizeLine_eq];omega
 refine nD (thn (t pins _ σ _ (fun x H2=>∃ b,x=.ref b/\upd H s.heap.objs.size (.dT []) b=none/\H2=upd (upd H s.heap.objs.size (.dT [])) b (.tup (ns.map V.int))) G ⟨len,fun b e=>⟨b,rfl,e,rfl⟩⟩) fun x s1 ⟨O,H1,D,F,b,e1,e,L⟩=>thn (K pins s1 σ H1 (fun y H2=>y=d/\H2=H1) D ⟨rfl,rfl⟩) fun y s2 ⟨r,H2,j,C,N,M⟩=>?_)
 subst e1 L N M
 have nb:b ≠ s.heap.objs.size:=fun z=>by rw [z,aC] at e;cases e
 cases (show x=Value.ref b from F)
 have i:upd (upd H s.heap.objs.size (.dT [])) b (.tup (ns.map V.int)) s.heap.objs.size=some (.dT []):=by rw [au (Ne.symm nb),aC]
 have hb2:upd (upd H s.heap.objs.size (.dT [])) b (.tup (ns.map V.int)) b=some (.tup ((ns.map Sum.inl).map kV)):=by rw [aC,CQ];rfl
 obtain ⟨z,hd,xs,rel,B⟩:=qk j.hok (.inl i)
 cases rel
 refine gk (hsz:=Nat.zero_le _) (show (tupleKind (bA X.prog X.w)).room X.A from Nat.lt_of_succ_lt hu) (mi j.hok hb2) B fun h' h u=>?_
 obtain ⟨l,f,g,k,h2,h3,n,_,J⟩:=h
 refine ⟨.ref s.heap.objs.size,_,jS (ob:=.dT [(ns.map Sum.inl,r)]) j (by rw [i];exact True.intro) u ⟨l,k⟩ ⟨(by decide:1<=sizeLine),hd,_,(KT.put (kvs:=[]) .nil (ns.map Sum.inl) hb2 C).keeps fun c ys m=>?_,l,f,g,k,h2,h3,n,J⟩,rfl,q _ E b e⟩
 rw [au (zg m i (fun z=>nomatch z))]
 exact m
end
end L2
end
section
namespace PySem
namespace F
end F
end PySem
namespace PySem
namespace F
end F
end PySem
end
section
namespace L2
open PySem PySem.Spec PyProof.Rows
def IsRv (h:Heap) (r a:Addr) (i:Int):Prop:=∃ o,h.get? r=some o/\o.cls=.type "reversed"/\o.data=.fields #[.ref a,rawInt i]
section
variable {prog:Program} {w:World} {A:Around} {E:Value->Shared->Prop} {s:Shared}
theorem IsRv.at {h h':Heap} {r a:Addr} {i:Int} (x:IsRv h r a i) (e:∀ o,h.get? r=some o->h'.get? r=some o):IsRv h' r a i:=let ⟨o,b,q⟩:=x;⟨o,e _ b,q⟩
end
end L2
end
section
namespace L2
open PySem PySem.Spec PyProof.Rows
end L2
end
section
namespace L2
open PySem PySem.Spec PyProof.Rows
theorem vd (xs:Array Value):((List.range xs.size).filterMap fun (m:Nat)=>xs[(((xs.size:Int) - 1)+(m:Int) * (-1)).toNat]?)=xs.toList.reverse:=by
 have h:∀ (l:List Value) (k:Nat),k<=l.length->((List.range k).filterMap fun m:Nat=>l[((l.length:Int) - 1+(m:Int) * (-1)).toNat]?)=l.reverse.take k:=by
  intro l k
  induction k with
  | zero=>intro _;simp
  | succ k ih =>
   intro a
   rw [List.range_succ,List.filterMap_append,ih (by omega),List.take_add_one]
   congr 1
   have e:((l.length:Int) - 1+(k:Int) * (-1)).toNat=l.length - 1 - k:=by omega
   rw [List.filterMap_cons,List.filterMap_nil,e,List.getElem?_reverse (by omega)]
   cases l[l.length - 1 - k]? <;> rfl
 have:=h xs.toList xs.size (by simp)
 simp only [Array.length_toList,Array.getElem?_toList] at this
 rw [this,List.take_of_length_le (by simp)]
section
variable {prog:Program} {w:World} {A:Around} {E:Value->Shared->Prop} {s:Shared}
theorem iP {sl:Addr} {t:Tok} {n:Nat} {Q:Int × Int × Nat->Shared->Prop} (e:s.heap.IsSliceOf sl .none .none (.int (-1) t)) (h:Q ((n:Int) - 1,-1,n) s) :
  wpAny (model prog w) A (Builtin.Slice.sliceApplied (.ref sl) (pure (n:Int))) Q E s:=by
 obtain ⟨os,b,c,a⟩:=id e
 unfold Builtin.Slice.sliceApplied Builtin.Slice.sliceFields
 refine B0 (B0 (wpAny_field b a (x:=.none) rfl (B0 (wpAny_field b a (x:=.none) rfl (B0 (wpAny_field b a (x:=.int (-1) t) rfl (B4 ?_)))))))
 refine B0 (HT.slicePart_ (.int (-1) t) ?_)
 show wpAny _ _ (if ((-1:Int) == 0)=true then _ else _) _ _ s
 rw [if_neg (by decide)]
 refine B0 (HT.slicePart_ .none (B0 (HT.slicePart_ .none (B0 (B4 ?_)))))
 have e1:Builtin.Slice.sliceAdjust none none (-1) (n:Int)=((n:Int) - 1,-1):=rfl
 show wpAny _ _ (match Builtin.Slice.sliceAdjust none none (-1) (n:Int) with | (lo,hi)=>pure (lo,(-1:Int),Builtin.Slice.slicePlaces lo hi (-1))) _ _ s
 rw [e1]
 have d:Builtin.Slice.slicePlaces ((n:Int) - 1) (-1) (-1)=n:=by
  unfold Builtin.Slice.slicePlaces
  rw [if_neg (by decide)]
  by_cases q:(n:Int) - 1 > -1
  ·rw [if_pos q]
   have:((n:Int) - 1 - -1 - 1) / (- -1)+1=n:=by
    rw [show (- -1:Int)=1 from rfl,Int.ediv_one];omega
   rw [this];simp
  ·rw [if_neg q]
   have:n=0:=by omega
   subst this;rfl
 show wpAny _ _ (pure ((n:Int) - 1,(-1:Int),Builtin.Slice.slicePlaces ((n:Int) - 1) (-1) (-1))) _ _ s
 rw [d]
 exact B4 h
theorem iE {t sl:Addr} {items:Array Value} {u:Tok} {Q:Value->Shared->Prop} (b:IsTup s.heap t items) (f:s.heap.IsSliceOf sl .none .none (.int (-1) u))
  (h:Q (.ref s.heap.objs.size) { s with heap:=s.heap.push { cls:=.type "tuple",data:=.seq items.toList.reverse.toArray } })
  (hsz:items.size<=sizeLine):wpAny (model prog w) A (getItem (.ref t) (.ref sl)) Q E s:=by
 have a:sizeOk (.seq items.toList.reverse.toArray):=by
  show items.toList.reverse.toArray.size<=sizeLine
  rw [Cr,List.length_reverse,Array.length_toList]
  exact hsz
 obtain ⟨os,c,e,g⟩:=id f
 have d:s.TypeIs (.ref sl) "slice":=⟨os,c,e⟩
 unfold getItem
 try with_reducible refine B5 ?_
 first | refine B0 (B4 ?_) | skip
 refine B0 (wpAny_sequenceKey b.typeIs (by decide) ?_)
 refine B0 (wpAny_callSpecial?_slot (name:=Str.ofString "__getitem__") b.typeIs PyProof.Rows.slot_tuple_getitem
  (wpAny_call_entry PyProof.Rows.slot_tuple_getitem b.typeIs entry_tuple_getitem ?_ (args_tuple_getitem _ _)))
 show wpAny _ _ (Builtin.Tuple.tupleItemsOf (.ref t) >>= _) _ _ s
 refine B0 (tupleItemsOf_ b ?_)
 refine B0 (wpAny_typeOf d ?_)
 rw [if_pos (by decide)]
 refine B0 (iP f ?_)
 show wpAny _ _ (if (((items.size:Int) - 1 == 0) && ((-1:Int) == 1) && (items.size == items.size))=true then _ else _) _ _ s
 rw [if_neg (by simp),vd]
 first
  | exact B0 (m:=Builtin.Tuple.tupleExact _) (wpAny_newObj_type (B4 ⟨_,rfl,B4 h⟩) a)
  | exact B0 (m:=Builtin.Tuple.tupleExact _) (wpAny_newObj_type (B0 (B4 (B4 ⟨_,rfl,B4 h⟩))) a)
  | exact B0 (B0 (m:=Builtin.Tuple.tupleExact _) (wpAny_newObj_type (B4 (B4 ⟨_,rfl,B4 h⟩)) a))
  | exact B0 (B0 (m:=Builtin.Tuple.tupleExact _) (wpAny_newObj_type (B4 ⟨_,rfl,B4 h⟩) a))
end
section
variable {X:Cx}
def yU (K:FG) (te:TE) (b:TO):TE:=fun σ H Q=>te σ H fun x H1=>b σ H1 fun o H2=>∃ a xs,o=some (-1)/\x=.ref a/\SqT K H2 a xs/\∀ p,H2 p=none->Q (.ref p) (upd H2 p (.tup xs.reverse))
theorem Vals.rev:∀ {xs:List V} {us:List Value},Vals xs us->Vals xs.reverse us.reverse
 | [],_,.nil=>.nil
 | x :: xs,_,.cons r t=>by
  rw [List.reverse_cons,List.reverse_cons]
  exact (Vals.rev t).append (.cons r .nil)
theorem xY {e st:Expr} {te:TE} {d:TO} {p2 pos:Pos} (he:PE X e te) (n:PO X (some st) d):PE X (.Subscript e (.Slice none none (some st) p2) pos) (yU X.K te d):=by
 intro pins s σ H Q I h
 refine Subscript_ (thn (he pins s σ H _ I h) fun v s1 ⟨x,H1,m,j,k⟩=>?_)
 refine wpAny_Slice ?_
 rw [evalPart_none]
 refine B4 ?_
 refine B4 ?_
 refine thn (n pins s1 σ H1 _ m k) fun y s3 ⟨o,p,u,po,l⟩=>?_
 obtain ⟨a,xs,rfl,rfl,g,q⟩:=l
 cases j
 cases po with
 | int i t =>
 have c:Inv X pins σ p { s3 with heap:=s3.heap.push { cls:=.type "slice",data:=.fields #[.none,.none,.int (-1) t] } }:=u.kept (t':=s3.toks) fun b ob q=>B8 _ q
 obtain ⟨its,r,f,hz⟩:=c.tuple g
 have hlen:its.toArray.size=xs.length:=by rw [Cr];exact r.length.symm
 show wpAny (model X.prog X.w) X.A (subscriptTail e (.Slice none none (some st) p2) (.ref a) (.ref s3.heap.objs.size)) (EP X pins σ Q) X.xe { s3 with heap:=s3.heap.push { cls:=.type "slice",data:=.fields #[.none,.none,.int (-1) t] } }
 refine tail_any (ops:=[.ref a,.ref s3.heap.objs.size]) f.typeIs PyProof.Rows.slot_tuple_getitem.lookup ?_ (by with_unfolding_all rfl)
 refine iE f (Heap.IsSliceOf.new ..) ?_ (by rw [hlen];exact hz)
 refine ⟨.ref (s3.heap.push { cls:=.type "slice",data:=.fields #[.none,.none,.int (-1) t] }).objs.size,_,c.laid (t':=s3.toks) (o:=.tup xs.reverse) (fun b ob q=>B8 _ q) (Co _) ?_,rfl,q _ (c.hok.fresh (Co _))⟩
 exact ⟨by rw [List.length_reverse];exact hz,_,r.rev,IsTupD.new _ _⟩
end
end L2
end
section
namespace L2
open PySem PySem.W PySem.Spec PyProof.Rows
abbrev excO (a:Addr) (cls:Value):HO:=.ext fun h=>∃ o,h.get? a=some o/\o.cls=cls
abbrev excF (ob:Obj) (a:Addr) (cls:Value):HO:=.frz ob (excO a cls)
structure ExcK (K:FG) (D:Addr):Prop where
 ga:findIn K (.ref D) "__getattribute__"=some (some (.builtin "BaseException.__getattribute__"))
 gt:findIn K (.ref D) "__getattr__"=some none
 cl:(clsIn K D).isSome=true
 ca:findIn K (.ref D) "__class__"=some (some (.builtin "object.__class__"))
 sp:specialIn K (.builtin "object.__class__") "__get__"=some (some (.builtin "getset_descriptor.__get__"))
 tk:takesIn K (.builtin "object.__class__")=some true
 ob:mroIn K D (.type "object")=some true
 be:mroIn K D (.type "BaseException")=some true
structure XName (K:FG) (c:String) (D:Addr):Prop where
 ns:nsIn K mainGlobals (Str.ofString c)=some (some (.ref D))
 ex:ExcK K D
theorem XName.inj {K:FG} (a:XName K c D) (b:XName K c D'):D=D':=by
 have:=a.ns.symm.trans b.ns
 cases this
 rfl
end L2
end
section
namespace L2
open PySem
section
variable {K:FG} {h:Heap} {mg:Str->Option Value}
theorem iZ:∀ {l:List Nat} {a:Nat} {o:Obj},(l.filterMap fun a=>(h.get? a).map fun o=>(a,o)).lookup a=some o->h.get? a=some o
 | [],_,_,e=>by cases e
 | b :: l,a,o,e=>by
  rw [List.filterMap_cons] at e
  cases d:h.get? b with
  | none=>rw [d] at e;exact iZ e
  | some p =>
   rw [d] at e
   replace e:List.lookup a ((b,p) :: l.filterMap fun a=>(h.get? a).map fun o=>(a,o))=some o:=e
   rw [List.lookup_cons] at e
   cases c:a == b with
   | true=>rw [c] at e;cases eq_of_beq c;cases e;exact d
   | false=>rw [c] at e;exact iZ e
theorem fragAt_in (h:Heap):(wc h).In h:=fun _ _ e=>iZ e
def stPos (s:Stmt):Pos:=match s with
 | .FunctionDef _ _ _ _ _ _ _ _ _ p=>p
 | _=>⟨0,0,0,0⟩
theorem BK (X:K.In h) (G:h.Ns mainGlobals mg) (e:oq K n=km n st):Def K mg n st:=by
 unfold oq at e
 split at e
 ·rename_i f hf
  split at e
  ·rename_i d c fd sl a
   unfold km at e
   obtain ⟨name,qual,params,body,scope,globals,closure,defaults,kw,doc,pm,an,cd,ct,bi⟩:=fd
   simp only [Option.some.injEq,Prod.mk.injEq] at e
   obtain ⟨rfl,rfl,rfl,rfl,rfl,rfl,rfl,rfl,rfl,b⟩:=e
   exact ⟨f,_,BE (st:=st) a b (by unfold PySem.W.keepIn;simp only [a]),PySem.W.mg_of X G hf⟩
  ·cases e
 ·cases e
theorem pR {α β:Type} {f g:α->β} {l:List α} (e:l.map f=l.map g) (i:Nat) {a:α} (h:l[i]?=some a):f a=g a:=List.map_inj_left.mp e a (Ck h)
theorem aF {ds:List (Str × Stmt)} (X:K.In h) (G:h.Ns mainGlobals mg) (e:ds.map (fun p=>oq K p.1)=ds.map (fun p=>km p.1 p.2)) (i:Nat) (hi:ds[i]?=some (n,st)):Def K mg n st:=BK X G (pR e i hi)
theorem bW {l:List Str} (X:K.In h) (G:h.Ns mainGlobals mg) (e:l.map (PySem.W.nsIn K mainGlobals)=l.map (fun _=>some none)) (i:Nat) (hi:l[i]?=some n):mg n=none:=PySem.W.mg_none_of X G (pR e i hi)
theorem qg {l:List (Str × Int)} {v:Int} (X:K.In h) (G:h.Ns mainGlobals mg) (e:l.map (fun p=>mj K p.1)=l.map (fun p=>some p.2)) (i:Nat) (hi:l[i]?=some (n,v)):∃ t,mg n=some (.int v t):=by
 have e:=pR e i hi
 unfold mj at e
 dsimp only at e
 split at e
 ·rename_i b t a;cases e;exact ⟨t,PySem.W.mg_of X G a⟩
 ·cases e
theorem walk_ofS {l:PySem.W.OpenLaw} {n k:Nat} {S:FG->Prop} {sp:FG->Sp} (L:l.most=some n) (y:n<=sizeLine) (r:d.params.defaults=[]) (C:Room k callerA) (M:∀ (w:World) (h:Heap),YP w h->∃ K:FG,K.In h/\S K) (F:∀ (w:World) (mg:Str->Option Value) (i:Addr) (h:Heap) (K:FG),S K->K.In h->h.Ns mainGlobals mg->mg d.name=some (.ref i) ->
   ∃ fd:FuncData,(∀ (s:Shared) (u:Value),BindsTo s fd ⟨[u],[]⟩ [(x,u)]) /\
    ∀ base:Heap,K.In base->base.Ns mainGlobals mg->FnOk l.prog w K mg base CX k i fd [x] (sp K)) (p:∀ (K:FG) (H:Hp) (a:Addr) (ns:List Int),ns.length<=n->yS H->SqL K H a (ns.map V.int)->sp K [.ref a] H (fun v _=>v=.bl true) fun _ _ _=>False) (j:∀ (H:Hp) (s:Shared) (e:Value) (s':Shared),CX [] H s (fun _ _ _=>False) e s'->False) :
  PySem.W.WalkO q loose XP YP l.row.toRowW d [] (fun f z=>PySem.call f z):=by
 refine Att.attach_call L r fun w s₀ N mg mb i o pm cd doc a z ns G Y O hd J m c hints hlen I=>?_
 obtain ⟨K,A,t⟩:=M w _ Y
 obtain ⟨fd,E,B⟩:=F w mg i _ K t A G.T.g m
 exact vL A G.T.g G.T.b G.T.builtins G.T.nolimit I c hints (CN hlen y) C B E (fun H D t=>p K H a ns hlen D t) fun H e s'=>j H N e s'
end
end L2
end
section
namespace L3
open PySem L2
theorem nsE {α:Type} {p:α} {P:Prop} (e:(none:Option α)=some p):P:=nomatch e
inductive D where
 | non | bl (b:Bool) | int (i:Int) | str (x:Str)
 | tup (xs:List D) | lst (xs:List D) | fls (xs:List D) | dk (kvs:List (Key × D)) | dt (kvs:List (List Key × D))
 | exc (c:String) (fs:List (String × D))
def iA:D->Bool
 | .lst _=>true
 | .dk _=>true
 | .dt _=>true
 | _=>false
def FzL (K:FG) (H:Hp) (a:Addr) (b:List V):Prop:=(∃ o,H a=some (.frz o (.lst b)))\/∃ (o:Obj) (its:Array Value) (n:Nat),K.lookup a=some o/\o.cls=.type "list"/\o.dict=none/\o.data=.seq its n/\its.size<=sizeLine/\Vals b its.toList
theorem FzL.sq (h:FzL K H a vs):SqL K H a vs:=h.elim (fun ⟨o,e⟩=>.inl (.inr ⟨o,e⟩)) .inr
inductive Reps (R:D->V->List Addr->Prop):List D->List V->List Addr->Prop where
 | nil:Reps R [] [] []
 | cons {d v L ds vs L'}:R d v L->Reps R ds vs L'->Reps R (d :: ds) (v :: vs) (L ++ L')
inductive Rep (K:FG) (H:Hp):D->V->List Addr->Prop where
 | non:Rep K H .non .non []
 | bl (b:Bool):Rep K H (.bl b) (.bl b) []
 | int (i:Int):Rep K H (.int i) (.int i) []
 | str (x:Str):Rep K H (.str x) (.str x) []
 | tup {xs a vs L}:H a=some (.tup vs)->Reps (Rep K H) xs vs L->Rep K H (.tup xs) (.ref a) L
 | lst {xs a vs L}:H a=some (.lst vs)->Reps (Rep K H) xs vs L->Rep K H (.lst xs) (.ref a) (a :: L)
 | lstF {xs a vs L}:FzL K H a vs->Reps (Rep K H) xs vs L->Rep K H (.fls xs) (.ref a) L
 | dK {kvs a ps L}:H a=some (.dK ps)->kvs.map (·.1)=ps.map (·.1)->Reps (Rep K H) (kvs.map (·.2)) (ps.map (·.2)) L->Rep K H (.dk kvs) (.ref a) (a :: L)
 | dT {kvs a ps L}:H a=some (.dT ps)->kvs.map (·.1)=ps.map (·.1)->Reps (Rep K H) (kvs.map (·.2)) (ps.map (·.2)) L->Rep K H (.dt kvs) (.ref a) (a :: L)
 | exc {c a D ob}:XName K c D->H a=some (excF ob a (.ref D))->Rep K H (.exc c []) (.ref a) []
def RepV (K:FG) (H:Hp) (d:D) (v:V) (L:List Addr):Prop:=match d with
 | .non=>v=.non/\L=[]
 | .bl b=>v=.bl b/\L=[]
 | .int i=>v=.int i/\L=[]
 | .str x=>v=.str x/\L=[]
 | .tup xs=>∃ a e,v=.ref a/\H a=some (.tup e)/\Reps (Rep K H) xs e L
 | .lst xs=>∃ a e L',v=.ref a/\L=a :: L'/\H a=some (.lst e)/\Reps (Rep K H) xs e L'
 | .fls xs=>∃ a e,v=.ref a/\FzL K H a e/\Reps (Rep K H) xs e L
 | .dk kvs=>∃ a ps L',v=.ref a/\L=a :: L'/\H a=some (.dK ps)/\kvs.map (·.1)=ps.map (·.1)/\Reps (Rep K H) (kvs.map (·.2)) (ps.map (·.2)) L'
 | .dt kvs=>∃ a ps L',v=.ref a/\L=a :: L'/\H a=some (.dT ps)/\kvs.map (·.1)=ps.map (·.1)/\Reps (Rep K H) (kvs.map (·.2)) (ps.map (·.2)) L'
 | .exc c fs=>fs=[]/\L=[]/\∃ a D ob,v=.ref a/\XName K c D/\H a=some (excF ob a (.ref D))
theorem Rep.view (r:Rep K H d v L):RepV K H d v L:=by
 cases r with
 | non=>exact ⟨rfl,rfl⟩
 | bl b=>exact ⟨rfl,rfl⟩
 | int i=>exact ⟨rfl,rfl⟩
 | str x=>exact ⟨rfl,rfl⟩
 | tup h r=>exact ⟨_,_,rfl,h,r⟩
 | lst h r=>exact ⟨_,_,_,rfl,rfl,h,r⟩
 | lstF h r=>exact ⟨_,_,rfl,h,r⟩
 | dK h k r=>exact ⟨_,_,_,rfl,rfl,h,k,r⟩
 | dT h k r=>exact ⟨_,_,_,rfl,rfl,h,k,r⟩
 | exc n h=>exact ⟨rfl,rfl,_,_,_,rfl,n,h⟩
def MutAt (H:Hp) (b:Addr):Prop:=(∃ xs,H b=some (.lst xs))\/(∃ ps,H b=some (.dK ps))\/∃ ps,H b=some (.dT ps)
theorem MutAt.ex (m:MutAt H b):∃ o,H b=some o:=by
 rcases m with ⟨_,h⟩ | ⟨_,h⟩ | ⟨_,h⟩ <;> exact ⟨_,h⟩
theorem MutAt.notup (m:MutAt H b) (h:H b=some (.tup vs)):False:=by
 rcases m with ⟨_,e⟩ | ⟨_,e⟩ | ⟨_,e⟩ <;> rw [e] at h <;> cases h
theorem MutAt.nofrz (m:MutAt H b) (h:H b=some (.frz o u)):False:=by
 rcases m with ⟨_,e⟩ | ⟨_,e⟩ | ⟨_,e⟩ <;> rw [e] at h <;> cases h
theorem FzL.keep {M:Addr->Prop} (h:FzL K H a vs) (k:∀ b o,H b=some o->¬ M b->H' b=some o) (hm:∀ b,M b->MutAt H b):FzL K H' a vs:=h.elim (fun ⟨o,e⟩=>.inl ⟨o,k a _ e fun z=>(hm a z).nofrz e⟩) .inr
section
variable {K:FG} {H H':Hp} {d:D} {v:V} {L:List Addr}
theorem Rep.inH (r:Rep K H d v L):∀ b ∈ L,MutAt H b:=by
 refine Rep.rec (motive_1:=fun _ _ L _=>∀ b ∈ L,MutAt H b) (motive_2:=fun _ _ L _=>∀ b ∈ L,MutAt H b) ?_ ?_ ?_ ?_ ?_ ?_ ?_ ?_ ?_ ?_ ?_ ?_ r
 ·intro b a;cases a
 ·intro _ b a;cases a
 ·intro _ b a;cases a
 ·intro _ b a;cases a
 ·intro _ _ _ _ _ _ c;exact c
 ·intro _ _ _ _ h _ c b a
  rcases Cd.mp a with e | a
  ·rw [e];exact .inl ⟨_,h⟩
  ·exact c b a
 ·intro _ _ _ _ _ _ c;exact c
 ·intro _ _ _ _ h _ _ c b a
  rcases Cd.mp a with e | a
  ·rw [e];exact .inr (.inl ⟨_,h⟩)
  ·exact c b a
 ·intro _ _ _ _ h _ _ c b a
  rcases Cd.mp a with e | a
  ·rw [e];exact .inr (.inr ⟨_,h⟩)
  ·exact c b a
 ·intro _ _ _ _ _ _ b a;cases a
 ·intro b a;cases a
 ·intro _ _ _ _ _ _ _ _ f g b a
  rcases Cg.mp a with h | h
  ·exact f b h
  ·exact g b h
theorem Reps.inH (r:Reps (Rep K H) ds vs L):∀ b ∈ L,MutAt H b:=by
 induction r with
 | nil=>intro b a;cases a
 | cons r _ ih =>
  intro b a
  rcases Cg.mp a with h | h
  ·exact r.inH b h
  ·exact ih b h
theorem Rep.keep {M:Addr->Prop} (k:∀ b o,H b=some o->¬ M b->H' b=some o) (hm:∀ b,M b->MutAt H b) (r:Rep K H d v L):(∀ b ∈ L,¬ M b)->Rep K H' d v L:=by
 refine Rep.rec (motive_1:=fun d v L _=>(∀ b ∈ L,¬ M b)->Rep K H' d v L) (motive_2:=fun ds j L _=>(∀ b ∈ L,¬ M b)->Reps (Rep K H') ds j L) ?_ ?_ ?_ ?_ ?_ ?_ ?_ ?_ ?_ ?_ ?_ ?_ r
 ·intro _;exact .non
 ·intro b _;exact .bl b
 ·intro b _;exact .int b
 ·intro b _;exact .str b
 ·intro xs a j L h _ g f
  exact .tup (k a _ h fun z=>(hm a z).notup h) (g f)
 ·intro xs a j L h _ g f
  exact .lst (k a _ h (f a B6)) (g fun b i=>f b (B7 _ i))
 ·intro xs a j L h _ g f
  exact .lstF (h.keep k hm) (g f)
 ·intro kvs a ps L h e _ g f
  exact .dK (k a _ h (f a B6)) e (g fun b i=>f b (B7 _ i))
 ·intro kvs a ps L h e _ g f
  exact .dT (k a _ h (f a B6)) e (g fun b i=>f b (B7 _ i))
 ·intro c a D ob n h _
  exact .exc n (k a _ h fun z=>(hm a z).nofrz h)
 ·intro _;exact .nil
 ·intro d v L ds j L' _ _ l m f
  exact .cons (l fun b i=>f b (Ca _ i)) (m fun b i=>f b (Cc _ i))
theorem Rep.same (r:Rep K H d v L) (s:Same H H'):Rep K H' d v L:=r.keep (M:=fun _=>False) (fun b o h _=>s b o h) (fun _ z=>z.elim) fun _ _ z=>z
theorem Reps.keep {M:Addr->Prop} (k:∀ b o,H b=some o->¬ M b->H' b=some o) (hm:∀ b,M b->MutAt H b) (r:Reps (Rep K H) ds vs L):(∀ b ∈ L,¬ M b)->Reps (Rep K H') ds vs L:=by
 induction r with
 | nil=>intro _;exact .nil
 | cons r _ ih=>intro c;exact .cons (r.keep k hm fun b a=>c b (Ca _ a)) (ih fun b a=>c b (Cc _ a))
theorem Reps.same (r:Reps (Rep K H) ds vs L) (s:Same H H'):Reps (Rep K H') ds vs L:=r.keep (M:=fun _=>False) (fun b o h _=>s b o h) (fun _ z=>z.elim) fun _ _ z=>z
end
inductive Fl where
 | u | l | z
 deriving DecidableEq
structure It3 where
 d:D
 v:V
 L:List Addr
 f:Fl
abbrev Sto:=List (Option (D × Fl))
structure Gm where
 H0:Hp
 bw:Addr->Prop
 pr:Nat->Bool
 σ0:St
 orig:Hp
 src:Addr->Prop
 lv:Nat->Option V
def OwnOk (G:Gm) (x:It3):Prop:=iA x.d=true/\∃ a L',x.v=.ref a/\x.L=a :: L'/\a ∉ L'/\(x.f=.u->G.H0 a=none\/G.bw a)
structure ItOk (K:FG) (G:Gm) (H:Hp) (x:It3):Prop where
 rep:Rep K H x.d x.v x.L
 own:x.f ≠ .z->OwnOk G x
 src:∀ c ∈ x.L,G.H0 c=none\/G.src c
structure Fx (G:Gm) (H:Hp) (T:List It3) (g:Nat->Option It3):Prop where
 frT:∀ x ∈ T,x.f ≠ .z->∀ a,x.v=.ref a->G.orig a=none
 frS:∀ i x,g i=some x->G.pr i=false->x.f ≠ .z->∀ a,x.v=.ref a->G.orig a=none
 bin:∀ b,G.bw b->∃ o,H b=some o
 ob:∀ b o,G.orig b=some o->∃ o',H b=some o'
 lvS:∀ i x,g i=some x->x.f=.l->G.lv i=some x.v
def NoRoot (x y:It3):Prop:=x.f ≠ .z->∀ a,x.v=.ref a->a ∉ y.L
def Apart3 (x y:It3):Prop:=NoRoot x y/\NoRoot y x
structure Wf (K:FG) (G:Gm) (H:Hp) (σ:St) (ρ:Sto) (T:List It3) (g:Nat->Option It3):Prop where
 len:σ.length = ρ.length
 sl:∀ i,(g i).map (fun x=>(x.d,x.f))=(ρ[i]?).join
 sv:∀ i x,g i=some x->σ[i]?=some (some x.v)
 okS:∀ i x,g i=some x->ItOk K G H x
 okT:∀ x ∈ T,ItOk K G H x
 ss:∀ i j x y,i ≠ j->g i=some x->g j=some y->NoRoot x y
 st:∀ i x,g i=some x->∀ y ∈ T,Apart3 x y
 tt:T.Pairwise Apart3
 base:∀ b o,G.H0 b=some o->¬ G.bw b->H b=some o
 pro:∀ i,G.pr i=true->σ[i]?=G.σ0[i]?
 fx:Fx G H T g
structure Le (K:FG) (G:Gm) (W:D->Sto->Prop) (G0:Gm) (W0:D->Sto->Prop):Prop where
 pr:G.pr=G0.pr
 ex:∀ (H:Hp) (σ:St) (ρ:Sto) (T:List It3) (g:Nat->Option It3) (e:D),Wf K G H σ ρ T g->W e ρ->∃ ρ0 T0 g0,Wf K G0 H σ ρ0 T0 g0/\W0 e ρ0
theorem Le.refl (K:FG) (G:Gm) (W:D->Sto->Prop):Le K G W G W:=⟨rfl,fun _ _ ρ T g _ w h=>⟨ρ,T,g,w,h⟩⟩
theorem Le.trans (a:Le K G W G1 W1) (b:Le K G1 W1 G2 W2):Le K G W G2 W2:=⟨a.pr.trans b.pr,fun H σ ρ T g e w h=>by
 obtain ⟨ρ1,d,g1,c,h1⟩:=a.ex H σ ρ T g e w h
 exact b.ex H σ ρ1 d g1 e c h1⟩
section
variable {K:FG} {G:Gm} {H H':Hp} {σ:St} {ρ:Sto} {T T':List It3} {g:Nat->Option It3} {x y z:It3}
theorem ItOk.keep {M:Addr->Prop} (h:ItOk K G H x) (k:∀ b o,H b=some o->¬ M b->H' b=some o) (hm:∀ b,M b->MutAt H b) (a:∀ b ∈ x.L,¬ M b):ItOk K G H' x:=⟨h.rep.keep k hm a,h.own,h.src⟩
theorem ItOk.same (h:ItOk K G H x) (s:Same H H'):ItOk K G H' x:=⟨h.rep.same s,h.own,h.src⟩
theorem Fx.more (f:Fx G H T g) (s:∀ b o,H b=some o->∃ o',H' b=some o'):Fx G H' T g:=⟨f.frT,f.frS,fun b h=>let ⟨o,e⟩:=f.bin b h;s b o e,fun b o h=>let ⟨o',e⟩:=f.ob b o h;s b o' e,f.lvS⟩
theorem Fx.sub (f:Fx G H T g) (h:∀ x ∈ T',x ∈ T):Fx G H T' g:=⟨fun x a=>f.frT x (h x a),f.frS,f.bin,f.ob,f.lvS⟩
theorem Wf.grow (w:Wf K G H σ ρ T g) (s:Same H H'):Wf K G H' σ ρ T g :=
 ⟨w.len,w.sl,w.sv,fun i x e=>(w.okS i x e).same s,fun x a=>(w.okT x a).same s,w.ss,w.st,w.tt,fun b o e n=>s b o (w.base b o e n),w.pro,w.fx.more fun b o h=>⟨o,s b o h⟩⟩
theorem Wf.sub (w:Wf K G H σ ρ T g) (h:T'.Sublist T):Wf K G H σ ρ T' g :=
 ⟨w.len,w.sl,w.sv,w.okS,fun x a=>w.okT x (h.subset a),w.ss,fun i x e y b=>w.st i x e y (h.subset b),w.tt.sublist h,w.base,w.pro,w.fx.sub fun x a=>h.subset a⟩
def Itm (T:List It3) (g:Nat->Option It3) (y:It3):Prop:=(∃ i,g i=some y)\/y ∈ T
def df (T:List It3) (g:Nat->Option It3) (c:Addr):Prop:=(∀ i z,g i=some z->z.f ≠ .z->z.v ≠ .ref c)/\∀ z ∈ T,z.f ≠ .z->z.v ≠ .ref c
theorem Wf.itm (w:Wf K G H σ ρ T g) (h:Itm T g y):ItOk K G H y:=by
 rcases h with ⟨i,e⟩ | h
 ·exact w.okS i y e
 ·exact w.okT y h
theorem l6 {α:Type} {R:α->α->Prop} {l:List α} (p:l.Pairwise R) (h:∀ a b,R a b->R b a):∀ a ∈ l,∀ b ∈ l,a ≠ b->R a b:=by
 induction p with
 | nil=>intro a d;cases d
 | @cons c l hc _ ih =>
  intro a d b e n
  rcases Cd.mp d with g | d
  ·rcases Cd.mp e with f | e
   ·exact absurd (g.trans f.symm) n
   ·rw [g];exact hc b e
  ·rcases Cd.mp e with f | e
   ·rw [f];exact h _ _ (hc a d)
   ·exact ih a d b e n
theorem Apart3.symm (h:Apart3 x y):Apart3 y x:=⟨h.2,h.1⟩
theorem Wf.kid (w:Wf K G H σ ρ T g) (h:Itm T g y) (b:c ∈ y.L) (l:y.f ≠ .z->y.v ≠ .ref c):df T g c:=by
 refine ⟨fun i z e hz ez=>?_,fun z hm hz ez=>?_⟩
 ·rcases h with ⟨j,a⟩ | d
  ·by_cases k:i=j
   ·subst k
    rw [e] at a
    cases a
    exact l hz ez
   ·exact w.ss i j z y k e a hz c ez b
  ·exact (w.st i z e y d).1 hz c ez b
 ·rcases h with ⟨j,a⟩ | d
  ·exact (w.st j y a z hm).2 hz c ez b
  ·by_cases e:z=y
   ·subst e;exact l hz ez
   ·exact (l6 w.tt (fun _ _=>Apart3.symm) z hm y d e).1 hz c ez b
structure New (K:FG) (H H':Hp) (Ks:Addr->Prop) (x:It3):Prop where
 same:Same H H'
 rep:Rep K H' x.d x.v x.L
 sub:∀ c ∈ x.L,H c=none\/Ks c
 own:x.f ≠ .z->iA x.d=true/\∃ a L',x.v=.ref a/\x.L=a :: L'/\a ∉ L'/\H a=none
theorem Wf.h0none (w:Wf K G H σ ρ T g) (h:H a=none):G.H0 a=none:=by
 cases e:G.H0 a with
 | none=>rfl
 | some o =>
  by_cases b:G.bw a
  ·obtain ⟨o,e⟩:=w.fx.bin a b
   rw [h] at e;cases e
  ·have:=w.base a o e b
   rw [h] at this;cases this
theorem Wf.ornone (w:Wf K G H σ ρ T g) (h:H a=none):G.orig a=none:=by
 cases e:G.orig a with
 | none=>rfl
 | some o =>
  obtain ⟨o,e⟩:=w.fx.ob a o e
  rw [h] at e;cases e
theorem Wf.push (w:Wf K G H σ ρ T g) (n:New K H H' Ks x) (m:∀ c,Ks c->df T g c/\(G.H0 c=none\/G.src c)):Wf K G H' σ ρ (x :: T) g:=by
 have d:=w.grow n.same
 have a1:∀ y:It3,ItOk K G H y->(∀ c,Ks c->y.f ≠ .z->y.v ≠ .ref c)->Apart3 y x:=fun y p b=>by
  refine ⟨fun hf a e hm=>?_,fun hf a e hm=>?_⟩
  ·obtain ⟨_,t,L',e1,l,_,_⟩:=p.own hf
   rw [e] at e1
   cases e1
   rcases n.sub a hm with h | h
   ·obtain ⟨o,j⟩:=(p.rep.inH a (by rw [l];exact B6)).ex
    rw [h] at j;cases j
   ·exact b a h hf e
  ·obtain ⟨_,t,L',e1,l,_,h⟩:=n.own hf
   rw [e] at e1
   cases e1
   obtain ⟨o,j⟩:=(p.rep.inH a hm).ex
   rw [h] at j;cases j
 refine ⟨d.len,d.sl,d.sv,d.okS,?_,d.ss,?_,?_,d.base,d.pro,⟨fun y b hf a s=>?_,d.fx.frS,d.fx.bin,d.fx.ob,d.fx.lvS⟩⟩
 ·intro y b
  rcases Cd.mp b with rfl | b
  ·refine ⟨n.rep,fun hf=>?_,fun c k=>?_⟩
   ·obtain ⟨r,a,L',e1,l,u,q⟩:=n.own hf
    exact ⟨r,a,L',e1,l,u,fun _=>.inl (w.h0none q)⟩
   ·rcases n.sub c k with h | h
    ·exact .inl (w.h0none h)
    ·exact (m c h).2
  ·exact d.okT y b
 ·intro i z e y b
  rcases Cd.mp b with rfl | b
  ·exact a1 z (w.okS i z e) fun c k=>(m c k).1.1 i z e
  ·exact d.st i z e y b
 ·refine List.pairwise_cons.mpr ⟨fun y b=>(a1 y (w.okT y b) fun c k=>(m c k).1.2 y b).symm,d.tt⟩
 ·rcases Cd.mp b with h | b
  ·subst h
   obtain ⟨r,t,L',e1,l,u,q⟩:=n.own hf
   rw [s] at e1
   cases e1
   exact w.ornone q
  ·exact d.fx.frT y b hf a s
def cC (ys:List It3) (c:Addr):Prop:=∃ y ∈ ys,c ∈ y.L/\(y.f ≠ .z->y.v ≠ .ref c)
theorem Wf.kids (w:Wf K G H σ ρ T g) (a:∀ y ∈ ys,Itm T g y) (h:cC ys c):df T g c/\(G.H0 c=none\/G.src c):=by
 obtain ⟨y,m,b,d⟩:=h
 exact ⟨w.kid (a y m) b d,(w.itm (a y m)).src c b⟩
structure Arg (K:FG) (H:Hp) (p:It3):Prop where
 rep:Rep K H p.d p.v p.L
 own:p.f ≠ .z->iA p.d=true/\∃ a L',p.v=.ref a/\p.L=a :: L'/\a ∉ L'
theorem ItOk.arg (h:ItOk K G H x):Arg K H x:=⟨h.rep,fun hf=>by
 obtain ⟨m,a,L',v1,v2,v3,_⟩:=h.own hf
 exact ⟨m,a,L',v1,v2,v3⟩⟩
end
end L3
end
section
namespace L3
open PySem L2
inductive R3 where
 | pl (i:Nat) | val (d:D) (f:Fl)
abbrev M3 (α:Type):=Sto->Option (Except D α × Sto)
abbrev EM:=M3 R3
noncomputable def ac {α β:Type} (m:M3 α) (k:α->M3 β):M3 β:=fun ρ=>match m ρ with
 | none=>none
 | some (.error e,ρ')=>some (.error e,ρ')
 | some (.ok a,ρ')=>k a ρ'
noncomputable def aO {α:Type} (a:α):M3 α:=fun ρ=>some (.ok a,ρ)
noncomputable def aR {α:Type} (o:Option α):M3 α:=fun ρ=>o.map fun a=>(.ok a,ρ)
noncomputable def der (r:R3):M3 D:=fun ρ=>match r with
 | .pl i=>((ρ[i]?).join).map fun p=>(.ok p.1,ρ)
 | .val d _=>some (.ok d,ρ)
inductive Ar (σ:St):R3->V->List It3->Prop where
 | pl {i:Nat} {v:V}:σ[i]?=some (some v)->Ar σ (.pl i) v []
 | val (x:It3):Ar σ (.val x.d x.f) x.v [x]
def Got (K:FG) (G:Gm) (σ:St) (ρ:Sto) (T:List It3) (r:R3) (v:V) (H:Hp):Prop:=∃ Ts g,Wf K G H σ ρ (Ts ++ T) g/\Ar σ r v Ts
def tE (K:FG) (G0:Gm) (W0:D->Sto->Prop) (m:EM):TE:=fun σ H Q=>∃ G W,Le K G W G0 W0/\∃ ρ T g r ρ',Wf K G H σ ρ T g/\m ρ=some (r,ρ')/\match r with
 | .ok r=>∀ v H',Got K G σ ρ' T r v H'->Q v H'
 | .error e=>W e ρ'
def tT (K:FG) (G0:Gm) (W0:D->Sto->Prop) (m:M3 Bool):TT:=fun σ H Q=>∃ G W,Le K G W G0 W0/\∃ ρ T g r ρ',Wf K G H σ ρ T g/\m ρ=some (r,ρ')/\match r with
 | .ok b=>∀ H' g',Wf K G H' σ ρ' T g'->Q b H'
 | .error e=>W e ρ'
inductive Ars (σ:St):List R3->List V->List It3->Prop where
 | nil:Ars σ [] [] []
 | cons {r v Ts rs vs Us}:Ar σ r v Ts->Ars σ rs vs Us->Ars σ (r :: rs) (v :: vs) (Us ++ Ts)
def tA (K:FG) (G0:Gm) (W0:D->Sto->Prop) (m:M3 (List R3)):TA:=fun σ H Q=>∃ G W,Le K G W G0 W0/\∃ ρ T g r ρ',Wf K G H σ ρ T g/\m ρ=some (r,ρ')/\match r with
 | .ok rs=>∀ a H' Ts g',Wf K G H' σ ρ' (Ts ++ T) g'->Ars σ rs a Ts->Q a H'
 | .error e=>W e ρ'
inductive Flw where
 | nx | br | ct | rt (d:D) (f:Fl)
abbrev SM:=M3 Flw
def tS (K:FG) (G0:Gm) (W0:D->Sto->Prop) (m:SM):TS:=fun E σ H=>∃ G W,Le K G W G0 W0/\∃ ρ T g r ρ',Wf K G H σ ρ T g/\m ρ=some (r,ρ')/\match r with
 | .ok .nx=>∀ σ' H' g',Wf K G H' σ' ρ' T g'->E.nx σ' H'
 | .ok .br=>∀ σ' H' g',Wf K G H' σ' ρ' T g'->E.bk σ' H'
 | .ok .ct=>∀ σ' H' g',Wf K G H' σ' ρ' T g'->E.ct σ' H'
 | .ok (.rt d f)=>∀ x σ' H' g',Wf K G H' σ' ρ' (x :: T) g'->x.d=d->x.f=f->E.rt x.v H'
 | .error e=>W e ρ'
section
variable {K:FG} {G G0:Gm} {W W0:D->Sto->Prop} {H H':Hp} {σ:St} {ρ ρ':Sto} {T T':List It3} {g:Nat->Option It3} {x y z:It3} {α β:Type}
theorem aL (e:ac (der r) k ρ=some (o,ρ')):∃ d,der r ρ=some (.ok d,ρ)/\k d ρ=some (o,ρ'):=by
 cases r with
 | pl i =>
  have a:der (.pl i) ρ=((ρ[i]?).join).map fun p=>(.ok p.1,ρ):=rfl
  unfold ac at e
  rw [a] at e ⊢
  cases h:(ρ[i]?).join with
  | none=>rw [h] at e;exact nsE e
  | some p=>rw [h] at e;exact ⟨p.1,rfl,e⟩
 | val d f=>exact ⟨d,rfl,e⟩
theorem bC (e:aR o ρ=some (r,ρ')):∃ a,o=some a/\r=.ok a/\ρ' = ρ:=by
 unfold aR at e
 cases o with
 | none=>exact nsE e
 | some a=>cases e;exact ⟨a,rfl,rfl,rfl⟩
theorem Wf.slot (w:Wf K G H σ ρ T g) {i:Nat} (e:(ρ[i]?).join=some (d,f)):∃ y,g i=some y/\y.d=d/\y.f=f/\σ[i]?=some (some y.v):=by
 have h:=w.sl i
 rw [e] at h
 cases q:g i with
 | none=>rw [q] at h;exact nsE h
 | some y =>
  rw [q] at h
  cases h
  exact ⟨y,rfl,rfl,rfl,w.sv i y q⟩
theorem Ar.item (w:Wf K G H σ ρ T g) (a:Ar σ r v Ts) (l:∀ x ∈ Ts,x ∈ T) (e:der r ρ=some (.ok d,ρ)):∃ y,Itm T g y/\y.d=d/\y.v=v:=by
 cases a with
 | @pl i v h =>
  have k:der (.pl i) ρ=((ρ[i]?).join).map fun p=>(.ok p.1,ρ):=rfl
  rw [k] at e
  cases q:(ρ[i]?).join with
  | none=>rw [q] at e;exact nsE e
  | some p =>
   rw [q] at e
   obtain ⟨y,e1,j,m,b⟩:=w.slot (d:=p.1) (f:=p.2) q
   have c:p.1=d:=by cases e;rfl
   rw [h] at b
   refine ⟨y,.inl ⟨i,e1⟩,j.trans c,?_⟩
   cases b;rfl
 | val x=>cases e;exact ⟨x,.inr (l x (by simp)),rfl,rfl⟩
theorem Wf.done (w:Wf K G H σ ρ (Us ++ T) g) (a:∀ y ∈ ys,Itm (Us ++ T) g y) (n:New K H H' (cC ys) x):Got K G σ ρ T (.val x.d x.f) x.v H' :=
 ⟨[x],g,(w.push n fun c h=>w.kids a h).sub (by simpa using List.Sublist.cons_cons x (Cl Us T)),.val x⟩
theorem tE.seq (le:Le K G W G0 W0) (w:Wf K G H σ ρ T g) (e:ac ma k ρ=some (r,ρ')) (he:∀ x,r=.error x->W x ρ') (h:∀ ra ρ1,k ra ρ1=some (r,ρ')->∀ v H1,Got K G σ ρ1 T ra v H1->P v H1):tE K G0 W0 ma σ H P:=by
 unfold ac at e
 cases q:ma ρ with
 | none=>rw [q] at e;exact nsE e
 | some p =>
  obtain ⟨o,ρ1⟩:=p
  rw [q] at e
  cases o with
  | error x=>cases e;exact ⟨G,W,le,ρ,T,g,.error x,ρ',w,q,he x rfl⟩
  | ok ra=>exact ⟨G,W,le,ρ,T,g,.ok ra,ρ1,w,q,h ra ρ1 e⟩
theorem tT.seq (le:Le K G W G0 W0) (w:Wf K G H σ ρ T g) (e:ac ma k ρ=some (r,ρ')) (he:∀ x,r=.error x->W x ρ') (h:∀ b ρ1,k b ρ1=some (r,ρ')->∀ H1 g1,Wf K G H1 σ ρ1 T g1->P b H1):tT K G0 W0 ma σ H P:=by
 unfold ac at e
 cases q:ma ρ with
 | none=>rw [q] at e;exact nsE e
 | some p =>
  obtain ⟨o,ρ1⟩:=p
  rw [q] at e
  cases o with
  | error x=>cases e;exact ⟨G,W,le,ρ,T,g,.error x,ρ',w,q,he x rfl⟩
  | ok ra=>exact ⟨G,W,le,ρ,T,g,.ok ra,ρ1,w,q,h ra ρ1 e⟩
theorem tA.seq (le:Le K G W G0 W0) (w:Wf K G H σ ρ T g) (e:ac ma k ρ=some (r,ρ')) (he:∀ x,r=.error x->W x ρ') (h:∀ rs ρ1,k rs ρ1=some (r,ρ')->∀ a H1 Ts g1,Wf K G H1 σ ρ1 (Ts ++ T) g1->Ars σ rs a Ts->P a H1):tA K G0 W0 ma σ H P:=by
 unfold ac at e
 cases q:ma ρ with
 | none=>rw [q] at e;exact nsE e
 | some p =>
  obtain ⟨o,ρ1⟩:=p
  rw [q] at e
  cases o with
  | error x=>cases e;exact ⟨G,W,le,ρ,T,g,.error x,ρ',w,q,he x rfl⟩
  | ok ra=>exact ⟨G,W,le,ρ,T,g,.ok ra,ρ1,w,q,h ra ρ1 e⟩
def EndE (K:FG) (G:Gm) (W:D->Sto->Prop) (σ:St) (T:List It3) (ρ':Sto) (Q:VK):Except D R3->Prop
 | .ok r=>∀ v H',Got K G σ ρ' T r v H'->Q v H'
 | .error e=>W e ρ'
theorem EndE.err (h:EndE K G W σ T ρ' Q r):∀ x,r=.error x->W x ρ':=by
 intro x e;subst e;exact h
theorem tE.open (h:tE K G0 W0 m σ H Q):∃ G W,Le K G W G0 W0/\∃ ρ T g r ρ',Wf K G H σ ρ T g/\m ρ=some (r,ρ')/\EndE K G W σ T ρ' Q r:=by
 obtain ⟨G,W,le,ρ,T,g,r,ρ',w,e,q⟩:=h
 refine ⟨G,W,le,ρ,T,g,r,ρ',w,e,?_⟩
 cases r with
 | ok r=>exact q
 | error x=>exact q
theorem tE.use (h:tE K G0 W0 m σ H Q) {P:Prop} (k:∀ G W,Le K G W G0 W0->∀ ρ T g r ρ',Wf K G H σ ρ T g->m ρ=some (r,ρ')->EndE K G W σ T ρ' Q r->P):P:=by
 obtain ⟨G,W,le,ρ,T,g,r,ρ',w,e,q⟩:=h.open
 exact k G W le ρ T g r ρ' w e q
theorem tE.mk (le:Le K G W G0 W0) (w:Wf K G H σ ρ T g) (e:m ρ=some (r,ρ')) (h:EndE K G W σ T ρ' Q r):tE K G0 W0 m σ H Q:=by
 refine ⟨G,W,le,ρ,T,g,r,ρ',w,e,?_⟩
 cases r with
 | ok r=>exact h
 | error x=>exact h
def ab (i:Nat):EM:=fun ρ=>((ρ[i]?).join).map fun _=>(.ok (.pl i),ρ)
theorem zO {i:Nat} (h:tE K G0 W0 (ab i) σ H Q):gh i σ H Q:=by
 refine h.use fun G W le ρ T g r ρ' w e q=>?_
 unfold ab at e
 cases h:(ρ[i]?).join with
 | none=>rw [h] at e;exact nsE e
 | some p =>
  rw [h] at e
  cases e
  obtain ⟨y,_,_,_,a⟩:=w.slot (d:=p.1) (f:=p.2) h
  exact ⟨y.v,a,q y.v H ⟨[],g,w,.pl a⟩⟩
def mC (d:D):EM:=aO (.val d .z)
theorem Wf.const (w:Wf K G H σ ρ T g) (r:Rep K H d v []):Got K G σ ρ T (.val d .z) v H :=
 Wf.done (Us:=[]) (ys:=[]) (x:=⟨d,v,[],.z⟩) w (fun _ h=>(by cases h)) ⟨Same.refl _,r,fun _ h=>(by cases h),fun h=>absurd rfl h⟩
theorem fq (r:∀ H,Rep K H d v []) (h:tE K G0 W0 (mC d) σ H Q):tC v σ H Q:=by
 refine h.use fun G W le ρ T g o ρ' w e q=>?_
 cases e
 exact q v H (w.const (r H))
def ag (f:D->D->Option (D × Fl)) (ma mb:EM):EM:=ac ma fun ra=>ac mb fun rb=>ac (der ra) fun da=>ac (der rb) fun db=>aR ((f da db).map fun p=>R3.val p.1 p.2)
def OpD (K:FG) (r:R2) (f:D->D->Option (D × Fl)):Prop:=∀ (a b:It3) (H:Hp) (Q:VK) (p:D × Fl),Arg K H a->Arg K H b->f a.d b.d=some p ->
 (∀ w H',New K H H' (cC [a,b]) w->w.d=p.1->w.f=p.2->Q w.v H')->r a.v b.v H Q
theorem ly (w:Wf K G H σ ρ (Us ++ T) g) (b:∀ y ∈ ys,Itm (Us ++ T) g y) (q:EndE K G W σ T ρ Q (.ok (.val d f))) :
  ∀ a H',New K H H' (cC ys) a->a.d=d->a.f=f->Q a.v H':=by
 intro a H' n e1 c
 subst e1 c
 exact q a.v H' (w.done b n)
theorem lK (u:OpD K r f) (h:tE K G0 W0 (ag f ma mb) σ H Q):tOp r (tE K G0 W0 ma) (tE K G0 W0 mb) σ H Q:=by
 refine h.use fun G W le ρ T g o ρ' w e q=>?_
 refine tE.seq le w e q.err fun ra ρ1 e1 E H1 ⟨Ts,g1,v,a1⟩=>?_
 refine tE.seq le v e1 q.err fun rb ρ2 B D H2 ⟨Us,g2,a,a2⟩=>?_
 obtain ⟨da,d1,C⟩:=aL B
 obtain ⟨db,t,z⟩:=aL C
 obtain ⟨p,b,rfl,rfl⟩:=bC z
 obtain ⟨n,k,f1,f2⟩:=a1.item a (fun x c=>Cc _ (Ca _ c)) d1
 obtain ⟨m,l,A,f4⟩:=a2.item a (fun x c=>Ca _ c) t
 subst f1 f2 A f4
 cases j:f n.d m.d with
 | none=>rw [j] at b;exact nsE b
 | some s =>
  rw [j] at b
  cases b
  rw [<- List.append_assoc] at a k l
  refine u n m H2 Q s (a.itm k).arg (a.itm l).arg j (ly a (fun y i=>?_) q)
  rcases Cd.mp i with h | i
  ·rw [h];exact k
  ·rw [CG.mp i];exact l
def mUn (f:D->Option (D × Fl)) (ma:EM):EM:=ac ma fun ra=>ac (der ra) fun da=>aR ((f da).map fun p=>R3.val p.1 p.2)
def UnD (K:FG) (r:V->Hp->VK->Prop) (f:D->Option (D × Fl)):Prop:=∀ (a:It3) (H:Hp) (Q:VK) (p:D × Fl),Arg K H a->f a.d=some p ->
 (∀ w H',New K H H' (cC [a]) w->w.d=p.1->w.f=p.2->Q w.v H')->r a.v H Q
theorem yX (l:UnD K r f) (h:tE K G0 W0 (mUn f ma) σ H Q):tUn r (tE K G0 W0 ma) σ H Q:=by
 refine h.use fun G W le ρ T g o ρ' w e q=>?_
 refine tE.seq le w e q.err fun ra ρ1 e1 t H1 ⟨Ts,g1,b,a1⟩=>?_
 obtain ⟨da,d1,n⟩:=aL e1
 obtain ⟨p,a,rfl,rfl⟩:=bC n
 obtain ⟨i,j,f1,f2⟩:=a1.item b (fun x k=>Ca _ k) d1
 subst f1 f2
 cases c:f i.d with
 | none=>rw [c] at a;exact nsE a
 | some s =>
  rw [c] at a
  cases a
  exact l i H1 Q s (b.itm j).arg c (ly b (fun y m=>by rw [CG.mp m];exact j) q)
def ae:M3 (List R3):=aO []
def aa (m:EM) (ms:M3 (List R3)):M3 (List R3):=ac m fun r=>ac ms fun rs=>aO (r :: rs)
def EndA (K:FG) (G:Gm) (W:D->Sto->Prop) (σ:St) (T:List It3) (ρ':Sto) (Q:List V->Hp->Prop):Except D (List R3)->Prop
 | .ok rs=>∀ a H' Ts g',Wf K G H' σ ρ' (Ts ++ T) g'->Ars σ rs a Ts->Q a H'
 | .error e=>W e ρ'
theorem EndA.err (h:EndA K G W σ T ρ' Q r):∀ x,r=.error x->W x ρ':=by
 intro x e;subst e;exact h
theorem tA.open (h:tA K G0 W0 m σ H Q):∃ G W,Le K G W G0 W0/\∃ ρ T g r ρ',Wf K G H σ ρ T g/\m ρ=some (r,ρ')/\EndA K G W σ T ρ' Q r:=by
 obtain ⟨G,W,le,ρ,T,g,r,ρ',w,e,q⟩:=h
 refine ⟨G,W,le,ρ,T,g,r,ρ',w,e,?_⟩
 cases r with
 | ok r=>exact q
 | error x=>exact q
theorem tA.use (h:tA K G0 W0 m σ H Q) {P:Prop} (k:∀ G W,Le K G W G0 W0->∀ ρ T g r ρ',Wf K G H σ ρ T g->m ρ=some (r,ρ')->EndA K G W σ T ρ' Q r->P):P:=by
 obtain ⟨G,W,le,ρ,T,g,r,ρ',w,e,q⟩:=h.open
 exact k G W le ρ T g r ρ' w e q
theorem zV (h:tA K G0 W0 ae σ H Q):tNil σ H Q:=by
 refine h.use fun G W le ρ T g r ρ' w e q=>?_
 cases e
 exact q [] H [] g w .nil
theorem xh (h:tA K G0 W0 (aa m ms) σ H Q):yZ (tE K G0 W0 m) (tA K G0 W0 ms) σ H Q:=by
 refine h.use fun G W le ρ T g r ρ' w e q=>?_
 refine tE.seq le w e q.err fun ra ρ1 e1 c H1 ⟨Ts,g1,b,a1⟩=>?_
 refine tA.seq le b e1 q.err fun rs ρ2 f a H2 Us g2 d a2=>?_
 cases f
 refine q (c :: a) H2 (Us ++ Ts) g2 ?_ (.cons a1 a2)
 rw [List.append_assoc]
 exact d
def cv:List R3->M3 (List D)
 | []=>aO []
 | r :: rs=>ac (der r) fun d=>ac (cv rs) fun ds=>aO (d :: ds)
theorem rG:∀ {rs:List R3} {ρ ρ':Sto} {o:Except D (List D)},cv rs ρ=some (o,ρ')->∃ ds,o=.ok ds/\ρ' = ρ
 | [],ρ,ρ',o,e=>by cases e;exact ⟨[],rfl,rfl⟩
 | r :: rs,ρ,ρ',o,e=>by
  obtain ⟨d,e1,a⟩:=aL (k:=fun d=>ac (cv rs) fun ds=>aO (d :: ds)) e
  unfold ac at a
  cases q:cv rs ρ with
  | none=>rw [q] at a;exact nsE a
  | some p =>
   obtain ⟨o',ρ1⟩:=p
   obtain ⟨ds,rfl,rfl⟩:=rG q
   rw [q] at a
   cases a
   exact ⟨d :: ds,rfl,rfl⟩
theorem bJ (e:ac (cv rs) k ρ=some (o,ρ')):∃ ds,cv rs ρ=some (.ok ds,ρ)/\k ds ρ=some (o,ρ'):=by
 unfold ac at e
 cases q:cv rs ρ with
 | none=>rw [q] at e;exact nsE e
 | some p =>
  obtain ⟨o',ρ1⟩:=p
  obtain ⟨ds,rfl,rfl⟩:=rG q
  rw [q] at e
  exact ⟨ds,rfl,e⟩
theorem Ars.items:∀ {rs:List R3} {c:List V} {Ts:List It3} {ds:List D} ,Wf K G H σ ρ T g->Ars σ rs c Ts->(∀ x ∈ Ts,x ∈ T)->cv rs ρ=some (.ok ds,ρ)->∃ ys:List It3,(∀ y ∈ ys,Itm T g y)/\ys.map (·.d)=ds/\ys.map (·.v)=c
 | [],_,_,ds,w,.nil,_,e=>by cases e;exact ⟨[],fun _ h=>(by cases h),rfl,rfl⟩
 | r :: rs,_,_,ds,w,.cons a as,hs,e=>by
  obtain ⟨d,e1,i⟩:=aL (k:=fun d=>ac (cv rs) fun ds=>aO (d :: ds)) e
  obtain ⟨m,o,l⟩:=bJ i
  cases l
  obtain ⟨y,j,f1,f2⟩:=a.item w (fun x b=>hs x (Cc _ b)) e1
  obtain ⟨ys,n,f,f4⟩:=Ars.items w as (fun x b=>hs x (Ca _ b)) o
  refine ⟨y :: ys,fun z hz=>?_,by simp [f1,f],by simp [f2,f4]⟩
  rcases Cd.mp hz with h | hz
  ·rw [h];exact j
  ·exact n z hz
def ak (f:List D->Option (D × Fl)) (ms:M3 (List R3)):EM:=ac ms fun rs=>ac (cv rs) fun ds=>aR ((f ds).map fun p=>R3.val p.1 p.2)
def dS (K:FG) (r:List V->Hp->VK->Prop) (f:List D->Option (D × Fl)):Prop:=∀ (ys:List It3) (H:Hp) (Q:VK) (p:D × Fl),(∀ y ∈ ys,Arg K H y)->f (ys.map (·.d))=some p ->
 (∀ w H',New K H H' (cC ys) w->w.d=p.1->w.f=p.2->Q w.v H')->r (ys.map (·.v)) H Q
theorem ft (k:dS K r f) (h:tE K G0 W0 (ak f ms) σ H Q):tCB r (tA K G0 W0 ms) σ H Q:=by
 refine h.use fun G W le ρ T g o ρ' w e q=>?_
 refine tA.seq le w e q.err fun rs ρ1 e1 n H1 Ts g1 b a1=>?_
 obtain ⟨ds,d1,m⟩:=bJ e1
 obtain ⟨p,a,rfl,rfl⟩:=bC m
 obtain ⟨ys,i,f1,f2⟩:=a1.items b (fun x j=>Ca _ j) d1
 subst f1 f2
 cases c:f (ys.map (·.d)) with
 | none=>rw [c] at a;exact nsE a
 | some s =>
  rw [c] at a
  cases a
  exact k ys H1 Q s (fun y l=>(b.itm (i y l)).arg) c (ly b i q)
def asB:D->Option Bool
 | .bl b=>some b
 | _=>none
def eR (ma mb:EM):EM:=ac ma fun ra=>ac (der ra) fun d=>ac (aR (asB d)) fun b=>if b then mb else aO (.val (.bl false) .z)
def mOr (ma mb:EM):EM:=ac ma fun ra=>ac (der ra) fun d=>ac (aR (asB d)) fun b=>if b then aO (.val (.bl true) .z) else mb
def og (ma:EM):EM:=ac ma fun ra=>ac (der ra) fun d=>ac (aR (asB d)) fun b=>aO (.val (.bl (!b)) .z)
theorem i5 (e:ac (aR o) k ρ=some (r,ρ')):∃ a,o=some a/\k a ρ=some (r,ρ'):=by
 unfold ac aR at e
 cases o with
 | none=>exact nsE e
 | some a=>exact ⟨a,rfl,e⟩
theorem wF (e:asB d=some b):d=.bl b:=by
 cases d <;> first | exact nsE e | cases e
 rfl
theorem Rep.bl_eq (r:Rep K H (.bl b) v L):v=.bl b/\L=[]:=by cases r;exact ⟨rfl,rfl⟩
theorem Ar.bool (w:Wf K G H σ ρ (Ts ++ T) g) (a:Ar σ ra v Ts) (e:der ra ρ=some (.ok d,ρ)) (h:asB d=some b):v=.bl b:=by
 obtain ⟨y,f,f1,f2⟩:=a.item w (fun x c=>Ca _ c) e
 have r:=(w.itm f).rep
 rw [f1,wF h] at r
 rw [<- f2]
 exact r.bl_eq.1
theorem zT (h:tE K G0 W0 (eR ma mb) σ H Q):y7 (tE K G0 W0 ma) (tE K G0 W0 mb) σ H Q:=by
 refine h.use fun G W le ρ T g o ρ' w e q=>?_
 refine tE.seq le w e q.err fun ra ρ1 e1 k H1 ⟨Ts,g1,a,a1⟩=>?_
 obtain ⟨d,d1,j⟩:=aL e1
 obtain ⟨b,i,f⟩:=i5 j
 refine ⟨b,a1.bool a d1 i,?_⟩
 have c:=a.sub (Cl Ts T)
 cases b with
 | true=>exact tE.mk le c f q
 | false=>cases f;exact q _ _ (c.const (.bl false))
theorem zQ (h:tE K G0 W0 (og ma) σ H Q):yV (tE K G0 W0 ma) σ H Q:=by
 refine h.use fun G W le ρ T g o ρ' w e q=>?_
 refine tE.seq le w e q.err fun ra ρ1 e1 k H1 ⟨Ts,g1,a,a1⟩=>?_
 obtain ⟨d,d1,i⟩:=aL e1
 obtain ⟨b,f,j⟩:=i5 i
 refine ⟨b,a1.bool a d1 f,?_⟩
 have c:=a.sub (Cl Ts T)
 cases j;exact q _ _ (c.const (.bl (!b)))
def EndT (K:FG) (G:Gm) (W:D->Sto->Prop) (σ:St) (T:List It3) (ρ':Sto) (Q:Bool->Hp->Prop):Except D Bool->Prop
 | .ok b=>∀ H' g',Wf K G H' σ ρ' T g'->Q b H'
 | .error e=>W e ρ'
theorem EndT.err (h:EndT K G W σ T ρ' Q r):∀ x,r=.error x->W x ρ':=by
 intro x e;subst e;exact h
theorem tT.open (h:tT K G0 W0 m σ H Q):∃ G W,Le K G W G0 W0/\∃ ρ T g r ρ',Wf K G H σ ρ T g/\m ρ=some (r,ρ')/\EndT K G W σ T ρ' Q r:=by
 obtain ⟨G,W,le,ρ,T,g,r,ρ',w,e,q⟩:=h
 refine ⟨G,W,le,ρ,T,g,r,ρ',w,e,?_⟩
 cases r with
 | ok r=>exact q
 | error x=>exact q
theorem tT.use (h:tT K G0 W0 m σ H Q) {P:Prop} (k:∀ G W,Le K G W G0 W0->∀ ρ T g r ρ',Wf K G H σ ρ T g->m ρ=some (r,ρ')->EndT K G W σ T ρ' Q r->P):P:=by
 obtain ⟨G,W,le,ρ,T,g,r,ρ',w,e,q⟩:=h.open
 exact k G W le ρ T g r ρ' w e q
theorem tT.mk (le:Le K G W G0 W0) (w:Wf K G H σ ρ T g) (e:m ρ=some (r,ρ')) (h:EndT K G W σ T ρ' Q r):tT K G0 W0 m σ H Q:=by
 refine ⟨G,W,le,ρ,T,g,r,ρ',w,e,?_⟩
 cases r with
 | ok r=>exact h
 | error x=>exact h
def cB (m:EM):M3 Bool:=ac m fun r=>ac (der r) fun d=>aR (asB d)
theorem tT_b (h:tT K G0 W0 (cB m) σ H Q):tB (tE K G0 W0 m) σ H Q:=by
 refine h.use fun G W le ρ T g o ρ' w e q=>?_
 refine tE.seq le w e q.err fun ra ρ1 e1 i H1 ⟨Ts,g1,a,a1⟩=>?_
 obtain ⟨d,d1,f⟩:=aL e1
 obtain ⟨b,c,rfl,rfl⟩:=bC f
 exact ⟨b,a1.bool a d1 c,q _ _ (a.sub (Cl Ts T))⟩
def kA (a b:M3 Bool):M3 Bool:=ac a fun c=>if c then b else aO false
def cOr (a b:M3 Bool):M3 Bool:=ac a fun c=>if c then aO true else b
def dJ (a:M3 Bool):M3 Bool:=ac a fun c=>aO (!c)
theorem zE (h:tT K G0 W0 (kA a b) σ H Q):tAnd (tT K G0 W0 a) (tT K G0 W0 b) σ H Q:=by
 refine h.use fun G W le ρ T g o ρ' w e q=>?_
 refine tT.seq le w e q.err fun c ρ1 e1 H1 g1 d=>?_
 cases c with
 | true=>exact tT.mk le d e1 q
 | false=>cases e1;exact q _ _ d
theorem tT_or (h:tT K G0 W0 (cOr a b) σ H Q):tOr (tT K G0 W0 a) (tT K G0 W0 b) σ H Q:=by
 refine h.use fun G W le ρ T g o ρ' w e q=>?_
 refine tT.seq le w e q.err fun c ρ1 e1 H1 g1 d=>?_
 cases c with
 | false=>exact tT.mk le d e1 q
 | true=>cases e1;exact q _ _ d
theorem zD (h:tT K G0 W0 (dJ a) σ H Q):tNot (tT K G0 W0 a) σ H Q:=by
 refine h.use fun G W le ρ T g o ρ' w e q=>?_
 refine tT.seq le w e q.err fun c ρ1 e1 H1 g1 b=>?_
 cases e1;exact q _ _ b
def mIf (c:M3 Bool) (ma mb:EM):EM:=ac c fun b=>if b then ma else mb
theorem tE_if (h:tE K G0 W0 (mIf c ma mb) σ H Q):tIf (tT K G0 W0 c) (tE K G0 W0 ma) (tE K G0 W0 mb) σ H Q:=by
 refine h.use fun G W le ρ T g o ρ' w e q=>?_
 refine tT.seq le w e q.err fun c ρ1 e1 H1 g1 a=>?_
 cases c with
 | true=>exact tE.mk le a e1 q
 | false=>exact tE.mk le a e1 q
end
end L3
end
section
namespace L3
open PySem L2
def b7 (x:It3):It3:={ x with f:=.z }
theorem cn:NoRoot (b7 x) y:=fun h=>absurd rfl h
def lowAt (i:Nat) (ρ:Sto):Sto:=match (ρ[i]?).join with
 | some (d,.u)=>ρ.set i (some (d,.z))
 | some (d,.l)=>ρ.set i (some (d,.z))
 | _=>ρ
noncomputable def frz (is:List Nat) (ρ:Sto):Sto:=is.foldl (fun ρ i=>lowAt i ρ) ρ
def sZ (is:List Nat):M3 Unit:=fun ρ=>some (.ok (),frz is ρ)
def pls:List R3->List Nat
 | []=>[]
 | .pl i :: rs=>i :: pls rs
 | .val _ _ :: rs=>pls rs
section
variable {K:FG} {G G0:Gm} {W W0:D->Sto->Prop} {H H':Hp} {σ:St} {ρ ρ':Sto} {T T':List It3} {g:Nat->Option It3} {x y z:It3} {α β:Type}
theorem ItOk.low (h:ItOk K G H x):ItOk K G H (b7 x):=⟨h.rep,fun q=>absurd rfl q,h.src⟩
theorem bF {i j:Nat} (hi:i < ρ.length):((ρ.set i o)[j]?).join=if j=i then o else (ρ[j]?).join:=by
 by_cases e:j=i
 ·subst e
  rw [if_pos rfl,List.getElem?_set_self hi]
  rfl
 ·rw [if_neg e,List.getElem?_set_ne (fun h=>e h.symm)]
theorem de {i:Nat} (h:(ρ[i]?).join=some p):i < ρ.length:=by
 cases q:ρ[i]? with
 | none=>rw [q] at h;exact nsE h
 | some o=>exact (Cj.mp q).1
theorem Wf.lowSlot (w:Wf K G H σ ρ T g) {i:Nat} (e:(ρ[i]?).join=some (d,f)):Wf K G H σ (ρ.set i (some (d,.z))) T (fun j=>if j=i then (g i).map b7 else g j):=by
 have hi:=de e
 obtain ⟨y,u,C,E,ev⟩:=w.slot e
 have val:∀ j x,(if j=i then (g i).map b7 else g j)=some x->∃ x0,g j=some x0/\(x=x0\/x=b7 x0)/\(j=i->x=b7 x0):=fun j x h=>by
  by_cases q:j=i
  ·subst q
   rw [if_pos rfl,u] at h
   cases h
   exact ⟨y,u,.inr rfl,fun _=>rfl⟩
  ·rw [if_neg q] at h
   exact ⟨x,h,.inl rfl,fun z=>absurd z q⟩
 have s:∀ {a b:It3},NoRoot a b->∀ m l,(m=a\/m=b7 a)->(l=b\/l=b7 b)->NoRoot m l:=fun h m l h1 h2=>by
  rcases h1 with rfl | rfl
  ·rcases h2 with rfl | rfl
   ·exact h
   ·exact h
  ·exact cn
 refine ⟨by rw [List.length_set];exact w.len,fun j=>?_,fun j x h=>?_,fun j x h=>?_,w.okT,fun j k a b n h1 h2=>?_,fun j a h b r=>?_,w.tt,w.base,w.pro,⟨w.fx.frT,fun j x h D hf a B=>?_,w.fx.bin,w.fx.ob,fun j x h v=>?_⟩⟩
 ·rw [bF hi]
  by_cases q:j=i
  ·subst q
   rw [if_pos rfl,if_pos rfl,u]
   show some ((b7 y).d,Fl.z)=_
   rw [<- C];rfl
  ·rw [if_neg q,if_neg q];exact w.sl j
 ·obtain ⟨x0,h0,c,_⟩:=val j x h
  have:=w.sv j x0 h0
  rcases c with rfl | rfl <;> exact this
 ·obtain ⟨x0,h0,c,_⟩:=val j x h
  rcases c with rfl | rfl
  ·exact w.okS j x h0
  ·exact (w.okS j x0 h0).low
 ·obtain ⟨o,h0,p,_⟩:=val j a h1
  obtain ⟨A,t,r,_⟩:=val k b h2
  exact s (w.ss j k o A n h0 t) a b p r
 ·obtain ⟨o,h0,p,_⟩:=val j a h
  exact ⟨s (w.st j o h0 b r).1 a b p (.inl rfl),s (w.st j o h0 b r).2 b a (.inl rfl) p⟩
 ·obtain ⟨x0,h0,c,_⟩:=val j x h
  rcases c with rfl | rfl
  ·exact w.fx.frS j x h0 D hf a B
  ·exact absurd rfl hf
 ·obtain ⟨x0,h0,c,_⟩:=val j x h
  rcases c with rfl | rfl
  ·exact w.fx.lvS j x h0 v
  ·cases v
def Kin (x y:It3):Prop:=y.d=x.d/\y.v=x.v/\y.L=x.L/\(y.f=x.f\/y.f=.z)
theorem Kin.refl (x:It3):Kin x x:=⟨rfl,rfl,rfl,.inl rfl⟩
theorem Kin.trans (a:Kin x y) (b:Kin y z):Kin x z:=⟨b.1.trans a.1,b.2.1.trans a.2.1,b.2.2.1.trans a.2.2.1,by
 rcases b.2.2.2 with h | h
 ·rcases a.2.2.2 with h' | h'
  ·exact .inl (h.trans h')
  ·exact .inr (h.trans h')
 ·exact .inr h⟩
theorem Wf.lowAt {i:Nat} (w:Wf K G H σ ρ T g):∃ g',Wf K G H σ (lowAt i ρ) T g'/\(∀ j y,g j=some y->∃ a,g' j=some a/\Kin y a/\(j=i->a.f=.z)):=by
 have keep:∀ d,(ρ[i]?).join=some (d,.z)->∃ g',Wf K G H σ ρ T g'/\(∀ j y,g j=some y->∃ a,g' j=some a/\Kin y a/\(j=i->a.f=.z)):=fun d e=>⟨g,w,fun j y h=>⟨y,h,Kin.refl y,fun q=>by
  subst q
  obtain ⟨a,h',_,hf,_⟩:=w.slot e
  rw [h] at h';cases h';exact hf⟩⟩
 have low:∀ d f,(ρ[i]?).join=some (d,f)->∃ g',Wf K G H σ (ρ.set i (some (d,.z))) T g'/\(∀ j y,g j=some y->∃ a,g' j=some a/\Kin y a/\(j=i->a.f=.z)):=fun d f e=>⟨_,w.lowSlot e,fun j y h=>by
  by_cases q:j=i
  ·subst q;exact ⟨b7 y,by rw [if_pos rfl,h];rfl,⟨rfl,rfl,rfl,.inr rfl⟩,fun _=>rfl⟩
  ·exact ⟨y,by rw [if_neg q];exact h,Kin.refl y,fun z=>absurd z q⟩⟩
 unfold L3.lowAt
 cases e:(ρ[i]?).join with
 | none =>
  refine ⟨g,w,fun j y h=>⟨y,h,Kin.refl y,fun q=>?_⟩⟩
  subst q
  have:=w.sl j
  rw [h,e] at this;cases this
 | some p =>
  obtain ⟨d,f⟩:=p
  cases f with
  | u=>exact low d _ e
  | l=>exact low d _ e
  | z=>exact keep d e
theorem Wf.frz:∀ {is:List Nat} {ρ:Sto} {g:Nat->Option It3},Wf K G H σ ρ T g->∃ g',Wf K G H σ (frz is ρ) T g'/\(∀ j y,g j=some y->∃ a,g' j=some a/\Kin y a/\(j ∈ is->a.f=.z))
 | [],ρ,g,w=>⟨g,w,fun j y h=>⟨y,h,Kin.refl y,fun q=>by cases q⟩⟩
 | i :: is,ρ,g,w=>by
  obtain ⟨g1,d,h1⟩:=w.lowAt (i:=i)
  obtain ⟨g2,k,h2⟩:=Wf.frz (is:=is) d
  refine ⟨g2,k,fun j y h=>?_⟩
  obtain ⟨l,e1,e,n⟩:=h1 j y h
  obtain ⟨c,o,b,m⟩:=h2 j l e1
  refine ⟨c,o,e.trans b,fun hm=>?_⟩
  rcases Cd.mp hm with q | q
  ·rcases b.2.2.2 with h | h
   ·exact h.trans (n q)
   ·exact h
  ·exact m q
theorem Wf.lowT (w:Wf K G H σ ρ (Ts ++ T) g):Wf K G H σ ρ (Ts.map b7 ++ T) g:=by
 have sp:∀ {a b:It3},Apart3 a b->Apart3 (b7 a) (b7 b):=fun h=>⟨cn,cn⟩
 refine ⟨w.len,w.sl,w.sv,w.okS,fun x c=>?_,w.ss,fun i x e y d=>?_,?_,w.base,w.pro,⟨fun x c hf a j=>?_,w.fx.frS,w.fx.bin,w.fx.ob,w.fx.lvS⟩⟩
 ·rcases Cg.mp c with h | h
  ·obtain ⟨x0,h0,rfl⟩:=Cm.mp h
   exact (w.okT x0 (Ca _ h0)).low
  ·exact w.okT x (Cc _ h)
 ·rcases Cg.mp d with h | h
  ·obtain ⟨y0,h0,rfl⟩:=Cm.mp h
   exact ⟨(w.st i x e y0 (Ca _ h0)).1,cn⟩
  ·exact w.st i x e y (Cc _ h)
 ·have h:=List.pairwise_append.mp w.tt
  refine List.pairwise_append.mpr ⟨?_,h.2.1,fun a k b l=>?_⟩
  ·rw [List.pairwise_map]
   exact h.1.imp fun h=>sp h
  ·obtain ⟨f,h0,rfl⟩:=Cm.mp k
   exact ⟨cn,(h.2.2 f h0 b l).2⟩
 ·rcases Cg.mp c with h | h
  ·obtain ⟨x0,h0,rfl⟩:=Cm.mp h
   exact absurd rfl hf
  ·exact w.fx.frT x (Cc _ h) hf a j
theorem jP:∀ {rs:List R3} {i:Nat},R3.pl i ∈ rs->i ∈ pls rs
 | [],_,h=>by cases h
 | .pl j :: rs,i,h=>by
  rcases Cd.mp h with e | h
  ·cases e;exact B6
  ·exact B7 _ (jP h)
 | .val _ _ :: rs,i,h=>by
  rcases Cd.mp h with e | h
  ·cases e
  ·exact jP (rs:=rs) h
theorem Ars.given:∀ {rs:List R3} {l:List V} {Ts:List It3} {ds:List D} {S:List It3} {g':Nat->Option It3} {is:List Nat},Wf K G H σ ρ T g->(∀ j y,g j=some y->∃ b,g' j=some b/\Kin y b/\(j ∈ is->b.f=.z))->(∀ i,R3.pl i ∈ rs->i ∈ is) ->
  Ars σ rs l Ts->(∀ x ∈ Ts,x ∈ T)->(∀ x ∈ Ts,b7 x ∈ S)->cv rs ρ=some (.ok ds,ρ)->∃ ys:List It3,(∀ y ∈ ys,Itm S g' y/\y.f=.z)/\ys.map (·.d)=ds/\ys.map (·.v)=l
 | [],_,_,ds,S,g',is,w,hg,hi,.nil,_,_,e=>by cases e;exact ⟨[],fun _ h=>(by cases h),rfl,rfl⟩
 | r :: rs,_,_,ds,S,g',is,w,hg,hi,.cons (v:=v0) a as,hs,hS,e=>by
  obtain ⟨d,e1,F⟩:=aL (k:=fun d=>ac (cv rs) fun ds=>aO (d :: ds)) e
  obtain ⟨B,I,u⟩:=bJ F
  cases u
  obtain ⟨ys,A,C,f4⟩:=Ars.given w hg (fun i h=>hi i (B7 _ h)) as (fun x c=>hs x (Ca _ c)) (fun x c=>hS x (Ca _ c)) I
  have one:∃ y,(Itm S g' y/\y.f=.z)/\y.d=d/\y.v=v0:=by
   cases a with
   | @pl i v h =>
    have o:der (.pl i) ρ=((ρ[i]?).join).map fun p=>(.ok p.1,ρ):=rfl
    rw [o] at e1
    cases q:(ρ[i]?).join with
    | none=>rw [q] at e1;exact nsE e1
    | some p =>
     rw [q] at e1
     obtain ⟨y,s,n,J,m⟩:=w.slot (d:=p.1) (f:=p.2) q
     obtain ⟨b,h1,h2,h3⟩:=hg i y s
     have E:p.1=d:=by cases e1;rfl
     rw [h] at m
     refine ⟨b,⟨.inl ⟨i,h1⟩,h3 (hi i B6)⟩,h2.1.trans (n.trans E),?_⟩
     rw [h2.2.1];cases m;rfl
   | val x=>cases e1;exact ⟨b7 x,⟨.inr (hS x (by simp)),rfl⟩,rfl,rfl⟩
  obtain ⟨y,t,f1,f2⟩:=one
  refine ⟨y :: ys,fun z hz=>?_,by simp [f1,C],by simp [f2,f4]⟩
  rcases Cd.mp hz with h | hz
  ·rw [h];exact t
  ·exact A z hz
def cW (ys:List It3) (c:Addr):Prop:=∃ y ∈ ys,c ∈ y.L
def gives (rs:List R3):M3 (List D):=ac (cv rs) fun ds=>ac (sZ (pls rs)) fun _=>aO ds
theorem Ars.gives (w:Wf K G H σ ρ (Ts ++ T) g) (a:Ars σ rs vs Ts) (e:ac (gives rs) k ρ=some (r,ρ')) :
  ∃ ds ρ1 g1,k ds ρ1=some (r,ρ')/\ρ1=frz (pls rs) ρ/\Wf K G H σ ρ1 (Ts.map b7 ++ T) g1/\(∀ j y,g j=some y->∃ c,g1 j=some c/\Kin y c)/\∃ ys:List It3,(∀ y ∈ ys,Itm (Ts.map b7 ++ T) g1 y/\y.f=.z)/\ys.map (·.d)=ds/\ys.map (·.v)=vs:=by
 unfold L3.gives at e
 have m:ac (cv rs) (fun ds=>ac (sZ (pls rs)) fun _=>k ds) ρ=some (r,ρ'):=by
  rw [<- e]
  unfold ac
  cases q:cv rs ρ with
  | none=>rfl
  | some p =>
   obtain ⟨o,ρ2⟩:=p
   cases o with
   | error x=>rfl
   | ok ds=>rfl
 obtain ⟨ds,d1,e1⟩:=bJ m
 obtain ⟨g1,n,h1⟩:=Wf.frz (is:=pls rs) w
 refine ⟨ds,L3.frz (pls rs) ρ,g1,e1,rfl,n.lowT,fun j y h=>let ⟨c,a,b,_⟩:=h1 j y h;⟨c,a,b⟩,?_⟩
 exact Ars.given w h1 (fun i h=>jP h) a (fun x l=>Ca _ l) (fun x l=>Ca _ (Cm.mpr ⟨x,l,rfl⟩)) d1
theorem Wf.alls (w:Wf K G H σ ρ T g) (a:∀ y ∈ ys,Itm T g y/\y.f=.z) (h:cW ys c):df T g c/\(G.H0 c=none\/G.src c):=by
 obtain ⟨y,m,b⟩:=h
 exact ⟨w.kid (a y m).1 b fun hf=>absurd (a y m).2 hf,(w.itm (a y m).1).src c b⟩
theorem Wf.doneA (w:Wf K G H σ ρ (Us ++ T) g) (a:∀ y ∈ ys,Itm (Us ++ T) g y/\y.f=.z) (n:New K H H' (cW ys) x):Got K G σ ρ T (.val x.d x.f) x.v H' :=
 ⟨[x],g,(w.push n fun c h=>w.alls a h).sub (by simpa using List.Sublist.cons_cons x (Cl Us T)),.val x⟩
theorem jM:∀ {ys:List It3},(∀ y ∈ ys,Rep K H y.d y.v y.L)->Reps (Rep K H) (ys.map (·.d)) (ys.map (·.v)) (ys.map (·.L)).flatten
 | [],_=>.nil
 | y :: ys,h=>.cons (h y B6) (jM fun z hz=>h z (B7 _ hz))
theorem d8 (h:c ∈ (ys.map (·.L)).flatten):cW ys c:=by
 obtain ⟨l,b,a⟩:=List.mem_flatten.mp h
 obtain ⟨y,d,rfl⟩:=Cm.mp b
 exact ⟨y,d,a⟩
noncomputable def n9 (mk:List D->D) (f:Fl) (ms:M3 (List R3)):EM:=ac ms fun rs=>ac (gives rs) fun ds=>aR (if ds.length<=16777216 then some (.val (mk ds) f) else none)
abbrev bD:M3 (List R3)->EM:=n9 .tup .z
abbrev dI:M3 (List R3)->EM:=n9 .lst .u
theorem bj (h:H p=none):Same H (upd H p o):=fun b u e=>by
 rw [au (aP e h)];exact e
theorem zP (hz:(16777216:Nat)=sizeLine) (h:tE K G0 W0 (bD ms) σ H Q):tTup (tA K G0 W0 ms) σ H Q:=by
 refine h.use fun G W le ρ T g o ρ' w e q=>?_
 refine tA.seq le w e q.err fun rs ρ1 e1 r H1 Ts g1 k a1=>?_
 obtain ⟨ds,ρ2,g2,n,_,i,_,ys,f,f1,f2⟩:=a1.gives k e1
 obtain ⟨v,b,rfl,rfl⟩:=bC n
 subst f1 f2
 split at b
 ·rename_i l
  cases b
  refine ⟨by rw [Ci] at l ⊢;omega,fun p j=>?_⟩
  refine q _ _ (Wf.doneA (x:=⟨.tup (ys.map (·.d)),.ref p,(ys.map (·.L)).flatten,.z⟩) i f ⟨bj j,.tup aC ((jM fun y a=>(i.itm (f y a).1).rep).same (bj j)),fun c m=>.inr (d8 m),fun hf=>absurd rfl hf⟩)
 ·exact nsE b
theorem zS (hz:(16777216:Nat)=sizeLine) (h:tE K G0 W0 (dI ms) σ H Q):tLst (tA K G0 W0 ms) σ H Q:=by
 refine h.use fun G W le ρ T g o ρ' w e q=>?_
 refine tA.seq le w e q.err fun rs ρ1 e1 s H1 Ts g1 m a1=>?_
 obtain ⟨ds,ρ2,g2,r,_,i,_,ys,f,f1,f2⟩:=a1.gives m e1
 obtain ⟨v,k,rfl,rfl⟩:=bC r
 subst f1 f2
 split at k
 ·rename_i n
  cases k
  refine ⟨by rw [Ci] at n ⊢;omega,fun p b=>?_⟩
  have np:p ∉ (ys.map (·.L)).flatten:=fun a=>by
   obtain ⟨y,hm,a⟩:=d8 a
   obtain ⟨o,l⟩:=((i.itm (f y hm).1).rep.inH p a).ex
   rw [b] at l;exact nsE l
  refine q _ _ (Wf.doneA (x:=⟨.lst (ys.map (·.d)),.ref p,p :: (ys.map (·.L)).flatten,.u⟩) i f ⟨bj b,.lst aC ((jM fun y j=>(i.itm (f y j).1).rep).same (bj b)),fun c a=>?_,fun _=>⟨rfl,p,_,rfl,rfl,np,b⟩⟩)
  rcases Cd.mp a with e | a
  ·rw [e];exact .inl b
  ·exact .inr (d8 a)
 ·exact nsE k
end
end L3
end
section
namespace L3
open PySem L2
section
variable {K:FG} {G G0:Gm} {W W0:D->Sto->Prop} {H H':Hp} {σ:St} {ρ ρ':Sto} {T T':List It3} {g:Nat->Option It3} {x y z:It3} {α β:Type}
def EndS (K:FG) (G:Gm) (W:D->Sto->Prop) (T:List It3) (ρ':Sto) (E:Ends):Except D Flw->Prop
 | .ok .nx=>∀ σ' H' g',Wf K G H' σ' ρ' T g'->E.nx σ' H'
 | .ok .br=>∀ σ' H' g',Wf K G H' σ' ρ' T g'->E.bk σ' H'
 | .ok .ct=>∀ σ' H' g',Wf K G H' σ' ρ' T g'->E.ct σ' H'
 | .ok (.rt d f)=>∀ x σ' H' g',Wf K G H' σ' ρ' (x :: T) g'->x.d=d->x.f=f->E.rt x.v H'
 | .error e=>W e ρ'
theorem EndS.err (h:EndS K G W T ρ' E r):∀ x,r=.error x->W x ρ':=by
 intro x e;subst e;exact h
theorem tS.open (h:tS K G0 W0 m E σ H):∃ G W,Le K G W G0 W0/\∃ ρ T g r ρ',Wf K G H σ ρ T g/\m ρ=some (r,ρ')/\EndS K G W T ρ' E r:=by
 obtain ⟨G,W,le,ρ,T,g,r,ρ',w,e,q⟩:=h
 refine ⟨G,W,le,ρ,T,g,r,ρ',w,e,?_⟩
 cases r with
 | ok r=>cases r <;> exact q
 | error x=>exact q
theorem tS.use (h:tS K G0 W0 m E σ H) {P:Prop} (k:∀ G W,Le K G W G0 W0->∀ ρ T g r ρ',Wf K G H σ ρ T g->m ρ=some (r,ρ')->EndS K G W T ρ' E r->P):P:=by
 obtain ⟨G,W,le,ρ,T,g,r,ρ',w,e,q⟩:=h.open
 exact k G W le ρ T g r ρ' w e q
theorem tS.mk (le:Le K G W G0 W0) (w:Wf K G H σ ρ T g) (e:m ρ=some (r,ρ')) (h:EndS K G W T ρ' E r):tS K G0 W0 m E σ H:=by
 refine ⟨G,W,le,ρ,T,g,r,ρ',w,e,?_⟩
 cases r with
 | ok r=>cases r <;> exact h
 | error x=>exact h
def dm:SM:=aO .nx
noncomputable def aD (a b:SM):SM:=ac a fun f=>match f with
 | .nx=>b
 | o=>aO o
theorem zJ (h:tS K G0 W0 dm E σ H):yW E σ H:=by
 refine h.use fun G W le ρ T g r ρ' w e q=>?_
 cases e
 exact q _ _ _ w
theorem zH (h:tS K G0 W0 (aD a b) E σ H):tSeq (tS K G0 W0 a) (tS K G0 W0 b) E σ H:=by
 refine h.use fun G W le ρ T g r ρ' w e q=>?_
 unfold aD ac at e
 cases p:a ρ with
 | none=>rw [p] at e;exact nsE e
 | some p' =>
  obtain ⟨o,ρ1⟩:=p'
  rw [p] at e
  cases o with
  | error x=>cases e;exact tS.mk le w p q
  | ok f =>
   cases f with
   | nx=>exact tS.mk le (r:=.ok .nx) w p fun σ' H' g' c=>tS.mk le c e q
   | br=>cases e;exact tS.mk le w p q
   | ct=>cases e;exact tS.mk le w p q
   | rt d f=>cases e;exact tS.mk le w p q
def fc (m:EM):SM:=ac m fun _=>aO .nx
theorem wU (h:tS K G0 W0 (fc m) E σ H):yY (tE K G0 W0 m) E σ H:=by
 refine h.use fun G W le ρ T g r ρ' w e q=>?_
 refine tE.seq le w e q.err fun ra ρ1 e1 v H1 ⟨Ts,g1,a,a1⟩=>?_
 cases e1
 exact q _ _ _ (a.sub (Cl Ts T))
def sIf (c:M3 Bool) (a b:SM):SM:=ac c fun t=>if t then a else b
theorem tS_if (h:tS K G0 W0 (sIf c a b) E σ H):tIfS (tT K G0 W0 c) (tS K G0 W0 a) (tS K G0 W0 b) E σ H:=by
 refine h.use fun G W le ρ T g r ρ' w e q=>?_
 refine tT.seq le w e q.err fun t ρ1 e1 H1 g1 d=>?_
 cases t with
 | true=>exact tS.mk le d e1 q
 | false=>exact tS.mk le d e1 q
def nol:Fl->Fl
 | .u=>.u
 | _=>.z
theorem Bh (f:Fl):nol f ≠ .l:=by cases f <;> intro h <;> cases h
theorem Bg (f:Fl):nol f=f\/nol f=.z:=by cases f <;> first | exact .inl rfl | exact .inr rfl
noncomputable def cw (r:R3):M3 (D × Fl):=match r with
 | .val d f=>aO (d,nol f)
 | .pl i=>fun ρ=>((ρ[i]?).join).map fun p=>(.ok (p.1,.z),lowAt i ρ)
theorem mV {i:Nat}:cw (.pl i) ρ=((ρ[i]?).join).map fun p=>(.ok (p.1,.z),lowAt i ρ):=rfl
theorem Ar.val_inv (a:Ar σ (.val d f) v Ts):∃ x,Ts=[x]/\x.d=d/\x.f=f/\x.v=v:=by
 generalize h:R3.val d f=r at a
 cases a with
 | pl _=>cases h
 | val x=>cases h;exact ⟨x,rfl,rfl,rfl,rfl⟩
theorem Ar.take (w:Wf K G H σ ρ (Ts ++ T) g) (a:Ar σ r v Ts) (e:ac (cw r) k ρ=some (o,ρ')) :
  ∃ p ρ1 g1 x,k p ρ1=some (o,ρ')/\Wf K G H σ ρ1 (x :: T) g1/\x.d=p.1/\(p.2=x.f\/p.2=.z)/\p.2 ≠ .l/\x.v=v:=by
 cases a with
 | val x=>exact ⟨(x.d,nol x.f),ρ,g,x,e,w,rfl,Bg _,Bh _,rfl⟩
 | @pl i v h =>
  unfold ac at e
  rw [mV] at e
  cases q:(ρ[i]?).join with
  | none=>rw [q] at e;exact nsE e
  | some p =>
   rw [q] at e
   obtain ⟨y,F,C,J,A⟩:=w.slot (d:=p.1) (f:=p.2) q
   obtain ⟨g1,b,h1⟩:=w.lowAt (i:=i)
   obtain ⟨c,m,B,I⟩:=h1 i y F
   have hz:=I rfl
   refine ⟨(p.1,.z),_,g1,c,e,?_,B.1.trans C,.inr rfl,(by intro h;cases h),?_⟩
   ·have s:∀ u:It3,NoRoot c u:=fun u hf=>absurd hz hf
    refine ⟨b.len,b.sl,b.sv,b.okS,fun u hu=>?_,b.ss,fun j u n D hu=>?_,?_,b.base,b.pro,⟨fun u hu hf a E=>?_,b.fx.frS,b.fx.bin,b.fx.ob,b.fx.lvS⟩⟩
    ·rcases Cd.mp hu with h | hu
     ·rw [h];exact b.okS i c m
     ·exact b.okT u hu
    ·rcases Cd.mp hu with h | hu
     ·rw [h]
      refine ⟨?_,s _⟩
      by_cases t:j=i
      ·subst t
       rw [m] at n;cases n
       exact s _
      ·exact b.ss j i u c t n m
     ·exact b.st j u n D hu
    ·exact List.pairwise_cons.mpr ⟨fun u hu=>⟨s _,(b.st i c m u hu).2⟩,b.tt⟩
    ·rcases Cd.mp hu with h | hu
     ·rw [h] at hf;exact absurd hz hf
     ·exact b.fx.frT u hu hf a E
   ·rw [B.2.1]
    rw [h] at A;cases A;rfl
theorem Wf.store {i:Nat} (w:Wf K G H σ ρ (x :: T) g) (hi:i < ρ.length) (L:G.pr i=false) (hf:f=x.f\/f=.z) (t:f ≠ .l) :
  Wf K G H (σ.set i (some x.v)) (ρ.set i (some (x.d,f))) T (fun j=>if j=i then some { x with f:=f } else g j):=by
 have B:i < σ.length:=by rw [w.len];exact hi
 have s:=List.pairwise_cons.mp w.tt
 have y:=w.okT x B6
 have nx:∀ u:It3,NoRoot x u->NoRoot { x with f:=f } u:=fun u h q=>by
  rcases hf with e | e
  ·exact h (by rw [<- e];exact q)
  ·exact absurd e q
 have val:∀ j u,(if j=i then some { x with f:=f } else g j)=some u->(j=i/\u = { x with f:=f })\/(j ≠ i/\g j=some u):=fun j u h=>by
  by_cases q:j=i
  ·rw [if_pos q] at h;cases h;exact .inl ⟨q,rfl⟩
  ·rw [if_neg q] at h;exact .inr ⟨q,h⟩
 refine ⟨by rw [List.length_set,List.length_set];exact w.len,fun j=>?_,fun j u h=>?_,fun j u h=>?_,fun u hu=>w.okT u (B7 _ hu),fun j k a b n h1 h2=>?_,fun j a h b C=>?_,s.2,w.base,fun j r=>?_,⟨fun u hu=>w.fx.frT u (B7 _ hu),fun j u h A c a p=>?_,w.fx.bin,w.fx.ob,fun j u h E=>?_⟩⟩
 ·rw [bF hi]
  by_cases q:j=i
  ·rw [if_pos q,if_pos q];rfl
  ·rw [if_neg q,if_neg q];exact w.sl j
 ·rcases val j u h with ⟨rfl,rfl⟩ | ⟨n,h⟩
  ·rw [List.getElem?_set_self B]
  ·rw [List.getElem?_set_ne (fun z=>n z.symm)];exact w.sv j u h
 ·rcases val j u h with ⟨rfl,rfl⟩ | ⟨n,h⟩
  ·refine ⟨y.rep,fun q=>?_,y.src⟩
   rcases hf with e | e
   ·subst e
    exact y.own q
   ·exact absurd e q
  ·exact w.okS j u h
 ·rcases val j a h1 with ⟨I,p⟩ | ⟨M,o⟩
  ·rcases val k b h2 with ⟨F,D⟩ | ⟨J,m⟩
   ·exact absurd (I.trans F.symm) n
   ·rw [p];exact nx b (w.st k b m x B6).2
  ·rcases val k b h2 with ⟨F,D⟩ | ⟨J,m⟩
   ·rw [D];exact (w.st j a o x B6).1
   ·exact w.ss j k a b n o m
 ·rcases val j a h with ⟨rfl,rfl⟩ | ⟨n,h⟩
  ·exact ⟨nx b (s.1 b C).1,(s.1 b C).2⟩
  ·exact w.st j a h b (B7 _ C)
 ·have n:j ≠ i:=fun z=>by subst z;rw [L] at r;cases r
  rw [List.getElem?_set_ne (fun z=>n z.symm)];exact w.pro j r
 ·rcases val j u h with ⟨_,rfl⟩ | ⟨n,h⟩
  ·rcases hf with e | e
   ·exact w.fx.frT x B6 (by rw [<- e];exact c) a p
   ·exact absurd e c
  ·exact w.fx.frS j u h A c a p
 ·rcases val j u h with ⟨_,rfl⟩ | ⟨n,h⟩
  ·exact absurd E t
  ·exact w.fx.lvS j u h E
def aT (i:Nat) (m:EM):SM:=ac m fun r=>ac (cw r) fun p=>fun ρ=>if i < ρ.length then some (.ok .nx,ρ.set i (some p)) else none
theorem zG {i:Nat} (j:G0.pr i=false) (h:tS K G0 W0 (aT i m) E σ H):sd (tE K G0 W0 m) (rC i) E σ H:=by
 refine h.use fun G W le ρ T g r ρ' w e q=>?_
 refine tE.seq le w e q.err fun ra ρ1 e1 v H1 ⟨Ts,g1,b,a1⟩=>?_
 obtain ⟨p,ρ2,g2,x,a,d,f1,f2,f4,c⟩:=a1.take b e1
 split at a
 ·rename_i hi
  cases a
  have:=d.store (f:=p.2) hi (by rw [le.pr];exact j) f2 f4
  rw [f1,c] at this
  exact q _ _ _ this
 ·exact nsE a
def aU (np:Nat) (m:EM):SM:=ac m fun r=>match r with
 | .val d f=>aO (.rt d f)
 | .pl i=>fun ρ=>match (ρ[i]?).join with
  | some (d,.u)=>if i < np then some (.ok (.rt d .z),lowAt i ρ) else some (.ok (.rt d .u),ρ.set i none)
  | some (d,_)=>some (.ok (.rt d .z),lowAt i ρ)
  | none=>none
def qN:SM:=aO (.rt .non .z)
theorem Wf.move {i:Nat} (w:Wf K G H σ ρ T g) (f:G.pr i=false) (e:g i=some y):Wf K G H σ (ρ.set i none) (y :: T) (fun j=>if j=i then none else g j):=by
 have hi:i < ρ.length:=by
  have:=w.sl i
  rw [e] at this
  exact de this.symm
 have val:∀ j u,(if j=i then none else g j)=some u->j ≠ i/\g j=some u:=fun j u h=>by
  by_cases q:j=i
  ·rw [if_pos q] at h;exact nsE h
  ·rw [if_neg q] at h;exact ⟨q,h⟩
 refine ⟨by rw [List.length_set];exact w.len,fun j=>?_,fun j u h=>w.sv j u (val j u h).2,fun j u h=>w.okS j u (val j u h).2,fun u hu=>?_,fun j k a b n h1 h2=>w.ss j k a b n (val j a h1).2 (val k b h2).2,fun j a h b c=>?_,?_,w.base,w.pro,⟨fun u hu hf a d=>?_,fun j u h=>w.fx.frS j u (val j u h).2,w.fx.bin,w.fx.ob,fun j u h=>w.fx.lvS j u (val j u h).2⟩⟩
 ·rw [bF hi]
  by_cases q:j=i
  ·rw [if_pos q,if_pos q];rfl
  ·rw [if_neg q,if_neg q];exact w.sl j
 ·rcases Cd.mp hu with h | hu
  ·rw [h];exact w.okS i y e
  ·exact w.okT u hu
 ·obtain ⟨n,h⟩:=val j a h
  rcases Cd.mp c with h' | c
  ·rw [h'];exact ⟨w.ss j i a y n h e,w.ss i j y a (Ne.symm n) e h⟩
  ·exact w.st j a h b c
 ·exact List.pairwise_cons.mpr ⟨fun u hu=>w.st i y e u hu,w.tt⟩
 ·rcases Cd.mp hu with h | hu
  ·subst h;exact w.fx.frS i u e f hf a d
  ·exact w.fx.frT u hu hf a d
theorem zI {np:Nat} (s:∀ i,np<=i->G0.pr i=false) (h:tS K G0 W0 (aU np m) E σ H):tRet (tE K G0 W0 m) E σ H:=by
 refine h.use fun G W le ρ T g r ρ' w e q=>?_
 refine tE.seq le w e q.err fun ra ρ1 e1 v H1 ⟨Ts,g1,j,a1⟩=>?_
 have low:∀ {i:Nat} {d:D} {f:Fl},(ρ1[i]?).join=some (d,f)->some ((.ok (.rt d .z),lowAt i ρ1):Except D Flw × Sto)=some (r,ρ')->Ar σ (.pl i) v Ts->E.rt v H1:=fun {i d f} b I a=>by
  cases I
  have L:ac (cw (.pl i)) (fun p=>aO (Flw.rt p.1 p.2)) ρ1=some (.ok (.rt d .z),L3.lowAt i ρ1):=by
   unfold ac
   rw [mV,b]
   rfl
  obtain ⟨p,ρ2,g2,x,k,n,f1,f2,_,F⟩:=a.take j L
  have c:Flw.rt p.1 p.2=Flw.rt d .z/\ρ2=L3.lowAt i ρ1:=by
   unfold aO at k
   injection k with k
   injection k with c o
   injection c with c
   exact ⟨c,o⟩
  obtain ⟨c,o⟩:=c
  injection c with e7 e8
  subst o
  rw [<- F]
  have J:=Wf.lowT (Ts:=[x]) n
  exact q (b7 x) σ H1 g2 J (f1.trans e7) rfl
 cases a1 with
 | val x=>cases e1;exact q x σ H1 g1 j rfl rfl
 | @pl i v h =>
  dsimp only at e1
  cases b:(ρ1[i]?).join with
  | none=>rw [b] at e1;exact nsE e1
  | some p =>
   obtain ⟨d,f⟩:=p
   rw [b] at e1
   cases f with
   | u =>
    dsimp only at e1
    split at e1
    ·exact low b e1 (.pl h)
    ·cases e1
     obtain ⟨y,C,A,B,t⟩:=j.slot b
     have n:=Wf.move j (by rw [le.pr];exact s i (by omega)) C
     have:=q y σ H1 _ n A B
     rw [h] at t
     cases t
     exact this
   | l=>exact low b e1 (.pl h)
   | z=>exact low b e1 (.pl h)
def bK (c:M3 Bool) (b:SM):Nat->SM
 | 0=>fun _=>none
 | n+1=>ac c fun t=>if t then ac b (fun f=>match f with
   | .nx=>bK c b n
   | .ct=>bK c b n
   | .br=>aO .nx
   | .rt d f=>aO (.rt d f)) else aO .nx
def fv (c:M3 Bool) (b:SM):SM:=fun ρ=>open Classical in if h:∃ n r,bK c b n ρ=some r then some (Classical.choose (Classical.choose_spec h)) else none
theorem fo:∀ {n:Nat} {ρ:Sto} {r:Except D Flw × Sto},bK c b n ρ=some r->bK c b (n+1) ρ=some r
 | 0,ρ,r,e=>by cases e
 | n+1,ρ,r,e=>by
  unfold bK at e ⊢
  unfold ac at e ⊢
  cases h:c ρ with
  | none=>rw [h] at e;exact nsE e
  | some p =>
   obtain ⟨o,ρ1⟩:=p
   rw [h] at e
   cases o with
   | error x=>exact e
   | ok t =>
    cases t with
    | false=>exact e
    | true =>
     simp only [if_true] at e ⊢
     cases h2:b ρ1 with
     | none=>rw [h2] at e;exact nsE e
     | some p2 =>
      obtain ⟨a,ρ2⟩:=p2
      rw [h2] at e
      cases a with
      | error x=>exact e
      | ok f =>
       cases f with
       | nx=>exact fo (n:=n) e
       | ct=>exact fo (n:=n) e
       | br=>exact e
       | rt d f=>exact e
theorem iL {n m:Nat} (h:n<=m) (e:bK c b n ρ=some r):bK c b m ρ=some r:=by
 induction h with
 | refl=>exact e
 | step _ ih=>exact fo ih
theorem m5 (e:fv c b ρ=some r):∃ n,bK c b n ρ=some r:=by
 unfold fv at e
 split at e
 ·rename_i h
  have a:=Classical.choose_spec (Classical.choose_spec h)
  injection e with e
  exact ⟨Classical.choose h,by rw [<- e];exact a⟩
 ·exact nsE e
theorem ui (h:tS K G0 W0 (fv c b) E σ H):uh (tT K G0 W0 c) (tS K G0 W0 b) E σ H:=by
 refine h.use fun G W le ρ T g r ρ' w e q=>?_
 obtain ⟨n,e⟩:=m5 e
 refine ⟨fun m σ H=>∃ ρ g,Wf K G H σ ρ T g/\bK c b m ρ=some (r,ρ'),⟨n,ρ,g,w,e⟩,?_⟩
 rintro m σ1 H1 ⟨ρ1,g1,k,e1⟩
 cases m with
 | zero=>exact nsE e1
 | succ m =>
  unfold bK at e1
  refine tT.seq le k e1 q.err fun t ρ2 a H2 g2 i=>?_
  cases t with
  | false=>cases a;exact q _ _ _ i
  | true =>
   refine ⟨fun σ H=>∃ ρ g,Wf K G H σ ρ T g/\bK c b m ρ=some (r,ρ'),fun σ' H' h=>⟨m,Nat.lt_succ_self m,h⟩,?_⟩
   simp only [if_true] at a
   unfold ac at a
   cases p:b ρ2 with
   | none=>rw [p] at a;exact nsE a
   | some p2 =>
    obtain ⟨o,ρ3⟩:=p2
    rw [p] at a
    cases o with
    | error x=>cases a;exact tS.mk le i p q
    | ok f =>
     cases f with
     | nx=>exact tS.mk le (r:=.ok .nx) i p fun σ' H' g' j=>⟨ρ3,g',j,a⟩
     | ct=>exact tS.mk le (r:=.ok .ct) i p fun σ' H' g' j=>⟨ρ3,g',j,a⟩
     | br=>cases a;exact tS.mk le (r:=.ok .br) i p q
     | rt d f=>cases a;exact tS.mk le (r:=.ok (.rt d f)) i p q
end
end L3
end
section
namespace L3
open PySem L2
abbrev Fn:=List (D × Fl)->Option (Except D (D × Fl) × List (D × Fl))
def prs (ρ:Sto):List R3->Option (List (D × Fl))
 | []=>some []
 | .pl i :: rs=>match (ρ[i]?).join,prs ρ rs with
  | some p,some ps=>some (p :: ps)
  | _,_=>none
 | .val d f :: rs=>match prs ρ rs with
  | some ps=>some ((d,f) :: ps)
  | _=>none
def jE (rs:List R3):List Nat:=(pls rs).filter fun i=>decide (2<=(pls rs).count i)
def back:List R3->List (D × Fl)->List (D × Fl)->Sto->Sto
 | .pl i :: rs,p :: ps,q :: qs,ρ=>back rs ps qs (if p.2=.z then ρ else ρ.set i (some (q.1,if q.2=.z then .z else p.2)))
 | .val _ _ :: rs,_ :: ps,_ :: qs,ρ=>back rs ps qs ρ
 | _,_,_,ρ=>ρ
section
variable {K:FG} {G G0:Gm} {W W0:D->Sto->Prop} {H H':Hp} {σ:St} {ρ ρ':Sto} {T T':List It3} {g:Nat->Option It3} {x y z:It3} {α β:Type}
structure Back1 (K:FG) (H H':Hp) (ps:List It3) (p q:It3):Prop where
 z:p.f=.z->q=p
 v:q.v=p.v
 f:q.f=p.f\/q.f=.z
 arg:Arg K H' q
 src:∀ c ∈ q.L,H c=none\/cW ps c
 there:p.f=.u->∀ b,p.v=.ref b->∃ o,H' b=some o
structure BehindX (K:FG) (H H':Hp) (ps qs:List It3):Prop where
 frame:∀ b o,H b=some o->(∀ p ∈ ps,p.f=.u->p.v ≠ .ref b)->H' b=some o
 back:Paired (Back1 K H H' ps) ps qs
 apart:qs.Pairwise Apart3
structure Behind (K:FG) (H H':Hp) (ps qs:List It3) (x:It3):Prop extends BehindX K H H' ps qs where
 rep:Rep K H' x.d x.v x.L
 own:x.f ≠ .z->iA x.d=true/\∃ a L',x.v=.ref a/\x.L=a :: L'/\a ∉ L'/\H a=none
 src:∀ c ∈ x.L,H c=none\/cW ps c
 apx:∀ q ∈ qs,Apart3 x q
theorem Ars.args:∀ {rs:List R3} {C:List V} {Ts T:List It3} {k:List (D × Fl)},Ars σ rs C Ts->Wf K G H σ ρ (Ts ++ T) g->(∀ i,2<=(pls rs).count i->∀ y,g i=some y->y.f=.z)->prs ρ rs=some k ->
  ∃ ps:List It3,ps.map (fun p=>(p.d,p.f))=k/\ps.map (·.v)=C/\ps.Pairwise Apart3/\(∀ p ∈ ps,(∃ i,R3.pl i ∈ rs/\g i=some p)\/p ∈ Ts)/\Paired (fun r p=>match r with | .pl i=>g i=some p | .val _ _=>p ∈ Ts) rs ps
 | [],_,_,T,k,.nil,w,_,e=>by cases e;exact ⟨[],rfl,rfl,.nil,fun _ h=>(by cases h),.nil⟩
 | r :: rs,_,_,T,k,.cons (v:=v0) (Ts:=T0) (Us:=U0) a as,w,hd,e=>by
  have E:Wf K G H σ ρ (U0 ++ (T0 ++ T)) g:=by rw [<- List.append_assoc];exact w
  have o:∀ i,2<=(pls rs).count i->∀ y,g i=some y->y.f=.z:=fun i s=>hd i (by
   cases r with
   | pl j=>show 2<=(j :: pls rs).count i;rw [List.count_cons];omega
   | val _ _=>exact s)
  cases a with
  | @pl i v h =>
   unfold prs at e
   cases q:(ρ[i]?).join with
   | none=>rw [q] at e;exact nsE e
   | some p0 =>
    cases l:prs ρ rs with
    | none=>rw [q,l] at e;exact nsE e
    | some pfs' =>
     rw [q,l] at e
     cases e
     obtain ⟨ps,f1,f2,B,f4,A⟩:=Ars.args as E o l
     obtain ⟨y,n,I,J,F⟩:=w.slot (d:=p0.1) (f:=p0.2) q
     have L:y.v=v0:=by rw [h] at F;cases F;rfl
     refine ⟨y :: ps,by rw [Cs,f1,I,J],by rw [Cs,f2,L],List.pairwise_cons.mpr ⟨fun p b=>?_,B⟩,fun p b=>?_,.cons n ?_⟩
     ·rcases f4 p b with ⟨j,m,c⟩ | b
      ·by_cases t:i=j
       ·subst t
        have s:2<=(pls (R3.pl i :: rs)).count i:=by
         show 2<=(i :: pls rs).count i
         rw [List.count_cons_self]
         have:=List.count_pos_iff.mpr (jP m)
         omega
        have hz:=hd i s y n
        have u:=hd i s p c
        exact ⟨fun q=>absurd hz q,fun q=>absurd u q⟩
       ·exact ⟨w.ss i j y p t n c,w.ss j i p y (Ne.symm t) c n⟩
      ·exact w.st i y n p (Ca _ (Ca _ b))
     ·rcases Cd.mp b with h' | b
      ·rw [h'];exact .inl ⟨i,B6,n⟩
      ·rcases f4 p b with ⟨j,m,c⟩ | b
       ·exact .inl ⟨j,B7 _ m,c⟩
       ·exact .inr (Ca _ b)
     ·exact Paired.mapP A fun r p h=>by
       cases r with
       | pl j=>exact h
       | val _ _=>exact Ca _ h
  | val x =>
   unfold prs at e
   cases l:prs ρ rs with
   | none=>rw [l] at e;exact nsE e
   | some pfs' =>
    rw [l] at e
    cases e
    obtain ⟨ps,f1,f2,B,f4,A⟩:=Ars.args as E o l
    refine ⟨x :: ps,by rw [Cs,f1],by rw [Cs,f2],List.pairwise_cons.mpr ⟨fun p b=>?_,B⟩,fun p b=>?_,.cons (Cc _ B6) ?_⟩
    ·rcases f4 p b with ⟨j,m,c⟩ | b
     ·exact (w.st j p c x (Ca _ (Cc _ B6))).symm
     ·have t1:=(List.pairwise_append.mp w.tt).1
      exact ((List.pairwise_append.mp t1).2.2 p b x B6).symm
    ·rcases Cd.mp b with h' | b
     ·rw [h'];exact .inr (Cc _ B6)
     ·rcases f4 p b with ⟨j,m,c⟩ | b
      ·exact .inl ⟨j,B7 _ m,c⟩
      ·exact .inr (Ca _ b)
    ·exact Paired.mapP A fun r p h=>by
      cases r with
      | pl j=>exact h
      | val _ _=>exact Ca _ h
theorem eV:∀ {rs:List R3} {ps qs:List It3} {ρ:Sto} {g:Nat->Option It3},(∀ j,(g j).map (fun x=>(x.d,x.f))=(ρ[j]?).join)->rs.length=ps.length->Paired (Back1 K H H' T) ps qs->(∀ i,R3.pl i ∈ rs->i < ρ.length) ->
  ∃ g':Nat->Option It3,(∀ j,(g' j).map (fun x=>(x.d,x.f))=((back rs (ps.map fun p=>(p.d,p.f)) (qs.map fun q=>(q.d,q.f)) ρ)[j]?).join)/\(back rs (ps.map fun p=>(p.d,p.f)) (qs.map fun q=>(q.d,q.f)) ρ).length = ρ.length /\
   ∀ j:Nat,(g' j=g j/\∀ (k:Nat) (p:It3),rs[k]?=some (R3.pl j)->ps[k]?=some p->p.f=.z)\/∃ (k:Nat) (p q:It3),rs[k]?=some (R3.pl j)/\ps[k]?=some p/\qs[k]?=some q/\p.f ≠ .z/\g' j=some q
 | [],[],_,ρ,g,hg,_,.nil,_=>⟨g,hg,rfl,fun j=>.inl ⟨rfl,fun k p h=>by simp at h⟩⟩
 | [],_ :: _,_,_,_,_,h,_,_=>by cases h
 | _ :: _,[],_,_,_,_,h,_,_=>by cases h
 | .val d f :: rs,p :: ps,_,ρ,g,hg,hl,.cons (b:=q) (l₂:=qs) b1 bs,hi=>by
  obtain ⟨g',h1,h2,h3⟩:=eV (rs:=rs) hg (by simpa using hl) bs fun i h=>hi i (B7 _ h)
  refine ⟨g',h1,h2,fun j=>?_⟩
  rcases h3 j with ⟨e,h⟩ | ⟨k,a,m,a1,a2,n,l⟩
  ·refine .inl ⟨e,fun k a e1 c=>?_⟩
   cases k with
   | zero=>simp at e1
   | succ k=>exact h k a (by simpa using e1) (by simpa using c)
  ·exact .inr ⟨k+1,a,m,by simpa using a1,by simpa using a2,by simpa using n,l⟩
 | .pl i :: rs,p :: ps,_,ρ,g,hg,hl,.cons (b:=q) (l₂:=qs) b1 bs,hi=>by
  have s:=hi i B6
  by_cases hz:p.f=.z
  ·have r:back (.pl i :: rs) ((p :: ps).map fun p=>(p.d,p.f)) ((q :: qs).map fun q=>(q.d,q.f)) ρ=back rs (ps.map fun p=>(p.d,p.f)) (qs.map fun q=>(q.d,q.f)) ρ:=by
    show back rs _ _ (if p.f=.z then ρ else _)=_
    rw [if_pos hz]
   rw [r]
   obtain ⟨g',h1,h2,h3⟩:=eV (rs:=rs) hg (by simpa using hl) bs fun i h=>hi i (B7 _ h)
   refine ⟨g',h1,h2,fun j=>?_⟩
   rcases h3 j with ⟨e,h⟩ | ⟨k,a,m,a1,a2,n,l⟩
   ·refine .inl ⟨e,fun k a e1 c=>?_⟩
    cases k with
    | zero=>simp at c;rw [<- c];exact hz
    | succ k=>exact h k a (by simpa using e1) (by simpa using c)
   ·exact .inr ⟨k+1,a,m,by simpa using a1,by simpa using a2,by simpa using n,l⟩
  ·have r:back (.pl i :: rs) ((p :: ps).map fun p=>(p.d,p.f)) ((q :: qs).map fun q=>(q.d,q.f)) ρ=back rs (ps.map fun p=>(p.d,p.f)) (qs.map fun q=>(q.d,q.f)) (ρ.set i (some (q.d,q.f))):=by
    show back rs _ _ (if p.f=.z then ρ else ρ.set i (some (q.d,if q.f=.z then .z else p.f)))=_
    rw [if_neg hz]
    have:(if q.f=.z then Fl.z else p.f)=q.f:=by
     by_cases h:q.f=.z
     ·rw [if_pos h,h]
     ·rw [if_neg h]
      rcases b1.f with h' | h'
      ·exact h'.symm
      ·exact absurd h' h
    rw [this]
   rw [r]
   obtain ⟨g',h1,h2,h3⟩:=eV (rs:=rs) (ρ:=ρ.set i (some (q.d,q.f))) (g:=fun j=>if j=i then some q else g j) (fun j=>by
    rw [bF s]
    by_cases e:j=i
    ·rw [if_pos e,if_pos e];rfl
    ·rw [if_neg e,if_neg e];exact hg j) (by simpa using hl) bs fun i h=>by rw [List.length_set];exact hi i (B7 _ h)
   refine ⟨g',h1,by rw [h2,List.length_set],fun j=>?_⟩
   rcases h3 j with ⟨e,h⟩ | ⟨k,a,m,a1,a2,n,l⟩
   ·by_cases o:j=i
    ·rw [if_pos o] at e
     exact .inr ⟨0,p,q,by simp [o],rfl,rfl,hz,e⟩
    ·rw [if_neg o] at e
     refine .inl ⟨e,fun k a e1 c=>?_⟩
     cases k with
     | zero=>simp at e1;exact absurd e1.symm o
     | succ k=>exact h k a (by simpa using e1) (by simpa using c)
   ·exact .inr ⟨k+1,a,m,by simpa using a1,by simpa using a2,by simpa using n,l⟩
theorem lY:∀ {rs:List R3} {a:List (D × Fl)},prs ρ rs=some a->rs.length=a.length
 | [],a,e=>by cases e;rfl
 | .pl i :: rs,a,e=>by
  unfold prs at e
  cases q:(ρ[i]?).join with
  | none=>rw [q] at e;exact nsE e
  | some p =>
   cases b:prs ρ rs with
   | none=>rw [q,b] at e;exact nsE e
   | some ps=>rw [q,b] at e;cases e;rw [CA,CA,lY b]
 | .val d f :: rs,a,e=>by
  unfold prs at e
  cases b:prs ρ rs with
  | none=>rw [b] at e;exact nsE e
  | some ps=>rw [b] at e;cases e;rw [CA,CA,lY b]
theorem pL:∀ {rs:List R3} {a:List (D × Fl)},prs ρ rs=some a->∀ i,R3.pl i ∈ rs->i < ρ.length
 | [],a,e,i,h=>by cases h
 | .pl i :: rs,a,e,j,h=>by
  unfold prs at e
  cases q:(ρ[i]?).join with
  | none=>rw [q] at e;exact nsE e
  | some p =>
   cases b:prs ρ rs with
   | none=>rw [q,b] at e;exact nsE e
   | some ps =>
    rcases Cd.mp h with h | h
    ·cases h;exact de q
    ·exact pL b j h
 | .val d f :: rs,a,e,j,h=>by
  unfold prs at e
  cases b:prs ρ rs with
  | none=>rw [b] at e;exact nsE e
  | some ps =>
   rcases Cd.mp h with h | h
   ·cases h
   ·exact pL b j h
theorem Paired.at:∀ {l:List α} {m:List β} {k:Nat} {a:α} {b:β},Paired F l m->l[k]?=some a->m[k]?=some b->F a b
 | _,_,_,_,_,.nil,h,_=>by simp at h
 | _,_,0,_,_,.cons r _,h,h'=>by simp at h h';subst h h';exact r
 | _,_,k+1,_,_,.cons _ t,h,h'=>Paired.at (k:=k) t (by simpa using h) (by simpa using h')
theorem Paired.exL:∀ {l:List α} {m:List β} {k:Nat} {a:α},Paired F l m->l[k]?=some a->∃ b,m[k]?=some b/\F a b
 | _,_,_,_,.nil,h=>by simp at h
 | _,_,0,_,.cons r _,h=>by simp at h;subst h;exact ⟨_,rfl,r⟩
 | _,_,k+1,_,.cons _ t,h=>let ⟨b,h1,h2⟩:=Paired.exL (k:=k) t (by simpa using h);⟨b,by simpa using h1,h2⟩
theorem Paired.exR:∀ {l:List α} {m:List β} {k:Nat} {b:β},Paired F l m->m[k]?=some b->∃ a,l[k]?=some a/\F a b
 | _,_,_,_,.nil,h=>by simp at h
 | _,_,0,_,.cons r _,h=>by simp at h;subst h;exact ⟨_,rfl,r⟩
 | _,_,k+1,_,.cons _ t,h=>let ⟨b,h1,h2⟩:=Paired.exR (k:=k) t (by simpa using h);⟨b,by simpa using h1,h2⟩
theorem cL {R:α->α->Prop} {l:List α} (p:l.Pairwise R) (e:∀ a b,R a b->R b a) {i j:Nat} {a b:α} (n:i ≠ j) (d:l[i]?=some a) (f:l[j]?=some b):R a b:=by
 obtain ⟨h1,e1⟩:=Cj.mp d
 obtain ⟨h2,c⟩:=Cj.mp f
 have q:=List.pairwise_iff_getElem.mp p
 rcases Nat.lt_or_ge i j with h | h
 ·rw [<- e1,<- c];exact q i j h1 h2 h
 ·rw [<- e1,<- c];exact e _ _ (q j i h2 h1 (by omega))
theorem Wf.after (w:Wf K G H σ ρ (Ts ++ T) g) (e:prs ρ rs=some pfs) (f1:ps.map (fun p=>(p.d,p.f))=pfs) (f4:∀ p ∈ ps,(∃ i,R3.pl i ∈ rs/\g i=some p)\/p ∈ Ts) (f5:Paired (fun r p=>match r with | .pl i=>g i=some p | .val _ _=>p ∈ Ts) rs ps) (B:BehindX K H H' ps qs) :
  ∃ g',Wf K G H' σ (L3.back rs pfs (qs.map fun q=>(q.d,q.f)) ρ) T g' /\
   ∀ x,Rep K H' x.d x.v x.L->(x.f ≠ .z->iA x.d=true/\∃ a L',x.v=.ref a/\x.L=a :: L'/\a ∉ L'/\H a=none)->(∀ c ∈ x.L,H c=none\/cW ps c)->(∀ q ∈ qs,Apart3 x q)->Wf K G H' σ (L3.back rs pfs (qs.map fun q=>(q.d,q.f)) ρ) (x :: T) g':=by
 subst f1
 have U:rs.length=ps.length:=by have:=lY e;rwa [Ci] at this
 obtain ⟨g',h1,h2,h3⟩:=eV (K:=K) (H:=H) (H':=H') (T:=ps) (rs:=rs) (ps:=ps) (qs:=qs) w.sl U B.back (pL e)
 have E:∀ p ∈ ps,Itm (Ts ++ T) g p:=fun p l=>by
  rcases f4 p l with ⟨i,_,O⟩ | h
  ·exact .inl ⟨i,O⟩
  ·exact .inr (Ca _ h)
 have X:∀ b o,H b=some o->∃ o',H' b=some o':=fun b o S=>by
  by_cases h:∀ p ∈ ps,p.f=.u->p.v ≠ .ref b
  ·exact ⟨o,B.frame b o S h⟩
  ·have h':∃ p,p ∈ ps/\p.f=.u/\p.v=.ref b:=by
    refine Classical.byContradiction fun n=>h fun p l hf I=>n ⟨p,l,hf,I⟩
   obtain ⟨p,l,hf,I⟩:=h'
   obtain ⟨k,hk,ek⟩:=List.mem_iff_getElem.mp l
   obtain ⟨q,e1,b1⟩:=Paired.exL B.back (show ps[k]?=some p by rw [Ce hk,ek])
   exact b1.there hf b I
 have ka:∀ j z,g j=some z->(∀ (k:Nat) (p:It3),rs[k]?=some (R3.pl j)->ps[k]?=some p->p.f=.z)->∀ p ∈ ps,Apart3 p z:=fun j z ej hu p l=>by
  rcases f4 p l with ⟨i,hi,O⟩ | h
  ·by_cases ij:i=j
   ·subst ij
    have a0:p=z:=CS (O.symm.trans ej)
    subst a0
    have hz:p.f=.z:=by
     obtain ⟨k,hk,ek⟩:=List.mem_iff_getElem.mp hi
     have Z:rs[k]?=some (R3.pl i):=by rw [Ce hk,ek]
     obtain ⟨C,e1,D⟩:=Paired.exL f5 Z
     have D:g i=some C:=D
     rw [O] at D
     cases D
     exact hu k p Z e1
    exact ⟨fun q=>absurd hz q,fun q=>absurd hz q⟩
   ·exact ⟨w.ss i j p z ij O ej,w.ss j i z p (Ne.symm ij) ej O⟩
  ·exact (w.st j z ej p (Ca _ h)).symm
 have kt:∀ z ∈ T,∀ p ∈ ps,Apart3 p z:=fun z hz p l=>by
  rcases f4 p l with ⟨i,hi,O⟩ | h
  ·exact w.st i p O z (Cc _ hz)
  ·exact (List.pairwise_append.mp w.tt).2.2 p h z hz
 have keep:∀ z,ItOk K G H z->(∀ p ∈ ps,Apart3 p z)->ItOk K G H' z:=fun z P V=>by
  refine P.keep (M:=fun b=>∃ p ∈ ps,p.f=.u/\p.v=.ref b) (fun b o S n=>B.frame b o S fun p l hf I=>n ⟨p,l,hf,I⟩) (fun b ⟨p,l,hf,I⟩=>?_) (fun b S ⟨p,l,hf,I⟩=>?_)
  ·obtain ⟨_,a,L',e1,D,_⟩:=(w.itm (E p l)).own (by rw [hf];intro q;cases q)
   rw [I] at e1
   cases e1
   exact (w.itm (E p l)).rep.inH b (by rw [D];exact B6)
  ·exact (V p l).1 (by rw [hf];intro q;cases q) b I S
 have ar:∀ k p q,ps[k]?=some p->qs[k]?=some q->ItOk K G H' q:=fun k p q e1 D=>by
  have b:=Paired.at B.back e1 D
  refine ⟨b.arg.rep,fun hf=>?_,fun c R=>?_⟩
  ·obtain ⟨m,a,L',v1,v2,v3⟩:=b.arg.own hf
   refine ⟨m,a,L',v1,v2,v3,fun hu=>?_⟩
   have pf:p.f=.u:=by
    rcases b.f with h | h
    ·rw [<- h];exact hu
    ·rw [h] at hu;cases hu
   obtain ⟨_,a',a4,e3,_,_,e5⟩:=(w.itm (E p (Ck e1))).own (by rw [pf];intro q;cases q)
   rw [<- b.v,v1] at e3
   cases e3
   exact e5 pf
  ·rcases b.src c R with h | ⟨C,A,h⟩
   ·exact .inl (w.h0none h)
   ·exact (w.itm (E C A)).src c h
 have kq:∀ z,ItOk K G H z->(∀ p ∈ ps,Apart3 p z)->∀ k p q,ps[k]?=some p->qs[k]?=some q->Apart3 z q:=fun z P V k p q e1 D=>by
  have b:=Paired.at B.back e1 D
  refine ⟨fun hf a ev hm=>?_,fun hf a ev=>?_⟩
  ·rcases b.src a hm with h | ⟨C,A,R⟩
   ·obtain ⟨_,a',L',s,N,_⟩:=P.own hf
    rw [ev] at s;cases s
    obtain ⟨o,F⟩:=(P.rep.inH a (by rw [N];exact B6)).ex
    rw [h] at F;exact nsE F
   ·exact (V C A).2 hf a ev R
  ·have pf:p.f ≠ .z:=fun W=>by
    have:=b.z W
    rw [this] at hf
    exact hf W
   exact (V p (Ck e1)).1 pf a (by rw [<- b.v];exact ev)
 have old:∀ j z,g' j=some z->(g j=some z/\∀ p ∈ ps,Apart3 p z)\/∃ k p,rs[k]?=some (R3.pl j)/\ps[k]?=some p/\qs[k]?=some z:=fun j z ez=>by
  rcases h3 j with ⟨e1,hu⟩ | ⟨k,p,q,a1,a2,y,_,a5⟩
  ·rw [e1] at ez
   exact .inl ⟨ez,ka j z ez hu⟩
  ·rw [a5] at ez
   cases ez
   exact .inr ⟨k,p,a1,a2,y⟩
 have wf:Wf K G H' σ (L3.back rs (ps.map fun p=>(p.d,p.f)) (qs.map fun q=>(q.d,q.f)) ρ) T g':=by
  refine ⟨by rw [h2];exact w.len,h1,fun j z ez=>?_,fun j z ez=>?_,fun z hz=>keep z (w.okT z (Cc _ hz)) (kt z hz),fun i j a b n Q eb=>?_,fun j z ez t J=>?_,(List.pairwise_append.mp w.tt).2.1,fun b o e n=>?_,w.pro,⟨fun u hu=>w.fx.frT u (Cc _ hu),fun j u h l hf a Q=>?_,fun b S=>?_,fun b o h=>?_,fun j u h U=>?_⟩⟩
  ·rcases old j z ez with ⟨e1,_⟩ | ⟨k,p,a1,a2,y⟩
   ·exact w.sv j z e1
   ·have Y:g j=some p:=by
     obtain ⟨C,s,N⟩:=Paired.exL f5 a1
     rw [a2] at s;cases s
     exact N
    rw [(Paired.at B.back a2 y).v]
    exact w.sv j p Y
  ·rcases old j z ez with ⟨e1,ap⟩ | ⟨k,p,a1,a2,y⟩
   ·exact keep z (w.okS j z e1) ap
   ·exact ar k p z a2 y
  ·rcases old i a Q with ⟨e1,ap⟩ | ⟨k,p,a1,a2,y⟩
   ·rcases old j b eb with ⟨D,_⟩ | ⟨k',C,b1,b2,b3⟩
    ·exact w.ss i j a b n e1 D
    ·exact (kq a (w.okS i a e1) ap k' C b b2 b3).1
   ·rcases old j b eb with ⟨D,ap⟩ | ⟨k',C,b1,b2,b3⟩
    ·exact (kq b (w.okS j b D) ap k p a a2 y).2
    ·have kk:k ≠ k':=fun z=>by
      subst z
      rw [a1] at b1
      cases b1
      exact n rfl
     exact (cL B.apart (fun _ _=>Apart3.symm) kk y b3).1
  ·rcases old j z ez with ⟨e1,ap⟩ | ⟨k,p,a1,a2,y⟩
   ·exact w.st j z e1 t (Cc _ J)
   ·exact (kq t (w.okT t (Cc _ J)) (kt t J) k p z a2 y).symm
  ·refine B.frame b o (w.base b o e n) fun p l hf I=>?_
   obtain ⟨_,a,L',e1,_,_,e3⟩:=(w.itm (E p l)).own (by rw [hf];intro q;cases q)
   rw [I] at e1
   cases e1
   rcases e3 hf with h | h
   ·rw [e] at h;cases h
   ·exact n h
  ·rcases old j u h with ⟨e1,_⟩ | ⟨k,p,a1,a2,y⟩
   ·exact w.fx.frS j u e1 l hf a Q
   ·have b:=Paired.at B.back a2 y
    have Y:g j=some p:=by
     obtain ⟨C,s,N⟩:=Paired.exL f5 a1
     rw [a2] at s;cases s
     exact N
    refine w.fx.frS j p Y l (fun W=>?_) a (by rw [<- b.v];exact Q)
    have:=b.z W
    rw [this] at hf
    exact hf W
  ·obtain ⟨o,F⟩:=w.fx.bin b S
   exact X b o F
  ·obtain ⟨o',F⟩:=w.fx.ob b o h
   exact X b o' F
  ·rcases old j u h with ⟨e1,_⟩ | ⟨k,p,a1,a2,y⟩
   ·exact w.fx.lvS j u e1 U
   ·have b:=Paired.at B.back a2 y
    have Y:g j=some p:=by
     obtain ⟨C,s,N⟩:=Paired.exL f5 a1
     rw [a2] at s;cases s
     exact N
    rw [b.v]
    refine w.fx.lvS j p Y ?_
    rcases b.f with h | h
    ·rw [<- h];exact U
    ·rw [h] at U;cases U
 refine ⟨g',wf,fun x rx ox sx ax=>?_⟩
 have kx:∀ z,ItOk K G H z->(∀ p ∈ ps,Apart3 p z)->Apart3 z x:=fun z P V=>by
  refine ⟨fun hf a ev hm=>?_,fun hf a ev hm=>?_⟩
  ·rcases sx a hm with h | ⟨C,A,R⟩
   ·obtain ⟨_,a',L',s,N,_⟩:=P.own hf
    rw [ev] at s;cases s
    obtain ⟨o,F⟩:=(P.rep.inH a (by rw [N];exact B6)).ex
    rw [h] at F;exact nsE F
   ·exact (V C A).2 hf a ev R
  ·obtain ⟨_,a',L',s,_,_,q4⟩:=ox hf
   rw [ev] at s;cases s
   obtain ⟨o,F⟩:=(P.rep.inH a hm).ex
   rw [q4] at F;exact nsE F
 refine ⟨wf.len,wf.sl,wf.sv,wf.okS,fun z hz=>?_,wf.ss,fun j z ez t J=>?_,?_,wf.base,wf.pro,⟨fun u hu hf a Q=>?_,wf.fx.frS,wf.fx.bin,wf.fx.ob,wf.fx.lvS⟩⟩
 ·rcases Cd.mp hz with h | hz
  ·rw [h]
   refine ⟨rx,fun hf=>?_,fun c R=>?_⟩
   ·obtain ⟨m,a,L',v1,v2,v3,v4⟩:=ox hf
    exact ⟨m,a,L',v1,v2,v3,fun _=>.inl (w.h0none v4)⟩
   ·rcases sx c R with h | ⟨C,A,h⟩
    ·exact .inl (w.h0none h)
    ·exact (w.itm (E C A)).src c h
  ·exact wf.okT z hz
 ·rcases Cd.mp J with h | J
  ·rw [h]
   rcases old j z ez with ⟨e1,ap⟩ | ⟨k,p,a1,a2,y⟩
   ·exact kx z (w.okS j z e1) ap
   ·exact (ax z (Ck y)).symm
  ·exact wf.st j z ez t J
 ·exact List.pairwise_cons.mpr ⟨fun t J=>(kx t (w.okT t (Cc _ J)) (kt t J)).symm,wf.tt⟩
 ·rcases Cd.mp hu with h | hu
  ·subst h
   obtain ⟨_,a',L',s,_,_,q4⟩:=ox hf
   rw [Q] at s;cases s
   exact w.ornone q4
  ·exact wf.fx.frT u hu hf a Q
theorem qf {i a:Nat} (h:(ρ[i]?).join=none):((L3.lowAt a ρ)[i]?).join=none:=by
 unfold L3.lowAt
 split
 ·rename_i d hd
  rw [bF (de hd)]
  by_cases b:i=a
  ·subst b;rw [h] at hd;exact nsE hd
  ·rw [if_neg b];exact h
 ·rename_i d hd
  rw [bF (de hd)]
  by_cases b:i=a
  ·subst b;rw [h] at hd;exact nsE hd
  ·rw [if_neg b];exact h
 ·exact h
theorem oj {i:Nat}:∀ {is:List Nat} {ρ:Sto},(ρ[i]?).join=none->((L3.frz is ρ)[i]?).join=none
 | [],ρ,h=>h
 | a :: is,ρ,h=>oj (is:=is) (ρ:=L3.lowAt a ρ) (qf h)
end
end L3
end
section
namespace L3
open PySem L2
def ee (ρ:Sto):Nat->List (D × Fl)->Option (List (D × Fl))
 | _,[]=>some []
 | i,(d,.z) :: ps=>(ee ρ (i+1) ps).map fun r=>(d,.z) :: r
 | i,(d,f) :: ps=>match (ρ[i]?).join,ee ρ (i+1) ps with
  | some (d',f'),some r=>if f'=f\/f'=.z then some ((d',f') :: r) else none
  | _,_=>none
def fj (n:Nat) (ps:List (D × Fl)):Sto:=ps.map some ++ List.replicate (n - ps.length) none
def fn0 (n:Nat) (b:SM):Fn:=fun ps=>match b (fj n ps) with
 | some (.ok .nx,ρ')=>(ee ρ' 0 ps).map fun fs=>(.ok (.non,.z),fs)
 | some (.ok (.rt d f),ρ')=>(ee ρ' 0 ps).map fun fs=>(.ok (d,f),fs)
 | some (.error e,ρ')=>(ee ρ' 0 ps).map fun fs=>(.error e,fs)
 | _=>none
def kJ (b:Bool) (p:D × Fl):D × Fl:=if b then (p.1,.z) else p
noncomputable def fnM (mask:List Bool) (n:Nat) (b:SM):Fn:=fun ps=>if ps.length=mask.length then fn0 n b (List.zipWith kJ mask ps) else none
section
variable {K:FG} {G:Gm} {W:D->Sto->Prop} {H H':Hp} {σ:St} {ρ ρ':Sto} {T T':List It3} {g:Nat->Option It3} {x y z:It3} {α β:Type}
def gOf (H:Hp) (pr:Nat->Bool) (σ0:St) (ps:List It3):Gm:=⟨H,fun b=>∃ p ∈ ps,p.f=.u/\p.v=.ref b,pr,σ0,H,cW ps,fun i=>(ps[i]?).map (·.v)⟩
theorem tj {n:Nat} (a:ps.length<=n) (i:Nat):((fj n ps)[i]?).join=ps[i]?:=by
 unfold fj
 by_cases h:i < ps.length
 ·rw [CJ (by simpa using h),Cn]
  cases ps[i]? <;> rfl
 ·rw [List.getElem?_append_right (by simpa using h),List.getElem?_replicate,List.getElem?_eq_none (by omega)]
  split <;> rfl
theorem kW {n:Nat} {a:List V} {i:Nat} (h:a[i]?=some v):(a.map some ++ List.replicate n (none:Option V))[i]?=some (some v):=by
 obtain ⟨hi,e⟩:=Cj.mp h
 rw [CJ (by simpa using hi),Cn,h]
 rfl
theorem t5 {n:Nat} (s:ps.length<=n) (g:∀ p ∈ ps,Arg K H p) (w:ps.Pairwise Apart3) (k:∀ (i:Nat) (p:It3),ps[i]?=some p->p.f ≠ .z->pr i=true) :
  Wf K (gOf H pr ((ps.map (·.v)).map some ++ List.replicate (n - (ps.map (·.v)).length) none) ps) H ((ps.map (·.v)).map some ++ List.replicate (n - (ps.map (·.v)).length) none) (fj n (ps.map fun p=>(p.d,p.f))) [] (fun i=>ps[i]?):=by
 refine ⟨?_,fun i=>?_,fun i x e=>?_,fun i x e=>?_,fun _ h=>(by cases h),fun i j a b n t l=>?_,fun _ _ _ _ h=>(by cases h),.nil,fun b o e _=>e,fun i _=>rfl,⟨fun _ h=>(by cases h),fun i x e hz hf=>?_,fun b h=>?_,fun b o e=>⟨o,e⟩,fun i x e _=>(by show (ps[i]?).map (·.v)=_;rw [e];rfl)⟩⟩
 ·unfold fj;simp
 ·rw [tj (by simpa using s),Cn]
 ·exact kW (by rw [Cn,e];rfl)
 ·have hm:=Ck e
  refine ⟨(g x hm).rep,fun hf=>?_,fun c r=>.inr ⟨x,hm,r⟩⟩
  obtain ⟨m,a,L',v1,v2,v3⟩:=(g x hm).own hf
  exact ⟨m,a,L',v1,v2,v3,fun hu=>.inr ⟨x,hm,hu,v1⟩⟩
 ·exact (cL w (fun _ _=>Apart3.symm) n t l).1
 ·have hz:pr i=false:=hz
  rw [k i x e hf] at hz;cases hz
 ·obtain ⟨p,hm,hf,u⟩:=h
  obtain ⟨_,a,L',v1,v2,_⟩:=(g p hm).own (by rw [hf];intro q;cases q)
  rw [u] at v1;cases v1
  exact ((g p hm).rep.inH b (by rw [v2];exact B6)).ex
def FinsOk (ρ:Sto) (i:Nat) (ps fs:List (D × Fl)):Prop:=fs.length=ps.length/\∀ (k:Nat) (p:D × Fl),ps[k]?=some p->∃ q,fs[k]?=some q/\(p.2=.z->q=p)/\(p.2 ≠ .z->(ρ[i+k]?).join=some q/\(q.2=p.2\/q.2=.z))
theorem FinsOk.cons {i:Nat} {e d:D × Fl} {ps fs:List (D × Fl)} (h:FinsOk ρ (i+1) ps fs) (hz:e.2=.z->d=e) (g:e.2 ≠ .z->(ρ[i]?).join=some d/\(d.2=e.2\/d.2=.z)):FinsOk ρ i (e :: ps) (d :: fs):=by
 refine ⟨by rw [CA,CA,h.1],fun k p f=>?_⟩
 cases k with
 | zero=>cases f;exact ⟨d,rfl,hz,g⟩
 | succ k =>
  obtain ⟨q,a,b,c⟩:=h.2 k p f
  exact ⟨q,a,b,fun n=>by have:=c n;rwa [show i+1+k=i+(k+1) by omega] at this⟩
theorem jc:∀ {i:Nat} {ps:List (D × Fl)} {fs:List (D × Fl)},ee ρ i ps=some fs->FinsOk ρ i ps fs
 | i,[],fs,e=>by cases e;exact ⟨rfl,fun k p h=>by cases h⟩
 | i,p0 :: ps,fs,e=>by
  obtain ⟨d,f⟩:=p0
  have key:f ≠ .z->(match (ρ[i]?).join,ee ρ (i+1) ps with
    | some (d',a),some r=>if a=f\/a=.z then some ((d',a) :: r) else none
    | _,_=>none)=some fs->FinsOk ρ i ((d,f) :: ps) fs:=fun hf e=>by
   cases h:(ρ[i]?).join with
   | none=>rw [h] at e;exact nsE e
   | some p0 =>
    cases h2:ee ρ (i+1) ps with
    | none=>rw [h,h2] at e;exact nsE e
    | some r =>
     rw [h,h2] at e
     obtain ⟨d',a⟩:=p0
     dsimp only at e
     rcases Decidable.em (a=f\/a=.z) with b | b
     ·rw [if_pos b] at e
      cases e
      exact (jc h2).cons (fun z=>absurd z hf) fun _=>⟨h,b⟩
     ·rw [if_neg b] at e;exact nsE e
  cases f with
  | z =>
   obtain ⟨r,h,h'⟩:=B9.mp (show (ee ρ (i+1) ps).map (fun r=>(d,Fl.z) :: r)=some fs from e)
   subst h'
   exact (jc h).cons (fun _=>rfl) fun n=>absurd rfl n
  | u=>exact key (by intro q;cases q) e
  | l=>exact key (by intro q;cases q) e
theorem jt {P:Nat->α->β->Prop}:∀ (l:List α) (i:Nat),(∀ (k:Nat) a,l[k]?=some a->∃ b,P (i+k) a b)->∃ m:List β,m.length=l.length/\∀ (k:Nat) a,l[k]?=some a->∃ b,m[k]?=some b/\P (i+k) a b
 | [],i,_=>⟨[],rfl,fun k a h=>by simp at h⟩
 | a :: l,i,h=>by
  obtain ⟨b,f⟩:=h 0 a rfl
  obtain ⟨m,h1,h2⟩:=jt l (i+1) fun k a e=>by
   have:=h (k+1) a (by simpa using e)
   rwa [show i+(k+1)=i+1+k by omega] at this
  refine ⟨b :: m,by simp [h1],fun k c e=>?_⟩
  cases k with
  | zero=>simp at e;subst e;exact ⟨b,rfl,f⟩
  | succ k =>
   obtain ⟨d,e1,g⟩:=h2 k c (by simpa using e)
   exact ⟨d,by simpa using e1,by rwa [show i+(k+1)=i+1+k by omega]⟩
theorem Paired.ofGet:∀ {l:List α} {m:List β},l.length=m.length->(∀ (k:Nat) a b,l[k]?=some a->m[k]?=some b->F a b)->Paired F l m
 | [],[],_,_=>.nil
 | [],_ :: _,h,_=>by cases h
 | _ :: _,[],h,_=>by cases h
 | a :: l,b :: m,h,f=>.cons (f 0 a b rfl rfl) (Paired.ofGet (by simpa using h) fun k a b e1 c=>f (k+1) a b (by simpa using e1) (by simpa using c))
theorem oV {n:Nat} {pr:Nat->Bool} {σ0:St} {ps:List It3} {fs:List (D × Fl)} (C:∀ p ∈ ps,Arg K H p) (J:ps.Pairwise Apart3) (S:∀ (i:Nat) (p:It3),ps[i]?=some p->p.f ≠ .z->pr i=true) (h0:∀ (i:Nat) (p:It3),ps[i]?=some p->σ0[i]?=some (some p.v))
  (w:Wf K (gOf H pr σ0 ps) H' σ ρ T g) (e:ee ρ 0 (ps.map fun p=>(p.d,p.f))=some fs) :
  ∃ qs,BehindX K H H' ps qs/\qs.map (fun q=>(q.d,q.f))=fs/\(∀ (k:Nat) (p q:It3),ps[k]?=some p->qs[k]?=some q->(p.f=.z/\q=p)\/(p.f ≠ .z/\g k=some q)):=by
 obtain ⟨hl,hs⟩:=jc e
 rw [Ci] at hl
 have frame:∀ b o,H b=some o->(∀ p ∈ ps,p.f=.u->p.v ≠ .ref b)->H' b=some o:=fun b o x V=>w.base b o x fun ⟨p,hm,hf,t⟩=>V p hm hf t
 have there:∀ b o,H b=some o->∃ o',H' b=some o':=fun b o x=>w.fx.ob b o x
 have G:∀ (k:Nat) (p:It3),ps[k]?=some p->p.f=.z->Rep K H' p.d p.v p.L:=fun k p l hz=>by
  refine (C p (Ck l)).rep.keep (M:=fun b=>∃ p ∈ ps,p.f=.u/\p.v=.ref b) (fun b o x V=>frame b o x fun p J hf t=>V ⟨p,J,hf,t⟩) (fun b ⟨B,hm,hf,t⟩=>?_) fun b x ⟨B,hm,hf,t⟩=>?_
  ·obtain ⟨_,a,L',v1,v2,_⟩:=(C B hm).own (by rw [hf];intro q;cases q)
   rw [t] at v1;cases v1
   exact (C B hm).rep.inH b (by rw [v2];exact B6)
  ·obtain ⟨j,N,I⟩:=List.mem_iff_getElem.mp hm
   have A:ps[j]?=some B:=by rw [Ce N,I]
   have jk:j ≠ k:=fun z=>by subst z;rw [l] at A;cases A;rw [hz] at hf;cases hf
   exact (cL J (fun _ _=>Apart3.symm) jk A l).1 (by rw [hf];intro q;cases q) b t x
 have one:∀ (k:Nat) (p:It3),ps[k]?=some p->∃ q,(q.d,q.f)=(fs[k]?).getD (p.d,p.f)/\fs[k]?=some (q.d,q.f)/\Back1 K H H' ps p q/\((p.f=.z/\q=p)\/(p.f ≠ .z/\g k=some q)):=fun k p l=>by
  have hm:=Ck l
  obtain ⟨X,f1,f2,f3⟩:=hs k (p.d,p.f) (by rw [Cn,l];rfl)
  by_cases hz:p.f=.z
  ·have:=f2 hz
   subst this
   refine ⟨p,by rw [f1];rfl,f1,⟨fun _=>rfl,rfl,.inl rfl,⟨G k p l hz,fun h=>absurd hz h⟩,fun c Q=>.inr ⟨p,hm,Q⟩,fun h=>?_⟩,.inl ⟨hz,rfl⟩⟩
   rw [hz] at h;cases h
  ·obtain ⟨h1,h2⟩:=f3 hz
   rw [Cw] at h1
   obtain ⟨y,y1,Y,R,y4⟩:=w.slot (d:=X.1) (f:=X.2) h1
   have t:y.v=p.v:=by
    have:=w.pro k (S k p l hz)
    rw [y4] at this
    have h0:some (some y.v)=some (some p.v):=this.trans (h0 k p l)
    injection h0 with h0
    injection h0
   have ok:=w.okS k y y1
   refine ⟨y,by rw [f1,Y,R];rfl,by rw [f1,Y,R],⟨fun h=>absurd h hz,t,by rw [R];exact h2,⟨ok.rep,fun hf=>?_⟩,fun c Q=>ok.src c Q,fun hf b x=>?_⟩,.inr ⟨hz,y1⟩⟩
   ·obtain ⟨m,a,L',v1,v2,v3,_⟩:=ok.own hf
    exact ⟨m,a,L',v1,v2,v3⟩
   ·obtain ⟨_,a,L',v1,v2,_⟩:=(C p hm).own hz
    rw [x] at v1;cases v1
    obtain ⟨o,ho⟩:=((C p hm).rep.inH b (by rw [v2];exact B6)).ex
    exact there b o ho
 obtain ⟨qs,hq,E⟩:=jt (P:=fun k p q=>fs[k]?=some (q.d,q.f)/\Back1 K H H' ps p q/\((p.f=.z/\q=p)\/(p.f ≠ .z/\g k=some q))) ps 0 fun k p l=>by
  obtain ⟨q,_,a,b,c⟩:=one k p l
  exact ⟨q,by simpa using ⟨a,b,c⟩⟩
 have get:∀ (k:Nat) (p q:It3),ps[k]?=some p->qs[k]?=some q->fs[k]?=some (q.d,q.f)/\Back1 K H H' ps p q/\((p.f=.z/\q=p)\/(p.f ≠ .z/\g k=some q)):=fun k p q s eq=>by
  obtain ⟨q',e1,e2⟩:=E k p s
  rw [eq] at e1
  cases e1
  simpa using e2
 have par:∀ (k:Nat) (q:It3),qs[k]?=some q->∃ p,ps[k]?=some p:=fun k q e=>by
  have W:=(Cj.mp e).1
  exact ⟨ps[k]'(by omega),by simp [show k < ps.length by omega]⟩
 refine ⟨qs,⟨frame,Paired.ofGet hq.symm fun k p q s eq=>(get k p q s eq).2.1,?_⟩,?_,fun k p q s eq=>(get k p q s eq).2.2⟩
 ·rw [List.pairwise_iff_getElem]
  intro k j W N lt
  have l:qs[k]?=some qs[k]:=Ce W
  have I:qs[j]?=some qs[j]:=Ce N
  have side:∀ (k j:Nat) (q r:It3),k ≠ j->qs[k]?=some q->qs[j]?=some r->NoRoot q r:=fun k j q r n eq Z=>by
   obtain ⟨p,s⟩:=par k q eq
   obtain ⟨B,F⟩:=par j r Z
   obtain ⟨_,b,c⟩:=get k p q s eq
   obtain ⟨_,b',c'⟩:=get j B r F Z
   rcases c with ⟨hz,e⟩ | ⟨hz,e⟩
   ·rw [e];exact fun h=>absurd hz h
   ·rcases c' with ⟨U,O⟩ | ⟨U,O⟩
    ·rw [O]
     intro hf a ea
     exact (cL J (fun _ _=>Apart3.symm) n s F).1 hz a (by rw [<- b.v];exact ea)
    ·exact w.ss k j q r n e O
  exact ⟨side k j _ _ (Cq lt) l I,side j k _ _ (Nat.ne_of_gt lt) I l⟩
 ·refine List.ext_getElem? fun k=>?_
  rw [Cn]
  cases eq:qs[k]? with
  | none =>
   have:qs.length<=k:=List.getElem?_eq_none_iff.mp eq
   rw [List.getElem?_eq_none (by omega)]
   rfl
  | some q =>
   obtain ⟨p,s⟩:=par k q eq
   rw [(get k p q s eq).1]
   rfl
theorem qG {n:Nat} {pr:Nat->Bool} {σ0:St} {ps:List It3} {fs:List (D × Fl)} (s:∀ p ∈ ps,Arg K H p) (E:ps.Pairwise Apart3) (j:∀ (i:Nat) (p:It3),ps[i]?=some p->p.f ≠ .z->pr i=true) (h0:∀ (i:Nat) (p:It3),ps[i]?=some p->σ0[i]?=some (some p.v))
  (w:Wf K (gOf H pr σ0 ps) H' σ ρ (x :: T) g) (e:ee ρ 0 (ps.map fun p=>(p.d,p.f))=some fs):∃ qs,Behind K H H' ps qs x/\qs.map (fun q=>(q.d,q.f))=fs:=by
 obtain ⟨qs,B,f,A⟩:=oV (n:=n) s E j h0 w e
 have ok:=w.okT x B6
 refine ⟨qs,⟨B,ok.rep,fun hf=>?_,fun c C=>ok.src c C,fun q t=>?_⟩,f⟩
 ·obtain ⟨m,a,L',v1,v2,v3,_⟩:=ok.own hf
  exact ⟨m,a,L',v1,v2,v3,w.fx.frT x B6 hf a v1⟩
 ·obtain ⟨k,y,F⟩:=List.mem_iff_getElem.mp t
  have eq:qs[k]?=some q:=by rw [Ce y,F]
  obtain ⟨p,r,b⟩:=Paired.exR B.back eq
  rcases A k p q r eq with ⟨hz,e⟩ | ⟨hz,e⟩
  ·rw [e]
   refine ⟨fun hf a u hm=>?_,fun h=>absurd hz h⟩
   have h1:=w.fx.frT x B6 hf a u
   obtain ⟨o,l⟩:=((s p (Ck r)).rep.inH a hm).ex
   have h2:H a=none:=h1
   rw [h2] at l;exact nsE l
  ·exact (w.st k q e x B6).symm
end
end L3
end
section
namespace L3
open PySem L2
def bX:Fl->Fl
 | .u=>.l
 | f=>f
def bc (x:It3):It3:={ x with f:=bX x.f }
def eD:Fl->Fl
 | .l=>.u
 | f=>f
def wR (x:It3):It3:={ x with f:=eD x.f }
def iw (h:Fl->Fl) (i:Nat) (ρ:Sto):Sto:=match (ρ[i]?).join with
 | some (d,f)=>ρ.set i (some (d,h f))
 | none=>ρ
def aB (h:Fl->Fl) (is:List Nat) (ρ:Sto):Sto:=is.foldl (fun ρ i=>iw h i ρ) ρ
def us (ρ:Sto) (is:List Nat):List Nat:=is.filter fun i=>match (ρ[i]?).join with
 | some (_,.u)=>true
 | _=>false
theorem lentF_z:bX f=.z ↔ f=.z:=by cases f <;> simp [bX]
theorem unlF_z:eD f=.z ↔ f=.z:=by cases f <;> simp [eD]
theorem rg (f:Fl):bX f ≠ .u:=by cases f <;> simp [bX]
theorem zx (f:Fl):eD f ≠ .l:=by cases f <;> simp [eD]
section
variable {K:FG} {G G0:Gm} {W W0:D->Sto->Prop} {H H':Hp} {σ:St} {ρ ρ':Sto} {T T':List It3} {g:Nat->Option It3} {x y z:It3} {α β:Type}
theorem p8 {i j:Nat}:((iw h i ρ)[j]?).join=if j=i then ((ρ[j]?).join).map (fun p=>(p.1,h p.2)) else (ρ[j]?).join:=by
 unfold iw
 cases e:(ρ[i]?).join with
 | none =>
  by_cases q:j=i
  ·subst q;rw [if_pos rfl,e];rfl
  ·rw [if_neg q]
 | some p =>
  obtain ⟨d,f⟩:=p
  dsimp only
  rw [bF (de e)]
  by_cases q:j=i
  ·subst q;rw [if_pos rfl,if_pos rfl,e];rfl
  ·rw [if_neg q,if_neg q]
theorem sL {i:Nat}:(iw h i ρ).length = ρ.length:=by
 unfold iw
 split
 ·rw [List.length_set]
 ·rfl
theorem fG (a:∀ f,h (h f)=h f):∀ {is:List Nat} {ρ:Sto} {j:Nat},((aB h is ρ)[j]?).join=if j ∈ is then ((ρ[j]?).join).map (fun p=>(p.1,h p.2)) else (ρ[j]?).join
 | [],ρ,j=>by simp [aB]
 | i :: is,ρ,j=>by
  have e:aB h (i :: is) ρ=aB h is (iw h i ρ):=rfl
  rw [e,fG a,p8]
  by_cases q:j=i
  ·subst q
   by_cases m:j ∈ is
   ·rw [if_pos m,if_pos rfl,if_pos B6]
    cases (ρ[j]?).join with
    | none=>rfl
    | some p=>simp [a]
   ·rw [if_neg m,if_pos rfl,if_pos B6]
  ·by_cases m:j ∈ is
   ·rw [if_pos m,if_neg q,if_pos (B7 _ m)]
   ·rw [if_neg m,if_neg q,if_neg (fun z=>(Cd.mp z).elim q m)]
theorem gr:∀ {is:List Nat} {ρ:Sto},(aB h is ρ).length = ρ.length
 | [],ρ=>rfl
 | i :: is,ρ=>by
  have e:aB h (i :: is) ρ=aB h is (iw h i ρ):=rfl
  rw [e,gr,sL]
def dD (G:Gm) (H:Hp) (g:Nat->Option It3) (is:List Nat):Gm :=
 ⟨H,fun b=>∃ j y,j ∉ is/\g j=some y/\y.f=.u/\y.v=.ref b,G.pr,G.σ0,G.orig,fun c=>G.H0 c=none\/G.src c,fun j=>if j ∈ is then (g j).map (·.v) else G.lv j⟩
structure Fk (x y:It3):Prop where
 d:y.d=x.d
 v:y.v=x.v
 L:y.L=x.L
 z:y.f=.z ↔ x.f=.z
theorem Fk.noRoot (a:Fk x x') (b:Fk y y') (h:NoRoot x y):NoRoot x' y':=fun hf c e=>by
 rw [b.L]
 exact h (fun q=>hf (a.z.mpr q)) c (by rw [<- a.v];exact e)
theorem Fk.apart (a:Fk x x') (b:Fk y y') (h:Apart3 x y):Apart3 x' y':=⟨a.noRoot b h.1,b.noRoot a h.2⟩
theorem Fk.refl (x:It3):Fk x x:=⟨rfl,rfl,rfl,Iff.rfl⟩
theorem jR (x:It3):Fk x (bc x):=⟨rfl,rfl,rfl,lentF_z⟩
theorem BG (x:It3):Fk x (wR x):=⟨rfl,rfl,rfl,unlF_z⟩
theorem nN {o:Option It3} {h:Fl->Fl} (e:o.map (fun x=>(x.d,x.f))=p):(o.map fun x=>{ x with f:=h x.f }).map (fun x:It3=>(x.d,x.f))=p.map fun p=>(p.1,h p.2):=by
 subst e
 cases o <;> rfl
theorem Wf.enter (w:Wf K G H σ ρ T g) (is:List Nat):Wf K (dD G H g is) H σ (aB bX is ρ) (T.map bc) (fun j=>if j ∈ is then (g j).map bc else g j):=by
 have val:∀ j u,(if j ∈ is then (g j).map bc else g j)=some u->∃ l,g j=some l/\Fk l u/\((j ∈ is/\u=bc l)\/(j ∉ is/\u=l)):=fun j u h=>by
  by_cases q:j ∈ is
  ·rw [if_pos q] at h
   obtain ⟨l,e1,B⟩:=B9.mp h
   subst B
   exact ⟨l,e1,jR l,.inl ⟨q,rfl⟩⟩
  ·rw [if_neg q] at h
   exact ⟨u,h,Fk.refl u,.inr ⟨q,rfl⟩⟩
 refine ⟨by rw [gr];exact w.len,fun j=>?_,fun j u h=>?_,fun j u h=>?_,fun u hu=>?_,fun i j a b n J p=>?_,fun j a h b p=>?_,?_,fun b o e _=>e,w.pro,⟨fun u hu hf a s=>?_,fun j u h E hf a s=>?_,fun b p=>?_,w.fx.ob,fun j u h C=>?_⟩⟩
 ·rw [fG (by intro f;cases f <;> rfl)]
  by_cases q:j ∈ is
  ·rw [if_pos q,if_pos q];exact nN (w.sl j)
  ·rw [if_neg q,if_neg q];exact w.sl j
 ·obtain ⟨l,e,k,_⟩:=val j u h
  rw [k.v];exact w.sv j l e
 ·obtain ⟨l,e,k,c⟩:=val j u h
  have ok:=w.okS j l e
  refine ⟨by rw [k.d,k.v,k.L];exact ok.rep,fun hf=>?_,fun c x=>.inr (ok.src c (by rw [<- k.L];exact x))⟩
  obtain ⟨m,a,L',v1,v2,v3,_⟩:=ok.own (fun q=>hf (k.z.mpr q))
  refine ⟨by rw [k.d];exact m,a,L',by rw [k.v];exact v1,by rw [k.L];exact v2,v3,fun hu=>?_⟩
  rcases c with ⟨_,rfl⟩ | ⟨F,rfl⟩
  ·exact absurd hu (rg _)
  ·exact .inr ⟨j,u,F,e,hu,v1⟩
 ·obtain ⟨l,h0,rfl⟩:=Cm.mp hu
  have ok:=w.okT l h0
  refine ⟨ok.rep,fun hf=>?_,fun c x=>.inr (ok.src c x)⟩
  obtain ⟨m,a,L',v1,v2,v3,_⟩:=ok.own (fun q=>hf (lentF_z.mpr q))
  exact ⟨m,a,L',v1,v2,v3,fun hu=>absurd hu (rg _)⟩
 ·obtain ⟨t,e1,A,_⟩:=val i a J
  obtain ⟨r,B,I,_⟩:=val j b p
  exact A.noRoot I (w.ss i j t r n e1 B)
 ·obtain ⟨t,e1,A,_⟩:=val j a h
  obtain ⟨r,h0,rfl⟩:=Cm.mp p
  exact A.apart (jR r) (w.st j t e1 r h0)
 ·rw [List.pairwise_map]
  exact w.tt.imp fun {a b} h=>(jR a).apart (jR b) h
 ·obtain ⟨l,h0,rfl⟩:=Cm.mp hu
  exact w.fx.frT l h0 (fun q=>hf (lentF_z.mpr q)) a s
 ·obtain ⟨l,e,k,_⟩:=val j u h
  exact w.fx.frS j l e E (fun q=>hf (k.z.mpr q)) a (by rw [<- k.v];exact s)
 ·obtain ⟨j,y,_,e,hf,D⟩:=p
  obtain ⟨_,a,L',v1,v2,_⟩:=(w.okS j y e).own (by rw [hf];intro q;cases q)
  rw [D] at v1;cases v1
  exact ((w.okS j y e).rep.inH b (by rw [v2];exact B6)).ex
 ·obtain ⟨l,e,k,c⟩:=val j u h
  show (if j ∈ is then (g j).map (·.v) else G.lv j)=_
  rcases c with ⟨q,rfl⟩ | ⟨q,rfl⟩
  ·rw [if_pos q,e];rfl
  ·rw [if_neg q];exact w.fx.lvS j u e C
theorem Wf.leave (w:Wf K G H σ ρ T g) (E:∀ i ∈ is,∀ y,g i=some y->y.f=.u) (O:T'.Sublist T) (p:Wf K (dD G H g is) H' σ' ρ2 (R ++ T'.map bc) g2) :
  Wf K G H' σ' (aB eD is ρ2) (R ++ T') (fun j=>if j ∈ is then (g2 j).map wR else g2 j):=by
 have val:∀ j u,(if j ∈ is then (g2 j).map wR else g2 j)=some u->∃ r,g2 j=some r/\Fk r u/\((j ∈ is/\u=wR r)\/(j ∉ is/\u=r)):=fun j u h=>by
  by_cases q:j ∈ is
  ·rw [if_pos q] at h
   obtain ⟨r,e1,J⟩:=B9.mp h
   subst J
   exact ⟨r,e1,BG r,.inl ⟨q,rfl⟩⟩
  ·rw [if_neg q] at h
   exact ⟨u,h,Fk.refl u,.inr ⟨q,rfl⟩⟩
 have may:∀ a,H a=none\/(∃ j y,j ∉ is/\g j=some y/\y.f=.u/\y.v=.ref a)->G.H0 a=none\/G.bw a:=fun a h=>by
  rcases h with h | ⟨j,y,_,e,hf,hv⟩
  ·exact .inl (w.h0none h)
  ·obtain ⟨_,X,L',v1,_,_,v4⟩:=(w.okS j y e).own (by rw [hf];intro q;cases q)
   rw [hv] at v1;cases v1
   exact v4 hf
 have t:∀ c,H c=none\/(G.H0 c=none\/G.src c)->G.H0 c=none\/G.src c:=fun c h=>by
  rcases h with h | h
  ·exact .inl (w.h0none h)
  ·exact h
 have N:∀ x ∈ T',x ∈ T:=fun x S=>O.subset S
 have F:∀ b o,H b=some o->∃ o',H' b=some o':=fun b o s=>by
  by_cases q:∃ j y,j ∉ is/\g j=some y/\y.f=.u/\y.v=.ref b
  ·exact p.fx.bin b q
  ·exact ⟨o,p.base b o s q⟩
 refine ⟨by rw [gr];exact p.len,fun j=>?_,fun j u h=>?_,fun j u h=>?_,fun u hu=>?_,fun i j a b n M s=>?_,fun j a h b s=>?_,?_,fun b o e n=>?_,p.pro,⟨fun u hu=>?_,fun j u h hp hf a W=>?_,fun b s=>?_,p.fx.ob,fun j u h A=>?_⟩⟩
 ·rw [fG (by intro f;cases f <;> rfl)]
  by_cases q:j ∈ is
  ·rw [if_pos q,if_pos q];exact nN (p.sl j)
  ·rw [if_neg q,if_neg q];exact p.sl j
 ·obtain ⟨r,e,k,_⟩:=val j u h
  rw [k.v];exact p.sv j r e
 ·obtain ⟨r,e,k,c⟩:=val j u h
  have ok:=p.okS j r e
  refine ⟨by rw [k.d,k.v,k.L];exact ok.rep,fun hf=>?_,fun c I=>t c (ok.src c (by rw [<- k.L];exact I))⟩
  obtain ⟨m,a,L',v1,v2,v3,v4⟩:=ok.own (fun q=>hf (k.z.mpr q))
  refine ⟨by rw [k.d];exact m,a,L',by rw [k.v];exact v1,by rw [k.L];exact v2,v3,fun hu=>?_⟩
  rcases c with ⟨q,rfl⟩ | ⟨nj,rfl⟩
  ·cases B:r.f with
   | u=>exact may a (v4 B)
   | l =>
    have A:=p.fx.lvS j r e B
    have A:(if j ∈ is then (g j).map (·.v) else G.lv j)=some r.v:=A
    rw [if_pos q] at A
    obtain ⟨y,P,ev⟩:=B9.mp A
    have Q:=E j q y P
    obtain ⟨_,X,Y,b1,_,_,Z⟩:=(w.okS j y P).own (by rw [Q];intro q;cases q)
    rw [ev,v1] at b1;cases b1
    exact Z Q
   | z=>exact absurd (unlF_z.mpr B) hf
  ·exact may a (v4 hu)
 ·rcases Cg.mp hu with hu | hu
  ·have ok:=p.okT u (Ca _ hu)
   refine ⟨ok.rep,fun hf=>?_,fun c I=>t c (ok.src c I)⟩
   obtain ⟨m,a,L',v1,v2,v3,v4⟩:=ok.own hf
   exact ⟨m,a,L',v1,v2,v3,fun h=>may a (v4 h)⟩
  ·have ok:=w.okT u (N u hu)
   exact ⟨(p.okT (bc u) (Cc _ (Cm.mpr ⟨u,hu,rfl⟩))).rep,ok.own,ok.src⟩
 ·obtain ⟨C,e1,D,_⟩:=val i a M
  obtain ⟨U,J,k2,_⟩:=val j b s
  exact D.noRoot k2 (p.ss i j C U n e1 J)
 ·obtain ⟨C,e1,D,_⟩:=val j a h
  rcases Cg.mp s with s | s
  ·exact D.apart (Fk.refl b) (p.st j C e1 b (Ca _ s))
  ·have:=p.st j C e1 (bc b) (Cc _ (Cm.mpr ⟨b,s,rfl⟩))
   exact D.apart (y:=bc b) ⟨rfl,rfl,rfl,lentF_z.symm⟩ this
 ·have h:=List.pairwise_append.mp p.tt
  refine List.pairwise_append.mpr ⟨h.1,w.tt.sublist O,fun a M b s=>?_⟩
  exact (Fk.refl a).apart (y:=bc b) ⟨rfl,rfl,rfl,lentF_z.symm⟩ (h.2.2 a M (bc b) (Cm.mpr ⟨b,s,rfl⟩))
 ·have s:=w.base b o e n
  refine p.base b o s fun q=>?_
  rcases may b (.inr q) with h | h
  ·rw [e] at h;cases h
  ·exact n h
 ·rcases Cg.mp hu with hu | hu
  ·exact p.fx.frT u (Ca _ hu)
  ·exact w.fx.frT u (N u hu)
 ·obtain ⟨r,e,k,_⟩:=val j u h
  exact p.fx.frS j r e hp (fun q=>hf (k.z.mpr q)) a (by rw [<- k.v];exact W)
 ·obtain ⟨o,V⟩:=w.fx.bin b s
  exact F b o V
 ·obtain ⟨r,e,k,c⟩:=val j u h
  rcases c with ⟨q,rfl⟩ | ⟨q,rfl⟩
  ·exact absurd A (zx _)
  ·have:=p.fx.lvS j u e A
   have this:(if j ∈ is then (g j).map (·.v) else G.lv j)=some u.v:=this
   rw [if_neg q] at this
   exact this
theorem yB (w:Wf K G H σ ρ T g) (a:∀ i ∈ is,∀ y,g i=some y->y.f=.u):∀ (H':Hp) (σ':St) (ρ2:Sto) (b:List It3) (g2:Nat->Option It3),Wf K (dD G H g is) H' σ' ρ2 b g2->∃ g3,Wf K G H' σ' (aB eD is ρ2) [] g3 :=
 fun H' σ' ρ2 b g2 c=>⟨_,by simpa using Wf.leave (T':=[]) (R:=[]) w a (List.nil_sublist T) (by simpa using c.sub (List.nil_sublist b))⟩
end
end L3
end
section
namespace L3
open PySem L2
section
variable {K:FG} {G G0:Gm} {W W0:D->Sto->Prop} {H H':Hp} {σ:St} {ρ ρ':Sto} {T T':List It3} {g:Nat->Option It3} {x y z:It3} {α β:Type}
def Walk (K:FG) (J:It) (H1:Hp) (ys:List It3) (ds:List D):Prop:=∃ els:List It3,(∀ x ∈ els,x.f=.z/\Rep K H1 x.d x.v x.L/\∀ c ∈ x.L,cC ys c) /\
 ∀ (M:Addr->Prop) (H':Hp),(∀ b,M b->MutAt H1 b)->(∀ b o,H1 b=some o->¬ M b->H' b=some o)->(∀ y ∈ ys,∀ b ∈ y.L,¬ M b) ->
  (∀ (i:Nat) (d:D),ds[i]?=some d->J.go i H'/\∀ x a,J.yld i H' x a->∃ w,New K H' a (cW els) w/\w.d=d/\w.f=.z/\w.v=x)/\J.stop ds.length H'
abbrev IM:=M3 (List R3 × List D)
def EndI (K:FG) (G:Gm) (W:D->Sto->Prop) (σ:St) (T:List It3) (ρ':Sto) (R:It->Hp->Prop):Except D (List R3 × List D)->Prop
 | .ok p=>∀ J H1 a Ts g1 ys,Wf K G H1 σ ρ' (Ts ++ T) g1->Ars σ p.1 a Ts->(∀ y ∈ ys,(∃ i,i ∈ pls p.1/\g1 i=some y)\/y ∈ Ts)->Walk K J H1 ys p.2->R J H1
 | .error e=>W e ρ'
def tI (K:FG) (G0:Gm) (W0:D->Sto->Prop) (m:IM):TI:=fun σ H R=>∃ G W,Le K G W G0 W0/\∃ ρ T g r ρ',Wf K G H σ ρ T g/\m ρ=some (r,ρ')/\EndI K G W σ T ρ' R r
theorem tI.seq (le:Le K G W G0 W0) (w:Wf K G H σ ρ T g) (e:ac m k ρ=some (r,ρ')) (he:∀ x,r=.error x->W x ρ') (h:∀ p ρ1,k p ρ1=some (r,ρ')->EndI K G W σ T ρ1 P (.ok p)):tI K G0 W0 m σ H P:=by
 unfold ac at e
 cases q:m ρ with
 | none=>rw [q] at e;exact nsE e
 | some p =>
  obtain ⟨o,ρ1⟩:=p
  rw [q] at e
  cases o with
  | error x=>cases e;exact ⟨G,W,le,ρ,T,g,.error x,ρ',w,q,he x rfl⟩
  | ok ra=>exact ⟨G,W,le,ρ,T,g,.ok ra,ρ1,w,q,h ra ρ1 e⟩
def Bnd (K:FG) (pr:Nat->Bool) (tg:TG) (bnd:D->Sto->Option Sto):Prop:=∀ (G:Gm) (H:Hp) (σ:St) (ρ ρ1:Sto) (T:List It3) (g:Nat->Option It3) (w:It3) (Q:St->Hp->Prop),G.pr=pr->w.f=.z->Wf K G H σ ρ (w :: T) g->bnd w.d ρ=some ρ1 ->
 (∀ σ2 g2,Wf K G H σ2 ρ1 T g2->Q σ2 H)->tg w.v σ H Q
def ao (i:Nat) (d:D) (ρ:Sto):Option Sto:=if i < ρ.length then some (ρ.set i (some (d,.z))) else none
theorem iG {i:Nat} (b:pr i=false):Bnd K pr (rC i) (ao i):=fun G H σ ρ ρ1 T g w Q a hz wf e q=>by
 unfold ao at e
 split at e
 ·rename_i hi
  cases e
  exact q _ _ (wf.store (f:=.z) hi (by rw [a];exact b) (.inr rfl) (by intro h;cases h))
 ·exact nsE e
def wP (K:FG) (pr:Nat->Bool) (tg:TGs) (bnd:List D->Sto->Option Sto):Prop:=∀ (G:Gm) (H:Hp) (σ:St) (ρ ρ1:Sto) (T:List It3) (g:Nat->Option It3) (ws:List It3) (Q:St->Hp->Prop),G.pr=pr->(∀ w ∈ ws,w.f=.z)->Wf K G H σ ρ (ws ++ T) g->bnd (ws.map (·.d)) ρ=some ρ1 ->
 (∀ σ2 g2,Wf K G H σ2 ρ1 T g2->Q σ2 H)->tg (ws.map (·.v)) σ H Q
def d6:List D->Sto->Option Sto
 | [],ρ=>some ρ
 | _,_=>none
def aY (b:D->Sto->Option Sto) (bs:List D->Sto->Option Sto):List D->Sto->Option Sto
 | [],_=>none
 | d :: ds,ρ=>match b d ρ with
  | some ρ1=>bs ds ρ1
  | none=>none
theorem oT:wP K pr BD d6:=fun G H σ ρ ρ1 T g ws Q _ _ wf e q=>by
 cases ws with
 | nil=>cases e;exact ⟨rfl,q _ _ wf⟩
 | cons w ws=>exact nsE e
theorem jj (h1:Bnd K pr tg b) (h2:wP K pr tgs bs):wP K pr (rD tg tgs) (aY b bs):=fun G H σ ρ ρ1 T g ws Q a hz wf e q=>by
 cases ws with
 | nil=>exact nsE e
 | cons w ws =>
  have e:(match b w.d ρ with | some ρ1=>bs (ws.map (·.d)) ρ1 | none=>none)=some ρ1:=e
  cases c:b w.d ρ with
  | none=>rw [c] at e;exact nsE e
  | some ρ2 =>
   rw [c] at e
   exact ⟨w.v,ws.map (·.v),rfl,h1 G H σ ρ ρ2 (ws ++ T) g w _ a (hz w B6) wf c fun σ2 g2 h=>h2 G H σ2 ρ2 ρ1 T g2 ws Q a (fun x f=>hz x (B7 _ f)) h e q⟩
def eW (n:Nat) (bs:List D->Sto->Option Sto):D->Sto->Option Sto
 | .tup ds,ρ=>if ds.length=n then bs ds ρ else none
 | _,_=>none
theorem Reps.split:∀ {ds:List D} {b:List V} {L:List Addr},Reps (Rep K H) ds b L->∃ ws:List It3,ws.map (·.d)=ds/\ws.map (·.v)=b/\(∀ w ∈ ws,w.f=.z/\Rep K H w.d w.v w.L/\∀ c ∈ w.L,c ∈ L)
 | _,_,_,.nil=>⟨[],rfl,rfl,fun _ h=>(by cases h)⟩
 | _,_,_,.cons (d:=d) (v:=v) (L:=L) r rs=>by
  obtain ⟨ws,h1,h2,h3⟩:=Reps.split rs
  refine ⟨⟨d,v,L,.z⟩ :: ws,by simp [h1],by simp [h2],fun w hw=>?_⟩
  rcases Cd.mp hw with h | h
  ·subst h;exact ⟨rfl,r,fun c a=>Ca _ a⟩
  ·exact ⟨(h3 w h).1,(h3 w h).2.1,fun c a=>Cc _ ((h3 w h).2.2 c a)⟩
theorem Wf.pushAll:∀ {ws:List It3} {T:List It3},Wf K G H σ ρ T g->(∀ w ∈ ws,w.f=.z/\Rep K H w.d w.v w.L/\∀ c ∈ w.L,df T g c/\(G.H0 c=none\/G.src c))->Wf K G H σ ρ (ws ++ T) g
 | [],T,w,_=>w
 | x :: ws,T,w,h=>by
  have i:=Wf.pushAll (ws:=ws) w fun y a=>h y (B7 _ a)
  obtain ⟨hz,e,b⟩:=h x B6
  refine i.push (Ks:=fun c=>c ∈ x.L) ⟨Same.refl _,e,fun c h=>.inr h,fun q=>absurd hz q⟩ fun c m=>⟨⟨(b c m).1.1,fun y a hf=>?_⟩,(b c m).2⟩
  rcases Cg.mp a with q | q
  ·exact absurd (h y (B7 _ q)).1 hf
  ·exact (b c m).1.2 y q hf
theorem rN {n:Nat} (h2:wP K pr tgs bs):Bnd K pr (yH K n tgs) (eW n bs):=fun G H σ ρ ρ1 T g w Q j hz wf e q=>by
 have r:=(wf.okT w B6).rep
 obtain ⟨d,v,L,f⟩:=w
 cases r with
 | @tup xs a vs _ hs rs =>
  have e:(if xs.length=n then bs xs ρ else none)=some ρ1:=e
  split at e
  ·rename_i o
   obtain ⟨ws,h1,h3,h⟩:=Reps.split rs
   refine ⟨a,vs,rfl,SqT.of hs,?_,?_⟩
   ·rw [<- h3,Ci,<- o,<- h1,Ci]
   ·have l:Wf K G H σ ρ (ws ++ (⟨.tup xs,.ref a,L,f⟩ :: T)) g:=wf.pushAll fun u hu=>⟨(h u hu).1,(h u hu).2.1,fun c k=>⟨wf.kid (y:=⟨.tup xs,.ref a,L,f⟩) (.inr B6) ((h u hu).2.2 c k) fun hf=>absurd hz hf,(wf.okT _ B6).src c ((h u hu).2.2 c k)⟩⟩
    have m:Wf K G H σ ρ (ws ++ T) g:=l.sub ((List.Sublist.refl ws).append (List.sublist_cons_self _ _))
    rw [<- h3]
    exact h2 G H σ ρ ρ1 T g ws Q j (fun u hu=>(h u hu).1) m (by rw [h1];exact e) q
  ·exact nsE e
 | non=>exact nsE e
 | bl b=>exact nsE e
 | int i=>exact nsE e
 | str s=>exact nsE e
 | lst _ _=>exact nsE e
 | lstF _ _=>exact nsE e
 | dK _ _ _=>exact nsE e
 | dT _ _ _=>exact nsE e
 | exc _ _=>exact nsE e
noncomputable def b8 (bnd:D->Sto->Option Sto) (b:SM):List D->SM
 | []=>aO .nx
 | d :: ds=>fun ρ=>match bnd d ρ with
  | none=>none
  | some ρ1=>ac b (fun f=>match f with
   | .nx=>b8 bnd b ds
   | .ct=>b8 bnd b ds
   | .br=>aO .nx
   | .rt d f=>aO (.rt d f)) ρ1
noncomputable def cJ (im:IM) (bnd:D->Sto->Option Sto) (b:SM):SM:=ac im fun p=>fun ρ=>(b8 bnd b p.2 (aB bX (us ρ (pls p.1)) ρ)).map fun r=>(r.1,aB eD (us ρ (pls p.1)) r.2)
theorem us_u (w:Wf K G H σ ρ T g):∀ i ∈ us ρ is,∀ y,g i=some y->y.f=.u:=fun i hi y a=>by
 have h:=(CI.mp hi).2
 have s:=w.sl i
 rw [a] at s
 have s:some (y.d,y.f)=(ρ[i]?).join:=s
 rw [<- s] at h
 cases hf:y.f with
 | u=>rfl
 | l=>rw [hf] at h;cases h
 | z=>rw [hf] at h;cases h
theorem t6 {i:Nat} (w:Wf K G H σ ρ T g) (hi:i ∈ is) (a:g i=some y) (hf:y.f=.u):i ∈ us ρ is:=by
 refine CI.mpr ⟨hi,?_⟩
 have s:=w.sl i
 rw [a] at s
 have s:some (y.d,y.f)=(ρ[i]?).join:=s
 rw [<- s,hf]
theorem zK (U:Bnd K G0.pr tg bnd) (h:tS K G0 W0 (cJ im bnd b) E σ H):tFor (tI K G0 W0 im) tg (tS K G0 W0 b) E σ H:=by
 refine h.use fun G W le ρ T g r ρ' w e q=>?_
 refine tI.seq le w e q.err fun p ρ1 e1=>?_
 intro J H1 vs Ts g1 ys A a1 Z hw
 have Q:=us_u (is:=pls p.1) A
 have ax:∀ i y,i ∈ pls p.1->g1 i=some y->y.f=.u->i ∈ us ρ1 (pls p.1):=fun i y hi ey hf=>t6 A hi ey hf
 generalize us ρ1 (pls p.1)=is at e1 Q ax
 have w2:=A.enter is
 obtain ⟨els,n,walk⟩:=hw
 have hM:∀ b,(∃ j y,j ∉ is/\g1 j=some y/\y.f=.u/\y.v=.ref b)->MutAt H1 b:=fun b ⟨j,y,_,ey,hf,B⟩=>by
  obtain ⟨_,a,L',v1,v2,_⟩:=(A.okS j y ey).own (by rw [hf];intro q;cases q)
  rw [B] at v1;cases v1
  exact (A.okS j y ey).rep.inH b (by rw [v2];exact B6)
 have ar:∀ y ∈ ys,∀ b ∈ y.L,¬ ∃ j y,j ∉ is/\g1 j=some y/\y.f=.u/\y.v=.ref b:=fun y t b U ⟨j,y',nj,C,hf,B⟩=>by
  have a0:y'.f ≠ .z:=by rw [hf];intro q;cases q
  rcases Z y t with ⟨i,hi,X⟩ | t
  ·by_cases ij:i=j
   ·subst ij
    rw [X] at C;cases C
    exact nj (ax i y hi X hf)
   ·exact A.ss j i y' y (Ne.symm ij) C X a0 b B U
  ·exact (A.st j y' C y (Ca _ t)).1 a0 b B U
 have az:∀ y ∈ ys,Itm (Ts ++ T) g1 y:=fun y t=>by
  rcases Z y t with ⟨i,_,X⟩ | h
  ·exact .inl ⟨i,X⟩
  ·exact .inr (Ca _ h)
 have kid:∀ x ∈ els,∀ c ∈ x.L,df ((Ts ++ T).map bc) (fun j=>if j ∈ is then (g1 j).map bc else g1 j) c/\(H1 c=none\/(G.H0 c=none\/G.src c)):=fun x hx c Y=>by
  obtain ⟨nr,sr⟩:=A.kids az ((n x hx).2.2 c Y)
  refine ⟨⟨fun i z ez hf B=>?_,fun z hz hf B=>?_⟩,.inr sr⟩
  ·have ez:(if i ∈ is then (g1 i).map bc else g1 i)=some z:=ez
   by_cases q:i ∈ is
   ·rw [if_pos q] at ez
    obtain ⟨z0,e0,e1⟩:=B9.mp ez
    subst e1
    exact nr.1 i z0 e0 (fun q=>hf (lentF_z.mpr q)) B
   ·rw [if_neg q] at ez
    exact nr.1 i z ez hf B
  ·obtain ⟨z0,h0,rfl⟩:=Cm.mp hz
   exact nr.2 z0 h0 (fun q=>hf (lentF_z.mpr q)) B
 have w3:Wf K (dD G H1 g1 is) H1 σ (aB bX is ρ1) (els ++ (Ts ++ T).map bc) (fun j=>if j ∈ is then (g1 j).map bc else g1 j):=w2.pushAll fun x hx=>⟨(n x hx).1,(n x hx).2.1,fun c Y=>kid x hx c Y⟩
 cases e2:b8 bnd b p.2 (aB bX is ρ1) with
 | none=>rw [e2] at e1;exact nsE e1
 | some rr =>
  obtain ⟨r2,ρ3⟩:=rr
  rw [e2] at e1
  have er:r2=r/\aB eD is ρ3 = ρ':=by cases e1;exact ⟨rfl,rfl⟩
  obtain ⟨rfl,eρ⟩:=er
  have leave:∀ {σ':St} {H':Hp} {ρ2:Sto} {g2:Nat->Option It3} {R:List It3},Wf K (dD G H1 g1 is) H' σ' ρ2 (R ++ (els ++ (Ts ++ T).map bc)) g2->∃ g3,Wf K G H' σ' (aB eD is ρ2) (R ++ T) g3:=fun {σ' H' ρ2 g2 R} F =>
   ⟨_,Wf.leave (T:=Ts ++ T) (T':=T) (R:=R) A Q (Cl Ts T) (F.sub ((List.Sublist.refl R).append (by
    rw [List.map_append]
    exact (Cl (Ts.map bc) (T.map bc)).trans (Cl els _))))⟩
  have a3:Le K (dD G H1 g1 is) (fun e ρ2=>W e (aB eD is ρ2)) G W:=⟨rfl,fun H' σ' ρ2 T2 g2 e F he=>by
   obtain ⟨g3,w5⟩:=yB A Q H' σ' ρ2 T2 g2 F
   exact ⟨_,[],g3,w5,he⟩⟩
  have s:Le K (dD G H1 g1 is) (fun e ρ2=>W e (aB eD is ρ2)) G0 W0:=a3.trans le
  refine ⟨fun k m σ' H'=>k<=p.2.length/\m=p.2.length - k/\∃ ρ2 g2,Wf K (dD G H1 g1 is) H' σ' ρ2 (els ++ (Ts ++ T).map bc) g2/\b8 bnd b (p.2.drop k) ρ2=some (r2,ρ3),⟨_,Nat.zero_le _,rfl,_,_,w3,e2⟩,?_⟩
  rintro k m σ' H' ⟨hk,rfl,ρ2,g2,F,e4⟩
  obtain ⟨a4,O⟩:=walk _ H' hM (fun b o U hn=>F.base b o U hn) ar
  by_cases D:k < p.2.length
  ·obtain ⟨d,hd⟩:∃ d,p.2[k]?=some d:=⟨_,Ce D⟩
   have N:p.2.drop k=d :: p.2.drop (k+1):=by
    rw [List.drop_eq_getElem_cons D]
    rw [Ce D] at hd
    cases hd;rfl
   rw [N] at e4
   obtain ⟨go,yld⟩:=a4 k d hd
   refine .inr ⟨go,fun σ5 H5=>∃ ρ5 g5,Wf K (dD G H1 g1 is) H5 σ5 ρ5 (els ++ (Ts ++ T).map bc) g5/\b8 bnd b (p.2.drop (k+1)) ρ5=some (r2,ρ3),fun σ5 H5 ⟨ρ5,g5,w5,l⟩=>⟨p.2.length - (k+1),by omega,D,rfl,ρ5,g5,w5,l⟩,fun x S t=>?_⟩
   obtain ⟨u,nu,ud,uf,uv⟩:=yld x S t
   have w5:Wf K (dD G H1 g1 is) S σ' ρ2 (u :: (els ++ (Ts ++ T).map bc)) g2:=F.push nu fun c Y=>F.alls (ys:=els) (fun y t=>⟨.inr (Ca _ t),(n y t).1⟩) Y
   have l:(match bnd d ρ2 with
    | none=>none
    | some ρ1=>ac b (fun f=>match f with
     | .nx=>b8 bnd b (p.2.drop (k+1))
     | .ct=>b8 bnd b (p.2.drop (k+1))
     | .br=>aO .nx
     | .rt d f=>aO (.rt d f)) ρ1)=some (r2,ρ3):=e4
   cases e6:bnd d ρ2 with
   | none=>rw [e6] at l;exact nsE l
   | some ρ6 =>
    rw [e6] at l
    dsimp only at l
    rw [<- uv]
    refine U (dD G H1 g1 is) S σ' ρ2 ρ6 _ g2 u _ le.pr uf w5 (by rw [ud];exact e6) fun σ6 g6 w6=>?_
    unfold ac at l
    cases M:b ρ6 with
    | none=>rw [M] at l;exact nsE l
    | some pr7 =>
     obtain ⟨o7,ρ7⟩:=pr7
     rw [M] at l
     cases o7 with
     | error er =>
      cases l
      refine tS.mk (r:=.error er) s w6 M ?_
      show W er (aB eD is _)
      rw [eρ];exact q
     | ok f =>
      cases f with
      | nx=>exact tS.mk (r:=.ok .nx) s w6 M fun σ8 H8 V P=>⟨ρ7,V,P,l⟩
      | ct=>exact tS.mk (r:=.ok .ct) s w6 M fun σ8 H8 V P=>⟨ρ7,V,P,l⟩
      | br =>
       cases l
       refine tS.mk (r:=.ok .br) s w6 M fun σ8 H8 V P=>?_
       obtain ⟨g9,I⟩:=leave (R:=[]) P
       rw [eρ] at I
       exact q _ _ _ I
      | rt d' f' =>
       cases l
       refine tS.mk (r:=.ok (.rt d' f')) s w6 M fun x8 σ8 H8 V P x1 x2=>?_
       obtain ⟨g9,I⟩:=leave (R:=[x8]) P
       rw [eρ] at I
       exact q x8 _ _ _ I x1 x2
  ·have ek:k=p.2.length:=by omega
   subst ek
   rw [List.drop_length] at e4
   cases e4
   obtain ⟨g9,I⟩:=leave (R:=[]) F
   rw [eρ] at I
   exact .inl ⟨O,q _ _ _ I⟩
end
end L3
end
section
namespace L3
open PySem L2
def qp (ix:List (Option Nat)) (ρ:Sto):Sto:=ix.map fun o=>match o with
 | some i=>(ρ[i]?).join
 | none=>none
def uncap:List (Option Nat)->Sto->Sto->Option Sto
 | [],_,ρ=>some ρ
 | none :: ix,τ,ρ=>uncap ix τ.tail ρ
 | some i :: ix,τ,ρ=>match (ρ[i]?).join,τ.head? with
  | some (_,f),some (some (d',f'))=>if f'=f\/f'=.z then uncap ix τ.tail (ρ.set i (some (d',f'))) else none
  | _,_=>none
noncomputable def bz (bnd:D->Sto->Option Sto) (c:M3 Bool) (elt:EM):List D->M3 (List D)
 | []=>aO []
 | d :: ds=>fun τ=>match bnd d τ with
  | none=>none
  | some τ1=>ac c (fun b=>if b then ac elt (fun r=>ac (cw r) fun p=>ac (bz bnd c elt ds) fun l=>aO (p.1 :: l)) else bz bnd c elt ds) τ1
def bB (im:IM) (bnd:D->Sto->Option Sto) (c:M3 Bool) (elt:EM) (ix:List (Option Nat)):EM:=ac im fun p=>fun ρ =>
 match bz bnd c elt p.2 (qp ix (aB bX (us ρ (pls p.1)) ρ)) with
 | some (.ok ds,τ)=>if p.2.length < 16777216 then (uncap ix τ (aB bX (us ρ (pls p.1)) ρ)).map fun ρ2=>(.ok (.val (.lst ds) .u),aB eD (us ρ (pls p.1)) ρ2) else none
 | _=>none
section
variable {K:FG} {G G0:Gm} {W W0:D->Sto->Prop} {H H':Hp} {σ τ:St} {ρ ρ':Sto} {T T':List It3} {g:Nat->Option It3} {x y z:It3} {α β:Type} {ix:List (Option Nat)}
def Inj (ix:List (Option Nat)):Prop:=∀ (j k i:Nat),ix[j]?=some (some i)->ix[k]?=some (some i)->j=k
def yI (ix:List (Option Nat)) (g:Nat->Option It3) (j:Nat):Option It3:=(ix[j]?).join.bind g
def pQ (ix:List (Option Nat)) (n:Nat) (g:Nat->Option It3):List It3:=(List.range n).filterMap fun i=>if some i ∈ ix then none else g i
def wy (G:Gm) (ix:List (Option Nat)) (σ:St):Gm:=⟨G.H0,G.bw,fun j=>((ix[j]?).join).isSome,cap ix σ,fun _=>none,G.src,fun j=>(ix[j]?).join.bind G.lv⟩
theorem dh {j:Nat} (h:yI ix g j=some x):∃ i,ix[j]?=some (some i)/\g i=some x:=by
 unfold yI at h
 cases e:ix[j]? with
 | none=>rw [e] at h;exact nsE h
 | some o =>
  rw [e] at h
  cases o with
  | none=>exact nsE h
  | some i=>exact ⟨i,rfl,h⟩
theorem j7 {n:Nat} (h:x ∈ pQ ix n g):∃ i,some i ∉ ix/\g i=some x:=by
 obtain ⟨i,_,e⟩:=List.mem_filterMap.mp h
 split at e
 ·exact nsE e
 ·rename_i a;exact ⟨i,a,e⟩
theorem vn {n i:Nat} (hi:i < n) (a:some i ∉ ix) (e:g i=some x):x ∈ pQ ix n g:=List.mem_filterMap.mpr ⟨i,List.mem_range.mpr hi,by rw [if_neg a];exact e⟩
theorem Wf.cap (w:Wf K G H σ ρ T g) (m:Inj ix):Wf K (wy G ix σ) H (cap ix σ) (qp ix ρ) (pQ ix ρ.length g ++ T) (yI ix g):=by
 have ne:∀ {i j:Nat},ix[j]?=some (some i)->∀ k,some k ∉ ix->i ≠ k:=fun e k l q=>l (by rw [<- q];exact Ck e)
 refine ⟨by unfold L2.cap qp;rw [Ci,Ci],fun j=>?_,fun j x h=>?_,fun j x h=>?_,fun x p=>?_,fun j k x y n p r=>?_,fun j x h y r=>?_,?_,w.base,fun _ _=>rfl,⟨fun _ _ _ _ _=>rfl,fun _ _ _ _ _ _ _=>rfl,w.fx.bin,fun b o e=>(by cases e),fun j x h u=>?_⟩⟩
 ·unfold yI qp
  rw [Cn]
  cases e:ix[j]? with
  | none=>rfl
  | some o =>
   cases o with
   | none=>rfl
   | some i=>exact w.sl i
 ·obtain ⟨i,e1,c⟩:=dh h
  unfold L2.cap
  rw [Cn,e1]
  show some ((σ[i]?).getD none)=_
  rw [w.sv i x c];rfl
 ·obtain ⟨i,_,c⟩:=dh h
  have ok:=w.okS i x c
  exact ⟨ok.rep,ok.own,ok.src⟩
 ·rcases Cg.mp p with h | h
  ·obtain ⟨i,_,e⟩:=j7 h
   have ok:=w.okS i x e
   exact ⟨ok.rep,ok.own,ok.src⟩
  ·have ok:=w.okT x h
   exact ⟨ok.rep,ok.own,ok.src⟩
 ·obtain ⟨i,e1,c⟩:=dh p
  obtain ⟨v,A,z⟩:=dh r
  exact w.ss i v x y (fun q=>n (m j k i e1 (q ▸ A))) c z
 ·obtain ⟨i,e1,c⟩:=dh h
  rcases Cg.mp r with q | q
  ·obtain ⟨k,l,e⟩:=j7 q
   have:=ne e1 k l
   exact ⟨w.ss i k x y this c e,w.ss k i y x (Ne.symm this) e c⟩
  ·exact w.st i x c y q
 ·refine List.pairwise_append.mpr ⟨?_,w.tt,fun a t b s=>?_⟩
  ·unfold pQ
   rw [List.pairwise_filterMap]
   refine List.pairwise_lt_range.imp fun {i k} lt a t b s=>?_
   have f:(if some i ∈ ix then none else g i)=some a:=t
   have d:(if some k ∈ ix then none else g k)=some b:=s
   split at f
   ·cases f
   ·split at d
    ·cases d
    ·exact ⟨w.ss i k a b (Cq lt) f d,w.ss k i b a (Nat.ne_of_gt lt) d f⟩
  ·obtain ⟨k,l,e⟩:=j7 t
   exact w.st k a e b s
 ·obtain ⟨i,e1,c⟩:=dh h
  show (ix[j]?).join.bind G.lv=_
  rw [e1]
  exact w.fx.lvS i x c u
theorem Wf.perm (w:Wf K G H σ ρ T g) (p:T.Perm T'):Wf K G H σ ρ T' g :=
 ⟨w.len,w.sl,w.sv,w.okS,fun x a=>w.okT x (p.mem_iff.mpr a),w.ss,fun i x e y b=>w.st i x e y (p.mem_iff.mpr b),(p.pairwise_iff fun h=>Apart3.symm h).mp w.tt,w.base,w.pro,w.fx.sub fun x a=>p.mem_iff.mpr a⟩
theorem gp:∀ {ix:List (Option Nat)} {τ ρ ρ2:Sto},uncap ix τ ρ=some ρ2->Inj ix->ρ2.length = ρ.length/\(∀ i,some i ∉ ix->(ρ2[i]?).join=(ρ[i]?).join) /\
  ∀ (j i:Nat),ix[j]?=some (some i)->∃ p q,(ρ[i]?).join=some p/\(τ[j]?).join=some q/\(ρ2[i]?).join=some q/\(q.2=p.2\/q.2=.z)
 | [],τ,ρ,ρ2,e,_=>by cases e;exact ⟨rfl,fun _ _=>rfl,fun j i h=>by simp at h⟩
 | none :: ix,τ,ρ,ρ2,e,hij=>by
  unfold uncap at e
  obtain ⟨h1,h2,h3⟩:=gp e fun j k i a b=>by
   have:=hij (j+1) (k+1) i (by simpa using a) (by simpa using b)
   omega
  refine ⟨h1,fun i hi=>h2 i fun q=>hi (B7 _ q),fun j i h=>?_⟩
  cases j with
  | zero=>simp at h
  | succ j =>
   obtain ⟨p,q,a,b,c⟩:=h3 j i (by simpa using h)
   exact ⟨p,q,a,by rw [List.getElem?_tail] at b;exact b,c⟩
 | some i0 :: ix,τ,ρ,ρ2,e,hij=>by
  unfold uncap at e
  cases e1:(ρ[i0]?).join with
  | none=>rw [e1] at e;exact nsE e
  | some p =>
   obtain ⟨d,f⟩:=p
   cases r:τ.head? with
   | none=>rw [e1,r] at e;exact nsE e
   | some o =>
    cases o with
    | none=>rw [e1,r] at e;exact nsE e
    | some q =>
     obtain ⟨d',t⟩:=q
     rw [e1,r] at e
     dsimp only at e
     split at e
     ·rename_i hf
      have g:=de e1
      have l:some i0 ∉ ix:=fun m=>by
       obtain ⟨k,s,u⟩:=List.mem_iff_getElem.mp m
       have:=hij 0 (k+1) i0 rfl (by simp [s,u])
       omega
      obtain ⟨h1,h2,h3⟩:=gp e fun j k i a b=>by
       have:=hij (j+1) (k+1) i (by simpa using a) (by simpa using b)
       omega
      refine ⟨by rw [h1,List.length_set],fun i hi=>?_,fun j i h=>?_⟩
      ·rw [h2 i fun q=>hi (B7 _ q),bF g,if_neg (fun q=>hi (by rw [q];exact B6))]
      ·cases j with
       | zero =>
        simp at h
        subst h
        refine ⟨(d,f),(d',t),e1,?_,?_,hf⟩
        ·rw [List.head?_eq_getElem?] at r;rw [r];rfl
        ·rw [h2 i0 l,bF g,if_pos rfl]
       | succ j =>
        have n:ix[j]?=some (some i):=by simpa using h
        obtain ⟨p,q,a,b,c⟩:=h3 j i n
        have ii:i ≠ i0:=fun z=>l (by rw [<- z];exact Ck n)
        rw [bF g,if_neg ii] at a
        exact ⟨p,q,a,by rw [List.getElem?_tail] at b;exact b,c⟩
     ·exact nsE e
theorem Wf.uncap (w:Wf K G H σ ρ T g) (hH:∀ b o,H b=some o->G.H0 b=some o) (U:Inj ix) (e:L3.uncap ix τρ ρ=some ρ2) (hR:∀ x ∈ R,x.f=.z) (t:Wf K (wy G ix σ) H' τ' τρ (R ++ (pQ ix ρ.length g ++ T)) gC) :
  ∃ g2,Wf K G H' σ ρ2 (R ++ T) g2:=by
 obtain ⟨J,h2,h3⟩:=gp e U
 let inv (i:Nat):Option Nat:=(List.range ix.length).find? fun j=>decide (ix[j]?=some (some i))
 have l:∀ i j,inv i=some j->ix[j]?=some (some i):=fun i j h=>by simpa using List.find?_some h
 have r:∀ i,inv i=none->some i ∉ ix:=fun i h m=>by
  obtain ⟨k,Y,ek⟩:=List.mem_iff_getElem.mp m
  have:=List.find?_eq_none.mp h k (List.mem_range.mpr Y)
  simp [Y,ek] at this
 let g2 (i:Nat):Option It3:=match inv i with | some j=>gC j | none=>g i
 have val:∀ i u,g2 i=some u->(∃ j p q,ix[j]?=some (some i)/\gC j=some u/\(ρ[i]?).join=some p/\(τρ[j]?).join=some q/\(q.2=p.2\/q.2=.z))\/(some i ∉ ix/\g i=some u):=fun i u h=>by
  have h':(match inv i with | some j=>gC j | none=>g i)=some u:=h
  cases D:inv i with
  | none=>rw [D] at h';exact .inr ⟨r i D,h'⟩
  | some j =>
   rw [D] at h'
   obtain ⟨p,q,a,b,_,c⟩:=h3 j i (l i j D)
   exact .inl ⟨j,p,q,l i j D,h',a,b,c⟩
 have out:∀ i u,some i ∉ ix->g i=some u->u ∈ pQ ix ρ.length g:=fun i u C e=>by
  have s:=w.sl i
  rw [e] at s
  exact vn (de s.symm) C e
 have back:∀ i j u,ix[j]?=some (some i)->gC j=some u->σ[i]?=some (some u.v):=fun i j u B A=>by
  have a:=t.sv j u A
  have b:=t.pro j (by show ((ix[j]?).join).isSome=true;rw [B];rfl)
  rw [a] at b
  have b:some (some u.v)=(L2.cap ix σ)[j]?:=b
  unfold L2.cap at b
  rw [Cn,B] at b
  have b:some (some u.v)=some ((σ[i]?).getD none):=b
  cases q:σ[i]? with
  | none=>rw [q] at b;cases b
  | some o=>rw [q] at b;cases b;rfl
 have M:∀ i j u p q,ix[j]?=some (some i)->gC j=some u->(ρ[i]?).join=some p->(τρ[j]?).join=some q->(q.2=p.2\/q.2=.z)->∃ y,g i=some y/\y.v=u.v/\(u.f=y.f\/u.f=.z):=fun i j u p q B A P eq hf=>by
  obtain ⟨y,O,Q,L,y4⟩:=w.slot (d:=p.1) (f:=p.2) P
  have b:=back i j u B A
  rw [y4] at b
  have s:=t.sl j
  rw [A,eq] at s
  have s:some (u.d,u.f)=some q:=s
  refine ⟨y,O,by injection b with b;injection b,?_⟩
  rw [L,show u.f=q.2 by injection s with s;rw [<- s]]
  exact hf
 refine ⟨g2,⟨by rw [J];exact w.len,fun i=>?_,fun i u h=>?_,fun i u h=>?_,fun u hu=>?_,fun i k a b n ha I=>?_,fun i a h b I=>?_,t.tt.sublist ((List.Sublist.refl R).append (Cl _ T)),t.base,w.pro,⟨fun u hu hf=>?_,fun i u h hp hf a Z=>?_,t.fx.bin,fun b o I=>?_,fun i u h J=>?_⟩⟩⟩
 ·show (match inv i with | some j=>gC j | none=>g i).map _=_
  cases D:inv i with
  | none=>rw [h2 i (r i D)];exact w.sl i
  | some j =>
   obtain ⟨p,q,a,b,c,_⟩:=h3 j i (l i j D)
   rw [c,<- b];exact t.sl j
 ·rcases val i u h with ⟨j,p,q,B,A,_⟩ | ⟨C,e⟩
  ·exact back i j u B A
  ·exact w.sv i u e
 ·rcases val i u h with ⟨j,p,q,B,A,_⟩ | ⟨C,e⟩
  ·have ok:=t.okS j u A
   exact ⟨ok.rep,ok.own,ok.src⟩
  ·have ok:=t.okT u (Cc _ (Ca _ (out i u C e)))
   exact ⟨ok.rep,ok.own,ok.src⟩
 ·have ok:=t.okT u (by
   rcases Cg.mp hu with q | q
   ·exact Ca _ q
   ·exact Cc _ (Cc _ q))
  exact ⟨ok.rep,ok.own,ok.src⟩
 ·rcases val i a ha with ⟨j,p,q,B,A,_⟩ | ⟨C,e⟩
  ·rcases val k b I with ⟨S,p',q',F,E,_⟩ | ⟨N,V⟩
   ·exact t.ss j S a b (fun z=>n (by subst z;rw [B] at F;injection F with z;injection z)) A E
   ·exact (t.st j a A b (Cc _ (Ca _ (out k b N V)))).1
  ·rcases val k b I with ⟨S,p',q',F,E,_⟩ | ⟨N,V⟩
   ·exact (t.st S b E a (Cc _ (Ca _ (out i a C e)))).2
   ·exact w.ss i k a b n e V
 ·have X:b ∈ R ++ (pQ ix ρ.length g ++ T):=by
   rcases Cg.mp I with q | q
   ·exact Ca _ q
   ·exact Cc _ (Cc _ q)
  rcases val i a h with ⟨j,p,q,B,A,_⟩ | ⟨C,e⟩
  ·exact t.st j a A b X
  ·rcases Cg.mp I with q | q
   ·exact ((List.pairwise_append.mp t.tt).2.2 b q a (Ca _ (out i a C e))).symm
   ·exact w.st i a e b q
 ·rcases Cg.mp hu with q | q
  ·exact absurd (hR u q) hf
  ·exact w.fx.frT u q hf
 ·rcases val i u h with ⟨j,p,q,B,A,P,eq,W⟩ | ⟨C,e⟩
  ·obtain ⟨y,O,Q,L⟩:=M i j u p q B A P eq W
   refine w.fx.frS i y O hp (fun z=>hf ?_) a (by rw [Q];exact Z)
   rcases L with h | h
   ·rw [h];exact z
   ·exact h
  ·exact w.fx.frS i u e hp hf a Z
 ·obtain ⟨o',ho⟩:=w.fx.ob b o I
  have h0:=hH b o' ho
  by_cases q:G.bw b
  ·exact t.fx.bin b q
  ·exact ⟨o',t.base b o' h0 q⟩
 ·rcases val i u h with ⟨j,p,q,B,A,P,eq,W⟩ | ⟨C,e⟩
  ·obtain ⟨y,O,Q,L⟩:=M i j u p q B A P eq W
   rw [<- Q]
   refine w.fx.lvS i y O ?_
   rcases L with h | h
   ·rw [<- h];exact J
   ·rw [h] at J;cases J
  ·exact w.fx.lvS i u e J
theorem tz {J:It} {H1:Hp} {ys els:List It3} {ds:List D} {bnd:D->Sto->Option Sto} {c:M3 Bool} {elt:EM} {tg:TG} {tc:TT} {te:TE} {Gc:Gm} {a:List It3} {g:List D} {τρ τρ':Sto} {gC:Nat->Option It3} {Z:List V->Hp->Prop} {M:Addr->Prop}
  (hz:(16777216:Nat)=sizeLine) (G:∀ x ∈ els,x ∈ a/\x.f=.z)
  (az:∀ H',(∀ b o,H1 b=some o->¬ Gc.bw b->H' b=some o)->(∀ (i:Nat) (d:D),ds[i]?=some d->J.go i H'/\∀ x j,J.yld i H' x j->∃ w,New K H' j (cW els) w/\w.d=d/\w.f=.z/\w.v=x)/\J.stop ds.length H')
  (h0:Gc.H0=H1) (hb:Bnd K Gc.pr tg bnd) (ax:∀ σ H Q,tT K Gc (fun _ _=>False) c σ H Q->tc σ H Q) (R:∀ σ H Q,tE K Gc (fun _ _=>False) elt σ H Q->te σ H Q)
  (hlen:ds.length < 16777216) (w:Wf K Gc H1 τ τρ a gC) (e:bz bnd c elt ds τρ=some (.ok g,τρ'))
  (hZ:∀ (us:List It3) (τ':St) (H':Hp) (g':Nat->Option It3),(∀ x ∈ us,x.f=.z)->us.map (·.d)=g->Wf K Gc H' τ' τρ' (us ++ a) g'->Z (us.map (·.v)) H'):o0 J tg tc te Z τ H1:=by
 refine ⟨fun i m P τ' H'=>i<=ds.length/\m=ds.length - i/\P.length<=i/\∃ (us:List It3) (ρ2:Sto) (g2:Nat->Option It3) (r:List D),(∀ x ∈ us,x.f=.z)/\us.map (·.v)=P/\Wf K Gc H' τ' ρ2 (us ++ a) g2/\bz bnd c elt (ds.drop i) ρ2=some (.ok r,τρ')/\us.map (·.d) ++ r=g,⟨_,Nat.zero_le _,rfl,Co _,[],τρ,gC,g,fun _ h=>(by cases h),rfl,w,e,rfl⟩,?_⟩
 rintro i m P τ1 H2 ⟨hi,rfl,a0,us,ρ2,g2,r,A,B,O,N,k⟩
 refine ⟨by omega,?_⟩
 obtain ⟨ar,t⟩:=az H2 fun b o T hn=>O.base b o (by rw [h0];exact T) hn
 by_cases n:i < ds.length
 ·obtain ⟨d,hd⟩:∃ d,ds[i]?=some d:=⟨_,Ce n⟩
  have s:ds.drop i=d :: ds.drop (i+1):=by
   rw [List.drop_eq_getElem_cons n]
   rw [Ce n] at hd
   cases hd;rfl
  rw [s] at N
  obtain ⟨go,yld⟩:=ar i d hd
  refine .inr ⟨go,fun q τ5 Y=>q.length<=i+1/\∃ (us:List It3) (ρ5:Sto) (S:Nat->Option It3) (r:List D),(∀ x ∈ us,x.f=.z)/\us.map (·.v)=q/\Wf K Gc Y τ5 ρ5 (us ++ a) S/\bz bnd c elt (ds.drop (i+1)) ρ5=some (.ok r,τρ')/\us.map (·.d) ++ r=g,
   fun q τ5 Y ⟨U,h5⟩=>⟨ds.length - (i+1),by omega,n,rfl,U,h5⟩,fun x j C=>?_⟩
  obtain ⟨u,nu,ud,uf,uv⟩:=yld x j C
  have w3:Wf K Gc j τ1 ρ2 (u :: (us ++ a)) g2:=O.push nu fun c hc=>O.alls (ys:=els) (fun y C=>⟨.inr (Cc _ (G y C).1),(G y C).2⟩) hc
  have I:(match bnd d ρ2 with
   | none=>none
   | some τ1=>ac c (fun b=>if b then ac elt (fun r=>ac (cw r) fun p=>ac (bz bnd c elt (ds.drop (i+1))) fun l=>aO (p.1 :: l)) else bz bnd c elt (ds.drop (i+1))) τ1)=some (.ok r,τρ'):=N
  cases W:bnd d ρ2 with
  | none=>rw [W] at I;exact nsE I
  | some ρ3 =>
   rw [W] at I
   dsimp only at I
   rw [<- uv]
   refine hb Gc j τ1 ρ2 ρ3 _ g2 u _ rfl uf w3 (by rw [ud];exact W) fun τ4 g4 w4=>?_
   refine ax _ _ _ (tT.seq (Le.refl K Gc _) w4 I (fun x X=>by cases X) fun b ρ5 L Y S w5=>?_)
   cases b with
   | false =>
    simp only [CH,if_false] at L ⊢
    exact ⟨by omega,us,ρ5,S,r,A,B,w5,L,k⟩
   | true =>
    simp only [if_true] at L ⊢
    refine R _ _ _ (tE.seq (Le.refl K Gc _) w5 L (fun x X=>by cases X) fun ra ρ6 e6 v H6 ⟨Ts,g6,w6,a6⟩=>?_)
    obtain ⟨p,ρ7,g7,F,E,w7,f1,f2,_,f3⟩:=a6.take w6 e6
    have w8:=Wf.lowT (Ts:=[F]) w7
    unfold ac at E
    cases e8:bz bnd c elt (ds.drop (i+1)) ρ7 with
    | none=>rw [e8] at E;exact nsE E
    | some pr =>
     obtain ⟨o,ρ8⟩:=pr
     rw [e8] at E
     cases o with
     | error x=>cases E
     | ok l =>
      cases E
      refine ⟨by rw [Cz];simp;omega,us ++ [b7 F],ρ7,g7,l,fun y C=>?_,by rw [List.map_append,B,<- f3];rfl,?_,e8,?_⟩
      ·rcases Cg.mp C with h | h
       ·exact A y h
       ·rw [CG.mp h];rfl
      ·exact w8.perm (by
        show ([b7 F] ++ (us ++ a)).Perm (us ++ [b7 F] ++ a)
        rw [<- List.append_assoc]
        exact (List.perm_append_comm).append_right a)
      ·rw [List.map_append,List.append_assoc]
       show us.map (·.d) ++ ((b7 F).d :: l)=g
       rw [show (b7 F).d=p.1 from f1]
       exact k
 ·have ei:i=ds.length:=by omega
  subst ei
  rw [List.drop_length] at N
  cases N
  rw [List.append_nil] at k
  subst B
  exact .inl ⟨t,hZ us τ1 H2 g2 A k O⟩
end
end L3
end
section
namespace L3
open PySem L2
section
variable {K:FG} {G G0:Gm} {W W0:D->Sto->Prop} {H H':Hp} {σ τ:St} {ρ ρ':Sto} {T T':List It3} {g:Nat->Option It3} {x y z:It3} {α β:Type} {ix:List (Option Nat)}
def a9 (ix:List (Option Nat)):Gm:=⟨fun _=>none,fun _=>False,fun j=>((ix[j]?).join).isSome,[],fun _=>none,fun _=>False,fun _=>none⟩
abbrev noX:D->Sto->Prop:=fun _ _=>False
theorem rh (h:G1.pr=(a9 ix).pr) (le:Le K G W G1 noX):Le K G W (a9 ix) noX:=⟨le.pr.trans h,fun H σ ρ T g e w q=>by
 obtain ⟨_,_,_,_,f⟩:=le.ex H σ ρ T g e w q
 exact f.elim⟩
theorem xa (h:G1.pr=(a9 ix).pr) (q:tE K G1 noX m σ H Q):tE K (a9 ix) noX m σ H Q:=by
 obtain ⟨G,W,le,r⟩:=q
 exact ⟨G,W,rh h le,r⟩
theorem wS (h:G1.pr=(a9 ix).pr) (q:tT K G1 noX m σ H Q):tT K (a9 ix) noX m σ H Q:=by
 obtain ⟨G,W,le,r⟩:=q
 exact ⟨G,W,rh h le,r⟩
def b9:M3 Bool:=aO true
theorem zC (h:tT K G0 W0 b9 σ H Q):tYes σ H Q:=by
 refine h.use fun G W le ρ T g o ρ' w e q=>?_
 cases e
 exact q _ _ w
theorem jg:∀ {ds a:List D} {τρ τρ':Sto},bz bnd c elt ds τρ=some (.ok a,τρ')->a.length<=ds.length
 | [],a,τρ,τρ',e=>by cases e;exact Co _
 | d :: ds,a,τρ,τρ',e=>by
  unfold bz at e
  split at e
  ·exact nsE e
  ·rename_i τ1 _
   unfold ac at e
   split at e
   ·exact nsE e
   ·cases e
   ·rename_i b τ2 _
    cases b with
    | false =>
     simp only [CH,if_false] at e
     have:=jg e
     simp;omega
    | true =>
     simp only [if_true] at e
     split at e
     ·exact nsE e
     ·cases e
     ·split at e
      ·exact nsE e
      ·cases e
      ·split at e
       ·exact nsE e
       ·cases e
       ·rename_i l τ5 f
        cases e
        have:=jg f
        simp;omega
theorem oE (hz:(16777216:Nat)=sizeLine) (B:Inj ix) (V:Bnd K (a9 ix).pr tg bnd) (le:Le K G W G0 W0) (w:Wf K G H σ ρ T g) (e:bB im bnd c elt ix ρ=some (o,ρ')) (he:∀ x,o=.error x->W x ρ') (hZ:∀ (us:List It3) (H':Hp) (g':Nat->Option It3) (Ts:List It3) (ds:List D),o=.ok (.val (.lst ds) .u)->(∀ x ∈ us,x.f=.z)->us.map (·.d)=ds->us.length<=16777216->Wf K G H' σ ρ' (us ++ T) g'->Z (us.map (·.v)) H') :
  tI K G0 W0 im σ H fun J H1=>o0 J tg (tT K (a9 ix) noX c) (tE K (a9 ix) noX elt) Z (cap ix σ) H1:=by
 refine tI.seq le w e he fun p ρ1 e1=>?_
 intro J H1 vs Ts g1 ys m a1 E hw
 have N:=us_u (is:=pls p.1) m
 have I:∀ i y,i ∈ pls p.1->g1 i=some y->y.f=.u->i ∈ us ρ1 (pls p.1):=fun i y hi S hf=>t6 m hi S hf
 generalize us ρ1 (pls p.1)=is at e1 N I
 have w2:=m.enter is
 obtain ⟨els,k,walk⟩:=hw
 have hM:∀ b,(∃ j y,j ∉ is/\g1 j=some y/\y.f=.u/\y.v=.ref b)->MutAt H1 b:=fun b ⟨j,y,_,S,hf,l⟩=>by
  obtain ⟨_,a,L',v1,v2,_⟩:=(m.okS j y S).own (by rw [hf];intro q;cases q)
  rw [l] at v1;cases v1
  exact (m.okS j y S).rep.inH b (by rw [v2];exact B6)
 have F:∀ y ∈ ys,∀ b ∈ y.L,¬ ∃ j y,j ∉ is/\g1 j=some y/\y.f=.u/\y.v=.ref b:=fun y t b V ⟨j,y',nj,n,hf,l⟩=>by
  have P:y'.f ≠ .z:=by rw [hf];intro q;cases q
  rcases E y t with ⟨i,hi,A⟩ | t
  ·by_cases ij:i=j
   ·subst ij
    rw [A] at n;cases n
    exact nj (I i y hi A hf)
   ·exact m.ss j i y' y (Ne.symm ij) n A P b l V
  ·exact (m.st j y' n y (Ca _ t)).1 P b l V
 have O:∀ y ∈ ys,Itm (Ts ++ T) g1 y:=fun y t=>by
  rcases E y t with ⟨i,_,A⟩ | h
  ·exact .inl ⟨i,A⟩
  ·exact .inr (Ca _ h)
 have kid:∀ x ∈ els,∀ c ∈ x.L,df ((Ts ++ T).map bc) (fun j=>if j ∈ is then (g1 j).map bc else g1 j) c/\(H1 c=none\/(G.H0 c=none\/G.src c)):=fun x r c Y=>by
  obtain ⟨X,sr⟩:=m.kids O ((k x r).2.2 c Y)
  refine ⟨⟨fun i z ez hf l=>?_,fun z hz hf l=>?_⟩,.inr sr⟩
  ·have ez:(if i ∈ is then (g1 i).map bc else g1 i)=some z:=ez
   by_cases q:i ∈ is
   ·rw [if_pos q] at ez
    obtain ⟨z0,e0,e1⟩:=B9.mp ez
    subst e1
    exact X.1 i z0 e0 (fun q=>hf (lentF_z.mpr q)) l
   ·rw [if_neg q] at ez
    exact X.1 i z ez hf l
  ·obtain ⟨z0,h0,rfl⟩:=Cm.mp hz
   exact X.2 z0 h0 (fun q=>hf (lentF_z.mpr q)) l
 have w3:Wf K (dD G H1 g1 is) H1 σ (aB bX is ρ1) (els ++ (Ts ++ T).map bc) (fun j=>if j ∈ is then (g1 j).map bc else g1 j):=w2.pushAll fun x r=>⟨(k x r).1,(k x r).2.1,fun c Y=>kid x r c Y⟩
 have w4:=w3.cap B
 cases U:bz bnd c elt p.2 (qp ix (aB bX is ρ1)) with
 | none=>rw [U] at e1;exact nsE e1
 | some rr =>
  obtain ⟨o2,τρ⟩:=rr
  rw [U] at e1
  cases o2 with
  | error x=>exact nsE e1
  | ok ds =>
   dsimp only at e1
   split at e1
   ·rename_i hlen
    cases e3:uncap ix τρ (aB bX is ρ1) with
    | none=>rw [e3] at e1;exact nsE e1
    | some ρ3 =>
     rw [e3] at e1
     have eo:o=.ok (.val (.lst ds) .u)/\ρ'=aB eD is ρ3:=by cases e1;exact ⟨rfl,rfl⟩
     obtain ⟨eo,eρ⟩:=eo
     refine tz (K:=K) (Gc:=wy (dD G H1 g1 is) ix σ) (els:=els) (M:=fun _=>False) (ys:=ys) hz (fun x r=>⟨Cc _ (Ca _ r),(k x r).1⟩) (fun H' hk=>walk _ H' hM hk F) rfl V (fun σ' H Q q=>wS (G1:=wy (dD G H1 g1 is) ix σ) rfl q) (fun σ' H Q q=>xa (G1:=wy (dD G H1 g1 is) ix σ) rfl q) hlen w4 U fun us τ' H' g' C s w5=>?_
     obtain ⟨g6,w6⟩:=Wf.uncap w3 (fun b o h=>h) B e3 C w5
     have w7:=Wf.leave (T:=Ts ++ T) (T':=T) (R:=us) m N (Cl Ts T) (w6.sub ((List.Sublist.refl us).append (by
      rw [List.map_append]
      exact (Cl (Ts.map bc) (T.map bc)).trans (Cl els _))))
     have hle:us.length<=16777216:=by
      have h1:us.length=ds.length:=by rw [<- s,Ci]
      have h2:=jg U
      omega
     rw [<- eρ] at w7
     exact hZ us H' _ Ts ds eo C s hle w7
   ·exact nsE e1
theorem lA {us:List It3} (w:Wf K G H σ ρ (us ++ T) g) (j:∀ x ∈ us,x.f=.z) (b:H p=none) :
  Wf K G (upd H p (.lst (us.map (·.v)))) σ ρ (⟨.lst (us.map (·.d)),.ref p,p :: (us.map (·.L)).flatten,.u⟩ :: T) g:=by
 have hi:∀ y ∈ us,Itm (us ++ T) g y/\y.f=.z:=fun y i=>⟨.inr (Ca _ i),j y i⟩
 have np:p ∉ (us.map (·.L)).flatten:=fun a=>by
  obtain ⟨y,hm,a⟩:=d8 a
  obtain ⟨o,k⟩:=((w.itm (hi y hm).1).rep.inH p a).ex
  rw [b] at k;exact nsE k
 have n:New K H (upd H p (.lst (us.map (·.v)))) (cW us) ⟨.lst (us.map (·.d)),.ref p,p :: (us.map (·.L)).flatten,.u⟩:=⟨bj b,.lst aC ((jM fun y i=>(w.itm (hi y i).1).rep).same (bj b)),fun c a=>by
  rcases Cd.mp a with e | a
  ·rw [e];exact .inl b
  ·exact .inr (d8 a),fun _=>⟨rfl,p,_,rfl,rfl,np,b⟩⟩
 exact (w.push n fun c h=>w.alls hi h).sub (List.Sublist.cons_cons _ (Cl us T))
theorem xg (hz:(16777216:Nat)=sizeLine) (a:Inj ix) (m:Bnd K (a9 ix).pr tg bnd) (h:tE K G0 W0 (bB im bnd c elt ix) σ H Q) :
  y6 (tI K G0 W0 im) tg (tT K (a9 ix) noX c) (tE K (a9 ix) noX elt) ix σ H Q:=by
 refine h.use fun G W le ρ T g o ρ' w e q=>?_
 refine oE hz a m le w e q.err fun us H' g' Ts ds j f b n i=>?_
 subst j b
 intro p l
 have k:=lA i f l
 exact q (.ref p) _ ⟨[_],g',k,Ar.val (⟨.lst (us.map (·.d)),.ref p,p :: (us.map (·.L)).flatten,.u⟩:It3)⟩
theorem pd {i:Nat} (hz:(16777216:Nat)=sizeLine) (b:Inj ix) (y:Bnd K (a9 ix).pr tg bnd) (v:G0.pr i=false) (h:tS K G0 W0 (aT i (bB im bnd c elt ix)) E σ H) :
  y9 i (tI K G0 W0 im) tg (tT K (a9 ix) noX c) (tE K (a9 ix) noX elt) ix E σ H:=by
 refine h.use fun G W le ρ T g r ρ' w e q=>?_
 unfold aT ac at e
 cases e1:bB im bnd c elt ix ρ with
 | none=>rw [e1] at e;exact nsE e
 | some pr =>
  obtain ⟨o,ρ1⟩:=pr
  rw [e1] at e
  have a:∀ x,o=.error x->W x ρ1:=fun x m=>by subst m;cases e;exact q
  refine oE hz b y le w e1 a fun us H' g' Ts ds s l j z n=>?_
  subst s j
  intro p k
  have t:=lA n l k
  have e:(if i < ρ1.length then some ((.ok .nx,ρ1.set i (some (D.lst (us.map (·.d)),Fl.u))):Except D Flw × Sto) else none)=some (r,ρ'):=e
  split at e
  ·rename_i hi
   cases e
   exact q _ _ _ (t.store (f:=.u) hi (by rw [le.pr];exact v) (.inl rfl) (by intro h;cases h))
  ·exact nsE e
end
end L3
end
section
namespace L3
open PySem L2
section
variable {K:FG} {G G0:Gm} {W W0:D->Sto->Prop} {H H':Hp} {σ:St} {ρ ρ':Sto} {T T':List It3} {g:Nat->Option It3} {x y z:It3} {α β:Type}
theorem Wf.mutate {i:Nat} (w:Wf K G H σ ρ T g) (C:g i=some y) (hu:y.f=.u) (ev:y.v=.ref a) (hm:iA d'=true) (rep:Rep K (upd H a o') d' (.ref a) (a :: B)) (na:a ∉ B) (Q:∀ c ∈ B,df T g c/\(G.H0 c=none\/G.src c)):Wf K G (upd H a o') σ (ρ.set i (some (d',.u))) T (fun j=>if j=i then some ⟨d',.ref a,a :: B,.u⟩ else g j):=by
 have x:y.f ≠ .z:=by rw [hu];intro q;cases q
 have S:=w.okS i y C
 obtain ⟨_,a',L',v1,v2,v3,v4⟩:=S.own x
 rw [ev] at v1;cases v1
 have hi:i < ρ.length:=by
  have:=w.sl i
  rw [C] at this
  exact de this.symm
 have ma:MutAt H a:=S.rep.inH a (by rw [v2];exact B6)
 have val:∀ j u,(if j=i then some (⟨d',.ref a,a :: B,.u⟩:It3) else g j)=some u->(j=i/\u=⟨d',.ref a,a :: B,.u⟩)\/(j ≠ i/\g j=some u):=fun j u h=>by
  by_cases q:j=i
  ·rw [if_pos q] at h;cases h;exact .inl ⟨q,rfl⟩
  ·rw [if_neg q] at h;exact .inr ⟨q,h⟩
 have keep:∀ u,ItOk K G H u->a ∉ u.L->ItOk K G (upd H a o') u:=fun u ou hn=>ou.keep (M:=fun b=>b=a) (fun b o s n=>by rw [au n];exact s) (fun b e=>by rw [e];exact ma) fun b s e=>hn (by rw [<- e];exact s)
 have R:∀ j u,j ≠ i->g j=some u->a ∉ u.L:=fun j u n e=>w.ss i j y u (Ne.symm n) C e x a ev
 have X:∀ u ∈ T,a ∉ u.L:=fun u m=>(w.st i y C u m).1 x a ev
 have J:∀ b o,H b=some o->∃ U,upd H a o' b=some U:=fun b o s=>by
  by_cases q:b=a
  ·rw [q,aC];exact ⟨_,rfl⟩
  ·rw [au q];exact ⟨o,s⟩
 refine ⟨by rw [List.length_set];exact w.len,fun j=>?_,fun j u h=>?_,fun j u h=>?_,fun u m=>keep u (w.okT u m) (X u m),fun j k p q n N Y=>?_,fun j u h t I=>?_,w.tt,fun b o e n=>?_,w.pro,⟨w.fx.frT,fun j u h N hf b P=>?_,fun b s=>?_,fun b o s=>?_,fun j u h V=>?_⟩⟩
 ·rw [bF hi]
  by_cases q:j=i
  ·rw [if_pos q,if_pos q];rfl
  ·rw [if_neg q,if_neg q];exact w.sl j
 ·rcases val j u h with ⟨rfl,rfl⟩ | ⟨n,h⟩
  ·rw [w.sv j y C,ev]
  ·exact w.sv j u h
 ·rcases val j u h with ⟨rfl,rfl⟩ | ⟨n,h⟩
  ·refine ⟨rep,fun _=>⟨hm,a,B,rfl,rfl,na,fun _=>v4 hu⟩,fun c d=>?_⟩
   rcases Cd.mp d with e | d
   ·rw [e];exact S.src a (by rw [v2];exact B6)
   ·exact (Q c d).2
  ·exact keep u (w.okS j u h) (R j u n h)
 ·rcases val j p N with ⟨D,ep⟩ | ⟨n1,l⟩
  ·rcases val k q Y with ⟨ek,eq⟩ | ⟨Z,A⟩
   ·exact absurd (D.trans ek.symm) n
   ·rw [ep]
    intro _ c r
    cases r
    exact R k q Z A
  ·rcases val k q Y with ⟨ek,eq⟩ | ⟨Z,A⟩
   ·rw [eq]
    intro hf c r d
    rcases Cd.mp d with e | d
    ·obtain ⟨_,b,L2,F,W,_⟩:=(w.okS j p l).own hf
     rw [r] at F;cases F
     exact R j p n1 l (by rw [<- e,W];exact B6)
    ·exact (Q c d).1.1 j p l hf r
   ·exact w.ss j k p q n l A
 ·rcases val j u h with ⟨D,E⟩ | ⟨n,h'⟩
  ·rw [E]
   refine ⟨fun _ c r=>by cases r;exact X t I,fun hf c r d=>?_⟩
   rcases Cd.mp d with e | d
   ·obtain ⟨_,b,L2,F,W,_⟩:=(w.okT t I).own hf
    rw [r] at F;cases F
    exact X t I (by rw [<- e,W];exact B6)
   ·exact (Q c d).1.2 t I hf r
  ·exact w.st j u h' t I
 ·have:b ≠ a:=fun z=>by
   subst z
   rcases v4 hu with h | h
   ·rw [e] at h;cases h
   ·exact n h
  rw [au this];exact w.base b o e n
 ·rcases val j u h with ⟨D,E⟩ | ⟨n,h'⟩
  ·subst D
   rw [E] at P
   cases P
   exact w.fx.frS j y C N x a ev
  ·exact w.fx.frS j u h' N hf b P
 ·obtain ⟨o,O⟩:=w.fx.bin b s
  exact J b o O
 ·obtain ⟨o2,O⟩:=w.fx.ob b o s
  exact J b o2 O
 ·rcases val j u h with ⟨D,E⟩ | ⟨n,h'⟩
  ·rw [E] at V;cases V
  ·exact w.fx.lvS j u h' V
def MutD (K:FG) (r:V->List V->Hp->VK->Prop) (f:D->List D->Option (D × D)):Prop:=∀ (a:Addr) (d:D) (b:List Addr) (as:List It3) (H:Hp) (Q:VK) (p:D × D),Rep K H d (.ref a) (a :: b)->iA d=true->a ∉ b->(∀ x ∈ as,Rep K H x.d x.v x.L)->(∀ x ∈ as,a ∉ x.L)->f d (as.map (·.d))=some p ->
 (∀ (o':HO) (e:List Addr) (w:It3),Rep K (upd H a o') p.1 (.ref a) (a :: e)->iA p.1=true->(∀ c ∈ e,c ∈ b\/cW as c)->w.f=.z->w.d=p.2->Rep K (upd H a o') w.d w.v w.L->(∀ c ∈ w.L,c ∈ b\/cW as c)->Q w.v (upd H a o'))->r (.ref a) (as.map (·.v)) H Q
def chk (ok:D->Bool) (i:Nat):M3 Unit:=fun ρ=>match (ρ[i]?).join with
 | some (d,_)=>if ok d then some (.ok (),ρ) else none
 | none=>none
theorem mS {i:Nat} (e:ac (ab i) k ρ=some (r,ρ')):∃ p,(ρ[i]?).join=some p/\k (.pl i) ρ=some (r,ρ'):=by
 unfold ac ab at e
 cases q:(ρ[i]?).join with
 | none=>rw [q] at e;exact nsE e
 | some p=>rw [q] at e;exact ⟨p,rfl,e⟩
theorem ww {i:Nat} (e:ac (chk ok i) k ρ=some (r,ρ')):(∀ p,(ρ[i]?).join=some p->ok p.1=true)/\k () ρ=some (r,ρ'):=by
 unfold ac chk at e
 cases q:(ρ[i]?).join with
 | none=>rw [q] at e;exact nsE e
 | some p =>
  rw [q] at e
  dsimp only at e
  cases h:ok p.1 with
  | false=>rw [h] at e;exact nsE e
  | true=>rw [h] at e;exact ⟨fun b a=>by cases a;exact h,e⟩
def qd (ok:D->Bool) (f:D->List D->Option (D × D)) (i:Nat) (ms:M3 (List R3)):EM:=ac (ab i) fun _=>ac (chk ok i) fun _=>ac ms fun rs=>ac (gives rs) fun ds=>fun ρ=>match (ρ[i]?).join with
 | some (d,.u)=>match f d ds with
  | some p=>some (.ok (.val p.2 .z),ρ.set i (some (p.1,.u)))
  | none=>none
 | _=>none
theorem Wf.changed {i:Nat} {as us:List It3} (R:MutD K r f) (w:Wf K G H σ ρ (us ++ T) g) (e:(ρ[i]?).join=some (d,.u)) (X:σ[i]?=some (some v)) (C:∀ y ∈ as,Itm (us ++ T) g y/\y.f=.z) (O:f d (as.map (·.d))=some p) (q:∀ v H',Got K G σ (ρ.set i (some (p.1,.u))) T (.val p.2 .z) v H'->Q v H'):r v (as.map (·.v)) H Q:=by
 obtain ⟨y,t,F,I,o⟩:=w.slot e
 rw [X] at o
 injection o with o
 injection o with o
 have l:y.f ≠ .z:=by rw [I];intro q;cases q
 have E:=w.okS i y t
 obtain ⟨m,a,D,v1,v2,v3,_⟩:=E.own l
 have ra:=E.rep
 rw [v1,v2,F] at ra
 rw [F] at m
 rw [o,v1]
 have na:∀ x ∈ as,a ∉ x.L:=fun x n b=>by
  have:=(w.kid (C x n).1 b fun hf=>absurd (C x n).2 hf).1 i y t l
  exact this v1
 refine R a d D as H Q p ra m v3 (fun x n=>(w.itm (C x n).1).rep) na O fun o' W u N Y s1 J U S B=>?_
 have k:∀ c,(c ∈ D\/cW as c)->df (us ++ T) g c/\(G.H0 c=none\/G.src c):=fun c b=>by
  rcases b with b | b
  ·have A:c ∈ y.L:=by rw [v2];exact B7 _ b
   exact ⟨w.kid (.inl ⟨i,t⟩) A fun _ ez=>by rw [v1] at ez;cases ez;exact v3 b,E.src c A⟩
  ·exact w.alls C b
 have M:∀ c,(c ∈ D\/cW as c)->c ≠ a:=fun c b z=>(k c b).1.1 i y t l (by rw [z];exact v1)
 have P:=w.mutate (o':=o') t I v1 Y N (fun h=>M a (s1 a h) rfl) fun c b=>k c (s1 c b)
 have V:=P.pushAll (ws:=[u]) fun x n=>by
  rw [CG.mp n]
  refine ⟨J,S,fun c b=>?_⟩
  have s:=k c (B c b)
  refine ⟨⟨fun j z ez hf hz=>?_,s.1.2⟩,s.2⟩
  have ez:(if j=i then some (⟨p.1,.ref a,a :: W,.u⟩:It3) else g j)=some z:=ez
  by_cases q:j=i
  ·rw [if_pos q] at ez
   cases ez
   cases hz
   exact M a (B a b) rfl
  ·rw [if_neg q] at ez
   exact s.1.1 j z ez hf hz
 rw [<- U,<- J] at q
 exact q u.v _ ⟨[u],_,V.sub ((List.Sublist.refl [u]).append (Cl us T)),.val u⟩
theorem zR {i:Nat} (A:MutD K r f) (hok:∀ d v L H,ok d=true->Rep K H d v L->tyV K Ty v H) (h:tE K G0 W0 (qd ok f i ms) σ H Q):tBM K Ty r (gh i) (tA K G0 W0 ms) σ H Q:=by
 refine h.use fun G W le ρ T g o ρ' w e q=>?_
 obtain ⟨D,k,e⟩:=mS e
 obtain ⟨x,e⟩:=ww e
 obtain ⟨F,f0⟩:=D
 obtain ⟨y,C,m,J,j⟩:=w.slot k
 refine ⟨y.v,j,hok F y.v y.L H (x _ k) (by rw [<- m];exact (w.okS i y C).rep),?_⟩
 refine tA.seq le w e q.err fun rs ρ1 e1 I H1 Ts g1 n a1=>?_
 obtain ⟨ds,ρ2,g2,a,_,B,_,ys,s,f1,f2⟩:=a1.gives n e1
 subst f1 f2
 cases c:(ρ2[i]?).join with
 | none=>rw [c] at a;exact nsE a
 | some p3 =>
  obtain ⟨t,E⟩:=p3
  rw [c] at a
  cases E with
  | u =>
   dsimp only at a
   cases b:f t (ys.map (·.d)) with
   | none=>rw [b] at a;exact nsE a
   | some p =>
    rw [b] at a
    cases a
    exact B.changed A c j s b q
  | l=>exact nsE a
  | z=>exact nsE a
def fD (t:V->V->V->Hp->(Hp->Prop)->Prop):V->List V->Hp->VK->Prop:=fun x a H Q=>∃ k v,a=[k,v]/\t x k v H fun H'=>Q .non H'
def kF (f:D->List D->Option (D × D)) (i:Nat) (mk b:EM):SM:=ac b fun a=>ac (ab i) fun _=>ac mk fun c=>ac (gives [c,a]) fun ds=>fun ρ=>match (ρ[i]?).join with
 | some (d,.u)=>match f d ds with
  | some p=>some (.ok .nx,ρ.set i (some (p.1,.u)))
  | none=>none
 | _=>none
theorem zF {i:Nat} (B:MutD K (fD t) f) (h:tS K G0 W0 (kF f i mk mv) E σ H):sd (tE K G0 W0 mv) (wa (gh i) (tE K G0 W0 mk) t) E σ H:=by
 refine h.use fun G W le ρ T g r ρ' w e q=>?_
 refine tE.seq le w e q.err fun P ρ1 e1 v H1 ⟨Ts,g1,k,a1⟩=>?_
 obtain ⟨M,L,e1⟩:=mS e1
 obtain ⟨d0,f0⟩:=M
 obtain ⟨y,Z,U,X,m⟩:=k.slot L
 refine ⟨y.v,m,?_⟩
 ·refine tE.seq le k e1 q.err fun A ρ2 R J H2 ⟨Us,g2,C,a2⟩=>?_
  have D:Ars σ [A,P] [J,v] (([] ++ Ts) ++ Us):=.cons a2 (.cons a1 .nil)
  have S:Wf K G H2 σ ρ2 ((([] ++ Ts) ++ Us) ++ T) g2:=C.perm (by
   rw [List.nil_append,<- List.append_assoc]
   exact (List.perm_append_comm).append_right T)
  obtain ⟨ds,ρ3,g3,a,_,n,_,ys,o,f1,f2⟩:=D.gives S R
  subst f1
  cases b:(ρ3[i]?).join with
  | none=>rw [b] at a;exact nsE a
  | some p3 =>
   obtain ⟨s,N⟩:=p3
   rw [b] at a
   cases N with
   | u =>
    dsimp only at a
    cases j:f s (ys.map (·.d)) with
    | none=>rw [j] at a;exact nsE a
    | some p =>
     rw [j] at a
     cases a
     have:=n.changed (Q:=fun _ H'=>E.nx σ H') B b m o j fun F H' ⟨x,Y,O,a5⟩=>q _ _ _ (O.sub (Cl x T))
     rw [f2] at this
     obtain ⟨V,F,c,I⟩:=this
     cases c
     exact I
   | l=>exact nsE a
   | z=>exact nsE a
end
end L3
end
section
namespace L3
open PySem L2
structure RE (X:Cx) (G0:Gm) (W0:D->Sto->Prop) (e:Expr) (m:EM):Prop where
 h:PE X e (tE X.K G0 W0 m)
structure RT (X:Cx) (G0:Gm) (W0:D->Sto->Prop) (e:Expr) (m:M3 Bool):Prop where
 h:PT X e (tT X.K G0 W0 m)
structure RW (X:Cx) (G0:Gm) (W0:D->Sto->Prop) (e:Expr) (m:M3 Bool):Prop where
 h:PW X e (tT X.K G0 W0 m)
structure RA (X:Cx) (G0:Gm) (W0:D->Sto->Prop) (es:List Expr) (m:M3 (List R3)):Prop where
 h:PA X es (tA X.K G0 W0 m)
structure RS (X:Cx) (G0:Gm) (W0:D->Sto->Prop) (s:Stmt) (m:SM):Prop where
 h:PS X s (tS X.K G0 W0 m)
structure RSs (X:Cx) (G0:Gm) (W0:D->Sto->Prop) (s:List Stmt) (m:SM):Prop where
 h:PSs X s (tS X.K G0 W0 m)
structure RI (X:Cx) (G0:Gm) (W0:D->Sto->Prop) (tg iter:Expr) (m:IM):Prop where
 h:PI X tg iter (tI X.K G0 W0 m)
structure RG (X:Cx) (pr:Nat->Bool) (target:Expr) (bnd:D->Sto->Option Sto):Prop where
 h:∃ tg,PG X target tg/\Bnd X.K pr tg bnd
structure RGs (X:Cx) (pr:Nat->Bool) (targets:List Expr) (bnd:List D->Sto->Option Sto):Prop where
 h:∃ tg,PGs X targets tg/\wP X.K pr tg bnd
theorem PE.imp (h:PE X e t) (f:∀ σ H Q,t' σ H Q->t σ H Q):PE X e t':=fun pins s σ H Q I q=>h pins s σ H Q I (f σ H Q q)
theorem PT.imp (h:PT X e t) (f:∀ σ H Q,t' σ H Q->t σ H Q):PT X e t':=fun pins s σ H Q I q=>h pins s σ H Q I (f σ H Q q)
theorem PW.imp (h:PW X e t) (f:∀ σ H Q,t' σ H Q->t σ H Q):PW X e t':=fun wh pins s σ H Q I q=>h wh pins s σ H Q I (f σ H Q q)
theorem PA.imp (h:PA X e t) (f:∀ σ H Q,t' σ H Q->t σ H Q):PA X e t':=fun pos pins s σ H Q I q=>h pos pins s σ H Q I (f σ H Q q)
theorem PS.imp (h:PS X e t) (f:∀ D σ H,t' D σ H->t D σ H):PS X e t':=fun pins s σ H D I q=>h pins s σ H D I (f D σ H q)
theorem PSs.imp (h:PSs X e t) (f:∀ D σ H,t' D σ H->t D σ H):PSs X e t':=fun pins s σ H D I q=>h pins s σ H D I (f D σ H q)
theorem PI.imp (h:PI X tg e t) (f:∀ σ H R,t' σ H R->t σ H R):PI X tg e t':=fun pins s σ H R I q=>h pins s σ H R I (f σ H R q)
theorem szl:(16777216:Nat)=sizeLine:=by rw [sizeLine_eq]
section
variable {X:Cx} {G0:Gm} {W0:D->Sto->Prop} {a b c e:Expr} {es:List Expr} {pos:Pos} {ma mb mc m:EM} {ms:M3 (List R3)} {t u:M3 Bool} {fA:List Expr}
theorem lU (i:Nat) (c:X.N[i]?=some x) (b:Vis X.env.scope x) (hd:(x == ("__debug__":Str))=false) (a:(x == ("__classdict__":Str))=false):RE X G0 W0 (.Name x pos) (ab i):=⟨PE.imp (fF c b hd a) fun _ _ _ h=>zO h⟩
theorem Au:RE X G0 W0 (.Constant (.int i) j pos) (mC (.int i)):=⟨PE.imp l4 fun _ _ _ h=>fq (fun _=>.int i) h⟩
theorem re_bl:RE X G0 W0 (.Constant (.bool i) j pos) (mC (.bl i)):=⟨PE.imp pe_bl fun _ _ _ h=>fq (fun _=>.bl i) h⟩
theorem As:RE X G0 W0 (.Constant .none j pos) (mC .non):=⟨PE.imp AN fun _ _ _ h=>fq (fun _=>.non) h⟩
theorem An:RE X G0 W0 (.Constant (.str i) j pos) (mC (.str i)):=⟨PE.imp vg fun _ _ _ h=>fq (fun _=>.str i) h⟩
theorem nh {i:Int} (a:Gl X x) (hm:X.mg x=some (.int i tk)) (hd:(x == ("__debug__":Str))=false):RE X G0 W0 (.Name x pos) (mC (.int i)):=⟨PE.imp (xZ (v:=V.int i) a hm ⟨_,rfl⟩ hd) fun _ _ _ h=>fq (fun _=>.int i) h⟩
theorem iU (c:OpR X (binaryOp op) r) (hd:OpD X.K r f) (d:RE X G0 W0 a ma) (e:RE X G0 W0 b mb):RE X G0 W0 (.BinOp a op b pos) (ag f ma mb):=⟨PE.imp (pe_op c d.h e.h) fun _ _ _ h=>lK hd h⟩
theorem re_un (b:UnR X (unaryOp op) r) (hd:UnD X.K r f) (c:RE X G0 W0 a ma):RE X G0 W0 (.UnaryOp op a pos) (mUn f ma):=⟨PE.imp (pe_un b c.h) fun _ _ _ h=>yX hd h⟩
theorem lV (c:OpR X (compareOp op) r) (hd:OpD X.K r f) (d:RE X G0 W0 a ma) (e:RE X G0 W0 b mb) (hm:behindInMarks op b=false):RE X G0 W0 (.Compare a [op] [b] pos) (ag f ma mb):=⟨PE.imp (x5 c d.h e.h hm) fun _ _ _ h=>lK hd h⟩
theorem re_ix (c:IxR X r) (hd:OpD X.K r f) (d:RE X G0 W0 a ma) (g:RE X G0 W0 b mb) (e:rV b):RE X G0 W0 (.Subscript a b pos) (ag f ma mb):=⟨PE.imp (pe_ix c d.h g.h e) fun _ _ _ h=>lK hd h⟩
theorem Ax (c:RE X G0 W0 a ma) (d:RE X G0 W0 (.BoolOp .And (b :: fA) pos) mb):RE X G0 W0 (.BoolOp .And (a :: b :: fA) pos) (eR ma mb):=⟨PE.imp (AS c.h d.h) fun _ _ _ h=>zT h⟩
theorem Ap (h:RE X G0 W0 a ma):RE X G0 W0 (.BoolOp op [a] pos) ma:=⟨AL h.h⟩
theorem Aq (b:RE X G0 W0 a ma):RE X G0 W0 (.UnaryOp .Not a pos) (og ma):=⟨PE.imp (AM b.h) fun _ _ _ h=>zQ h⟩
theorem re_if (d:RT X G0 W0 c t) (e:RE X G0 W0 a ma) (f:RE X G0 W0 b mb):RE X G0 W0 (.IfExp c a b pos) (mIf t ma mb):=⟨PE.imp (vi d.h e.h f.h) fun _ _ _ h=>tE_if h⟩
def cS (f b:D->D->Option (D × Fl)) (ma mb mc:EM):EM:=ac ma fun ra=>ac mb fun rb=>ac (der ra) fun da=>ac (der rb) fun db=>ac (aR ((f da db).bind fun p=>asB p.1)) fun k=>if k then ac mc fun rc=>ac (der rb) fun db=>ac (der rc) fun a=>aR ((b db a).map fun p=>R3.val p.1 p.2) else aO (.val (.bl false) .z)
theorem Ad (b:RE X G0 W0 a ma) (he:∀ whole,isTrue a X.env whole=(do let v <- whole;standAt a.pos;holding [v] (truthy v))):RT X G0 W0 a (cB ma):=⟨PT.imp (AF b.h he) fun _ _ _ h=>tT_b h⟩
theorem rt_w (h:RW X G0 W0 a t):RT X G0 W0 a t:=⟨h.h.pt⟩
theorem xo (b:RT X G0 W0 a t):RW X G0 W0 (.BoolOp .And [a] pos) t:=⟨xL b.h⟩
theorem z7 (b:RT X G0 W0 a t):RW X G0 W0 (.BoolOp .Or [a] pos) t:=⟨AC b.h⟩
theorem z8 (c:RT X G0 W0 a t) (d:RW X G0 W0 (.BoolOp .And (b :: fA) pos) u):RW X G0 W0 (.BoolOp .And (a :: b :: fA) pos) (kA t u):=⟨PW.imp (AD c.h d.h) fun _ _ _ h=>zE h⟩
theorem rw_or (c:RT X G0 W0 a t) (d:RW X G0 W0 (.BoolOp .Or (b :: fA) pos) u):RW X G0 W0 (.BoolOp .Or (a :: b :: fA) pos) (cOr t u):=⟨PW.imp (pw_or c.h d.h) fun _ _ _ h=>tT_or h⟩
theorem Ae (b:RT X G0 W0 a t):RT X G0 W0 (.UnaryOp .Not a pos) (dJ t):=⟨PT.imp (AG b.h) fun _ _ _ h=>zD h⟩
theorem pG:RA X G0 W0 [] ae:=⟨PA.imp j5 fun _ _ _ h=>zV h⟩
theorem lW (a:RE X G0 W0 e m) (c:RA X G0 W0 es ms) (b:starEach (e :: es) X.env=(false,eval e X.env) :: starEach es X.env):RA X G0 W0 (e :: es) (aa m ms):=⟨PA.imp (gf a.h c.h b) fun _ _ _ h=>xh h⟩
theorem Am (h:RA X G0 W0 es ms):RE X G0 W0 (.Tuple es x1 pos) (bD ms):=⟨PE.imp (vf h.h) fun _ _ _ h=>zP szl h⟩
theorem At (h:RA X G0 W0 es ms):RE X G0 W0 (.List es pos) (dI ms):=⟨PE.imp (AO h.h) fun _ _ _ h=>zS szl h⟩
theorem dn {id:String} (g:bZ X (.builtin id) r) (hd:dS X.K r f) (d:Gl X x) (hm:X.mg x=none) (c:bootBuiltins x=some (.builtin id)) (j:RA X G0 W0 (e :: es) ms) (i:x ≠ "__name__") (b:(x == ("__debug__":Str))=false) (he:starEach (e :: es) X.env=(false,eval e X.env) :: starEach es X.env) (a:(backTo pos (starEach es X.env)).any (·.1)=false):RE X G0 W0 (.Call (.Name x p) (e :: es) [] pos) (ak f ms):=⟨PE.imp (ir g d hm c j.h i b he a) fun _ _ _ h=>ft hd h⟩
theorem k8 (g:bZ X (.type T) r) (hd:dS X.K r f) (d:Gl X x) (hm:X.mg x=none) (c:bootBuiltins x=some (.type T)) (j:RA X G0 W0 (e :: es) ms) (i:x ≠ "__name__") (b:(x == ("__debug__":Str))=false) (he:starEach (e :: es) X.env=(false,eval e X.env) :: starEach es X.env) (a:(backTo pos (starEach es X.env)).any (·.1)=false):RE X G0 W0 (.Call (.Name x p) (e :: es) [] pos) (ak f ms):=⟨PE.imp (iW g d hm c j.h i b he a) fun _ _ _ h=>ft hd h⟩
variable {st:Stmt} {sts:List Stmt} {sm sn:SM}
theorem xw:RSs X G0 W0 [] dm:=⟨PSs.imp xQ fun _ _ _ h=>zJ h⟩
theorem uJ (h1:RS X G0 W0 st sm) (h2:RSs X G0 W0 sts sn):RSs X G0 W0 (st :: sts) (aD sm sn):=⟨PSs.imp (u5 h1.h h2.h) fun _ _ _ h=>zH h⟩
theorem xv (h1:RS X G0 W0 st sm):RSs X G0 W0 [st] sm:=⟨xP h1.h⟩
theorem xy (he:RE X G0 W0 e m) (a:swapsWith e none pos.line X.env=pure false):RS X G0 W0 (.Expr e pos) (fc m):=⟨PS.imp (xR he.h a) fun _ _ _ h=>wU h⟩
theorem Ag (np:Nat) (a:∀ i,np<=i->G0.pr i=false) (he:RE X G0 W0 e m):RS X G0 W0 (.Return (some e) pos) (aU np m):=⟨PS.imp (AI he.h) fun _ _ _ h=>zI a h⟩
theorem rs_if (a:RT X G0 W0 c t) (b:RSs X G0 W0 x sm) (d:RSs X G0 W0 y sn):RS X G0 W0 (.If c x y pos) (sIf t sm sn):=⟨PS.imp (ps_if a.h b.h d.h) fun _ _ _ h=>tS_if h⟩
theorem uL (i:Nat) (b:X.N.Nodup) (hi:X.N[i]?=some x) (a:Loc X.env.scope x) (he:RE X G0 W0 e m) (d:swapsWith e (some (.Name x pos')) pos.line X.env=pure false) (hf:X.fn x=true\/X.env.scope.names.lookup x=some .local) (c:G0.pr i=false):RS X G0 W0 (.Assign [.Name x pos'] e pos) (aT i m):=⟨PS.imp (AH b hi a he.h d hf) fun _ _ _ h=>zG c h⟩
theorem uK (b:PassesOwn (model X.prog X.w) X.A X.env X.xe) (a:RT X G0 W0 c t) (d:RSs X G0 W0 body sm):RS X G0 W0 (.While c body [] pos) (fv t sm):=⟨PS.imp (u6 b a.h d.h) fun _ _ _ h=>ui h⟩
theorem Ah (b:PassesOwn (model X.prog X.w) X.A X.env X.xe) (c:X.calm=true) (hi:RI X G0 W0 tg iter im) (a:RG X G0.pr tg bnd) (e:RSs X G0 W0 body sm) (d:∀ x,foldedSetIterable iter X.env x=pure x):RS X G0 W0 (.For tg iter body [] pos) (cJ im bnd sm):=by
 obtain ⟨g,h1,h2⟩:=a.h
 exact ⟨PS.imp (AJ b c hi.h h1 e.h d) fun _ _ _ h=>zK h2 h⟩
theorem qR (i:Nat) (b:X.N.Nodup) (hi:X.N[i]?=some x) (a:Loc X.env.scope x) (hf:X.fn x=true\/X.env.scope.names.lookup x=some .local) (c:pr i=false):RG X pr (.Name x pos) (ao i):=⟨_,jO b hi a hf,iG c⟩
theorem xF:RGs X pr [] d6:=⟨_,lZ,oT⟩
theorem uR (h1:RG X pr e bn) (h2:RGs X pr es bs) (a:(assignEach (e :: es) X.env).map (·.2)=assign e X.env :: (assignEach es X.env).map (·.2)):RGs X pr (e :: es) (aY bn bs):=by
 obtain ⟨g,a1,a2⟩:=h1.h
 obtain ⟨b,b1,b2⟩:=h2.h
 exact ⟨_,fE a1 b1 a,jj a2 b2⟩
theorem Al {k n:Nat} (b:X.calm=true) (h:RGs X pr es bs) (c:(assignEach es X.env).length=n) (a:(assignEach es X.env).findIdx? (·.1)=none):RG X pr (.Tuple es k pos) (eW n bs):=by
 obtain ⟨d,b1,b2⟩:=h.h
 exact ⟨_,pO b b1 c a,rN b2⟩
theorem xI (NY:List Str) (ix:List (Option Nat)) (g:X.calm=true) (hi:RI X G0 W0 tg iter im) (d:∀ s H C fp,PTs (aJ X NY scope s H C fp) ifs (tT X.K (a9 ix) noX cm)) (he:∀ s H C fp,RE (aJ X NY scope s H C fp) (a9 ix) noX elt em) (f:fS scope X.N X.env.scope NY ix=true) (b:Inj ix) (e:∀ x,foldedSetIterable iter X.env x=pure x) (c:∃ a,Bnd X.K (a9 ix).pr a bnd/\∀ s H C fp,PG (aJ X NY scope s H C fp) tg a):RE X G0 W0 (.ListComp elt [⟨tg,iter,ifs,0⟩] scope pos) (bB im bnd cm em ix):=by
 obtain ⟨a,b1,b2⟩:=c
 exact ⟨PE.imp (x4 NY ix g hi.h b2 d (fun s H C fp=>(he s H C fp).h) f e) fun _ _ _ h=>xg szl b b1 h⟩
end
end L3
end
section
namespace L3
open PySem L2
noncomputable def ah (F:Fn) (ms:M3 (List R3)):EM:=ac ms fun rs=>fun ρ=>match prs (frz (jE rs) ρ) rs with
 | none=>none
 | some ps=>match F ps with
  | none=>none
  | some (.ok p,qs)=>if qs.length=ps.length then some (.ok (.val p.1 p.2),back rs ps qs (frz (jE rs) ρ)) else none
  | some (.error _,_)=>none
def se (K:FG) (F:Fn):Sp:=fun a H Q _=>∃ (ps:List It3) (p:D × Fl) (fs:List (D × Fl)),a=ps.map (·.v)/\(∀ p ∈ ps,Arg K H p)/\ps.Pairwise Apart3/\F (ps.map fun p=>(p.d,p.f))=some (.ok p,fs) /\
 ∀ x qs H',Behind K H H' ps qs x->x.d=p.1->x.f=p.2->qs.map (fun q=>(q.d,q.f))=fs->Q x.v H'
section
variable {K:FG} {G G0:Gm} {W W0:D->Sto->Prop} {H H':Hp} {σ:St} {ρ ρ':Sto} {T T':List It3} {g:Nat->Option It3} {x y z:It3} {α β:Type}
theorem uk (h:tE K G0 W0 (ah F ms) σ H Q):tA K G0 W0 ms σ H fun n H1=>se K F n H1 Q E0:=by
 refine h.use fun G W le ρ T g o ρ' w e q=>?_
 refine tA.seq le w e q.err fun rs ρ1 e1 n H1 Ts g1 s a1=>?_
 obtain ⟨g2,c,E⟩:=Wf.frz (is:=jE rs) s
 cases k:prs (L3.frz (jE rs) ρ1) rs with
 | none=>rw [k] at e1;exact nsE e1
 | some pfs =>
  rw [k] at e1
  dsimp only at e1
  have hd:∀ i,2<=(pls rs).count i->∀ y,g2 i=some y->y.f=.z:=fun i L y u=>by
   have hm:i ∈ jE rs:=CI.mpr ⟨List.count_pos_iff.mp (by omega),by simpa using L⟩
   have s1:=c.sl i
   rw [u] at s1
   have C:∃ y0,g1 i=some y0:=by
    cases I:g1 i with
    | some y0=>exact ⟨y0,rfl⟩
    | none =>
     exfalso
     have s2:=s.sl i
     rw [I] at s2
     have:=oj (is:=jE rs) s2.symm
     rw [this] at s1
     cases s1
   obtain ⟨y0,l⟩:=C
   obtain ⟨R,b,_,O⟩:=E i y0 l
   rw [u] at b
   cases b
   exact O hm
  obtain ⟨ps,f1,f2,N,f4,J⟩:=Ars.args a1 c hd k
  have hit:∀ p ∈ ps,Itm (Ts ++ T) g2 p:=fun p j=>by
   rcases f4 p j with ⟨i,_,D⟩ | h
   ·exact .inl ⟨i,D⟩
   ·exact .inr (Ca _ h)
  have d:∀ p ∈ ps,Arg K H1 p:=fun p j=>⟨(c.itm (hit p j)).rep,fun hf=>by
   obtain ⟨m,a,L',v1,v2,v3,_⟩:=(c.itm (hit p j)).own hf
   exact ⟨m,a,L',v1,v2,v3⟩⟩
  subst f2
  cases b:F pfs with
  | none=>rw [b] at e1;exact nsE e1
  | some r =>
   obtain ⟨out,fs⟩:=r
   rw [b] at e1
   cases out with
   | ok p =>
    dsimp only at e1
    split at e1
    ·cases e1
     refine ⟨ps,p,fs,rfl,d,N,by rw [f1];exact b,?_⟩
     intro x qs H' B x1 P A
     obtain ⟨g',S,M⟩:=Wf.after c k f1 f4 J B.toBehindX
     have t:=M x B.rep B.own B.src B.apx
     rw [A] at t
     rw [<- x1,<- P] at q
     exact q x.v H' ⟨[x],g',t,.val x⟩
    ·exact nsE e1
   | error er=>exact nsE e1
def dC (b:Bool) (p:It3):It3:=if b then b7 p else p
theorem lh:∀ {mask:List Bool} {ps:List It3},(List.zipWith dC mask ps).map (fun p=>(p.d,p.f))=List.zipWith kJ mask (ps.map fun p=>(p.d,p.f))
 | [],_=>rfl
 | _ :: _,[]=>rfl
 | b :: mask,p :: ps=>by
  simp only [List.zipWith_cons_cons,Cs,lh]
  cases b <;> rfl
theorem sR {i:Nat} (h:(List.zipWith dC mask ps)[i]?=some q):∃ b p,mask[i]?=some b/\ps[i]?=some p/\q=dC b p:=by
 rw [List.getElem?_zipWith] at h
 cases e1:mask[i]? with
 | none=>rw [e1] at h;exact nsE h
 | some b =>
  cases a:ps[i]? with
  | none=>rw [e1,a] at h;exact nsE h
  | some p=>rw [e1,a] at h;cases h;exact ⟨b,p,rfl,rfl,rfl⟩
theorem oh {i:Nat} (a:ps.length=mask.length) (h:ps[i]?=some p):∃ b,mask[i]?=some b/\(List.zipWith dC mask ps)[i]?=some (dC b p):=by
 have hi:i < mask.length:=by have:=(Cj.mp h).1;omega
 refine ⟨mask[i],Ce hi,?_⟩
 rw [List.getElem?_zipWith,Ce hi,h]
theorem dB (b:Bool) (p:It3):(dC b p).d=p.d/\(dC b p).v=p.v/\(dC b p).L=p.L/\((dC b p).f=p.f\/(dC b p).f=.z):=by
 cases b
 ·exact ⟨rfl,rfl,rfl,.inl rfl⟩
 ·exact ⟨rfl,rfl,rfl,.inr rfl⟩
theorem NoRoot.low (h:NoRoot a b) (d:a'.v=a.v) (hf:a'.f=a.f\/a'.f=.z) (g:b'.L=b.L):NoRoot a' b':=fun q c e=>by
 rw [g]
 rcases hf with f | f
 ·exact h (by rw [<- f];exact q) c (by rw [<- d];exact e)
 ·exact absurd f q
def prM (mask:List Bool) (i:Nat):Bool:=match mask[i]? with
 | some b=>!b
 | none=>false
theorem yy {f:α->β} {l:List α} {i:Nat} {a:α} (h:l[i]?=some a):(l.map f)[i]?=some (f a):=by rw [Cn,h];rfl
theorem rE {n:Nat} (hn:mask.length<=n) (h:se K (fnM mask n m) vs H Q E) :
  ∃ G:Gm,G.pr=prM mask/\tS K G noX m { nx:=fun _ H'=>Q .non H',rt:=Q } (vs.map some ++ List.replicate (n - vs.length) none) H:=by
 obtain ⟨ps,p,fs,rfl,X,hp,l,q⟩:=h
 unfold fnM at l
 rw [Ci] at l
 split at l
 ·rename_i hl
  rw [<- lh] at l
  generalize w:List.zipWith dC mask ps=g at l
  have ax:g.length=ps.length:=by rw [<- w,List.length_zipWith];omega
  have S:g.map (·.v)=ps.map (·.v):=by
   refine List.ext_getElem? fun i=>?_
   rw [Cn,Cn]
   cases e:ps[i]? with
   | none=>rw [List.getElem?_eq_none (by have:=List.getElem?_eq_none_iff.mp e;omega)]
   | some u =>
    obtain ⟨b,_,t⟩:=oh (mask:=mask) hl e
    rw [w] at t
    rw [t]
    show some (dC b u).v=some u.v
    rw [(dB b u).2.1]
  have up:∀ (i:Nat) (u:It3),g[i]?=some u->∃ b s,mask[i]?=some b/\ps[i]?=some s/\u=dC b s:=fun i u e=>by rw [<- w] at e;exact sR e
  have A:∀ u ∈ g,∃ b s,s ∈ ps/\u=dC b s:=fun u hu=>by
   obtain ⟨i,hi,e⟩:=List.mem_iff_getElem.mp hu
   obtain ⟨b,s,_,t,y⟩:=up i u (by rw [Ce hi,e])
   exact ⟨b,s,Ck t,y⟩
  have J:∀ u ∈ g,Arg K H u:=fun u hu=>by
   obtain ⟨b,s,h0,rfl⟩:=A u hu
   obtain ⟨e1,t,y,W⟩:=dB b s
   refine ⟨by rw [e1,t,y];exact (X s h0).rep,fun hf=>?_⟩
   rw [e1,t,y]
   refine (X s h0).own fun z=>hf ?_
   rcases W with f | f
   ·rw [f];exact z
   ·exact f
  have I:g.Pairwise Apart3:=by
   rw [List.pairwise_iff_getElem]
   intro i j hi hj lt
   obtain ⟨b,s,_,t,y⟩:=up i _ (Ce hi)
   obtain ⟨F,az,_,ar,Y⟩:=up j _ (Ce hj)
   have ap:=cL hp (fun _ _=>Apart3.symm) (Cq lt) t ar
   rw [y,Y]
   obtain ⟨_,a2,T,R⟩:=dB b s
   obtain ⟨_,b2,b3,b4⟩:=dB F az
   exact ⟨ap.1.low a2 R b3,ap.2.low b2 b4 T⟩
  have P:∀ (i:Nat) (u:It3),g[i]?=some u->u.f ≠ .z->prM mask i=true:=fun i u e hf=>by
   obtain ⟨b,s,e1,t,y⟩:=up i u e
   unfold prM
   rw [e1]
   cases b with
   | false=>rfl
   | true=>rw [y] at hf;exact absurd rfl hf
  have alls:∀ c,cW g c->cW ps c:=fun c ⟨u,hu,M⟩=>by
   obtain ⟨b,s,h0,rfl⟩:=A u hu
   exact ⟨s,h0,by rw [<- (dB b s).2.2.1];exact M⟩
  have lift:∀ {H':Hp} {qs:List It3},BehindX K H H' g qs->BehindX K H H' ps qs:=fun {H' qs} B=>by
   refine ⟨fun b o hb hn=>B.frame b o hb fun u hu hf S=>?_,Paired.ofGet ?_ fun k u v eu ev=>?_,B.apart⟩
   ·obtain ⟨F,s,h0,rfl⟩:=A u hu
    obtain ⟨_,t,_,W⟩:=dB F s
    rcases W with f | f
    ·exact hn s h0 (by rw [<- f];exact hf) (by rw [<- t];exact S)
    ·rw [f] at hf;cases hf
   ·rw [<- ax];exact Paired.length B.back
   ·obtain ⟨b,_,t⟩:=oh (mask:=mask) hl eu
    rw [w] at t
    have b1:=Paired.at B.back t ev
    obtain ⟨a1,a2,T,R⟩:=dB b u
    refine ⟨fun hz=>?_,by rw [b1.v,a2],?_,b1.arg,fun c M=>(b1.src c M).imp id (alls c),fun hf F N=>?_⟩
    ·have:dC b u=u:=by
      cases b
      ·rfl
      ·obtain ⟨d,v,L,f⟩:=u
       have hz:f=.z:=hz
       subst hz;rfl
     rw [<- this]
     exact b1.z (by rw [this];exact hz)
    ·rcases b1.f with h | h
     ·rcases R with f | f
      ·exact .inl (h.trans f)
      ·exact .inr (h.trans f)
     ·exact .inr h
    ·rcases R with f | f
     ·exact b1.there (by rw [f];exact hf) F (by rw [a2];exact N)
     ·-- lowered: as it was
      obtain ⟨_,a,L',v1,v2,_⟩:=(X u (Ck eu)).own (by rw [hf];intro q;cases q)
      rw [N] at v1;cases v1
      have Z:=b1.z f
      have r:=b1.arg.rep
      rw [Z,a1,a2,T] at r
      exact (r.inH F (by rw [v2];exact B6)).ex
  have V:g.length<=n:=by omega
  have wf:=t5 (K:=K) (H:=H) (n:=n) (pr:=prM mask) V J I P
  rw [S] at wf
  refine ⟨gOf H (prM mask) ((ps.map (·.v)).map some ++ List.replicate (n - (ps.map (·.v)).length) none) g,rfl,?_⟩
  have h0:∀ (i:Nat) (u:It3),g[i]?=some u->((ps.map (·.v)).map some ++ List.replicate (n - (ps.map (·.v)).length) none)[i]?=some (some u.v):=fun i u e=>kW (by rw [<- S];exact yy e)
  unfold fn0 at l
  cases e:m (fj n (g.map fun p=>(p.d,p.f))) with
  | none=>rw [e] at l;exact nsE l
  | some rr =>
   obtain ⟨r,ρ2⟩:=rr
   rw [e] at l
   refine tS.mk (r:=r) (Le.refl K _ _) wf e ?_
   have fin:∀ {x:It3} {σ':St} {H':Hp} {g':Nat->Option It3} {d:D} {f:Fl},Wf K (gOf H (prM mask) ((ps.map (·.v)).map some ++ List.replicate (n - (ps.map (·.v)).length) none) g) H' σ' ρ2 [x] g'->x.d=d->x.f=f ->
     ((ee ρ2 0 (g.map fun p=>(p.d,p.f))).map fun fs=>((.ok (d,f),fs):Except D (D × Fl) × List (D × Fl)))=some (.ok p,fs)->Q x.v H':=fun {x σ' H' g' d f} O xd xf l=>by
    cases C:ee ρ2 0 (g.map fun p=>(p.d,p.f)) with
    | none=>rw [C] at l;exact nsE l
    | some fs' =>
     rw [C] at l
     cases l
     obtain ⟨qs,B,Z⟩:=qG (n:=n) J I P h0 O C
     have BX:=lift B.toBehindX
     exact q x qs H' ⟨BX,B.rep,B.own,fun c M=>(B.src c M).imp id (alls c),B.apx⟩ xd xf Z
   cases r with
   | error er=>
    dsimp only at l
    cases C:ee ρ2 0 (g.map fun p=>(p.d,p.f)) with
    | none=>rw [C] at l;exact nsE l
    | some fs'=>rw [C] at l;cases l
   | ok fl =>
    cases fl with
    | nx =>
     intro σ' H' g' O
     obtain ⟨Ts,g2,w2,a2⟩:=O.const .non
     obtain ⟨x,rfl,x1,U,x3⟩:=a2.val_inv
     have:=fin w2 x1 U l
     rw [x3] at this
     exact this
    | br=>exact nsE l
    | ct=>exact nsE l
    | rt d f =>
     intro x σ' H' g' O x1 U
     exact fin O x1 U l
 ·exact nsE l
end
abbrev aA (P:Program) (w:World) (K:FG) (mg:Str->Option Value) (base:Heap) (x:Str) (k:Nat) (ps:List Str) (F:Fn):Prop:=Callee P w K mg base x k ps (se K F)
theorem aI {k:Nat} {nn:Nat} (D:Def K mg x st) (S:FnScope N ps (af st)) (b:mask.length=ps.length) (c:N.length=nn) (o:∀ (kV doc pm:Value) (an:Option Addr) (a ct:Value) (us:List Value),us.length=ps.length->bindArgs (PySem.W.fnOf x x (aW st) (aM st) (af st) .none kV doc pm an a ct) ⟨us,[]⟩=pure (ps.zip us)) (body:∀ (a:Value) (A:Around) (outer:List Env) (s:Shared) (H:Hp) (E:XK) (f:Addr) (G:Gm),Room k (A.deeper (PyProof.Rows.envOfC x (af st) s.heap.objs.size f a))->G.pr=prM mask->RSs (oB CX0 P w K mg base N x (af st) f a A outer s H E).nox G noX (aM st) m) :
  aA P w K mg base x (k+1) ps (fnM mask nn m):=by
 refine D.callee o fun f fd F=>F.ok S (fun g H Q E h=>?_) fun a A outer s H g Q E j h=>?_
 ·obtain ⟨i,p,fs,rfl,_,_,d,_⟩:=h
  unfold fnM at d
  rw [Ci] at d ⊢
  split at d
  ·rename_i e;rw [e,b]
  ·exact nsE d
 ·have hle:mask.length<=nn:=by
   rw [b,<- c]
   have:=congrArg List.length S.pre
   rw [CB] at this
   omega
  obtain ⟨G,n,l⟩:=rE hle h
  subst c
  exact ⟨_,(body a A outer s H E f G j n).h,l⟩
theorem xJ {k:Nat} (c:aA X.prog X.w X.K X.mg X.base x k ps F) (g:Room k X.A) (f:RA X G0 W0 (e :: es) ms) (d:Gl X x) (b:(x == ("__debug__":Str))=false) (he:starEach (e :: es) X.env=(false,eval e X.env) :: starEach es X.env) (a:(backTo pos (starEach es X.env)).any (·.1)=false):RE X G0 W0 (.Call (.Name x p) (e :: es) [] pos) (ah F ms) :=
 ⟨PE.imp (pe_fn c g f.h d b he a) fun _ _ _ h=>uk h⟩
end L3
end
section
namespace L3
open PySem L2
def orD (f g:D->D->Option (D × Fl)) (a b:D):Option (D × Fl):=match f a b with
 | some p=>some p
 | none=>g a b
section
variable {K:FG} {H:Hp} {Ks:Addr->Prop} {d:D} {v:V} {L:List Addr} {X:Cx}
theorem dH (r:Rep K H d v []):New K H H Ks ⟨d,v,[],.z⟩:=⟨Same.refl _,r,fun _ h=>(by cases h),fun h=>absurd rfl h⟩
theorem nH (r:Rep K H d v L) (h:∀ c ∈ L,Ks c):New K H H Ks ⟨d,v,L,.z⟩:=⟨Same.refl _,r,fun c a=>.inr (h c a),fun h=>absurd rfl h⟩
theorem pV (a:H p=none) (r:Reps (Rep K H) ds vs L) (h:∀ c ∈ L,Ks c):New K H (upd H p (.lst vs)) Ks ⟨.lst ds,.ref p,p :: L,.u⟩:=by
 have np:p ∉ L:=fun b=>by obtain ⟨o,d⟩:=(r.inH p b).ex;rw [a] at d;exact nsE d
 refine ⟨bj a,.lst aC (r.same (bj a)),fun c b=>?_,fun _=>⟨rfl,p,L,rfl,rfl,np,a⟩⟩
 rcases Cd.mp b with e | b
 ·rw [e];exact .inl a
 ·exact .inr (h c b)
theorem pU (a:H p=none) (r:Reps (Rep K H) ds vs L) (h:∀ c ∈ L,Ks c):New K H (upd H p (.tup vs)) Ks ⟨.tup ds,.ref p,L,.z⟩ :=
 ⟨bj a,.tup aC (r.same (bj a)),fun c b=>.inr (h c b),fun h=>absurd rfl h⟩
theorem iz (b:y ∈ ys) (h:Arg K H y) (hm:iA y.d=false):∀ c ∈ y.L,cC ys c:=fun c a=>⟨y,b,a,fun hf=>by
 have:=(h.own hf).1
 rw [hm] at this;cases this⟩
theorem mh (g:y ∈ ys) (h:Arg K H y) (b:y.v=.ref a) (d:y.L=a :: L):∀ c ∈ L,cC ys c:=fun c f=>⟨y,g,by rw [d];exact B7 _ f,fun hf e=>by
 obtain ⟨_,i,L',v1,v2,v3⟩:=h.own hf
 rw [b] at v1;cases v1
 rw [d] at v2;cases v2
 rw [b] at e;cases e
 exact v3 f⟩
theorem OpD.or (h:OpD K r f) (h':OpD K r' g):OpD K (fun x y H Q=>r x y H Q\/r' x y H Q) (orD f g):=fun a b H Q p ra rb e q=>by
 unfold orD at e
 cases c:f a.d b.d with
 | some p'=>rw [c] at e;cases e;exact .inl (h a b H Q _ ra rb c q)
 | none=>rw [c] at e;exact .inr (h' a b H Q p ra rb e q)
def bo (C:Int->Int->Bool) (g:Int->Int->D):D->D->Option (D × Fl)
 | .int i,.int j=>if C i j then some (g i j,.z) else none
 | _,_=>none
theorem iC (f:∀ i j,Cb i j=true->C i j) (c:∀ i j H,Rep K H (gd i j) (g i j) []):OpD K (rI C g) (bo Cb gd):=fun a b H Q p ra rb e q=>by
 obtain ⟨da,m,l,k⟩:=a
 obtain ⟨db,o,h,n⟩:=b
 obtain ⟨ra,r⟩:=ra
 obtain ⟨rb,ob⟩:=rb
 dsimp only at ra rb
 cases da <;> try (exact nsE e)
 rename_i i
 obtain ⟨rfl,rfl⟩:=ra.view
 cases db <;> try (exact nsE e)
 rename_i j
 obtain ⟨rfl,rfl⟩:=rb.view
 have e:(if Cb i j then some (gd i j,Fl.z) else none)=some p:=e
 split at e
 ·rename_i d
  cases e
  exact ⟨i,j,rfl,rfl,f i j d,q ⟨gd i j,g i j,[],.z⟩ H (dH (c i j H)) rfl rfl⟩
 ·exact nsE e
theorem rI_of:rI0 g=rI (fun _ _=>True) g:=by
 funext x y H Q
 unfold rI0 rI
 apply propext
 constructor
 ·rintro ⟨i,j,a,b,c⟩;exact ⟨i,j,a,b,trivial,c⟩
 ·rintro ⟨i,j,a,b,_,c⟩;exact ⟨i,j,a,b,c⟩
theorem d9 (a:∀ i j H,Rep K H (gd i j) (g i j) []):OpD K (rI0 g) (bo (fun _ _=>true) gd):=by
 rw [rI_of]
 exact iC (fun _ _ _=>trivial) a
abbrev mQ:Int->Int->Bool:=fun _ _=>true
abbrev addI:=bo mQ fun i j=>.int (i+j)
abbrev eE:=bo mQ fun i j=>.int (i - j)
abbrev dW:=bo (fun i j=>decide ((-(2 ^ 64) < i/\i < 2 ^ 64)\/(-(2 ^ 64) < j/\j < 2 ^ 64))) fun i j=>.int (i * j)
abbrev pX:=bo (fun _ j=>decide (0 < j)) fun i j=>.int (i % j)
abbrev pM:=bo (fun i j=>decide (0<=j/\j<=1000000/\i.natAbs < 2 ^ 64)) fun i j=>.int (i ^ j.toNat)
abbrev ltI:=bo mQ fun i j=>.bl (decide (i < j))
abbrev leI:=bo mQ fun i j=>.bl (decide (i<=j))
abbrev gtI:=bo mQ fun i j=>.bl (decide (j < i))
abbrev geI:=bo mQ fun i j=>.bl (decide (j<=i))
theorem od_addI:OpD K (rI0 fun i j=>.int (i+j)) addI:=d9 fun i j _=>.int _
theorem yi:OpD K (rI0 fun i j=>.int (i - j)) eE:=d9 fun i j _=>.int _
theorem yk:OpD K (rI CMul fun i j=>.int (i * j)) dW:=iC (fun i j h=>by simpa [CMul,t4,wN] using h) fun i j _=>.int _
theorem ym:OpD K (rI (fun _ j=>0 < j) fun i j=>.int (i % j)) pX:=iC (fun i j h=>by simpa [CMul,t4,wN] using h) fun i j _=>.int _
theorem yj:OpD K (rI wN fun i j=>.int (i ^ j.toNat)) pM:=iC (fun i j h=>by simpa [CMul,t4,wN] using h) fun i j _=>.int _
theorem vt:OpD K (rI0 fun i j=>.bl (decide (i < j))) ltI:=d9 fun i j _=>.bl _
theorem vv:OpD K (rI0 fun i j=>.bl (decide (i<=j))) leI:=d9 fun i j _=>.bl _
theorem zf:OpD K (rI0 fun i j=>.bl (decide (j < i))) gtI:=d9 fun i j _=>.bl _
theorem od_ge:OpD K (rI0 fun i j=>.bl (decide (j<=i))) geI:=d9 fun i j _=>.bl _
def oJ:D->D->Option (D × Fl)
 | .tup xs,.tup ys=>if xs.length+ys.length<=16777216 then some (.tup (xs ++ ys),.z) else none
 | _,_=>none
def oM:D->D->Option (D × Fl)
 | .lst xs,.lst ys=>if xs.length+ys.length<=16777216 then some (.lst (xs ++ ys),.u) else none
 | _,_=>none
def oK:D->D->Option (D × Fl)
 | .str xs,.str ys=>if xs.length+ys.length<=16777216 then some (.str (xs ++ ys),.z) else none
 | _,_=>none
theorem Reps.len (r:Reps (Rep K H) ds vs L):ds.length=vs.length:=by
 induction r with
 | nil=>rfl
 | cons _ _ ih=>simp [ih]
theorem Reps.append (r:Reps (Rep K H) ds vs L) (b:Reps (Rep K H) ds' vs' L'):Reps (Rep K H) (ds ++ ds') (vs ++ vs') (L ++ L'):=by
 induction r with
 | nil=>exact b
 | cons a _ ih=>rw [List.append_assoc];exact .cons a ih
theorem Reps.nil_iff (r:Reps (Rep K H) ds vs L):ds=[] ↔ vs=[]:=by cases r <;> simp
def lX (K:FG):R2:=fun x y H Q=>∃ a b ys,x=.ref a/\y=.ref b/\SqT K H a []/\SqT K H b ys/\Q (.ref b) H
theorem vq:OpR X (binaryOp .Add) (lX X.K):=by
 intro pins s σ H x y v u Q I w r h
 obtain ⟨a,b,ys,rfl,rfl,z,A,q⟩:=h
 cases w
 cases r
 obtain ⟨its,m,o,_⟩:=I.tuple z
 obtain ⟨j,B,p2,_⟩:=I.tuple A
 have e:its=[]:=m.nil_iff.mpr rfl
 subst e
 obtain ⟨⟨cls,p,data,sl⟩,i,l,n,hd⟩:=id o
 obtain ⟨⟨k,f,data2,g⟩,d,c,t,hd2⟩:=id p2
 simp only at l hd c hd2
 subst l hd c hd2
 exact concat_meets ⟨_,i,rfl⟩ ⟨_,d,rfl⟩ noFill_tuple_add seq_tuple_add PySem.F.slot_tuple_add PySem.F.entry_tuple_add (PySem.F.args_tuple_add_2 _ _)
   (PyProof.Rows.tuple_addW0 a b _ _ n t p f sl g (by simp)) ⟨i,d,⟨.ref b,H,I,rfl,q⟩⟩
theorem od_catT:OpD K (fun x y H Q=>qW K x y H Q\/lX K x y H Q) oJ:=fun a b H Q p ra rb e q=>by
 obtain ⟨da,C,l,s⟩:=a
 obtain ⟨db,B,k,t⟩:=b
 obtain ⟨ra,u⟩:=ra
 obtain ⟨rb,ob⟩:=rb
 dsimp only at ra rb
 cases da <;> try (exact nsE e)
 rename_i xs
 obtain ⟨g,r,rfl,i,rs⟩:=ra.view
 cases db <;> try (exact nsE e)
 rename_i ys
 obtain ⟨f,ws,rfl,j,d⟩:=rb.view
 have e:(if xs.length+ys.length<=16777216 then some (D.tup (xs ++ ys),Fl.z) else none)=some p:=e
 split at e
 ·rename_i v
  cases e
  by_cases m:r=[]
  ·have o:=rs.nil_iff.mpr m
   subst m o
   refine .inr ⟨g,f,ws,rfl,rfl,SqT.of i,SqT.of j,?_⟩
   exact q ⟨.tup ys,.ref f,k,.z⟩ H (nH (.tup j d) (iz (y:=⟨.tup ys,.ref f,k,t⟩) (B7 _ (CG.mpr rfl)) ⟨.tup j d,ob⟩ rfl)) rfl rfl
  ·refine .inl ⟨g,f,r,ws,rfl,rfl,SqT.of i,SqT.of j,m,by rw [<- rs.len,<- d.len,<- szl];exact v,fun hw=>?_,fun hw p A=>?_⟩
   ·have n:=d.nil_iff.mpr hw
    subst n
    refine q ⟨.tup (xs ++ []),.ref g,l,.z⟩ H (nH (by rw [List.append_nil];exact .tup i rs) (iz (y:=⟨.tup xs,.ref g,l,s⟩) B6 ⟨.tup i rs,u⟩ rfl)) rfl rfl
   ·refine q ⟨.tup (xs ++ ys),.ref p,l ++ k,.z⟩ _ (pU A (rs.append d) fun c w=>?_) rfl rfl
    rcases Cg.mp w with h | h
    ·exact iz (y:=⟨.tup xs,.ref g,l,s⟩) B6 ⟨.tup i rs,u⟩ rfl c h
    ·exact iz (y:=⟨.tup ys,.ref f,k,t⟩) (B7 _ (CG.mpr rfl)) ⟨.tup j d,ob⟩ rfl c h
 ·exact nsE e
theorem yp:OpD K xK oM:=fun a b H Q p ra rb e q=>by
 obtain ⟨da,w,i,o⟩:=a
 obtain ⟨db,x,f,r⟩:=b
 obtain ⟨ra,t⟩:=ra
 obtain ⟨rb,ob⟩:=rb
 dsimp only at ra rb
 cases da <;> try (exact nsE e)
 rename_i xs
 obtain ⟨g,m,i,rfl,rfl,l,rs⟩:=ra.view
 cases db <;> try (exact nsE e)
 rename_i ys
 obtain ⟨j,ws,f,rfl,rfl,k,d⟩:=rb.view
 have e:(if xs.length+ys.length<=16777216 then some (D.lst (xs ++ ys),Fl.u) else none)=some p:=e
 split at e
 ·rename_i v
  cases e
  refine ⟨g,j,m,ws,rfl,rfl,l,k,by rw [<- rs.len,<- d.len,<- szl];exact v,fun p s=>?_⟩
  refine q ⟨.lst (xs ++ ys),.ref p,p :: (i ++ f),.u⟩ _ (pV s (rs.append d) fun c n=>?_) rfl rfl
  rcases Cg.mp n with h | h
  ·exact mh (y:=⟨.lst xs,.ref g,g :: i,o⟩) B6 ⟨.lst l rs,t⟩ rfl rfl c h
  ·exact mh (y:=⟨.lst ys,.ref j,j :: f,r⟩) (B7 _ (CG.mpr rfl)) ⟨.lst k d,ob⟩ rfl rfl c h
 ·exact nsE e
theorem od_catS:OpD K (fun x y H Q=>∃ i j,x=.str i/\y=.str j/\i.length+j.length<=sizeLine/\Q (.str (i ++ j)) H) oK:=fun a b H Q p ra rb e q=>by
 obtain ⟨da,h,g,f⟩:=a
 obtain ⟨db,l,d,k⟩:=b
 obtain ⟨ra,m⟩:=ra
 obtain ⟨rb,ob⟩:=rb
 dsimp only at ra rb
 cases da <;> try (exact nsE e)
 rename_i i
 obtain ⟨rfl,rfl⟩:=ra.view
 cases db <;> try (exact nsE e)
 rename_i j
 obtain ⟨rfl,rfl⟩:=rb.view
 have e:(if i.length+j.length<=16777216 then some (D.str (i ++ j),Fl.z) else none)=some p:=e
 split at e
 ·rename_i c
  cases e
  exact ⟨i,j,rfl,rfl,by rw [<- szl];exact c,q ⟨.str (i ++ j),.str (i ++ j),[],.z⟩ H (dH (.str _)) rfl rfl⟩
 ·exact nsE e
abbrev aN:=orD addI (orD oK (orD oJ oM))
theorem Bf:OpD K (fun x y H Q=>rI0 (fun i j=>.int (i+j)) x y H Q\/((∃ i j,x=.str i/\y=.str j/\i.length+j.length<=sizeLine/\Q (.str (i ++ j)) H)\/((qW K x y H Q\/lX K x y H Q)\/xK x y H Q))) aN:=od_addI.or (od_catS.or (od_catT.or yp))
theorem ye:OpR X (binaryOp .Add) (fun x y H Q=>rI0 (fun i j=>.int (i+j)) x y H Q\/((∃ i j,x=.str i/\y=.str j/\i.length+j.length<=sizeLine/\Q (.str (i ++ j)) H)\/((qW X.K x y H Q\/lX X.K x y H Q)\/xK x y H Q))):=op_add.or (op_add_str.or ((op_catT.or vq).or Bb))
def eqS:D->D->Option Bool
 | .non,.non=>some true | .non,.int _=>some false | .int _,.non=>some false | .non,.bl _=>some false | .bl _,.non=>some false | .non,.str _=>some false | .str _,.non=>some false
 | .int i,.int j=>some (decide (i=j)) | .bl i,.bl j=>some (decide (i=j)) | .str i,.str j=>some (decide (i=j))
 | .int _,.str _=>some false | .str _,.int _=>some false | .bl _,.str _=>some false | .str _,.bl _=>some false
 | _,_=>none
theorem wk (ra:Rep K H a u L) (rb:Rep K H b v L') (e:eqS a b=some k):z5 u v=true/\k=decide (u=v):=by
 cases a <;> cases b <;> first | exact nsE e | (obtain ⟨rfl,rfl⟩:=ra.view;obtain ⟨rfl,rfl⟩:=rb.view;cases e;exact ⟨rfl,by simp⟩)
def jv:D->Bool
 | .non=>true
 | _=>false
def isN:D->D->Option (D × Fl)
 | a,.non=>some (.bl (jv a),.z)
 | _,_=>none
def yr:D->D->Option (D × Fl)
 | a,.non=>some (.bl (!jv a),.z)
 | _,_=>none
theorem Rep.non_iff (ra:Rep K H a u L):jv a=decide (u=.non):=by cases ra <;> simp [jv]
theorem Be:OpD K (fun x y H Q=>y=.non/\Q (.bl (decide (x=.non))) H) isN:=fun a b H Q p ra rb e q=>by
 obtain ⟨db,c,d,f⟩:=b
 obtain ⟨rb,ob⟩:=rb
 dsimp only at rb
 cases db <;> try (exact nsE e)
 obtain ⟨rfl,rfl⟩:=rb.view
 unfold isN at e
 cases e
 refine ⟨rfl,?_⟩
 rw [<- ra.rep.non_iff]
 exact q ⟨_,_,[],.z⟩ H (dH (.bl _)) rfl rfl
def dU:D->Option (D × Fl)
 | .int i=>some (.int (-i),.z)
 | _=>none
theorem zA:UnD K (rU fun i=>.int (-i)) dU:=fun a H Q p ra e q=>by
 obtain ⟨da,f,d,b⟩:=a
 obtain ⟨ra,c⟩:=ra
 dsimp only at ra
 cases da <;> try (exact nsE e)
 obtain ⟨rfl,rfl⟩:=ra.view
 cases e
 exact ⟨_,rfl,q ⟨_,_,[],.z⟩ H (dH (.int _)) rfl rfl⟩
theorem Reps.at:∀ {ds:List D} {b:List V} {L:List Addr} {i:Nat} {d:D},Reps (Rep K H) ds b L->ds[i]?=some d->∃ v L',b[i]?=some v/\Rep K H d v L'/\∀ c ∈ L',c ∈ L
 | _,_,_,_,_,.nil,h=>by simp at h
 | _,_,_,0,_,.cons r _,h=>by simp at h;subst h;exact ⟨_,_,rfl,r,fun c a=>Ca _ a⟩
 | _,_,_,i+1,_,.cons _ t,h=>by
  obtain ⟨v,L',h1,h2,h3⟩:=Reps.at (i:=i) t (by simpa using h)
  exact ⟨v,L',by simpa using h1,h2,fun c a=>Cc _ (h3 c a)⟩
theorem Reps.atI {i:Int} (r:Reps (Rep K H) ds vs L) (h:atI ds i=some d):∃ v L',atI vs i=some v/\Rep K H d v L'/\∀ c ∈ L',c ∈ L:=by
 unfold L2.atI at h ⊢
 rw [<- r.len]
 cases e:ixN ds.length i with
 | none=>rw [e] at h;exact nsE h
 | some j=>rw [e] at h;exact r.at h
def ixD:D->D->Option (D × Fl)
 | .lst xs,.int i=>(atI xs i).map fun d=>(d,.z)
 | .fls xs,.int i=>(atI xs i).map fun d=>(d,.z)
 | .tup xs,.int i=>(atI xs i).map fun d=>(d,.z)
 | _,_=>none
theorem od_ix:OpD K (fun x y H Q=>uY K x y H Q\/uX K x y H Q) ixD:=fun a b H Q p ra rb e q=>by
 obtain ⟨da,t,l,m⟩:=a
 obtain ⟨db,r,n,o⟩:=b
 obtain ⟨rb,ob⟩:=rb
 have g:=ra
 obtain ⟨ra,s⟩:=ra
 dsimp only at ra rb
 cases da <;> try (exact nsE e)
 all_goals (cases db <;> try (exact nsE e))
 all_goals (rename_i xs i;obtain ⟨rfl,rfl⟩:=rb.view)
 ·obtain ⟨f,h,rfl,k,rs⟩:=ra.view
  obtain ⟨d,h1,h2⟩:=B9.mp (show (atI xs i).map (fun d=>(d,Fl.z))=some p from e)
  subst h2
  obtain ⟨v,L',g1,g2,g3⟩:=rs.atI h1
  refine .inr ⟨f,h,i,v,rfl,rfl,SqT.of k,g1,q ⟨d,v,L',.z⟩ H (nH g2 fun c j=>?_) rfl rfl⟩
  exact iz (y:=⟨.tup xs,.ref f,l,m⟩) B6 g rfl c (g3 c j)
 ·obtain ⟨f,h,l,rfl,rfl,k,rs⟩:=ra.view
  obtain ⟨d,h1,h2⟩:=B9.mp (show (atI xs i).map (fun d=>(d,Fl.z))=some p from e)
  subst h2
  obtain ⟨v,L',g1,g2,g3⟩:=rs.atI h1
  refine .inl ⟨f,h,i,v,rfl,rfl,SqL.of k,g1,q ⟨d,v,L',.z⟩ H (nH g2 fun c j=>?_) rfl rfl⟩
  exact mh (y:=⟨.lst xs,.ref f,f :: l,m⟩) B6 g rfl rfl c (g3 c j)
 ·obtain ⟨f,h,rfl,k,rs⟩:=ra.view
  obtain ⟨d,h1,h2⟩:=B9.mp (show (atI xs i).map (fun d=>(d,Fl.z))=some p from e)
  subst h2
  obtain ⟨v,L',g1,g2,g3⟩:=rs.atI h1
  refine .inl ⟨f,h,i,v,rfl,rfl,k.sq,g1,q ⟨d,v,L',.z⟩ H (nH g2 fun c j=>?_) rfl rfl⟩
  exact iz (y:=⟨.fls xs,.ref f,l,m⟩) B6 g rfl c (g3 c j)
theorem ix_ok:IxR X (fun x y H Q=>uY X.K x y H Q\/uX X.K x y H Q):=ix_list.or Bw
end
end L3
end
section
namespace L3
open PySem L2
def orC (f g:List D->Option (D × Fl)) (a:List D):Option (D × Fl):=match f a with
 | some p=>some p
 | none=>g a
section
variable {K:FG} {H:Hp} {Ks:Addr->Prop} {d:D} {v:V} {L:List Addr} {X:Cx}
def c1 (f:D->Option (D × Fl)):List D->Option (D × Fl)
 | [d]=>f d
 | _=>none
def c2 (f:D->D->Option (D × Fl)):List D->Option (D × Fl)
 | [d,d']=>f d d'
 | _=>none
theorem eU {ys:List It3} (e:c1 f (ys.map (·.d))=some p):∃ y,ys=[y]/\f y.d=some p:=by
 match ys,e with
 | [],e=>exact nsE e
 | [y],e=>exact ⟨y,rfl,e⟩
 | _ :: _ :: _,e=>exact nsE e
theorem qB {ys:List It3} (e:c2 f (ys.map (·.d))=some p):∃ y z,ys=[y,z]/\f y.d z.d=some p:=by
 match ys,e with
 | [],e=>exact nsE e
 | [_],e=>exact nsE e
 | [y,z],e=>exact ⟨y,z,rfl,e⟩
 | _ :: _ :: _ :: _,e=>exact nsE e
def kc:D->Option (D × Fl)
 | .lst xs=>some (.int xs.length,.z)
 | .fls xs=>some (.int xs.length,.z)
 | .tup xs=>some (.int xs.length,.z)
 | _=>none
abbrev bM:=c1 kc
theorem BP:dS K (fun xs H Q=>∃ p ys,xs=[.ref p]/\(SqL K H p ys\/SqT K H p ys)/\Q (.int ys.length) H) bM:=fun ys H Q p ra e q=>by
 obtain ⟨y,rfl,f⟩:=eU e
 clear e
 have e:=f
 clear f
 have d:=(ra y B6).rep
 obtain ⟨da,i,g,h⟩:=y
 dsimp only at d e
 cases da <;> try (exact nsE e)
 ·rename_i xs
  obtain ⟨b,a,rfl,c,rs⟩:=d.view
  cases e
  exact ⟨b,a,rfl,.inr (SqT.of c),by rw [<- rs.len];exact q ⟨_,_,[],.z⟩ H (dH (.int _)) rfl rfl⟩
 ·rename_i xs
  obtain ⟨b,a,g,rfl,rfl,c,rs⟩:=d.view
  cases e
  exact ⟨b,a,rfl,.inl (SqL.of c),by rw [<- rs.len];exact q ⟨_,_,[],.z⟩ H (dH (.int _)) rfl rfl⟩
 ·rename_i xs
  obtain ⟨b,a,rfl,c,rs⟩:=d.view
  cases e
  exact ⟨b,a,rfl,.inl c.sq,by rw [<- rs.len];exact q ⟨_,_,[],.z⟩ H (dH (.int _)) rfl rfl⟩
def t9:D->Option (D × Fl)
 | .lst xs=>some (.tup xs,.z)
 | .tup xs=>some (.tup xs,.z)
 | _=>none
abbrev jA:=c1 t9
theorem BM:dS K (fun xs H Q=>∃ p ys,xs=[.ref p]/\((SqL K H p ys/\∀ l,H l=none->Q (.ref l) (upd H l (.tup ys)))\/(SqT K H p ys/\Q (.ref p) H))) jA:=fun ys H Q p ra e q=>by
 obtain ⟨y,rfl,i⟩:=eU e
 clear e
 have e:=i
 clear i
 have f:=ra y B6
 have g:=f.rep
 obtain ⟨da,k,b,h⟩:=y
 dsimp only at g e
 cases da <;> try (exact nsE e)
 ·rename_i xs
  obtain ⟨a,d,rfl,c,rs⟩:=g.view
  cases e
  exact ⟨a,d,rfl,.inr ⟨SqT.of c,q ⟨.tup xs,.ref a,b,.z⟩ H (nH (.tup c rs) (iz (y:=⟨.tup xs,.ref a,b,h⟩) B6 f rfl)) rfl rfl⟩⟩
 ·rename_i xs
  obtain ⟨a,d,b,rfl,rfl,c,rs⟩:=g.view
  cases e
  exact ⟨a,d,rfl,.inl ⟨SqL.of c,fun l j=>q ⟨.tup xs,.ref l,b,.z⟩ _ (pU j rs (mh (y:=⟨.lst xs,.ref a,a :: b,h⟩) B6 f rfl rfl)) rfl rfl⟩⟩
def vJ:D->Option (D × Fl)
 | .lst xs=>some (.lst xs,.u)
 | .tup xs=>some (.lst xs,.u)
 | _=>none
abbrev qe:=c1 vJ
theorem BO:dS K (fun xs H Q=>∃ p ys,xs=[.ref p]/\(SqL K H p ys\/SqT K H p ys)/\∀ l,H l=none->Q (.ref l) (upd H l (.lst ys))) qe:=fun ys H Q p ra e q=>by
 obtain ⟨y,rfl,j⟩:=eU e
 clear e
 have e:=j
 clear j
 have d:=ra y B6
 have f:=d.rep
 obtain ⟨da,k,b,i⟩:=y
 dsimp only at f e
 cases da <;> try (exact nsE e)
 ·rename_i xs
  obtain ⟨a,c,rfl,h,rs⟩:=f.view
  cases e
  exact ⟨a,c,rfl,.inr (SqT.of h),fun l g=>q ⟨.lst xs,.ref l,l :: b,.u⟩ _ (pV g rs (iz (y:=⟨.tup xs,.ref a,b,i⟩) B6 d rfl)) rfl rfl⟩
 ·rename_i xs
  obtain ⟨a,c,b,rfl,rfl,h,rs⟩:=f.view
  cases e
  exact ⟨a,c,rfl,.inl (SqL.of h),fun l g=>q ⟨.lst xs,.ref l,l :: b,.u⟩ _ (pV g rs (mh (y:=⟨.lst xs,.ref a,a :: b,i⟩) B6 d rfl rfl)) rfl rfl⟩
def wI:D->Option (D × Fl)
 | .int i=>some (.int (if i < 0 then -i else i),.z)
 | _=>none
abbrev absD:=c1 wI
theorem Rep.int_inv {i:Int} (r:Rep K H (.int i) v L):v=.int i:=by cases r;rfl
theorem BR:dS K (fun xs H Q=>∃ i,xs=[.int i]/\Q (.int (if i < 0 then -i else i)) H) absD:=fun ys H Q p ra e q=>by
 obtain ⟨y,rfl,b⟩:=eU e
 clear e
 have e:=b
 clear b
 have a:=(ra y B6).rep
 obtain ⟨da,d,f,c⟩:=y
 dsimp only at a e
 cases a <;> try (exact nsE e)
 cases e
 exact ⟨_,rfl,q ⟨_,_,[],.z⟩ H (dH (.int _)) rfl rfl⟩
def iB (C:Int->Int->Bool) (g:Int->Int->D):D->D->Option (D × Fl)
 | .int i,.int j=>if C i j then some (g i j,.z) else none
 | _,_=>none
theorem ja (e:iB C g a b=some p):∃ i j,a=.int i/\b=.int j/\C i j=true/\p=(g i j,.z):=by
 cases a <;> cases b <;> try (exact nsE e)
 rename_i i j
 have e:(if C i j then some (g i j,Fl.z) else none)=some p:=e
 split at e
 ·rename_i h;cases e;exact ⟨i,j,rfl,rfl,h,rfl⟩
 ·exact nsE e
abbrev zj:=c2 (iB mQ fun i j=>.int (if j > i then j else i))
abbrev zh:=c2 (iB mQ fun i j=>.int (if j < i then j else i))
abbrev wn:=c2 (iB (fun _ j=>decide (0 < j/\j < 1073741824)) fun i j=>.tup [.int (i / j),.int (i % j)])
theorem yP:dS K (fun xs H Q=>∃ i j,xs=[.int i,.int j]/\Q (.int (if j > i then j else i)) H) zj:=fun ys H Q p ra e q=>by
 obtain ⟨y,z,rfl,c⟩:=qB e
 clear e
 have e:=c
 clear c
 obtain ⟨i,j,d,f,_,rfl⟩:=ja e
 have a:=(ra y B6).rep
 have b:=(ra z (B7 _ B6)).rep
 rw [d] at a
 rw [f] at b
 refine ⟨i,j,?_,q ⟨_,_,[],.z⟩ H (dH (.int _)) rfl rfl⟩
 show [y.v,z.v]=_
 rw [a.int_inv,b.int_inv]
theorem yO:dS K (fun xs H Q=>∃ i j,xs=[.int i,.int j]/\Q (.int (if j < i then j else i)) H) zh:=fun ys H Q p ra e q=>by
 obtain ⟨y,z,rfl,c⟩:=qB e
 clear e
 have e:=c
 clear c
 obtain ⟨i,j,d,f,_,rfl⟩:=ja e
 have a:=(ra y B6).rep
 have b:=(ra z (B7 _ B6)).rep
 rw [d] at a
 rw [f] at b
 refine ⟨i,j,?_,q ⟨_,_,[],.z⟩ H (dH (.int _)) rfl rfl⟩
 show [y.v,z.v]=_
 rw [a.int_inv,b.int_inv]
theorem tD:dS K (fun xs H Q=>∃ i j,xs=[.int i,.int j]/\t4 i j/\∀ p,H p=none->Q (.ref p) (upd H p (.tup [.int (i / j),.int (i % j)]))) wn:=fun ys H Q p ra e q=>by
 obtain ⟨y,z,rfl,f⟩:=qB e
 clear e
 have e:=f
 clear f
 obtain ⟨i,j,h,g,a,rfl⟩:=ja e
 have b:=(ra y B6).rep
 have d:=(ra z (B7 _ B6)).rep
 rw [h] at b
 rw [g] at d
 refine ⟨i,j,?_,by simpa [t4] using a,fun p k=>q ⟨_,.ref p,[],.z⟩ _ (pU k (L:=[]) (.cons (L:=[]) (.int _) (.cons (L:=[]) (.int _) .nil)) fun c a=>by cases a) rfl rfl⟩
 show [y.v,z.v]=_
 rw [b.int_inv,d.int_inv]
def gl:List D->Option (List Bool)
 | []=>some []
 | .bl b :: ds=>(gl ds).map (b :: ·)
 | _=>none
theorem oU:∀ {ds:List D} {bs:List Bool},gl ds=some bs->ds=bs.map D.bl
 | [],bs,e=>by cases e;rfl
 | d :: ds,bs,e=>by
  cases d <;> try (exact nsE e)
  rename_i b
  obtain ⟨r,h1,h2⟩:=B9.mp (show (gl ds).map (b :: ·)=some bs from e)
  subst h2
  rw [oU h1];rfl
theorem Reps.bls:∀ {bs:List Bool} {a:List V} {L:List Addr},Reps (Rep K H) (bs.map D.bl) a L->a=bs.map V.bl
 | [],_,_,.nil=>rfl
 | b :: bs,_,_,.cons r rs=>by
  rw [Reps.bls rs]
  cases r;rfl
def BZ:D->Option (D × Fl)
 | .lst xs=>(gl xs).map fun bs=>(.bl (bs.all id),.z)
 | _=>none
abbrev oZ:=c1 BZ
theorem BQ:dS K (fun xs H Q=>∃ (a:Addr) (bs:List Bool),xs=[.ref a]/\SqL K H a (bs.map V.bl)/\Q (.bl (bs.all id)) H) oZ:=fun ys H Q p ra e q=>by
 obtain ⟨y,rfl,c⟩:=eU e
 clear e
 have e:=c
 clear c
 have b:=(ra y B6).rep
 obtain ⟨da,j,f,i⟩:=y
 dsimp only at b e
 cases da <;> try (exact nsE e)
 rename_i xs
 obtain ⟨d,h,f,rfl,rfl,g,rs⟩:=b.view
 obtain ⟨bs,h1,h2⟩:=B9.mp (show (gl xs).map (fun bs=>(D.bl (bs.all id),Fl.z))=some p from e)
 subst h2
 have:=oU h1
 subst this
 have:=rs.bls
 subst this
 exact ⟨d,bs,rfl,SqL.of g,q ⟨_,_,[],.z⟩ H (dH (.bl _)) rfl rfl⟩
def cT (xs:List D) (lo hi:Option Int):List D:=(xs.drop (HT.sIx xs.length 0 lo)).take (HT.sIx xs.length xs.length hi - HT.sIx xs.length 0 lo)
end
end L3
end
section
namespace L3
open PySem L2
def qM:D->Option (List D)
 | .lst xs=>some xs
 | .fls xs=>some xs
 | .tup xs=>some xs
 | _=>none
def cx (m:EM):IM:=ac m fun r=>ac (der r) fun d=>aR ((qM d).map fun ds=>([r],ds))
def iSeq (K:FG) (tl:TE):TI:=fun σ H R=>tl σ H fun x H1=>(∃ a,x=.ref a/\(∃ xs,SqL K H1 a xs)/\R (Itl K a) H1)\/∃ a,x=.ref a/\(∃ xs,SqT K H1 a xs)/\R (Itt K a) H1
theorem AK (j:PE X l tl):PI X tg l (iSeq X.K tl):=by
 intro pins s σ H R I h
 exact thn (j pins s σ H _ I h) fun v s1 ⟨x,H1,c,g,k⟩=>by
   rcases k with ⟨a,e,⟨xs,d⟩,q⟩ | ⟨a,e,⟨xs,d⟩,q⟩
   ·subst e
    cases g
    obtain ⟨its,i,p,hz⟩:=c.list d
    refine wpAny_pyIter_list p.isList ?_
    refine ⟨s1.heap.objs.size,[s1.heap.objs.size],_,_,H1,rfl,c.kept (t':=s1.toks) fun b o e=>B8 _ e,rY a _,⟨_,Ch _ rfl,rfl,rfl⟩,fun b f=>?_,q⟩
    have e:b=s1.heap.objs.size:=by simpa using f
    subst e
    exact c.fpOk (Co _) (c.hok.fresh (Co _))
   ·subst e
    cases g
    obtain ⟨its,i,p,hz⟩:=c.tuple d
    refine wpAny_pyIter_tuple (show s1.heap.IsTuple a its.toArray from p) ?_
    refine ⟨s1.heap.objs.size,[s1.heap.objs.size],_,_,H1,rfl,c.kept (t':=s1.toks) fun b o e=>B8 _ e,o4 a _,⟨_,Ch _ rfl,rfl,rfl⟩,fun b f=>?_,q⟩
    have e:b=s1.heap.objs.size:=by simpa using f
    subst e
    exact c.fpOk (Co _) (c.hok.fresh (Co _))
section
variable {K:FG} {G G0:Gm} {W W0:D->Sto->Prop} {H H':Hp} {σ:St} {ρ ρ':Sto} {T T':List It3} {g:Nat->Option It3} {x y z:It3} {α β:Type} {X:Cx}
theorem Ar.item2 (w:Wf K G H σ ρ (Ts ++ T) g) (a:Ar σ r v Ts) (e:der r ρ=some (.ok d,ρ)):∃ y,y.d=d/\y.v=v/\((∃ i,i ∈ pls [r]/\g i=some y)\/y ∈ Ts):=by
 cases a with
 | @pl i v h =>
  have k:der (.pl i) ρ=((ρ[i]?).join).map fun p=>(.ok p.1,ρ):=rfl
  rw [k] at e
  cases q:(ρ[i]?).join with
  | none=>rw [q] at e;exact nsE e
  | some p =>
   rw [q] at e
   obtain ⟨y,e1,j,l,b⟩:=w.slot (d:=p.1) (f:=p.2) q
   have c:p.1=d:=by cases e;rfl
   rw [h] at b
   injection b with b
   injection b with b
   exact ⟨y,j.trans c,b.symm,.inl ⟨i,B6,e1⟩⟩
 | val x=>cases e;exact ⟨x,rfl,rfl,.inr (by simp)⟩
theorem lJ (m:Reps (Rep K H1) ds vs k) (q:∀ c ∈ k,cC [y] c) (t:∀ c ∈ k,c ∈ y.L) (j:∀ (M:Addr->Prop) (H':Hp),(∀ b,M b->MutAt H1 b)->(∀ b o,H1 b=some o->¬ M b->H' b=some o)->(∀ b ∈ y.L,¬ M b)->(∀ (i:Nat) (v:V),vs[i]?=some v->J.go i H'/\∀ x e,J.yld i H' x e->e=H'/\x=v)/\J.stop vs.length H'):Walk K J H1 [y] ds:=by
 obtain ⟨ws,h1,h2,h3⟩:=Reps.split m
 refine ⟨ws,fun x g=>⟨(h3 x g).1,(h3 x g).2.1,fun c h=>q c ((h3 x g).2.2 c h)⟩,fun M H' hm f l=>?_⟩
 obtain ⟨go,stop⟩:=j M H' hm f (l y B6)
 refine ⟨fun i d hd=>?_,by rw [m.len];exact stop⟩
 have hi:∃ u,ws[i]?=some u/\u.d=d:=by
  rw [<- h1,Cn] at hd
  obtain ⟨u,a,b⟩:=B9.mp hd
  exact ⟨u,a,b⟩
 obtain ⟨u,n,r⟩:=hi
 have s:vs[i]?=some u.v:=by rw [<- h2,Cn,n];rfl
 obtain ⟨g1,g2⟩:=go i u.v s
 refine ⟨g1,fun x e p=>?_⟩
 obtain ⟨e1,w⟩:=g2 x e p
 subst e1 w
 have hu:=Ck n
 refine ⟨u,⟨Same.refl _,(h3 u hu).2.1.keep f hm fun b z=>l y B6 b (t b ((h3 u hu).2.2 b z)),fun c h=>.inr ⟨u,hu,h⟩,fun hf=>absurd (h3 u hu).1 hf⟩,r,(h3 u hu).1,rfl⟩
theorem kQ {y:It3} {a:Addr} {ds:List D} {c:List V} (k:∀ H',SqL K H' a c->True) (j:∀ (M:Addr->Prop) (H':Hp),(∀ b,M b->MutAt H b)->(∀ b o,H b=some o->¬ M b->H' b=some o)->(∀ b ∈ y.L,¬ M b)->SqL K H' a c) :
  ∀ (M:Addr->Prop) (H':Hp),(∀ b,M b->MutAt H b)->(∀ b o,H b=some o->¬ M b->H' b=some o)->(∀ b ∈ y.L,¬ M b)->(∀ (i:Nat) (v:V),c[i]?=some v->(Itl K a).go i H'/\∀ x d,(Itl K a).yld i H' x d->d=H'/\x=v)/\(Itl K a).stop c.length H':=fun M H' hm g f=>by
 have sq:SqL K H' a c:=j M H' hm g f
 refine ⟨fun i v e=>⟨⟨c,v,sq,e⟩,fun x d ⟨e1,h⟩=>⟨e1,?_⟩⟩,⟨c,sq,Co _⟩⟩
 have:=h c sq
 rw [e] at this
 injection this with this
 exact this.symm
theorem zN (h:tI K G0 W0 (cx m) σ H R):iSeq K (tE K G0 W0 m) σ H R:=by
 obtain ⟨G,W,le,ρ,T,g,o,ρ',w,e,q⟩:=h
 have r:∀ x,o=.error x->W x ρ':=fun x O=>by subst O;exact q
 refine tE.seq le w e r fun ra ρ1 e1 v H1 ⟨Ts,g1,B,a1⟩=>?_
 obtain ⟨d,d1,u⟩:=aL e1
 obtain ⟨p,L,rfl,rfl⟩:=bC u
 obtain ⟨ds,l,U⟩:=B9.mp L
 subst U
 obtain ⟨y,S,N,E⟩:=a1.item2 B d1
 have P:Itm (Ts ++ T) g1 y:=by
  rcases E with ⟨i,_,Q⟩ | h
  ·exact .inl ⟨i,Q⟩
  ·exact .inr (Ca _ h)
 have F:=(B.itm P).arg
 have A:∀ J,Walk K J H1 [y] ds->R J H1:=fun J hw=>q J H1 [v] Ts g1 [y] B (by simpa using Ars.cons a1 .nil) (fun z hz=>by rw [CG.mp hz];exact E) hw
 clear e1 u L q
 subst S N
 have f:=F
 obtain ⟨da,X,s,D⟩:=y
 obtain ⟨t,Y⟩:=F
 dsimp only at t l
 cases da with
 | tup xs =>
  obtain ⟨a,j,rfl,b,rs⟩:=t.view
  cases l
  refine .inr ⟨a,rfl,⟨_,SqT.of b⟩,A _ (lJ rs (iz (y:=⟨.tup ds,.ref a,s,D⟩) B6 f rfl) (fun c n=>n) fun M H' hm k C=>?_)⟩
  have sq:SqT K H' a j:=SqT.of (k a _ b fun z=>(hm a z).notup b)
  refine ⟨fun i v I=>⟨⟨j,v,sq,I⟩,fun x V ⟨e1,u⟩=>⟨e1,?_⟩⟩,⟨j,sq,Co _⟩⟩
  have:=u j sq
  rw [I] at this
  injection this with this
  exact this.symm
 | lst xs =>
  obtain ⟨a,j,s,rfl,rfl,b,rs⟩:=t.view
  cases l
  refine .inl ⟨a,rfl,⟨_,SqL.of b⟩,A _ (lJ rs (mh (y:=⟨.lst ds,.ref a,a :: s,D⟩) B6 f rfl rfl) (fun c n=>B7 _ n) (kQ (ds:=ds) (fun _ _=>trivial) fun M H' hm k C=>SqL.of (k a _ b (C a B6))))⟩
 | fls xs =>
  obtain ⟨a,j,rfl,b,rs⟩:=t.view
  cases l
  refine .inl ⟨a,rfl,⟨_,b.sq⟩,A _ (lJ rs (iz (y:=⟨.fls ds,.ref a,s,D⟩) B6 f rfl) (fun c n=>n) (kQ (ds:=ds) (fun _ _=>trivial) fun M H' hm k C=>(b.keep k hm).sq))⟩
 | _=>exact nsE l
theorem Ak (h:RE X G0 W0 l m):RI X G0 W0 tg l (cx m):=⟨PI.imp (AK h.h) fun _ _ _ h=>zN h⟩
def aH (lo:Int) (n:Nat):List D:=(List.range n).map fun (k:Nat)=>D.int (lo+(k:Int))
theorem mR {lo:Int} {n:Nat}:Walk K (Itr lo n) H1 ys (aH lo n):=by
 refine ⟨[],fun x f=>(by cases f),fun M H' _ _ _=>⟨fun i d hd=>?_,?_⟩⟩
 ·unfold aH at hd
  rw [Cn] at hd
  obtain ⟨k,a,b⟩:=B9.mp hd
  obtain ⟨c,e⟩:=Cj.mp a
  rw [List.getElem_range] at e
  subst e
  rw [List.length_range] at c
  refine ⟨c,fun x h ⟨e1,g⟩=>?_⟩
  subst e1
  exact ⟨⟨d,x,[],.z⟩,dH (by rw [<- b,g];exact .int _),rfl,rfl,rfl⟩
 ·show n<=(aH lo n).length
  unfold aH
  simp
def fh (j:Int):Bool:=decide (-(2 ^ 62)<=j/\j < 2 ^ 62)
def cz:List D->Option (List D)
 | [.int j]=>if fh j then some (aH 0 j.toNat) else none
 | _=>none
def iS:List D->Option (List D)
 | [.int i,.int j]=>if fh i && fh j then some (aH i (j - i).toNat) else none
 | _=>none
def bx (f:List D->Option (List D)) (ms:M3 (List R3)):IM:=ac ms fun rs=>ac (cv rs) fun ds=>aR ((f ds).map fun xs=>([],xs))
theorem wX (h:tI K G0 W0 (bx cz ms) σ H R):zo (tA K G0 W0 ms) σ H R:=by
 obtain ⟨G,W,le,ρ,T,g,o,ρ',w,e,q⟩:=h
 have b:∀ x,o=.error x->W x ρ':=fun x f=>by subst f;exact q
 refine tA.seq le w e b fun rs ρ1 e1 t H1 Ts g1 i a1=>?_
 obtain ⟨ds,d1,n⟩:=bJ e1
 obtain ⟨p,s,rfl,rfl⟩:=bC n
 obtain ⟨xs,a,m⟩:=B9.mp s
 subst m
 obtain ⟨ys,k,f1,f2⟩:=a1.items i (fun x f=>Ca _ f) d1
 subst f1 f2
 match ys,a,k,a1 with
 | [],a,_,_=>exact nsE a
 | y :: z :: r,a,_,_=>cases hd:y.d <;> (rw [Cs,Cs,hd] at a;exact nsE a)
 | [y],a,k,a1 =>
  have l:=(i.itm (k y B6)).rep
  cases hd:y.d <;> (rw [Cs,hd] at a;try (exact nsE a))
  rename_i j
  rw [hd] at l
  have a:(if fh j then some (aH 0 j.toNat) else none)=some xs:=a
  split at a
  ·rename_i c
   cases a
   have c:=of_decide_eq_true c
   refine ⟨j,by show [y.v]=_;rw [l.int_inv],c.1,c.2,?_⟩
   exact q _ H1 [] [] g1 [] (i.sub (Cl Ts T)) .nil (fun _ h=>by cases h) mR
  ·exact nsE a
theorem wW (h:tI K G0 W0 (bx iS ms) σ H R):zn (tA K G0 W0 ms) σ H R:=by
 obtain ⟨G,W,le,ρ,T,g,o,ρ',w,e,q⟩:=h
 have b:∀ x,o=.error x->W x ρ':=fun x l=>by subst l;exact q
 refine tA.seq le w e b fun rs ρ1 e1 E H1 Ts g1 c a1=>?_
 obtain ⟨ds,d1,A⟩:=bJ e1
 obtain ⟨p,C,rfl,rfl⟩:=bC A
 obtain ⟨xs,B,t⟩:=B9.mp C
 subst t
 obtain ⟨ys,k,f1,f2⟩:=a1.items c (fun x l=>Ca _ l) d1
 subst f1 f2
 have inv:∀ {ds:List D},iS ds=some xs->∃ i j,ds=[.int i,.int j]/\fh i=true/\fh j=true/\xs=aH i (j - i).toNat:=fun {ds} h=>by
  unfold iS at h
  split at h
  ·rename_i i j
   split at h
   ·rename_i m
    cases h
    simp only [Bool.and_eq_true] at m
    exact ⟨i,j,rfl,m.1,m.2,rfl⟩
   ·exact nsE h
  ·exact nsE h
 obtain ⟨i,j,a,hi,f,rfl⟩:=inv B
 match ys,a,k,a1 with
 | [],a,_,_=>cases a
 | [y],a,_,_=>exact absurd (congrArg List.length a) (by simp)
 | y :: z :: u :: r,a,_,_=>exact absurd (congrArg List.length a) (by simp)
 | [y,z],a,k,a1 =>
  have n:=(c.itm (k y B6)).rep
  have s:=(c.itm (k z (B7 _ B6))).rep
  have h1:y.d=.int i:=by injection a
  have h2:z.d=.int j:=by injection a with _ h;injection h
  rw [h1] at n
  rw [h2] at s
  have hi:=of_decide_eq_true hi
  have f:=of_decide_eq_true f
  refine ⟨i,j,by show [y.v,z.v]=_;rw [n.int_inv,s.int_inv],⟨hi.1,hi.2,f.1,f.2⟩,?_⟩
  exact q _ H1 [] [] g1 [] (c.sub (Cl Ts T)) .nil (fun _ h=>by cases h) mR
theorem xD (b:Gl X "range") (hm:X.mg "range"=none) (c:RA X G0 W0 [a] ms) (d:starEach [a] X.env=[(false,eval a X.env)]):RI X G0 W0 tg (.Call (.Name "range" p) [a] [] pos) (bx cz ms):=⟨PI.imp (sF b hm c.h d) fun _ _ _ h=>wX h⟩
theorem xC (d:Gl X "range") (hm:X.mg "range"=none) (e:RA X G0 W0 [a,b] ms) (f:starEach [a,b] X.env=[(false,eval a X.env),(false,eval b X.env)]) (c:starEach [b] X.env=[(false,eval b X.env)]):RI X G0 W0 tg (.Call (.Name "range" p) [a,b] [] pos) (bx iS ms):=⟨PI.imp (sE d hm e.h f c) fun _ _ _ h=>wW h⟩
end
end L3
end
section
namespace L3
open PySem L2
section
variable {K:FG} {G G0:Gm} {W W0:D->Sto->Prop} {H H':Hp} {σ:St} {ρ ρ':Sto} {T T':List It3} {g:Nat->Option It3} {x y z:It3} {α β:Type} {X:Cx} {L:List Addr}
def io (bnd:D->Sto->Option Sto) (m:EM):SM:=ac m fun r=>ac (cw r) fun p=>fun ρ=>(bnd p.1 ρ).map fun ρ1=>(.ok .nx,ρ1)
theorem zL (i:Bnd K G0.pr tg bnd) (h:tS K G0 W0 (io bnd m) E σ H):sd (tE K G0 W0 m) tg E σ H:=by
 refine h.use fun G W le ρ T g r ρ' w e q=>?_
 refine tE.seq le w e q.err fun ra ρ1 e1 v H1 ⟨Ts,g1,a,a1⟩=>?_
 obtain ⟨p,ρ2,g2,x,j,f,f1,_,_,c⟩:=a1.take a e1
 have n:=Wf.lowT (Ts:=[x]) f
 obtain ⟨ρ3,l,k⟩:=B9.mp j
 cases k
 rw [<- c]
 exact i G H1 σ ρ2 _ T g2 (b7 x) _ le.pr rfl n (by show bnd x.d ρ2=_;rw [f1];exact l) fun σ2 g3 b=>q _ _ _ b
theorem Ai (d:RG X G0.pr tg bnd) (he:RE X G0 W0 e m) (c:swapsWithSole [tg] e pos.line X.env=pure false) (hw:swappedStores [tg] e X.env=pure none) (h1:(assignEach [tg] X.env).map (·.2)=[assign tg X.env]):RS X G0 W0 (.Assign [tg] e pos) (io bnd m):=by
 obtain ⟨g,a,b⟩:=d.h
 exact ⟨PS.imp (pK he.h a c hw h1) fun _ _ _ h=>zL b h⟩
theorem pC {i:Nat} {y:Str} (g:X.N.Nodup) (j:X.N[i]?=some y) (e:Loc X.env.scope y) (NY:List Str) (ix:List (Option Nat)) (l:X.calm=true) (hi:RI X G0 W0 tg iter im) (f:∀ s H C fp,PTs (aJ X NY scope s H C fp) ifs (tT X.K (a9 ix) noX cm)) (he:∀ s H C fp,RE (aJ X NY scope s H C fp) (a9 ix) noX elt em) (k:fS scope X.N X.env.scope NY ix=true) (b:Inj ix) (c:swapsWith (.ListComp elt [⟨tg,iter,ifs,0⟩] scope pos) (some (.Name y py)) spos.line X.env=pure true) (hf:X.fn y=true\/X.env.scope.names.lookup y=some .local) (n:∀ x,foldedSetIterable iter X.env x=pure x) (m:G0.pr i=false) (d:∃ a,Bnd X.K (a9 ix).pr a bnd/\∀ s H C fp,PG (aJ X NY scope s H C fp) tg a):RS X G0 W0 (.Assign [.Name y py] (.ListComp elt [⟨tg,iter,ifs,0⟩] scope pos) spos) (aT i (bB im bnd cm em ix)):=by
 obtain ⟨a,b1,b2⟩:=d
 exact ⟨PS.imp (pJ g j e NY ix l hi.h b2 f (fun s H C fp=>(he s H C fp).h) k c hf n) fun _ _ _ h=>pd szl b b1 m h⟩
def isL:D->Bool
 | .lst _=>true
 | _=>false
theorem vO:∀ d v L H,isL d=true->Rep K H d v L->tyV K "list" v H:=fun d v L H h r=>by
 cases r with
 | lst ha _=>exact .inl ⟨rfl,_,SqL.of ha⟩
 | _=>cases h
def tV:D->List D->Option (D × D)
 | .lst xs,[d]=>if xs.length < 16777216 then some (.lst (xs ++ [d]),.non) else none
 | _,_=>none
theorem Bk:MutD K qX tV:=fun a d k as H Q p r m na ra j e q=>by
 cases d with
 | lst xs =>
  obtain ⟨_,g,_,e1,w,l,rs⟩:=r.view
  cases e1
  cases w
  match as,e,ra,j with
  | [],e,_,_=>exact nsE e
  | _ :: _ :: _,e,_,_=>exact nsE e
  | [y],e,ra,j =>
   have e:(if xs.length < 16777216 then some (D.lst (xs ++ [y.d]),D.non) else none)=some p:=e
   split at e
   ·rename_i u
    cases e
    refine ⟨a,g,y.v,rfl,rfl,l,by rw [<- rs.len,<- szl];exact u,?_⟩
    have s:=ra y B6
    have t:=j y B6
    have ma:MutAt H a:=.inl ⟨_,l⟩
    have keep:∀ {d v L},Rep K H d v L->a ∉ L->Rep K (upd H a (.lst (g ++ [y.v]))) d v L:=fun {d v L} r n=>r.keep (M:=fun b=>b=a) (fun b o f h=>by rw [au h];exact f) (fun b e=>by rw [e];exact ma) fun b f e=>n (by rw [<- e];exact f)
    have keeps:Reps (Rep K (upd H a (.lst (g ++ [y.v])))) xs g k:=rs.keep (M:=fun b=>b=a) (fun b o f h=>by rw [au h];exact f) (fun b e=>by rw [e];exact ma) fun b f e=>na (by rw [<- e];exact f)
    exact q (.lst (g ++ [y.v])) (k ++ (y.L ++ [])) ⟨.non,.non,[],.z⟩ (.lst aC (keeps.append (.cons (keep s t) .nil))) rfl (fun c i=>by
     rcases Cg.mp i with h | h
     ·exact .inl h
     ·rw [List.append_nil] at h;exact .inr ⟨y,B6,h⟩) rfl rfl .non fun c i=>by cases i
   ·exact nsE e
 | _=>exact nsE e
def wg:D->List D->Option (D × D)
 | .lst xs,[.lst ys]=>if xs.length+ys.length<=16777216 then some (.lst (xs ++ ys),.non) else none
 | _,_=>none
theorem ext2 (a:D):wg (.lst xs) (a :: b :: r)=none:=by cases a <;> rfl
theorem Bj:MutD K qU wg:=fun a d v as H Q p r m na ra k e q=>by
 cases d with
 | lst xs =>
  obtain ⟨_,j,_,e1,A,u,rs⟩:=r.view
  cases e1
  cases A
  match as,e,ra,k with
  | [],e,_,_=>exact nsE e
  | y :: _ :: _,e,_,_=>exact nsE ((ext2 y.d).symm.trans e)
  | [y],e,ra,k =>
   have s:=ra y B6
   have t:=k y B6
   obtain ⟨B,F,C,E⟩:=y
   dsimp only at s t e
   cases B with
   | lst ys =>
    obtain ⟨b,ws,x,rfl,rfl,i,g⟩:=s.view
    have e:(if xs.length+ys.length<=16777216 then some (D.lst (xs ++ ys),D.non) else none)=some p:=e
    split at e
    ·rename_i w
     cases e
     refine ⟨a,b,j,ws,rfl,rfl,u,i,by rw [<- rs.len,<- g.len,<- szl];exact w,?_⟩
     have ma:MutAt H a:=.inl ⟨_,u⟩
     have keeps:∀ {ds f L},Reps (Rep K H) ds f L->a ∉ L->Reps (Rep K (upd H a (.lst (j ++ ws)))) ds f L:=fun {ds f L} r n=>r.keep (M:=fun b=>b=a) (fun b o i h=>by rw [au h];exact i) (fun b e=>by rw [e];exact ma) fun b i e=>n (by rw [<- e];exact i)
     exact q (.lst (j ++ ws)) (v ++ x) ⟨.non,.non,[],.z⟩ (.lst aC ((keeps rs na).append (keeps g fun h=>t (B7 _ h)))) rfl (fun c l=>by
      rcases Cg.mp l with h | h
      ·exact .inl h
      ·exact .inr ⟨_,B6,B7 _ h⟩) rfl rfl .non fun c l=>by cases l
    ·exact nsE e
   | _=>exact nsE e
 | _=>exact nsE e
def kD:D->List D->Option (D × D)
 | .lst xs,[.int i,d]=>(ixN xs.length i).map fun j=>(.lst (xs.set j d),.non)
 | _,_=>none
theorem Reps.set:∀ {ds:List D} {b:List V} {L L':List Addr} {d:D} {v:V} (j:Nat),Reps (Rep K H) ds b L->Rep K H d v L'->∃ L2,Reps (Rep K H) (ds.set j d) (b.set j v) L2/\∀ c ∈ L2,c ∈ L\/c ∈ L'
 | _,_,_,_,_,_,j,.nil,_=>⟨[],.nil,fun c a=>by cases a⟩
 | _,_,_,L',_,_,0,.cons (L:=L1) (L':=L1') r rs,r'=>⟨L' ++ L1',.cons r' rs,fun c a=>by
  rcases Cg.mp a with h | h
  ·exact .inr h
  ·exact .inl (Cc _ h)⟩
 | _,_,_,L',_,_,j+1,.cons (L:=L1) (L':=L1') r rs,r'=>by
  obtain ⟨L2,h1,h2⟩:=Reps.set j rs r'
  refine ⟨L1 ++ L2,.cons r h1,fun c a=>?_⟩
  rcases Cg.mp a with h | h
  ·exact .inl (Ca _ h)
  ·rcases h2 c h with h | h
   ·exact .inl (Cc _ h)
   ·exact .inr h
theorem set1 (a:D):kD (.lst xs) [a]=none:=by cases a <;> rfl
theorem set3' (a:D):kD (.lst xs) (a :: b :: c :: r)=none:=by cases a <;> rfl
theorem yw:MutD K (fD j2) kD:=fun a d w as H Q p r m na ra l e q=>by
 cases d with
 | lst xs =>
  obtain ⟨_,g,_,e1,C,u,rs⟩:=r.view
  cases e1
  cases C
  match as,e,ra,l with
  | [],e,_,_=>exact nsE e
  | [y],e,_,_=>exact nsE ((set1 y.d).symm.trans e)
  | y :: _ :: _ :: _,e,_,_=>exact nsE ((set3' y.d).symm.trans e)
  | [k,y],e,ra,l =>
   have t:=ra k B6
   have A:=ra y (B7 _ B6)
   have B:=l y (B7 _ B6)
   obtain ⟨kd,F,E,G⟩:=k
   dsimp only at t
   cases kd with
   | int i =>
    obtain ⟨rfl,rfl⟩:=t.view
    obtain ⟨j,h1,h2⟩:=B9.mp (show (ixN xs.length i).map (fun j=>(D.lst (xs.set j y.d),D.non))=some p from e)
    subst h2
    refine ⟨.int i,y.v,rfl,a,g,i,j,rfl,rfl,u,by rw [<- rs.len];exact h1,?_⟩
    have ma:MutAt H a:=.inl ⟨_,u⟩
    have n:Rep K (upd H a (.lst (g.set j y.v))) y.d y.v y.L:=A.keep (M:=fun b=>b=a) (fun b o f h=>by rw [au h];exact f) (fun b e=>by rw [e];exact ma) fun b f e=>B (by rw [<- e];exact f)
    have keeps:Reps (Rep K (upd H a (.lst (g.set j y.v)))) xs g w:=rs.keep (M:=fun b=>b=a) (fun b o f h=>by rw [au h];exact f) (fun b e=>by rw [e];exact ma) fun b f e=>na (by rw [<- e];exact f)
    obtain ⟨L2,h3,x⟩:=keeps.set j n
    exact q (.lst (g.set j y.v)) L2 ⟨.non,.non,[],.z⟩ (.lst aC h3) rfl (fun c s=>(x c s).imp id fun h=>⟨y,B7 _ B6,h⟩) rfl rfl .non fun c s=>by cases s
   | _=>exact nsE e
 | _=>exact nsE e
theorem qS {i:Nat} {x:Str} {id:String} (l:PlainAttrs Ty) (slot:Slot Ty nm id) (j:typeOf (.builtin id)=pure (.type "method_descriptor")) (hm:MtR X id r) (m:MutD X.K r f) (hok:∀ d v L H,ok d=true->Rep X.K H d v L->tyV X.K Ty v H) (k:PE X (.Name x pn) (gh i)) (n:RA X G0 W0 (e :: es) ms) (c:attributeBase (.Name x pn) nm X.env (eval (.Name x pn) X.env)=eval (.Name x pn) X.env) (g:((backTo cpos (starEach (e :: es) X.env)).all (fun x=>!x.1) && (backToKw cpos (keywordEach [] X.env)).all (fun x=>x.1.isSome) && decide ((e :: es).length+([]:List Keyword).length+(if ([]:List Keyword).isEmpty then 0 else 1) < 30))=true) (b:(apos.endLine == cpos.line)=true) (o:starEach (e :: es) X.env=(false,eval e X.env) :: starEach es X.env) (a:(backTo cpos (starEach es X.env)).any (·.1)=false):RE X G0 W0 (.Call (.Attribute (.Name x pn) nm apos) (e :: es) [] cpos) (qd ok f i ms) :=
 ⟨PE.imp (pe_bm l slot j hm k n.h c g b o a) fun _ _ _ h=>zR m hok h⟩
theorem Af {i:Nat} {x:Str} (j:tZ X t) (l:MutD X.K (fD t) f) (c:PE X (.Name x pn) (gh i)) (d:RE X G0 W0 k mk) (b:RE X G0 W0 e mv) (g:∀ v,assign (.Subscript (.Name x pn) k p2) X.env v=(do
   let ov <- holding [v] (eval (.Name x pn) X.env)
   let a <- holding [v,ov] (eval k X.env)
   standAt p2
   holding [v,ov,a] (setItem ov a v)
   release [v,ov,a] [])) (h1:swapsWithSole [.Subscript (.Name x pn) k p2] e pos.line X.env=pure false) (h2:swappedStores [.Subscript (.Name x pn) k p2] e X.env=pure none) (h3:(assignEach [.Subscript (.Name x pn) k p2] X.env).map (·.2)=[assign (.Subscript (.Name x pn) k p2) X.env]):RS X G0 W0 (.Assign [.Subscript (.Name x pn) k p2] e pos) (kF f i mk mv) :=
 ⟨PS.imp (pK b.h (pP c d.h j g) h1 h2 h3) fun _ _ _ h=>zF l h⟩
end
end L3
end
section
namespace L3
open PySem L2
section
variable {K:FG} {G G0:Gm} {W W0:D->Sto->Prop} {H H':Hp} {σ:St} {ρ ρ':Sto} {T T':List It3} {g:Nat->Option It3} {x y z:It3} {α β:Type} {X:Cx} {L:List Addr}
theorem uO:PTs Y [] (tT K (a9 ix) noX b9):=fun pins s σ H Q I h=>xN pins s σ H Q I (zC h)
theorem uN (h:RT Y (a9 ix) noX c m):PTs Y [c] (tT Y.K (a9 ix) noX m):=xM h.h
theorem vP (h:(ix.filterMap id).Nodup):Inj ix:=by
 intro j k i a b
 induction ix generalizing j k with
 | nil=>simp at a
 | cons o ix ih =>
  cases o with
  | none =>
   have h':(ix.filterMap id).Nodup:=by simpa using h
   cases j with
   | zero=>simp at a
   | succ j =>
    cases k with
    | zero=>simp at b
    | succ k=>rw [ih h' j k (by simpa using a) (by simpa using b)]
  | some c =>
   have h':(c :: ix.filterMap id).Nodup:=by simpa using h
   obtain ⟨n,d⟩:=List.nodup_cons.mp h'
   have mem:∀ m:Nat,ix[m]?=some (some c)->False:=fun m e=>n (List.mem_filterMap.mpr ⟨some c,Ck e,rfl⟩)
   cases j with
   | zero =>
    simp at a
    cases k with
    | zero=>rfl
    | succ k=>subst a;exact (mem k (by simpa using b)).elim
   | succ j =>
    cases k with
    | zero=>simp at b;subst b;exact (mem j (by simpa using a)).elim
    | succ k=>rw [ih d j k (by simpa using a) (by simpa using b)]
def uz:SM:=fun _=>none
theorem uM:RS X G0 W0 st uz:=⟨PS.imp u7 fun _ _ _ h=>by
 refine h.use fun G W le ρ T g r ρ' w e q=>?_
 cases e⟩
theorem uj (ho:OpD K r f) (C:OpD K r' f') (h:tE K G0 W0 (cS f f' ma mb mc) σ H Q):pe r r' (tE K G0 W0 ma) (tE K G0 W0 mb) (tE K G0 W0 mc) σ H Q:=by
 refine h.use fun G W le ρ T g o ρ' w e q=>?_
 refine tE.seq le w e q.err fun ra ρ1 e1 va H1 ⟨Ts,g1,w1,a1⟩=>?_
 refine tE.seq le w1 e1 q.err fun rb ρ2 e2 vb H2 ⟨Us,g2,j,a2⟩=>?_
 obtain ⟨da,d1,e3⟩:=aL e2
 obtain ⟨db,X,e4⟩:=aL e3
 obtain ⟨k,e5,t⟩:=i5 e4
 obtain ⟨P,N,f1,f2⟩:=a1.item j (fun x i=>Cc _ (Ca _ i)) d1
 obtain ⟨J,O,f3,f4⟩:=a2.item j (fun x i=>Ca _ i) X
 obtain ⟨p,M,e8⟩:=CF.mp e5
 have hp:=wF e8
 subst f1 f2 f4
 rw [<- f3] at M
 refine ho P J H2 _ p (j.itm N).arg (j.itm O).arg M fun u H3 F Z uf=>?_
 have w3:=j.push F fun c h=>j.kids (ys:=[P,J]) (fun y b=>by
  rcases Cd.mp b with h | b
  ·rw [h];exact N
  ·rw [CG.mp b];exact O) h
 have I:=F.rep
 rw [Z,hp] at I
 refine ⟨k,I.bl_eq.1,?_⟩
 have E:=w3.sub (List.sublist_cons_self u _)
 cases k with
 | false =>
  cases t
  have d:=E.sub (T':=T) ((Cl Ts T).trans (Cl Us _))
  exact q _ _ (d.const (.bl false))
 | true =>
  simp only [if_true] at t ⊢
  refine tE.seq le E t q.err fun rc ρ5 e9 vc H5 ⟨m,L,d,a5⟩=>?_
  obtain ⟨D,d3,A⟩:=aL e9
  obtain ⟨dc,d4,z⟩:=aL A
  obtain ⟨p',a,rfl,rfl⟩:=bC z
  obtain ⟨l,V,f5,Y⟩:=a2.item d (fun x i=>Cc _ (Ca _ i)) d3
  obtain ⟨R,U,f7,f8⟩:=a5.item d (fun x i=>Ca _ i) d4
  cases n:f' D dc with
  | none=>rw [n] at a;exact nsE a
  | some s =>
   rw [n] at a
   cases a
   have S:=d
   rw [show m ++ (Us ++ (Ts ++ T))=(m ++ (Us ++ Ts)) ++ T by simp] at S
   have B:Itm ((m ++ (Us ++ Ts)) ++ T) L l:=by simpa using V
   have v:Itm ((m ++ (Us ++ Ts)) ++ T) L R:=by simpa using U
   rw [<- Y,<- f8]
   refine C l R H5 Q s (d.itm V).arg (d.itm U).arg (by rw [f5,f7];exact n) (ly S (fun y b=>?_) q)
   rcases Cd.mp b with h | b
   ·rw [h];exact B
   ·rw [CG.mp b];exact v
theorem ni (k:OpR X (compareOp op) r) (hd:OpD X.K r f) (e:OpR X (compareOp op') r') (d:OpD X.K r' f') (i:RE X G0 W0 a ma) (j:RE X G0 W0 b mb) (g:RE X G0 W0 c mc) (h:PE X a (tE X.K G0 W0 ma)->PE X b (tE X.K G0 W0 mb)->PE X c (tE X.K G0 W0 mc)->PE X (.Compare a [op,op'] [b,c] pos) (pe r r' (tE X.K G0 W0 ma) (tE X.K G0 W0 mb) (tE X.K G0 W0 mc))):RE X G0 W0 (.Compare a [op,op'] [b,c] pos) (cS f f' ma mb mc):=⟨PE.imp (h i.h j.h g.h) fun _ _ _ h=>uj hd d h⟩
theorem jZ (c:OpR X (compareOp op) r) (hd:OpD X.K r f) (d:RE X G0 W0 a ma) (e:RE X G0 W0 b mb) (hm:behindInMarks op b=false):RT X G0 W0 (.Compare a [op] [b] pos) (cB (ag f ma mb)):=⟨PT.imp (xO c d.h e.h hm) fun _ _ _ h=>lK hd (tT_b h)⟩
def fQ (n:Nat):List D->List D
 | []=>[]
 | d :: ds=>.tup [.int n,d] :: fQ (n+1) ds
theorem je:∀ {ds:List D} {n i:Nat},(fQ n ds)[i]?=(ds[i]?).map fun d=>.tup [.int ((n+i:Nat):Int),d]
 | [],n,i=>by simp [fQ]
 | d :: ds,n,0=>by simp [fQ]
 | d :: ds,n,i+1=>by
  show (fQ (n+1) ds)[i]?=_
  rw [je]
  simp only [List.getElem?_cons_succ]
  rw [show n+1+i=n+(i+1) by omega]
theorem jd:∀ {ds:List D} {n:Nat},(fQ n ds).length=ds.length
 | [],_=>rfl
 | d :: ds,n=>by simp [fQ,jd]
def kg (ms:M3 (List R3)):IM:=ac ms fun rs=>ac (cv rs) fun ds=>aR (match ds with
 | [.lst xs]=>some (rs,fQ 0 xs)
 | _=>none)
theorem wY (h:tI K G0 W0 (kg ms) σ H R):zp K (tA K G0 W0 ms) σ H R:=by
 obtain ⟨G,W,le,ρ,T,g,o,ρ',w,e,q⟩:=h
 have s:∀ x,o=.error x->W x ρ':=fun x m=>by subst m;exact q
 refine tA.seq le w e s fun rs ρ1 e1 j H1 Ts g1 C a1=>?_
 obtain ⟨ds,d1,A⟩:=bJ e1
 obtain ⟨p,l,rfl,rfl⟩:=bC A
 have inv:∃ xs,ds=[.lst xs]/\p=(rs,fQ 0 xs):=by
  split at l
  ·cases l;exact ⟨_,rfl,rfl⟩
  ·exact nsE l
 obtain ⟨xs,rfl,rfl⟩:=inv
 match rs,d1,a1,q with
 | [],d1,_,_=>cases d1
 | r :: r' :: rs,d1,_,_ =>
  obtain ⟨_,_,f⟩:=aL (k:=fun d=>ac (cv (r' :: rs)) fun ds=>aO (d :: ds)) d1
  obtain ⟨az,e6,e7⟩:=bJ f
  obtain ⟨_,_,e8⟩:=aL (k:=fun d=>ac (cv rs) fun ds=>aO (d :: ds)) e6
  obtain ⟨ax,_,e9⟩:=bJ e8
  cases e9
  cases e7
 | [r],d1,a1,q =>
  obtain ⟨d,B,f⟩:=aL (k:=fun d=>ac (cv []) fun ds=>aO (d :: ds)) d1
  have hd:d=.lst xs:=by
   have f:some ((.ok [d],ρ'):Except D (List D) × Sto)=some (.ok [.lst xs],ρ'):=f
   cases f;rfl
  subst hd
  cases a1 with
  | @cons _ v Ts1 _ vs1 Us1 a as =>
   cases as with
   | nil =>
    obtain ⟨y,S,y2,Q⟩:=Ar.item2 (T:=T) (by simpa using C) a B
    have Y:Itm (([] ++ Ts1) ++ T) g1 y:=by
     rcases Q with ⟨i,_,ei⟩ | h
     ·exact .inl ⟨i,ei⟩
     ·exact .inr (by simpa using Ca T h)
    have I:=(C.itm Y).arg
    have X:∀ J,Walk K J H1 [y] (fQ 0 xs)->R J H1:=fun J hw=>q J H1 [v] ([] ++ Ts1) g1 [y] C (.cons a .nil) (fun z hz=>by
     rw [CG.mp hz]
     rcases Q with h | h
     ·exact .inl h
     ·exact .inr (by simpa using h)) hw
    clear q
    subst y2
    have E:=I
    obtain ⟨yd,yv,yL,yf⟩:=y
    obtain ⟨V,oo⟩:=I
    dsimp only at V S
    subst S
    cases V with
    | @lst _ pa j La ha rs =>
     refine ⟨pa,rfl,⟨_,SqL.of ha⟩,X _ ?_⟩
     obtain ⟨ws,h1,h2,h3⟩:=Reps.split rs
     refine ⟨ws,fun x m=>⟨(h3 x m).1,(h3 x m).2.1,fun c t=>mh (y:=⟨.lst xs,.ref pa,pa :: La,yf⟩) B6 E rfl rfl c ((h3 x m).2.2 c t)⟩,fun M H' hm F P=>?_⟩
     have sq:SqL K H' pa j:=SqL.of (F pa _ ha (P _ B6 pa B6))
     refine ⟨fun i d hd=>?_,by rw [jd];exact ⟨j,sq,by rw [<- rs.len];exact Co _⟩⟩
     rw [je] at hd
     obtain ⟨N,n,rfl⟩:=B9.mp hd
     have hw:∃ u,ws[i]?=some u/\u.d=N:=by
      rw [<- h1,Cn] at n
      obtain ⟨u,a,b⟩:=B9.mp n
      exact ⟨u,a,b⟩
     obtain ⟨u,U,ud⟩:=hw
     have O:j[i]?=some u.v:=by rw [<- h2,Cn,U];rfl
     have hu:=Ck U
     refine ⟨⟨j,u.v,sq,O⟩,fun x a0 ⟨Tt,yv,e1,A,l,B⟩=>?_⟩
     have f:=B j sq
     rw [O] at f
     cases f
     subst e1 l
     have Z:Rep K H' u.d u.v u.L:=(h3 u hu).2.1.keep F hm fun b hb=>P _ B6 b (B7 _ ((h3 u hu).2.2 b hb))
     refine ⟨⟨.tup [.int ((0+i:Nat):Int),N],.ref Tt,[] ++ (u.L ++ []),.z⟩,pU A (.cons (L:=[]) (by rw [Cw];exact .int _) (.cons (by rw [<- ud];exact Z) .nil)) (fun c t=>⟨u,hu,by simpa using t⟩),rfl,rfl,rfl⟩
theorem xE {k:Nat} (b:Gl X "enumerate") (hm:X.mg "enumerate"=none) (c:RA X G0 W0 [a] ms) (d:starEach [a] X.env=[(false,eval a X.env)]):RI X G0 W0 (.Tuple elts k tp) (.Call (.Name "enumerate" p) [a] [] pos) (kg ms):=⟨PI.imp (xW b hm c.h d) fun _ _ _ h=>wY h⟩
end
end L3
namespace L3
theorem xS {i:Nat} (h:mask.length<=i):prM mask i=false:=by
 unfold prM
 rw [List.getElem?_eq_none h]
end L3
end
section
namespace L3
open PySem L2
structure Bl (mg:Str->Option Value):Prop where
 len:mg "len"=none
 range:mg "range"=none
 abs:mg "abs"=none
 divmod:mg "divmod"=none
 enumerate:mg "enumerate"=none
 tuple:mg "tuple"=none
 isinstance:mg "isinstance"=none
 int:mg "int"=none
 bool:mg "bool"=none
 all:mg "all"=none
 str:mg "str"=none
 max:mg "max"=none
 min:mg "min"=none
 list:mg "list"=none
 dict:mg "dict"=none
 repr:mg "repr"=none
 sorted:mg "sorted"=none
 set:mg "set"=none
 zip:mg "zip"=none
 reversed:mg "reversed"=none
theorem b_len:bootBuiltins "len"=some (.builtin "len"):=by decide +kernel
theorem b_abs:bootBuiltins "abs"=some (.builtin "abs"):=by decide +kernel
theorem wE:bootBuiltins "divmod"=some (.builtin "divmod"):=by decide +kernel
theorem mM:bootBuiltins "tuple"=some (.type "tuple"):=by decide +kernel
theorem mN:bootBuiltins "isinstance"=some (.builtin "isinstance"):=by decide +kernel
theorem b_int:bootBuiltins "int"=some (.type "int"):=by decide +kernel
theorem BW:bootBuiltins "bool"=some (.type "bool"):=by decide +kernel
theorem b_all:bootBuiltins "all"=some (.builtin "all"):=by decide +kernel
theorem b_max:bootBuiltins "max"=some (.builtin "max"):=by decide +kernel
theorem b_min:bootBuiltins "min"=some (.builtin "min"):=by decide +kernel
theorem BV:bootBuiltins "list"=some (.type "list"):=by decide +kernel
theorem BU:bootBuiltins "repr"=some (.builtin "repr"):=by decide +kernel
theorem oW:bootBuiltins "sorted"=some (.builtin "sorted"):=by decide +kernel
theorem zu:bootBuiltins "set"=some (.type "set"):=by decide +kernel
end L3
end
section
namespace L3
open PySem L2
section
variable {K:FG} {G G0:Gm} {W W0:D->Sto->Prop} {H H':Hp} {σ:St} {ρ ρ':Sto} {T T':List It3} {g:Nat->Option It3} {x y z:It3} {α β:Type} {X:Cx} {L:List Addr}
theorem xc (h:tE K G0 W0 m σ H Q) (f:∀ v H,Q v H->Q' v H):tE K G0 W0 m σ H Q':=by
 refine h.use fun G W le ρ T g o ρ' w e q=>?_
 refine tE.mk le w e ?_
 cases o with
 | ok r=>exact fun v H' g=>f v H' (q v H' g)
 | error x=>exact q
def lj:D->Option String
 | .non=>some "NoneType" | .bl _=>some "bool" | .int _=>some "int" | .str _=>some "str"
 | .tup _=>some "tuple" | .lst _=>some "list" | .fls _=>some "list" | .dk _=>some "dict" | .dt _=>some "dict" | .exc _ _=>none
def eS (t:String) (d:D):Option (D × Fl):=(lj d).map fun k=>(.bl (jC k t),.z)
theorem Rep.kind (r:Rep K H d v L) (e:lj d=some k):KindOf K H v k:=by
 cases r with
 | non=>cases e;exact .non
 | bl b=>cases e;exact .bool b
 | int i=>cases e;exact .int i
 | str s=>cases e;exact .str s
 | tup h _=>cases e;exact .tuple (SqT.of h)
 | lst h _=>cases e;exact .list (SqL.of h)
 | lstF h _=>cases e;exact .list h.sq
 | dK h _ _=>cases e;exact .dK h
 | dT h _ _=>cases e;exact .dT h
 | exc _ _=>cases e
theorem pF (i:bZ X (.builtin "isinstance") (fun xs H Q=>∃ x k,xs=[x,.ty t]/\KindOf X.K H x k/\Q (.bl (jC k t)) H)) (g:Gl X "isinstance") (hm:X.mg "isinstance"=none) (f:PE X (.Name tn pT) (tC (.ty t))) (l:RE X G0 W0 a ma) (b:starEach [a,.Name tn pT] X.env=(false,eval a X.env) :: starEach [.Name tn pT] X.env) (c:starEach [.Name tn pT] X.env=(false,eval (.Name tn pT) X.env) :: starEach [] X.env) (d:(backTo pos (starEach [.Name tn pT] X.env)).any (·.1)=false):RE X G0 W0 (.Call (.Name "isinstance" p) [a,.Name tn pT] [] pos) (mUn (eS t) ma) :=
 ⟨PE.imp (ir i g hm mN (gf l.h (gf f j5 c) b) (by decide) (by decide) b d) fun σ H Q h=>by
  have h:=yX (r:=fun x H Q=>∃ k,KindOf X.K H x k/\Q (.bl (jC k t)) H) (fun a H Q p ra e q=>by
   obtain ⟨k,h1,h2⟩:=B9.mp e
   subst h2
   exact ⟨k,ra.rep.kind h1,q ⟨.bl (jC k t),.bl (jC k t),[],.z⟩ H (dH (.bl _)) rfl rfl⟩) h
  refine xc h fun x H1 ⟨k,j,q⟩=>?_
  exact ⟨x,k,rfl,j,q⟩⟩
def vN:D->Option Key
 | .int i=>some (.inl i)
 | .str s=>some (.inr s)
 | _=>none
def dZ:List D->Option (List Key)
 | []=>some []
 | d :: ds=>match vN d,dZ ds with
  | some k,some ks=>some (k :: ks)
  | _,_=>none
theorem sT (r:Rep K H d v L) (e:vN d=some k):v=kV k:=by
 cases r <;> cases e <;> rfl
theorem fP:∀ {ds:List D} {b:List V} {L:List Addr} {a:List Key},Reps (Rep K H) ds b L->dZ ds=some a->b=a.map kV
 | _,_,_,a,.nil,e=>by cases e;rfl
 | _,_,_,a,.cons (d:=d) (ds:=ds) r rs,e=>by
  unfold dZ at e
  cases h1:vN d with
  | none=>rw [h1] at e;exact nsE e
  | some k =>
   cases h2:dZ ds with
   | none=>rw [h1,h2] at e;exact nsE e
   | some ks' =>
    rw [h1,h2] at e
    cases e
    rw [sT r h1,fP rs h2];rfl
def kh (kvs:List (List Key × D)) (k:List Key):Option D:=(kvs.find? fun a=>decide (a.1=k)).map (·.2)
def nv (kvs:List (List Key × D)) (k:List Key) (v:D):List (List Key × D) :=
 if (kvs.any fun a=>decide (a.1=k))=true then kvs.map (fun a=>if a.1=k then (a.1,v) else a) else kvs ++ [(k,v)]
theorem oi:∀ {kvs:List (List Key × D)} {ps:List (List Key × V)} {L:List Addr} {k:List Key} {d:D},kvs.map (·.1)=ps.map (·.1)->Reps (Rep K H) (kvs.map (·.2)) (ps.map (·.2)) L->kh kvs k=some d->∃ v L',jz ps k=some v/\Rep K H d v L'/\∀ c ∈ L',c ∈ L
 | [],ps,L,k,d,hk,r,e=>by cases e
 | f :: kvs,[],L,k,d,hk,r,e=>by cases hk
 | f :: kvs,p :: ps,L,k,d,hk,r,e=>by
  have b:f.1=p.1/\kvs.map (·.1)=ps.map (·.1):=by simpa using hk
  generalize i:(f :: kvs).map (·.2)=xs at r
  generalize j:(p :: ps).map (·.2)=ys at r
  cases r with
  | nil=>cases i
  | cons a as =>
   cases i
   cases j
   unfold kh at e
   rw [List.find?_cons] at e
   by_cases h:f.1=k
   ·rw [Ct h] at e
    cases e
    exact ⟨_,_,gx (b.1.symm.trans h),a,fun c g=>Ca _ g⟩
   ·rw [Cu h] at e
    obtain ⟨v,L',h1,h2,h3⟩:=oi b.2 as e
    exact ⟨v,L',by rw [gz (fun z=>h (b.1.trans z))];exact h1,h2,fun c g=>Cc _ (h3 c g)⟩
def jx:D->D->Option (D × Fl)
 | .dt kvs,.tup ks=>match dZ ks with
  | some k=>(kh kvs k).map fun d=>(d,.z)
  | none=>none
 | _,_=>none
def qV:R2:=fun x y H Q=>∃ a v,x=.ref a/\DGet H a y (some v)/\Q v H
theorem yn:OpD K qV jx:=fun a b H Q p ra rb e q=>by
 obtain ⟨da,B,A,j⟩:=a
 obtain ⟨db,u,r,s⟩:=b
 have h:=ra
 obtain ⟨ra,x⟩:=ra
 obtain ⟨rb,ob⟩:=rb
 dsimp only at ra rb e
 cases da with
 | dt kvs =>
  obtain ⟨g,ps,i,rfl,rfl,n,l,rs⟩:=ra.view
  cases db with
  | tup ks =>
   obtain ⟨w,ws,rfl,o,f⟩:=rb.view
   have e:(match dZ ks with | some k=>(kh kvs k).map fun d=>(d,Fl.z) | none=>none)=some p:=e
   cases h1:dZ ks with
   | none=>rw [h1] at e;exact nsE e
   | some k =>
    rw [h1] at e
    obtain ⟨d,h2,h3⟩:=B9.mp (show (kh kvs k).map (fun d=>(d,Fl.z))=some p from e)
    subst h3
    have hw:=fP f h1
    subst hw
    obtain ⟨v,L',g1,g2,g3⟩:=oi l rs h2
    refine ⟨g,v,rfl,by rw [<- g1];exact DGet.t n o,q ⟨d,v,L',.z⟩ H (nH g2 fun c m=>?_) rfl rfl⟩
    exact mh (y:=⟨.dt kvs,.ref g,g :: i,j⟩) B6 h rfl rfl c (g3 c m)
  | _=>exact nsE e
 | _=>exact nsE e
open PySem.Spec PyProof.Rows in
theorem yD (hu:X.A.units+1 < cLine):IxR X qV:=by
 intro value slice pins s σ H x y v u Q I i e h d
 obtain ⟨a,w,rfl,g,q⟩:=h
 cases i
 have c:=oA I g
 unfold subscriptTail
 refine B0 ?_
 rw [getitemInPython_of_ne c.not_modules]
 refine B0 (wpAny_specialOf c PySem.F.slot_dict_getitem.lookup ?_)
 have fin:wpAny (model X.prog X.w) X.A (subscripted slice false (.ref a) u) (fun r f=>wpAny (model X.prog X.w) X.A (letTemporaryGo value (.ref a) r >>= fun _=>pure r) (EP X pins σ Q) X.xe f) X.xe s:=by
  rw [d]
  exact wpAny_operating (tw hu I g e fun k s3 j b=>B0 (wpAny_letTemporaryGo (B4 ⟨w,H,j,b,q⟩)))
 first
  | exact B4 (B0 fin)
  | exact B0 (B4 (B0 fin))
  | exact B0 fin
abbrev aw:=orD ixD jx
theorem Bc:OpD K (fun x y H Q=>(uY K x y H Q\/uX K x y H Q)\/qV x y H Q) aw:=od_ix.or yn
theorem Bx (hu:X.A.units+1 < cLine):IxR X (fun x y H Q=>(uY X.K x y H Q\/uX X.K x y H Q)\/qV x y H Q):=ix_ok.or (yD hu)
def vI:EM:=aO (.val (.dt []) .u)
theorem uU:RE X G0 W0 (.Dict [] [] pos) vI:=⟨PE.imp vj fun σ H Q h=>by
 refine h.use fun G W le ρ T g o ρ' w e q=>?_
 cases e
 intro p a
 refine q _ _ (Wf.done (Us:=[]) (ys:=[]) (x:=⟨.dt [],.ref p,[p],.u⟩) w (fun _ h=>(by cases h)) ⟨bj a,.dT aC rfl .nil,fun c b=>?_,fun _=>⟨rfl,p,[],rfl,rfl,(by simp),a⟩⟩)
 rw [CG.mp b];exact .inl a⟩
def iq:D->List D->Option (D × D)
 | .dt kvs,[.tup ks,v]=>match dZ ks with
  | some k=>if kvs.length < 16777216 then some (.dt (nv kvs k v),.non) else none
  | none=>none
 | _,_=>none
def qT:tY:=fun o i v H Q=>∃ a H',o=.ref a/\DPut H a i v H'/\Q H'
theorem uy (hu:X.A.units+1 < cLine):tZ X qT:=by
 intro pins s σ H o i v ov f u Q I c d e h
 obtain ⟨a,H',rfl,g,q⟩:=h
 cases c
 exact tv hu I g d e fun s' b=>⟨H',b,q⟩
theorem nt:∀ {kvs:List (List Key × D)} {ps:List (List Key × V)} {L L':List Addr} {k:List Key} {d:D} {v:V},kvs.map (·.1)=ps.map (·.1)->Reps (Rep K H) (kvs.map (·.2)) (ps.map (·.2)) L->Rep K H d v L' ->
  ∃ L2,Reps (Rep K H) ((kvs.map fun b=>if b.1=k then (b.1,d) else b).map (·.2)) ((ps.map fun b=>if b.1=k then (b.1,v) else b).map (·.2)) L2/\(∀ c ∈ L2,c ∈ L\/c ∈ L')
 | [],[],L,L',k,d,v,hk,r,rd=>⟨[],.nil,fun c f=>by cases f⟩
 | [],_ :: _,_,_,_,_,_,hk,_,_=>by cases hk
 | _ :: _,[],_,_,_,_,_,hk,_,_=>by cases hk
 | b :: kvs,p :: ps,L,L',k,d,v,hk,r,rd=>by
  have e:b.1=p.1/\kvs.map (·.1)=ps.map (·.1):=by simpa using hk
  generalize g:(b :: kvs).map (·.2)=xs at r
  generalize i:(p :: ps).map (·.2)=ys at r
  cases r with
  | nil=>cases g
  | @cons _ _ L1 _ _ L1' a as =>
   cases g
   cases i
   obtain ⟨L2,h1,h2⟩:=nt (k:=k) e.2 as rd
   by_cases h:b.1=k
   ·refine ⟨L' ++ L2,?_,fun c f=>?_⟩
    ·simp only [Cs,if_pos h,if_pos (e.1.symm.trans h)]
     exact .cons rd h1
    ·rcases Cg.mp f with z | z
     ·exact .inr z
     ·rcases h2 c z with y | y
      ·exact .inl (Cc _ y)
      ·exact .inr y
   ·refine ⟨L1 ++ L2,?_,fun c f=>?_⟩
    ·simp only [Cs,if_neg h,if_neg (fun z=>h (e.1.trans z))]
     exact .cons a h1
    ·rcases Cg.mp f with z | z
     ·exact .inl (Ca _ z)
     ·rcases h2 c z with y | y
      ·exact .inl (Cc _ y)
      ·exact .inr y
theorem wH {kvs:List (List Key × D)} {ps:List (List Key × V)} (b:kvs.map (·.1)=ps.map (·.1)):(kvs.any fun a=>decide (a.1=k))=ps.any fun a=>decide (a.1=k):=by
 have h1:(kvs.any fun a=>decide (a.1=k))=(kvs.map (·.1)).any fun x=>decide (x=k):=by rw [List.any_map];rfl
 have h2:(ps.any fun a=>decide (a.1=k))=(ps.map (·.1)).any fun x=>decide (x=k):=by rw [List.any_map];rfl
 rw [h1,h2,b]
theorem nO {kvs:List (List Key × α)} {d:α}:(kvs.map fun a=>if a.1=k then (a.1,d) else a).map (·.1)=kvs.map (·.1):=by
 rw [CQ]
 refine List.map_congr_left fun a _=>?_
 show (if a.1=k then (a.1,d) else a).1=a.1
 split <;> rfl
theorem put1 (a:D):iq (.dt kvs) [a]=none:=by cases a <;> rfl
theorem put3' (a:D):iq (.dt kvs) (a :: b :: c :: r)=none:=by cases a <;> rfl
theorem yx:MutD K (fD qT) iq:=fun a d n as H Q p r m na ra u e q=>by
 cases d with
 | dt kvs =>
  obtain ⟨_,ps,_,e1,F,x,i,rs⟩:=r.view
  cases e1
  cases F
  match as,e,ra,u with
  | [],e,_,_=>exact nsE e
  | [y],e,_,_=>exact nsE ((put1 y.d).symm.trans e)
  | y :: _ :: _ :: _,e,_,_=>exact nsE ((put3' y.d).symm.trans e)
  | [k,y],e,ra,u =>
   have w:=ra k B6
   have C:=ra y (B7 _ B6)
   have E:=u y (B7 _ B6)
   obtain ⟨kd,I,G,J⟩:=k
   dsimp only at w
   cases kd with
   | tup ks =>
    obtain ⟨A,ws,rfl,f,s⟩:=w.view
    have e:(match dZ ks with | some k=>if kvs.length < 16777216 then some (D.dt (nv kvs k y.d),D.non) else none | none=>none)=some p:=e
    cases h1:dZ ks with
    | none=>rw [h1] at e;exact nsE e
    | some key =>
     rw [h1] at e
     dsimp only at e
     split at e
     ·rename_i B
      cases e
      have hw:=fP s h1
      subst hw
      have hlen:kvs.length=ps.length:=by have:=congrArg List.length i;simpa using this
      refine ⟨.ref A,y.v,rfl,a,_,rfl,DPut.t x f (by rw [<- hlen,<- szl];exact B),?_⟩
      have ma:MutAt H a:=.inr (.inr ⟨_,x⟩)
      have g:Rep K (upd H a (.dT (eL ps key y.v))) y.d y.v y.L:=C.keep (M:=fun b=>b=a) (fun b o f h=>by rw [au h];exact f) (fun b e=>by rw [e];exact ma) fun b f e=>E (by rw [<- e];exact f)
      have keeps:Reps (Rep K (upd H a (.dT (eL ps key y.v)))) (kvs.map (·.2)) (ps.map (·.2)) n:=rs.keep (M:=fun b=>b=a) (fun b o f h=>by rw [au h];exact f) (fun b e=>by rw [e];exact ma) fun b f e=>na (by rw [<- e];exact f)
      have fin:∃ l,Reps (Rep K (upd H a (.dT (eL ps key y.v)))) ((nv kvs key y.d).map (·.2)) ((eL ps key y.v).map (·.2)) l/\(∀ c ∈ l,c ∈ n\/c ∈ y.L)/\(nv kvs key y.d).map (·.1)=(eL ps key y.v).map (·.1):=by
       generalize upd H a (HO.dT (eL ps key y.v))=H2 at keeps g ⊢
       unfold nv eL
       rw [wH i]
       split
       ·obtain ⟨L2,g1,g2⟩:=nt (k:=key) i keeps g
        exact ⟨L2,g1,g2,by rw [nO,nO];exact i⟩
       ·refine ⟨n ++ (y.L ++ []),?_,fun c j=>?_,by rw [List.map_append,List.map_append,i];rfl⟩
        ·rw [List.map_append,List.map_append]
         exact keeps.append (.cons g .nil)
        ·rcases Cg.mp j with z | z
         ·exact .inl z
         ·rw [List.append_nil] at z;exact .inr z
      obtain ⟨l,g1,g2,g3⟩:=fin
      exact q (.dT (eL ps key y.v)) l ⟨.non,.non,[],.z⟩ (.dT aC g3 g1) rfl (fun c j=>(g2 c j).imp id fun h=>⟨y,B7 _ B6,h⟩) rfl rfl .non fun c j=>by cases j
     ·exact nsE e
   | _=>exact nsE e
 | _=>exact nsE e
def l7 (f g:D->List D->Option (D × D)) (a:D) (b:List D):Option (D × D):=match f a b with
 | some p=>some p
 | none=>g a b
theorem MutD.or {f g:D->List D->Option (D × D)} (h:MutD K r f) (h':MutD K r' g):MutD K (fun x y H Q=>r x y H Q\/r' x y H Q) (l7 f g):=fun a d c as H Q p r m na ra i e q=>by
 unfold l7 at e
 cases b:f d (as.map (·.d)) with
 | some p'=>rw [b] at e;cases e;exact .inl (h a d c as H Q _ r m na ra i b q)
 | none=>rw [b] at e;exact .inr (h' a d c as H Q p r m na ra i e q)
abbrev iQ:=l7 kD iq
theorem vD:MutD K (fD fun o i v H Q=>j2 o i v H Q\/qT o i v H Q) iQ:=fun a d b as H Q p r m na ra c e q=>by
 rcases MutD.or yw yx a d b as H Q p r m na ra c e q with ⟨k,v,h1,h2⟩ | ⟨k,v,h1,h2⟩
 ·exact ⟨k,v,h1,.inl h2⟩
 ·exact ⟨k,v,h1,.inr h2⟩
theorem qL (hu:X.A.units+1 < cLine):tZ X (fun o i v H Q=>j2 o i v H Q\/qT o i v H Q):=by
 intro pins s σ H o i v ov c u Q I a b d h
 rcases h with h | h
 ·exact uw pins s σ H o i v ov c u Q I a b d h
 ·exact uy hu pins s σ H o i v ov c u Q I a b d h
end
end L3
end
section
namespace L3
open PySem L2
section
open PySem.Spec PyProof.Rows HT
variable {prog:Program} {w:World} {A:Around} {E:Value->Shared->Prop} {s:Shared}
theorem gi {lo hi:Option Int} (a:IsTup s.heap t items) (e:s.heap.IsSliceOf sl vl vu .none) (pl:IsPart vl lo) (pu:IsPart vu hi) (hw:sIx items.size 0 lo=0/\sIx items.size items.size hi=items.size) (h:Q (.ref t) s) (hsz:items.size<=sizeLine):wpAny (model prog w) A (getItem (.ref t) (.ref sl)) Q E s:=by
 obtain ⟨os,c,b,f⟩:=id e
 have d:s.TypeIs (.ref sl) "slice":=⟨os,c,b⟩
 unfold getItem
 try with_reducible refine B5 ?_
 first | refine B0 (B4 ?_) | skip
 refine B0 (wpAny_sequenceKey a.typeIs (by decide) ?_)
 refine B0 (wpAny_callSpecial?_slot (name:=Str.ofString "__getitem__") a.typeIs PyProof.Rows.slot_tuple_getitem
  (wpAny_call_entry PyProof.Rows.slot_tuple_getitem a.typeIs entry_tuple_getitem ?_ (args_tuple_getitem _ _)))
 show wpAny _ _ (Builtin.Tuple.tupleItemsOf (.ref t) >>= _) _ _ s
 refine B0 (tupleItemsOf_ a ?_)
 refine B0 (wpAny_typeOf d ?_)
 rw [if_pos (by decide)]
 refine B0 (d7 e pl pu ?_)
 show wpAny _ _ (if (((sIx items.size 0 lo:Nat):Int) == 0 && (1:Int) == 1 && (sIx items.size items.size hi - sIx items.size 0 lo) == items.size)=true then _ else _) _ _ s
 rw [if_pos (by simp [hw.1,hw.2])]
 refine B0 ?_
 unfold Builtin.Tuple.tupleIsExact
 refine B0 (wpAny_typeOf a.typeIs ?_)
 refine B4 ?_
 rw [if_pos (by decide)]
 exact B0 (wpAny_rule (B4 ⟨_,rfl,B4 h⟩))
end
section
variable {K:FG} {G G0:Gm} {W W0:D->Sto->Prop} {H H':Hp} {σ:St} {ρ ρ':Sto} {T T':List It3} {g:Nat->Option It3} {x y z:It3} {α β:Type} {X:Cx} {L:List Addr}
def uW (K:FG):V->Option Int->Option Int->Hp->VK->Prop:=fun x lo hi H Q=>∃ a xs,x=.ref a/\SqT K H a xs/\(HT.sIx xs.length 0 lo=0/\HT.sIx xs.length xs.length hi=xs.length)/\Q (.ref a) H
theorem xk:SlR X (uW X.K):=by
 intro pins s σ H x v g f lo hi sl Q I d e pl pu h
 obtain ⟨a,xs,rfl,c,hw,q⟩:=h
 cases d
 obtain ⟨its,r,b,hz⟩:=I.tuple c
 have hlen:its.toArray.size=xs.length:=by rw [Cr];exact r.length.symm
 refine ⟨"tuple",_,PyProof.Rows.slot_tuple_getitem.lookup,b.typeIs,?_⟩
 exact gi b e pl pu (by rw [hlen];exact hw) ⟨.ref a,H,I,rfl,q⟩ (by rw [hlen];exact hz)
def asI:D->Option Int
 | .int i=>some i
 | _=>none
def du:M3 (Option Int):=aO none
def bP (m:EM):M3 (Option Int):=ac m fun r=>ac (der r) fun d=>aR ((asI d).map some)
def EndP (K:FG) (G:Gm) (W:D->Sto->Prop) (σ:St) (T:List It3) (ρ':Sto) (Q:Option Int->Hp->Prop):Except D (Option Int)->Prop
 | .ok b=>∀ H' g',Wf K G H' σ ρ' T g'->Q b H'
 | .error e=>W e ρ'
def tP (K:FG) (G0:Gm) (W0:D->Sto->Prop) (m:M3 (Option Int)):TO:=fun σ H Q=>∃ G W,Le K G W G0 W0/\∃ ρ T g r ρ',Wf K G H σ ρ T g/\m ρ=some (r,ρ')/\EndP K G W σ T ρ' Q r
structure RP (X:Cx) (G0:Gm) (W0:D->Sto->Prop) (e:Option Expr) (m:M3 (Option Int)):Prop where
 h:PO X e (tP X.K G0 W0 m)
theorem PO.imp (h:PO X e t) (f:∀ σ H Q,t' σ H Q->t σ H Q):PO X e t':=fun pins s σ H Q I q=>h pins s σ H Q I (f σ H Q q)
theorem xA:RP X G0 W0 none du:=⟨PO.imp xU fun σ H Q h=>by
 obtain ⟨G,W,le,ρ,T,g,r,ρ',w,e,q⟩:=h
 cases e
 exact q _ _ w⟩
theorem xz (h:RE X G0 W0 e m):RP X G0 W0 (some e) (bP m):=⟨PO.imp (xT h.h) fun σ H Q h=>by
 obtain ⟨G,W,le,ρ,T,g,r,ρ',w,e,q⟩:=h
 have a:∀ x,r=.error x->W x ρ':=fun x b=>by subst b;exact q
 refine tE.seq le w e a fun ra ρ1 e1 v H1 ⟨Ts,g1,c,a1⟩=>?_
 obtain ⟨d,d1,l⟩:=aL e1
 obtain ⟨o,p,rfl,rfl⟩:=bC l
 obtain ⟨i,n,k⟩:=B9.mp p
 subst k
 obtain ⟨y,j,f1,f2⟩:=a1.item c (fun x b=>Ca _ b) d1
 have f:=(c.itm j).rep
 rw [f1] at f
 have hd:d=.int i:=by cases d <;> cases n;rfl
 rw [hd] at f
 refine ⟨i,by rw [<- f2];exact f.int_inv,q _ _ (c.sub (Cl Ts T))⟩⟩
def mSl (f:D->Option Int->Option Int->Option (D × Fl)) (ma:EM) (pl pu:M3 (Option Int)):EM:=ac ma fun ra=>ac pl fun lo=>ac pu fun hi=>ac (der ra) fun d=>aR ((f d lo hi).map fun p=>R3.val p.1 p.2)
def SlD (K:FG) (r:V->Option Int->Option Int->Hp->VK->Prop) (f:D->Option Int->Option Int->Option (D × Fl)):Prop:=∀ (a:It3) (lo hi:Option Int) (H:Hp) (Q:VK) (p:D × Fl),Arg K H a->f a.d lo hi=some p ->
 (∀ w H',New K H H' (cC [a]) w->w.d=p.1->w.f=p.2->Q w.v H')->r a.v lo hi H Q
theorem tP.seq (le:Le K G W G0 W0) (w:Wf K G H σ ρ T g) (e:ac ma k ρ=some (r,ρ')) (he:∀ x,r=.error x->W x ρ') (h:∀ b ρ1,k b ρ1=some (r,ρ')->∀ H1 g1,Wf K G H1 σ ρ1 T g1->P b H1):tP K G0 W0 ma σ H P:=by
 unfold ac at e
 cases q:ma ρ with
 | none=>rw [q] at e;exact nsE e
 | some p =>
  obtain ⟨o,ρ1⟩:=p
  rw [q] at e
  cases o with
  | error x=>cases e;exact ⟨G,W,le,ρ,T,g,.error x,ρ',w,q,he x rfl⟩
  | ok ra=>exact ⟨G,W,le,ρ,T,g,.ok ra,ρ1,w,q,h ra ρ1 e⟩
theorem tE_sl (hd:SlD K r f) (h:tE K G0 W0 (mSl f ma pl pu) σ H Q):tSl r (tE K G0 W0 ma) (tP K G0 W0 pl) (tP K G0 W0 pu) σ H Q:=by
 refine h.use fun G W le ρ T g o ρ' w e q=>?_
 refine tE.seq le w e q.err fun ra ρ1 e1 v H1 ⟨Ts,g1,k,a1⟩=>?_
 refine tP.seq le k e1 q.err fun lo ρ2 t H2 g2 l=>?_
 refine tP.seq le l t q.err fun hi ρ3 u n g3 c=>?_
 obtain ⟨d,d1,m⟩:=aL u
 obtain ⟨p,a,rfl,rfl⟩:=bC m
 obtain ⟨y,i,f1,f2⟩:=a1.item c (fun x j=>Ca _ j) d1
 subst f1 f2
 cases b:f y.d lo hi with
 | none=>rw [b] at a;exact nsE a
 | some s =>
  rw [b] at a
  cases a
  exact hd y lo hi n Q s (c.itm i).arg b (ly c (fun z hz=>by rw [CG.mp hz];exact i) q)
theorem Reps.take:∀ {ds:List D} {b:List V} {L:List Addr} (n:Nat),Reps (Rep K H) ds b L->∃ L',Reps (Rep K H) (ds.take n) (b.take n) L'/\∀ c ∈ L',c ∈ L
 | _,_,_,0,_=>⟨[],by simpa using Reps.nil,fun c a=>by cases a⟩
 | _,_,_,n+1,.nil=>⟨[],by simpa using Reps.nil,fun c a=>by cases a⟩
 | _,_,_,n+1,.cons (L:=L1) r rs=>by
  obtain ⟨L',h1,h2⟩:=Reps.take n rs
  exact ⟨L1 ++ L',by simpa using Reps.cons r h1,fun c a=>by
   rcases Cg.mp a with h | h
   ·exact Ca _ h
   ·exact Cc _ (h2 c h)⟩
theorem Reps.drop:∀ {ds:List D} {b:List V} {L:List Addr} (n:Nat),Reps (Rep K H) ds b L->∃ L',Reps (Rep K H) (ds.drop n) (b.drop n) L'/\∀ c ∈ L',c ∈ L
 | _,_,L,0,r=>⟨L,by simpa using r,fun c a=>a⟩
 | _,_,_,n+1,.nil=>⟨[],by simpa using Reps.nil,fun c a=>by cases a⟩
 | _,_,_,n+1,.cons r rs=>by
  obtain ⟨L',h1,h2⟩:=Reps.drop n rs
  exact ⟨L',by simpa using h1,fun c a=>Cc _ (h2 c a)⟩
theorem Reps.cut (lo hi:Option Int) (r:Reps (Rep K H) ds vs L):∃ L',Reps (Rep K H) (cT ds lo hi) (oC vs lo hi) L'/\∀ c ∈ L',c ∈ L:=by
 unfold cT oC
 rw [<- r.len]
 obtain ⟨d,h1,h2⟩:=r.drop (HT.sIx ds.length 0 lo)
 obtain ⟨L2,h3,a⟩:=h1.take (HT.sIx ds.length ds.length hi - HT.sIx ds.length 0 lo)
 exact ⟨L2,h3,fun c b=>h2 c (a c b)⟩
def slD:D->Option Int->Option Int->Option (D × Fl)
 | .lst xs,lo,hi=>some (.lst (cT xs lo hi),.u)
 | .fls xs,lo,hi=>some (.lst (cT xs lo hi),.u)
 | .tup xs,lo,hi=>some (.tup (cT xs lo hi),.z)
 | _,_,_=>none
theorem sd_sl:SlD K (fun x lo hi H Q=>AA K x lo hi H Q\/(Az K x lo hi H Q\/uW K x lo hi H Q)) slD:=fun a lo hi H Q p ra e q=>by
 obtain ⟨da,m,k,j⟩:=a
 have f:=ra
 obtain ⟨ra,n⟩:=ra
 dsimp only at ra e
 cases da with
 | lst xs =>
  obtain ⟨b,d,l,rfl,rfl,h,rs⟩:=ra.view
  cases e
  obtain ⟨L',h1,h2⟩:=rs.cut lo hi
  exact .inl ⟨b,d,rfl,SqL.of h,fun p i=>q ⟨_,.ref p,p :: L',.u⟩ _ (pV i h1 fun c g=>mh (y:=⟨.lst xs,.ref b,b :: l,j⟩) B6 f rfl rfl c (h2 c g)) rfl rfl⟩
 | fls xs =>
  obtain ⟨b,d,rfl,h,rs⟩:=ra.view
  cases e
  obtain ⟨L',h1,h2⟩:=rs.cut lo hi
  exact .inl ⟨b,d,rfl,h.sq,fun p i=>q ⟨_,.ref p,p :: L',.u⟩ _ (pV i h1 fun c g=>iz (y:=⟨.fls xs,.ref b,k,j⟩) B6 f rfl c (h2 c g)) rfl rfl⟩
 | tup xs =>
  obtain ⟨b,d,rfl,h,rs⟩:=ra.view
  cases e
  by_cases hw:HT.sIx d.length 0 lo=0/\HT.sIx d.length d.length hi=d.length
  ·have g:cT xs lo hi=xs:=by
    unfold cT
    rw [rs.len,hw.1,hw.2,<- rs.len]
    simp
   rw [g] at q
   exact .inr (.inr ⟨b,d,rfl,SqT.of h,hw,q ⟨.tup xs,.ref b,k,.z⟩ H (nH (.tup h rs) (iz (y:=⟨.tup xs,.ref b,k,j⟩) B6 f rfl)) rfl rfl⟩)
  ·obtain ⟨L',h1,h2⟩:=rs.cut lo hi
   exact .inr (.inl ⟨b,d,rfl,SqT.of h,hw,fun p i=>q ⟨_,.ref p,L',.z⟩ _ (pU i h1 fun c g=>iz (y:=⟨.tup xs,.ref b,k,j⟩) B6 f rfl c (h2 c g)) rfl rfl⟩)
 | _=>exact nsE e
theorem zX:SlR X (fun x lo hi H Q=>AA X.K x lo hi H Q\/(Az X.K x lo hi H Q\/uW X.K x lo hi H Q)):=sl_list.or (sl_tup.or xk)
theorem uT (he:RE X G0 W0 e m) (a:RP X G0 W0 lo pl) (hu:RP X G0 W0 hi pu):RE X G0 W0 (.Subscript e (.Slice lo hi none p2) pos) (mSl slD m pl pu):=⟨PE.imp (vh zX he.h a.h hu.h) fun _ _ _ h=>tE_sl sd_sl h⟩
end
end L3
end
section
namespace L3
open PySem L2
mutual
def pyD:D->Option PyData
 | .non=>some .none
 | .bl b=>some (.bool b)
 | .int i=>some (.int i)
 | .str x=>some (.str x)
 | .tup xs=>(dq xs).map .tuple
 | .lst xs=>(dq xs).map .list
 | .fls xs=>(dq xs).map .list
 | .dk _=>none
 | .dt _=>none
 | .exc _ _=>none
def dq:List D->Option (List PyData)
 | []=>some []
 | d :: ds=>match pyD d,dq ds with
  | some p,some ps=>some (p :: ps)
  | _,_=>none
end
section
variable {K:FG} {H:Hp} {Ks:Addr->Prop} {d:D} {v:V} {L:List Addr} {X:Cx}
theorem Rep.dv (r:Rep K H d v L):∀ p,pyD d=some p->DV K H v p:=by
 refine Rep.rec (motive_1:=fun d v _ _=>∀ p,pyD d=some p->DV K H v p) (motive_2:=fun ds b _ _=>∀ ps,dq ds=some ps->DVs K H b ps) ?_ ?_ ?_ ?_ ?_ ?_ ?_ ?_ ?_ ?_ ?_ ?_ r
 ·intro p e;unfold pyD at e;cases e;exact .non
 ·intro _ p e;unfold pyD at e;cases e;exact .bl _
 ·intro _ p e;unfold pyD at e;cases e;exact .int _
 ·intro _ p e;unfold pyD at e;cases e;exact .str _
 ·intro xs a b L h _ c p e
  unfold pyD at e
  obtain ⟨ps,e1,rfl⟩:=B9.mp e
  exact .tup (SqT.of h) (c ps e1)
 ·intro xs a b L h _ c p e
  unfold pyD at e
  obtain ⟨ps,e1,rfl⟩:=B9.mp e
  exact .lst (SqL.of h) (c ps e1)
 ·intro xs a b L h _ c p e
  unfold pyD at e
  obtain ⟨ps,e1,rfl⟩:=B9.mp e
  exact .lst h.sq (c ps e1)
 ·intro _ _ _ _ _ _ _ _ p e;unfold pyD at e;exact nsE e
 ·intro _ _ _ _ _ _ _ _ p e;unfold pyD at e;exact nsE e
 ·intros;rename_i e;unfold pyD at e;exact nsE e
 ·intro ps e;unfold dq at e;cases e;exact .nil
 ·intro d v L ds b L' _ _ f g ps e
  unfold dq at e
  cases h1:pyD d with
  | none=>rw [h1] at e;exact nsE e
  | some p =>
   cases h2:dq ds with
   | none=>rw [h1,h2] at e;exact nsE e
   | some qs=>rw [h1,h2] at e;cases e;exact .cons (f p h1) (g qs h2)
def eqP (a b:D):Option Bool:=match pyD a,pyD b with
 | some p,some q=>if p.canLay0 && q.canLay0 && decide (min p.depth q.depth<=30) then some (PyData.eqv p q) else none
 | _,_=>none
def eqA (a b:D):Option Bool:=match eqS a b with
 | some k=>some k
 | none=>eqP a b
abbrev eqX (a b:D):Option (D × Fl):=(eqA a b).map fun k=>(.bl k,.z)
abbrev neX (a b:D):Option (D × Fl):=(eqA a b).map fun k=>(.bl (!k),.z)
def rEqP:R2:=fun x y H Q=>∃ p q,DV X.K H x p/\DV X.K H y q/\p.canLay0=true/\q.canLay0=true/\min p.depth q.depth<=30/\Q (.bl (PyData.eqv p q)) H
def rNeP:R2:=fun x y H Q=>∃ p q,DV X.K H x p/\DV X.K H y q/\p.canLay0=true/\q.canLay0=true/\min p.depth q.depth<=30/\Q (.bl (!PyData.eqv p q)) H
theorem vp (hu:X.A.units+64 < cLine):OpR X (compareOp .Eq) (fun x y H Q=>rEq x y H Q\/rEqP (X:=X) x y H Q):=by
 intro pins s σ H x y v u Q I b a h
 rcases h with h | ⟨p,q,h1,h2,h3,c,e,d⟩
 ·exact op_eq pins s σ H x y v u Q I b a h
 ·obtain ⟨as,ra⟩:=DV.reads I h1 b
  obtain ⟨bs,rb⟩:=DV.reads I h2 a
  exact PySem.SeqAt.compareEq_reads ra rb h3 c (by omega) ⟨.bl _,H,I,rfl,d⟩
theorem AW (hu:X.A.units+64 < cLine):OpR X (compareOp .NotEq) (fun x y H Q=>rNe x y H Q\/rNeP (X:=X) x y H Q):=by
 intro pins s σ H x y v u Q I b a h
 rcases h with h | ⟨p,q,h1,h2,h3,c,e,d⟩
 ·exact op_ne pins s σ H x y v u Q I b a h
 ·obtain ⟨as,ra⟩:=DV.reads I h1 b
  obtain ⟨bs,rb⟩:=DV.reads I h2 a
  exact PySem.SeqAt.compareNe_reads ra rb h3 c (by omega) ⟨.bl _,H,I,rfl,d⟩
theorem rF (e:eqP a b=some k):∃ p q,pyD a=some p/\pyD b=some q/\p.canLay0=true/\q.canLay0=true/\min p.depth q.depth<=30/\k=PyData.eqv p q:=by
 unfold eqP at e
 cases h1:pyD a with
 | none=>rw [h1] at e;exact nsE e
 | some p =>
  cases h2:pyD b with
  | none=>rw [h1,h2] at e;exact nsE e
  | some q =>
   rw [h1,h2] at e
   dsimp only at e
   split at e
   ·rename_i h
    cases e
    simp only [Bool.and_eq_true,decide_eq_true_eq] at h
    exact ⟨p,q,rfl,rfl,h.1.1,h.1.2,h.2,rfl⟩
   ·exact nsE e
theorem vw:OpD X.K (fun x y H Q=>rEq x y H Q\/rEqP (X:=X) x y H Q) eqX:=fun a b H Q p ra rb e q=>by
 obtain ⟨k,h1,h2⟩:=B9.mp e
 subst h2
 unfold eqA at h1
 cases c:eqS a.d b.d with
 | some k' =>
  rw [c] at h1
  cases h1
  obtain ⟨s,g⟩:=wk ra.rep rb.rep c
  exact .inl ⟨s,by rw [<- g];exact q ⟨.bl k,.bl k,[],.z⟩ H (dH (.bl k)) rfl rfl⟩
 | none =>
  rw [c] at h1
  obtain ⟨p,f,e1,i,l,j,h,rfl⟩:=rF h1
  exact .inr ⟨p,f,ra.rep.dv p e1,rb.rep.dv f i,l,j,h,q ⟨.bl _,.bl _,[],.z⟩ H (dH (.bl _)) rfl rfl⟩
theorem Bd:OpD X.K (fun x y H Q=>rNe x y H Q\/rNeP (X:=X) x y H Q) neX:=fun a b H Q p ra rb e q=>by
 obtain ⟨k,h1,h2⟩:=B9.mp e
 subst h2
 unfold eqA at h1
 cases c:eqS a.d b.d with
 | some k' =>
  rw [c] at h1
  cases h1
  obtain ⟨s,g⟩:=wk ra.rep rb.rep c
  exact .inl ⟨s,by rw [<- g];exact q ⟨.bl (!k),.bl (!k),[],.z⟩ H (dH (.bl _)) rfl rfl⟩
 | none =>
  rw [c] at h1
  obtain ⟨p,f,e1,i,l,j,h,rfl⟩:=rF h1
  exact .inr ⟨p,f,ra.rep.dv p e1,rb.rep.dv f i,l,j,h,q ⟨.bl _,.bl _,[],.z⟩ H (dH (.bl _)) rfl rfl⟩
theorem wl (h:pyD a=some p) (b:p.canLay0=true) (hd:p.depth<=30):eqP a a=some true:=by
 unfold eqP
 rw [h]
 simp [b,hd,PySem.SeqAt.eqv_refl p b]
end
end L3
end
section
namespace L3
open PySem L2
theorem BF {k:Nat} {nn:Nat} (F:Fun K x x st f fd) (S:FnScope N ps (af st)) (b:mask.length=ps.length) (c:N.length=nn) (body:∀ (a:Value) (A:Around) (outer:List Env) (s:Shared) (H:Hp) (E:XK) (f:Addr) (G:Gm),Room k (A.deeper (PyProof.Rows.envOfC x (af st) s.heap.objs.size f a))->G.pr=prM mask->RSs (oB CX0 P w K mg base N x (af st) f a A outer s H E).nox G noX (aM st) m) :
  FnOk P w K mg base CX0 (k+1) f fd ps (se K (fnM mask nn m)):=by
 refine F.ok S (fun i H Q E h=>?_) fun a A outer s H i Q E n h=>?_
 ·obtain ⟨j,p,fs,rfl,_,_,d,_⟩:=h
  unfold fnM at d
  rw [Ci] at d ⊢
  split at d
  ·rename_i e;rw [e,b]
  ·exact nsE d
 ·have hle:mask.length<=nn:=by
   rw [b,<- c]
   have:=congrArg List.length S.pre
   rw [CB] at this
   omega
  obtain ⟨G,l,g⟩:=rE hle h
  subst c
  exact ⟨_,(body a A outer s H E f G n l).h,g⟩
def uo (K:FG):Sp:=fun b H Q _=>∃ (a:Addr) (ns:List Int),b=[.ref a]/\SqL K H a (ns.map V.int)/\yS H/\ns.length<=63/\∀ H',Q (.bl true) H'
theorem k7:∀ ns:List Int,Reps (Rep K H) (ns.map D.int) (ns.map V.int) []
 | []=>.nil
 | n :: ns=>.cons (L:=[]) (.int n) (k7 ns)
theorem yC (d:∀ ns:List Int,ns.length<=63->∃ fs,F [(.fls (ns.map .int),.z)]=some (.ok (.bl true,.z),fs)) (h:uo K vs H Q E):se K F vs H Q E:=by
 obtain ⟨a,ns,rfl,g,f,c,q⟩:=h
 obtain ⟨fs,e⟩:=d ns c
 have b:FzL K H a (ns.map V.int):=by
  rcases g with (h | h) | h
  ·rcases f a with z | ⟨o,xs,z⟩
   ·rw [h] at z;cases z
   ·rw [h] at z;cases z
  ·exact .inl h
  ·exact .inr h
 refine ⟨[⟨.fls (ns.map .int),.ref a,[],.z⟩],(.bl true,.z),fs,rfl,fun p i=>?_,.cons (fun _ h=>by cases h) .nil,e,fun x qs H' B x1 j _=>?_⟩
 ·rw [CG.mp i]
  exact ⟨.lstF b (k7 ns),fun h=>absurd rfl h⟩
 ·have r:=B.rep
  rw [x1] at r
  have inv:∀ {v:V} {L:List Addr},Rep K H' (.bl true) v L->v=.bl true:=fun r=>by cases r;rfl
  rw [inv r]
  exact q H'
end L3
end
section
namespace L3
open PySem L2
section
variable {K:FG} {G G0:Gm} {W W0:D->Sto->Prop} {H H':Hp} {σ:St} {ρ ρ':Sto} {T T':List It3} {g:Nat->Option It3} {x y z:It3} {α β:Type} {X:Cx} {v:V} {d:D} {L:List Addr}
def bN:List D->Option (List Int)
 | []=>some []
 | .int i :: ds=>(bN ds).map (i :: ·)
 | _=>none
theorem i9:∀ {ds:List D} {ns:List Int},bN ds=some ns->ds=ns.map D.int
 | [],ns,e=>by cases e;rfl
 | d :: ds,ns,e=>by
  cases d <;> try (exact nsE e)
  rename_i b
  obtain ⟨r,h1,h2⟩:=B9.mp (show (bN ds).map (b :: ·)=some ns from e)
  subst h2
  rw [i9 h1];rfl
theorem Reps.ints:∀ {ns:List Int} {a:List V} {L:List Addr},Reps (Rep K H) (ns.map D.int) a L->a=ns.map V.int
 | [],_,_,.nil=>rfl
 | b :: bs,_,_,.cons r rs=>by
  rw [Reps.ints rs]
  cases r;rfl
end
end L3
end
section
namespace L3
open PySem L2
section
variable {K:FG} {G G0:Gm} {W W0:D->Sto->Prop} {H H':Hp} {σ:St} {ρ ρ':Sto} {T T':List It3} {g:Nat->Option It3} {x y z:It3} {α β:Type} {X:Cx} {v:V} {d:D} {L:List Addr}
theorem uS:∀ n:Nat,Reps (Rep K H) (aH 0 n) (kH n) []:=by
 intro n
 have h:∀ ns:List Nat,Reps (Rep K H) (ns.map fun (k:Nat)=>D.int (0+(k:Int))) (ns.map fun (k:Nat)=>V.int (0+(k:Int))) []:=by
  intro ns
  induction ns with
  | nil=>exact .nil
  | cons n ns ih=>exact .cons (L:=[]) (.int _) ih
 exact h _
end
end L3
end
section
namespace L3
open PySem L2
section
variable {K:FG} {G G0:Gm} {W W0:D->Sto->Prop} {H H':Hp} {σ:St} {ρ ρ':Sto} {T T':List It3} {g:Nat->Option It3} {x y z:It3} {α β:Type} {X:Cx} {v:V} {d:D} {L:List Addr}
theorem Reps.rep (r:Reps (Rep K H) ds vs L):∀ n:Nat,∃ L',Reps (Rep K H) (List.replicate n ds).flatten (List.replicate n vs).flatten L'/\∀ c ∈ L',c ∈ L
 | 0=>⟨[],.nil,fun _ h=>by cases h⟩
 | n+1=>by
  obtain ⟨L',h1,h2⟩:=Reps.rep r n
  refine ⟨L ++ L',?_,fun c a=>?_⟩
  ·rw [List.replicate_succ,List.replicate_succ,List.flatten_cons,List.flatten_cons];exact r.append h1
  ·rcases Cg.mp a with h | h
   ·exact h
   ·exact h2 c h
def wO (i j:Int):Prop:=0 < j/\j < 1267650600228229401496703205376
theorem vo:OpR X (binaryOp .FloorDiv) (rI wO fun i j=>.int (i / j)):=opI fun i j _ _ _ _ _ a q=>by
 have h1:(0:Int) < j:=a.1
 have h2:j < 1267650600228229401496703205376:=a.2
 refine PyProof.Rows.floordiv_int (by omega) (by rw [Int.fdiv_eq_ediv_of_nonneg i (by omega)];exact q) (.inl (PyProof.noPylong_of_log2 ?_))
 have h3:j.natAbs < 2 ^ 100:=by omega
 exact Nat.lt_trans ((Nat.log2_lt (by omega)).mpr h3) (by decide)
abbrev tu:=bo (fun _ j=>decide (0 < j/\j < 1267650600228229401496703205376)) fun i j=>.int (i / j)
theorem yo:OpD K (rI wO fun i j=>.int (i / j)) tu:=iC (fun i j h=>by simpa [wO] using h) fun i j _=>.int _
end
end L3
end
section
namespace L3
open PySem L2
end L3
end
section
namespace L3
open PySem L2
end L3
end
section
namespace L3
open PySem L2
end L3
theorem L2.Room.hu {k:Nat} (a:L2.Room k A):A.units+1 < PySem.cLine:=L2.hu_of a
end
section
namespace L3
open PySem L2
section
variable {K:FG} {G G0:Gm} {W W0:D->Sto->Prop} {H H':Hp} {σ:St} {ρ ρ':Sto} {T T':List It3} {g:Nat->Option It3} {x y z:It3} {α β:Type} {X:Cx} {v:V} {d:D} {L:List Addr}
def qh (x:Int):List Int->List Int
 | []=>[x]
 | y :: ys=>if x<=y then x :: y :: ys else y :: qh x ys
def srt:List Int->List Int
 | []=>[]
 | x :: xs=>qh x (srt xs)
theorem jb (x:Int):∀ l:List Int,(qh x l).Perm (x :: l)
 | []=>.refl _
 | y :: ys=>by
  unfold qh
  split
  ·exact .refl _
  ·exact ((jb x ys).cons y).trans (.swap x y ys)
theorem bE:∀ l:List Int,(srt l).Perm l
 | []=>.refl _
 | x :: xs=>(jb x (srt xs)).trans ((bE xs).cons x)
theorem jw (x:Int):∀ {l:List Int},l.Pairwise (·<=·)->(qh x l).Pairwise (·<=·)
 | [],_=>by simp [qh]
 | y :: ys,h=>by
  unfold qh
  have h1:=List.pairwise_cons.mp h
  split
  ·rename_i a
   refine List.pairwise_cons.mpr ⟨fun z hz=>?_,h⟩
   rcases Cd.mp hz with rfl | hz
   ·exact a
   ·have:=h1.1 z hz
    omega
  ·rename_i a
   refine List.pairwise_cons.mpr ⟨fun z hz=>?_,jw x h1.2⟩
   rcases Cd.mp ((jb x ys).subset hz) with rfl | hz
   ·omega
   ·exact h1.1 z hz
theorem bU:∀ l:List Int,(srt l).Pairwise (·<=·)
 | []=>.nil
 | x :: xs=>jw x (bU xs)
theorem cI:∀ {l c:List Int},l.Perm c->l.Pairwise (·<=·)->c.Pairwise (·<=·)->l=c
 | [],c,p,_,_=>by rw [List.nil_perm.mp p]
 | a :: l,[],p,_,_=>by cases p.length_eq
 | a :: l,b :: c,p,h,h'=>by
  have h1:=List.pairwise_cons.mp h
  have h2:=List.pairwise_cons.mp h'
  have e:a=b:=by
   have d:=p.subset (B6 (a:=a) (l:=l))
   have f:=p.symm.subset (B6 (a:=b) (l:=c))
   rcases Cd.mp d with e | d
   ·exact e
   ·rcases Cd.mp f with e | f
    ·exact e.symm
    ·have:=h2.1 a d
     have:=h1.1 b f
     omega
  subst e
  rw [cI (List.Perm.cons_inv p) h1.2 h2.2]
theorem fB:∀ ns:List Int,Reps (Rep K H) (ns.map D.int) (ns.map V.int) []
 | []=>.nil
 | n :: ns=>.cons (L:=[]) (.int n) (fB ns)
end
end L3
end
section
namespace L3
open PySem L2
end L3
end
section
namespace L3
open PySem L2
end L3
end
section
namespace L3
open PySem L2
section
variable {K:FG} {G G0:Gm} {W W0:D->Sto->Prop} {H H':Hp} {σ:St} {ρ ρ':Sto} {T T':List It3} {g:Nat->Option It3} {x y z:It3} {α β:Type} {X:Cx}
theorem Reps.rev:∀ {ds:List D} {b:List V} {L:List Addr},Reps (Rep K H) ds b L->∃ L',Reps (Rep K H) ds.reverse b.reverse L'/\∀ c ∈ L',c ∈ L
 | [],_,_,.nil=>⟨[],.nil,fun c a=>a⟩
 | d :: ds,_,_,.cons (v:=v) (L:=L1) r rs=>by
  obtain ⟨L',h1,h2⟩:=Reps.rev rs
  rw [List.reverse_cons,List.reverse_cons]
  refine ⟨L' ++ (L1 ++ []),h1.append (.cons r .nil),fun c a=>?_⟩
  rcases Cg.mp a with h | h
  ·exact Cc _ (h2 c h)
  ·rw [List.append_nil] at h;exact Ca _ h
def imRev (ms:M3 (List R3)):IM:=ac ms fun rs=>ac (cv rs) fun ds=>aR (match ds with
 | [.tup xs]=>some (rs,xs.reverse)
 | _=>none)
def oe (ma:EM) (pp:M3 (Option Int)):EM:=ac ma fun ra=>ac pp fun o=>ac (der ra) fun d=>aR (match d with
 | .tup xs=>if o=some (-1) then some (R3.val (.tup xs.reverse) .z) else none
 | _=>none)
theorem xb {ma:EM} {pp:M3 (Option Int)} {Q:VK} (h:tE K G0 W0 (oe ma pp) σ H Q):yU K (tE K G0 W0 ma) (tP K G0 W0 pp) σ H Q:=by
 refine h.use fun G W le ρ T g o ρ' w e q=>?_
 refine tE.seq le w e q.err fun ra ρ1 e1 C H1 ⟨Ts,g1,u,a1⟩=>?_
 refine tP.seq le u e1 q.err fun lo ρ2 n H2 g2 i=>?_
 obtain ⟨d,d1,s⟩:=aL n
 obtain ⟨p,a,rfl,rfl⟩:=bC s
 obtain ⟨y,k,f1,f2⟩:=a1.item i (fun x b=>Ca _ b) d1
 subst f1 f2
 have l:=(i.itm k).arg
 have inv:∃ xs,y.d=.tup xs/\lo=some (-1)/\p=R3.val (.tup xs.reverse) .z:=by
  split at a
  ·rename_i xs b
   by_cases f:lo=some (-1)
   ·rw [if_pos f] at a
    exact ⟨xs,b,f,(CS a).symm⟩
   ·rw [if_neg f] at a;cases a
  ·cases a
 obtain ⟨xs,r,rfl,rfl⟩:=inv
 have t:=ly i (ys:=[y]) (fun z hz=>by rw [CG.mp hz];exact k) q
 clear e e1 n s a d1 q
 obtain ⟨da,C,B,v⟩:=y
 dsimp only at r
 subst r
 have j:=l
 obtain ⟨m,E⟩:=l
 dsimp only at m
 cases m with
 | @tup _ pa vs L ha rs =>
  obtain ⟨L',h1,h2⟩:=rs.rev
  exact ⟨pa,vs,rfl,rfl,SqT.of ha,fun p D=>t ⟨_,.ref p,L',.z⟩ _ (pU D h1 fun c A=>iz (y:=⟨.tup xs,.ref pa,B,v⟩) B6 j rfl c (h2 c A)) rfl rfl⟩
theorem xH {e st:Expr} {p2 pos:Pos} {m:EM} {pp:M3 (Option Int)} (he:RE X G0 W0 e m) (a:RP X G0 W0 (some st) pp):RE X G0 W0 (.Subscript e (.Slice none none (some st) p2) pos) (oe m pp):=⟨PE.imp (xY he.h a.h) fun _ _ _ h=>xb h⟩
end
end L3
end
section
namespace L3
open PySem L2
end L3
end
section
namespace L3
open PySem L2
end L3
end
section
namespace L3
open PySem L2
section
variable {K:FG} {G0:Gm} {W0:D->Sto->Prop} {X:Cx}
def ssQ:D->Option (D × Fl)
 | .tup xs=>(bN xs).bind fun ns=>if ns.length < 64 then some (.lst ((srt (ns.foldl met [])).map .int),.u) else none
 | _=>none
abbrev ssD:=c1 ssQ
def rSS (X:Cx):List V->Hp->VK->Prop:=fun xs H Q=>rSet X xs H fun v H1=>pH X [v] H1 Q
theorem cd_ss:dS X.K (rSS X) ssD:=fun ys H Q p ra e q=>by
 obtain ⟨y,rfl,h⟩:=eU e
 clear e
 have l:=(ra y B6).rep
 obtain ⟨da,A,r,m⟩:=y
 dsimp only at l h
 cases da <;> try (exact nsE h)
 rename_i xs
 obtain ⟨k,x,rfl,t,rs⟩:=l.view
 obtain ⟨ns,h1,h2⟩:=CF.mp h
 split at h2
 ·rename_i f
  cases h2
  have v:=i9 h1
  subst v
  have s:=rs.ints
  subst s
  refine ⟨k,ns,rfl,SqT.of t,f,fun a j=>⟨a,ns.foldl met [],rfl,aC,?_,fun b i n o p2=>?_⟩⟩
  ·have:=j6 ns []
   simp at this
   omega
  ·rw [cI (o.trans (bE _).symm) p2 (bU _)]
   have d:H b=none:=by
    by_cases z:b=a
    ·rw [z];exact j
    ·rw [au z] at i;exact i
   have w:=pV (K:=X.K) (Ks:=cC [⟨.tup (ns.map .int),.ref k,r,m⟩]) i (fB (K:=X.K) (H:=upd H a (pq X a (ns.foldl met []))) (srt (ns.foldl met []))) (fun c g=>by cases g)
   refine q ⟨.lst ((srt (ns.foldl met [])).map .int),.ref b,[b],.u⟩ _ ⟨(bj j).trans w.same,w.rep,fun c g=>?_,fun _=>⟨rfl,b,[],rfl,rfl,List.not_mem_nil,d⟩⟩ rfl rfl
   cases CG.mp g
   exact .inl d
 ·exact nsE h2
theorem re_ss (g:X.calm=true) (j:Gl X x) (hm:X.mg x=none) (i:bootBuiltins x=some (.builtin "sorted")) (a:Gl X y) (b:X.mg y=none) (d:bootBuiltins y=some (.type "set")) (l:RE X G0 W0 e m) (k:x ≠ "__name__") (hd:(x == ("__debug__":Str))=false) (f:y ≠ "__name__") (c:(y == ("__debug__":Str))=false) (s1:starEach [e] X.env=(false,eval e X.env) :: starEach [] X.env) (s2:starEach [.Call (.Name y p') [e] [] pos'] X.env=(false,eval (.Call (.Name y p') [e] [] pos') X.env) :: starEach [] X.env) :
  RE X G0 W0 (.Call (.Name x p) [.Call (.Name y p') [e] [] pos'] [] pos) (ak ssD (aa m ae)) :=
 ⟨PE.imp (ir (ku g) j hm i (gf (iW (tF g) a b d (lW l pG s1).h f c s1 rfl) j5 s2) k hd s2 rfl) fun σ H Q h=>(ft (r:=rSS X) cd_ss h:tCB (rSS X) (tA X.K G0 W0 (aa m ae)) σ H Q)⟩
end
end L3
end
section
namespace L3
open PySem L2
section
variable {K:FG} {G0:Gm} {W0:D->Sto->Prop} {X:Cx}
def Br (k:Key) (i:Int):EM:=aO (.val (.dk [(k,.int i)]) .u)
theorem Aw {i:Int} (j:PE X k (tC (kV key))) (l:PE X v (tC (.int i))):RE X G0 W0 (.Dict [some k] [v] pos) (Br key i):=⟨PE.imp (AR j l) fun σ H Q h=>by
 refine h.use fun G W le ρ T g o ρ' w e q=>?_
 cases e
 intro p a
 have sm:Same H (upd (upd H p (.dK [])) p (.dK [(key,.int i)])):=fun b o d=>by
  have n:b ≠ p:=fun z=>by rw [z,a] at d;cases d
  rw [au n,au n];exact d
 refine q _ _ (Wf.done (Us:=[]) (ys:=[]) (x:=⟨.dk [(key,.int i)],.ref p,[p],.u⟩) w (fun _ h=>(by cases h)) ⟨sm,.dK (L:=[]) aC rfl (.cons (L:=[]) (.int i) .nil),fun c f=>?_,fun _=>⟨rfl,p,[],rfl,rfl,(by simp),a⟩⟩)
 rw [CG.mp f];exact .inl a⟩
def Bp (ns:List Int) (i:Int):EM:=aO (.val (.dt [(ns.map Sum.inl,.int i)]) .u)
theorem Av {x1:Nat} {i:Int} (hu:X.A.units+1 < cLine) (h0:ns ≠ []) (hz:ns.length<=100) (k:es.map tQ=ns.map some) (l:PE X v (tC (.int i))):RE X G0 W0 (.Dict [some (.Tuple es x1 pos')] [v] pos) (Bp ns i):=⟨PE.imp (AQ hu h0 hz k l) fun σ H Q h=>by
 refine h.use fun G W le ρ T g o ρ' w e q=>?_
 cases e
 intro p j b d
 have nb:b ≠ p:=fun z=>by rw [z,aC] at d;cases d
 have f:H b=none:=by rw [au nb] at d;exact d
 have sm:Same H (upd (upd (upd H p (.dT [])) b (.tup (ns.map V.int))) p (.dT [(ns.map Sum.inl,.int i)])):=fun c o a=>by
  have n:c ≠ p:=fun z=>by rw [z,j] at a;cases a
  have m:c ≠ b:=fun z=>by rw [z,f] at a;cases a
  rw [au n,au m,au n];exact a
 refine q _ _ (Wf.done (Us:=[]) (ys:=[]) (x:=⟨.dt [(ns.map Sum.inl,.int i)],.ref p,[p],.u⟩) w (fun _ h=>(by cases h)) ⟨sm,.dT (L:=[]) aC rfl (.cons (L:=[]) (.int i) .nil),fun c a=>?_,fun _=>⟨rfl,p,[],rfl,rfl,(by simp),j⟩⟩)
 rw [CG.mp a];exact .inl j⟩
end
end L3
end
section
namespace L3
open PySem L2
def kP:Key->PyData
 | .inl i=>.int i
 | .inr x=>.str x
def d1 {α:Type}:List (α × D)->Option (α × Int)
 | [(k,.int i)]=>some (k,i)
 | _=>none
theorem zt {i:Int} (h:d1 l=some (k,i)):l=[(k,.int i)]:=by
 unfold d1 at h
 split at h
 ·cases h;rfl
 ·cases h
mutual
def pyN:D->Option PyData
 | .non=>some .none
 | .bl b=>some (.bool b)
 | .int i=>some (.int i)
 | .str x=>some (.str x)
 | .tup xs=>(nq xs).map .tuple
 | .dk kvs=>(d1 kvs).map fun p=>.dict [(kP p.1,.int p.2)]
 | .dt kvs=>(d1 kvs).map fun p=>.dict [(.tuple (p.1.map kP),.int p.2)]
 | _=>none
def nq:List D->Option (List PyData)
 | []=>some []
 | d :: ds=>match pyN d,nq ds with
  | some p,some ps=>some (p :: ps)
  | _,_=>none
end
def RdN (H:Hp) (v:V) (p:PyData):Prop:=∀ (X:Cx) (pins:List (Addr × Obj)) (σ:St) (s:Shared),Inv X pins σ H s->∀ u,RelV v u->∃ as,Reads s.heap u p as/\sysModules ∉ as
def RdNs (H:Hp) (a:List V) (ps:List PyData):Prop:=∀ (X:Cx) (pins:List (Addr × Obj)) (σ:St) (s:Shared),Inv X pins σ H s->∀ us,Vals a us->∃ as,ReadsAll s.heap us ps as/\sysModules ∉ as
theorem i7:∀ {a:List Key} {us:List Value},Vals (a.map kV) us->ReadsAll h us (a.map kP) []
 | [],_,.nil=>.nil
 | .inl i :: a,_,.cons r rs=>by
  obtain ⟨t,rfl⟩:=r
  exact .cons (as:=[]) (bs:=[]) (.int i t) (i7 rs)
 | .inr x :: a,_,.cons r rs=>by
  obtain ⟨t,rfl⟩:=r
  exact .cons (as:=[]) (bs:=[]) (.str x t) (i7 rs)
theorem q8 {α:Type} {k:α} {i:Int} {ps:List (α × V)} (b:∀ v L,R (.int i) v L->v=.int i) (h1:[k]=ps.map (·.1)) (h2:Reps R [.int i] (ps.map (·.2)) L):ps=[(k,.int i)]:=by
 match ps,h1,h2 with
 | [(k',v)],h1,.cons a _ =>
  have:=b _ _ a
  subst this
  cases h1
  rfl
section
variable {K:FG} {H:Hp} {d:D} {v:V} {L:List Addr}
theorem Rep.rdN (r:Rep K H d v L):∀ p,pyN d=some p->RdN H v p:=by
 refine Rep.rec (motive_1:=fun d v _ _=>∀ p,pyN d=some p->RdN H v p) (motive_2:=fun ds l _ _=>∀ ps,nq ds=some ps->RdNs H l ps) ?_ ?_ ?_ ?_ ?_ ?_ ?_ ?_ ?_ ?_ ?_ ?_ r
 ·intro p e;unfold pyN at e;cases e;intro X pins σ s I u hu;cases (show u=Value.none from hu);exact ⟨[],.none,by simp⟩
 ·intro b p e;unfold pyN at e;cases e;intro X pins σ s I u hu;cases (show u=Value.bool b from hu);exact ⟨[],.bool b,by simp⟩
 ·intro i p e;unfold pyN at e;cases e;intro X pins σ s I u hu;obtain ⟨t,rfl⟩:=hu;exact ⟨[],.int i t,by simp⟩
 ·intro x p e;unfold pyN at e;cases e;intro X pins σ s I u hu;obtain ⟨t,rfl⟩:=hu;exact ⟨[],.str x t,by simp⟩
 ·intro xs a l L h _ C p e
  unfold pyN at e
  obtain ⟨ps,e1,rfl⟩:=B9.mp e
  intro X pins σ s I u hu
  cases (show u=Value.ref a from hu)
  obtain ⟨its,D,⟨o,e,c,n,d⟩,_⟩:=I.tuple (SqT.of h)
  obtain ⟨as,q,nm⟩:=C ps e1 X pins σ s I _ D
  exact ⟨_,.tuple e c d (by simpa using q),nm⟩
 ·intro xs a l L h _ C p e;unfold pyN at e;exact nsE e
 ·intro xs a l L h _ C p e;unfold pyN at e;exact nsE e
 ·intro kvs a ps L h m rs _ p e
  unfold pyN at e
  obtain ⟨⟨k,i⟩,e1,rfl⟩:=B9.mp e
  have B:=zt e1
  subst B
  clear e e1
  have:=q8 (fun v L (q:Rep K H (.int i) v L)=>q.int_inv) m rs
  subst this
  intro X pins σ s I u hu
  cases (show u=Value.ref a from hu)
  obtain ⟨_,hm,l,y,o,es,R,g,xd,hd,_,pr,_,_⟩:=(show ObjOk X.prog X.w H s.heap a (.dK [(k,.int i)]) from I.hok a _ h)
  match l,y with
  | [(k',v')],.cons ⟨e1,e2⟩ .nil =>
   subst e1
   obtain ⟨t,rfl⟩:=e2
   generalize f:es.toList=el at pr
   cases pr with
   | cons q1 q2 q3 =>
    cases q3
    rename_i E
    refine ⟨_,.dict (as:=[]) (bs:=[]) g xd.1 hd ?_ ?_,?_⟩
    ·rw [f]
     show ReadsAll s.heap [E.key] [kP k] []
     rcases a7 q1 with ⟨j,t',rfl,A⟩ | ⟨x,t',rfl,A⟩
     ·rw [A];exact .cons (as:=[]) (bs:=[]) (.int _ _) .nil
     ·rw [A];exact .cons (as:=[]) (bs:=[]) (.str _ _) .nil
    ·rw [f]
     show ReadsAll s.heap [E.val] [.int i] []
     rw [q2];exact .cons (as:=[]) (bs:=[]) (.int _ _) .nil
    ·simp only [List.append_nil,CG]
     intro z
     rw [z] at hm
     simp at hm
 ·intro kvs a ps L h m rs _ p e
  unfold pyN at e
  obtain ⟨⟨k,i⟩,e1,rfl⟩:=B9.mp e
  have B:=zt e1
  subst B
  clear e e1
  have:=q8 (fun v L (q:Rep K H (.int i) v L)=>q.int_inv) m rs
  subst this
  intro X pins σ s I u hu
  cases (show u=Value.ref a from hu)
  obtain ⟨_,hm,xs,y,o,es,R,g,xd,hd,f,_⟩:=(show ObjOk X.prog X.w H s.heap a (.dT [(k,.int i)]) from I.hok a _ h)
  match xs,y with
  | [(k',b,v')],.cons ⟨e1,e3,e2⟩ .nil =>
   subst e1
   obtain ⟨t,rfl⟩:=e2
   obtain ⟨its,D,⟨o',O,G,S,d'⟩,_⟩:=I.tuple (SqT.of e3)
   refine ⟨_,.dict (as:=[]) (bs:=[]) g xd.1 hd ?_ ?_,?_⟩
   ·rw [f]
    show ReadsAll s.heap [.ref b] [.tuple (k.map kP)] []
    exact .cons (as:=[]) (bs:=[]) (.tuple O G d' (by simpa using i7 D)) .nil
   ·rw [f]
    show ReadsAll s.heap [.int i t] [.int i] []
    exact .cons (as:=[]) (bs:=[]) (.int _ _) .nil
   ·simp only [List.append_nil,CG]
    intro z
    rw [z] at hm
    simp at hm
 ·intros;rename_i e;unfold pyN at e;exact nsE e
 ·intro ps e;unfold nq at e;cases e;intro X pins σ s I us hu;cases hu;exact ⟨[],.nil,by simp⟩
 ·intro d v L ds l L' _ _ M N ps e
  unfold nq at e
  cases h1:pyN d with
  | none=>rw [h1] at e;exact nsE e
  | some p =>
   cases h2:nq ds with
   | none=>rw [h1,h2] at e;exact nsE e
   | some qs =>
    rw [h1,h2] at e
    cases e
    intro X pins σ s I us hu
    cases hu with
    | cons a b =>
     obtain ⟨as,F,J⟩:=M p h1 X pins σ s I _ a
     obtain ⟨bs,Q,P⟩:=N qs h2 X pins σ s I _ b
     exact ⟨_,.cons F Q,by simp [J,P]⟩
end
def jW (p:PyData):Bool:=p.showable && decide (p.depth<=16) && decide (p.shown.length<=16777216)
def pyA (d:D):Option PyData:=match pyD d with
 | some p=>if p.hasDict then none else some p
 | none=>pyN d
def pI (K:FG):List V->Hp->VK->Prop:=fun xs H Q=>(xs=[.non]/\Q (.str "None") H)\/(∃ b,xs=[.bl b]/\Q (.str (if b then "True" else "False")) H)\/(∃ i:Int,xs=[.int i]/\i.natAbs.log2 < 1920/\Q (.str (yq i)) H) \/
 (∃ t:Str,xs=[.str t]/\(reprText t).length<=sizeLine/\Q (.str (reprText t)) H) \/
 ∃ (a:Addr) (p:PyData),xs=[.ref a]/\(∀ (X:Cx) (pins:List (Addr × Obj)) (σ:St) (s:Shared),X.K=K->Inv X pins σ H s->∀ u,RelV (.ref a) u->∃ as,Reads s.heap u p as/\(p.hasDict=true->sysModules ∉ as))/\jW p=true/\Q (.str p.shown) H
theorem mD (o:X.A.guards=some []) (hu:X.A.units+64 < cLine):bZ X (.builtin "repr") (pI X.K):=by
 intro pins s σ H xs us Q I d h
 rcases h with ⟨rfl,q⟩ | ⟨b,rfl,q⟩ | ⟨i,rfl,hi,q⟩ | ⟨t,rfl,m,q⟩ | ⟨a,p,rfl,l,g,q⟩
 ·obtain ⟨u,rfl,c⟩:=dj d
  cases (show u=Value.none from c)
  exact PySem.P.repr_of_none ⟨.str "None",H,I.tok _,⟨_,rfl⟩,q⟩
 ·obtain ⟨u,rfl,c⟩:=dj d
  cases (show u=Value.bool b from c)
  exact PySem.P.repr_of_bool ⟨.str (if b then "True" else "False"),H,I.tok _,⟨_,rfl⟩,q⟩
 ·obtain ⟨u,rfl,c⟩:=dj d
  obtain ⟨t,rfl⟩:=c
  exact PySem.P.repr_of_int hi ⟨.str (yq i),H,I.tok _,⟨_,rfl⟩,q⟩
 ·obtain ⟨u,rfl,c⟩:=dj d
  obtain ⟨t',rfl⟩:=c
  exact PySem.P.repr_of_str ⟨.str _,H,I.tok _,⟨_,rfl⟩,q⟩ m
 ·obtain ⟨u,rfl,c⟩:=dj d
  obtain ⟨as,n,nm⟩:=l X pins σ s rfl I u c
  cases (show u=Value.ref a from c)
  unfold jW at g
  obtain ⟨h3,j⟩:=Bool.and_eq_true_iff.mp g
  obtain ⟨r,f⟩:=Bool.and_eq_true_iff.mp h3
  have f:=of_decide_eq_true f
  exact repr_of_reads' n r nm o (by omega) (fun _ _ e=>e) (fun h' v tk k=>⟨.str p.shown,H,I.kept k,⟨_,rfl⟩,q⟩) (by rw [sizeLine_eq];exact of_decide_eq_true j)
def shA (d:D):Option (D × Fl):=(pyA d).bind fun p=>if jW p=true then some (.str p.shown,.z) else none
def iT:D->Option (D × Fl)
 | .non=>some (.str "None",.z)
 | .bl b=>some (.str (if b then "True" else "False"),.z)
 | .int i=>if i.natAbs.log2 < 1920 then some (.str (yq i),.z) else none
 | .str t=>if (reprText t).length<=16777216 then some (.str (reprText t),.z) else none
 | .exc _ _=>none
 | d=>shA d
abbrev lT:=c1 iT
theorem Ay (r:Rep K H d v L) (e:pyA d=some p):∀ (X:Cx) (pins:List (Addr × Obj)) (σ:St) (s:Shared),X.K=K->Inv X pins σ H s->∀ u,RelV v u->∃ as,Reads s.heap u p as/\(p.hasDict=true->sysModules ∉ as):=by
 intro X pins σ s b I u hu
 unfold pyA at e
 cases h:pyD d with
 | none =>
  rw [h] at e
  obtain ⟨as,a,c⟩:=r.rdN p e X pins σ s I u hu
  exact ⟨as,a,fun _=>c⟩
 | some q =>
  rw [h] at e
  subst b
  obtain ⟨as,a⟩:=DV.reads I (r.dv q h) hu
  have e:(if q.hasDict then none else some q)=some p:=e
  cases hd:q.hasDict with
  | true=>rw [hd] at e;exact nsE e
  | false =>
   rw [hd] at e
   cases (CS e)
   exact ⟨as,a,fun z=>by rw [hd] at z;cases z⟩
theorem wx:dS K (pI K) lT:=fun ys H Q p ra e q=>by
 obtain ⟨y,rfl,f⟩:=eU e
 have h:=(ra y B6).rep
 obtain ⟨da,m,r,o⟩:=y
 dsimp only at h f
 have big:∀ a,m=.ref a->shA da=some p->pI K [m] H fun v H'=>Q v H':=fun a g f=>by
  obtain ⟨d,h1,h2⟩:=CF.mp f
  by_cases k:jW d=true
  ·rw [if_pos k] at h2
   have n:=CS h2
   refine .inr (.inr (.inr (.inr ⟨a,d,congrArg (fun x=>[x]) g,?_,k,q ⟨.str d.shown,_,[],.z⟩ H (dH (.str _)) (congrArg Prod.fst n) (congrArg Prod.snd n)⟩)))
   rw [<- g]
   exact Ay h h1
  ·rw [if_neg k] at h2;exact nsE h2
 cases da with
 | non =>
  obtain ⟨rfl,rfl⟩:=h.view
  cases f
  exact .inl ⟨rfl,q ⟨_,_,[],.z⟩ H (dH (.str _)) rfl rfl⟩
 | bl b =>
  obtain ⟨rfl,rfl⟩:=h.view
  cases f
  exact .inr (.inl ⟨b,rfl,q ⟨_,_,[],.z⟩ H (dH (.str _)) rfl rfl⟩)
 | int i =>
  obtain ⟨rfl,rfl⟩:=h.view
  have f:(if i.natAbs.log2 < 1920 then some ((.str (yq i),.z):D × Fl) else none)=some p:=f
  by_cases j:i.natAbs.log2 < 1920
  ·rw [if_pos j] at f
   cases f
   exact .inr (.inr (.inl ⟨i,rfl,j,q ⟨_,_,[],.z⟩ H (dH (.str _)) rfl rfl⟩))
  ·rw [if_neg j] at f;exact nsE f
 | str t =>
  obtain ⟨rfl,rfl⟩:=h.view
  have f:(if (reprText t).length<=16777216 then some ((.str (reprText t),.z):D × Fl) else none)=some p:=f
  by_cases j:(reprText t).length<=16777216
  ·rw [if_pos j] at f
   cases f
   exact .inr (.inr (.inr (.inl ⟨t,rfl,by rw [sizeLine_eq];exact j,q ⟨_,_,[],.z⟩ H (dH (.str _)) rfl rfl⟩)))
  ·rw [if_neg j] at f;exact nsE f
 | tup xs=>obtain ⟨a,l,g,_⟩:=h.view;exact big a g f
 | lst xs=>obtain ⟨a,l,L',g,_⟩:=h.view;exact big a g f
 | fls xs=>obtain ⟨a,l,g,_⟩:=h.view;exact big a g f
 | dk kvs=>obtain ⟨a,ps,L',g,_⟩:=h.view;exact big a g f
 | dt kvs=>obtain ⟨a,ps,L',g,_⟩:=h.view;exact big a g f
 | exc c fs=>exact nsE f
end L3
end
section
namespace L2
open PySem PyProof.Rows
section
variable {prog:Program} {w:World} {A:Around} {E:Value->Shared->Prop}
theorem sg {S I l:Addr} {items:Array Value} {R:Result->Shared->Prop} (y:A.handled=none) (h:I ≠ S) (C:l ≠ S) (x:l ≠ I) :
  ∀ (k i:Nat) (s:Shared) (ns ms:List Int),items.size - i=k->s.heap.IsListIter I l i->s.heap.IsList l items->IntsAre (items.toList.drop i) ms->SetL prog w s.heap S ns->ns.length+ms.length+1 < scanBound ->
   (∀ h' tk,SetL prog w h' S (ms.foldl met ns)->(∀ b o,b ≠ S->b ≠ I->s.heap.get? b=some o->h'.get? b=some o)->R (.ok (.ret .none)) { s with heap:=h',toks:=tk }) ->
   codeAny (model prog w) A (.builtin "set.update.loop" ⟨[.ref S,.ref I],[]⟩) R s:=by
 intro k
 induction k with
 | zero =>
  intro i s ns ms q hi f a m p g
  refine codeAny_builtin F.entry_set_update_loop ?_
  rw [Around.under_plainId F.plain_set_update_loop _]
  have e:ms=[]:=by
   rw [List.drop_eq_nil_of_le (by simp;omega)] at a
   cases a
   rfl
  subst e
  refine B0 (wpAny_pyNext_list_end (s:=s) y hi f (Array.getElem?_eq_none (by omega)) fun h' d=>?_)
  exact B4 (g h' s.toks (m.keep fun o e=>d _ _ (Ne.symm h) e) fun b o _ c e=>d _ _ c e)
 | succ k ih =>
  intro i s ns ms q hi f a m p g
  have lt:i < items.size:=by omega
  refine codeAny_builtin F.entry_set_update_loop ?_
  rw [Around.under_plainId F.plain_set_update_loop _]
  rw [List.drop_eq_getElem_cons (by simpa using lt)] at a
  generalize D:items.toList[i]=v at a
  have d:items[i]?=some v:=by rw [<- D,Array.getElem?_eq_getElem lt,Array.getElem_toList]
  cases a with
  | @cons n t _ ms' hr =>
   refine B0 (wpAny_pyNext_list_item (s:=s) hi f d fun h1 z s1=>?_)
   have u:SetL prog w h1 S ns:=m.keep fun o e=>s1.extBut _ _ (Ne.symm h) e
   have r:h1.IsList l items:=f.extBut s1.extBut x
   refine B0 (B5 (B5 (B0 ((intKind prog w).pyHash (k:=n) (intKind_is prog w n t) ?_))))
   refine mZ (s:={ s with heap:=h1,toks:=s.toks+1 }) u (by simp only [CA] at p;omega) fun b h2 s2 E=>?_
   refine B4 ⟨plainId_quiet F.plain_set_update_loop _,?_⟩
   have G:=gg ns n
   refine ih (i+1) { s with heap:=h2,toks:=s.toks+1 } (met ns n) ms' (by omega) (z.extBut s2.extBut h) (r.extBut s2.extBut C) hr E (by simp only [CA] at p;omega) fun h3 j B k3=>?_
   exact g h3 j B fun b o c1 c2 e=>k3 b o c1 c2 (s2.extBut _ _ c1 (s1.extBut _ _ c2 e))
variable {s:Shared}
theorem mB {l:Addr} {items:Array Value} {ns:List Int} {Q:Value->Shared->Prop} (B:A.handled=none) (q:s.heap.IsList l items) (hi:IntsAre items.toList ns) (J:items.size+1 < scanBound)
  (h:∀ h' tk,SetL prog w h' s.heap.objs.size (ns.foldl met [])->(∀ b o,s.heap.get? b=some o->h'.get? b=some o)->Q (.ref s.heap.objs.size) { s with heap:=h',toks:=tk }) :
  wpAny (model prog w) A (call (.type "set") [.ref l]) Q E s:=by
 obtain ⟨c,tl,t⟩:=F.called_set.mro
 have made:=F.called_set.made
 have below:=F.called_set.sub
 have j:=F.called_set.notType
 have y:=F.called_set.canCreate
 have one:=F.typeCall_set_1 (.ref l)
 obtain ⟨i,g,d,tk,os⟩:=s
 refine wpAny_call (codeAny_of_tree (B4 ⟨Code.quiet_builtin _ (by decide +kernel),codeAny_builtin F.entry_type_call ?_⟩))
 rw [Around.under_plain (weight_type_call_type "set" [.ref l] []) rfl]
 repeat (any_goals (first | assumption | wp_step))
 refine codeAny_mono (q9 (E:=E) (Q:=fun v r=>v=.ref i.objs.size/\r=⟨i.push { cls:=.type "set",dict:=none,data:=.set #[] 0 (.fresh 0 0 (cU w)) },g,d,tk,os⟩) fun o e=>by subst e;exact ⟨rfl,rfl⟩) ?_
 rintro (e | f) r m
 ·exact m
 cases f with
 | ret v =>
  obtain ⟨rfl,rfl⟩:=m
  have got:(i.push { cls:=.type "set",dict:=none,data:=.set #[] 0 (.fresh 0 0 (cU w)) }).get? i.objs.size=some { cls:=.type "set",dict:=none,data:=.set #[] 0 (.fresh 0 0 (cU w)) }:=Ch _ rfl
  have ty:(⟨i.push { cls:=.type "set",dict:=none,data:=.set #[] 0 (.fresh 0 0 (cU w)) },g,d,tk,os⟩:Shared).TypeIs (.ref i.objs.size) "set":=⟨_,got,rfl⟩
  have p:(i.push { cls:=.type "set",dict:=none,data:=.set #[] 0 (.fresh 0 0 (cU w)) }).IsList l items:=q.push _
  refine B0 (wpAny_isInstance ty sub_set_self (wpAny_ite_false rfl ?_))
  refine B0 (B5 (wpAny_callSpecial?_slot ty F.called_set.init (wpAny_call (codeAny_call_builtin F.called_set.init.plain F.entry_set_init (check_set_init_1 ty ?_)))))
  obtain ⟨⟨c2,G,I,s2⟩,h2,x,H,u⟩:=id p
  simp only at x u
  subst x u
  have C:=F.sub_list_set
  have D:=F.sub_list_frozenset
  wp_walk using wpAny_pyIter_list p
  have lt:l < i.objs.size:=by obtain ⟨_,e,_⟩:=q;exact Cf e
  refine sg (l:=l) (items:=items) (by simpa using B) (by rw [CL];exact Nat.ne_of_gt (Nat.lt_succ_self _)) (Cq lt) (by rw [CL];exact Cq (Nat.lt_succ_of_lt lt)) items.size 0 _ [] ns (by omega) ⟨_,Ch _ rfl,rfl,rfl⟩ (p.push _) (by simpa using hi) ⟨_,#[],0,_,[],B8 _ got,⟨rfl,rfl,rfl⟩,rfl,(fun e he=>by simp at he),.nil,List.Perm.refl _,by decide,rfl,⟨List.Pairwise.nil,rfl⟩⟩ (by have:=hi.length;simp at this;simp;omega) fun h' n S k=>?_
  wp_walk
  exact h h' n S fun b o e=>k b o (fun z=>by subst z;exact absurd (Cf e) (Nat.lt_irrefl _)) (fun z=>by have a:=Cf e;rw [z,CL] at a;exact absurd a (Nat.not_lt.mpr (Nat.le_succ _))) (B8 _ (B8 _ e))
 | _=>exact m.elim
end
end L2
end
section
namespace L3
open PySem L2 PyProof.Rows
section
variable {K:FG} {G0:Gm} {W0:D->Sto->Prop} {X:Cx}
def ssQL:D->Option (D × Fl)
 | .lst xs=>(bN xs).bind fun ns=>if ns.length < 64 then some (.lst ((srt (ns.foldl met [])).map .int),.u) else none
 | _=>none
abbrev xj:=c1 ssQL
def j2 (X:Cx):List V->Hp->VK->Prop:=fun xs H Q=>∃ (l:Addr) (ns:List Int),xs=[.ref l]/\SqL X.K H l (ns.map V.int)/\ns.length < 64/\∀ p,H p=none->Q (.ref p) (upd H p (pq X p (ns.foldl met [])))
theorem tG (i:X.calm=true):bZ X (.type "set") (j2 X):=by
 intro pins s σ H xs us Q I j h
 obtain ⟨l,ns,rfl,g,f,q⟩:=h
 obtain ⟨u,rfl,b⟩:=dj j
 cases (show u=Value.ref l from b)
 obtain ⟨its,r,⟨o,n,e,c,_,d⟩,hz⟩:=I.list g
 have hlen:=r.length
 refine mB (I.ok.hd i) (show s.heap.IsList l its.toArray from ⟨o,e,c,n,d⟩) (by simpa using ke r) (by simp at hlen ⊢;unfold scanBound;omega) fun h' tk S k=>?_
 exact ⟨.ref s.heap.objs.size,_,I.laid (a:=s.heap.objs.size) (o:=pq X s.heap.objs.size (ns.foldl met [])) (t':=tk) k (Co _) ⟨S,(let ⟨o,_,_,_,_,e,_⟩:=S;⟨o,e⟩),fun h1 h2 x k=>x.keep k⟩,rfl,q _ (I.hok.fresh (Co _))⟩
def AB (X:Cx):List V->Hp->VK->Prop:=fun xs H Q=>j2 X xs H fun v H1=>pH X [v] H1 Q
theorem BN:dS X.K (AB X) xj:=fun ys H Q p ra e q=>by
 obtain ⟨y,rfl,h⟩:=eU e
 clear e
 have l:=(ra y B6).rep
 obtain ⟨da,B,r,m⟩:=y
 dsimp only at l h
 cases da <;> try (exact nsE h)
 rename_i xs
 obtain ⟨k,x,A,rfl,C,t,rs⟩:=l.view
 obtain ⟨ns,h1,h2⟩:=CF.mp h
 split at h2
 ·rename_i f
  cases h2
  have v:=i9 h1
  subst v
  have s:=rs.ints
  subst s
  refine ⟨k,ns,rfl,SqL.of t,f,fun a j=>⟨a,ns.foldl met [],rfl,aC,?_,fun b i n o p2=>?_⟩⟩
  ·have:=j6 ns []
   simp at this
   omega
  ·rw [cI (o.trans (bE _).symm) p2 (bU _)]
   have d:H b=none:=by
    by_cases z:b=a
    ·rw [z];exact j
    ·rw [au z] at i;exact i
   have w:=pV (K:=X.K) (Ks:=cC [⟨.lst (ns.map .int),.ref k,r,m⟩]) i (fB (K:=X.K) (H:=upd H a (pq X a (ns.foldl met []))) (srt (ns.foldl met []))) (fun c g=>by cases g)
   refine q ⟨.lst ((srt (ns.foldl met [])).map .int),.ref b,[b],.u⟩ _ ⟨(bj j).trans w.same,w.rep,fun c g=>?_,fun _=>⟨rfl,b,[],rfl,rfl,List.not_mem_nil,d⟩⟩ rfl rfl
   cases CG.mp g
   exact .inl d
 ·exact nsE h2
theorem Ao {e:Expr} {m:EM} {x y:Str} {p a pos pos':Pos} (i:X.calm=true) (j:Gl X x) (hm:X.mg x=none) (l:bootBuiltins x=some (.builtin "sorted")) (c:Gl X y) (d:X.mg y=none) (g:bootBuiltins y=some (.type "set")) (n:RE X G0 W0 e m)
  (k:x ≠ "__name__") (hd:(x == ("__debug__":Str))=false) (b:y ≠ "__name__") (f:(y == ("__debug__":Str))=false) (s1:starEach [e] X.env=(false,eval e X.env) :: starEach [] X.env)
  (s2:starEach [.Call (.Name y a) [e] [] pos'] X.env=(false,eval (.Call (.Name y a) [e] [] pos') X.env) :: starEach [] X.env) :
  RE X G0 W0 (.Call (.Name x p) [.Call (.Name y a) [e] [] pos'] [] pos) (ak xj (aa m ae)) :=
 ⟨PE.imp (ir (ku i) j hm l (gf (iW (tG i) c d g (lW n pG s1).h b f s1 rfl) j5 s2) k hd s2 rfl) fun σ H Q h=>(ft (r:=AB X) BN h:tCB (AB X) (tA X.K G0 W0 (aa m ae)) σ H Q)⟩
end
end L3
end
section
namespace L3
open PySem L2 PyProof.Rows
end L3
end
section
namespace PyProof.Rows
open PySem
section
variable {prog:Program} {w:World} {A:Around} {E:Value->Shared->Prop} {s:Shared} {r:Addr} {a b c:Int} {t u v:Tok} {n:Nat}
theorem vR {R:Result->Shared->Prop} (g:A.handled=none) (e:IsRange s.heap r a b c t u v) (j:Builtin.Range.small a b c=true) (d:Builtin.Range.rangeSize a b c=n) (hz:n<=2 ^ 24) {S:Addr} (f:s.heap.get? S=some (seqObj "list" #[] 0))
  (h:∀ (h':Heap) (tk:Tok) (acc:Array Value) (k:Nat),(∀ b o,b ≠ S->s.heap.get? b=some o->h'.get? b=some o)->h'.get? S=some { cls:=.type "list",dict:=none,data:=.seq acc k,slots:=#[] }->ItemsOf (fun i v=>∃ t,v=.int (a+i * c) t) acc n->R (.ok (.ret (.ref S))) { s with heap:=h',toks:=tk }) :
  codeAny (model prog w) A (.builtin "list.__iadd__" ⟨[.ref S,.ref r],[]⟩) R s:=by
 refine codeAny_builtin entry_list_iadd' ?_
 rw [Around.under_plainId F.plain_list_iadd _]
 exact wpAny_extend_range g e j d hz S _ _ f h
theorem oG {Q:List Value->Shared->Prop} (l:A.handled=none) (g:IsRange s.heap r a b c t u v) (m:Builtin.Range.small a b c=true) (d:Builtin.Range.rangeSize a b c=n) (hz:n<=2 ^ 24)
  (h:∀ (h':Heap) (tk:Tok) (acc:Array Value),(∀ b o,s.heap.get? b=some o->h'.get? b=some o)->ItemsOf (fun i v=>∃ t,v=.int (a+i * c) t) acc n->Q acc.toList { s with heap:=h',toks:=tk }):wpAny (model prog w) A (collect (.ref r)) Q E s:=by
 unfold collect
 refine B0 (wpAny_runValue (codeAny_builtin entry_proto_collect' ?_))
 unfold Builtin.«proto.collect»
 refine B0 (wpAny_newList (B4 ⟨Code.quiet_builtin _ (by decide +kernel),vR (s:={ s with heap:=s.heap.push (seqObj "list" #[] 0) }) l (B8 _ g) m d hz (Ch _ rfl) fun h' tk acc k f j hi=>?_⟩))
 exact B0 (wpAny_load j (B4 (h h' tk acc (fun b o e=>f b o (Cq (Cf e)) (B8 _ e)) hi)))
theorem yt {Q:Value->Shared->Prop} (k:A.handled=none) (f:IsRange s.heap r a b c t u v) (m:Builtin.Range.small a b c=true) (g:Builtin.Range.rangeSize a b c=n) (hz:n<=2 ^ 24)
  (h:∀ (h':Heap) (tk:Tok) (acc:Array Value),(∀ b o,s.heap.get? b=some o->h'.get? b=some o)->ItemsOf (fun i v=>∃ t,v=.int (a+i * c) t) acc n->Q (.ref h'.objs.size) { s with heap:=h'.push { cls:=.type "tuple",data:=.seq acc },toks:=tk }):codeAny (model prog w) A (.call (.builtin "tuple.__new__") ⟨[.type "tuple",.ref r],[]⟩) (wants Q E) s:=by
 refine codeAny_of_tree (B0 (wpAny_of_eq (F.newCall_tuple_1 _) (B4 ⟨Code.quiet_builtin _ (by decide +kernel),codeAny_builtin F.entry_tuple_new ?_⟩)))
 rw [Around.under_plainId F.plain_tuple_new _]
 have h1:=sub_tuple_self
 have h2:=init_tuple_lookup
 have h3:=madeHere_tuple
 have l:s.TypeIs (.ref r) "range":=⟨_,f,rfl⟩
 wp_walk using wpAny_typeOf l,oG (A:=A.in1) k f m g hz
 intro h' tk acc j d
 unfold Builtin.Tuple.tupleExact
 have e:acc.toList.toArray=acc:=by simp
 refine B0 (B4 (B0 (wpAny_newObj_type ?_ ?_)))
 ·rw [e]
  exact B4 (h h' tk acc j d)
 ·rw [e]
  show acc.size<=sizeLine
  rw [d.1,sizeLine_eq]
  omega
theorem kr {Q:Value->Shared->Prop} (k:A.handled=none) (g:IsRange s.heap r a b c t u v) (l:Builtin.Range.small a b c=true) (e:Builtin.Range.rangeSize a b c=n) (hz:n<=2 ^ 24)
  (h:∀ (h':Heap) (tk:Tok) (acc:Array Value),(∀ b o,s.heap.get? b=some o->h'.get? b=some o)->ItemsOf (fun i v=>∃ t,v=.int (a+i * c) t) acc n->Q (.ref h'.objs.size) { s with heap:=h'.push { cls:=.type "tuple",data:=.seq acc },toks:=tk }):wpAny (model prog w) A (call (.type "tuple") [.ref r]) Q E s:=by
 refine callType_codes (Q₁:=fun o s1=>s1.TypeIs o "tuple"/\Q o s1) F.called_tuple (F.typeCall_tuple_1 _) F.entry_object_init (yt k g l e hz fun h' tk acc f hi=>⟨⟨_,Ch _ rfl,rfl⟩,h h' tk acc f hi⟩) fun o s1 ⟨d,j⟩=>?_
 exact ⟨d,F.args_object_init_2 o _,object_init_meets F.called_tuple.init.lookup F.called_tuple.made (by decide) prog w A.in1 _ s1 ⟨d,rfl,j⟩⟩
end
end PyProof.Rows
end
section
namespace L2
open PySem PySem.Spec PyProof.Rows
section
variable {X:Cx}
def yT (ta:TA):TE:=fun σ H Q=>ta σ H fun a H1=>∃ j:Int,a=[.int j]/\-(2 ^ 62)<=j/\j<=16777216/\∀ p,H1 p=none->Q (.ref p) (upd H1 p (.tup (kH j.toNat)))
theorem xX {a:Expr} {ta:TA} {z p2 d c:Pos} (B:X.calm=true) (g:Gl X "tuple") (f:X.mg "tuple"=none) (A:Gl X "range") (hm:X.mg "range"=none) (l:bootBuiltins "tuple"=some (.type "tuple")) (J:PA X [a] ta)
  (p:starEach [.Call (.Name "range" p2) [a] [] c] X.env=[(false,eval (.Call (.Name "range" p2) [a] [] c) X.env)]) (i:starEach [a] X.env=[(false,eval a X.env)]) :
  PE X (.Call (.Name "tuple" z) [.Call (.Name "range" p2) [a] [] c] [] d) (yT ta):=by
 intro pins s σ H Q I h
 refine Call_ (fO I g f l (PyProof.Rows.callWith_type1 ?_ p rfl))
 rw [p]
 change wpAny _ _ (spliced ((false,eval (.Call (.Name "range" p2) [a] [] c) X.env) :: [])) _ _ s
 refine Calls.spliced_cons (Call_ (fO I A hm boot_range (PyProof.Rows.callWith_type1 (thn (J c pins s σ H _ I h) fun us s1 ⟨K,H1,E,x,j,e,h1,h2,q⟩=>?_) i rfl)))
 subst e
 obtain ⟨u,rfl,t,rfl⟩:=dj x
 refine call_range_1 (Calls.spliced_nil ?_)
 have C:Inv X pins σ H1 { s1 with heap:=s1.heap.push { cls:=.type "range",data:=.fields #[.int 0 s1.toks,.int j t,.int 1 (s1.toks+1)] },toks:=s1.toks+1+1 }:=E.kept fun b o e=>B8 _ e
 have D:Builtin.Range.rangeSize 0 j 1=(j.toNat:Int):=by rw [rangeSize_one];split <;> omega
 refine kr (n:=j.toNat) (I.ok.hd B) (IsRange.new ..) (small_one (by decide) (by decide) h1 (by omega)) D (by omega) fun h' tk acc y hi=>?_
 have G:=sA (n:=j.toNat) (acc:=acc.toList) (by simpa using hi.1) fun k v F=>hi.2 k v (by simpa using F)
 have hz:(kH j.toNat).length<=sizeLine:=by
  rw [sizeLine_eq];simp [kH];omega
 have r:=C.kept (t':=tk) y
 have m:=r.laid (t':=tk) (h':=h'.push { cls:=.type "tuple",data:=.seq acc.toList.toArray }) (fun b o e=>B8 _ e) (Co _) (show ObjOk X.prog X.w _ _ _ (.tup (kH j.toNat)) from ⟨hz,acc.toList,G,IsTupD.new _ _⟩)
 rw [show acc.toList.toArray=acc by simp] at m
 exact ⟨.ref _,_,m,rfl,q _ (r.hok.fresh (Co _))⟩
end
end L2
namespace L3
open PySem L2
section
variable {K:FG} {G G0:Gm} {W W0:D->Sto->Prop} {H H':Hp} {σ:St} {ρ ρ':Sto} {T T':List It3} {g:Nat->Option It3} {X:Cx}
def trngQ:D->Option (D × Fl)
 | .int j=>if decide (-4611686018427387904<=j/\j<=16777216)=true then some (.tup (aH 0 j.toNat),.z) else none
 | _=>none
abbrev qJ:=c1 trngQ
theorem wZ {ms:M3 (List R3)} {Q:VK} (h:tE K G0 W0 (ak qJ ms) σ H Q):yT (tA K G0 W0 ms) σ H Q:=by
 refine ft (r:=fun xs H Q=>∃ j:Int,xs=[.int j]/\-(2 ^ 62)<=j/\j<=16777216/\∀ p,H p=none->Q (.ref p) (upd H p (.tup (kH j.toNat)))) (fun ys H Q p ra e q=>?_) h
 obtain ⟨y,rfl,e⟩:=eU e
 have d:=(ra y B6).rep
 obtain ⟨da,l,k,i⟩:=y
 dsimp only at d e
 cases da with
 | int j =>
  obtain ⟨rfl,rfl⟩:=d.view
  have e:(if decide (-4611686018427387904<=j/\j<=16777216)=true then some (D.tup (aH 0 j.toNat),Fl.z) else none)=some p:=e
  by_cases b:decide (-4611686018427387904<=j/\j<=16777216)=true
  ·rw [if_pos b] at e
   cases e
   have b:=of_decide_eq_true b
   exact ⟨j,rfl,by omega,b.2,fun a g=>q ⟨.tup (aH 0 j.toNat),.ref a,[],.z⟩ _ (pU g (uS _) fun c f=>by cases f) rfl rfl⟩
  ·rw [if_neg b] at e;exact nsE e
 | _=>exact nsE e
theorem xG {a:Expr} {ms:M3 (List R3)} {i p2 c b:Pos} (j:X.calm=true) (e:Gl X "tuple") (d:X.mg "tuple"=none) (g:Gl X "range") (hm:X.mg "range"=none) (k:RA X G0 W0 [a] ms)
  (l:starEach [.Call (.Name "range" p2) [a] [] b] X.env=[(false,eval (.Call (.Name "range" p2) [a] [] b) X.env)]) (f:starEach [a] X.env=[(false,eval a X.env)]) :
  RE X G0 W0 (.Call (.Name "tuple" i) [.Call (.Name "range" p2) [a] [] b] [] c) (ak qJ ms):=⟨PE.imp (xX j e d g hm mM k.h l f) fun _ _ _ h=>wZ h⟩
def BndH (K:FG) (tg:TG) (bnd:D->Sto->Option Sto):Prop:=∀ (G:Gm) (H:Hp) (σ:St) (ρ ρ1:Sto) (T:List It3) (g:Nat->Option It3) (w:It3) (Q:St->Hp->Prop),w.f=.z->Wf K G H σ ρ (w :: T) g->bnd w.d ρ=some ρ1->(∀ H2 g2,Wf K G H2 σ ρ1 T g2->Q σ H2)->tg w.v σ H Q
def dE (i j:Nat) (d:D) (ρ:Sto):Option Sto:=match (ρ[j]?).join,(ρ[i]?).join with
 | some (k,.z),some (l,.u)=>(iQ l [k,d]).map fun p=>ρ.set i (some (p.1,.u))
 | _,_=>none
theorem rO {t:tY} (o:MutD K (fD t) iQ) (i j:Nat):BndH K (wa (gh i) (gh j) t) (dE i j):=fun G H σ ρ ρ1 T g w Q hz wf e q=>by
 unfold dE at e
 cases b:(ρ[j]?).join with
 | none=>rw [b] at e;exact nsE e
 | some pj =>
  obtain ⟨k,x⟩:=pj
  rw [b] at e
  cases x with
  | z =>
   cases a:(ρ[i]?).join with
   | none=>rw [a] at e;exact nsE e
   | some pi =>
    obtain ⟨l,fl⟩:=pi
    rw [a] at e
    cases fl with
    | u =>
     obtain ⟨p,e1,rfl⟩:=B9.mp e
     obtain ⟨y,s,f,h,m⟩:=wf.slot b
     obtain ⟨z,I,E,F,d⟩:=wf.slot a
     refine ⟨z.v,d,y.v,m,?_⟩
     have:=Wf.changed (us:=[w]) (as:=[y,w]) (Q:=fun _ H'=>Q σ H') o wf a d (fun u hu=>by
      rcases Cd.mp hu with rfl | hu
      ·exact ⟨.inl ⟨j,s⟩,h⟩
      ·rw [CG.mp hu]
       exact ⟨.inr (Ca _ B6),hz⟩) (by rw [Cs,Cs,List.map_nil,f];exact e1) fun A H' ⟨n,r,C,J⟩=>q H' r (C.sub (Cl n T))
     obtain ⟨D,A,c,B⟩:=this
     cases c
     exact B
    | _=>exact nsE e
  | _=>exact nsE e
theorem wT {t:tY} {m:EM} {E:Ends} {i j k:Nat} (D:MutD K (fD t) iQ) (h:tS K G0 W0 (io (eW 2 (aY (dE i j) (aY (dE i k) d6))) m) E σ H):sd (tE K G0 W0 m) (yH K 2 (rD (wa (gh i) (gh j) t) (rD (wa (gh i) (gh k) t) BD))) E σ H:=by
 refine h.use fun G W le ρ T g r ρ' w e q=>?_
 refine tE.seq le w e q.err fun ra ρ1 e1 v H1 ⟨Ts,g1,N,a1⟩=>?_
 obtain ⟨p,ρ2,g2,x,Y,R,f1,_,_,X⟩:=a1.take N e1
 have C:Wf K G H1 σ ρ2 (b7 x :: T) g2:=Wf.lowT (Ts:=[x]) R
 obtain ⟨ρ3,b,S⟩:=B9.mp Y
 cases S
 rw [<- X]
 rw [<- f1] at b
 have hz:(b7 x).f=.z:=rfl
 change (eW 2 (aY (dE i j) (aY (dE i k) d6))) (b7 x).d ρ2=some ρ' at b
 change yH K 2 _ (b7 x).v σ H1 _
 generalize b7 x=y at *
 have I:=(C.okT y B6).rep
 obtain ⟨Z,vy,J,F⟩:=y
 dsimp only at I b hz ⊢
 cases Z with
 | tup xs =>
  obtain ⟨a,L,rfl,U,rs⟩:=I.view
  obtain ⟨ws,h1,h3,n⟩:=Reps.split rs
  have b:(if xs.length=2 then (aY (dE i j) (aY (dE i k) d6)) xs ρ2 else none)=some ρ':=b
  by_cases s:xs.length=2
  ·rw [if_pos s] at b
   refine ⟨a,L,rfl,SqT.of U,by rw [<- h3,Ci,<- s,<- h1,Ci],?_⟩
   have M:Wf K G H1 σ ρ2 (ws ++ (⟨.tup xs,.ref a,J,F⟩ :: T)) g2:=C.pushAll fun u hu=>⟨(n u hu).1,(n u hu).2.1,fun c V=>C.kids (ys:=[⟨.tup xs,.ref a,J,F⟩]) (fun y O=>.inr (by rw [CG.mp O];exact B6)) ⟨_,B6,(n u hu).2.2 c V,fun h=>absurd hz h⟩⟩
   have B:Wf K G H1 σ ρ2 (ws ++ T) g2:=M.sub ((List.Sublist.refl ws).append (List.sublist_cons_self _ _))
   rw [<- h3]
   rw [<- h1] at b
   match ws,n,B,b with
   | [],_,_,b=>exact nsE b
   | [w],_,_,b =>
    have b:(match dE i j w.d ρ2 with | some ρ1=>aY (dE i k) d6 [] ρ1 | none=>none)=some ρ':=b
    cases o:dE i j w.d ρ2 with
    | none=>rw [o] at b;exact nsE b
    | some r1=>rw [o] at b;exact nsE b
   | [w,l],n,B,b =>
    have b:(match dE i j w.d ρ2 with | some ρ1=>(match dE i k l.d ρ1 with | some ρ3=>some ρ3 | none=>none) | none=>none)=some ρ':=b
    cases o:dE i j w.d ρ2 with
    | none=>rw [o] at b;exact nsE b
    | some r1 =>
     rw [o] at b
     dsimp only at b
     cases A:dE i k l.d r1 with
     | none=>rw [A] at b;exact nsE b
     | some r2 =>
      rw [A] at b
      cases b
      exact ⟨w.v,[l.v],rfl,rO D i j G H1 σ ρ2 r1 (l :: T) g2 w _ (n w B6).1 B o fun H2 g3 P=>⟨l.v,[],rfl,rO D i k G H2 σ r1 ρ' T g3 l _ (n l (B7 _ B6)).1 P A fun H3 g4 Q=>⟨rfl,q _ _ _ Q⟩⟩⟩
   | w :: l :: w'' :: ws,_,_,b =>
    exact absurd s (by rw [<- h1];simp)
  ·rw [if_neg s] at b;exact nsE b
 | _=>exact nsE b
theorem xx (i j k:Nat) {x y z:Str} {b p2 f c a d l pos:Pos} {n:Nat} {e:Expr} {m:EM} {t:tY} (r:X.calm=true) (s:MutD X.K (fD t) iQ) (o:tZ X t) (p:PE X (.Name x b) (gh i)) (q:PE X (.Name y p2) (gh j)) (g:PE X (.Name x c) (gh i)) (hz:PE X (.Name z a) (gh k)) (he:RE X G0 W0 e m)
  (h1:swapsWithSole [.Tuple [.Subscript (.Name x b) (.Name y p2) f,.Subscript (.Name x c) (.Name z a) d] n l] e pos.line X.env=pure false) (h2:swappedStores [.Tuple [.Subscript (.Name x b) (.Name y p2) f,.Subscript (.Name x c) (.Name z a) d] n l] e X.env=pure none) :
  RS X G0 W0 (.Assign [.Tuple [.Subscript (.Name x b) (.Name y p2) f,.Subscript (.Name x c) (.Name z a) d] n l] e pos) (io (eW 2 (aY (dE i j) (aY (dE i k) d6))) m) :=
 ⟨PS.imp (pK he.h (pO r (fE (pP p q o) (fE (pP g hz o) lZ))) h1 h2) fun _ _ _ h=>wT s h⟩
end
end L3
end
section
namespace Bn
open PySem L2 L3
abbrev Pd (p:Int × Int):L3.D:=.tup [.int p.1,.int p.2]
theorem bH {bnd:L3.D->Sto->Option Sto} {b:SM} (P:Nat->Sto->Prop):∀ {ds:List L3.D} {ρ:Sto} {k:Nat},P k ρ->(∀ i d ρ,ds[i]?=some d->P (k+i) ρ->∃ ρ1 ρ2,bnd d ρ=some ρ1/\(b ρ1=some (.ok .nx,ρ2)\/b ρ1=some (.ok .ct,ρ2))/\P (k+i+1) ρ2)->∃ ρ',b8 bnd b ds ρ=some (.ok .nx,ρ')/\P (k+ds.length) ρ'
 | [],ρ,k,h0,_=>⟨ρ,rfl,h0⟩
 | d :: ds,ρ,k,h0,hs=>by
  obtain ⟨ρ1,ρ2,e1,a,h1⟩:=hs 0 d ρ rfl h0
  obtain ⟨ρ',c,h3⟩:=bH P (ds:=ds) (ρ:=ρ2) (k:=k+1) h1 fun i d ρ hd e=>by
   have:=hs (i+1) d ρ (by simpa using hd) (by rwa [show k+(i+1)=k+1+i by omega])
   rwa [show k+(i+1)+1=k+1+i+1 by omega] at this
  refine ⟨ρ',?_,by rw [CA,show k+(ds.length+1)=k+1+ds.length by omega];exact h3⟩
  unfold b8
  simp only [e1]
  rcases a with a | a <;> simp only [ac,a,c]
theorem mr {bnd:L3.D->Sto->Option Sto} {b:SM} (P:Nat->Sto->Prop) (E:Nat->L3.D->Fl->Sto->Prop):∀ {ds:List L3.D} {ρ:Sto} {k:Nat},P k ρ ->
  (∀ i d ρ,ds[i]?=some d->P (k+i) ρ->∃ ρ1 ρ2,bnd d ρ=some ρ1/\(((b ρ1=some (.ok .nx,ρ2)\/b ρ1=some (.ok .ct,ρ2))/\P (k+i+1) ρ2)\/∃ r f,b ρ1=some (.ok (.rt r f),ρ2)/\E (k+i) r f ρ2)) ->
  ∃ ρ',(b8 bnd b ds ρ=some (.ok .nx,ρ')/\P (k+ds.length) ρ')\/∃ i r f,i < ds.length/\b8 bnd b ds ρ=some (.ok (.rt r f),ρ')/\E (k+i) r f ρ'
 | [],ρ,k,h0,_=>⟨ρ,.inl ⟨rfl,h0⟩⟩
 | d :: ds,ρ,k,h0,hs=>by
  obtain ⟨ρ1,ρ2,e1,h1⟩:=hs 0 d ρ rfl h0
  rcases h1 with ⟨a,h1⟩ | ⟨r,f,a,h1⟩
  ·obtain ⟨ρ',h3⟩:=mr P E (ds:=ds) (ρ:=ρ2) (k:=k+1) h1 fun i d ρ hd g=>by
    have:=hs (i+1) d ρ (by simpa using hd) (by rwa [show k+(i+1)=k+1+i by omega])
    rwa [show k+(i+1)=k+1+i by omega] at this
   have e:b8 bnd b (d :: ds) ρ=b8 bnd b ds ρ2:=by
    conv=>lhs;unfold b8
    simp only [e1]
    rcases a with a | a <;> simp only [ac,a]
   rcases h3 with ⟨c,h3⟩ | ⟨i,r,f,hi,c,h3⟩
   ·exact ⟨ρ',.inl ⟨e.trans c,by rw [CA,show k+(ds.length+1)=k+1+ds.length by omega];exact h3⟩⟩
   ·exact ⟨ρ',.inr ⟨i+1,r,f,by simp;omega,e.trans c,by rw [show k+(i+1)=k+1+i by omega];exact h3⟩⟩
  ·refine ⟨ρ2,.inr ⟨0,r,f,by simp,?_,h1⟩⟩
   unfold b8
   simp only [e1,ac,a,aO]
theorem cK {lo:Int} {n i:Nat} {d:L3.D} (h:(aH lo n)[i]?=some d):i < n/\d=.int (lo+i):=by
 unfold aH at h
 rw [Cn,B9] at h
 obtain ⟨j,h1,rfl⟩:=h
 have h2:=Cj.mp h1
 obtain ⟨h3,a⟩:=h2
 simp at h3 a
 subst a
 exact ⟨h3,rfl⟩
theorem a8 {lo:Int} {n:Nat}:(aH lo n).length=n:=by unfold aH;simp
theorem yN {xs:List L3.D} {m:Nat} (h:m<=xs.length):cT xs none (some (m:Int))=xs.take m:=by
 have e1:HT.sIx xs.length 0 none=0:=rfl
 have a:HT.sIx xs.length xs.length (some (m:Int))=m:=by
  simp only [HT.sIx]
  split <;> omega
 unfold cT
 rw [e1,a]
 simp
theorem Small.sub {p q:Pt} (b:Small p) (a:Small q):(-18446744073709551616 < q.1 - p.1/\q.1 - p.1 < 18446744073709551616)/\(-18446744073709551616 < q.2 - p.2/\q.2 - p.2 < 18446744073709551616):=by
 obtain ⟨a1,a2,e,c⟩:=b
 obtain ⟨b1,b2,f,d⟩:=a
 exact ⟨⟨by omega,by omega⟩,⟨by omega,by omega⟩⟩
theorem rW {c:M3 Bool} {b:SM} (P:Nat->Sto->Prop) (Q:Sto->Prop) {n:Nat} {ρ:Sto} (h0:P n ρ)
  (k:∀ n ρ,P n ρ->(∃ ρ1,c ρ=some (.ok false,ρ1)/\Q ρ1)\/∃ ρ1 ρ2 m,c ρ=some (.ok true,ρ1)/\(b ρ1=some (.ok .nx,ρ2)\/b ρ1=some (.ok .ct,ρ2))/\m < n/\P m ρ2):∃ ρ',fv c b ρ=some (.ok .nx,ρ')/\Q ρ':=by
 have main:∀ n ρ,P n ρ->∃ ρ',bK c b (n+1) ρ=some (.ok .nx,ρ')/\Q ρ':=by
  intro n
  induction n using Nat.strongRecOn with
  | _ n ih =>
   intro ρ j
   rcases k n ρ j with ⟨ρ1,e1,d⟩ | ⟨ρ1,ρ2,m,e1,a,hm,i⟩
   ·refine ⟨ρ1,?_,d⟩
    unfold bK
    simp [ac,e1,aO]
   ·obtain ⟨ρ',g,d⟩:=ih m hm ρ2 i
    refine ⟨ρ',?_,d⟩
    have f:=iL (show m+1<=n by omega) g
    unfold bK
    rcases a with a | a <;> simp [ac,e1,a,f]
 obtain ⟨ρ',e,d⟩:=main n ρ h0
 refine ⟨ρ',?_,d⟩
 unfold fv
 have h:∃ n r,bK c b n ρ=some r:=⟨_,_,e⟩
 rw [dif_pos h]
 have a:=Classical.choose_spec (Classical.choose_spec h)
 have g:=iL (Nat.le_max_left (n+1) (Classical.choose h)) e
 have f:=iL (Nat.le_max_right (n+1) (Classical.choose h)) a
 rw [g] at f
 exact f.symm
theorem aj {a b:SM} {ρ ρ1:Sto} {r:Option (Except L3.D Flw × Sto)} (h1:a ρ=some (.ok .nx,ρ1)) (h2:b ρ1=r):aD a b ρ=r:=by
 simp only [aD,ac,h1]
 exact h2
theorem fT {bnd:L3.D->Sto->Option Sto} {c:M3 Bool} {elt:EM} (P:Sto->Prop) (g:L3.D->Bool) (f:L3.D->L3.D):∀ {ds:List L3.D} {τ:Sto},P τ ->
  (∀ d ∈ ds,∀ τ,P τ->∃ τ1 τ2,bnd d τ=some τ1/\c τ1=some (.ok (g d),τ2)/\(g d=false->P τ2)/\(g d=true->∃ r τ3 p τ4,elt τ2=some (.ok r,τ3)/\cw r τ3=some (.ok p,τ4)/\p.1=f d/\P τ4)) ->
  ∃ τ',bz bnd c elt ds τ=some (.ok ((ds.filter g).map f),τ')/\P τ'
 | [],τ,h0,_=>⟨τ,rfl,h0⟩
 | d :: ds,τ,h0,hs=>by
  obtain ⟨τ1,τ2,e1,b,hf,j⟩:=hs d B6 τ h0
  cases a:g d with
  | false =>
   obtain ⟨τ',e,i⟩:=fT P g f (ds:=ds) (τ:=τ2) (hf a) fun d hd=>hs d (B7 _ hd)
   refine ⟨τ',?_,i⟩
   unfold bz
   rw [a] at b
   simp [e1,ac,b,e,List.filter_cons,a]
  | true =>
   obtain ⟨r,τ3,p,τ4,m,l,k,h⟩:=j a
   obtain ⟨τ',e,i⟩:=fT P g f (ds:=ds) (τ:=τ4) h fun d hd=>hs d (B7 _ hd)
   refine ⟨τ',?_,i⟩
   unfold bz
   rw [a] at b
   simp [e1,ac,b,m,l,e,List.filter_cons,a,aO,k]
abbrev Tri:=Nat × Nat × Nat
def kG (i j m:Nat):List Tri:=(List.range m).map fun k=>(i,j,j+1+k)
def iR (n i m:Nat):List Tri:=(List.range m).flatMap fun j=>kG i (i+1+j) (n - (i+1+j+1))
def lR (n m:Nat):List Tri:=(List.range m).flatMap fun i=>iR n i (n - (i+1))
def iM (n:Nat):List Tri:=lR n n
theorem ng (i j m:Nat):(kG i j m).length=m:=by simp [kG]
theorem k4 (n i m:Nat):iR n i (m+1)=iR n i m ++ kG i (i+1+m) (n - (i+1+m+1)):=by simp [iR,List.range_succ,List.flatMap_append]
theorem k6 (n m:Nat):lR n (m+1)=lR n m ++ iR n m (n - (m+1)):=by simp [lR,List.range_succ,List.flatMap_append]
theorem vC {i j m:Nat} {t:Tri} (h:t ∈ kG i j m):t.1=i/\t.2.1=j/\j < t.2.2/\t.2.2 < j+1+m:=by
 obtain ⟨k,a,rfl⟩:=Cm.mp h
 rw [List.mem_range] at a
 exact ⟨rfl,rfl,by show j < j+1+k;omega,by show j+1+k < j+1+m;omega⟩
theorem nM {n:Nat} {t:Tri} (h:t ∈ iM n):t.1 < t.2.1/\t.2.1 < t.2.2/\t.2.2 < n:=by
 obtain ⟨i,hi,h⟩:=CP.mp h
 obtain ⟨j,a,h⟩:=CP.mp h
 rw [List.mem_range] at hi a
 obtain ⟨h1,h2,h3,b⟩:=vC h
 exact ⟨by omega,by omega,by omega⟩
theorem qP (n i m:Nat):(iR n i m).length<=m * n:=by
 induction m with
 | zero=>simp [iR]
 | succ m ih=>rw [k4,Cz,ng,Nat.succ_mul];omega
theorem xB (n m:Nat):(lR n m).length<=m * (n * n):=by
 induction m with
 | zero=>simp [lR]
 | succ m ih =>
  rw [k6,Cz,Nat.succ_mul]
  have:=qP n m (n - (m+1))
  have h2:(n - (m+1)) * n<=n * n:=Nat.mul_le_mul (by omega) (Co _)
  omega
theorem pE {n m:Nat} (a:n<=25) (hm:m<=25):(lR n m).length<=15625:=by
 have h1:=xB n m
 have h2:n * n<=25 * 25:=Nat.mul_le_mul a a
 have h3:m * (n * n)<=25 * (25 * 25):=Nat.mul_le_mul hm h2
 omega
theorem pD {n i m:Nat} (a:n<=25) (hm:m<=25):(iR n i m).length<=625:=by
 have h1:=qP n i m
 have h2:m * n<=25 * 25:=Nat.mul_le_mul hm a
 omega
abbrev Td (t:Tri):L3.D:=.tup [.int t.1,.int t.2.1,.int t.2.2]
abbrev Shd (ps:List Pt):L3.D:=.tup (ps.map Pd)
theorem aQ {im:IM} {bnd:L3.D->Sto->Option Sto} {c:M3 Bool} {elt:EM} {ix:List (Option Nat)} {ρ ρ1 ρ2 τ:Sto} {rs:List R3} {ds out:List L3.D} (h1:im ρ=some (.ok (rs,ds),ρ1)) (h2:bz bnd c elt ds (qp ix (aB bX (us ρ1 (pls rs)) ρ1))=some (.ok out,τ)) (h3:ds.length < 16777216) (a:uncap ix τ (aB bX (us ρ1 (pls rs)) ρ1)=some ρ2) :
  bB im bnd c elt ix ρ=some (.ok (.val (.lst out) .u),aB eD (us ρ1 (pls rs)) ρ2):=by
 simp [bB,ac,h1,h2,h3,a]
theorem oY:∀ {ds:List L3.D},(∀ d ∈ ds,d=.bl true)->gl ds=some (List.replicate ds.length true)
 | [],_=>rfl
 | d :: ds,h=>by
  have h1:=h d B6
  subst h1
  have h2:=oY fun d hd=>h d (B7 _ hd)
  simp [gl,h2,List.replicate_succ]
theorem lH {ds:List L3.D} (h:∀ d ∈ ds,d=.bl true):BZ (.lst ds)=some (.bl true,.z):=by
 simp [BZ,oY h]
theorem rR {xs:List L3.D} {i:Nat} {d:L3.D} (h:xs[i]?=some d):L2.atI xs (i:Int)=some d:=by
 obtain ⟨h1,h2⟩:=Cj.mp h
 simp [L2.atI,ixN,h1,h2]
theorem tU {ps:List Pt} {i:Nat} {p:Pt} (h:ps[i]?=some p):L2.atI (ps.map Pd) (i:Int)=some (Pd p):=rR (by simp [h])
theorem vQ {f:List L3.D->Option (List L3.D)} {ms:M3 (List R3)} {ρ ρ1 ρ2:Sto} {rs:List R3} {ds xs:List L3.D} (h1:ms ρ=some (.ok rs,ρ1)) (h2:cv rs ρ1=some (.ok ds,ρ2)) (h3:f ds=some xs):bx f ms ρ=some (.ok ([],xs),ρ2):=by
 simp [bx,ac,h1,h2,h3,aR]
theorem lS {a b:Int} (e:-1000<=a/\a<=1000) (f:-1000<=b/\b<=1000) {n:Nat} (d:(b - a).toNat=n):iS [.int a,.int b]=some (aH a n):=by
 have lm:fh a=true:=Ct (by omega)
 have c:fh b=true:=Ct (by omega)
 show (if (fh a && fh b)=true then some (aH a (b - a).toNat) else none)=_
 rw [lm,c,d]
 exact if_pos rfl
theorem bS {b:Int} (d:-1000<=b/\b<=1000) {n:Nat} (c:b.toNat=n):cz [.int b]=some (aH 0 n):=by
 have a:fh b=true:=Ct (by omega)
 show (if (fh b)=true then some (aH 0 b.toNat) else none)=_
 rw [a,c]
 exact if_pos rfl
end Bn
end
section
namespace Bn
open PySem L2 L3
section
variable {α:Type} {ρ ρ1 ρ2 ρ3:Sto} {ma mb mc m:EM} {ms:M3 (List R3)} {ra rb r:R3} {rs:List R3} {da db d:L3.D} {ds:List L3.D} {fl:Fl} {i n np:Nat} {sa sb:SM} {c cc:M3 Bool} {b b2:Bool} {x:Option (Except L3.D Flw × Sto)} {y:Option (Except L3.D R3 × Sto)}
theorem aq {p:L3.D × Fl} (h:(ρ[i]?).join=some p):ab i ρ=some (.ok (.pl i),ρ):=by simp [ab,h]
theorem i_c:mC d ρ=some (.ok (.val d .z),ρ):=rfl
theorem bG {f:L3.D->L3.D->Option (L3.D × Fl)} (h1:ma ρ=some (.ok ra,ρ1)) (h2:mb ρ1=some (.ok rb,ρ2)) (h3:der ra ρ2=some (.ok da,ρ2)) (b:der rb ρ2=some (.ok db,ρ2)) (a:f da db=some (d,fl)):ag f ma mb ρ=some (.ok (.val d fl),ρ2):=by
 simp only [ag,ac,h1,h2,h3,b,aR,a,CD]
theorem mm {f:L3.D->Option (L3.D × Fl)} (h1:ma ρ=some (.ok ra,ρ1)) (h3:der ra ρ1=some (.ok da,ρ1)) (a:f da=some (d,fl)):mUn f ma ρ=some (.ok (.val d fl),ρ1):=by
 simp only [mUn,ac,h1,h3,aR,a,CD]
theorem aX {f:List L3.D->Option (L3.D × Fl)} (h1:ms ρ=some (.ok rs,ρ1)) (h3:cv rs ρ1=some (.ok ds,ρ1)) (a:f ds=some (d,fl)):ak f ms ρ=some (.ok (.val d fl),ρ1):=by
 simp only [ak,ac,h1,h3,aR,a,CD]
theorem aS:ae ρ=some (.ok [],ρ):=rfl
theorem am (h1:m ρ=some (.ok r,ρ1)) (h2:ms ρ1=some (.ok rs,ρ2)):aa m ms ρ=some (.ok (r :: rs),ρ2):=by
 simp only [aa,ac,h1,h2,aO]
theorem qi {mk:List L3.D->L3.D} {f:Fl} (h1:ms ρ=some (.ok rs,ρ1)) (h2:gives rs ρ1=some (.ok ds,ρ2)) (h3:ds.length<=16777216):n9 mk f ms ρ=some (.ok (.val (mk ds) f),ρ2):=by
 simp only [n9,ac,h1,h2,aR,h3,if_true,CD]
theorem ai {F:Fn} {ps qs:List (L3.D × Fl)} (a:F ps=some (.ok (d,fl),qs)) (h1:ms ρ=some (.ok rs,ρ1)) (h2:prs (frz (jE rs) ρ1) rs=some ps) (h3:qs.length=ps.length) (b:back rs ps qs (frz (jE rs) ρ1) = ρ2):ah F ms ρ=some (.ok (.val d fl),ρ2):=by
 simp only [ah,ac,h1,h2,a,h3,if_true,b]
theorem rA {p:L3.D × Fl} (h1:m ρ=some (.ok r,ρ1)) (h2:cw r ρ1=some (.ok p,ρ2)) (h3:i < ρ2.length) (a:ρ2.set i (some p) = ρ3):aT i m ρ=some (.ok .nx,ρ3):=by
 simp only [aT,ac,h1,h2,h3,if_true,a]
theorem zm {bnd:L3.D->Sto->Option Sto} {p:L3.D × Fl} (h1:m ρ=some (.ok r,ρ1)) (h2:cw r ρ1=some (.ok p,ρ2)) (h3:bnd p.1 ρ2=some ρ3):io bnd m ρ=some (.ok .nx,ρ3):=by
 simp only [io,ac,h1,h2,h3,CD]
theorem vT (h1:m ρ=some (.ok r,ρ1)):fc m ρ=some (.ok .nx,ρ1):=by
 simp only [fc,ac,h1,aO]
def retF (np:Nat) (r:R3):SM:=aU np (aO r)
theorem ba (h1:m ρ=some (.ok r,ρ1)) (h2:retF np r ρ1=x):aU np m ρ=x:=by
 rw [<- h2]
 unfold retF
 simp only [aU,ac,h1,aO]
theorem cQ (h1:sa ρ=some (.ok (.rt d fl),ρ1)):aD sa sb ρ=some (.ok (.rt d fl),ρ1):=by
 simp only [aD,ac,h1,aO]
theorem cu (h1:m ρ=some (.ok r,ρ1)) (h2:der r ρ1=some (.ok (.bl b),ρ1)):cB m ρ=some (.ok b,ρ1):=by
 simp only [cB,ac,h1,h2,aR,asB,CD]
theorem bv (h1:c ρ=some (.ok b,ρ1)):dJ c ρ=some (.ok (!b),ρ1):=by
 simp only [dJ,ac,h1,aO]
theorem cV (h1:c ρ=some (.ok b,ρ1)) (a:b=true) (h2:sa ρ1=x):sIf c sa sb ρ=x:=by
 subst a;simp only [sIf,ac,h1,if_true];exact h2
theorem bY (h1:c ρ=some (.ok b,ρ1)) (a:b=false) (h2:sb ρ1=x):sIf c sa sb ρ=x:=by
 subst a;simp only [sIf,ac,h1,CH,if_false];exact h2
theorem cO (h1:c ρ=some (.ok b,ρ1)) (a:b=false) (h2:cc ρ1=some (.ok b2,ρ2)):cOr c cc ρ=some (.ok b2,ρ2):=by
 subst a;simp only [cOr,ac,h1,CH,if_false];exact h2
theorem lu (h1:c ρ=some (.ok b,ρ1)) (a:b=true):cOr c cc ρ=some (.ok true,ρ1):=by
 subst a;simp only [cOr,ac,h1,if_true];rfl
theorem vV (h1:c ρ=some (.ok b,ρ1)) (a:b=true) (h2:cc ρ1=some (.ok b2,ρ2)):kA c cc ρ=some (.ok b2,ρ2):=by
 subst a;simp only [kA,ac,h1,if_true];exact h2
theorem BA (h1:c ρ=some (.ok b,ρ1)) (a:b=false):kA c cc ρ=some (.ok false,ρ1):=by
 subst a;simp only [kA,ac,h1,CH,if_false];rfl
theorem iD (h1:ma ρ=some (.ok r,ρ1)) (h2:der r ρ1=some (.ok (.bl b),ρ1)) (a:b=true) (h3:mb ρ1=y):eR ma mb ρ=y:=by
 subst a;simp only [eR,ac,h1,h2,aR,asB,CD,if_true];exact h3
theorem yG (h1:ma ρ=some (.ok r,ρ1)) (h2:der r ρ1=some (.ok (.bl b),ρ1)) (a:b=false):eR ma mb ρ=some (.ok (.val (.bl false) .z),ρ1):=by
 subst a;simp only [eR,ac,h1,h2,aR,asB,CD,CH,if_false];rfl
theorem By (h1:c ρ=some (.ok b,ρ1)) (a:b=true) (h2:ma ρ1=y):mIf c ma mb ρ=y:=by
 subst a;simp only [mIf,ac,h1,if_true];exact h2
theorem Bz (h1:c ρ=some (.ok b,ρ1)) (a:b=false) (h2:mb ρ1=y):mIf c ma mb ρ=y:=by
 subst a;simp only [mIf,ac,h1,CH,if_false];exact h2
theorem i_sl {f:L3.D->Option Int->Option Int->Option (L3.D × Fl)} {pl pu:M3 (Option Int)} {lo hi:Option Int} (h1:ma ρ=some (.ok ra,ρ1)) (h2:pl ρ1=some (.ok lo,ρ2)) (h3:pu ρ2=some (.ok hi,ρ3)) (b:der ra ρ3=some (.ok da,ρ3)) (a:f da lo hi=some (d,fl)):mSl f ma pl pu ρ=some (.ok (.val d fl),ρ3):=by
 simp only [mSl,ac,h1,h2,h3,b,aR,a,CD]
theorem yF:du ρ=some (.ok none,ρ):=rfl
theorem yE {k:Int} (h1:m ρ=some (.ok r,ρ1)) (h2:der r ρ1=some (.ok (.int k),ρ1)):bP m ρ=some (.ok (some k),ρ1):=by
 simp only [bP,ac,h1,h2,aR,asI,CD]
theorem i_mut {ok:L3.D->Bool} {f:L3.D->List L3.D->Option (L3.D × L3.D)} {a b c:L3.D} (h0:(ρ[i]?).join=some (d,fl)) (h:ok d=true) (h1:ms ρ=some (.ok rs,ρ1)) (h2:gives rs ρ1=some (.ok ds,ρ2)) (h3:(ρ2[i]?).join=some (a,.u)) (g:f a ds=some (b,c)) (e:ρ2.set i (some (b,.u)) = ρ3):qd ok f i ms ρ=some (.ok (.val c .z),ρ3):=by
 simp only [qd,ac,aq h0,chk,h0,h,if_true,h1,h2,h3,g,e]
theorem zk {f:L3.D->List L3.D->Option (L3.D × L3.D)} {a b g:L3.D} (h1:mb ρ=some (.ok rb,ρ1)) (h0:(ρ1[i]?).join=some (d,fl)) (h2:ma ρ1=some (.ok ra,ρ2)) (h3:gives [ra,rb] ρ2=some (.ok ds,ρ3)) (e:(ρ3[i]?).join=some (a,.u)) (c:f a ds=some (b,g)):kF f i ma mb ρ=some (.ok .nx,ρ3.set i (some (b,.u))):=by
 simp only [kF,ac,h1,aq h0,h2,h3,e,c]
theorem aG {mask:List Bool} {ps qs:List (L3.D × Fl)} (h1:ps.length=mask.length) (h0:fj n (List.zipWith kJ mask ps) = ρ) (h2:sa ρ=some (.ok (.rt d fl),ρ1)) (h3:ee ρ1 0 (List.zipWith kJ mask ps)=some qs):fnM mask n sa ps=some (.ok (d,fl),qs):=by
 subst h0;simp only [fnM,h1,if_true,fn0,h2,h3,CD]
theorem F_nx {mask:List Bool} {ps qs:List (L3.D × Fl)} (h1:ps.length=mask.length) (h0:fj n (List.zipWith kJ mask ps) = ρ) (h2:sa ρ=some (.ok .nx,ρ1)) (h3:ee ρ1 0 (List.zipWith kJ mask ps)=some qs):fnM mask n sa ps=some (.ok (.non,.z),qs):=by
 subst h0;simp only [fnM,h1,if_true,fn0,h2,h3,CD]
theorem ff {i j:Int} (h:-18446744073709551616 < i/\i < 18446744073709551616):dW (.int i) (.int j)=some (.int (i * j),.z):=by
 simp [bo,h]
theorem vB {i j:Int} (h:-18446744073709551616 < j/\j < 18446744073709551616):dW (.int i) (.int j)=some (.int (i * j),.z):=by
 simp [bo,h]
theorem gj {im:IM} {bnd:L3.D->Sto->Option Sto} {o:Except L3.D Flw} (h1:im ρ=some (.ok (rs,ds),ρ1)) (b:us ρ1 (pls rs)=[]) (h2:b8 bnd sb ds ρ1=some (o,ρ2)):cJ im bnd sb ρ=some (o,ρ2):=by
 have a:∀ f ρ,aB f [] ρ = ρ:=fun _ _=>rfl
 simp only [cJ,ac,h1,b,a,h2,CD]
theorem vS {im:IM} {bnd:L3.D->Sto->Option Sto} {o:Except L3.D Flw} {is:List Nat} (h1:im ρ=some (.ok (rs,ds),ρ1)) (a:us ρ1 (pls rs)=is) (h2:b8 bnd sb ds (aB bX is ρ1)=some (o,ρ2)):cJ im bnd sb ρ=some (o,aB eD is ρ2):=by
 simp only [cJ,ac,h1,a,h2,CD]
theorem mn (h1:m ρ=some (.ok r,ρ1)) (h2:der r ρ1=some (.ok d,ρ1)) (h3:qM d=some ds):cx m ρ=some (.ok ([r],ds),ρ1):=by
 simp only [cx,ac,h1,h2,aR,h3,CD]
theorem cN {f:List L3.D->Option (List L3.D)} {xs:List L3.D} (h1:ms ρ=some (.ok rs,ρ1)) (h2:cv rs ρ1=some (.ok ds,ρ1)) (h3:f ds=some xs):bx f ms ρ=some (.ok ([],xs),ρ1):=vQ h1 h2 h3
end
theorem bd {α:Type} {bnd:L3.D->Sto->Option Sto} {c:M3 Bool} {elt:EM} (P:Sto->Prop) (D:α->L3.D) (g:α->Bool) (f:α->L3.D):∀ {xs:List α} {τ:Sto},P τ ->
  (∀ x ∈ xs,∀ τ,P τ->∃ τ1 τ2,bnd (D x) τ=some τ1/\c τ1=some (.ok (g x),τ2)/\(g x=false->P τ2)/\(g x=true->∃ r τ3 p τ4,elt τ2=some (.ok r,τ3)/\cw r τ3=some (.ok p,τ4)/\p.1=f x/\P τ4)) ->
  ∃ τ',bz bnd c elt (xs.map D) τ=some (.ok ((xs.filter g).map f),τ')/\P τ'
 | [],τ,h0,_=>⟨τ,rfl,h0⟩
 | x :: xs,τ,h0,hs=>by
  obtain ⟨τ1,τ2,e1,b,hf,j⟩:=hs x B6 τ h0
  cases a:g x with
  | false =>
   obtain ⟨τ',e,i⟩:=bd P D g f (xs:=xs) (τ:=τ2) (hf a) fun d hd=>hs d (B7 _ hd)
   refine ⟨τ',?_,i⟩
   rw [Cs]
   unfold bz
   rw [a] at b
   simp [e1,ac,b,e,List.filter_cons,a]
  | true =>
   obtain ⟨r,τ3,p,τ4,m,l,k,h⟩:=j a
   obtain ⟨τ',e,i⟩:=bd P D g f (xs:=xs) (τ:=τ4) h fun d hd=>hs d (B7 _ hd)
   refine ⟨τ',?_,i⟩
   rw [Cs]
   unfold bz
   rw [a] at b
   simp [e1,ac,b,m,l,e,List.filter_cons,a,aO,k]
section
variable {α:Type} {P:List α->Prop} {us:List α}
theorem bnd0 (h:us.length=0) (f:P []):P us:=by
 cases us with
 | nil=>exact f
 | cons a us=>cases h
theorem yQ {n:Nat} (h:us.length=n+1) (f:∀ a r,r.length=n->P (a :: r)):P us:=by
 cases us with
 | nil=>cases h
 | cons a us=>exact f a us (Nat.succ.inj h)
theorem bnd1 (h:us.length=1) (f:∀ a,P [a]):P us:=yQ h fun a _ h=>bnd0 (P:=fun r=>P (a :: r)) h (f a)
theorem bnd2 (h:us.length=2) (f:∀ a b,P [a,b]):P us:=yQ h fun a _ h=>bnd1 (P:=fun r=>P (a :: r)) h (f a)
theorem bnd3 (h:us.length=3) (f:∀ a b c,P [a,b,c]):P us:=yQ h fun a _ h=>bnd2 (P:=fun r=>P (a :: r)) h (f a)
theorem bnd4 (h:us.length=4) (f:∀ a b c d,P [a,b,c,d]):P us:=yQ h fun a _ h=>bnd3 (P:=fun r=>P (a :: r)) h (f a)
end
theorem hb1 {x:Str} {st:Stmt} {b:Str} (f:∀ (kV doc pm:Value) (an:Option Addr) (a ct c:Value),bindArgs (PySem.W.fnOf x x (aW st) (aM st) (af st) .none kV doc pm an a ct) ⟨[c],[]⟩=pure ([b].zip [c])) (kV doc pm:Value) (an:Option Addr) (a ct:Value) (us:List Value) (d:us.length=[b].length):bindArgs (PySem.W.fnOf x x (aW st) (aM st) (af st) .none kV doc pm an a ct) ⟨us,[]⟩=pure ([b].zip us) :=
 bnd1 (P:=fun us=>bindArgs (PySem.W.fnOf x x (aW st) (aM st) (af st) .none kV doc pm an a ct) ⟨us,[]⟩=pure ([b].zip us)) d (f kV doc pm an a ct)
theorem hb2 {x:Str} {st:Stmt} {c b:Str} (f:∀ (kV doc pm:Value) (an:Option Addr) (a ct d a1:Value),bindArgs (PySem.W.fnOf x x (aW st) (aM st) (af st) .none kV doc pm an a ct) ⟨[d,a1],[]⟩=pure ([c,b].zip [d,a1])) (kV doc pm:Value) (an:Option Addr) (a ct:Value) (us:List Value) (e:us.length=[c,b].length):bindArgs (PySem.W.fnOf x x (aW st) (aM st) (af st) .none kV doc pm an a ct) ⟨us,[]⟩=pure ([c,b].zip us) :=
 bnd2 (P:=fun us=>bindArgs (PySem.W.fnOf x x (aW st) (aM st) (af st) .none kV doc pm an a ct) ⟨us,[]⟩=pure ([c,b].zip us)) e (f kV doc pm an a ct)
theorem hb3 {x:Str} {st:Stmt} {b c p2:Str} (f:∀ (kV doc pm:Value) (an:Option Addr) (a ct d a1 a2:Value),bindArgs (PySem.W.fnOf x x (aW st) (aM st) (af st) .none kV doc pm an a ct) ⟨[d,a1,a2],[]⟩=pure ([b,c,p2].zip [d,a1,a2])) (kV doc pm:Value) (an:Option Addr) (a ct:Value) (us:List Value) (e:us.length=[b,c,p2].length):bindArgs (PySem.W.fnOf x x (aW st) (aM st) (af st) .none kV doc pm an a ct) ⟨us,[]⟩=pure ([b,c,p2].zip us) :=
 bnd3 (P:=fun us=>bindArgs (PySem.W.fnOf x x (aW st) (aM st) (af st) .none kV doc pm an a ct) ⟨us,[]⟩=pure ([b,c,p2].zip us)) e (f kV doc pm an a ct)
theorem hb4 {x:Str} {st:Stmt} {c d p2 b:Str} (f:∀ (kV doc pm:Value) (an:Option Addr) (a ct e a1 a2 g:Value),bindArgs (PySem.W.fnOf x x (aW st) (aM st) (af st) .none kV doc pm an a ct) ⟨[e,a1,a2,g],[]⟩=pure ([c,d,p2,b].zip [e,a1,a2,g])) (kV doc pm:Value) (an:Option Addr) (a ct:Value) (us:List Value) (h:us.length=[c,d,p2,b].length):bindArgs (PySem.W.fnOf x x (aW st) (aM st) (af st) .none kV doc pm an a ct) ⟨us,[]⟩=pure ([c,d,p2,b].zip us) :=
 bnd4 (P:=fun us=>bindArgs (PySem.W.fnOf x x (aW st) (aM st) (af st) .none kV doc pm an a ct) ⟨us,[]⟩=pure ([c,d,p2,b].zip us)) h (f kV doc pm an a ct)
end Bn
end
section
namespace L3
open PySem L2
def tgN:Expr->List Str
 | .Name x _=>[x]
 | .Tuple [.Name x _,.Name y _] _ _=>[x,y]
 | .Tuple [.Name x _,.Name y _,.Name z _] _ _=>[x,y,z]
 | _=>[]
def nF (tg:Expr) (N:List Str) (ix:List (Option Nat)):List Str:=tgN tg ++ ix.filterMap fun o=>o.bind fun i=>N[i]?
def ndB:List Str->Bool
 | []=>true
 | x :: xs=>!(xs.any fun y=>decide (y=x)) && ndB xs
theorem re:∀ {xs:List Str},ndB xs=true->xs.Nodup
 | [],_=>.nil
 | x :: xs,h=>by
  simp only [ndB,Bool.and_eq_true,Bool.not_eq_true',List.any_eq_false,decide_eq_true_eq] at h
  exact List.nodup_cons.mpr ⟨fun m=>h.1 x m rfl,re h.2⟩
section
variable {X:Cx} {G0:Gm} {W0:D->Sto->Prop} {pos:Pos}
theorem uV (f:X.calm=true) (hi:RI X G0 W0 tg iter im) (d:∀ s H C fp,PTs (aJ X (nF tg X.N ix) scope s H C fp) ifs (tT X.K (a9 ix) noX cm)) (he:∀ s H C fp,RE (aJ X (nF tg X.N ix) scope s H C fp) (a9 ix) noX elt em) (e:fS scope X.N X.env.scope (nF tg X.N ix) ix=true) (b:Inj ix) (g:∀ x,foldedSetIterable iter X.env x=pure x) (c:∃ a,Bnd X.K (a9 ix).pr a bnd/\∀ s H C fp,PG (aJ X (nF tg X.N ix) scope s H C fp) tg a):RE X G0 W0 (.ListComp elt [⟨tg,iter,ifs,0⟩] scope pos) (bB im bnd cm em ix) :=
 xI _ ix f hi d he e b g c
theorem nc {i:Nat} (g:X.N.Nodup) (h:X.N[i]?=some y) (e:Loc X.env.scope y) (k:X.calm=true) (hi:RI X G0 W0 tg iter im) (f:∀ s H C fp,PTs (aJ X (nF tg X.N ix) scope s H C fp) ifs (tT X.K (a9 ix) noX cm)) (he:∀ s H C fp,RE (aJ X (nF tg X.N ix) scope s H C fp) (a9 ix) noX elt em) (j:fS scope X.N X.env.scope (nF tg X.N ix) ix=true) (b:Inj ix) (c:swapsWith (.ListComp elt [⟨tg,iter,ifs,0⟩] scope pos) (some (.Name y py)) spos.line X.env=pure true) (hf:X.fn y=true\/X.env.scope.names.lookup y=some .local) (m:∀ x,foldedSetIterable iter X.env x=pure x) (l:G0.pr i=false) (d:∃ a,Bnd X.K (a9 ix).pr a bnd/\∀ s H C fp,PG (aJ X (nF tg X.N ix) scope s H C fp) tg a):RS X G0 W0 (.Assign [.Name y py] (.ListComp elt [⟨tg,iter,ifs,0⟩] scope pos) spos) (aT i (bB im bnd cm em ix)) :=
 pC g h e _ ix k hi f he j b c hf m l d
end
section
variable {X:Cx} {G0:Gm} {W0:D->Sto->Prop} {p q r:Pos} {m:EM} {e e1:Expr} {es:List Expr} {t:M3 Bool} {sm:SM}
theorem gN {i:Nat} (h:RE X G0 W0 (.Name x p) (ab i)):RE X G0 W0 (.Name x p) (ab i):=h
theorem gG (h:RE X G0 W0 (.Name x p) (mC d)):RE X G0 W0 (.Name x p) (mC d):=h
theorem gH (h:RE X G0 W0 (.Name x p) m):RE X G0 W0 (.Name x p) m:=h
theorem gK {k:Nat} (h:RE X G0 W0 (.Constant c k p) m):RE X G0 W0 (.Constant c k p) m:=h
theorem gB (op:Operator) (h:RE X G0 W0 (.BinOp e op e1 p) m):RE X G0 W0 (.BinOp e op e1 p) m:=h
theorem gU (op:UnaryOp) (h:RE X G0 W0 (.UnaryOp op e p) m):RE X G0 W0 (.UnaryOp op e p) m:=h
theorem gP (os:List CmpOp) (h:RE X G0 W0 (.Compare e os es p) m):RE X G0 W0 (.Compare e os es p) m:=h
theorem gO (h:RE X G0 W0 (.BoolOp op es p) m):RE X G0 W0 (.BoolOp op es p) m:=h
theorem gS (h:RE X G0 W0 (.Subscript e e1 p) m):RE X G0 W0 (.Subscript e e1 p) m:=h
theorem gL (h:RE X G0 W0 (.Subscript e (.Slice a b c p) q) m):RE X G0 W0 (.Subscript e (.Slice a b c p) q) m:=h
theorem gI (x:Str) (h:RE X G0 W0 (.Call (.Name s p) [e,.Name x q] [] r) m):RE X G0 W0 (.Call (.Name s p) [e,.Name x q] [] r) m:=h
theorem gC (x:Str) (h:RE X G0 W0 (.Call (.Name x p) es ks q) m):RE X G0 W0 (.Call (.Name x p) es ks q) m:=h
theorem gD (h:RE X G0 W0 (.Call (.Name x p) es ks q) m):RE X G0 W0 (.Call (.Name x p) es ks q) m:=h
theorem gM (x:Str) (h:RE X G0 W0 (.Call (.Attribute e x p) es ks q) m):RE X G0 W0 (.Call (.Attribute e x p) es ks q) m:=h
theorem gE (h:RE X G0 W0 e m):RE X G0 W0 e m:=h
theorem gA (h:RA X G0 W0 es ms):RA X G0 W0 es ms:=h
theorem gQ (os:List CmpOp) (h:RT X G0 W0 (.Compare e os es p) t):RT X G0 W0 (.Compare e os es p) t:=h
theorem gW (h:RT X G0 W0 (.BoolOp op es p) t):RT X G0 W0 (.BoolOp op es p) t:=h
theorem gV (h:RT X G0 W0 (.UnaryOp .Not e p) t):RT X G0 W0 (.UnaryOp .Not e p) t:=h
theorem gT (h:RT X G0 W0 e t):RT X G0 W0 e t:=h
theorem gR (h:RS X G0 W0 (.Return o p) sm):RS X G0 W0 (.Return o p) sm:=h
theorem gF (h:RS X G0 W0 (.If e ss tt p) sm):RS X G0 W0 (.If e ss tt p) sm:=h
theorem gX (h:RS X G0 W0 (.Assign [.Name x p] e q) sm):RS X G0 W0 (.Assign [.Name x p] e q) sm:=h
theorem gZ (h:RS X G0 W0 st sm):RS X G0 W0 st sm:=h
theorem gY (h:RSs X G0 W0 ss sm):RSs X G0 W0 ss sm:=h
end
end L3
end
section
namespace Bn
open PySem L2 L3
local macro_rules | `(tactic| infer_instance)=>`(tactic| first | with_reducible apply aq | with_reducible exact i_c | with_reducible apply bG | with_reducible apply mm | with_reducible apply aX | with_reducible exact aS | with_reducible apply am | with_reducible apply qi | with_reducible apply rA | with_reducible apply zm | with_reducible apply vT | with_reducible apply ba | with_reducible exact i_nilS | with_reducible apply cu | with_reducible apply bv | with_reducible apply i_mNot | with_reducible apply i_sl | with_reducible exact yF | with_reducible apply yE | with_reducible apply i_mut | with_reducible apply zk | with_reducible apply mn | with_reducible apply cN | with_reducible apply iD | with_reducible apply cO)
local macro_rules | `(tactic| eq_refl)=>`(tactic| first | exact rfl | exact Nat.le_of_ble_eq_true rfl)
local macro_rules | `(tactic| nofun) => `(tactic| repeat' (first | infer_instance | eq_refl))
local macro_rules | `(tactic| exists $es,*) => `(tactic| repeat' (first | infer_instance | (first $[| exact $es]*) | eq_refl))
local macro_rules | `(tactic| nomatch [$fs,*]) => `(tactic| repeat' (first | infer_instance | (first $[| with_reducible apply ai $fs]*) | eq_refl))
local macro_rules | `(tactic| nomatch [$fs,*], [$es,*]) => `(tactic| repeat' (first | infer_instance | (first $[| with_reducible apply ai $fs]*) | (first $[| exact $es]*) | eq_refl))
section
variable {X:Cx} {G0:Gm} {W0:L3.D->Sto->Prop} {pos:Pos}
end
section
variable {P:Program} {w:World} {K:FG} {mg:Str->Option Value} {base:Heap}
local macro_rules | `(tactic| ac_rfl) => `(tactic| exact ⟨rfl,rfl,rfl,by decide +kernel,rfl,by decide +kernel,by decide +kernel⟩)
set_option hygiene false
local macro_rules | `(tactic| and_intros)=>`(tactic| repeat' (first
 | ((with_reducible apply gA);first | refine lW ?_ ?_ rfl | refine pG)
 | ((with_reducible apply gN);first | refine lU _ rfl (Or.inl rfl) (by decide) (by decide) | refine lU _ rfl (Or.inr (Or.inl rfl)) (by decide) (by decide))
 | ((with_reducible apply gG);refine nh rfl (by assumption) (by decide))
 | ((with_reducible apply gK);first | refine Au | refine re_bl | refine As | refine An)
 | ((with_reducible apply gL);first | refine uT ?_ ?_ ?_ | refine xH ?_ ?_)
 | ((with_reducible apply gS);refine re_ix (Bx hr.hu) Bc ?_ ?_ (fun _ _=>rfl))
 | ((with_reducible apply gB .Add);refine iU ye Bf ?_ ?_)
 | ((with_reducible apply gB .Sub);refine iU AU yi ?_ ?_)
 | ((with_reducible apply gB .Mult);refine iU AX yk ?_ ?_)
 | ((with_reducible apply gB .Mod);refine iU AY ym ?_ ?_)
 | ((with_reducible apply gB .FloorDiv);refine iU vo yo ?_ ?_)
 | ((with_reducible apply gB .Pow);refine iU AV yj ?_ ?_)
 | ((with_reducible apply gQ [.Eq]);refine jZ (vp hr.units) vw ?_ ?_ (eO _))
 | ((with_reducible apply gQ [.Lt]);refine jZ q5 vt ?_ ?_ (eO _))
 | ((with_reducible apply gQ [.NotEq]);refine jZ (AW hr.units) Bd ?_ ?_ (eO _))
 | ((with_reducible apply gQ [.Gt]);refine jZ ze zf ?_ ?_ (eO _))
 | ((with_reducible apply gQ [.GtE]);refine jZ op_ge od_ge ?_ ?_ (eO _))
 | ((with_reducible apply gW);refine rt_w ?_)
 | ((with_reducible apply gV);refine Ae ?_)
 | ((with_reducible apply gT);refine Ad ?_ (fun _=>rfl))
 | ((with_reducible apply gP [.Eq]);refine lV (vp hr.units) vw ?_ ?_ (eO _))
 | ((with_reducible apply gP [.Lt]);refine lV q5 vt ?_ ?_ (eO _))
 | ((with_reducible apply gP [.LtE,.Lt]);refine ni ld vv q5 vt ?_ ?_ ?_ (fun h1 h2 h3=>nC ld q5 h1 h2 h3))
 | ((with_reducible apply gP [.LtE,.LtE]);refine ni ld vv ld vv ?_ ?_ ?_ (fun h1 h2 h3=>nC ld ld h1 h2 h3))
 | ((with_reducible apply gP [.Is]);refine lV AZ Be ?_ ?_ (eO _))
 | ((with_reducible apply gP [.Gt]);refine lV ze zf ?_ ?_ (eO _))
 | ((with_reducible apply gO);first | refine Ax ?_ ?_ | refine Ap ?_)
 | ((with_reducible apply gU .USub);refine re_un zy zA ?_)
 | ((with_reducible apply gU .Not);refine Aq ?_)
 | ((with_reducible apply gI "tuple");refine pF ky rfl B.isinstance (l5 (v:=V.ty "tuple") rfl B.tuple mM rfl (by decide) (by decide)) ?_ rfl rfl rfl)
 | ((with_reducible apply gI "bool");refine pF kM rfl B.isinstance (l5 (v:=V.ty "bool") rfl B.bool BW rfl (by decide) (by decide)) ?_ rfl rfl rfl)
 | ((with_reducible apply gI "int");refine pF mG rfl B.isinstance (l5 (v:=V.ty "int") rfl B.int b_int rfl (by decide) (by decide)) ?_ rfl rfl rfl)
 | ((with_reducible apply gC "len");refine dn mF BP rfl B.len b_len ?_ (by decide) (by decide) rfl rfl)
 | ((with_reducible apply gC "all");refine dn (wz rfl) BQ rfl B.all b_all ?_ (by decide) (by decide) rfl rfl)
 | ((with_reducible apply gC "tuple");first | refine k8 kK BM rfl B.tuple mM ?_ (by decide) (by decide) rfl rfl | refine xG rfl rfl B.tuple rfl B.range ?_ rfl rfl)
 | ((with_reducible apply gC "list");refine k8 mE BO rfl B.list BV ?_ (by decide) (by decide) rfl rfl)
 | ((with_reducible apply gC "sorted");first | refine re_ss rfl rfl B.sorted oW rfl B.set zu ?_ (by decide) (by decide) (by decide) (by decide) rfl rfl | refine Ao rfl rfl B.sorted oW rfl B.set zu ?_ (by decide) (by decide) (by decide) (by decide) rfl rfl)
 | ((with_reducible apply gC "repr");refine dn (mD hr.gd hr.units) wx rfl B.repr BU ?_ (by decide) (by decide) rfl rfl)
 | ((with_reducible apply gC "abs");refine dn wA BR rfl B.abs b_abs ?_ (by decide) (by decide) rfl rfl)
 | ((with_reducible apply gC "divmod");refine dn oN tD rfl B.divmod wE ?_ (by decide) (by decide) rfl rfl)
 | ((with_reducible apply gC "min");refine dn (tH rfl) yO rfl B.min b_min ?_ (by decide) (by decide) rfl rfl)
 | ((with_reducible apply gC "max");refine dn (tJ rfl) yP rfl B.max b_max ?_ (by decide) (by decide) rfl rfl)
 | ((with_reducible apply gD);refine xJ (by assumption) (hr.mono (by first | decide | omega)) ?_ rfl (by decide) rfl rfl)
 | ((with_reducible apply gM "append");refine qS (ok:=isL) PySem.F.plainAttrs_list PySem.F.slot_list_append PySem.F.type_list_append sJ Bk vO (fF rfl (Or.inl rfl) (by decide) (by decide)) ?_ rfl rfl rfl rfl rfl)
 | ((with_reducible apply gM "extend");refine qS (ok:=isL) PySem.F.plainAttrs_list PySem.F.slot_list_extend PySem.F.type_list_extend sI Bj vO (fF rfl (Or.inl rfl) (by decide) (by decide)) ?_ rfl rfl rfl rfl rfl)
 | ((with_reducible apply gH);first | refine lU _ rfl (Or.inl rfl) (by decide) (by decide) | refine lU _ rfl (Or.inr (Or.inl rfl)) (by decide) (by decide) | refine nh rfl (by assumption) (by decide))
 | ((with_reducible apply gE);first | refine Am ?_ | refine At ?_ | refine uV rfl ?_ (fun s H C fp=>?_) (fun s H C fp=>?_) (by rfl) (vP (by decide)) (fun _=>rfl) ⟨_,iG rfl,fun s H C fp=>jO (re rfl) rfl (Or.inl rfl) (Or.inr rfl)⟩ | refine re_if ?_ ?_ ?_ | refine uU | refine Aw (key:=.inr "a") vg l4 | refine Av (ns:=[0,1]) hr.hu (by decide) (by decide) rfl l4)
 | ((with_reducible apply gY);first | refine xv ?_ | refine uJ ?_ ?_ | refine xw)
 | ((with_reducible apply gR);refine Ag _ (fun i hi=>by rw [hp] ;exact xS (by simpa using hi)) ?_)
 | ((with_reducible apply gF);refine rs_if ?_ ?_ ?_)
 | ((with_reducible apply gX);first | refine nc nd rfl (Or.inl rfl) rfl ?_ (fun s H C fp=>?_) (fun s H C fp=>?_) (by rfl) (vP (by decide)) rfl (Or.inl rfl) (fun _=>rfl) (by rw [hp] ;rfl) ⟨_,rN (jj (iG rfl) (jj (iG rfl) oT)),fun s H C fp=>pO (n:=2) rfl (fE (jO (re rfl) rfl (Or.inl rfl) (Or.inr rfl)) (fE (jO (re rfl) rfl (Or.inl rfl) (Or.inr rfl)) lZ rfl) rfl) rfl rfl⟩ | refine uL _ nd rfl (Or.inl rfl) ?_ rfl (Or.inl rfl) (by rw [hp] ;rfl) | refine uL _ nd rfl (Or.inr rfl) ?_ rfl (Or.inl rfl) (by rw [hp] ;rfl))
 | ((with_reducible apply gZ);first | refine xx _ _ _ rfl vD (qL hr.hu) (fF rfl (Or.inl rfl) (by decide) (by decide)) (fF rfl (Or.inl rfl) (by decide) (by decide)) (fF rfl (Or.inl rfl) (by decide) (by decide)) (fF rfl (Or.inl rfl) (by decide) (by decide)) ?_ rfl rfl | refine Ah PassesOwn.never rfl ?_ ?_ ?_ (fun _=>rfl) | refine xy ?_ rfl | refine Af (qL hr.hu) vD (fF rfl (Or.inl rfl) (by decide) (by decide)) ?_ ?_ (fun _=>rfl) rfl rfl rfl | refine Ai ?_ ?_ rfl rfl rfl | refine uM | refine uK PassesOwn.never ?_ ?_)
 | refine qR _ nd rfl (Or.inl rfl) (Or.inl rfl) (by rw [hp] ;rfl)
 | refine xz ?_
 | refine Ak ?_
 | refine uO
 | refine xD rfl B.range ?_ rfl
 | refine xA
 | refine z7 ?_
 | refine rw_or ?_ ?_
 | refine uR ?_ ?_ rfl
 | refine qR _ nd rfl (Or.inr rfl) (Or.inl rfl) (by rw [hp] ;rfl)
 | refine xC rfl B.range ?_ rfl rfl
 | refine xF
 | refine Al rfl ?_ rfl rfl
 | refine uN ?_
 | refine xE rfl B.enumerate ?_ rfl
 | refine xo ?_
 | refine z8 ?_ ?_))
local macro_rules | `(tactic| specialize $q) => `(tactic| exact aI D $q rfl rfl (by first | exact hb1 fun _ _ _ _ _ _ _=>rfl | exact hb2 fun _ _ _ _ _ _ _ _=>rfl | exact hb3 fun _ _ _ _ _ _ _ _ _=>rfl | exact hb4 fun _ _ _ _ _ _ _ _ _ _=>rfl) fun cdv A outer s H E f G hr hp=>have nd:=($q).nd;by and_intros)
set_option hygiene true
def p9:SM:=(aU 1 (eR (mUn (eS "int") (ab 0)) (og (mUn (eS "bool") (ab 0)))))
def bI:Fn:=fnM [false] 1 p9
theorem sc_is_whole:FnScope ["thing"] ["thing"] (af eG):=by ac_rfl
theorem mI (B:Bl mg) (D:Def K mg "is_whole" eG):aA P w K mg base "is_whole" 1 ["thing"] bI :=by specialize sc_is_whole
def qb:SM:=(aU 1 (eR (mUn (eS "tuple") (ab 0)) (eR (ag eqX (ak bM (aa (ab 0) ae)) (mC (.int 2))) (eR (ah bI (aa (ag aw (ab 0) (mC (.int 0))) ae)) (ah bI (aa (ag aw (ab 0) (mC (.int 1))) ae))))))
def eZ:Fn:=fnM [false] 1 qb
theorem sc_is_point:FnScope ["thing"] ["thing"] (af eJ):=by ac_rfl
theorem mK (B:Bl mg) (D:Def K mg "is_point" eJ) (a:aA P w K mg base "is_whole" 1 ["thing"] bI):aA P w K mg base "is_point" 2 ["thing"] eZ :=by specialize sc_is_point
def qc:SM:=(aU 2 (eR (ah bI (aa (ab 0) ae)) (cS leI ltI (mC (.int 0)) (ab 0) (ab 1))))
def dG:Fn:=fnM [false,false] 2 qc
theorem sc_is_place:FnScope ["thing","many"] ["thing","many"] (af eK):=by ac_rfl
theorem mL (B:Bl mg) (D:Def K mg "is_place" eK) (a:aA P w K mg base "is_whole" 1 ["thing"] bI):aA P w K mg base "is_place" 2 ["thing","many"] dG :=by specialize sc_is_place
def ay:EM:=(ah dG (aa (ab 0) (aa (ab 1) ae)))
def aZ:EM:=(bB (cx (ab 0)) (ao 0) b9 ay [none,some 1])
def bu:EM:=(ag ltI (ag aw (ab 1) (ab 0)) (ag aw (ab 1) (ag aN (ab 0) (mC (.int 1)))))
def bt:EM:=(bB (bx cz (aa (ag eE (ak bM (aa (ab 0) ae)) (mC (.int 1))) ae)) (ao 0) b9 bu [none,some 0])
def bL:SM:=(aD (sIf (cOr (dJ (cB (mUn (eS "tuple") (ab 0)))) (dJ (cB (ak oZ (aa aZ ae))))) (aU 2 (mC (.bl false))) dm) (aU 2 (ak oZ (aa bt ae))))
def av:Fn:=fnM [false,false] 2 bL
theorem sc_are_rising_places:FnScope ["thing","many"] ["thing","many"] (af bh):=by ac_rfl
theorem fm (B:Bl mg) (D:Def K mg "are_rising_places" bh) (a:aA P w K mg base "is_place" 2 ["thing","many"] dG):aA P w K mg base "are_rising_places" 3 ["thing","many"] av :=by specialize sc_are_rising_places
def cR:EM:=(ah eZ (aa (ab 0) ae))
def fg:EM:=(bB (cx (ab 0)) (ao 0) b9 cR [none])
def me:SM:=(aU 1 (eR (cS leI leI (mC (.int 1)) (ak bM (aa (ab 0) ae)) (mC (.int (24)))) (ak oZ (aa fg ae))))
def dg:Fn:=fnM [false] 1 me
theorem sc_are_points:FnScope ["things"] ["things"] (af cX):=by ac_rfl
theorem kz (B:Bl mg) (D:Def K mg "are_points" cX) (c:aA P w K mg base "is_point" 2 ["thing"] eZ) {a:Tok} (b:mg "MOST_POINTS"=some (.int (24) a)):aA P w K mg base "are_points" 3 ["things"] dg :=by specialize sc_are_points
def ci:EM:=(ag ltI (ag aw (ag aw (ab 1) (ab 0)) (mC (.int 0))) (ag aw (ag aw (ab 1) (ag aN (ab 0) (mC (.int 1)))) (mC (.int 0))))
def dP:EM:=(bB (bx cz (aa (ag eE (ak bM (aa (ab 0) ae)) (mC (.int 1))) ae)) (ao 0) b9 ci [none,some 0])
def fN:SM:=(aU 1 (ak oZ (aa dP ae)))
def cq:Fn:=fnM [false] 1 fN
theorem sc_has_rising_x:FnScope ["points"] ["points"] (af cb):=by ac_rfl
theorem ji (B:Bl mg) (D:Def K mg "has_rising_x" cb):aA P w K mg base "has_rising_x" 1 ["points"] cq :=by specialize sc_has_rising_x
def Bo:SM:=(aD (aT 3 (ag dW (ag eE (ag aw (ab 1) (mC (.int 0))) (ag aw (ab 0) (mC (.int 0)))) (ag eE (ag aw (ab 2) (mC (.int 1))) (ag aw (ab 0) (mC (.int 1)))))) (aU 3 (ag eE (ab 3) (ag dW (ag eE (ag aw (ab 1) (mC (.int 1))) (ag aw (ab 0) (mC (.int 1)))) (ag eE (ag aw (ab 2) (mC (.int 0))) (ag aw (ab 0) (mC (.int 0))))))))
def jm:Fn:=fnM [false,false,false] 4 Bo
theorem sc_bend:FnScope ["first","second","third","run"] ["first","second","third"] (af lQ):=by ac_rfl
theorem wC (B:Bl mg) (D:Def K mg "bend" lQ):aA P w K mg base "bend" 1 ["first","second","third"] jm :=by specialize sc_bend
def fH:EM:=(bD (aa (ab 1) (aa (ab 2) (aa (ab 0) ae))))
def jq:EM:=(bB (bx iS (aa (ag aN (ab 3) (mC (.int 1))) (aa (ab 0) ae))) (ao 0) b9 fH [none,some 2,some 3])
def fI:SM:=(fc (qd isL wg 1 (aa jq ae)))
def jr:SM:=(cJ (bx iS (aa (ag aN (ab 2) (mC (.int 1))) (aa (ab 0) ae))) (ao 3) fI)
def vE:SM:=(aD (aT 1 (dI ae)) (aD (cJ (bx cz (aa (ab 0) ae)) (ao 2) jr) (aU 1 (ab 1))))
def eg:Fn:=fnM [false] 4 vE
theorem sc_threes:FnScope ["many","found","i","j"] ["many"] (af gJ):=by ac_rfl
theorem qr (B:Bl mg) (D:Def K mg "threes" gJ):aA P w K mg base "threes" 1 ["many"] eg :=by specialize sc_threes
def bV:EM:=(ag aw (ab 1) (ab 0))
def dA:EM:=(bB (cx (ab 1)) (ao 0) b9 bV [none,some 0])
def bp:SM:=(aD (aT 2 (ak jA (aa dA ae))) (sIf (cB (ag eqX (ah jm (aa (ag aw (ab 2) (mC (.int 0))) (aa (ag aw (ab 2) (mC (.int 1))) (aa (ag aw (ab 2) (mC (.int 2))) ae)))) (mC (.int 0)))) (aU 1 (ab 2)) dm))
def jB:SM:=(aD (cJ (cx (ah eg (aa (ak bM (aa (ab 0) ae)) ae))) (ao 1) bp) (aU 1 (mC .non)))
def bT:Fn:=fnM [false] 3 jB
theorem sc_first_on_line:FnScope ["points","three","found"] ["points"] (af bR):=by ac_rfl
theorem iF (B:Bl mg) (D:Def K mg "first_on_line" bR) (b:aA P w K mg base "bend" 1 ["first","second","third"] jm) (a:aA P w K mg base "threes" 1 ["many"] eg):aA P w K mg base "first_on_line" 2 ["points"] bT :=by specialize sc_first_on_line
def qa:SM:=(aD (sIf (cOr (dJ (cB (mUn (eS "tuple") (ab 0)))) (dJ (cB (ah dg (aa (ab 0) ae))))) (aU 1 (mC (.bl false))) dm) (aU 1 (eR (ah cq (aa (ab 0) ae)) (ag isN (ah bT (aa (ab 0) ae)) (mC .non)))))
def eY:Fn:=fnM [false] 1 qa
theorem sc_is_sheet:FnScope ["thing"] ["thing"] (af eI):=by ac_rfl
theorem mJ (B:Bl mg) (D:Def K mg "is_sheet" eI) (c:aA P w K mg base "are_points" 3 ["things"] dg) (a:aA P w K mg base "first_on_line" 2 ["points"] bT) (b:aA P w K mg base "has_rising_x" 1 ["points"] cq):aA P w K mg base "is_sheet" 4 ["thing"] eY :=by specialize sc_is_sheet
def kI:SM:=(sIf (dJ (cB (ah eY (aa (ab 0) ae)))) uz dm)
def cH:Fn:=fnM [false] 1 kI
theorem sc_check_sheet:FnScope ["thing"] ["thing"] (af cE):=by ac_rfl
theorem jG (B:Bl mg) (D:Def K mg "check_sheet" cE) (a:aA P w K mg base "is_sheet" 4 ["thing"] eY):aA P w K mg base "check_sheet" 5 ["thing"] cH :=by specialize sc_check_sheet
def sM:SM:=(aU 2 (mIf (cB (ag gtI (ah jm (aa (ag aw (ab 0) (ag aw (ab 1) (mC (.int 0)))) (aa (ag aw (ab 0) (ag aw (ab 1) (mC (.int 1)))) (aa (ag aw (ab 0) (ag aw (ab 1) (mC (.int 2)))) ae)))) (mC (.int 0)))) (mC (.int 1)) (mUn dU (mC (.int 1)))))
def di:Fn:=fnM [false,false] 2 sM
theorem sc_turn_at:FnScope ["sheet","three"] ["sheet","three"] (af fX):=by ac_rfl
theorem oO (B:Bl mg) (D:Def K mg "turn_at" fX) (a:aA P w K mg base "bend" 1 ["first","second","third"] jm):aA P w K mg base "turn_at" 2 ["sheet","three"] di :=by specialize sc_turn_at
def cj:SM:=(kF iQ 1 (ab 2) (ah di (aa (ab 0) (aa (ab 2) ae))))
def nZ:SM:=(aD (fc (ah cH (aa (ab 0) ae))) (aD (aT 1 vI) (aD (cJ (cx (ah eg (aa (ak bM (aa (ab 0) ae)) ae))) (ao 2) cj) (aU 1 (ab 1)))))
def dR:Fn:=fnM [false] 3 nZ
theorem sc_all_turns:FnScope ["sheet","turns","three"] ["sheet"] (af dM):=by ac_rfl
theorem kO (B:Bl mg) (D:Def K mg "all_turns" dM) (a:aA P w K mg base "check_sheet" 5 ["thing"] cH) (c:aA P w K mg base "threes" 1 ["many"] eg) (b:aA P w K mg base "turn_at" 2 ["sheet","three"] di):aA P w K mg base "all_turns" 6 ["sheet"] dR :=by specialize sc_all_turns
def dw:EM:=(ag eqX (ag aw (ab 2) (mSl slD (ab 3) (bP (ab 0)) (bP (ag aN (ab 0) (mC (.int 3)))))) (ab 1))
def fJ:EM:=(bB (bx cz (aa (ag eE (ak bM (aa (ab 1) ae)) (mC (.int 2))) ae)) (ao 0) b9 dw [none,some 2,some 0,some 1])
def nP:SM:=(aU 3 (ak oZ (aa fJ ae)))
def dQ:Fn:=fnM [false,false,false] 3 nP
theorem sc_row_bends:FnScope ["turns","row","way"] ["turns","row","way"] (af dL):=by ac_rfl
theorem kN (B:Bl mg) (D:Def K mg "row_bends" dL):aA P w K mg base "row_bends" 1 ["turns","row","way"] dQ :=by specialize sc_row_bends
def md:SM:=(aD (aT 3 (ah dR (aa (ab 1) ae))) (aD (sIf (cOr (dJ (cB (ah av (aa (ab 0) (aa (ak bM (aa (ab 1) ae)) ae))))) (cB (ag ltI (ak bM (aa (ab 0) ae)) (mC (.int 2))))) (aU 3 (mC (.bl false))) dm) (aU 3 (ah dQ (aa (ab 3) (aa (ab 0) (aa (ab 2) ae)))))))
def cr:Fn:=fnM [false,false,false] 4 md
theorem sc_bends:FnScope ["thing","sheet","way","turns"] ["thing","sheet","way"] (af jL):=by ac_rfl
theorem tN (B:Bl mg) (D:Def K mg "bends" jL) (c:aA P w K mg base "all_turns" 6 ["sheet"] dR) (a:aA P w K mg base "are_rising_places" 3 ["thing","many"] av) (b:aA P w K mg base "row_bends" 1 ["turns","row","way"] dQ):aA P w K mg base "bends" 7 ["thing","sheet","way"] cr :=by specialize sc_bends
def nX:SM:=(aU 2 (ah cr (aa (ab 0) (aa (ab 1) (aa (mC (.int (1))) ae)))))
def iJ:Fn:=fnM [false,false] 2 nX
theorem sc_is_cup:FnScope ["thing","sheet"] ["thing","sheet"] (af ig):=by ac_rfl
theorem qz (B:Bl mg) (D:Def K mg "is_cup" ig) (b:aA P w K mg base "bends" 7 ["thing","sheet","way"] cr) {a:Tok} (c:mg "UP"=some (.int (1) a)):aA P w K mg base "is_cup" 8 ["thing","sheet"] iJ :=by specialize sc_is_cup
def nY:SM:=(aU 2 (ah cr (aa (ab 0) (aa (ab 1) (aa (mC (.int (-1))) ae)))))
def iK:Fn:=fnM [false,false] 2 nY
theorem sc_is_cap:FnScope ["thing","sheet"] ["thing","sheet"] (af ik):=by ac_rfl
theorem qA (B:Bl mg) (D:Def K mg "is_cap" ik) (b:aA P w K mg base "bends" 7 ["thing","sheet","way"] cr) {a:Tok} (c:mg "DOWN"=some (.int (-1) a)):aA P w K mg base "is_cap" 8 ["thing","sheet"] iK :=by specialize sc_is_cap
def vG:SM:=(aD (sIf (cB (ag ltI (ab 1) (ak bM (aa (ab 0) ae)))) (aU 2 (ag aw (ab 0) (ab 1))) dm) (aU 2 (mC (.int 0))))
def iH:Fn:=fnM [false,false] 2 vG
theorem sc_l_cell:FnScope ["_law_script","_law_k"] ["_law_script","_law_k"] (af ib):=by ac_rfl
theorem qw (B:Bl mg) (D:Def K mg "_law_cell" ib):aA P w K mg base "_law_cell" 1 ["_law_script","_law_k"] iH :=by specialize sc_l_cell
def yz:SM:=(aD (aT 2 (dI (aa (mC (.int 48271)) (aa (mC (.int 69621)) (aa (mC (.int 16807)) (aa (mC (.int 39373)) (aa (mC (.int 30269)) (aa (mC (.int 40014)) (aa (mC (.int 40692)) (aa (mC (.int 50021)) (aa (mC (.int 61687)) (aa (mC (.int 71993)) (aa (mC (.int 83869)) (aa (mC (.int 95561)) (aa (mC (.int 30307)) ae))))))))))))))) (aD (aT 3 (ag aN (ag aN (ag dW (ag aN (ag pX (ab 0) (mC (.int 2147483647))) (mC (.int 12345))) (ag aw (ab 2) (ag pX (ab 1) (mC (.int 13))))) (ag dW (mC (.int 977)) (ab 1))) (ag dW (mC (.int 7919)) (ag tu (ab 1) (mC (.int 13)))))) (aD (aT 3 (ag pX (ab 3) (mC (.int 1000000007)))) (aU 2 (ag tu (ag pX (ag aN (ag dW (ab 3) (ab 3)) (ag dW (mC (.int 48271)) (ab 1))) (mC (.int 1000000007))) (mC (.int 7)))))))
def jU:Fn:=fnM [false,false] 4 yz
theorem sc_l_mix:FnScope ["_law_cell_here","_law_k","_law_some","_law_stir"] ["_law_cell_here","_law_k"] (af jJ):=by ac_rfl
theorem tL (B:Bl mg) (D:Def K mg "_law_mix" jJ):aA P w K mg base "_law_mix" 1 ["_law_cell_here","_law_k"] jU :=by specialize sc_l_mix
def gu:SM:=(aT 3 (ag aN (ag dW (ab 3) (mC (.int 142857143))) (ah jU (aa (ab 2) (aa (ab 4) ae)))))
def yA:SM:=(aD (aT 2 (ah iH (aa (ab 0) (aa (ab 1) ae)))) (aD (sIf (cB (ag eqX (ag pX (ab 2) (mC (.int 2))) (mC (.int 0)))) (aU 2 (dI (aa (ag tu (ak absD (aa (ab 2) ae)) (mC (.int 2))) ae))) dm) (aD (aT 3 (mC (.int 0))) (aD (cJ (bx cz (aa (mC (.int 40)) ae)) (ao 4) gu) (aU 2 (dI (aa (ab 3) ae)))))))
def jV:Fn:=fnM [false,false] 5 yA
theorem sc_l_box:FnScope ["_law_script","_law_k","_law_cell_here","_law_number","_law_j"] ["_law_script","_law_k"] (af jK):=by ac_rfl
theorem tM (B:Bl mg) (D:Def K mg "_law_box" jK) (a:aA P w K mg base "_law_cell" 1 ["_law_script","_law_k"] iH) (b:aA P w K mg base "_law_mix" 1 ["_law_cell_here","_law_k"] jU):aA P w K mg base "_law_box" 2 ["_law_script","_law_k"] jV :=by specialize sc_l_box
def vF:SM:=(aD (io (eW 2 (aY (ao 2) (aY (ao 3) d6))) (ak wn (aa (ag aw (ab 0) (mC (.int 0))) (aa (ab 1) ae)))) (aD (kF iQ 0 (mC (.int 0)) (ab 2)) (aU 2 (ab 3))))
def aE:Fn:=fnM [false,false] 4 vF
theorem sc_l_take:FnScope ["_law_box_here","_law_many","_law_left","_law_digit"] ["_law_box_here","_law_many"] (af hE):=by ac_rfl
theorem qt (B:Bl mg) (D:Def K mg "_law_take" hE):aA P w K mg base "_law_take" 1 ["_law_box_here","_law_many"] aE :=by specialize sc_l_take
def sO:SM:=(aU 1 (eR (mUn (eS "int") (ab 0)) (og (mUn (eS "bool") (ab 0)))))
def eh:Fn:=fnM [false] 1 sO
theorem sc_l_whole:FnScope ["_law_thing"] ["_law_thing"] (af fY):=by ac_rfl
theorem oP (B:Bl mg) (D:Def K mg "_law_whole" fY):aA P w K mg base "_law_whole" 1 ["_law_thing"] eh :=by specialize sc_l_whole
def sP:SM:=(aU 2 (eR (mUn (eS "bool") (ab 0)) (ag eqX (ab 0) (ab 1))))
def eA:Fn:=fnM [false,false] 2 sP
theorem sc_l_truth:FnScope ["_law_found","_law_due"] ["_law_found","_law_due"] (af fZ):=by ac_rfl
theorem oQ (B:Bl mg) (D:Def K mg "_law_truth" fZ):aA P w K mg base "_law_truth" 1 ["_law_found","_law_due"] eA :=by specialize sc_l_truth
def vH:SM:=(aD (io (eW 2 (aY (ao 3) (aY (ao 4) d6))) (ab 0)) (aD (aT 5 (ag dW (ag eE (ag aw (ab 1) (mC (.int 0))) (ab 3)) (ag eE (ag aw (ab 2) (mC (.int 1))) (ab 4)))) (aU 3 (ag eE (ab 5) (ag dW (ag eE (ag aw (ab 1) (mC (.int 1))) (ab 4)) (ag eE (ag aw (ab 2) (mC (.int 0))) (ab 3)))))))
def dF:Fn:=fnM [false,false,false] 6 vH
theorem sc_l_bend:FnScope ["_law_one","_law_two","_law_three","_law_x","_law_y","_law_wide"] ["_law_one","_law_two","_law_three"] (af ie):=by ac_rfl
theorem qy (B:Bl mg) (D:Def K mg "_law_bend" ie):aA P w K mg base "_law_bend" 1 ["_law_one","_law_two","_law_three"] dF :=by specialize sc_l_bend
def cM:SM:=(sIf (cB (ag eqX (ah dF (aa (ab 4) (aa (ab 3) (aa (ab 1) ae)))) (mC (.int 0)))) (aU 2 (mC (.bl false))) dm)
def dO:SM:=(cJ (cx (mSl slD (ab 0) du (bP (ab 2)))) (ao 4) cM)
def kb:SM:=(aD (cJ (kg (aa (ab 0) ae)) (eW 2 (aY (ao 2) (aY (ao 3) d6))) dO) (aU 2 (mC (.bl true))))
def eC:Fn:=fnM [false,false] 5 kb
theorem sc_l_free:FnScope ["_law_found","_law_point","_law_at","_law_one","_law_two"] ["_law_found","_law_point"] (af hU):=by ac_rfl
theorem qv (B:Bl mg) (D:Def K mg "_law_free" hU) (a:aA P w K mg base "_law_bend" 1 ["_law_one","_law_two","_law_three"] dF):aA P w K mg base "_law_free" 2 ["_law_found","_law_point"] eC :=by specialize sc_l_free
def ce:M3 Bool:=(dJ (cB (ah eC (aa (ab 5) (aa (bD (aa (ab 4) (aa (ab 9) ae))) ae)))))
def cZ:SM:=(aT 9 (ag aN (ab 9) (mC (.int 1))))
def cf:SM:=(aD (aT 4 (ag aN (ag aN (ab 4) (mC (.int 1))) (ah aE (aa (ab 0) (aa (mC (.int 3)) ae))))) (aD (aT 7 (ag eE (ah aE (aa (ab 0) (aa (mC (.int 31)) ae))) (mC (.int 15)))) (aD (aT 8 (dI (aa (ab 7) (aa (ab 7) (aa (ag aN (ag dW (ab 6) (ab 6)) (ag tu (ab 7) (mC (.int 9)))) (aa (ag eE (ag tu (ab 7) (mC (.int 9))) (ag dW (ab 6) (ab 6))) ae)))))) (aD (aT 8 (ag aN (ab 8) (dI (aa (ag dW (ag aN (ag dW (ab 6) (ab 6)) (mC (.int 30))) (ag eE (mC (.int 1)) (ag dW (mC (.int 2)) (ag pX (ab 6) (mC (.int 2)))))) (aa (ag dW (ab 7) (mC (.int 1000))) ae))))) (aD (aT 9 (ag aw (ab 8) (ab 3))) (aD (fv ce cZ) (fc (qd isL tV 5 (aa (bD (aa (ab 4) (aa (ab 9) ae))) ae)))))))))
def eQ:EM:=(bD (aa (ag aN (ag dW (ag pM (mC (.int 10)) (mC (.int 12))) (ab 0)) (mC (.int 7))) (aa (ag dW (ag pM (mC (.int 10)) (mC (.int 9))) (ab 1)) ae)))
def cY:EM:=(bB (cx (ab 5)) (eW 2 (aY (ao 0) (aY (ao 1) d6))) b9 eQ [none,none])
def lg:SM:=(aD (aT 2 (ag aN (mC (.int 1)) (ah aE (aa (ab 0) (aa (ab 1) ae))))) (aD (aT 3 (ah aE (aa (ab 0) (aa (mC (.int 6)) ae)))) (aD (aT 4 (ag eE (ah aE (aa (ab 0) (aa (mC (.int 9)) ae))) (mC (.int 4)))) (aD (aT 5 (dI ae)) (aD (cJ (bx cz (aa (ab 2) ae)) (ao 6) cf) (aD (sIf (cB (ag eqX (ah aE (aa (ab 0) (aa (mC (.int 6)) ae))) (mC (.int 5)))) (aT 5 cY) dm) (aU 2 (ak jA (aa (ab 5) ae)))))))))
def eB:Fn:=fnM [false,false] 10 lg
theorem sc_l_sheet:FnScope ["_law_box_here","_law_most","_law_many","_law_kind","_law_x","_law_found","_law_k","_law_given","_law_some","_law_y"] ["_law_box_here","_law_most"] (af f9):=by ac_rfl
theorem oR (B:Bl mg) (D:Def K mg "_law_sheet" f9) (b:aA P w K mg base "_law_free" 2 ["_law_found","_law_point"] eC) (a:aA P w K mg base "_law_take" 1 ["_law_box_here","_law_many"] aE):aA P w K mg base "_law_sheet" 3 ["_law_box_here","_law_most"] eB :=by specialize sc_l_sheet
def rf:SM:=(aD (aT 1 (dI (aa (mC .non) (aa (mC (.bl true)) (aa (mC (.bl false)) (aa (mC (.int 0)) (aa (mUn dU (mC (.int 1))) (aa (mC (.int 1)) (aa (mC (.str "")) (aa (mC (.str "1")) (aa (bD ae) (aa (dI ae) (aa (bD (aa (mC (.int 0)) ae)) (aa (bD (aa (mC (.int 0)) (aa (mC (.int 1)) ae))) (aa (dI (aa (mC (.int 0)) ae)) (aa (Br (.inr "a") 1) ae)))))))))))))))) (aD (aT 1 (ag aN (ab 1) (dI (aa (ag pM (mC (.int 10)) (mC (.int 29))) (aa (bD (aa (bD (aa (mC (.int 0)) (aa (mC (.int 0)) ae))) ae)) (aa (bD (aa (bD (aa (mC (.int 0)) (aa (mC (.int 1)) ae))) (aa (bD (aa (mC (.int 1)) (aa (mC (.int 2)) ae))) ae))) (aa (mC (.str "0,0")) (aa (bD (aa (mC (.int 0)) (aa (mC (.int 1)) (aa (mC (.int 2)) ae)))) (aa (Bp [0,1] 2) ae))))))))) (aU 1 (ag aw (ab 1) (ah aE (aa (ab 0) (aa (mC (.int 20)) ae)))))))
def jT:Fn:=fnM [false] 2 rf
theorem sc_l_odd:FnScope ["_law_box_here","_law_some"] ["_law_box_here"] (af jI):=by ac_rfl
theorem tK (B:Bl mg) (D:Def K mg "_law_odd" jI) (a:aA P w K mg base "_law_take" 1 ["_law_box_here","_law_many"] aE):aA P w K mg base "_law_odd" 2 ["_law_box_here"] jT :=by specialize sc_l_odd
def Bm:SM:=(aU 4 (ag gtI (ah dF (aa (ag aw (ab 0) (ab 1)) (aa (ag aw (ab 0) (ab 2)) (aa (ag aw (ab 0) (ab 3)) ae)))) (mC (.int 0))))
def gv:Fn:=fnM [false,false,false,false] 4 Bm
theorem sc_l_up:FnScope ["_law_sheet_here","_law_i","_law_j","_law_k"] ["_law_sheet_here","_law_i","_law_j","_law_k"] (af lP):=by ac_rfl
theorem wB (B:Bl mg) (D:Def K mg "_law_up" lP) (a:aA P w K mg base "_law_bend" 1 ["_law_one","_law_two","_law_three"] dF):aA P w K mg base "_law_up" 2 ["_law_sheet_here","_law_i","_law_j","_law_k"] gv :=by specialize sc_l_up
def bf:EM:=(ah eh (aa (ab 0) ae))
def cF:EM:=(bB (cx (ab 0)) (ao 0) b9 bf [none])
def bQ:M3 Bool:=(cOr (cB (ag ltI (ab 0) (mC (.int 0)))) (cB (ag geI (ab 0) (ab 1))))
def dY:EM:=(ab 0)
def dX:EM:=(bB (cx (ab 0)) (ao 0) bQ dY [none,some 1])
def dz:SM:=(aD (sIf (cOr (dJ (cB (mUn (eS "tuple") (ab 0)))) (dJ (cB (ak oZ (aa cF ae))))) (aU 2 (mC (.bl false))) dm) (aD (sIf (cB (ag neX dX (dI ae))) (aU 2 (mC (.bl false))) dm) (aU 2 (ag eqX (ak qe (aa (ab 0) ae)) (ak ssD (aa (ab 0) ae))))))
def bg:Fn:=fnM [false,false] 2 dz
theorem sc_l_rising:FnScope ["_law_thing","_law_many"] ["_law_thing","_law_many"] (af eF):=by ac_rfl
theorem mH (B:Bl mg) (D:Def K mg "_law_rising" eF) (a:aA P w K mg base "_law_whole" 1 ["_law_thing"] eh):aA P w K mg base "_law_rising" 2 ["_law_thing","_law_many"] bg :=by specialize sc_l_rising
def cg:SM:=(sIf (cB (ag neX (ah gv (aa (ab 0) (aa (ag aw (ab 1) (ab 3)) (aa (ag aw (ab 1) (ag aN (ab 3) (mC (.int 1)))) (aa (ag aw (ab 1) (ag aN (ab 3) (mC (.int 2)))) ae))))) (ab 2))) (aU 3 (mC (.bl false))) dm)
def iY:SM:=(aD (sIf (cOr (dJ (cB (ah bg (aa (ab 1) (aa (ak bM (aa (ab 0) ae)) ae))))) (cB (ag ltI (ak bM (aa (ab 1) ae)) (mC (.int 2))))) (aU 3 (mC (.bl false))) dm) (aD (cJ (bx cz (aa (ag eE (ak bM (aa (ab 1) ae)) (mC (.int 2))) ae)) (ao 3) cg) (aU 3 (mC (.bl true)))))
def cD:Fn:=fnM [false,false,false] 4 iY
theorem sc_l_bends:FnScope ["_law_sheet_here","_law_thing","_law_up_here","_law_at"] ["_law_sheet_here","_law_thing","_law_up_here"] (af gc):=by ac_rfl
theorem oS (B:Bl mg) (D:Def K mg "_law_bends" gc) (a:aA P w K mg base "_law_rising" 2 ["_law_thing","_law_many"] bg) (b:aA P w K mg base "_law_up" 2 ["_law_sheet_here","_law_i","_law_j","_law_k"] gv):aA P w K mg base "_law_bends" 3 ["_law_sheet_here","_law_thing","_law_up_here"] cD :=by specialize sc_l_bends
def fM:EM:=(ah aE (aa (ab 1) (aa (ak bM (aa (ab 2) ae)) ae)))
def js:EM:=(bB (bx cz (aa (mC (.int 2)) ae)) (ao 0) b9 fM [none,some 0,some 1])
def dN:SM:=(sIf (cOr (cB (ag ltI (ak bM (aa (ab 3) ae)) (mC (.int 2)))) (kA (cB (ag eqX (ah gv (aa (ab 1) (aa (ag aw (ab 3) (mUn dU (mC (.int 2)))) (aa (ag aw (ab 3) (mUn dU (mC (.int 1)))) (aa (ab 4) ae))))) (ab 2))) (cB (ag gtI (ah aE (aa (ab 0) (aa (mC (.int 4)) ae))) (mC (.int 0)))))) (aT 3 (ag aN (ab 3) (bD (aa (ab 4) ae)))) dm)
def nV:SM:=(aD (aT 3 (ak jA (aa (ak xj (aa js ae)) ae))) (aD (cJ (bx iS (aa (ag aN (ag aw (ab 3) (mUn dU (mC (.int 1)))) (mC (.int 1))) (aa (ak bM (aa (ab 1) ae)) ae))) (ao 4) dN) (aU 3 (ab 3))))
def fW:Fn:=fnM [false,false,false] 5 nV
theorem sc_l_gone:FnScope ["_law_box_here","_law_sheet_here","_law_up_here","_law_row","_law_place"] ["_law_box_here","_law_sheet_here","_law_up_here"] (af hJ):=by ac_rfl
theorem qu (B:Bl mg) (D:Def K mg "_law_gone" hJ) (a:aA P w K mg base "_law_take" 1 ["_law_box_here","_law_many"] aE) (b:aA P w K mg base "_law_up" 2 ["_law_sheet_here","_law_i","_law_j","_law_k"] gv):aA P w K mg base "_law_gone" 3 ["_law_box_here","_law_sheet_here","_law_up_here"] fW :=by specialize sc_l_gone
def nW:SM:=(aD (aT 4 (ah aE (aa (ab 0) (aa (ak bM (aa (ab 1) ae)) ae)))) (aD (aT 5 (ah aE (aa (ab 0) (aa (ak bM (aa (ab 1) ae)) ae)))) (aD (aT 6 (ak qe (aa (ab 1) ae))) (aD (io (eW 2 (aY (dE 6 4) (aY (dE 6 5) d6))) (bD (aa (ag aw (ab 6) (ab 5)) (aa (ag aw (ab 6) (ab 4)) ae)))) (aD (aT 7 (dI (aa (ag aN (mSl slD (ab 1) du (bP (ab 4))) (mSl slD (ab 1) (bP (ag aN (ab 4) (mC (.int 1)))) du)) (aa (ag aN (ag aN (mSl slD (ab 1) du (bP (ab 4))) (bD (aa (ag aw (ab 1) (ab 4)) ae))) (mSl slD (ab 1) (bP (ab 4)) du)) (aa (ak jA (aa (ab 6) ae)) (aa (ag aN (ab 1) (bD (aa (ab 2) ae))) (aa (ak qe (aa (ab 1) ae)) ae))))))) (aD (aT 7 (ag aN (ab 7) (dI (aa (ag aN (ag aN (mSl slD (ab 1) du (bP (ab 4))) (bD (aa (ag eqX (ag aw (ab 1) (ab 4)) (mC (.int 1))) ae))) (mSl slD (ab 1) (bP (ag aN (ab 4) (mC (.int 1)))) du)) (aa (oe (ab 1) (bP (mUn dU (mC (.int 1))))) (aa (ag aN (ag aN (mSl slD (ab 1) du (bP (ab 4))) (bD (aa (ab 3) ae))) (mSl slD (ab 1) (bP (ab 4)) du)) (aa (ag aN (bD (aa (mUn dU (mC (.int 1))) ae)) (ab 1)) ae))))))) (aD (fc (qd isL tV 7 (aa (ak jA (aa (ak ssD (aa (ag aN (ab 1) (bD (aa (ah aE (aa (ab 0) (aa (ab 2) ae))) ae))) ae)) ae)) ae))) (aU 4 (ag aw (ab 7) (ah aE (aa (ab 0) (aa (mC (.int 10)) ae))))))))))))
def iI:Fn:=fnM [false,false,false,false] 8 nW
theorem sc_l_bent:FnScope ["_law_box_here","_law_row","_law_many","_law_odd_here","_law_at","_law_to","_law_other","_law_some"] ["_law_box_here","_law_row","_law_many","_law_odd_here"] (af ic):=by ac_rfl
theorem qx (B:Bl mg) (D:Def K mg "_law_bent" ic) (a:aA P w K mg base "_law_take" 1 ["_law_box_here","_law_many"] aE):aA P w K mg base "_law_bent" 2 ["_law_box_here","_law_row","_law_many","_law_odd_here"] iI :=by specialize sc_l_bent
def j9:M3 Bool:=(cB (ag eqX (ah aE (aa (ab 1) (aa (mC (.int 2)) ae))) (mC (.int 1))))
def nU:EM:=(ab 0)
def nR:EM:=(bB (bx cz (aa (ak bM (aa (ab 3) ae)) ae)) (ao 0) j9 nU [none,some 2])
def j8:EM:=(ah iI (aa (ab 1) (aa (ab 2) (aa (ak bM (aa (ab 4) ae)) (aa (ab 3) ae)))))
def nQ:EM:=(bB (bx cz (aa (mC (.int 3)) ae)) (ao 0) b9 j8 [none,some 2,some 8,some 4,some 3])
def fL:SM:=(aT 7 (ag aN (ab 7) nQ))
def fK:SM:=(aD (aT 10 (ak lT (aa (ab 9) ae))) (aD (sIf (dJ (cB (ah eA (aa (ah iJ (aa (ab 9) (aa (ab 3) ae))) (aa (ah cD (aa (ab 3) (aa (ab 9) (aa (mC (.bl true)) ae)))) ae))))) (aU 1 (mC (.bl false))) dm) (sIf (cOr (dJ (cB (ah eA (aa (ah iK (aa (ab 9) (aa (ab 3) ae))) (aa (ah cD (aa (ab 3) (aa (ab 9) (aa (mC (.bl false)) ae)))) ae))))) (cB (ag neX (ak lT (aa (ab 9) ae)) (ab 10)))) (aU 1 (mC (.bl false))) dm)))
def iy:SM:=(aD (aT 2 (ah jV (aa (ab 0) (aa (ab 1) ae)))) (aD (aT 3 (ah eB (aa (ab 2) (aa (mC (.int 9)) ae)))) (aD (aT 4 (ah jT (aa (ab 2) ae))) (aD (aT 5 (ak jA (aa nR ae))) (aD (aT 6 (dI (aa (ah fW (aa (ab 2) (aa (ab 3) (aa (mC (.bl true)) ae)))) (aa (ah fW (aa (ab 2) (aa (ab 3) (aa (mC (.bl false)) ae)))) ae)))) (aD (aT 7 (ag aN (ab 6) (dI (aa (ab 5) (aa (ab 4) (aa (bD ae) (aa (bD (aa (mC (.int 0)) ae)) (aa (ak qJ (aa (ak bM (aa (ab 3) ae)) ae)) ae)))))))) (aD (cJ (cx (ab 6)) (ao 8) fL) (cJ (cx (ab 7)) (ao 9) fK))))))))
def m_law:SM:=(aD (cJ (bx cz (aa (ak zj (aa (mC (.int 1)) (aa (ak zh (aa (ak bM (aa (ab 0) ae)) (aa (mC (.int 5)) ae))) ae))) ae)) (ao 1) iy) (aU 1 (mC (.bl true))))
def zw:Fn:=fnM [false] 11 m_law
theorem sc_law:FnScope ["_law_script","_law_k","_law_box_here","_law_sheet_here","_law_odd_here","_law_given","_law_rows","_law_things","_law_row","_law_thing","_law_kept"] ["_law_script"] (af fu):=by ac_rfl
theorem yJ {f:Addr} {fd:FuncData} (B:Bl mg) (D:Fun K "law" "law" fu f fd) (a:aA P w K mg base "_law_bends" 3 ["_law_sheet_here","_law_thing","_law_up_here"] cD) (g:aA P w K mg base "_law_bent" 2 ["_law_box_here","_law_row","_law_many","_law_odd_here"] iI) (h:aA P w K mg base "_law_box" 2 ["_law_script","_law_k"] jV) (e:aA P w K mg base "_law_gone" 3 ["_law_box_here","_law_sheet_here","_law_up_here"] fW) (i:aA P w K mg base "_law_odd" 2 ["_law_box_here"] jT) (c:aA P w K mg base "_law_sheet" 3 ["_law_box_here","_law_most"] eB) (d:aA P w K mg base "_law_take" 1 ["_law_box_here","_law_many"] aE) (b:aA P w K mg base "_law_truth" 1 ["_law_found","_law_due"] eA) (j:aA P w K mg base "is_cap" 8 ["thing","sheet"] iK) (l:aA P w K mg base "is_cup" 8 ["thing","sheet"] iJ):FnOk P w K mg base CX0 9 f fd ["_law_script"] (se K zw) :=
 BF (k:=8) D sc_law rfl rfl fun cdv A outer s H E f G hr hp =>
  have nd:=sc_law.nd;by and_intros
end
theorem kX (i:Int):bI [(.int i,.z)]=some (.ok (.bl true,.z),[(.int i,.z)]):=by
 apply aG (ρ:=[some (.int i,.z)]) rfl rfl
 ·nofun
 ·rfl
theorem so (p:Pt):eZ [(Pd p,.z)]=some (.ok (.bl true,.z),[(Pd p,.z)]):=by
 apply aG (ρ:=[some (Pd p,.z)]) rfl rfl
 ·nomatch [(kX _)]
 ·rfl
theorem mo {f e:L3.D->L3.D->Option (L3.D × Fl)} {ma mb mc:EM} {ra rb rc:R3} {ρ ρ1 ρ2 ρ3:Sto} {da db a c d:L3.D} {fl b:Fl} (h1:ma ρ=some (.ok ra,ρ1)) (h2:mb ρ1=some (.ok rb,ρ2)) (h3:der ra ρ2=some (.ok da,ρ2)) (g:der rb ρ2=some (.ok db,ρ2)) (j:f da db=some (.bl true,fl)) (i:mc ρ2=some (.ok rc,ρ3)) (h:der rb ρ3=some (.ok a,ρ3)) (k:der rc ρ3=some (.ok c,ρ3)) (l:e a c=some (d,b)):cS f e ma mb mc ρ=some (.ok (.val d b),ρ3):=by
 simp only [cS,ac,h1,h2,h3,g,j,aR,Option.bind_some,asB,CD,if_true,i,h,k,l]
theorem uH (ps:List Pt) (h0:0 < ps.length) (h1:ps.length<=24):dg [(Shd ps,.z)]=some (.ok (.bl true,.z),[(Shd ps,.z)]):=by
 obtain ⟨τ',e,a,rfl⟩:=fT (bnd:=ao 0) (c:=b9) (elt:=cR) (fun τ=>∃ a,τ=[a]) (fun _=>true) (fun _=>.bl true) (ds:=ps.map Pd) (τ:=[none]) ⟨none,rfl⟩ (by
  rintro d hd τ ⟨a,rfl⟩
  obtain ⟨p,j,rfl⟩:=Cm.mp hd
  exact ⟨[some (Pd p,.z)],_,rfl,rfl,(fun h=>by cases h),fun _=>⟨.val (.bl true) .z,[some (Pd p,.z)],(.bl true,.z),[some (Pd p,.z)],by unfold cR;(nomatch [(so _)]),rfl,rfl,_,rfl⟩⟩)
 have i:=lH (ds:=((ps.map Pd).filter fun _=>true).map fun _=>.bl true) (fun d hd=>by obtain ⟨_,_,rfl⟩:=Cm.mp hd;rfl)
 generalize ((ps.map Pd).filter fun _=>true).map (fun _=>L3.D.bl true)=out at *
 have f:fg [some (Shd ps,.z)]=some (.ok (.val (.lst out) .u),[some (Shd ps,.z)]):=aQ (im:=cx (ab 0)) (ix:=[none]) (ρ1:=[some (Shd ps,.z)]) (ρ2:=[some (Shd ps,.z)]) (ds:=ps.map Pd) (rs:=[.pl 0]) rfl e (by simp;omega) rfl
 have g:leI (.int 1) (.int ((ps.map Pd).length:Int))=some (.bl true,.z):=by simp [bo];omega
 have b:leI (.int ((ps.map Pd).length:Int)) (.int 24)=some (.bl true,.z):=by simp [bo];omega
 apply aG (ρ:=[some (Shd ps,.z)]) rfl rfl
 ·apply ba
  ·apply iD
   ·apply mo
    ·exact i_c
    ·nofun
    ·rfl
    ·rfl
    ·exact g
    ·exact i_c
    ·rfl
    ·rfl
    ·exact b
   ·rfl
   ·rfl
   ·(repeat' (first | with_reducible exact f | infer_instance | exact i | eq_refl))
  ·rfl
 ·rfl
theorem dl {xs:List L3.D} {k:Int} {d:L3.D} (h:L2.atI xs k=some d):aw (.tup xs) (.int k)=some (d,.z):=by
 show orD ixD jx (.tup xs) (.int k)=_
 simp [orD,ixD,h]
theorem lL {xs:List L3.D} {k:Int} {d:L3.D} (h:L2.atI xs k=some d):aw (.lst xs) (.int k)=some (d,.z):=by
 show orD ixD jx (.lst xs) (.int k)=_
 simp [orD,ixD,h]
theorem uC (ps:List Pt) (h0:0 < ps.length) (h1:ps.length<=24) (R:Rising ps):cq [(Shd ps,.z)]=some (.ok (.bl true,.z),[(Shd ps,.z)]):=by
 obtain ⟨τ',e,a,rfl⟩:=fT (bnd:=ao 0) (c:=b9) (elt:=ci) (fun τ=>∃ a,τ=[a,some (Shd ps,.z)]) (fun _=>true) (fun _=>.bl true) (ds:=aH 0 (ps.length - 1)) (τ:=[none,some (Shd ps,.z)]) ⟨none,rfl⟩ (by
  rintro d hd τ ⟨a,rfl⟩
  obtain ⟨i,hi⟩:=List.getElem?_of_mem hd
  obtain ⟨hi,rfl⟩:=cK hi
  have g:ps[i]?=some ps[i]:=Ce _
  have f:ps[i+1]?=some ps[i+1]:=Ce _
  have b:=R i (i+1) _ _ (by omega) g f
  have a1:aw (Shd ps) (.int (0+(i:Int)))=some (Pd ps[i],.z):=dl (by rw [Int.zero_add];exact tU g)
  have a2:aw (Shd ps) (.int (0+(i:Int)+1))=some (Pd ps[i+1],.z):=dl (by rw [Int.zero_add];exact tU f)
  have l:ltI (.int ps[i].1) (.int ps[i+1].1)=some (.bl true,.z):=by simp [bo,b]
  generalize (0+(i:Int))=j at *
  refine ⟨[some (.int j,.z),some (Shd ps,.z)],_,rfl,rfl,(fun h=>by cases h),fun _=>⟨.val (.bl true) .z,[some (.int j,.z),some (Shd ps,.z)],(.bl true,.z),[some (.int j,.z),some (Shd ps,.z)],?_,rfl,rfl,_,rfl⟩⟩
  unfold ci
  (exists a1,a2,l))
 have o:((ps.length:Int) - 1).toNat=ps.length - 1:=by omega
 have k:cz [.int (((ps.map Pd).length:Int) - 1)]=some (aH 0 (ps.length - 1)):=bS (by simp;omega) (by simp)
 have n:=lH (ds:=((aH 0 (ps.length - 1)).filter fun _=>true).map fun _=>.bl true) (fun d hd=>by obtain ⟨_,_,rfl⟩:=Cm.mp hd;rfl)
 generalize ((aH 0 (ps.length - 1)).filter fun _=>true).map (fun _=>L3.D.bl true)=out at *
 have m:dP [some (Shd ps,.z)]=some (.ok (.val (.lst out) .u),[some (Shd ps,.z)]):=aQ (ρ1:=[some (Shd ps,.z)]) (rs:=[]) (by (repeat' (first | with_reducible apply cN (h3:=k) | infer_instance | eq_refl))) e (by rw [a8];omega) rfl
 apply aG (ρ:=[some (Shd ps,.z)]) rfl rfl
 ·unfold fN;(repeat' (first | with_reducible exact m | infer_instance | exact n | eq_refl))
 ·rfl
theorem kZ (p q r:Int × Int) (h1:-18446744073709551616 < q.1 - p.1/\q.1 - p.1 < 18446744073709551616) (h2:-18446744073709551616 < q.2 - p.2/\q.2 - p.2 < 18446744073709551616):jm [(Pd p,.z),(Pd q,.z),(Pd r,.z)]=some (.ok (.int (aV p q r),.z),[(Pd p,.z),(Pd q,.z),(Pd r,.z)]):=by
 apply aG (ρ:=[some (Pd p,.z),some (Pd q,.z),some (Pd r,.z),none]) rfl rfl
 ·apply aj
  ·exists ff h1
  ·exists ff h2
 ·rfl
theorem ue {n i j:Nat} (xs:List L3.D) (k:n<=25) (l:j < n) (elt:EM) (he:∀ (a b c:L3.D),elt [some (c,.z),some (a,.z),some (b,.z)]=some (.ok (.val (.tup [a,b,c]) .z),[some (c,.z),some (a,.z),some (b,.z)])) :
  bB (bx iS (aa (ag aN (ab 3) (mC (.int 1))) (aa (ab 0) ae))) (ao 0) b9 elt [none,some 2,some 3] [some (.int n,.z),some (.lst xs,.u),some (.int i,.z),some (.int j,.z)]=some (.ok (.val (.lst ((kG i j (n - (j+1))).map Td)) .u),[some (.int n,.z),some (.lst xs,.u),some (.int i,.z),some (.int j,.z)]):=by
 obtain ⟨τ',e,a,rfl⟩:=fT (bnd:=ao 0) (c:=b9) (elt:=elt) (fun τ=>∃ a,τ=[a,some (.int i,.z),some (.int j,.z)]) (fun _=>true) (fun d=>.tup [.int i,.int j,d]) (ds:=aH ((j:Int)+1) (n - (j+1))) (τ:=[none,some (.int i,.z),some (.int j,.z)]) ⟨none,rfl⟩ (by
  rintro d hd τ ⟨a,rfl⟩
  exact ⟨[some (d,.z),some (.int i,.z),some (.int j,.z)],_,rfl,rfl,(fun h=>by cases h),fun _=>⟨_,_,(.tup [.int i,.int j,d],.z),_,he _ _ _,rfl,rfl,_,rfl⟩⟩)
 have g:((aH ((j:Int)+1) (n - (j+1))).filter fun _=>true).map (fun d=>L3.D.tup [.int i,.int j,d])=(kG i j (n - (j+1))).map Td:=by
  rw [CO.mpr (fun _ _=>rfl)]
  simp [aH,kG,Function.comp_def]
 rw [g] at e
 have f:iS [.int ((j:Int)+1),.int n]=some (aH ((j:Int)+1) (n - (j+1))):=lS (by omega) (by omega) (by omega)
 exact aQ (rs:=[]) (by (repeat' (first | with_reducible apply cN (h3:=f) | infer_instance | eq_refl))) e (by rw [a8];omega) rfl
theorem BI {A B:List L3.D} (h:A.length+B.length<=16777216):wg (.lst A) [.lst B]=some (.lst (A ++ B),.non):=by simp [wg,h]
theorem wG {A:List L3.D} {d:L3.D} (h:A.length < 16777216):tV (.lst A) [d]=some (.lst (A ++ [d]),.non):=by simp [tV,h]
theorem my {A B:List L3.D} (h:A.length+B.length<=16777216):aN (.lst A) (.lst B)=some (.lst (A ++ B),.u):=by simp [orD,bo,oK,oJ,oM,h]
theorem cp {A B:List L3.D} (h:A.length+B.length<=16777216):aN (.tup A) (.tup B)=some (.tup (A ++ B),.z):=by simp [orD,bo,oK,oJ,oM,h]
theorem r6 {n:Nat} (h:n<=25) {b1 b2:SM} (h2:b2=cJ (bx iS (aa (ag aN (ab 2) (mC (.int 1))) (aa (ab 0) ae))) (ao 3) b1)
  (h1:∀ (i j:Nat) (xs:List L3.D),j < n->xs.length<=20000->b1 [some (.int n,.z),some (.lst xs,.u),some (.int i,.z),some (.int j,.z)]=some (.ok .nx,[some (.int n,.z),some (.lst (xs ++ (kG i j (n - (j+1))).map Td),.u),some (.int i,.z),some (.int j,.z)])) :
  ∃ v2 v3,cJ (bx cz (aa (ab 0) ae)) (ao 2) b2 [some (.int n,.z),some (.lst [],.u),none,none]=some (.ok .nx,[some (.int n,.z),some (.lst ((iM n).map Td),.u),v2,v3]):=by
 have inner:∀ (i:Nat) (xs:List Tri) (v3:Option (L3.D × Fl)),i < n->xs.length<=15625->∃ a,b2 [some (.int n,.z),some (.lst (xs.map Td),.u),some (.int i,.z),v3]=some (.ok .nx,[some (.int n,.z),some (.lst ((xs ++ iR n i (n - (i+1))).map Td),.u),some (.int i,.z),a]):=by
  intro i xs v3 hi l
  obtain ⟨ρ',e,a,rfl⟩:=bH (bnd:=ao 3) (b:=b1) (fun m ρ=>∃ v3,ρ=[some (.int n,.z),some (.lst ((xs ++ iR n i m).map Td),.u),some (.int i,.z),v3]) (ds:=aH ((i:Int)+1) (n - (i+1))) (ρ:=[some (.int n,.z),some (.lst (xs.map Td),.u),some (.int i,.z),v3]) (k:=0) ⟨v3,by simp [iR]⟩ (by
   rintro m d ρ hd ⟨v3,rfl⟩
   obtain ⟨hm,rfl⟩:=cK hd
   have f:((xs ++ iR n i m).map Td).length<=20000:=by
    have:=pD (n:=n) (i:=i) (m:=m) h (by omega)
    simp only [Ci,Cz]
    omega
   have c:=h1 i (i+1+m) ((xs ++ iR n i m).map Td) (by omega) f
   rw [show ((i+1+m:Nat):Int)=(i:Int)+1+m by omega,<- List.map_append,List.append_assoc,<- k4] at c
   exact ⟨_,_,by rw [Cw];rfl,.inl c,_,by rw [Cw]⟩)
  refine ⟨a,?_⟩
  rw [a8,Cw] at e
  have g:iS [.int ((i:Int)+1),.int n]=some (aH ((i:Int)+1) (n - (i+1))):=lS (by omega) (by omega) (by omega)
  rw [h2]
  apply gj
  ·(repeat' (first | with_reducible apply cN (h3:=g) | infer_instance | eq_refl))
  ·rfl
  ·exact e
 obtain ⟨ρ',e,v2,v3,rfl⟩:=bH (bnd:=ao 2) (b:=b2) (fun m ρ=>∃ v2 v3,ρ=[some (.int n,.z),some (.lst ((lR n m).map Td),.u),v2,v3]) (ds:=aH 0 n) (ρ:=[some (.int n,.z),some (.lst [],.u),none,none]) (k:=0) ⟨none,none,rfl⟩ (by
  rintro m d ρ hd ⟨v2,v3,rfl⟩
  obtain ⟨hm,rfl⟩:=cK hd
  rw [Cw,Int.zero_add]
  obtain ⟨a,e⟩:=inner m (lR n m) v3 hm (pE h (by omega))
  rw [<- k6] at e
  exact ⟨_,_,rfl,.inl e,_,_,rfl⟩)
 rw [a8,Cw] at e
 have g:cz [.int (n:Int)]=some (aH 0 n):=bS (by omega) (by omega)
 refine ⟨v2,v3,?_⟩
 apply gj
 ·(repeat' (first | with_reducible apply cN (h3:=g) | infer_instance | eq_refl))
 ·rfl
 ·exact e
theorem jY (n:Nat) (d:n<=25):eg [(.int n,.z)]=some (.ok (.lst ((iM n).map Td),.u),[(.int n,.z)]):=by
 obtain ⟨v2,v3,e⟩:=r6 (n:=n) d (b1:=fI) (b2:=jr) rfl (by
  intro i j xs g h
  have c:=ue (n:=n) (i:=i) (j:=j) xs d g fH (fun a b c=>by unfold fH;(nofun))
  have f:xs.length+((kG i j (n - (j+1))).map Td).length<=16777216:=by
   rw [Ci,ng];omega
  unfold fI jq
  (repeat' (first | with_reducible exact c | infer_instance | exact BI f | eq_refl)))
 apply aG (ρ:=[some (.int n,.z),none,none,none]) rfl rfl
 ·apply aj
  ·nofun
  ·apply aj
   ·exact e
   ·nofun
 ·rfl
theorem we {S:List L3.D} {i j k:Int} {p q r:Pt} {v2:Option (L3.D × Fl)} (a1:aw (.tup S) (.int i)=some (Pd p,.z)) (a2:aw (.tup S) (.int j)=some (Pd q,.z)) (l:aw (.tup S) (.int k)=some (Pd r,.z)) (f:Small p) (e:Small q) (h0:aV p q r ≠ 0):bp [some (.tup S,.z),some (.tup [.int i,.int j,.int k],.z),v2]=some (.ok .nx,[some (.tup S,.z),some (.tup [.int i,.int j,.int k],.z),some (.tup [Pd p,Pd q,Pd r],.z)]):=by
 have b:=kZ p q r (Small.sub f e).1 (Small.sub f e).2
 have one:∀ (x d:L3.D) (a:Option (L3.D × Fl)),aw (.tup S) x=some (d,.z)->bV [some (x,.z),some (.tup S,.z)]=some (.ok (.val d .z),[some (x,.z),some (.tup S,.z)]):=fun x d a h=>by unfold bV;(exists h)
 have c:dA [some (.tup S,.z),some (.tup [.int i,.int j,.int k],.z),v2]=some (.ok (.val (.lst [Pd p,Pd q,Pd r]) .u),[some (.tup S,.z),some (.tup [.int i,.int j,.int k],.z),v2]):=by
  refine aQ (ρ1:=[some (.tup S,.z),some (.tup [.int i,.int j,.int k],.z),v2]) (ρ2:=[some (.tup S,.z),some (.tup [.int i,.int j,.int k],.z),v2]) (ds:=[.int i,.int j,.int k]) (rs:=[.pl 1]) (τ:=[some (.int k,.z),some (.tup S,.z)]) rfl ?_ (by simp) rfl
  have e1:=one (.int i) _ none a1
  have m:=one (.int j) _ none a2
  have n:=one (.int k) _ none l
  have g:∀ d a,ao 0 d [a,some (L3.D.tup S,.z)]=some [some (d,.z),some (.tup S,.z)]:=fun _ _=>rfl
  have cs:qp [none,some 0] (aB bX (us [some (L3.D.tup S,.z),some (.tup [.int i,.int j,.int k],.z),v2] (pls [R3.pl 1])) [some (.tup S,.z),some (.tup [.int i,.int j,.int k],.z),v2])=[none,some (.tup S,.z)]:=rfl
  rw [cs]
  simp only [bz,g,b9,ac,aO,if_true,e1,m,n,cw,nol]
 unfold bp
 apply aj
 ·(repeat' (first | with_reducible exact c | infer_instance | eq_refl))
 ·apply bY
  ·nomatch [b]
  ·exact Cu h0
  ·rfl
theorem xt (ps:List Pt) (n:ps.length<=24) (h:∀ p ∈ ps,Small p) (i:NoLine ps):bT [(Shd ps,.z)]=some (.ok (.non,.z),[(Shd ps,.z)]):=by
 have a:=jY ps.length (by omega)
 rw [show (ps.length:Int)=((ps.map Pd).length:Int) by rw [Ci]] at a
 obtain ⟨ρ',e,v1,v2,rfl⟩:=bH (bnd:=ao 1) (b:=bp) (fun _ ρ=>∃ v1 v2,ρ=[some (Shd ps,.z),v1,v2]) (ds:=(iM ps.length).map Td) (ρ:=[some (Shd ps,.z),none,none]) (k:=0) ⟨none,none,rfl⟩ (by
  rintro m d ρ hd ⟨v1,v2,rfl⟩
  rw [Cn,B9] at hd
  obtain ⟨t,a,rfl⟩:=hd
  obtain ⟨j,l,o⟩:=nM (Ck a)
  have f:ps[t.1]?=some (ps[t.1]'(by omega)):=Ce _
  have c:ps[t.2.1]?=some (ps[t.2.1]'(by omega)):=Ce _
  have g:ps[t.2.2]?=some (ps[t.2.2]'(by omega)):=Ce _
  have b:=we (v2:=v2) (dl (tU f)) (dl (tU c)) (dl (tU g)) (h _ (Ck f)) (h _ (Ck c)) (i _ _ _ _ _ _ j l f c g)
  exact ⟨[some (Shd ps,.z),some (Td t,.z),v2],_,rfl,.inl b,_,_,rfl⟩)
 apply aG (ρ:=[some (Shd ps,.z),none,none]) rfl rfl
 ·apply aj
  ·apply gj
   ·nomatch [a]
   ·rfl
   ·exact e
  ·nofun
 ·rfl
theorem m7 {ps:List Pt} (g:GoodSh ps):eY [(Shd ps,.z)]=some (.ok (.bl true,.z),[(Shd ps,.z)]):=by
 have h1:=uH ps g.pos g.most
 have h2:=uC ps g.pos g.most g.rising
 have h3:=xt ps g.most g.small g.noline
 apply aG (ρ:=[some (Shd ps,.z)]) rfl rfl
 ·apply aj
  ·apply bY
   ·nomatch [h1]
   ·rfl
   ·rfl
  ·nomatch [h2,h3]
 ·rfl
theorem sy {ps:List Pt} (g:GoodSh ps):cH [(Shd ps,.z)]=some (.ok (.non,.z),[(Shd ps,.z)]):=by
 have h1:=m7 g
 apply F_nx (ρ:=[some (Shd ps,.z)]) rfl rfl
 ·apply bY
  ·nomatch [h1]
  ·rfl
  ·rfl
 ·rfl
def mU (p q r:Pt):Int:=if 0 < aV p q r then 1 else -1
theorem pv {S:List L3.D} {i j k:Int} {p q r:Pt} (a1:aw (.tup S) (.int i)=some (Pd p,.z)) (a2:aw (.tup S) (.int j)=some (Pd q,.z)) (d:aw (.tup S) (.int k)=some (Pd r,.z)) (c:Small p) (a:Small q):di [(.tup S,.z),(.tup [.int i,.int j,.int k],.z)]=some (.ok (.int (mU p q r),.z),[(.tup S,.z),(.tup [.int i,.int j,.int k],.z)]):=by
 have b:=kZ p q r (Small.sub c a).1 (Small.sub c a).2
 by_cases h:0 < aV p q r
 ·rw [show mU p q r=1 from if_pos h]
  apply aG (ρ:=[some (.tup S,.z),some (.tup [.int i,.int j,.int k],.z)]) rfl rfl
  ·apply ba
   ·apply By
    ·nomatch [b],[a1,a2,d]
    ·exact Ct h
    ·exact i_c
   ·rfl
  ·rfl
 ·rw [show mU p q r = -1 from if_neg h]
  apply aG (ρ:=[some (.tup S,.z),some (.tup [.int i,.int j,.int k],.z)]) rfl rfl
  ·apply ba
   ·apply Bz
    ·nomatch [b],[a1,a2,d]
    ·exact Cu h
    ·nofun
   ·rfl
  ·rfl
theorem cG (c:Int) (m:Int) (h:0 < m):0<=c % m/\c % m < m:=⟨Int.emod_nonneg _ (by omega),Int.emod_lt_of_pos _ h⟩
theorem bO (n m:Int) (h:0 < m/\m < 1073741824):aE [(.lst [.int n],.u),(.int m,.z)]=some (.ok (.int (n % m),.z),[(.lst [.int (n / m)],.u),(.int m,.z)]):=by
 have hd:wn [.int n,.int m]=some (.tup [.int (n / m),.int (n % m)],.z):=by simp [c2,iB,h]
 apply aG (ρ:=[some (.lst [.int n],.u),some (.int m,.z),none,none]) rfl rfl
 ·apply aj
  ·exists hd
  ·apply aj
   ·nofun
   ·nofun
 ·rfl
theorem m9 (p q r:Int × Int) (h1:-18446744073709551616 < q.1 - p.1/\q.1 - p.1 < 18446744073709551616) (h2:-18446744073709551616 < q.2 - p.2/\q.2 - p.2 < 18446744073709551616):dF [(Pd p,.z),(Pd q,.z),(Pd r,.z)]=some (.ok (.int (aV p q r),.z),[(Pd p,.z),(Pd q,.z),(Pd r,.z)]):=by
 apply aG (ρ:=[some (Pd p,.z),some (Pd q,.z),some (Pd r,.z),none,none,none]) rfl rfl
 ·apply aj
  ·nofun
  apply aj
  ·exists ff h1
  ·exists ff h2
 ·rfl
theorem uF (ns:List Int) (k:Nat):∃ n:Int,iH [(.fls (ns.map .int),.z),(.int k,.z)]=some (.ok (.int n,.z),[(.fls (ns.map .int),.z),(.int k,.z)]):=by
 by_cases h:k < ns.length
 ·refine ⟨ns[k],?_⟩
  have a:aw (.fls (ns.map .int)) (.int (k:Int))=some (.int ns[k],.z):=by
   have:L2.atI (ns.map L3.D.int) (k:Int)=some (.int ns[k]):=rR (by simp [h])
   simp [orD,ixD,this]
  have b:(k:Int) < ((ns.map L3.D.int).length:Int):=by simp;omega
  generalize (k:Int)=kk at *
  apply aG (ρ:=[some (.fls (ns.map .int),.z),some (.int kk,.z)]) rfl rfl
  ·apply cQ
   apply cV
   ·nofun
   ·exact Ct b
   ·exists a
  ·rfl
 ·refine ⟨0,?_⟩
  have b:¬ (k:Int) < ((ns.map L3.D.int).length:Int):=by simp;omega
  generalize (k:Int)=kk at *
  apply aG (ρ:=[some (.fls (ns.map .int),.z),some (.int kk,.z)]) rfl rfl
  ·apply aj
   ·apply bY
    ·nofun
    ·exact Cu b
    ·rfl
   ·nofun
  ·rfl
theorem xq (c j:Int):∃ n:Int,jU [(.int c,.z),(.int j,.z)]=some (.ok (.int n,.z),[(.int c,.z),(.int j,.z)]):=by
 have a:=cG c 2147483647 (by decide)
 have b:=cG j 13 (by decide)
 obtain ⟨m,hm⟩:∃ m:Nat,j % 13=m:=⟨(j % 13).toNat,by omega⟩
 have e:m < 13:=by omega
 have d:∃ v:Int,aw (.lst [.int 48271,.int 69621,.int 16807,.int 39373,.int 30269,.int 40014,.int 40692,.int 50021,.int 61687,.int 71993,.int 83869,.int 95561,.int 30307]) (.int (j % 13))=some (.int v,.z):=by
  rw [hm]
  clear hm
  match m,e with
  | 0,_=>exact ⟨_,rfl⟩
  | 1,_=>exact ⟨_,rfl⟩
  | 2,_=>exact ⟨_,rfl⟩
  | 3,_=>exact ⟨_,rfl⟩
  | 4,_=>exact ⟨_,rfl⟩
  | 5,_=>exact ⟨_,rfl⟩
  | 6,_=>exact ⟨_,rfl⟩
  | 7,_=>exact ⟨_,rfl⟩
  | 8,_=>exact ⟨_,rfl⟩
  | 9,_=>exact ⟨_,rfl⟩
  | 10,_=>exact ⟨_,rfl⟩
  | 11,_=>exact ⟨_,rfl⟩
  | 12,_=>exact ⟨_,rfl⟩
 obtain ⟨v,f⟩:=d
 have c1:-18446744073709551616 < c % 2147483647+12345/\c % 2147483647+12345 < 18446744073709551616:=by omega
 have c2:∀ z:Int,-18446744073709551616 < z % 1000000007/\z % 1000000007 < 18446744073709551616:=fun z=>by
  have:=cG z 1000000007 (by decide)
  omega
 apply Exists.intro
 apply aG (ρ:=[some (.int c,.z),some (.int j,.z),none,none]) rfl rfl
 ·apply aj
  ·nofun
  apply aj
  ·exists f,ff (by decide),ff c1
  apply aj
  ·nofun
  ·exists ff (by decide),ff (c2 _)
 ·rfl
theorem xu (ns:List Int) (k:Nat):∃ n:Int,jV [(.fls (ns.map .int),.z),(.int k,.z)]=some (.ok (.lst [.int n],.u),[(.fls (ns.map .int),.z),(.int k,.z)]):=by
 obtain ⟨c,a⟩:=uF ns k
 generalize L3.D.fls (ns.map .int)=S at *
 generalize L3.D.int (k:Int)=kk at *
 by_cases h:c % 2=0
 ·apply Exists.intro
  apply aG (ρ:=[some (S,.z),some (kk,.z),none,none,none]) rfl rfl
  ·apply aj
   ·nomatch [a]
   apply cQ
   apply cV
   ·nofun
   ·exact Ct h
   ·nofun
  ·rfl
 ·obtain ⟨ρ',e,n,v4,rfl⟩:=bH (bnd:=ao 4) (b:=gu) (fun _ ρ=>∃ (n:Int) (v4:Option (L3.D × Fl)),ρ=[some (S,.z),some (kk,.z),some (.int c,.z),some (.int n,.z),v4]) (ds:=aH 0 40) (ρ:=[some (S,.z),some (kk,.z),some (.int c,.z),some (.int 0,.z),none]) (k:=0) ⟨0,none,rfl⟩ (by
   rintro i d ρ hd ⟨n,v4,rfl⟩
   obtain ⟨hi,rfl⟩:=cK hd
   obtain ⟨m,hm⟩:=xq c (0+(i:Int))
   generalize (0+(i:Int))=j at *
   exact ⟨_,[some (S,.z),some (kk,.z),some (.int c,.z),some (.int (n * 142857143+m),.z),some (.int j,.z)],rfl,.inl (by unfold gu;(nomatch [hm],[vB (by decide)])),_,_,rfl⟩)
  refine ⟨n,?_⟩
  apply aG (ρ:=[some (S,.z),some (kk,.z),none,none,none]) rfl rfl
  ·apply aj
   ·nomatch [a]
   apply aj
   ·apply bY
    ·nofun
    ·exact Cu h
    ·rfl
   apply aj
   ·nofun
   apply aj
   ·apply gj
    ·exact cN (by (nofun)) rfl (bS (n:=40) (by decide) (by decide))
    ·rfl
    ·exact e
   ·nofun
  ·rfl
theorem wb {X Z:L3.D} {f:Fl} {k:L3.D} {p q:L3.D} {b:Int} (a:dF [(p,.z),(q,.z),(Z,.z)]=some (.ok (.int b,.z),[(p,.z),(q,.z),(Z,.z)])) :
  cM [some (X,f),some (Z,.z),some (k,.z),some (q,.z),some (p,.z)]=some (.ok (if b=0 then .rt (.bl false) .z else .nx),[some (X,f),some (Z,.z),some (k,.z),some (q,.z),some (p,.z)]):=by
 by_cases h:b=0
 ·rw [if_pos h]
  apply cV
  ·nomatch [a]
  ·exact Ct h
  ·nofun
 ·rw [if_neg h]
  apply bY
  ·nomatch [a]
  ·exact Cu h
  ·rfl
theorem uE (ps:List Pt) (z:Pt) (x:∀ p ∈ ps,Small p) (E:ps.length<=24):∃ b:Bool,eC [(.lst (ps.map Pd),.u),(Pd z,.z)]=some (.ok (.bl b,.z),[(.lst (ps.map Pd),.u),(Pd z,.z)])/\(b=true->wM ps z)/\(b=false->∃ (i j:Nat) (p q:Pt),i < j/\ps[i]?=some p/\ps[j]?=some q/\aV p q z=0):=by
 have inner:∀ (i:Nat) (q:Pt) (v4:Option (L3.D × Fl)),ps[i]?=some q->∃ a,b8 (ao 4) cM ((ps.take i).map Pd) [some (.lst (ps.map Pd),.l),some (Pd z,.z),some (.int i,.z),some (Pd q,.z),v4]=some (.ok .nx,[some (.lst (ps.map Pd),.l),some (Pd z,.z),some (.int i,.z),some (Pd q,.z),a])/\(∀ j p,j < i->ps[j]?=some p->aV p q z ≠ 0) \/
   b8 (ao 4) cM ((ps.take i).map Pd) [some (.lst (ps.map Pd),.l),some (Pd z,.z),some (.int i,.z),some (Pd q,.z),v4]=some (.ok (.rt (.bl false) .z),[some (.lst (ps.map Pd),.l),some (Pd z,.z),some (.int i,.z),some (Pd q,.z),a])/\∃ j p,j < i/\ps[j]?=some p/\aV p q z=0:=by
  intro i q v4 n
  have hi:i < ps.length:=(Cj.mp n).1
  obtain ⟨ρ',h⟩:=mr (bnd:=ao 4) (b:=cM) (fun m ρ=>∃ v4,ρ=[some (.lst (ps.map Pd),.l),some (Pd z,.z),some (.int i,.z),some (Pd q,.z),v4]/\∀ j p,j < m->ps[j]?=some p->aV p q z ≠ 0)
   (fun m r f ρ=>r=.bl false/\f=.z/\∃ v4,ρ=[some (.lst (ps.map Pd),.l),some (Pd z,.z),some (.int i,.z),some (Pd q,.z),v4]/\∃ p,ps[m]?=some p/\aV p q z=0)
   (ds:=(ps.take i).map Pd) (ρ:=[some (.lst (ps.map Pd),.l),some (Pd z,.z),some (.int i,.z),some (Pd q,.z),v4]) (k:=0) ⟨v4,rfl,fun j p h=>absurd h (Nat.not_lt_zero _)⟩ (by
    rintro m d ρ hd ⟨v4,rfl,w⟩
    rw [Cn,B9] at hd
    obtain ⟨p,g,rfl⟩:=hd
    have o:ps[m]?=some p/\m < i:=by
     rw [List.getElem?_take] at g
     split at g
     ·exact ⟨g,by assumption⟩
     ·cases g
    have sm:=Small.sub (x p (Ck o.1)) (x q (Ck n))
    have rb:=m9 p q z sm.1 sm.2
    have rb:=wb (X:=.lst (ps.map Pd)) (f:=.l) (k:=.int (i:Int)) rb
    by_cases h0:aV p q z=0
    ·rw [if_pos h0] at rb
     exact ⟨_,_,rfl,.inr ⟨.bl false,.z,rb,rfl,rfl,_,rfl,p,by simpa using o.1,h0⟩⟩
    ·rw [if_neg h0] at rb
     refine ⟨_,_,rfl,.inl ⟨.inl rb,_,rfl,fun j C s t=>?_⟩⟩
     by_cases e:j=m
     ·subst e;rw [o.1] at t;cases t;exact h0
     ·exact w j C (by omega) t)
  rcases h with ⟨e,a,rfl,h⟩ | ⟨m,r,f,hm,e,rfl,rfl,a,rfl,p,g,h0⟩
  ·exact ⟨a,.inl ⟨e,fun j p s=>h j p (by simp;omega)⟩⟩
  ·refine ⟨a,.inr ⟨e,m,p,by simp at hm;omega,by simpa using g,h0⟩⟩
 obtain ⟨ρ',h⟩:=mr (bnd:=eW 2 (aY (ao 2) (aY (ao 3) d6))) (b:=dO) (fun m ρ=>∃ v2 v3 v4,ρ=[some (.lst (ps.map Pd),.l),some (Pd z,.z),v2,v3,v4]/\∀ i j p q,i < j->j < m->ps[i]?=some p->ps[j]?=some q->aV p q z ≠ 0)
   (fun m r f ρ=>r=.bl false/\f=.z/\∃ v2 v3 v4,ρ=[some (.lst (ps.map Pd),.l),some (Pd z,.z),v2,v3,v4]/\∃ (i j:Nat) (p q:Pt),i < j/\ps[i]?=some p/\ps[j]?=some q/\aV p q z=0)
   (ds:=fQ 0 (ps.map Pd)) (ρ:=[some (.lst (ps.map Pd),.l),some (Pd z,.z),none,none,none]) (k:=0) ⟨_,_,_,rfl,fun i j p q _ h=>absurd h (Nat.not_lt_zero _)⟩ (by
    rintro m d ρ hd ⟨v2,v3,v4,rfl,w⟩
    rw [je,Cn,Option.map_map,B9] at hd
    obtain ⟨q,n,rfl⟩:=hd
    have hm:m < ps.length:=(Cj.mp n).1
    obtain ⟨a,h⟩:=inner m q v4 n
    have sl:=yN (xs:=ps.map Pd) (m:=m) (by simp;omega)
    rw [<- List.map_take] at sl
    rcases h with ⟨e,h⟩ | ⟨e,j,p,s,g,h0⟩
    ·refine ⟨_,[some (.lst (ps.map Pd),.l),some (Pd z,.z),some (.int m,.z),some (Pd q,.z),a],by simp [ao,eW,aY,d6];rfl,.inl ⟨.inl (by simp [dO,ac,aO,aR,der,ab,mC,ag,mUn,ae,aa,cv,ak,dm,aD,aU,qN,aT,io,sIf,fc,cw,lowAt,nol,frz,sZ,pls,gives,n9,orD,bo,ixD,jx,ao,d6,aY,eW,fnM,fn0,fj,ee,kJ,c1,c2,iB,kF,kD,l7,iq,mSl,slD,du,bP,asI,cB,kA,cOr,dJ,eR,mOr,og,mIf,cS,asB,eqS,eqA,ah,prs,jE,back,eS,lj,jC,dU,isN,yr,jv,kc,wI,t9,vJ,orC,oK,oJ,oM,L2.atI,ixN,cJ,cx,qM,-List.map_take,sl,aB,us,e]),_,_,_,rfl,fun i j p A c s hi v=>?_⟩⟩
     by_cases B:j=m
     ·subst B;rw [n] at v;cases v;exact h i p c hi
     ·exact w i j p A c (by omega) hi v
    ·refine ⟨_,[some (.lst (ps.map Pd),.l),some (Pd z,.z),some (.int m,.z),some (Pd q,.z),a],by simp [ao,eW,aY,d6];rfl,.inr ⟨.bl false,.z,by simp [dO,ac,aO,aR,der,ab,mC,ag,mUn,ae,aa,cv,ak,dm,aD,aU,qN,aT,io,sIf,fc,cw,lowAt,nol,frz,sZ,pls,gives,n9,orD,bo,ixD,jx,ao,d6,aY,eW,fnM,fn0,fj,ee,kJ,c1,c2,iB,kF,kD,l7,iq,mSl,slD,du,bP,asI,cB,kA,cOr,dJ,eR,mOr,og,mIf,cS,asB,eqS,eqA,ah,prs,jE,back,eS,lj,jC,dU,isN,yr,jv,kc,wI,t9,vJ,orC,oK,oJ,oM,L2.atI,ixN,cJ,cx,qM,-List.map_take,sl,aB,us,e],rfl,rfl,_,_,_,rfl,j,m,p,q,s,g,n,h0⟩⟩)
 rcases h with ⟨e,v2,v3,v4,rfl,h⟩ | ⟨m,r,f,hm,e,rfl,rfl,v2,v3,v4,rfl,y⟩
 ·refine ⟨true,?_,fun _ i j p q c hi s=>h i j p q c ?_ hi s,fun h=>by cases h⟩
  ·simp [eC,kb,ac,aO,aR,der,ab,mC,ag,mUn,ae,aa,cv,ak,dm,aD,aU,qN,aT,io,sIf,fc,cw,lowAt,nol,frz,sZ,pls,gives,n9,orD,bo,ixD,jx,ao,d6,aY,eW,fnM,fn0,fj,ee,kJ,c1,c2,iB,kF,kD,l7,iq,mSl,slD,du,bP,asI,cB,kA,cOr,dJ,eR,mOr,og,mIf,cS,asB,eqS,eqA,ah,prs,jE,back,eS,lj,jC,dU,isN,yr,jv,kc,wI,t9,vJ,orC,oK,oJ,oM,L2.atI,ixN,cJ,kg,aB,us,iw,bX,eD,e]
  ·have:=(Cj.mp s).1
   simp [jd];omega
 ·refine ⟨false,?_,fun h=>(by cases h),fun _=>y⟩
  simp [eC,kb,ac,aO,aR,der,ab,mC,ag,mUn,ae,aa,cv,ak,dm,aD,aU,qN,aT,io,sIf,fc,cw,lowAt,nol,frz,sZ,pls,gives,n9,orD,bo,ixD,jx,ao,d6,aY,eW,fnM,fn0,fj,ee,kJ,c1,c2,iB,kF,kD,l7,iq,mSl,slD,du,bP,asI,cB,kA,cOr,dJ,eR,mOr,og,mIf,cS,asB,eqS,eqA,ah,prs,jE,back,eS,lj,jC,dU,isN,yr,jv,kc,wI,t9,vJ,orC,oK,oJ,oM,L2.atI,ixN,cJ,kg,aB,us,iw,bX,eD,e]
theorem sq_le {i:Nat} (h:i < 12):0<=(i:Int) * (i:Int)/\(i:Int) * (i:Int)<=144:=by
 have h1:i * i<=12 * 12:=Nat.mul_le_mul (by omega) (by omega)
 have h2:(i:Int) * (i:Int)=((i * i:Nat):Int):=by simp
 rw [h2];omega
theorem wQ {i:Nat} {g kd:Int} (hi:i < 12) (f:-15<=g) (g1:g<=15) (h:0<=kd) (b:kd < 6) :
  ∃ y:Int,aw (.lst [.int g,.int g,.int ((i:Int) * i+g / 9),.int (g / 9 - (i:Int) * i),.int (((i:Int) * i+30) * (1 - 2 * ((i:Int) % 2))),.int (g * 1000)]) (.int kd)=some (.int y,.z)/\-16000<=y/\y<=16000:=by
 obtain ⟨c,d⟩:=sq_le hi
 obtain ⟨j,rfl⟩:∃ j:Nat,kd=(j:Int):=⟨kd.toNat,by omega⟩
 have a:j < 6:=by omega
 generalize (i:Int) * (i:Int)=qq at *
 have hm:(qq+30) * (1 - 2 * ((i:Int) % 2))<=16000/\-16000<=(qq+30) * (1 - 2 * ((i:Int) % 2)):=by
  rcases Int.emod_two_eq (i:Int) with e | e
  ·rw [e];simp;omega
  ·rw [e];simp;omega
 generalize (qq+30) * (1 - 2 * ((i:Int) % 2))=zz at *
 match j,a with
 | 0,_=>exact ⟨_,rfl,by omega,by omega⟩
 | 1,_=>exact ⟨_,rfl,by omega,by omega⟩
 | 2,_=>exact ⟨_,rfl,by omega,by omega⟩
 | 3,_=>exact ⟨_,rfl,by omega,by omega⟩
 | 4,_=>exact ⟨_,rfl,by omega,by omega⟩
 | 5,_=>exact ⟨_,rfl,by omega,by omega⟩
abbrev cy (n most many kd x:Int) (ps:List Pt) (v6 v7 v8 v9:Option (L3.D × Fl)):Sto:=[some (.lst [.int n],.u),some (.int most,.z),some (.int many,.z),some (.int kd,.z),some (.int x,.z),some (.lst (ps.map Pd),.u),v6,v7,v8,v9]
theorem pw {n most many kd x y0:Int} {ps:List Pt} {v6 v7 v8:Option (L3.D × Fl)} (R:Rising ps) (o:∀ p ∈ ps,Small p) (r:ps.length<=12) :
  ∃ y,fv ce cZ (cy n most many kd x ps v6 v7 v8 (some (.int y0,.z)))=some (.ok .nx,cy n most many kd x ps v6 v7 v8 (some (.int y,.z)))/\wM ps (x,y)/\y0<=y/\y<=y0+144:=by
 have f:above ps x y0<=144:=by
  have h1:=wK ps x y0
  have h2:ps.length * ps.length<=12 * 12:=Nat.mul_le_mul (by omega) (by omega)
  omega
 obtain ⟨ρ',e,y,rfl,hf,h1,h2⟩:=rW (c:=ce) (b:=cZ) (fun m ρ=>∃ y:Int,ρ=cy n most many kd x ps v6 v7 v8 (some (.int y,.z))/\m=above ps x y/\y0<=y/\y+(above ps x y:Int)<=y0+(above ps x y0:Int))
  (fun ρ=>∃ y:Int,ρ=cy n most many kd x ps v6 v7 v8 (some (.int y,.z))/\wM ps (x,y)/\y0<=y/\y<=y0+144) (ρ:=cy n most many kd x ps v6 v7 v8 (some (.int y0,.z))) ⟨y0,rfl,rfl,Int.le_refl _,Int.le_refl _⟩ (by
   rintro m ρ ⟨y,rfl,rfl,h1,h2⟩
   obtain ⟨b,k,h,hf⟩:=uE ps (x,y) o (by omega)
   have g:ce (cy n most many kd x ps v6 v7 v8 (some (.int y,.z)))=some (.ok (!b),cy n most many kd x ps v6 v7 v8 (some (.int y,.z))):=by
    unfold ce
    nomatch [k]
   cases b with
   | true=>exact .inl ⟨_,g,y,rfl,h rfl,h1,by omega⟩
   | false =>
    obtain ⟨i,j,p,q,a,e1,l,h0⟩:=hf rfl
    have d:=wJ R a e1 l h0
    exact .inr ⟨_,cy n most many kd x ps v6 v7 v8 (some (.int (y+1),.z)),_,g,.inl (by unfold cZ;(nofun)),d,y+1,rfl,rfl,by omega,by omega⟩)
 exact ⟨y,e,hf,h1,h2⟩
theorem uB {n most many kd x:Int} {i:Nat} {ps:List Pt} {v7 v8 v9:Option (L3.D × Fl)} (R:Rising ps) (o:∀ p ∈ ps,Small p) (l:ps.length<=12) (hi:i < 12) (m:0<=kd) (v:kd < 6) :
  ∃ (q d y:Int) (e b c:Option (L3.D × Fl)),cf (cy n most many kd x ps (some (.int i,.z)) v7 v8 v9)=some (.ok .nx,cy q most many kd (x+1+d) (ps ++ [(x+1+d,y)]) (some (.int i,.z)) e b c)/\0<=d/\d < 3/\wM ps (x+1+d,y)/\-16000<=y/\y<=16144:=by
 have t:=bO
 have E:=cG (n / 3) 31 (by decide)
 have f:=cG n 3 (by decide)
 generalize s:n / 3 % 31 - 15=G at *
 obtain ⟨y0,r,C,B⟩:=wQ (i:=i) (g:=G) (kd:=kd) hi (by omega) (by omega) m v
 have h:-18446744073709551616 < (i:Int)/\(i:Int) < 18446744073709551616:=by omega
 have A:-18446744073709551616 < 1 - 2 * ((i:Int) % 2)/\1 - 2 * ((i:Int) % 2) < 18446744073709551616:=by omega
 generalize a:x+1+n % 3=X at *
 obtain ⟨y,k,hf,h1,h2⟩:=pw (n:=n / 3 / 31) (most:=most) (many:=many) (kd:=kd) (x:=X) (y0:=y0) (ps:=ps) (v6:=some (.int i,.z)) (v7:=some (.int G,.z)) (v8:=some (.lst [.int G,.int G,.int ((i:Int) * i+G / 9),.int (G / 9 - (i:Int) * i),.int (((i:Int) * i+30) * (1 - 2 * ((i:Int) % 2))),.int (G * 1000)],.u)) R o l
 refine ⟨n / 3 / 31,n % 3,y,some (.int G,.z),some (.lst [.int G,.int G,.int ((i:Int) * i+G / 9),.int (G / 9 - (i:Int) * i),.int (((i:Int) * i+30) * (1 - 2 * ((i:Int) % 2))),.int (G * 1000)],.u),some (.int y,.z),?_,f.1,f.2,by rw [a];exact hf,by omega,by omega⟩
 rw [a]
 have w:(ps.map Pd).length < 16777216:=by simp;omega
 have j:=wG (d:=Pd (X,y)) w
 rw [show ps.map Pd ++ [Pd (X,y)]=(ps ++ [(X,y)]).map Pd by simp] at j
 clear hi
 generalize (i:Int)=zi at *
 unfold cf
 apply aj (ρ1:=cy (n / 3) most many kd X ps (some (.int zi,.z)) v7 v8 v9)
 ·rw [<- a]
  nomatch [(t _ _ (by decide))]
 apply aj (ρ1:=cy (n / 3 / 31) most many kd X ps (some (.int zi,.z)) (some (.int G,.z)) v8 v9)
 ·rw [<- s]
  nomatch [(t _ _ (by decide))]
 apply aj (ρ1:=cy (n / 3 / 31) most many kd X ps (some (.int zi,.z)) (some (.int G,.z)) (some (.lst [.int G,.int G,.int (zi * zi+G / 9),.int (G / 9 - zi * zi)],.u)) v9)
 ·exists ff h
 apply aj (ρ1:=cy (n / 3 / 31) most many kd X ps (some (.int zi,.z)) (some (.int G,.z)) (some (.lst [.int G,.int G,.int (zi * zi+G / 9),.int (G / 9 - zi * zi),.int ((zi * zi+30) * (1 - 2 * (zi % 2))),.int (G * 1000)],.u)) v9)
 ·exists ff h,ff (by decide),vB A,vB (by decide)
 apply aj (ρ1:=cy (n / 3 / 31) most many kd X ps (some (.int zi,.z)) (some (.int G,.z)) (some (.lst [.int G,.int G,.int (zi * zi+G / 9),.int (G / 9 - zi * zi),.int ((zi * zi+30) * (1 - 2 * (zi % 2))),.int (G * 1000)],.u)) (some (.int y0,.z)))
 ·exists r
 apply aj
 ·exact k
 ·exists j
theorem uD {n most many kd x:Int} (hm:0<=many/\many<=12) (t:0<=kd) (u:kd < 6) (x0:-4<=x) (x1:x<=4) :
  ∃ (g l:Int) (ps:List Pt) (v6 v7 v8 v9:Option (L3.D × Fl)),cJ (bx cz (aa (ab 2) ae)) (ao 6) cf (cy n most many kd x [] none none none none)=some (.ok .nx,cy g most many kd l ps v6 v7 v8 v9)/\(ps.length:Int)=many/\Rising ps/\NoLine ps/\(∀ q ∈ ps,-5<=q.1/\q.1<=100/\-17000<=q.2/\q.2<=17000):=by
 obtain ⟨ρ',e,g,l,ps,v6,v7,v8,v9,rfl,o,c,f,bnd,h1,h2⟩:=bH (bnd:=ao 6) (b:=cf) (fun i ρ=>∃ (n x:Int) (ps:List Pt) (v6 v7 v8 v9:Option (L3.D × Fl)),ρ=cy n most many kd x ps v6 v7 v8 v9/\ps.length=i/\Rising ps/\NoLine ps/\(∀ q ∈ ps,q.1<=x/\-5<=q.1/\-17000<=q.2/\q.2<=17000)/\-4<=x/\x<=4+3 * (i:Int))
  (ds:=aH 0 many.toNat) (ρ:=cy n most many kd x [] none none none none) (k:=0) ⟨n,x,[],none,none,none,none,rfl,rfl,fun _ _ _ _ _ e _=>by simp at e,fun _ _ _ _ _ _ _ _ e _ _=>by simp at e,fun _ e=>by simp at e,by omega,by omega⟩ (by
   rintro i d ρ hd ⟨n,x,ps,v6,v7,v8,v9,rfl,o,c,f,bnd,h1,h2⟩
   obtain ⟨hi,rfl⟩:=cK hd
   have j:∀ q ∈ ps,Small q:=fun q a=>by
    obtain ⟨a1,a2,p,m⟩:=bnd q a
    exact ⟨by omega,by omega,by omega,by omega⟩
   obtain ⟨g,h,y,v,s,w,e,B,d1,fr,y0,A⟩:=uB (n:=n) (most:=most) (many:=many) (kd:=kd) (x:=x) (i:=i) (ps:=ps) (v7:=v7) (v8:=v8) (v9:=v9) c j (by omega) (by omega) t u
   refine ⟨cy n most many kd x ps (some (.int i,.z)) v7 v8 v9,_,by rw [Int.zero_add];rfl,.inl e,g,x+1+h,ps ++ [(x+1+h,y)],_,_,_,_,rfl,by simp;omega,c.snoc fun q a=>?_,f.snoc fr,fun q a=>?_,by omega,by omega⟩
   ·show q.1 < x+1+h
    have:=(bnd q a).1
    omega
   ·rcases Cg.mp a with a | a
    ·obtain ⟨a1,a2,p,m⟩:=bnd q a
     exact ⟨by omega,by omega,by omega,by omega⟩
    ·have e:q=(x+1+h,y):=by simpa using a
     subst e
     exact ⟨Int.le_refl _,by show -5<=x+1+h;omega,by show -17000<=y;omega,by show y<=17000;omega⟩)
 rw [a8] at o h2
 have r:cz [.int many]=some (aH 0 many.toNat):=bS (by omega) rfl
 refine ⟨g,l,ps,v6,v7,v8,v9,?_,by omega,c,f,fun q a=>?_⟩
 ·apply gj
  ·(repeat' (first | with_reducible apply cN (h3:=r) | infer_instance | eq_refl))
  ·rfl
  ·exact e
 ·obtain ⟨a1,a2,p,m⟩:=bnd q a
  exact ⟨by omega,by omega,by omega,by omega⟩
abbrev scJ (p:Pt):Pt:=gq 1000000000000 1000000000 7 p
theorem pow12:pM (.int 10) (.int 12)=some (.int 1000000000000,.z):=rfl
theorem pow9:pM (.int 10) (.int 9)=some (.int 1000000000,.z):=rfl
theorem sk (ps:List Pt) (g:ps.length<=24) {n most many kd x:Int} {v6 v7 v8 v9:Option (L3.D × Fl)}:aT 5 cY (cy n most many kd x ps v6 v7 v8 v9)=some (.ok .nx,cy n most many kd x (ps.map scJ) v6 v7 v8 v9):=by
 obtain ⟨τ',e,a,b,rfl⟩:=bd (bnd:=eW 2 (aY (ao 0) (aY (ao 1) d6))) (c:=b9) (elt:=eQ) (fun τ=>∃ a b,τ=[a,b]) Pd (fun _=>true) (fun p=>Pd (scJ p)) (xs:=ps) (τ:=[none,none]) ⟨none,none,rfl⟩ (by
  rintro p f τ ⟨a,b,rfl⟩
  exact ⟨[some (.int p.1,.z),some (.int p.2,.z)],_,rfl,rfl,(fun h=>by cases h),fun _=>⟨.val (Pd (scJ p)) .z,[some (.int p.1,.z),some (.int p.2,.z)],(Pd (scJ p),.z),_,by unfold eQ;(exists pow12,pow9,ff (by decide)),rfl,rfl,_,_,rfl⟩⟩)
 rw [CO.mpr (fun _ _=>rfl)] at e
 have d:cY (cy n most many kd x ps v6 v7 v8 v9)=some (.ok (.val (.lst (ps.map fun p=>Pd (scJ p))) .u),cy n most many kd x ps v6 v7 v8 v9):=aQ (rs:=[.pl 5]) (ρ1:=cy n most many kd x ps v6 v7 v8 v9) (ρ2:=[some (.lst [.int n],.u),some (.int most,.z),some (.int many,.z),some (.int kd,.z),some (.int x,.z),some (.lst (ps.map Pd),.l),v6,v7,v8,v9]) rfl e (by simp;omega) rfl
 rw [show (ps.map fun p=>Pd (scJ p))=(ps.map scJ).map Pd by simp] at d
 exact rA d rfl (Nat.le_of_ble_eq_true rfl) rfl
theorem sj (n most:Int) (h1:1<=most) (h2:most<=12):∃ (b:Int) (ps:List Pt),eB [(.lst [.int n],.u),(.int most,.z)]=some (.ok (.tup (ps.map Pd),.z),[(.lst [.int b],.u),(.int most,.z)])/\GoodSh ps/\(ps.length:Int)<=most:=by
 have t:=bO
 have m:=cG n most (by omega)
 have h:=cG (n / most) 6 (by decide)
 have p:=cG (n / most / 6) 9 (by decide)
 obtain ⟨b,k,ps,v6,v7,v8,v9,e,o,c,d,bnd⟩:=uD (n:=n / most / 6 / 9) (most:=most) (many:=1+n % most) (kd:=n / most % 6) (x:=n / most / 6 % 9 - 4) ⟨by omega,by omega⟩ h.1 h.2 (by omega) (by omega)
 have good:GoodSh ps:=⟨by omega,by omega,fun q f=>by
  obtain ⟨a1,a2,l,j⟩:=bnd q f
  exact ⟨by omega,by omega,by omega,by omega⟩,c,d⟩
 have a:GoodSh (ps.map scJ):=⟨by simpa using good.pos,by simpa using good.most,fun q f=>by
  obtain ⟨r,g,rfl⟩:=Cm.mp f
  obtain ⟨a1,a2,l,j⟩:=bnd r g
  exact ⟨by show -(2 ^ 62) < (1000000000000:Int) * r.1+7;omega,by show (1000000000000:Int) * r.1+7 < 2 ^ 62;omega,by show -(2 ^ 62) < (1000000000:Int) * r.2;omega,by show (1000000000:Int) * r.2 < 2 ^ 62;omega⟩,c.scale (by decide),d.scale (by decide) (by decide)⟩
 have pre:∀ {r:Option (Except L3.D Flw × Sto)},aD (sIf (cB (ag eqX (ah aE (aa (ab 0) (aa (mC (.int 6)) ae))) (mC (.int 5)))) (aT 5 cY) dm) (aU 2 (ak jA (aa (ab 5) ae))) (cy b most (1+n % most) (n / most % 6) k ps v6 v7 v8 v9)=r->lg [some (.lst [.int n],.u),some (.int most,.z),none,none,none,none,none,none,none,none]=r:=by
  intro r g
  apply aj (ρ1:=[some (.lst [.int (n / most)],.u),some (.int most,.z),some (.int (1+n % most),.z),none,none,none,none,none,none,none])
  ·nomatch [(t n most (by omega))]
  apply aj (ρ1:=[some (.lst [.int (n / most / 6)],.u),some (.int most,.z),some (.int (1+n % most),.z),some (.int (n / most % 6),.z),none,none,none,none,none,none])
  ·nomatch [(t _ _ (by decide))]
  apply aj (ρ1:=[some (.lst [.int (n / most / 6 / 9)],.u),some (.int most,.z),some (.int (1+n % most),.z),some (.int (n / most % 6),.z),some (.int (n / most / 6 % 9 - 4),.z),none,none,none,none,none])
  ·nomatch [(t _ _ (by decide))]
  apply aj (ρ1:=cy (n / most / 6 / 9) most (1+n % most) (n / most % 6) (n / most / 6 % 9 - 4) [] none none none none)
  ·nofun
  exact aj e g
 by_cases i:b % 6=5
 ·refine ⟨b / 6,ps.map scJ,?_,a,by rw [Ci];omega⟩
  apply aG (ρ:=[some (.lst [.int n],.u),some (.int most,.z),none,none,none,none,none,none,none,none]) rfl rfl
  ·apply pre
   apply aj
   ·apply cV
    ·nomatch [(t _ _ (by decide))]
    ·exact Ct i
    ·exact sk ps (by omega)
   ·nofun
  ·rfl
 ·refine ⟨b / 6,ps,?_,good,by omega⟩
  apply aG (ρ:=[some (.lst [.int n],.u),some (.int most,.z),none,none,none,none,none,none,none,none]) rfl rfl
  ·apply pre
   apply aj
   ·apply bY
    ·nomatch [(t _ _ (by decide))]
    ·exact Cu i
    ·rfl
   ·nofun
  ·rfl
def bm (ps:List Pt) (i:Nat):Pt:=ps.getD i (0,0)
theorem nw {ps:List Pt} {i:Nat} (h:i < ps.length):ps[i]?=some (bm ps i):=by
 simp [bm,List.getD,Ce h]
theorem eM {ps:List Pt} {i:Nat} (a:∀ p ∈ ps,Small p) (h:i < ps.length):Small (bm ps i):=a _ (Ck (nw h))
theorem iN {ps:List Pt} {i:Nat} (h:i < ps.length):aw (Shd ps) (.int i)=some (Pd (bm ps i),.z):=dl (tU (nw h))
def tq (ps:List Pt) (t:Tri):Int:=mU (bm ps t.1) (bm ps t.2.1) (bm ps t.2.2)
abbrev tk (t:Tri):List Key:=[.inl (t.1:Int),.inl (t.2.1:Int),.inl (t.2.2:Int)]
theorem ub {t u:Tri} (h:tk t=tk u):t=u:=by
 simp only [tk,List.cons.injEq,Sum.inl.injEq,and_true] at h
 exact Prod.ext (by omega) (Prod.ext (by omega) (by omega))
def tb (ps:List Pt) (l:List Tri):List (List Key × L3.D):=l.map fun t=>(tk t,.int (tq ps t))
theorem AE {ps:List Pt} {l:List Tri} {t:Tri} (h:t ∉ l):nv (tb ps l) (tk t) (.int (tq ps t))=tb ps (l ++ [t]):=by
 have c:¬ ((tb ps l).any fun b=>decide (b.1=tk t))=true:=by
  intro d
  obtain ⟨x,a,e⟩:=List.any_eq_true.mp d
  obtain ⟨u,hu,rfl⟩:=Cm.mp a
  exact h (ub (of_decide_eq_true e) ▸ hu)
 unfold nv
 rw [if_neg c]
 unfold tb
 rw [List.map_append]
 rfl
theorem vZ {ps:List Pt} {t:Tri}:∀ {l:List Tri},t ∈ l->kh (tb ps l) (tk t)=some (.int (tq ps t))
 | u :: l,h=>by
  unfold kh tb
  rw [Cs,List.find?_cons]
  by_cases e:tk u=tk t
  ·rw [ub e];simp
  ·have:t ∈ l:=by
    rcases Cd.mp h with rfl | h
    ·exact absurd rfl e
    ·exact h
   have a:=vZ (ps:=ps) this
   unfold kh tb at a
   simp only [e,decide_false]
   exact a
theorem zZ {ps:List Pt} {l:List Tri} {t:Tri} (h:t ∉ l) (a:l.length < 16777216):iQ (.dt (tb ps l)) [Td t,.int (tq ps t)]=some (.dt (tb ps (l ++ [t])),.non):=by
 show (if (tb ps l).length < 16777216 then some (L3.D.dt (nv (tb ps l) (tk t) (.int (tq ps t))),L3.D.non) else none)=_
 rw [if_pos (by unfold tb;rw [Ci];exact a),AE h]
theorem o8:∀ n:Nat,n<=9->(iM n).Nodup
 | 0,_=>by decide +kernel
 | 1,_=>by decide +kernel
 | 2,_=>by decide +kernel
 | 3,_=>by decide +kernel
 | 4,_=>by decide +kernel
 | 5,_=>by decide +kernel
 | 6,_=>by decide +kernel
 | 7,_=>by decide +kernel
 | 8,_=>by decide +kernel
 | 9,_=>by decide +kernel
 | n+10,h=>absurd h (by omega)
theorem ua:∀ n:Nat,n<=9->(iM n).length<=84
 | 0,_=>by decide +kernel
 | 1,_=>by decide +kernel
 | 2,_=>by decide +kernel
 | 3,_=>by decide +kernel
 | 4,_=>by decide +kernel
 | 5,_=>by decide +kernel
 | 6,_=>by decide +kernel
 | 7,_=>by decide +kernel
 | 8,_=>by decide +kernel
 | 9,_=>by decide +kernel
 | n+10,h=>absurd h (by omega)
theorem r9 {α:Type} {l:List α} {m:Nat} {t:α} (h:l[m]?=some t):l.take (m+1)=l.take m ++ [t]:=by
 rw [List.take_add_one,h];rfl
theorem pS {α:Type} {l:List α} {m:Nat} {t:α} (nd:l.Nodup) (h:l[m]?=some t):t ∉ l.take m:=by
 rw [<- List.take_append_drop m l] at nd
 intro hm
 refine (List.nodup_append.mp nd).2.2 t hm t ?_ rfl
 refine Ck (i:=0) ?_
 rw [List.getElem?_drop]
 exact h
theorem tX {ps:List Pt} (g:GoodSh ps) {t:Tri} (h1:t.1 < t.2.1) (h2:t.2.1 < t.2.2) (h3:t.2.2 < ps.length) {l:List Tri} (a:t ∉ l) (b:l.length < 16777216):cj [some (Shd ps,.z),some (.dt (tb ps l),.u),some (Td t,.z)]=some (.ok .nx,[some (Shd ps,.z),some (.dt (tb ps (l ++ [t])),.u),some (Td t,.z)]):=by
 obtain ⟨i,j,k⟩:=t
 dsimp only at h1 h2 h3
 have f:di [(Shd ps,.z),(Td (i,j,k),.z)]=some (.ok (.int (tq ps (i,j,k)),.z),[(Shd ps,.z),(Td (i,j,k),.z)]):=pv (iN (ps:=ps) (i:=i) (by omega)) (iN (ps:=ps) (i:=j) (by omega)) (iN (ps:=ps) (i:=k) (by omega)) (eM g.small (show i < ps.length by omega)) (eM g.small (show j < ps.length by omega))
 have e:=zZ (ps:=ps) a b
 unfold cj
 have c:ah di (aa (ab 0) (aa (ab 2) ae)) [some (Shd ps,.z),some (.dt (tb ps l),.u),some (Td (i,j,k),.z)]=some (.ok (.val (.int (tq ps (i,j,k))) .z),[some (Shd ps,.z),some (.dt (tb ps l),.u),some (Td (i,j,k),.z)]):=by (nomatch [f])
 exact zk (i:=1) (ρ2:=[some (Shd ps,.z),some (.dt (tb ps l),.u),some (Td (i,j,k),.z)]) (ρ3:=[some (Shd ps,.z),some (.dt (tb ps l),.u),some (Td (i,j,k),.z)]) c rfl (aq (i:=2) rfl) rfl rfl e
theorem uI {ps:List Pt} (g:GoodSh ps) (f:ps.length<=9):dR [(Shd ps,.z)]=some (.ok (.dt (tb ps (iM ps.length)),.u),[(Shd ps,.z)]):=by
 have nd:=o8 ps.length f
 have l:=ua ps.length f
 obtain ⟨ρ',e,v2,rfl⟩:=bH (bnd:=ao 2) (b:=cj) (fun m ρ=>∃ v2,ρ=[some (Shd ps,.z),some (.dt (tb ps ((iM ps.length).take m)),.u),v2]) (ds:=(iM ps.length).map Td) (ρ:=[some (Shd ps,.z),some (.dt [],.u),none]) (k:=0) ⟨none,rfl⟩ (by
  rintro m d ρ hd ⟨v2,rfl⟩
  rw [Cw]
  rw [Cn] at hd
  obtain ⟨t,a,rfl⟩:=B9.mp hd
  obtain ⟨h,j,i⟩:=nM (Ck a)
  rw [r9 a]
  exact ⟨_,_,rfl,.inl (tX g h j i (pS nd a) (by rw [CB];omega)),_,rfl⟩)
 rw [Cw,Ci,List.take_length] at e
 have c:=sy g
 have th:=jY ps.length (by omega)
 have hlen:bM [Shd ps]=some (.int (ps.length:Nat),.z):=by simp [kc,c1]
 apply aG (ρ:=[some (Shd ps,.z),none,none]) rfl rfl
 ·apply aj (ρ1:=[some (Shd ps,.z),none,none])
  ·exact vT (ai c (am (aq rfl) aS) rfl rfl rfl)
  ·apply aj (ρ1:=[some (Shd ps,.z),some (.dt [],.u),none])
   ·rfl
   ·apply aj
    ·apply gj
     ·nomatch [th],[hlen]
     ·rfl
     ·exact e
    ·nofun
 ·rfl
abbrev k3 (i j k:Nat):List Key:=[.inl (i:Int),.inl (j:Int),.inl (k:Int)]
structure Sg where
 length:Nat
 f:Nat->Nat->Nat->Int
def trn (ps:Sg) (i j k:Nat):Int:=ps.f i j k
def zv (ps:Sg) (T:List (List Key × L3.D)):Prop:=∀ i j k,i < j->j < k->k < ps.length->kh T (k3 i j k)=some (.int (trn ps i j k))
theorem sK {n i j k:Nat} (h1:i < j) (h2:j < k) (h3:k < n):(i,j,k) ∈ iM n:=by
 refine CP.mpr ⟨i,List.mem_range.mpr (by omega),CP.mpr ⟨j - (i+1),List.mem_range.mpr (by omega),Cm.mpr ⟨k - (j+1),List.mem_range.mpr (by omega),?_⟩⟩⟩
 refine Prod.ext rfl (Prod.ext ?_ ?_) <;> simp <;> omega
theorem sub3 {kvs:List (List Key × L3.D)} {i j k:Nat} {d:L3.D} (h:kh kvs (k3 i j k)=some d):aw (.dt kvs) (.tup [.int i,.int j,.int k])=some (d,.z):=by
 show (kh kvs (k3 i j k)).map (fun d=>(d,Fl.z))=_
 rw [h];rfl
def sgn (ps:List Pt):Sg:=⟨ps.length,fun i j k=>mU (bm ps i) (bm ps j) (bm ps k)⟩
theorem t8 (ps:List Pt):zv (sgn ps) (tb ps (iM ps.length)):=fun i j k h1 h2 h3=>vZ (t:=(i,j,k)) (sK h1 h2 h3)
abbrev Nd (l:List Nat):List L3.D:=l.map fun (i:Nat)=>L3.D.int (i:Int)
def el (L:List Nat) (i:Nat):Nat:=L.getD i 0
theorem ko {L:List Nat} {i:Nat} (h:i < L.length):L[i]?=some (el L i):=by simp [el,List.getD,h]
theorem eT {L:List Nat} {i:Nat} (h:i < L.length):el L i ∈ L:=Ck (ko h)
theorem su {i n:Int} (h0:0<=i) (h1:i < n):dG [(.int i,.z),(.int n,.z)]=some (.ok (.bl true,.z),[(.int i,.z),(.int n,.z)]):=by
 have b:leI (.int 0) (.int i)=some (.bl true,.z):=by simp [bo,h0]
 have a:ltI (.int i) (.int n)=some (.bl true,.z):=by simp [bo,h1]
 apply aG (ρ:=[some (.int i,.z),some (.int n,.z)]) rfl rfl
 ·apply ba
  ·apply iD
   ·nomatch [(kX _)]
   ·rfl
   ·rfl
   ·exact mo i_c (aq rfl) rfl rfl b (aq rfl) rfl rfl a
  ·rfl
 ·rfl
theorem rT {α:Type} (b:α->Bool):∀ xs:List α,gl (xs.map fun x=>L3.D.bl (b x))=some (xs.map b)
 | []=>rfl
 | x :: xs=>by simp [gl,rT b xs]
theorem eX {α:Type} (b:α->Bool) (xs:List α):oZ [.lst (xs.map fun x=>L3.D.bl (b x))]=some (.bl (xs.all b),.z):=by
 show (gl _).map _=_
 rw [rT]
 simp [List.all_map]
theorem mO {xs:List L3.D} {i:Nat} {d:L3.D} (h:xs[i]?=some d):L2.atI xs (i:Int)=some d:=by
 have lt:=(Cj.mp h).1
 unfold L2.atI L2.ixN
 rw [if_pos (by omega),if_pos (by omega)]
 simpa using h
theorem jl {r:List Nat} {i:Nat} (h:i < r.length):(Nd r)[i]?=some (.int (el r i)):=by rw [Cn,ko h];rfl
theorem iO {r:List Nat} {i:Nat} (h:i < r.length):aw (.tup (Nd r)) (.int (i:Int))=some (.int (el r i),.z):=dl (mO (jl h))
theorem qK {r:List Nat} {i:Nat} (h:i < r.length):aw (.lst (Nd r)) (.int (i:Int))=some (.int (el r i),.z):=lL (mO (jl h))
theorem rQ {xs:List L3.D} {d:L3.D} (h:xs[xs.length - 1]?=some d):L2.atI xs (-1)=some d:=by
 have lt:=(Cj.mp h).1
 unfold L2.atI L2.ixN
 rw [if_neg (by decide),if_pos (by omega)]
 rw [show ((-1:Int)+(xs.length:Int)).toNat=xs.length - 1 by omega,Option.bind_some]
 exact h
structure Ris (n:Nat) (r:List Nat):Prop where
 up:r.Pairwise (· < ·)
 lt:∀ x ∈ r,x < n
theorem Ris.at {n:Nat} {r:List Nat} (h:Ris n r) {i j:Nat} (a:i < j) (c:j < r.length):el r i < el r j:=by
 have:=List.pairwise_iff_getElem.mp h.up i j (by omega) c a
 have e1:=ko (L:=r) (i:=i) (by omega)
 have b:=ko (L:=r) (i:=j) c
 rw [Ce (by omega)] at e1 b
 injection e1 with e1
 injection b with b
 omega
theorem qQ {n:Nat}:∀ (r:List Nat) (a:Nat),r.Pairwise (· < ·)->(∀ x ∈ r,a<=x/\x < n)->r.length<=n - a
 | [],a,_,_=>Nat.zero_le _
 | x :: r,a,hp,hb=>by
  rw [List.pairwise_cons] at hp
  have h0:=hb x B6
  have:=qQ r (x+1) hp.2 fun y b=>⟨hp.1 y b,(hb y (B7 _ b)).2⟩
  rw [CA]
  omega
theorem Ris.len {n:Nat} {r:List Nat} (h:Ris n r):r.length<=n:=qQ r 0 h.up fun x a=>⟨Nat.zero_le _,h.lt x a⟩
theorem qO {n:Nat} {r:List Nat} (h:Ris n r) (m:n<=24):av [(.tup (Nd r),.z),(.int (n:Int),.z)]=some (.ok (.bl true,.z),[(.tup (Nd r),.z),(.int (n:Int),.z)]):=by
 have o:=h.len
 obtain ⟨τ',e,a,rfl⟩:=bd (bnd:=ao 0) (c:=b9) (elt:=ay) (fun τ=>∃ a,τ=[a,some (.int (n:Int),.z)]) (fun i:Nat=>L3.D.int (i:Int)) (fun _=>true) (fun _=>.bl true) (xs:=r) (τ:=[none,some (.int (n:Int),.z)]) ⟨none,rfl⟩ (by
  rintro k d τ ⟨a,rfl⟩
  have:=h.lt k d
  have pl:=su (i:=(k:Int)) (n:=(n:Int)) (by omega) (by omega)
  exact ⟨[some (.int (k:Int),.z),some (.int (n:Int),.z)],_,rfl,rfl,(fun h=>by cases h),fun _=>⟨.val (.bl true) .z,[some (.int (k:Int),.z),some (.int (n:Int),.z)],(.bl true,.z),_,by unfold ay;(nomatch [pl]),rfl,rfl,_,rfl⟩⟩)
 rw [CO.mpr (fun _ _=>rfl)] at e
 have e1:aZ [some (.tup (Nd r),.z),some (.int (n:Int),.z)]=some (.ok (.val (.lst (r.map fun _=>.bl true)) .u),[some (.tup (Nd r),.z),some (.int (n:Int),.z)]):=aQ (rs:=[.pl 0]) (ρ1:=[some (.tup (Nd r),.z),some (.int (n:Int),.z)]) (ρ2:=[some (.tup (Nd r),.z),some (.int (n:Int),.z)]) rfl e (by rw [Ci];omega) rfl
 have a1:=eX (fun _:Nat=>true) r
 rw [List.all_eq_true.mpr (fun _ _=>rfl)] at a1
 obtain ⟨τ2,f,b,rfl⟩:=bd (bnd:=ao 0) (c:=b9) (elt:=bu) (fun τ=>∃ a,τ=[a,some (.tup (Nd r),.z)]) (fun i:Nat=>L3.D.int (0+(i:Int))) (fun _=>true) (fun _=>.bl true) (xs:=List.range (r.length - 1)) (τ:=[none,some (.tup (Nd r),.z)]) ⟨none,rfl⟩ (by
  rintro k d τ ⟨a,rfl⟩
  rw [List.mem_range] at d
  rw [Int.zero_add]
  have g1:=iO (r:=r) (i:=k) (by omega)
  have g2:aw (.tup (Nd r)) (.int ((k:Int)+1))=some (.int (el r (k+1)),.z):=by
   have:=iO (r:=r) (i:=k+1) (by omega)
   rw [Int.natCast_add] at this
   exact this
  have j:ltI (.int (el r k)) (.int (el r (k+1)))=some (.bl true,.z):=by
   have:=h.at (show k < k+1 by omega) (by omega)
   simp [bo];omega
  exact ⟨[some (.int (k:Int),.z),some (.tup (Nd r),.z)],_,rfl,rfl,(fun h=>by cases h),fun _=>⟨.val (.bl true) .z,[some (.int (k:Int),.z),some (.tup (Nd r),.z)],(.bl true,.z),_,bG (bG (aq rfl) (aq rfl) rfl rfl g1) (bG (aq rfl) (bG (aq rfl) i_c rfl rfl rfl) rfl rfl g2) rfl rfl j,rfl,rfl,_,rfl⟩⟩)
 rw [CO.mpr (fun _ _=>rfl)] at f
 have g:cz [.int (((Nd r).length:Int) - 1)]=some (aH 0 (r.length - 1)):=bS (by first | (simp;done) | (simp;omega)) (by first | (simp;done) | (simp;omega))
 have l:bt [some (.tup (Nd r),.z),some (.int (n:Int),.z)]=some (.ok (.val (.lst ((List.range (r.length - 1)).map fun _=>.bl true)) .u),[some (.tup (Nd r),.z),some (.int (n:Int),.z)]):=aQ (rs:=[]) (ρ1:=[some (.tup (Nd r),.z),some (.int (n:Int),.z)]) (ds:=aH 0 (r.length - 1)) (by (repeat' (first | with_reducible apply cN (h3:=g) | infer_instance | eq_refl))) f (by rw [a8];omega) rfl
 have a2:=eX (fun _:Nat=>true) (List.range (r.length - 1))
 rw [List.all_eq_true.mpr (fun _ _=>rfl)] at a2
 apply aG (ρ:=[some (.tup (Nd r),.z),some (.int (n:Int),.z)]) rfl rfl
 ·apply aj (ρ1:=[some (.tup (Nd r),.z),some (.int (n:Int),.z)])
  ·apply bY
   ·apply cO (b:=false)
    ·nofun
    ·rfl
    ·exact bv (cu (aX (am e1 aS) rfl a1) rfl)
   ·rfl
   ·rfl
  ·exact ba (aX (am l aS) rfl a2) rfl
 ·rfl
theorem cut3 {xs:List L3.D} {a:Nat} (b:a+3<=xs.length):slD (.tup xs) (some (a:Int)) (some ((a:Int)+3))=some (.tup ((xs.drop a).take 3),.z):=by
 have e:cT xs (some (a:Int)) (some ((a:Int)+3))=(xs.drop a).take 3:=by
  unfold cT
  rw [show ((a:Int)+3)=((a+3:Nat):Int) by omega,HT.sIx_nat,HT.sIx_nat]
  by_cases h:a+3<=xs.length
  ·rw [show min a xs.length=a by omega,show min (a+3) xs.length=a+3 by omega,show a+3 - a=3 by omega]
  ·omega
 show some ((.tup (cT xs (some (a:Int)) (some ((a:Int)+3))),.z):L3.D × Fl)=_
 rw [e]
theorem uc {r:List Nat} {a:Nat} (h:a+3<=r.length):((Nd r).drop a).take 3=[.int (el r a),.int (el r (a+1)),.int (el r (a+2))]:=by
 have e:∀ i,i < r.length->(Nd r)[i]?=some (.int (el r i)):=fun i hi=>jl hi
 have l:(Nd r).length=r.length:=by simp
 apply List.ext_getElem?
 intro i
 rw [List.getElem?_take,List.getElem?_drop]
 match i with
 | 0=>simpa using e a (by omega)
 | 1=>simpa using e (a+1) (by omega)
 | 2=>simpa using e (a+2) (by omega)
 | i+3=>simp;omega
def rb (s:Sg) (row:List Nat) (way:Int):Bool:=(List.range (row.length - 2)).all fun a=>decide (s.f (el row a) (el row (a+1)) (el row (a+2))=way)
theorem z9 {s:Sg} {T:List (List Key × L3.D)} (j:zv s T) {row:List Nat} (h:Ris s.length row) (n:s.length<=24) {way:Int}:dQ [(.dt T,.u),(.tup (Nd row),.z),(.int way,.z)]=some (.ok (.bl (rb s row way),.z),[(.dt T,.u),(.tup (Nd row),.z),(.int way,.z)]):=by
 have o:=h.len
 have l:(Nd row).length=row.length:=by simp
 obtain ⟨τ',e,a,rfl⟩:=bd (bnd:=ao 0) (c:=b9) (elt:=dw) (fun τ=>∃ a,τ=[a,some (.int way,.z),some (.dt T,.u),some (.tup (Nd row),.z)]) (fun i:Nat=>L3.D.int (0+(i:Int))) (fun _=>true) (fun a=>.bl (decide (s.f (el row a) (el row (a+1)) (el row (a+2))=way))) (xs:=List.range (row.length - 2)) (τ:=[none,some (.int way,.z),some (.dt T,.u),some (.tup (Nd row),.z)]) ⟨none,rfl⟩ (by
  rintro k b τ ⟨a,rfl⟩
  rw [List.mem_range] at b
  rw [Int.zero_add]
  have c:=cut3 (xs:=Nd row) (a:=k) (by omega)
  rw [uc (by omega)] at c
  have g:=sub3 (j (el row k) (el row (k+1)) (el row (k+2)) (h.at (by omega) (by omega)) (h.at (by omega) (by omega)) (h.lt _ (eT (by omega))))
  have q:eqX (.int (s.f (el row k) (el row (k+1)) (el row (k+2)))) (.int way)=some (.bl (decide (s.f (el row k) (el row (k+1)) (el row (k+2))=way)),.z):=rfl
  refine ⟨[some (.int (k:Int),.z),some (.int way,.z),some (.dt T,.u),some (.tup (Nd row),.z)],_,rfl,rfl,(fun h=>by cases h),fun _=>⟨.val (.bl _) .z,[some (.int (k:Int),.z),some (.int way,.z),some (.dt T,.u),some (.tup (Nd row),.z)],(.bl _,.z),_,?_,rfl,rfl,_,rfl⟩⟩
  unfold dw
  (exists c,g,q))
 rw [CO.mpr (fun _ _=>rfl)] at e
 have d:cz [.int (((Nd row).length:Int) - 2)]=some (aH 0 (row.length - 2)):=bS (by omega) (by omega)
 have m:fJ [some (.dt T,.u),some (.tup (Nd row),.z),some (.int way,.z)]=some (.ok (.val (.lst ((List.range (row.length - 2)).map fun a=>.bl (decide (s.f (el row a) (el row (a+1)) (el row (a+2))=way)))) .u),[some (.dt T,.u),some (.tup (Nd row),.z),some (.int way,.z)]):=aQ (rs:=[]) (ρ1:=[some (.dt T,.u),some (.tup (Nd row),.z),some (.int way,.z)]) (ds:=aH 0 (row.length - 2)) (by (repeat' (first | with_reducible apply cN (h3:=d) | infer_instance | eq_refl))) e (by rw [a8];omega) rfl
 have al:=eX (fun a=>decide (s.f (el row a) (el row (a+1)) (el row (a+2))=way)) (List.range (row.length - 2))
 apply aG (ρ:=[some (.dt T,.u),some (.tup (Nd row),.z),some (.int way,.z)]) rfl rfl
 ·exact ba (aX (am m aS) rfl al) rfl
 ·rfl
theorem wL (a b:List Nat):Nd (a ++ b)=Nd a ++ Nd b:=by simp
theorem fl_nx {bnd:L3.D->Sto->Option Sto} {b:SM} {d:L3.D} {ds:List L3.D} {ρ ρ1 ρ2:Sto} {x:Option (Except L3.D Flw × Sto)} (h1:bnd d ρ=some ρ1) (h2:b ρ1=some (.ok .nx,ρ2)) (h3:b8 bnd b ds ρ2=x):b8 bnd b (d :: ds) ρ=x:=by
 simp only [b8,h1,ac,h2,h3]
theorem fl_rt {bnd:L3.D->Sto->Option Sto} {b:SM} {d:L3.D} {ds:List L3.D} {ρ ρ1 ρ2:Sto} {y:L3.D} {g:Fl} (h1:bnd d ρ=some ρ1) (h2:b ρ1=some (.ok (.rt y g),ρ2)):b8 bnd b (d :: ds) ρ=some (.ok (.rt y g),ρ2):=by
 simp only [b8,h1,ac,h2];rfl
theorem zc {α:Type} (f:α->Int):∀ l:List α,∃ qs,dq (l.map fun x=>L3.D.int (f x))=some qs/\PyData.canLayAll0 qs=true/\PyData.depthAll qs<=10/\qs.length=l.length
 | []=>⟨[],rfl,rfl,by decide,rfl⟩
 | x :: l=>by
  obtain ⟨qs,e1,a,c,b⟩:=zc f l
  refine ⟨.int (f x) :: qs,?_,?_,?_,?_⟩
  ·show (match pyD (.int (f x)),dq (l.map fun x=>L3.D.int (f x)) with | some p,some ps=>some (p :: ps) | _,_=>none)=_
   rw [e1];rfl
  ·simp [PyData.canLayAll0,PyData.canLay0,a]
  ·simp [PyData.depthAll,PyData.depth];omega
  ·simp [b]
theorem tf {d:L3.D} {p:PyData} (a:eqS d d=none) (h:pyD d=some p) (b:p.canLay0=true) (hd:p.depth<=30):eqX d d=some (.bl true,.z):=by
 have h1:eqA d d=some true:=by
  unfold eqA
  rw [a]
  exact wl h b hd
 show (eqA d d).map _=_
 rw [h1];rfl
theorem l8:∀ (l ns:List Int),l.Nodup->(∀ x ∈ l,x ∉ ns)->l.foldl met ns=ns ++ l
 | [],ns,_,_=>by simp
 | x :: l,ns,hd,hx=>by
  rw [List.nodup_cons] at hd
  rw [List.foldl_cons,show met ns x=ns ++ [x] from if_neg (hx x B6),l8 l (ns ++ [x]) hd.2 fun y a h=>?_]
  ·simp
  ·rcases Cg.mp h with h | h
   ·exact hx y (B7 _ a) h
   ·exact hd.1 (CG.mp h ▸ a)
theorem ss_is {n:Nat} {r:List Nat} (h:Ris n r) (d:n<=24):ssD [.tup (Nd r)]=some (.lst (Nd r),.u):=by
 have b:=h.len
 have c:bN (Nd r)=some (r.map fun x:Nat=>(x:Int)):=by
  clear h b
  induction r with
  | nil=>rfl
  | cons x r ih=>simp [bN,ih]
 have up:(r.map fun x:Nat=>(x:Int)).Pairwise (· < ·):=List.pairwise_map.mpr (h.up.imp fun a=>by omega)
 have m:=l8 (r.map fun x:Nat=>(x:Int)) [] (up.imp fun a=>by omega) (fun _ _=>List.not_mem_nil)
 rw [List.nil_append] at m
 have st:srt (r.map fun x:Nat=>(x:Int))=r.map fun x:Nat=>(x:Int):=cI (bE _) (bU _) (up.imp fun a=>by omega)
 show (bN (Nd r)).bind _=_
 rw [c]
 show (if (r.map fun x:Nat=>(x:Int)).length < 64 then some ((.lst ((srt ((r.map fun x:Nat=>(x:Int)).foldl met [])).map .int),.u):L3.D × Fl) else none)=_
 rw [if_pos (by rw [Ci];omega),m,st,CQ]
 rfl
theorem yM (r:List Nat):eqX (.lst (Nd r)) (.lst (Nd r))=some (.bl true,.z):=by
 obtain ⟨qs,e1,b,d,c⟩:=zc (fun i:Nat=>(i:Int)) r
 have a:pyD (.lst (Nd r))=some (.list qs):=by unfold pyD;rw [e1];rfl
 exact tf rfl a (by simp [PyData.canLay0,b]) (by simp [PyData.depth];omega)
theorem om {α:Type} {bnd:L3.D->Sto->Option Sto} {b:SM} (D:α->L3.D) (t:α->Bool) (P:Sto->Prop) {r:L3.D} {f:Fl}:∀ {xs:List α} {ρ:Sto},P ρ->(∀ x ∈ xs,∀ ρ,P ρ->∃ ρ1 ρ2,bnd (D x) ρ=some ρ1/\b ρ1=some (.ok (if t x=true then .nx else .rt r f),ρ2)/\P ρ2)->∃ ρ',b8 bnd b (xs.map D) ρ=some (.ok (if xs.all t=true then .nx else .rt r f),ρ')/\P ρ'
 | [],ρ,h0,_=>⟨ρ,rfl,h0⟩
 | x :: xs,ρ,h0,hs=>by
  obtain ⟨ρ1,ρ2,e1,a,h1⟩:=hs x B6 ρ h0
  rw [Cs,List.all_cons]
  cases c:t x with
  | true =>
   rw [c] at a
   obtain ⟨ρ',e,h3⟩:=om D t P (xs:=xs) (ρ:=ρ2) h1 fun y d=>hs y (B7 _ d)
   exact ⟨ρ',fl_nx e1 a (by rw [Bool.true_and];exact e),h3⟩
  | false =>
   rw [c] at a
   exact ⟨ρ2,fl_rt e1 a,h1⟩
theorem pA (i:Int):eh [(.int i,.z)]=some (.ok (.bl true,.z),[(.int i,.z)]):=by kernel_rfl
theorem m6 {n:Nat} {r:List Nat} (h:Ris n r) (j:n<=24):bg [(.tup (Nd r),.z),(.int (n:Int),.z)]=some (.ok (.bl true,.z),[(.tup (Nd r),.z),(.int (n:Int),.z)]):=by
 have o:=h.len
 obtain ⟨τ',e,a,rfl⟩:=bd (bnd:=ao 0) (c:=b9) (elt:=bf) (fun τ=>∃ a,τ=[a]) (fun i:Nat=>L3.D.int (i:Int)) (fun _=>true) (fun _=>.bl true) (xs:=r) (τ:=[none]) ⟨none,rfl⟩ (by
  rintro k g τ ⟨a,rfl⟩
  have w:=pA (k:Int)
  exact ⟨[some (.int (k:Int),.z)],_,rfl,rfl,(fun h=>by cases h),fun _=>⟨.val (.bl true) .z,[some (.int (k:Int),.z)],(.bl true,.z),_,by unfold bf;(nomatch [w]),rfl,rfl,_,rfl⟩⟩)
 rw [CO.mpr (fun _ _=>rfl)] at e
 have a1:=eX (fun _:Nat=>true) r
 rw [List.all_eq_true.mpr (fun _ _=>rfl)] at a1
 have e1:cF [some (.tup (Nd r),.z),some (.int (n:Int),.z)]=some (.ok (.val (.lst (r.map fun _=>.bl true)) .u),[some (.tup (Nd r),.z),some (.int (n:Int),.z)]):=aQ (rs:=[.pl 0]) (ρ1:=[some (.tup (Nd r),.z),some (.int (n:Int),.z)]) (ρ2:=[some (.tup (Nd r),.z),some (.int (n:Int),.z)]) rfl e (by rw [Ci];omega) rfl
 obtain ⟨τ2,f,v,rfl⟩:=bd (bnd:=ao 0) (c:=bQ) (elt:=dY) (fun τ=>∃ a,τ=[a,some (.int (n:Int),.z)]) (fun i:Nat=>L3.D.int (i:Int)) (fun _=>false) (fun _=>.non) (xs:=r) (τ:=[none,some (.int (n:Int),.z)]) ⟨none,rfl⟩ (by
  rintro k g τ ⟨a,rfl⟩
  have lt:=h.lt k g
  have l:ltI (.int (k:Int)) (.int 0)=some (.bl false,.z):=by simp [bo]
  have c1:geI (.int (k:Int)) (.int (n:Int))=some (.bl false,.z):=by simp [bo];omega
  refine ⟨[some (.int (k:Int),.z),some (.int (n:Int),.z)],[some (.int (k:Int),.z),some (.int (n:Int),.z)],rfl,?_,fun _=>⟨_,rfl⟩,fun h=>by cases h⟩
  unfold bQ
  refine cO (b:=false) (ρ1:=[some (.int (k:Int),.z),some (.int (n:Int),.z)]) ?_ rfl ?_
  ·exists l
  ·(exists c1))
 rw [List.filter_eq_nil_iff.mpr (fun _ _=>by decide)] at f
 have m:dX [some (.tup (Nd r),.z),some (.int (n:Int),.z)]=some (.ok (.val (.lst []) .u),[some (.tup (Nd r),.z),some (.int (n:Int),.z)]):=aQ (rs:=[.pl 0]) (ρ1:=[some (.tup (Nd r),.z),some (.int (n:Int),.z)]) (ρ2:=[some (.tup (Nd r),.z),some (.int (n:Int),.z)]) rfl f (by rw [Ci];omega) rfl
 have ss:=ss_is h j
 have li:qe [.tup (Nd r)]=some (.lst (Nd r),.u):=rfl
 have eq:=yM r
 have z:neX (.lst []) (.lst [])=some (.bl false,.z):=by kernel_rfl
 have d:eS "tuple" (.tup (Nd r))=some (.bl true,.z):=rfl
 generalize L3.D.lst (Nd r)=RL at *
 generalize L3.D.tup (Nd r)=R at *
 generalize L3.D.int (n:Int)=N at *
 apply aG (ρ:=[some (R,.z),some (N,.z)]) (ρ1:=[some (R,.z),some (N,.z)]) rfl rfl
 ·unfold dz
  apply aj (ρ1:=[some (R,.z),some (N,.z)])
  ·refine bY (b:=false) (cO (b:=false) (ρ1:=[some (R,.z),some (N,.z)]) ?_ rfl ?_) rfl rfl
   ·exact bv (cu (mm (aq rfl) rfl d) rfl)
   ·exact bv (cu (aX (am e1 aS) rfl a1) rfl)
  apply aj (ρ1:=[some (R,.z),some (N,.z)])
  ·exact bY (b:=false) (cu (bG m rfl rfl rfl z) rfl) rfl rfl
  ·apply ba
   ·exists ss,li,eq
   ·rfl
 ·rfl
theorem uA {ps:List Pt} (g:GoodSh ps) {i j k:Nat} (h1:i < ps.length) (h2:j < ps.length) (h3:k < ps.length):gv [(Shd ps,.z),(.int i,.z),(.int j,.z),(.int k,.z)]=some (.ok (.bl (decide (aV (bm ps i) (bm ps j) (bm ps k) > 0)),.z),[(Shd ps,.z),(.int i,.z),(.int j,.z),(.int k,.z)]):=by
 have s:=Small.sub (eM g.small h1) (eM g.small h2)
 have b:=m9 (bm ps i) (bm ps j) (bm ps k) s.1 s.2
 have a1:=iN h1
 have a2:=iN h2
 have a:=iN h3
 generalize bm ps i=p at *
 generalize bm ps j=q at *
 generalize bm ps k=r at *
 have z:gtI (.int (aV p q r)) (.int 0)=some (.bl (decide (aV p q r > 0)),.z):=rfl
 generalize Shd ps=H at *
 generalize decide (aV p q r > 0)=B at *
 generalize aV p q r=M at *
 generalize Pd p=p at *
 generalize Pd q=q at *
 generalize Pd r=r at *
 apply aG (ρ:=[some (H,.z),some (.int i,.z),some (.int j,.z),some (.int k,.z)]) (ρ1:=[some (H,.z),some (.int i,.z),some (.int j,.z),some (.int k,.z)]) rfl rfl
 ·apply ba
  ·nomatch [b],[a1,a2,a,z]
  ·rfl
 ·rfl
def way (b:Bool):Int:=if b then 1 else -1
theorem f_way (ps:List Pt) (i j k:Nat) (b:Bool):decide (decide (aV (bm ps i) (bm ps j) (bm ps k) > 0)=b)=decide ((sgn ps).f i j k=way b):=by
 show _=decide ((if 0 < aV (bm ps i) (bm ps j) (bm ps k) then (1:Int) else -1)=way b)
 by_cases h:0 < aV (bm ps i) (bm ps j) (bm ps k)
 ·rw [if_pos h,Ct (show aV (bm ps i) (bm ps j) (bm ps k) > 0 from h)]
  cases b <;> rfl
 ·rw [if_neg h,Cu (show ¬ aV (bm ps i) (bm ps j) (bm ps k) > 0 from h)]
  cases b <;> rfl
theorem i6 (ps:List Pt):bM [Shd ps]=some (.int (ps.length:Int),.z):=by simp [kc,c1]
theorem qC {ps:List Pt} (g:GoodSh ps) {row:List Nat} (h:Ris ps.length row) {k:Nat} (c:k+2 < row.length) {b:Bool}:cg [some (Shd ps,.z),some (.tup (Nd row),.z),some (.bl b,.z),some (.int (k:Int),.z)]=some (.ok (if decide ((sgn ps).f (el row k) (el row (k+1)) (el row (k+2))=way b)=true then .nx else .rt (.bl false) .z),[some (Shd ps,.z),some (.tup (Nd row),.z),some (.bl b,.z),some (.int (k:Int),.z)]):=by
 have f:=uA g (h.lt _ (eT (L:=row) (i:=k) (by omega))) (h.lt _ (eT (L:=row) (i:=k+1) (by omega))) (h.lt _ (eT (L:=row) (i:=k+2) (by omega)))
 have s0:=iO (r:=row) (i:=k) (by omega)
 have s1:aw (.tup (Nd row)) (.int ((k:Int)+1))=some (.int (el row (k+1)),.z):=iO (r:=row) (i:=k+1) (by omega)
 have s2:aw (.tup (Nd row)) (.int ((k:Int)+2))=some (.int (el row (k+2)),.z):=iO (r:=row) (i:=k+2) (by omega)
 have a:=f_way ps (el row k) (el row (k+1)) (el row (k+2)) b
 rw [<- a]
 generalize decide (aV (bm ps (el row k)) (bm ps (el row (k+1))) (bm ps (el row (k+2))) > 0)=u at *
 have ne:neX (.bl u) (.bl b)=some (.bl (!decide (u=b)),.z):=rfl
 generalize Shd ps=H at *
 generalize L3.D.tup (Nd row)=R at *
 unfold cg
 cases hd:decide (u=b) with
 | true =>
  rw [hd] at ne
  refine bY (b:=false) ?_ rfl rfl
  nomatch [f],[s0,s1,s2,ne]
 | false =>
  rw [hd] at ne
  refine cV (b:=true) ?_ rfl (ba i_c rfl)
  nomatch [f],[s0,s1,s2,ne]
theorem pB {ps:List Pt} (g:GoodSh ps) {row:List Nat} (h:Ris ps.length row) (h2:2<=row.length) {b:Bool}:cD [(Shd ps,.z),(.tup (Nd row),.z),(.bl b,.z)]=some (.ok (.bl (rb (sgn ps) row (way b)),.z),[(Shd ps,.z),(.tup (Nd row),.z),(.bl b,.z)]):=by
 have o:=g.most
 have n:=h.len
 have m:=m6 h (by omega)
 have ln:=i6 ps
 have c:bM [.tup (Nd row)]=some (.int (row.length:Int),.z):=by simp [kc,c1]
 have c2:ltI (.int (row.length:Int)) (.int 2)=some (.bl false,.z):=by simp [bo];omega
 have d:cz [.int ((row.length:Int) - 2)]=some (aH 0 (row.length - 2)):=bS (by omega) (by omega)
 obtain ⟨ρ',e,v,rfl⟩:=om (bnd:=ao 3) (b:=cg) (fun i:Nat=>L3.D.int (0+(i:Int))) (fun k=>decide ((sgn ps).f (el row k) (el row (k+1)) (el row (k+2))=way b)) (fun ρ=>∃ v,ρ=[some (Shd ps,.z),some (.tup (Nd row),.z),some (.bl b,.z),v]) (r:=.bl false) (f:=.z) (xs:=List.range (row.length - 2)) (ρ:=[some (Shd ps,.z),some (.tup (Nd row),.z),some (.bl b,.z),none]) ⟨none,rfl⟩ (by
  rintro k l ρ ⟨v,rfl⟩
  rw [List.mem_range] at l
  rw [Int.zero_add]
  exact ⟨_,_,rfl,qC g h (k:=k) (by omega),_,rfl⟩)
 have a:(List.range (row.length - 2)).all (fun k=>decide ((sgn ps).f (el row k) (el row (k+1)) (el row (k+2))=way b))=rb (sgn ps) row (way b):=rfl
 rw [a] at e
 have j:b8 (ao 3) cg (aH 0 (row.length - 2)) [some (Shd ps,.z),some (.tup (Nd row),.z),some (.bl b,.z),none]=some (.ok (if rb (sgn ps) row (way b)=true then .nx else .rt (.bl false) .z),[some (Shd ps,.z),some (.tup (Nd row),.z),some (.bl b,.z),v]):=e
 generalize rb (sgn ps) row (way b)=B at *
 generalize Shd ps=H at *
 generalize L3.D.tup (Nd row)=R at *
 generalize L3.D.int (ps.length:Int)=N at *
 generalize (row.length:Int)=M at *
 apply aG (ρ:=[some (H,.z),some (R,.z),some (.bl b,.z),none]) (ρ1:=[some (H,.z),some (R,.z),some (.bl b,.z),v]) rfl rfl
 ·unfold iY
  apply aj (ρ1:=[some (H,.z),some (R,.z),some (.bl b,.z),none])
  ·refine bY (b:=false) (cO (b:=false) (ρ1:=[some (H,.z),some (R,.z),some (.bl b,.z),none]) ?_ rfl ?_) rfl rfl
   ·exact bv (cu (ai m (am (aq rfl) (am (aX (am (aq rfl) aS) rfl ln) aS)) rfl rfl rfl) rfl)
   ·exists c,c2
  cases B with
  | true =>
   apply aj (ρ1:=[some (H,.z),some (R,.z),some (.bl b,.z),v])
   ·apply gj
    ·(repeat' (first | with_reducible apply cN (h3:=d) | infer_instance | exact c | eq_refl))
    ·rfl
    ·exact j
   ·exact ba i_c rfl
  | false =>
   apply cQ
   apply gj
   ·(repeat' (first | with_reducible apply cN (h3:=d) | infer_instance | exact c | eq_refl))
   ·rfl
   ·exact j
 ·rfl
theorem rq:∀ r:List Nat,bN (Nd r)=some (r.map fun x:Nat=>(x:Int))
 | []=>rfl
 | x :: r=>by
  have a:=rq r
  simp [bN] at a ⊢
  exact a
theorem qm {xs:List L3.D} {d:L3.D} {lo hi:Option Int} (h:d ∈ cT xs lo hi):d ∈ xs:=by
 unfold cT at h
 first | exact List.mem_of_mem_drop (List.mem_of_mem_take h) | exact List.mem_of_mem_take (List.mem_of_mem_drop h)
theorem mw {xs:List L3.D} {lo hi:Option Int}:(cT xs lo hi).length<=xs.length:=by
 unfold cT
 simp only [CB,List.length_drop]
 omega
theorem pY:∀ (l ns:List Int) (x:Int),x ∈ l.foldl met ns->x ∈ ns\/x ∈ l
 | [],ns,x,h=>.inl h
 | y :: l,ns,x,h=>by
  rcases pY l (met ns y) x h with h | h
  ·unfold met at h
   split at h
   ·exact .inl h
   ·rcases Cg.mp h with h | h
    ·exact .inl h
    ·exact .inr (CG.mp h ▸ B6)
  ·exact .inr (B7 _ h)
theorem gg:∀ (l ns:List Int),(l.foldl met ns).length<=ns.length+l.length
 | [],ns=>by simp
 | y :: l,ns=>by
  have h:=gg l (met ns y)
  have:(met ns y).length<=ns.length+1:=by
   unfold met
   split <;> simp
  rw [List.foldl_cons,CA]
  omega
theorem iu (n:Int) {m:Nat} (h:0 < m):∃ x:Nat,x < m/\n % (m:Int)=(x:Int):=by
 have:=cG n (m:Int) (by omega)
 exact ⟨(n % (m:Int)).toNat,by omega,by omega⟩
theorem Bi (s:Str):neX (.str s) (.str s)=some (.bl false,.z):=by
 simp [eqA,eqS]
theorem jh {bnd:L3.D->Sto->Option Sto} {c:M3 Bool} {elt:EM} (P:Sto->Prop) (Q:L3.D->Prop):∀ {ds:List L3.D} {τ:Sto},P τ ->
  (∀ d ∈ ds,∀ τ,P τ->∃ τ1 τ2 r τ3 p τ4,bnd d τ=some τ1/\c τ1=some (.ok true,τ2)/\elt τ2=some (.ok r,τ3)/\cw r τ3=some (.ok p,τ4)/\Q p.1/\P τ4) ->
  ∃ out τ',bz bnd c elt ds τ=some (.ok out,τ')/\P τ'/\(∀ d ∈ out,Q d)/\out.length=ds.length
 | [],τ,h0,_=>⟨[],τ,rfl,h0,(fun d hd=>by cases hd),rfl⟩
 | x :: xs,τ,h0,hs=>by
  obtain ⟨τ1,τ2,r,τ3,p,τ4,e1,h,j,i,q,a⟩:=hs x B6 τ h0
  obtain ⟨out,τ',e,f,b,g⟩:=jh P Q (ds:=xs) (τ:=τ4) a fun d hd=>hs d (B7 _ hd)
  refine ⟨p.1 :: out,τ',?_,f,fun d hd=>?_,by simp [g]⟩
  ·unfold bz
   simp [e1,ac,h,j,i,e,aO]
  ·rcases Cd.mp hd with rfl | hd
   ·exact q
   ·exact b d hd
theorem kY (b:Bool):eA [(.bl b,.z),(.bl b,.z)]=some (.ok (.bl true,.z),[(.bl b,.z),(.bl b,.z)]):=by
 cases b <;> kernel_rfl
def nox:L3.D->Bool
 | .exc _ _=>false
 | _=>true
def wh:L3.D->Bool
 | .int _=>true
 | _=>false
theorem wh_l {d:L3.D} (h:nox d=true):eh [(d,.z)]=some (.ok (.bl (wh d),.z),[(d,.z)]):=by
 cases d <;> first | exact (Cp h).elim | kernel_rfl
theorem wh_p {d:L3.D} (h:nox d=true):bI [(d,.z)]=some (.ok (.bl (wh d),.z),[(d,.z)]):=by
 cases d <;> first | exact (Cp h).elim | kernel_rfl
def plc (n:Int):L3.D->Bool
 | .int i=>decide (0<=i) && decide (i < n)
 | _=>false
theorem vU {f c:L3.D->L3.D->Option (L3.D × Fl)} {ma mb mc:EM} {ra rb:R3} {ρ ρ1 ρ2:Sto} {da db:L3.D} {fl:Fl} (h1:ma ρ=some (.ok ra,ρ1)) (h2:mb ρ1=some (.ok rb,ρ2)) (h3:der ra ρ2=some (.ok da,ρ2)) (b:der rb ρ2=some (.ok db,ρ2)) (a:f da db=some (.bl false,fl)):cS f c ma mb mc ρ=some (.ok (.val (.bl false) .z),ρ2):=by
 simp only [cS,ac,h1,h2,h3,b,a,aR,Option.bind_some,asB,CD,CH,if_false]
 rfl
theorem k9 {d:L3.D} (h:nox d=true) (n:Int):dG [(d,.z),(.int n,.z)]=some (.ok (.bl (plc n d),.z),[(d,.z),(.int n,.z)]):=by
 have w:=wh_p h
 by_cases hd:∃ i,d=.int i
 ·obtain ⟨i,rfl⟩:=hd
  by_cases h0:0<=i
  ·have a:leI (.int 0) (.int i)=some (.bl true,.z):=by simp [bo,h0]
   have b:ltI (.int i) (.int n)=some (.bl (decide (i < n)),.z):=by simp [bo]
   have e:plc n (.int i)=decide (i < n):=by simp [plc,h0]
   rw [e]
   apply aG (ρ:=[some (.int i,.z),some (.int n,.z)]) rfl rfl
   ·apply ba
    ·apply iD
     ·nomatch [w]
     ·rfl
     ·rfl
     ·exact mo i_c (aq rfl) rfl rfl a (aq rfl) rfl rfl b
    ·rfl
   ·rfl
  ·have a:leI (.int 0) (.int i)=some (.bl false,.z):=by simp [bo,h0]
   have e:plc n (.int i)=false:=by simp [plc,h0]
   rw [e]
   apply aG (ρ:=[some (.int i,.z),some (.int n,.z)]) (ρ1:=[some (.int i,.z),some (.int n,.z)]) rfl rfl
   ·apply ba
    ·apply iD
     ·nomatch [w]
     ·rfl
     ·rfl
     ·exact vU i_c (aq rfl) rfl rfl a
    ·rfl
   ·rfl
 ·have e:plc n d=false:=by
   cases d <;> first | rfl | exact absurd ⟨_,rfl⟩ hd
  have c:wh d=false:=by
   cases d <;> first | rfl | exact absurd ⟨_,rfl⟩ hd
  rw [c] at w
  rw [e]
  apply aG (ρ:=[some (d,.z),some (.int n,.z)]) (ρ1:=[some (d,.z),some (.int n,.z)]) rfl rfl
  ·apply ba
   ·apply yG
    ·nomatch [w]
    ·rfl
    ·rfl
   ·rfl
  ·rfl
theorem jQ (xs:List L3.D):xs.map (fun x=>x)=xs:=List.map_id xs
theorem vK {xs:List L3.D} (f:∀ x ∈ xs,nox x=true) (i:xs.length<=30) (hw:xs.all wh=false) (N:L3.D):bg [(.tup xs,.z),(N,.z)]=some (.ok (.bl false,.z),[(.tup xs,.z),(N,.z)]):=by
 obtain ⟨τ',e,a,rfl⟩:=bd (bnd:=ao 0) (c:=b9) (elt:=bf) (fun τ=>∃ a,τ=[a]) (fun x:L3.D=>x) (fun _=>true) (fun x=>.bl (wh x)) (xs:=xs) (τ:=[none]) ⟨none,rfl⟩ (by
  rintro k g τ ⟨a,rfl⟩
  have w:=wh_l (f k g)
  exact ⟨[some (k,.z)],_,rfl,rfl,(fun h=>by cases h),fun _=>⟨.val (.bl (wh k)) .z,[some (k,.z)],(.bl (wh k),.z),_,by unfold bf;(nomatch [w]),rfl,rfl,_,rfl⟩⟩)
 rw [CO.mpr (fun _ _=>rfl),jQ] at e
 have a1:=eX wh xs
 rw [hw] at a1
 have e1:cF [some (.tup xs,.z),some (N,.z)]=some (.ok (.val (.lst (xs.map fun x=>.bl (wh x))) .u),[some (.tup xs,.z),some (N,.z)]):=aQ (rs:=[.pl 0]) (ρ1:=[some (.tup xs,.z),some (N,.z)]) (ρ2:=[some (.tup xs,.z),some (N,.z)]) rfl e (by omega) rfl
 have d:eS "tuple" (.tup xs)=some (.bl true,.z):=rfl
 generalize L3.D.tup xs=R at *
 apply aG (ρ:=[some (R,.z),some (N,.z)]) (ρ1:=[some (R,.z),some (N,.z)]) rfl rfl
 ·unfold dz
  refine cQ (cV (b:=true) (cO (b:=false) (ρ1:=[some (R,.z),some (N,.z)]) ?_ rfl ?_) rfl (ba i_c rfl))
  ·exact bv (cu (mm (aq rfl) rfl d) rfl)
  ·exact bv (cu (aX (am e1 aS) rfl a1) rfl)
 ·rfl
theorem nz {xs:List L3.D} (f:∀ x ∈ xs,nox x=true) (i:xs.length<=30) (n:Int) (hw:xs.all (plc n)=false):av [(.tup xs,.z),(.int n,.z)]=some (.ok (.bl false,.z),[(.tup xs,.z),(.int n,.z)]):=by
 obtain ⟨τ',e,a,rfl⟩:=bd (bnd:=ao 0) (c:=b9) (elt:=ay) (fun τ=>∃ a,τ=[a,some (.int n,.z)]) (fun x:L3.D=>x) (fun _=>true) (fun x=>.bl (plc n x)) (xs:=xs) (τ:=[none,some (.int n,.z)]) ⟨none,rfl⟩ (by
  rintro k g τ ⟨a,rfl⟩
  have pl:=k9 (f k g) n
  exact ⟨[some (k,.z),some (.int n,.z)],_,rfl,rfl,(fun h=>by cases h),fun _=>⟨.val (.bl (plc n k)) .z,[some (k,.z),some (.int n,.z)],(.bl (plc n k),.z),_,by unfold ay;(nomatch [pl]),rfl,rfl,_,rfl⟩⟩)
 rw [CO.mpr (fun _ _=>rfl),jQ] at e
 have a1:=eX (plc n) xs
 rw [hw] at a1
 have e1:aZ [some (.tup xs,.z),some (.int n,.z)]=some (.ok (.val (.lst (xs.map fun x=>.bl (plc n x))) .u),[some (.tup xs,.z),some (.int n,.z)]):=aQ (rs:=[.pl 0]) (ρ1:=[some (.tup xs,.z),some (.int n,.z)]) (ρ2:=[some (.tup xs,.z),some (.int n,.z)]) rfl e (by omega) rfl
 have d:eS "tuple" (.tup xs)=some (.bl true,.z):=rfl
 generalize L3.D.tup xs=R at *
 generalize L3.D.int n=N at *
 apply aG (ρ:=[some (R,.z),some (N,.z)]) (ρ1:=[some (R,.z),some (N,.z)]) rfl rfl
 ·unfold bL
  refine cQ (cV (b:=true) (cO (b:=false) (ρ1:=[some (R,.z),some (N,.z)]) ?_ rfl ?_) rfl (ba i_c rfl))
  ·exact bv (cu (mm (aq rfl) rfl d) rfl)
  ·exact bv (cu (aX (am e1 aS) rfl a1) rfl)
 ·rfl
abbrev Id' (zs:List Int):List L3.D:=zs.map L3.D.int
theorem uZ:∀ zs:List Int,dq (Id' zs)=some (zs.map PyData.int)/\PyData.canLayAll0 (zs.map PyData.int)=true/\PyData.depthAll (zs.map PyData.int)=0
 | []=>⟨rfl,rfl,rfl⟩
 | z :: zs=>by
  obtain ⟨a,b,c⟩:=uZ zs
  refine ⟨?_,by simp [PyData.canLayAll0,PyData.canLay0,b],by simp [PyData.depthAll,PyData.depth,c]⟩
  show (match pyD (.int z),dq (Id' zs) with | some p,some ps=>some (p :: ps) | _,_=>none)=_
  rw [a]
  rfl
theorem wj:∀ l m:List Int,PyData.eqvAll (l.map PyData.int) (m.map PyData.int)=decide (l=m)
 | [],[]=>by simp [PyData.eqvAll]
 | [],_ :: _=>by simp [PyData.eqvAll]
 | _ :: _,[]=>by simp [PyData.eqvAll]
 | a :: l,b :: m=>by
  rw [Cs,Cs,PyData.eqvAll,wj l m]
  simp [PyData.eqv,Bool.decide_and]
  rfl
theorem wm (l m:List Int):eqA (.lst (Id' l)) (.lst (Id' m))=some (decide (l=m)):=by
 obtain ⟨a,b,c⟩:=uZ l
 obtain ⟨f,e,g⟩:=uZ m
 have d:pyD (.lst (Id' l))=some (.list (l.map PyData.int)):=by unfold pyD;rw [a];rfl
 have p2:pyD (.lst (Id' m))=some (.list (m.map PyData.int)):=by unfold pyD;rw [f];rfl
 show eqP _ _=_
 unfold eqP
 rw [d,p2]
 have:((PyData.list (l.map PyData.int)).canLay0 && (PyData.list (m.map PyData.int)).canLay0 && decide (min (PyData.list (l.map PyData.int)).depth (PyData.list (m.map PyData.int)).depth<=30))=true:=by
  simp [PyData.canLay0,b,e,PyData.depth,c,g]
 show (if _ then _ else _)=_
 rw [if_pos this,PyData.eqv,wj]
theorem wh_Id (zs:List Int):(Id' zs).all wh=true:=by simp [wh]
theorem vz {zs:List Int}:∀ x ∈ Id' zs,nox x=true:=by
 intro x a
 obtain ⟨z,_,rfl⟩:=Cm.mp a
 rfl
abbrev oor (n z:Int):Bool:=decide (z < 0) || decide (z ≥ n)
theorem rz (zs:List Int):bN (Id' zs)=some zs:=by
 induction zs with
 | nil=>rfl
 | cons z zs ih=>simp [bN,ih]
theorem sQ {zs:List Int} (q:zs.length<=30) (n:Int):bg [(.tup (Id' zs),.z),(.int n,.z)]=some (.ok (.bl (!zs.any (oor n) && decide (zs=srt (zs.foldl met []))),.z),[(.tup (Id' zs),.z),(.int n,.z)]):=by
 obtain ⟨τ',e,a,rfl⟩:=bd (bnd:=ao 0) (c:=b9) (elt:=bf) (fun τ=>∃ a,τ=[a]) (fun x:L3.D=>x) (fun _=>true) (fun x=>.bl (wh x)) (xs:=Id' zs) (τ:=[none]) ⟨none,rfl⟩ (by
  rintro k m τ ⟨a,rfl⟩
  have w:=wh_l (vz k m)
  exact ⟨[some (k,.z)],_,rfl,rfl,(fun h=>by cases h),fun _=>⟨.val (.bl (wh k)) .z,[some (k,.z)],(.bl (wh k),.z),_,by unfold bf;(nomatch [w]),rfl,rfl,_,rfl⟩⟩)
 rw [CO.mpr (fun _ _=>rfl),jQ] at e
 have a1:=eX wh (Id' zs)
 rw [wh_Id] at a1
 have e1:cF [some (.tup (Id' zs),.z),some (.int n,.z)]=some (.ok (.val (.lst ((Id' zs).map fun x=>.bl (wh x))) .u),[some (.tup (Id' zs),.z),some (.int n,.z)]):=aQ (rs:=[.pl 0]) (ρ1:=[some (.tup (Id' zs),.z),some (.int n,.z)]) (ρ2:=[some (.tup (Id' zs),.z),some (.int n,.z)]) rfl e (by rw [Ci];omega) rfl
 obtain ⟨τ2,f,v,rfl⟩:=bd (bnd:=ao 0) (c:=bQ) (elt:=dY) (fun τ=>∃ a,τ=[a,some (.int n,.z)]) (fun i:Int=>L3.D.int i) (oor n) (fun i:Int=>L3.D.int i) (xs:=zs) (τ:=[none,some (.int n,.z)]) ⟨none,rfl⟩ (by
  rintro k m τ ⟨a,rfl⟩
  have g:ltI (.int k) (.int 0)=some (.bl (decide (k < 0)),.z):=by simp [bo]
  have c1:geI (.int k) (.int n)=some (.bl (decide (k ≥ n)),.z):=by simp [bo]
  refine ⟨[some (.int k,.z),some (.int n,.z)],[some (.int k,.z),some (.int n,.z)],rfl,?_,fun _=>⟨_,rfl⟩,fun _=>⟨_,_,(.int k,.z),[some (.int k,.z),some (.int n,.z)],aq rfl,rfl,rfl,_,rfl⟩⟩
  unfold bQ
  by_cases h0:k < 0
  ·have:oor n k=true:=by simp [h0]
   rw [this]
   rw [Ct h0] at g
   exact lu (b:=true) (by (exists g)) rfl
  ·have:oor n k=decide (k ≥ n):=by simp [h0]
   rw [this]
   rw [Cu h0] at g
   refine cO (b:=false) (ρ1:=[some (.int k,.z),some (.int n,.z)]) ?_ rfl ?_
   ·exists g
   ·(exists c1))
 have o:dX [some (.tup (Id' zs),.z),some (.int n,.z)]=some (.ok (.val (.lst (Id' (zs.filter (oor n)))) .u),[some (.tup (Id' zs),.z),some (.int n,.z)]):=aQ (rs:=[.pl 0]) (ρ1:=[some (.tup (Id' zs),.z),some (.int n,.z)]) (ρ2:=[some (.tup (Id' zs),.z),some (.int n,.z)]) rfl f (by rw [Ci];omega) rfl
 have ne:neX (.lst (Id' (zs.filter (oor n)))) (.lst [])=some (.bl (!decide (zs.filter (oor n)=[])),.z):=by
  have:=wm (zs.filter (oor n)) []
  show (eqA _ _).map _=_
  rw [show (L3.D.lst [])=L3.D.lst (Id' []) from rfl,this]
  rfl
 have ss:ssD [.tup (Id' zs)]=some (.lst (Id' (srt (zs.foldl met []))),.u):=by
  show (bN (Id' zs)).bind _=_
  rw [rz]
  show (if zs.length < 64 then some ((.lst ((srt (zs.foldl met [])).map .int),.u):L3.D × Fl) else none)=_
  rw [if_pos (by omega)]
 have li:qe [.tup (Id' zs)]=some (.lst (Id' zs),.u):=rfl
 have eq:eqX (.lst (Id' zs)) (.lst (Id' (srt (zs.foldl met []))))=some (.bl (decide (zs=srt (zs.foldl met []))),.z):=by
  show (eqA _ _).map _=_
  rw [wm]
  rfl
 have d:(!decide (zs.filter (oor n)=[]))=zs.any (oor n):=by
  cases h:zs.any (oor n) with
  | true =>
   obtain ⟨x,j,p⟩:=List.any_eq_true.mp h
   have:zs.filter (oor n) ≠ []:=fun z=>by
    have:=CI.mpr ⟨j,p⟩
    rw [z] at this
    cases this
   simp [this]
  | false =>
   have:zs.filter (oor n)=[]:=List.filter_eq_nil_iff.mpr fun x j=>by
    have:=List.any_eq_false.mp h x j
    exact this
   simp [this]
 rw [d] at ne
 have l:eS "tuple" (.tup (Id' zs))=some (.bl true,.z):=rfl
 generalize decide (zs=srt (zs.foldl met []))=Bq at *
 generalize zs.any (oor n)=Ba at *
 generalize L3.D.lst (Id' (srt (zs.foldl met [])))=RS at *
 generalize L3.D.lst (Id' (zs.filter (oor n)))=RF at *
 generalize L3.D.lst (Id' zs)=RL at *
 generalize L3.D.tup (Id' zs)=R at *
 generalize L3.D.int n=N at *
 apply aG (ρ:=[some (R,.z),some (N,.z)]) (ρ1:=[some (R,.z),some (N,.z)]) rfl rfl
 ·unfold dz
  apply aj (ρ1:=[some (R,.z),some (N,.z)])
  ·refine bY (b:=false) (cO (b:=false) (ρ1:=[some (R,.z),some (N,.z)]) ?_ rfl ?_) rfl rfl
   ·exact bv (cu (mm (aq rfl) rfl l) rfl)
   ·exact bv (cu (aX (am e1 aS) rfl a1) rfl)
  cases Ba with
  | true=>exact cQ (cV (b:=true) (cu (bG o rfl rfl rfl ne) rfl) rfl (ba i_c rfl))
  | false =>
   apply aj (ρ1:=[some (R,.z),some (N,.z)])
   ·exact bY (b:=false) (cu (bG o rfl rfl rfl ne) rfl) rfl rfl
   ·apply ba
    ·exists ss,li,eq
    ·rfl
 ·rfl
def ez (zs:List Int) (i:Nat):Int:=zs.getD i 0
theorem BH {zs:List Int} {i:Nat} (h:i < zs.length):zs[i]?=some (ez zs i):=by simp [ez,List.getD,h]
theorem ul {zs:List Int} {i:Nat} (h:i < zs.length):aw (.tup (Id' zs)) (.int (i:Int))=some (.int (ez zs i),.z):=dl (mO (by rw [Cn,BH h];rfl))
def stp (zs:List Int) (a:Nat):Bool:=decide (ez zs a < ez zs (a+1))
theorem sB {zs:List Int} (g:zs.length<=30) (n:Int) (hw:(Id' zs).all (plc n)=true):av [(.tup (Id' zs),.z),(.int n,.z)]=some (.ok (.bl ((List.range (zs.length - 1)).all (stp zs)),.z),[(.tup (Id' zs),.z),(.int n,.z)]):=by
 obtain ⟨τ',e,a,rfl⟩:=bd (bnd:=ao 0) (c:=b9) (elt:=ay) (fun τ=>∃ a,τ=[a,some (.int n,.z)]) (fun x:L3.D=>x) (fun _=>true) (fun x=>.bl (plc n x)) (xs:=Id' zs) (τ:=[none,some (.int n,.z)]) ⟨none,rfl⟩ (by
  rintro k d τ ⟨a,rfl⟩
  have pl:=k9 (vz k d) n
  exact ⟨[some (k,.z),some (.int n,.z)],_,rfl,rfl,(fun h=>by cases h),fun _=>⟨.val (.bl (plc n k)) .z,[some (k,.z),some (.int n,.z)],(.bl (plc n k),.z),_,by unfold ay;(nomatch [pl]),rfl,rfl,_,rfl⟩⟩)
 rw [CO.mpr (fun _ _=>rfl),jQ] at e
 have a1:=eX (plc n) (Id' zs)
 rw [hw] at a1
 have e1:aZ [some (.tup (Id' zs),.z),some (.int n,.z)]=some (.ok (.val (.lst ((Id' zs).map fun x=>.bl (plc n x))) .u),[some (.tup (Id' zs),.z),some (.int n,.z)]):=aQ (rs:=[.pl 0]) (ρ1:=[some (.tup (Id' zs),.z),some (.int n,.z)]) (ρ2:=[some (.tup (Id' zs),.z),some (.int n,.z)]) rfl e (by rw [Ci];omega) rfl
 obtain ⟨τ2,f,b,rfl⟩:=bd (bnd:=ao 0) (c:=b9) (elt:=bu) (fun τ=>∃ a,τ=[a,some (.tup (Id' zs),.z)]) (fun i:Nat=>L3.D.int (0+(i:Int))) (fun _=>true) (fun i:Nat=>.bl (stp zs i)) (xs:=List.range (zs.length - 1)) (τ:=[none,some (.tup (Id' zs),.z)]) ⟨none,rfl⟩ (by
  rintro k d τ ⟨a,rfl⟩
  rw [List.mem_range] at d
  rw [Int.zero_add]
  have g1:=ul (zs:=zs) (i:=k) (by omega)
  have g2:aw (.tup (Id' zs)) (.int ((k:Int)+1))=some (.int (ez zs (k+1)),.z):=by
   have:=ul (zs:=zs) (i:=k+1) (by omega)
   rw [Int.natCast_add] at this
   exact this
  have g:ltI (.int (ez zs k)) (.int (ez zs (k+1)))=some (.bl (stp zs k),.z):=by simp [bo,stp]
  exact ⟨[some (.int (k:Int),.z),some (.tup (Id' zs),.z)],_,rfl,rfl,(fun h=>by cases h),fun _=>⟨.val (.bl (stp zs k)) .z,[some (.int (k:Int),.z),some (.tup (Id' zs),.z)],(.bl (stp zs k),.z),_,bG (bG (aq rfl) (aq rfl) rfl rfl g1) (bG (aq rfl) (bG (aq rfl) i_c rfl rfl rfl) rfl rfl g2) rfl rfl g,rfl,rfl,_,rfl⟩⟩)
 rw [CO.mpr (fun _ _=>rfl)] at f
 have j:cz [.int (((Id' zs).length:Int) - 1)]=some (aH 0 (zs.length - 1)):=bS (by first | (simp;done) | (simp;omega)) (by first | (simp;done) | (simp;omega))
 have l:bt [some (.tup (Id' zs),.z),some (.int n,.z)]=some (.ok (.val (.lst ((List.range (zs.length - 1)).map fun i=>.bl (stp zs i))) .u),[some (.tup (Id' zs),.z),some (.int n,.z)]):=aQ (rs:=[]) (ρ1:=[some (.tup (Id' zs),.z),some (.int n,.z)]) (ds:=aH 0 (zs.length - 1)) (by (repeat' (first | with_reducible apply cN (h3:=j) | infer_instance | eq_refl))) f (by rw [a8];omega) rfl
 have a2:=eX (stp zs) (List.range (zs.length - 1))
 generalize (List.range (zs.length - 1)).all (stp zs)=B at *
 apply aG (ρ:=[some (.tup (Id' zs),.z),some (.int n,.z)]) rfl rfl
 ·apply aj (ρ1:=[some (.tup (Id' zs),.z),some (.int n,.z)])
  ·apply bY
   ·apply cO (b:=false)
    ·nofun
    ·rfl
    ·exact bv (cu (aX (am e1 aS) rfl a1) rfl)
   ·rfl
   ·rfl
  ·exact ba (aX (am l aS) rfl a2) rfl
 ·rfl
theorem oH:∀ zs:List Int,(∀ a,a+1 < zs.length->ez zs a < ez zs (a+1))->zs.Pairwise (· < ·)
 | [],_=>.nil
 | [x],_=>List.pairwise_singleton _ _
 | x :: y :: t,h=>by
  have b:=oH (y :: t) fun a c=>h (a+1) (by simp at c ⊢;omega)
  have h0:x < y:=h 0 (by simp)
  refine List.pairwise_cons.mpr ⟨fun z hz=>?_,b⟩
  rcases Cd.mp hz with rfl | hz
  ·exact h0
  ·have:=(List.pairwise_cons.mp b).1 z hz
   omega
theorem iX:∀ (l ns:List Int),ns.Nodup->(l.foldl met ns).Nodup
 | [],_,h=>h
 | x :: l,ns,h=>by
  rw [List.foldl_cons]
  refine iX l _ ?_
  unfold met
  split
  ·exact h
  ·rename_i d
   refine List.nodup_append.mpr ⟨h,by simp,fun a e b c=>?_⟩
   simp at c
   rintro rfl
   exact d (c ▸ e)
theorem up_ss (zs:List Int):zs=srt (zs.foldl met []) ↔ zs.Pairwise (· < ·):=by
 constructor
 ·intro h
  have s:=bU (zs.foldl met [])
  have d:(srt (zs.foldl met [])).Nodup:=(bE _).nodup_iff.mpr (iX zs [] .nil)
  rw [<- h] at s d
  exact (s.and d).imp fun a=>by omega
 ·intro up
  have m:=l8 zs [] (up.imp fun a=>by omega) (fun _ _=>List.not_mem_nil)
  rw [List.nil_append] at m
  rw [m]
  exact (cI (bE _) (bU _) (up.imp fun a=>by omega)).symm
theorem pW:∀ {zs:List Int},(∀ z ∈ zs,0<=z)->∃ r:List Nat,Id' zs=Nd r/\zs=r.map fun x:Nat=>(x:Int)
 | [],_=>⟨[],rfl,rfl⟩
 | z :: zs,h=>by
  obtain ⟨r,e,b⟩:=pW (zs:=zs) fun x a=>h x (B7 _ a)
  have:=h z B6
  refine ⟨z.toNat :: r,?_,?_⟩
  ·show L3.D.int z :: Id' zs=L3.D.int (z.toNat:Int) :: Nd r
   rw [e,Int.toNat_of_nonneg this]
  ·rw [Cs,Int.toNat_of_nonneg this,<- b]
theorem uQ {n:Nat} {xs:List L3.D} (b:∀ x ∈ xs,nox x=true) (d:xs.length<=30):(∃ r,xs=Nd r/\Ris n r)\/(bg [(.tup xs,.z),(.int (n:Int),.z)]=some (.ok (.bl false,.z),[(.tup xs,.z),(.int (n:Int),.z)])/\av [(.tup xs,.z),(.int (n:Int),.z)]=some (.ok (.bl false,.z),[(.tup xs,.z),(.int (n:Int),.z)])):=by
 cases hw:xs.all wh with
 | false =>
  refine .inr ⟨vK b d hw _,nz b d _ ?_⟩
  obtain ⟨x,h1,h2⟩:=List.all_eq_false.mp hw
  refine List.all_eq_false.mpr ⟨x,h1,fun h=>h2 ?_⟩
  cases x <;> first | rfl | exact (Cp h).elim
 | true =>
  obtain ⟨zs,rfl⟩:∃ zs,xs=Id' zs:=by
   clear b d
   induction xs with
   | nil=>exact ⟨[],rfl⟩
   | cons x xs ih =>
    rw [List.all_cons,Bool.and_eq_true] at hw
    obtain ⟨zs,rfl⟩:=ih hw.2
    cases x <;> first | exact (Cp hw.1).elim | exact ⟨_ :: zs,rfl⟩
  rw [Ci] at d
  have L:=sQ d (n:Int)
  by_cases f:zs.any (oor (n:Int))=true
  ·refine .inr ⟨?_,nz b (by rw [Ci];exact d) _ ?_⟩
   ·rw [f] at L;exact L
   ·obtain ⟨z,h1,h2⟩:=List.any_eq_true.mp f
    refine List.all_eq_false.mpr ⟨.int z,Cm.mpr ⟨z,h1,rfl⟩,fun h=>?_⟩
    simp only [plc,Bool.and_eq_true,decide_eq_true_eq] at h
    simp only [oor,Bool.or_eq_true,decide_eq_true_eq] at h2
    omega
  ·have f:zs.any (oor (n:Int))=false:=by simpa using f
   have c:∀ z ∈ zs,0<=z/\z < n:=fun z hz=>by
    have:=List.any_eq_false.mp f z hz
    simp only [oor,Bool.or_eq_true,decide_eq_true_eq] at this
    omega
   have j:(Id' zs).all (plc (n:Int))=true:=List.all_eq_true.mpr fun x b=>by
    obtain ⟨z,hz,rfl⟩:=Cm.mp b
    have:=c z hz
    simp only [plc,Bool.and_eq_true,decide_eq_true_eq]
    exact this
   have P:=sB d (n:Int) j
   by_cases up:zs.Pairwise (· < ·)
   ·obtain ⟨r,e,g⟩:=pW fun z hz=>(c z hz).1
    refine .inl ⟨r,e,?_,fun x b=>?_⟩
    ·rw [g,List.pairwise_map] at up
     exact up.imp fun i=>by omega
    ·have:=c (x:Int) (by rw [g];exact Cm.mpr ⟨x,b,rfl⟩)
     omega
   ·refine .inr ⟨?_,?_⟩
    ·have:decide (zs=srt (zs.foldl met []))=false:=Cu fun h=>up ((up_ss zs).mp h)
     rw [this,Bool.and_false] at L
     exact L
    ·have:(List.range (zs.length - 1)).all (stp zs)=false:=by
      cases h:(List.range (zs.length - 1)).all (stp zs) with
      | false=>rfl
      | true =>
       refine absurd (oH zs fun a f=>?_) up
       have:=List.all_eq_true.mp h a (List.mem_range.mpr (by omega))
       exact of_decide_eq_true this
     rw [this] at P
     exact P
theorem nB {m:Nat}:∀ {ts:List Str},(∀ t ∈ ts,t.length<=m)->piled ts<=ts.length * (m+2)
 | [],_=>by simp [piled]
 | t :: ts,h=>by
  have h1:=h t B6
  have h2:=nB (ts:=ts) fun u hu=>h u (B7 _ hu)
  rw [piled_cons,CA,Nat.succ_mul]
  omega
theorem o6 {m:Nat} {ts:List Str} (h:∀ t ∈ ts,t.length<=m):(tupleText ts).length<=ts.length * (m+2)+3:=by
 have a:=nB h
 have c:(Str.join ", " ts).length<=ts.length * (m+2):=by
  by_cases e:ts=[]
  ·subst e;exact Nat.zero_le _
  ·have:=join_length_add ts e
   omega
 unfold tupleText
 rw [strLen_append,strLen_append]
 have e1:(("(":String):Str).length=1:=rfl
 have b:((if ts.length == 1 then ",)" else ")":String):Str).length<=2:=by
  cases ts.length == 1 <;> decide
 omega
theorem jn {m:Nat}:∀ {ts:List Str} {k:Nat} {acc:Str},(∀ t ∈ ts,t.length<=m)->(textFrom k acc ts).length<=acc.length+ts.length * (m+2)
 | [],_,_,_=>by simp [textFrom]
 | t :: ts,k,acc,h=>by
  have h1:=h t B6
  have h2:=jn (ts:=ts) (k:=k+1) (acc:=acc ++ (if k > 0 then ", " else "":String) ++ t) fun u hu=>h u (B7 _ hu)
  have b:((if k > 0 then ", " else "":String):Str).length<=2:=by
   by_cases a:k > 0
   ·rw [if_pos a] <;> decide
   ·rw [if_neg a] <;> decide
  rw [strLen_append,strLen_append] at h2
  rw [CA,Nat.succ_mul]
  show (textFrom (k+1) _ ts).length<=_
  omega
mutual
theorem u3:∀ (d:L3.D) (p:PyData),pyD d=some p->p.hasDict=false
 | .non,p,e=>by unfold pyD at e;cases e;rfl
 | .bl _,p,e=>by unfold pyD at e;cases e;rfl
 | .int _,p,e=>by unfold pyD at e;cases e;rfl
 | .str _,p,e=>by unfold pyD at e;cases e;rfl
 | .tup xs,p,e=>by
  unfold pyD at e
  obtain ⟨ps,e1,rfl⟩:=B9.mp e
  simpa [PyData.hasDict] using jN xs ps e1
 | .lst xs,p,e=>by
  unfold pyD at e
  obtain ⟨ps,e1,rfl⟩:=B9.mp e
  simpa [PyData.hasDict] using jN xs ps e1
 | .fls xs,p,e=>by
  unfold pyD at e
  obtain ⟨ps,e1,rfl⟩:=B9.mp e
  simpa [PyData.hasDict] using jN xs ps e1
 | .dk _,p,e=>by unfold pyD at e;cases e
 | .dt _,p,e=>by unfold pyD at e;cases e
 | .exc _ _,p,e=>by unfold pyD at e;cases e
theorem jN:∀ (ds:List L3.D) (ps:List PyData),dq ds=some ps->PyData.hasDictAll ps=false
 | [],ps,e=>by unfold dq at e;cases e;rfl
 | d :: ds,ps,e=>by
  unfold dq at e
  cases h1:pyD d with
  | none=>rw [h1] at e;cases e
  | some p =>
   cases h2:dq ds with
   | none=>rw [h1,h2] at e;cases e
   | some qs =>
    rw [h1,h2] at e
    cases e
    simp [PyData.hasDictAll,u3 d p h1,jN ds qs h2]
end
def sm (f:L3.D->Option PyData) (k m:Nat) (d:L3.D):Bool:=match f d with
 | some p=>p.showable && decide (p.depth<=k) && decide (p.shown.length<=m)
 | none=>false
structure Sml (k m:Nat) (p:PyData):Prop where
 s:p.showable=true
 d:p.depth<=k
 l:p.shown.length<=m
theorem lM {f:L3.D->Option PyData} {k m:Nat} {d:L3.D} (h:sm f k m d=true):∃ p,f d=some p/\Sml k m p:=by
 unfold sm at h
 cases e:f d with
 | none=>rw [e] at h;cases h
 | some p =>
  rw [e] at h
  simp only [Bool.and_eq_true,decide_eq_true_eq] at h
  exact ⟨p,rfl,h.1.1,h.1.2,h.2⟩
theorem uq {f:L3.D->Option PyData} {k m:Nat} {d:L3.D} {p:PyData} (e:f d=some p) (h:Sml k m p):sm f k m d=true:=by
 unfold sm
 rw [e]
 simp [h.s,h.d,h.l]
theorem jH {f:L3.D->Option PyData} {k m a b:Nat} {d:L3.D} (h:sm f k m d=true) (c:k<=a) (hm:m<=b):sm f a b d=true:=by
 obtain ⟨p,e,q⟩:=lM h
 exact uq e ⟨q.s,CN q.d c,CN q.l hm⟩
structure Rdg (f:L3.D->Option PyData) (fs:List L3.D->Option (List PyData)):Prop where
 n:fs []=some []
 c:∀ d ds p ps,f d=some p->fs ds=some ps->fs (d :: ds)=some (p :: ps)
 t:∀ xs ps,fs xs=some ps->f (.tup xs)=some (.tuple ps)
theorem rdD:Rdg pyD dq:=⟨rfl,fun d ds p ps h1 h2=>by unfold dq;rw [h1,h2],fun xs ps h=>by unfold pyD;rw [h];rfl⟩
theorem rdN:Rdg pyN nq:=⟨rfl,fun d ds p ps h1 h2=>by unfold nq;rw [h1,h2],fun xs ps h=>by unfold pyN;rw [h];rfl⟩
theorem ph {f:L3.D->Option PyData} {fs:List L3.D->Option (List PyData)} (R:Rdg f fs) {k m:Nat}:∀ {xs:List L3.D},(∀ x ∈ xs,sm f k m x=true)->∃ ps,fs xs=some ps/\PyData.showableAll ps=true/\PyData.depthAll ps<=k/\(∀ t ∈ PyData.shownAll ps,t.length<=m)/\(PyData.shownAll ps).length=xs.length
 | [],_=>⟨[],R.n,rfl,Nat.zero_le _,(fun t a=>by cases a),rfl⟩
 | x :: xs,h=>by
  obtain ⟨p,a1,a2⟩:=lM (h x B6)
  obtain ⟨ps,b1,b2,i,g,b⟩:=ph R (xs:=xs) fun y e=>h y (B7 _ e)
  refine ⟨p :: ps,R.c _ _ _ _ a1 b1,by simp [PyData.showableAll,a2.s,b2],by have:=a2.d;simp only [PyData.depthAll];omega,fun t a=>?_,by simp [PyData.shownAll,b]⟩
  rcases Cd.mp (show t ∈ p.shown :: PyData.shownAll ps from a) with rfl | a
  ·exact a2.l
  ·exact g t a
theorem pg {f:L3.D->Option PyData} {fs:List L3.D->Option (List PyData)} (R:Rdg f fs) {k m:Nat} {xs:List L3.D} (h:∀ x ∈ xs,sm f k m x=true):sm f (k+1) (xs.length * (m+2)+3) (.tup xs)=true:=by
 obtain ⟨ps,b1,b2,c,a,b⟩:=ph R h
 have:=o6 a
 rw [b] at this
 exact uq (R.t xs ps b1) ⟨by simpa [PyData.showable] using b2,by simp only [PyData.depth];omega,by simpa only [PyData.shown] using this⟩
theorem zW {k m:Nat} {xs:List L3.D} (h:∀ x ∈ xs,sm pyD k m x=true):sm pyD (k+1) (xs.length * (m+2)+3) (.lst xs)=true:=by
 obtain ⟨ps,b1,b2,d,a,b⟩:=ph rdD h
 have h1:=jn (k:=0) (acc:="[") a
 rw [b] at h1
 have e1:(("[":String):Str).length=1:=rfl
 have e:(("]":String):Str).length=1:=rfl
 have:(listText (PyData.shownAll ps)).length<=xs.length * (m+2)+3:=by
  unfold listText
  rw [strLen_append]
  omega
 have c:pyD (.lst xs)=some (.list ps):=by unfold pyD;rw [b1];rfl
 exact uq c ⟨by simpa [PyData.showable] using b2,by simp only [PyData.depth];omega,by simpa only [PyData.shown] using this⟩
def Sh' (d:L3.D):Prop:=∃ t,iT d=some (.str t,.z)
theorem y8 {d:L3.D} {p:PyData} (e:iT d=shA d) (h:pyA d=some p) (q:Sml 16 16777216 p):Sh' d:=⟨p.shown,by
 have a:jW p=true:=by unfold jW;simp [q.s,q.d,q.l]
 rw [e]
 unfold shA
 rw [h]
 show (if jW p=true then _ else _)=_
 rw [if_pos a]⟩
theorem zY {d:L3.D} (e:iT d=shA d) (h:sm pyD 16 16777216 d=true):Sh' d:=by
 obtain ⟨p,h1,q⟩:=lM h
 refine y8 e ?_ q
 unfold pyA
 rw [h1]
 show (if p.hasDict then none else some p)=_
 rw [u3 d p h1]
 rfl
theorem sh_N {d:L3.D} (e:iT d=shA d) (h0:pyD d=none) (h:sm pyN 16 16777216 d=true):Sh' d:=by
 obtain ⟨p,h1,q⟩:=lM h
 refine y8 e ?_ q
 unfold pyA
 rw [h0]
 exact h1
def Th (d:L3.D):Prop:=nox d=true/\∀ xs,d=.tup xs->(∀ x ∈ xs,nox x=true)/\xs.length<=30
theorem Aj {d:L3.D} (h:nox d=true) (c:∀ xs,d ≠ .tup xs) (N:L3.D):bg [(d,.z),(N,.z)]=some (.ok (.bl false,.z),[(d,.z),(N,.z)])/\av [(d,.z),(N,.z)]=some (.ok (.bl false,.z),[(d,.z),(N,.z)]):=by
 have a:eS "tuple" d=some (.bl false,.z):=by
  cases d <;> first | exact (Cp h).elim | exact absurd rfl (c _) | rfl
 clear h c
 constructor
 ·apply aG (ρ:=[some (d,.z),some (N,.z)]) (ρ1:=[some (d,.z),some (N,.z)]) rfl rfl
  ·unfold dz
   refine cQ (cV (b:=true) (lu (b:=true) ?_ rfl) rfl (ba i_c rfl))
   exact bv (cu (mm (aq rfl) rfl a) rfl)
  ·rfl
 ·apply aG (ρ:=[some (d,.z),some (N,.z)]) (ρ1:=[some (d,.z),some (N,.z)]) rfl rfl
  ·unfold bL
   refine cQ (cV (b:=true) (lu (b:=true) ?_ rfl) rfl (ba i_c rfl))
   exact bv (cu (mm (aq rfl) rfl a) rfl)
  ·rfl
theorem lF {ps:List Pt} (g:GoodSh ps) (v:ps.length<=9) {d:L3.D} (h:Th d) (b:Bool):∃ c,cD [(Shd ps,.z),(d,.z),(.bl b,.z)]=some (.ok (.bl c,.z),[(Shd ps,.z),(d,.z),(.bl b,.z)])/\cr [(d,.z),(Shd ps,.z),(.int (way b),.z)]=some (.ok (.bl c,.z),[(d,.z),(Shd ps,.z),(.int (way b),.z)]):=by
 have at':=uI g v
 have p:=i6 ps
 have no:∀ {c l:Bool} {n:Int},bg [(d,.z),(.int (ps.length:Int),.z)]=some (.ok (.bl c,.z),[(d,.z),(.int (ps.length:Int),.z)])->av [(d,.z),(.int (ps.length:Int),.z)]=some (.ok (.bl c,.z),[(d,.z),(.int (ps.length:Int),.z)])->(c=true->bM [d]=some (.int n,.z)/\n < 2)->∃ c,cD [(Shd ps,.z),(d,.z),(.bl b,.z)]=some (.ok (.bl c,.z),[(Shd ps,.z),(d,.z),(.bl b,.z)])/\cr [(d,.z),(Shd ps,.z),(.int (way b),.z)]=some (.ok (.bl c,.z),[(d,.z),(Shd ps,.z),(.int (way b),.z)]):=fun {c l n} f a k=>by
  refine ⟨false,?_,?_⟩
  ·clear at' a h
   generalize L3.D.int (ps.length:Int)=LN at *
   generalize Shd ps=H at *
   apply aG (ρ:=[some (H,.z),some (d,.z),some (.bl b,.z),none]) (ρ1:=[some (H,.z),some (d,.z),some (.bl b,.z),none]) rfl rfl
   ·unfold iY
    have i:(dJ (cB (ah bg (aa (ab 1) (aa (ak bM (aa (ab 0) ae)) ae))))) [some (H,.z),some (d,.z),some (.bl b,.z),none]=some (.ok (!c),[some (H,.z),some (d,.z),some (.bl b,.z),none]):=bv (cu (ai f (am (aq rfl) (am (aX (am (aq rfl) aS) rfl p) aS)) rfl rfl rfl) rfl)
    cases c with
    | false=>exact cQ (cV (b:=true) (lu i rfl) rfl (ba i_c rfl))
    | true =>
     obtain ⟨m,o⟩:=k rfl
     have lt:ltI (.int n) (.int 2)=some (.bl true,.z):=by simp [bo,o]
     exact cQ (cV (b:=true) (cO i rfl (cu (bG (aX (am (aq rfl) aS) rfl m) i_c rfl rfl lt) rfl)) rfl (ba i_c rfl))
   ·rfl
  ·clear f h
   generalize tb ps (iM ps.length)=T at *
   generalize L3.D.int (ps.length:Int)=LN at *
   generalize L3.D.int (way b)=WB at *
   generalize Shd ps=H at *
   apply aG (ρ:=[some (d,.z),some (H,.z),some (WB,.z),none]) (ρ1:=[some (d,.z),some (H,.z),some (WB,.z),some (.dt T,.u)]) rfl rfl
   ·unfold md
    apply aj (ρ1:=[some (d,.z),some (H,.z),some (WB,.z),some (.dt T,.u)])
    ·nomatch [(at')]
    have i:(dJ (cB (ah av (aa (ab 0) (aa (ak bM (aa (ab 1) ae)) ae))))) [some (d,.z),some (H,.z),some (WB,.z),some (.dt T,.u)]=some (.ok (!c),[some (d,.z),some (H,.z),some (WB,.z),some (.dt T,.u)]):=bv (cu (ai a (am (aq rfl) (am (aX (am (aq rfl) aS) rfl p) aS)) rfl rfl rfl) rfl)
    cases c with
    | false=>exact cQ (cV (b:=true) (lu i rfl) rfl (ba i_c rfl))
    | true =>
     obtain ⟨m,o⟩:=k rfl
     have lt:ltI (.int n) (.int 2)=some (.bl true,.z):=by simp [bo,o]
     exact cQ (cV (b:=true) (cO i rfl (cu (bG (aX (am (aq rfl) aS) rfl m) i_c rfl rfl lt) rfl)) rfl (ba i_c rfl))
   ·rfl
 by_cases t:∃ xs,d=.tup xs
 ·obtain ⟨xs,rfl⟩:=t
  obtain ⟨s,k⟩:=h.2 xs rfl
  rcases uQ (n:=ps.length) s k with ⟨r,rfl,j⟩ | ⟨f,a⟩
  ·have ln:bM [.tup (Nd r)]=some (.int (r.length:Int),.z):=by simp [kc,c1]
   by_cases h2:2<=r.length
   ·refine ⟨_,pB g j h2,?_⟩
    have q:=z9 (t8 ps) j (show (sgn ps).length<=24 by show ps.length<=24;omega) (way:=way b)
    have a:=qO j (by omega)
    have lt:ltI (.int (r.length:Int)) (.int 2)=some (.bl false,.z):=by simp [bo];omega
    clear h s no
    generalize rb (sgn ps) r (way b)=bb at *
    generalize tb ps (iM ps.length)=T at *
    generalize L3.D.int (ps.length:Int)=LN at *
    generalize L3.D.int (r.length:Int)=LR at *
    generalize L3.D.int (way b)=WB at *
    generalize L3.D.tup (Nd r)=R at *
    generalize Shd ps=H at *
    apply aG (ρ:=[some (R,.z),some (H,.z),some (WB,.z),none]) (ρ1:=[some (R,.z),some (H,.z),some (WB,.z),some (.dt T,.u)]) rfl rfl
    ·unfold md
     apply aj (ρ1:=[some (R,.z),some (H,.z),some (WB,.z),some (.dt T,.u)])
     ·nomatch [(at')]
     apply aj (ρ1:=[some (R,.z),some (H,.z),some (WB,.z),some (.dt T,.u)])
     ·refine bY (b:=false) (cO (b:=false) (ρ1:=[some (R,.z),some (H,.z),some (WB,.z),some (.dt T,.u)]) ?_ rfl ?_) rfl rfl
      ·exact bv (cu (ai a (am (aq rfl) (am (aX (am (aq rfl) aS) rfl p) aS)) rfl rfl rfl) rfl)
      ·exact cu (bG (aX (am (aq rfl) aS) rfl ln) i_c rfl rfl lt) rfl
     ·apply ba
      ·exact ai q (am (aq rfl) (am (aq rfl) (am (aq rfl) aS))) rfl rfl rfl
      ·rfl
    ·rfl
   ·exact no (l:=true) (m6 j (by omega)) (qO j (by omega)) fun _=>⟨ln,by omega⟩
  ·exact no (l:=true) (n:=0) f a fun z=>absurd z (by decide)
 ·obtain ⟨f,a⟩:=Aj h.1 (fun xs e=>t ⟨xs,e⟩) (.int (ps.length:Int))
  exact no (l:=true) (n:=0) f a fun z=>absurd z (by decide)
abbrev Gt (d:L3.D):Prop:=Th d/\Sh' d
def ov:List L3.D:=[.non,.bl true,.bl false,.int 0,.int (-1),.int 1,.str "",.str "1",.tup [],.lst [],.tup [.int 0],.tup [.int 0,.int 1],.lst [.int 0],.dk [(.inr "a",.int 1)],.int 100000000000000000000000000000,.tup [.tup [.int 0,.int 0]],.tup [.tup [.int 0,.int 1],.tup [.int 1,.int 2]],.str "0,0",.tup [.int 0,.int 1,.int 2],.dt [([.inl 0,.inl 1],.int 2)]]
theorem ov_at (i:Nat) (h:i < 20):∃ v,aw (.lst ov) (.int (i:Int))=some (v,.z)/\v ∈ ov:=by
 have a:i < ov.length:=h
 exact ⟨ov[i],lL (by
  unfold L2.atI L2.ixN
  rw [if_pos (by omega),if_pos (by omega)]
  simp [a]),List.getElem_mem a⟩
theorem xp {n m:Int} {j v:L3.D} (t:aE [(.lst [.int n],.u),(.int 20,.z)]=some (.ok (j,.z),[(.lst [.int m],.u),(.int 20,.z)])) (h:aw (.lst ov) j=some (v,.z)):jT [(.lst [.int n],.u)]=some (.ok (v,.z),[(.lst [.int m],.u)]):=by
 have a:∀ B:L3.D,(aT 1 (dI (aa (mC .non) (aa (mC (.bl true)) (aa (mC (.bl false)) (aa (mC (.int 0)) (aa (mUn dU (mC (.int 1))) (aa (mC (.int 1)) (aa (mC (.str "")) (aa (mC (.str "1")) (aa (bD ae) (aa (dI ae) (aa (bD (aa (mC (.int 0)) ae)) (aa (bD (aa (mC (.int 0)) (aa (mC (.int 1)) ae))) (aa (dI (aa (mC (.int 0)) ae)) (aa (Br (.inr "a") 1) ae)))))))))))))))) [some (B,.u),none]=some (.ok .nx,[some (B,.u),some (.lst (ov.take 14),.u)]):=fun B=>by kernel_rfl
 have b:∀ B:L3.D,(aT 1 (ag aN (ab 1) (dI (aa (ag pM (mC (.int 10)) (mC (.int 29))) (aa (bD (aa (bD (aa (mC (.int 0)) (aa (mC (.int 0)) ae))) ae)) (aa (bD (aa (bD (aa (mC (.int 0)) (aa (mC (.int 1)) ae))) (aa (bD (aa (mC (.int 1)) (aa (mC (.int 2)) ae))) ae))) (aa (mC (.str "0,0")) (aa (bD (aa (mC (.int 0)) (aa (mC (.int 1)) (aa (mC (.int 2)) ae)))) (aa (Bp [0,1] 2) ae))))))))) [some (B,.u),some (.lst (ov.take 14),.u)]=some (.ok .nx,[some (B,.u),some (.lst ov,.u)]):=fun B=>by kernel_rfl
 have a:=a (.lst [.int n])
 have b:=b (.lst [.int n])
 generalize L3.D.lst (ov.take 14)=S7 at *
 generalize L3.D.lst ov=SV at *
 apply aG (ρ:=[some (.lst [.int n],.u),none]) (ρ1:=[some (.lst [.int m],.u),some (SV,.u)]) rfl rfl
 ·unfold rf
  refine aj a ?_
  refine aj b ?_
  apply ba
  ·nomatch [t],[h]
  ·rfl
 ·rfl
def thB:L3.D->Bool
 | .exc _ _=>false
 | .tup xs=>xs.all nox && decide (xs.length<=30)
 | _=>true
theorem th_of {d:L3.D} (h:thB d=true):Th d:=by
 refine ⟨?_,?_⟩
 ·cases d <;> first | rfl | exact (Cp h).elim
 ·rintro xs rfl
  have h:(xs.all nox && decide (xs.length<=30))=true:=h
  rw [Bool.and_eq_true] at h
  exact ⟨fun x a=>List.all_eq_true.mp h.1 x a,of_decide_eq_true h.2⟩
def shB:L3.D->Bool:=fun d=>match iT d with
 | some (.str _,.z)=>true
 | _=>false
theorem sh_b {d:L3.D} (h:shB d=true):Sh' d:=by
 unfold shB at h
 split at h
 ·exact ⟨_,by assumption⟩
 ·cases h
def inB (d:L3.D):Bool:=nox d && (sm pyD 3 100 d || ((pyD d).isNone && sm pyN 3 100 d))
def plB (d:L3.D):Bool:=nox d && sm pyD 3 100 d && sm pyN 3 100 d
def odB (d:L3.D):Bool:=thB d && shB d && inB d
theorem ov_ok:ov.map odB=ov.map fun _=>true:=by kernel_rfl
theorem AT {v:L3.D} (h:v ∈ ov):thB v=true/\shB v=true/\inB v=true:=by
 have:=List.map_inj_left.mp ov_ok v h
 unfold odB at this
 rw [Bool.and_eq_true,Bool.and_eq_true] at this
 exact ⟨this.1.1,this.1.2,this.2⟩
theorem iV {d:L3.D} (h:plB d=true):nox d=true/\sm pyD 3 100 d=true/\sm pyN 3 100 d=true:=by
 unfold plB at h
 rw [Bool.and_eq_true,Bool.and_eq_true] at h
 exact ⟨h.1.1,h.1.2,h.2⟩
theorem ug {xs:List L3.D} (h:∀ d ∈ xs,nox d=true) (a:xs.length<=30):Th (.tup xs):=⟨rfl,fun ys e=>by cases e;exact ⟨h,a⟩⟩
theorem cA {xs:List L3.D} (h:∀ d ∈ xs,plB d=true) (a:xs.length<=30):Gt (.tup xs) :=
 ⟨ug (fun d hd=>(iV (h d hd)).1) a,zY rfl (jH (pg rdD fun d hd=>(iV (h d hd)).2.1) (by decide) (by omega))⟩
theorem qY {V:L3.D} (b:pyD V=none):∀ (A B:List L3.D),dq (A ++ [V] ++ B)=none
 | [],B=>by
  show dq (V :: B)=none
  unfold dq
  rw [b]
 | a :: A,B=>by
  have c:=qY b A B
  show dq (a :: (A ++ [V] ++ B))=none
  unfold dq
  rw [c]
  cases pyD a <;> rfl
theorem BC {V:L3.D} (b:inB V=true) {A B:List L3.D} (c:∀ d ∈ A,plB d=true) (f:∀ d ∈ B,plB d=true) (k:A.length+B.length<=29):Gt (.tup (A ++ [V] ++ B)):=by
 unfold inB at b
 rw [Bool.and_eq_true,Bool.or_eq_true] at b
 obtain ⟨g,a⟩:=b
 have mem:∀ {P:L3.D->Prop},(∀ d,plB d=true->P d)->P V->∀ d ∈ A ++ [V] ++ B,P d:=fun {P} h1 h2 d hd=>by
  rcases Cg.mp hd with hd | hd
  ·rcases Cg.mp hd with hd | hd
   ·exact h1 d (c d hd)
   ·rw [CG.mp hd];exact h2
  ·exact h1 d (f d hd)
 have j:(A ++ [V] ++ B).length<=30:=by simp;omega
 refine ⟨ug (mem (fun d h=>(iV h).1) g) j,?_⟩
 rcases a with a | a
 ·exact zY rfl (jH (pg rdD (mem (P:=fun d=>sm pyD 3 100 d=true) (fun d h=>(iV h).2.1) a)) (by decide) (by omega))
 ·rw [Bool.and_eq_true] at a
  refine sh_N rfl ?_ (jH (pg rdN (mem (P:=fun d=>sm pyN 3 100 d=true) (fun d h=>(iV h).2.2) a.2)) (by decide) (by omega))
  have i:pyD V=none:=by
   cases e:pyD V with
   | none=>rfl
   | some p=>rw [e] at a;cases a.1
  unfold pyD
  rw [qY i]
  rfl
theorem pl_c:(List.range 10).map (fun i:Nat=>plB (.int (i:Int)))=(List.range 10).map fun _=>true:=by kernel_rfl
theorem j3 {i:Nat} (h:i < 10):plB (.int (i:Int))=true:=List.map_inj_left.mp pl_c i (List.mem_range.mpr h)
theorem pl_m1:plB (.int (-1))=true:=by kernel_rfl
theorem pl_bl (b:Bool):plB (.bl b)=true:=by cases b <;> kernel_rfl
theorem zd {r:List Nat} (h:∀ x ∈ r,x < 10):∀ d ∈ Nd r,plB d=true:=fun d hd=>by
 obtain ⟨x,a,rfl⟩:=Cm.mp hd
 exact j3 (h x a)
theorem tR {xs:List L3.D} {d:L3.D} (h2:2<=xs.length) (h:xs[xs.length - 2]?=some d):L2.atI xs (-2)=some d:=by
 unfold L2.atI L2.ixN
 rw [if_neg (by decide),if_pos (by omega)]
 rw [show ((-2:Int)+(xs.length:Int)).toNat=xs.length - 2 by omega,Option.bind_some]
 exact h
theorem BJ (a b:Bool):eqX (.bl a) (.bl b)=some (.bl (decide (a=b)),.z):=by cases a <;> cases b <;> rfl
theorem xi {n:Nat} {zs:List Int} (hz:∀ z ∈ zs,0<=z/\z < (n:Int)) (f:zs.length < 64):∃ r,xj [.lst (Id' zs)]=some (.lst (Nd r),.u)/\Ris n r/\(zs ≠ []->r ≠ []):=by
 have hm:∀ z ∈ srt (zs.foldl met []),z ∈ zs:=fun z h=>by
  rcases pY zs [] z ((bE _).subset h) with h | h
  ·cases h
  ·exact h
 obtain ⟨r,e1,a⟩:=pW (zs:=srt (zs.foldl met [])) fun z h=>(hz z (hm z h)).1
 have up:(srt (zs.foldl met [])).Pairwise (· < ·):=by
  have s:=bU (zs.foldl met [])
  have d:(srt (zs.foldl met [])).Nodup:=(bE _).nodup_iff.mpr (iX zs [] .nil)
  exact (s.and d).imp fun e=>by omega
 refine ⟨r,?_,⟨?_,fun x c=>?_⟩,fun h0 h1=>?_⟩
 ·show (bN (Id' zs)).bind _=_
  rw [rz]
  show (if zs.length < 64 then some ((.lst ((srt (zs.foldl met [])).map .int),.u):L3.D × Fl) else none)=_
  rw [if_pos f,<- e1]
 ·rw [a,List.pairwise_map] at up
  exact up.imp fun h=>by omega
 ·have:=(hz (x:Int) (hm _ (by rw [a];exact Cm.mpr ⟨x,c,rfl⟩))).2
  omega
 ·subst h1
  cases zs with
  | nil=>exact h0 rfl
  | cons z zs =>
   have h2:(met [] z).length=1:=rfl
   have h3:∀ (l ns:List Int),ns.length<=(l.foldl met ns).length:=by
    intro l
    induction l with
    | nil=>intro ns;exact Co _
    | cons y l ih =>
     intro ns
     refine CN ?_ (ih (met ns y))
     unfold met
     split <;> simp
   have g:=h3 zs (met [] z)
   have b:=(bE ((z :: zs).foldl met [])).length_eq
   rw [a] at b
   simp only [List.map_nil,List.length_nil,List.foldl_cons] at b
   omega
abbrev stE (n:Int) (H:L3.D) (b:Bool) (r:List Nat) (v4:Option (L3.D × Fl)):Sto:=[some (.lst [.int n],.u),some (H,.z),some (.bl b,.z),some (.tup (Nd r),.z),v4]
theorem sY {ps:List Pt} (g:GoodSh ps) {r:List Nat} (h:Ris ps.length r) (h1:1<=r.length) {x:Nat} (p:x < ps.length) (w:∀ y ∈ r,y < x) (n:Int) (b:Bool):∃ v l,dN (stE n (Shd ps) b r (some (.int (x:Int),.z)))=some (.ok .nx,stE v (Shd ps) b l (some (.int (x:Int),.z)))/\(l=r\/l=r ++ [x]):=by
 have A:=h.len
 have pm:=g.most
 have ln:bM [.tup (Nd r)]=some (.int (r.length:Int),.z):=by simp [kc,c1]
 have lt:ltI (.int (r.length:Int)) (.int 2)=some (.bl (decide ((r.length:Int) < 2)),.z):=by simp [bo]
 have ct:aN (.tup (Nd r)) (.tup [.int (x:Int)])=some (.tup (Nd (r ++ [x])),.z):=by
  rw [wL]
  exact cp (by simp;omega)
 have a:(cB (ag ltI (ak bM (aa (ab 3) ae)) (mC (.int 2)))) (stE n (Shd ps) b r (some (.int (x:Int),.z)))=some (.ok (decide ((r.length:Int) < 2)),stE n (Shd ps) b r (some (.int (x:Int),.z))):=cu (bG (aX (am (aq rfl) aS) rfl ln) i_c rfl rfl lt) rfl
 have add:∀ n,(aT 3 (ag aN (ab 3) (bD (aa (ab 4) ae)))) (stE n (Shd ps) b r (some (.int (x:Int),.z)))=some (.ok .nx,stE n (Shd ps) b (r ++ [x]) (some (.int (x:Int),.z))):=fun n=>by
  unfold stE
  clear a ln
  generalize L3.D.tup (Nd (r ++ [x]))=R' at *
  generalize L3.D.tup (Nd r)=R at *
  generalize L3.D.int (x:Int)=X at *
  generalize Shd ps=H at *
  exists ct
 unfold dN
 by_cases h2:r.length < 2
 ·rw [Ct (by omega)] at a
  exact ⟨n,_,cV (b:=true) (lu a rfl) rfl (add n),.inr rfl⟩
 ·rw [Cu (by omega)] at a
  have s2:aw (.tup (Nd r)) (.int (-2))=some (.int (el r (r.length - 2):Nat),.z):=dl (tR (by rw [Ci];omega) (by rw [Ci];exact jl (by omega)))
  have s1:aw (.tup (Nd r)) (.int (-1))=some (.int (el r (r.length - 1):Nat),.z):=dl (rQ (by rw [Ci];exact jl (by omega)))
  have u:=uA g (i:=el r (r.length - 2)) (j:=el r (r.length - 1)) (k:=x) (h.lt _ (eT (by omega))) (h.lt _ (eT (by omega))) p
  generalize decide (aV (bm ps (el r (r.length - 2))) (bm ps (el r (r.length - 1))) (bm ps x) > 0)=c at *
  have s:=BJ c b
  have f:dU (.int 2)=some (.int (-2),.z):=rfl
  have e:dU (.int 1)=some (.int (-1),.z):=rfl
  have e1:(cB (ag eqX (ah gv (aa (ab 1) (aa (ag aw (ab 3) (mUn dU (mC (.int 2)))) (aa (ag aw (ab 3) (mUn dU (mC (.int 1)))) (aa (ab 4) ae))))) (ab 2))) (stE n (Shd ps) b r (some (.int (x:Int),.z)))=some (.ok (decide (c=b)),stE n (Shd ps) b r (some (.int (x:Int),.z))):=by
   unfold stE
   clear a add ct ln
   generalize L3.D.int (el r (r.length - 2):Nat)=I2 at *
   generalize L3.D.int (el r (r.length - 1):Nat)=I1 at *
   generalize L3.D.tup (Nd r)=R at *
   generalize L3.D.int (x:Int)=X at *
   generalize Shd ps=H at *
   generalize L3.D.bl c=C at *
   generalize L3.D.bl b=BB at *
   generalize decide (c=b)=q at *
   exact cu (bG (ai u (am (aq rfl) (am (bG (aq rfl) (mm i_c rfl f) rfl rfl s2) (am (bG (aq rfl) (mm i_c rfl e) rfl rfl s1) (am (aq rfl) aS)))) rfl rfl rfl) (aq rfl) rfl rfl s) rfl
  have t:=bO n 4 (by decide)
  have gt:gtI (.int (n % 4)) (.int 0)=some (.bl (decide (0 < n % 4)),.z):=by simp [bo]
  have d:(cB (ag gtI (ah aE (aa (ab 0) (aa (mC (.int 4)) ae))) (mC (.int 0)))) (stE n (Shd ps) b r (some (.int (x:Int),.z)))=some (.ok (decide (0 < n % 4)),stE (n / 4) (Shd ps) b r (some (.int (x:Int),.z))):=by
   unfold stE
   clear a e1 add ct ln
   generalize L3.D.tup (Nd r)=R at *
   generalize L3.D.int (x:Int)=X at *
   generalize Shd ps=H at *
   nomatch [t],[gt]
  by_cases m:c=b
  ·rw [Ct m] at e1
   by_cases o:0 < n % 4
   ·rw [Ct o] at d
    exact ⟨n / 4,_,cV (b:=true) (cO a rfl (vV e1 rfl d)) rfl (add _),.inr rfl⟩
   ·rw [Cu o] at d
    exact ⟨n / 4,_,bY (b:=false) (cO a rfl (vV e1 rfl d)) rfl rfl,.inl rfl⟩
  ·rw [Cu m] at e1
   exact ⟨n,_,bY (b:=false) (cO a rfl (BA e1 rfl)) rfl rfl,.inl rfl⟩
theorem m8 {ps:List Pt} (g:GoodSh ps) (n:Int) (b:Bool):∃ C r,fW [(.lst [.int n],.u),(Shd ps,.z),(.bl b,.z)]=some (.ok (.tup (Nd r),.z),[(.lst [.int C],.u),(Shd ps,.z),(.bl b,.z)])/\Ris ps.length r/\1<=r.length:=by
 have pm:=g.most
 have pp:=g.pos
 have T:=i6 ps
 obtain ⟨X,τ',e,⟨v,B,rfl⟩,S,K⟩:=jh (bnd:=ao 0) (c:=b9) (elt:=fM) (fun τ=>∃ v n,τ=[v,some (.lst [.int n],.u),some (Shd ps,.z)]) (fun d=>∃ z:Int,d=.int z/\0<=z/\z < (ps.length:Int)) (ds:=aH 0 2) (τ:=[none,some (.lst [.int n],.u),some (Shd ps,.z)]) ⟨none,n,rfl⟩ (by
  rintro d hd τ ⟨v,n,rfl⟩
  have t:=bO n (ps.length:Int) (by omega)
  have m:=cG n (ps.length:Int) (by omega)
  refine ⟨[some (d,.z),some (.lst [.int n],.u),some (Shd ps,.z)],[some (d,.z),some (.lst [.int n],.u),some (Shd ps,.z)],.val (.int (n % (ps.length:Int))) .z,[some (d,.z),some (.lst [.int (n / (ps.length:Int))],.u),some (Shd ps,.z)],(.int (n % (ps.length:Int)),.z),[some (d,.z),some (.lst [.int (n / (ps.length:Int))],.u),some (Shd ps,.z)],rfl,rfl,?_,rfl,⟨_,rfl,m⟩,_,_,rfl⟩
  generalize n / (ps.length:Int)=C at *
  generalize n % (ps.length:Int)=y at *
  generalize L3.D.int (ps.length:Int)=N at *
  generalize Shd ps=H at *
  unfold fM
  (nomatch [t],[T]))
 have zs:∀ X:List L3.D,(∀ d ∈ X,∃ z:Int,d=.int z/\0<=z/\z < (ps.length:Int))->∃ zs:List Int,X=Id' zs/\∀ z ∈ zs,0<=z/\z < (ps.length:Int):=by
  intro X
  induction X with
  | nil=>exact fun _=>⟨[],rfl,fun z hz=>by cases hz⟩
  | cons d X ih =>
   intro h
   obtain ⟨z,rfl,hz⟩:=h d B6
   obtain ⟨zs,rfl,hs⟩:=ih fun d hd=>h d (B7 _ hd)
   exact ⟨z :: zs,rfl,fun y o=>by
    rcases Cd.mp o with rfl | o
    ·exact hz
    ·exact hs y o⟩
 obtain ⟨zs,rfl,hz⟩:=zs X S
 rw [Ci,a8] at K
 obtain ⟨f,ss,O,E⟩:=xi hz (by omega)
 have W:1<=f.length:=by
  have:f ≠ []:=E fun z=>by rw [z] at K;cases K
  cases f with
  | nil=>exact absurd rfl this
  | cons x l=>simp
 have M:cz [.int 2]=some (aH 0 2):=bS (by decide) (by decide)
 have I:js [some (.lst [.int n],.u),some (Shd ps,.z),some (.bl b,.z),none,none]=some (.ok (.val (.lst (Id' zs)) .u),[some (.lst [.int B],.u),some (Shd ps,.z),some (.bl b,.z),none,none]):=by
  generalize Shd ps=H at *
  exact aQ (rs:=[]) (ρ1:=[some (.lst [.int n],.u),some (H,.z),some (.bl b,.z),none,none]) (ds:=aH 0 2) (by (repeat' (first | with_reducible apply cN (h3:=M) | infer_instance | eq_refl))) e (by rw [a8];decide) rfl
 have Y:jA [.lst (Nd f)]=some (.tup (Nd f),.z):=rfl
 have sl:aw (.tup (Nd f)) (.int (-1))=some (.int (el f (f.length - 1):Nat),.z):=dl (rQ (by rw [Ci];exact jl (by omega)))
 have s:el f (f.length - 1) < ps.length:=O.lt _ (eT (by omega))
 have A:∀ y ∈ f,y < el f (f.length - 1)+1:=fun y o=>by
  obtain ⟨i,hi,rfl⟩:=List.mem_iff_getElem.mp o
  have e:=ko (L:=f) hi
  rw [Ce hi] at e
  injection e with e
  rw [e]
  by_cases hi':i=f.length - 1
  ·rw [hi'];omega
  ·have:=O.at (i:=i) (j:=f.length - 1) (by omega) (by omega);omega
 generalize el f (f.length - 1)=p at *
 have U:iS [.int ((p:Int)+1),.int (ps.length:Int)]=some (aH ((p:Int)+1) (ps.length - (p+1))):=lS (by omega) (by omega) (by omega)
 obtain ⟨ρ',P,F,r,v4,rfl,w,h1,q⟩:=bH (bnd:=ao 4) (b:=dN) (fun m ρ=>∃ n r v4,ρ=stE n (Shd ps) b r v4/\Ris ps.length r/\1<=r.length/\∀ y ∈ r,y < p+1+m) (ds:=aH ((p:Int)+1) (ps.length - (p+1))) (ρ:=stE B (Shd ps) b f none) (k:=0) ⟨B,f,none,rfl,O,W,A⟩ (by
  rintro m d ρ hd ⟨n,r,v4,rfl,w,h1,q⟩
  obtain ⟨hm,rfl⟩:=cK hd
  rw [Cw] at q ⊢
  obtain ⟨C,V,Q,J⟩:=sY g w h1 (x:=p+1+m) (by omega) q n b
  rw [show ((p+1+m:Nat):Int)=(p:Int)+1+m by omega] at Q
  refine ⟨_,_,rfl,.inl Q,C,V,_,rfl,?_⟩
  rcases J with rfl | rfl
  ·exact ⟨w,h1,fun y o=>by have:=q y o;omega⟩
  ·refine ⟨⟨List.pairwise_append.mpr ⟨w.up,List.pairwise_singleton _ _,fun a ha c hc=>by rw [CG.mp hc];exact q a ha⟩,fun y o=>?_⟩,by simp,fun y o=>?_⟩
   ·rcases Cg.mp o with o | o
    ·exact w.lt y o
    ·rw [CG.mp o];omega
   ·rcases Cg.mp o with o | o
    ·have:=q y o;omega
    ·rw [CG.mp o];omega)
 refine ⟨F,r,?_,w,h1⟩
 have G:dU (.int 1)=some (.int (-1),.z):=rfl
 have ad:aN (.int (p:Int)) (.int 1)=some (.int ((p:Int)+1),.z):=rfl
 clear q A s w e S hz
 unfold stE at P
 generalize L3.D.lst (Id' zs)=Z at *
 generalize L3.D.lst (Nd f)=L0 at *
 generalize L3.D.tup (Nd f)=T0 at *
 generalize L3.D.tup (Nd r)=R at *
 generalize aH ((p:Int)+1) (ps.length - (p+1))=RG at *
 generalize L3.D.int ((p:Int)+1)=LA1 at *
 generalize L3.D.int (p:Int)=LA at *
 generalize L3.D.int (ps.length:Int)=N at *
 generalize Shd ps=H at *
 generalize L3.D.bl b=BB at *
 apply aG (ρ:=[some (.lst [.int n],.u),some (H,.z),some (BB,.z),none,none]) (ρ1:=[some (.lst [.int F],.u),some (H,.z),some (BB,.z),some (R,.z),v4]) rfl rfl
 ·unfold nV
  apply aj (ρ1:=[some (.lst [.int B],.u),some (H,.z),some (BB,.z),some (T0,.z),none])
  ·(repeat' (first | with_reducible exact I | infer_instance | exact ss | exact Y | eq_refl))
  apply aj (ρ1:=[some (.lst [.int F],.u),some (H,.z),some (BB,.z),some (R,.z),v4])
  ·apply gj (ρ1:=[some (.lst [.int B],.u),some (H,.z),some (BB,.z),some (T0,.z),none])
   ·(repeat' (first | with_reducible apply cN (h3:=U) | infer_instance | exact sl | exact G | exact ad | exact T | eq_refl))
   ·rfl
   ·exact P
  ·nofun
 ·rfl
theorem m4 {xs:List L3.D} {a:Nat} {d:L3.D} (h:a < xs.length):iQ (.lst xs) [.int (a:Int),d]=some (.lst (xs.set a d),.non):=by
 have e:kD (.lst xs) [.int (a:Int),d]=some (.lst (xs.set a d),.non):=by
  show (L2.ixN xs.length (a:Int)).map _=_
  unfold L2.ixN
  rw [if_pos (by omega),if_pos (by omega)]
  simp
 show l7 kD iq (.lst xs) [.int (a:Int),d]=_
 unfold l7
 rw [e]
theorem oX {b:L3.D->Sto->Option Sto} {bs:List L3.D->Sto->Option Sto} {d:L3.D} {ds:List L3.D} {ρ ρ1 ρ2:Sto} (h1:b d ρ=some ρ1) (h2:bs ds ρ1=some ρ2):aY b bs (d :: ds) ρ=some ρ2:=by
 show (match b d ρ with | some r=>bs ds r | none=>none)=_
 rw [h1]
 exact h2
theorem za {B N V A T O S:L3.D} {xs:List L3.D} {f g:Fl}:oe (ab 1) (bP (mUn dU (mC (.int 1)))) [some (B,.u),some (.tup xs,.z),some (N,.z),some (V,.z),some (A,.z),some (T,.z),some (O,f),some (S,g)]=some (.ok (.val (.tup xs.reverse) .z),[some (B,.u),some (.tup xs,.z),some (N,.z),some (V,.z),some (A,.z),some (T,.z),some (O,f),some (S,g)]):=rfl
theorem uG {M:Nat} {r:List Nat} (h:Ris M r) (h3:1<=r.length) (hM:M<=9) {V:L3.D} (hV:inB V=true) (n:Int):∃ n' d,iI [(.lst [.int n],.u),(.tup (Nd r),.z),(.int (M:Int),.z),(V,.z)]=some (.ok (d,.z),[(.lst [.int n'],.u),(.tup (Nd r),.z),(.int (M:Int),.z),(V,.z)])/\Gt d:=by
 have rl:=h.len
 have ln:bM [.tup (Nd r)]=some (.int (r.length:Int),.z):=by simp [kc,c1]
 have t0:=bO n (r.length:Int) (by omega)
 obtain ⟨a,W,ea⟩:=iu n (m:=r.length) (by omega)
 rw [ea] at t0
 generalize n / (r.length:Int)=n0 at t0
 clear ea
 have t1:=bO n0 (r.length:Int) (by omega)
 obtain ⟨c,hc,ec⟩:=iu n0 (m:=r.length) (by omega)
 rw [ec] at t1
 generalize n0 / (r.length:Int)=n1 at t1
 clear ec
 have t2:=bO n1 (M:Int) (by omega)
 obtain ⟨x,hx,ex⟩:=iu n1 (m:=M) (by omega)
 rw [ex] at t2
 generalize n1 / (M:Int)=n2 at t2
 clear ex
 have t3:=bO n2 10 (by decide)
 obtain ⟨j,hj,P⟩:=iu n2 (m:=10) (by decide)
 rw [show ((10:Nat):Int)=10 from rfl] at P
 rw [P] at t3
 generalize n2 / 10=n3 at t3
 clear P
 have l:∀ d ∈ Nd r,plB d=true:=zd fun x hx=>by have:=h.lt x hx;omega
 have nl:(Nd r).length=r.length:=Ci _
 have s1:slD (.tup (Nd r)) none (some (a:Int))=some (.tup (cT (Nd r) none (some (a:Int))),.z):=rfl
 have s2:slD (.tup (Nd r)) (some ((a:Int)+1)) none=some (.tup (cT (Nd r) (some ((a:Int)+1)) none),.z):=rfl
 have s3:slD (.tup (Nd r)) (some (a:Int)) none=some (.tup (cT (Nd r) (some (a:Int)) none),.z):=rfl
 have I:∀ d ∈ cT (Nd r) none (some (a:Int)),plB d=true:=fun d hd=>l d (qm hd)
 have m2:∀ d ∈ cT (Nd r) (some ((a:Int)+1)) none,plB d=true:=fun d hd=>l d (qm hd)
 have U:∀ d ∈ cT (Nd r) (some (a:Int)) none,plB d=true:=fun d hd=>l d (qm hd)
 have l1:=mw (xs:=Nd r) (lo:=none) (hi:=some (a:Int))
 have l2:=mw (xs:=Nd r) (lo:=some ((a:Int)+1)) (hi:=none)
 have l3:=mw (xs:=Nd r) (lo:=some (a:Int)) (hi:=none)
 generalize cT (Nd r) none (some (a:Int))=C1 at *
 generalize cT (Nd r) (some ((a:Int)+1)) none=C2 at *
 generalize cT (Nd r) (some (a:Int)) none=C3 at *
 have g:=iO (r:=r) (i:=a) W
 have gL:=qK (r:=r) (i:=a) W
 have gC:=qK (r:=r) (i:=c) hc
 have he:plB (.int (el r a:Nat))=true:=l _ (Cm.mpr ⟨_,eT W,rfl⟩)
 have hf:plB (.int (el r c:Nat))=true:=l _ (Cm.mpr ⟨_,eT hc,rfl⟩)
 have w1:iQ (.lst (Nd r)) [.int (a:Int),.int (el r c:Nat)]=some (.lst ((Nd r).set a (.int (el r c:Nat))),.non):=m4 (by omega)
 have w2:iQ (.lst ((Nd r).set a (.int (el r c:Nat)))) [.int (c:Int),.int (el r a:Nat)]=some (.lst (((Nd r).set a (.int (el r c:Nat))).set c (.int (el r a:Nat))),.non):=m4 (by rw [List.length_set];omega)
 have hO:∀ d ∈ ((Nd r).set a (.int (el r c:Nat))).set c (.int (el r a:Nat)),plB d=true:=fun d hd=>by
  rcases List.mem_or_eq_of_mem_set hd with hd | rfl
  ·rcases List.mem_or_eq_of_mem_set hd with hd | rfl
   ·exact l d hd
   ·exact hf
  ·exact he
 have lO:(((Nd r).set a (.int (el r c:Nat))).set c (.int (el r a:Nat))).length=r.length:=by rw [List.length_set,List.length_set,nl]
 generalize ((Nd r).set a (.int (el r c:Nat))).set c (.int (el r a:Nat))=O at *
 generalize (Nd r).set a (.int (el r c:Nat))=O1 at *
 generalize el r a=e at *
 generalize el r c=Q at *
 have q:eqX (.int (e:Int)) (.int 1)=some (.bl (decide ((e:Int)=1)),.z):=rfl
 generalize decide ((e:Int)=1)=bq at *
 have ap:∀ {A B:List L3.D},(∀ d ∈ A,plB d=true)->(∀ d ∈ B,plB d=true)->∀ d ∈ A ++ B,plB d=true:=fun hA hB d hd=>(Cg.mp hd).elim (hA d) (hB d)
 have on:∀ {y:L3.D},plB y=true->∀ d ∈ [y],plB d=true:=fun G d hd=>CG.mp hd ▸ G
 have c1:aN (.tup C1) (.tup C2)=some (.tup (C1 ++ C2),.z):=cp (by omega)
 have T0:Gt (.tup (C1 ++ C2)):=cA (ap I m2) (by simp;omega)
 have c2:aN (.tup C1) (.tup [.int (e:Int)])=some (.tup (C1 ++ [.int (e:Int)]),.z):=cp (by simp;omega)
 have c3:aN (.tup (C1 ++ [.int (e:Int)])) (.tup C3)=some (.tup (C1 ++ [.int (e:Int)] ++ C3),.z):=cp (by simp;omega)
 have T1:Gt (.tup (C1 ++ [.int (e:Int)] ++ C3)):=cA (ap (ap I (on he)) U) (by simp;omega)
 have tO:jA [.lst O]=some (.tup O,.z):=rfl
 have T2:Gt (.tup O):=cA hO (by omega)
 have c4:aN (.tup (Nd r)) (.tup [.int (M:Int)])=some (.tup (Nd r ++ [.int (M:Int)]),.z):=cp (by simp;omega)
 have T3:Gt (.tup (Nd r ++ [.int (M:Int)])):=cA (ap l (on (j3 (by omega)))) (by simp;omega)
 have li:qe [.tup (Nd r)]=some (.lst (Nd r),.u):=rfl
 have T4:Gt (.lst (Nd r)):=⟨⟨rfl,fun xs e=>by cases e⟩,zY rfl (jH (zW fun d hd=>(iV (l d hd)).2.1) (by decide) (by rw [nl];omega))⟩
 have c6:aN (.tup C1) (.tup [.bl bq])=some (.tup (C1 ++ [.bl bq]),.z):=cp (by simp;omega)
 have c7:aN (.tup (C1 ++ [.bl bq])) (.tup C2)=some (.tup (C1 ++ [.bl bq] ++ C2),.z):=cp (by simp;omega)
 have T5:Gt (.tup (C1 ++ [.bl bq] ++ C2)):=cA (ap (ap I (on (pl_bl bq))) m2) (by simp;omega)
 have T6:Gt (.tup (Nd r).reverse):=cA (fun d hd=>l d (List.mem_reverse.mp hd)) (by simp;omega)
 have c5:aN (.tup C1) (.tup [V])=some (.tup (C1 ++ [V]),.z):=cp (by simp;omega)
 have ax:aN (.tup (C1 ++ [V])) (.tup C3)=some (.tup (C1 ++ [V] ++ C3),.z):=cp (by simp;omega)
 have T7:Gt (.tup (C1 ++ [V] ++ C3)):=BC hV I U (by omega)
 have c9:aN (.tup [.int (-1)]) (.tup (Nd r))=some (.tup ([.int (-1)] ++ Nd r),.z):=cp (by simp;omega)
 have T8:Gt (.tup ([.int (-1)] ++ Nd r)):=cA (ap (on pl_m1) l) (by simp;omega)
 have c8:aN (.tup (Nd r)) (.tup [.int (x:Int)])=some (.tup (Nd r ++ [.int (x:Int)]),.z):=cp (by simp;omega)
 obtain ⟨zs,ss,hz,L⟩:∃ zs:List Int,ssD [.tup (Nd r ++ [.int (x:Int)])]=some (.lst (Id' zs),.u)/\(∀ z ∈ zs,0<=z/\z < 10)/\zs.length<=10:=by
  have i1:bN (Nd r ++ [.int (x:Int)])=some ((r ++ [x]).map fun y:Nat=>(y:Int)):=by
   have:=rq (r ++ [x])
   rw [wL] at this
   exact this
  refine ⟨srt (((r ++ [x]).map fun y:Nat=>(y:Int)).foldl met []),?_,fun z hz=>?_,?_⟩
  ·show (bN _).bind _=_
   rw [i1]
   show (if _ < 64 then _ else none)=_
   rw [if_pos (by simp;omega)]
  ·rcases pY _ _ z ((bE _).subset hz) with hz | hz
   ·cases hz
   ·obtain ⟨y,G,rfl⟩:=Cm.mp hz
    rcases Cg.mp G with G | G
    ·have:=h.lt y G;omega
    ·have:=CG.mp G;omega
  ·have:=gg ((r ++ [x]).map fun y:Nat=>(y:Int)) []
   rw [(bE _).length_eq]
   simp at this ⊢
   omega
 have tp:jA [.lst (Id' zs)]=some (.tup (Id' zs),.z):=rfl
 have T9:Gt (.tup (Id' zs)):=by
  refine cA (fun d hd=>?_) (by simp;omega)
  obtain ⟨z,J,rfl⟩:=Cm.mp hd
  have:=j3 (i:=z.toNat) (by have:=hz z J;omega)
  rwa [Int.toNat_of_nonneg (hz z J).1] at this
 have rv:=@za
 clear I m2 U l1 l2 l3 l hz L h nl he hf rl ap on hO lO
 have rv:∀ {B N V A T O S:L3.D} {f g:Fl},oe (ab 1) (bP (mUn dU (mC (.int 1)))) [some (B,.u),some (.tup (Nd r),.z),some (N,.z),some (V,.z),some (A,.z),some (T,.z),some (O,f),some (S,g)]=some (.ok (.val (.tup (Nd r).reverse) .z),[some (B,.u),some (.tup (Nd r),.z),some (N,.z),some (V,.z),some (A,.z),some (T,.z),some (O,f),some (S,g)]):=za
 have ar:dU (.int 1)=some (.int (-1),.z):=rfl
 have ad:aN (.int (a:Int)) (.int 1)=some (.int ((a:Int)+1),.z):=rfl
 generalize L3.D.tup (C1 ++ C2)=o at *
 generalize L3.D.tup (C1 ++ [.int (e:Int)] ++ C3)=k at *
 generalize L3.D.tup (C1 ++ [.int (e:Int)])=B1 at *
 generalize L3.D.tup O=t at *
 generalize L3.D.tup (Nd r ++ [.int (M:Int)])=s at *
 generalize L3.D.tup (C1 ++ [.bl bq] ++ C2)=v at *
 generalize L3.D.tup (C1 ++ [.bl bq])=B2 at *
 generalize L3.D.tup (Nd r).reverse=C at *
 generalize L3.D.tup (C1 ++ [V] ++ C3)=w at *
 generalize L3.D.tup (C1 ++ [V])=B3 at *
 generalize L3.D.tup ([.int (-1)] ++ Nd r)=F at *
 generalize L3.D.tup (Id' zs)=H at *
 generalize L3.D.lst (Id' zs)=Z at *
 generalize L3.D.tup (Nd r ++ [.int (x:Int)])=Y at *
 generalize L3.D.tup C1=D1 at *
 generalize L3.D.tup C2=D2 at *
 generalize L3.D.tup C3=D3 at *
 generalize L3.D.lst (Nd r)=b at *
 generalize L3.D.tup (Nd r)=R at *
 generalize L3.D.int (r.length:Int)=LR at *
 have k1:aN (.lst [o,k,t,s,b]) (.lst [v,C,w,F])=some (.lst [o,k,t,s,b,v,C,w,F],.u):=my (by simp)
 have k2:tV (.lst [o,k,t,s,b,v,C,w,F]) [H]=some (.lst [o,k,t,s,b,v,C,w,F,H],.non):=wG (by simp)
 obtain ⟨d,gd,hd⟩:∃ d,aw (.lst [o,k,t,s,b,v,C,w,F,H]) (.int (j:Int))=some (d,.z)/\Gt d:=by
  have all:∀ d ∈ [o,k,t,s,b,v,C,w,F,H],Gt d:=by
   intro d hd
   simp only [Cd,List.not_mem_nil,or_false] at hd
   rcases hd with rfl | rfl | rfl | rfl | rfl | rfl | rfl | rfl | rfl | rfl <;> assumption
  have K:j < [o,k,t,s,b,v,C,w,F,H].length:=hj
  exact ⟨_,lL (mO (Ce K)),all _ (List.getElem_mem K)⟩
 refine ⟨n3,d,?_,hd⟩
 clear hd T0 T1 T2 T3 T4 T5 T6 T7 T8 T9
 have sw:(io (eW 2 (aY (dE 6 4) (aY (dE 6 5) d6))) (bD (aa (ag aw (ab 6) (ab 5)) (aa (ag aw (ab 6) (ab 4)) ae)))) [some (.lst [.int n1],.u),some (R,.z),some (.int (M:Int),.z),some (V,.z),some (.int (a:Int),.z),some (.int (c:Int),.z),some (b,.u),none]=some (.ok .nx,[some (.lst [.int n1],.u),some (R,.z),some (.int (M:Int),.z),some (V,.z),some (.int (a:Int),.z),some (.int (c:Int),.z),some (.lst O,.u),none]):=by
  refine zm (p:=(.tup [.int (Q:Int),.int (e:Int)],.z)) (ρ2:=[some (.lst [.int n1],.u),some (R,.z),some (.int (M:Int),.z),some (V,.z),some (.int (a:Int),.z),some (.int (c:Int),.z),some (b,.u),none]) (qi (am (bG (aq rfl) (aq rfl) rfl rfl gC) (am (bG (aq rfl) (aq rfl) rfl rfl gL) aS)) rfl (Nat.le_of_ble_eq_true rfl)) rfl ?_
  have b1:dE 6 4 (.int (Q:Int)) [some (.lst [.int n1],.u),some (R,.z),some (.int (M:Int),.z),some (V,.z),some (.int (a:Int),.z),some (.int (c:Int),.z),some (b,.u),none]=some [some (.lst [.int n1],.u),some (R,.z),some (.int (M:Int),.z),some (V,.z),some (.int (a:Int),.z),some (.int (c:Int),.z),some (.lst O1,.u),none]:=by
   show (iQ b [.int (a:Int),.int (Q:Int)]).map _=_
   rw [w1];rfl
  have b2:dE 6 5 (.int (e:Int)) [some (.lst [.int n1],.u),some (R,.z),some (.int (M:Int),.z),some (V,.z),some (.int (a:Int),.z),some (.int (c:Int),.z),some (.lst O1,.u),none]=some [some (.lst [.int n1],.u),some (R,.z),some (.int (M:Int),.z),some (V,.z),some (.int (a:Int),.z),some (.int (c:Int),.z),some (.lst O,.u),none]:=by
   show (iQ (.lst O1) [.int (c:Int),.int (e:Int)]).map _=_
   rw [w2];rfl
  exact oX b1 (oX b2 rfl)
 generalize L3.D.int (e:Int)=E at *
 generalize L3.D.int (M:Int)=N at *
 generalize L3.D.int (x:Int)=X at *
 generalize L3.D.int (c:Int)=CC at *
 apply aG (ρ:=[some (.lst [.int n],.u),some (R,.z),some (N,.z),some (V,.z),none,none,none,none]) (ρ1:=[some (.lst [.int n3],.u),some (R,.z),some (N,.z),some (V,.z),some (.int (a:Int),.z),some (CC,.z),some (.lst O,.u),some (.lst [o,k,t,s,b,v,C,w,F,H],.u)]) rfl rfl
 ·unfold nW
  apply aj (ρ1:=[some (.lst [.int n0],.u),some (R,.z),some (N,.z),some (V,.z),some (.int (a:Int),.z),none,none,none])
  ·nomatch [t0],[ln]
  apply aj (ρ1:=[some (.lst [.int n1],.u),some (R,.z),some (N,.z),some (V,.z),some (.int (a:Int),.z),some (CC,.z),none,none])
  ·nomatch [t1],[ln]
  apply aj (ρ1:=[some (.lst [.int n1],.u),some (R,.z),some (N,.z),some (V,.z),some (.int (a:Int),.z),some (CC,.z),some (b,.u),none])
  ·exists li
  refine aj sw ?_
  clear sw
  apply aj (ρ1:=[some (.lst [.int n1],.u),some (R,.z),some (N,.z),some (V,.z),some (.int (a:Int),.z),some (CC,.z),some (.lst O,.u),some (.lst [o,k,t,s,b],.u)])
  ·exists s1,s2,s3,c1,g,c2,c3,c4,li,tO,ad
  apply aj (ρ1:=[some (.lst [.int n1],.u),some (R,.z),some (N,.z),some (V,.z),some (.int (a:Int),.z),some (CC,.z),some (.lst O,.u),some (.lst [o,k,t,s,b,v,C,w,F],.u)])
  ·exists s1,s2,s3,c5,ax,g,q,c6,c7,c9,k1,ad,ar,rv
  apply aj (ρ1:=[some (.lst [.int n2],.u),some (R,.z),some (N,.z),some (V,.z),some (.int (a:Int),.z),some (CC,.z),some (.lst O,.u),some (.lst [o,k,t,s,b,v,C,w,F,H],.u)])
  ·nomatch [t2],[c8,ss,tp,k2]
  ·apply ba
   ·nomatch [t3],[gd]
   ·rfl
 ·rfl
theorem BL {ps:List Pt} {d:L3.D} {c:Bool} (h:cr [(d,.z),(Shd ps,.z),(.int (way true),.z)]=some (.ok (.bl c,.z),[(d,.z),(Shd ps,.z),(.int (way true),.z)])):iJ [(d,.z),(Shd ps,.z)]=some (.ok (.bl c,.z),[(d,.z),(Shd ps,.z)]):=by
 have h:cr [(d,.z),(Shd ps,.z),(.int 1,.z)]=some (.ok (.bl c,.z),[(d,.z),(Shd ps,.z),(.int 1,.z)]):=h
 generalize Shd ps=H at *
 apply aG (ρ:=[some (d,.z),some (H,.z)]) (ρ1:=[some (d,.z),some (H,.z)]) rfl rfl
 ·unfold nX
  apply ba
  ·nomatch [h]
  ·rfl
 ·rfl
theorem BS {ps:List Pt} {d:L3.D} {c:Bool} (h:cr [(d,.z),(Shd ps,.z),(.int (way false),.z)]=some (.ok (.bl c,.z),[(d,.z),(Shd ps,.z),(.int (way false),.z)])):iK [(d,.z),(Shd ps,.z)]=some (.ok (.bl c,.z),[(d,.z),(Shd ps,.z)]):=by
 have h:cr [(d,.z),(Shd ps,.z),(.int (-1),.z)]=some (.ok (.bl c,.z),[(d,.z),(Shd ps,.z),(.int (-1),.z)]):=h
 generalize Shd ps=H at *
 apply aG (ρ:=[some (d,.z),some (H,.z)]) (ρ1:=[some (d,.z),some (H,.z)]) rfl rfl
 ·unfold nY
  apply ba
  ·nomatch [h]
  ·rfl
 ·rfl
theorem pc {ps:List Pt} (g:GoodSh ps) (j:ps.length<=9) {d:L3.D} (hd:Gt d) {S L B:L3.D} {v4 v5 v6 v7 v8 v10:Option (L3.D × Fl)}:∃ w,fK [some (S,.z),some (L,.z),some (B,.u),some (Shd ps,.z),v4,v5,v6,v7,v8,some (d,.z),v10]=some (.ok .nx,[some (S,.z),some (L,.z),some (B,.u),some (Shd ps,.z),v4,v5,v6,v7,v8,some (d,.z),w]):=by
 obtain ⟨b1,k,e⟩:=lF g j hd.1 true
 obtain ⟨b2,l,a⟩:=lF g j hd.1 false
 have e:=BL e
 have a:=BS a
 obtain ⟨t,h⟩:=hd.2
 have i:lT [d]=some (.str t,.z):=h
 have c:=kY b1
 have f:=kY b2
 have ne:=Bi t
 clear h hd g
 generalize Shd ps=H at *
 refine ⟨some (.str t,.z),?_⟩
 unfold fK
 apply aj (ρ1:=[some (S,.z),some (L,.z),some (B,.u),some (H,.z),v4,v5,v6,v7,v8,some (d,.z),some (.str t,.z)])
 ·exists i
 apply aj (ρ1:=[some (S,.z),some (L,.z),some (B,.u),some (H,.z),v4,v5,v6,v7,v8,some (d,.z),some (.str t,.z)])
 ·refine bY (b:=false) ?_ rfl rfl
  exact bv (cu (ai c (am (ai e (am (aq rfl) (am (aq rfl) aS)) rfl rfl rfl) (am (ai k (am (aq rfl) (am (aq rfl) (am i_c aS))) rfl rfl rfl) aS)) rfl rfl rfl) rfl)
 refine bY (b:=false) (cO (b:=false) (ρ1:=[some (S,.z),some (L,.z),some (B,.u),some (H,.z),v4,v5,v6,v7,v8,some (d,.z),some (.str t,.z)]) ?_ rfl ?_) rfl rfl
 ·exact bv (cu (ai f (am (ai a (am (aq rfl) (am (aq rfl) aS)) rfl rfl rfl) (am (ai l (am (aq rfl) (am (aq rfl) (am i_c aS))) rfl rfl rfl) aS)) rfl rfl rfl) rfl)
 ·exact cu (bG (aX (am (aq rfl) aS) rfl i) (aq rfl) rfl rfl ne) rfl
theorem o9 {ps:List Pt} (g:GoodSh ps) (f:ps.length<=9) {ds:List L3.D} (hd:∀ d ∈ ds,Gt d) {S L B:L3.D} {v4 v5 v6 v7 v8 v9 v10:Option (L3.D × Fl)}:∃ c a,b8 (ao 9) fK ds [some (S,.z),some (L,.z),some (B,.u),some (Shd ps,.z),v4,v5,v6,v7,v8,v9,v10]=some (.ok .nx,[some (S,.z),some (L,.z),some (B,.u),some (Shd ps,.z),v4,v5,v6,v7,v8,c,a]):=by
 obtain ⟨ρ',e,c,a,rfl⟩:=bH (bnd:=ao 9) (b:=fK) (fun _ ρ=>∃ c a,ρ=[some (S,.z),some (L,.z),some (B,.u),some (Shd ps,.z),v4,v5,v6,v7,v8,c,a]) (ds:=ds) (ρ:=[some (S,.z),some (L,.z),some (B,.u),some (Shd ps,.z),v4,v5,v6,v7,v8,v9,v10]) (k:=0) ⟨_,_,rfl⟩ (by
  rintro i d ρ hi ⟨c,a,rfl⟩
  obtain ⟨w,e⟩:=pc g f (hd d (Ck hi)) (S:=S) (L:=L) (B:=B) (v4:=v4) (v5:=v5) (v6:=v6) (v7:=v7) (v8:=v8) (v10:=a)
  exact ⟨_,_,rfl,.inl e,_,_,rfl⟩)
 exact ⟨c,a,e⟩
theorem jf {bnd:L3.D->Sto->Option Sto} {c:M3 Bool} {elt:EM} (P:Sto->Prop) (Q:L3.D->Prop):∀ {ds:List L3.D} {τ:Sto},P τ ->
  (∀ d ∈ ds,∀ τ,P τ->∃ τ1 τ2 b,bnd d τ=some τ1/\c τ1=some (.ok b,τ2)/\P τ2/\∃ r τ3 p τ4,elt τ2=some (.ok r,τ3)/\cw r τ3=some (.ok p,τ4)/\Q p.1/\P τ4) ->
  ∃ out τ',bz bnd c elt ds τ=some (.ok out,τ')/\P τ'/\(∀ d ∈ out,Q d)/\out.length<=ds.length
 | [],τ,h0,_=>⟨[],τ,rfl,h0,(fun d hd=>by cases hd),Co _⟩
 | x :: xs,τ,h0,hs=>by
  obtain ⟨τ1,τ2,b,e1,i,h,r,τ3,p,τ4,l,k,q,f⟩:=hs x B6 τ h0
  cases b with
  | false =>
   obtain ⟨out,τ',e,g,a,j⟩:=jf P Q (ds:=xs) (τ:=τ2) h fun d hd=>hs d (B7 _ hd)
   refine ⟨out,τ',?_,g,a,by simp;omega⟩
   unfold bz
   simp [e1,ac,i,e]
  | true =>
   obtain ⟨out,τ',e,g,a,j⟩:=jf P Q (ds:=xs) (τ:=τ4) f fun d hd=>hs d (B7 _ hd)
   refine ⟨p.1 :: out,τ',?_,g,fun d hd=>?_,by simp;omega⟩
   ·unfold bz
    simp [e1,ac,i,l,k,e,aO]
   ·rcases Cd.mp hd with rfl | hd
    ·exact q
    ·exact a d hd
theorem u9 {n:Nat} (h:n<=9):∀ d ∈ aH 0 n,plB d=true:=fun d hd=>by
 obtain ⟨i,hi⟩:=List.getElem?_of_mem hd
 obtain ⟨hi,rfl⟩:=cK hi
 have:=j3 (i:=i) (by omega)
 rwa [Int.zero_add]
theorem Ab {ps:List Pt} (k:ps.length<=9) (n:Int) {S L V:L3.D} {v5 v6 v7 v8 v9 v10:Option (L3.D × Fl)}:∃ a X,nR [some (S,.z),some (L,.z),some (.lst [.int n],.u),some (Shd ps,.z),some (V,.z),v5,v6,v7,v8,v9,v10]=some (.ok (.val (.lst X) .u),[some (S,.z),some (L,.z),some (.lst [.int a],.u),some (Shd ps,.z),some (V,.z),v5,v6,v7,v8,v9,v10])/\Gt (.tup X):=by
 have g:=i6 ps
 obtain ⟨X,τ',e,⟨v,a,rfl⟩,f,j⟩:=jf (bnd:=ao 0) (c:=j9) (elt:=nU) (fun τ=>∃ v n,τ=[v,some (.lst [.int n],.u)]) (fun d=>plB d=true) (ds:=aH 0 ps.length) (τ:=[none,some (.lst [.int n],.u)]) ⟨none,n,rfl⟩ (by
  rintro d hd τ ⟨v,n,rfl⟩
  have t:=bO n 2 (by decide)
  have eq:eqX (.int (n % 2)) (.int 1)=some (.bl (decide (n % 2=1)),.z):=rfl
  have h:=u9 k d hd
  refine ⟨[some (d,.z),some (.lst [.int n],.u)],[some (d,.z),some (.lst [.int (n / 2)],.u)],decide (n % 2=1),rfl,?_,⟨_,_,rfl⟩,.pl 0,[some (d,.z),some (.lst [.int (n / 2)],.u)],(d,.z),[some (d,.z),some (.lst [.int (n / 2)],.u)],aq rfl,rfl,h,_,_,rfl⟩
  unfold j9
  (nomatch [t],[eq]))
 rw [a8] at j
 refine ⟨a,X,?_,cA f (by omega)⟩
 have b:cz [.int (ps.length:Int)]=some (aH 0 ps.length):=bS (by omega) (by omega)
 have i:(aH 0 ps.length).length < 16777216:=by rw [a8];omega
 generalize aH 0 ps.length=RG at *
 generalize L3.D.int (ps.length:Int)=N at *
 generalize Shd ps=H at *
 exact aQ (rs:=[]) (ρ1:=[some (S,.z),some (L,.z),some (.lst [.int n],.u),some (H,.z),some (V,.z),v5,v6,v7,v8,v9,v10]) (ds:=RG) (by (repeat' (first | with_reducible apply cN (h3:=b) | infer_instance | exact g | eq_refl))) e i rfl
theorem Aa {ps:List Pt} (k:ps.length<=9) {r:List Nat} (h:Ris ps.length r) (h3:1<=r.length) {V:L3.D} (i:inB V=true) (n:Int) {S L:L3.D} {v5 v6 v7 v9 v10:Option (L3.D × Fl)}:∃ a X,nQ [some (S,.z),some (L,.z),some (.lst [.int n],.u),some (Shd ps,.z),some (V,.z),v5,v6,v7,some (.tup (Nd r),.z),v9,v10]=some (.ok (.val (.lst X) .u),[some (S,.z),some (L,.z),some (.lst [.int a],.u),some (Shd ps,.z),some (V,.z),v5,v6,v7,some (.tup (Nd r),.z),v9,v10])/\(∀ d ∈ X,Gt d)/\X.length=3:=by
 have ln:=i6 ps
 obtain ⟨X,τ',e,⟨v,a,rfl⟩,g,j⟩:=jh (bnd:=ao 0) (c:=b9) (elt:=j8) (fun τ=>∃ v n,τ=[v,some (.lst [.int n],.u),some (.tup (Nd r),.z),some (V,.z),some (Shd ps,.z)]) Gt (ds:=aH 0 3) (τ:=[none,some (.lst [.int n],.u),some (.tup (Nd r),.z),some (V,.z),some (Shd ps,.z)]) ⟨none,n,rfl⟩ (by
  rintro d hd τ ⟨v,n,rfl⟩
  obtain ⟨b,x,l,q⟩:=uG h h3 k i n
  refine ⟨[some (d,.z),some (.lst [.int n],.u),some (.tup (Nd r),.z),some (V,.z),some (Shd ps,.z)],[some (d,.z),some (.lst [.int n],.u),some (.tup (Nd r),.z),some (V,.z),some (Shd ps,.z)],.val x .z,[some (d,.z),some (.lst [.int b],.u),some (.tup (Nd r),.z),some (V,.z),some (Shd ps,.z)],(x,.z),[some (d,.z),some (.lst [.int b],.u),some (.tup (Nd r),.z),some (V,.z),some (Shd ps,.z)],rfl,rfl,?_,rfl,q,_,_,rfl⟩
  clear q h
  generalize L3.D.tup (Nd r)=R at *
  generalize L3.D.int (ps.length:Int)=N at *
  generalize Shd ps=H at *
  unfold j8
  exact ai l (am (aq rfl) (am (aq rfl) (am (aX (am (aq rfl) aS) rfl ln) (am (aq rfl) aS)))) rfl rfl rfl)
 refine ⟨a,X,?_,g,by rw [j,a8]⟩
 generalize L3.D.tup (Nd r)=R at *
 generalize Shd ps=H at *
 have f:cz [.int 3]=some (aH 0 3):=bS (by decide) (by decide)
 exact aQ (rs:=[]) (ρ1:=[some (S,.z),some (L,.z),some (.lst [.int n],.u),some (H,.z),some (V,.z),v5,v6,v7,some (R,.z),v9,v10]) (ds:=aH 0 3) (by (repeat' (first | with_reducible apply cN (h3:=f) | infer_instance | eq_refl))) e (by rw [a8];decide) rfl
theorem uP {ps:List Pt} (s:ps.length<=9) {V:L3.D} (q:inB V=true) {rs:List (List Nat)} (j:∀ r ∈ rs,Ris ps.length r/\1<=r.length) (n:Int) {A:List L3.D} (o:∀ d ∈ A,Gt d) (v:A.length+rs.length * 3<=1000) {S L:L3.D} {v5 v6 v8 v9 v10:Option (L3.D × Fl)}:∃ g a f,b8 (ao 8) fL (rs.map fun r=>.tup (Nd r)) [some (S,.z),some (L,.z),some (.lst [.int n],.u),some (Shd ps,.z),some (V,.z),v5,v6,some (.lst A,.u),v8,v9,v10]=some (.ok .nx,[some (S,.z),some (L,.z),some (.lst [.int g],.u),some (Shd ps,.z),some (V,.z),v5,v6,some (.lst a,.u),f,v9,v10])/\∀ d ∈ a,Gt d:=by
 obtain ⟨ρ',e,g,a,f,rfl,c,_⟩:=bH (bnd:=ao 8) (b:=fL) (fun m ρ=>∃ n a f,ρ=[some (S,.z),some (L,.z),some (.lst [.int n],.u),some (Shd ps,.z),some (V,.z),v5,v6,some (.lst a,.u),f,v9,v10]/\(∀ d ∈ a,Gt d)/\a.length=A.length+m * 3) (ds:=rs.map fun r=>L3.D.tup (Nd r)) (ρ:=[some (S,.z),some (L,.z),some (.lst [.int n],.u),some (Shd ps,.z),some (V,.z),v5,v6,some (.lst A,.u),v8,v9,v10]) (k:=0) ⟨n,A,v8,rfl,o,by omega⟩ (by
  rintro i d ρ hd ⟨n,a,f,rfl,c,al⟩
  rw [Cn,B9] at hd
  obtain ⟨r,hi,rfl⟩:=hd
  have w:=(Cj.mp hi).1
  obtain ⟨h1,h2⟩:=j r (Ck hi)
  obtain ⟨h,X,p,l,t⟩:=Aa s h1 h2 q n (S:=S) (L:=L) (v5:=v5) (v6:=v6) (v7:=some (.lst a,.u)) (v9:=v9) (v10:=v10)
  have k:aN (.lst a) (.lst X)=some (.lst (a ++ X),.u):=my (by omega)
  refine ⟨_,[some (S,.z),some (L,.z),some (.lst [.int h],.u),some (Shd ps,.z),some (V,.z),v5,v6,some (.lst (a ++ X),.u),some (.tup (Nd r),.z),v9,v10],rfl,.inl ?_,h,a ++ X,_,rfl,fun d hd=>(Cg.mp hd).elim (c d) (l d),by rw [Cz,al,t];omega⟩
  unfold fL
  generalize L3.D.tup (Nd r)=R at *
  generalize Shd ps=H at *
  exact rA (bG (aq rfl) p rfl rfl k) rfl (Nat.le_of_ble_eq_true rfl) rfl)
 exact ⟨g,a,f,e,c⟩
theorem vM {ns:List Int} (k:Nat) {v2 v3 v4 v5 v6 v7 v8 v9 v10:Option (L3.D × Fl)}:∃ Z w3 P w5 Q Y f v e,iy [some (.fls (ns.map .int),.z),some (.int k,.z),v2,v3,v4,v5,v6,v7,v8,v9,v10]=some (.ok .nx,[some (.fls (ns.map .int),.z),some (.int k,.z),Z,w3,P,w5,Q,Y,f,v,e]):=by
 obtain ⟨n,O⟩:=xu ns k
 obtain ⟨q,ps,es,g,gm⟩:=sj n 9 (by decide) (by decide)
 have w:ps.length<=9:=by omega
 have t0:=bO q 20 (by decide)
 obtain ⟨a,ha,y⟩:=iu q (m:=20) (by decide)
 rw [show ((20:Nat):Int)=20 from rfl] at y
 rw [y] at t0
 clear y
 generalize q / 20=n3 at *
 obtain ⟨V,hV,hm⟩:=ov_at a ha
 have M:=xp t0 hV
 obtain ⟨W,o2,T⟩:=AT hm
 have X:=i6 ps
 have U:qJ [.int (ps.length:Int)]=some (.tup (aH 0 ps.length),.z):=by
  show (if decide (-4611686018427387904<=(ps.length:Int)/\(ps.length:Int)<=16777216)=true then some ((.tup (aH 0 (ps.length:Int).toNat),.z):L3.D × Fl) else none)=_
  rw [Ct (by omega),if_pos rfl,Int.toNat_natCast]
 have I:Gt (.tup (aH 0 ps.length)):=cA (u9 w) (by rw [a8];omega)
 generalize L3.D.fls (ns.map .int)=S at *
 generalize L3.D.int (k:Int)=L at *
 obtain ⟨G,c,R,s⟩:=Ab w n3 (S:=S) (L:=L) (V:=V) (v5:=v5) (v6:=v6) (v7:=v7) (v8:=v8) (v9:=v9) (v10:=v10)
 obtain ⟨n5,ra,ga,F,la⟩:=m8 g G true
 obtain ⟨t,b,gb,E,lb⟩:=m8 g n5 false
 have gN:∀ {r:List Nat},Ris ps.length r->Gt (.tup (Nd r)):=fun {r} h=>cA (zd fun x K=>by have:=h.lt x K;omega) (by have:=h.len;rw [Ci];omega)
 have tp:jA [.lst c]=some (.tup c,.z):=rfl
 have k1:aN (.lst [.tup (Nd ra),.tup (Nd b)]) (.lst [.tup c,V,.tup [],.tup [.int 0],.tup (aH 0 ps.length)])=some (.lst [.tup (Nd ra),.tup (Nd b),.tup c,V,.tup [],.tup [.int 0],.tup (aH 0 ps.length)],.u):=my (Nat.le_of_ble_eq_true rfl)
 have J:∀ d ∈ [.tup (Nd ra),.tup (Nd b),.tup c,V,.tup [],.tup [.int 0],.tup (aH 0 ps.length)],Gt d:=by
  intro d hd
  simp only [Cd,List.not_mem_nil,or_false] at hd
  rcases hd with rfl | rfl | rfl | rfl | rfl | rfl | rfl
  ·exact gN F
  ·exact gN E
  ·exact s
  ·exact ⟨th_of W,sh_b o2⟩
  ·exact cA (fun d hd=>by cases hd) (by decide)
  ·exact cA (fun d hd=>by rw [CG.mp hd];exact j3 (i:=0) (by decide)) (by decide)
  ·exact I
 obtain ⟨o,A,f,j,p⟩:=uP w T (rs:=[ra,b]) (fun r C=>by
  rcases Cd.mp C with rfl | C
  ·exact ⟨F,la⟩
  ·rw [CG.mp C];exact ⟨E,lb⟩) t J (Nat.le_of_ble_eq_true rfl) (S:=S) (L:=L) (v5:=some (.tup c,.z)) (v6:=some (.lst [.tup (Nd ra),.tup (Nd b)],.l)) (v8:=v8) (v9:=v9) (v10:=v10)
 obtain ⟨v,e,lo⟩:=o9 g w p (S:=S) (L:=L) (B:=.lst [.int o]) (v4:=some (V,.z)) (v5:=some (.tup c,.z)) (v6:=some (.lst [.tup (Nd ra),.tup (Nd b)],.u)) (v7:=some (.lst A,.l)) (v8:=f) (v9:=v9) (v10:=v10)
 refine ⟨some (.lst [.int o],.u),some (Shd ps,.z),some (V,.z),some (.tup c,.z),some (.lst [.tup (Nd ra),.tup (Nd b)],.u),some (.lst A,.u),f,v,e,?_⟩
 clear J p s I gN F E g
 have j:b8 (ao 8) fL [.tup (Nd ra),.tup (Nd b)] _=_:=j
 unfold iy
 generalize L3.D.tup (aH 0 ps.length)=TR at *
 generalize L3.D.tup (Nd ra)=RA at *
 generalize L3.D.tup (Nd b)=RB at *
 generalize L3.D.int (ps.length:Int)=N at *
 have es:eB [(.lst [.int n],.u),(.int 9,.z)]=some (.ok (Shd ps,.z),[(.lst [.int q],.u),(.int 9,.z)]):=es
 generalize Shd ps=H at *
 apply aj (ρ1:=[some (S,.z),some (L,.z),some (.lst [.int n],.u),v3,v4,v5,v6,v7,v8,v9,v10])
 ·nomatch [O]
 apply aj (ρ1:=[some (S,.z),some (L,.z),some (.lst [.int q],.u),some (H,.z),v4,v5,v6,v7,v8,v9,v10])
 ·nomatch [es]
 apply aj (ρ1:=[some (S,.z),some (L,.z),some (.lst [.int n3],.u),some (H,.z),some (V,.z),v5,v6,v7,v8,v9,v10])
 ·nomatch [M]
 apply aj (ρ1:=[some (S,.z),some (L,.z),some (.lst [.int G],.u),some (H,.z),some (V,.z),some (.tup c,.z),v6,v7,v8,v9,v10])
 ·(repeat' (first | with_reducible exact R | infer_instance | exact tp | eq_refl))
 apply aj (ρ1:=[some (S,.z),some (L,.z),some (.lst [.int t],.u),some (H,.z),some (V,.z),some (.tup c,.z),some (.lst [RA,RB],.u),v7,v8,v9,v10])
 ·exact rA (qi (am (ai ga (am (aq rfl) (am (aq rfl) (am i_c aS))) rfl rfl rfl) (am (ai gb (am (aq rfl) (am (aq rfl) (am i_c aS))) rfl rfl rfl) aS)) rfl (Nat.le_of_ble_eq_true rfl)) rfl (Nat.le_of_ble_eq_true rfl) rfl
 apply aj (ρ1:=[some (S,.z),some (L,.z),some (.lst [.int t],.u),some (H,.z),some (V,.z),some (.tup c,.z),some (.lst [RA,RB],.u),some (.lst [RA,RB,.tup c,V,.tup [],.tup [.int 0],TR],.u),v8,v9,v10])
 ·exists k1,U,X
 apply aj (ρ1:=[some (S,.z),some (L,.z),some (.lst [.int o],.u),some (H,.z),some (V,.z),some (.tup c,.z),some (.lst [RA,RB],.u),some (.lst A,.u),f,v9,v10])
 ·exact vS (is:=[6]) (ρ1:=[some (S,.z),some (L,.z),some (.lst [.int t],.u),some (H,.z),some (V,.z),some (.tup c,.z),some (.lst [RA,RB],.u),some (.lst [RA,RB,.tup c,V,.tup [],.tup [.int 0],TR],.u),v8,v9,v10]) (ρ2:=[some (S,.z),some (L,.z),some (.lst [.int o],.u),some (H,.z),some (V,.z),some (.tup c,.z),some (.lst [RA,RB],.l),some (.lst A,.u),f,v9,v10]) (mn (aq (i:=6) rfl) rfl rfl) rfl j
 exact vS (is:=[7]) (ρ1:=[some (S,.z),some (L,.z),some (.lst [.int o],.u),some (H,.z),some (V,.z),some (.tup c,.z),some (.lst [RA,RB],.u),some (.lst A,.u),f,v9,v10]) (ρ2:=[some (S,.z),some (L,.z),some (.lst [.int o],.u),some (H,.z),some (V,.z),some (.tup c,.z),some (.lst [RA,RB],.u),some (.lst A,.l),f,v,e]) (mn (aq (i:=7) rfl) rfl rfl) rfl lo
theorem xr (ns:List Int) (o:ns.length<=63):zw [(.fls (ns.map .int),.z)]=some (.ok (.bl true,.z),[(.fls (ns.map .int),.z)]):=by
 have g:∃ m:Nat,(if (if ((5:Int) < ((ns.map L3.D.int).length:Int)) then (5:Int) else ((ns.map L3.D.int).length:Int)) > 1 then (if ((5:Int) < ((ns.map L3.D.int).length:Int)) then (5:Int) else ((ns.map L3.D.int).length:Int)) else (1:Int))=(m:Int)/\m<=5:=by
  refine ⟨max 1 (min ns.length 5),?_,by omega⟩
  simp only [Ci]
  split <;> split <;> omega
 obtain ⟨m,hm,c⟩:=g
 obtain ⟨ρ',e,v1,v2,v3,v4,v5,v6,v7,v8,v9,v10,rfl⟩:=bH (bnd:=ao 1) (b:=iy) (fun _ ρ=>∃ v1 v2 v3 v4 v5 v6 v7 v8 v9 v10,ρ=[some (.fls (ns.map .int),.z),v1,v2,v3,v4,v5,v6,v7,v8,v9,v10]) (ds:=aH 0 m) (ρ:=[some (.fls (ns.map .int),.z),none,none,none,none,none,none,none,none,none,none]) (k:=0) ⟨_,_,_,_,_,_,_,_,_,_,rfl⟩ (by
  rintro i d ρ hd ⟨v1,v2,v3,v4,v5,v6,v7,v8,v9,v10,rfl⟩
  obtain ⟨hi,rfl⟩:=cK hd
  rw [Int.zero_add]
  obtain ⟨n,s,h,p,j,l,r,q,f,e⟩:=vM (ns:=ns) i (v2:=v2) (v3:=v3) (v4:=v4) (v5:=v5) (v6:=v6) (v7:=v7) (v8:=v8) (v9:=v9) (v10:=v10)
  exact ⟨_,_,rfl,.inl e,_,_,_,_,_,_,_,_,_,_,rfl⟩)
 have a:cz [.int (if (if ((5:Int) < ((ns.map L3.D.int).length:Int)) then (5:Int) else ((ns.map L3.D.int).length:Int)) > 1 then (if ((5:Int) < ((ns.map L3.D.int).length:Int)) then (5:Int) else ((ns.map L3.D.int).length:Int)) else (1:Int))]=some (aH 0 m):=by
  rw [hm]
  exact bS (by omega) (by omega)
 apply aG (ρ:=[some (.fls (ns.map .int),.z),none,none,none,none,none,none,none,none,none,none]) rfl rfl
 ·apply aj
  ·apply gj
   ·(repeat' (first | with_reducible apply cN (h3:=a) | infer_instance | eq_refl))
   ·rfl
   ·exact e
  ·nofun
 ·rfl
end Bn
end
namespace Bn
open PySem L2 L3
theorem BY {l : PySem.W.OpenLaw} {w : World} {K : FG} {h : Heap} {mg : Str -> Option Value} {fa : Addr} (X : K.In h) (G : h.Ns mainGlobals mg) (az : mg "law" = some (.ref fa)) (e : xn K = rB) :
  ∃ fd : FuncData, (∀ (s : Shared) (v : Value), BindsTo s fd ⟨[v], []⟩ [("_law_script", v)]) /\ ∀ base : Heap, K.In base -> base.Ns mainGlobals mg -> FnOk l.prog w K mg base CX0 9 fa fd ["_law_script"] (uo K) := by
 have c : dsL.map (fun p => oq K p.1) = dsL.map (fun p => km p.1 p.2) := congrArg (fun x => x.1) e
 have e1 : blL.map (PySem.W.nsIn K mainGlobals) = blL.map (fun _ => some none) := congrArg (fun x => x.2.1) e
 have e2 : ciL.map (fun p => mj K p.1) = ciL.map (fun p => some p.2) := congrArg (fun x => x.2.2.1) e
 have e3 : csL.map (fun p => um K p.1) = csL.map (fun p => some p.2) := congrArg (fun x => x.2.2.2) e
 have B : Bl mg := ⟨bW X G e1 0 rfl, bW X G e1 1 rfl, bW X G e1 2 rfl, bW X G e1 3 rfl, bW X G e1 4 rfl, bW X G e1 5 rfl, bW X G e1 6 rfl, bW X G e1 7 rfl, bW X G e1 8 rfl, bW X G e1 9 rfl, bW X G e1 10 rfl, bW X G e1 11 rfl, bW X G e1 12 rfl, bW X G e1 13 rfl, bW X G e1 14 rfl, bW X G e1 15 rfl, bW X G e1 16 rfl, bW X G e1 17 rfl, bW X G e1 18 rfl, bW X G e1 19 rfl⟩
 have D0 : Def K mg "is_whole" eG := aF X G c 0 rfl
 have D1 : Def K mg "is_point" eJ := aF X G c 1 rfl
 have D2 : Def K mg "is_place" eK := aF X G c 2 rfl
 have D3 : Def K mg "are_rising_places" bh := aF X G c 3 rfl
 have D4 : Def K mg "are_points" cX := aF X G c 4 rfl
 have D5 : Def K mg "has_rising_x" cb := aF X G c 5 rfl
 have D6 : Def K mg "bend" lQ := aF X G c 6 rfl
 have D7 : Def K mg "threes" gJ := aF X G c 7 rfl
 have D8 : Def K mg "first_on_line" bR := aF X G c 8 rfl
 have D9 : Def K mg "is_sheet" eI := aF X G c 9 rfl
 have a0 : Def K mg "check_sheet" cE := aF X G c 10 rfl
 have b5 : Def K mg "turn_at" fX := aF X G c 11 rfl
 have c3 : Def K mg "all_turns" dM := aF X G c 12 rfl
 have a3 : Def K mg "row_bends" dL := aF X G c 13 rfl
 have c5 : Def K mg "bends" jL := aF X G c 14 rfl
 have a4 : Def K mg "is_cup" ig := aF X G c 15 rfl
 have bq : Def K mg "is_cap" ik := aF X G c 16 rfl
 have c8 : Def K mg "_law_cell" ib := aF X G c 17 rfl
 have b4 : Def K mg "_law_mix" jJ := aF X G c 18 rfl
 have bb : Def K mg "_law_box" jK := aF X G c 19 rfl
 have be : Def K mg "_law_take" hE := aF X G c 20 rfl
 have b3 : Def K mg "_law_whole" fY := aF X G c 21 rfl
 have b0 : Def K mg "_law_truth" fZ := aF X G c 22 rfl
 have ax : Def K mg "_law_bend" ie := aF X G c 23 rfl
 have c0 : Def K mg "_law_free" hU := aF X G c 24 rfl
 have ck : Def K mg "_law_sheet" f9 := aF X G c 25 rfl
 have b6 : Def K mg "_law_odd" jI := aF X G c 26 rfl
 have c7 : Def K mg "_law_up" lP := aF X G c 27 rfl
 have a5 : Def K mg "_law_rising" eF := aF X G c 28 rfl
 have cm : Def K mg "_law_bends" gc := aF X G c 29 rfl
 have c6 : Def K mg "_law_gone" hJ := aF X G c 30 rfl
 have c4 : Def K mg "_law_bent" ic := aF X G c 31 rfl
 obtain ⟨f, fd, F0, hf⟩ : Def K mg "law" fu := aF X G c 32 rfl
 cases az.symm.trans hf
 have F := F0
 obtain ⟨oc, od, kV, doc, pm, an, a6, ct, dx, ef, lk, c9⟩ := F0.ex
 subst ef
 obtain ⟨dd, Q0⟩ := qg X G e2 0 (n := "MOST_POINTS") (v := 24) rfl
 obtain ⟨dr, Q1⟩ := qg X G e2 1 (n := "UP") (v := 1) rfl
 obtain ⟨dc, Q2⟩ := qg X G e2 2 (n := "DOWN") (v := -1) rfl
 refine ⟨PySem.W.fnOf "law" "law" (aW fu) (aM fu) (af fu) .none kV doc pm an a6 ct, fun s v => .of_eq rfl, fun base _ _ => ?_⟩
 have i := mI (P := l.prog) (w := w) (base := base) B D0
 have U := mK (P := l.prog) (w := w) (base := base) B D1 i
 have M := mL (P := l.prog) (w := w) (base := base) B D2 i
 have b := fm (P := l.prog) (w := w) (base := base) B D3 M
 have q := kz (P := l.prog) (w := w) (base := base) B D4 U Q0
 have j := ji (P := l.prog) (w := w) (base := base) B D5
 have Y := wC (P := l.prog) (w := w) (base := base) B D6
 have z := qr (P := l.prog) (w := w) (base := base) B D7
 have g := iF (P := l.prog) (w := w) (base := base) B D8 Y z
 have O := mJ (P := l.prog) (w := w) (base := base) B D9 q g j
 have o := jG (P := l.prog) (w := w) (base := base) B a0 O
 have V := oO (P := l.prog) (w := w) (base := base) B b5 Y
 have J := kO (P := l.prog) (w := w) (base := base) B c3 o z V
 have I := kN (P := l.prog) (w := w) (base := base) B a3
 have T := tN (P := l.prog) (w := w) (base := base) B c5 J b I
 have Z := qz (P := l.prog) (w := w) (base := base) B a4 T Q1
 have ar := qA (P := l.prog) (w := w) (base := base) B bq T Q2
 have A := qw (P := l.prog) (w := w) (base := base) B c8
 have R := tL (P := l.prog) (w := w) (base := base) B b4
 have N := tM (P := l.prog) (w := w) (base := base) B bb A R
 have a := qt (P := l.prog) (w := w) (base := base) B be
 have t := oP (P := l.prog) (w := w) (base := base) B b3
 have r := oQ (P := l.prog) (w := w) (base := base) B b0
 have d := qy (P := l.prog) (w := w) (base := base) B ax
 have C := qv (P := l.prog) (w := w) (base := base) B c0 d
 have u := oR (P := l.prog) (w := w) (base := base) B ck C a
 have S := tK (P := l.prog) (w := w) (base := base) B b6 a
 have m := wB (P := l.prog) (w := w) (base := base) B c7 d
 have k := mH (P := l.prog) (w := w) (base := base) B a5 t
 have y := oS (P := l.prog) (w := w) (base := base) B cm k m
 have D := qu (P := l.prog) (w := w) (base := base) B c6 a m
 have L := qx (P := l.prog) (w := w) (base := base) B c4 a
 exact FnOk.imp (yJ (P := l.prog) (w := w) (base := base) B F y L N D S u a r ar Z) fun vs H Q E h => yC (fun ns hn => ⟨_, xr ns hn⟩) h
theorem walkL : PySem.W.WalkO viL loL (fun _ _ => True) (fun _ h => ∃ K : FG, K.In h /\ xn K = rB) PySem.Challenge.rw_bentrows_k08_rows_known.row.toRowW ⟨"law", aW fu, aM fu, af fu, stPos fu⟩ [] (fun f d => PySem.call f d) :=
 L2.walk_ofS (l := PySem.Challenge.rw_bentrows_k08_rows_known) (n := 63) (k := 9) (x := "_law_script") (S := fun K => xn K = rB) (CX := CX0) (sp := uo) rfl (by decide) rfl ⟨rfl, by decide, by decide, rfl⟩ (fun _ _ z => z) (fun _ _ _ _ _ e X G hm => BY X G hm e) (fun _ _ a ns g c b => ⟨a, ns, rfl, b, c, g, fun _ => rfl⟩) fun _ _ _ _ z => z
end Bn
open PySem PySem.W PyProof.Rows
set_option maxRecDepth 100000 in
set_option maxHeartbeats 0 in
theorem PySem.Challenge.cw_bentrows_k08_rows_known_holds : PySem.Challenge.rw_bentrows_k08_rows_known.Holds :=
 holds_law Bn.okL fun said => holds_open (r := PySem.Challenge.rw_bentrows_k08_rows_known.row) Bn.leftL (fun _ _ e => ⟨_, L2.fragAt_in _, e⟩) (fun _ _ _ ⟨K, X, e⟩ k => ⟨K, X.keeps k, e⟩) (fun _ _ => trivial) (fun _ _ _ _ _ => trivial) (by kernel_rfl) (by kernel_rfl) (by kernel_rfl) (fun s e => recFacts_of e) (by rfl) said (by kernel_rfl) ⟨rfl, rfl, rfl, rfl, rfl, by decide +kernel⟩ ⟨[.list []], by decide +kernel, by decide +kernel⟩ Bn.walkL
