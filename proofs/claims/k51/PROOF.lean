import PyProof.Rows.All
import Wide.All
import OpenK.AllK
import Wide.FinOn
import Lean
import PyProof.EqAt
import PyProof.EqKinds
import PyProof.TupleCall
import PyProof.P3Eq
import PyProof.NeData
import PyProof.ListRange
import PyProof.Rows.CallKwBuiltin
import PyProof.Rows.Range3
import PyProof.DictWalks
import PyProof.MinMaxWalk
import PyProof.WalkInts
import PyProof.Walk
import PyProof.WalkLemmas
import PyProof.RulesTry
import PyProof.ZipIter
import PyProof.AttrMissHeap
import PyProof.FactsAll.zip
import PyProof.DictUpdate
import KE.KDictOf
import PyProof.Rows.SortShell
import PyProof.Rows.SortWalk
import PyProof.Rows.SortRuns
import PyProof.Rows.SetFrom
import PyProof.SetKind
import PyProof.SetScanFacts
import PyProof.FactsAll.subtypes_4
import PyProof.FactsAll.set_1
import PyProof.DictDisplay
import KE.KRevIter
import PyProof.CallStr
import KE.IntBitsLaws
import PySem.Challenge.RW_bentrows_k51_signs_known
set_option genSizeOf false
set_option Elab.async false
noncomputable section
set_option linter.all false
set_option maxRecDepth 100000
set_option maxHeartbeats 4000000
section
abbrev FG:=PySem.W.Frag
open PySem PySem.Spec PyProof.Rows
abbrev zL:=@wpAny_bind
abbrev zM:=@wpAny_pure
abbrev zN:=@wpAny_holding
abbrev zO:=@List.mem_cons_self
abbrev zP:=@List.mem_cons_of_mem
abbrev zQ:=@Heap.get?_push_of_some
abbrev zR:=@Option.map_eq_some_iff
abbrev zS:=@List.mem_append_left
abbrev zT:=@List.mem_append_right
abbrev zU:=@List.mem_cons
abbrev zV:=@List.getElem?_eq_getElem
abbrev zW:=@Heap.lt_size
abbrev zX:=@List.mem_append
abbrev zY:=@Heap.get?_push_size
abbrev zZ:=@List.length_map
abbrev z4:=@List.getElem?_eq_some_iff
abbrev z5:=@List.mem_of_getElem?
abbrev z6:=@List.sublist_append_right
abbrev z7:=@List.mem_map
abbrev z8:=@List.getElem?_map
abbrev z9:=@Nat.le_refl
abbrev Aa:=@Bool.false_ne_true
abbrev Ab:=@Nat.ne_of_lt
abbrev Ac:=@List.size_toArray
abbrev Ad:=@List.map_cons
abbrev Ae:=@decide_eq_true
abbrev Af:=@decide_eq_false
abbrev Ag:=@Nat.lt_of_lt_of_le
abbrev Ah:=@Nat.zero_add
abbrev Ai:=@Heap.get?_update_self
abbrev Aj:=@List.length_append
abbrev Ak:=@List.length_cons
abbrev Al:=@List.length_take
abbrev Am:=@Option.map_some
abbrev An:=@Option.bind_eq_some_iff
abbrev Ao:=@List.mem_singleton
abbrev Ap:=@Bool.false_eq_true
abbrev Aq:=@List.mem_filter
abbrev As:=@List.getElem?_append_left
abbrev At:=@Heap.get?_update_other
abbrev Au:=@Heap.size_push
abbrev Av:=@wpAny_truthy_bool
abbrev Aw:=@Nat.le_trans
abbrev Ax:=@List.take_of_length_le
abbrev Ay:=@List.filter_eq_self
abbrev Az:=@List.mem_flatMap
abbrev AA:=@List.map_map
abbrev AB:=@List.map_congr_left
abbrev AC:=@Option.some.inj
end
section
namespace L2
open PySem
def ba (s : Stmt) : Arguments := match s with
 | .FunctionDef _ a _ _ _ _ _ _ _ _ => a
 | _ => { posonlyargs := [], args := [], vararg := none, kwonlyargs := [], kw_defaults := [], kwarg := none, defaults := [] }
def aM (s : Stmt) : List Stmt := match s with
 | .FunctionDef _ _ b _ _ _ _ _ _ _ => b
 | _ => []
def ah (s : Stmt) : Scope := match s with
 | .FunctionDef _ _ _ _ _ _ sc _ _ _ => sc
 | _ => { kind := .function, names := [], isGenerator := false, isCoroutine := false }
def tL (h : Heap) : FG := (List.range h.objs.size).filterMap fun a => (h.get? a).map fun o => (a, o)
def refIn (K : FG) (n : Str) : Addr := match PySem.W.nsIn K mainGlobals n with
 | some (some (.ref f)) => f
 | _ => 0
abbrev lJ := Str × Str × Arguments × FuncBody × Scope × Addr × List (Str × Addr) × Value × Addr × Bool
def mR (K : FG) (n : Str) : Option lJ := match PySem.W.nsIn K mainGlobals n with
 | some (some (.ref f)) => (match K.lookup f with
  | some ⟨_, _, .func fd, _⟩ => some (fd.name, fd.qualname, fd.params, fd.body, fd.scope, fd.globals, fd.closure, fd.defaults, fd.builtins, PySem.W.codeIn K fd.code n)
  | _ => none)
 | _ => none
def jL (n : Str) (st : Stmt) : Option lJ := some (n, n, ba st, .stmts (aM st), ah st, mainGlobals, [], .none, builtinsNs, true)
def lg (K : FG) (n : Str) : Option Int := match PySem.W.nsIn K mainGlobals n with
 | some (some (.int v _)) => some v
 | _ => none
def rK (K : FG) (n : Str) : Option Str := match PySem.W.nsIn K mainGlobals n with
 | some (some (.str v _)) => some v
 | _ => none
open PySem.W PyProof.Rows in
theorem qE {p q : Program} {loose : List Str} {c : Shared → Bool} {α : Type} {d : Shared → α} {g : World → α} {N m : Nat} {ann : Option Value}
  (e : opening p = plainProg p.main.scope.names) (j : Nat.ble 600 N = true) (f : ∀ s, fenceModules? p s = some s)
  (sz : ∀ w : World, ((boot_heap w.params).isNs mainGlobals && (Array.mk [] : Array GenState).size == 0, (boot_heap w.params).objs.size, (boot_heap w.params).nsMap mainGlobals "__annotations__") = (true, m, ann))
  (go : ∀ (w : World) (os : OsState), (PySem.W.Fast.tw14082659384304107361 PySem.W.Fast.tw14364793385576792824 p w m ann N ⟨boot_heap w.params, Array.mk [], boot_drawn, boot_toks, os⟩ (topStub p)).map (fun s => ((staticsOk (importedModules p.main.body) (boot_heap w.params) s.heap && namesBound p s.heap && gensDone s && laidKept (boot_heap w.params) s.heap), PySem.W.Fast.tw4187177175401517315 q loose (importedModules p.main.body) c true s, d s)) = some (true, openGood q loose, g w)) : LeftO p q loose c d g N := fun w => by
 obtain ⟨⟨o, i, r, n, os⟩, k, h⟩ := zR.mp (boot_open e j f w)
 obtain ⟨rfl, rfl, rfl, rfl⟩ : o = boot_heap w.params ∧ i = Array.mk [] ∧ r = boot_drawn ∧ n = boot_toks := by simpa using h
 have sw := sz w
 have a := go w os
 rw [← PySem.W.Fast.te14082659384304107361, ← PySem.W.Fast.te14364793385576792824, ← PySem.W.Fast.te4187177175401517315] at a
 simp only [Prod.mk.injEq] at sw
 obtain ⟨s, l, b⟩ := zR.mp a
 simp only [Prod.mk.injEq] at b
 have tt : topFrom treeTable p w N ⟨boot_heap w.params, Array.mk [], boot_drawn, boot_toks, os⟩ = some s := by
  unfold topFrom
  dsimp only
  rw [sw.1, sw.2.1, sw.2.2, l]
  change (match staticsOk (importedModules p.main.body) (boot_heap w.params) s.heap && namesBound p s.heap && gensDone s && laidKept (boot_heap w.params) s.heap with | true => some s | false => none) = some s
  rw [b.1]
 unfold openEnds
 rw [k]
 change Option.map _ (topFrom treeTable p w N _) = _
 rw [tt]
 exact congrArg some (Prod.ext b.2.1 b.2.2)
theorem qe (h : PySem.W.Fast.tw9446332074065402090 l = true) : l.wellSaid = true := by rw [← PySem.W.Fast.te9446332074065402090] at h; exact h
end L2
namespace Bn
open PySem L2
def top (i : Nat) : Stmt := PySem.Challenge.pw_bentrows_k51_signs_known.main.body.getD i (.Pass ⟨0, 0, 0, 0⟩)
abbrev d9 : Stmt := top 4
abbrev b9 : Stmt := top 5
abbrev gg : Stmt := top 8
abbrev jb : Stmt := top 9
abbrev fB : Stmt := top 13
abbrev bF : Stmt := top 14
abbrev a9 : Stmt := top 15
abbrev cb : Stmt := top 16
abbrev dy : Stmt := top 17
abbrev ja : Stmt := top 19
abbrev gh : Stmt := top 20
abbrev fw : Stmt := top 21
abbrev i9 : Stmt := top 22
abbrev gk : Stmt := top 23
abbrev gi : Stmt := top 24
abbrev fA : Stmt := top 25
abbrev d8 : Stmt := top 26
abbrev fy : Stmt := top 27
abbrev cz : Stmt := top 28
abbrev cQ : Stmt := top 30
abbrev bP : Stmt := top 29
abbrev gj : Stmt := top 31
abbrev eT : Stmt := top 32
abbrev dsL : List (Str × Stmt) := [(("is_whole" : Str), d9), (("check_number" : Str), b9), (("threes" : Str), gg), (("fours" : Str), jb), (("is_sign" : Str), fB), (("turns_by_signs" : Str), bF), (("change_once_at_most" : Str), a9), (("are_signs_of" : Str), cb), (("are_signs" : Str), dy), (("_law_box" : Str), ja), (("_law_take" : Str), gh), (("_law_whole" : Str), fw), (("_law_odd" : Str), i9), (("_law_bend" : Str), gk), (("_law_free" : Str), gi), (("_law_sheet" : Str), fA), (("_law_threes" : Str), d8), (("_law_signs" : Str), fy), (("_law_are_signs" : Str), cz), (("_law_sheet_of" : Str), cQ), (("_law_drawn_signs" : Str), bP), (("_law_bent" : Str), gj), (("law" : Str), eT)]
abbrev blL : List Str := [("len" : Str), ("range" : Str), ("abs" : Str), ("divmod" : Str), ("enumerate" : Str), ("tuple" : Str), ("isinstance" : Str), ("int" : Str), ("bool" : Str), ("all" : Str), ("str" : Str), ("max" : Str), ("min" : Str), ("list" : Str), ("dict" : Str), ("repr" : Str), ("sorted" : Str), ("set" : Str), ("zip" : Str), ("reversed" : Str)]
abbrev ciL : List (Str × Int) := [(("DOWN" : Str), (-1 : Int)), (("UP" : Str), (1 : Int)), (("MOST_POINTS" : Str), (24 : Int))]
abbrev csL : List (Str × Str) := []
def uQ (K : FG) : List (Option lJ) × List (Option (Option Value)) × List (Option Int) × List (Option Str) := (dsL.map (fun p => mR K p.1), blL.map (PySem.W.nsIn K mainGlobals), ciL.map (fun p => lg K p.1), csL.map (fun p => rK K p.1))
def pF : List (Option lJ) × List (Option (Option Value)) × List (Option Int) × List (Option Str) := (dsL.map (fun p => jL p.1 p.2), blL.map (fun _ => some none), ciL.map (fun p => some p.2), csL.map (fun p => some p.2))
theorem okL : PySem.Challenge.rw_bentrows_k51_signs_known.wellSaid = true := qe (by kernel_rfl)
abbrev loL : List Str := [("BentError" : Str), ("NoNumber" : Str), ("is_whole" : Str), ("check_number" : Str), ("MOST_POINTS" : Str), ("threes" : Str), ("fours" : Str), ("UP" : Str), ("DOWN" : Str), ("is_sign" : Str), ("turns_by_signs" : Str), ("change_once_at_most" : Str), ("are_signs_of" : Str), ("are_signs" : Str), ("_law_box" : Str), ("_law_take" : Str), ("_law_whole" : Str), ("_law_odd" : Str), ("_law_bend" : Str), ("_law_free" : Str), ("_law_sheet" : Str), ("_law_threes" : Str), ("_law_signs" : Str), ("_law_are_signs" : Str), ("_law_drawn_signs" : Str), ("_law_sheet_of" : Str), ("_law_bent" : Str)]
abbrev viL : Program := PySem.W.view PySem.Challenge.rw_bentrows_k51_signs_known.row.prog [32]
theorem leftL : PySem.W.LeftO PySem.Challenge.rw_bentrows_k51_signs_known.row.prog viL loL (fun s => PySem.W.recOk (PySem.W.RowW.records PySem.Challenge.rw_bentrows_k51_signs_known.row.toRowW) s) (fun s => uQ (tL s.heap)) (fun _ => pF) 40000 :=
 qE (m := 11) (ann := some (.ref 6)) (by kernel_rfl) rfl (fun _ => rfl) (fun w => by kernel_rfl) (fun w os => by kernel_rfl)
end Bn
end
section
namespace L2
open PySem PySem.Spec PyProof.Rows
abbrev Key:=Sum Int Str
def kr:Key->Value->Bool
 | .inl k,v=>Value.isInt k v
 | .inr x,v=>Value.isStrOf x v
def keyH (w:World):Key->Int
 | .inl k=>hashInt k
 | .inr x=>hashStr w x
theorem aS:∀ {k:Key} {v:Value},kr k v=true->(∃ i t,k=Sum.inl i/\v=Value.int i t)\/(∃ x t,k=Sum.inr x/\v=Value.str x t)
 | .inl i,v,h=>by
  obtain ⟨t,e⟩:=Value.isInt_shape (k:=i) (v:=v) h
  exact .inl ⟨i,t,rfl,e⟩
 | .inr x,v,h=>by
  obtain ⟨t,e⟩:=Value.isStrOf_shape (x:=x) (v:=v) h
  exact .inr ⟨x,t,rfl,e⟩
theorem qH (i:Int) (t:Tok):kr (.inl i) (.int i t)=true:=by simp [kr,Value.isInt]
theorem qG (x:Str) (t:Tok):kr (.inr x) (.str x t)=true:=by simp [kr,Value.isStrOf]
theorem zi (a b:Int):decide ((Sum.inl a:Key)=Sum.inl b)=(a == b):=by
 by_cases e:a=b
 ·subst e;simp
 ·have h:¬ (Sum.inl a:Key)=Sum.inl b:=fun q=>e (Sum.inl.inj q)
  rw [Af h]
  exact (beq_eq_false_iff_ne.mpr e).symm
theorem zf (a b:Str):decide ((Sum.inr a:Key)=Sum.inr b)=decide (a=b):=by
 by_cases e:a=b
 ·subst e;simp
 ·have h:¬ (Sum.inr a:Key)=Sum.inr b:=fun q=>e (Sum.inr.inj q)
  rw [Af h,Af e]
theorem zh (a:Int) (b:Str):decide ((Sum.inl a:Key)=Sum.inr b)=false:=Af (fun q=>nomatch q)
theorem zg (a:Str) (b:Int):decide ((Sum.inr a:Key)=Sum.inl b)=false:=Af (fun q=>nomatch q)
def bd (prog:Program) (w:World):PySem.KeyKind prog w Key where
 is:=kr
 hash:=keyH w
 inj:=fun v a b f d=>by
  rcases aS f with ⟨i,t,rfl,rfl⟩ | ⟨x,t,rfl,rfl⟩
  ·rcases aS d with ⟨j,u,rfl,e⟩ | ⟨y,u,rfl,e⟩
   ·injection e with e1 _;rw [e1]
   ·exact nomatch e
  ·rcases aS d with ⟨j,u,rfl,e⟩ | ⟨y,u,rfl,e⟩
   ·exact nomatch e
   ·injection e with e1 _;rw [e1]
 byValue:=fun k v h=>by
  rcases aS h with ⟨i,t,rfl,rfl⟩ | ⟨x,t,rfl,rfl⟩ <;> rfl
 pyHash:=fun c h=>by
  rcases aS c with ⟨i,t,rfl,rfl⟩ | ⟨x,t,rfl,rfl⟩
  ·exact wpAny_pyHash_int h
  ·exact wpAny_pyHash_str h
 eqBool:=fun hu c h=>by
  rcases aS hu with ⟨i,t,rfl,rfl⟩ | ⟨x,t,rfl,rfl⟩
  ·rcases aS c with ⟨j,u,rfl,rfl⟩ | ⟨y,u,rfl,rfl⟩
   ·rw [zi] at h;exact wpAny_eqBool_int h
   ·rw [zh] at h;exact SeqAt.EqAt.int_str i t y u _ _ _ _ h
  ·rcases aS c with ⟨j,u,rfl,rfl⟩ | ⟨y,u,rfl,rfl⟩
   ·rw [zg] at h;exact SeqAt.EqAt.str_int x t j u _ _ _ _ h
   ·rw [zf] at h;exact wpAny_eqBool_str h
 «strs»:=fun k x t v h=>by
  rcases aS h with ⟨i,u,rfl,e⟩ | ⟨y,u,rfl,e⟩
  ·exact nomatch e
  ·injection e with e1 _
   subst e1
   cases v <;> rfl
theorem mx (prog:Program) (w:World) (i:Int) (t:Tok):(bd prog w).is (.inl i) (.int i t)=true:=qH i t
theorem mw (prog:Program) (w:World) (x:Str) (t:Tok):(bd prog w).is (.inr x) (.str x t)=true:=qG x t
end L2
namespace L2
open PySem PySem.Spec PyProof.Rows
inductive V where
 | non | bl (b:Bool) | int (i:Int) | str (x:Str) | byt (b:Array UInt8) | flt (b:UInt64) | ref (a:Addr) | ty (n:String)
 deriving DecidableEq
def RelV:V->Value->Prop
 | .non,u=>u=Value.none
 | .bl b,u=>u=Value.bool b
 | .int i,u=>∃ t,u=Value.int i t
 | .str x,u=>∃ t,u=Value.str x t
 | .byt b,u=>∃ t,u=Value.bytes b t
 | .flt b,u=>∃ t,u=Value.float b t
 | .ref a,u=>u=Value.ref a
 | .ty n,u=>u=Value.type n
abbrev Vals:List V->List Value->Prop:=Paired RelV
theorem Vals.length (r:Vals xs us):xs.length=us.length:=Paired.length r
theorem Vals.get:∀ {xs:List V} {us:List Value} {i:Nat} {x:V},Vals xs us->xs[i]?=some x->∃ u,us[i]?=some u/\RelV x u
 | _,_,_,_,.nil,e=>by simp at e
 | _,_,0,_,.cons r _,e=>by simp at e;subst e;exact ⟨_,rfl,r⟩
 | _,_,i+1,x,.cons _ t,e=>by
  obtain ⟨u,h1,h2⟩:=Vals.get (i:=i) (x:=x) t (by simpa using e)
  exact ⟨u,by simpa using h1,h2⟩
theorem Vals.set (r:RelV x u):∀ {xs:List V} {us:List Value} (i:Nat),Vals xs us->Vals (xs.set i x) (us.set i u)
 | _,_,_,.nil=>.nil
 | _,_,0,.cons _ t=>.cons r t
 | _,_,i+1,.cons q t=>.cons q (Vals.set r i t)
theorem Vals.append:∀ {xs ys:List V} {us ws:List Value},Vals xs us->Vals ys ws->Vals (xs ++ ys) (us ++ ws)
 | _,_,_,_,.nil,s=>s
 | _,_,_,_,.cons r t,s=>.cons r (Vals.append t s)
theorem Vals.take:∀ {xs:List V} {us:List Value} (n:Nat),Vals xs us->Vals (xs.take n) (us.take n)
 | _,_,0,_=>.nil
 | _,_,_+1,.nil=>.nil
 | _,_,n+1,.cons r t=>.cons r (Vals.take n t)
theorem Vals.drop:∀ {xs:List V} {us:List Value} (n:Nat),Vals xs us->Vals (xs.drop n) (us.drop n)
 | _,_,0,r=>r
 | _,_,_+1,.nil=>.nil
 | _,_,n+1,.cons _ t=>Vals.drop n t
def RelO:Option V->Option Value->Prop
 | some v,some u=>RelV v u
 | none,none=>True
 | _,_=>False
def KV {κ:Type}:List (κ × V)->List (κ × Value)->Prop:=Paired fun (p:κ × V) (q:κ × Value)=>p.1=q.1/\RelV p.2 q.2
def kV:Key->V
 | .inl i=>.int i
 | .inr x=>.str x
inductive HO where
 | lst (xs:List V)
 | tup (xs:List V)
 | dK (kvs:List (Key × V)) | dT (kvs:List (List Key × V))
 | set (S:Int->Bool) (n:Nat)
 | ins (C dx:Addr) (fs:List (Str × V))
 | own (x:Addr)
 | xd (fs:List (Str × V))
 | met (f x:Addr)
 | rng (lo hi:Int)
 | frz (o:Obj) (u:HO)
 | tbl (ps:Array Value)
 | ext (φ:Heap->Prop)
abbrev Hp:=Addr->Option HO
def upd (H:Hp) (a:Addr) (o:HO):Hp:=fun b=>if b=a then some o else H b
theorem aN:upd H a o a=some o:=by unfold upd;rw [if_pos rfl]
theorem ay (h:b ≠ a):upd H a o b=H b:=by unfold upd;rw [if_neg h]
theorem ne_of {H:Hp} (h:H a=some o) (h':H b=some u) (d:o ≠ u):a ≠ b:=by
 intro e;subst e;rw [h] at h';exact d (AC h')
theorem aX {H:Hp} (h:H a=some o) (h':H b=none):a ≠ b:=by
 intro e;subst e;rw [h] at h';cases h'
def DictOfE {prog:Program} {w:World} {κ:Type} [DecidableEq κ] (knd:KeyKind prog w κ) (h:Heap) (a:Addr) (kvs:List (κ × Value)):Prop :=
 ∃ o es b,h.get? a=some o/\o.ExactDict/\o.data=.dict es b/\KeysOf knd es/\Pairs knd es.toList kvs/\(kvs.map (·.1)).Nodup/\b=es.size
theorem DictOfE.of [DecidableEq κ] {knd:KeyKind prog w κ} {kvs:List (κ × Value)} (x:DictOfE knd h a kvs):h.DictOf knd a kvs:=let ⟨o,es,b,h1,h2,h3,c,h5,d,_⟩:=x;⟨o,es,b,h1,h2,h3,c,h5,d⟩
def IsTupD (h:Heap) (a:Addr) (items:Array Value):Prop:=∃ o,h.get? a=some o/\o.cls=.type "tuple"/\∃ n,(o.data,o.dict)=(Data.seq items n,none)
theorem IsTupD.tup {h:Heap} {a:Addr} {items:Array Value} (x:IsTupD h a items):IsTup h a items:=let ⟨o,e,c,n,d⟩:=x;⟨o,e,c,n,congrArg Prod.fst d⟩
theorem IsTupD.lt (x:IsTupD h a items):a < h.objs.size:=x.tup.lt
theorem IsTupD.new (h:Heap) (items:Array Value):IsTupD (h.push { cls:=.type "tuple",data:=.seq items }) h.objs.size items:=⟨_,zY h rfl,rfl,_,rfl⟩
section
variable (P:Program) (w:World)
def ObjOk (H:Hp) (h:Heap) (a:Addr):HO->Prop
 | .lst xs=>xs.length<=sizeLine/\∃ (b:List Value) (n:Nat),Vals xs b/\h.get? a=some { cls:=.type "list",data:=.seq b.toArray n }
 | .tup xs=>xs.length<=sizeLine/\∃ b:List Value,Vals xs b/\IsTupD h a b.toArray
 | .dK kvs=>kvs.length<=sizeLine/\(a == sysModules)=false/\∃ vs,KV kvs vs/\DictOfE (bd P w) h a vs
 | .dT kvs=>kvs.length<=sizeLine/\(a == sysModules)=false/\∃ xs:List (List Key × Addr × Value),
   Paired (fun (p:List Key × V) (q:List Key × Addr × Value)=>p.1=q.1/\H q.2.1=some (.tup (p.1.map kV))/\RelV p.2 q.2.2) kvs xs /\
   ∃ o es d,h.get? a=some o/\o.ExactDict/\o.data=.dict es d/\es.toList=xs.map (entryOfKey (tupleKind (bd P w)))/\(xs.map (·.1)).Nodup/\d=es.size
 | .set S n=>h.SetOf (intKind P w) a S n
 | .ins C dx fs=>H dx=some (.own a)/\fs.length<=1000/\dx ≠ a/\h.get? a=some (PySem.W.instObj C dx) /\
   ∃ c,h.Ns1 dx c/\(∀ f,RelO (fs.lookup f) (c f))/\PySem.Within c (fs.map (·.1))
 | .own _=>∃ o,h.get? a=some o
 | .xd fs=>∃ c,h.Ns1 a c/\∀ f,RelO (fs.lookup f) (c f)
 | .rng lo hi=>∃ t u v,h.get? a=some { cls:=.type "range",data:=.fields #[.int lo t,.int hi u,.int 1 v] }
 | .frz o u=>h.get? a=some o/\ObjOk H h a u
 | .tbl ps=>h.get? a=some { cls:=.none,data:=.fields ps }
 | .met f x=>h.get? a=some (PySem.W.methodObj (.ref f) (.ref x))
 | .ext φ=>φ h/\(∃ o,h.get? a=some o)/\∀ h1 h2:Heap,φ h1->(∀ o,h1.get? a=some o->h2.get? a=some o)->φ h2
def HOk (H:Hp) (h:Heap):Prop:=∀ a o,H a=some o->ObjOk P w H h a o
end
section
variable {P:Program} {w:World} {H H':Hp} {h h':Heap} {a:Addr} {o:HO}
theorem ObjOk.lt (x:ObjOk P w H h a o):a < h.objs.size:=by
 cases o with
 | lst xs=>obtain ⟨_,_,_,_,e⟩:=x;exact zW e
 | tup xs=>obtain ⟨_,_,_,p⟩:=x;exact p.lt
 | dK kvs=>obtain ⟨_,_,_,_,o,_,_,e,_⟩:=x;exact zW e
 | dT kvs=>obtain ⟨_,_,_,_,o,_,_,e,_⟩:=x;exact zW e
 | set S n=>obtain ⟨o,_,_,_,e,_⟩:=x;exact zW e
 | ins C dx fs=>obtain ⟨_,_,_,e,_⟩:=x;exact zW e
 | own y=>obtain ⟨_,e⟩:=x;exact zW e
 | xd fs=>obtain ⟨_,⟨_,_,_,e,_⟩,_⟩:=x;exact zW e
 | rng lo hi=>obtain ⟨_,_,_,e⟩:=x;exact zW e
 | frz ob u=>obtain ⟨e,_⟩:=x;exact zW e
 | tbl ps=>exact zW (show h.get? a=some _ from x)
 | met f y=>exact zW (show h.get? a=some _ from x)
 | ext φ=>obtain ⟨_,⟨_,e⟩,_⟩:=x;exact zW e
theorem Paired.mapP:∀ {d:List α} {c:List β},Paired F d c->(∀ a b,F a b->G a b)->Paired G d c
 | _,_,.nil,_=>.nil
 | _,_,.cons r t,f=>.cons (f _ _ r) (Paired.mapP t f)
theorem ObjOk.stay (x:ObjOk P w H h a o) (k:∀ b u,(b=a\/H b=some (.own a))->h.get? b=some u->h'.get? b=some u)
  (A:∀ b,H b=some (.own a)->H' b=some (.own a)) (m:∀ b xs,H b=some (.tup xs)->H' b=some (.tup xs)):ObjOk P w H' h' a o:=by
 induction o with
 | lst xs=>obtain ⟨z,i,n,r,e⟩:=x;exact ⟨z,i,n,r,k _ _ (.inl rfl) e⟩
 | tup xs=>obtain ⟨z,i,r,ob,e,c⟩:=x;exact ⟨z,i,r,ob,k _ _ (.inl rfl) e,c⟩
 | dK kvs=>obtain ⟨z,y,vs,r,ob,es,g,e,c⟩:=x;exact ⟨z,y,vs,r,ob,es,g,k _ _ (.inl rfl) e,c⟩
 | dT kvs =>
  obtain ⟨z,y,xs,r,ob,es,g,e,c⟩:=x
  exact ⟨z,y,xs,Paired.mapP r fun p q z=>⟨z.1,m _ _ z.2.1,z.2.2⟩,ob,es,g,k _ _ (.inl rfl) e,c⟩
 | set S n=>obtain ⟨ob,es,g,t,e,c⟩:=x;exact ⟨ob,es,g,t,k _ _ (.inl rfl) e,c⟩
 | ins C dx fs =>
  obtain ⟨d,z,ne,e,j,⟨l,es,g,s,c⟩,r⟩:=x
  exact ⟨A _ d,z,ne,k _ _ (.inl rfl) e,j,⟨l,es,g,k _ _ (.inr d) s,c⟩,r⟩
 | own y=>obtain ⟨ob,e⟩:=x;exact ⟨ob,k _ _ (.inl rfl) e⟩
 | xd fs=>obtain ⟨j,⟨l,es,g,e,c⟩,r⟩:=x;exact ⟨j,⟨l,es,g,k _ _ (.inl rfl) e,c⟩,r⟩
 | rng lo hi=>obtain ⟨t,u,v,e⟩:=x;exact ⟨t,u,v,k _ _ (.inl rfl) e⟩
 | frz ob u ih=>obtain ⟨e,q⟩:=x;exact ⟨k _ _ (.inl rfl) e,ih q⟩
 | tbl ps =>
  have e:h.get? a=some { cls:=.none,data:=.fields ps }:=x
  show h'.get? a=some { cls:=.none,data:=.fields ps }
  exact k a _ (.inl rfl) e
 | met f y =>
  have e:h.get? a=some (PySem.W.methodObj (.ref f) (.ref y)):=x
  show h'.get? a=some (PySem.W.methodObj (.ref f) (.ref y))
  exact k a _ (.inl rfl) e
 | ext φ=>obtain ⟨p,⟨o,e⟩,st⟩:=x;exact ⟨st _ _ p fun o q=>k _ _ (.inl rfl) q,⟨o,k _ _ (.inl rfl) e⟩,st⟩
theorem HOk.lt (x:HOk P w H h) (e:H a=some o):a < h.objs.size:=(x a o e).lt
theorem HOk.fresh (x:HOk P w H h) (e:h.objs.size<=a):H a=none:=by
 cases q:H a with
 | none=>rfl
 | some u=>exact absurd (Ag (x.lt q) e) (Nat.lt_irrefl _)
theorem HOk.kept (x:HOk P w H h) (k:∀ b u,h.get? b=some u->h'.get? b=some u):HOk P w H h':=fun a o e =>
 (x a o e).stay (fun b u _ q=>k b u q) (fun _ q=>q) fun _ _ q=>q
theorem HOk.laid (x:HOk P w H h) (k:∀ b u,h.get? b=some u->h'.get? b=some u) (g:h.objs.size<=a) (new:ObjOk P w (upd H a o) h' a o):HOk P w (upd H a o) h':=fun b u e=>by
 have f:=x.fresh g
 by_cases d:b=a
 ·subst d;rw [aN] at e;cases e;exact new
 ·rw [ay d] at e
  exact (x b u e).stay (fun c v _ q=>k c v q) (fun c q=>by rw [ay (aX q f)];exact q) fun c xs q=>by rw [ay (aX q f)];exact q
end
def Rd (H:Hp) (a:Addr) (u:HO):Prop:=H a=some u\/∃ o,H a=some (.frz o u)
theorem Rd.ok (r:Rd H a u) (x:HOk P w H h):ObjOk P w H h a u:=by
 rcases r with r | ⟨o,r⟩
 ·exact x a u r
 ·obtain ⟨_,q⟩:=x a _ r
  exact q
def Mut:Option HO->Prop
 | some (.lst _)=>True
 | some (.dK _)=>True
 | some (.dT _)=>True
 | some (.set _ _)=>True
 | some (.ins _ _ _)=>True
 | some (.ext _)=>True
 | _=>False
section
variable {P:Program} {w:World} {H:Hp} {h h':Heap} {x e:Addr} {o':HO}
theorem HOk.write (ok:HOk P w H h) (j:Mut (H x)) (he:e=x\/H e=some (.own x)) (k:∀ b u,b ≠ e->h.get? b=some u->h'.get? b=some u) (l:∃ u,h'.get? e=some u)
  (new:ObjOk P w (upd H x o') h' x o'):HOk P w (upd H x o') h':=fun b u q=>by
 have d:∀ c y,H c=some (.own y)->c ≠ x:=fun c y r z=>by subst z;rw [r] at j;exact j
 have f:∀ c xs,H c=some (.tup xs)->c ≠ x:=fun c xs r z=>by subst z;rw [r] at j;exact j
 by_cases i:b=x
 ·subst i;rw [aN] at q;cases q;exact new
 ·rw [ay i] at q
  by_cases a:b=e
  ·have m:H b=some (.own x):=by
    rcases he with z | z
    ·exact absurd (a.trans z) i
    ·rw [a];exact z
   rw [q] at m;cases m
   obtain ⟨v,n⟩:=l
   exact ⟨v,by rw [a];exact n⟩
  ·refine (ok b u q).stay (fun c v g r=>k c v ?_ r) (fun c r=>by rw [ay (d c b r)];exact r) fun c xs r=>by rw [ay (f c xs r)];exact r
   rcases g with rfl | g
   ·exact a
   ·rintro rfl
    rcases he with z | z
    ·exact d c b g z
    ·rw [g] at z;cases z;exact i rfl
end
structure Un (fs ex:List Addr) (H H':Hp) (h h':Heap):Prop where
 keep:∀ b o,h.get? b=some o->H b=none->b ∉ fs->b ∉ ex->h'.get? b=some o
 slot:∀ b o,h.get? b=some o->H b=none->b ∈ fs->b ∉ ex->∃ sl,h'.get? b=some { o with slots:=sl }
 free:∀ b o,h.get? b=some o->H b=none->b ∉ ex->H' b=none
 there:∀ b o,h.get? b=some o->b ∉ ex->∃ o',h'.get? b=some o'
 tups:∀ b xs,H b=some (.tup xs)->H' b=some (.tup xs)
 frzs:∀ b o u,H b=some (.frz o u)->H' b=some (.frz o u)
 tbls:∀ b ps,H b=some (.tbl ps)->∃ more,H' b=some (.tbl (ps ++ more))
section
variable {fs fs' ex ex':List Addr} {H H1 H2:Hp} {h h1 h2 h':Heap} {a x e:Addr} {o:HO}
theorem Un.any (u:Un fs ex H H1 h h1) (q:h.get? b=some ob) (n:H b=none) (a:b ∉ ex):∃ sl,h1.get? b=some { ob with slots:=sl }:=by
 by_cases c:b ∈ fs
 ·exact u.slot b ob q n c a
 ·exact ⟨ob.slots,u.keep b ob q n c a⟩
theorem Un.trans (a:Un fs ex H H1 h h1) (b:Un fs ex H1 H2 h1 h2):Un fs ex H H2 h h2 where
 keep:=fun c ob q n e d=>b.keep c ob (a.keep c ob q n e d) (a.free c ob q n d) e d
 slot:=fun c ob q n e d=>by
  obtain ⟨sl,e1⟩:=a.slot c ob q n e d
  obtain ⟨f,g⟩:=b.slot c _ e1 (a.free c ob q n d) e d
  exact ⟨f,g⟩
 free:=fun c ob q n d=>by
  obtain ⟨o',e1⟩:=a.there c ob q d
  exact b.free c o' e1 (a.free c ob q n d) d
 there:=fun c ob q d=>by
  obtain ⟨o',e1⟩:=a.there c ob q d
  exact b.there c o' e1 d
 tups:=fun c xs q=>b.tups c xs (a.tups c xs q)
 frzs:=fun c ob xs q=>b.frzs c ob xs (a.frzs c ob xs q)
 tbls:=fun c ps q=>by
  obtain ⟨j,e1⟩:=a.tbls c ps q
  obtain ⟨i,g⟩:=b.tbls c _ e1
  exact ⟨j ++ i,by rw [g,Array.append_assoc]⟩
theorem Un.kept (k:∀ b u,h.get? b=some u->h'.get? b=some u):Un fs ex H H h h' :=
 ⟨fun b ob q _ _ _=>k b ob q,fun b ob q _ _ _=>⟨ob.slots,k b ob q⟩,fun _ _ _ n _=>n,fun b ob q _=>⟨ob,k b ob q⟩,fun _ _ q=>q,fun _ _ _ q=>q,fun _ ps q=>⟨#[],by rw [q];simp⟩⟩
theorem Un.refl:Un fs ex H H h h:=Un.kept fun _ _ q=>q
theorem Un.laid (k:∀ b u,h.get? b=some u->h'.get? b=some u) (d:h.objs.size<=a) (c:H a=none):Un fs ex H (upd H a o) h h' where
 keep:=fun b u q _ _ _=>k b u q
 slot:=fun b u q _ _ _=>⟨u.slots,k b u q⟩
 free:=fun b u q n _=>by rw [ay (Ab (Ag (zW q) d))];exact n
 there:=fun b u q _=>⟨u,k b u q⟩
 tups:=fun b xs q=>by rw [ay (aX q c)];exact q
 frzs:=fun b u xs q=>by rw [ay (aX q c)];exact q
 tbls:=fun b ps q=>⟨#[],by rw [ay (aX q c),q];simp⟩
theorem Un.write (c:Mut (H x)) (he:e=x\/H e=some (.own x)) (k:∀ b u,b ≠ e->h.get? b=some u->h'.get? b=some u) (d:∃ u,h'.get? e=some u):Un fs ex H (upd H x o) h h':=by
 have f:∀ b,H b=none->b ≠ x:=fun b n z=>by subst z;rw [n] at c;exact c
 have g:∀ b,H b=none->b ≠ e:=fun b n z=>by
  subst z
  rcases he with r | r
  ·exact f b n r
  ·rw [n] at r;cases r
 have hm:∀ b u,H b=some u->¬ Mut (some u)->b ≠ x:=fun b u q nm z=>by subst z;rw [q] at c;exact nm c
 refine ⟨fun b u q n _ _=>k b u (g b n) q,fun b u q n _ _=>⟨u.slots,k b u (g b n) q⟩,fun b u q n _=>by rw [ay (f b n)];exact n,fun b u q _=>?_,
  fun b xs q=>by rw [ay (hm b _ q fun z=>z)];exact q,fun b u xs q=>by rw [ay (hm b _ q fun z=>z)];exact q,fun b ps q=>⟨#[],by rw [ay (hm b _ q fun z=>z),q];simp⟩⟩
 by_cases a:b=e
 ·subst a;exact d
 ·exact ⟨u,k b u a q⟩
end
def trk (h:Heap) (H:Hp):List Addr:=(List.range h.objs.size).filter fun a=>(H a).isSome
def lj (h:Heap) (H:Hp):Heap:=PySem.W.hideAll h (trk h H)
theorem qJ (h:Heap) (H:Hp):(lj h H).objs.size=h.objs.size:=PySem.W.hideAll_size _ _
theorem tJ (e:h.get? b=some o) (n:H b=none):(lj h H).get? b=some o :=
 PySem.W.hideAll_get _ e fun hm=>by
  have q:(H b).isSome=true:=(Aq.mp hm).2
  rw [n] at q;simp at q
theorem vL (e:(lj h H).get? b=some o):h.get? b=some o/\H b=none:=by
 have a:h.get? b=some o:=PySem.W.of_hideAll (trk h H) e
 refine ⟨a,?_⟩
 cases q:H b with
 | none=>rfl
 | some x =>
  have hm:b ∈ trk h H:=Aq.mpr ⟨List.mem_range.mpr (zW a),by simp [q]⟩
  have z:(lj h H).get? b=none:=PySem.W.hideAll_none (trk h H) hm
  rw [z] at e;cases e
def wB (g h:Heap) (L:Addr):List (Addr × Obj):=(List.range h.objs.size).filterMap fun a=>if a=L\/(g.get? a).isSome=true then none else (h.get? a).map fun o=>(a,o)
def eW (g h:Heap) (L d:Addr):List (Addr × Obj):=(wB g h L).filter fun p=>decide (p.1 ≠ d)
end L2
namespace L2
open PySem PySem.Spec PyProof.Rows
structure Mod (K:FG) (mg:Str->Option Value) (base:Heap):Prop where
 kin:K.In base
 glob:base.Ns mainGlobals mg
 blt:∃ mb,base.Ns builtinsNs mb/\∀ x:Str,x ≠ "__name__"->mb x=bootBuiltins x
 nolimit:base.NoLimit
structure Cx where
 prog:Program
 w:World
 K:FG
 mg:Str->Option Value
 base:Heap
 A:Around
 N:List Str
 s₀:Shared
 H₀:Hp
 env:Env
 outer:List Env
 stack:List Env
 ex:List Addr
 fn:Str->Bool
 calm:Bool
 pn:List (Addr × Obj)
 xe:Value->Shared->Prop
def frs (l:List Env):List Addr:=l.filterMap (·.frame)
abbrev Cx.fs (X:Cx):List Addr:=frs X.outer
def Vis (sc:Scope) (x:Str):Prop:=sc.names.lookup x=some .local\/sc.names.lookup x=some .cell\/sc.names.lookup x=some .free
def Loc (sc:Scope) (x:Str):Prop:=sc.names.lookup x=some .local\/sc.names.lookup x=some .cell
def Look (env:Env) (h:Heap) (m:Str->Option Value) (x:Str) (u:Value):Prop :=
 (env.kindOf x=some .local/\m x=some u)\/((env.kindOf x=some .cell\/env.kindOf x=some .free)/\∃ c,env.cells.lookup x=some c/\h.IsCell c (some u))
structure Cx.Ok (X:Cx):Prop where
 mod:Mod X.K X.mg X.base
 kind:X.env.scope.kind=.function
 glob:X.env.globals=mainGlobals
 blt:X.env.builtins=builtinsNs
 above:X.s₀.heap.objs.size<=X.env.locals
 inj:∀ x y c,X.env.cells.lookup x=some c->X.env.cells.lookup y=some c->x=y
 has:∀ x,(X.env.kindOf x=some .cell\/X.env.kindOf x=some .free)->∃ c,X.env.cells.lookup x=some c
 cab:∀ x c,X.fn x=true->X.env.cells.lookup x=some c->X.s₀.heap.objs.size<=c
 hd:X.calm=true->X.A.handled=none
 frames:X.A.frames=some X.stack
 stk:X.stack=X.outer\/(X.stack=X.env :: X.outer/\X.env.frame=some X.env.locals)
 exf:∀ b ∈ X.ex,b ≠ X.env.locals/\∀ x c,X.env.cells.lookup x=some c->c ≠ b
 bs:∀ b o,X.base.get? b=some o->X.s₀.heap.get? b=some o/\X.H₀ b=none
 bsz:X.base.objs.size<=X.s₀.heap.objs.size
 noex:∀ b o,X.base.get? b=some o->b ∉ X.ex
 exfs:∀ b ∈ X.ex,b ∉ X.fs
 funs:X.s₀.heap.FunFrames X.base X.outer
 frf:∀ b ∈ X.fs,X.H₀ b=none
structure Inv (X:Cx) (pins:List (Addr × Obj)) (σ:List (Option V)) (H:Hp) (s:Shared):Prop where
 ok:X.Ok
 os:s.os=X.s₀.os
 bare:AllBare s.gens
 base:Un X.fs X.ex X.H₀ H X.s₀.heap s.heap
 loc:∃ m,s.heap.Ns X.env.locals m/\∀ (i:Nat) (x:Str) (v:V),X.N[i]?=some x->σ[i]?=some (some v)->Vis X.env.scope x->∃ u,RelV v u/\Look X.env s.heap m x u
 cell:∀ x c,X.env.cells.lookup x=some c->∃ v,s.heap.IsCell c v
 free:H X.env.locals=none
 freeC:∀ x c,X.env.cells.lookup x=some c->H c=none
 pin:∀ p ∈ X.pn ++ pins,s.heap.get? p.1=some p.2/\H p.1=none/\p.1 ≠ X.env.locals/\p.1 ∉ X.fs/\∀ v,p.2.data ≠ .cell v
 hok:HOk X.prog X.w H s.heap
 len:σ.length=X.N.length
section
variable {X:Cx} {pins:List (Addr × Obj)} {σ:List (Option V)} {H H':Hp} {s:Shared} {h':Heap}
theorem Cx.Ok.nofr (ok:X.Ok) (e:X.base.get? b=some o):b ∉ X.fs:=fun a=>by
 have:=(ok.funs.mem a).1
 rw [e] at this;cases this
theorem Inv.bs (I:Inv X pins σ H s):∀ b o,X.base.get? b=some o->s.heap.get? b=some o/\H b=none:=fun b o e =>
 ⟨I.base.keep b o (I.ok.bs b o e).1 (I.ok.bs b o e).2 (I.ok.nofr e) (I.ok.noex b o e),I.base.free b o (I.ok.bs b o e).1 (I.ok.bs b o e).2 (I.ok.noex b o e)⟩
theorem Inv.bk (I:Inv X pins σ H s):∀ b o,X.base.get? b=some o->s.heap.get? b=some o:=fun b o e=>(I.bs b o e).1
theorem Inv.mod (I:Inv X pins σ H s):Mod X.K X.mg X.base:=I.ok.mod
theorem Inv.kIn (I:Inv X pins σ H s):X.K.In s.heap:=I.ok.mod.kin.keeps I.bk
theorem Inv.lt (I:Inv X pins σ H s):X.env.locals < s.heap.objs.size:=let ⟨_,a,_⟩:=I.loc;a.lt
theorem Inv.sz (I:Inv X pins σ H s):X.s₀.heap.objs.size<=s.heap.objs.size:=Aw I.ok.above (Nat.le_of_lt I.lt)
theorem Inv.nofs (I:Inv X pins σ H s) (h:s.heap.objs.size<=a):a ∉ X.fs:=fun b=>by
 obtain ⟨_,o,c,_⟩:=I.ok.funs.mem b
 exact absurd (Ag (zW c) (Aw I.sz h)) (Nat.lt_irrefl _)
theorem Inv.cne (I:Inv X pins σ H s):∀ x c,X.env.cells.lookup x=some c->c ≠ X.env.locals:=fun x c e z=>by
 obtain ⟨v,o,d,hd⟩:=I.cell x c e
 obtain ⟨m,⟨o',es,f,a,b,_⟩,_⟩:=I.loc
 rw [z,a] at d;cases d;rw [b] at hd;cases hd
theorem Inv.funs (I:Inv X pins σ H s):s.heap.FunFrames X.base X.outer:=by
 have all:∀ (l:List Env),(∀ b ∈ frs l,b ∈ X.fs)->X.s₀.heap.FunFrames X.base l->s.heap.FunFrames X.base l:=by
  intro l
  induction l with
  | nil=>intro _ _;trivial
  | cons env r ih =>
   intro d j
   obtain ⟨f,⟨L,o,hf,g,i,hd⟩,h⟩:=j
   have c:L ∈ X.fs:=d L (by unfold frs;rw [List.filterMap_cons,hf];exact zO)
   obtain ⟨sl,e⟩:=I.base.slot L o i (I.ok.frf L c) c fun z=>I.ok.exfs L z c
   exact ⟨f,⟨L,_,hf,g,e,hd⟩,ih (fun b a=>d b (by unfold frs;rw [List.filterMap_cons,hf];exact zP _ a)) h⟩
 exact all X.outer (fun _ a=>a) I.ok.funs
theorem Inv.stack (I:Inv X pins σ H s):s.heap.FunFrames X.base X.stack:=by
 rcases I.ok.stk with e | ⟨e,hf⟩
 ·rw [e];exact I.funs
 ·rw [e]
  obtain ⟨m,a,_⟩:=I.loc
  refine .cons (by rw [I.ok.kind];decide) hf a ?_ I.funs
  exact Heap.get?_none_of_le (Aw I.ok.bsz I.ok.above)
theorem Inv.stkSub (I:Inv X pins σ H s):∀ b ∈ frs X.stack,b ∈ X.env.locals :: X.fs:=fun b a=>by
 rcases I.ok.stk with e | ⟨e,hf⟩
 ·rw [e] at a;exact zP _ a
 ·rw [e] at a
  unfold frs at a
  rw [List.filterMap_cons,hf] at a
  exact a
theorem Inv.stkFree (I:Inv X pins σ H s):∀ b ∈ frs X.stack,H b=none:=fun b a=>by
 rcases zU.mp (I.stkSub b a) with e | a
 ·rw [e];exact I.free
 ·obtain ⟨_,o,c,_⟩:=I.ok.funs.mem a
  exact I.base.free b o c (I.ok.frf b a) fun z=>I.ok.exfs b z a
theorem Inv.step {t':Nat} {ch:List Addr} (I:Inv X pins σ H s) (g:∀ b ∈ ch,(b ∈ X.ex\/X.s₀.heap.objs.size<=b)/\b ≠ X.env.locals/\(∀ x c,X.env.cells.lookup x=some c->c ≠ b)/\∀ p ∈ X.pn ++ pins,p.1 ≠ b) (keep:∀ b o,b ≠ X.env.locals->b ∉ X.fs->b ∉ ch->s.heap.get? b=some o->H b=none->h'.get? b=some o) (slot:∀ b o,b ≠ X.env.locals->b ∈ X.fs->b ∉ ch->s.heap.get? b=some o->H b=none->∃ sl,h'.get? b=some { o with slots:=sl }) (free:∀ b o,b ∉ ch->s.heap.get? b=some o->H b=none->H' b=none) (there:∀ b o,b ∉ ch->s.heap.get? b=some o->∃ o',h'.get? b=some o') (tups:∀ b xs,H b=some (.tup xs)->H' b=some (.tup xs)) (frzs:∀ b o u,H b=some (.frz o u)->H' b=some (.frz o u)) (tbls:∀ b ps,H b=some (.tbl ps)->∃ more,H' b=some (.tbl (ps ++ more))) (ns:∀ m,s.heap.Ns X.env.locals m->h'.Ns X.env.locals m) (hok:HOk X.prog X.w H' h') (F:AllBare g') :
  Inv X pins σ H' { s with heap:=h',gens:=g',drawn:=d',toks:=t' }:=by
 have y:∀ b o,X.s₀.heap.get? b=some o->b ≠ X.env.locals:=fun b o e=>Ab (Ag (zW e) I.ok.above)
 have h:∀ b o,X.s₀.heap.get? b=some o->b ∉ X.ex->b ∉ ch:=fun b o e a j=>by
  rcases (g b j).1 with z | z
  ·exact a z
  ·exact absurd (Ag (zW e) z) (Nat.lt_irrefl _)
 have cellK:∀ x c,X.env.cells.lookup x=some c->∀ v,s.heap.IsCell c v->h'.IsCell c v:=fun x c e v ⟨o,t,hd⟩=>by
  have f:c ∉ ch:=fun z=>(g c z).2.2.1 x c e rfl
  by_cases C:c ∈ X.fs
  ·obtain ⟨sl,q⟩:=slot c o (I.cne x c e) C f t (I.freeC x c e)
   exact ⟨_,q,hd⟩
  ·exact ⟨o,keep c o (I.cne x c e) C f t (I.freeC x c e),hd⟩
 refine ⟨I.ok,I.os,F,⟨fun b o e n j a=>?_,fun b o e n j a=>?_,fun b o e n a=>?_,fun b o e a=>?_,fun b xs e=>tups b xs (I.base.tups b xs e),fun b o xs e=>frzs b o xs (I.base.frzs b o xs e),fun b ps e=>?_⟩,?_,fun x c e=>?_,?_,fun x c e=>?_,fun p D=>?_,hok,I.len⟩
 ·exact keep b o (y b o e) j (h b o e a) (I.base.keep b o e n j a) (I.base.free b o e n a)
 ·obtain ⟨sl,e1⟩:=I.base.slot b o e n j a
  obtain ⟨B,A⟩:=slot b _ (y b o e) j (h b o e a) e1 (I.base.free b o e n a)
  exact ⟨B,A⟩
 ·obtain ⟨o',e1⟩:=I.base.there b o e a
  exact free b o' (h b o e a) e1 (I.base.free b o e n a)
 ·obtain ⟨o',e1⟩:=I.base.there b o e a
  exact there b o' (h b o e a) e1
 ·obtain ⟨K,e1⟩:=I.base.tbls b ps e
  obtain ⟨L,A⟩:=tbls b _ e1
  exact ⟨K ++ L,by rw [A,Array.append_assoc]⟩
 ·obtain ⟨m,G,J⟩:=I.loc
  refine ⟨m,ns m G,fun i x v e1 A M=>?_⟩
  obtain ⟨u,r,l⟩:=J i x v e1 A M
  refine ⟨u,r,?_⟩
  rcases l with l | ⟨k,c,e,z⟩
  ·exact .inl l
  ·exact .inr ⟨k,c,e,cellK x c e _ z⟩
 ·obtain ⟨v,z⟩:=I.cell x c e
  exact ⟨v,cellK x c e v z⟩
 ·obtain ⟨m,⟨o,_,_,t,_⟩,_⟩:=I.loc
  exact free _ o (fun z=>(g _ z).2.1 rfl) t I.free
 ·obtain ⟨v,o,t,hd⟩:=I.cell x c e
  exact free c o (fun z=>(g c z).2.2.1 x c e rfl) t (I.freeC x c e)
 ·obtain ⟨e,n,ne,E,d⟩:=I.pin p D
  have f:p.1 ∉ ch:=fun z=>(g p.1 z).2.2.2 p D rfl
  exact ⟨keep p.1 p.2 ne E f e n,free p.1 p.2 f e n,ne,E,d⟩
theorem Inv.un {t':Nat} (I:Inv X pins σ H s) (u:Un X.fs [] H H' s.heap h') (hok:HOk X.prog X.w H' h'):Inv X pins σ H' { s with heap:=h',toks:=t' }:=by
 obtain ⟨m,⟨o,es,j,g,r⟩,_⟩:=id I.loc
 obtain ⟨sl,i⟩:=u.any g I.free (by simp)
 exact I.step (g':=s.gens) (d':=s.drawn) (ch:=[]) (fun _ z=>nomatch z) (fun b o _ d _ e n=>u.keep b o e n d (by simp)) (fun b o _ d _ e n=>u.slot b o e n d (by simp)) (fun b o _ e n=>u.free b o e n (by simp)) (fun b o _ e=>u.there b o e (by simp)) u.tups u.frzs u.tbls (fun k hm=>by
  obtain ⟨o',c,f,a,h⟩:=hm
  rw [g] at a;cases a
  exact ⟨_,c,f,i,h⟩) hok I.bare
theorem Inv.call {t':Nat} (I:Inv X pins σ H s) (u:Un (frs X.stack) ch H H' s.heap h') (hok:HOk X.prog X.w H' h') (l:AllBare g') (f:∀ b ∈ ch,(b ∈ X.ex\/X.s₀.heap.objs.size<=b)/\b ≠ X.env.locals/\(∀ x c,X.env.cells.lookup x=some c->c ≠ b)/\∀ p ∈ X.pn ++ pins,p.1 ≠ b) :
  Inv X pins σ H' { s with heap:=h',gens:=g',drawn:=d',toks:=t' }:=by
 obtain ⟨m,⟨o,es,t,j,r⟩,_⟩:=id I.loc
 obtain ⟨sl,h⟩:=u.any j I.free fun z=>(f _ z).2.1 rfl
 exact I.step (ch:=ch) f (fun b o h k a e n=>u.keep b o e n (fun z=>(zU.mp (I.stkSub b z)).elim h k) a) (fun b o _ _ a e n=>u.any e n a) (fun b o a e n=>u.free b o e n a) (fun b o a e=>u.there b o e a) u.tups u.frzs u.tbls (fun v hm=>by
  obtain ⟨o',g,i,d,q⟩:=hm
  rw [j] at d;cases d
  exact ⟨_,g,i,h,q⟩) hok l
theorem Inv.turned {t':Nat} (I:Inv X pins σ H s) (k:∀ b o,b ≠ it->s.heap.get? b=some o->h'.get? b=some o) (i:H it=none) (f:it ≠ X.env.locals) (h1:it ∈ X.ex\/X.s₀.heap.objs.size<=it) (h2:∀ x c,X.env.cells.lookup x=some c->c ≠ it) (h3:∀ p ∈ X.pn ++ pins,p.1 ≠ it):Inv X pins σ H { s with heap:=h',toks:=t' }:=by
 have d:∀ b u,H b=some u->b ≠ it:=fun b u e z=>by rw [z,i] at e;cases e
 refine I.step (g':=s.gens) (d':=s.drawn) (ch:=[it]) (fun b h=>?_) (fun b o _ _ a e _=>k b o (fun z=>a (by simp [z])) e) (fun b o _ _ a e _=>⟨o.slots,k b o (fun z=>a (by simp [z])) e⟩) (fun _ _ _ _ n=>n)
  (fun b o a e=>⟨o,k b o (fun z=>a (by simp [z])) e⟩) (fun _ _ e=>e) (fun _ _ _ e=>e) (fun b ps e=>⟨#[],by rw [e];simp⟩) (fun m hm=>?_) (fun b u e=>?_) I.bare
 ·have e:b=it:=by simpa using h
  subst e
  exact ⟨h1,f,h2,h3⟩
 ·obtain ⟨o,es,g,j,r⟩:=hm
  exact ⟨o,es,g,k _ o (Ne.symm f) j,r⟩
 ·refine (I.hok b u e).stay (fun c v a q=>k c v ?_ q) (fun _ q=>q) fun _ _ q=>q
  rcases a with z | z
  ·rw [z];exact d b u e
  ·exact d c _ z
theorem Inv.tok (I:Inv X pins σ H s) (t:Nat):Inv X pins σ H { s with toks:=t }:=I.un (h':=s.heap) (t':=t) Un.refl I.hok
theorem Inv.kept {t':Nat} (I:Inv X pins σ H s) (k:∀ b u,s.heap.get? b=some u->h'.get? b=some u):Inv X pins σ H { s with heap:=h',toks:=t' }:=I.un (Un.kept k) (I.hok.kept k)
theorem Inv.laid {t':Nat} (I:Inv X pins σ H s) (k:∀ b u,s.heap.get? b=some u->h'.get? b=some u) (c:s.heap.objs.size<=a) (new:ObjOk X.prog X.w (upd H a o) h' a o) :
  Inv X pins σ (upd H a o) { s with heap:=h',toks:=t' }:=I.un (Un.laid k c (I.hok.fresh c)) (I.hok.laid k c new)
theorem Inv.write {t':Nat} (I:Inv X pins σ H s) (c:Mut (H x)) (he:e=x\/H e=some (.own x)) (k:∀ b u,b ≠ e->s.heap.get? b=some u->h'.get? b=some u) (a:∃ u,h'.get? e=some u) (new:ObjOk X.prog X.w (upd H x o) h' x o):Inv X pins σ (upd H x o) { s with heap:=h',toks:=t' }:=I.un (Un.write c he k a) (I.hok.write c he k a new)
theorem Inv.pins_of (I:Inv X pins σ H s) (h:∀ p ∈ pins',s.heap.get? p.1=some p.2/\H p.1=none/\p.1 ≠ X.env.locals/\p.1 ∉ X.fs/\∀ v,p.2.data ≠ .cell v):Inv X pins' σ H s :=
 ⟨I.ok,I.os,I.bare,I.base,I.loc,I.cell,I.free,I.freeC,fun p a=>(zX.mp a).elim (fun z=>I.pin p (zS _ z)) (h p),I.hok,I.len⟩
theorem mn {N:List Str} (c:N.Nodup) {i j:Nat} (a:N[i]?=some x) (b:N[j]?=some x):i=j:=by
 obtain ⟨h1,e1⟩:=z4.mp a
 obtain ⟨h2,d⟩:=z4.mp b
 exact (List.getElem_inj c).mp (e1.trans d.symm)
theorem kb {i:Nat} (I:Inv X pins σ H s) (hN:X.N.Nodup) (hi:X.N[i]?=some x) (t:Loc X.env.scope x) (r:RelV v u) (h:∀ s',Inv X pins (σ.set i (some v)) H s'->(∃ a,Heap.SameBut a s.heap s'.heap/\(a=X.env.locals\/X.env.cells.lookup x=some a))->Q () s') (hf:X.fn x=true\/X.env.scope.names.lookup x=some .local:=by first | exact .inl rfl | exact .inr rfl | assumption):wpAny M A (storeName X.env x u) Q E s:=by
 obtain ⟨m,V,hl⟩:=id I.loc
 have R:(X.env.scope.kind == .class || (X.env.scope.kind == .module && X.env.locals != X.env.globals))=false:=by rw [I.ok.kind];rfl
 have hiσ:i < σ.length:=by rw [I.len];exact (z4.mp hi).1
 have cne:=I.cne
 have g:∀ {a:Addr} {h':Heap},(∃ o,s.heap.get? a=some o/\H a=none)->Heap.SameBut a s.heap h'->HOk X.prog X.w H h':=fun {a h'} ha f b ob e=>by
  obtain ⟨_,_,B⟩:=ha
  refine (I.hok b ob e).stay (fun c T l q=>(f.2 c ?_).trans q) (fun _ q=>q) fun _ _ q=>q
  rintro rfl
  rcases l with rfl | l
  ·rw [B] at e;cases e
  ·rw [B] at l;cases l
 rcases t with D | D
 ·refine wpAny_storeName_local D V (fun h' U f=>?_) R
  obtain ⟨oL,_,_,Z,_⟩:=id V
  refine h _ ⟨I.ok,I.os,I.bare,⟨fun b o e n J t=>?_,fun b o e n J t=>?_,I.base.free,fun b o e t=>?_,I.base.tups,I.base.frzs,I.base.tbls⟩,⟨_,U,fun j y v' e1 C e3=>?_⟩,fun y c e=>?_,I.free,I.freeC,fun p W=>?_,g ⟨oL,Z,I.free⟩ f,by simpa using I.len⟩ ⟨_,f,.inl rfl⟩
  ·exact (f.2 b (Ab (Ag (zW e) I.ok.above))).trans (I.base.keep b o e n J t)
  ·obtain ⟨sl,e1⟩:=I.base.slot b o e n J t
   exact ⟨sl,(f.2 b (Ab (Ag (zW e) I.ok.above))).trans e1⟩
  ·obtain ⟨o',e1⟩:=I.base.there b o e t
   exact ⟨o',(f.2 b (Ab (Ag (zW e) I.ok.above))).trans e1⟩
  ·by_cases G:j=i
   ·subst G
    rw [hi] at e1;cases e1
    rw [List.getElem?_set_self hiσ] at C
    cases C
    exact ⟨u,r,.inl ⟨D,by simp⟩⟩
   ·rw [List.getElem?_set_ne (Ne.symm G)] at C
    obtain ⟨Y,r',q⟩:=hl j y v' e1 C e3
    refine ⟨Y,r',?_⟩
    rcases q with ⟨k,e⟩ | ⟨k,c,e,z⟩
    ·refine .inl ⟨k,?_⟩
     have:y ≠ x:=fun e=>G (mn hN e1 (e ▸ hi))
     simp [this,e]
    ·exact .inr ⟨k,c,e,z.sameBut f (cne y c e)⟩
  ·obtain ⟨T,z⟩:=I.cell y c e
   exact ⟨T,z.sameBut f (cne y c e)⟩
  ·obtain ⟨e,n,ne,nf,d⟩:=I.pin p W
   exact ⟨(f.2 p.1 ne).trans e,n,ne,nf,d⟩
 ·have F:X.fn x=true:=by
   rcases hf with z | z
   ·exact z
   ·rw [z] at D;cases D
  obtain ⟨c,l⟩:=I.ok.has x (.inl D)
  obtain ⟨T,z⟩:=I.cell x c l
  refine wpAny_storeName_cell I.ok.kind D l z (fun h' O f=>?_)
  obtain ⟨oc,L,K⟩:=id z
  refine h { s with heap:=h' } ⟨I.ok,I.os,I.bare,⟨fun b o e n J t=>?_,fun b o e n J t=>?_,I.base.free,fun b o e t=>?_,I.base.tups,I.base.frzs,I.base.tbls⟩,⟨m,V.sameBut f (Ne.symm (cne x c l)),fun j y v' e1 C e3=>?_⟩,fun y S e=>?_,I.free,I.freeC,fun p W=>?_,g ⟨oc,L,I.freeC x c l⟩ f,by simpa using I.len⟩ ⟨c,f,.inr l⟩
  ·exact (f.2 b (Ab (Ag (zW e) (I.ok.cab x c F l)))).trans (I.base.keep b o e n J t)
  ·obtain ⟨sl,e1⟩:=I.base.slot b o e n J t
   exact ⟨sl,(f.2 b (Ab (Ag (zW e) (I.ok.cab x c F l)))).trans e1⟩
  ·obtain ⟨o',e1⟩:=I.base.there b o e t
   exact ⟨o',(f.2 b (Ab (Ag (zW e) (I.ok.cab x c F l)))).trans e1⟩
  ·by_cases G:j=i
   ·subst G
    rw [hi] at e1;cases e1
    rw [List.getElem?_set_self hiσ] at C
    cases C
    exact ⟨u,r,.inr ⟨.inl D,c,l,O⟩⟩
   ·rw [List.getElem?_set_ne (Ne.symm G)] at C
    obtain ⟨Y,r',q⟩:=hl j y v' e1 C e3
    refine ⟨Y,r',?_⟩
    rcases q with q | ⟨k,S,e,z'⟩
    ·exact .inl q
    ·refine .inr ⟨k,S,e,z'.sameBut f ?_⟩
     rintro rfl
     exact G (mn hN e1 (I.ok.inj _ _ _ e l ▸ hi))
  ·by_cases P:S=c
   ·subst P;exact ⟨_,O⟩
   ·obtain ⟨w2,z2⟩:=I.cell y S e
    exact ⟨w2,z2.sameBut f P⟩
  ·obtain ⟨e,n,ne,nf,d⟩:=I.pin p W
   refine ⟨(f.2 p.1 ?_).trans e,n,ne,nf,d⟩
   intro q
   rw [q,L] at e
   have q':oc=p.2:=AC e
   exact d T (by rw [<- q'];exact K)
theorem lU {i:Nat} (I:Inv X pins σ H s) (a:X.N.Nodup) (hi:X.N[i]?=some x) (b:Loc X.env.scope x) (r:RelV v u) (h:∀ s',Inv X pins (σ.set i (some v)) H s'->Q () s') (hf:X.fn x=true\/X.env.scope.names.lookup x=some .local:=by first | exact .inl rfl | exact .inr rfl | assumption):wpAny M A (storeName X.env x u) Q E s :=
 kb I a hi b r (fun s' c _=>h s' c) hf
theorem Inv.call' (I:Inv X pins σ H s) (f:s'.os=s.os) (u:Un (frs X.stack) ch H H' s.heap s'.heap) (hok:HOk X.prog X.w H' s'.heap) (d:AllBare s'.gens) (a:∀ b ∈ ch,(b ∈ X.ex\/X.s₀.heap.objs.size<=b)/\b ≠ X.env.locals/\(∀ x c,X.env.cells.lookup x=some c->c ≠ b)/\∀ p ∈ X.pn ++ pins,p.1 ≠ b):Inv X pins σ H' s':=by
 obtain ⟨h',g',d',t',o'⟩:=s'
 have e:o'=s.os:=f
 subst e
 exact I.call (g':=g') (t':=t') (d':=d') u hok d a
end
abbrev XK:=Value->Option Addr->Hp->Prop
abbrev St:=List (Option V)
abbrev VK:=V->Hp->Prop
abbrev TE:=St->Hp->VK->Prop
abbrev TT:=St->Hp->(Bool->Hp->Prop)->Prop
abbrev TA:=St->Hp->(List V->Hp->Prop)->Prop
structure Ends where
 nx:St->Hp->Prop
 rt:VK
 bk:St->Hp->Prop:=fun _ _=>False
 ct:St->Hp->Prop:=fun _ _=>False
abbrev TS:=Ends->St->Hp->Prop
def EP (X:Cx) (pins:List (Addr × Obj)) (σ:St) (Q:VK) (u:Value) (s':Shared):Prop:=∃ v H',Inv X pins σ H' s'/\RelV v u/\Q v H'
def TP (X:Cx) (pins:List (Addr × Obj)) (σ:St) (Q:Bool->Hp->Prop) (b:Bool) (s':Shared):Prop:=∃ H',Inv X pins σ H' s'/\Q b H'
def AP (X:Cx) (pins:List (Addr × Obj)) (σ:St) (Q:List V->Hp->Prop) (us:List Value) (s':Shared):Prop:=∃ vs H',Inv X pins σ H' s'/\Vals vs us/\Q vs H'
def SP (X:Cx) (pins:List (Addr × Obj)) (D:Ends) (f:Flow) (s':Shared):Prop :=
 match f with
 | .next=>∃ σ' H',Inv X pins σ' H' s'/\D.nx σ' H'
 | .brk=>∃ σ' H',Inv X pins σ' H' s'/\D.bk σ' H'
 | .cont=>∃ σ' H',Inv X pins σ' H' s'/\D.ct σ' H'
 | .ret u=>∃ v σ' H',Inv X pins σ' H' s'/\RelV v u/\D.rt v H'
def PE (X:Cx) (e:Expr) (t:TE):Prop :=
 ∀ (pins:List (Addr × Obj)) (s:Shared) (σ:St) (H:Hp) (Q:VK),Inv X pins σ H s->t σ H Q->wpAny (model X.prog X.w) X.A (eval e X.env) (EP X pins σ Q) X.xe s
def PT (X:Cx) (e:Expr) (t:TT):Prop :=
 ∀ (pins:List (Addr × Obj)) (s:Shared) (σ:St) (H:Hp) (Q:Bool->Hp->Prop),Inv X pins σ H s->t σ H Q->wpAny (model X.prog X.w) X.A (isTrue e X.env (eval e X.env)) (TP X pins σ Q) X.xe s
def PW (X:Cx) (e:Expr) (t:TT):Prop :=
 ∀ (whole:Sem Value) (pins:List (Addr × Obj)) (s:Shared) (σ:St) (H:Hp) (Q:Bool->Hp->Prop),Inv X pins σ H s->t σ H Q->wpAny (model X.prog X.w) X.A (isTrue e X.env whole) (TP X pins σ Q) X.xe s
theorem PW.pt (h:PW X e t):PT X e t:=h _
def PA (X:Cx) (es:List Expr) (t:TA):Prop :=
 ∀ (pos:Pos) (pins:List (Addr × Obj)) (s:Shared) (σ:St) (H:Hp) (Q:List V->Hp->Prop),Inv X pins σ H s->t σ H Q->wpAny (model X.prog X.w) X.A (spliced (backTo pos (starEach es X.env))) (AP X pins σ Q) X.xe s
def PS (X:Cx) (st:Stmt) (t:TS):Prop :=
 ∀ (pins:List (Addr × Obj)) (s:Shared) (σ:St) (H:Hp) (D:Ends),Inv X pins σ H s->t D σ H->wpAny (model X.prog X.w) X.A (exec st X.env) (SP X pins D) X.xe s
def PSs (X:Cx) (st:List Stmt) (t:TS):Prop :=
 ∀ (pins:List (Addr × Obj)) (s:Shared) (σ:St) (H:Hp) (D:Ends),Inv X pins σ H s->t D σ H->wpAny (model X.prog X.w) X.A (execs st X.env) (SP X pins D) X.xe s
theorem thn (h:wpAny M A t Q E s) (b:∀ a s,Q a s->Q' a s):wpAny M A t Q' E s:=wpAny_mono h b fun _ _ x=>x
end L2
namespace L2
open PySem PySem.Spec PyProof.Rows
section
variable {X:Cx}
theorem bin (d:PE X a ta) (i:PE X b tb) {R:V->V->Hp->Prop} (I:Inv X pins σ H s) (h:ta σ H fun x H1=>tb σ H1 fun y H2=>R x y H2) {Q:α->Shared->Prop} {f:Value->Value->Sem α} (hf:∀ v u s2 x y H2,Inv X pins σ H2 s2->RelV x v->RelV y u->R x y H2->wpAny (model X.prog X.w) X.A (f v u) Q X.xe s2) :
  wpAny (model X.prog X.w) X.A (eval a X.env) (fun v l=>wpAny (model X.prog X.w) X.A (eval b X.env) (fun u n=>wpAny (model X.prog X.w) X.A (f v u) Q X.xe n) X.xe l) X.xe s:=by
 refine thn (d pins s σ H _ I h) fun v s1 ⟨x,H1,e,m,k⟩=>?_
 refine thn (i pins s1 σ H1 _ e k) fun u s2 ⟨y,H2,g,c,j⟩=>?_
 exact hf v u s2 x y H2 g m c j
def p9 (i:Nat):TE:=fun σ H Q=>∃ v,σ[i]?=some (some v)/\Q v H
def tC (v:V):TE:=fun _ H Q=>Q v H
theorem kZ {i:Nat} (k:X.N[i]?=some x) (g:Vis X.env.scope x) (hd:(x == ("__debug__":Str))=false:=by decide) (d:(x == ("__classdict__":Str))=false:=by decide):PE X (.Name x pos) (p9 i):=by
 intro pins s σ H Q I h
 obtain ⟨v,e,h⟩:=h
 obtain ⟨m,j,n⟩:=I.loc
 obtain ⟨u,r,l⟩:=n i x v k e g
 have fin:EP X pins σ Q u s:=⟨v,H,I,r,h⟩
 rcases l with ⟨b,hm⟩ | ⟨b,c,f,a⟩
 ·exact wpAny_Name (wpAny_loadName_local I.ok.kind b j hm fin) hd
 ·rcases b with b | b
  ·exact wpAny_Name (wpAny_loadName_cell I.ok.kind b f a fin) hd
  ·exact wpAny_Name (wpAny_loadName_free I.ok.kind b f a fin d) hd
theorem sM:PE X (.Constant (.int i) j pos) (tC (.int i)):=fun _ _ _ H _ I h=>wpAny_Constant_int ⟨.int i,H,I.tok _,⟨_,rfl⟩,h⟩
theorem pe_bl:PE X (.Constant (.bool b) j pos) (tC (.bl b)):=fun _ _ _ H _ I h=>Constant_bool ⟨.bl b,H,I,rfl,h⟩
theorem yH:PE X (.Constant .none j pos) (tC .non):=fun _ _ _ H _ I h=>Constant_none ⟨.non,H,I,rfl,h⟩
theorem sK:PE X (.Constant (.str x) j pos) (tC (.str x)):=fun _ _ _ H _ I h=>Calls.Constant_str ⟨.str x,H,I.tok _,⟨_,rfl⟩,h⟩
def Gl (X:Cx) (x:Str):Prop:=X.env.kindOf x=some .globalImplicit
theorem pA (I:Inv X pins σ H s) (a:Gl X x) (hm:X.mg x=some u) (h:Q u s) (hd:(x == ("__debug__":Str))=false:=by decide):wpAny (model X.prog X.w) X.A (eval (.Name x pos) X.env) Q E s :=
 Calls.Name_function_global I.ok.kind a (Calls.loadGlobal_global (by rw [I.ok.glob];exact I.mod.glob.keeps I.bk) hm h) hd
theorem fV (I:Inv X pins σ H s) (b:Gl X x) (hm:X.mg x=none) (a:bootBuiltins x=some u) (h:Q u s) (c:x ≠ "__name__":=by decide) (hd:(x == ("__debug__":Str))=false:=by decide):wpAny (model X.prog X.w) X.A (eval (.Name x pos) X.env) Q E s:=by
 obtain ⟨mb,h1,h2⟩:=I.mod.blt
 exact Calls.Name_function_global I.ok.kind b (Calls.loadGlobal_builtin (by rw [I.ok.glob];exact I.mod.glob.keeps I.bk) hm (by rw [I.ok.blt];exact h1.keeps I.bk) ((h2 x c).trans a) h) hd
theorem vE (a:Gl X x) (hm:X.mg x=some u) (r:RelV v u) (hd:(x == ("__debug__":Str))=false:=by decide):PE X (.Name x pos) (tC v) :=
 fun _ _ _ H _ I h=>pA I a hm ⟨v,H,I,r,h⟩ hd
theorem k4 (b:Gl X x) (hm:X.mg x=none) (a:bootBuiltins x=some u) (r:RelV v u) (c:x ≠ "__name__":=by decide) (hd:(x == ("__debug__":Str))=false:=by decide):PE X (.Name x pos) (tC v) :=
 fun _ _ _ H _ I h=>fV I b hm a ⟨v,H,I,r,h⟩ c hd
variable {a b:Expr} {ta tb:TE} {pos:Pos}
def PC (X:Cx) (op:CmpOp) (a b:Expr) (t:TE):Prop :=
 ∀ (pins:List (Addr × Obj)) (s:Shared) (σ:St) (H:Hp) (Q:VK),Inv X pins σ H s->t σ H Q ->
  wpAny (model X.prog X.w) X.A (eval a X.env) (fun v c=>wpAny (model X.prog X.w) X.A (eval b X.env) (fun u d=>wpAny (model X.prog X.w) X.A (compareOp op v u) (EP X pins σ Q) X.xe d) X.xe c) X.xe s
def tB (t:TE):TT:=fun σ H Q=>t σ H fun x H1=>∃ c,x=.bl c/\Q c H1
theorem yx (h:PE X e t) (he:∀ whole,isTrue e X.env whole=(do let v <- whole;standAt e.pos;holding [v] (truthy v)):=by intro _;rfl):PT X e (tB t):=by
 intro pins s σ H Q I hw
 refine isTrue_plain (thn (h pins s σ H _ I hw) fun v s1 ⟨x,H1,a,c,b⟩=>?_) (he _)
 obtain ⟨d,rfl,q⟩:=b
 cases c
 exact Av ⟨H1,a,q⟩
variable {tA tB':TT} {eW:List Expr}
def tOr (t u:TT):TT:=fun σ H Q=>t σ H fun c H1=>if c=true then Q true H1 else u σ H1 Q
def tNot (t:TT):TT:=fun σ H Q=>t σ H fun c H1=>Q (!c) H1
theorem yw (b:PT X a tA):PW X (.BoolOp .Or [a] pos) tA:=by
 intro wh pins s σ H Q I h
 refine isTrue_or (thn (b pins s σ H Q I h) fun c s1 e=>?_)
 cases c with
 | false=>exact isTrue_or_nil e
 | true=>exact e
theorem pw_or (f:PT X a tA) (g:PW X (.BoolOp .Or (b :: eW) pos) tB'):PW X (.BoolOp .Or (a :: b :: eW) pos) (tOr tA tB'):=by
 intro wh pins s σ H Q I h
 refine isTrue_or (thn (f pins s σ H _ I h) fun c s1 ⟨H1,d,e⟩=>?_)
 cases c with
 | true=>exact ⟨H1,d,e⟩
 | false=>exact g wh pins s1 σ H1 Q d e
theorem yy (b:PT X a tA):PT X (.UnaryOp .Not a pos) (tNot tA):=by
 intro pins s σ H Q I h
 exact isTrue_not (b pins s σ H (fun c H1=>Q (!c) H1) I h)
def wM (ta tb:TE):TE:=fun σ H Q=>ta σ H fun x H1=>∃ c,x=.bl c/\if c=true then tb σ H1 Q else Q (.bl false) H1
def tOrV (ta tb:TE):TE:=fun σ H Q=>ta σ H fun x H1=>∃ c,x=.bl c/\if c=true then Q (.bl true) H1 else tb σ H1 Q
def wF (ta:TE):TE:=fun σ H Q=>ta σ H fun x H1=>∃ c,x=.bl c/\Q (.bl (!c)) H1
theorem yF (h:PE X a t):PE X (.BoolOp op [a] pos) t:=fun pins s σ H Q I hw=>BoolOp_one (h pins s σ H Q I hw)
theorem yK (f:PE X a ta) (g:PE X (.BoolOp .And (b :: eW) pos) tb):PE X (.BoolOp .And (a :: b :: eW) pos) (wM ta tb):=by
 intro pins s σ H Q I h
 refine BoolOp_and (thn (f pins s σ H _ I h) fun v s1 ⟨x,H1,e,i,d⟩=>?_)
 obtain ⟨c,rfl,d⟩:=d
 cases i
 refine Av ?_
 cases c with
 | true=>exact g pins s1 σ H1 Q e d
 | false=>exact ⟨.bl false,H1,e,rfl,d⟩
theorem pe_or (f:PE X a ta) (g:PE X (.BoolOp .Or (b :: eW) pos) tb):PE X (.BoolOp .Or (a :: b :: eW) pos) (tOrV ta tb):=by
 intro pins s σ H Q I h
 refine BoolOp_or (thn (f pins s σ H _ I h) fun v s1 ⟨x,H1,e,i,d⟩=>?_)
 obtain ⟨c,rfl,d⟩:=d
 cases i
 refine Av ?_
 cases c with
 | false=>exact g pins s1 σ H1 Q e d
 | true=>exact ⟨.bl true,H1,e,rfl,d⟩
theorem yG (d:PE X a ta):PE X (.UnaryOp .Not a pos) (wF ta):=by
 intro pins s σ H Q I h
 refine UnaryOp_ (thn (d pins s σ H _ I h) fun v s1 ⟨x,H1,e,f,b⟩=>?_)
 obtain ⟨c,rfl,b⟩:=b
 cases f
 exact not_of (Av ⟨.bl (!c),H1,e,rfl,b⟩)
end
end L2
namespace L2
open PySem PySem.Spec PyProof.Rows
def SqL (K:FG) (H:Hp) (a:Addr) (xs:List V):Prop :=
 Rd H a (.lst xs) \/
  ∃ (o:Obj) (b:Array Value) (n:Nat),K.lookup a=some o/\o.cls=.type "list"/\o.dict=none/\o.data=.seq b n/\b.size<=sizeLine/\Vals xs b.toList
def SqT (K:FG) (H:Hp) (a:Addr) (xs:List V):Prop :=
 Rd H a (.tup xs) \/
  ∃ (o:Obj) (b:Array Value) (n:Nat),K.lookup a=some o/\o.cls=.type "tuple"/\o.data=.seq b n/\b.size<=sizeLine/\Vals xs b.toList
def absV:Value->Option V
 | .none=>some .non
 | .bool b=>some (.bl b)
 | .int i _=>some (.int i)
 | .str x _=>some (.str x)
 | .bytes b _=>some (.byt b)
 | .float b _=>some (.flt b)
 | .ref a=>some (.ref a)
 | .type n=>some (.ty n)
 | _=>none
theorem RelV.abs (r:RelV x u):absV u=some x:=by
 cases x with
 | non=>cases r;rfl
 | bl _=>cases r;rfl
 | int _=>obtain ⟨t,rfl⟩:=r;rfl
 | str _=>obtain ⟨t,rfl⟩:=r;rfl
 | byt _=>obtain ⟨t,rfl⟩:=r;rfl
 | flt _=>obtain ⟨t,rfl⟩:=r;rfl
 | ref _=>cases r;rfl
 | ty _=>cases r;rfl
theorem RelV.inj (r:RelV x u) (q:RelV y u):x=y:=AC (r.abs.symm.trans q.abs)
theorem Vals.inj:∀ {xs ys:List V} {us:List Value},Vals xs us->Vals ys us->xs=ys
 | _,_,_,.nil,.nil=>rfl
 | _,_,_,.cons r t,.cons r' t'=>by rw [r.inj r',Vals.inj t t']
section
variable {X:Cx} {pins:List (Addr × Obj)} {σ:St} {H:Hp} {s:Shared} {a:Addr} {xs ys:List V}
theorem SqL.of {K:FG} (h:H a=some (.lst xs)):SqL K H a xs:=.inl (.inl h)
theorem SqT.of {K:FG} (h:H a=some (.tup xs)):SqT K H a xs:=.inl (.inl h)
theorem Inv.list (I:Inv X pins σ H s) (h:SqL X.K H a xs):∃ b:List Value,Vals xs b/\PlainL s.heap a b.toArray/\xs.length<=sizeLine:=by
 rcases h with h | ⟨o,b,n,f,d,hd,c,hz,r⟩
 ·obtain ⟨z,b,n,r,e⟩:=h.ok I.hok
  exact ⟨b,r,⟨_,n,e,rfl,rfl,rfl⟩,z⟩
 ·refine ⟨b.toList,r,⟨o,n,I.kIn a o f,d,hd,by simpa using c⟩,?_⟩
  have e:=r.length
  simp only [Array.length_toList] at e
  omega
theorem Inv.tuple (I:Inv X pins σ H s) (h:SqT X.K H a xs):∃ b:List Value,Vals xs b/\IsTup s.heap a b.toArray/\xs.length<=sizeLine:=by
 rcases h with h | ⟨o,b,n,f,d,c,hz,r⟩
 ·obtain ⟨z,b,r,p⟩:=h.ok I.hok
  exact ⟨b,r,p.tup,z⟩
 ·refine ⟨b.toList,r,⟨o,I.kIn a o f,d,n,by simpa using c⟩,?_⟩
  have e:=r.length
  simp only [Array.length_toList] at e
  omega
theorem Inv.list_inj (I:Inv X pins σ H s) (h:SqL X.K H a xs) (h':SqL X.K H a ys):xs=ys:=by
 obtain ⟨b,r,⟨o,n,e,_,_,d⟩,_⟩:=I.list h
 obtain ⟨its',f,⟨o',g,c,_,_,d'⟩,_⟩:=I.list h'
 rw [e] at c;cases c
 rw [d] at d'
 injection d' with d1 _
 have:b=its':=by simpa using congrArg Array.toList d1
 subst this
 exact r.inj f
theorem Inv.tuple_inj (I:Inv X pins σ H s) (h:SqT X.K H a xs) (h':SqT X.K H a ys):xs=ys:=by
 obtain ⟨b,r,⟨o,e,_,n,d⟩,_⟩:=I.tuple h
 obtain ⟨its',f,⟨o',c,_,g,d'⟩,_⟩:=I.tuple h'
 rw [e] at c;cases c
 rw [d] at d'
 injection d' with d1 _
 have:b=its':=by simpa using congrArg Array.toList d1
 subst this
 exact r.inj f
end
abbrev Cx.wish (X:Cx) (E:Value->Shared->Prop):Cx:={ X with xe:=E }
abbrev Cx.nox (X:Cx):Cx:=X.wish fun _ _=>False
theorem Cx.Ok.wish {X:Cx} (ok:X.Ok) (E:Value->Shared->Prop):(X.wish E).Ok :=
 ⟨ok.mod,ok.kind,ok.glob,ok.blt,ok.above,ok.inj,ok.has,ok.cab,ok.hd,ok.frames,ok.stk,ok.exf,ok.bs,ok.bsz,ok.noex,ok.exfs,ok.funs,ok.frf⟩
theorem Cx.Ok.unwish {X:Cx} (ok:(X.wish E).Ok):X.Ok :=
 ⟨ok.mod,ok.kind,ok.glob,ok.blt,ok.above,ok.inj,ok.has,ok.cab,ok.hd,ok.frames,ok.stk,ok.exf,ok.bs,ok.bsz,ok.noex,ok.exfs,ok.funs,ok.frf⟩
section
variable {X:Cx} {pins:List (Addr × Obj)} {σ:St} {H:Hp} {s:Shared} {E:Value->Shared->Prop}
theorem Inv.wish (I:Inv X pins σ H s) (E:Value->Shared->Prop):Inv (X.wish E) pins σ H s:=⟨I.ok.wish E,I.os,I.bare,I.base,I.loc,I.cell,I.free,I.freeC,I.pin,I.hok,I.len⟩
theorem Inv.unwish (I:Inv (X.wish E) pins σ H s):Inv X pins σ H s:=⟨I.ok.unwish,I.os,I.bare,I.base,I.loc,I.cell,I.free,I.freeC,I.pin,I.hok,I.len⟩
theorem SP.unwish (h:SP (X.wish E) pins D f s'):SP X pins D f s':=by
 cases f with
 | next=>obtain ⟨σ',H',I,q⟩:=h;exact ⟨σ',H',I.unwish,q⟩
 | brk=>obtain ⟨σ',H',I,q⟩:=h;exact ⟨σ',H',I.unwish,q⟩
 | cont=>obtain ⟨σ',H',I,q⟩:=h;exact ⟨σ',H',I.unwish,q⟩
 | ret u=>obtain ⟨v,σ',H',I,r,q⟩:=h;exact ⟨v,σ',H',I.unwish,r,q⟩
theorem PSs.nox {st:List Stmt} (h:PSs X.nox st t):PSs X st t:=fun pins s σ H D I hw =>
 wpAny_mono (h pins s σ H D (I.wish _) hw) (fun _ _ q=>q.unwish) fun _ _ z=>False.elim z
end
section
variable {X:Cx} {st:Stmt} {eW:List Stmt} {t u:TS} {e:Expr} {te:TE} {pos:Pos}
def wG:TS:=fun D σ H=>D.nx σ H
def tSeq (t u:TS):TS:=fun D σ H=>t { D with nx:=u D } σ H
theorem vw:PSs X [] wG:=fun _ _ σ H _ I h=>wpAny_execs_nil ⟨σ,H,I,h⟩
theorem sD (h1:PS X st t) (h2:PSs X eW u):PSs X (st :: eW) (tSeq t u):=by
 intro pins s σ H D I h
 refine wpAny_execs_cons (thn (h1 pins s σ H { D with nx:=u D } I h) fun f s1 q=>?_)
 cases f with
 | next =>
  obtain ⟨σ',H',a,q⟩:=q
  exact h2 pins s1 σ' H' D a q
 | ret v=>exact q
 | brk=>exact q
 | cont=>exact q
theorem vv (h1:PS X st t):PSs X [st] t:=by
 intro pins s σ H D I h
 refine wpAny_execs_cons (thn (h1 pins s σ H D I h) fun f s1 q=>?_)
 cases f with
 | next=>exact wpAny_execs_nil q
 | ret v=>exact q
 | brk=>exact q
 | cont=>exact q
theorem Inv.quiet (I:Inv X pins σ H s):interactive X.env=false:=by simp [interactive,I.ok.kind]
def wI (te:TE):TS:=fun D σ H=>te σ H fun _ H1=>D.nx σ H1
theorem vz (he:PE X e te) (a:swapsWith e none pos.line X.env=pure false:=by rfl):PS X (.Expr e pos) (wI te):=by
 intro pins s σ H D I h
 exact wpAny_Expr_any (thn (he pins s σ H _ I h) fun v s1 ⟨x,H1,b,d,c⟩=>⟨σ,H1,b,c⟩) I.quiet a
def tRet (te:TE):TS:=fun D σ H=>te σ H D.rt
theorem yA (he:PE X e te):PS X (.Return (some e) pos) (tRet te):=by
 intro pins s σ H D I h
 exact wpAny_Return_some (thn (he pins s σ H _ I h) fun v s1 ⟨x,H1,a,b,c⟩=>⟨x,σ,H1,a,b,c⟩)
def tIfS (c:TT) (t u:TS):TS:=fun D σ H=>c σ H fun b H1=>if b=true then t D σ H1 else u D σ H1
theorem ps_if (i:PT X c tc) (g:PSs X a t) (j:PSs X b u):PS X (.If c a b pos) (tIfS tc t u):=by
 intro pins s σ H D I h
 refine wpAny_If (thn (i pins s σ H _ I h) fun d s1 ⟨H1,e,f⟩=>?_)
 cases d with
 | true=>exact g pins s1 σ H1 D e f
 | false=>exact j pins s1 σ H1 D e f
def xA:TS:=fun _ _ _=>False
theorem sF:PS X st xA:=fun _ _ _ _ _ _ h=>h.elim
end
abbrev TG:=V->St->Hp->(St->Hp->Prop)->Prop
abbrev TGs:=List V->St->Hp->(St->Hp->Prop)->Prop
def PG (X:Cx) (target:Expr) (t:TG):Prop :=
 ∀ (pins:List (Addr × Obj)) (s:Shared) (σ:St) (H:Hp) (v:V) (u:Value) (Q:St->Hp->Prop),Inv X pins σ H s->RelV v u->t v σ H Q ->
  wpAny (model X.prog X.w) X.A (assign target X.env u) (fun _ s'=>∃ σ' H',Inv X pins σ' H' s'/\Q σ' H') X.xe s
def PGs (X:Cx) (ts:List Expr) (t:TGs):Prop :=
 ∀ (pins:List (Addr × Obj)) (s:Shared) (σ:St) (H:Hp) (vs:List V) (us:List Value) (Q:St->Hp->Prop),Inv X pins σ H s->Vals vs us->t vs σ H Q ->
  wpAny (model X.prog X.w) X.A (assignInOrder ((assignEach ts X.env).map (·.2)) us) (fun _ s'=>∃ σ' H',Inv X pins σ' H' s'/\Q σ' H') X.xe s
abbrev zK:=V->V->V->Hp->(Hp->Prop)->Prop
def uo (X:Cx) (t:zK):Prop :=
 ∀ (pins:List (Addr × Obj)) (s:Shared) (σ:St) (H:Hp) (o i v:V) (ov a u:Value) (Q:Hp->Prop),Inv X pins σ H s->RelV o ov->RelV i a->RelV v u->t o i v H Q ->
  wpAny (model X.prog X.w) X.A (setItem ov a u) (fun _ s'=>∃ H',Inv X pins σ H' s'/\Q H') X.xe s
section
variable {X:Cx} {pos:Pos}
def pI (i:Nat):TG:=fun v σ H Q=>Q (σ.set i (some v)) H
theorem gq {i:Nat} (a:X.N.Nodup) (hi:X.N[i]?=some x) (b:Loc X.env.scope x) (hf:X.fn x=true\/X.env.scope.names.lookup x=some .local:=by first | exact .inl rfl | exact .inr rfl | assumption):PG X (.Name x pos) (pI i):=by
 intro pins s σ H v u Q I r h
 exact wpAny_assign_Name (lU I a hi b r (fun s' c=>⟨_,H,c,h⟩) hf)
def gNil:TGs:=fun vs σ H Q=>vs=[]/\Q σ H
def xc (t:TG) (u:TGs):TGs:=fun vs σ H Q=>∃ v r,vs=v :: r/\t v σ H fun σ' H'=>u r σ' H' Q
theorem pd:PGs X [] gNil:=by
 intro pins s σ H vs us Q I r h
 obtain ⟨e,h⟩:=h
 subst e
 cases r
 exact assignInOrder_nil ⟨σ,H,I,h⟩
theorem jx (h1:PG X e t) (h2:PGs X es u) (a:(assignEach (e :: es) X.env).map (·.2)=assign e X.env :: (assignEach es X.env).map (·.2):=by rfl):PGs X (e :: es) (xc t u):=by
 intro pins s σ H vs us Q I r h
 obtain ⟨v,d,e1,h⟩:=h
 subst e1
 cases r with
 | cons r rr =>
  rw [a]
  refine assignInOrder_cons (thn (h1 pins s σ H _ _ _ I r h) fun _ s1 ⟨σ1,H1,b,c⟩=>?_)
  exact h2 pins s1 σ1 H1 _ _ Q b rr c
def gTup (K:FG) (n:Nat) (t:TGs):TG:=fun v σ H Q=>∃ a xs,v=.ref a/\SqT K H a xs/\xs.length=n/\t xs σ H Q
theorem sJ {k:Nat} {n:Nat} (g:X.calm=true) (h:PGs X es t) (j:(assignEach es X.env).length=n:=by rfl) (c:(assignEach es X.env).findIdx? (·.1)=none:=by rfl):PG X (.Tuple es k pos) (gTup X.K n t):=by
 intro pins s σ H v u Q I r hw
 obtain ⟨a,xs,e1,q,p,hw⟩:=hw
 subst e1
 cases r
 obtain ⟨m,d,i,hz⟩:=I.tuple q
 refine assign_Tuple_tuple (I.ok.hd g) i (by simp [j,<- p,d.length]) c fun h' l=>?_
 have f:Inv X pins σ H { s with heap:=h' }:=I.kept (t':=s.toks) fun b o e=>l b o (Ab (zW e)) e
 exact h pins _ σ H xs _ Q f (by simpa using d) hw
def gSub (to a:TE) (t:zK):TG:=fun v σ H Q=>to σ H fun o H1=>a σ H1 fun i H2=>t o i v H2 fun b=>Q σ b
theorem yD (n:PE X o to) (hi:PE X i ti) (b:uo X t) (d:∀ v,assign (.Subscript o i pos) X.env v=(do
   let ov <- holding [v] (eval o X.env)
   let a <- holding [v,ov] (eval i X.env)
   standAt pos
   holding [v,ov,a] (setItem ov a v)
   release [v,ov,a] []):=by intro _;rfl):PG X (.Subscript o i pos) (gSub to ti t):=by
 intro pins s σ H v u Q I r h
 rw [d]
 refine zL (zN (thn (n pins s σ H _ I h) fun ov s1 ⟨x,H1,e,p,k⟩=>?_))
 refine zL (zN (thn (hi pins s1 σ H1 _ e k) fun a s2 ⟨y,H2,f,c,j⟩=>?_))
 refine zL (wpAny_standAt (zL (zN (thn (b pins s2 σ H2 x y v ov a u _ f p c r j) fun _ s3 ⟨m,g,l⟩=>?_))))
 exact wpAny_release ⟨σ,m,g,l⟩
def rJ (te:TE) (g:TG):TS:=fun D σ H=>te σ H fun x H1=>g x σ H1 D.nx
theorem sG (he:PE X e te) (c:PG X tg g) (a:swapsWithSole [tg] e pos.line X.env=pure false:=by rfl) (hw:swappedStores [tg] e X.env=pure none:=by rfl) (h1:(assignEach [tg] X.env).map (·.2)=[assign tg X.env]:=by rfl):PS X (.Assign [tg] e pos) (rJ te g):=by
 intro pins s σ H D I h
 refine wpAny_Assign_stores (thn (he pins s σ H _ I h) fun v s1 ⟨x,H1,b,f,d⟩=>?_) a hw
 rw [h1]
 exact thn (c pins s1 σ H1 x v _ b f d) fun _ s2 q=>q
theorem yz {i:Nat} (f:X.N.Nodup) (hi:X.N[i]?=some x) (g:Loc X.env.scope x) (he:PE X e te) (a:swapsWith e (some (.Name x pos')) pos.line X.env=pure false:=by rfl) (hf:X.fn x=true\/X.env.scope.names.lookup x=some .local:=by first | exact .inl rfl | exact .inr rfl | assumption) :
  PS X (.Assign [.Name x pos'] e pos) (rJ te (pI i)):=by
 intro pins s σ H D I h
 refine wpAny_Assign_Name (thn (he pins s σ H _ I h) fun v s1 ⟨y,H1,b,j,d⟩=>?_) a
 exact lU b f hi g j (fun s2 c=>⟨_,H1,c,d⟩) hf
end
section
variable {X:Cx} {pos:Pos}
def rD (c:TT) (tb:TS):TS:=fun D σ H=>∃ W:Nat->St->Hp->Prop,(∃ m,W m σ H)/\∀ m σ H,W m σ H ->
 c σ H fun b H1=>if b=true then ∃ N:St->Hp->Prop,(∀ σ' H',N σ' H'->∃ a,a < m/\W a σ' H')/\tb { D with nx:=N,ct:=N,bk:=D.nx } σ H1 else D.nx σ H1
theorem sE (m:PassesOwn (model X.prog X.w) X.A X.env X.xe) (q:PT X c tc) (r:PSs X body tb):PS X (.While c body [] pos) (rD tc tb):=by
 intro pins s σ H D I h
 obtain ⟨W,⟨m0,p⟩,turn⟩:=h
 refine wpAny_While (codeAny_whileLoop (fun n s'=>∃ σ' H',Inv X pins σ' H' s'/\W n σ' H') ?_ m0 ⟨σ,H,I,p⟩)
 rintro n s1 ⟨σ1,H1,u,t⟩
 refine wpAny_passesOwn m (thn (q pins s1 σ1 H1 _ u (turn n σ1 H1 t)) fun b s2 ⟨H2,o,e⟩=>?_)
 cases b with
 | true =>
  obtain ⟨N,l,e⟩:=e
  rw [if_pos rfl]
  refine wpAny_passesOwn m (thn (r pins s2 σ1 H2 _ o e) fun f s3 d=>?_)
  cases f with
  | next =>
   obtain ⟨σ3,a,g,i⟩:=d
   obtain ⟨j,hm,k⟩:=l σ3 a i
   exact ⟨j,hm,σ3,a,g,k⟩
  | cont =>
   obtain ⟨σ3,a,g,i⟩:=d
   obtain ⟨j,hm,k⟩:=l σ3 a i
   exact ⟨j,hm,σ3,a,g,k⟩
  | brk=>exact d
  | ret v=>exact d
 | false =>
  rw [if_neg Aa]
  exact wpAny_execs_nil ⟨σ1,H2,o,e⟩
end
structure It where
 go:Nat->Hp->Prop
 yld:Nat->Hp->V->Hp->Prop
 stop:Nat->Hp->Prop
def FpOk (X:Cx) (pins:List (Addr × Obj)) (H:Hp) (b:Addr):Prop :=
 H b=none/\b ≠ X.env.locals/\b ∉ X.fs/\(b ∈ X.ex\/X.s₀.heap.objs.size<=b)/\(∀ x c,X.env.cells.lookup x=some c->c ≠ b)/\∀ p ∈ X.pn ++ pins,p.1 ≠ b
theorem Inv.fpOk (I:Inv X pins σ H s) (a:s.heap.objs.size<=b) (f:H' b=none):FpOk X pins H' b:=by
 refine ⟨f,Nat.ne_of_gt (Ag I.lt a),I.nofs a,.inr (Aw I.sz a),fun x c e z=>?_,fun p d z=>?_⟩
 ·obtain ⟨v,q⟩:=I.cell x c e
  exact absurd (Ag q.lt (by rw [z];exact a)) (Nat.lt_irrefl _)
 ·exact absurd (Ag (zW (I.pin p d).1) (by rw [z];exact a)) (Nat.lt_irrefl _)
structure Turn (P:Program) (w:World) (K:FG) (tg:Expr) (J:It) (fp:List Addr) (it:Addr) (tn:Nat->Heap->Prop):Prop where
 mem:it ∈ fp
 obj:∀ i h,tn i h->∀ b ∈ fp,∃ o,h.get? b=some o/\∀ v,o.data ≠ .cell v
 keep:∀ i h h',tn i h->(∀ b ∈ fp,∀ o,h.get? b=some o->h'.get? b=some o)->tn i h'
 item:∀ (X:Cx),X.prog=P->X.w=w->X.K=K->X.calm=true->∀ (i:Nat) (pins:List (Addr × Obj)) (s:Shared) (σ:St) (H:Hp) (E:Value->Shared->Prop),Inv X pins σ H s->(∀ b ∈ fp,FpOk X pins H b)->tn i s.heap->J.go i H ->
  wpAny (model P w) X.A (pyNext (.ref it)) (fun r s1=>∃ u,r=some u /\
   wpAny (model P w) X.A (letOwnedTupleGo tg (.ref it) u) (fun _ s2=>∃ x H',Inv X pins σ H' s2/\RelV x u/\J.yld i H x H'/\tn (i+1) s2.heap/\∀ b ∈ fp,H' b=none) E s1) E s
 done:∀ (X:Cx),X.prog=P->X.w=w->X.K=K->X.calm=true->∀ (i:Nat) (pins:List (Addr × Obj)) (s:Shared) (σ:St) (H:Hp) (E:Value->Shared->Prop),Inv X pins σ H s->(∀ b ∈ fp,FpOk X pins H b)->tn i s.heap->J.stop i H ->
  wpAny (model P w) X.A (pyNext (.ref it)) (fun r s1=>r=none/\Inv X pins σ H s1) E s
 self:∀ (A:Around) (i:Nat) (s:Shared) (Q:Value->Shared->Prop) (E:Value->Shared->Prop),tn i s.heap->Q (.ref it) s->wpAny (model P w) A (pyIter (.ref it)) Q E s
abbrev TI:=St->Hp->(It->Hp->Prop)->Prop
def PIE (X:Cx) (pins:List (Addr × Obj)) (σ:St) (tg:Expr) (R:It->Hp->Prop) (a:Value) (s2:Shared):Prop :=
 ∃ (it:Addr) (fp:List Addr) (tn:Nat->Heap->Prop) (J:It) (H':Hp),a=.ref it/\Inv X pins σ H' s2/\Turn X.prog X.w X.K tg J fp it tn/\tn 0 s2.heap/\(∀ b ∈ fp,FpOk X pins H' b)/\R J H'
def PI (X:Cx) (tg iter:Expr) (a:TI):Prop :=
 ∀ (pins:List (Addr × Obj)) (s:Shared) (σ:St) (H:Hp) (R:It->Hp->Prop),Inv X pins σ H s->a σ H R ->
  wpAny (model X.prog X.w) X.A (eval iter X.env) (fun v s1=>wpAny (model X.prog X.w) X.A (pyIter v) (PIE X pins σ tg R) X.xe s1) X.xe s
theorem tK (c : s.heap.get? it = some o) (b : o.cls = .type n) (hd : o.data = .fields vs) (d : ["enumerate", "zip", "dict_itemiterator", "dict_reverseitemiterator", "odict_iterator", "itertools.zip_longest", "itertools.pairwise"].contains n = false) (a : Q () s) : wpAny M A (letOwnedTupleGo tg (.ref it) u) Q E s := by
  unfold letOwnedTupleGo
  cases tg <;> first
    | exact zM a
    | (cases u <;> first
        | exact zM a
        | (refine zL (wpAny_load c ?_)
           rw [b, hd]
           show wpAny M A (if (["enumerate", "zip", "dict_itemiterator", "dict_reverseitemiterator", "odict_iterator", "itertools.zip_longest", "itertools.pairwise"].contains n && vs[0]? == some (rawInt _)) = true then _ else _) Q E s
           rw [if_neg (by intro h; rw [d, Bool.false_and] at h; cases h)]
           exact zM a))
def Itl (K:FG) (a:Addr):It :=
 ⟨fun i H=>∃ xs x,SqL K H a xs/\xs[i]?=some x,fun i H x H'=>H'=H/\∀ xs,SqL K H a xs->xs[i]?=some x,fun i H=>∃ xs,SqL K H a xs/\xs.length<=i⟩
def Itt (K:FG) (a:Addr):It :=
 ⟨fun i H=>∃ xs x,SqT K H a xs/\xs[i]?=some x,fun i H x H'=>H'=H/\∀ xs,SqT K H a xs->xs[i]?=some x,fun i H=>∃ xs,SqT K H a xs/\xs.length<=i⟩
def Itr (lo:Int) (n:Nat):It:=⟨fun i _=>i < n,fun i H x H'=>H'=H/\x=.int (lo+i),fun i _=>n<=i⟩
theorem p8 {P:Program} {w:World} {K:FG} {tg:Expr} (a it:Addr):Turn P w K tg (Itl K a) [it] it (fun i h=>h.IsListIter it a i) where
 mem:=by simp
 obj:=fun i h st b f=>by
  have e:b=it:=by simpa using f
  subst e
  obtain ⟨o,e,c,d⟩:=st
  exact ⟨o,e,fun v z=>by rw [d] at z;cases z⟩
 keep:=fun i h h' st k=>st.at fun o e=>k it (by simp) o e
 item:=by
  intro X m hw t B i pins s σ H E I hf st n
  subst m hw t
  obtain ⟨xs,x,j,r⟩:=n
  obtain ⟨A,q,p,hz⟩:=I.list j
  obtain ⟨u,hu,G⟩:=q.get r
  obtain ⟨f0,f1,f2,y,f4,l⟩:=hf it (by simp)
  refine wpAny_pyNext_list_item st p.isList (x:=u) (by simpa using hu) fun h' g sb=>?_
  have C:Inv X pins σ H { s with heap:=h' }:=I.turned (t':=s.toks) (fun b o f e=>(sb.2 b f).trans e) f0 f1 y f4 l
  obtain ⟨o,e,c,d⟩:=id g
  exact ⟨u,rfl,tK (s:={ s with heap:=h' }) e c d (by decide) ⟨x,H,C,G,⟨rfl,fun ys D=>by rw [I.list_inj D j];exact r⟩,g,fun b f=>(hf b f).1⟩⟩
 done:=by
  intro X m hw t B i pins s σ H E I hf st n
  subst m hw t
  obtain ⟨xs,j,r⟩:=n
  obtain ⟨A,q,p,hz⟩:=I.list j
  obtain ⟨f0,f1,f2,y,f4,l⟩:=hf it (by simp)
  have J:=q.length
  exact wpAny_pyNext_list_end (I.ok.hd B) st p.isList (by simp;omega) fun h' F=>⟨rfl,I.turned (t':=s.toks) (fun b o f e=>F b o f e) f0 f1 y f4 l⟩
 self:=fun _ _ _ _ _ st h=>wpAny_pyIter_listiter st h
theorem nD {P:Program} {w:World} {K:FG} {tg:Expr} (a it:Addr):Turn P w K tg (Itt K a) [it] it (fun i h=>h.IsTupleIter it a i) where
 mem:=by simp
 obj:=fun i h st b f=>by
  have e:b=it:=by simpa using f
  subst e
  obtain ⟨o,e,c,d⟩:=st
  exact ⟨o,e,fun v z=>by rw [d] at z;cases z⟩
 keep:=fun i h h' st k=>st.at fun o e=>k it (by simp) o e
 item:=by
  intro X n hw y B i pins s σ H E I hf st q
  subst n hw y
  obtain ⟨xs,x,l,t⟩:=q
  obtain ⟨g,r,p,hz⟩:=I.tuple l
  obtain ⟨u,hu,G⟩:=r.get t
  obtain ⟨f0,f1,f2,A,f4,m⟩:=hf it (by simp)
  refine wpAny_pyNext_tuple_item st (show s.heap.IsTuple a g.toArray from p) (x:=u) (by simpa using hu) fun h' j sb=>?_
  have C:Inv X pins σ H { s with heap:=h' }:=I.turned (t':=s.toks) (fun b o f e=>(sb.2 b f).trans e) f0 f1 A f4 m
  obtain ⟨o,e,c,d⟩:=id j
  exact ⟨u,rfl,tK (s:={ s with heap:=h' }) e c d (by decide) ⟨x,H,C,G,⟨rfl,fun ys D=>by rw [I.tuple_inj D l];exact t⟩,j,fun b f=>(hf b f).1⟩⟩
 done:=by
  intro X n hw y B i pins s σ H E I hf st q
  subst n hw y
  obtain ⟨xs,l,t⟩:=q
  obtain ⟨g,r,p,hz⟩:=I.tuple l
  obtain ⟨f0,f1,f2,A,f4,m⟩:=hf it (by simp)
  have J:=r.length
  exact wpAny_pyNext_tuple_end (I.ok.hd B) st (show s.heap.IsTuple a g.toArray from p) (by simp;omega) fun h' F=>⟨rfl,I.turned (t':=s.toks) (fun b o f e=>F b o f e) f0 f1 A f4 m⟩
 self:=fun _ _ _ _ _ st h=>wpAny_pyIter_tupleiter st h
theorem nE {P:Program} {w:World} {K:FG} {tg:Expr} (it:Addr) (lo:Int) (n:Nat):Turn P w K tg (Itr lo n) [it] it (fun i h=>IsRangeIter h it (lo+(i:Nat) * 1) ((n:Int) - (i:Nat)) 1) where
 mem:=by simp
 obj:=fun i h st b a=>by
  have e:b=it:=by simpa using a
  subst e
  exact ⟨_,st,fun v z=>by
   have y:Data.fields _=Data.cell v:=z
   cases y⟩
 keep:=fun i h h' st k=>k it (by simp) _ st
 item:=by
  intro X f hw l g i pins s σ H E I hf st j
  subst f hw l
  obtain ⟨f0,f1,f2,m,f4,d⟩:=hf it (by simp)
  have W:=Walks.range (prog:=X.prog) (w:=X.w) (I.ok.hd g) it lo 1 n
  refine W.item i s _ _ j st fun v h' p q c x=>?_
  obtain ⟨t,rfl⟩:=q
  have r:Inv X pins σ H { s with heap:=h',toks:=p }:=I.turned (fun b o a e=>x b o (by simpa using a) e) f0 f1 m f4 d
  refine ⟨_,rfl,tK (s:={ s with heap:=h',toks:=p }) (n:="range_iterator") c rfl rfl (by decide) ⟨.int (lo+i),H,r,⟨t,?_⟩,⟨rfl,rfl⟩,c,fun b a=>(hf b a).1⟩⟩
  rw [Int.mul_one]
 done:=by
  intro X f hw l g i pins s σ H E I hf st j
  subst f hw l
  obtain ⟨f0,f1,f2,m,f4,d⟩:=hf it (by simp)
  exact wpAny_pyNext_range_end (I.ok.hd g) st (by have:n<=i:=j;omega) fun h' u=>⟨rfl,I.turned (t':=s.toks) (fun b o a e=>u b o a e) f0 f1 m f4 d⟩
 self:=fun _ _ _ _ _ st h=>wpAny_pyIter_rangeiter st h
end L2
namespace L2
open PySem PySem.Spec PyProof.Rows
section
variable {X:Cx} {tg:Expr}
theorem md {lo hi:Int} {c:Nat} (I:Inv X pins σ H s) (h1:-(2 ^ 62)<=lo) (h2:lo < 2 ^ 62) (h3:-(2 ^ 62)<=hi) (g:hi < 2 ^ 62) (q:R (Itr lo (hi - lo).toNat) H):wpAny (model X.prog X.w) X.A (pyIter (.ref s.heap.objs.size)) (PIE X pins σ tg R) E { s with heap:=s.heap.push { cls:=.type "range",data:=.fields #[.int lo t,.int hi u,.int 1 v] },toks:=c }:=by
 refine wpAny_pyIter_range (IsRange.new ..) (small_one h1 h2 h3 g) ?_
 have a:Inv X pins σ H { s with heap:=s.heap.push { cls:=.type "range",data:=.fields #[.int lo t,.int hi u,.int 1 v] },toks:=c }:=I.kept fun b o e=>zQ _ e
 refine ⟨(s.heap.push { cls:=.type "range",data:=.fields #[.int lo t,.int hi u,.int 1 v] }).objs.size,[(s.heap.push { cls:=.type "range",data:=.fields #[.int lo t,.int hi u,.int 1 v] }).objs.size],_,_,H,rfl,
  a.kept (t':=c) fun b o e=>zQ _ e,nE _ lo (hi - lo).toNat,?_,fun b d=>?_,q⟩
 ·have e1:lo+((0:Nat):Int) * 1=lo:=by simp
  have f:(((hi - lo).toNat:Nat):Int) - ((0:Nat):Int)=Builtin.Range.rangeSize lo hi 1:=by rw [rangeSize_one];split <;> omega
  show IsRangeIter _ _ (lo+((0:Nat):Int) * 1) ((((hi - lo).toNat:Nat):Int) - ((0:Nat):Int)) 1
  rw [e1,f]
  exact zY _ rfl
 ·have e:b=(s.heap.push { cls:=.type "range",data:=.fields #[.int lo t,.int hi u,.int 1 v] }).objs.size:=by simpa using d
  subst e
  exact a.fpOk (z9 _) (a.hok.fresh (z9 _))
def xb (ta:TA):TI:=fun σ H R=>ta σ H fun vs H1=>∃ j:Int,vs=[.int j]/\-(2 ^ 62)<=j/\j < 2 ^ 62/\R (Itr 0 j.toNat) H1
def xa (ta:TA):TI:=fun σ H R=>ta σ H fun vs H1=>∃ i j:Int,vs=[.int i,.int j]/\(-(2 ^ 62)<=i/\i < 2 ^ 62/\-(2 ^ 62)<=j/\j < 2 ^ 62)/\R (Itr i (j - i).toNat) H1
theorem qp (g:Gl X "range") (hm:X.mg "range"=none) (d:PA X [a] ta) (c:starEach [a] X.env=[(false,eval a X.env)]:=by rfl):PI X tg (.Call (.Name "range" p) [a] [] pos) (xb ta):=by
 intro pins s σ H R I h
 refine Call_ (fV I g hm boot_range (PyProof.Rows.callWith_type1 (thn (d pos pins s σ H _ I h) fun us s1 ⟨vs,H1,f,k,b⟩=>?_) c rfl))
 obtain ⟨j,e,b,i,q⟩:=b
 subst e
 cases k with
 | cons r rr =>
  cases rr
  obtain ⟨t,rfl⟩:=r
  exact call_range_1 (md f (by omega) (by omega) b i (by simpa using q))
theorem qo (l:Gl X "range") (hm:X.mg "range"=none) (g:PA X [a,b] ta) (f:starEach [a,b] X.env=[(false,eval a X.env),(false,eval b X.env)]:=by rfl) (c:starEach [b] X.env=[(false,eval b X.env)]:=by rfl) :
  PI X tg (.Call (.Name "range" p) [a,b] [] pos) (xa ta):=by
 intro pins s σ H R I h
 refine Call_ (fV I l hm boot_range (PyProof.Rows.callWith_type1 (thn (g pos pins s σ H _ I h) fun us s1 ⟨vs,H1,k,o,d⟩=>?_) (by rw [f,c]) (by rw [c];rfl)))
 obtain ⟨i,j,e,⟨d,m,n,u⟩,q⟩:=d
 subst e
 cases o with
 | cons r rr =>
  cases rr with
  | cons r' rr =>
   cases rr
   obtain ⟨t,rfl⟩:=r
   obtain ⟨t',rfl⟩:=r'
   exact call_range_2 (md k d m n u q)
def tFor (b:TI) (g:TG) (tb:TS):TS:=fun D σ H=>b σ H fun J H1=>∃ W:Nat->Nat->St->Hp->Prop,(∃ m,W 0 m σ H1)/\∀ i m σ H,W i m σ H ->
 (J.stop i H/\D.nx σ H)\/(J.go i H/\∃ N:St->Hp->Prop,(∀ σ' H',N σ' H'->∃ a,a < m/\W (i+1) a σ' H')/\∀ x H',J.yld i H x H'->g x σ H' fun σ2 H2=>tb { D with nx:=N,ct:=N,bk:=D.nx } σ2 H2)
def jw (fp:List Addr) (h:Heap):List (Addr × Obj):=fp.filterMap fun b=>(h.get? b).map fun o=>(b,o)
theorem eA (a:b ∈ fp) (e:h.get? b=some o):(b,o) ∈ jw fp h:=List.mem_filterMap.mpr ⟨b,a,by rw [e];rfl⟩
theorem qt (a:p ∈ jw fp h):p.1 ∈ fp/\h.get? p.1=some p.2:=by
 obtain ⟨b,d,e⟩:=List.mem_filterMap.mp a
 cases q:h.get? b with
 | none=>rw [q] at e;cases e
 | some o =>
  rw [q] at e
  have c:(b,o)=p:=AC e
  subst c
  exact ⟨d,q⟩
theorem Inv.pinned (I:Inv X pins σ H s) (hf:∀ b ∈ fp,FpOk X pins H b) (f:∀ b ∈ fp,∃ o,s.heap.get? b=some o/\∀ v,o.data ≠ .cell v):Inv X (pins ++ jw fp s.heap) σ H s :=
 I.pins_of fun p g=>(zX.mp g).elim (fun z=>I.pin p (zT _ z)) fun z=>by
  obtain ⟨c,e⟩:=qt z
  obtain ⟨f0,f1,f2,_⟩:=hf p.1 c
  obtain ⟨o,a,d⟩:=f p.1 c
  rw [e] at a;cases a
  exact ⟨e,f0,f1,f2,d⟩
theorem Inv.unpinned (I:Inv X (pins ++ pl) σ H s):Inv X pins σ H s:=I.pins_of fun p a=>I.pin p (zT _ (zS _ a))
theorem yB (q:PassesOwn (model X.prog X.w) X.A X.env X.xe) (M:X.calm=true) (hi:PI X tg iter wi) (hg:PG X tg g) (j:PSs X body tb) (hs:∀ x,foldedSetIterable iter X.env x=pure x:=by intro _;rfl):PS X (.For tg iter body [] pos) (tFor wi g tb):=by
 intro pins s σ H D I h
 refine wpAny_For (thn (hi pins s σ H _ I h) fun v s1 h1=>thn h1 fun R s2 h2=>?_) hs
 obtain ⟨it,fp,tn,J,H2,e,I2,T,E,f2,W,⟨m0,Q⟩,turn⟩:=h2
 subst e
 have c:∀ {H':Hp},(∀ b ∈ fp,H' b=none)->∀ b ∈ fp,FpOk X pins H' b:=fun hn b j=>⟨hn b j,(f2 b j).2⟩
 refine codeAny_forLoop_any (fun n s'=>∃ i σ' H',Inv X pins σ' H' s'/\tn i s'.heap/\(∀ b ∈ fp,H' b=none)/\W i n σ' H') ?_ m0 ⟨0,σ,H2,I2,E,fun b j=>(f2 b j).1,Q⟩
 rintro n s3 ⟨i,σ3,B,L,y,t,w3⟩
 rcases turn i n σ3 B w3 with ⟨stop,qn⟩ | ⟨go,N,hN,step⟩
 ·refine wpAny_passesOwn q (thn (T.done X rfl rfl rfl M i pins s3 σ3 B X.xe L (c t) y stop) fun r s4 ⟨C,I4⟩=>?_)
  subst C
  exact wpAny_execs_nil ⟨σ3,B,I4,qn⟩
 ·refine wpAny_passesOwn q (thn (T.item X rfl rfl rfl M i pins s3 σ3 B X.xe L (c t) y go) fun r s4 ⟨u,C,S⟩=>?_)
  subst C
  refine wpAny_passesOwn q (thn S fun _ s5 ⟨x,O,I5,r5,V,p,G⟩=>?_)
  have K:=I5.pinned (c G) (T.obj _ _ p)
  refine wpAny_passesOwn q (thn (hg _ s5 σ3 O x u _ K r5 (step x O V)) fun _ s6 ⟨σ6,H6,P,q6⟩=>?_)
  refine wpAny_passesOwn q (thn (j _ s6 σ6 H6 _ P q6) fun f F l=>?_)
  have again:∀ {σ7:St} {a:Hp},Inv X (pins ++ jw fp s5.heap) σ7 a F->N σ7 a->∃ m,m < n/\∃ i σ' H',Inv X pins σ' H' F/\tn i F.heap/\(∀ b ∈ fp,H' b=none)/\W i m σ' H':=fun {σ7 a} k z=>by
   obtain ⟨U,hm,Z⟩:=hN σ7 a z
   refine ⟨U,hm,i+1,σ7,a,k.unpinned,T.keep _ _ _ p fun b j o e=>(k.pin (b,o) (zT _ (zT _ (eA j e)))).1,fun b j=>?_,Z⟩
   obtain ⟨o,e,d⟩:=T.obj _ _ p b j
   exact (k.pin (b,o) (zT _ (zT _ (eA j e)))).2.1
  cases f with
  | next=>obtain ⟨σ7,a,k,z⟩:=l;exact again k z
  | cont=>obtain ⟨σ7,a,k,z⟩:=l;exact again k z
  | brk=>obtain ⟨σ7,a,k,l⟩:=l;exact ⟨σ7,a,k.unpinned,l⟩
  | ret v=>obtain ⟨Y,σ7,a,k,r7,l⟩:=l;exact ⟨Y,σ7,a,k.unpinned,r7,l⟩
end
end L2
namespace L2
open PySem PySem.Spec PyProof.Rows
abbrev R2:=V->V->Hp->VK->Prop
def OpR (X:Cx) (f:Value->Value->Sem Value) (r:R2):Prop :=
 ∀ (pins:List (Addr × Obj)) (s:Shared) (σ:St) (H:Hp) (x y:V) (v u:Value) (Q:VK),Inv X pins σ H s->RelV x v->RelV y u->r x y H Q ->
  wpAny (model X.prog X.w) X.A (f v u) (EP X pins σ Q) X.xe s
def UnR (X:Cx) (f:Value->Sem Value) (r:V->Hp->VK->Prop):Prop :=
 ∀ (pins:List (Addr × Obj)) (s:Shared) (σ:St) (H:Hp) (x:V) (v:Value) (Q:VK),Inv X pins σ H s->RelV x v->r x H Q ->
  wpAny (model X.prog X.w) X.A (f v) (EP X pins σ Q) X.xe s
def cv (X:Cx) (f:Value) (r:List V->Hp->VK->Prop):Prop :=
 ∀ (pins:List (Addr × Obj)) (s:Shared) (σ:St) (H:Hp) (xs:List V) (us:List Value) (Q:VK),Inv X pins σ H s->Vals xs us->r xs H Q ->
  wpAny (model X.prog X.w) X.A (call f us) (EP X pins σ Q) X.xe s
def tOp (r:R2) (ta tb:TE):TE:=fun σ H Q=>ta σ H fun x H1=>tb σ H1 fun y H2=>r x y H2 Q
def tUn (r:V->Hp->VK->Prop) (ta:TE):TE:=fun σ H Q=>ta σ H fun x H1=>r x H1 Q
def rI (C:Int->Int->Prop) (g:Int->Int->V):R2:=fun x y H Q=>∃ i j,x=.int i/\y=.int j/\C i j/\Q (g i j) H
def rI0 (g:Int->Int->V):R2:=fun x y H Q=>∃ i j,x=.int i/\y=.int j/\Q (g i j) H
def rU (g:Int->V):V->Hp->VK->Prop:=fun x H Q=>∃ i,x=.int i/\Q (g i) H
section
variable {X:Cx} {a b c:Expr} {ta tb tc:TE} {pos:Pos}
theorem zD (d:PE X a ta) (i:PE X b tb) {R:V->V->Hp->Prop} (I:Inv X pins σ H s) (h:ta σ H fun x H1=>tb σ H1 fun y H2=>R x y H2) {f:Value->Value->Sem Value} (hf:∀ v u s2 x y H2,Inv X pins σ H2 s2->RelV x v->RelV y u->R x y H2->wpAny (model X.prog X.w) X.A (f v u) Q X.xe s2) :
  wpAny (model X.prog X.w) X.A (eval a X.env) (fun v l=>wpAny (model X.prog X.w) X.A (eval b X.env) (fun u n=>wpAny (model X.prog X.w) X.A (f v u) Q X.xe n) X.xe l) X.xe s:=by
 refine thn (d pins s σ H _ I h) fun v s1 ⟨x,H1,e,m,k⟩=>?_
 refine thn (i pins s1 σ H1 _ e k) fun u s2 ⟨y,H2,g,c,j⟩=>?_
 exact hf v u s2 x y H2 g m c j
theorem pe_op (g:OpR X (binaryOp op) r) (d:PE X a ta) (f:PE X b tb):PE X (.BinOp a op b pos) (tOp r ta tb):=by
 intro pins s σ H Q I h
 exact wpAny_BinOp (zD d f I h fun v u s2 x y H2 e c i q=>g pins s2 σ H2 x y v u Q e c i q)
theorem pe_un (d:UnR X (unaryOp op) r) (b:PE X a ta):PE X (.UnaryOp op a pos) (tUn r ta):=by
 intro pins s σ H Q I h
 exact UnaryOp_ (thn (b pins s σ H _ I h) fun v s1 ⟨x,H1,c,e,f⟩=>d pins s1 σ H1 x v Q c e f)
theorem opI {g:Int->Int->Int} (rule:∀ (i j:Int) (t u:Tok) (s:Shared) (Q:Value->Shared->Prop) (E:Value->Shared->Prop),C i j->Q (.int (g i j) s.toks) { s with toks:=s.toks+1 }->wpAny (model X.prog X.w) X.A (f (.int i t) (.int j u)) Q E s) :
  OpR X f (rI C fun i j=>.int (g i j)):=by
 intro pins s σ H x y v u Q I a b h
 obtain ⟨i,j,rfl,rfl,c,q⟩:=h
 obtain ⟨t,rfl⟩:=a
 obtain ⟨t',rfl⟩:=b
 exact rule i j t t' s _ _ c ⟨.int (g i j),H,I.tok _,⟨_,rfl⟩,q⟩
theorem opI0 {g:Int->Int->Int} (rule:∀ (i j:Int) (t u:Tok) (s:Shared) (Q:Value->Shared->Prop) (E:Value->Shared->Prop),Q (.int (g i j) s.toks) { s with toks:=s.toks+1 }->wpAny (model X.prog X.w) X.A (f (.int i t) (.int j u)) Q E s) :
  OpR X f (rI0 fun i j=>.int (g i j)):=by
 intro pins s σ H x y v u Q I a b h
 obtain ⟨i,j,rfl,rfl,q⟩:=h
 obtain ⟨t,rfl⟩:=a
 obtain ⟨t',rfl⟩:=b
 exact rule i j t t' s _ _ ⟨.int (g i j),H,I.tok _,⟨_,rfl⟩,q⟩
theorem yU {g:Int->Int->Bool} (rule:∀ (i j:Int) (t u:Tok) (s:Shared) (Q:Value->Shared->Prop) (E:Value->Shared->Prop),Q (.bool (g i j)) s->wpAny (model X.prog X.w) X.A (f (.int i t) (.int j u)) Q E s) :
  OpR X f (rI0 fun i j=>.bl (g i j)):=by
 intro pins s σ H x y v u Q I a b h
 obtain ⟨i,j,rfl,rfl,q⟩:=h
 obtain ⟨t,rfl⟩:=a
 obtain ⟨t',rfl⟩:=b
 exact rule i j t t' s _ _ ⟨.bl (g i j),H,I,rfl,q⟩
def rh (i j:Int):Prop:=0 < j/\j < 1073741824
def uq (i j:Int):Prop:=0<=j/\j<=1000000/\i.natAbs < 2 ^ 64
def CMul (i j:Int):Prop:=(-(2 ^ 64) < i/\i < 2 ^ 64)\/(-(2 ^ 64) < j/\j < 2 ^ 64)
theorem CMul.ok {i j:Int} (h:CMul i j):IntMulOk i j:=by
 rcases h with ⟨h1,h2⟩ | ⟨h1,h2⟩
 ·exact .of_left (intBits_le_64 h1 h2)
 ·exact .of_right (intBits_le_64 h1 h2)
theorem op_add:OpR X (binaryOp .Add) (rI0 fun i j=>.int (i+j)):=opI0 fun _ _ _ _ _ _ _ q=>add_int q
theorem yO:OpR X (binaryOp .Sub) (rI0 fun i j=>.int (i - j)):=opI0 fun _ _ _ _ _ _ _ q=>sub_int q
theorem yR:OpR X (binaryOp .Mult) (rI CMul fun i j=>.int (i * j)):=opI fun _ _ _ _ _ _ _ a q=>mul_int q a.ok
theorem yS:OpR X (binaryOp .Mod) (rI (fun _ j=>0 < j) fun i j=>.int (i % j)):=opI fun i j _ _ _ _ _ a q=>by
 have h1:(0:Int) < j:=a
 exact mod_int' (by omega) (by rw [Int.fmod_eq_emod_of_nonneg i (by omega)];exact q)
theorem yP:OpR X (binaryOp .Pow) (rI uq fun i j=>.int (i ^ j.toNat)):=opI fun _ _ _ _ _ _ _ a q=>pow_int_small a.1 a.2.1 a.2.2 q
theorem unI {g:Int->Int} (rule:∀ (i:Int) (t:Tok) (s:Shared) (Q:Value->Shared->Prop) (E:Value->Shared->Prop),Q (.int (g i) s.toks) { s with toks:=s.toks+1 }->wpAny (model X.prog X.w) X.A (f (.int i t)) Q E s) :
  UnR X f (rU fun i=>.int (g i)):=by
 intro pins s σ H x v Q I a h
 obtain ⟨i,rfl,q⟩:=h
 obtain ⟨t,rfl⟩:=a
 exact rule i t s _ _ ⟨.int (g i),H,I.tok _,⟨_,rfl⟩,q⟩
theorem xm:UnR X (unaryOp .USub) (rU fun i=>.int (-i)):=unI fun _ _ _ _ _ q=>neg_int q
end
def xQ:V->V->Bool
 | .non,.non=>true | .non,.int _=>true | .int _,.non=>true | .non,.bl _=>true | .bl _,.non=>true | .non,.str _=>true | .str _,.non=>true
 | .int _,.int _=>true | .bl _,.bl _=>true | .str _,.str _=>true | .byt _,.byt _=>true
 | .int _,.str _=>true | .str _,.int _=>true | .bl _,.str _=>true | .str _,.bl _=>true
 | _,_=>false
def rEq:R2:=fun x y H Q=>xQ x y=true/\Q (.bl (decide (x=y))) H
def rNe:R2:=fun x y H Q=>xQ x y=true/\Q (.bl (!decide (x=y))) H
theorem pN {i j:Int}:decide (V.int i=V.int j)=(i == j):=by
 rw [Bool.eq_iff_iff]
 simp
theorem tX:decide (V.bl i=V.bl j)=(i == j):=by
 rw [Bool.eq_iff_iff]
 simp
theorem pM:decide (V.str i=V.str j)=(i == j):=by
 rw [Bool.eq_iff_iff]
 simp
theorem pO:decide (V.byt i=V.byt j)=(i.toList == j.toList):=by
 rw [Bool.eq_iff_iff]
 cases i
 cases j
 simp
section
variable {X:Cx} {a b c:Expr} {ta tb tc:TE} {pos:Pos}
theorem aG (I:Inv X pins σ H s) (q:Q (.bl k) H) (e:k=k'):EP X pins σ Q (.bool k') s:=by
 subst e
 exact ⟨.bl k,H,I,rfl,q⟩
theorem op_eq:OpR X (compareOp .Eq) rEq:=by
 intro pins s σ H x y v u Q I c a h
 obtain ⟨b,q⟩:=h
 cases x with
 | non =>
  cases c
  cases y with
  | non=>cases a;exact PySem.EqNone.eq_none_none (aG I q (by simp))
  | bl j=>cases a;exact PySem.EqNone.eq_none_bool (aG I q (by simp))
  | int j=>obtain ⟨t',rfl⟩:=a;exact PySem.EqNone.eq_none_int (aG I q (by simp))
  | str j=>obtain ⟨t',rfl⟩:=a;exact PySem.EqNone.eq_none_str (aG I q (by simp))
  | _=>exact absurd (show false=true from b) Aa
 | bl i =>
  cases c
  cases y with
  | non=>cases a;exact PySem.EqNone.eq_bool_none (aG I q (by simp))
  | bl j=>cases a;exact eq_bool (aG I q tX)
  | str j=>obtain ⟨t',rfl⟩:=a;exact PySem.EqMixed.eq_bool_str (aG I q (by simp))
  | _=>exact absurd (show false=true from b) Aa
 | int i =>
  obtain ⟨t,rfl⟩:=c
  cases y with
  | non=>cases a;exact PySem.EqNone.eq_int_none (aG I q (by simp))
  | int j=>obtain ⟨t',rfl⟩:=a;exact eq_int (aG I q pN)
  | str j=>obtain ⟨t',rfl⟩:=a;exact PySem.EqMixed.eq_int_str (aG I q (by simp))
  | _=>exact absurd (show false=true from b) Aa
 | str i =>
  obtain ⟨t,rfl⟩:=c
  cases y with
  | non=>cases a;exact PySem.EqNone.eq_str_none (aG I q (by simp))
  | bl j=>cases a;exact PySem.EqMixed.eq_str_bool (aG I q (by simp))
  | int j=>obtain ⟨t',rfl⟩:=a;exact PySem.EqMixed.eq_str_int (aG I q (by simp))
  | str j=>obtain ⟨t',rfl⟩:=a;exact eq_str (aG I q pM)
  | _=>exact absurd (show false=true from b) Aa
 | byt i =>
  obtain ⟨t,rfl⟩:=c
  cases y with
  | byt j=>obtain ⟨t',rfl⟩:=a;exact PySem.W.eq_bytes (aG I q pO)
  | _=>exact absurd (show false=true from b) Aa
 | _=>cases y <;> exact absurd (show false=true from b) Aa
theorem op_ne:OpR X (compareOp .NotEq) rNe:=by
 intro pins s σ H x y v u Q I c a h
 obtain ⟨b,q⟩:=h
 cases x with
 | non =>
  cases c
  cases y with
  | non=>cases a;exact PySem.EqNone.ne_none_none (aG I q (by simp))
  | bl j=>cases a;exact PySem.EqNone.ne_none_bool (aG I q (by simp))
  | int j=>obtain ⟨t',rfl⟩:=a;exact PySem.EqNone.ne_none_int (aG I q (by simp))
  | str j=>obtain ⟨t',rfl⟩:=a;exact PySem.EqNone.ne_none_str (aG I q (by simp))
  | _=>exact absurd (show false=true from b) Aa
 | bl i =>
  cases c
  cases y with
  | non=>cases a;exact PySem.EqNone.ne_bool_none (aG I q (by simp))
  | bl j=>cases a;exact ne_bool (aG I q (congrArg not tX))
  | str j=>obtain ⟨t',rfl⟩:=a;exact PySem.EqMixed.ne_bool_str (aG I q (by simp))
  | _=>exact absurd (show false=true from b) Aa
 | int i =>
  obtain ⟨t,rfl⟩:=c
  cases y with
  | non=>cases a;exact PySem.EqNone.ne_int_none (aG I q (by simp))
  | int j=>obtain ⟨t',rfl⟩:=a;exact ne_int (aG I q (congrArg not pN))
  | str j=>obtain ⟨t',rfl⟩:=a;exact PySem.EqMixed.ne_int_str (aG I q (by simp))
  | _=>exact absurd (show false=true from b) Aa
 | str i =>
  obtain ⟨t,rfl⟩:=c
  cases y with
  | non=>cases a;exact PySem.EqNone.ne_str_none (aG I q (by simp))
  | bl j=>cases a;exact PySem.EqMixed.ne_str_bool (aG I q (by simp))
  | int j=>obtain ⟨t',rfl⟩:=a;exact PySem.EqMixed.ne_str_int (aG I q (by simp))
  | str j=>obtain ⟨t',rfl⟩:=a;exact ne_str (aG I q (congrArg not pM))
  | _=>exact absurd (show false=true from b) Aa
 | byt i =>
  obtain ⟨t,rfl⟩:=c
  cases y with
  | byt j=>obtain ⟨t',rfl⟩:=a;exact PySem.W.ne_bytes (aG I q (congrArg not pO))
  | _=>exact absurd (show false=true from b) Aa
 | _=>cases y <;> exact absurd (show false=true from b) Aa
theorem op_lt:OpR X (compareOp .Lt) (rI0 fun i j=>.bl (decide (i < j))):=yU fun _ _ _ _ _ _ _ q=>lt_int q
theorem sP:OpR X (compareOp .LtE) (rI0 fun i j=>.bl (decide (i<=j))):=yU fun _ _ _ _ _ _ _ q=>le_int q
theorem wR:OpR X (compareOp .Gt) (rI0 fun i j=>.bl (decide (j < i))):=yU fun _ _ _ _ _ _ _ q=>gt_int q
theorem OpR.or (h:OpR X f r) (h':OpR X f r'):OpR X f (fun x y H Q=>r x y H Q\/r' x y H Q):=by
 intro pins s σ H x y v u Q I a b q
 rcases q with q | q
 ·exact h pins s σ H x y v u Q I a b q
 ·exact h' pins s σ H x y v u Q I a b q
theorem fS (b : Expr) (h : op ≠ .In := by decide) (h2 : op ≠ .NotIn := by decide) : behindInMarks op b = false := by
  have e1 : (op == CmpOp.In) = false := by cases op <;> first | rfl | exact absurd rfl h
  have a : (op == CmpOp.NotIn) = false := by cases op <;> first | rfl | exact absurd rfl h2
  cases b <;> simp [behindInMarks, e1, a]
theorem vH (g:OpR X (compareOp op) r) (d:PE X a ta) (f:PE X b tb) (hm:behindInMarks op b=false):PE X (.Compare a [op] [b] pos) (tOp r ta tb):=by
 intro pins s σ H Q I h
 exact wpAny_Compare1 (zD d f I h fun v u s2 x y H2 e c i q=>g pins s2 σ H2 x y v u Q e c i q) hm
def wD (t:TE):TT:=fun σ H Q=>t σ H fun x H'=>∃ k,x=.bl k/\Q k H'
theorem vt (q:OpR X (compareOp op) r) (f:PE X a ta) (l:PE X b tb) (hm:behindInMarks op b=false):PT X (.Compare a [op] [b] pos) (wD (tOp r ta tb)):=by
 intro pins s σ H Q I h
 refine wpAny_isTrue_Compare1 (thn (f pins s σ H _ I h) fun v s1 ⟨x,H1,g,t,n⟩=>thn (l pins s1 σ H1 _ g n) fun u s2 ⟨y,H2,i,d,m⟩ =>
  thn (q pins s2 σ H2 x y v u _ i t d m) fun c s3 ⟨z,p,j,w,k,e,o⟩=>?_) hm
 subst e
 cases w
 exact Av ⟨p,j,o⟩
def rH (r d:R2) (ta tb tc:TE):TE:=fun σ H Q=>ta σ H fun x H1=>tb σ H1 fun y H2=>r x y H2 fun z a=>∃ k,z=.bl k /\
 (if k=true then tc σ a fun c b=>d y c b Q else Q (.bl false) a)
theorem sC (N:OpR X (compareOp op) r) (f:OpR X (compareOp op') r') (n:PE X a ta) (w:PE X b tb) (t:PE X c tc) (hm:lastMarks [op,op'] [b,c]=false:=by with_unfolding_all rfl):PT X (.Compare a [op,op'] [b,c] pos) (wD (rH r r' ta tb tc)):=by
 intro pins s σ H Q I h
 refine isTrue_chain (thn (n pins s σ H _ I h) fun v s1 ⟨x,H1,F,O,L⟩=>test_link (thn (w pins s1 σ H1 _ F L) fun u s2 ⟨y,H2,J,g,K⟩ =>
  thn (N pins s2 σ H2 x y v u _ J O g K) fun d s3 ⟨z,l,i,S,k,e,j⟩=>?_)) hm
 subst e
 cases S
 refine Av ?_
 cases k with
 | false =>
  obtain ⟨T,p,q⟩:=j
  cases p
  exact ite_ff ⟨l,i,q⟩
 | true =>
  refine ite_tt (test_last (thn (t pins s3 σ l _ i j) fun D s4 ⟨P,A,B,m,E⟩=>thn (f pins s4 σ A y P u D _ B g m E) fun d' s5 ⟨U,R,o,C,k2,M,G⟩=>?_))
  subst M
  cases C
  exact Av ⟨R,o,G⟩
theorem ld:(sizeLine:Nat) < 2 ^ 63:=by rw [sizeLine_eq];decide
theorem op_add_str:OpR X (binaryOp .Add) (fun x y H Q=>∃ i j,x=.str i/\y=.str j/\i.length+j.length<=sizeLine/\Q (.str (i ++ j)) H):=by
 intro pins s σ H x y v u Q I a b h
 obtain ⟨i,j,rfl,rfl,hz,q⟩:=h
 obtain ⟨t,rfl⟩:=a
 obtain ⟨t',rfl⟩:=b
 exact add_str (fun t' c=>⟨.str (i ++ j),H,I.tok _,⟨_,rfl⟩,q⟩) hz
theorem eI (r:Vals [x] us):∃ u,us=[u]/\RelV x u:=by
 cases r with
 | cons r1 r2=>cases r2;exact ⟨_,rfl,r1⟩
theorem j4 (r:Vals [x,y] us):∃ u a,us=[u,a]/\RelV x u/\RelV y a:=by
 cases r with
 | cons r1 r2 =>
  cases r2 with
  | cons r3 r4=>cases r4;exact ⟨_,_,rfl,r1,r3⟩
theorem qX (b:X.calm=true):cv X (.builtin "max") (fun xs H Q=>∃ i j,xs=[.int i,.int j]/\Q (.int (if j > i then j else i)) H):=by
 intro pins s σ H xs us Q I r h
 obtain ⟨i,j,rfl,q⟩:=h
 obtain ⟨u,d,rfl,⟨t,rfl⟩,⟨t',rfl⟩⟩:=j4 r
 refine max_two_ints (I.ok.hd b) fun h' c k=>⟨_,H,I.kept k,?_,q⟩
 by_cases a:j > i
 ·rw [if_pos a,if_pos a];exact ⟨_,rfl⟩
 ·rw [if_neg a,if_neg a];exact ⟨_,rfl⟩
theorem qW (b:X.calm=true):cv X (.builtin "min") (fun xs H Q=>∃ i j,xs=[.int i,.int j]/\Q (.int (if j < i then j else i)) H):=by
 intro pins s σ H xs us Q I r h
 obtain ⟨i,j,rfl,q⟩:=h
 obtain ⟨u,d,rfl,⟨t,rfl⟩,⟨t',rfl⟩⟩:=j4 r
 refine min_two_ints (I.ok.hd b) fun h' c k=>⟨_,H,I.kept k,?_,q⟩
 by_cases a:j < i
 ·rw [if_pos a,if_pos a];exact ⟨_,rfl⟩
 ·rw [if_neg a,if_neg a];exact ⟨_,rfl⟩
theorem qY:cv X (.type "int") (fun xs H Q=>(∃ i,xs=[.int i]/\Q (.int i) H)\/∃ k,xs=[.bl k]/\Q (.int (if k then 1 else 0)) H):=by
 intro pins s σ H xs us Q I r h
 rcases h with ⟨i,rfl,q⟩ | ⟨k,rfl,q⟩
 ·obtain ⟨u,rfl,t,rfl⟩:=eI r
  exact call_int_int ⟨.int i,H,I,⟨_,rfl⟩,q⟩
 ·obtain ⟨u,rfl,a⟩:=eI r
  cases a
  exact call_int_bool ⟨.int (if k then 1 else 0),H,I.tok _,⟨_,rfl⟩,q⟩
theorem m5:cv X (.builtin "divmod") (fun xs H Q=>∃ i j,xs=[.int i,.int j]/\rh i j/\∀ p,H p=none->Q (.ref p) (upd H p (.tup [.int (i / j),.int (i % j)]))):=by
 intro pins s σ H xs us Q I r h
 obtain ⟨i,j,rfl,⟨h1,h2⟩,q⟩:=h
 obtain ⟨u,c,rfl,⟨t,rfl⟩,⟨t',rfl⟩⟩:=j4 r
 refine divmod_int (by omega) ?_ (.inl (PyProof.noPylong_small (by omega)))
 rw [Int.fdiv_eq_ediv_of_nonneg i (by omega),Int.fmod_eq_emod_of_nonneg i (by omega)]
 have a:H s.heap.objs.size=none:=I.hok.fresh (z9 _)
 refine ⟨.ref s.heap.objs.size,_,?_,rfl,q _ a⟩
 refine I.laid (fun b o e=>zQ _ e) (z9 _) ⟨by simp only [Ak,List.length_nil];rw [sizeLine_eq];decide,[.int (i / j) s.toks,.int (i % j) (s.toks+1)],.cons ⟨_,rfl⟩ (.cons ⟨_,rfl⟩ .nil),?_⟩
 exact ⟨_,zY s.heap rfl,rfl,0,rfl⟩
end
end L2
namespace L2
open PySem PySem.Spec PyProof.Rows
theorem RelO.some_of (r:RelO (some v) o):∃ u,o=some u/\RelV v u:=by
 cases o with
 | none=>exact (show False from r).elim
 | some u=>exact ⟨u,rfl,r⟩
end L2
namespace L2
open PySem PySem.Spec PyProof.Rows
structure Room (k:Nat) (A:Around):Prop where
 hd:A.handled=none
 dp:A.depth+3 * k+5 < recursionLimit
 un:A.units+16 * k+200 < cLine
 gd:A.guards=some []
theorem Room.mono {j k:Nat} (r:Room k A) (h:j<=k):Room j A:=⟨r.hd,by have:=r.dp;omega,by have:=r.un;omega,r.gd⟩
theorem Room.deeper {k:Nat} (r:Room (k+1) A) (env:Env):Room k (A.deeper env) :=
 ⟨r.hd,by have:=r.dp;show A.depth+1+3 * k+5 < _;omega,by have:=r.un;show A.units+3+16 * k+200 < _;omega,r.gd⟩
theorem Room.depth {k:Nat} (r:Room k A):A.depth < recursionLimit:=by have:=r.dp;omega
theorem Room.units {k:Nat} (r:Room k A):A.units+64 < cLine:=by have:=r.un;omega
def tNil:TA:=fun _ H Q=>Q [] H
def wK (ta:TE) (a:TA):TA:=fun σ H Q=>ta σ H fun x H1=>a σ H1 fun xs H2=>Q (x :: xs) H2
section
variable {X:Cx} {e:Expr} {es:List Expr} {te:TE} {t:TA} {pos:Pos}
theorem sN:PA X [] tNil:=fun _ _ _ _ H Q I h=>Calls.spliced_nil ⟨[],H,I,.nil,h⟩
theorem k6 (c:PE X e te) (j:PA X es t) (a:starEach (e :: es) X.env=(false,eval e X.env) :: starEach es X.env:=by rfl):PA X (e :: es) (wK te t):=by
 intro pos pins s σ H Q I h
 rw [a]
 show wpAny _ _ (spliced ((false,eval e X.env) :: backTo pos (starEach es X.env))) _ _ s
 refine Calls.spliced_cons (thn (c pins s σ H _ I h) fun u s1 ⟨x,H1,d,k,i⟩=>?_)
 exact thn (j pos pins s1 σ H1 _ d i) fun us s2 ⟨xs,H2,f,b,g⟩=>⟨x :: xs,H2,f,.cons k b,g⟩
def tTup (t:TA):TE:=fun σ H Q=>t σ H fun xs H1=>xs.length<=sizeLine/\∀ p,H1 p=none->Q (.ref p) (upd H1 p (.tup xs))
def tLst (t:TA):TE:=fun σ H Q=>t σ H fun xs H1=>xs.length<=sizeLine/\∀ p,H1 p=none->Q (.ref p) (upd H1 p (.lst xs))
theorem yE (h:PA X es t):PE X (.Tuple es x1 pos) (tTup t):=by
 intro pins s σ H Q I c
 refine wpAny_Tuple_spliced (thn (h pos pins s σ H _ I c) fun us s1 ⟨xs,H1,a,r,z,q⟩=>⟨by rw [<- r.length];exact z,?_⟩)
 have hf:H1 s1.heap.objs.size=none:=a.hok.fresh (z9 _)
 refine ⟨.ref s1.heap.objs.size,upd H1 s1.heap.objs.size (.tup xs),a.laid (t':=s1.toks) (fun b u e=>zQ _ e) (z9 _) ?_,rfl,q _ hf⟩
 exact ⟨z,us,r,⟨_,zY _ rfl,rfl,_,rfl⟩⟩
theorem yI (h:PA X es t):PE X (.List es pos) (tLst t):=by
 intro pins s σ H Q I c
 refine wpAny_List_spliced (thn (h pos pins s σ H _ I c) fun us s1 ⟨xs,H1,a,r,z,q⟩=>⟨by rw [<- r.length];exact z,?_⟩)
 have hf:H1 s1.heap.objs.size=none:=a.hok.fresh (z9 _)
 refine ⟨.ref s1.heap.objs.size,upd H1 s1.heap.objs.size (.lst xs),a.laid (t':=s1.toks) (fun b u e=>zQ _ e) (z9 _) ?_,rfl,q _ hf⟩
 exact ⟨z,us,0,r,zY _ rfl⟩
end
abbrev Sp:=List V->Hp->VK->XK->Prop
abbrev CXT:=List Env->Hp->Shared->XK->Value->Shared->Prop
structure Env0 (P:Program) (w:World) (K:FG) (mg:Str->Option Value) (base:Heap) (A:Around) (outer:List Env) (s:Shared) (H:Hp):Prop where
 frames:A.frames=some outer
 mod:Mod K mg base
 bs:∀ b o,base.get? b=some o->s.heap.get? b=some o/\H b=none
 bsz:base.objs.size<=s.heap.objs.size
 funs:s.heap.FunFrames base outer
 frf:∀ b ∈ frs outer,H b=none
 hok:HOk P w H s.heap
 bare:AllBare s.gens
def CE (outer:List Env) (P:Program) (w:World) (H:Hp) (s:Shared) (Q:VK) (u:Value) (s':Shared):Prop :=
 ∃ v H',s'.os=s.os/\AllBare s'.gens/\Un (frs outer) [] H H' s.heap s'.heap/\HOk P w H' s'.heap/\RelV v u/\Q v H'
def CR (CX:CXT) (outer:List Env) (P:Program) (w:World) (H:Hp) (s:Shared) (Q:VK) (E:XK) (r:Result) (s':Shared):Prop :=
 match r with
 | .ok (.ret u)=>CE outer P w H s Q u s'
 | .ok _=>False
 | .error e=>CX outer H s E e s'
structure FnOk (P:Program) (w:World) (K:FG) (mg:Str->Option Value) (base:Heap) (CX:CXT) (k:Nat) (f:Addr) (fd:FuncData) (ps:List Str) (sp:Sp):Prop where
 len:∀ vs H Q E,sp vs H Q E->vs.length=ps.length
 run:∀ (A:Around) (outer:List Env) (s:Shared) (H:Hp) (args:Args) (us:List Value) (vs:List V) (Q:VK) (E:XK),Room k A->Env0 P w K mg base A outer s H->BindsTo s fd args (ps.zip us)->Vals vs us->sp vs H Q E ->
  codeAny (model P w) A (.call (.ref f) args) (CR CX outer P w H s Q E) s
theorem FnOk.imp {K:FG} {k:Nat} (F:FnOk P w K mg base CX k f fd ps sp) (h:∀ vs H Q E,sp' vs H Q E->sp vs H Q E):FnOk P w K mg base CX k f fd ps sp' :=
 ⟨fun vs H Q E q=>F.len vs H Q E (h _ _ _ _ q),fun A outer s H args us vs Q E d he c b a=>F.run A outer s H args us vs Q E d he c b (h _ _ _ _ a)⟩
section
variable {X:Cx} {pins:List (Addr × Obj)} {σ:St} {H:Hp} {s s':Shared}
theorem Inv.env0 (I:Inv X pins σ H s):Env0 X.prog X.w X.K X.mg X.base X.A X.stack s H :=
 ⟨I.ok.frames,I.ok.mod,I.bs,Aw I.ok.bsz I.sz,I.stack,I.stkFree,I.hok,I.bare⟩
theorem Inv.after (I:Inv X pins σ H s) (h:CE X.stack X.prog X.w H s Q u s'):EP X pins σ Q u s':=by
 obtain ⟨v,H',os,bare,un,hok,r,q⟩:=h
 obtain ⟨c,g,d,t,a⟩:=s'
 obtain rfl:a=s.os:=os
 exact ⟨v,H',I.call (h':=c) (g':=g) (d':=d) (t':=t) (ch:=[]) un hok bare (fun b z=>absurd z (by simp)),r,q⟩
end
def tCall (sp:Sp) (dvs:List V) (E:XK) (t:TA):TE:=fun σ H Q=>t σ H fun vs H1=>sp (vs ++ dvs) H1 Q E
def Binds (K:FG) (fd:FuncData) (ps:List Str) (ds:List Value):Prop :=
 ∀ (s:Shared) (us:List Value),K.In s.heap->(us ++ ds).length=ps.length->BindsTo s fd ⟨us,[]⟩ (ps.zip (us ++ ds))
theorem Binds.all {K:FG} (h:∀ us:List Value,us.length=ps.length->bindArgs fd ⟨us,[]⟩=pure (ps.zip us)):Binds K fd ps []:=fun s us _ a=>by
 rw [List.append_nil] at a ⊢
 exact .of_eq (h us a)
def oR (CX:CXT) (X:Cx) (E:XK):Prop:=∀ (pins:List (Addr × Obj)) (σ:St) (H:Hp) (s:Shared) (e:Value) (s':Shared),Inv X pins σ H s->CX X.stack H s E e s'->X.xe e s'
section
variable {X:Cx} {CX:CXT} {k:Nat} {f C:Addr} {fd:FuncData} {ps:List Str} {sp:Sp} {dvs:List V} {ds:List Value} {E:XK} {x m:Str} {p pos apos:Pos} {e o:Expr} {es:List Expr} {ta:TE} {t:TA}
theorem xV (F:FnOk X.prog X.w X.K X.mg X.base CX k f fd ps sp) (c:Room k X.A) (i:Binds X.K fd ps ds) (hd:Vals dvs ds) (d:oR CX X E) (I:Inv X pins σ H s) (r:Vals vs us) (h:sp (vs ++ dvs) H Q E):wpAny (model X.prog X.w) X.A (call (.ref f) us) (EP X pins σ Q) X.xe s:=by
 have b:Vals (vs ++ dvs) (us ++ ds):=r.append hd
 have g:(us ++ ds).length=ps.length:=by rw [<- b.length];exact F.len _ _ _ _ h
 refine wpAny_call (codeAny_mono (F.run X.A X.stack s H ⟨us,[]⟩ (us ++ ds) (vs ++ dvs) Q E c I.env0 (i s us I.kIn g) b h) fun r s' a=>?_)
 cases r with
 | error e=>exact d pins σ H s e s' I a
 | ok fl =>
  cases fl with
  | ret u=>exact I.after a
  | next=>exact False.elim a
  | brk=>exact False.elim a
  | cont=>exact False.elim a
theorem vI (F:FnOk X.prog X.w X.K X.mg X.base CX k f fd ps sp) (l:Room k X.A) (j:Gl X x) (hm:X.mg x=some (.ref f)) (i:PySem.W.keepIn X.K (.ref f)=true) (g:Binds X.K fd ps ds) (hd:Vals dvs ds) (m:oR CX X E)
  (d:PA X (e :: es) t) (a:(x == ("__debug__":Str))=false:=by decide) (he:starEach (e :: es) X.env=(false,eval e X.env) :: starEach es X.env:=by rfl) (b:(backTo pos (starEach es X.env)).any (·.1)=false:=by rfl) :
  PE X (.Call (.Name x p) (e :: es) [] pos) (tCall sp dvs E t):=by
 intro pins s σ H Q I h
 refine wpAny_Call_Name_kw (pA I j hm ?_ a)
 refine PySem.W.callWith_K (h₀:=X.base) I.ok.mod.kin i (thn (d pos pins s σ H _ I h) fun us s1 ⟨vs,H1,c,r,q⟩=>⟨c.kIn,?_⟩) he b
 exact xV F l g hd m c r q
end
structure FnScope (N P:List Str) (sc:Scope):Prop where
 kind:sc.kind=.function
 co:sc.isCoroutine=false
 gen:sc.isGenerator=false
 nd:N.Nodup
 pre:N.take P.length=P
 par:∀ x ∈ P,sc.names.lookup x=some .local\/sc.names.lookup x=some .cell
 nofree:∀ y ∈ sc.names,y.2 ≠ .free
theorem kE {kindOf:Str->Option NameKind}:∀ {binds:List (Str × Value)} {m:Str->Option Value},(∀ v,(x,v) ∉ binds)->bindL kindOf binds m x=m x
 | [],_,_=>rfl
 | (n,v) :: r,m,h=>by
  unfold bindL
  rw [kE fun w hw=>h w (zP _ hw)]
  split
  ·have:x ≠ n:=by rintro rfl;exact h v zO
   simp [this]
  ·rfl
theorem kG {kindOf:Str->Option NameKind}:∀ {binds:List (Str × Value)} {m:Str->Option Value},(∀ v,(x,v) ∉ binds)->bindC kindOf binds m x=m x
 | [],_,_=>rfl
 | (n,v) :: r,m,h=>by
  unfold bindC
  rw [kG fun w hw=>h w (zP _ hw)]
  split
  ·rfl
  ·have:x ≠ n:=by rintro rfl;exact h v zO
   simp [this]
theorem kF {kindOf:Str->Option NameKind}:∀ {P:List Str} {vs:List Value} {i:Nat} {m:Str->Option Value},P.Nodup->P[i]?=some x->vs[i]?=some v->kindOf x=some .local ->
  bindL kindOf (P.zip vs) m x=some v
 | [],_,_,_,_,h,_,_=>by simp at h
 | _ :: _,[],_,_,_,_,h,_=>by simp at h
 | p :: P,w :: vs,0,m,nd,h1,h2,hk=>by
  simp at h1 h2;subst h1;subst h2
  show bindL kindOf ((p,w) :: P.zip vs) m p=_
  unfold bindL
  rw [kE fun v a=>(List.nodup_cons.mp nd).1 (List.of_mem_zip a).1,if_pos hk]
  simp
 | p :: P,w :: vs,i+1,m,nd,h1,h2,hk=>by
  show bindL kindOf ((p,w) :: P.zip vs) m x=_
  unfold bindL
  exact kF (i:=i) (List.nodup_cons.mp nd).2 (by simpa using h1) (by simpa using h2) hk
theorem kH {kindOf:Str->Option NameKind}:∀ {P:List Str} {vs:List Value} {i:Nat} {m:Str->Option Value},P.Nodup->P[i]?=some x->vs[i]?=some v->kindOf x ≠ some .local ->
  bindC kindOf (P.zip vs) m x=some v
 | [],_,_,_,_,h,_,_=>by simp at h
 | _ :: _,[],_,_,_,_,h,_=>by simp at h
 | p :: P,w :: vs,0,m,nd,h1,h2,hk=>by
  simp at h1 h2;subst h1;subst h2
  show bindC kindOf ((p,w) :: P.zip vs) m p=_
  unfold bindC
  rw [kG fun v a=>(List.nodup_cons.mp nd).1 (List.of_mem_zip a).1,if_neg hk]
  simp
 | p :: P,w :: vs,i+1,m,nd,h1,h2,hk=>by
  show bindC kindOf ((p,w) :: P.zip vs) m x=_
  unfold bindC
  exact kH (i:=i) (List.nodup_cons.mp nd).2 (by simpa using h1) (by simpa using h2) hk
def iH (N:List Str) (vs:List V):St:=vs.map some ++ List.replicate (N.length - vs.length) none
def mU (CX:CXT) (P:Program) (w:World) (K:FG) (mg:Str->Option Value) (base:Heap) (N:List Str) (qual:Str) (scope:Scope) (f:Addr) (cd:Value) (A:Around) (outer:List Env) (s:Shared) (H:Hp) (E:XK):Cx where
 prog:=P
 w:=w
 K:=K
 mg:=mg
 base:=base
 A:=A.deeper (envOfC qual scope s.heap.objs.size f cd)
 N:=N
 s₀:=s
 H₀:=H
 env:=envOfC qual scope s.heap.objs.size f cd
 outer:=outer
 stack:=envOfC qual scope s.heap.objs.size f cd :: outer
 ex:=[]
 calm:=true
 fn:=fun _=>true
 pn:=[]
 xe:=fun e s'=>wpAny (model P w) (A.deeper (envOfC qual scope s.heap.objs.size f cd)) (leaving (envOfC qual scope s.heap.objs.size f cd) e) (fun _ a=>CX outer H s E e a) (fun b a=>CX outer H s E b a) s'
theorem m4 {sc:Scope} {n:Nat} (h:sc.names.lookup x=some .cell):∃ c,(cellsFrom n sc.names []).lookup x=some c:=by
 have q:=PySem.W.cellsFrom_some sc.names n [] (.inl h)
 exact Option.isSome_iff_exists.mp q
theorem qI {K:FG} (S:FnScope N ps scope) (hd:A.handled=none) (d:Env0 P w K mg base A outer s H) (D:vs.length=ps.length) (r:Vals vs us) (x:InCallC s s.heap.objs.size (bindL (envOfC qual scope s.heap.objs.size f cd).kindOf (ps.zip us) fun _=>none) (cellsFrom (s.heap.objs.size+1) scope.names []) (bindC (envOfC qual scope s.heap.objs.size f cd).kindOf (ps.zip us) fun _=>none) s1) :
  Inv (mU CX P w K mg base N qual scope f cd A outer s H E) [] (iH N vs) H s1:=by
 have C:ps.length<=N.length:=by have:=congrArg List.length S.pre;rw [Al] at this;omega
 obtain ⟨h1,F,rfl,o⟩:=x.done
 have g:∀ b:Addr,b ∉ (mU CX P w K mg base N qual scope f cd A outer s H E).ex:=fun b z=>absurd (show b ∈ ([]:List Addr) from z) (by simp)
 refine ⟨⟨d.mod,S.kind,rfl,rfl,z9 _,fun y z c h1 h2=>?_,fun y j=>?_,fun y c _ h=>?_,fun _=>hd,Around.frames_deeper d.frames,.inr ⟨rfl,rfl⟩,fun b z=>absurd z (g b),d.bs,d.bsz,fun b _ _=>g b,fun b z=>absurd z (g b),d.funs,d.frf⟩,
  rfl,d.bare,Un.kept o,⟨_,x.toInCall.ns,fun i y v h1 h2 h3=>?_⟩,fun y c h=>⟨_,x.cell y c h⟩,d.hok.fresh (z9 _),fun y c h=>?_,fun p l=>absurd (show p ∈ ([]:List (Addr × Obj)) from l) (by simp),d.hok.kept o,?_⟩
 ·exact name_of_addr x.apart (PySem.mem_of_lookup h1) (PySem.mem_of_lookup h2)
 ·have j:scope.names.lookup y=some .cell\/scope.names.lookup y=some .free:=j
  rcases j with j | j
  ·exact m4 j
  ·exact absurd rfl (S.nofree _ (PySem.mem_of_lookup j))
 ·exact Nat.le_of_lt (x.above y c (PySem.mem_of_lookup h))
 ·have hi:i < vs.length:=by
   unfold iH at h2
   by_cases hi:i < vs.length
   ·exact hi
   ·rw [List.getElem?_append_right (by simpa using hi)] at h2
    rw [List.getElem?_replicate] at h2
    split at h2 <;> cases h2
  have t:vs[i]?=some v:=by
   unfold iH at h2
   rw [As (by simpa using hi),z8] at h2
   cases e:vs[i]? with
   | none=>rw [e] at h2;cases h2
   | some a=>rw [e] at h2;cases h2;rfl
  obtain ⟨u,hu,B⟩:=r.get t
  have l:ps[i]?=some y:=by
   rw [<- S.pre,List.getElem?_take_of_lt (by omega)];exact h1
  have m:ps.Nodup:=by rw [<- S.pre];exact S.nd.sublist (List.take_sublist _ _)
  refine ⟨u,B,?_⟩
  rcases S.par y (z5 l) with k | k
  ·exact .inl ⟨k,kF m l hu k⟩
  ·obtain ⟨c,e⟩:=m4 (n:=s.heap.objs.size+1) k
   refine .inr ⟨.inl k,c,e,?_⟩
   have q:=x.cell y c e
   rw [kH m l hu (by show scope.names.lookup y ≠ _;rw [k];decide)] at q
   exact q
 ·exact d.hok.fresh (Nat.le_of_lt (x.above y c (PySem.mem_of_lookup h)))
 ·unfold iH
  show _=N.length
  rw [Aj,zZ,List.length_replicate]
  omega
theorem fn_of {K:FG} {k:Nat} {z kV doc pm a ct G:Value} (D:K.lookup f=some ⟨G,od,.func (PySem.W.fnOf name qual params body scope z kV doc pm an a ct),osl⟩) (m:PySem.W.codeIn K a qual=true) (S:FnScope N ps scope) (len:∀ vs H Q E,sp vs H Q E->vs.length=ps.length) (d:∀ (A:Around) (outer:List Env) (s:Shared) (H:Hp) (vs:List V) (Q:VK) (E:XK),Room k (A.deeper (envOfC qual scope s.heap.objs.size f a))->sp vs H Q E ->
   ∃ t,PSs (mU CX P w K mg base N qual scope f a A outer s H E) body t/\t { nx:=fun _ H'=>Q .non H',rt:=Q } (iH N vs) H) :
  FnOk P w K mg base CX (k+1) f (PySem.W.fnOf name qual params body scope z kV doc pm an a ct) ps sp:=by
 refine ⟨len,fun A outer s H args us vs Q E j h B r i=>?_⟩
 have C:=len _ _ _ _ i
 have p:K.In s.heap:=h.mod.kin.keeps fun b o e=>(h.bs b o e).1
 have lim:s.heap.NoLimit:=h.mod.nolimit.keeps fun b o e=>(h.bs b o e).1
 have c:∀ y ∈ ps.zip us,scope.names.lookup y.1=some .local\/(scope.names.lookup y.1=some .cell/\((cellsFrom (s.heap.objs.size+1) scope.names []).lookup y.1).isSome=true):=fun ⟨n,v⟩ F=>by
  rcases S.par n (List.of_mem_zip F).1 with q | q
  ·exact .inl q
  ·exact .inr ⟨q,PySem.W.cellsFrom_some _ _ _ (.inl q)⟩
 refine codeAny_call_function j.depth (p _ _ D) rfl S.co S.gen rfl (PySem.W.codeRec_of p m) (B _ _ _ _ ?_)
 refine wpAny_newFunctionEnv_cells S.kind c fun env he s1 x=>?_
 subst he
 refine ⟨lim.keeps x.toInCall.keep,codeAny_func ?_⟩
 obtain ⟨t,L,M⟩:=d A outer s H vs Q E (j.deeper _) i
 have I:Inv (mU CX P w K mg base N qual scope f a A outer s H E) [] (iH N vs) H s1:=qI S j.hd h C r x
 refine wpAny_mono (L [] s1 (iH N vs) H _ I M) (fun fl s' g=>?_) fun e s' g=>g
 have fin:∀ {σ':St} {H':Hp} {v:V} {u:Value},Inv (mU CX P w K mg base N qual scope f a A outer s H E) [] σ' H' s'->RelV v u->Q v H'->CE outer P w H s Q u s' :=
  fun {σ' H' v u} J l q=>⟨v,H',J.os,J.bare,J.base,J.hok,l,q⟩
 cases fl with
 | ret u =>
  obtain ⟨v,σ',H',J,l,q⟩:=g
  exact fin J l q
 | next =>
  obtain ⟨σ',H',J,q⟩:=g
  exact fin (v:=V.non) (u:=Value.none) J rfl q
 | brk =>
  obtain ⟨_,_,_,q⟩:=g
  exact False.elim q
 | cont =>
  obtain ⟨_,_,_,q⟩:=g
  exact False.elim q
end L2
namespace L2
open PySem PySem.Spec PyProof.Rows
section
variable {X:Cx} {x:Str} {p pos:Pos} {e:Expr} {es:List Expr} {t:TA} {id T:String} {r:List V->Hp->VK->Prop}
def tCB (r:List V->Hp->VK->Prop) (t:TA):TE:=fun σ H Q=>t σ H fun vs H1=>r vs H1 Q
theorem mi (g:cv X (.builtin id) r) (i:Gl X x) (hm:X.mg x=none) (d:bootBuiltins x=some (.builtin id)) (c:PA X (e :: es) t) (j:x ≠ "__name__":=by decide) (a:(x == ("__debug__":Str))=false:=by decide)
  (he:starEach (e :: es) X.env=(false,eval e X.env) :: starEach es X.env:=by rfl) (b:(backTo pos (starEach es X.env)).any (·.1)=false:=by rfl):PE X (.Call (.Name x p) (e :: es) [] pos) (tCB r t):=by
 intro pins s σ H Q I h
 refine wpAny_Call_Name_kw (fV I i hm d ?_ j a)
 exact PyProof.Rows.callWith_builtin1 (thn (c pos pins s σ H _ I h) fun us s1 ⟨vs,H1,f,l,k⟩=>g pins s1 σ H1 vs us Q f l k) he b
theorem qr (g:cv X (.type T) r) (i:Gl X x) (hm:X.mg x=none) (d:bootBuiltins x=some (.type T)) (c:PA X (e :: es) t) (j:x ≠ "__name__":=by decide) (a:(x == ("__debug__":Str))=false:=by decide)
  (he:starEach (e :: es) X.env=(false,eval e X.env) :: starEach es X.env:=by rfl) (b:(backTo pos (starEach es X.env)).any (·.1)=false:=by rfl):PE X (.Call (.Name x p) (e :: es) [] pos) (tCB r t):=by
 intro pins s σ H Q I h
 refine wpAny_Call_Name_kw (fV I i hm d ?_ j a)
 exact PyProof.Rows.callWith_type1 (thn (c pos pins s σ H _ I h) fun us s1 ⟨vs,H1,f,l,k⟩=>g pins s1 σ H1 vs us Q f l k) he b
end
end L2
namespace HT
open PySem PyProof.Rows
def lexLt:List Int->List Int->Bool
 | [],[]=>false
 | [],_ :: _=>true
 | _ :: _,[]=>false
 | x :: xs,y :: ys=>if x=y then lexLt xs ys else decide (x < y)
section
open PySem.SeqAt
open PySem.AutoSeq1 (wpAny_loadPart')
open PySem.MeetsSeq PySem.MeetsSeq2 PySem.MeetsSeq3
end
section
variable {prog:Program} {w:World} {A:Around} {E:Value->Shared->Prop} {s:Shared}
theorem cat_tup (m:IsTup s.heap t vs.toArray) (o:IsTup s.heap b ws.toArray) (h:vs ≠ []) (h1:ws=[]->Q (.ref t) s) (h2:ws ≠ []->Q (.ref s.heap.objs.size) { s with heap:=s.heap.push { cls:=.type "tuple",data:=.seq (vs ++ ws).toArray } }) (hsz:vs.length+ws.length<=sizeLine):wpAny (model prog w) A (binaryOp .Add (.ref t) (.ref b)) Q E s:=by
 obtain ⟨⟨cls,l,data,sl⟩,g,i,n,hd⟩:=id m
 obtain ⟨⟨k,c,data2,f⟩,a,d,j,hd2⟩:=id o
 simp only at i hd d hd2
 subst i hd d hd2
 have e:vs.toArray ++ ws.toArray=(vs ++ ws).toArray:=by simp
 by_cases hw:ws=[]
 ·exact concat_meets ⟨_,g,rfl⟩ ⟨_,a,rfl⟩ noFill_tuple_add seq_tuple_add PySem.F.slot_tuple_add PySem.F.entry_tuple_add (PySem.F.args_tuple_add_2 _ _)
   (tuple_addW1 t b vs.toArray ws.toArray n j l c sl f (by simpa using h) (by simp [hw])) ⟨g,a,h1 hw⟩
 ·refine concat_meets ⟨_,g,rfl⟩ ⟨_,a,rfl⟩ noFill_tuple_add seq_tuple_add PySem.F.slot_tuple_add PySem.F.entry_tuple_add (PySem.F.args_tuple_add_2 _ _)
   (tuple_addW2 t b vs.toArray ws.toArray n j l c sl f (by simpa using h) (by simpa using hw) (by rw [Ac,Ac];exact hsz)) ⟨g,a,?_⟩
  rw [e]
  exact h2 hw
def sIx (n d:Nat):Option Int->Nat
 | none=>d
 | some v=>if v < 0 then (v+(n:Int)).toNat else min v.toNat n
theorem sIx_none (n d:Nat):sIx n d none=d:=rfl
theorem sIx_nat (n d k:Nat):sIx n d (some (k:Int))=min k n:=by
 show (if (k:Int) < 0 then ((k:Int)+(n:Int)).toNat else min (k:Int).toNat n)=min k n
 rw [if_neg (by omega),Int.toNat_natCast]
theorem xR (n d:Nat) (hd:d<=n) (o:Option Int):sIx n d o<=n:=by
 cases o with
 | none=>exact hd
 | some v =>
  show (if v < 0 then (v+(n:Int)).toNat else min v.toNat n)<=n
  by_cases a:v < 0
  ·rw [if_pos a];omega
  ·rw [if_neg a];exact Nat.min_le_right _ _
theorem pQ (v:Int) (n d:Nat):(if v < 0 then max (v+(n:Int)) 0 else min v (n:Int))=((sIx n d (some v):Nat):Int):=by
 show (if v < 0 then max (v+(n:Int)) 0 else min v (n:Int))=(((if v < 0 then (v+(n:Int)).toNat else min v.toNat n):Nat):Int)
 by_cases a:v < 0
 ·simp only [if_pos a];omega
 ·simp only [if_neg a];omega
theorem oQ (lo hi:Option Int) (n:Nat):Builtin.Slice.sliceAdjust lo hi 1 (n:Int)=(((sIx n 0 lo:Nat):Int),((sIx n n hi:Nat):Int)):=by
 have h1:¬ ((1:Int) < 0):=by omega
 unfold Builtin.Slice.sliceAdjust
 simp only [h1,if_false]
 refine Prod.ext ?_ ?_
 ·cases lo with
  | none=>rfl
  | some v=>exact pQ v n 0
 ·cases hi with
  | none=>rfl
  | some v=>exact pQ v n n
theorem n9 (i j:Nat):Builtin.Slice.slicePlaces (i:Int) (j:Int) 1=j - i:=by
 unfold Builtin.Slice.slicePlaces
 have h1:(1:Int) > 0:=by omega
 simp only [h1,if_true,Int.ediv_one]
 split <;> omega
theorem slicePart_ (p:IsPart v o) (h:Q o s):wpAny (model prog w) A (Builtin.Slice.slicePartIndex v) Q E s:=by
 cases p with
 | none=>exact slicePart_none h
 | int i t=>exact slicePart_int h
theorem dJ {sl:Addr} {c d:Value} {lo hi:Option Int} {n:Nat} (e:s.heap.IsSliceOf sl c d .none) (pl:IsPart c lo) (pu:IsPart d hi) (h:Q (((sIx n 0 lo:Nat):Int),1,sIx n n hi - sIx n 0 lo) s):wpAny (model prog w) A (Builtin.Slice.sliceApplied (.ref sl) (pure (n:Int))) Q E s:=by
 obtain ⟨os,a,f,b⟩:=id e
 unfold Builtin.Slice.sliceApplied Builtin.Slice.sliceFields
 refine zL (zL (wpAny_field a b (x:=c) rfl (zL (wpAny_field a b (x:=d) rfl (zL (wpAny_field a b (x:=.none) rfl (zM ?_)))))))
 refine zL (slicePart_none ?_)
 show wpAny _ _ (if ((1:Int) == 0)=true then _ else _) _ _ s
 rw [if_neg (by decide)]
 refine zL (slicePart_ pl (zL (slicePart_ pu (zL (zM ?_)))))
 show wpAny _ _ (match Builtin.Slice.sliceAdjust lo hi 1 (n:Int) with | (lo,hi)=>pure (lo,(1:Int),Builtin.Slice.slicePlaces lo hi 1)) _ _ s
 rw [oQ lo hi n]
 show wpAny _ _ (pure (((sIx n 0 lo:Nat):Int),(1:Int),Builtin.Slice.slicePlaces ((sIx n 0 lo:Nat):Int) ((sIx n n hi:Nat):Int) 1)) _ _ s
 rw [n9]
 exact zM h
theorem sI (xs:Array Value) (i k:Nat):((List.range k).filterMap fun (m:Nat)=>xs[((i:Int)+(m:Int) * 1).toNat]?).toArray=((xs.toList.drop i).take k).toArray:=by
 have e:(fun (m:Nat)=>xs[((i:Int)+(m:Int) * 1).toNat]?)=fun m=>xs[i+m]?:=by
  funext m
  have:((i:Int)+(m:Int) * 1).toNat=i+m:=by omega
  rw [this]
 rw [e]
 have:=pick_run xs i k
 rw [List.filterMap_map] at this
 have a:((fun x=>xs[x]?) ∘ fun x=>i+x)=fun m=>xs[i+m]?:=rfl
 rw [a] at this
 rw [this]
theorem getItem_tuple_cut {lo hi:Option Int} (b:IsTup s.heap t items) (g:s.heap.IsSliceOf sl vl vu .none) (pl:IsPart vl lo) (pu:IsPart vu hi) (hw:¬ (sIx items.size 0 lo=0/\sIx items.size items.size hi=items.size)) (h:Q (.ref s.heap.objs.size) { s with heap:=s.heap.push { cls:=.type "tuple",data:=.seq ((items.toList.drop (sIx items.size 0 lo)).take (sIx items.size items.size hi - sIx items.size 0 lo)).toArray } }) (hsz:items.size<=sizeLine):wpAny (model prog w) A (getItem (.ref t) (.ref sl)) Q E s:=by
 have a:sizeOk (.seq ((items.toList.drop (sIx items.size 0 lo)).take (sIx items.size items.size hi - sIx items.size 0 lo)).toArray):=by
  show ((items.toList.drop (sIx items.size 0 lo)).take (sIx items.size items.size hi - sIx items.size 0 lo)).toArray.size<=sizeLine
  rw [Ac,Al,List.length_drop,Array.length_toList]
  omega
 have j:sIx items.size items.size hi<=items.size:=xR _ _ (z9 _) hi
 obtain ⟨os,e,f,i⟩:=id g
 have d:s.TypeIs (.ref sl) "slice":=⟨os,e,f⟩
 unfold getItem
 try with_reducible refine zN ?_
 first | refine zL (zM ?_) | skip
 refine zL (wpAny_sequenceKey b.typeIs (by decide) ?_)
 refine zL (wpAny_callSpecial?_slot (name:=Str.ofString "__getitem__") b.typeIs PyProof.Rows.slot_tuple_getitem
  (wpAny_call_entry PyProof.Rows.slot_tuple_getitem b.typeIs entry_tuple_getitem ?_ (args_tuple_getitem _ _)))
 show wpAny _ _ (Builtin.Tuple.tupleItemsOf (.ref t) >>= _) _ _ s
 refine zL (tupleItemsOf_ b ?_)
 refine zL (wpAny_typeOf d ?_)
 rw [if_pos (by decide)]
 refine zL (dJ g pl pu ?_)
 have c:¬ ((((sIx items.size 0 lo:Nat):Int) == 0 && (1:Int) == 1 && (sIx items.size items.size hi - sIx items.size 0 lo) == items.size)=true):=by
  intro q
  rw [Bool.and_eq_true,Bool.and_eq_true] at q
  have l:((sIx items.size 0 lo:Nat):Int)=0:=eq_of_beq q.1.1
  have k:sIx items.size items.size hi - sIx items.size 0 lo=items.size:=eq_of_beq q.2
  exact hw ⟨by omega,by omega⟩
 show wpAny _ _ (if (((sIx items.size 0 lo:Nat):Int) == 0 && (1:Int) == 1 && (sIx items.size items.size hi - sIx items.size 0 lo) == items.size)=true then _ else _) _ _ s
 rw [if_neg c,sI]
 first
  | exact zL (m:=Builtin.Tuple.tupleExact _) (wpAny_newObj_type (zM ⟨_,rfl,zM h⟩) a)
  | exact zL (m:=Builtin.Tuple.tupleExact _) (wpAny_newObj_type (zL (zM (zM ⟨_,rfl,zM h⟩))) a)
  | exact zL (zL (m:=Builtin.Tuple.tupleExact _) (wpAny_newObj_type (zM (zM ⟨_,rfl,zM h⟩)) a))
  | exact zL (zL (m:=Builtin.Tuple.tupleExact _) (wpAny_newObj_type (zM ⟨_,rfl,zM h⟩) a))
end
end HT
namespace L2
open PySem PySem.Spec PyProof.Rows
abbrev TO:=St->Hp->(Option Int->Hp->Prop)->Prop
def PO (X:Cx) (e:Option Expr) (t:TO):Prop :=
 ∀ (pins:List (Addr × Obj)) (s:Shared) (σ:St) (H:Hp) (Q:Option Int->Hp->Prop),Inv X pins σ H s->t σ H Q ->
  wpAny (model X.prog X.w) X.A (evalPart e X.env) (fun u s'=>∃ o H',Inv X pins σ H' s'/\IsPart u o/\Q o H') X.xe s
def uB:TO:=fun _ H Q=>Q none H
def tPart (t:TE):TO:=fun σ H Q=>t σ H fun x H1=>∃ i,x=.int i/\Q (some i) H1
section
variable {X:Cx} {e:Expr} {te:TE} {lo hi:Option Expr} {tl th:TO} {pos p2:Pos}
theorem vC:PO X none uB:=by
 intro pins s σ H Q I h
 rw [evalPart_none]
 exact zM ⟨none,H,I,.none,h⟩
theorem vB (h:PE X e te):PO X (some e) (tPart te):=by
 intro pins s σ H Q I hw
 rw [evalPart_some]
 refine thn (h pins s σ H _ I hw) fun u s1 ⟨x,H1,a,c,b⟩=>?_
 obtain ⟨i,rfl,q⟩:=b
 obtain ⟨t,rfl⟩:=c
 exact ⟨some i,H1,a,.int i t,q⟩
def SlR (X:Cx) (r:V->Option Int->Option Int->Hp->VK->Prop):Prop :=
 ∀ (pins:List (Addr × Obj)) (s:Shared) (σ:St) (H:Hp) (x:V) (v a b:Value) (lo hi:Option Int) (sl:Addr) (Q:VK),Inv X pins σ H s->RelV x v->s.heap.IsSliceOf sl a b .none->IsPart a lo->IsPart b hi->r x lo hi H Q ->
  ∃ T id,typeLookup (.type T) "__getitem__"=pure (some (.builtin id))/\s.TypeIs v T/\wpAny (model X.prog X.w) X.A (getItem v (.ref sl)) (EP X pins σ Q) X.xe s
theorem SlR.or (h:SlR X r) (h':SlR X r'):SlR X (fun x lo hi H Q=>r x lo hi H Q\/r' x lo hi H Q):=by
 intro pins s σ H x v c d lo hi sl Q I b a pl pu q
 rcases q with q | q
 ·exact h pins s σ H x v c d lo hi sl Q I b a pl pu q
 ·exact h' pins s σ H x v c d lo hi sl Q I b a pl pu q
def tSl (r:V->Option Int->Option Int->Hp->VK->Prop) (te:TE) (tl th:TO):TE:=fun σ H Q=>te σ H fun x H1=>tl σ H1 fun l H2=>th σ H2 fun u a=>r x l u a Q
theorem sL (i:SlR X r) (he:PE X e te) (m:PO X lo tl) (hu:PO X hi th):PE X (.Subscript e (.Slice lo hi none p2) pos) (tSl r te tl th):=by
 intro pins s σ H Q I h
 refine Subscript_ (thn (he pins s σ H _ I h) fun v s1 ⟨x,H1,o,B,z⟩=>?_)
 refine wpAny_Slice (thn (m pins s1 σ H1 _ o z) fun a s2 ⟨l,H2,p,pl,y⟩=>thn (hu pins s2 σ H2 _ p y) fun c s3 ⟨u,d,f,pu,k⟩=>?_)
 rw [evalPart_none]
 refine zM ?_
 have j:Inv X pins σ d { s3 with heap:=s3.heap.push { cls:=.type "slice",data:=.fields #[a,c,.none] } }:=f.kept (t':=s3.toks) fun b ob q=>zQ _ q
 obtain ⟨T,id,n,t,g⟩:=i pins { s3 with heap:=s3.heap.push { cls:=.type "slice",data:=.fields #[a,c,.none] } } σ d x v a c l u s3.heap.objs.size Q j B (Heap.IsSliceOf.new ..) pl pu k
 show wpAny (model X.prog X.w) X.A (subscriptTail e (.Slice lo hi none p2) v (.ref s3.heap.objs.size)) (EP X pins σ Q) X.xe { s3 with heap:=s3.heap.push { cls:=.type "slice",data:=.fields #[a,c,.none] } }
 exact tail_any (ops:=[.ref s3.heap.objs.size,v]) t n g (by with_unfolding_all rfl)
def mV (xs:List V) (lo hi:Option Int):List V:=(xs.drop (HT.sIx xs.length 0 lo)).take (HT.sIx xs.length xs.length hi - HT.sIx xs.length 0 lo)
theorem iT (xs:List V) (lo hi:Option Int):(mV xs lo hi).length<=xs.length:=by
 unfold mV
 rw [Al,List.length_drop]
 omega
def yr (K:FG):V->Option Int->Option Int->Hp->VK->Prop:=fun x lo hi H Q=>∃ a xs,x=.ref a/\SqT K H a xs /\
 ¬ (HT.sIx xs.length 0 lo=0/\HT.sIx xs.length xs.length hi=xs.length)/\∀ p,H p=none->Q (.ref p) (upd H p (.tup (mV xs lo hi)))
theorem sl_tup:SlR X (yr X.K):=by
 intro pins s σ H x v i j lo hi sl Q I f e pl pu h
 obtain ⟨a,xs,rfl,g,hw,q⟩:=h
 cases f
 obtain ⟨c,r,d,hz⟩:=I.tuple g
 have hlen:c.toArray.size=xs.length:=by rw [Ac];exact r.length.symm
 refine ⟨"tuple",_,PyProof.Rows.slot_tuple_getitem.lookup,d.typeIs,?_⟩
 refine HT.getItem_tuple_cut d e pl pu (by rw [hlen];exact hw) ?_ (by rw [hlen];exact hz)
 rw [hlen]
 refine ⟨.ref s.heap.objs.size,_,I.laid (t':=s.toks) (o:=.tup (mV xs lo hi)) (fun b ob q=>zQ _ q) (z9 _) ?_,rfl,q _ (I.hok.fresh (z9 _))⟩
 exact ⟨Aw (iT xs lo hi) hz,_,(r.drop (HT.sIx xs.length 0 lo)).take (HT.sIx xs.length xs.length hi - HT.sIx xs.length 0 lo),IsTupD.new _ _⟩
def o6 (K:FG):R2:=fun x y H Q=>∃ a b xs ys,x=.ref a/\y=.ref b/\SqT K H a xs/\SqT K H b ys/\xs ≠ []/\xs.length+ys.length<=sizeLine /\
 (ys=[]->Q (.ref a) H)/\(ys ≠ []->∀ p,H p=none->Q (.ref p) (upd H p (.tup (xs ++ ys))))
theorem Vals.nil_iff (r:Vals xs us):us=[] ↔ xs=[]:=by
 cases r with
 | nil=>simp
 | cons _ _=>simp
theorem op_catT:OpR X (binaryOp .Add) (o6 X.K):=by
 intro pins s σ H x y v u Q I f p h
 obtain ⟨a,b,xs,ys,rfl,rfl,g,i,l,hz,k,j⟩:=h
 cases f
 cases p
 obtain ⟨m,d,n,_⟩:=I.tuple g
 obtain ⟨e,c,p2,_⟩:=I.tuple i
 refine HT.cat_tup n p2 (fun z=>l (d.nil_iff.mp z)) (fun z=>⟨.ref a,H,I,rfl,k (c.nil_iff.mp z)⟩) (fun z=>?_) (by rw [<- d.length,<- c.length];exact hz)
 refine ⟨.ref s.heap.objs.size,_,I.laid (t':=s.toks) (o:=.tup (xs ++ ys)) (fun b ob q=>zQ _ q) (z9 _) ?_,rfl,j (fun w=>z (c.nil_iff.mpr w)) _ (I.hok.fresh (z9 _))⟩
 exact ⟨by rw [Aj];exact hz,_,d.append c,IsTupD.new _ _⟩
end
end L2
namespace L2
open PySem PySem.Spec PyProof.Rows
def ixN (n:Nat) (i:Int):Option Nat:=if 0<=i then (if i < n then some i.toNat else none) else if -(n:Int)<=i then some (i+n).toNat else none
def atI {α:Type} (xs:List α) (i:Int):Option α:=(ixN xs.length i).bind fun j=>xs[j]?
theorem pD {n:Nat} {i:Int} {j:Nat} (h:ixN n i=some j):seqIndex? i n=some j/\j < n/\-(n:Int)<=i/\i < n:=by
 unfold ixN at h
 by_cases h0:0<=i
 ·rw [if_pos h0] at h
  by_cases h1:i < n
  ·rw [if_pos h1] at h
   have e:i.toNat=j:=AC h
   exact ⟨by rw [seqIndex_of h0 h1,e],by omega,by omega,h1⟩
  ·rw [if_neg h1] at h;cases h
 ·rw [if_neg h0] at h
  by_cases h1:-(n:Int)<=i
  ·rw [if_pos h1] at h
   have e:(i+n).toNat=j:=AC h
   exact ⟨by rw [seqIndex_neg (by omega) h1,e],by omega,h1,by omega⟩
  ·rw [if_neg h1] at h;cases h
theorem pW {i:Int} (h:atI xs i=some v):∃ j,seqIndex? i xs.length=some j/\xs[j]?=some v/\j < xs.length/\-(xs.length:Int)<=i/\i < xs.length:=by
 unfold atI at h
 cases e:ixN xs.length i with
 | none=>rw [e] at h;cases h
 | some j =>
  rw [e] at h
  obtain ⟨h1,h2,h3,a⟩:=pD e
  exact ⟨j,h1,h,h2,h3,a⟩
theorem uc (xs:List α) (v:α):atI (xs ++ [v]) (-1)=some v:=by
 have a:(xs ++ [v]).length=xs.length+1:=by simp
 have e:ixN (xs ++ [v]).length (-1)=some xs.length:=by
  unfold ixN
  rw [a,if_neg (by decide),if_pos (by omega)]
  congr 1
  omega
 unfold atI
 rw [e]
 show (xs ++ [v])[xs.length]?=some v
 simp
def pZ (b:Expr):Prop:=∀ o i,subscripted b false o i=operate [o,i] (getItem o i)
def IxR (X:Cx) (r:R2):Prop :=
 ∀ (value slice:Expr) (pins:List (Addr × Obj)) (s:Shared) (σ:St) (H:Hp) (x y:V) (v u:Value) (Q:VK),Inv X pins σ H s->RelV x v->RelV y u->r x y H Q ->
  subscripted slice false v u=operate [v,u] (getItem v u)->wpAny (model X.prog X.w) X.A (subscriptTail value slice v u) (EP X pins σ Q) X.xe s
def MtR (X:Cx) (id:String) (r:V->List V->Hp->VK->Prop):Prop :=
 ∀ (pins:List (Addr × Obj)) (s:Shared) (σ:St) (H:Hp) (x:V) (xs:List V) (v:Value) (us:List Value) (Q:VK),Inv X pins σ H s->RelV x v->Vals xs us->r x xs H Q ->
  wpAny (model X.prog X.w) X.A (call (.builtin id) (v :: us)) (EP X pins σ Q) X.xe s
section
variable {X:Cx} {a b:Expr} {ta tb:TE} {pos:Pos}
theorem IxR.or (h:IxR X r) (h':IxR X r'):IxR X (fun x y H Q=>r x y H Q\/r' x y H Q):=by
 intro value slice pins s σ H x y v u Q I b c q a
 rcases q with q | q
 ·exact h value slice pins s σ H x y v u Q I b c q a
 ·exact h' value slice pins s σ H x y v u Q I b c q a
theorem pe_ix (i:IxR X r) (e:PE X a ta) (g:PE X b tb) (c:pZ b):PE X (.Subscript a b pos) (tOp r ta tb):=by
 intro pins s σ H Q I h
 exact Subscript_ (zD e g I h fun v u s2 x y H2 f d j q=>i a b pins s2 σ H2 x y v u Q f d j q (c _ _))
def sy (K:FG):R2:=fun x y H Q=>∃ p xs i v,x=.ref p/\y=.int i/\SqL K H p xs/\atI xs i=some v/\Q v H
def su (K:FG):R2:=fun x y H Q=>∃ p xs i v,x=.ref p/\y=.int i/\SqT K H p xs/\atI xs i=some v/\Q v H
theorem ix_list:IxR X (sy X.K):=by
 intro value slice pins s σ H x y v u Q I k l h d
 obtain ⟨p,xs,i,z,rfl,rfl,m,he,q⟩:=h
 cases k
 obtain ⟨t,rfl⟩:=l
 obtain ⟨c,r,pl,hz⟩:=I.list m
 obtain ⟨j,h1,h2,h3,f,h5⟩:=pW he
 obtain ⟨w,e,a⟩:=r.get h2
 have g:=r.length
 have n:=ld
 have fin:EP X pins σ Q w s:=⟨z,H,I,a,q⟩
 by_cases h0:0<=i
 ·have b:i.toNat=j:=by
   rw [seqIndex_of h0 h5] at h1
   exact AC h1
  exact item_listR pl.isList h0 (by omega) (by rw [b];simpa using e) fin d
 ·have b:(i+(c.toArray.size:Int)).toNat=j:=by
   rw [seqIndex_neg (by omega) f] at h1
   rw [Ac,<- g]
   exact AC h1
  exact subscriptTail_builtinR (x:=w) pl.isList.typeIs slot_list_getitem.lookup
   (wpAny_getItem_list_neg (Q:=fun r s'=>r=w/\EP X pins σ Q r s') pl.isList (by omega) (by rw [Ac] <;> omega) (by omega) (by rw [b];simpa using e) ⟨rfl,fin⟩) d
theorem zk:IxR X (su X.K):=by
 intro value slice pins s σ H x y v u Q I e f h b
 obtain ⟨p,xs,i,z,rfl,rfl,k,he,q⟩:=h
 cases e
 obtain ⟨t,rfl⟩:=f
 obtain ⟨d,r,pl,hz⟩:=I.tuple k
 obtain ⟨j,h1,h2,h3,m,h5⟩:=pW he
 obtain ⟨w,g,a⟩:=r.get h2
 have c:=r.length
 have l:=ld
 have fin:EP X pins σ Q w s:=⟨z,H,I,a,q⟩
 exact subscriptTail_builtinR (x:=w) pl.typeIs slot_tuple_getitem.lookup
  (getItem_tuple (j:=j) (Q:=fun r s'=>r=w/\EP X pins σ Q r s') pl (by omega) (by omega) (by rw [Ac,<- c];exact h1) (by simpa using g) ⟨rfl,fin⟩) b
theorem ol (a:List Value) (n j:Nat) (u:Value):Obj.mapSeq (·.setIfInBounds j u) { cls:=.type "list",data:=.seq a.toArray n } = { cls:=.type "list",data:=.seq (a.set j u).toArray n }:=by
 simp [Obj.mapSeq]
theorem Inv.lst {pins:List (Addr × Obj)} {σ:St} {H:Hp} {s:Shared} {p:Addr} {xs:List V} (I:Inv X pins σ H s) (h:H p=some (.lst xs)) :
  ∃ (a:List Value) (n:Nat),Vals xs a/\s.heap.get? p=some { cls:=.type "list",data:=.seq a.toArray n }/\xs.length<=sizeLine:=by
 obtain ⟨z,a,n,r,e⟩:=I.hok p _ h
 exact ⟨a,n,r,e,z⟩
theorem Inv.lstUpd {a its':List Value} {n c:Nat} (I:Inv X pins σ H s) (h:H p=some (.lst xs)) (g:s.heap.get? p=some { cls:=.type "list",data:=.seq a.toArray n }) (hf:f { cls:=.type "list",data:=.seq a.toArray n } = { cls:=.type "list",data:=.seq its'.toArray c }) (r:Vals ys its') (hz:ys.length<=sizeLine) (t:Nat) :
  Inv X pins σ (upd H p (.lst ys)) { s with heap:=s.heap.update p f,toks:=t }:=by
 have e:(s.heap.update p f).get? p=some { cls:=.type "list",data:=.seq its'.toArray c }:=by
  rw [Ai f g (by rw [hf] <;> rfl),hf]
 refine I.write (x:=p) (e:=p) (by rw [h];trivial) (.inl rfl) (fun b u d q=>(At _ _ (Ne.symm d)).trans q) ⟨_,e⟩ ?_
 exact ⟨hz,its',c,r,e⟩
def oY:V->V->V->Hp->(Hp->Prop)->Prop:=fun o i v H Q=>∃ p xs k j,o=.ref p/\i=.int k/\H p=some (.lst xs)/\ixN xs.length k=some j/\Q (upd H p (.lst (xs.set j v)))
theorem rQ:uo X oY:=by
 intro pins s σ H o i v ov z u Q I l x w h
 obtain ⟨p,xs,k,j,rfl,rfl,g,m,q⟩:=h
 cases l
 obtain ⟨t,rfl⟩:=x
 obtain ⟨a,n,r,d,hz⟩:=I.lst g
 obtain ⟨h1,h2,h3,e⟩:=pD m
 have b:=r.length
 have y:=ld
 have f:Inv X pins σ (upd H p (.lst (xs.set j v))) { s with heap:=s.heap.update p (Obj.mapSeq (·.setIfInBounds j u)) } :=
  I.lstUpd g d (ol a n j u) (r.set w j) (by rw [List.length_set];exact hz) s.toks
 by_cases h0:0<=k
 ·have c:k.toNat=j:=by
   rw [seqIndex_of h0 e] at h1
   exact AC h1
  exact PySem.W.ki_setAt d h0 (by omega) (by rw [Ac,<- b];exact e) (by rw [c];exact ⟨_,f,q⟩)
 ·have c:(k+(a.toArray.size:Int)).toNat=j:=by
   rw [seqIndex_neg (by omega) h3] at h1
   rw [Ac,<- b]
   exact AC h1
  exact PySem.W.ki_setBack d (by omega) (by rw [Ac,<- b];exact h3) (by omega) (by rw [c];exact ⟨_,f,q⟩)
theorem kO (lo hi:Option Int) (n:Nat):(sliceBounds lo hi none n).1=((HT.sIx n 0 lo:Nat):Int)/\(sliceBounds lo hi none n).2.1=((HT.sIx n n hi:Nat):Int)/\(sliceBounds lo hi none n).2.2=1:=by
 refine ⟨?_,?_,rfl⟩
 ·cases lo with
  | none=>simp [sliceBounds,HT.sIx]
  | some i =>
   simp only [sliceBounds,HT.sIx,Option.getD_none,show (1:Int) > 0 by decide,if_true]
   by_cases h:i < 0
   ·simp only [h,if_true] <;> omega
   ·simp only [h,if_false] <;> omega
 ·cases hi with
  | none=>simp [sliceBounds,HT.sIx]
  | some i =>
   simp only [sliceBounds,HT.sIx,Option.getD_none,show (1:Int) > 0 by decide,if_true]
   by_cases h:i < 0
   ·simp only [h,if_true] <;> omega
   ·simp only [h,if_false] <;> omega
theorem jR (a:List Value) (lo hi:Option Int):slicePick a.toArray lo hi none=((a.drop (HT.sIx a.length 0 lo)).take (HT.sIx a.length a.length hi - HT.sIx a.length 0 lo)).toArray:=by
 obtain ⟨h1,h2,h3⟩:=kO lo hi a.toArray.size
 unfold slicePick
 rw [h1,h2,h3]
 simp only [sliceRange_one,pick_run,Ac] <;> rfl
def yt (K:FG):V->Option Int->Option Int->Hp->VK->Prop:=fun x lo hi H Q=>∃ a xs,x=.ref a/\SqL K H a xs/\∀ p,H p=none->Q (.ref p) (upd H p (.lst (mV xs lo hi)))
theorem sl_list:SlR X (yt X.K):=by
 intro pins s σ H x v i j lo hi sl Q I e d pl pu h
 obtain ⟨a,xs,rfl,f,q⟩:=h
 cases e
 obtain ⟨g,r,c,hz⟩:=I.list f
 have hlen:=r.length
 refine ⟨"list",_,slot_list_getitem.lookup,c.isList.typeIs,?_⟩
 refine wpAny_getItem_list_slice c.isList d pl pu .none (by simp) ?_ (by rw [Ac] <;> omega)
 rw [jR,<- hlen]
 refine ⟨.ref s.heap.objs.size,_,I.laid (t':=s.toks) (o:=.lst (mV xs lo hi)) (fun b ob q=>zQ _ q) (z9 _) ?_,rfl,q _ (I.hok.fresh (z9 _))⟩
 exact ⟨Aw (iT xs lo hi) hz,_,0,(r.drop (HT.sIx xs.length 0 lo)).take (HT.sIx xs.length xs.length hi - HT.sIx xs.length 0 lo),zY _ rfl⟩
theorem ly:cv X (.builtin "len") (fun xs H Q=>∃ p ys,xs=[.ref p]/\(SqL X.K H p ys\/SqT X.K H p ys)/\Q (.int ys.length) H):=by
 intro pins s σ H xs us Q I r h
 obtain ⟨p,ys,rfl,a,q⟩:=h
 obtain ⟨u,rfl,d⟩:=eI r
 cases d
 have e:=ld
 rcases a with a | a
 ·obtain ⟨c,b,pl,hz⟩:=I.list a
  have hlen:=b.length
  exact Calls.call_len_list pl.isList (by simp only [Ac] <;> omega) ⟨.int ys.length,H,I.tok _,⟨s.toks+1,by rw [Ac,hlen]⟩,q⟩
 ·obtain ⟨c,b,pl,hz⟩:=I.tuple a
  have hlen:=b.length
  exact len_tuple pl (by simp only [Ac] <;> omega) ⟨.int ys.length,H,I.tok _,⟨s.toks+1,by rw [Ac,hlen]⟩,q⟩
theorem lx:cv X (.type "list") (fun xs H Q=>∃ p ys,xs=[.ref p]/\(SqL X.K H p ys\/SqT X.K H p ys)/\∀ l,H l=none->Q (.ref l) (upd H l (.lst ys))):=by
 intro pins s σ H xs us Q I r h
 obtain ⟨p,ys,rfl,f,q⟩:=h
 obtain ⟨u,rfl,j⟩:=eI r
 cases j
 have fin:∀ (a:List Value),Vals ys a->ys.length<=sizeLine->∀ (h':Heap) (c:Nat),(∀ b o',s.heap.get? b=some o'->h'.get? b=some o') ->
   h'.get? s.heap.objs.size=some { cls:=.type "list",dict:=none,data:=.seq a.toArray c,slots:=#[] }->EP X pins σ Q (.ref s.heap.objs.size) { s with heap:=h' }:=fun a d hz h' c kp e =>
  ⟨.ref s.heap.objs.size,_,I.laid (t':=s.toks) kp (z9 _) (show ObjOk X.prog X.w _ h' _ (.lst ys) from ⟨hz,a,c,d,e⟩),rfl,q _ (I.hok.fresh (z9 _))⟩
 rcases f with f | f
 ·obtain ⟨a,d,pl,hz⟩:=I.list f
  have hlen:=d.length
  obtain ⟨o,i,g,n,hd⟩:=pl.isList
  exact call_list_seq p (.inl rfl) i g hd (fun h' c kp e=>fin a d hz h' c kp e) (by simp only [Ac] <;> omega)
 ·obtain ⟨a,d,pl,hz⟩:=I.tuple f
  have hlen:=d.length
  obtain ⟨o,i,g,n,hd⟩:=pl
  exact call_list_seq p (.inr rfl) i g hd (fun h' c kp e=>fin a d hz h' c kp e) (by simp only [Ac] <;> omega)
theorem jV:cv X (.type "tuple") (fun xs H Q=>∃ p ys,xs=[.ref p]/\((SqL X.K H p ys/\∀ l,H l=none->Q (.ref l) (upd H l (.tup ys)))\/(SqT X.K H p ys/\Q (.ref p) H))):=by
 intro pins s σ H xs us Q I r h
 obtain ⟨p,ys,rfl,h⟩:=h
 obtain ⟨u,rfl,g⟩:=eI r
 cases g
 rcases h with ⟨d,q⟩ | ⟨d,q⟩
 ·obtain ⟨a,c,pl,hz⟩:=I.list d
  have hlen:=c.length
  refine call_tuple_list pl.isList (fun h' kp=>?_) (by simp only [Ac] <;> omega)
  have f:Inv X pins σ H { s with heap:=h' }:=I.kept (t':=s.toks) kp
  have i:Inv X pins σ (upd H h'.objs.size (.tup ys)) { s with heap:=h'.push { cls:=.type "tuple",data:=.seq a.toArray } } :=
   f.laid (t':=s.toks) (fun b o e=>zQ _ e) (z9 _) (show ObjOk X.prog X.w _ _ _ (.tup ys) from ⟨hz,a,c,IsTupD.new _ _⟩)
  exact ⟨.ref h'.objs.size,_,i,rfl,q _ (f.hok.fresh (z9 _))⟩
 ·obtain ⟨a,c,pl,hz⟩:=I.tuple d
  exact call_tuple_same pl ⟨.ref p,H,I,rfl,q⟩
def tyV (K:FG) (T:String) (x:V) (H:Hp):Prop:=match x with
 | .str _=>T = "str"
 | .int _=>T = "int"
 | .ref p=>(T = "list"/\∃ xs,SqL K H p xs)\/(T = "tuple"/\((∃ o,K.lookup p=some o/\o.cls=.type "tuple"/\o.dict=none)\/∃ xs,H p=some (.tup xs))) \/
   (T = "dict"/\((∃ kvs,H p=some (.dK kvs))\/∃ kvs,H p=some (.dT kvs)))\/(T = "set"/\∃ S n,H p=some (.set S n))
 | _=>False
theorem xo (I:Inv X pins σ H s) (r:RelV x v) (ty:tyV X.K T x H) :
  s.TypeIs v T/\∀ a,v=.ref a->∃ ob,s.heap.get? a=some ob/\ob.dict=none:=by
 cases x with
 | str z =>
  obtain ⟨t,rfl⟩:=r
  cases (show T = "str" from ty)
  exact ⟨typeIs_str s z t,fun _ e=>nomatch e⟩
 | int i =>
  obtain ⟨t,rfl⟩:=r
  cases (show T = "int" from ty)
  exact ⟨typeIs_int s i t,fun _ e=>nomatch e⟩
 | ref p =>
  cases r
  rcases ty with ⟨rfl,xs,k⟩ | ⟨rfl,⟨o,b,j,hd⟩ | ⟨xs,h⟩⟩ | ⟨rfl,b⟩ | ⟨rfl,S,n,b⟩
  ·obtain ⟨g,_,pl,_⟩:=I.list k
   refine ⟨pl.isList.typeIs,fun a e=>?_⟩
   cases e
   obtain ⟨o,n,e,c,hd,_⟩:=pl
   exact ⟨o,e,hd⟩
  ·refine ⟨⟨o,I.kIn p o b,j⟩,fun a e=>?_⟩
   cases e
   exact ⟨o,I.kIn _ o b,hd⟩
  ·obtain ⟨_,g,_,o,e,c,n,d⟩:=I.hok p _ h
   refine ⟨⟨o,e,c⟩,fun a f=>?_⟩
   cases f
   exact ⟨o,e,congrArg Prod.snd d⟩
  ·have z:∃ o,s.heap.get? p=some o/\o.ExactDict:=by
    rcases b with ⟨kvs,b⟩ | ⟨kvs,b⟩
    ·obtain ⟨_,_,_,_,o,_,_,e,ex,_⟩:=I.hok p _ b
     exact ⟨o,e,ex⟩
    ·obtain ⟨_,_,_,_,o,_,_,e,ex,_⟩:=I.hok p _ b
     exact ⟨o,e,ex⟩
   obtain ⟨o,e,ex⟩:=z
   refine ⟨⟨o,e,ex.1⟩,fun a f=>?_⟩
   cases f
   exact ⟨o,e,ex.2.1⟩
  ·obtain ⟨o,_,_,_,e,ex,_⟩:=I.hok p _ b
   refine ⟨⟨o,e,ex.1⟩,fun a f=>?_⟩
   cases f
   exact ⟨o,e,ex.2.1⟩
 | _=>exact False.elim ty
def tBM (K:FG) (T:String) (r:V->List V->Hp->VK->Prop) (to:TE) (t:TA):TE:=fun σ H Q=>to σ H fun x H1=>tyV K T x H1/\t σ H1 fun xs H2=>r x xs H2 Q
variable {o e:Expr} {es:List Expr} {to:TE} {t:TA} {name:Str} {apos cpos:Pos} {T id:String} {r:V->List V->Hp->VK->Prop}
theorem pe_bm (p:PlainAttrs T) (slot:Slot T name id) (f:typeOf (.builtin id)=pure (.type "method_descriptor")) (hm:MtR X id r) (w:PE X o to) (m:PA X (e :: es) t)
  (c:attributeBase o name X.env (eval o X.env)=eval o X.env:=by rfl)
  (d:((backTo cpos (starEach (e :: es) X.env)).all (fun x=>!x.1) && (backToKw cpos (keywordEach [] X.env)).all (fun x=>x.1.isSome)
   && decide ((e :: es).length+([]:List Keyword).length+(if ([]:List Keyword).isEmpty then 0 else 1) < 30))=true:=by rfl)
  (b:(apos.endLine == cpos.line)=true:=by rfl) (k:starEach (e :: es) X.env=(false,eval e X.env) :: starEach es X.env:=by rfl) (a:(backTo cpos (starEach es X.env)).any (·.1)=false:=by rfl) :
  PE X (.Call (.Attribute o name apos) (e :: es) [] cpos) (tBM X.K T r to t):=by
 intro pins s σ H Q I h
 refine wpAny_Call_method_late c d b rfl (thn (w pins s σ H _ I h) fun v s1 ⟨x,H1,g,i,ty,u⟩=>?_)
 obtain ⟨h1,h2⟩:=xo g i ty
 refine ⟨T,id,p,slot,f,h1,h2,?_⟩
 have j:=m cpos pins s1 σ H1 _ g u
 rw [k] at j ⊢
 refine Calls.callWith_builtin (by show (false || (backTo cpos (starEach es X.env)).any (·.1))=false;rw [a] <;> rfl) (Calls.evalArgs_plain ?_)
 exact thn j fun us s2 ⟨vs,H2,n,l,q⟩=>hm pins s2 σ H2 x vs v us Q n i l q
end
end L2
namespace L2
open PySem PySem.Spec PyProof.Rows
def MtM (X:Cx) (id:String) (r:V->List V->Hp->VK->Prop):Prop :=
 ∀ (pins:List (Addr × Obj)) (s:Shared) (σ:St) (H:Hp) (x:V) (xs:List V) (v:Value) (us:List Value) (Q:VK),Inv X pins σ H s->RelV x v->Vals xs us->r x xs H Q ->
  wpAny (model X.prog X.w) X.A (call (.builtin id) (v :: us)) (EP X pins σ Q) X.xe s
theorem Vals.one:∀ {x:V} {us:List Value},Vals [x] us->∃ u,us=[u]/\RelV x u
 | _,_,.cons r .nil=>⟨_,rfl,r⟩
section
variable {X:Cx} {pins:List (Addr × Obj)} {σ:St} {H:Hp} {s:Shared} {l b:Addr} {xs ys zs:List V}
theorem Inv.lset {a its':List Value} {n:Nat} {t':Nat} (I:Inv X pins σ H s) (c:H l=some (.lst xs)) (e:s.heap.get? l=some { cls:=.type "list",data:=.seq a.toArray n }) (hf:f a.toArray=its'.toArray) (b:Vals ys its') (hz:ys.length<=sizeLine) :
  Inv X pins σ (upd H l (.lst ys)) { s with heap:=s.heap.update l (Obj.mapSeq f),toks:=t' }:=by
 have q:=PySem.IsL.update e f
 rw [hf] at q
 refine I.write (x:=l) (e:=l) (by rw [c];exact trivial) (.inl rfl) (fun g u d hu=>(At s.heap (Obj.mapSeq f) (Ne.symm d)).trans hu) ⟨_,q⟩ ?_
 exact ⟨hz,its',_,b,q⟩
theorem Inv.lnew {t':Nat} (I:Inv X pins σ H s) (a:Vals ys its) (hz:ys.length<=sizeLine) :
  Inv X pins σ (upd H s.heap.objs.size (.lst ys)) { s with heap:=s.heap.push { cls:=.type "list",data:=.seq its.toArray },toks:=t' } :=
 I.laid (fun _ _ q=>zQ _ q) (z9 _) ⟨hz,its,0,a,zY _ rfl⟩
theorem Inv.fresh (I:Inv X pins σ H s):H s.heap.objs.size=none:=I.hok.fresh (z9 _)
theorem Inv.lstM (I:Inv X pins σ H s) (b:H l=some (.lst xs)):xs.length<=sizeLine/\∃ (a:List Value) (n:Nat),Vals xs a/\xs.length=a.length/\s.heap.get? l=some { cls:=.type "list",data:=.seq a.toArray n }:=by
 obtain ⟨z,a,n,r,e⟩:=I.hok l _ b
 exact ⟨z,a,n,r,r.length,e⟩
theorem sW {n:Nat} (h:n<=sizeLine):Builtin.List.listTooLong n=false:=by
 unfold Builtin.List.listTooLong
 exact Af (by omega)
end
section
variable {X:Cx}
def o8:V->List V->Hp->VK->Prop:=fun x vs H Q=>∃ l xs y,x=.ref l/\vs=[y]/\H l=some (.lst xs)/\xs.length < sizeLine/\Q .non (upd H l (.lst (xs ++ [y])))
theorem qx:MtM X "list.append" o8:=by
 intro pins s σ H x vs v us Q I c f h
 obtain ⟨l,xs,y,rfl,rfl,b,hz,q⟩:=h
 cases c
 obtain ⟨u,rfl,d⟩:=f.one
 obtain ⟨z,a,n,r,g,e⟩:=I.lstM b
 refine call_meets F.slot_list_append ⟨_,e,rfl⟩ F.entry_list_append (F.args_list_append_2 _ _) (PySem.list_append l a.toArray n u (by rw [Ac];omega)) ⟨e,?_⟩
 refine ⟨.non,_,I.lset (its':=a ++ [u]) b e (by simp) (r.append (.cons d .nil)) ?_,rfl,q⟩
 rw [Aj,List.length_singleton]
 omega
def o4:V->List V->Hp->VK->Prop:=fun x vs H Q=>∃ l b xs zs,x=.ref l/\vs=[.ref b]/\H l=some (.lst xs)/\H b=some (.lst zs)/\xs.length+zs.length<=sizeLine/\Q .non (upd H l (.lst (xs ++ zs)))
theorem qw:MtM X "list.extend" o4:=by
 intro pins s σ H x vs v us Q I j p h
 obtain ⟨l,b,xs,zs,rfl,rfl,f,g,hz,q⟩:=h
 cases j
 obtain ⟨u,rfl,o⟩:=p.one
 cases o
 obtain ⟨z,c,n,r,y,e⟩:=I.lstM f
 obtain ⟨w,a,t,k,i,m⟩:=I.lstM g
 have hsz:c.toArray.size+a.toArray.size<=sizeLine:=by rw [Ac,Ac];omega
 have d:¬ (!c.toArray.isEmpty && Builtin.List.listTooLong (c.toArray.size+a.toArray.size))=true:=by
  rw [sW hsz,Bool.and_false]
  exact Aa
 refine call_meets F.slot_list_extend ⟨_,e,rfl⟩ F.entry_list_extend (F.args_list_extend_2 _ _)
  (AutoSeq1.list_extend_list_list_0 l c.toArray n b a.toArray t d (by rw [Ac];omega) (by omega)) ⟨e,m,?_⟩
 refine ⟨.non,_,I.lset (its':=c ++ a) f e (by simp) (r.append k) ?_,rfl,q⟩
 rw [Aj]
 omega
def vo:R2:=fun x y H Q=>∃ l b xs zs,x=.ref l/\y=.ref b/\H l=some (.lst xs)/\H b=some (.lst zs)/\xs.length+zs.length<=sizeLine/\∀ p,H p=none->Q (.ref p) (upd H p (.lst (xs ++ zs)))
theorem yT:OpR X (binaryOp .Add) vo:=by
 intro pins s σ H x y v u Q I g o h
 obtain ⟨l,b,xs,zs,rfl,rfl,k,d,hz,q⟩:=h
 cases g
 cases o
 obtain ⟨z,c,n,r,w,e⟩:=I.lstM k
 obtain ⟨t,a,p,i,f,j⟩:=I.lstM d
 refine PySem.P.add_list e j ?_ (by rw [Ac,Ac];omega)
 have m:c.toArray ++ a.toArray=(c ++ a).toArray:=by simp
 rw [m]
 exact ⟨.ref _,_,I.lnew (t':=s.toks) (r.append i) (by rw [Aj];omega),rfl,q _ I.fresh⟩
end
end L2
namespace Att
open PySem PySem.W PySem.Calls PyProof.Rows
theorem iY:∀ (ns:List Int) (vs:List Value),WellAll P h vs (ns.map WData.int)->IntsAre vs ns:=by
 intro ns
 induction ns with
 | nil =>
  intro vs w
  rw [List.map_nil] at w
  cases w
  exact .nil
 | cons n ns ih =>
  intro vs w
  rw [Ad] at w
  cases w with
  | cons a b =>
   cases a
   exact .cons _ _ (ih _ b)
theorem qd {l:OpenLaw} {n:Nat} (j:l.most=some n) (b:l.row.toRowW.claim.pre args=true) (f:WellAll P h vals args) :
  ∃ a vs ns,vals=[Value.ref a]/\args=[WData.list (ns.map WData.int)]/\h.get? a=some { cls:=.type "list",data:=.seq vs.toArray }/\IntsAre vs ns/\ns.length<=n:=by
 have e:WShape.hasAll [] args [.list .int]=true:=(pre_splitW b).1
 have g:l.pre.holds [] { args:=args }=true:=(pre_splitW b).2
 obtain ⟨d,r,rfl,h1,h2⟩:=hasAllW_cons e
 obtain rfl:=hasAllW_nil h2
 obtain ⟨xs,rfl,h3⟩:=hasW_list h1
 obtain ⟨ns,rfl⟩:=items_int h3
 have hlen:ns.length<=n:=by
  unfold OpenLaw.pre at g
  have c:(WTm.not (.lt (.lit (.int (n:Int))) (.len (.arg 0)))).holds [] { args:=[.list (ns.map .int)] }=true:=by
   have c:=(holds_andW g).1
   rw [j] at c
   exact c
  have h5:=condW_of c (w_not (w_lt w_lit (w_len_list (w_arg rfl))))
  rw [zZ] at h5
  refine Nat.le_of_not_lt fun q=>?_
  have i:(n:Int) < ((ns.length:Nat):Int):=by omega
  first
   | (rw [Ae i] at h5;exact absurd h5 (by decide))
   | (simp at h5;omega)
 cases f with
 | cons w1 w2 =>
  cases w2
  cases w1 with
  | list ho hall=>exact ⟨_,_,ns,rfl,rfl,ho,iY ns _ hall,hlen⟩
theorem qm (l:OpenLaw) (args:List WData):l.row.toRowW.claim.post args (.bool true) args=true :=
 postW_of (r:=l.row.toRowW) (X:=(true == true))
  (show WShape.has [] (.bool true) .bool=true by first | rfl | decide | simp [WShape.has,WShape.arms,WShape.armsAll])
  (show (WTm.eq .res (.lit (.bool true))).value [] { args:=args,res:=some (.bool true),after:=args }=some (.bool (true == true)) from w_eq_bool (w_res rfl) w_lit) rfl
theorem attach_call {l:OpenLaw} {n:Nat} (t:l.most=some n) (k:d.params.defaults=[]) (call:∀ (w:World) (s₀ b:Shared) (mg mb:Str->Option Value) (g:Addr) (o:Obj) (pm cd doc:Value) (a:Addr) (vs:List Value) (ns:List Int),
   Ground q loose [] XP w s₀ mg mb b.heap->YP w b.heap ->
   b.heap.get? g=some o->o.data=.func (docDef d.name d.params d.body d.scope pm cd doc)->b.heap.CodeRec cd d.name->mg d.name=some (.ref g) ->
   b.heap.get? a=some { cls:=.type "list",data:=.seq vs.toArray }->IntsAre vs ns->ns.length<=n->b.gens = #[] ->
   codeAny (model l.prog w) callerA (.call (.ref g) ⟨[.ref a],[]⟩) (fun r s'=>r=.ok (.ret (.bool true))/\OldK b.heap s'.heap/\s'.os=b.os/\AllBare s'.gens) b) :
  WalkO q loose XP YP l.row.toRowW d [] (fun f vs=>PySem.call f vs):=by
 intro w s₀ b mg mb G Y g o pm cd doc v kV z hd j m i s args vals as c p y h x
 obtain rfl:v=.none:=Dflts.none m k
 obtain rfl:kV=.none:=Dflts.noKw m
 obtain ⟨a,vs,ns,rfl,rfl,e,hints,hlen⟩:=qd t c h
 refine enter_call (codeAny_mono (call w s₀ b mg mb g o pm cd doc a vs ns G Y z (fd_plain hd) j i e hints hlen s) fun r s' A=>?_)
 obtain ⟨rfl,h2,h3,u⟩:=A
 exact ⟨.inl ⟨.bool true,.bool true,[],rfl,fun _=>rfl,.bool true,qm l _,fun _=>⟨List.Pairwise.nil,fun _ hm=>(nomatch hm)⟩⟩,h2,h3,u⟩
end Att
namespace L2
open PySem PySem.Spec PyProof.Rows
theorem j3:∀ {vs:List Value} {ns:List Int},IntsAre vs ns->Vals (ns.map V.int) vs
 | _,_,.nil=>.nil
 | _,_,.cons n t h=>.cons ⟨t,rfl⟩ (j3 h)
def wC (H:Hp):Prop:=∀ b,H b=none\/∃ o xs,H b=some (.frz o (.lst xs))
theorem tu {K:FG} {k:Nat} (Q:K.In s₁.heap) (l:s₁.heap.Ns mainGlobals mg) (f:s₁.heap.Ns builtinsNs mb) (D:∀ x:Str,x ≠ "__name__"->mb x=bootBuiltins x) (y:s₁.heap.NoLimit) (T:s₁.gens = #[]) (C:s₁.heap.get? a=some { cls:=.type "list",data:=.seq vs.toArray }) (hi:IntsAre vs ns) (O:ns.length<=sizeLine) (U:Room k callerA) (F:∀ base:Heap,K.In base->base.Ns mainGlobals mg->FnOk P w K mg base CX k fa fd [x] sp) (i:∀ (s:Shared) (u:Value),BindsTo s fd ⟨[u],[]⟩ [(x,u)]) (J:∀ H:Hp,wC H->SqL K H a (ns.map V.int)->sp [.ref a] H (fun v _=>v=.bl true) fun _ _ _=>False) (G:∀ H e s',CX [] H s₁ (fun _ _ _=>False) e s'->False) :
  codeAny (model P w) callerA (.call (.ref fa) ⟨[.ref a],[]⟩) (fun r s'=>r=.ok (.ret (.bool true))/\OldK s₁.heap s'.heap/\s'.os=s₁.os/\AllBare s'.gens) s₁:=by
 have N:=j3 hi
 have B:=hi.length
 have core:∀ H:Hp,wC H->SqL K H a (ns.map V.int)->HOk P w H s₁.heap->(∀ b,H b ≠ none->b=a)->(H a ≠ none->K.lookup a=none) ->
   codeAny (model P w) callerA (.call (.ref fa) ⟨[.ref a],[]⟩) (fun r s'=>r=.ok (.ret (.bool true))/\OldK s₁.heap s'.heap/\s'.os=s₁.os/\AllBare s'.gens) s₁:=by
  intro H M Y hok R W
  have c:∀ {b:Addr} {o:Obj},s₁.heap.get? b=some o->H b=none->(lj s₁.heap H).get? b=some o:=fun e n=>tJ e n
  have I:∀ {b:Addr} {o:Obj} {es:Array DictEntry} {t:Nat},s₁.heap.get? b=some o->o.data=.dict es t->H b=none:=fun {b o es t} e d=>by
   cases q:H b with
   | none=>rfl
   | some u =>
    have E:b=a:=R b (by rw [q];simp)
    subst E
    rw [C] at e;cases e
    have d':Data.seq vs.toArray _=Data.dict es t:=d
    cases d'
  have g:∀ {b:Addr} {m:Str->Option Value},s₁.heap.Ns b m->(lj s₁.heap H).Ns b m:=fun {b m} ⟨o,es,t,e,d,r⟩=>⟨o,es,t,c e (I e d),d,r⟩
  have j:K.In (lj s₁.heap H):=fun b o e=>c (Q b o e) (by
   cases q:H b with
   | none=>rfl
   | some u =>
    have E:b=a:=R b (by rw [q];simp)
    subst E
    rw [W (by rw [q];simp)] at e;cases e)
  have X:Mod K mg (lj s₁.heap H):=⟨j,g l,⟨mb,g f,D⟩,let ⟨mc,h1,h2⟩:=y;⟨mc,g h1,h2⟩⟩
  have Z:Env0 P w K mg (lj s₁.heap H) callerA [] s₁ H:=⟨rfl,X,fun b o e=>vL e,Nat.le_of_eq (qJ _ _),trivial,fun b f=>absurd (show b ∈ ([]:List Addr) from f) (by simp),hok,.of_eq T⟩
  refine codeAny_mono ((F _ j (g l)).run callerA [] s₁ H ⟨[.ref a],[]⟩ [.ref a] [.ref a] _ _ U Z (i s₁ (.ref a)) (.cons rfl .nil) (J H M Y)) fun r s' h=>?_
  cases r with
  | error e=>exact (G H e s' h).elim
  | ok fl =>
   cases fl with
   | next=>exact False.elim h
   | brk=>exact False.elim h
   | cont=>exact False.elim h
   | ret u =>
    obtain ⟨v,H',os,bare,un,p,r',q⟩:=h
    have S:v=.bl true:=q
    subst S
    obtain rfl:u=Value.bool true:=r'
    refine ⟨rfl,OldK.of_keep fun b o e=>?_,os,bare⟩
    cases q:H b with
    | none=>exact un.keep b o e q (by intro z;exact absurd (show b ∈ ([]:List Addr) from z) (by simp)) (by simp)
    | some u =>
     rcases M b with z | ⟨ob,xs,z⟩
     ·rw [q] at z;cases z
     ·have z2:=un.frzs b ob _ z
      obtain ⟨e1,_⟩:=hok b _ z
      obtain ⟨e2,_⟩:=p b _ z2
      rw [e] at e1;cases e1
      exact e2
 cases L:K.lookup a with
 | some o =>
  have e:=Q a o L
  rw [C] at e
  cases e
  refine core (fun _=>none) (fun _=>.inl rfl) (.inr ⟨_,vs.toArray,_,L,rfl,rfl,rfl,by rw [Ac,B];exact O,by simpa using N⟩) (fun b u z=>by have A:(none:Option HO)=some u:=z;cases A) (fun b z=>absurd rfl z) fun z=>absurd rfl z
 | none =>
  refine core (fun b=>if b=a then some (.frz { cls:=.type "list",data:=.seq vs.toArray } (.lst (ns.map V.int))) else none) (fun b=>?_) (.inl (.inr ⟨{ cls:=.type "list",data:=.seq vs.toArray },if_pos rfl⟩)) (fun b u z=>?_) (fun b z=>?_) fun _=>L
  ·by_cases f:b=a
   ·exact .inr ⟨_,_,if_pos f⟩
   ·exact .inl (if_neg f)
  ·by_cases f:b=a
   ·have A:=(if_pos f).symm.trans z
    cases A
    subst f
    exact ⟨C,by rw [zZ];exact O,vs,_,N,C⟩
   ·have A:=(if_neg f).symm.trans z
    cases A
  ·by_cases f:b=a
   ·exact f
   ·exact absurd (if_neg f) z
end L2
namespace L2
open PySem PySem.Spec PyProof.Rows
end L2
namespace L2
open PySem PySem.Spec PyProof.Rows
abbrev CX0:CXT:=fun _ _ _ _ _ _=>False
abbrev E0:XK:=fun _ _ _=>False
theorem pass0:oR CX0 X E0:=fun _ _ _ _ _ _ _ h=>h.elim
structure Fun (K:FG) (x qual:Str) (st:Stmt) (f:Addr) (fd:FuncData):Prop where
 ex:∃ (oc:Value) (od:Option Addr) (kV doc pm:Value) (an:Option Addr) (cdv ct:Value) (osl:Array (Option Value)),
  fd=PySem.W.fnOf x qual (ba st) (aM st) (ah st) .none kV doc pm an cdv ct/\K.lookup f=some ⟨oc,od,.func fd,osl⟩/\PySem.W.codeIn K cdv qual=true
 kp:PySem.W.keepIn K (.ref f)=true
section
variable {P:Program} {w:World} {K:FG} {mg:Str->Option Value} {base:Heap}
theorem Fun.ok {st:Stmt} {k:Nat} (F:Fun K x qual st f fd) (S:FnScope N ps (ah st)) (len:∀ vs H Q E,sp vs H Q E->vs.length=ps.length) (b:∀ (a:Value) (A:Around) (outer:List Env) (s:Shared) (H:Hp) (vs:List V) (Q:VK) (E:XK),Room k (A.deeper (envOfC qual (ah st) s.heap.objs.size f a))->sp vs H Q E ->
   ∃ t,PSs (mU CX0 P w K mg base N qual (ah st) f a A outer s H E).nox (aM st) t/\t { nx:=fun _ H'=>Q .non H',rt:=Q } (iH N vs) H):FnOk P w K mg base CX0 (k+1) f fd ps sp:=by
 obtain ⟨l,j,kV,doc,pm,an,a,ct,g,rfl,i,c⟩:=F.ex
 refine fn_of i c S len fun A outer s H vs Q E e d=>?_
 obtain ⟨t,h,q⟩:=b a A outer s H vs Q E e d
 exact ⟨t,h.nox,q⟩
theorem Fun.binds {st:Stmt} (F:Fun K x qual st f fd) (h:∀ (kV doc pm:Value) (an:Option Addr) (a ct:Value) (us:List Value),us.length=ps.length->bindArgs (PySem.W.fnOf x qual (ba st) (aM st) (ah st) .none kV doc pm an a ct) ⟨us,[]⟩=pure (ps.zip us)):Binds K fd ps []:=by
 obtain ⟨e,d,kV,doc,pm,an,a,ct,c,rfl,g,b⟩:=F.ex
 exact .all (h kV doc pm an a ct)
theorem zq {st:Stmt} {kV doc pm a ct:Value} (l:K.lookup f=some ⟨oc,od,.func (PySem.W.fnOf x qual (ba st) (aM st) (ah st) .none kV doc pm an a ct),osl⟩) (c:PySem.W.codeIn K a qual=true) (k:PySem.W.keepIn K (.ref f)=true):Fun K x qual st f (PySem.W.fnOf x qual (ba st) (aM st) (ah st) .none kV doc pm an a ct):=⟨⟨oc,od,kV,doc,pm,an,a,ct,osl,rfl,l,c⟩,k⟩
end
theorem hu_of {k:Nat} (a:Room k A):A.units+1 < cLine:=Nat.lt_of_le_of_lt (Nat.add_le_add_left (by decide:1<=64) _) a.units
def Same (H H':Hp):Prop:=∀ b o,H b=some o->H' b=some o
theorem Same.refl (H:Hp):Same H H:=fun _ _ h=>h
theorem Same.trans (a:Same H H1) (b:Same H1 H2):Same H H2:=fun c o h=>b c o (a c o h)
theorem Same.free (e:Same H H') (h:H' l=Option.none):H l=Option.none:=by
 cases q:H l with
 | none=>rfl
 | some o =>
  rw [e l o q] at h
  cases h
theorem Same.seq {K:FG} (e:Same H H') (h:SqL K H a xs):SqL K H' a xs:=by
 rcases h with (h | ⟨o,h⟩) | h
 ·exact .inl (.inl (e _ _ h))
 ·exact .inl (.inr ⟨o,e _ _ h⟩)
 ·exact .inr h
end L2
end
section
namespace L2
open PySem PySem.Spec PyProof.Rows
section
variable {prog:Program} {w:World} {A:Around} {E:Value->Shared->Prop} {s:Shared}
theorem lV (ty:s.TypeIs (.ref d) "dict") (h:wpAny (model prog w) A.in1 (dictSet d k v) Q E s) :
  wpAny (model prog w) A (setItem (.ref d) k v) Q E s:=by
 unfold setItem
 refine zN (zL (wpAny_sequenceKey ty (by decide) (zL (wpAny_callSpecial?_slot ty slot_dict_setitem (wpAny_call_entry slot_dict_setitem ty entry_dict_setitem ?_ (args_dict_setitem _ _ _))))))
 refine zL (wpAny_notOrdered_dict ty ?_)
 refine (?_:wpAny _ _ (dictSet d k v >>= _) _ _ s)
 exact zL (wpAny_mono h (fun _ _ z=>zM ⟨_,rfl,zM z⟩) fun _ _ z=>z)
theorem j9 {b:Int} {c:Nat} {F:Option Nat->Prop} (a:s.heap.get? d=some o) (g:o.ExactDict) (hd:o.data=.dict es c) (hz:es.size<=sizeLine) (find:wpAny (model prog w) A (dictFind d key b) (fun r s'=>s'=s/\F r) E s) (old:∀ i h' o',F (some i)->h'.get? d=some o'->o'.ExactDict->o'.data=.dict (es.modify i fun e=>{ e with val:=v }) c->Heap.SameBut d s.heap h'->Q () { s with heap:=h' }) (new:∀ h' o',F none->h'.get? d=some o'->o'.ExactDict->o'.data=.dict (es.push ⟨b,key,v⟩) (c+1)->Heap.SameBut d s.heap h'->Q () { s with heap:=h' }) :
  wpAny (model prog w) A (dictSetHashed d key b v) Q E s:=by
 unfold dictSetHashed
 refine zN (zL (wpAny_mono find ?_ fun _ _ z=>z))
 rintro (_ | i) _ ⟨rfl,f⟩
 ·exact zL (wpAny_rule (wpAny_updateDictKeys (hz:=hz) a hd (new _ _ f (Ai _ a (Obj.isFreed_of_dict (Obj.data_mapDictKeys hd _))) (g.mapDictKeys _) (Obj.data_mapDictKeys hd _) (Heap.SameBut.update ..))))
 ·exact zL (wpAny_rule (zL (wpAny_updateDict a hd (wpAny_point (old i _ _ f (Ai _ a (Obj.isFreed_of_dict (Obj.data_mapDict hd _))) (g.mapDict _) (Obj.data_mapDict hd _) (Heap.SameBut.update ..))))))
end
section
variable {prog:Program} {w:World} {K:Type} [DecidableEq K] {A:Around} {E:Value->Shared->Prop} {s:Shared} {d:Addr} {k:K}
section
variable {knd:HeapKind prog w K}
def DictOfHE (knd:HeapKind prog w K) (h:Heap) (d:Addr) (xs:List (K × Addr × Value)):Prop :=
 ∃ o es a,h.get? d=some o/\o.ExactDict/\o.data=.dict es a/\es.toList=xs.map (entryOfKey knd)/\(∀ x ∈ xs,knd.is h x.1 x.2.1)/\(xs.map (·.1)).Nodup/\a=es.size
theorem DictOfHE.of (x:DictOfHE knd h d xs):h.DictOfH knd d xs:=let ⟨o,es,a,h1,h2,h3,b,h5,c,_⟩:=x;⟨o,es,a,h1,h2,h3,b,h5,c⟩
theorem qu {y:Addr × Value} (c:(xs.map (·.1)).Nodup) (h:k ∉ xs.map (·.1)):((xs ++ [(k,y)]).map (·.1)).Nodup:=by
 rw [List.map_append]
 exact List.nodup_append.mpr ⟨c,List.nodup_cons.mpr ⟨List.not_mem_nil,List.nodup_nil⟩,fun x a y b e=>h (by have:=Ao.mp b;subst this;exact e ▸ a)⟩
theorem fN (hu:knd.room A) (b:knd.is s.heap k a) (hm:DictOfHE knd s.heap d xs) (m:∀ h',DictOfHE knd h' d (storedH xs k a v)->Heap.SameBut d s.heap h'->Q () { s with heap:=h',toks:=s.toks+knd.draws k }) (hsz:xs.length<=sizeLine:=by size_fits):wpAny (model prog w) A (dictSet d (.ref a) v) Q E s:=by
 obtain ⟨o,es,r,l,n,hd,he,g,h,rfl⟩:=hm
 unfold dictSet
 refine zN (zL (knd.pyHash hu b ?_))
 refine j9 (s:={ s with toks:=s.toks+knd.draws k }) (F:=fun | none=>∀ (j:Nat) (p:Addr × Value),xs[j]? ≠ some (k,p) | some j=>∃ p,xs[j]?=some (k,p)) l n hd (size_of_entries he ▸ hsz)
  (wpAny_dictFind_heap (s:={ s with toks:=s.toks+knd.draws k }) hu b l hd he g h (fun z=>⟨rfl,z⟩) fun j p z=>⟨rfl,p,z⟩) ?_ ?_
 ·rintro i h' o' ⟨p,f⟩ g1 g2 g3 g4
  have at':=storedH_old (atKey_of_get h f) a v
  refine m h' ⟨o',_,_,g1,g2,g3,?_,?_,?_,?_⟩ g4 <;> try rw [at']
  ·rw [Array.toList_modify,he]
   exact modify_map_putAt (entryOfKey knd) _ k v (fun _ _=>rfl) h f
  ·intro x c
   obtain ⟨y,q,rfl⟩:=z7.mp c
   have:=knd.keeps (g y q) l hd g4
   by_cases e:y.1=k <;> simpa [putAt,e] using this
  ·exact (keys_map_putAt xs k v).symm ▸ h
  ·exact (Array.size_modify).symm
 ·intro h' o' f g1 g2 g3 g4
  have at':=storedH_new (atKey_none_of_get f) a v
  refine m h' ⟨o',_,_,g1,g2,g3,?_,?_,?_,?_⟩ g4 <;> try rw [at']
  ·simp [he,entryOfKey]
  ·intro x c
   rcases zX.mp c with c | c
   ·exact knd.keeps (g x c) l hd g4
   ·cases Ao.mp c;exact knd.keeps b l hd g4
  ·exact qu h (not_mem_keys_of_get f)
  ·simp
theorem jS (hu:knd.room A.in1) (b:knd.is s.heap k a) (hm:DictOfHE knd s.heap d xs) (c:∀ h',DictOfHE knd h' d (storedH xs k a v)->Heap.SameBut d s.heap h'->Q () { s with heap:=h',toks:=s.toks+knd.draws k }) (hsz:xs.length<=sizeLine:=by size_fits):wpAny (model prog w) A (setItem (.ref d) (.ref a) v) Q E s :=
 lV hm.of.typeIs (fN (hsz:=hsz) hu b hm c)
end
section
variable {knd:KeyKind prog w K} {key:Value}
theorem fj (a:knd.is k key=true) (hm:DictOfE knd s.heap d kvs) (j:∀ h',DictOfE knd h' d (stored kvs k v)->Heap.SameBut d s.heap h'->Q () { s with heap:=h',toks:=s.toks+1 }) (hsz:kvs.length<=sizeLine:=by size_fits):wpAny (model prog w) A (dictSet d key v) Q E s:=by
 obtain ⟨o,⟨es⟩,q,l,n,hd,h,b,c,rfl⟩:=hm
 have same:=b.findIdx k
 have hz:(⟨es⟩:Array DictEntry).size<=sizeLine:=by have:=b.length;simp at this ⊢;omega
 unfold dictSet
 refine zN (zL (knd.pyHash a ?_))
 refine j9 (s:={ s with toks:=s.toks+1 }) (F:=fun r=>es.findIdx? (fun e=>knd.is k e.key)=r) l n hd hz
  (wpAny_dictFind_of (s:={ s with toks:=s.toks+1 }) a l hd h ⟨rfl,by simp⟩) ?_ ?_
 ·intro i h' o' f g1 g2 g3 g4
  have at':stored kvs k v=_:=if_pos (any_of_findIdx_some (same.symm.trans f))
  refine j h' ⟨o',_,_,g1,g2,g3,h.modify _ _,?_,?_,(Array.size_modify).symm⟩ g4 <;> rw [at']
  ·simpa using b.modify c f v
  ·exact (keys_map_store kvs k v).symm ▸ c
 ·intro h' o' f g1 g2 g3 g4
  have no:=not_mem_of_findIdx_none (same.symm.trans f)
  have at':stored kvs k v=_:=if_neg fun z=>by
   obtain ⟨x,g,e⟩:=List.any_eq_true.mp z
   exact no (z7.mpr ⟨x,g,of_decide_eq_true e⟩)
  refine j h' ⟨o',_,_,g1,g2,g3,h.push a _,?_,?_,by simp⟩ g4 <;> rw [at']
  ·simpa using b.append a (knd.hash k) v
  ·rw [List.map_append]
   exact List.nodup_append.mpr ⟨c,List.nodup_cons.mpr ⟨List.not_mem_nil,List.nodup_nil⟩,fun x g y p e=>no (by cases Ao.mp p;have m:x=k:=e;exact m ▸ g)⟩
theorem jr (a:knd.is k key=true) (hm:DictOfE knd s.heap d kvs) (b:∀ h',DictOfE knd h' d (stored kvs k v)->Heap.SameBut d s.heap h'->Q () { s with heap:=h',toks:=s.toks+1 }) (hsz:kvs.length<=sizeLine:=by size_fits):wpAny (model prog w) A (setItem (.ref d) key v) Q E s :=
 lV hm.of.typeIs (fj (hsz:=hsz) a hm b)
end
end
section
variable {κ:Type} [DecidableEq κ]
def iV (kvs:List (κ × V)) (k:κ):Option V:=(kvs.find? fun a=>decide (a.1=k)).map (·.2)
def eh (kvs:List (κ × V)) (k:κ) (v:V):List (κ × V) :=
 if (kvs.any fun a=>decide (a.1=k))=true then kvs.map (fun a=>if a.1=k then (a.1,v) else a) else kvs ++ [(k,v)]
theorem gc {p:κ × V} {k:κ} (e:p.1=k):iV (p :: r) k=some p.2:=by simp [iV,List.find?_cons,e]
theorem ge {p:κ × V} {k:κ} (e:¬ p.1=k):iV (p :: r) k=iV r k:=by simp [iV,List.find?_cons,e]
theorem lO (k:κ):∀ kvs:List (κ × V),(kvs.any fun a=>decide (a.1=k))=(iV kvs k).isSome
 | []=>rfl
 | p :: r=>by
  rw [List.any_cons]
  by_cases e:p.1=k
  ·simp only [gc e,Ae e,Bool.true_or,Option.isSome_some]
  ·rw [ge e,Af e,Bool.false_or];exact lO k r
theorem iR (kvs:List (κ × V)) (k:κ) (v:V):(eh kvs k v).length<=kvs.length+1:=by
 unfold eh
 split
 ·rw [zZ];omega
 ·rw [Aj,Ak,List.length_nil];omega
theorem RelO.isSome_eq (r:RelO o u):o.isSome=u.isSome:=by
 cases o with
 | none=>cases u with
  | none=>rfl
  | some _=>exact (show False from r).elim
 | some _=>cases u with
  | none=>exact (show False from r).elim
  | some _=>rfl
theorem RelO.getD (r:RelO o u) (a:RelV d d'):RelV (o.getD d) (u.getD d'):=by
 cases o with
 | none=>cases u with
  | none=>exact a
  | some _=>exact (show False from r).elim
 | some _=>cases u with
  | none=>exact (show False from r).elim
  | some _=>exact r
theorem KV.val (r:KV kvs vs) (k:κ):RelO (iV kvs k) (valueAt vs k):=by
 unfold KV at r
 induction r with
 | nil=>exact True.intro
 | @cons p q ps qs h t ih =>
  obtain ⟨h1,h2⟩:=h
  by_cases e:p.1=k
  ·have a:q.1=k:=h1.symm.trans e
   have b:valueAt (q :: qs) k=some q.2:=by simp [valueAt,List.find?_cons,a]
   rw [gc e,b];exact h2
  ·have a:¬ q.1=k:=fun z=>e (h1.trans z)
   have b:valueAt (q :: qs) k=valueAt qs k:=by simp [valueAt,List.find?_cons,a]
   rw [ge e,b];exact ih
theorem KV.any (r:KV kvs vs) (k:κ):(kvs.any fun a=>decide (a.1=k))=vs.any fun a=>decide (a.1=k):=by
 unfold KV at r
 induction r with
 | nil=>rfl
 | cons h t ih=>rw [List.any_cons,List.any_cons,ih,h.1]
theorem KV.repl (r:KV kvs vs) (k:κ) (b:RelV y u) :
  KV (kvs.map fun a=>if a.1=k then (a.1,y) else a) (vs.map fun a=>if a.1=k then (a.1,u) else a):=by
 unfold KV at r ⊢
 induction r with
 | nil=>exact .nil
 | @cons p q ps qs h t ih =>
  rw [Ad,Ad]
  refine .cons ?_ ih
  obtain ⟨h1,h2⟩:=h
  by_cases e:p.1=k
  ·rw [if_pos e,if_pos (h1.symm.trans e)];exact ⟨h1,b⟩
  ·rw [if_neg e,if_neg (fun z=>e (h1.trans z))];exact ⟨h1,h2⟩
theorem KV.put (r:KV kvs vs) (k:κ) (a:RelV y u):KV (eh kvs k y) (stored vs k u):=by
 unfold eh stored
 rw [r.any k]
 by_cases e:(vs.any fun b=>decide (b.1=k))=true
 ·rw [if_pos e,if_pos e];exact r.repl k a
 ·rw [if_neg e,if_neg e];exact Paired.snoc r ⟨rfl,a⟩
theorem KV.length {kvs:List (κ × V)} (r:KV kvs vs):kvs.length=vs.length:=Paired.length r
end
theorem pC (r:RelV (kV k) u):(bd P w).is k u=true:=by
 cases k with
 | inl i=>obtain ⟨t,e⟩:=(show ∃ t,u=Value.int i t from r);subst e;exact mx P w i t
 | inr x=>obtain ⟨t,e⟩:=(show ∃ t,u=Value.str x t from r);subst e;exact mw P w x t
theorem ku:∀ {ks:List Key} {us:List Value},Vals (ks.map kV) us->ItemsAre (bd P w) ks us
 | [],_,r=>by rw [List.map_nil] at r;cases r;exact .nil
 | k :: ks,_,r=>by
  rw [Ad] at r
  cases r with
  | cons h t=>exact .cons (pC h) (ku t)
abbrev KT (H:Hp):List (List Key × V)->List (List Key × Addr × Value)->Prop:=Paired fun p q=>p.1=q.1/\H q.2.1=some (.tup (p.1.map kV))/\RelV p.2 q.2.2
theorem KT.val (r:KT H kvs xs) (k:List Key):RelO (iV kvs k) ((atKey xs k).map (·.2)):=by
 induction r with
 | nil=>exact True.intro
 | @cons p q ps qs h t ih =>
  obtain ⟨h1,_,h2⟩:=h
  by_cases e:p.1=k
  ·have a:q.1=k:=h1.symm.trans e
   have b:atKey (q :: qs) k=some q.2:=by simp [atKey,List.find?_cons,a]
   rw [gc e,b];exact h2
  ·have a:¬ q.1=k:=fun z=>e (h1.trans z)
   have b:atKey (q :: qs) k=atKey qs k:=by simp [atKey,List.find?_cons,a]
   rw [ge e,b];exact ih
theorem KT.repl (r:KT H kvs xs) (k:List Key) (b:RelV y u) :
  KT H (kvs.map fun a=>if a.1=k then (a.1,y) else a) (xs.map (putAt k u)):=by
 induction r with
 | nil=>exact .nil
 | @cons p q ps qs h t ih =>
  rw [Ad,Ad]
  refine .cons ?_ ih
  obtain ⟨h1,h2,h3⟩:=h
  unfold putAt
  by_cases e:p.1=k
  ·rw [if_pos e,if_pos (h1.symm.trans e)];exact ⟨h1,h2,b⟩
  ·rw [if_neg e,if_neg (fun z=>e (h1.trans z))];exact ⟨h1,h2,h3⟩
theorem KT.put (r:KT H kvs xs) (k:List Key) (c:H b=some (.tup (k.map kV))) (a:RelV y u) :
  KT H (eh kvs k y) (storedH xs k b u):=by
 have e:(kvs.any fun d=>decide (d.1=k))=(atKey xs k).isSome:=by
  rw [lO,(r.val k).isSome_eq,Option.isSome_map]
 unfold eh storedH
 rw [e]
 by_cases q:(atKey xs k).isSome=true
 ·rw [if_pos q,if_pos q];exact r.repl k a
 ·rw [if_neg q,if_neg q];exact Paired.snoc r ⟨rfl,c,a⟩
theorem KT.keeps (r:KT H kvs xs) (a:∀ b ys,H b=some (.tup ys)->H' b=some (.tup ys)):KT H' kvs xs :=
 Paired.mapP r fun _ _ z=>⟨z.1,a _ _ z.2.1,z.2.2⟩
section
variable {P:Program} {w:World} {H:Hp} {h:Heap} {a:Addr}
theorem wQ (ok:HOk P w H h) (e:Rd H a u):ObjOk P w H h a u:=e.ok ok
theorem oF (ok:HOk P w H h) (e:Rd H a (.dK kvs)):kvs.length<=sizeLine/\(a == sysModules)=false/\∃ vs,KV kvs vs/\DictOfE (bd P w) h a vs :=
 show ObjOk P w H h a (.dK kvs) from wQ ok e
theorem xh (ok:HOk P w H h) (e:Rd H a (.dK kvs)):kvs.length<=sizeLine/\(a == sysModules)=false/\∃ vs,KV kvs vs/\h.DictOf (bd P w) a vs:=let ⟨z,y,vs,r,d⟩:=oF ok e;⟨z,y,vs,r,d.of⟩
theorem lf (ok:HOk P w H h) (e:H a=some (.tup (ks.map kV))):(tupleKind (bd P w)).is h ks a:=by
 obtain ⟨_,b,r,o,h1,h2,n,h3⟩:=(show ObjOk P w H h a (.tup (ks.map kV)) from ok a _ e)
 exact ⟨o,b.toArray,n,h1,h2,congrArg Prod.fst h3,by simpa using ku r⟩
theorem tQ (ok:HOk P w H h) (e:Rd H a (.dT kvs)):kvs.length<=sizeLine/\(a == sysModules)=false /\
  ∃ xs,KT H kvs xs/\DictOfHE (tupleKind (bd P w)) h a xs:=by
 obtain ⟨z,y,xs,r,o,es,c,h1,h2,h3,d,h5⟩:=(show ObjOk P w H h a (.dT kvs) from wQ ok e)
 refine ⟨z,y,xs,r,o,es,c,h1,h2,h3,d,fun x b=>?_,h5⟩
 have all:∀ {l:List (List Key × V)} {m:List (List Key × Addr × Value)},KT H l m->∀ x ∈ m,(tupleKind (bd P w)).is h x.1 x.2.1:=by
  intro l m q
  induction q with
  | nil=>intro x b;exact nomatch b
  | @cons p q ps qs hq t ih =>
   intro x b
   rcases zU.mp b with e | b
   ·subst e
    exact lf ok (by rw [<- hq.1];exact hq.2.1)
   ·exact ih x b
 exact all r x b
theorem xg (ok:HOk P w H h) (e:Rd H a (.dT kvs)):kvs.length<=sizeLine/\(a == sysModules)=false /\
  ∃ xs,KT H kvs xs/\h.DictOfH (tupleKind (bd P w)) a xs:=let ⟨z,y,xs,r,d⟩:=tQ ok e;⟨z,y,xs,r,d.of⟩
end
def DGet (H:Hp) (a:Addr) (y:V) (r:Option V):Prop :=
 (∃ kvs k,Rd H a (.dK kvs)/\y=kV k/\r=iV kvs k)\/∃ kvs k b,Rd H a (.dT kvs)/\y=.ref b/\H b=some (.tup (k.map kV))/\r=iV kvs k
def DPut (H:Hp) (a:Addr) (y v:V) (H':Hp):Prop :=
 (∃ kvs k,H a=some (.dK kvs)/\y=kV k/\kvs.length < sizeLine/\H'=upd H a (.dK (eh kvs k v))) \/
 ∃ kvs k b,H a=some (.dT kvs)/\y=.ref b/\H b=some (.tup (k.map kV))/\kvs.length < sizeLine/\H'=upd H a (.dT (eh kvs k v))
theorem DGet.t (e:H a=some (.dT kvs)) (c:H b=some (.tup (k.map kV))):DGet H a (.ref b) (iV kvs k):=.inr ⟨kvs,k,b,.inl e,rfl,c,rfl⟩
theorem DPut.t (e:H a=some (.dT kvs)) (c:H b=some (.tup (k.map kV))) (d:kvs.length < sizeLine) :
  DPut H a (.ref b) v (upd H a (.dT (eh kvs k v))):=.inr ⟨kvs,k,b,e,rfl,c,d,rfl⟩
section
variable {X:Cx} {pins:List (Addr × Obj)} {σ:St} {H:Hp} {s:Shared} {a:Addr} {y v:V} {u r:Value} {o:Option V} {A:Around} {E:Value->Shared->Prop}
theorem Inv.big (I:Inv X pins σ H s):sysModules < s.heap.objs.size:=by
 have h:mainGlobals < s.heap.objs.size:=(I.mod.glob.keeps I.bk).lt
 exact Nat.lt_trans (by decide) h
theorem qQ (hu:A.units+1 < cLine) (I:Inv X pins σ H s) (g:DGet H a y (some v)) (m:RelV y u) (h:∀ d s',Inv X pins σ H s'->RelV v d->Q d s') :
  wpAny (model X.prog X.w) A (getItem (.ref a) u) Q E s:=by
 rcases g with ⟨kvs,k,e,f,l⟩ | ⟨kvs,k,b,e,f,n,l⟩
 ·subst f
  obtain ⟨z,hd,vs,rel,i⟩:=xh I.hok e
  obtain ⟨d,hw,c⟩:=RelO.some_of (v:=v) (o:=valueAt vs k) (by rw [l];exact rel.val k)
  exact wpAny_getItem_of (pC m) i.mapOf hw (h d _ (I.tok _) c)
 ·subst f
  cases (show u=Value.ref b from m)
  obtain ⟨z,hd,xs,rel,i⟩:=xg I.hok e
  obtain ⟨d,hw,c⟩:=RelO.some_of (v:=v) (o:=(atKey xs k).map (·.2)) (by rw [l];exact rel.val k)
  obtain ⟨p,q,j⟩:=zR.mp hw
  refine wpAny_getItem_heap (tupleKind_room_in1 hu) (lf I.hok n) i q ?_
  rw [j]
  exact h d _ (I.tok _) c
theorem lq {t':Nat} (I:Inv X pins σ H s) (d:Mut (H a)) (c:Heap.SameBut a s.heap h') (he:∃ q,h'.get? a=some q) (new:ObjOk X.prog X.w (upd H a ob) h' a ob) :
  Inv X pins σ (upd H a ob) { s with heap:=h',toks:=t' } :=
 I.write (x:=a) (e:=a) d (.inl rfl) (fun b q f z=>(c.2 b f).trans z) he new
theorem tV (z:kvs.length<=sizeLine) (hd:(a == sysModules)=false) (rel:KV kvs vs) (b:DictOfE (bd P w) h' a vs) :
  ObjOk P w H' h' a (.dK kvs):=⟨z,hd,vs,rel,b⟩
theorem qP (hu:A.units+1 < cLine) (I:Inv X pins σ H s) (g:DPut H a y v H') (B:RelV y u) (p:RelV v r) (h:∀ s',Inv X pins σ H' s'->Q () s') :
  wpAny (model X.prog X.w) A (setItem (.ref a) u r) Q E s:=by
 rcases g with ⟨kvs,k,e,i,l,m⟩ | ⟨kvs,k,b,e,i,t,l,m⟩
 ·subst i m
  obtain ⟨z,hd,vs,rel,o⟩:=oF I.hok (.inl e)
  have hz:vs.length<=sizeLine:=by rw [<- rel.length];exact z
  have n:(eh kvs k v).length<=sizeLine:=by have:=iR kvs k v;omega
  refine jr (hsz:=hz) (pC B) o fun h' d j=>h _ ?_
  have he:∃ q,h'.get? a=some q:=let ⟨q,_,_,f,_⟩:=d;⟨q,f⟩
  exact lq I (by rw [e];exact True.intro) j he (tV n hd (rel.put k p) d)
 ·subst i m
  cases (show u=Value.ref b from B)
  obtain ⟨z,hd,xs,rel,o⟩:=tQ I.hok (.inl e)
  have hz:xs.length<=sizeLine:=by rw [<- Paired.length rel];exact z
  have n:(eh kvs k v).length<=sizeLine:=by have:=iR kvs k v;omega
  refine jS (hsz:=hz) (tupleKind_room_in1 hu) (lf I.hok t) o fun h' d j=>h _ ?_
  obtain ⟨q,es,D,f,h2,h3,C,_,h5⟩:=d
  refine lq I (by rw [e];exact True.intro) j ⟨q,f⟩ ⟨n,hd,_,(rel.put k t p).keeps fun c ys x=>?_,q,es,D,f,h2,h3,C,h5⟩
  rw [ay (ne_of x e (fun z=>nomatch z))]
  exact x
end
theorem mT (I:Inv X pins σ H s) (g:DGet H a y o):s.TypeIs (.ref a) "dict":=by
 rcases g with ⟨kvs,k,e,_,_⟩ | ⟨kvs,k,b,e,_,_,_⟩
 ·obtain ⟨_,_,vs,_,c⟩:=xh I.hok e
  exact c.typeIs
 ·obtain ⟨_,_,xs,_,c⟩:=xg I.hok e
  exact c.typeIs
theorem tW (h:Heap) (a:sysModules < h.objs.size):ObjOk P w H (h.push { cls:=.type "dict",data:=.dict #[] }) h.objs.size (.dK []) :=
 ⟨Nat.zero_le _,beq_eq_false_iff_ne.mpr (Ne.symm (Ab a)),[],.nil,_,#[],0,zY _ rfl,⟨rfl,rfl,rfl⟩,rfl,(fun _ h=>by simp at h),.nil,List.nodup_nil,rfl⟩
structure M1 (X:Cx) (o:Expr) (m:Str) (apos:Pos) (e:Expr) (cpos:Pos):Prop where
 base:attributeBase o m X.env (eval o X.env)=eval o X.env
 few:((backTo cpos (starEach [e] X.env)).all (fun x=>!x.1) && (backToKw cpos (keywordEach [] X.env)).all (fun x=>x.1.isSome)
  && decide (([e]:List Expr).length+([]:List Keyword).length+(if ([]:List Keyword).isEmpty then 0 else 1) < 30))=true
 line:(apos.endLine == cpos.line)=true
 trees:backTo cpos (starEach [e] X.env)=[(false,eval e X.env)]
structure M2 (X:Cx) (o:Expr) (m:Str) (apos:Pos) (e f:Expr) (cpos:Pos):Prop where
 base:attributeBase o m X.env (eval o X.env)=eval o X.env
 few:((backTo cpos (starEach [e,f] X.env)).all (fun x=>!x.1) && (backToKw cpos (keywordEach [] X.env)).all (fun x=>x.1.isSome)
  && decide (([e,f]:List Expr).length+([]:List Keyword).length+(if ([]:List Keyword).isEmpty then 0 else 1) < 30))=true
 line:(apos.endLine == cpos.line)=true
 trees:backTo cpos (starEach [e,f] X.env)=[(false,eval e X.env),(false,eval f X.env)]
end L2
namespace L2
open PySem PySem.Spec PyProof.Rows
end L2
end
section
namespace L2
open PySem PySem.Spec PyProof.Rows
def iZ (cells:List (Str × Addr)) (cs:List (Str × Addr)) (x:Str × NameKind):List (Str × Addr) :=
 if x.2 == .free then (match cells.lookup x.1 with | some c=>(x.1,c) :: cs | none=>cs) else cs
def clo (cells:List (Str × Addr)) (names:List (Str × NameKind)):List (Str × Addr):=names.foldl (iZ cells) []
theorem jJ {α β:Type} {f:α->β->Sem (ForInStep β)} {g:β->α->β}:∀ {l:List α} {c:β},(∀ x ∈ l,∀ c,f x c=pure (.yield (g c x)))->forIn l c f=pure (l.foldl g c)
 | [],c,_=>rfl
 | x :: l,c,h=>by
  rw [List.forIn_cons,h x zO,pure_bind]
  exact jJ fun y a=>h y (zP _ a)
theorem fu (h:∀ x ∈ scope.names,x.2=.free->∃ c,env.cells.lookup x.1=some c):closureFor scope env=pure (clo env.cells scope.names):=by
 simp only [closureFor]
 rw [jJ (g:=iZ env.cells) (fun x d c=>by
  obtain ⟨n,kind⟩:=x
  unfold iZ
  by_cases b:kind=.free
  ·subst b
   obtain ⟨a,e⟩:=h _ d rfl
   have f:env.cells.lookup n=some a:=e
   simp [cellOf,f]
  ·have i:(kind == NameKind.free)=false:=by simpa using b
   simp [i])]
 rfl
theorem kz:∀ {l:List (Str × NameKind)} {cs:List (Str × Addr)},(∀ y d,cs.lookup y=some d->cells.lookup y=some d)->(l.foldl (iZ cells) cs).lookup x=some c->cells.lookup x=some c
 | [],cs,h,e=>h x c e
 | y :: l,cs,h,e=>by
  refine kz (l:=l) (cs:=iZ cells cs y) (fun z d q=>?_) e
  unfold iZ at q
  split at q
  ·cases b:cells.lookup y.1 with
   | none=>rw [b] at q;exact h z d q
   | some a =>
    rw [b] at q
    simp only [List.lookup_cons] at q
    cases hz:z == y.1 with
    | true=>rw [hz] at q;have:=eq_of_beq hz;subst this;rw [b];exact q
    | false=>rw [hz] at q;exact h z d q
  ·exact h z d q
theorem ls (e:(clo cells l).lookup x=some c):cells.lookup x=some c:=kz (fun _ _ q=>by simp at q) e
theorem jK (d:cells.lookup x=some c):∀ {l:List (Str × NameKind)} {cs:List (Str × Addr)},cs.lookup x=some c->(l.foldl (iZ cells) cs).lookup x=some c
 | [],_,e=>e
 | y :: l,cs,e=>by
  refine jK d (l:=l) (cs:=iZ cells cs y) ?_
  unfold iZ
  split
  ·cases b:cells.lookup y.1 with
   | none=>exact e
   | some a =>
    simp only [List.lookup_cons]
    cases hz:x == y.1 with
    | true=>have:=eq_of_beq hz;subst this;rw [d] at b;exact b.symm
    | false=>exact e
  ·exact e
theorem kA (a:cells.lookup x=some c):∀ {l:List (Str × NameKind)} {cs:List (Str × Addr)},(x,NameKind.free) ∈ l->(l.foldl (iZ cells) cs).lookup x=some c
 | [],_,m=>by simp at m
 | y :: l,cs,m=>by
  rcases zU.mp m with rfl | m
  ·refine jK a (l:=l) ?_
   simp [iZ,a]
  ·exact kA a (l:=l) (cs:=iZ cells cs y) m
theorem pP (a:cells.lookup x=some c) (m:(x,NameKind.free) ∈ l):(clo cells l).lookup x=some c:=kA a m
theorem gp {env:Env}:∀ {names:List (Str × NameKind)} {x:Str},names.lookup x=some .free ->
  (names.map fun (n,k)=>if (k == NameKind.free && env.scope.kind == .function && env.kindOf n == some .cell) then (n,NameKind.cell) else (n,k)).lookup x=some .cell \/
  (names.map fun (n,k)=>if (k == NameKind.free && env.scope.kind == .function && env.kindOf n == some .cell) then (n,NameKind.cell) else (n,k)).lookup x=some .free
 | [],_,h=>by simp at h
 | (n,k) :: r,x,h=>by
  have b:=@gp env r x
  show List.lookup x ((if (k == NameKind.free && env.scope.kind == .function && env.kindOf n == some .cell)=true then (n,NameKind.cell) else (n,k)) :: _)=_ \/
   List.lookup x ((if (k == NameKind.free && env.scope.kind == .function && env.kindOf n == some .cell)=true then (n,NameKind.cell) else (n,k)) :: _)=_
  cases a:x == n with
  | true =>
   simp only [List.lookup_cons,a] at h
   cases h
   split
   ·left;simp [List.lookup_cons,a]
   ·right;simp [List.lookup_cons,a]
  | false =>
   simp only [List.lookup_cons,a] at h
   split
   ·simp only [List.lookup_cons,a];exact b h
   ·simp only [List.lookup_cons,a];exact b h
theorem ju {env:Env}:∀ {names:List (Str × NameKind)} {x:Str},(∀ y ∈ names,y.2 ≠ .cell) ->
  ((names.map fun (n,k)=>if (k == NameKind.free && env.scope.kind == .function && env.kindOf n == some .cell) then (n,NameKind.cell) else (n,k)).lookup x=some .cell \/
  (names.map fun (n,k)=>if (k == NameKind.free && env.scope.kind == .function && env.kindOf n == some .cell) then (n,NameKind.cell) else (n,k)).lookup x=some .free)->(x,NameKind.free) ∈ names
 | [],_,_,h=>by simp at h
 | (n,k) :: r,x,hc,h=>by
  have f:=@ju env r x (fun y b=>hc y (zP _ b))
  have d:=hc (n,k) zO
  have h':List.lookup x ((if (k == NameKind.free && env.scope.kind == .function && env.kindOf n == some .cell)=true then (n,NameKind.cell) else (n,k)) :: (r.map fun (n,k)=>if (k == NameKind.free && env.scope.kind == .function && env.kindOf n == some .cell) then (n,NameKind.cell) else (n,k)))=some .cell \/
   List.lookup x ((if (k == NameKind.free && env.scope.kind == .function && env.kindOf n == some .cell)=true then (n,NameKind.cell) else (n,k)) :: (r.map fun (n,k)=>if (k == NameKind.free && env.scope.kind == .function && env.kindOf n == some .cell) then (n,NameKind.cell) else (n,k)))=some .free:=h
  cases a:x == n with
  | true =>
   have e:=eq_of_beq a
   subst e
   by_cases hf:k=.free
   ·subst hf;exact zO
   ·exfalso
    have c:(k == NameKind.free)=false:=by simpa using hf
    simp [c,List.lookup_cons] at h'
    rcases h' with q | q
    ·exact d q
    ·exact hf q
  | false =>
   refine zP _ (f ?_)
   split at h'
   ·simpa only [List.lookup_cons,a] using h'
   ·simpa only [List.lookup_cons,a] using h'
def aE (X:Cx) (NY:List Str) (scope:Scope) (s:Shared) (H:Hp) (C:Addr) (fp:List Addr):Cx where
 prog:=X.prog
 w:=X.w
 K:=X.K
 mg:=X.mg
 base:=X.base
 A:=X.A
 N:=NY
 s₀:=s
 H₀:=H
 env:=compEnvC scope (clo X.env.cells scope.names) C X.env
 outer:=X.stack
 stack:=X.stack
 ex:=fp
 fn:=fun _=>false
 calm:=X.calm
 pn:=[]
 xe:=fun _ _=>False
def cap (ix:List (Option Nat)) (σ:St):St:=ix.map fun o=>match o with | some i=>(σ[i]?).getD none | none=>none
def fk (sc:Scope) (b:List Str) (a:Scope) (NY:List Str) (ix:List (Option Nat)):Bool :=
 sc.kind == .function && sc.names.all (fun y=>y.2 != .cell) && sc.names.all (fun y=>y.2 != .local || sc.names.lookup y.1 == some .local) && sc.names.all (fun y=>y.2 != .free || sc.names.lookup y.1 == some .free)
  && sc.names.all (fun y=>y.2 != .free || (a.names.lookup y.1 == some .cell || a.names.lookup y.1 == some .free))
  && ix.length == NY.length && (NY.zip ix).all fun p=>match p.2 with | none=>true | some i=>(b[i]? == some p.1) && sc.names.contains (p.1,NameKind.free)
structure CompOk (sc:Scope) (XN:List Str) (Xsc:Scope) (NY:List Str) (ix:List (Option Nat)):Prop where
 kind:sc.kind=.function
 nocell:∀ y ∈ sc.names,y.2 ≠ .cell
 loc:∀ y ∈ sc.names,y.2=.local->sc.names.lookup y.1=some .local
 fre:∀ y ∈ sc.names,y.2=.free->sc.names.lookup y.1=some .free
 out:∀ y ∈ sc.names,y.2=.free->Xsc.names.lookup y.1=some .cell\/Xsc.names.lookup y.1=some .free
 len:ix.length=NY.length
 cap:∀ (j:Nat) x i,NY[j]?=some x->ix[j]?=some (some i)->XN[i]?=some x/\(x,NameKind.free) ∈ sc.names
theorem CompOk.of (h:fk sc XN Xsc NY ix=true):CompOk sc XN Xsc NY ix:=by
 simp only [fk,Bool.and_eq_true,List.all_eq_true,beq_iff_eq] at h
 obtain ⟨⟨⟨⟨⟨⟨h1,h2⟩,h3⟩,d⟩,h5⟩,f⟩,c⟩:=h
 refine ⟨h1,fun y a=>by simpa using h2 y a,fun y a e=>?_,fun y a e=>?_,fun y a e=>?_,f,fun j x i e1 b=>?_⟩
 ·have:=h3 y a;rw [e] at this;simpa using this
 ·have:=d y a;rw [e] at this;simpa using this
 ·have:=h5 y a;rw [e] at this;simpa using this
 ·have m:(x,some i) ∈ NY.zip ix:=by
   refine z5 (i:=j) ?_
   rw [List.getElem?_zip_eq_some]
   exact ⟨e1,b⟩
  have:=c _ m
  simpa using this
section
variable {X:Cx}
theorem FpOk.of_upd (f:FpOk X pins H b) (h:b ≠ D):FpOk X pins (upd H D o) b:=⟨by rw [ay h];exact f.1,f.2⟩
theorem HOk.track (x:HOk P w H h) (f:H a=none) (new:ObjOk P w (upd H a o) h a o):HOk P w (upd H a o) h:=fun b u e=>by
 by_cases d:b=a
 ·subst d;rw [aN] at e;cases e;exact new
 ·rw [ay d] at e
  exact (x b u e).stay (fun c v _ q=>q) (fun c q=>by rw [ay (aX q f)];exact q) fun c xs q=>by rw [ay (aX q f)];exact q
def PTs (Y:Cx) (ifs:List Expr) (t:TT):Prop :=
 ∀ (pins:List (Addr × Obj)) (s:Shared) (σ:St) (H:Hp) (Q:Bool->Hp->Prop),Inv Y pins σ H s->t σ H Q ->
  wpAny (model Y.prog Y.w) Y.A (forIn ifs true fun c r=>if r=true then do let ok <- isTrue c Y.env (eval c Y.env);pure (ForInStep.yield ok) else pure (ForInStep.yield r)) (TP Y pins σ Q) Y.xe s
def tYes:TT:=fun _ H Q=>Q true H
theorem vq:PTs Y [] tYes:=fun pins s σ H Q I h=>wpAny_tests_nil ⟨H,I,h⟩
theorem vp (h:PT Y c t):PTs Y [c] t:=fun pins s σ H Q I q=>wpAny_tests_one (h pins s σ H Q I q)
def nB (J:It) (g:TG) (tc:TT) (te:TE) (Z:List V->Hp->Prop) (τ0:St) (H1:Hp):Prop :=
 ∃ W:Nat->Nat->List V->St->Hp->Prop,(∃ m,W 0 m [] τ0 H1)/\∀ i m ys τ H,W i m ys τ H->ys.length < sizeLine /\
  ((J.stop i H/\Z ys H)\/(J.go i H/\∃ N:List V->St->Hp->Prop,(∀ a τ' H',N a τ' H'->∃ d,d < m/\W (i+1) d a τ' H')/\∀ x H',J.yld i H x H'->g x τ H' fun τ2 H2=>tc τ2 H2 fun b c =>
   if b=true then te τ2 c fun y e=>N (ys ++ [y]) τ2 e else N ys τ2 c))
def wL (a:TI) (g:TG) (tc:TT) (te:TE) (ix:List (Option Nat)):TE:=fun σ H Q =>
 a σ H fun J H1=>nB J g tc te (fun ys H2=>∀ p,H2 p=none->Q (.ref p) (upd H2 p (.lst ys))) (cap ix σ) H1
theorem oG (g:CompOk scope X.N X.env.scope NY ix) (I:Inv X pins σ H s) (f:∀ b ∈ fp,FpOk X pins H b) (n:s.heap.objs.size<=C) (t:∀ b ∈ fp,b < s.heap.objs.size) (J:s4.os=s.os) (E:s4.gens=s.gens) (keep:∀ b o,s.heap.get? b=some o->s4.heap.get? b=some o) (ns:s4.heap.Ns C fun _=>none):Inv (aE X NY scope s H C fp) [] (cap ix σ) H s4:=by
 have Q:FpOk X pins H C:=I.fpOk n (I.hok.fresh n)
 have cls:∀ x c,(clo X.env.cells scope.names).lookup x=some c->X.env.cells.lookup x=some c:=fun x c e=>ls e
 have j:∀ x,(x,NameKind.free) ∈ scope.names->∃ c,X.env.cells.lookup x=some c:=fun x m=>by
  rcases g.out _ m rfl with q | q
  ·exact I.ok.has x (.inl q)
  ·exact I.ok.has x (.inr q)
 refine ⟨⟨I.ok.mod,g.kind,I.ok.glob,I.ok.blt,n,fun x y c e1 d=>I.ok.inj x y c (cls x c e1) (cls y c d),fun x G=>?_,fun x c e _=>(Aa e).elim,fun e=>I.ok.hd e,I.ok.frames,.inl rfl,fun b h=>⟨Ab (Ag (t b h) n),fun x c e=>(f b h).2.2.2.2.1 x c (cls x c e)⟩,
  I.bs,Aw I.ok.bsz I.sz,fun b o e h=>?_,fun b h hz=>?_,I.stack,I.stkFree⟩,J,by rw [E];exact I.bare,Un.kept keep,⟨_,ns,fun i x v e1 d S=>?_⟩,fun x c e=>?_,Q.1,fun x c e=>I.freeC x c (cls x c e),fun p L=>absurd (show p ∈ ([]:List (Addr × Obj)) from L) (by simp),I.hok.kept keep,?_⟩
 ·have m:(x,NameKind.free) ∈ scope.names:=ju g.nocell G
  obtain ⟨c,e⟩:=j x m
  exact ⟨c,pP e m⟩
 ·rcases (f b h).2.2.2.1 with z | z
  ·exact I.ok.noex b o e z
  ·exact absurd (Ag (zW e) (Aw I.ok.bsz z)) (Nat.lt_irrefl _)
 ·rcases zU.mp (I.stkSub b hz) with e | e
  ·exact (f b h).2.1 e
  ·exact (f b h).2.2.1 e
 ·-- a captured name
  have q:∃ k,ix[i]?=some (some k)/\σ[k]?=some (some v):=by
   unfold cap at d
   rw [z8] at d
   cases e:ix[i]? with
   | none=>rw [e] at d;simp at d
   | some o =>
    rw [e] at d
    cases o with
    | none=>simp at d
    | some k =>
     refine ⟨k,rfl,?_⟩
     simp only [Am,Option.some.injEq] at d
     cases e':σ[k]? with
     | none=>rw [e'] at d;simp at d
     | some o'=>rw [e'] at d;simp at d;rw [d]
  obtain ⟨k,P,ev⟩:=q
  obtain ⟨F,m⟩:=g.cap i x k e1 P
  obtain ⟨R,B,K⟩:=I.loc
  have M:Vis X.env.scope x:=by
   rcases g.out _ m rfl with q | q
   ·exact .inr (.inl q)
   ·exact .inr (.inr q)
  obtain ⟨u,r,l⟩:=K k x v F ev M
  refine ⟨u,r,.inr ?_⟩
  rcases l with ⟨A,_⟩ | ⟨_,c,O,D⟩
  ·exfalso
   rcases g.out _ m rfl with q | q
   ·have:=A.symm.trans q;cases this
   ·have:=A.symm.trans q;cases this
  ·obtain ⟨o,w,hd⟩:=D
   exact ⟨gp (g.fre _ m rfl),c,pP O m,o,keep c o w,hd⟩
 ·obtain ⟨v,o,w,hd⟩:=I.cell x c (cls x c e)
  exact ⟨v,o,keep c o w,hd⟩
 ·show (cap ix σ).length=NY.length
  unfold cap
  rw [zZ]
  exact g.len
theorem ft (I:Nat->Shared->Prop) (turn:∀ n s,I n s->wpAny (model prog w) A (pyNext it) (fun r b=>match r with
   | none=>R (.ok .next) b
   | some v=>wpAny (model prog w) A (letOwnedTupleGo target it v) (fun _ a=>wpAny (model prog w) A (assign target env v) (fun _ k =>
     wpAny (model prog w) A (forIn ifs true fun c r=>if r=true then do let ok <- isTrue c env (eval c env);pure (ForInStep.yield ok) else pure (ForInStep.yield r)) (fun ok d =>
      if ok=true then wpAny (model prog w) A (eval elt env) (fun x i =>
       wpAny (model prog w) A (call (.builtin "list.append") [acc,x]) (fun _ f=>∃ m,m < n/\I m f) (fun _ _=>False) i) (fun _ _=>False) d
      else ∃ m,m < n/\I m d) (fun _ _=>False) k) (fun _ _=>False) a) (fun _ _=>False) b) (fun _ _=>False) s) (n:Nat) (h:I n s) :
  codeAny (model prog w) A (.compLoop (.ListComp elt [⟨target,iter,ifs,0⟩] scope pos) 0 it acc env) R s:=by
 refine codeAny_loop rfl I (fun n s o=>?_) n h
 show wpAny _ A ((compTurn (.ListComp elt [⟨target,iter,ifs,0⟩] scope pos) 0 it acc env).onRaise (fun x=>do noteFrame x env;theTreesLotGoes x)) _ _ s
 refine wpAny_noted ?_
 rw [compTurn_list]
 refine zL (wpAny_standAt (zL (wpAny_mono (turn n s o) (fun r b g=>?_) fun _ _ h'=>h'.elim)))
 cases r with
 | none=>exact zM g
 | some v =>
  refine zL (wpAny_mono g (fun _ a e=>?_) fun _ _ h'=>h'.elim)
  refine zL (wpAny_mono e (fun _ k p=>zL (wpAny_mono p (fun ok d j=>?_) fun _ _ h'=>h'.elim)) fun _ _ h'=>h'.elim)
  cases ok with
  | false=>exact zM ⟨rfl,j⟩
  | true =>
   exact zL (zL (wpAny_mono j (fun x i q=>zL (wpAny_mono q (fun _ f l=>zM (zM ⟨rfl,l⟩)) fun _ _ h'=>h'.elim)) fun _ _ h'=>h'.elim))
theorem mY {RR:Value->Addr->Result->Shared->Prop} (hc:X.calm=true) (ck:CompOk scope X.N X.env.scope NY ix) (hg:∀ s H C fp,PG (aE X NY scope s H C fp) tg g) (ht:∀ s H C fp,PTs (aE X NY scope s H C fp) ifs tc) (he:∀ s H C fp,PE (aE X NY scope s H C fp) elt te) (I:Inv X pins σ H s) (T:Turn X.prog X.w X.K tg J fp it tn) (st:tn 0 s.heap) (f:∀ b ∈ fp,FpOk X pins H b) (hW:nB J g tc te Z (cap ix σ) H) (a8:∀ D C s' ys H' m,s'.heap.Ns C m->H' D=none->FpOk X pins (upd H' D (.lst ys)) C->Inv X pins σ (upd H' D (.lst ys)) s'->Z ys H'->RR (.ref D) C (.ok .next) s') :
  wpAny (model X.prog X.w) X.A (newList []) (fun acc s₃=>wpAny (model X.prog X.w) X.A (newFunctionEnv scope X.env.globals (clo X.env.cells scope.names) [] X.env.qual none .none (some X.env)) (fun G s₄ =>
   codeAny (model X.prog X.w) X.A (.compStart (.ListComp elt [⟨tg,iter,ifs,0⟩] scope pos) 0 (.ref it) acc { G with scope:=relabel scope X.env }) (RR acc G.locals) s₄) E s₃) E s:=by
 obtain ⟨W,⟨m0,w0⟩,turn⟩:=hW
 refine wpAny_newObj_type (wpAny_newFunctionEnv ck.nocell (by intro y hy;simp at hy) (fun h₁ l j=>?_) ck.kind)
 dsimp only at l j ⊢
 generalize M:s.heap.push { cls:=.type "list",dict:=none,data:=.seq ([]:List Value).toArray }=H2 at l j ⊢
 have Y:H2.objs.size=s.heap.objs.size+1:=by rw [<- M,Au]
 have F:s.heap.objs.size ≠ H2.objs.size:=by rw [Y];exact Ab (Nat.lt_succ_self _)
 have k:s.heap.objs.size<=H2.objs.size:=by rw [Y];exact Nat.le_succ _
 generalize Q:s.heap.objs.size=D at *
 generalize hC:H2.objs.size=C at *
 have below:∀ b o,s.heap.get? b=some o->b < D:=fun b o e=>by rw [<- Q];exact zW e
 have old:∀ b o,s.heap.get? b=some o->h₁.get? b=some o:=fun b o e=>j.extBut b o (Ab (Ag (below b o e) k)) (zQ _ (M ▸ zQ _ e))
 have S:H2.get? D=some { cls:=.type "list",dict:=none,data:=.seq ([]:List Value).toArray }:=by
  rw [<- M,<- Q];exact zY _ rfl
 have ax:h₁.PlainList D #[]:=⟨_,j.extBut _ _ F (zQ _ S)⟩
 have az:∀ b ∈ fp,b < s.heap.objs.size:=fun b h=>by
  obtain ⟨o,e,_⟩:=T.obj 0 _ st b h
  exact zW e
 have B:∀ b ∈ fp,b < D:=fun b h=>by rw [<- Q];exact az b h
 have IY:Inv (aE X NY scope s H C fp) [] (cap ix σ) H { s with heap:=h₁,toks:=s.toks+([]:List (Str × Value)).length } :=
  oG ck I f (by rw [Q];exact k) az rfl rfl old l
 have b3:H D=none:=I.hok.fresh (by rw [Q];exact z9 _)
 have t:∀ b ∈ frs X.stack,b < D:=fun b h=>by
  obtain ⟨_,o,ho,_⟩:=I.stack.mem h
  exact below b o ho
 have loop:∀ s₃:Shared,s₃ = { s with heap:=h₁,toks:=s.toks+([]:List (Str × Value)).length } ->
   codeAny (model X.prog X.w) X.A (.compLoop (.ListComp elt [⟨tg,iter,ifs,0⟩] scope pos) 0 (.ref it) (.ref D) (aE X NY scope s H C fp).env) (RR (.ref D) C) s₃:=by
  rintro s₃ rfl
  refine ft (fun n s'=>∃ i ys τ H' a,Inv (aE X NY scope s H C fp) [] τ H' s'/\H' D=none/\s'.heap.PlainList D a/\Vals ys a.toList/\tn i s'.heap/\(∀ b ∈ fp,H' b=none)/\W i n ys τ H') ?_ m0
   ⟨0,[],cap ix σ,H,#[],IY,b3,ax,.nil,T.keep _ _ _ st fun b _ o e=>old b o e,fun b h=>(f b h).1,w0⟩
  rintro n s3 ⟨i,ys,τ,U,a,I3,d3,l3,v3,a6,a0,w3⟩
  obtain ⟨nl,e3⟩:=id l3
  have a5:Inv (aE X NY scope s H C fp) [(D,{ cls:=.type "list",data:=.seq a nl })] τ U s3:=I3.pins_of fun p V=>by
   have e:p=(D,{ cls:=.type "list",data:=.seq a nl }):=by simpa using V
   subst e
   exact ⟨e3,d3,F,fun z=>Nat.lt_irrefl _ (t D z),fun v z=>by cases z⟩
  have L:∀ {H':Hp} {pl:List (Addr × Obj)},(∀ b ∈ fp,H' b=none)->(∀ p ∈ pl,p.1=D)->∀ b ∈ fp,FpOk (aE X NY scope s H C fp) pl H' b:=fun hn V b h =>
   ⟨hn b h,Ab (Ag (B b h) k),fun z=>by
    rcases zU.mp (I.stkSub b z) with e | e
    ·exact (f b h).2.1 e
    ·exact (f b h).2.2.1 e,.inl h,fun x c e=>(f b h).2.2.2.2.1 x c (ls e),fun p a7=>by
    have e:p.1=D:=V p ((zX.mp a7).elim (fun z=>absurd (show p ∈ ([]:List (Addr × Obj)) from z) (by simp)) fun z=>z)
    rw [e]
    exact Nat.ne_of_gt (B b h)⟩
  obtain ⟨zl,step⟩:=turn i n ys τ U w3
  have single:∀ p ∈ [(D,({ cls:=.type "list",data:=.seq a nl }:Obj))],p.1=D:=fun p V=>by
   have e:p=(D,{ cls:=.type "list",data:=.seq a nl }):=by simpa using V
   rw [e]
  rcases step with ⟨stop,qn⟩ | ⟨go,N,hN,step⟩
  ·refine wpAny_mono (T.done (aE X NY scope s H C fp) rfl rfl rfl hc i _ s3 τ U (fun _ _=>False) a5 (L a0 single) a6 stop) (fun r s4 ⟨hr,O⟩=>?_) fun _ _ e=>e
   subst hr
   obtain ⟨mC,bt,_⟩:=id O.loc
   obtain ⟨e4,d4,_⟩:=O.pin (D,{ cls:=.type "list",data:=.seq a nl }) (by simp [aE])
   have b0:∀ b o,s.heap.get? b=some o->b ≠ D:=fun b o e=>Ab (below b o e)
   have P:=O.base
   refine a8 D C s4 ys U mC bt d4 ?_ ?_ qn
   ·exact (I.fpOk (by rw [Q];exact k) (by exact O.free)).of_upd (Ne.symm F)
   ·refine I.call' (ch:=fp) O.os (H':=upd U D (.lst ys)) ⟨P.keep,P.slot,fun b o e n hx=>?_,P.there,fun b xs e=>?_,fun b o u e=>?_,fun b ps e=>?_⟩ ?_ O.bare fun b h=>?_
    ·rw [ay (b0 b o e)];exact P.free b o e n hx
    ·have q:=P.tups b xs e;rw [ay (aX q d4)];exact q
    ·have q:=P.frzs b o u e;rw [ay (aX q d4)];exact q
    ·obtain ⟨more,q⟩:=P.tbls b ps e;exact ⟨more,by rw [ay (aX q d4)];exact q⟩
    ·exact O.hok.track d4 ⟨Nat.le_of_lt zl,a.toList,nl,v3,by simpa using e4⟩
    ·exact ⟨(f b h).2.2.2.1,(f b h).2.1,(f b h).2.2.2.2.1,(f b h).2.2.2.2.2⟩
  ·refine wpAny_mono (T.item (aE X NY scope s H C fp) rfl rfl rfl hc i _ s3 τ U (fun _ _=>False) a5 (L a0 single) a6 go) (fun r s4 ⟨u,hr,h4⟩=>?_) fun _ _ e=>e
   subst hr
   refine wpAny_mono h4 (fun _ s5 ⟨x,H5,I5,r5,y5,R,be⟩=>?_) fun _ _ e=>e
   have b4:=I5.pinned (L be single) (T.obj _ _ R)
   refine wpAny_mono (hg s H C fp _ s5 τ H5 x u _ b4 r5 (step x H5 y5)) (fun _ s6 ⟨τ6,H6,I6,q6⟩=>?_) fun _ _ e=>e
   refine wpAny_mono (ht s H C fp _ s6 τ6 H6 _ I6 q6) (fun b s7 ⟨H7,I7,q7⟩=>?_) fun _ _ e=>e
   have after:∀ {s':Shared} {H':Hp},Inv (aE X NY scope s H C fp) ([(D,{ cls:=.type "list",data:=.seq a nl })] ++ jw fp s5.heap) τ6 H' s'->tn (i+1) s'.heap/\(∀ b ∈ fp,H' b=none)/\H' D=none/\s'.heap.PlainList D a:=fun {s' H'} I' =>
    ⟨T.keep _ _ _ R fun b h o e=>(I'.pin (b,o) (zT _ (zT _ (eA h e)))).1,fun b h=>by
     obtain ⟨o,e,d⟩:=T.obj _ _ R b h
     exact (I'.pin (b,o) (zT _ (zT _ (eA h e)))).2.1,(I'.pin (D,_) (zT _ (zS _ (Ao.mpr rfl)))).2.1,
     nl,(I'.pin (D,_) (zT _ (zS _ (Ao.mpr rfl)))).1⟩
   cases b with
   | false =>
    rw [if_neg Aa]
    rw [if_neg Aa] at q7
    obtain ⟨m',hm,w7⟩:=hN _ _ _ q7
    obtain ⟨a1,a2,a3,a4⟩:=after I7
    exact ⟨m',hm,i+1,ys,τ6,H7,a,I7.pins_of (fun _ z=>absurd z (by simp)),a3,a4,v3,a1,a2,w7⟩
   | true =>
    rw [if_pos rfl]
    rw [if_pos rfl] at q7
    refine wpAny_mono (he s H C fp _ s7 τ6 H7 _ I7 q7) (fun y s8 ⟨yv,H8,I8,r8,n8⟩=>?_) fun _ _ e=>e
    obtain ⟨m',hm,w8⟩:=hN _ _ _ n8
    obtain ⟨a1,a2,a3,a4⟩:=after I8
    have b5:ys.length=a.size:=by simpa using v3.length
    have hsz:a.size<=sizeLine:=by omega
    refine wpAny_list_append_plain (hsz:=hsz) a4 fun h9 l9 ar=>?_
    have I9:Inv (aE X NY scope s H C fp) [] τ6 H8 { s8 with heap:=h9,toks:=s8.toks }:=(I8.pins_of (pins':=[]) fun _ z=>absurd z (by simp)).turned (it:=D) (fun b o h e=>(ar.2 b h).trans e) a3 F (.inr (by show s.heap.objs.size<=D;rw [Q];exact z9 _)) (fun x c e z=>?_) fun p z=>absurd (show p ∈ ([]:List (Addr × Obj)) from z) (by simp)
    ·refine ⟨m',hm,i+1,ys ++ [yv],τ6,H8,a.push y,I9,a3,l9,?_,T.keep _ _ _ a1 fun b h o e=>(ar.2 b (Ab (B b h))).trans e,a2,w8⟩
     rw [Array.toList_push]
     exact v3.append (.cons r8 .nil)
    ·obtain ⟨v,o,ho,_⟩:=I.cell x c (ls e)
     exact Nat.lt_irrefl _ (z ▸ below c o ho)
 exact codeAny_compStart_list (loop _ rfl) (T.self X.A 0 _ _ _ (T.keep _ _ _ st fun b _ o e=>old b o e) (loop _ rfl))
theorem vG (NY:List Str) (ix:List (Option Nat)) (i:X.calm=true) (hi:PI X tg iter wi) (l:∀ s H C fp,PG (aE X NY scope s H C fp) tg g) (z:∀ s H C fp,PTs (aE X NY scope s H C fp) ifs tc) (he:∀ s H C fp,PE (aE X NY scope s H C fp) elt te) (a:fk scope X.N X.env.scope NY ix=true) (d:∀ x,foldedSetIterable iter X.env x=pure x:=by intro _;rfl):PE X (.ListComp elt [⟨tg,iter,ifs,0⟩] scope pos) (wL wi g tc te ix):=by
 intro pins s σ H Q I h
 have a:=CompOk.of a
 rw [eval_ListComp]
 refine wpAny_comprehension_free (use:=none) rfl d (fu (scope:=scope) (env:=X.env) fun x m e=>?_) a.kind a.loc (thn (hi pins s σ H _ I h) fun v s1 h1=>thn h1 fun p s2 h2=>?_)
 ·rcases a.out x m e with q | q
  ·exact I.ok.has x.1 (.inl q)
  ·exact I.ok.has x.1 (.inr q)
 ·obtain ⟨it,fp,tn,J,H2,e,y,T,c,f2,B⟩:=h2
  subst e
  refine mY (RR:=fun acc C=>compPost (model X.prog X.w) X.A X.xe none (EP X pins σ Q) acc C) i a l z he y T c f2 B ?_
  intro D C s' ys H' m n t E r j
  obtain ⟨f0,f1,f2,u,f4,f⟩:=E
  exact ⟨m,n,fun h' sb=>⟨.ref D,_,r.turned (t':=s'.toks) (fun b o k e=>(sb.2 b k).trans e) f0 f1 u f4 f,rfl,j D t⟩⟩
def wP (i:Nat) (a:TI) (g:TG) (tc:TT) (te:TE) (ix:List (Option Nat)):TS:=fun D σ H =>
 a σ H fun J H1=>nB J g tc te (fun ys H2=>∀ p,H2 p=none->D.nx (σ.set i (some (.ref p))) (upd H2 p (.lst ys))) (cap ix σ) H1
theorem nX {i:Nat} (M:X.N.Nodup) (U:X.N[i]?=some y) (O:Loc X.env.scope y) (NY:List Str) (ix:List (Option Nat)) (B:X.calm=true) (hi:PI X tg iter wi) (G:∀ s H C fp,PG (aE X NY scope s H C fp) tg g) (W:∀ s H C fp,PTs (aE X NY scope s H C fp) ifs tc) (he:∀ s H C fp,PE (aE X NY scope s H C fp) elt te) (c:fk scope X.N X.env.scope NY ix=true) (d:swapsWith (.ListComp elt [⟨tg,iter,ifs,0⟩] scope pos) (some (.Name y py)) spos.line X.env=pure true:=by rfl) (hf:X.fn y=true\/X.env.scope.names.lookup y=some .local:=by first | exact .inl rfl | exact .inr rfl | assumption) (r:∀ x,foldedSetIterable iter X.env x=pure x:=by intro _;rfl):PS X (.Assign [.Name y py] (.ListComp elt [⟨tg,iter,ifs,0⟩] scope pos) spos) (wP i wi g tc te ix):=by
 intro pins s σ H D I h
 have c:=CompOk.of c
 rw [exec_Assign_Name_used _ _ _ _ d]
 refine zL (wpAny_standAt (zL ?_))
 show wpAny _ X.A (do let _ <- comprehension (.ListComp elt [⟨tg,iter,ifs,0⟩] scope pos) scope X.env _ (newList []) false (eval iter X.env) (some (assign (.Name y py) X.env))) _ _ s
 refine zL (wpAny_mono (wpAny_comprehension_free (use:=some (assign (.Name y py) X.env)) (Q:=fun _ s'=>SP X pins D .next s') rfl r (fu (scope:=scope) (env:=X.env) fun x m e=>?_) c.kind c.loc
  (thn (hi pins s σ H _ I h) fun v s1 h1=>thn h1 fun L s2 h2=>?_)) (fun _ s' Z=>zM (zM Z)) fun _ _ e=>e)
 ·rcases c.out x m e with q | q
  ·exact I.ok.has x.1 (.inl q)
  ·exact I.ok.has x.1 (.inr q)
 ·obtain ⟨it,fp,tn,J,H2,e,V,T,n,f2,Y⟩:=h2
  subst e
  refine mY (RR:=fun acc C=>compPost (model X.prog X.w) X.A X.xe (some (assign (.Name y py) X.env)) (fun _ s'=>SP X pins D .next s') acc C) B c G W he V T n f2 Y ?_
  intro f C s' ys H' m K R fC P E
  obtain ⟨f0,f1,f2,S,f4,u⟩:=fC
  show wpAny _ X.A (assign (.Name y py) X.env (.ref f)) _ _ _
  refine wpAny_assign_Name (kb P M U O (v:=.ref f) rfl (fun k p ⟨a,sb,t⟩=>?_) hf)
  have j:C ≠ a:=by
   rcases t with e | e
   ·rw [e];exact f1
   ·exact fun z=>f4 y a e z.symm
  exact ⟨m,K.sameBut sb j,fun h' l=>⟨_,_,p.turned (t':=k.toks) (fun b o F e=>(l.2 b F).trans e) f0 f1 S f4 u,E f R⟩⟩
end
end L2
end
section
namespace L2
open PySem PySem.Spec PyProof.Rows
section
variable {X:Cx}
inductive KindOf (K:FG) (H:Hp):V->String->Prop
 | int (i:Int):KindOf K H (.int i) "int"
 | bool (b:Bool):KindOf K H (.bl b) "bool"
 | str (x:Str):KindOf K H (.str x) "str"
 | non:KindOf K H .non "NoneType"
 | tuple {a:Addr} {xs:List V}:SqT K H a xs->KindOf K H (.ref a) "tuple"
 | list {a:Addr} {xs:List V}:SqL K H a xs->KindOf K H (.ref a) "list"
 | dK {a:Addr} {kvs}:H a=some (.dK kvs)->KindOf K H (.ref a) "dict"
 | dT {a:Addr} {kvs}:H a=some (.dT kvs)->KindOf K H (.ref a) "dict"
def mL (k t:String):Bool:=k == t || (k == "bool" && t == "int")
theorem Inv.clsK (I:Inv X pins σ H s) (h:KindOf X.K H (.ref a) k):∃ o,s.heap.get? a=some o/\o.cls=.type k:=by
 cases h with
 | tuple h=>obtain ⟨b,_,⟨o,e,c,_⟩,_⟩:=I.tuple h;exact ⟨o,e,c⟩
 | list h=>obtain ⟨b,_,⟨o,n,e,c,_⟩,_⟩:=I.list h;exact ⟨o,e,c⟩
 | dK h=>obtain ⟨_,_,_,_,o,_,_,e,c,_⟩:=I.hok a _ h;exact ⟨o,e,c.1⟩
 | dT h=>obtain ⟨_,_,_,_,o,_,_,e,c,_⟩:=I.hok a _ h;exact ⟨o,e,c.1⟩
theorem lC:cv X (.builtin "isinstance") (fun xs H Q=>∃ x k,xs=[x,.ty "int"]/\KindOf X.K H x k/\Q (.bl (mL k "int")) H):=by
 intro pins s σ H xs us Q I r h
 obtain ⟨x,k,rfl,d,q⟩:=h
 obtain ⟨u,v,rfl,a,f⟩:=j4 r
 cases (show v=Value.type "int" from f)
 cases d with
 | int i=>obtain ⟨g,rfl⟩:=a;exact IsiPair.int_int ⟨.bl true,H,I,rfl,q⟩
 | bool b=>cases (show u=Value.bool b from a);exact IsiPair.bool_int ⟨.bl true,H,I,rfl,q⟩
 | str z=>obtain ⟨g,rfl⟩:=a;exact IsiPair.str_int ⟨.bl false,H,I.tok _,rfl,q⟩
 | non=>cases (show u=Value.none from a);exact IsiPair.NoneType_int ⟨.bl false,H,I.tok _,rfl,q⟩
 | tuple hh=>cases a;obtain ⟨o,e,c⟩:=I.clsK (.tuple hh);exact IsiPair.tuple_int e c ⟨.bl false,H,I.tok _,rfl,q⟩
 | list hh=>cases a;obtain ⟨o,e,c⟩:=I.clsK (.list hh);exact IsiPair.list_int e c ⟨.bl false,H,I.tok _,rfl,q⟩
 | dK hh=>cases a;obtain ⟨o,e,c⟩:=I.clsK (.dK hh);exact IsiPair.dict_int e c ⟨.bl false,H,I.tok _,rfl,q⟩
 | dT hh=>cases a;obtain ⟨o,e,c⟩:=I.clsK (.dT hh);exact IsiPair.dict_int e c ⟨.bl false,H,I.tok _,rfl,q⟩
theorem jW:cv X (.builtin "isinstance") (fun xs H Q=>∃ x k,xs=[x,.ty "bool"]/\KindOf X.K H x k/\Q (.bl (mL k "bool")) H):=by
 intro pins s σ H xs us Q I r h
 obtain ⟨x,k,rfl,d,q⟩:=h
 obtain ⟨u,v,rfl,a,f⟩:=j4 r
 cases (show v=Value.type "bool" from f)
 cases d with
 | int i=>obtain ⟨g,rfl⟩:=a;exact IsiPair.int_bool ⟨.bl false,H,I.tok _,rfl,q⟩
 | bool b=>cases (show u=Value.bool b from a);exact IsiPair.bool_bool ⟨.bl true,H,I,rfl,q⟩
 | str z=>obtain ⟨g,rfl⟩:=a;exact IsiPair.str_bool ⟨.bl false,H,I.tok _,rfl,q⟩
 | non=>cases (show u=Value.none from a);exact IsiPair.NoneType_bool ⟨.bl false,H,I.tok _,rfl,q⟩
 | tuple hh=>cases a;obtain ⟨o,e,c⟩:=I.clsK (.tuple hh);exact IsiPair.tuple_bool e c ⟨.bl false,H,I.tok _,rfl,q⟩
 | list hh=>cases a;obtain ⟨o,e,c⟩:=I.clsK (.list hh);exact IsiPair.list_bool e c ⟨.bl false,H,I.tok _,rfl,q⟩
 | dK hh=>cases a;obtain ⟨o,e,c⟩:=I.clsK (.dK hh);exact IsiPair.dict_bool e c ⟨.bl false,H,I.tok _,rfl,q⟩
 | dT hh=>cases a;obtain ⟨o,e,c⟩:=I.clsK (.dT hh);exact IsiPair.dict_bool e c ⟨.bl false,H,I.tok _,rfl,q⟩
theorem jM:cv X (.builtin "isinstance") (fun xs H Q=>∃ x k,xs=[x,.ty "tuple"]/\KindOf X.K H x k/\Q (.bl (mL k "tuple")) H):=by
 intro pins s σ H xs us Q I r h
 obtain ⟨x,k,rfl,d,q⟩:=h
 obtain ⟨u,v,rfl,a,f⟩:=j4 r
 cases (show v=Value.type "tuple" from f)
 cases d with
 | int i=>obtain ⟨g,rfl⟩:=a;exact IsiPair.int_tuple ⟨.bl false,H,I.tok _,rfl,q⟩
 | bool b=>cases (show u=Value.bool b from a);exact IsiPair.bool_tuple ⟨.bl false,H,I.tok _,rfl,q⟩
 | str z=>obtain ⟨g,rfl⟩:=a;exact IsiPair.str_tuple ⟨.bl false,H,I.tok _,rfl,q⟩
 | non=>cases (show u=Value.none from a);exact IsiPair.NoneType_tuple ⟨.bl false,H,I.tok _,rfl,q⟩
 | tuple hh=>cases a;obtain ⟨o,e,c⟩:=I.clsK (.tuple hh);exact IsiPair.tuple_tuple e c ⟨.bl true,H,I,rfl,q⟩
 | list hh=>cases a;obtain ⟨o,e,c⟩:=I.clsK (.list hh);exact IsiPair.list_tuple e c ⟨.bl false,H,I.tok _,rfl,q⟩
 | dK hh=>cases a;obtain ⟨o,e,c⟩:=I.clsK (.dK hh);exact IsiPair.dict_tuple e c ⟨.bl false,H,I.tok _,rfl,q⟩
 | dT hh=>cases a;obtain ⟨o,e,c⟩:=I.clsK (.dT hh);exact IsiPair.dict_tuple e c ⟨.bl false,H,I.tok _,rfl,q⟩
theorem rg {bs:List Bool}:((List.range bs.length).all fun i=>bs.getD i false)=bs.all id:=by
 rw [Bool.eq_iff_iff]
 simp only [List.all_eq_true,List.mem_range,id]
 constructor
 ·intro h b a
  obtain ⟨i,hi,rfl⟩:=List.mem_iff_getElem.mp a
  simpa [List.getD,hi] using h i hi
 ·intro h i hi
  simpa [List.getD,hi] using h _ (List.getElem_mem hi)
theorem t8 (t:X.calm=true):cv X (.builtin "all") (fun xs H Q=>∃ (a:Addr) (bs:List Bool),xs=[.ref a]/\SqL X.K H a (bs.map V.bl)/\Q (.bl (bs.all id)) H):=by
 intro pins s σ H xs us Q I r h
 obtain ⟨a,bs,rfl,D,q⟩:=h
 obtain ⟨u,rfl,g⟩:=eI r
 cases g
 obtain ⟨c,l,p,hz⟩:=I.list D
 have m:=l.length
 rw [zZ] at m
 have k:a < s.heap.objs.size:=by obtain ⟨o,_,e,_⟩:=id p;exact zW e
 refine call_all_walk (wpAny_pyIter_list p.isList ?_)
 refine ⟨s.heap.objs.size,_,_,_,_,_,fun i=>bs.getD i false,rfl,Walks.list (show X.A.in1.handled=none from I.ok.hd t) s.heap.objs.size a (Ab k) c.toArray,⟨⟨_,zY _ rfl,rfl,rfl⟩,p.isList.at fun o e=>zQ _ e⟩,?_,?_⟩
 ·intro i v s' z E w j
  have f:c[i]?=some v:=by simpa using w
  have hi:i < bs.length:=by
   have:=(z4.mp f).1
   omega
  obtain ⟨u,hu,g⟩:=l.get (i:=i) (x:=V.bl (bs[i])) (by simp [hi])
  rw [f] at hu
  cases hu
  cases (show v=Value.bool bs[i] from g)
  refine Av ?_
  have e:bs.getD i false=bs[i]:=by simp [List.getD,hi]
  have d:z (bs.getD i false) s':=j
  rw [e] at d
  exact d
 ·intro h' C B
  have y:Inv X pins σ H { s with heap:=h',toks:=C }:=I.kept fun b o e=>B b o (by
   intro hm
   have n:b=s.heap.objs.size:=by simpa using hm
   exact absurd (n ▸ zW e) (Nat.lt_irrefl _)) (zQ _ e)
  refine ⟨.bl (bs.all id),H,y,?_,q⟩
  show Value.bool _=Value.bool _
  rw [Ac,<- m,rg]
end
end L2
end
section
namespace L2
open PySem PySem.Spec PyProof.Rows
structure Callee (P:Program) (w:World) (K:FG) (mg:Str->Option Value) (base:Heap) (x:Str) (k:Nat) (ps:List Str) (sp:Sp):Prop where
 ex:∃ (f:Addr) (fd:FuncData),FnOk P w K mg base CX0 k f fd ps sp/\mg x=some (.ref f)/\PySem.W.keepIn K (.ref f)=true/\Binds K fd ps []
structure DefAt (K:FG) (mg:Str->Option Value) (x:Str) (st:Stmt) (f:Addr) (fd:FuncData):Prop where
 fn:Fun K x x st f fd
 mg:mg x=some (.ref f)
def Def (K:FG) (mg:Str->Option Value) (x:Str) (st:Stmt):Prop:=∃ f fd,DefAt K mg x st f fd
theorem Def.callee {K:FG} {st:Stmt} {k:Nat} (D:Def K mg x st) (b:∀ (kV doc pm:Value) (an:Option Addr) (a ct:Value) (us:List Value),us.length=ps.length->bindArgs (PySem.W.fnOf x x (ba st) (aM st) (ah st) .none kV doc pm an a ct) ⟨us,[]⟩=pure (ps.zip us)) (h:∀ f fd,Fun K x x st f fd->FnOk P w K mg base CX0 k f fd ps sp):Callee P w K mg base x k ps sp :=
 let ⟨f,fd,d⟩:=D
 ⟨f,fd,h f fd d.fn,d.mg,d.fn.kp,d.fn.binds b⟩
section
variable {X:Cx} {x:Str} {p pos:Pos} {e:Expr} {es:List Expr} {t:TA} {k:Nat} {ps:List Str} {sp:Sp}
def tFn (sp:Sp) (t:TA):TE:=fun σ H Q=>t σ H fun vs H1=>sp vs H1 Q E0
theorem pe_fn (c:Callee X.prog X.w X.K X.mg X.base x k ps sp) (m:Room k X.A) (d:PA X (e :: es) t) (j:Gl X x:=by rfl) (a:(x == ("__debug__":Str))=false:=by decide)
  (he:starEach (e :: es) X.env=(false,eval e X.env) :: starEach es X.env:=by rfl) (b:(backTo pos (starEach es X.env)).any (·.1)=false:=by rfl):PE X (.Call (.Name x p) (e :: es) [] pos) (tFn sp t):=by
 obtain ⟨f,fd,F,hm,l,i⟩:=c.ex
 have h:=vI (pos:=pos) (p:=p) (dvs:=[]) (E:=E0) F m j hm l i .nil pass0 d a he b
 intro pins s σ H Q I q
 refine h pins s σ H Q I ?_
 show t σ H fun vs H1=>sp (vs ++ []) H1 Q E0
 have g:t σ H (fun vs H1=>sp vs H1 Q E0):=q
 simpa using g
end
def But (p:Addr) (H H':Hp):Prop:=∀ b o,H b=some o->b ≠ p->H' b=some o
theorem But.trans (a:But p H H1) (b:But p H1 H2):But p H H2:=fun c o h n=>b c o (a c o h n) n
abbrev Pt:=Int × Int
def aH (p q r:Pt):Int:=(q.1 - p.1) * (r.2 - p.2) - (q.2 - p.2) * (r.1 - p.1)
def Small (p:Pt):Prop:=-(2 ^ 62) < p.1/\p.1 < 2 ^ 62/\-(2 ^ 62) < p.2/\p.2 < 2 ^ 62
def Rising (ps:List Pt):Prop:=∀ (i j:Nat) (p q:Pt),i < j->ps[i]?=some p->ps[j]?=some q->p.1 < q.1
def NoLine (ps:List Pt):Prop:=∀ (i j k:Nat) (p q r:Pt),i < j->j < k->ps[i]?=some p->ps[j]?=some q->ps[k]?=some r->aH p q r ≠ 0
structure GoodSh (ps:List Pt):Prop where
 pos:0 < ps.length
 most:ps.length<=24
 small:∀ p ∈ ps,Small p
 rising:Rising ps
 noline:NoLine ps
def iJ:List Pt->List (Pt × Pt)
 | []=>[]
 | p :: r=>r.map (fun q=>(p,q)) ++ iJ r
theorem km:∀ {ps:List Pt} {i j:Nat} {p q:Pt},i < j->ps[i]?=some p->ps[j]?=some q->(p,q) ∈ iJ ps
 | [],_,_,_,_,_,h,_=>by simp at h
 | a :: r,0,0,_,_,h,_,_=>by omega
 | a :: r,0,j+1,p,q,_,h1,h2=>by
  simp at h1 h2;subst h1
  exact zS _ (z7.mpr ⟨q,z5 h2,rfl⟩)
 | a :: r,i+1,0,_,_,h,_,_=>by omega
 | a :: r,i+1,j+1,p,q,h,h1,h2=>zT _ (km (ps:=r) (i:=i) (j:=j) (by omega) (by simpa using h1) (by simpa using h2))
theorem mj:∀ {ps:List Pt} {p q:Pt},(p,q) ∈ iJ ps->∃ i j:Nat,i < j/\ps[i]?=some p/\ps[j]?=some q
 | [],_,_,h=>by simp [iJ] at h
 | a :: r,p,q,h=>by
  rcases zX.mp h with h | h
  ·obtain ⟨z,hz,e⟩:=z7.mp h
   cases e
   obtain ⟨j,b,e⟩:=List.mem_iff_getElem.mp hz
   exact ⟨0,j+1,by omega,rfl,by simp [b,e]⟩
  ·obtain ⟨i,j,h0,h1,h2⟩:=mj h
   exact ⟨i+1,j+1,by omega,by simpa using h1,by simpa using h2⟩
theorem kj:∀ ps:List Pt,(iJ ps).length<=ps.length * ps.length
 | []=>by simp [iJ]
 | a :: r=>by
  have b:=kj r
  simp only [iJ,Aj,zZ,Ak]
  have:(r.length+1) * (r.length+1)=r.length * r.length+2 * r.length+1:=by
   rw [Nat.add_mul,Nat.mul_add];omega
  omega
def oS (ps:List Pt) (z:Pt):Prop:=∀ (i j:Nat) (p q:Pt),i < j->ps[i]?=some p->ps[j]?=some q->aH p q z ≠ 0
def above (ps:List Pt) (x y:Int):Nat:=((iJ ps).filter fun pr=>decide (aH pr.1 pr.2 (x,y)<=0)).length
theorem tZ {α:Type} {p q:α->Bool}:∀ {l:List α},(∀ a ∈ l,p a=true->q a=true)->(l.filter p).length<=(l.filter q).length
 | [],_=>by simp
 | a :: l,h=>by
  have e:=tZ (l:=l) fun b g=>h b (zP _ g)
  have f:=h a zO
  cases c:p a with
  | true=>rw [List.filter_cons_of_pos c,List.filter_cons_of_pos (f c)];simpa using e
  | false =>
   rw [List.filter_cons_of_neg (by simp [c])]
   cases d:q a with
   | true=>rw [List.filter_cons_of_pos d];simp;omega
   | false=>rw [List.filter_cons_of_neg (by simp [d])];exact e
theorem tY {α:Type} {p q:α->Bool}:∀ {l:List α} {z:α},(∀ a ∈ l,p a=true->q a=true)->z ∈ l->q z=true->p z=false->(l.filter p).length < (l.filter q).length
 | [],_,_,hz,_,_=>by simp at hz
 | a :: l,z,h,hz,h1,h2=>by
  have d:∀ b ∈ l,p b=true->q b=true:=fun b i=>h b (zP _ i)
  rcases zU.mp hz with rfl | hz
  ·rw [List.filter_cons_of_neg (by simp [h2]),List.filter_cons_of_pos h1]
   have:=tZ d
   simp;omega
  ·have f:=tY d hz h1 h2
   have g:=h a zO
   cases c:p a with
   | true=>rw [List.filter_cons_of_pos c,List.filter_cons_of_pos (g c)];simpa using f
   | false =>
    rw [List.filter_cons_of_neg (by simp [c])]
    cases e:q a with
    | true=>rw [List.filter_cons_of_pos e];simp;omega
    | false=>rw [List.filter_cons_of_neg (by simp [e])];exact f
theorem pS (p q:Pt) (x y:Int):aH p q (x,y+1)=aH p q (x,y)+(q.1 - p.1):=by
 unfold aH
 have e:(q.1 - p.1) * (y+1 - p.2)=(q.1 - p.1) * (y - p.2)+(q.1 - p.1):=by
  rw [show y+1 - p.2=(y - p.2)+1 by omega,Int.mul_add,Int.mul_one]
 show (q.1 - p.1) * (y+1 - p.2) - (q.2 - p.2) * (x - p.1)=(q.1 - p.1) * (y - p.2) - (q.2 - p.2) * (x - p.1)+(q.1 - p.1)
 rw [e];omega
theorem nv {x y:Int} (R:Rising ps) {i j:Nat} (a:i < j) (hi:ps[i]?=some p) (c:ps[j]?=some q) (h0:aH p q (x,y)=0):above ps x (y+1) < above ps x y:=by
 refine tY (z:=(p,q)) (fun pr b h=>?_) (km a hi c) (by simp [h0]) ?_
 ·obtain ⟨f,d,h',e1,e⟩:=mj (p:=pr.1) (q:=pr.2) b
  have:=R f d _ _ h' e1 e
  have h:=of_decide_eq_true h
  rw [pS] at h
  exact Ae (by omega)
 ·have:=R i j _ _ a hi c
  show decide (aH p q (x,y+1)<=0)=false
  rw [pS,h0]
  exact Af (by omega)
theorem ul (ps:List Pt) (x y:Int):above ps x y<=ps.length * ps.length:=Aw (List.length_filter_le _ _) (kj ps)
theorem cG {α:Type} {l:List α} {z a:α} {i:Nat} (h:(l ++ [z])[i]?=some a):(l[i]?=some a/\i < l.length)\/(a=z/\i=l.length):=by
 by_cases hi:i < l.length
 ·rw [As hi] at h;exact .inl ⟨h,hi⟩
 ·rw [List.getElem?_append_right (by omega)] at h
  have:i - l.length=0:=by
   cases e:i - l.length with
   | zero=>rfl
   | succ n=>rw [e] at h;simp at h
  rw [this] at h;simp at h
  exact .inr ⟨h.symm,by omega⟩
theorem Rising.snoc (R:Rising ps) (h:∀ p ∈ ps,p.1 < z.1):Rising (ps ++ [z]):=fun i j p q a h1 h2=>by
 rcases cG h1 with ⟨a1,b1⟩ | ⟨rfl,b1⟩
 ·rcases cG h2 with ⟨a2,b2⟩ | ⟨rfl,b2⟩
  ·exact R i j p q a a1 a2
  ·exact h p (z5 a1)
 ·rcases cG h2 with ⟨a2,b2⟩ | ⟨rfl,b2⟩
  ·omega
  ·omega
theorem NoLine.snoc (N:NoLine ps) (F:oS ps z):NoLine (ps ++ [z]):=fun i j k p q r a b h1 h2 h3=>by
 rcases cG h1 with ⟨a1,b1⟩ | ⟨rfl,b1⟩
 ·rcases cG h2 with ⟨a2,b2⟩ | ⟨rfl,b2⟩
  ·rcases cG h3 with ⟨d,c⟩ | ⟨rfl,c⟩
   ·exact N i j k p q r a b a1 a2 d
   ·exact F i j p q a a1 a2
  ·rcases cG h3 with ⟨d,c⟩ | ⟨rfl,c⟩ <;> omega
 ·rcases cG h2 with ⟨a2,b2⟩ | ⟨rfl,b2⟩ <;> omega
section InBlock
variable {X:Cx} {NY:List Str} {scope:Scope} {s:Shared} {H:Hp} {C:Addr} {fp:List Addr}
end InBlock
end L2
end
section
namespace L2
open PySem PySem.Spec PyProof.Rows
mutual
inductive DV (K:FG) (H:Hp):V->PyData->Prop
 | non:DV K H .non .none
 | bl (b:Bool):DV K H (.bl b) (.bool b)
 | int (i:Int):DV K H (.int i) (.int i)
 | str (x:Str):DV K H (.str x) (.str x)
 | tup {a:Addr} {xs:List V} {ds:List PyData}:SqT K H a xs->DVs K H xs ds->DV K H (.ref a) (.tuple ds)
 | lst {a:Addr} {xs:List V} {ds:List PyData}:SqL K H a xs->DVs K H xs ds->DV K H (.ref a) (.list ds)
inductive DVs (K:FG) (H:Hp):List V->List PyData->Prop
 | nil:DVs K H [] []
 | cons {x:V} {d:PyData} {xs:List V} {ds:List PyData}:DV K H x d->DVs K H xs ds->DVs K H (x :: xs) (d :: ds)
end
section
variable {X:Cx} {pins:List (Addr × Obj)} {σ:St} {H:Hp} {s:Shared}
mutual
theorem DV.reads (I:Inv X pins σ H s):∀ {v:V} {d:PyData} {u:Value},DV X.K H v d->RelV v u->∃ as,Reads s.heap u d as
 | _,_,u,.non,r=>by cases (show u=Value.none from r);exact ⟨_,.none⟩
 | _,_,u,.bl b,r=>by cases (show u=Value.bool b from r);exact ⟨_,.bool b⟩
 | _,_,u,.int i,r=>by obtain ⟨t,rfl⟩:=r;exact ⟨_,.int i t⟩
 | _,_,u,.str x,r=>by obtain ⟨t,rfl⟩:=r;exact ⟨_,.str x t⟩
 | _,_,u,.tup (a:=a) h rs,r=>by
  cases (show u=Value.ref a from r)
  obtain ⟨g,f,⟨o,e,c,n,d⟩,_⟩:=I.tuple h
  obtain ⟨as,q⟩:=DVs.reads I rs f
  exact ⟨_,.tuple e c d (by simpa using q)⟩
 | _,_,u,.lst (a:=a) h rs,r=>by
  cases (show u=Value.ref a from r)
  obtain ⟨g,f,⟨o,n,e,c,_,d⟩,_⟩:=I.list h
  obtain ⟨as,q⟩:=DVs.reads I rs f
  exact ⟨_,.list e c d (by simpa using q)⟩
theorem DVs.reads (I:Inv X pins σ H s):∀ {v:List V} {d:List PyData} {us:List Value},DVs X.K H v d->Vals v us->∃ as,ReadsAll s.heap us d as
 | _,_,_,.nil,.nil=>⟨_,.nil⟩
 | _,_,_,.cons h r,.cons q t=>by
  obtain ⟨as,e1⟩:=DV.reads I h q
  obtain ⟨bs,a⟩:=DVs.reads I r t
  exact ⟨_,.cons e1 a⟩
end
end
end L2
end
section
namespace L2
open PySem PySem.Spec PyProof.Rows
abbrev mm (i:Int):Str:=Str.ofString (toString i)
end L2
end
section
namespace L2
open PySem PySem.Spec PyProof.Rows
end L2
end
section
namespace L2
open PySem PySem.Spec PyProof.Rows
end L2
end
section
namespace L2
open PySem PySem.Spec PyProof.Rows
end L2
end
section
namespace L2
open PySem PySem.Spec PyProof.Rows
end L2
end
section
namespace L2
open PySem PySem.Spec PyProof.Rows
end L2
end
section
namespace L2
open PySem PySem.Spec PyProof.Rows
end L2
end
section
namespace L2
open PySem PySem.Spec PyProof.Rows
end L2
end
section
namespace L2
open PySem PySem.Spec PyProof.Rows
end L2
end
section
namespace L2
open PySem PySem.Spec PyProof.Rows
end L2
end
section
namespace PySem
open Sem (wp)
end PySem
end
section
namespace L2
open PySem PySem.Spec PyProof.Rows
end L2
end
section
namespace L2
open PySem PySem.Spec PyProof.Rows
def IsPair (h:Heap) (b:Addr) (n:Int × Int):Prop:=∃ o t u m,h.get? b=some o/\o.cls=.type "tuple"/\o.data=.seq #[.int n.1 t,.int n.2 u] m
end L2
end
section
namespace L2
open PySem PySem.Spec PyProof.Rows
end L2
end
section
namespace PyProof.Rows
open PySem
end PyProof.Rows
end
section
namespace L2
open PySem PySem.Spec PyProof.Rows
end L2
end
section
namespace L2
open PySem
theorem rn:typeLookup (.type "zip") "__getattr__"=pure none:=by rw [typeLookup_type,builtinLookup_eq_fast];kernel_rfl
theorem uw:entryFor table "zip.__getattribute__"=some Builtin.«object.__getattribute__»:=entryFor_alias (id':="object.__getattribute__") (by kernel_rfl) (by decide +kernel) (by decide +kernel) (by kernel_rfl)
theorem p7 {a:Addr} {vs:Array Value} {sl:Array (Option Value)} {name:Str} {u:Tok} (c:typeLookup (.type "zip") name=pure none) (b:(["__module__","__name__","__qualname__","__doc__","__annotations__"]:List Str).contains name=false) (hsz:name.length+100<=sizeLine) :
  Meets (Builtin.«object.__getattribute__» ⟨[.ref a,.str name u],[]⟩) (fun A R s=>s.heap.get? a=some { cls:=.type "zip",dict:=none,data:=.fields vs,slots:=sl }/\raisesAttr (.ref a) name A R s):=by
 refine .of_wp fun prog w A R s h=>?_
 obtain ⟨i,g,d,f,os⟩:=s
 obtain ⟨e,h⟩:=h
 have ty:(⟨i,g,d,f,os⟩:Shared).TypeIs (.ref a) "zip":=⟨_,e,rfl⟩
 wp_walk
 refine wpAny_ite_false (by rw [b];rfl) ?_
 wp_walk
 exact wpAny_raiseAttrError h.1 h.2 (attrMsg_fits (by decide +kernel) hsz)
theorem getAttr?_miss_zip {prog:Program} {w:World} {A:Around} {E:Value->Shared->Prop} {s:Shared} {a:Addr} {o:Obj} {vs:Array Value} {name:Str} {Q:Option Value->Shared->Prop}
  (k:s.heap.get? a=some o) (p:o.cls=.type "zip") (b:o.data=.fields vs) (hd:o.dict=none) (i:typeLookup (.type "zip") name=pure none) (j:(["__module__","__name__","__qualname__","__doc__","__annotations__"]:List Str).contains name=false) (t:A.handled=none)
  (h:∀ h' m e,Heap.NewExcOf s.heap h' e "AttributeError"->Q none { s with heap:=h',toks:=m }) (hsz:name.length+100<=sizeLine:=by size_fits) :
  wpAny (model prog w) A (getAttr? (.ref a) name) Q E s:=by
 obtain ⟨c,r,dat,sl⟩:=o
 obtain ⟨q,g,d,m,os⟩:=s
 simp only at p b hd
 subst p b hd
 have ty:(⟨q,g,d,m,os⟩:Shared).TypeIs (.ref a) "zip":=⟨_,k,rfl⟩
 have B:=F.slot_zip_getattribute.lookup
 have v:=F.slot_zip_getattribute.bind (.ref a)
 have y:=rn
 have z:=sub_AttributeError
 have l:∀ f,(⟨q,g,d,f,os⟩:Shared).TypeIs (.ref a) "zip":=fun _=>⟨_,k,rfl⟩
 repeat ((fail_if_success with_reducible refine wpAny_call ?_);wp_step)
 refine call_meets F.slot_zip_getattribute (l _) uw (F.args_zip_getattribute_2 _ _) (p7 (vs:=vs) (sl:=sl) i j hsz) ⟨k,t,fun h' f e n=>?_⟩
 obtain ⟨t',x,he⟩:=n.there
 refine (?_:wpAny _ _ (getattributeRaised _ _ _ _ _ _ _) _ _ _)
 have u:(⟨h',g,d,f,os⟩:Shared).TypeIs (.ref e) "AttributeError":=⟨_,he,rfl⟩
 wp_walk
 exact h _ _ _ n.of
abbrev b7 (h:Heap) (z TI TO:Addr) (f0 f1:Value):Prop :=
 h.get? z=some { cls:=.type "zip",dict:=none,data:=.fields #[f0,f1,.bool false,.ref TI,.ref TO],slots:=#[] }
def eG (h:Heap) (z TO c a:Addr) (f0 f1:Value):Prop:=(f0=.none/\f1=.bool false)\/∃ (T:Nat) (o:Obj),f0=rawInt (T:Nat)/\h.get? T=some o/\∃ b,f1=.bool b/\T ≠ z/\T ≠ TO/\T ≠ c/\T ≠ a
theorem rm (a b:Addr) (xs ys:Array Value) :
  Meets (Builtin.«zip.__new__» ⟨[.type "zip",.ref a,.ref b],[]⟩) (fun _ R s=>s.heap.IsList a xs/\s.heap.IsTuple b ys /\
   ∀ h',(∀ n,n=s.heap.objs.size->b7 h' (n+4) (n+2) (n+3) .none (.bool false)/\PySem.IsPair h' (n+2) (.ref n) (.ref (n+1))/\PySem.IsPair h' (n+3) .none .none/\h'.IsListIter n a 0/\h'.IsTupleIter (n+1) b 0/\h'.objs.size=n+5) ->
    (∀ c o,s.heap.get? c=some o->h'.get? c=some o)->R (.ok (.ret (.ref (s.heap.objs.size+4)))) { s with heap:=h' }):=by
 refine .of_wp fun prog w A R s h=>?_
 obtain ⟨k,g,d,j,os⟩:=s
 obtain ⟨a1,a2,h⟩:=h
 have sub:=sub_zip
 have f:Heap.IsList (Shared.heap ⟨k,g,d,j,os⟩) a xs:=a1
 have i:Heap.IsTuple (Shared.heap ⟨k.push { cls:=.type "list_iterator",data:=.fields #[.ref a,.int 0 0] },g,d,j,os⟩) b ys:=Heap.IsTuple.push a2 _
 wp_walk using wpAny_pyIter_list f,wpAny_pyIter_tuple i
 refine ⟨_,rfl,?_⟩
 simp only [Au]
 have new:∀ (h:Heap) (u:Obj),u.isFreed=false->∀ n,h.objs.size=n->(h.push u).get? n=some u:=fun h u e n z=>z ▸ zY _ e
 have keep:∀ (h:Heap) (u:Obj) {c o},h.get? c=some o->(h.push u).get? c=some o:=fun h u=>zQ _
 refine h _ (fun n e=>?_) fun c o e=>keep _ _ (keep _ _ (keep _ _ (keep _ _ (keep _ _ e))))
 subst e
 refine ⟨new _ _ rfl _ ?_,keep _ _ (keep _ _ (new _ _ rfl _ ?_)),keep _ _ (new _ _ rfl _ ?_),⟨_,keep _ _ (keep _ _ (keep _ _ (keep _ _ (new _ _ rfl _ ?_)))),rfl,rfl⟩,⟨_,keep _ _ (keep _ _ (keep _ _ (new _ _ rfl _ ?_))),rfl,rfl⟩,?_⟩ <;> simp only [Au]
section
variable {prog:Program} {w:World} {A:Around} {E:Value->Shared->Prop} {s:Shared}
theorem dA {it l:Addr} {i:Nat} {items} {x:Value} {Q:Value->Shared->Prop} (hit:s.heap.IsTupleIter it l i)
  (f:s.heap.IsTuple l items) (e:items[i]?=some x)
  (d:∀ h',h'.IsTupleIter it l (i+1)->Heap.SameBut it s.heap h'->Q x { s with heap:=h' }) :
  wpAny (model prog w) A (Builtin.SmallTypes.nextOf (.ref it)) Q E s:=by
 have ty:=hit.typeIs
 obtain ⟨⟨c1,d1,h,s1⟩,h1,e1,a⟩:=hit
 obtain ⟨⟨c2,j,k,s2⟩,h2,c,n,b⟩:=f
 obtain ⟨o,g,p,m,os⟩:=s
 simp only at e1 a c b
 subst e1 a c b
 unfold Builtin.SmallTypes.nextOf
 refine zL (wpAny_callSpecial?_slot ty F.slot_tuple_iterator_next (wpAny_call_entry F.slot_tuple_iterator_next ty F.entry_tuple_iterator_next ?_ (F.args_tuple_iterator_next_1 _)))
 wp_walk
 rw [show items[(i:Int).toNat]?=some x from e]
 wp_walk
 exact ⟨_,rfl,zM (d _ ⟨_,Ai _ h1 rfl,rfl,rfl⟩ (Heap.SameBut.update ..))⟩
theorem lK {z TI TO T:Addr} {b:Bool} {e:Obj} {R:Bool->Shared->Prop} (hz:b7 s.heap z TI TO (rawInt (T:Nat)) (.bool b)) (g:s.heap.get? T=some e)
  (f:∀ a,b7 a z TI TO (rawInt (T:Nat)) (.bool true)->Heap.SameBut z s.heap a->R false { s with heap:=a }):wpAny (model prog w) A (Builtin.SmallTypes.ownedTupleIsFree (.ref z)) R E s:=by
 unfold Builtin.SmallTypes.ownedTupleIsFree
 refine zL (wpAny_field hz rfl (x:=rawInt (T:Nat)) rfl ?_)
 show wpAny _ _ (loadIfAlive (Int.toNat (T:Int)) >>= _) _ _ _
 refine zL (fun Γ p hΓ=>?_)
 show Sem.wp _ _ (Sem.loadIfAlive _ Sem.pure) _ _ _ _
 rw [Sem.wp_loadIfAlive,Int.toNat_natCast,g]
 refine (show wpAny (model prog w) A (pure (some e)) _ E s from zM ?_) Γ p hΓ
 simp only [Option.isNone_some,Ap,if_false]
 refine zL (wpAny_field hz rfl (x:=.bool b) rfl ?_)
 cases b with
 | true=>exact zM (f s.heap hz (Heap.SameBut.refl _ _))
 | false =>
  refine zL (wpAny_setField_rec hz (by simp) fun a d c=>zM (f a d c))
theorem jP {z TI TO h i l k T:Addr} {m k2:Nat} {xs ys:Array Value} {x y:Value} {b:Bool} {I:Obj} {Q:Value->Shared->Prop} (D:ZipApart z TI TO h i l k)
  (hz:b7 s.heap z TI TO (rawInt (T:Nat)) (.bool b)) (G:s.heap.get? T=some I) (B:PySem.IsPair s.heap TI (.ref h) (.ref i))
  (h1:s.heap.IsListIter h l m) (h2:s.heap.IsTupleIter i k k2) (u:s.heap.IsList l xs) (n:s.heap.IsTuple k ys) (F:xs[m]?=some x) (H:ys[k2]?=some y)
  (C:∀ h',b7 h' z TI TO (rawInt (T:Nat)) (.bool true)->h'.IsListIter h l (m+1)->h'.IsTupleIter i k (k2+1)->PySem.IsPair h' s.heap.objs.size x y->h'.objs.size=s.heap.objs.size+1 ->
   (∀ c o,c ≠ z->c ≠ h->c ≠ i->s.heap.get? c=some o->h'.get? c=some o)->Q (.ref s.heap.objs.size) { s with heap:=h' }) :
  wpAny (model prog w) A (Builtin.«zip.__next__» ⟨[.ref z],[]⟩) (fun fin s'=>∃ v,fin=.done (.ret v)/\Q v s') E s:=by
 show wpAny _ _ (field (.ref z) 2 >>= _) _ _ _
 refine zL (wpAny_field hz rfl (x:=.bool false) rfl ?_)
 show wpAny _ _ (field (.ref z) 3 >>= _) _ _ _
 refine zL (wpAny_field hz rfl (x:=.ref TI) rfl ?_)
 refine zL (wpAny_seqItems B rfl ?_)
 show wpAny _ _ (Builtin.SmallTypes.ownedTupleIsFree (.ref z) >>= _) _ _ _
 refine zL (lK hz G fun K p a=>?_)
 simp only [Ap,if_false]
 refine zL ?_
 rw [<- Array.forIn_toList]
 simp only [List.forIn_cons,List.forIn_nil]
 refine zL (zL (zN ?_))
 show wpAny _ _ (Builtin.SmallTypes.nextOf (.ref h) >>= _) _ _ _
 refine zL (wpAny_nextOf_list_item (h1.extBut a.extBut D.i1z) (u.extBut a.extBut D.l1z) F fun L t d=>zM ?_)
 refine zM (zL (zL (zN ?_)))
 show wpAny _ _ (Builtin.SmallTypes.nextOf (.ref i) >>= _) _ _ _
 refine zL (dA ((h2.extBut a.extBut D.i2z).extBut d.extBut D.i12.symm) ((n.extBut a.extBut D.l2z).extBut d.extBut D.l2i1) H fun j q f=>zM ?_)
 refine zM (zM ?_)
 show wpAny _ _ (newTuple [x,y] >>= _) _ _ _
 refine zL (wpAny_newTuple (zM ⟨_,rfl,?_⟩))
 have hz₃:b7 j z TI TO (rawInt (T:Nat)) (.bool true):=f.extBut _ _ D.i2z.symm (d.extBut _ _ D.i1z.symm p)
 have hsz:j.objs.size=s.heap.objs.size:=by rw [f.1,d.1,a.1]
 have g:(j.push { cls:=.type "tuple",data:=.seq #[x,y] }).get? j.objs.size=some _:=zY _ rfl
 have:=C (j.push { cls:=.type "tuple",data:=.seq #[x,y] }) (zQ _ hz₃) ((fun ⟨o,e,r⟩=>⟨o,zQ _ e,r⟩:j.IsListIter h l (m+1)->_) (t.extBut f.extBut D.i12)) ((fun ⟨o,e,r⟩=>⟨o,zQ _ e,r⟩:j.IsTupleIter i k (k2+1)->_) q)
  (by rw [hsz] at g;exact g) (by rw [Au,hsz]) fun c o c1 c2 J e=>zQ _ (f.extBut _ _ J (d.extBut _ _ c2 (a.extBut _ _ c1 e)))
 rw [<- hsz] at this
 exact this
theorem jn {z TI TO i j q k:Addr} {t k2:Nat} {xs ys:Array Value} {x y a b:Value} {Q:Value->Shared->Prop} (D:ZipApart z TI TO i j q k)
  (hz:b7 s.heap z TI TO .none (.bool false)) (a0:PySem.IsPair s.heap TI (.ref i) (.ref j)) (M:PySem.IsPair s.heap TO a b)
  (h1:s.heap.IsListIter i q t) (h2:s.heap.IsTupleIter j k k2) (N:s.heap.IsList q xs) (P:s.heap.IsTuple k ys) (Y:xs[t]?=some x) (Z:ys[k2]?=some y)
  (hQ:∀ h',b7 h' z TI TO (rawInt s.heap.objs.size) (.bool false)->h'.IsListIter i q (t+1)->h'.IsTupleIter j k (k2+1)->(∃ a b,PySem.IsPair h' TO a b)/\PySem.IsPair h' s.heap.objs.size x y->h'.objs.size=s.heap.objs.size+1 ->
   (∀ c o,c ≠ z->c ≠ TO->c ≠ i->c ≠ j->s.heap.get? c=some o->h'.get? c=some o)->Q (.ref s.heap.objs.size) { s with heap:=h' }) :
  wpAny (model prog w) A (Builtin.«zip.__next__» ⟨[.ref z],[]⟩) (fun fin s'=>∃ v,fin=.done (.ret v)/\Q v s') E s:=by
 obtain ⟨m,g,dr,tk,os⟩:=s
 obtain ⟨q1,G,J,K,q5,q6,q7,I,H,B,T,ax,a3,ar,L,S,O,az⟩:=D
 repeat ((fail_if_success with_reducible refine wpAny_onRaise ?_);wp_step)
 refine wpAny_onRaise (zL ?_)
 refine wpAny_nextOf_list_item (h1.extBut (Heap.SameBut.update ..).extBut J) (N.extBut (Heap.SameBut.update ..).extBut T) Y fun F W C=>?_
 have z₂:b7 F z TI TO .ellipsis (.bool false):=C.extBut _ _ (Ne.symm J) (Ai _ hz rfl)
 have t₂:PySem.IsPair F TO a b:=C.extBut _ _ I ((Heap.SameBut.update ..).extBut _ _ G M)
 have k₂:∀ c o,c ≠ z->c ≠ i->m.get? c=some o->F.get? c=some o:=fun c o c1 c2 e=>C.extBut _ _ c2 ((Heap.SameBut.update ..).extBut _ _ c1 e)
 have n₂:F.objs.size=m.objs.size:=by rw [C.1];exact (Heap.SameBut.update ..).1
 clear C
 repeat ((fail_if_success with_reducible refine wpAny_onRaise ?_);wp_step)
 refine wpAny_onRaise (zL ?_)
 refine dA (it:=j) (l:=k) ((fun ⟨o,e,r⟩=>⟨o,(Heap.SameBut.update ..).extBut _ _ (Ne.symm H) (k₂ _ _ K (Ne.symm B) e),r⟩:m.IsTupleIter j k k2->_) h2) ((fun ⟨o,e,r⟩=>⟨o,(Heap.SameBut.update ..).extBut _ _ S (k₂ _ _ L O e),r⟩:m.IsTuple k ys->_) P) Z fun d j2 p=>?_
 have z₄:b7 d z TI TO .ellipsis (.bool false):=p.extBut _ _ (Ne.symm K) ((Heap.SameBut.update ..).extBut _ _ (Ne.symm G) z₂)
 have t₄:PySem.IsPair d TO x b:=p.extBut _ _ H (Ai _ t₂ rfl)
 have R:d.IsListIter i q (t+1):=W.extBut (Heap.SameBut.update ..).extBut (Ne.symm I) |>.extBut p.extBut B
 have k₄:∀ c o,c ≠ z->c ≠ TO->c ≠ i->c ≠ j->m.get? c=some o->d.get? c=some o:=fun c o c1 c2 U c4 e=>p.extBut _ _ c4 ((Heap.SameBut.update ..).extBut _ _ c2 (k₂ c o c1 U e))
 have n₄:d.objs.size=m.objs.size:=by rw [p.1,<- n₂];exact (Heap.SameBut.update ..).1
 clear p W z₂ t₂ k₂ n₂
 have n₅:∀ f,(d.update TO f).objs.size=m.objs.size:=fun f=>by rw [Heap.size_update,n₄]
 have V:=zW hz
 have up:∀ (h:Heap) (u:Obj) (f X:Obj->Obj) (c:Addr) (o:Obj),c ≠ z->h.get? c=some o->(((h.push u).update z f).update z X).get? c=some o:=fun h u f X c o n e=>(Heap.SameBut.update ..).extBut _ _ n ((Heap.SameBut.update ..).extBut _ _ n (zQ _ e))
 have k₅:∀ f c o,c ≠ TO->d.get? c=some o->(d.update TO f).get? c=some o:=fun f c o n e=>(Heap.SameBut.update ..).extBut _ _ n e
 have new:∀ (h:Heap) (u:Obj),u.isFreed=false->(h.push u).get? h.objs.size=some u:=fun h u e=>zY _ e
 wp_walk
 refine ⟨_,rfl,?_⟩
 have w:=new (d.update TO (Obj.mapSeq fun v:Array Value=>v.setIfInBounds (0+1) y)) { cls:=.type "tuple",data:=.seq #[x,y] } rfl
 simp only [n₅] at w ⊢
 refine hQ _ (Ai _ (Ai _ (zQ _ (k₅ _ _ _ (Ne.symm G) z₄)) rfl) rfl) ?_ ?_ ⟨⟨x,y,up _ _ _ _ _ _ G (Ai _ t₄ rfl)⟩,?_⟩ ?_ ?_
 ·exact (fun ⟨o,e,r⟩=>⟨o,up _ _ _ _ _ _ J (k₅ _ _ _ (Ne.symm I) e),r⟩:d.IsListIter i q (t+1)->_) R
 ·exact (fun ⟨o,e,r⟩=>⟨o,up _ _ _ _ _ _ K (k₅ _ _ _ (Ne.symm H) e),r⟩:d.IsTupleIter j k (k2+1)->_) j2
 ·exact (Heap.SameBut.update ..).extBut _ _ (Nat.ne_of_gt V) ((Heap.SameBut.update ..).extBut _ _ (Nat.ne_of_gt V) w)
 ·rw [Heap.size_update,Heap.size_update,Au,n₅]
 ·exact fun c o c1 c2 U c4 e=>up _ _ _ _ _ _ c1 (k₅ _ _ _ c2 (k₄ c o c1 c2 U c4 e))
theorem rj {z TI TO d f q p:Addr} {t k2:Nat} {xs ys:Array Value} {x y a b f0 f1:Value} {Q:Value->Shared->Prop} (D:ZipApart z TI TO d f q p)
  (hz:b7 s.heap z TI TO f0 f1) (hm:eG s.heap z TO d f f0 f1) (m:PySem.IsPair s.heap TI (.ref d) (.ref f)) (g:PySem.IsPair s.heap TO a b)
  (h1:s.heap.IsListIter d q t) (h2:s.heap.IsTupleIter f p k2) (l:s.heap.IsList q xs) (h:s.heap.IsTuple p ys) (H:xs[t]?=some x) (K:ys[k2]?=some y)
  (G:∀ h' n j,b7 h' z TI TO n j->eG h' z TO d f n j->(∃ a b,PySem.IsPair h' TO a b)->h'.IsListIter d q (t+1)->h'.IsTupleIter f p (k2+1)->PySem.IsPair h' s.heap.objs.size x y->h'.objs.size=s.heap.objs.size+1 ->
   (∀ c o,c ≠ z->c ≠ TO->c ≠ d->c ≠ f->s.heap.get? c=some o->h'.get? c=some o)->Q (.ref s.heap.objs.size) { s with heap:=h' }) :
  wpAny (model prog w) A (Builtin.«zip.__next__» ⟨[.ref z],[]⟩) (fun fin s'=>∃ v,fin=.done (.ret v)/\Q v s') E s:=by
 have L:z < s.heap.objs.size:=zW hz
 have B:TO < s.heap.objs.size:=zW g
 have C:d < s.heap.objs.size:=by obtain ⟨_,e,_⟩:=h1;exact zW e
 have r:f < s.heap.objs.size:=by obtain ⟨_,e,_⟩:=h2;exact zW e
 rcases hm with ⟨rfl,rfl⟩ | ⟨T,O,rfl,I,b,rfl,t1,M,t3,J⟩
 ·exact jn D hz m g h1 h2 l h H K fun h' a1 a2 F i u k=>G h' _ _ a1 (.inr ⟨_,_,rfl,i.2,_,rfl,Nat.ne_of_gt L,Nat.ne_of_gt B,Nat.ne_of_gt C,Nat.ne_of_gt r⟩) i.1 a2 F i.2 u k
 ·exact jP D hz I m h1 h2 l h H K fun h' a1 a2 F i u k=>G h' _ _ a1 (.inr ⟨_,_,rfl,k _ _ t1 t3 J I,_,rfl,t1,M,t3,J⟩) ⟨_,_,k _ _ D.TOz D.TOi1 D.TOi2 g⟩ a2 F i u fun c o c1 _ N c4 e=>k c o c1 N c4 e
theorem ux {z TI TO i n u F:Addr} {B:Nat} {xs:Array Value} {a b f0 f1:Value} {Q:Fin->Shared->Prop} (y:A.handled=none) (D:ZipApart z TI TO i n u F)
  (hz:b7 s.heap z TI TO f0 f1) (hm:eG s.heap z TO i n f0 f1) (r:PySem.IsPair s.heap TI (.ref i) (.ref n)) (I:PySem.IsPair s.heap TO a b)
  (h1:s.heap.IsListIter i u B) (l:s.heap.IsList u xs) (h:xs[B]?=none)
  (C:∀ h' e,(∀ c o,c ≠ z->c ≠ TO->c ≠ i->c ≠ n->s.heap.get? c=some o->h'.get? c=some o)->(∃ o,h'.get? e=some o/\o.cls=.type "StopIteration")->E (.ref e) { s with heap:=h' }) :
  wpAny (model prog w) A (Builtin.«zip.__next__» ⟨[.ref z],[]⟩) Q E s:=by
 show wpAny _ _ (field (.ref z) 2 >>= _) _ _ _
 refine zL (wpAny_field hz rfl (x:=.bool false) rfl ?_)
 show wpAny _ _ (field (.ref z) 3 >>= _) _ _ _
 refine zL (wpAny_field hz rfl (x:=.ref TI) rfl ?_)
 refine zL (wpAny_seqItems r rfl ?_)
 show wpAny _ _ (Builtin.SmallTypes.ownedTupleIsFree (.ref z) >>= _) _ _ _
 rcases hm with ⟨rfl,rfl⟩ | ⟨T,M,rfl,H,b,rfl,t1,K,t3,L⟩
 ·refine zL ?_
  unfold Builtin.SmallTypes.ownedTupleIsFree
  refine zL (wpAny_field hz rfl (x:=.none) rfl (zM ?_))
  simp only [if_true]
  refine zL (wpAny_rule ?_)
  refine zL (wpAny_field hz rfl (x:=.ref TO) rfl ?_)
  refine zL (wpAny_setField_rec hz (by simp) fun v f d=>?_)
  replace f:b7 v z TI TO .ellipsis (.bool false):=f
  refine zL ?_
  simp only [List.zipIdx_cons,List.zipIdx_nil,List.forIn_cons,List.forIn_nil]
  refine zL (zL (wpAny_onRaise ?_))
  show wpAny _ _ (Builtin.SmallTypes.nextOf (.ref i) >>= _) _ _ _
  refine zL (wpAny_nextOf_list_end y (h1.extBut d.extBut D.i1z) (l.extBut d.extBut D.l1z) h fun p e g he=>?_)
  obtain ⟨G,j,m⟩:=he
  have hz₂:b7 p z TI TO .ellipsis (.bool false):=g _ _ D.i1z.symm f
  have q:e ≠ z:=fun x=>by subst x;rw [hz₂] at j;cases j;simp at m
  refine wpAny_setField_rec hz₂ (by simp) fun J _ k=>C J e (fun c o c1 _ t _ x=>k.extBut _ _ c1 (g _ _ t (d.extBut _ _ c1 x))) ⟨G,k.extBut _ _ q j,m⟩
 ·refine zL (lK hz H fun v f d=>?_)
  simp only [Ap,if_false]
  refine zL ?_
  rw [<- Array.forIn_toList]
  simp only [List.forIn_cons,List.forIn_nil]
  refine zL (zL (zN ?_))
  show wpAny _ _ (Builtin.SmallTypes.nextOf (.ref i) >>= _) _ _ _
  refine zL (wpAny_nextOf_list_end y (h1.extBut d.extBut D.i1z) (l.extBut d.extBut D.l1z) h fun p e g he=>?_)
  exact C p e (fun c o c1 _ t _ x=>g _ _ t (d.extBut _ _ c1 x)) he
theorem qU {i g:Addr} {xs ys:Array Value} {Q:Value->Shared->Prop} (l:s.heap.IsList i xs) (j:s.heap.IsTuple g ys)
  (h:∀ h',IsZip h' (s.heap.objs.size+4) (s.heap.objs.size+2) (s.heap.objs.size+3) .none->PySem.IsPair h' (s.heap.objs.size+2) (.ref s.heap.objs.size) (.ref (s.heap.objs.size+1)) ->
   PySem.IsPair h' (s.heap.objs.size+3) .none .none->h'.IsListIter s.heap.objs.size i 0->h'.IsTupleIter (s.heap.objs.size+1) g 0->h'.objs.size=s.heap.objs.size+5 ->
   (∀ c o,s.heap.get? c=some o->h'.get? c=some o)->Q (.ref (s.heap.objs.size+4)) { s with heap:=h' }) :
  wpAny (model prog w) A (call (.type "zip") [.ref i,.ref g]) Q E s :=
 callType_new F.called_zip (by decide) (F.typeCall_zip_2 _ _) (F.newCall_zip_2 _ _) (fun obj=>F.args_object_init_3 obj _ _) F.entry_zip_new (rm i g xs ys) ⟨l,j,fun h' f k =>
  let ⟨a,b,c,d,e,z⟩:=f _ rfl
  ⟨⟨_,a,rfl⟩,h h' a b c d e z k⟩⟩
end
end L2
end
section
namespace L2
open PySem
namespace Fz
theorem entry_dict_update_loop:entryFor table "dict.update.loop"=some Builtin.«dict.update.loop»:=entryFor_of_tree (by kernel_rfl)
theorem plain_dict_update_loop:plainId "dict.update.loop"=true:=by decide +kernel
end Fz
section
variable {prog:Program} {w:World} {K:Type} [DecidableEq K] {knd:HeapKind prog w K} {A:Around} {E:Value->Shared->Prop} {s:Shared}
theorem qv {z TI TO f g i h:Addr} {k k2:Nat} {xs ys:Array Value} {x y a b f0 f1:Value} {Q:Option Value->Shared->Prop} (D:ZipApart z TI TO f g i h)
  (hz:b7 s.heap z TI TO f0 f1) (hm:eG s.heap z TO f g f0 f1) (n:PySem.IsPair s.heap TI (.ref f) (.ref g)) (l:PySem.IsPair s.heap TO a b)
  (h1:s.heap.IsListIter f i k) (h2:s.heap.IsTupleIter g h k2) (m:s.heap.IsList i xs) (j:s.heap.IsTuple h ys) (t:xs[k]?=some x) (v:ys[k2]?=some y)
  (q:∀ h' e d,b7 h' z TI TO e d->eG h' z TO f g e d->(∃ a b,PySem.IsPair h' TO a b)->h'.IsListIter f i (k+1)->h'.IsTupleIter g h (k2+1)->PySem.IsPair h' s.heap.objs.size x y->h'.objs.size=s.heap.objs.size+1 ->
   (∀ c o,c ≠ z->c ≠ TO->c ≠ f->c ≠ g->s.heap.get? c=some o->h'.get? c=some o)->Q (some (.ref s.heap.objs.size)) { s with heap:=h' }) :
  wpAny (model prog w) A (pyNext (.ref z)) Q E s:=by
 have p:s.TypeIs (.ref z) "zip":=⟨_,hz,rfl⟩
 unfold pyNext
 exact zL (wpAny_attempt (wpAny_callSpecial?_slot (name:=Str.ofString "__next__") p PySem.F.slot_zip_next
  (wpAny_call_entry PySem.F.slot_zip_next p PySem.F.entry_zip_next
   (rj D hz hm n l h1 h2 m j t v fun h' e d a1 a2 H r u B C G=>zM (q h' e d a1 a2 H r u B C G)) (PySem.F.args_zip_next_1 _))))
theorem sX {z TI TO f g k r:Addr} {l:Nat} {xs:Array Value} {a b f0 f1:Value} {Q:Option Value->Shared->Prop} (t:A.handled=none) (D:ZipApart z TI TO f g k r)
  (hz:b7 s.heap z TI TO f0 f1) (hm:eG s.heap z TO f g f0 f1) (j:PySem.IsPair s.heap TI (.ref f) (.ref g)) (h:PySem.IsPair s.heap TO a b)
  (h1:s.heap.IsListIter f k l) (i:s.heap.IsList k xs) (d:xs[l]?=none)
  (n:∀ h',(∀ c o,c ≠ z->c ≠ TO->c ≠ f->c ≠ g->s.heap.get? c=some o->h'.get? c=some o)->Q none { s with heap:=h' }):wpAny (model prog w) A (pyNext (.ref z)) Q E s:=by
 have m:s.TypeIs (.ref z) "zip":=⟨_,hz,rfl⟩
 unfold pyNext
 refine zL (wpAny_attempt (wpAny_callSpecial?_slot (name:=Str.ofString "__next__") m PySem.F.slot_zip_next
  (wpAny_call_entry PySem.F.slot_zip_next m PySem.F.entry_zip_next (ux t D hz hm j h h1 i d fun h' e q he=>?_) (PySem.F.args_zip_next_1 _))))
 obtain ⟨o,u,p⟩:=he
 refine zL (wpAny_isInstance (T:="StopIteration") (b:=true) ⟨o,u,p⟩ isSubtype_stop ?_)
 exact zM (n _ q)
theorem oO {a:List (K × Addr × Value)} (k:(a.map (·.1)).Nodup) {i:Nat} {t:K × Addr × Value} (e:a[i]?=some t):storedH (a.take i) t.1 t.2.1 t.2.2=a.take (i+1):=by
 have f:atKey (a.take i) t.1=none:=by
  refine atKey_none_of_get fun j p d=>?_
  have c:i < a.length:=by obtain ⟨h,_⟩:=z4.mp e;exact h
  rw [List.getElem?_take] at d
  split at d
  ·rename_i b
   have g:j < a.length:=Nat.lt_trans b c
   have e1:(a.map (·.1))[j]'(by simpa using g)=(a.map (·.1))[i]'(by simpa using c):=by
    have h1:=z4.mp d
    have h2:=z4.mp e
    simp only [List.getElem_map]
    rw [h1.2,h2.2]
   exact List.pairwise_iff_getElem.mp k j i _ _ b e1
  ·cases d
 rw [storedH_new f,List.take_add_one,e]
 rfl
theorem qO (hh:A.in1.handled=none) (hu:knd.room A.in1) {z TI TO p u M N d:Addr} (D:ZipApart z TI TO p u M N) (dz:d ≠ z) (Z:d ≠ TI) (J:d ≠ TO) (d1:d ≠ p) (d2:d ≠ u) (ax:d ≠ M) (Y:d ≠ N)
  {f:List (K × Addr × Value)} (hn:(f.map (·.1)).Nodup) (hsz:f.length<=sizeLine) {R:Result->Shared->Prop}
  (keep:∀ h h':Heap,(∀ t ∈ f,knd.is h t.1 t.2.1)->(∀ c o,c ≠ z->c ≠ TO->c ≠ p->c ≠ u->h.get? c=some o->h'.get? c=some o)->∀ t ∈ f,knd.is h' t.1 t.2.1) :
  ∀ (k i:Nat) (s:Shared) (f0 f1 a b:Value),f.length - i=k->i<=f.length->b7 s.heap z TI TO f0 f1->eG s.heap z TO p u f0 f1->PySem.IsPair s.heap TI (.ref p) (.ref u)->PySem.IsPair s.heap TO a b ->
   s.heap.IsListIter p M i->s.heap.IsTupleIter u N i->s.heap.IsList M (f.map fun t=>Value.ref t.2.1).toArray->s.heap.IsTuple N (f.map fun t=>t.2.2).toArray ->
   (∀ t ∈ f,knd.is s.heap t.1 t.2.1)->DictOfHE knd s.heap d (f.take i) ->
   (∀ h' S,DictOfHE knd h' d f->(∀ c o,c ≠ z->c ≠ TO->c ≠ p->c ≠ u->c ≠ d->s.heap.get? c=some o->h'.get? c=some o)->R (.ok (.ret .none)) { s with heap:=h',toks:=S }) ->
   codeAny (model prog w) A (.builtin "dict.update.loop" ⟨[.ref d,.ref z,rawInt i,.none],[]⟩) R s:=by
 have carry:∀ {h h':Heap} {ys:List (K × Addr × Value)},DictOfHE knd h d ys->(∀ t ∈ ys,knd.is h' t.1 t.2.1)->(∀ c o,c ≠ z->c ≠ TO->c ≠ p->c ≠ u->h.get? c=some o->h'.get? c=some o)->DictOfHE knd h' d ys:=fun ⟨o,es,ep,g1,g2,g3,g4,g5,g6,g7⟩ hi P =>
  ⟨o,es,ep,P d o dz J d1 d2 g1,g2,g3,g4,hi,g6,g7⟩
 intro k
 induction k with
 | zero =>
  intro i s f0 f1 a b P hi hz hm n B h1 h2 m C E hd V
  have W:i=f.length:=by omega
  subst W
  refine codeAny_builtin Fz.entry_dict_update_loop ?_
  rw [Around.under_plainId Fz.plain_dict_update_loop _]
  show wpAny _ A.in1 (pyNext (.ref z) >>= _) _ _ s
  refine zL (sX hh D hz hm n B h1 m (by simp) fun h' j=>?_)
  show wpAny _ A.in1 (Builtin.Dict.addKeywords d [] >>= _) _ _ _
  refine zL (zM (zM ?_))
  rw [List.take_length] at hd
  exact V h' s.toks (carry hd (keep _ _ E j) j) fun c o c1 c2 O c4 _ e=>j c o c1 c2 O c4 e
 | succ k ih =>
  intro i s f0 f1 a b P hi hz hm n B h1 h2 m C E hd V
  have F:i < f.length:=by omega
  have ht:f[i]?=some f[i]:=zV F
  have I:f[i] ∈ f:=List.getElem_mem F
  refine codeAny_builtin Fz.entry_dict_update_loop ?_
  rw [Around.under_plainId Fz.plain_dict_update_loop _]
  show wpAny _ A.in1 (pyNext (.ref z) >>= _) _ _ s
  refine zL (qv D hz hm n B h1 h2 m C (x:=.ref f[i].2.1) (y:=f[i].2.2) (by simp [ht]) (by simp [ht]) fun h' ar X a1 a2 ⟨a',b',a3⟩ a4 a5 a6 a7 j=>?_)
  have l:=keep _ _ E j
  have L:=carry hd (fun t q=>l t (List.mem_of_mem_take q)) j
  refine zL (zN ?_)
  refine zL (wpAny_tryCatch ?_)
  unfold Builtin.Dict.pairItems
  refine zL (wpAny_typeOf (T:="tuple") ⟨_,a6,rfl⟩ ?_)
  rw [if_pos (by decide)]
  refine zL (wpAny_seqItems a6 rfl (zM ?_))
  show wpAny _ _ (holding [Value.ref f[i].2.1,f[i].2.2] (dictSet d (.ref f[i].2.1) f[i].2.2)) _ _ _
  refine zN (fN hu (l _ I) L (hsz:=by rw [Al];omega) fun h₂ v H=>?_)
  rw [oO hn ht] at v
  obtain ⟨o',az,a0,g1,g2,g3,g4,g5,g6,g7⟩:=L
  refine zM ⟨plainId_quiet Fz.plain_dict_update_loop _,?_⟩
  have up:∀ c o,c ≠ d->h'.get? c=some o->h₂.get? c=some o:=fun c o c1 e=>H.extBut _ _ c1 e
  refine ih (i+1) _ ar X a' b' (by omega) F (up _ _ dz.symm a1) ?_ (up _ _ Z.symm (j _ _ D.TIz D.TITO D.TIi1 D.TIi2 n)) (up _ _ J.symm a3) ?_ ?_ ?_ ?_ (fun t q=>knd.keeps (l t q) g1 g3 H) v fun h₃ S U Q=>?_
  ·rcases a2 with q | ⟨T,oT,e0,hT,b0,e1,t1⟩
   ·exact .inl q
   ·by_cases G:T=d
    ·obtain ⟨o2,_,_,g,_⟩:=v
     exact .inr ⟨T,o2,e0,G ▸ g,b0,e1,t1⟩
    ·exact .inr ⟨T,oT,e0,up _ _ G hT,b0,e1,t1⟩
  ·exact a4.at fun o e=>up _ o d1.symm e
  ·obtain ⟨o,e,r⟩:=a5
   exact ⟨o,up _ o d2.symm e,r⟩
  ·exact (m.at fun o e=>j _ o D.l1z D.l1TO D.l1i1 D.l1i2 e).at fun o e=>up _ o ax.symm e
  ·obtain ⟨o,e,r⟩:=C
   exact ⟨o,up _ o Y.symm (j _ o D.l2z D.l2TO D.l2i1 D.l2i2 e),r⟩
  ·exact V h₃ S U fun c o c1 c2 O c4 c5 e=>Q c o c1 c2 O c4 c5 (up c o c5 (j c o c1 c2 O c4 e))
theorem tz:typeLookup (.type "zip") "keys"=pure none:=am_miss_of_fast (by kernel_rfl)
theorem lD (O:A.handled=none) (hu:knd.room A.in1.in1) {z TI TO g f p i:Addr} {a b:Value} (D:ZipApart z TI TO g f p i)
  {d:List (K × Addr × Value)} (V:(d.map (·.1)).Nodup) (hsz:d.length<=sizeLine) {Q:Value->Shared->Prop}
  (keep:∀ h h':Heap,(∀ t ∈ d,knd.is h t.1 t.2.1)->(∀ c o,c ≠ z->c ≠ TO->c ≠ g->c ≠ f->h.get? c=some o->h'.get? c=some o)->∀ t ∈ d,knd.is h' t.1 t.2.1)
  (hz:b7 s.heap z TI TO .none (.bool false)) (n:PySem.IsPair s.heap TI (.ref g) (.ref f)) (l:PySem.IsPair s.heap TO a b)
  (h1:s.heap.IsListIter g p 0) (h2:s.heap.IsTupleIter f i 0) (m:s.heap.IsList p (d.map fun t=>Value.ref t.2.1).toArray) (j:s.heap.IsTuple i (d.map fun t=>t.2.2).toArray)
  (v:∀ t ∈ d,knd.is s.heap t.1 t.2.1)
  (U:∀ h' H,DictOfHE knd h' s.heap.objs.size d->(∀ c o,c ≠ z->c ≠ TO->c ≠ g->c ≠ f->s.heap.get? c=some o->h'.get? c=some o)->Q (.ref s.heap.objs.size) { s with heap:=h',toks:=H }) :
  wpAny (model prog w) A (call (.type "dict") [.ref z]) Q E s:=by
 have X:z < s.heap.objs.size:=zW hz
 have y:TI < s.heap.objs.size:=zW n
 have C:TO < s.heap.objs.size:=zW l
 have B:g < s.heap.objs.size:=by obtain ⟨_,e,_⟩:=h1;exact zW e
 have J:f < s.heap.objs.size:=by obtain ⟨_,e,_⟩:=h2;exact zW e
 have u:p < s.heap.objs.size:=by obtain ⟨_,e,_⟩:=m;exact zW e
 have q:i < s.heap.objs.size:=by obtain ⟨_,e,_⟩:=j;exact zW e
 refine callType_codes (Q₁:=fun obj N=>obj=.ref s.heap.objs.size/\N = { s with heap:=s.heap.push { cls:=.type "dict",data:=.dict #[] } }) PySem.F.kt_called_dict (PySem.F.kt_typeCall_dict_1 _) PySem.F.entry_dict_init (kt_code_dict_new _ ⟨rfl,rfl⟩) ?_
 rintro obj N ⟨rfl,rfl⟩
 have M:(s.heap.push { cls:=.type "dict",data:=.dict #[] }).get? s.heap.objs.size=some _:=zY _ rfl
 have P:Shared.TypeIs { s with heap:=s.heap.push { cls:=.type "dict",data:=.dict #[] } } (.ref s.heap.objs.size) "dict":=⟨_,M,rfl⟩
 have R:=zQ { cls:=.type "dict",data:=.dict #[] } hz
 refine ⟨P,PySem.F.args_dict_init_2 _ _,?_⟩
 unfold Builtin.«dict.__init__»
 refine zL ?_
 unfold Builtin.Dict.selfAndRest
 refine zL (wpAny_notOrdered_dict P ?_)
 show wpAny _ _ (pure (s.heap.objs.size,[Value.ref z])) _ _ _
 refine zM ?_
 show wpAny _ _ (Builtin.Dict.updateFrom "dict.__init__" s.heap.objs.size (.ref z) [] .none) _ _ _
 unfold Builtin.Dict.updateFrom
 refine zL (wpAny_typeOf (T:="zip") ⟨_,R,rfl⟩ ?_)
 rw [if_pos (by decide)]
 refine zL (getAttr?_miss_zip R rfl rfl rfl tz (by decide) ?_ fun L S Z k=>?_)
 ·simpa using O
 ·have old:∀ c o,s.heap.get? c=some o->L.get? c=some o:=fun c o e=>k.keeps c o (zQ _ e)
  have hg₁:=k.keeps _ _ M
  simp only [Option.isNone_none,if_true]
  refine zL (wpAny_rule (zL (wpAny_pyIter_zip (f0:=.none) (old _ _ hz) (zM ⟨plainId_quiet Fz.plain_dict_update_loop _,?_⟩))))
  have ne:∀ {c:Addr},c < s.heap.objs.size->s.heap.objs.size ≠ c:=fun h=>Nat.ne_of_gt h
  have his₁:∀ t ∈ d,knd.is L t.1 t.2.1:=keep _ _ v fun c o _ _ _ _ e=>old c o e
  refine qO (A:=A.in1) (by simpa using O) hu D (ne X) (ne y) (ne C) (ne B) (ne J) (ne u) (ne q) V hsz keep (d.length - 0) 0 _ .none (.bool false) a b rfl (Nat.zero_le _) (old _ _ hz) (.inl ⟨rfl,rfl⟩) (old _ _ n) (old _ _ l)
   (h1.at fun o e=>old _ o e) ((fun ⟨o,e,r⟩=>⟨o,old _ o e,r⟩:s.heap.IsTupleIter f i 0->_) h2) (m.at fun o e=>old _ o e) ((fun ⟨o,e,r⟩=>⟨o,old _ o e,r⟩:s.heap.IsTuple i _->_) j) his₁ ⟨_,#[],0,hg₁,⟨rfl,rfl,rfl⟩,rfl,rfl,(fun x W=>by cases W),List.nodup_nil,rfl⟩ fun h' H I G=>?_
  refine ⟨rfl,U h' H I fun c o c1 c2 Y c4 e=>G c o c1 c2 Y c4 (Ab (zW e)) (old c o e)⟩
end
end L2
end
section
namespace L2
open PySem PySem.Spec PyProof.Rows
section
variable {X:Cx}
def wJ (K:FG) (ta:TA):TE:=fun σ H Q=>ta σ H fun vs H1=>∃ (l t:Addr) (bs:List (Addr × List Key)) (ws:List V),vs=[.ref l,.ref t]/\SqL K H1 l (bs.map fun b=>V.ref b.1)/\SqT K H1 t ws/\(∀ b ∈ bs,H1 b.1=some (.tup (b.2.map kV)))/\bs.length=ws.length/\(bs.map (·.2)).Nodup /\
 ∀ p,H1 p=none->Q (.ref p) (upd H1 p (.dT ((bs.map (·.2)).zip ws)))
def eR:List (Addr × List Key)->List Value->List (List Key × Addr × Value)
 | b :: bs,v :: vs=>(b.2,b.1,v) :: eR bs vs
 | _,_=>[]
theorem j7:∀ {bs:List (Addr × List Key)} {vs:List Value},bs.length=vs.length->(eR bs vs).map (·.1)=bs.map (·.2)
 | [],[],_=>rfl
 | b :: bs,v :: vs,e=>by simp [eR,j7 (bs:=bs) (vs:=vs) (by simpa using e)]
theorem j6:∀ {bs:List (Addr × List Key)} {vs:List Value},bs.length=vs.length->(eR bs vs).map (fun t=>Value.ref t.2.1)=bs.map fun b=>Value.ref b.1
 | [],[],_=>rfl
 | b :: bs,v :: vs,e=>by simp [eR,j6 (bs:=bs) (vs:=vs) (by simpa using e)]
theorem j5:∀ {bs:List (Addr × List Key)} {vs:List Value},bs.length=vs.length->(eR bs vs).map (fun t=>t.2.2)=vs
 | [],[],_=>rfl
 | b :: bs,v :: vs,e=>by simp [eR,j5 (bs:=bs) (vs:=vs) (by simpa using e)]
theorem lQ:∀ {bs:List (Addr × List Key)} {vs:List Value},bs.length=vs.length->(eR bs vs).length=bs.length
 | [],[],_=>rfl
 | b :: bs,v :: vs,e=>by simp [eR,lQ (bs:=bs) (vs:=vs) (by simpa using e)]
theorem lP:∀ {bs:List (Addr × List Key)} {vs:List Value} {t:List Key × Addr × Value},t ∈ eR bs vs->(t.2.1,t.1) ∈ bs
 | [],vs,t,h=>by cases vs <;> cases h
 | b :: bs,[],t,h=>by cases h
 | b :: bs,v :: vs,t,h=>by
  rcases zU.mp h with rfl | h
  ·exact zO
  ·exact zP _ (lP h)
theorem oU {H:Hp}:∀ {bs:List (Addr × List Key)} {ws:List V} {vs:List Value},Vals ws vs->bs.length=ws.length->(∀ b ∈ bs,H b.1=some (.tup (b.2.map kV)))->KT H ((bs.map (·.2)).zip ws) (eR bs vs)
 | [],_,_,.nil,_,_=>.nil
 | [],_,_,.cons _ _,e,_=>by cases e
 | b :: bs,_,_,.nil,e,_=>by cases e
 | b :: bs,_,_,.cons r rs,e,hb=>.cons ⟨rfl,hb b zO,r⟩ (oU rs (by simpa using e) fun c a=>hb c (zP _ a))
theorem uj (n l t:Nat) (a:l < n) (b:t < n):ZipApart (n+4) (n+2) (n+3) n (n+1) l t:=by
 constructor <;> intro e <;> (have e:(_:Nat)=_:=e;omega)
theorem ki:∀ {bs:List Addr} {a:List Value},Vals (bs.map V.ref) a->a=bs.map Value.ref
 | [],_,.nil=>rfl
 | _ :: bs,_,.cons r rs=>by cases r;rw [ki rs];rfl
theorem vF {a b:Expr} {ta:TA} {p1 p2 u d:Pos} (U:X.calm=true) (hu:X.A.units+64 < cLine) (G:Gl X "dict") (v:X.mg "dict"=none) (hg:Gl X "zip") (hm:X.mg "zip"=none) (F:bootBuiltins "dict"=some (.type "dict")) (E:bootBuiltins "zip"=some (.type "zip")) (ha:PA X [a,b] ta)
  (R:starEach [.Call (.Name "zip" p2) [a,b] [] d] X.env=[(false,eval (.Call (.Name "zip" p2) [a,b] [] d) X.env)]) (C:starEach [a,b] X.env=(false,eval a X.env) :: starEach [b] X.env) (J:(backTo d (starEach [b] X.env)).any (·.1)=false) :
  PE X (.Call (.Name "dict" p1) [.Call (.Name "zip" p2) [a,b] [] d] [] u) (wJ X.K ta):=by
 intro pins s σ H Q I h
 refine Call_ (fV I G v F (PyProof.Rows.callWith_type1 ?_ R rfl))
 rw [R]
 show wpAny _ _ (spliced ((false,eval (.Call (.Name "zip" p2) [a,b] [] d) X.env) :: [])) _ _ s
 refine Calls.spliced_cons (Call_ (fV I hg hm E (PyProof.Rows.callWith_type1 (thn (ha d pins s σ H _ I h) fun us s1 ⟨vs,H1,k,r1,q1⟩=>?_) C J)))
 obtain ⟨l,t,bs,ws,rfl,V,ht,S,hlen,y,q⟩:=q1
 cases r1 with
 | cons r rr =>
  cases rr with
  | cons r' rr =>
   cases rr
   cases r
   cases r'
   obtain ⟨f,rl,pl,zl⟩:=k.list V
   obtain ⟨vs,rt,pt,T⟩:=k.tuple ht
   have e1:f=(bs.map (·.1)).map Value.ref:=ki (by rw [AA];exact rl)
   have p:bs.length=vs.length:=by rw [hlen];exact rt.length
   have g:s1.heap.IsList l ((eR bs vs).map fun t=>Value.ref t.2.1).toArray:=by rw [j6 p];have:=pl.isList;rw [e1,AA] at this;exact this
   have i:s1.heap.IsTuple t ((eR bs vs).map fun t=>t.2.2).toArray:=by rw [j5 p];exact pt
   have lt:∀ {c:Addr} {o:Obj},s1.heap.get? c=some o->c < s1.heap.objs.size:=fun e=>zW e
   have ll:l < s1.heap.objs.size:=by obtain ⟨_,e,_⟩:=g;exact lt e
   have lt':t < s1.heap.objs.size:=by obtain ⟨_,e,_⟩:=i;exact lt e
   refine qU g i fun h2 hz N B L z hsz m=>Calls.spliced_nil ?_
   have D:=uj s1.heap.objs.size l t ll lt'
   have key:∀ x ∈ eR bs vs,(tupleKind (bd X.prog X.w)).is s1.heap x.1 x.2.1:=fun x j=>lf k.hok (S _ (lP j))
   have keep:∀ h h':Heap,(∀ x ∈ eR bs vs,(tupleKind (bd X.prog X.w)).is h x.1 x.2.1)->(∀ c o,c ≠ s1.heap.objs.size+4->c ≠ s1.heap.objs.size+3->c ≠ s1.heap.objs.size->c ≠ s1.heap.objs.size+1->h.get? c=some o->h'.get? c=some o)->∀ x ∈ eR bs vs,(tupleKind (bd X.prog X.w)).is h' x.1 x.2.1:=fun h h' hi m x j=>by
    obtain ⟨o,f,n,g1,g2,g3,g4⟩:=hi x j
    obtain ⟨o0,P,n0,W,_⟩:=key x j
    have:=lt W
    exact ⟨o,f,n,m _ _ (Ab (Nat.lt_add_right 4 this)) (Ab (Nat.lt_add_right 3 this)) (Ab this) (Ab (Nat.lt_add_right 1 this)) g1,g2,g3,g4⟩
   refine lD (knd:=tupleKind (bd X.prog X.w)) (I.ok.hd U) (show X.A.units+1+1 < cLine by omega) D (by rw [j7 p];exact y) (by rw [lQ p,p];have:=T;have:=rt.length;omega) keep hz N B L z (g.at fun o e=>m _ o e) ((fun ⟨o,e,r⟩=>⟨o,m _ o e,r⟩:s1.heap.IsTuple t _->_) i) (fun x j=>?_) fun h' tk hd M=>?_
   ·obtain ⟨o,f,n,g1,g2,g3,g4⟩:=key x j
    exact ⟨o,f,n,m _ _ g1,g2,g3,g4⟩
   ·rw [hsz] at hd ⊢
    have old:∀ c o,s1.heap.get? c=some o->h'.get? c=some o:=fun c o e=>M c o (Ab (Nat.lt_add_right 4 (lt e))) (Ab (Nat.lt_add_right 3 (lt e))) (Ab (lt e)) (Ab (Nat.lt_add_right 1 (lt e))) (m c o e)
    have fr:s1.heap.objs.size<=s1.heap.objs.size+5:=by omega
    have O:=k.hok.fresh fr
    refine ⟨.ref (s1.heap.objs.size+5),_,k.laid (a:=s1.heap.objs.size+5) (o:=.dT ((bs.map (·.2)).zip ws)) (t':=tk) old fr ⟨?_,?_,eR bs vs,(oU rt hlen S).keeps fun b ys e=>?_,?_⟩,rfl,q _ O⟩
    ·rw [List.length_zip];simp only [zZ];have:=T;have:=rt.length;omega
    ·exact beq_eq_false_iff_ne.mpr (Nat.ne_of_gt (Nat.lt_add_right 5 k.big))
    ·rw [ay]
     ·exact e
     ·intro x;rw [x] at e;rw [O] at e;cases e
    ·obtain ⟨o,es,Y,g1,g2,g3,g4,g5,g6,Z⟩:=hd
     exact ⟨o,es,Y,g1,g2,g3,g4,g6,Z⟩
end
end L2
end
section
namespace L2
open PySem PySem.Spec PyProof.Rows
end L2
end
section
namespace L2
open PySem PySem.Spec PyProof.Rows
def IsNts (h:Heap) (b:Addr) (n:List Int):Prop:=∃ it:Array Value,IsTup h b it/\IntsAre it.toList n
end L2
end
section
namespace L2
open PySem PySem.Spec PyProof.Rows
end L2
end
section
namespace L2
open PySem PySem.Spec PyProof.Rows
end L2
end
section
namespace L2
open PySem PySem.Spec PyProof.Rows
end L2
end
section
namespace L2
open PySem PySem.Spec PyProof.Rows
theorem IsNts.at (x:IsNts h b n) (e:∀ o,h.get? b=some o->h'.get? b=some o):IsNts h' b n:=by
 obtain ⟨it,⟨o,e1,r⟩,j⟩:=x
 exact ⟨it,⟨o,e o e1,r⟩,j⟩
structure NRow (h:Heap) (bs:List Addr) (ns:List (List Int)):Prop where
 len:ns.length=bs.length
 at':∀ (i:Nat) (b:Addr) (n:List Int),bs[i]?=some b->ns[i]?=some n->IsNts h b n/\n ≠ []
 asc:∀ (i:Nat) (x y:List Int),ns[i]?=some y->ns[i+1]?=some x->HT.lexLt x y=false
theorem NRow.keep (r:NRow h bs ns) (k:∀ b ∈ bs,∀ o,h.get? b=some o->h'.get? b=some o):NRow h' bs ns :=
 ⟨r.len,fun i b n e1 a=>⟨(r.at' i b n e1 a).1.at (k b (z5 e1)),(r.at' i b n e1 a).2⟩,r.asc⟩
end L2
end
section
namespace L2
open PySem PySem.Spec PyProof.Rows
end L2
end
section
namespace L2
open PySem PySem.Spec PyProof.Rows
end L2
end
section
namespace L2
open PySem PySem.Spec PyProof.Rows
end L2
end
section
namespace L2
open PySem
abbrev Up (xs:Array Nat):Prop:=xs.toList.Pairwise (· < ·)
theorem Up.at (h:Up xs) {i k:Nat} (a:i < k) (b:k < xs.size):xs[i]'(by omega) < xs[k]:=by
 have:=List.pairwise_iff_getElem.mp h i k (by simp;omega) (by simpa using b) a
 simpa using this
structure Tab (b:Bool) (t:SetTable):Prop where
 up:Up t.place
 led:t.led=b
end L2
end
section
namespace L2
open PySem PyProof.Rows
abbrev wV (w:World):Bool:=!w.params.followText "set-order"
def SetL (prog:Program) (w:World) (h:Heap) (a:Addr) (ns:List Int):Prop :=
 ∃ o es b t ms,h.get? a=some o/\o.ExactSet/\o.data=.set es b t/\ElemsOf (intKind prog w) es.toList/\IntsAre (es.toList.map (·.2)) ms/\ms.Perm ns/\es.size < scanBound/\t.fits es.size=true/\Tab (wV w) t
theorem SetL.keep (x:SetL prog w h a ns) (k:∀ o,h.get? a=some o->h'.get? a=some o):SetL prog w h' a ns :=
 let ⟨o,es,b,t,ms,e,r⟩:=x;⟨o,es,b,t,ms,k o e,r⟩
def met (ns:List Int) (k:Int):List Int:=if k ∈ ns then ns else ns ++ [k]
end L2
end
section
namespace L2
open PySem PyProof.Rows
end L2
end
section
namespace L2
open PySem PyProof.Rows
def SIt (w : World) (h : Heap) (I a : Addr) (es : Array (Int × Value)) (b : Nat) (t : SetTable) (ord : List Value) (i : Nat) : Prop :=
  ∃ first, h.get? I = some { cls := .type "set_iterator", dict := none, data := .fields #[first, rawInt i, .ref a, rawInt es.size, rawInt b], slots := #[] } /\
    ((w.params.followText "set-order" = true /\ first = rawInt 0 /\ ord = (pickOrder (w.params.setOrder a b) es).toList.map (·.2)) \/
     (w.params.followText "set-order" = false /\ (!t.plain && es.size > 1) = false /\ (∃ k : Nat, first = rawInt k /\ SetTable.below t.place k = i) /\ ord = es.toList.map (·.2)) \/
     (∃ (T : Addr) (ps : List Nat), first = .ref T /\ T ≠ I /\ h.get? T = some { cls := .type "tuple", data := .seq (ps.map fun (p : Nat) => rawInt p).toArray } /\ ps.Perm (List.range es.size) /\ ord = ps.filterMap fun p => es[p]?.map (·.2)))
structure SAt (w:World) (h:Heap) (a:Addr) (es:Array (Int × Value)) (ep:Nat) (t:SetTable):Prop where
 at':∃ o,h.get? a=some o/\o.data=.set es ep t
 fits:t.fits es.size=true
 tab:Tab (wV w) t
end L2
end
section
namespace L2
open PySem PyProof.Rows
section
variable {prog:Program} {w:World} {A:Around} {E:Value->Shared->Prop} {s:Shared}
theorem SAt.keep {b:Nat} (x:SAt w h a es b t) (k:∀ o,h.get? a=some o->h'.get? a=some o):SAt w h' a es b t :=
 let ⟨⟨o,e,d⟩,f,t⟩:=x;⟨⟨o,k o e,d⟩,f,t⟩
theorem SIt.keep {c:Nat} {i:Nat} (x:SIt w h I a es c t ord i) (n:I ≠ S) (j:∀ T ps,h.get? T=some { cls:=.type "tuple",data:=.seq ps }->T ≠ S) (k:∀ b o,b ≠ S->h.get? b=some o->h'.get? b=some o):SIt w h' I a es c t ord i:=by
 obtain ⟨f,g,m⟩:=x
 refine ⟨f,k _ _ n g,?_⟩
 rcases m with m | m | ⟨T,ps,e1,l,d,e⟩
 ·exact .inl m
 ·exact .inr (.inl m)
 ·exact .inr (.inr ⟨T,ps,e1,l,k _ _ (j _ _ d) d,e⟩)
end
end L2
end
section
namespace L2
open PySem PySem.Spec PyProof.Rows
end L2
end
section
namespace L2
open PySem PySem.Spec PyProof.Rows
section
variable {X:Cx}
theorem sT (h:wpAny (model prog w) A (eval k env) (fun x s1=>wpAny (model prog w) A (eval v env) (fun y s2=>wpAny (model prog w) A (dictSet s.heap.objs.size x y) (fun _ s3=>Q (.ref s.heap.objs.size) s3) E s2) E s1) E { s with heap:=s.heap.push { cls:=.type "dict",data:=.dict #[] } }) :
  wpAny (model prog w) A (eval (.Dict [some k] [v] pos) env) Q E s:=by
 rw [arm_eval_Dict]
 refine zL (wpAny_standAt ?_)
 have e:=dictDisplay_pairs [(eval k env,(do let x <- eval v env;standAt pos;pure x:Sem Value))] (by simp) (by simp)
 refine (show wpAny (model prog w) A (dictDisplay ([(eval k env,(do let x <- eval v env;standAt pos;pure x:Sem Value))].map fun p=>(some p.1,p.2))) Q E s from ?_)
 rw [e]
 refine zL ?_
 unfold subDict
 refine zL (wpAny_alloc (zL (zN ?_)))
 rw [if_pos (by simp)]
 refine zL ?_
 unfold evalPairs
 refine zL (wpAny_mono h (fun x s1 h1=>?_) fun _ _ z=>z)
 refine zL (zN (zL (wpAny_mono h1 (fun y s2 h2=>?_) fun _ _ z=>z)))
 refine zL (wpAny_standAt (zM ?_))
 refine zL (zN (zM (zM (zN ?_))))
 simp only [List.forIn_cons,List.forIn_nil]
 refine zL (zL (zL (wpAny_mono h2 (fun _ s3 h3=>?_) fun _ _ z=>z)))
 exact zM (zM (zM (zM (zM h3))))
def tD1K (k:Key) (v:V):TE:=fun _ H Q=>∀ p,H p=none->Q (.ref p) (upd (upd H p (.dK [])) p (.dK [(k,v)]))
theorem yJ (n:PE X k (tC (kV key))) (j:PE X v (tC d)):PE X (.Dict [some k] [v] pos) (tD1K key d):=by
 intro pins s σ H Q I q
 have h:=I.hok.fresh (z9 s.heap.objs.size)
 have l:=I.laid (a:=s.heap.objs.size) (o:=.dK []) (h':=s.heap.push { cls:=.type "dict",data:=.dict #[] }) (t':=s.toks) (fun _ _ q=>zQ _ q) (z9 _) (tW s.heap I.big)
 refine sT (thn (n pins _ σ _ (fun x H2=>x=kV key/\H2=upd H s.heap.objs.size (.dK [])) l ⟨rfl,rfl⟩) fun x s1 ⟨A,H1,m,i,e1,f⟩=>thn (j pins s1 σ H1 (fun y H2=>y=d/\H2=upd H s.heap.objs.size (.dK [])) m ⟨rfl,f⟩) fun y s2 ⟨e,H2,c,t,w,r⟩=>?_)
 subst e1 f w r
 obtain ⟨z,hd,vs,rel,u⟩:=oF c.hok (.inl aN)
 cases rel
 refine fj (hsz:=Nat.zero_le _) (pC i) u fun h' b g=>?_
 have he:∃ q,h'.get? s.heap.objs.size=some q:=let ⟨q,_,_,p,_⟩:=b;⟨q,p⟩
 have hz:[(key,e)].length<=sizeLine:=(by decide:1<=sizeLine)
 exact ⟨.ref s.heap.objs.size,_,lq c (by rw [aN];exact True.intro) g he (tV (kvs:=[(key,e)]) hz hd (KV.put (kvs:=[]) .nil key t) b),rfl,q _ h⟩
end
end L2
end
section
namespace PySem
namespace F
end F
end PySem
namespace PySem
namespace F
end F
end PySem
end
section
namespace L2
open PySem PySem.Spec PyProof.Rows
def IsRv (h:Heap) (r a:Addr) (i:Int):Prop:=∃ o,h.get? r=some o/\o.cls=.type "reversed"/\o.data=.fields #[.ref a,rawInt i]
section
variable {prog:Program} {w:World} {A:Around} {E:Value->Shared->Prop} {s:Shared}
theorem IsRv.at {h h':Heap} {r a:Addr} {i:Int} (x:IsRv h r a i) (e:∀ o,h.get? r=some o->h'.get? r=some o):IsRv h' r a i:=let ⟨o,b,q⟩:=x;⟨o,e _ b,q⟩
end
end L2
end
section
namespace L2
open PySem PySem.Spec PyProof.Rows
end L2
end
section
namespace L2
open PySem PySem.Spec PyProof.Rows
theorem sH (xs:Array Value):((List.range xs.size).filterMap fun (m:Nat)=>xs[(((xs.size:Int) - 1)+(m:Int) * (-1)).toNat]?)=xs.toList.reverse:=by
 have h:∀ (l:List Value) (k:Nat),k<=l.length->((List.range k).filterMap fun m:Nat=>l[((l.length:Int) - 1+(m:Int) * (-1)).toNat]?)=l.reverse.take k:=by
  intro l k
  induction k with
  | zero=>intro _;simp
  | succ k ih =>
   intro a
   rw [List.range_succ,List.filterMap_append,ih (by omega),List.take_add_one]
   congr 1
   have e:((l.length:Int) - 1+(k:Int) * (-1)).toNat=l.length - 1 - k:=by omega
   rw [List.filterMap_cons,List.filterMap_nil,e,List.getElem?_reverse (by omega)]
   cases l[l.length - 1 - k]? <;> rfl
 have:=h xs.toList xs.size (by simp)
 simp only [Array.length_toList,Array.getElem?_toList] at this
 rw [this,Ax (by simp)]
section
variable {prog:Program} {w:World} {A:Around} {E:Value->Shared->Prop} {s:Shared}
theorem il {sl:Addr} {t:Tok} {n:Nat} {Q:Int × Int × Nat->Shared->Prop} (c:s.heap.IsSliceOf sl .none .none (.int (-1) t)) (h:Q ((n:Int) - 1,-1,n) s) :
  wpAny (model prog w) A (Builtin.Slice.sliceApplied (.ref sl) (pure (n:Int))) Q E s:=by
 obtain ⟨os,b,e,a⟩:=id c
 unfold Builtin.Slice.sliceApplied Builtin.Slice.sliceFields
 refine zL (zL (wpAny_field b a (x:=.none) rfl (zL (wpAny_field b a (x:=.none) rfl (zL (wpAny_field b a (x:=.int (-1) t) rfl (zM ?_)))))))
 refine zL (HT.slicePart_ (.int (-1) t) ?_)
 show wpAny _ _ (if ((-1:Int) == 0)=true then _ else _) _ _ s
 rw [if_neg (by decide)]
 refine zL (HT.slicePart_ .none (zL (HT.slicePart_ .none (zL (zM ?_)))))
 have e1:Builtin.Slice.sliceAdjust none none (-1) (n:Int)=((n:Int) - 1,-1):=rfl
 show wpAny _ _ (match Builtin.Slice.sliceAdjust none none (-1) (n:Int) with | (lo,hi)=>pure (lo,(-1:Int),Builtin.Slice.slicePlaces lo hi (-1))) _ _ s
 rw [e1]
 have d:Builtin.Slice.slicePlaces ((n:Int) - 1) (-1) (-1)=n:=by
  unfold Builtin.Slice.slicePlaces
  rw [if_neg (by decide)]
  by_cases q:(n:Int) - 1 > -1
  ·rw [if_pos q]
   have:((n:Int) - 1 - -1 - 1) / (- -1)+1=n:=by
    rw [show (- -1:Int)=1 from rfl,Int.ediv_one];omega
   rw [this];simp
  ·rw [if_neg q]
   have:n=0:=by omega
   subst this;rfl
 show wpAny _ _ (pure ((n:Int) - 1,(-1:Int),Builtin.Slice.slicePlaces ((n:Int) - 1) (-1) (-1))) _ _ s
 rw [d]
 exact zM h
theorem gz {t sl:Addr} {items:Array Value} {u:Tok} {Q:Value->Shared->Prop} (b:IsTup s.heap t items) (f:s.heap.IsSliceOf sl .none .none (.int (-1) u))
  (h:Q (.ref s.heap.objs.size) { s with heap:=s.heap.push { cls:=.type "tuple",data:=.seq items.toList.reverse.toArray } })
  (hsz:items.size<=sizeLine):wpAny (model prog w) A (getItem (.ref t) (.ref sl)) Q E s:=by
 have a:sizeOk (.seq items.toList.reverse.toArray):=by
  show items.toList.reverse.toArray.size<=sizeLine
  rw [Ac,List.length_reverse,Array.length_toList]
  exact hsz
 obtain ⟨os,d,e,g⟩:=id f
 have c:s.TypeIs (.ref sl) "slice":=⟨os,d,e⟩
 unfold getItem
 try with_reducible refine zN ?_
 first | refine zL (zM ?_) | skip
 refine zL (wpAny_sequenceKey b.typeIs (by decide) ?_)
 refine zL (wpAny_callSpecial?_slot (name:=Str.ofString "__getitem__") b.typeIs PyProof.Rows.slot_tuple_getitem
  (wpAny_call_entry PyProof.Rows.slot_tuple_getitem b.typeIs entry_tuple_getitem ?_ (args_tuple_getitem _ _)))
 show wpAny _ _ (Builtin.Tuple.tupleItemsOf (.ref t) >>= _) _ _ s
 refine zL (tupleItemsOf_ b ?_)
 refine zL (wpAny_typeOf c ?_)
 rw [if_pos (by decide)]
 refine zL (il f ?_)
 show wpAny _ _ (if (((items.size:Int) - 1 == 0) && ((-1:Int) == 1) && (items.size == items.size))=true then _ else _) _ _ s
 rw [if_neg (by simp),sH]
 first
  | exact zL (m:=Builtin.Tuple.tupleExact _) (wpAny_newObj_type (zM ⟨_,rfl,zM h⟩) a)
  | exact zL (m:=Builtin.Tuple.tupleExact _) (wpAny_newObj_type (zL (zM (zM ⟨_,rfl,zM h⟩))) a)
  | exact zL (zL (m:=Builtin.Tuple.tupleExact _) (wpAny_newObj_type (zM (zM ⟨_,rfl,zM h⟩)) a))
  | exact zL (zL (m:=Builtin.Tuple.tupleExact _) (wpAny_newObj_type (zM ⟨_,rfl,zM h⟩) a))
end
section
variable {X:Cx}
def wE (K:FG) (te:TE) (tp:TO):TE:=fun σ H Q=>te σ H fun x H1=>tp σ H1 fun o H2=>∃ a xs,o=some (-1)/\x=.ref a/\SqT K H2 a xs/\∀ p,H2 p=none->Q (.ref p) (upd H2 p (.tup xs.reverse))
theorem Vals.rev:∀ {xs:List V} {us:List Value},Vals xs us->Vals xs.reverse us.reverse
 | [],_,.nil=>.nil
 | x :: xs,_,.cons r t=>by
  rw [List.reverse_cons,List.reverse_cons]
  exact (Vals.rev t).append (.cons r .nil)
theorem vD {e st:Expr} {te:TE} {tp:TO} {p2 pos:Pos} (he:PE X e te) (l:PO X (some st) tp):PE X (.Subscript e (.Slice none none (some st) p2) pos) (wE X.K te tp):=by
 intro pins s σ H Q I h
 refine Subscript_ (thn (he pins s σ H _ I h) fun v s1 ⟨x,H1,m,p,n⟩=>?_)
 refine wpAny_Slice ?_
 rw [evalPart_none]
 refine zM ?_
 refine zM ?_
 refine thn (l pins s1 σ H1 _ m n) fun vs s3 ⟨o,k,g,po,j⟩=>?_
 obtain ⟨a,xs,rfl,rfl,u,q⟩:=j
 cases p
 cases po with
 | int i t =>
 have c:Inv X pins σ k { s3 with heap:=s3.heap.push { cls:=.type "slice",data:=.fields #[.none,.none,.int (-1) t] } }:=g.kept (t':=s3.toks) fun b ob q=>zQ _ q
 obtain ⟨d,r,f,hz⟩:=c.tuple u
 have hlen:d.toArray.size=xs.length:=by rw [Ac];exact r.length.symm
 show wpAny (model X.prog X.w) X.A (subscriptTail e (.Slice none none (some st) p2) (.ref a) (.ref s3.heap.objs.size)) (EP X pins σ Q) X.xe { s3 with heap:=s3.heap.push { cls:=.type "slice",data:=.fields #[.none,.none,.int (-1) t] } }
 refine tail_any (ops:=[.ref a,.ref s3.heap.objs.size]) f.typeIs PyProof.Rows.slot_tuple_getitem.lookup ?_ (by with_unfolding_all rfl)
 refine gz f (Heap.IsSliceOf.new ..) ?_ (by rw [hlen];exact hz)
 refine ⟨.ref (s3.heap.push { cls:=.type "slice",data:=.fields #[.none,.none,.int (-1) t] }).objs.size,_,c.laid (t':=s3.toks) (o:=.tup xs.reverse) (fun b ob q=>zQ _ q) (z9 _) ?_,rfl,q _ (c.hok.fresh (z9 _))⟩
 exact ⟨by rw [List.length_reverse];exact hz,_,r.rev,IsTupD.new _ _⟩
end
end L2
end
section
namespace L2
open PySem PySem.W PySem.Spec PyProof.Rows
abbrev excO (a:Addr) (cls:Value):HO:=.ext fun h=>∃ o,h.get? a=some o/\o.cls=cls
abbrev excF (ob:Obj) (a:Addr) (cls:Value):HO:=.frz ob (excO a cls)
structure ExcK (K:FG) (D:Addr):Prop where
 ga:findIn K (.ref D) "__getattribute__"=some (some (.builtin "BaseException.__getattribute__"))
 gt:findIn K (.ref D) "__getattr__"=some none
 cl:(clsIn K D).isSome=true
 ca:findIn K (.ref D) "__class__"=some (some (.builtin "object.__class__"))
 sp:specialIn K (.builtin "object.__class__") "__get__"=some (some (.builtin "getset_descriptor.__get__"))
 tk:takesIn K (.builtin "object.__class__")=some true
 ob:mroIn K D (.type "object")=some true
 be:mroIn K D (.type "BaseException")=some true
structure XName (K:FG) (c:String) (D:Addr):Prop where
 ns:nsIn K mainGlobals (Str.ofString c)=some (some (.ref D))
 ex:ExcK K D
theorem XName.inj {K:FG} (a:XName K c D) (b:XName K c D'):D=D':=by
 have:=a.ns.symm.trans b.ns
 cases this
 rfl
end L2
end
section
namespace L2
open PySem
section
variable {K:FG} {h:Heap} {mg:Str->Option Value}
theorem iw:∀ {l:List Nat} {a:Nat} {o:Obj},(l.filterMap fun a=>(h.get? a).map fun o=>(a,o)).lookup a=some o->h.get? a=some o
 | [],_,_,e=>by cases e
 | b :: l,a,o,e=>by
  rw [List.filterMap_cons] at e
  cases d:h.get? b with
  | none=>rw [d] at e;exact iw e
  | some p =>
   rw [d] at e
   replace e:List.lookup a ((b,p) :: l.filterMap fun a=>(h.get? a).map fun o=>(a,o))=some o:=e
   rw [List.lookup_cons] at e
   cases c:a == b with
   | true=>rw [c] at e;cases eq_of_beq c;cases e;exact d
   | false=>rw [c] at e;exact iw e
theorem fragAt_in (h:Heap):(tL h).In h:=fun _ _ e=>iw e
def stPos (s:Stmt):Pos:=match s with
 | .FunctionDef _ _ _ _ _ _ _ _ _ p=>p
 | _=>⟨0,0,0,0⟩
theorem zw (X:K.In h) (G:h.Ns mainGlobals mg) (e:mR K n=jL n st):Def K mg n st:=by
 unfold mR at e
 split at e
 ·rename_i f hf
  split at e
  ·rename_i d c fd sl a
   unfold jL at e
   obtain ⟨name,qual,params,body,scope,globals,closure,defaults,kw,doc,pm,an,cd,ct,bi⟩:=fd
   simp only [Option.some.injEq,Prod.mk.injEq] at e
   obtain ⟨rfl,rfl,rfl,rfl,rfl,rfl,rfl,rfl,rfl,b⟩:=e
   exact ⟨f,_,zq (st:=st) a b (by unfold PySem.W.keepIn;simp only [a]),PySem.W.mg_of X G hf⟩
  ·cases e
 ·cases e
theorem oh {α β:Type} {f g:α->β} {l:List α} (e:l.map f=l.map g) (i:Nat) {a:α} (h:l[i]?=some a):f a=g a:=List.map_inj_left.mp e a (z5 h)
theorem aZ {ds:List (Str × Stmt)} (X:K.In h) (G:h.Ns mainGlobals mg) (e:ds.map (fun p=>mR K p.1)=ds.map (fun p=>jL p.1 p.2)) (i:Nat) (hi:ds[i]?=some (n,st)):Def K mg n st:=zw X G (oh e i hi)
theorem bZ {l:List Str} (X:K.In h) (G:h.Ns mainGlobals mg) (e:l.map (PySem.W.nsIn K mainGlobals)=l.map (fun _=>some none)) (i:Nat) (hi:l[i]?=some n):mg n=none:=PySem.W.mg_none_of X G (oh e i hi)
theorem oB {l:List (Str × Int)} {v:Int} (X:K.In h) (G:h.Ns mainGlobals mg) (e:l.map (fun p=>lg K p.1)=l.map (fun p=>some p.2)) (i:Nat) (hi:l[i]?=some (n,v)):∃ t,mg n=some (.int v t):=by
 have e:=oh e i hi
 unfold lg at e
 dsimp only at e
 split at e
 ·rename_i b t a;cases e;exact ⟨t,PySem.W.mg_of X G a⟩
 ·cases e
theorem walk_ofS {l:PySem.W.OpenLaw} {n k:Nat} {S:FG->Prop} {sp:FG->Sp} (C:l.most=some n) (t:n<=sizeLine) (y:d.params.defaults=[]) (I:Room k callerA) (D:∀ (w:World) (h:Heap),YP w h->∃ K:FG,K.In h/\S K) (F:∀ (w:World) (mg:Str->Option Value) (i:Addr) (h:Heap) (K:FG),S K->K.In h->h.Ns mainGlobals mg->mg d.name=some (.ref i) ->
   ∃ fd:FuncData,(∀ (s:Shared) (u:Value),BindsTo s fd ⟨[u],[]⟩ [(x,u)]) /\
    ∀ base:Heap,K.In base->base.Ns mainGlobals mg->FnOk l.prog w K mg base CX k i fd [x] (sp K)) (r:∀ (K:FG) (H:Hp) (a:Addr) (ns:List Int),ns.length<=n->wC H->SqL K H a (ns.map V.int)->sp K [.ref a] H (fun v _=>v=.bl true) fun _ _ _=>False) (m:∀ (H:Hp) (s:Shared) (e:Value) (s':Shared),CX [] H s (fun _ _ _=>False) e s'->False) :
  PySem.W.WalkO q loose XP YP l.row.toRowW d [] (fun f vs=>PySem.call f vs):=by
 refine Att.attach_call C y fun w s₀ J mg mb i o pm cd doc a vs ns G Y N hd M j c hints hlen E=>?_
 obtain ⟨K,z,p⟩:=D w _ Y
 obtain ⟨fd,B,L⟩:=F w mg i _ K p z G.T.g j
 exact tu z G.T.g G.T.b G.T.builtins G.T.nolimit E c hints (Aw hlen t) I L B (fun H A p=>r K H a ns hlen A p) fun H e s'=>m H J e s'
end
end L2
end
section
namespace L3
open PySem L2
theorem nsE {α:Type} {p:α} {P:Prop} (e:(none:Option α)=some p):P:=nomatch e
inductive D where
 | non | bl (b:Bool) | int (i:Int) | str (x:Str)
 | tup (xs:List D) | lst (xs:List D) | fls (xs:List D) | dk (kvs:List (Key × D)) | dt (kvs:List (List Key × D))
 | exc (c:String) (fs:List (String × D))
def gw:D->Bool
 | .lst _=>true
 | .dk _=>true
 | .dt _=>true
 | _=>false
def FzL (K:FG) (H:Hp) (a:Addr) (vs:List V):Prop:=(∃ o,H a=some (.frz o (.lst vs)))\/∃ (o:Obj) (b:Array Value) (n:Nat),K.lookup a=some o/\o.cls=.type "list"/\o.dict=none/\o.data=.seq b n/\b.size<=sizeLine/\Vals vs b.toList
theorem FzL.sq (h:FzL K H a vs):SqL K H a vs:=h.elim (fun ⟨o,e⟩=>.inl (.inr ⟨o,e⟩)) .inr
inductive Reps (R:D->V->List Addr->Prop):List D->List V->List Addr->Prop where
 | nil:Reps R [] [] []
 | cons {d v L ds vs L'}:R d v L->Reps R ds vs L'->Reps R (d :: ds) (v :: vs) (L ++ L')
inductive Rep (K:FG) (H:Hp):D->V->List Addr->Prop where
 | non:Rep K H .non .non []
 | bl (b:Bool):Rep K H (.bl b) (.bl b) []
 | int (i:Int):Rep K H (.int i) (.int i) []
 | str (x:Str):Rep K H (.str x) (.str x) []
 | tup {xs a vs L}:H a=some (.tup vs)->Reps (Rep K H) xs vs L->Rep K H (.tup xs) (.ref a) L
 | lst {xs a vs L}:H a=some (.lst vs)->Reps (Rep K H) xs vs L->Rep K H (.lst xs) (.ref a) (a :: L)
 | lstF {xs a vs L}:FzL K H a vs->Reps (Rep K H) xs vs L->Rep K H (.fls xs) (.ref a) L
 | dK {kvs a ps L}:H a=some (.dK ps)->kvs.map (·.1)=ps.map (·.1)->Reps (Rep K H) (kvs.map (·.2)) (ps.map (·.2)) L->Rep K H (.dk kvs) (.ref a) (a :: L)
 | dT {kvs a ps L}:H a=some (.dT ps)->kvs.map (·.1)=ps.map (·.1)->Reps (Rep K H) (kvs.map (·.2)) (ps.map (·.2)) L->Rep K H (.dt kvs) (.ref a) (a :: L)
 | exc {c a D ob}:XName K c D->H a=some (excF ob a (.ref D))->Rep K H (.exc c []) (.ref a) []
def RepV (K:FG) (H:Hp) (d:D) (v:V) (L:List Addr):Prop:=match d with
 | .non=>v=.non/\L=[]
 | .bl b=>v=.bl b/\L=[]
 | .int i=>v=.int i/\L=[]
 | .str x=>v=.str x/\L=[]
 | .tup xs=>∃ a vs,v=.ref a/\H a=some (.tup vs)/\Reps (Rep K H) xs vs L
 | .lst xs=>∃ a vs L',v=.ref a/\L=a :: L'/\H a=some (.lst vs)/\Reps (Rep K H) xs vs L'
 | .fls xs=>∃ a vs,v=.ref a/\FzL K H a vs/\Reps (Rep K H) xs vs L
 | .dk kvs=>∃ a ps L',v=.ref a/\L=a :: L'/\H a=some (.dK ps)/\kvs.map (·.1)=ps.map (·.1)/\Reps (Rep K H) (kvs.map (·.2)) (ps.map (·.2)) L'
 | .dt kvs=>∃ a ps L',v=.ref a/\L=a :: L'/\H a=some (.dT ps)/\kvs.map (·.1)=ps.map (·.1)/\Reps (Rep K H) (kvs.map (·.2)) (ps.map (·.2)) L'
 | .exc c fs=>fs=[]/\L=[]/\∃ a D ob,v=.ref a/\XName K c D/\H a=some (excF ob a (.ref D))
theorem Rep.view (r:Rep K H d v L):RepV K H d v L:=by
 cases r with
 | non=>exact ⟨rfl,rfl⟩
 | bl b=>exact ⟨rfl,rfl⟩
 | int i=>exact ⟨rfl,rfl⟩
 | str x=>exact ⟨rfl,rfl⟩
 | tup h r=>exact ⟨_,_,rfl,h,r⟩
 | lst h r=>exact ⟨_,_,_,rfl,rfl,h,r⟩
 | lstF h r=>exact ⟨_,_,rfl,h,r⟩
 | dK h k r=>exact ⟨_,_,_,rfl,rfl,h,k,r⟩
 | dT h k r=>exact ⟨_,_,_,rfl,rfl,h,k,r⟩
 | exc n h=>exact ⟨rfl,rfl,_,_,_,rfl,n,h⟩
def MutAt (H:Hp) (b:Addr):Prop:=(∃ xs,H b=some (.lst xs))\/(∃ ps,H b=some (.dK ps))\/∃ ps,H b=some (.dT ps)
theorem MutAt.ex (m:MutAt H b):∃ o,H b=some o:=by
 rcases m with ⟨_,h⟩ | ⟨_,h⟩ | ⟨_,h⟩ <;> exact ⟨_,h⟩
theorem MutAt.notup (m:MutAt H b) (h:H b=some (.tup vs)):False:=by
 rcases m with ⟨_,e⟩ | ⟨_,e⟩ | ⟨_,e⟩ <;> rw [e] at h <;> cases h
theorem MutAt.nofrz (m:MutAt H b) (h:H b=some (.frz o u)):False:=by
 rcases m with ⟨_,e⟩ | ⟨_,e⟩ | ⟨_,e⟩ <;> rw [e] at h <;> cases h
theorem FzL.keep {M:Addr->Prop} (h:FzL K H a vs) (k:∀ b o,H b=some o->¬ M b->H' b=some o) (hm:∀ b,M b->MutAt H b):FzL K H' a vs:=h.elim (fun ⟨o,e⟩=>.inl ⟨o,k a _ e fun z=>(hm a z).nofrz e⟩) .inr
section
variable {K:FG} {H H':Hp} {d:D} {v:V} {L:List Addr}
theorem Rep.inH (r:Rep K H d v L):∀ b ∈ L,MutAt H b:=by
 refine Rep.rec (motive_1:=fun _ _ L _=>∀ b ∈ L,MutAt H b) (motive_2:=fun _ _ L _=>∀ b ∈ L,MutAt H b) ?_ ?_ ?_ ?_ ?_ ?_ ?_ ?_ ?_ ?_ ?_ ?_ r
 ·intro b a;cases a
 ·intro _ b a;cases a
 ·intro _ b a;cases a
 ·intro _ b a;cases a
 ·intro _ _ _ _ _ _ c;exact c
 ·intro _ _ _ _ h _ c b a
  rcases zU.mp a with e | a
  ·rw [e];exact .inl ⟨_,h⟩
  ·exact c b a
 ·intro _ _ _ _ _ _ c;exact c
 ·intro _ _ _ _ h _ _ c b a
  rcases zU.mp a with e | a
  ·rw [e];exact .inr (.inl ⟨_,h⟩)
  ·exact c b a
 ·intro _ _ _ _ h _ _ c b a
  rcases zU.mp a with e | a
  ·rw [e];exact .inr (.inr ⟨_,h⟩)
  ·exact c b a
 ·intro _ _ _ _ _ _ b a;cases a
 ·intro b a;cases a
 ·intro _ _ _ _ _ _ _ _ g f b a
  rcases zX.mp a with h | h
  ·exact g b h
  ·exact f b h
theorem Reps.inH (r:Reps (Rep K H) ds vs L):∀ b ∈ L,MutAt H b:=by
 induction r with
 | nil=>intro b a;cases a
 | cons r _ ih =>
  intro b a
  rcases zX.mp a with h | h
  ·exact r.inH b h
  ·exact ih b h
theorem Rep.keep {M:Addr->Prop} (k:∀ b o,H b=some o->¬ M b->H' b=some o) (hm:∀ b,M b->MutAt H b) (r:Rep K H d v L):(∀ b ∈ L,¬ M b)->Rep K H' d v L:=by
 refine Rep.rec (motive_1:=fun d v L _=>(∀ b ∈ L,¬ M b)->Rep K H' d v L) (motive_2:=fun ds vs L _=>(∀ b ∈ L,¬ M b)->Reps (Rep K H') ds vs L) ?_ ?_ ?_ ?_ ?_ ?_ ?_ ?_ ?_ ?_ ?_ ?_ r
 ·intro _;exact .non
 ·intro b _;exact .bl b
 ·intro b _;exact .int b
 ·intro b _;exact .str b
 ·intro xs a vs L h _ i f
  exact .tup (k a _ h fun z=>(hm a z).notup h) (i f)
 ·intro xs a vs L h _ i f
  exact .lst (k a _ h (f a zO)) (i fun b g=>f b (zP _ g))
 ·intro xs a vs L h _ i f
  exact .lstF (h.keep k hm) (i f)
 ·intro kvs a ps L h e _ i f
  exact .dK (k a _ h (f a zO)) e (i fun b g=>f b (zP _ g))
 ·intro kvs a ps L h e _ i f
  exact .dT (k a _ h (f a zO)) e (i fun b g=>f b (zP _ g))
 ·intro c a D ob n h _
  exact .exc n (k a _ h fun z=>(hm a z).nofrz h)
 ·intro _;exact .nil
 ·intro d v L ds vs L' _ _ l j f
  exact .cons (l fun b g=>f b (zS _ g)) (j fun b g=>f b (zT _ g))
theorem Rep.same (r:Rep K H d v L) (s:Same H H'):Rep K H' d v L:=r.keep (M:=fun _=>False) (fun b o h _=>s b o h) (fun _ z=>z.elim) fun _ _ z=>z
theorem Reps.keep {M:Addr->Prop} (k:∀ b o,H b=some o->¬ M b->H' b=some o) (hm:∀ b,M b->MutAt H b) (r:Reps (Rep K H) ds vs L):(∀ b ∈ L,¬ M b)->Reps (Rep K H') ds vs L:=by
 induction r with
 | nil=>intro _;exact .nil
 | cons r _ ih=>intro c;exact .cons (r.keep k hm fun b a=>c b (zS _ a)) (ih fun b a=>c b (zT _ a))
theorem Reps.same (r:Reps (Rep K H) ds vs L) (s:Same H H'):Reps (Rep K H') ds vs L:=r.keep (M:=fun _=>False) (fun b o h _=>s b o h) (fun _ z=>z.elim) fun _ _ z=>z
end
inductive Fl where
 | u | l | z
 deriving DecidableEq
structure It3 where
 d:D
 v:V
 L:List Addr
 f:Fl
abbrev Sto:=List (Option (D × Fl))
structure Gm where
 H0:Hp
 bw:Addr->Prop
 pr:Nat->Bool
 σ0:St
 orig:Hp
 src:Addr->Prop
 lv:Nat->Option V
def OwnOk (G:Gm) (x:It3):Prop:=gw x.d=true/\∃ a L',x.v=.ref a/\x.L=a :: L'/\a ∉ L'/\(x.f=.u->G.H0 a=none\/G.bw a)
structure ItOk (K:FG) (G:Gm) (H:Hp) (x:It3):Prop where
 rep:Rep K H x.d x.v x.L
 own:x.f ≠ .z->OwnOk G x
 src:∀ c ∈ x.L,G.H0 c=none\/G.src c
structure Fx (G:Gm) (H:Hp) (T:List It3) (g:Nat->Option It3):Prop where
 frT:∀ x ∈ T,x.f ≠ .z->∀ a,x.v=.ref a->G.orig a=none
 frS:∀ i x,g i=some x->G.pr i=false->x.f ≠ .z->∀ a,x.v=.ref a->G.orig a=none
 bin:∀ b,G.bw b->∃ o,H b=some o
 ob:∀ b o,G.orig b=some o->∃ o',H b=some o'
 lvS:∀ i x,g i=some x->x.f=.l->G.lv i=some x.v
def NoRoot (x y:It3):Prop:=x.f ≠ .z->∀ a,x.v=.ref a->a ∉ y.L
def Apart3 (x y:It3):Prop:=NoRoot x y/\NoRoot y x
structure Wf (K:FG) (G:Gm) (H:Hp) (σ:St) (ρ:Sto) (T:List It3) (g:Nat->Option It3):Prop where
 len:σ.length = ρ.length
 sl:∀ i,(g i).map (fun x=>(x.d,x.f))=(ρ[i]?).join
 sv:∀ i x,g i=some x->σ[i]?=some (some x.v)
 okS:∀ i x,g i=some x->ItOk K G H x
 okT:∀ x ∈ T,ItOk K G H x
 ss:∀ i j x y,i ≠ j->g i=some x->g j=some y->NoRoot x y
 st:∀ i x,g i=some x->∀ y ∈ T,Apart3 x y
 tt:T.Pairwise Apart3
 base:∀ b o,G.H0 b=some o->¬ G.bw b->H b=some o
 pro:∀ i,G.pr i=true->σ[i]?=G.σ0[i]?
 fx:Fx G H T g
structure Le (K:FG) (G:Gm) (W:D->Sto->Prop) (G0:Gm) (W0:D->Sto->Prop):Prop where
 pr:G.pr=G0.pr
 ex:∀ (H:Hp) (σ:St) (ρ:Sto) (T:List It3) (g:Nat->Option It3) (e:D),Wf K G H σ ρ T g->W e ρ->∃ ρ0 T0 g0,Wf K G0 H σ ρ0 T0 g0/\W0 e ρ0
theorem Le.refl (K:FG) (G:Gm) (W:D->Sto->Prop):Le K G W G W:=⟨rfl,fun _ _ ρ T g _ w h=>⟨ρ,T,g,w,h⟩⟩
theorem Le.trans (a:Le K G W G1 W1) (b:Le K G1 W1 G2 W2):Le K G W G2 W2:=⟨a.pr.trans b.pr,fun H σ ρ T g e w h=>by
 obtain ⟨ρ1,d,g1,c,h1⟩:=a.ex H σ ρ T g e w h
 exact b.ex H σ ρ1 d g1 e c h1⟩
section
variable {K:FG} {G:Gm} {H H':Hp} {σ:St} {ρ:Sto} {T T':List It3} {g:Nat->Option It3} {x y z:It3}
theorem ItOk.keep {M:Addr->Prop} (h:ItOk K G H x) (k:∀ b o,H b=some o->¬ M b->H' b=some o) (hm:∀ b,M b->MutAt H b) (a:∀ b ∈ x.L,¬ M b):ItOk K G H' x:=⟨h.rep.keep k hm a,h.own,h.src⟩
theorem ItOk.same (h:ItOk K G H x) (s:Same H H'):ItOk K G H' x:=⟨h.rep.same s,h.own,h.src⟩
theorem Fx.more (f:Fx G H T g) (s:∀ b o,H b=some o->∃ o',H' b=some o'):Fx G H' T g:=⟨f.frT,f.frS,fun b h=>let ⟨o,e⟩:=f.bin b h;s b o e,fun b o h=>let ⟨o',e⟩:=f.ob b o h;s b o' e,f.lvS⟩
theorem Fx.sub (f:Fx G H T g) (h:∀ x ∈ T',x ∈ T):Fx G H T' g:=⟨fun x a=>f.frT x (h x a),f.frS,f.bin,f.ob,f.lvS⟩
theorem Wf.grow (w:Wf K G H σ ρ T g) (s:Same H H'):Wf K G H' σ ρ T g :=
 ⟨w.len,w.sl,w.sv,fun i x e=>(w.okS i x e).same s,fun x a=>(w.okT x a).same s,w.ss,w.st,w.tt,fun b o e n=>s b o (w.base b o e n),w.pro,w.fx.more fun b o h=>⟨o,s b o h⟩⟩
theorem Wf.sub (w:Wf K G H σ ρ T g) (h:T'.Sublist T):Wf K G H σ ρ T' g :=
 ⟨w.len,w.sl,w.sv,w.okS,fun x a=>w.okT x (h.subset a),w.ss,fun i x e y b=>w.st i x e y (h.subset b),w.tt.sublist h,w.base,w.pro,w.fx.sub fun x a=>h.subset a⟩
def Itm (T:List It3) (g:Nat->Option It3) (y:It3):Prop:=(∃ i,g i=some y)\/y ∈ T
def cX (T:List It3) (g:Nat->Option It3) (c:Addr):Prop:=(∀ i z,g i=some z->z.f ≠ .z->z.v ≠ .ref c)/\∀ z ∈ T,z.f ≠ .z->z.v ≠ .ref c
theorem Wf.itm (w:Wf K G H σ ρ T g) (h:Itm T g y):ItOk K G H y:=by
 rcases h with ⟨i,e⟩ | h
 ·exact w.okS i y e
 ·exact w.okT y h
theorem k5 {α:Type} {R:α->α->Prop} {l:List α} (p:l.Pairwise R) (h:∀ a b,R a b->R b a):∀ a ∈ l,∀ b ∈ l,a ≠ b->R a b:=by
 induction p with
 | nil=>intro a d;cases d
 | @cons c l hc _ ih =>
  intro a d b e n
  rcases zU.mp d with g | d
  ·rcases zU.mp e with f | e
   ·exact absurd (g.trans f.symm) n
   ·rw [g];exact hc b e
  ·rcases zU.mp e with f | e
   ·rw [f];exact h _ _ (hc a d)
   ·exact ih a d b e n
theorem Apart3.symm (h:Apart3 x y):Apart3 y x:=⟨h.2,h.1⟩
theorem Wf.kid (w:Wf K G H σ ρ T g) (h:Itm T g y) (d:c ∈ y.L) (m:y.f ≠ .z->y.v ≠ .ref c):cX T g c:=by
 refine ⟨fun i z e hz a=>?_,fun z hm hz a=>?_⟩
 ·rcases h with ⟨j,b⟩ | k
  ·by_cases l:i=j
   ·subst l
    rw [e] at b
    cases b
    exact m hz a
   ·exact w.ss i j z y l e b hz c a d
  ·exact (w.st i z e y k).1 hz c a d
 ·rcases h with ⟨j,b⟩ | k
  ·exact (w.st j y b z hm).2 hz c a d
  ·by_cases e:z=y
   ·subst e;exact m hz a
   ·exact (k5 w.tt (fun _ _=>Apart3.symm) z hm y k e).1 hz c a d
structure New (K:FG) (H H':Hp) (Ks:Addr->Prop) (x:It3):Prop where
 same:Same H H'
 rep:Rep K H' x.d x.v x.L
 sub:∀ c ∈ x.L,H c=none\/Ks c
 own:x.f ≠ .z->gw x.d=true/\∃ a L',x.v=.ref a/\x.L=a :: L'/\a ∉ L'/\H a=none
theorem Wf.h0none (w:Wf K G H σ ρ T g) (h:H a=none):G.H0 a=none:=by
 cases e:G.H0 a with
 | none=>rfl
 | some o =>
  by_cases b:G.bw a
  ·obtain ⟨o,e⟩:=w.fx.bin a b
   rw [h] at e;cases e
  ·have:=w.base a o e b
   rw [h] at this;cases this
theorem Wf.ornone (w:Wf K G H σ ρ T g) (h:H a=none):G.orig a=none:=by
 cases e:G.orig a with
 | none=>rfl
 | some o =>
  obtain ⟨o,e⟩:=w.fx.ob a o e
  rw [h] at e;cases e
theorem Wf.push (w:Wf K G H σ ρ T g) (n:New K H H' Ks x) (p:∀ c,Ks c->cX T g c/\(G.H0 c=none\/G.src c)):Wf K G H' σ ρ (x :: T) g:=by
 have d:=w.grow n.same
 have a1:∀ y:It3,ItOk K G H y->(∀ c,Ks c->y.f ≠ .z->y.v ≠ .ref c)->Apart3 y x:=fun y q b=>by
  refine ⟨fun hf a e hm=>?_,fun hf a e hm=>?_⟩
  ·obtain ⟨_,s,L',e1,k,_,_⟩:=q.own hf
   rw [e] at e1
   cases e1
   rcases n.sub a hm with h | h
   ·obtain ⟨o,l⟩:=(q.rep.inH a (by rw [k];exact zO)).ex
    rw [h] at l;cases l
   ·exact b a h hf e
  ·obtain ⟨_,s,L',e1,k,_,h⟩:=n.own hf
   rw [e] at e1
   cases e1
   obtain ⟨o,l⟩:=(q.rep.inH a hm).ex
   rw [h] at l;cases l
 refine ⟨d.len,d.sl,d.sv,d.okS,?_,d.ss,?_,?_,d.base,d.pro,⟨fun y b hf a t=>?_,d.fx.frS,d.fx.bin,d.fx.ob,d.fx.lvS⟩⟩
 ·intro y b
  rcases zU.mp b with rfl | b
  ·refine ⟨n.rep,fun hf=>?_,fun c j=>?_⟩
   ·obtain ⟨r,a,L',e1,k,u,m⟩:=n.own hf
    exact ⟨r,a,L',e1,k,u,fun _=>.inl (w.h0none m)⟩
   ·rcases n.sub c j with h | h
    ·exact .inl (w.h0none h)
    ·exact (p c h).2
  ·exact d.okT y b
 ·intro i z e y b
  rcases zU.mp b with rfl | b
  ·exact a1 z (w.okS i z e) fun c j=>(p c j).1.1 i z e
  ·exact d.st i z e y b
 ·refine List.pairwise_cons.mpr ⟨fun y b=>(a1 y (w.okT y b) fun c j=>(p c j).1.2 y b).symm,d.tt⟩
 ·rcases zU.mp b with h | b
  ·subst h
   obtain ⟨r,s,L',e1,k,u,m⟩:=n.own hf
   rw [t] at e1
   cases e1
   exact w.ornone m
  ·exact d.fx.frT y b hf a t
def dq (ys:List It3) (c:Addr):Prop:=∃ y ∈ ys,c ∈ y.L/\(y.f ≠ .z->y.v ≠ .ref c)
theorem Wf.kids (w:Wf K G H σ ρ T g) (a:∀ y ∈ ys,Itm T g y) (h:dq ys c):cX T g c/\(G.H0 c=none\/G.src c):=by
 obtain ⟨y,m,b,d⟩:=h
 exact ⟨w.kid (a y m) b d,(w.itm (a y m)).src c b⟩
structure Arg (K:FG) (H:Hp) (p:It3):Prop where
 rep:Rep K H p.d p.v p.L
 own:p.f ≠ .z->gw p.d=true/\∃ a L',p.v=.ref a/\p.L=a :: L'/\a ∉ L'
theorem ItOk.arg (h:ItOk K G H x):Arg K H x:=⟨h.rep,fun hf=>by
 obtain ⟨m,a,L',v1,v2,v3,_⟩:=h.own hf
 exact ⟨m,a,L',v1,v2,v3⟩⟩
end
end L3
end
section
namespace L3
open PySem L2
inductive R3 where
 | pl (i:Nat) | val (d:D) (f:Fl)
abbrev M3 (α:Type):=Sto->Option (Except D α × Sto)
abbrev EM:=M3 R3
noncomputable def ac {α β:Type} (m:M3 α) (k:α->M3 β):M3 β:=fun ρ=>match m ρ with
 | none=>none
 | some (.error e,ρ')=>some (.error e,ρ')
 | some (.ok a,ρ')=>k a ρ'
noncomputable def aW {α:Type} (a:α):M3 α:=fun ρ=>some (.ok a,ρ)
noncomputable def aR {α:Type} (o:Option α):M3 α:=fun ρ=>o.map fun a=>(.ok a,ρ)
noncomputable def der (r:R3):M3 D:=fun ρ=>match r with
 | .pl i=>((ρ[i]?).join).map fun p=>(.ok p.1,ρ)
 | .val d _=>some (.ok d,ρ)
inductive Ar (σ:St):R3->V->List It3->Prop where
 | pl {i:Nat} {v:V}:σ[i]?=some (some v)->Ar σ (.pl i) v []
 | val (x:It3):Ar σ (.val x.d x.f) x.v [x]
def Got (K:FG) (G:Gm) (σ:St) (ρ:Sto) (T:List It3) (r:R3) (v:V) (H:Hp):Prop:=∃ Ts g,Wf K G H σ ρ (Ts ++ T) g/\Ar σ r v Ts
def tE (K:FG) (G0:Gm) (W0:D->Sto->Prop) (m:EM):TE:=fun σ H Q=>∃ G W,Le K G W G0 W0/\∃ ρ T g r ρ',Wf K G H σ ρ T g/\m ρ=some (r,ρ')/\match r with
 | .ok r=>∀ v H',Got K G σ ρ' T r v H'->Q v H'
 | .error e=>W e ρ'
def tT (K:FG) (G0:Gm) (W0:D->Sto->Prop) (m:M3 Bool):TT:=fun σ H Q=>∃ G W,Le K G W G0 W0/\∃ ρ T g r ρ',Wf K G H σ ρ T g/\m ρ=some (r,ρ')/\match r with
 | .ok b=>∀ H' g',Wf K G H' σ ρ' T g'->Q b H'
 | .error e=>W e ρ'
inductive Ars (σ:St):List R3->List V->List It3->Prop where
 | nil:Ars σ [] [] []
 | cons {r v Ts rs vs Us}:Ar σ r v Ts->Ars σ rs vs Us->Ars σ (r :: rs) (v :: vs) (Us ++ Ts)
def tA (K:FG) (G0:Gm) (W0:D->Sto->Prop) (m:M3 (List R3)):TA:=fun σ H Q=>∃ G W,Le K G W G0 W0/\∃ ρ T g r ρ',Wf K G H σ ρ T g/\m ρ=some (r,ρ')/\match r with
 | .ok rs=>∀ vs H' Ts g',Wf K G H' σ ρ' (Ts ++ T) g'->Ars σ rs vs Ts->Q vs H'
 | .error e=>W e ρ'
inductive Flw where
 | nx | br | ct | rt (d:D) (f:Fl)
abbrev SM:=M3 Flw
def tS (K:FG) (G0:Gm) (W0:D->Sto->Prop) (m:SM):TS:=fun E σ H=>∃ G W,Le K G W G0 W0/\∃ ρ T g r ρ',Wf K G H σ ρ T g/\m ρ=some (r,ρ')/\match r with
 | .ok .nx=>∀ σ' H' g',Wf K G H' σ' ρ' T g'->E.nx σ' H'
 | .ok .br=>∀ σ' H' g',Wf K G H' σ' ρ' T g'->E.bk σ' H'
 | .ok .ct=>∀ σ' H' g',Wf K G H' σ' ρ' T g'->E.ct σ' H'
 | .ok (.rt d f)=>∀ x σ' H' g',Wf K G H' σ' ρ' (x :: T) g'->x.d=d->x.f=f->E.rt x.v H'
 | .error e=>W e ρ'
section
variable {K:FG} {G G0:Gm} {W W0:D->Sto->Prop} {H H':Hp} {σ:St} {ρ ρ':Sto} {T T':List It3} {g:Nat->Option It3} {x y z:It3} {α β:Type}
theorem aJ (e:ac (der r) k ρ=some (o,ρ')):∃ d,der r ρ=some (.ok d,ρ)/\k d ρ=some (o,ρ'):=by
 cases r with
 | pl i =>
  have a:der (.pl i) ρ=((ρ[i]?).join).map fun p=>(.ok p.1,ρ):=rfl
  unfold ac at e
  rw [a] at e ⊢
  cases h:(ρ[i]?).join with
  | none=>rw [h] at e;exact nsE e
  | some p=>rw [h] at e;exact ⟨p.1,rfl,e⟩
 | val d f=>exact ⟨d,rfl,e⟩
theorem bH (e:aR o ρ=some (r,ρ')):∃ a,o=some a/\r=.ok a/\ρ' = ρ:=by
 unfold aR at e
 cases o with
 | none=>exact nsE e
 | some a=>cases e;exact ⟨a,rfl,rfl,rfl⟩
theorem Wf.slot (w:Wf K G H σ ρ T g) {i:Nat} (e:(ρ[i]?).join=some (d,f)):∃ y,g i=some y/\y.d=d/\y.f=f/\σ[i]?=some (some y.v):=by
 have h:=w.sl i
 rw [e] at h
 cases q:g i with
 | none=>rw [q] at h;exact nsE h
 | some y =>
  rw [q] at h
  cases h
  exact ⟨y,rfl,rfl,rfl,w.sv i y q⟩
theorem Ar.item (w:Wf K G H σ ρ T g) (a:Ar σ r v Ts) (c:∀ x ∈ Ts,x ∈ T) (e:der r ρ=some (.ok d,ρ)):∃ y,Itm T g y/\y.d=d/\y.v=v:=by
 cases a with
 | @pl i v h =>
  have l:der (.pl i) ρ=((ρ[i]?).join).map fun p=>(.ok p.1,ρ):=rfl
  rw [l] at e
  cases q:(ρ[i]?).join with
  | none=>rw [q] at e;exact nsE e
  | some p =>
   rw [q] at e
   obtain ⟨y,e1,k,m,b⟩:=w.slot (d:=p.1) (f:=p.2) q
   have j:p.1=d:=by cases e;rfl
   rw [h] at b
   refine ⟨y,.inl ⟨i,e1⟩,k.trans j,?_⟩
   cases b;rfl
 | val x=>cases e;exact ⟨x,.inr (c x (by simp)),rfl,rfl⟩
theorem Wf.done (w:Wf K G H σ ρ (Us ++ T) g) (a:∀ y ∈ ys,Itm (Us ++ T) g y) (n:New K H H' (dq ys) x):Got K G σ ρ T (.val x.d x.f) x.v H' :=
 ⟨[x],g,(w.push n fun c h=>w.kids a h).sub (by simpa using List.Sublist.cons_cons x (z6 Us T)),.val x⟩
theorem tE.seq (le:Le K G W G0 W0) (w:Wf K G H σ ρ T g) (e:ac ma k ρ=some (r,ρ')) (he:∀ x,r=.error x->W x ρ') (h:∀ ra ρ1,k ra ρ1=some (r,ρ')->∀ v H1,Got K G σ ρ1 T ra v H1->P v H1):tE K G0 W0 ma σ H P:=by
 unfold ac at e
 cases q:ma ρ with
 | none=>rw [q] at e;exact nsE e
 | some p =>
  obtain ⟨o,ρ1⟩:=p
  rw [q] at e
  cases o with
  | error x=>cases e;exact ⟨G,W,le,ρ,T,g,.error x,ρ',w,q,he x rfl⟩
  | ok ra=>exact ⟨G,W,le,ρ,T,g,.ok ra,ρ1,w,q,h ra ρ1 e⟩
theorem tT.seq (le:Le K G W G0 W0) (w:Wf K G H σ ρ T g) (e:ac ma k ρ=some (r,ρ')) (he:∀ x,r=.error x->W x ρ') (h:∀ b ρ1,k b ρ1=some (r,ρ')->∀ H1 g1,Wf K G H1 σ ρ1 T g1->P b H1):tT K G0 W0 ma σ H P:=by
 unfold ac at e
 cases q:ma ρ with
 | none=>rw [q] at e;exact nsE e
 | some p =>
  obtain ⟨o,ρ1⟩:=p
  rw [q] at e
  cases o with
  | error x=>cases e;exact ⟨G,W,le,ρ,T,g,.error x,ρ',w,q,he x rfl⟩
  | ok ra=>exact ⟨G,W,le,ρ,T,g,.ok ra,ρ1,w,q,h ra ρ1 e⟩
theorem tA.seq (le:Le K G W G0 W0) (w:Wf K G H σ ρ T g) (e:ac ma k ρ=some (r,ρ')) (he:∀ x,r=.error x->W x ρ') (h:∀ rs ρ1,k rs ρ1=some (r,ρ')->∀ vs H1 Ts g1,Wf K G H1 σ ρ1 (Ts ++ T) g1->Ars σ rs vs Ts->P vs H1):tA K G0 W0 ma σ H P:=by
 unfold ac at e
 cases q:ma ρ with
 | none=>rw [q] at e;exact nsE e
 | some p =>
  obtain ⟨o,ρ1⟩:=p
  rw [q] at e
  cases o with
  | error x=>cases e;exact ⟨G,W,le,ρ,T,g,.error x,ρ',w,q,he x rfl⟩
  | ok ra=>exact ⟨G,W,le,ρ,T,g,.ok ra,ρ1,w,q,h ra ρ1 e⟩
def EndE (K:FG) (G:Gm) (W:D->Sto->Prop) (σ:St) (T:List It3) (ρ':Sto) (Q:VK):Except D R3->Prop
 | .ok r=>∀ v H',Got K G σ ρ' T r v H'->Q v H'
 | .error e=>W e ρ'
theorem EndE.err (h:EndE K G W σ T ρ' Q r):∀ x,r=.error x->W x ρ':=by
 intro x e;subst e;exact h
theorem tE.open (h:tE K G0 W0 m σ H Q):∃ G W,Le K G W G0 W0/\∃ ρ T g r ρ',Wf K G H σ ρ T g/\m ρ=some (r,ρ')/\EndE K G W σ T ρ' Q r:=by
 obtain ⟨G,W,le,ρ,T,g,r,ρ',w,e,q⟩:=h
 refine ⟨G,W,le,ρ,T,g,r,ρ',w,e,?_⟩
 cases r with
 | ok r=>exact q
 | error x=>exact q
theorem tE.use (h:tE K G0 W0 m σ H Q) {P:Prop} (k:∀ G W,Le K G W G0 W0->∀ ρ T g r ρ',Wf K G H σ ρ T g->m ρ=some (r,ρ')->EndE K G W σ T ρ' Q r->P):P:=by
 obtain ⟨G,W,le,ρ,T,g,r,ρ',w,e,q⟩:=h.open
 exact k G W le ρ T g r ρ' w e q
theorem tE.mk (le:Le K G W G0 W0) (w:Wf K G H σ ρ T g) (e:m ρ=some (r,ρ')) (h:EndE K G W σ T ρ' Q r):tE K G0 W0 m σ H Q:=by
 refine ⟨G,W,le,ρ,T,g,r,ρ',w,e,?_⟩
 cases r with
 | ok r=>exact h
 | error x=>exact h
def ab (i:Nat):EM:=fun ρ=>((ρ[i]?).join).map fun _=>(.ok (.pl i),ρ)
theorem xC {i:Nat} (h:tE K G0 W0 (ab i) σ H Q):p9 i σ H Q:=by
 refine h.use fun G W le ρ T g r ρ' w e q=>?_
 unfold ab at e
 cases h:(ρ[i]?).join with
 | none=>rw [h] at e;exact nsE e
 | some p =>
  rw [h] at e
  cases e
  obtain ⟨y,_,_,_,a⟩:=w.slot (d:=p.1) (f:=p.2) h
  exact ⟨y.v,a,q y.v H ⟨[],g,w,.pl a⟩⟩
def mC (d:D):EM:=aW (.val d .z)
theorem Wf.const (w:Wf K G H σ ρ T g) (r:Rep K H d v []):Got K G σ ρ T (.val d .z) v H :=
 Wf.done (Us:=[]) (ys:=[]) (x:=⟨d,v,[],.z⟩) w (fun _ h=>(by cases h)) ⟨Same.refl _,r,fun _ h=>(by cases h),fun h=>absurd rfl h⟩
theorem eS (r:∀ H,Rep K H d v []) (h:tE K G0 W0 (mC d) σ H Q):tC v σ H Q:=by
 refine h.use fun G W le ρ T g o ρ' w e q=>?_
 cases e
 exact q v H (w.const (r H))
def af (f:D->D->Option (D × Fl)) (ma mb:EM):EM:=ac ma fun ra=>ac mb fun rb=>ac (der ra) fun da=>ac (der rb) fun db=>aR ((f da db).map fun p=>R3.val p.1 p.2)
def OpD (K:FG) (r:R2) (f:D->D->Option (D × Fl)):Prop:=∀ (a b:It3) (H:Hp) (Q:VK) (p:D × Fl),Arg K H a->Arg K H b->f a.d b.d=some p ->
 (∀ w H',New K H H' (dq [a,b]) w->w.d=p.1->w.f=p.2->Q w.v H')->r a.v b.v H Q
theorem kB (w:Wf K G H σ ρ (Us ++ T) g) (c:∀ y ∈ ys,Itm (Us ++ T) g y) (q:EndE K G W σ T ρ Q (.ok (.val d f))) :
  ∀ a H',New K H H' (dq ys) a->a.d=d->a.f=f->Q a.v H':=by
 intro a H' n e1 b
 subst e1 b
 exact q a.v H' (w.done c n)
theorem kK (A:OpD K r f) (h:tE K G0 W0 (af f ma mb) σ H Q):tOp r (tE K G0 W0 ma) (tE K G0 W0 mb) σ H Q:=by
 refine h.use fun G W le ρ T g o ρ' w e q=>?_
 refine tE.seq le w e q.err fun ra ρ1 e1 E H1 ⟨Ts,g1,u,a1⟩=>?_
 refine tE.seq le u e1 q.err fun rb ρ2 z D H2 ⟨Us,g2,a,a2⟩=>?_
 obtain ⟨da,d1,C⟩:=aJ z
 obtain ⟨db,t,B⟩:=aJ C
 obtain ⟨p,b,rfl,rfl⟩:=bH B
 obtain ⟨n,c,f1,f2⟩:=a1.item a (fun x i=>zT _ (zS _ i)) d1
 obtain ⟨m,k,v,f4⟩:=a2.item a (fun x i=>zS _ i) t
 subst f1 f2 v f4
 cases l:f n.d m.d with
 | none=>rw [l] at b;exact nsE b
 | some s =>
  rw [l] at b
  cases b
  rw [<- List.append_assoc] at a c k
  refine A n m H2 Q s (a.itm c).arg (a.itm k).arg l (kB a (fun y j=>?_) q)
  rcases zU.mp j with h | j
  ·rw [h];exact c
  ·rw [Ao.mp j];exact k
def mUn (f:D->Option (D × Fl)) (ma:EM):EM:=ac ma fun ra=>ac (der ra) fun da=>aR ((f da).map fun p=>R3.val p.1 p.2)
def UnD (K:FG) (r:V->Hp->VK->Prop) (f:D->Option (D × Fl)):Prop:=∀ (a:It3) (H:Hp) (Q:VK) (p:D × Fl),Arg K H a->f a.d=some p ->
 (∀ w H',New K H H' (dq [a]) w->w.d=p.1->w.f=p.2->Q w.v H')->r a.v H Q
theorem wH (m:UnD K r f) (h:tE K G0 W0 (mUn f ma) σ H Q):tUn r (tE K G0 W0 ma) σ H Q:=by
 refine h.use fun G W le ρ T g o ρ' w e q=>?_
 refine tE.seq le w e q.err fun ra ρ1 e1 t H1 ⟨Ts,g1,c,a1⟩=>?_
 obtain ⟨da,d1,n⟩:=aJ e1
 obtain ⟨p,a,rfl,rfl⟩:=bH n
 obtain ⟨j,i,f1,f2⟩:=a1.item c (fun x l=>zS _ l) d1
 subst f1 f2
 cases b:f j.d with
 | none=>rw [b] at a;exact nsE a
 | some s =>
  rw [b] at a
  cases a
  exact m j H1 Q s (c.itm i).arg b (kB c (fun y k=>by rw [Ao.mp k];exact i) q)
def ae:M3 (List R3):=aW []
def aa (m:EM) (ms:M3 (List R3)):M3 (List R3):=ac m fun r=>ac ms fun rs=>aW (r :: rs)
def EndA (K:FG) (G:Gm) (W:D->Sto->Prop) (σ:St) (T:List It3) (ρ':Sto) (Q:List V->Hp->Prop):Except D (List R3)->Prop
 | .ok rs=>∀ vs H' Ts g',Wf K G H' σ ρ' (Ts ++ T) g'->Ars σ rs vs Ts->Q vs H'
 | .error e=>W e ρ'
theorem EndA.err (h:EndA K G W σ T ρ' Q r):∀ x,r=.error x->W x ρ':=by
 intro x e;subst e;exact h
theorem tA.open (h:tA K G0 W0 m σ H Q):∃ G W,Le K G W G0 W0/\∃ ρ T g r ρ',Wf K G H σ ρ T g/\m ρ=some (r,ρ')/\EndA K G W σ T ρ' Q r:=by
 obtain ⟨G,W,le,ρ,T,g,r,ρ',w,e,q⟩:=h
 refine ⟨G,W,le,ρ,T,g,r,ρ',w,e,?_⟩
 cases r with
 | ok r=>exact q
 | error x=>exact q
theorem tA.use (h:tA K G0 W0 m σ H Q) {P:Prop} (k:∀ G W,Le K G W G0 W0->∀ ρ T g r ρ',Wf K G H σ ρ T g->m ρ=some (r,ρ')->EndA K G W σ T ρ' Q r->P):P:=by
 obtain ⟨G,W,le,ρ,T,g,r,ρ',w,e,q⟩:=h.open
 exact k G W le ρ T g r ρ' w e q
theorem xI (h:tA K G0 W0 ae σ H Q):tNil σ H Q:=by
 refine h.use fun G W le ρ T g r ρ' w e q=>?_
 cases e
 exact q [] H [] g w .nil
theorem uJ (h:tA K G0 W0 (aa m ms) σ H Q):wK (tE K G0 W0 m) (tA K G0 W0 ms) σ H Q:=by
 refine h.use fun G W le ρ T g r ρ' w e q=>?_
 refine tE.seq le w e q.err fun ra ρ1 e1 c H1 ⟨Ts,g1,a,a1⟩=>?_
 refine tA.seq le a e1 q.err fun rs ρ2 b vs H2 Us g2 d a2=>?_
 cases b
 refine q (c :: vs) H2 (Us ++ Ts) g2 ?_ (.cons a1 a2)
 rw [List.append_assoc]
 exact d
def dU:List R3->M3 (List D)
 | []=>aW []
 | r :: rs=>ac (der r) fun d=>ac (dU rs) fun ds=>aW (d :: ds)
theorem pL:∀ {rs:List R3} {ρ ρ':Sto} {o:Except D (List D)},dU rs ρ=some (o,ρ')->∃ ds,o=.ok ds/\ρ' = ρ
 | [],ρ,ρ',o,e=>by cases e;exact ⟨[],rfl,rfl⟩
 | r :: rs,ρ,ρ',o,e=>by
  obtain ⟨d,e1,a⟩:=aJ (k:=fun d=>ac (dU rs) fun ds=>aW (d :: ds)) e
  unfold ac at a
  cases q:dU rs ρ with
  | none=>rw [q] at a;exact nsE a
  | some p =>
   obtain ⟨o',ρ1⟩:=p
   obtain ⟨ds,rfl,rfl⟩:=pL q
   rw [q] at a
   cases a
   exact ⟨d :: ds,rfl,rfl⟩
theorem c6 (e:ac (dU rs) k ρ=some (o,ρ')):∃ ds,dU rs ρ=some (.ok ds,ρ)/\k ds ρ=some (o,ρ'):=by
 unfold ac at e
 cases q:dU rs ρ with
 | none=>rw [q] at e;exact nsE e
 | some p =>
  obtain ⟨o',ρ1⟩:=p
  obtain ⟨ds,rfl,rfl⟩:=pL q
  rw [q] at e
  exact ⟨ds,rfl,e⟩
theorem Ars.items:∀ {rs:List R3} {vs:List V} {Ts:List It3} {ds:List D} ,Wf K G H σ ρ T g->Ars σ rs vs Ts->(∀ x ∈ Ts,x ∈ T)->dU rs ρ=some (.ok ds,ρ)->∃ ys:List It3,(∀ y ∈ ys,Itm T g y)/\ys.map (·.d)=ds/\ys.map (·.v)=vs
 | [],_,_,ds,w,.nil,_,e=>by cases e;exact ⟨[],fun _ h=>(by cases h),rfl,rfl⟩
 | r :: rs,_,_,ds,w,.cons a as,hs,e=>by
  obtain ⟨d,e1,i⟩:=aJ (k:=fun d=>ac (dU rs) fun ds=>aW (d :: ds)) e
  obtain ⟨j,n,m⟩:=c6 i
  cases m
  obtain ⟨y,f,f1,f2⟩:=a.item w (fun x b=>hs x (zT _ b)) e1
  obtain ⟨ys,c,l,f4⟩:=Ars.items w as (fun x b=>hs x (zS _ b)) n
  refine ⟨y :: ys,fun z hz=>?_,by simp [f1,l],by simp [f2,f4]⟩
  rcases zU.mp hz with h | hz
  ·rw [h];exact f
  ·exact c z hz
def aq (f:List D->Option (D × Fl)) (ms:M3 (List R3)):EM:=ac ms fun rs=>ac (dU rs) fun ds=>aR ((f ds).map fun p=>R3.val p.1 p.2)
def d6 (K:FG) (r:List V->Hp->VK->Prop) (f:List D->Option (D × Fl)):Prop:=∀ (ys:List It3) (H:Hp) (Q:VK) (p:D × Fl),(∀ y ∈ ys,Arg K H y)->f (ys.map (·.d))=some p ->
 (∀ w H',New K H H' (dq ys) w->w.d=p.1->w.f=p.2->Q w.v H')->r (ys.map (·.v)) H Q
theorem jp (m:d6 K r f) (h:tE K G0 W0 (aq f ms) σ H Q):tCB r (tA K G0 W0 ms) σ H Q:=by
 refine h.use fun G W le ρ T g o ρ' w e q=>?_
 refine tA.seq le w e q.err fun rs ρ1 e1 vs H1 Ts g1 c a1=>?_
 obtain ⟨ds,d1,l⟩:=c6 e1
 obtain ⟨p,a,rfl,rfl⟩:=bH l
 obtain ⟨ys,i,f1,f2⟩:=a1.items c (fun x k=>zS _ k) d1
 subst f1 f2
 cases b:f (ys.map (·.d)) with
 | none=>rw [b] at a;exact nsE a
 | some s =>
  rw [b] at a
  cases a
  exact m ys H1 Q s (fun y j=>(c.itm (i y j)).arg) b (kB c i q)
def asB:D->Option Bool
 | .bl b=>some b
 | _=>none
def jU (ma mb:EM):EM:=ac ma fun ra=>ac (der ra) fun d=>ac (aR (asB d)) fun b=>if b then mb else aW (.val (.bl false) .z)
def mOr (ma mb:EM):EM:=ac ma fun ra=>ac (der ra) fun d=>ac (aR (asB d)) fun b=>if b then aW (.val (.bl true) .z) else mb
def wb (ma:EM):EM:=ac ma fun ra=>ac (der ra) fun d=>ac (aR (asB d)) fun b=>aW (.val (.bl (!b)) .z)
theorem fE (e:ac (aR o) k ρ=some (r,ρ')):∃ a,o=some a/\k a ρ=some (r,ρ'):=by
 unfold ac aR at e
 cases o with
 | none=>exact nsE e
 | some a=>exact ⟨a,rfl,e⟩
theorem ug (e:asB d=some b):d=.bl b:=by
 cases d <;> first | exact nsE e | cases e
 rfl
theorem Rep.bl_eq (r:Rep K H (.bl b) v L):v=.bl b/\L=[]:=by cases r;exact ⟨rfl,rfl⟩
theorem Ar.bool (w:Wf K G H σ ρ (Ts ++ T) g) (a:Ar σ ra v Ts) (e:der ra ρ=some (.ok d,ρ)) (h:asB d=some b):v=.bl b:=by
 obtain ⟨y,f,f1,f2⟩:=a.item w (fun x c=>zS _ c) e
 have r:=(w.itm f).rep
 rw [f1,ug h] at r
 rw [<- f2]
 exact r.bl_eq.1
theorem xH (h:tE K G0 W0 (jU ma mb) σ H Q):wM (tE K G0 W0 ma) (tE K G0 W0 mb) σ H Q:=by
 refine h.use fun G W le ρ T g o ρ' w e q=>?_
 refine tE.seq le w e q.err fun ra ρ1 e1 k H1 ⟨Ts,g1,a,a1⟩=>?_
 obtain ⟨d,d1,j⟩:=aJ e1
 obtain ⟨b,i,f⟩:=fE j
 refine ⟨b,a1.bool a d1 i,?_⟩
 have c:=a.sub (z6 Ts T)
 cases b with
 | true=>exact tE.mk le c f q
 | false=>cases f;exact q _ _ (c.const (.bl false))
theorem tE_or (h:tE K G0 W0 (mOr ma mb) σ H Q):tOrV (tE K G0 W0 ma) (tE K G0 W0 mb) σ H Q:=by
 refine h.use fun G W le ρ T g o ρ' w e q=>?_
 refine tE.seq le w e q.err fun ra ρ1 e1 k H1 ⟨Ts,g1,a,a1⟩=>?_
 obtain ⟨d,d1,j⟩:=aJ e1
 obtain ⟨b,i,f⟩:=fE j
 refine ⟨b,a1.bool a d1 i,?_⟩
 have c:=a.sub (z6 Ts T)
 cases b with
 | false=>exact tE.mk le c f q
 | true=>cases f;exact q _ _ (c.const (.bl true))
theorem xE (h:tE K G0 W0 (wb ma) σ H Q):wF (tE K G0 W0 ma) σ H Q:=by
 refine h.use fun G W le ρ T g o ρ' w e q=>?_
 refine tE.seq le w e q.err fun ra ρ1 e1 k H1 ⟨Ts,g1,a,a1⟩=>?_
 obtain ⟨d,d1,f⟩:=aJ e1
 obtain ⟨b,c,j⟩:=fE f
 refine ⟨b,a1.bool a d1 c,?_⟩
 have i:=a.sub (z6 Ts T)
 cases j;exact q _ _ (i.const (.bl (!b)))
def EndT (K:FG) (G:Gm) (W:D->Sto->Prop) (σ:St) (T:List It3) (ρ':Sto) (Q:Bool->Hp->Prop):Except D Bool->Prop
 | .ok b=>∀ H' g',Wf K G H' σ ρ' T g'->Q b H'
 | .error e=>W e ρ'
theorem EndT.err (h:EndT K G W σ T ρ' Q r):∀ x,r=.error x->W x ρ':=by
 intro x e;subst e;exact h
theorem tT.open (h:tT K G0 W0 m σ H Q):∃ G W,Le K G W G0 W0/\∃ ρ T g r ρ',Wf K G H σ ρ T g/\m ρ=some (r,ρ')/\EndT K G W σ T ρ' Q r:=by
 obtain ⟨G,W,le,ρ,T,g,r,ρ',w,e,q⟩:=h
 refine ⟨G,W,le,ρ,T,g,r,ρ',w,e,?_⟩
 cases r with
 | ok r=>exact q
 | error x=>exact q
theorem tT.use (h:tT K G0 W0 m σ H Q) {P:Prop} (k:∀ G W,Le K G W G0 W0->∀ ρ T g r ρ',Wf K G H σ ρ T g->m ρ=some (r,ρ')->EndT K G W σ T ρ' Q r->P):P:=by
 obtain ⟨G,W,le,ρ,T,g,r,ρ',w,e,q⟩:=h.open
 exact k G W le ρ T g r ρ' w e q
theorem tT.mk (le:Le K G W G0 W0) (w:Wf K G H σ ρ T g) (e:m ρ=some (r,ρ')) (h:EndT K G W σ T ρ' Q r):tT K G0 W0 m σ H Q:=by
 refine ⟨G,W,le,ρ,T,g,r,ρ',w,e,?_⟩
 cases r with
 | ok r=>exact h
 | error x=>exact h
def cB (m:EM):M3 Bool:=ac m fun r=>ac (der r) fun d=>aR (asB d)
theorem xr (h:tT K G0 W0 (cB m) σ H Q):tB (tE K G0 W0 m) σ H Q:=by
 refine h.use fun G W le ρ T g o ρ' w e q=>?_
 refine tE.seq le w e q.err fun ra ρ1 e1 i H1 ⟨Ts,g1,a,a1⟩=>?_
 obtain ⟨d,d1,f⟩:=aJ e1
 obtain ⟨b,c,rfl,rfl⟩:=bH f
 exact ⟨b,a1.bool a d1 c,q _ _ (a.sub (z6 Ts T))⟩
def cOr (a b:M3 Bool):M3 Bool:=ac a fun c=>if c then aW true else b
def f9 (a:M3 Bool):M3 Bool:=ac a fun c=>aW (!c)
theorem tT_or (h:tT K G0 W0 (cOr a b) σ H Q):tOr (tT K G0 W0 a) (tT K G0 W0 b) σ H Q:=by
 refine h.use fun G W le ρ T g o ρ' w e q=>?_
 refine tT.seq le w e q.err fun c ρ1 e1 H1 g1 d=>?_
 cases c with
 | false=>exact tT.mk le d e1 q
 | true=>cases e1;exact q _ _ d
theorem xq (h:tT K G0 W0 (f9 a) σ H Q):tNot (tT K G0 W0 a) σ H Q:=by
 refine h.use fun G W le ρ T g o ρ' w e q=>?_
 refine tT.seq le w e q.err fun c ρ1 e1 H1 g1 b=>?_
 cases e1;exact q _ _ b
end
end L3
end
section
namespace L3
open PySem L2
def cK (x:It3):It3:={ x with f:=.z }
theorem cn:NoRoot (cK x) y:=fun h=>absurd rfl h
def lowAt (i:Nat) (ρ:Sto):Sto:=match (ρ[i]?).join with
 | some (d,.u)=>ρ.set i (some (d,.z))
 | some (d,.l)=>ρ.set i (some (d,.z))
 | _=>ρ
noncomputable def frz (is:List Nat) (ρ:Sto):Sto:=is.foldl (fun ρ i=>lowAt i ρ) ρ
def frz3 (is:List Nat):M3 Unit:=fun ρ=>some (.ok (),frz is ρ)
def pls:List R3->List Nat
 | []=>[]
 | .pl i :: rs=>i :: pls rs
 | .val _ _ :: rs=>pls rs
section
variable {K:FG} {G G0:Gm} {W W0:D->Sto->Prop} {H H':Hp} {σ:St} {ρ ρ':Sto} {T T':List It3} {g:Nat->Option It3} {x y z:It3} {α β:Type}
theorem ItOk.low (h:ItOk K G H x):ItOk K G H (cK x):=⟨h.rep,fun q=>absurd rfl q,h.src⟩
theorem bB {i j:Nat} (hi:i < ρ.length):((ρ.set i o)[j]?).join=if j=i then o else (ρ[j]?).join:=by
 by_cases e:j=i
 ·subst e
  rw [if_pos rfl,List.getElem?_set_self hi]
  rfl
 ·rw [if_neg e,List.getElem?_set_ne (fun h=>e h.symm)]
theorem cW {i:Nat} (h:(ρ[i]?).join=some p):i < ρ.length:=by
 cases q:ρ[i]? with
 | none=>rw [q] at h;exact nsE h
 | some o=>exact (z4.mp q).1
theorem Wf.lowSlot (w:Wf K G H σ ρ T g) {i:Nat} (e:(ρ[i]?).join=some (d,f)):Wf K G H σ (ρ.set i (some (d,.z))) T (fun j=>if j=i then (g i).map cK else g j):=by
 have hi:=cW e
 obtain ⟨y,u,D,E,ev⟩:=w.slot e
 have val:∀ j x,(if j=i then (g i).map cK else g j)=some x->∃ x0,g j=some x0/\(x=x0\/x=cK x0)/\(j=i->x=cK x0):=fun j x h=>by
  by_cases q:j=i
  ·subst q
   rw [if_pos rfl,u] at h
   cases h
   exact ⟨y,u,.inr rfl,fun _=>rfl⟩
  ·rw [if_neg q] at h
   exact ⟨x,h,.inl rfl,fun z=>absurd z q⟩
 have t:∀ {a b:It3},NoRoot a b->∀ p l,(p=a\/p=cK a)->(l=b\/l=cK b)->NoRoot p l:=fun h p l h1 h2=>by
  rcases h1 with rfl | rfl
  ·rcases h2 with rfl | rfl
   ·exact h
   ·exact h
  ·exact cn
 refine ⟨by rw [List.length_set];exact w.len,fun j=>?_,fun j x h=>?_,fun j x h=>?_,w.okT,fun j k a b n h1 h2=>?_,fun j a h b o=>?_,w.tt,w.base,w.pro,⟨w.fx.frT,fun j x h B hf a A=>?_,w.fx.bin,w.fx.ob,fun j x h v=>?_⟩⟩
 ·rw [bB hi]
  by_cases q:j=i
  ·subst q
   rw [if_pos rfl,if_pos rfl,u]
   show some ((cK y).d,Fl.z)=_
   rw [<- D];rfl
  ·rw [if_neg q,if_neg q];exact w.sl j
 ·obtain ⟨x0,h0,c,_⟩:=val j x h
  have:=w.sv j x0 h0
  rcases c with rfl | rfl <;> exact this
 ·obtain ⟨x0,h0,c,_⟩:=val j x h
  rcases c with rfl | rfl
  ·exact w.okS j x h0
  ·exact (w.okS j x0 h0).low
 ·obtain ⟨r,h0,m,_⟩:=val j a h1
  obtain ⟨C,s,o,_⟩:=val k b h2
  exact t (w.ss j k r C n h0 s) a b m o
 ·obtain ⟨r,h0,m,_⟩:=val j a h
  exact ⟨t (w.st j r h0 b o).1 a b m (.inl rfl),t (w.st j r h0 b o).2 b a (.inl rfl) m⟩
 ·obtain ⟨x0,h0,c,_⟩:=val j x h
  rcases c with rfl | rfl
  ·exact w.fx.frS j x h0 B hf a A
  ·exact absurd rfl hf
 ·obtain ⟨x0,h0,c,_⟩:=val j x h
  rcases c with rfl | rfl
  ·exact w.fx.lvS j x h0 v
  ·cases v
def Kin (x y:It3):Prop:=y.d=x.d/\y.v=x.v/\y.L=x.L/\(y.f=x.f\/y.f=.z)
theorem Kin.refl (x:It3):Kin x x:=⟨rfl,rfl,rfl,.inl rfl⟩
theorem Kin.trans (a:Kin x y) (b:Kin y z):Kin x z:=⟨b.1.trans a.1,b.2.1.trans a.2.1,b.2.2.1.trans a.2.2.1,by
 rcases b.2.2.2 with h | h
 ·rcases a.2.2.2 with h' | h'
  ·exact .inl (h.trans h')
  ·exact .inr (h.trans h')
 ·exact .inr h⟩
theorem Wf.lowAt {i:Nat} (w:Wf K G H σ ρ T g):∃ g',Wf K G H σ (lowAt i ρ) T g'/\(∀ j y,g j=some y->∃ a,g' j=some a/\Kin y a/\(j=i->a.f=.z)):=by
 have keep:∀ d,(ρ[i]?).join=some (d,.z)->∃ g',Wf K G H σ ρ T g'/\(∀ j y,g j=some y->∃ a,g' j=some a/\Kin y a/\(j=i->a.f=.z)):=fun d e=>⟨g,w,fun j y h=>⟨y,h,Kin.refl y,fun q=>by
  subst q
  obtain ⟨a,h',_,hf,_⟩:=w.slot e
  rw [h] at h';cases h';exact hf⟩⟩
 have low:∀ d f,(ρ[i]?).join=some (d,f)->∃ g',Wf K G H σ (ρ.set i (some (d,.z))) T g'/\(∀ j y,g j=some y->∃ a,g' j=some a/\Kin y a/\(j=i->a.f=.z)):=fun d f e=>⟨_,w.lowSlot e,fun j y h=>by
  by_cases q:j=i
  ·subst q;exact ⟨cK y,by rw [if_pos rfl,h];rfl,⟨rfl,rfl,rfl,.inr rfl⟩,fun _=>rfl⟩
  ·exact ⟨y,by rw [if_neg q];exact h,Kin.refl y,fun z=>absurd z q⟩⟩
 unfold L3.lowAt
 cases e:(ρ[i]?).join with
 | none =>
  refine ⟨g,w,fun j y h=>⟨y,h,Kin.refl y,fun q=>?_⟩⟩
  subst q
  have:=w.sl j
  rw [h,e] at this;cases this
 | some p =>
  obtain ⟨d,f⟩:=p
  cases f with
  | u=>exact low d _ e
  | l=>exact low d _ e
  | z=>exact keep d e
theorem Wf.frz:∀ {is:List Nat} {ρ:Sto} {g:Nat->Option It3},Wf K G H σ ρ T g->∃ g',Wf K G H σ (frz is ρ) T g'/\(∀ j y,g j=some y->∃ a,g' j=some a/\Kin y a/\(j ∈ is->a.f=.z))
 | [],ρ,g,w=>⟨g,w,fun j y h=>⟨y,h,Kin.refl y,fun q=>by cases q⟩⟩
 | i :: is,ρ,g,w=>by
  obtain ⟨g1,d,h1⟩:=w.lowAt (i:=i)
  obtain ⟨g2,n,h2⟩:=Wf.frz (is:=is) d
  refine ⟨g2,n,fun j y h=>?_⟩
  obtain ⟨e,e1,m,c⟩:=h1 j y h
  obtain ⟨b,l,k2,k⟩:=h2 j e e1
  refine ⟨b,l,m.trans k2,fun hm=>?_⟩
  rcases zU.mp hm with q | q
  ·rcases k2.2.2.2 with h | h
   ·exact h.trans (c q)
   ·exact h
  ·exact k q
theorem Wf.lowT (w:Wf K G H σ ρ (Ts ++ T) g):Wf K G H σ ρ (Ts.map cK ++ T) g:=by
 have sp:∀ {a b:It3},Apart3 a b->Apart3 (cK a) (cK b):=fun h=>⟨cn,cn⟩
 refine ⟨w.len,w.sl,w.sv,w.okS,fun x c=>?_,w.ss,fun i x e y f=>?_,?_,w.base,w.pro,⟨fun x c hf a k=>?_,w.fx.frS,w.fx.bin,w.fx.ob,w.fx.lvS⟩⟩
 ·rcases zX.mp c with h | h
  ·obtain ⟨x0,h0,rfl⟩:=z7.mp h
   exact (w.okT x0 (zS _ h0)).low
  ·exact w.okT x (zT _ h)
 ·rcases zX.mp f with h | h
  ·obtain ⟨y0,h0,rfl⟩:=z7.mp h
   exact ⟨(w.st i x e y0 (zS _ h0)).1,cn⟩
  ·exact w.st i x e y (zT _ h)
 ·have h:=List.pairwise_append.mp w.tt
  refine List.pairwise_append.mpr ⟨?_,h.2.1,fun a d b j=>?_⟩
  ·rw [List.pairwise_map]
   exact h.1.imp fun h=>sp h
  ·obtain ⟨l,h0,rfl⟩:=z7.mp d
   exact ⟨cn,(h.2.2 l h0 b j).2⟩
 ·rcases zX.mp c with h | h
  ·obtain ⟨x0,h0,rfl⟩:=z7.mp h
   exact absurd rfl hf
  ·exact w.fx.frT x (zT _ h) hf a k
theorem jf:∀ {rs:List R3} {i:Nat},R3.pl i ∈ rs->i ∈ pls rs
 | [],_,h=>by cases h
 | .pl j :: rs,i,h=>by
  rcases zU.mp h with e | h
  ·cases e;exact zO
  ·exact zP _ (jf h)
 | .val _ _ :: rs,i,h=>by
  rcases zU.mp h with e | h
  ·cases e
  ·exact jf (rs:=rs) h
theorem Ars.given:∀ {rs:List R3} {vs:List V} {Ts:List It3} {ds:List D} {S:List It3} {g':Nat->Option It3} {is:List Nat},Wf K G H σ ρ T g->(∀ j y,g j=some y->∃ b,g' j=some b/\Kin y b/\(j ∈ is->b.f=.z))->(∀ i,R3.pl i ∈ rs->i ∈ is) ->
  Ars σ rs vs Ts->(∀ x ∈ Ts,x ∈ T)->(∀ x ∈ Ts,cK x ∈ S)->dU rs ρ=some (.ok ds,ρ)->∃ ys:List It3,(∀ y ∈ ys,Itm S g' y/\y.f=.z)/\ys.map (·.d)=ds/\ys.map (·.v)=vs
 | [],_,_,ds,S,g',is,w,hg,hi,.nil,_,_,e=>by cases e;exact ⟨[],fun _ h=>(by cases h),rfl,rfl⟩
 | r :: rs,_,_,ds,S,g',is,w,hg,hi,.cons (v:=v0) a as,hs,hS,e=>by
  obtain ⟨d,e1,C⟩:=aJ (k:=fun d=>ac (dU rs) fun ds=>aW (d :: ds)) e
  obtain ⟨s,F,E⟩:=c6 C
  cases E
  obtain ⟨ys,u,t,f4⟩:=Ars.given w hg (fun i h=>hi i (zP _ h)) as (fun x c=>hs x (zS _ c)) (fun x c=>hS x (zS _ c)) F
  have one:∃ y,(Itm S g' y/\y.f=.z)/\y.d=d/\y.v=v0:=by
   cases a with
   | @pl i v h =>
    have A:der (.pl i) ρ=((ρ[i]?).join).map fun p=>(.ok p.1,ρ):=rfl
    rw [A] at e1
    cases q:(ρ[i]?).join with
    | none=>rw [q] at e1;exact nsE e1
    | some p =>
     rw [q] at e1
     obtain ⟨y,B,n,I,l⟩:=w.slot (d:=p.1) (f:=p.2) q
     obtain ⟨b,h1,h2,h3⟩:=hg i y B
     have m:p.1=d:=by cases e1;rfl
     rw [h] at l
     refine ⟨b,⟨.inl ⟨i,h1⟩,h3 (hi i zO)⟩,h2.1.trans (n.trans m),?_⟩
     rw [h2.2.1];cases l;rfl
   | val x=>cases e1;exact ⟨cK x,⟨.inr (hS x (by simp)),rfl⟩,rfl,rfl⟩
  obtain ⟨y,o,f1,f2⟩:=one
  refine ⟨y :: ys,fun z hz=>?_,by simp [f1,t],by simp [f2,f4]⟩
  rcases zU.mp hz with h | hz
  ·rw [h];exact o
  ·exact u z hz
def cO (ys:List It3) (c:Addr):Prop:=∃ y ∈ ys,c ∈ y.L
def gives (rs:List R3):M3 (List D):=ac (dU rs) fun ds=>ac (frz3 (pls rs)) fun _=>aW ds
theorem Ars.gives (w:Wf K G H σ ρ (Ts ++ T) g) (a:Ars σ rs vs Ts) (e:ac (gives rs) k ρ=some (r,ρ')) :
  ∃ ds ρ1 g1,k ds ρ1=some (r,ρ')/\ρ1=frz (pls rs) ρ/\Wf K G H σ ρ1 (Ts.map cK ++ T) g1/\(∀ j y,g j=some y->∃ c,g1 j=some c/\Kin y c)/\∃ ys:List It3,(∀ y ∈ ys,Itm (Ts.map cK ++ T) g1 y/\y.f=.z)/\ys.map (·.d)=ds/\ys.map (·.v)=vs:=by
 unfold L3.gives at e
 have m:ac (dU rs) (fun ds=>ac (frz3 (pls rs)) fun _=>k ds) ρ=some (r,ρ'):=by
  rw [<- e]
  unfold ac
  cases q:dU rs ρ with
  | none=>rfl
  | some p =>
   obtain ⟨o,ρ2⟩:=p
   cases o with
   | error x=>rfl
   | ok ds=>rfl
 obtain ⟨ds,d1,e1⟩:=c6 m
 obtain ⟨g1,n,h1⟩:=Wf.frz (is:=pls rs) w
 refine ⟨ds,L3.frz (pls rs) ρ,g1,e1,rfl,n.lowT,fun j y h=>let ⟨c,a,b,_⟩:=h1 j y h;⟨c,a,b⟩,?_⟩
 exact Ars.given w h1 (fun i h=>jf h) a (fun x l=>zS _ l) (fun x l=>zS _ (z7.mpr ⟨x,l,rfl⟩)) d1
theorem Wf.alls (w:Wf K G H σ ρ T g) (a:∀ y ∈ ys,Itm T g y/\y.f=.z) (h:cO ys c):cX T g c/\(G.H0 c=none\/G.src c):=by
 obtain ⟨y,m,b⟩:=h
 exact ⟨w.kid (a y m).1 b fun hf=>absurd (a y m).2 hf,(w.itm (a y m).1).src c b⟩
theorem Wf.doneA (w:Wf K G H σ ρ (Us ++ T) g) (a:∀ y ∈ ys,Itm (Us ++ T) g y/\y.f=.z) (n:New K H H' (cO ys) x):Got K G σ ρ T (.val x.d x.f) x.v H' :=
 ⟨[x],g,(w.push n fun c h=>w.alls a h).sub (by simpa using List.Sublist.cons_cons x (z6 Us T)),.val x⟩
theorem jc:∀ {ys:List It3},(∀ y ∈ ys,Rep K H y.d y.v y.L)->Reps (Rep K H) (ys.map (·.d)) (ys.map (·.v)) (ys.map (·.L)).flatten
 | [],_=>.nil
 | y :: ys,h=>.cons (h y zO) (jc fun z hz=>h z (zP _ hz))
theorem dO (h:c ∈ (ys.map (·.L)).flatten):cO ys c:=by
 obtain ⟨l,d,a⟩:=List.mem_flatten.mp h
 obtain ⟨y,b,rfl⟩:=z7.mp d
 exact ⟨y,b,a⟩
noncomputable def wa (mk:List D->D) (f:Fl) (ms:M3 (List R3)):EM:=ac ms fun rs=>ac (gives rs) fun ds=>aR (if ds.length<=16777216 then some (.val (mk ds) f) else none)
abbrev aF:M3 (List R3)->EM:=wa .tup .z
abbrev cq:M3 (List R3)->EM:=wa .lst .u
theorem bo (h:H p=none):Same H (upd H p o):=fun b u e=>by
 rw [ay (aX e h)];exact e
theorem xD (hz:(16777216:Nat)=sizeLine) (h:tE K G0 W0 (aF ms) σ H Q):tTup (tA K G0 W0 ms) σ H Q:=by
 refine h.use fun G W le ρ T g o ρ' w e q=>?_
 refine tA.seq le w e q.err fun rs ρ1 e1 vs H1 Ts g1 l a1=>?_
 obtain ⟨ds,ρ2,g2,n,_,j,_,ys,i,f1,f2⟩:=a1.gives l e1
 obtain ⟨v,b,rfl,rfl⟩:=bH n
 subst f1 f2
 split at b
 ·rename_i m
  cases b
  refine ⟨by rw [zZ] at m ⊢;omega,fun p f=>?_⟩
  refine q _ _ (Wf.doneA (x:=⟨.tup (ys.map (·.d)),.ref p,(ys.map (·.L)).flatten,.z⟩) j i ⟨bo f,.tup aN ((jc fun y a=>(j.itm (i y a).1).rep).same (bo f)),fun c k=>.inr (dO k),fun hf=>absurd rfl hf⟩)
 ·exact nsE b
theorem xG (hz:(16777216:Nat)=sizeLine) (h:tE K G0 W0 (cq ms) σ H Q):tLst (tA K G0 W0 ms) σ H Q:=by
 refine h.use fun G W le ρ T g o ρ' w e q=>?_
 refine tA.seq le w e q.err fun rs ρ1 e1 vs H1 Ts g1 m a1=>?_
 obtain ⟨ds,ρ2,g2,r,_,j,_,ys,i,f1,f2⟩:=a1.gives m e1
 obtain ⟨v,k,rfl,rfl⟩:=bH r
 subst f1 f2
 split at k
 ·rename_i n
  cases k
  refine ⟨by rw [zZ] at n ⊢;omega,fun p b=>?_⟩
  have np:p ∉ (ys.map (·.L)).flatten:=fun a=>by
   obtain ⟨y,hm,a⟩:=dO a
   obtain ⟨o,l⟩:=((j.itm (i y hm).1).rep.inH p a).ex
   rw [b] at l;exact nsE l
  refine q _ _ (Wf.doneA (x:=⟨.lst (ys.map (·.d)),.ref p,p :: (ys.map (·.L)).flatten,.u⟩) j i ⟨bo b,.lst aN ((jc fun y f=>(j.itm (i y f).1).rep).same (bo b)),fun c a=>?_,fun _=>⟨rfl,p,_,rfl,rfl,np,b⟩⟩)
  rcases zU.mp a with e | a
  ·rw [e];exact .inl b
  ·exact .inr (dO a)
 ·exact nsE k
end
end L3
end
section
namespace L3
open PySem L2
section
variable {K:FG} {G G0:Gm} {W W0:D->Sto->Prop} {H H':Hp} {σ:St} {ρ ρ':Sto} {T T':List It3} {g:Nat->Option It3} {x y z:It3} {α β:Type}
def EndS (K:FG) (G:Gm) (W:D->Sto->Prop) (T:List It3) (ρ':Sto) (E:Ends):Except D Flw->Prop
 | .ok .nx=>∀ σ' H' g',Wf K G H' σ' ρ' T g'->E.nx σ' H'
 | .ok .br=>∀ σ' H' g',Wf K G H' σ' ρ' T g'->E.bk σ' H'
 | .ok .ct=>∀ σ' H' g',Wf K G H' σ' ρ' T g'->E.ct σ' H'
 | .ok (.rt d f)=>∀ x σ' H' g',Wf K G H' σ' ρ' (x :: T) g'->x.d=d->x.f=f->E.rt x.v H'
 | .error e=>W e ρ'
theorem EndS.err (h:EndS K G W T ρ' E r):∀ x,r=.error x->W x ρ':=by
 intro x e;subst e;exact h
theorem tS.open (h:tS K G0 W0 m E σ H):∃ G W,Le K G W G0 W0/\∃ ρ T g r ρ',Wf K G H σ ρ T g/\m ρ=some (r,ρ')/\EndS K G W T ρ' E r:=by
 obtain ⟨G,W,le,ρ,T,g,r,ρ',w,e,q⟩:=h
 refine ⟨G,W,le,ρ,T,g,r,ρ',w,e,?_⟩
 cases r with
 | ok r=>cases r <;> exact q
 | error x=>exact q
theorem tS.use (h:tS K G0 W0 m E σ H) {P:Prop} (k:∀ G W,Le K G W G0 W0->∀ ρ T g r ρ',Wf K G H σ ρ T g->m ρ=some (r,ρ')->EndS K G W T ρ' E r->P):P:=by
 obtain ⟨G,W,le,ρ,T,g,r,ρ',w,e,q⟩:=h.open
 exact k G W le ρ T g r ρ' w e q
theorem tS.mk (le:Le K G W G0 W0) (w:Wf K G H σ ρ T g) (e:m ρ=some (r,ρ')) (h:EndS K G W T ρ' E r):tS K G0 W0 m E σ H:=by
 refine ⟨G,W,le,ρ,T,g,r,ρ',w,e,?_⟩
 cases r with
 | ok r=>cases r <;> exact h
 | error x=>exact h
def eU:SM:=aW .nx
noncomputable def au (a b:SM):SM:=ac a fun f=>match f with
 | .nx=>b
 | o=>aW o
theorem xx (h:tS K G0 W0 eU E σ H):wG E σ H:=by
 refine h.use fun G W le ρ T g r ρ' w e q=>?_
 cases e
 exact q _ _ _ w
theorem xv (h:tS K G0 W0 (au a b) E σ H):tSeq (tS K G0 W0 a) (tS K G0 W0 b) E σ H:=by
 refine h.use fun G W le ρ T g r ρ' w e q=>?_
 unfold au ac at e
 cases p:a ρ with
 | none=>rw [p] at e;exact nsE e
 | some p' =>
  obtain ⟨o,ρ1⟩:=p'
  rw [p] at e
  cases o with
  | error x=>cases e;exact tS.mk le w p q
  | ok f =>
   cases f with
   | nx=>exact tS.mk le (r:=.ok .nx) w p fun σ' H' g' c=>tS.mk le c e q
   | br=>cases e;exact tS.mk le w p q
   | ct=>cases e;exact tS.mk le w p q
   | rt d f=>cases e;exact tS.mk le w p q
def gm (m:EM):SM:=ac m fun _=>aW .nx
theorem uA (h:tS K G0 W0 (gm m) E σ H):wI (tE K G0 W0 m) E σ H:=by
 refine h.use fun G W le ρ T g r ρ' w e q=>?_
 refine tE.seq le w e q.err fun ra ρ1 e1 v H1 ⟨Ts,g1,a,a1⟩=>?_
 cases e1
 exact q _ _ _ (a.sub (z6 Ts T))
def sIf (c:M3 Bool) (a b:SM):SM:=ac c fun t=>if t then a else b
theorem tS_if (h:tS K G0 W0 (sIf c a b) E σ H):tIfS (tT K G0 W0 c) (tS K G0 W0 a) (tS K G0 W0 b) E σ H:=by
 refine h.use fun G W le ρ T g r ρ' w e q=>?_
 refine tT.seq le w e q.err fun t ρ1 e1 H1 g1 d=>?_
 cases t with
 | true=>exact tS.mk le d e1 q
 | false=>exact tS.mk le d e1 q
def nol:Fl->Fl
 | .u=>.u
 | _=>.z
theorem yZ (f:Fl):nol f ≠ .l:=by cases f <;> intro h <;> cases h
theorem yY (f:Fl):nol f=f\/nol f=.z:=by cases f <;> first | exact .inl rfl | exact .inr rfl
noncomputable def dI (r:R3):M3 (D × Fl):=match r with
 | .val d f=>aW (d,nol f)
 | .pl i=>fun ρ=>((ρ[i]?).join).map fun p=>(.ok (p.1,.z),lowAt i ρ)
theorem lS {i:Nat}:dI (.pl i) ρ=((ρ[i]?).join).map fun p=>(.ok (p.1,.z),lowAt i ρ):=rfl
theorem Ar.val_inv (a:Ar σ (.val d f) v Ts):∃ x,Ts=[x]/\x.d=d/\x.f=f/\x.v=v:=by
 generalize h:R3.val d f=r at a
 cases a with
 | pl _=>cases h
 | val x=>cases h;exact ⟨x,rfl,rfl,rfl,rfl⟩
theorem Ar.take (w:Wf K G H σ ρ (Ts ++ T) g) (a:Ar σ r v Ts) (e:ac (dI r) k ρ=some (o,ρ')) :
  ∃ p ρ1 g1 x,k p ρ1=some (o,ρ')/\Wf K G H σ ρ1 (x :: T) g1/\x.d=p.1/\(p.2=x.f\/p.2=.z)/\p.2 ≠ .l/\x.v=v:=by
 cases a with
 | val x=>exact ⟨(x.d,nol x.f),ρ,g,x,e,w,rfl,yY _,yZ _,rfl⟩
 | @pl i v h =>
  unfold ac at e
  rw [lS] at e
  cases q:(ρ[i]?).join with
  | none=>rw [q] at e;exact nsE e
  | some p =>
   rw [q] at e
   obtain ⟨y,E,D,J,t⟩:=w.slot (d:=p.1) (f:=p.2) q
   obtain ⟨g1,b,h1⟩:=w.lowAt (i:=i)
   obtain ⟨c,m,A,C⟩:=h1 i y E
   have hz:=C rfl
   refine ⟨(p.1,.z),_,g1,c,e,?_,A.1.trans D,.inr rfl,(by intro h;cases h),?_⟩
   ·have s:∀ u:It3,NoRoot c u:=fun u hf=>absurd hz hf
    refine ⟨b.len,b.sl,b.sv,b.okS,fun u hu=>?_,b.ss,fun j u n I hu=>?_,?_,b.base,b.pro,⟨fun u hu hf a F=>?_,b.fx.frS,b.fx.bin,b.fx.ob,b.fx.lvS⟩⟩
    ·rcases zU.mp hu with h | hu
     ·rw [h];exact b.okS i c m
     ·exact b.okT u hu
    ·rcases zU.mp hu with h | hu
     ·rw [h]
      refine ⟨?_,s _⟩
      by_cases B:j=i
      ·subst B
       rw [m] at n;cases n
       exact s _
      ·exact b.ss j i u c B n m
     ·exact b.st j u n I hu
    ·exact List.pairwise_cons.mpr ⟨fun u hu=>⟨s _,(b.st i c m u hu).2⟩,b.tt⟩
    ·rcases zU.mp hu with h | hu
     ·rw [h] at hf;exact absurd hz hf
     ·exact b.fx.frT u hu hf a F
   ·rw [A.2.1]
    rw [h] at t;cases t;rfl
theorem Wf.store {i:Nat} (w:Wf K G H σ ρ (x :: T) g) (hi:i < ρ.length) (L:G.pr i=false) (hf:f=x.f\/f=.z) (A:f ≠ .l) :
  Wf K G H (σ.set i (some x.v)) (ρ.set i (some (x.d,f))) T (fun j=>if j=i then some { x with f:=f } else g j):=by
 have r:i < σ.length:=by rw [w.len];exact hi
 have y:=List.pairwise_cons.mp w.tt
 have B:=w.okT x zO
 have nx:∀ u:It3,NoRoot x u->NoRoot { x with f:=f } u:=fun u h q=>by
  rcases hf with e | e
  ·exact h (by rw [<- e];exact q)
  ·exact absurd e q
 have val:∀ j u,(if j=i then some { x with f:=f } else g j)=some u->(j=i/\u = { x with f:=f })\/(j ≠ i/\g j=some u):=fun j u h=>by
  by_cases q:j=i
  ·rw [if_pos q] at h;cases h;exact .inl ⟨q,rfl⟩
  ·rw [if_neg q] at h;exact .inr ⟨q,h⟩
 refine ⟨by rw [List.length_set,List.length_set];exact w.len,fun j=>?_,fun j u h=>?_,fun j u h=>?_,fun u hu=>w.okT u (zP _ hu),fun j k a b n h1 h2=>?_,fun j a h b t=>?_,y.2,w.base,fun j s=>?_,⟨fun u hu=>w.fx.frT u (zP _ hu),fun j u h C c a p=>?_,w.fx.bin,w.fx.ob,fun j u h D=>?_⟩⟩
 ·rw [bB hi]
  by_cases q:j=i
  ·rw [if_pos q,if_pos q];rfl
  ·rw [if_neg q,if_neg q];exact w.sl j
 ·rcases val j u h with ⟨rfl,rfl⟩ | ⟨n,h⟩
  ·rw [List.getElem?_set_self r]
  ·rw [List.getElem?_set_ne (fun z=>n z.symm)];exact w.sv j u h
 ·rcases val j u h with ⟨rfl,rfl⟩ | ⟨n,h⟩
  ·refine ⟨B.rep,fun q=>?_,B.src⟩
   rcases hf with e | e
   ·subst e
    exact B.own q
   ·exact absurd e q
  ·exact w.okS j u h
 ·rcases val j a h1 with ⟨I,p⟩ | ⟨M,o⟩
  ·rcases val k b h2 with ⟨F,E⟩ | ⟨J,m⟩
   ·exact absurd (I.trans F.symm) n
   ·rw [p];exact nx b (w.st k b m x zO).2
  ·rcases val k b h2 with ⟨F,E⟩ | ⟨J,m⟩
   ·rw [E];exact (w.st j a o x zO).1
   ·exact w.ss j k a b n o m
 ·rcases val j a h with ⟨rfl,rfl⟩ | ⟨n,h⟩
  ·exact ⟨nx b (y.1 b t).1,(y.1 b t).2⟩
  ·exact w.st j a h b (zP _ t)
 ·have n:j ≠ i:=fun z=>by subst z;rw [L] at s;cases s
  rw [List.getElem?_set_ne (fun z=>n z.symm)];exact w.pro j s
 ·rcases val j u h with ⟨_,rfl⟩ | ⟨n,h⟩
  ·rcases hf with e | e
   ·exact w.fx.frT x zO (by rw [<- e];exact c) a p
   ·exact absurd e c
  ·exact w.fx.frS j u h C c a p
 ·rcases val j u h with ⟨_,rfl⟩ | ⟨n,h⟩
  ·exact absurd D A
  ·exact w.fx.lvS j u h D
def aB (i:Nat) (m:EM):SM:=ac m fun r=>ac (dI r) fun p=>fun ρ=>if i < ρ.length then some (.ok .nx,ρ.set i (some p)) else none
theorem xu {i:Nat} (c:G0.pr i=false) (h:tS K G0 W0 (aB i m) E σ H):rJ (tE K G0 W0 m) (pI i) E σ H:=by
 refine h.use fun G W le ρ T g r ρ' w e q=>?_
 refine tE.seq le w e q.err fun ra ρ1 e1 v H1 ⟨Ts,g1,b,a1⟩=>?_
 obtain ⟨p,ρ2,g2,x,a,j,f1,f2,f4,d⟩:=a1.take b e1
 split at a
 ·rename_i hi
  cases a
  have:=j.store (f:=p.2) hi (by rw [le.pr];exact c) f2 f4
  rw [f1,d] at this
  exact q _ _ _ this
 ·exact nsE a
def bj (np:Nat) (m:EM):SM:=ac m fun r=>match r with
 | .val d f=>aW (.rt d f)
 | .pl i=>fun ρ=>match (ρ[i]?).join with
  | some (d,.u)=>if i < np then some (.ok (.rt d .z),lowAt i ρ) else some (.ok (.rt d .u),ρ.set i none)
  | some (d,_)=>some (.ok (.rt d .z),lowAt i ρ)
  | none=>none
theorem Wf.move {i:Nat} (w:Wf K G H σ ρ T g) (f:G.pr i=false) (e:g i=some y):Wf K G H σ (ρ.set i none) (y :: T) (fun j=>if j=i then none else g j):=by
 have hi:i < ρ.length:=by
  have:=w.sl i
  rw [e] at this
  exact cW this.symm
 have val:∀ j u,(if j=i then none else g j)=some u->j ≠ i/\g j=some u:=fun j u h=>by
  by_cases q:j=i
  ·rw [if_pos q] at h;exact nsE h
  ·rw [if_neg q] at h;exact ⟨q,h⟩
 refine ⟨by rw [List.length_set];exact w.len,fun j=>?_,fun j u h=>w.sv j u (val j u h).2,fun j u h=>w.okS j u (val j u h).2,fun u hu=>?_,fun j k a b n h1 h2=>w.ss j k a b n (val j a h1).2 (val k b h2).2,fun j a h b c=>?_,?_,w.base,w.pro,⟨fun u hu hf a d=>?_,fun j u h=>w.fx.frS j u (val j u h).2,w.fx.bin,w.fx.ob,fun j u h=>w.fx.lvS j u (val j u h).2⟩⟩
 ·rw [bB hi]
  by_cases q:j=i
  ·rw [if_pos q,if_pos q];rfl
  ·rw [if_neg q,if_neg q];exact w.sl j
 ·rcases zU.mp hu with h | hu
  ·rw [h];exact w.okS i y e
  ·exact w.okT u hu
 ·obtain ⟨n,h⟩:=val j a h
  rcases zU.mp c with h' | c
  ·rw [h'];exact ⟨w.ss j i a y n h e,w.ss i j y a (Ne.symm n) e h⟩
  ·exact w.st j a h b c
 ·exact List.pairwise_cons.mpr ⟨fun u hu=>w.st i y e u hu,w.tt⟩
 ·rcases zU.mp hu with h | hu
  ·subst h;exact w.fx.frS i u e f hf a d
  ·exact w.fx.frT u hu hf a d
theorem xw {np:Nat} (n:∀ i,np<=i->G0.pr i=false) (h:tS K G0 W0 (bj np m) E σ H):tRet (tE K G0 W0 m) E σ H:=by
 refine h.use fun G W le ρ T g r ρ' w e q=>?_
 refine tE.seq le w e q.err fun ra ρ1 e1 v H1 ⟨Ts,g1,j,a1⟩=>?_
 have low:∀ {i:Nat} {d:D} {f:Fl},(ρ1[i]?).join=some (d,f)->some ((.ok (.rt d .z),lowAt i ρ1):Except D Flw × Sto)=some (r,ρ')->Ar σ (.pl i) v Ts->E.rt v H1:=fun {i d f} b J a=>by
  cases J
  have L:ac (dI (.pl i)) (fun p=>aW (Flw.rt p.1 p.2)) ρ1=some (.ok (.rt d .z),L3.lowAt i ρ1):=by
   unfold ac
   rw [lS,b]
   rfl
  obtain ⟨p,ρ2,g2,x,k,s,f1,f2,_,C⟩:=a.take j L
  have c:Flw.rt p.1 p.2=Flw.rt d .z/\ρ2=L3.lowAt i ρ1:=by
   unfold aW at k
   injection k with k
   injection k with c o
   injection c with c
   exact ⟨c,o⟩
  obtain ⟨c,o⟩:=c
  injection c with e7 e8
  subst o
  rw [<- C]
  have F:=Wf.lowT (Ts:=[x]) s
  exact q (cK x) σ H1 g2 F (f1.trans e7) rfl
 cases a1 with
 | val x=>cases e1;exact q x σ H1 g1 j rfl rfl
 | @pl i v h =>
  dsimp only at e1
  cases b:(ρ1[i]?).join with
  | none=>rw [b] at e1;exact nsE e1
  | some p =>
   obtain ⟨d,f⟩:=p
   rw [b] at e1
   cases f with
   | u =>
    dsimp only at e1
    split at e1
    ·exact low b e1 (.pl h)
    ·cases e1
     obtain ⟨y,I,A,B,t⟩:=j.slot b
     have s:=Wf.move j (by rw [le.pr];exact n i (by omega)) I
     have:=q y σ H1 _ s A B
     rw [h] at t
     cases t
     exact this
   | l=>exact low b e1 (.pl h)
   | z=>exact low b e1 (.pl h)
def bL (c:M3 Bool) (b:SM):Nat->SM
 | 0=>fun _=>none
 | n+1=>ac c fun t=>if t then ac b (fun f=>match f with
   | .nx=>bL c b n
   | .ct=>bL c b n
   | .br=>aW .nx
   | .rt d f=>aW (.rt d f)) else aW .nx
def c7 (c:M3 Bool) (b:SM):SM:=fun ρ=>open Classical in if h:∃ n r,bL c b n ρ=some r then some (Classical.choose (Classical.choose_spec h)) else none
theorem eP:∀ {n:Nat} {ρ:Sto} {r:Except D Flw × Sto},bL c b n ρ=some r->bL c b (n+1) ρ=some r
 | 0,ρ,r,e=>by cases e
 | n+1,ρ,r,e=>by
  unfold bL at e ⊢
  unfold ac at e ⊢
  cases h:c ρ with
  | none=>rw [h] at e;exact nsE e
  | some p =>
   obtain ⟨o,ρ1⟩:=p
   rw [h] at e
   cases o with
   | error x=>exact e
   | ok t =>
    cases t with
    | false=>exact e
    | true =>
     simp only [if_true] at e ⊢
     cases h2:b ρ1 with
     | none=>rw [h2] at e;exact nsE e
     | some p2 =>
      obtain ⟨a,ρ2⟩:=p2
      rw [h2] at e
      cases a with
      | error x=>exact e
      | ok f =>
       cases f with
       | nx=>exact eP (n:=n) e
       | ct=>exact eP (n:=n) e
       | br=>exact e
       | rt d f=>exact e
theorem ig {n m:Nat} (h:n<=m) (e:bL c b n ρ=some r):bL c b m ρ=some r:=by
 induction h with
 | refl=>exact e
 | step _ ih=>exact eP ih
theorem lW (e:c7 c b ρ=some r):∃ n,bL c b n ρ=some r:=by
 unfold c7 at e
 split at e
 ·rename_i h
  have a:=Classical.choose_spec (Classical.choose_spec h)
  injection e with e
  exact ⟨Classical.choose h,by rw [<- e];exact a⟩
 ·exact nsE e
theorem rE (h:tS K G0 W0 (c7 c b) E σ H):rD (tT K G0 W0 c) (tS K G0 W0 b) E σ H:=by
 refine h.use fun G W le ρ T g r ρ' w e q=>?_
 obtain ⟨n,e⟩:=lW e
 refine ⟨fun m σ H=>∃ ρ g,Wf K G H σ ρ T g/\bL c b m ρ=some (r,ρ'),⟨n,ρ,g,w,e⟩,?_⟩
 rintro m σ1 H1 ⟨ρ1,g1,k,e1⟩
 cases m with
 | zero=>exact nsE e1
 | succ m =>
  unfold bL at e1
  refine tT.seq le k e1 q.err fun t ρ2 a H2 g2 i=>?_
  cases t with
  | false=>cases a;exact q _ _ _ i
  | true =>
   refine ⟨fun σ H=>∃ ρ g,Wf K G H σ ρ T g/\bL c b m ρ=some (r,ρ'),fun σ' H' h=>⟨m,Nat.lt_succ_self m,h⟩,?_⟩
   simp only [if_true] at a
   unfold ac at a
   cases p:b ρ2 with
   | none=>rw [p] at a;exact nsE a
   | some p2 =>
    obtain ⟨o,ρ3⟩:=p2
    rw [p] at a
    cases o with
    | error x=>cases a;exact tS.mk le i p q
    | ok f =>
     cases f with
     | nx=>exact tS.mk le (r:=.ok .nx) i p fun σ' H' g' j=>⟨ρ3,g',j,a⟩
     | ct=>exact tS.mk le (r:=.ok .ct) i p fun σ' H' g' j=>⟨ρ3,g',j,a⟩
     | br=>cases a;exact tS.mk le (r:=.ok .br) i p q
     | rt d f=>cases a;exact tS.mk le (r:=.ok (.rt d f)) i p q
end
end L3
end
section
namespace L3
open PySem L2
abbrev Fn:=List (D × Fl)->Option (Except D (D × Fl) × List (D × Fl))
def prs (ρ:Sto):List R3->Option (List (D × Fl))
 | []=>some []
 | .pl i :: rs=>match (ρ[i]?).join,prs ρ rs with
  | some p,some ps=>some (p :: ps)
  | _,_=>none
 | .val d f :: rs=>match prs ρ rs with
  | some ps=>some ((d,f) :: ps)
  | _=>none
def mS (rs:List R3):List Nat:=(pls rs).filter fun i=>decide (2<=(pls rs).count i)
def back:List R3->List (D × Fl)->List (D × Fl)->Sto->Sto
 | .pl i :: rs,p :: ps,q :: qs,ρ=>back rs ps qs (if p.2=.z then ρ else ρ.set i (some (q.1,if q.2=.z then .z else p.2)))
 | .val _ _ :: rs,_ :: ps,_ :: qs,ρ=>back rs ps qs ρ
 | _,_,_,ρ=>ρ
section
variable {K:FG} {G G0:Gm} {W W0:D->Sto->Prop} {H H':Hp} {σ:St} {ρ ρ':Sto} {T T':List It3} {g:Nat->Option It3} {x y z:It3} {α β:Type}
structure Back1 (K:FG) (H H':Hp) (ps:List It3) (p q:It3):Prop where
 z:p.f=.z->q=p
 v:q.v=p.v
 f:q.f=p.f\/q.f=.z
 arg:Arg K H' q
 src:∀ c ∈ q.L,H c=none\/cO ps c
 there:p.f=.u->∀ b,p.v=.ref b->∃ o,H' b=some o
structure BehindX (K:FG) (H H':Hp) (ps qs:List It3):Prop where
 frame:∀ b o,H b=some o->(∀ p ∈ ps,p.f=.u->p.v ≠ .ref b)->H' b=some o
 back:Paired (Back1 K H H' ps) ps qs
 apart:qs.Pairwise Apart3
structure Behind (K:FG) (H H':Hp) (ps qs:List It3) (x:It3):Prop extends BehindX K H H' ps qs where
 rep:Rep K H' x.d x.v x.L
 own:x.f ≠ .z->gw x.d=true/\∃ a L',x.v=.ref a/\x.L=a :: L'/\a ∉ L'/\H a=none
 src:∀ c ∈ x.L,H c=none\/cO ps c
 apx:∀ q ∈ qs,Apart3 x q
theorem Ars.args:∀ {rs:List R3} {vs:List V} {Ts T:List It3} {c:List (D × Fl)},Ars σ rs vs Ts->Wf K G H σ ρ (Ts ++ T) g->(∀ i,2<=(pls rs).count i->∀ y,g i=some y->y.f=.z)->prs ρ rs=some c ->
  ∃ ps:List It3,ps.map (fun p=>(p.d,p.f))=c/\ps.map (·.v)=vs/\ps.Pairwise Apart3/\(∀ p ∈ ps,(∃ i,R3.pl i ∈ rs/\g i=some p)\/p ∈ Ts)/\Paired (fun r p=>match r with | .pl i=>g i=some p | .val _ _=>p ∈ Ts) rs ps
 | [],_,_,T,c,.nil,w,_,e=>by cases e;exact ⟨[],rfl,rfl,.nil,fun _ h=>(by cases h),.nil⟩
 | r :: rs,_,_,T,c,.cons (v:=v0) (Ts:=T0) (Us:=U0) a as,w,hd,e=>by
  have E:Wf K G H σ ρ (U0 ++ (T0 ++ T)) g:=by rw [<- List.append_assoc];exact w
  have o:∀ i,2<=(pls rs).count i->∀ y,g i=some y->y.f=.z:=fun i s=>hd i (by
   cases r with
   | pl j=>show 2<=(j :: pls rs).count i;rw [List.count_cons];omega
   | val _ _=>exact s)
  cases a with
  | @pl i v h =>
   unfold prs at e
   cases q:(ρ[i]?).join with
   | none=>rw [q] at e;exact nsE e
   | some p0 =>
    cases l:prs ρ rs with
    | none=>rw [q,l] at e;exact nsE e
    | some pfs' =>
     rw [q,l] at e
     cases e
     obtain ⟨ps,f1,f2,u,f4,t⟩:=Ars.args as E o l
     obtain ⟨y,n,F,I,C⟩:=w.slot (d:=p0.1) (f:=p0.2) q
     have J:y.v=v0:=by rw [h] at C;cases C;rfl
     refine ⟨y :: ps,by rw [Ad,f1,F,I],by rw [Ad,f2,J],List.pairwise_cons.mpr ⟨fun p b=>?_,u⟩,fun p b=>?_,.cons n ?_⟩
     ·rcases f4 p b with ⟨j,m,k⟩ | b
      ·by_cases B:i=j
       ·subst B
        have s:2<=(pls (R3.pl i :: rs)).count i:=by
         show 2<=(i :: pls rs).count i
         rw [List.count_cons_self]
         have:=List.count_pos_iff.mpr (jf m)
         omega
        have hz:=hd i s y n
        have A:=hd i s p k
        exact ⟨fun q=>absurd hz q,fun q=>absurd A q⟩
       ·exact ⟨w.ss i j y p B n k,w.ss j i p y (Ne.symm B) k n⟩
      ·exact w.st i y n p (zS _ (zS _ b))
     ·rcases zU.mp b with h' | b
      ·rw [h'];exact .inl ⟨i,zO,n⟩
      ·rcases f4 p b with ⟨j,m,k⟩ | b
       ·exact .inl ⟨j,zP _ m,k⟩
       ·exact .inr (zS _ b)
     ·exact Paired.mapP t fun r p h=>by
       cases r with
       | pl j=>exact h
       | val _ _=>exact zS _ h
  | val x =>
   unfold prs at e
   cases l:prs ρ rs with
   | none=>rw [l] at e;exact nsE e
   | some pfs' =>
    rw [l] at e
    cases e
    obtain ⟨ps,f1,f2,u,f4,t⟩:=Ars.args as E o l
    refine ⟨x :: ps,by rw [Ad,f1],by rw [Ad,f2],List.pairwise_cons.mpr ⟨fun p b=>?_,u⟩,fun p b=>?_,.cons (zT _ zO) ?_⟩
    ·rcases f4 p b with ⟨j,m,k⟩ | b
     ·exact (w.st j p k x (zS _ (zT _ zO))).symm
     ·have t1:=(List.pairwise_append.mp w.tt).1
      exact ((List.pairwise_append.mp t1).2.2 p b x zO).symm
    ·rcases zU.mp b with h' | b
     ·rw [h'];exact .inr (zT _ zO)
     ·rcases f4 p b with ⟨j,m,k⟩ | b
      ·exact .inl ⟨j,zP _ m,k⟩
      ·exact .inr (zS _ b)
    ·exact Paired.mapP t fun r p h=>by
      cases r with
      | pl j=>exact h
      | val _ _=>exact zS _ h
theorem eF:∀ {rs:List R3} {ps qs:List It3} {ρ:Sto} {g:Nat->Option It3},(∀ j,(g j).map (fun x=>(x.d,x.f))=(ρ[j]?).join)->rs.length=ps.length->Paired (Back1 K H H' T) ps qs->(∀ i,R3.pl i ∈ rs->i < ρ.length) ->
  ∃ g':Nat->Option It3,(∀ j,(g' j).map (fun x=>(x.d,x.f))=((back rs (ps.map fun p=>(p.d,p.f)) (qs.map fun q=>(q.d,q.f)) ρ)[j]?).join)/\(back rs (ps.map fun p=>(p.d,p.f)) (qs.map fun q=>(q.d,q.f)) ρ).length = ρ.length /\
   ∀ j:Nat,(g' j=g j/\∀ (k:Nat) (p:It3),rs[k]?=some (R3.pl j)->ps[k]?=some p->p.f=.z)\/∃ (k:Nat) (p q:It3),rs[k]?=some (R3.pl j)/\ps[k]?=some p/\qs[k]?=some q/\p.f ≠ .z/\g' j=some q
 | [],[],_,ρ,g,hg,_,.nil,_=>⟨g,hg,rfl,fun j=>.inl ⟨rfl,fun k p h=>by simp at h⟩⟩
 | [],_ :: _,_,_,_,_,h,_,_=>by cases h
 | _ :: _,[],_,_,_,_,h,_,_=>by cases h
 | .val d f :: rs,p :: ps,_,ρ,g,hg,hl,.cons (b:=q) (l₂:=qs) b1 bs,hi=>by
  obtain ⟨g',h1,h2,h3⟩:=eF (rs:=rs) hg (by simpa using hl) bs fun i h=>hi i (zP _ h)
  refine ⟨g',h1,h2,fun j=>?_⟩
  rcases h3 j with ⟨e,h⟩ | ⟨k,a,l,a1,a2,n,m⟩
  ·refine .inl ⟨e,fun k a e1 c=>?_⟩
   cases k with
   | zero=>simp at e1
   | succ k=>exact h k a (by simpa using e1) (by simpa using c)
  ·exact .inr ⟨k+1,a,l,by simpa using a1,by simpa using a2,by simpa using n,m⟩
 | .pl i :: rs,p :: ps,_,ρ,g,hg,hl,.cons (b:=q) (l₂:=qs) b1 bs,hi=>by
  have r:=hi i zO
  by_cases hz:p.f=.z
  ·have s:back (.pl i :: rs) ((p :: ps).map fun p=>(p.d,p.f)) ((q :: qs).map fun q=>(q.d,q.f)) ρ=back rs (ps.map fun p=>(p.d,p.f)) (qs.map fun q=>(q.d,q.f)) ρ:=by
    show back rs _ _ (if p.f=.z then ρ else _)=_
    rw [if_pos hz]
   rw [s]
   obtain ⟨g',h1,h2,h3⟩:=eF (rs:=rs) hg (by simpa using hl) bs fun i h=>hi i (zP _ h)
   refine ⟨g',h1,h2,fun j=>?_⟩
   rcases h3 j with ⟨e,h⟩ | ⟨k,a,l,a1,a2,n,m⟩
   ·refine .inl ⟨e,fun k a e1 c=>?_⟩
    cases k with
    | zero=>simp at c;rw [<- c];exact hz
    | succ k=>exact h k a (by simpa using e1) (by simpa using c)
   ·exact .inr ⟨k+1,a,l,by simpa using a1,by simpa using a2,by simpa using n,m⟩
  ·have s:back (.pl i :: rs) ((p :: ps).map fun p=>(p.d,p.f)) ((q :: qs).map fun q=>(q.d,q.f)) ρ=back rs (ps.map fun p=>(p.d,p.f)) (qs.map fun q=>(q.d,q.f)) (ρ.set i (some (q.d,q.f))):=by
    show back rs _ _ (if p.f=.z then ρ else ρ.set i (some (q.d,if q.f=.z then .z else p.f)))=_
    rw [if_neg hz]
    have:(if q.f=.z then Fl.z else p.f)=q.f:=by
     by_cases h:q.f=.z
     ·rw [if_pos h,h]
     ·rw [if_neg h]
      rcases b1.f with h' | h'
      ·exact h'.symm
      ·exact absurd h' h
    rw [this]
   rw [s]
   obtain ⟨g',h1,h2,h3⟩:=eF (rs:=rs) (ρ:=ρ.set i (some (q.d,q.f))) (g:=fun j=>if j=i then some q else g j) (fun j=>by
    rw [bB r]
    by_cases e:j=i
    ·rw [if_pos e,if_pos e];rfl
    ·rw [if_neg e,if_neg e];exact hg j) (by simpa using hl) bs fun i h=>by rw [List.length_set];exact hi i (zP _ h)
   refine ⟨g',h1,by rw [h2,List.length_set],fun j=>?_⟩
   rcases h3 j with ⟨e,h⟩ | ⟨k,a,l,a1,a2,n,m⟩
   ·by_cases o:j=i
    ·rw [if_pos o] at e
     exact .inr ⟨0,p,q,by simp [o],rfl,rfl,hz,e⟩
    ·rw [if_neg o] at e
     refine .inl ⟨e,fun k a e1 c=>?_⟩
     cases k with
     | zero=>simp at e1;exact absurd e1.symm o
     | succ k=>exact h k a (by simpa using e1) (by simpa using c)
   ·exact .inr ⟨k+1,a,l,by simpa using a1,by simpa using a2,by simpa using n,m⟩
theorem kY:∀ {rs:List R3} {a:List (D × Fl)},prs ρ rs=some a->rs.length=a.length
 | [],a,e=>by cases e;rfl
 | .pl i :: rs,a,e=>by
  unfold prs at e
  cases q:(ρ[i]?).join with
  | none=>rw [q] at e;exact nsE e
  | some p =>
   cases b:prs ρ rs with
   | none=>rw [q,b] at e;exact nsE e
   | some ps=>rw [q,b] at e;cases e;rw [Ak,Ak,kY b]
 | .val d f :: rs,a,e=>by
  unfold prs at e
  cases b:prs ρ rs with
  | none=>rw [b] at e;exact nsE e
  | some ps=>rw [b] at e;cases e;rw [Ak,Ak,kY b]
theorem nY:∀ {rs:List R3} {a:List (D × Fl)},prs ρ rs=some a->∀ i,R3.pl i ∈ rs->i < ρ.length
 | [],a,e,i,h=>by cases h
 | .pl i :: rs,a,e,j,h=>by
  unfold prs at e
  cases q:(ρ[i]?).join with
  | none=>rw [q] at e;exact nsE e
  | some p =>
   cases b:prs ρ rs with
   | none=>rw [q,b] at e;exact nsE e
   | some ps =>
    rcases zU.mp h with h | h
    ·cases h;exact cW q
    ·exact nY b j h
 | .val d f :: rs,a,e,j,h=>by
  unfold prs at e
  cases b:prs ρ rs with
  | none=>rw [b] at e;exact nsE e
  | some ps =>
   rcases zU.mp h with h | h
   ·cases h
   ·exact nY b j h
theorem Paired.at:∀ {l:List α} {m:List β} {k:Nat} {a:α} {b:β},Paired F l m->l[k]?=some a->m[k]?=some b->F a b
 | _,_,_,_,_,.nil,h,_=>by simp at h
 | _,_,0,_,_,.cons r _,h,h'=>by simp at h h';subst h h';exact r
 | _,_,k+1,_,_,.cons _ t,h,h'=>Paired.at (k:=k) t (by simpa using h) (by simpa using h')
theorem Paired.exL:∀ {l:List α} {m:List β} {k:Nat} {a:α},Paired F l m->l[k]?=some a->∃ b,m[k]?=some b/\F a b
 | _,_,_,_,.nil,h=>by simp at h
 | _,_,0,_,.cons r _,h=>by simp at h;subst h;exact ⟨_,rfl,r⟩
 | _,_,k+1,_,.cons _ t,h=>let ⟨b,h1,h2⟩:=Paired.exL (k:=k) t (by simpa using h);⟨b,by simpa using h1,h2⟩
theorem Paired.exR:∀ {l:List α} {m:List β} {k:Nat} {b:β},Paired F l m->m[k]?=some b->∃ a,l[k]?=some a/\F a b
 | _,_,_,_,.nil,h=>by simp at h
 | _,_,0,_,.cons r _,h=>by simp at h;subst h;exact ⟨_,rfl,r⟩
 | _,_,k+1,_,.cons _ t,h=>let ⟨b,h1,h2⟩:=Paired.exR (k:=k) t (by simpa using h);⟨b,by simpa using h1,h2⟩
theorem cC {R:α->α->Prop} {l:List α} (p:l.Pairwise R) (d:∀ a b,R a b->R b a) {i j:Nat} {a b:α} (n:i ≠ j) (e:l[i]?=some a) (f:l[j]?=some b):R a b:=by
 obtain ⟨h1,e1⟩:=z4.mp e
 obtain ⟨h2,c⟩:=z4.mp f
 have q:=List.pairwise_iff_getElem.mp p
 rcases Nat.lt_or_ge i j with h | h
 ·rw [<- e1,<- c];exact q i j h1 h2 h
 ·rw [<- e1,<- c];exact d _ _ (q j i h2 h1 (by omega))
theorem Wf.after (w:Wf K G H σ ρ (Ts ++ T) g) (e:prs ρ rs=some pfs) (f1:ps.map (fun p=>(p.d,p.f))=pfs) (f4:∀ p ∈ ps,(∃ i,R3.pl i ∈ rs/\g i=some p)\/p ∈ Ts) (f5:Paired (fun r p=>match r with | .pl i=>g i=some p | .val _ _=>p ∈ Ts) rs ps) (B:BehindX K H H' ps qs) :
  ∃ g',Wf K G H' σ (L3.back rs pfs (qs.map fun q=>(q.d,q.f)) ρ) T g' /\
   ∀ x,Rep K H' x.d x.v x.L->(x.f ≠ .z->gw x.d=true/\∃ a L',x.v=.ref a/\x.L=a :: L'/\a ∉ L'/\H a=none)->(∀ c ∈ x.L,H c=none\/cO ps c)->(∀ q ∈ qs,Apart3 x q)->Wf K G H' σ (L3.back rs pfs (qs.map fun q=>(q.d,q.f)) ρ) (x :: T) g':=by
 subst f1
 have V:rs.length=ps.length:=by have:=kY e;rwa [zZ] at this
 obtain ⟨g',h1,h2,h3⟩:=eF (K:=K) (H:=H) (H':=H') (T:=ps) (rs:=rs) (ps:=ps) (qs:=qs) w.sl V B.back (nY e)
 have F:∀ p ∈ ps,Itm (Ts ++ T) g p:=fun p l=>by
  rcases f4 p l with ⟨i,_,Q⟩ | h
  ·exact .inl ⟨i,Q⟩
  ·exact .inr (zS _ h)
 have ar:∀ b o,H b=some o->∃ o',H' b=some o':=fun b o U=>by
  by_cases h:∀ p ∈ ps,p.f=.u->p.v ≠ .ref b
  ·exact ⟨o,B.frame b o U h⟩
  ·have h':∃ p,p ∈ ps/\p.f=.u/\p.v=.ref b:=by
    refine Classical.byContradiction fun n=>h fun p l hf J=>n ⟨p,l,hf,J⟩
   obtain ⟨p,l,hf,J⟩:=h'
   obtain ⟨k,hk,ek⟩:=List.mem_iff_getElem.mp l
   obtain ⟨q,e1,b1⟩:=Paired.exL B.back (show ps[k]?=some p by rw [zV hk,ek])
   exact b1.there hf b J
 have ka:∀ j z,g j=some z->(∀ (k:Nat) (p:It3),rs[k]?=some (R3.pl j)->ps[k]?=some p->p.f=.z)->∀ p ∈ ps,Apart3 p z:=fun j z ej hu p l=>by
  rcases f4 p l with ⟨i,hi,Q⟩ | h
  ·by_cases ij:i=j
   ·subst ij
    have a4:p=z:=AC (Q.symm.trans ej)
    subst a4
    have hz:p.f=.z:=by
     obtain ⟨k,hk,ek⟩:=List.mem_iff_getElem.mp hi
     have Y:rs[k]?=some (R3.pl i):=by rw [zV hk,ek]
     obtain ⟨C,e1,D⟩:=Paired.exL f5 Y
     have D:g i=some C:=D
     rw [Q] at D
     cases D
     exact hu k p Y e1
    exact ⟨fun q=>absurd hz q,fun q=>absurd hz q⟩
   ·exact ⟨w.ss i j p z ij Q ej,w.ss j i z p (Ne.symm ij) ej Q⟩
  ·exact (w.st j z ej p (zS _ h)).symm
 have kt:∀ z ∈ T,∀ p ∈ ps,Apart3 p z:=fun z hz p l=>by
  rcases f4 p l with ⟨i,hi,Q⟩ | h
  ·exact w.st i p Q z (zT _ hz)
  ·exact (List.pairwise_append.mp w.tt).2.2 p h z hz
 have keep:∀ z,ItOk K G H z->(∀ p ∈ ps,Apart3 p z)->ItOk K G H' z:=fun z P W=>by
  refine P.keep (M:=fun b=>∃ p ∈ ps,p.f=.u/\p.v=.ref b) (fun b o U n=>B.frame b o U fun p l hf J=>n ⟨p,l,hf,J⟩) (fun b ⟨p,l,hf,J⟩=>?_) (fun b U ⟨p,l,hf,J⟩=>?_)
  ·obtain ⟨_,a,L',e1,D,_⟩:=(w.itm (F p l)).own (by rw [hf];intro q;cases q)
   rw [J] at e1
   cases e1
   exact (w.itm (F p l)).rep.inH b (by rw [D];exact zO)
  ·exact (W p l).1 (by rw [hf];intro q;cases q) b J U
 have a0:∀ k p q,ps[k]?=some p->qs[k]?=some q->ItOk K G H' q:=fun k p q e1 D=>by
  have b:=Paired.at B.back e1 D
  refine ⟨b.arg.rep,fun hf=>?_,fun c R=>?_⟩
  ·obtain ⟨m,a,L',v1,v2,v3⟩:=b.arg.own hf
   refine ⟨m,a,L',v1,v2,v3,fun hu=>?_⟩
   have pf:p.f=.u:=by
    rcases b.f with h | h
    ·rw [<- h];exact hu
    ·rw [h] at hu;cases hu
   obtain ⟨_,a',a6,e3,_,_,e5⟩:=(w.itm (F p (z5 e1))).own (by rw [pf];intro q;cases q)
   rw [<- b.v,v1] at e3
   cases e3
   exact e5 pf
  ·rcases b.src c R with h | ⟨C,A,h⟩
   ·exact .inl (w.h0none h)
   ·exact (w.itm (F C A)).src c h
 have kq:∀ z,ItOk K G H z->(∀ p ∈ ps,Apart3 p z)->∀ k p q,ps[k]?=some p->qs[k]?=some q->Apart3 z q:=fun z P W k p q e1 D=>by
  have b:=Paired.at B.back e1 D
  refine ⟨fun hf a ev hm=>?_,fun hf a ev=>?_⟩
  ·rcases b.src a hm with h | ⟨C,A,R⟩
   ·obtain ⟨_,a',L',s,O,_⟩:=P.own hf
    rw [ev] at s;cases s
    obtain ⟨o,I⟩:=(P.rep.inH a (by rw [O];exact zO)).ex
    rw [h] at I;exact nsE I
   ·exact (W C A).2 hf a ev R
  ·have pf:p.f ≠ .z:=fun Z=>by
    have:=b.z Z
    rw [this] at hf
    exact hf Z
   exact (W p (z5 e1)).1 pf a (by rw [<- b.v];exact ev)
 have old:∀ j z,g' j=some z->(g j=some z/\∀ p ∈ ps,Apart3 p z)\/∃ k p,rs[k]?=some (R3.pl j)/\ps[k]?=some p/\qs[k]?=some z:=fun j z E=>by
  rcases h3 j with ⟨e1,hu⟩ | ⟨k,p,q,a1,a2,y,_,a5⟩
  ·rw [e1] at E
   exact .inl ⟨E,ka j z E hu⟩
  ·rw [a5] at E
   cases E
   exact .inr ⟨k,p,a1,a2,y⟩
 have wf:Wf K G H' σ (L3.back rs (ps.map fun p=>(p.d,p.f)) (qs.map fun q=>(q.d,q.f)) ρ) T g':=by
  refine ⟨by rw [h2];exact w.len,h1,fun j z E=>?_,fun j z E=>?_,fun z hz=>keep z (w.okT z (zT _ hz)) (kt z hz),fun i j a b n S eb=>?_,fun j z E t N=>?_,(List.pairwise_append.mp w.tt).2.1,fun b o e n=>?_,w.pro,⟨fun u hu=>w.fx.frT u (zT _ hu),fun j u h l hf a S=>?_,fun b U=>?_,fun b o h=>?_,fun j u h V=>?_⟩⟩
  ·rcases old j z E with ⟨e1,_⟩ | ⟨k,p,a1,a2,y⟩
   ·exact w.sv j z e1
   ·have X:g j=some p:=by
     obtain ⟨C,s,O⟩:=Paired.exL f5 a1
     rw [a2] at s;cases s
     exact O
    rw [(Paired.at B.back a2 y).v]
    exact w.sv j p X
  ·rcases old j z E with ⟨e1,ap⟩ | ⟨k,p,a1,a2,y⟩
   ·exact keep z (w.okS j z e1) ap
   ·exact a0 k p z a2 y
  ·rcases old i a S with ⟨e1,ap⟩ | ⟨k,p,a1,a2,y⟩
   ·rcases old j b eb with ⟨D,_⟩ | ⟨k',C,b1,b2,b3⟩
    ·exact w.ss i j a b n e1 D
    ·exact (kq a (w.okS i a e1) ap k' C b b2 b3).1
   ·rcases old j b eb with ⟨D,ap⟩ | ⟨k',C,b1,b2,b3⟩
    ·exact (kq b (w.okS j b D) ap k p a a2 y).2
    ·have kk:k ≠ k':=fun z=>by
      subst z
      rw [a1] at b1
      cases b1
      exact n rfl
     exact (cC B.apart (fun _ _=>Apart3.symm) kk y b3).1
  ·rcases old j z E with ⟨e1,ap⟩ | ⟨k,p,a1,a2,y⟩
   ·exact w.st j z e1 t (zT _ N)
   ·exact (kq t (w.okT t (zT _ N)) (kt t N) k p z a2 y).symm
  ·refine B.frame b o (w.base b o e n) fun p l hf J=>?_
   obtain ⟨_,a,L',e1,_,_,e3⟩:=(w.itm (F p l)).own (by rw [hf];intro q;cases q)
   rw [J] at e1
   cases e1
   rcases e3 hf with h | h
   ·rw [e] at h;cases h
   ·exact n h
  ·rcases old j u h with ⟨e1,_⟩ | ⟨k,p,a1,a2,y⟩
   ·exact w.fx.frS j u e1 l hf a S
   ·have b:=Paired.at B.back a2 y
    have X:g j=some p:=by
     obtain ⟨C,s,O⟩:=Paired.exL f5 a1
     rw [a2] at s;cases s
     exact O
    refine w.fx.frS j p X l (fun Z=>?_) a (by rw [<- b.v];exact S)
    have:=b.z Z
    rw [this] at hf
    exact hf Z
  ·obtain ⟨o,I⟩:=w.fx.bin b U
   exact ar b o I
  ·obtain ⟨o',I⟩:=w.fx.ob b o h
   exact ar b o' I
  ·rcases old j u h with ⟨e1,_⟩ | ⟨k,p,a1,a2,y⟩
   ·exact w.fx.lvS j u e1 V
   ·have b:=Paired.at B.back a2 y
    have X:g j=some p:=by
     obtain ⟨C,s,O⟩:=Paired.exL f5 a1
     rw [a2] at s;cases s
     exact O
    rw [b.v]
    refine w.fx.lvS j p X ?_
    rcases b.f with h | h
    ·rw [<- h];exact V
    ·rw [h] at V;cases V
 refine ⟨g',wf,fun x rx ox sx ax=>?_⟩
 have kx:∀ z,ItOk K G H z->(∀ p ∈ ps,Apart3 p z)->Apart3 z x:=fun z P W=>by
  refine ⟨fun hf a ev hm=>?_,fun hf a ev hm=>?_⟩
  ·rcases sx a hm with h | ⟨C,A,R⟩
   ·obtain ⟨_,a',L',s,O,_⟩:=P.own hf
    rw [ev] at s;cases s
    obtain ⟨o,I⟩:=(P.rep.inH a (by rw [O];exact zO)).ex
    rw [h] at I;exact nsE I
   ·exact (W C A).2 hf a ev R
  ·obtain ⟨_,a',L',s,_,_,q4⟩:=ox hf
   rw [ev] at s;cases s
   obtain ⟨o,I⟩:=(P.rep.inH a hm).ex
   rw [q4] at I;exact nsE I
 refine ⟨wf.len,wf.sl,wf.sv,wf.okS,fun z hz=>?_,wf.ss,fun j z E t N=>?_,?_,wf.base,wf.pro,⟨fun u hu hf a S=>?_,wf.fx.frS,wf.fx.bin,wf.fx.ob,wf.fx.lvS⟩⟩
 ·rcases zU.mp hz with h | hz
  ·rw [h]
   refine ⟨rx,fun hf=>?_,fun c R=>?_⟩
   ·obtain ⟨m,a,L',v1,v2,v3,v4⟩:=ox hf
    exact ⟨m,a,L',v1,v2,v3,fun _=>.inl (w.h0none v4)⟩
   ·rcases sx c R with h | ⟨C,A,h⟩
    ·exact .inl (w.h0none h)
    ·exact (w.itm (F C A)).src c h
  ·exact wf.okT z hz
 ·rcases zU.mp N with h | N
  ·rw [h]
   rcases old j z E with ⟨e1,ap⟩ | ⟨k,p,a1,a2,y⟩
   ·exact kx z (w.okS j z e1) ap
   ·exact (ax z (z5 y)).symm
  ·exact wf.st j z E t N
 ·exact List.pairwise_cons.mpr ⟨fun t N=>(kx t (w.okT t (zT _ N)) (kt t N)).symm,wf.tt⟩
 ·rcases zU.mp hu with h | hu
  ·subst h
   obtain ⟨_,a',L',s,_,_,q4⟩:=ox hf
   rw [S] at s;cases s
   exact w.ornone q4
  ·exact wf.fx.frT u hu hf a S
theorem ow {i a:Nat} (h:(ρ[i]?).join=none):((L3.lowAt a ρ)[i]?).join=none:=by
 unfold L3.lowAt
 split
 ·rename_i d hd
  rw [bB (cW hd)]
  by_cases b:i=a
  ·subst b;rw [h] at hd;exact nsE hd
  ·rw [if_neg b];exact h
 ·rename_i d hd
  rw [bB (cW hd)]
  by_cases b:i=a
  ·subst b;rw [h] at hd;exact nsE hd
  ·rw [if_neg b];exact h
 ·exact h
theorem mQ {i:Nat}:∀ {is:List Nat} {ρ:Sto},(ρ[i]?).join=none->((L3.frz is ρ)[i]?).join=none
 | [],ρ,h=>h
 | a :: is,ρ,h=>mQ (is:=is) (ρ:=L3.lowAt a ρ) (ow h)
end
end L3
end
section
namespace L3
open PySem L2
def fI (ρ:Sto):Nat->List (D × Fl)->Option (List (D × Fl))
 | _,[]=>some []
 | i,(d,.z) :: ps=>(fI ρ (i+1) ps).map fun r=>(d,.z) :: r
 | i,(d,f) :: ps=>match (ρ[i]?).join,fI ρ (i+1) ps with
  | some (d',f'),some r=>if f'=f\/f'=.z then some ((d',f') :: r) else none
  | _,_=>none
def iS (n:Nat) (ps:List (D × Fl)):Sto:=ps.map some ++ List.replicate (n - ps.length) none
def fn0 (n:Nat) (b:SM):Fn:=fun ps=>match b (iS n ps) with
 | some (.ok .nx,ρ')=>(fI ρ' 0 ps).map fun fs=>(.ok (.non,.z),fs)
 | some (.ok (.rt d f),ρ')=>(fI ρ' 0 ps).map fun fs=>(.ok (d,f),fs)
 | some (.error e,ρ')=>(fI ρ' 0 ps).map fun fs=>(.error e,fs)
 | _=>none
def qD (b:Bool) (p:D × Fl):D × Fl:=if b then (p.1,.z) else p
noncomputable def fnM (mask:List Bool) (n:Nat) (b:SM):Fn:=fun ps=>if ps.length=mask.length then fn0 n b (List.zipWith qD mask ps) else none
section
variable {K:FG} {G:Gm} {W:D->Sto->Prop} {H H':Hp} {σ:St} {ρ ρ':Sto} {T T':List It3} {g:Nat->Option It3} {x y z:It3} {α β:Type}
def gOf (H:Hp) (pr:Nat->Bool) (σ0:St) (ps:List It3):Gm:=⟨H,fun b=>∃ p ∈ ps,p.f=.u/\p.v=.ref b,pr,σ0,H,cO ps,fun i=>(ps[i]?).map (·.v)⟩
theorem qN {n:Nat} (a:ps.length<=n) (i:Nat):((iS n ps)[i]?).join=ps[i]?:=by
 unfold iS
 by_cases h:i < ps.length
 ·rw [As (by simpa using h),z8]
  cases ps[i]? <;> rfl
 ·rw [List.getElem?_append_right (by simpa using h),List.getElem?_replicate,List.getElem?_eq_none (by omega)]
  split <;> rfl
theorem kc {n:Nat} {vs:List V} {i:Nat} (h:vs[i]?=some v):(vs.map some ++ List.replicate n (none:Option V))[i]?=some (some v):=by
 obtain ⟨hi,e⟩:=z4.mp h
 rw [As (by simpa using hi),z8,h]
 rfl
theorem rA {n:Nat} (t:ps.length<=n) (g:∀ p ∈ ps,Arg K H p) (w:ps.Pairwise Apart3) (k:∀ (i:Nat) (p:It3),ps[i]?=some p->p.f ≠ .z->pr i=true) :
  Wf K (gOf H pr ((ps.map (·.v)).map some ++ List.replicate (n - (ps.map (·.v)).length) none) ps) H ((ps.map (·.v)).map some ++ List.replicate (n - (ps.map (·.v)).length) none) (iS n (ps.map fun p=>(p.d,p.f))) [] (fun i=>ps[i]?):=by
 refine ⟨?_,fun i=>?_,fun i x e=>?_,fun i x e=>?_,fun _ h=>(by cases h),fun i j a b n u r=>?_,fun _ _ _ _ h=>(by cases h),.nil,fun b o e _=>e,fun i _=>rfl,⟨fun _ h=>(by cases h),fun i x e hz hf=>?_,fun b h=>?_,fun b o e=>⟨o,e⟩,fun i x e _=>(by show (ps[i]?).map (·.v)=_;rw [e];rfl)⟩⟩
 ·unfold iS;simp
 ·rw [qN (by simpa using t),z8]
 ·exact kc (by rw [z8,e];rfl)
 ·have hm:=z5 e
  refine ⟨(g x hm).rep,fun hf=>?_,fun c s=>.inr ⟨x,hm,s⟩⟩
  obtain ⟨m,a,L',v1,v2,v3⟩:=(g x hm).own hf
  exact ⟨m,a,L',v1,v2,v3,fun hu=>.inr ⟨x,hm,hu,v1⟩⟩
 ·exact (cC w (fun _ _=>Apart3.symm) n u r).1
 ·have hz:pr i=false:=hz
  rw [k i x e hf] at hz;cases hz
 ·obtain ⟨p,hm,hf,l⟩:=h
  obtain ⟨_,a,L',v1,v2,_⟩:=(g p hm).own (by rw [hf];intro q;cases q)
  rw [l] at v1;cases v1
  exact ((g p hm).rep.inH b (by rw [v2];exact zO)).ex
def FinsOk (ρ:Sto) (i:Nat) (ps fs:List (D × Fl)):Prop:=fs.length=ps.length/\∀ (k:Nat) (p:D × Fl),ps[k]?=some p->∃ q,fs[k]?=some q/\(p.2=.z->q=p)/\(p.2 ≠ .z->(ρ[i+k]?).join=some q/\(q.2=p.2\/q.2=.z))
theorem FinsOk.cons {i:Nat} {e d:D × Fl} {ps fs:List (D × Fl)} (h:FinsOk ρ (i+1) ps fs) (hz:e.2=.z->d=e) (g:e.2 ≠ .z->(ρ[i]?).join=some d/\(d.2=e.2\/d.2=.z)):FinsOk ρ i (e :: ps) (d :: fs):=by
 refine ⟨by rw [Ak,Ak,h.1],fun k p f=>?_⟩
 cases k with
 | zero=>cases f;exact ⟨d,rfl,hz,g⟩
 | succ k =>
  obtain ⟨q,a,b,c⟩:=h.2 k p f
  exact ⟨q,a,b,fun n=>by have:=c n;rwa [show i+1+k=i+(k+1) by omega] at this⟩
theorem iB:∀ {i:Nat} {ps:List (D × Fl)} {fs:List (D × Fl)},fI ρ i ps=some fs->FinsOk ρ i ps fs
 | i,[],fs,e=>by cases e;exact ⟨rfl,fun k p h=>by cases h⟩
 | i,p0 :: ps,fs,e=>by
  obtain ⟨d,f⟩:=p0
  have key:f ≠ .z->(match (ρ[i]?).join,fI ρ (i+1) ps with
    | some (d',a),some r=>if a=f\/a=.z then some ((d',a) :: r) else none
    | _,_=>none)=some fs->FinsOk ρ i ((d,f) :: ps) fs:=fun hf e=>by
   cases h:(ρ[i]?).join with
   | none=>rw [h] at e;exact nsE e
   | some p0 =>
    cases h2:fI ρ (i+1) ps with
    | none=>rw [h,h2] at e;exact nsE e
    | some r =>
     rw [h,h2] at e
     obtain ⟨d',a⟩:=p0
     dsimp only at e
     rcases Decidable.em (a=f\/a=.z) with b | b
     ·rw [if_pos b] at e
      cases e
      exact (iB h2).cons (fun z=>absurd z hf) fun _=>⟨h,b⟩
     ·rw [if_neg b] at e;exact nsE e
  cases f with
  | z =>
   obtain ⟨r,h,h'⟩:=zR.mp (show (fI ρ (i+1) ps).map (fun r=>(d,Fl.z) :: r)=some fs from e)
   subst h'
   exact (iB h).cons (fun _=>rfl) fun n=>absurd rfl n
  | u=>exact key (by intro q;cases q) e
  | l=>exact key (by intro q;cases q) e
theorem iQ {P:Nat->α->β->Prop}:∀ (l:List α) (i:Nat),(∀ (k:Nat) a,l[k]?=some a->∃ b,P (i+k) a b)->∃ m:List β,m.length=l.length/\∀ (k:Nat) a,l[k]?=some a->∃ b,m[k]?=some b/\P (i+k) a b
 | [],i,_=>⟨[],rfl,fun k a h=>by simp at h⟩
 | a :: l,i,h=>by
  obtain ⟨b,d⟩:=h 0 a rfl
  obtain ⟨m,h1,h2⟩:=iQ l (i+1) fun k a e=>by
   have:=h (k+1) a (by simpa using e)
   rwa [show i+(k+1)=i+1+k by omega] at this
  refine ⟨b :: m,by simp [h1],fun k f e=>?_⟩
  cases k with
  | zero=>simp at e;subst e;exact ⟨b,rfl,d⟩
  | succ k =>
   obtain ⟨c,e1,g⟩:=h2 k f (by simpa using e)
   exact ⟨c,by simpa using e1,by rwa [show i+(k+1)=i+1+k by omega]⟩
theorem Paired.ofGet:∀ {l:List α} {m:List β},l.length=m.length->(∀ (k:Nat) a b,l[k]?=some a->m[k]?=some b->F a b)->Paired F l m
 | [],[],_,_=>.nil
 | [],_ :: _,h,_=>by cases h
 | _ :: _,[],h,_=>by cases h
 | a :: l,b :: m,h,f=>.cons (f 0 a b rfl rfl) (Paired.ofGet (by simpa using h) fun k a b e1 c=>f (k+1) a b (by simpa using e1) (by simpa using c))
theorem nq {n:Nat} {pr:Nat->Bool} {σ0:St} {ps:List It3} {fs:List (D × Fl)} (E:∀ p ∈ ps,Arg K H p) (J:ps.Pairwise Apart3) (Q:∀ (i:Nat) (p:It3),ps[i]?=some p->p.f ≠ .z->pr i=true) (h0:∀ (i:Nat) (p:It3),ps[i]?=some p->σ0[i]?=some (some p.v))
  (w:Wf K (gOf H pr σ0 ps) H' σ ρ T g) (e:fI ρ 0 (ps.map fun p=>(p.d,p.f))=some fs) :
  ∃ qs,BehindX K H H' ps qs/\qs.map (fun q=>(q.d,q.f))=fs/\(∀ (k:Nat) (p q:It3),ps[k]?=some p->qs[k]?=some q->(p.f=.z/\q=p)\/(p.f ≠ .z/\g k=some q)):=by
 obtain ⟨hl,hs⟩:=iB e
 rw [zZ] at hl
 have frame:∀ b o,H b=some o->(∀ p ∈ ps,p.f=.u->p.v ≠ .ref b)->H' b=some o:=fun b o x U=>w.base b o x fun ⟨p,hm,hf,t⟩=>U p hm hf t
 have there:∀ b o,H b=some o->∃ o',H' b=some o':=fun b o x=>w.fx.ob b o x
 have F:∀ (k:Nat) (p:It3),ps[k]?=some p->p.f=.z->Rep K H' p.d p.v p.L:=fun k p l hz=>by
  refine (E p (z5 l)).rep.keep (M:=fun b=>∃ p ∈ ps,p.f=.u/\p.v=.ref b) (fun b o x U=>frame b o x fun p J hf t=>U ⟨p,J,hf,t⟩) (fun b ⟨B,hm,hf,t⟩=>?_) fun b x ⟨B,hm,hf,t⟩=>?_
  ·obtain ⟨_,a,L',v1,v2,_⟩:=(E B hm).own (by rw [hf];intro q;cases q)
   rw [t] at v1;cases v1
   exact (E B hm).rep.inH b (by rw [v2];exact zO)
  ·obtain ⟨j,S,I⟩:=List.mem_iff_getElem.mp hm
   have A:ps[j]?=some B:=by rw [zV S,I]
   have jk:j ≠ k:=fun z=>by subst z;rw [l] at A;cases A;rw [hz] at hf;cases hf
   exact (cC J (fun _ _=>Apart3.symm) jk A l).1 (by rw [hf];intro q;cases q) b t x
 have one:∀ (k:Nat) (p:It3),ps[k]?=some p->∃ q,(q.d,q.f)=(fs[k]?).getD (p.d,p.f)/\fs[k]?=some (q.d,q.f)/\Back1 K H H' ps p q/\((p.f=.z/\q=p)\/(p.f ≠ .z/\g k=some q)):=fun k p l=>by
  have hm:=z5 l
  obtain ⟨W,f1,f2,f3⟩:=hs k (p.d,p.f) (by rw [z8,l];rfl)
  by_cases hz:p.f=.z
  ·have:=f2 hz
   subst this
   refine ⟨p,by rw [f1];rfl,f1,⟨fun _=>rfl,rfl,.inl rfl,⟨F k p l hz,fun h=>absurd hz h⟩,fun c N=>.inr ⟨p,hm,N⟩,fun h=>?_⟩,.inl ⟨hz,rfl⟩⟩
   rw [hz] at h;cases h
  ·obtain ⟨h1,h2⟩:=f3 hz
   rw [Ah] at h1
   obtain ⟨y,Z,X,O,y4⟩:=w.slot (d:=W.1) (f:=W.2) h1
   have t:y.v=p.v:=by
    have:=w.pro k (Q k p l hz)
    rw [y4] at this
    have h0:some (some y.v)=some (some p.v):=this.trans (h0 k p l)
    injection h0 with h0
    injection h0
   have ok:=w.okS k y Z
   refine ⟨y,by rw [f1,X,O];rfl,by rw [f1,X,O],⟨fun h=>absurd h hz,t,by rw [O];exact h2,⟨ok.rep,fun hf=>?_⟩,fun c N=>ok.src c N,fun hf b x=>?_⟩,.inr ⟨hz,Z⟩⟩
   ·obtain ⟨m,a,L',v1,v2,v3,_⟩:=ok.own hf
    exact ⟨m,a,L',v1,v2,v3⟩
   ·obtain ⟨_,a,L',v1,v2,_⟩:=(E p hm).own hz
    rw [x] at v1;cases v1
    obtain ⟨o,ho⟩:=((E p hm).rep.inH b (by rw [v2];exact zO)).ex
    exact there b o ho
 obtain ⟨qs,hq,G⟩:=iQ (P:=fun k p q=>fs[k]?=some (q.d,q.f)/\Back1 K H H' ps p q/\((p.f=.z/\q=p)\/(p.f ≠ .z/\g k=some q))) ps 0 fun k p l=>by
  obtain ⟨q,_,a,b,c⟩:=one k p l
  exact ⟨q,by simpa using ⟨a,b,c⟩⟩
 have get:∀ (k:Nat) (p q:It3),ps[k]?=some p->qs[k]?=some q->fs[k]?=some (q.d,q.f)/\Back1 K H H' ps p q/\((p.f=.z/\q=p)\/(p.f ≠ .z/\g k=some q)):=fun k p q s eq=>by
  obtain ⟨q',e1,e2⟩:=G k p s
  rw [eq] at e1
  cases e1
  simpa using e2
 have par:∀ (k:Nat) (q:It3),qs[k]?=some q->∃ p,ps[k]?=some p:=fun k q e=>by
  have Y:=(z4.mp e).1
  exact ⟨ps[k]'(by omega),by simp [show k < ps.length by omega]⟩
 refine ⟨qs,⟨frame,Paired.ofGet hq.symm fun k p q s eq=>(get k p q s eq).2.1,?_⟩,?_,fun k p q s eq=>(get k p q s eq).2.2⟩
 ·rw [List.pairwise_iff_getElem]
  intro k j Y S lt
  have l:qs[k]?=some qs[k]:=zV Y
  have I:qs[j]?=some qs[j]:=zV S
  have side:∀ (k j:Nat) (q r:It3),k ≠ j->qs[k]?=some q->qs[j]?=some r->NoRoot q r:=fun k j q r n eq er=>by
   obtain ⟨p,s⟩:=par k q eq
   obtain ⟨B,C⟩:=par j r er
   obtain ⟨_,b,c⟩:=get k p q s eq
   obtain ⟨_,b',c'⟩:=get j B r C er
   rcases c with ⟨hz,e⟩ | ⟨hz,e⟩
   ·rw [e];exact fun h=>absurd hz h
   ·rcases c' with ⟨V,R⟩ | ⟨V,R⟩
    ·rw [R]
     intro hf a ea
     exact (cC J (fun _ _=>Apart3.symm) n s C).1 hz a (by rw [<- b.v];exact ea)
    ·exact w.ss k j q r n e R
  exact ⟨side k j _ _ (Ab lt) l I,side j k _ _ (Nat.ne_of_gt lt) I l⟩
 ·refine List.ext_getElem? fun k=>?_
  rw [z8]
  cases eq:qs[k]? with
  | none =>
   have:qs.length<=k:=List.getElem?_eq_none_iff.mp eq
   rw [List.getElem?_eq_none (by omega)]
   rfl
  | some q =>
   obtain ⟨p,s⟩:=par k q eq
   rw [(get k p q s eq).1]
   rfl
theorem oN {n:Nat} {pr:Nat->Bool} {σ0:St} {ps:List It3} {fs:List (D × Fl)} (l:∀ p ∈ ps,Arg K H p) (A:ps.Pairwise Apart3) (j:∀ (i:Nat) (p:It3),ps[i]?=some p->p.f ≠ .z->pr i=true) (h0:∀ (i:Nat) (p:It3),ps[i]?=some p->σ0[i]?=some (some p.v))
  (w:Wf K (gOf H pr σ0 ps) H' σ ρ (x :: T) g) (e:fI ρ 0 (ps.map fun p=>(p.d,p.f))=some fs):∃ qs,Behind K H H' ps qs x/\qs.map (fun q=>(q.d,q.f))=fs:=by
 obtain ⟨qs,B,f,u⟩:=nq (n:=n) l A j h0 w e
 have ok:=w.okT x zO
 refine ⟨qs,⟨B,ok.rep,fun hf=>?_,fun c t=>ok.src c t,fun q E=>?_⟩,f⟩
 ·obtain ⟨m,a,L',v1,v2,v3,_⟩:=ok.own hf
  exact ⟨m,a,L',v1,v2,v3,w.fx.frT x zO hf a v1⟩
 ·obtain ⟨k,C,F⟩:=List.mem_iff_getElem.mp E
  have eq:qs[k]?=some q:=by rw [zV C,F]
  obtain ⟨p,r,b⟩:=Paired.exR B.back eq
  rcases u k p q r eq with ⟨hz,e⟩ | ⟨hz,e⟩
  ·rw [e]
   refine ⟨fun hf a y hm=>?_,fun h=>absurd hz h⟩
   have h1:=w.fx.frT x zO hf a y
   obtain ⟨o,s⟩:=((l p (z5 r)).rep.inH a hm).ex
   have h2:H a=none:=h1
   rw [h2] at s;exact nsE s
  ·exact (w.st k q e x zO).symm
end
end L3
end
section
namespace L3
open PySem L2
def cD:Fl->Fl
 | .u=>.l
 | f=>f
def bf (x:It3):It3:={ x with f:=cD x.f }
def eQ:Fl->Fl
 | .l=>.u
 | f=>f
def uy (x:It3):It3:={ x with f:=eQ x.f }
def jB (h:Fl->Fl) (i:Nat) (ρ:Sto):Sto:=match (ρ[i]?).join with
 | some (d,f)=>ρ.set i (some (d,h f))
 | none=>ρ
def aC (h:Fl->Fl) (is:List Nat) (ρ:Sto):Sto:=is.foldl (fun ρ i=>jB h i ρ) ρ
def us (ρ:Sto) (is:List Nat):List Nat:=is.filter fun i=>match (ρ[i]?).join with
 | some (_,.u)=>true
 | _=>false
theorem lentF_z:cD f=.z ↔ f=.z:=by cases f <;> simp [cD]
theorem unlF_z:eQ f=.z ↔ f=.z:=by cases f <;> simp [eQ]
theorem pv (f:Fl):cD f ≠ .u:=by cases f <;> simp [cD]
theorem xl (f:Fl):eQ f ≠ .l:=by cases f <;> simp [eQ]
section
variable {K:FG} {G G0:Gm} {W W0:D->Sto->Prop} {H H':Hp} {σ:St} {ρ ρ':Sto} {T T':List It3} {g:Nat->Option It3} {x y z:It3} {α β:Type}
theorem om {i j:Nat}:((jB h i ρ)[j]?).join=if j=i then ((ρ[j]?).join).map (fun p=>(p.1,h p.2)) else (ρ[j]?).join:=by
 unfold jB
 cases e:(ρ[i]?).join with
 | none =>
  by_cases q:j=i
  ·subst q;rw [if_pos rfl,e];rfl
  ·rw [if_neg q]
 | some p =>
  obtain ⟨d,f⟩:=p
  dsimp only
  rw [bB (cW e)]
  by_cases q:j=i
  ·subst q;rw [if_pos rfl,if_pos rfl,e];rfl
  ·rw [if_neg q,if_neg q]
theorem qy {i:Nat}:(jB h i ρ).length = ρ.length:=by
 unfold jB
 split
 ·rw [List.length_set]
 ·rfl
theorem fc (a:∀ f,h (h f)=h f):∀ {is:List Nat} {ρ:Sto} {j:Nat},((aC h is ρ)[j]?).join=if j ∈ is then ((ρ[j]?).join).map (fun p=>(p.1,h p.2)) else (ρ[j]?).join
 | [],ρ,j=>by simp [aC]
 | i :: is,ρ,j=>by
  have e:aC h (i :: is) ρ=aC h is (jB h i ρ):=rfl
  rw [e,fc a,om]
  by_cases q:j=i
  ·subst q
   by_cases m:j ∈ is
   ·rw [if_pos m,if_pos rfl,if_pos zO]
    cases (ρ[j]?).join with
    | none=>rfl
    | some p=>simp [a]
   ·rw [if_neg m,if_pos rfl,if_pos zO]
  ·by_cases m:j ∈ is
   ·rw [if_pos m,if_neg q,if_pos (zP _ m)]
   ·rw [if_neg m,if_neg q,if_neg (fun z=>(zU.mp z).elim q m)]
theorem fT:∀ {is:List Nat} {ρ:Sto},(aC h is ρ).length = ρ.length
 | [],ρ=>rfl
 | i :: is,ρ=>by
  have e:aC h (i :: is) ρ=aC h is (jB h i ρ):=rfl
  rw [e,fT,qy]
def dg (G:Gm) (H:Hp) (g:Nat->Option It3) (is:List Nat):Gm :=
 ⟨H,fun b=>∃ j y,j ∉ is/\g j=some y/\y.f=.u/\y.v=.ref b,G.pr,G.σ0,G.orig,fun c=>G.H0 c=none\/G.src c,fun j=>if j ∈ is then (g j).map (·.v) else G.lv j⟩
structure Fk (x y:It3):Prop where
 d:y.d=x.d
 v:y.v=x.v
 L:y.L=x.L
 z:y.f=.z ↔ x.f=.z
theorem Fk.noRoot (a:Fk x x') (b:Fk y y') (h:NoRoot x y):NoRoot x' y':=fun hf c e=>by
 rw [b.L]
 exact h (fun q=>hf (a.z.mpr q)) c (by rw [<- a.v];exact e)
theorem Fk.apart (a:Fk x x') (b:Fk y y') (h:Apart3 x y):Apart3 x' y':=⟨a.noRoot b h.1,b.noRoot a h.2⟩
theorem Fk.refl (x:It3):Fk x x:=⟨rfl,rfl,rfl,Iff.rfl⟩
theorem jh (x:It3):Fk x (bf x):=⟨rfl,rfl,rfl,lentF_z⟩
theorem zu (x:It3):Fk x (uy x):=⟨rfl,rfl,rfl,unlF_z⟩
theorem mz {o:Option It3} {h:Fl->Fl} (e:o.map (fun x=>(x.d,x.f))=p):(o.map fun x=>{ x with f:=h x.f }).map (fun x:It3=>(x.d,x.f))=p.map fun p=>(p.1,h p.2):=by
 subst e
 cases o <;> rfl
theorem Wf.enter (w:Wf K G H σ ρ T g) (is:List Nat):Wf K (dg G H g is) H σ (aC cD is ρ) (T.map bf) (fun j=>if j ∈ is then (g j).map bf else g j):=by
 have val:∀ j u,(if j ∈ is then (g j).map bf else g j)=some u->∃ l,g j=some l/\Fk l u/\((j ∈ is/\u=bf l)\/(j ∉ is/\u=l)):=fun j u h=>by
  by_cases q:j ∈ is
  ·rw [if_pos q] at h
   obtain ⟨l,e1,A⟩:=zR.mp h
   subst A
   exact ⟨l,e1,jh l,.inl ⟨q,rfl⟩⟩
  ·rw [if_neg q] at h
   exact ⟨u,h,Fk.refl u,.inr ⟨q,rfl⟩⟩
 refine ⟨by rw [fT];exact w.len,fun j=>?_,fun j u h=>?_,fun j u h=>?_,fun u hu=>?_,fun i j a b n C p=>?_,fun j a h b p=>?_,?_,fun b o e _=>e,w.pro,⟨fun u hu hf a t=>?_,fun j u h E hf a t=>?_,fun b p=>?_,w.fx.ob,fun j u h D=>?_⟩⟩
 ·rw [fc (by intro f;cases f <;> rfl)]
  by_cases q:j ∈ is
  ·rw [if_pos q,if_pos q];exact mz (w.sl j)
  ·rw [if_neg q,if_neg q];exact w.sl j
 ·obtain ⟨l,e,k,_⟩:=val j u h
  rw [k.v];exact w.sv j l e
 ·obtain ⟨l,e,k,c⟩:=val j u h
  have ok:=w.okS j l e
  refine ⟨by rw [k.d,k.v,k.L];exact ok.rep,fun hf=>?_,fun c s=>.inr (ok.src c (by rw [<- k.L];exact s))⟩
  obtain ⟨m,a,L',v1,v2,v3,_⟩:=ok.own (fun q=>hf (k.z.mpr q))
  refine ⟨by rw [k.d];exact m,a,L',by rw [k.v];exact v1,by rw [k.L];exact v2,v3,fun hu=>?_⟩
  rcases c with ⟨_,rfl⟩ | ⟨I,rfl⟩
  ·exact absurd hu (pv _)
  ·exact .inr ⟨j,u,I,e,hu,v1⟩
 ·obtain ⟨l,h0,rfl⟩:=z7.mp hu
  have ok:=w.okT l h0
  refine ⟨ok.rep,fun hf=>?_,fun c s=>.inr (ok.src c s)⟩
  obtain ⟨m,a,L',v1,v2,v3,_⟩:=ok.own (fun q=>hf (lentF_z.mpr q))
  exact ⟨m,a,L',v1,v2,v3,fun hu=>absurd hu (pv _)⟩
 ·obtain ⟨B,e1,x,_⟩:=val i a C
  obtain ⟨r,A,k2,_⟩:=val j b p
  exact x.noRoot k2 (w.ss i j B r n e1 A)
 ·obtain ⟨B,e1,x,_⟩:=val j a h
  obtain ⟨r,h0,rfl⟩:=z7.mp p
  exact x.apart (jh r) (w.st j B e1 r h0)
 ·rw [List.pairwise_map]
  exact w.tt.imp fun {a b} h=>(jh a).apart (jh b) h
 ·obtain ⟨l,h0,rfl⟩:=z7.mp hu
  exact w.fx.frT l h0 (fun q=>hf (lentF_z.mpr q)) a t
 ·obtain ⟨l,e,k,_⟩:=val j u h
  exact w.fx.frS j l e E (fun q=>hf (k.z.mpr q)) a (by rw [<- k.v];exact t)
 ·obtain ⟨j,y,_,e,hf,F⟩:=p
  obtain ⟨_,a,L',v1,v2,_⟩:=(w.okS j y e).own (by rw [hf];intro q;cases q)
  rw [F] at v1;cases v1
  exact ((w.okS j y e).rep.inH b (by rw [v2];exact zO)).ex
 ·obtain ⟨l,e,k,c⟩:=val j u h
  show (if j ∈ is then (g j).map (·.v) else G.lv j)=_
  rcases c with ⟨q,rfl⟩ | ⟨q,rfl⟩
  ·rw [if_pos q,e];rfl
  ·rw [if_neg q];exact w.fx.lvS j u e D
theorem Wf.leave (w:Wf K G H σ ρ T g) (I:∀ i ∈ is,∀ y,g i=some y->y.f=.u) (P:T'.Sublist T) (p:Wf K (dg G H g is) H' σ' ρ2 (R ++ T'.map bf) g2) :
  Wf K G H' σ' (aC eQ is ρ2) (R ++ T') (fun j=>if j ∈ is then (g2 j).map uy else g2 j):=by
 have val:∀ j u,(if j ∈ is then (g2 j).map uy else g2 j)=some u->∃ r,g2 j=some r/\Fk r u/\((j ∈ is/\u=uy r)\/(j ∉ is/\u=r)):=fun j u h=>by
  by_cases q:j ∈ is
  ·rw [if_pos q] at h
   obtain ⟨r,e1,M⟩:=zR.mp h
   subst M
   exact ⟨r,e1,zu r,.inl ⟨q,rfl⟩⟩
  ·rw [if_neg q] at h
   exact ⟨u,h,Fk.refl u,.inr ⟨q,rfl⟩⟩
 have may:∀ a,H a=none\/(∃ j y,j ∉ is/\g j=some y/\y.f=.u/\y.v=.ref a)->G.H0 a=none\/G.bw a:=fun a h=>by
  rcases h with h | ⟨j,y,_,e,hf,Y⟩
  ·exact .inl (w.h0none h)
  ·obtain ⟨_,S,L',v1,_,_,v4⟩:=(w.okS j y e).own (by rw [hf];intro q;cases q)
   rw [Y] at v1;cases v1
   exact v4 hf
 have t:∀ c,H c=none\/(G.H0 c=none\/G.src c)->G.H0 c=none\/G.src c:=fun c h=>by
  rcases h with h | h
  ·exact .inl (w.h0none h)
  ·exact h
 have Q:∀ x ∈ T',x ∈ T:=fun x V=>P.subset V
 have J:∀ b o,H b=some o->∃ o',H' b=some o':=fun b o s=>by
  by_cases q:∃ j y,j ∉ is/\g j=some y/\y.f=.u/\y.v=.ref b
  ·exact p.fx.bin b q
  ·exact ⟨o,p.base b o s q⟩
 refine ⟨by rw [fT];exact p.len,fun j=>?_,fun j u h=>?_,fun j u h=>?_,fun u hu=>?_,fun i j a b n E s=>?_,fun j a h b s=>?_,?_,fun b o e n=>?_,p.pro,⟨fun u hu=>?_,fun j u h W hf a U=>?_,fun b s=>?_,p.fx.ob,fun j u h B=>?_⟩⟩
 ·rw [fc (by intro f;cases f <;> rfl)]
  by_cases q:j ∈ is
  ·rw [if_pos q,if_pos q];exact mz (p.sl j)
  ·rw [if_neg q,if_neg q];exact p.sl j
 ·obtain ⟨r,e,k,_⟩:=val j u h
  rw [k.v];exact p.sv j r e
 ·obtain ⟨r,e,k,c⟩:=val j u h
  have ok:=p.okS j r e
  refine ⟨by rw [k.d,k.v,k.L];exact ok.rep,fun hf=>?_,fun c F=>t c (ok.src c (by rw [<- k.L];exact F))⟩
  obtain ⟨m,a,L',v1,v2,v3,v4⟩:=ok.own (fun q=>hf (k.z.mpr q))
  refine ⟨by rw [k.d];exact m,a,L',by rw [k.v];exact v1,by rw [k.L];exact v2,v3,fun hu=>?_⟩
  rcases c with ⟨q,rfl⟩ | ⟨nj,rfl⟩
  ·cases A:r.f with
   | u=>exact may a (v4 A)
   | l =>
    have B:=p.fx.lvS j r e A
    have B:(if j ∈ is then (g j).map (·.v) else G.lv j)=some r.v:=B
    rw [if_pos q] at B
    obtain ⟨y,N,ev⟩:=zR.mp B
    have O:=I j q y N
    obtain ⟨_,S,Z,b1,_,_,b4⟩:=(w.okS j y N).own (by rw [O];intro q;cases q)
    rw [ev,v1] at b1;cases b1
    exact b4 O
   | z=>exact absurd (unlF_z.mpr A) hf
  ·exact may a (v4 hu)
 ·rcases zX.mp hu with hu | hu
  ·have ok:=p.okT u (zS _ hu)
   refine ⟨ok.rep,fun hf=>?_,fun c F=>t c (ok.src c F)⟩
   obtain ⟨m,a,L',v1,v2,v3,v4⟩:=ok.own hf
   exact ⟨m,a,L',v1,v2,v3,fun h=>may a (v4 h)⟩
  ·have ok:=w.okT u (Q u hu)
   exact ⟨(p.okT (bf u) (zT _ (z7.mpr ⟨u,hu,rfl⟩))).rep,ok.own,ok.src⟩
 ·obtain ⟨D,e1,C,_⟩:=val i a E
  obtain ⟨X,M,k2,_⟩:=val j b s
  exact C.noRoot k2 (p.ss i j D X n e1 M)
 ·obtain ⟨D,e1,C,_⟩:=val j a h
  rcases zX.mp s with s | s
  ·exact C.apart (Fk.refl b) (p.st j D e1 b (zS _ s))
  ·have:=p.st j D e1 (bf b) (zT _ (z7.mpr ⟨b,s,rfl⟩))
   exact C.apart (y:=bf b) ⟨rfl,rfl,rfl,lentF_z.symm⟩ this
 ·have h:=List.pairwise_append.mp p.tt
  refine List.pairwise_append.mpr ⟨h.1,w.tt.sublist P,fun a E b s=>?_⟩
  exact (Fk.refl a).apart (y:=bf b) ⟨rfl,rfl,rfl,lentF_z.symm⟩ (h.2.2 a E (bf b) (z7.mpr ⟨b,s,rfl⟩))
 ·have s:=w.base b o e n
  refine p.base b o s fun q=>?_
  rcases may b (.inr q) with h | h
  ·rw [e] at h;cases h
  ·exact n h
 ·rcases zX.mp hu with hu | hu
  ·exact p.fx.frT u (zS _ hu)
  ·exact w.fx.frT u (Q u hu)
 ·obtain ⟨r,e,k,_⟩:=val j u h
  exact p.fx.frS j r e W (fun q=>hf (k.z.mpr q)) a (by rw [<- k.v];exact U)
 ·obtain ⟨o,ho⟩:=w.fx.bin b s
  exact J b o ho
 ·obtain ⟨r,e,k,c⟩:=val j u h
  rcases c with ⟨q,rfl⟩ | ⟨q,rfl⟩
  ·exact absurd B (xl _)
  ·have:=p.fx.lvS j u e B
   have this:(if j ∈ is then (g j).map (·.v) else G.lv j)=some u.v:=this
   rw [if_neg q] at this
   exact this
theorem wc (w:Wf K G H σ ρ T g) (b:∀ i ∈ is,∀ y,g i=some y->y.f=.u):∀ (H':Hp) (σ':St) (ρ2:Sto) (a:List It3) (g2:Nat->Option It3),Wf K (dg G H g is) H' σ' ρ2 a g2->∃ g3,Wf K G H' σ' (aC eQ is ρ2) [] g3 :=
 fun H' σ' ρ2 a g2 c=>⟨_,by simpa using Wf.leave (T':=[]) (R:=[]) w b (List.nil_sublist T) (by simpa using c.sub (List.nil_sublist a))⟩
end
end L3
end
section
namespace L3
open PySem L2
section
variable {K:FG} {G G0:Gm} {W W0:D->Sto->Prop} {H H':Hp} {σ:St} {ρ ρ':Sto} {T T':List It3} {g:Nat->Option It3} {x y z:It3} {α β:Type}
def Walk (K:FG) (J:It) (H1:Hp) (ys:List It3) (ds:List D):Prop:=∃ els:List It3,(∀ x ∈ els,x.f=.z/\Rep K H1 x.d x.v x.L/\∀ c ∈ x.L,dq ys c) /\
 ∀ (M:Addr->Prop) (H':Hp),(∀ b,M b->MutAt H1 b)->(∀ b o,H1 b=some o->¬ M b->H' b=some o)->(∀ y ∈ ys,∀ b ∈ y.L,¬ M b) ->
  (∀ (i:Nat) (d:D),ds[i]?=some d->J.go i H'/\∀ x a,J.yld i H' x a->∃ w,New K H' a (cO els) w/\w.d=d/\w.f=.z/\w.v=x)/\J.stop ds.length H'
abbrev IM:=M3 (List R3 × List D)
def EndI (K:FG) (G:Gm) (W:D->Sto->Prop) (σ:St) (T:List It3) (ρ':Sto) (R:It->Hp->Prop):Except D (List R3 × List D)->Prop
 | .ok p=>∀ J H1 vs Ts g1 ys,Wf K G H1 σ ρ' (Ts ++ T) g1->Ars σ p.1 vs Ts->(∀ y ∈ ys,(∃ i,i ∈ pls p.1/\g1 i=some y)\/y ∈ Ts)->Walk K J H1 ys p.2->R J H1
 | .error e=>W e ρ'
def tI (K:FG) (G0:Gm) (W0:D->Sto->Prop) (m:IM):TI:=fun σ H R=>∃ G W,Le K G W G0 W0/\∃ ρ T g r ρ',Wf K G H σ ρ T g/\m ρ=some (r,ρ')/\EndI K G W σ T ρ' R r
theorem tI.seq (le:Le K G W G0 W0) (w:Wf K G H σ ρ T g) (e:ac m k ρ=some (r,ρ')) (he:∀ x,r=.error x->W x ρ') (h:∀ p ρ1,k p ρ1=some (r,ρ')->EndI K G W σ T ρ1 P (.ok p)):tI K G0 W0 m σ H P:=by
 unfold ac at e
 cases q:m ρ with
 | none=>rw [q] at e;exact nsE e
 | some p =>
  obtain ⟨o,ρ1⟩:=p
  rw [q] at e
  cases o with
  | error x=>cases e;exact ⟨G,W,le,ρ,T,g,.error x,ρ',w,q,he x rfl⟩
  | ok ra=>exact ⟨G,W,le,ρ,T,g,.ok ra,ρ1,w,q,h ra ρ1 e⟩
def Bnd (K:FG) (pr:Nat->Bool) (tg:TG) (bnd:D->Sto->Option Sto):Prop:=∀ (G:Gm) (H:Hp) (σ:St) (ρ ρ1:Sto) (T:List It3) (g:Nat->Option It3) (w:It3) (Q:St->Hp->Prop),G.pr=pr->w.f=.z->Wf K G H σ ρ (w :: T) g->bnd w.d ρ=some ρ1 ->
 (∀ σ2 g2,Wf K G H σ2 ρ1 T g2->Q σ2 H)->tg w.v σ H Q
def aj (i:Nat) (d:D) (ρ:Sto):Option Sto:=if i < ρ.length then some (ρ.set i (some (d,.z))) else none
theorem fv {i:Nat} (b:pr i=false):Bnd K pr (pI i) (aj i):=fun G H σ ρ ρ1 T g w Q a hz wf e q=>by
 unfold aj at e
 split at e
 ·rename_i hi
  cases e
  exact q _ _ (wf.store (f:=.z) hi (by rw [a];exact b) (.inr rfl) (by intro h;cases h))
 ·exact nsE e
def uu (K:FG) (pr:Nat->Bool) (tg:TGs) (bnd:List D->Sto->Option Sto):Prop:=∀ (G:Gm) (H:Hp) (σ:St) (ρ ρ1:Sto) (T:List It3) (g:Nat->Option It3) (ws:List It3) (Q:St->Hp->Prop),G.pr=pr->(∀ w ∈ ws,w.f=.z)->Wf K G H σ ρ (ws ++ T) g->bnd (ws.map (·.d)) ρ=some ρ1 ->
 (∀ σ2 g2,Wf K G H σ2 ρ1 T g2->Q σ2 H)->tg (ws.map (·.v)) σ H Q
def jZ:List D->Sto->Option Sto
 | [],ρ=>some ρ
 | _,_=>none
def bD (b:D->Sto->Option Sto) (bs:List D->Sto->Option Sto):List D->Sto->Option Sto
 | [],_=>none
 | d :: ds,ρ=>match b d ρ with
  | some ρ1=>bs ds ρ1
  | none=>none
theorem nh:uu K pr gNil jZ:=fun G H σ ρ ρ1 T g ws Q _ _ wf e q=>by
 cases ws with
 | nil=>cases e;exact ⟨rfl,q _ _ wf⟩
 | cons w ws=>exact nsE e
theorem iF (h1:Bnd K pr tg b) (h2:uu K pr tgs bs):uu K pr (xc tg tgs) (bD b bs):=fun G H σ ρ ρ1 T g ws Q a hz wf e q=>by
 cases ws with
 | nil=>exact nsE e
 | cons w ws =>
  have e:(match b w.d ρ with | some ρ1=>bs (ws.map (·.d)) ρ1 | none=>none)=some ρ1:=e
  cases c:b w.d ρ with
  | none=>rw [c] at e;exact nsE e
  | some ρ2 =>
   rw [c] at e
   exact ⟨w.v,ws.map (·.v),rfl,h1 G H σ ρ ρ2 (ws ++ T) g w _ a (hz w zO) wf c fun σ2 g2 f=>h2 G H σ2 ρ2 ρ1 T g2 ws Q a (fun x h=>hz x (zP _ h)) f e q⟩
def jY (n:Nat) (bs:List D->Sto->Option Sto):D->Sto->Option Sto
 | .tup ds,ρ=>if ds.length=n then bs ds ρ else none
 | _,_=>none
theorem Reps.split:∀ {ds:List D} {vs:List V} {L:List Addr},Reps (Rep K H) ds vs L->∃ ws:List It3,ws.map (·.d)=ds/\ws.map (·.v)=vs/\(∀ w ∈ ws,w.f=.z/\Rep K H w.d w.v w.L/\∀ c ∈ w.L,c ∈ L)
 | _,_,_,.nil=>⟨[],rfl,rfl,fun _ h=>(by cases h)⟩
 | _,_,_,.cons (d:=d) (v:=v) (L:=L) r rs=>by
  obtain ⟨ws,h1,h2,h3⟩:=Reps.split rs
  refine ⟨⟨d,v,L,.z⟩ :: ws,by simp [h1],by simp [h2],fun w hw=>?_⟩
  rcases zU.mp hw with h | h
  ·subst h;exact ⟨rfl,r,fun c a=>zS _ a⟩
  ·exact ⟨(h3 w h).1,(h3 w h).2.1,fun c a=>zT _ ((h3 w h).2.2 c a)⟩
theorem Wf.pushAll:∀ {ws:List It3} {T:List It3},Wf K G H σ ρ T g->(∀ w ∈ ws,w.f=.z/\Rep K H w.d w.v w.L/\∀ c ∈ w.L,cX T g c/\(G.H0 c=none\/G.src c))->Wf K G H σ ρ (ws ++ T) g
 | [],T,w,_=>w
 | x :: ws,T,w,h=>by
  have i:=Wf.pushAll (ws:=ws) w fun y a=>h y (zP _ a)
  obtain ⟨hz,e,b⟩:=h x zO
  refine i.push (Ks:=fun c=>c ∈ x.L) ⟨Same.refl _,e,fun c h=>.inr h,fun q=>absurd hz q⟩ fun c m=>⟨⟨(b c m).1.1,fun y a hf=>?_⟩,(b c m).2⟩
  rcases zX.mp a with q | q
  ·exact absurd (h y (zP _ q)).1 hf
  ·exact (b c m).1.2 y q hf
theorem pR {n:Nat} (h2:uu K pr tgs bs):Bnd K pr (gTup K n tgs) (jY n bs):=fun G H σ ρ ρ1 T g w Q j hz wf e q=>by
 have r:=(wf.okT w zO).rep
 obtain ⟨d,v,L,f⟩:=w
 cases r with
 | @tup xs a vs _ hs rs =>
  have e:(if xs.length=n then bs xs ρ else none)=some ρ1:=e
  split at e
  ·rename_i m
   obtain ⟨ws,h1,h3,h⟩:=Reps.split rs
   refine ⟨a,vs,rfl,SqT.of hs,?_,?_⟩
   ·rw [<- h3,zZ,<- m,<- h1,zZ]
   ·have l:Wf K G H σ ρ (ws ++ (⟨.tup xs,.ref a,L,f⟩ :: T)) g:=wf.pushAll fun u hu=>⟨(h u hu).1,(h u hu).2.1,fun c k=>⟨wf.kid (y:=⟨.tup xs,.ref a,L,f⟩) (.inr zO) ((h u hu).2.2 c k) fun hf=>absurd hz hf,(wf.okT _ zO).src c ((h u hu).2.2 c k)⟩⟩
    have o:Wf K G H σ ρ (ws ++ T) g:=l.sub ((List.Sublist.refl ws).append (List.sublist_cons_self _ _))
    rw [<- h3]
    exact h2 G H σ ρ ρ1 T g ws Q j (fun u hu=>(h u hu).1) o (by rw [h1];exact e) q
  ·exact nsE e
 | non=>exact nsE e
 | bl b=>exact nsE e
 | int i=>exact nsE e
 | str s=>exact nsE e
 | lst _ _=>exact nsE e
 | lstF _ _=>exact nsE e
 | dK _ _ _=>exact nsE e
 | dT _ _ _=>exact nsE e
 | exc _ _=>exact nsE e
noncomputable def dH (bnd:D->Sto->Option Sto) (b:SM):List D->SM
 | []=>aW .nx
 | d :: ds=>fun ρ=>match bnd d ρ with
  | none=>none
  | some ρ1=>ac b (fun f=>match f with
   | .nx=>dH bnd b ds
   | .ct=>dH bnd b ds
   | .br=>aW .nx
   | .rt d f=>aW (.rt d f)) ρ1
noncomputable def cw (im:IM) (bnd:D->Sto->Option Sto) (b:SM):SM:=ac im fun p=>fun ρ=>(dH bnd b p.2 (aC cD (us ρ (pls p.1)) ρ)).map fun r=>(r.1,aC eQ (us ρ (pls p.1)) r.2)
theorem us_u (w:Wf K G H σ ρ T g):∀ i ∈ us ρ is,∀ y,g i=some y->y.f=.u:=fun i hi y a=>by
 have h:=(Aq.mp hi).2
 have s:=w.sl i
 rw [a] at s
 have s:some (y.d,y.f)=(ρ[i]?).join:=s
 rw [<- s] at h
 cases hf:y.f with
 | u=>rfl
 | l=>rw [hf] at h;cases h
 | z=>rw [hf] at h;cases h
theorem rB {i:Nat} (w:Wf K G H σ ρ T g) (hi:i ∈ is) (a:g i=some y) (hf:y.f=.u):i ∈ us ρ is:=by
 refine Aq.mpr ⟨hi,?_⟩
 have s:=w.sl i
 rw [a] at s
 have s:some (y.d,y.f)=(ρ[i]?).join:=s
 rw [<- s,hf]
theorem xy (U:Bnd K G0.pr tg bnd) (h:tS K G0 W0 (cw im bnd b) E σ H):tFor (tI K G0 W0 im) tg (tS K G0 W0 b) E σ H:=by
 refine h.use fun G W le ρ T g r ρ' w e q=>?_
 refine tI.seq le w e q.err fun p ρ1 e1=>?_
 intro J H1 vs Ts g1 ys t a1 a0 hw
 have S:=us_u (is:=pls p.1) t
 have ar:∀ i y,i ∈ pls p.1->g1 i=some y->y.f=.u->i ∈ us ρ1 (pls p.1):=fun i y hi ey hf=>rB t hi ey hf
 generalize us ρ1 (pls p.1)=is at e1 S ar
 have w2:=t.enter is
 obtain ⟨els,n,walk⟩:=hw
 have hM:∀ b,(∃ j y,j ∉ is/\g1 j=some y/\y.f=.u/\y.v=.ref b)->MutAt H1 b:=fun b ⟨j,y,_,ey,hf,B⟩=>by
  obtain ⟨_,a,L',v1,v2,_⟩:=(t.okS j y ey).own (by rw [hf];intro q;cases q)
  rw [B] at v1;cases v1
  exact (t.okS j y ey).rep.inH b (by rw [v2];exact zO)
 have az:∀ y ∈ ys,∀ b ∈ y.L,¬ ∃ j y,j ∉ is/\g1 j=some y/\y.f=.u/\y.v=.ref b:=fun y A b U ⟨j,y',nj,C,hf,B⟩=>by
  have ax:y'.f ≠ .z:=by rw [hf];intro q;cases q
  rcases a0 y A with ⟨i,hi,ei⟩ | A
  ·by_cases ij:i=j
   ·subst ij
    rw [ei] at C;cases C
    exact nj (ar i y hi ei hf)
   ·exact t.ss j i y' y (Ne.symm ij) C ei ax b B U
  ·exact (t.st j y' C y (zS _ A)).1 ax b B U
 have X:∀ y ∈ ys,Itm (Ts ++ T) g1 y:=fun y A=>by
  rcases a0 y A with ⟨i,_,ei⟩ | h
  ·exact .inl ⟨i,ei⟩
  ·exact .inr (zS _ h)
 have kid:∀ x ∈ els,∀ c ∈ x.L,cX ((Ts ++ T).map bf) (fun j=>if j ∈ is then (g1 j).map bf else g1 j) c/\(H1 c=none\/(G.H0 c=none\/G.src c)):=fun x hx c Y=>by
  obtain ⟨nr,sr⟩:=t.kids X ((n x hx).2.2 c Y)
  refine ⟨⟨fun i z V hf B=>?_,fun z hz hf B=>?_⟩,.inr sr⟩
  ·have V:(if i ∈ is then (g1 i).map bf else g1 i)=some z:=V
   by_cases q:i ∈ is
   ·rw [if_pos q] at V
    obtain ⟨z0,e0,e1⟩:=zR.mp V
    subst e1
    exact nr.1 i z0 e0 (fun q=>hf (lentF_z.mpr q)) B
   ·rw [if_neg q] at V
    exact nr.1 i z V hf B
  ·obtain ⟨z0,h0,rfl⟩:=z7.mp hz
   exact nr.2 z0 h0 (fun q=>hf (lentF_z.mpr q)) B
 have w3:Wf K (dg G H1 g1 is) H1 σ (aC cD is ρ1) (els ++ (Ts ++ T).map bf) (fun j=>if j ∈ is then (g1 j).map bf else g1 j):=w2.pushAll fun x hx=>⟨(n x hx).1,(n x hx).2.1,fun c Y=>kid x hx c Y⟩
 cases e2:dH bnd b p.2 (aC cD is ρ1) with
 | none=>rw [e2] at e1;exact nsE e1
 | some rr =>
  obtain ⟨r2,ρ3⟩:=rr
  rw [e2] at e1
  have er:r2=r/\aC eQ is ρ3 = ρ':=by cases e1;exact ⟨rfl,rfl⟩
  obtain ⟨rfl,eρ⟩:=er
  have leave:∀ {σ':St} {H':Hp} {ρ2:Sto} {g2:Nat->Option It3} {R:List It3},Wf K (dg G H1 g1 is) H' σ' ρ2 (R ++ (els ++ (Ts ++ T).map bf)) g2->∃ g3,Wf K G H' σ' (aC eQ is ρ2) (R ++ T) g3:=fun {σ' H' ρ2 g2 R} F =>
   ⟨_,Wf.leave (T:=Ts ++ T) (T':=T) (R:=R) t S (z6 Ts T) (F.sub ((List.Sublist.refl R).append (by
    rw [List.map_append]
    exact (z6 (Ts.map bf) (T.map bf)).trans (z6 els _))))⟩
  have a4:Le K (dg G H1 g1 is) (fun e ρ2=>W e (aC eQ is ρ2)) G W:=⟨rfl,fun H' σ' ρ2 T2 g2 e F he=>by
   obtain ⟨g3,w5⟩:=wc t S H' σ' ρ2 T2 g2 F
   exact ⟨_,[],g3,w5,he⟩⟩
  have s:Le K (dg G H1 g1 is) (fun e ρ2=>W e (aC eQ is ρ2)) G0 W0:=a4.trans le
  refine ⟨fun k m σ' H'=>k<=p.2.length/\m=p.2.length - k/\∃ ρ2 g2,Wf K (dg G H1 g1 is) H' σ' ρ2 (els ++ (Ts ++ T).map bf) g2/\dH bnd b (p.2.drop k) ρ2=some (r2,ρ3),⟨_,Nat.zero_le _,rfl,_,_,w3,e2⟩,?_⟩
  rintro k m σ' H' ⟨hk,rfl,ρ2,g2,F,e4⟩
  obtain ⟨a3,Q⟩:=walk _ H' hM (fun b o U hn=>F.base b o U hn) az
  by_cases D:k < p.2.length
  ·obtain ⟨d,hd⟩:∃ d,p.2[k]?=some d:=⟨_,zV D⟩
   have P:p.2.drop k=d :: p.2.drop (k+1):=by
    rw [List.drop_eq_getElem_cons D]
    rw [zV D] at hd
    cases hd;rfl
   rw [P] at e4
   obtain ⟨go,yld⟩:=a3 k d hd
   refine .inr ⟨go,fun σ5 H5=>∃ ρ5 g5,Wf K (dg G H1 g1 is) H5 σ5 ρ5 (els ++ (Ts ++ T).map bf) g5/\dH bnd b (p.2.drop (k+1)) ρ5=some (r2,ρ3),fun σ5 H5 ⟨ρ5,g5,w5,l⟩=>⟨p.2.length - (k+1),by omega,D,rfl,ρ5,g5,w5,l⟩,fun x M A=>?_⟩
   obtain ⟨u,nu,ud,uf,uv⟩:=yld x M A
   have w5:Wf K (dg G H1 g1 is) M σ' ρ2 (u :: (els ++ (Ts ++ T).map bf)) g2:=F.push nu fun c Y=>F.alls (ys:=els) (fun y A=>⟨.inr (zS _ A),(n y A).1⟩) Y
   have l:(match bnd d ρ2 with
    | none=>none
    | some ρ1=>ac b (fun f=>match f with
     | .nx=>dH bnd b (p.2.drop (k+1))
     | .ct=>dH bnd b (p.2.drop (k+1))
     | .br=>aW .nx
     | .rt d f=>aW (.rt d f)) ρ1)=some (r2,ρ3):=e4
   cases e6:bnd d ρ2 with
   | none=>rw [e6] at l;exact nsE l
   | some ρ6 =>
    rw [e6] at l
    dsimp only at l
    rw [<- uv]
    refine U (dg G H1 g1 is) M σ' ρ2 ρ6 _ g2 u _ le.pr uf w5 (by rw [ud];exact e6) fun σ6 g6 Z=>?_
    unfold ac at l
    cases N:b ρ6 with
    | none=>rw [N] at l;exact nsE l
    | some pr7 =>
     obtain ⟨o7,ρ7⟩:=pr7
     rw [N] at l
     cases o7 with
     | error er =>
      cases l
      refine tS.mk (r:=.error er) s Z N ?_
      show W er (aC eQ is _)
      rw [eρ];exact q
     | ok f =>
      cases f with
      | nx=>exact tS.mk (r:=.ok .nx) s Z N fun σ8 H8 g8 O=>⟨ρ7,g8,O,l⟩
      | ct=>exact tS.mk (r:=.ok .ct) s Z N fun σ8 H8 g8 O=>⟨ρ7,g8,O,l⟩
      | br =>
       cases l
       refine tS.mk (r:=.ok .br) s Z N fun σ8 H8 g8 O=>?_
       obtain ⟨g9,I⟩:=leave (R:=[]) O
       rw [eρ] at I
       exact q _ _ _ I
      | rt d' f' =>
       cases l
       refine tS.mk (r:=.ok (.rt d' f')) s Z N fun x8 σ8 H8 g8 O x1 x2=>?_
       obtain ⟨g9,I⟩:=leave (R:=[x8]) O
       rw [eρ] at I
       exact q x8 _ _ _ I x1 x2
  ·have ek:k=p.2.length:=by omega
   subst ek
   rw [List.drop_length] at e4
   cases e4
   obtain ⟨g9,I⟩:=leave (R:=[]) F
   rw [eρ] at I
   exact .inl ⟨Q,q _ _ _ I⟩
end
end L3
end
section
namespace L3
open PySem L2
def qT (ix:List (Option Nat)) (ρ:Sto):Sto:=ix.map fun o=>match o with
 | some i=>(ρ[i]?).join
 | none=>none
def uncap:List (Option Nat)->Sto->Sto->Option Sto
 | [],_,ρ=>some ρ
 | none :: ix,τ,ρ=>uncap ix τ.tail ρ
 | some i :: ix,τ,ρ=>match (ρ[i]?).join,τ.head? with
  | some (_,f),some (some (d',f'))=>if f'=f\/f'=.z then uncap ix τ.tail (ρ.set i (some (d',f'))) else none
  | _,_=>none
noncomputable def bC (bnd:D->Sto->Option Sto) (c:M3 Bool) (elt:EM):List D->M3 (List D)
 | []=>aW []
 | d :: ds=>fun τ=>match bnd d τ with
  | none=>none
  | some τ1=>ac c (fun b=>if b then ac elt (fun r=>ac (dI r) fun p=>ac (bC bnd c elt ds) fun l=>aW (p.1 :: l)) else bC bnd c elt ds) τ1
def bq (im:IM) (bnd:D->Sto->Option Sto) (c:M3 Bool) (elt:EM) (ix:List (Option Nat)):EM:=ac im fun p=>fun ρ =>
 match bC bnd c elt p.2 (qT ix (aC cD (us ρ (pls p.1)) ρ)) with
 | some (.ok ds,τ)=>if p.2.length < 16777216 then (uncap ix τ (aC cD (us ρ (pls p.1)) ρ)).map fun ρ2=>(.ok (.val (.lst ds) .u),aC eQ (us ρ (pls p.1)) ρ2) else none
 | _=>none
section
variable {K:FG} {G G0:Gm} {W W0:D->Sto->Prop} {H H':Hp} {σ τ:St} {ρ ρ':Sto} {T T':List It3} {g:Nat->Option It3} {x y z:It3} {α β:Type} {ix:List (Option Nat)}
def Inj (ix:List (Option Nat)):Prop:=∀ (j k i:Nat),ix[j]?=some (some i)->ix[k]?=some (some i)->j=k
def wl (ix:List (Option Nat)) (g:Nat->Option It3) (j:Nat):Option It3:=(ix[j]?).join.bind g
def og (ix:List (Option Nat)) (n:Nat) (g:Nat->Option It3):List It3:=(List.range n).filterMap fun i=>if some i ∈ ix then none else g i
def t7 (G:Gm) (ix:List (Option Nat)) (σ:St):Gm:=⟨G.H0,G.bw,fun j=>((ix[j]?).join).isSome,cap ix σ,fun _=>none,G.src,fun j=>(ix[j]?).join.bind G.lv⟩
theorem cZ {j:Nat} (h:wl ix g j=some x):∃ i,ix[j]?=some (some i)/\g i=some x:=by
 unfold wl at h
 cases e:ix[j]? with
 | none=>rw [e] at h;exact nsE h
 | some o =>
  rw [e] at h
  cases o with
  | none=>exact nsE h
  | some i=>exact ⟨i,rfl,h⟩
theorem jA {n:Nat} (h:x ∈ og ix n g):∃ i,some i ∉ ix/\g i=some x:=by
 obtain ⟨i,_,e⟩:=List.mem_filterMap.mp h
 split at e
 ·exact nsE e
 ·rename_i a;exact ⟨i,a,e⟩
theorem sO {n i:Nat} (hi:i < n) (a:some i ∉ ix) (e:g i=some x):x ∈ og ix n g:=List.mem_filterMap.mpr ⟨i,List.mem_range.mpr hi,by rw [if_neg a];exact e⟩
theorem Wf.cap (w:Wf K G H σ ρ T g) (t:Inj ix):Wf K (t7 G ix σ) H (cap ix σ) (qT ix ρ) (og ix ρ.length g ++ T) (wl ix g):=by
 have ne:∀ {i j:Nat},ix[j]?=some (some i)->∀ k,some k ∉ ix->i ≠ k:=fun e k l q=>l (by rw [<- q];exact z5 e)
 refine ⟨by unfold L2.cap qT;rw [zZ,zZ],fun j=>?_,fun j x h=>?_,fun j x h=>?_,fun x s=>?_,fun j k x y n s p=>?_,fun j x h y p=>?_,?_,w.base,fun _ _=>rfl,⟨fun _ _ _ _ _=>rfl,fun _ _ _ _ _ _ _=>rfl,w.fx.bin,fun b o e=>(by cases e),fun j x h z=>?_⟩⟩
 ·unfold wl qT
  rw [z8]
  cases e:ix[j]? with
  | none=>rfl
  | some o =>
   cases o with
   | none=>rfl
   | some i=>exact w.sl i
 ·obtain ⟨i,e1,c⟩:=cZ h
  unfold L2.cap
  rw [z8,e1]
  show some ((σ[i]?).getD none)=_
  rw [w.sv i x c];rfl
 ·obtain ⟨i,_,c⟩:=cZ h
  have ok:=w.okS i x c
  exact ⟨ok.rep,ok.own,ok.src⟩
 ·rcases zX.mp s with h | h
  ·obtain ⟨i,_,e⟩:=jA h
   have ok:=w.okS i x e
   exact ⟨ok.rep,ok.own,ok.src⟩
  ·have ok:=w.okT x h
   exact ⟨ok.rep,ok.own,ok.src⟩
 ·obtain ⟨i,e1,c⟩:=cZ s
  obtain ⟨v,A,u⟩:=cZ p
  exact w.ss i v x y (fun q=>n (t j k i e1 (q ▸ A))) c u
 ·obtain ⟨i,e1,c⟩:=cZ h
  rcases zX.mp p with q | q
  ·obtain ⟨k,l,e⟩:=jA q
   have:=ne e1 k l
   exact ⟨w.ss i k x y this c e,w.ss k i y x (Ne.symm this) e c⟩
  ·exact w.st i x c y q
 ·refine List.pairwise_append.mpr ⟨?_,w.tt,fun a m b r=>?_⟩
  ·unfold og
   rw [List.pairwise_filterMap]
   refine List.pairwise_lt_range.imp fun {i k} lt a m b r=>?_
   have d:(if some i ∈ ix then none else g i)=some a:=m
   have f:(if some k ∈ ix then none else g k)=some b:=r
   split at d
   ·cases d
   ·split at f
    ·cases f
    ·exact ⟨w.ss i k a b (Ab lt) d f,w.ss k i b a (Nat.ne_of_gt lt) f d⟩
  ·obtain ⟨k,l,e⟩:=jA m
   exact w.st k a e b r
 ·obtain ⟨i,e1,c⟩:=cZ h
  show (ix[j]?).join.bind G.lv=_
  rw [e1]
  exact w.fx.lvS i x c z
theorem Wf.perm (w:Wf K G H σ ρ T g) (p:T.Perm T'):Wf K G H σ ρ T' g :=
 ⟨w.len,w.sl,w.sv,w.okS,fun x a=>w.okT x (p.mem_iff.mpr a),w.ss,fun i x e y b=>w.st i x e y (p.mem_iff.mpr b),(p.pairwise_iff fun h=>Apart3.symm h).mp w.tt,w.base,w.pro,w.fx.sub fun x a=>p.mem_iff.mpr a⟩
theorem fO:∀ {ix:List (Option Nat)} {τ ρ ρ2:Sto},uncap ix τ ρ=some ρ2->Inj ix->ρ2.length = ρ.length/\(∀ i,some i ∉ ix->(ρ2[i]?).join=(ρ[i]?).join) /\
  ∀ (j i:Nat),ix[j]?=some (some i)->∃ p q,(ρ[i]?).join=some p/\(τ[j]?).join=some q/\(ρ2[i]?).join=some q/\(q.2=p.2\/q.2=.z)
 | [],τ,ρ,ρ2,e,_=>by cases e;exact ⟨rfl,fun _ _=>rfl,fun j i h=>by simp at h⟩
 | none :: ix,τ,ρ,ρ2,e,hij=>by
  unfold uncap at e
  obtain ⟨h1,h2,h3⟩:=fO e fun j k i a b=>by
   have:=hij (j+1) (k+1) i (by simpa using a) (by simpa using b)
   omega
  refine ⟨h1,fun i hi=>h2 i fun q=>hi (zP _ q),fun j i h=>?_⟩
  cases j with
  | zero=>simp at h
  | succ j =>
   obtain ⟨p,q,a,b,c⟩:=h3 j i (by simpa using h)
   exact ⟨p,q,a,by rw [List.getElem?_tail] at b;exact b,c⟩
 | some i0 :: ix,τ,ρ,ρ2,e,hij=>by
  unfold uncap at e
  cases e1:(ρ[i0]?).join with
  | none=>rw [e1] at e;exact nsE e
  | some p =>
   obtain ⟨d,f⟩:=p
   cases r:τ.head? with
   | none=>rw [e1,r] at e;exact nsE e
   | some o =>
    cases o with
    | none=>rw [e1,r] at e;exact nsE e
    | some q =>
     obtain ⟨d',s⟩:=q
     rw [e1,r] at e
     dsimp only at e
     split at e
     ·rename_i hf
      have g:=cW e1
      have n:some i0 ∉ ix:=fun m=>by
       obtain ⟨k,t,u⟩:=List.mem_iff_getElem.mp m
       have:=hij 0 (k+1) i0 rfl (by simp [t,u])
       omega
      obtain ⟨h1,h2,h3⟩:=fO e fun j k i a b=>by
       have:=hij (j+1) (k+1) i (by simpa using a) (by simpa using b)
       omega
      refine ⟨by rw [h1,List.length_set],fun i hi=>?_,fun j i h=>?_⟩
      ·rw [h2 i fun q=>hi (zP _ q),bB g,if_neg (fun q=>hi (by rw [q];exact zO))]
      ·cases j with
       | zero =>
        simp at h
        subst h
        refine ⟨(d,f),(d',s),e1,?_,?_,hf⟩
        ·rw [List.head?_eq_getElem?] at r;rw [r];rfl
        ·rw [h2 i0 n,bB g,if_pos rfl]
       | succ j =>
        have l:ix[j]?=some (some i):=by simpa using h
        obtain ⟨p,q,a,b,c⟩:=h3 j i l
        have ii:i ≠ i0:=fun z=>n (by rw [<- z];exact z5 l)
        rw [bB g,if_neg ii] at a
        exact ⟨p,q,a,by rw [List.getElem?_tail] at b;exact b,c⟩
     ·exact nsE e
theorem Wf.uncap (w:Wf K G H σ ρ T g) (hH:∀ b o,H b=some o->G.H0 b=some o) (X:Inj ix) (e:L3.uncap ix τρ ρ=some ρ2) (hR:∀ x ∈ R,x.f=.z) (A:Wf K (t7 G ix σ) H' τ' τρ (R ++ (og ix ρ.length g ++ T)) gC) :
  ∃ g2,Wf K G H' σ ρ2 (R ++ T) g2:=by
 obtain ⟨J,h2,h3⟩:=fO e X
 let inv (i:Nat):Option Nat:=(List.range ix.length).find? fun j=>decide (ix[j]?=some (some i))
 have l:∀ i j,inv i=some j->ix[j]?=some (some i):=fun i j h=>by simpa using List.find?_some h
 have r:∀ i,inv i=none->some i ∉ ix:=fun i h m=>by
  obtain ⟨k,hk,ek⟩:=List.mem_iff_getElem.mp m
  have:=List.find?_eq_none.mp h k (List.mem_range.mpr hk)
  simp [hk,ek] at this
 let g2 (i:Nat):Option It3:=match inv i with | some j=>gC j | none=>g i
 have val:∀ i u,g2 i=some u->(∃ j p q,ix[j]?=some (some i)/\gC j=some u/\(ρ[i]?).join=some p/\(τρ[j]?).join=some q/\(q.2=p.2\/q.2=.z))\/(some i ∉ ix/\g i=some u):=fun i u h=>by
  have h':(match inv i with | some j=>gC j | none=>g i)=some u:=h
  cases D:inv i with
  | none=>rw [D] at h';exact .inr ⟨r i D,h'⟩
  | some j =>
   rw [D] at h'
   obtain ⟨p,q,a,b,_,c⟩:=h3 j i (l i j D)
   exact .inl ⟨j,p,q,l i j D,h',a,b,c⟩
 have out:∀ i u,some i ∉ ix->g i=some u->u ∈ og ix ρ.length g:=fun i u C e=>by
  have s:=w.sl i
  rw [e] at s
  exact sO (cW s.symm) C e
 have back:∀ i j u,ix[j]?=some (some i)->gC j=some u->σ[i]?=some (some u.v):=fun i j u B t=>by
  have a:=A.sv j u t
  have b:=A.pro j (by show ((ix[j]?).join).isSome=true;rw [B];rfl)
  rw [a] at b
  have b:some (some u.v)=(L2.cap ix σ)[j]?:=b
  unfold L2.cap at b
  rw [z8,B] at b
  have b:some (some u.v)=some ((σ[i]?).getD none):=b
  cases q:σ[i]? with
  | none=>rw [q] at b;cases b
  | some o=>rw [q] at b;cases b;rfl
 have N:∀ i j u p q,ix[j]?=some (some i)->gC j=some u->(ρ[i]?).join=some p->(τρ[j]?).join=some q->(q.2=p.2\/q.2=.z)->∃ y,g i=some y/\y.v=u.v/\(u.f=y.f\/u.f=.z):=fun i j u p q B t O eq hf=>by
  obtain ⟨y,P,Q,M,y4⟩:=w.slot (d:=p.1) (f:=p.2) O
  have b:=back i j u B t
  rw [y4] at b
  have s:=A.sl j
  rw [t,eq] at s
  have s:some (u.d,u.f)=some q:=s
  refine ⟨y,P,by injection b with b;injection b,?_⟩
  rw [M,show u.f=q.2 by injection s with s;rw [<- s]]
  exact hf
 refine ⟨g2,⟨by rw [J];exact w.len,fun i=>?_,fun i u h=>?_,fun i u h=>?_,fun u hu=>?_,fun i k a b n ha E=>?_,fun i a h b E=>?_,A.tt.sublist ((List.Sublist.refl R).append (z6 _ T)),A.base,w.pro,⟨fun u hu hf=>?_,fun i u h Z hf a Y=>?_,A.fx.bin,fun b o E=>?_,fun i u h J=>?_⟩⟩⟩
 ·show (match inv i with | some j=>gC j | none=>g i).map _=_
  cases D:inv i with
  | none=>rw [h2 i (r i D)];exact w.sl i
  | some j =>
   obtain ⟨p,q,a,b,c,_⟩:=h3 j i (l i j D)
   rw [c,<- b];exact A.sl j
 ·rcases val i u h with ⟨j,p,q,B,t,_⟩ | ⟨C,e⟩
  ·exact back i j u B t
  ·exact w.sv i u e
 ·rcases val i u h with ⟨j,p,q,B,t,_⟩ | ⟨C,e⟩
  ·have ok:=A.okS j u t
   exact ⟨ok.rep,ok.own,ok.src⟩
  ·have ok:=A.okT u (zT _ (zS _ (out i u C e)))
   exact ⟨ok.rep,ok.own,ok.src⟩
 ·have ok:=A.okT u (by
   rcases zX.mp hu with q | q
   ·exact zS _ q
   ·exact zT _ (zT _ q))
  exact ⟨ok.rep,ok.own,ok.src⟩
 ·rcases val i a ha with ⟨j,p,q,B,t,_⟩ | ⟨C,e⟩
  ·rcases val k b E with ⟨W,p',q',F,I,_⟩ | ⟨L,S⟩
   ·exact A.ss j W a b (fun z=>n (by subst z;rw [B] at F;injection F with z;injection z)) t I
   ·exact (A.st j a t b (zT _ (zS _ (out k b L S)))).1
  ·rcases val k b E with ⟨W,p',q',F,I,_⟩ | ⟨L,S⟩
   ·exact (A.st W b I a (zT _ (zS _ (out i a C e)))).2
   ·exact w.ss i k a b n e S
 ·have V:b ∈ R ++ (og ix ρ.length g ++ T):=by
   rcases zX.mp E with q | q
   ·exact zS _ q
   ·exact zT _ (zT _ q)
  rcases val i a h with ⟨j,p,q,B,t,_⟩ | ⟨C,e⟩
  ·exact A.st j a t b V
  ·rcases zX.mp E with q | q
   ·exact ((List.pairwise_append.mp A.tt).2.2 b q a (zS _ (out i a C e))).symm
   ·exact w.st i a e b q
 ·rcases zX.mp hu with q | q
  ·exact absurd (hR u q) hf
  ·exact w.fx.frT u q hf
 ·rcases val i u h with ⟨j,p,q,B,t,O,eq,U⟩ | ⟨C,e⟩
  ·obtain ⟨y,P,Q,M⟩:=N i j u p q B t O eq U
   refine w.fx.frS i y P Z (fun z=>hf ?_) a (by rw [Q];exact Y)
   rcases M with h | h
   ·rw [h];exact z
   ·exact h
  ·exact w.fx.frS i u e Z hf a Y
 ·obtain ⟨o',ho⟩:=w.fx.ob b o E
  have h0:=hH b o' ho
  by_cases q:G.bw b
  ·exact A.fx.bin b q
  ·exact ⟨o',A.base b o' h0 q⟩
 ·rcases val i u h with ⟨j,p,q,B,t,O,eq,U⟩ | ⟨C,e⟩
  ·obtain ⟨y,P,Q,M⟩:=N i j u p q B t O eq U
   rw [<- Q]
   refine w.fx.lvS i y P ?_
   rcases M with h | h
   ·rw [<- h];exact J
   ·rw [h] at J;cases J
  ·exact w.fx.lvS i u e J
theorem qR {J:It} {H1:Hp} {ys els:List It3} {ds:List D} {bnd:D->Sto->Option Sto} {c:M3 Bool} {elt:EM} {tg:TG} {tc:TT} {te:TE} {Gc:Gm} {a:List It3} {j:List D} {τρ τρ':Sto} {gC:Nat->Option It3} {Z:List V->Hp->Prop} {M:Addr->Prop}
  (hz:(16777216:Nat)=sizeLine) (G:∀ x ∈ els,x ∈ a/\x.f=.z)
  (T:∀ H',(∀ b o,H1 b=some o->¬ Gc.bw b->H' b=some o)->(∀ (i:Nat) (d:D),ds[i]?=some d->J.go i H'/\∀ x g,J.yld i H' x g->∃ w,New K H' g (cO els) w/\w.d=d/\w.f=.z/\w.v=x)/\J.stop ds.length H')
  (h0:Gc.H0=H1) (hb:Bnd K Gc.pr tg bnd) (S:∀ σ H Q,tT K Gc (fun _ _=>False) c σ H Q->tc σ H Q) (az:∀ σ H Q,tE K Gc (fun _ _=>False) elt σ H Q->te σ H Q)
  (hlen:ds.length < 16777216) (w:Wf K Gc H1 τ τρ a gC) (e:bC bnd c elt ds τρ=some (.ok j,τρ'))
  (hZ:∀ (us:List It3) (τ':St) (H':Hp) (g':Nat->Option It3),(∀ x ∈ us,x.f=.z)->us.map (·.d)=j->Wf K Gc H' τ' τρ' (us ++ a) g'->Z (us.map (·.v)) H'):nB J tg tc te Z τ H1:=by
 refine ⟨fun i m vs τ' H'=>i<=ds.length/\m=ds.length - i/\vs.length<=i/\∃ (us:List It3) (ρ2:Sto) (g2:Nat->Option It3) (r:List D),(∀ x ∈ us,x.f=.z)/\us.map (·.v)=vs/\Wf K Gc H' τ' ρ2 (us ++ a) g2/\bC bnd c elt (ds.drop i) ρ2=some (.ok r,τρ')/\us.map (·.d) ++ r=j,⟨_,Nat.zero_le _,rfl,z9 _,[],τρ,gC,j,fun _ h=>(by cases h),rfl,w,e,rfl⟩,?_⟩
 rintro i m vs τ1 H2 ⟨hi,rfl,a0,us,ρ2,g2,r,B,q,O,N,k⟩
 refine ⟨by omega,?_⟩
 obtain ⟨W,A⟩:=T H2 fun b o ar hn=>O.base b o (by rw [h0];exact ar) hn
 by_cases n:i < ds.length
 ·obtain ⟨d,hd⟩:∃ d,ds[i]?=some d:=⟨_,zV n⟩
  have t:ds.drop i=d :: ds.drop (i+1):=by
   rw [List.drop_eq_getElem_cons n]
   rw [zV n] at hd
   cases hd;rfl
  rw [t] at N
  obtain ⟨go,yld⟩:=W i d hd
  refine .inr ⟨go,fun s τ5 U=>s.length<=i+1/\∃ (us:List It3) (ρ5:Sto) (R:Nat->Option It3) (r:List D),(∀ x ∈ us,x.f=.z)/\us.map (·.v)=s/\Wf K Gc U τ5 ρ5 (us ++ a) R/\bC bnd c elt (ds.drop (i+1)) ρ5=some (.ok r,τρ')/\us.map (·.d) ++ r=j,
   fun s τ5 U ⟨ax,h5⟩=>⟨ds.length - (i+1),by omega,n,rfl,ax,h5⟩,fun x g E=>?_⟩
  obtain ⟨u,nu,ud,uf,uv⟩:=yld x g E
  have w3:Wf K Gc g τ1 ρ2 (u :: (us ++ a)) g2:=O.push nu fun c hc=>O.alls (ys:=els) (fun y E=>⟨.inr (zT _ (G y E).1),(G y E).2⟩) hc
  have I:(match bnd d ρ2 with
   | none=>none
   | some τ1=>ac c (fun b=>if b then ac elt (fun r=>ac (dI r) fun p=>ac (bC bnd c elt (ds.drop (i+1))) fun l=>aW (p.1 :: l)) else bC bnd c elt (ds.drop (i+1))) τ1)=some (.ok r,τρ'):=N
  cases X:bnd d ρ2 with
  | none=>rw [X] at I;exact nsE I
  | some ρ3 =>
   rw [X] at I
   dsimp only at I
   rw [<- uv]
   refine hb Gc g τ1 ρ2 ρ3 _ g2 u _ rfl uf w3 (by rw [ud];exact X) fun τ4 g4 w4=>?_
   refine S _ _ _ (tT.seq (Le.refl K Gc _) w4 I (fun x P=>by cases P) fun b ρ5 L U R w5=>?_)
   cases b with
   | false =>
    simp only [Ap,if_false] at L ⊢
    exact ⟨by omega,us,ρ5,R,r,B,q,w5,L,k⟩
   | true =>
    simp only [if_true] at L ⊢
    refine az _ _ _ (tE.seq (Le.refl K Gc _) w5 L (fun x P=>by cases P) fun ra ρ6 e6 v H6 ⟨Ts,g6,w6,a6⟩=>?_)
    obtain ⟨p,ρ7,g7,C,F,w7,f1,f2,_,f3⟩:=a6.take w6 e6
    have w8:=Wf.lowT (Ts:=[C]) w7
    unfold ac at F
    cases Y:bC bnd c elt (ds.drop (i+1)) ρ7 with
    | none=>rw [Y] at F;exact nsE F
    | some pr =>
     obtain ⟨o,ρ8⟩:=pr
     rw [Y] at F
     cases o with
     | error x=>cases F
     | ok l =>
      cases F
      refine ⟨by rw [Aj];simp;omega,us ++ [cK C],ρ7,g7,l,fun y E=>?_,by rw [List.map_append,q,<- f3];rfl,?_,Y,?_⟩
      ·rcases zX.mp E with h | h
       ·exact B y h
       ·rw [Ao.mp h];rfl
      ·exact w8.perm (by
        show ([cK C] ++ (us ++ a)).Perm (us ++ [cK C] ++ a)
        rw [<- List.append_assoc]
        exact (List.perm_append_comm).append_right a)
      ·rw [List.map_append,List.append_assoc]
       show us.map (·.d) ++ ((cK C).d :: l)=j
       rw [show (cK C).d=p.1 from f1]
       exact k
 ·have ei:i=ds.length:=by omega
  subst ei
  rw [List.drop_length] at N
  cases N
  rw [List.append_nil] at k
  subst q
  exact .inl ⟨A,hZ us τ1 H2 g2 B k O⟩
end
end L3
end
section
namespace L3
open PySem L2
section
variable {K:FG} {G G0:Gm} {W W0:D->Sto->Prop} {H H':Hp} {σ τ:St} {ρ ρ':Sto} {T T':List It3} {g:Nat->Option It3} {x y z:It3} {α β:Type} {ix:List (Option Nat)}
def bb (ix:List (Option Nat)):Gm:=⟨fun _=>none,fun _=>False,fun j=>((ix[j]?).join).isSome,[],fun _=>none,fun _=>False,fun _=>none⟩
abbrev noX:D->Sto->Prop:=fun _ _=>False
theorem pw (h:G1.pr=(bb ix).pr) (le:Le K G W G1 noX):Le K G W (bb ix) noX:=⟨le.pr.trans h,fun H σ ρ T g e w q=>by
 obtain ⟨_,_,_,_,f⟩:=le.ex H σ ρ T g e w q
 exact f.elim⟩
theorem uE (h:G1.pr=(bb ix).pr) (q:tE K G1 noX m σ H Q):tE K (bb ix) noX m σ H Q:=by
 obtain ⟨G,W,le,r⟩:=q
 exact ⟨G,W,pw h le,r⟩
theorem uz (h:G1.pr=(bb ix).pr) (q:tT K G1 noX m σ H Q):tT K (bb ix) noX m σ H Q:=by
 obtain ⟨G,W,le,r⟩:=q
 exact ⟨G,W,pw h le,r⟩
def cH:M3 Bool:=aW true
theorem xp (h:tT K G0 W0 cH σ H Q):tYes σ H Q:=by
 refine h.use fun G W le ρ T g o ρ' w e q=>?_
 cases e
 exact q _ _ w
theorem iC:∀ {ds a:List D} {τρ τρ':Sto},bC bnd c elt ds τρ=some (.ok a,τρ')->a.length<=ds.length
 | [],a,τρ,τρ',e=>by cases e;exact z9 _
 | d :: ds,a,τρ,τρ',e=>by
  unfold bC at e
  split at e
  ·exact nsE e
  ·rename_i τ1 _
   unfold ac at e
   split at e
   ·exact nsE e
   ·cases e
   ·rename_i b τ2 _
    cases b with
    | false =>
     simp only [Ap,if_false] at e
     have:=iC e
     simp;omega
    | true =>
     simp only [if_true] at e
     split at e
     ·exact nsE e
     ·cases e
     ·split at e
      ·exact nsE e
      ·cases e
      ·split at e
       ·exact nsE e
       ·cases e
       ·rename_i l τ5 h5
        cases e
        have:=iC h5
        simp;omega
theorem mZ (hz:(16777216:Nat)=sizeLine) (E:Inj ix) (X:Bnd K (bb ix).pr tg bnd) (le:Le K G W G0 W0) (w:Wf K G H σ ρ T g) (e:bq im bnd c elt ix ρ=some (o,ρ')) (he:∀ x,o=.error x->W x ρ') (hZ:∀ (us:List It3) (H':Hp) (g':Nat->Option It3) (Ts:List It3) (ds:List D),o=.ok (.val (.lst ds) .u)->(∀ x ∈ us,x.f=.z)->us.map (·.d)=ds->us.length<=16777216->Wf K G H' σ ρ' (us ++ T) g'->Z (us.map (·.v)) H') :
  tI K G0 W0 im σ H fun J H1=>nB J tg (tT K (bb ix) noX c) (tE K (bb ix) noX elt) Z (cap ix σ) H1:=by
 refine tI.seq le w e he fun p ρ1 e1=>?_
 intro J H1 vs Ts g1 ys l a1 S hw
 have O:=us_u (is:=pls p.1) l
 have A:∀ i y,i ∈ pls p.1->g1 i=some y->y.f=.u->i ∈ us ρ1 (pls p.1):=fun i y hi V hf=>rB l hi V hf
 generalize us ρ1 (pls p.1)=is at e1 O A
 have w2:=l.enter is
 obtain ⟨els,k,walk⟩:=hw
 have hM:∀ b,(∃ j y,j ∉ is/\g1 j=some y/\y.f=.u/\y.v=.ref b)->MutAt H1 b:=fun b ⟨j,y,_,V,hf,m⟩=>by
  obtain ⟨_,a,L',v1,v2,_⟩:=(l.okS j y V).own (by rw [hf];intro q;cases q)
  rw [m] at v1;cases v1
  exact (l.okS j y V).rep.inH b (by rw [v2];exact zO)
 have I:∀ y ∈ ys,∀ b ∈ y.L,¬ ∃ j y,j ∉ is/\g1 j=some y/\y.f=.u/\y.v=.ref b:=fun y C b X ⟨j,y',nj,n,hf,m⟩=>by
  have F:y'.f ≠ .z:=by rw [hf];intro q;cases q
  rcases S y C with ⟨i,hi,B⟩ | C
  ·by_cases ij:i=j
   ·subst ij
    rw [B] at n;cases n
    exact nj (A i y hi B hf)
   ·exact l.ss j i y' y (Ne.symm ij) n B F b m X
  ·exact (l.st j y' n y (zS _ C)).1 F b m X
 have t:∀ y ∈ ys,Itm (Ts ++ T) g1 y:=fun y C=>by
  rcases S y C with ⟨i,_,B⟩ | h
  ·exact .inl ⟨i,B⟩
  ·exact .inr (zS _ h)
 have kid:∀ x ∈ els,∀ c ∈ x.L,cX ((Ts ++ T).map bf) (fun j=>if j ∈ is then (g1 j).map bf else g1 j) c/\(H1 c=none\/(G.H0 c=none\/G.src c)):=fun x r c hc=>by
  obtain ⟨nr,sr⟩:=l.kids t ((k x r).2.2 c hc)
  refine ⟨⟨fun i z s hf m=>?_,fun z hz hf m=>?_⟩,.inr sr⟩
  ·have s:(if i ∈ is then (g1 i).map bf else g1 i)=some z:=s
   by_cases q:i ∈ is
   ·rw [if_pos q] at s
    obtain ⟨z0,e0,e1⟩:=zR.mp s
    subst e1
    exact nr.1 i z0 e0 (fun q=>hf (lentF_z.mpr q)) m
   ·rw [if_neg q] at s
    exact nr.1 i z s hf m
  ·obtain ⟨z0,h0,rfl⟩:=z7.mp hz
   exact nr.2 z0 h0 (fun q=>hf (lentF_z.mpr q)) m
 have w3:Wf K (dg G H1 g1 is) H1 σ (aC cD is ρ1) (els ++ (Ts ++ T).map bf) (fun j=>if j ∈ is then (g1 j).map bf else g1 j):=w2.pushAll fun x r=>⟨(k x r).1,(k x r).2.1,fun c hc=>kid x r c hc⟩
 have w4:=w3.cap E
 cases U:bC bnd c elt p.2 (qT ix (aC cD is ρ1)) with
 | none=>rw [U] at e1;exact nsE e1
 | some rr =>
  obtain ⟨o2,τρ⟩:=rr
  rw [U] at e1
  cases o2 with
  | error x=>exact nsE e1
  | ok ds =>
   dsimp only at e1
   split at e1
   ·rename_i hlen
    cases e3:uncap ix τρ (aC cD is ρ1) with
    | none=>rw [e3] at e1;exact nsE e1
    | some ρ3 =>
     rw [e3] at e1
     have Y:o=.ok (.val (.lst ds) .u)/\ρ'=aC eQ is ρ3:=by cases e1;exact ⟨rfl,rfl⟩
     obtain ⟨Y,eρ⟩:=Y
     refine qR (K:=K) (Gc:=t7 (dg G H1 g1 is) ix σ) (els:=els) (M:=fun _=>False) (ys:=ys) hz (fun x r=>⟨zT _ (zS _ r),(k x r).1⟩) (fun H' hk=>walk _ H' hM hk I) rfl X (fun σ' H Q q=>uz (G1:=t7 (dg G H1 g1 is) ix σ) rfl q) (fun σ' H Q q=>uE (G1:=t7 (dg G H1 g1 is) ix σ) rfl q) hlen w4 U fun us τ' H' g' P N w5=>?_
     obtain ⟨g6,w6⟩:=Wf.uncap w3 (fun b o h=>h) E e3 P w5
     have w7:=Wf.leave (T:=Ts ++ T) (T':=T) (R:=us) l O (z6 Ts T) (w6.sub ((List.Sublist.refl us).append (by
      rw [List.map_append]
      exact (z6 (Ts.map bf) (T.map bf)).trans (z6 els _))))
     have hle:us.length<=16777216:=by
      have h1:us.length=ds.length:=by rw [<- N,zZ]
      have h2:=iC U
      omega
     rw [<- eρ] at w7
     exact hZ us H' _ Ts ds Y P N hle w7
   ·exact nsE e1
theorem kD {us:List It3} (w:Wf K G H σ ρ (us ++ T) g) (j:∀ x ∈ us,x.f=.z) (b:H p=none) :
  Wf K G (upd H p (.lst (us.map (·.v)))) σ ρ (⟨.lst (us.map (·.d)),.ref p,p :: (us.map (·.L)).flatten,.u⟩ :: T) g:=by
 have hi:∀ y ∈ us,Itm (us ++ T) g y/\y.f=.z:=fun y i=>⟨.inr (zS _ i),j y i⟩
 have np:p ∉ (us.map (·.L)).flatten:=fun a=>by
  obtain ⟨y,hm,a⟩:=dO a
  obtain ⟨o,k⟩:=((w.itm (hi y hm).1).rep.inH p a).ex
  rw [b] at k;exact nsE k
 have n:New K H (upd H p (.lst (us.map (·.v)))) (cO us) ⟨.lst (us.map (·.d)),.ref p,p :: (us.map (·.L)).flatten,.u⟩:=⟨bo b,.lst aN ((jc fun y i=>(w.itm (hi y i).1).rep).same (bo b)),fun c a=>by
  rcases zU.mp a with e | a
  ·rw [e];exact .inl b
  ·exact .inr (dO a),fun _=>⟨rfl,p,_,rfl,rfl,np,b⟩⟩
 exact (w.push n fun c h=>w.alls hi h).sub (List.Sublist.cons_cons _ (z6 us T))
theorem uI (hz:(16777216:Nat)=sizeLine) (f:Inj ix) (j:Bnd K (bb ix).pr tg bnd) (h:tE K G0 W0 (bq im bnd c elt ix) σ H Q) :
  wL (tI K G0 W0 im) tg (tT K (bb ix) noX c) (tE K (bb ix) noX elt) ix σ H Q:=by
 refine h.use fun G W le ρ T g o ρ' w e q=>?_
 refine mZ hz f j le w e q.err fun us H' g' Ts ds i b a n k=>?_
 subst i a
 intro p l
 have m:=kD k b l
 exact q (.ref p) _ ⟨[_],g',m,Ar.val (⟨.lst (us.map (·.d)),.ref p,p :: (us.map (·.L)).flatten,.u⟩:It3)⟩
theorem nI {i:Nat} (hz:(16777216:Nat)=sizeLine) (l:Inj ix) (n:Bnd K (bb ix).pr tg bnd) (v:G0.pr i=false) (h:tS K G0 W0 (aB i (bq im bnd c elt ix)) E σ H) :
  wP i (tI K G0 W0 im) tg (tT K (bb ix) noX c) (tE K (bb ix) noX elt) ix E σ H:=by
 refine h.use fun G W le ρ T g r ρ' w e q=>?_
 unfold aB ac at e
 cases e1:bq im bnd c elt ix ρ with
 | none=>rw [e1] at e;exact nsE e
 | some pr =>
  obtain ⟨o,ρ1⟩:=pr
  rw [e1] at e
  have a:∀ x,o=.error x->W x ρ1:=fun x t=>by subst t;cases e;exact q
  refine mZ hz l n le w e1 a fun us H' g' Ts ds m k j z s=>?_
  subst m j
  intro p b
  have y:=kD s k b
  have e:(if i < ρ1.length then some ((.ok .nx,ρ1.set i (some (D.lst (us.map (·.d)),Fl.u))):Except D Flw × Sto) else none)=some (r,ρ'):=e
  split at e
  ·rename_i hi
   cases e
   exact q _ _ _ (y.store (f:=.u) hi (by rw [le.pr];exact v) (.inl rfl) (by intro h;cases h))
  ·exact nsE e
end
end L3
end
section
namespace L3
open PySem L2
section
variable {K:FG} {G G0:Gm} {W W0:D->Sto->Prop} {H H':Hp} {σ:St} {ρ ρ':Sto} {T T':List It3} {g:Nat->Option It3} {x y z:It3} {α β:Type}
theorem Wf.mutate {i:Nat} (w:Wf K G H σ ρ T g) (B:g i=some y) (hu:y.f=.u) (ev:y.v=.ref a) (hm:gw d'=true) (rep:Rep K (upd H a o') d' (.ref a) (a :: C)) (na:a ∉ C) (S:∀ c ∈ C,cX T g c/\(G.H0 c=none\/G.src c)):Wf K G (upd H a o') σ (ρ.set i (some (d',.u))) T (fun j=>if j=i then some ⟨d',.ref a,a :: C,.u⟩ else g j):=by
 have l:y.f ≠ .z:=by rw [hu];intro q;cases q
 have W:=w.okS i y B
 obtain ⟨_,a',L',v1,v2,v3,v4⟩:=W.own l
 rw [ev] at v1;cases v1
 have hi:i < ρ.length:=by
  have:=w.sl i
  rw [B] at this
  exact cW this.symm
 have ma:MutAt H a:=W.rep.inH a (by rw [v2];exact zO)
 have val:∀ j u,(if j=i then some (⟨d',.ref a,a :: C,.u⟩:It3) else g j)=some u->(j=i/\u=⟨d',.ref a,a :: C,.u⟩)\/(j ≠ i/\g j=some u):=fun j u h=>by
  by_cases q:j=i
  ·rw [if_pos q] at h;cases h;exact .inl ⟨q,rfl⟩
  ·rw [if_neg q] at h;exact .inr ⟨q,h⟩
 have keep:∀ u,ItOk K G H u->a ∉ u.L->ItOk K G (upd H a o') u:=fun u ou hn=>ou.keep (M:=fun b=>b=a) (fun b o m n=>by rw [ay n];exact m) (fun b e=>by rw [e];exact ma) fun b m e=>hn (by rw [<- e];exact m)
 have X:∀ j u,j ≠ i->g j=some u->a ∉ u.L:=fun j u n e=>w.ss i j y u (Ne.symm n) B e l a ev
 have R:∀ u ∈ T,a ∉ u.L:=fun u s=>(w.st i y B u s).1 l a ev
 have F:∀ b o,H b=some o->∃ P,upd H a o' b=some P:=fun b o m=>by
  by_cases q:b=a
  ·rw [q,aN];exact ⟨_,rfl⟩
  ·rw [ay q];exact ⟨o,m⟩
 refine ⟨by rw [List.length_set];exact w.len,fun j=>?_,fun j u h=>?_,fun j u h=>?_,fun u s=>keep u (w.okT u s) (R u s),fun j k p q n N Z=>?_,fun j u h t I=>?_,w.tt,fun b o e n=>?_,w.pro,⟨w.fx.frT,fun j u h N hf b Q=>?_,fun b m=>?_,fun b o m=>?_,fun j u h O=>?_⟩⟩
 ·rw [bB hi]
  by_cases q:j=i
  ·rw [if_pos q,if_pos q];rfl
  ·rw [if_neg q,if_neg q];exact w.sl j
 ·rcases val j u h with ⟨rfl,rfl⟩ | ⟨n,h⟩
  ·rw [w.sv j y B,ev]
  ·exact w.sv j u h
 ·rcases val j u h with ⟨rfl,rfl⟩ | ⟨n,h⟩
  ·refine ⟨rep,fun _=>⟨hm,a,C,rfl,rfl,na,fun _=>v4 hu⟩,fun c d=>?_⟩
   rcases zU.mp d with e | d
   ·rw [e];exact W.src a (by rw [v2];exact zO)
   ·exact (S c d).2
  ·exact keep u (w.okS j u h) (X j u n h)
 ·rcases val j p N with ⟨E,ep⟩ | ⟨n1,r⟩
  ·rcases val k q Z with ⟨ek,eq⟩ | ⟨Y,A⟩
   ·exact absurd (E.trans ek.symm) n
   ·rw [ep]
    intro _ c x
    cases x
    exact X k q Y A
  ·rcases val k q Z with ⟨ek,eq⟩ | ⟨Y,A⟩
   ·rw [eq]
    intro hf c x d
    rcases zU.mp d with e | d
    ·obtain ⟨_,b,L2,D,U,_⟩:=(w.okS j p r).own hf
     rw [x] at D;cases D
     exact X j p n1 r (by rw [<- e,U];exact zO)
    ·exact (S c d).1.1 j p r hf x
   ·exact w.ss j k p q n r A
 ·rcases val j u h with ⟨E,J⟩ | ⟨n,h'⟩
  ·rw [J]
   refine ⟨fun _ c x=>by cases x;exact R t I,fun hf c x d=>?_⟩
   rcases zU.mp d with e | d
   ·obtain ⟨_,b,L2,D,U,_⟩:=(w.okT t I).own hf
    rw [x] at D;cases D
    exact R t I (by rw [<- e,U];exact zO)
   ·exact (S c d).1.2 t I hf x
  ·exact w.st j u h' t I
 ·have:b ≠ a:=fun z=>by
   subst z
   rcases v4 hu with h | h
   ·rw [e] at h;cases h
   ·exact n h
  rw [ay this];exact w.base b o e n
 ·rcases val j u h with ⟨E,J⟩ | ⟨n,h'⟩
  ·subst E
   rw [J] at Q
   cases Q
   exact w.fx.frS j y B N l a ev
  ·exact w.fx.frS j u h' N hf b Q
 ·obtain ⟨o,V⟩:=w.fx.bin b m
  exact F b o V
 ·obtain ⟨o2,V⟩:=w.fx.ob b o m
  exact F b o2 V
 ·rcases val j u h with ⟨E,J⟩ | ⟨n,h'⟩
  ·rw [J] at O;cases O
  ·exact w.fx.lvS j u h' O
def MutD (K:FG) (r:V->List V->Hp->VK->Prop) (f:D->List D->Option (D × D)):Prop:=∀ (a:Addr) (d:D) (b:List Addr) (as:List It3) (H:Hp) (Q:VK) (p:D × D),Rep K H d (.ref a) (a :: b)->gw d=true->a ∉ b->(∀ x ∈ as,Rep K H x.d x.v x.L)->(∀ x ∈ as,a ∉ x.L)->f d (as.map (·.d))=some p ->
 (∀ (o':HO) (e:List Addr) (w:It3),Rep K (upd H a o') p.1 (.ref a) (a :: e)->gw p.1=true->(∀ c ∈ e,c ∈ b\/cO as c)->w.f=.z->w.d=p.2->Rep K (upd H a o') w.d w.v w.L->(∀ c ∈ w.L,c ∈ b\/cO as c)->Q w.v (upd H a o'))->r (.ref a) (as.map (·.v)) H Q
def chk (ok:D->Bool) (i:Nat):M3 Unit:=fun ρ=>match (ρ[i]?).join with
 | some (d,_)=>if ok d then some (.ok (),ρ) else none
 | none=>none
theorem lN {i:Nat} (e:ac (ab i) k ρ=some (r,ρ')):∃ p,(ρ[i]?).join=some p/\k (.pl i) ρ=some (r,ρ'):=by
 unfold ac ab at e
 cases q:(ρ[i]?).join with
 | none=>rw [q] at e;exact nsE e
 | some p=>rw [q] at e;exact ⟨p,rfl,e⟩
theorem t5 {i:Nat} (e:ac (chk ok i) k ρ=some (r,ρ')):(∀ p,(ρ[i]?).join=some p->ok p.1=true)/\k () ρ=some (r,ρ'):=by
 unfold ac chk at e
 cases q:(ρ[i]?).join with
 | none=>rw [q] at e;exact nsE e
 | some p =>
  rw [q] at e
  dsimp only at e
  cases h:ok p.1 with
  | false=>rw [h] at e;exact nsE e
  | true=>rw [h] at e;exact ⟨fun b a=>by cases a;exact h,e⟩
def mI (ok:D->Bool) (f:D->List D->Option (D × D)) (i:Nat) (ms:M3 (List R3)):EM:=ac (ab i) fun _=>ac (chk ok i) fun _=>ac ms fun rs=>ac (gives rs) fun ds=>fun ρ=>match (ρ[i]?).join with
 | some (d,.u)=>match f d ds with
  | some p=>some (.ok (.val p.2 .z),ρ.set i (some (p.1,.u)))
  | none=>none
 | _=>none
theorem Wf.changed {i:Nat} {as us:List It3} (O:MutD K r f) (w:Wf K G H σ ρ (us ++ T) g) (e:(ρ[i]?).join=some (d,.u)) (U:σ[i]?=some (some v)) (D:∀ y ∈ as,Itm (us ++ T) g y/\y.f=.z) (V:f d (as.map (·.d))=some p) (q:∀ v H',Got K G σ (ρ.set i (some (p.1,.u))) T (.val p.2 .z) v H'->Q v H'):r v (as.map (·.v)) H Q:=by
 obtain ⟨y,C,I,J,t⟩:=w.slot e
 rw [U] at t
 injection t with t
 injection t with t
 have n:y.f ≠ .z:=by rw [J];intro q;cases q
 have E:=w.okS i y C
 obtain ⟨m,a,F,v1,v2,v3,_⟩:=E.own n
 have ra:=E.rep
 rw [v1,v2,I] at ra
 rw [I] at m
 rw [t,v1]
 have na:∀ x ∈ as,a ∉ x.L:=fun x o b=>by
  have:=(w.kid (D x o).1 b fun hf=>absurd (D x o).2 hf).1 i y C n
  exact this v1
 refine O a d F as H Q p ra m v3 (fun x o=>(w.itm (D x o).1).rep) na V fun o' R u W S s1 M Y Z A=>?_
 have k:∀ c,(c ∈ F\/cO as c)->cX (us ++ T) g c/\(G.H0 c=none\/G.src c):=fun c b=>by
  rcases b with b | b
  ·have B:c ∈ y.L:=by rw [v2];exact zP _ b
   exact ⟨w.kid (.inl ⟨i,C⟩) B fun _ l=>by rw [v1] at l;cases l;exact v3 b,E.src c B⟩
  ·exact w.alls D b
 have N:∀ c,(c ∈ F\/cO as c)->c ≠ a:=fun c b z=>(k c b).1.1 i y C n (by rw [z];exact v1)
 have P:=w.mutate (o':=o') C J v1 S W (fun h=>N a (s1 a h) rfl) fun c b=>k c (s1 c b)
 have X:=P.pushAll (ws:=[u]) fun x o=>by
  rw [Ao.mp o]
  refine ⟨M,Z,fun c b=>?_⟩
  have s:=k c (A c b)
  refine ⟨⟨fun j z l hf hz=>?_,s.1.2⟩,s.2⟩
  have l:(if j=i then some (⟨p.1,.ref a,a :: R,.u⟩:It3) else g j)=some z:=l
  by_cases q:j=i
  ·rw [if_pos q] at l
   cases l
   cases hz
   exact N a (A a b) rfl
  ·rw [if_neg q] at l
   exact s.1.1 j z l hf hz
 rw [<- Y,<- M] at q
 exact q u.v _ ⟨[u],_,X.sub ((List.Sublist.refl [u]).append (z6 us T)),.val u⟩
theorem xF {i:Nat} (n:MutD K r f) (hok:∀ d v L H,ok d=true->Rep K H d v L->tyV K Ty v H) (h:tE K G0 W0 (mI ok f i ms) σ H Q):tBM K Ty r (p9 i) (tA K G0 W0 ms) σ H Q:=by
 refine h.use fun G W le ρ T g o ρ' w e q=>?_
 obtain ⟨E,k,e⟩:=lN e
 obtain ⟨B,e⟩:=t5 e
 obtain ⟨D,f0⟩:=E
 obtain ⟨y,C,m,I,j⟩:=w.slot k
 refine ⟨y.v,j,hok D y.v y.L H (B _ k) (by rw [<- m];exact (w.okS i y C).rep),?_⟩
 refine tA.seq le w e q.err fun rs ρ1 e1 vs H1 Ts g1 s a1=>?_
 obtain ⟨ds,ρ2,g2,a,_,F,_,ys,A,f1,f2⟩:=a1.gives s e1
 subst f1 f2
 cases c:(ρ2[i]?).join with
 | none=>rw [c] at a;exact nsE a
 | some p3 =>
  obtain ⟨t,x⟩:=p3
  rw [c] at a
  cases x with
  | u =>
   dsimp only at a
   cases b:f t (ys.map (·.d)) with
   | none=>rw [b] at a;exact nsE a
   | some p =>
    rw [b] at a
    cases a
    exact F.changed n c j A b q
  | l=>exact nsE a
  | z=>exact nsE a
def jv (t:V->V->V->Hp->(Hp->Prop)->Prop):V->List V->Hp->VK->Prop:=fun x vs H Q=>∃ k v,vs=[k,v]/\t x k v H fun H'=>Q .non H'
def rS (f:D->List D->Option (D × D)) (i:Nat) (mk b:EM):SM:=ac b fun a=>ac (ab i) fun _=>ac mk fun c=>ac (gives [c,a]) fun ds=>fun ρ=>match (ρ[i]?).join with
 | some (d,.u)=>match f d ds with
  | some p=>some (.ok .nx,ρ.set i (some (p.1,.u)))
  | none=>none
 | _=>none
theorem xt {i:Nat} (x:MutD K (jv t) f) (h:tS K G0 W0 (rS f i mk mv) E σ H):rJ (tE K G0 W0 mv) (gSub (p9 i) (tE K G0 W0 mk) t) E σ H:=by
 refine h.use fun G W le ρ T g r ρ' w e q=>?_
 refine tE.seq le w e q.err fun A ρ1 e1 v H1 ⟨Ts,g1,k,a1⟩=>?_
 obtain ⟨P,J,e1⟩:=lN e1
 obtain ⟨d0,f0⟩:=P
 obtain ⟨y,y1,U,V,m⟩:=k.slot J
 refine ⟨y.v,m,?_⟩
 ·refine tE.seq le k e1 q.err fun s ρ2 N O H2 ⟨Us,g2,S,a2⟩=>?_
  have R:Ars σ [s,A] [O,v] (([] ++ Ts) ++ Us):=.cons a2 (.cons a1 .nil)
  have F:Wf K G H2 σ ρ2 ((([] ++ Ts) ++ Us) ++ T) g2:=S.perm (by
   rw [List.nil_append,<- List.append_assoc]
   exact (List.perm_append_comm).append_right T)
  obtain ⟨ds,ρ3,g3,a,_,o,_,ys,I,f1,f2⟩:=R.gives F N
  subst f1
  cases j:(ρ3[i]?).join with
  | none=>rw [j] at a;exact nsE a
  | some p3 =>
   obtain ⟨B,D⟩:=p3
   rw [j] at a
   cases D with
   | u =>
    dsimp only at a
    cases b:f B (ys.map (·.d)) with
    | none=>rw [b] at a;exact nsE a
    | some p =>
     rw [b] at a
     cases a
     have:=o.changed (Q:=fun _ H'=>E.nx σ H') x j m I b fun M H' ⟨n,Z,C,X⟩=>q _ _ _ (C.sub (z6 n T))
     rw [f2] at this
     obtain ⟨Y,M,c,L⟩:=this
     cases c
     exact L
   | l=>exact nsE a
   | z=>exact nsE a
end
end L3
end
section
namespace L3
open PySem L2
structure RE (X:Cx) (G0:Gm) (W0:D->Sto->Prop) (e:Expr) (m:EM):Prop where
 h:PE X e (tE X.K G0 W0 m)
structure RT (X:Cx) (G0:Gm) (W0:D->Sto->Prop) (e:Expr) (m:M3 Bool):Prop where
 h:PT X e (tT X.K G0 W0 m)
structure RW (X:Cx) (G0:Gm) (W0:D->Sto->Prop) (e:Expr) (m:M3 Bool):Prop where
 h:PW X e (tT X.K G0 W0 m)
structure RA (X:Cx) (G0:Gm) (W0:D->Sto->Prop) (es:List Expr) (m:M3 (List R3)):Prop where
 h:PA X es (tA X.K G0 W0 m)
structure RS (X:Cx) (G0:Gm) (W0:D->Sto->Prop) (s:Stmt) (m:SM):Prop where
 h:PS X s (tS X.K G0 W0 m)
structure RSs (X:Cx) (G0:Gm) (W0:D->Sto->Prop) (s:List Stmt) (m:SM):Prop where
 h:PSs X s (tS X.K G0 W0 m)
structure RI (X:Cx) (G0:Gm) (W0:D->Sto->Prop) (tg iter:Expr) (m:IM):Prop where
 h:PI X tg iter (tI X.K G0 W0 m)
structure RG (X:Cx) (pr:Nat->Bool) (target:Expr) (bnd:D->Sto->Option Sto):Prop where
 h:∃ tg,PG X target tg/\Bnd X.K pr tg bnd
structure RGs (X:Cx) (pr:Nat->Bool) (targets:List Expr) (bnd:List D->Sto->Option Sto):Prop where
 h:∃ tg,PGs X targets tg/\uu X.K pr tg bnd
theorem PE.imp (h:PE X e t) (f:∀ σ H Q,t' σ H Q->t σ H Q):PE X e t':=fun pins s σ H Q I q=>h pins s σ H Q I (f σ H Q q)
theorem PT.imp (h:PT X e t) (f:∀ σ H Q,t' σ H Q->t σ H Q):PT X e t':=fun pins s σ H Q I q=>h pins s σ H Q I (f σ H Q q)
theorem PW.imp (h:PW X e t) (f:∀ σ H Q,t' σ H Q->t σ H Q):PW X e t':=fun wh pins s σ H Q I q=>h wh pins s σ H Q I (f σ H Q q)
theorem PA.imp (h:PA X e t) (f:∀ σ H Q,t' σ H Q->t σ H Q):PA X e t':=fun pos pins s σ H Q I q=>h pos pins s σ H Q I (f σ H Q q)
theorem PS.imp (h:PS X e t) (f:∀ D σ H,t' D σ H->t D σ H):PS X e t':=fun pins s σ H D I q=>h pins s σ H D I (f D σ H q)
theorem PSs.imp (h:PSs X e t) (f:∀ D σ H,t' D σ H->t D σ H):PSs X e t':=fun pins s σ H D I q=>h pins s σ H D I (f D σ H q)
theorem PI.imp (h:PI X tg e t) (f:∀ σ H R,t' σ H R->t σ H R):PI X tg e t':=fun pins s σ H R I q=>h pins s σ H R I (f σ H R q)
theorem szl:(16777216:Nat)=sizeLine:=by rw [sizeLine_eq]
section
variable {X:Cx} {G0:Gm} {W0:D->Sto->Prop} {a b c e:Expr} {es:List Expr} {pos:Pos} {ma mb mc m:EM} {ms:M3 (List R3)} {t u:M3 Bool} {eW:List Expr}
theorem kW (i:Nat) (b:X.N[i]?=some x) (c:Vis X.env.scope x) (hd:(x == ("__debug__":Str))=false) (a:(x == ("__classdict__":Str))=false):RE X G0 W0 (.Name x pos) (ab i):=⟨PE.imp (kZ b c hd a) fun _ _ _ h=>xC h⟩
theorem ym:RE X G0 W0 (.Constant (.int i) j pos) (mC (.int i)):=⟨PE.imp sM fun _ _ _ h=>eS (fun _=>.int i) h⟩
theorem re_bl:RE X G0 W0 (.Constant (.bool i) j pos) (mC (.bl i)):=⟨PE.imp pe_bl fun _ _ _ h=>eS (fun _=>.bl i) h⟩
theorem yk:RE X G0 W0 (.Constant .none j pos) (mC .non):=⟨PE.imp yH fun _ _ _ h=>eS (fun _=>.non) h⟩
theorem yh:RE X G0 W0 (.Constant (.str i) j pos) (mC (.str i)):=⟨PE.imp sK fun _ _ _ h=>eS (fun _=>.str i) h⟩
theorem l8 {i:Int} (a:Gl X x) (hm:X.mg x=some (.int i tk)) (hd:(x == ("__debug__":Str))=false):RE X G0 W0 (.Name x pos) (mC (.int i)):=⟨PE.imp (vE (v:=V.int i) a hm ⟨_,rfl⟩ hd) fun _ _ _ h=>eS (fun _=>.int i) h⟩
theorem fR (d:OpR X (binaryOp op) r) (hd:OpD X.K r f) (c:RE X G0 W0 a ma) (e:RE X G0 W0 b mb):RE X G0 W0 (.BinOp a op b pos) (af f ma mb):=⟨PE.imp (pe_op d c.h e.h) fun _ _ _ h=>kK hd h⟩
theorem re_un (c:UnR X (unaryOp op) r) (hd:UnD X.K r f) (b:RE X G0 W0 a ma):RE X G0 W0 (.UnaryOp op a pos) (mUn f ma):=⟨PE.imp (pe_un c b.h) fun _ _ _ h=>wH hd h⟩
theorem nV (d:OpR X (compareOp op) r) (hd:OpD X.K r f) (c:RE X G0 W0 a ma) (e:RE X G0 W0 b mb) (hm:behindInMarks op b=false):RE X G0 W0 (.Compare a [op] [b] pos) (af f ma mb):=⟨PE.imp (vH d c.h e.h hm) fun _ _ _ h=>kK hd h⟩
theorem re_ix (e:IxR X r) (hd:OpD X.K r f) (d:RE X G0 W0 a ma) (g:RE X G0 W0 b mb) (c:pZ b):RE X G0 W0 (.Subscript a b pos) (af f ma mb):=⟨PE.imp (pe_ix e d.h g.h c) fun _ _ _ h=>kK hd h⟩
theorem yo (c:RE X G0 W0 a ma) (d:RE X G0 W0 (.BoolOp .And (b :: eW) pos) mb):RE X G0 W0 (.BoolOp .And (a :: b :: eW) pos) (jU ma mb):=⟨PE.imp (yK c.h d.h) fun _ _ _ h=>xH h⟩
theorem re_or (c:RE X G0 W0 a ma) (d:RE X G0 W0 (.BoolOp .Or (b :: eW) pos) mb):RE X G0 W0 (.BoolOp .Or (a :: b :: eW) pos) (mOr ma mb):=⟨PE.imp (pe_or c.h d.h) fun _ _ _ h=>tE_or h⟩
theorem yi (h:RE X G0 W0 a ma):RE X G0 W0 (.BoolOp op [a] pos) ma:=⟨yF h.h⟩
theorem yj (b:RE X G0 W0 a ma):RE X G0 W0 (.UnaryOp .Not a pos) (wb ma):=⟨PE.imp (yG b.h) fun _ _ _ h=>xE h⟩
def jG (f a:D->D->Option (D × Fl)) (ma mb mc:EM):EM:=ac ma fun ra=>ac mb fun rb=>ac (der ra) fun da=>ac (der rb) fun db=>ac (aR ((f da db).bind fun p=>asB p.1)) fun k=>if k then ac mc fun rc=>ac (der rb) fun db=>ac (der rc) fun b=>aR ((a db b).map fun p=>R3.val p.1 p.2) else aW (.val (.bl false) .z)
theorem xW (b:RE X G0 W0 a ma) (he:∀ whole,isTrue a X.env whole=(do let v <- whole;standAt a.pos;holding [v] (truthy v))):RT X G0 W0 a (cB ma):=⟨PT.imp (yx b.h he) fun _ _ _ h=>xr h⟩
theorem rt_w (h:RW X G0 W0 a t):RT X G0 W0 a t:=⟨h.h.pt⟩
theorem xS (b:RT X G0 W0 a t):RW X G0 W0 (.BoolOp .Or [a] pos) t:=⟨yw b.h⟩
theorem rw_or (c:RT X G0 W0 a t) (d:RW X G0 W0 (.BoolOp .Or (b :: eW) pos) u):RW X G0 W0 (.BoolOp .Or (a :: b :: eW) pos) (cOr t u):=⟨PW.imp (pw_or c.h d.h) fun _ _ _ h=>tT_or h⟩
theorem xX (b:RT X G0 W0 a t):RT X G0 W0 (.UnaryOp .Not a pos) (f9 t):=⟨PT.imp (yy b.h) fun _ _ _ h=>xq h⟩
theorem yq:RA X G0 W0 [] ae:=⟨PA.imp sN fun _ _ _ h=>xI h⟩
theorem vn (c:RE X G0 W0 e m) (a:RA X G0 W0 es ms) (b:starEach (e :: es) X.env=(false,eval e X.env) :: starEach es X.env):RA X G0 W0 (e :: es) (aa m ms):=⟨PA.imp (k6 c.h a.h b) fun _ _ _ h=>uJ h⟩
theorem yg (h:RA X G0 W0 es ms):RE X G0 W0 (.Tuple es x1 pos) (aF ms):=⟨PE.imp (yE h.h) fun _ _ _ h=>xD szl h⟩
theorem yl (h:RA X G0 W0 es ms):RE X G0 W0 (.List es pos) (cq ms):=⟨PE.imp (yI h.h) fun _ _ _ h=>xG szl h⟩
theorem dL {id:String} (g:cv X (.builtin id) r) (hd:d6 X.K r f) (i:Gl X x) (hm:X.mg x=none) (d:bootBuiltins x=some (.builtin id)) (c:RA X G0 W0 (e :: es) ms) (j:x ≠ "__name__") (a:(x == ("__debug__":Str))=false) (he:starEach (e :: es) X.env=(false,eval e X.env) :: starEach es X.env) (b:(backTo pos (starEach es X.env)).any (·.1)=false):RE X G0 W0 (.Call (.Name x p) (e :: es) [] pos) (aq f ms):=⟨PE.imp (mi g i hm d c.h j a he b) fun _ _ _ h=>jp hd h⟩
theorem fD (g:cv X (.type T) r) (hd:d6 X.K r f) (i:Gl X x) (hm:X.mg x=none) (d:bootBuiltins x=some (.type T)) (c:RA X G0 W0 (e :: es) ms) (j:x ≠ "__name__") (a:(x == ("__debug__":Str))=false) (he:starEach (e :: es) X.env=(false,eval e X.env) :: starEach es X.env) (b:(backTo pos (starEach es X.env)).any (·.1)=false):RE X G0 W0 (.Call (.Name x p) (e :: es) [] pos) (aq f ms):=⟨PE.imp (qr g i hm d c.h j a he b) fun _ _ _ h=>jp hd h⟩
variable {st:Stmt} {sts:List Stmt} {sm sn:SM}
theorem u3:RSs X G0 W0 [] eU:=⟨PSs.imp vw fun _ _ _ h=>xx h⟩
theorem r6 (h1:RS X G0 W0 st sm) (h2:RSs X G0 W0 sts sn):RSs X G0 W0 (st :: sts) (au sm sn):=⟨PSs.imp (sD h1.h h2.h) fun _ _ _ h=>xv h⟩
theorem uZ (h1:RS X G0 W0 st sm):RSs X G0 W0 [st] sm:=⟨vv h1.h⟩
theorem u5 (he:RE X G0 W0 e m) (a:swapsWith e none pos.line X.env=pure false):RS X G0 W0 (.Expr e pos) (gm m):=⟨PS.imp (vz he.h a) fun _ _ _ h=>uA h⟩
theorem xZ (np:Nat) (a:∀ i,np<=i->G0.pr i=false) (he:RE X G0 W0 e m):RS X G0 W0 (.Return (some e) pos) (bj np m):=⟨PS.imp (yA he.h) fun _ _ _ h=>xw a h⟩
theorem rs_if (b:RT X G0 W0 c t) (a:RSs X G0 W0 x sm) (d:RSs X G0 W0 y sn):RS X G0 W0 (.If c x y pos) (sIf t sm sn):=⟨PS.imp (ps_if b.h a.h d.h) fun _ _ _ h=>tS_if h⟩
theorem sd (i:Nat) (b:X.N.Nodup) (hi:X.N[i]?=some x) (c:Loc X.env.scope x) (he:RE X G0 W0 e m) (a:swapsWith e (some (.Name x pos')) pos.line X.env=pure false) (hf:X.fn x=true\/X.env.scope.names.lookup x=some .local) (d:G0.pr i=false):RS X G0 W0 (.Assign [.Name x pos'] e pos) (aB i m):=⟨PS.imp (yz b hi c he.h a hf) fun _ _ _ h=>xu d h⟩
theorem r9 (a:PassesOwn (model X.prog X.w) X.A X.env X.xe) (b:RT X G0 W0 c t) (d:RSs X G0 W0 body sm):RS X G0 W0 (.While c body [] pos) (c7 t sm):=⟨PS.imp (sE a b.h d.h) fun _ _ _ h=>rE h⟩
theorem x4 (b:PassesOwn (model X.prog X.w) X.A X.env X.xe) (c:X.calm=true) (hi:RI X G0 W0 tg iter im) (e:RG X G0.pr tg bnd) (d:RSs X G0 W0 body sm) (a:∀ x,foldedSetIterable iter X.env x=pure x):RS X G0 W0 (.For tg iter body [] pos) (cw im bnd sm):=by
 obtain ⟨g,h1,h2⟩:=e.h
 exact ⟨PS.imp (yB b c hi.h h1 d.h a) fun _ _ _ h=>xy h2 h⟩
theorem oW (i:Nat) (b:X.N.Nodup) (hi:X.N[i]?=some x) (c:Loc X.env.scope x) (hf:X.fn x=true\/X.env.scope.names.lookup x=some .local) (a:pr i=false):RG X pr (.Name x pos) (aj i):=⟨_,gq b hi c hf,fv a⟩
theorem vg:RGs X pr [] jZ:=⟨_,pd,nh⟩
theorem sh (h1:RG X pr e bn) (h2:RGs X pr es bs) (a:(assignEach (e :: es) X.env).map (·.2)=assign e X.env :: (assignEach es X.env).map (·.2)):RGs X pr (e :: es) (bD bn bs):=by
 obtain ⟨g,a1,a2⟩:=h1.h
 obtain ⟨b,b1,b2⟩:=h2.h
 exact ⟨_,jx a1 b1 a,iF a2 b2⟩
theorem ye {k n:Nat} (b:X.calm=true) (h:RGs X pr es bs) (c:(assignEach es X.env).length=n) (a:(assignEach es X.env).findIdx? (·.1)=none):RG X pr (.Tuple es k pos) (jY n bs):=by
 obtain ⟨d,b1,b2⟩:=h.h
 exact ⟨_,sJ b b1 c a,pR b2⟩
theorem vj (NY:List Str) (ix:List (Option Nat)) (f:X.calm=true) (hi:RI X G0 W0 tg iter im) (e:∀ s H C fp,PTs (aE X NY scope s H C fp) ifs (tT X.K (bb ix) noX cm)) (he:∀ s H C fp,RE (aE X NY scope s H C fp) (bb ix) noX elt em) (g:fk scope X.N X.env.scope NY ix=true) (c:Inj ix) (d:∀ x,foldedSetIterable iter X.env x=pure x) (b:∃ a,Bnd X.K (bb ix).pr a bnd/\∀ s H C fp,PG (aE X NY scope s H C fp) tg a):RE X G0 W0 (.ListComp elt [⟨tg,iter,ifs,0⟩] scope pos) (bq im bnd cm em ix):=by
 obtain ⟨a,b1,b2⟩:=b
 exact ⟨PE.imp (vG NY ix f hi.h b2 e (fun s H C fp=>(he s H C fp).h) g d) fun _ _ _ h=>uI szl c b1 h⟩
end
end L3
end
section
namespace L3
open PySem L2
noncomputable def am (F:Fn) (ms:M3 (List R3)):EM:=ac ms fun rs=>fun ρ=>match prs (frz (mS rs) ρ) rs with
 | none=>none
 | some ps=>match F ps with
  | none=>none
  | some (.ok p,qs)=>if qs.length=ps.length then some (.ok (.val p.1 p.2),back rs ps qs (frz (mS rs) ρ)) else none
  | some (.error _,_)=>none
def qb (K:FG) (F:Fn):Sp:=fun vs H Q _=>∃ (ps:List It3) (p:D × Fl) (fs:List (D × Fl)),vs=ps.map (·.v)/\(∀ p ∈ ps,Arg K H p)/\ps.Pairwise Apart3/\F (ps.map fun p=>(p.d,p.f))=some (.ok p,fs) /\
 ∀ x qs H',Behind K H H' ps qs x->x.d=p.1->x.f=p.2->qs.map (fun q=>(q.d,q.f))=fs->Q x.v H'
section
variable {K:FG} {G G0:Gm} {W W0:D->Sto->Prop} {H H':Hp} {σ:St} {ρ ρ':Sto} {T T':List It3} {g:Nat->Option It3} {x y z:It3} {α β:Type}
theorem rG (h:tE K G0 W0 (am F ms) σ H Q):tA K G0 W0 ms σ H fun vs H1=>qb K F vs H1 Q E0:=by
 refine h.use fun G W le ρ T g o ρ' w e q=>?_
 refine tA.seq le w e q.err fun rs ρ1 e1 vs H1 Ts g1 t a1=>?_
 obtain ⟨g2,d,N⟩:=Wf.frz (is:=mS rs) t
 cases k:prs (L3.frz (mS rs) ρ1) rs with
 | none=>rw [k] at e1;exact nsE e1
 | some pfs =>
  rw [k] at e1
  dsimp only at e1
  have hd:∀ i,2<=(pls rs).count i->∀ y,g2 i=some y->y.f=.z:=fun i D y n=>by
   have hm:i ∈ mS rs:=Aq.mpr ⟨List.count_pos_iff.mp (by omega),by simpa using D⟩
   have s1:=d.sl i
   rw [n] at s1
   have L:∃ y0,g1 i=some y0:=by
    cases M:g1 i with
    | some y0=>exact ⟨y0,rfl⟩
    | none =>
     exfalso
     have s2:=t.sl i
     rw [M] at s2
     have:=mQ (is:=mS rs) s2.symm
     rw [this] at s1
     cases s1
   obtain ⟨y0,l⟩:=L
   obtain ⟨R,b,_,u⟩:=N i y0 l
   rw [n] at b
   cases b
   exact u hm
  obtain ⟨ps,f1,f2,E,f4,A⟩:=Ars.args a1 d hd k
  have hit:∀ p ∈ ps,Itm (Ts ++ T) g2 p:=fun p j=>by
   rcases f4 p j with ⟨i,_,I⟩ | h
   ·exact .inl ⟨i,I⟩
   ·exact .inr (zS _ h)
  have c:∀ p ∈ ps,Arg K H1 p:=fun p j=>⟨(d.itm (hit p j)).rep,fun hf=>by
   obtain ⟨m,a,L',v1,v2,v3,_⟩:=(d.itm (hit p j)).own hf
   exact ⟨m,a,L',v1,v2,v3⟩⟩
  subst f2
  cases b:F pfs with
  | none=>rw [b] at e1;exact nsE e1
  | some r =>
   obtain ⟨out,fs⟩:=r
   rw [b] at e1
   cases out with
   | ok p =>
    dsimp only at e1
    split at e1
    ·cases e1
     refine ⟨ps,p,fs,rfl,c,E,by rw [f1];exact b,?_⟩
     intro x qs H' B C O P
     obtain ⟨g',S,J⟩:=Wf.after d k f1 f4 A B.toBehindX
     have s:=J x B.rep B.own B.src B.apx
     rw [P] at s
     rw [<- C,<- O] at q
     exact q x.v H' ⟨[x],g',s,.val x⟩
    ·exact nsE e1
   | error er=>exact nsE e1
def df (b:Bool) (p:It3):It3:=if b then cK p else p
theorem ko:∀ {mask:List Bool} {ps:List It3},(List.zipWith df mask ps).map (fun p=>(p.d,p.f))=List.zipWith qD mask (ps.map fun p=>(p.d,p.f))
 | [],_=>rfl
 | _ :: _,[]=>rfl
 | b :: mask,p :: ps=>by
  simp only [List.zipWith_cons_cons,Ad,ko]
  cases b <;> rfl
theorem qC {i:Nat} (h:(List.zipWith df mask ps)[i]?=some q):∃ b p,mask[i]?=some b/\ps[i]?=some p/\q=df b p:=by
 rw [List.getElem?_zipWith] at h
 cases e1:mask[i]? with
 | none=>rw [e1] at h;exact nsE h
 | some b =>
  cases a:ps[i]? with
  | none=>rw [e1,a] at h;exact nsE h
  | some p=>rw [e1,a] at h;cases h;exact ⟨b,p,rfl,rfl,rfl⟩
theorem mJ {i:Nat} (a:ps.length=mask.length) (h:ps[i]?=some p):∃ b,mask[i]?=some b/\(List.zipWith df mask ps)[i]?=some (df b p):=by
 have hi:i < mask.length:=by have:=(z4.mp h).1;omega
 refine ⟨mask[i],zV hi,?_⟩
 rw [List.getElem?_zipWith,zV hi,h]
theorem de (b:Bool) (p:It3):(df b p).d=p.d/\(df b p).v=p.v/\(df b p).L=p.L/\((df b p).f=p.f\/(df b p).f=.z):=by
 cases b
 ·exact ⟨rfl,rfl,rfl,.inl rfl⟩
 ·exact ⟨rfl,rfl,rfl,.inr rfl⟩
theorem NoRoot.low (h:NoRoot a b) (d:a'.v=a.v) (hf:a'.f=a.f\/a'.f=.z) (g:b'.L=b.L):NoRoot a' b':=fun q c e=>by
 rw [g]
 rcases hf with f | f
 ·exact h (by rw [<- f];exact q) c (by rw [<- d];exact e)
 ·exact absurd f q
def prM (mask:List Bool) (i:Nat):Bool:=match mask[i]? with
 | some b=>!b
 | none=>false
theorem vX {f:α->β} {l:List α} {i:Nat} {a:α} (h:l[i]?=some a):(l.map f)[i]?=some (f a):=by rw [z8,h];rfl
theorem pJ {n:Nat} (hn:mask.length<=n) (h:qb K (fnM mask n m) vs H Q E) :
  ∃ G:Gm,G.pr=prM mask/\tS K G noX m { nx:=fun _ H'=>Q .non H',rt:=Q } (vs.map some ++ List.replicate (n - vs.length) none) H:=by
 obtain ⟨ps,p,fs,rfl,Z,hp,l,q⟩:=h
 unfold fnM at l
 rw [zZ] at l
 split at l
 ·rename_i hl
  rw [<- ko] at l
  generalize w:List.zipWith df mask ps=g at l
  have az:g.length=ps.length:=by rw [<- w,List.length_zipWith];omega
  have R:g.map (·.v)=ps.map (·.v):=by
   refine List.ext_getElem? fun i=>?_
   rw [z8,z8]
   cases e:ps[i]? with
   | none=>rw [List.getElem?_eq_none (by have:=List.getElem?_eq_none_iff.mp e;omega)]
   | some u =>
    obtain ⟨b,_,t⟩:=mJ (mask:=mask) hl e
    rw [w] at t
    rw [t]
    show some (df b u).v=some u.v
    rw [(de b u).2.1]
  have up:∀ (i:Nat) (u:It3),g[i]?=some u->∃ b s,mask[i]?=some b/\ps[i]?=some s/\u=df b s:=fun i u e=>by rw [<- w] at e;exact qC e
  have A:∀ u ∈ g,∃ b s,s ∈ ps/\u=df b s:=fun u hu=>by
   obtain ⟨i,hi,e⟩:=List.mem_iff_getElem.mp hu
   obtain ⟨b,s,_,t,y⟩:=up i u (by rw [zV hi,e])
   exact ⟨b,s,z5 t,y⟩
  have O:∀ u ∈ g,Arg K H u:=fun u hu=>by
   obtain ⟨b,s,h0,rfl⟩:=A u hu
   obtain ⟨e1,t,y,Y⟩:=de b s
   refine ⟨by rw [e1,t,y];exact (Z s h0).rep,fun hf=>?_⟩
   rw [e1,t,y]
   refine (Z s h0).own fun z=>hf ?_
   rcases Y with f | f
   ·rw [f];exact z
   ·exact f
  have M:g.Pairwise Apart3:=by
   rw [List.pairwise_iff_getElem]
   intro i j hi hj lt
   obtain ⟨b,s,_,t,y⟩:=up i _ (zV hi)
   obtain ⟨F,ax,_,U,T⟩:=up j _ (zV hj)
   have ap:=cC hp (fun _ _=>Apart3.symm) (Ab lt) t U
   rw [y,T]
   obtain ⟨_,a2,V,S⟩:=de b s
   obtain ⟨_,b2,b3,b4⟩:=de F ax
   exact ⟨ap.1.low a2 S b3,ap.2.low b2 b4 V⟩
  have N:∀ (i:Nat) (u:It3),g[i]?=some u->u.f ≠ .z->prM mask i=true:=fun i u e hf=>by
   obtain ⟨b,s,e1,t,y⟩:=up i u e
   unfold prM
   rw [e1]
   cases b with
   | false=>rfl
   | true=>rw [y] at hf;exact absurd rfl hf
  have alls:∀ c,cO g c->cO ps c:=fun c ⟨u,hu,I⟩=>by
   obtain ⟨b,s,h0,rfl⟩:=A u hu
   exact ⟨s,h0,by rw [<- (de b s).2.2.1];exact I⟩
  have lift:∀ {H':Hp} {qs:List It3},BehindX K H H' g qs->BehindX K H H' ps qs:=fun {H' qs} B=>by
   refine ⟨fun b o hb hn=>B.frame b o hb fun u hu hf R=>?_,Paired.ofGet ?_ fun k u v eu ev=>?_,B.apart⟩
   ·obtain ⟨F,s,h0,rfl⟩:=A u hu
    obtain ⟨_,t,_,Y⟩:=de F s
    rcases Y with f | f
    ·exact hn s h0 (by rw [<- f];exact hf) (by rw [<- t];exact R)
    ·rw [f] at hf;cases hf
   ·rw [<- az];exact Paired.length B.back
   ·obtain ⟨b,_,t⟩:=mJ (mask:=mask) hl eu
    rw [w] at t
    have b1:=Paired.at B.back t ev
    obtain ⟨a1,a2,V,S⟩:=de b u
    refine ⟨fun hz=>?_,by rw [b1.v,a2],?_,b1.arg,fun c I=>(b1.src c I).imp id (alls c),fun hf F P=>?_⟩
    ·have:df b u=u:=by
      cases b
      ·rfl
      ·obtain ⟨d,v,L,f⟩:=u
       have hz:f=.z:=hz
       subst hz;rfl
     rw [<- this]
     exact b1.z (by rw [this];exact hz)
    ·rcases b1.f with h | h
     ·rcases S with f | f
      ·exact .inl (h.trans f)
      ·exact .inr (h.trans f)
     ·exact .inr h
    ·rcases S with f | f
     ·exact b1.there (by rw [f];exact hf) F (by rw [a2];exact P)
     ·-- lowered: as it was
      obtain ⟨_,a,L',v1,v2,_⟩:=(Z u (z5 eu)).own (by rw [hf];intro q;cases q)
      rw [P] at v1;cases v1
      have X:=b1.z f
      have r:=b1.arg.rep
      rw [X,a1,a2,V] at r
      exact (r.inH F (by rw [v2];exact zO)).ex
  have ar:g.length<=n:=by omega
  have wf:=rA (K:=K) (H:=H) (n:=n) (pr:=prM mask) ar O M N
  rw [R] at wf
  refine ⟨gOf H (prM mask) ((ps.map (·.v)).map some ++ List.replicate (n - (ps.map (·.v)).length) none) g,rfl,?_⟩
  have h0:∀ (i:Nat) (u:It3),g[i]?=some u->((ps.map (·.v)).map some ++ List.replicate (n - (ps.map (·.v)).length) none)[i]?=some (some u.v):=fun i u e=>kc (by rw [<- R];exact vX e)
  unfold fn0 at l
  cases e:m (iS n (g.map fun p=>(p.d,p.f))) with
  | none=>rw [e] at l;exact nsE l
  | some rr =>
   obtain ⟨r,ρ2⟩:=rr
   rw [e] at l
   refine tS.mk (r:=r) (Le.refl K _ _) wf e ?_
   have fin:∀ {x:It3} {σ':St} {H':Hp} {g':Nat->Option It3} {d:D} {f:Fl},Wf K (gOf H (prM mask) ((ps.map (·.v)).map some ++ List.replicate (n - (ps.map (·.v)).length) none) g) H' σ' ρ2 [x] g'->x.d=d->x.f=f ->
     ((fI ρ2 0 (g.map fun p=>(p.d,p.f))).map fun fs=>((.ok (d,f),fs):Except D (D × Fl) × List (D × Fl)))=some (.ok p,fs)->Q x.v H':=fun {x σ' H' g' d f} J xd xf l=>by
    cases C:fI ρ2 0 (g.map fun p=>(p.d,p.f)) with
    | none=>rw [C] at l;exact nsE l
    | some fs' =>
     rw [C] at l
     cases l
     obtain ⟨qs,B,X⟩:=oN (n:=n) O M N h0 J C
     have BX:=lift B.toBehindX
     exact q x qs H' ⟨BX,B.rep,B.own,fun c I=>(B.src c I).imp id (alls c),B.apx⟩ xd xf X
   cases r with
   | error er=>
    dsimp only at l
    cases C:fI ρ2 0 (g.map fun p=>(p.d,p.f)) with
    | none=>rw [C] at l;exact nsE l
    | some fs'=>rw [C] at l;cases l
   | ok fl =>
    cases fl with
    | nx =>
     intro σ' H' g' J
     obtain ⟨Ts,g2,w2,a2⟩:=J.const .non
     obtain ⟨x,rfl,x1,W,x3⟩:=a2.val_inv
     have:=fin w2 x1 W l
     rw [x3] at this
     exact this
    | br=>exact nsE l
    | ct=>exact nsE l
    | rt d f =>
     intro x σ' H' g' J x1 W
     exact fin J x1 W l
 ·exact nsE l
end
abbrev aI (P:Program) (w:World) (K:FG) (mg:Str->Option Value) (base:Heap) (x:Str) (k:Nat) (ps:List Str) (F:Fn):Prop:=Callee P w K mg base x k ps (qb K F)
theorem bc {k:Nat} {nn:Nat} (D:Def K mg x st) (S:FnScope N ps (ah st)) (b:mask.length=ps.length) (c:N.length=nn) (g:∀ (kV doc pm:Value) (an:Option Addr) (a ct:Value) (us:List Value),us.length=ps.length->bindArgs (PySem.W.fnOf x x (ba st) (aM st) (ah st) .none kV doc pm an a ct) ⟨us,[]⟩=pure (ps.zip us)) (body:∀ (a:Value) (A:Around) (outer:List Env) (s:Shared) (H:Hp) (E:XK) (f:Addr) (G:Gm),Room k (A.deeper (PyProof.Rows.envOfC x (ah st) s.heap.objs.size f a))->G.pr=prM mask->RSs (mU CX0 P w K mg base N x (ah st) f a A outer s H E).nox G noX (aM st) m) :
  aI P w K mg base x (k+1) ps (fnM mask nn m):=by
 refine D.callee g fun f fd F=>F.ok S (fun vs H Q E h=>?_) fun a A outer s H vs Q E i h=>?_
 ·obtain ⟨l,p,fs,rfl,_,_,d,_⟩:=h
  unfold fnM at d
  rw [zZ] at d ⊢
  split at d
  ·rename_i e;rw [e,b]
  ·exact nsE d
 ·have hle:mask.length<=nn:=by
   rw [b,<- c]
   have:=congrArg List.length S.pre
   rw [Al] at this
   omega
  obtain ⟨G,j,n⟩:=pJ hle h
  subst c
  exact ⟨_,(body a A outer s H E f G i j).h,n⟩
theorem vm {k:Nat} (c:aI X.prog X.w X.K X.mg X.base x k ps F) (d:Room k X.A) (f:RA X G0 W0 (e :: es) ms) (g:Gl X x) (a:(x == ("__debug__":Str))=false) (he:starEach (e :: es) X.env=(false,eval e X.env) :: starEach es X.env) (b:(backTo pos (starEach es X.env)).any (·.1)=false):RE X G0 W0 (.Call (.Name x p) (e :: es) [] pos) (am F ms) :=
 ⟨PE.imp (pe_fn c d f.h g a he b) fun _ _ _ h=>rG h⟩
end L3
end
section
namespace L3
open PySem L2
def orD (f g:D->D->Option (D × Fl)) (a b:D):Option (D × Fl):=match f a b with
 | some p=>some p
 | none=>g a b
section
variable {K:FG} {H:Hp} {Ks:Addr->Prop} {d:D} {v:V} {L:List Addr} {X:Cx}
theorem c8 (r:Rep K H d v []):New K H H Ks ⟨d,v,[],.z⟩:=⟨Same.refl _,r,fun _ h=>(by cases h),fun h=>absurd rfl h⟩
theorem mo (r:Rep K H d v L) (h:∀ c ∈ L,Ks c):New K H H Ks ⟨d,v,L,.z⟩:=⟨Same.refl _,r,fun c a=>.inr (h c a),fun h=>absurd rfl h⟩
theorem sZ (a:H p=none) (r:Reps (Rep K H) ds vs L) (h:∀ c ∈ L,Ks c):New K H (upd H p (.lst vs)) Ks ⟨.lst ds,.ref p,p :: L,.u⟩:=by
 have np:p ∉ L:=fun b=>by obtain ⟨o,d⟩:=(r.inH p b).ex;rw [a] at d;exact nsE d
 refine ⟨bo a,.lst aN (r.same (bo a)),fun c b=>?_,fun _=>⟨rfl,p,L,rfl,rfl,np,a⟩⟩
 rcases zU.mp b with e | b
 ·rw [e];exact .inl a
 ·exact .inr (h c b)
theorem sY (a:H p=none) (r:Reps (Rep K H) ds vs L) (h:∀ c ∈ L,Ks c):New K H (upd H p (.tup vs)) Ks ⟨.tup ds,.ref p,L,.z⟩ :=
 ⟨bo a,.tup aN (r.same (bo a)),fun c b=>.inr (h c b),fun h=>absurd rfl h⟩
theorem fW (b:y ∈ ys) (h:Arg K H y) (hm:gw y.d=false):∀ c ∈ y.L,dq ys c:=fun c a=>⟨y,b,a,fun hf=>by
 have:=(h.own hf).1
 rw [hm] at this;cases this⟩
theorem mK (g:y ∈ ys) (h:Arg K H y) (d:y.v=.ref a) (b:y.L=a :: L):∀ c ∈ L,dq ys c:=fun c f=>⟨y,g,by rw [b];exact zP _ f,fun hf e=>by
 obtain ⟨_,i,L',v1,v2,v3⟩:=h.own hf
 rw [d] at v1;cases v1
 rw [b] at v2;cases v2
 rw [d] at e;cases e
 exact v3 f⟩
theorem OpD.or (h:OpD K r f) (h':OpD K r' g):OpD K (fun x y H Q=>r x y H Q\/r' x y H Q) (orD f g):=fun a b H Q p ra rb e q=>by
 unfold orD at e
 cases c:f a.d b.d with
 | some p'=>rw [c] at e;cases e;exact .inl (h a b H Q _ ra rb c q)
 | none=>rw [c] at e;exact .inr (h' a b H Q p ra rb e q)
def dG (C:Int->Int->Bool) (g:Int->Int->D):D->D->Option (D × Fl)
 | .int i,.int j=>if C i j then some (g i j,.z) else none
 | _,_=>none
theorem fF (f:∀ i j,Cb i j=true->C i j) (d:∀ i j H,Rep K H (gd i j) (g i j) []):OpD K (rI C g) (dG Cb gd):=fun a b H Q p ra rb e q=>by
 obtain ⟨da,r,h,o⟩:=a
 obtain ⟨db,l,m,n⟩:=b
 obtain ⟨ra,k⟩:=ra
 obtain ⟨rb,ob⟩:=rb
 dsimp only at ra rb
 cases da <;> try (exact nsE e)
 rename_i i
 obtain ⟨rfl,rfl⟩:=ra.view
 cases db <;> try (exact nsE e)
 rename_i j
 obtain ⟨rfl,rfl⟩:=rb.view
 have e:(if Cb i j then some (gd i j,Fl.z) else none)=some p:=e
 split at e
 ·rename_i c
  cases e
  exact ⟨i,j,rfl,rfl,f i j c,q ⟨gd i j,g i j,[],.z⟩ H (c8 (d i j H)) rfl rfl⟩
 ·exact nsE e
theorem rI_of:rI0 g=rI (fun _ _=>True) g:=by
 funext x y H Q
 unfold rI0 rI
 apply propext
 constructor
 ·rintro ⟨i,j,a,b,c⟩;exact ⟨i,j,a,b,trivial,c⟩
 ·rintro ⟨i,j,a,b,_,c⟩;exact ⟨i,j,a,b,c⟩
theorem fi (a:∀ i j H,Rep K H (gd i j) (g i j) []):OpD K (rI0 g) (dG (fun _ _=>true) gd):=by
 rw [rI_of]
 exact fF (fun _ _ _=>trivial) a
abbrev nC:Int->Int->Bool:=fun _ _=>true
abbrev addI:=dG nC fun i j=>.int (i+j)
abbrev gf:=dG nC fun i j=>.int (i - j)
abbrev eZ:=dG (fun i j=>decide ((-(2 ^ 64) < i/\i < 2 ^ 64)\/(-(2 ^ 64) < j/\j < 2 ^ 64))) fun i j=>.int (i * j)
abbrev mr:=dG (fun _ j=>decide (0 < j)) fun i j=>.int (i % j)
abbrev nZ:=dG (fun i j=>decide (0<=j/\j<=1000000/\i.natAbs < 2 ^ 64)) fun i j=>.int (i ^ j.toNat)
abbrev ltI:=dG nC fun i j=>.bl (decide (i < j))
abbrev leI:=dG nC fun i j=>.bl (decide (i<=j))
abbrev gtI:=dG nC fun i j=>.bl (decide (j < i))
theorem od_addI:OpD K (rI0 fun i j=>.int (i+j)) addI:=fi fun i j _=>.int _
theorem vM:OpD K (rI0 fun i j=>.int (i - j)) gf:=fi fun i j _=>.int _
theorem vP:OpD K (rI CMul fun i j=>.int (i * j)) eZ:=fF (fun i j h=>by simpa [CMul,rh,uq] using h) fun i j _=>.int _
theorem vQ:OpD K (rI (fun _ j=>0 < j) fun i j=>.int (i % j)) mr:=fF (fun i j h=>by simpa [CMul,rh,uq] using h) fun i j _=>.int _
theorem vN:OpD K (rI uq fun i j=>.int (i ^ j.toNat)) nZ:=fF (fun i j h=>by simpa [CMul,rh,uq] using h) fun i j _=>.int _
theorem od_lt:OpD K (rI0 fun i j=>.bl (decide (i < j))) ltI:=fi fun i j _=>.bl _
theorem sU:OpD K (rI0 fun i j=>.bl (decide (i<=j))) leI:=fi fun i j _=>.bl _
theorem wS:OpD K (rI0 fun i j=>.bl (decide (j < i))) gtI:=fi fun i j _=>.bl _
def wv:D->D->Option (D × Fl)
 | .tup xs,.tup ys=>if xs.length+ys.length<=16777216 then some (.tup (xs ++ ys),.z) else none
 | _,_=>none
def wx:D->D->Option (D × Fl)
 | .lst xs,.lst ys=>if xs.length+ys.length<=16777216 then some (.lst (xs ++ ys),.u) else none
 | _,_=>none
def ww:D->D->Option (D × Fl)
 | .str xs,.str ys=>if xs.length+ys.length<=16777216 then some (.str (xs ++ ys),.z) else none
 | _,_=>none
theorem Reps.len (r:Reps (Rep K H) ds vs L):ds.length=vs.length:=by
 induction r with
 | nil=>rfl
 | cons _ _ ih=>simp [ih]
theorem Reps.append (r:Reps (Rep K H) ds vs L) (b:Reps (Rep K H) ds' vs' L'):Reps (Rep K H) (ds ++ ds') (vs ++ vs') (L ++ L'):=by
 induction r with
 | nil=>exact b
 | cons a _ ih=>rw [List.append_assoc];exact .cons a ih
theorem Reps.nil_iff (r:Reps (Rep K H) ds vs L):ds=[] ↔ vs=[]:=by cases r <;> simp
def kX (K:FG):R2:=fun x y H Q=>∃ a b ys,x=.ref a/\y=.ref b/\SqT K H a []/\SqT K H b ys/\Q (.ref b) H
theorem sS:OpR X (binaryOp .Add) (kX X.K):=by
 intro pins s σ H x y v u Q I t A h
 obtain ⟨a,b,ys,rfl,rfl,o,p,q⟩:=h
 cases t
 cases A
 obtain ⟨g,w,z,_⟩:=I.tuple o
 obtain ⟨k,C,p2,_⟩:=I.tuple p
 have e:g=[]:=w.nil_iff.mpr rfl
 subst e
 obtain ⟨⟨cls,B,data,sl⟩,m,j,n,hd⟩:=id z
 obtain ⟨⟨l,f,data2,i⟩,d,c,r,hd2⟩:=id p2
 simp only at j hd c hd2
 subst j hd c hd2
 exact concat_meets ⟨_,m,rfl⟩ ⟨_,d,rfl⟩ noFill_tuple_add seq_tuple_add PySem.F.slot_tuple_add PySem.F.entry_tuple_add (PySem.F.args_tuple_add_2 _ _)
   (PyProof.Rows.tuple_addW0 a b _ _ n r B f sl i (by simp)) ⟨m,d,⟨.ref b,H,I,rfl,q⟩⟩
theorem od_catT:OpD K (fun x y H Q=>o6 K x y H Q\/kX K x y H Q) wv:=fun a b H Q p ra rb e q=>by
 obtain ⟨da,B,k,t⟩:=a
 obtain ⟨db,A,l,s⟩:=b
 obtain ⟨ra,r⟩:=ra
 obtain ⟨rb,ob⟩:=rb
 dsimp only at ra rb
 cases da <;> try (exact nsE e)
 rename_i xs
 obtain ⟨j,vs,rfl,f,rs⟩:=ra.view
 cases db <;> try (exact nsE e)
 rename_i ys
 obtain ⟨g,ws,rfl,i,d⟩:=rb.view
 have e:(if xs.length+ys.length<=16777216 then some (D.tup (xs ++ ys),Fl.z) else none)=some p:=e
 split at e
 ·rename_i v
  cases e
  by_cases n:vs=[]
  ·have m:=rs.nil_iff.mpr n
   subst n m
   refine .inr ⟨j,g,ws,rfl,rfl,SqT.of f,SqT.of i,?_⟩
   exact q ⟨.tup ys,.ref g,l,.z⟩ H (mo (.tup i d) (fW (y:=⟨.tup ys,.ref g,l,s⟩) (zP _ (Ao.mpr rfl)) ⟨.tup i d,ob⟩ rfl)) rfl rfl
  ·refine .inl ⟨j,g,vs,ws,rfl,rfl,SqT.of f,SqT.of i,n,by rw [<- rs.len,<- d.len,<- szl];exact v,fun hw=>?_,fun hw p w=>?_⟩
   ·have o:=d.nil_iff.mpr hw
    subst o
    refine q ⟨.tup (xs ++ []),.ref j,k,.z⟩ H (mo (by rw [List.append_nil];exact .tup f rs) (fW (y:=⟨.tup xs,.ref j,k,t⟩) zO ⟨.tup f rs,r⟩ rfl)) rfl rfl
   ·refine q ⟨.tup (xs ++ ys),.ref p,k ++ l,.z⟩ _ (sY w (rs.append d) fun c u=>?_) rfl rfl
    rcases zX.mp u with h | h
    ·exact fW (y:=⟨.tup xs,.ref j,k,t⟩) zO ⟨.tup f rs,r⟩ rfl c h
    ·exact fW (y:=⟨.tup ys,.ref g,l,s⟩) (zP _ (Ao.mpr rfl)) ⟨.tup i d,ob⟩ rfl c h
 ·exact nsE e
theorem vT:OpD K vo wx:=fun a b H Q p ra rb e q=>by
 obtain ⟨da,w,f,r⟩:=a
 obtain ⟨db,v,i,o⟩:=b
 obtain ⟨ra,m⟩:=ra
 obtain ⟨rb,ob⟩:=rb
 dsimp only at ra rb
 cases da <;> try (exact nsE e)
 rename_i xs
 obtain ⟨j,vs,f,rfl,rfl,k,rs⟩:=ra.view
 cases db <;> try (exact nsE e)
 rename_i ys
 obtain ⟨g,ws,i,rfl,rfl,l,d⟩:=rb.view
 have e:(if xs.length+ys.length<=16777216 then some (D.lst (xs ++ ys),Fl.u) else none)=some p:=e
 split at e
 ·rename_i s
  cases e
  refine ⟨j,g,vs,ws,rfl,rfl,k,l,by rw [<- rs.len,<- d.len,<- szl];exact s,fun p t=>?_⟩
  refine q ⟨.lst (xs ++ ys),.ref p,p :: (f ++ i),.u⟩ _ (sZ t (rs.append d) fun c n=>?_) rfl rfl
  rcases zX.mp n with h | h
  ·exact mK (y:=⟨.lst xs,.ref j,j :: f,r⟩) zO ⟨.lst k rs,m⟩ rfl rfl c h
  ·exact mK (y:=⟨.lst ys,.ref g,g :: i,o⟩) (zP _ (Ao.mpr rfl)) ⟨.lst l d,ob⟩ rfl rfl c h
 ·exact nsE e
theorem od_catS:OpD K (fun x y H Q=>∃ i j,x=.str i/\y=.str j/\i.length+j.length<=sizeLine/\Q (.str (i ++ j)) H) ww:=fun a b H Q p ra rb e q=>by
 obtain ⟨da,m,d,l⟩:=a
 obtain ⟨db,g,h,k⟩:=b
 obtain ⟨ra,f⟩:=ra
 obtain ⟨rb,ob⟩:=rb
 dsimp only at ra rb
 cases da <;> try (exact nsE e)
 rename_i i
 obtain ⟨rfl,rfl⟩:=ra.view
 cases db <;> try (exact nsE e)
 rename_i j
 obtain ⟨rfl,rfl⟩:=rb.view
 have e:(if i.length+j.length<=16777216 then some (D.str (i ++ j),Fl.z) else none)=some p:=e
 split at e
 ·rename_i c
  cases e
  exact ⟨i,j,rfl,rfl,by rw [<- szl];exact c,q ⟨.str (i ++ j),.str (i ++ j),[],.z⟩ H (c8 (.str _)) rfl rfl⟩
 ·exact nsE e
abbrev aQ:=orD addI (orD ww (orD wv wx))
theorem yX:OpD K (fun x y H Q=>rI0 (fun i j=>.int (i+j)) x y H Q\/((∃ i j,x=.str i/\y=.str j/\i.length+j.length<=sizeLine/\Q (.str (i ++ j)) H)\/((o6 K x y H Q\/kX K x y H Q)\/vo x y H Q))) aQ:=od_addI.or (od_catS.or (od_catT.or vT))
theorem vK:OpR X (binaryOp .Add) (fun x y H Q=>rI0 (fun i j=>.int (i+j)) x y H Q\/((∃ i j,x=.str i/\y=.str j/\i.length+j.length<=sizeLine/\Q (.str (i ++ j)) H)\/((o6 X.K x y H Q\/kX X.K x y H Q)\/vo x y H Q))):=op_add.or (op_add_str.or ((op_catT.or sS).or yT))
def eqS:D->D->Option Bool
 | .non,.non=>some true | .non,.int _=>some false | .int _,.non=>some false | .non,.bl _=>some false | .bl _,.non=>some false | .non,.str _=>some false | .str _,.non=>some false
 | .int i,.int j=>some (decide (i=j)) | .bl i,.bl j=>some (decide (i=j)) | .str i,.str j=>some (decide (i=j))
 | .int _,.str _=>some false | .str _,.int _=>some false | .bl _,.str _=>some false | .str _,.bl _=>some false
 | _,_=>none
theorem tO (ra:Rep K H a u L) (rb:Rep K H b v L') (e:eqS a b=some k):xQ u v=true/\k=decide (u=v):=by
 cases a <;> cases b <;> first | exact nsE e | (obtain ⟨rfl,rfl⟩:=ra.view;obtain ⟨rfl,rfl⟩:=rb.view;cases e;exact ⟨rfl,by simp⟩)
def k8:D->Option (D × Fl)
 | .int i=>some (.int (-i),.z)
 | _=>none
theorem xn:UnD K (rU fun i=>.int (-i)) k8:=fun a H Q p ra e q=>by
 obtain ⟨da,f,b,d⟩:=a
 obtain ⟨ra,c⟩:=ra
 dsimp only at ra
 cases da <;> try (exact nsE e)
 obtain ⟨rfl,rfl⟩:=ra.view
 cases e
 exact ⟨_,rfl,q ⟨_,_,[],.z⟩ H (c8 (.int _)) rfl rfl⟩
theorem Reps.at:∀ {ds:List D} {vs:List V} {L:List Addr} {i:Nat} {d:D},Reps (Rep K H) ds vs L->ds[i]?=some d->∃ v L',vs[i]?=some v/\Rep K H d v L'/\∀ c ∈ L',c ∈ L
 | _,_,_,_,_,.nil,h=>by simp at h
 | _,_,_,0,_,.cons r _,h=>by simp at h;subst h;exact ⟨_,_,rfl,r,fun c a=>zS _ a⟩
 | _,_,_,i+1,_,.cons _ t,h=>by
  obtain ⟨v,L',h1,h2,h3⟩:=Reps.at (i:=i) t (by simpa using h)
  exact ⟨v,L',by simpa using h1,h2,fun c a=>zT _ (h3 c a)⟩
theorem Reps.atI {i:Int} (r:Reps (Rep K H) ds vs L) (h:atI ds i=some d):∃ v L',atI vs i=some v/\Rep K H d v L'/\∀ c ∈ L',c ∈ L:=by
 unfold L2.atI at h ⊢
 rw [<- r.len]
 cases e:ixN ds.length i with
 | none=>rw [e] at h;exact nsE h
 | some j=>rw [e] at h;exact r.at h
def ixD:D->D->Option (D × Fl)
 | .lst xs,.int i=>(atI xs i).map fun d=>(d,.z)
 | .fls xs,.int i=>(atI xs i).map fun d=>(d,.z)
 | .tup xs,.int i=>(atI xs i).map fun d=>(d,.z)
 | _,_=>none
theorem od_ix:OpD K (fun x y H Q=>sy K x y H Q\/su K x y H Q) ixD:=fun a b H Q p ra rb e q=>by
 obtain ⟨da,s,k,l⟩:=a
 obtain ⟨db,n,o,r⟩:=b
 obtain ⟨rb,ob⟩:=rb
 have g:=ra
 obtain ⟨ra,m⟩:=ra
 dsimp only at ra rb
 cases da <;> try (exact nsE e)
 all_goals (cases db <;> try (exact nsE e))
 all_goals (rename_i xs i;obtain ⟨rfl,rfl⟩:=rb.view)
 ·obtain ⟨f,vs,rfl,h,rs⟩:=ra.view
  obtain ⟨d,h1,h2⟩:=zR.mp (show (atI xs i).map (fun d=>(d,Fl.z))=some p from e)
  subst h2
  obtain ⟨v,L',g1,g2,g3⟩:=rs.atI h1
  refine .inr ⟨f,vs,i,v,rfl,rfl,SqT.of h,g1,q ⟨d,v,L',.z⟩ H (mo g2 fun c j=>?_) rfl rfl⟩
  exact fW (y:=⟨.tup xs,.ref f,k,l⟩) zO g rfl c (g3 c j)
 ·obtain ⟨f,vs,k,rfl,rfl,h,rs⟩:=ra.view
  obtain ⟨d,h1,h2⟩:=zR.mp (show (atI xs i).map (fun d=>(d,Fl.z))=some p from e)
  subst h2
  obtain ⟨v,L',g1,g2,g3⟩:=rs.atI h1
  refine .inl ⟨f,vs,i,v,rfl,rfl,SqL.of h,g1,q ⟨d,v,L',.z⟩ H (mo g2 fun c j=>?_) rfl rfl⟩
  exact mK (y:=⟨.lst xs,.ref f,f :: k,l⟩) zO g rfl rfl c (g3 c j)
 ·obtain ⟨f,vs,rfl,h,rs⟩:=ra.view
  obtain ⟨d,h1,h2⟩:=zR.mp (show (atI xs i).map (fun d=>(d,Fl.z))=some p from e)
  subst h2
  obtain ⟨v,L',g1,g2,g3⟩:=rs.atI h1
  refine .inl ⟨f,vs,i,v,rfl,rfl,h.sq,g1,q ⟨d,v,L',.z⟩ H (mo g2 fun c j=>?_) rfl rfl⟩
  exact fW (y:=⟨.fls xs,.ref f,k,l⟩) zO g rfl c (g3 c j)
theorem ix_ok:IxR X (fun x y H Q=>sy X.K x y H Q\/su X.K x y H Q):=ix_list.or zk
end
end L3
end
section
namespace L3
open PySem L2
section
variable {K:FG} {H:Hp} {Ks:Addr->Prop} {d:D} {v:V} {L:List Addr} {X:Cx}
def c1 (f:D->Option (D × Fl)):List D->Option (D × Fl)
 | [d]=>f d
 | _=>none
def c2 (f:D->D->Option (D × Fl)):List D->Option (D × Fl)
 | [d,d']=>f d d'
 | _=>none
theorem gb {ys:List It3} (e:c1 f (ys.map (·.d))=some p):∃ y,ys=[y]/\f y.d=some p:=by
 match ys,e with
 | [],e=>exact nsE e
 | [y],e=>exact ⟨y,rfl,e⟩
 | _ :: _ :: _,e=>exact nsE e
theorem lG {ys:List It3} (e:c2 f (ys.map (·.d))=some p):∃ y z,ys=[y,z]/\f y.d z.d=some p:=by
 match ys,e with
 | [],e=>exact nsE e
 | [_],e=>exact nsE e
 | [y,z],e=>exact ⟨y,z,rfl,e⟩
 | _ :: _ :: _ :: _,e=>exact nsE e
def iX:D->Option (D × Fl)
 | .lst xs=>some (.int xs.length,.z)
 | .fls xs=>some (.int xs.length,.z)
 | .tup xs=>some (.int xs.length,.z)
 | _=>none
abbrev cE:=c1 iX
theorem zA:d6 K (fun xs H Q=>∃ p ys,xs=[.ref p]/\(SqL K H p ys\/SqT K H p ys)/\Q (.int ys.length) H) cE:=fun ys H Q p ra e q=>by
 obtain ⟨y,rfl,d⟩:=gb e
 clear e
 have e:=d
 clear d
 have c:=(ra y zO).rep
 obtain ⟨da,h,f,g⟩:=y
 dsimp only at c e
 cases da <;> try (exact nsE e)
 ·rename_i xs
  obtain ⟨b,vs,rfl,a,rs⟩:=c.view
  cases e
  exact ⟨b,vs,rfl,.inr (SqT.of a),by rw [<- rs.len];exact q ⟨_,_,[],.z⟩ H (c8 (.int _)) rfl rfl⟩
 ·rename_i xs
  obtain ⟨b,vs,f,rfl,rfl,a,rs⟩:=c.view
  cases e
  exact ⟨b,vs,rfl,.inl (SqL.of a),by rw [<- rs.len];exact q ⟨_,_,[],.z⟩ H (c8 (.int _)) rfl rfl⟩
 ·rename_i xs
  obtain ⟨b,vs,rfl,a,rs⟩:=c.view
  cases e
  exact ⟨b,vs,rfl,.inl a.sq,by rw [<- rs.len];exact q ⟨_,_,[],.z⟩ H (c8 (.int _)) rfl rfl⟩
def tupQ:D->Option (D × Fl)
 | .lst xs=>some (.tup xs,.z)
 | .tup xs=>some (.tup xs,.z)
 | _=>none
abbrev jQ:=c1 tupQ
theorem zy:d6 K (fun xs H Q=>∃ p ys,xs=[.ref p]/\((SqL K H p ys/\∀ l,H l=none->Q (.ref l) (upd H l (.tup ys)))\/(SqT K H p ys/\Q (.ref p) H))) jQ:=fun ys H Q p ra e q=>by
 obtain ⟨y,rfl,g⟩:=gb e
 clear e
 have e:=g
 clear g
 have f:=ra y zO
 have d:=f.rep
 obtain ⟨da,j,b,h⟩:=y
 dsimp only at d e
 cases da <;> try (exact nsE e)
 ·rename_i xs
  obtain ⟨a,vs,rfl,c,rs⟩:=d.view
  cases e
  exact ⟨a,vs,rfl,.inr ⟨SqT.of c,q ⟨.tup xs,.ref a,b,.z⟩ H (mo (.tup c rs) (fW (y:=⟨.tup xs,.ref a,b,h⟩) zO f rfl)) rfl rfl⟩⟩
 ·rename_i xs
  obtain ⟨a,vs,b,rfl,rfl,c,rs⟩:=d.view
  cases e
  exact ⟨a,vs,rfl,.inl ⟨SqL.of c,fun l i=>q ⟨.tup xs,.ref l,b,.z⟩ _ (sY i rs (mK (y:=⟨.lst xs,.ref a,a :: b,h⟩) zO f rfl rfl)) rfl rfl⟩⟩
def lstQ:D->Option (D × Fl)
 | .lst xs=>some (.lst xs,.u)
 | .tup xs=>some (.lst xs,.u)
 | _=>none
abbrev zb:=c1 lstQ
theorem zz:d6 K (fun xs H Q=>∃ p ys,xs=[.ref p]/\(SqL K H p ys\/SqT K H p ys)/\∀ l,H l=none->Q (.ref l) (upd H l (.lst ys))) zb:=fun ys H Q p ra e q=>by
 obtain ⟨y,rfl,h⟩:=gb e
 clear e
 have e:=h
 clear h
 have g:=ra y zO
 have c:=g.rep
 obtain ⟨da,j,b,i⟩:=y
 dsimp only at c e
 cases da <;> try (exact nsE e)
 ·rename_i xs
  obtain ⟨a,vs,rfl,d,rs⟩:=c.view
  cases e
  exact ⟨a,vs,rfl,.inr (SqT.of d),fun l f=>q ⟨.lst xs,.ref l,l :: b,.u⟩ _ (sZ f rs (fW (y:=⟨.tup xs,.ref a,b,i⟩) zO g rfl)) rfl rfl⟩
 ·rename_i xs
  obtain ⟨a,vs,b,rfl,rfl,d,rs⟩:=c.view
  cases e
  exact ⟨a,vs,rfl,.inl (SqL.of d),fun l f=>q ⟨.lst xs,.ref l,l :: b,.u⟩ _ (sZ f rs (mK (y:=⟨.lst xs,.ref a,a :: b,i⟩) zO g rfl rfl)) rfl rfl⟩
def absQ:D->Option (D × Fl)
 | .int i=>some (.int (if i < 0 then -i else i),.z)
 | _=>none
theorem Rep.int_inv {i:Int} (r:Rep K H (.int i) v L):v=.int i:=by cases r;rfl
def mM (C:Int->Int->Bool) (g:Int->Int->D):D->D->Option (D × Fl)
 | .int i,.int j=>if C i j then some (g i j,.z) else none
 | _,_=>none
theorem iA (e:mM C g a b=some p):∃ i j,a=.int i/\b=.int j/\C i j=true/\p=(g i j,.z):=by
 cases a <;> cases b <;> try (exact nsE e)
 rename_i i j
 have e:(if C i j then some (g i j,Fl.z) else none)=some p:=e
 split at e
 ·rename_i h;cases e;exact ⟨i,j,rfl,rfl,h,rfl⟩
 ·exact nsE e
abbrev wU:=c2 (mM nC fun i j=>.int (if j > i then j else i))
abbrev wT:=c2 (mM nC fun i j=>.int (if j < i then j else i))
abbrev tU:=c2 (mM (fun _ j=>decide (0 < j/\j < 1073741824)) fun i j=>.tup [.int (i / j),.int (i % j)])
theorem wr:d6 K (fun xs H Q=>∃ i j,xs=[.int i,.int j]/\Q (.int (if j > i then j else i)) H) wU:=fun ys H Q p ra e q=>by
 obtain ⟨y,z,rfl,b⟩:=lG e
 clear e
 have e:=b
 clear b
 obtain ⟨i,j,d,f,_,rfl⟩:=iA e
 have c:=(ra y zO).rep
 have a:=(ra z (zP _ zO)).rep
 rw [d] at c
 rw [f] at a
 refine ⟨i,j,?_,q ⟨_,_,[],.z⟩ H (c8 (.int _)) rfl rfl⟩
 show [y.v,z.v]=_
 rw [c.int_inv,a.int_inv]
theorem wq:d6 K (fun xs H Q=>∃ i j,xs=[.int i,.int j]/\Q (.int (if j < i then j else i)) H) wT:=fun ys H Q p ra e q=>by
 obtain ⟨y,z,rfl,b⟩:=lG e
 clear e
 have e:=b
 clear b
 obtain ⟨i,j,d,f,_,rfl⟩:=iA e
 have c:=(ra y zO).rep
 have a:=(ra z (zP _ zO)).rep
 rw [d] at c
 rw [f] at a
 refine ⟨i,j,?_,q ⟨_,_,[],.z⟩ H (c8 (.int _)) rfl rfl⟩
 show [y.v,z.v]=_
 rw [c.int_inv,a.int_inv]
theorem qS:d6 K (fun xs H Q=>∃ i j,xs=[.int i,.int j]/\rh i j/\∀ p,H p=none->Q (.ref p) (upd H p (.tup [.int (i / j),.int (i % j)]))) tU:=fun ys H Q p ra e q=>by
 obtain ⟨y,z,rfl,d⟩:=lG e
 clear e
 have e:=d
 clear d
 obtain ⟨i,j,g,h,a,rfl⟩:=iA e
 have f:=(ra y zO).rep
 have b:=(ra z (zP _ zO)).rep
 rw [g] at f
 rw [h] at b
 refine ⟨i,j,?_,by simpa [rh] using a,fun p k=>q ⟨_,.ref p,[],.z⟩ _ (sY k (L:=[]) (.cons (L:=[]) (.int _) (.cons (L:=[]) (.int _) .nil)) fun c a=>by cases a) rfl rfl⟩
 show [y.v,z.v]=_
 rw [f.int_inv,b.int_inv]
def iU:List D->Option (List Bool)
 | []=>some []
 | .bl b :: ds=>(iU ds).map (b :: ·)
 | _=>none
theorem ni:∀ {ds:List D} {bs:List Bool},iU ds=some bs->ds=bs.map D.bl
 | [],bs,e=>by cases e;rfl
 | d :: ds,bs,e=>by
  cases d <;> try (exact nsE e)
  rename_i b
  obtain ⟨r,h1,h2⟩:=zR.mp (show (iU ds).map (b :: ·)=some bs from e)
  subst h2
  rw [ni h1];rfl
theorem Reps.bls:∀ {bs:List Bool} {vs:List V} {L:List Addr},Reps (Rep K H) (bs.map D.bl) vs L->vs=bs.map V.bl
 | [],_,_,.nil=>rfl
 | b :: bs,_,_,.cons r rs=>by
  rw [Reps.bls rs]
  cases r;rfl
def allQ:D->Option (D × Fl)
 | .lst xs=>(iU xs).map fun bs=>(.bl (bs.all id),.z)
 | _=>none
abbrev oP:=c1 allQ
theorem zB:d6 K (fun xs H Q=>∃ (a:Addr) (bs:List Bool),xs=[.ref a]/\SqL K H a (bs.map V.bl)/\Q (.bl (bs.all id)) H) oP:=fun ys H Q p ra e q=>by
 obtain ⟨y,rfl,c⟩:=gb e
 clear e
 have e:=c
 clear c
 have b:=(ra y zO).rep
 obtain ⟨da,i,d,h⟩:=y
 dsimp only at b e
 cases da <;> try (exact nsE e)
 rename_i xs
 obtain ⟨g,vs,d,rfl,rfl,f,rs⟩:=b.view
 obtain ⟨bs,h1,h2⟩:=zR.mp (show (iU xs).map (fun bs=>(D.bl (bs.all id),Fl.z))=some p from e)
 subst h2
 have:=ni h1
 subst this
 have:=rs.bls
 subst this
 exact ⟨g,bs,rfl,SqL.of f,q ⟨_,_,[],.z⟩ H (c8 (.bl _)) rfl rfl⟩
def fJ (xs:List D) (lo hi:Option Int):List D:=(xs.drop (HT.sIx xs.length 0 lo)).take (HT.sIx xs.length xs.length hi - HT.sIx xs.length 0 lo)
end
end L3
end
section
namespace L3
open PySem L2
def wO:D->Option (List D)
 | .lst xs=>some xs
 | .fls xs=>some xs
 | .tup xs=>some xs
 | _=>none
def cu (m:EM):IM:=ac m fun r=>ac (der r) fun d=>aR ((wO d).map fun ds=>([r],ds))
def iSeq (K:FG) (tl:TE):TI:=fun σ H R=>tl σ H fun x H1=>(∃ a,x=.ref a/\(∃ xs,SqL K H1 a xs)/\R (Itl K a) H1)\/∃ a,x=.ref a/\(∃ xs,SqT K H1 a xs)/\R (Itt K a) H1
theorem yC (m:PE X l tl):PI X tg l (iSeq X.K tl):=by
 intro pins s σ H R I h
 exact thn (m pins s σ H _ I h) fun v s1 ⟨x,H1,c,i,j⟩=>by
   rcases j with ⟨a,e,⟨xs,g⟩,q⟩ | ⟨a,e,⟨xs,g⟩,q⟩
   ·subst e
    cases i
    obtain ⟨d,k,p,hz⟩:=c.list g
    refine wpAny_pyIter_list p.isList ?_
    refine ⟨s1.heap.objs.size,[s1.heap.objs.size],_,_,H1,rfl,c.kept (t':=s1.toks) fun b o e=>zQ _ e,p8 a _,⟨_,zY _ rfl,rfl,rfl⟩,fun b f=>?_,q⟩
    have e:b=s1.heap.objs.size:=by simpa using f
    subst e
    exact c.fpOk (z9 _) (c.hok.fresh (z9 _))
   ·subst e
    cases i
    obtain ⟨d,k,p,hz⟩:=c.tuple g
    refine wpAny_pyIter_tuple (show s1.heap.IsTuple a d.toArray from p) ?_
    refine ⟨s1.heap.objs.size,[s1.heap.objs.size],_,_,H1,rfl,c.kept (t':=s1.toks) fun b o e=>zQ _ e,nD a _,⟨_,zY _ rfl,rfl,rfl⟩,fun b f=>?_,q⟩
    have e:b=s1.heap.objs.size:=by simpa using f
    subst e
    exact c.fpOk (z9 _) (c.hok.fresh (z9 _))
section
variable {K:FG} {G G0:Gm} {W W0:D->Sto->Prop} {H H':Hp} {σ:St} {ρ ρ':Sto} {T T':List It3} {g:Nat->Option It3} {x y z:It3} {α β:Type} {X:Cx}
theorem Ar.item2 (w:Wf K G H σ ρ (Ts ++ T) g) (a:Ar σ r v Ts) (e:der r ρ=some (.ok d,ρ)):∃ y,y.d=d/\y.v=v/\((∃ i,i ∈ pls [r]/\g i=some y)\/y ∈ Ts):=by
 cases a with
 | @pl i v h =>
  have k:der (.pl i) ρ=((ρ[i]?).join).map fun p=>(.ok p.1,ρ):=rfl
  rw [k] at e
  cases q:(ρ[i]?).join with
  | none=>rw [q] at e;exact nsE e
  | some p =>
   rw [q] at e
   obtain ⟨y,e1,j,l,b⟩:=w.slot (d:=p.1) (f:=p.2) q
   have c:p.1=d:=by cases e;rfl
   rw [h] at b
   injection b with b
   injection b with b
   exact ⟨y,j.trans c,b.symm,.inl ⟨i,zO,e1⟩⟩
 | val x=>cases e;exact ⟨x,rfl,rfl,.inr (by simp)⟩
theorem kJ (k:Reps (Rep K H1) ds vs n) (t:∀ c ∈ n,dq [y] c) (q:∀ c ∈ n,c ∈ y.L) (j:∀ (M:Addr->Prop) (H':Hp),(∀ b,M b->MutAt H1 b)->(∀ b o,H1 b=some o->¬ M b->H' b=some o)->(∀ b ∈ y.L,¬ M b)->(∀ (i:Nat) (v:V),vs[i]?=some v->J.go i H'/\∀ x e,J.yld i H' x e->e=H'/\x=v)/\J.stop vs.length H'):Walk K J H1 [y] ds:=by
 obtain ⟨ws,h1,h2,h3⟩:=Reps.split k
 refine ⟨ws,fun x h=>⟨(h3 x h).1,(h3 x h).2.1,fun c g=>t c ((h3 x h).2.2 c g)⟩,fun M H' hm f l=>?_⟩
 obtain ⟨go,stop⟩:=j M H' hm f (l y zO)
 refine ⟨fun i d hd=>?_,by rw [k.len];exact stop⟩
 have hi:∃ u,ws[i]?=some u/\u.d=d:=by
  rw [<- h1,z8] at hd
  obtain ⟨u,a,b⟩:=zR.mp hd
  exact ⟨u,a,b⟩
 obtain ⟨u,m,z⟩:=hi
 have r:vs[i]?=some u.v:=by rw [<- h2,z8,m];rfl
 obtain ⟨g1,g2⟩:=go i u.v r
 refine ⟨g1,fun x e s=>?_⟩
 obtain ⟨e1,w⟩:=g2 x e s
 subst e1 w
 have hu:=z5 m
 refine ⟨u,⟨Same.refl _,(h3 u hu).2.1.keep f hm fun b p=>l y zO b (q b ((h3 u hu).2.2 b p)),fun c g=>.inr ⟨u,hu,g⟩,fun hf=>absurd (h3 u hu).1 hf⟩,z,(h3 u hu).1,rfl⟩
theorem j0 {y:It3} {a:Addr} {ds:List D} {vs:List V} (j:∀ H',SqL K H' a vs->True) (e:∀ (M:Addr->Prop) (H':Hp),(∀ b,M b->MutAt H b)->(∀ b o,H b=some o->¬ M b->H' b=some o)->(∀ b ∈ y.L,¬ M b)->SqL K H' a vs) :
  ∀ (M:Addr->Prop) (H':Hp),(∀ b,M b->MutAt H b)->(∀ b o,H b=some o->¬ M b->H' b=some o)->(∀ b ∈ y.L,¬ M b)->(∀ (i:Nat) (v:V),vs[i]?=some v->(Itl K a).go i H'/\∀ x c,(Itl K a).yld i H' x c->c=H'/\x=v)/\(Itl K a).stop vs.length H':=fun M H' hm g f=>by
 have sq:SqL K H' a vs:=e M H' hm g f
 refine ⟨fun i v d=>⟨⟨vs,v,sq,d⟩,fun x c ⟨e1,h⟩=>⟨e1,?_⟩⟩,⟨vs,sq,z9 _⟩⟩
 have:=h vs sq
 rw [d] at this
 injection this with this
 exact this.symm
theorem xB (h:tI K G0 W0 (cu m) σ H R):iSeq K (tE K G0 W0 m) σ H R:=by
 obtain ⟨G,W,le,ρ,T,g,o,ρ',w,e,q⟩:=h
 have k:∀ x,o=.error x->W x ρ':=fun x P=>by subst P;exact q
 refine tE.seq le w e k fun ra ρ1 e1 v H1 ⟨Ts,g1,u,a1⟩=>?_
 obtain ⟨d,d1,t⟩:=aJ e1
 obtain ⟨p,I,rfl,rfl⟩:=bH t
 obtain ⟨ds,n,L⟩:=zR.mp I
 subst L
 obtain ⟨y,U,O,D⟩:=a1.item2 u d1
 have S:Itm (Ts ++ T) g1 y:=by
  rcases D with ⟨i,_,Q⟩ | h
  ·exact .inl ⟨i,Q⟩
  ·exact .inr (zS _ h)
 have E:=(u.itm S).arg
 have C:∀ J,Walk K J H1 [y] ds->R J H1:=fun J hw=>q J H1 [v] Ts g1 [y] u (by simpa using Ars.cons a1 .nil) (fun z hz=>by rw [Ao.mp hz];exact D) hw
 clear e1 t I q
 subst U O
 have f:=E
 obtain ⟨da,X,r,B⟩:=y
 obtain ⟨s,V⟩:=E
 dsimp only at s n
 cases da with
 | tup xs =>
  obtain ⟨a,vs,rfl,b,rs⟩:=s.view
  cases n
  refine .inr ⟨a,rfl,⟨_,SqT.of b⟩,C _ (kJ rs (fW (y:=⟨.tup ds,.ref a,r,B⟩) zO f rfl) (fun c j=>j) fun M H' hm l A=>?_)⟩
  have sq:SqT K H' a vs:=SqT.of (l a _ b fun z=>(hm a z).notup b)
  refine ⟨fun i v F=>⟨⟨vs,v,sq,F⟩,fun x N ⟨e1,t⟩=>⟨e1,?_⟩⟩,⟨vs,sq,z9 _⟩⟩
  have:=t vs sq
  rw [F] at this
  injection this with this
  exact this.symm
 | lst xs =>
  obtain ⟨a,vs,r,rfl,rfl,b,rs⟩:=s.view
  cases n
  refine .inl ⟨a,rfl,⟨_,SqL.of b⟩,C _ (kJ rs (mK (y:=⟨.lst ds,.ref a,a :: r,B⟩) zO f rfl rfl) (fun c j=>zP _ j) (j0 (ds:=ds) (fun _ _=>trivial) fun M H' hm l A=>SqL.of (l a _ b (A a zO))))⟩
 | fls xs =>
  obtain ⟨a,vs,rfl,b,rs⟩:=s.view
  cases n
  refine .inl ⟨a,rfl,⟨_,b.sq⟩,C _ (kJ rs (fW (y:=⟨.fls ds,.ref a,r,B⟩) zO f rfl) (fun c j=>j) (j0 (ds:=ds) (fun _ _=>trivial) fun M H' hm l A=>(b.keep l hm).sq))⟩
 | _=>exact nsE n
theorem x6 (h:RE X G0 W0 l m):RI X G0 W0 tg l (cu m):=⟨PI.imp (yC h.h) fun _ _ _ h=>xB h⟩
def aV (lo:Int) (n:Nat):List D:=(List.range n).map fun (k:Nat)=>D.int (lo+(k:Int))
theorem lL {lo:Int} {n:Nat}:Walk K (Itr lo n) H1 ys (aV lo n):=by
 refine ⟨[],fun x f=>(by cases f),fun M H' _ _ _=>⟨fun i d hd=>?_,?_⟩⟩
 ·unfold aV at hd
  rw [z8] at hd
  obtain ⟨k,a,b⟩:=zR.mp hd
  obtain ⟨c,e⟩:=z4.mp a
  rw [List.getElem_range] at e
  subst e
  rw [List.length_range] at c
  refine ⟨c,fun x h ⟨e1,g⟩=>?_⟩
  subst e1
  exact ⟨⟨d,x,[],.z⟩,c8 (by rw [<- b,g];exact .int _),rfl,rfl,rfl⟩
 ·show n<=(aV lo n).length
  unfold aV
  simp
def eK (j:Int):Bool:=decide (-(2 ^ 62)<=j/\j < 2 ^ 62)
def b8:List D->Option (List D)
 | [.int j]=>if eK j then some (aV 0 j.toNat) else none
 | _=>none
def fQ:List D->Option (List D)
 | [.int i,.int j]=>if eK i && eK j then some (aV i (j - i).toNat) else none
 | _=>none
def aY (f:List D->Option (List D)) (ms:M3 (List R3)):IM:=ac ms fun rs=>ac (dU rs) fun ds=>aR ((f ds).map fun xs=>([],xs))
theorem uD (h:tI K G0 W0 (aY b8 ms) σ H R):xb (tA K G0 W0 ms) σ H R:=by
 obtain ⟨G,W,le,ρ,T,g,o,ρ',w,e,q⟩:=h
 have b:∀ x,o=.error x->W x ρ':=fun x k=>by subst k;exact q
 refine tA.seq le w e b fun rs ρ1 e1 vs H1 Ts g1 i a1=>?_
 obtain ⟨ds,d1,n⟩:=c6 e1
 obtain ⟨p,s,rfl,rfl⟩:=bH n
 obtain ⟨xs,a,m⟩:=zR.mp s
 subst m
 obtain ⟨ys,f,f1,f2⟩:=a1.items i (fun x k=>zS _ k) d1
 subst f1 f2
 match ys,a,f,a1 with
 | [],a,_,_=>exact nsE a
 | y :: z :: r,a,_,_=>cases hd:y.d <;> (rw [Ad,Ad,hd] at a;exact nsE a)
 | [y],a,f,a1 =>
  have l:=(i.itm (f y zO)).rep
  cases hd:y.d <;> (rw [Ad,hd] at a;try (exact nsE a))
  rename_i j
  rw [hd] at l
  have a:(if eK j then some (aV 0 j.toNat) else none)=some xs:=a
  split at a
  ·rename_i c
   cases a
   have c:=of_decide_eq_true c
   refine ⟨j,by show [y.v]=_;rw [l.int_inv],c.1,c.2,?_⟩
   exact q _ H1 [] [] g1 [] (i.sub (z6 Ts T)) .nil (fun _ h=>by cases h) lL
  ·exact nsE a
theorem uC (h:tI K G0 W0 (aY fQ ms) σ H R):xa (tA K G0 W0 ms) σ H R:=by
 obtain ⟨G,W,le,ρ,T,g,o,ρ',w,e,q⟩:=h
 have b:∀ x,o=.error x->W x ρ':=fun x l=>by subst l;exact q
 refine tA.seq le w e b fun rs ρ1 e1 vs H1 Ts g1 k a1=>?_
 obtain ⟨ds,d1,A⟩:=c6 e1
 obtain ⟨p,C,rfl,rfl⟩:=bH A
 obtain ⟨xs,B,t⟩:=zR.mp C
 subst t
 obtain ⟨ys,f,f1,f2⟩:=a1.items k (fun x l=>zS _ l) d1
 subst f1 f2
 have inv:∀ {ds:List D},fQ ds=some xs->∃ i j,ds=[.int i,.int j]/\eK i=true/\eK j=true/\xs=aV i (j - i).toNat:=fun {ds} h=>by
  unfold fQ at h
  split at h
  ·rename_i i j
   split at h
   ·rename_i m
    cases h
    simp only [Bool.and_eq_true] at m
    exact ⟨i,j,rfl,m.1,m.2,rfl⟩
   ·exact nsE h
  ·exact nsE h
 obtain ⟨i,j,a,hi,c,rfl⟩:=inv B
 match ys,a,f,a1 with
 | [],a,_,_=>cases a
 | [y],a,_,_=>exact absurd (congrArg List.length a) (by simp)
 | y :: z :: u :: r,a,_,_=>exact absurd (congrArg List.length a) (by simp)
 | [y,z],a,f,a1 =>
  have s:=(k.itm (f y zO)).rep
  have n:=(k.itm (f z (zP _ zO))).rep
  have h1:y.d=.int i:=by injection a
  have h2:z.d=.int j:=by injection a with _ h;injection h
  rw [h1] at s
  rw [h2] at n
  have hi:=of_decide_eq_true hi
  have c:=of_decide_eq_true c
  refine ⟨i,j,by show [y.v,z.v]=_;rw [s.int_inv,n.int_inv],⟨hi.1,hi.2,c.1,c.2⟩,?_⟩
  exact q _ H1 [] [] g1 [] (k.sub (z6 Ts T)) .nil (fun _ h=>by cases h) lL
theorem vf (d:Gl X "range") (hm:X.mg "range"=none) (c:RA X G0 W0 [a] ms) (b:starEach [a] X.env=[(false,eval a X.env)]):RI X G0 W0 tg (.Call (.Name "range" p) [a] [] pos) (aY b8 ms):=⟨PI.imp (qp d hm c.h b) fun _ _ _ h=>uD h⟩
theorem ve (f:Gl X "range") (hm:X.mg "range"=none) (e:RA X G0 W0 [a,b] ms) (d:starEach [a,b] X.env=[(false,eval a X.env),(false,eval b X.env)]) (c:starEach [b] X.env=[(false,eval b X.env)]):RI X G0 W0 tg (.Call (.Name "range" p) [a,b] [] pos) (aY fQ ms):=⟨PI.imp (qo f hm e.h d c) fun _ _ _ h=>uC h⟩
end
end L3
end
section
namespace L3
open PySem L2
section
variable {K:FG} {G G0:Gm} {W W0:D->Sto->Prop} {H H':Hp} {σ:St} {ρ ρ':Sto} {T T':List It3} {g:Nat->Option It3} {x y z:It3} {α β:Type} {X:Cx} {L:List Addr}
def rV (bnd:D->Sto->Option Sto) (m:EM):SM:=ac m fun r=>ac (dI r) fun p=>fun ρ=>(bnd p.1 ρ).map fun ρ1=>(.ok .nx,ρ1)
theorem xz (c:Bnd K G0.pr tg bnd) (h:tS K G0 W0 (rV bnd m) E σ H):rJ (tE K G0 W0 m) tg E σ H:=by
 refine h.use fun G W le ρ T g r ρ' w e q=>?_
 refine tE.seq le w e q.err fun ra ρ1 e1 v H1 ⟨Ts,g1,f,a1⟩=>?_
 obtain ⟨p,ρ2,g2,x,i,k,f1,_,_,j⟩:=a1.take f e1
 have l:=Wf.lowT (Ts:=[x]) k
 obtain ⟨ρ3,n,b⟩:=zR.mp i
 cases b
 rw [<- j]
 exact c G H1 σ ρ2 _ T g2 (cK x) _ le.pr rfl l (by show bnd x.d ρ2=_;rw [f1];exact n) fun σ2 g3 a=>q _ _ _ a
theorem x5 (d:RG X G0.pr tg bnd) (he:RE X G0 W0 e m) (c:swapsWithSole [tg] e pos.line X.env=pure false) (hw:swappedStores [tg] e X.env=pure none) (h1:(assignEach [tg] X.env).map (·.2)=[assign tg X.env]):RS X G0 W0 (.Assign [tg] e pos) (rV bnd m):=by
 obtain ⟨g,a,b⟩:=d.h
 exact ⟨PS.imp (sG he.h a c hw h1) fun _ _ _ h=>xz b h⟩
theorem nP {i:Nat} {y:Str} (l:X.N.Nodup) (f:X.N[i]?=some y) (m:Loc X.env.scope y) (NY:List Str) (ix:List (Option Nat)) (j:X.calm=true) (hi:RI X G0 W0 tg iter im) (g:∀ s H C fp,PTs (aE X NY scope s H C fp) ifs (tT X.K (bb ix) noX cm)) (he:∀ s H C fp,RE (aE X NY scope s H C fp) (bb ix) noX elt em) (k:fk scope X.N X.env.scope NY ix=true) (d:Inj ix) (b:swapsWith (.ListComp elt [⟨tg,iter,ifs,0⟩] scope pos) (some (.Name y py)) spos.line X.env=pure true) (hf:X.fn y=true\/X.env.scope.names.lookup y=some .local) (e:∀ x,foldedSetIterable iter X.env x=pure x) (n:G0.pr i=false) (c:∃ a,Bnd X.K (bb ix).pr a bnd/\∀ s H C fp,PG (aE X NY scope s H C fp) tg a):RS X G0 W0 (.Assign [.Name y py] (.ListComp elt [⟨tg,iter,ifs,0⟩] scope pos) spos) (aB i (bq im bnd cm em ix)):=by
 obtain ⟨a,b1,b2⟩:=c
 exact ⟨PS.imp (nX l f m NY ix j hi.h b2 g (fun s H C fp=>(he s H C fp).h) k b hf e) fun _ _ _ h=>nI szl d b1 n h⟩
def isL:D->Bool
 | .lst _=>true
 | _=>false
theorem tF:∀ d v L H,isL d=true->Rep K H d v L->tyV K "list" v H:=fun d v L H h r=>by
 cases r with
 | lst ha _=>exact .inl ⟨rfl,_,SqL.of ha⟩
 | _=>cases h
def ui:D->List D->Option (D × D)
 | .lst xs,[d]=>if xs.length < 16777216 then some (.lst (xs ++ [d]),.non) else none
 | _,_=>none
theorem y9:MutD K o8 ui:=fun a d k as H Q p r m na ra g e q=>by
 cases d with
 | lst xs =>
  obtain ⟨_,vs,_,e1,s,j,rs⟩:=r.view
  cases e1
  cases s
  match as,e,ra,g with
  | [],e,_,_=>exact nsE e
  | _ :: _ :: _,e,_,_=>exact nsE e
  | [y],e,ra,g =>
   have e:(if xs.length < 16777216 then some (D.lst (xs ++ [y.d]),D.non) else none)=some p:=e
   split at e
   ·rename_i t
    cases e
    refine ⟨a,vs,y.v,rfl,rfl,j,by rw [<- rs.len,<- szl];exact t,?_⟩
    have u:=ra y zO
    have l:=g y zO
    have ma:MutAt H a:=.inl ⟨_,j⟩
    have keep:∀ {d v L},Rep K H d v L->a ∉ L->Rep K (upd H a (.lst (vs ++ [y.v]))) d v L:=fun {d v L} r n=>r.keep (M:=fun b=>b=a) (fun b o f h=>by rw [ay h];exact f) (fun b e=>by rw [e];exact ma) fun b f e=>n (by rw [<- e];exact f)
    have keeps:Reps (Rep K (upd H a (.lst (vs ++ [y.v])))) xs vs k:=rs.keep (M:=fun b=>b=a) (fun b o f h=>by rw [ay h];exact f) (fun b e=>by rw [e];exact ma) fun b f e=>na (by rw [<- e];exact f)
    exact q (.lst (vs ++ [y.v])) (k ++ (y.L ++ [])) ⟨.non,.non,[],.z⟩ (.lst aN (keeps.append (.cons (keep u l) .nil))) rfl (fun c i=>by
     rcases zX.mp i with h | h
     ·exact .inl h
     ·rw [List.append_nil] at h;exact .inr ⟨y,zO,h⟩) rfl rfl .non fun c i=>by cases i
   ·exact nsE e
 | _=>exact nsE e
def qM:D->List D->Option (D × D)
 | .lst xs,[.lst ys]=>if xs.length+ys.length<=16777216 then some (.lst (xs ++ ys),.non) else none
 | _,_=>none
theorem ext2 (a:D):qM (.lst xs) (a :: b :: r)=none:=by cases a <;> rfl
theorem y8:MutD K o4 qM:=fun a d A as H Q p r m na ra j e q=>by
 cases d with
 | lst xs =>
  obtain ⟨_,vs,_,e1,x,l,rs⟩:=r.view
  cases e1
  cases x
  match as,e,ra,j with
  | [],e,_,_=>exact nsE e
  | y :: _ :: _,e,_,_=>exact nsE ((ext2 y.d).symm.trans e)
  | [y],e,ra,j =>
   have t:=ra y zO
   have s:=j y zO
   obtain ⟨w,C,E,B⟩:=y
   dsimp only at t s e
   cases w with
   | lst ys =>
    obtain ⟨b,ws,u,rfl,rfl,g,i⟩:=t.view
    have e:(if xs.length+ys.length<=16777216 then some (D.lst (xs ++ ys),D.non) else none)=some p:=e
    split at e
    ·rename_i v
     cases e
     refine ⟨a,b,vs,ws,rfl,rfl,l,g,by rw [<- rs.len,<- i.len,<- szl];exact v,?_⟩
     have ma:MutAt H a:=.inl ⟨_,l⟩
     have keeps:∀ {ds f L},Reps (Rep K H) ds f L->a ∉ L->Reps (Rep K (upd H a (.lst (vs ++ ws)))) ds f L:=fun {ds f L} r n=>r.keep (M:=fun b=>b=a) (fun b o g h=>by rw [ay h];exact g) (fun b e=>by rw [e];exact ma) fun b g e=>n (by rw [<- e];exact g)
     exact q (.lst (vs ++ ws)) (A ++ u) ⟨.non,.non,[],.z⟩ (.lst aN ((keeps rs na).append (keeps i fun h=>s (zP _ h)))) rfl (fun c k=>by
      rcases zX.mp k with h | h
      ·exact .inl h
      ·exact .inr ⟨_,zO,zP _ h⟩) rfl rfl .non fun c k=>by cases k
    ·exact nsE e
   | _=>exact nsE e
 | _=>exact nsE e
def uP:D->List D->Option (D × D)
 | .lst xs,[.int i,d]=>(ixN xs.length i).map fun j=>(.lst (xs.set j d),.non)
 | _,_=>none
theorem Reps.set:∀ {ds:List D} {vs:List V} {L L':List Addr} {d:D} {v:V} (j:Nat),Reps (Rep K H) ds vs L->Rep K H d v L'->∃ L2,Reps (Rep K H) (ds.set j d) (vs.set j v) L2/\∀ c ∈ L2,c ∈ L\/c ∈ L'
 | _,_,_,_,_,_,j,.nil,_=>⟨[],.nil,fun c a=>by cases a⟩
 | _,_,_,L',_,_,0,.cons (L:=L1) (L':=L1') r rs,r'=>⟨L' ++ L1',.cons r' rs,fun c a=>by
  rcases zX.mp a with h | h
  ·exact .inr h
  ·exact .inl (zT _ h)⟩
 | _,_,_,L',_,_,j+1,.cons (L:=L1) (L':=L1') r rs,r'=>by
  obtain ⟨L2,h1,h2⟩:=Reps.set j rs r'
  refine ⟨L1 ++ L2,.cons r h1,fun c a=>?_⟩
  rcases zX.mp a with h | h
  ·exact .inl (zS _ h)
  ·rcases h2 c h with h | h
   ·exact .inl (zT _ h)
   ·exact .inr h
theorem set1 (a:D):uP (.lst xs) [a]=none:=by cases a <;> rfl
theorem set3' (a:D):uP (.lst xs) (a :: b :: c :: r)=none:=by cases a <;> rfl
theorem vV:MutD K (jv oY) uP:=fun a d B as H Q p r m na ra g e q=>by
 cases d with
 | lst xs =>
  obtain ⟨_,vs,_,e1,w,s,rs⟩:=r.view
  cases e1
  cases w
  match as,e,ra,g with
  | [],e,_,_=>exact nsE e
  | [y],e,_,_=>exact nsE ((set1 y.d).symm.trans e)
  | y :: _ :: _ :: _,e,_,_=>exact nsE ((set3' y.d).symm.trans e)
  | [k,y],e,ra,g =>
   have t:=ra k zO
   have A:=ra y (zP _ zO)
   have x:=g y (zP _ zO)
   obtain ⟨kd,F,C,E⟩:=k
   dsimp only at t
   cases kd with
   | int i =>
    obtain ⟨rfl,rfl⟩:=t.view
    obtain ⟨j,h1,h2⟩:=zR.mp (show (ixN xs.length i).map (fun j=>(D.lst (xs.set j y.d),D.non))=some p from e)
    subst h2
    refine ⟨.int i,y.v,rfl,a,vs,i,j,rfl,rfl,s,by rw [<- rs.len];exact h1,?_⟩
    have ma:MutAt H a:=.inl ⟨_,s⟩
    have n:Rep K (upd H a (.lst (vs.set j y.v))) y.d y.v y.L:=A.keep (M:=fun b=>b=a) (fun b o f h=>by rw [ay h];exact f) (fun b e=>by rw [e];exact ma) fun b f e=>x (by rw [<- e];exact f)
    have keeps:Reps (Rep K (upd H a (.lst (vs.set j y.v)))) xs vs B:=rs.keep (M:=fun b=>b=a) (fun b o f h=>by rw [ay h];exact f) (fun b e=>by rw [e];exact ma) fun b f e=>na (by rw [<- e];exact f)
    obtain ⟨L2,h3,u⟩:=keeps.set j n
    exact q (.lst (vs.set j y.v)) L2 ⟨.non,.non,[],.z⟩ (.lst aN h3) rfl (fun c l=>(u c l).imp id fun h=>⟨y,zP _ zO,h⟩) rfl rfl .non fun c l=>by cases l
   | _=>exact nsE e
 | _=>exact nsE e
theorem oX {i:Nat} {x:Str} {id:String} (m:PlainAttrs Ty) (slot:Slot Ty nm id) (j:typeOf (.builtin id)=pure (.type "method_descriptor")) (hm:MtR X id r) (n:MutD X.K r f) (hok:∀ d v L H,ok d=true->Rep X.K H d v L->tyV X.K Ty v H) (o:PE X (.Name x pn) (p9 i)) (l:RA X G0 W0 (e :: es) ms) (c:attributeBase (.Name x pn) nm X.env (eval (.Name x pn) X.env)=eval (.Name x pn) X.env) (g:((backTo cpos (starEach (e :: es) X.env)).all (fun x=>!x.1) && (backToKw cpos (keywordEach [] X.env)).all (fun x=>x.1.isSome) && decide ((e :: es).length+([]:List Keyword).length+(if ([]:List Keyword).isEmpty then 0 else 1) < 30))=true) (b:(apos.endLine == cpos.line)=true) (k:starEach (e :: es) X.env=(false,eval e X.env) :: starEach es X.env) (a:(backTo cpos (starEach es X.env)).any (·.1)=false):RE X G0 W0 (.Call (.Attribute (.Name x pn) nm apos) (e :: es) [] cpos) (mI ok f i ms) :=
 ⟨PE.imp (pe_bm m slot j hm o l.h c g b k a) fun _ _ _ h=>xF n hok h⟩
theorem xY {i:Nat} {x:Str} (b:uo X t) (c:MutD X.K (jv t) f) (j:PE X (.Name x pn) (p9 i)) (l:RE X G0 W0 k mk) (g:RE X G0 W0 e mv) (d:∀ v,assign (.Subscript (.Name x pn) k p2) X.env v=(do
   let ov <- holding [v] (eval (.Name x pn) X.env)
   let a <- holding [v,ov] (eval k X.env)
   standAt p2
   holding [v,ov,a] (setItem ov a v)
   release [v,ov,a] [])) (h1:swapsWithSole [.Subscript (.Name x pn) k p2] e pos.line X.env=pure false) (h2:swappedStores [.Subscript (.Name x pn) k p2] e X.env=pure none) (h3:(assignEach [.Subscript (.Name x pn) k p2] X.env).map (·.2)=[assign (.Subscript (.Name x pn) k p2) X.env]):RS X G0 W0 (.Assign [.Subscript (.Name x pn) k p2] e pos) (rS f i mk mv) :=
 ⟨PS.imp (sG g.h (yD j l.h b d) h1 h2 h3) fun _ _ _ h=>xt c h⟩
end
end L3
end
section
namespace L3
open PySem L2
section
variable {K:FG} {G G0:Gm} {W W0:D->Sto->Prop} {H H':Hp} {σ:St} {ρ ρ':Sto} {T T':List It3} {g:Nat->Option It3} {x y z:It3} {α β:Type} {X:Cx} {L:List Addr}
theorem sg:PTs Y [] (tT K (bb ix) noX cH):=fun pins s σ H Q I h=>vq pins s σ H Q I (xp h)
theorem sf (h:RT Y (bb ix) noX c m):PTs Y [c] (tT Y.K (bb ix) noX m):=vp h.h
theorem oC (h:(ix.filterMap id).Nodup):Inj ix:=by
 intro j k i a b
 induction ix generalizing j k with
 | nil=>simp at a
 | cons o ix ih =>
  cases o with
  | none =>
   have h':(ix.filterMap id).Nodup:=by simpa using h
   cases j with
   | zero=>simp at a
   | succ j =>
    cases k with
    | zero=>simp at b
    | succ k=>rw [ih h' j k (by simpa using a) (by simpa using b)]
  | some d =>
   have h':(d :: ix.filterMap id).Nodup:=by simpa using h
   obtain ⟨n,c⟩:=List.nodup_cons.mp h'
   have mem:∀ m:Nat,ix[m]?=some (some d)->False:=fun m e=>n (List.mem_filterMap.mpr ⟨some d,z5 e,rfl⟩)
   cases j with
   | zero =>
    simp at a
    cases k with
    | zero=>rfl
    | succ k=>subst a;exact (mem k (by simpa using b)).elim
   | succ j =>
    cases k with
    | zero=>simp at b;subst b;exact (mem j (by simpa using a)).elim
    | succ k=>rw [ih c j k (by simpa using a) (by simpa using b)]
def rT:SM:=fun _=>none
theorem se:RS X G0 W0 st rT:=⟨PS.imp sF fun _ _ _ h=>by
 refine h.use fun G W le ρ T g r ρ' w e q=>?_
 cases e⟩
theorem rF (ho:OpD K r f) (C:OpD K r' f') (h:tE K G0 W0 (jG f f' ma mb mc) σ H Q):rH r r' (tE K G0 W0 ma) (tE K G0 W0 mb) (tE K G0 W0 mc) σ H Q:=by
 refine h.use fun G W le ρ T g o ρ' w e q=>?_
 refine tE.seq le w e q.err fun ra ρ1 e1 va H1 ⟨Ts,g1,Z,a1⟩=>?_
 refine tE.seq le Z e1 q.err fun rb ρ2 e2 vb H2 ⟨Us,g2,j,a2⟩=>?_
 obtain ⟨da,d1,e3⟩:=aJ e2
 obtain ⟨db,d2,e4⟩:=aJ e3
 obtain ⟨k,X,B⟩:=fE e4
 obtain ⟨R,F,f1,f2⟩:=a1.item j (fun x b=>zT _ (zS _ b)) d1
 obtain ⟨J,V,f3,f4⟩:=a2.item j (fun x b=>zS _ b) d2
 obtain ⟨p,M,e8⟩:=An.mp X
 have hp:=ug e8
 subst f1 f2 f4
 rw [<- f3] at M
 refine ho R J H2 _ p (j.itm F).arg (j.itm V).arg M fun u H3 U ud uf=>?_
 have w3:=j.push U fun c h=>j.kids (ys:=[R,J]) (fun y d=>by
  rcases zU.mp d with h | d
  ·rw [h];exact F
  ·rw [Ao.mp d];exact V) h
 have N:=U.rep
 rw [ud,hp] at N
 refine ⟨k,N.bl_eq.1,?_⟩
 have E:=w3.sub (List.sublist_cons_self u _)
 cases k with
 | false =>
  cases B
  have i:=E.sub (T':=T) ((z6 Ts T).trans (z6 Us _))
  exact q _ _ (i.const (.bl false))
 | true =>
  simp only [if_true] at B ⊢
  refine tE.seq le E B q.err fun rc ρ5 e9 vc H5 ⟨m,L,i,a5⟩=>?_
  obtain ⟨n,d3,z⟩:=aJ e9
  obtain ⟨dc,d4,t⟩:=aJ z
  obtain ⟨p',a,rfl,rfl⟩:=bH t
  obtain ⟨l,P,Y,f6⟩:=a2.item i (fun x b=>zT _ (zS _ b)) d3
  obtain ⟨S,O,f7,f8⟩:=a5.item i (fun x b=>zS _ b) d4
  cases D:f' n dc with
  | none=>rw [D] at a;exact nsE a
  | some s =>
   rw [D] at a
   cases a
   have I:=i
   rw [show m ++ (Us ++ (Ts ++ T))=(m ++ (Us ++ Ts)) ++ T by simp] at I
   have A:Itm ((m ++ (Us ++ Ts)) ++ T) L l:=by simpa using P
   have v:Itm ((m ++ (Us ++ Ts)) ++ T) L S:=by simpa using O
   rw [<- f6,<- f8]
   refine C l S H5 Q s (i.itm P).arg (i.itm O).arg (by rw [Y,f7];exact D) (kB I (fun y d=>?_) q)
   rcases zU.mp d with h | d
   ·rw [h];exact A
   ·rw [Ao.mp d];exact v
theorem kQ (d:OpR X (compareOp op) r) (hd:OpD X.K r f) (c:RE X G0 W0 a ma) (e:RE X G0 W0 b mb) (hm:behindInMarks op b=false):RT X G0 W0 (.Compare a [op] [b] pos) (cB (af f ma mb)):=⟨PT.imp (vt d c.h e.h hm) fun _ _ _ h=>kK hd (xr h)⟩
theorem r0 (i:OpR X (compareOp op) r) (hd:OpD X.K r f) (d:OpR X (compareOp op') r') (e:OpD X.K r' f') (g:RE X G0 W0 a ma) (k:RE X G0 W0 b mb) (j:RE X G0 W0 c mc) (hm:lastMarks [op,op'] [b,c]=false):RT X G0 W0 (.Compare a [op,op'] [b,c] pos) (cB (jG f f' ma mb mc)):=⟨PT.imp (sC i d g.h k.h j.h hm) fun _ _ _ h=>rF hd e (xr h)⟩
end
end L3
namespace L3
theorem vA {i:Nat} (h:mask.length<=i):prM mask i=false:=by
 unfold prM
 rw [List.getElem?_eq_none h]
end L3
end
section
namespace L3
open PySem L2
structure Bl (mg:Str->Option Value):Prop where
 len:mg "len"=none
 range:mg "range"=none
 abs:mg "abs"=none
 divmod:mg "divmod"=none
 enumerate:mg "enumerate"=none
 tuple:mg "tuple"=none
 isinstance:mg "isinstance"=none
 int:mg "int"=none
 bool:mg "bool"=none
 all:mg "all"=none
 str:mg "str"=none
 max:mg "max"=none
 min:mg "min"=none
 list:mg "list"=none
 dict:mg "dict"=none
 repr:mg "repr"=none
 sorted:mg "sorted"=none
 set:mg "set"=none
 zip:mg "zip"=none
 reversed:mg "reversed"=none
theorem b_len:bootBuiltins "len"=some (.builtin "len"):=by decide +kernel
theorem ua:bootBuiltins "divmod"=some (.builtin "divmod"):=by decide +kernel
theorem pU:bootBuiltins "tuple"=some (.type "tuple"):=by decide +kernel
theorem lH:bootBuiltins "isinstance"=some (.builtin "isinstance"):=by decide +kernel
theorem xj:bootBuiltins "int"=some (.type "int"):=by decide +kernel
theorem zH:bootBuiltins "bool"=some (.type "bool"):=by decide +kernel
theorem b_all:bootBuiltins "all"=some (.builtin "all"):=by decide +kernel
theorem b_str:bootBuiltins "str"=some (.type "str"):=by decide +kernel
theorem b_max:bootBuiltins "max"=some (.builtin "max"):=by decide +kernel
theorem b_min:bootBuiltins "min"=some (.builtin "min"):=by decide +kernel
theorem zF:bootBuiltins "list"=some (.type "list"):=by decide +kernel
theorem zG:bootBuiltins "dict"=some (.type "dict"):=by decide +kernel
theorem zE:bootBuiltins "repr"=some (.builtin "repr"):=by decide +kernel
theorem b_zip:bootBuiltins "zip"=some (.type "zip"):=by decide +kernel
end L3
end
section
namespace L3
open PySem L2
section
variable {K:FG} {G G0:Gm} {W W0:D->Sto->Prop} {H H':Hp} {σ:St} {ρ ρ':Sto} {T T':List It3} {g:Nat->Option It3} {x y z:It3} {α β:Type} {X:Cx} {L:List Addr}
theorem uG (h:tE K G0 W0 m σ H Q) (f:∀ v H,Q v H->Q' v H):tE K G0 W0 m σ H Q':=by
 refine h.use fun G W le ρ T g o ρ' w e q=>?_
 refine tE.mk le w e ?_
 cases o with
 | ok r=>exact fun v H' g=>f v H' (q v H' g)
 | error x=>exact q
def wW:D->Option String
 | .non=>some "NoneType" | .bl _=>some "bool" | .int _=>some "int" | .str _=>some "str"
 | .tup _=>some "tuple" | .lst _=>some "list" | .fls _=>some "list" | .dk _=>some "dict" | .dt _=>some "dict" | .exc _ _=>none
def fX (t:String) (d:D):Option (D × Fl):=(wW d).map fun k=>(.bl (mL k t),.z)
theorem Rep.kind (r:Rep K H d v L) (e:wW d=some k):KindOf K H v k:=by
 cases r with
 | non=>cases e;exact .non
 | bl b=>cases e;exact .bool b
 | int i=>cases e;exact .int i
 | str s=>cases e;exact .str s
 | tup h _=>cases e;exact .tuple (SqT.of h)
 | lst h _=>cases e;exact .list (SqL.of h)
 | lstF h _=>cases e;exact .list h.sq
 | dK h _ _=>cases e;exact .dK h
 | dT h _ _=>cases e;exact .dT h
 | exc _ _=>cases e
theorem nU (i:cv X (.builtin "isinstance") (fun xs H Q=>∃ x k,xs=[x,.ty t]/\KindOf X.K H x k/\Q (.bl (mL k t)) H)) (l:Gl X "isinstance") (hm:X.mg "isinstance"=none) (g:PE X (.Name tn pT) (tC (.ty t))) (f:RE X G0 W0 a ma) (b:starEach [a,.Name tn pT] X.env=(false,eval a X.env) :: starEach [.Name tn pT] X.env) (d:starEach [.Name tn pT] X.env=(false,eval (.Name tn pT) X.env) :: starEach [] X.env) (c:(backTo pos (starEach [.Name tn pT] X.env)).any (·.1)=false):RE X G0 W0 (.Call (.Name "isinstance" p) [a,.Name tn pT] [] pos) (mUn (fX t) ma) :=
 ⟨PE.imp (mi i l hm lH (k6 f.h (k6 g sN d) b) (by decide) (by decide) b c) fun σ H Q h=>by
  have h:=wH (r:=fun x H Q=>∃ k,KindOf X.K H x k/\Q (.bl (mL k t)) H) (fun a H Q p ra e q=>by
   obtain ⟨k,h1,h2⟩:=zR.mp e
   subst h2
   exact ⟨k,ra.rep.kind h1,q ⟨.bl (mL k t),.bl (mL k t),[],.z⟩ H (c8 (.bl _)) rfl rfl⟩) h
  refine uG h fun x H1 ⟨k,j,q⟩=>?_
  exact ⟨x,k,rfl,j,q⟩⟩
def tD:D->Option Key
 | .int i=>some (.inl i)
 | .str s=>some (.inr s)
 | _=>none
def cy:List D->Option (List Key)
 | []=>some []
 | d :: ds=>match tD d,cy ds with
  | some k,some ks=>some (k :: ks)
  | _,_=>none
theorem qF (r:Rep K H d v L) (e:tD d=some k):v=kV k:=by
 cases r <;> cases e <;> rfl
theorem dD:∀ {ds:List D} {vs:List V} {L:List Addr} {ks:List Key},Reps (Rep K H) ds vs L->cy ds=some ks->vs=ks.map kV
 | _,_,_,ks,.nil,e=>by cases e;rfl
 | _,_,_,ks,.cons (d:=d) (ds:=ds) r rs,e=>by
  unfold cy at e
  cases h1:tD d with
  | none=>rw [h1] at e;exact nsE e
  | some k =>
   cases h2:cy ds with
   | none=>rw [h1,h2] at e;exact nsE e
   | some ks' =>
    rw [h1,h2] at e
    cases e
    rw [qF r h1,dD rs h2];rfl
def jI (kvs:List (List Key × D)) (k:List Key):Option D:=(kvs.find? fun a=>decide (a.1=k)).map (·.2)
def sB (kvs:List (List Key × D)) (k:List Key) (v:D):List (List Key × D) :=
 if (kvs.any fun a=>decide (a.1=k))=true then kvs.map (fun a=>if a.1=k then (a.1,v) else a) else kvs ++ [(k,v)]
theorem mP:∀ {kvs:List (List Key × D)} {ps:List (List Key × V)} {L:List Addr} {k:List Key} {d:D},kvs.map (·.1)=ps.map (·.1)->Reps (Rep K H) (kvs.map (·.2)) (ps.map (·.2)) L->jI kvs k=some d->∃ v L',iV ps k=some v/\Rep K H d v L'/\∀ c ∈ L',c ∈ L
 | [],ps,L,k,d,hk,r,e=>by cases e
 | f :: kvs,[],L,k,d,hk,r,e=>by cases hk
 | f :: kvs,p :: ps,L,k,d,hk,r,e=>by
  have b:f.1=p.1/\kvs.map (·.1)=ps.map (·.1):=by simpa using hk
  generalize i:(f :: kvs).map (·.2)=xs at r
  generalize j:(p :: ps).map (·.2)=ys at r
  cases r with
  | nil=>cases i
  | cons a as =>
   cases i
   cases j
   unfold jI at e
   rw [List.find?_cons] at e
   by_cases h:f.1=k
   ·rw [Ae h] at e
    cases e
    exact ⟨_,_,gc (b.1.symm.trans h),a,fun c g=>zS _ g⟩
   ·rw [Af h] at e
    obtain ⟨v,L',h1,h2,h3⟩:=mP b.2 as e
    exact ⟨v,L',by rw [ge (fun z=>h (b.1.trans z))];exact h1,h2,fun c g=>zT _ (h3 c g)⟩
def pH:D->D->Option (D × Fl)
 | .dt kvs,.tup ks=>match cy ks with
  | some k=>(jI kvs k).map fun d=>(d,.z)
  | none=>none
 | _,_=>none
def o5:R2:=fun x y H Q=>∃ a v,x=.ref a/\DGet H a y (some v)/\Q v H
theorem vR:OpD K o5 pH:=fun a b H Q p ra rb e q=>by
 obtain ⟨da,B,s,n⟩:=a
 obtain ⟨db,w,x,A⟩:=b
 have f:=ra
 obtain ⟨ra,u⟩:=ra
 obtain ⟨rb,ob⟩:=rb
 dsimp only at ra rb e
 cases da with
 | dt kvs =>
  obtain ⟨h,ps,o,rfl,rfl,i,m,rs⟩:=ra.view
  cases db with
  | tup ks =>
   obtain ⟨r,ws,rfl,l,g⟩:=rb.view
   have e:(match cy ks with | some k=>(jI kvs k).map fun d=>(d,Fl.z) | none=>none)=some p:=e
   cases h1:cy ks with
   | none=>rw [h1] at e;exact nsE e
   | some k =>
    rw [h1] at e
    obtain ⟨d,h2,h3⟩:=zR.mp (show (jI kvs k).map (fun d=>(d,Fl.z))=some p from e)
    subst h3
    have hw:=dD g h1
    subst hw
    obtain ⟨v,L',g1,g2,g3⟩:=mP m rs h2
    refine ⟨h,v,rfl,by rw [<- g1];exact DGet.t i l,q ⟨d,v,L',.z⟩ H (mo g2 fun c j=>?_) rfl rfl⟩
    exact mK (y:=⟨.dt kvs,.ref h,h :: o,n⟩) zO f rfl rfl c (g3 c j)
  | _=>exact nsE e
 | _=>exact nsE e
open PySem.Spec PyProof.Rows in
theorem we (hu:X.A.units+1 < cLine):IxR X o5:=by
 intro value slice pins s σ H x y v u Q I e j h d
 obtain ⟨a,w,rfl,g,q⟩:=h
 cases e
 have c:=mT I g
 unfold subscriptTail
 refine zL ?_
 rw [getitemInPython_of_ne c.not_modules]
 refine zL (wpAny_specialOf c PySem.F.slot_dict_getitem.lookup ?_)
 have fin:wpAny (model X.prog X.w) X.A (subscripted slice false (.ref a) u) (fun r i=>wpAny (model X.prog X.w) X.A (letTemporaryGo value (.ref a) r >>= fun _=>pure r) (EP X pins σ Q) X.xe i) X.xe s:=by
  rw [d]
  exact wpAny_operating (qQ hu I g j fun k s3 f b=>zL (wpAny_letTemporaryGo (zM ⟨w,H,f,b,q⟩)))
 first
  | exact zM (zL fin)
  | exact zL (zM (zL fin))
  | exact zL fin
abbrev ao:=orD ixD pH
theorem yV:OpD K (fun x y H Q=>(sy K x y H Q\/su K x y H Q)\/o5 x y H Q) ao:=od_ix.or vR
theorem zm (hu:X.A.units+1 < cLine):IxR X (fun x y H Q=>(sy X.K x y H Q\/su X.K x y H Q)\/o5 x y H Q):=ix_ok.or (we hu)
def pc:D->List D->Option (D × D)
 | .dt kvs,[.tup ks,v]=>match cy ks with
  | some k=>if kvs.length < 16777216 then some (.dt (sB kvs k v),.non) else none
  | none=>none
 | _,_=>none
def oZ:zK:=fun o i v H Q=>∃ a H',o=.ref a/\DPut H a i v H'/\Q H'
theorem rR (hu:X.A.units+1 < cLine):uo X oZ:=by
 intro pins s σ H o i v ov f u Q I b c d h
 obtain ⟨a,H',rfl,g,q⟩:=h
 cases b
 exact qP hu I g c d fun s' e=>⟨H',e,q⟩
theorem mf:∀ {kvs:List (List Key × D)} {ps:List (List Key × V)} {L L':List Addr} {k:List Key} {d:D} {v:V},kvs.map (·.1)=ps.map (·.1)->Reps (Rep K H) (kvs.map (·.2)) (ps.map (·.2)) L->Rep K H d v L' ->
  ∃ L2,Reps (Rep K H) ((kvs.map fun b=>if b.1=k then (b.1,d) else b).map (·.2)) ((ps.map fun b=>if b.1=k then (b.1,v) else b).map (·.2)) L2/\(∀ c ∈ L2,c ∈ L\/c ∈ L')
 | [],[],L,L',k,d,v,hk,r,rd=>⟨[],.nil,fun c f=>by cases f⟩
 | [],_ :: _,_,_,_,_,_,hk,_,_=>by cases hk
 | _ :: _,[],_,_,_,_,_,hk,_,_=>by cases hk
 | b :: kvs,p :: ps,L,L',k,d,v,hk,r,rd=>by
  have e:b.1=p.1/\kvs.map (·.1)=ps.map (·.1):=by simpa using hk
  generalize g:(b :: kvs).map (·.2)=xs at r
  generalize i:(p :: ps).map (·.2)=ys at r
  cases r with
  | nil=>cases g
  | @cons _ _ L1 _ _ L1' a as =>
   cases g
   cases i
   obtain ⟨L2,h1,h2⟩:=mf (k:=k) e.2 as rd
   by_cases h:b.1=k
   ·refine ⟨L' ++ L2,?_,fun c f=>?_⟩
    ·simp only [Ad,if_pos h,if_pos (e.1.symm.trans h)]
     exact .cons rd h1
    ·rcases zX.mp f with z | z
     ·exact .inr z
     ·rcases h2 c z with y | y
      ·exact .inl (zT _ y)
      ·exact .inr y
   ·refine ⟨L1 ++ L2,?_,fun c f=>?_⟩
    ·simp only [Ad,if_neg h,if_neg (fun z=>h (e.1.trans z))]
     exact .cons a h1
    ·rcases zX.mp f with z | z
     ·exact .inl (zS _ z)
     ·rcases h2 c z with y | y
      ·exact .inl (zT _ y)
      ·exact .inr y
theorem uk {kvs:List (List Key × D)} {ps:List (List Key × V)} (b:kvs.map (·.1)=ps.map (·.1)):(kvs.any fun a=>decide (a.1=k))=ps.any fun a=>decide (a.1=k):=by
 have h1:(kvs.any fun a=>decide (a.1=k))=(kvs.map (·.1)).any fun x=>decide (x=k):=by rw [List.any_map];rfl
 have h2:(ps.any fun a=>decide (a.1=k))=(ps.map (·.1)).any fun x=>decide (x=k):=by rw [List.any_map];rfl
 rw [h1,h2,b]
theorem mD {kvs:List (List Key × α)} {d:α}:(kvs.map fun a=>if a.1=k then (a.1,d) else a).map (·.1)=kvs.map (·.1):=by
 rw [AA]
 refine AB fun a _=>?_
 show (if a.1=k then (a.1,d) else a).1=a.1
 split <;> rfl
theorem put1 (a:D):pc (.dt kvs) [a]=none:=by cases a <;> rfl
theorem put3' (a:D):pc (.dt kvs) (a :: b :: c :: r)=none:=by cases a <;> rfl
theorem vW:MutD K (jv oZ) pc:=fun a d u as H Q p r m na ra n e q=>by
 cases d with
 | dt kvs =>
  obtain ⟨_,ps,_,e1,C,w,j,rs⟩:=r.view
  cases e1
  cases C
  match as,e,ra,n with
  | [],e,_,_=>exact nsE e
  | [y],e,_,_=>exact nsE ((put1 y.d).symm.trans e)
  | y :: _ :: _ :: _,e,_,_=>exact nsE ((put3' y.d).symm.trans e)
  | [k,y],e,ra,n =>
   have x:=ra k zO
   have F:=ra y (zP _ zO)
   have E:=n y (zP _ zO)
   obtain ⟨kd,J,G,I⟩:=k
   dsimp only at x
   cases kd with
   | tup ks =>
    obtain ⟨A,ws,rfl,f,s⟩:=x.view
    have e:(match cy ks with | some k=>if kvs.length < 16777216 then some (D.dt (sB kvs k y.d),D.non) else none | none=>none)=some p:=e
    cases h1:cy ks with
    | none=>rw [h1] at e;exact nsE e
    | some key =>
     rw [h1] at e
     dsimp only at e
     split at e
     ·rename_i B
      cases e
      have hw:=dD s h1
      subst hw
      have hlen:kvs.length=ps.length:=by have:=congrArg List.length j;simpa using this
      refine ⟨.ref A,y.v,rfl,a,_,rfl,DPut.t w f (by rw [<- hlen,<- szl];exact B),?_⟩
      have ma:MutAt H a:=.inr (.inr ⟨_,w⟩)
      have g:Rep K (upd H a (.dT (eh ps key y.v))) y.d y.v y.L:=F.keep (M:=fun b=>b=a) (fun b o f h=>by rw [ay h];exact f) (fun b e=>by rw [e];exact ma) fun b f e=>E (by rw [<- e];exact f)
      have keeps:Reps (Rep K (upd H a (.dT (eh ps key y.v)))) (kvs.map (·.2)) (ps.map (·.2)) u:=rs.keep (M:=fun b=>b=a) (fun b o f h=>by rw [ay h];exact f) (fun b e=>by rw [e];exact ma) fun b f e=>na (by rw [<- e];exact f)
      have fin:∃ l,Reps (Rep K (upd H a (.dT (eh ps key y.v)))) ((sB kvs key y.d).map (·.2)) ((eh ps key y.v).map (·.2)) l/\(∀ c ∈ l,c ∈ u\/c ∈ y.L)/\(sB kvs key y.d).map (·.1)=(eh ps key y.v).map (·.1):=by
       generalize upd H a (HO.dT (eh ps key y.v))=H2 at keeps g ⊢
       unfold sB eh
       rw [uk j]
       split
       ·obtain ⟨L2,g1,g2⟩:=mf (k:=key) j keeps g
        exact ⟨L2,g1,g2,by rw [mD,mD];exact j⟩
       ·refine ⟨u ++ (y.L ++ []),?_,fun c i=>?_,by rw [List.map_append,List.map_append,j];rfl⟩
        ·rw [List.map_append,List.map_append]
         exact keeps.append (.cons g .nil)
        ·rcases zX.mp i with z | z
         ·exact .inl z
         ·rw [List.append_nil] at z;exact .inr z
      obtain ⟨l,g1,g2,g3⟩:=fin
      exact q (.dT (eh ps key y.v)) l ⟨.non,.non,[],.z⟩ (.dT aN g3 g1) rfl (fun c i=>(g2 c i).imp id fun h=>⟨y,zP _ zO,h⟩) rfl rfl .non fun c i=>by cases i
     ·exact nsE e
   | _=>exact nsE e
 | _=>exact nsE e
def yN (f g:D->List D->Option (D × D)) (a:D) (b:List D):Option (D × D):=match f a b with
 | some p=>some p
 | none=>g a b
theorem MutD.or {f g:D->List D->Option (D × D)} (h:MutD K r f) (h':MutD K r' g):MutD K (fun x y H Q=>r x y H Q\/r' x y H Q) (yN f g):=fun a d i as H Q p r m na ra c e q=>by
 unfold yN at e
 cases b:f d (as.map (·.d)) with
 | some p'=>rw [b] at e;cases e;exact .inl (h a d i as H Q _ r m na ra c b q)
 | none=>rw [b] at e;exact .inr (h' a d i as H Q p r m na ra c e q)
abbrev setD:=yN uP pc
theorem y7:MutD K (jv fun o i v H Q=>oY o i v H Q\/oZ o i v H Q) setD:=fun a d b as H Q p r m na ra c e q=>by
 rcases MutD.or vV vW a d b as H Q p r m na ra c e q with ⟨k,v,h1,h2⟩ | ⟨k,v,h1,h2⟩
 ·exact ⟨k,v,h1,.inl h2⟩
 ·exact ⟨k,v,h1,.inr h2⟩
theorem uO (hu:X.A.units+1 < cLine):uo X (fun o i v H Q=>oY o i v H Q\/oZ o i v H Q):=by
 intro pins s σ H o i v ov d u Q I a b c h
 rcases h with h | h
 ·exact rQ pins s σ H o i v ov d u Q I a b c h
 ·exact rR hu pins s σ H o i v ov d u Q I a b c h
end
end L3
end
section
namespace L3
open PySem L2
section
open PySem.Spec PyProof.Rows HT
variable {prog:Program} {w:World} {A:Around} {E:Value->Shared->Prop} {s:Shared}
theorem fH {lo hi:Option Int} (a:IsTup s.heap t items) (e:s.heap.IsSliceOf sl vl vu .none) (pl:IsPart vl lo) (pu:IsPart vu hi) (hw:sIx items.size 0 lo=0/\sIx items.size items.size hi=items.size) (h:Q (.ref t) s) (hsz:items.size<=sizeLine):wpAny (model prog w) A (getItem (.ref t) (.ref sl)) Q E s:=by
 obtain ⟨os,c,d,f⟩:=id e
 have b:s.TypeIs (.ref sl) "slice":=⟨os,c,d⟩
 unfold getItem
 try with_reducible refine zN ?_
 first | refine zL (zM ?_) | skip
 refine zL (wpAny_sequenceKey a.typeIs (by decide) ?_)
 refine zL (wpAny_callSpecial?_slot (name:=Str.ofString "__getitem__") a.typeIs PyProof.Rows.slot_tuple_getitem
  (wpAny_call_entry PyProof.Rows.slot_tuple_getitem a.typeIs entry_tuple_getitem ?_ (args_tuple_getitem _ _)))
 show wpAny _ _ (Builtin.Tuple.tupleItemsOf (.ref t) >>= _) _ _ s
 refine zL (tupleItemsOf_ a ?_)
 refine zL (wpAny_typeOf b ?_)
 rw [if_pos (by decide)]
 refine zL (dJ e pl pu ?_)
 show wpAny _ _ (if (((sIx items.size 0 lo:Nat):Int) == 0 && (1:Int) == 1 && (sIx items.size items.size hi - sIx items.size 0 lo) == items.size)=true then _ else _) _ _ s
 rw [if_pos (by simp [hw.1,hw.2])]
 refine zL ?_
 unfold Builtin.Tuple.tupleIsExact
 refine zL (wpAny_typeOf a.typeIs ?_)
 refine zM ?_
 rw [if_pos (by decide)]
 exact zL (wpAny_rule (zM ⟨_,rfl,zM h⟩))
end
section
variable {K:FG} {G G0:Gm} {W W0:D->Sto->Prop} {H H':Hp} {σ:St} {ρ ρ':Sto} {T T':List It3} {g:Nat->Option It3} {x y z:It3} {α β:Type} {X:Cx} {L:List Addr}
def sk (K:FG):V->Option Int->Option Int->Hp->VK->Prop:=fun x lo hi H Q=>∃ a xs,x=.ref a/\SqT K H a xs/\(HT.sIx xs.length 0 lo=0/\HT.sIx xs.length xs.length hi=xs.length)/\Q (.ref a) H
theorem uL:SlR X (sk X.K):=by
 intro pins s σ H x v g i lo hi sl Q I e d pl pu h
 obtain ⟨a,xs,rfl,f,hw,q⟩:=h
 cases e
 obtain ⟨b,r,c,hz⟩:=I.tuple f
 have hlen:b.toArray.size=xs.length:=by rw [Ac];exact r.length.symm
 refine ⟨"tuple",_,PyProof.Rows.slot_tuple_getitem.lookup,c.typeIs,?_⟩
 exact fH c d pl pu (by rw [hlen];exact hw) ⟨.ref a,H,I,rfl,q⟩ (by rw [hlen];exact hz)
def asI:D->Option Int
 | .int i=>some i
 | _=>none
def jy:M3 (Option Int):=aW none
def cN (m:EM):M3 (Option Int):=ac m fun r=>ac (der r) fun d=>aR ((asI d).map some)
def EndP (K:FG) (G:Gm) (W:D->Sto->Prop) (σ:St) (T:List It3) (ρ':Sto) (Q:Option Int->Hp->Prop):Except D (Option Int)->Prop
 | .ok b=>∀ H' g',Wf K G H' σ ρ' T g'->Q b H'
 | .error e=>W e ρ'
def tP (K:FG) (G0:Gm) (W0:D->Sto->Prop) (m:M3 (Option Int)):TO:=fun σ H Q=>∃ G W,Le K G W G0 W0/\∃ ρ T g r ρ',Wf K G H σ ρ T g/\m ρ=some (r,ρ')/\EndP K G W σ T ρ' Q r
structure RP (X:Cx) (G0:Gm) (W0:D->Sto->Prop) (e:Option Expr) (m:M3 (Option Int)):Prop where
 h:PO X e (tP X.K G0 W0 m)
theorem PO.imp (h:PO X e t) (f:∀ σ H Q,t' σ H Q->t σ H Q):PO X e t':=fun pins s σ H Q I q=>h pins s σ H Q I (f σ H Q q)
theorem u7:RP X G0 W0 none jy:=⟨PO.imp vC fun σ H Q h=>by
 obtain ⟨G,W,le,ρ,T,g,r,ρ',w,e,q⟩:=h
 cases e
 exact q _ _ w⟩
theorem u6 (h:RE X G0 W0 e m):RP X G0 W0 (some e) (cN m):=⟨PO.imp (vB h.h) fun σ H Q h=>by
 obtain ⟨G,W,le,ρ,T,g,r,ρ',w,e,q⟩:=h
 have a:∀ x,r=.error x->W x ρ':=fun x c=>by subst c;exact q
 refine tE.seq le w e a fun ra ρ1 e1 v H1 ⟨Ts,g1,b,a1⟩=>?_
 obtain ⟨d,d1,l⟩:=aJ e1
 obtain ⟨o,p,rfl,rfl⟩:=bH l
 obtain ⟨i,n,j⟩:=zR.mp p
 subst j
 obtain ⟨y,k,f1,f2⟩:=a1.item b (fun x c=>zS _ c) d1
 have f:=(b.itm k).rep
 rw [f1] at f
 have hd:d=.int i:=by cases d <;> cases n;rfl
 rw [hd] at f
 refine ⟨i,by rw [<- f2];exact f.int_inv,q _ _ (b.sub (z6 Ts T))⟩⟩
def mSl (f:D->Option Int->Option Int->Option (D × Fl)) (ma:EM) (pl pu:M3 (Option Int)):EM:=ac ma fun ra=>ac pl fun lo=>ac pu fun hi=>ac (der ra) fun d=>aR ((f d lo hi).map fun p=>R3.val p.1 p.2)
def SlD (K:FG) (r:V->Option Int->Option Int->Hp->VK->Prop) (f:D->Option Int->Option Int->Option (D × Fl)):Prop:=∀ (a:It3) (lo hi:Option Int) (H:Hp) (Q:VK) (p:D × Fl),Arg K H a->f a.d lo hi=some p ->
 (∀ w H',New K H H' (dq [a]) w->w.d=p.1->w.f=p.2->Q w.v H')->r a.v lo hi H Q
theorem tP.seq (le:Le K G W G0 W0) (w:Wf K G H σ ρ T g) (e:ac ma k ρ=some (r,ρ')) (he:∀ x,r=.error x->W x ρ') (h:∀ b ρ1,k b ρ1=some (r,ρ')->∀ H1 g1,Wf K G H1 σ ρ1 T g1->P b H1):tP K G0 W0 ma σ H P:=by
 unfold ac at e
 cases q:ma ρ with
 | none=>rw [q] at e;exact nsE e
 | some p =>
  obtain ⟨o,ρ1⟩:=p
  rw [q] at e
  cases o with
  | error x=>cases e;exact ⟨G,W,le,ρ,T,g,.error x,ρ',w,q,he x rfl⟩
  | ok ra=>exact ⟨G,W,le,ρ,T,g,.ok ra,ρ1,w,q,h ra ρ1 e⟩
theorem tE_sl (hd:SlD K r f) (h:tE K G0 W0 (mSl f ma pl pu) σ H Q):tSl r (tE K G0 W0 ma) (tP K G0 W0 pl) (tP K G0 W0 pu) σ H Q:=by
 refine h.use fun G W le ρ T g o ρ' w e q=>?_
 refine tE.seq le w e q.err fun ra ρ1 e1 v H1 ⟨Ts,g1,j,a1⟩=>?_
 refine tP.seq le j e1 q.err fun lo ρ2 m H2 g2 t=>?_
 refine tP.seq le t m q.err fun hi ρ3 u l g3 b=>?_
 obtain ⟨d,d1,n⟩:=aJ u
 obtain ⟨p,a,rfl,rfl⟩:=bH n
 obtain ⟨y,i,f1,f2⟩:=a1.item b (fun x k=>zS _ k) d1
 subst f1 f2
 cases c:f y.d lo hi with
 | none=>rw [c] at a;exact nsE a
 | some s =>
  rw [c] at a
  cases a
  exact hd y lo hi l Q s (b.itm i).arg c (kB b (fun z hz=>by rw [Ao.mp hz];exact i) q)
theorem Reps.take:∀ {ds:List D} {vs:List V} {L:List Addr} (n:Nat),Reps (Rep K H) ds vs L->∃ L',Reps (Rep K H) (ds.take n) (vs.take n) L'/\∀ c ∈ L',c ∈ L
 | _,_,_,0,_=>⟨[],by simpa using Reps.nil,fun c a=>by cases a⟩
 | _,_,_,n+1,.nil=>⟨[],by simpa using Reps.nil,fun c a=>by cases a⟩
 | _,_,_,n+1,.cons (L:=L1) r rs=>by
  obtain ⟨L',h1,h2⟩:=Reps.take n rs
  exact ⟨L1 ++ L',by simpa using Reps.cons r h1,fun c a=>by
   rcases zX.mp a with h | h
   ·exact zS _ h
   ·exact zT _ (h2 c h)⟩
theorem Reps.drop:∀ {ds:List D} {vs:List V} {L:List Addr} (n:Nat),Reps (Rep K H) ds vs L->∃ L',Reps (Rep K H) (ds.drop n) (vs.drop n) L'/\∀ c ∈ L',c ∈ L
 | _,_,L,0,r=>⟨L,by simpa using r,fun c a=>a⟩
 | _,_,_,n+1,.nil=>⟨[],by simpa using Reps.nil,fun c a=>by cases a⟩
 | _,_,_,n+1,.cons r rs=>by
  obtain ⟨L',h1,h2⟩:=Reps.drop n rs
  exact ⟨L',by simpa using h1,fun c a=>zT _ (h2 c a)⟩
theorem Reps.cut (lo hi:Option Int) (r:Reps (Rep K H) ds vs L):∃ L',Reps (Rep K H) (fJ ds lo hi) (mV vs lo hi) L'/\∀ c ∈ L',c ∈ L:=by
 unfold fJ mV
 rw [<- r.len]
 obtain ⟨d,h1,h2⟩:=r.drop (HT.sIx ds.length 0 lo)
 obtain ⟨L2,h3,a⟩:=h1.take (HT.sIx ds.length ds.length hi - HT.sIx ds.length 0 lo)
 exact ⟨L2,h3,fun c b=>h2 c (a c b)⟩
def slD:D->Option Int->Option Int->Option (D × Fl)
 | .lst xs,lo,hi=>some (.lst (fJ xs lo hi),.u)
 | .fls xs,lo,hi=>some (.lst (fJ xs lo hi),.u)
 | .tup xs,lo,hi=>some (.tup (fJ xs lo hi),.z)
 | _,_,_=>none
theorem sd_sl:SlD K (fun x lo hi H Q=>yt K x lo hi H Q\/(yr K x lo hi H Q\/sk K x lo hi H Q)) slD:=fun a lo hi H Q p ra e q=>by
 obtain ⟨da,m,i,j⟩:=a
 have d:=ra
 obtain ⟨ra,l⟩:=ra
 dsimp only at ra e
 cases da with
 | lst xs =>
  obtain ⟨b,vs,k,rfl,rfl,f,rs⟩:=ra.view
  cases e
  obtain ⟨L',h1,h2⟩:=rs.cut lo hi
  exact .inl ⟨b,vs,rfl,SqL.of f,fun p h=>q ⟨_,.ref p,p :: L',.u⟩ _ (sZ h h1 fun c g=>mK (y:=⟨.lst xs,.ref b,b :: k,j⟩) zO d rfl rfl c (h2 c g)) rfl rfl⟩
 | fls xs =>
  obtain ⟨b,vs,rfl,f,rs⟩:=ra.view
  cases e
  obtain ⟨L',h1,h2⟩:=rs.cut lo hi
  exact .inl ⟨b,vs,rfl,f.sq,fun p h=>q ⟨_,.ref p,p :: L',.u⟩ _ (sZ h h1 fun c g=>fW (y:=⟨.fls xs,.ref b,i,j⟩) zO d rfl c (h2 c g)) rfl rfl⟩
 | tup xs =>
  obtain ⟨b,vs,rfl,f,rs⟩:=ra.view
  cases e
  by_cases hw:HT.sIx vs.length 0 lo=0/\HT.sIx vs.length vs.length hi=vs.length
  ·have g:fJ xs lo hi=xs:=by
    unfold fJ
    rw [rs.len,hw.1,hw.2,<- rs.len]
    simp
   rw [g] at q
   exact .inr (.inr ⟨b,vs,rfl,SqT.of f,hw,q ⟨.tup xs,.ref b,i,.z⟩ H (mo (.tup f rs) (fW (y:=⟨.tup xs,.ref b,i,j⟩) zO d rfl)) rfl rfl⟩)
  ·obtain ⟨L',h1,h2⟩:=rs.cut lo hi
   exact .inr (.inl ⟨b,vs,rfl,SqT.of f,hw,fun p h=>q ⟨_,.ref p,L',.z⟩ _ (sY h h1 fun c g=>fW (y:=⟨.tup xs,.ref b,i,j⟩) zO d rfl c (h2 c g)) rfl rfl⟩)
 | _=>exact nsE e
theorem xL:SlR X (fun x lo hi H Q=>yt X.K x lo hi H Q\/(yr X.K x lo hi H Q\/sk X.K x lo hi H Q)):=sl_list.or (sl_tup.or uL)
theorem si (he:RE X G0 W0 e m) (a:RP X G0 W0 lo pl) (hu:RP X G0 W0 hi pu):RE X G0 W0 (.Subscript e (.Slice lo hi none p2) pos) (mSl slD m pl pu):=⟨PE.imp (sL xL he.h a.h hu.h) fun _ _ _ h=>tE_sl sd_sl h⟩
end
end L3
end
section
namespace L3
open PySem L2
mutual
def pyD:D->Option PyData
 | .non=>some .none
 | .bl b=>some (.bool b)
 | .int i=>some (.int i)
 | .str x=>some (.str x)
 | .tup xs=>(eg xs).map .tuple
 | .lst xs=>(eg xs).map .list
 | .fls xs=>(eg xs).map .list
 | .dk _=>none
 | .dt _=>none
 | .exc _ _=>none
def eg:List D->Option (List PyData)
 | []=>some []
 | d :: ds=>match pyD d,eg ds with
  | some p,some ps=>some (p :: ps)
  | _,_=>none
end
section
variable {K:FG} {H:Hp} {Ks:Addr->Prop} {d:D} {v:V} {L:List Addr} {X:Cx}
theorem Rep.dv (r:Rep K H d v L):∀ p,pyD d=some p->DV K H v p:=by
 refine Rep.rec (motive_1:=fun d v _ _=>∀ p,pyD d=some p->DV K H v p) (motive_2:=fun ds vs _ _=>∀ ps,eg ds=some ps->DVs K H vs ps) ?_ ?_ ?_ ?_ ?_ ?_ ?_ ?_ ?_ ?_ ?_ ?_ r
 ·intro p e;unfold pyD at e;cases e;exact .non
 ·intro _ p e;unfold pyD at e;cases e;exact .bl _
 ·intro _ p e;unfold pyD at e;cases e;exact .int _
 ·intro _ p e;unfold pyD at e;cases e;exact .str _
 ·intro xs a vs L h _ b p e
  unfold pyD at e
  obtain ⟨ps,e1,rfl⟩:=zR.mp e
  exact .tup (SqT.of h) (b ps e1)
 ·intro xs a vs L h _ b p e
  unfold pyD at e
  obtain ⟨ps,e1,rfl⟩:=zR.mp e
  exact .lst (SqL.of h) (b ps e1)
 ·intro xs a vs L h _ b p e
  unfold pyD at e
  obtain ⟨ps,e1,rfl⟩:=zR.mp e
  exact .lst h.sq (b ps e1)
 ·intro _ _ _ _ _ _ _ _ p e;unfold pyD at e;exact nsE e
 ·intro _ _ _ _ _ _ _ _ p e;unfold pyD at e;exact nsE e
 ·intros;rename_i e;unfold pyD at e;exact nsE e
 ·intro ps e;unfold eg at e;cases e;exact .nil
 ·intro d v L ds vs L' _ _ f c ps e
  unfold eg at e
  cases h1:pyD d with
  | none=>rw [h1] at e;exact nsE e
  | some p =>
   cases h2:eg ds with
   | none=>rw [h1,h2] at e;exact nsE e
   | some qs=>rw [h1,h2] at e;cases e;exact .cons (f p h1) (c qs h2)
def eqP (a b:D):Option Bool:=match pyD a,pyD b with
 | some p,some q=>if p.canLay0 && q.canLay0 && decide (min p.depth q.depth<=30) then some (PyData.eqv p q) else none
 | _,_=>none
def eqA (a b:D):Option Bool:=match eqS a b with
 | some k=>some k
 | none=>eqP a b
abbrev eqX (a b:D):Option (D × Fl):=(eqA a b).map fun k=>(.bl k,.z)
abbrev neX (a b:D):Option (D × Fl):=(eqA a b).map fun k=>(.bl (!k),.z)
def rEqP:R2:=fun x y H Q=>∃ p q,DV X.K H x p/\DV X.K H y q/\p.canLay0=true/\q.canLay0=true/\min p.depth q.depth<=30/\Q (.bl (PyData.eqv p q)) H
def rNeP:R2:=fun x y H Q=>∃ p q,DV X.K H x p/\DV X.K H y q/\p.canLay0=true/\q.canLay0=true/\min p.depth q.depth<=30/\Q (.bl (!PyData.eqv p q)) H
theorem sR (hu:X.A.units+64 < cLine):OpR X (compareOp .Eq) (fun x y H Q=>rEq x y H Q\/rEqP (X:=X) x y H Q):=by
 intro pins s σ H x y v u Q I a b h
 rcases h with h | ⟨p,q,h1,h2,h3,c,h5,d⟩
 ·exact op_eq pins s σ H x y v u Q I a b h
 ·obtain ⟨as,ra⟩:=DV.reads I h1 a
  obtain ⟨bs,rb⟩:=DV.reads I h2 b
  exact PySem.SeqAt.compareEq_reads ra rb h3 c (by omega) ⟨.bl _,H,I,rfl,d⟩
theorem yQ (hu:X.A.units+64 < cLine):OpR X (compareOp .NotEq) (fun x y H Q=>rNe x y H Q\/rNeP (X:=X) x y H Q):=by
 intro pins s σ H x y v u Q I a b h
 rcases h with h | ⟨p,q,h1,h2,h3,c,h5,d⟩
 ·exact op_ne pins s σ H x y v u Q I a b h
 ·obtain ⟨as,ra⟩:=DV.reads I h1 a
  obtain ⟨bs,rb⟩:=DV.reads I h2 b
  exact PySem.SeqAt.compareNe_reads ra rb h3 c (by omega) ⟨.bl _,H,I,rfl,d⟩
theorem pK (e:eqP a b=some k):∃ p q,pyD a=some p/\pyD b=some q/\p.canLay0=true/\q.canLay0=true/\min p.depth q.depth<=30/\k=PyData.eqv p q:=by
 unfold eqP at e
 cases h1:pyD a with
 | none=>rw [h1] at e;exact nsE e
 | some p =>
  cases h2:pyD b with
  | none=>rw [h1,h2] at e;exact nsE e
  | some q =>
   rw [h1,h2] at e
   dsimp only at e
   split at e
   ·rename_i h
    cases e
    simp only [Bool.and_eq_true,decide_eq_true_eq] at h
    exact ⟨p,q,rfl,rfl,h.1.1,h.1.2,h.2,rfl⟩
   ·exact nsE e
theorem sV:OpD X.K (fun x y H Q=>rEq x y H Q\/rEqP (X:=X) x y H Q) eqX:=fun a b H Q p ra rb e q=>by
 obtain ⟨k,h1,h2⟩:=zR.mp e
 subst h2
 unfold eqA at h1
 cases c:eqS a.d b.d with
 | some k' =>
  rw [c] at h1
  cases h1
  obtain ⟨s,h⟩:=tO ra.rep rb.rep c
  exact .inl ⟨s,by rw [<- h];exact q ⟨.bl k,.bl k,[],.z⟩ H (c8 (.bl k)) rfl rfl⟩
 | none =>
  rw [c] at h1
  obtain ⟨p,f,e1,j,i,l,g,rfl⟩:=pK h1
  exact .inr ⟨p,f,ra.rep.dv p e1,rb.rep.dv f j,i,l,g,q ⟨.bl _,.bl _,[],.z⟩ H (c8 (.bl _)) rfl rfl⟩
theorem yW:OpD X.K (fun x y H Q=>rNe x y H Q\/rNeP (X:=X) x y H Q) neX:=fun a b H Q p ra rb e q=>by
 obtain ⟨k,h1,h2⟩:=zR.mp e
 subst h2
 unfold eqA at h1
 cases c:eqS a.d b.d with
 | some k' =>
  rw [c] at h1
  cases h1
  obtain ⟨s,h⟩:=tO ra.rep rb.rep c
  exact .inl ⟨s,by rw [<- h];exact q ⟨.bl (!k),.bl (!k),[],.z⟩ H (c8 (.bl _)) rfl rfl⟩
 | none =>
  rw [c] at h1
  obtain ⟨p,f,e1,j,i,l,g,rfl⟩:=pK h1
  exact .inr ⟨p,f,ra.rep.dv p e1,rb.rep.dv f j,i,l,g,q ⟨.bl _,.bl _,[],.z⟩ H (c8 (.bl _)) rfl rfl⟩
def intQ1:D->Option (D × Fl)
 | .int i=>some (.int i,.z)
 | .bl k=>some (.int (if k then 1 else 0),.z)
 | _=>none
abbrev wX:=c1 intQ1
theorem wu:d6 K (fun xs H Q=>(∃ i,xs=[.int i]/\Q (.int i) H)\/∃ k,xs=[.bl k]/\Q (.int (if k then 1 else 0)) H) wX:=fun ys H Q p ra e q=>by
 obtain ⟨y,rfl,c⟩:=gb e
 clear e
 have e:=c
 clear c
 have a:=(ra y zO).rep
 obtain ⟨da,g,d,f⟩:=y
 dsimp only at a e
 cases a <;> try (exact nsE e)
 ·rename_i b
  cases e
  exact .inr ⟨b,rfl,q ⟨_,_,[],.z⟩ H (c8 (.int _)) rfl rfl⟩
 ·rename_i i
  cases e
  exact .inl ⟨i,rfl,q ⟨_,_,[],.z⟩ H (c8 (.int _)) rfl rfl⟩
end
end L3
end
section
namespace L3
open PySem L2
theorem zr {k:Nat} {nn:Nat} (F:Fun K x x st f fd) (S:FnScope N ps (ah st)) (b:mask.length=ps.length) (c:N.length=nn) (body:∀ (a:Value) (A:Around) (outer:List Env) (s:Shared) (H:Hp) (E:XK) (f:Addr) (G:Gm),Room k (A.deeper (PyProof.Rows.envOfC x (ah st) s.heap.objs.size f a))->G.pr=prM mask->RSs (mU CX0 P w K mg base N x (ah st) f a A outer s H E).nox G noX (aM st) m) :
  FnOk P w K mg base CX0 (k+1) f fd ps (qb K (fnM mask nn m)):=by
 refine F.ok S (fun vs H Q E h=>?_) fun a A outer s H vs Q E i h=>?_
 ·obtain ⟨l,p,fs,rfl,_,_,d,_⟩:=h
  unfold fnM at d
  rw [zZ] at d ⊢
  split at d
  ·rename_i e;rw [e,b]
  ·exact nsE d
 ·have hle:mask.length<=nn:=by
   rw [b,<- c]
   have:=congrArg List.length S.pre
   rw [Al] at this
   omega
  obtain ⟨G,j,g⟩:=pJ hle h
  subst c
  exact ⟨_,(body a A outer s H E f G i j).h,g⟩
def rL (K:FG):Sp:=fun vs H Q _=>∃ (a:Addr) (ns:List Int),vs=[.ref a]/\SqL K H a (ns.map V.int)/\wC H/\ns.length<=63/\∀ H',Q (.bl true) H'
theorem kh:∀ ns:List Int,Reps (Rep K H) (ns.map D.int) (ns.map V.int) []
 | []=>.nil
 | n :: ns=>.cons (L:=[]) (.int n) (kh ns)
theorem wd (j:∀ ns:List Int,ns.length<=63->∃ fs,F [(.fls (ns.map .int),.z)]=some (.ok (.bl true,.z),fs)) (h:rL K vs H Q E):qb K F vs H Q E:=by
 obtain ⟨a,ns,rfl,b,d,f,q⟩:=h
 obtain ⟨fs,e⟩:=j ns f
 have g:FzL K H a (ns.map V.int):=by
  rcases b with (h | h) | h
  ·rcases d a with z | ⟨o,xs,z⟩
   ·rw [h] at z;cases z
   ·rw [h] at z;cases z
  ·exact .inl h
  ·exact .inr h
 refine ⟨[⟨.fls (ns.map .int),.ref a,[],.z⟩],(.bl true,.z),fs,rfl,fun p i=>?_,.cons (fun _ h=>by cases h) .nil,e,fun x qs H' B c k _=>?_⟩
 ·rw [Ao.mp i]
  exact ⟨.lstF g (kh ns),fun h=>absurd rfl h⟩
 ·have r:=B.rep
  rw [c] at r
  have inv:∀ {v:V} {L:List Addr},Rep K H' (.bl true) v L->v=.bl true:=fun r=>by cases r;rfl
  rw [inv r]
  exact q H'
end L3
end
section
namespace L3
open PySem L2
end L3
end
section
namespace L3
open PySem L2
end L3
end
section
namespace L3
open PySem L2
section
variable {K:FG} {G G0:Gm} {W W0:D->Sto->Prop} {H H':Hp} {σ:St} {ρ ρ':Sto} {T T':List It3} {g:Nat->Option It3} {x y z:It3} {α β:Type} {X:Cx} {v:V} {d:D} {L:List Addr}
def ut (i j:Int):Prop:=0 < j/\j < 1267650600228229401496703205376
theorem sQ:OpR X (binaryOp .FloorDiv) (rI ut fun i j=>.int (i / j)):=opI fun i j _ _ _ _ _ a q=>by
 have h1:(0:Int) < j:=a.1
 have h2:j < 1267650600228229401496703205376:=a.2
 refine PyProof.Rows.floordiv_int (by omega) (by rw [Int.fdiv_eq_ediv_of_nonneg i (by omega)];exact q) (.inl (PyProof.noPylong_of_log2 ?_))
 have h3:j.natAbs < 2 ^ 100:=by omega
 exact Nat.lt_trans ((Nat.log2_lt (by omega)).mpr h3) (by decide)
abbrev zv:=dG (fun _ j=>decide (0 < j/\j < 1267650600228229401496703205376)) fun i j=>.int (i / j)
theorem vS:OpD K (rI ut fun i j=>.int (i / j)) zv:=fF (fun i j h=>by simpa [ut] using h) fun i j _=>.int _
end
end L3
end
section
namespace L3
open PySem L2
end L3
end
section
namespace L3
open PySem L2
end L3
end
section
namespace L3
open PySem L2
end L3
theorem L2.Room.hu {k:Nat} (a:L2.Room k A):A.units+1 < PySem.cLine:=L2.hu_of a
end
section
namespace L3
open PySem L2
end L3
end
section
namespace L3
open PySem L2
section
variable {K:FG} {G G0:Gm} {W W0:D->Sto->Prop} {H H':Hp} {σ:St} {ρ ρ':Sto} {T T':List It3} {g:Nat->Option It3} {x y z:It3} {α β:Type} {X:Cx} {v:V} {d:D} {L:List Addr}
def fM:List D->Option (List (List Key))
 | []=>some []
 | .tup xs :: ds=>match cy xs,fM ds with
  | some k,some ks=>some (k :: ks)
  | _,_=>none
 | _=>none
def dzQ:D->D->Option (D × Fl)
 | .lst xs,.tup ys=>(fM xs).bind fun ks=>if ks.length=ys.length/\ks.Nodup then some (.dt (ks.zip ys),.u) else none
 | _,_=>none
abbrev dzD:=c2 dzQ
abbrev pq (ms:M3 (List R3)):EM:=aq dzD ms
theorem jH:∀ {ds:List D} {vs:List V} {L:List Addr} {ks:List (List Key)},Reps (Rep K H) ds vs L->fM ds=some ks->∃ bs:List (Addr × List Key),vs=bs.map (fun b=>V.ref b.1)/\bs.map (·.2)=ks/\∀ b ∈ bs,H b.1=some (.tup (b.2.map kV))
 | _,_,_,ks,.nil,e=>by cases e;exact ⟨[],rfl,rfl,fun b a=>by cases a⟩
 | _,_,_,ks,.cons (d:=d) (ds:=ds) r rs,e=>by
  cases d <;> try (exact nsE e)
  rename_i xs
  obtain ⟨g,ws,rfl,f,c⟩:=r.view
  unfold fM at e
  cases h1:cy xs with
  | none=>rw [h1] at e;exact nsE e
  | some k =>
   cases h2:fM ds with
   | none=>rw [h1,h2] at e;exact nsE e
   | some ks' =>
    rw [h1,h2] at e
    cases e
    obtain ⟨bs,g1,g2,g3⟩:=jH rs h2
    have hw:=dD c h1
    subst hw
    refine ⟨(g,k) :: bs,by rw [g1];rfl,by rw [Ad,g2],fun b a=>?_⟩
    rcases zU.mp a with rfl | a
    ·exact f
    ·exact g3 b a
theorem jm {α β:Type}:∀ {ks:List α} {ys:List β},ks.length=ys.length->(ks.zip ys).map (·.2)=ys
 | [],[],_=>rfl
 | k :: ks,y :: ys,e=>by simp [jm (ks:=ks) (ys:=ys) (by simpa using e)]
theorem jo {α β:Type}:∀ {ks:List α} {ys:List β},ks.length=ys.length->(ks.zip ys).map (·.1)=ks
 | [],[],_=>rfl
 | k :: ks,y :: ys,e=>by simp [jo (ks:=ks) (ys:=ys) (by simpa using e)]
theorem uH {ms:M3 (List R3)} {Q:VK} (h:tE K G0 W0 (pq ms) σ H Q):wJ K (tA K G0 W0 ms) σ H Q:=by
 refine jp (r:=fun xs H Q=>∃ (l t:Addr) (bs:List (Addr × List Key)) (ws:List V),xs=[.ref l,.ref t]/\SqL K H l (bs.map fun b=>V.ref b.1)/\SqT K H t ws/\(∀ b ∈ bs,H b.1=some (.tup (b.2.map kV)))/\bs.length=ws.length/\(bs.map (·.2)).Nodup/\∀ p,H p=none->Q (.ref p) (upd H p (.dT ((bs.map (·.2)).zip ws)))) (fun ys H Q p ra e q=>?_) h
 obtain ⟨y,z,rfl,g⟩:=lG e
 clear e
 have n:=(ra y zO).rep
 have m:=(ra z (zP _ zO)).rep
 have w:=ra z (zP _ zO)
 obtain ⟨da,G,C,F⟩:=y
 obtain ⟨db,E,j,B⟩:=z
 dsimp only at n m g
 cases da <;> try (exact nsE g)
 rename_i xs
 cases db <;> try (exact nsE g)
 rename_i ws
 obtain ⟨A,vs,I,rfl,rfl,v,rs⟩:=n.view
 obtain ⟨k,us,rfl,x,d⟩:=m.view
 obtain ⟨ks,h1,h2⟩:=An.mp (show ((fM xs).bind fun ks=>if ks.length=ws.length/\ks.Nodup then some ((.dt (ks.zip ws),.u):D × Fl) else none)=some p from g)
 split at h2
 ·rename_i a
  cases h2
  obtain ⟨bs,g1,g2,g3⟩:=jH rs h1
  subst g1 g2
  have i:(bs.map (·.2)).length=us.length:=by rw [a.1,d.len]
  refine ⟨A,k,bs,us,rfl,SqL.of v,SqT.of x,g3,by simpa using i,a.2,fun p f=>?_⟩
  refine q ⟨.dt ((bs.map (·.2)).zip ws),.ref p,p :: j,.u⟩ _ ⟨bo f,.dT aN (by rw [jo a.1,jo i]) (by rw [jm a.1,jm i];exact d.same (bo f)),fun c a=>?_,fun _=>⟨rfl,p,j,rfl,rfl,fun a=>?_,f⟩⟩ rfl rfl
  ·rcases zU.mp a with e | a
   ·rw [e];exact .inl f
   ·exact .inr (fW (y:=⟨.tup ws,.ref k,j,B⟩) (zP _ zO) w rfl c a)
  ·obtain ⟨o,s⟩:=(d.inH p a).ex
   rw [f] at s
   exact nsE s
 ·exact nsE h2
theorem vi {a b:Expr} {ms:M3 (List R3)} {n p2 d c:Pos} (l:X.calm=true) (hu:X.A.units+64 < cLine) (g:Gl X "dict") (e:X.mg "dict"=none) (m:Gl X "zip") (hm:X.mg "zip"=none) (k:RA X G0 W0 [a,b] ms)
  (j:starEach [.Call (.Name "zip" p2) [a,b] [] c] X.env=[(false,eval (.Call (.Name "zip" p2) [a,b] [] c) X.env)]) (f:starEach [a,b] X.env=(false,eval a X.env) :: starEach [b] X.env) (i:(backTo c (starEach [b] X.env)).any (·.1)=false) :
  RE X G0 W0 (.Call (.Name "dict" n) [.Call (.Name "zip" p2) [a,b] [] c] [] d) (pq ms):=⟨PE.imp (vF l hu g e m hm zG b_zip k.h j f i) fun _ _ _ h=>uH h⟩
end
end L3
end
section
namespace L3
open PySem L2
end L3
end
section
namespace L3
open PySem L2
end L3
end
section
namespace L3
open PySem L2
section
variable {K:FG} {G G0:Gm} {W W0:D->Sto->Prop} {H H':Hp} {σ:St} {ρ ρ':Sto} {T T':List It3} {g:Nat->Option It3} {x y z:It3} {α β:Type} {X:Cx}
theorem Reps.rev:∀ {ds:List D} {vs:List V} {L:List Addr},Reps (Rep K H) ds vs L->∃ L',Reps (Rep K H) ds.reverse vs.reverse L'/\∀ c ∈ L',c ∈ L
 | [],_,_,.nil=>⟨[],.nil,fun c a=>a⟩
 | d :: ds,_,_,.cons (v:=v) (L:=L1) r rs=>by
  obtain ⟨L',h1,h2⟩:=Reps.rev rs
  rw [List.reverse_cons,List.reverse_cons]
  refine ⟨L' ++ (L1 ++ []),h1.append (.cons r .nil),fun c a=>?_⟩
  rcases zX.mp a with h | h
  ·exact zT _ (h2 c h)
  ·rw [List.append_nil] at h;exact zS _ h
def imRev (ms:M3 (List R3)):IM:=ac ms fun rs=>ac (dU rs) fun ds=>aR (match ds with
 | [.tup xs]=>some (rs,xs.reverse)
 | _=>none)
def pk (ma:EM) (pp:M3 (Option Int)):EM:=ac ma fun ra=>ac pp fun o=>ac (der ra) fun d=>aR (match d with
 | .tup xs=>if o=some (-1) then some (R3.val (.tup xs.reverse) .z) else none
 | _=>none)
theorem uF {ma:EM} {pp:M3 (Option Int)} {Q:VK} (h:tE K G0 W0 (pk ma pp) σ H Q):wE K (tE K G0 W0 ma) (tP K G0 W0 pp) σ H Q:=by
 refine h.use fun G W le ρ T g o ρ' w e q=>?_
 refine tE.seq le w e q.err fun ra ρ1 e1 D H1 ⟨Ts,g1,u,a1⟩=>?_
 refine tP.seq le u e1 q.err fun lo ρ2 r H2 g2 j=>?_
 obtain ⟨d,d1,s⟩:=aJ r
 obtain ⟨p,a,rfl,rfl⟩:=bH s
 obtain ⟨y,k,f1,f2⟩:=a1.item j (fun x f=>zS _ f) d1
 subst f1 f2
 have l:=(j.itm k).arg
 have inv:∃ xs,y.d=.tup xs/\lo=some (-1)/\p=R3.val (.tup xs.reverse) .z:=by
  split at a
  ·rename_i xs f
   by_cases i:lo=some (-1)
   ·rw [if_pos i] at a
    exact ⟨xs,f,i,(AC a).symm⟩
   ·rw [if_neg i] at a;cases a
  ·cases a
 obtain ⟨xs,n,rfl,rfl⟩:=inv
 have C:=kB j (ys:=[y]) (fun z hz=>by rw [Ao.mp hz];exact k) q
 clear e e1 r s a d1 q
 obtain ⟨da,D,A,B⟩:=y
 dsimp only at n
 subst n
 have b:=l
 obtain ⟨m,E⟩:=l
 dsimp only at m
 cases m with
 | @tup _ pa vs L ha rs =>
  obtain ⟨L',h1,h2⟩:=rs.rev
  exact ⟨pa,vs,rfl,rfl,SqT.of ha,fun p v=>C ⟨_,.ref p,L',.z⟩ _ (sY v h1 fun c t=>fW (y:=⟨.tup xs,.ref pa,A,B⟩) zO b rfl c (h2 c t)) rfl rfl⟩
theorem vh {e st:Expr} {p2 pos:Pos} {m:EM} {pp:M3 (Option Int)} (he:RE X G0 W0 e m) (a:RP X G0 W0 (some st) pp):RE X G0 W0 (.Subscript e (.Slice none none (some st) p2) pos) (pk m pp):=⟨PE.imp (vD he.h a.h) fun _ _ _ h=>uF h⟩
end
end L3
end
section
namespace L3
open PySem L2
end L3
end
section
namespace L3
open PySem L2
section
variable {K:FG} {H H':Hp}
def so:List V->Hp->VK->Prop:=fun xs H Q=>∃ i:Int,xs=[.int i]/\i.natAbs.log2 < 1920/\Q (.str (mm i)) H
end
end L3
end
section
namespace L3
open PySem L2
end L3
end
section
namespace L3
open PySem L2
section
variable {K:FG} {G0:Gm} {W0:D->Sto->Prop} {X:Cx}
def za (k:Key) (i:Int):EM:=aW (.val (.dk [(k,.int i)]) .u)
theorem yn {i:Int} (l:PE X k (tC (kV key))) (f:PE X v (tC (.int i))):RE X G0 W0 (.Dict [some k] [v] pos) (za key i):=⟨PE.imp (yJ l f) fun σ H Q h=>by
 refine h.use fun G W le ρ T g o ρ' w e q=>?_
 cases e
 intro p d
 have sm:Same H (upd (upd H p (.dK [])) p (.dK [(key,.int i)])):=fun b o a=>by
  have n:b ≠ p:=fun z=>by rw [z,d] at a;cases a
  rw [ay n,ay n];exact a
 refine q _ _ (Wf.done (Us:=[]) (ys:=[]) (x:=⟨.dk [(key,.int i)],.ref p,[p],.u⟩) w (fun _ h=>(by cases h)) ⟨sm,.dK (L:=[]) aN rfl (.cons (L:=[]) (.int i) .nil),fun c j=>?_,fun _=>⟨rfl,p,[],rfl,rfl,(by simp),d⟩⟩)
 rw [Ao.mp j];exact .inl d⟩
end
end L3
end
section
namespace L3
open PySem L2
def kP:Key->PyData
 | .inl i=>.int i
 | .inr x=>.str x
def d1 {α:Type}:List (α × D)->Option (α × Int)
 | [(k,.int i)]=>some (k,i)
 | _=>none
theorem xi {i:Int} (h:d1 l=some (k,i)):l=[(k,.int i)]:=by
 unfold d1 at h
 split at h
 ·cases h;rfl
 ·cases h
mutual
def pyN:D->Option PyData
 | .non=>some .none
 | .bl b=>some (.bool b)
 | .int i=>some (.int i)
 | .str x=>some (.str x)
 | .tup xs=>(me xs).map .tuple
 | .dk kvs=>(d1 kvs).map fun p=>.dict [(kP p.1,.int p.2)]
 | .dt kvs=>(d1 kvs).map fun p=>.dict [(.tuple (p.1.map kP),.int p.2)]
 | _=>none
def me:List D->Option (List PyData)
 | []=>some []
 | d :: ds=>match pyN d,me ds with
  | some p,some ps=>some (p :: ps)
  | _,_=>none
end
def RdN (H:Hp) (v:V) (p:PyData):Prop:=∀ (X:Cx) (pins:List (Addr × Obj)) (σ:St) (s:Shared),Inv X pins σ H s->∀ u,RelV v u->∃ as,Reads s.heap u p as/\sysModules ∉ as
def RdNs (H:Hp) (vs:List V) (ps:List PyData):Prop:=∀ (X:Cx) (pins:List (Addr × Obj)) (σ:St) (s:Shared),Inv X pins σ H s->∀ us,Vals vs us->∃ as,ReadsAll s.heap us ps as/\sysModules ∉ as
theorem iz:∀ {ks:List Key} {us:List Value},Vals (ks.map kV) us->ReadsAll h us (ks.map kP) []
 | [],_,.nil=>.nil
 | .inl i :: ks,_,.cons r rs=>by
  obtain ⟨t,rfl⟩:=r
  exact .cons (as:=[]) (bs:=[]) (.int i t) (iz rs)
 | .inr x :: ks,_,.cons r rs=>by
  obtain ⟨t,rfl⟩:=r
  exact .cons (as:=[]) (bs:=[]) (.str x t) (iz rs)
theorem pe {α:Type} {k:α} {i:Int} {ps:List (α × V)} (b:∀ v L,R (.int i) v L->v=.int i) (h1:[k]=ps.map (·.1)) (h2:Reps R [.int i] (ps.map (·.2)) L):ps=[(k,.int i)]:=by
 match ps,h1,h2 with
 | [(k',v)],h1,.cons a _ =>
  have:=b _ _ a
  subst this
  cases h1
  rfl
section
variable {K:FG} {H:Hp} {d:D} {v:V} {L:List Addr}
theorem Rep.rdN (r:Rep K H d v L):∀ p,pyN d=some p->RdN H v p:=by
 refine Rep.rec (motive_1:=fun d v _ _=>∀ p,pyN d=some p->RdN H v p) (motive_2:=fun ds vs _ _=>∀ ps,me ds=some ps->RdNs H vs ps) ?_ ?_ ?_ ?_ ?_ ?_ ?_ ?_ ?_ ?_ ?_ ?_ r
 ·intro p e;unfold pyN at e;cases e;intro X pins σ s I u hu;cases (show u=Value.none from hu);exact ⟨[],.none,by simp⟩
 ·intro b p e;unfold pyN at e;cases e;intro X pins σ s I u hu;cases (show u=Value.bool b from hu);exact ⟨[],.bool b,by simp⟩
 ·intro i p e;unfold pyN at e;cases e;intro X pins σ s I u hu;obtain ⟨t,rfl⟩:=hu;exact ⟨[],.int i t,by simp⟩
 ·intro x p e;unfold pyN at e;cases e;intro X pins σ s I u hu;obtain ⟨t,rfl⟩:=hu;exact ⟨[],.str x t,by simp⟩
 ·intro xs a vs L h _ l p e
  unfold pyN at e
  obtain ⟨ps,e1,rfl⟩:=zR.mp e
  intro X pins σ s I u hu
  cases (show u=Value.ref a from hu)
  obtain ⟨y,m,⟨o,e,c,n,d⟩,_⟩:=I.tuple (SqT.of h)
  obtain ⟨as,q,nm⟩:=l ps e1 X pins σ s I _ m
  exact ⟨_,.tuple e c d (by simpa using q),nm⟩
 ·intro xs a vs L h _ l p e;unfold pyN at e;exact nsE e
 ·intro xs a vs L h _ l p e;unfold pyN at e;exact nsE e
 ·intro kvs a ps L h C rs _ p e
  unfold pyN at e
  obtain ⟨⟨k,i⟩,e1,rfl⟩:=zR.mp e
  have A:=xi e1
  subst A
  clear e e1
  have:=pe (fun v L (q:Rep K H (.int i) v L)=>q.int_inv) C rs
  subst this
  intro X pins σ s I u hu
  cases (show u=Value.ref a from hu)
  obtain ⟨_,hm,vs,D,o,es,O,g,xd,hd,_,pr,_,_⟩:=(show ObjOk X.prog X.w H s.heap a (.dK [(k,.int i)]) from I.hok a _ h)
  match vs,D with
  | [(k',v')],.cons ⟨e1,e2⟩ .nil =>
   subst e1
   obtain ⟨t,rfl⟩:=e2
   generalize f:es.toList=el at pr
   cases pr with
   | cons q1 q2 q3 =>
    cases q3
    rename_i E
    refine ⟨_,.dict (as:=[]) (bs:=[]) g xd.1 hd ?_ ?_,?_⟩
    ·rw [f]
     show ReadsAll s.heap [E.key] [kP k] []
     rcases aS q1 with ⟨j,t',rfl,B⟩ | ⟨x,t',rfl,B⟩
     ·rw [B];exact .cons (as:=[]) (bs:=[]) (.int _ _) .nil
     ·rw [B];exact .cons (as:=[]) (bs:=[]) (.str _ _) .nil
    ·rw [f]
     show ReadsAll s.heap [E.val] [.int i] []
     rw [q2];exact .cons (as:=[]) (bs:=[]) (.int _ _) .nil
    ·simp only [List.append_nil,Ao]
     intro z
     rw [z] at hm
     simp at hm
 ·intro kvs a ps L h C rs _ p e
  unfold pyN at e
  obtain ⟨⟨k,i⟩,e1,rfl⟩:=zR.mp e
  have A:=xi e1
  subst A
  clear e e1
  have:=pe (fun v L (q:Rep K H (.int i) v L)=>q.int_inv) C rs
  subst this
  intro X pins σ s I u hu
  cases (show u=Value.ref a from hu)
  obtain ⟨_,hm,xs,D,o,es,O,g,xd,hd,f,_⟩:=(show ObjOk X.prog X.w H s.heap a (.dT [(k,.int i)]) from I.hok a _ h)
  match xs,D with
  | [(k',b,v')],.cons ⟨e1,e3,e2⟩ .nil =>
   subst e1
   obtain ⟨t,rfl⟩:=e2
   obtain ⟨y,m,⟨o',G,M,S,d'⟩,_⟩:=I.tuple (SqT.of e3)
   refine ⟨_,.dict (as:=[]) (bs:=[]) g xd.1 hd ?_ ?_,?_⟩
   ·rw [f]
    show ReadsAll s.heap [.ref b] [.tuple (k.map kP)] []
    exact .cons (as:=[]) (bs:=[]) (.tuple G M d' (by simpa using iz m)) .nil
   ·rw [f]
    show ReadsAll s.heap [.int i t] [.int i] []
    exact .cons (as:=[]) (bs:=[]) (.int _ _) .nil
   ·simp only [List.append_nil,Ao]
    intro z
    rw [z] at hm
    simp at hm
 ·intros;rename_i e;unfold pyN at e;exact nsE e
 ·intro ps e;unfold me at e;cases e;intro X pins σ s I us hu;cases hu;exact ⟨[],.nil,by simp⟩
 ·intro d v L ds vs L' _ _ J P ps e
  unfold me at e
  cases h1:pyN d with
  | none=>rw [h1] at e;exact nsE e
  | some p =>
   cases h2:me ds with
   | none=>rw [h1,h2] at e;exact nsE e
   | some qs =>
    rw [h1,h2] at e
    cases e
    intro X pins σ s I us hu
    cases hu with
    | cons a b =>
     obtain ⟨as,R,Q⟩:=J p h1 X pins σ s I _ a
     obtain ⟨bs,F,N⟩:=P qs h2 X pins σ s I _ b
     exact ⟨_,.cons R F,by simp [Q,N]⟩
end
def jq (p:PyData):Bool:=p.showable && decide (p.depth<=16) && decide (p.shown.length<=16777216)
def pyA (d:D):Option PyData:=match pyD d with
 | some p=>if p.hasDict then none else some p
 | none=>pyN d
def nW (K:FG):List V->Hp->VK->Prop:=fun xs H Q=>(xs=[.non]/\Q (.str "None") H)\/(∃ b,xs=[.bl b]/\Q (.str (if b then "True" else "False")) H)\/(∃ i:Int,xs=[.int i]/\i.natAbs.log2 < 1920/\Q (.str (mm i)) H) \/
 (∃ t:Str,xs=[.str t]/\(reprText t).length<=sizeLine/\Q (.str (reprText t)) H) \/
 ∃ (a:Addr) (p:PyData),xs=[.ref a]/\(∀ (X:Cx) (pins:List (Addr × Obj)) (σ:St) (s:Shared),X.K=K->Inv X pins σ H s->∀ u,RelV (.ref a) u->∃ as,Reads s.heap u p as/\(p.hasDict=true->sysModules ∉ as))/\jq p=true/\Q (.str p.shown) H
theorem lw (k:X.A.guards=some []) (hu:X.A.units+64 < cLine):cv X (.builtin "repr") (nW X.K):=by
 intro pins s σ H xs us Q I d h
 rcases h with ⟨rfl,q⟩ | ⟨b,rfl,q⟩ | ⟨i,rfl,hi,q⟩ | ⟨t,rfl,n,q⟩ | ⟨a,p,rfl,l,f,q⟩
 ·obtain ⟨u,rfl,c⟩:=eI d
  cases (show u=Value.none from c)
  exact PySem.P.repr_of_none ⟨.str "None",H,I.tok _,⟨_,rfl⟩,q⟩
 ·obtain ⟨u,rfl,c⟩:=eI d
  cases (show u=Value.bool b from c)
  exact PySem.P.repr_of_bool ⟨.str (if b then "True" else "False"),H,I.tok _,⟨_,rfl⟩,q⟩
 ·obtain ⟨u,rfl,c⟩:=eI d
  obtain ⟨t,rfl⟩:=c
  exact PySem.P.repr_of_int hi ⟨.str (mm i),H,I.tok _,⟨_,rfl⟩,q⟩
 ·obtain ⟨u,rfl,c⟩:=eI d
  obtain ⟨t',rfl⟩:=c
  exact PySem.P.repr_of_str ⟨.str _,H,I.tok _,⟨_,rfl⟩,q⟩ n
 ·obtain ⟨u,rfl,c⟩:=eI d
  obtain ⟨as,j,nm⟩:=l X pins σ s rfl I u c
  cases (show u=Value.ref a from c)
  unfold jq at f
  obtain ⟨h3,m⟩:=Bool.and_eq_true_iff.mp f
  obtain ⟨h5,g⟩:=Bool.and_eq_true_iff.mp h3
  have g:=of_decide_eq_true g
  exact repr_of_reads' j h5 nm k (by omega) (fun _ _ e=>e) (fun h' r v o=>⟨.str p.shown,H,I.kept o,⟨_,rfl⟩,q⟩) (by rw [sizeLine_eq];exact of_decide_eq_true m)
def shA (d:D):Option (D × Fl):=(pyA d).bind fun p=>if jq p=true then some (.str p.shown,.z) else none
def ip:D->Option (D × Fl)
 | .non=>some (.str "None",.z)
 | .bl b=>some (.str (if b then "True" else "False"),.z)
 | .int i=>if i.natAbs.log2 < 1920 then some (.str (mm i),.z) else none
 | .str t=>if (reprText t).length<=16777216 then some (.str (reprText t),.z) else none
 | .exc _ _=>none
 | d=>shA d
abbrev kU:=c1 ip
theorem yp (r:Rep K H d v L) (e:pyA d=some p):∀ (X:Cx) (pins:List (Addr × Obj)) (σ:St) (s:Shared),X.K=K->Inv X pins σ H s->∀ u,RelV v u->∃ as,Reads s.heap u p as/\(p.hasDict=true->sysModules ∉ as):=by
 intro X pins σ s c I u hu
 unfold pyA at e
 cases h:pyD d with
 | none =>
  rw [h] at e
  obtain ⟨as,a,b⟩:=r.rdN p e X pins σ s I u hu
  exact ⟨as,a,fun _=>b⟩
 | some q =>
  rw [h] at e
  subst c
  obtain ⟨as,a⟩:=DV.reads I (r.dv q h) hu
  have e:(if q.hasDict then none else some q)=some p:=e
  cases hd:q.hasDict with
  | true=>rw [hd] at e;exact nsE e
  | false =>
   rw [hd] at e
   cases (AC e)
   exact ⟨as,a,fun z=>by rw [hd] at z;cases z⟩
theorem t6:d6 K (nW K) kU:=fun ys H Q p ra e q=>by
 obtain ⟨y,rfl,f⟩:=gb e
 have h:=(ra y zO).rep
 obtain ⟨da,m,n,o⟩:=y
 dsimp only at h f
 have big:∀ a,m=.ref a->shA da=some p->nW K [m] H fun v H'=>Q v H':=fun a g f=>by
  obtain ⟨d,h1,h2⟩:=An.mp f
  by_cases k:jq d=true
  ·rw [if_pos k] at h2
   have l:=AC h2
   refine .inr (.inr (.inr (.inr ⟨a,d,congrArg (fun x=>[x]) g,?_,k,q ⟨.str d.shown,_,[],.z⟩ H (c8 (.str _)) (congrArg Prod.fst l) (congrArg Prod.snd l)⟩)))
   rw [<- g]
   exact yp h h1
  ·rw [if_neg k] at h2;exact nsE h2
 cases da with
 | non =>
  obtain ⟨rfl,rfl⟩:=h.view
  cases f
  exact .inl ⟨rfl,q ⟨_,_,[],.z⟩ H (c8 (.str _)) rfl rfl⟩
 | bl b =>
  obtain ⟨rfl,rfl⟩:=h.view
  cases f
  exact .inr (.inl ⟨b,rfl,q ⟨_,_,[],.z⟩ H (c8 (.str _)) rfl rfl⟩)
 | int i =>
  obtain ⟨rfl,rfl⟩:=h.view
  have f:(if i.natAbs.log2 < 1920 then some ((.str (mm i),.z):D × Fl) else none)=some p:=f
  by_cases j:i.natAbs.log2 < 1920
  ·rw [if_pos j] at f
   cases f
   exact .inr (.inr (.inl ⟨i,rfl,j,q ⟨_,_,[],.z⟩ H (c8 (.str _)) rfl rfl⟩))
  ·rw [if_neg j] at f;exact nsE f
 | str t =>
  obtain ⟨rfl,rfl⟩:=h.view
  have f:(if (reprText t).length<=16777216 then some ((.str (reprText t),.z):D × Fl) else none)=some p:=f
  by_cases j:(reprText t).length<=16777216
  ·rw [if_pos j] at f
   cases f
   exact .inr (.inr (.inr (.inl ⟨t,rfl,by rw [sizeLine_eq];exact j,q ⟨_,_,[],.z⟩ H (c8 (.str _)) rfl rfl⟩)))
  ·rw [if_neg j] at f;exact nsE f
 | tup xs=>obtain ⟨a,vs,g,_⟩:=h.view;exact big a g f
 | lst xs=>obtain ⟨a,vs,L',g,_⟩:=h.view;exact big a g f
 | fls xs=>obtain ⟨a,vs,g,_⟩:=h.view;exact big a g f
 | dk kvs=>obtain ⟨a,ps,L',g,_⟩:=h.view;exact big a g f
 | dt kvs=>obtain ⟨a,ps,L',g,_⟩:=h.view;exact big a g f
 | exc c fs=>exact nsE f
end L3
end
section
namespace L3
open PySem L2
def strQ:D->Option (D × Fl)
 | .int i=>if i.natAbs.log2 < 1920 then some (.str (mm i),.z) else none
 | _=>none
abbrev qa:=c1 strQ
theorem qV {X:Cx}:cv X (.type "str") so:=by
 intro pins s σ H xs us Q I a h
 obtain ⟨i,rfl,hi,q⟩:=h
 obtain ⟨u,rfl,b⟩:=eI a
 obtain ⟨t,rfl⟩:=b
 exact PySem.P.str_of_int hi ⟨.str (mm i),H,I.tok _,⟨_,rfl⟩,q⟩
theorem wo {K:FG}:d6 K so qa:=fun ys H Q p ra e q=>by
 obtain ⟨y,rfl,a⟩:=gb e
 have c:=(ra y zO).rep
 obtain ⟨da,g,d,f⟩:=y
 dsimp only at c a
 cases da with
 | int i =>
  obtain ⟨rfl,rfl⟩:=c.view
  have a:(if i.natAbs.log2 < 1920 then some ((.str (mm i),.z):D × Fl) else none)=some p:=a
  by_cases b:i.natAbs.log2 < 1920
  ·rw [if_pos b] at a
   cases a
   exact ⟨i,rfl,b,q ⟨_,_,[],.z⟩ H (c8 (.str _)) rfl rfl⟩
  ·rw [if_neg b] at a;exact nsE a
 | _=>exact nsE a
end L3
end
section
namespace L3
open PySem L2
def WMul (i j:Int):Prop:=i.natAbs < 2 ^ 200/\j.natAbs < 2 ^ 200
theorem WMul.ok {i j:Int} (h:WMul i j):IntMulOk i j:=IntMulOk.of_le (intBits_le_iff.mpr h.1) (intBits_le_iff.mpr h.2) (by decide)
theorem vJ {X:Cx}:OpR X (binaryOp .Mult) (rI WMul fun i j=>.int (i * j)):=opI fun _ _ _ _ _ _ _ a q=>PyProof.Rows.mul_int q a.ok
def vU:D->D->Option (D × Fl):=dG (fun i j=>decide (i.natAbs < 2 ^ 200/\j.natAbs < 2 ^ 200)) fun i j=>.int (i * j)
theorem vO {K:FG}:OpD K (rI WMul fun i j=>.int (i * j)) vU:=fF (fun i j h=>(of_decide_eq_true h:i.natAbs < 2 ^ 200/\j.natAbs < 2 ^ 200)) fun i j _=>.int _
end L3
end
section
namespace Bn
open PySem L2 L3
abbrev Pd (p:Int × Int):L3.D:=.tup [.int p.1,.int p.2]
theorem bO {bnd:L3.D->Sto->Option Sto} {b:SM} (P:Nat->Sto->Prop):∀ {ds:List L3.D} {ρ:Sto} {k:Nat},P k ρ->(∀ i d ρ,ds[i]?=some d->P (k+i) ρ->∃ ρ1 ρ2,bnd d ρ=some ρ1/\(b ρ1=some (.ok .nx,ρ2)\/b ρ1=some (.ok .ct,ρ2))/\P (k+i+1) ρ2)->∃ ρ',dH bnd b ds ρ=some (.ok .nx,ρ')/\P (k+ds.length) ρ'
 | [],ρ,k,h0,_=>⟨ρ,rfl,h0⟩
 | d :: ds,ρ,k,h0,hs=>by
  obtain ⟨ρ1,ρ2,e1,a,h1⟩:=hs 0 d ρ rfl h0
  obtain ⟨ρ',c,h3⟩:=bO P (ds:=ds) (ρ:=ρ2) (k:=k+1) h1 fun i d ρ hd e=>by
   have:=hs (i+1) d ρ (by simpa using hd) (by rwa [show k+(i+1)=k+1+i by omega])
   rwa [show k+(i+1)+1=k+1+i+1 by omega] at this
  refine ⟨ρ',?_,by rw [Ak,show k+(ds.length+1)=k+1+ds.length by omega];exact h3⟩
  unfold dH
  simp only [e1]
  rcases a with a | a <;> simp only [ac,a,c]
theorem gJ {bnd:L3.D->Sto->Option Sto} {b:SM} (P:Nat->Sto->Prop) (E:Nat->L3.D->Fl->Sto->Prop):∀ {ds:List L3.D} {ρ:Sto} {k:Nat},P k ρ ->
  (∀ i d ρ,ds[i]?=some d->P (k+i) ρ->∃ ρ1 ρ2,bnd d ρ=some ρ1/\(((b ρ1=some (.ok .nx,ρ2)\/b ρ1=some (.ok .ct,ρ2))/\P (k+i+1) ρ2)\/∃ r f,b ρ1=some (.ok (.rt r f),ρ2)/\E (k+i) r f ρ2)) ->
  ∃ ρ',(dH bnd b ds ρ=some (.ok .nx,ρ')/\P (k+ds.length) ρ')\/∃ i r f,i < ds.length/\dH bnd b ds ρ=some (.ok (.rt r f),ρ')/\E (k+i) r f ρ'
 | [],ρ,k,h0,_=>⟨ρ,.inl ⟨rfl,h0⟩⟩
 | d :: ds,ρ,k,h0,hs=>by
  obtain ⟨ρ1,ρ2,e1,h1⟩:=hs 0 d ρ rfl h0
  rcases h1 with ⟨a,h1⟩ | ⟨r,f,a,h1⟩
  ·obtain ⟨ρ',h3⟩:=gJ P E (ds:=ds) (ρ:=ρ2) (k:=k+1) h1 fun i d ρ hd g=>by
    have:=hs (i+1) d ρ (by simpa using hd) (by rwa [show k+(i+1)=k+1+i by omega])
    rwa [show k+(i+1)=k+1+i by omega] at this
   have e:dH bnd b (d :: ds) ρ=dH bnd b ds ρ2:=by
    conv=>lhs;unfold dH
    simp only [e1]
    rcases a with a | a <;> simp only [ac,a]
   rcases h3 with ⟨c,h3⟩ | ⟨i,r,f,hi,c,h3⟩
   ·exact ⟨ρ',.inl ⟨e.trans c,by rw [Ak,show k+(ds.length+1)=k+1+ds.length by omega];exact h3⟩⟩
   ·exact ⟨ρ',.inr ⟨i+1,r,f,by simp;omega,e.trans c,by rw [show k+(i+1)=k+1+i by omega];exact h3⟩⟩
  ·refine ⟨ρ2,.inr ⟨0,r,f,by simp,?_,h1⟩⟩
   unfold dH
   simp only [e1,ac,a,aW]
theorem cA {lo:Int} {n i:Nat} {d:L3.D} (h:(aV lo n)[i]?=some d):i < n/\d=.int (lo+i):=by
 unfold aV at h
 rw [z8,zR] at h
 obtain ⟨j,h1,rfl⟩:=h
 have h2:=z4.mp h1
 obtain ⟨h3,a⟩:=h2
 simp at h3 a
 subst a
 exact ⟨h3,rfl⟩
theorem bx {lo:Int} {n:Nat}:(aV lo n).length=n:=by unfold aV;simp
theorem Small.sub {p q:Pt} (a:Small p) (b:Small q):(-18446744073709551616 < q.1 - p.1/\q.1 - p.1 < 18446744073709551616)/\(-18446744073709551616 < q.2 - p.2/\q.2 - p.2 < 18446744073709551616):=by
 obtain ⟨a1,a2,d,f⟩:=a
 obtain ⟨b1,b2,e,c⟩:=b
 exact ⟨⟨by omega,by omega⟩,⟨by omega,by omega⟩⟩
theorem ie {c:M3 Bool} {b:SM} (P:Nat->Sto->Prop) (Q:Sto->Prop) {n:Nat} {ρ:Sto} (h0:P n ρ)
  (j:∀ n ρ,P n ρ->(∃ ρ1,c ρ=some (.ok false,ρ1)/\Q ρ1)\/∃ ρ1 ρ2 m,c ρ=some (.ok true,ρ1)/\(b ρ1=some (.ok .nx,ρ2)\/b ρ1=some (.ok .ct,ρ2))/\m < n/\P m ρ2):∃ ρ',c7 c b ρ=some (.ok .nx,ρ')/\Q ρ':=by
 have main:∀ n ρ,P n ρ->∃ ρ',bL c b (n+1) ρ=some (.ok .nx,ρ')/\Q ρ':=by
  intro n
  induction n using Nat.strongRecOn with
  | _ n ih =>
   intro ρ k
   rcases j n ρ k with ⟨ρ1,e1,d⟩ | ⟨ρ1,ρ2,m,e1,a,hm,g⟩
   ·refine ⟨ρ1,?_,d⟩
    unfold bL
    simp [ac,e1,aW]
   ·obtain ⟨ρ',i,d⟩:=ih m hm ρ2 g
    refine ⟨ρ',?_,d⟩
    have f:=ig (show m+1<=n by omega) i
    unfold bL
    rcases a with a | a <;> simp [ac,e1,a,f]
 obtain ⟨ρ',e,d⟩:=main n ρ h0
 refine ⟨ρ',?_,d⟩
 unfold c7
 have h:∃ n r,bL c b n ρ=some r:=⟨_,_,e⟩
 rw [dif_pos h]
 have a:=Classical.choose_spec (Classical.choose_spec h)
 have i:=ig (Nat.le_max_left (n+1) (Classical.choose h)) e
 have f:=ig (Nat.le_max_right (n+1) (Classical.choose h)) a
 rw [i] at f
 exact f.symm
theorem ag {a b:SM} {ρ ρ1:Sto} {r:Option (Except L3.D Flw × Sto)} (h1:a ρ=some (.ok .nx,ρ1)) (h2:b ρ1=r):au a b ρ=r:=by
 simp only [au,ac,h1]
 exact h2
theorem fq {bnd:L3.D->Sto->Option Sto} {c:M3 Bool} {elt:EM} (P:Sto->Prop) (g:L3.D->Bool) (f:L3.D->L3.D):∀ {ds:List L3.D} {τ:Sto},P τ ->
  (∀ d ∈ ds,∀ τ,P τ->∃ τ1 τ2,bnd d τ=some τ1/\c τ1=some (.ok (g d),τ2)/\(g d=false->P τ2)/\(g d=true->∃ r τ3 p τ4,elt τ2=some (.ok r,τ3)/\dI r τ3=some (.ok p,τ4)/\p.1=f d/\P τ4)) ->
  ∃ τ',bC bnd c elt ds τ=some (.ok ((ds.filter g).map f),τ')/\P τ'
 | [],τ,h0,_=>⟨τ,rfl,h0⟩
 | d :: ds,τ,h0,hs=>by
  obtain ⟨τ1,τ2,e1,b,hf,k⟩:=hs d zO τ h0
  cases a:g d with
  | false =>
   obtain ⟨τ',e,i⟩:=fq P g f (ds:=ds) (τ:=τ2) (hf a) fun d hd=>hs d (zP _ hd)
   refine ⟨τ',?_,i⟩
   unfold bC
   rw [a] at b
   simp [e1,ac,b,e,List.filter_cons,a]
  | true =>
   obtain ⟨r,τ3,p,τ4,l,m,j,h⟩:=k a
   obtain ⟨τ',e,i⟩:=fq P g f (ds:=ds) (τ:=τ4) h fun d hd=>hs d (zP _ hd)
   refine ⟨τ',?_,i⟩
   unfold bC
   rw [a] at b
   simp [e1,ac,b,l,m,e,List.filter_cons,a,aW,j]
abbrev Tri:=Nat × Nat × Nat
def io (i j m:Nat):List Tri:=(List.range m).map fun k=>(i,j,j+1+k)
def fP (n i m:Nat):List Tri:=(List.range m).flatMap fun j=>io i (i+1+j) (n - (i+1+j+1))
def jT (n m:Nat):List Tri:=(List.range m).flatMap fun i=>fP n i (n - (i+1))
def ai (n:Nat):List Tri:=jT n n
theorem js (i j m:Nat):(io i j m).length=m:=by simp [io]
theorem ke (n i m:Nat):fP n i (m+1)=fP n i m ++ io i (i+1+m) (n - (i+1+m+1)):=by simp [fP,List.range_succ,List.flatMap_append]
theorem kg (n m:Nat):jT n (m+1)=jT n m ++ fP n m (n - (m+1)):=by simp [jT,List.range_succ,List.flatMap_append]
theorem td {i j m:Nat} {t:Tri} (h:t ∈ io i j m):t.1=i/\t.2.1=j/\j < t.2.2/\t.2.2 < j+1+m:=by
 obtain ⟨k,a,rfl⟩:=z7.mp h
 rw [List.mem_range] at a
 exact ⟨rfl,rfl,by show j < j+1+k;omega,by show j+1+k < j+1+m;omega⟩
theorem dN {n:Nat} {t:Tri} (h:t ∈ ai n):t.1 < t.2.1/\t.2.1 < t.2.2/\t.2.2 < n:=by
 obtain ⟨i,hi,h⟩:=Az.mp h
 obtain ⟨j,a,h⟩:=Az.mp h
 rw [List.mem_range] at hi a
 obtain ⟨h1,h2,h3,b⟩:=td h
 exact ⟨by omega,by omega,by omega⟩
theorem oV (n i m:Nat):(fP n i m).length<=m * n:=by
 induction m with
 | zero=>simp [fP]
 | succ m ih=>rw [ke,Aj,js,Nat.succ_mul];omega
theorem vd (n m:Nat):(jT n m).length<=m * (n * n):=by
 induction m with
 | zero=>simp [jT]
 | succ m ih =>
  rw [kg,Aj,Nat.succ_mul]
  have:=oV n m (n - (m+1))
  have h2:(n - (m+1)) * n<=n * n:=Nat.mul_le_mul (by omega) (z9 _)
  omega
theorem jt {n m:Nat} (a:n<=25) (hm:m<=25):(jT n m).length<=15625:=by
 have h1:=vd n m
 have h2:n * n<=25 * 25:=Nat.mul_le_mul a a
 have h3:m * (n * n)<=25 * (25 * 25):=Nat.mul_le_mul hm h2
 omega
theorem nQ {n i m:Nat} (a:n<=25) (hm:m<=25):(fP n i m).length<=625:=by
 have h1:=oV n i m
 have h2:m * n<=25 * 25:=Nat.mul_le_mul hm a
 omega
abbrev Td (t:Tri):L3.D:=.tup [.int t.1,.int t.2.1,.int t.2.2]
abbrev Shd (ps:List Pt):L3.D:=.tup (ps.map Pd)
theorem bh {im:IM} {bnd:L3.D->Sto->Option Sto} {c:M3 Bool} {elt:EM} {ix:List (Option Nat)} {ρ ρ1 ρ2 τ:Sto} {rs:List R3} {ds out:List L3.D} (h1:im ρ=some (.ok (rs,ds),ρ1)) (h2:bC bnd c elt ds (qT ix (aC cD (us ρ1 (pls rs)) ρ1))=some (.ok out,τ)) (h3:ds.length < 16777216) (a:uncap ix τ (aC cD (us ρ1 (pls rs)) ρ1)=some ρ2) :
  bq im bnd c elt ix ρ=some (.ok (.val (.lst out) .u),aC eQ (us ρ1 (pls rs)) ρ2):=by
 simp [bq,ac,h1,h2,h3,a]
theorem pV {xs:List L3.D} {i:Nat} {d:L3.D} (h:xs[i]?=some d):L2.atI xs (i:Int)=some d:=by
 obtain ⟨h1,h2⟩:=z4.mp h
 simp [L2.atI,ixN,h1,h2]
theorem ub {ps:List Pt} {i:Nat} {p:Pt} (h:ps[i]?=some p):L2.atI (ps.map Pd) (i:Int)=some (Pd p):=pV (by simp [h])
theorem tG {f:List L3.D->Option (List L3.D)} {ms:M3 (List R3)} {ρ ρ1 ρ2:Sto} {rs:List R3} {ds xs:List L3.D} (h1:ms ρ=some (.ok rs,ρ1)) (h2:dU rs ρ1=some (.ok ds,ρ2)) (h3:f ds=some xs):aY f ms ρ=some (.ok ([],xs),ρ2):=by
 simp [aY,ac,h1,h2,h3,aR]
theorem kS {a b:Int} (e:-1000<=a/\a<=1000) (f:-1000<=b/\b<=1000) {n:Nat} (d:(b - a).toNat=n):fQ [.int a,.int b]=some (aV a n):=by
 have lm:eK a=true:=Ae (by omega)
 have c:eK b=true:=Ae (by omega)
 show (if (eK a && eK b)=true then some (aV a (b - a).toNat) else none)=_
 rw [lm,c,d]
 exact if_pos rfl
theorem cR {b:Int} (d:-1000<=b/\b<=1000) {n:Nat} (c:b.toNat=n):b8 [.int b]=some (aV 0 n):=by
 have a:eK b=true:=Ae (by omega)
 show (if (eK b)=true then some (aV 0 b.toNat) else none)=_
 rw [a,c]
 exact if_pos rfl
end Bn
end
section
namespace Bn
open PySem L2 L3
section
variable {α:Type} {ρ ρ1 ρ2 ρ3:Sto} {ma mb mc m:EM} {ms:M3 (List R3)} {ra rb r:R3} {rs:List R3} {da db d:L3.D} {ds:List L3.D} {fl:Fl} {i n np:Nat} {sa sb:SM} {c cc:M3 Bool} {b b2:Bool} {x:Option (Except L3.D Flw × Sto)} {y:Option (Except L3.D R3 × Sto)}
theorem aD {p:L3.D × Fl} (h:(ρ[i]?).join=some p):ab i ρ=some (.ok (.pl i),ρ):=by simp [ab,h]
theorem i_c:mC d ρ=some (.ok (.val d .z),ρ):=rfl
theorem dm {f:L3.D->L3.D->Option (L3.D × Fl)} (h1:ma ρ=some (.ok ra,ρ1)) (h2:mb ρ1=some (.ok rb,ρ2)) (h3:der ra ρ2=some (.ok da,ρ2)) (a:der rb ρ2=some (.ok db,ρ2)) (h5:f da db=some (d,fl)):af f ma mb ρ=some (.ok (.val d fl),ρ2):=by
 simp only [af,ac,h1,h2,h3,a,aR,h5,Am]
theorem mN {f:L3.D->Option (L3.D × Fl)} (h1:ma ρ=some (.ok ra,ρ1)) (h3:der ra ρ1=some (.ok da,ρ1)) (h5:f da=some (d,fl)):mUn f ma ρ=some (.ok (.val d fl),ρ1):=by
 simp only [mUn,ac,h1,h3,aR,h5,Am]
theorem bv {f:List L3.D->Option (L3.D × Fl)} (h1:ms ρ=some (.ok rs,ρ1)) (h3:dU rs ρ1=some (.ok ds,ρ1)) (h5:f ds=some (d,fl)):aq f ms ρ=some (.ok (.val d fl),ρ1):=by
 simp only [aq,ac,h1,h3,aR,h5,Am]
theorem bK:ae ρ=some (.ok [],ρ):=rfl
theorem aO (h1:m ρ=some (.ok r,ρ1)) (h2:ms ρ1=some (.ok rs,ρ2)):aa m ms ρ=some (.ok (r :: rs),ρ2):=by
 simp only [aa,ac,h1,h2,aW]
theorem oE {mk:List L3.D->L3.D} {f:Fl} (h1:ms ρ=some (.ok rs,ρ1)) (h2:gives rs ρ1=some (.ok ds,ρ2)) (h3:ds.length<=16777216):wa mk f ms ρ=some (.ok (.val (mk ds) f),ρ2):=by
 simp only [wa,ac,h1,h2,aR,h3,if_true,Am]
theorem ak {F:Fn} {ps qs:List (L3.D × Fl)} (b:F ps=some (.ok (d,fl),qs)) (h1:ms ρ=some (.ok rs,ρ1)) (h2:prs (frz (mS rs) ρ1) rs=some ps) (h3:qs.length=ps.length) (a:back rs ps qs (frz (mS rs) ρ1) = ρ2):am F ms ρ=some (.ok (.val d fl),ρ2):=by
 simp only [am,ac,h1,h2,b,h3,if_true,a]
theorem mO {p:L3.D × Fl} (h1:m ρ=some (.ok r,ρ1)) (h2:dI r ρ1=some (.ok p,ρ2)) (h3:i < ρ2.length) (a:ρ2.set i (some p) = ρ3):aB i m ρ=some (.ok .nx,ρ3):=by
 simp only [aB,ac,h1,h2,h3,if_true,a]
theorem i_asg {bnd:L3.D->Sto->Option Sto} {p:L3.D × Fl} (h1:m ρ=some (.ok r,ρ1)) (h2:dI r ρ1=some (.ok p,ρ2)) (h3:bnd p.1 ρ2=some ρ3):rV bnd m ρ=some (.ok .nx,ρ3):=by
 simp only [rV,ac,h1,h2,h3,Am]
theorem tH (h1:m ρ=some (.ok r,ρ1)):gm m ρ=some (.ok .nx,ρ1):=by
 simp only [gm,ac,h1,aW]
def retF (np:Nat) (r:R3):SM:=bj np (aW r)
theorem cF (h1:m ρ=some (.ok r,ρ1)) (h2:retF np r ρ1=x):bj np m ρ=x:=by
 rw [<- h2]
 unfold retF
 simp only [bj,ac,h1,aW]
theorem d7 (h1:sa ρ=some (.ok (.rt d fl),ρ1)):au sa sb ρ=some (.ok (.rt d fl),ρ1):=by
 simp only [au,ac,h1,aW]
theorem eO (h1:m ρ=some (.ok r,ρ1)) (h2:der r ρ1=some (.ok (.bl b),ρ1)):cB m ρ=some (.ok b,ρ1):=by
 simp only [cB,ac,h1,h2,aR,asB,Am]
theorem bX (h1:c ρ=some (.ok b,ρ1)):f9 c ρ=some (.ok (!b),ρ1):=by
 simp only [f9,ac,h1,aW]
theorem eL (h1:c ρ=some (.ok b,ρ1)) (a:b=true) (h2:sa ρ1=x):sIf c sa sb ρ=x:=by
 subst a;simp only [sIf,ac,h1,if_true];exact h2
theorem dS (h1:c ρ=some (.ok b,ρ1)) (a:b=false) (h2:sb ρ1=x):sIf c sa sb ρ=x:=by
 subst a;simp only [sIf,ac,h1,Ap,if_false];exact h2
theorem gx (h1:c ρ=some (.ok b,ρ1)) (a:b=false) (h2:cc ρ1=some (.ok b2,ρ2)):cOr c cc ρ=some (.ok b2,ρ2):=by
 subst a;simp only [cOr,ac,h1,Ap,if_false];exact h2
theorem wY (h1:c ρ=some (.ok b,ρ1)) (a:b=true):cOr c cc ρ=some (.ok true,ρ1):=by
 subst a;simp only [cOr,ac,h1,if_true];rfl
theorem lh (h1:ma ρ=some (.ok r,ρ1)) (h2:der r ρ1=some (.ok (.bl b),ρ1)) (a:b=true) (h3:mb ρ1=y):jU ma mb ρ=y:=by
 subst a;simp only [jU,ac,h1,h2,aR,asB,Am,if_true];exact h3
theorem pE (h1:ma ρ=some (.ok r,ρ1)) (h2:der r ρ1=some (.ok (.bl b),ρ1)) (a:b=false):jU ma mb ρ=some (.ok (.val (.bl false) .z),ρ1):=by
 subst a;simp only [jU,ac,h1,h2,aR,asB,Am,Ap,if_false];rfl
theorem zn (h1:ma ρ=some (.ok r,ρ1)) (h2:der r ρ1=some (.ok (.bl b),ρ1)) (a:b=true):mOr ma mb ρ=some (.ok (.val (.bl true) .z),ρ1):=by
 subst a;simp only [mOr,ac,h1,h2,aR,asB,Am,if_true];rfl
theorem zo (h1:ma ρ=some (.ok r,ρ1)) (h2:der r ρ1=some (.ok (.bl b),ρ1)) (a:b=false) (h3:mb ρ1=y):mOr ma mb ρ=y:=by
 subst a;simp only [mOr,ac,h1,h2,aR,asB,Am,Ap,if_false];exact h3
theorem i_sl {f:L3.D->Option Int->Option Int->Option (L3.D × Fl)} {pl pu:M3 (Option Int)} {lo hi:Option Int} (h1:ma ρ=some (.ok ra,ρ1)) (h2:pl ρ1=some (.ok lo,ρ2)) (h3:pu ρ2=some (.ok hi,ρ3)) (a:der ra ρ3=some (.ok da,ρ3)) (h5:f da lo hi=some (d,fl)):mSl f ma pl pu ρ=some (.ok (.val d fl),ρ3):=by
 simp only [mSl,ac,h1,h2,h3,a,aR,h5,Am]
theorem wj:jy ρ=some (.ok none,ρ):=rfl
theorem wg {k:Int} (h1:m ρ=some (.ok r,ρ1)) (h2:der r ρ1=some (.ok (.int k),ρ1)):cN m ρ=some (.ok (some k),ρ1):=by
 simp only [cN,ac,h1,h2,aR,asI,Am]
theorem wZ {ok:L3.D->Bool} {f:L3.D->List L3.D->Option (L3.D × L3.D)} {c a b:L3.D} (h0:(ρ[i]?).join=some (d,fl)) (g:ok d=true) (h1:ms ρ=some (.ok rs,ρ1)) (h2:gives rs ρ1=some (.ok ds,ρ2)) (h3:(ρ2[i]?).join=some (c,.u)) (e:f c ds=some (a,b)) (h5:ρ2.set i (some (a,.u)) = ρ3):mI ok f i ms ρ=some (.ok (.val b .z),ρ3):=by
 simp only [mI,ac,aD h0,chk,h0,g,if_true,h1,h2,h3,e,h5]
theorem i_sub {f:L3.D->List L3.D->Option (L3.D × L3.D)} {b a e:L3.D} (h1:mb ρ=some (.ok rb,ρ1)) (h0:(ρ1[i]?).join=some (d,fl)) (h2:ma ρ1=some (.ok ra,ρ2)) (h3:gives [ra,rb] ρ2=some (.ok ds,ρ3)) (c:(ρ3[i]?).join=some (b,.u)) (h5:f b ds=some (a,e)):rS f i ma mb ρ=some (.ok .nx,ρ3.set i (some (a,.u))):=by
 simp only [rS,ac,h1,aD h0,h2,h3,c,h5]
theorem aT {mask:List Bool} {ps qs:List (L3.D × Fl)} (h1:ps.length=mask.length) (h0:iS n (List.zipWith qD mask ps) = ρ) (h2:sa ρ=some (.ok (.rt d fl),ρ1)) (h3:fI ρ1 0 (List.zipWith qD mask ps)=some qs):fnM mask n sa ps=some (.ok (d,fl),qs):=by
 subst h0;simp only [fnM,h1,if_true,fn0,h2,h3,Am]
theorem F_nx {mask:List Bool} {ps qs:List (L3.D × Fl)} (h1:ps.length=mask.length) (h0:iS n (List.zipWith qD mask ps) = ρ) (h2:sa ρ=some (.ok .nx,ρ1)) (h3:fI ρ1 0 (List.zipWith qD mask ps)=some qs):fnM mask n sa ps=some (.ok (.non,.z),qs):=by
 subst h0;simp only [fnM,h1,if_true,fn0,h2,h3,Am]
theorem gr {i j:Int} (h:-18446744073709551616 < i/\i < 18446744073709551616):eZ (.int i) (.int j)=some (.int (i * j),.z):=by
 simp [dG,h]
theorem s9 {i j:Int} (h:-18446744073709551616 < j/\j < 18446744073709551616):eZ (.int i) (.int j)=some (.int (i * j),.z):=by
 simp [dG,h]
theorem eM {im:IM} {bnd:L3.D->Sto->Option Sto} {o:Except L3.D Flw} (h1:im ρ=some (.ok (rs,ds),ρ1)) (b:us ρ1 (pls rs)=[]) (h2:dH bnd sb ds ρ1=some (o,ρ2)):cw im bnd sb ρ=some (o,ρ2):=by
 have a:∀ f ρ,aC f [] ρ = ρ:=fun _ _=>rfl
 simp only [cw,ac,h1,b,a,h2,Am]
theorem oD {im:IM} {bnd:L3.D->Sto->Option Sto} {o:Except L3.D Flw} {is:List Nat} (h1:im ρ=some (.ok (rs,ds),ρ1)) (a:us ρ1 (pls rs)=is) (h2:dH bnd sb ds (aC cD is ρ1)=some (o,ρ2)):cw im bnd sb ρ=some (o,aC eQ is ρ2):=by
 simp only [cw,ac,h1,a,h2,Am]
theorem jg (h1:m ρ=some (.ok r,ρ1)) (h2:der r ρ1=some (.ok d,ρ1)) (h3:wO d=some ds):cu m ρ=some (.ok ([r],ds),ρ1):=by
 simp only [cu,ac,h1,h2,aR,h3,Am]
theorem dl {f:List L3.D->Option (List L3.D)} {xs:List L3.D} (h1:ms ρ=some (.ok rs,ρ1)) (h2:dU rs ρ1=some (.ok ds,ρ1)) (h3:f ds=some xs):aY f ms ρ=some (.ok ([],xs),ρ1):=tG h1 h2 h3
end
theorem dn {α:Type} {bnd:L3.D->Sto->Option Sto} {c:M3 Bool} {elt:EM} (P:Sto->Prop) (D:α->L3.D) (g:α->Bool) (f:α->L3.D):∀ {xs:List α} {τ:Sto},P τ ->
  (∀ x ∈ xs,∀ τ,P τ->∃ τ1 τ2,bnd (D x) τ=some τ1/\c τ1=some (.ok (g x),τ2)/\(g x=false->P τ2)/\(g x=true->∃ r τ3 p τ4,elt τ2=some (.ok r,τ3)/\dI r τ3=some (.ok p,τ4)/\p.1=f x/\P τ4)) ->
  ∃ τ',bC bnd c elt (xs.map D) τ=some (.ok ((xs.filter g).map f),τ')/\P τ'
 | [],τ,h0,_=>⟨τ,rfl,h0⟩
 | x :: xs,τ,h0,hs=>by
  obtain ⟨τ1,τ2,e1,b,hf,k⟩:=hs x zO τ h0
  cases a:g x with
  | false =>
   obtain ⟨τ',e,i⟩:=dn P D g f (xs:=xs) (τ:=τ2) (hf a) fun d hd=>hs d (zP _ hd)
   refine ⟨τ',?_,i⟩
   rw [Ad]
   unfold bC
   rw [a] at b
   simp [e1,ac,b,e,List.filter_cons,a]
  | true =>
   obtain ⟨r,τ3,p,τ4,l,m,j,h⟩:=k a
   obtain ⟨τ',e,i⟩:=dn P D g f (xs:=xs) (τ:=τ4) h fun d hd=>hs d (zP _ hd)
   refine ⟨τ',?_,i⟩
   rw [Ad]
   unfold bC
   rw [a] at b
   simp [e1,ac,b,l,m,e,List.filter_cons,a,aW,j]
section
variable {α:Type} {P:List α->Prop} {us:List α}
theorem bnd0 (h:us.length=0) (f:P []):P us:=by
 cases us with
 | nil=>exact f
 | cons a us=>cases h
theorem zC {n:Nat} (h:us.length=n+1) (f:∀ a r,r.length=n->P (a :: r)):P us:=by
 cases us with
 | nil=>cases h
 | cons a us=>exact f a us (Nat.succ.inj h)
theorem bnd1 (h:us.length=1) (f:∀ a,P [a]):P us:=zC h fun a _ h=>bnd0 (P:=fun r=>P (a :: r)) h (f a)
theorem bnd2 (h:us.length=2) (f:∀ a b,P [a,b]):P us:=zC h fun a _ h=>bnd1 (P:=fun r=>P (a :: r)) h (f a)
theorem bnd3 (h:us.length=3) (f:∀ a b c,P [a,b,c]):P us:=zC h fun a _ h=>bnd2 (P:=fun r=>P (a :: r)) h (f a)
end
theorem hb1 {x:Str} {st:Stmt} {b:Str} (f:∀ (kV doc pm:Value) (an:Option Addr) (a ct c:Value),bindArgs (PySem.W.fnOf x x (ba st) (aM st) (ah st) .none kV doc pm an a ct) ⟨[c],[]⟩=pure ([b].zip [c])) (kV doc pm:Value) (an:Option Addr) (a ct:Value) (us:List Value) (d:us.length=[b].length):bindArgs (PySem.W.fnOf x x (ba st) (aM st) (ah st) .none kV doc pm an a ct) ⟨us,[]⟩=pure ([b].zip us) :=
 bnd1 (P:=fun us=>bindArgs (PySem.W.fnOf x x (ba st) (aM st) (ah st) .none kV doc pm an a ct) ⟨us,[]⟩=pure ([b].zip us)) d (f kV doc pm an a ct)
theorem hb2 {x:Str} {st:Stmt} {b c:Str} (f:∀ (kV doc pm:Value) (an:Option Addr) (a ct d a1:Value),bindArgs (PySem.W.fnOf x x (ba st) (aM st) (ah st) .none kV doc pm an a ct) ⟨[d,a1],[]⟩=pure ([b,c].zip [d,a1])) (kV doc pm:Value) (an:Option Addr) (a ct:Value) (us:List Value) (e:us.length=[b,c].length):bindArgs (PySem.W.fnOf x x (ba st) (aM st) (ah st) .none kV doc pm an a ct) ⟨us,[]⟩=pure ([b,c].zip us) :=
 bnd2 (P:=fun us=>bindArgs (PySem.W.fnOf x x (ba st) (aM st) (ah st) .none kV doc pm an a ct) ⟨us,[]⟩=pure ([b,c].zip us)) e (f kV doc pm an a ct)
theorem hb3 {x:Str} {st:Stmt} {b c p2:Str} (f:∀ (kV doc pm:Value) (an:Option Addr) (a ct d a1 a2:Value),bindArgs (PySem.W.fnOf x x (ba st) (aM st) (ah st) .none kV doc pm an a ct) ⟨[d,a1,a2],[]⟩=pure ([b,c,p2].zip [d,a1,a2])) (kV doc pm:Value) (an:Option Addr) (a ct:Value) (us:List Value) (e:us.length=[b,c,p2].length):bindArgs (PySem.W.fnOf x x (ba st) (aM st) (ah st) .none kV doc pm an a ct) ⟨us,[]⟩=pure ([b,c,p2].zip us) :=
 bnd3 (P:=fun us=>bindArgs (PySem.W.fnOf x x (ba st) (aM st) (ah st) .none kV doc pm an a ct) ⟨us,[]⟩=pure ([b,c,p2].zip us)) e (f kV doc pm an a ct)
end Bn
end
section
namespace L3
open PySem L2
def tgN:Expr->List Str
 | .Name x _=>[x]
 | .Tuple [.Name x _,.Name y _] _ _=>[x,y]
 | .Tuple [.Name x _,.Name y _,.Name z _] _ _=>[x,y,z]
 | _=>[]
def ml (tg:Expr) (N:List Str) (ix:List (Option Nat)):List Str:=tgN tg ++ ix.filterMap fun o=>o.bind fun i=>N[i]?
def ndB:List Str->Bool
 | []=>true
 | x :: xs=>!(xs.any fun y=>decide (y=x)) && ndB xs
theorem mq:∀ {xs:List Str},ndB xs=true->xs.Nodup
 | [],_=>.nil
 | x :: xs,h=>by
  simp only [ndB,Bool.and_eq_true,Bool.not_eq_true',List.any_eq_false,decide_eq_true_eq] at h
  exact List.nodup_cons.mpr ⟨fun m=>h.1 x m rfl,mq h.2⟩
section
variable {X:Cx} {G0:Gm} {W0:D->Sto->Prop} {pos:Pos}
theorem sj (f:X.calm=true) (hi:RI X G0 W0 tg iter im) (e:∀ s H C fp,PTs (aE X (ml tg X.N ix) scope s H C fp) ifs (tT X.K (bb ix) noX cm)) (he:∀ s H C fp,RE (aE X (ml tg X.N ix) scope s H C fp) (bb ix) noX elt em) (g:fk scope X.N X.env.scope (ml tg X.N ix) ix=true) (b:Inj ix) (d:∀ x,foldedSetIterable iter X.env x=pure x) (c:∃ a,Bnd X.K (bb ix).pr a bnd/\∀ s H C fp,PG (aE X (ml tg X.N ix) scope s H C fp) tg a):RE X G0 W0 (.ListComp elt [⟨tg,iter,ifs,0⟩] scope pos) (bq im bnd cm em ix) :=
 vj _ ix f hi e he g b d c
theorem iI {i:Nat} (k:X.N.Nodup) (f:X.N[i]?=some y) (l:Loc X.env.scope y) (h:X.calm=true) (hi:RI X G0 W0 tg iter im) (g:∀ s H C fp,PTs (aE X (ml tg X.N ix) scope s H C fp) ifs (tT X.K (bb ix) noX cm)) (he:∀ s H C fp,RE (aE X (ml tg X.N ix) scope s H C fp) (bb ix) noX elt em) (j:fk scope X.N X.env.scope (ml tg X.N ix) ix=true) (d:Inj ix) (b:swapsWith (.ListComp elt [⟨tg,iter,ifs,0⟩] scope pos) (some (.Name y py)) spos.line X.env=pure true) (hf:X.fn y=true\/X.env.scope.names.lookup y=some .local) (e:∀ x,foldedSetIterable iter X.env x=pure x) (m:G0.pr i=false) (c:∃ a,Bnd X.K (bb ix).pr a bnd/\∀ s H C fp,PG (aE X (ml tg X.N ix) scope s H C fp) tg a):RS X G0 W0 (.Assign [.Name y py] (.ListComp elt [⟨tg,iter,ifs,0⟩] scope pos) spos) (aB i (bq im bnd cm em ix)) :=
 nP k f l _ ix h hi g he j d b hf e m c
end
section
variable {X:Cx} {G0:Gm} {W0:D->Sto->Prop} {p q r:Pos} {m:EM} {e e1:Expr} {es:List Expr} {t:M3 Bool} {sm:SM}
theorem gN {i:Nat} (h:RE X G0 W0 (.Name x p) (ab i)):RE X G0 W0 (.Name x p) (ab i):=h
theorem gG (h:RE X G0 W0 (.Name x p) (mC d)):RE X G0 W0 (.Name x p) (mC d):=h
theorem gH (h:RE X G0 W0 (.Name x p) m):RE X G0 W0 (.Name x p) m:=h
theorem gK {k:Nat} (h:RE X G0 W0 (.Constant c k p) m):RE X G0 W0 (.Constant c k p) m:=h
theorem gB (op:Operator) (h:RE X G0 W0 (.BinOp e op e1 p) m):RE X G0 W0 (.BinOp e op e1 p) m:=h
theorem gU (op:UnaryOp) (h:RE X G0 W0 (.UnaryOp op e p) m):RE X G0 W0 (.UnaryOp op e p) m:=h
theorem gP (os:List CmpOp) (h:RE X G0 W0 (.Compare e os es p) m):RE X G0 W0 (.Compare e os es p) m:=h
theorem gO (h:RE X G0 W0 (.BoolOp op es p) m):RE X G0 W0 (.BoolOp op es p) m:=h
theorem gS (h:RE X G0 W0 (.Subscript e e1 p) m):RE X G0 W0 (.Subscript e e1 p) m:=h
theorem gL (h:RE X G0 W0 (.Subscript e (.Slice a b c p) q) m):RE X G0 W0 (.Subscript e (.Slice a b c p) q) m:=h
theorem gI (x:Str) (h:RE X G0 W0 (.Call (.Name s p) [e,.Name x q] [] r) m):RE X G0 W0 (.Call (.Name s p) [e,.Name x q] [] r) m:=h
theorem gC (x:Str) (h:RE X G0 W0 (.Call (.Name x p) es ks q) m):RE X G0 W0 (.Call (.Name x p) es ks q) m:=h
theorem gD (h:RE X G0 W0 (.Call (.Name x p) es ks q) m):RE X G0 W0 (.Call (.Name x p) es ks q) m:=h
theorem gM (x:Str) (h:RE X G0 W0 (.Call (.Attribute e x p) es ks q) m):RE X G0 W0 (.Call (.Attribute e x p) es ks q) m:=h
theorem gE (h:RE X G0 W0 e m):RE X G0 W0 e m:=h
theorem gA (h:RA X G0 W0 es ms):RA X G0 W0 es ms:=h
theorem gQ (os:List CmpOp) (h:RT X G0 W0 (.Compare e os es p) t):RT X G0 W0 (.Compare e os es p) t:=h
theorem gW (h:RT X G0 W0 (.BoolOp op es p) t):RT X G0 W0 (.BoolOp op es p) t:=h
theorem gV (h:RT X G0 W0 (.UnaryOp .Not e p) t):RT X G0 W0 (.UnaryOp .Not e p) t:=h
theorem gT (h:RT X G0 W0 e t):RT X G0 W0 e t:=h
theorem gR (h:RS X G0 W0 (.Return o p) sm):RS X G0 W0 (.Return o p) sm:=h
theorem gF (h:RS X G0 W0 (.If e ss tt p) sm):RS X G0 W0 (.If e ss tt p) sm:=h
theorem gX (h:RS X G0 W0 (.Assign [.Name x p] e q) sm):RS X G0 W0 (.Assign [.Name x p] e q) sm:=h
theorem gZ (h:RS X G0 W0 st sm):RS X G0 W0 st sm:=h
theorem gY (h:RSs X G0 W0 ss sm):RSs X G0 W0 ss sm:=h
end
end L3
end
section
namespace Bn
open PySem L2 L3
local macro_rules | `(tactic| infer_instance)=>`(tactic| first | with_reducible apply aD | with_reducible exact i_c | with_reducible apply dm | with_reducible apply mN | with_reducible apply bv | with_reducible exact bK | with_reducible apply aO | with_reducible apply oE | with_reducible apply mO | with_reducible apply i_asg | with_reducible apply tH | with_reducible apply cF | with_reducible exact i_nilS | with_reducible apply eO | with_reducible apply bX | with_reducible apply i_mNot | with_reducible apply i_sl | with_reducible exact wj | with_reducible apply wg | with_reducible apply wZ | with_reducible apply i_sub | with_reducible apply jg | with_reducible apply dl | with_reducible apply lh | with_reducible apply gx)
local macro_rules | `(tactic| eq_refl)=>`(tactic| first | exact rfl | exact Nat.le_of_ble_eq_true rfl)
local macro_rules | `(tactic| nofun) => `(tactic| repeat' (first | infer_instance | eq_refl))
local macro_rules | `(tactic| exists $es,*) => `(tactic| repeat' (first | infer_instance | (first $[| exact $es]*) | eq_refl))
local macro_rules | `(tactic| nomatch [$fs,*]) => `(tactic| repeat' (first | infer_instance | (first $[| with_reducible apply ak $fs]*) | eq_refl))
local macro_rules | `(tactic| nomatch [$fs,*], [$es,*]) => `(tactic| repeat' (first | infer_instance | (first $[| with_reducible apply ak $fs]*) | (first $[| exact $es]*) | eq_refl))
section
variable {X:Cx} {G0:Gm} {W0:L3.D->Sto->Prop} {pos:Pos}
end
section
variable {P:Program} {w:World} {K:FG} {mg:Str->Option Value} {base:Heap}
local macro_rules | `(tactic| ac_rfl) => `(tactic| exact ⟨rfl,rfl,rfl,by decide +kernel,rfl,by decide +kernel,by decide +kernel⟩)
set_option hygiene false
local macro_rules | `(tactic| and_intros)=>`(tactic| repeat' (first
 | ((with_reducible apply gA);first | refine vn ?_ ?_ rfl | refine yq)
 | ((with_reducible apply gN);first | refine kW _ rfl (Or.inl rfl) (by decide) (by decide) | refine kW _ rfl (Or.inr (Or.inl rfl)) (by decide) (by decide))
 | ((with_reducible apply gG);refine l8 rfl (by assumption) (by decide))
 | ((with_reducible apply gK);first | refine ym | refine re_bl | refine yh | refine yk)
 | ((with_reducible apply gL);first | refine si ?_ ?_ ?_ | refine vh ?_ ?_)
 | ((with_reducible apply gS);refine re_ix (zm hr.hu) yV ?_ ?_ (fun _ _=>rfl))
 | ((with_reducible apply gB .Add);refine fR vK yX ?_ ?_)
 | ((with_reducible apply gB .Mult);first | refine fR yR vP ?_ ?_ | refine fR vJ vO ?_ ?_)
 | ((with_reducible apply gB .Sub);refine fR yO vM ?_ ?_)
 | ((with_reducible apply gB .Mod);refine fR yS vQ ?_ ?_)
 | ((with_reducible apply gB .Pow);refine fR yP vN ?_ ?_)
 | ((with_reducible apply gB .FloorDiv);refine fR sQ vS ?_ ?_)
 | ((with_reducible apply gQ [.NotEq]);refine kQ (yQ hr.units) yW ?_ ?_ (fS _))
 | ((with_reducible apply gQ [.Eq]);refine kQ (sR hr.units) sV ?_ ?_ (fS _))
 | ((with_reducible apply gQ [.Lt]);refine kQ op_lt od_lt ?_ ?_ (fS _))
 | ((with_reducible apply gQ [.LtE,.LtE]);refine r0 sP sU sP sU ?_ ?_ ?_ (by with_unfolding_all rfl))
 | ((with_reducible apply gQ [.Gt]);refine kQ wR wS ?_ ?_ (fS _))
 | ((with_reducible apply gW);refine rt_w ?_)
 | ((with_reducible apply gV);refine xX ?_)
 | ((with_reducible apply gT);refine xW ?_ (fun _=>rfl))
 | ((with_reducible apply gP [.Eq]);refine nV (sR hr.units) sV ?_ ?_ (fS _))
 | ((with_reducible apply gP [.LtE]);refine nV sP sU ?_ ?_ (fS _))
 | ((with_reducible apply gP [.Gt]);refine nV wR wS ?_ ?_ (fS _))
 | ((with_reducible apply gO);first | refine yi ?_ | refine yo ?_ ?_ | refine re_or ?_ ?_)
 | ((with_reducible apply gU .USub);refine re_un xm xn ?_)
 | ((with_reducible apply gU .Not);refine yj ?_)
 | ((with_reducible apply gI "bool");refine nU jW rfl B.isinstance (k4 (v:=V.ty "bool") rfl B.bool zH rfl (by decide) (by decide)) ?_ rfl rfl rfl)
 | ((with_reducible apply gI "int");refine nU lC rfl B.isinstance (k4 (v:=V.ty "int") rfl B.int xj rfl (by decide) (by decide)) ?_ rfl rfl rfl)
 | ((with_reducible apply gI "tuple");refine nU jM rfl B.isinstance (k4 (v:=V.ty "tuple") rfl B.tuple pU rfl (by decide) (by decide)) ?_ rfl rfl rfl)
 | ((with_reducible apply gC "len");refine dL ly zA rfl B.len b_len ?_ (by decide) (by decide) rfl rfl)
 | ((with_reducible apply gC "tuple");refine fD jV zy rfl B.tuple pU ?_ (by decide) (by decide) rfl rfl)
 | ((with_reducible apply gC "all");refine dL (t8 rfl) zB rfl B.all b_all ?_ (by decide) (by decide) rfl rfl)
 | ((with_reducible apply gC "dict");refine vi rfl hr.units rfl B.dict rfl B.zip ?_ rfl rfl rfl)
 | ((with_reducible apply gC "repr");refine dL (lw hr.gd hr.units) t6 rfl B.repr zE ?_ (by decide) (by decide) rfl rfl)
 | ((with_reducible apply gC "divmod");refine dL m5 qS rfl B.divmod ua ?_ (by decide) (by decide) rfl rfl)
 | ((with_reducible apply gC "int");refine fD qY wu rfl B.int xj ?_ (by decide) (by decide) rfl rfl)
 | ((with_reducible apply gC "str");refine fD qV wo rfl B.str b_str ?_ (by decide) (by decide) rfl rfl)
 | ((with_reducible apply gC "list");refine fD lx zz rfl B.list zF ?_ (by decide) (by decide) rfl rfl)
 | ((with_reducible apply gC "min");refine dL (qW rfl) wq rfl B.min b_min ?_ (by decide) (by decide) rfl rfl)
 | ((with_reducible apply gC "max");refine dL (qX rfl) wr rfl B.max b_max ?_ (by decide) (by decide) rfl rfl)
 | ((with_reducible apply gD);refine vm (by assumption) (hr.mono (by first | decide | omega)) ?_ rfl (by decide) rfl rfl)
 | ((with_reducible apply gM "extend");refine oX (ok:=isL) PySem.F.plainAttrs_list PySem.F.slot_list_extend PySem.F.type_list_extend qw y8 tF (kZ rfl (Or.inl rfl) (by decide) (by decide)) ?_ rfl rfl rfl rfl rfl)
 | ((with_reducible apply gM "append");refine oX (ok:=isL) PySem.F.plainAttrs_list PySem.F.slot_list_append PySem.F.type_list_append qx y9 tF (kZ rfl (Or.inl rfl) (by decide) (by decide)) ?_ rfl rfl rfl rfl rfl)
 | ((with_reducible apply gH);first | refine kW _ rfl (Or.inl rfl) (by decide) (by decide) | refine kW _ rfl (Or.inr (Or.inl rfl)) (by decide) (by decide) | refine l8 rfl (by assumption) (by decide))
 | ((with_reducible apply gE);first | refine yg ?_ | refine yl ?_ | refine sj rfl ?_ (fun s H C fp=>?_) (fun s H C fp=>?_) (by rfl) (oC (by decide)) (fun _=>rfl) ⟨_,fv rfl,fun s H C fp=>gq (mq rfl) rfl (Or.inl rfl) (Or.inr rfl)⟩ | refine yn (key:=.inr "a") sK sM)
 | ((with_reducible apply gY);first | refine r6 ?_ ?_ | refine uZ ?_ | refine u3)
 | ((with_reducible apply gR);refine xZ _ (fun i hi=>by rw [hp] ;exact vA (by simpa using hi)) ?_)
 | ((with_reducible apply gF);refine rs_if ?_ ?_ ?_)
 | ((with_reducible apply gX);first | refine iI nd rfl (Or.inl rfl) rfl ?_ (fun s H C fp=>?_) (fun s H C fp=>?_) (by rfl) (oC (by decide)) rfl (Or.inl rfl) (fun _=>rfl) (by rw [hp] ;rfl) ⟨_,pR (iF (fv rfl) (iF (fv rfl) nh)),fun s H C fp=>sJ (n:=2) rfl (jx (gq (mq rfl) rfl (Or.inl rfl) (Or.inr rfl)) (jx (gq (mq rfl) rfl (Or.inl rfl) (Or.inr rfl)) pd rfl) rfl) rfl rfl⟩ | refine iI nd rfl (Or.inl rfl) rfl ?_ (fun s H C fp=>?_) (fun s H C fp=>?_) (by rfl) (oC (by decide)) rfl (Or.inl rfl) (fun _=>rfl) (by rw [hp] ;rfl) ⟨_,fv rfl,fun s H C fp=>gq (mq rfl) rfl (Or.inl rfl) (Or.inr rfl)⟩ | refine sd _ nd rfl (Or.inl rfl) ?_ rfl (Or.inl rfl) (by rw [hp] ;rfl) | refine sd _ nd rfl (Or.inr rfl) ?_ rfl (Or.inl rfl) (by rw [hp] ;rfl))
 | ((with_reducible apply gZ);first | refine x4 PassesOwn.never rfl ?_ ?_ ?_ (fun _=>rfl) | refine u5 ?_ rfl | refine r9 PassesOwn.never ?_ ?_ | refine se | refine x5 ?_ ?_ rfl rfl rfl | refine xY (uO hr.hu) y7 (kZ rfl (Or.inl rfl) (by decide) (by decide)) ?_ ?_ (fun _=>rfl) rfl rfl rfl)
 | refine oW _ nd rfl (Or.inl rfl) (Or.inl rfl) (by rw [hp] ;rfl)
 | refine vf rfl B.range ?_ rfl
 | refine sg
 | refine x6 ?_
 | refine u6 ?_
 | refine sh ?_ ?_ rfl
 | refine rw_or ?_ ?_
 | refine oW _ nd rfl (Or.inr rfl) (Or.inl rfl) (by rw [hp] ;rfl)
 | refine ve rfl B.range ?_ rfl rfl
 | refine u7
 | refine xS ?_
 | refine vg
 | refine ye rfl ?_ rfl rfl
 | refine sf ?_))
local macro_rules | `(tactic| specialize $q) => `(tactic| exact bc D $q rfl rfl (by first | exact hb1 fun _ _ _ _ _ _ _=>rfl | exact hb2 fun _ _ _ _ _ _ _ _=>rfl | exact hb3 fun _ _ _ _ _ _ _ _ _=>rfl) fun cdv A outer s H E f G hr hp=>have nd:=($q).nd;by and_intros)
set_option hygiene true
def ot:SM:=(bj 1 (jU (mUn (fX "int") (ab 0)) (wb (mUn (fX "bool") (ab 0)))))
def bY:Fn:=fnM [false] 1 ot
theorem sc_is_whole:FnScope ["thing"] ["thing"] (ah d9):=by ac_rfl
theorem lF (B:Bl mg) (D:Def K mg "is_whole" d9):aI P w K mg base "is_whole" 1 ["thing"] bY :=by specialize sc_is_whole
def jF:SM:=(sIf (cOr (f9 (cB (am bY (aa (ab 0) ae)))) (f9 (cB (jG leI leI (ab 1) (ab 0) (ab 2))))) rT eU)
def cp:Fn:=fnM [false,false,false] 3 jF
theorem sc_check_number:FnScope ["thing","least","most"] ["thing","least","most"] (ah b9):=by ac_rfl
theorem iD (B:Bl mg) (D:Def K mg "check_number" b9) (a:aI P w K mg base "is_whole" 1 ["thing"] bY):aI P w K mg base "check_number" 2 ["thing","least","most"] cp :=by specialize sc_check_number
def fe:EM:=(aF (aa (ab 1) (aa (ab 2) (aa (ab 0) ae))))
def iK:EM:=(bq (aY fQ (aa (af aQ (ab 3) (mC (.int 1))) (aa (ab 0) ae))) (aj 0) cH fe [none,some 2,some 3])
def ff:SM:=(gm (mI isL qM 1 (aa iK ae)))
def iL:SM:=(cw (aY fQ (aa (af aQ (ab 2) (mC (.int 1))) (aa (ab 0) ae))) (aj 3) ff)
def tf:SM:=(au (aB 1 (cq ae)) (au (cw (aY b8 (aa (ab 0) ae)) (aj 2) iL) (bj 1 (ab 1))))
def cI:Fn:=fnM [false] 4 tf
theorem sc_threes:FnScope ["many","found","i","j"] ["many"] (ah gg):=by ac_rfl
theorem oH (B:Bl mg) (D:Def K mg "threes" gg):aI P w K mg base "threes" 1 ["many"] cI :=by specialize sc_threes
def fU:EM:=(af aQ (ab 1) (aF (aa (ab 0) ae)))
def jE:EM:=(bq (aY fQ (aa (af aQ (af ao (ab 2) (mC (.int 2))) (mC (.int 1))) (aa (ab 0) ae))) (aj 0) cH fU [none,some 2])
def eD:SM:=(gm (mI isL qM 1 (aa jE ae)))
def vZ:SM:=(au (aB 1 (cq ae)) (au (cw (cu (am cI (aa (ab 0) ae))) (aj 2) eD) (bj 1 (ab 1))))
def jl:Fn:=fnM [false] 3 vZ
theorem sc_fours:FnScope ["many","found","three"] ["many"] (ah jb):=by ac_rfl
theorem rf (B:Bl mg) (D:Def K mg "fours" jb) (a:aI P w K mg base "threes" 1 ["many"] cI):aI P w K mg base "fours" 2 ["many"] jl :=by specialize sc_fours
def qB:SM:=(bj 1 (jU (am bY (aa (ab 0) ae)) (mOr (af eqX (ab 0) (mC (.int (1)))) (af eqX (ab 0) (mC (.int (-1)))))))
def d5:Fn:=fnM [false] 1 qB
theorem sc_is_sign:FnScope ["thing"] ["thing"] (ah fB):=by ac_rfl
theorem m9 (B:Bl mg) (D:Def K mg "is_sign" fB) (b:aI P w K mg base "is_whole" 1 ["thing"] bY) {a:Tok} (d:mg "DOWN"=some (.int (-1) a)) {c:Tok} (e:mg "UP"=some (.int (1) c)):aI P w K mg base "is_sign" 2 ["thing"] d5 :=by specialize sc_is_sign
def iu:SM:=(bj 2 (pq (aa (am cI (aa (ab 0) ae)) (aa (ab 1) ae))))
def bJ:Fn:=fnM [false,false] 2 iu
theorem sc_turns_by_signs:FnScope ["many","signs"] ["many","signs"] (ah bF):=by ac_rfl
theorem fZ (B:Bl mg) (D:Def K mg "turns_by_signs" bF) (a:aI P w K mg base "threes" 1 ["many"] cI):aI P w K mg base "turns_by_signs" 2 ["many","signs"] bJ :=by specialize sc_turns_by_signs
def aw:M3 Bool:=(cB (af neX (af ao (ab 1) (ab 0)) (af ao (ab 1) (af aQ (ab 0) (mC (.int 1))))))
def aL:EM:=(ab 0)
def bN:EM:=(bq (aY b8 (aa (mC (.int 3)) ae)) (aj 0) aw aL [none,some 6])
def cr:SM:=(au (aB 2 (af ao (ab 1) (mC (.int 0)))) (au (aB 3 (af ao (ab 1) (mC (.int 1)))) (au (aB 4 (af ao (ab 1) (mC (.int 2)))) (au (aB 5 (af ao (ab 1) (mC (.int 3)))) (au (aB 6 (cq (aa (af ao (ab 0) (aF (aa (ab 2) (aa (ab 3) (aa (ab 4) ae))))) (aa (af ao (ab 0) (aF (aa (ab 2) (aa (ab 3) (aa (ab 5) ae))))) (aa (af ao (ab 0) (aF (aa (ab 2) (aa (ab 4) (aa (ab 5) ae))))) (aa (af ao (ab 0) (aF (aa (ab 3) (aa (ab 4) (aa (ab 5) ae))))) ae)))))) (bj 2 (af leI (aq cE (aa bN ae)) (mC (.int 1)))))))))
def aK:Fn:=fnM [false,false] 7 cr
theorem sc_change_once_at_most:FnScope ["turns","four","h","i","j","k","row"] ["turns","four"] (ah a9):=by ac_rfl
theorem dX (B:Bl mg) (D:Def K mg "change_once_at_most" a9):aI P w K mg base "change_once_at_most" 1 ["turns","four"] aK :=by specialize sc_change_once_at_most
def cj:EM:=(am d5 (aa (ab 0) ae))
def cg:EM:=(bq (cu (ab 1)) (aj 0) cH cj [none])
def ci:EM:=(am aK (aa (ab 1) (aa (ab 0) ae)))
def dC:EM:=(bq (cu (am jl (aa (ab 0) ae))) (aj 0) cH ci [none,some 2])
def bA:SM:=(au (sIf (cOr (f9 (cB (mUn (fX "tuple") (ab 1)))) (f9 (cB (aq oP (aa cg ae))))) (bj 2 (mC (.bl false))) eU) (au (sIf (cB (af neX (aq cE (aa (ab 1) ae)) (aq cE (aa (am cI (aa (ab 0) ae)) ae)))) (bj 2 (mC (.bl false))) eU) (au (aB 2 (am bJ (aa (ab 0) (aa (ab 1) ae)))) (bj 2 (aq oP (aa dC ae))))))
def aP:Fn:=fnM [false,false] 3 bA
theorem sc_are_signs_of:FnScope ["many","thing","turns"] ["many","thing"] (ah cb):=by ac_rfl
theorem iE (B:Bl mg) (D:Def K mg "are_signs_of" cb) (a:aI P w K mg base "change_once_at_most" 1 ["turns","four"] aK) (e:aI P w K mg base "fours" 2 ["many"] jl) (c:aI P w K mg base "is_sign" 2 ["thing"] d5) (d:aI P w K mg base "threes" 1 ["many"] cI) (b:aI P w K mg base "turns_by_signs" 2 ["many","signs"] bJ):aI P w K mg base "are_signs_of" 3 ["many","thing"] aP :=by specialize sc_are_signs_of
def iP:SM:=(au (gm (am cp (aa (ab 0) (aa (mC (.int 1)) (aa (mC (.int (24))) ae))))) (bj 2 (am aP (aa (ab 0) (aa (ab 1) ae)))))
def cJ:Fn:=fnM [false,false] 2 iP
theorem sc_are_signs:FnScope ["many","thing"] ["many","thing"] (ah dy):=by ac_rfl
theorem jX (B:Bl mg) (D:Def K mg "are_signs" dy) (c:aI P w K mg base "are_signs_of" 3 ["many","thing"] aP) (b:aI P w K mg base "check_number" 2 ["thing","least","most"] cp) {a:Tok} (d:mg "MOST_POINTS"=some (.int (24) a)):aI P w K mg base "are_signs" 4 ["many","thing"] cJ :=by specialize sc_are_signs
def eC:SM:=(au (aB 5 (af mr (af aQ (af aQ (af eZ (af mr (ab 2) (mC (.int 2147483647))) (mC (.int 48271))) (af eZ (mC (.int 7919)) (ab 4))) (mC (.int 1))) (mC (.int 2147483647)))) (au (aB 5 (af mr (af eZ (ab 5) (ab 5)) (mC (.int 2147483629)))) (aB 3 (af aQ (af eZ (ab 3) (mC (.int 2147483647))) (af mr (af eZ (ab 5) (af aQ (ab 5) (mC (.int 13)))) (mC (.int 2147483647)))))))
def vY:SM:=(au (aB 2 (af aQ (af eZ (mC (.int 7919)) (ab 1)) (mC (.int 13)))) (au (sIf (cB (af ltI (ab 1) (aq cE (aa (ab 0) ae)))) (aB 2 (af ao (ab 0) (ab 1))) eU) (au (sIf (cB (af eqX (af mr (ab 2) (mC (.int 2))) (mC (.int 0)))) (bj 2 (cq (aa (af zv (ab 2) (mC (.int 2))) ae))) eU) (au (aB 3 (mC (.int 0))) (au (cw (aY b8 (aa (mC (.int 16)) ae)) (aj 4) eC) (bj 2 (cq (aa (ab 3) ae))))))))
def jj:Fn:=fnM [false,false] 6 vY
theorem sc_l_box:FnScope ["_law_script","_law_k","_law_here","_law_number","_law_j","_law_part"] ["_law_script","_law_k"] (ah ja):=by ac_rfl
theorem re (B:Bl mg) (D:Def K mg "_law_box" ja):aI P w K mg base "_law_box" 1 ["_law_script","_law_k"] jj :=by specialize sc_l_box
def tj:SM:=(au (rV (jY 2 (bD (aj 2) (bD (aj 3) jZ))) (aq tU (aa (af ao (ab 0) (mC (.int 0))) (aa (ab 1) ae)))) (au (rS setD 0 (mC (.int 0)) (ab 2)) (bj 2 (ab 3))))
def av:Fn:=fnM [false,false] 4 tj
theorem sc_l_take:FnScope ["_law_box_here","_law_many","_law_left","_law_digit"] ["_law_box_here","_law_many"] (ah gh):=by ac_rfl
theorem oI (B:Bl mg) (D:Def K mg "_law_take" gh):aI P w K mg base "_law_take" 1 ["_law_box_here","_law_many"] av :=by specialize sc_l_take
def qz:SM:=(bj 1 (jU (mUn (fX "int") (ab 0)) (wb (mUn (fX "bool") (ab 0)))))
def dY:Fn:=fnM [false] 1 qz
theorem sc_l_whole:FnScope ["_law_thing"] ["_law_thing"] (ah fw):=by ac_rfl
theorem m6 (B:Bl mg) (D:Def K mg "_law_whole" fw):aI P w K mg base "_law_whole" 1 ["_law_thing"] dY :=by specialize sc_l_whole
def pj:SM:=(au (aB 1 (cq (aa (mC .non) (aa (mC (.bl true)) (aa (mC (.bl false)) (aa (mC (.int 9)) (aa (mUn k8 (mC (.int 1))) (aa (mC (.str "1")) (aa (mC (.str "")) (aa (aF (aa (mC (.int 1)) ae)) (aa (cq (aa (mC (.int 1)) ae)) (aa (za (.inr "a") 1) (aa (aF ae) (aa (af nZ (mC (.int 10)) (mC (.int 29))) (aa (aF (aa (mC (.int 1)) (aa (mC (.int 2)) ae))) (aa (aF (aa (aF (aa (mC (.int 0)) (aa (mC (.int 0)) ae))) ae)) (aa (cq (aa (aF ae) ae)) (aa (mC (.int 0)) ae)))))))))))))))))) (bj 1 (af ao (ab 1) (am av (aa (ab 0) (aa (mC (.int 16)) ae))))))
def ji:Fn:=fnM [false] 2 pj
theorem sc_l_odd:FnScope ["_law_box_here","_law_some"] ["_law_box_here"] (ah i9):=by ac_rfl
theorem qZ (B:Bl mg) (D:Def K mg "_law_odd" i9) (a:aI P w K mg base "_law_take" 1 ["_law_box_here","_law_many"] av):aI P w K mg base "_law_odd" 2 ["_law_box_here"] ji :=by specialize sc_l_odd
def tq:SM:=(au (aB 3 (af eZ (af gf (af ao (ab 1) (mC (.int 0))) (af ao (ab 0) (mC (.int 0)))) (af gf (af ao (ab 2) (mC (.int 1))) (af ao (ab 0) (mC (.int 1)))))) (bj 3 (af gf (ab 3) (af eZ (af gf (af ao (ab 1) (mC (.int 1))) (af ao (ab 0) (mC (.int 1)))) (af gf (af ao (ab 2) (mC (.int 0))) (af ao (ab 0) (mC (.int 0))))))))
def dw:Fn:=fnM [false,false,false] 4 tq
theorem sc_l_bend:FnScope ["_law_one","_law_two","_law_three","_law_across"] ["_law_one","_law_two","_law_three"] (ah gk):=by ac_rfl
theorem oM (B:Bl mg) (D:Def K mg "_law_bend" gk):aI P w K mg base "_law_bend" 1 ["_law_one","_law_two","_law_three"] dw :=by specialize sc_l_bend
def dB:SM:=(sIf (cB (af eqX (am dw (aa (af ao (ab 0) (ab 3)) (aa (af ao (ab 0) (ab 2)) (aa (ab 1) ae)))) (mC (.int 0)))) (bj 2 (mC (.bl false))) eU)
def bz:SM:=(cw (aY b8 (aa (ab 2) ae)) (aj 3) dB)
def mG:SM:=(au (cw (aY b8 (aa (aq cE (aa (ab 0) ae)) ae)) (aj 2) bz) (bj 2 (mC (.bl true))))
def du:Fn:=fnM [false,false] 4 mG
theorem sc_l_free:FnScope ["_law_found","_law_point","_law_k","_law_j"] ["_law_found","_law_point"] (ah gi):=by ac_rfl
theorem oJ (B:Bl mg) (D:Def K mg "_law_free" gi) (a:aI P w K mg base "_law_bend" 1 ["_law_one","_law_two","_law_three"] dw):aI P w K mg base "_law_free" 2 ["_law_found","_law_point"] du :=by specialize sc_l_free
def cf:M3 Bool:=(f9 (cB (am du (aa (ab 5) (aa (aF (aa (ab 4) (aa (ab 8) ae))) ae)))))
def cV:SM:=(aB 8 (af aQ (ab 8) (mC (.int 1))))
def cU:SM:=(au (aB 4 (af aQ (af aQ (ab 4) (mC (.int 1))) (am av (aa (ab 0) (aa (mC (.int 3)) ae))))) (au (aB 7 (af ao (cq (aa (af eZ (ab 4) (ab 4)) (aa (af gf (mC (.int 0)) (af eZ (ab 4) (ab 4))) ae))) (af mr (ab 6) (mC (.int 2))))) (au (aB 8 (af ao (cq (aa (am av (aa (ab 0) (aa (mC (.int 40)) ae))) (aa (af eZ (ab 4) (ab 4)) (aa (af gf (mC (.int 9)) (af eZ (ab 4) (ab 4))) (aa (ab 7) (aa (am av (aa (ab 0) (aa (mC (.int 6)) ae))) ae)))))) (ab 3))) (au (c7 cf cV) (gm (mI isL ui 5 (aa (aF (aa (ab 4) (aa (ab 8) ae))) ae)))))))
def eB:EM:=(aF (aa (af eZ (ab 0) (af nZ (mC (.int 10)) (mC (.int 12)))) (aa (af aQ (af eZ (ab 1) (af nZ (mC (.int 10)) (mC (.int 15)))) (mC (.int 7))) ae)))
def cT:EM:=(bq (cu (ab 5)) (jY 2 (bD (aj 0) (bD (aj 1) jZ))) cH eB [none,none])
def kn:SM:=(au (aB 2 (af aQ (mC (.int 1)) (am av (aa (ab 0) (aa (ab 1) ae))))) (au (aB 3 (am av (aa (ab 0) (aa (mC (.int 5)) ae)))) (au (aB 4 (af gf (mC (.int 0)) (am av (aa (ab 0) (aa (mC (.int 9)) ae))))) (au (aB 5 (cq ae)) (au (cw (aY b8 (aa (ab 2) ae)) (aj 6) cU) (au (sIf (cB (af eqX (am av (aa (ab 0) (aa (mC (.int 6)) ae))) (mC (.int 5)))) (aB 5 cT) eU) (bj 2 (aq jQ (aa (ab 5) ae)))))))))
def fG:Fn:=fnM [false,false] 9 kn
theorem sc_l_sheet:FnScope ["_law_box_here","_law_most","_law_many","_law_kind","_law_x","_law_found","_law_k","_law_bent_here","_law_y"] ["_law_box_here","_law_most"] (ah fA):=by ac_rfl
theorem m8 (B:Bl mg) (D:Def K mg "_law_sheet" fA) (a:aI P w K mg base "_law_free" 2 ["_law_found","_law_point"] du) (b:aI P w K mg base "_law_take" 1 ["_law_box_here","_law_many"] av):aI P w K mg base "_law_sheet" 3 ["_law_box_here","_law_most"] fG :=by specialize sc_l_sheet
def dE:EM:=(aF (aa (ab 1) (aa (ab 2) (aa (ab 0) ae))))
def fK:EM:=(bq (aY fQ (aa (af aQ (ab 3) (mC (.int 1))) (aa (ab 0) ae))) (aj 0) cH dE [none,some 2,some 3])
def dF:SM:=(aB 1 (af aQ (ab 1) fK))
def fL:SM:=(cw (aY fQ (aa (af aQ (ab 2) (mC (.int 1))) (aa (ab 0) ae))) (aj 3) dF)
def oq:SM:=(au (aB 1 (cq ae)) (au (cw (aY b8 (aa (ab 0) ae)) (aj 2) fL) (bj 1 (ab 1))))
def bE:Fn:=fnM [false] 4 oq
theorem sc_l_threes:FnScope ["_law_many","_law_found","_law_i","_law_j"] ["_law_many"] (ah d8):=by ac_rfl
theorem lE (B:Bl mg) (D:Def K mg "_law_threes" d8):aI P w K mg base "_law_threes" 1 ["_law_many"] bE :=by specialize sc_l_threes
def cS:SM:=(gm (mI isL ui 1 (aa (af ao (cq (aa (mUn k8 (mC (.int 1))) (aa (mC (.int 1)) ae))) (aq wX (aa (af gtI (am dw (aa (af ao (ab 0) (ab 2)) (aa (af ao (ab 0) (ab 3)) (aa (af ao (ab 0) (ab 4)) ae)))) (mC (.int 0))) ae))) ae)))
def qA:SM:=(au (aB 1 (cq ae)) (au (cw (cu (am bE (aa (aq cE (aa (ab 0) ae)) ae))) (jY 3 (bD (aj 2) (bD (aj 3) (bD (aj 4) jZ)))) cS) (bj 1 (aq jQ (aa (ab 1) ae)))))
def dZ:Fn:=fnM [false] 5 qA
theorem sc_l_signs:FnScope ["_law_sheet_here","_law_found","_law_i","_law_j","_law_k"] ["_law_sheet_here"] (ah fy):=by ac_rfl
theorem m7 (B:Bl mg) (D:Def K mg "_law_signs" fy) (b:aI P w K mg base "_law_bend" 1 ["_law_one","_law_two","_law_three"] dw) (a:aI P w K mg base "_law_threes" 1 ["_law_many"] bE):aI P w K mg base "_law_signs" 2 ["_law_sheet_here"] dZ :=by specialize sc_l_signs
def bG:EM:=(jU (am dY (aa (ab 0) ae)) (af eqX (af vU (ab 0) (ab 0)) (mC (.int 1))))
def dP:EM:=(bq (cu (ab 1)) (aj 0) cH bG [none])
def dR:M3 Bool:=(cB (af neX (af ao (ab 1) (ab 0)) (af ao (ab 1) (af aQ (ab 0) (mC (.int 1))))))
def dQ:EM:=(ab 0)
def cx:EM:=(bq (aY b8 (aa (mC (.int 3)) ae)) (aj 0) dR dQ [none,some 8])
def aU:SM:=(au (aB 8 (cq (aa (af ao (ab 3) (aF (aa (ab 7) (aa (ab 4) (aa (ab 5) ae))))) (aa (af ao (ab 3) (aF (aa (ab 7) (aa (ab 4) (aa (ab 6) ae))))) (aa (af ao (ab 3) (aF (aa (ab 7) (aa (ab 5) (aa (ab 6) ae))))) (aa (af ao (ab 3) (aF (aa (ab 4) (aa (ab 5) (aa (ab 6) ae))))) ae)))))) (sIf (cB (af gtI (aq cE (aa cx ae)) (mC (.int 1)))) (bj 2 (mC (.bl false))) eU))
def bg:SM:=(cw (aY b8 (aa (ab 4) ae)) (aj 7) aU)
def bu:SM:=(au (aB 2 (am bE (aa (ab 0) ae))) (au (sIf (cOr (f9 (cB (mUn (fX "tuple") (ab 1)))) (cB (af neX (aq cE (aa (ab 1) ae)) (aq cE (aa (ab 2) ae))))) (bj 2 (mC (.bl false))) eU) (au (sIf (f9 (cB (aq oP (aa dP ae)))) (bj 2 (mC (.bl false))) eU) (au (aB 3 (pq (aa (ab 2) (aa (ab 1) ae)))) (au (cw (cu (ab 2)) (jY 3 (bD (aj 4) (bD (aj 5) (bD (aj 6) jZ)))) bg) (bj 2 (mC (.bl true))))))))
def aA:Fn:=fnM [false,false] 9 bu
theorem sc_l_are_signs:FnScope ["_law_many","_law_thing","_law_threes_here","_law_told","_law_i","_law_j","_law_k","_law_h","_law_row"] ["_law_many","_law_thing"] (ah cz):=by ac_rfl
theorem i5 (B:Bl mg) (D:Def K mg "_law_are_signs" cz) (a:aI P w K mg base "_law_threes" 1 ["_law_many"] bE) (b:aI P w K mg base "_law_whole" 1 ["_law_thing"] dY):aI P w K mg base "_law_are_signs" 2 ["_law_many","_law_thing"] aA :=by specialize sc_l_are_signs
def bp:M3 Bool:=(f9 (cB (am du (aa (ab 2) (aa (aF (aa (ab 3) (aa (ab 4) ae))) ae)))))
def bS:SM:=(aB 4 (af aQ (ab 4) (mC (.int 1))))
def bQ:M3 Bool:=(cB (af ltI (aq cE (aa (ab 2) ae)) (ab 1)))
def bR:SM:=(au (aB 3 (af aQ (af ao (af ao (ab 2) (mUn k8 (mC (.int 1)))) (mC (.int 0))) (mC (.int 1)))) (au (aB 4 (am av (aa (ab 0) (aa (mC (.int 30)) ae)))) (au (c7 bp bS) (aB 2 (af aQ (ab 2) (aF (aa (aF (aa (ab 3) (aa (ab 4) ae))) ae)))))))
def gv:SM:=(au (aB 2 (am fG (aa (ab 0) (aa (mC (.int 9)) ae)))) (au (c7 bQ bR) (bj 2 (mSl slD (ab 2) jy (cN (ab 1))))))
def cY:Fn:=fnM [false,false] 5 gv
theorem sc_l_sheet_of:FnScope ["_law_box_here","_law_many","_law_sheet_here","_law_x","_law_y"] ["_law_box_here","_law_many"] (ah cQ):=by ac_rfl
theorem jN (B:Bl mg) (D:Def K mg "_law_sheet_of" cQ) (c:aI P w K mg base "_law_free" 2 ["_law_found","_law_point"] du) (a:aI P w K mg base "_law_sheet" 3 ["_law_box_here","_law_most"] fG) (b:aI P w K mg base "_law_take" 1 ["_law_box_here","_law_many"] av):aI P w K mg base "_law_sheet_of" 4 ["_law_box_here","_law_many"] cY :=by specialize sc_l_sheet_of
def bW:EM:=(af gf (mC (.int 0)) (ab 0))
def c9:EM:=(bq (cu (mSl slD (ab 2) (cN (ab 4)) (cN (af aQ (ab 4) (mC (.int 1)))))) (aj 0) cH bW [none])
def bm:SM:=(au (aB 4 (am av (aa (ab 0) (aa (af aQ (aq cE (aa (ab 2) ae)) (mC (.int 1))) ae)))) (au (aB 5 (af aQ (af aQ (mSl slD (ab 2) jy (cN (ab 4))) (aq jQ (aa c9 ae))) (mSl slD (ab 2) (cN (af aQ (ab 4) (mC (.int 1)))) jy))) (sIf (cB (am aA (aa (ab 1) (aa (ab 5) ae)))) (aB 2 (ab 5)) eU)))
def eJ:SM:=(au (aB 2 (am dZ (aa (am cY (aa (ab 0) (aa (ab 1) ae))) ae))) (au (cw (aY b8 (aa (am av (aa (ab 0) (aa (mC (.int 4)) ae))) ae)) (aj 3) bm) (bj 2 (ab 2))))
def bT:Fn:=fnM [false,false] 6 eJ
theorem sc_l_drawn_signs:FnScope ["_law_box_here","_law_many","_law_found","_law_lap","_law_at","_law_some"] ["_law_box_here","_law_many"] (ah bP):=by ac_rfl
theorem hU (B:Bl mg) (D:Def K mg "_law_drawn_signs" bP) (a:aI P w K mg base "_law_are_signs" 2 ["_law_many","_law_thing"] aA) (b:aI P w K mg base "_law_sheet_of" 4 ["_law_box_here","_law_many"] cY) (c:aI P w K mg base "_law_signs" 2 ["_law_sheet_here"] dZ) (d:aI P w K mg base "_law_take" 1 ["_law_box_here","_law_many"] av):aI P w K mg base "_law_drawn_signs" 5 ["_law_box_here","_law_many"] bT :=by specialize sc_l_drawn_signs
def fh:EM:=(af aQ (af aQ (mSl slD (ab 1) jy (cN (ab 2))) (ab 0)) (mSl slD (ab 1) (cN (af aQ (ab 2) (mC (.int 1)))) jy))
def iN:EM:=(bq (cu (ab 5)) (aj 0) cH fh [none,some 1,some 3])
def iO:EM:=(af gf (mC (.int 0)) (ab 0))
def iM:EM:=(bq (cu (ab 1)) (aj 0) cH iO [none])
def mH:SM:=(au (aB 3 (am av (aa (ab 0) (aa (af aQ (aq cE (aa (ab 1) ae)) (mC (.int 1))) ae)))) (au (aB 4 (af ao (af aQ (mSl slD (ab 1) (cN (ab 3)) (cN (af aQ (ab 3) (mC (.int 1))))) (aF (aa (mC (.int 1)) ae))) (mC (.int 0)))) (au (aB 5 (cq (aa (aF ae) (aa (aF (aa (af gf (mC (.int 0)) (ab 4)) ae)) (aa (aF (aa (ab 4) (aa (ab 4) ae))) (aa (aF (aa (mC (.int 0)) ae)) (aa (aF (aa (af eqX (ab 4) (mC (.int 1))) ae)) (aa (aF (aa (ab 2) ae)) (aa (aF (aa (mC (.int 2)) ae)) (aa (aF (aa (aq qa (aa (ab 4) ae)) ae)) ae)))))))))) (au (aB 6 iN) (bj 3 (af ao (af aQ (ab 6) (cq (aa (aq zb (aa (ab 1) ae)) (aa (pk (ab 1) (cN (mUn k8 (mC (.int 1))))) (aa (aq jQ (aa iM ae)) ae))))) (am av (aa (ab 0) (aa (mC (.int 11)) ae)))))))))
def ic:Fn:=fnM [false,false,false] 7 mH
theorem sc_l_bent:FnScope ["_law_box_here","_law_signs_here","_law_odd_here","_law_at","_law_one","_law_news","_law_some"] ["_law_box_here","_law_signs_here","_law_odd_here"] (ah gj):=by ac_rfl
theorem oK (B:Bl mg) (D:Def K mg "_law_bent" gj) (a:aI P w K mg base "_law_take" 1 ["_law_box_here","_law_many"] av):aI P w K mg base "_law_bent" 2 ["_law_box_here","_law_signs_here","_law_odd_here"] ic :=by specialize sc_l_bent
def jD:EM:=(af ao (cq (aa (mUn k8 (mC (.int 1))) (aa (mC (.int 1)) ae))) (am av (aa (ab 1) (aa (mC (.int 2)) ae))))
def mF:EM:=(bq (cu (am bE (aa (ab 3) ae))) (aj 0) cH jD [none,some 2])
def jC:EM:=(am ic (aa (ab 1) (aa (ab 2) (aa (ab 3) ae))))
def mE:EM:=(bq (aY b8 (aa (mC (.int 5)) ae)) (aj 0) cH jC [none,some 2,some 4,some 5])
def fg:SM:=(au (aB 9 (aq kU (aa (ab 8) ae))) (au (aB 10 (am cJ (aa (ab 3) (aa (ab 8) ae)))) (sIf (cOr (f9 (cB (mUn (fX "bool") (ab 10)))) (cOr (cB (af neX (ab 10) (am aA (aa (ab 3) (aa (ab 8) ae))))) (cB (af neX (aq kU (aa (ab 8) ae)) (ab 9))))) (bj 1 (mC (.bl false))) eU)))
def gu:SM:=(au (aB 2 (am jj (aa (ab 0) (aa (ab 1) ae)))) (au (aB 3 (af aQ (mC (.int 1)) (am av (aa (ab 2) (aa (mC (.int 7)) ae))))) (au (aB 4 (am bT (aa (ab 2) (aa (ab 3) ae)))) (au (aB 5 (am ji (aa (ab 2) ae))) (au (aB 6 (aq jQ (aa mF ae))) (au (aB 7 (af aQ (cq (aa (ab 4) (aa (ab 5) (aa (aF ae) (aa (aF (aa (mC (.int 1)) ae)) (aa (ab 6) ae)))))) mE)) (cw (cu (ab 7)) (aj 8) fg)))))))
def m_law:SM:=(au (cw (aY b8 (aa (aq wU (aa (mC (.int 1)) (aa (aq wT (aa (aq cE (aa (ab 0) ae)) (aa (mC (.int 4)) ae))) ae))) ae)) (aj 1) gu) (bj 1 (mC (.bl true))))
def xk:Fn:=fnM [false] 11 m_law
theorem sc_law:FnScope ["_law_script","_law_k","_law_box_here","_law_many","_law_signs_here","_law_odd_here","_law_any_ones","_law_things","_law_thing","_law_kept","_law_found"] ["_law_script"] (ah eT):=by ac_rfl
theorem wn {f:Addr} {fd:FuncData} (B:Bl mg) (D:Fun K "law" "law" eT f fd) (b:aI P w K mg base "_law_are_signs" 2 ["_law_many","_law_thing"] aA) (d:aI P w K mg base "_law_bent" 2 ["_law_box_here","_law_signs_here","_law_odd_here"] ic) (i:aI P w K mg base "_law_box" 1 ["_law_script","_law_k"] jj) (a:aI P w K mg base "_law_drawn_signs" 5 ["_law_box_here","_law_many"] bT) (h:aI P w K mg base "_law_odd" 2 ["_law_box_here"] ji) (e:aI P w K mg base "_law_take" 1 ["_law_box_here","_law_many"] av) (c:aI P w K mg base "_law_threes" 1 ["_law_many"] bE) (g:aI P w K mg base "are_signs" 4 ["many","thing"] cJ):FnOk P w K mg base CX0 6 f fd ["_law_script"] (qb K xk) :=
 zr (k:=5) D sc_law rfl rfl fun cdv A outer s H E f G hr hp =>
  have nd:=sc_law.nd;by and_intros
end
theorem qf (i:Int):bY [(.int i,.z)]=some (.ok (.bl true,.z),[(.int i,.z)]):=by
 apply aT (ρ:=[some (.int i,.z)]) rfl rfl
 ·nofun
 ·rfl
theorem wk {f c:L3.D->L3.D->Option (L3.D × Fl)} {ma mb mc:EM} {ra rb rc:R3} {ρ ρ1 ρ2 ρ3:Sto} {da db b e d:L3.D} {fl a:Fl} (h1:ma ρ=some (.ok ra,ρ1)) (h2:mb ρ1=some (.ok rb,ρ2)) (h3:der ra ρ2=some (.ok da,ρ2)) (j:der rb ρ2=some (.ok db,ρ2)) (h5:f da db=some (.bl true,fl)) (h:mc ρ2=some (.ok rc,ρ3)) (i:der rb ρ3=some (.ok b,ρ3)) (k:der rc ρ3=some (.ok e,ρ3)) (g:c b e=some (d,a)):jG f c ma mb mc ρ=some (.ok (.val d a),ρ3):=by
 simp only [jG,ac,h1,h2,h3,j,h5,aR,Option.bind_some,asB,Am,if_true,h,i,k,g]
theorem ik {xs:List L3.D} {k:Int} {d:L3.D} (h:L2.atI xs k=some d):ao (.tup xs) (.int k)=some (d,.z):=by
 show orD ixD pH (.tup xs) (.int k)=_
 simp [orD,ixD,h]
theorem i7 {xs:List L3.D} {k:Int} {d:L3.D} (h:L2.atI xs k=some d):ao (.lst xs) (.int k)=some (d,.z):=by
 show orD ixD pH (.lst xs) (.int k)=_
 simp [orD,ixD,h]
theorem lR {n i j:Nat} (xs:List L3.D) (l:n<=25) (k:j < n) (elt:EM) (he:∀ (a b c:L3.D),elt [some (c,.z),some (a,.z),some (b,.z)]=some (.ok (.val (.tup [a,b,c]) .z),[some (c,.z),some (a,.z),some (b,.z)])) :
  bq (aY fQ (aa (af aQ (ab 3) (mC (.int 1))) (aa (ab 0) ae))) (aj 0) cH elt [none,some 2,some 3] [some (.int n,.z),some (.lst xs,.u),some (.int i,.z),some (.int j,.z)]=some (.ok (.val (.lst ((io i j (n - (j+1))).map Td)) .u),[some (.int n,.z),some (.lst xs,.u),some (.int i,.z),some (.int j,.z)]):=by
 obtain ⟨τ',e,a,rfl⟩:=fq (bnd:=aj 0) (c:=cH) (elt:=elt) (fun τ=>∃ a,τ=[a,some (.int i,.z),some (.int j,.z)]) (fun _=>true) (fun d=>.tup [.int i,.int j,d]) (ds:=aV ((j:Int)+1) (n - (j+1))) (τ:=[none,some (.int i,.z),some (.int j,.z)]) ⟨none,rfl⟩ (by
  rintro d hd τ ⟨a,rfl⟩
  exact ⟨[some (d,.z),some (.int i,.z),some (.int j,.z)],_,rfl,rfl,(fun h=>by cases h),fun _=>⟨_,_,(.tup [.int i,.int j,d],.z),_,he _ _ _,rfl,rfl,_,rfl⟩⟩)
 have g:((aV ((j:Int)+1) (n - (j+1))).filter fun _=>true).map (fun d=>L3.D.tup [.int i,.int j,d])=(io i j (n - (j+1))).map Td:=by
  rw [Ay.mpr (fun _ _=>rfl)]
  simp [aV,io,Function.comp_def]
 rw [g] at e
 have f:fQ [.int ((j:Int)+1),.int n]=some (aV ((j:Int)+1) (n - (j+1))):=kS (by omega) (by omega) (by omega)
 exact bh (rs:=[]) (by (repeat' (first | with_reducible apply dl (h3:=f) | infer_instance | eq_refl))) e (by rw [bx];omega) rfl
theorem tN {A B:List L3.D} (h:A.length+B.length<=16777216):qM (.lst A) [.lst B]=some (.lst (A ++ B),.non):=by simp [qM,h]
theorem uh {A:List L3.D} {d:L3.D} (h:A.length < 16777216):ui (.lst A) [d]=some (.lst (A ++ [d]),.non):=by simp [ui,h]
theorem lu {A B:List L3.D} (h:A.length+B.length<=16777216):aQ (.lst A) (.lst B)=some (.lst (A ++ B),.u):=by simp [orD,dG,ww,wv,wx,h]
theorem eE {A B:List L3.D} (h:A.length+B.length<=16777216):aQ (.tup A) (.tup B)=some (.tup (A ++ B),.z):=by simp [orD,dG,ww,wv,wx,h]
theorem j8 {n:Nat} (h:n<=25) {b1 b2:SM} (h2:b2=cw (aY fQ (aa (af aQ (ab 2) (mC (.int 1))) (aa (ab 0) ae))) (aj 3) b1)
  (h1:∀ (i j:Nat) (xs:List L3.D),j < n->xs.length<=20000->b1 [some (.int n,.z),some (.lst xs,.u),some (.int i,.z),some (.int j,.z)]=some (.ok .nx,[some (.int n,.z),some (.lst (xs ++ (io i j (n - (j+1))).map Td),.u),some (.int i,.z),some (.int j,.z)])) :
  ∃ v2 v3,cw (aY b8 (aa (ab 0) ae)) (aj 2) b2 [some (.int n,.z),some (.lst [],.u),none,none]=some (.ok .nx,[some (.int n,.z),some (.lst ((ai n).map Td),.u),v2,v3]):=by
 have inner:∀ (i:Nat) (xs:List Tri) (v3:Option (L3.D × Fl)),i < n->xs.length<=15625->∃ a,b2 [some (.int n,.z),some (.lst (xs.map Td),.u),some (.int i,.z),v3]=some (.ok .nx,[some (.int n,.z),some (.lst ((xs ++ fP n i (n - (i+1))).map Td),.u),some (.int i,.z),a]):=by
  intro i xs v3 hi l
  obtain ⟨ρ',e,a,rfl⟩:=bO (bnd:=aj 3) (b:=b1) (fun m ρ=>∃ v3,ρ=[some (.int n,.z),some (.lst ((xs ++ fP n i m).map Td),.u),some (.int i,.z),v3]) (ds:=aV ((i:Int)+1) (n - (i+1))) (ρ:=[some (.int n,.z),some (.lst (xs.map Td),.u),some (.int i,.z),v3]) (k:=0) ⟨v3,by simp [fP]⟩ (by
   rintro m d ρ hd ⟨v3,rfl⟩
   obtain ⟨hm,rfl⟩:=cA hd
   have f:((xs ++ fP n i m).map Td).length<=20000:=by
    have:=nQ (n:=n) (i:=i) (m:=m) h (by omega)
    simp only [zZ,Aj]
    omega
   have c:=h1 i (i+1+m) ((xs ++ fP n i m).map Td) (by omega) f
   rw [show ((i+1+m:Nat):Int)=(i:Int)+1+m by omega,<- List.map_append,List.append_assoc,<- ke] at c
   exact ⟨_,_,by rw [Ah];rfl,.inl c,_,by rw [Ah]⟩)
  refine ⟨a,?_⟩
  rw [bx,Ah] at e
  have g:fQ [.int ((i:Int)+1),.int n]=some (aV ((i:Int)+1) (n - (i+1))):=kS (by omega) (by omega) (by omega)
  rw [h2]
  apply eM
  ·(repeat' (first | with_reducible apply dl (h3:=g) | infer_instance | eq_refl))
  ·rfl
  ·exact e
 obtain ⟨ρ',e,v2,v3,rfl⟩:=bO (bnd:=aj 2) (b:=b2) (fun m ρ=>∃ v2 v3,ρ=[some (.int n,.z),some (.lst ((jT n m).map Td),.u),v2,v3]) (ds:=aV 0 n) (ρ:=[some (.int n,.z),some (.lst [],.u),none,none]) (k:=0) ⟨none,none,rfl⟩ (by
  rintro m d ρ hd ⟨v2,v3,rfl⟩
  obtain ⟨hm,rfl⟩:=cA hd
  rw [Ah,Int.zero_add]
  obtain ⟨a,e⟩:=inner m (jT n m) v3 hm (jt h (by omega))
  rw [<- kg] at e
  exact ⟨_,_,rfl,.inl e,_,_,rfl⟩)
 rw [bx,Ah] at e
 have g:b8 [.int (n:Int)]=some (aV 0 n):=cR (by omega) (by omega)
 refine ⟨v2,v3,?_⟩
 apply eM
 ·(repeat' (first | with_reducible apply dl (h3:=g) | infer_instance | eq_refl))
 ·rfl
 ·exact e
theorem ee (n:Nat) (d:n<=25):cI [(.int n,.z)]=some (.ok (.lst ((ai n).map Td),.u),[(.int n,.z)]):=by
 obtain ⟨v2,v3,e⟩:=j8 (n:=n) d (b1:=ff) (b2:=iL) rfl (by
  intro i j xs g h
  have c:=lR (n:=n) (i:=i) (j:=j) xs d g fe (fun a b c=>by unfold fe;(nofun))
  have f:xs.length+((io i j (n - (j+1))).map Td).length<=16777216:=by
   rw [zZ,js];omega
  unfold ff iK
  (repeat' (first | with_reducible exact c | infer_instance | exact tN f | eq_refl)))
 apply aT (ρ:=[some (.int n,.z),none,none,none]) rfl rfl
 ·apply ag
  ·nofun
  ·apply ag
   ·exact e
   ·nofun
 ·rfl
theorem lb {i j:Int}:neX (.int i) (.int j)=some (.bl (!decide (i=j)),.z):=rfl
def cL (p q r:Pt):Int:=if 0 < aH p q r then 1 else -1
def dM (ps:List Pt) (i:Nat):Pt:=ps.getD i (0,0)
theorem ce {ps:List Pt} {i:Nat} (h:i < ps.length):ps[i]?=some (dM ps i):=by
 simp [dM,List.getD,h]
theorem bM (n m:Int) (h:0 < m/\m < 1073741824):av [(.lst [.int n],.u),(.int m,.z)]=some (.ok (.int (n % m),.z),[(.lst [.int (n / m)],.u),(.int m,.z)]):=by
 have hd:tU [.int n,.int m]=some (.tup [.int (n / m),.int (n % m)],.z):=by simp [c2,mM,h]
 apply aT (ρ:=[some (.lst [.int n],.u),some (.int m,.z),none,none]) rfl rfl
 ·apply ag
  ·exists hd
  ·apply ag
   ·nofun
   ·nofun
 ·rfl
theorem l5 (p q r:Int × Int) (h1:-18446744073709551616 < q.1 - p.1/\q.1 - p.1 < 18446744073709551616) (h2:-18446744073709551616 < q.2 - p.2/\q.2 - p.2 < 18446744073709551616):dw [(Pd p,.z),(Pd q,.z),(Pd r,.z)]=some (.ok (.int (aH p q r),.z),[(Pd p,.z),(Pd q,.z),(Pd r,.z)]):=by
 apply aT (ρ:=[some (Pd p,.z),some (Pd q,.z),some (Pd r,.z),none]) rfl rfl
 ·apply ag
  ·exists gr h1
  ·exists gr h2
 ·rfl
theorem bI (c:Int) (m:Int) (h:0 < m):0<=c % m/\c % m < m:=⟨Int.emod_nonneg _ (by omega),Int.emod_lt_of_pos _ h⟩
theorem t9 (S a:L3.D) (c n j:Int) (v5:Option (L3.D × Fl)):∃ e d,eC [some (S,.z),some (a,.z),some (.int c,.z),some (.int n,.z),some (.int j,.z),v5]=some (.ok .nx,[some (S,.z),some (a,.z),some (.int c,.z),some (.int e,.z),some (.int j,.z),some (.int d,.z)]):=by
 have b:∀ x:Int,-18446744073709551616 < x % 2147483647/\x % 2147483647 < 18446744073709551616:=fun x=>by have:=bI x 2147483647 (by decide);omega
 have b2:∀ x:Int,-18446744073709551616 < x % 2147483629/\x % 2147483629 < 18446744073709551616:=fun x=>by have:=bI x 2147483629 (by decide);omega
 apply Exists.intro
 apply Exists.intro
 apply ag
 ·exists s9 (by decide),gr (by decide)
 ·apply ag
  ·exists gr (b _)
  ·exists s9 (by decide),gr (b2 _)
theorem nc (S a:L3.D) (c:Int):∃ (n:Int) (v3 v4 v5:Option (L3.D × Fl)),(au (sIf (cB (af eqX (af mr (ab 2) (mC (.int 2))) (mC (.int 0)))) (bj 2 (cq (aa (af zv (ab 2) (mC (.int 2))) ae))) eU) (au (aB 3 (mC (.int 0))) (au (cw (aY b8 (aa (mC (.int 16)) ae)) (aj 4) eC) (bj 2 (cq (aa (ab 3) ae)))))) [some (S,.z),some (a,.z),some (.int c,.z),none,none,none]=some (.ok (.rt (.lst [.int n]) .u),[some (S,.z),some (a,.z),some (.int c,.z),v3,v4,v5]):=by
 by_cases h:c % 2=0
 ·refine ⟨c / 2,none,none,none,?_⟩
  apply d7
  apply eL
  ·nofun
  ·exact Ae h
  ·nofun
 ·obtain ⟨ρ',e,n,v4,v5,rfl⟩:=bO (bnd:=aj 4) (b:=eC) (fun _ ρ=>∃ (n:Int) (v4 v5:Option (L3.D × Fl)),ρ=[some (S,.z),some (a,.z),some (.int c,.z),some (.int n,.z),v4,v5]) (ds:=aV 0 16) (ρ:=[some (S,.z),some (a,.z),some (.int c,.z),some (.int 0,.z),none,none]) (k:=0) ⟨0,none,none,rfl⟩ (by
   rintro i d ρ hd ⟨n,v4,v5,rfl⟩
   obtain ⟨hi,rfl⟩:=cA hd
   obtain ⟨g,f,e⟩:=t9 S a c n (0+(i:Int)) v5
   exact ⟨_,_,rfl,.inl e,_,_,_,rfl⟩)
  refine ⟨n,some (.int n,.z),v4,v5,?_⟩
  apply ag
  ·apply dS
   ·nofun
   ·exact Af h
   ·rfl
  apply ag
  ·nofun
  apply ag
  ·apply eM
   ·exact dl (by (nofun)) rfl (cR (n:=16) (by decide) (by decide))
   ·rfl
   ·exact e
  ·nofun
theorem uX (ns:List Int) (k:Nat):∃ n:Int,jj [(.fls (ns.map .int),.z),(.int k,.z)]=some (.ok (.lst [.int n],.u),[(.fls (ns.map .int),.z),(.int k,.z)]):=by
 by_cases h:k < ns.length
 ·obtain ⟨n,v3,v4,v5,e⟩:=nc (.fls (ns.map .int)) (.int k) ns[k]
  refine ⟨n,?_⟩
  have a:ao (.fls (ns.map .int)) (.int (k:Int))=some (.int ns[k],.z):=by
   have:L2.atI (ns.map L3.D.int) (k:Int)=some (.int ns[k]):=pV (by simp [h])
   simp [orD,ixD,this]
  have b:(k:Int) < ((ns.map L3.D.int).length:Int):=by simp;omega
  generalize (k:Int)=kk at *
  apply aT (ρ:=[some (.fls (ns.map .int),.z),some (.int kk,.z),none,none,none,none]) rfl rfl
  ·apply ag
   ·exists gr (by decide)
   apply ag
   ·apply eL
    ·nofun
    ·exact Ae b
    ·exists a
   ·exact e
  ·rfl
 ·obtain ⟨n,v3,v4,v5,e⟩:=nc (.fls (ns.map .int)) (.int k) (7919 * (k:Int)+13)
  refine ⟨n,?_⟩
  have b:¬ (k:Int) < ((ns.map L3.D.int).length:Int):=by simp;omega
  generalize (k:Int)=kk at *
  apply aT (ρ:=[some (.fls (ns.map .int),.z),some (.int kk,.z),none,none,none,none]) rfl rfl
  ·apply ag
   ·exists gr (by decide)
   apply ag
   ·apply dS
    ·nofun
    ·exact Af b
    ·rfl
   ·exact e
  ·rfl
theorem wm {X Z:L3.D} {f:Fl} {k j:Int} {p q z:L3.D} {b:Int} (a1:ao X (.int j)=some (p,.z)) (a2:ao X (.int k)=some (q,.z)) (a:dw [(p,.z),(q,.z),(Z,.z)]=some (.ok (.int b,.z),[(p,.z),(q,.z),(Z,.z)])) :
  dB [some (X,f),some (Z,.z),some (.int k,.z),some (.int j,.z)]=some (.ok (if b=0 then .rt (.bl false) .z else .nx),[some (X,f),some (Z,.z),some (.int k,.z),some (.int j,.z)]):=by
 by_cases h:b=0
 ·rw [if_pos h]
  apply eL
  ·nomatch [a],[a1,a2]
  ·exact Ae h
  ·nofun
 ·rw [if_neg h]
  apply dS
  ·nomatch [a],[a1,a2]
  ·exact Af h
  ·rfl
theorem ky (ps:List Pt) (z:Pt) (A:∀ p ∈ ps,Small p) (G:ps.length<=24) {X:L3.D} {f:Fl} (hlen:cE [X]=some (.int (ps.length:Int),.z)) (u:∀ (i:Nat) (p:Pt),ps[i]?=some p->ao X (.int i)=some (Pd p,.z)) :
  ∃ (b:Bool) (v2 v3:Option (L3.D × Fl)),mG [some (X,f),some (Pd z,.z),none,none]=some (.ok (.rt (.bl b) .z),[some (X,f),some (Pd z,.z),v2,v3])/\(b=true->oS ps z)/\(b=false->∃ (i j:Nat) (p q:Pt),i < j/\ps[i]?=some p/\ps[j]?=some q/\aH p q z=0):=by
 have inner:∀ (i:Nat) (q:Pt) (v3:Option (L3.D × Fl)),ps[i]?=some q->∃ a,bz [some (X,f),some (Pd z,.z),some (.int (0+(i:Int)),.z),v3]=some (.ok .nx,[some (X,f),some (Pd z,.z),some (.int (0+(i:Int)),.z),a])/\(∀ j p,j < i->ps[j]?=some p->aH p q z ≠ 0) \/
   bz [some (X,f),some (Pd z,.z),some (.int (0+(i:Int)),.z),v3]=some (.ok (.rt (.bl false) .z),[some (X,f),some (Pd z,.z),some (.int (0+(i:Int)),.z),a])/\∃ j p,j < i/\ps[j]?=some p/\aH p q z=0:=by
  intro i q v3 l
  have hi:i < ps.length:=(z4.mp l).1
  have y:ao X (.int (0+(i:Int)))=some (Pd q,.z):=by rw [Int.zero_add];exact u i q l
  have w:b8 [.int (0+(i:Int))]=some (aV 0 i):=cR (by omega) (by omega)
  obtain ⟨ρ',h⟩:=gJ (bnd:=aj 3) (b:=dB) (fun m ρ=>∃ v3,ρ=[some (X,f),some (Pd z,.z),some (.int (0+(i:Int)),.z),v3]/\∀ j p,j < m->ps[j]?=some p->aH p q z ≠ 0)
   (fun m r fl ρ=>r=.bl false/\fl=.z/\∃ v3,ρ=[some (X,f),some (Pd z,.z),some (.int (0+(i:Int)),.z),v3]/\∃ p,ps[m]?=some p/\aH p q z=0)
   (ds:=aV 0 i) (ρ:=[some (X,f),some (Pd z,.z),some (.int (0+(i:Int)),.z),v3]) (k:=0) ⟨v3,rfl,fun j p h=>absurd h (Nat.not_lt_zero _)⟩ (by
    rintro m d ρ hd ⟨v3,rfl,v⟩
    obtain ⟨hm,rfl⟩:=cA hd
    have c:ps[m]?=some (ps[m]'(by omega)):=zV _
    generalize (ps[m]'(by omega))=p at c
    have x:ao X (.int (0+(m:Int)))=some (Pd p,.z):=by rw [Int.zero_add];exact u m p c
    have sm:=Small.sub (A p (z5 c)) (A q (z5 l))
    have rb:=wm (f:=f) (z:=.non) x y (l5 p q z sm.1 sm.2)
    by_cases h0:aH p q z=0
    ·rw [if_pos h0] at rb
     exact ⟨_,_,rfl,.inr ⟨.bl false,.z,rb,rfl,rfl,_,rfl,p,by rw [Ah];exact c,h0⟩⟩
    ·rw [if_neg h0] at rb
     refine ⟨_,_,rfl,.inl ⟨.inl rb,_,rfl,fun j F n s=>?_⟩⟩
     by_cases e:j=m
     ·subst e;rw [c] at s;cases s;exact h0
     ·exact v j F (by omega) s)
  have wrap:∀ {o:Except L3.D Flw} {ρ2:Sto},dH (aj 3) dB (aV 0 i) [some (X,f),some (Pd z,.z),some (.int (0+(i:Int)),.z),v3]=some (o,ρ2)->bz [some (X,f),some (Pd z,.z),some (.int (0+(i:Int)),.z),v3]=some (o,ρ2):=fun e=>by
   apply eM
   ·(repeat' (first | with_reducible apply dl (h3:=w) | infer_instance | eq_refl))
   ·rfl
   ·exact e
  rcases h with ⟨e,a,rfl,h⟩ | ⟨m,r,fl,hm,e,rfl,rfl,a,rfl,p,c,h0⟩
  ·exact ⟨a,.inl ⟨wrap e,fun j p n=>h j p (by rw [bx];omega)⟩⟩
  ·exact ⟨a,.inr ⟨wrap e,m,p,by rw [bx] at hm;exact hm,by rw [Ah] at c;exact c,h0⟩⟩
 obtain ⟨ρ',h⟩:=gJ (bnd:=aj 2) (b:=bz) (fun m ρ=>∃ v2 v3,ρ=[some (X,f),some (Pd z,.z),v2,v3]/\∀ i j p q,i < j->j < m->ps[i]?=some p->ps[j]?=some q->aH p q z ≠ 0)
   (fun m r fl ρ=>r=.bl false/\fl=.z/\∃ v2 v3,ρ=[some (X,f),some (Pd z,.z),v2,v3]/\∃ (i j:Nat) (p q:Pt),i < j/\ps[i]?=some p/\ps[j]?=some q/\aH p q z=0)
   (ds:=aV 0 ps.length) (ρ:=[some (X,f),some (Pd z,.z),none,none]) (k:=0) ⟨_,_,rfl,fun i j p q _ h=>absurd h (Nat.not_lt_zero _)⟩ (by
    rintro m d ρ hd ⟨v2,v3,rfl,v⟩
    obtain ⟨hm,rfl⟩:=cA hd
    have l:ps[m]?=some (ps[m]'(by omega)):=zV _
    generalize (ps[m]'(by omega))=q at l
    obtain ⟨a,h⟩:=inner m q v3 l
    rcases h with ⟨e,h⟩ | ⟨e,j,p,n,c,h0⟩
    ·refine ⟨_,_,rfl,.inl ⟨.inl e,_,_,rfl,fun i j p B g n hi t=>?_⟩⟩
     by_cases C:j=m
     ·subst C;rw [l] at t;cases t;exact h i p g hi
     ·exact v i j p B g (by omega) hi t
    ·exact ⟨_,_,rfl,.inr ⟨.bl false,.z,e,rfl,rfl,_,_,rfl,j,m,p,q,n,c,l,h0⟩⟩)
 have w:b8 [.int (ps.length:Int)]=some (aV 0 ps.length):=cR (by omega) (by omega)
 have hf:∀ {o:Except L3.D Flw} {ρ2:Sto},dH (aj 2) bz (aV 0 ps.length) [some (X,f),some (Pd z,.z),none,none]=some (o,ρ2)->cw (aY b8 (aa (aq cE (aa (ab 0) ae)) ae)) (aj 2) bz [some (X,f),some (Pd z,.z),none,none]=some (o,ρ2):=fun e=>by
  apply eM
  ·exact dl (aO (bv (aO (aD rfl) bK) rfl hlen) bK) rfl w
  ·rfl
  ·exact e
 rcases h with ⟨e,v2,v3,rfl,h⟩ | ⟨m,r,fl,hm,e,rfl,rfl,v2,v3,rfl,E⟩
 ·refine ⟨true,v2,v3,?_,fun _ i j p q g hi n=>h i j p q g ?_ hi n,fun h=>by cases h⟩
  ·apply ag
   ·exact hf e
   ·nofun
  ·have:=(z4.mp n).1
   rw [bx];omega
 ·refine ⟨false,v2,v3,?_,fun h=>(by cases h),fun _=>E⟩
  apply d7
  exact hf e
theorem rY (ps:List Pt) (z:Pt) (a:∀ p ∈ ps,Small p) (c:ps.length<=24):∃ b:Bool,du [(.lst (ps.map Pd),.u),(Pd z,.z)]=some (.ok (.bl b,.z),[(.lst (ps.map Pd),.u),(Pd z,.z)])/\(b=true->oS ps z)/\(b=false->∃ (i j:Nat) (p q:Pt),i < j/\ps[i]?=some p/\ps[j]?=some q/\aH p q z=0):=by
 obtain ⟨b,v2,v3,e,h1,h2⟩:=ky ps z a c (X:=.lst (ps.map Pd)) (f:=.u) (by simp [c1,iX]) (fun i p h=>i7 (ub h))
 refine ⟨b,?_,h1,h2⟩
 apply aT (ρ:=[some (.lst (ps.map Pd),.u),some (Pd z,.z),none,none]) rfl rfl
 ·exact e
 ·rfl
theorem qj (ps:List Pt) (z:Pt) (a:∀ p ∈ ps,Small p) (c:ps.length<=24):∃ b:Bool,du [(.tup (ps.map Pd),.z),(Pd z,.z)]=some (.ok (.bl b,.z),[(.tup (ps.map Pd),.z),(Pd z,.z)])/\(b=true->oS ps z)/\(b=false->∃ (i j:Nat) (p q:Pt),i < j/\ps[i]?=some p/\ps[j]?=some q/\aH p q z=0):=by
 obtain ⟨b,v2,v3,e,h1,h2⟩:=ky ps z a c (X:=.tup (ps.map Pd)) (f:=.z) (by simp [c1,iX]) (fun i p h=>ik (ub h))
 refine ⟨b,?_,h1,h2⟩
 apply aT (ρ:=[some (.tup (ps.map Pd),.z),some (Pd z,.z),none,none]) rfl rfl
 ·exact e
 ·rfl
abbrev cP (n most many kd x:Int) (ps:List Pt) (v6 v7 v8:Option (L3.D × Fl)):Sto:=[some (.lst [.int n],.u),some (.int most,.z),some (.int many,.z),some (.int kd,.z),some (.int x,.z),some (.lst (ps.map Pd),.u),v6,v7,v8]
theorem kI (ps:List Pt) (x y:Int) (a:ps.length<=12):above ps x y<=144:=by
 have h1:=ul ps x y
 have h2:ps.length * ps.length<=12 * 12:=Nat.mul_le_mul a a
 omega
theorem nN {n most many kd x y0:Int} {ps:List Pt} {v6 v7:Option (L3.D × Fl)} (R:Rising ps) (h:∀ p ∈ ps,Small p) (r:ps.length<=12) :
  ∃ y,c7 cf cV (cP n most many kd x ps v6 v7 (some (.int y0,.z)))=some (.ok .nx,cP n most many kd x ps v6 v7 (some (.int y,.z)))/\oS ps (x,y)/\y0<=y/\y<=y0+144:=by
 have g:=kI ps x y0 r
 obtain ⟨ρ',e,y,rfl,hf,h1,h2⟩:=ie (c:=cf) (b:=cV) (fun m ρ=>∃ y:Int,ρ=cP n most many kd x ps v6 v7 (some (.int y,.z))/\m=above ps x y/\y0<=y/\y+(above ps x y:Int)<=y0+(above ps x y0:Int))
  (fun ρ=>∃ y:Int,ρ=cP n most many kd x ps v6 v7 (some (.int y,.z))/\oS ps (x,y)/\y0<=y/\y<=y0+144) (ρ:=cP n most many kd x ps v6 v7 (some (.int y0,.z))) ⟨y0,rfl,rfl,Int.le_refl _,Int.le_refl _⟩ (by
   rintro m ρ ⟨y,rfl,rfl,h1,h2⟩
   obtain ⟨b,k,l,hf⟩:=rY ps (x,y) h (by omega)
   have f:cf (cP n most many kd x ps v6 v7 (some (.int y,.z)))=some (.ok (!b),cP n most many kd x ps v6 v7 (some (.int y,.z))):=by
    unfold cf
    nomatch [k]
   cases b with
   | true=>exact .inl ⟨_,f,y,rfl,l rfl,h1,by omega⟩
   | false =>
    obtain ⟨i,j,p,q,d,e1,o,h0⟩:=hf rfl
    have a:=nv R d e1 o h0
    exact .inr ⟨_,cP n most many kd x ps v6 v7 (some (.int (y+1),.z)),_,f,.inl (by unfold cV;(nofun)),a,y+1,rfl,rfl,by omega,by omega⟩)
 exact ⟨y,e,hf,h1,h2⟩
theorem sq_le {x:Int} (h0:-40<=x) (h1:x<=40):0<=x * x/\x * x<=1600:=by
 have a:x * x=(x.natAbs * x.natAbs:Nat):=by rw [Int.natCast_mul];exact (Int.natAbs_mul_self' x).symm
 have b:x.natAbs * x.natAbs<=40 * 40:=Nat.mul_le_mul (by omega) (by omega)
 omega
theorem wy {x k:Int}:∃ b:Int,ao (.lst [.int (x * x),.int (0 - x * x)]) (.int (k % 2))=some (.int b,.z)/\(b=x * x\/b=0 - x * x):=by
 rcases Int.emod_two_eq k with e | e
 ·rw [e];exact ⟨_,rfl,.inl rfl⟩
 ·rw [e];exact ⟨_,rfl,.inr rfl⟩
theorem y_at {a b c d e kd:Int} (h0:0<=kd) (h1:kd < 5):∃ y:Int,ao (.lst [.int a,.int b,.int c,.int d,.int e]) (.int kd)=some (.int y,.z)/\(y=a\/y=b\/y=c\/y=d\/y=e):=by
 obtain ⟨j,rfl⟩:∃ j:Nat,kd=(j:Int):=⟨kd.toNat,by omega⟩
 match j,h1 with
 | 0,_=>exact ⟨_,rfl,.inl rfl⟩
 | 1,_=>exact ⟨_,rfl,.inr (.inl rfl)⟩
 | 2,_=>exact ⟨_,rfl,.inr (.inr (.inl rfl))⟩
 | 3,_=>exact ⟨_,rfl,.inr (.inr (.inr (.inl rfl)))⟩
 | 4,_=>exact ⟨_,rfl,.inr (.inr (.inr (.inr rfl)))⟩
 | j+5,h=>exact absurd h (by omega)
theorem rW {n most many kd x k:Int} {ps:List Pt} {v7 v8:Option (L3.D × Fl)} (R:Rising ps) (q:∀ p ∈ ps,Small p) (v:ps.length<=12) (u:0<=kd) (w:kd < 5) (x0:-9<=x) (E:x<=36) :
  ∃ (A d y:Int) (h l:Option (L3.D × Fl)),cU (cP n most many kd x ps (some (.int k,.z)) v7 v8)=some (.ok .nx,cP A most many kd (x+1+d) (ps ++ [(x+1+d,y)]) (some (.int k,.z)) h l)/\0<=d/\d < 3/\oS ps (x+1+d,y)/\-2000<=y/\y<=2000:=by
 have o:=bI n 3 (by decide)
 have G:=bI (n / 3) 40 (by decide)
 have H:=bI (n / 3 / 40) 6 (by decide)
 have t:=bM
 generalize j:x+1+n % 3=X at *
 have sq:=sq_le (x:=X) (by omega) (by omega)
 obtain ⟨f,s,hb2⟩:=wy (x:=X) (k:=k)
 obtain ⟨y0,B,i⟩:=y_at (a:=n / 3 % 40) (b:=X * X) (c:=9 - X * X) (d:=f) (e:=n / 3 / 40 % 6) u w
 have hm:-18446744073709551616 < X/\X < 18446744073709551616:=by omega
 obtain ⟨y,C,hf,h1,h2⟩:=nN (n:=n / 3 / 40 / 6) (most:=most) (many:=many) (kd:=kd) (x:=X) (y0:=y0) (ps:=ps) (v6:=some (.int k,.z)) (v7:=some (.int f,.z)) R q v
 have F:-1700<=y0/\y0<=1700:=by
  rcases hb2 with e | e <;> rcases i with g | g | g | g | g <;> omega
 refine ⟨n / 3 / 40 / 6,n % 3,y,some (.int f,.z),some (.int y,.z),?_,o.1,o.2,by rw [j];exact hf,by omega,by omega⟩
 rw [j]
 have r:(ps.map Pd).length < 16777216:=by simp;omega
 have m:=uh (d:=Pd (X,y)) r
 rw [show ps.map Pd ++ [Pd (X,y)]=(ps ++ [(X,y)]).map Pd by simp] at m
 apply ag (ρ1:=cP (n / 3) most many kd X ps (some (.int k,.z)) v7 v8)
 ·rw [<- j]
  nomatch [(t _ _ (by decide))]
 apply ag (ρ1:=cP (n / 3) most many kd X ps (some (.int k,.z)) (some (.int f,.z)) v8)
 ·exists s,gr hm
 apply ag (ρ1:=cP (n / 3 / 40 / 6) most many kd X ps (some (.int k,.z)) (some (.int f,.z)) (some (.int y0,.z)))
 ·nomatch [(t _ _ (by decide))],[B,gr hm]
 apply ag
 ·exact C
 ·exists m
theorem rX {n most many kd x:Int} (hm:0<=many/\many<=12) (r:0<=kd) (t:kd < 5) (x0:-8<=x) (v:x<=0) :
  ∃ (f j:Int) (ps:List Pt) (v6 v7 v8:Option (L3.D × Fl)),cw (aY b8 (aa (ab 2) ae)) (aj 6) cU (cP n most many kd x [] none none none)=some (.ok .nx,cP f most many kd j ps v6 v7 v8)/\(ps.length:Int)=many/\Rising ps/\NoLine ps/\(∀ q ∈ ps,-9<=q.1/\q.1<=100/\-2000<=q.2/\q.2<=2000):=by
 obtain ⟨ρ',e,f,j,ps,v6,v7,v8,rfl,m,c,nl,bnd,h1,h2⟩:=bO (bnd:=aj 6) (b:=cU) (fun i ρ=>∃ (n x:Int) (ps:List Pt) (v6 v7 v8:Option (L3.D × Fl)),ρ=cP n most many kd x ps v6 v7 v8/\ps.length=i/\Rising ps/\NoLine ps/\(∀ q ∈ ps,q.1<=x/\-9<=q.1/\-2000<=q.2/\q.2<=2000)/\-8<=x/\x<=3 * (i:Int))
  (ds:=aV 0 many.toNat) (ρ:=cP n most many kd x [] none none none) (k:=0) ⟨n,x,[],none,none,none,rfl,rfl,fun _ _ _ _ _ e _=>by simp at e,fun _ _ _ _ _ _ _ _ e _ _=>by simp at e,fun _ e=>by simp at e,by omega,by omega⟩ (by
   rintro i d ρ hd ⟨n,x,ps,v6,v7,v8,rfl,m,c,nl,bnd,h1,h2⟩
   obtain ⟨hi,rfl⟩:=cA hd
   have h:∀ q ∈ ps,Small q:=fun q a=>by
    obtain ⟨a1,a2,o,l⟩:=bnd q a
    exact ⟨by omega,by omega,by omega,by omega⟩
   obtain ⟨f,g,y,p,u,e,z,d1,fr,y0,w⟩:=rW (n:=n) (most:=most) (many:=many) (kd:=kd) (x:=x) (k:=0+(i:Int)) (ps:=ps) (v7:=v7) (v8:=v8) c h (by omega) r t (by omega) (by omega)
   refine ⟨_,_,rfl,.inl e,f,x+1+g,ps ++ [(x+1+g,y)],_,_,_,rfl,by simp;omega,c.snoc fun q a=>?_,nl.snoc fr,fun q a=>?_,by omega,by omega⟩
   ·show q.1 < x+1+g
    have:=(bnd q a).1
    omega
   ·rcases zX.mp a with a | a
    ·obtain ⟨a1,a2,o,l⟩:=bnd q a
     exact ⟨by omega,by omega,by omega,by omega⟩
    ·have e:q=(x+1+g,y):=by simpa using a
     subst e
     exact ⟨Int.le_refl _,by show -9<=x+1+g;omega,by show -2000<=y;omega,by show y<=2000;omega⟩)
 rw [bx] at m h2
 have s:b8 [.int many]=some (aV 0 many.toNat):=cR (by omega) rfl
 refine ⟨f,j,ps,v6,v7,v8,?_,by omega,c,nl,fun q a=>?_⟩
 ·apply eM
  ·(repeat' (first | with_reducible apply dl (h3:=s) | infer_instance | eq_refl))
  ·rfl
  ·exact e
 ·obtain ⟨a1,a2,o,l⟩:=bnd q a
  exact ⟨by omega,by omega,by omega,by omega⟩
def bV (p:Pt):Pt:=(p.1 * 1000000000000,p.2 * 1000000000000000+7)
theorem nk (p q r:Pt):aH (bV p) (bV q) (bV r)=1000000000000000000000000000 * aH p q r:=by
 unfold aH bV
 dsimp only
 have e1:q.1 * 1000000000000 - p.1 * 1000000000000=(q.1 - p.1) * 1000000000000:=by omega
 have e:r.1 * 1000000000000 - p.1 * 1000000000000=(r.1 - p.1) * 1000000000000:=by omega
 have g:r.2 * 1000000000000000+7 - (p.2 * 1000000000000000+7)=(r.2 - p.2) * 1000000000000000:=by omega
 have f:q.2 * 1000000000000000+7 - (p.2 * 1000000000000000+7)=(q.2 - p.2) * 1000000000000000:=by omega
 rw [e1,e,g,f]
 generalize q.1 - p.1=a
 generalize r.2 - p.2=b
 generalize q.2 - p.2=c
 generalize r.1 - p.1=d
 have h:∀ a b:Int,a * 1000000000000 * (b * 1000000000000000)=1000000000000000000000000000 * (a * b):=fun a b=>by
  rw [Int.mul_assoc,Int.mul_left_comm 1000000000000 b,<- Int.mul_assoc,show (1000000000000:Int) * 1000000000000000=1000000000000000000000000000 from rfl,Int.mul_comm]
 rw [h,Int.mul_comm (c * 1000000000000000),h,Int.mul_comm d c,<- Int.mul_sub]
theorem nR {ps:List Pt} (R:Rising ps):Rising (ps.map bV):=fun i j p q a h1 h2=>by
 rw [z8] at h1 h2
 obtain ⟨b,e1,rfl⟩:=zR.mp h1
 obtain ⟨c,d,rfl⟩:=zR.mp h2
 have:=R i j b c a e1 d
 show b.1 * 1000000000000 < c.1 * 1000000000000
 omega
theorem oi {ps:List Pt} (N:NoLine ps):NoLine (ps.map bV):=fun i j k p q r b a h1 h2 h3=>by
 rw [z8] at h1 h2 h3
 obtain ⟨c,e1,rfl⟩:=zR.mp h1
 obtain ⟨d,f,rfl⟩:=zR.mp h2
 obtain ⟨e,g,rfl⟩:=zR.mp h3
 rw [nk]
 exact Int.mul_ne_zero (by decide) (N i j k c d e b a e1 f g)
theorem pow12:nZ (.int 10) (.int 12)=some (.int 1000000000000,.z):=rfl
theorem pow15:nZ (.int 10) (.int 15)=some (.int 1000000000000000,.z):=rfl
theorem qi (ps:List Pt) (f:ps.length<=24) {n most many kd x:Int} {v6 v7 v8:Option (L3.D × Fl)}:aB 5 cT (cP n most many kd x ps v6 v7 v8)=some (.ok .nx,cP n most many kd x (ps.map bV) v6 v7 v8):=by
 obtain ⟨τ',e,a,b,rfl⟩:=dn (bnd:=jY 2 (bD (aj 0) (bD (aj 1) jZ))) (c:=cH) (elt:=eB) (fun τ=>∃ a b,τ=[a,b]) Pd (fun _=>true) (fun p=>Pd (bV p)) (xs:=ps) (τ:=[none,none]) ⟨none,none,rfl⟩ (by
  rintro p g τ ⟨a,b,rfl⟩
  exact ⟨[some (.int p.1,.z),some (.int p.2,.z)],_,rfl,rfl,(fun h=>by cases h),fun _=>⟨.val (Pd (bV p)) .z,[some (.int p.1,.z),some (.int p.2,.z)],(Pd (bV p),.z),_,by unfold eB;(exists pow12,pow15,s9 (by decide)),rfl,rfl,_,_,rfl⟩⟩)
 rw [Ay.mpr (fun _ _=>rfl)] at e
 have d:cT (cP n most many kd x ps v6 v7 v8)=some (.ok (.val (.lst (ps.map fun p=>Pd (bV p))) .u),cP n most many kd x ps v6 v7 v8):=bh (rs:=[.pl 5]) (ρ1:=cP n most many kd x ps v6 v7 v8) (ρ2:=[some (.lst [.int n],.u),some (.int most,.z),some (.int many,.z),some (.int kd,.z),some (.int x,.z),some (.lst (ps.map Pd),.l),v6,v7,v8]) rfl e (by simp;omega) rfl
 rw [show (ps.map fun p=>Pd (bV p))=(ps.map bV).map Pd by simp] at d
 exact mO d rfl (Nat.le_of_ble_eq_true rfl) rfl
theorem qh (n most:Int) (h1:1<=most) (h2:most<=12):∃ (c:Int) (ps:List Pt),fG [(.lst [.int n],.u),(.int most,.z)]=some (.ok (.tup (ps.map Pd),.z),[(.lst [.int c],.u),(.int most,.z)])/\GoodSh ps/\(ps.length:Int)<=most/\∀ q ∈ ps,(-(2 ^ 61) < q.2/\q.2 < 2 ^ 61)/\-(2 ^ 50) < q.1/\q.1 < 2 ^ 50:=by
 have t:=bM
 have l:=bI n most (by omega)
 have j:=bI (n / most) 5 (by decide)
 have o:=bI (n / most / 5) 9 (by decide)
 obtain ⟨c,k,ps,v6,v7,v8,e,m,f,d,bnd⟩:=rX (n:=n / most / 5 / 9) (most:=most) (many:=1+n % most) (kd:=n / most % 5) (x:=0 - n / most / 5 % 9) ⟨by omega,by omega⟩ j.1 j.2 (by omega) (by omega)
 have good:GoodSh ps:=⟨by omega,by omega,fun q a=>by
  obtain ⟨a1,a2,i,h⟩:=bnd q a
  exact ⟨by omega,by omega,by omega,by omega⟩,f,d⟩
 have b:GoodSh (ps.map bV):=⟨by simpa using good.pos,by simpa using good.most,fun q a=>by
  obtain ⟨r,g,rfl⟩:=z7.mp a
  obtain ⟨a1,a2,i,h⟩:=bnd r g
  exact ⟨by show -(2 ^ 62) < r.1 * 1000000000000;omega,by show r.1 * 1000000000000 < 2 ^ 62;omega,by show -(2 ^ 62) < r.2 * 1000000000000000+7;omega,by show r.2 * 1000000000000000+7 < 2 ^ 62;omega⟩,nR f,oi d⟩
 have pre:∀ {r:Option (Except L3.D Flw × Sto)},au (sIf (cB (af eqX (am av (aa (ab 0) (aa (mC (.int 6)) ae))) (mC (.int 5)))) (aB 5 cT) eU) (bj 2 (aq jQ (aa (ab 5) ae))) (cP c most (1+n % most) (n / most % 5) k ps v6 v7 v8)=r->kn [some (.lst [.int n],.u),some (.int most,.z),none,none,none,none,none,none,none]=r:=by
  intro r g
  apply ag (ρ1:=[some (.lst [.int (n / most)],.u),some (.int most,.z),some (.int (1+n % most),.z),none,none,none,none,none,none])
  ·nomatch [(t n most (by omega))]
  apply ag (ρ1:=[some (.lst [.int (n / most / 5)],.u),some (.int most,.z),some (.int (1+n % most),.z),some (.int (n / most % 5),.z),none,none,none,none,none])
  ·nomatch [(t _ _ (by decide))]
  apply ag (ρ1:=[some (.lst [.int (n / most / 5 / 9)],.u),some (.int most,.z),some (.int (1+n % most),.z),some (.int (n / most % 5),.z),some (.int (0 - n / most / 5 % 9),.z),none,none,none,none])
  ·nomatch [(t _ _ (by decide))]
  apply ag (ρ1:=cP (n / most / 5 / 9) most (1+n % most) (n / most % 5) (0 - n / most / 5 % 9) [] none none none)
  ·nofun
  exact ag e g
 by_cases h5:c % 6=5
 ·refine ⟨c / 6,ps.map bV,?_,b,by rw [zZ];omega,fun q a=>?_⟩
  ·apply aT (ρ:=[some (.lst [.int n],.u),some (.int most,.z),none,none,none,none,none,none,none]) rfl rfl
   ·apply pre
    apply ag
    ·apply eL
     ·nomatch [(t _ _ (by decide))]
     ·exact Ae h5
     ·exact qi ps (by omega)
    ·nofun
   ·rfl
  ·obtain ⟨r,g,rfl⟩:=z7.mp a
   obtain ⟨a1,a2,i,h⟩:=bnd r g
   exact ⟨⟨by show -(2 ^ 61) < r.2 * 1000000000000000+7;omega,by show r.2 * 1000000000000000+7 < 2 ^ 61;omega⟩,by show -(2 ^ 50) < r.1 * 1000000000000;omega,by show r.1 * 1000000000000 < 2 ^ 50;omega⟩
 ·refine ⟨c / 6,ps,?_,good,by omega,fun q a=>?_⟩
  ·apply aT (ρ:=[some (.lst [.int n],.u),some (.int most,.z),none,none,none,none,none,none,none]) rfl rfl
   ·apply pre
    apply ag
    ·apply dS
     ·nomatch [(t _ _ (by decide))]
     ·exact Af h5
     ·rfl
    ·nofun
   ·rfl
  ·obtain ⟨a1,a2,i,h⟩:=bnd q a
   exact ⟨⟨by omega,by omega⟩,by omega,by omega⟩
def tp (ps:List Pt) (t:Tri):Int:=cL (dM ps t.1) (dM ps t.2.1) (dM ps t.2.2)
theorem eV (n:Nat) (d:n<=25):bE [(.int n,.z)]=some (.ok (.lst ((ai n).map Td),.u),[(.int n,.z)]):=by
 obtain ⟨v2,v3,e⟩:=j8 (n:=n) d (b1:=dF) (b2:=fL) rfl (by
  intro i j xs g h
  have c:=lR (n:=n) (i:=i) (j:=j) xs d g dE (fun a b c=>by unfold dE;(nofun))
  have f:xs.length+((io i j (n - (j+1))).map Td).length<=16777216:=by
   rw [zZ,js];omega
  unfold dF fK
  exact mO (dm (aD rfl) c rfl rfl (lu f)) rfl (Nat.le_of_ble_eq_true rfl) rfl)
 apply aT (ρ:=[some (.int n,.z),none,none,none]) rfl rfl
 ·apply ag
  ·nofun
  ·apply ag
   ·exact e
   ·nofun
 ·rfl
theorem bU {n:Nat} (a:n<=25):(ai n).length<=15625:=jt a a
theorem xN {b:Int}:ao (.lst [.int (-1),.int 1]) (.int (if decide (0 < b)=true then 1 else 0))=some (.int (if 0 < b then 1 else -1),.z):=by
 by_cases h:0 < b
 ·simp only [h,decide_true,if_true];rfl
 ·simp only [h,decide_false,Ap,if_false];rfl
theorem uM {S:List L3.D} {xs:List L3.D} {i j k:Int} {p q r:Pt} (a1:ao (.tup S) (.int i)=some (Pd p,.z)) (a2:ao (.tup S) (.int j)=some (Pd q,.z)) (h:ao (.tup S) (.int k)=some (Pd r,.z)) (a:Small p) (c:Small q) (f:xs.length < 16777216):cS [some (.tup S,.z),some (.lst xs,.u),some (.int i,.z),some (.int j,.z),some (.int k,.z)]=some (.ok .nx,[some (.tup S,.z),some (.lst (xs ++ [.int (cL p q r)]),.u),some (.int i,.z),some (.int j,.z),some (.int k,.z)]):=by
 have b:=l5 p q r (Small.sub a c).1 (Small.sub a c).2
 have g:=uh (A:=xs) (d:=.int (cL p q r)) f
 have e:=xN (b:=aH p q r)
 unfold cS
 apply tH
 apply wZ
 ·rfl
 ·rfl
 ·apply aO
  ·apply dm (h5:=e)
   ·nofun
   ·nomatch [b],[a1,a2,h]
   ·rfl
   ·rfl
  ·exact bK
 ·rfl
 ·rfl
 ·exact g
 ·rfl
theorem qg (ps:List Pt) (q:ps.length<=24) (c:∀ p ∈ ps,Small p):dZ [(Shd ps,.z)]=some (.ok (.tup ((ai ps.length).map fun t=>.int (tp ps t)),.z),[(Shd ps,.z)]):=by
 have a:=eV ps.length (by omega)
 rw [show (ps.length:Int)=((ps.map Pd).length:Int) by rw [zZ]] at a
 have sm:=bU (n:=ps.length) (by omega)
 obtain ⟨ρ',e,v2,v3,v4,rfl⟩:=bO (bnd:=jY 3 (bD (aj 2) (bD (aj 3) (bD (aj 4) jZ)))) (b:=cS) (fun m ρ=>∃ v2 v3 v4,ρ=[some (Shd ps,.z),some (.lst (((ai ps.length).take m).map fun t=>.int (tp ps t)),.u),v2,v3,v4]) (ds:=(ai ps.length).map Td) (ρ:=[some (Shd ps,.z),some (.lst [],.u),none,none,none]) (k:=0) ⟨none,none,none,rfl⟩ (by
  rintro m d ρ hd ⟨v2,v3,v4,rfl⟩
  rw [z8,zR] at hd
  obtain ⟨t,a,rfl⟩:=hd
  obtain ⟨r,o,l⟩:=dN (z5 a)
  have g:=ce (ps:=ps) (i:=t.1) (by omega)
  have f:=ce (ps:=ps) (i:=t.2.1) (by omega)
  have h:=ce (ps:=ps) (i:=t.2.2) (by omega)
  have b:=uM (xs:=((ai ps.length).take (0+m)).map fun t=>L3.D.int (tp ps t)) (ik (ub g)) (ik (ub f)) (ik (ub h)) (c _ (z5 g)) (c _ (z5 f)) (by rw [zZ,Al];omega)
  have j:((ai ps.length).take (0+m)).map (fun t=>L3.D.int (tp ps t)) ++ [.int (cL (dM ps t.1) (dM ps t.2.1) (dM ps t.2.2))]=((ai ps.length).take (0+m+1)).map fun t=>.int (tp ps t):=by
   rw [List.take_succ,Ah,a]
   simp [tp]
  rw [j] at b
  exact ⟨_,_,rfl,.inl b,_,_,_,rfl⟩)
 rw [zZ,Ah,List.take_length] at e
 apply aT (ρ:=[some (Shd ps,.z),none,none,none,none]) rfl rfl
 ·apply ag
  ·nofun
  apply ag
  ·apply eM
   ·nomatch [a]
   ·rfl
   ·exact e
  ·nofun
 ·rfl
abbrev k2 (i j:Nat):List Key:=[.inl (i:Int),.inl (j:Int)]
abbrev k3 (i j k:Nat):List Key:=[.inl (i:Int),.inl (j:Int),.inl (k:Int)]
theorem lT {kvs:List (List Key × L3.D)} {i j k:Nat} {d:L3.D} (h:jI kvs (k3 i j k)=some d):ao (.dt kvs) (.tup [.int i,.int j,.int k])=some (d,.z):=by
 show (jI kvs (k3 i j k)).map (fun d=>(d,Fl.z))=_
 rw [h];rfl
structure Sg where
 length:Nat
 f:Nat->Nat->Nat->Int
def trn (ps:Sg) (i j k:Nat):Int:=ps.f i j k
def pY (ps:Sg) (T:List (List Key × L3.D)):Prop:=∀ i j k,i < j->j < k->k < ps.length->jI T (k3 i j k)=some (.int (trn ps i j k))
theorem ir {n i j k:Nat} (h1:i < j) (h2:j < k) (h3:k < n):(i,j,k) ∈ ai n:=by
 refine Az.mpr ⟨i,List.mem_range.mpr (by omega),Az.mpr ⟨j - (i+1),List.mem_range.mpr (by omega),z7.mpr ⟨k - (j+1),List.mem_range.mpr (by omega),?_⟩⟩⟩
 refine Prod.ext rfl (Prod.ext ?_ ?_) <;> simp <;> omega
theorem zj {i j k a b c:Nat} (h:k3 i j k=k3 a b c):i=a/\j=b/\k=c:=by
 simp only [k3,List.cons.injEq,Sum.inl.injEq,and_true] at h
 omega
def tn (ps:Sg) (t:Tri):Int:=trn ps t.1 t.2.1 t.2.2
abbrev kT (t:Tri):List Key:=k3 t.1 t.2.1 t.2.2
theorem oA {t u:Tri} (h:kT t=kT u):t=u:=by
 obtain ⟨h1,h2,h3⟩:=zj h
 exact Prod.ext h1 (Prod.ext h2 h3)
theorem u8 (i j m:Nat):(io i j m).Nodup:=by
 unfold io List.Nodup
 rw [List.pairwise_map]
 exact List.pairwise_lt_range.imp fun {a b} h e=>by
  have:=congrArg (fun t:Tri=>t.2.2) e
  simp only at this
  omega
theorem u9 (n i m:Nat):(fP n i m).Nodup:=by
 unfold fP List.Nodup
 refine List.pairwise_flatMap.mpr ⟨fun a _=>u8 _ _ _,List.pairwise_lt_range.imp fun {a b} h x d y c e=>?_⟩
 obtain ⟨u,_,rfl⟩:=z7.mp d
 obtain ⟨v,_,rfl⟩:=z7.mp c
 have:=congrArg (fun t:Tri=>t.2.1) e
 simp only at this
 omega
theorem i6 (n:Nat):(ai n).Nodup:=by
 unfold ai jT List.Nodup
 refine List.pairwise_flatMap.mpr ⟨fun a _=>u9 _ _ _,List.pairwise_lt_range.imp fun {a b} h x d y c e=>?_⟩
 obtain ⟨u,_,d⟩:=Az.mp d
 obtain ⟨g,_,rfl⟩:=z7.mp d
 obtain ⟨v,_,c⟩:=Az.mp c
 obtain ⟨f,_,rfl⟩:=z7.mp c
 have:=congrArg (fun t:Tri=>t.1) e
 simp only at this
 omega
theorem iy:∀ l:List Tri,fM (l.map Td)=some (l.map kT)
 | []=>rfl
 | t :: l=>by
  have:=iy l
  rw [Ad,Ad]
  show (match cy [.int t.1,.int t.2.1,.int t.2.2],fM (l.map Td) with | some k,some ks=>some (k :: ks) | _,_=>none)=_
  rw [this]
  rfl
theorem pG {v:Tri->L3.D}:∀ {l:List Tri} {t:Tri},t ∈ l->jI ((l.map kT).zip (l.map v)) (kT t)=some (v t)
 | u :: l,t,h=>by
  unfold jI
  rw [Ad,Ad,List.zip_cons_cons,List.find?_cons]
  by_cases e:kT u=kT t
  ·have:=oA e
   subst this
   simp
  ·have hm:t ∈ l:=by
    rcases zU.mp h with rfl | h
    ·exact absurd rfl e
    ·exact h
   have:=pG (v:=v) hm
   unfold jI at this
   simp only [e,decide_false]
   exact this
def T0 (ps:Sg):List (List Key × L3.D):=((ai ps.length).map kT).zip ((ai ps.length).map fun t=>L3.D.int (tn ps t))
theorem nz (ps:Sg):pY ps (T0 ps):=fun i j k h1 h2 h3=>pG (v:=fun t=>L3.D.int (tn ps t)) (t:=(i,j,k)) (ir h1 h2 h3)
abbrev Fo:=Tri × Nat
def Qd (f:Fo):L3.D:=.tup [.int f.1.1,.int f.1.2.1,.int f.1.2.2,.int f.2]
def kR (n:Nat) (t:Tri):List Fo:=(List.range (n - (t.2.2+1))).map fun m=>(t,t.2.2+1+m)
def frs (n:Nat) (l:List Tri):List Fo:=l.flatMap (kR n)
theorem l7 (n:Nat) (t:Tri):(kR n t).length=n - (t.2.2+1):=by simp [kR]
theorem lp {n:Nat}:∀ l:List Tri,(frs n l).length<=n * l.length
 | []=>by simp [frs]
 | t :: l=>by
  have:=lp (n:=n) l
  have h:(frs n (t :: l)).length=(kR n t).length+(frs n l).length:=by simp [frs]
  rw [h,l7,Ak,Nat.mul_succ]
  omega
theorem ph {n:Nat} {f:Fo} (h:f ∈ frs n (ai n)):f.1.1 < f.1.2.1/\f.1.2.1 < f.1.2.2/\f.1.2.2 < f.2/\f.2 < n:=by
 obtain ⟨t,a,hf⟩:=Az.mp h
 obtain ⟨m,hm,rfl⟩:=z7.mp hf
 obtain ⟨h1,h2,h3⟩:=dN a
 have:=List.mem_range.mp hm
 refine ⟨h1,h2,?_,?_⟩
 ·show t.2.2 < t.2.2+1+m
  omega
 ·show t.2.2+1+m < n
  omega
theorem qK {n:Nat} (p:n<=25) {t:Tri} (b:t ∈ ai n) {xs:List L3.D} (q:xs.length<=1000000):eD [some (.int n,.z),some (.lst xs,.u),some (Td t,.z)]=some (.ok .nx,[some (.int n,.z),some (.lst (xs ++ (kR n t).map Qd),.u),some (Td t,.z)]):=by
 obtain ⟨h1,h2,h3⟩:=dN b
 obtain ⟨i,j,k⟩:=t
 dsimp only at h1 h2 h3
 obtain ⟨τ',e,a,rfl⟩:=fq (bnd:=aj 0) (c:=cH) (elt:=fU) (fun τ=>∃ a,τ=[a,some (Td (i,j,k),.z)]) (fun _=>true) (fun d=>.tup [.int i,.int j,.int k,d]) (ds:=aV ((k:Int)+1) (n - (k+1))) (τ:=[none,some (Td (i,j,k),.z)]) ⟨none,rfl⟩ (by
  rintro d hd τ ⟨a,rfl⟩
  have f:aQ (Td (i,j,k)) (.tup [d])=some (.tup [.int i,.int j,.int k,d],.z):=eE (A:=[.int i,.int j,.int k]) (B:=[d]) (by simp)
  exact ⟨[some (d,.z),some (Td (i,j,k),.z)],_,rfl,rfl,(fun h=>by cases h),fun _=>⟨.val (.tup [.int i,.int j,.int k,d]) .z,[some (d,.z),some (Td (i,j,k),.z)],(.tup [.int i,.int j,.int k,d],.z),_,by unfold fU;(exists f),rfl,rfl,_,rfl⟩⟩)
 have o:((aV ((k:Int)+1) (n - (k+1))).filter fun _=>true).map (fun d=>L3.D.tup [.int i,.int j,.int k,d])=(kR n (i,j,k)).map Qd:=by
  rw [Ay.mpr (fun _ _=>rfl)]
  simp [aV,kR,Function.comp_def,Qd]
 rw [o] at e
 have l:fQ [.int ((k:Int)+1),.int n]=some (aV ((k:Int)+1) (n - (k+1))):=kS (by omega) (by omega) (by omega)
 have g:ao (Td (i,j,k)) (.int 2)=some (.int k,.z):=rfl
 have c:jE [some (.int n,.z),some (.lst xs,.u),some (Td (i,j,k),.z)]=some (.ok (.val (.lst ((kR n (i,j,k)).map Qd)) .u),[some (.int n,.z),some (.lst xs,.u),some (Td (i,j,k),.z)]):=bh (rs:=[]) (by (repeat' (first | with_reducible apply dl (h3:=l) | infer_instance | exact g | eq_refl))) e (by rw [bx];omega) rfl
 have m:xs.length+((kR n (i,j,k)).map Qd).length<=16777216:=by
  rw [zZ,l7];dsimp only;omega
 unfold eD
 (repeat' (first | with_reducible exact c | infer_instance | exact tN m | eq_refl))
theorem qk (n:Nat) (a:n<=25):jl [(.int n,.z)]=some (.ok (.lst ((frs n (ai n)).map Qd),.u),[(.int n,.z)]):=by
 have th:=ee n a
 have sm:=bU a
 obtain ⟨ρ',e,v2,rfl⟩:=bO (bnd:=aj 2) (b:=eD) (fun m ρ=>∃ v2,ρ=[some (.int n,.z),some (.lst ((frs n ((ai n).take m)).map Qd),.u),v2]) (ds:=(ai n).map Td) (ρ:=[some (.int n,.z),some (.lst [],.u),none]) (k:=0) ⟨none,rfl⟩ (by
  rintro m d ρ hd ⟨v2,rfl⟩
  rw [z8] at hd
  obtain ⟨t,c,rfl⟩:=zR.mp hd
  have hm:=z5 c
  have f:((frs n ((ai n).take m)).map Qd).length<=1000000:=by
   rw [zZ]
   have h1:=lp (n:=n) ((ai n).take m)
   have h2:((ai n).take m).length<=15625:=by rw [Al];omega
   have h3:n * ((ai n).take m).length<=25 * 15625:=Nat.mul_le_mul a h2
   omega
  rw [Ah]
  refine ⟨_,_,rfl,.inl (qK a hm f),some (Td t,.z),?_⟩
  rw [List.take_add_one,c]
  simp [frs])
 rw [zZ,Ah,List.take_length] at *
 apply aT (ρ:=[some (.int n,.z),none,none]) rfl rfl
 ·apply ag
  ·nofun
  ·apply ag
   ·apply eM
    ·nomatch [th]
    ·rfl
    ·exact e
   ·nofun
 ·rfl
theorem n6 {b B s:Int} (a:0 < b) (e:b * B=s) (c:0 < s):0 < B:=by
 rcases Int.lt_or_le 0 B with h | h
 ·exact h
 ·have:=Int.mul_le_mul_of_nonneg_left h (Int.le_of_lt a)
  rw [Int.mul_zero] at this
  omega
theorem k7 {b B s:Int} (a:0 < b) (e:b * B=s) (c:s<=0):¬ 0 < B:=fun h=>by
 have:=Int.mul_pos a h
 omega
theorem lc {u v A C:Int} (hu:0 < u) (a:0 < v) (c:0 < A) (b:0 < C):0 < u * A+v * C:=by
 have h1:=Int.mul_pos hu c
 have h2:=Int.mul_pos a b
 omega
theorem jz {u v A C:Int} (hu:0 < u) (a:0 < v) (c:¬ 0 < A) (b:¬ 0 < C):u * A+v * C<=0:=by
 have h1:=Int.mul_le_mul_of_nonneg_left (show A<=0 by omega) (Int.le_of_lt hu)
 have h2:=Int.mul_le_mul_of_nonneg_left (show C<=0 by omega) (Int.le_of_lt a)
 rw [Int.mul_zero] at h1 h2
 omega
theorem quad1 (h i j k:Pt):(j.1 - h.1) * aH h i k=(k.1 - h.1) * aH h i j+(i.1 - h.1) * aH h j k:=by
 simp only [aH];grind
theorem quad2 (h i j k:Pt):(k.1 - i.1) * aH h j k=(k.1 - h.1) * aH i j k+(k.1 - j.1) * aH h i k:=by
 simp only [aH];grind
theorem quad3 (h i j k:Pt):(j.1 - i.1) * aH h i k=(k.1 - i.1) * aH h i j+(i.1 - h.1) * aH i j k:=by
 simp only [aH];grind
def chg (a b c d:Int):Nat:=(if a=b then 0 else 1)+(if b=c then 0 else 1)+(if c=d then 0 else 1)
theorem zx {h i j k:Pt} (h1:h.1 < i.1) (h2:i.1 < j.1) (h3:j.1 < k.1):chg (cL h i j) (cL h i k) (cL h j k) (cL i j k)<=1:=by
 have m:=quad1 h i j k
 have l:=quad2 h i j k
 have n:=quad3 h i j k
 have p:0 < j.1 - h.1:=by omega
 have p2:0 < k.1 - h.1:=by omega
 have e:0 < i.1 - h.1:=by omega
 have f:0 < k.1 - i.1:=by omega
 have o:0 < k.1 - j.1:=by omega
 have g:0 < j.1 - i.1:=by omega
 unfold cL
 generalize aH h i j=A at *
 generalize aH h i k=B at *
 generalize aH h j k=C at *
 generalize aH i j k=D at *
 by_cases a:0 < A <;> by_cases b:0 < B <;> by_cases c:0 < C <;> by_cases d:0 < D <;> simp only [a,b,c,d,if_true,if_false] <;> first
  | decide
  | exact absurd (n6 p m (lc p2 e a c)) b
  | exact absurd b (k7 p m (jz p2 e a c))
  | exact absurd (n6 f l (lc p2 o d b)) c
  | exact absurd c (k7 f l (jz p2 o d b))
  | exact absurd (n6 g n (lc f e a d)) b
  | exact absurd b (k7 g n (jz f e a d))
structure OkS (s:Sg):Prop where
 pos:0 < s.length
 most:s.length<=24
 sgn:∀ i j k,i < j->j < k->k < s.length->s.f i j k=1\/s.f i j k = -1
 chg1:∀ h i j k,h < i->i < j->j < k->k < s.length->chg (trn s h i j) (trn s h i k) (trn s h j k) (trn s i j k)<=1
abbrev R4 (a b c d:Int):L3.D:=.lst [.int a,.int b,.int c,.int d]
def g4 (a b c d:Int):L3.D->Bool
 | .int i=>if i=0 then !decide (a=b) else if i=1 then !decide (b=c) else !decide (c=d)
 | _=>true
theorem c4 {a b c d i x y:Int} (h1:ao (R4 a b c d) (.int i)=some (.int x,.z)) (h2:ao (R4 a b c d) (.int (i+1))=some (.int y,.z)):aw [some (.int i,.z),some (R4 a b c d,.u)]=some (.ok (!decide (x=y)),[some (.int i,.z),some (R4 a b c d,.u)]):=by
 have e:=lb (i:=x) (j:=y)
 unfold aw
 exists h1,h2,e
theorem l6 (a b c d:Int):∃ out τ',bC (aj 0) aw aL [.int 0,.int 1,.int 2] [none,some (R4 a b c d,.u)]=some (.ok out,τ')/\(∃ v,τ'=[v,some (R4 a b c d,.u)])/\out.length=chg a b c d:=by
 obtain ⟨τ',e,v,rfl⟩:=fq (bnd:=aj 0) (c:=aw) (elt:=aL) (fun τ=>∃ v,τ=[v,some (R4 a b c d,.u)]) (g4 a b c d) (fun d=>d) (ds:=[.int 0,.int 1,.int 2]) (τ:=[none,some (R4 a b c d,.u)]) ⟨none,rfl⟩ (by
  have step:∀ {i x y:Int} (v:Option (L3.D × Fl)),ao (R4 a b c d) (.int i)=some (.int x,.z)->ao (R4 a b c d) (.int (i+1))=some (.int y,.z)->g4 a b c d (.int i) = !decide (x=y)->∃ τ1 τ2,aj 0 (.int i) [v,some (R4 a b c d,.u)]=some τ1/\aw τ1=some (.ok (g4 a b c d (.int i)),τ2)/\(g4 a b c d (.int i)=false->∃ v,τ2=[v,some (R4 a b c d,.u)])/\(g4 a b c d (.int i)=true->∃ r τ3 p τ4,aL τ2=some (.ok r,τ3)/\dI r τ3=some (.ok p,τ4)/\p.1=.int i/\∃ v,τ4=[v,some (R4 a b c d,.u)]):=fun {i x y} v h1 h2 h3 =>
   ⟨[some (.int i,.z),some (R4 a b c d,.u)],[some (.int i,.z),some (R4 a b c d,.u)],rfl,by rw [h3];exact c4 h1 h2,fun _=>⟨_,rfl⟩,fun _=>⟨.pl 0,[some (.int i,.z),some (R4 a b c d,.u)],(.int i,.z),[some (.int i,.z),some (R4 a b c d,.u)],rfl,rfl,rfl,_,rfl⟩⟩
  rintro d' hd τ ⟨v,rfl⟩
  rcases zU.mp hd with rfl | hd
  ·exact step (x:=a) (y:=b) v rfl rfl rfl
  rcases zU.mp hd with rfl | hd
  ·exact step (x:=b) (y:=c) v rfl rfl rfl
  rcases zU.mp hd with rfl | hd
  ·exact step (x:=c) (y:=d) v rfl rfl rfl
  ·cases hd)
 refine ⟨_,_,e,⟨v,rfl⟩,?_⟩
 have k:∀ (x y:Int),(if x=y then 0 else 1:Nat)=bif decide (x=y) then 0 else 1:=fun x y=>by by_cases h:x=y <;> simp [h]
 have f:g4 a b c d (.int 0) = !decide (a=b):=rfl
 have g1:g4 a b c d (.int 1) = !decide (b=c):=rfl
 have g2:g4 a b c d (.int 2) = !decide (c=d):=rfl
 unfold chg
 rw [k a b,k b c,k c d]
 simp only [zZ,List.filter_cons,List.filter_nil,f,g1,g2]
 generalize decide (a=b)=p
 generalize decide (b=c)=q
 generalize decide (c=d)=r
 cases p <;> cases q <;> cases r <;> rfl
def ckB (s:Sg) (f:Fo):Bool:=decide (chg (trn s f.1.1 f.1.2.1 f.1.2.2) (trn s f.1.1 f.1.2.1 f.2) (trn s f.1.1 f.1.2.2 f.2) (trn s f.1.2.1 f.1.2.2 f.2)<=1)
def iW (s:Sg):Bool:=(frs s.length (ai s.length)).all (ckB s)
theorem nO {ps:Sg} {T:List (List Key × L3.D)} (g:pY ps T) {f:Fo} (hf:f ∈ frs ps.length (ai ps.length)):aK [(.dt T,.u),(Qd f,.z)]=some (.ok (.bl (ckB ps f),.z),[(.dt T,.u),(Qd f,.z)]):=by
 obtain ⟨h1,h2,h3,l⟩:=ph hf
 obtain ⟨⟨h,i,j⟩,k⟩:=f
 dsimp only at h1 h2 h3 l
 show aK _=some (.ok (.bl (decide (chg (trn ps h i j) (trn ps h i k) (trn ps h j k) (trn ps i j k)<=1)),.z),_)
 have t1:ao (.dt T) (.tup [.int h,.int i,.int j])=some (.int (trn ps h i j),.z):=lT (g h i j h1 h2 (by omega))
 have x:ao (.dt T) (.tup [.int h,.int i,.int k])=some (.int (trn ps h i k),.z):=lT (g h i k h1 (by omega) l)
 have t3:ao (.dt T) (.tup [.int h,.int j,.int k])=some (.int (trn ps h j k),.z):=lT (g h j k (by omega) h3 l)
 have B:ao (.dt T) (.tup [.int i,.int j,.int k])=some (.int (trn ps i j k),.z):=lT (g i j k h2 h3 l)
 generalize trn ps h i j=a at *
 generalize trn ps h i k=b at *
 generalize trn ps h j k=c at *
 generalize trn ps i j k=d at *
 obtain ⟨out,τ',e,⟨v,rfl⟩,A⟩:=l6 a b c d
 have m:ao (Qd ((h,i,j),k)) (.int 0)=some (.int h,.z):=rfl
 have q:ao (Qd ((h,i,j),k)) (.int 1)=some (.int i,.z):=rfl
 have o:ao (Qd ((h,i,j),k)) (.int 2)=some (.int j,.z):=rfl
 have w:ao (Qd ((h,i,j),k)) (.int 3)=some (.int k,.z):=rfl
 have s:b8 [.int 3]=some [.int 0,.int 1,.int 2]:=rfl
 generalize Qd ((h,i,j),k)=Q at *
 generalize L3.D.int (h:Int)=dh at *
 generalize L3.D.int (i:Int)=di at *
 generalize L3.D.int (j:Int)=dj at *
 generalize L3.D.int (k:Int)=dk at *
 have y:bN [some (.dt T,.u),some (Q,.z),some (dh,.z),some (di,.z),some (dj,.z),some (dk,.z),some (R4 a b c d,.u)]=some (.ok (.val (.lst out) .u),[some (.dt T,.u),some (Q,.z),some (dh,.z),some (di,.z),some (dj,.z),some (dk,.z),some (R4 a b c d,.u)]):=bh (rs:=[]) (by (repeat' (first | with_reducible apply dl (h3:=s) | infer_instance | eq_refl))) e (by decide) rfl
 have hle:leI (.int (out.length:Int)) (.int 1)=some (.bl (decide (chg a b c d<=1)),.z):=by
  rw [<- A]
  simp [dG]
  omega
 have r:af ao (ab 0) (aF (aa (ab 2) (aa (ab 3) (aa (ab 4) ae)))) [some (.dt T,.u),some (Q,.z),some (dh,.z),some (di,.z),some (dj,.z),some (dk,.z),none]=some (.ok (.val (.int a) .z),[some (.dt T,.u),some (Q,.z),some (dh,.z),some (di,.z),some (dj,.z),some (dk,.z),none]):=by (exists t1)
 have p:af ao (ab 0) (aF (aa (ab 2) (aa (ab 3) (aa (ab 5) ae)))) [some (.dt T,.u),some (Q,.z),some (dh,.z),some (di,.z),some (dj,.z),some (dk,.z),none]=some (.ok (.val (.int b) .z),[some (.dt T,.u),some (Q,.z),some (dh,.z),some (di,.z),some (dj,.z),some (dk,.z),none]):=by (exists x)
 have n:af ao (ab 0) (aF (aa (ab 2) (aa (ab 4) (aa (ab 5) ae)))) [some (.dt T,.u),some (Q,.z),some (dh,.z),some (di,.z),some (dj,.z),some (dk,.z),none]=some (.ok (.val (.int c) .z),[some (.dt T,.u),some (Q,.z),some (dh,.z),some (di,.z),some (dj,.z),some (dk,.z),none]):=by (exists t3)
 have t:af ao (ab 0) (aF (aa (ab 3) (aa (ab 4) (aa (ab 5) ae)))) [some (.dt T,.u),some (Q,.z),some (dh,.z),some (di,.z),some (dj,.z),some (dk,.z),none]=some (.ok (.val (.int d) .z),[some (.dt T,.u),some (Q,.z),some (dh,.z),some (di,.z),some (dj,.z),some (dk,.z),none]):=by (exists B)
 apply aT (ρ:=[some (.dt T,.u),some (Q,.z),none,none,none,none,none]) rfl rfl
 ·unfold cr
  apply ag (ρ1:=[some (.dt T,.u),some (Q,.z),some (dh,.z),none,none,none,none])
  ·exists m
  apply ag (ρ1:=[some (.dt T,.u),some (Q,.z),some (dh,.z),some (di,.z),none,none,none])
  ·exists q
  apply ag (ρ1:=[some (.dt T,.u),some (Q,.z),some (dh,.z),some (di,.z),some (dj,.z),none,none])
  ·exists o
  apply ag (ρ1:=[some (.dt T,.u),some (Q,.z),some (dh,.z),some (di,.z),some (dj,.z),some (dk,.z),none])
  ·exists w
  apply ag (ρ1:=[some (.dt T,.u),some (Q,.z),some (dh,.z),some (di,.z),some (dj,.z),some (dk,.z),some (R4 a b c d,.u)])
  ·(repeat' (first | with_reducible exact r | with_reducible exact p | with_reducible exact n | with_reducible exact t | infer_instance | eq_refl))
  ·apply cF
   ·(repeat' (first | with_reducible exact y | infer_instance | exact hle | eq_refl))
   ·rfl
 ·rfl
abbrev SgD (s:Sg):List L3.D:=(ai s.length).map fun t=>L3.D.int (tn s t)
theorem uR {ps:Sg} (a:ps.length<=25):bJ [(.int ps.length,.z),(.tup ((ai ps.length).map fun t=>.int (tn ps t)),.z)]=some (.ok (.dt (T0 ps),.u),[(.int ps.length,.z),(.tup ((ai ps.length).map fun t=>.int (tn ps t)),.z)]):=by
 have th:=ee ps.length a
 have hz:dzD [.lst ((ai ps.length).map Td),.tup ((ai ps.length).map fun t=>.int (tn ps t))]=some (.dt (T0 ps),.u):=by
  show ((fM ((ai ps.length).map Td)).bind fun ks=>if ks.length=((ai ps.length).map fun t=>L3.D.int (tn ps t)).length/\ks.Nodup then some ((.dt (ks.zip ((ai ps.length).map fun t=>L3.D.int (tn ps t))),.u):L3.D × Fl) else none)=_
  rw [iy]
  show (if ((ai ps.length).map kT).length=((ai ps.length).map fun t=>L3.D.int (tn ps t)).length/\((ai ps.length).map kT).Nodup then _ else _)=_
  rw [if_pos]
  ·rfl
  refine ⟨by simp,?_⟩
  unfold List.Nodup
  rw [List.pairwise_map]
  exact (i6 _).imp fun h e=>h (oA e)
 generalize (ai ps.length).map (fun t=>L3.D.int (tn ps t))=S at *
 generalize T0 ps=T at *
 apply aT (ρ:=[some (.int ps.length,.z),some (.tup S,.z)]) rfl rfl
 ·apply cF
  ·nomatch [th],[hz]
  ·rfl
 ·rfl
theorem uU {k lo hi:Int} (h1:lo<=k) (h2:k<=hi):cp [(.int k,.z),(.int lo,.z),(.int hi,.z)]=some (.ok (.non,.z),[(.int k,.z),(.int lo,.z),(.int hi,.z)]):=by
 have c:leI (.int lo) (.int k)=some (.bl true,.z):=by simp [dG,h1]
 have a:leI (.int k) (.int hi)=some (.bl true,.z):=by simp [dG,h2]
 have f:=qf k
 apply F_nx (ρ:=[some (.int k,.z),some (.int lo,.z),some (.int hi,.z)]) rfl rfl
 ·apply dS
  ·apply gx (b:=false)
   ·apply bX (b:=true)
    nomatch [f]
   ·rfl
   ·exact bX (eO (wk (aD rfl) (aD rfl) rfl rfl c (aD rfl) rfl rfl a) rfl)
  ·rfl
  ·rfl
 ·rfl
theorem pX {α:Type} (b:α->Bool):∀ xs:List α,iU (xs.map fun x=>L3.D.bl (b x))=some (xs.map b)
 | []=>rfl
 | x :: xs=>by simp [iU,pX b xs]
theorem jO {α:Type} (b:α->Bool) (xs:List α):oP [.lst (xs.map fun x=>L3.D.bl (b x))]=some (.bl (xs.all b),.z):=by
 show (iU _).map _=_
 rw [pX]
 simp [List.all_map]
theorem lI {xs:List L3.D} {i:Nat} {d:L3.D} (h:xs[i]?=some d):L2.atI xs (i:Int)=some d:=by
 have lt:=(z4.mp h).1
 unfold L2.atI L2.ixN
 rw [if_pos (by omega),if_pos (by omega)]
 simpa using h
def nox:L3.D->Bool
 | .exc _ _=>false
 | _=>true
def wh:L3.D->Bool
 | .int _=>true
 | _=>false
theorem wh_l {d:L3.D} (h:nox d=true):dY [(d,.z)]=some (.ok (.bl (wh d),.z),[(d,.z)]):=by
 cases d <;> first | exact (Aa h).elim | kernel_rfl
theorem wh_p {d:L3.D} (h:nox d=true):bY [(d,.z)]=some (.ok (.bl (wh d),.z),[(d,.z)]):=by
 cases d <;> first | exact (Aa h).elim | kernel_rfl
theorem pi (xs:List L3.D):xs.map (fun x=>x)=xs:=List.map_id xs
def sgB:L3.D->Bool
 | .int i=>decide (i=1) || decide (i = -1)
 | _=>false
theorem rP {d:L3.D} (h:¬ ∃ i,d=.int i):sgB d=false/\wh d=false:=by
 cases d <;> first | exact ⟨rfl,rfl⟩ | exact absurd ⟨_,rfl⟩ h
theorem sg_p {d:L3.D} (h:nox d=true):d5 [(d,.z)]=some (.ok (.bl (sgB d),.z),[(d,.z)]):=by
 have w:=wh_p h
 by_cases hd:∃ i,d=.int i
 ·obtain ⟨i,rfl⟩:=hd
  have e1:eqX (.int i) (.int 1)=some (.bl (decide (i=1)),.z):=rfl
  have b:eqX (.int i) (.int (-1))=some (.bl (decide (i = -1)),.z):=rfl
  show d5 _=some (.ok (.bl (decide (i=1) || decide (i = -1)),.z),_)
  generalize decide (i=1)=b1 at *
  generalize decide (i = -1)=b2 at *
  have go:(mOr (af eqX (ab 0) (mC (.int 1))) (af eqX (ab 0) (mC (.int (-1))))) [some (.int i,.z)]=some (.ok (.val (.bl (b1 || b2)) .z),[some (.int i,.z)]):=by
   cases b1 with
   | true=>exact zn (dm (aD rfl) i_c rfl rfl e1) rfl rfl
   | false=>exact zo (dm (aD rfl) i_c rfl rfl e1) rfl rfl (dm (aD rfl) i_c rfl rfl b)
  apply aT (ρ:=[some (.int i,.z)]) (ρ1:=[some (.int i,.z)]) rfl rfl
  ·apply cF
   ·apply lh
    ·nomatch [w]
    ·rfl
    ·rfl
    ·exact go
   ·rfl
  ·rfl
 ·obtain ⟨e,a⟩:=rP hd
  rw [a] at w
  rw [e]
  apply aT (ρ:=[some (d,.z)]) (ρ1:=[some (d,.z)]) rfl rfl
  ·apply cF
   ·apply pE
    ·nomatch [w]
    ·rfl
    ·rfl
   ·rfl
  ·rfl
def okx:L3.D->Bool
 | .exc _ _=>false
 | .int i=>decide (i.natAbs < 2 ^ 200)
 | _=>true
theorem pg {d:L3.D} (h:okx d=true):nox d=true:=by
 cases d <;> first | rfl | exact h
theorem xJ {i:Int}:(i * i=1) ↔ (i=1\/i = -1):=by
 constructor
 ·intro h
  have h1:i.natAbs * i.natAbs=1:=by rw [<- Int.natAbs_mul,h];rfl
  by_cases h0:i.natAbs=0
  ·rw [h0] at h1;cases h1
  by_cases h2:2<=i.natAbs
  ·have:=Nat.mul_le_mul h2 h2;omega
  ·omega
 ·rintro (rfl | rfl) <;> rfl
theorem sg_l {d:L3.D} (h:okx d=true):bG [some (d,.z)]=some (.ok (.val (.bl (sgB d)) .z),[some (d,.z)]):=by
 have w:=wh_l (pg h)
 unfold bG
 by_cases hd:∃ i,d=.int i
 ·obtain ⟨i,rfl⟩:=hd
  have hi:i.natAbs < 2 ^ 200:=of_decide_eq_true h
  have f:vU (.int i) (.int i)=some (.int (i * i),.z):=by
   unfold vU dG
   simp only [hi,and_self,decide_true,if_true]
  have e1:eqX (.int (i * i)) (.int 1)=some (.bl (decide (i * i=1)),.z):=rfl
  have a:decide (i * i=1)=sgB (.int i):=by
   show _=(decide (i=1) || decide (i = -1))
   rw [<- Bool.decide_or]
   exact decide_eq_decide.mpr xJ
  rw [a] at e1
  have w:dY [(.int i,.z)]=some (.ok (.bl true,.z),[(.int i,.z)]):=w
  clear a h
  generalize sgB (.int i)=b at *
  generalize L3.D.int (i * i)=I2 at *
  generalize L3.D.int i=I at *
  apply lh
  ·nomatch [w]
  ·rfl
  ·rfl
  ·exact dm (dm (aD rfl) (aD rfl) rfl rfl f) i_c rfl rfl e1
 ·obtain ⟨e,c⟩:=rP hd
  rw [c] at w
  rw [e]
  apply pE
  ·nomatch [w]
  ·rfl
  ·rfl
section
variable {xs:List L3.D}
theorem ue (d:∀ x ∈ xs,nox x=true) (f:xs.length<=16000) (N:L3.D):cg [some (N,.z),some (.tup xs,.z),none]=some (.ok (.val (.lst (xs.map fun x=>.bl (sgB x))) .u),[some (N,.z),some (.tup xs,.z),none]):=by
 obtain ⟨τ',e,a,rfl⟩:=dn (bnd:=aj 0) (c:=cH) (elt:=cj) (fun τ=>∃ a,τ=[a]) (fun x:L3.D=>x) (fun _=>true) (fun x=>.bl (sgB x)) (xs:=xs) (τ:=[none]) ⟨none,rfl⟩ (by
  rintro k b τ ⟨a,rfl⟩
  have w:=sg_p (d k b)
  exact ⟨[some (k,.z)],_,rfl,rfl,(fun h=>by cases h),fun _=>⟨.val (.bl (sgB k)) .z,[some (k,.z)],(.bl (sgB k),.z),_,by unfold cj;(nomatch [w]),rfl,rfl,_,rfl⟩⟩)
 rw [Ay.mpr (fun _ _=>rfl),pi] at e
 exact bh (rs:=[.pl 1]) (ρ1:=[some (N,.z),some (.tup xs,.z),none]) (ρ2:=[some (N,.z),some (.tup xs,.z),none]) rfl e (by omega) rfl
theorem wz (c:∀ x ∈ xs,nox x=true) (d:xs.length<=16000) (hw:xs.all sgB=false) (N:L3.D):aP [(N,.z),(.tup xs,.z)]=some (.ok (.bl false,.z),[(N,.z),(.tup xs,.z)]):=by
 have e1:=ue c d N
 have a1:=jO sgB xs
 rw [hw] at a1
 have a:fX "tuple" (.tup xs)=some (.bl true,.z):=rfl
 generalize L3.D.tup xs=R at *
 apply aT (ρ:=[some (N,.z),some (R,.z),none]) (ρ1:=[some (N,.z),some (R,.z),none]) rfl rfl
 ·unfold bA
  refine d7 (eL (b:=true) (gx (b:=false) (ρ1:=[some (N,.z),some (R,.z),none]) ?_ rfl ?_) rfl (cF i_c rfl))
  ·exact bX (eO (mN (aD rfl) rfl a) rfl)
  ·exact bX (eO (bv (aO e1 bK) rfl a1) rfl)
 ·rfl
theorem zI {d:L3.D} (h:nox d=true) (c:∀ xs,d ≠ .tup xs) (N:L3.D):aP [(N,.z),(d,.z)]=some (.ok (.bl false,.z),[(N,.z),(d,.z)]):=by
 have a:fX "tuple" d=some (.bl false,.z):=by
  cases d <;> first | exact (Aa h).elim | exact absurd rfl (c _) | rfl
 clear h c
 apply aT (ρ:=[some (N,.z),some (d,.z),none]) (ρ1:=[some (N,.z),some (d,.z),none]) rfl rfl
 ·unfold bA
  refine d7 (eL (b:=true) (wY (b:=true) ?_ rfl) rfl (cF i_c rfl))
  exact bX (eO (mN (aD rfl) rfl a) rfl)
 ·rfl
theorem nt (c:∀ x ∈ xs,nox x=true) (d:xs.length<=16000) (hw:xs.all sgB=true) (N:L3.D):(sIf (cOr (f9 (cB (mUn (fX "tuple") (ab 1)))) (f9 (cB (aq oP (aa cg ae))))) (bj 2 (mC (.bl false))) eU) [some (N,.z),some (.tup xs,.z),none]=some (.ok .nx,[some (N,.z),some (.tup xs,.z),none]):=by
 have e1:=ue c d N
 have a1:=jO sgB xs
 rw [hw] at a1
 have a:fX "tuple" (.tup xs)=some (.bl true,.z):=rfl
 generalize L3.D.tup xs=R at *
 refine dS (b:=false) (gx (b:=false) (ρ1:=[some (N,.z),some (R,.z),none]) ?_ rfl ?_) rfl rfl
 ·exact bX (eO (mN (aD rfl) rfl a) rfl)
 ·exact bX (eO (bv (aO e1 bK) rfl a1) rfl)
theorem oj {a b:Nat}:neX (.int (a:Int)) (.int (b:Int))=some (.bl (!decide (a=b)),.z):=by
 rw [lb]
 congr 4
 exact decide_eq_decide.mpr (by omega)
theorem wA (d:∀ x ∈ xs,nox x=true) (e:xs.length<=16000) (hw:xs.all sgB=true) {n:Nat} (h:n<=25) (c:xs.length ≠ (ai n).length):aP [(.int (n:Int),.z),(.tup xs,.z)]=some (.ok (.bl false,.z),[(.int (n:Int),.z),(.tup xs,.z)]):=by
 have f:=nt d e hw (.int (n:Int))
 have th:=ee n h
 have g:cE [.tup xs]=some (.int (xs.length:Int),.z):=by simp [iX,c1]
 have i:cE [.lst ((ai n).map Td)]=some (.int ((ai n).length:Int),.z):=by simp [iX,c1]
 have ne:=oj (a:=xs.length) (b:=(ai n).length)
 rw [Af c] at ne
 generalize L3.D.lst ((ai n).map Td)=L at *
 generalize L3.D.tup xs=R at *
 generalize L3.D.int (n:Int)=N at *
 apply aT (ρ:=[some (N,.z),some (R,.z),none]) (ρ1:=[some (N,.z),some (R,.z),none]) rfl rfl
 ·unfold bA
  refine ag f (d7 (eL (b:=true) ?_ rfl (cF i_c rfl)))
  exact eO (dm (bv (aO (aD rfl) bK) rfl g) (bv (aO (ak th (aO (aD rfl) bK) rfl rfl rfl) bK) rfl i) rfl rfl ne) rfl
 ·rfl
end
theorem um {s:Sg} (b:∀ t ∈ ai s.length,tn s t=1\/tn s t = -1):(∀ x ∈ SgD s,nox x=true)/\(SgD s).all sgB=true:=by
 constructor
 ·intro x a
  obtain ⟨t,_,rfl⟩:=z7.mp a
  rfl
 ·rw [List.all_eq_true]
  intro x a
  obtain ⟨t,c,rfl⟩:=z7.mp a
  show (decide (tn s t=1) || decide (tn s t = -1))=true
  rcases b t c with h | h <;> rw [h] <;> decide
theorem uY {ps:Sg} (d:ps.length<=24) (i:∀ t ∈ ai ps.length,tn ps t=1\/tn ps t = -1):aP [(.int ps.length,.z),(.tup (SgD ps),.z)]=some (.ok (.bl (iW ps),.z),[(.int ps.length,.z),(.tup (SgD ps),.z)]):=by
 have d:ps.length<=25:=by omega
 have sm:=bU (n:=ps.length) d
 obtain ⟨x,e⟩:=um i
 have p:(SgD ps).length<=16000:=by rw [zZ];omega
 have k:=nt x p e (.int (ps.length:Int))
 have v:(frs ps.length (ai ps.length)).length < 16777216:=by
  have h1:=lp (n:=ps.length) (ai ps.length)
  have h3:ps.length * (ai ps.length).length<=25 * 15625:=Nat.mul_le_mul d sm
  omega
 have th:=ee ps.length d
 have j:=qk ps.length d
 have l:=uR d
 have w:=nz ps
 generalize T0 ps=T at *
 have s:cE [.tup (SgD ps)]=some (.int ((SgD ps).length:Int),.z):=by simp [iX,c1]
 have m:cE [.lst ((ai ps.length).map Td)]=some (.int ((ai ps.length).length:Int),.z):=by simp [iX,c1]
 have ne:=oj (a:=(SgD ps).length) (b:=(ai ps.length).length)
 rw [Ae (zZ _)] at ne
 obtain ⟨τ2,g,a2,rfl⟩:=dn (bnd:=aj 0) (c:=cH) (elt:=ci) (fun τ=>∃ a,τ=[a,some (.dt T,.u)]) Qd (fun _=>true) (fun q=>.bl (ckB ps q)) (xs:=frs ps.length (ai ps.length)) (τ:=[none,some (.dt T,.u)]) ⟨none,rfl⟩ (by
  rintro q r τ ⟨a,rfl⟩
  have f:=nO w r
  generalize ckB ps q=b at *
  exact ⟨[some (Qd q,.z),some (.dt T,.u)],_,rfl,rfl,(fun h=>by cases h),fun _=>⟨.val (.bl b) .z,[some (Qd q,.z),some (.dt T,.u)],(.bl b,.z),[some (Qd q,.z),some (.dt T,.u)],by unfold ci;(nomatch [f]),rfl,rfl,_,rfl⟩⟩)
 rw [Ay.mpr (fun _ _=>rfl)] at g
 have o:oP [.lst ((frs ps.length (ai ps.length)).map fun q=>L3.D.bl (ckB ps q))]=some (.bl (iW ps),.z):=jO (ckB ps) _
 generalize (frs ps.length (ai ps.length)).map (fun q=>L3.D.bl (ckB ps q))=e at *
 have c2:dC [some (.int ps.length,.z),some (.tup (SgD ps),.z),some (.dt T,.u)]=some (.ok (.val (.lst e) .u),[some (.int ps.length,.z),some (.tup (SgD ps),.z),some (.dt T,.u)]):=bh (ρ1:=[some (.int ps.length,.z),some (.tup (SgD ps),.z),some (.dt T,.u)]) (rs:=[.val (.lst ((frs ps.length (ai ps.length)).map Qd)) .u]) (by (nomatch [j])) g (by rw [zZ];exact v) rfl
 generalize iW ps=ok at *
 generalize L3.D.lst ((ai ps.length).map Td)=L at *
 generalize L3.D.tup (SgD ps)=R at *
 generalize L3.D.int (ps.length:Int)=N at *
 apply aT (ρ:=[some (N,.z),some (R,.z),none]) (ρ1:=[some (N,.z),some (R,.z),some (.dt T,.u)]) rfl rfl
 ·unfold bA
  refine ag k ?_
  apply ag (ρ1:=[some (N,.z),some (R,.z),none])
  ·refine dS (b:=false) ?_ rfl rfl
   exact eO (dm (bv (aO (aD rfl) bK) rfl s) (bv (aO (ak th (aO (aD rfl) bK) rfl rfl rfl) bK) rfl m) rfl rfl ne) rfl
  apply ag (ρ1:=[some (N,.z),some (R,.z),some (.dt T,.u)])
  ·nomatch [l]
  ·apply cF
   ·(repeat' (first | with_reducible exact c2 | infer_instance | exact o | eq_refl))
   ·rfl
 ·rfl
theorem dz_is (s:Sg):dzD [.lst ((ai s.length).map Td),.tup (SgD s)]=some (.dt (T0 s),.u):=by
 show ((fM ((ai s.length).map Td)).bind fun ks=>if ks.length=((ai s.length).map fun t=>L3.D.int (tn s t)).length/\ks.Nodup then some ((.dt (ks.zip ((ai s.length).map fun t=>L3.D.int (tn s t))),.u):L3.D × Fl) else none)=_
 rw [iy]
 show (if ((ai s.length).map kT).length=((ai s.length).map fun t=>L3.D.int (tn s t)).length/\((ai s.length).map kT).Nodup then _ else _)=_
 rw [if_pos]
 ·rfl
 refine ⟨by simp,?_⟩
 unfold List.Nodup
 rw [List.pairwise_map]
 exact (i6 _).imp fun h e=>h (oA e)
theorem tw {xs:List L3.D} (d:∀ x ∈ xs,okx x=true) (f:xs.length<=16000) (N L:L3.D):dP [some (N,.z),some (.tup xs,.z),some (L,.u),none,none,none,none,none,none]=some (.ok (.val (.lst (xs.map fun x=>.bl (sgB x))) .u),[some (N,.z),some (.tup xs,.z),some (L,.u),none,none,none,none,none,none]):=by
 obtain ⟨τ',e,a,rfl⟩:=dn (bnd:=aj 0) (c:=cH) (elt:=bG) (fun τ=>∃ a,τ=[a]) (fun x:L3.D=>x) (fun _=>true) (fun x=>.bl (sgB x)) (xs:=xs) (τ:=[none]) ⟨none,rfl⟩ (by
  rintro k b τ ⟨a,rfl⟩
  have w:=sg_l (d k b)
  exact ⟨[some (k,.z)],_,rfl,rfl,(fun h=>by cases h),fun _=>⟨.val (.bl (sgB k)) .z,[some (k,.z)],(.bl (sgB k),.z),_,w,rfl,rfl,_,rfl⟩⟩)
 rw [Ay.mpr (fun _ _=>rfl),pi] at e
 exact bh (rs:=[.pl 1]) (ρ1:=[some (N,.z),some (.tup xs,.z),some (L,.u),none,none,none,none,none,none]) (ρ2:=[some (N,.z),some (.tup xs,.z),some (L,.u),none,none,none,none,none,none]) rfl e (by omega) rfl
theorem my {n h i j k:Nat} (h1:h < i) (h2:i < j) (h3:j < k) (a:k < n):((h,i,j),k) ∈ frs n (ai n) :=
 Az.mpr ⟨(h,i,j),ir h1 h2 (by omega),z7.mpr ⟨k - (j+1),List.mem_range.mpr (by show k - (j+1) < n - (j+1);omega),by show ((h,i,j),j+1+(k - (j+1)))=_;rw [show j+1+(k - (j+1))=k by omega]⟩⟩
theorem xO {s:Sg} (h:∀ h i j k,h < i->i < j->j < k->k < s.length->chg (trn s h i j) (trn s h i k) (trn s h j k) (trn s i j k)<=1):iW s=true:=by
 unfold iW
 rw [List.all_eq_true]
 intro f hf
 obtain ⟨h1,h2,h3,a⟩:=ph hf
 exact Ae (h _ _ _ _ h1 h2 h3 a)
theorem xP {s:Sg} {h i j k:Nat} (h1:h < i) (h2:i < j) (h3:j < k) (a:k < s.length) (b:¬ chg (trn s h i j) (trn s h i k) (trn s h j k) (trn s i j k)<=1):iW s=false:=by
 cases e:iW s with
 | false=>rfl
 | true=>exact absurd (of_decide_eq_true (List.all_eq_true.mp e _ (my h1 h2 h3 a))) b
theorem rO {s:Sg} (h:iW s=true) {a i j k:Nat} (h1:a < i) (h2:i < j) (h3:j < k) (b:k < s.length):chg (trn s a i j) (trn s a i k) (trn s a j k) (trn s i j k)<=1 :=
 of_decide_eq_true (List.all_eq_true.mp h _ (my h1 h2 h3 b))
abbrev stA (N:L3.D) (S R:List L3.D) (T:List (List Key × L3.D)) (v4 v5 v6 v7 v8:Option (L3.D × Fl)):Sto:=[some (N,.z),some (.tup S,.z),some (.lst R,.l),some (.dt T,.u),v4,v5,v6,v7,v8]
section
variable {s:Sg} {T:List (List Key × L3.D)} {N:L3.D} {S R:List L3.D}
theorem ze (l:pY s T) {h i j k:Nat} (h1:h < i) (h2:i < j) (h3:j < k) (m:k < s.length) {v8:Option (L3.D × Fl)}:∃ g,
  (chg (trn s h i j) (trn s h i k) (trn s h j k) (trn s i j k)<=1->aU (stA N S R T (some (.int i,.z)) (some (.int j,.z)) (some (.int k,.z)) (some (.int h,.z)) v8)=some (.ok .nx,stA N S R T (some (.int i,.z)) (some (.int j,.z)) (some (.int k,.z)) (some (.int h,.z)) g)) /\
  (¬ chg (trn s h i j) (trn s h i k) (trn s h j k) (trn s i j k)<=1->aU (stA N S R T (some (.int i,.z)) (some (.int j,.z)) (some (.int k,.z)) (some (.int h,.z)) v8)=some (.ok (.rt (.bl false) .z),stA N S R T (some (.int i,.z)) (some (.int j,.z)) (some (.int k,.z)) (some (.int h,.z)) g)):=by
 have t1:ao (.dt T) (.tup [.int h,.int i,.int j])=some (.int (trn s h i j),.z):=lT (l h i j h1 h2 (by omega))
 have x:ao (.dt T) (.tup [.int h,.int i,.int k])=some (.int (trn s h i k),.z):=lT (l h i k h1 (by omega) m)
 have t3:ao (.dt T) (.tup [.int h,.int j,.int k])=some (.int (trn s h j k),.z):=lT (l h j k (by omega) h3 m)
 have B:ao (.dt T) (.tup [.int i,.int j,.int k])=some (.int (trn s i j k),.z):=lT (l i j k h2 h3 m)
 generalize trn s h i j=a at *
 generalize trn s h i k=b at *
 generalize trn s h j k=c at *
 generalize trn s i j k=d at *
 obtain ⟨out,τ',e,⟨v,rfl⟩,A⟩:=l6 a b c d
 have e:bC (aj 0) dR dQ [.int 0,.int 1,.int 2] [none,some (R4 a b c d,.u)]=some (.ok out,[v,some (R4 a b c d,.u)]):=e
 have w:b8 [.int 3]=some [.int 0,.int 1,.int 2]:=rfl
 generalize L3.D.int (h:Int)=dh at *
 generalize L3.D.int (i:Int)=di at *
 generalize L3.D.int (j:Int)=dj at *
 generalize L3.D.int (k:Int)=dk at *
 have y:cx (stA N S R T (some (di,.z)) (some (dj,.z)) (some (dk,.z)) (some (dh,.z)) (some (R4 a b c d,.u)))=some (.ok (.val (.lst out) .u),stA N S R T (some (di,.z)) (some (dj,.z)) (some (dk,.z)) (some (dh,.z)) (some (R4 a b c d,.u))):=bh (rs:=[]) (by (repeat' (first | with_reducible apply dl (h3:=w) | infer_instance | eq_refl))) e (by decide) rfl
 have o:gtI (.int (out.length:Int)) (.int 1)=some (.bl (!decide (chg a b c d<=1)),.z):=by
  rw [<- A]
  simp [dG]
  by_cases q:out.length<=1
  ·simp [q];omega
  ·simp [q];omega
 have set:aB 8 (cq (aa (af ao (ab 3) (aF (aa (ab 7) (aa (ab 4) (aa (ab 5) ae))))) (aa (af ao (ab 3) (aF (aa (ab 7) (aa (ab 4) (aa (ab 6) ae))))) (aa (af ao (ab 3) (aF (aa (ab 7) (aa (ab 5) (aa (ab 6) ae))))) (aa (af ao (ab 3) (aF (aa (ab 4) (aa (ab 5) (aa (ab 6) ae))))) ae))))) (stA N S R T (some (di,.z)) (some (dj,.z)) (some (dk,.z)) (some (dh,.z)) v8)=some (.ok .nx,stA N S R T (some (di,.z)) (some (dj,.z)) (some (dk,.z)) (some (dh,.z)) (some (R4 a b c d,.u))):=by
  have t:af ao (ab 3) (aF (aa (ab 7) (aa (ab 4) (aa (ab 5) ae)))) (stA N S R T (some (di,.z)) (some (dj,.z)) (some (dk,.z)) (some (dh,.z)) v8)=some (.ok (.val (.int a) .z),stA N S R T (some (di,.z)) (some (dj,.z)) (some (dk,.z)) (some (dh,.z)) v8):=by (exists t1)
  have r:af ao (ab 3) (aF (aa (ab 7) (aa (ab 4) (aa (ab 6) ae)))) (stA N S R T (some (di,.z)) (some (dj,.z)) (some (dk,.z)) (some (dh,.z)) v8)=some (.ok (.val (.int b) .z),stA N S R T (some (di,.z)) (some (dj,.z)) (some (dk,.z)) (some (dh,.z)) v8):=by (exists x)
  have n:af ao (ab 3) (aF (aa (ab 7) (aa (ab 5) (aa (ab 6) ae)))) (stA N S R T (some (di,.z)) (some (dj,.z)) (some (dk,.z)) (some (dh,.z)) v8)=some (.ok (.val (.int c) .z),stA N S R T (some (di,.z)) (some (dj,.z)) (some (dk,.z)) (some (dh,.z)) v8):=by (exists t3)
  have p:af ao (ab 3) (aF (aa (ab 4) (aa (ab 5) (aa (ab 6) ae)))) (stA N S R T (some (di,.z)) (some (dj,.z)) (some (dk,.z)) (some (dh,.z)) v8)=some (.ok (.val (.int d) .z),stA N S R T (some (di,.z)) (some (dj,.z)) (some (dk,.z)) (some (dh,.z)) v8):=by (exists B)
  (repeat' (first | with_reducible exact t | with_reducible exact r | with_reducible exact n | with_reducible exact p | infer_instance | eq_refl))
 have f:cB (af gtI (aq cE (aa cx ae)) (mC (.int 1))) (stA N S R T (some (di,.z)) (some (dj,.z)) (some (dk,.z)) (some (dh,.z)) (some (R4 a b c d,.u)))=some (.ok (!decide (chg a b c d<=1)),stA N S R T (some (di,.z)) (some (dj,.z)) (some (dk,.z)) (some (dh,.z)) (some (R4 a b c d,.u))):=by
  (repeat' (first | with_reducible exact y | infer_instance | exact o | eq_refl))
 refine ⟨some (R4 a b c d,.u),fun q=>?_,fun q=>?_⟩
 ·rw [Ae q] at f
  unfold aU
  exact ag set (dS f rfl rfl)
 ·rw [Af q] at f
  unfold aU
  exact ag set (eL f rfl (cF i_c rfl))
theorem zd (t:pY s T) {i j k:Nat} (h2:i < j) (h3:j < k) (p:k < s.length) (u:s.length<=24) {v7 v8:Option (L3.D × Fl)}:∃ c a,
  (bg (stA N S R T (some (.int i,.z)) (some (.int j,.z)) (some (.int k,.z)) v7 v8)=some (.ok .nx,stA N S R T (some (.int i,.z)) (some (.int j,.z)) (some (.int k,.z)) c a)/\∀ h,h < i->chg (trn s h i j) (trn s h i k) (trn s h j k) (trn s i j k)<=1) \/
  (bg (stA N S R T (some (.int i,.z)) (some (.int j,.z)) (some (.int k,.z)) v7 v8)=some (.ok (.rt (.bl false) .z),stA N S R T (some (.int i,.z)) (some (.int j,.z)) (some (.int k,.z)) c a)/\∃ h,h < i/\¬ chg (trn s h i j) (trn s h i k) (trn s h j k) (trn s i j k)<=1):=by
 obtain ⟨ρ',n⟩:=gJ (bnd:=aj 7) (b:=aU) (fun m ρ=>∃ v7 v8,ρ=stA N S R T (some (.int i,.z)) (some (.int j,.z)) (some (.int k,.z)) v7 v8/\∀ h,h < m->chg (trn s h i j) (trn s h i k) (trn s h j k) (trn s i j k)<=1) (fun _ r f ρ=>r=.bl false/\f=.z/\(∃ h,h < i/\¬ chg (trn s h i j) (trn s h i k) (trn s h j k) (trn s i j k)<=1)/\∃ v7 v8,ρ=stA N S R T (some (.int i,.z)) (some (.int j,.z)) (some (.int k,.z)) v7 v8) (ds:=aV 0 i) (ρ:=stA N S R T (some (.int i,.z)) (some (.int j,.z)) (some (.int k,.z)) v7 v8) (k:=0) ⟨v7,v8,rfl,fun h n=>by omega⟩ (by
  rintro m d ρ hd ⟨v7,v8,rfl,hm⟩
  obtain ⟨g,rfl⟩:=cA hd
  rw [Ah] at hm ⊢
  obtain ⟨a,g1,g2⟩:=ze (N:=N) (S:=S) (R:=R) (v8:=v8) t (h:=m) g h2 h3 p
  refine ⟨stA N S R T (some (.int i,.z)) (some (.int j,.z)) (some (.int k,.z)) (some (.int m,.z)) v8,stA N S R T (some (.int i,.z)) (some (.int j,.z)) (some (.int k,.z)) (some (.int m,.z)) a,by rw [Int.zero_add];rfl,?_⟩
  by_cases q:chg (trn s m i j) (trn s m i k) (trn s m j k) (trn s i j k)<=1
  ·refine .inl ⟨.inl (g1 q),_,_,rfl,fun h n=>?_⟩
   by_cases e:h=m
   ·subst e;exact q
   ·exact hm h (by omega)
  ·exact .inr ⟨_,_,g2 q,rfl,rfl,⟨m,g,q⟩,_,_,rfl⟩)
 have o:b8 [.int (i:Int)]=some (aV 0 i):=cR (by omega) (by omega)
 have im:aY b8 (aa (ab 4) ae) (stA N S R T (some (.int i,.z)) (some (.int j,.z)) (some (.int k,.z)) v7 v8)=some (.ok ([],aV 0 i),stA N S R T (some (.int i,.z)) (some (.int j,.z)) (some (.int k,.z)) v7 v8):=by (repeat' (first | with_reducible apply dl (h3:=o) | infer_instance | eq_refl))
 rcases n with ⟨e,c,a,rfl,hm⟩ | ⟨_,r,f,_,e,rfl,rfl,l,c,a,rfl⟩
 ·rw [bx,Ah] at hm
  exact ⟨c,a,.inl ⟨eM im rfl e,hm⟩⟩
 ·exact ⟨c,a,.inr ⟨eM im rfl e,l⟩⟩
theorem lZ (J:s.length<=24) (y:∀ t ∈ ai s.length,tn s t=1\/tn s t = -1):aA [(.int (s.length:Int),.z),(.tup (SgD s),.z)]=some (.ok (.bl (iW s),.z),[(.int (s.length:Int),.z),(.tup (SgD s),.z)]):=by
 have th:=eV s.length (by omega)
 have sm:=bU (n:=s.length) (by omega)
 have M:=dz_is s
 have K:=nz s
 generalize T0 s=T at *
 obtain ⟨Q,L⟩:=um y
 have c1:=tw (xs:=SgD s) (fun x H=>by
  obtain ⟨t,a,rfl⟩:=z7.mp H
  rcases y t a with h | h <;> rw [h] <;> decide) (by simp;omega) (.int (s.length:Int)) (.lst ((ai s.length).map Td))
 have E:=jO sgB (SgD s)
 rw [L] at E
 have hlen:neX (.int ((SgD s).length:Int)) (.int (((ai s.length).map Td).length:Int))=some (.bl false,.z):=by
  rw [lb];simp
 obtain ⟨ρ',v⟩:=gJ (bnd:=jY 3 (bD (aj 4) (bD (aj 5) (bD (aj 6) jZ)))) (b:=bg) (fun m ρ=>∃ v4 v5 v6 v7 v8,ρ=stA (.int (s.length:Int)) (SgD s) ((ai s.length).map Td) T v4 v5 v6 v7 v8/\∀ t ∈ (ai s.length).take m,∀ h,h < t.1->chg (trn s h t.1 t.2.1) (trn s h t.1 t.2.2) (trn s h t.2.1 t.2.2) (trn s t.1 t.2.1 t.2.2)<=1) (fun _ r f ρ=>r=.bl false/\f=.z/\iW s=false/\∃ v4 v5 v6 v7 v8,ρ=stA (.int (s.length:Int)) (SgD s) ((ai s.length).map Td) T v4 v5 v6 v7 v8) (ds:=(ai s.length).map Td) (ρ:=stA (.int (s.length:Int)) (SgD s) ((ai s.length).map Td) T none none none none none) (k:=0) ⟨none,none,none,none,none,rfl,fun t a=>absurd (List.take_zero (l:=ai s.length) ▸ a) List.not_mem_nil⟩ (by
  rintro m d ρ hd ⟨v4,v5,v6,v7,v8,rfl,hm⟩
  rw [z8,zR] at hd
  obtain ⟨⟨i,j,k⟩,a,rfl⟩:=hd
  obtain ⟨B,C,A⟩:=dN (z5 a)
  rw [Ah] at hm ⊢
  obtain ⟨p,w,F⟩:=zd (N:=.int (s.length:Int)) (S:=SgD s) (R:=(ai s.length).map Td) (v7:=v7) (v8:=v8) K (i:=i) (j:=j) (k:=k) B C A J
  generalize SgD s=S at *
  refine ⟨stA (.int (s.length:Int)) S ((ai s.length).map Td) T (some (.int i,.z)) (some (.int j,.z)) (some (.int k,.z)) v7 v8,stA (.int (s.length:Int)) S ((ai s.length).map Td) T (some (.int i,.z)) (some (.int j,.z)) (some (.int k,.z)) p w,rfl,?_⟩
  rcases F with ⟨e,q⟩ | ⟨e,h,v,q⟩
  ·refine .inl ⟨.inl e,_,_,_,_,_,rfl,fun t g=>?_⟩
   rw [List.take_add_one,a] at g
   rcases zX.mp g with h | h
   ·exact hm t h
   ·rw [Option.toList_some,Ao] at h
    subst h
    exact q
  ·exact .inr ⟨_,_,e,rfl,rfl,xP v B C A q,_,_,_,_,_,rfl⟩)
 have head:∀ {o:Except L3.D Flw} {ρ2:Sto},(au (cw (cu (ab 2)) (jY 3 (bD (aj 4) (bD (aj 5) (bD (aj 6) jZ)))) bg) (bj 2 (mC (.bl true)))) [some (.int (s.length:Int),.z),some (.tup (SgD s),.z),some (.lst ((ai s.length).map Td),.u),some (.dt T,.u),none,none,none,none,none]=some (o,ρ2)->bu [some (.int (s.length:Int),.z),some (.tup (SgD s),.z),none,none,none,none,none,none,none]=some (o,ρ2):=fun {o ρ2} O=>by
  unfold bu
  generalize SgD s=S at *
  generalize (ai s.length).map Td=R at *
  generalize L3.D.int (s.length:Int)=N at *
  apply ag (ρ1:=[some (N,.z),some (.tup S,.z),some (.lst R,.u),none,none,none,none,none,none])
  ·nomatch [th]
  apply ag (ρ1:=[some (N,.z),some (.tup S,.z),some (.lst R,.u),none,none,none,none,none,none])
  ·apply dS
   ·apply gx (b:=false)
    ·apply bX (b:=true)
     nofun
    ·rfl
    ·exists hlen
   ·rfl
   ·rfl
  apply ag (ρ1:=[some (N,.z),some (.tup S,.z),some (.lst R,.u),none,none,none,none,none,none])
  ·apply dS
   ·apply bX (b:=true)
    (repeat' (first | with_reducible exact c1 | infer_instance | exact E | eq_refl))
   ·rfl
   ·rfl
  apply ag (ρ1:=[some (N,.z),some (.tup S,.z),some (.lst R,.u),some (.dt T,.u),none,none,none,none,none])
  ·exists M
  exact O
 generalize G:(ai s.length).map Td=R at *
 generalize P:SgD s=S at *
 rcases v with ⟨e,v4,v5,v6,v7,v8,rfl,hm⟩ | ⟨_,r,f,_,e,rfl,rfl,c,v4,v5,v6,v7,v8,rfl⟩
 ·have hok:iW s=true:=xO fun h i j k h1 h2 h3 I=>by
   rw [<- G,zZ,Ah,List.take_length] at hm
   exact hm (i,j,k) (ir h2 h3 I) h h1
  rw [hok]
  ·apply aT (ρ:=[some (.int (s.length:Int),.z),some (.tup S,.z),none,none,none,none,none,none,none]) (ρ1:=[some (.int (s.length:Int),.z),some (.tup S,.z),some (.lst R,.u),some (.dt T,.u),v4,v5,v6,v7,v8]) rfl rfl
   ·refine head ?_
    apply ag
    ·exact oD (is:=[2]) (ρ1:=[some (.int (s.length:Int),.z),some (.tup S,.z),some (.lst R,.u),some (.dt T,.u),none,none,none,none,none]) (jg (aD rfl) rfl rfl) rfl e
    ·exact cF i_c rfl
   ·rfl
 ·rw [c]
  apply aT (ρ:=[some (.int (s.length:Int),.z),some (.tup S,.z),none,none,none,none,none,none,none]) (ρ1:=[some (.int (s.length:Int),.z),some (.tup S,.z),some (.lst R,.u),some (.dt T,.u),v4,v5,v6,v7,v8]) rfl rfl
  ·refine head ?_
   apply d7
   exact oD (is:=[2]) (ρ1:=[some (.int (s.length:Int),.z),some (.tup S,.z),some (.lst R,.u),some (.dt T,.u),none,none,none,none,none]) (jg (aD rfl) rfl rfl) rfl e
  ·rfl
end
theorem uW {s:Sg} (h0:0 < s.length) (d:s.length<=24) (c:∀ i j k,i < j->j < k->k < s.length->s.f i j k=1\/s.f i j k = -1):∃ b:Bool,aA [(.int (s.length:Int),.z),(.tup (SgD s),.z)]=some (.ok (.bl b,.z),[(.int (s.length:Int),.z),(.tup (SgD s),.z)])/\(b=true->OkS s) :=
 ⟨iW s,lZ d (fun t g=>by obtain ⟨h1,h2,h3⟩:=dN g;exact c _ _ _ h1 h2 h3),fun h=>⟨h0,d,c,fun a i j k h1 h2 h3 e=>rO h h1 h2 h3 e⟩⟩
theorem lr (xs:List L3.D) (a:Nat):slD (.tup xs) none (some (a:Int))=some (.tup (xs.take a),.z):=by
 have e:fJ xs none (some (a:Int))=xs.take a:=by
  unfold fJ
  rw [HT.sIx_none,HT.sIx_nat,List.drop_zero,Nat.sub_zero]
  by_cases h:a<=xs.length
  ·rw [Nat.min_eq_left h]
  ·rw [Nat.min_eq_right (by omega),List.take_length,Ax (by omega)]
 show some ((.tup (fJ xs none (some (a:Int))),.z):L3.D × Fl)=_
 rw [e]
theorem kC (xs:List L3.D) (a:Nat):slD (.tup xs) (some (a:Int)) none=some (.tup (xs.drop a),.z):=by
 have e:fJ xs (some (a:Int)) none=xs.drop a:=by
  unfold fJ
  rw [HT.sIx_none,HT.sIx_nat]
  by_cases h:a<=xs.length
  ·rw [Nat.min_eq_left h,Ax (by rw [List.length_drop];omega)]
  ·rw [Nat.min_eq_right (by omega),List.drop_length,List.drop_of_length_le (by omega),List.take_nil]
 show some ((.tup (fJ xs (some (a:Int)) none),.z):L3.D × Fl)=_
 rw [e]
theorem mW (xs:List L3.D) (a:Nat):slD (.tup xs) (some (a:Int)) (some ((a:Int)+1))=some (.tup ((xs.drop a).take 1),.z):=by
 have e:fJ xs (some (a:Int)) (some ((a:Int)+1))=(xs.drop a).take 1:=by
  unfold fJ
  rw [show ((a:Int)+1)=((a+1:Nat):Int) by omega,HT.sIx_nat,HT.sIx_nat]
  by_cases h:a+1<=xs.length
  ·rw [show min a xs.length=a by omega,show min (a+1) xs.length=a+1 by omega,show a+1 - a=1 by omega]
  ·rw [show min a xs.length=xs.length by omega,List.drop_length,List.drop_of_length_le (by omega),List.take_nil,List.take_nil]
 show some ((.tup (fJ xs (some (a:Int)) (some ((a:Int)+1))),.z):L3.D × Fl)=_
 rw [e]
abbrev stO (n many:Int) (ps:List Pt) (v3 v4:Option (L3.D × Fl)):Sto:=[some (.lst [.int n],.u),some (.int many,.z),some (Shd ps,.z),v3,v4]
theorem qc {n many x y0:Int} {ps:List Pt} (R:Rising ps) (h:∀ p ∈ ps,Small p) (o:ps.length<=12) :
  ∃ y,c7 bp bS (stO n many ps (some (.int x,.z)) (some (.int y0,.z)))=some (.ok .nx,stO n many ps (some (.int x,.z)) (some (.int y,.z)))/\y0<=y/\y<=y0+144:=by
 have g:=kI ps x y0 o
 obtain ⟨ρ',e,y,rfl,h1,h2⟩:=ie (c:=bp) (b:=bS) (fun m ρ=>∃ y:Int,ρ=stO n many ps (some (.int x,.z)) (some (.int y,.z))/\m=above ps x y/\y0<=y/\y+(above ps x y:Int)<=y0+(above ps x y0:Int))
  (fun ρ=>∃ y:Int,ρ=stO n many ps (some (.int x,.z)) (some (.int y,.z))/\y0<=y/\y<=y0+144) (ρ:=stO n many ps (some (.int x,.z)) (some (.int y0,.z))) ⟨y0,rfl,rfl,Int.le_refl _,Int.le_refl _⟩ (by
   rintro m ρ ⟨y,rfl,rfl,h1,h2⟩
   obtain ⟨b,k,r,hf⟩:=qj ps (x,y) h (by omega)
   have f:bp (stO n many ps (some (.int x,.z)) (some (.int y,.z)))=some (.ok (!b),stO n many ps (some (.int x,.z)) (some (.int y,.z))):=by
    unfold bp
    nomatch [k]
   cases b with
   | true=>exact .inl ⟨_,f,y,rfl,h1,by omega⟩
   | false =>
    obtain ⟨i,j,p,q,d,e1,l,h0⟩:=hf rfl
    have a:=nv R d e1 l h0
    exact .inr ⟨_,stO n many ps (some (.int x,.z)) (some (.int (y+1),.z)),_,f,.inl (by unfold bS;(nofun)),a,y+1,rfl,rfl,by omega,by omega⟩)
 exact ⟨y,e,h1,h2⟩
structure Rsm (ps:List Pt):Prop where
 pos:0 < ps.length
 most:ps.length<=12
 rise:Rising ps
 lo:∀ q ∈ ps,-(2 ^ 50) < q.1/\q.1 < 2 ^ 50+(ps.length:Int)
 hi:∀ q ∈ ps,-(2 ^ 61) < q.2/\q.2 < 2 ^ 61
theorem Rsm.small {ps:List Pt} (r:Rsm ps):∀ q ∈ ps,Small q:=fun q a=>by
 have:=r.lo q a
 have:=r.hi q a
 have:=r.most
 refine ⟨by omega,by omega,by omega,by omega⟩
theorem uK {n many:Int} {qs:List Pt} {z:Pt} (r:Rsm (qs ++ [z])) (e:(qs ++ [z]).length < 12) {v3 v4:Option (L3.D × Fl)}:∃ l y c d,bR (stO n many (qs ++ [z]) v3 v4)=some (.ok .nx,stO l many (qs ++ [z] ++ [(z.1+1,y)]) c d)/\Rsm (qs ++ [z] ++ [(z.1+1,y)]):=by
 have o:=bI n 30 (by decide)
 have t:=bM n 30 (by decide)
 obtain ⟨y,j,h1,h2⟩:=qc (n:=n / 30) (many:=many) (x:=z.1+1) (y0:=n % 30) r.rise r.small (by omega)
 have hz:z ∈ qs ++ [z]:=by simp
 have f:ao (Shd (qs ++ [z])) (.int (-1))=some (Pd z,.z):=by
  refine ik ?_
  rw [List.map_append]
  exact uc _ _
 have g:ao (Pd z) (.int 0)=some (.int z.1,.z):=rfl
 have ct:aQ (Shd (qs ++ [z])) (.tup [Pd (z.1+1,y)])=some (Shd (qs ++ [z] ++ [(z.1+1,y)]),.z):=by
  have:=eE (A:=(qs ++ [z]).map Pd) (B:=[Pd (z.1+1,y)]) (by simp at e ⊢;omega)
  rw [this];simp [Shd]
 have up:∀ q ∈ qs ++ [z],q.1<=z.1:=fun q b=>by
  rcases zX.mp b with h | h
  ·obtain ⟨i,hi⟩:=List.getElem?_of_mem h
   have a:i < qs.length:=(z4.mp hi).1
   have:=r.rise i qs.length q z a (by rw [As a];exact hi) (by simp)
   omega
  ·rw [Ao.mp h];exact Int.le_refl _
 refine ⟨n / 30,y,some (.int (z.1+1),.z),some (.int y,.z),?_,?_⟩
 ·unfold bR
  generalize qs ++ [z]=ps at *
  apply ag (ρ1:=stO n many ps (some (.int (z.1+1),.z)) v4)
  ·exists f,g
  apply ag (ρ1:=stO (n / 30) many ps (some (.int (z.1+1),.z)) (some (.int (n % 30),.z)))
  ·nomatch [t]
  apply ag
  ·exact j
  ·exact mO (dm (aD rfl) (oE (aO (oE (aO (aD rfl) (aO (aD rfl) bK)) rfl (show 2<=16777216 by decide)) bK) rfl (show 1<=16777216 by decide)) rfl rfl ct) rfl (show 2 < 5 by decide) rfl
 ·have m:=r.lo z hz
  refine ⟨by simp,by simp at e ⊢;omega,r.rise.snoc fun p k=>by have:=up p k;show p.1 < z.1+1;omega,fun q b=>?_,fun q b=>?_⟩
  ·rcases zX.mp b with h | h
   ·have:=r.lo q h
    rw [Aj]
    simp only [Ak,List.length_nil]
    omega
   ·rw [Ao.mp h,Aj]
    simp only [Ak,List.length_nil]
    omega
  ·rcases zX.mp b with h | h
   ·exact r.hi q h
   ·rw [Ao.mp h]
    show -(2 ^ 61) < y/\y < 2 ^ 61
    omega
theorem uS (n:Int) (many:Nat) (h1:1<=many) (h2:many<=8):∃ (l:Int) (ps:List Pt),cY [(.lst [.int n],.u),(.int (many:Int),.z)]=some (.ok (Shd ps,.z),[(.lst [.int l],.u),(.int (many:Int),.z)])/\ps.length=many/\Rising ps/\∀ q ∈ ps,Small q:=by
 obtain ⟨s,ps,e1,g,D,w⟩:=qh n 9 (by decide) (by decide)
 have r:Rsm ps:=⟨g.pos,by omega,g.rising,fun q a=>by have:=w q a;have:=g.pos;omega,fun q a=>(w q a).1⟩
 obtain ⟨ρ',B,x,d,v3,v4,rfl,v,C⟩:=ie (c:=bQ) (b:=bR) (fun m ρ=>∃ n ps v3 v4,ρ=stO n (many:Int) ps v3 v4/\Rsm ps/\m=many - ps.length)
  (fun ρ=>∃ n ps v3 v4,ρ=stO n (many:Int) ps v3 v4/\Rsm ps/\many<=ps.length) (ρ:=stO s (many:Int) ps none none) (n:=many - ps.length) ⟨s,ps,none,none,rfl,r,rfl⟩ (by
   rintro m ρ ⟨n,ps,v3,v4,rfl,r,rfl⟩
   have hlen:cE [Shd ps]=some (.int (ps.length:Nat),.z):=by simp [iX,c1]
   have te:bQ (stO n (many:Int) ps v3 v4)=some (.ok (decide ((ps.length:Int) < (many:Int))),stO n (many:Int) ps v3 v4):=by
    unfold bQ
    exists hlen
   by_cases h:ps.length < many
   ·rw [Ae (by omega)] at te
    obtain ⟨qs,z,rfl⟩:∃ qs z,ps=qs ++ [z]:=⟨ps.dropLast,ps.getLast (fun e=>by have:=r.pos;rw [e] at this;cases this),(List.dropLast_concat_getLast _).symm⟩
    obtain ⟨l,y,k,o,e,A⟩:=uK (n:=n) (many:=(many:Int)) (v3:=v3) (v4:=v4) r (by omega)
    exact .inr ⟨_,_,many - (qs ++ [z] ++ [(z.1+1,y)]).length,te,.inl e,by simp only [Aj,Ak,List.length_nil] at *;omega,l,_,k,o,rfl,A,rfl⟩
   ·rw [Af (by omega)] at te
    exact .inl ⟨_,te,n,ps,v3,v4,rfl,r,by omega⟩)
 have ct:=lr (d.map Pd) many
 rw [<- List.map_take] at ct
 have lt:(d.take many).length=many:=by rw [Al];omega
 refine ⟨x,d.take many,?_,lt,?_,fun q a=>v.small q (List.mem_of_mem_take a)⟩
 ·apply aT (ρ:=[some (.lst [.int n],.u),some (.int (many:Int),.z),none,none,none]) rfl rfl
  ·unfold gv
   apply ag (ρ1:=stO s (many:Int) ps none none)
   ·nomatch [e1]
   apply ag
   ·exact B
   ·exists ct
  ·rfl
 ·intro i j p q t f a
  rw [List.getElem?_take] at f a
  split at f
  ·split at a
   ·exact v.rise i j p q t f a
   ·cases a
  ·cases f
def hJ (s:Sg) (a:Nat):Sg:=⟨s.length,fun i j k=>if (ai s.length)[a]?=some (i,j,k) then 0 - s.f i j k else s.f i j k⟩
theorem qL (s:Sg) (a:Nat):(SgD s).take a ++ (((ai s.length).drop a).take 1).map (fun t=>L3.D.int (0 - tn s t)) ++ (SgD s).drop (a+1)=SgD (hJ s a):=by
 have key:∀ t,tn (hJ s a) t=if (ai s.length)[a]?=some t then 0 - tn s t else tn s t:=fun t=>rfl
 show _=(ai s.length).map fun t=>L3.D.int (tn (hJ s a) t)
 show ((ai s.length).map fun t=>L3.D.int (tn s t)).take a ++ _ ++ ((ai s.length).map fun t=>L3.D.int (tn s t)).drop (a+1)=_
 rw [<- List.map_take,<- List.map_drop]
 have nd:=i6 s.length
 by_cases h:a < (ai s.length).length
 ·have b:(ai s.length)[a]?=some (ai s.length)[a]:=zV h
  generalize (ai s.length)[a]=t at b
  have f:ai s.length=(ai s.length).take a ++ t :: (ai s.length).drop (a+1):=by
   have e1:=List.take_append_drop a (ai s.length)
   rw [List.drop_eq_getElem_cons h] at e1
   have i:(ai s.length)[a]=t:=by
    have:=zV h
    rw [b] at this
    exact (AC this).symm
   rw [i] at e1
   exact e1.symm
  have hd:((ai s.length).drop a).take 1=[t]:=by
   rw [List.drop_eq_getElem_cons h]
   have:=zV h
   rw [b] at this
   rw [AC this];rfl
  rw [hd]
  rw [b] at key
  generalize (ai s.length).take a=A at *
  generalize (ai s.length).drop (a+1)=B at *
  rw [f] at nd ⊢
  obtain ⟨_,c,g⟩:=List.nodup_append.mp nd
  have c:=(List.nodup_cons.mp c).1
  have kt:tn (hJ s a) t=0 - tn s t:=by rw [key,if_pos rfl]
  have j:A.map (fun t=>L3.D.int (tn s t))=A.map fun t=>L3.D.int (tn (hJ s a) t):=AB fun u hu=>by
   rw [key,if_neg (fun e=>?_)]
   have:=AC e
   subst this
   exact g _ hu _ zO rfl
  have d:B.map (fun t=>L3.D.int (tn s t))=B.map fun t=>L3.D.int (tn (hJ s a) t):=AB fun u hu=>by
   rw [key,if_neg (fun e=>?_)]
   have:=AC e
   subst this
   exact c hu
  rw [j,d,List.map_append,List.append_assoc]
  show _ ++ (L3.D.int (0 - tn s t) :: _)=_ ++ (L3.D.int (tn (hJ s a) t) :: _)
  rw [kt];rfl
 ·rw [List.getElem?_eq_none (by omega)] at key
  rw [Ax (by omega),List.drop_of_length_le (by omega:(ai s.length).length<=a),List.drop_of_length_le (by omega)]
  simp only [List.take_nil,List.map_nil,List.append_nil]
  refine AB fun u hu=>?_
  rw [key,if_neg (by simp)]
theorem tM {s:Sg} (g:OkS s) (a:Nat):∀ i j k,i < j->j < k->k < (hJ s a).length->(hJ s a).f i j k=1\/(hJ s a).f i j k = -1:=fun i j k h1 h2 h3=>by
 have:=g.sgn i j k h1 h2 h3
 show (if (ai s.length)[a]?=some (i,j,k) then 0 - s.f i j k else s.f i j k)=1\/(if (ai s.length)[a]?=some (i,j,k) then 0 - s.f i j k else s.f i j k) = -1
 by_cases q:(ai s.length)[a]?=some (i,j,k)
 ·rw [if_pos q];omega
 ·rw [if_neg q];omega
abbrev stG (n:Int) (N:L3.D) (S:List L3.D) (v3 v4 v5:Option (L3.D × Fl)):Sto:=[some (.lst [.int n],.u),some (N,.z),some (.tup S,.z),v3,v4,v5]
theorem tR {s:Sg} (g:OkS s) {n:Int} {v3 v4 v5:Option (L3.D × Fl)}:∃ (s':Sg) (x:Int) (l d:Option (L3.D × Fl)),bm (stG n (.int (s.length:Int)) (SgD s) v3 v4 v5)=some (.ok .nx,stG x (.int (s.length:Int)) (SgD s') v3 l d)/\OkS s'/\s'.length=s.length:=by
 have sm:=bU (n:=s.length) (by have:=g.most;omega)
 have L:((SgD s).length:Int)=((ai s.length).length:Int):=by simp
 have hlen:cE [.tup (SgD s)]=some (.int ((SgD s).length:Int),.z):=by simp [iX,c1]
 have t:=bM n (((SgD s).length:Int)+1) (by omega)
 have Q:=bI n (((SgD s).length:Int)+1) (by omega)
 obtain ⟨a,o⟩:∃ a:Nat,n % (((SgD s).length:Int)+1)=(a:Int):=⟨(n % (((SgD s).length:Int)+1)).toNat,by omega⟩
 rw [o] at t
 have c1:=lr (SgD s) a
 have c2:=mW (SgD s) a
 have m:=kC (SgD s) (a+1)
 rw [show ((a+1:Nat):Int)=(a:Int)+1 by omega] at m
 have fl:=qL s a
 have G:((SgD s).drop a).take 1=(((ai s.length).drop a).take 1).map fun t=>L3.D.int (tn s t):=by
  show (((ai s.length).map fun t=>L3.D.int (tn s t)).drop a).take 1=_
  rw [<- List.map_drop,<- List.map_take]
 rw [G] at c2
 obtain ⟨τ',e,w,rfl⟩:=dn (bnd:=aj 0) (c:=cH) (elt:=bW) (fun τ=>∃ a,τ=[a]) (fun t:Tri=>L3.D.int (tn s t)) (fun _=>true) (fun t=>.int (0 - tn s t)) (xs:=((ai s.length).drop a).take 1) (τ:=[none]) ⟨none,rfl⟩ (by
  rintro t P τ ⟨a,rfl⟩
  exact ⟨[some (.int (tn s t),.z)],_,rfl,rfl,(fun h=>by cases h),fun _=>⟨.val (.int (0 - tn s t)) .z,[some (.int (tn s t),.z)],(.int (0 - tn s t),.z),[some (.int (tn s t),.z)],by unfold bW;(nofun),rfl,rfl,_,rfl⟩⟩)
 rw [Ay.mpr (fun _ _=>rfl)] at e
 obtain ⟨b,k,r⟩:=uW (s:=hJ s a) g.pos g.most (tM g a)
 have I:(hJ s a).length=s.length:=rfl
 rw [I] at k
 have q:((SgD s).take a).length+((((ai s.length).drop a).take 1).map fun t=>L3.D.int (0 - tn s t)).length<=16777216:=by
  simp only [Al,zZ,List.length_drop];omega
 have H:((SgD s).take a ++ (((ai s.length).drop a).take 1).map fun t=>L3.D.int (0 - tn s t)).length+((SgD s).drop (a+1)).length<=16777216:=by
  simp only [Aj,Al,zZ,List.length_drop];omega
 have v:=eE q
 have k2:=eE H
 rw [fl] at k2
 have y:(((ai s.length).drop a).take 1).length < 16777216:=by rw [Al];omega
 generalize j:(((ai s.length).drop a).take 1).map (fun t=>L3.D.int (tn s t))=M1 at *
 generalize F:(((ai s.length).drop a).take 1).map (fun t=>L3.D.int (0 - tn s t))=M2 at *
 generalize f:SgD (hJ s a)=S2 at *
 have i:M1.length < 16777216:=by rw [<- j,zZ];exact y
 refine ⟨if b=true then hJ s a else s,n / (((SgD s).length:Int)+1),some (.int (a:Int),.z),some (.tup S2,.z),?_,?_,?_⟩
 ·generalize E:SgD s=S at *
  generalize M:S.take a=A at *
  generalize K:S.drop (a+1)=B at *
  generalize O:A ++ M2=C at *
  generalize L3.D.int (s.length:Int)=N at *
  have J:c9 (stG (n / ((S.length:Int)+1)) N S v3 (some (.int (a:Int),.z)) v5)=some (.ok (.val (.lst M2) .u),stG (n / ((S.length:Int)+1)) N S v3 (some (.int (a:Int),.z)) v5):=bh (im:=cu (mSl slD (ab 2) (cN (ab 4)) (cN (af aQ (ab 4) (mC (.int 1)))))) (ix:=[none]) (rs:=[.val (.tup M1) .z]) (by (exists c2)) e i rfl
  have tp:jQ [.lst M2]=some (.tup M2,.z):=rfl
  unfold bm
  apply ag (ρ1:=stG (n / ((S.length:Int)+1)) N S v3 (some (.int (a:Int),.z)) v5)
  ·nomatch [t],[hlen]
  apply ag (ρ1:=stG (n / ((S.length:Int)+1)) N S v3 (some (.int (a:Int),.z)) (some (.tup S2,.z)))
  ·(repeat' (first | with_reducible exact J | infer_instance | exact c1 | exact m | exact v | exact k2 | exact tp | eq_refl))
  ·cases b with
   | true =>
    apply eL (b:=true)
    ·nomatch [k]
    ·rfl
    ·rw [if_pos rfl,f]
     exact mO (p:=(.tup S2,.z)) (aD rfl) rfl (show 2 < 6 by decide) rfl
   | false =>
    apply dS (b:=false)
    ·nomatch [k]
    ·rfl
    ·rw [if_neg (by decide),E]
     rfl
 ·cases b with
  | true=>exact r rfl
  | false=>exact g
 ·cases b <;> rfl
theorem rN {ps:List Pt} (h0:0 < ps.length) (b:ps.length<=24) (R:Rising ps):OkS ⟨ps.length,fun i j k=>cL (dM ps i) (dM ps j) (dM ps k)⟩ where
 pos:=h0
 most:=b
 sgn:=fun i j k _ _ _=>by
  show cL _ _ _=1\/cL _ _ _ = -1
  unfold cL
  split
  ·exact .inl rfl
  ·exact .inr rfl
 chg1:=fun h i j k h1 h2 h3 a=>by
  have a:k < ps.length:=a
  exact zx (R h i _ _ h1 (ce (by omega)) (ce (by omega))) (R i j _ _ h2 (ce (by omega)) (ce (by omega))) (R j k _ _ h3 (ce (by omega)) (ce (by omega)))
theorem ql (n:Int) (many:Nat) (h1:1<=many) (h2:many<=8):∃ (c:Int) (s:Sg),bT [(.lst [.int n],.u),(.int (many:Int),.z)]=some (.ok (.tup (SgD s),.z),[(.lst [.int c],.u),(.int (many:Int),.z)])/\OkS s/\s.length=many:=by
 obtain ⟨a,ps,e1,v,R,sm⟩:=uS n many h1 h2
 have f:=qg ps (by omega) sm
 have o:=rN (ps:=ps) (by omega) (by omega) R
 have f:dZ [(Shd ps,.z)]=some (.ok (.tup (SgD ⟨ps.length,fun i j k=>cL (dM ps i) (dM ps j) (dM ps k)⟩),.z),[(Shd ps,.z)]):=f
 have p:(⟨ps.length,fun i j k=>cL (dM ps i) (dM ps j) (dM ps k)⟩:Sg).length=many:=v
 generalize (⟨ps.length,fun i j k=>cL (dM ps i) (dM ps j) (dM ps k)⟩:Sg)=s0 at *
 have t:=bM a 4 (by decide)
 have x:=bI a 4 (by decide)
 obtain ⟨m,hm⟩:∃ m:Nat,a % 4=(m:Int):=⟨(a % 4).toNat,by omega⟩
 rw [hm] at t
 obtain ⟨ρ',e,l,s,v3,v4,v5,rfl,g,gl⟩:=bO (bnd:=aj 3) (b:=bm) (fun _ ρ=>∃ n s v3 v4 v5,ρ=stG n (.int (many:Int)) (SgD s) v3 v4 v5/\OkS s/\s.length=many) (ds:=aV 0 m) (ρ:=stG (a / 4) (.int (many:Int)) (SgD s0) none none none) (k:=0) ⟨_,_,_,_,_,rfl,o,p⟩ (by
  rintro i d ρ hd ⟨n,s,v3,v4,v5,rfl,g,gl⟩
  obtain ⟨s',c,w,r,e,g',h⟩:=tR g (n:=n) (v3:=some (d,.z)) (v4:=v4) (v5:=v5)
  rw [gl] at e
  exact ⟨_,_,rfl,.inl e,c,s',_,_,_,rfl,g',h.trans gl⟩)
 have q:b8 [.int (m:Int)]=some (aV 0 m):=cR (by omega) (by omega)
 refine ⟨l,s,?_,g,gl⟩
 generalize SgD s0=S0 at *
 generalize SgD s=S1 at *
 apply aT (ρ:=[some (.lst [.int n],.u),some (.int (many:Int),.z),none,none,none,none]) rfl rfl
 ·unfold eJ
  apply ag (ρ1:=stG a (.int (many:Int)) S0 none none none)
  ·nomatch [e1,f]
  apply ag (ρ1:=stG l (.int (many:Int)) S1 v3 v4 v5)
  ·apply eM (ρ1:=stG (a / 4) (.int (many:Int)) S0 none none none)
   ·(repeat' (first | with_reducible apply dl (h3:=q) | infer_instance | with_reducible apply ak (t) | eq_refl))
   ·rfl
   ·exact e
  ·nofun
 ·rfl
theorem mh {m:Nat}:∀ {ts:List Str},(∀ t ∈ ts,t.length<=m)->piled ts<=ts.length * (m+2)
 | [],_=>by simp [piled]
 | t :: ts,h=>by
  have h1:=h t zO
  have h2:=mh (ts:=ts) fun u hu=>h u (zP _ hu)
  rw [piled_cons,Ak,Nat.succ_mul]
  omega
theorem nF {m:Nat} {ts:List Str} (h:∀ t ∈ ts,t.length<=m):(tupleText ts).length<=ts.length * (m+2)+3:=by
 have b:=mh h
 have c:(Str.join ", " ts).length<=ts.length * (m+2):=by
  by_cases e:ts=[]
  ·subst e;exact Nat.zero_le _
  ·have:=join_length_add ts e
   omega
 unfold tupleText
 rw [strLen_append,strLen_append]
 have e1:(("(":String):Str).length=1:=rfl
 have a:((if ts.length == 1 then ",)" else ")":String):Str).length<=2:=by
  cases ts.length == 1 <;> decide
 omega
theorem iG {m:Nat}:∀ {ts:List Str} {k:Nat} {acc:Str},(∀ t ∈ ts,t.length<=m)->(textFrom k acc ts).length<=acc.length+ts.length * (m+2)
 | [],_,_,_=>by simp [textFrom]
 | t :: ts,k,acc,h=>by
  have h1:=h t zO
  have h2:=iG (ts:=ts) (k:=k+1) (acc:=acc ++ (if k > 0 then ", " else "":String) ++ t) fun u hu=>h u (zP _ hu)
  have b:((if k > 0 then ", " else "":String):Str).length<=2:=by
   by_cases a:k > 0
   ·rw [if_pos a] <;> decide
   ·rw [if_neg a] <;> decide
  rw [strLen_append,strLen_append] at h2
  rw [Ak,Nat.succ_mul]
  show (textFrom (k+1) _ ts).length<=_
  omega
mutual
theorem sA:∀ (d:L3.D) (p:PyData),pyD d=some p->p.hasDict=false
 | .non,p,e=>by unfold pyD at e;cases e;rfl
 | .bl _,p,e=>by unfold pyD at e;cases e;rfl
 | .int _,p,e=>by unfold pyD at e;cases e;rfl
 | .str _,p,e=>by unfold pyD at e;cases e;rfl
 | .tup xs,p,e=>by
  unfold pyD at e
  obtain ⟨ps,e1,rfl⟩:=zR.mp e
  simpa [PyData.hasDict] using jd xs ps e1
 | .lst xs,p,e=>by
  unfold pyD at e
  obtain ⟨ps,e1,rfl⟩:=zR.mp e
  simpa [PyData.hasDict] using jd xs ps e1
 | .fls xs,p,e=>by
  unfold pyD at e
  obtain ⟨ps,e1,rfl⟩:=zR.mp e
  simpa [PyData.hasDict] using jd xs ps e1
 | .dk _,p,e=>by unfold pyD at e;cases e
 | .dt _,p,e=>by unfold pyD at e;cases e
 | .exc _ _,p,e=>by unfold pyD at e;cases e
theorem jd:∀ (ds:List L3.D) (ps:List PyData),eg ds=some ps->PyData.hasDictAll ps=false
 | [],ps,e=>by unfold eg at e;cases e;rfl
 | d :: ds,ps,e=>by
  unfold eg at e
  cases h1:pyD d with
  | none=>rw [h1] at e;cases e
  | some p =>
   cases h2:eg ds with
   | none=>rw [h1,h2] at e;cases e
   | some qs =>
    rw [h1,h2] at e
    cases e
    simp [PyData.hasDictAll,sA d p h1,jd ds qs h2]
end
def sm (f:L3.D->Option PyData) (k m:Nat) (d:L3.D):Bool:=match f d with
 | some p=>p.showable && decide (p.depth<=k) && decide (p.shown.length<=m)
 | none=>false
structure Sml (k m:Nat) (p:PyData):Prop where
 s:p.showable=true
 d:p.depth<=k
 l:p.shown.length<=m
theorem kN {f:L3.D->Option PyData} {k m:Nat} {d:L3.D} (h:sm f k m d=true):∃ p,f d=some p/\Sml k m p:=by
 unfold sm at h
 cases e:f d with
 | none=>rw [e] at h;cases h
 | some p =>
  rw [e] at h
  simp only [Bool.and_eq_true,decide_eq_true_eq] at h
  exact ⟨p,rfl,h.1.1,h.1.2,h.2⟩
theorem rM {f:L3.D->Option PyData} {k m:Nat} {d:L3.D} {p:PyData} (e:f d=some p) (h:Sml k m p):sm f k m d=true:=by
 unfold sm
 rw [e]
 simp [h.s,h.d,h.l]
theorem i8 {f:L3.D->Option PyData} {k m b a:Nat} {d:L3.D} (h:sm f k m d=true) (c:k<=b) (hm:m<=a):sm f b a d=true:=by
 obtain ⟨p,e,q⟩:=kN h
 exact rM e ⟨q.s,Aw q.d c,Aw q.l hm⟩
structure Rdg (f:L3.D->Option PyData) (fs:List L3.D->Option (List PyData)):Prop where
 n:fs []=some []
 c:∀ d ds p ps,f d=some p->fs ds=some ps->fs (d :: ds)=some (p :: ps)
 t:∀ xs ps,fs xs=some ps->f (.tup xs)=some (.tuple ps)
theorem rdD:Rdg pyD eg:=⟨rfl,fun d ds p ps h1 h2=>by unfold eg;rw [h1,h2],fun xs ps h=>by unfold pyD;rw [h];rfl⟩
theorem rdN:Rdg pyN me:=⟨rfl,fun d ds p ps h1 h2=>by unfold me;rw [h1,h2],fun xs ps h=>by unfold pyN;rw [h];rfl⟩
theorem nK {f:L3.D->Option PyData} {fs:List L3.D->Option (List PyData)} (R:Rdg f fs) {k m:Nat}:∀ {xs:List L3.D},(∀ x ∈ xs,sm f k m x=true)->∃ ps,fs xs=some ps/\PyData.showableAll ps=true/\PyData.depthAll ps<=k/\(∀ t ∈ PyData.shownAll ps,t.length<=m)/\(PyData.shownAll ps).length=xs.length
 | [],_=>⟨[],R.n,rfl,Nat.zero_le _,(fun t a=>by cases a),rfl⟩
 | x :: xs,h=>by
  obtain ⟨p,a1,a2⟩:=kN (h x zO)
  obtain ⟨ps,b1,b2,i,g,b⟩:=nK R (xs:=xs) fun y e=>h y (zP _ e)
  refine ⟨p :: ps,R.c _ _ _ _ a1 b1,by simp [PyData.showableAll,a2.s,b2],by have:=a2.d;simp only [PyData.depthAll];omega,fun t a=>?_,by simp [PyData.shownAll,b]⟩
  rcases zU.mp (show t ∈ p.shown :: PyData.shownAll ps from a) with rfl | a
  ·exact a2.l
  ·exact g t a
theorem nJ {f:L3.D->Option PyData} {fs:List L3.D->Option (List PyData)} (R:Rdg f fs) {k m:Nat} {xs:List L3.D} (h:∀ x ∈ xs,sm f k m x=true):sm f (k+1) (xs.length * (m+2)+3) (.tup xs)=true:=by
 obtain ⟨ps,b1,b2,c,b,a⟩:=nK R h
 have:=nF b
 rw [a] at this
 exact rM (R.t xs ps b1) ⟨by simpa [PyData.showable] using b2,by simp only [PyData.depth];omega,by simpa only [PyData.shown] using this⟩
theorem xK {k m:Nat} {xs:List L3.D} (h:∀ x ∈ xs,sm pyD k m x=true):sm pyD (k+1) (xs.length * (m+2)+3) (.lst xs)=true:=by
 obtain ⟨ps,b1,b2,d,c,a⟩:=nK rdD h
 have h1:=iG (k:=0) (acc:="[") c
 rw [a] at h1
 have e1:(("[":String):Str).length=1:=rfl
 have e:(("]":String):Str).length=1:=rfl
 have:(listText (PyData.shownAll ps)).length<=xs.length * (m+2)+3:=by
  unfold listText
  rw [strLen_append]
  omega
 have b:pyD (.lst xs)=some (.list ps):=by unfold pyD;rw [b1];rfl
 exact rM b ⟨by simpa [PyData.showable] using b2,by simp only [PyData.depth];omega,by simpa only [PyData.shown] using this⟩
def Sh' (d:L3.D):Prop:=∃ t,ip d=some (.str t,.z)
theorem wN {d:L3.D} {p:PyData} (e:ip d=shA d) (h:pyA d=some p) (q:Sml 16 16777216 p):Sh' d:=⟨p.shown,by
 have a:jq p=true:=by unfold jq;simp [q.s,q.d,q.l]
 rw [e]
 unfold shA
 rw [h]
 show (if jq p=true then _ else _)=_
 rw [if_pos a]⟩
theorem xM {d:L3.D} (e:ip d=shA d) (h:sm pyD 16 16777216 d=true):Sh' d:=by
 obtain ⟨p,h1,q⟩:=kN h
 refine wN e ?_ q
 unfold pyA
 rw [h1]
 show (if p.hasDict then none else some p)=_
 rw [sA d p h1]
 rfl
theorem sh_N {d:L3.D} (e:ip d=shA d) (h0:pyD d=none) (h:sm pyN 16 16777216 d=true):Sh' d:=by
 obtain ⟨p,h1,q⟩:=kN h
 refine wN e ?_ q
 unfold pyA
 rw [h0]
 exact h1
theorem je (n:Int) {m:Nat} (h:0 < m):∃ x:Nat,x < m/\n % (m:Int)=(x:Int):=by
 have:=bI n (m:Int) (by omega)
 exact ⟨(n % (m:Int)).toNat,by omega,by omega⟩
theorem y6 (s:Str):neX (.str s) (.str s)=some (.bl false,.z):=by
 simp [eqA,eqS]
theorem dW {bnd:L3.D->Sto->Option Sto} {c:M3 Bool} {elt:EM} (P:Sto->Prop) (Q:L3.D->Prop):∀ {ds:List L3.D} {τ:Sto},P τ ->
  (∀ d ∈ ds,∀ τ,P τ->∃ τ1 τ2 r τ3 p τ4,bnd d τ=some τ1/\c τ1=some (.ok true,τ2)/\elt τ2=some (.ok r,τ3)/\dI r τ3=some (.ok p,τ4)/\Q p.1/\P τ4) ->
  ∃ out τ',bC bnd c elt ds τ=some (.ok out,τ')/\P τ'/\(∀ d ∈ out,Q d)/\out.length=ds.length
 | [],τ,h0,_=>⟨[],τ,rfl,h0,(fun d hd=>by cases hd),rfl⟩
 | x :: xs,τ,h0,hs=>by
  obtain ⟨τ1,τ2,r,τ3,p,τ4,e1,b,j,i,q,a⟩:=hs x zO τ h0
  obtain ⟨out,τ',e,g,h,f⟩:=dW P Q (ds:=xs) (τ:=τ4) a fun d hd=>hs d (zP _ hd)
  refine ⟨p.1 :: out,τ',?_,g,fun d hd=>?_,by simp [f]⟩
  ·unfold bC
   simp [e1,ac,b,j,i,e,aW]
  ·rcases zU.mp hd with rfl | hd
   ·exact q
   ·exact h d hd
theorem zc {d:L3.D} (h:nox d=true) (c:∀ xs,d ≠ .tup xs) {n:Nat} (e:n<=25):aA [(.int (n:Int),.z),(d,.z)]=some (.ok (.bl false,.z),[(.int (n:Int),.z),(d,.z)]):=by
 have a:fX "tuple" d=some (.bl false,.z):=by
  cases d <;> first | exact (Aa h).elim | exact absurd rfl (c _) | rfl
 have th:=eV n e
 clear h c
 generalize L3.D.lst ((ai n).map Td)=L at *
 generalize L3.D.int (n:Int)=N at *
 apply aT (ρ:=[some (N,.z),some (d,.z),none,none,none,none,none,none,none]) (ρ1:=[some (N,.z),some (d,.z),some (L,.u),none,none,none,none,none,none]) rfl rfl
 ·unfold bu
  apply ag (ρ1:=[some (N,.z),some (d,.z),some (L,.u),none,none,none,none,none,none])
  ·nomatch [th]
  refine d7 (eL (b:=true) (wY (b:=true) ?_ rfl) rfl (cF i_c rfl))
  exact bX (eO (mN (aD rfl) rfl a) rfl)
 ·rfl
theorem pB {xs:List L3.D} {n:Nat} (i:n<=25) (h:xs.length ≠ (ai n).length\/(∀ x ∈ xs,okx x=true)/\xs.length<=16000/\xs.all sgB=false):aA [(.int (n:Int),.z),(.tup xs,.z)]=some (.ok (.bl false,.z),[(.int (n:Int),.z),(.tup xs,.z)]):=by
 have c:fX "tuple" (.tup xs)=some (.bl true,.z):=rfl
 have th:=eV n i
 have d:cE [.tup xs]=some (.int (xs.length:Int),.z):=by simp [iX,c1]
 have e:cE [.lst ((ai n).map Td)]=some (.int ((ai n).length:Int),.z):=by simp [iX,c1]
 have ne:=oj (a:=xs.length) (b:=(ai n).length)
 by_cases he:xs.length=(ai n).length
 ·obtain ⟨f,g,hw⟩:=h.resolve_left (fun z=>z he)
  rw [Ae he] at ne
  have e1:=tw f g (.int (n:Int)) (.lst ((ai n).map Td))
  have a1:=jO sgB xs
  rw [hw] at a1
  generalize L3.D.lst ((ai n).map Td)=L at *
  generalize L3.D.tup xs=R at *
  generalize L3.D.int (n:Int)=N at *
  apply aT (ρ:=[some (N,.z),some (R,.z),none,none,none,none,none,none,none]) (ρ1:=[some (N,.z),some (R,.z),some (L,.u),none,none,none,none,none,none]) rfl rfl
  ·unfold bu
   apply ag (ρ1:=[some (N,.z),some (R,.z),some (L,.u),none,none,none,none,none,none])
   ·nomatch [th]
   apply ag (ρ1:=[some (N,.z),some (R,.z),some (L,.u),none,none,none,none,none,none])
   ·refine dS (b:=false) (gx (b:=false) (ρ1:=[some (N,.z),some (R,.z),some (L,.u),none,none,none,none,none,none]) ?_ rfl ?_) rfl rfl
    ·exact bX (eO (mN (aD rfl) rfl c) rfl)
    ·exact eO (dm (bv (aO (aD rfl) bK) rfl d) (bv (aO (aD rfl) bK) rfl e) rfl rfl ne) rfl
   refine d7 (eL (b:=true) ?_ rfl (cF i_c rfl))
   exact bX (eO (bv (aO e1 bK) rfl a1) rfl)
  ·rfl
 ·rw [Af he] at ne
  clear h
  generalize L3.D.lst ((ai n).map Td)=L at *
  generalize L3.D.tup xs=R at *
  generalize L3.D.int (n:Int)=N at *
  apply aT (ρ:=[some (N,.z),some (R,.z),none,none,none,none,none,none,none]) (ρ1:=[some (N,.z),some (R,.z),some (L,.u),none,none,none,none,none,none]) rfl rfl
  ·unfold bu
   apply ag (ρ1:=[some (N,.z),some (R,.z),some (L,.u),none,none,none,none,none,none])
   ·nomatch [th]
   refine d7 (eL (b:=true) (gx (b:=false) (ρ1:=[some (N,.z),some (R,.z),some (L,.u),none,none,none,none,none,none]) ?_ rfl ?_) rfl (cF i_c rfl))
   ·exact bX (eO (mN (aD rfl) rfl c) rfl)
   ·exact eO (dm (bv (aO (aD rfl) bK) rfl d) (bv (aO (aD rfl) bK) rfl e) rfl rfl ne) rfl
  ·rfl
def Th (d:L3.D):Prop:=nox d=true/\∀ xs,d=.tup xs->(∀ x ∈ xs,okx x=true)/\xs.length<=16000
def zOf:L3.D->Int
 | .int i=>i
 | _=>0
theorem rq {d:L3.D} (h:sgB d=true):L3.D.int (zOf d)=d/\(zOf d=1\/zOf d = -1):=by
 cases d with
 | int i =>
  refine ⟨rfl,?_⟩
  have h:(decide (i=1) || decide (i = -1))=true:=h
  show i=1\/i = -1
  simpa using h
 | _=>cases h
def nM (n:Nat) (xs:List L3.D):Sg:=⟨n,fun i j k=>zOf (xs.getD ((ai n).idxOf (i,j,k)) .non)⟩
theorem uN {n:Nat} {xs:List L3.D} (h:xs.all sgB=true) (b:xs.length=(ai n).length):SgD (nM n xs)=xs/\∀ t ∈ ai n,tn (nM n xs) t=1\/tn (nM n xs) t = -1:=by
 have key:∀ p (a:p < (ai n).length),tn (nM n xs) ((ai n)[p])=zOf (xs[p]'(by omega)):=fun p a=>by
  show zOf (xs.getD ((ai n).idxOf (ai n)[p]) .non)=_
  rw [(i6 n).idxOf_getElem p a]
  simp [List.getD,show p < xs.length by omega]
 constructor
 ·refine List.ext_getElem (by rw [zZ];exact b.symm) fun p h1 h2=>?_
  rw [List.getElem_map]
  show L3.D.int (tn (nM n xs) ((ai n)[p]'(by omega)))=_
  rw [key p (by omega)]
  exact (rq (List.all_eq_true.mp h _ (List.getElem_mem h2))).1
 ·intro t c
  obtain ⟨p,a,rfl⟩:=List.mem_iff_getElem.mp c
  rw [key p a]
  exact (rq (List.all_eq_true.mp h _ (List.getElem_mem (by omega)))).2
theorem both {n:Nat} (h1:1<=n) (h2:n<=24) {d:L3.D} (h:Th d):∃ b,cJ [(.int (n:Int),.z),(d,.z)]=some (.ok (.bl b,.z),[(.int (n:Int),.z),(d,.z)])/\aA [(.int (n:Int),.z),(d,.z)]=some (.ok (.bl b,.z),[(.int (n:Int),.z),(d,.z)]):=by
 have up:∀ b,aP [(.int (n:Int),.z),(d,.z)]=some (.ok (.bl b,.z),[(.int (n:Int),.z),(d,.z)])->aA [(.int (n:Int),.z),(d,.z)]=some (.ok (.bl b,.z),[(.int (n:Int),.z),(d,.z)])->∃ b,cJ [(.int (n:Int),.z),(d,.z)]=some (.ok (.bl b,.z),[(.int (n:Int),.z),(d,.z)])/\aA [(.int (n:Int),.z),(d,.z)]=some (.ok (.bl b,.z),[(.int (n:Int),.z),(d,.z)]):=fun b e1 c=>by
  refine ⟨b,?_,c⟩
  have m:=uU (k:=(n:Int)) (lo:=1) (hi:=24) (by omega) (by omega)
  clear c h
  generalize L3.D.int (n:Int)=N at *
  apply aT (ρ:=[some (N,.z),some (d,.z)]) (ρ1:=[some (N,.z),some (d,.z)]) rfl rfl
  ·unfold iP
   apply ag (ρ1:=[some (N,.z),some (d,.z)])
   ·nomatch [m]
   ·apply cF
    ·nomatch [e1]
    ·rfl
  ·rfl
 by_cases f:∃ xs,d=.tup xs
 ·obtain ⟨xs,rfl⟩:=f
  obtain ⟨j,g⟩:=h.2 xs rfl
  have a:∀ x ∈ xs,nox x=true:=fun x hm=>pg (j x hm)
  cases hw:xs.all sgB with
  | false=>exact up false (wz a g hw _) (pB (by omega) (.inr ⟨j,g,hw⟩))
  | true =>
   by_cases he:xs.length=(ai n).length
   ·obtain ⟨e1,c⟩:=uN hw he
    have l:=uY (ps:=nM n xs) h2 c
    have i:=lZ (s:=nM n xs) h2 c
    rw [e1] at l i
    exact up _ l i
   ·exact up false (wA a g hw (by omega) he) (pB (by omega) (.inl he))
 ·exact up false (zI h.1 (fun xs e=>f ⟨xs,e⟩) _) (zc h.1 (fun xs e=>f ⟨xs,e⟩) (by omega))
abbrev Gt (d:L3.D):Prop:=Th d/\Sh' d
def ov:List L3.D:=[.non,.bl true,.bl false,.int 9,.int (-1),.str "1",.str "",.tup [.int 1],.lst [.int 1],.dk [(.inr "a",.int 1)],.tup [],.int 100000000000000000000000000000,.tup [.int 1,.int 2],.tup [.tup [.int 0,.int 0]],.lst [.tup []],.int 0]
theorem ov_at (i:Nat) (h:i < 16):∃ v,ao (.lst ov) (.int (i:Int))=some (v,.z)/\v ∈ ov:=by
 have a:i < ov.length:=h
 exact ⟨ov[i],i7 (lI (zV a)),List.getElem_mem a⟩
theorem uT {n m:Int} {j v:L3.D} (t:av [(.lst [.int n],.u),(.int 16,.z)]=some (.ok (j,.z),[(.lst [.int m],.u),(.int 16,.z)])) (h:ao (.lst ov) j=some (v,.z)):ji [(.lst [.int n],.u)]=some (.ok (v,.z),[(.lst [.int m],.u)]):=by
 have a:∀ B:L3.D,(aB 1 (cq (aa (mC .non) (aa (mC (.bl true)) (aa (mC (.bl false)) (aa (mC (.int 9)) (aa (mUn k8 (mC (.int 1))) (aa (mC (.str "1")) (aa (mC (.str "")) (aa (aF (aa (mC (.int 1)) ae)) (aa (cq (aa (mC (.int 1)) ae)) (aa (za (.inr "a") 1) (aa (aF ae) (aa (af nZ (mC (.int 10)) (mC (.int 29))) (aa (aF (aa (mC (.int 1)) (aa (mC (.int 2)) ae))) (aa (aF (aa (aF (aa (mC (.int 0)) (aa (mC (.int 0)) ae))) ae)) (aa (cq (aa (aF ae) ae)) (aa (mC (.int 0)) ae)))))))))))))))))) [some (B,.u),none]=some (.ok .nx,[some (B,.u),some (.lst ov,.u)]):=fun B=>by kernel_rfl
 have a:=a (.lst [.int n])
 generalize L3.D.lst ov=SV at *
 apply aT (ρ:=[some (.lst [.int n],.u),none]) (ρ1:=[some (.lst [.int m],.u),some (SV,.u)]) rfl rfl
 ·unfold pj
  refine ag a ?_
  apply cF
  ·nomatch [t],[h]
  ·rfl
 ·rfl
def thB:L3.D->Bool
 | .exc _ _=>false
 | .tup xs=>xs.all okx && decide (xs.length<=16000)
 | _=>true
theorem th_of {d:L3.D} (h:thB d=true):Th d:=by
 refine ⟨?_,?_⟩
 ·cases d <;> first | rfl | exact (Aa h).elim
 ·rintro xs rfl
  have h:(xs.all okx && decide (xs.length<=16000))=true:=h
  rw [Bool.and_eq_true] at h
  exact ⟨fun x a=>List.all_eq_true.mp h.1 x a,of_decide_eq_true h.2⟩
def shB:L3.D->Bool:=fun d=>match ip d with
 | some (.str _,.z)=>true
 | _=>false
theorem sh_b {d:L3.D} (h:shB d=true):Sh' d:=by
 unfold shB at h
 split at h
 ·exact ⟨_,by assumption⟩
 ·cases h
def inB (d:L3.D):Bool:=okx d && (sm pyD 3 100 d || ((pyD d).isNone && sm pyN 3 100 d))
def plB (d:L3.D):Bool:=okx d && sm pyD 3 100 d && sm pyN 3 100 d
def odB (d:L3.D):Bool:=thB d && shB d && inB d
theorem ov_ok:ov.map odB=ov.map fun _=>true:=by kernel_rfl
theorem yM {v:L3.D} (h:v ∈ ov):thB v=true/\shB v=true/\inB v=true:=by
 have:=List.map_inj_left.mp ov_ok v h
 unfold odB at this
 rw [Bool.and_eq_true,Bool.and_eq_true] at this
 exact ⟨this.1.1,this.1.2,this.2⟩
theorem iq {d:L3.D} (h:plB d=true):okx d=true/\sm pyD 3 100 d=true/\sm pyN 3 100 d=true:=by
 unfold plB at h
 rw [Bool.and_eq_true,Bool.and_eq_true] at h
 exact ⟨h.1.1,h.1.2,h.2⟩
theorem rC {xs:List L3.D} (h:∀ d ∈ xs,okx d=true) (a:xs.length<=16000):Th (.tup xs):=⟨rfl,fun ys e=>by cases e;exact ⟨h,a⟩⟩
theorem fY {xs:List L3.D} (h:∀ d ∈ xs,plB d=true) (a:xs.length<=16000):Gt (.tup xs) :=
 ⟨rC (fun d hd=>(iq (h d hd)).1) a,xM rfl (i8 (nJ rdD fun d hd=>(iq (h d hd)).2.1) (by decide) (by omega))⟩
theorem o9 {V:L3.D} (b:pyD V=none):∀ (A B:List L3.D),eg (A ++ [V] ++ B)=none
 | [],B=>by
  show eg (V :: B)=none
  unfold eg
  rw [b]
 | a :: A,B=>by
  have c:=o9 b A B
  show eg (a :: (A ++ [V] ++ B))=none
  unfold eg
  rw [c]
  cases pyD a <;> rfl
theorem zp {V:L3.D} (b:inB V=true) {A B:List L3.D} (j:∀ d ∈ A,plB d=true) (c:∀ d ∈ B,plB d=true) (k:A.length+B.length<=15999):Gt (.tup (A ++ [V] ++ B)):=by
 unfold inB at b
 rw [Bool.and_eq_true,Bool.or_eq_true] at b
 obtain ⟨g,a⟩:=b
 have mem:∀ {P:L3.D->Prop},(∀ d,plB d=true->P d)->P V->∀ d ∈ A ++ [V] ++ B,P d:=fun {P} h1 h2 d hd=>by
  rcases zX.mp hd with hd | hd
  ·rcases zX.mp hd with hd | hd
   ·exact h1 d (j d hd)
   ·rw [Ao.mp hd];exact h2
  ·exact h1 d (c d hd)
 have i:(A ++ [V] ++ B).length<=16000:=by simp;omega
 refine ⟨rC (mem (fun d h=>(iq h).1) g) i,?_⟩
 rcases a with a | a
 ·exact xM rfl (i8 (nJ rdD (mem (P:=fun d=>sm pyD 3 100 d=true) (fun d h=>(iq h).2.1) a)) (by decide) (by omega))
 ·rw [Bool.and_eq_true] at a
  refine sh_N rfl ?_ (i8 (nJ rdN (mem (P:=fun d=>sm pyN 3 100 d=true) (fun d h=>(iq h).2.2) a.2)) (by decide) (by omega))
  have f:pyD V=none:=by
   cases e:pyD V with
   | none=>rfl
   | some p=>rw [e] at a;cases a.1
  unfold pyD
  rw [o9 f]
  rfl
theorem pl_c:[L3.D.int (-1),.int 1,.int 0,.int 2,.int (0 - 1),.int (0 - -1),.bl true,.bl false,.str "1",.str "-1",.bl (decide ((1:Int)=1)),.bl (decide ((-1:Int)=1))].map plB=[L3.D.int (-1),.int 1,.int 0,.int 2,.int (0 - 1),.int (0 - -1),.bl true,.bl false,.str "1",.str "-1",.bl (decide ((1:Int)=1)),.bl (decide ((-1:Int)=1))].map fun _=>true:=by kernel_rfl
theorem cM {d:L3.D} (h:d ∈ [L3.D.int (-1),.int 1,.int 0,.int 2,.int (0 - 1),.int (0 - -1),.bl true,.bl false,.str "1",.str "-1",.bl (decide ((1:Int)=1)),.bl (decide ((-1:Int)=1))]):plB d=true:=List.map_inj_left.mp pl_c d h
theorem pl_S {s:Sg} (a:∀ t ∈ ai s.length,tn s t=1\/tn s t = -1):∀ d ∈ SgD s,plB d=true/\(d=.int 1\/d=.int (-1)):=fun d hd=>by
 obtain ⟨t,b,rfl⟩:=z7.mp hd
 rcases a t b with h | h <;> rw [h]
 ·exact ⟨cM (by simp),.inl rfl⟩
 ·exact ⟨cM (by simp),.inr rfl⟩
theorem rv_is {B V C E F G:L3.D} {xs:List L3.D}:pk (ab 1) (cN (mUn k8 (mC (.int 1)))) [some (B,.u),some (.tup xs,.z),some (V,.z),some (C,.z),some (E,.z),some (F,.u),some (G,.u)]=some (.ok (.val (.tup xs.reverse) .z),[some (B,.u),some (.tup xs,.z),some (V,.z),some (C,.z),some (E,.z),some (F,.u),some (G,.u)]):=rfl
abbrev nw (e:Int) (V:L3.D) (t:Str):List L3.D:=[.tup [],.tup [.int (0 - e)],.tup [.int e,.int e],.tup [.int 0],.tup [.bl (decide (e=1))],.tup [V],.tup [.int 2],.tup [.str t]]
theorem rZ {xs:List L3.D} (b:∀ d ∈ xs,plB d=true/\(d=.int 1\/d=.int (-1))) (hl:xs.length<=15625) {V:L3.D} (hV:inB V=true) (n:Int):∃ n' d,ic [(.lst [.int n],.u),(.tup xs,.z),(V,.z)]=some (.ok (d,.z),[(.lst [.int n'],.u),(.tup xs,.z),(V,.z)])/\Gt d:=by
 have ln:cE [.tup xs]=some (.int (xs.length:Int),.z):=by simp [iX,c1]
 have t0:=bM n ((xs.length:Int)+1) (by omega)
 obtain ⟨a,ha,o⟩:=je n (m:=xs.length+1) (by omega)
 rw [show ((xs.length+1:Nat):Int)=(xs.length:Int)+1 by omega] at o
 rw [o] at t0
 generalize n / ((xs.length:Int)+1)=n1 at t0
 clear o
 have p:=bM n1 11 (by decide)
 obtain ⟨j,hj,k⟩:=je n1 (m:=11) (by decide)
 rw [show ((11:Nat):Int)=11 from rfl] at k
 rw [k] at p
 generalize n1 / 11=n2 at p
 clear k
 have s0:=mW xs a
 have s1:=lr xs a
 have s2:=kC xs (a+1)
 rw [show ((a+1:Nat):Int)=(a:Int)+1 by omega] at s2
 have w:∀ d ∈ xs.take a,plB d=true:=fun d hd=>(b d (List.mem_of_mem_take hd)).1
 have H:∀ d ∈ xs.drop (a+1),plB d=true:=fun d hd=>(b d (List.mem_of_mem_drop hd)).1
 have lA:(xs.take a).length<=a:=by rw [Al];omega
 have ar:(xs.take a).length<=xs.length:=by rw [Al];omega
 have lB:(xs.drop (a+1)).length<=xs.length - (a+1):=by rw [List.length_drop];omega
 have lM:((xs.drop a).take 1).length<=1:=by rw [Al];omega
 have kM:aQ (.tup ((xs.drop a).take 1)) (.tup [.int 1])=some (.tup ((xs.drop a).take 1 ++ [.int 1]),.z):=eE (by simp;omega)
 obtain ⟨e,t,g0,st,p0,N,p2,p3⟩:∃ (e:Int) (t:Str),ao (.tup ((xs.drop a).take 1 ++ [.int 1])) (.int 0)=some (.int e,.z)/\qa [.int e]=some (.str t,.z)/\plB (.int (0 - e))=true/\plB (.int e)=true/\plB (.bl (decide (e=1)))=true/\plB (.str t)=true:=by
  have c1:∃ t:Str,qa [.int 1]=some (.str t,.z)/\plB (.int (0 - 1))=true/\plB (.int 1)=true/\plB (.bl (decide ((1:Int)=1)))=true/\plB (.str t)=true:=⟨"1",by kernel_rfl,cM (by simp),cM (by simp),cM (by simp),cM (by simp)⟩
  have c2:∃ t:Str,qa [.int (-1)]=some (.str t,.z)/\plB (.int (0 - -1))=true/\plB (.int (-1))=true/\plB (.bl (decide ((-1:Int)=1)))=true/\plB (.str t)=true:=⟨"-1",by kernel_rfl,cM (by simp),cM (by simp),cM (by simp),cM (by simp)⟩
  have hm:∀ d ∈ (xs.drop a).take 1,d=.int 1\/d=.int (-1):=fun d hd=>(b d (List.mem_of_mem_drop (List.mem_of_mem_take hd))).2
  have fst:∀ {d:L3.D} {l:List L3.D},ao (.tup (d :: l)) (.int 0)=some (d,.z):=fun {d l}=>ik (lI (i:=0) rfl)
  generalize (xs.drop a).take 1=M at *
  cases M with
  | nil =>
   obtain ⟨t,h⟩:=c1
   exact ⟨1,t,fst,h⟩
  | cons d r =>
   rcases hm d zO with rfl | rfl
   ·obtain ⟨t,h⟩:=c1
    exact ⟨1,t,fst,h⟩
   ·obtain ⟨t,h⟩:=c2
    exact ⟨-1,t,fst,h⟩
 have s:∀ d ∈ nw e V t,∃ ys,d=.tup ys/\ys.length<=2/\Gt (.tup (xs.take a ++ ys ++ xs.drop (a+1))):=by
  have pl:∀ ys:List L3.D,ys.length<=2->(∀ d ∈ ys,plB d=true)->∃ zs,L3.D.tup ys=.tup zs/\zs.length<=2/\Gt (.tup (xs.take a ++ zs ++ xs.drop (a+1))):=fun ys h1 h2=>⟨ys,rfl,h1,fY (fun d hd=>by
   rcases zX.mp hd with hd | hd
   ·rcases zX.mp hd with hd | hd
    ·exact w d hd
    ·exact h2 d hd
   ·exact H d hd) (by simp only [Aj];omega)⟩
  have one:∀ {d x:L3.D},plB d=true->x ∈ [d]->plB x=true:=fun h hm=>Ao.mp hm ▸ h
  intro d hd
  simp only [nw,zU,List.not_mem_nil,or_false] at hd
  rcases hd with rfl | rfl | rfl | rfl | rfl | rfl | rfl | rfl
  ·exact pl [] (Nat.le_of_ble_eq_true rfl) fun d hd=>by cases hd
  ·exact pl _ (Nat.le_of_ble_eq_true rfl) fun d hd=>one p0 hd
  ·refine pl _ (Nat.le_of_ble_eq_true rfl) fun d hd=>?_
   rcases zU.mp hd with rfl | hd
   ·exact N
   ·exact one N hd
  ·exact pl _ (Nat.le_of_ble_eq_true rfl) fun d hd=>one (cM (by simp)) hd
  ·exact pl _ (Nat.le_of_ble_eq_true rfl) fun d hd=>one p2 hd
  ·exact ⟨_,rfl,Nat.le_of_ble_eq_true rfl,zp hV w H (by omega)⟩
  ·exact pl _ (Nat.le_of_ble_eq_true rfl) fun d hd=>one (cM (by simp)) hd
  ·exact pl _ (Nat.le_of_ble_eq_true rfl) fun d hd=>one p3 hd
 generalize hA:xs.take a=A at *
 generalize hB:xs.drop (a+1)=B at *
 obtain ⟨X,τ',O,⟨v,rfl⟩,J,K⟩:=dW (bnd:=aj 0) (c:=cH) (elt:=fh) (fun τ=>∃ v,τ=[v,some (.tup xs,.z),some (.int (a:Int),.z)]) Gt (ds:=nw e V t) (τ:=[none,some (.tup xs,.z),some (.int (a:Int),.z)]) ⟨none,rfl⟩ (by
  rintro d hd τ ⟨v,rfl⟩
  obtain ⟨ys,rfl,hy,q⟩:=s d hd
  have Z:aQ (.tup A) (.tup ys)=some (.tup (A ++ ys),.z):=eE (by omega)
  have k2:aQ (.tup (A ++ ys)) (.tup B)=some (.tup (A ++ ys ++ B),.z):=eE (by simp only [Aj];omega)
  have ad:aQ (.int (a:Int)) (.int 1)=some (.int ((a:Int)+1),.z):=rfl
  refine ⟨[some (.tup ys,.z),some (.tup xs,.z),some (.int (a:Int),.z)],[some (.tup ys,.z),some (.tup xs,.z),some (.int (a:Int),.z)],.val (.tup (A ++ ys ++ B)) .z,[some (.tup ys,.z),some (.tup xs,.z),some (.int (a:Int),.z)],(.tup (A ++ ys ++ B),.z),[some (.tup ys,.z),some (.tup xs,.z),some (.int (a:Int),.z)],rfl,rfl,?_,rfl,q,_,rfl⟩
  clear q s
  generalize L3.D.tup (A ++ ys ++ B)=R3 at *
  generalize L3.D.tup (A ++ ys)=R2 at *
  generalize L3.D.tup ys=R1 at *
  generalize L3.D.tup A=RA at *
  generalize L3.D.tup B=RB at *
  generalize L3.D.tup xs=R at *
  unfold fh
  (exists s1,s2,Z,k2,ad))
 obtain ⟨Y,τ',y,⟨v',rfl⟩,P,lY⟩:=dW (bnd:=aj 0) (c:=cH) (elt:=iO) (fun τ=>∃ v,τ=[v]) (fun d=>plB d=true) (ds:=xs) (τ:=[none]) ⟨none,rfl⟩ (by
  rintro d hd τ ⟨v,rfl⟩
  rcases (b d hd).2 with rfl | rfl
  ·exact ⟨[some (.int 1,.z)],[some (.int 1,.z)],.val (.int (0 - 1)) .z,[some (.int 1,.z)],(.int (0 - 1),.z),[some (.int 1,.z)],rfl,rfl,rfl,rfl,cM (by simp),_,rfl⟩
  ·exact ⟨[some (.int (-1),.z)],[some (.int (-1),.z)],.val (.int (0 - -1)) .z,[some (.int (-1),.z)],(.int (0 - -1),.z),[some (.int (-1),.z)],rfl,rfl,rfl,rfl,cM (by simp),_,rfl⟩)
 have T:Gt (.lst xs):=⟨⟨rfl,fun ys e=>by cases e⟩,xM rfl (i8 (xK fun d hd=>(iq (b d hd).1).2.1) (by decide) (by omega))⟩
 have U:Gt (.tup xs.reverse):=fY (fun d hd=>(b d (List.mem_reverse.mp hd)).1) (by rw [List.length_reverse];omega)
 have T5:Gt (.tup Y):=fY P (by omega)
 obtain ⟨d,gd,hd⟩:∃ d,ao (.lst (X ++ [.lst xs,.tup xs.reverse,.tup Y])) (.int (j:Int))=some (d,.z)/\Gt d:=by
  have g:j < (X ++ [.lst xs,.tup xs.reverse,.tup Y]:List L3.D).length:=by rw [Aj,K];exact hj
  refine ⟨_,i7 (lI (zV g)),?_⟩
  have:=List.getElem_mem g
  generalize (X ++ [.lst xs,.tup xs.reverse,.tup Y]:List L3.D)[j]=d at *
  rcases zX.mp this with h | h
  ·exact J d h
  ·simp only [zU,List.not_mem_nil,or_false] at h
   rcases h with rfl | rfl | rfl <;> assumption
 refine ⟨n2,d,?_,hd⟩
 have S:aQ (.lst X) (.lst [.lst xs,.tup xs.reverse,.tup Y])=some (.lst (X ++ [.lst xs,.tup xs.reverse,.tup Y]),.u):=lu (by rw [K] <;> exact Nat.le_of_ble_eq_true rfl)
 have e1:iN [some (.lst [.int n1],.u),some (.tup xs,.z),some (V,.z),some (.int (a:Int),.z),some (.int e,.z),some (.lst (nw e V t),.u),none]=some (.ok (.val (.lst X) .u),[some (.lst [.int n1],.u),some (.tup xs,.z),some (V,.z),some (.int (a:Int),.z),some (.int e,.z),some (.lst (nw e V t),.u),none]):=bh (rs:=[.pl 5]) (ρ1:=[some (.lst [.int n1],.u),some (.tup xs,.z),some (V,.z),some (.int (a:Int),.z),some (.int e,.z),some (.lst (nw e V t),.u),none]) (ρ2:=[some (.lst [.int n1],.u),some (.tup xs,.z),some (V,.z),some (.int (a:Int),.z),some (.int e,.z),some (.lst (nw e V t),.l),none]) rfl O (Nat.le_of_ble_eq_true rfl) rfl
 have L:iM [some (.lst [.int n1],.u),some (.tup xs,.z),some (V,.z),some (.int (a:Int),.z),some (.int e,.z),some (.lst (nw e V t),.u),some (.lst X,.u)]=some (.ok (.val (.lst Y) .u),[some (.lst [.int n1],.u),some (.tup xs,.z),some (V,.z),some (.int (a:Int),.z),some (.int e,.z),some (.lst (nw e V t),.u),some (.lst X,.u)]):=bh (rs:=[.pl 1]) (ρ1:=[some (.lst [.int n1],.u),some (.tup xs,.z),some (V,.z),some (.int (a:Int),.z),some (.int e,.z),some (.lst (nw e V t),.u),some (.lst X,.u)]) (ρ2:=[some (.lst [.int n1],.u),some (.tup xs,.z),some (V,.z),some (.int (a:Int),.z),some (.int e,.z),some (.lst (nw e V t),.u),some (.lst X,.u)]) rfl y (by omega) rfl
 have Q:=rv_is (B:=.lst [.int n1]) (V:=V) (C:=.int (a:Int)) (E:=.int e) (F:=.lst (nw e V t)) (G:=.lst X) (xs:=xs)
 have li:zb [.tup xs]=some (.lst xs,.u):=rfl
 have tp:jQ [.lst Y]=some (.tup Y,.z):=rfl
 have ad:aQ (.int (a:Int)) (.int 1)=some (.int ((a:Int)+1),.z):=rfl
 have al:aQ (.int (xs.length:Int)) (.int 1)=some (.int ((xs.length:Int)+1),.z):=rfl
 have eq:eqX (.int e) (.int 1)=some (.bl (decide (e=1)),.z):=rfl
 have sb:gf (.int 0) (.int e)=some (.int (0 - e),.z):=rfl
 clear hd T U T5 J P s O y b
 have f:(aB 5 (cq (aa (aF ae) (aa (aF (aa (af gf (mC (.int 0)) (ab 4)) ae)) (aa (aF (aa (ab 4) (aa (ab 4) ae))) (aa (aF (aa (mC (.int 0)) ae)) (aa (aF (aa (af eqX (ab 4) (mC (.int 1))) ae)) (aa (aF (aa (ab 2) ae)) (aa (aF (aa (mC (.int 2)) ae)) (aa (aF (aa (aq qa (aa (ab 4) ae)) ae)) ae)))))))))) [some (.lst [.int n1],.u),some (.tup xs,.z),some (V,.z),some (.int (a:Int),.z),some (.int e,.z),none,none]=some (.ok .nx,[some (.lst [.int n1],.u),some (.tup xs,.z),some (V,.z),some (.int (a:Int),.z),some (.int e,.z),some (.lst (nw e V t),.u),none]):=by
  clear e1 L Q li tp S gd
  unfold nw
  generalize decide (e=1)=be at *
  generalize L3.D.int (0 - e)=I0 at *
  generalize L3.D.int e=I at *
  generalize L3.D.tup xs=R at *
  exists eq,sb,st
 generalize nw e V t=W at *
 generalize L3.D.lst (X ++ [.lst xs,.tup xs.reverse,.tup Y])=F at *
 generalize L3.D.tup xs.reverse=F4 at *
 generalize L3.D.tup Y=F5 at *
 generalize L3.D.lst xs=F3 at *
 generalize L3.D.int ((xs.length:Int)+1)=N1 at *
 generalize L3.D.int (xs.length:Int)=N0 at *
 generalize L3.D.tup ((xs.drop a).take 1 ++ [.int 1])=G2 at *
 generalize L3.D.tup ((xs.drop a).take 1)=G1 at *
 generalize L3.D.tup xs=R at *
 apply aT (ρ:=[some (.lst [.int n],.u),some (R,.z),some (V,.z),none,none,none,none]) (ρ1:=[some (.lst [.int n2],.u),some (R,.z),some (V,.z),some (.int (a:Int),.z),some (.int e,.z),some (.lst W,.u),some (.lst X,.u)]) rfl rfl
 ·unfold mH
  apply ag (ρ1:=[some (.lst [.int n1],.u),some (R,.z),some (V,.z),some (.int (a:Int),.z),none,none,none])
  ·nomatch [t0],[ln,al]
  apply ag (ρ1:=[some (.lst [.int n1],.u),some (R,.z),some (V,.z),some (.int (a:Int),.z),some (.int e,.z),none,none])
  ·exists s0,kM,g0,ad
  apply ag (ρ1:=[some (.lst [.int n1],.u),some (R,.z),some (V,.z),some (.int (a:Int),.z),some (.int e,.z),some (.lst W,.u),none])
  ·exact f
  apply ag (ρ1:=[some (.lst [.int n1],.u),some (R,.z),some (V,.z),some (.int (a:Int),.z),some (.int e,.z),some (.lst W,.u),some (.lst X,.u)])
  ·(repeat' (first | with_reducible exact e1 | infer_instance | eq_refl))
  ·apply cF
   ·(repeat' (first | with_reducible exact L | with_reducible exact Q | infer_instance | with_reducible apply ak (p) | exact li | exact tp | exact S | exact gd | eq_refl))
   ·rfl
 ·rfl
theorem nH {n:Nat} (h1:1<=n) (h2:n<=24) {d:L3.D} (hd:Gt d) {S L B:L3.D} {v4 v5 v6 v7 v9 v10:Option (L3.D × Fl)}:∃ g a,fg [some (S,.z),some (L,.z),some (B,.u),some (.int (n:Int),.z),v4,v5,v6,v7,some (d,.z),v9,v10]=some (.ok .nx,[some (S,.z),some (L,.z),some (B,.u),some (.int (n:Int),.z),v4,v5,v6,v7,some (d,.z),g,a]):=by
 obtain ⟨b,h,f⟩:=both h1 h2 hd.1
 obtain ⟨t,c⟩:=hd.2
 have e:kU [d]=some (.str t,.z):=c
 have ne:=y6 t
 have nb:neX (.bl b) (.bl b)=some (.bl false,.z):=by cases b <;> rfl
 have i:fX "bool" (.bl b)=some (.bl true,.z):=rfl
 clear c hd
 generalize L3.D.int (n:Int)=N at *
 refine ⟨some (.str t,.z),some (.bl b,.z),?_⟩
 generalize L3.D.bl b=BB at *
 unfold fg
 apply ag (ρ1:=[some (S,.z),some (L,.z),some (B,.u),some (N,.z),v4,v5,v6,v7,some (d,.z),some (.str t,.z),v10])
 ·exists e
 apply ag (ρ1:=[some (S,.z),some (L,.z),some (B,.u),some (N,.z),v4,v5,v6,v7,some (d,.z),some (.str t,.z),some (BB,.z)])
 ·nomatch [h]
 refine dS (b:=false) (gx (b:=false) (ρ1:=[some (S,.z),some (L,.z),some (B,.u),some (N,.z),v4,v5,v6,v7,some (d,.z),some (.str t,.z),some (BB,.z)]) ?_ rfl (gx (b:=false) (ρ1:=[some (S,.z),some (L,.z),some (B,.u),some (N,.z),v4,v5,v6,v7,some (d,.z),some (.str t,.z),some (BB,.z)]) ?_ rfl ?_)) rfl rfl
 ·exact bX (eO (mN (aD rfl) rfl i) rfl)
 ·exact eO (dm (aD rfl) (ak f (aO (aD rfl) (aO (aD rfl) bK)) rfl rfl rfl) rfl rfl nb) rfl
 ·exact eO (dm (bv (aO (aD rfl) bK) rfl e) (aD rfl) rfl rfl ne) rfl
theorem nG {n:Nat} (h1:1<=n) (h2:n<=24) {ds:List L3.D} (hd:∀ d ∈ ds,Gt d) {S L B:L3.D} {v4 v5 v6 v7 v8 v9 v10:Option (L3.D × Fl)}:∃ f c a,dH (aj 8) fg ds [some (S,.z),some (L,.z),some (B,.u),some (.int (n:Int),.z),v4,v5,v6,v7,v8,v9,v10]=some (.ok .nx,[some (S,.z),some (L,.z),some (B,.u),some (.int (n:Int),.z),v4,v5,v6,v7,f,c,a]):=by
 obtain ⟨ρ',e,f,c,a,rfl⟩:=bO (bnd:=aj 8) (b:=fg) (fun _ ρ=>∃ f c a,ρ=[some (S,.z),some (L,.z),some (B,.u),some (.int (n:Int),.z),v4,v5,v6,v7,f,c,a]) (ds:=ds) (ρ:=[some (S,.z),some (L,.z),some (B,.u),some (.int (n:Int),.z),v4,v5,v6,v7,v8,v9,v10]) (k:=0) ⟨_,_,_,rfl⟩ (by
  rintro i d ρ hi ⟨f,c,a,rfl⟩
  obtain ⟨w,g,e⟩:=nH h1 h2 (hd d (z5 hi)) (S:=S) (L:=L) (B:=B) (v4:=v4) (v5:=v5) (v6:=v6) (v7:=v7) (v9:=c) (v10:=a)
  exact ⟨_,_,rfl,.inl e,_,_,_,rfl⟩)
 exact ⟨f,c,a,e⟩
theorem xU {k:Nat} (g:k<=25) (n:Int) {S L W V:L3.D} {v6 v7 v8 v9 v10:Option (L3.D × Fl)}:∃ b X,mF [some (S,.z),some (L,.z),some (.lst [.int n],.u),some (.int (k:Int),.z),some (W,.z),some (V,.z),v6,v7,v8,v9,v10]=some (.ok (.val (.lst X) .u),[some (S,.z),some (L,.z),some (.lst [.int b],.u),some (.int (k:Int),.z),some (W,.z),some (V,.z),v6,v7,v8,v9,v10])/\(∀ d ∈ X,plB d=true)/\X.length<=15625:=by
 have th:=eV k g
 have sm:=bU g
 obtain ⟨X,τ',e,⟨v,b,rfl⟩,l,j⟩:=dW (bnd:=aj 0) (c:=cH) (elt:=jD) (fun τ=>∃ v n,τ=[v,some (.lst [.int n],.u)]) (fun d=>plB d=true) (ds:=(ai k).map Td) (τ:=[none,some (.lst [.int n],.u)]) ⟨none,n,rfl⟩ (by
  rintro d hd τ ⟨v,n,rfl⟩
  have t:=bM n 2 (by decide)
  obtain ⟨i,hi,f⟩:=je n (m:=2) (by decide)
  rw [show ((2:Nat):Int)=2 from rfl] at f
  rw [f] at t
  obtain ⟨x,h,q⟩:∃ x,ao (.lst [.int (-1),.int 1]) (.int (i:Int))=some (x,.z)/\plB x=true:=by
   have a:i < [L3.D.int (-1),.int 1].length:=hi
   refine ⟨_,i7 (lI (zV a)),cM ?_⟩
   have:=List.getElem_mem a
   generalize [L3.D.int (-1),.int 1][i]=y at *
   simp only [zU,List.not_mem_nil,or_false] at this
   rcases this with rfl | rfl <;> simp
  generalize n / 2=n1 at *
  refine ⟨[some (d,.z),some (.lst [.int n],.u)],[some (d,.z),some (.lst [.int n],.u)],.val x .z,[some (d,.z),some (.lst [.int n1],.u)],(x,.z),[some (d,.z),some (.lst [.int n1],.u)],rfl,rfl,?_,rfl,q,_,_,rfl⟩
  have o:k8 (.int 1)=some (.int (-1),.z):=rfl
  clear q
  unfold jD
  (nomatch [t],[o,h]))
 refine ⟨b,X,?_,l,by rw [j,zZ];exact sm⟩
 have sl:((ai k).map Td).length < 16777216:=by rw [zZ];omega
 generalize (ai k).map Td=Y at *
 generalize L3.D.int (k:Int)=N at *
 exact bh (rs:=[.val (.lst Y) .u]) (ρ1:=[some (S,.z),some (L,.z),some (.lst [.int n],.u),some (N,.z),some (W,.z),some (V,.z),v6,v7,v8,v9,v10]) (ds:=Y) (by (nomatch [th])) e sl rfl
theorem xT {xs:List L3.D} (f:∀ d ∈ xs,plB d=true/\(d=.int 1\/d=.int (-1))) (j:xs.length<=15625) {V:L3.D} (l:inB V=true) (n:Int) {S L N:L3.D} {v6 v7 v8 v9 v10:Option (L3.D × Fl)}:∃ b X,mE [some (S,.z),some (L,.z),some (.lst [.int n],.u),some (N,.z),some (.tup xs,.z),some (V,.z),v6,v7,v8,v9,v10]=some (.ok (.val (.lst X) .u),[some (S,.z),some (L,.z),some (.lst [.int b],.u),some (N,.z),some (.tup xs,.z),some (V,.z),v6,v7,v8,v9,v10])/\(∀ d ∈ X,Gt d)/\X.length=5:=by
 obtain ⟨X,τ',e,⟨v,b,rfl⟩,k,a⟩:=dW (bnd:=aj 0) (c:=cH) (elt:=jC) (fun τ=>∃ v n,τ=[v,some (.lst [.int n],.u),some (.tup xs,.z),some (V,.z)]) Gt (ds:=aV 0 5) (τ:=[none,some (.lst [.int n],.u),some (.tup xs,.z),some (V,.z)]) ⟨none,n,rfl⟩ (by
  rintro d hd τ ⟨v,n,rfl⟩
  obtain ⟨g,x,h,q⟩:=rZ f j l n
  refine ⟨[some (d,.z),some (.lst [.int n],.u),some (.tup xs,.z),some (V,.z)],[some (d,.z),some (.lst [.int n],.u),some (.tup xs,.z),some (V,.z)],.val x .z,[some (d,.z),some (.lst [.int g],.u),some (.tup xs,.z),some (V,.z)],(x,.z),[some (d,.z),some (.lst [.int g],.u),some (.tup xs,.z),some (V,.z)],rfl,rfl,?_,rfl,q,_,_,rfl⟩
  clear q f
  generalize L3.D.tup xs=R at *
  unfold jC
  exact ak h (aO (aD rfl) (aO (aD rfl) (aO (aD rfl) bK))) rfl rfl rfl)
 refine ⟨b,X,?_,k,by rw [a,bx]⟩
 generalize L3.D.tup xs=R at *
 have i:b8 [.int 5]=some (aV 0 5):=cR (by decide) (by decide)
 exact bh (rs:=[]) (ρ1:=[some (S,.z),some (L,.z),some (.lst [.int n],.u),some (N,.z),some (R,.z),some (V,.z),v6,v7,v8,v9,v10]) (ds:=aV 0 5) (by (repeat' (first | with_reducible apply dl (h3:=i) | infer_instance | eq_refl))) e (by rw [bx];decide) rfl
theorem tv {ns:List Int} (k:Nat) {v2 v3 v4 v5 v6 v7 v8 v9 v10:Option (L3.D × Fl)}:∃ K U H P M w7 v r f,gu [some (.fls (ns.map .int),.z),some (.int k,.z),v2,v3,v4,v5,v6,v7,v8,v9,v10]=some (.ok .nx,[some (.fls (ns.map .int),.z),some (.int k,.z),K,U,H,P,M,w7,v,r,f]):=by
 obtain ⟨n,Z⟩:=uX ns k
 have t:=bM n 7 (by decide)
 have d0:=bI n 7 (by decide)
 obtain ⟨many,hm⟩:∃ m:Nat,1+n % 7=(m:Int):=⟨(1+n % 7).toNat,by omega⟩
 have T:1<=many:=by omega
 have m2:many<=7:=by omega
 obtain ⟨q,s,ed,g,gl⟩:=ql (n / 7) many (by omega) (by omega)
 subst gl
 have sgn:∀ t ∈ ai s.length,tn s t=1\/tn s t = -1:=fun t ht=>by
  obtain ⟨a,b,c⟩:=dN ht
  exact g.sgn _ _ _ a b c
 have y:=pl_S sgn
 have O:(SgD s).length<=15625:=by rw [zZ];exact bU (by omega)
 have t0:=bM q 16 (by decide)
 obtain ⟨a,G,x⟩:=je q (m:=16) (by decide)
 rw [show ((16:Nat):Int)=16 from rfl] at x
 rw [x] at t0
 clear x
 generalize q / 16=n3 at *
 obtain ⟨V,X,w⟩:=ov_at a G
 have Y:=uT t0 X
 obtain ⟨o1,o2,o3⟩:=yM w
 generalize L3.D.fls (ns.map .int)=S at *
 generalize L3.D.int (k:Int)=L at *
 obtain ⟨F,e,l1,p,I⟩:=xU (k:=s.length) (by omega) n3 (S:=S) (L:=L) (W:=.tup (SgD s)) (V:=V) (v6:=v6) (v7:=v7) (v8:=v8) (v9:=v9) (v10:=v10)
 obtain ⟨j,h,J,o,C⟩:=xT y O o3 F (S:=S) (L:=L) (N:=.int (s.length:Int)) (v6:=some (.tup e,.z)) (v7:=v7) (v8:=v8) (v9:=v9) (v10:=v10)
 have tp:jQ [.lst e]=some (.tup e,.z):=rfl
 have Q:aQ (.lst [.tup (SgD s),V,.tup [],.tup [.int 1],.tup e]) (.lst h)=some (.lst ([.tup (SgD s),V,.tup [],.tup [.int 1],.tup e] ++ h),.u):=lu (by rw [C] <;> exact Nat.le_of_ble_eq_true rfl)
 have E:∀ d ∈ ([.tup (SgD s),V,.tup [],.tup [.int 1],.tup e] ++ h:List L3.D),Gt d:=by
  intro d hd
  rcases zX.mp hd with hd | hd
  ·simp only [zU,List.not_mem_nil,or_false] at hd
   rcases hd with rfl | rfl | rfl | rfl | rfl
   ·exact fY (fun d hd=>(y d hd).1) (by omega)
   ·exact ⟨th_of o1,sh_b o2⟩
   ·exact fY (fun d hd=>by cases hd) (by decide)
   ·exact fY (fun d hd=>by rw [Ao.mp hd];exact cM (by simp)) (by decide)
   ·exact fY p (by omega)
  ·exact o d hd
 obtain ⟨v,r,f,lo⟩:=nG T (by omega) E (S:=S) (L:=L) (B:=.lst [.int j]) (v4:=some (.tup (SgD s),.z)) (v5:=some (V,.z)) (v6:=some (.tup e,.z)) (v7:=some (.lst ([.tup (SgD s),V,.tup [],.tup [.int 1],.tup e] ++ h),.l)) (v8:=v8) (v9:=v9) (v10:=v10)
 refine ⟨some (.lst [.int j],.u),some (.int (s.length:Int),.z),some (.tup (SgD s),.z),some (V,.z),some (.tup e,.z),some (.lst ([.tup (SgD s),V,.tup [],.tup [.int 1],.tup e] ++ h),.u),v,r,f,?_⟩
 clear E p o y sgn
 unfold gu
 apply ag (ρ1:=[some (S,.z),some (L,.z),some (.lst [.int n],.u),v3,v4,v5,v6,v7,v8,v9,v10])
 ·nomatch [Z]
 apply ag (ρ1:=[some (S,.z),some (L,.z),some (.lst [.int (n / 7)],.u),some (.int s.length,.z),v4,v5,v6,v7,v8,v9,v10])
 ·rw [<- hm]
  nomatch [t]
 generalize ([.tup (SgD s),V,.tup [],.tup [.int 1],.tup e] ++ h:List L3.D)=A at *
 generalize L3.D.tup (SgD s)=R at *
 generalize L3.D.int (s.length:Int)=N at *
 apply ag (ρ1:=[some (S,.z),some (L,.z),some (.lst [.int q],.u),some (N,.z),some (R,.z),v5,v6,v7,v8,v9,v10])
 ·nomatch [ed]
 apply ag (ρ1:=[some (S,.z),some (L,.z),some (.lst [.int n3],.u),some (N,.z),some (R,.z),some (V,.z),v6,v7,v8,v9,v10])
 ·nomatch [Y]
 apply ag (ρ1:=[some (S,.z),some (L,.z),some (.lst [.int F],.u),some (N,.z),some (R,.z),some (V,.z),some (.tup e,.z),v7,v8,v9,v10])
 ·(repeat' (first | with_reducible exact l1 | infer_instance | exact tp | eq_refl))
 apply ag (ρ1:=[some (S,.z),some (L,.z),some (.lst [.int j],.u),some (N,.z),some (R,.z),some (V,.z),some (.tup e,.z),some (.lst A,.u),v8,v9,v10])
 ·exists Q,J
 exact oD (is:=[7]) (ρ1:=[some (S,.z),some (L,.z),some (.lst [.int j],.u),some (N,.z),some (R,.z),some (V,.z),some (.tup e,.z),some (.lst A,.u),v8,v9,v10]) (ρ2:=[some (S,.z),some (L,.z),some (.lst [.int j],.u),some (N,.z),some (R,.z),some (V,.z),some (.tup e,.z),some (.lst A,.l),v,r,f]) (jg (aD (i:=7) rfl) rfl rfl) rfl lo
theorem uV (ns:List Int) (j:ns.length<=63):xk [(.fls (ns.map .int),.z)]=some (.ok (.bl true,.z),[(.fls (ns.map .int),.z)]):=by
 have a:∃ m:Nat,(if (if ((4:Int) < ((ns.map L3.D.int).length:Int)) then (4:Int) else ((ns.map L3.D.int).length:Int)) > 1 then (if ((4:Int) < ((ns.map L3.D.int).length:Int)) then (4:Int) else ((ns.map L3.D.int).length:Int)) else (1:Int))=(m:Int)/\m<=4:=by
  refine ⟨max 1 (min ns.length 4),?_,by omega⟩
  simp only [zZ]
  split <;> split <;> omega
 obtain ⟨m,hm,f⟩:=a
 obtain ⟨ρ',e,v1,v2,v3,v4,v5,v6,v7,v8,v9,v10,rfl⟩:=bO (bnd:=aj 1) (b:=gu) (fun _ ρ=>∃ v1 v2 v3 v4 v5 v6 v7 v8 v9 v10,ρ=[some (.fls (ns.map .int),.z),v1,v2,v3,v4,v5,v6,v7,v8,v9,v10]) (ds:=aV 0 m) (ρ:=[some (.fls (ns.map .int),.z),none,none,none,none,none,none,none,none,none,none]) (k:=0) ⟨_,_,_,_,_,_,_,_,_,_,rfl⟩ (by
  rintro i d ρ hd ⟨v1,v2,v3,v4,v5,v6,v7,v8,v9,v10,rfl⟩
  obtain ⟨hi,rfl⟩:=cA hd
  rw [Int.zero_add]
  obtain ⟨s,o,h,n,l,q,r,p,g,e⟩:=tv (ns:=ns) i (v2:=v2) (v3:=v3) (v4:=v4) (v5:=v5) (v6:=v6) (v7:=v7) (v8:=v8) (v9:=v9) (v10:=v10)
  exact ⟨_,_,rfl,.inl e,_,_,_,_,_,_,_,_,_,_,rfl⟩)
 have c:b8 [.int (if (if ((4:Int) < ((ns.map L3.D.int).length:Int)) then (4:Int) else ((ns.map L3.D.int).length:Int)) > 1 then (if ((4:Int) < ((ns.map L3.D.int).length:Int)) then (4:Int) else ((ns.map L3.D.int).length:Int)) else (1:Int))]=some (aV 0 m):=by
  rw [hm]
  exact cR (by omega) (by omega)
 apply aT (ρ:=[some (.fls (ns.map .int),.z),none,none,none,none,none,none,none,none,none,none]) rfl rfl
 ·apply ag
  ·apply eM
   ·(repeat' (first | with_reducible apply dl (h3:=c) | infer_instance | eq_refl))
   ·rfl
   ·exact e
  ·nofun
 ·rfl
end Bn
end
namespace Bn
open PySem L2 L3
theorem zJ {l : PySem.W.OpenLaw} {w : World} {K : FG} {h : Heap} {mg : Str -> Option Value} {fa : Addr} (X : K.In h) (G : h.Ns mainGlobals mg) (a4 : mg "law" = some (.ref fa)) (e : uQ K = pF) :
  ∃ fd : FuncData, (∀ (s : Shared) (v : Value), BindsTo s fd ⟨[v], []⟩ [("_law_script", v)]) /\ ∀ base : Heap, K.In base -> base.Ns mainGlobals mg -> FnOk l.prog w K mg base CX0 6 fa fd ["_law_script"] (rL K) := by
 have u : dsL.map (fun p => mR K p.1) = dsL.map (fun p => jL p.1 p.2) := congrArg (fun x => x.1) e
 have e1 : blL.map (PySem.W.nsIn K mainGlobals) = blL.map (fun _ => some none) := congrArg (fun x => x.2.1) e
 have Y : ciL.map (fun p => lg K p.1) = ciL.map (fun p => some p.2) := congrArg (fun x => x.2.2.1) e
 have e3 : csL.map (fun p => rK K p.1) = csL.map (fun p => some p.2) := congrArg (fun x => x.2.2.2) e
 have B : Bl mg := ⟨bZ X G e1 0 rfl, bZ X G e1 1 rfl, bZ X G e1 2 rfl, bZ X G e1 3 rfl, bZ X G e1 4 rfl, bZ X G e1 5 rfl, bZ X G e1 6 rfl, bZ X G e1 7 rfl, bZ X G e1 8 rfl, bZ X G e1 9 rfl, bZ X G e1 10 rfl, bZ X G e1 11 rfl, bZ X G e1 12 rfl, bZ X G e1 13 rfl, bZ X G e1 14 rfl, bZ X G e1 15 rfl, bZ X G e1 16 rfl, bZ X G e1 17 rfl, bZ X G e1 18 rfl, bZ X G e1 19 rfl⟩
 have D0 : Def K mg "is_whole" d9 := aZ X G u 0 rfl
 have D1 : Def K mg "check_number" b9 := aZ X G u 1 rfl
 have D2 : Def K mg "threes" gg := aZ X G u 2 rfl
 have D3 : Def K mg "fours" jb := aZ X G u 3 rfl
 have D4 : Def K mg "is_sign" fB := aZ X G u 4 rfl
 have D5 : Def K mg "turns_by_signs" bF := aZ X G u 5 rfl
 have D6 : Def K mg "change_once_at_most" a9 := aZ X G u 6 rfl
 have D7 : Def K mg "are_signs_of" cb := aZ X G u 7 rfl
 have D8 : Def K mg "are_signs" dy := aZ X G u 8 rfl
 have D9 : Def K mg "_law_box" ja := aZ X G u 9 rfl
 have U : Def K mg "_law_take" gh := aZ X G u 10 rfl
 have az : Def K mg "_law_whole" fw := aZ X G u 11 rfl
 have a3 : Def K mg "_law_odd" i9 := aZ X G u 12 rfl
 have S : Def K mg "_law_bend" gk := aZ X G u 13 rfl
 have O : Def K mg "_law_free" gi := aZ X G u 14 rfl
 have T : Def K mg "_law_sheet" fA := aZ X G u 15 rfl
 have ar : Def K mg "_law_threes" d8 := aZ X G u 16 rfl
 have N : Def K mg "_law_signs" fy := aZ X G u 17 rfl
 have V : Def K mg "_law_are_signs" cz := aZ X G u 18 rfl
 have Z : Def K mg "_law_sheet_of" cQ := aZ X G u 19 rfl
 have ax : Def K mg "_law_drawn_signs" bP := aZ X G u 20 rfl
 have a0 : Def K mg "_law_bent" gj := aZ X G u 21 rfl
 obtain ⟨f, fd, F0, hf⟩ : Def K mg "law" eT := aZ X G u 22 rfl
 cases a4.symm.trans hf
 have F := F0
 obtain ⟨oc, od, kV, doc, pm, an, R, ct, be, ef, lk, a8⟩ := F0.ex
 subst ef
 obtain ⟨a6, Q0⟩ := oB X G Y 0 (n := "DOWN") (v := -1) rfl
 obtain ⟨a7, Q1⟩ := oB X G Y 1 (n := "UP") (v := 1) rfl
 obtain ⟨a5, Q2⟩ := oB X G Y 2 (n := "MOST_POINTS") (v := 24) rfl
 refine ⟨PySem.W.fnOf "law" "law" (ba eT) (aM eT) (ah eT) .none kV doc pm an R ct, fun s v => .of_eq rfl, fun base _ _ => ?_⟩
 have q := lF (P := l.prog) (w := w) (base := base) B D0
 have r := iD (P := l.prog) (w := w) (base := base) B D1 q
 have m := oH (P := l.prog) (w := w) (base := base) B D2
 have M := rf (P := l.prog) (w := w) (base := base) B D3 m
 have L := m9 (P := l.prog) (w := w) (base := base) B D4 q Q0 Q1
 have i := fZ (P := l.prog) (w := w) (base := base) B D5 m
 have d := dX (P := l.prog) (w := w) (base := base) B D6
 have t := iE (P := l.prog) (w := w) (base := base) B D7 d M L m i
 have C := jX (P := l.prog) (w := w) (base := base) B D8 t r Q2
 have J := re (P := l.prog) (w := w) (base := base) B D9
 have a := oI (P := l.prog) (w := w) (base := base) B U
 have A := m6 (P := l.prog) (w := w) (base := base) B az
 have I := qZ (P := l.prog) (w := w) (base := base) B a3 a
 have k := oM (P := l.prog) (w := w) (base := base) B S
 have j := oJ (P := l.prog) (w := w) (base := base) B O k
 have y := m8 (P := l.prog) (w := w) (base := base) B T j a
 have b := lE (P := l.prog) (w := w) (base := base) B ar
 have z := m7 (P := l.prog) (w := w) (base := base) B N k b
 have c := i5 (P := l.prog) (w := w) (base := base) B V b A
 have o := jN (P := l.prog) (w := w) (base := base) B Z j y a
 have g := hU (P := l.prog) (w := w) (base := base) B ax c o z a
 have D := oK (P := l.prog) (w := w) (base := base) B a0 a
 exact FnOk.imp (wn (P := l.prog) (w := w) (base := base) B F c D J g I a b C) fun vs H Q E h => wd (fun ns hn => ⟨_, uV ns hn⟩) h
theorem walkL : PySem.W.WalkO viL loL (fun _ _ => True) (fun _ h => ∃ K : FG, K.In h /\ uQ K = pF) PySem.Challenge.rw_bentrows_k51_signs_known.row.toRowW ⟨"law", ba eT, aM eT, ah eT, stPos eT⟩ [] (fun f vs => PySem.call f vs) :=
 L2.walk_ofS (l := PySem.Challenge.rw_bentrows_k51_signs_known) (n := 63) (k := 6) (x := "_law_script") (S := fun K => uQ K = pF) (CX := CX0) (sp := rL) rfl (by decide) rfl ⟨rfl, by decide, by decide, rfl⟩ (fun _ _ z => z) (fun _ _ _ _ _ e X G hm => zJ X G hm e) (fun _ _ a ns b d c => ⟨a, ns, rfl, c, d, b, fun _ => rfl⟩) fun _ _ _ _ z => z
end Bn
open PySem PySem.W PyProof.Rows
set_option maxRecDepth 100000 in
set_option maxHeartbeats 0 in
theorem PySem.Challenge.cw_bentrows_k51_signs_known_holds : PySem.Challenge.rw_bentrows_k51_signs_known.Holds :=
 holds_law Bn.okL fun said => holds_open (r := PySem.Challenge.rw_bentrows_k51_signs_known.row) Bn.leftL (fun _ _ e => ⟨_, L2.fragAt_in _, e⟩) (fun _ _ _ ⟨K, X, e⟩ k => ⟨K, X.keeps k, e⟩) (fun _ _ => trivial) (fun _ _ _ _ _ => trivial) (by kernel_rfl) (by kernel_rfl) (by kernel_rfl) (fun s e => recFacts_of e) (by rfl) said (by kernel_rfl) ⟨rfl, rfl, rfl, rfl, rfl, by decide +kernel⟩ ⟨[.list []], by decide +kernel, by decide +kernel⟩ Bn.walkL
