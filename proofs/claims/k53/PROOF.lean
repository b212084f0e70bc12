import PyProof.Rows.All
import Wide.All
import OpenK.AllK
import Wide.FinOn
import Lean
import PyProof.EqAt
import PyProof.EqKinds
import PyProof.TupleCall
import PyProof.P3Eq
import PyProof.NeData
import PyProof.ListRange
import PyProof.Rows.CallKwBuiltin
import PyProof.Rows.Range3
import PyProof.DictWalks
import PyProof.MinMaxWalk
import PyProof.WalkInts
import PyProof.Walk
import PyProof.WalkLemmas
import PyProof.RulesTry
import PyProof.ZipIter
import PyProof.AttrMissHeap
import PyProof.FactsAll.zip
import PyProof.DictUpdate
import KE.KDictOf
import PySem.Challenge.RW_bentrows_k53_cups_by_signs
set_option tactic.hygienic false
set_option genSizeOf false
set_option Elab.async false
set_option linter.all false
set_option maxRecDepth 100000
set_option maxHeartbeats 4000000
section
abbrev FG:=PySem.W.Frag
open PySem PySem.Spec PyProof.Rows
abbrev B5:=@wpAny_bind
abbrev B6:=@wpAny_pure
abbrev B7:=@wpAny_holding
abbrev B8:=@List.mem_cons_self
abbrev B9:=@List.mem_cons_of_mem
abbrev Ca:=@Heap.get?_push_of_some
abbrev Cc:=@Option.map_eq_some_iff
abbrev Cd:=@List.mem_append_left
abbrev Ce:=@List.mem_append_right
abbrev Cf:=@List.mem_cons
abbrev Cg:=@List.getElem?_eq_getElem
abbrev Ch:=@Heap.lt_size
abbrev Ci:=@List.mem_append
abbrev Cj:=@Heap.get?_push_size
abbrev Ck:=@List.length_map
abbrev Cl:=@List.getElem?_eq_some_iff
abbrev Cm:=@List.mem_of_getElem?
abbrev Cn:=@List.sublist_append_right
abbrev Co:=@List.mem_map
abbrev Cp:=@List.getElem?_map
abbrev Cq:=@Nat.le_refl
abbrev Cr:=@Bool.false_ne_true
abbrev Cs:=@Nat.ne_of_lt
abbrev Ct:=@List.size_toArray
abbrev Cu:=@List.map_cons
abbrev Cv:=@decide_eq_true
abbrev Cw:=@decide_eq_false
abbrev Cy:=@Nat.lt_of_lt_of_le
abbrev Cz:=@Nat.zero_add
abbrev CA:=@Heap.get?_update_self
abbrev CB:=@List.length_append
abbrev CC:=@List.length_cons
abbrev CD:=@List.length_take
abbrev CF:=@Option.map_some
abbrev CG:=@Option.bind_eq_some_iff
abbrev CH:=@List.mem_singleton
abbrev CI:=@Bool.false_eq_true
abbrev CJ:=@List.mem_filter
abbrev CK:=@List.getElem?_append_left
abbrev CL:=@Heap.get?_update_other
abbrev CM:=@Heap.size_push
abbrev CN:=@wpAny_truthy_bool
abbrev CO:=@Nat.le_trans
abbrev CP:=@List.take_of_length_le
abbrev CQ:=@List.filter_eq_self
abbrev CS:=@List.mem_flatMap
abbrev CT:=@List.map_map
abbrev CU:=@List.map_congr_left
abbrev CV:=@Option.some.inj
abbrev CW:=@List.length_eq_zero_iff
end
section
namespace L2
open PySem
noncomputable def bD (s : Stmt) : Arguments := match s with
  | .FunctionDef _ a _ _ _ _ _ _ _ _ => a
  | _ => { posonlyargs := [], args := [], vararg := none, kwonlyargs := [], kw_defaults := [], kwarg := none, defaults := [] }
noncomputable def ba (s : Stmt) : List Stmt := match s with
  | .FunctionDef _ _ b _ _ _ _ _ _ _ => b
  | _ => []
noncomputable def al (s : Stmt) : Scope := match s with
  | .FunctionDef _ _ _ _ _ _ sc _ _ _ => sc
  | _ => { kind := .function, names := [], isGenerator := false, isCoroutine := false }
noncomputable def wQ (h : Heap) : FG := (List.range h.objs.size).filterMap fun a => (h.get? a).map fun o => (a, o)
noncomputable def refIn (K : FG) (n : Str) : Addr := match PySem.W.nsIn K mainGlobals n with
  | some (some (.ref f)) => f
  | _ => 0
noncomputable abbrev ow := Str × Str × Arguments × FuncBody × Scope × Addr × List (Str × Addr) × Value × Addr × Bool
noncomputable def pG (K : FG) (n : Str) : Option ow := match PySem.W.nsIn K mainGlobals n with
  | some (some (.ref f)) => (match K.lookup f with
    | some ⟨_, _, .func fd, _⟩ => some (fd.name, fd.qualname, fd.params, fd.body, fd.scope, fd.globals, fd.closure, fd.defaults, fd.builtins, PySem.W.codeIn K fd.code n)
    | _ => none)
  | _ => none
noncomputable def lZ (n : Str) (st : Stmt) : Option ow := some (n, n, bD st, .stmts (ba st), al st, mainGlobals, [], .none, builtinsNs, true)
noncomputable def nW (K : FG) (n : Str) : Option Int := match PySem.W.nsIn K mainGlobals n with
  | some (some (.int v _)) => some v
  | _ => none
noncomputable def vh (K : FG) (n : Str) : Option Str := match PySem.W.nsIn K mainGlobals n with
  | some (some (.str v _)) => some v
  | _ => none
open PySem.W PyProof.Rows in
theorem t8 {p q : Program} {loose : List Str} {Xt : Shared → Bool} {α : Type} {Yf : Shared → α} {Ya : World → α} {N m : Nat} {ann : Option Value}
    (e : opening p = plainProg p.main.scope.names) (hN : Nat.ble 600 N = true) (f : ∀ s, fenceModules? p s = some s)
    (sz : ∀ w : World, ((boot_heap w.params).isNs mainGlobals && (Array.mk [] : Array GenState).size == 0, (boot_heap w.params).objs.size, (boot_heap w.params).nsMap mainGlobals "__annotations__") = (true, m, ann))
    (go : ∀ (w : World) (os : OsState), (PySem.W.Fast.tw14082659384304107361 PySem.W.Fast.tw14364793385576792824 p w m ann N ⟨boot_heap w.params, Array.mk [], boot_drawn, boot_toks, os⟩ (topStub p)).map (fun s => ((staticsOk (importedModules p.main.body) (boot_heap w.params) s.heap && namesBound p s.heap && gensDone s && laidKept (boot_heap w.params) s.heap), PySem.W.Fast.tw4187177175401517315 q loose (importedModules p.main.body) Xt true s, Yf s)) = some (true, openGood q loose, Ya w)) : LeftO p q loose Xt Yf Ya N := fun w => by
  obtain ⟨⟨hp, gn, dr, tk, os⟩, ea, eb⟩ := Cc.mp (boot_open e hN f w)
  obtain ⟨rfl, rfl, rfl, rfl⟩ : hp = boot_heap w.params ∧ gn = Array.mk [] ∧ dr = boot_drawn ∧ tk = boot_toks := by simpa using eb
  have sw := sz w
  have rw0 := go w os
  rw [← PySem.W.Fast.te14082659384304107361, ← PySem.W.Fast.te14364793385576792824, ← PySem.W.Fast.te4187177175401517315] at rw0
  simp only [Prod.mk.injEq] at sw
  obtain ⟨s, ec, ed⟩ := Cc.mp rw0
  simp only [Prod.mk.injEq] at ed
  have tt : topFrom treeTable p w N ⟨boot_heap w.params, Array.mk [], boot_drawn, boot_toks, os⟩ = some s := by
    unfold topFrom
    dsimp only
    rw [sw.1, sw.2.1, sw.2.2, ec]
    change (match staticsOk (importedModules p.main.body) (boot_heap w.params) s.heap && namesBound p s.heap && gensDone s && laidKept (boot_heap w.params) s.heap with | true => some s | false => none) = some s
    rw [ed.1]
  unfold openEnds
  rw [ea]
  change Option.map _ (topFrom treeTable p w N _) = _
  rw [tt]
  exact congrArg some (Prod.ext ed.2.1 ed.2.2)
theorem sY {l : PySem.W.OpenLaw} (h : PySem.W.Fast.tw9446332074065402090 l = true) : l.wellSaid = true := by rw [← PySem.W.Fast.te9446332074065402090] at h; exact h
end L2
namespace Bn
open PySem L2
noncomputable def top (i : Nat) : Stmt := PySem.Challenge.pw_bentrows_k53_cups_by_signs.main.body.getD i (.Pass ⟨0, 0, 0, 0⟩)
noncomputable abbrev gg : Stmt := top 5
noncomputable abbrev cY : Stmt := top 6
noncomputable abbrev jd : Stmt := top 9
noncomputable abbrev kN : Stmt := top 10
noncomputable abbrev cW : Stmt := top 14
noncomputable abbrev dG : Stmt := top 15
noncomputable abbrev ir : Stmt := top 17
noncomputable abbrev cr : Stmt := top 18
noncomputable abbrev bC : Stmt := top 19
noncomputable abbrev cZ : Stmt := top 20
noncomputable abbrev dI : Stmt := top 21
noncomputable abbrev cX : Stmt := top 22
noncomputable abbrev kM : Stmt := top 24
noncomputable abbrev je : Stmt := top 25
noncomputable abbrev il : Stmt := top 26
noncomputable abbrev jg : Stmt := top 27
noncomputable abbrev jf : Stmt := top 28
noncomputable abbrev ip : Stmt := top 29
noncomputable abbrev gf : Stmt := top 30
noncomputable abbrev io : Stmt := top 31
noncomputable abbrev dH : Stmt := top 32
noncomputable abbrev eh : Stmt := top 34
noncomputable abbrev cE : Stmt := top 33
noncomputable abbrev iq : Stmt := top 36
noncomputable abbrev kK : Stmt := top 35
noncomputable abbrev gM : Stmt := top 37
noncomputable abbrev dsL : List (Str × Stmt) := [(("is_whole" : Str), gg), (("check_number" : Str), cY), (("threes" : Str), jd), (("fours" : Str), kN), (("onward_table" : Str), cW), (("longest_row" : Str), dG), (("is_sign" : Str), ir), (("turns_by_signs" : Str), cr), (("change_once_at_most" : Str), bC), (("are_signs_of" : Str), cZ), (("check_signs" : Str), dI), (("cup_by_signs" : Str), cX), (("_law_box" : Str), kM), (("_law_take" : Str), je), (("_law_whole" : Str), il), (("_law_bend" : Str), jg), (("_law_free" : Str), jf), (("_law_sheet" : Str), ip), (("_law_threes" : Str), gf), (("_law_signs" : Str), io), (("_law_are_signs" : Str), dH), (("_law_sheet_of" : Str), eh), (("_law_drawn_signs" : Str), cE), (("_law_pairs" : Str), iq), (("_law_due" : Str), kK), (("law" : Str), gM)]
noncomputable abbrev blL : List Str := [("len" : Str), ("range" : Str), ("abs" : Str), ("divmod" : Str), ("enumerate" : Str), ("tuple" : Str), ("isinstance" : Str), ("int" : Str), ("bool" : Str), ("all" : Str), ("str" : Str), ("max" : Str), ("min" : Str), ("list" : Str), ("dict" : Str), ("repr" : Str), ("sorted" : Str), ("set" : Str), ("zip" : Str), ("reversed" : Str)]
noncomputable abbrev ciL : List (Str × Int) := [(("DOWN" : Str), (-1 : Int)), (("UP" : Str), (1 : Int)), (("MOST_POINTS" : Str), (24 : Int))]
noncomputable abbrev csL : List (Str × Str) := []
noncomputable def x5 (K : FG) : List (Option ow) × List (Option (Option Value)) × List (Option Int) × List (Option Str) := (dsL.map (fun p => pG K p.1), blL.map (PySem.W.nsIn K mainGlobals), ciL.map (fun p => nW K p.1), csL.map (fun p => vh K p.1))
noncomputable def sf : List (Option ow) × List (Option (Option Value)) × List (Option Int) × List (Option Str) := (dsL.map (fun p => lZ p.1 p.2), blL.map (fun _ => some none), ciL.map (fun p => some p.2), csL.map (fun p => some p.2))
theorem okL : PySem.Challenge.rw_bentrows_k53_cups_by_signs.wellSaid = true := sY (by kernel_rfl)
noncomputable abbrev loL : List Str := [("BentError" : Str), ("NoNumber" : Str), ("NoSigns" : Str), ("is_whole" : Str), ("check_number" : Str), ("MOST_POINTS" : Str), ("threes" : Str), ("fours" : Str), ("UP" : Str), ("DOWN" : Str), ("onward_table" : Str), ("longest_row" : Str), ("is_sign" : Str), ("turns_by_signs" : Str), ("change_once_at_most" : Str), ("are_signs_of" : Str), ("check_signs" : Str), ("cup_by_signs" : Str), ("_law_box" : Str), ("_law_take" : Str), ("_law_whole" : Str), ("_law_bend" : Str), ("_law_free" : Str), ("_law_sheet" : Str), ("_law_threes" : Str), ("_law_signs" : Str), ("_law_are_signs" : Str), ("_law_drawn_signs" : Str), ("_law_sheet_of" : Str), ("_law_due" : Str), ("_law_pairs" : Str)]
noncomputable abbrev viL : Program := PySem.W.view PySem.Challenge.rw_bentrows_k53_cups_by_signs.row.prog [37]
theorem leftL : PySem.W.LeftO PySem.Challenge.rw_bentrows_k53_cups_by_signs.row.prog viL loL (fun s => PySem.W.recOk (PySem.W.RowW.records PySem.Challenge.rw_bentrows_k53_cups_by_signs.row.toRowW) s) (fun s => x5 (wQ s.heap)) (fun _ => sf) 40000 :=
  t8 (m := 11) (ann := some (.ref 6)) (by kernel_rfl) rfl (fun _ => rfl) (fun w => by kernel_rfl) (fun w os => by kernel_rfl)
end Bn
end
section
namespace L2
open PySem PySem.Spec PyProof.Rows
noncomputable abbrev Key:=Sum Int Str
noncomputable def mY:Key->Value->Bool
  | .inl k,v=>Value.isInt k v
  | .inr x,v=>Value.isStrOf x v
noncomputable def keyH (w:World):Key->Int
  | .inl k=>hashInt k
  | .inr x=>hashStr w x
theorem bK:∀ {k:Key} {v:Value},mY k v=true->(∃ i t,k=Sum.inl i/\v=Value.int i t)\/(∃ x t,k=Sum.inr x/\v=Value.str x t)
  | .inl i,v,h=>by
    obtain ⟨t,e⟩:=Value.isInt_shape (k:=i) (v:=v) h
    exact .inl ⟨i,t,rfl,e⟩
  | .inr x,v,h=>by
    obtain ⟨t,e⟩:=Value.isStrOf_shape (x:=x) (v:=v) h
    exact .inr ⟨x,t,rfl,e⟩
theorem uc (i:Int) (t:Tok):mY (.inl i) (.int i t)=true:=by simp [mY,Value.isInt]
theorem ub (x:Str) (t:Tok):mY (.inr x) (.str x t)=true:=by simp [mY,Value.isStrOf]
theorem BH (a b:Int):decide ((Sum.inl a:Key)=Sum.inl b)=(a == b):=by
  by_cases e:a=b
  · subst e;simp
  · have h:¬ (Sum.inl a:Key)=Sum.inl b:=fun q=>e (Sum.inl.inj q)
    rw [Cw h]
    exact (beq_eq_false_iff_ne.mpr e).symm
theorem BE (a b:Str):decide ((Sum.inr a:Key)=Sum.inr b)=decide (a=b):=by
  by_cases e:a=b
  · subst e;simp
  · have h:¬ (Sum.inr a:Key)=Sum.inr b:=fun q=>e (Sum.inr.inj q)
    rw [Cw h,Cw e]
theorem BG (a:Int) (b:Str):decide ((Sum.inl a:Key)=Sum.inr b)=false:=Cw (fun q=>nomatch q)
theorem BF (a:Str) (b:Int):decide ((Sum.inr a:Key)=Sum.inl b)=false:=Cw (fun q=>nomatch q)
noncomputable def bm (prog:Program) (w:World):PySem.KeyKind prog w Key where
  is:=mY
  hash:=keyH w
  inj:=fun v a b ha hb=>by
    rcases bK ha with ⟨i,t,rfl,rfl⟩ | ⟨x,t,rfl,rfl⟩
    · rcases bK hb with ⟨j,u,rfl,e⟩ | ⟨y,u,rfl,e⟩
      · injection e with e1 _;rw [e1]
      · exact nomatch e
    · rcases bK hb with ⟨j,u,rfl,e⟩ | ⟨y,u,rfl,e⟩
      · exact nomatch e
      · injection e with e1 _;rw [e1]
  byValue:=fun k v h=>by
    rcases bK h with ⟨i,t,rfl,rfl⟩ | ⟨x,t,rfl,rfl⟩ <;> rfl
  pyHash:=fun hv h=>by
    rcases bK hv with ⟨i,t,rfl,rfl⟩ | ⟨x,t,rfl,rfl⟩
    · exact wpAny_pyHash_int h
    · exact wpAny_pyHash_str h
  eqBool:=fun hu hv h=>by
    rcases bK hu with ⟨i,t,rfl,rfl⟩ | ⟨x,t,rfl,rfl⟩
    · rcases bK hv with ⟨j,u,rfl,rfl⟩ | ⟨y,u,rfl,rfl⟩
      · rw [BH] at h;exact wpAny_eqBool_int h
      · rw [BG] at h;exact SeqAt.EqAt.int_str i t y u _ _ _ _ h
    · rcases bK hv with ⟨j,u,rfl,rfl⟩ | ⟨y,u,rfl,rfl⟩
      · rw [BF] at h;exact SeqAt.EqAt.str_int x t j u _ _ _ _ h
      · rw [BE] at h;exact wpAny_eqBool_str h
  «strs»:=fun k x t v h=>by
    rcases bK h with ⟨i,u,rfl,e⟩ | ⟨y,u,rfl,e⟩
    · exact nomatch e
    · injection e with e1 _
      subst e1
      cases v <;> rfl
theorem pg (prog:Program) (w:World) (i:Int) (t:Tok):(bm prog w).is (.inl i) (.int i t)=true:=uc i t
theorem pe (prog:Program) (w:World) (x:Str) (t:Tok):(bm prog w).is (.inr x) (.str x t)=true:=ub x t
end L2
namespace L2
open PySem PySem.Spec PyProof.Rows
inductive V where
  | non | bl (b:Bool) | int (i:Int) | str (x:Str) | byt (b:Array UInt8) | flt (b:UInt64) | ref (a:Addr) | ty (n:String)
  deriving DecidableEq
noncomputable def RelV:V->Value->Prop
  | .non,u=>u=Value.none
  | .bl b,u=>u=Value.bool b
  | .int i,u=>∃ t,u=Value.int i t
  | .str x,u=>∃ t,u=Value.str x t
  | .byt b,u=>∃ t,u=Value.bytes b t
  | .flt b,u=>∃ t,u=Value.float b t
  | .ref a,u=>u=Value.ref a
  | .ty n,u=>u=Value.type n
noncomputable abbrev Vals:List V->List Value->Prop:=Paired RelV
theorem Vals.length {xs:List V} {us:List Value} (r:Vals xs us):xs.length=us.length:=Paired.length r
theorem Vals.get:∀ {xs:List V} {us:List Value} {i:Nat} {x:V},Vals xs us->xs[i]?=some x->∃ u,us[i]?=some u/\RelV x u
  | _,_,_,_,.nil,e=>by simp at e
  | _,_,0,_,.cons r _,e=>by simp at e;subst e;exact ⟨_,rfl,r⟩
  | _,_,i+1,x,.cons _ t,e=>by
    obtain ⟨u,h1,h2⟩:=Vals.get (i:=i) (x:=x) t (by simpa using e)
    exact ⟨u,by simpa using h1,h2⟩
theorem Vals.set {x:V} {u:Value} (r:RelV x u):∀ {xs:List V} {us:List Value} (i:Nat),Vals xs us->Vals (xs.set i x) (us.set i u)
  | _,_,_,.nil=>.nil
  | _,_,0,.cons _ t=>.cons r t
  | _,_,i+1,.cons q t=>.cons q (Vals.set r i t)
theorem Vals.append:∀ {xs ys:List V} {us ws:List Value},Vals xs us->Vals ys ws->Vals (xs ++ ys) (us ++ ws)
  | _,_,_,_,.nil,s=>s
  | _,_,_,_,.cons r t,s=>.cons r (Vals.append t s)
theorem Vals.take:∀ {xs:List V} {us:List Value} (n:Nat),Vals xs us->Vals (xs.take n) (us.take n)
  | _,_,0,_=>.nil
  | _,_,_+1,.nil=>.nil
  | _,_,n+1,.cons r t=>.cons r (Vals.take n t)
theorem Vals.drop:∀ {xs:List V} {us:List Value} (n:Nat),Vals xs us->Vals (xs.drop n) (us.drop n)
  | _,_,0,r=>r
  | _,_,_+1,.nil=>.nil
  | _,_,n+1,.cons _ t=>Vals.drop n t
noncomputable def RelO:Option V->Option Value->Prop
  | some v,some u=>RelV v u
  | none,none=>True
  | _,_=>False
noncomputable def KV {κ:Type}:List (κ × V)->List (κ × Value)->Prop:=Paired fun (p:κ × V) (q:κ × Value)=>p.1=q.1/\RelV p.2 q.2
noncomputable def kV:Key->V
  | .inl i=>.int i
  | .inr x=>.str x
inductive HO where
  | lst (xs:List V)
  | tup (xs:List V)
  | dK (kvs:List (Key × V)) | dT (kvs:List (List Key × V))
  | set (S:Int->Bool) (n:Nat)
  | ins (C dx:Addr) (fs:List (Str × V))
  | own (x:Addr)
  | xd (fs:List (Str × V))
  | met (f x:Addr)
  | rng (lo hi:Int)
  | frz (o:Obj) (u:HO)
  | tbl (ps:Array Value)
  | ext (φ:Heap->Prop)
noncomputable abbrev Hp:=Addr->Option HO
noncomputable def upd (H:Hp) (a:Addr) (o:HO):Hp:=fun b=>if b=a then some o else H b
theorem bh {H:Hp} {a:Addr} {o:HO}:upd H a o a=some o:=by unfold upd;rw [if_pos rfl]
theorem aL {H:Hp} {a b:Addr} {o:HO} (h:b ≠ a):upd H a o b=H b:=by unfold upd;rw [if_neg h]
theorem ne_of {H:Hp} {a b:Addr} {o u:HO} (h:H a=some o) (h':H b=some u) (d:o ≠ u):a ≠ b:=by
  intro e;subst e;rw [h] at h';exact d (CV h')
theorem bz {H:Hp} {a b:Addr} {o:HO} (h:H a=some o) (h':H b=none):a ≠ b:=by
  intro e;subst e;rw [h] at h';cases h'
noncomputable def DictOfE {prog:Program} {w:World} {κ:Type} [DecidableEq κ] (knd:KeyKind prog w κ) (h:Heap) (a:Addr) (kvs:List (κ × Value)):Prop :=
  ∃ o es ep,h.get? a=some o/\o.ExactDict/\o.data=.dict es ep/\KeysOf knd es/\Pairs knd es.toList kvs/\(kvs.map (·.1)).Nodup/\ep=es.size
theorem DictOfE.of {prog:Program} {w:World} {κ:Type} [DecidableEq κ] {knd:KeyKind prog w κ} {h:Heap} {a:Addr} {kvs:List (κ × Value)} (x:DictOfE knd h a kvs):h.DictOf knd a kvs:=let ⟨o,es,ep,h1,h2,h3,h4,h5,h6,_⟩:=x;⟨o,es,ep,h1,h2,h3,h4,h5,h6⟩
noncomputable def IsTupD (h:Heap) (a:Addr) (items:Array Value):Prop:=∃ o,h.get? a=some o/\o.cls=.type "tuple"/\∃ n,(o.data,o.dict)=(Data.seq items n,none)
theorem IsTupD.tup {h:Heap} {a:Addr} {items:Array Value} (x:IsTupD h a items):IsTup h a items:=let ⟨o,e,c,n,d⟩:=x;⟨o,e,c,n,congrArg Prod.fst d⟩
theorem IsTupD.lt {h:Heap} {a:Addr} {items:Array Value} (x:IsTupD h a items):a < h.objs.size:=x.tup.lt
theorem IsTupD.new (h:Heap) (items:Array Value):IsTupD (h.push { cls:=.type "tuple",data:=.seq items }) h.objs.size items:=⟨_,Cj h rfl,rfl,_,rfl⟩
section
variable (P:Program) (w:World)
noncomputable def ObjOk (H:Hp) (h:Heap) (a:Addr):HO->Prop
  | .lst xs=>xs.length<=sizeLine/\∃ (its:List Value) (n:Nat),Vals xs its/\h.get? a=some { cls:=.type "list",data:=.seq its.toArray n }
  | .tup xs=>xs.length<=sizeLine/\∃ its:List Value,Vals xs its/\IsTupD h a its.toArray
  | .dK kvs=>kvs.length<=sizeLine/\(a == sysModules)=false/\∃ vs,KV kvs vs/\DictOfE (bm P w) h a vs
  | .dT kvs=>kvs.length<=sizeLine/\(a == sysModules)=false/\∃ xs:List (List Key × Addr × Value),
      Paired (fun (p:List Key × V) (q:List Key × Addr × Value)=>p.1=q.1/\H q.2.1=some (.tup (p.1.map kV))/\RelV p.2 q.2.2) kvs xs /\
      ∃ o es ep,h.get? a=some o/\o.ExactDict/\o.data=.dict es ep/\es.toList=xs.map (entryOfKey (tupleKind (bm P w)))/\(xs.map (·.1)).Nodup/\ep=es.size
  | .set S n=>h.SetOf (intKind P w) a S n
  | .ins C dx fs=>H dx=some (.own a)/\fs.length<=1000/\dx ≠ a/\h.get? a=some (PySem.W.instObj C dx) /\
      ∃ mA,h.Ns1 dx mA/\(∀ f,RelO (fs.lookup f) (mA f))/\PySem.Within mA (fs.map (·.1))
  | .own _=>∃ o,h.get? a=some o
  | .xd fs=>∃ mA,h.Ns1 a mA/\∀ f,RelO (fs.lookup f) (mA f)
  | .rng lo hi=>∃ t u v,h.get? a=some { cls:=.type "range",data:=.fields #[.int lo t,.int hi u,.int 1 v] }
  | .frz o u=>h.get? a=some o/\ObjOk H h a u
  | .tbl ps=>h.get? a=some { cls:=.none,data:=.fields ps }
  | .met f x=>h.get? a=some (PySem.W.methodObj (.ref f) (.ref x))
  | .ext φ=>φ h/\(∃ o,h.get? a=some o)/\∀ h1 h2:Heap,φ h1->(∀ o,h1.get? a=some o->h2.get? a=some o)->φ h2
noncomputable def HOk (H:Hp) (h:Heap):Prop:=∀ a o,H a=some o->ObjOk P w H h a o
end
section
variable {P:Program} {w:World} {H H':Hp} {h h':Heap} {a:Addr} {o:HO}
theorem ObjOk.lt (x:ObjOk P w H h a o):a < h.objs.size:=by
  cases o with
  | lst xs=>obtain ⟨_,_,_,_,e⟩:=x;exact Ch e
  | tup xs=>obtain ⟨_,_,_,p⟩:=x;exact p.lt
  | dK kvs=>obtain ⟨_,_,_,_,o,_,_,e,_⟩:=x;exact Ch e
  | dT kvs=>obtain ⟨_,_,_,_,o,_,_,e,_⟩:=x;exact Ch e
  | set S n=>obtain ⟨o,_,_,_,e,_⟩:=x;exact Ch e
  | ins C dx fs=>obtain ⟨_,_,_,e,_⟩:=x;exact Ch e
  | own y=>obtain ⟨_,e⟩:=x;exact Ch e
  | xd fs=>obtain ⟨_,⟨_,_,_,e,_⟩,_⟩:=x;exact Ch e
  | rng lo hi=>obtain ⟨_,_,_,e⟩:=x;exact Ch e
  | frz ob u=>obtain ⟨e,_⟩:=x;exact Ch e
  | tbl ps=>exact Ch (show h.get? a=some _ from x)
  | met f y=>exact Ch (show h.get? a=some _ from x)
  | ext φ=>obtain ⟨_,⟨_,e⟩,_⟩:=x;exact Ch e
theorem Paired.mapP {α β:Type} {F G:α->β->Prop}:∀ {l₁:List α} {l₂:List β},Paired F l₁ l₂->(∀ a b,F a b->G a b)->Paired G l₁ l₂
  | _,_,.nil,_=>.nil
  | _,_,.cons r t,f=>.cons (f _ _ r) (Paired.mapP t f)
theorem ObjOk.stay (x:ObjOk P w H h a o) (k:∀ b u,(b=a\/H b=some (.own a))->h.get? b=some u->h'.get? b=some u)
    (ho:∀ b,H b=some (.own a)->H' b=some (.own a)) (ht:∀ b xs,H b=some (.tup xs)->H' b=some (.tup xs)):ObjOk P w H' h' a o:=by
  induction o with
  | lst xs=>obtain ⟨z,its,n,r,e⟩:=x;exact ⟨z,its,n,r,k _ _ (.inl rfl) e⟩
  | tup xs=>obtain ⟨z,its,r,ob,e,c⟩:=x;exact ⟨z,its,r,ob,k _ _ (.inl rfl) e,c⟩
  | dK kvs=>obtain ⟨z,y,vs,r,ob,es,ep,e,c⟩:=x;exact ⟨z,y,vs,r,ob,es,ep,k _ _ (.inl rfl) e,c⟩
  | dT kvs =>
    obtain ⟨z,y,xs,r,ob,es,ep,e,c⟩:=x
    exact ⟨z,y,xs,Paired.mapP r fun p q z=>⟨z.1,ht _ _ z.2.1,z.2.2⟩,ob,es,ep,k _ _ (.inl rfl) e,c⟩
  | set S n=>obtain ⟨ob,es,ep,t,e,c⟩:=x;exact ⟨ob,es,ep,t,k _ _ (.inl rfl) e,c⟩
  | ins C dx fs =>
    obtain ⟨d,z,ne,e,mA,⟨od,es,ep,e2,c⟩,r⟩:=x
    exact ⟨ho _ d,z,ne,k _ _ (.inl rfl) e,mA,⟨od,es,ep,k _ _ (.inr d) e2,c⟩,r⟩
  | own y=>obtain ⟨ob,e⟩:=x;exact ⟨ob,k _ _ (.inl rfl) e⟩
  | xd fs=>obtain ⟨mA,⟨od,es,ep,e,c⟩,r⟩:=x;exact ⟨mA,⟨od,es,ep,k _ _ (.inl rfl) e,c⟩,r⟩
  | rng lo hi=>obtain ⟨t,u,v,e⟩:=x;exact ⟨t,u,v,k _ _ (.inl rfl) e⟩
  | frz ob u ih=>obtain ⟨e,q⟩:=x;exact ⟨k _ _ (.inl rfl) e,ih q⟩
  | tbl ps =>
    have e:h.get? a=some { cls:=.none,data:=.fields ps }:=x
    show h'.get? a=some { cls:=.none,data:=.fields ps }
    exact k a _ (.inl rfl) e
  | met f y =>
    have e:h.get? a=some (PySem.W.methodObj (.ref f) (.ref y)):=x
    show h'.get? a=some (PySem.W.methodObj (.ref f) (.ref y))
    exact k a _ (.inl rfl) e
  | ext φ=>obtain ⟨p,⟨o,e⟩,st⟩:=x;exact ⟨st _ _ p fun o q=>k _ _ (.inl rfl) q,⟨o,k _ _ (.inl rfl) e⟩,st⟩
theorem HOk.lt (x:HOk P w H h) (e:H a=some o):a < h.objs.size:=(x a o e).lt
theorem HOk.fresh (x:HOk P w H h) (e:h.objs.size<=a):H a=none:=by
  cases q:H a with
  | none=>rfl
  | some u=>exact absurd (Cy (x.lt q) e) (Nat.lt_irrefl _)
theorem HOk.kept (x:HOk P w H h) (k:∀ b u,h.get? b=some u->h'.get? b=some u):HOk P w H h':=fun a o e =>
  (x a o e).stay (fun b u _ q=>k b u q) (fun _ q=>q) fun _ _ q=>q
theorem HOk.laid (x:HOk P w H h) (k:∀ b u,h.get? b=some u->h'.get? b=some u) (hp:h.objs.size<=a) (new:ObjOk P w (upd H a o) h' a o):HOk P w (upd H a o) h':=fun b u e=>by
  have hn:=x.fresh hp
  by_cases hb:b=a
  · subst hb;rw [bh] at e;cases e;exact new
  · rw [aL hb] at e
    exact (x b u e).stay (fun c v _ q=>k c v q) (fun c q=>by rw [aL (bz q hn)];exact q) fun c xs q=>by rw [aL (bz q hn)];exact q
end
noncomputable def Rd (H:Hp) (a:Addr) (u:HO):Prop:=H a=some u\/∃ o,H a=some (.frz o u)
theorem Rd.ok {P:Program} {w:World} {H:Hp} {h:Heap} {a:Addr} {u:HO} (r:Rd H a u) (x:HOk P w H h):ObjOk P w H h a u:=by
  rcases r with r | ⟨o,r⟩
  · exact x a u r
  · obtain ⟨_,q⟩:=x a _ r
    exact q
noncomputable def Mut:Option HO->Prop
  | some (.lst _)=>True
  | some (.dK _)=>True
  | some (.dT _)=>True
  | some (.set _ _)=>True
  | some (.ins _ _ _)=>True
  | some (.ext _)=>True
  | _=>False
section
variable {P:Program} {w:World} {H:Hp} {h h':Heap} {x e:Addr} {o':HO}
theorem HOk.write (ok:HOk P w H h) (mu:Mut (H x)) (he:e=x\/H e=some (.own x)) (k:∀ b u,b ≠ e->h.get? b=some u->h'.get? b=some u) (heo:∃ u,h'.get? e=some u)
    (new:ObjOk P w (upd H x o') h' x o'):HOk P w (upd H x o') h':=fun b u q=>by
  have nown:∀ c y,H c=some (.own y)->c ≠ x:=fun c y r z=>by subst z;rw [r] at mu;exact mu
  have ntup:∀ c xs,H c=some (.tup xs)->c ≠ x:=fun c xs r z=>by subst z;rw [r] at mu;exact mu
  by_cases hb:b=x
  · subst hb;rw [bh] at q;cases q;exact new
  · rw [aL hb] at q
    by_cases hbe:b=e
    · have q':H b=some (.own x):=by
        rcases he with z | z
        · exact absurd (hbe.trans z) hb
        · rw [hbe];exact z
      rw [q] at q';cases q'
      obtain ⟨v,hv⟩:=heo
      exact ⟨v,by rw [hbe];exact hv⟩
    · refine (ok b u q).stay (fun c v hc r=>k c v ?_ r) (fun c r=>by rw [aL (nown c b r)];exact r) fun c xs r=>by rw [aL (ntup c xs r)];exact r
      rcases hc with rfl | hc
      · exact hbe
      · rintro rfl
        rcases he with z | z
        · exact nown c b hc z
        · rw [hc] at z;cases z;exact hb rfl
end
structure Un (fs ex:List Addr) (H H':Hp) (h h':Heap):Prop where
  keep:∀ b o,h.get? b=some o->H b=none->b ∉ fs->b ∉ ex->h'.get? b=some o
  slot:∀ b o,h.get? b=some o->H b=none->b ∈ fs->b ∉ ex->∃ sl,h'.get? b=some { o with slots:=sl }
  free:∀ b o,h.get? b=some o->H b=none->b ∉ ex->H' b=none
  there:∀ b o,h.get? b=some o->b ∉ ex->∃ o',h'.get? b=some o'
  tups:∀ b xs,H b=some (.tup xs)->H' b=some (.tup xs)
  frzs:∀ b o u,H b=some (.frz o u)->H' b=some (.frz o u)
  tbls:∀ b ps,H b=some (.tbl ps)->∃ more,H' b=some (.tbl (ps ++ more))
section
variable {fs fs' ex ex':List Addr} {H H1 H2:Hp} {h h1 h2 h':Heap} {a x e:Addr} {o:HO}
theorem Un.any (u:Un fs ex H H1 h h1) {b:Addr} {ob:Obj} (q:h.get? b=some ob) (n:H b=none) (hx:b ∉ ex):∃ sl,h1.get? b=some { ob with slots:=sl }:=by
  by_cases hb:b ∈ fs
  · exact u.slot b ob q n hb hx
  · exact ⟨ob.slots,u.keep b ob q n hb hx⟩
theorem Un.trans (a:Un fs ex H H1 h h1) (b:Un fs ex H1 H2 h1 h2):Un fs ex H H2 h h2 where
  keep:=fun c ob q n hc hx=>b.keep c ob (a.keep c ob q n hc hx) (a.free c ob q n hx) hc hx
  slot:=fun c ob q n hc hx=>by
    obtain ⟨sl,e1⟩:=a.slot c ob q n hc hx
    obtain ⟨sl',e2⟩:=b.slot c _ e1 (a.free c ob q n hx) hc hx
    exact ⟨sl',e2⟩
  free:=fun c ob q n hx=>by
    obtain ⟨o',e1⟩:=a.there c ob q hx
    exact b.free c o' e1 (a.free c ob q n hx) hx
  there:=fun c ob q hx=>by
    obtain ⟨o',e1⟩:=a.there c ob q hx
    exact b.there c o' e1 hx
  tups:=fun c xs q=>b.tups c xs (a.tups c xs q)
  frzs:=fun c ob xs q=>b.frzs c ob xs (a.frzs c ob xs q)
  tbls:=fun c ps q=>by
    obtain ⟨m1,e1⟩:=a.tbls c ps q
    obtain ⟨m2,e2⟩:=b.tbls c _ e1
    exact ⟨m1 ++ m2,by rw [e2,Array.append_assoc]⟩
theorem Un.kept (k:∀ b u,h.get? b=some u->h'.get? b=some u):Un fs ex H H h h' :=
  ⟨fun b ob q _ _ _=>k b ob q,fun b ob q _ _ _=>⟨ob.slots,k b ob q⟩,fun _ _ _ n _=>n,fun b ob q _=>⟨ob,k b ob q⟩,fun _ _ q=>q,fun _ _ _ q=>q,fun _ ps q=>⟨#[],by rw [q];simp⟩⟩
theorem Un.refl:Un fs ex H H h h:=Un.kept fun _ _ q=>q
theorem Un.laid (k:∀ b u,h.get? b=some u->h'.get? b=some u) (hp:h.objs.size<=a) (hn:H a=none):Un fs ex H (upd H a o) h h' where
  keep:=fun b u q _ _ _=>k b u q
  slot:=fun b u q _ _ _=>⟨u.slots,k b u q⟩
  free:=fun b u q n _=>by rw [aL (Cs (Cy (Ch q) hp))];exact n
  there:=fun b u q _=>⟨u,k b u q⟩
  tups:=fun b xs q=>by rw [aL (bz q hn)];exact q
  frzs:=fun b u xs q=>by rw [aL (bz q hn)];exact q
  tbls:=fun b ps q=>⟨#[],by rw [aL (bz q hn),q];simp⟩
theorem Un.write (mu:Mut (H x)) (he:e=x\/H e=some (.own x)) (k:∀ b u,b ≠ e->h.get? b=some u->h'.get? b=some u) (heo:∃ u,h'.get? e=some u):Un fs ex H (upd H x o) h h':=by
  have hx:∀ b,H b=none->b ≠ x:=fun b n z=>by subst z;rw [n] at mu;exact mu
  have hb:∀ b,H b=none->b ≠ e:=fun b n z=>by
    subst z
    rcases he with r | r
    · exact hx b n r
    · rw [n] at r;cases r
  have hm:∀ b u,H b=some u->¬ Mut (some u)->b ≠ x:=fun b u q nm z=>by subst z;rw [q] at mu;exact nm mu
  refine ⟨fun b u q n _ _=>k b u (hb b n) q,fun b u q n _ _=>⟨u.slots,k b u (hb b n) q⟩,fun b u q n _=>by rw [aL (hx b n)];exact n,fun b u q _=>?_,
    fun b xs q=>by rw [aL (hm b _ q fun z=>z)];exact q,fun b u xs q=>by rw [aL (hm b _ q fun z=>z)];exact q,fun b ps q=>⟨#[],by rw [aL (hm b _ q fun z=>z),q];simp⟩⟩
  by_cases hbe:b=e
  · subst hbe;exact heo
  · exact ⟨u,k b u hbe q⟩
end
noncomputable def trk (h:Heap) (H:Hp):List Addr:=(List.range h.objs.size).filter fun a=>(H a).isSome
noncomputable def nY (h:Heap) (H:Hp):Heap:=PySem.W.hideAll h (trk h H)
theorem uh (h:Heap) (H:Hp):(nY h H).objs.size=h.objs.size:=PySem.W.hideAll_size _ _
theorem wO {h:Heap} {H:Hp} {b:Addr} {o:Obj} (e:h.get? b=some o) (n:H b=none):(nY h H).get? b=some o :=
  PySem.W.hideAll_get _ e fun hm=>by
    have q:(H b).isSome=true:=(CJ.mp hm).2
    rw [n] at q;simp at q
theorem yX {h:Heap} {H:Hp} {b:Addr} {o:Obj} (e:(nY h H).get? b=some o):h.get? b=some o/\H b=none:=by
  have e':h.get? b=some o:=PySem.W.of_hideAll (trk h H) e
  refine ⟨e',?_⟩
  cases q:H b with
  | none=>rfl
  | some x =>
    have hm:b ∈ trk h H:=CJ.mpr ⟨List.mem_range.mpr (Ch e'),by simp [q]⟩
    have z:(nY h H).get? b=none:=PySem.W.hideAll_none (trk h H) hm
    rw [z] at e;cases e
noncomputable def zT (g h:Heap) (L:Addr):List (Addr × Obj):=(List.range h.objs.size).filterMap fun a=>if a=L\/(g.get? a).isSome=true then none else (h.get? a).map fun o=>(a,o)
noncomputable def eB (g h:Heap) (L d:Addr):List (Addr × Obj):=(zT g h L).filter fun p=>decide (p.1 ≠ d)
end L2
namespace L2
open PySem PySem.Spec PyProof.Rows
structure Mod (K:FG) (mg:Str->Option Value) (base:Heap):Prop where
  kin:K.In base
  glob:base.Ns mainGlobals mg
  blt:∃ mb,base.Ns builtinsNs mb/\∀ x:Str,x ≠ "__name__"->mb x=bootBuiltins x
  nolimit:base.NoLimit
structure Cx where
  prog:Program
  w:World
  K:FG
  mg:Str->Option Value
  base:Heap
  A:Around
  N:List Str
  s₀:Shared
  H₀:Hp
  env:Env
  outer:List Env
  stack:List Env
  ex:List Addr
  fn:Str->Bool
  calm:Bool
  pn:List (Addr × Obj)
  xe:Value->Shared->Prop
noncomputable def frs (l:List Env):List Addr:=l.filterMap (·.frame)
noncomputable abbrev Cx.fs (X:Cx):List Addr:=frs X.outer
noncomputable def Vis (sc:Scope) (x:Str):Prop:=sc.names.lookup x=some .local\/sc.names.lookup x=some .cell\/sc.names.lookup x=some .free
noncomputable def Loc (sc:Scope) (x:Str):Prop:=sc.names.lookup x=some .local\/sc.names.lookup x=some .cell
noncomputable def Look (env:Env) (h:Heap) (m:Str->Option Value) (x:Str) (u:Value):Prop :=
  (env.kindOf x=some .local/\m x=some u)\/((env.kindOf x=some .cell\/env.kindOf x=some .free)/\∃ c,env.cells.lookup x=some c/\h.IsCell c (some u))
structure Cx.Ok (X:Cx):Prop where
  mod:Mod X.K X.mg X.base
  kind:X.env.scope.kind=.function
  glob:X.env.globals=mainGlobals
  blt:X.env.builtins=builtinsNs
  above:X.s₀.heap.objs.size<=X.env.locals
  inj:∀ x y c,X.env.cells.lookup x=some c->X.env.cells.lookup y=some c->x=y
  has:∀ x,(X.env.kindOf x=some .cell\/X.env.kindOf x=some .free)->∃ c,X.env.cells.lookup x=some c
  cab:∀ x c,X.fn x=true->X.env.cells.lookup x=some c->X.s₀.heap.objs.size<=c
  hd:X.calm=true->X.A.handled=none
  frames:X.A.frames=some X.stack
  stk:X.stack=X.outer\/(X.stack=X.env :: X.outer/\X.env.frame=some X.env.locals)
  exf:∀ b ∈ X.ex,b ≠ X.env.locals/\∀ x c,X.env.cells.lookup x=some c->c ≠ b
  bs:∀ b o,X.base.get? b=some o->X.s₀.heap.get? b=some o/\X.H₀ b=none
  bsz:X.base.objs.size<=X.s₀.heap.objs.size
  noex:∀ b o,X.base.get? b=some o->b ∉ X.ex
  exfs:∀ b ∈ X.ex,b ∉ X.fs
  funs:X.s₀.heap.FunFrames X.base X.outer
  frf:∀ b ∈ X.fs,X.H₀ b=none
structure Inv (X:Cx) (pins:List (Addr × Obj)) (σ:List (Option V)) (H:Hp) (s:Shared):Prop where
  ok:X.Ok
  os:s.os=X.s₀.os
  bare:AllBare s.gens
  base:Un X.fs X.ex X.H₀ H X.s₀.heap s.heap
  loc:∃ m,s.heap.Ns X.env.locals m/\∀ (i:Nat) (x:Str) (v:V),X.N[i]?=some x->σ[i]?=some (some v)->Vis X.env.scope x->∃ u,RelV v u/\Look X.env s.heap m x u
  cell:∀ x c,X.env.cells.lookup x=some c->∃ v,s.heap.IsCell c v
  free:H X.env.locals=none
  freeC:∀ x c,X.env.cells.lookup x=some c->H c=none
  pin:∀ p ∈ X.pn ++ pins,s.heap.get? p.1=some p.2/\H p.1=none/\p.1 ≠ X.env.locals/\p.1 ∉ X.fs/\∀ v,p.2.data ≠ .cell v
  hok:HOk X.prog X.w H s.heap
  len:σ.length=X.N.length
section
variable {X:Cx} {pins:List (Addr × Obj)} {σ:List (Option V)} {H H':Hp} {s:Shared} {h':Heap}
theorem Cx.Ok.nofr (ok:X.Ok) {b:Addr} {o:Obj} (e:X.base.get? b=some o):b ∉ X.fs:=fun hb=>by
  have:=(ok.funs.mem hb).1
  rw [e] at this;cases this
theorem Inv.bs (I:Inv X pins σ H s):∀ b o,X.base.get? b=some o->s.heap.get? b=some o/\H b=none:=fun b o e =>
  ⟨I.base.keep b o (I.ok.bs b o e).1 (I.ok.bs b o e).2 (I.ok.nofr e) (I.ok.noex b o e),I.base.free b o (I.ok.bs b o e).1 (I.ok.bs b o e).2 (I.ok.noex b o e)⟩
theorem Inv.bk (I:Inv X pins σ H s):∀ b o,X.base.get? b=some o->s.heap.get? b=some o:=fun b o e=>(I.bs b o e).1
theorem Inv.mod (I:Inv X pins σ H s):Mod X.K X.mg X.base:=I.ok.mod
theorem Inv.kIn (I:Inv X pins σ H s):X.K.In s.heap:=I.ok.mod.kin.keeps I.bk
theorem Inv.lt (I:Inv X pins σ H s):X.env.locals < s.heap.objs.size:=let ⟨_,hn,_⟩:=I.loc;hn.lt
theorem Inv.sz (I:Inv X pins σ H s):X.s₀.heap.objs.size<=s.heap.objs.size:=CO I.ok.above (Nat.le_of_lt I.lt)
theorem Inv.nofs (I:Inv X pins σ H s) {a:Addr} (h:s.heap.objs.size<=a):a ∉ X.fs:=fun hb=>by
  obtain ⟨_,o,ho,_⟩:=I.ok.funs.mem hb
  exact absurd (Cy (Ch ho) (CO I.sz h)) (Nat.lt_irrefl _)
theorem Inv.cne (I:Inv X pins σ H s):∀ x c,X.env.cells.lookup x=some c->c ≠ X.env.locals:=fun x c e z=>by
  obtain ⟨v,o,ho,hd⟩:=I.cell x c e
  obtain ⟨m,⟨o',es,ep,ho',hd',_⟩,_⟩:=I.loc
  rw [z,ho'] at ho;cases ho;rw [hd'] at hd;cases hd
theorem Inv.funs (I:Inv X pins σ H s):s.heap.FunFrames X.base X.outer:=by
  have all:∀ (l:List Env),(∀ b ∈ frs l,b ∈ X.fs)->X.s₀.heap.FunFrames X.base l->s.heap.FunFrames X.base l:=by
    intro l
    induction l with
    | nil=>intro _ _;trivial
    | cons env r ih =>
      intro hs hl
      obtain ⟨hk,⟨L,o,hf,hn,ho,hd⟩,hr⟩:=hl
      have hL:L ∈ X.fs:=hs L (by unfold frs;rw [List.filterMap_cons,hf];exact B8)
      obtain ⟨sl,e⟩:=I.base.slot L o ho (I.ok.frf L hL) hL fun z=>I.ok.exfs L z hL
      exact ⟨hk,⟨L,_,hf,hn,e,hd⟩,ih (fun b hb=>hs b (by unfold frs;rw [List.filterMap_cons,hf];exact B9 _ hb)) hr⟩
  exact all X.outer (fun _ hb=>hb) I.ok.funs
theorem Inv.stack (I:Inv X pins σ H s):s.heap.FunFrames X.base X.stack:=by
  rcases I.ok.stk with e | ⟨e,hf⟩
  · rw [e];exact I.funs
  · rw [e]
    obtain ⟨m,hn,_⟩:=I.loc
    refine .cons (by rw [I.ok.kind];decide) hf hn ?_ I.funs
    exact Heap.get?_none_of_le (CO I.ok.bsz I.ok.above)
theorem Inv.stkSub (I:Inv X pins σ H s):∀ b ∈ frs X.stack,b ∈ X.env.locals :: X.fs:=fun b hb=>by
  rcases I.ok.stk with e | ⟨e,hf⟩
  · rw [e] at hb;exact B9 _ hb
  · rw [e] at hb
    unfold frs at hb
    rw [List.filterMap_cons,hf] at hb
    exact hb
theorem Inv.stkFree (I:Inv X pins σ H s):∀ b ∈ frs X.stack,H b=none:=fun b hb=>by
  rcases Cf.mp (I.stkSub b hb) with e | hb
  · rw [e];exact I.free
  · obtain ⟨_,o,ho,_⟩:=I.ok.funs.mem hb
    exact I.base.free b o ho (I.ok.frf b hb) fun z=>I.ok.exfs b z hb
theorem Inv.step {g':Array GenState} {t':Nat} {d':Drawn} {ch:List Addr} (I:Inv X pins σ H s)
    (hch:∀ b ∈ ch,(b ∈ X.ex\/X.s₀.heap.objs.size<=b)/\b ≠ X.env.locals/\(∀ x c,X.env.cells.lookup x=some c->c ≠ b)/\∀ p ∈ X.pn ++ pins,p.1 ≠ b)
    (keep:∀ b o,b ≠ X.env.locals->b ∉ X.fs->b ∉ ch->s.heap.get? b=some o->H b=none->h'.get? b=some o)
    (slot:∀ b o,b ≠ X.env.locals->b ∈ X.fs->b ∉ ch->s.heap.get? b=some o->H b=none->∃ sl,h'.get? b=some { o with slots:=sl }) (free:∀ b o,b ∉ ch->s.heap.get? b=some o->H b=none->H' b=none)
    (there:∀ b o,b ∉ ch->s.heap.get? b=some o->∃ o',h'.get? b=some o')
    (tups:∀ b xs,H b=some (.tup xs)->H' b=some (.tup xs)) (frzs:∀ b o u,H b=some (.frz o u)->H' b=some (.frz o u)) (tbls:∀ b ps,H b=some (.tbl ps)->∃ more,H' b=some (.tbl (ps ++ more)))
    (ns:∀ m,s.heap.Ns X.env.locals m->h'.Ns X.env.locals m) (hok:HOk X.prog X.w H' h') (hg:AllBare g') :
    Inv X pins σ H' { s with heap:=h',gens:=g',drawn:=d',toks:=t' }:=by
  have neL:∀ b o,X.s₀.heap.get? b=some o->b ≠ X.env.locals:=fun b o e=>Cs (Cy (Ch e) I.ok.above)
  have neC:∀ b o,X.s₀.heap.get? b=some o->b ∉ X.ex->b ∉ ch:=fun b o e hx hb=>by
    rcases (hch b hb).1 with z | z
    · exact hx z
    · exact absurd (Cy (Ch e) z) (Nat.lt_irrefl _)
  have cellK:∀ x c,X.env.cells.lookup x=some c->∀ v,s.heap.IsCell c v->h'.IsCell c v:=fun x c e v ⟨o,ho,hd⟩=>by
    have nch:c ∉ ch:=fun z=>(hch c z).2.2.1 x c e rfl
    by_cases hc:c ∈ X.fs
    · obtain ⟨sl,q⟩:=slot c o (I.cne x c e) hc nch ho (I.freeC x c e)
      exact ⟨_,q,hd⟩
    · exact ⟨o,keep c o (I.cne x c e) hc nch ho (I.freeC x c e),hd⟩
  refine ⟨I.ok,I.os,hg,⟨fun b o e n hb hx=>?_,fun b o e n hb hx=>?_,fun b o e n hx=>?_,fun b o e hx=>?_,fun b xs e=>tups b xs (I.base.tups b xs e),fun b o xs e=>frzs b o xs (I.base.frzs b o xs e),fun b ps e=>?_⟩,?_,fun x c e=>?_,?_,fun x c e=>?_,fun p hp=>?_,hok,I.len⟩
  · exact keep b o (neL b o e) hb (neC b o e hx) (I.base.keep b o e n hb hx) (I.base.free b o e n hx)
  · obtain ⟨sl,e1⟩:=I.base.slot b o e n hb hx
    obtain ⟨sl',e2⟩:=slot b _ (neL b o e) hb (neC b o e hx) e1 (I.base.free b o e n hx)
    exact ⟨sl',e2⟩
  · obtain ⟨o',e1⟩:=I.base.there b o e hx
    exact free b o' (neC b o e hx) e1 (I.base.free b o e n hx)
  · obtain ⟨o',e1⟩:=I.base.there b o e hx
    exact there b o' (neC b o e hx) e1
  · obtain ⟨m1,e1⟩:=I.base.tbls b ps e
    obtain ⟨m2,e2⟩:=tbls b _ e1
    exact ⟨m1 ++ m2,by rw [e2,Array.append_assoc]⟩
  · obtain ⟨m,hn,hl⟩:=I.loc
    refine ⟨m,ns m hn,fun i x v e1 e2 e3=>?_⟩
    obtain ⟨u,r,l⟩:=hl i x v e1 e2 e3
    refine ⟨u,r,?_⟩
    rcases l with l | ⟨k,c,e,z⟩
    · exact .inl l
    · exact .inr ⟨k,c,e,cellK x c e _ z⟩
  · obtain ⟨v,z⟩:=I.cell x c e
    exact ⟨v,cellK x c e v z⟩
  · obtain ⟨m,⟨o,_,_,ho,_⟩,_⟩:=I.loc
    exact free _ o (fun z=>(hch _ z).2.1 rfl) ho I.free
  · obtain ⟨v,o,ho,hd⟩:=I.cell x c e
    exact free c o (fun z=>(hch c z).2.2.1 x c e rfl) ho (I.freeC x c e)
  · obtain ⟨e,n,ne,nf,d⟩:=I.pin p hp
    have nch:p.1 ∉ ch:=fun z=>(hch p.1 z).2.2.2 p hp rfl
    exact ⟨keep p.1 p.2 ne nf nch e n,free p.1 p.2 nch e n,ne,nf,d⟩
theorem Inv.un {t':Nat} (I:Inv X pins σ H s) (u:Un X.fs [] H H' s.heap h') (hok:HOk X.prog X.w H' h'):Inv X pins σ H' { s with heap:=h',toks:=t' }:=by
  obtain ⟨m,⟨o,es,ep,ho,r⟩,_⟩:=id I.loc
  obtain ⟨sl,hL⟩:=u.any ho I.free (by simp)
  exact I.step (g':=s.gens) (d':=s.drawn) (ch:=[]) (fun _ z=>nomatch z) (fun b o _ hb _ e n=>u.keep b o e n hb (by simp)) (fun b o _ hb _ e n=>u.slot b o e n hb (by simp)) (fun b o _ e n=>u.free b o e n (by simp)) (fun b o _ e=>u.there b o e (by simp)) u.tups u.frzs u.tbls (fun m' hm=>by
    obtain ⟨o',es',ep',ho',r'⟩:=hm
    rw [ho] at ho';cases ho'
    exact ⟨_,es',ep',hL,r'⟩) hok I.bare
theorem Inv.call {g':Array GenState} {t':Nat} {d':Drawn} {ch:List Addr} (I:Inv X pins σ H s) (u:Un (frs X.stack) ch H H' s.heap h') (hok:HOk X.prog X.w H' h') (hg:AllBare g')
    (hch:∀ b ∈ ch,(b ∈ X.ex\/X.s₀.heap.objs.size<=b)/\b ≠ X.env.locals/\(∀ x c,X.env.cells.lookup x=some c->c ≠ b)/\∀ p ∈ X.pn ++ pins,p.1 ≠ b) :
    Inv X pins σ H' { s with heap:=h',gens:=g',drawn:=d',toks:=t' }:=by
  obtain ⟨m,⟨o,es,ep,ho,r⟩,_⟩:=id I.loc
  obtain ⟨sl,hL⟩:=u.any ho I.free fun z=>(hch _ z).2.1 rfl
  exact I.step (ch:=ch) hch (fun b o hL hb hc e n=>u.keep b o e n (fun z=>(Cf.mp (I.stkSub b z)).elim hL hb) hc) (fun b o _ _ hc e n=>u.any e n hc) (fun b o hc e n=>u.free b o e n hc) (fun b o hc e=>u.there b o e hc) u.tups u.frzs u.tbls (fun m' hm=>by
    obtain ⟨o',es',ep',ho',r'⟩:=hm
    rw [ho] at ho';cases ho'
    exact ⟨_,es',ep',hL,r'⟩) hok hg
theorem Inv.turned {t':Nat} {it:Addr} (I:Inv X pins σ H s) (k:∀ b o,b ≠ it->s.heap.get? b=some o->h'.get? b=some o) (hn:H it=none) (hL:it ≠ X.env.locals)
    (h1:it ∈ X.ex\/X.s₀.heap.objs.size<=it) (h2:∀ x c,X.env.cells.lookup x=some c->c ≠ it) (h3:∀ p ∈ X.pn ++ pins,p.1 ≠ it):Inv X pins σ H { s with heap:=h',toks:=t' }:=by
  have nit:∀ b u,H b=some u->b ≠ it:=fun b u e z=>by rw [z,hn] at e;cases e
  refine I.step (g':=s.gens) (d':=s.drawn) (ch:=[it]) (fun b hb=>?_) (fun b o _ _ hc e _=>k b o (fun z=>hc (by simp [z])) e) (fun b o _ _ hc e _=>⟨o.slots,k b o (fun z=>hc (by simp [z])) e⟩) (fun _ _ _ _ n=>n)
    (fun b o hc e=>⟨o,k b o (fun z=>hc (by simp [z])) e⟩) (fun _ _ e=>e) (fun _ _ _ e=>e) (fun b ps e=>⟨#[],by rw [e];simp⟩) (fun m hm=>?_) (fun b u e=>?_) I.bare
  · have e:b=it:=by simpa using hb
    subst e
    exact ⟨h1,hL,h2,h3⟩
  · obtain ⟨o,es,ep,ho,r⟩:=hm
    exact ⟨o,es,ep,k _ o (Ne.symm hL) ho,r⟩
  · refine (I.hok b u e).stay (fun c v hc q=>k c v ?_ q) (fun _ q=>q) fun _ _ q=>q
    rcases hc with z | z
    · rw [z];exact nit b u e
    · exact nit c _ z
theorem Inv.tok (I:Inv X pins σ H s) (t:Nat):Inv X pins σ H { s with toks:=t }:=I.un (h':=s.heap) (t':=t) Un.refl I.hok
theorem Inv.kept {t':Nat} (I:Inv X pins σ H s) (k:∀ b u,s.heap.get? b=some u->h'.get? b=some u):Inv X pins σ H { s with heap:=h',toks:=t' }:=I.un (Un.kept k) (I.hok.kept k)
theorem Inv.laid {a:Addr} {o:HO} {t':Nat} (I:Inv X pins σ H s) (k:∀ b u,s.heap.get? b=some u->h'.get? b=some u) (hp:s.heap.objs.size<=a) (new:ObjOk X.prog X.w (upd H a o) h' a o) :
    Inv X pins σ (upd H a o) { s with heap:=h',toks:=t' }:=I.un (Un.laid k hp (I.hok.fresh hp)) (I.hok.laid k hp new)
theorem Inv.write {x e:Addr} {o:HO} {t':Nat} (I:Inv X pins σ H s) (mu:Mut (H x)) (he:e=x\/H e=some (.own x)) (k:∀ b u,b ≠ e->s.heap.get? b=some u->h'.get? b=some u) (heo:∃ u,h'.get? e=some u)
    (new:ObjOk X.prog X.w (upd H x o) h' x o):Inv X pins σ (upd H x o) { s with heap:=h',toks:=t' }:=I.un (Un.write mu he k heo) (I.hok.write mu he k heo new)
theorem Inv.pins_of {pins':List (Addr × Obj)} (I:Inv X pins σ H s) (h:∀ p ∈ pins',s.heap.get? p.1=some p.2/\H p.1=none/\p.1 ≠ X.env.locals/\p.1 ∉ X.fs/\∀ v,p.2.data ≠ .cell v):Inv X pins' σ H s :=
  ⟨I.ok,I.os,I.bare,I.base,I.loc,I.cell,I.free,I.freeC,fun p hp=>(Ci.mp hp).elim (fun z=>I.pin p (Cd _ z)) (h p),I.hok,I.len⟩
theorem o8 {N:List Str} (hN:N.Nodup) {i j:Nat} {x:Str} (a:N[i]?=some x) (b:N[j]?=some x):i=j:=by
  obtain ⟨h1,e1⟩:=Cl.mp a
  obtain ⟨h2,e2⟩:=Cl.mp b
  exact (List.getElem_inj hN).mp (e1.trans e2.symm)
theorem mI {M:Model} {A:Around} {E:Value->Shared->Prop} {i:Nat} {x:Str} {v:V} {u:Value} {Q:Unit->Shared->Prop} (I:Inv X pins σ H s) (hN:X.N.Nodup) (hi:X.N[i]?=some x) (hx:Loc X.env.scope x) (r:RelV v u)
    (h:∀ s',Inv X pins (σ.set i (some v)) H s'->(∃ a,Heap.SameBut a s.heap s'.heap/\(a=X.env.locals\/X.env.cells.lookup x=some a))->Q () s') (hf:X.fn x=true\/X.env.scope.names.lookup x=some .local:=by first | exact .inl rfl | exact .inr rfl | assumption):wpAny M A (storeName X.env x u) Q E s:=by
  obtain ⟨m,hn,hl⟩:=id I.loc
  have hcls:(X.env.scope.kind == .class || (X.env.scope.kind == .module && X.env.locals != X.env.globals))=false:=by rw [I.ok.kind];rfl
  have hiσ:i < σ.length:=by rw [I.len];exact (Cl.mp hi).1
  have cne:=I.cne
  have tracked:∀ {a:Addr} {h':Heap},(∃ o,s.heap.get? a=some o/\H a=none)->Heap.SameBut a s.heap h'->HOk X.prog X.w H h':=fun {a h'} ha hs b ob e=>by
    obtain ⟨_,_,hfree⟩:=ha
    refine (I.hok b ob e).stay (fun c w' hc q=>(hs.2 c ?_).trans q) (fun _ q=>q) fun _ _ q=>q
    rintro rfl
    rcases hc with rfl | hc
    · rw [hfree] at e;cases e
    · rw [hfree] at hc;cases hc
  rcases hx with hk | hk
  · refine wpAny_storeName_local hk hn (fun h' hn' hs=>?_) hcls
    obtain ⟨oL,_,_,hoL,_⟩:=id hn
    refine h _ ⟨I.ok,I.os,I.bare,⟨fun b o e n hb hx=>?_,fun b o e n hb hx=>?_,I.base.free,fun b o e hx=>?_,I.base.tups,I.base.frzs,I.base.tbls⟩,⟨_,hn',fun j y v' e1 e2 e3=>?_⟩,fun y c e=>?_,I.free,I.freeC,fun p hp=>?_,tracked ⟨oL,hoL,I.free⟩ hs,by simpa using I.len⟩ ⟨_,hs,.inl rfl⟩
    · exact (hs.2 b (Cs (Cy (Ch e) I.ok.above))).trans (I.base.keep b o e n hb hx)
    · obtain ⟨sl,e1⟩:=I.base.slot b o e n hb hx
      exact ⟨sl,(hs.2 b (Cs (Cy (Ch e) I.ok.above))).trans e1⟩
    · obtain ⟨o',e1⟩:=I.base.there b o e hx
      exact ⟨o',(hs.2 b (Cs (Cy (Ch e) I.ok.above))).trans e1⟩
    · by_cases hj:j=i
      · subst hj
        rw [hi] at e1;cases e1
        rw [List.getElem?_set_self hiσ] at e2
        cases e2
        exact ⟨u,r,.inl ⟨hk,by simp⟩⟩
      · rw [List.getElem?_set_ne (Ne.symm hj)] at e2
        obtain ⟨u',r',q⟩:=hl j y v' e1 e2 e3
        refine ⟨u',r',?_⟩
        rcases q with ⟨k,e⟩ | ⟨k,c,e,z⟩
        · refine .inl ⟨k,?_⟩
          have:y ≠ x:=fun e=>hj (o8 hN e1 (e ▸ hi))
          simp [this,e]
        · exact .inr ⟨k,c,e,z.sameBut hs (cne y c e)⟩
    · obtain ⟨w',z⟩:=I.cell y c e
      exact ⟨w',z.sameBut hs (cne y c e)⟩
    · obtain ⟨e,n,ne,nf,d⟩:=I.pin p hp
      exact ⟨(hs.2 p.1 ne).trans e,n,ne,nf,d⟩
  · have hfn:X.fn x=true:=by
      rcases hf with z | z
      · exact z
      · rw [z] at hk;cases hk
    obtain ⟨c,hc⟩:=I.ok.has x (.inl hk)
    obtain ⟨w',z⟩:=I.cell x c hc
    refine wpAny_storeName_cell I.ok.kind hk hc z (fun h' hc' hs=>?_)
    obtain ⟨oc,hoc,hocd⟩:=id z
    refine h { s with heap:=h' } ⟨I.ok,I.os,I.bare,⟨fun b o e n hb hx=>?_,fun b o e n hb hx=>?_,I.base.free,fun b o e hx=>?_,I.base.tups,I.base.frzs,I.base.tbls⟩,⟨m,hn.sameBut hs (Ne.symm (cne x c hc)),fun j y v' e1 e2 e3=>?_⟩,fun y c' e=>?_,I.free,I.freeC,fun p hp=>?_,tracked ⟨oc,hoc,I.freeC x c hc⟩ hs,by simpa using I.len⟩ ⟨c,hs,.inr hc⟩
    · exact (hs.2 b (Cs (Cy (Ch e) (I.ok.cab x c hfn hc)))).trans (I.base.keep b o e n hb hx)
    · obtain ⟨sl,e1⟩:=I.base.slot b o e n hb hx
      exact ⟨sl,(hs.2 b (Cs (Cy (Ch e) (I.ok.cab x c hfn hc)))).trans e1⟩
    · obtain ⟨o',e1⟩:=I.base.there b o e hx
      exact ⟨o',(hs.2 b (Cs (Cy (Ch e) (I.ok.cab x c hfn hc)))).trans e1⟩
    · by_cases hj:j=i
      · subst hj
        rw [hi] at e1;cases e1
        rw [List.getElem?_set_self hiσ] at e2
        cases e2
        exact ⟨u,r,.inr ⟨.inl hk,c,hc,hc'⟩⟩
      · rw [List.getElem?_set_ne (Ne.symm hj)] at e2
        obtain ⟨u',r',q⟩:=hl j y v' e1 e2 e3
        refine ⟨u',r',?_⟩
        rcases q with q | ⟨k,c',e,z'⟩
        · exact .inl q
        · refine .inr ⟨k,c',e,z'.sameBut hs ?_⟩
          rintro rfl
          exact hj (o8 hN e1 (I.ok.inj _ _ _ e hc ▸ hi))
    · by_cases hcc:c'=c
      · subst hcc;exact ⟨_,hc'⟩
      · obtain ⟨w2,z2⟩:=I.cell y c' e
        exact ⟨w2,z2.sameBut hs hcc⟩
    · obtain ⟨e,n,ne,nf,d⟩:=I.pin p hp
      refine ⟨(hs.2 p.1 ?_).trans e,n,ne,nf,d⟩
      intro q
      rw [q,hoc] at e
      have q':oc=p.2:=CV e
      exact d w' (by rw [<- q'];exact hocd)
theorem oK {M:Model} {A:Around} {E:Value->Shared->Prop} {i:Nat} {x:Str} {v:V} {u:Value} {Q:Unit->Shared->Prop} (I:Inv X pins σ H s) (hN:X.N.Nodup) (hi:X.N[i]?=some x) (hx:Loc X.env.scope x) (r:RelV v u)
    (h:∀ s',Inv X pins (σ.set i (some v)) H s'->Q () s') (hf:X.fn x=true\/X.env.scope.names.lookup x=some .local:=by first | exact .inl rfl | exact .inr rfl | assumption):wpAny M A (storeName X.env x u) Q E s :=
  mI I hN hi hx r (fun s' I' _=>h s' I') hf
theorem Inv.call' {s':Shared} {ch:List Addr} (I:Inv X pins σ H s) (ho:s'.os=s.os) (u:Un (frs X.stack) ch H H' s.heap s'.heap) (hok:HOk X.prog X.w H' s'.heap) (hg:AllBare s'.gens)
    (hch:∀ b ∈ ch,(b ∈ X.ex\/X.s₀.heap.objs.size<=b)/\b ≠ X.env.locals/\(∀ x c,X.env.cells.lookup x=some c->c ≠ b)/\∀ p ∈ X.pn ++ pins,p.1 ≠ b):Inv X pins σ H' s':=by
  obtain ⟨h',g',d',t',o'⟩:=s'
  have e:o'=s.os:=ho
  subst e
  exact I.call (g':=g') (t':=t') (d':=d') u hok hg hch
end
noncomputable abbrev XK:=Value->Option Addr->Hp->Prop
noncomputable abbrev St:=List (Option V)
noncomputable abbrev VK:=V->Hp->Prop
noncomputable abbrev TE:=St->Hp->VK->Prop
noncomputable abbrev TT:=St->Hp->(Bool->Hp->Prop)->Prop
noncomputable abbrev TA:=St->Hp->(List V->Hp->Prop)->Prop
structure Ends where
  nx:St->Hp->Prop
  rt:VK
  bk:St->Hp->Prop:=fun _ _=>False
  ct:St->Hp->Prop:=fun _ _=>False
noncomputable abbrev TS:=Ends->St->Hp->Prop
noncomputable def EP (X:Cx) (pins:List (Addr × Obj)) (σ:St) (Q:VK) (u:Value) (s':Shared):Prop:=∃ v H',Inv X pins σ H' s'/\RelV v u/\Q v H'
noncomputable def TP (X:Cx) (pins:List (Addr × Obj)) (σ:St) (Q:Bool->Hp->Prop) (b:Bool) (s':Shared):Prop:=∃ H',Inv X pins σ H' s'/\Q b H'
noncomputable def AP (X:Cx) (pins:List (Addr × Obj)) (σ:St) (Q:List V->Hp->Prop) (us:List Value) (s':Shared):Prop:=∃ vs H',Inv X pins σ H' s'/\Vals vs us/\Q vs H'
set_option tactic.hygienic true in
noncomputable def SP (X:Cx) (pins:List (Addr × Obj)) (D:Ends) (f:Flow) (s':Shared):Prop :=
  match f with
  | .next=>∃ σ' H',Inv X pins σ' H' s'/\D.nx σ' H'
  | .brk=>∃ σ' H',Inv X pins σ' H' s'/\D.bk σ' H'
  | .cont=>∃ σ' H',Inv X pins σ' H' s'/\D.ct σ' H'
  | .ret u=>∃ v σ' H',Inv X pins σ' H' s'/\RelV v u/\D.rt v H'
noncomputable def PE (X:Cx) (e:Expr) (t:TE):Prop :=
  ∀ (pins:List (Addr × Obj)) (s:Shared) (σ:St) (H:Hp) (Q:VK),Inv X pins σ H s->t σ H Q->wpAny (model X.prog X.w) X.A (eval e X.env) (EP X pins σ Q) X.xe s
noncomputable def PT (X:Cx) (e:Expr) (t:TT):Prop :=
  ∀ (pins:List (Addr × Obj)) (s:Shared) (σ:St) (H:Hp) (Q:Bool->Hp->Prop),Inv X pins σ H s->t σ H Q->wpAny (model X.prog X.w) X.A (isTrue e X.env (eval e X.env)) (TP X pins σ Q) X.xe s
noncomputable def PW (X:Cx) (e:Expr) (t:TT):Prop :=
  ∀ (whole:Sem Value) (pins:List (Addr × Obj)) (s:Shared) (σ:St) (H:Hp) (Q:Bool->Hp->Prop),Inv X pins σ H s->t σ H Q->wpAny (model X.prog X.w) X.A (isTrue e X.env whole) (TP X pins σ Q) X.xe s
theorem PW.pt {X:Cx} {e:Expr} {t:TT} (h:PW X e t):PT X e t:=h _
noncomputable def PA (X:Cx) (es:List Expr) (t:TA):Prop :=
  ∀ (pos:Pos) (pins:List (Addr × Obj)) (s:Shared) (σ:St) (H:Hp) (Q:List V->Hp->Prop),Inv X pins σ H s->t σ H Q->wpAny (model X.prog X.w) X.A (spliced (backTo pos (starEach es X.env))) (AP X pins σ Q) X.xe s
noncomputable def PS (X:Cx) (st:Stmt) (t:TS):Prop :=
  ∀ (pins:List (Addr × Obj)) (s:Shared) (σ:St) (H:Hp) (D:Ends),Inv X pins σ H s->t D σ H->wpAny (model X.prog X.w) X.A (exec st X.env) (SP X pins D) X.xe s
noncomputable def PSs (X:Cx) (st:List Stmt) (t:TS):Prop :=
  ∀ (pins:List (Addr × Obj)) (s:Shared) (σ:St) (H:Hp) (D:Ends),Inv X pins σ H s->t D σ H->wpAny (model X.prog X.w) X.A (execs st X.env) (SP X pins D) X.xe s
theorem thn {α:Type} {t:Sem α} {Q Q':α->Shared->Prop} {M:Model} {A:Around} {E:Value->Shared->Prop} {s:Shared} (h:wpAny M A t Q E s) (hQ:∀ a s,Q a s->Q' a s):wpAny M A t Q' E s:=wpAny_mono h hQ fun _ _ x=>x
end L2
namespace L2
open PySem PySem.Spec PyProof.Rows
section
variable {X:Cx}
theorem bin {a b:Expr} {ta tb:TE} (ha:PE X a ta) (hb:PE X b tb) {pins:List (Addr × Obj)} {s:Shared} {σ:St} {H:Hp} {R:V->V->Hp->Prop} (I:Inv X pins σ H s) (h:ta σ H fun x H1=>tb σ H1 fun y H2=>R x y H2)
    {α:Type} {Q:α->Shared->Prop} {f:Value->Value->Sem α}
    (hf:∀ v u s2 x y H2,Inv X pins σ H2 s2->RelV x v->RelV y u->R x y H2->wpAny (model X.prog X.w) X.A (f v u) Q X.xe s2) :
    wpAny (model X.prog X.w) X.A (eval a X.env) (fun v s₁=>wpAny (model X.prog X.w) X.A (eval b X.env) (fun u s₂=>wpAny (model X.prog X.w) X.A (f v u) Q X.xe s₂) X.xe s₁) X.xe s:=by
  refine thn (ha pins s σ H _ I h) fun v s1 ⟨x,H1,I1,r1,q1⟩=>?_
  refine thn (hb pins s1 σ H1 _ I1 q1) fun u s2 ⟨y,H2,I2,r2,q2⟩=>?_
  exact hf v u s2 x y H2 I2 r1 r2 q2
noncomputable def sU (i:Nat):TE:=fun σ H Q=>∃ v,σ[i]?=some (some v)/\Q v H
noncomputable def tC (v:V):TE:=fun _ H Q=>Q v H
theorem gT {i:Nat} {x:Str} {pos:Pos} (hN:X.N[i]?=some x) (hv:Vis X.env.scope x) (hd:(x == ("__debug__":Str))=false:=by decide) (hcd:(x == ("__classdict__":Str))=false:=by decide):PE X (.Name x pos) (sU i):=by
  intro pins s σ H Q I h
  obtain ⟨v,e,h⟩:=h
  obtain ⟨m,hn,hl⟩:=I.loc
  obtain ⟨u,r,l⟩:=hl i x v hN e hv
  have fin:EP X pins σ Q u s:=⟨v,H,I,r,h⟩
  rcases l with ⟨hk,hm⟩ | ⟨hk,c,hc,hcell⟩
  · exact wpAny_Name (wpAny_loadName_local I.ok.kind hk hn hm fin) hd
  · rcases hk with hk | hk
    · exact wpAny_Name (wpAny_loadName_cell I.ok.kind hk hc hcell fin) hd
    · exact wpAny_Name (wpAny_loadName_free I.ok.kind hk hc hcell fin hcd) hd
theorem Bp {i j pos}:PE X (.Constant (.int i) j pos) (tC (.int i)):=fun _ _ _ H _ I h=>wpAny_Constant_int ⟨.int i,H,I.tok _,⟨_,rfl⟩,h⟩
theorem pe_bl {b j pos}:PE X (.Constant (.bool b) j pos) (tC (.bl b)):=fun _ _ _ H _ I h=>Constant_bool ⟨.bl b,H,I,rfl,h⟩
theorem Bk {j pos}:PE X (.Constant .none j pos) (tC .non):=fun _ _ _ H _ I h=>Constant_none ⟨.non,H,I,rfl,h⟩
noncomputable def Gl (X:Cx) (x:Str):Prop:=X.env.kindOf x=some .globalImplicit
theorem r6 {E:Value->Shared->Prop} {pins:List (Addr × Obj)} {s:Shared} {σ:St} {H:Hp} {x:Str} {u:Value} {pos:Pos} {Q:Value->Shared->Prop} (I:Inv X pins σ H s) (hg:Gl X x) (hm:X.mg x=some u) (h:Q u s)
    (hd:(x == ("__debug__":Str))=false:=by decide):wpAny (model X.prog X.w) X.A (eval (.Name x pos) X.env) Q E s :=
  Calls.Name_function_global I.ok.kind hg (Calls.loadGlobal_global (by rw [I.ok.glob];exact I.mod.glob.keeps I.bk) hm h) hd
theorem gx {E:Value->Shared->Prop} {pins:List (Addr × Obj)} {s:Shared} {σ:St} {H:Hp} {x:Str} {u:Value} {pos:Pos} {Q:Value->Shared->Prop} (I:Inv X pins σ H s) (hg:Gl X x) (hm:X.mg x=none) (hv:bootBuiltins x=some u) (h:Q u s)
    (hn:x ≠ "__name__":=by decide) (hd:(x == ("__debug__":Str))=false:=by decide):wpAny (model X.prog X.w) X.A (eval (.Name x pos) X.env) Q E s:=by
  obtain ⟨mb,h1,h2⟩:=I.mod.blt
  exact Calls.Name_function_global I.ok.kind hg (Calls.loadGlobal_builtin (by rw [I.ok.glob];exact I.mod.glob.keeps I.bk) hm (by rw [I.ok.blt];exact h1.keeps I.bk) ((h2 x hn).trans hv) h) hd
theorem yO {x:Str} {v:V} {u:Value} {pos:Pos} (hg:Gl X x) (hm:X.mg x=some u) (r:RelV v u) (hd:(x == ("__debug__":Str))=false:=by decide):PE X (.Name x pos) (tC v) :=
  fun _ _ _ H _ I h=>r6 I hg hm ⟨v,H,I,r,h⟩ hd
theorem iw {x:Str} {v:V} {u:Value} {pos:Pos} (hg:Gl X x) (hm:X.mg x=none) (hv:bootBuiltins x=some u) (r:RelV v u) (hn:x ≠ "__name__":=by decide) (hd:(x == ("__debug__":Str))=false:=by decide):PE X (.Name x pos) (tC v) :=
  fun _ _ _ H _ I h=>gx I hg hm hv ⟨v,H,I,r,h⟩ hn hd
variable {a b:Expr} {ta tb:TE} {pos:Pos}
noncomputable def PC (X:Cx) (op:CmpOp) (a b:Expr) (t:TE):Prop :=
  ∀ (pins:List (Addr × Obj)) (s:Shared) (σ:St) (H:Hp) (Q:VK),Inv X pins σ H s->t σ H Q ->
    wpAny (model X.prog X.w) X.A (eval a X.env) (fun v s₁=>wpAny (model X.prog X.w) X.A (eval b X.env) (fun u s₂=>wpAny (model X.prog X.w) X.A (compareOp op v u) (EP X pins σ Q) X.xe s₂) X.xe s₁) X.xe s
noncomputable def tB (t:TE):TT:=fun σ H Q=>t σ H fun x H1=>∃ c,x=.bl c/\Q c H1
theorem A9 {e:Expr} {t:TE} (h:PE X e t) (he:∀ whole,isTrue e X.env whole=(do let v <- whole;standAt e.pos;holding [v] (truthy v)):=by intro _;rfl):PT X e (tB t):=by
  intro pins s σ H Q I hw
  refine isTrue_plain (thn (h pins s σ H _ I hw) fun v s1 ⟨x,H1,I1,r1,q1⟩=>?_) (he _)
  obtain ⟨d,rfl,q⟩:=q1
  cases r1
  exact CN ⟨H1,I1,q⟩
variable {tA tB':TT} {eB:List Expr}
noncomputable def tAnd (t u:TT):TT:=fun σ H Q=>t σ H fun c H1=>if c=true then u σ H1 Q else Q false H1
noncomputable def tOr (t u:TT):TT:=fun σ H Q=>t σ H fun c H1=>if c=true then Q true H1 else u σ H1 Q
noncomputable def tNot (t:TT):TT:=fun σ H Q=>t σ H fun c H1=>Q (!c) H1
theorem yz (ha:PT X a tA):PW X (.BoolOp .And [a] pos) tA:=by
  intro wh pins s σ H Q I h
  refine isTrue_and (thn (ha pins s σ H Q I h) fun c s1 e=>?_)
  cases c with
  | true=>exact isTrue_and_nil e
  | false=>exact e
theorem A7 (ha:PT X a tA):PW X (.BoolOp .Or [a] pos) tA:=by
  intro wh pins s σ H Q I h
  refine isTrue_or (thn (ha pins s σ H Q I h) fun c s1 e=>?_)
  cases c with
  | false=>exact isTrue_or_nil e
  | true=>exact e
theorem A8 (ha:PT X a tA) (hb:PW X (.BoolOp .And (b :: eB) pos) tB'):PW X (.BoolOp .And (a :: b :: eB) pos) (tAnd tA tB'):=by
  intro wh pins s σ H Q I h
  refine isTrue_and (thn (ha pins s σ H _ I h) fun c s1 ⟨H1,I1,q1⟩=>?_)
  cases c with
  | true=>exact hb wh pins s1 σ H1 Q I1 q1
  | false=>exact ⟨H1,I1,q1⟩
theorem pw_or (ha:PT X a tA) (hb:PW X (.BoolOp .Or (b :: eB) pos) tB'):PW X (.BoolOp .Or (a :: b :: eB) pos) (tOr tA tB'):=by
  intro wh pins s σ H Q I h
  refine isTrue_or (thn (ha pins s σ H _ I h) fun c s1 ⟨H1,I1,q1⟩=>?_)
  cases c with
  | true=>exact ⟨H1,I1,q1⟩
  | false=>exact hb wh pins s1 σ H1 Q I1 q1
theorem Ba (ha:PT X a tA):PT X (.UnaryOp .Not a pos) (tNot tA):=by
  intro pins s σ H Q I h
  exact isTrue_not (ha pins s σ H (fun c H1=>Q (!c) H1) I h)
noncomputable def z6 (ta tb:TE):TE:=fun σ H Q=>ta σ H fun x H1=>∃ c,x=.bl c/\if c=true then tb σ H1 Q else Q (.bl false) H1
noncomputable def tOrV (ta tb:TE):TE:=fun σ H Q=>ta σ H fun x H1=>∃ c,x=.bl c/\if c=true then Q (.bl true) H1 else tb σ H1 Q
noncomputable def zW (ta:TE):TE:=fun σ H Q=>ta σ H fun x H1=>∃ c,x=.bl c/\Q (.bl (!c)) H1
theorem Bi {op} {t:TE} (h:PE X a t):PE X (.BoolOp op [a] pos) t:=fun pins s σ H Q I hw=>BoolOp_one (h pins s σ H Q I hw)
theorem Br (ha:PE X a ta) (hb:PE X (.BoolOp .And (b :: eB) pos) tb):PE X (.BoolOp .And (a :: b :: eB) pos) (z6 ta tb):=by
  intro pins s σ H Q I h
  refine BoolOp_and (thn (ha pins s σ H _ I h) fun v s1 ⟨x,H1,I1,r1,q1⟩=>?_)
  obtain ⟨c,rfl,q1⟩:=q1
  cases r1
  refine CN ?_
  cases c with
  | true=>exact hb pins s1 σ H1 Q I1 q1
  | false=>exact ⟨.bl false,H1,I1,rfl,q1⟩
theorem pe_or (ha:PE X a ta) (hb:PE X (.BoolOp .Or (b :: eB) pos) tb):PE X (.BoolOp .Or (a :: b :: eB) pos) (tOrV ta tb):=by
  intro pins s σ H Q I h
  refine BoolOp_or (thn (ha pins s σ H _ I h) fun v s1 ⟨x,H1,I1,r1,q1⟩=>?_)
  obtain ⟨c,rfl,q1⟩:=q1
  cases r1
  refine CN ?_
  cases c with
  | false=>exact hb pins s1 σ H1 Q I1 q1
  | true=>exact ⟨.bl true,H1,I1,rfl,q1⟩
theorem Bj (ha:PE X a ta):PE X (.UnaryOp .Not a pos) (zW ta):=by
  intro pins s σ H Q I h
  refine UnaryOp_ (thn (ha pins s σ H _ I h) fun v s1 ⟨x,H1,I1,r1,q1⟩=>?_)
  obtain ⟨c,rfl,q1⟩:=q1
  cases r1
  exact not_of (CN ⟨.bl (!c),H1,I1,rfl,q1⟩)
end
end L2
namespace L2
open PySem PySem.Spec PyProof.Rows
noncomputable def SqL (K:FG) (H:Hp) (a:Addr) (xs:List V):Prop :=
  Rd H a (.lst xs) \/
    ∃ (o:Obj) (its:Array Value) (n:Nat),K.lookup a=some o/\o.cls=.type "list"/\o.dict=none/\o.data=.seq its n/\its.size<=sizeLine/\Vals xs its.toList
noncomputable def SqT (K:FG) (H:Hp) (a:Addr) (xs:List V):Prop :=
  Rd H a (.tup xs) \/
    ∃ (o:Obj) (its:Array Value) (n:Nat),K.lookup a=some o/\o.cls=.type "tuple"/\o.data=.seq its n/\its.size<=sizeLine/\Vals xs its.toList
noncomputable def absV:Value->Option V
  | .none=>some .non
  | .bool b=>some (.bl b)
  | .int i _=>some (.int i)
  | .str x _=>some (.str x)
  | .bytes b _=>some (.byt b)
  | .float b _=>some (.flt b)
  | .ref a=>some (.ref a)
  | .type n=>some (.ty n)
  | _=>none
theorem RelV.abs {x:V} {u:Value} (r:RelV x u):absV u=some x:=by
  cases x with
  | non=>cases r;rfl
  | bl _=>cases r;rfl
  | int _=>obtain ⟨t,rfl⟩:=r;rfl
  | str _=>obtain ⟨t,rfl⟩:=r;rfl
  | byt _=>obtain ⟨t,rfl⟩:=r;rfl
  | flt _=>obtain ⟨t,rfl⟩:=r;rfl
  | ref _=>cases r;rfl
  | ty _=>cases r;rfl
theorem RelV.inj {x y:V} {u:Value} (r:RelV x u) (q:RelV y u):x=y:=CV (r.abs.symm.trans q.abs)
theorem Vals.inj:∀ {xs ys:List V} {us:List Value},Vals xs us->Vals ys us->xs=ys
  | _,_,_,.nil,.nil=>rfl
  | _,_,_,.cons r t,.cons r' t'=>by rw [r.inj r',Vals.inj t t']
section
variable {X:Cx} {pins:List (Addr × Obj)} {σ:St} {H:Hp} {s:Shared} {a:Addr} {xs ys:List V}
theorem SqL.of {K:FG} (h:H a=some (.lst xs)):SqL K H a xs:=.inl (.inl h)
theorem SqT.of {K:FG} (h:H a=some (.tup xs)):SqT K H a xs:=.inl (.inl h)
theorem Inv.list (I:Inv X pins σ H s) (h:SqL X.K H a xs):∃ its:List Value,Vals xs its/\PlainL s.heap a its.toArray/\xs.length<=sizeLine:=by
  rcases h with h | ⟨o,its,n,hk,hc,hd,hs,hz,r⟩
  · obtain ⟨z,its,n,r,e⟩:=h.ok I.hok
    exact ⟨its,r,⟨_,n,e,rfl,rfl,rfl⟩,z⟩
  · refine ⟨its.toList,r,⟨o,n,I.kIn a o hk,hc,hd,by simpa using hs⟩,?_⟩
    have e:=r.length
    simp only [Array.length_toList] at e
    omega
theorem Inv.tuple (I:Inv X pins σ H s) (h:SqT X.K H a xs):∃ its:List Value,Vals xs its/\IsTup s.heap a its.toArray/\xs.length<=sizeLine:=by
  rcases h with h | ⟨o,its,n,hk,hc,hs,hz,r⟩
  · obtain ⟨z,its,r,p⟩:=h.ok I.hok
    exact ⟨its,r,p.tup,z⟩
  · refine ⟨its.toList,r,⟨o,I.kIn a o hk,hc,n,by simpa using hs⟩,?_⟩
    have e:=r.length
    simp only [Array.length_toList] at e
    omega
theorem Inv.list_inj (I:Inv X pins σ H s) (h:SqL X.K H a xs) (h':SqL X.K H a ys):xs=ys:=by
  obtain ⟨its,r,⟨o,n,e,_,_,d⟩,_⟩:=I.list h
  obtain ⟨its',r',⟨o',n',e',_,_,d'⟩,_⟩:=I.list h'
  rw [e] at e';cases e'
  rw [d] at d'
  injection d' with d1 _
  have:its=its':=by simpa using congrArg Array.toList d1
  subst this
  exact r.inj r'
theorem Inv.tuple_inj (I:Inv X pins σ H s) (h:SqT X.K H a xs) (h':SqT X.K H a ys):xs=ys:=by
  obtain ⟨its,r,⟨o,e,_,n,d⟩,_⟩:=I.tuple h
  obtain ⟨its',r',⟨o',e',_,n',d'⟩,_⟩:=I.tuple h'
  rw [e] at e';cases e'
  rw [d] at d'
  injection d' with d1 _
  have:its=its':=by simpa using congrArg Array.toList d1
  subst this
  exact r.inj r'
end
noncomputable abbrev Cx.wish (X:Cx) (E:Value->Shared->Prop):Cx:={ X with xe:=E }
noncomputable abbrev Cx.nox (X:Cx):Cx:=X.wish fun _ _=>False
theorem Cx.Ok.wish {X:Cx} (ok:X.Ok) (E:Value->Shared->Prop):(X.wish E).Ok :=
  ⟨ok.mod,ok.kind,ok.glob,ok.blt,ok.above,ok.inj,ok.has,ok.cab,ok.hd,ok.frames,ok.stk,ok.exf,ok.bs,ok.bsz,ok.noex,ok.exfs,ok.funs,ok.frf⟩
theorem Cx.Ok.unwish {X:Cx} {E:Value->Shared->Prop} (ok:(X.wish E).Ok):X.Ok :=
  ⟨ok.mod,ok.kind,ok.glob,ok.blt,ok.above,ok.inj,ok.has,ok.cab,ok.hd,ok.frames,ok.stk,ok.exf,ok.bs,ok.bsz,ok.noex,ok.exfs,ok.funs,ok.frf⟩
section
variable {X:Cx} {pins:List (Addr × Obj)} {σ:St} {H:Hp} {s:Shared} {E:Value->Shared->Prop}
theorem Inv.wish (I:Inv X pins σ H s) (E:Value->Shared->Prop):Inv (X.wish E) pins σ H s:=⟨I.ok.wish E,I.os,I.bare,I.base,I.loc,I.cell,I.free,I.freeC,I.pin,I.hok,I.len⟩
theorem Inv.unwish (I:Inv (X.wish E) pins σ H s):Inv X pins σ H s:=⟨I.ok.unwish,I.os,I.bare,I.base,I.loc,I.cell,I.free,I.freeC,I.pin,I.hok,I.len⟩
set_option tactic.hygienic true in
theorem SP.unwish {D:Ends} {f:Flow} {s':Shared} (h:SP (X.wish E) pins D f s'):SP X pins D f s':=by
  cases f with
  | next=>obtain ⟨σ',H',I,q⟩:=h;exact ⟨σ',H',I.unwish,q⟩
  | brk=>obtain ⟨σ',H',I,q⟩:=h;exact ⟨σ',H',I.unwish,q⟩
  | cont=>obtain ⟨σ',H',I,q⟩:=h;exact ⟨σ',H',I.unwish,q⟩
  | ret u=>obtain ⟨v,σ',H',I,r,q⟩:=h;exact ⟨v,σ',H',I.unwish,r,q⟩
theorem PSs.nox {st:List Stmt} {t:TS} (h:PSs X.nox st t):PSs X st t:=fun pins s σ H D I hw =>
  wpAny_mono (h pins s σ H D (I.wish _) hw) (fun _ _ q=>q.unwish) fun _ _ z=>False.elim z
end
section
variable {X:Cx} {st:Stmt} {eB:List Stmt} {t u:TS} {e:Expr} {te:TE} {pos:Pos}
noncomputable def zX:TS:=fun D σ H=>D.nx σ H
noncomputable def tSeq (t u:TS):TS:=fun D σ H=>t { D with nx:=u D } σ H
theorem yG:PSs X [] zX:=fun _ _ σ H _ I h=>wpAny_execs_nil ⟨σ,H,I,h⟩
set_option tactic.hygienic true in
theorem vM (h1:PS X st t) (h2:PSs X eB u):PSs X (st :: eB) (tSeq t u):=by
  intro pins s σ H D I h
  refine wpAny_execs_cons (thn (h1 pins s σ H { D with nx:=u D } I h) fun f s1 q=>?_)
  cases f with
  | next =>
    obtain ⟨σ',H',I',q⟩:=q
    exact h2 pins s1 σ' H' D I' q
  | ret v=>exact q
  | brk=>exact q
  | cont=>exact q
set_option tactic.hygienic true in
theorem yF (h1:PS X st t):PSs X [st] t:=by
  intro pins s σ H D I h
  refine wpAny_execs_cons (thn (h1 pins s σ H D I h) fun f s1 q=>?_)
  cases f with
  | next=>exact wpAny_execs_nil q
  | ret v=>exact q
  | brk=>exact q
  | cont=>exact q
theorem Inv.quiet {pins:List (Addr × Obj)} {σ:St} {H:Hp} {s:Shared} (I:Inv X pins σ H s):interactive X.env=false:=by simp [interactive,I.ok.kind]
noncomputable def zZ (te:TE):TS:=fun D σ H=>te σ H fun _ H1=>D.nx σ H1
theorem yH (he:PE X e te) (hs:swapsWith e none pos.line X.env=pure false:=by rfl):PS X (.Expr e pos) (zZ te):=by
  intro pins s σ H D I h
  exact wpAny_Expr_any (thn (he pins s σ H _ I h) fun v s1 ⟨x,H1,I1,r1,q1⟩=>⟨σ,H1,I1,q1⟩) I.quiet hs
noncomputable def tRet (te:TE):TS:=fun D σ H=>te σ H D.rt
theorem Bc (he:PE X e te):PS X (.Return (some e) pos) (tRet te):=by
  intro pins s σ H D I h
  exact wpAny_Return_some (thn (he pins s σ H _ I h) fun v s1 ⟨x,H1,I1,r1,q1⟩=>⟨x,σ,H1,I1,r1,q1⟩)
noncomputable def tIfS (c:TT) (t u:TS):TS:=fun D σ H=>c σ H fun b H1=>if b=true then t D σ H1 else u D σ H1
theorem ps_if {c:Expr} {a b:List Stmt} {tc:TT} (hc:PT X c tc) (ha:PSs X a t) (hb:PSs X b u):PS X (.If c a b pos) (tIfS tc t u):=by
  intro pins s σ H D I h
  refine wpAny_If (thn (hc pins s σ H _ I h) fun d s1 ⟨H1,I1,q1⟩=>?_)
  cases d with
  | true=>exact ha pins s1 σ H1 D I1 q1
  | false=>exact hb pins s1 σ H1 D I1 q1
noncomputable def AJ:TS:=fun _ _ _=>False
theorem vO:PS X st AJ:=fun _ _ _ _ _ _ h=>h.elim
end
noncomputable abbrev TG:=V->St->Hp->(St->Hp->Prop)->Prop
noncomputable abbrev TGs:=List V->St->Hp->(St->Hp->Prop)->Prop
noncomputable def PG (X:Cx) (target:Expr) (t:TG):Prop :=
  ∀ (pins:List (Addr × Obj)) (s:Shared) (σ:St) (H:Hp) (v:V) (u:Value) (Q:St->Hp->Prop),Inv X pins σ H s->RelV v u->t v σ H Q ->
    wpAny (model X.prog X.w) X.A (assign target X.env u) (fun _ s'=>∃ σ' H',Inv X pins σ' H' s'/\Q σ' H') X.xe s
noncomputable def PGs (X:Cx) (ts:List Expr) (t:TGs):Prop :=
  ∀ (pins:List (Addr × Obj)) (s:Shared) (σ:St) (H:Hp) (vs:List V) (us:List Value) (Q:St->Hp->Prop),Inv X pins σ H s->Vals vs us->t vs σ H Q ->
    wpAny (model X.prog X.w) X.A (assignInOrder ((assignEach ts X.env).map (·.2)) us) (fun _ s'=>∃ σ' H',Inv X pins σ' H' s'/\Q σ' H') X.xe s
noncomputable abbrev uV:=V->V->V->Hp->(Hp->Prop)->Prop
noncomputable def xz (X:Cx) (t:uV):Prop :=
  ∀ (pins:List (Addr × Obj)) (s:Shared) (σ:St) (H:Hp) (o i v:V) (ov iv u:Value) (Q:Hp->Prop),Inv X pins σ H s->RelV o ov->RelV i iv->RelV v u->t o i v H Q ->
    wpAny (model X.prog X.w) X.A (setItem ov iv u) (fun _ s'=>∃ H',Inv X pins σ H' s'/\Q H') X.xe s
section
variable {X:Cx} {pos:Pos}
noncomputable def si (i:Nat):TG:=fun v σ H Q=>Q (σ.set i (some v)) H
theorem bj {i:Nat} {x:Str} (hN:X.N.Nodup) (hi:X.N[i]?=some x) (hx:Loc X.env.scope x) (hf:X.fn x=true\/X.env.scope.names.lookup x=some .local:=by first | exact .inl rfl | exact .inr rfl | assumption):PG X (.Name x pos) (si i):=by
  intro pins s σ H v u Q I r h
  exact wpAny_assign_Name (oK I hN hi hx r (fun s' I'=>⟨_,H,I',h⟩) hf)
noncomputable def gNil:TGs:=fun vs σ H Q=>vs=[]/\Q σ H
noncomputable def Aq (t:TG) (u:TGs):TGs:=fun vs σ H Q=>∃ v r,vs=v :: r/\t v σ H fun σ' H'=>u r σ' H' Q
theorem nH:PGs X [] gNil:=by
  intro pins s σ H vs us Q I r h
  obtain ⟨e,h⟩:=h
  subst e
  cases r
  exact assignInOrder_nil ⟨σ,H,I,h⟩
theorem gS {e:Expr} {es:List Expr} {t:TG} {u:TGs} (h1:PG X e t) (h2:PGs X es u)
    (hs:(assignEach (e :: es) X.env).map (·.2)=assign e X.env :: (assignEach es X.env).map (·.2):=by rfl):PGs X (e :: es) (Aq t u):=by
  intro pins s σ H vs us Q I r h
  obtain ⟨v,vr,e1,h⟩:=h
  subst e1
  cases r with
  | cons r rr =>
    rw [hs]
    refine assignInOrder_cons (thn (h1 pins s σ H _ _ _ I r h) fun _ s1 ⟨σ1,H1,I1,q1⟩=>?_)
    exact h2 pins s1 σ1 H1 _ _ Q I1 rr q1
noncomputable def gTup (K:FG) (n:Nat) (t:TGs):TG:=fun v σ H Q=>∃ a xs,v=.ref a/\SqT K H a xs/\xs.length=n/\t xs σ H Q
theorem qA {es:List Expr} {k:Nat} {t:TGs} {n:Nat} (hc:X.calm=true) (h:PGs X es t)
    (hn:(assignEach es X.env).length=n:=by rfl) (hst:(assignEach es X.env).findIdx? (·.1)=none:=by rfl):PG X (.Tuple es k pos) (gTup X.K n t):=by
  intro pins s σ H v u Q I r hw
  obtain ⟨a,xs,e1,hq,hl,hw⟩:=hw
  subst e1
  cases r
  obtain ⟨its,rv,ht,hz⟩:=I.tuple hq
  refine assign_Tuple_tuple (I.ok.hd hc) ht (by simp [hn,<- hl,rv.length]) hst fun h' hx=>?_
  have I1:Inv X pins σ H { s with heap:=h' }:=I.kept (t':=s.toks) fun b o e=>hx b o (Cs (Ch e)) e
  exact h pins _ σ H xs _ Q I1 (by simpa using rv) hw
noncomputable def gSub (to ti:TE) (t:uV):TG:=fun v σ H Q=>to σ H fun o H1=>ti σ H1 fun i H2=>t o i v H2 fun H3=>Q σ H3
theorem Bg {o i:Expr} {to ti:TE} {t:uV} (ho:PE X o to) (hi:PE X i ti) (hs:xz X t)
    (ha:∀ v,assign (.Subscript o i pos) X.env v=(do
      let ov <- holding [v] (eval o X.env)
      let iv <- holding [v,ov] (eval i X.env)
      standAt pos
      holding [v,ov,iv] (setItem ov iv v)
      release [v,ov,iv] []):=by intro _;rfl):PG X (.Subscript o i pos) (gSub to ti t):=by
  intro pins s σ H v u Q I r h
  rw [ha]
  refine B5 (B7 (thn (ho pins s σ H _ I h) fun ov s1 ⟨x,H1,I1,r1,q1⟩=>?_))
  refine B5 (B7 (thn (hi pins s1 σ H1 _ I1 q1) fun iv s2 ⟨y,H2,I2,r2,q2⟩=>?_))
  refine B5 (wpAny_standAt (B5 (B7 (thn (hs pins s2 σ H2 x y v ov iv u _ I2 r1 r2 r q2) fun _ s3 ⟨H3,I3,q3⟩=>?_))))
  exact wpAny_release ⟨σ,H3,I3,q3⟩
noncomputable def vf (te:TE) (g:TG):TS:=fun D σ H=>te σ H fun x H1=>g x σ H1 D.nx
theorem vP {tg e:Expr} {te:TE} {g:TG} (he:PE X e te) (hg:PG X tg g) (hs:swapsWithSole [tg] e pos.line X.env=pure false:=by rfl) (hw:swappedStores [tg] e X.env=pure none:=by rfl)
    (h1:(assignEach [tg] X.env).map (·.2)=[assign tg X.env]:=by rfl):PS X (.Assign [tg] e pos) (vf te g):=by
  intro pins s σ H D I h
  refine wpAny_Assign_stores (thn (he pins s σ H _ I h) fun v s1 ⟨x,H1,I1,r1,q1⟩=>?_) hs hw
  rw [h1]
  exact thn (hg pins s1 σ H1 x v _ I1 r1 q1) fun _ s2 q=>q
theorem Bb {i:Nat} {x:Str} {e:Expr} {te:TE} {pos':Pos} (hN:X.N.Nodup) (hi:X.N[i]?=some x) (hx:Loc X.env.scope x) (he:PE X e te) (hs:swapsWith e (some (.Name x pos')) pos.line X.env=pure false:=by rfl) (hf:X.fn x=true\/X.env.scope.names.lookup x=some .local:=by first | exact .inl rfl | exact .inr rfl | assumption) :
    PS X (.Assign [.Name x pos'] e pos) (vf te (si i)):=by
  intro pins s σ H D I h
  refine wpAny_Assign_Name (thn (he pins s σ H _ I h) fun v s1 ⟨y,H1,I1,r1,q1⟩=>?_) hs
  exact oK I1 hN hi hx r1 (fun s2 I2=>⟨_,H1,I2,q1⟩) hf
end
section
variable {X:Cx} {pos:Pos}
noncomputable def u7 (c:TT) (tb:TS):TS:=fun D σ H=>∃ W:Nat->St->Hp->Prop,(∃ m,W m σ H)/\∀ m σ H,W m σ H ->
  c σ H fun b H1=>if b=true then ∃ N:St->Hp->Prop,(∀ σ' H',N σ' H'->∃ m',m' < m/\W m' σ' H')/\tb { D with nx:=N,ct:=N,bk:=D.nx } σ H1 else D.nx σ H1
set_option tactic.hygienic true in
theorem vN {c:Expr} {body:List Stmt} {tc:TT} {tb:TS} (hp:PassesOwn (model X.prog X.w) X.A X.env X.xe) (hc:PT X c tc) (hb:PSs X body tb):PS X (.While c body [] pos) (u7 tc tb):=by
  intro pins s σ H D I h
  obtain ⟨W,⟨m0,w0⟩,turn⟩:=h
  refine wpAny_While (codeAny_whileLoop (fun n s'=>∃ σ' H',Inv X pins σ' H' s'/\W n σ' H') ?_ m0 ⟨σ,H,I,w0⟩)
  rintro n s1 ⟨σ1,H1,I1,w1⟩
  refine wpAny_passesOwn hp (thn (hc pins s1 σ1 H1 _ I1 (turn n σ1 H1 w1)) fun b s2 ⟨H2,I2,q2⟩=>?_)
  cases b with
  | true =>
    obtain ⟨N,hN,q2⟩:=q2
    rw [if_pos rfl]
    refine wpAny_passesOwn hp (thn (hb pins s2 σ1 H2 _ I2 q2) fun f s3 q3=>?_)
    cases f with
    | next =>
      obtain ⟨σ3,H3,I3,n3⟩:=q3
      obtain ⟨m',hm,w3⟩:=hN σ3 H3 n3
      exact ⟨m',hm,σ3,H3,I3,w3⟩
    | cont =>
      obtain ⟨σ3,H3,I3,n3⟩:=q3
      obtain ⟨m',hm,w3⟩:=hN σ3 H3 n3
      exact ⟨m',hm,σ3,H3,I3,w3⟩
    | brk=>exact q3
    | ret v=>exact q3
  | false =>
    rw [if_neg Cr]
    exact wpAny_execs_nil ⟨σ1,H2,I2,q2⟩
end
structure It where
  go:Nat->Hp->Prop
  yld:Nat->Hp->V->Hp->Prop
  stop:Nat->Hp->Prop
noncomputable def FpOk (X:Cx) (pins:List (Addr × Obj)) (H:Hp) (b:Addr):Prop :=
  H b=none/\b ≠ X.env.locals/\b ∉ X.fs/\(b ∈ X.ex\/X.s₀.heap.objs.size<=b)/\(∀ x c,X.env.cells.lookup x=some c->c ≠ b)/\∀ p ∈ X.pn ++ pins,p.1 ≠ b
theorem Inv.fpOk {X:Cx} {pins:List (Addr × Obj)} {σ:St} {H H':Hp} {s:Shared} {b:Addr} (I:Inv X pins σ H s) (hb:s.heap.objs.size<=b) (hn:H' b=none):FpOk X pins H' b:=by
  refine ⟨hn,Nat.ne_of_gt (Cy I.lt hb),I.nofs hb,.inr (CO I.sz hb),fun x c e z=>?_,fun p hp z=>?_⟩
  · obtain ⟨v,q⟩:=I.cell x c e
    exact absurd (Cy q.lt (by rw [z];exact hb)) (Nat.lt_irrefl _)
  · exact absurd (Cy (Ch (I.pin p hp).1) (by rw [z];exact hb)) (Nat.lt_irrefl _)
structure Turn (P:Program) (w:World) (K:FG) (tg:Expr) (J:It) (fp:List Addr) (it:Addr) (tn:Nat->Heap->Prop):Prop where
  mem:it ∈ fp
  obj:∀ i h,tn i h->∀ b ∈ fp,∃ o,h.get? b=some o/\∀ v,o.data ≠ .cell v
  keep:∀ i h h',tn i h->(∀ b ∈ fp,∀ o,h.get? b=some o->h'.get? b=some o)->tn i h'
  item:∀ (X:Cx),X.prog=P->X.w=w->X.K=K->X.calm=true->∀ (i:Nat) (pins:List (Addr × Obj)) (s:Shared) (σ:St) (H:Hp) (E:Value->Shared->Prop),Inv X pins σ H s->(∀ b ∈ fp,FpOk X pins H b)->tn i s.heap->J.go i H ->
    wpAny (model P w) X.A (pyNext (.ref it)) (fun r s1=>∃ u,r=some u /\
      wpAny (model P w) X.A (letOwnedTupleGo tg (.ref it) u) (fun _ s2=>∃ x H',Inv X pins σ H' s2/\RelV x u/\J.yld i H x H'/\tn (i+1) s2.heap/\∀ b ∈ fp,H' b=none) E s1) E s
  done:∀ (X:Cx),X.prog=P->X.w=w->X.K=K->X.calm=true->∀ (i:Nat) (pins:List (Addr × Obj)) (s:Shared) (σ:St) (H:Hp) (E:Value->Shared->Prop),Inv X pins σ H s->(∀ b ∈ fp,FpOk X pins H b)->tn i s.heap->J.stop i H ->
    wpAny (model P w) X.A (pyNext (.ref it)) (fun r s1=>r=none/\Inv X pins σ H s1) E s
  self:∀ (A:Around) (i:Nat) (s:Shared) (Q:Value->Shared->Prop) (E:Value->Shared->Prop),tn i s.heap->Q (.ref it) s->wpAny (model P w) A (pyIter (.ref it)) Q E s
noncomputable abbrev TI:=St->Hp->(It->Hp->Prop)->Prop
noncomputable def PIE (X:Cx) (pins:List (Addr × Obj)) (σ:St) (tg:Expr) (R:It->Hp->Prop) (itv:Value) (s2:Shared):Prop :=
  ∃ (it:Addr) (fp:List Addr) (tn:Nat->Heap->Prop) (J:It) (H':Hp),itv=.ref it/\Inv X pins σ H' s2/\Turn X.prog X.w X.K tg J fp it tn/\tn 0 s2.heap/\(∀ b ∈ fp,FpOk X pins H' b)/\R J H'
noncomputable def PI (X:Cx) (tg iter:Expr) (wi:TI):Prop :=
  ∀ (pins:List (Addr × Obj)) (s:Shared) (σ:St) (H:Hp) (R:It->Hp->Prop),Inv X pins σ H s->wi σ H R ->
    wpAny (model X.prog X.w) X.A (eval iter X.env) (fun v s1=>wpAny (model X.prog X.w) X.A (pyIter v) (PIE X pins σ tg R) X.xe s1) X.xe s
theorem pC {M : Model} {A : Around} {E : Value -> Shared -> Prop} {s : Shared} {tg : Expr} {it : Addr} {u : Value} {o : Obj} {n : String} {vs : Array Value} {Q : Unit -> Shared -> Prop} (ho : s.heap.get? it = some o) (hc : o.cls = .type n) (hd : o.data = .fields vs)
    (hn : ["enumerate", "zip", "dict_itemiterator", "dict_reverseitemiterator", "odict_iterator", "itertools.zip_longest", "itertools.pairwise"].contains n = false) (hQ : Q () s) : wpAny M A (letOwnedTupleGo tg (.ref it) u) Q E s := by
  unfold letOwnedTupleGo
  cases tg <;> first
    | exact B6 hQ
    | (cases u <;> first
        | exact B6 hQ
        | (refine B5 (wpAny_load ho ?_)
           rw [hc, hd]
           show wpAny M A (if (["enumerate", "zip", "dict_itemiterator", "dict_reverseitemiterator", "odict_iterator", "itertools.zip_longest", "itertools.pairwise"].contains n && vs[0]? == some (rawInt _)) = true then _ else _) Q E s
           rw [if_neg (by intro h; rw [hn, Bool.false_and] at h; cases h)]
           exact B6 hQ))
noncomputable def Itl (K:FG) (a:Addr):It :=
  ⟨fun i H=>∃ xs x,SqL K H a xs/\xs[i]?=some x,fun i H x H'=>H'=H/\∀ xs,SqL K H a xs->xs[i]?=some x,fun i H=>∃ xs,SqL K H a xs/\xs.length<=i⟩
noncomputable def Itt (K:FG) (a:Addr):It :=
  ⟨fun i H=>∃ xs x,SqT K H a xs/\xs[i]?=some x,fun i H x H'=>H'=H/\∀ xs,SqT K H a xs->xs[i]?=some x,fun i H=>∃ xs,SqT K H a xs/\xs.length<=i⟩
noncomputable def Itr (lo:Int) (n:Nat):It:=⟨fun i _=>i < n,fun i H x H'=>H'=H/\x=.int (lo+i),fun i _=>n<=i⟩
theorem sR {P:Program} {w:World} {K:FG} {tg:Expr} (a it:Addr):Turn P w K tg (Itl K a) [it] it (fun i h=>h.IsListIter it a i) where
  mem:=by simp
  obj:=fun i h st b hb=>by
    have e:b=it:=by simpa using hb
    subst e
    obtain ⟨o,e,c,d⟩:=st
    exact ⟨o,e,fun v z=>by rw [d] at z;cases z⟩
  keep:=fun i h h' st k=>st.at fun o e=>k it (by simp) o e
  item:=by
    intro X hP hw hK hc i pins s σ H E I hf st hg
    subst hP hw hK
    obtain ⟨xs,x,hq,hx⟩:=hg
    obtain ⟨its,rv,p,hz⟩:=I.list hq
    obtain ⟨u,hu,ru⟩:=rv.get hx
    obtain ⟨f0,f1,f2,f3,f4,f5⟩:=hf it (by simp)
    refine wpAny_pyNext_list_item st p.isList (x:=u) (by simpa using hu) fun h' st' sb=>?_
    have I1:Inv X pins σ H { s with heap:=h' }:=I.turned (t':=s.toks) (fun b o hb e=>(sb.2 b hb).trans e) f0 f1 f3 f4 f5
    obtain ⟨o,e,c,d⟩:=id st'
    exact ⟨u,rfl,pC (s:={ s with heap:=h' }) e c d (by decide) ⟨x,H,I1,ru,⟨rfl,fun ys hy=>by rw [I.list_inj hy hq];exact hx⟩,st',fun b hb=>(hf b hb).1⟩⟩
  done:=by
    intro X hP hw hK hc i pins s σ H E I hf st hg
    subst hP hw hK
    obtain ⟨xs,hq,hx⟩:=hg
    obtain ⟨its,rv,p,hz⟩:=I.list hq
    obtain ⟨f0,f1,f2,f3,f4,f5⟩:=hf it (by simp)
    have hl:=rv.length
    exact wpAny_pyNext_list_end (I.ok.hd hc) st p.isList (by simp;omega) fun h' eb=>⟨rfl,I.turned (t':=s.toks) (fun b o hb e=>eb b o hb e) f0 f1 f3 f4 f5⟩
  self:=fun _ _ _ _ _ st h=>wpAny_pyIter_listiter st h
theorem qb {P:Program} {w:World} {K:FG} {tg:Expr} (a it:Addr):Turn P w K tg (Itt K a) [it] it (fun i h=>h.IsTupleIter it a i) where
  mem:=by simp
  obj:=fun i h st b hb=>by
    have e:b=it:=by simpa using hb
    subst e
    obtain ⟨o,e,c,d⟩:=st
    exact ⟨o,e,fun v z=>by rw [d] at z;cases z⟩
  keep:=fun i h h' st k=>st.at fun o e=>k it (by simp) o e
  item:=by
    intro X hP hw hK hc i pins s σ H E I hf st hg
    subst hP hw hK
    obtain ⟨xs,x,hq,hx⟩:=hg
    obtain ⟨its,rv,p,hz⟩:=I.tuple hq
    obtain ⟨u,hu,ru⟩:=rv.get hx
    obtain ⟨f0,f1,f2,f3,f4,f5⟩:=hf it (by simp)
    refine wpAny_pyNext_tuple_item st (show s.heap.IsTuple a its.toArray from p) (x:=u) (by simpa using hu) fun h' st' sb=>?_
    have I1:Inv X pins σ H { s with heap:=h' }:=I.turned (t':=s.toks) (fun b o hb e=>(sb.2 b hb).trans e) f0 f1 f3 f4 f5
    obtain ⟨o,e,c,d⟩:=id st'
    exact ⟨u,rfl,pC (s:={ s with heap:=h' }) e c d (by decide) ⟨x,H,I1,ru,⟨rfl,fun ys hy=>by rw [I.tuple_inj hy hq];exact hx⟩,st',fun b hb=>(hf b hb).1⟩⟩
  done:=by
    intro X hP hw hK hc i pins s σ H E I hf st hg
    subst hP hw hK
    obtain ⟨xs,hq,hx⟩:=hg
    obtain ⟨its,rv,p,hz⟩:=I.tuple hq
    obtain ⟨f0,f1,f2,f3,f4,f5⟩:=hf it (by simp)
    have hl:=rv.length
    exact wpAny_pyNext_tuple_end (I.ok.hd hc) st (show s.heap.IsTuple a its.toArray from p) (by simp;omega) fun h' eb=>⟨rfl,I.turned (t':=s.toks) (fun b o hb e=>eb b o hb e) f0 f1 f3 f4 f5⟩
  self:=fun _ _ _ _ _ st h=>wpAny_pyIter_tupleiter st h
theorem qc {P:Program} {w:World} {K:FG} {tg:Expr} (it:Addr) (lo:Int) (n:Nat):Turn P w K tg (Itr lo n) [it] it (fun i h=>IsRangeIter h it (lo+(i:Nat) * 1) ((n:Int) - (i:Nat)) 1) where
  mem:=by simp
  obj:=fun i h st b hb=>by
    have e:b=it:=by simpa using hb
    subst e
    exact ⟨_,st,fun v z=>by
      have z':Data.fields _=Data.cell v:=z
      cases z'⟩
  keep:=fun i h h' st k=>k it (by simp) _ st
  item:=by
    intro X hP hw hK hc i pins s σ H E I hf st hg
    subst hP hw hK
    obtain ⟨f0,f1,f2,f3,f4,f5⟩:=hf it (by simp)
    have W:=Walks.range (prog:=X.prog) (w:=X.w) (I.ok.hd hc) it lo 1 n
    refine W.item i s _ _ hg st fun v h' tk hv st' kk=>?_
    obtain ⟨t,rfl⟩:=hv
    have I1:Inv X pins σ H { s with heap:=h',toks:=tk }:=I.turned (fun b o hb e=>kk b o (by simpa using hb) e) f0 f1 f3 f4 f5
    refine ⟨_,rfl,pC (s:={ s with heap:=h',toks:=tk }) (n:="range_iterator") st' rfl rfl (by decide) ⟨.int (lo+i),H,I1,⟨t,?_⟩,⟨rfl,rfl⟩,st',fun b hb=>(hf b hb).1⟩⟩
    rw [Int.mul_one]
  done:=by
    intro X hP hw hK hc i pins s σ H E I hf st hg
    subst hP hw hK
    obtain ⟨f0,f1,f2,f3,f4,f5⟩:=hf it (by simp)
    exact wpAny_pyNext_range_end (I.ok.hd hc) st (by have:n<=i:=hg;omega) fun h' eb=>⟨rfl,I.turned (t':=s.toks) (fun b o hb e=>eb b o hb e) f0 f1 f3 f4 f5⟩
  self:=fun _ _ _ _ _ st h=>wpAny_pyIter_rangeiter st h
end L2
namespace L2
open PySem PySem.Spec PyProof.Rows
section
variable {X:Cx} {tg:Expr}
theorem oX {pins:List (Addr × Obj)} {σ:St} {H:Hp} {s:Shared} {R:It->Hp->Prop} {E:Value->Shared->Prop} {lo hi:Int} {t u v:Tok} {tk:Nat} (I:Inv X pins σ H s) (h1:-(2 ^ 62)<=lo) (h2:lo < 2 ^ 62) (h3:-(2 ^ 62)<=hi) (h4:hi < 2 ^ 62)
    (q:R (Itr lo (hi - lo).toNat) H):wpAny (model X.prog X.w) X.A (pyIter (.ref s.heap.objs.size)) (PIE X pins σ tg R) E { s with heap:=s.heap.push { cls:=.type "range",data:=.fields #[.int lo t,.int hi u,.int 1 v] },toks:=tk }:=by
  refine wpAny_pyIter_range (IsRange.new ..) (small_one h1 h2 h3 h4) ?_
  have I1:Inv X pins σ H { s with heap:=s.heap.push { cls:=.type "range",data:=.fields #[.int lo t,.int hi u,.int 1 v] },toks:=tk }:=I.kept fun b o e=>Ca _ e
  refine ⟨(s.heap.push { cls:=.type "range",data:=.fields #[.int lo t,.int hi u,.int 1 v] }).objs.size,[(s.heap.push { cls:=.type "range",data:=.fields #[.int lo t,.int hi u,.int 1 v] }).objs.size],_,_,H,rfl,
    I1.kept (t':=tk) fun b o e=>Ca _ e,qc _ lo (hi - lo).toNat,?_,fun b hb=>?_,q⟩
  · have e1:lo+((0:Nat):Int) * 1=lo:=by simp
    have e2:(((hi - lo).toNat:Nat):Int) - ((0:Nat):Int)=Builtin.Range.rangeSize lo hi 1:=by rw [rangeSize_one];split <;> omega
    show IsRangeIter _ _ (lo+((0:Nat):Int) * 1) ((((hi - lo).toNat:Nat):Int) - ((0:Nat):Int)) 1
    rw [e1,e2]
    exact Cj _ rfl
  · have e:b=(s.heap.push { cls:=.type "range",data:=.fields #[.int lo t,.int hi u,.int 1 v] }).objs.size:=by simpa using hb
    subst e
    exact I1.fpOk (Cq _) (I1.hok.fresh (Cq _))
noncomputable def Ao (ta:TA):TI:=fun σ H R=>ta σ H fun vs H1=>∃ j:Int,vs=[.int j]/\-(2 ^ 62)<=j/\j < 2 ^ 62/\R (Itr 0 j.toNat) H1
noncomputable def An (ta:TA):TI:=fun σ H R=>ta σ H fun vs H1=>∃ i j:Int,vs=[.int i,.int j]/\(-(2 ^ 62)<=i/\i < 2 ^ 62/\-(2 ^ 62)<=j/\j < 2 ^ 62)/\R (Itr i (j - i).toNat) H1
theorem tJ {a:Expr} {ta:TA} {p pos:Pos} (hg:Gl X "range") (hm:X.mg "range"=none) (ha:PA X [a] ta) (hs:starEach [a] X.env=[(false,eval a X.env)]:=by rfl):PI X tg (.Call (.Name "range" p) [a] [] pos) (Ao ta):=by
  intro pins s σ H R I h
  refine Call_ (gx I hg hm boot_range (PyProof.Rows.callWith_type1 (thn (ha pos pins s σ H _ I h) fun us s1 ⟨vs,H1,I1,r1,q1⟩=>?_) hs rfl))
  obtain ⟨j,e,q1,q2,q⟩:=q1
  subst e
  cases r1 with
  | cons r rr =>
    cases rr
    obtain ⟨t,rfl⟩:=r
    exact call_range_1 (oX I1 (by omega) (by omega) q1 q2 (by simpa using q))
theorem tH {a b:Expr} {ta:TA} {p pos:Pos} (hg:Gl X "range") (hm:X.mg "range"=none) (ha:PA X [a,b] ta) (hs:starEach [a,b] X.env=[(false,eval a X.env),(false,eval b X.env)]:=by rfl) (hs2:starEach [b] X.env=[(false,eval b X.env)]:=by rfl) :
    PI X tg (.Call (.Name "range" p) [a,b] [] pos) (An ta):=by
  intro pins s σ H R I h
  refine Call_ (gx I hg hm boot_range (PyProof.Rows.callWith_type1 (thn (ha pos pins s σ H _ I h) fun us s1 ⟨vs,H1,I1,r1,q1⟩=>?_) (by rw [hs,hs2]) (by rw [hs2];rfl)))
  obtain ⟨i,j,e,⟨q1,q2,q3,q4⟩,q⟩:=q1
  subst e
  cases r1 with
  | cons r rr =>
    cases rr with
    | cons r' rr =>
      cases rr
      obtain ⟨t,rfl⟩:=r
      obtain ⟨t',rfl⟩:=r'
      exact call_range_2 (oX I1 q1 q2 q3 q4 q)
noncomputable def tFor (wi:TI) (g:TG) (tb:TS):TS:=fun D σ H=>wi σ H fun J H1=>∃ W:Nat->Nat->St->Hp->Prop,(∃ m,W 0 m σ H1)/\∀ i m σ H,W i m σ H ->
  (J.stop i H/\D.nx σ H)\/(J.go i H/\∃ N:St->Hp->Prop,(∀ σ' H',N σ' H'->∃ m',m' < m/\W (i+1) m' σ' H')/\∀ x H',J.yld i H x H'->g x σ H' fun σ2 H2=>tb { D with nx:=N,ct:=N,bk:=D.nx } σ2 H2)
noncomputable def lB (fp:List Addr) (h:Heap):List (Addr × Obj):=fp.filterMap fun b=>(h.get? b).map fun o=>(b,o)
theorem gk {fp:List Addr} {h:Heap} {b:Addr} {o:Obj} (hb:b ∈ fp) (e:h.get? b=some o):(b,o) ∈ lB fp h:=List.mem_filterMap.mpr ⟨b,hb,by rw [e];rfl⟩
theorem tM {fp:List Addr} {h:Heap} {p:Addr × Obj} (hp:p ∈ lB fp h):p.1 ∈ fp/\h.get? p.1=some p.2:=by
  obtain ⟨b,hb,e⟩:=List.mem_filterMap.mp hp
  cases q:h.get? b with
  | none=>rw [q] at e;cases e
  | some o =>
    rw [q] at e
    have e':(b,o)=p:=CV e
    subst e'
    exact ⟨hb,q⟩
theorem Inv.pinned {pins:List (Addr × Obj)} {σ:St} {H:Hp} {s:Shared} {fp:List Addr} (I:Inv X pins σ H s) (hf:∀ b ∈ fp,FpOk X pins H b) (ho:∀ b ∈ fp,∃ o,s.heap.get? b=some o/\∀ v,o.data ≠ .cell v):Inv X (pins ++ lB fp s.heap) σ H s :=
  I.pins_of fun p hp=>(Ci.mp hp).elim (fun z=>I.pin p (Ce _ z)) fun z=>by
    obtain ⟨hb,e⟩:=tM z
    obtain ⟨f0,f1,f2,_⟩:=hf p.1 hb
    obtain ⟨o,e',d⟩:=ho p.1 hb
    rw [e] at e';cases e'
    exact ⟨e,f0,f1,f2,d⟩
theorem Inv.unpinned {pins pl:List (Addr × Obj)} {σ:St} {H:Hp} {s:Shared} (I:Inv X (pins ++ pl) σ H s):Inv X pins σ H s:=I.pins_of fun p hp=>I.pin p (Ce _ (Cd _ hp))
set_option tactic.hygienic true in
theorem Bd {iter:Expr} {body:List Stmt} {wi:TI} {g:TG} {tb:TS} {pos:Pos} (hp:PassesOwn (model X.prog X.w) X.A X.env X.xe) (hc:X.calm=true) (hi:PI X tg iter wi) (hg:PG X tg g) (hb:PSs X body tb)
    (hs:∀ x,foldedSetIterable iter X.env x=pure x:=by intro _;rfl):PS X (.For tg iter body [] pos) (tFor wi g tb):=by
  intro pins s σ H D I h
  refine wpAny_For (thn (hi pins s σ H _ I h) fun v s1 h1=>thn h1 fun itv s2 h2=>?_) hs
  obtain ⟨it,fp,tn,J,H2,e,I2,T,st2,f2,W,⟨m0,w0⟩,turn⟩:=h2
  subst e
  have stat:∀ {H':Hp},(∀ b ∈ fp,H' b=none)->∀ b ∈ fp,FpOk X pins H' b:=fun hn b hb=>⟨hn b hb,(f2 b hb).2⟩
  refine codeAny_forLoop_any (fun n s'=>∃ i σ' H',Inv X pins σ' H' s'/\tn i s'.heap/\(∀ b ∈ fp,H' b=none)/\W i n σ' H') ?_ m0 ⟨0,σ,H2,I2,st2,fun b hb=>(f2 b hb).1,w0⟩
  rintro n s3 ⟨i,σ3,H3,I3,st3,fr3,w3⟩
  rcases turn i n σ3 H3 w3 with ⟨stop,qn⟩ | ⟨go,N,hN,step⟩
  · refine wpAny_passesOwn hp (thn (T.done X rfl rfl rfl hc i pins s3 σ3 H3 X.xe I3 (stat fr3) st3 stop) fun r s4 ⟨hr,I4⟩=>?_)
    subst hr
    exact wpAny_execs_nil ⟨σ3,H3,I4,qn⟩
  · refine wpAny_passesOwn hp (thn (T.item X rfl rfl rfl hc i pins s3 σ3 H3 X.xe I3 (stat fr3) st3 go) fun r s4 ⟨u,hr,h4⟩=>?_)
    subst hr
    refine wpAny_passesOwn hp (thn h4 fun _ s5 ⟨x,H5,I5,r5,y5,st5,fr5⟩=>?_)
    have I5':=I5.pinned (stat fr5) (T.obj _ _ st5)
    refine wpAny_passesOwn hp (thn (hg _ s5 σ3 H5 x u _ I5' r5 (step x H5 y5)) fun _ s6 ⟨σ6,H6,I6,q6⟩=>?_)
    refine wpAny_passesOwn hp (thn (hb _ s6 σ6 H6 _ I6 q6) fun f s7 q7=>?_)
    have again:∀ {σ7:St} {H7:Hp},Inv X (pins ++ lB fp s5.heap) σ7 H7 s7->N σ7 H7->∃ m,m < n/\∃ i σ' H',Inv X pins σ' H' s7/\tn i s7.heap/\(∀ b ∈ fp,H' b=none)/\W i m σ' H':=fun {σ7 H7} I7 n7=>by
      obtain ⟨m',hm,w7⟩:=hN σ7 H7 n7
      refine ⟨m',hm,i+1,σ7,H7,I7.unpinned,T.keep _ _ _ st5 fun b hb o e=>(I7.pin (b,o) (Ce _ (Ce _ (gk hb e)))).1,fun b hb=>?_,w7⟩
      obtain ⟨o,e,d⟩:=T.obj _ _ st5 b hb
      exact (I7.pin (b,o) (Ce _ (Ce _ (gk hb e)))).2.1
    cases f with
    | next=>obtain ⟨σ7,H7,I7,n7⟩:=q7;exact again I7 n7
    | cont=>obtain ⟨σ7,H7,I7,n7⟩:=q7;exact again I7 n7
    | brk=>obtain ⟨σ7,H7,I7,q7⟩:=q7;exact ⟨σ7,H7,I7.unpinned,q7⟩
    | ret v=>obtain ⟨x7,σ7,H7,I7,r7,q7⟩:=q7;exact ⟨x7,σ7,H7,I7.unpinned,r7,q7⟩
end
end L2
namespace L2
open PySem PySem.Spec PyProof.Rows
noncomputable abbrev R2:=V->V->Hp->VK->Prop
noncomputable def OpR (X:Cx) (f:Value->Value->Sem Value) (r:R2):Prop :=
  ∀ (pins:List (Addr × Obj)) (s:Shared) (σ:St) (H:Hp) (x y:V) (v u:Value) (Q:VK),Inv X pins σ H s->RelV x v->RelV y u->r x y H Q ->
    wpAny (model X.prog X.w) X.A (f v u) (EP X pins σ Q) X.xe s
noncomputable def UnR (X:Cx) (f:Value->Sem Value) (r:V->Hp->VK->Prop):Prop :=
  ∀ (pins:List (Addr × Obj)) (s:Shared) (σ:St) (H:Hp) (x:V) (v:Value) (Q:VK),Inv X pins σ H s->RelV x v->r x H Q ->
    wpAny (model X.prog X.w) X.A (f v) (EP X pins σ Q) X.xe s
noncomputable def CallR (X:Cx) (f:Value) (r:List V->Hp->VK->Prop):Prop :=
  ∀ (pins:List (Addr × Obj)) (s:Shared) (σ:St) (H:Hp) (xs:List V) (us:List Value) (Q:VK),Inv X pins σ H s->Vals xs us->r xs H Q ->
    wpAny (model X.prog X.w) X.A (call f us) (EP X pins σ Q) X.xe s
noncomputable def tOp (r:R2) (ta tb:TE):TE:=fun σ H Q=>ta σ H fun x H1=>tb σ H1 fun y H2=>r x y H2 Q
noncomputable def tUn (r:V->Hp->VK->Prop) (ta:TE):TE:=fun σ H Q=>ta σ H fun x H1=>r x H1 Q
noncomputable def rI (C:Int->Int->Prop) (g:Int->Int->V):R2:=fun x y H Q=>∃ i j,x=.int i/\y=.int j/\C i j/\Q (g i j) H
noncomputable def rI0 (g:Int->Int->V):R2:=fun x y H Q=>∃ i j,x=.int i/\y=.int j/\Q (g i j) H
noncomputable def rU (g:Int->V):V->Hp->VK->Prop:=fun x H Q=>∃ i,x=.int i/\Q (g i) H
section
variable {X:Cx} {a b c:Expr} {ta tb tc:TE} {pos:Pos}
theorem B1 (ha:PE X a ta) (hb:PE X b tb) {pins:List (Addr × Obj)} {s:Shared} {σ:St} {H:Hp} {R:V->V->Hp->Prop} (I:Inv X pins σ H s)
    (h:ta σ H fun x H1=>tb σ H1 fun y H2=>R x y H2) {Q:Value->Shared->Prop} {f:Value->Value->Sem Value}
    (hf:∀ v u s2 x y H2,Inv X pins σ H2 s2->RelV x v->RelV y u->R x y H2->wpAny (model X.prog X.w) X.A (f v u) Q X.xe s2) :
    wpAny (model X.prog X.w) X.A (eval a X.env) (fun v s₁=>wpAny (model X.prog X.w) X.A (eval b X.env) (fun u s₂=>wpAny (model X.prog X.w) X.A (f v u) Q X.xe s₂) X.xe s₁) X.xe s:=by
  refine thn (ha pins s σ H _ I h) fun v s1 ⟨x,H1,I1,r1,q1⟩=>?_
  refine thn (hb pins s1 σ H1 _ I1 q1) fun u s2 ⟨y,H2,I2,r2,q2⟩=>?_
  exact hf v u s2 x y H2 I2 r1 r2 q2
theorem pe_op {op:Operator} {r:R2} (ho:OpR X (binaryOp op) r) (ha:PE X a ta) (hb:PE X b tb):PE X (.BinOp a op b pos) (tOp r ta tb):=by
  intro pins s σ H Q I h
  exact wpAny_BinOp (B1 ha hb I h fun v u s2 x y H2 I2 rx ry q=>ho pins s2 σ H2 x y v u Q I2 rx ry q)
theorem pe_un {op:UnaryOp} {r:V->Hp->VK->Prop} (ho:UnR X (unaryOp op) r) (ha:PE X a ta):PE X (.UnaryOp op a pos) (tUn r ta):=by
  intro pins s σ H Q I h
  exact UnaryOp_ (thn (ha pins s σ H _ I h) fun v s1 ⟨x,H1,I1,r1,q1⟩=>ho pins s1 σ H1 x v Q I1 r1 q1)
theorem opI {f:Value->Value->Sem Value} {C:Int->Int->Prop} {g:Int->Int->Int}
    (rule:∀ (i j:Int) (t u:Tok) (s:Shared) (Q:Value->Shared->Prop) (E:Value->Shared->Prop),C i j->Q (.int (g i j) s.toks) { s with toks:=s.toks+1 }->wpAny (model X.prog X.w) X.A (f (.int i t) (.int j u)) Q E s) :
    OpR X f (rI C fun i j=>.int (g i j)):=by
  intro pins s σ H x y v u Q I rx ry h
  obtain ⟨i,j,rfl,rfl,hc,q⟩:=h
  obtain ⟨t,rfl⟩:=rx
  obtain ⟨t',rfl⟩:=ry
  exact rule i j t t' s _ _ hc ⟨.int (g i j),H,I.tok _,⟨_,rfl⟩,q⟩
theorem opI0 {f:Value->Value->Sem Value} {g:Int->Int->Int}
    (rule:∀ (i j:Int) (t u:Tok) (s:Shared) (Q:Value->Shared->Prop) (E:Value->Shared->Prop),Q (.int (g i j) s.toks) { s with toks:=s.toks+1 }->wpAny (model X.prog X.w) X.A (f (.int i t) (.int j u)) Q E s) :
    OpR X f (rI0 fun i j=>.int (g i j)):=by
  intro pins s σ H x y v u Q I rx ry h
  obtain ⟨i,j,rfl,rfl,q⟩:=h
  obtain ⟨t,rfl⟩:=rx
  obtain ⟨t',rfl⟩:=ry
  exact rule i j t t' s _ _ ⟨.int (g i j),H,I.tok _,⟨_,rfl⟩,q⟩
theorem Bv {f:Value->Value->Sem Value} {g:Int->Int->Bool}
    (rule:∀ (i j:Int) (t u:Tok) (s:Shared) (Q:Value->Shared->Prop) (E:Value->Shared->Prop),Q (.bool (g i j)) s->wpAny (model X.prog X.w) X.A (f (.int i t) (.int j u)) Q E s) :
    OpR X f (rI0 fun i j=>.bl (g i j)):=by
  intro pins s σ H x y v u Q I rx ry h
  obtain ⟨i,j,rfl,rfl,q⟩:=h
  obtain ⟨t,rfl⟩:=rx
  obtain ⟨t',rfl⟩:=ry
  exact rule i j t t' s _ _ ⟨.bl (g i j),H,I,rfl,q⟩
noncomputable def uW (i j:Int):Prop:=0 < j/\j < 1073741824
noncomputable def xC (i j:Int):Prop:=0<=j/\j<=1000000/\i.natAbs < 2 ^ 64
noncomputable def CMul (i j:Int):Prop:=(-(2 ^ 64) < i/\i < 2 ^ 64)\/(-(2 ^ 64) < j/\j < 2 ^ 64)
theorem CMul.ok {i j:Int} (h:CMul i j):IntMulOk i j:=by
  rcases h with ⟨h1,h2⟩ | ⟨h1,h2⟩
  · exact .of_left (intBits_le_64 h1 h2)
  · exact .of_right (intBits_le_64 h1 h2)
theorem op_add:OpR X (binaryOp .Add) (rI0 fun i j=>.int (i+j)):=opI0 fun _ _ _ _ _ _ _ q=>add_int q
theorem eP:OpR X (binaryOp .Sub) (rI0 fun i j=>.int (i - j)):=opI0 fun _ _ _ _ _ _ _ q=>sub_int q
theorem cP:OpR X (binaryOp .Mult) (rI CMul fun i j=>.int (i * j)):=opI fun _ _ _ _ _ _ _ hc q=>mul_int q hc.ok
theorem jN:OpR X (binaryOp .Mod) (rI (fun _ j=>0 < j) fun i j=>.int (i % j)):=opI fun i j _ _ _ _ _ hc q=>by
  have h1:(0:Int) < j:=hc
  exact mod_int' (by omega) (by rw [Int.fmod_eq_emod_of_nonneg i (by omega)];exact q)
theorem vV:OpR X (binaryOp .Pow) (rI xC fun i j=>.int (i ^ j.toNat)):=opI fun _ _ _ _ _ _ _ hc q=>pow_int_small hc.1 hc.2.1 hc.2.2 q
theorem unI {f:Value->Sem Value} {g:Int->Int}
    (rule:∀ (i:Int) (t:Tok) (s:Shared) (Q:Value->Shared->Prop) (E:Value->Shared->Prop),Q (.int (g i) s.toks) { s with toks:=s.toks+1 }->wpAny (model X.prog X.w) X.A (f (.int i t)) Q E s) :
    UnR X f (rU fun i=>.int (g i)):=by
  intro pins s σ H x v Q I rx h
  obtain ⟨i,rfl,q⟩:=h
  obtain ⟨t,rfl⟩:=rx
  exact rule i t s _ _ ⟨.int (g i),H,I.tok _,⟨_,rfl⟩,q⟩
theorem gc:UnR X (unaryOp .USub) (rU fun i=>.int (-i)):=unI fun _ _ _ _ _ q=>neg_int q
end
noncomputable def AX:V->V->Bool
  | .non,.non=>true | .non,.int _=>true | .int _,.non=>true | .non,.bl _=>true | .bl _,.non=>true | .non,.str _=>true | .str _,.non=>true
  | .int _,.int _=>true | .bl _,.bl _=>true | .str _,.str _=>true | .byt _,.byt _=>true
  | .int _,.str _=>true | .str _,.int _=>true | .bl _,.str _=>true | .str _,.bl _=>true
  | _,_=>false
noncomputable def rEq:R2:=fun x y H Q=>AX x y=true/\Q (.bl (decide (x=y))) H
noncomputable def rNe:R2:=fun x y H Q=>AX x y=true/\Q (.bl (!decide (x=y))) H
theorem sA {i j:Int}:decide (V.int i=V.int j)=(i == j):=by
  rw [Bool.eq_iff_iff]
  simp
theorem xb {i j:Bool}:decide (V.bl i=V.bl j)=(i == j):=by
  rw [Bool.eq_iff_iff]
  simp
theorem sy {i j:Str}:decide (V.str i=V.str j)=(i == j):=by
  rw [Bool.eq_iff_iff]
  simp
theorem sB {i j:Array UInt8}:decide (V.byt i=V.byt j)=(i.toList == j.toList):=by
  rw [Bool.eq_iff_iff]
  cases i
  cases j
  simp
section
variable {X:Cx} {a b c:Expr} {ta tb tc:TE} {pos:Pos}
theorem aS {pins:List (Addr × Obj)} {σ:St} {H:Hp} {s:Shared} {Q:VK} {k k':Bool} (I:Inv X pins σ H s) (q:Q (.bl k) H) (e:k=k'):EP X pins σ Q (.bool k') s:=by
  subst e
  exact ⟨.bl k,H,I,rfl,q⟩
theorem op_eq:OpR X (compareOp .Eq) rEq:=by
  intro pins s σ H x y v u Q I rx ry h
  obtain ⟨hs,q⟩:=h
  cases x with
  | non =>
    cases rx
    cases y with
    | non=>cases ry;exact PySem.EqNone.eq_none_none (aS I q (by simp))
    | bl j=>cases ry;exact PySem.EqNone.eq_none_bool (aS I q (by simp))
    | int j=>obtain ⟨t',rfl⟩:=ry;exact PySem.EqNone.eq_none_int (aS I q (by simp))
    | str j=>obtain ⟨t',rfl⟩:=ry;exact PySem.EqNone.eq_none_str (aS I q (by simp))
    | _=>exact absurd (show false=true from hs) Cr
  | bl i =>
    cases rx
    cases y with
    | non=>cases ry;exact PySem.EqNone.eq_bool_none (aS I q (by simp))
    | bl j=>cases ry;exact eq_bool (aS I q xb)
    | str j=>obtain ⟨t',rfl⟩:=ry;exact PySem.EqMixed.eq_bool_str (aS I q (by simp))
    | _=>exact absurd (show false=true from hs) Cr
  | int i =>
    obtain ⟨t,rfl⟩:=rx
    cases y with
    | non=>cases ry;exact PySem.EqNone.eq_int_none (aS I q (by simp))
    | int j=>obtain ⟨t',rfl⟩:=ry;exact eq_int (aS I q sA)
    | str j=>obtain ⟨t',rfl⟩:=ry;exact PySem.EqMixed.eq_int_str (aS I q (by simp))
    | _=>exact absurd (show false=true from hs) Cr
  | str i =>
    obtain ⟨t,rfl⟩:=rx
    cases y with
    | non=>cases ry;exact PySem.EqNone.eq_str_none (aS I q (by simp))
    | bl j=>cases ry;exact PySem.EqMixed.eq_str_bool (aS I q (by simp))
    | int j=>obtain ⟨t',rfl⟩:=ry;exact PySem.EqMixed.eq_str_int (aS I q (by simp))
    | str j=>obtain ⟨t',rfl⟩:=ry;exact eq_str (aS I q sy)
    | _=>exact absurd (show false=true from hs) Cr
  | byt i =>
    obtain ⟨t,rfl⟩:=rx
    cases y with
    | byt j=>obtain ⟨t',rfl⟩:=ry;exact PySem.W.eq_bytes (aS I q sB)
    | _=>exact absurd (show false=true from hs) Cr
  | _=>cases y <;> exact absurd (show false=true from hs) Cr
theorem op_ne:OpR X (compareOp .NotEq) rNe:=by
  intro pins s σ H x y v u Q I rx ry h
  obtain ⟨hs,q⟩:=h
  cases x with
  | non =>
    cases rx
    cases y with
    | non=>cases ry;exact PySem.EqNone.ne_none_none (aS I q (by simp))
    | bl j=>cases ry;exact PySem.EqNone.ne_none_bool (aS I q (by simp))
    | int j=>obtain ⟨t',rfl⟩:=ry;exact PySem.EqNone.ne_none_int (aS I q (by simp))
    | str j=>obtain ⟨t',rfl⟩:=ry;exact PySem.EqNone.ne_none_str (aS I q (by simp))
    | _=>exact absurd (show false=true from hs) Cr
  | bl i =>
    cases rx
    cases y with
    | non=>cases ry;exact PySem.EqNone.ne_bool_none (aS I q (by simp))
    | bl j=>cases ry;exact ne_bool (aS I q (congrArg not xb))
    | str j=>obtain ⟨t',rfl⟩:=ry;exact PySem.EqMixed.ne_bool_str (aS I q (by simp))
    | _=>exact absurd (show false=true from hs) Cr
  | int i =>
    obtain ⟨t,rfl⟩:=rx
    cases y with
    | non=>cases ry;exact PySem.EqNone.ne_int_none (aS I q (by simp))
    | int j=>obtain ⟨t',rfl⟩:=ry;exact ne_int (aS I q (congrArg not sA))
    | str j=>obtain ⟨t',rfl⟩:=ry;exact PySem.EqMixed.ne_int_str (aS I q (by simp))
    | _=>exact absurd (show false=true from hs) Cr
  | str i =>
    obtain ⟨t,rfl⟩:=rx
    cases y with
    | non=>cases ry;exact PySem.EqNone.ne_str_none (aS I q (by simp))
    | bl j=>cases ry;exact PySem.EqMixed.ne_str_bool (aS I q (by simp))
    | int j=>obtain ⟨t',rfl⟩:=ry;exact PySem.EqMixed.ne_str_int (aS I q (by simp))
    | str j=>obtain ⟨t',rfl⟩:=ry;exact ne_str (aS I q (congrArg not sy))
    | _=>exact absurd (show false=true from hs) Cr
  | byt i =>
    obtain ⟨t,rfl⟩:=rx
    cases y with
    | byt j=>obtain ⟨t',rfl⟩:=ry;exact PySem.W.ne_bytes (aS I q (congrArg not sB))
    | _=>exact absurd (show false=true from hs) Cr
  | _=>cases y <;> exact absurd (show false=true from hs) Cr
theorem vW:OpR X (compareOp .Lt) (rI0 fun i j=>.bl (decide (i < j))):=Bv fun _ _ _ _ _ _ _ q=>lt_int q
theorem vX:OpR X (compareOp .LtE) (rI0 fun i j=>.bl (decide (i<=j))):=Bv fun _ _ _ _ _ _ _ q=>le_int q
theorem Af:OpR X (compareOp .Gt) (rI0 fun i j=>.bl (decide (j < i))):=Bv fun _ _ _ _ _ _ _ q=>gt_int q
theorem yW : OpR X (compareOp .IsNot) (fun x y H Q => y = .non /\ Q (.bl (!decide (x = .non))) H) := by
  intro pins s σ H x y v u Q I rx ry h
  obtain ⟨rfl, q⟩ := h
  cases ry
  refine isnot_none_gen (aS I q ?_)
  cases x <;> first
    | (cases rx; rfl)
    | (obtain ⟨t, rfl⟩ := rx; rfl)
theorem OpR.or {f:Value->Value->Sem Value} {r r':R2} (h:OpR X f r) (h':OpR X f r'):OpR X f (fun x y H Q=>r x y H Q\/r' x y H Q):=by
  intro pins s σ H x y v u Q I rx ry q
  rcases q with q | q
  · exact h pins s σ H x y v u Q I rx ry q
  · exact h' pins s σ H x y v u Q I rx ry q
theorem bd (b : Expr) {op : CmpOp} (h : op ≠ .In := by decide) (h2 : op ≠ .NotIn := by decide) : behindInMarks op b = false := by
  have e1 : (op == CmpOp.In) = false := by cases op <;> first | rfl | exact absurd rfl h
  have e2 : (op == CmpOp.NotIn) = false := by cases op <;> first | rfl | exact absurd rfl h2
  cases b <;> simp [behindInMarks, e1, e2]
theorem yR {op:CmpOp} {r:R2} (ho:OpR X (compareOp op) r) (ha:PE X a ta) (hb:PE X b tb) (hm:behindInMarks op b=false):PE X (.Compare a [op] [b] pos) (tOp r ta tb):=by
  intro pins s σ H Q I h
  exact wpAny_Compare1 (B1 ha hb I h fun v u s2 x y H2 I2 rx ry q=>ho pins s2 σ H2 x y v u Q I2 rx ry q) hm
noncomputable def zV (t:TE):TT:=fun σ H Q=>t σ H fun x H'=>∃ k,x=.bl k/\Q k H'
theorem yE {op:CmpOp} {r:R2} (ho:OpR X (compareOp op) r) (ha:PE X a ta) (hb:PE X b tb) (hm:behindInMarks op b=false):PT X (.Compare a [op] [b] pos) (zV (tOp r ta tb)):=by
  intro pins s σ H Q I h
  refine wpAny_isTrue_Compare1 (thn (ha pins s σ H _ I h) fun v s1 ⟨x,H1,I1,r1,q1⟩=>thn (hb pins s1 σ H1 _ I1 q1) fun u s2 ⟨y,H2,I2,r2,q2⟩ =>
    thn (ho pins s2 σ H2 x y v u _ I2 r1 r2 q2) fun c s3 ⟨z,H3,I3,r3,k,e,q3⟩=>?_) hm
  subst e
  cases r3
  exact CN ⟨H3,I3,q3⟩
noncomputable def ve (r r':R2) (ta tb tc:TE):TE:=fun σ H Q=>ta σ H fun x H1=>tb σ H1 fun y H2=>r x y H2 fun z H3=>∃ k,z=.bl k /\
  (if k=true then tc σ H3 fun w' H4=>r' y w' H4 Q else Q (.bl false) H3)
theorem vL {op op':CmpOp} {r r':R2} (ho:OpR X (compareOp op) r) (ho':OpR X (compareOp op') r') (ha:PE X a ta) (hb:PE X b tb) (hc:PE X c tc)
    (hm:lastMarks [op,op'] [b,c]=false:=by with_unfolding_all rfl):PT X (.Compare a [op,op'] [b,c] pos) (zV (ve r r' ta tb tc)):=by
  intro pins s σ H Q I h
  refine isTrue_chain (thn (ha pins s σ H _ I h) fun v s1 ⟨x,H1,I1,r1,q1⟩=>test_link (thn (hb pins s1 σ H1 _ I1 q1) fun u s2 ⟨y,H2,I2,r2,q2⟩ =>
    thn (ho pins s2 σ H2 x y v u _ I2 r1 r2 q2) fun d s3 ⟨z,H3,I3,r3,k,e,q3⟩=>?_)) hm
  subst e
  cases r3
  refine CN ?_
  cases k with
  | false =>
    obtain ⟨k',e',q'⟩:=q3
    cases e'
    exact ite_ff ⟨H3,I3,q'⟩
  | true =>
    refine ite_tt (test_last (thn (hc pins s3 σ H3 _ I3 q3) fun w' s4 ⟨z',H4,I4,r4,q4⟩=>thn (ho' pins s4 σ H4 y z' u w' _ I4 r2 r4 q4) fun d' s5 ⟨z2,H5,I5,r5,k2,e2,q5⟩=>?_))
    subst e2
    cases r5
    exact CN ⟨H5,I5,q5⟩
theorem nR:(sizeLine:Nat) < 2 ^ 63:=by rw [sizeLine_eq];decide
theorem op_add_str:OpR X (binaryOp .Add) (fun x y H Q=>∃ i j,x=.str i/\y=.str j/\i.length+j.length<=sizeLine/\Q (.str (i ++ j)) H):=by
  intro pins s σ H x y v u Q I rx ry h
  obtain ⟨i,j,rfl,rfl,hz,q⟩:=h
  obtain ⟨t,rfl⟩:=rx
  obtain ⟨t',rfl⟩:=ry
  exact add_str (fun t' tk=>⟨.str (i ++ j),H,I.tok _,⟨_,rfl⟩,q⟩) hz
theorem iK {x:V} {us:List Value} (r:Vals [x] us):∃ u,us=[u]/\RelV x u:=by
  cases r with
  | cons r1 r2=>cases r2;exact ⟨_,rfl,r1⟩
theorem mB {x y:V} {us:List Value} (r:Vals [x,y] us):∃ u w',us=[u,w']/\RelV x u/\RelV y w':=by
  cases r with
  | cons r1 r2 =>
    cases r2 with
    | cons r3 r4=>cases r4;exact ⟨_,_,rfl,r1,r3⟩
theorem uK (hc:X.calm=true):CallR X (.builtin "max") (fun xs H Q=>∃ i j,xs=[.int i,.int j]/\Q (.int (if j > i then j else i)) H):=by
  intro pins s σ H xs us Q I r h
  obtain ⟨i,j,rfl,q⟩:=h
  obtain ⟨u,w',rfl,⟨t,rfl⟩,⟨t',rfl⟩⟩:=mB r
  refine max_two_ints (I.ok.hd hc) fun h' tk k=>⟨_,H,I.kept k,?_,q⟩
  by_cases hj:j > i
  · rw [if_pos hj,if_pos hj];exact ⟨_,rfl⟩
  · rw [if_neg hj,if_neg hj];exact ⟨_,rfl⟩
theorem uG (hc:X.calm=true):CallR X (.builtin "min") (fun xs H Q=>∃ i j,xs=[.int i,.int j]/\Q (.int (if j < i then j else i)) H):=by
  intro pins s σ H xs us Q I r h
  obtain ⟨i,j,rfl,q⟩:=h
  obtain ⟨u,w',rfl,⟨t,rfl⟩,⟨t',rfl⟩⟩:=mB r
  refine min_two_ints (I.ok.hd hc) fun h' tk k=>⟨_,H,I.kept k,?_,q⟩
  by_cases hj:j < i
  · rw [if_pos hj,if_pos hj];exact ⟨_,rfl⟩
  · rw [if_neg hj,if_neg hj];exact ⟨_,rfl⟩
theorem uL:CallR X (.type "int") (fun xs H Q=>(∃ i,xs=[.int i]/\Q (.int i) H)\/∃ k,xs=[.bl k]/\Q (.int (if k then 1 else 0)) H):=by
  intro pins s σ H xs us Q I r h
  rcases h with ⟨i,rfl,q⟩ | ⟨k,rfl,q⟩
  · obtain ⟨u,rfl,t,rfl⟩:=iK r
    exact call_int_int ⟨.int i,H,I,⟨_,rfl⟩,q⟩
  · obtain ⟨u,rfl,r1⟩:=iK r
    cases r1
    exact call_int_bool ⟨.int (if k then 1 else 0),H,I.tok _,⟨_,rfl⟩,q⟩
theorem pP:CallR X (.builtin "divmod") (fun xs H Q=>∃ i j,xs=[.int i,.int j]/\uW i j/\∀ p,H p=none->Q (.ref p) (upd H p (.tup [.int (i / j),.int (i % j)]))):=by
  intro pins s σ H xs us Q I r h
  obtain ⟨i,j,rfl,⟨h1,h2⟩,q⟩:=h
  obtain ⟨u,w',rfl,⟨t,rfl⟩,⟨t',rfl⟩⟩:=mB r
  refine divmod_int (by omega) ?_ (.inl (PyProof.noPylong_small (by omega)))
  rw [Int.fdiv_eq_ediv_of_nonneg i (by omega),Int.fmod_eq_emod_of_nonneg i (by omega)]
  have hn:H s.heap.objs.size=none:=I.hok.fresh (Cq _)
  refine ⟨.ref s.heap.objs.size,_,?_,rfl,q _ hn⟩
  refine I.laid (fun b o e=>Ca _ e) (Cq _) ⟨by simp only [CC,List.length_nil];rw [sizeLine_eq];decide,[.int (i / j) s.toks,.int (i % j) (s.toks+1)],.cons ⟨_,rfl⟩ (.cons ⟨_,rfl⟩ .nil),?_⟩
  exact ⟨_,Cj s.heap rfl,rfl,0,rfl⟩
end
end L2
namespace L2
open PySem PySem.Spec PyProof.Rows
theorem RelO.some_of {v:V} {o:Option Value} (r:RelO (some v) o):∃ u,o=some u/\RelV v u:=by
  cases o with
  | none=>exact (show False from r).elim
  | some u=>exact ⟨u,rfl,r⟩
end L2
namespace L2
open PySem PySem.Spec PyProof.Rows
structure Room (k:Nat) (A:Around):Prop where
  hd:A.handled=none
  dp:A.depth+3 * k+5 < recursionLimit
  un:A.units+16 * k+200 < cLine
  gd:A.guards=some []
theorem Room.mono {j k:Nat} {A:Around} (r:Room k A) (h:j<=k):Room j A:=⟨r.hd,by have:=r.dp;omega,by have:=r.un;omega,r.gd⟩
theorem Room.deeper {k:Nat} {A:Around} (r:Room (k+1) A) (env:Env):Room k (A.deeper env) :=
  ⟨r.hd,by have:=r.dp;show A.depth+1+3 * k+5 < _;omega,by have:=r.un;show A.units+3+16 * k+200 < _;omega,r.gd⟩
theorem Room.depth {k:Nat} {A:Around} (r:Room k A):A.depth < recursionLimit:=by have:=r.dp;omega
theorem Room.units {k:Nat} {A:Around} (r:Room k A):A.units+64 < cLine:=by have:=r.un;omega
noncomputable def xM:TA:=fun _ H Q=>Q [] H
noncomputable def oJ (ta:TE) (tr:TA):TA:=fun σ H Q=>ta σ H fun x H1=>tr σ H1 fun xs H2=>Q (x :: xs) H2
section
variable {X:Cx} {e:Expr} {es:List Expr} {te:TE} {t:TA} {pos:Pos}
theorem qB:PA X [] xM:=fun _ _ _ _ H Q I h=>Calls.spliced_nil ⟨[],H,I,.nil,h⟩
theorem kP (ha:PE X e te) (hr:PA X es t) (hs:starEach (e :: es) X.env=(false,eval e X.env) :: starEach es X.env:=by rfl):PA X (e :: es) (oJ te t):=by
  intro pos pins s σ H Q I h
  rw [hs]
  show wpAny _ _ (spliced ((false,eval e X.env) :: backTo pos (starEach es X.env))) _ _ s
  refine Calls.spliced_cons (thn (ha pins s σ H _ I h) fun u s1 ⟨x,H1,I1,r1,q1⟩=>?_)
  exact thn (hr pos pins s1 σ H1 _ I1 q1) fun us s2 ⟨xs,H2,I2,r2,q2⟩=>⟨x :: xs,H2,I2,.cons r1 r2,q2⟩
noncomputable def tTup (t:TA):TE:=fun σ H Q=>t σ H fun xs H1=>xs.length<=sizeLine/\∀ p,H1 p=none->Q (.ref p) (upd H1 p (.tup xs))
noncomputable def tLst (t:TA):TE:=fun σ H Q=>t σ H fun xs H1=>xs.length<=sizeLine/\∀ p,H1 p=none->Q (.ref p) (upd H1 p (.lst xs))
theorem Bh {x1} (h:PA X es t):PE X (.Tuple es x1 pos) (tTup t):=by
  intro pins s σ H Q I hq
  refine wpAny_Tuple_spliced (thn (h pos pins s σ H _ I hq) fun us s1 ⟨xs,H1,I1,r,z,q⟩=>⟨by rw [<- r.length];exact z,?_⟩)
  have hf:H1 s1.heap.objs.size=none:=I1.hok.fresh (Cq _)
  refine ⟨.ref s1.heap.objs.size,upd H1 s1.heap.objs.size (.tup xs),I1.laid (t':=s1.toks) (fun b u e=>Ca _ e) (Cq _) ?_,rfl,q _ hf⟩
  exact ⟨z,us,r,⟨_,Cj _ rfl,rfl,_,rfl⟩⟩
theorem Bm (h:PA X es t):PE X (.List es pos) (tLst t):=by
  intro pins s σ H Q I hq
  refine wpAny_List_spliced (thn (h pos pins s σ H _ I hq) fun us s1 ⟨xs,H1,I1,r,z,q⟩=>⟨by rw [<- r.length];exact z,?_⟩)
  have hf:H1 s1.heap.objs.size=none:=I1.hok.fresh (Cq _)
  refine ⟨.ref s1.heap.objs.size,upd H1 s1.heap.objs.size (.lst xs),I1.laid (t':=s1.toks) (fun b u e=>Ca _ e) (Cq _) ?_,rfl,q _ hf⟩
  exact ⟨z,us,0,r,Cj _ rfl⟩
end
noncomputable abbrev Sp:=List V->Hp->VK->XK->Prop
noncomputable abbrev CXT:=List Env->Hp->Shared->XK->Value->Shared->Prop
structure Env0 (P:Program) (w:World) (K:FG) (mg:Str->Option Value) (base:Heap) (A:Around) (outer:List Env) (s:Shared) (H:Hp):Prop where
  frames:A.frames=some outer
  mod:Mod K mg base
  bs:∀ b o,base.get? b=some o->s.heap.get? b=some o/\H b=none
  bsz:base.objs.size<=s.heap.objs.size
  funs:s.heap.FunFrames base outer
  frf:∀ b ∈ frs outer,H b=none
  hok:HOk P w H s.heap
  bare:AllBare s.gens
noncomputable def CE (outer:List Env) (P:Program) (w:World) (H:Hp) (s:Shared) (Q:VK) (u:Value) (s':Shared):Prop :=
  ∃ v H',s'.os=s.os/\AllBare s'.gens/\Un (frs outer) [] H H' s.heap s'.heap/\HOk P w H' s'.heap/\RelV v u/\Q v H'
noncomputable def CR (CX:CXT) (outer:List Env) (P:Program) (w:World) (H:Hp) (s:Shared) (Q:VK) (E:XK) (r:Result) (s':Shared):Prop :=
  match r with
  | .ok (.ret u)=>CE outer P w H s Q u s'
  | .ok _=>False
  | .error e=>CX outer H s E e s'
structure FnOk (P:Program) (w:World) (K:FG) (mg:Str->Option Value) (base:Heap) (CX:CXT) (k:Nat) (f:Addr) (fd:FuncData) (ps:List Str) (sp:Sp):Prop where
  len:∀ vs H Q E,sp vs H Q E->vs.length=ps.length
  run:∀ (A:Around) (outer:List Env) (s:Shared) (H:Hp) (args:Args) (us:List Value) (vs:List V) (Q:VK) (E:XK),Room k A->Env0 P w K mg base A outer s H->BindsTo s fd args (ps.zip us)->Vals vs us->sp vs H Q E ->
    codeAny (model P w) A (.call (.ref f) args) (CR CX outer P w H s Q E) s
theorem FnOk.imp {P:Program} {w:World} {K:FG} {mg:Str->Option Value} {base:Heap} {CX:CXT} {k:Nat} {f:Addr} {fd:FuncData} {ps:List Str} {sp sp':Sp} (F:FnOk P w K mg base CX k f fd ps sp)
    (h:∀ vs H Q E,sp' vs H Q E->sp vs H Q E):FnOk P w K mg base CX k f fd ps sp' :=
  ⟨fun vs H Q E q=>F.len vs H Q E (h _ _ _ _ q),fun A outer s H args us vs Q E hr he hb hv hs=>F.run A outer s H args us vs Q E hr he hb hv (h _ _ _ _ hs)⟩
section
variable {X:Cx} {pins:List (Addr × Obj)} {σ:St} {H:Hp} {s s':Shared}
theorem Inv.env0 (I:Inv X pins σ H s):Env0 X.prog X.w X.K X.mg X.base X.A X.stack s H :=
  ⟨I.ok.frames,I.ok.mod,I.bs,CO I.ok.bsz I.sz,I.stack,I.stkFree,I.hok,I.bare⟩
theorem Inv.after {Q:VK} {u:Value} (I:Inv X pins σ H s) (h:CE X.stack X.prog X.w H s Q u s'):EP X pins σ Q u s':=by
  obtain ⟨v,H',os,bare,un,hok,r,q⟩:=h
  obtain ⟨hh,g,d,t,os'⟩:=s'
  obtain rfl:os'=s.os:=os
  exact ⟨v,H',I.call (h':=hh) (g':=g) (d':=d) (t':=t) (ch:=[]) un hok bare (fun b z=>absurd z (by simp)),r,q⟩
end
noncomputable def tCall (sp:Sp) (dvs:List V) (E:XK) (t:TA):TE:=fun σ H Q=>t σ H fun vs H1=>sp (vs ++ dvs) H1 Q E
noncomputable def Binds (K:FG) (fd:FuncData) (ps:List Str) (ds:List Value):Prop :=
  ∀ (s:Shared) (us:List Value),K.In s.heap->(us ++ ds).length=ps.length->BindsTo s fd ⟨us,[]⟩ (ps.zip (us ++ ds))
theorem Binds.all {K:FG} {fd:FuncData} {ps:List Str} (h:∀ us:List Value,us.length=ps.length->bindArgs fd ⟨us,[]⟩=pure (ps.zip us)):Binds K fd ps []:=fun s us _ hl=>by
  rw [List.append_nil] at hl ⊢
  exact .of_eq (h us hl)
noncomputable def rp (CX:CXT) (X:Cx) (E:XK):Prop:=∀ (pins:List (Addr × Obj)) (σ:St) (H:Hp) (s:Shared) (e:Value) (s':Shared),Inv X pins σ H s->CX X.stack H s E e s'->X.xe e s'
section
variable {X:Cx} {CX:CXT} {k:Nat} {f C:Addr} {fd:FuncData} {ps:List Str} {sp:Sp} {dvs:List V} {ds:List Value} {E:XK} {x m:Str} {p pos apos:Pos} {e o:Expr} {es:List Expr} {ta:TE} {t:TA}
set_option tactic.hygienic true in
theorem A1 {pins:List (Addr × Obj)} {σ:St} {H:Hp} {s:Shared} {Q:VK} {us:List Value} {vs:List V} (F:FnOk X.prog X.w X.K X.mg X.base CX k f fd ps sp) (hr:Room k X.A) (hb:Binds X.K fd ps ds) (hd:Vals dvs ds) (hx:rp CX X E)
    (I:Inv X pins σ H s) (r:Vals vs us) (h:sp (vs ++ dvs) H Q E):wpAny (model X.prog X.w) X.A (call (.ref f) us) (EP X pins σ Q) X.xe s:=by
  have r2:Vals (vs ++ dvs) (us ++ ds):=r.append hd
  have hl:(us ++ ds).length=ps.length:=by rw [<- r2.length];exact F.len _ _ _ _ h
  refine wpAny_call (codeAny_mono (F.run X.A X.stack s H ⟨us,[]⟩ (us ++ ds) (vs ++ dvs) Q E hr I.env0 (hb s us I.kIn hl) r2 h) fun r s' hq=>?_)
  cases r with
  | error e=>exact hx pins σ H s e s' I hq
  | ok fl =>
    cases fl with
    | ret u=>exact I.after hq
    | next=>exact False.elim hq
    | brk=>exact False.elim hq
    | cont=>exact False.elim hq
theorem yS (F:FnOk X.prog X.w X.K X.mg X.base CX k f fd ps sp) (hr:Room k X.A) (hg:Gl X x) (hm:X.mg x=some (.ref f)) (hk:PySem.W.keepIn X.K (.ref f)=true) (hb:Binds X.K fd ps ds) (hd:Vals dvs ds) (hx:rp CX X E)
    (ha:PA X (e :: es) t) (hdb:(x == ("__debug__":Str))=false:=by decide) (he:starEach (e :: es) X.env=(false,eval e X.env) :: starEach es X.env:=by rfl) (hpl:(backTo pos (starEach es X.env)).any (·.1)=false:=by rfl) :
    PE X (.Call (.Name x p) (e :: es) [] pos) (tCall sp dvs E t):=by
  intro pins s σ H Q I h
  refine wpAny_Call_Name_kw (r6 I hg hm ?_ hdb)
  refine PySem.W.callWith_K (h₀:=X.base) I.ok.mod.kin hk (thn (ha pos pins s σ H _ I h) fun us s1 ⟨vs,H1,I1,r,q⟩=>⟨I1.kIn,?_⟩) he hpl
  exact A1 F hr hb hd hx I1 r q
end
noncomputable def PK (X:Cx) (kws:List Keyword) (t:TA):Prop :=
  ∀ (pos:Pos) (pins:List (Addr × Obj)) (s:Shared) (σ:St) (H:Hp) (Q:List V->Hp->Prop),Inv X pins σ H s->t σ H Q->wpAny (model X.prog X.w) X.A (evalAll ((backToKw pos (keywordEach kws X.env)).map (·.2))) (AP X pins σ Q) X.xe s
section
variable {X:Cx} {CX:CXT} {k:Nat} {f C:Addr} {fd:FuncData} {ps ks:List Str} {sp:Sp} {E:XK} {x m:Str} {p pos apos kpos:Pos} {e o:Expr} {es:List Expr} {kws:List Keyword} {te ta:TE} {t tk:TA} {nm:Option Str}
theorem Be:PK X [] xM:=fun _ _ _ _ H Q I h=>wpAny_evalAll_nil ⟨[],H,I,.nil,h⟩
theorem yM (ha:PE X e te) (hr:PK X kws t):PK X (⟨nm,e,kpos⟩ :: kws) (oJ te t):=by
  intro pos pins s σ H Q I h
  show wpAny _ _ (evalAll ((do let v <- eval e X.env;standAt pos;pure v) :: (backToKw pos (keywordEach kws X.env)).map (·.2))) _ _ s
  refine wpAny_evalAll_cons (B5 (thn (ha pins s σ H _ I h) fun u s1 ⟨x,H1,I1,r1,q1⟩=>B5 (wpAny_standAt (B6 ?_))))
  exact thn (hr pos pins s1 σ H1 _ I1 q1) fun us s2 ⟨xs,H2,I2,r2,q2⟩=>⟨x :: xs,H2,I2,.cons r1 r2,q2⟩
variable {g:List Value->List Value->List Value} {gV:List V->List V->List V}
end
structure FnScope (N P:List Str) (sc:Scope):Prop where
  kind:sc.kind=.function
  co:sc.isCoroutine=false
  gen:sc.isGenerator=false
  nd:N.Nodup
  pre:N.take P.length=P
  par:∀ x ∈ P,sc.names.lookup x=some .local\/sc.names.lookup x=some .cell
  nofree:∀ y ∈ sc.names,y.2 ≠ .free
theorem m9 {kindOf:Str->Option NameKind} {x:Str}:∀ {binds:List (Str × Value)} {m:Str->Option Value},(∀ v,(x,v) ∉ binds)->bindL kindOf binds m x=m x
  | [],_,_=>rfl
  | (n,v) :: r,m,h=>by
    unfold bindL
    rw [m9 fun w hw=>h w (B9 _ hw)]
    split
    · have:x ≠ n:=by rintro rfl;exact h v B8
      simp [this]
    · rfl
theorem ng {kindOf:Str->Option NameKind} {x:Str}:∀ {binds:List (Str × Value)} {m:Str->Option Value},(∀ v,(x,v) ∉ binds)->bindC kindOf binds m x=m x
  | [],_,_=>rfl
  | (n,v) :: r,m,h=>by
    unfold bindC
    rw [ng fun w hw=>h w (B9 _ hw)]
    split
    · rfl
    · have:x ≠ n:=by rintro rfl;exact h v B8
      simp [this]
theorem nc {kindOf:Str->Option NameKind} {x:Str} {v:Value}:∀ {P:List Str} {vs:List Value} {i:Nat} {m:Str->Option Value},P.Nodup->P[i]?=some x->vs[i]?=some v->kindOf x=some .local ->
    bindL kindOf (P.zip vs) m x=some v
  | [],_,_,_,_,h,_,_=>by simp at h
  | _ :: _,[],_,_,_,_,h,_=>by simp at h
  | p :: P,w :: vs,0,m,nd,h1,h2,hk=>by
    simp at h1 h2;subst h1;subst h2
    show bindL kindOf ((p,w) :: P.zip vs) m p=_
    unfold bindL
    rw [m9 fun v hv=>(List.nodup_cons.mp nd).1 (List.of_mem_zip hv).1,if_pos hk]
    simp
  | p :: P,w :: vs,i+1,m,nd,h1,h2,hk=>by
    show bindL kindOf ((p,w) :: P.zip vs) m x=_
    unfold bindL
    exact nc (i:=i) (List.nodup_cons.mp nd).2 (by simpa using h1) (by simpa using h2) hk
theorem nh {kindOf:Str->Option NameKind} {x:Str} {v:Value}:∀ {P:List Str} {vs:List Value} {i:Nat} {m:Str->Option Value},P.Nodup->P[i]?=some x->vs[i]?=some v->kindOf x ≠ some .local ->
    bindC kindOf (P.zip vs) m x=some v
  | [],_,_,_,_,h,_,_=>by simp at h
  | _ :: _,[],_,_,_,_,h,_=>by simp at h
  | p :: P,w :: vs,0,m,nd,h1,h2,hk=>by
    simp at h1 h2;subst h1;subst h2
    show bindC kindOf ((p,w) :: P.zip vs) m p=_
    unfold bindC
    rw [ng fun v hv=>(List.nodup_cons.mp nd).1 (List.of_mem_zip hv).1,if_neg hk]
    simp
  | p :: P,w :: vs,i+1,m,nd,h1,h2,hk=>by
    show bindC kindOf ((p,w) :: P.zip vs) m x=_
    unfold bindC
    exact nh (i:=i) (List.nodup_cons.mp nd).2 (by simpa using h1) (by simpa using h2) hk
noncomputable def kb (N:List Str) (vs:List V):St:=vs.map some ++ List.replicate (N.length - vs.length) none
noncomputable def pK (CX:CXT) (P:Program) (w:World) (K:FG) (mg:Str->Option Value) (base:Heap) (N:List Str) (qual:Str) (scope:Scope) (f:Addr) (cd:Value) (A:Around) (outer:List Env) (s:Shared) (H:Hp) (E:XK):Cx where
  prog:=P
  w:=w
  K:=K
  mg:=mg
  base:=base
  A:=A.deeper (envOfC qual scope s.heap.objs.size f cd)
  N:=N
  s₀:=s
  H₀:=H
  env:=envOfC qual scope s.heap.objs.size f cd
  outer:=outer
  stack:=envOfC qual scope s.heap.objs.size f cd :: outer
  ex:=[]
  calm:=true
  fn:=fun _=>true
  pn:=[]
  xe:=fun e s'=>wpAny (model P w) (A.deeper (envOfC qual scope s.heap.objs.size f cd)) (leaving (envOfC qual scope s.heap.objs.size f cd) e) (fun _ s''=>CX outer H s E e s'') (fun e' s''=>CX outer H s E e' s'') s'
theorem pO {sc:Scope} {n:Nat} {x:Str} (h:sc.names.lookup x=some .cell):∃ c,(cellsFrom n sc.names []).lookup x=some c:=by
  have q:=PySem.W.cellsFrom_some sc.names n [] (.inl h)
  exact Option.isSome_iff_exists.mp q
theorem ue {CX:CXT} {P:Program} {w:World} {K:FG} {mg:Str->Option Value} {base:Heap} {N ps:List Str} {qual:Str} {scope:Scope} {f:Addr} {cd:Value} {A:Around} {outer:List Env} {s s1:Shared} {H:Hp} {E:XK} {us:List Value} {vs:List V}
    (S:FnScope N ps scope) (hd:A.handled=none) (e0:Env0 P w K mg base A outer s H) (hl:vs.length=ps.length) (r:Vals vs us)
    (x:InCallC s s.heap.objs.size (bindL (envOfC qual scope s.heap.objs.size f cd).kindOf (ps.zip us) fun _=>none) (cellsFrom (s.heap.objs.size+1) scope.names []) (bindC (envOfC qual scope s.heap.objs.size f cd).kindOf (ps.zip us) fun _=>none) s1) :
    Inv (pK CX P w K mg base N qual scope f cd A outer s H E) [] (kb N vs) H s1:=by
  have hpl:ps.length<=N.length:=by have:=congrArg List.length S.pre;rw [CD] at this;omega
  obtain ⟨h1,tk,rfl,hk⟩:=x.done
  have noA:∀ b:Addr,b ∉ (pK CX P w K mg base N qual scope f cd A outer s H E).ex:=fun b z=>absurd (show b ∈ ([]:List Addr) from z) (by simp)
  refine ⟨⟨e0.mod,S.kind,rfl,rfl,Cq _,fun y z c h1 h2=>?_,fun y hy=>?_,fun y c _ h=>?_,fun _=>hd,Around.frames_deeper e0.frames,.inr ⟨rfl,rfl⟩,fun b z=>absurd z (noA b),e0.bs,e0.bsz,fun b _ _=>noA b,fun b z=>absurd z (noA b),e0.funs,e0.frf⟩,
    rfl,e0.bare,Un.kept hk,⟨_,x.toInCall.ns,fun i y v h1 h2 h3=>?_⟩,fun y c h=>⟨_,x.cell y c h⟩,e0.hok.fresh (Cq _),fun y c h=>?_,fun p hp=>absurd (show p ∈ ([]:List (Addr × Obj)) from hp) (by simp),e0.hok.kept hk,?_⟩
  · exact name_of_addr x.apart (PySem.mem_of_lookup h1) (PySem.mem_of_lookup h2)
  · have hy:scope.names.lookup y=some .cell\/scope.names.lookup y=some .free:=hy
    rcases hy with hy | hy
    · exact pO hy
    · exact absurd rfl (S.nofree _ (PySem.mem_of_lookup hy))
  · exact Nat.le_of_lt (x.above y c (PySem.mem_of_lookup h))
  · have hi:i < vs.length:=by
      unfold kb at h2
      by_cases hi:i < vs.length
      · exact hi
      · rw [List.getElem?_append_right (by simpa using hi)] at h2
        rw [List.getElem?_replicate] at h2
        split at h2 <;> cases h2
    have ha:vs[i]?=some v:=by
      unfold kb at h2
      rw [CK (by simpa using hi),Cp] at h2
      cases e:vs[i]? with
      | none=>rw [e] at h2;cases h2
      | some a=>rw [e] at h2;cases h2;rfl
    obtain ⟨u,hu,rv⟩:=r.get ha
    have hp:ps[i]?=some y:=by
      rw [<- S.pre,List.getElem?_take_of_lt (by omega)];exact h1
    have ndP:ps.Nodup:=by rw [<- S.pre];exact S.nd.sublist (List.take_sublist _ _)
    refine ⟨u,rv,?_⟩
    rcases S.par y (Cm hp) with k | k
    · exact .inl ⟨k,nc ndP hp hu k⟩
    · obtain ⟨c,e⟩:=pO (n:=s.heap.objs.size+1) k
      refine .inr ⟨.inl k,c,e,?_⟩
      have q:=x.cell y c e
      rw [nh ndP hp hu (by show scope.names.lookup y ≠ _;rw [k];decide)] at q
      exact q
  · exact e0.hok.fresh (Nat.le_of_lt (x.above y c (PySem.mem_of_lookup h)))
  · unfold kb
    show _=N.length
    rw [CB,Ck,List.length_replicate]
    omega
set_option tactic.hygienic true in
theorem fn_of {CX:CXT} {P:Program} {w:World} {K:FG} {mg:Str->Option Value} {base:Heap} {k:Nat} {f:Addr} {name qual:Str} {params:Arguments} {body:List Stmt} {scope:Scope} {dV kV doc pm cdv ct oc:Value} {an od:Option Addr}
    {osl:Array (Option Value)} {N ps:List Str} {sp:Sp} (lk:K.lookup f=some ⟨oc,od,.func (PySem.W.fnOf name qual params body scope dV kV doc pm an cdv ct),osl⟩) (hcd:PySem.W.codeIn K cdv qual=true) (S:FnScope N ps scope)
    (len:∀ vs H Q E,sp vs H Q E->vs.length=ps.length)
    (hbody:∀ (A:Around) (outer:List Env) (s:Shared) (H:Hp) (vs:List V) (Q:VK) (E:XK),Room k (A.deeper (envOfC qual scope s.heap.objs.size f cdv))->sp vs H Q E ->
      ∃ t,PSs (pK CX P w K mg base N qual scope f cdv A outer s H E) body t/\t { nx:=fun _ H'=>Q .non H',rt:=Q } (kb N vs) H) :
    FnOk P w K mg base CX (k+1) f (PySem.W.fnOf name qual params body scope dV kV doc pm an cdv ct) ps sp:=by
  refine ⟨len,fun A outer s H args us vs Q E hr e0 hb r hsp=>?_⟩
  have hl:=len _ _ _ _ hsp
  have KX:K.In s.heap:=e0.mod.kin.keeps fun b o e=>(e0.bs b o e).1
  have lim:s.heap.NoLimit:=e0.mod.nolimit.keeps fun b o e=>(e0.bs b o e).1
  have hkind:∀ y ∈ ps.zip us,scope.names.lookup y.1=some .local\/(scope.names.lookup y.1=some .cell/\((cellsFrom (s.heap.objs.size+1) scope.names []).lookup y.1).isSome=true):=fun ⟨n,v⟩ hy=>by
    rcases S.par n (List.of_mem_zip hy).1 with q | q
    · exact .inl q
    · exact .inr ⟨q,PySem.W.cellsFrom_some _ _ _ (.inl q)⟩
  refine codeAny_call_function hr.depth (KX _ _ lk) rfl S.co S.gen rfl (PySem.W.codeRec_of KX hcd) (hb _ _ _ _ ?_)
  refine wpAny_newFunctionEnv_cells S.kind hkind fun env he s1 x=>?_
  subst he
  refine ⟨lim.keeps x.toInCall.keep,codeAny_func ?_⟩
  obtain ⟨t,ht,hq⟩:=hbody A outer s H vs Q E (hr.deeper _) hsp
  have I:Inv (pK CX P w K mg base N qual scope f cdv A outer s H E) [] (kb N vs) H s1:=ue S hr.hd e0 hl r x
  refine wpAny_mono (ht [] s1 (kb N vs) H _ I hq) (fun fl s' hs=>?_) fun e s' hs=>hs
  have fin:∀ {σ':St} {H':Hp} {v:V} {u:Value},Inv (pK CX P w K mg base N qual scope f cdv A outer s H E) [] σ' H' s'->RelV v u->Q v H'->CE outer P w H s Q u s' :=
    fun {σ' H' v u} J rv q=>⟨v,H',J.os,J.bare,J.base,J.hok,rv,q⟩
  cases fl with
  | ret u =>
    obtain ⟨v,σ',H',J,rv,q⟩:=hs
    exact fin J rv q
  | next =>
    obtain ⟨σ',H',J,q⟩:=hs
    exact fin (v:=V.non) (u:=Value.none) J rfl q
  | brk =>
    obtain ⟨_,_,_,q⟩:=hs
    exact False.elim q
  | cont =>
    obtain ⟨_,_,_,q⟩:=hs
    exact False.elim q
end L2
namespace L2
open PySem PySem.Spec PyProof.Rows
section
variable {X:Cx} {x:Str} {p pos:Pos} {e:Expr} {es:List Expr} {t:TA} {id T:String} {r:List V->Hp->VK->Prop}
noncomputable def tCB (r:List V->Hp->VK->Prop) (t:TA):TE:=fun σ H Q=>t σ H fun vs H1=>r vs H1 Q
theorem lC (hc:CallR X (.builtin id) r) (hg:Gl X x) (hm:X.mg x=none) (hv:bootBuiltins x=some (.builtin id)) (ha:PA X (e :: es) t) (hn:x ≠ "__name__":=by decide) (hdb:(x == ("__debug__":Str))=false:=by decide)
    (he:starEach (e :: es) X.env=(false,eval e X.env) :: starEach es X.env:=by rfl) (hpl:(backTo pos (starEach es X.env)).any (·.1)=false:=by rfl):PE X (.Call (.Name x p) (e :: es) [] pos) (tCB r t):=by
  intro pins s σ H Q I h
  refine wpAny_Call_Name_kw (gx I hg hm hv ?_ hn hdb)
  exact PyProof.Rows.callWith_builtin1 (thn (ha pos pins s σ H _ I h) fun us s1 ⟨vs,H1,I1,r1,q1⟩=>hc pins s1 σ H1 vs us Q I1 r1 q1) he hpl
theorem tK (hc:CallR X (.type T) r) (hg:Gl X x) (hm:X.mg x=none) (hv:bootBuiltins x=some (.type T)) (ha:PA X (e :: es) t) (hn:x ≠ "__name__":=by decide) (hdb:(x == ("__debug__":Str))=false:=by decide)
    (he:starEach (e :: es) X.env=(false,eval e X.env) :: starEach es X.env:=by rfl) (hpl:(backTo pos (starEach es X.env)).any (·.1)=false:=by rfl):PE X (.Call (.Name x p) (e :: es) [] pos) (tCB r t):=by
  intro pins s σ H Q I h
  refine wpAny_Call_Name_kw (gx I hg hm hv ?_ hn hdb)
  exact PyProof.Rows.callWith_type1 (thn (ha pos pins s σ H _ I h) fun us s1 ⟨vs,H1,I1,r1,q1⟩=>hc pins s1 σ H1 vs us Q I1 r1 q1) he hpl
end
end L2
namespace HT
open PySem PyProof.Rows
noncomputable def lexLt:List Int->List Int->Bool
  | [],[]=>false
  | [],_ :: _=>true
  | _ :: _,[]=>false
  | x :: xs,y :: ys=>if x=y then lexLt xs ys else decide (x < y)
theorem lexLt_cons (x y:Int) (xs ys:List Int):lexLt (x :: xs) (y :: ys)=if x=y then lexLt xs ys else decide (x < y):=rfl
theorem mw:lexLt [] []=false:=rfl
theorem lO (y:Int) (ys:List Int):lexLt [] (y :: ys)=true:=rfl
theorem lR (x:Int) (xs:List Int):lexLt (x :: xs) []=false:=rfl
theorem wV (A:Around) (s:Shared) (a:Int) (t:Tok) (c:Int) (u:Tok):∃ e,SeqAt.EqAt A s (.int a t) (.int c u) e/\(e=true ↔ a=c) :=
  ⟨(a == c),SeqAt.EqAt.int_int a t c u,by simp⟩
theorem vG (A:Around) (s:Shared) (a:Int) (t:Tok) (c:Int) (u:Tok) (prog:Program) (w:World) (E:Value->Shared->Prop) (Q:Value->Shared->Prop) (h:Q (.bool (decide (a < c))) s) :
    wpAny (model prog w) A (richCompare .Lt (.int a t) (.int c u)) Q E s :=
  (PyProof.Rows.lt_int h:wpAny (model prog w) A (compareOp .Lt (.int a t) (.int c u)) Q E s)
section
open PySem.SeqAt
open PySem.AutoSeq1 (wpAny_loadPart')
open PySem.MeetsSeq PySem.MeetsSeq2 PySem.MeetsSeq3
set_option tactic.hygienic true in
theorem mm (l b:Addr) (items items2:Array Value) (n n2:Nat) (dd dd2:Option Addr) (sl sl2:Array (Option Value)) (ns ms:List Int) (hi:IntsAre items.toList ns) (hj:IntsAre items2.toList ms) :
    Meets (Builtin.«tuple.__lt__» ⟨[.ref l,.ref b],[]⟩)
      (fun _ R s=>s.heap.get? l=some { cls:=.type "tuple",dict:=dd,data:=.seq items n,slots:=sl }/\s.heap.get? b=some { cls:=.type "tuple",dict:=dd2,data:=.seq items2 n2,slots:=sl2 } /\
        R (.ok (.ret (.bool (lexLt ns ms)))) s) :=
  .of_wp fun prog w A R s h=>by
    obtain ⟨hp,g,d,tk,os⟩:=s;obtain ⟨hl,hb,h⟩:=h
    have f2:=AutoSeq1.sub_tuple_tuple
    have z1:items.size=ns.length:=by rw [<- hi.length];simp
    have z2:items2.size=ms.length:=by rw [<- hj.length];simp
    wp_walk using wpAny_loadPart' hl,wpAny_loadPart' hb,wpAny_forIn_list _ (fun eB b s'=>b.1=none/\s'=⟨hp,g,d,tk,os⟩/\∃ (vs ws:List Value) (ns' ms':List Int),eB=vs.zip ws /\
      IntsAre vs ns'/\IntsAre ws ms'/\ns'.length+items2.size=ms'.length+items.size/\R (.ok (.ret (.bool (lexLt ns' ms')))) ⟨hp,g,d,tk,os⟩) _
    case turn =>
      rintro ⟨y,x⟩ eB b s' ⟨hb',rfl,vs,ws,ns',ms',hz,hvi,hwi,hlen,hR⟩
      cases hvi with
      | nil=>rw [List.zip_nil_left] at hz;cases hz
      | cons a t hvi' =>
        cases hwi with
        | nil=>rw [List.zip_nil_right] at hz;cases hz
        | cons c u hwi' =>
          rw [List.zip_cons_cons] at hz
          injection hz with hyx hrest
          injection hyx with hy hx
          subst hy hx
          rw [lexLt_cons] at hR
          simp only [CC] at hlen
          obtain ⟨e,he,hiff⟩:=wV A.in1 ⟨hp,g,d,tk,os⟩ a t c u
          refine B5 (he prog w _ _ ?_)
          cases e with
          | true =>
            rw [if_pos (hiff.mp rfl)] at hR
            wp_walk
            exact ⟨rfl,rfl,_,_,_,_,hrest,hvi',hwi',by omega,hR⟩
          | false =>
            rw [if_neg (fun q=>absurd (hiff.mpr q) Cr)] at hR
            have hri:=vG A.in1 ⟨hp,g,d,tk,os⟩ a t c u prog w
            wp_walk using hri
            exact ⟨_,rfl,by simpa using hR⟩
    case fin =>
      rintro ⟨b1,b2⟩ s' ⟨hb',rfl,vs,ws,ns',ms',hz,hvi,hwi,hlen,hR⟩
      simp only at hb'
      subst hb'
      have hv:lexLt ns' ms'=decide (items.size < items2.size):=by
        cases hvi with
        | nil =>
          cases hwi with
          | nil =>
            simp only [List.length_nil] at hlen
            rw [mw]
            exact (Cw (by omega)).symm
          | cons c u hw =>
            simp only [List.length_nil,CC] at hlen
            rw [lO]
            exact (Cv (by omega)).symm
        | cons a t hv =>
          cases hwi with
          | nil =>
            simp only [List.length_nil,CC] at hlen
            rw [lR]
            exact (Cw (by omega)).symm
          | cons c u hw =>
            rw [List.zip_cons_cons] at hz
            cases hz
      rw [hv] at hR
      wp_walk
      exact ⟨_,rfl,by simpa [Builtin.Tuple.tupleCompareSizes] using hR⟩
    case h =>
      exact ⟨rfl,rfl,items.toList,items2.toList,ns,ms,rfl,hi,hj,by omega,h⟩
end
section
variable {prog:Program} {w:World} {A:Around} {E:Value->Shared->Prop} {s:Shared}
theorem lt_tupInts {l b:Addr} {items items2:Array Value} {ns ms:List Int} {Q:Value->Shared->Prop} (hl:IsTup s.heap l items) (hb:IsTup s.heap b items2) (hi:IntsAre items.toList ns) (hj:IntsAre items2.toList ms)
    (hu:A.units < cLine) (h:Q (.bool (lexLt ns ms)) s):wpAny (model prog w) A (compareOp .Lt (.ref l) (.ref b)) Q E s:=by
  obtain ⟨⟨cls,dd,data,sl⟩,ho,hc,n,hd⟩:=id hl
  obtain ⟨⟨cls2,dd2,data2,sl2⟩,ho2,hc2,n2,hd2⟩:=id hb
  simp only at hc hd hc2 hd2
  subst hc hd hc2 hd2
  exact richCompare_meets_room (op:=.Lt) ⟨_,ho,rfl⟩ ⟨_,ho2,rfl⟩ PySem.F.slot_tuple_lt PySem.F.entry_tuple_lt (PySem.F.args_tuple_lt_2 _ _) (mm l b items items2 n n2 dd dd2 sl sl2 ns ms hi hj)
    ⟨ho,ho2,show Value.bool (lexLt ns ms) ≠ Value.notImplemented/\Q (.bool (lexLt ns ms)) s from ⟨(fun x=>nomatch x),h⟩⟩ hu
theorem cat_tup {t b:Addr} {vs ws:List Value} {Q:Value->Shared->Prop} (ht:IsTup s.heap t vs.toArray) (hb:IsTup s.heap b ws.toArray) (hv:vs ≠ [])
    (h1:ws=[]->Q (.ref t) s) (h2:ws ≠ []->Q (.ref s.heap.objs.size) { s with heap:=s.heap.push { cls:=.type "tuple",data:=.seq (vs ++ ws).toArray } })
    (hsz:vs.length+ws.length<=sizeLine):wpAny (model prog w) A (binaryOp .Add (.ref t) (.ref b)) Q E s:=by
  obtain ⟨⟨cls,dd,data,sl⟩,ho,hc,n,hd⟩:=id ht
  obtain ⟨⟨cls2,dd2,data2,sl2⟩,ho2,hc2,n2,hd2⟩:=id hb
  simp only at hc hd hc2 hd2
  subst hc hd hc2 hd2
  have e:vs.toArray ++ ws.toArray=(vs ++ ws).toArray:=by simp
  by_cases hw:ws=[]
  · exact concat_meets ⟨_,ho,rfl⟩ ⟨_,ho2,rfl⟩ noFill_tuple_add seq_tuple_add PySem.F.slot_tuple_add PySem.F.entry_tuple_add (PySem.F.args_tuple_add_2 _ _)
      (tuple_addW1 t b vs.toArray ws.toArray n n2 dd dd2 sl sl2 (by simpa using hv) (by simp [hw])) ⟨ho,ho2,h1 hw⟩
  · refine concat_meets ⟨_,ho,rfl⟩ ⟨_,ho2,rfl⟩ noFill_tuple_add seq_tuple_add PySem.F.slot_tuple_add PySem.F.entry_tuple_add (PySem.F.args_tuple_add_2 _ _)
      (tuple_addW2 t b vs.toArray ws.toArray n n2 dd dd2 sl sl2 (by simpa using hv) (by simpa using hw) (by rw [Ct,Ct];exact hsz)) ⟨ho,ho2,?_⟩
    rw [e]
    exact h2 hw
noncomputable def sIx (n d:Nat):Option Int->Nat
  | none=>d
  | some v=>if v < 0 then (v+(n:Int)).toNat else min v.toNat n
theorem sIx_none (n d:Nat):sIx n d none=d:=rfl
theorem sIx_nat (n d k:Nat):sIx n d (some (k:Int))=min k n:=by
  show (if (k:Int) < 0 then ((k:Int)+(n:Int)).toNat else min (k:Int).toNat n)=min k n
  rw [if_neg (by omega),Int.toNat_natCast]
theorem AY (n d:Nat) (hd:d<=n) (o:Option Int):sIx n d o<=n:=by
  cases o with
  | none=>exact hd
  | some v =>
    show (if v < 0 then (v+(n:Int)).toNat else min v.toNat n)<=n
    by_cases hv:v < 0
    · rw [if_pos hv];omega
    · rw [if_neg hv];exact Nat.min_le_right _ _
theorem sF (v:Int) (n d:Nat):(if v < 0 then max (v+(n:Int)) 0 else min v (n:Int))=((sIx n d (some v):Nat):Int):=by
  show (if v < 0 then max (v+(n:Int)) 0 else min v (n:Int))=(((if v < 0 then (v+(n:Int)).toNat else min v.toNat n):Nat):Int)
  by_cases hv:v < 0
  · simp only [if_pos hv];omega
  · simp only [if_neg hv];omega
theorem rn (lo hi:Option Int) (n:Nat):Builtin.Slice.sliceAdjust lo hi 1 (n:Int)=(((sIx n 0 lo:Nat):Int),((sIx n n hi:Nat):Int)):=by
  have h1:¬ ((1:Int) < 0):=by omega
  unfold Builtin.Slice.sliceAdjust
  simp only [h1,if_false]
  refine Prod.ext ?_ ?_
  · cases lo with
    | none=>rfl
    | some v=>exact sF v n 0
  · cases hi with
    | none=>rfl
    | some v=>exact sF v n n
theorem qz (i j:Nat):Builtin.Slice.slicePlaces (i:Int) (j:Int) 1=j - i:=by
  unfold Builtin.Slice.slicePlaces
  have h1:(1:Int) > 0:=by omega
  simp only [h1,if_true,Int.ediv_one]
  split <;> omega
theorem lb {v:Value} {o:Option Int} {Q:Option Int->Shared->Prop} (p:IsPart v o) (h:Q o s):wpAny (model prog w) A (Builtin.Slice.slicePartIndex v) Q E s:=by
  cases p with
  | none=>exact slicePart_none h
  | int i t=>exact slicePart_int h
theorem fL {sl:Addr} {vl vu:Value} {lo hi:Option Int} {n:Nat} {Q:Int × Int × Nat->Shared->Prop} (hs:s.heap.IsSliceOf sl vl vu .none) (pl:IsPart vl lo) (pu:IsPart vu hi)
    (h:Q (((sIx n 0 lo:Nat):Int),1,sIx n n hi - sIx n 0 lo) s):wpAny (model prog w) A (Builtin.Slice.sliceApplied (.ref sl) (pure (n:Int))) Q E s:=by
  obtain ⟨os,hos,hcs,hds⟩:=id hs
  unfold Builtin.Slice.sliceApplied Builtin.Slice.sliceFields
  refine B5 (B5 (wpAny_field hos hds (x:=vl) rfl (B5 (wpAny_field hos hds (x:=vu) rfl (B5 (wpAny_field hos hds (x:=.none) rfl (B6 ?_)))))))
  refine B5 (slicePart_none ?_)
  show wpAny _ _ (if ((1:Int) == 0)=true then _ else _) _ _ s
  rw [if_neg (by decide)]
  refine B5 (lb pl (B5 (lb pu (B5 (B6 ?_)))))
  show wpAny _ _ (match Builtin.Slice.sliceAdjust lo hi 1 (n:Int) with | (lo,hi)=>pure (lo,(1:Int),Builtin.Slice.slicePlaces lo hi 1)) _ _ s
  rw [rn lo hi n]
  show wpAny _ _ (pure (((sIx n 0 lo:Nat):Int),(1:Int),Builtin.Slice.slicePlaces ((sIx n 0 lo:Nat):Int) ((sIx n n hi:Nat):Int) 1)) _ _ s
  rw [qz]
  exact B6 h
theorem vR (xs:Array Value) (i k:Nat):((List.range k).filterMap fun (m:Nat)=>xs[((i:Int)+(m:Int) * 1).toNat]?).toArray=((xs.toList.drop i).take k).toArray:=by
  have e:(fun (m:Nat)=>xs[((i:Int)+(m:Int) * 1).toNat]?)=fun m=>xs[i+m]?:=by
    funext m
    have:((i:Int)+(m:Int) * 1).toNat=i+m:=by omega
    rw [this]
  rw [e]
  have:=pick_run xs i k
  rw [List.filterMap_map] at this
  have e2:((fun x=>xs[x]?) ∘ fun x=>i+x)=fun m=>xs[i+m]?:=rfl
  rw [e2] at this
  rw [this]
theorem getItem_tuple_cut {t sl:Addr} {items:Array Value} {vl vu:Value} {lo hi:Option Int} {Q:Value->Shared->Prop} (ht:IsTup s.heap t items) (hs:s.heap.IsSliceOf sl vl vu .none) (pl:IsPart vl lo) (pu:IsPart vu hi)
    (hw:¬ (sIx items.size 0 lo=0/\sIx items.size items.size hi=items.size))
    (h:Q (.ref s.heap.objs.size) { s with heap:=s.heap.push { cls:=.type "tuple",data:=.seq ((items.toList.drop (sIx items.size 0 lo)).take (sIx items.size items.size hi - sIx items.size 0 lo)).toArray } })
    (hsz:items.size<=sizeLine):wpAny (model prog w) A (getItem (.ref t) (.ref sl)) Q E s:=by
  have htake:sizeOk (.seq ((items.toList.drop (sIx items.size 0 lo)).take (sIx items.size items.size hi - sIx items.size 0 lo)).toArray):=by
    show ((items.toList.drop (sIx items.size 0 lo)).take (sIx items.size items.size hi - sIx items.size 0 lo)).toArray.size<=sizeLine
    rw [Ct,CD,List.length_drop,Array.length_toList]
    omega
  have hj:sIx items.size items.size hi<=items.size:=AY _ _ (Cq _) hi
  obtain ⟨os,hos,hcs,hds⟩:=id hs
  have hTs:s.TypeIs (.ref sl) "slice":=⟨os,hos,hcs⟩
  unfold getItem
  try with_reducible refine B7 ?_
  first | refine B5 (B6 ?_) | skip
  refine B5 (wpAny_sequenceKey ht.typeIs (by decide) ?_)
  refine B5 (wpAny_callSpecial?_slot (name:=Str.ofString "__getitem__") ht.typeIs PyProof.Rows.slot_tuple_getitem
    (wpAny_call_entry PyProof.Rows.slot_tuple_getitem ht.typeIs entry_tuple_getitem ?_ (args_tuple_getitem _ _)))
  show wpAny _ _ (Builtin.Tuple.tupleItemsOf (.ref t) >>= _) _ _ s
  refine B5 (tupleItemsOf_ ht ?_)
  refine B5 (wpAny_typeOf hTs ?_)
  rw [if_pos (by decide)]
  refine B5 (fL hs pl pu ?_)
  have hno:¬ ((((sIx items.size 0 lo:Nat):Int) == 0 && (1:Int) == 1 && (sIx items.size items.size hi - sIx items.size 0 lo) == items.size)=true):=by
    intro q
    rw [Bool.and_eq_true,Bool.and_eq_true] at q
    have q1:((sIx items.size 0 lo:Nat):Int)=0:=eq_of_beq q.1.1
    have q2:sIx items.size items.size hi - sIx items.size 0 lo=items.size:=eq_of_beq q.2
    exact hw ⟨by omega,by omega⟩
  show wpAny _ _ (if (((sIx items.size 0 lo:Nat):Int) == 0 && (1:Int) == 1 && (sIx items.size items.size hi - sIx items.size 0 lo) == items.size)=true then _ else _) _ _ s
  rw [if_neg hno,vR]
  first
    | exact B5 (m:=Builtin.Tuple.tupleExact _) (wpAny_newObj_type (B6 ⟨_,rfl,B6 h⟩) htake)
    | exact B5 (m:=Builtin.Tuple.tupleExact _) (wpAny_newObj_type (B5 (B6 (B6 ⟨_,rfl,B6 h⟩))) htake)
    | exact B5 (B5 (m:=Builtin.Tuple.tupleExact _) (wpAny_newObj_type (B6 (B6 ⟨_,rfl,B6 h⟩)) htake))
    | exact B5 (B5 (m:=Builtin.Tuple.tupleExact _) (wpAny_newObj_type (B6 ⟨_,rfl,B6 h⟩) htake))
end
end HT
namespace L2
open PySem PySem.Spec PyProof.Rows
noncomputable abbrev TO:=St->Hp->(Option Int->Hp->Prop)->Prop
noncomputable def PO (X:Cx) (e:Option Expr) (t:TO):Prop :=
  ∀ (pins:List (Addr × Obj)) (s:Shared) (σ:St) (H:Hp) (Q:Option Int->Hp->Prop),Inv X pins σ H s->t σ H Q ->
    wpAny (model X.prog X.w) X.A (evalPart e X.env) (fun u s'=>∃ o H',Inv X pins σ H' s'/\IsPart u o/\Q o H') X.xe s
noncomputable def xL:TO:=fun _ H Q=>Q none H
noncomputable def tPart (t:TE):TO:=fun σ H Q=>t σ H fun x H1=>∃ i,x=.int i/\Q (some i) H1
theorem qR {ns:List Int}:∀ {us:List Value},Vals (ns.map V.int) us->IntsAre us ns:=by
  induction ns with
  | nil=>intro us r;rw [List.map_nil] at r;cases r;exact .nil
  | cons n ns ih =>
    intro us r
    rw [Cu] at r
    cases r with
    | cons r1 r2 =>
      obtain ⟨t,e⟩:=r1
      subst e
      exact .cons n t (ih r2)
section
variable {X:Cx} {e:Expr} {te:TE} {lo hi:Option Expr} {tl th:TO} {pos p2:Pos}
theorem yK:PO X none xL:=by
  intro pins s σ H Q I h
  rw [evalPart_none]
  exact B6 ⟨none,H,I,.none,h⟩
theorem yJ (h:PE X e te):PO X (some e) (tPart te):=by
  intro pins s σ H Q I hw
  rw [evalPart_some]
  refine thn (h pins s σ H _ I hw) fun u s1 ⟨x,H1,I1,r1,q1⟩=>?_
  obtain ⟨i,rfl,q⟩:=q1
  obtain ⟨t,rfl⟩:=r1
  exact ⟨some i,H1,I1,.int i t,q⟩
noncomputable def SlR (X:Cx) (r:V->Option Int->Option Int->Hp->VK->Prop):Prop :=
  ∀ (pins:List (Addr × Obj)) (s:Shared) (σ:St) (H:Hp) (x:V) (v vl vu:Value) (lo hi:Option Int) (sl:Addr) (Q:VK),Inv X pins σ H s->RelV x v->s.heap.IsSliceOf sl vl vu .none->IsPart vl lo->IsPart vu hi->r x lo hi H Q ->
    ∃ T id,typeLookup (.type T) "__getitem__"=pure (some (.builtin id))/\s.TypeIs v T/\wpAny (model X.prog X.w) X.A (getItem v (.ref sl)) (EP X pins σ Q) X.xe s
theorem SlR.or {r r':V->Option Int->Option Int->Hp->VK->Prop} (h:SlR X r) (h':SlR X r'):SlR X (fun x lo hi H Q=>r x lo hi H Q\/r' x lo hi H Q):=by
  intro pins s σ H x v vl vu lo hi sl Q I rx hs pl pu q
  rcases q with q | q
  · exact h pins s σ H x v vl vu lo hi sl Q I rx hs pl pu q
  · exact h' pins s σ H x v vl vu lo hi sl Q I rx hs pl pu q
noncomputable def tSl (r:V->Option Int->Option Int->Hp->VK->Prop) (te:TE) (tl th:TO):TE:=fun σ H Q=>te σ H fun x H1=>tl σ H1 fun l H2=>th σ H2 fun u H3=>r x l u H3 Q
theorem vS {r:V->Option Int->Option Int->Hp->VK->Prop} (hr:SlR X r) (he:PE X e te) (hl:PO X lo tl) (hu:PO X hi th):PE X (.Subscript e (.Slice lo hi none p2) pos) (tSl r te tl th):=by
  intro pins s σ H Q I h
  refine Subscript_ (thn (he pins s σ H _ I h) fun v s1 ⟨x,H1,I1,r1,q1⟩=>?_)
  refine wpAny_Slice (thn (hl pins s1 σ H1 _ I1 q1) fun vl s2 ⟨l,H2,I2,pl,q2⟩=>thn (hu pins s2 σ H2 _ I2 q2) fun vu s3 ⟨u,H3,I3,pu,q3⟩=>?_)
  rw [evalPart_none]
  refine B6 ?_
  have I4:Inv X pins σ H3 { s3 with heap:=s3.heap.push { cls:=.type "slice",data:=.fields #[vl,vu,.none] } }:=I3.kept (t':=s3.toks) fun b ob q=>Ca _ q
  obtain ⟨T,id,hT,ht,hg⟩:=hr pins { s3 with heap:=s3.heap.push { cls:=.type "slice",data:=.fields #[vl,vu,.none] } } σ H3 x v vl vu l u s3.heap.objs.size Q I4 r1 (Heap.IsSliceOf.new ..) pl pu q3
  show wpAny (model X.prog X.w) X.A (subscriptTail e (.Slice lo hi none p2) v (.ref s3.heap.objs.size)) (EP X pins σ Q) X.xe { s3 with heap:=s3.heap.push { cls:=.type "slice",data:=.fields #[vl,vu,.none] } }
  exact tail_any (ops:=[.ref s3.heap.objs.size,v]) ht hT hg (by with_unfolding_all rfl)
noncomputable def pL (xs:List V) (lo hi:Option Int):List V:=(xs.drop (HT.sIx xs.length 0 lo)).take (HT.sIx xs.length xs.length hi - HT.sIx xs.length 0 lo)
theorem kr (xs:List V) (lo hi:Option Int):(pL xs lo hi).length<=xs.length:=by
  unfold pL
  rw [CD,List.length_drop]
  omega
noncomputable def A4 (K:FG):V->Option Int->Option Int->Hp->VK->Prop:=fun x lo hi H Q=>∃ a xs,x=.ref a/\SqT K H a xs /\
  ¬ (HT.sIx xs.length 0 lo=0/\HT.sIx xs.length xs.length hi=xs.length)/\∀ p,H p=none->Q (.ref p) (upd H p (.tup (pL xs lo hi)))
theorem sl_tup:SlR X (A4 X.K):=by
  intro pins s σ H x v vl vu lo hi sl Q I rx hs pl pu h
  obtain ⟨a,xs,rfl,hx,hw,q⟩:=h
  cases rx
  obtain ⟨its,r,ht,hz⟩:=I.tuple hx
  have hlen:its.toArray.size=xs.length:=by rw [Ct];exact r.length.symm
  refine ⟨"tuple",_,PyProof.Rows.slot_tuple_getitem.lookup,ht.typeIs,?_⟩
  refine HT.getItem_tuple_cut ht hs pl pu (by rw [hlen];exact hw) ?_ (by rw [hlen];exact hz)
  rw [hlen]
  refine ⟨.ref s.heap.objs.size,_,I.laid (t':=s.toks) (o:=.tup (pL xs lo hi)) (fun b ob q=>Ca _ q) (Cq _) ?_,rfl,q _ (I.hok.fresh (Cq _))⟩
  exact ⟨CO (kr xs lo hi) hz,_,(r.drop (HT.sIx xs.length 0 lo)).take (HT.sIx xs.length xs.length hi - HT.sIx xs.length 0 lo),IsTupD.new _ _⟩
noncomputable def rN (K:FG):R2:=fun x y H Q=>∃ a b xs ys,x=.ref a/\y=.ref b/\SqT K H a xs/\SqT K H b ys/\xs ≠ []/\xs.length+ys.length<=sizeLine /\
  (ys=[]->Q (.ref a) H)/\(ys ≠ []->∀ p,H p=none->Q (.ref p) (upd H p (.tup (xs ++ ys))))
theorem Vals.nil_iff {xs:List V} {us:List Value} (r:Vals xs us):us=[] ↔ xs=[]:=by
  cases r with
  | nil=>simp
  | cons _ _=>simp
theorem op_catT:OpR X (binaryOp .Add) (rN X.K):=by
  intro pins s σ H x y v u Q I rx ry h
  obtain ⟨a,b,xs,ys,rfl,rfl,ha,hb,hx,hz,q1,q2⟩:=h
  cases rx
  cases ry
  obtain ⟨its,r1,p1,_⟩:=I.tuple ha
  obtain ⟨its2,r2,p2,_⟩:=I.tuple hb
  refine HT.cat_tup p1 p2 (fun z=>hx (r1.nil_iff.mp z)) (fun z=>⟨.ref a,H,I,rfl,q1 (r2.nil_iff.mp z)⟩) (fun z=>?_) (by rw [<- r1.length,<- r2.length];exact hz)
  refine ⟨.ref s.heap.objs.size,_,I.laid (t':=s.toks) (o:=.tup (xs ++ ys)) (fun b ob q=>Ca _ q) (Cq _) ?_,rfl,q2 (fun w=>z (r2.nil_iff.mpr w)) _ (I.hok.fresh (Cq _))⟩
  exact ⟨by rw [CB];exact hz,_,r1.append r2,IsTupD.new _ _⟩
end
end L2
namespace L2
open PySem PySem.Spec PyProof.Rows
noncomputable def ixN (n:Nat) (i:Int):Option Nat:=if 0<=i then (if i < n then some i.toNat else none) else if -(n:Int)<=i then some (i+n).toNat else none
noncomputable def atI {α:Type} (xs:List α) (i:Int):Option α:=(ixN xs.length i).bind fun j=>xs[j]?
theorem r9 {n:Nat} {i:Int} {j:Nat} (h:ixN n i=some j):seqIndex? i n=some j/\j < n/\-(n:Int)<=i/\i < n:=by
  unfold ixN at h
  by_cases h0:0<=i
  · rw [if_pos h0] at h
    by_cases h1:i < n
    · rw [if_pos h1] at h
      have e:i.toNat=j:=CV h
      exact ⟨by rw [seqIndex_of h0 h1,e],by omega,by omega,h1⟩
    · rw [if_neg h1] at h;cases h
  · rw [if_neg h0] at h
    by_cases h1:-(n:Int)<=i
    · rw [if_pos h1] at h
      have e:(i+n).toNat=j:=CV h
      exact ⟨by rw [seqIndex_neg (by omega) h1,e],by omega,h1,by omega⟩
    · rw [if_neg h1] at h;cases h
theorem sM {α:Type} {xs:List α} {i:Int} {v:α} (h:atI xs i=some v):∃ j,seqIndex? i xs.length=some j/\xs[j]?=some v/\j < xs.length/\-(xs.length:Int)<=i/\i < xs.length:=by
  unfold atI at h
  cases e:ixN xs.length i with
  | none=>rw [e] at h;cases h
  | some j =>
    rw [e] at h
    obtain ⟨h1,h2,h3,h4⟩:=r9 e
    exact ⟨j,h1,h,h2,h3,h4⟩
theorem xt {α:Type} (xs:List α) (v:α):atI (xs ++ [v]) (-1)=some v:=by
  have hl:(xs ++ [v]).length=xs.length+1:=by simp
  have e:ixN (xs ++ [v]).length (-1)=some xs.length:=by
    unfold ixN
    rw [hl,if_neg (by decide),if_pos (by omega)]
    congr 1
    omega
  unfold atI
  rw [e]
  show (xs ++ [v])[xs.length]?=some v
  simp
noncomputable def sN (b:Expr):Prop:=∀ o i,subscripted b false o i=operate [o,i] (getItem o i)
noncomputable def IxR (X:Cx) (r:R2):Prop :=
  ∀ (value slice:Expr) (pins:List (Addr × Obj)) (s:Shared) (σ:St) (H:Hp) (x y:V) (v u:Value) (Q:VK),Inv X pins σ H s->RelV x v->RelV y u->r x y H Q ->
    subscripted slice false v u=operate [v,u] (getItem v u)->wpAny (model X.prog X.w) X.A (subscriptTail value slice v u) (EP X pins σ Q) X.xe s
noncomputable def MtR (X:Cx) (id:String) (r:V->List V->Hp->VK->Prop):Prop :=
  ∀ (pins:List (Addr × Obj)) (s:Shared) (σ:St) (H:Hp) (x:V) (xs:List V) (v:Value) (us:List Value) (Q:VK),Inv X pins σ H s->RelV x v->Vals xs us->r x xs H Q ->
    wpAny (model X.prog X.w) X.A (call (.builtin id) (v :: us)) (EP X pins σ Q) X.xe s
section
variable {X:Cx} {a b:Expr} {ta tb:TE} {pos:Pos}
theorem IxR.or {r r':R2} (h:IxR X r) (h':IxR X r'):IxR X (fun x y H Q=>r x y H Q\/r' x y H Q):=by
  intro value slice pins s σ H x y v u Q I rx ry q hs
  rcases q with q | q
  · exact h value slice pins s σ H x y v u Q I rx ry q hs
  · exact h' value slice pins s σ H x y v u Q I rx ry q hs
theorem pe_ix {r:R2} (hr:IxR X r) (ha:PE X a ta) (hb:PE X b tb) (hs:sN b):PE X (.Subscript a b pos) (tOp r ta tb):=by
  intro pins s σ H Q I h
  exact Subscript_ (B1 ha hb I h fun v u s2 x y H2 I2 rx ry q=>hr a b pins s2 σ H2 x y v u Q I2 rx ry q (hs _ _))
noncomputable def vK (K:FG):R2:=fun x y H Q=>∃ p xs i v,x=.ref p/\y=.int i/\SqL K H p xs/\atI xs i=some v/\Q v H
noncomputable def vJ (K:FG):R2:=fun x y H Q=>∃ p xs i v,x=.ref p/\y=.int i/\SqT K H p xs/\atI xs i=some v/\Q v H
theorem ix_list:IxR X (vK X.K):=by
  intro value slice pins s σ H x y v u Q I rx ry h hs
  obtain ⟨p,xs,i,z,rfl,rfl,hq,he,q⟩:=h
  cases rx
  obtain ⟨t,rfl⟩:=ry
  obtain ⟨its,r,pl,hz⟩:=I.list hq
  obtain ⟨j,h1,h2,h3,h4,h5⟩:=sM he
  obtain ⟨w,ew,rw'⟩:=r.get h2
  have hl:=r.length
  have hn:=nR
  have fin:EP X pins σ Q w s:=⟨z,H,I,rw',q⟩
  by_cases h0:0<=i
  · have hj:i.toNat=j:=by
      rw [seqIndex_of h0 h5] at h1
      exact CV h1
    exact item_listR pl.isList h0 (by omega) (by rw [hj];simpa using ew) fin hs
  · have hj:(i+(its.toArray.size:Int)).toNat=j:=by
      rw [seqIndex_neg (by omega) h4] at h1
      rw [Ct,<- hl]
      exact CV h1
    exact subscriptTail_builtinR (x:=w) pl.isList.typeIs slot_list_getitem.lookup
      (wpAny_getItem_list_neg (Q:=fun r s'=>r=w/\EP X pins σ Q r s') pl.isList (by omega) (by rw [Ct] <;> omega) (by omega) (by rw [hj];simpa using ew) ⟨rfl,fin⟩) hs
theorem BK:IxR X (vJ X.K):=by
  intro value slice pins s σ H x y v u Q I rx ry h hs
  obtain ⟨p,xs,i,z,rfl,rfl,hq,he,q⟩:=h
  cases rx
  obtain ⟨t,rfl⟩:=ry
  obtain ⟨its,r,pl,hz⟩:=I.tuple hq
  obtain ⟨j,h1,h2,h3,h4,h5⟩:=sM he
  obtain ⟨w,ew,rw'⟩:=r.get h2
  have hl:=r.length
  have hn:=nR
  have fin:EP X pins σ Q w s:=⟨z,H,I,rw',q⟩
  exact subscriptTail_builtinR (x:=w) pl.typeIs slot_tuple_getitem.lookup
    (getItem_tuple (j:=j) (Q:=fun r s'=>r=w/\EP X pins σ Q r s') pl (by omega) (by omega) (by rw [Ct,<- hl];exact h1) (by simpa using ew) ⟨rfl,fin⟩) hs
theorem qH (its:List Value) (n j:Nat) (u:Value):Obj.mapSeq (·.setIfInBounds j u) { cls:=.type "list",data:=.seq its.toArray n } = { cls:=.type "list",data:=.seq (its.set j u).toArray n }:=by
  simp [Obj.mapSeq]
theorem Inv.lst {pins:List (Addr × Obj)} {σ:St} {H:Hp} {s:Shared} {p:Addr} {xs:List V} (I:Inv X pins σ H s) (h:H p=some (.lst xs)) :
    ∃ (its:List Value) (n:Nat),Vals xs its/\s.heap.get? p=some { cls:=.type "list",data:=.seq its.toArray n }/\xs.length<=sizeLine:=by
  obtain ⟨z,its,n,r,e⟩:=I.hok p _ h
  exact ⟨its,n,r,e,z⟩
theorem Inv.lstUpd {pins:List (Addr × Obj)} {σ:St} {H:Hp} {s:Shared} {p:Addr} {xs ys:List V} {its its':List Value} {n n':Nat} {f:Obj->Obj} (I:Inv X pins σ H s) (h:H p=some (.lst xs))
    (ho:s.heap.get? p=some { cls:=.type "list",data:=.seq its.toArray n }) (hf:f { cls:=.type "list",data:=.seq its.toArray n } = { cls:=.type "list",data:=.seq its'.toArray n' }) (r:Vals ys its') (hz:ys.length<=sizeLine) (t:Nat) :
    Inv X pins σ (upd H p (.lst ys)) { s with heap:=s.heap.update p f,toks:=t }:=by
  have e:(s.heap.update p f).get? p=some { cls:=.type "list",data:=.seq its'.toArray n' }:=by
    rw [CA f ho (by rw [hf] <;> rfl),hf]
  refine I.write (x:=p) (e:=p) (by rw [h];trivial) (.inl rfl) (fun b u hb q=>(CL _ _ (Ne.symm hb)).trans q) ⟨_,e⟩ ?_
  exact ⟨hz,its',n',r,e⟩
noncomputable def rH:V->V->V->Hp->(Hp->Prop)->Prop:=fun o i v H Q=>∃ p xs k j,o=.ref p/\i=.int k/\H p=some (.lst xs)/\ixN xs.length k=some j/\Q (upd H p (.lst (xs.set j v)))
theorem vm:xz X rH:=by
  intro pins s σ H o i v ov iv u Q I ro ri rv h
  obtain ⟨p,xs,k,j,rfl,rfl,hp,hj,q⟩:=h
  cases ro
  obtain ⟨t,rfl⟩:=ri
  obtain ⟨its,n,r,ho,hz⟩:=I.lst hp
  obtain ⟨h1,h2,h3,h4⟩:=r9 hj
  have hl:=r.length
  have hn:=nR
  have I':Inv X pins σ (upd H p (.lst (xs.set j v))) { s with heap:=s.heap.update p (Obj.mapSeq (·.setIfInBounds j u)) } :=
    I.lstUpd hp ho (qH its n j u) (r.set rv j) (by rw [List.length_set];exact hz) s.toks
  by_cases h0:0<=k
  · have hk:k.toNat=j:=by
      rw [seqIndex_of h0 h4] at h1
      exact CV h1
    exact PySem.W.ki_setAt ho h0 (by omega) (by rw [Ct,<- hl];exact h4) (by rw [hk];exact ⟨_,I',q⟩)
  · have hk:(k+(its.toArray.size:Int)).toNat=j:=by
      rw [seqIndex_neg (by omega) h3] at h1
      rw [Ct,<- hl]
      exact CV h1
    exact PySem.W.ki_setBack ho (by omega) (by rw [Ct,<- hl];exact h3) (by omega) (by rw [hk];exact ⟨_,I',q⟩)
theorem nt (lo hi:Option Int) (n:Nat):(sliceBounds lo hi none n).1=((HT.sIx n 0 lo:Nat):Int)/\(sliceBounds lo hi none n).2.1=((HT.sIx n n hi:Nat):Int)/\(sliceBounds lo hi none n).2.2=1:=by
  refine ⟨?_,?_,rfl⟩
  · cases lo with
    | none=>simp [sliceBounds,HT.sIx]
    | some i =>
      simp only [sliceBounds,HT.sIx,Option.getD_none,show (1:Int) > 0 by decide,if_true]
      by_cases h:i < 0
      · simp only [h,if_true] <;> omega
      · simp only [h,if_false] <;> omega
  · cases hi with
    | none=>simp [sliceBounds,HT.sIx]
    | some i =>
      simp only [sliceBounds,HT.sIx,Option.getD_none,show (1:Int) > 0 by decide,if_true]
      by_cases h:i < 0
      · simp only [h,if_true] <;> omega
      · simp only [h,if_false] <;> omega
theorem mn (its:List Value) (lo hi:Option Int):slicePick its.toArray lo hi none=((its.drop (HT.sIx its.length 0 lo)).take (HT.sIx its.length its.length hi - HT.sIx its.length 0 lo)).toArray:=by
  obtain ⟨h1,h2,h3⟩:=nt lo hi its.toArray.size
  unfold slicePick
  rw [h1,h2,h3]
  simp only [sliceRange_one,pick_run,Ct] <;> rfl
noncomputable def A5 (K:FG):V->Option Int->Option Int->Hp->VK->Prop:=fun x lo hi H Q=>∃ a xs,x=.ref a/\SqL K H a xs/\∀ p,H p=none->Q (.ref p) (upd H p (.lst (pL xs lo hi)))
theorem sl_list:SlR X (A5 X.K):=by
  intro pins s σ H x v vl vu lo hi sl Q I rx hs pl pu h
  obtain ⟨a,xs,rfl,hx,q⟩:=h
  cases rx
  obtain ⟨its,r,ht,hz⟩:=I.list hx
  have hlen:=r.length
  refine ⟨"list",_,slot_list_getitem.lookup,ht.isList.typeIs,?_⟩
  refine wpAny_getItem_list_slice ht.isList hs pl pu .none (by simp) ?_ (by rw [Ct] <;> omega)
  rw [mn,<- hlen]
  refine ⟨.ref s.heap.objs.size,_,I.laid (t':=s.toks) (o:=.lst (pL xs lo hi)) (fun b ob q=>Ca _ q) (Cq _) ?_,rfl,q _ (I.hok.fresh (Cq _))⟩
  exact ⟨CO (kr xs lo hi) hz,_,0,(r.drop (HT.sIx xs.length 0 lo)).take (HT.sIx xs.length xs.length hi - HT.sIx xs.length 0 lo),Cj _ rfl⟩
theorem aK:CallR X (.builtin "len") (fun xs H Q=>∃ p ys,xs=[.ref p]/\(SqL X.K H p ys\/SqT X.K H p ys)/\Q (.int ys.length) H):=by
  intro pins s σ H xs us Q I r h
  obtain ⟨p,ys,rfl,hq,q⟩:=h
  obtain ⟨u,rfl,rx⟩:=iK r
  cases rx
  have hn:=nR
  rcases hq with hq | hq
  · obtain ⟨its,r',pl,hz⟩:=I.list hq
    have hlen:=r'.length
    exact Calls.call_len_list pl.isList (by simp only [Ct] <;> omega) ⟨.int ys.length,H,I.tok _,⟨s.toks+1,by rw [Ct,hlen]⟩,q⟩
  · obtain ⟨its,r',pl,hz⟩:=I.tuple hq
    have hlen:=r'.length
    exact len_tuple pl (by simp only [Ct] <;> omega) ⟨.int ys.length,H,I.tok _,⟨s.toks+1,by rw [Ct,hlen]⟩,q⟩
theorem CallR.or {f:Value} {r r':List V->Hp->VK->Prop} (h:CallR X f r) (h':CallR X f r'):CallR X f (fun xs H Q=>r xs H Q\/r' xs H Q):=by
  intro pins s σ H xs us Q I rs q
  rcases q with q | q
  · exact h pins s σ H xs us Q I rs q
  · exact h' pins s σ H xs us Q I rs q
theorem fJ:CallR X (.type "tuple") (fun xs H Q=>∃ p ys,xs=[.ref p]/\((SqL X.K H p ys/\∀ l,H l=none->Q (.ref l) (upd H l (.tup ys)))\/(SqT X.K H p ys/\Q (.ref p) H))):=by
  intro pins s σ H xs us Q I r h
  obtain ⟨p,ys,rfl,h⟩:=h
  obtain ⟨u,rfl,rx⟩:=iK r
  cases rx
  rcases h with ⟨hq,q⟩ | ⟨hq,q⟩
  · obtain ⟨its,r',pl,hz⟩:=I.list hq
    have hlen:=r'.length
    refine call_tuple_list pl.isList (fun h' kp=>?_) (by simp only [Ct] <;> omega)
    have I1:Inv X pins σ H { s with heap:=h' }:=I.kept (t':=s.toks) kp
    have I2:Inv X pins σ (upd H h'.objs.size (.tup ys)) { s with heap:=h'.push { cls:=.type "tuple",data:=.seq its.toArray } } :=
      I1.laid (t':=s.toks) (fun b o e=>Ca _ e) (Cq _) (show ObjOk X.prog X.w _ _ _ (.tup ys) from ⟨hz,its,r',IsTupD.new _ _⟩)
    exact ⟨.ref h'.objs.size,_,I2,rfl,q _ (I1.hok.fresh (Cq _))⟩
  · obtain ⟨its,r',pl,hz⟩:=I.tuple hq
    exact call_tuple_same pl ⟨.ref p,H,I,rfl,q⟩
noncomputable def tyV (K:FG) (T:String) (x:V) (H:Hp):Prop:=match x with
  | .str _=>T = "str"
  | .int _=>T = "int"
  | .ref p=>(T = "list"/\∃ xs,SqL K H p xs)\/(T = "tuple"/\((∃ o,K.lookup p=some o/\o.cls=.type "tuple"/\o.dict=none)\/∃ xs,H p=some (.tup xs))) \/
      (T = "dict"/\((∃ kvs,H p=some (.dK kvs))\/∃ kvs,H p=some (.dT kvs)))\/(T = "set"/\∃ S n,H p=some (.set S n))
  | _=>False
theorem u6 {pins:List (Addr × Obj)} {σ:St} {H:Hp} {s:Shared} {T:String} {x:V} {v:Value} (I:Inv X pins σ H s) (r:RelV x v) (ty:tyV X.K T x H) :
    s.TypeIs v T/\∀ a,v=.ref a->∃ ob,s.heap.get? a=some ob/\ob.dict=none:=by
  cases x with
  | str z =>
    obtain ⟨t,rfl⟩:=r
    cases (show T = "str" from ty)
    exact ⟨typeIs_str s z t,fun _ e=>nomatch e⟩
  | int i =>
    obtain ⟨t,rfl⟩:=r
    cases (show T = "int" from ty)
    exact ⟨typeIs_int s i t,fun _ e=>nomatch e⟩
  | ref p =>
    cases r
    rcases ty with ⟨rfl,xs,hq⟩ | ⟨rfl,⟨o,hk,hc,hd⟩ | ⟨xs,ht⟩⟩ | ⟨rfl,hk⟩ | ⟨rfl,S,n,hk⟩
    · obtain ⟨its,_,pl,_⟩:=I.list hq
      refine ⟨pl.isList.typeIs,fun a e=>?_⟩
      cases e
      obtain ⟨o,n,e,c,hd,_⟩:=pl
      exact ⟨o,e,hd⟩
    · refine ⟨⟨o,I.kIn p o hk,hc⟩,fun a e=>?_⟩
      cases e
      exact ⟨o,I.kIn _ o hk,hd⟩
    · obtain ⟨_,its,_,o,e,c,n,d⟩:=I.hok p _ ht
      refine ⟨⟨o,e,c⟩,fun a e2=>?_⟩
      cases e2
      exact ⟨o,e,congrArg Prod.snd d⟩
    · have z:∃ o,s.heap.get? p=some o/\o.ExactDict:=by
        rcases hk with ⟨kvs,hk⟩ | ⟨kvs,hk⟩
        · obtain ⟨_,_,_,_,o,_,_,e,ex,_⟩:=I.hok p _ hk
          exact ⟨o,e,ex⟩
        · obtain ⟨_,_,_,_,o,_,_,e,ex,_⟩:=I.hok p _ hk
          exact ⟨o,e,ex⟩
      obtain ⟨o,e,ex⟩:=z
      refine ⟨⟨o,e,ex.1⟩,fun a e2=>?_⟩
      cases e2
      exact ⟨o,e,ex.2.1⟩
    · obtain ⟨o,_,_,_,e,ex,_⟩:=I.hok p _ hk
      refine ⟨⟨o,e,ex.1⟩,fun a e2=>?_⟩
      cases e2
      exact ⟨o,e,ex.2.1⟩
  | _=>exact False.elim ty
noncomputable def tBM0 (K:FG) (T:String) (r:V->List V->Hp->VK->Prop) (to:TE):TE:=fun σ H Q=>to σ H fun x H1=>tyV K T x H1/\r x [] H1 Q
noncomputable def tBM (K:FG) (T:String) (r:V->List V->Hp->VK->Prop) (to:TE) (t:TA):TE:=fun σ H Q=>to σ H fun x H1=>tyV K T x H1/\t σ H1 fun xs H2=>r x xs H2 Q
variable {o e:Expr} {es:List Expr} {to:TE} {t:TA} {name:Str} {apos cpos:Pos} {T id:String} {r:V->List V->Hp->VK->Prop}
theorem Bq (pa:PlainAttrs T) (slot:Slot T name id) (hty:typeOf (.builtin id)=pure (.type "method_descriptor")) (hm:MtR X id r) (ho:PE X o to)
    (hbase:attributeBase o name X.env (eval o X.env)=eval o X.env:=by rfl) (hline:(apos.endLine == cpos.line)=true:=by rfl):PE X (.Call (.Attribute o name apos) [] [] cpos) (tBM0 X.K T r to):=by
  intro pins s σ H Q I h
  refine wpAny_Call_method0_late hbase hline (thn (ho pins s σ H _ I h) fun v s1 ⟨x,H1,I1,r1,ty,q1⟩=>?_)
  obtain ⟨h1,h2⟩:=u6 I1 r1 ty
  exact ⟨T,id,pa,slot,hty,h1,h2,Calls.callWith_builtin rfl (PySem.evalArgs_none (hm pins s1 σ H1 x [] v [] Q I1 r1 .nil q1))⟩
theorem pe_bm (pa:PlainAttrs T) (slot:Slot T name id) (hty:typeOf (.builtin id)=pure (.type "method_descriptor")) (hm:MtR X id r) (ho:PE X o to) (ha:PA X (e :: es) t)
    (hbase:attributeBase o name X.env (eval o X.env)=eval o X.env:=by rfl)
    (hfew:((backTo cpos (starEach (e :: es) X.env)).all (fun x=>!x.1) && (backToKw cpos (keywordEach [] X.env)).all (fun x=>x.1.isSome)
      && decide ((e :: es).length+([]:List Keyword).length+(if ([]:List Keyword).isEmpty then 0 else 1) < 30))=true:=by rfl)
    (hline:(apos.endLine == cpos.line)=true:=by rfl) (hs:starEach (e :: es) X.env=(false,eval e X.env) :: starEach es X.env:=by rfl) (hplain:(backTo cpos (starEach es X.env)).any (·.1)=false:=by rfl) :
    PE X (.Call (.Attribute o name apos) (e :: es) [] cpos) (tBM X.K T r to t):=by
  intro pins s σ H Q I h
  refine wpAny_Call_method_late hbase hfew hline rfl (thn (ho pins s σ H _ I h) fun v s1 ⟨x,H1,I1,r1,ty,q1⟩=>?_)
  obtain ⟨h1,h2⟩:=u6 I1 r1 ty
  refine ⟨T,id,pa,slot,hty,h1,h2,?_⟩
  have hA:=ha cpos pins s1 σ H1 _ I1 q1
  rw [hs] at hA ⊢
  refine Calls.callWith_builtin (by show (false || (backTo cpos (starEach es X.env)).any (·.1))=false;rw [hplain] <;> rfl) (Calls.evalArgs_plain ?_)
  exact thn hA fun us s2 ⟨vs,H2,I2,r2,q2⟩=>hm pins s2 σ H2 x vs v us Q I2 r1 r2 q2
end
end L2
namespace L2
open PySem PySem.Spec PyProof.Rows
noncomputable def MtM (X:Cx) (id:String) (r:V->List V->Hp->VK->Prop):Prop :=
  ∀ (pins:List (Addr × Obj)) (s:Shared) (σ:St) (H:Hp) (x:V) (xs:List V) (v:Value) (us:List Value) (Q:VK),Inv X pins σ H s->RelV x v->Vals xs us->r x xs H Q ->
    wpAny (model X.prog X.w) X.A (call (.builtin id) (v :: us)) (EP X pins σ Q) X.xe s
theorem Vals.one:∀ {x:V} {us:List Value},Vals [x] us->∃ u,us=[u]/\RelV x u
  | _,_,.cons r .nil=>⟨_,rfl,r⟩
theorem Vals.rep {xs:List V} {us:List Value} (h:Vals xs us):∀ k:Nat,Vals (List.replicate k xs).flatten (List.replicate k us).flatten
  | 0=>.nil
  | k+1=>by
    rw [List.replicate_succ,List.replicate_succ,List.flatten_cons,List.flatten_cons]
    exact Vals.append h (Vals.rep h k)
section
variable {X:Cx} {pins:List (Addr × Obj)} {σ:St} {H:Hp} {s:Shared} {l b:Addr} {xs ys zs:List V}
theorem Inv.lset {its its':List Value} {n:Nat} {f:Array Value->Array Value} {t':Nat} (I:Inv X pins σ H s) (hH:H l=some (.lst xs))
    (e:s.heap.get? l=some { cls:=.type "list",data:=.seq its.toArray n }) (hf:f its.toArray=its'.toArray) (hv:Vals ys its') (hz:ys.length<=sizeLine) :
    Inv X pins σ (upd H l (.lst ys)) { s with heap:=s.heap.update l (Obj.mapSeq f),toks:=t' }:=by
  have q:=PySem.IsL.update e f
  rw [hf] at q
  refine I.write (x:=l) (e:=l) (by rw [hH];exact trivial) (.inl rfl) (fun b' u hb hu=>(CL s.heap (Obj.mapSeq f) (Ne.symm hb)).trans hu) ⟨_,q⟩ ?_
  exact ⟨hz,its',_,hv,q⟩
theorem Inv.lnew {its:List Value} {t':Nat} (I:Inv X pins σ H s) (hv:Vals ys its) (hz:ys.length<=sizeLine) :
    Inv X pins σ (upd H s.heap.objs.size (.lst ys)) { s with heap:=s.heap.push { cls:=.type "list",data:=.seq its.toArray },toks:=t' } :=
  I.laid (fun _ _ q=>Ca _ q) (Cq _) ⟨hz,its,0,hv,Cj _ rfl⟩
theorem Inv.fresh (I:Inv X pins σ H s):H s.heap.objs.size=none:=I.hok.fresh (Cq _)
theorem Inv.lstM (I:Inv X pins σ H s) (hH:H l=some (.lst xs)):xs.length<=sizeLine/\∃ (its:List Value) (n:Nat),Vals xs its/\xs.length=its.length/\s.heap.get? l=some { cls:=.type "list",data:=.seq its.toArray n }:=by
  obtain ⟨z,its,n,r,e⟩:=I.hok l _ hH
  exact ⟨z,its,n,r,r.length,e⟩
theorem wc {n:Nat} (h:n<=sizeLine):Builtin.List.listTooLong n=false:=by
  unfold Builtin.List.listTooLong
  exact Cw (by omega)
end
section
variable {X:Cx}
noncomputable def rO:V->List V->Hp->VK->Prop:=fun x vs H Q=>∃ l xs y,x=.ref l/\vs=[y]/\H l=some (.lst xs)/\xs.length < sizeLine/\Q .non (upd H l (.lst (xs ++ [y])))
theorem jQ:MtM X "list.append" rO:=by
  intro pins s σ H x vs v us Q I rx rv h
  obtain ⟨l,xs,y,rfl,rfl,hH,hz,q⟩:=h
  cases rx
  obtain ⟨u,rfl,ru⟩:=rv.one
  obtain ⟨z,its,n,r,hl,e⟩:=I.lstM hH
  refine call_meets F.slot_list_append ⟨_,e,rfl⟩ F.entry_list_append (F.args_list_append_2 _ _) (PySem.list_append l its.toArray n u (by rw [Ct];omega)) ⟨e,?_⟩
  refine ⟨.non,_,I.lset (its':=its ++ [u]) hH e (by simp) (r.append (.cons ru .nil)) ?_,rfl,q⟩
  rw [CB,List.length_singleton]
  omega
noncomputable def rL:V->List V->Hp->VK->Prop:=fun x vs H Q=>∃ l b xs zs,x=.ref l/\vs=[.ref b]/\H l=some (.lst xs)/\H b=some (.lst zs)/\xs.length+zs.length<=sizeLine/\Q .non (upd H l (.lst (xs ++ zs)))
theorem mR:MtM X "list.extend" rL:=by
  intro pins s σ H x vs v us Q I rx rv h
  obtain ⟨l,b,xs,zs,rfl,rfl,hH,hB,hz,q⟩:=h
  cases rx
  obtain ⟨u,rfl,ru⟩:=rv.one
  cases ru
  obtain ⟨z,its,n,r,hl,e⟩:=I.lstM hH
  obtain ⟨z2,its2,n2,r2,hl2,e2⟩:=I.lstM hB
  have hsz:its.toArray.size+its2.toArray.size<=sizeLine:=by rw [Ct,Ct];omega
  have hlong:¬ (!its.toArray.isEmpty && Builtin.List.listTooLong (its.toArray.size+its2.toArray.size))=true:=by
    rw [wc hsz,Bool.and_false]
    exact Cr
  refine call_meets F.slot_list_extend ⟨_,e,rfl⟩ F.entry_list_extend (F.args_list_extend_2 _ _)
    (AutoSeq1.list_extend_list_list_0 l its.toArray n b its2.toArray n2 hlong (by rw [Ct];omega) (by omega)) ⟨e,e2,?_⟩
  refine ⟨.non,_,I.lset (its':=its ++ its2) hH e (by simp) (r.append r2) ?_,rfl,q⟩
  rw [CB]
  omega
noncomputable def yy:R2:=fun x y H Q=>∃ l b xs zs,x=.ref l/\y=.ref b/\H l=some (.lst xs)/\H b=some (.lst zs)/\xs.length+zs.length<=sizeLine/\∀ p,H p=none->Q (.ref p) (upd H p (.lst (xs ++ zs)))
theorem Bu:OpR X (binaryOp .Add) yy:=by
  intro pins s σ H x y v u Q I rx ry h
  obtain ⟨l,b,xs,zs,rfl,rfl,hH,hB,hz,q⟩:=h
  cases rx
  cases ry
  obtain ⟨z,its,n,r,hl,e⟩:=I.lstM hH
  obtain ⟨z2,its2,n2,r2,hl2,e2⟩:=I.lstM hB
  refine PySem.P.add_list e e2 ?_ (by rw [Ct,Ct];omega)
  have ea:its.toArray ++ its2.toArray=(its ++ its2).toArray:=by simp
  rw [ea]
  exact ⟨.ref _,_,I.lnew (t':=s.toks) (r.append r2) (by rw [CB];omega),rfl,q _ I.fresh⟩
end
end L2
namespace Att
open PySem PySem.W PySem.Calls PyProof.Rows
theorem kD {P:Params} {h:Heap}:∀ (ns:List Int) (vs:List Value),WellAll P h vs (ns.map WData.int)->IntsAre vs ns:=by
  intro ns
  induction ns with
  | nil =>
    intro vs w
    rw [List.map_nil] at w
    cases w
    exact .nil
  | cons n ns ih =>
    intro vs w
    rw [Cu] at w
    cases w with
    | cons a b =>
      cases a
      exact .cons _ _ (ih _ b)
theorem sX {l:OpenLaw} {n:Nat} (hn:l.most=some n) {P:Params} {h:Heap} {args:List WData} {vals:List Value}
    (hpre:l.row.toRowW.claim.pre args=true) (hwl:WellAll P h vals args) :
    ∃ a vs ns,vals=[Value.ref a]/\args=[WData.list (ns.map WData.int)]/\h.get? a=some { cls:=.type "list",data:=.seq vs.toArray }/\IntsAre vs ns/\ns.length<=n:=by
  have hsh:WShape.hasAll [] args [.list .int]=true:=(pre_splitW hpre).1
  have hc:l.pre.holds [] { args:=args }=true:=(pre_splitW hpre).2
  obtain ⟨d,r,rfl,h1,h2⟩:=hasAllW_cons hsh
  obtain rfl:=hasAllW_nil h2
  obtain ⟨xs,rfl,h3⟩:=hasW_list h1
  obtain ⟨ns,rfl⟩:=items_int h3
  have hlen:ns.length<=n:=by
    unfold OpenLaw.pre at hc
    have h4:(WTm.not (.lt (.lit (.int (n:Int))) (.len (.arg 0)))).holds [] { args:=[.list (ns.map .int)] }=true:=by
      have h4:=(holds_andW hc).1
      rw [hn] at h4
      exact h4
    have h5:=condW_of h4 (w_not (w_lt w_lit (w_len_list (w_arg rfl))))
    rw [Ck] at h5
    refine Nat.le_of_not_lt fun q=>?_
    have q':(n:Int) < ((ns.length:Nat):Int):=by omega
    first
      | (rw [Cv q'] at h5;exact absurd h5 (by decide))
      | (simp at h5;omega)
  cases hwl with
  | cons w1 w2 =>
    cases w2
    cases w1 with
    | list ho hall=>exact ⟨_,_,ns,rfl,rfl,ho,kD ns _ hall,hlen⟩
theorem tF (l:OpenLaw) (args:List WData):l.row.toRowW.claim.post args (.bool true) args=true :=
  postW_of (r:=l.row.toRowW) (X:=(true == true))
    (show WShape.has [] (.bool true) .bool=true by first | rfl | decide | simp [WShape.has,WShape.arms,WShape.armsAll])
    (show (WTm.eq .res (.lit (.bool true))).value [] { args:=args,res:=some (.bool true),after:=args }=some (.bool (true == true)) from w_eq_bool (w_res rfl) w_lit) rfl
theorem attach_call {l:OpenLaw} {n:Nat} {q:Program} {loose:List Str} {XP:(Str->Option Value)->Heap->Prop} {YP:World->Heap->Prop} {d:DefRec}
    (hn:l.most=some n) (hdf:d.params.defaults=[])
    (call:∀ (w:World) (s₀ s₁:Shared) (mg mb:Str->Option Value) (fa:Addr) (o:Obj) (pm cd doc:Value) (a:Addr) (vs:List Value) (ns:List Int),
      Ground q loose [] XP w s₀ mg mb s₁.heap->YP w s₁.heap ->
      s₁.heap.get? fa=some o->o.data=.func (docDef d.name d.params d.body d.scope pm cd doc)->s₁.heap.CodeRec cd d.name->mg d.name=some (.ref fa) ->
      s₁.heap.get? a=some { cls:=.type "list",data:=.seq vs.toArray }->IntsAre vs ns->ns.length<=n->s₁.gens = #[] ->
      codeAny (model l.prog w) callerA (.call (.ref fa) ⟨[.ref a],[]⟩) (fun r s'=>r=.ok (.ret (.bool true))/\OldK s₁.heap s'.heap/\s'.os=s₁.os/\AllBare s'.gens) s₁) :
    WalkO q loose XP YP l.row.toRowW d [] (fun f vs=>PySem.call f vs):=by
  intro w s₀ s₁ mg mb G Y fa o pm cd doc dV kV ho hd hcd hD hmg hg args vals as hpre hlay hrd hwl hlo
  obtain rfl:dV=.none:=Dflts.none hD hdf
  obtain rfl:kV=.none:=Dflts.noKw hD
  obtain ⟨a,vs,ns,rfl,rfl,hobj,hints,hlen⟩:=sX hn hpre hwl
  refine enter_call (codeAny_mono (call w s₀ s₁ mg mb fa o pm cd doc a vs ns G Y ho (fd_plain hd) hcd hmg hobj hints hlen hg) fun r s' hq=>?_)
  obtain ⟨rfl,h2,h3,h4⟩:=hq
  exact ⟨.inl ⟨.bool true,.bool true,[],rfl,fun _=>rfl,.bool true,tF l _,fun _=>⟨List.Pairwise.nil,fun _ hm=>(nomatch hm)⟩⟩,h2,h3,h4⟩
end Att
namespace L2
open PySem PySem.Spec PyProof.Rows
theorem mz:∀ {vs:List Value} {ns:List Int},IntsAre vs ns->Vals (ns.map V.int) vs
  | _,_,.nil=>.nil
  | _,_,.cons n t h=>.cons ⟨t,rfl⟩ (mz h)
noncomputable def zU (H:Hp):Prop:=∀ b,H b=none\/∃ o xs,H b=some (.frz o (.lst xs))
set_option tactic.hygienic true in
theorem wE {P:Program} {w:World} {K:FG} {mg mb:Str->Option Value} {CX:CXT} {k:Nat} {fa a:Addr} {fd:FuncData} {x:Str} {sp:Sp} {s₁:Shared} {vs:List Value} {ns:List Int}
    (KX:K.In s₁.heap) (hns:s₁.heap.Ns mainGlobals mg) (hb:s₁.heap.Ns builtinsNs mb) (hbb:∀ x:Str,x ≠ "__name__"->mb x=bootBuiltins x) (hlim:s₁.heap.NoLimit) (hg:s₁.gens = #[])
    (ha:s₁.heap.get? a=some { cls:=.type "list",data:=.seq vs.toArray }) (hi:IntsAre vs ns) (hl:ns.length<=sizeLine) (hr:Room k callerA)
    (F:∀ base:Heap,K.In base->base.Ns mainGlobals mg->FnOk P w K mg base CX k fa fd [x] sp) (hbind:∀ (s:Shared) (u:Value),BindsTo s fd ⟨[u],[]⟩ [(x,u)])
    (hsp:∀ H:Hp,zU H->SqL K H a (ns.map V.int)->sp [.ref a] H (fun v _=>v=.bl true) fun _ _ _=>False)
    (hCX:∀ H e s',CX [] H s₁ (fun _ _ _=>False) e s'->False) :
    codeAny (model P w) callerA (.call (.ref fa) ⟨[.ref a],[]⟩) (fun r s'=>r=.ok (.ret (.bool true))/\OldK s₁.heap s'.heap/\s'.os=s₁.os/\AllBare s'.gens) s₁:=by
  have rv:=mz hi
  have lenV:=hi.length
  have core:∀ H:Hp,zU H->SqL K H a (ns.map V.int)->HOk P w H s₁.heap->(∀ b,H b ≠ none->b=a)->(H a ≠ none->K.lookup a=none) ->
      codeAny (model P w) callerA (.call (.ref fa) ⟨[.ref a],[]⟩) (fun r s'=>r=.ok (.ret (.bool true))/\OldK s₁.heap s'.heap/\s'.os=s₁.os/\AllBare s'.gens) s₁:=by
    intro H hO hS hok hA hK
    have base_of:∀ {b:Addr} {o:Obj},s₁.heap.get? b=some o->H b=none->(nY s₁.heap H).get? b=some o:=fun e n=>wO e n
    have noA:∀ {b:Addr} {o:Obj} {es:Array DictEntry} {ep:Nat},s₁.heap.get? b=some o->o.data=.dict es ep->H b=none:=fun {b o es ep} e d=>by
      cases q:H b with
      | none=>rfl
      | some u =>
        have e':b=a:=hA b (by rw [q];simp)
        subst e'
        rw [ha] at e;cases e
        have d':Data.seq vs.toArray _=Data.dict es ep:=d
        cases d'
    have nsK:∀ {b:Addr} {m:Str->Option Value},s₁.heap.Ns b m->(nY s₁.heap H).Ns b m:=fun {b m} ⟨o,es,ep,e,d,r⟩=>⟨o,es,ep,base_of e (noA e d),d,r⟩
    have hKb:K.In (nY s₁.heap H):=fun b o e=>base_of (KX b o e) (by
      cases q:H b with
      | none=>rfl
      | some u =>
        have e':b=a:=hA b (by rw [q];simp)
        subst e'
        rw [hK (by rw [q];simp)] at e;cases e)
    have hM:Mod K mg (nY s₁.heap H):=⟨hKb,nsK hns,⟨mb,nsK hb,hbb⟩,let ⟨mc,h1,h2⟩:=hlim;⟨mc,nsK h1,h2⟩⟩
    have e0:Env0 P w K mg (nY s₁.heap H) callerA [] s₁ H:=⟨rfl,hM,fun b o e=>yX e,Nat.le_of_eq (uh _ _),trivial,fun b hb=>absurd (show b ∈ ([]:List Addr) from hb) (by simp),hok,.of_eq hg⟩
    refine codeAny_mono ((F _ hKb (nsK hns)).run callerA [] s₁ H ⟨[.ref a],[]⟩ [.ref a] [.ref a] _ _ hr e0 (hbind s₁ (.ref a)) (.cons rfl .nil) (hsp H hO hS)) fun r s' h=>?_
    cases r with
    | error e=>exact (hCX H e s' h).elim
    | ok fl =>
      cases fl with
      | next=>exact False.elim h
      | brk=>exact False.elim h
      | cont=>exact False.elim h
      | ret u =>
        obtain ⟨v,H',os,bare,un,hok',r',q⟩:=h
        have q':v=.bl true:=q
        subst q'
        obtain rfl:u=Value.bool true:=r'
        refine ⟨rfl,OldK.of_keep fun b o e=>?_,os,bare⟩
        cases q:H b with
        | none=>exact un.keep b o e q (by intro z;exact absurd (show b ∈ ([]:List Addr) from z) (by simp)) (by simp)
        | some u =>
          rcases hO b with z | ⟨ob,xs,z⟩
          · rw [q] at z;cases z
          · have z2:=un.frzs b ob _ z
            obtain ⟨e1,_⟩:=hok b _ z
            obtain ⟨e2,_⟩:=hok' b _ z2
            rw [e] at e1;cases e1
            exact e2
  cases hk:K.lookup a with
  | some o =>
    have e:=KX a o hk
    rw [ha] at e
    cases e
    refine core (fun _=>none) (fun _=>.inl rfl) (.inr ⟨_,vs.toArray,_,hk,rfl,rfl,rfl,by rw [Ct,lenV];exact hl,by simpa using rv⟩) (fun b u z=>by have z':(none:Option HO)=some u:=z;cases z') (fun b z=>absurd rfl z) fun z=>absurd rfl z
  | none =>
    refine core (fun b=>if b=a then some (.frz { cls:=.type "list",data:=.seq vs.toArray } (.lst (ns.map V.int))) else none) (fun b=>?_) (.inl (.inr ⟨{ cls:=.type "list",data:=.seq vs.toArray },if_pos rfl⟩)) (fun b u z=>?_) (fun b z=>?_) fun _=>hk
    · by_cases hb:b=a
      · exact .inr ⟨_,_,if_pos hb⟩
      · exact .inl (if_neg hb)
    · by_cases hb:b=a
      · have z':=(if_pos hb).symm.trans z
        cases z'
        subst hb
        exact ⟨ha,by rw [Ck];exact hl,vs,_,rv,ha⟩
      · have z':=(if_neg hb).symm.trans z
        cases z'
    · by_cases hb:b=a
      · exact hb
      · exact absurd (if_neg hb) z
end L2
namespace L2
open PySem PySem.Spec PyProof.Rows
end L2
namespace L2
open PySem PySem.Spec PyProof.Rows
noncomputable abbrev CX0:CXT:=fun _ _ _ _ _ _=>False
noncomputable abbrev E0:XK:=fun _ _ _=>False
theorem pass0 {X:Cx}:rp CX0 X E0:=fun _ _ _ _ _ _ _ h=>h.elim
structure Fun (K:FG) (x qual:Str) (st:Stmt) (f:Addr) (fd:FuncData):Prop where
  ex:∃ (oc:Value) (od:Option Addr) (kV doc pm:Value) (an:Option Addr) (cdv ct:Value) (osl:Array (Option Value)),
    fd=PySem.W.fnOf x qual (bD st) (ba st) (al st) .none kV doc pm an cdv ct/\K.lookup f=some ⟨oc,od,.func fd,osl⟩/\PySem.W.codeIn K cdv qual=true
  kp:PySem.W.keepIn K (.ref f)=true
section
variable {P:Program} {w:World} {K:FG} {mg:Str->Option Value} {base:Heap}
theorem Fun.ok {x qual:Str} {st:Stmt} {f:Addr} {fd:FuncData} {N ps:List Str} {k:Nat} {sp:Sp} (F:Fun K x qual st f fd) (S:FnScope N ps (al st)) (len:∀ vs H Q E,sp vs H Q E->vs.length=ps.length)
    (hbody:∀ (cdv:Value) (A:Around) (outer:List Env) (s:Shared) (H:Hp) (vs:List V) (Q:VK) (E:XK),Room k (A.deeper (envOfC qual (al st) s.heap.objs.size f cdv))->sp vs H Q E ->
      ∃ t,PSs (pK CX0 P w K mg base N qual (al st) f cdv A outer s H E).nox (ba st) t/\t { nx:=fun _ H'=>Q .non H',rt:=Q } (kb N vs) H):FnOk P w K mg base CX0 (k+1) f fd ps sp:=by
  obtain ⟨oc,od,kV,doc,pm,an,cdv,ct,osl,rfl,lk,hcd⟩:=F.ex
  refine fn_of lk hcd S len fun A outer s H vs Q E hr hsp=>?_
  obtain ⟨t,h,q⟩:=hbody cdv A outer s H vs Q E hr hsp
  exact ⟨t,h.nox,q⟩
theorem Fun.binds {x qual:Str} {st:Stmt} {f:Addr} {fd:FuncData} {ps:List Str} (F:Fun K x qual st f fd)
    (h:∀ (kV doc pm:Value) (an:Option Addr) (cdv ct:Value) (us:List Value),us.length=ps.length->bindArgs (PySem.W.fnOf x qual (bD st) (ba st) (al st) .none kV doc pm an cdv ct) ⟨us,[]⟩=pure (ps.zip us)):Binds K fd ps []:=by
  obtain ⟨oc,od,kV,doc,pm,an,cdv,ct,osl,rfl,lk,hcd⟩:=F.ex
  exact .all (h kV doc pm an cdv ct)
theorem BN {x qual:Str} {st:Stmt} {f:Addr} {oc:Value} {od an:Option Addr} {osl:Array (Option Value)} {kV doc pm cdv ct:Value} (l:K.lookup f=some ⟨oc,od,.func (PySem.W.fnOf x qual (bD st) (ba st) (al st) .none kV doc pm an cdv ct),osl⟩)
    (c:PySem.W.codeIn K cdv qual=true) (k:PySem.W.keepIn K (.ref f)=true):Fun K x qual st f (PySem.W.fnOf x qual (bD st) (ba st) (al st) .none kV doc pm an cdv ct):=⟨⟨oc,od,kV,doc,pm,an,cdv,ct,osl,rfl,l,c⟩,k⟩
end
theorem hu_of {A:Around} {k:Nat} (hr:Room k A):A.units+1 < cLine:=Nat.lt_of_le_of_lt (Nat.add_le_add_left (by decide:1<=64) _) hr.units
noncomputable def Same (H H':Hp):Prop:=∀ b o,H b=some o->H' b=some o
theorem Same.refl (H:Hp):Same H H:=fun _ _ h=>h
theorem Same.trans {H H1 H2:Hp} (a:Same H H1) (b:Same H1 H2):Same H H2:=fun c o h=>b c o (a c o h)
theorem Same.free {H H':Hp} (e:Same H H') {l:Addr} (h:H' l=Option.none):H l=Option.none:=by
  cases q:H l with
  | none=>rfl
  | some o =>
    rw [e l o q] at h
    cases h
end L2
end
section
namespace L2
open PySem PySem.Spec PyProof.Rows
section
variable {prog:Program} {w:World} {A:Around} {E:Value->Shared->Prop} {s:Shared}
theorem oM {d:Addr} {k v:Value} {Q:Unit->Shared->Prop} (ty:s.TypeIs (.ref d) "dict") (h:wpAny (model prog w) A.in1 (dictSet d k v) Q E s) :
    wpAny (model prog w) A (setItem (.ref d) k v) Q E s:=by
  unfold setItem
  refine B7 (B5 (wpAny_sequenceKey ty (by decide) (B5 (wpAny_callSpecial?_slot ty slot_dict_setitem (wpAny_call_entry slot_dict_setitem ty entry_dict_setitem ?_ (args_dict_setitem _ _ _))))))
  refine B5 (wpAny_notOrdered_dict ty ?_)
  refine (?_:wpAny _ _ (dictSet d k v >>= _) _ _ s)
  exact B5 (wpAny_mono h (fun _ _ z=>B6 ⟨_,rfl,B6 z⟩) fun _ _ z=>z)
theorem mH {d:Addr} {key v:Value} {hs:Int} {o:Obj} {es:Array DictEntry} {ep:Nat} {F:Option Nat->Prop} {Q:Unit->Shared->Prop} (ho:s.heap.get? d=some o) (hc:o.ExactDict) (hd:o.data=.dict es ep) (hz:es.size<=sizeLine)
    (find:wpAny (model prog w) A (dictFind d key hs) (fun r s'=>s'=s/\F r) E s)
    (old:∀ i h' o',F (some i)->h'.get? d=some o'->o'.ExactDict->o'.data=.dict (es.modify i fun e=>{ e with val:=v }) ep->Heap.SameBut d s.heap h'->Q () { s with heap:=h' })
    (new:∀ h' o',F none->h'.get? d=some o'->o'.ExactDict->o'.data=.dict (es.push ⟨hs,key,v⟩) (ep+1)->Heap.SameBut d s.heap h'->Q () { s with heap:=h' }) :
    wpAny (model prog w) A (dictSetHashed d key hs v) Q E s:=by
  unfold dictSetHashed
  refine B7 (B5 (wpAny_mono find ?_ fun _ _ z=>z))
  rintro (_ | i) _ ⟨rfl,f⟩
  · exact B5 (wpAny_rule (wpAny_updateDictKeys (hz:=hz) ho hd (new _ _ f (CA _ ho (Obj.isFreed_of_dict (Obj.data_mapDictKeys hd _))) (hc.mapDictKeys _) (Obj.data_mapDictKeys hd _) (Heap.SameBut.update ..))))
  · exact B5 (wpAny_rule (B5 (wpAny_updateDict ho hd (wpAny_point (old i _ _ f (CA _ ho (Obj.isFreed_of_dict (Obj.data_mapDict hd _))) (hc.mapDict _) (Obj.data_mapDict hd _) (Heap.SameBut.update ..))))))
end
section
variable {prog:Program} {w:World} {K:Type} [DecidableEq K] {A:Around} {E:Value->Shared->Prop} {s:Shared} {d:Addr} {k:K}
section
variable {knd:HeapKind prog w K}
noncomputable def DictOfHE (knd:HeapKind prog w K) (h:Heap) (d:Addr) (xs:List (K × Addr × Value)):Prop :=
  ∃ o es ep,h.get? d=some o/\o.ExactDict/\o.data=.dict es ep/\es.toList=xs.map (entryOfKey knd)/\(∀ x ∈ xs,knd.is h x.1 x.2.1)/\(xs.map (·.1)).Nodup/\ep=es.size
theorem DictOfHE.of {h:Heap} {d:Addr} {xs:List (K × Addr × Value)} (x:DictOfHE knd h d xs):h.DictOfH knd d xs:=let ⟨o,es,ep,h1,h2,h3,h4,h5,h6,_⟩:=x;⟨o,es,ep,h1,h2,h3,h4,h5,h6⟩
theorem tN {xs:List (K × Addr × Value)} {y:Addr × Value} (hn:(xs.map (·.1)).Nodup) (h:k ∉ xs.map (·.1)):((xs ++ [(k,y)]).map (·.1)).Nodup:=by
  rw [List.map_append]
  exact List.nodup_append.mpr ⟨hn,List.nodup_cons.mpr ⟨List.not_mem_nil,List.nodup_nil⟩,fun x hx y hy e=>h (by have:=CH.mp hy;subst this;exact e ▸ hx)⟩
theorem iR {a:Addr} {xs:List (K × Addr × Value)} {v:Value} {Q:Unit->Shared->Prop} (hu:knd.room A) (hkey:knd.is s.heap k a) (hm:DictOfHE knd s.heap d xs)
    (hQ:∀ h',DictOfHE knd h' d (storedH xs k a v)->Heap.SameBut d s.heap h'->Q () { s with heap:=h',toks:=s.toks+knd.draws k })
    (hsz:xs.length<=sizeLine:=by size_fits):wpAny (model prog w) A (dictSet d (.ref a) v) Q E s:=by
  obtain ⟨o,es,ep,ho,hc,hd,he,his,hn,rfl⟩:=hm
  unfold dictSet
  refine B7 (B5 (knd.pyHash hu hkey ?_))
  refine mH (s:={ s with toks:=s.toks+knd.draws k }) (F:=fun | none=>∀ (j:Nat) (p:Addr × Value),xs[j]? ≠ some (k,p) | some j=>∃ p,xs[j]?=some (k,p)) ho hc hd (size_of_entries he ▸ hsz)
    (wpAny_dictFind_heap (s:={ s with toks:=s.toks+knd.draws k }) hu hkey ho hd he his hn (fun z=>⟨rfl,z⟩) fun j p z=>⟨rfl,p,z⟩) ?_ ?_
  · rintro i h' o' ⟨p,f⟩ g1 g2 g3 g4
    have at':=storedH_old (atKey_of_get hn f) a v
    refine hQ h' ⟨o',_,_,g1,g2,g3,?_,?_,?_,?_⟩ g4 <;> try rw [at']
    · rw [Array.toList_modify,he]
      exact modify_map_putAt (entryOfKey knd) _ k v (fun _ _=>rfl) hn f
    · intro x hx
      obtain ⟨y,hy,rfl⟩:=Co.mp hx
      have:=knd.keeps (his y hy) ho hd g4
      by_cases e:y.1=k <;> simpa [putAt,e] using this
    · exact (keys_map_putAt xs k v).symm ▸ hn
    · exact (Array.size_modify).symm
  · intro h' o' f g1 g2 g3 g4
    have at':=storedH_new (atKey_none_of_get f) a v
    refine hQ h' ⟨o',_,_,g1,g2,g3,?_,?_,?_,?_⟩ g4 <;> try rw [at']
    · simp [he,entryOfKey]
    · intro x hx
      rcases Ci.mp hx with hx | hx
      · exact knd.keeps (his x hx) ho hd g4
      · cases CH.mp hx;exact knd.keeps hkey ho hd g4
    · exact tN hn (not_mem_keys_of_get f)
    · simp
theorem mo {a:Addr} {xs:List (K × Addr × Value)} {v:Value} {Q:Unit->Shared->Prop} (hu:knd.room A.in1) (hkey:knd.is s.heap k a) (hm:DictOfHE knd s.heap d xs)
    (hQ:∀ h',DictOfHE knd h' d (storedH xs k a v)->Heap.SameBut d s.heap h'->Q () { s with heap:=h',toks:=s.toks+knd.draws k })
    (hsz:xs.length<=sizeLine:=by size_fits):wpAny (model prog w) A (setItem (.ref d) (.ref a) v) Q E s :=
  oM hm.of.typeIs (iR (hsz:=hsz) hu hkey hm hQ)
end
section
variable {knd:KeyKind prog w K} {key:Value}
theorem l6 {kvs:List (K × Value)} {v:Value} {Q:Unit->Shared->Prop} (hkey:knd.is k key=true) (hm:DictOfE knd s.heap d kvs)
    (hQ:∀ h',DictOfE knd h' d (stored kvs k v)->Heap.SameBut d s.heap h'->Q () { s with heap:=h',toks:=s.toks+1 })
    (hsz:kvs.length<=sizeLine:=by size_fits):wpAny (model prog w) A (dictSet d key v) Q E s:=by
  obtain ⟨o,⟨es⟩,ep,ho,hc,hd,hk,hp,hn,rfl⟩:=hm
  have same:=hp.findIdx k
  have hz:(⟨es⟩:Array DictEntry).size<=sizeLine:=by have:=hp.length;simp at this ⊢;omega
  unfold dictSet
  refine B7 (B5 (knd.pyHash hkey ?_))
  refine mH (s:={ s with toks:=s.toks+1 }) (F:=fun r=>es.findIdx? (fun e=>knd.is k e.key)=r) ho hc hd hz
    (wpAny_dictFind_of (s:={ s with toks:=s.toks+1 }) hkey ho hd hk ⟨rfl,by simp⟩) ?_ ?_
  · intro i h' o' f g1 g2 g3 g4
    have at':stored kvs k v=_:=if_pos (any_of_findIdx_some (same.symm.trans f))
    refine hQ h' ⟨o',_,_,g1,g2,g3,hk.modify _ _,?_,?_,(Array.size_modify).symm⟩ g4 <;> rw [at']
    · simpa using hp.modify hn f v
    · exact (keys_map_store kvs k v).symm ▸ hn
  · intro h' o' f g1 g2 g3 g4
    have no:=not_mem_of_findIdx_none (same.symm.trans f)
    have at':stored kvs k v=_:=if_neg fun z=>by
      obtain ⟨x,hx,e⟩:=List.any_eq_true.mp z
      exact no (Co.mpr ⟨x,hx,of_decide_eq_true e⟩)
    refine hQ h' ⟨o',_,_,g1,g2,g3,hk.push hkey _,?_,?_,by simp⟩ g4 <;> rw [at']
    · simpa using hp.append hkey (knd.hash k) v
    · rw [List.map_append]
      exact List.nodup_append.mpr ⟨hn,List.nodup_cons.mpr ⟨List.not_mem_nil,List.nodup_nil⟩,fun x hx y hy e=>no (by cases CH.mp hy;have e':x=k:=e;exact e' ▸ hx)⟩
theorem lc {kvs:List (K × Value)} {v:Value} {Q:Unit->Shared->Prop} (hkey:knd.is k key=true) (hm:DictOfE knd s.heap d kvs)
    (hQ:∀ h',DictOfE knd h' d (stored kvs k v)->Heap.SameBut d s.heap h'->Q () { s with heap:=h',toks:=s.toks+1 })
    (hsz:kvs.length<=sizeLine:=by size_fits):wpAny (model prog w) A (setItem (.ref d) key v) Q E s :=
  oM hm.of.typeIs (l6 (hsz:=hsz) hkey hm hQ)
end
end
section
variable {κ:Type} [DecidableEq κ]
noncomputable def ku (kvs:List (κ × V)) (k:κ):Option V:=(kvs.find? fun kv=>decide (kv.1=k)).map (·.2)
noncomputable def gi (kvs:List (κ × V)) (k:κ) (v:V):List (κ × V) :=
  if (kvs.any fun kv=>decide (kv.1=k))=true then kvs.map (fun kv=>if kv.1=k then (kv.1,v) else kv) else kvs ++ [(k,v)]
theorem i8 {p:κ × V} {r:List (κ × V)} {k:κ} (e:p.1=k):ku (p :: r) k=some p.2:=by simp [ku,List.find?_cons,e]
theorem i9 {p:κ × V} {r:List (κ × V)} {k:κ} (e:¬ p.1=k):ku (p :: r) k=ku r k:=by simp [ku,List.find?_cons,e]
theorem oD (k:κ):∀ kvs:List (κ × V),(kvs.any fun kv=>decide (kv.1=k))=(ku kvs k).isSome
  | []=>rfl
  | p :: r=>by
    rw [List.any_cons]
    by_cases e:p.1=k
    · simp only [i8 e,Cv e,Bool.true_or,Option.isSome_some]
    · rw [i9 e,Cw e,Bool.false_or];exact oD k r
theorem km (kvs:List (κ × V)) (k:κ) (v:V):(gi kvs k v).length<=kvs.length+1:=by
  unfold gi
  split
  · rw [Ck];omega
  · rw [CB,CC,List.length_nil];omega
theorem RelO.isSome_eq {o:Option V} {u:Option Value} (r:RelO o u):o.isSome=u.isSome:=by
  cases o with
  | none=>cases u with
    | none=>rfl
    | some _=>exact (show False from r).elim
  | some _=>cases u with
    | none=>exact (show False from r).elim
    | some _=>rfl
theorem RelO.getD {o:Option V} {u:Option Value} {d:V} {d':Value} (r:RelO o u) (rd:RelV d d'):RelV (o.getD d) (u.getD d'):=by
  cases o with
  | none=>cases u with
    | none=>exact rd
    | some _=>exact (show False from r).elim
  | some _=>cases u with
    | none=>exact (show False from r).elim
    | some _=>exact r
theorem KV.val {kvs:List (κ × V)} {vs:List (κ × Value)} (r:KV kvs vs) (k:κ):RelO (ku kvs k) (valueAt vs k):=by
  unfold KV at r
  induction r with
  | nil=>exact True.intro
  | @cons p q ps qs h t ih =>
    obtain ⟨h1,h2⟩:=h
    by_cases e:p.1=k
    · have e':q.1=k:=h1.symm.trans e
      have b:valueAt (q :: qs) k=some q.2:=by simp [valueAt,List.find?_cons,e']
      rw [i8 e,b];exact h2
    · have e':¬ q.1=k:=fun z=>e (h1.trans z)
      have b:valueAt (q :: qs) k=valueAt qs k:=by simp [valueAt,List.find?_cons,e']
      rw [i9 e,b];exact ih
theorem KV.any {kvs:List (κ × V)} {vs:List (κ × Value)} (r:KV kvs vs) (k:κ):(kvs.any fun kv=>decide (kv.1=k))=vs.any fun kv=>decide (kv.1=k):=by
  unfold KV at r
  induction r with
  | nil=>rfl
  | cons h t ih=>rw [List.any_cons,List.any_cons,ih,h.1]
theorem KV.repl {kvs:List (κ × V)} {vs:List (κ × Value)} (r:KV kvs vs) (k:κ) {y:V} {u:Value} (ry:RelV y u) :
    KV (kvs.map fun kv=>if kv.1=k then (kv.1,y) else kv) (vs.map fun kv=>if kv.1=k then (kv.1,u) else kv):=by
  unfold KV at r ⊢
  induction r with
  | nil=>exact .nil
  | @cons p q ps qs h t ih =>
    rw [Cu,Cu]
    refine .cons ?_ ih
    obtain ⟨h1,h2⟩:=h
    by_cases e:p.1=k
    · rw [if_pos e,if_pos (h1.symm.trans e)];exact ⟨h1,ry⟩
    · rw [if_neg e,if_neg (fun z=>e (h1.trans z))];exact ⟨h1,h2⟩
theorem KV.put {kvs:List (κ × V)} {vs:List (κ × Value)} (r:KV kvs vs) (k:κ) {y:V} {u:Value} (ry:RelV y u):KV (gi kvs k y) (stored vs k u):=by
  unfold gi stored
  rw [r.any k]
  by_cases e:(vs.any fun kv=>decide (kv.1=k))=true
  · rw [if_pos e,if_pos e];exact r.repl k ry
  · rw [if_neg e,if_neg e];exact Paired.snoc r ⟨rfl,ry⟩
theorem KV.length {kvs:List (κ × V)} {vs:List (κ × Value)} (r:KV kvs vs):kvs.length=vs.length:=Paired.length r
end
theorem wJ {P:Program} {w:World} {k:Key} {u:Value} (r:RelV (kV k) u):(bm P w).is k u=true:=by
  cases k with
  | inl i=>obtain ⟨t,e⟩:=(show ∃ t,u=Value.int i t from r);subst e;exact pg P w i t
  | inr x=>obtain ⟨t,e⟩:=(show ∃ t,u=Value.str x t from r);subst e;exact pe P w x t
theorem mZ {P:Program} {w:World}:∀ {ks:List Key} {us:List Value},Vals (ks.map kV) us->ItemsAre (bm P w) ks us
  | [],_,r=>by rw [List.map_nil] at r;cases r;exact .nil
  | k :: ks,_,r=>by
    rw [Cu] at r
    cases r with
    | cons h t=>exact .cons (wJ h) (mZ t)
noncomputable abbrev KT (H:Hp):List (List Key × V)->List (List Key × Addr × Value)->Prop:=Paired fun p q=>p.1=q.1/\H q.2.1=some (.tup (p.1.map kV))/\RelV p.2 q.2.2
theorem KT.val {H:Hp} {kvs:List (List Key × V)} {xs:List (List Key × Addr × Value)} (r:KT H kvs xs) (k:List Key):RelO (ku kvs k) ((atKey xs k).map (·.2)):=by
  induction r with
  | nil=>exact True.intro
  | @cons p q ps qs h t ih =>
    obtain ⟨h1,_,h2⟩:=h
    by_cases e:p.1=k
    · have e':q.1=k:=h1.symm.trans e
      have b:atKey (q :: qs) k=some q.2:=by simp [atKey,List.find?_cons,e']
      rw [i8 e,b];exact h2
    · have e':¬ q.1=k:=fun z=>e (h1.trans z)
      have b:atKey (q :: qs) k=atKey qs k:=by simp [atKey,List.find?_cons,e']
      rw [i9 e,b];exact ih
theorem KT.repl {H:Hp} {kvs:List (List Key × V)} {xs:List (List Key × Addr × Value)} (r:KT H kvs xs) (k:List Key) {y:V} {u:Value} (ry:RelV y u) :
    KT H (kvs.map fun kv=>if kv.1=k then (kv.1,y) else kv) (xs.map (putAt k u)):=by
  induction r with
  | nil=>exact .nil
  | @cons p q ps qs h t ih =>
    rw [Cu,Cu]
    refine .cons ?_ ih
    obtain ⟨h1,h2,h3⟩:=h
    unfold putAt
    by_cases e:p.1=k
    · rw [if_pos e,if_pos (h1.symm.trans e)];exact ⟨h1,h2,ry⟩
    · rw [if_neg e,if_neg (fun z=>e (h1.trans z))];exact ⟨h1,h2,h3⟩
theorem KT.put {H:Hp} {kvs:List (List Key × V)} {xs:List (List Key × Addr × Value)} (r:KT H kvs xs) (k:List Key) {b:Addr} {y:V} {u:Value} (hb:H b=some (.tup (k.map kV))) (ry:RelV y u) :
    KT H (gi kvs k y) (storedH xs k b u):=by
  have e:(kvs.any fun kv=>decide (kv.1=k))=(atKey xs k).isSome:=by
    rw [oD,(r.val k).isSome_eq,Option.isSome_map]
  unfold gi storedH
  rw [e]
  by_cases q:(atKey xs k).isSome=true
  · rw [if_pos q,if_pos q];exact r.repl k ry
  · rw [if_neg q,if_neg q];exact Paired.snoc r ⟨rfl,hb,ry⟩
theorem KT.keeps {H H':Hp} {kvs:List (List Key × V)} {xs:List (List Key × Addr × Value)} (r:KT H kvs xs) (ht:∀ b ys,H b=some (.tup ys)->H' b=some (.tup ys)):KT H' kvs xs :=
  Paired.mapP r fun _ _ z=>⟨z.1,ht _ _ z.2.1,z.2.2⟩
section
variable {P:Program} {w:World} {H:Hp} {h:Heap} {a:Addr}
theorem Aa {u:HO} (ok:HOk P w H h) (e:Rd H a u):ObjOk P w H h a u:=e.ok ok
theorem xa {kvs:List (Key × V)} (ok:HOk P w H h) (e:Rd H a (.dK kvs)):kvs.length<=sizeLine/\(a == sysModules)=false/\∃ vs,KV kvs vs/\DictOfE (bm P w) h a vs :=
  show ObjOk P w H h a (.dK kvs) from Aa ok e
theorem Au {kvs:List (Key × V)} (ok:HOk P w H h) (e:Rd H a (.dK kvs)):kvs.length<=sizeLine/\(a == sysModules)=false/\∃ vs,KV kvs vs/\h.DictOf (bm P w) a vs:=let ⟨z,y,vs,r,d⟩:=xa ok e;⟨z,y,vs,r,d.of⟩
theorem nU {ks:List Key} (ok:HOk P w H h) (e:H a=some (.tup (ks.map kV))):(tupleKind (bm P w)).is h ks a:=by
  obtain ⟨_,its,r,o,h1,h2,n,h3⟩:=(show ObjOk P w H h a (.tup (ks.map kV)) from ok a _ e)
  exact ⟨o,its.toArray,n,h1,h2,congrArg Prod.fst h3,by simpa using mZ r⟩
theorem qV {kvs:List (List Key × V)} (ok:HOk P w H h) (e:Rd H a (.dT kvs)):kvs.length<=sizeLine/\(a == sysModules)=false /\
    ∃ xs,KT H kvs xs/\DictOfHE (tupleKind (bm P w)) h a xs:=by
  obtain ⟨z,y,xs,r,o,es,ep,h1,h2,h3,h4,h5⟩:=(show ObjOk P w H h a (.dT kvs) from Aa ok e)
  refine ⟨z,y,xs,r,o,es,ep,h1,h2,h3,h4,fun x hx=>?_,h5⟩
  have all:∀ {l:List (List Key × V)} {m:List (List Key × Addr × Value)},KT H l m->∀ x ∈ m,(tupleKind (bm P w)).is h x.1 x.2.1:=by
    intro l m q
    induction q with
    | nil=>intro x hx;exact nomatch hx
    | @cons p q ps qs hq t ih =>
      intro x hx
      rcases Cf.mp hx with e | hx
      · subst e
        exact nU ok (by rw [<- hq.1];exact hq.2.1)
      · exact ih x hx
  exact all r x hx
theorem At {kvs:List (List Key × V)} (ok:HOk P w H h) (e:Rd H a (.dT kvs)):kvs.length<=sizeLine/\(a == sysModules)=false /\
    ∃ xs,KT H kvs xs/\h.DictOfH (tupleKind (bm P w)) a xs:=let ⟨z,y,xs,r,d⟩:=qV ok e;⟨z,y,xs,r,d.of⟩
end
noncomputable def DGet (H:Hp) (a:Addr) (y:V) (r:Option V):Prop :=
  (∃ kvs k,Rd H a (.dK kvs)/\y=kV k/\r=ku kvs k)\/∃ kvs k b,Rd H a (.dT kvs)/\y=.ref b/\H b=some (.tup (k.map kV))/\r=ku kvs k
noncomputable def DPut (H:Hp) (a:Addr) (y v:V) (H':Hp):Prop :=
  (∃ kvs k,H a=some (.dK kvs)/\y=kV k/\kvs.length < sizeLine/\H'=upd H a (.dK (gi kvs k v))) \/
  ∃ kvs k b,H a=some (.dT kvs)/\y=.ref b/\H b=some (.tup (k.map kV))/\kvs.length < sizeLine/\H'=upd H a (.dT (gi kvs k v))
theorem DGet.t {H:Hp} {a b:Addr} {kvs:List (List Key × V)} {k:List Key} (e:H a=some (.dT kvs)) (eb:H b=some (.tup (k.map kV))):DGet H a (.ref b) (ku kvs k):=.inr ⟨kvs,k,b,.inl e,rfl,eb,rfl⟩
theorem DPut.t {H:Hp} {a b:Addr} {kvs:List (List Key × V)} {k:List Key} {v:V} (e:H a=some (.dT kvs)) (eb:H b=some (.tup (k.map kV))) (hl:kvs.length < sizeLine) :
    DPut H a (.ref b) v (upd H a (.dT (gi kvs k v))):=.inr ⟨kvs,k,b,e,rfl,eb,hl,rfl⟩
section
variable {X:Cx} {pins:List (Addr × Obj)} {σ:St} {H:Hp} {s:Shared} {a:Addr} {y v:V} {u r:Value} {o:Option V} {A:Around} {E:Value->Shared->Prop}
theorem Inv.big (I:Inv X pins σ H s):sysModules < s.heap.objs.size:=by
  have h:mainGlobals < s.heap.objs.size:=(I.mod.glob.keeps I.bk).lt
  exact Nat.lt_trans (by decide) h
theorem uu {Q:Value->Shared->Prop} (hu:A.units+1 < cLine) (I:Inv X pins σ H s) (g:DGet H a y (some v)) (ry:RelV y u) (h:∀ w' s',Inv X pins σ H s'->RelV v w'->Q w' s') :
    wpAny (model X.prog X.w) A (getItem (.ref a) u) Q E s:=by
  rcases g with ⟨kvs,k,e,ey,l⟩ | ⟨kvs,k,b,e,ey,eb,l⟩
  · subst ey
    obtain ⟨z,hd,vs,rel,dd⟩:=Au I.hok e
    obtain ⟨w',hw,rw'⟩:=RelO.some_of (v:=v) (o:=valueAt vs k) (by rw [l];exact rel.val k)
    exact wpAny_getItem_of (wJ ry) dd.mapOf hw (h w' _ (I.tok _) rw')
  · subst ey
    cases (show u=Value.ref b from ry)
    obtain ⟨z,hd,xs,rel,dd⟩:=At I.hok e
    obtain ⟨w',hw,rw'⟩:=RelO.some_of (v:=v) (o:=(atKey xs k).map (·.2)) (by rw [l];exact rel.val k)
    obtain ⟨p,hp,hp2⟩:=Cc.mp hw
    refine wpAny_getItem_heap (tupleKind_room_in1 hu) (nU I.hok eb) dd hp ?_
    rw [hp2]
    exact h w' _ (I.tok _) rw'
theorem sC {h':Heap} {t':Nat} {ob:HO} (I:Inv X pins σ H s) (mu:Mut (H a)) (hs:Heap.SameBut a s.heap h') (he:∃ q,h'.get? a=some q) (new:ObjOk X.prog X.w (upd H a ob) h' a ob) :
    Inv X pins σ (upd H a ob) { s with heap:=h',toks:=t' } :=
  I.write (x:=a) (e:=a) mu (.inl rfl) (fun b q hb z=>(hs.2 b hb).trans z) he new
theorem BT {P:Program} {w:World} {H':Hp} {h':Heap} {kvs:List (Key × V)} {vs:List (Key × Value)} (z:kvs.length<=sizeLine) (hd:(a == sysModules)=false) (rel:KV kvs vs) (dd:DictOfE (bm P w) h' a vs) :
    ObjOk P w H' h' a (.dK kvs):=⟨z,hd,vs,rel,dd⟩
theorem ut {H':Hp} {Q:Unit->Shared->Prop} (hu:A.units+1 < cLine) (I:Inv X pins σ H s) (g:DPut H a y v H') (ry:RelV y u) (rv:RelV v r) (h:∀ s',Inv X pins σ H' s'->Q () s') :
    wpAny (model X.prog X.w) A (setItem (.ref a) u r) Q E s:=by
  rcases g with ⟨kvs,k,e,ey,l,eH⟩ | ⟨kvs,k,b,e,ey,eb,l,eH⟩
  · subst ey eH
    obtain ⟨z,hd,vs,rel,dd⟩:=xa I.hok (.inl e)
    have hz:vs.length<=sizeLine:=by rw [<- rel.length];exact z
    have hl:(gi kvs k v).length<=sizeLine:=by have:=km kvs k v;omega
    refine lc (hsz:=hz) (wJ ry) dd fun h' dd' hs=>h _ ?_
    have he:∃ q,h'.get? a=some q:=let ⟨q,_,_,hq,_⟩:=dd';⟨q,hq⟩
    exact sC I (by rw [e];exact True.intro) hs he (BT hl hd (rel.put k rv) dd')
  · subst ey eH
    cases (show u=Value.ref b from ry)
    obtain ⟨z,hd,xs,rel,dd⟩:=qV I.hok (.inl e)
    have hz:xs.length<=sizeLine:=by rw [<- Paired.length rel];exact z
    have hl:(gi kvs k v).length<=sizeLine:=by have:=km kvs k v;omega
    refine mo (hsz:=hz) (tupleKind_room_in1 hu) (nU I.hok eb) dd fun h' dd' hs=>h _ ?_
    obtain ⟨q,es,ep,hq,h2,h3,h4,_,h5⟩:=dd'
    refine sC I (by rw [e];exact True.intro) hs ⟨q,hq⟩ ⟨hl,hd,_,(rel.put k eb rv).keeps fun c ys ec=>?_,q,es,ep,hq,h2,h3,h4,h5⟩
    rw [aL (ne_of ec e (fun z=>nomatch z))]
    exact ec
end
theorem pJ {X:Cx} {pins:List (Addr × Obj)} {σ:St} {H:Hp} {s:Shared} {a:Addr} {y:V} {o:Option V} (I:Inv X pins σ H s) (g:DGet H a y o):s.TypeIs (.ref a) "dict":=by
  rcases g with ⟨kvs,k,e,_,_⟩ | ⟨kvs,k,b,e,_,_,_⟩
  · obtain ⟨_,_,vs,_,dd⟩:=Au I.hok e
    exact dd.typeIs
  · obtain ⟨_,_,xs,_,dd⟩:=At I.hok e
    exact dd.typeIs
theorem wX {P:Program} {w:World} {H:Hp} (h:Heap) (hb:sysModules < h.objs.size):ObjOk P w H (h.push { cls:=.type "dict",data:=.dict #[] }) h.objs.size (.dT []) :=
  ⟨Nat.zero_le _,beq_eq_false_iff_ne.mpr (Ne.symm (Cs hb)),[],.nil,_,#[],0,Cj _ rfl,⟨rfl,rfl,rfl⟩,rfl,rfl,List.nodup_nil,rfl⟩
noncomputable def AS:TE:=fun _ H Q=>∀ p,H p=none->Q (.ref p) (upd H p (.dT []))
section
variable {X:Cx} {pos:Pos}
theorem vT:PE X (.Dict [] [] pos) AS:=fun pins s σ H Q I h =>
  wpAny_Dict_empty ⟨.ref s.heap.objs.size,_,I.laid (a:=s.heap.objs.size) (o:=.dT []) (t':=s.toks) (fun _ _ q=>Ca _ q) (Cq _) (wX s.heap I.big),rfl,h _ (I.hok.fresh (Cq _))⟩
end
structure M1 (X:Cx) (o:Expr) (m:Str) (apos:Pos) (e:Expr) (cpos:Pos):Prop where
  base:attributeBase o m X.env (eval o X.env)=eval o X.env
  few:((backTo cpos (starEach [e] X.env)).all (fun x=>!x.1) && (backToKw cpos (keywordEach [] X.env)).all (fun x=>x.1.isSome)
    && decide (([e]:List Expr).length+([]:List Keyword).length+(if ([]:List Keyword).isEmpty then 0 else 1) < 30))=true
  line:(apos.endLine == cpos.line)=true
  trees:backTo cpos (starEach [e] X.env)=[(false,eval e X.env)]
structure M2 (X:Cx) (o:Expr) (m:Str) (apos:Pos) (e f:Expr) (cpos:Pos):Prop where
  base:attributeBase o m X.env (eval o X.env)=eval o X.env
  few:((backTo cpos (starEach [e,f] X.env)).all (fun x=>!x.1) && (backToKw cpos (keywordEach [] X.env)).all (fun x=>x.1.isSome)
    && decide (([e,f]:List Expr).length+([]:List Keyword).length+(if ([]:List Keyword).isEmpty then 0 else 1) < 30))=true
  line:(apos.endLine == cpos.line)=true
  trees:backTo cpos (starEach [e,f] X.env)=[(false,eval e X.env),(false,eval f X.env)]
end L2
namespace L2
open PySem PySem.Spec PyProof.Rows
end L2
end
section
namespace L2
open PySem PySem.Spec PyProof.Rows
noncomputable def kE (cells:List (Str × Addr)) (cs:List (Str × Addr)) (x:Str × NameKind):List (Str × Addr) :=
  if x.2 == .free then (match cells.lookup x.1 with | some c=>(x.1,c) :: cs | none=>cs) else cs
noncomputable def clo (cells:List (Str × Addr)) (names:List (Str × NameKind)):List (Str × Addr):=names.foldl (kE cells) []
theorem lX {α β:Type} {f:α->β->Sem (ForInStep β)} {g:β->α->β}:∀ {l:List α} {c:β},(∀ x ∈ l,∀ c,f x c=pure (.yield (g c x)))->forIn l c f=pure (l.foldl g c)
  | [],c,_=>rfl
  | x :: l,c,h=>by
    rw [List.forIn_cons,h x B8,pure_bind]
    exact lX fun y hy=>h y (B9 _ hy)
theorem ie {scope:Scope} {env:Env} (h:∀ x ∈ scope.names,x.2=.free->∃ c,env.cells.lookup x.1=some c):closureFor scope env=pure (clo env.cells scope.names):=by
  simp only [closureFor]
  rw [lX (g:=kE env.cells) (fun x hx c=>by
    obtain ⟨n,kind⟩:=x
    unfold kE
    by_cases hk:kind=.free
    · subst hk
      obtain ⟨a,e⟩:=h _ hx rfl
      have e':env.cells.lookup n=some a:=e
      simp [cellOf,e']
    · have hb:(kind == NameKind.free)=false:=by simpa using hk
      simp [hb])]
  rfl
theorem m5 {cells:List (Str × Addr)} {x:Str} {c:Addr}:∀ {l:List (Str × NameKind)} {cs:List (Str × Addr)},(∀ y d,cs.lookup y=some d->cells.lookup y=some d)->(l.foldl (kE cells) cs).lookup x=some c->cells.lookup x=some c
  | [],cs,h,e=>h x c e
  | y :: l,cs,h,e=>by
    refine m5 (l:=l) (cs:=kE cells cs y) (fun z d q=>?_) e
    unfold kE at q
    split at q
    · cases e2:cells.lookup y.1 with
      | none=>rw [e2] at q;exact h z d q
      | some a =>
        rw [e2] at q
        simp only [List.lookup_cons] at q
        cases hz:z == y.1 with
        | true=>rw [hz] at q;have:=eq_of_beq hz;subst this;rw [e2];exact q
        | false=>rw [hz] at q;exact h z d q
    · exact h z d q
theorem n6 {cells:List (Str × Addr)} {l:List (Str × NameKind)} {x:Str} {c:Addr} (e:(clo cells l).lookup x=some c):cells.lookup x=some c:=m5 (fun _ _ q=>by simp at q) e
theorem lY {cells:List (Str × Addr)} {x:Str} {c:Addr} (hc:cells.lookup x=some c):∀ {l:List (Str × NameKind)} {cs:List (Str × Addr)},cs.lookup x=some c->(l.foldl (kE cells) cs).lookup x=some c
  | [],_,e=>e
  | y :: l,cs,e=>by
    refine lY hc (l:=l) (cs:=kE cells cs y) ?_
    unfold kE
    split
    · cases e2:cells.lookup y.1 with
      | none=>exact e
      | some a =>
        simp only [List.lookup_cons]
        cases hz:x == y.1 with
        | true=>have:=eq_of_beq hz;subst this;rw [hc] at e2;exact e2.symm
        | false=>exact e
    · exact e
theorem m6 {cells:List (Str × Addr)} {x:Str} {c:Addr} (hc:cells.lookup x=some c):∀ {l:List (Str × NameKind)} {cs:List (Str × Addr)},(x,NameKind.free) ∈ l->(l.foldl (kE cells) cs).lookup x=some c
  | [],_,m=>by simp at m
  | y :: l,cs,m=>by
    rcases Cf.mp m with rfl | m
    · refine lY hc (l:=l) ?_
      simp [kE,hc]
    · exact m6 hc (l:=l) (cs:=kE cells cs y) m
theorem sE {cells:List (Str × Addr)} {l:List (Str × NameKind)} {x:Str} {c:Addr} (hc:cells.lookup x=some c) (m:(x,NameKind.free) ∈ l):(clo cells l).lookup x=some c:=m6 hc m
theorem jl {env:Env}:∀ {names:List (Str × NameKind)} {x:Str},names.lookup x=some .free ->
    (names.map fun (n,k)=>if (k == NameKind.free && env.scope.kind == .function && env.kindOf n == some .cell) then (n,NameKind.cell) else (n,k)).lookup x=some .cell \/
    (names.map fun (n,k)=>if (k == NameKind.free && env.scope.kind == .function && env.kindOf n == some .cell) then (n,NameKind.cell) else (n,k)).lookup x=some .free
  | [],_,h=>by simp at h
  | (n,k) :: r,x,h=>by
    have ih:=@jl env r x
    show List.lookup x ((if (k == NameKind.free && env.scope.kind == .function && env.kindOf n == some .cell)=true then (n,NameKind.cell) else (n,k)) :: _)=_ \/
      List.lookup x ((if (k == NameKind.free && env.scope.kind == .function && env.kindOf n == some .cell)=true then (n,NameKind.cell) else (n,k)) :: _)=_
    cases hx:x == n with
    | true =>
      simp only [List.lookup_cons,hx] at h
      cases h
      split
      · left;simp [List.lookup_cons,hx]
      · right;simp [List.lookup_cons,hx]
    | false =>
      simp only [List.lookup_cons,hx] at h
      split
      · simp only [List.lookup_cons,hx];exact ih h
      · simp only [List.lookup_cons,hx];exact ih h
theorem ls {env:Env}:∀ {names:List (Str × NameKind)} {x:Str},(∀ y ∈ names,y.2 ≠ .cell) ->
    ((names.map fun (n,k)=>if (k == NameKind.free && env.scope.kind == .function && env.kindOf n == some .cell) then (n,NameKind.cell) else (n,k)).lookup x=some .cell \/
    (names.map fun (n,k)=>if (k == NameKind.free && env.scope.kind == .function && env.kindOf n == some .cell) then (n,NameKind.cell) else (n,k)).lookup x=some .free)->(x,NameKind.free) ∈ names
  | [],_,_,h=>by simp at h
  | (n,k) :: r,x,hc,h=>by
    have ih:=@ls env r x (fun y hy=>hc y (B9 _ hy))
    have hk:=hc (n,k) B8
    have h':List.lookup x ((if (k == NameKind.free && env.scope.kind == .function && env.kindOf n == some .cell)=true then (n,NameKind.cell) else (n,k)) :: (r.map fun (n,k)=>if (k == NameKind.free && env.scope.kind == .function && env.kindOf n == some .cell) then (n,NameKind.cell) else (n,k)))=some .cell \/
      List.lookup x ((if (k == NameKind.free && env.scope.kind == .function && env.kindOf n == some .cell)=true then (n,NameKind.cell) else (n,k)) :: (r.map fun (n,k)=>if (k == NameKind.free && env.scope.kind == .function && env.kindOf n == some .cell) then (n,NameKind.cell) else (n,k)))=some .free:=h
    cases hx:x == n with
    | true =>
      have e:=eq_of_beq hx
      subst e
      by_cases hf:k=.free
      · subst hf;exact B8
      · exfalso
        have hb:(k == NameKind.free)=false:=by simpa using hf
        simp [hb,List.lookup_cons] at h'
        rcases h' with q | q
        · exact hk q
        · exact hf q
    | false =>
      refine B9 _ (ih ?_)
      split at h'
      · simpa only [List.lookup_cons,hx] using h'
      · simpa only [List.lookup_cons,hx] using h'
noncomputable def bc (X:Cx) (NY:List Str) (scope:Scope) (s:Shared) (H:Hp) (C:Addr) (fp:List Addr):Cx where
  prog:=X.prog
  w:=X.w
  K:=X.K
  mg:=X.mg
  base:=X.base
  A:=X.A
  N:=NY
  s₀:=s
  H₀:=H
  env:=compEnvC scope (clo X.env.cells scope.names) C X.env
  outer:=X.stack
  stack:=X.stack
  ex:=fp
  fn:=fun _=>false
  calm:=X.calm
  pn:=[]
  xe:=fun _ _=>False
noncomputable def cap (ix:List (Option Nat)) (σ:St):St:=ix.map fun o=>match o with | some i=>(σ[i]?).getD none | none=>none
noncomputable def j4 (sc:Scope) (XN:List Str) (Xsc:Scope) (NY:List Str) (ix:List (Option Nat)):Bool :=
  sc.kind == .function && sc.names.all (fun y=>y.2 != .cell) && sc.names.all (fun y=>y.2 != .local || sc.names.lookup y.1 == some .local) && sc.names.all (fun y=>y.2 != .free || sc.names.lookup y.1 == some .free)
    && sc.names.all (fun y=>y.2 != .free || (Xsc.names.lookup y.1 == some .cell || Xsc.names.lookup y.1 == some .free))
    && ix.length == NY.length && (NY.zip ix).all fun p=>match p.2 with | none=>true | some i=>(XN[i]? == some p.1) && sc.names.contains (p.1,NameKind.free)
structure CompOk (sc:Scope) (XN:List Str) (Xsc:Scope) (NY:List Str) (ix:List (Option Nat)):Prop where
  kind:sc.kind=.function
  nocell:∀ y ∈ sc.names,y.2 ≠ .cell
  loc:∀ y ∈ sc.names,y.2=.local->sc.names.lookup y.1=some .local
  fre:∀ y ∈ sc.names,y.2=.free->sc.names.lookup y.1=some .free
  out:∀ y ∈ sc.names,y.2=.free->Xsc.names.lookup y.1=some .cell\/Xsc.names.lookup y.1=some .free
  len:ix.length=NY.length
  cap:∀ (j:Nat) x i,NY[j]?=some x->ix[j]?=some (some i)->XN[i]?=some x/\(x,NameKind.free) ∈ sc.names
theorem CompOk.of {sc:Scope} {XN:List Str} {Xsc:Scope} {NY:List Str} {ix:List (Option Nat)} (h:j4 sc XN Xsc NY ix=true):CompOk sc XN Xsc NY ix:=by
  simp only [j4,Bool.and_eq_true,List.all_eq_true,beq_iff_eq] at h
  obtain ⟨⟨⟨⟨⟨⟨h1,h2⟩,h3⟩,h4⟩,h5⟩,h6⟩,h7⟩:=h
  refine ⟨h1,fun y hy=>by simpa using h2 y hy,fun y hy e=>?_,fun y hy e=>?_,fun y hy e=>?_,h6,fun j x i e1 e2=>?_⟩
  · have:=h3 y hy;rw [e] at this;simpa using this
  · have:=h4 y hy;rw [e] at this;simpa using this
  · have:=h5 y hy;rw [e] at this;simpa using this
  · have m:(x,some i) ∈ NY.zip ix:=by
      refine Cm (i:=j) ?_
      rw [List.getElem?_zip_eq_some]
      exact ⟨e1,e2⟩
    have:=h7 _ m
    simpa using this
section
variable {X:Cx}
theorem FpOk.of_upd {pins:List (Addr × Obj)} {H:Hp} {b D:Addr} {o:HO} (f:FpOk X pins H b) (h:b ≠ D):FpOk X pins (upd H D o) b:=⟨by rw [aL h];exact f.1,f.2⟩
theorem HOk.track {P:Program} {w:World} {H:Hp} {h:Heap} {a:Addr} {o:HO} (x:HOk P w H h) (hn:H a=none) (new:ObjOk P w (upd H a o) h a o):HOk P w (upd H a o) h:=fun b u e=>by
  by_cases hb:b=a
  · subst hb;rw [bh] at e;cases e;exact new
  · rw [aL hb] at e
    exact (x b u e).stay (fun c v _ q=>q) (fun c q=>by rw [aL (bz q hn)];exact q) fun c xs q=>by rw [aL (bz q hn)];exact q
noncomputable def PTs (Y:Cx) (ifs:List Expr) (t:TT):Prop :=
  ∀ (pins:List (Addr × Obj)) (s:Shared) (σ:St) (H:Hp) (Q:Bool->Hp->Prop),Inv Y pins σ H s->t σ H Q ->
    wpAny (model Y.prog Y.w) Y.A (forIn ifs true fun c r=>if r=true then do let ok <- isTrue c Y.env (eval c Y.env);pure (ForInStep.yield ok) else pure (ForInStep.yield r)) (TP Y pins σ Q) Y.xe s
noncomputable def tYes:TT:=fun _ H Q=>Q true H
theorem yD {Y:Cx}:PTs Y [] tYes:=fun pins s σ H Q I h=>wpAny_tests_nil ⟨H,I,h⟩
theorem yC {Y:Cx} {c:Expr} {t:TT} (h:PT Y c t):PTs Y [c] t:=fun pins s σ H Q I q=>wpAny_tests_one (h pins s σ H Q I q)
noncomputable def p9 (J:It) (g:TG) (tc:TT) (te:TE) (Z:List V->Hp->Prop) (τ0:St) (H1:Hp):Prop :=
  ∃ W:Nat->Nat->List V->St->Hp->Prop,(∃ m,W 0 m [] τ0 H1)/\∀ i m ys τ H,W i m ys τ H->ys.length < sizeLine /\
    ((J.stop i H/\Z ys H)\/(J.go i H/\∃ N:List V->St->Hp->Prop,(∀ ys' τ' H',N ys' τ' H'->∃ m',m' < m/\W (i+1) m' ys' τ' H')/\∀ x H',J.yld i H x H'->g x τ H' fun τ2 H2=>tc τ2 H2 fun b H3 =>
      if b=true then te τ2 H3 fun y H4=>N (ys ++ [y]) τ2 H4 else N ys τ2 H3))
noncomputable def z5 (wi:TI) (g:TG) (tc:TT) (te:TE) (ix:List (Option Nat)):TE:=fun σ H Q =>
  wi σ H fun J H1=>p9 J g tc te (fun ys H2=>∀ p,H2 p=none->Q (.ref p) (upd H2 p (.lst ys))) (cap ix σ) H1
theorem qW {NY:List Str} {scope:Scope} {ix:List (Option Nat)} {pins:List (Addr × Obj)} {σ:St} {H:Hp} {s s4:Shared} {fp:List Addr} {C:Addr} (ck:CompOk scope X.N X.env.scope NY ix)
    (I:Inv X pins σ H s) (f:∀ b ∈ fp,FpOk X pins H b) (hC:s.heap.objs.size<=C) (hfp:∀ b ∈ fp,b < s.heap.objs.size) (h4:s4.os=s.os) (hg:s4.gens=s.gens) (keep:∀ b o,s.heap.get? b=some o->s4.heap.get? b=some o)
    (ns:s4.heap.Ns C fun _=>none):Inv (bc X NY scope s H C fp) [] (cap ix σ) H s4:=by
  have fC:FpOk X pins H C:=I.fpOk hC (I.hok.fresh hC)
  have cls:∀ x c,(clo X.env.cells scope.names).lookup x=some c->X.env.cells.lookup x=some c:=fun x c e=>n6 e
  have hset:∀ x,(x,NameKind.free) ∈ scope.names->∃ c,X.env.cells.lookup x=some c:=fun x m=>by
    rcases ck.out _ m rfl with q | q
    · exact I.ok.has x (.inl q)
    · exact I.ok.has x (.inr q)
  refine ⟨⟨I.ok.mod,ck.kind,I.ok.glob,I.ok.blt,hC,fun x y c e1 e2=>I.ok.inj x y c (cls x c e1) (cls y c e2),fun x hx=>?_,fun x c e _=>(Cr e).elim,fun e=>I.ok.hd e,I.ok.frames,.inl rfl,fun b hb=>⟨Cs (Cy (hfp b hb) hC),fun x c e=>(f b hb).2.2.2.2.1 x c (cls x c e)⟩,
    I.bs,CO I.ok.bsz I.sz,fun b o e hb=>?_,fun b hb hz=>?_,I.stack,I.stkFree⟩,h4,by rw [hg];exact I.bare,Un.kept keep,⟨_,ns,fun i x v e1 e2 e3=>?_⟩,fun x c e=>?_,fC.1,fun x c e=>I.freeC x c (cls x c e),fun p hp=>absurd (show p ∈ ([]:List (Addr × Obj)) from hp) (by simp),I.hok.kept keep,?_⟩
  · have m:(x,NameKind.free) ∈ scope.names:=ls ck.nocell hx
    obtain ⟨c,e⟩:=hset x m
    exact ⟨c,sE e m⟩
  · rcases (f b hb).2.2.2.1 with z | z
    · exact I.ok.noex b o e z
    · exact absurd (Cy (Ch e) (CO I.ok.bsz z)) (Nat.lt_irrefl _)
  · rcases Cf.mp (I.stkSub b hz) with e | e
    · exact (f b hb).2.1 e
    · exact (f b hb).2.2.1 e
  · -- a captured name
    have q:∃ k,ix[i]?=some (some k)/\σ[k]?=some (some v):=by
      unfold cap at e2
      rw [Cp] at e2
      cases e:ix[i]? with
      | none=>rw [e] at e2;simp at e2
      | some o =>
        rw [e] at e2
        cases o with
        | none=>simp at e2
        | some k =>
          refine ⟨k,rfl,?_⟩
          simp only [CF,Option.some.injEq] at e2
          cases e':σ[k]? with
          | none=>rw [e'] at e2;simp at e2
          | some o'=>rw [e'] at e2;simp at e2;rw [e2]
    obtain ⟨k,ek,ev⟩:=q
    obtain ⟨eN,m⟩:=ck.cap i x k e1 ek
    obtain ⟨mX,hnX,hl⟩:=I.loc
    have hv:Vis X.env.scope x:=by
      rcases ck.out _ m rfl with q | q
      · exact .inr (.inl q)
      · exact .inr (.inr q)
    obtain ⟨u,r,l⟩:=hl k x v eN ev hv
    refine ⟨u,r,.inr ?_⟩
    rcases l with ⟨kl,_⟩ | ⟨_,c,ec,hc⟩
    · exfalso
      rcases ck.out _ m rfl with q | q
      · have:=kl.symm.trans q;cases this
      · have:=kl.symm.trans q;cases this
    · obtain ⟨o,ho,hd⟩:=hc
      exact ⟨jl (ck.fre _ m rfl),c,sE ec m,o,keep c o ho,hd⟩
  · obtain ⟨v,o,ho,hd⟩:=I.cell x c (cls x c e)
    exact ⟨v,o,keep c o ho,hd⟩
  · show (cap ix σ).length=NY.length
    unfold cap
    rw [Ck]
    exact ck.len
set_option tactic.hygienic true in
theorem ic {prog:Program} {w:World} {A:Around} {R:Result->Shared->Prop} {s:Shared} {elt target iter:Expr} {ifs:List Expr} {scope:Scope} {pos:Pos} {it acc:Value} {env:Env} (I:Nat->Shared->Prop)
    (turn:∀ n s,I n s->wpAny (model prog w) A (pyNext it) (fun r s₁=>match r with
      | none=>R (.ok .next) s₁
      | some v=>wpAny (model prog w) A (letOwnedTupleGo target it v) (fun _ s₁'=>wpAny (model prog w) A (assign target env v) (fun _ s₂ =>
          wpAny (model prog w) A (forIn ifs true fun c r=>if r=true then do let ok <- isTrue c env (eval c env);pure (ForInStep.yield ok) else pure (ForInStep.yield r)) (fun ok s₃ =>
            if ok=true then wpAny (model prog w) A (eval elt env) (fun x s₄ =>
              wpAny (model prog w) A (call (.builtin "list.append") [acc,x]) (fun _ s₅=>∃ m,m < n/\I m s₅) (fun _ _=>False) s₄) (fun _ _=>False) s₃
            else ∃ m,m < n/\I m s₃) (fun _ _=>False) s₂) (fun _ _=>False) s₁') (fun _ _=>False) s₁) (fun _ _=>False) s)
    (n:Nat) (h:I n s) :
    codeAny (model prog w) A (.compLoop (.ListComp elt [⟨target,iter,ifs,0⟩] scope pos) 0 it acc env) R s:=by
  refine codeAny_loop rfl I (fun n s hI=>?_) n h
  show wpAny _ A ((compTurn (.ListComp elt [⟨target,iter,ifs,0⟩] scope pos) 0 it acc env).onRaise (fun x=>do noteFrame x env;theTreesLotGoes x)) _ _ s
  refine wpAny_noted ?_
  rw [compTurn_list]
  refine B5 (wpAny_standAt (B5 (wpAny_mono (turn n s hI) (fun r s₁ h₁=>?_) fun _ _ h'=>h'.elim)))
  cases r with
  | none=>exact B6 h₁
  | some v =>
    refine B5 (wpAny_mono h₁ (fun _ s₁' h₁'=>?_) fun _ _ h'=>h'.elim)
    refine B5 (wpAny_mono h₁' (fun _ s₂ h₂=>B5 (wpAny_mono h₂ (fun ok s₃ h₃=>?_) fun _ _ h'=>h'.elim)) fun _ _ h'=>h'.elim)
    cases ok with
    | false=>exact B6 ⟨rfl,h₃⟩
    | true =>
      exact B5 (B5 (wpAny_mono h₃ (fun x s₄ h₄=>B5 (wpAny_mono h₄ (fun _ s₅ h₅=>B6 (B6 ⟨rfl,h₅⟩)) fun _ _ h'=>h'.elim)) fun _ _ h'=>h'.elim))
set_option tactic.hygienic true in
theorem pM {elt tg iter:Expr} {ifs:List Expr} {NY:List Str} {scope:Scope} {ix:List (Option Nat)} {pos:Pos} {pins:List (Addr × Obj)} {σ:St} {H:Hp} {s:Shared} {fp:List Addr} {it:Addr} {tn:Nat->Heap->Prop} {J:It} {g:TG} {tc:TT} {te:TE} {Z:List V->Hp->Prop} {E:Value->Shared->Prop}
    {RR:Value->Addr->Result->Shared->Prop} (hc:X.calm=true) (ck:CompOk scope X.N X.env.scope NY ix)
    (hg:∀ s H C fp,PG (bc X NY scope s H C fp) tg g) (ht:∀ s H C fp,PTs (bc X NY scope s H C fp) ifs tc) (he:∀ s H C fp,PE (bc X NY scope s H C fp) elt te)
    (I:Inv X pins σ H s) (T:Turn X.prog X.w X.K tg J fp it tn) (st:tn 0 s.heap) (f:∀ b ∈ fp,FpOk X pins H b) (hW:p9 J g tc te Z (cap ix σ) H)
    (hRR:∀ D C s' ys H' m,s'.heap.Ns C m->H' D=none->FpOk X pins (upd H' D (.lst ys)) C->Inv X pins σ (upd H' D (.lst ys)) s'->Z ys H'->RR (.ref D) C (.ok .next) s') :
    wpAny (model X.prog X.w) X.A (newList []) (fun acc s₃=>wpAny (model X.prog X.w) X.A (newFunctionEnv scope X.env.globals (clo X.env.cells scope.names) [] X.env.qual none .none (some X.env)) (fun cenv s₄ =>
      codeAny (model X.prog X.w) X.A (.compStart (.ListComp elt [⟨tg,iter,ifs,0⟩] scope pos) 0 (.ref it) acc { cenv with scope:=relabel scope X.env }) (RR acc cenv.locals) s₄) E s₃) E s:=by
  obtain ⟨W,⟨m0,w0⟩,turn⟩:=hW
  refine wpAny_newObj_type (wpAny_newFunctionEnv ck.nocell (by intro y hy;simp at hy) (fun h₁ hns₁ hsb₁=>?_) ck.kind)
  dsimp only at hns₁ hsb₁ ⊢
  generalize hH2:s.heap.push { cls:=.type "list",dict:=none,data:=.seq ([]:List Value).toArray }=H2 at hns₁ hsb₁ ⊢
  have hCs:H2.objs.size=s.heap.objs.size+1:=by rw [<- hH2,CM]
  have hDC:s.heap.objs.size ≠ H2.objs.size:=by rw [hCs];exact Cs (Nat.lt_succ_self _)
  have hCle:s.heap.objs.size<=H2.objs.size:=by rw [hCs];exact Nat.le_succ _
  generalize hD:s.heap.objs.size=D at *
  generalize hC:H2.objs.size=C at *
  have below:∀ b o,s.heap.get? b=some o->b < D:=fun b o e=>by rw [<- hD];exact Ch e
  have old:∀ b o,s.heap.get? b=some o->h₁.get? b=some o:=fun b o e=>hsb₁.extBut b o (Cs (Cy (below b o e) hCle)) (Ca _ (hH2 ▸ Ca _ e))
  have hacc0:H2.get? D=some { cls:=.type "list",dict:=none,data:=.seq ([]:List Value).toArray }:=by
    rw [<- hH2,<- hD];exact Cj _ rfl
  have hacc:h₁.PlainList D #[]:=⟨_,hsb₁.extBut _ _ hDC (Ca _ hacc0)⟩
  have hfp:∀ b ∈ fp,b < s.heap.objs.size:=fun b hb=>by
    obtain ⟨o,e,_⟩:=T.obj 0 _ st b hb
    exact Ch e
  have hfpD:∀ b ∈ fp,b < D:=fun b hb=>by rw [<- hD];exact hfp b hb
  have IY:Inv (bc X NY scope s H C fp) [] (cap ix σ) H { s with heap:=h₁,toks:=s.toks+([]:List (Str × Value)).length } :=
    qW ck I f (by rw [hD];exact hCle) hfp rfl rfl old hns₁
  have HDn:H D=none:=I.hok.fresh (by rw [hD];exact Cq _)
  have stackLt:∀ b ∈ frs X.stack,b < D:=fun b hb=>by
    obtain ⟨_,o,ho,_⟩:=I.stack.mem hb
    exact below b o ho
  have loop:∀ s₃:Shared,s₃ = { s with heap:=h₁,toks:=s.toks+([]:List (Str × Value)).length } ->
      codeAny (model X.prog X.w) X.A (.compLoop (.ListComp elt [⟨tg,iter,ifs,0⟩] scope pos) 0 (.ref it) (.ref D) (bc X NY scope s H C fp).env) (RR (.ref D) C) s₃:=by
    rintro s₃ rfl
    refine ic (fun n s'=>∃ i ys τ H' its,Inv (bc X NY scope s H C fp) [] τ H' s'/\H' D=none/\s'.heap.PlainList D its/\Vals ys its.toList/\tn i s'.heap/\(∀ b ∈ fp,H' b=none)/\W i n ys τ H') ?_ m0
      ⟨0,[],cap ix σ,H,#[],IY,HDn,hacc,.nil,T.keep _ _ _ st fun b _ o e=>old b o e,fun b hb=>(f b hb).1,w0⟩
    rintro n s3 ⟨i,ys,τ,H3,its,I3,d3,l3,v3,st3,fr3,w3⟩
    obtain ⟨nl,e3⟩:=id l3
    have I3p:Inv (bc X NY scope s H C fp) [(D,{ cls:=.type "list",data:=.seq its nl })] τ H3 s3:=I3.pins_of fun p hp=>by
      have e:p=(D,{ cls:=.type "list",data:=.seq its nl }):=by simpa using hp
      subst e
      exact ⟨e3,d3,hDC,fun z=>Nat.lt_irrefl _ (stackLt D z),fun v z=>by cases z⟩
    have fpo:∀ {H':Hp} {pl:List (Addr × Obj)},(∀ b ∈ fp,H' b=none)->(∀ p ∈ pl,p.1=D)->∀ b ∈ fp,FpOk (bc X NY scope s H C fp) pl H' b:=fun hn hp b hb =>
      ⟨hn b hb,Cs (Cy (hfpD b hb) hCle),fun z=>by
        rcases Cf.mp (I.stkSub b z) with e | e
        · exact (f b hb).2.1 e
        · exact (f b hb).2.2.1 e,.inl hb,fun x c e=>(f b hb).2.2.2.2.1 x c (n6 e),fun p hp'=>by
        have e:p.1=D:=hp p ((Ci.mp hp').elim (fun z=>absurd (show p ∈ ([]:List (Addr × Obj)) from z) (by simp)) fun z=>z)
        rw [e]
        exact Nat.ne_of_gt (hfpD b hb)⟩
    obtain ⟨zl,step⟩:=turn i n ys τ H3 w3
    have single:∀ p ∈ [(D,({ cls:=.type "list",data:=.seq its nl }:Obj))],p.1=D:=fun p hp=>by
      have e:p=(D,{ cls:=.type "list",data:=.seq its nl }):=by simpa using hp
      rw [e]
    rcases step with ⟨stop,qn⟩ | ⟨go,N,hN,step⟩
    · refine wpAny_mono (T.done (bc X NY scope s H C fp) rfl rfl rfl hc i _ s3 τ H3 (fun _ _=>False) I3p (fpo fr3 single) st3 stop) (fun r s4 ⟨hr,I4⟩=>?_) fun _ _ e=>e
      subst hr
      obtain ⟨mC,hnC,_⟩:=id I4.loc
      obtain ⟨e4,d4,_⟩:=I4.pin (D,{ cls:=.type "list",data:=.seq its nl }) (by simp [bc])
      have lt4:∀ b o,s.heap.get? b=some o->b ≠ D:=fun b o e=>Cs (below b o e)
      have u4:=I4.base
      refine hRR D C s4 ys H3 mC hnC d4 ?_ ?_ qn
      · exact (I.fpOk (by rw [hD];exact hCle) (by exact I4.free)).of_upd (Ne.symm hDC)
      · refine I.call' (ch:=fp) I4.os (H':=upd H3 D (.lst ys)) ⟨u4.keep,u4.slot,fun b o e n hx=>?_,u4.there,fun b xs e=>?_,fun b o u e=>?_,fun b ps e=>?_⟩ ?_ I4.bare fun b hb=>?_
        · rw [aL (lt4 b o e)];exact u4.free b o e n hx
        · have q:=u4.tups b xs e;rw [aL (bz q d4)];exact q
        · have q:=u4.frzs b o u e;rw [aL (bz q d4)];exact q
        · obtain ⟨more,q⟩:=u4.tbls b ps e;exact ⟨more,by rw [aL (bz q d4)];exact q⟩
        · exact I4.hok.track d4 ⟨Nat.le_of_lt zl,its.toList,nl,v3,by simpa using e4⟩
        · exact ⟨(f b hb).2.2.2.1,(f b hb).2.1,(f b hb).2.2.2.2.1,(f b hb).2.2.2.2.2⟩
    · refine wpAny_mono (T.item (bc X NY scope s H C fp) rfl rfl rfl hc i _ s3 τ H3 (fun _ _=>False) I3p (fpo fr3 single) st3 go) (fun r s4 ⟨u,hr,h4⟩=>?_) fun _ _ e=>e
      subst hr
      refine wpAny_mono h4 (fun _ s5 ⟨x,H5,I5,r5,y5,st5,fr5⟩=>?_) fun _ _ e=>e
      have I5':=I5.pinned (fpo fr5 single) (T.obj _ _ st5)
      refine wpAny_mono (hg s H C fp _ s5 τ H5 x u _ I5' r5 (step x H5 y5)) (fun _ s6 ⟨τ6,H6,I6,q6⟩=>?_) fun _ _ e=>e
      refine wpAny_mono (ht s H C fp _ s6 τ6 H6 _ I6 q6) (fun b s7 ⟨H7,I7,q7⟩=>?_) fun _ _ e=>e
      have after:∀ {s':Shared} {H':Hp},Inv (bc X NY scope s H C fp) ([(D,{ cls:=.type "list",data:=.seq its nl })] ++ lB fp s5.heap) τ6 H' s'->tn (i+1) s'.heap/\(∀ b ∈ fp,H' b=none)/\H' D=none/\s'.heap.PlainList D its:=fun {s' H'} I' =>
        ⟨T.keep _ _ _ st5 fun b hb o e=>(I'.pin (b,o) (Ce _ (Ce _ (gk hb e)))).1,fun b hb=>by
          obtain ⟨o,e,d⟩:=T.obj _ _ st5 b hb
          exact (I'.pin (b,o) (Ce _ (Ce _ (gk hb e)))).2.1,(I'.pin (D,_) (Ce _ (Cd _ (CH.mpr rfl)))).2.1,
          nl,(I'.pin (D,_) (Ce _ (Cd _ (CH.mpr rfl)))).1⟩
      cases b with
      | false =>
        rw [if_neg Cr]
        rw [if_neg Cr] at q7
        obtain ⟨m',hm,w7⟩:=hN _ _ _ q7
        obtain ⟨a1,a2,a3,a4⟩:=after I7
        exact ⟨m',hm,i+1,ys,τ6,H7,its,I7.pins_of (fun _ z=>absurd z (by simp)),a3,a4,v3,a1,a2,w7⟩
      | true =>
        rw [if_pos rfl]
        rw [if_pos rfl] at q7
        refine wpAny_mono (he s H C fp _ s7 τ6 H7 _ I7 q7) (fun y s8 ⟨yv,H8,I8,r8,n8⟩=>?_) fun _ _ e=>e
        obtain ⟨m',hm,w8⟩:=hN _ _ _ n8
        obtain ⟨a1,a2,a3,a4⟩:=after I8
        have hsz0:ys.length=its.size:=by simpa using v3.length
        have hsz:its.size<=sizeLine:=by omega
        refine wpAny_list_append_plain (hsz:=hsz) a4 fun h9 l9 sb9=>?_
        have I9:Inv (bc X NY scope s H C fp) [] τ6 H8 { s8 with heap:=h9,toks:=s8.toks }:=(I8.pins_of (pins':=[]) fun _ z=>absurd z (by simp)).turned (it:=D) (fun b o hb e=>(sb9.2 b hb).trans e) a3 hDC (.inr (by show s.heap.objs.size<=D;rw [hD];exact Cq _)) (fun x c e z=>?_) fun p z=>absurd (show p ∈ ([]:List (Addr × Obj)) from z) (by simp)
        · refine ⟨m',hm,i+1,ys ++ [yv],τ6,H8,its.push y,I9,a3,l9,?_,T.keep _ _ _ a1 fun b hb o e=>(sb9.2 b (Cs (hfpD b hb))).trans e,a2,w8⟩
          rw [Array.toList_push]
          exact v3.append (.cons r8 .nil)
        · obtain ⟨v,o,ho,_⟩:=I.cell x c (n6 e)
          exact Nat.lt_irrefl _ (z ▸ below c o ho)
  exact codeAny_compStart_list (loop _ rfl) (T.self X.A 0 _ _ _ (T.keep _ _ _ st fun b _ o e=>old b o e) (loop _ rfl))
theorem yQ {elt tg iter:Expr} {ifs:List Expr} {scope:Scope} {pos:Pos} {wi:TI} {g:TG} {tc:TT} {te:TE} (NY:List Str) (ix:List (Option Nat)) (hc:X.calm=true) (hi:PI X tg iter wi)
    (hg:∀ s H C fp,PG (bc X NY scope s H C fp) tg g) (ht:∀ s H C fp,PTs (bc X NY scope s H C fp) ifs tc) (he:∀ s H C fp,PE (bc X NY scope s H C fp) elt te)
    (ck:j4 scope X.N X.env.scope NY ix=true) (hs:∀ x,foldedSetIterable iter X.env x=pure x:=by intro _;rfl):PE X (.ListComp elt [⟨tg,iter,ifs,0⟩] scope pos) (z5 wi g tc te ix):=by
  intro pins s σ H Q I h
  have ck:=CompOk.of ck
  rw [eval_ListComp]
  refine wpAny_comprehension_free (use:=none) rfl hs (ie (scope:=scope) (env:=X.env) fun x m e=>?_) ck.kind ck.loc (thn (hi pins s σ H _ I h) fun v s1 h1=>thn h1 fun itv s2 h2=>?_)
  · rcases ck.out x m e with q | q
    · exact I.ok.has x.1 (.inl q)
    · exact I.ok.has x.1 (.inr q)
  · obtain ⟨it,fp,tn,J,H2,e,I2,T,st2,f2,hW⟩:=h2
    subst e
    refine pM (RR:=fun acc C=>compPost (model X.prog X.w) X.A X.xe none (EP X pins σ Q) acc C) hc ck hg ht he I2 T st2 f2 hW ?_
    intro D C s' ys H' m hn hD fC I' hZ
    obtain ⟨f0,f1,f2,f3,f4,f5⟩:=fC
    exact ⟨m,hn,fun h' sb=>⟨.ref D,_,I'.turned (t':=s'.toks) (fun b o hb e=>(sb.2 b hb).trans e) f0 f1 f3 f4 f5,rfl,hZ D hD⟩⟩
noncomputable def z8 (i:Nat) (wi:TI) (g:TG) (tc:TT) (te:TE) (ix:List (Option Nat)):TS:=fun D σ H =>
  wi σ H fun J H1=>p9 J g tc te (fun ys H2=>∀ p,H2 p=none->D.nx (σ.set i (some (.ref p))) (upd H2 p (.lst ys))) (cap ix σ) H1
set_option tactic.hygienic true in
theorem qw {i:Nat} {y:Str} {py spos:Pos} {elt tg iter:Expr} {ifs:List Expr} {scope:Scope} {pos:Pos} {wi:TI} {g:TG} {tc:TT} {te:TE} (hN:X.N.Nodup) (hy:X.N[i]?=some y) (hx:Loc X.env.scope y) (NY:List Str) (ix:List (Option Nat)) (hc:X.calm=true) (hi:PI X tg iter wi)
    (hg:∀ s H C fp,PG (bc X NY scope s H C fp) tg g) (ht:∀ s H C fp,PTs (bc X NY scope s H C fp) ifs tc) (he:∀ s H C fp,PE (bc X NY scope s H C fp) elt te)
    (ck:j4 scope X.N X.env.scope NY ix=true)
    (hsw:swapsWith (.ListComp elt [⟨tg,iter,ifs,0⟩] scope pos) (some (.Name y py)) spos.line X.env=pure true:=by rfl)
    (hf:X.fn y=true\/X.env.scope.names.lookup y=some .local:=by first | exact .inl rfl | exact .inr rfl | assumption)
    (hs:∀ x,foldedSetIterable iter X.env x=pure x:=by intro _;rfl):PS X (.Assign [.Name y py] (.ListComp elt [⟨tg,iter,ifs,0⟩] scope pos) spos) (z8 i wi g tc te ix):=by
  intro pins s σ H D I h
  have ck:=CompOk.of ck
  rw [exec_Assign_Name_used _ _ _ _ hsw]
  refine B5 (wpAny_standAt (B5 ?_))
  show wpAny _ X.A (do let _ <- comprehension (.ListComp elt [⟨tg,iter,ifs,0⟩] scope pos) scope X.env _ (newList []) false (eval iter X.env) (some (assign (.Name y py) X.env))) _ _ s
  refine B5 (wpAny_mono (wpAny_comprehension_free (use:=some (assign (.Name y py) X.env)) (Q:=fun _ s'=>SP X pins D .next s') rfl hs (ie (scope:=scope) (env:=X.env) fun x m e=>?_) ck.kind ck.loc
    (thn (hi pins s σ H _ I h) fun v s1 h1=>thn h1 fun itv s2 h2=>?_)) (fun _ s' hq=>B6 (B6 hq)) fun _ _ e=>e)
  · rcases ck.out x m e with q | q
    · exact I.ok.has x.1 (.inl q)
    · exact I.ok.has x.1 (.inr q)
  · obtain ⟨it,fp,tn,J,H2,e,I2,T,st2,f2,hW⟩:=h2
    subst e
    refine pM (RR:=fun acc C=>compPost (model X.prog X.w) X.A X.xe (some (assign (.Name y py) X.env)) (fun _ s'=>SP X pins D .next s') acc C) hc ck hg ht he I2 T st2 f2 hW ?_
    intro D' C s' ys H' m hn hD fC I' hZ
    obtain ⟨f0,f1,f2,f3,f4,f5⟩:=fC
    show wpAny _ X.A (assign (.Name y py) X.env (.ref D')) _ _ _
    refine wpAny_assign_Name (mI I' hN hy hx (v:=.ref D') rfl (fun s'' I'' ⟨a,sb,ha⟩=>?_) hf)
    have hCa:C ≠ a:=by
      rcases ha with e | e
      · rw [e];exact f1
      · exact fun z=>f4 y a e z.symm
    exact ⟨m,hn.sameBut sb hCa,fun h' sb'=>⟨_,_,I''.turned (t':=s''.toks) (fun b o hb e=>(sb'.2 b hb).trans e) f0 f1 f3 f4 f5,hZ D' hD⟩⟩
end
end L2
end
section
namespace L2
open PySem PySem.Spec PyProof.Rows
section
variable {X:Cx}
inductive KindOf (K:FG) (H:Hp):V->String->Prop
  | int (i:Int):KindOf K H (.int i) "int"
  | bool (b:Bool):KindOf K H (.bl b) "bool"
  | str (x:Str):KindOf K H (.str x) "str"
  | non:KindOf K H .non "NoneType"
  | tuple {a:Addr} {xs:List V}:SqT K H a xs->KindOf K H (.ref a) "tuple"
  | list {a:Addr} {xs:List V}:SqL K H a xs->KindOf K H (.ref a) "list"
  | dK {a:Addr} {kvs}:H a=some (.dK kvs)->KindOf K H (.ref a) "dict"
  | dT {a:Addr} {kvs}:H a=some (.dT kvs)->KindOf K H (.ref a) "dict"
noncomputable def pA (k t:String):Bool:=k == t || (k == "bool" && t == "int")
theorem Inv.clsK {pins:List (Addr × Obj)} {s:Shared} {σ:St} {H:Hp} {a:Addr} {k:String} (I:Inv X pins σ H s) (h:KindOf X.K H (.ref a) k):∃ o,s.heap.get? a=some o/\o.cls=.type k:=by
  cases h with
  | tuple h=>obtain ⟨its,_,⟨o,e,c,_⟩,_⟩:=I.tuple h;exact ⟨o,e,c⟩
  | list h=>obtain ⟨its,_,⟨o,n,e,c,_⟩,_⟩:=I.list h;exact ⟨o,e,c⟩
  | dK h=>obtain ⟨_,_,_,_,o,_,_,e,c,_⟩:=I.hok a _ h;exact ⟨o,e,c.1⟩
  | dT h=>obtain ⟨_,_,_,_,o,_,_,e,c,_⟩:=I.hok a _ h;exact ⟨o,e,c.1⟩
theorem jD:CallR X (.builtin "isinstance") (fun xs H Q=>∃ x k,xs=[x,.ty "int"]/\KindOf X.K H x k/\Q (.bl (pA k "int")) H):=by
  intro pins s σ H xs us Q I r h
  obtain ⟨x,k,rfl,hk,q⟩:=h
  obtain ⟨u,v,rfl,ru,rv⟩:=mB r
  cases (show v=Value.type "int" from rv)
  cases hk with
  | int i=>obtain ⟨tk,rfl⟩:=ru;exact IsiPair.int_int ⟨.bl true,H,I,rfl,q⟩
  | bool b=>cases (show u=Value.bool b from ru);exact IsiPair.bool_int ⟨.bl true,H,I,rfl,q⟩
  | str z=>obtain ⟨tk,rfl⟩:=ru;exact IsiPair.str_int ⟨.bl false,H,I.tok _,rfl,q⟩
  | non=>cases (show u=Value.none from ru);exact IsiPair.NoneType_int ⟨.bl false,H,I.tok _,rfl,q⟩
  | tuple hh=>cases ru;obtain ⟨o,e,c⟩:=I.clsK (.tuple hh);exact IsiPair.tuple_int e c ⟨.bl false,H,I.tok _,rfl,q⟩
  | list hh=>cases ru;obtain ⟨o,e,c⟩:=I.clsK (.list hh);exact IsiPair.list_int e c ⟨.bl false,H,I.tok _,rfl,q⟩
  | dK hh=>cases ru;obtain ⟨o,e,c⟩:=I.clsK (.dK hh);exact IsiPair.dict_int e c ⟨.bl false,H,I.tok _,rfl,q⟩
  | dT hh=>cases ru;obtain ⟨o,e,c⟩:=I.clsK (.dT hh);exact IsiPair.dict_int e c ⟨.bl false,H,I.tok _,rfl,q⟩
theorem iS:CallR X (.builtin "isinstance") (fun xs H Q=>∃ x k,xs=[x,.ty "bool"]/\KindOf X.K H x k/\Q (.bl (pA k "bool")) H):=by
  intro pins s σ H xs us Q I r h
  obtain ⟨x,k,rfl,hk,q⟩:=h
  obtain ⟨u,v,rfl,ru,rv⟩:=mB r
  cases (show v=Value.type "bool" from rv)
  cases hk with
  | int i=>obtain ⟨tk,rfl⟩:=ru;exact IsiPair.int_bool ⟨.bl false,H,I.tok _,rfl,q⟩
  | bool b=>cases (show u=Value.bool b from ru);exact IsiPair.bool_bool ⟨.bl true,H,I,rfl,q⟩
  | str z=>obtain ⟨tk,rfl⟩:=ru;exact IsiPair.str_bool ⟨.bl false,H,I.tok _,rfl,q⟩
  | non=>cases (show u=Value.none from ru);exact IsiPair.NoneType_bool ⟨.bl false,H,I.tok _,rfl,q⟩
  | tuple hh=>cases ru;obtain ⟨o,e,c⟩:=I.clsK (.tuple hh);exact IsiPair.tuple_bool e c ⟨.bl false,H,I.tok _,rfl,q⟩
  | list hh=>cases ru;obtain ⟨o,e,c⟩:=I.clsK (.list hh);exact IsiPair.list_bool e c ⟨.bl false,H,I.tok _,rfl,q⟩
  | dK hh=>cases ru;obtain ⟨o,e,c⟩:=I.clsK (.dK hh);exact IsiPair.dict_bool e c ⟨.bl false,H,I.tok _,rfl,q⟩
  | dT hh=>cases ru;obtain ⟨o,e,c⟩:=I.clsK (.dT hh);exact IsiPair.dict_bool e c ⟨.bl false,H,I.tok _,rfl,q⟩
theorem ig:CallR X (.builtin "isinstance") (fun xs H Q=>∃ x k,xs=[x,.ty "tuple"]/\KindOf X.K H x k/\Q (.bl (pA k "tuple")) H):=by
  intro pins s σ H xs us Q I r h
  obtain ⟨x,k,rfl,hk,q⟩:=h
  obtain ⟨u,v,rfl,ru,rv⟩:=mB r
  cases (show v=Value.type "tuple" from rv)
  cases hk with
  | int i=>obtain ⟨tk,rfl⟩:=ru;exact IsiPair.int_tuple ⟨.bl false,H,I.tok _,rfl,q⟩
  | bool b=>cases (show u=Value.bool b from ru);exact IsiPair.bool_tuple ⟨.bl false,H,I.tok _,rfl,q⟩
  | str z=>obtain ⟨tk,rfl⟩:=ru;exact IsiPair.str_tuple ⟨.bl false,H,I.tok _,rfl,q⟩
  | non=>cases (show u=Value.none from ru);exact IsiPair.NoneType_tuple ⟨.bl false,H,I.tok _,rfl,q⟩
  | tuple hh=>cases ru;obtain ⟨o,e,c⟩:=I.clsK (.tuple hh);exact IsiPair.tuple_tuple e c ⟨.bl true,H,I,rfl,q⟩
  | list hh=>cases ru;obtain ⟨o,e,c⟩:=I.clsK (.list hh);exact IsiPair.list_tuple e c ⟨.bl false,H,I.tok _,rfl,q⟩
  | dK hh=>cases ru;obtain ⟨o,e,c⟩:=I.clsK (.dK hh);exact IsiPair.dict_tuple e c ⟨.bl false,H,I.tok _,rfl,q⟩
  | dT hh=>cases ru;obtain ⟨o,e,c⟩:=I.clsK (.dT hh);exact IsiPair.dict_tuple e c ⟨.bl false,H,I.tok _,rfl,q⟩
theorem uT {bs:List Bool}:((List.range bs.length).all fun i=>bs.getD i false)=bs.all id:=by
  rw [Bool.eq_iff_iff]
  simp only [List.all_eq_true,List.mem_range,id]
  constructor
  · intro h b hb
    obtain ⟨i,hi,rfl⟩:=List.mem_iff_getElem.mp hb
    simpa [List.getD,hi] using h i hi
  · intro h i hi
    simpa [List.getD,hi] using h _ (List.getElem_mem hi)
theorem jE (hc:X.calm=true):CallR X (.builtin "all") (fun xs H Q=>∃ (a:Addr) (bs:List Bool),xs=[.ref a]/\SqL X.K H a (bs.map V.bl)/\Q (.bl (bs.all id)) H):=by
  intro pins s σ H xs us Q I r h
  obtain ⟨a,bs,rfl,hq,q⟩:=h
  obtain ⟨u,rfl,ru⟩:=iK r
  cases ru
  obtain ⟨its,rv,p,hz⟩:=I.list hq
  have hl:=rv.length
  rw [Ck] at hl
  have hlt:a < s.heap.objs.size:=by obtain ⟨o,_,e,_⟩:=id p;exact Ch e
  refine call_all_walk (wpAny_pyIter_list p.isList ?_)
  refine ⟨s.heap.objs.size,_,_,_,_,_,fun i=>bs.getD i false,rfl,Walks.list (show X.A.in1.handled=none from I.ok.hd hc) s.heap.objs.size a (Cs hlt) its.toArray,⟨⟨_,Cj _ rfl,rfl,rfl⟩,p.isList.at fun o e=>Ca _ e⟩,?_,?_⟩
  · intro i v s' Q' E' hv hQ'
    have hv':its[i]?=some v:=by simpa using hv
    have hi:i < bs.length:=by
      have:=(Cl.mp hv').1
      omega
    obtain ⟨u,hu,ru⟩:=rv.get (i:=i) (x:=V.bl (bs[i])) (by simp [hi])
    rw [hv'] at hu
    cases hu
    cases (show v=Value.bool bs[i] from ru)
    refine CN ?_
    have e:bs.getD i false=bs[i]:=by simp [List.getD,hi]
    have hQ2:Q' (bs.getD i false) s':=hQ'
    rw [e] at hQ2
    exact hQ2
  · intro h' tk hk
    have I1:Inv X pins σ H { s with heap:=h',toks:=tk }:=I.kept fun b o e=>hk b o (by
      intro hm
      have e':b=s.heap.objs.size:=by simpa using hm
      exact absurd (e' ▸ Ch e) (Nat.lt_irrefl _)) (Ca _ e)
    refine ⟨.bl (bs.all id),H,I1,?_,q⟩
    show Value.bool _=Value.bool _
    rw [Ct,<- hl,uT]
end
end L2
end
section
namespace L2
open PySem PySem.Spec PyProof.Rows
structure Callee (P:Program) (w:World) (K:FG) (mg:Str->Option Value) (base:Heap) (x:Str) (k:Nat) (ps:List Str) (sp:Sp):Prop where
  ex:∃ (f:Addr) (fd:FuncData),FnOk P w K mg base CX0 k f fd ps sp/\mg x=some (.ref f)/\PySem.W.keepIn K (.ref f)=true/\Binds K fd ps []
structure DefAt (K:FG) (mg:Str->Option Value) (x:Str) (st:Stmt) (f:Addr) (fd:FuncData):Prop where
  fn:Fun K x x st f fd
  mg:mg x=some (.ref f)
noncomputable def Def (K:FG) (mg:Str->Option Value) (x:Str) (st:Stmt):Prop:=∃ f fd,DefAt K mg x st f fd
theorem Def.callee {P:Program} {w:World} {K:FG} {mg:Str->Option Value} {base:Heap} {x:Str} {st:Stmt} {k:Nat} {ps:List Str} {sp:Sp} (D:Def K mg x st)
    (hb:∀ (kV doc pm:Value) (an:Option Addr) (cdv ct:Value) (us:List Value),us.length=ps.length->bindArgs (PySem.W.fnOf x x (bD st) (ba st) (al st) .none kV doc pm an cdv ct) ⟨us,[]⟩=pure (ps.zip us))
    (h:∀ f fd,Fun K x x st f fd->FnOk P w K mg base CX0 k f fd ps sp):Callee P w K mg base x k ps sp :=
  let ⟨f,fd,d⟩:=D
  ⟨f,fd,h f fd d.fn,d.mg,d.fn.kp,d.fn.binds hb⟩
section
variable {X:Cx} {x:Str} {p pos:Pos} {e:Expr} {es:List Expr} {t:TA} {k:Nat} {ps:List Str} {sp:Sp}
noncomputable def tFn (sp:Sp) (t:TA):TE:=fun σ H Q=>t σ H fun vs H1=>sp vs H1 Q E0
theorem pe_fn (c:Callee X.prog X.w X.K X.mg X.base x k ps sp) (hr:Room k X.A) (ha:PA X (e :: es) t) (hg:Gl X x:=by rfl) (hdb:(x == ("__debug__":Str))=false:=by decide)
    (he:starEach (e :: es) X.env=(false,eval e X.env) :: starEach es X.env:=by rfl) (hpl:(backTo pos (starEach es X.env)).any (·.1)=false:=by rfl):PE X (.Call (.Name x p) (e :: es) [] pos) (tFn sp t):=by
  obtain ⟨f,fd,F,hm,hk,hb⟩:=c.ex
  have h:=yS (pos:=pos) (p:=p) (dvs:=[]) (E:=E0) F hr hg hm hk hb .nil pass0 ha hdb he hpl
  intro pins s σ H Q I q
  refine h pins s σ H Q I ?_
  show t σ H fun vs H1=>sp (vs ++ []) H1 Q E0
  have q':t σ H (fun vs H1=>sp vs H1 Q E0):=q
  simpa using q'
end
noncomputable def But (p:Addr) (H H':Hp):Prop:=∀ b o,H b=some o->b ≠ p->H' b=some o
theorem But.trans {p:Addr} {H H1 H2:Hp} (a:But p H H1) (b:But p H1 H2):But p H H2:=fun c o h n=>b c o (a c o h n) n
noncomputable abbrev Pt:=Int × Int
noncomputable def aU (p q r:Pt):Int:=(q.1 - p.1) * (r.2 - p.2) - (q.2 - p.2) * (r.1 - p.1)
noncomputable def Small (p:Pt):Prop:=-(2 ^ 62) < p.1/\p.1 < 2 ^ 62/\-(2 ^ 62) < p.2/\p.2 < 2 ^ 62
noncomputable def Rising (ps:List Pt):Prop:=∀ (i j:Nat) (p q:Pt),i < j->ps[i]?=some p->ps[j]?=some q->p.1 < q.1
noncomputable def NoLine (ps:List Pt):Prop:=∀ (i j k:Nat) (p q r:Pt),i < j->j < k->ps[i]?=some p->ps[j]?=some q->ps[k]?=some r->aU p q r ≠ 0
structure GoodSh (ps:List Pt):Prop where
  pos:0 < ps.length
  most:ps.length<=24
  small:∀ p ∈ ps,Small p
  rising:Rising ps
  noline:NoLine ps
noncomputable def ke:List Pt->List (Pt × Pt)
  | []=>[]
  | p :: r=>r.map (fun q=>(p,q)) ++ ke r
theorem mT:∀ {ps:List Pt} {i j:Nat} {p q:Pt},i < j->ps[i]?=some p->ps[j]?=some q->(p,q) ∈ ke ps
  | [],_,_,_,_,_,h,_=>by simp at h
  | a :: r,0,0,_,_,h,_,_=>by omega
  | a :: r,0,j+1,p,q,_,h1,h2=>by
    simp at h1 h2;subst h1
    exact Cd _ (Co.mpr ⟨q,Cm h2,rfl⟩)
  | a :: r,i+1,0,_,_,h,_,_=>by omega
  | a :: r,i+1,j+1,p,q,h,h1,h2=>Ce _ (mT (ps:=r) (i:=i) (j:=j) (by omega) (by simpa using h1) (by simpa using h2))
theorem o5:∀ {ps:List Pt} {p q:Pt},(p,q) ∈ ke ps->∃ i j:Nat,i < j/\ps[i]?=some p/\ps[j]?=some q
  | [],_,_,h=>by simp [ke] at h
  | a :: r,p,q,h=>by
    rcases Ci.mp h with h | h
    · obtain ⟨z,hz,e⟩:=Co.mp h
      cases e
      obtain ⟨j,hj,e⟩:=List.mem_iff_getElem.mp hz
      exact ⟨0,j+1,by omega,rfl,by simp [hj,e]⟩
    · obtain ⟨i,j,h0,h1,h2⟩:=o5 h
      exact ⟨i+1,j+1,by omega,by simpa using h1,by simpa using h2⟩
theorem mP:∀ ps:List Pt,(ke ps).length<=ps.length * ps.length
  | []=>by simp [ke]
  | a :: r=>by
    have ih:=mP r
    simp only [ke,CB,Ck,CC]
    have:(r.length+1) * (r.length+1)=r.length * r.length+2 * r.length+1:=by
      rw [Nat.add_mul,Nat.mul_add];omega
    omega
noncomputable def rq (ps:List Pt) (z:Pt):Prop:=∀ (i j:Nat) (p q:Pt),i < j->ps[i]?=some p->ps[j]?=some q->aU p q z ≠ 0
noncomputable def above (ps:List Pt) (x y:Int):Nat:=((ke ps).filter fun pr=>decide (aU pr.1 pr.2 (x,y)<=0)).length
theorem xi {α:Type} {p q:α->Bool}:∀ {l:List α},(∀ a ∈ l,p a=true->q a=true)->(l.filter p).length<=(l.filter q).length
  | [],_=>by simp
  | a :: l,h=>by
    have ih:=xi (l:=l) fun b hb=>h b (B9 _ hb)
    have ha:=h a B8
    cases hp:p a with
    | true=>rw [List.filter_cons_of_pos hp,List.filter_cons_of_pos (ha hp)];simpa using ih
    | false =>
      rw [List.filter_cons_of_neg (by simp [hp])]
      cases hq:q a with
      | true=>rw [List.filter_cons_of_pos hq];simp;omega
      | false=>rw [List.filter_cons_of_neg (by simp [hq])];exact ih
theorem xh {α:Type} {p q:α->Bool}:∀ {l:List α} {z:α},(∀ a ∈ l,p a=true->q a=true)->z ∈ l->q z=true->p z=false->(l.filter p).length < (l.filter q).length
  | [],_,_,hz,_,_=>by simp at hz
  | a :: l,z,h,hz,h1,h2=>by
    have hl:∀ b ∈ l,p b=true->q b=true:=fun b hb=>h b (B9 _ hb)
    rcases Cf.mp hz with rfl | hz
    · rw [List.filter_cons_of_neg (by simp [h2]),List.filter_cons_of_pos h1]
      have:=xi hl
      simp;omega
    · have ih:=xh hl hz h1 h2
      have ha:=h a B8
      cases hp:p a with
      | true=>rw [List.filter_cons_of_pos hp,List.filter_cons_of_pos (ha hp)];simpa using ih
      | false =>
        rw [List.filter_cons_of_neg (by simp [hp])]
        cases hq:q a with
        | true=>rw [List.filter_cons_of_pos hq];simp;omega
        | false=>rw [List.filter_cons_of_neg (by simp [hq])];exact ih
theorem sI (p q:Pt) (x y:Int):aU p q (x,y+1)=aU p q (x,y)+(q.1 - p.1):=by
  unfold aU
  have e:(q.1 - p.1) * (y+1 - p.2)=(q.1 - p.1) * (y - p.2)+(q.1 - p.1):=by
    rw [show y+1 - p.2=(y - p.2)+1 by omega,Int.mul_add,Int.mul_one]
  show (q.1 - p.1) * (y+1 - p.2) - (q.2 - p.2) * (x - p.1)=(q.1 - p.1) * (y - p.2) - (q.2 - p.2) * (x - p.1)+(q.1 - p.1)
  rw [e];omega
theorem p8 {ps:List Pt} {x y:Int} (R:Rising ps) {i j:Nat} {p q:Pt} (hij:i < j) (hi:ps[i]?=some p) (hj:ps[j]?=some q) (h0:aU p q (x,y)=0):above ps x (y+1) < above ps x y:=by
  refine xh (z:=(p,q)) (fun pr hpr h=>?_) (mT hij hi hj) (by simp [h0]) ?_
  · obtain ⟨i',j',h',e1,e2⟩:=o5 (p:=pr.1) (q:=pr.2) hpr
    have:=R i' j' _ _ h' e1 e2
    have h:=of_decide_eq_true h
    rw [sI] at h
    exact Cv (by omega)
  · have:=R i j _ _ hij hi hj
    show decide (aU p q (x,y+1)<=0)=false
    rw [sI,h0]
    exact Cw (by omega)
theorem xx (ps:List Pt) (x y:Int):above ps x y<=ps.length * ps.length:=CO (List.length_filter_le _ _) (mP ps)
theorem dS {α:Type} {l:List α} {z a:α} {i:Nat} (h:(l ++ [z])[i]?=some a):(l[i]?=some a/\i < l.length)\/(a=z/\i=l.length):=by
  by_cases hi:i < l.length
  · rw [CK hi] at h;exact .inl ⟨h,hi⟩
  · rw [List.getElem?_append_right (by omega)] at h
    have:i - l.length=0:=by
      cases e:i - l.length with
      | zero=>rfl
      | succ n=>rw [e] at h;simp at h
    rw [this] at h;simp at h
    exact .inr ⟨h.symm,by omega⟩
theorem Rising.snoc {ps:List Pt} {z:Pt} (R:Rising ps) (h:∀ p ∈ ps,p.1 < z.1):Rising (ps ++ [z]):=fun i j p q hij h1 h2=>by
  rcases dS h1 with ⟨a1,b1⟩ | ⟨rfl,b1⟩
  · rcases dS h2 with ⟨a2,b2⟩ | ⟨rfl,b2⟩
    · exact R i j p q hij a1 a2
    · exact h p (Cm a1)
  · rcases dS h2 with ⟨a2,b2⟩ | ⟨rfl,b2⟩
    · omega
    · omega
theorem NoLine.snoc {ps:List Pt} {z:Pt} (N:NoLine ps) (F:rq ps z):NoLine (ps ++ [z]):=fun i j k p q r hij hjk h1 h2 h3=>by
  rcases dS h1 with ⟨a1,b1⟩ | ⟨rfl,b1⟩
  · rcases dS h2 with ⟨a2,b2⟩ | ⟨rfl,b2⟩
    · rcases dS h3 with ⟨a3,b3⟩ | ⟨rfl,b3⟩
      · exact N i j k p q r hij hjk a1 a2 a3
      · exact F i j p q hij a1 a2
    · rcases dS h3 with ⟨a3,b3⟩ | ⟨rfl,b3⟩ <;> omega
  · rcases dS h2 with ⟨a2,b2⟩ | ⟨rfl,b2⟩ <;> omega
section InBlock
variable {X:Cx} {NY:List Str} {scope:Scope} {s:Shared} {H:Hp} {C:Addr} {fp:List Addr}
end InBlock
end L2
end
section
namespace L2
open PySem PySem.Spec PyProof.Rows
mutual
inductive DV (K:FG) (H:Hp):V->PyData->Prop
  | non:DV K H .non .none
  | bl (b:Bool):DV K H (.bl b) (.bool b)
  | int (i:Int):DV K H (.int i) (.int i)
  | str (x:Str):DV K H (.str x) (.str x)
  | tup {a:Addr} {xs:List V} {ds:List PyData}:SqT K H a xs->DVs K H xs ds->DV K H (.ref a) (.tuple ds)
  | lst {a:Addr} {xs:List V} {ds:List PyData}:SqL K H a xs->DVs K H xs ds->DV K H (.ref a) (.list ds)
inductive DVs (K:FG) (H:Hp):List V->List PyData->Prop
  | nil:DVs K H [] []
  | cons {x:V} {d:PyData} {xs:List V} {ds:List PyData}:DV K H x d->DVs K H xs ds->DVs K H (x :: xs) (d :: ds)
end
section
variable {X:Cx} {pins:List (Addr × Obj)} {σ:St} {H:Hp} {s:Shared}
mutual
theorem DV.reads (I:Inv X pins σ H s):∀ {v:V} {d:PyData} {u:Value},DV X.K H v d->RelV v u->∃ as,Reads s.heap u d as
  | _,_,u,.non,r=>by cases (show u=Value.none from r);exact ⟨_,.none⟩
  | _,_,u,.bl b,r=>by cases (show u=Value.bool b from r);exact ⟨_,.bool b⟩
  | _,_,u,.int i,r=>by obtain ⟨t,rfl⟩:=r;exact ⟨_,.int i t⟩
  | _,_,u,.str x,r=>by obtain ⟨t,rfl⟩:=r;exact ⟨_,.str x t⟩
  | _,_,u,.tup (a:=a) h rs,r=>by
    cases (show u=Value.ref a from r)
    obtain ⟨its,rv,⟨o,e,c,n,d⟩,_⟩:=I.tuple h
    obtain ⟨as,q⟩:=DVs.reads I rs rv
    exact ⟨_,.tuple e c d (by simpa using q)⟩
  | _,_,u,.lst (a:=a) h rs,r=>by
    cases (show u=Value.ref a from r)
    obtain ⟨its,rv,⟨o,n,e,c,_,d⟩,_⟩:=I.list h
    obtain ⟨as,q⟩:=DVs.reads I rs rv
    exact ⟨_,.list e c d (by simpa using q)⟩
theorem DVs.reads (I:Inv X pins σ H s):∀ {v:List V} {d:List PyData} {us:List Value},DVs X.K H v d->Vals v us->∃ as,ReadsAll s.heap us d as
  | _,_,_,.nil,.nil=>⟨_,.nil⟩
  | _,_,_,.cons h r,.cons q t=>by
    obtain ⟨as,e1⟩:=DV.reads I h q
    obtain ⟨bs,e2⟩:=DVs.reads I r t
    exact ⟨_,.cons e1 e2⟩
end
end
end L2
end
section
namespace L2
open PySem PySem.Spec PyProof.Rows
end L2
end
section
namespace L2
open PySem PySem.Spec PyProof.Rows
end L2
end
section
namespace L2
open PySem PySem.Spec PyProof.Rows
end L2
end
section
namespace L2
open PySem PySem.Spec PyProof.Rows
end L2
end
section
namespace L2
open PySem PySem.Spec PyProof.Rows
section
variable {X:Cx}
theorem nV {ns:List Int} {us:List Value} (r:Vals (ns.map V.int) us):∃ xs:Array (Int × Tok),us.toArray=intItems xs/\ns=xs.toList.map (·.1):=by
  induction ns generalizing us with
  | nil=>cases r;exact ⟨#[],by simp [intItems],rfl⟩
  | cons n ns ih =>
    cases r with
    | cons q t =>
      obtain ⟨k,rfl⟩:=q
      obtain ⟨xs,e1,e2⟩:=ih t
      refine ⟨((n,k) :: xs.toList).toArray,?_,by simp [e2]⟩
      have e3:=congrArg Array.toList e1
      simp only [intItems,List.toList_toArray,Array.toList_map] at e3
      simp [intItems,e3]
theorem jP {xs:Array (Int × Tok)} {i:Nat} (h:i < xs.size):numAt xs i ∈ xs.toList.map (·.1):=by
  have e:(xs.toList.map (·.1))[i]?=some (numAt xs i):=by simp [numAt,h]
  exact Cm e
theorem jR {xs:Array (Int × Tok)} {n:Int} (h:n ∈ xs.toList.map (·.1)):∃ i,i < xs.size/\numAt xs i=n:=by
  obtain ⟨i,hi,e⟩:=List.mem_iff_getElem.mp h
  have hi':i < xs.size:=by simpa using hi
  refine ⟨i,hi',?_⟩
  rw [<- e]
  simp [numAt,hi']
theorem uF (hc:X.calm=true):CallR X (.builtin "min") (fun xs H Q=>∃ (l:Addr) (ns:List Int),xs=[.ref l]/\SqL X.K H l (ns.map V.int)/\ns ≠ []/\∀ m,m ∈ ns->(∀ n ∈ ns,m<=n)->Q (.int m) H):=by
  intro pins s σ H xs us Q I r h
  obtain ⟨l,ns,rfl,hl,hn,q⟩:=h
  obtain ⟨u,rfl,ru⟩:=iK r
  cases (show u=Value.ref l from ru)
  obtain ⟨its,rv,p,hz⟩:=I.list hl
  obtain ⟨ys,e1,e2⟩:=nV rv
  have hs:0 < ys.size:=by
    have:=List.length_pos_iff.mpr hn
    rw [e2] at this
    simpa using this
  have pl:=p.isList
  rw [e1] at pl
  refine min_intList (I.ok.hd hc) pl hs fun v h' tk hv hk=>?_
  obtain ⟨t,rfl⟩:=intItems_at hv
  obtain ⟨b1,b2⟩:=argBest_lt (numAt ys) (ys.size - 1)
  refine ⟨.int _,H,I.kept hk,⟨t,rfl⟩,q _ (by rw [e2];exact jP (by omega)) fun n hm=>?_⟩
  rw [e2] at hm
  obtain ⟨i,hi,rfl⟩:=jR hm
  exact b2 i (by omega)
end
end L2
end
section
namespace L2
open PySem PySem.Spec PyProof.Rows
noncomputable def Av (b:Option (Int × Tok)):Array Value:=match b with | none=>#[] | some p=>#[.int p.1 p.2,.int p.1 p.2]
noncomputable def ot (xs:Array (Int × Tok)) (j:Nat) (b:Option (Int × Tok)):Prop:=match b with
  | none=>j=0
  | some p=>(∃ i,i < j/\numAt xs i=p.1)/\∀ i,i < j->numAt xs i<=p.1
section
variable {prog:Program} {w:World} {A:Around} {R:Result->Shared->Prop}
theorem tU (hh:A.handled=none) {I l S:Addr} (hIl:l ≠ I) (hSI:S ≠ I) (hSl:S ≠ l) (xs:Array (Int × Tok)) (d:Value):∀ (k j:Nat) (s:Shared) (b:Option (Int × Tok)) (c:Nat),xs.size - j=k->j<=xs.size->s.heap.IsListIter I l j->s.heap.IsList l (intItems xs) ->
    s.heap.get? S=some { cls:=.type "list",dict:=none,data:=.seq (Av b) c,slots:=#[] }->ot xs j b ->
    (∀ v h' tk,((xs.size=0/\v=d)\/∃ p:Int × Tok,v=.int p.1 p.2/\ot xs xs.size (some p))->(∀ a o,a ≠ I->a ≠ S->s.heap.get? a=some o->h'.get? a=some o)->R (.ok (.ret v)) { s with heap:=h',toks:=tk }) ->
    codeAny (model prog w) A (.builtin "max.loop" ⟨[.ref I,.none,.ref S],[("default",d)]⟩) R s:=by
  have nm:(toString "max" ++ toString ".loop":String) = "max.loop":=by decide
  intro k
  induction k with
  | zero =>
    intro j s b c hk hj hit hl hS hb fin
    obtain rfl:j=xs.size:=by omega
    refine codeAny_builtin F.entry_max_loop ?_
    rw [Around.under_plainId F.plain_max_loop _]
    show wpAny _ A.in1 (seqItems? (.ref S) >>= _) _ _ s
    refine B5 (wpAny_seqItems hS rfl ?_)
    show wpAny _ A.in1 (tryCatch (pyNext (.ref I)) _ >>= _) _ _ s
    refine B5 (wpAny_tryCatch (wpAny_pyNext_list_end (show A.in1.handled=none from hh) hit hl (by simp [intItems]) fun h' eb=>?_))
    cases b with
    | none =>
      have h0:xs.size=0:=hb
      show wpAny _ A.in1 (rule _ >>= fun _=>ret d) _ _ _
      exact B5 (wpAny_rule (B6 (fin d h' s.toks (.inl ⟨h0,rfl⟩) fun a o ha _ e=>eb a o ha e)))
    | some p =>
      have hS':=eb S _ hSI hS
      show wpAny _ A.in1 (updateSeq S (fun _=>#[]) >>= _) _ _ _
      refine B5 (wpAny_updateSeq hS' rfl (B5 (wpAny_letGo (B6 ?_))) (hz:=by show 2<=sizeLine;decide))
      exact fin _ _ s.toks (.inr ⟨p,rfl,hb⟩) fun a o ha hs e=>(CL _ _ (Ne.symm hs)).trans (eb a o ha e)
  | succ k ih =>
    intro j s b c hk hj hit hl hS hb fin
    have hlt:j < xs.size:=by omega
    obtain ⟨x,hx⟩:∃ x,xs[j]?=some x:=⟨xs[j],by simp [hlt]⟩
    have hv:(intItems xs)[j]?=some (.int x.1 x.2):=by simp [intItems,hx]
    have hnum:numAt xs j=x.1:=by simp [numAt,hx]
    refine codeAny_builtin F.entry_max_loop ?_
    rw [Around.under_plainId F.plain_max_loop _]
    show wpAny _ A.in1 (seqItems? (.ref S) >>= _) _ _ s
    refine B5 (wpAny_seqItems hS rfl ?_)
    show wpAny _ A.in1 (tryCatch (pyNext (.ref I)) _ >>= _) _ _ s
    refine B5 (wpAny_tryCatch (wpAny_pyNext_list_item hit hl hv fun h' hit' sb=>?_))
    have hS':h'.get? S=_:=(sb.2 S hSI).trans hS
    have hl':h'.IsList l (intItems xs):=hl.at fun o e=>(sb.2 l hIl).trans e
    have on:∀ (h2:Heap) (tk:Nat) (b':Option (Int × Tok)) (c':Nat),(∀ a o,a ≠ S->h'.get? a=some o->h2.get? a=some o)->h2.get? S=some { cls:=.type "list",dict:=none,data:=.seq (Av b') c',slots:=#[] }->ot xs (j+1) b' ->
        codeAny (model prog w) A (.builtin "max.loop" ⟨[.ref I,.none,.ref S],[("default",d)]⟩) R { s with heap:=h2,toks:=tk }:=fun h2 tk b' c' k2 hS2 hb' =>
      ih (j+1) _ b' c' (by omega) hlt (hit'.at fun o e=>k2 I o (Ne.symm hSI) e) (hl'.at fun o e=>k2 l o (Ne.symm hSl) e) hS2 hb' fun v h3 tk' hv' k3=>fin v h3 tk' hv' fun a o ha hs e=>k3 a o ha hs (k2 a o hs ((sb.2 a ha).trans e))
    cases b with
    | none =>
      have h0:j=0:=hb
      show wpAny _ A.in1 (updateSeq S (fun _=>#[.int x.1 x.2,.int x.1 x.2]) >>= _) _ _ _
      refine B5 (wpAny_updateSeq hS' rfl ?_)
      rw [nm]
      refine B6 ⟨plainId_quiet F.plain_max_loop _,on _ s.toks (some x) _ (fun a o ha e=>(CL _ _ (Ne.symm ha)).trans e) (CA _ hS' rfl) ⟨⟨j,by omega,hnum⟩,fun i hi=>?_⟩⟩
      obtain rfl:i=j:=by omega
      omega
    | some p =>
      obtain ⟨⟨i0,hi0,e0⟩,hle⟩:=hb
      show wpAny _ A.in1 (tryCatch (holding [.int x.1 x.2,.int x.1 x.2] (richCompare .Gt (.int x.1 x.2) (.int p.1 p.2) >>= _)) _ >>= _) _ _ _
      refine B5 (wpAny_tryCatch (B7 (B5 ?_)))
      refine (gt_int (a:=x.1) (b:=p.1) ?_:wpAny (model prog w) A.in1 (compareOp .Gt (.int x.1 x.2) (.int p.1 p.2)) _ _ _)
      refine B5 (B7 (CN (B5 (wpAny_letGo (B6 ?_)))))
      by_cases hgt:p.1 < x.1
      · rw [Cv hgt,if_pos rfl]
        refine B5 (wpAny_updateSeq hS' rfl (B5 (wpAny_letGo ?_)) (hz:=by show 2<=sizeLine;decide))
        rw [nm]
        refine B6 ⟨plainId_quiet F.plain_max_loop _,on _ s.toks (some x) _ (fun a o ha e=>(CL _ _ (Ne.symm ha)).trans e) (CA _ hS' rfl) ⟨⟨j,by omega,hnum⟩,fun i hi=>?_⟩⟩
        by_cases hij:i=j
        · subst hij;omega
        · have:=hle i (by omega);omega
      · rw [Cw hgt,if_neg Cr]
        refine B5 (wpAny_letGo ?_)
        rw [nm]
        refine B6 ⟨plainId_quiet F.plain_max_loop _,on h' s.toks (some p) c (fun a o _ e=>e) hS' ⟨⟨i0,by omega,e0⟩,fun i hi=>?_⟩⟩
        by_cases hij:i=j
        · subst hij;omega
        · exact hle i (by omega)
end
end L2
end
section
namespace L2
open PySem PySem.Spec PyProof.Rows
section
variable {prog:Program} {w:World} {A:Around} {E:Value->Shared->Prop} {s:Shared} {l:Addr} {xs:Array (Int × Tok)}
theorem tL {t:Addr} {h':Heap} (hk:∀ b o,b ∉ [s.heap.objs.size]->(s.heap.push { cls:=.type "tuple_iterator",data:=.fields #[.ref t,.int 0 0] }).get? b=some o->h'.get? b=some o) :
    ∀ b o,s.heap.get? b=some o->h'.get? b=some o:=fun b o e=>by
  refine hk b o (fun hm=>?_) (Ca _ e)
  rcases Cf.mp hm with e1 | hm
  · exact absurd (e1 ▸ Ch e) (Nat.lt_irrefl _)
  · cases hm
theorem mx {t:Addr} {items:Array Value} {Q:Value->Shared->Prop} (ht:s.heap.IsTuple t items)
    (h:∀ s₂:Shared,s₂ = { s with heap:=s.heap.push { cls:=.type "tuple_iterator",data:=.fields #[.ref t,.int 0 0] } } ->
      (s₂.heap.IsTupleIter s.heap.objs.size t 0/\s₂.heap.IsTuple t items)->(∀ b ∈ [s.heap.objs.size,t],b < s₂.heap.objs.size)->t ≠ s.heap.objs.size->Q (.ref s.heap.objs.size) s₂) :
    wpAny (model prog w) A (pyIter (.ref t)) Q E s:=by
  have hlt:t < s.heap.objs.size:=by obtain ⟨_,e,_⟩:=ht;exact Ch e
  refine wpAny_pyIter_tuple ht (h _ rfl ⟨⟨_,Cj _ rfl,rfl,rfl⟩,ht.push _⟩ (fun b hb=>?_) (Cs hlt))
  show b < (s.heap.push _).objs.size
  rw [CM]
  rcases Cf.mp hb with rfl | hb
  · exact Nat.lt_succ_self _
  · rcases Cf.mp hb with rfl | hb
    · exact Nat.lt_succ_of_lt hlt
    · cases hb
theorem nP {t:Addr} {Q:Value->Shared->Prop} (hh:A.handled=none) (hl:s.heap.IsTuple t (intItems xs)) (hne:0 < xs.size)
    (h:∀ v h' tk,(intItems xs)[argBest (fun i j=>decide (numAt xs i < numAt xs j)) (xs.size - 1)]?=some v->(∀ b o,s.heap.get? b=some o->h'.get? b=some o)->Q v { s with heap:=h',toks:=tk }) :
    wpAny (model prog w) A (call (.builtin "min") [.ref t]) Q E s:=by
  refine call_min_walk (mx hl fun s₂ e st hfp hlI=>?_)
  subst e
  refine ⟨_,_,_,_,_,_,_,rfl,Walks.tuple (A:=A.in1) hh _ t hlI (intItems xs),st,hfp,by simpa [intItems] using hne,CmpOf.ints_lt (numAt xs) (fun _ _=>intItems_at),fun v h' tk hP hk=>?_⟩
  exact h v h' tk (by simpa [intItems] using hP) (tL hk)
end
section
variable {X:Cx}
theorem uD (hc:X.calm=true):CallR X (.builtin "min") (fun xs H Q=>∃ (l:Addr) (ns:List Int),xs=[.ref l]/\SqT X.K H l (ns.map V.int)/\ns ≠ []/\∀ m,m ∈ ns->(∀ n ∈ ns,m<=n)->Q (.int m) H):=by
  intro pins s σ H xs us Q I r h
  obtain ⟨l,ns,rfl,hl,hn,q⟩:=h
  obtain ⟨u,rfl,ru⟩:=iK r
  cases (show u=Value.ref l from ru)
  obtain ⟨its,rv,p,hz⟩:=I.tuple hl
  obtain ⟨ys,e1,e2⟩:=nV rv
  have hs:0 < ys.size:=by
    have:=List.length_pos_iff.mpr hn
    rw [e2] at this
    simpa using this
  have pl:s.heap.IsTuple l its.toArray:=p
  rw [e1] at pl
  refine nP (I.ok.hd hc) pl hs fun v h' tk hv hk=>?_
  obtain ⟨t,rfl⟩:=intItems_at hv
  obtain ⟨b1,b2⟩:=argBest_lt (numAt ys) (ys.size - 1)
  refine ⟨.int _,H,I.kept hk,⟨t,rfl⟩,q _ (by rw [e2];exact jP (by omega)) fun n hm=>?_⟩
  rw [e2] at hm
  obtain ⟨i,hi,rfl⟩:=jR hm
  exact b2 i (by omega)
end
end L2
end
section
namespace L2
open PySem PySem.Spec PyProof.Rows
end L2
end
section
namespace L2
open PySem PySem.Spec PyProof.Rows
section
variable {prog:Program} {w:World} {A:Around} {E:Value->Shared->Prop} {s:Shared}
theorem iJ {id:String} {b:Builtin} {args:List Value} {kw:List (Str × Value)} {Q:Value->Shared->Prop} (hk:builtinKind id=none) (hp:plainId id=true)
    (hb:entryFor table id=some b) (ha:argsOk id ⟨args,kw⟩)
    (hc:wpAny (model prog w) A.in1 (b ⟨args,kw⟩) (fun fin s'=>match fin with
      | .done f=>(match (Except.ok f:Result) with | .ok (.ret v)=>Q v s' | .ok _=>False | .error e=>E e s')
      | .again c'=>c'.quiet=true/\codeAny (model prog w) A c' (fun r s'=>match r with | .ok (.ret v)=>Q v s' | .ok _=>False | .error e=>E e s') s') E s) :
    wpAny (model prog w) A (call (.builtin id) args kw) Q E s:=by
  refine wpAny_call (codeAny_call_builtin hp hb ?_)
  simp only [checkBuiltinCall,hk]
  cases hsig:Manifest.signature? id with
  | none=>exact B6 hc
  | some sig =>
    simp only [argsOk,hsig] at ha
    have h2:Bind.checkArgs id sig ⟨args,kw⟩=pure ():=ha
    show wpAny _ A.in1 (Bind.checkArgs id sig ⟨args,kw⟩) _ _ s
    rw [h2];exact B6 hc
theorem uR (a d:Value):argsOk "max" ⟨[a],[("default",d)]⟩:=by unfold argsOk;kernel_rfl
theorem uI {l:Addr} {xs:Array (Int × Tok)} {d:Value} {Q:Value->Shared->Prop} (hh:A.handled=none) (hl:s.heap.IsList l (intItems xs))
    (h:∀ v h' tk,((xs.size=0/\v=d)\/∃ p:Int × Tok,v=.int p.1 p.2/\ot xs xs.size (some p))->(∀ b o,s.heap.get? b=some o->h'.get? b=some o)->Q v { s with heap:=h',toks:=tk }) :
    wpAny (model prog w) A (call (.builtin "max") [.ref l] [("default",d)]) Q E s:=by
  have hname:(toString "max" ++ toString ".loop":String) = "max.loop":=by decide
  refine iJ F.kind_max F.plain_max F.entry_max (uR _ _) ?_
  show wpAny _ A.in1 (Builtin.Builtins.bindParams "max" ["key","default"] 0 ⟨[],[("default",d)]⟩ >>= _) _ _ s
  refine B5 (wpAny_of_eq (show Builtin.Builtins.bindParams "max" ["key","default"] 0 ⟨[],[("default",d)]⟩=pure [none,some d] from rfl) ?_)
  refine B5 (B6 ?_)
  refine B5 (iter_intList hl fun s₂ e st hfp hlI=>?_)
  subst e
  refine B5 (wpAny_newObj_type ?_)
  rw [hname]
  have hlt:l < s.heap.objs.size:=by obtain ⟨_,e,_⟩:=hl;exact Ch e
  have hsz:(s.heap.push { cls:=.type "list_iterator",data:=.fields #[.ref l,.int 0 0] }).objs.size=s.heap.objs.size+1:=CM _ _
  have a1:(s.heap.push { cls:=.type "list_iterator",data:=.fields #[.ref l,.int 0 0] }).objs.size ≠ s.heap.objs.size:=by rw [hsz];exact Nat.succ_ne_self _
  have a2:(s.heap.push { cls:=.type "list_iterator",data:=.fields #[.ref l,.int 0 0] }).objs.size ≠ l:=by rw [hsz];exact Nat.ne_of_gt (Nat.lt_succ_of_lt hlt)
  refine B6 ⟨plainId_quiet F.plain_max_loop _,tU (A:=A) hh hlI a1 a2 xs d xs.size 0 _ none 0 (by omega) (by omega)
    (st.1.at fun o e=>Ca _ e) (st.2.at fun o e=>Ca _ e) (Cj _ rfl) rfl fun v h' tk hv hk=>?_⟩
  refine h v h' tk hv fun b o e=>hk b o (fun q=>?_) (fun q=>?_) (Ca _ (Ca _ e))
  · exact absurd q (Cs (Ch e))
  · exact absurd (q.trans hsz) (Cs (Nat.lt_succ_of_lt (Ch e)))
end
section
variable {X:Cx}
theorem ml {ns:List Int} {xs:Array (Int × Tok)} (e:ns=xs.toList.map (·.1)):xs.size=0 ↔ ns=[]:=by
  rw [e];simp
noncomputable def rK (K:FG) (P:List Int->Int->Prop) (x d:V) (H:Hp) (Q:VK):Prop:=∃ (l:Addr) (ns:List Int),x=.ref l/\SqL K H l (ns.map V.int)/\(ns=[]->Q d H)/\∀ m,m ∈ ns->P ns m->Q (.int m) H
theorem vv (hc:X.calm=true) {pins:List (Addr × Obj)} {s:Shared} {σ:St} {H:Hp} {x d:V} {u ud:Value} {Q:VK} (I:Inv X pins σ H s) (rx:RelV x u) (rd:RelV d ud) (h:rK X.K (fun ns m=>∀ n ∈ ns,n<=m) x d H Q) :
    wpAny (model X.prog X.w) X.A (call (.builtin "max") [u] [("default",ud)]) (EP X pins σ Q) X.xe s:=by
  obtain ⟨l,ns,rfl,hl,h0,h1⟩:=h
  cases (show u=Value.ref l from rx)
  obtain ⟨its,rv,p,hz⟩:=I.list hl
  obtain ⟨ys,e1,e2⟩:=nV rv
  have pl:=p.isList
  rw [e1] at pl
  refine uI (I.ok.hd hc) pl fun v h' tk hv hk=>?_
  rcases hv with ⟨hs,rfl⟩ | ⟨q,rfl,⟨⟨i,hi,hq⟩,hle⟩⟩
  · exact ⟨d,H,I.kept hk,rd,h0 ((ml e2).mp hs)⟩
  · refine ⟨.int q.1,H,I.kept hk,⟨q.2,rfl⟩,h1 _ (by rw [e2,<- hq];exact jP hi) fun n hm=>?_⟩
    rw [e2] at hm
    obtain ⟨j,hj,rfl⟩:=jR hm
    exact hle j hj
noncomputable def tKw1 (r:V->V->Hp->VK->Prop) (te td:TE):TE:=fun σ H Q=>te σ H fun x H1=>td σ H1 fun d H2=>r x d H2 Q
theorem Bo {id:String} {nm:Str} {e d:Expr} {te td:TE} {p pos kpos:Pos} {r:V->V->Hp->VK->Prop} (hrun:∀ {pins:List (Addr × Obj)} {s:Shared} {σ:St} {H:Hp} {x d:V} {u ud:Value} {Q:VK},Inv X pins σ H s->RelV x u->RelV d ud->r x d H Q->wpAny (model X.prog X.w) X.A (call (.builtin id) [u] [("default",ud)]) (EP X pins σ Q) X.xe s)
    (hg:Gl X nm) (hm:X.mg nm=none) (hv:bootBuiltins nm=some (.builtin id)) (he:PE X e te) (hd:PE X d td) (hn:nm ≠ "__name__") (hdb:(nm == ("__debug__":Str))=false)
    (hs:backTo pos (starEach [e] X.env)=(false,eval e X.env) :: backTo pos (starEach [] X.env)) (hs0:backTo pos (starEach [] X.env)=[]) (hplain:(backTo pos (starEach [e] X.env)).any (·.1)=false)
    (hall:(backToKw pos (keywordEach [⟨some "default",d,kpos⟩] X.env)).all (·.1.isSome)=true) (hkw:(backToKw pos (keywordEach [⟨some "default",d,kpos⟩] X.env)).any (·.1.isNone)=false) (hks:(backToKw pos (keywordEach [⟨some "default",d,kpos⟩] X.env)).filterMap (·.1)=(["default"]:List Str)) :
    PE X (.Call (.Name nm p) [e] [⟨some "default",d,kpos⟩] pos) (tKw1 r te td):=by
  intro pins s σ H Q I h
  refine wpAny_Call_Name_kw (gx I hg hm hv ?_ hn hdb)
  refine PyProof.Rows.callWith_kw ?_ hs hplain hall hkw
  rw [hs,hs0]
  refine Calls.spliced_cons (thn (he pins s σ H _ I h) fun u s1 ⟨x,H1,I1,r1,q1⟩=>Calls.spliced_nil ?_)
  refine thn (yM (nm:=some "default") (kpos:=kpos) hd Be pos pins s1 σ H1 (fun vs H2=>match vs with | [d]=>r x d H2 Q | _=>False) I1 q1) fun us s2 ⟨xs,H2,I2,r2,q2⟩=>?_
  match xs,q2,r2 with
  | [d'],q2,r2 =>
    rw [hks]
    obtain ⟨ud,rfl,rd⟩:=iK r2
    exact hrun I2 r1 rd q2
end
end L2
end
section
namespace L2
open PySem PySem.Spec PyProof.Rows
noncomputable def Itd (hi:Int) (n:Nat):It:=⟨fun i _=>i < n,fun i H x H'=>H'=H/\x=.int (hi - i),fun i _=>n<=i⟩
theorem oE {P:Program} {w:World} {K:FG} {tg:Expr} (it:Addr) (hi:Int) (n:Nat):Turn P w K tg (Itd hi n) [it] it (fun i h=>IsRangeIter h it (hi+(i:Nat) * (-1)) ((n:Int) - (i:Nat)) (-1)) where
  mem:=by simp
  obj:=fun i h st b hb=>by
    have e:b=it:=by simpa using hb
    subst e
    exact ⟨_,st,fun v z=>by
      have z':Data.fields _=Data.cell v:=z
      cases z'⟩
  keep:=fun i h h' st k=>k it (by simp) _ st
  item:=by
    intro X hP hw hK hc i pins s σ H E I hf st hg
    subst hP hw hK
    obtain ⟨f0,f1,f2,f3,f4,f5⟩:=hf it (by simp)
    have W:=Walks.range (prog:=X.prog) (w:=X.w) (I.ok.hd hc) it hi (-1) n
    refine W.item i s _ _ hg st fun v h' tk hv st' kk=>?_
    obtain ⟨t,rfl⟩:=hv
    have I1:Inv X pins σ H { s with heap:=h',toks:=tk }:=I.turned (fun b o hb e=>kk b o (by simpa using hb) e) f0 f1 f3 f4 f5
    refine ⟨_,rfl,pC (s:={ s with heap:=h',toks:=tk }) (n:="range_iterator") st' rfl rfl (by decide) ⟨.int (hi - i),H,I1,⟨t,?_⟩,⟨rfl,rfl⟩,st',fun b hb=>(hf b hb).1⟩⟩
    rw [show hi+(i:Int) * (-1)=hi - i by omega]
  done:=by
    intro X hP hw hK hc i pins s σ H E I hf st hg
    subst hP hw hK
    obtain ⟨f0,f1,f2,f3,f4,f5⟩:=hf it (by simp)
    exact wpAny_pyNext_range_end (I.ok.hd hc) st (by have:n<=i:=hg;omega) fun h' eb=>⟨rfl,I.turned (t':=s.toks) (fun b o hb e=>eb b o hb e) f0 f1 f3 f4 f5⟩
  self:=fun _ _ _ _ _ st h=>wpAny_pyIter_rangeiter st h
section
variable {X:Cx} {tg:Expr}
theorem gR (a b:Int):Builtin.Range.rangeSize a b (-1)=if a > b then a - b else 0:=by
  unfold Builtin.Range.rangeSize
  rw [if_neg (by decide)]
  split
  · rw [show (a - b - 1) / (- (-1:Int))=a - b - 1 by simp];omega
  · rfl
theorem qe {a b:Int} (h1:-(2 ^ 62)<=a) (h2:a < 2 ^ 62) (h3:-(2 ^ 62)<=b) (h4:b < 2 ^ 62):Builtin.Range.small a b (-1)=true:=by
  unfold Builtin.Range.small
  rw [gR]
  have n1:¬ ((-1:Int) > 0):=by decide
  simp only [Builtin.Range.rangeFitsLong,Bool.and_eq_true,Bool.or_eq_true,decide_eq_true_eq,beq_iff_eq,n1,if_false]
  split <;> omega
noncomputable def Am (ta:TA):TI:=fun σ H R=>ta σ H fun vs H1=>∃ i j:Int,vs=[.int i,.int j,.int (-1)]/\(-(2 ^ 62)<=i/\i < 2 ^ 62/\-(2 ^ 62)<=j/\j < 2 ^ 62)/\R (Itd i (i - j).toNat) H1
theorem tz {pins:List (Addr × Obj)} {σ:St} {H:Hp} {s:Shared} {R:It->Hp->Prop} {E:Value->Shared->Prop} {lo hi:Int} {t u v:Tok} {tk:Nat} (I:Inv X pins σ H s) (h1:-(2 ^ 62)<=lo) (h2:lo < 2 ^ 62) (h3:-(2 ^ 62)<=hi) (h4:hi < 2 ^ 62)
    (q:R (Itd lo (lo - hi).toNat) H):wpAny (model X.prog X.w) X.A (pyIter (.ref s.heap.objs.size)) (PIE X pins σ tg R) E { s with heap:=s.heap.push { cls:=.type "range",data:=.fields #[.int lo t,.int hi u,.int (-1) v] },toks:=tk }:=by
  refine wpAny_pyIter_range (IsRange.new ..) (qe h1 h2 h3 h4) ?_
  have I1:Inv X pins σ H { s with heap:=s.heap.push { cls:=.type "range",data:=.fields #[.int lo t,.int hi u,.int (-1) v] },toks:=tk }:=I.kept fun b o e=>Ca _ e
  refine ⟨(s.heap.push { cls:=.type "range",data:=.fields #[.int lo t,.int hi u,.int (-1) v] }).objs.size,[(s.heap.push { cls:=.type "range",data:=.fields #[.int lo t,.int hi u,.int (-1) v] }).objs.size],_,_,H,rfl,
    I1.kept (t':=tk) fun b o e=>Ca _ e,oE _ lo (lo - hi).toNat,?_,fun b hb=>?_,q⟩
  · have e1:lo+((0:Nat):Int) * (-1)=lo:=by simp
    have e2:(((lo - hi).toNat:Nat):Int) - ((0:Nat):Int)=Builtin.Range.rangeSize lo hi (-1):=by rw [gR];split <;> omega
    show IsRangeIter _ _ (lo+((0:Nat):Int) * (-1)) ((((lo - hi).toNat:Nat):Int) - ((0:Nat):Int)) (-1)
    rw [e1,e2]
    exact Cj _ rfl
  · have e:b=(s.heap.push { cls:=.type "range",data:=.fields #[.int lo t,.int hi u,.int (-1) v] }).objs.size:=by simpa using hb
    subst e
    exact I1.fpOk (Cq _) (I1.hok.fresh (Cq _))
theorem tG {a b c:Expr} {ta:TA} {p pos:Pos} (hg:Gl X "range") (hm:X.mg "range"=none) (ha:PA X [a,b,c] ta) (hs:starEach [a,b,c] X.env=(false,eval a X.env) :: starEach [b,c] X.env) (hpl:(backTo pos (starEach [b,c] X.env)).any (·.1)=false) :
    PI X tg (.Call (.Name "range" p) [a,b,c] [] pos) (Am ta):=by
  intro pins s σ H R I h
  refine Call_ (gx I hg hm boot_range (PyProof.Rows.callWith_type1 (thn (ha pos pins s σ H _ I h) fun us s1 ⟨vs,H1,I1,r1,q1⟩=>?_) hs hpl))
  obtain ⟨i,j,e,⟨q1,q2,q3,q4⟩,q⟩:=q1
  subst e
  cases r1 with
  | cons r rr =>
    cases rr with
    | cons r' rr =>
      cases rr with
      | cons r'' rr =>
        cases rr
        obtain ⟨t,rfl⟩:=r
        obtain ⟨t',rfl⟩:=r'
        obtain ⟨t'',rfl⟩:=r''
        exact call_range_3 (by decide) (tz I1 q1 q2 q3 q4 q) (.inl (PyProof.noPylong_small (by decide)))
end
end L2
end
section
namespace PySem
open Sem (wp)
noncomputable def RawAt (h:Heap) (d:Addr) (es:Array DictEntry) (ep:Nat):Prop:=∃ o,h.get? d=some o/\o.ExactDict/\o.data=.dict es ep
section
variable {prog:Program} {w:World} {A:Around} {E:Value->Shared->Prop} {s:Shared}
theorem RawAt.typeIs {d:Addr} {es:Array DictEntry} {ep:Nat} (x:RawAt s.heap d es ep):s.TypeIs (.ref d) "dict":=let ⟨o,ho,hc,_⟩:=x;⟨o,ho,hc.1⟩
theorem oW {it d:Addr} {i ep:Nat} {es:Array DictEntry} {Q:Option Value->Shared->Prop} (hit:s.heap.IsKeyIter it d i es.size ep)
    (hm:RawAt s.heap d es ep) (hx:i < es.size)
    (hQ:∀ h',h'.IsKeyIter it d (i+1) es.size ep->Heap.SameBut it s.heap h'->Q (some es[i].key) { s with heap:=h' }) :
    wpAny (model prog w) A (pyNext (.ref it)) Q E s:=by
  have ty:=hit.typeIs
  obtain ⟨⟨c1,d1,x1,s1⟩,h1,e1,e2⟩:=hit
  obtain ⟨⟨c2,d2,x2,s2⟩,h2,_,e4⟩:=hm
  obtain ⟨hp,g,dr,tk,os⟩:=s
  simp only at e1 e2 e4
  subst e1 e2 e4
  have hi:(if (i:Int) < 0 then none else es[(i:Int).toNat]?)=some es[i]:=by simp [hx]
  unfold pyNext
  refine B5 (wpAny_attempt (wpAny_callSpecial?_slot ty F.slot_dict_keyiterator_next
    (wpAny_call_entry F.slot_dict_keyiterator_next ty F.entry_dict_keyiterator_next ?_ (F.args_dict_keyiterator_next_1 _))))
  wp_walk
  rw [hi]
  wp_walk
  exact ⟨_,rfl,B6 (hQ _ ⟨_,CA _ h1 rfl,rfl,rfl⟩ (Heap.SameBut.update ..))⟩
theorem qv {it d:Addr} {i ep:Nat} {es:Array DictEntry} {Q:Option Value->Shared->Prop} (hh:A.handled=none) (hit:s.heap.IsKeyIter it d i es.size ep)
    (hm:RawAt s.heap d es ep) (hx:es.size<=i)
    (hQ:∀ h',Heap.ExtBut it s.heap h'->Q none { s with heap:=h' }):wpAny (model prog w) A (pyNext (.ref it)) Q E s:=by
  have ty:=hit.typeIs
  obtain ⟨⟨c1,d1,x1,s1⟩,h1,e1,e2⟩:=hit
  obtain ⟨⟨c2,d2,x2,s2⟩,h2,_,e4⟩:=hm
  obtain ⟨hp,g,dr,tk,os⟩:=s
  simp only at e1 e2 e4
  subst e1 e2 e4
  have hi:(if (i:Int) < 0 then none else es[(i:Int).toNat]?)=none:=by simp [hx]
  have hh':A.in1.handled=none:=hh
  unfold pyNext
  refine B5 (wpAny_attempt (wpAny_callSpecial?_slot ty F.slot_dict_keyiterator_next
    (wpAny_call_entry F.slot_dict_keyiterator_next ty F.entry_dict_keyiterator_next ?_ (F.args_dict_keyiterator_next_1 _))))
  wp_walk
  rw [hi]
  wp_walk
  refine wpAny_raiseNew_none hh' ?_
  refine B5 (wpAny_isInstance (v:=.ref _) (T:="StopIteration") (b:=true) ?_ isSubtype_stop ?_)
  · exact ⟨_,Cj _ rfl,rfl⟩
  · exact B6 (hQ _ (((Heap.SameBut.update ..).extBut.push _).push _))
theorem oV {it d:Addr} {i ep:Nat} {es:Array DictEntry} {Q:Option Value->Shared->Prop} (hit:s.heap.IsValIter it d i es.size ep)
    (hm:RawAt s.heap d es ep) (hx:i < es.size)
    (hQ:∀ h',h'.IsValIter it d (i+1) es.size ep->Heap.SameBut it s.heap h'->Q (some es[i].val) { s with heap:=h' }) :
    wpAny (model prog w) A (pyNext (.ref it)) Q E s:=by
  have ty:=hit.typeIs
  obtain ⟨⟨c1,d1,x1,s1⟩,h1,e1,e2⟩:=hit
  obtain ⟨⟨c2,d2,x2,s2⟩,h2,_,e4⟩:=hm
  obtain ⟨hp,g,dr,tk,os⟩:=s
  simp only at e1 e2 e4
  subst e1 e2 e4
  have hi:(if (i:Int) < 0 then none else es[(i:Int).toNat]?)=some es[i]:=by simp [hx]
  unfold pyNext
  refine B5 (wpAny_attempt (wpAny_callSpecial?_slot ty F.slot_dict_valueiterator_next
    (wpAny_call_entry F.slot_dict_valueiterator_next ty F.entry_dict_valueiterator_next ?_ (F.args_dict_valueiterator_next_1 _))))
  wp_walk
  rw [hi]
  wp_walk
  exact ⟨_,rfl,B6 (hQ _ ⟨_,CA _ h1 rfl,rfl,rfl⟩ (Heap.SameBut.update ..))⟩
theorem qu {it d:Addr} {i ep:Nat} {es:Array DictEntry} {Q:Option Value->Shared->Prop} (hh:A.handled=none) (hit:s.heap.IsValIter it d i es.size ep)
    (hm:RawAt s.heap d es ep) (hx:es.size<=i)
    (hQ:∀ h',Heap.ExtBut it s.heap h'->Q none { s with heap:=h' }):wpAny (model prog w) A (pyNext (.ref it)) Q E s:=by
  have ty:=hit.typeIs
  obtain ⟨⟨c1,d1,x1,s1⟩,h1,e1,e2⟩:=hit
  obtain ⟨⟨c2,d2,x2,s2⟩,h2,_,e4⟩:=hm
  obtain ⟨hp,g,dr,tk,os⟩:=s
  simp only at e1 e2 e4
  subst e1 e2 e4
  have hi:(if (i:Int) < 0 then none else es[(i:Int).toNat]?)=none:=by simp [hx]
  have hh':A.in1.handled=none:=hh
  unfold pyNext
  refine B5 (wpAny_attempt (wpAny_callSpecial?_slot ty F.slot_dict_valueiterator_next
    (wpAny_call_entry F.slot_dict_valueiterator_next ty F.entry_dict_valueiterator_next ?_ (F.args_dict_valueiterator_next_1 _))))
  wp_walk
  rw [hi]
  wp_walk
  refine wpAny_raiseNew_none hh' ?_
  refine B5 (wpAny_isInstance (v:=.ref _) (T:="StopIteration") (b:=true) ?_ isSubtype_stop ?_)
  · exact ⟨_,Cj _ rfl,rfl⟩
  · exact B6 (hQ _ (((Heap.SameBut.update ..).extBut.push _).push _))
theorem nE {d:Addr} {es:Array DictEntry} {ep:Nat} {Q:Value->Shared->Prop} (hd:(d == sysModules)=false) (hm:RawAt s.heap d es ep)
    (hQ:Q (.ref s.heap.objs.size) { s with heap:=s.heap.push { cls:=.type "dict_keyiterator",data:=.fields #[.ref d,.int 0 0,.int es.size 0,.int ep 0] } }) :
    wpAny (model prog w) A (pyIter (.ref d)) Q E s:=by
  have ty:=hm.typeIs
  obtain ⟨⟨c2,d2,x2,s2⟩,h2,e3,e4⟩:=hm
  obtain ⟨hp,g,dr,tk,os⟩:=s
  obtain ⟨e5,_⟩:=e3
  simp only at e4 e5
  subst e4 e5
  refine wpAny_pyIter_slot ty F.slot_dict_iter (wpAny_call_entry F.slot_dict_iter ty F.entry_dict_iter ?_ (F.args_dict_iter_1 _))
  wp_walk
  exact ⟨_,rfl,"dict_keyiterator",_,⟨_,Cj _ rfl,rfl⟩,F.slot_dict_keyiterator_next.lookup,hQ⟩
theorem kB (d:Addr) (hd:(d == sysModules)=false) :
    MeetsIn prog w (Builtin.«dict.values» ⟨[.ref d],[]⟩) (fun _ R s=>(∃ es ep,RawAt s.heap d es ep) /\
      R (.ok (.ret (.ref s.heap.objs.size))) { s with heap:=s.heap.push { cls:=.type "dict_values",data:=.fields #[.ref d] } }) :=
  .of_wp fun A R s ⟨⟨es,ep,hm⟩,h⟩=>by
    have ty:=hm.typeIs
    obtain ⟨⟨c2,d2,x2,s2⟩,h2,e3,e4⟩:=hm
    obtain ⟨hp,g,dr,tk,os⟩:=s
    obtain ⟨e5,_⟩:=e3
    simp only at e4 e5
    subst e4 e5
    wp_walk
    exact ⟨_,rfl,h⟩
theorem ly {v d:Addr} {es:Array DictEntry} {ep:Nat} {Q:Value->Shared->Prop} (hv:s.heap.IsValuesView v d) (hm:RawAt s.heap d es ep)
    (hQ:Q (.ref s.heap.objs.size) { s with heap:=s.heap.push { cls:=.type "dict_valueiterator",data:=.fields #[.ref d,.int 0 0,.int es.size 0,.int ep 0] } }) :
    wpAny (model prog w) A (pyIter (.ref v)) Q E s:=by
  have ty:=hv.typeIs
  obtain ⟨⟨c1,d1,x1,s1⟩,h1,e1,e2⟩:=hv
  obtain ⟨⟨c2,d2,x2,s2⟩,h2,_,e4⟩:=hm
  obtain ⟨hp,g,dr,tk,os⟩:=s
  simp only at e1 e2 e4
  subst e1 e2 e4
  refine wpAny_pyIter_slot ty F.slot_dict_values_iter (wpAny_call_entry F.slot_dict_values_iter ty F.entry_dict_values_iter ?_ (F.args_dict_values_iter_1 _))
  wp_walk
  exact ⟨_,rfl,"dict_valueiterator",_,⟨_,Cj _ rfl,rfl⟩,F.slot_dict_valueiterator_next.lookup,hQ⟩
end
end PySem
end
section
namespace L2
open PySem PySem.Spec PyProof.Rows
theorem lE {α β:Type} {F:α->β->Prop}:∀ {l₁:List α} {l₂:List β},Paired F l₁ l₂->∀ {i:Nat} {a:α},l₁[i]?=some a->∃ b,l₂[i]?=some b/\F a b
  | _,_,.nil,i,a,h=>by simp at h
  | _,_,.cons r t,0,a,h=>by
    simp only [List.getElem?_cons_zero,Option.some.injEq] at h
    subst h
    exact ⟨_,rfl,r⟩
  | _,_,.cons r t,i+1,a,h=>by
    simp only [List.getElem?_cons_succ] at h
    exact lE t h
theorem Rd.dT_inj {H:Hp} {a:Addr} {x y:List (List Key × V)} (h:Rd H a (.dT x)) (h':Rd H a (.dT y)):x=y:=by
  rcases h with h | ⟨o,h⟩ <;> rcases h' with h' | ⟨o',h'⟩ <;> rw [h] at h' <;> cases h' <;> rfl
section
variable {P:Program} {w:World} {H:Hp} {h:Heap} {a:Addr}
theorem l5 {kvs:List (List Key × V)} (ok:HOk P w H h) (e:Rd H a (.dT kvs)):(a == sysModules)=false/\∃ es:Array DictEntry,RawAt h a es es.size/\es.size=kvs.length /\
    ∀ i (hi:i < es.size) kv,kvs[i]?=some kv->∃ b,es[i].key=.ref b/\H b=some (.tup (kv.1.map kV))/\RelV kv.2 es[i].val:=by
  obtain ⟨z,y,xs,r,o,es,ep,h1,h2,h3,h4,h5,h6,rfl⟩:=qV ok e
  have hl:es.size=xs.length:=by rw [<- Array.length_toList,h4,Ck]
  refine ⟨y,es,⟨o,h1,h2,h3⟩,by rw [hl,<- Paired.length r],fun i hi kv hk=>?_⟩
  obtain ⟨q,hq,f1,f2,f3⟩:=lE r hk
  have hx:es.toList[i]?=some (entryOfKey (tupleKind (bm P w)) q):=by rw [h4,Cp,hq];rfl
  have hx':es[i]=entryOfKey (tupleKind (bm P w)) q:=by
    rw [Array.getElem?_toList,Array.getElem?_eq_getElem hi] at hx
    exact CV hx
  rw [hx']
  exact ⟨q.2.1,rfl,f2,f3⟩
end
noncomputable def Itk (a:Addr) (n:Nat):It:=⟨fun i H=>∃ kvs,Rd H a (.dT kvs)/\kvs.length=n/\i < n,
  fun i H x H'=>H'=H/\∀ kvs kv,Rd H a (.dT kvs)->kvs[i]?=some kv->∃ b,x=.ref b/\H b=some (.tup (kv.1.map kV)),fun i H=>∃ kvs,Rd H a (.dT kvs)/\kvs.length=n/\n<=i⟩
theorem sS {P:Program} {w:World} {K:FG} {tg:Expr} (a it:Addr) (n:Nat):Turn P w K tg (Itk a n) [it] it (fun i h=>h.IsKeyIter it a i n n) where
  mem:=by simp
  obj:=fun i h st b hb=>by
    have e:b=it:=by simpa using hb
    subst e
    obtain ⟨o,e,c,d⟩:=st
    exact ⟨o,e,fun v z=>by rw [d] at z;cases z⟩
  keep:=fun i h h' st k=>st.at fun o e=>k it (by simp) o e
  item:=by
    intro X hP hw hK hc i pins s σ H E I hf st hg
    subst hP hw hK
    obtain ⟨kvs,hq,hn,hi⟩:=hg
    obtain ⟨y,es,raw,sz,ent⟩:=l5 I.hok hq
    obtain rfl:n=es.size:=by omega
    obtain ⟨f0,f1,f2,f3,f4,f5⟩:=hf it (by simp)
    obtain ⟨kv,hkv⟩:∃ kv,kvs[i]?=some kv:=⟨kvs[i]'(by omega),Cg _⟩
    obtain ⟨b,b1,b2,b3⟩:=ent i hi kv hkv
    refine oW st raw hi fun h' st' sb=>?_
    have I1:Inv X pins σ H { s with heap:=h' }:=I.turned (t':=s.toks) (fun b o hb e=>(sb.2 b hb).trans e) f0 f1 f3 f4 f5
    obtain ⟨o,e,c,d⟩:=id st'
    refine ⟨_,rfl,pC (s:={ s with heap:=h' }) e c d (by decide) ⟨.ref b,H,I1,b1,⟨rfl,fun kvs' kv' hq' hk'=>?_⟩,st',fun b hb=>(hf b hb).1⟩⟩
    rw [hq'.dT_inj hq,hkv] at hk'
    cases hk'
    exact ⟨b,rfl,b2⟩
  done:=by
    intro X hP hw hK hc i pins s σ H E I hf st hg
    subst hP hw hK
    obtain ⟨kvs,hq,hn,hi⟩:=hg
    obtain ⟨y,es,raw,sz,ent⟩:=l5 I.hok hq
    obtain rfl:n=es.size:=by omega
    obtain ⟨f0,f1,f2,f3,f4,f5⟩:=hf it (by simp)
    exact qv (I.ok.hd hc) st raw hi fun h' eb=>⟨rfl,I.turned (t':=s.toks) (fun b o hb e=>eb b o hb e) f0 f1 f3 f4 f5⟩
  self:=fun _ _ _ _ _ st h=>wpAny_pyIter_keyiter st h
noncomputable def Ap (tl:TE):TI:=fun σ H R=>tl σ H fun x H1=>∃ a kvs,x=.ref a/\Rd H1 a (.dT kvs)/\R (Itk a kvs.length) H1
theorem yN {X:Cx} {tg l:Expr} {tl:TE} (hl:PE X l tl):PI X tg l (Ap tl):=by
  intro pins s σ H R I h
  exact thn (hl pins s σ H _ I h) fun v s1 ⟨x,H1,I1,r1,q1⟩=>by
    obtain ⟨a,kvs,e,hq,q⟩:=q1
    subst e
    cases r1
    obtain ⟨y,es,raw,sz,ent⟩:=l5 I1.hok hq
    refine nE y raw ?_
    refine ⟨s1.heap.objs.size,[s1.heap.objs.size],_,_,H1,rfl,I1.kept (t':=s1.toks) fun b o e=>Ca _ e,sS a _ kvs.length,⟨_,Cj _ rfl,rfl,by rw [sz];rfl⟩,fun b hb=>?_,q⟩
    have e:b=s1.heap.objs.size:=by simpa using hb
    subst e
    exact I1.fpOk (Cq _) (I1.hok.fresh (Cq _))
section
variable {X:Cx}
noncomputable def lT (p a:Addr):HO:=.ext fun h=>h.IsValuesView p a
theorem zf:MtR X "dict.values" (fun x vs H Q=>∃ a kvs,x=.ref a/\vs=[]/\Rd H a (.dT kvs)/\∀ p,H p=none->Q (.ref p) (upd H p (lT p a))):=by
  intro pins s σ H x vs v us Q I rx rv h
  obtain ⟨a,kvs,rfl,rfl,hq,q⟩:=h
  cases rx
  cases rv
  obtain ⟨y,es,raw,sz,ent⟩:=l5 I.hok hq
  refine call_meetsIn PySem.F.slot_dict_values raw.typeIs PySem.F.entry_dict_values (PySem.F.args_dict_values_1 _) (kB a y) ⟨⟨es,_,raw⟩,?_⟩
  refine ⟨.ref s.heap.objs.size,_,I.laid (a:=s.heap.objs.size) (o:=lT s.heap.objs.size a) (t':=s.toks) (fun _ _ q=>Ca _ q) (Cq _) ?_,rfl,q _ (I.hok.fresh (Cq _))⟩
  exact ⟨⟨_,Cj _ rfl,rfl,rfl⟩,⟨_,Cj _ rfl⟩,fun h1 h2 ⟨o,e,c⟩ k=>⟨o,k o e,c⟩⟩
theorem Walks.rawVals {prog:Program} {w:World} {A:Around} (hh:A.handled=none) (I d:Addr) (hne:d ≠ I) (es:Array DictEntry) (ep:Nat) :
    Walks prog w A I [I,d] [I] es.size (fun i v=>∃ h:i < es.size,v=es[i].val) (fun i h=>h.IsValIter I d i es.size ep/\RawAt h d es ep) where
  sub:=fun b hb=>by simp at hb;simp [hb]
  frame:=fun _ _ _ st hk=>⟨st.1.at fun o e=>hk I (by simp) o e,let ⟨o,ho,r⟩:=st.2;⟨o,hk d (by simp) o ho,r⟩⟩
  item:=fun i s Q E hi st hQ=>by
    refine oV st.1 st.2 hi fun h' hit' hs'=>?_
    exact hQ _ h' s.toks ⟨hi,rfl⟩ ⟨hit',let ⟨o,ho,r⟩:=st.2;⟨o,hs'.extBut d o hne ho,r⟩⟩ fun b o hb e=>hs'.extBut b o (fun h=>hb (by simp [h])) e
  done:=fun s Q E st hQ=>qu hh st.1 st.2 (Cq _) fun h' he'=>hQ h' s.toks fun b o hb e=>he' b o (fun h=>hb (by simp [h])) e
  self:=fun _ _ _ _ st hQ=>wpAny_pyIter_valiter st.1 hQ
noncomputable def Ac:List V->Hp->VK->Prop:=fun xs H Q=>∃ (p a:Addr) (kvs:List (List Key × V)) (ns:List Int),xs=[.ref p]/\H p=some (lT p a)/\Rd H a (.dT kvs)/\kvs.map (·.2)=ns.map V.int/\ns ≠ []/\∀ m,m ∈ ns->(∀ n ∈ ns,n<=m)->Q (.int m) H
theorem uJ (hc:X.calm=true):CallR X (.builtin "max") Ac:=by
  intro pins s σ H xs us Q I rx h
  obtain ⟨p,a,kvs,ns,rfl,hp,hq,hns,hne,q⟩:=h
  obtain ⟨u,rfl,ru⟩:=rx.one
  cases ru
  obtain ⟨y,es,raw,sz,ent⟩:=l5 I.hok hq
  have view:s.heap.IsValuesView p a:=(I.hok p _ hp).1
  have hlen:kvs.length=ns.length:=by have:=congrArg List.length hns;simpa using this
  have hpos:0 < es.size:=by rw [sz,hlen];exact List.length_pos_iff.mpr hne
  have val:∀ i (hi:i < es.size),∃ t,es[i].val=.int (ns[i]'(by omega)) t:=fun i hi=>by
    have hkv:kvs[i]?=some (kvs[i]'(by omega)):=Cg _
    obtain ⟨b,_,_,r⟩:=ent i hi _ hkv
    have e:(kvs[i]'(by omega)).2=V.int (ns[i]'(by omega)):=by
      have:=congrArg (fun l=>l[i]?) hns
      simp only [Cp] at this
      rw [hkv,Cg (show i < ns.length by omega)] at this
      simpa using this
    rw [e] at r
    exact r
  have hlt:a < s.heap.objs.size:=by obtain ⟨o,e,_⟩:=raw;exact Ch e
  refine call_max_walk (ly view raw ?_)
  refine ⟨s.heap.objs.size,_,_,_,_,_,fun i j=>decide ((ns[j]?).getD 0 < (ns[i]?).getD 0),rfl,Walks.rawVals (A:=X.A.in1) (I.ok.hd hc) s.heap.objs.size a (Cs hlt) es es.size,⟨⟨_,Cj _ rfl,rfl,rfl⟩,let ⟨o,ho,r⟩:=raw;⟨o,Ca _ ho,r⟩⟩,?_,hpos,?_,?_⟩
  · intro b hb
    rw [CM]
    simp at hb
    rcases hb with e | e <;> rw [e]
    · exact Nat.lt_succ_self _
    · exact Nat.lt_succ_of_lt hlt
  · have:=CmpOf.ints_gt (prog:=X.prog) (w:=X.w) (A:=X.A.in1) (P:=fun i v=>∃ h:i < es.size,v=es[i].val) (fun i=>(ns[i]?).getD 0) fun i v ⟨hi,e⟩=>by
      obtain ⟨t,ht⟩:=val i hi
      exact ⟨t,by rw [e,ht,Cg (show i < ns.length by omega)];rfl⟩
    exact this
  · intro v h' tk ⟨hb,e⟩ hk
    obtain ⟨t,ht⟩:=val _ hb
    obtain ⟨b1,b2⟩:=argBest_gt (fun i=>(ns[i]?).getD 0) (es.size - 1)
    refine ⟨.int _,H,I.kept (fun b o e=>hk b o (by simp;exact Cs (Ch e)) (Ca _ e)),⟨t,by rw [e,ht]⟩,q _ (List.getElem_mem _) fun n hn=>?_⟩
    obtain ⟨i,hi,rfl⟩:=List.getElem_of_mem hn
    have:=b2 i (by omega)
    rw [Cg hi,Cg (show argBest _ (es.size - 1) < ns.length by omega)] at this
    exact this
end
end L2
end
section
namespace L2
open PySem PySem.Spec PyProof.Rows
noncomputable def IsPair (h:Heap) (b:Addr) (n:Int × Int):Prop:=∃ o t u m,h.get? b=some o/\o.cls=.type "tuple"/\o.data=.seq #[.int n.1 t,.int n.2 u] m
noncomputable def ltP (x y:Int × Int):Bool:=decide (x.1 < y.1\/(x.1=y.1/\x.2 < y.2))
section
variable {prog:Program} {w:World} {A:Around} {E:Value->Shared->Prop} {s:Shared}
theorem nJ {x y:Int × Int} {a b:Addr} {P:Fin->Shared->Prop} (hx:IsPair s.heap a x) (hy:IsPair s.heap b y) (h:P (.done (.ret (.bool (ltP x y)))) s) :
    wpAny (model prog w) A (Builtin.«tuple.__lt__» ⟨[.ref a,.ref b],[]⟩) P E s:=by
  obtain ⟨oa,t1,t2,na,hoa,hca,hda⟩:=hx
  obtain ⟨ob,u1,u2,nb,hob,hcb,hdb⟩:=hy
  show wpAny _ _ (isInstance (.ref b) (.type "tuple") >>= _) _ _ s
  refine B5 (wpAny_isInstance (T:="tuple") ⟨ob,hob,hcb⟩ isSubtype_tuple_tuple ?_)
  simp only [Bool.not_true,CI,if_false]
  refine B5 (wpAny_tupleItemsOf hoa hda ?_)
  refine B5 (wpAny_tupleItemsOf hob hdb ?_)
  refine B5 ?_
  show wpAny _ _ (forIn [(Value.int x.1 t1,Value.int y.1 u1),(Value.int x.2 t2,Value.int y.2 u2)] _ _) _ _ s
  rw [List.forIn_cons]
  refine B5 ?_
  refine B5 ((intKind prog w).eqBool (a:=x.1) (b:=y.1) (by simp [intKind,Value.isInt]) (by simp [intKind,Value.isInt]) ?_)
  by_cases h1:x.1=y.1
  · rw [Cv h1]
    simp only [Bool.not_true,CI,if_false]
    refine B6 ?_
    show wpAny _ _ (forIn [(Value.int x.2 t2,Value.int y.2 u2)] _ _) _ _ s
    rw [List.forIn_cons]
    refine B5 ?_
    refine B5 ((intKind prog w).eqBool (a:=x.2) (b:=y.2) (by simp [intKind,Value.isInt]) (by simp [intKind,Value.isInt]) ?_)
    by_cases h2:x.2=y.2
    · rw [Cv h2]
      simp only [Bool.not_true,CI,if_false]
      refine B6 ?_
      show wpAny _ _ (forIn ([]:List (Value × Value)) _ _) _ _ s
      rw [List.forIn_nil]
      refine B6 (B6 ?_)
      have e:ltP x y=false:=by unfold ltP;simp;omega
      rw [e] at h
      exact h
    · rw [Cw h2]
      simp only [Bool.not_false,if_true]
      refine B5 (wpAny_rule (B5 ?_))
      refine (lt_int (a:=x.2) (b:=y.2) ?_:wpAny (model prog w) A (compareOp .Lt (.int x.2 t2) (.int y.2 u2)) _ _ _)
      refine B5 (B6 (B6 (B6 (B6 ?_))))
      have e:ltP x y=decide (x.2 < y.2):=by unfold ltP;simp [h1]
      rw [e] at h
      exact h
  · rw [Cw h1]
    simp only [Bool.not_false,if_true]
    refine B5 (wpAny_rule (B5 ?_))
    refine (lt_int (a:=x.1) (b:=y.1) ?_:wpAny (model prog w) A (compareOp .Lt (.int x.1 t1) (.int y.1 u1)) _ _ _)
    refine B5 (B6 (B6 (B6 (B6 ?_))))
    have e:ltP x y=decide (x.1 < y.1):=by unfold ltP;simp [h1]
    rw [e] at h
    exact h
theorem yT {x y:Int × Int} {a b:Addr} {Q:Value->Shared->Prop} (hu:A.units < cLine) (hx:IsPair s.heap a x) (hy:IsPair s.heap b y) (h:Q (.bool (ltP x y)) s) :
    wpAny (model prog w) A (richCompare .Lt (.ref a) (.ref b)) Q E s:=by
  have ta:s.TypeIs (.ref a) "tuple":=let ⟨o,_,_,_,e,c,_⟩:=hx;⟨o,e,c⟩
  have tb:s.TypeIs (.ref b) "tuple":=let ⟨o,_,_,_,e,c,_⟩:=hy;⟨o,e,c⟩
  exact wpAny_richCompare_same_room (op:=.Lt) ta tb F.slot_tuple_lt (wpAny_call_entry F.slot_tuple_lt ta F.entry_tuple_lt (nJ hx hy ⟨_,rfl,(fun e=>nomatch e),h⟩) (F.args_tuple_lt_2 _ _)) hu
end
noncomputable def mi (ns:List (Int × Int)) (j:Nat) (k:Nat):Prop:=k < j/\∀ i,i < j->∀ x y,ns[i]?=some x->ns[k]?=some y->ltP x y=false
theorem t0 {x y z:Int × Int} (h1:ltP x y=true) (h2:ltP z y=false):ltP z x=false:=by
  unfold ltP at *
  simp at *
  omega
noncomputable def mf (h:Heap) (bs:List Addr) (ns:List (Int × Int)):Prop:=∀ (i:Nat) (b:Addr),bs[i]?=some b->∃ n,ns[i]?=some n/\IsPair h b n
noncomputable def sH (b:Option Addr):Array Value:=match b with | none=>#[] | some a=>#[.ref a,.ref a]
section
variable {prog:Program} {w:World} {A:Around} {R:Result->Shared->Prop}
theorem tR (hh:A.handled=none) (hu:A.units+1 < cLine) {I l S:Addr} (hIl:l ≠ I) (hSI:S ≠ I) (hSl:S ≠ l) (bs:List Addr) (ns:List (Int × Int)) (hbI:∀ b ∈ bs,b ≠ I) (hbS:∀ b ∈ bs,b ≠ S) :
    ∀ (k j:Nat) (s:Shared) (m:Option Nat) (c:Nat),bs.length - j=k->j<=bs.length->s.heap.IsListIter I l j->s.heap.IsList l (bs.map Value.ref).toArray->mf s.heap bs ns ->
    s.heap.get? S=some { cls:=.type "list",dict:=none,data:=.seq (sH (m.bind (bs[·]?))) c,slots:=#[] }->(match m with | none=>j=0 | some m=>mi ns j m)->0 < bs.length ->
    (∀ m b h' tk,bs[m]?=some b->mi ns bs.length m->(∀ a o,a ≠ I->a ≠ S->s.heap.get? a=some o->h'.get? a=some o)->R (.ok (.ret (.ref b))) { s with heap:=h',toks:=tk }) ->
    codeAny (model prog w) A (.builtin "min.loop" ⟨[.ref I,.none,.ref S],[]⟩) R s:=by
  have nm:(toString "min" ++ toString ".loop":String) = "min.loop":=by decide
  intro k
  induction k with
  | zero =>
    intro j s m c hk hj hit hl hp hS hb hpos fin
    obtain rfl:j=bs.length:=by omega
    refine codeAny_builtin F.entry_min_loop ?_
    rw [Around.under_plainId F.plain_min_loop _]
    show wpAny _ A.in1 (seqItems? (.ref S) >>= _) _ _ s
    refine B5 (wpAny_seqItems hS rfl ?_)
    show wpAny _ A.in1 (tryCatch (pyNext (.ref I)) _ >>= _) _ _ s
    refine B5 (wpAny_tryCatch (wpAny_pyNext_list_end (show A.in1.handled=none from hh) hit hl (by simp) fun h' eb=>?_))
    cases m with
    | none=>have:bs.length=0:=hb;omega
    | some m =>
      have hm:m < bs.length:=hb.1
      have eb':bs[m]?=some bs[m]:=Cg hm
      have hS':=eb S _ hSI hS
      simp only [Option.bind_some,eb'] at hS' ⊢
      show wpAny _ A.in1 (updateSeq S (fun _=>#[]) >>= _) _ _ _
      refine B5 (wpAny_updateSeq hS' rfl (B5 (wpAny_letGo (B6 ?_))) (hz:=by show 2<=sizeLine;decide))
      exact fin m _ _ s.toks eb' hb fun a o ha hs e=>(CL _ _ (Ne.symm hs)).trans (eb a o ha e)
  | succ k ih =>
    intro j s m c hk hj hit hl hp hS hb hpos fin
    have hlt:j < bs.length:=by omega
    have hx:bs[j]?=some bs[j]:=Cg hlt
    have hv:(bs.map Value.ref).toArray[j]?=some (.ref bs[j]):=by simp [hx]
    refine codeAny_builtin F.entry_min_loop ?_
    rw [Around.under_plainId F.plain_min_loop _]
    show wpAny _ A.in1 (seqItems? (.ref S) >>= _) _ _ s
    refine B5 (wpAny_seqItems hS rfl ?_)
    show wpAny _ A.in1 (tryCatch (pyNext (.ref I)) _ >>= _) _ _ s
    refine B5 (wpAny_tryCatch (wpAny_pyNext_list_item hit hl hv fun h' hit' sb=>?_))
    have hS':h'.get? S=_:=(sb.2 S hSI).trans hS
    have hl':h'.IsList l (bs.map Value.ref).toArray:=hl.at fun o e=>(sb.2 l hIl).trans e
    have pk:∀ {h1 h2:Heap},(∀ b ∈ bs,∀ o,h1.get? b=some o->h2.get? b=some o)->mf h1 bs ns->mf h2 bs ns:=fun {h1 h2} k q i b e=>by
      obtain ⟨n,e1,o,t,u,m,e2,e3⟩:=q i b e
      exact ⟨n,e1,o,t,u,m,k b (Cm e) o e2,e3⟩
    have hp':mf h' bs ns:=pk (fun b hb o e=>(sb.2 b (hbI b hb)).trans e) hp
    have on:∀ (h2:Heap) (tk:Nat) (m':Option Nat) (c':Nat),(∀ a o,a ≠ S->h'.get? a=some o->h2.get? a=some o)->h2.get? S=some { cls:=.type "list",dict:=none,data:=.seq (sH (m'.bind (bs[·]?))) c',slots:=#[] }->(match m' with | none=>j+1=0 | some m=>mi ns (j+1) m) ->
        codeAny (model prog w) A (.builtin "min.loop" ⟨[.ref I,.none,.ref S],[]⟩) R { s with heap:=h2,toks:=tk }:=fun h2 tk m' c' k2 hS2 hb' =>
      ih (j+1) _ m' c' (by omega) hlt (hit'.at fun o e=>k2 I o (Ne.symm hSI) e) (hl'.at fun o e=>k2 l o (Ne.symm hSl) e) (pk (fun b hb o e=>k2 b o (hbS b hb) e) hp') hS2 hb' hpos fun v b h3 tk' hv' hw' k3=>fin v b h3 tk' hv' hw' fun a o ha hs e=>k3 a o ha hs (k2 a o hs ((sb.2 a ha).trans e))
    obtain ⟨nj,hnj,hpj⟩:=hp' j _ hx
    cases m with
    | none =>
      have h0:j=0:=hb
      show wpAny _ A.in1 (updateSeq S (fun _=>#[.ref bs[j],.ref bs[j]]) >>= _) _ _ _
      refine B5 (wpAny_updateSeq hS' rfl ?_ (hz:=by show 0<=sizeLine;exact Nat.zero_le _))
      rw [nm]
      refine B6 ⟨plainId_quiet F.plain_min_loop _,on _ s.toks (some j) (c+1) (fun a o ha e=>(CL _ _ (Ne.symm ha)).trans e) ?_ ⟨by omega,fun i hi x y h1 h2=>?_⟩⟩
      · simp only [Option.bind_some,hx]
        exact CA _ hS' rfl
      · obtain rfl:i=j:=by omega
        rw [h1] at h2;cases h2
        unfold ltP;simp
    | some m =>
      obtain ⟨hm,hle⟩:=hb
      have hmb:bs[m]?=some bs[m]:=Cg (by omega)
      obtain ⟨nm',hnm,hpm⟩:=hp' m _ hmb
      simp only [Option.bind_some,hmb] at hS' ⊢
      show wpAny _ A.in1 (tryCatch (holding [.ref bs[j],.ref bs[j]] (richCompare .Lt (.ref bs[j]) (.ref bs[m]) >>= _)) _ >>= _) _ _ _
      refine B5 (wpAny_tryCatch (B7 (B5 ?_)))
      refine yT (A:=A.in1) (show A.units+1 < cLine from hu) hpj hpm ?_
      refine B5 (B7 (CN (B5 (wpAny_letGo (B6 ?_)))))
      by_cases hgt:ltP nj nm'=true
      · rw [hgt,if_pos rfl]
        refine B5 (wpAny_updateSeq hS' rfl (B5 (wpAny_letGo ?_)) (hz:=by show 2<=sizeLine;decide))
        rw [nm]
        refine B6 ⟨plainId_quiet F.plain_min_loop _,on _ s.toks (some j) c (fun a o ha e=>(CL _ _ (Ne.symm ha)).trans e) ?_ ⟨by omega,fun i hi x y h1 h2=>?_⟩⟩
        · simp only [Option.bind_some,hx]
          exact CA _ hS' rfl
        · rw [hnj] at h2;cases h2
          by_cases hij:i=j
          · subst hij
            rw [hnj] at h1;cases h1
            unfold ltP;simp
          · exact t0 hgt (hle i (by omega) x nm' h1 hnm)
      · have hgt':ltP nj nm'=false:=by simpa using hgt
        rw [hgt',if_neg Cr]
        refine B5 (wpAny_letGo ?_)
        rw [nm]
        refine B6 ⟨plainId_quiet F.plain_min_loop _,on h' s.toks (some m) c (fun a o _ e=>e) (by simp only [Option.bind_some,hmb];exact hS') ⟨by omega,fun i hi x y h1 h2=>?_⟩⟩
        by_cases hij:i=j
        · subst hij
          rw [hnj] at h1;cases h1
          rw [hnm] at h2;cases h2
          exact hgt'
        · exact hle i (by omega) x y h1 h2
end
section
variable {prog:Program} {w:World} {A:Around} {E:Value->Shared->Prop} {s:Shared}
theorem uC {l:Addr} {bs:List Addr} {ns:List (Int × Int)} {Q:Value->Shared->Prop} (hh:A.handled=none) (hu:A.units+1 < cLine) (hl:s.heap.IsList l (bs.map Value.ref).toArray) (hp:mf s.heap bs ns) (hpos:0 < bs.length)
    (h:∀ m b h' tk,bs[m]?=some b->mi ns bs.length m->(∀ b o,s.heap.get? b=some o->h'.get? b=some o)->Q (.ref b) { s with heap:=h',toks:=tk }) :
    wpAny (model prog w) A (call (.builtin "min") [.ref l]) Q E s:=by
  have hname:(toString "min" ++ toString ".loop":String) = "min.loop":=by decide
  refine call_function_tree F.kind_min F.plain_min F.entry_min (F.args_min1 _) ?_
  show wpAny _ A.in1 (Builtin.Builtins.bindParams "min" ["key","default"] 0 ⟨[],[]⟩ >>= _) _ _ s
  refine B5 (wpAny_of_eq (show Builtin.Builtins.bindParams "min" ["key","default"] 0 ⟨[],[]⟩=pure [none,none] from rfl) ?_)
  refine B5 (B6 ?_)
  refine B5 (wpAny_pyIter_list hl ?_)
  refine B5 (wpAny_newObj_type ?_)
  rw [hname]
  have hlt:l < s.heap.objs.size:=by obtain ⟨_,e,_⟩:=hl;exact Ch e
  have hsz:(s.heap.push { cls:=.type "list_iterator",data:=.fields #[.ref l,.int 0 0] }).objs.size=s.heap.objs.size+1:=CM _ _
  have a1:(s.heap.push { cls:=.type "list_iterator",data:=.fields #[.ref l,.int 0 0] }).objs.size ≠ s.heap.objs.size:=by rw [hsz];exact Nat.succ_ne_self _
  have a2:(s.heap.push { cls:=.type "list_iterator",data:=.fields #[.ref l,.int 0 0] }).objs.size ≠ l:=by rw [hsz];exact Nat.ne_of_gt (Nat.lt_succ_of_lt hlt)
  have ltb:∀ b ∈ bs,b < s.heap.objs.size:=fun b hb=>by
    obtain ⟨i,hi,e⟩:=List.getElem_of_mem hb
    obtain ⟨_,_,o,_,_,_,e2,_⟩:=hp i b (by rw [Cg hi,e])
    exact Ch e2
  refine B6 ⟨plainId_quiet F.plain_min_loop _,tR (A:=A) hh hu (I:=s.heap.objs.size) (l:=l) (Cs hlt) a1 a2 bs ns (fun b hb=>Cs (ltb b hb)) (fun b hb=>by rw [hsz];exact Cs (Nat.lt_succ_of_lt (ltb b hb))) bs.length 0 _ none 0 (by omega) (by omega)
    ⟨_,Ca _ (Cj _ rfl),rfl,rfl⟩ (hl.at fun o e=>Ca _ (Ca _ e)) (fun i b e=>?_) (Cj _ rfl) rfl hpos fun m b h' tk hm hL hk=>?_⟩
  · obtain ⟨n,e1,o,t,u,m,e2,e3⟩:=hp i b e
    exact ⟨n,e1,o,t,u,m,Ca _ (Ca _ e2),e3⟩
  · refine h m b h' tk hm hL fun c o e=>hk c o (fun q=>?_) (fun q=>?_) (Ca _ (Ca _ e))
    · exact absurd q (Cs (Ch e))
    · exact absurd (q.trans hsz) (Cs (Nat.lt_succ_of_lt (Ch e)))
end
section
variable {X:Cx}
noncomputable def Ab (K:FG):List V->Hp->VK->Prop:=fun xs H Q=>∃ (l:Addr) (bs:List Addr) (ns:List (Int × Int)),xs=[.ref l]/\SqL K H l (bs.map V.ref)/\(∀ (i:Nat) (b:Addr),bs[i]?=some b->∃ n,ns[i]?=some n/\H b=some (.tup [.int n.1,.int n.2]))/\bs ≠ [] /\
  ∀ m b,bs[m]?=some b->mi ns bs.length m->Q (.ref b) H
theorem jJ:∀ {bs:List Addr} {its:List Value},Vals (bs.map V.ref) its->its=bs.map Value.ref
  | [],_,.nil=>rfl
  | b :: bs,_,.cons r t=>by cases r;rw [jJ t];rfl
theorem uE (hc:X.calm=true) (hu:X.A.units+1 < cLine):CallR X (.builtin "min") (Ab X.K):=by
  intro pins s σ H xs us Q I rx h
  obtain ⟨l,bs,ns,rfl,hl,hp,hne,q⟩:=h
  obtain ⟨u,rfl,ru⟩:=iK rx
  cases (show u=Value.ref l from ru)
  obtain ⟨its,rv,p,hz⟩:=I.list hl
  have pl:=p.isList
  rw [jJ rv] at pl
  refine uC (I.ok.hd hc) hu pl (ns:=ns) (fun i b e=>?_) (List.length_pos_iff.mpr hne) fun m b h' tk hm hL hk=>⟨.ref b,H,I.kept hk,rfl,q m b hm hL⟩
  obtain ⟨n,e1,e2⟩:=hp i b e
  obtain ⟨_,its,r,o,h1,h2,k,h3⟩:=(show ObjOk X.prog X.w H s.heap b (.tup [.int n.1,.int n.2]) from I.hok b _ e2)
  refine ⟨n,e1,?_⟩
  cases r with
  | cons r1 r =>
    cases r with
    | cons r2 r =>
      cases r
      obtain ⟨t,rfl⟩:=r1
      obtain ⟨u,rfl⟩:=r2
      exact ⟨o,t,u,k,h1,h2,congrArg Prod.fst h3⟩
end
end L2
end
section
namespace L2
open PySem
theorem uZ:typeLookup (.type "zip") "__getattr__"=pure none:=by rw [typeLookup_type,builtinLookup_eq_fast];kernel_rfl
theorem xF:entryFor table "zip.__getattribute__"=some Builtin.«object.__getattribute__»:=entryFor_alias (id':="object.__getattribute__") (by kernel_rfl) (by decide +kernel) (by decide +kernel) (by kernel_rfl)
theorem sO {a:Addr} {vs:Array Value} {sl:Array (Option Value)} {name:Str} {u:Tok} (hmiss:typeLookup (.type "zip") name=pure none) (hname:(["__module__","__name__","__qualname__","__doc__","__annotations__"]:List Str).contains name=false) (hsz:name.length+100<=sizeLine) :
    Meets (Builtin.«object.__getattribute__» ⟨[.ref a,.str name u],[]⟩) (fun A R s=>s.heap.get? a=some { cls:=.type "zip",dict:=none,data:=.fields vs,slots:=sl }/\raisesAttr (.ref a) name A R s):=by
  refine .of_wp fun prog w A R s h=>?_
  obtain ⟨hp,g,d,tk,os⟩:=s
  obtain ⟨hx,h⟩:=h
  have ty:(⟨hp,g,d,tk,os⟩:Shared).TypeIs (.ref a) "zip":=⟨_,hx,rfl⟩
  wp_walk
  refine wpAny_ite_false (by rw [hname];rfl) ?_
  wp_walk
  exact wpAny_raiseAttrError h.1 h.2 (attrMsg_fits (by decide +kernel) hsz)
theorem getAttr?_miss_zip {prog:Program} {w:World} {A:Around} {E:Value->Shared->Prop} {s:Shared} {a:Addr} {o:Obj} {vs:Array Value} {name:Str} {Q:Option Value->Shared->Prop}
    (hx:s.heap.get? a=some o) (hc:o.cls=.type "zip") (hdat:o.data=.fields vs) (hd:o.dict=none) (hmiss:typeLookup (.type "zip") name=pure none) (hname:(["__module__","__name__","__qualname__","__doc__","__annotations__"]:List Str).contains name=false) (hh:A.handled=none)
    (h:∀ h' tk e,Heap.NewExcOf s.heap h' e "AttributeError"->Q none { s with heap:=h',toks:=tk }) (hsz:name.length+100<=sizeLine:=by size_fits) :
    wpAny (model prog w) A (getAttr? (.ref a) name) Q E s:=by
  obtain ⟨c,dct,dat,sl⟩:=o
  obtain ⟨hp,g,d,tk,os⟩:=s
  simp only at hc hdat hd
  subst hc hdat hd
  have ty:(⟨hp,g,d,tk,os⟩:Shared).TypeIs (.ref a) "zip":=⟨_,hx,rfl⟩
  have l1:=F.slot_zip_getattribute.lookup
  have l2:=F.slot_zip_getattribute.bind (.ref a)
  have l3:=uZ
  have l4:=sub_AttributeError
  have ty':∀ tk',(⟨hp,g,d,tk',os⟩:Shared).TypeIs (.ref a) "zip":=fun _=>⟨_,hx,rfl⟩
  repeat ((fail_if_success with_reducible refine wpAny_call ?_);wp_step)
  refine call_meets F.slot_zip_getattribute (ty' _) xF (F.args_zip_getattribute_2 _ _) (sO (vs:=vs) (sl:=sl) hmiss hname hsz) ⟨hx,hh,fun h' tk' e n=>?_⟩
  obtain ⟨t',u',he⟩:=n.there
  refine (?_:wpAny _ _ (getattributeRaised _ _ _ _ _ _ _) _ _ _)
  have in2:(⟨h',g,d,tk',os⟩:Shared).TypeIs (.ref e) "AttributeError":=⟨_,he,rfl⟩
  wp_walk
  exact h _ _ _ n.of
noncomputable abbrev cU (h:Heap) (z TI TO:Addr) (f0 f1:Value):Prop :=
  h.get? z=some { cls:=.type "zip",dict:=none,data:=.fields #[f0,f1,.bool false,.ref TI,.ref TO],slots:=#[] }
noncomputable def gG (h:Heap) (z TO i1 i2:Addr) (f0 f1:Value):Prop:=(f0=.none/\f1=.bool false)\/∃ (T:Nat) (o:Obj),f0=rawInt (T:Nat)/\h.get? T=some o/\∃ b,f1=.bool b/\T ≠ z/\T ≠ TO/\T ≠ i1/\T ≠ i2
theorem uY (l1 l2:Addr) (xs ys:Array Value) :
    Meets (Builtin.«zip.__new__» ⟨[.type "zip",.ref l1,.ref l2],[]⟩) (fun _ R s=>s.heap.IsList l1 xs/\s.heap.IsTuple l2 ys /\
      ∀ h',(∀ n,n=s.heap.objs.size->cU h' (n+4) (n+2) (n+3) .none (.bool false)/\PySem.IsPair h' (n+2) (.ref n) (.ref (n+1))/\PySem.IsPair h' (n+3) .none .none/\h'.IsListIter n l1 0/\h'.IsTupleIter (n+1) l2 0/\h'.objs.size=n+5) ->
        (∀ c o,s.heap.get? c=some o->h'.get? c=some o)->R (.ok (.ret (.ref (s.heap.objs.size+4)))) { s with heap:=h' }):=by
  refine .of_wp fun prog w A R s h=>?_
  obtain ⟨hp,g,d,tk,os⟩:=s
  obtain ⟨a1,a2,h⟩:=h
  have sub:=sub_zip
  have it1:Heap.IsList (Shared.heap ⟨hp,g,d,tk,os⟩) l1 xs:=a1
  have it2:Heap.IsTuple (Shared.heap ⟨hp.push { cls:=.type "list_iterator",data:=.fields #[.ref l1,.int 0 0] },g,d,tk,os⟩) l2 ys:=Heap.IsTuple.push a2 _
  wp_walk using wpAny_pyIter_list it1,wpAny_pyIter_tuple it2
  refine ⟨_,rfl,?_⟩
  simp only [CM]
  have new:∀ (h:Heap) (u:Obj),u.isFreed=false->∀ n,h.objs.size=n->(h.push u).get? n=some u:=fun h u e n z=>z ▸ Cj _ e
  have keep:∀ (h:Heap) (u:Obj) {c o},h.get? c=some o->(h.push u).get? c=some o:=fun h u=>Ca _
  refine h _ (fun n e=>?_) fun c o e=>keep _ _ (keep _ _ (keep _ _ (keep _ _ (keep _ _ e))))
  subst e
  refine ⟨new _ _ rfl _ ?_,keep _ _ (keep _ _ (new _ _ rfl _ ?_)),keep _ _ (new _ _ rfl _ ?_),⟨_,keep _ _ (keep _ _ (keep _ _ (keep _ _ (new _ _ rfl _ ?_)))),rfl,rfl⟩,⟨_,keep _ _ (keep _ _ (keep _ _ (new _ _ rfl _ ?_))),rfl,rfl⟩,?_⟩ <;> simp only [CM]
section
variable {prog:Program} {w:World} {A:Around} {E:Value->Shared->Prop} {s:Shared}
theorem fk {it l:Addr} {i:Nat} {items} {x:Value} {Q:Value->Shared->Prop} (hit:s.heap.IsTupleIter it l i)
    (hl:s.heap.IsTuple l items) (hx:items[i]?=some x)
    (hQ:∀ h',h'.IsTupleIter it l (i+1)->Heap.SameBut it s.heap h'->Q x { s with heap:=h' }) :
    wpAny (model prog w) A (Builtin.SmallTypes.nextOf (.ref it)) Q E s:=by
  have ty:=hit.typeIs
  obtain ⟨⟨c1,d1,x1,s1⟩,h1,e1,e2⟩:=hit
  obtain ⟨⟨c2,d2,x2,s2⟩,h2,e3,n,e4⟩:=hl
  obtain ⟨hp,g,dr,tk,os⟩:=s
  simp only at e1 e2 e3 e4
  subst e1 e2 e3 e4
  unfold Builtin.SmallTypes.nextOf
  refine B5 (wpAny_callSpecial?_slot ty F.slot_tuple_iterator_next (wpAny_call_entry F.slot_tuple_iterator_next ty F.entry_tuple_iterator_next ?_ (F.args_tuple_iterator_next_1 _)))
  wp_walk
  rw [show items[(i:Int).toNat]?=some x from hx]
  wp_walk
  exact ⟨_,rfl,B6 (hQ _ ⟨_,CA _ h1 rfl,rfl,rfl⟩ (Heap.SameBut.update ..))⟩
theorem oA {z TI TO T:Addr} {b:Bool} {oT:Obj} {R:Bool->Shared->Prop} (hz:cU s.heap z TI TO (rawInt (T:Nat)) (.bool b)) (hT:s.heap.get? T=some oT)
    (hR:∀ h₁,cU h₁ z TI TO (rawInt (T:Nat)) (.bool true)->Heap.SameBut z s.heap h₁->R false { s with heap:=h₁ }):wpAny (model prog w) A (Builtin.SmallTypes.ownedTupleIsFree (.ref z)) R E s:=by
  unfold Builtin.SmallTypes.ownedTupleIsFree
  refine B5 (wpAny_field hz rfl (x:=rawInt (T:Nat)) rfl ?_)
  show wpAny _ _ (loadIfAlive (Int.toNat (T:Int)) >>= _) _ _ _
  refine B5 (fun Γ p hΓ=>?_)
  show Sem.wp _ _ (Sem.loadIfAlive _ Sem.pure) _ _ _ _
  rw [Sem.wp_loadIfAlive,Int.toNat_natCast,hT]
  refine (show wpAny (model prog w) A (pure (some oT)) _ E s from B6 ?_) Γ p hΓ
  simp only [Option.isNone_some,CI,if_false]
  refine B5 (wpAny_field hz rfl (x:=.bool b) rfl ?_)
  cases b with
  | true=>exact B6 (hR s.heap hz (Heap.SameBut.refl _ _))
  | false =>
    refine B5 (wpAny_setField_rec hz (by simp) fun h₁ hz₁ hs₁=>B6 (hR h₁ hz₁ hs₁))
theorem mj {z TI TO i1 i2 l1 l2 T:Addr} {k1 k2:Nat} {xs ys:Array Value} {x y:Value} {b:Bool} {oT:Obj} {Q:Value->Shared->Prop} (D:ZipApart z TI TO i1 i2 l1 l2)
    (hz:cU s.heap z TI TO (rawInt (T:Nat)) (.bool b)) (hT:s.heap.get? T=some oT) (hTI:PySem.IsPair s.heap TI (.ref i1) (.ref i2))
    (h1:s.heap.IsListIter i1 l1 k1) (h2:s.heap.IsTupleIter i2 l2 k2) (hl1:s.heap.IsList l1 xs) (hl2:s.heap.IsTuple l2 ys) (hx:xs[k1]?=some x) (hy:ys[k2]?=some y)
    (hQ:∀ h',cU h' z TI TO (rawInt (T:Nat)) (.bool true)->h'.IsListIter i1 l1 (k1+1)->h'.IsTupleIter i2 l2 (k2+1)->PySem.IsPair h' s.heap.objs.size x y->h'.objs.size=s.heap.objs.size+1 ->
      (∀ c o,c ≠ z->c ≠ i1->c ≠ i2->s.heap.get? c=some o->h'.get? c=some o)->Q (.ref s.heap.objs.size) { s with heap:=h' }) :
    wpAny (model prog w) A (Builtin.«zip.__next__» ⟨[.ref z],[]⟩) (fun fin s'=>∃ v,fin=.done (.ret v)/\Q v s') E s:=by
  show wpAny _ _ (field (.ref z) 2 >>= _) _ _ _
  refine B5 (wpAny_field hz rfl (x:=.bool false) rfl ?_)
  show wpAny _ _ (field (.ref z) 3 >>= _) _ _ _
  refine B5 (wpAny_field hz rfl (x:=.ref TI) rfl ?_)
  refine B5 (wpAny_seqItems hTI rfl ?_)
  show wpAny _ _ (Builtin.SmallTypes.ownedTupleIsFree (.ref z) >>= _) _ _ _
  refine B5 (oA hz hT fun h₁ hz₁ hs₁=>?_)
  simp only [CI,if_false]
  refine B5 ?_
  rw [<- Array.forIn_toList]
  simp only [List.forIn_cons,List.forIn_nil]
  refine B5 (B5 (B7 ?_))
  show wpAny _ _ (Builtin.SmallTypes.nextOf (.ref i1) >>= _) _ _ _
  refine B5 (wpAny_nextOf_list_item (h1.extBut hs₁.extBut D.i1z) (hl1.extBut hs₁.extBut D.l1z) hx fun h₂ h1₂ hs₂=>B6 ?_)
  refine B6 (B5 (B5 (B7 ?_)))
  show wpAny _ _ (Builtin.SmallTypes.nextOf (.ref i2) >>= _) _ _ _
  refine B5 (fk ((h2.extBut hs₁.extBut D.i2z).extBut hs₂.extBut D.i12.symm) ((hl2.extBut hs₁.extBut D.l2z).extBut hs₂.extBut D.l2i1) hy fun h₃ h2₃ hs₃=>B6 ?_)
  refine B6 (B6 ?_)
  show wpAny _ _ (newTuple [x,y] >>= _) _ _ _
  refine B5 (wpAny_newTuple (B6 ⟨_,rfl,?_⟩))
  have hz₃:cU h₃ z TI TO (rawInt (T:Nat)) (.bool true):=hs₃.extBut _ _ D.i2z.symm (hs₂.extBut _ _ D.i1z.symm hz₁)
  have hsz:h₃.objs.size=s.heap.objs.size:=by rw [hs₃.1,hs₂.1,hs₁.1]
  have g:(h₃.push { cls:=.type "tuple",data:=.seq #[x,y] }).get? h₃.objs.size=some _:=Cj _ rfl
  have:=hQ (h₃.push { cls:=.type "tuple",data:=.seq #[x,y] }) (Ca _ hz₃) ((fun ⟨o,e,r⟩=>⟨o,Ca _ e,r⟩:h₃.IsListIter i1 l1 (k1+1)->_) (h1₂.extBut hs₃.extBut D.i12)) ((fun ⟨o,e,r⟩=>⟨o,Ca _ e,r⟩:h₃.IsTupleIter i2 l2 (k2+1)->_) h2₃)
    (by rw [hsz] at g;exact g) (by rw [CM,hsz]) fun c o c1 c2 c3 e=>Ca _ (hs₃.extBut _ _ c3 (hs₂.extBut _ _ c2 (hs₁.extBut _ _ c1 e)))
  rw [<- hsz] at this
  exact this
theorem k6 {z TI TO i1 i2 l1 l2:Addr} {k1 k2:Nat} {xs ys:Array Value} {x y a b:Value} {Q:Value->Shared->Prop} (D:ZipApart z TI TO i1 i2 l1 l2)
    (hz:cU s.heap z TI TO .none (.bool false)) (hTI:PySem.IsPair s.heap TI (.ref i1) (.ref i2)) (hTO:PySem.IsPair s.heap TO a b)
    (h1:s.heap.IsListIter i1 l1 k1) (h2:s.heap.IsTupleIter i2 l2 k2) (hl1:s.heap.IsList l1 xs) (hl2:s.heap.IsTuple l2 ys) (hx:xs[k1]?=some x) (hy:ys[k2]?=some y)
    (hQ:∀ h',cU h' z TI TO (rawInt s.heap.objs.size) (.bool false)->h'.IsListIter i1 l1 (k1+1)->h'.IsTupleIter i2 l2 (k2+1)->(∃ a b,PySem.IsPair h' TO a b)/\PySem.IsPair h' s.heap.objs.size x y->h'.objs.size=s.heap.objs.size+1 ->
      (∀ c o,c ≠ z->c ≠ TO->c ≠ i1->c ≠ i2->s.heap.get? c=some o->h'.get? c=some o)->Q (.ref s.heap.objs.size) { s with heap:=h' }) :
    wpAny (model prog w) A (Builtin.«zip.__next__» ⟨[.ref z],[]⟩) (fun fin s'=>∃ v,fin=.done (.ret v)/\Q v s') E s:=by
  obtain ⟨hp,g,dr,tk,os⟩:=s
  obtain ⟨q1,q2,q3,q4,q5,q6,q7,q8,q9,q10,q11,q12,q13,q14,q15,q16,q17,q18⟩:=D
  repeat ((fail_if_success with_reducible refine wpAny_onRaise ?_);wp_step)
  refine wpAny_onRaise (B5 ?_)
  refine wpAny_nextOf_list_item (h1.extBut (Heap.SameBut.update ..).extBut q3) (hl1.extBut (Heap.SameBut.update ..).extBut q11) hx fun h₂ j1 s₂=>?_
  have z₂:cU h₂ z TI TO .ellipsis (.bool false):=s₂.extBut _ _ (Ne.symm q3) (CA _ hz rfl)
  have t₂:PySem.IsPair h₂ TO a b:=s₂.extBut _ _ q8 ((Heap.SameBut.update ..).extBut _ _ q2 hTO)
  have k₂:∀ c o,c ≠ z->c ≠ i1->hp.get? c=some o->h₂.get? c=some o:=fun c o c1 c2 e=>s₂.extBut _ _ c2 ((Heap.SameBut.update ..).extBut _ _ c1 e)
  have n₂:h₂.objs.size=hp.objs.size:=by rw [s₂.1];exact (Heap.SameBut.update ..).1
  clear s₂
  repeat ((fail_if_success with_reducible refine wpAny_onRaise ?_);wp_step)
  refine wpAny_onRaise (B5 ?_)
  refine fk (it:=i2) (l:=l2) ((fun ⟨o,e,r⟩=>⟨o,(Heap.SameBut.update ..).extBut _ _ (Ne.symm q9) (k₂ _ _ q4 (Ne.symm q10) e),r⟩:hp.IsTupleIter i2 l2 k2->_) h2) ((fun ⟨o,e,r⟩=>⟨o,(Heap.SameBut.update ..).extBut _ _ q16 (k₂ _ _ q15 q17 e),r⟩:hp.IsTuple l2 ys->_) hl2) hy fun h₄ j2 s₄=>?_
  have z₄:cU h₄ z TI TO .ellipsis (.bool false):=s₄.extBut _ _ (Ne.symm q4) ((Heap.SameBut.update ..).extBut _ _ (Ne.symm q2) z₂)
  have t₄:PySem.IsPair h₄ TO x b:=s₄.extBut _ _ q9 (CA _ t₂ rfl)
  have j1':h₄.IsListIter i1 l1 (k1+1):=j1.extBut (Heap.SameBut.update ..).extBut (Ne.symm q8) |>.extBut s₄.extBut q10
  have k₄:∀ c o,c ≠ z->c ≠ TO->c ≠ i1->c ≠ i2->hp.get? c=some o->h₄.get? c=some o:=fun c o c1 c2 c3 c4 e=>s₄.extBut _ _ c4 ((Heap.SameBut.update ..).extBut _ _ c2 (k₂ c o c1 c3 e))
  have n₄:h₄.objs.size=hp.objs.size:=by rw [s₄.1,<- n₂];exact (Heap.SameBut.update ..).1
  clear s₄ j1 z₂ t₂ k₂ n₂
  have n₅:∀ f,(h₄.update TO f).objs.size=hp.objs.size:=fun f=>by rw [Heap.size_update,n₄]
  have lz:=Ch hz
  have up:∀ (h:Heap) (u:Obj) (f f':Obj->Obj) (c:Addr) (o:Obj),c ≠ z->h.get? c=some o->(((h.push u).update z f).update z f').get? c=some o:=fun h u f f' c o n e=>(Heap.SameBut.update ..).extBut _ _ n ((Heap.SameBut.update ..).extBut _ _ n (Ca _ e))
  have k₅:∀ f c o,c ≠ TO->h₄.get? c=some o->(h₄.update TO f).get? c=some o:=fun f c o n e=>(Heap.SameBut.update ..).extBut _ _ n e
  have new:∀ (h:Heap) (u:Obj),u.isFreed=false->(h.push u).get? h.objs.size=some u:=fun h u e=>Cj _ e
  wp_walk
  refine ⟨_,rfl,?_⟩
  have w:=new (h₄.update TO (Obj.mapSeq fun v:Array Value=>v.setIfInBounds (0+1) y)) { cls:=.type "tuple",data:=.seq #[x,y] } rfl
  simp only [n₅] at w ⊢
  refine hQ _ (CA _ (CA _ (Ca _ (k₅ _ _ _ (Ne.symm q2) z₄)) rfl) rfl) ?_ ?_ ⟨⟨x,y,up _ _ _ _ _ _ q2 (CA _ t₄ rfl)⟩,?_⟩ ?_ ?_
  · exact (fun ⟨o,e,r⟩=>⟨o,up _ _ _ _ _ _ q3 (k₅ _ _ _ (Ne.symm q8) e),r⟩:h₄.IsListIter i1 l1 (k1+1)->_) j1'
  · exact (fun ⟨o,e,r⟩=>⟨o,up _ _ _ _ _ _ q4 (k₅ _ _ _ (Ne.symm q9) e),r⟩:h₄.IsTupleIter i2 l2 (k2+1)->_) j2
  · exact (Heap.SameBut.update ..).extBut _ _ (Nat.ne_of_gt lz) ((Heap.SameBut.update ..).extBut _ _ (Nat.ne_of_gt lz) w)
  · rw [Heap.size_update,Heap.size_update,CM,n₅]
  · exact fun c o c1 c2 c3 c4 e=>up _ _ _ _ _ _ c1 (k₅ _ _ _ c2 (k₄ c o c1 c2 c3 c4 e))
theorem uX {z TI TO i1 i2 l1 l2:Addr} {k1 k2:Nat} {xs ys:Array Value} {x y a b f0 f1:Value} {Q:Value->Shared->Prop} (D:ZipApart z TI TO i1 i2 l1 l2)
    (hz:cU s.heap z TI TO f0 f1) (hm:gG s.heap z TO i1 i2 f0 f1) (hTI:PySem.IsPair s.heap TI (.ref i1) (.ref i2)) (hTO:PySem.IsPair s.heap TO a b)
    (h1:s.heap.IsListIter i1 l1 k1) (h2:s.heap.IsTupleIter i2 l2 k2) (hl1:s.heap.IsList l1 xs) (hl2:s.heap.IsTuple l2 ys) (hx:xs[k1]?=some x) (hy:ys[k2]?=some y)
    (hQ:∀ h' f0' f1',cU h' z TI TO f0' f1'->gG h' z TO i1 i2 f0' f1'->(∃ a b,PySem.IsPair h' TO a b)->h'.IsListIter i1 l1 (k1+1)->h'.IsTupleIter i2 l2 (k2+1)->PySem.IsPair h' s.heap.objs.size x y->h'.objs.size=s.heap.objs.size+1 ->
      (∀ c o,c ≠ z->c ≠ TO->c ≠ i1->c ≠ i2->s.heap.get? c=some o->h'.get? c=some o)->Q (.ref s.heap.objs.size) { s with heap:=h' }) :
    wpAny (model prog w) A (Builtin.«zip.__next__» ⟨[.ref z],[]⟩) (fun fin s'=>∃ v,fin=.done (.ret v)/\Q v s') E s:=by
  have lz:z < s.heap.objs.size:=Ch hz
  have lTO:TO < s.heap.objs.size:=Ch hTO
  have l1':i1 < s.heap.objs.size:=by obtain ⟨_,e,_⟩:=h1;exact Ch e
  have l2':i2 < s.heap.objs.size:=by obtain ⟨_,e,_⟩:=h2;exact Ch e
  rcases hm with ⟨rfl,rfl⟩ | ⟨T,oT,rfl,hT,b,rfl,t1,t2,t3,t4⟩
  · exact k6 D hz hTI hTO h1 h2 hl1 hl2 hx hy fun h' a1 a2 a3 a4 a5 a6=>hQ h' _ _ a1 (.inr ⟨_,_,rfl,a4.2,_,rfl,Nat.ne_of_gt lz,Nat.ne_of_gt lTO,Nat.ne_of_gt l1',Nat.ne_of_gt l2'⟩) a4.1 a2 a3 a4.2 a5 a6
  · exact mj D hz hT hTI h1 h2 hl1 hl2 hx hy fun h' a1 a2 a3 a4 a5 a6=>hQ h' _ _ a1 (.inr ⟨_,_,rfl,a6 _ _ t1 t3 t4 hT,_,rfl,t1,t2,t3,t4⟩) ⟨_,_,a6 _ _ D.TOz D.TOi1 D.TOi2 hTO⟩ a2 a3 a4 a5 fun c o c1 _ c3 c4 e=>a6 c o c1 c3 c4 e
theorem xG {z TI TO i1 i2 l1 l2:Addr} {k1:Nat} {xs:Array Value} {a b f0 f1:Value} {Q:Fin->Shared->Prop} (hh:A.handled=none) (D:ZipApart z TI TO i1 i2 l1 l2)
    (hz:cU s.heap z TI TO f0 f1) (hm:gG s.heap z TO i1 i2 f0 f1) (hTI:PySem.IsPair s.heap TI (.ref i1) (.ref i2)) (hTO:PySem.IsPair s.heap TO a b)
    (h1:s.heap.IsListIter i1 l1 k1) (hl1:s.heap.IsList l1 xs) (hend:xs[k1]?=none)
    (hE:∀ h' e,(∀ c o,c ≠ z->c ≠ TO->c ≠ i1->c ≠ i2->s.heap.get? c=some o->h'.get? c=some o)->(∃ o,h'.get? e=some o/\o.cls=.type "StopIteration")->E (.ref e) { s with heap:=h' }) :
    wpAny (model prog w) A (Builtin.«zip.__next__» ⟨[.ref z],[]⟩) Q E s:=by
  show wpAny _ _ (field (.ref z) 2 >>= _) _ _ _
  refine B5 (wpAny_field hz rfl (x:=.bool false) rfl ?_)
  show wpAny _ _ (field (.ref z) 3 >>= _) _ _ _
  refine B5 (wpAny_field hz rfl (x:=.ref TI) rfl ?_)
  refine B5 (wpAny_seqItems hTI rfl ?_)
  show wpAny _ _ (Builtin.SmallTypes.ownedTupleIsFree (.ref z) >>= _) _ _ _
  rcases hm with ⟨rfl,rfl⟩ | ⟨T,oT,rfl,hT,b,rfl,t1,t2,t3,t4⟩
  · refine B5 ?_
    unfold Builtin.SmallTypes.ownedTupleIsFree
    refine B5 (wpAny_field hz rfl (x:=.none) rfl (B6 ?_))
    simp only [if_true]
    refine B5 (wpAny_rule ?_)
    refine B5 (wpAny_field hz rfl (x:=.ref TO) rfl ?_)
    refine B5 (wpAny_setField_rec hz (by simp) fun h₁ hz₁ hs₁=>?_)
    replace hz₁:cU h₁ z TI TO .ellipsis (.bool false):=hz₁
    refine B5 ?_
    simp only [List.zipIdx_cons,List.zipIdx_nil,List.forIn_cons,List.forIn_nil]
    refine B5 (B5 (wpAny_onRaise ?_))
    show wpAny _ _ (Builtin.SmallTypes.nextOf (.ref i1) >>= _) _ _ _
    refine B5 (wpAny_nextOf_list_end hh (h1.extBut hs₁.extBut D.i1z) (hl1.extBut hs₁.extBut D.l1z) hend fun h₂ e hs₂ he=>?_)
    obtain ⟨oe,hoe,hce⟩:=he
    have hz₂:cU h₂ z TI TO .ellipsis (.bool false):=hs₂ _ _ D.i1z.symm hz₁
    have hez:e ≠ z:=fun x=>by subst x;rw [hz₂] at hoe;cases hoe;simp at hce
    refine wpAny_setField_rec hz₂ (by simp) fun h₃ _ hs₃=>hE h₃ e (fun c o c1 _ c3 _ x=>hs₃.extBut _ _ c1 (hs₂ _ _ c3 (hs₁.extBut _ _ c1 x))) ⟨oe,hs₃.extBut _ _ hez hoe,hce⟩
  · refine B5 (oA hz hT fun h₁ hz₁ hs₁=>?_)
    simp only [CI,if_false]
    refine B5 ?_
    rw [<- Array.forIn_toList]
    simp only [List.forIn_cons,List.forIn_nil]
    refine B5 (B5 (B7 ?_))
    show wpAny _ _ (Builtin.SmallTypes.nextOf (.ref i1) >>= _) _ _ _
    refine B5 (wpAny_nextOf_list_end hh (h1.extBut hs₁.extBut D.i1z) (hl1.extBut hs₁.extBut D.l1z) hend fun h₂ e hs₂ he=>?_)
    exact hE h₂ e (fun c o c1 _ c3 _ x=>hs₂ _ _ c3 (hs₁.extBut _ _ c1 x)) he
theorem uA {l1 l2:Addr} {xs ys:Array Value} {Q:Value->Shared->Prop} (hl1:s.heap.IsList l1 xs) (hl2:s.heap.IsTuple l2 ys)
    (h:∀ h',IsZip h' (s.heap.objs.size+4) (s.heap.objs.size+2) (s.heap.objs.size+3) .none->PySem.IsPair h' (s.heap.objs.size+2) (.ref s.heap.objs.size) (.ref (s.heap.objs.size+1)) ->
      PySem.IsPair h' (s.heap.objs.size+3) .none .none->h'.IsListIter s.heap.objs.size l1 0->h'.IsTupleIter (s.heap.objs.size+1) l2 0->h'.objs.size=s.heap.objs.size+5 ->
      (∀ c o,s.heap.get? c=some o->h'.get? c=some o)->Q (.ref (s.heap.objs.size+4)) { s with heap:=h' }) :
    wpAny (model prog w) A (call (.type "zip") [.ref l1,.ref l2]) Q E s :=
  callType_new F.called_zip (by decide) (F.typeCall_zip_2 _ _) (F.newCall_zip_2 _ _) (fun obj=>F.args_object_init_3 obj _ _) F.entry_zip_new (uY l1 l2 xs ys) ⟨hl1,hl2,fun h' f k =>
    let ⟨a,b,c,d,e,z⟩:=f _ rfl
    ⟨⟨_,a,rfl⟩,h h' a b c d e z k⟩⟩
end
end L2
end
section
namespace L2
open PySem
namespace Fz
theorem entry_dict_update_loop:entryFor table "dict.update.loop"=some Builtin.«dict.update.loop»:=entryFor_of_tree (by kernel_rfl)
theorem plain_dict_update_loop:plainId "dict.update.loop"=true:=by decide +kernel
end Fz
section
variable {prog:Program} {w:World} {K:Type} [DecidableEq K] {knd:HeapKind prog w K} {A:Around} {E:Value->Shared->Prop} {s:Shared}
theorem tO {z TI TO i1 i2 l1 l2:Addr} {k1 k2:Nat} {xs ys:Array Value} {x y a b f0 f1:Value} {Q:Option Value->Shared->Prop} (D:ZipApart z TI TO i1 i2 l1 l2)
    (hz:cU s.heap z TI TO f0 f1) (hm:gG s.heap z TO i1 i2 f0 f1) (hTI:PySem.IsPair s.heap TI (.ref i1) (.ref i2)) (hTO:PySem.IsPair s.heap TO a b)
    (h1:s.heap.IsListIter i1 l1 k1) (h2:s.heap.IsTupleIter i2 l2 k2) (hl1:s.heap.IsList l1 xs) (hl2:s.heap.IsTuple l2 ys) (hx:xs[k1]?=some x) (hy:ys[k2]?=some y)
    (hQ:∀ h' f0' f1',cU h' z TI TO f0' f1'->gG h' z TO i1 i2 f0' f1'->(∃ a b,PySem.IsPair h' TO a b)->h'.IsListIter i1 l1 (k1+1)->h'.IsTupleIter i2 l2 (k2+1)->PySem.IsPair h' s.heap.objs.size x y->h'.objs.size=s.heap.objs.size+1 ->
      (∀ c o,c ≠ z->c ≠ TO->c ≠ i1->c ≠ i2->s.heap.get? c=some o->h'.get? c=some o)->Q (some (.ref s.heap.objs.size)) { s with heap:=h' }) :
    wpAny (model prog w) A (pyNext (.ref z)) Q E s:=by
  have hT:s.TypeIs (.ref z) "zip":=⟨_,hz,rfl⟩
  unfold pyNext
  exact B5 (wpAny_attempt (wpAny_callSpecial?_slot (name:=Str.ofString "__next__") hT PySem.F.slot_zip_next
    (wpAny_call_entry PySem.F.slot_zip_next hT PySem.F.entry_zip_next
      (uX D hz hm hTI hTO h1 h2 hl1 hl2 hx hy fun h' f0' f1' a1 a2 a3 a4 a5 a6 a7 a8=>B6 (hQ h' f0' f1' a1 a2 a3 a4 a5 a6 a7 a8)) (PySem.F.args_zip_next_1 _))))
theorem wd {z TI TO i1 i2 l1 l2:Addr} {k1:Nat} {xs:Array Value} {a b f0 f1:Value} {Q:Option Value->Shared->Prop} (hh:A.handled=none) (D:ZipApart z TI TO i1 i2 l1 l2)
    (hz:cU s.heap z TI TO f0 f1) (hm:gG s.heap z TO i1 i2 f0 f1) (hTI:PySem.IsPair s.heap TI (.ref i1) (.ref i2)) (hTO:PySem.IsPair s.heap TO a b)
    (h1:s.heap.IsListIter i1 l1 k1) (hl1:s.heap.IsList l1 xs) (hend:xs[k1]?=none)
    (hQ:∀ h',(∀ c o,c ≠ z->c ≠ TO->c ≠ i1->c ≠ i2->s.heap.get? c=some o->h'.get? c=some o)->Q none { s with heap:=h' }):wpAny (model prog w) A (pyNext (.ref z)) Q E s:=by
  have hT:s.TypeIs (.ref z) "zip":=⟨_,hz,rfl⟩
  unfold pyNext
  refine B5 (wpAny_attempt (wpAny_callSpecial?_slot (name:=Str.ofString "__next__") hT PySem.F.slot_zip_next
    (wpAny_call_entry PySem.F.slot_zip_next hT PySem.F.entry_zip_next (xG hh D hz hm hTI hTO h1 hl1 hend fun h' e hk he=>?_) (PySem.F.args_zip_next_1 _))))
  obtain ⟨o,ho,hc⟩:=he
  refine B5 (wpAny_isInstance (T:="StopIteration") (b:=true) ⟨o,ho,hc⟩ isSubtype_stop ?_)
  exact B6 (hQ _ hk)
set_option tactic.hygienic true in
theorem rj {tr:List (K × Addr × Value)} (hn:(tr.map (·.1)).Nodup) {i:Nat} {t:K × Addr × Value} (e:tr[i]?=some t):storedH (tr.take i) t.1 t.2.1 t.2.2=tr.take (i+1):=by
  have hno:atKey (tr.take i) t.1=none:=by
    refine atKey_none_of_get fun j p hj=>?_
    have hlt:i < tr.length:=by obtain ⟨h,_⟩:=Cl.mp e;exact h
    rw [List.getElem?_take] at hj
    split at hj
    · rename_i hji
      have hjl:j < tr.length:=Nat.lt_trans hji hlt
      have e1:(tr.map (·.1))[j]'(by simpa using hjl)=(tr.map (·.1))[i]'(by simpa using hlt):=by
        have h1:=Cl.mp hj
        have h2:=Cl.mp e
        simp only [List.getElem_map]
        rw [h1.2,h2.2]
      exact List.pairwise_iff_getElem.mp hn j i _ _ hji e1
    · cases hj
  rw [storedH_new hno,List.take_add_one,e]
  rfl
theorem uq (hh:A.in1.handled=none) (hu:knd.room A.in1) {z TI TO i1 i2 l1 l2 d:Addr} (D:ZipApart z TI TO i1 i2 l1 l2) (dz:d ≠ z) (dTI:d ≠ TI) (dTO:d ≠ TO) (d1:d ≠ i1) (d2:d ≠ i2) (dl1:d ≠ l1) (dl2:d ≠ l2)
    {tr:List (K × Addr × Value)} (hn:(tr.map (·.1)).Nodup) (hsz:tr.length<=sizeLine) {R:Result->Shared->Prop}
    (keep:∀ h h':Heap,(∀ t ∈ tr,knd.is h t.1 t.2.1)->(∀ c o,c ≠ z->c ≠ TO->c ≠ i1->c ≠ i2->h.get? c=some o->h'.get? c=some o)->∀ t ∈ tr,knd.is h' t.1 t.2.1) :
    ∀ (k i:Nat) (s:Shared) (f0 f1 a b:Value),tr.length - i=k->i<=tr.length->cU s.heap z TI TO f0 f1->gG s.heap z TO i1 i2 f0 f1->PySem.IsPair s.heap TI (.ref i1) (.ref i2)->PySem.IsPair s.heap TO a b ->
      s.heap.IsListIter i1 l1 i->s.heap.IsTupleIter i2 l2 i->s.heap.IsList l1 (tr.map fun t=>Value.ref t.2.1).toArray->s.heap.IsTuple l2 (tr.map fun t=>t.2.2).toArray ->
      (∀ t ∈ tr,knd.is s.heap t.1 t.2.1)->DictOfHE knd s.heap d (tr.take i) ->
      (∀ h' tk,DictOfHE knd h' d tr->(∀ c o,c ≠ z->c ≠ TO->c ≠ i1->c ≠ i2->c ≠ d->s.heap.get? c=some o->h'.get? c=some o)->R (.ok (.ret .none)) { s with heap:=h',toks:=tk }) ->
      codeAny (model prog w) A (.builtin "dict.update.loop" ⟨[.ref d,.ref z,rawInt i,.none],[]⟩) R s:=by
  have carry:∀ {h h':Heap} {ys:List (K × Addr × Value)},DictOfHE knd h d ys->(∀ t ∈ ys,knd.is h' t.1 t.2.1)->(∀ c o,c ≠ z->c ≠ TO->c ≠ i1->c ≠ i2->h.get? c=some o->h'.get? c=some o)->DictOfHE knd h' d ys:=fun ⟨o,es,ep,g1,g2,g3,g4,g5,g6,g7⟩ hi hk =>
    ⟨o,es,ep,hk d o dz dTO d1 d2 g1,g2,g3,g4,hi,g6,g7⟩
  intro k
  induction k with
  | zero =>
    intro i s f0 f1 a b hk hi hz hm hTI hTO h1 h2 hl1 hl2 his hd hR
    have hin:i=tr.length:=by omega
    subst hin
    refine codeAny_builtin Fz.entry_dict_update_loop ?_
    rw [Around.under_plainId Fz.plain_dict_update_loop _]
    show wpAny _ A.in1 (pyNext (.ref z) >>= _) _ _ s
    refine B5 (wd hh D hz hm hTI hTO h1 hl1 (by simp) fun h' hk'=>?_)
    show wpAny _ A.in1 (Builtin.Dict.addKeywords d [] >>= _) _ _ _
    refine B5 (B6 (B6 ?_))
    rw [List.take_length] at hd
    exact hR h' s.toks (carry hd (keep _ _ his hk') hk') fun c o c1 c2 c3 c4 _ e=>hk' c o c1 c2 c3 c4 e
  | succ k ih =>
    intro i s f0 f1 a b hk hi hz hm hTI hTO h1 h2 hl1 hl2 his hd hR
    have hlt:i < tr.length:=by omega
    have ht:tr[i]?=some tr[i]:=Cg hlt
    have hmem:tr[i] ∈ tr:=List.getElem_mem hlt
    refine codeAny_builtin Fz.entry_dict_update_loop ?_
    rw [Around.under_plainId Fz.plain_dict_update_loop _]
    show wpAny _ A.in1 (pyNext (.ref z) >>= _) _ _ s
    refine B5 (tO D hz hm hTI hTO h1 h2 hl1 hl2 (x:=.ref tr[i].2.1) (y:=tr[i].2.2) (by simp [ht]) (by simp [ht]) fun h' f0' f1' a1 a2 ⟨a',b',a3⟩ a4 a5 a6 a7 hk'=>?_)
    have his':=keep _ _ his hk'
    have hd':=carry hd (fun t q=>his' t (List.mem_of_mem_take q)) hk'
    refine B5 (B7 ?_)
    refine B5 (wpAny_tryCatch ?_)
    unfold Builtin.Dict.pairItems
    refine B5 (wpAny_typeOf (T:="tuple") ⟨_,a6,rfl⟩ ?_)
    rw [if_pos (by decide)]
    refine B5 (wpAny_seqItems a6 rfl (B6 ?_))
    show wpAny _ _ (holding [Value.ref tr[i].2.1,tr[i].2.2] (dictSet d (.ref tr[i].2.1) tr[i].2.2)) _ _ _
    refine B7 (iR hu (his' _ hmem) hd' (hsz:=by rw [CD];omega) fun h₂ hd₂ hs₂=>?_)
    rw [rj hn ht] at hd₂
    obtain ⟨o',es',ep',g1,g2,g3,g4,g5,g6,g7⟩:=hd'
    refine B6 ⟨plainId_quiet Fz.plain_dict_update_loop _,?_⟩
    have up:∀ c o,c ≠ d->h'.get? c=some o->h₂.get? c=some o:=fun c o c1 e=>hs₂.extBut _ _ c1 e
    refine ih (i+1) _ f0' f1' a' b' (by omega) hlt (up _ _ dz.symm a1) ?_ (up _ _ dTI.symm (hk' _ _ D.TIz D.TITO D.TIi1 D.TIi2 hTI)) (up _ _ dTO.symm a3) ?_ ?_ ?_ ?_ (fun t q=>knd.keeps (his' t q) g1 g3 hs₂) hd₂ fun h₃ tk hd₃ hk₃=>?_
    · rcases a2 with q | ⟨T,oT,e0,hT,b0,e1,t1⟩
      · exact .inl q
      · by_cases hTd:T=d
        · obtain ⟨o2,_,_,g,_⟩:=hd₂
          exact .inr ⟨T,o2,e0,hTd ▸ g,b0,e1,t1⟩
        · exact .inr ⟨T,oT,e0,up _ _ hTd hT,b0,e1,t1⟩
    · exact a4.at fun o e=>up _ o d1.symm e
    · obtain ⟨o,e,r⟩:=a5
      exact ⟨o,up _ o d2.symm e,r⟩
    · exact (hl1.at fun o e=>hk' _ o D.l1z D.l1TO D.l1i1 D.l1i2 e).at fun o e=>up _ o dl1.symm e
    · obtain ⟨o,e,r⟩:=hl2
      exact ⟨o,up _ o dl2.symm (hk' _ o D.l2z D.l2TO D.l2i1 D.l2i2 e),r⟩
    · exact hR h₃ tk hd₃ fun c o c1 c2 c3 c4 c5 e=>hk₃ c o c1 c2 c3 c4 c5 (up c o c5 (hk' c o c1 c2 c3 c4 e))
theorem wH:typeLookup (.type "zip") "keys"=pure none:=am_miss_of_fast (by kernel_rfl)
theorem og (hh:A.handled=none) (hu:knd.room A.in1.in1) {z TI TO i1 i2 l1 l2:Addr} {a b:Value} (D:ZipApart z TI TO i1 i2 l1 l2)
    {tr:List (K × Addr × Value)} (hn:(tr.map (·.1)).Nodup) (hsz:tr.length<=sizeLine) {Q:Value->Shared->Prop}
    (keep:∀ h h':Heap,(∀ t ∈ tr,knd.is h t.1 t.2.1)->(∀ c o,c ≠ z->c ≠ TO->c ≠ i1->c ≠ i2->h.get? c=some o->h'.get? c=some o)->∀ t ∈ tr,knd.is h' t.1 t.2.1)
    (hz:cU s.heap z TI TO .none (.bool false)) (hTI:PySem.IsPair s.heap TI (.ref i1) (.ref i2)) (hTO:PySem.IsPair s.heap TO a b)
    (h1:s.heap.IsListIter i1 l1 0) (h2:s.heap.IsTupleIter i2 l2 0) (hl1:s.heap.IsList l1 (tr.map fun t=>Value.ref t.2.1).toArray) (hl2:s.heap.IsTuple l2 (tr.map fun t=>t.2.2).toArray)
    (his:∀ t ∈ tr,knd.is s.heap t.1 t.2.1)
    (hQ:∀ h' tk,DictOfHE knd h' s.heap.objs.size tr->(∀ c o,c ≠ z->c ≠ TO->c ≠ i1->c ≠ i2->s.heap.get? c=some o->h'.get? c=some o)->Q (.ref s.heap.objs.size) { s with heap:=h',toks:=tk }) :
    wpAny (model prog w) A (call (.type "dict") [.ref z]) Q E s:=by
  have lz:z < s.heap.objs.size:=Ch hz
  have lTI:TI < s.heap.objs.size:=Ch hTI
  have lTO:TO < s.heap.objs.size:=Ch hTO
  have li1:i1 < s.heap.objs.size:=by obtain ⟨_,e,_⟩:=h1;exact Ch e
  have li2:i2 < s.heap.objs.size:=by obtain ⟨_,e,_⟩:=h2;exact Ch e
  have ll1:l1 < s.heap.objs.size:=by obtain ⟨_,e,_⟩:=hl1;exact Ch e
  have ll2:l2 < s.heap.objs.size:=by obtain ⟨_,e,_⟩:=hl2;exact Ch e
  refine callType_codes (Q₁:=fun obj s₁=>obj=.ref s.heap.objs.size/\s₁ = { s with heap:=s.heap.push { cls:=.type "dict",data:=.dict #[] } }) PySem.F.kt_called_dict (PySem.F.kt_typeCall_dict_1 _) PySem.F.entry_dict_init (kt_code_dict_new _ ⟨rfl,rfl⟩) ?_
  rintro obj s₁ ⟨rfl,rfl⟩
  have hg:(s.heap.push { cls:=.type "dict",data:=.dict #[] }).get? s.heap.objs.size=some _:=Cj _ rfl
  have hT:Shared.TypeIs { s with heap:=s.heap.push { cls:=.type "dict",data:=.dict #[] } } (.ref s.heap.objs.size) "dict":=⟨_,hg,rfl⟩
  have pz:=Ca { cls:=.type "dict",data:=.dict #[] } hz
  refine ⟨hT,PySem.F.args_dict_init_2 _ _,?_⟩
  unfold Builtin.«dict.__init__»
  refine B5 ?_
  unfold Builtin.Dict.selfAndRest
  refine B5 (wpAny_notOrdered_dict hT ?_)
  show wpAny _ _ (pure (s.heap.objs.size,[Value.ref z])) _ _ _
  refine B6 ?_
  show wpAny _ _ (Builtin.Dict.updateFrom "dict.__init__" s.heap.objs.size (.ref z) [] .none) _ _ _
  unfold Builtin.Dict.updateFrom
  refine B5 (wpAny_typeOf (T:="zip") ⟨_,pz,rfl⟩ ?_)
  rw [if_pos (by decide)]
  refine B5 (getAttr?_miss_zip pz rfl rfl rfl wH (by decide) ?_ fun h₁ tk₁ e₁ hx₁=>?_)
  · simpa using hh
  · have old:∀ c o,s.heap.get? c=some o->h₁.get? c=some o:=fun c o e=>hx₁.keeps c o (Ca _ e)
    have hg₁:=hx₁.keeps _ _ hg
    simp only [Option.isNone_none,if_true]
    refine B5 (wpAny_rule (B5 (wpAny_pyIter_zip (f0:=.none) (old _ _ hz) (B6 ⟨plainId_quiet Fz.plain_dict_update_loop _,?_⟩))))
    have ne:∀ {c:Addr},c < s.heap.objs.size->s.heap.objs.size ≠ c:=fun h=>Nat.ne_of_gt h
    have his₁:∀ t ∈ tr,knd.is h₁ t.1 t.2.1:=keep _ _ his fun c o _ _ _ _ e=>old c o e
    refine uq (A:=A.in1) (by simpa using hh) hu D (ne lz) (ne lTI) (ne lTO) (ne li1) (ne li2) (ne ll1) (ne ll2) hn hsz keep (tr.length - 0) 0 _ .none (.bool false) a b rfl (Nat.zero_le _) (old _ _ hz) (.inl ⟨rfl,rfl⟩) (old _ _ hTI) (old _ _ hTO)
      (h1.at fun o e=>old _ o e) ((fun ⟨o,e,r⟩=>⟨o,old _ o e,r⟩:s.heap.IsTupleIter i2 l2 0->_) h2) (hl1.at fun o e=>old _ o e) ((fun ⟨o,e,r⟩=>⟨o,old _ o e,r⟩:s.heap.IsTuple l2 _->_) hl2) his₁ ⟨_,#[],0,hg₁,⟨rfl,rfl,rfl⟩,rfl,rfl,(fun x hx=>by cases hx),List.nodup_nil,rfl⟩ fun h' tk hd' hk'=>?_
    refine ⟨rfl,hQ h' tk hd' fun c o c1 c2 c3 c4 e=>hk' c o c1 c2 c3 c4 (Cs (Ch e)) (old c o e)⟩
end
end L2
end
section
namespace L2
open PySem PySem.Spec PyProof.Rows
section
variable {X:Cx}
noncomputable def z4 (K:FG) (ta:TA):TE:=fun σ H Q=>ta σ H fun vs H1=>∃ (l t:Addr) (bs:List (Addr × List Key)) (ws:List V),vs=[.ref l,.ref t]/\SqL K H1 l (bs.map fun b=>V.ref b.1)/\SqT K H1 t ws/\(∀ b ∈ bs,H1 b.1=some (.tup (b.2.map kV)))/\bs.length=ws.length/\(bs.map (·.2)).Nodup /\
  ∀ p,H1 p=none->Q (.ref p) (upd H1 p (.dT ((bs.map (·.2)).zip ws)))
noncomputable def gL:List (Addr × List Key)->List Value->List (List Key × Addr × Value)
  | b :: bs,v :: vs=>(b.2,b.1,v) :: gL bs vs
  | _,_=>[]
theorem mF:∀ {bs:List (Addr × List Key)} {vs:List Value},bs.length=vs.length->(gL bs vs).map (·.1)=bs.map (·.2)
  | [],[],_=>rfl
  | b :: bs,v :: vs,e=>by simp [gL,mF (bs:=bs) (vs:=vs) (by simpa using e)]
theorem mE:∀ {bs:List (Addr × List Key)} {vs:List Value},bs.length=vs.length->(gL bs vs).map (fun t=>Value.ref t.2.1)=bs.map fun b=>Value.ref b.1
  | [],[],_=>rfl
  | b :: bs,v :: vs,e=>by simp [gL,mE (bs:=bs) (vs:=vs) (by simpa using e)]
theorem mD:∀ {bs:List (Addr × List Key)} {vs:List Value},bs.length=vs.length->(gL bs vs).map (fun t=>t.2.2)=vs
  | [],[],_=>rfl
  | b :: bs,v :: vs,e=>by simp [gL,mD (bs:=bs) (vs:=vs) (by simpa using e)]
theorem oG:∀ {bs:List (Addr × List Key)} {vs:List Value},bs.length=vs.length->(gL bs vs).length=bs.length
  | [],[],_=>rfl
  | b :: bs,v :: vs,e=>by simp [gL,oG (bs:=bs) (vs:=vs) (by simpa using e)]
theorem oF:∀ {bs:List (Addr × List Key)} {vs:List Value} {t:List Key × Addr × Value},t ∈ gL bs vs->(t.2.1,t.1) ∈ bs
  | [],vs,t,h=>by cases vs <;> cases h
  | b :: bs,[],t,h=>by cases h
  | b :: bs,v :: vs,t,h=>by
    rcases Cf.mp h with rfl | h
    · exact B8
    · exact B9 _ (oF h)
theorem rA {H:Hp}:∀ {bs:List (Addr × List Key)} {ws:List V} {vs:List Value},Vals ws vs->bs.length=ws.length->(∀ b ∈ bs,H b.1=some (.tup (b.2.map kV)))->KT H ((bs.map (·.2)).zip ws) (gL bs vs)
  | [],_,_,.nil,_,_=>.nil
  | [],_,_,.cons _ _,e,_=>by cases e
  | b :: bs,_,_,.nil,e,_=>by cases e
  | b :: bs,_,_,.cons r rs,e,hb=>.cons ⟨rfl,hb b B8,r⟩ (rA rs (by simpa using e) fun c hc=>hb c (B9 _ hc))
theorem xv (n l t:Nat) (hl:l < n) (ht:t < n):ZipApart (n+4) (n+2) (n+3) n (n+1) l t:=by
  constructor <;> intro e <;> (have e:(_:Nat)=_:=e;omega)
theorem mO:∀ {bs:List Addr} {its:List Value},Vals (bs.map V.ref) its->its=bs.map Value.ref
  | [],_,.nil=>rfl
  | _ :: bs,_,.cons r rs=>by cases r;rw [mO rs];rfl
theorem yP {a b:Expr} {ta:TA} {p1 p2 pos1 pos2:Pos} (hc:X.calm=true) (hu:X.A.units+64 < cLine) (hgl:Gl X "dict") (hml:X.mg "dict"=none) (hg:Gl X "zip") (hm:X.mg "zip"=none) (hbd:bootBuiltins "dict"=some (.type "dict")) (hbz:bootBuiltins "zip"=some (.type "zip")) (ha:PA X [a,b] ta)
    (hs:starEach [.Call (.Name "zip" p2) [a,b] [] pos2] X.env=[(false,eval (.Call (.Name "zip" p2) [a,b] [] pos2) X.env)]) (hs2:starEach [a,b] X.env=(false,eval a X.env) :: starEach [b] X.env) (hpl:(backTo pos2 (starEach [b] X.env)).any (·.1)=false) :
    PE X (.Call (.Name "dict" p1) [.Call (.Name "zip" p2) [a,b] [] pos2] [] pos1) (z4 X.K ta):=by
  intro pins s σ H Q I h
  refine Call_ (gx I hgl hml hbd (PyProof.Rows.callWith_type1 ?_ hs rfl))
  rw [hs]
  show wpAny _ _ (spliced ((false,eval (.Call (.Name "zip" p2) [a,b] [] pos2) X.env) :: [])) _ _ s
  refine Calls.spliced_cons (Call_ (gx I hg hm hbz (PyProof.Rows.callWith_type1 (thn (ha pos2 pins s σ H _ I h) fun us s1 ⟨vs,H1,I1,r1,q1⟩=>?_) hs2 hpl)))
  obtain ⟨l,t,bs,ws,rfl,hl,ht,hb,hlen,hnd,q⟩:=q1
  cases r1 with
  | cons r rr =>
    cases rr with
    | cons r' rr =>
      cases rr
      cases r
      cases r'
      obtain ⟨its,rl,pl,zl⟩:=I1.list hl
      obtain ⟨vs,rt,pt,zt⟩:=I1.tuple ht
      have e1:its=(bs.map (·.1)).map Value.ref:=mO (by rw [CT];exact rl)
      have e2:bs.length=vs.length:=by rw [hlen];exact rt.length
      have pl':s1.heap.IsList l ((gL bs vs).map fun t=>Value.ref t.2.1).toArray:=by rw [mE e2];have:=pl.isList;rw [e1,CT] at this;exact this
      have pt':s1.heap.IsTuple t ((gL bs vs).map fun t=>t.2.2).toArray:=by rw [mD e2];exact pt
      have lt:∀ {c:Addr} {o:Obj},s1.heap.get? c=some o->c < s1.heap.objs.size:=fun e=>Ch e
      have ll:l < s1.heap.objs.size:=by obtain ⟨_,e,_⟩:=pl';exact lt e
      have lt':t < s1.heap.objs.size:=by obtain ⟨_,e,_⟩:=pt';exact lt e
      refine uA pl' pt' fun h2 hz hTI hTO hi1 hi2 hsz hk=>Calls.spliced_nil ?_
      have D:=xv s1.heap.objs.size l t ll lt'
      have key:∀ x ∈ gL bs vs,(tupleKind (bm X.prog X.w)).is s1.heap x.1 x.2.1:=fun x hx=>nU I1.hok (hb _ (oF hx))
      have keep:∀ h h':Heap,(∀ x ∈ gL bs vs,(tupleKind (bm X.prog X.w)).is h x.1 x.2.1)->(∀ c o,c ≠ s1.heap.objs.size+4->c ≠ s1.heap.objs.size+3->c ≠ s1.heap.objs.size->c ≠ s1.heap.objs.size+1->h.get? c=some o->h'.get? c=some o)->∀ x ∈ gL bs vs,(tupleKind (bm X.prog X.w)).is h' x.1 x.2.1:=fun h h' hi hk x hx=>by
        obtain ⟨o,its,n,g1,g2,g3,g4⟩:=hi x hx
        obtain ⟨o0,its0,n0,k1,_⟩:=key x hx
        have:=lt k1
        exact ⟨o,its,n,hk _ _ (Cs (Nat.lt_add_right 4 this)) (Cs (Nat.lt_add_right 3 this)) (Cs this) (Cs (Nat.lt_add_right 1 this)) g1,g2,g3,g4⟩
      refine og (knd:=tupleKind (bm X.prog X.w)) (I.ok.hd hc) (show X.A.units+1+1 < cLine by omega) D (by rw [mF e2];exact hnd) (by rw [oG e2,e2];have:=zt;have:=rt.length;omega) keep hz hTI hTO hi1 hi2 (pl'.at fun o e=>hk _ o e) ((fun ⟨o,e,r⟩=>⟨o,hk _ o e,r⟩:s1.heap.IsTuple t _->_) pt') (fun x hx=>?_) fun h' tk hd hk'=>?_
      · obtain ⟨o,its,n,g1,g2,g3,g4⟩:=key x hx
        exact ⟨o,its,n,hk _ _ g1,g2,g3,g4⟩
      · rw [hsz] at hd ⊢
        have old:∀ c o,s1.heap.get? c=some o->h'.get? c=some o:=fun c o e=>hk' c o (Cs (Nat.lt_add_right 4 (lt e))) (Cs (Nat.lt_add_right 3 (lt e))) (Cs (lt e)) (Cs (Nat.lt_add_right 1 (lt e))) (hk c o e)
        have fr:s1.heap.objs.size<=s1.heap.objs.size+5:=by omega
        have hp:=I1.hok.fresh fr
        refine ⟨.ref (s1.heap.objs.size+5),_,I1.laid (a:=s1.heap.objs.size+5) (o:=.dT ((bs.map (·.2)).zip ws)) (t':=tk) old fr ⟨?_,?_,gL bs vs,(rA rt hlen hb).keeps fun b ys e=>?_,?_⟩,rfl,q _ hp⟩
        · rw [List.length_zip];simp only [Ck];have:=zt;have:=rt.length;omega
        · exact beq_eq_false_iff_ne.mpr (Nat.ne_of_gt (Nat.lt_add_right 5 I1.big))
        · rw [aL]
          · exact e
          · intro x;rw [x] at e;rw [hp] at e;cases e
        · obtain ⟨o,es,ep,g1,g2,g3,g4,g5,g6,g7⟩:=hd
          exact ⟨o,es,ep,g1,g2,g3,g4,g6,g7⟩
end
end L2
end
section
namespace L2
open PySem PySem.Spec PyProof.Rows
noncomputable def xB (h:Heap) (b:Addr) (n:List Int):Prop:=∃ it:Array Value,IsTup h b it/\IntsAre it.toList n
theorem fX:∀ x:List Int,HT.lexLt x x=false
  | []=>rfl
  | a :: x=>by rw [HT.lexLt_cons,if_pos rfl];exact fX x
theorem iA:∀ {x y z:List Int},HT.lexLt x y=true->HT.lexLt y z=true->HT.lexLt x z=true
  | [],[],_,h1,_=>by cases h1
  | [],_ :: _,[],_,h2=>by cases h2
  | [],_ :: _,_ :: _,_,_=>rfl
  | _ :: _,[],_,h1,_=>by cases h1
  | _ :: _,_ :: _,[],_,h2=>by cases h2
  | a :: x,b :: y,c :: z,h1,h2=>by
    rw [HT.lexLt_cons] at *
    by_cases e1:a=b
    · rw [if_pos e1] at h1
      by_cases e2:b=c
      · rw [if_pos e2] at h2
        rw [if_pos (e1.trans e2)];exact iA h1 h2
      · rw [if_neg e2] at h2
        rw [if_neg (fun q=>e2 (e1.symm.trans q)),e1];exact h2
    · rw [if_neg e1] at h1
      have h1':=of_decide_eq_true h1
      by_cases e2:b=c
      · rw [if_neg (fun q=>e1 (q.trans e2.symm)),<- e2];exact h1
      · rw [if_neg e2] at h2
        have h2':=of_decide_eq_true h2
        rw [if_neg (by omega)];exact Cv (by omega)
theorem kS:∀ {x y:List Int},HT.lexLt x y=false->HT.lexLt y x=false->x=y
  | [],[],_,_=>rfl
  | [],_ :: _,h,_=>by cases h
  | _ :: _,[],_,h=>by cases h
  | a :: x,b :: y,h1,h2=>by
    rw [HT.lexLt_cons] at *
    by_cases e:a=b
    · rw [if_pos e] at h1
      rw [if_pos e.symm] at h2
      rw [e,kS h1 h2]
    · rw [if_neg e] at h1
      rw [if_neg (Ne.symm e)] at h2
      have:=of_decide_eq_false h1
      have:=of_decide_eq_false h2
      omega
theorem qM {x y z:List Int} (h1:HT.lexLt x y=true) (h2:HT.lexLt z y=false):HT.lexLt z x=false:=by
  cases h:HT.lexLt z x with
  | false=>rfl
  | true=>rw [iA h h1] at h2;cases h2
section
variable {prog:Program} {w:World} {A:Around} {E:Value->Shared->Prop} {s:Shared}
theorem Bx {x y:List Int} {a b:Addr} {Q:Value->Shared->Prop} (hu:A.units < cLine) (hx:xB s.heap a x) (hy:xB s.heap b y) (h:Q (.bool (HT.lexLt x y)) s) :
    wpAny (model prog w) A (richCompare .Lt (.ref a) (.ref b)) Q E s:=by
  obtain ⟨i1,h1,j1⟩:=hx
  obtain ⟨i2,h2,j2⟩:=hy
  exact (HT.lt_tupInts h1 h2 j1 j2 hu h:wpAny (model prog w) A (compareOp .Lt (.ref a) (.ref b)) Q E s)
end
noncomputable def mh (ns:List (List Int)) (j:Nat) (k:Nat):Prop:=k < j/\∀ i,i < j->∀ x y,ns[i]?=some x->ns[k]?=some y->HT.lexLt x y=false
noncomputable def xA (h:Heap) (bs:List Addr) (ns:List (List Int)):Prop:=∀ (i:Nat) (b:Addr),bs[i]?=some b->∃ n,ns[i]?=some n/\xB h b n
section
variable {prog:Program} {w:World} {A:Around} {R:Result->Shared->Prop}
theorem tQ (hh:A.handled=none) (hu:A.units+1 < cLine) {I l S:Addr} (hIl:l ≠ I) (hSI:S ≠ I) (hSl:S ≠ l) (bs:List Addr) (ns:List (List Int)) (hbI:∀ b ∈ bs,b ≠ I) (hbS:∀ b ∈ bs,b ≠ S) :
    ∀ (k j:Nat) (s:Shared) (m:Option Nat) (c:Nat),bs.length - j=k->j<=bs.length->s.heap.IsListIter I l j->s.heap.IsList l (bs.map Value.ref).toArray->xA s.heap bs ns ->
    s.heap.get? S=some { cls:=.type "list",dict:=none,data:=.seq (sH (m.bind (bs[·]?))) c,slots:=#[] }->(match m with | none=>j=0 | some m=>mh ns j m)->0 < bs.length ->
    (∀ m b h' tk,bs[m]?=some b->mh ns bs.length m->(∀ a o,a ≠ I->a ≠ S->s.heap.get? a=some o->h'.get? a=some o)->R (.ok (.ret (.ref b))) { s with heap:=h',toks:=tk }) ->
    codeAny (model prog w) A (.builtin "min.loop" ⟨[.ref I,.none,.ref S],[]⟩) R s:=by
  have nm:(toString "min" ++ toString ".loop":String) = "min.loop":=by decide
  intro k
  induction k with
  | zero =>
    intro j s m c hk hj hit hl hp hS hb hpos fin
    obtain rfl:j=bs.length:=by omega
    refine codeAny_builtin F.entry_min_loop ?_
    rw [Around.under_plainId F.plain_min_loop _]
    show wpAny _ A.in1 (seqItems? (.ref S) >>= _) _ _ s
    refine B5 (wpAny_seqItems hS rfl ?_)
    show wpAny _ A.in1 (tryCatch (pyNext (.ref I)) _ >>= _) _ _ s
    refine B5 (wpAny_tryCatch (wpAny_pyNext_list_end (show A.in1.handled=none from hh) hit hl (by simp) fun h' eb=>?_))
    cases m with
    | none=>have:bs.length=0:=hb;omega
    | some m =>
      have hm:m < bs.length:=hb.1
      have eb':bs[m]?=some bs[m]:=Cg hm
      have hS':=eb S _ hSI hS
      simp only [Option.bind_some,eb'] at hS' ⊢
      show wpAny _ A.in1 (updateSeq S (fun _=>#[]) >>= _) _ _ _
      refine B5 (wpAny_updateSeq hS' rfl (B5 (wpAny_letGo (B6 ?_))) (hz:=by show 2<=sizeLine;decide))
      exact fin m _ _ s.toks eb' hb fun a o ha hs e=>(CL _ _ (Ne.symm hs)).trans (eb a o ha e)
  | succ k ih =>
    intro j s m c hk hj hit hl hp hS hb hpos fin
    have hlt:j < bs.length:=by omega
    have hx:bs[j]?=some bs[j]:=Cg hlt
    have hv:(bs.map Value.ref).toArray[j]?=some (.ref bs[j]):=by simp [hx]
    refine codeAny_builtin F.entry_min_loop ?_
    rw [Around.under_plainId F.plain_min_loop _]
    show wpAny _ A.in1 (seqItems? (.ref S) >>= _) _ _ s
    refine B5 (wpAny_seqItems hS rfl ?_)
    show wpAny _ A.in1 (tryCatch (pyNext (.ref I)) _ >>= _) _ _ s
    refine B5 (wpAny_tryCatch (wpAny_pyNext_list_item hit hl hv fun h' hit' sb=>?_))
    have hS':h'.get? S=_:=(sb.2 S hSI).trans hS
    have hl':h'.IsList l (bs.map Value.ref).toArray:=hl.at fun o e=>(sb.2 l hIl).trans e
    have pk:∀ {h1 h2:Heap},(∀ b ∈ bs,∀ o,h1.get? b=some o->h2.get? b=some o)->xA h1 bs ns->xA h2 bs ns:=fun {h1 h2} k q i b e=>by
      obtain ⟨n,e1,t,⟨o,e2,e3⟩,e4⟩:=q i b e
      exact ⟨n,e1,t,⟨o,k b (Cm e) o e2,e3⟩,e4⟩
    have hp':xA h' bs ns:=pk (fun b hb o e=>(sb.2 b (hbI b hb)).trans e) hp
    have on:∀ (h2:Heap) (tk:Nat) (m':Option Nat) (c':Nat),(∀ a o,a ≠ S->h'.get? a=some o->h2.get? a=some o)->h2.get? S=some { cls:=.type "list",dict:=none,data:=.seq (sH (m'.bind (bs[·]?))) c',slots:=#[] }->(match m' with | none=>j+1=0 | some m=>mh ns (j+1) m) ->
        codeAny (model prog w) A (.builtin "min.loop" ⟨[.ref I,.none,.ref S],[]⟩) R { s with heap:=h2,toks:=tk }:=fun h2 tk m' c' k2 hS2 hb' =>
      ih (j+1) _ m' c' (by omega) hlt (hit'.at fun o e=>k2 I o (Ne.symm hSI) e) (hl'.at fun o e=>k2 l o (Ne.symm hSl) e) (pk (fun b hb o e=>k2 b o (hbS b hb) e) hp') hS2 hb' hpos fun v b h3 tk' hv' hw' k3=>fin v b h3 tk' hv' hw' fun a o ha hs e=>k3 a o ha hs (k2 a o hs ((sb.2 a ha).trans e))
    obtain ⟨nj,hnj,hpj⟩:=hp' j _ hx
    cases m with
    | none =>
      have h0:j=0:=hb
      show wpAny _ A.in1 (updateSeq S (fun _=>#[.ref bs[j],.ref bs[j]]) >>= _) _ _ _
      refine B5 (wpAny_updateSeq hS' rfl ?_ (hz:=by show 0<=sizeLine;exact Nat.zero_le _))
      rw [nm]
      refine B6 ⟨plainId_quiet F.plain_min_loop _,on _ s.toks (some j) (c+1) (fun a o ha e=>(CL _ _ (Ne.symm ha)).trans e) ?_ ⟨by omega,fun i hi x y h1 h2=>?_⟩⟩
      · simp only [Option.bind_some,hx]
        exact CA _ hS' rfl
      · obtain rfl:i=j:=by omega
        rw [h1] at h2;cases h2
        exact fX _
    | some m =>
      obtain ⟨hm,hle⟩:=hb
      have hmb:bs[m]?=some bs[m]:=Cg (by omega)
      obtain ⟨nm',hnm,hpm⟩:=hp' m _ hmb
      simp only [Option.bind_some,hmb] at hS' ⊢
      show wpAny _ A.in1 (tryCatch (holding [.ref bs[j],.ref bs[j]] (richCompare .Lt (.ref bs[j]) (.ref bs[m]) >>= _)) _ >>= _) _ _ _
      refine B5 (wpAny_tryCatch (B7 (B5 ?_)))
      refine Bx (A:=A.in1) (show A.units+1 < cLine from hu) hpj hpm ?_
      refine B5 (B7 (CN (B5 (wpAny_letGo (B6 ?_)))))
      by_cases hgt:HT.lexLt nj nm'=true
      · rw [hgt,if_pos rfl]
        refine B5 (wpAny_updateSeq hS' rfl (B5 (wpAny_letGo ?_)) (hz:=by show 2<=sizeLine;decide))
        rw [nm]
        refine B6 ⟨plainId_quiet F.plain_min_loop _,on _ s.toks (some j) c (fun a o ha e=>(CL _ _ (Ne.symm ha)).trans e) ?_ ⟨by omega,fun i hi x y h1 h2=>?_⟩⟩
        · simp only [Option.bind_some,hx]
          exact CA _ hS' rfl
        · rw [hnj] at h2;cases h2
          by_cases hij:i=j
          · subst hij
            rw [hnj] at h1;cases h1
            exact fX _
          · exact qM hgt (hle i (by omega) x nm' h1 hnm)
      · have hgt':HT.lexLt nj nm'=false:=by simpa using hgt
        rw [hgt',if_neg Cr]
        refine B5 (wpAny_letGo ?_)
        rw [nm]
        refine B6 ⟨plainId_quiet F.plain_min_loop _,on h' s.toks (some m) c (fun a o _ e=>e) (by simp only [Option.bind_some,hmb];exact hS') ⟨by omega,fun i hi x y h1 h2=>?_⟩⟩
        by_cases hij:i=j
        · subst hij
          rw [hnj] at h1;cases h1
          rw [hnm] at h2;cases h2
          exact hgt'
        · exact hle i (by omega) x y h1 h2
end
section
variable {prog:Program} {w:World} {A:Around} {E:Value->Shared->Prop} {s:Shared}
theorem uB {l:Addr} {bs:List Addr} {ns:List (List Int)} {Q:Value->Shared->Prop} (hh:A.handled=none) (hu:A.units+1 < cLine) (hl:s.heap.IsList l (bs.map Value.ref).toArray) (hp:xA s.heap bs ns) (hpos:0 < bs.length)
    (h:∀ m b h' tk,bs[m]?=some b->mh ns bs.length m->(∀ b o,s.heap.get? b=some o->h'.get? b=some o)->Q (.ref b) { s with heap:=h',toks:=tk }) :
    wpAny (model prog w) A (call (.builtin "min") [.ref l]) Q E s:=by
  have hname:(toString "min" ++ toString ".loop":String) = "min.loop":=by decide
  refine call_function_tree F.kind_min F.plain_min F.entry_min (F.args_min1 _) ?_
  show wpAny _ A.in1 (Builtin.Builtins.bindParams "min" ["key","default"] 0 ⟨[],[]⟩ >>= _) _ _ s
  refine B5 (wpAny_of_eq (show Builtin.Builtins.bindParams "min" ["key","default"] 0 ⟨[],[]⟩=pure [none,none] from rfl) ?_)
  refine B5 (B6 ?_)
  refine B5 (wpAny_pyIter_list hl ?_)
  refine B5 (wpAny_newObj_type ?_)
  rw [hname]
  have hlt:l < s.heap.objs.size:=by obtain ⟨_,e,_⟩:=hl;exact Ch e
  have hsz:(s.heap.push { cls:=.type "list_iterator",data:=.fields #[.ref l,.int 0 0] }).objs.size=s.heap.objs.size+1:=CM _ _
  have a1:(s.heap.push { cls:=.type "list_iterator",data:=.fields #[.ref l,.int 0 0] }).objs.size ≠ s.heap.objs.size:=by rw [hsz];exact Nat.succ_ne_self _
  have a2:(s.heap.push { cls:=.type "list_iterator",data:=.fields #[.ref l,.int 0 0] }).objs.size ≠ l:=by rw [hsz];exact Nat.ne_of_gt (Nat.lt_succ_of_lt hlt)
  have ltb:∀ b ∈ bs,b < s.heap.objs.size:=fun b hb=>by
    obtain ⟨i,hi,e⟩:=List.getElem_of_mem hb
    obtain ⟨_,_,_,⟨o,e2,_⟩,_⟩:=hp i b (by rw [Cg hi,e])
    exact Ch e2
  refine B6 ⟨plainId_quiet F.plain_min_loop _,tQ (A:=A) hh hu (I:=s.heap.objs.size) (l:=l) (Cs hlt) a1 a2 bs ns (fun b hb=>Cs (ltb b hb)) (fun b hb=>by rw [hsz];exact Cs (Nat.lt_succ_of_lt (ltb b hb))) bs.length 0 _ none 0 (by omega) (by omega)
    ⟨_,Ca _ (Cj _ rfl),rfl,rfl⟩ (hl.at fun o e=>Ca _ (Ca _ e)) (fun i b e=>?_) (Cj _ rfl) rfl hpos fun m b h' tk hm hL hk=>?_⟩
  · obtain ⟨n,e1,t,⟨o,e2,e3⟩,e4⟩:=hp i b e
    exact ⟨n,e1,t,⟨o,Ca _ (Ca _ e2),e3⟩,e4⟩
  · refine h m b h' tk hm hL fun c o e=>hk c o (fun q=>?_) (fun q=>?_) (Ca _ (Ca _ e))
    · exact absurd q (Cs (Ch e))
    · exact absurd (q.trans hsz) (Cs (Nat.lt_succ_of_lt (Ch e)))
end
section
variable {X:Cx}
noncomputable def vI (K:FG):List V->Hp->VK->Prop:=fun xs H Q=>∃ (l:Addr) (bs:List Addr) (ns:List (List Int)),xs=[.ref l]/\SqL K H l (bs.map V.ref)/\(∀ (i:Nat) (b:Addr),bs[i]?=some b->∃ n,ns[i]?=some n/\SqT K H b (n.map V.int))/\bs ≠ [] /\
  ∀ m b,bs[m]?=some b->mh ns bs.length m->Q (.ref b) H
theorem qY (hc:X.calm=true) (hu:X.A.units+1 < cLine):CallR X (.builtin "min") (vI X.K):=by
  intro pins s σ H xs us Q I rx h
  obtain ⟨l,bs,ns,rfl,hl,hp,hne,q⟩:=h
  obtain ⟨u,rfl,ru⟩:=iK rx
  cases (show u=Value.ref l from ru)
  obtain ⟨its,rv,p,hz⟩:=I.list hl
  have pl:=p.isList
  rw [jJ rv] at pl
  refine uB (I.ok.hd hc) hu pl (ns:=ns) (fun i b e=>?_) (List.length_pos_iff.mpr hne) fun m b h' tk hm hL hk=>⟨.ref b,H,I.kept hk,rfl,q m b hm hL⟩
  obtain ⟨n,e1,e2⟩:=hp i b e
  obtain ⟨its,r,p,_⟩:=I.tuple e2
  exact ⟨n,e1,_,p,qR r⟩
end
end L2
end
section
namespace L2
open PySem PySem.W PySem.Spec PyProof.Rows
noncomputable abbrev excO (a:Addr) (cls:Value):HO:=.ext fun h=>∃ o,h.get? a=some o/\o.cls=cls
noncomputable abbrev excF (ob:Obj) (a:Addr) (cls:Value):HO:=.frz ob (excO a cls)
structure ExcK (K:FG) (D:Addr):Prop where
  ga:findIn K (.ref D) "__getattribute__"=some (some (.builtin "BaseException.__getattribute__"))
  gt:findIn K (.ref D) "__getattr__"=some none
  cl:(clsIn K D).isSome=true
  ca:findIn K (.ref D) "__class__"=some (some (.builtin "object.__class__"))
  sp:specialIn K (.builtin "object.__class__") "__get__"=some (some (.builtin "getset_descriptor.__get__"))
  tk:takesIn K (.builtin "object.__class__")=some true
  ob:mroIn K D (.type "object")=some true
  be:mroIn K D (.type "BaseException")=some true
structure XName (K:FG) (c:String) (D:Addr):Prop where
  ns:nsIn K mainGlobals (Str.ofString c)=some (some (.ref D))
  ex:ExcK K D
theorem XName.inj {K:FG} {c:String} {D D':Addr} (a:XName K c D) (b:XName K c D'):D=D':=by
  have:=a.ns.symm.trans b.ns
  cases this
  rfl
end L2
end
section
namespace L2
open PySem
section
variable {K:FG} {h:Heap} {mg:Str->Option Value}
theorem jT {h:Heap}:∀ {l:List Nat} {a:Nat} {o:Obj},(l.filterMap fun a=>(h.get? a).map fun o=>(a,o)).lookup a=some o->h.get? a=some o
  | [],_,_,e=>by cases e
  | b :: l,a,o,e=>by
    rw [List.filterMap_cons] at e
    cases hb:h.get? b with
    | none=>rw [hb] at e;exact jT e
    | some p =>
      rw [hb] at e
      replace e:List.lookup a ((b,p) :: l.filterMap fun a=>(h.get? a).map fun o=>(a,o))=some o:=e
      rw [List.lookup_cons] at e
      cases hab:a == b with
      | true=>rw [hab] at e;cases eq_of_beq hab;cases e;exact hb
      | false=>rw [hab] at e;exact jT e
theorem fragAt_in (h:Heap):(wQ h).In h:=fun _ _ e=>jT e
noncomputable def stPos (s:Stmt):Pos:=match s with
  | .FunctionDef _ _ _ _ _ _ _ _ _ p=>p
  | _=>⟨0,0,0,0⟩
set_option tactic.hygienic true in
theorem BV {n:Str} {st:Stmt} (X:K.In h) (G:h.Ns mainGlobals mg) (e:pG K n=lZ n st):Def K mg n st:=by
  unfold pG at e
  split at e
  · rename_i f hf
    split at e
    · rename_i oc od fd sl hl
      unfold lZ at e
      obtain ⟨name,qual,params,body,scope,globals,closure,defaults,kw,doc,pm,an,cd,ct,bi⟩:=fd
      simp only [Option.some.injEq,Prod.mk.injEq] at e
      obtain ⟨rfl,rfl,rfl,rfl,rfl,rfl,rfl,rfl,rfl,hc⟩:=e
      exact ⟨f,_,BN (st:=st) hl hc (by unfold PySem.W.keepIn;simp only [hl]),PySem.W.mg_of X G hf⟩
    · cases e
  · cases e
theorem qE {α β:Type} {f g:α->β} {l:List α} (e:l.map f=l.map g) (i:Nat) {a:α} (h:l[i]?=some a):f a=g a:=List.map_inj_left.mp e a (Cm h)
theorem bb {ds:List (Str × Stmt)} {n:Str} {st:Stmt} (X:K.In h) (G:h.Ns mainGlobals mg) (e:ds.map (fun p=>pG K p.1)=ds.map (fun p=>lZ p.1 p.2)) (i:Nat) (hi:ds[i]?=some (n,st)):Def K mg n st:=BV X G (qE e i hi)
theorem cR {l:List Str} {n:Str} (X:K.In h) (G:h.Ns mainGlobals mg) (e:l.map (PySem.W.nsIn K mainGlobals)=l.map (fun _=>some none)) (i:Nat) (hi:l[i]?=some n):mg n=none:=PySem.W.mg_none_of X G (qE e i hi)
set_option tactic.hygienic true in
theorem qS {l:List (Str × Int)} {n:Str} {v:Int} (X:K.In h) (G:h.Ns mainGlobals mg) (e:l.map (fun p=>nW K p.1)=l.map (fun p=>some p.2)) (i:Nat) (hi:l[i]?=some (n,v)):∃ t,mg n=some (.int v t):=by
  have e:=qE e i hi
  unfold nW at e
  dsimp only at e
  split at e
  · rename_i v' t hs;cases e;exact ⟨t,PySem.W.mg_of X G hs⟩
  · cases e
theorem walk_ofS {l:PySem.W.OpenLaw} {n k:Nat} {q:Program} {loose:List Str} {XP:(Str->Option Value)->Heap->Prop} {YP:World->Heap->Prop} {d:DefRec} {S:FG->Prop} {CX:CXT} {sp:FG->Sp} {x:Str}
    (hn:l.most=some n) (hn2:n<=sizeLine) (hdf:d.params.defaults=[]) (hr:Room k callerA)
    (hY:∀ (w:World) (h:Heap),YP w h->∃ K:FG,K.In h/\S K)
    (F:∀ (w:World) (mg:Str->Option Value) (fa:Addr) (h:Heap) (K:FG),S K->K.In h->h.Ns mainGlobals mg->mg d.name=some (.ref fa) ->
      ∃ fd:FuncData,(∀ (s:Shared) (u:Value),BindsTo s fd ⟨[u],[]⟩ [(x,u)]) /\
        ∀ base:Heap,K.In base->base.Ns mainGlobals mg->FnOk l.prog w K mg base CX k fa fd [x] (sp K))
    (hsp:∀ (K:FG) (H:Hp) (a:Addr) (ns:List Int),ns.length<=n->zU H->SqL K H a (ns.map V.int)->sp K [.ref a] H (fun v _=>v=.bl true) fun _ _ _=>False)
    (hCX:∀ (H:Hp) (s:Shared) (e:Value) (s':Shared),CX [] H s (fun _ _ _=>False) e s'->False) :
    PySem.W.WalkO q loose XP YP l.row.toRowW d [] (fun f vs=>PySem.call f vs):=by
  refine Att.attach_call hn hdf fun w s₀ s₁ mg mb fa o pm cd doc a vs ns G Y ho hd hcd hmg hobj hints hlen hg=>?_
  obtain ⟨K,KX,hS⟩:=hY w _ Y
  obtain ⟨fd,hb,hF⟩:=F w mg fa _ K hS KX G.T.g hmg
  exact wE KX G.T.g G.T.b G.T.builtins G.T.nolimit hg hobj hints (CO hlen hn2) hr hF hb (fun H hO hS=>hsp K H a ns hlen hO hS) fun H e s'=>hCX H s₁ e s'
end
end L2
end
section
namespace L3
open PySem L2
theorem nsE {α:Type} {p:α} {P:Prop} (e:(none:Option α)=some p):P:=nomatch e
inductive D where
 | non | bl (b:Bool) | int (i:Int) | str (x:Str)
 | tup (xs:List D) | lst (xs:List D) | fls (xs:List D) | dk (kvs:List (Key × D)) | dt (kvs:List (List Key × D))
 | exc (c:String) (fs:List (String × D))
noncomputable def jw:D->Bool
 | .lst _=>true
 | .dk _=>true
 | .dt _=>true
 | _=>false
noncomputable def FzL (K:FG) (H:Hp) (a:Addr) (vs:List V):Prop:=(∃ o,H a=some (.frz o (.lst vs)))\/∃ (o:Obj) (its:Array Value) (n:Nat),K.lookup a=some o/\o.cls=.type "list"/\o.dict=none/\o.data=.seq its n/\its.size<=sizeLine/\Vals vs its.toList
theorem FzL.sq {K:FG} {H:Hp} {a:Addr} {vs:List V} (h:FzL K H a vs):SqL K H a vs:=h.elim (fun ⟨o,e⟩=>.inl (.inr ⟨o,e⟩)) .inr
inductive Reps (R:D->V->List Addr->Prop):List D->List V->List Addr->Prop where
 | nil:Reps R [] [] []
 | cons {d v L ds vs L'}:R d v L->Reps R ds vs L'->Reps R (d :: ds) (v :: vs) (L ++ L')
inductive Rep (K:FG) (H:Hp):D->V->List Addr->Prop where
 | non:Rep K H .non .non []
 | bl (b:Bool):Rep K H (.bl b) (.bl b) []
 | int (i:Int):Rep K H (.int i) (.int i) []
 | str (x:Str):Rep K H (.str x) (.str x) []
 | tup {xs a vs L}:H a=some (.tup vs)->Reps (Rep K H) xs vs L->Rep K H (.tup xs) (.ref a) L
 | lst {xs a vs L}:H a=some (.lst vs)->Reps (Rep K H) xs vs L->Rep K H (.lst xs) (.ref a) (a :: L)
 | lstF {xs a vs L}:FzL K H a vs->Reps (Rep K H) xs vs L->Rep K H (.fls xs) (.ref a) L
 | dK {kvs a ps L}:H a=some (.dK ps)->kvs.map (·.1)=ps.map (·.1)->Reps (Rep K H) (kvs.map (·.2)) (ps.map (·.2)) L->Rep K H (.dk kvs) (.ref a) (a :: L)
 | dT {kvs a ps L}:H a=some (.dT ps)->kvs.map (·.1)=ps.map (·.1)->Reps (Rep K H) (kvs.map (·.2)) (ps.map (·.2)) L->Rep K H (.dt kvs) (.ref a) (a :: L)
 | exc {c a D ob}:XName K c D->H a=some (excF ob a (.ref D))->Rep K H (.exc c []) (.ref a) []
noncomputable def RepV (K:FG) (H:Hp) (d:D) (v:V) (L:List Addr):Prop:=match d with
 | .non=>v=.non/\L=[]
 | .bl b=>v=.bl b/\L=[]
 | .int i=>v=.int i/\L=[]
 | .str x=>v=.str x/\L=[]
 | .tup xs=>∃ a vs,v=.ref a/\H a=some (.tup vs)/\Reps (Rep K H) xs vs L
 | .lst xs=>∃ a vs L',v=.ref a/\L=a :: L'/\H a=some (.lst vs)/\Reps (Rep K H) xs vs L'
 | .fls xs=>∃ a vs,v=.ref a/\FzL K H a vs/\Reps (Rep K H) xs vs L
 | .dk kvs=>∃ a ps L',v=.ref a/\L=a :: L'/\H a=some (.dK ps)/\kvs.map (·.1)=ps.map (·.1)/\Reps (Rep K H) (kvs.map (·.2)) (ps.map (·.2)) L'
 | .dt kvs=>∃ a ps L',v=.ref a/\L=a :: L'/\H a=some (.dT ps)/\kvs.map (·.1)=ps.map (·.1)/\Reps (Rep K H) (kvs.map (·.2)) (ps.map (·.2)) L'
 | .exc c fs=>fs=[]/\L=[]/\∃ a D ob,v=.ref a/\XName K c D/\H a=some (excF ob a (.ref D))
theorem Rep.view {K:FG} {H:Hp} {d:D} {v:V} {L:List Addr} (r:Rep K H d v L):RepV K H d v L:=by
 cases r with
 | non=>exact ⟨rfl,rfl⟩
 | bl b=>exact ⟨rfl,rfl⟩
 | int i=>exact ⟨rfl,rfl⟩
 | str x=>exact ⟨rfl,rfl⟩
 | tup h r=>exact ⟨_,_,rfl,h,r⟩
 | lst h r=>exact ⟨_,_,_,rfl,rfl,h,r⟩
 | lstF h r=>exact ⟨_,_,rfl,h,r⟩
 | dK h k r=>exact ⟨_,_,_,rfl,rfl,h,k,r⟩
 | dT h k r=>exact ⟨_,_,_,rfl,rfl,h,k,r⟩
 | exc n h=>exact ⟨rfl,rfl,_,_,_,rfl,n,h⟩
noncomputable def MutAt (H:Hp) (b:Addr):Prop:=(∃ xs,H b=some (.lst xs))\/(∃ ps,H b=some (.dK ps))\/∃ ps,H b=some (.dT ps)
theorem MutAt.ex {H:Hp} {b:Addr} (m:MutAt H b):∃ o,H b=some o:=by
 rcases m with ⟨_,h⟩ | ⟨_,h⟩ | ⟨_,h⟩ <;> exact ⟨_,h⟩
theorem MutAt.notup {H:Hp} {b:Addr} {vs:List V} (m:MutAt H b) (h:H b=some (.tup vs)):False:=by
 rcases m with ⟨_,e⟩ | ⟨_,e⟩ | ⟨_,e⟩ <;> rw [e] at h <;> cases h
theorem MutAt.nofrz {H:Hp} {b:Addr} {o:Obj} {u:HO} (m:MutAt H b) (h:H b=some (.frz o u)):False:=by
 rcases m with ⟨_,e⟩ | ⟨_,e⟩ | ⟨_,e⟩ <;> rw [e] at h <;> cases h
theorem FzL.keep {K:FG} {H H':Hp} {a:Addr} {vs:List V} {M:Addr->Prop} (h:FzL K H a vs) (k:∀ b o,H b=some o->¬ M b->H' b=some o) (hm:∀ b,M b->MutAt H b):FzL K H' a vs:=h.elim (fun ⟨o,e⟩=>.inl ⟨o,k a _ e fun z=>(hm a z).nofrz e⟩) .inr
section
variable {K:FG} {H H':Hp} {d:D} {v:V} {L:List Addr}
theorem Rep.inH (r:Rep K H d v L):∀ b ∈ L,MutAt H b:=by
 refine Rep.rec (motive_1:=fun _ _ L _=>∀ b ∈ L,MutAt H b) (motive_2:=fun _ _ L _=>∀ b ∈ L,MutAt H b) ?_ ?_ ?_ ?_ ?_ ?_ ?_ ?_ ?_ ?_ ?_ ?_ r
 ·intro b hb;cases hb
 ·intro _ b hb;cases hb
 ·intro _ b hb;cases hb
 ·intro _ b hb;cases hb
 ·intro _ _ _ _ _ _ ih;exact ih
 ·intro _ _ _ _ h _ ih b hb
  rcases Cf.mp hb with e | hb
  ·rw [e];exact .inl ⟨_,h⟩
  ·exact ih b hb
 ·intro _ _ _ _ _ _ ih;exact ih
 ·intro _ _ _ _ h _ _ ih b hb
  rcases Cf.mp hb with e | hb
  ·rw [e];exact .inr (.inl ⟨_,h⟩)
  ·exact ih b hb
 ·intro _ _ _ _ h _ _ ih b hb
  rcases Cf.mp hb with e | hb
  ·rw [e];exact .inr (.inr ⟨_,h⟩)
  ·exact ih b hb
 ·intro _ _ _ _ _ _ b hb;cases hb
 ·intro b hb;cases hb
 ·intro _ _ _ _ _ _ _ _ i1 i2 b hb
  rcases Ci.mp hb with h | h
  ·exact i1 b h
  ·exact i2 b h
theorem Reps.inH {ds:List D} {vs:List V} (r:Reps (Rep K H) ds vs L):∀ b ∈ L,MutAt H b:=by
 induction r with
 | nil=>intro b hb;cases hb
 | cons r _ ih =>
  intro b hb
  rcases Ci.mp hb with h | h
  ·exact r.inH b h
  ·exact ih b h
theorem Rep.keep {M:Addr->Prop} (k:∀ b o,H b=some o->¬ M b->H' b=some o) (hm:∀ b,M b->MutAt H b) (r:Rep K H d v L):(∀ b ∈ L,¬ M b)->Rep K H' d v L:=by
 refine Rep.rec (motive_1:=fun d v L _=>(∀ b ∈ L,¬ M b)->Rep K H' d v L) (motive_2:=fun ds vs L _=>(∀ b ∈ L,¬ M b)->Reps (Rep K H') ds vs L) ?_ ?_ ?_ ?_ ?_ ?_ ?_ ?_ ?_ ?_ ?_ ?_ r
 ·intro _;exact .non
 ·intro b _;exact .bl b
 ·intro b _;exact .int b
 ·intro b _;exact .str b
 ·intro xs a vs L h _ ih hL
  exact .tup (k a _ h fun z=>(hm a z).notup h) (ih hL)
 ·intro xs a vs L h _ ih hL
  exact .lst (k a _ h (hL a B8)) (ih fun b hb=>hL b (B9 _ hb))
 ·intro xs a vs L h _ ih hL
  exact .lstF (h.keep k hm) (ih hL)
 ·intro kvs a ps L h e _ ih hL
  exact .dK (k a _ h (hL a B8)) e (ih fun b hb=>hL b (B9 _ hb))
 ·intro kvs a ps L h e _ ih hL
  exact .dT (k a _ h (hL a B8)) e (ih fun b hb=>hL b (B9 _ hb))
 ·intro c a D ob n h _
  exact .exc n (k a _ h fun z=>(hm a z).nofrz h)
 ·intro _;exact .nil
 ·intro d v L ds vs L' _ _ i1 i2 hL
  exact .cons (i1 fun b hb=>hL b (Cd _ hb)) (i2 fun b hb=>hL b (Ce _ hb))
theorem Rep.same (r:Rep K H d v L) (s:Same H H'):Rep K H' d v L:=r.keep (M:=fun _=>False) (fun b o h _=>s b o h) (fun _ z=>z.elim) fun _ _ z=>z
theorem Reps.keep {M:Addr->Prop} {ds:List D} {vs:List V} (k:∀ b o,H b=some o->¬ M b->H' b=some o) (hm:∀ b,M b->MutAt H b) (r:Reps (Rep K H) ds vs L):(∀ b ∈ L,¬ M b)->Reps (Rep K H') ds vs L:=by
 induction r with
 | nil=>intro _;exact .nil
 | cons r _ ih=>intro hL;exact .cons (r.keep k hm fun b hb=>hL b (Cd _ hb)) (ih fun b hb=>hL b (Ce _ hb))
theorem Reps.same {ds:List D} {vs:List V} (r:Reps (Rep K H) ds vs L) (s:Same H H'):Reps (Rep K H') ds vs L:=r.keep (M:=fun _=>False) (fun b o h _=>s b o h) (fun _ z=>z.elim) fun _ _ z=>z
end
inductive Fl where
 | u | l | z
 deriving DecidableEq
structure It3 where
 d:D
 v:V
 L:List Addr
 f:Fl
noncomputable abbrev Sto:=List (Option (D × Fl))
structure Gm where
 H0:Hp
 bw:Addr->Prop
 pr:Nat->Bool
 σ0:St
 orig:Hp
 src:Addr->Prop
 lv:Nat->Option V
noncomputable def OwnOk (G:Gm) (x:It3):Prop:=jw x.d=true/\∃ a L',x.v=.ref a/\x.L=a :: L'/\a ∉ L'/\(x.f=.u->G.H0 a=none\/G.bw a)
structure ItOk (K:FG) (G:Gm) (H:Hp) (x:It3):Prop where
 rep:Rep K H x.d x.v x.L
 own:x.f ≠ .z->OwnOk G x
 src:∀ c ∈ x.L,G.H0 c=none\/G.src c
structure Fx (G:Gm) (H:Hp) (T:List It3) (g:Nat->Option It3):Prop where
 frT:∀ x ∈ T,x.f ≠ .z->∀ a,x.v=.ref a->G.orig a=none
 frS:∀ i x,g i=some x->G.pr i=false->x.f ≠ .z->∀ a,x.v=.ref a->G.orig a=none
 bin:∀ b,G.bw b->∃ o,H b=some o
 ob:∀ b o,G.orig b=some o->∃ o',H b=some o'
 lvS:∀ i x,g i=some x->x.f=.l->G.lv i=some x.v
noncomputable def NoRoot (x y:It3):Prop:=x.f ≠ .z->∀ a,x.v=.ref a->a ∉ y.L
noncomputable def Apart3 (x y:It3):Prop:=NoRoot x y/\NoRoot y x
structure Wf (K:FG) (G:Gm) (H:Hp) (σ:St) (ρ:Sto) (T:List It3) (g:Nat->Option It3):Prop where
 len:σ.length = ρ.length
 sl:∀ i,(g i).map (fun x=>(x.d,x.f))=(ρ[i]?).join
 sv:∀ i x,g i=some x->σ[i]?=some (some x.v)
 okS:∀ i x,g i=some x->ItOk K G H x
 okT:∀ x ∈ T,ItOk K G H x
 ss:∀ i j x y,i ≠ j->g i=some x->g j=some y->NoRoot x y
 st:∀ i x,g i=some x->∀ y ∈ T,Apart3 x y
 tt:T.Pairwise Apart3
 base:∀ b o,G.H0 b=some o->¬ G.bw b->H b=some o
 pro:∀ i,G.pr i=true->σ[i]?=G.σ0[i]?
 fx:Fx G H T g
structure Le (K:FG) (G:Gm) (W:D->Sto->Prop) (G0:Gm) (W0:D->Sto->Prop):Prop where
 pr:G.pr=G0.pr
 ex:∀ (H:Hp) (σ:St) (ρ:Sto) (T:List It3) (g:Nat->Option It3) (e:D),Wf K G H σ ρ T g->W e ρ->∃ ρ0 T0 g0,Wf K G0 H σ ρ0 T0 g0/\W0 e ρ0
theorem Le.refl (K:FG) (G:Gm) (W:D->Sto->Prop):Le K G W G W:=⟨rfl,fun _ _ ρ T g _ w h=>⟨ρ,T,g,w,h⟩⟩
theorem Le.trans {K:FG} {G G1 G2:Gm} {W W1 W2:D->Sto->Prop} (a:Le K G W G1 W1) (b:Le K G1 W1 G2 W2):Le K G W G2 W2:=⟨a.pr.trans b.pr,fun H σ ρ T g e w h=>by
 obtain ⟨ρ1,T1,g1,w1,h1⟩:=a.ex H σ ρ T g e w h
 exact b.ex H σ ρ1 T1 g1 e w1 h1⟩
section
variable {K:FG} {G:Gm} {H H':Hp} {σ:St} {ρ:Sto} {T T':List It3} {g:Nat->Option It3} {x y z:It3}
theorem ItOk.keep {M:Addr->Prop} (h:ItOk K G H x) (k:∀ b o,H b=some o->¬ M b->H' b=some o) (hm:∀ b,M b->MutAt H b) (hL:∀ b ∈ x.L,¬ M b):ItOk K G H' x:=⟨h.rep.keep k hm hL,h.own,h.src⟩
theorem ItOk.same (h:ItOk K G H x) (s:Same H H'):ItOk K G H' x:=⟨h.rep.same s,h.own,h.src⟩
theorem Fx.more (f:Fx G H T g) (s:∀ b o,H b=some o->∃ o',H' b=some o'):Fx G H' T g:=⟨f.frT,f.frS,fun b h=>let ⟨o,e⟩:=f.bin b h;s b o e,fun b o h=>let ⟨o',e⟩:=f.ob b o h;s b o' e,f.lvS⟩
theorem Fx.sub (f:Fx G H T g) (h:∀ x ∈ T',x ∈ T):Fx G H T' g:=⟨fun x hx=>f.frT x (h x hx),f.frS,f.bin,f.ob,f.lvS⟩
theorem Wf.grow (w:Wf K G H σ ρ T g) (s:Same H H'):Wf K G H' σ ρ T g :=
 ⟨w.len,w.sl,w.sv,fun i x e=>(w.okS i x e).same s,fun x hx=>(w.okT x hx).same s,w.ss,w.st,w.tt,fun b o e n=>s b o (w.base b o e n),w.pro,w.fx.more fun b o h=>⟨o,s b o h⟩⟩
theorem Wf.sub (w:Wf K G H σ ρ T g) (h:T'.Sublist T):Wf K G H σ ρ T' g :=
 ⟨w.len,w.sl,w.sv,w.okS,fun x hx=>w.okT x (h.subset hx),w.ss,fun i x e y hy=>w.st i x e y (h.subset hy),w.tt.sublist h,w.base,w.pro,w.fx.sub fun x hx=>h.subset hx⟩
noncomputable def Itm (T:List It3) (g:Nat->Option It3) (y:It3):Prop:=(∃ i,g i=some y)\/y ∈ T
noncomputable def eI (T:List It3) (g:Nat->Option It3) (c:Addr):Prop:=(∀ i z,g i=some z->z.f ≠ .z->z.v ≠ .ref c)/\∀ z ∈ T,z.f ≠ .z->z.v ≠ .ref c
theorem Wf.itm (w:Wf K G H σ ρ T g) (h:Itm T g y):ItOk K G H y:=by
 rcases h with ⟨i,e⟩ | h
 ·exact w.okS i y e
 ·exact w.okT y h
theorem nI {α:Type} {R:α->α->Prop} {l:List α} (p:l.Pairwise R) (hs:∀ a b,R a b->R b a):∀ a ∈ l,∀ b ∈ l,a ≠ b->R a b:=by
 induction p with
 | nil=>intro a ha;cases ha
 | @cons c l hc _ ih =>
  intro a ha b hb n
  rcases Cf.mp ha with ea | ha
  ·rcases Cf.mp hb with eb | hb
   ·exact absurd (ea.trans eb.symm) n
   ·rw [ea];exact hc b hb
  ·rcases Cf.mp hb with eb | hb
   ·rw [eb];exact hs _ _ (hc a ha)
   ·exact ih a ha b hb n
theorem Apart3.symm (h:Apart3 x y):Apart3 y x:=⟨h.2,h.1⟩
theorem Wf.kid (w:Wf K G H σ ρ T g) (h:Itm T g y) {c:Addr} (hc:c ∈ y.L) (hn:y.f ≠ .z->y.v ≠ .ref c):eI T g c:=by
 refine ⟨fun i z e hz ez=>?_,fun z hm hz ez=>?_⟩
 ·rcases h with ⟨j,ej⟩ | hy
  ·by_cases ij:i=j
   ·subst ij
    rw [e] at ej
    cases ej
    exact hn hz ez
   ·exact w.ss i j z y ij e ej hz c ez hc
  ·exact (w.st i z e y hy).1 hz c ez hc
 ·rcases h with ⟨j,ej⟩ | hy
  ·exact (w.st j y ej z hm).2 hz c ez hc
  ·by_cases e:z=y
   ·subst e;exact hn hz ez
   ·exact (nI w.tt (fun _ _=>Apart3.symm) z hm y hy e).1 hz c ez hc
structure New (K:FG) (H H':Hp) (Ks:Addr->Prop) (x:It3):Prop where
 same:Same H H'
 rep:Rep K H' x.d x.v x.L
 sub:∀ c ∈ x.L,H c=none\/Ks c
 own:x.f ≠ .z->jw x.d=true/\∃ a L',x.v=.ref a/\x.L=a :: L'/\a ∉ L'/\H a=none
theorem Wf.h0none (w:Wf K G H σ ρ T g) {a:Addr} (h:H a=none):G.H0 a=none:=by
 cases e:G.H0 a with
 | none=>rfl
 | some o =>
  by_cases b:G.bw a
  ·obtain ⟨o,e⟩:=w.fx.bin a b
   rw [h] at e;cases e
  ·have:=w.base a o e b
   rw [h] at this;cases this
theorem Wf.ornone (w:Wf K G H σ ρ T g) {a:Addr} (h:H a=none):G.orig a=none:=by
 cases e:G.orig a with
 | none=>rfl
 | some o =>
  obtain ⟨o,e⟩:=w.fx.ob a o e
  rw [h] at e;cases e
theorem Wf.push {Ks:Addr->Prop} (w:Wf K G H σ ρ T g) (n:New K H H' Ks x) (hk:∀ c,Ks c->eI T g c/\(G.H0 c=none\/G.src c)):Wf K G H' σ ρ (x :: T) g:=by
 have w':=w.grow n.same
 have a1:∀ y:It3,ItOk K G H y->(∀ c,Ks c->y.f ≠ .z->y.v ≠ .ref c)->Apart3 y x:=fun y oy hy=>by
  refine ⟨fun hf a e hm=>?_,fun hf a e hm=>?_⟩
  ·obtain ⟨_,a',L',e1,e2,_,_⟩:=oy.own hf
   rw [e] at e1
   cases e1
   rcases n.sub a hm with h | h
   ·obtain ⟨o,ho⟩:=(oy.rep.inH a (by rw [e2];exact B8)).ex
    rw [h] at ho;cases ho
   ·exact hy a h hf e
  ·obtain ⟨_,a',L',e1,e2,_,h⟩:=n.own hf
   rw [e] at e1
   cases e1
   obtain ⟨o,ho⟩:=(oy.rep.inH a hm).ex
   rw [h] at ho;cases ho
 refine ⟨w'.len,w'.sl,w'.sv,w'.okS,?_,w'.ss,?_,?_,w'.base,w'.pro,⟨fun y hy hf a ea=>?_,w'.fx.frS,w'.fx.bin,w'.fx.ob,w'.fx.lvS⟩⟩
 ·intro y hy
  rcases Cf.mp hy with rfl | hy
  ·refine ⟨n.rep,fun hf=>?_,fun c hc=>?_⟩
   ·obtain ⟨e0,a,L',e1,e2,e3,e4⟩:=n.own hf
    exact ⟨e0,a,L',e1,e2,e3,fun _=>.inl (w.h0none e4)⟩
   ·rcases n.sub c hc with h | h
    ·exact .inl (w.h0none h)
    ·exact (hk c h).2
  ·exact w'.okT y hy
 ·intro i z e y hy
  rcases Cf.mp hy with rfl | hy
  ·exact a1 z (w.okS i z e) fun c hc=>(hk c hc).1.1 i z e
  ·exact w'.st i z e y hy
 ·refine List.pairwise_cons.mpr ⟨fun y hy=>(a1 y (w.okT y hy) fun c hc=>(hk c hc).1.2 y hy).symm,w'.tt⟩
 ·rcases Cf.mp hy with h | hy
  ·subst h
   obtain ⟨e0,a',L',e1,e2,e3,e4⟩:=n.own hf
   rw [ea] at e1
   cases e1
   exact w.ornone e4
  ·exact w'.fx.frT y hy hf a ea
noncomputable def eZ (ys:List It3) (c:Addr):Prop:=∃ y ∈ ys,c ∈ y.L/\(y.f ≠ .z->y.v ≠ .ref c)
theorem Wf.kids (w:Wf K G H σ ρ T g) {ys:List It3} (hy:∀ y ∈ ys,Itm T g y) {c:Addr} (h:eZ ys c):eI T g c/\(G.H0 c=none\/G.src c):=by
 obtain ⟨y,m,hc,hn⟩:=h
 exact ⟨w.kid (hy y m) hc hn,(w.itm (hy y m)).src c hc⟩
structure Arg (K:FG) (H:Hp) (p:It3):Prop where
 rep:Rep K H p.d p.v p.L
 own:p.f ≠ .z->jw p.d=true/\∃ a L',p.v=.ref a/\p.L=a :: L'/\a ∉ L'
theorem ItOk.arg (h:ItOk K G H x):Arg K H x:=⟨h.rep,fun hf=>by
 obtain ⟨m,a,L',v1,v2,v3,_⟩:=h.own hf
 exact ⟨m,a,L',v1,v2,v3⟩⟩
end
end L3
end
section
namespace L3
open PySem L2
inductive R3 where
 | pl (i:Nat) | val (d:D) (f:Fl)
noncomputable abbrev M3 (α:Type):=Sto->Option (Except D α × Sto)
noncomputable abbrev EM:=M3 R3
noncomputable def ae {α β:Type} (m:M3 α) (k:α->M3 β):M3 β:=fun ρ=>match m ρ with
 | none=>none
 | some (.error e,ρ')=>some (.error e,ρ')
 | some (.ok a,ρ')=>k a ρ'
noncomputable def bx {α:Type} (a:α):M3 α:=fun ρ=>some (.ok a,ρ)
noncomputable def bo {α:Type} (o:Option α):M3 α:=fun ρ=>o.map fun a=>(.ok a,ρ)
noncomputable def der (r:R3):M3 D:=fun ρ=>match r with
 | .pl i=>((ρ[i]?).join).map fun p=>(.ok p.1,ρ)
 | .val d _=>some (.ok d,ρ)
inductive Ar (σ:St):R3->V->List It3->Prop where
 | pl {i:Nat} {v:V}:σ[i]?=some (some v)->Ar σ (.pl i) v []
 | val (x:It3):Ar σ (.val x.d x.f) x.v [x]
noncomputable def Got (K:FG) (G:Gm) (σ:St) (ρ:Sto) (T:List It3) (r:R3) (v:V) (H:Hp):Prop:=∃ Ts g,Wf K G H σ ρ (Ts ++ T) g/\Ar σ r v Ts
noncomputable def tE (K:FG) (G0:Gm) (W0:D->Sto->Prop) (m:EM):TE:=fun σ H Q=>∃ G W,Le K G W G0 W0/\∃ ρ T g r ρ',Wf K G H σ ρ T g/\m ρ=some (r,ρ')/\match r with
 | .ok r=>∀ v H',Got K G σ ρ' T r v H'->Q v H'
 | .error e=>W e ρ'
noncomputable def tT (K:FG) (G0:Gm) (W0:D->Sto->Prop) (m:M3 Bool):TT:=fun σ H Q=>∃ G W,Le K G W G0 W0/\∃ ρ T g r ρ',Wf K G H σ ρ T g/\m ρ=some (r,ρ')/\match r with
 | .ok b=>∀ H' g',Wf K G H' σ ρ' T g'->Q b H'
 | .error e=>W e ρ'
inductive Ars (σ:St):List R3->List V->List It3->Prop where
 | nil:Ars σ [] [] []
 | cons {r v Ts rs vs Us}:Ar σ r v Ts->Ars σ rs vs Us->Ars σ (r :: rs) (v :: vs) (Us ++ Ts)
noncomputable def tA (K:FG) (G0:Gm) (W0:D->Sto->Prop) (m:M3 (List R3)):TA:=fun σ H Q=>∃ G W,Le K G W G0 W0/\∃ ρ T g r ρ',Wf K G H σ ρ T g/\m ρ=some (r,ρ')/\match r with
 | .ok rs=>∀ vs H' Ts g',Wf K G H' σ ρ' (Ts ++ T) g'->Ars σ rs vs Ts->Q vs H'
 | .error e=>W e ρ'
inductive Flw where
 | nx | br | ct | rt (d:D) (f:Fl)
noncomputable abbrev SM:=M3 Flw
noncomputable def tS (K:FG) (G0:Gm) (W0:D->Sto->Prop) (m:SM):TS:=fun E σ H=>∃ G W,Le K G W G0 W0/\∃ ρ T g r ρ',Wf K G H σ ρ T g/\m ρ=some (r,ρ')/\match r with
 | .ok .nx=>∀ σ' H' g',Wf K G H' σ' ρ' T g'->E.nx σ' H'
 | .ok .br=>∀ σ' H' g',Wf K G H' σ' ρ' T g'->E.bk σ' H'
 | .ok .ct=>∀ σ' H' g',Wf K G H' σ' ρ' T g'->E.ct σ' H'
 | .ok (.rt d f)=>∀ x σ' H' g',Wf K G H' σ' ρ' (x :: T) g'->x.d=d->x.f=f->E.rt x.v H'
 | .error e=>W e ρ'
section
variable {K:FG} {G G0:Gm} {W W0:D->Sto->Prop} {H H':Hp} {σ:St} {ρ ρ':Sto} {T T':List It3} {g:Nat->Option It3} {x y z:It3} {α β:Type}
theorem aX {r:R3} {k:D->M3 β} {o:Except D β} (e:ae (der r) k ρ=some (o,ρ')):∃ d,der r ρ=some (.ok d,ρ)/\k d ρ=some (o,ρ'):=by
 cases r with
 | pl i =>
  have er:der (.pl i) ρ=((ρ[i]?).join).map fun p=>(.ok p.1,ρ):=rfl
  unfold ae at e
  rw [er] at e ⊢
  cases h:(ρ[i]?).join with
  | none=>rw [h] at e;exact nsE e
  | some p=>rw [h] at e;exact ⟨p.1,rfl,e⟩
 | val d f=>exact ⟨d,rfl,e⟩
theorem cg {o:Option α} {r:Except D α} (e:bo o ρ=some (r,ρ')):∃ a,o=some a/\r=.ok a/\ρ' = ρ:=by
 unfold bo at e
 cases o with
 | none=>exact nsE e
 | some a=>cases e;exact ⟨a,rfl,rfl,rfl⟩
theorem Wf.slot (w:Wf K G H σ ρ T g) {i:Nat} {d:D} {f:Fl} (e:(ρ[i]?).join=some (d,f)):∃ y,g i=some y/\y.d=d/\y.f=f/\σ[i]?=some (some y.v):=by
 have h:=w.sl i
 rw [e] at h
 cases q:g i with
 | none=>rw [q] at h;exact nsE h
 | some y =>
  rw [q] at h
  cases h
  exact ⟨y,rfl,rfl,rfl,w.sv i y q⟩
theorem Ar.item {r:R3} {v:V} {Ts:List It3} {d:D} (w:Wf K G H σ ρ T g) (a:Ar σ r v Ts) (hs:∀ x ∈ Ts,x ∈ T) (e:der r ρ=some (.ok d,ρ)):∃ y,Itm T g y/\y.d=d/\y.v=v:=by
 cases a with
 | @pl i v h =>
  have er:der (.pl i) ρ=((ρ[i]?).join).map fun p=>(.ok p.1,ρ):=rfl
  rw [er] at e
  cases q:(ρ[i]?).join with
  | none=>rw [q] at e;exact nsE e
  | some p =>
   rw [q] at e
   obtain ⟨y,e1,e2,e3,e4⟩:=w.slot (d:=p.1) (f:=p.2) q
   have e5:p.1=d:=by cases e;rfl
   rw [h] at e4
   refine ⟨y,.inl ⟨i,e1⟩,e2.trans e5,?_⟩
   cases e4;rfl
 | val x=>cases e;exact ⟨x,.inr (hs x (by simp)),rfl,rfl⟩
theorem Wf.done {Us:List It3} {ys:List It3} (w:Wf K G H σ ρ (Us ++ T) g) (hy:∀ y ∈ ys,Itm (Us ++ T) g y) (n:New K H H' (eZ ys) x):Got K G σ ρ T (.val x.d x.f) x.v H' :=
 ⟨[x],g,(w.push n fun c h=>w.kids hy h).sub (by simpa using List.Sublist.cons_cons x (Cn Us T)),.val x⟩
theorem tE.seq {ma:EM} {k:R3->M3 β} {r:Except D β} {P:VK} (le:Le K G W G0 W0) (w:Wf K G H σ ρ T g) (e:ae ma k ρ=some (r,ρ')) (he:∀ x,r=.error x->W x ρ')
  (h:∀ ra ρ1,k ra ρ1=some (r,ρ')->∀ v H1,Got K G σ ρ1 T ra v H1->P v H1):tE K G0 W0 ma σ H P:=by
 unfold ae at e
 cases q:ma ρ with
 | none=>rw [q] at e;exact nsE e
 | some p =>
  obtain ⟨o,ρ1⟩:=p
  rw [q] at e
  cases o with
  | error x=>cases e;exact ⟨G,W,le,ρ,T,g,.error x,ρ',w,q,he x rfl⟩
  | ok ra=>exact ⟨G,W,le,ρ,T,g,.ok ra,ρ1,w,q,h ra ρ1 e⟩
theorem tT.seq {ma:M3 Bool} {k:Bool->M3 β} {r:Except D β} {P:Bool->Hp->Prop} (le:Le K G W G0 W0) (w:Wf K G H σ ρ T g) (e:ae ma k ρ=some (r,ρ')) (he:∀ x,r=.error x->W x ρ')
  (h:∀ b ρ1,k b ρ1=some (r,ρ')->∀ H1 g1,Wf K G H1 σ ρ1 T g1->P b H1):tT K G0 W0 ma σ H P:=by
 unfold ae at e
 cases q:ma ρ with
 | none=>rw [q] at e;exact nsE e
 | some p =>
  obtain ⟨o,ρ1⟩:=p
  rw [q] at e
  cases o with
  | error x=>cases e;exact ⟨G,W,le,ρ,T,g,.error x,ρ',w,q,he x rfl⟩
  | ok ra=>exact ⟨G,W,le,ρ,T,g,.ok ra,ρ1,w,q,h ra ρ1 e⟩
theorem tA.seq {ma:M3 (List R3)} {k:List R3->M3 β} {r:Except D β} {P:List V->Hp->Prop} (le:Le K G W G0 W0) (w:Wf K G H σ ρ T g) (e:ae ma k ρ=some (r,ρ')) (he:∀ x,r=.error x->W x ρ')
  (h:∀ rs ρ1,k rs ρ1=some (r,ρ')->∀ vs H1 Ts g1,Wf K G H1 σ ρ1 (Ts ++ T) g1->Ars σ rs vs Ts->P vs H1):tA K G0 W0 ma σ H P:=by
 unfold ae at e
 cases q:ma ρ with
 | none=>rw [q] at e;exact nsE e
 | some p =>
  obtain ⟨o,ρ1⟩:=p
  rw [q] at e
  cases o with
  | error x=>cases e;exact ⟨G,W,le,ρ,T,g,.error x,ρ',w,q,he x rfl⟩
  | ok ra=>exact ⟨G,W,le,ρ,T,g,.ok ra,ρ1,w,q,h ra ρ1 e⟩
noncomputable def EndE (K:FG) (G:Gm) (W:D->Sto->Prop) (σ:St) (T:List It3) (ρ':Sto) (Q:VK):Except D R3->Prop
 | .ok r=>∀ v H',Got K G σ ρ' T r v H'->Q v H'
 | .error e=>W e ρ'
theorem EndE.err {Q:VK} {r:Except D R3} (h:EndE K G W σ T ρ' Q r):∀ x,r=.error x->W x ρ':=by
 intro x e;subst e;exact h
theorem tE.open {m:EM} {Q:VK} (h:tE K G0 W0 m σ H Q):∃ G W,Le K G W G0 W0/\∃ ρ T g r ρ',Wf K G H σ ρ T g/\m ρ=some (r,ρ')/\EndE K G W σ T ρ' Q r:=by
 obtain ⟨G,W,le,ρ,T,g,r,ρ',w,e,q⟩:=h
 refine ⟨G,W,le,ρ,T,g,r,ρ',w,e,?_⟩
 cases r with
 | ok r=>exact q
 | error x=>exact q
theorem tE.use {m:EM} {Q:VK} (h:tE K G0 W0 m σ H Q) {P:Prop} (k:∀ G W,Le K G W G0 W0->∀ ρ T g r ρ',Wf K G H σ ρ T g->m ρ=some (r,ρ')->EndE K G W σ T ρ' Q r->P):P:=by
 obtain ⟨G,W,le,ρ,T,g,r,ρ',w,e,q⟩:=h.open
 exact k G W le ρ T g r ρ' w e q
theorem tE.mk {m:EM} {Q:VK} {r:Except D R3} (le:Le K G W G0 W0) (w:Wf K G H σ ρ T g) (e:m ρ=some (r,ρ')) (h:EndE K G W σ T ρ' Q r):tE K G0 W0 m σ H Q:=by
 refine ⟨G,W,le,ρ,T,g,r,ρ',w,e,?_⟩
 cases r with
 | ok r=>exact h
 | error x=>exact h
noncomputable def ac (i:Nat):EM:=fun ρ=>((ρ[i]?).join).map fun _=>(.ok (.pl i),ρ)
theorem AL {i:Nat} {Q:VK} (h:tE K G0 W0 (ac i) σ H Q):sU i σ H Q:=by
 refine h.use fun G W le ρ T g r ρ' w e q=>?_
 unfold ac at e
 cases h:(ρ[i]?).join with
 | none=>rw [h] at e;exact nsE e
 | some p =>
  rw [h] at e
  cases e
  obtain ⟨y,_,_,_,e4⟩:=w.slot (d:=p.1) (f:=p.2) h
  exact ⟨y.v,e4,q y.v H ⟨[],g,w,.pl e4⟩⟩
noncomputable def mC (d:D):EM:=bx (.val d .z)
theorem Wf.const {d:D} {v:V} (w:Wf K G H σ ρ T g) (r:Rep K H d v []):Got K G σ ρ T (.val d .z) v H :=
 Wf.done (Us:=[]) (ys:=[]) (x:=⟨d,v,[],.z⟩) w (fun _ h=>(by cases h)) ⟨Same.refl _,r,fun _ h=>(by cases h),fun h=>absurd rfl h⟩
theorem ja {d:D} {v:V} {Q:VK} (r:∀ H,Rep K H d v []) (h:tE K G0 W0 (mC d) σ H Q):tC v σ H Q:=by
 refine h.use fun G W le ρ T g o ρ' w e q=>?_
 cases e
 exact q v H (w.const (r H))
noncomputable def ah (f:D->D->Option (D × Fl)) (ma mb:EM):EM:=ae ma fun ra=>ae mb fun rb=>ae (der ra) fun da=>ae (der rb) fun db=>bo ((f da db).map fun p=>R3.val p.1 p.2)
noncomputable def OpD (K:FG) (r:R2) (f:D->D->Option (D × Fl)):Prop:=∀ (a b:It3) (H:Hp) (Q:VK) (p:D × Fl),Arg K H a->Arg K H b->f a.d b.d=some p ->
 (∀ w H',New K H H' (eZ [a,b]) w->w.d=p.1->w.f=p.2->Q w.v H')->r a.v b.v H Q
theorem pH {Us:List It3} {ys:List It3} {Q:VK} {d:D} {f:Fl} (w:Wf K G H σ ρ (Us ++ T) g) (hy:∀ y ∈ ys,Itm (Us ++ T) g y) (q:EndE K G W σ T ρ Q (.ok (.val d f))) :
  ∀ w' H',New K H H' (eZ ys) w'->w'.d=d->w'.f=f->Q w'.v H':=by
 intro w' H' n e1 e2
 subst e1 e2
 exact q w'.v H' (w.done hy n)
theorem k8 {r:R2} {f:D->D->Option (D × Fl)} {ma mb:EM} {Q:VK} (ho:OpD K r f) (h:tE K G0 W0 (ah f ma mb) σ H Q):tOp r (tE K G0 W0 ma) (tE K G0 W0 mb) σ H Q:=by
 refine h.use fun G W le ρ T g o ρ' w e q=>?_
 refine tE.seq le w e q.err fun ra ρ1 e1 va H1 ⟨Ts,g1,w1,a1⟩=>?_
 refine tE.seq le w1 e1 q.err fun rb ρ2 e2 vb H2 ⟨Us,g2,w2,a2⟩=>?_
 obtain ⟨da,d1,e3⟩:=aX e2
 obtain ⟨db,d2,e4⟩:=aX e3
 obtain ⟨p,e5,rfl,rfl⟩:=cg e4
 obtain ⟨ya,i1,f1,f2⟩:=a1.item w2 (fun x hx=>Ce _ (Cd _ hx)) d1
 obtain ⟨yb,i2,f3,f4⟩:=a2.item w2 (fun x hx=>Cd _ hx) d2
 subst f1 f2 f3 f4
 cases ef:f ya.d yb.d with
 | none=>rw [ef] at e5;exact nsE e5
 | some s =>
  rw [ef] at e5
  cases e5
  rw [<- List.append_assoc] at w2 i1 i2
  refine ho ya yb H2 Q s (w2.itm i1).arg (w2.itm i2).arg ef (pH w2 (fun y hy=>?_) q)
  rcases Cf.mp hy with h | hy
  ·rw [h];exact i1
  ·rw [CH.mp hy];exact i2
noncomputable def mUn (f:D->Option (D × Fl)) (ma:EM):EM:=ae ma fun ra=>ae (der ra) fun da=>bo ((f da).map fun p=>R3.val p.1 p.2)
noncomputable def UnD (K:FG) (r:V->Hp->VK->Prop) (f:D->Option (D × Fl)):Prop:=∀ (a:It3) (H:Hp) (Q:VK) (p:D × Fl),Arg K H a->f a.d=some p ->
 (∀ w H',New K H H' (eZ [a]) w->w.d=p.1->w.f=p.2->Q w.v H')->r a.v H Q
theorem zY {r:V->Hp->VK->Prop} {f:D->Option (D × Fl)} {ma:EM} {Q:VK} (ho:UnD K r f) (h:tE K G0 W0 (mUn f ma) σ H Q):tUn r (tE K G0 W0 ma) σ H Q:=by
 refine h.use fun G W le ρ T g o ρ' w e q=>?_
 refine tE.seq le w e q.err fun ra ρ1 e1 va H1 ⟨Ts,g1,w1,a1⟩=>?_
 obtain ⟨da,d1,e3⟩:=aX e1
 obtain ⟨p,e5,rfl,rfl⟩:=cg e3
 obtain ⟨ya,i1,f1,f2⟩:=a1.item w1 (fun x hx=>Cd _ hx) d1
 subst f1 f2
 cases ef:f ya.d with
 | none=>rw [ef] at e5;exact nsE e5
 | some s =>
  rw [ef] at e5
  cases e5
  exact ho ya H1 Q s (w1.itm i1).arg ef (pH w1 (fun y hy=>by rw [CH.mp hy];exact i1) q)
noncomputable def ai:M3 (List R3):=bx []
noncomputable def ab (m:EM) (ms:M3 (List R3)):M3 (List R3):=ae m fun r=>ae ms fun rs=>bx (r :: rs)
noncomputable def EndA (K:FG) (G:Gm) (W:D->Sto->Prop) (σ:St) (T:List It3) (ρ':Sto) (Q:List V->Hp->Prop):Except D (List R3)->Prop
 | .ok rs=>∀ vs H' Ts g',Wf K G H' σ ρ' (Ts ++ T) g'->Ars σ rs vs Ts->Q vs H'
 | .error e=>W e ρ'
theorem EndA.err {Q:List V->Hp->Prop} {r:Except D (List R3)} (h:EndA K G W σ T ρ' Q r):∀ x,r=.error x->W x ρ':=by
 intro x e;subst e;exact h
theorem tA.open {m:M3 (List R3)} {Q:List V->Hp->Prop} (h:tA K G0 W0 m σ H Q):∃ G W,Le K G W G0 W0/\∃ ρ T g r ρ',Wf K G H σ ρ T g/\m ρ=some (r,ρ')/\EndA K G W σ T ρ' Q r:=by
 obtain ⟨G,W,le,ρ,T,g,r,ρ',w,e,q⟩:=h
 refine ⟨G,W,le,ρ,T,g,r,ρ',w,e,?_⟩
 cases r with
 | ok r=>exact q
 | error x=>exact q
theorem tA.use {m:M3 (List R3)} {Q:List V->Hp->Prop} (h:tA K G0 W0 m σ H Q) {P:Prop} (k:∀ G W,Le K G W G0 W0->∀ ρ T g r ρ',Wf K G H σ ρ T g->m ρ=some (r,ρ')->EndA K G W σ T ρ' Q r->P):P:=by
 obtain ⟨G,W,le,ρ,T,g,r,ρ',w,e,q⟩:=h.open
 exact k G W le ρ T g r ρ' w e q
theorem vg {Q:List V->Hp->Prop} (h:tA K G0 W0 ai σ H Q):xM σ H Q:=by
 refine h.use fun G W le ρ T g r ρ' w e q=>?_
 cases e
 exact q [] H [] g w .nil
theorem rC {m:EM} {ms:M3 (List R3)} {Q:List V->Hp->Prop} (h:tA K G0 W0 (ab m ms) σ H Q):oJ (tE K G0 W0 m) (tA K G0 W0 ms) σ H Q:=by
 refine h.use fun G W le ρ T g r ρ' w e q=>?_
 refine tE.seq le w e q.err fun ra ρ1 e1 va H1 ⟨Ts,g1,w1,a1⟩=>?_
 refine tA.seq le w1 e1 q.err fun rs ρ2 e2 vs H2 Us g2 w2 a2=>?_
 cases e2
 refine q (va :: vs) H2 (Us ++ Ts) g2 ?_ (.cons a1 a2)
 rw [List.append_assoc]
 exact w2
noncomputable def gE:List R3->M3 (List D)
 | []=>bx []
 | r :: rs=>ae (der r) fun d=>ae (gE rs) fun ds=>bx (d :: ds)
theorem su:∀ {rs:List R3} {ρ ρ':Sto} {o:Except D (List D)},gE rs ρ=some (o,ρ')->∃ ds,o=.ok ds/\ρ' = ρ
 | [],ρ,ρ',o,e=>by cases e;exact ⟨[],rfl,rfl⟩
 | r :: rs,ρ,ρ',o,e=>by
  obtain ⟨d,e1,e2⟩:=aX (k:=fun d=>ae (gE rs) fun ds=>bx (d :: ds)) e
  unfold ae at e2
  cases q:gE rs ρ with
  | none=>rw [q] at e2;exact nsE e2
  | some p =>
   obtain ⟨o',ρ1⟩:=p
   obtain ⟨ds,rfl,rfl⟩:=su q
   rw [q] at e2
   cases e2
   exact ⟨d :: ds,rfl,rfl⟩
theorem dE {rs:List R3} {k:List D->M3 β} {o:Except D β} (e:ae (gE rs) k ρ=some (o,ρ')):∃ ds,gE rs ρ=some (.ok ds,ρ)/\k ds ρ=some (o,ρ'):=by
 unfold ae at e
 cases q:gE rs ρ with
 | none=>rw [q] at e;exact nsE e
 | some p =>
  obtain ⟨o',ρ1⟩:=p
  obtain ⟨ds,rfl,rfl⟩:=su q
  rw [q] at e
  exact ⟨ds,rfl,e⟩
theorem Ars.items:∀ {rs:List R3} {vs:List V} {Ts:List It3} {ds:List D} ,Wf K G H σ ρ T g->Ars σ rs vs Ts->(∀ x ∈ Ts,x ∈ T)->gE rs ρ=some (.ok ds,ρ)->∃ ys:List It3,(∀ y ∈ ys,Itm T g y)/\ys.map (·.d)=ds/\ys.map (·.v)=vs
 | [],_,_,ds,w,.nil,_,e=>by cases e;exact ⟨[],fun _ h=>(by cases h),rfl,rfl⟩
 | r :: rs,_,_,ds,w,.cons a as,hs,e=>by
  obtain ⟨d,e1,e2⟩:=aX (k:=fun d=>ae (gE rs) fun ds=>bx (d :: ds)) e
  obtain ⟨ds',e3,e4⟩:=dE e2
  cases e4
  obtain ⟨y,i1,f1,f2⟩:=a.item w (fun x hx=>hs x (Ce _ hx)) e1
  obtain ⟨ys,i2,f3,f4⟩:=Ars.items w as (fun x hx=>hs x (Cd _ hx)) e3
  refine ⟨y :: ys,fun z hz=>?_,by simp [f1,f3],by simp [f2,f4]⟩
  rcases Cf.mp hz with h | hz
  ·rw [h];exact i1
  ·exact i2 z hz
noncomputable def aG (f:List D->Option (D × Fl)) (ms:M3 (List R3)):EM:=ae ms fun rs=>ae (gE rs) fun ds=>bo ((f ds).map fun p=>R3.val p.1 p.2)
noncomputable def ff (K:FG) (r:List V->Hp->VK->Prop) (f:List D->Option (D × Fl)):Prop:=∀ (ys:List It3) (H:Hp) (Q:VK) (p:D × Fl),(∀ y ∈ ys,Arg K H y)->f (ys.map (·.d))=some p ->
 (∀ w H',New K H H' (eZ ys) w->w.d=p.1->w.f=p.2->Q w.v H')->r (ys.map (·.v)) H Q
theorem jb {r:List V->Hp->VK->Prop} {f:List D->Option (D × Fl)} {ms:M3 (List R3)} {Q:VK} (ho:ff K r f) (h:tE K G0 W0 (aG f ms) σ H Q):tCB r (tA K G0 W0 ms) σ H Q:=by
 refine h.use fun G W le ρ T g o ρ' w e q=>?_
 refine tA.seq le w e q.err fun rs ρ1 e1 vs H1 Ts g1 w1 a1=>?_
 obtain ⟨ds,d1,e2⟩:=dE e1
 obtain ⟨p,e5,rfl,rfl⟩:=cg e2
 obtain ⟨ys,i1,f1,f2⟩:=a1.items w1 (fun x hx=>Cd _ hx) d1
 subst f1 f2
 cases ef:f (ys.map (·.d)) with
 | none=>rw [ef] at e5;exact nsE e5
 | some s =>
  rw [ef] at e5
  cases e5
  exact ho ys H1 Q s (fun y hy=>(w1.itm (i1 y hy)).arg) ef (pH w1 i1 q)
noncomputable def asB:D->Option Bool
 | .bl b=>some b
 | _=>none
noncomputable def pq (ma mb:EM):EM:=ae ma fun ra=>ae (der ra) fun d=>ae (bo (asB d)) fun b=>if b then mb else bx (.val (.bl false) .z)
noncomputable def mOr (ma mb:EM):EM:=ae ma fun ra=>ae (der ra) fun d=>ae (bo (asB d)) fun b=>if b then bx (.val (.bl true) .z) else mb
noncomputable def zu (ma:EM):EM:=ae ma fun ra=>ae (der ra) fun d=>ae (bo (asB d)) fun b=>bx (.val (.bl (!b)) .z)
theorem iz {o:Option α} {k:α->M3 β} {r:Except D β} (e:ae (bo o) k ρ=some (r,ρ')):∃ a,o=some a/\k a ρ=some (r,ρ'):=by
 unfold ae bo at e
 cases o with
 | none=>exact nsE e
 | some a=>exact ⟨a,rfl,e⟩
theorem xu {d:D} {b:Bool} (e:asB d=some b):d=.bl b:=by
 cases d <;> first | exact nsE e | cases e
 rfl
theorem Rep.bl_eq {b:Bool} {v:V} {L:List Addr} (r:Rep K H (.bl b) v L):v=.bl b/\L=[]:=by cases r;exact ⟨rfl,rfl⟩
theorem Ar.bool {ra:R3} {v:V} {Ts:List It3} {d:D} {b:Bool} (w:Wf K G H σ ρ (Ts ++ T) g) (a:Ar σ ra v Ts) (e:der ra ρ=some (.ok d,ρ)) (hb:asB d=some b):v=.bl b:=by
 obtain ⟨y,i1,f1,f2⟩:=a.item w (fun x hx=>Cd _ hx) e
 have r:=(w.itm i1).rep
 rw [f1,xu hb] at r
 rw [<- f2]
 exact r.bl_eq.1
theorem AR {ma mb:EM} {Q:VK} (h:tE K G0 W0 (pq ma mb) σ H Q):z6 (tE K G0 W0 ma) (tE K G0 W0 mb) σ H Q:=by
 refine h.use fun G W le ρ T g o ρ' w e q=>?_
 refine tE.seq le w e q.err fun ra ρ1 e1 va H1 ⟨Ts,g1,w1,a1⟩=>?_
 obtain ⟨d,d1,e2⟩:=aX e1
 obtain ⟨b,hb,e3⟩:=iz e2
 refine ⟨b,a1.bool w1 d1 hb,?_⟩
 have w2:=w1.sub (Cn Ts T)
 cases b with
 | true=>exact tE.mk le w2 e3 q
 | false=>cases e3;exact q _ _ (w2.const (.bl false))
theorem tE_or {ma mb:EM} {Q:VK} (h:tE K G0 W0 (mOr ma mb) σ H Q):tOrV (tE K G0 W0 ma) (tE K G0 W0 mb) σ H Q:=by
 refine h.use fun G W le ρ T g o ρ' w e q=>?_
 refine tE.seq le w e q.err fun ra ρ1 e1 va H1 ⟨Ts,g1,w1,a1⟩=>?_
 obtain ⟨d,d1,e2⟩:=aX e1
 obtain ⟨b,hb,e3⟩:=iz e2
 refine ⟨b,a1.bool w1 d1 hb,?_⟩
 have w2:=w1.sub (Cn Ts T)
 cases b with
 | false=>exact tE.mk le w2 e3 q
 | true=>cases e3;exact q _ _ (w2.const (.bl true))
theorem AN {ma:EM} {Q:VK} (h:tE K G0 W0 (zu ma) σ H Q):zW (tE K G0 W0 ma) σ H Q:=by
 refine h.use fun G W le ρ T g o ρ' w e q=>?_
 refine tE.seq le w e q.err fun ra ρ1 e1 va H1 ⟨Ts,g1,w1,a1⟩=>?_
 obtain ⟨d,d1,e2⟩:=aX e1
 obtain ⟨b,hb,e3⟩:=iz e2
 refine ⟨b,a1.bool w1 d1 hb,?_⟩
 have w2:=w1.sub (Cn Ts T)
 cases e3;exact q _ _ (w2.const (.bl (!b)))
noncomputable def EndT (K:FG) (G:Gm) (W:D->Sto->Prop) (σ:St) (T:List It3) (ρ':Sto) (Q:Bool->Hp->Prop):Except D Bool->Prop
 | .ok b=>∀ H' g',Wf K G H' σ ρ' T g'->Q b H'
 | .error e=>W e ρ'
theorem EndT.err {Q:Bool->Hp->Prop} {r:Except D Bool} (h:EndT K G W σ T ρ' Q r):∀ x,r=.error x->W x ρ':=by
 intro x e;subst e;exact h
theorem tT.open {m:M3 Bool} {Q:Bool->Hp->Prop} (h:tT K G0 W0 m σ H Q):∃ G W,Le K G W G0 W0/\∃ ρ T g r ρ',Wf K G H σ ρ T g/\m ρ=some (r,ρ')/\EndT K G W σ T ρ' Q r:=by
 obtain ⟨G,W,le,ρ,T,g,r,ρ',w,e,q⟩:=h
 refine ⟨G,W,le,ρ,T,g,r,ρ',w,e,?_⟩
 cases r with
 | ok r=>exact q
 | error x=>exact q
theorem tT.use {m:M3 Bool} {Q:Bool->Hp->Prop} (h:tT K G0 W0 m σ H Q) {P:Prop} (k:∀ G W,Le K G W G0 W0->∀ ρ T g r ρ',Wf K G H σ ρ T g->m ρ=some (r,ρ')->EndT K G W σ T ρ' Q r->P):P:=by
 obtain ⟨G,W,le,ρ,T,g,r,ρ',w,e,q⟩:=h.open
 exact k G W le ρ T g r ρ' w e q
theorem tT.mk {m:M3 Bool} {Q:Bool->Hp->Prop} {r:Except D Bool} (le:Le K G W G0 W0) (w:Wf K G H σ ρ T g) (e:m ρ=some (r,ρ')) (h:EndT K G W σ T ρ' Q r):tT K G0 W0 m σ H Q:=by
 refine ⟨G,W,le,ρ,T,g,r,ρ',w,e,?_⟩
 cases r with
 | ok r=>exact h
 | error x=>exact h
noncomputable def cB (m:EM):M3 Bool:=ae m fun r=>ae (der r) fun d=>bo (asB d)
theorem AA {m:EM} {Q:Bool->Hp->Prop} (h:tT K G0 W0 (cB m) σ H Q):tB (tE K G0 W0 m) σ H Q:=by
 refine h.use fun G W le ρ T g o ρ' w e q=>?_
 refine tE.seq le w e q.err fun ra ρ1 e1 va H1 ⟨Ts,g1,w1,a1⟩=>?_
 obtain ⟨d,d1,e2⟩:=aX e1
 obtain ⟨b,hb,rfl,rfl⟩:=cg e2
 exact ⟨b,a1.bool w1 d1 hb,q _ _ (w1.sub (Cn Ts T))⟩
noncomputable def oj (a b:M3 Bool):M3 Bool:=ae a fun c=>if c then b else bx false
noncomputable def cOr (a b:M3 Bool):M3 Bool:=ae a fun c=>if c then bx true else b
noncomputable def i7 (a:M3 Bool):M3 Bool:=ae a fun c=>bx (!c)
theorem AB {a b:M3 Bool} {Q:Bool->Hp->Prop} (h:tT K G0 W0 (oj a b) σ H Q):tAnd (tT K G0 W0 a) (tT K G0 W0 b) σ H Q:=by
 refine h.use fun G W le ρ T g o ρ' w e q=>?_
 refine tT.seq le w e q.err fun c ρ1 e1 H1 g1 w1=>?_
 cases c with
 | true=>exact tT.mk le w1 e1 q
 | false=>cases e1;exact q _ _ w1
theorem tT_or {a b:M3 Bool} {Q:Bool->Hp->Prop} (h:tT K G0 W0 (cOr a b) σ H Q):tOr (tT K G0 W0 a) (tT K G0 W0 b) σ H Q:=by
 refine h.use fun G W le ρ T g o ρ' w e q=>?_
 refine tT.seq le w e q.err fun c ρ1 e1 H1 g1 w1=>?_
 cases c with
 | false=>exact tT.mk le w1 e1 q
 | true=>cases e1;exact q _ _ w1
theorem Az {a:M3 Bool} {Q:Bool->Hp->Prop} (h:tT K G0 W0 (i7 a) σ H Q):tNot (tT K G0 W0 a) σ H Q:=by
 refine h.use fun G W le ρ T g o ρ' w e q=>?_
 refine tT.seq le w e q.err fun c ρ1 e1 H1 g1 w1=>?_
 cases e1;exact q _ _ w1
end
end L3
end
section
namespace L3
open PySem L2
noncomputable def d5 (x:It3):It3:={ x with f:=.z }
theorem dg {x y:It3}:NoRoot (d5 x) y:=fun h=>absurd rfl h
noncomputable def lowAt (i:Nat) (ρ:Sto):Sto:=match (ρ[i]?).join with
 | some (d,.u)=>ρ.set i (some (d,.z))
 | some (d,.l)=>ρ.set i (some (d,.z))
 | _=>ρ
noncomputable def frz (is:List Nat) (ρ:Sto):Sto:=is.foldl (fun ρ i=>lowAt i ρ) ρ
noncomputable def frz3 (is:List Nat):M3 Unit:=fun ρ=>some (.ok (),frz is ρ)
noncomputable def pls:List R3->List Nat
 | []=>[]
 | .pl i :: rs=>i :: pls rs
 | .val _ _ :: rs=>pls rs
section
variable {K:FG} {G G0:Gm} {W W0:D->Sto->Prop} {H H':Hp} {σ:St} {ρ ρ':Sto} {T T':List It3} {g:Nat->Option It3} {x y z:It3} {α β:Type}
theorem ItOk.low (h:ItOk K G H x):ItOk K G H (d5 x):=⟨h.rep,fun q=>absurd rfl q,h.src⟩
theorem cn {ρ:Sto} {i j:Nat} {o:Option (D × Fl)} (hi:i < ρ.length):((ρ.set i o)[j]?).join=if j=i then o else (ρ[j]?).join:=by
 by_cases e:j=i
 ·subst e
  rw [if_pos rfl,List.getElem?_set_self hi]
  rfl
 ·rw [if_neg e,List.getElem?_set_ne (fun h=>e h.symm)]
theorem eG {ρ:Sto} {i:Nat} {p:D × Fl} (h:(ρ[i]?).join=some p):i < ρ.length:=by
 cases q:ρ[i]? with
 | none=>rw [q] at h;exact nsE h
 | some o=>exact (Cl.mp q).1
theorem Wf.lowSlot (w:Wf K G H σ ρ T g) {i:Nat} {d:D} {f:Fl} (e:(ρ[i]?).join=some (d,f)):Wf K G H σ (ρ.set i (some (d,.z))) T (fun j=>if j=i then (g i).map d5 else g j):=by
 have hi:=eG e
 obtain ⟨y,gy,ed,ef,ev⟩:=w.slot e
 have val:∀ j x,(if j=i then (g i).map d5 else g j)=some x->∃ x0,g j=some x0/\(x=x0\/x=d5 x0)/\(j=i->x=d5 x0):=fun j x h=>by
  by_cases q:j=i
  ·subst q
   rw [if_pos rfl,gy] at h
   cases h
   exact ⟨y,gy,.inr rfl,fun _=>rfl⟩
  ·rw [if_neg q] at h
   exact ⟨x,h,.inl rfl,fun z=>absurd z q⟩
 have nr:∀ {a b:It3},NoRoot a b->∀ a' b',(a'=a\/a'=d5 a)->(b'=b\/b'=d5 b)->NoRoot a' b':=fun h a' b' h1 h2=>by
  rcases h1 with rfl | rfl
  ·rcases h2 with rfl | rfl
   ·exact h
   ·exact h
  ·exact dg
 refine ⟨by rw [List.length_set];exact w.len,fun j=>?_,fun j x h=>?_,fun j x h=>?_,w.okT,fun j k a b n h1 h2=>?_,fun j a h b hb=>?_,w.tt,w.base,w.pro,⟨w.fx.frT,fun j x h hp hf a ea=>?_,w.fx.bin,w.fx.ob,fun j x h hl=>?_⟩⟩
 ·rw [cn hi]
  by_cases q:j=i
  ·subst q
   rw [if_pos rfl,if_pos rfl,gy]
   show some ((d5 y).d,Fl.z)=_
   rw [<- ed];rfl
  ·rw [if_neg q,if_neg q];exact w.sl j
 ·obtain ⟨x0,h0,hx,_⟩:=val j x h
  have:=w.sv j x0 h0
  rcases hx with rfl | rfl <;> exact this
 ·obtain ⟨x0,h0,hx,_⟩:=val j x h
  rcases hx with rfl | rfl
  ·exact w.okS j x h0
  ·exact (w.okS j x0 h0).low
 ·obtain ⟨a0,h0,ha,_⟩:=val j a h1
  obtain ⟨b0,h0',hb,_⟩:=val k b h2
  exact nr (w.ss j k a0 b0 n h0 h0') a b ha hb
 ·obtain ⟨a0,h0,ha,_⟩:=val j a h
  exact ⟨nr (w.st j a0 h0 b hb).1 a b ha (.inl rfl),nr (w.st j a0 h0 b hb).2 b a (.inl rfl) ha⟩
 ·obtain ⟨x0,h0,hx,_⟩:=val j x h
  rcases hx with rfl | rfl
  ·exact w.fx.frS j x h0 hp hf a ea
  ·exact absurd rfl hf
 ·obtain ⟨x0,h0,hx,_⟩:=val j x h
  rcases hx with rfl | rfl
  ·exact w.fx.lvS j x h0 hl
  ·cases hl
noncomputable def Kin (x y:It3):Prop:=y.d=x.d/\y.v=x.v/\y.L=x.L/\(y.f=x.f\/y.f=.z)
theorem Kin.refl (x:It3):Kin x x:=⟨rfl,rfl,rfl,.inl rfl⟩
theorem Kin.trans (a:Kin x y) (b:Kin y z):Kin x z:=⟨b.1.trans a.1,b.2.1.trans a.2.1,b.2.2.1.trans a.2.2.1,by
 rcases b.2.2.2 with h | h
 ·rcases a.2.2.2 with h' | h'
  ·exact .inl (h.trans h')
  ·exact .inr (h.trans h')
 ·exact .inr h⟩
theorem Wf.lowAt {i:Nat} (w:Wf K G H σ ρ T g):∃ g',Wf K G H σ (lowAt i ρ) T g'/\(∀ j y,g j=some y->∃ y',g' j=some y'/\Kin y y'/\(j=i->y'.f=.z)):=by
 have keep:∀ d,(ρ[i]?).join=some (d,.z)->∃ g',Wf K G H σ ρ T g'/\(∀ j y,g j=some y->∃ y',g' j=some y'/\Kin y y'/\(j=i->y'.f=.z)):=fun d e=>⟨g,w,fun j y h=>⟨y,h,Kin.refl y,fun q=>by
  subst q
  obtain ⟨y',h',_,hf,_⟩:=w.slot e
  rw [h] at h';cases h';exact hf⟩⟩
 have low:∀ d f,(ρ[i]?).join=some (d,f)->∃ g',Wf K G H σ (ρ.set i (some (d,.z))) T g'/\(∀ j y,g j=some y->∃ y',g' j=some y'/\Kin y y'/\(j=i->y'.f=.z)):=fun d f e=>⟨_,w.lowSlot e,fun j y h=>by
  by_cases q:j=i
  ·subst q;exact ⟨d5 y,by rw [if_pos rfl,h];rfl,⟨rfl,rfl,rfl,.inr rfl⟩,fun _=>rfl⟩
  ·exact ⟨y,by rw [if_neg q];exact h,Kin.refl y,fun z=>absurd z q⟩⟩
 unfold L3.lowAt
 cases e:(ρ[i]?).join with
 | none =>
  refine ⟨g,w,fun j y h=>⟨y,h,Kin.refl y,fun q=>?_⟩⟩
  subst q
  have:=w.sl j
  rw [h,e] at this;cases this
 | some p =>
  obtain ⟨d,f⟩:=p
  cases f with
  | u=>exact low d _ e
  | l=>exact low d _ e
  | z=>exact keep d e
theorem Wf.frz:∀ {is:List Nat} {ρ:Sto} {g:Nat->Option It3},Wf K G H σ ρ T g->∃ g',Wf K G H σ (frz is ρ) T g'/\(∀ j y,g j=some y->∃ y',g' j=some y'/\Kin y y'/\(j ∈ is->y'.f=.z))
 | [],ρ,g,w=>⟨g,w,fun j y h=>⟨y,h,Kin.refl y,fun q=>by cases q⟩⟩
 | i :: is,ρ,g,w=>by
  obtain ⟨g1,w1,h1⟩:=w.lowAt (i:=i)
  obtain ⟨g2,w2,h2⟩:=Wf.frz (is:=is) w1
  refine ⟨g2,w2,fun j y h=>?_⟩
  obtain ⟨y1,e1,k1,z1⟩:=h1 j y h
  obtain ⟨y2,e2,k2,z2⟩:=h2 j y1 e1
  refine ⟨y2,e2,k1.trans k2,fun hm=>?_⟩
  rcases Cf.mp hm with q | q
  ·rcases k2.2.2.2 with h | h
   ·exact h.trans (z1 q)
   ·exact h
  ·exact z2 q
theorem Wf.lowT {Ts:List It3} (w:Wf K G H σ ρ (Ts ++ T) g):Wf K G H σ ρ (Ts.map d5 ++ T) g:=by
 have sp:∀ {a b:It3},Apart3 a b->Apart3 (d5 a) (d5 b):=fun h=>⟨dg,dg⟩
 refine ⟨w.len,w.sl,w.sv,w.okS,fun x hx=>?_,w.ss,fun i x e y hy=>?_,?_,w.base,w.pro,⟨fun x hx hf a ea=>?_,w.fx.frS,w.fx.bin,w.fx.ob,w.fx.lvS⟩⟩
 ·rcases Ci.mp hx with h | h
  ·obtain ⟨x0,h0,rfl⟩:=Co.mp h
   exact (w.okT x0 (Cd _ h0)).low
  ·exact w.okT x (Ce _ h)
 ·rcases Ci.mp hy with h | h
  ·obtain ⟨y0,h0,rfl⟩:=Co.mp h
   exact ⟨(w.st i x e y0 (Cd _ h0)).1,dg⟩
  ·exact w.st i x e y (Ce _ h)
 ·have h:=List.pairwise_append.mp w.tt
  refine List.pairwise_append.mpr ⟨?_,h.2.1,fun a ha b hb=>?_⟩
  ·rw [List.pairwise_map]
   exact h.1.imp fun h=>sp h
  ·obtain ⟨a0,h0,rfl⟩:=Co.mp ha
   exact ⟨dg,(h.2.2 a0 h0 b hb).2⟩
 ·rcases Ci.mp hx with h | h
  ·obtain ⟨x0,h0,rfl⟩:=Co.mp h
   exact absurd rfl hf
  ·exact w.fx.frT x (Ce _ h) hf a ea
theorem kR:∀ {rs:List R3} {i:Nat},R3.pl i ∈ rs->i ∈ pls rs
 | [],_,h=>by cases h
 | .pl j :: rs,i,h=>by
  rcases Cf.mp h with e | h
  ·cases e;exact B8
  ·exact B9 _ (kR h)
 | .val _ _ :: rs,i,h=>by
  rcases Cf.mp h with e | h
  ·cases e
  ·exact kR (rs:=rs) h
theorem Ars.given:∀ {rs:List R3} {vs:List V} {Ts:List It3} {ds:List D} {S:List It3} {g':Nat->Option It3} {is:List Nat},Wf K G H σ ρ T g->(∀ j y,g j=some y->∃ y',g' j=some y'/\Kin y y'/\(j ∈ is->y'.f=.z))->(∀ i,R3.pl i ∈ rs->i ∈ is) ->
  Ars σ rs vs Ts->(∀ x ∈ Ts,x ∈ T)->(∀ x ∈ Ts,d5 x ∈ S)->gE rs ρ=some (.ok ds,ρ)->∃ ys:List It3,(∀ y ∈ ys,Itm S g' y/\y.f=.z)/\ys.map (·.d)=ds/\ys.map (·.v)=vs
 | [],_,_,ds,S,g',is,w,hg,hi,.nil,_,_,e=>by cases e;exact ⟨[],fun _ h=>(by cases h),rfl,rfl⟩
 | r :: rs,_,_,ds,S,g',is,w,hg,hi,.cons (v:=v0) a as,hs,hS,e=>by
  obtain ⟨d,e1,e2⟩:=aX (k:=fun d=>ae (gE rs) fun ds=>bx (d :: ds)) e
  obtain ⟨ds',e3,e4⟩:=dE e2
  cases e4
  obtain ⟨ys,i2,f3,f4⟩:=Ars.given w hg (fun i h=>hi i (B9 _ h)) as (fun x hx=>hs x (Cd _ hx)) (fun x hx=>hS x (Cd _ hx)) e3
  have one:∃ y,(Itm S g' y/\y.f=.z)/\y.d=d/\y.v=v0:=by
   cases a with
   | @pl i v h =>
    have er:der (.pl i) ρ=((ρ[i]?).join).map fun p=>(.ok p.1,ρ):=rfl
    rw [er] at e1
    cases q:(ρ[i]?).join with
    | none=>rw [q] at e1;exact nsE e1
    | some p =>
     rw [q] at e1
     obtain ⟨y,y1,y2,y3,y4⟩:=w.slot (d:=p.1) (f:=p.2) q
     obtain ⟨y',h1,h2,h3⟩:=hg i y y1
     have e5:p.1=d:=by cases e1;rfl
     rw [h] at y4
     refine ⟨y',⟨.inl ⟨i,h1⟩,h3 (hi i B8)⟩,h2.1.trans (y2.trans e5),?_⟩
     rw [h2.2.1];cases y4;rfl
   | val x=>cases e1;exact ⟨d5 x,⟨.inr (hS x (by simp)),rfl⟩,rfl,rfl⟩
  obtain ⟨y,i1,f1,f2⟩:=one
  refine ⟨y :: ys,fun z hz=>?_,by simp [f1,f3],by simp [f2,f4]⟩
  rcases Cf.mp hz with h | hz
  ·rw [h];exact i1
  ·exact i2 z hz
noncomputable def ee (ys:List It3) (c:Addr):Prop:=∃ y ∈ ys,c ∈ y.L
noncomputable def gives (rs:List R3):M3 (List D):=ae (gE rs) fun ds=>ae (frz3 (pls rs)) fun _=>bx ds
theorem Ars.gives {rs:List R3} {vs:List V} {Ts:List It3} {k:List D->M3 β} {r:Except D β} (w:Wf K G H σ ρ (Ts ++ T) g) (a:Ars σ rs vs Ts) (e:ae (gives rs) k ρ=some (r,ρ')) :
  ∃ ds ρ1 g1,k ds ρ1=some (r,ρ')/\ρ1=frz (pls rs) ρ/\Wf K G H σ ρ1 (Ts.map d5 ++ T) g1/\(∀ j y,g j=some y->∃ y',g1 j=some y'/\Kin y y')/\∃ ys:List It3,(∀ y ∈ ys,Itm (Ts.map d5 ++ T) g1 y/\y.f=.z)/\ys.map (·.d)=ds/\ys.map (·.v)=vs:=by
 unfold L3.gives at e
 have e0:ae (gE rs) (fun ds=>ae (frz3 (pls rs)) fun _=>k ds) ρ=some (r,ρ'):=by
  rw [<- e]
  unfold ae
  cases q:gE rs ρ with
  | none=>rfl
  | some p =>
   obtain ⟨o,ρ2⟩:=p
   cases o with
   | error x=>rfl
   | ok ds=>rfl
 obtain ⟨ds,d1,e1⟩:=dE e0
 obtain ⟨g1,w1,h1⟩:=Wf.frz (is:=pls rs) w
 refine ⟨ds,L3.frz (pls rs) ρ,g1,e1,rfl,w1.lowT,fun j y h=>let ⟨y',a,b,_⟩:=h1 j y h;⟨y',a,b⟩,?_⟩
 exact Ars.given w h1 (fun i h=>kR h) a (fun x hx=>Cd _ hx) (fun x hx=>Cd _ (Co.mpr ⟨x,hx,rfl⟩)) d1
theorem Wf.alls (w:Wf K G H σ ρ T g) {ys:List It3} (hy:∀ y ∈ ys,Itm T g y/\y.f=.z) {c:Addr} (h:ee ys c):eI T g c/\(G.H0 c=none\/G.src c):=by
 obtain ⟨y,m,hc⟩:=h
 exact ⟨w.kid (hy y m).1 hc fun hf=>absurd (hy y m).2 hf,(w.itm (hy y m).1).src c hc⟩
theorem Wf.doneA {Us:List It3} {ys:List It3} (w:Wf K G H σ ρ (Us ++ T) g) (hy:∀ y ∈ ys,Itm (Us ++ T) g y/\y.f=.z) (n:New K H H' (ee ys) x):Got K G σ ρ T (.val x.d x.f) x.v H' :=
 ⟨[x],g,(w.push n fun c h=>w.alls hy h).sub (by simpa using List.Sublist.cons_cons x (Cn Us T)),.val x⟩
theorem kO:∀ {ys:List It3},(∀ y ∈ ys,Rep K H y.d y.v y.L)->Reps (Rep K H) (ys.map (·.d)) (ys.map (·.v)) (ys.map (·.L)).flatten
 | [],_=>.nil
 | y :: ys,h=>.cons (h y B8) (kO fun z hz=>h z (B9 _ hz))
theorem fP {ys:List It3} {c:Addr} (h:c ∈ (ys.map (·.L)).flatten):ee ys c:=by
 obtain ⟨l,hl,hc⟩:=List.mem_flatten.mp h
 obtain ⟨y,hy,rfl⟩:=Co.mp hl
 exact ⟨y,hy,hc⟩
noncomputable def zr (mk:List D->D) (f:Fl) (ms:M3 (List R3)):EM:=ae ms fun rs=>ae (gives rs) fun ds=>bo (if ds.length<=16777216 then some (.val (mk ds) f) else none)
noncomputable abbrev bI:M3 (List R3)->EM:=zr .tup .z
noncomputable abbrev fW:M3 (List R3)->EM:=zr .lst .u
theorem bH {H:Hp} {p:Addr} {o:HO} (h:H p=none):Same H (upd H p o):=fun b u e=>by
 rw [aL (bz e h)];exact e
set_option tactic.hygienic true in
theorem AM (hz:(16777216:Nat)=sizeLine) {ms:M3 (List R3)} {Q:VK} (h:tE K G0 W0 (bI ms) σ H Q):tTup (tA K G0 W0 ms) σ H Q:=by
 refine h.use fun G W le ρ T g o ρ' w e q=>?_
 refine tA.seq le w e q.err fun rs ρ1 e1 vs H1 Ts g1 w1 a1=>?_
 obtain ⟨ds,ρ2,g2,e2,_,w2,_,ys,hy,f1,f2⟩:=a1.gives w1 e1
 obtain ⟨v,e3,rfl,rfl⟩:=cg e2
 subst f1 f2
 split at e3
 ·rename_i hl
  cases e3
  refine ⟨by rw [Ck] at hl ⊢;omega,fun p hp=>?_⟩
  refine q _ _ (Wf.doneA (x:=⟨.tup (ys.map (·.d)),.ref p,(ys.map (·.L)).flatten,.z⟩) w2 hy ⟨bH hp,.tup bh ((kO fun y hy'=>(w2.itm (hy y hy').1).rep).same (bH hp)),fun c hc=>.inr (fP hc),fun hf=>absurd rfl hf⟩)
 ·exact nsE e3
set_option tactic.hygienic true in
theorem AQ (hz:(16777216:Nat)=sizeLine) {ms:M3 (List R3)} {Q:VK} (h:tE K G0 W0 (fW ms) σ H Q):tLst (tA K G0 W0 ms) σ H Q:=by
 refine h.use fun G W le ρ T g o ρ' w e q=>?_
 refine tA.seq le w e q.err fun rs ρ1 e1 vs H1 Ts g1 w1 a1=>?_
 obtain ⟨ds,ρ2,g2,e2,_,w2,_,ys,hy,f1,f2⟩:=a1.gives w1 e1
 obtain ⟨v,e3,rfl,rfl⟩:=cg e2
 subst f1 f2
 split at e3
 ·rename_i hl
  cases e3
  refine ⟨by rw [Ck] at hl ⊢;omega,fun p hp=>?_⟩
  have np:p ∉ (ys.map (·.L)).flatten:=fun hc=>by
   obtain ⟨y,hm,hc⟩:=fP hc
   obtain ⟨o,ho⟩:=((w2.itm (hy y hm).1).rep.inH p hc).ex
   rw [hp] at ho;exact nsE ho
  refine q _ _ (Wf.doneA (x:=⟨.lst (ys.map (·.d)),.ref p,p :: (ys.map (·.L)).flatten,.u⟩) w2 hy ⟨bH hp,.lst bh ((kO fun y hy'=>(w2.itm (hy y hy').1).rep).same (bH hp)),fun c hc=>?_,fun _=>⟨rfl,p,_,rfl,rfl,np,hp⟩⟩)
  rcases Cf.mp hc with e | hc
  ·rw [e];exact .inl hp
  ·exact .inr (fP hc)
 ·exact nsE e3
end
end L3
end
section
namespace L3
open PySem L2
section
variable {K:FG} {G G0:Gm} {W W0:D->Sto->Prop} {H H':Hp} {σ:St} {ρ ρ':Sto} {T T':List It3} {g:Nat->Option It3} {x y z:It3} {α β:Type}
noncomputable def EndS (K:FG) (G:Gm) (W:D->Sto->Prop) (T:List It3) (ρ':Sto) (E:Ends):Except D Flw->Prop
 | .ok .nx=>∀ σ' H' g',Wf K G H' σ' ρ' T g'->E.nx σ' H'
 | .ok .br=>∀ σ' H' g',Wf K G H' σ' ρ' T g'->E.bk σ' H'
 | .ok .ct=>∀ σ' H' g',Wf K G H' σ' ρ' T g'->E.ct σ' H'
 | .ok (.rt d f)=>∀ x σ' H' g',Wf K G H' σ' ρ' (x :: T) g'->x.d=d->x.f=f->E.rt x.v H'
 | .error e=>W e ρ'
theorem EndS.err {E:Ends} {r:Except D Flw} (h:EndS K G W T ρ' E r):∀ x,r=.error x->W x ρ':=by
 intro x e;subst e;exact h
theorem tS.open {m:SM} {E:Ends} (h:tS K G0 W0 m E σ H):∃ G W,Le K G W G0 W0/\∃ ρ T g r ρ',Wf K G H σ ρ T g/\m ρ=some (r,ρ')/\EndS K G W T ρ' E r:=by
 obtain ⟨G,W,le,ρ,T,g,r,ρ',w,e,q⟩:=h
 refine ⟨G,W,le,ρ,T,g,r,ρ',w,e,?_⟩
 cases r with
 | ok r=>cases r <;> exact q
 | error x=>exact q
theorem tS.use {m:SM} {E:Ends} (h:tS K G0 W0 m E σ H) {P:Prop} (k:∀ G W,Le K G W G0 W0->∀ ρ T g r ρ',Wf K G H σ ρ T g->m ρ=some (r,ρ')->EndS K G W T ρ' E r->P):P:=by
 obtain ⟨G,W,le,ρ,T,g,r,ρ',w,e,q⟩:=h.open
 exact k G W le ρ T g r ρ' w e q
theorem tS.mk {m:SM} {E:Ends} {r:Except D Flw} (le:Le K G W G0 W0) (w:Wf K G H σ ρ T g) (e:m ρ=some (r,ρ')) (h:EndS K G W T ρ' E r):tS K G0 W0 m E σ H:=by
 refine ⟨G,W,le,ρ,T,g,r,ρ',w,e,?_⟩
 cases r with
 | ok r=>cases r <;> exact h
 | error x=>exact h
noncomputable def fg:SM:=bx .nx
noncomputable def aE (a b:SM):SM:=ae a fun f=>match f with
 | .nx=>b
 | o=>bx o
theorem AG {E:Ends} (h:tS K G0 W0 fg E σ H):zX E σ H:=by
 refine h.use fun G W le ρ T g r ρ' w e q=>?_
 cases e
 exact q _ _ _ w
theorem AE {a b:SM} {E:Ends} (h:tS K G0 W0 (aE a b) E σ H):tSeq (tS K G0 W0 a) (tS K G0 W0 b) E σ H:=by
 refine h.use fun G W le ρ T g r ρ' w e q=>?_
 unfold aE ae at e
 cases p:a ρ with
 | none=>rw [p] at e;exact nsE e
 | some p' =>
  obtain ⟨o,ρ1⟩:=p'
  rw [p] at e
  cases o with
  | error x=>cases e;exact tS.mk le w p q
  | ok f =>
   cases f with
   | nx=>exact tS.mk le (r:=.ok .nx) w p fun σ' H' g' w'=>tS.mk le w' e q
   | br=>cases e;exact tS.mk le w p q
   | ct=>cases e;exact tS.mk le w p q
   | rt d f=>cases e;exact tS.mk le w p q
noncomputable def gN (m:EM):SM:=ae m fun _=>bx .nx
theorem xK {m:EM} {E:Ends} (h:tS K G0 W0 (gN m) E σ H):zZ (tE K G0 W0 m) E σ H:=by
 refine h.use fun G W le ρ T g r ρ' w e q=>?_
 refine tE.seq le w e q.err fun ra ρ1 e1 v H1 ⟨Ts,g1,w1,a1⟩=>?_
 cases e1
 exact q _ _ _ (w1.sub (Cn Ts T))
noncomputable def sIf (c:M3 Bool) (a b:SM):SM:=ae c fun t=>if t then a else b
theorem tS_if {c:M3 Bool} {a b:SM} {E:Ends} (h:tS K G0 W0 (sIf c a b) E σ H):tIfS (tT K G0 W0 c) (tS K G0 W0 a) (tS K G0 W0 b) E σ H:=by
 refine h.use fun G W le ρ T g r ρ' w e q=>?_
 refine tT.seq le w e q.err fun t ρ1 e1 H1 g1 w1=>?_
 cases t with
 | true=>exact tS.mk le w1 e1 q
 | false=>exact tS.mk le w1 e1 q
noncomputable def nol:Fl->Fl
 | .u=>.u
 | _=>.z
theorem Bz (f:Fl):nol f ≠ .l:=by cases f <;> intro h <;> cases h
theorem By (f:Fl):nol f=f\/nol f=.z:=by cases f <;> first | exact .inl rfl | exact .inr rfl
noncomputable def gH (r:R3):M3 (D × Fl):=match r with
 | .val d f=>bx (d,nol f)
 | .pl i=>fun ρ=>((ρ[i]?).join).map fun p=>(.ok (p.1,.z),lowAt i ρ)
theorem oI {i:Nat}:gH (.pl i) ρ=((ρ[i]?).join).map fun p=>(.ok (p.1,.z),lowAt i ρ):=rfl
theorem Ar.val_inv {d:D} {f:Fl} {v:V} {Ts:List It3} (a:Ar σ (.val d f) v Ts):∃ x,Ts=[x]/\x.d=d/\x.f=f/\x.v=v:=by
 generalize h:R3.val d f=r at a
 cases a with
 | pl _=>cases h
 | val x=>cases h;exact ⟨x,rfl,rfl,rfl,rfl⟩
theorem Ar.take {r:R3} {v:V} {Ts:List It3} {k:D × Fl->M3 β} {o:Except D β} (w:Wf K G H σ ρ (Ts ++ T) g) (a:Ar σ r v Ts) (e:ae (gH r) k ρ=some (o,ρ')) :
  ∃ p ρ1 g1 x,k p ρ1=some (o,ρ')/\Wf K G H σ ρ1 (x :: T) g1/\x.d=p.1/\(p.2=x.f\/p.2=.z)/\p.2 ≠ .l/\x.v=v:=by
 cases a with
 | val x=>exact ⟨(x.d,nol x.f),ρ,g,x,e,w,rfl,By _,Bz _,rfl⟩
 | @pl i v h =>
  unfold ae at e
  rw [oI] at e
  cases q:(ρ[i]?).join with
  | none=>rw [q] at e;exact nsE e
  | some p =>
   rw [q] at e
   obtain ⟨y,y1,y2,y3,y4⟩:=w.slot (d:=p.1) (f:=p.2) q
   obtain ⟨g1,w1,h1⟩:=w.lowAt (i:=i)
   obtain ⟨y',z1,z2,z3⟩:=h1 i y y1
   have hz:=z3 rfl
   refine ⟨(p.1,.z),_,g1,y',e,?_,z2.1.trans y2,.inr rfl,(by intro h;cases h),?_⟩
   ·have nr:∀ u:It3,NoRoot y' u:=fun u hf=>absurd hz hf
    refine ⟨w1.len,w1.sl,w1.sv,w1.okS,fun u hu=>?_,w1.ss,fun j u eu u' hu=>?_,?_,w1.base,w1.pro,⟨fun u hu hf a ea=>?_,w1.fx.frS,w1.fx.bin,w1.fx.ob,w1.fx.lvS⟩⟩
    ·rcases Cf.mp hu with h | hu
     ·rw [h];exact w1.okS i y' z1
     ·exact w1.okT u hu
    ·rcases Cf.mp hu with h | hu
     ·rw [h]
      refine ⟨?_,nr _⟩
      by_cases ij:j=i
      ·subst ij
       rw [z1] at eu;cases eu
       exact nr _
      ·exact w1.ss j i u y' ij eu z1
     ·exact w1.st j u eu u' hu
    ·exact List.pairwise_cons.mpr ⟨fun u hu=>⟨nr _,(w1.st i y' z1 u hu).2⟩,w1.tt⟩
    ·rcases Cf.mp hu with h | hu
     ·rw [h] at hf;exact absurd hz hf
     ·exact w1.fx.frT u hu hf a ea
   ·rw [z2.2.1]
    rw [h] at y4;cases y4;rfl
theorem Wf.store {i:Nat} {f:Fl} (w:Wf K G H σ ρ (x :: T) g) (hi:i < ρ.length) (hp:G.pr i=false) (hf:f=x.f\/f=.z) (hnl:f ≠ .l) :
  Wf K G H (σ.set i (some x.v)) (ρ.set i (some (x.d,f))) T (fun j=>if j=i then some { x with f:=f } else g j):=by
 have hil:i < σ.length:=by rw [w.len];exact hi
 have tx:=List.pairwise_cons.mp w.tt
 have ox:=w.okT x B8
 have nx:∀ u:It3,NoRoot x u->NoRoot { x with f:=f } u:=fun u h q=>by
  rcases hf with e | e
  ·exact h (by rw [<- e];exact q)
  ·exact absurd e q
 have val:∀ j u,(if j=i then some { x with f:=f } else g j)=some u->(j=i/\u = { x with f:=f })\/(j ≠ i/\g j=some u):=fun j u h=>by
  by_cases q:j=i
  ·rw [if_pos q] at h;cases h;exact .inl ⟨q,rfl⟩
  ·rw [if_neg q] at h;exact .inr ⟨q,h⟩
 refine ⟨by rw [List.length_set,List.length_set];exact w.len,fun j=>?_,fun j u h=>?_,fun j u h=>?_,fun u hu=>w.okT u (B9 _ hu),fun j k a b n h1 h2=>?_,fun j a h b hb=>?_,tx.2,w.base,fun j hj=>?_,⟨fun u hu=>w.fx.frT u (B9 _ hu),fun j u h hpj hfu a ea=>?_,w.fx.bin,w.fx.ob,fun j u h hl=>?_⟩⟩
 ·rw [cn hi]
  by_cases q:j=i
  ·rw [if_pos q,if_pos q];rfl
  ·rw [if_neg q,if_neg q];exact w.sl j
 ·rcases val j u h with ⟨rfl,rfl⟩ | ⟨n,h⟩
  ·rw [List.getElem?_set_self hil]
  ·rw [List.getElem?_set_ne (fun z=>n z.symm)];exact w.sv j u h
 ·rcases val j u h with ⟨rfl,rfl⟩ | ⟨n,h⟩
  ·refine ⟨ox.rep,fun q=>?_,ox.src⟩
   rcases hf with e | e
   ·subst e
    exact ox.own q
   ·exact absurd e q
  ·exact w.okS j u h
 ·rcases val j a h1 with ⟨ej,ea⟩ | ⟨n1,h1'⟩
  ·rcases val k b h2 with ⟨ek,eb⟩ | ⟨n2,h2'⟩
   ·exact absurd (ej.trans ek.symm) n
   ·rw [ea];exact nx b (w.st k b h2' x B8).2
  ·rcases val k b h2 with ⟨ek,eb⟩ | ⟨n2,h2'⟩
   ·rw [eb];exact (w.st j a h1' x B8).1
   ·exact w.ss j k a b n h1' h2'
 ·rcases val j a h with ⟨rfl,rfl⟩ | ⟨n,h⟩
  ·exact ⟨nx b (tx.1 b hb).1,(tx.1 b hb).2⟩
  ·exact w.st j a h b (B9 _ hb)
 ·have n:j ≠ i:=fun z=>by subst z;rw [hp] at hj;cases hj
  rw [List.getElem?_set_ne (fun z=>n z.symm)];exact w.pro j hj
 ·rcases val j u h with ⟨_,rfl⟩ | ⟨n,h⟩
  ·rcases hf with e | e
   ·exact w.fx.frT x B8 (by rw [<- e];exact hfu) a ea
   ·exact absurd e hfu
  ·exact w.fx.frS j u h hpj hfu a ea
 ·rcases val j u h with ⟨_,rfl⟩ | ⟨n,h⟩
  ·exact absurd hl hnl
  ·exact w.fx.lvS j u h hl
noncomputable def aN (i:Nat) (m:EM):SM:=ae m fun r=>ae (gH r) fun p=>fun ρ=>if i < ρ.length then some (.ok .nx,ρ.set i (some p)) else none
set_option tactic.hygienic true in
theorem AD {i:Nat} {m:EM} {E:Ends} (hp:G0.pr i=false) (h:tS K G0 W0 (aN i m) E σ H):vf (tE K G0 W0 m) (si i) E σ H:=by
 refine h.use fun G W le ρ T g r ρ' w e q=>?_
 refine tE.seq le w e q.err fun ra ρ1 e1 v H1 ⟨Ts,g1,w1,a1⟩=>?_
 obtain ⟨p,ρ2,g2,x,e2,w2,f1,f2,f4,f3⟩:=a1.take w1 e1
 split at e2
 ·rename_i hi
  cases e2
  have:=w2.store (f:=p.2) hi (by rw [le.pr];exact hp) f2 f4
  rw [f1,f3] at this
  exact q _ _ _ this
 ·exact nsE e2
noncomputable def bG (np:Nat) (m:EM):SM:=ae m fun r=>match r with
 | .val d f=>bx (.rt d f)
 | .pl i=>fun ρ=>match (ρ[i]?).join with
  | some (d,.u)=>if i < np then some (.ok (.rt d .z),lowAt i ρ) else some (.ok (.rt d .u),ρ.set i none)
  | some (d,_)=>some (.ok (.rt d .z),lowAt i ρ)
  | none=>none
theorem Wf.move {i:Nat} (w:Wf K G H σ ρ T g) (hp:G.pr i=false) (e:g i=some y):Wf K G H σ (ρ.set i none) (y :: T) (fun j=>if j=i then none else g j):=by
 have hi:i < ρ.length:=by
  have:=w.sl i
  rw [e] at this
  exact eG this.symm
 have val:∀ j u,(if j=i then none else g j)=some u->j ≠ i/\g j=some u:=fun j u h=>by
  by_cases q:j=i
  ·rw [if_pos q] at h;exact nsE h
  ·rw [if_neg q] at h;exact ⟨q,h⟩
 refine ⟨by rw [List.length_set];exact w.len,fun j=>?_,fun j u h=>w.sv j u (val j u h).2,fun j u h=>w.okS j u (val j u h).2,fun u hu=>?_,fun j k a b n h1 h2=>w.ss j k a b n (val j a h1).2 (val k b h2).2,fun j a h b hb=>?_,?_,w.base,w.pro,⟨fun u hu hf a ea=>?_,fun j u h=>w.fx.frS j u (val j u h).2,w.fx.bin,w.fx.ob,fun j u h=>w.fx.lvS j u (val j u h).2⟩⟩
 ·rw [cn hi]
  by_cases q:j=i
  ·rw [if_pos q,if_pos q];rfl
  ·rw [if_neg q,if_neg q];exact w.sl j
 ·rcases Cf.mp hu with h | hu
  ·rw [h];exact w.okS i y e
  ·exact w.okT u hu
 ·obtain ⟨n,h⟩:=val j a h
  rcases Cf.mp hb with h' | hb
  ·rw [h'];exact ⟨w.ss j i a y n h e,w.ss i j y a (Ne.symm n) e h⟩
  ·exact w.st j a h b hb
 ·exact List.pairwise_cons.mpr ⟨fun u hu=>w.st i y e u hu,w.tt⟩
 ·rcases Cf.mp hu with h | hu
  ·subst h;exact w.fx.frS i u e hp hf a ea
  ·exact w.fx.frT u hu hf a ea
theorem AF {np:Nat} {m:EM} {E:Ends} (hnp:∀ i,np<=i->G0.pr i=false) (h:tS K G0 W0 (bG np m) E σ H):tRet (tE K G0 W0 m) E σ H:=by
 refine h.use fun G W le ρ T g r ρ' w e q=>?_
 refine tE.seq le w e q.err fun ra ρ1 e1 v H1 ⟨Ts,g1,w1,a1⟩=>?_
 have low:∀ {i:Nat} {d:D} {f:Fl},(ρ1[i]?).join=some (d,f)->some ((.ok (.rt d .z),lowAt i ρ1):Except D Flw × Sto)=some (r,ρ')->Ar σ (.pl i) v Ts->E.rt v H1:=fun {i d f} ej e2 a=>by
  cases e2
  have e3:ae (gH (.pl i)) (fun p=>bx (Flw.rt p.1 p.2)) ρ1=some (.ok (.rt d .z),L3.lowAt i ρ1):=by
   unfold ae
   rw [oI,ej]
   rfl
  obtain ⟨p,ρ2,g2,x,e4,w2,f1,f2,_,f3⟩:=a.take w1 e3
  have e5:Flw.rt p.1 p.2=Flw.rt d .z/\ρ2=L3.lowAt i ρ1:=by
   unfold bx at e4
   injection e4 with e4
   injection e4 with e5 e6
   injection e5 with e5
   exact ⟨e5,e6⟩
  obtain ⟨e5,e6⟩:=e5
  injection e5 with e7 e8
  subst e6
  rw [<- f3]
  have w3:=Wf.lowT (Ts:=[x]) w2
  exact q (d5 x) σ H1 g2 w3 (f1.trans e7) rfl
 cases a1 with
 | val x=>cases e1;exact q x σ H1 g1 w1 rfl rfl
 | @pl i v h =>
  dsimp only at e1
  cases ej:(ρ1[i]?).join with
  | none=>rw [ej] at e1;exact nsE e1
  | some p =>
   obtain ⟨d,f⟩:=p
   rw [ej] at e1
   cases f with
   | u =>
    dsimp only at e1
    split at e1
    ·exact low ej e1 (.pl h)
    ·cases e1
     obtain ⟨y,y1,y2,y3,y4⟩:=w1.slot ej
     have w2:=Wf.move w1 (by rw [le.pr];exact hnp i (by omega)) y1
     have:=q y σ H1 _ w2 y2 y3
     rw [h] at y4
     cases y4
     exact this
   | l=>exact low ej e1 (.pl h)
   | z=>exact low ej e1 (.pl h)
noncomputable def cy (c:M3 Bool) (b:SM):Nat->SM
 | 0=>fun _=>none
 | n+1=>ae c fun t=>if t then ae b (fun f=>match f with
   | .nx=>cy c b n
   | .ct=>cy c b n
   | .br=>bx .nx
   | .rt d f=>bx (.rt d f)) else bx .nx
noncomputable def cM (c:M3 Bool) (b:SM):SM:=fun ρ=>open Classical in if h:∃ n r,cy c b n ρ=some r then some (Classical.choose (Classical.choose_spec h)) else none
theorem gJ {c:M3 Bool} {b:SM}:∀ {n:Nat} {ρ:Sto} {r:Except D Flw × Sto},cy c b n ρ=some r->cy c b (n+1) ρ=some r
 | 0,ρ,r,e=>by cases e
 | n+1,ρ,r,e=>by
  unfold cy at e ⊢
  unfold ae at e ⊢
  cases h:c ρ with
  | none=>rw [h] at e;exact nsE e
  | some p =>
   obtain ⟨o,ρ1⟩:=p
   rw [h] at e
   cases o with
   | error x=>exact e
   | ok t =>
    cases t with
    | false=>exact e
    | true =>
     simp only [if_true] at e ⊢
     cases h2:b ρ1 with
     | none=>rw [h2] at e;exact nsE e
     | some p2 =>
      obtain ⟨o2,ρ2⟩:=p2
      rw [h2] at e
      cases o2 with
      | error x=>exact e
      | ok f =>
       cases f with
       | nx=>exact gJ (n:=n) e
       | ct=>exact gJ (n:=n) e
       | br=>exact e
       | rt d f=>exact e
theorem jI {c:M3 Bool} {b:SM} {n m:Nat} {ρ:Sto} {r:Except D Flw × Sto} (h:n<=m) (e:cy c b n ρ=some r):cy c b m ρ=some r:=by
 induction h with
 | refl=>exact e
 | step _ ih=>exact gJ ih
set_option tactic.hygienic true in
theorem oO {c:M3 Bool} {b:SM} {ρ:Sto} {r:Except D Flw × Sto} (e:cM c b ρ=some r):∃ n,cy c b n ρ=some r:=by
 unfold cM at e
 split at e
 ·rename_i h
  have e2:=Classical.choose_spec (Classical.choose_spec h)
  injection e with e
  exact ⟨Classical.choose h,by rw [<- e];exact e2⟩
 ·exact nsE e
theorem u8 {c:M3 Bool} {b:SM} {E:Ends} (h:tS K G0 W0 (cM c b) E σ H):u7 (tT K G0 W0 c) (tS K G0 W0 b) E σ H:=by
 refine h.use fun G W le ρ T g r ρ' w e q=>?_
 obtain ⟨n,e⟩:=oO e
 refine ⟨fun m σ H=>∃ ρ g,Wf K G H σ ρ T g/\cy c b m ρ=some (r,ρ'),⟨n,ρ,g,w,e⟩,?_⟩
 rintro m σ1 H1 ⟨ρ1,g1,w1,e1⟩
 cases m with
 | zero=>exact nsE e1
 | succ m =>
  unfold cy at e1
  refine tT.seq le w1 e1 q.err fun t ρ2 e2 H2 g2 w2=>?_
  cases t with
  | false=>cases e2;exact q _ _ _ w2
  | true =>
   refine ⟨fun σ H=>∃ ρ g,Wf K G H σ ρ T g/\cy c b m ρ=some (r,ρ'),fun σ' H' h=>⟨m,Nat.lt_succ_self m,h⟩,?_⟩
   simp only [if_true] at e2
   unfold ae at e2
   cases p:b ρ2 with
   | none=>rw [p] at e2;exact nsE e2
   | some p2 =>
    obtain ⟨o,ρ3⟩:=p2
    rw [p] at e2
    cases o with
    | error x=>cases e2;exact tS.mk le w2 p q
    | ok f =>
     cases f with
     | nx=>exact tS.mk le (r:=.ok .nx) w2 p fun σ' H' g' w'=>⟨ρ3,g',w',e2⟩
     | ct=>exact tS.mk le (r:=.ok .ct) w2 p fun σ' H' g' w'=>⟨ρ3,g',w',e2⟩
     | br=>cases e2;exact tS.mk le (r:=.ok .br) w2 p q
     | rt d f=>cases e2;exact tS.mk le (r:=.ok (.rt d f)) w2 p q
end
end L3
end
section
namespace L3
open PySem L2
noncomputable abbrev Fn:=List (D × Fl)->Option (Except D (D × Fl) × List (D × Fl))
noncomputable def prs (ρ:Sto):List R3->Option (List (D × Fl))
 | []=>some []
 | .pl i :: rs=>match (ρ[i]?).join,prs ρ rs with
  | some p,some ps=>some (p :: ps)
  | _,_=>none
 | .val d f :: rs=>match prs ρ rs with
  | some ps=>some ((d,f) :: ps)
  | _=>none
noncomputable def pI (rs:List R3):List Nat:=(pls rs).filter fun i=>decide (2<=(pls rs).count i)
noncomputable def back:List R3->List (D × Fl)->List (D × Fl)->Sto->Sto
 | .pl i :: rs,p :: ps,q :: qs,ρ=>back rs ps qs (if p.2=.z then ρ else ρ.set i (some (q.1,if q.2=.z then .z else p.2)))
 | .val _ _ :: rs,_ :: ps,_ :: qs,ρ=>back rs ps qs ρ
 | _,_,_,ρ=>ρ
section
variable {K:FG} {G G0:Gm} {W W0:D->Sto->Prop} {H H':Hp} {σ:St} {ρ ρ':Sto} {T T':List It3} {g:Nat->Option It3} {x y z:It3} {α β:Type}
structure Back1 (K:FG) (H H':Hp) (ps:List It3) (p q:It3):Prop where
 z:p.f=.z->q=p
 v:q.v=p.v
 f:q.f=p.f\/q.f=.z
 arg:Arg K H' q
 src:∀ c ∈ q.L,H c=none\/ee ps c
 there:p.f=.u->∀ b,p.v=.ref b->∃ o,H' b=some o
structure BehindX (K:FG) (H H':Hp) (ps qs:List It3):Prop where
 frame:∀ b o,H b=some o->(∀ p ∈ ps,p.f=.u->p.v ≠ .ref b)->H' b=some o
 back:Paired (Back1 K H H' ps) ps qs
 apart:qs.Pairwise Apart3
structure Behind (K:FG) (H H':Hp) (ps qs:List It3) (x:It3):Prop extends BehindX K H H' ps qs where
 rep:Rep K H' x.d x.v x.L
 own:x.f ≠ .z->jw x.d=true/\∃ a L',x.v=.ref a/\x.L=a :: L'/\a ∉ L'/\H a=none
 src:∀ c ∈ x.L,H c=none\/ee ps c
 apx:∀ q ∈ qs,Apart3 x q
theorem Ars.args:∀ {rs:List R3} {vs:List V} {Ts T:List It3} {pfs:List (D × Fl)},Ars σ rs vs Ts->Wf K G H σ ρ (Ts ++ T) g->(∀ i,2<=(pls rs).count i->∀ y,g i=some y->y.f=.z)->prs ρ rs=some pfs ->
  ∃ ps:List It3,ps.map (fun p=>(p.d,p.f))=pfs/\ps.map (·.v)=vs/\ps.Pairwise Apart3/\(∀ p ∈ ps,(∃ i,R3.pl i ∈ rs/\g i=some p)\/p ∈ Ts)/\Paired (fun r p=>match r with | .pl i=>g i=some p | .val _ _=>p ∈ Ts) rs ps
 | [],_,_,T,pfs,.nil,w,_,e=>by cases e;exact ⟨[],rfl,rfl,.nil,fun _ h=>(by cases h),.nil⟩
 | r :: rs,_,_,T,pfs,.cons (v:=v0) (Ts:=T0) (Us:=U0) a as,w,hd,e=>by
  have wt:Wf K G H σ ρ (U0 ++ (T0 ++ T)) g:=by rw [<- List.append_assoc];exact w
  have hd':∀ i,2<=(pls rs).count i->∀ y,g i=some y->y.f=.z:=fun i hc=>hd i (by
   cases r with
   | pl j=>show 2<=(j :: pls rs).count i;rw [List.count_cons];omega
   | val _ _=>exact hc)
  cases a with
  | @pl i v h =>
   unfold prs at e
   cases q:(ρ[i]?).join with
   | none=>rw [q] at e;exact nsE e
   | some p0 =>
    cases q2:prs ρ rs with
    | none=>rw [q,q2] at e;exact nsE e
    | some pfs' =>
     rw [q,q2] at e
     cases e
     obtain ⟨ps,f1,f2,f3,f4,f5⟩:=Ars.args as wt hd' q2
     obtain ⟨y,y1,y2,y3,y4⟩:=w.slot (d:=p0.1) (f:=p0.2) q
     have hv:y.v=v0:=by rw [h] at y4;cases y4;rfl
     refine ⟨y :: ps,by rw [Cu,f1,y2,y3],by rw [Cu,f2,hv],List.pairwise_cons.mpr ⟨fun p hp=>?_,f3⟩,fun p hp=>?_,.cons y1 ?_⟩
     ·rcases f4 p hp with ⟨j,hj,ej⟩ | hp
      ·by_cases ij:i=j
       ·subst ij
        have hc:2<=(pls (R3.pl i :: rs)).count i:=by
         show 2<=(i :: pls rs).count i
         rw [List.count_cons_self]
         have:=List.count_pos_iff.mpr (kR hj)
         omega
        have hz:=hd i hc y y1
        have hz':=hd i hc p ej
        exact ⟨fun q=>absurd hz q,fun q=>absurd hz' q⟩
       ·exact ⟨w.ss i j y p ij y1 ej,w.ss j i p y (Ne.symm ij) ej y1⟩
      ·exact w.st i y y1 p (Cd _ (Cd _ hp))
     ·rcases Cf.mp hp with h' | hp
      ·rw [h'];exact .inl ⟨i,B8,y1⟩
      ·rcases f4 p hp with ⟨j,hj,ej⟩ | hp
       ·exact .inl ⟨j,B9 _ hj,ej⟩
       ·exact .inr (Cd _ hp)
     ·exact Paired.mapP f5 fun r p h=>by
       cases r with
       | pl j=>exact h
       | val _ _=>exact Cd _ h
  | val x =>
   unfold prs at e
   cases q2:prs ρ rs with
   | none=>rw [q2] at e;exact nsE e
   | some pfs' =>
    rw [q2] at e
    cases e
    obtain ⟨ps,f1,f2,f3,f4,f5⟩:=Ars.args as wt hd' q2
    refine ⟨x :: ps,by rw [Cu,f1],by rw [Cu,f2],List.pairwise_cons.mpr ⟨fun p hp=>?_,f3⟩,fun p hp=>?_,.cons (Ce _ B8) ?_⟩
    ·rcases f4 p hp with ⟨j,hj,ej⟩ | hp
     ·exact (w.st j p ej x (Cd _ (Ce _ B8))).symm
     ·have t1:=(List.pairwise_append.mp w.tt).1
      exact ((List.pairwise_append.mp t1).2.2 p hp x B8).symm
    ·rcases Cf.mp hp with h' | hp
     ·rw [h'];exact .inr (Ce _ B8)
     ·rcases f4 p hp with ⟨j,hj,ej⟩ | hp
      ·exact .inl ⟨j,B9 _ hj,ej⟩
      ·exact .inr (Cd _ hp)
    ·exact Paired.mapP f5 fun r p h=>by
      cases r with
      | pl j=>exact h
      | val _ _=>exact Cd _ h
theorem gF:∀ {rs:List R3} {ps qs:List It3} {ρ:Sto} {g:Nat->Option It3},(∀ j,(g j).map (fun x=>(x.d,x.f))=(ρ[j]?).join)->rs.length=ps.length->Paired (Back1 K H H' T) ps qs->(∀ i,R3.pl i ∈ rs->i < ρ.length) ->
  ∃ g':Nat->Option It3,(∀ j,(g' j).map (fun x=>(x.d,x.f))=((back rs (ps.map fun p=>(p.d,p.f)) (qs.map fun q=>(q.d,q.f)) ρ)[j]?).join)/\(back rs (ps.map fun p=>(p.d,p.f)) (qs.map fun q=>(q.d,q.f)) ρ).length = ρ.length /\
   ∀ j:Nat,(g' j=g j/\∀ (k:Nat) (p:It3),rs[k]?=some (R3.pl j)->ps[k]?=some p->p.f=.z)\/∃ (k:Nat) (p q:It3),rs[k]?=some (R3.pl j)/\ps[k]?=some p/\qs[k]?=some q/\p.f ≠ .z/\g' j=some q
 | [],[],_,ρ,g,hg,_,.nil,_=>⟨g,hg,rfl,fun j=>.inl ⟨rfl,fun k p h=>by simp at h⟩⟩
 | [],_ :: _,_,_,_,_,h,_,_=>by cases h
 | _ :: _,[],_,_,_,_,h,_,_=>by cases h
 | .val d f :: rs,p :: ps,_,ρ,g,hg,hl,.cons (b:=q) (l₂:=qs) b1 bs,hi=>by
  obtain ⟨g',h1,h2,h3⟩:=gF (rs:=rs) hg (by simpa using hl) bs fun i h=>hi i (B9 _ h)
  refine ⟨g',h1,h2,fun j=>?_⟩
  rcases h3 j with ⟨e,h⟩ | ⟨k,p',q',a1,a2,a3,a4⟩
  ·refine .inl ⟨e,fun k p' e1 e2=>?_⟩
   cases k with
   | zero=>simp at e1
   | succ k=>exact h k p' (by simpa using e1) (by simpa using e2)
  ·exact .inr ⟨k+1,p',q',by simpa using a1,by simpa using a2,by simpa using a3,a4⟩
 | .pl i :: rs,p :: ps,_,ρ,g,hg,hl,.cons (b:=q) (l₂:=qs) b1 bs,hi=>by
  have hil:=hi i B8
  by_cases hz:p.f=.z
  ·have eb:back (.pl i :: rs) ((p :: ps).map fun p=>(p.d,p.f)) ((q :: qs).map fun q=>(q.d,q.f)) ρ=back rs (ps.map fun p=>(p.d,p.f)) (qs.map fun q=>(q.d,q.f)) ρ:=by
    show back rs _ _ (if p.f=.z then ρ else _)=_
    rw [if_pos hz]
   rw [eb]
   obtain ⟨g',h1,h2,h3⟩:=gF (rs:=rs) hg (by simpa using hl) bs fun i h=>hi i (B9 _ h)
   refine ⟨g',h1,h2,fun j=>?_⟩
   rcases h3 j with ⟨e,h⟩ | ⟨k,p',q',a1,a2,a3,a4⟩
   ·refine .inl ⟨e,fun k p' e1 e2=>?_⟩
    cases k with
    | zero=>simp at e2;rw [<- e2];exact hz
    | succ k=>exact h k p' (by simpa using e1) (by simpa using e2)
   ·exact .inr ⟨k+1,p',q',by simpa using a1,by simpa using a2,by simpa using a3,a4⟩
  ·have eb:back (.pl i :: rs) ((p :: ps).map fun p=>(p.d,p.f)) ((q :: qs).map fun q=>(q.d,q.f)) ρ=back rs (ps.map fun p=>(p.d,p.f)) (qs.map fun q=>(q.d,q.f)) (ρ.set i (some (q.d,q.f))):=by
    show back rs _ _ (if p.f=.z then ρ else ρ.set i (some (q.d,if q.f=.z then .z else p.f)))=_
    rw [if_neg hz]
    have:(if q.f=.z then Fl.z else p.f)=q.f:=by
     by_cases h:q.f=.z
     ·rw [if_pos h,h]
     ·rw [if_neg h]
      rcases b1.f with h' | h'
      ·exact h'.symm
      ·exact absurd h' h
    rw [this]
   rw [eb]
   obtain ⟨g',h1,h2,h3⟩:=gF (rs:=rs) (ρ:=ρ.set i (some (q.d,q.f))) (g:=fun j=>if j=i then some q else g j) (fun j=>by
    rw [cn hil]
    by_cases e:j=i
    ·rw [if_pos e,if_pos e];rfl
    ·rw [if_neg e,if_neg e];exact hg j) (by simpa using hl) bs fun i h=>by rw [List.length_set];exact hi i (B9 _ h)
   refine ⟨g',h1,by rw [h2,List.length_set],fun j=>?_⟩
   rcases h3 j with ⟨e,h⟩ | ⟨k,p',q',a1,a2,a3,a4⟩
   ·by_cases ej:j=i
    ·rw [if_pos ej] at e
     exact .inr ⟨0,p,q,by simp [ej],rfl,rfl,hz,e⟩
    ·rw [if_neg ej] at e
     refine .inl ⟨e,fun k p' e1 e2=>?_⟩
     cases k with
     | zero=>simp at e1;exact absurd e1.symm ej
     | succ k=>exact h k p' (by simpa using e1) (by simpa using e2)
   ·exact .inr ⟨k+1,p',q',by simpa using a1,by simpa using a2,by simpa using a3,a4⟩
theorem nG:∀ {rs:List R3} {pfs:List (D × Fl)},prs ρ rs=some pfs->rs.length=pfs.length
 | [],pfs,e=>by cases e;rfl
 | .pl i :: rs,pfs,e=>by
  unfold prs at e
  cases q:(ρ[i]?).join with
  | none=>rw [q] at e;exact nsE e
  | some p =>
   cases q2:prs ρ rs with
   | none=>rw [q,q2] at e;exact nsE e
   | some ps=>rw [q,q2] at e;cases e;rw [CC,CC,nG q2]
 | .val d f :: rs,pfs,e=>by
  unfold prs at e
  cases q2:prs ρ rs with
  | none=>rw [q2] at e;exact nsE e
  | some ps=>rw [q2] at e;cases e;rw [CC,CC,nG q2]
theorem qx:∀ {rs:List R3} {pfs:List (D × Fl)},prs ρ rs=some pfs->∀ i,R3.pl i ∈ rs->i < ρ.length
 | [],pfs,e,i,h=>by cases h
 | .pl i :: rs,pfs,e,j,h=>by
  unfold prs at e
  cases q:(ρ[i]?).join with
  | none=>rw [q] at e;exact nsE e
  | some p =>
   cases q2:prs ρ rs with
   | none=>rw [q,q2] at e;exact nsE e
   | some ps =>
    rcases Cf.mp h with h | h
    ·cases h;exact eG q
    ·exact qx q2 j h
 | .val d f :: rs,pfs,e,j,h=>by
  unfold prs at e
  cases q2:prs ρ rs with
  | none=>rw [q2] at e;exact nsE e
  | some ps =>
   rcases Cf.mp h with h | h
   ·cases h
   ·exact qx q2 j h
theorem Paired.at {α β:Type} {F:α->β->Prop}:∀ {l:List α} {m:List β} {k:Nat} {a:α} {b:β},Paired F l m->l[k]?=some a->m[k]?=some b->F a b
 | _,_,_,_,_,.nil,h,_=>by simp at h
 | _,_,0,_,_,.cons r _,h,h'=>by simp at h h';subst h h';exact r
 | _,_,k+1,_,_,.cons _ t,h,h'=>Paired.at (k:=k) t (by simpa using h) (by simpa using h')
theorem Paired.exL {α β:Type} {F:α->β->Prop}:∀ {l:List α} {m:List β} {k:Nat} {a:α},Paired F l m->l[k]?=some a->∃ b,m[k]?=some b/\F a b
 | _,_,_,_,.nil,h=>by simp at h
 | _,_,0,_,.cons r _,h=>by simp at h;subst h;exact ⟨_,rfl,r⟩
 | _,_,k+1,_,.cons _ t,h=>let ⟨b,h1,h2⟩:=Paired.exL (k:=k) t (by simpa using h);⟨b,by simpa using h1,h2⟩
theorem Paired.exR {α β:Type} {F:α->β->Prop}:∀ {l:List α} {m:List β} {k:Nat} {b:β},Paired F l m->m[k]?=some b->∃ a,l[k]?=some a/\F a b
 | _,_,_,_,.nil,h=>by simp at h
 | _,_,0,_,.cons r _,h=>by simp at h;subst h;exact ⟨_,rfl,r⟩
 | _,_,k+1,_,.cons _ t,h=>let ⟨b,h1,h2⟩:=Paired.exR (k:=k) t (by simpa using h);⟨b,by simpa using h1,h2⟩
theorem dO {α:Type} {R:α->α->Prop} {l:List α} (p:l.Pairwise R) (hs:∀ a b,R a b->R b a) {i j:Nat} {a b:α} (n:i ≠ j) (ha:l[i]?=some a) (hb:l[j]?=some b):R a b:=by
 obtain ⟨h1,e1⟩:=Cl.mp ha
 obtain ⟨h2,e2⟩:=Cl.mp hb
 have q:=List.pairwise_iff_getElem.mp p
 rcases Nat.lt_or_ge i j with h | h
 ·rw [<- e1,<- e2];exact q i j h1 h2 h
 ·rw [<- e1,<- e2];exact hs _ _ (q j i h2 h1 (by omega))
theorem Wf.after {rs:List R3} {Ts ps qs:List It3} {pfs:List (D × Fl)} (w:Wf K G H σ ρ (Ts ++ T) g) (e:prs ρ rs=some pfs) (f1:ps.map (fun p=>(p.d,p.f))=pfs)
  (f4:∀ p ∈ ps,(∃ i,R3.pl i ∈ rs/\g i=some p)\/p ∈ Ts) (f5:Paired (fun r p=>match r with | .pl i=>g i=some p | .val _ _=>p ∈ Ts) rs ps) (B:BehindX K H H' ps qs) :
  ∃ g',Wf K G H' σ (L3.back rs pfs (qs.map fun q=>(q.d,q.f)) ρ) T g' /\
   ∀ x,Rep K H' x.d x.v x.L->(x.f ≠ .z->jw x.d=true/\∃ a L',x.v=.ref a/\x.L=a :: L'/\a ∉ L'/\H a=none)->(∀ c ∈ x.L,H c=none\/ee ps c)->(∀ q ∈ qs,Apart3 x q)->Wf K G H' σ (L3.back rs pfs (qs.map fun q=>(q.d,q.f)) ρ) (x :: T) g':=by
 subst f1
 have hl:rs.length=ps.length:=by have:=nG e;rwa [Ck] at this
 obtain ⟨g',h1,h2,h3⟩:=gF (K:=K) (H:=H) (H':=H') (T:=ps) (rs:=rs) (ps:=ps) (qs:=qs) w.sl hl B.back (qx e)
 have hps:∀ p ∈ ps,Itm (Ts ++ T) g p:=fun p hp=>by
  rcases f4 p hp with ⟨i,_,ei⟩ | h
  ·exact .inl ⟨i,ei⟩
  ·exact .inr (Cd _ h)
 have dom:∀ b o,H b=some o->∃ o',H' b=some o':=fun b o hb=>by
  by_cases h:∀ p ∈ ps,p.f=.u->p.v ≠ .ref b
  ·exact ⟨o,B.frame b o hb h⟩
  ·have h':∃ p,p ∈ ps/\p.f=.u/\p.v=.ref b:=by
    refine Classical.byContradiction fun n=>h fun p hp hf hv=>n ⟨p,hp,hf,hv⟩
   obtain ⟨p,hp,hf,hv⟩:=h'
   obtain ⟨k,hk,ek⟩:=List.mem_iff_getElem.mp hp
   obtain ⟨q,e1,b1⟩:=Paired.exL B.back (show ps[k]?=some p by rw [Cg hk,ek])
   exact b1.there hf b hv
 have ka:∀ j z,g j=some z->(∀ (k:Nat) (p:It3),rs[k]?=some (R3.pl j)->ps[k]?=some p->p.f=.z)->∀ p ∈ ps,Apart3 p z:=fun j z ej hu p hp=>by
  rcases f4 p hp with ⟨i,hi,ei⟩ | h
  ·by_cases ij:i=j
   ·subst ij
    have epz:p=z:=CV (ei.symm.trans ej)
    subst epz
    have hz:p.f=.z:=by
     obtain ⟨k,hk,ek⟩:=List.mem_iff_getElem.mp hi
     have ek':rs[k]?=some (R3.pl i):=by rw [Cg hk,ek]
     obtain ⟨p',e1,e2⟩:=Paired.exL f5 ek'
     have e2:g i=some p':=e2
     rw [ei] at e2
     cases e2
     exact hu k p ek' e1
    exact ⟨fun q=>absurd hz q,fun q=>absurd hz q⟩
   ·exact ⟨w.ss i j p z ij ei ej,w.ss j i z p (Ne.symm ij) ej ei⟩
  ·exact (w.st j z ej p (Cd _ h)).symm
 have kt:∀ z ∈ T,∀ p ∈ ps,Apart3 p z:=fun z hz p hp=>by
  rcases f4 p hp with ⟨i,hi,ei⟩ | h
  ·exact w.st i p ei z (Ce _ hz)
  ·exact (List.pairwise_append.mp w.tt).2.2 p h z hz
 have keep:∀ z,ItOk K G H z->(∀ p ∈ ps,Apart3 p z)->ItOk K G H' z:=fun z oz az=>by
  refine oz.keep (M:=fun b=>∃ p ∈ ps,p.f=.u/\p.v=.ref b) (fun b o hb n=>B.frame b o hb fun p hp hf hv=>n ⟨p,hp,hf,hv⟩) (fun b ⟨p,hp,hf,hv⟩=>?_) (fun b hb ⟨p,hp,hf,hv⟩=>?_)
  ·obtain ⟨_,a,L',e1,e2,_⟩:=(w.itm (hps p hp)).own (by rw [hf];intro q;cases q)
   rw [hv] at e1
   cases e1
   exact (w.itm (hps p hp)).rep.inH b (by rw [e2];exact B8)
  ·exact (az p hp).1 (by rw [hf];intro q;cases q) b hv hb
 have okq:∀ k p q,ps[k]?=some p->qs[k]?=some q->ItOk K G H' q:=fun k p q e1 e2=>by
  have b:=Paired.at B.back e1 e2
  refine ⟨b.arg.rep,fun hf=>?_,fun c hc=>?_⟩
  ·obtain ⟨m,a,L',v1,v2,v3⟩:=b.arg.own hf
   refine ⟨m,a,L',v1,v2,v3,fun hu=>?_⟩
   have pf:p.f=.u:=by
    rcases b.f with h | h
    ·rw [<- h];exact hu
    ·rw [h] at hu;cases hu
   obtain ⟨_,a',L'',e3,_,_,e5⟩:=(w.itm (hps p (Cm e1))).own (by rw [pf];intro q;cases q)
   rw [<- b.v,v1] at e3
   cases e3
   exact e5 pf
  ·rcases b.src c hc with h | ⟨p',hp',h⟩
   ·exact .inl (w.h0none h)
   ·exact (w.itm (hps p' hp')).src c h
 have kq:∀ z,ItOk K G H z->(∀ p ∈ ps,Apart3 p z)->∀ k p q,ps[k]?=some p->qs[k]?=some q->Apart3 z q:=fun z oz az k p q e1 e2=>by
  have b:=Paired.at B.back e1 e2
  refine ⟨fun hf a ev hm=>?_,fun hf a ev=>?_⟩
  ·rcases b.src a hm with h | ⟨p',hp',hc⟩
   ·obtain ⟨_,a',L',q1,q2,_⟩:=oz.own hf
    rw [ev] at q1;cases q1
    obtain ⟨o,ho⟩:=(oz.rep.inH a (by rw [q2];exact B8)).ex
    rw [h] at ho;exact nsE ho
   ·exact (az p' hp').2 hf a ev hc
  ·have pf:p.f ≠ .z:=fun q'=>by
    have:=b.z q'
    rw [this] at hf
    exact hf q'
   exact (az p (Cm e1)).1 pf a (by rw [<- b.v];exact ev)
 have old:∀ j z,g' j=some z->(g j=some z/\∀ p ∈ ps,Apart3 p z)\/∃ k p,rs[k]?=some (R3.pl j)/\ps[k]?=some p/\qs[k]?=some z:=fun j z ez=>by
  rcases h3 j with ⟨e1,hu⟩ | ⟨k,p,q,a1,a2,a3,_,a5⟩
  ·rw [e1] at ez
   exact .inl ⟨ez,ka j z ez hu⟩
  ·rw [a5] at ez
   cases ez
   exact .inr ⟨k,p,a1,a2,a3⟩
 have wf:Wf K G H' σ (L3.back rs (ps.map fun p=>(p.d,p.f)) (qs.map fun q=>(q.d,q.f)) ρ) T g':=by
  refine ⟨by rw [h2];exact w.len,h1,fun j z ez=>?_,fun j z ez=>?_,fun z hz=>keep z (w.okT z (Ce _ hz)) (kt z hz),fun i j a b n ea eb=>?_,fun j z ez t ht=>?_,(List.pairwise_append.mp w.tt).2.1,fun b o e n=>?_,w.pro,⟨fun u hu=>w.fx.frT u (Ce _ hu),fun j u h hp hf a ea=>?_,fun b hb=>?_,fun b o h=>?_,fun j u h hl=>?_⟩⟩
  ·rcases old j z ez with ⟨e1,_⟩ | ⟨k,p,a1,a2,a3⟩
   ·exact w.sv j z e1
   ·have ep:g j=some p:=by
     obtain ⟨p',q1,q2⟩:=Paired.exL f5 a1
     rw [a2] at q1;cases q1
     exact q2
    rw [(Paired.at B.back a2 a3).v]
    exact w.sv j p ep
  ·rcases old j z ez with ⟨e1,ap⟩ | ⟨k,p,a1,a2,a3⟩
   ·exact keep z (w.okS j z e1) ap
   ·exact okq k p z a2 a3
  ·rcases old i a ea with ⟨e1,ap⟩ | ⟨k,p,a1,a2,a3⟩
   ·rcases old j b eb with ⟨e2,_⟩ | ⟨k',p',b1,b2,b3⟩
    ·exact w.ss i j a b n e1 e2
    ·exact (kq a (w.okS i a e1) ap k' p' b b2 b3).1
   ·rcases old j b eb with ⟨e2,ap⟩ | ⟨k',p',b1,b2,b3⟩
    ·exact (kq b (w.okS j b e2) ap k p a a2 a3).2
    ·have kk:k ≠ k':=fun z=>by
      subst z
      rw [a1] at b1
      cases b1
      exact n rfl
     exact (dO B.apart (fun _ _=>Apart3.symm) kk a3 b3).1
  ·rcases old j z ez with ⟨e1,ap⟩ | ⟨k,p,a1,a2,a3⟩
   ·exact w.st j z e1 t (Ce _ ht)
   ·exact (kq t (w.okT t (Ce _ ht)) (kt t ht) k p z a2 a3).symm
  ·refine B.frame b o (w.base b o e n) fun p hp hf hv=>?_
   obtain ⟨_,a,L',e1,_,_,e3⟩:=(w.itm (hps p hp)).own (by rw [hf];intro q;cases q)
   rw [hv] at e1
   cases e1
   rcases e3 hf with h | h
   ·rw [e] at h;cases h
   ·exact n h
  ·rcases old j u h with ⟨e1,_⟩ | ⟨k,p,a1,a2,a3⟩
   ·exact w.fx.frS j u e1 hp hf a ea
   ·have b:=Paired.at B.back a2 a3
    have ep:g j=some p:=by
     obtain ⟨p',q1,q2⟩:=Paired.exL f5 a1
     rw [a2] at q1;cases q1
     exact q2
    refine w.fx.frS j p ep hp (fun q'=>?_) a (by rw [<- b.v];exact ea)
    have:=b.z q'
    rw [this] at hf
    exact hf q'
  ·obtain ⟨o,ho⟩:=w.fx.bin b hb
   exact dom b o ho
  ·obtain ⟨o',ho⟩:=w.fx.ob b o h
   exact dom b o' ho
  ·rcases old j u h with ⟨e1,_⟩ | ⟨k,p,a1,a2,a3⟩
   ·exact w.fx.lvS j u e1 hl
   ·have b:=Paired.at B.back a2 a3
    have ep:g j=some p:=by
     obtain ⟨p',q1,q2⟩:=Paired.exL f5 a1
     rw [a2] at q1;cases q1
     exact q2
    rw [b.v]
    refine w.fx.lvS j p ep ?_
    rcases b.f with h | h
    ·rw [<- h];exact hl
    ·rw [h] at hl;cases hl
 refine ⟨g',wf,fun x rx ox sx ax=>?_⟩
 have kx:∀ z,ItOk K G H z->(∀ p ∈ ps,Apart3 p z)->Apart3 z x:=fun z oz az=>by
  refine ⟨fun hf a ev hm=>?_,fun hf a ev hm=>?_⟩
  ·rcases sx a hm with h | ⟨p',hp',hc⟩
   ·obtain ⟨_,a',L',q1,q2,_⟩:=oz.own hf
    rw [ev] at q1;cases q1
    obtain ⟨o,ho⟩:=(oz.rep.inH a (by rw [q2];exact B8)).ex
    rw [h] at ho;exact nsE ho
   ·exact (az p' hp').2 hf a ev hc
  ·obtain ⟨_,a',L',q1,_,_,q4⟩:=ox hf
   rw [ev] at q1;cases q1
   obtain ⟨o,ho⟩:=(oz.rep.inH a hm).ex
   rw [q4] at ho;exact nsE ho
 refine ⟨wf.len,wf.sl,wf.sv,wf.okS,fun z hz=>?_,wf.ss,fun j z ez t ht=>?_,?_,wf.base,wf.pro,⟨fun u hu hf a ea=>?_,wf.fx.frS,wf.fx.bin,wf.fx.ob,wf.fx.lvS⟩⟩
 ·rcases Cf.mp hz with h | hz
  ·rw [h]
   refine ⟨rx,fun hf=>?_,fun c hc=>?_⟩
   ·obtain ⟨m,a,L',v1,v2,v3,v4⟩:=ox hf
    exact ⟨m,a,L',v1,v2,v3,fun _=>.inl (w.h0none v4)⟩
   ·rcases sx c hc with h | ⟨p',hp',h⟩
    ·exact .inl (w.h0none h)
    ·exact (w.itm (hps p' hp')).src c h
  ·exact wf.okT z hz
 ·rcases Cf.mp ht with h | ht
  ·rw [h]
   rcases old j z ez with ⟨e1,ap⟩ | ⟨k,p,a1,a2,a3⟩
   ·exact kx z (w.okS j z e1) ap
   ·exact (ax z (Cm a3)).symm
  ·exact wf.st j z ez t ht
 ·exact List.pairwise_cons.mpr ⟨fun t ht=>(kx t (w.okT t (Ce _ ht)) (kt t ht)).symm,wf.tt⟩
 ·rcases Cf.mp hu with h | hu
  ·subst h
   obtain ⟨_,a',L',q1,_,_,q4⟩:=ox hf
   rw [ea] at q1;cases q1
   exact w.ornone q4
  ·exact wf.fx.frT u hu hf a ea
set_option tactic.hygienic true in
theorem qL {i a:Nat} (h:(ρ[i]?).join=none):((L3.lowAt a ρ)[i]?).join=none:=by
 unfold L3.lowAt
 split
 ·rename_i d hd
  rw [cn (eG hd)]
  by_cases ia:i=a
  ·subst ia;rw [h] at hd;exact nsE hd
  ·rw [if_neg ia];exact h
 ·rename_i d hd
  rw [cn (eG hd)]
  by_cases ia:i=a
  ·subst ia;rw [h] at hd;exact nsE hd
  ·rw [if_neg ia];exact h
 ·exact h
theorem pF {i:Nat}:∀ {is:List Nat} {ρ:Sto},(ρ[i]?).join=none->((L3.frz is ρ)[i]?).join=none
 | [],ρ,h=>h
 | a :: is,ρ,h=>pF (is:=is) (ρ:=L3.lowAt a ρ) (qL h)
end
end L3
end
section
namespace L3
open PySem L2
noncomputable def iH (ρ:Sto):Nat->List (D × Fl)->Option (List (D × Fl))
 | _,[]=>some []
 | i,(d,.z) :: ps=>(iH ρ (i+1) ps).map fun r=>(d,.z) :: r
 | i,(d,f) :: ps=>match (ρ[i]?).join,iH ρ (i+1) ps with
  | some (d',f'),some r=>if f'=f\/f'=.z then some ((d',f') :: r) else none
  | _,_=>none
noncomputable def ko (n:Nat) (ps:List (D × Fl)):Sto:=ps.map some ++ List.replicate (n - ps.length) none
noncomputable def fn0 (n:Nat) (b:SM):Fn:=fun ps=>match b (ko n ps) with
 | some (.ok .nx,ρ')=>(iH ρ' 0 ps).map fun fs=>(.ok (.non,.z),fs)
 | some (.ok (.rt d f),ρ')=>(iH ρ' 0 ps).map fun fs=>(.ok (d,f),fs)
 | some (.error e,ρ')=>(iH ρ' 0 ps).map fun fs=>(.error e,fs)
 | _=>none
noncomputable def t6 (b:Bool) (p:D × Fl):D × Fl:=if b then (p.1,.z) else p
noncomputable def fnM (mask:List Bool) (n:Nat) (b:SM):Fn:=fun ps=>if ps.length=mask.length then fn0 n b (List.zipWith t6 mask ps) else none
section
variable {K:FG} {G:Gm} {W:D->Sto->Prop} {H H':Hp} {σ:St} {ρ ρ':Sto} {T T':List It3} {g:Nat->Option It3} {x y z:It3} {α β:Type}
noncomputable def gOf (H:Hp) (pr:Nat->Bool) (σ0:St) (ps:List It3):Gm:=⟨H,fun b=>∃ p ∈ ps,p.f=.u/\p.v=.ref b,pr,σ0,H,ee ps,fun i=>(ps[i]?).map (·.v)⟩
theorem ul {n:Nat} {ps:List (D × Fl)} (hn:ps.length<=n) (i:Nat):((ko n ps)[i]?).join=ps[i]?:=by
 unfold ko
 by_cases h:i < ps.length
 ·rw [CK (by simpa using h),Cp]
  cases ps[i]? <;> rfl
 ·rw [List.getElem?_append_right (by simpa using h),List.getElem?_replicate,List.getElem?_eq_none (by omega)]
  split <;> rfl
theorem mJ {n:Nat} {vs:List V} {i:Nat} {v:V} (h:vs[i]?=some v):(vs.map some ++ List.replicate n (none:Option V))[i]?=some (some v):=by
 obtain ⟨hi,e⟩:=Cl.mp h
 rw [CK (by simpa using hi),Cp,h]
 rfl
theorem u3 {n:Nat} {pr:Nat->Bool} {ps:List It3} (hn:ps.length<=n) (ha:∀ p ∈ ps,Arg K H p) (hp:ps.Pairwise Apart3) (hpr:∀ (i:Nat) (p:It3),ps[i]?=some p->p.f ≠ .z->pr i=true) :
  Wf K (gOf H pr ((ps.map (·.v)).map some ++ List.replicate (n - (ps.map (·.v)).length) none) ps) H ((ps.map (·.v)).map some ++ List.replicate (n - (ps.map (·.v)).length) none) (ko n (ps.map fun p=>(p.d,p.f))) [] (fun i=>ps[i]?):=by
 refine ⟨?_,fun i=>?_,fun i x e=>?_,fun i x e=>?_,fun _ h=>(by cases h),fun i j a b n ea eb=>?_,fun _ _ _ _ h=>(by cases h),.nil,fun b o e _=>e,fun i _=>rfl,⟨fun _ h=>(by cases h),fun i x e hz hf=>?_,fun b h=>?_,fun b o e=>⟨o,e⟩,fun i x e _=>(by show (ps[i]?).map (·.v)=_;rw [e];rfl)⟩⟩
 ·unfold ko;simp
 ·rw [ul (by simpa using hn),Cp]
 ·exact mJ (by rw [Cp,e];rfl)
 ·have hm:=Cm e
  refine ⟨(ha x hm).rep,fun hf=>?_,fun c hc=>.inr ⟨x,hm,hc⟩⟩
  obtain ⟨m,a,L',v1,v2,v3⟩:=(ha x hm).own hf
  exact ⟨m,a,L',v1,v2,v3,fun hu=>.inr ⟨x,hm,hu,v1⟩⟩
 ·exact (dO hp (fun _ _=>Apart3.symm) n ea eb).1
 ·have hz:pr i=false:=hz
  rw [hpr i x e hf] at hz;cases hz
 ·obtain ⟨p,hm,hf,hv⟩:=h
  obtain ⟨_,a,L',v1,v2,_⟩:=(ha p hm).own (by rw [hf];intro q;cases q)
  rw [hv] at v1;cases v1
  exact ((ha p hm).rep.inH b (by rw [v2];exact B8)).ex
noncomputable def FinsOk (ρ:Sto) (i:Nat) (ps fs:List (D × Fl)):Prop:=fs.length=ps.length/\∀ (k:Nat) (p:D × Fl),ps[k]?=some p->∃ q,fs[k]?=some q/\(p.2=.z->q=p)/\(p.2 ≠ .z->(ρ[i+k]?).join=some q/\(q.2=p.2\/q.2=.z))
theorem FinsOk.cons {i:Nat} {p0 q0:D × Fl} {ps fs:List (D × Fl)} (h:FinsOk ρ (i+1) ps fs) (hz:p0.2=.z->q0=p0) (hn:p0.2 ≠ .z->(ρ[i]?).join=some q0/\(q0.2=p0.2\/q0.2=.z)):FinsOk ρ i (p0 :: ps) (q0 :: fs):=by
 refine ⟨by rw [CC,CC,h.1],fun k p hk=>?_⟩
 cases k with
 | zero=>cases hk;exact ⟨q0,rfl,hz,hn⟩
 | succ k =>
  obtain ⟨q,a,b,c⟩:=h.2 k p hk
  exact ⟨q,a,b,fun n=>by have:=c n;rwa [show i+1+k=i+(k+1) by omega] at this⟩
theorem j3:∀ {i:Nat} {ps:List (D × Fl)} {fs:List (D × Fl)},iH ρ i ps=some fs->FinsOk ρ i ps fs
 | i,[],fs,e=>by cases e;exact ⟨rfl,fun k p h=>by cases h⟩
 | i,p0 :: ps,fs,e=>by
  obtain ⟨d,f⟩:=p0
  have key:f ≠ .z->(match (ρ[i]?).join,iH ρ (i+1) ps with
    | some (d',f'),some r=>if f'=f\/f'=.z then some ((d',f') :: r) else none
    | _,_=>none)=some fs->FinsOk ρ i ((d,f) :: ps) fs:=fun hf e=>by
   cases h:(ρ[i]?).join with
   | none=>rw [h] at e;exact nsE e
   | some p0 =>
    cases h2:iH ρ (i+1) ps with
    | none=>rw [h,h2] at e;exact nsE e
    | some r =>
     rw [h,h2] at e
     obtain ⟨d',f'⟩:=p0
     dsimp only at e
     rcases Decidable.em (f'=f\/f'=.z) with hc | hc
     ·rw [if_pos hc] at e
      cases e
      exact (j3 h2).cons (fun z=>absurd z hf) fun _=>⟨h,hc⟩
     ·rw [if_neg hc] at e;exact nsE e
  cases f with
  | z =>
   obtain ⟨r,h,h'⟩:=Cc.mp (show (iH ρ (i+1) ps).map (fun r=>(d,Fl.z) :: r)=some fs from e)
   subst h'
   exact (j3 h).cons (fun _=>rfl) fun n=>absurd rfl n
  | u=>exact key (by intro q;cases q) e
  | l=>exact key (by intro q;cases q) e
theorem kj {α β:Type} {P:Nat->α->β->Prop}:∀ (l:List α) (i:Nat),(∀ (k:Nat) a,l[k]?=some a->∃ b,P (i+k) a b)->∃ m:List β,m.length=l.length/\∀ (k:Nat) a,l[k]?=some a->∃ b,m[k]?=some b/\P (i+k) a b
 | [],i,_=>⟨[],rfl,fun k a h=>by simp at h⟩
 | a :: l,i,h=>by
  obtain ⟨b,hb⟩:=h 0 a rfl
  obtain ⟨m,h1,h2⟩:=kj l (i+1) fun k a e=>by
   have:=h (k+1) a (by simpa using e)
   rwa [show i+(k+1)=i+1+k by omega] at this
  refine ⟨b :: m,by simp [h1],fun k a' e=>?_⟩
  cases k with
  | zero=>simp at e;subst e;exact ⟨b,rfl,hb⟩
  | succ k =>
   obtain ⟨b',e1,e2⟩:=h2 k a' (by simpa using e)
   exact ⟨b',by simpa using e1,by rwa [show i+(k+1)=i+1+k by omega]⟩
theorem Paired.ofGet {α β:Type} {F:α->β->Prop}:∀ {l:List α} {m:List β},l.length=m.length->(∀ (k:Nat) a b,l[k]?=some a->m[k]?=some b->F a b)->Paired F l m
 | [],[],_,_=>.nil
 | [],_ :: _,h,_=>by cases h
 | _ :: _,[],h,_=>by cases h
 | a :: l,b :: m,h,f=>.cons (f 0 a b rfl rfl) (Paired.ofGet (by simpa using h) fun k a b e1 e2=>f (k+1) a b (by simpa using e1) (by simpa using e2))
theorem pZ {n:Nat} {pr:Nat->Bool} {σ0:St} {ps:List It3} {fs:List (D × Fl)} (ha:∀ p ∈ ps,Arg K H p) (hp:ps.Pairwise Apart3) (hpr:∀ (i:Nat) (p:It3),ps[i]?=some p->p.f ≠ .z->pr i=true) (h0:∀ (i:Nat) (p:It3),ps[i]?=some p->σ0[i]?=some (some p.v))
  (w:Wf K (gOf H pr σ0 ps) H' σ ρ T g) (e:iH ρ 0 (ps.map fun p=>(p.d,p.f))=some fs) :
  ∃ qs,BehindX K H H' ps qs/\qs.map (fun q=>(q.d,q.f))=fs/\(∀ (k:Nat) (p q:It3),ps[k]?=some p->qs[k]?=some q->(p.f=.z/\q=p)\/(p.f ≠ .z/\g k=some q)):=by
 obtain ⟨hl,hs⟩:=j3 e
 rw [Ck] at hl
 have frame:∀ b o,H b=some o->(∀ p ∈ ps,p.f=.u->p.v ≠ .ref b)->H' b=some o:=fun b o hb hn=>w.base b o hb fun ⟨p,hm,hf,hv⟩=>hn p hm hf hv
 have there:∀ b o,H b=some o->∃ o',H' b=some o':=fun b o hb=>w.fx.ob b o hb
 have repz:∀ (k:Nat) (p:It3),ps[k]?=some p->p.f=.z->Rep K H' p.d p.v p.L:=fun k p ek hz=>by
  refine (ha p (Cm ek)).rep.keep (M:=fun b=>∃ p ∈ ps,p.f=.u/\p.v=.ref b) (fun b o hb hn=>frame b o hb fun p hp hf hv=>hn ⟨p,hp,hf,hv⟩) (fun b ⟨p',hm,hf,hv⟩=>?_) fun b hb ⟨p',hm,hf,hv⟩=>?_
  ·obtain ⟨_,a,L',v1,v2,_⟩:=(ha p' hm).own (by rw [hf];intro q;cases q)
   rw [hv] at v1;cases v1
   exact (ha p' hm).rep.inH b (by rw [v2];exact B8)
  ·obtain ⟨j,hj,ej⟩:=List.mem_iff_getElem.mp hm
   have ej':ps[j]?=some p':=by rw [Cg hj,ej]
   have jk:j ≠ k:=fun z=>by subst z;rw [ek] at ej';cases ej';rw [hz] at hf;cases hf
   exact (dO hp (fun _ _=>Apart3.symm) jk ej' ek).1 (by rw [hf];intro q;cases q) b hv hb
 have one:∀ (k:Nat) (p:It3),ps[k]?=some p->∃ q,(q.d,q.f)=(fs[k]?).getD (p.d,p.f)/\fs[k]?=some (q.d,q.f)/\Back1 K H H' ps p q/\((p.f=.z/\q=p)\/(p.f ≠ .z/\g k=some q)):=fun k p ek=>by
  have hm:=Cm ek
  obtain ⟨q0,f1,f2,f3⟩:=hs k (p.d,p.f) (by rw [Cp,ek];rfl)
  by_cases hz:p.f=.z
  ·have:=f2 hz
   subst this
   refine ⟨p,by rw [f1];rfl,f1,⟨fun _=>rfl,rfl,.inl rfl,⟨repz k p ek hz,fun h=>absurd hz h⟩,fun c hc=>.inr ⟨p,hm,hc⟩,fun h=>?_⟩,.inl ⟨hz,rfl⟩⟩
   rw [hz] at h;cases h
  ·obtain ⟨h1,h2⟩:=f3 hz
   rw [Cz] at h1
   obtain ⟨y,y1,y2,y3,y4⟩:=w.slot (d:=q0.1) (f:=q0.2) h1
   have hv:y.v=p.v:=by
    have:=w.pro k (hpr k p ek hz)
    rw [y4] at this
    have h0:some (some y.v)=some (some p.v):=this.trans (h0 k p ek)
    injection h0 with h0
    injection h0
   have ok:=w.okS k y y1
   refine ⟨y,by rw [f1,y2,y3];rfl,by rw [f1,y2,y3],⟨fun h=>absurd h hz,hv,by rw [y3];exact h2,⟨ok.rep,fun hf=>?_⟩,fun c hc=>ok.src c hc,fun hf b hb=>?_⟩,.inr ⟨hz,y1⟩⟩
   ·obtain ⟨m,a,L',v1,v2,v3,_⟩:=ok.own hf
    exact ⟨m,a,L',v1,v2,v3⟩
   ·obtain ⟨_,a,L',v1,v2,_⟩:=(ha p hm).own hz
    rw [hb] at v1;cases v1
    obtain ⟨o,ho⟩:=((ha p hm).rep.inH b (by rw [v2];exact B8)).ex
    exact there b o ho
 obtain ⟨qs,hq,hall⟩:=kj (P:=fun k p q=>fs[k]?=some (q.d,q.f)/\Back1 K H H' ps p q/\((p.f=.z/\q=p)\/(p.f ≠ .z/\g k=some q))) ps 0 fun k p ek=>by
  obtain ⟨q,_,a,b,c⟩:=one k p ek
  exact ⟨q,by simpa using ⟨a,b,c⟩⟩
 have get:∀ (k:Nat) (p q:It3),ps[k]?=some p->qs[k]?=some q->fs[k]?=some (q.d,q.f)/\Back1 K H H' ps p q/\((p.f=.z/\q=p)\/(p.f ≠ .z/\g k=some q)):=fun k p q ep eq=>by
  obtain ⟨q',e1,e2⟩:=hall k p ep
  rw [eq] at e1
  cases e1
  simpa using e2
 have par:∀ (k:Nat) (q:It3),qs[k]?=some q->∃ p,ps[k]?=some p:=fun k q e=>by
  have hk:=(Cl.mp e).1
  exact ⟨ps[k]'(by omega),by simp [show k < ps.length by omega]⟩
 refine ⟨qs,⟨frame,Paired.ofGet hq.symm fun k p q ep eq=>(get k p q ep eq).2.1,?_⟩,?_,fun k p q ep eq=>(get k p q ep eq).2.2⟩
 ·rw [List.pairwise_iff_getElem]
  intro k j hk hj lt
  have ek:qs[k]?=some qs[k]:=Cg hk
  have ej:qs[j]?=some qs[j]:=Cg hj
  have side:∀ (k j:Nat) (q r:It3),k ≠ j->qs[k]?=some q->qs[j]?=some r->NoRoot q r:=fun k j q r n eq er=>by
   obtain ⟨p,ep⟩:=par k q eq
   obtain ⟨p',ep'⟩:=par j r er
   obtain ⟨_,b,c⟩:=get k p q ep eq
   obtain ⟨_,b',c'⟩:=get j p' r ep' er
   rcases c with ⟨hz,e⟩ | ⟨hz,e⟩
   ·rw [e];exact fun h=>absurd hz h
   ·rcases c' with ⟨hz',e'⟩ | ⟨hz',e'⟩
    ·rw [e']
     intro hf a ea
     exact (dO hp (fun _ _=>Apart3.symm) n ep ep').1 hz a (by rw [<- b.v];exact ea)
    ·exact w.ss k j q r n e e'
  exact ⟨side k j _ _ (Cs lt) ek ej,side j k _ _ (Nat.ne_of_gt lt) ej ek⟩
 ·refine List.ext_getElem? fun k=>?_
  rw [Cp]
  cases eq:qs[k]? with
  | none =>
   have:qs.length<=k:=List.getElem?_eq_none_iff.mp eq
   rw [List.getElem?_eq_none (by omega)]
   rfl
  | some q =>
   obtain ⟨p,ep⟩:=par k q eq
   rw [(get k p q ep eq).1]
   rfl
theorem rh {n:Nat} {pr:Nat->Bool} {σ0:St} {ps:List It3} {fs:List (D × Fl)} (ha:∀ p ∈ ps,Arg K H p) (hp:ps.Pairwise Apart3) (hpr:∀ (i:Nat) (p:It3),ps[i]?=some p->p.f ≠ .z->pr i=true) (h0:∀ (i:Nat) (p:It3),ps[i]?=some p->σ0[i]?=some (some p.v))
  (w:Wf K (gOf H pr σ0 ps) H' σ ρ (x :: T) g) (e:iH ρ 0 (ps.map fun p=>(p.d,p.f))=some fs):∃ qs,Behind K H H' ps qs x/\qs.map (fun q=>(q.d,q.f))=fs:=by
 obtain ⟨qs,B,f,hg⟩:=pZ (n:=n) ha hp hpr h0 w e
 have ok:=w.okT x B8
 refine ⟨qs,⟨B,ok.rep,fun hf=>?_,fun c hc=>ok.src c hc,fun q hq=>?_⟩,f⟩
 ·obtain ⟨m,a,L',v1,v2,v3,_⟩:=ok.own hf
  exact ⟨m,a,L',v1,v2,v3,w.fx.frT x B8 hf a v1⟩
 ·obtain ⟨k,hk,ek⟩:=List.mem_iff_getElem.mp hq
  have eq:qs[k]?=some q:=by rw [Cg hk,ek]
  obtain ⟨p,ep,b⟩:=Paired.exR B.back eq
  rcases hg k p q ep eq with ⟨hz,e⟩ | ⟨hz,e⟩
  ·rw [e]
   refine ⟨fun hf a ea hm=>?_,fun h=>absurd hz h⟩
   have h1:=w.fx.frT x B8 hf a ea
   obtain ⟨o,ho⟩:=((ha p (Cm ep)).rep.inH a hm).ex
   have h2:H a=none:=h1
   rw [h2] at ho;exact nsE ho
  ·exact (w.st k q e x B8).symm
end
end L3
end
section
namespace L3
open PySem L2
noncomputable def dQ:Fl->Fl
 | .u=>.l
 | f=>f
noncomputable def bJ (x:It3):It3:={ x with f:=dQ x.f }
noncomputable def gK:Fl->Fl
 | .l=>.u
 | f=>f
noncomputable def xH (x:It3):It3:={ x with f:=gK x.f }
noncomputable def lH (h:Fl->Fl) (i:Nat) (ρ:Sto):Sto:=match (ρ[i]?).join with
 | some (d,f)=>ρ.set i (some (d,h f))
 | none=>ρ
noncomputable def aP (h:Fl->Fl) (is:List Nat) (ρ:Sto):Sto:=is.foldl (fun ρ i=>lH h i ρ) ρ
noncomputable def us (ρ:Sto) (is:List Nat):List Nat:=is.filter fun i=>match (ρ[i]?).join with
 | some (_,.u)=>true
 | _=>false
theorem lentF_z {f:Fl}:dQ f=.z ↔ f=.z:=by cases f <;> simp [dQ]
theorem unlF_z {f:Fl}:gK f=.z ↔ f=.z:=by cases f <;> simp [gK]
theorem rZ (f:Fl):dQ f ≠ .u:=by cases f <;> simp [dQ]
theorem Ax (f:Fl):gK f ≠ .l:=by cases f <;> simp [gK]
section
variable {K:FG} {G G0:Gm} {W W0:D->Sto->Prop} {H H':Hp} {σ:St} {ρ ρ':Sto} {T T':List It3} {g:Nat->Option It3} {x y z:It3} {α β:Type}
theorem qI {h:Fl->Fl} {i j:Nat}:((lH h i ρ)[j]?).join=if j=i then ((ρ[j]?).join).map (fun p=>(p.1,h p.2)) else (ρ[j]?).join:=by
 unfold lH
 cases e:(ρ[i]?).join with
 | none =>
  by_cases q:j=i
  ·subst q;rw [if_pos rfl,e];rfl
  ·rw [if_neg q]
 | some p =>
  obtain ⟨d,f⟩:=p
  dsimp only
  rw [cn (eG e)]
  by_cases q:j=i
  ·subst q;rw [if_pos rfl,if_pos rfl,e];rfl
  ·rw [if_neg q,if_neg q]
theorem tV {h:Fl->Fl} {i:Nat}:(lH h i ρ).length = ρ.length:=by
 unfold lH
 split
 ·rw [List.length_set]
 ·rfl
theorem gU {h:Fl->Fl} (hh:∀ f,h (h f)=h f):∀ {is:List Nat} {ρ:Sto} {j:Nat},((aP h is ρ)[j]?).join=if j ∈ is then ((ρ[j]?).join).map (fun p=>(p.1,h p.2)) else (ρ[j]?).join
 | [],ρ,j=>by simp [aP]
 | i :: is,ρ,j=>by
  have e:aP h (i :: is) ρ=aP h is (lH h i ρ):=rfl
  rw [e,gU hh,qI]
  by_cases q:j=i
  ·subst q
   by_cases m:j ∈ is
   ·rw [if_pos m,if_pos rfl,if_pos B8]
    cases (ρ[j]?).join with
    | none=>rfl
    | some p=>simp [hh]
   ·rw [if_neg m,if_pos rfl,if_pos B8]
  ·by_cases m:j ∈ is
   ·rw [if_pos m,if_neg q,if_pos (B9 _ m)]
   ·rw [if_neg m,if_neg q,if_neg (fun z=>(Cf.mp z).elim q m)]
theorem iY {h:Fl->Fl}:∀ {is:List Nat} {ρ:Sto},(aP h is ρ).length = ρ.length
 | [],ρ=>rfl
 | i :: is,ρ=>by
  have e:aP h (i :: is) ρ=aP h is (lH h i ρ):=rfl
  rw [e,iY,tV]
noncomputable def eW (G:Gm) (H:Hp) (g:Nat->Option It3) (is:List Nat):Gm :=
 ⟨H,fun b=>∃ j y,j ∉ is/\g j=some y/\y.f=.u/\y.v=.ref b,G.pr,G.σ0,G.orig,fun c=>G.H0 c=none\/G.src c,fun j=>if j ∈ is then (g j).map (·.v) else G.lv j⟩
structure Fk (x y:It3):Prop where
 d:y.d=x.d
 v:y.v=x.v
 L:y.L=x.L
 z:y.f=.z ↔ x.f=.z
theorem Fk.noRoot {x x' y y':It3} (a:Fk x x') (b:Fk y y') (h:NoRoot x y):NoRoot x' y':=fun hf c e=>by
 rw [b.L]
 exact h (fun q=>hf (a.z.mpr q)) c (by rw [<- a.v];exact e)
theorem Fk.apart {x x' y y':It3} (a:Fk x x') (b:Fk y y') (h:Apart3 x y):Apart3 x' y':=⟨a.noRoot b h.1,b.noRoot a h.2⟩
theorem Fk.refl (x:It3):Fk x x:=⟨rfl,rfl,rfl,Iff.rfl⟩
theorem kX (x:It3):Fk x (bJ x):=⟨rfl,rfl,rfl,lentF_z⟩
theorem BP (x:It3):Fk x (xH x):=⟨rfl,rfl,rfl,unlF_z⟩
theorem pi {o:Option It3} {h:Fl->Fl} {p:Option (D × Fl)} (e:o.map (fun x=>(x.d,x.f))=p):(o.map fun x=>{ x with f:=h x.f }).map (fun x:It3=>(x.d,x.f))=p.map fun p=>(p.1,h p.2):=by
 subst e
 cases o <;> rfl
theorem Wf.enter (w:Wf K G H σ ρ T g) (is:List Nat):Wf K (eW G H g is) H σ (aP dQ is ρ) (T.map bJ) (fun j=>if j ∈ is then (g j).map bJ else g j):=by
 have val:∀ j u,(if j ∈ is then (g j).map bJ else g j)=some u->∃ u0,g j=some u0/\Fk u0 u/\((j ∈ is/\u=bJ u0)\/(j ∉ is/\u=u0)):=fun j u h=>by
  by_cases q:j ∈ is
  ·rw [if_pos q] at h
   obtain ⟨u0,e1,e2⟩:=Cc.mp h
   subst e2
   exact ⟨u0,e1,kX u0,.inl ⟨q,rfl⟩⟩
  ·rw [if_neg q] at h
   exact ⟨u,h,Fk.refl u,.inr ⟨q,rfl⟩⟩
 refine ⟨by rw [iY];exact w.len,fun j=>?_,fun j u h=>?_,fun j u h=>?_,fun u hu=>?_,fun i j a b n ha hb=>?_,fun j a h b hb=>?_,?_,fun b o e _=>e,w.pro,⟨fun u hu hf a ea=>?_,fun j u h hp hf a ea=>?_,fun b hb=>?_,w.fx.ob,fun j u h hl=>?_⟩⟩
 ·rw [gU (by intro f;cases f <;> rfl)]
  by_cases q:j ∈ is
  ·rw [if_pos q,if_pos q];exact pi (w.sl j)
  ·rw [if_neg q,if_neg q];exact w.sl j
 ·obtain ⟨u0,e,k,_⟩:=val j u h
  rw [k.v];exact w.sv j u0 e
 ·obtain ⟨u0,e,k,c⟩:=val j u h
  have ok:=w.okS j u0 e
  refine ⟨by rw [k.d,k.v,k.L];exact ok.rep,fun hf=>?_,fun c hc=>.inr (ok.src c (by rw [<- k.L];exact hc))⟩
  obtain ⟨m,a,L',v1,v2,v3,_⟩:=ok.own (fun q=>hf (k.z.mpr q))
  refine ⟨by rw [k.d];exact m,a,L',by rw [k.v];exact v1,by rw [k.L];exact v2,v3,fun hu=>?_⟩
  rcases c with ⟨_,rfl⟩ | ⟨nj,rfl⟩
  ·exact absurd hu (rZ _)
  ·exact .inr ⟨j,u,nj,e,hu,v1⟩
 ·obtain ⟨u0,h0,rfl⟩:=Co.mp hu
  have ok:=w.okT u0 h0
  refine ⟨ok.rep,fun hf=>?_,fun c hc=>.inr (ok.src c hc)⟩
  obtain ⟨m,a,L',v1,v2,v3,_⟩:=ok.own (fun q=>hf (lentF_z.mpr q))
  exact ⟨m,a,L',v1,v2,v3,fun hu=>absurd hu (rZ _)⟩
 ·obtain ⟨a0,e1,k1,_⟩:=val i a ha
  obtain ⟨b0,e2,k2,_⟩:=val j b hb
  exact k1.noRoot k2 (w.ss i j a0 b0 n e1 e2)
 ·obtain ⟨a0,e1,k1,_⟩:=val j a h
  obtain ⟨b0,h0,rfl⟩:=Co.mp hb
  exact k1.apart (kX b0) (w.st j a0 e1 b0 h0)
 ·rw [List.pairwise_map]
  exact w.tt.imp fun {a b} h=>(kX a).apart (kX b) h
 ·obtain ⟨u0,h0,rfl⟩:=Co.mp hu
  exact w.fx.frT u0 h0 (fun q=>hf (lentF_z.mpr q)) a ea
 ·obtain ⟨u0,e,k,_⟩:=val j u h
  exact w.fx.frS j u0 e hp (fun q=>hf (k.z.mpr q)) a (by rw [<- k.v];exact ea)
 ·obtain ⟨j,y,_,e,hf,hv⟩:=hb
  obtain ⟨_,a,L',v1,v2,_⟩:=(w.okS j y e).own (by rw [hf];intro q;cases q)
  rw [hv] at v1;cases v1
  exact ((w.okS j y e).rep.inH b (by rw [v2];exact B8)).ex
 ·obtain ⟨u0,e,k,c⟩:=val j u h
  show (if j ∈ is then (g j).map (·.v) else G.lv j)=_
  rcases c with ⟨q,rfl⟩ | ⟨q,rfl⟩
  ·rw [if_pos q,e];rfl
  ·rw [if_neg q];exact w.fx.lvS j u e hl
theorem Wf.leave {is:List Nat} {σ':St} {ρ2:Sto} {g2:Nat->Option It3} {R:List It3} (w:Wf K G H σ ρ T g) (his:∀ i ∈ is,∀ y,g i=some y->y.f=.u) (hT:T'.Sublist T) (w2:Wf K (eW G H g is) H' σ' ρ2 (R ++ T'.map bJ) g2) :
  Wf K G H' σ' (aP gK is ρ2) (R ++ T') (fun j=>if j ∈ is then (g2 j).map xH else g2 j):=by
 have val:∀ j u,(if j ∈ is then (g2 j).map xH else g2 j)=some u->∃ u0,g2 j=some u0/\Fk u0 u/\((j ∈ is/\u=xH u0)\/(j ∉ is/\u=u0)):=fun j u h=>by
  by_cases q:j ∈ is
  ·rw [if_pos q] at h
   obtain ⟨u0,e1,e2⟩:=Cc.mp h
   subst e2
   exact ⟨u0,e1,BP u0,.inl ⟨q,rfl⟩⟩
  ·rw [if_neg q] at h
   exact ⟨u,h,Fk.refl u,.inr ⟨q,rfl⟩⟩
 have may:∀ a,H a=none\/(∃ j y,j ∉ is/\g j=some y/\y.f=.u/\y.v=.ref a)->G.H0 a=none\/G.bw a:=fun a h=>by
  rcases h with h | ⟨j,y,_,e,hf,hv⟩
  ·exact .inl (w.h0none h)
  ·obtain ⟨_,a',L',v1,_,_,v4⟩:=(w.okS j y e).own (by rw [hf];intro q;cases q)
   rw [hv] at v1;cases v1
   exact v4 hf
 have srcs:∀ c,H c=none\/(G.H0 c=none\/G.src c)->G.H0 c=none\/G.src c:=fun c h=>by
  rcases h with h | h
  ·exact .inl (w.h0none h)
  ·exact h
 have tm:∀ x ∈ T',x ∈ T:=fun x hx=>hT.subset hx
 have dom:∀ b o,H b=some o->∃ o',H' b=some o':=fun b o hb=>by
  by_cases q:∃ j y,j ∉ is/\g j=some y/\y.f=.u/\y.v=.ref b
  ·exact w2.fx.bin b q
  ·exact ⟨o,w2.base b o hb q⟩
 refine ⟨by rw [iY];exact w2.len,fun j=>?_,fun j u h=>?_,fun j u h=>?_,fun u hu=>?_,fun i j a b n ha hb=>?_,fun j a h b hb=>?_,?_,fun b o e n=>?_,w2.pro,⟨fun u hu=>?_,fun j u h hp hf a ea=>?_,fun b hb=>?_,w2.fx.ob,fun j u h hl=>?_⟩⟩
 ·rw [gU (by intro f;cases f <;> rfl)]
  by_cases q:j ∈ is
  ·rw [if_pos q,if_pos q];exact pi (w2.sl j)
  ·rw [if_neg q,if_neg q];exact w2.sl j
 ·obtain ⟨u0,e,k,_⟩:=val j u h
  rw [k.v];exact w2.sv j u0 e
 ·obtain ⟨u0,e,k,c⟩:=val j u h
  have ok:=w2.okS j u0 e
  refine ⟨by rw [k.d,k.v,k.L];exact ok.rep,fun hf=>?_,fun c hc=>srcs c (ok.src c (by rw [<- k.L];exact hc))⟩
  obtain ⟨m,a,L',v1,v2,v3,v4⟩:=ok.own (fun q=>hf (k.z.mpr q))
  refine ⟨by rw [k.d];exact m,a,L',by rw [k.v];exact v1,by rw [k.L];exact v2,v3,fun hu=>?_⟩
  rcases c with ⟨q,rfl⟩ | ⟨nj,rfl⟩
  ·cases hf0:u0.f with
   | u=>exact may a (v4 hf0)
   | l =>
    have hl:=w2.fx.lvS j u0 e hf0
    have hl:(if j ∈ is then (g j).map (·.v) else G.lv j)=some u0.v:=hl
    rw [if_pos q] at hl
    obtain ⟨y,ey,ev⟩:=Cc.mp hl
    have yu:=his j q y ey
    obtain ⟨_,a',L'',b1,_,_,b4⟩:=(w.okS j y ey).own (by rw [yu];intro q;cases q)
    rw [ev,v1] at b1;cases b1
    exact b4 yu
   | z=>exact absurd (unlF_z.mpr hf0) hf
  ·exact may a (v4 hu)
 ·rcases Ci.mp hu with hu | hu
  ·have ok:=w2.okT u (Cd _ hu)
   refine ⟨ok.rep,fun hf=>?_,fun c hc=>srcs c (ok.src c hc)⟩
   obtain ⟨m,a,L',v1,v2,v3,v4⟩:=ok.own hf
   exact ⟨m,a,L',v1,v2,v3,fun h=>may a (v4 h)⟩
  ·have ok:=w.okT u (tm u hu)
   exact ⟨(w2.okT (bJ u) (Ce _ (Co.mpr ⟨u,hu,rfl⟩))).rep,ok.own,ok.src⟩
 ·obtain ⟨a0,e1,k1,_⟩:=val i a ha
  obtain ⟨b0,e2,k2,_⟩:=val j b hb
  exact k1.noRoot k2 (w2.ss i j a0 b0 n e1 e2)
 ·obtain ⟨a0,e1,k1,_⟩:=val j a h
  rcases Ci.mp hb with hb | hb
  ·exact k1.apart (Fk.refl b) (w2.st j a0 e1 b (Cd _ hb))
  ·have:=w2.st j a0 e1 (bJ b) (Ce _ (Co.mpr ⟨b,hb,rfl⟩))
   exact k1.apart (y:=bJ b) ⟨rfl,rfl,rfl,lentF_z.symm⟩ this
 ·have h:=List.pairwise_append.mp w2.tt
  refine List.pairwise_append.mpr ⟨h.1,w.tt.sublist hT,fun a ha b hb=>?_⟩
  exact (Fk.refl a).apart (y:=bJ b) ⟨rfl,rfl,rfl,lentF_z.symm⟩ (h.2.2 a ha (bJ b) (Co.mpr ⟨b,hb,rfl⟩))
 ·have hb:=w.base b o e n
  refine w2.base b o hb fun q=>?_
  rcases may b (.inr q) with h | h
  ·rw [e] at h;cases h
  ·exact n h
 ·rcases Ci.mp hu with hu | hu
  ·exact w2.fx.frT u (Cd _ hu)
  ·exact w.fx.frT u (tm u hu)
 ·obtain ⟨u0,e,k,_⟩:=val j u h
  exact w2.fx.frS j u0 e hp (fun q=>hf (k.z.mpr q)) a (by rw [<- k.v];exact ea)
 ·obtain ⟨o,ho⟩:=w.fx.bin b hb
  exact dom b o ho
 ·obtain ⟨u0,e,k,c⟩:=val j u h
  rcases c with ⟨q,rfl⟩ | ⟨q,rfl⟩
  ·exact absurd hl (Ax _)
  ·have:=w2.fx.lvS j u e hl
   have this:(if j ∈ is then (g j).map (·.v) else G.lv j)=some u.v:=this
   rw [if_neg q] at this
   exact this
theorem zz {is:List Nat} (w:Wf K G H σ ρ T g) (his:∀ i ∈ is,∀ y,g i=some y->y.f=.u):∀ (H':Hp) (σ':St) (ρ2:Sto) (T2:List It3) (g2:Nat->Option It3),Wf K (eW G H g is) H' σ' ρ2 T2 g2->∃ g3,Wf K G H' σ' (aP gK is ρ2) [] g3 :=
 fun H' σ' ρ2 T2 g2 w2=>⟨_,by simpa using Wf.leave (T':=[]) (R:=[]) w his (List.nil_sublist T) (by simpa using w2.sub (List.nil_sublist T2))⟩
end
end L3
end
section
namespace L3
open PySem L2
section
variable {K:FG} {G G0:Gm} {W W0:D->Sto->Prop} {H H':Hp} {σ:St} {ρ ρ':Sto} {T T':List It3} {g:Nat->Option It3} {x y z:It3} {α β:Type}
noncomputable def Walk (K:FG) (J:It) (H1:Hp) (ys:List It3) (ds:List D):Prop:=∃ els:List It3,(∀ x ∈ els,x.f=.z/\Rep K H1 x.d x.v x.L/\∀ c ∈ x.L,eZ ys c) /\
 ∀ (M:Addr->Prop) (H':Hp),(∀ b,M b->MutAt H1 b)->(∀ b o,H1 b=some o->¬ M b->H' b=some o)->(∀ y ∈ ys,∀ b ∈ y.L,¬ M b) ->
  (∀ (i:Nat) (d:D),ds[i]?=some d->J.go i H'/\∀ x H'',J.yld i H' x H''->∃ w,New K H' H'' (ee els) w/\w.d=d/\w.f=.z/\w.v=x)/\J.stop ds.length H'
noncomputable abbrev IM:=M3 (List R3 × List D)
noncomputable def EndI (K:FG) (G:Gm) (W:D->Sto->Prop) (σ:St) (T:List It3) (ρ':Sto) (R:It->Hp->Prop):Except D (List R3 × List D)->Prop
 | .ok p=>∀ J H1 vs Ts g1 ys,Wf K G H1 σ ρ' (Ts ++ T) g1->Ars σ p.1 vs Ts->(∀ y ∈ ys,(∃ i,i ∈ pls p.1/\g1 i=some y)\/y ∈ Ts)->Walk K J H1 ys p.2->R J H1
 | .error e=>W e ρ'
noncomputable def tI (K:FG) (G0:Gm) (W0:D->Sto->Prop) (m:IM):TI:=fun σ H R=>∃ G W,Le K G W G0 W0/\∃ ρ T g r ρ',Wf K G H σ ρ T g/\m ρ=some (r,ρ')/\EndI K G W σ T ρ' R r
theorem tI.seq {m:IM} {k:List R3 × List D->M3 β} {r:Except D β} {P:It->Hp->Prop} (le:Le K G W G0 W0) (w:Wf K G H σ ρ T g) (e:ae m k ρ=some (r,ρ')) (he:∀ x,r=.error x->W x ρ')
  (h:∀ p ρ1,k p ρ1=some (r,ρ')->EndI K G W σ T ρ1 P (.ok p)):tI K G0 W0 m σ H P:=by
 unfold ae at e
 cases q:m ρ with
 | none=>rw [q] at e;exact nsE e
 | some p =>
  obtain ⟨o,ρ1⟩:=p
  rw [q] at e
  cases o with
  | error x=>cases e;exact ⟨G,W,le,ρ,T,g,.error x,ρ',w,q,he x rfl⟩
  | ok ra=>exact ⟨G,W,le,ρ,T,g,.ok ra,ρ1,w,q,h ra ρ1 e⟩
noncomputable def Bnd (K:FG) (pr:Nat->Bool) (tg:TG) (bnd:D->Sto->Option Sto):Prop:=∀ (G:Gm) (H:Hp) (σ:St) (ρ ρ1:Sto) (T:List It3) (g:Nat->Option It3) (w:It3) (Q:St->Hp->Prop),G.pr=pr->w.f=.z->Wf K G H σ ρ (w :: T) g->bnd w.d ρ=some ρ1 ->
 (∀ σ2 g2,Wf K G H σ2 ρ1 T g2->Q σ2 H)->tg w.v σ H Q
noncomputable def am (i:Nat) (d:D) (ρ:Sto):Option Sto:=if i < ρ.length then some (ρ.set i (some (d,.z))) else none
set_option tactic.hygienic true in
theorem aW {pr:Nat->Bool} {i:Nat} (hp:pr i=false):Bnd K pr (si i) (am i):=fun G H σ ρ ρ1 T g w Q hpr hz wf e q=>by
 unfold am at e
 split at e
 ·rename_i hi
  cases e
  exact q _ _ (wf.store (f:=.z) hi (by rw [hpr];exact hp) (.inr rfl) (by intro h;cases h))
 ·exact nsE e
noncomputable def xE (K:FG) (pr:Nat->Bool) (tg:TGs) (bnd:List D->Sto->Option Sto):Prop:=∀ (G:Gm) (H:Hp) (σ:St) (ρ ρ1:Sto) (T:List It3) (g:Nat->Option It3) (ws:List It3) (Q:St->Hp->Prop),G.pr=pr->(∀ w ∈ ws,w.f=.z)->Wf K G H σ ρ (ws ++ T) g->bnd (ws.map (·.d)) ρ=some ρ1 ->
 (∀ σ2 g2,Wf K G H σ2 ρ1 T g2->Q σ2 H)->tg (ws.map (·.v)) σ H Q
noncomputable def kJ:List D->Sto->Option Sto
 | [],ρ=>some ρ
 | _,_=>none
noncomputable def bT (b:D->Sto->Option Sto) (bs:List D->Sto->Option Sto):List D->Sto->Option Sto
 | [],_=>none
 | d :: ds,ρ=>match b d ρ with
  | some ρ1=>bs ds ρ1
  | none=>none
theorem l8 {pr:Nat->Bool}:xE K pr gNil kJ:=fun G H σ ρ ρ1 T g ws Q _ _ wf e q=>by
 cases ws with
 | nil=>cases e;exact ⟨rfl,q _ _ wf⟩
 | cons w ws=>exact nsE e
theorem f9 {pr:Nat->Bool} {tg:TG} {tgs:TGs} {b:D->Sto->Option Sto} {bs:List D->Sto->Option Sto} (h1:Bnd K pr tg b) (h2:xE K pr tgs bs):xE K pr (Aq tg tgs) (bT b bs):=fun G H σ ρ ρ1 T g ws Q hpr hz wf e q=>by
 cases ws with
 | nil=>exact nsE e
 | cons w ws =>
  have e:(match b w.d ρ with | some ρ1=>bs (ws.map (·.d)) ρ1 | none=>none)=some ρ1:=e
  cases q1:b w.d ρ with
  | none=>rw [q1] at e;exact nsE e
  | some ρ2 =>
   rw [q1] at e
   exact ⟨w.v,ws.map (·.v),rfl,h1 G H σ ρ ρ2 (ws ++ T) g w _ hpr (hz w B8) wf q1 fun σ2 g2 w2=>h2 G H σ2 ρ2 ρ1 T g2 ws Q hpr (fun x hx=>hz x (B9 _ hx)) w2 e q⟩
noncomputable def kI (n:Nat) (bs:List D->Sto->Option Sto):D->Sto->Option Sto
 | .tup ds,ρ=>if ds.length=n then bs ds ρ else none
 | _,_=>none
theorem Reps.split:∀ {ds:List D} {vs:List V} {L:List Addr},Reps (Rep K H) ds vs L->∃ ws:List It3,ws.map (·.d)=ds/\ws.map (·.v)=vs/\(∀ w ∈ ws,w.f=.z/\Rep K H w.d w.v w.L/\∀ c ∈ w.L,c ∈ L)
 | _,_,_,.nil=>⟨[],rfl,rfl,fun _ h=>(by cases h)⟩
 | _,_,_,.cons (d:=d) (v:=v) (L:=L) r rs=>by
  obtain ⟨ws,h1,h2,h3⟩:=Reps.split rs
  refine ⟨⟨d,v,L,.z⟩ :: ws,by simp [h1],by simp [h2],fun w hw=>?_⟩
  rcases Cf.mp hw with h | h
  ·subst h;exact ⟨rfl,r,fun c hc=>Cd _ hc⟩
  ·exact ⟨(h3 w h).1,(h3 w h).2.1,fun c hc=>Ce _ ((h3 w h).2.2 c hc)⟩
theorem Wf.pushAll:∀ {ws:List It3} {T:List It3},Wf K G H σ ρ T g->(∀ w ∈ ws,w.f=.z/\Rep K H w.d w.v w.L/\∀ c ∈ w.L,eI T g c/\(G.H0 c=none\/G.src c))->Wf K G H σ ρ (ws ++ T) g
 | [],T,w,_=>w
 | x :: ws,T,w,h=>by
  have w1:=Wf.pushAll (ws:=ws) w fun y hy=>h y (B9 _ hy)
  obtain ⟨hz,hr,hc⟩:=h x B8
  refine w1.push (Ks:=fun c=>c ∈ x.L) ⟨Same.refl _,hr,fun c h=>.inr h,fun q=>absurd hz q⟩ fun c m=>⟨⟨(hc c m).1.1,fun y hy hf=>?_⟩,(hc c m).2⟩
  rcases Ci.mp hy with q | q
  ·exact absurd (h y (B9 _ q)).1 hf
  ·exact (hc c m).1.2 y q hf
set_option tactic.hygienic true in
theorem om {pr:Nat->Bool} {n:Nat} {tgs:TGs} {bs:List D->Sto->Option Sto} (h2:xE K pr tgs bs):Bnd K pr (gTup K n tgs) (kI n bs):=fun G H σ ρ ρ1 T g w Q hpr hz wf e q=>by
 have r:=(wf.okT w B8).rep
 obtain ⟨d,v,L,f⟩:=w
 cases r with
 | @tup xs a vs _ hs rs =>
  have e:(if xs.length=n then bs xs ρ else none)=some ρ1:=e
  split at e
  ·rename_i hl
   obtain ⟨ws,h1,h3,h4⟩:=Reps.split rs
   refine ⟨a,vs,rfl,SqT.of hs,?_,?_⟩
   ·rw [<- h3,Ck,<- hl,<- h1,Ck]
   ·have w1:Wf K G H σ ρ (ws ++ (⟨.tup xs,.ref a,L,f⟩ :: T)) g:=wf.pushAll fun u hu=>⟨(h4 u hu).1,(h4 u hu).2.1,fun c hc=>⟨wf.kid (y:=⟨.tup xs,.ref a,L,f⟩) (.inr B8) ((h4 u hu).2.2 c hc) fun hf=>absurd hz hf,(wf.okT _ B8).src c ((h4 u hu).2.2 c hc)⟩⟩
    have w2:Wf K G H σ ρ (ws ++ T) g:=w1.sub ((List.Sublist.refl ws).append (List.sublist_cons_self _ _))
    rw [<- h3]
    exact h2 G H σ ρ ρ1 T g ws Q hpr (fun u hu=>(h4 u hu).1) w2 (by rw [h1];exact e) q
  ·exact nsE e
 | non=>exact nsE e
 | bl b=>exact nsE e
 | int i=>exact nsE e
 | str s=>exact nsE e
 | lst _ _=>exact nsE e
 | lstF _ _=>exact nsE e
 | dK _ _ _=>exact nsE e
 | dT _ _ _=>exact nsE e
 | exc _ _=>exact nsE e
noncomputable def fI (bnd:D->Sto->Option Sto) (b:SM):List D->SM
 | []=>bx .nx
 | d :: ds=>fun ρ=>match bnd d ρ with
  | none=>none
  | some ρ1=>ae b (fun f=>match f with
   | .nx=>fI bnd b ds
   | .ct=>fI bnd b ds
   | .br=>bx .nx
   | .rt d f=>bx (.rt d f)) ρ1
noncomputable def cN (im:IM) (bnd:D->Sto->Option Sto) (b:SM):SM:=ae im fun p=>fun ρ=>(fI bnd b p.2 (aP dQ (us ρ (pls p.1)) ρ)).map fun r=>(r.1,aP gK (us ρ (pls p.1)) r.2)
theorem us_u {is:List Nat} (w:Wf K G H σ ρ T g):∀ i ∈ us ρ is,∀ y,g i=some y->y.f=.u:=fun i hi y ey=>by
 have h:=(CJ.mp hi).2
 have s:=w.sl i
 rw [ey] at s
 have s:some (y.d,y.f)=(ρ[i]?).join:=s
 rw [<- s] at h
 cases hf:y.f with
 | u=>rfl
 | l=>rw [hf] at h;cases h
 | z=>rw [hf] at h;cases h
theorem u5 {is:List Nat} {i:Nat} (w:Wf K G H σ ρ T g) (hi:i ∈ is) (ey:g i=some y) (hf:y.f=.u):i ∈ us ρ is:=by
 refine CJ.mpr ⟨hi,?_⟩
 have s:=w.sl i
 rw [ey] at s
 have s:some (y.d,y.f)=(ρ[i]?).join:=s
 rw [<- s,hf]
theorem AH {im:IM} {bnd:D->Sto->Option Sto} {b:SM} {tg:TG} {E:Ends} (hb:Bnd K G0.pr tg bnd) (h:tS K G0 W0 (cN im bnd b) E σ H):tFor (tI K G0 W0 im) tg (tS K G0 W0 b) E σ H:=by
 refine h.use fun G W le ρ T g r ρ' w e q=>?_
 refine tI.seq le w e q.err fun p ρ1 e1=>?_
 intro J H1 vs Ts g1 ys w1 a1 hys hw
 have his:=us_u (is:=pls p.1) w1
 have hus:∀ i y,i ∈ pls p.1->g1 i=some y->y.f=.u->i ∈ us ρ1 (pls p.1):=fun i y hi ey hf=>u5 w1 hi ey hf
 generalize us ρ1 (pls p.1)=is at e1 his hus
 have w2:=w1.enter is
 obtain ⟨els,hels,walk⟩:=hw
 have hM:∀ b,(∃ j y,j ∉ is/\g1 j=some y/\y.f=.u/\y.v=.ref b)->MutAt H1 b:=fun b ⟨j,y,_,ey,hf,hv⟩=>by
  obtain ⟨_,a,L',v1,v2,_⟩:=(w1.okS j y ey).own (by rw [hf];intro q;cases q)
  rw [hv] at v1;cases v1
  exact (w1.okS j y ey).rep.inH b (by rw [v2];exact B8)
 have hysM:∀ y ∈ ys,∀ b ∈ y.L,¬ ∃ j y,j ∉ is/\g1 j=some y/\y.f=.u/\y.v=.ref b:=fun y hy b hb ⟨j,y',nj,ey',hf,hv⟩=>by
  have hfz:y'.f ≠ .z:=by rw [hf];intro q;cases q
  rcases hys y hy with ⟨i,hi,ei⟩ | hy
  ·by_cases ij:i=j
   ·subst ij
    rw [ei] at ey';cases ey'
    exact nj (hus i y hi ei hf)
   ·exact w1.ss j i y' y (Ne.symm ij) ey' ei hfz b hv hb
  ·exact (w1.st j y' ey' y (Cd _ hy)).1 hfz b hv hb
 have hitm:∀ y ∈ ys,Itm (Ts ++ T) g1 y:=fun y hy=>by
  rcases hys y hy with ⟨i,_,ei⟩ | h
  ·exact .inl ⟨i,ei⟩
  ·exact .inr (Cd _ h)
 have kid:∀ x ∈ els,∀ c ∈ x.L,eI ((Ts ++ T).map bJ) (fun j=>if j ∈ is then (g1 j).map bJ else g1 j) c/\(H1 c=none\/(G.H0 c=none\/G.src c)):=fun x hx c hc=>by
  obtain ⟨nr,sr⟩:=w1.kids hitm ((hels x hx).2.2 c hc)
  refine ⟨⟨fun i z ez hf hv=>?_,fun z hz hf hv=>?_⟩,.inr sr⟩
  ·have ez:(if i ∈ is then (g1 i).map bJ else g1 i)=some z:=ez
   by_cases q:i ∈ is
   ·rw [if_pos q] at ez
    obtain ⟨z0,e0,e1⟩:=Cc.mp ez
    subst e1
    exact nr.1 i z0 e0 (fun q=>hf (lentF_z.mpr q)) hv
   ·rw [if_neg q] at ez
    exact nr.1 i z ez hf hv
  ·obtain ⟨z0,h0,rfl⟩:=Co.mp hz
   exact nr.2 z0 h0 (fun q=>hf (lentF_z.mpr q)) hv
 have w3:Wf K (eW G H1 g1 is) H1 σ (aP dQ is ρ1) (els ++ (Ts ++ T).map bJ) (fun j=>if j ∈ is then (g1 j).map bJ else g1 j):=w2.pushAll fun x hx=>⟨(hels x hx).1,(hels x hx).2.1,fun c hc=>kid x hx c hc⟩
 cases e2:fI bnd b p.2 (aP dQ is ρ1) with
 | none=>rw [e2] at e1;exact nsE e1
 | some rr =>
  obtain ⟨r2,ρ3⟩:=rr
  rw [e2] at e1
  have er:r2=r/\aP gK is ρ3 = ρ':=by cases e1;exact ⟨rfl,rfl⟩
  obtain ⟨rfl,eρ⟩:=er
  have leave:∀ {σ':St} {H':Hp} {ρ2:Sto} {g2:Nat->Option It3} {R:List It3},Wf K (eW G H1 g1 is) H' σ' ρ2 (R ++ (els ++ (Ts ++ T).map bJ)) g2->∃ g3,Wf K G H' σ' (aP gK is ρ2) (R ++ T) g3:=fun {σ' H' ρ2 g2 R} w4 =>
   ⟨_,Wf.leave (T:=Ts ++ T) (T':=T) (R:=R) w1 his (Cn Ts T) (w4.sub ((List.Sublist.refl R).append (by
    rw [List.map_append]
    exact (Cn (Ts.map bJ) (T.map bJ)).trans (Cn els _))))⟩
  have le1:Le K (eW G H1 g1 is) (fun e ρ2=>W e (aP gK is ρ2)) G W:=⟨rfl,fun H' σ' ρ2 T2 g2 e w4 he=>by
   obtain ⟨g3,w5⟩:=zz w1 his H' σ' ρ2 T2 g2 w4
   exact ⟨_,[],g3,w5,he⟩⟩
  have le':Le K (eW G H1 g1 is) (fun e ρ2=>W e (aP gK is ρ2)) G0 W0:=le1.trans le
  refine ⟨fun k m σ' H'=>k<=p.2.length/\m=p.2.length - k/\∃ ρ2 g2,Wf K (eW G H1 g1 is) H' σ' ρ2 (els ++ (Ts ++ T).map bJ) g2/\fI bnd b (p.2.drop k) ρ2=some (r2,ρ3),⟨_,Nat.zero_le _,rfl,_,_,w3,e2⟩,?_⟩
  rintro k m σ' H' ⟨hk,rfl,ρ2,g2,w4,e4⟩
  obtain ⟨wgo,wstop⟩:=walk _ H' hM (fun b o hb hn=>w4.base b o hb hn) hysM
  by_cases hlt:k < p.2.length
  ·obtain ⟨d,hd⟩:∃ d,p.2[k]?=some d:=⟨_,Cg hlt⟩
   have hdrop:p.2.drop k=d :: p.2.drop (k+1):=by
    rw [List.drop_eq_getElem_cons hlt]
    rw [Cg hlt] at hd
    cases hd;rfl
   rw [hdrop] at e4
   obtain ⟨go,yld⟩:=wgo k d hd
   refine .inr ⟨go,fun σ5 H5=>∃ ρ5 g5,Wf K (eW G H1 g1 is) H5 σ5 ρ5 (els ++ (Ts ++ T).map bJ) g5/\fI bnd b (p.2.drop (k+1)) ρ5=some (r2,ρ3),fun σ5 H5 ⟨ρ5,g5,w5,e5⟩=>⟨p.2.length - (k+1),by omega,hlt,rfl,ρ5,g5,w5,e5⟩,fun x H'' hy=>?_⟩
   obtain ⟨u,nu,ud,uf,uv⟩:=yld x H'' hy
   have w5:Wf K (eW G H1 g1 is) H'' σ' ρ2 (u :: (els ++ (Ts ++ T).map bJ)) g2:=w4.push nu fun c hc=>w4.alls (ys:=els) (fun y hy=>⟨.inr (Cd _ hy),(hels y hy).1⟩) hc
   have e5:(match bnd d ρ2 with
    | none=>none
    | some ρ1=>ae b (fun f=>match f with
     | .nx=>fI bnd b (p.2.drop (k+1))
     | .ct=>fI bnd b (p.2.drop (k+1))
     | .br=>bx .nx
     | .rt d f=>bx (.rt d f)) ρ1)=some (r2,ρ3):=e4
   cases e6:bnd d ρ2 with
   | none=>rw [e6] at e5;exact nsE e5
   | some ρ6 =>
    rw [e6] at e5
    dsimp only at e5
    rw [<- uv]
    refine hb (eW G H1 g1 is) H'' σ' ρ2 ρ6 _ g2 u _ le.pr uf w5 (by rw [ud];exact e6) fun σ6 g6 w6=>?_
    unfold ae at e5
    cases e7:b ρ6 with
    | none=>rw [e7] at e5;exact nsE e5
    | some pr7 =>
     obtain ⟨o7,ρ7⟩:=pr7
     rw [e7] at e5
     cases o7 with
     | error er =>
      cases e5
      refine tS.mk (r:=.error er) le' w6 e7 ?_
      show W er (aP gK is _)
      rw [eρ];exact q
     | ok f =>
      cases f with
      | nx=>exact tS.mk (r:=.ok .nx) le' w6 e7 fun σ8 H8 g8 w8=>⟨ρ7,g8,w8,e5⟩
      | ct=>exact tS.mk (r:=.ok .ct) le' w6 e7 fun σ8 H8 g8 w8=>⟨ρ7,g8,w8,e5⟩
      | br =>
       cases e5
       refine tS.mk (r:=.ok .br) le' w6 e7 fun σ8 H8 g8 w8=>?_
       obtain ⟨g9,w9⟩:=leave (R:=[]) w8
       rw [eρ] at w9
       exact q _ _ _ w9
      | rt d' f' =>
       cases e5
       refine tS.mk (r:=.ok (.rt d' f')) le' w6 e7 fun x8 σ8 H8 g8 w8 x1 x2=>?_
       obtain ⟨g9,w9⟩:=leave (R:=[x8]) w8
       rw [eρ] at w9
       exact q x8 _ _ _ w9 x1 x2
  ·have ek:k=p.2.length:=by omega
   subst ek
   rw [List.drop_length] at e4
   cases e4
   obtain ⟨g9,w9⟩:=leave (R:=[]) w4
   rw [eρ] at w9
   exact .inl ⟨wstop,q _ _ _ w9⟩
end
end L3
end
section
namespace L3
open PySem L2
noncomputable def uz (ix:List (Option Nat)) (ρ:Sto):Sto:=ix.map fun o=>match o with
 | some i=>(ρ[i]?).join
 | none=>none
noncomputable def uncap:List (Option Nat)->Sto->Sto->Option Sto
 | [],_,ρ=>some ρ
 | none :: ix,τ,ρ=>uncap ix τ.tail ρ
 | some i :: ix,τ,ρ=>match (ρ[i]?).join,τ.head? with
  | some (_,f),some (some (d',f'))=>if f'=f\/f'=.z then uncap ix τ.tail (ρ.set i (some (d',f'))) else none
  | _,_=>none
noncomputable def cp (bnd:D->Sto->Option Sto) (c:M3 Bool) (elt:EM):List D->M3 (List D)
 | []=>bx []
 | d :: ds=>fun τ=>match bnd d τ with
  | none=>none
  | some τ1=>ae c (fun b=>if b then ae elt (fun r=>ae (gH r) fun p=>ae (cp bnd c elt ds) fun l=>bx (p.1 :: l)) else cp bnd c elt ds) τ1
noncomputable def bZ (im:IM) (bnd:D->Sto->Option Sto) (c:M3 Bool) (elt:EM) (ix:List (Option Nat)):EM:=ae im fun p=>fun ρ =>
 match cp bnd c elt p.2 (uz ix (aP dQ (us ρ (pls p.1)) ρ)) with
 | some (.ok ds,τ)=>if p.2.length < 16777216 then (uncap ix τ (aP dQ (us ρ (pls p.1)) ρ)).map fun ρ2=>(.ok (.val (.lst ds) .u),aP gK (us ρ (pls p.1)) ρ2) else none
 | _=>none
section
variable {K:FG} {G G0:Gm} {W W0:D->Sto->Prop} {H H':Hp} {σ τ:St} {ρ ρ':Sto} {T T':List It3} {g:Nat->Option It3} {x y z:It3} {α β:Type} {ix:List (Option Nat)}
noncomputable def Inj (ix:List (Option Nat)):Prop:=∀ (j k i:Nat),ix[j]?=some (some i)->ix[k]?=some (some i)->j=k
noncomputable def zF (ix:List (Option Nat)) (g:Nat->Option It3) (j:Nat):Option It3:=(ix[j]?).join.bind g
noncomputable def qC (ix:List (Option Nat)) (n:Nat) (g:Nat->Option It3):List It3:=(List.range n).filterMap fun i=>if some i ∈ ix then none else g i
noncomputable def xk (G:Gm) (ix:List (Option Nat)) (σ:St):Gm:=⟨G.H0,G.bw,fun j=>((ix[j]?).join).isSome,cap ix σ,fun _=>none,G.src,fun j=>(ix[j]?).join.bind G.lv⟩
theorem eK {j:Nat} (h:zF ix g j=some x):∃ i,ix[j]?=some (some i)/\g i=some x:=by
 unfold zF at h
 cases e:ix[j]? with
 | none=>rw [e] at h;exact nsE h
 | some o =>
  rw [e] at h
  cases o with
  | none=>exact nsE h
  | some i=>exact ⟨i,rfl,h⟩
set_option tactic.hygienic true in
theorem lG {n:Nat} (h:x ∈ qC ix n g):∃ i,some i ∉ ix/\g i=some x:=by
 obtain ⟨i,_,e⟩:=List.mem_filterMap.mp h
 split at e
 ·exact nsE e
 ·rename_i hn;exact ⟨i,hn,e⟩
theorem vU {n i:Nat} (hi:i < n) (hn:some i ∉ ix) (e:g i=some x):x ∈ qC ix n g:=List.mem_filterMap.mpr ⟨i,List.mem_range.mpr hi,by rw [if_neg hn];exact e⟩
theorem Wf.cap (w:Wf K G H σ ρ T g) (hij:Inj ix):Wf K (xk G ix σ) H (cap ix σ) (uz ix ρ) (qC ix ρ.length g ++ T) (zF ix g):=by
 have ne:∀ {i j:Nat},ix[j]?=some (some i)->∀ k,some k ∉ ix->i ≠ k:=fun e k hk q=>hk (by rw [<- q];exact Cm e)
 refine ⟨by unfold L2.cap uz;rw [Ck,Ck],fun j=>?_,fun j x h=>?_,fun j x h=>?_,fun x hx=>?_,fun j k x y n hx hy=>?_,fun j x h y hy=>?_,?_,w.base,fun _ _=>rfl,⟨fun _ _ _ _ _=>rfl,fun _ _ _ _ _ _ _=>rfl,w.fx.bin,fun b o e=>(by cases e),fun j x h hl=>?_⟩⟩
 ·unfold zF uz
  rw [Cp]
  cases e:ix[j]? with
  | none=>rfl
  | some o =>
   cases o with
   | none=>rfl
   | some i=>exact w.sl i
 ·obtain ⟨i,e1,e2⟩:=eK h
  unfold L2.cap
  rw [Cp,e1]
  show some ((σ[i]?).getD none)=_
  rw [w.sv i x e2];rfl
 ·obtain ⟨i,_,e2⟩:=eK h
  have ok:=w.okS i x e2
  exact ⟨ok.rep,ok.own,ok.src⟩
 ·rcases Ci.mp hx with h | h
  ·obtain ⟨i,_,e⟩:=lG h
   have ok:=w.okS i x e
   exact ⟨ok.rep,ok.own,ok.src⟩
  ·have ok:=w.okT x h
   exact ⟨ok.rep,ok.own,ok.src⟩
 ·obtain ⟨i,e1,e2⟩:=eK hx
  obtain ⟨i',e3,e4⟩:=eK hy
  exact w.ss i i' x y (fun q=>n (hij j k i e1 (q ▸ e3))) e2 e4
 ·obtain ⟨i,e1,e2⟩:=eK h
  rcases Ci.mp hy with q | q
  ·obtain ⟨k,hk,e⟩:=lG q
   have:=ne e1 k hk
   exact ⟨w.ss i k x y this e2 e,w.ss k i y x (Ne.symm this) e e2⟩
  ·exact w.st i x e2 y q
 ·refine List.pairwise_append.mpr ⟨?_,w.tt,fun a ha b hb=>?_⟩
  ·unfold qC
   rw [List.pairwise_filterMap]
   refine List.pairwise_lt_range.imp fun {i k} lt a ha b hb=>?_
   have ha':(if some i ∈ ix then none else g i)=some a:=ha
   have hb':(if some k ∈ ix then none else g k)=some b:=hb
   split at ha'
   ·cases ha'
   ·split at hb'
    ·cases hb'
    ·exact ⟨w.ss i k a b (Cs lt) ha' hb',w.ss k i b a (Nat.ne_of_gt lt) hb' ha'⟩
  ·obtain ⟨k,hk,e⟩:=lG ha
   exact w.st k a e b hb
 ·obtain ⟨i,e1,e2⟩:=eK h
  show (ix[j]?).join.bind G.lv=_
  rw [e1]
  exact w.fx.lvS i x e2 hl
theorem Wf.perm {T T':List It3} (w:Wf K G H σ ρ T g) (p:T.Perm T'):Wf K G H σ ρ T' g :=
 ⟨w.len,w.sl,w.sv,w.okS,fun x hx=>w.okT x (p.mem_iff.mpr hx),w.ss,fun i x e y hy=>w.st i x e y (p.mem_iff.mpr hy),(p.pairwise_iff fun h=>Apart3.symm h).mp w.tt,w.base,w.pro,w.fx.sub fun x hx=>p.mem_iff.mpr hx⟩
set_option tactic.hygienic true in
theorem iT:∀ {ix:List (Option Nat)} {τ ρ ρ2:Sto},uncap ix τ ρ=some ρ2->Inj ix->ρ2.length = ρ.length/\(∀ i,some i ∉ ix->(ρ2[i]?).join=(ρ[i]?).join) /\
  ∀ (j i:Nat),ix[j]?=some (some i)->∃ p q,(ρ[i]?).join=some p/\(τ[j]?).join=some q/\(ρ2[i]?).join=some q/\(q.2=p.2\/q.2=.z)
 | [],τ,ρ,ρ2,e,_=>by cases e;exact ⟨rfl,fun _ _=>rfl,fun j i h=>by simp at h⟩
 | none :: ix,τ,ρ,ρ2,e,hij=>by
  unfold uncap at e
  obtain ⟨h1,h2,h3⟩:=iT e fun j k i a b=>by
   have:=hij (j+1) (k+1) i (by simpa using a) (by simpa using b)
   omega
  refine ⟨h1,fun i hi=>h2 i fun q=>hi (B9 _ q),fun j i h=>?_⟩
  cases j with
  | zero=>simp at h
  | succ j =>
   obtain ⟨p,q,a,b,c⟩:=h3 j i (by simpa using h)
   exact ⟨p,q,a,by rw [List.getElem?_tail] at b;exact b,c⟩
 | some i0 :: ix,τ,ρ,ρ2,e,hij=>by
  unfold uncap at e
  cases e1:(ρ[i0]?).join with
  | none=>rw [e1] at e;exact nsE e
  | some p =>
   obtain ⟨d,f⟩:=p
   cases e2:τ.head? with
   | none=>rw [e1,e2] at e;exact nsE e
   | some o =>
    cases o with
    | none=>rw [e1,e2] at e;exact nsE e
    | some q =>
     obtain ⟨d',f'⟩:=q
     rw [e1,e2] at e
     dsimp only at e
     split at e
     ·rename_i hf
      have hi0:=eG e1
      have no0:some i0 ∉ ix:=fun m=>by
       obtain ⟨k,hk,ek⟩:=List.mem_iff_getElem.mp m
       have:=hij 0 (k+1) i0 rfl (by simp [hk,ek])
       omega
      obtain ⟨h1,h2,h3⟩:=iT e fun j k i a b=>by
       have:=hij (j+1) (k+1) i (by simpa using a) (by simpa using b)
       omega
      refine ⟨by rw [h1,List.length_set],fun i hi=>?_,fun j i h=>?_⟩
      ·rw [h2 i fun q=>hi (B9 _ q),cn hi0,if_neg (fun q=>hi (by rw [q];exact B8))]
      ·cases j with
       | zero =>
        simp at h
        subst h
        refine ⟨(d,f),(d',f'),e1,?_,?_,hf⟩
        ·rw [List.head?_eq_getElem?] at e2;rw [e2];rfl
        ·rw [h2 i0 no0,cn hi0,if_pos rfl]
       | succ j =>
        have hji:ix[j]?=some (some i):=by simpa using h
        obtain ⟨p,q,a,b,c⟩:=h3 j i hji
        have ii:i ≠ i0:=fun z=>no0 (by rw [<- z];exact Cm hji)
        rw [cn hi0,if_neg ii] at a
        exact ⟨p,q,a,by rw [List.getElem?_tail] at b;exact b,c⟩
     ·exact nsE e
theorem Wf.uncap {τ':St} {τρ ρ2:Sto} {gC:Nat->Option It3} {R:List It3} (w:Wf K G H σ ρ T g) (hH:∀ b o,H b=some o->G.H0 b=some o) (hij:Inj ix) (e:L3.uncap ix τρ ρ=some ρ2) (hR:∀ x ∈ R,x.f=.z) (w2:Wf K (xk G ix σ) H' τ' τρ (R ++ (qC ix ρ.length g ++ T)) gC) :
  ∃ g2,Wf K G H' σ ρ2 (R ++ T) g2:=by
 obtain ⟨hl,h2,h3⟩:=iT e hij
 let inv (i:Nat):Option Nat:=(List.range ix.length).find? fun j=>decide (ix[j]?=some (some i))
 have inv_some:∀ i j,inv i=some j->ix[j]?=some (some i):=fun i j h=>by simpa using List.find?_some h
 have inv_none:∀ i,inv i=none->some i ∉ ix:=fun i h m=>by
  obtain ⟨k,hk,ek⟩:=List.mem_iff_getElem.mp m
  have:=List.find?_eq_none.mp h k (List.mem_range.mpr hk)
  simp [hk,ek] at this
 let g2 (i:Nat):Option It3:=match inv i with | some j=>gC j | none=>g i
 have val:∀ i u,g2 i=some u->(∃ j p q,ix[j]?=some (some i)/\gC j=some u/\(ρ[i]?).join=some p/\(τρ[j]?).join=some q/\(q.2=p.2\/q.2=.z))\/(some i ∉ ix/\g i=some u):=fun i u h=>by
  have h':(match inv i with | some j=>gC j | none=>g i)=some u:=h
  cases ei:inv i with
  | none=>rw [ei] at h';exact .inr ⟨inv_none i ei,h'⟩
  | some j =>
   rw [ei] at h'
   obtain ⟨p,q,a,b,_,c⟩:=h3 j i (inv_some i j ei)
   exact .inl ⟨j,p,q,inv_some i j ei,h',a,b,c⟩
 have out:∀ i u,some i ∉ ix->g i=some u->u ∈ qC ix ρ.length g:=fun i u hn e=>by
  have s:=w.sl i
  rw [e] at s
  exact vU (eG s.symm) hn e
 have back:∀ i j u,ix[j]?=some (some i)->gC j=some u->σ[i]?=some (some u.v):=fun i j u ej eu=>by
  have a:=w2.sv j u eu
  have b:=w2.pro j (by show ((ix[j]?).join).isSome=true;rw [ej];rfl)
  rw [a] at b
  have b:some (some u.v)=(L2.cap ix σ)[j]?:=b
  unfold L2.cap at b
  rw [Cp,ej] at b
  have b:some (some u.v)=some ((σ[i]?).getD none):=b
  cases q:σ[i]? with
  | none=>rw [q] at b;cases b
  | some o=>rw [q] at b;cases b;rfl
 have was:∀ i j u p q,ix[j]?=some (some i)->gC j=some u->(ρ[i]?).join=some p->(τρ[j]?).join=some q->(q.2=p.2\/q.2=.z)->∃ y,g i=some y/\y.v=u.v/\(u.f=y.f\/u.f=.z):=fun i j u p q ej eu ep eq hf=>by
  obtain ⟨y,y1,y2,y3,y4⟩:=w.slot (d:=p.1) (f:=p.2) ep
  have b:=back i j u ej eu
  rw [y4] at b
  have s:=w2.sl j
  rw [eu,eq] at s
  have s:some (u.d,u.f)=some q:=s
  refine ⟨y,y1,by injection b with b;injection b,?_⟩
  rw [y3,show u.f=q.2 by injection s with s;rw [<- s]]
  exact hf
 refine ⟨g2,⟨by rw [hl];exact w.len,fun i=>?_,fun i u h=>?_,fun i u h=>?_,fun u hu=>?_,fun i k a b n ha hb=>?_,fun i a h b hb=>?_,w2.tt.sublist ((List.Sublist.refl R).append (Cn _ T)),w2.base,w.pro,⟨fun u hu hf=>?_,fun i u h hp hf a ea=>?_,w2.fx.bin,fun b o hb=>?_,fun i u h hl=>?_⟩⟩⟩
 ·show (match inv i with | some j=>gC j | none=>g i).map _=_
  cases ei:inv i with
  | none=>rw [h2 i (inv_none i ei)];exact w.sl i
  | some j =>
   obtain ⟨p,q,a,b,c,_⟩:=h3 j i (inv_some i j ei)
   rw [c,<- b];exact w2.sl j
 ·rcases val i u h with ⟨j,p,q,ej,eu,_⟩ | ⟨hn,e⟩
  ·exact back i j u ej eu
  ·exact w.sv i u e
 ·rcases val i u h with ⟨j,p,q,ej,eu,_⟩ | ⟨hn,e⟩
  ·have ok:=w2.okS j u eu
   exact ⟨ok.rep,ok.own,ok.src⟩
  ·have ok:=w2.okT u (Ce _ (Cd _ (out i u hn e)))
   exact ⟨ok.rep,ok.own,ok.src⟩
 ·have ok:=w2.okT u (by
   rcases Ci.mp hu with q | q
   ·exact Cd _ q
   ·exact Ce _ (Ce _ q))
  exact ⟨ok.rep,ok.own,ok.src⟩
 ·rcases val i a ha with ⟨j,p,q,ej,eu,_⟩ | ⟨hn,e⟩
  ·rcases val k b hb with ⟨j',p',q',ej',eu',_⟩ | ⟨hn',e'⟩
   ·exact w2.ss j j' a b (fun z=>n (by subst z;rw [ej] at ej';injection ej' with z;injection z)) eu eu'
   ·exact (w2.st j a eu b (Ce _ (Cd _ (out k b hn' e')))).1
  ·rcases val k b hb with ⟨j',p',q',ej',eu',_⟩ | ⟨hn',e'⟩
   ·exact (w2.st j' b eu' a (Ce _ (Cd _ (out i a hn e)))).2
   ·exact w.ss i k a b n e e'
 ·have hb':b ∈ R ++ (qC ix ρ.length g ++ T):=by
   rcases Ci.mp hb with q | q
   ·exact Cd _ q
   ·exact Ce _ (Ce _ q)
  rcases val i a h with ⟨j,p,q,ej,eu,_⟩ | ⟨hn,e⟩
  ·exact w2.st j a eu b hb'
  ·rcases Ci.mp hb with q | q
   ·exact ((List.pairwise_append.mp w2.tt).2.2 b q a (Cd _ (out i a hn e))).symm
   ·exact w.st i a e b q
 ·rcases Ci.mp hu with q | q
  ·exact absurd (hR u q) hf
  ·exact w.fx.frT u q hf
 ·rcases val i u h with ⟨j,p,q,ej,eu,ep,eq,hc⟩ | ⟨hn,e⟩
  ·obtain ⟨y,y1,y2,y3⟩:=was i j u p q ej eu ep eq hc
   refine w.fx.frS i y y1 hp (fun z=>hf ?_) a (by rw [y2];exact ea)
   rcases y3 with h | h
   ·rw [h];exact z
   ·exact h
  ·exact w.fx.frS i u e hp hf a ea
 ·obtain ⟨o',ho⟩:=w.fx.ob b o hb
  have h0:=hH b o' ho
  by_cases q:G.bw b
  ·exact w2.fx.bin b q
  ·exact ⟨o',w2.base b o' h0 q⟩
 ·rcases val i u h with ⟨j,p,q,ej,eu,ep,eq,hc⟩ | ⟨hn,e⟩
  ·obtain ⟨y,y1,y2,y3⟩:=was i j u p q ej eu ep eq hc
   rw [<- y2]
   refine w.fx.lvS i y y1 ?_
   rcases y3 with h | h
   ·rw [<- h];exact hl
   ·rw [h] at hl;cases hl
  ·exact w.fx.lvS i u e hl
theorem ux {J:It} {H1:Hp} {ys els:List It3} {ds:List D} {bnd:D->Sto->Option Sto} {c:M3 Bool} {elt:EM} {tg:TG} {tc:TT} {te:TE} {Gc:Gm} {Rst:List It3} {ds':List D} {τρ τρ':Sto} {gC:Nat->Option It3} {Z:List V->Hp->Prop} {M:Addr->Prop}
  (hz:(16777216:Nat)=sizeLine) (hel:∀ x ∈ els,x ∈ Rst/\x.f=.z)
  (hgo:∀ H',(∀ b o,H1 b=some o->¬ Gc.bw b->H' b=some o)->(∀ (i:Nat) (d:D),ds[i]?=some d->J.go i H'/\∀ x H'',J.yld i H' x H''->∃ w,New K H' H'' (ee els) w/\w.d=d/\w.f=.z/\w.v=x)/\J.stop ds.length H')
  (h0:Gc.H0=H1) (hb:Bnd K Gc.pr tg bnd) (htc:∀ σ H Q,tT K Gc (fun _ _=>False) c σ H Q->tc σ H Q) (hte:∀ σ H Q,tE K Gc (fun _ _=>False) elt σ H Q->te σ H Q)
  (hlen:ds.length < 16777216) (w:Wf K Gc H1 τ τρ Rst gC) (e:cp bnd c elt ds τρ=some (.ok ds',τρ'))
  (hZ:∀ (us:List It3) (τ':St) (H':Hp) (g':Nat->Option It3),(∀ x ∈ us,x.f=.z)->us.map (·.d)=ds'->Wf K Gc H' τ' τρ' (us ++ Rst) g'->Z (us.map (·.v)) H'):p9 J tg tc te Z τ H1:=by
 refine ⟨fun i m vs τ' H'=>i<=ds.length/\m=ds.length - i/\vs.length<=i/\∃ (us:List It3) (ρ2:Sto) (g2:Nat->Option It3) (r:List D),(∀ x ∈ us,x.f=.z)/\us.map (·.v)=vs/\Wf K Gc H' τ' ρ2 (us ++ Rst) g2/\cp bnd c elt (ds.drop i) ρ2=some (.ok r,τρ')/\us.map (·.d) ++ r=ds',⟨_,Nat.zero_le _,rfl,Cq _,[],τρ,gC,ds',fun _ h=>(by cases h),rfl,w,e,rfl⟩,?_⟩
 rintro i m vs τ1 H2 ⟨hi,rfl,hvl,us,ρ2,g2,r,huz,huv,w2,e2,hds⟩
 refine ⟨by omega,?_⟩
 obtain ⟨wgo,wstop⟩:=hgo H2 fun b o hb' hn=>w2.base b o (by rw [h0];exact hb') hn
 by_cases hlt:i < ds.length
 ·obtain ⟨d,hd⟩:∃ d,ds[i]?=some d:=⟨_,Cg hlt⟩
  have hdrop:ds.drop i=d :: ds.drop (i+1):=by
   rw [List.drop_eq_getElem_cons hlt]
   rw [Cg hlt] at hd
   cases hd;rfl
  rw [hdrop] at e2
  obtain ⟨go,yld⟩:=wgo i d hd
  refine .inr ⟨go,fun vs5 τ5 H5=>vs5.length<=i+1/\∃ (us:List It3) (ρ5:Sto) (g5:Nat->Option It3) (r:List D),(∀ x ∈ us,x.f=.z)/\us.map (·.v)=vs5/\Wf K Gc H5 τ5 ρ5 (us ++ Rst) g5/\cp bnd c elt (ds.drop (i+1)) ρ5=some (.ok r,τρ')/\us.map (·.d) ++ r=ds',
   fun vs5 τ5 H5 ⟨hl5,h5⟩=>⟨ds.length - (i+1),by omega,hlt,rfl,hl5,h5⟩,fun x H'' hy=>?_⟩
  obtain ⟨u,nu,ud,uf,uv⟩:=yld x H'' hy
  have w3:Wf K Gc H'' τ1 ρ2 (u :: (us ++ Rst)) g2:=w2.push nu fun c hc=>w2.alls (ys:=els) (fun y hy=>⟨.inr (Ce _ (hel y hy).1),(hel y hy).2⟩) hc
  have e3:(match bnd d ρ2 with
   | none=>none
   | some τ1=>ae c (fun b=>if b then ae elt (fun r=>ae (gH r) fun p=>ae (cp bnd c elt (ds.drop (i+1))) fun l=>bx (p.1 :: l)) else cp bnd c elt (ds.drop (i+1))) τ1)=some (.ok r,τρ'):=e2
  cases e4:bnd d ρ2 with
  | none=>rw [e4] at e3;exact nsE e3
  | some ρ3 =>
   rw [e4] at e3
   dsimp only at e3
   rw [<- uv]
   refine hb Gc H'' τ1 ρ2 ρ3 _ g2 u _ rfl uf w3 (by rw [ud];exact e4) fun τ4 g4 w4=>?_
   refine htc _ _ _ (tT.seq (Le.refl K Gc _) w4 e3 (fun x hx=>by cases hx) fun b ρ5 e5 H5 g5 w5=>?_)
   cases b with
   | false =>
    simp only [CI,if_false] at e5 ⊢
    exact ⟨by omega,us,ρ5,g5,r,huz,huv,w5,e5,hds⟩
   | true =>
    simp only [if_true] at e5 ⊢
    refine hte _ _ _ (tE.seq (Le.refl K Gc _) w5 e5 (fun x hx=>by cases hx) fun ra ρ6 e6 v H6 ⟨Ts,g6,w6,a6⟩=>?_)
    obtain ⟨p,ρ7,g7,x7,e7,w7,f1,f2,_,f3⟩:=a6.take w6 e6
    have w8:=Wf.lowT (Ts:=[x7]) w7
    unfold ae at e7
    cases e8:cp bnd c elt (ds.drop (i+1)) ρ7 with
    | none=>rw [e8] at e7;exact nsE e7
    | some pr =>
     obtain ⟨o,ρ8⟩:=pr
     rw [e8] at e7
     cases o with
     | error x=>cases e7
     | ok l =>
      cases e7
      refine ⟨by rw [CB];simp;omega,us ++ [d5 x7],ρ7,g7,l,fun y hy=>?_,by rw [List.map_append,huv,<- f3];rfl,?_,e8,?_⟩
      ·rcases Ci.mp hy with h | h
       ·exact huz y h
       ·rw [CH.mp h];rfl
      ·exact w8.perm (by
        show ([d5 x7] ++ (us ++ Rst)).Perm (us ++ [d5 x7] ++ Rst)
        rw [<- List.append_assoc]
        exact (List.perm_append_comm).append_right Rst)
      ·rw [List.map_append,List.append_assoc]
       show us.map (·.d) ++ ((d5 x7).d :: l)=ds'
       rw [show (d5 x7).d=p.1 from f1]
       exact hds
 ·have ei:i=ds.length:=by omega
  subst ei
  rw [List.drop_length] at e2
  cases e2
  rw [List.append_nil] at hds
  subst huv
  exact .inl ⟨wstop,hZ us τ1 H2 g2 huz hds w2⟩
end
end L3
end
section
namespace L3
open PySem L2
section
variable {K:FG} {G G0:Gm} {W W0:D->Sto->Prop} {H H':Hp} {σ τ:St} {ρ ρ':Sto} {T T':List It3} {g:Nat->Option It3} {x y z:It3} {α β:Type} {ix:List (Option Nat)}
noncomputable def b7 (ix:List (Option Nat)):Gm:=⟨fun _=>none,fun _=>False,fun j=>((ix[j]?).join).isSome,[],fun _=>none,fun _=>False,fun _=>none⟩
noncomputable abbrev noX:D->Sto->Prop:=fun _ _=>False
theorem r0 {G1:Gm} (h:G1.pr=(b7 ix).pr) (le:Le K G W G1 noX):Le K G W (b7 ix) noX:=⟨le.pr.trans h,fun H σ ρ T g e w q=>by
 obtain ⟨_,_,_,_,f⟩:=le.ex H σ ρ T g e w q
 exact f.elim⟩
theorem xR {G1:Gm} {m:EM} {Q:VK} (h:G1.pr=(b7 ix).pr) (q:tE K G1 noX m σ H Q):tE K (b7 ix) noX m σ H Q:=by
 obtain ⟨G,W,le,r⟩:=q
 exact ⟨G,W,r0 h le,r⟩
theorem xJ {G1:Gm} {m:M3 Bool} {Q:Bool->Hp->Prop} (h:G1.pr=(b7 ix).pr) (q:tT K G1 noX m σ H Q):tT K (b7 ix) noX m σ H Q:=by
 obtain ⟨G,W,le,r⟩:=q
 exact ⟨G,W,r0 h le,r⟩
noncomputable def dW:M3 Bool:=bx true
theorem Ay {Q:Bool->Hp->Prop} (h:tT K G0 W0 dW σ H Q):tYes σ H Q:=by
 refine h.use fun G W le ρ T g o ρ' w e q=>?_
 cases e
 exact q _ _ w
set_option tactic.hygienic true in
theorem j5 {bnd:D->Sto->Option Sto} {c:M3 Bool} {elt:EM}:∀ {ds ds':List D} {τρ τρ':Sto},cp bnd c elt ds τρ=some (.ok ds',τρ')->ds'.length<=ds.length
 | [],ds',τρ,τρ',e=>by cases e;exact Cq _
 | d :: ds,ds',τρ,τρ',e=>by
  unfold cp at e
  split at e
  ·exact nsE e
  ·rename_i τ1 _
   unfold ae at e
   split at e
   ·exact nsE e
   ·cases e
   ·rename_i b τ2 _
    cases b with
    | false =>
     simp only [CI,if_false] at e
     have:=j5 e
     simp;omega
    | true =>
     simp only [if_true] at e
     split at e
     ·exact nsE e
     ·cases e
     ·split at e
      ·exact nsE e
      ·cases e
      ·split at e
       ·exact nsE e
       ·cases e
       ·rename_i l τ5 h5
        cases e
        have:=j5 h5
        simp;omega
set_option tactic.hygienic true in
theorem pN {im:IM} {bnd:D->Sto->Option Sto} {c:M3 Bool} {elt:EM} {tg:TG} {o:Except D R3} {Z:List V->Hp->Prop} (hz:(16777216:Nat)=sizeLine) (hij:Inj ix) (hb:Bnd K (b7 ix).pr tg bnd) (le:Le K G W G0 W0) (w:Wf K G H σ ρ T g) (e:bZ im bnd c elt ix ρ=some (o,ρ')) (he:∀ x,o=.error x->W x ρ')
  (hZ:∀ (us:List It3) (H':Hp) (g':Nat->Option It3) (Ts:List It3) (ds:List D),o=.ok (.val (.lst ds) .u)->(∀ x ∈ us,x.f=.z)->us.map (·.d)=ds->us.length<=16777216->Wf K G H' σ ρ' (us ++ T) g'->Z (us.map (·.v)) H') :
  tI K G0 W0 im σ H fun J H1=>p9 J tg (tT K (b7 ix) noX c) (tE K (b7 ix) noX elt) Z (cap ix σ) H1:=by
 refine tI.seq le w e he fun p ρ1 e1=>?_
 intro J H1 vs Ts g1 ys w1 a1 hys hw
 have his:=us_u (is:=pls p.1) w1
 have hus:∀ i y,i ∈ pls p.1->g1 i=some y->y.f=.u->i ∈ us ρ1 (pls p.1):=fun i y hi ey hf=>u5 w1 hi ey hf
 generalize us ρ1 (pls p.1)=is at e1 his hus
 have w2:=w1.enter is
 obtain ⟨els,hels,walk⟩:=hw
 have hM:∀ b,(∃ j y,j ∉ is/\g1 j=some y/\y.f=.u/\y.v=.ref b)->MutAt H1 b:=fun b ⟨j,y,_,ey,hf,hv⟩=>by
  obtain ⟨_,a,L',v1,v2,_⟩:=(w1.okS j y ey).own (by rw [hf];intro q;cases q)
  rw [hv] at v1;cases v1
  exact (w1.okS j y ey).rep.inH b (by rw [v2];exact B8)
 have hysM:∀ y ∈ ys,∀ b ∈ y.L,¬ ∃ j y,j ∉ is/\g1 j=some y/\y.f=.u/\y.v=.ref b:=fun y hy b hb ⟨j,y',nj,ey',hf,hv⟩=>by
  have hfz:y'.f ≠ .z:=by rw [hf];intro q;cases q
  rcases hys y hy with ⟨i,hi,ei⟩ | hy
  ·by_cases ij:i=j
   ·subst ij
    rw [ei] at ey';cases ey'
    exact nj (hus i y hi ei hf)
   ·exact w1.ss j i y' y (Ne.symm ij) ey' ei hfz b hv hb
  ·exact (w1.st j y' ey' y (Cd _ hy)).1 hfz b hv hb
 have hitm:∀ y ∈ ys,Itm (Ts ++ T) g1 y:=fun y hy=>by
  rcases hys y hy with ⟨i,_,ei⟩ | h
  ·exact .inl ⟨i,ei⟩
  ·exact .inr (Cd _ h)
 have kid:∀ x ∈ els,∀ c ∈ x.L,eI ((Ts ++ T).map bJ) (fun j=>if j ∈ is then (g1 j).map bJ else g1 j) c/\(H1 c=none\/(G.H0 c=none\/G.src c)):=fun x hx c hc=>by
  obtain ⟨nr,sr⟩:=w1.kids hitm ((hels x hx).2.2 c hc)
  refine ⟨⟨fun i z ez hf hv=>?_,fun z hz hf hv=>?_⟩,.inr sr⟩
  ·have ez:(if i ∈ is then (g1 i).map bJ else g1 i)=some z:=ez
   by_cases q:i ∈ is
   ·rw [if_pos q] at ez
    obtain ⟨z0,e0,e1⟩:=Cc.mp ez
    subst e1
    exact nr.1 i z0 e0 (fun q=>hf (lentF_z.mpr q)) hv
   ·rw [if_neg q] at ez
    exact nr.1 i z ez hf hv
  ·obtain ⟨z0,h0,rfl⟩:=Co.mp hz
   exact nr.2 z0 h0 (fun q=>hf (lentF_z.mpr q)) hv
 have w3:Wf K (eW G H1 g1 is) H1 σ (aP dQ is ρ1) (els ++ (Ts ++ T).map bJ) (fun j=>if j ∈ is then (g1 j).map bJ else g1 j):=w2.pushAll fun x hx=>⟨(hels x hx).1,(hels x hx).2.1,fun c hc=>kid x hx c hc⟩
 have w4:=w3.cap hij
 cases e2:cp bnd c elt p.2 (uz ix (aP dQ is ρ1)) with
 | none=>rw [e2] at e1;exact nsE e1
 | some rr =>
  obtain ⟨o2,τρ⟩:=rr
  rw [e2] at e1
  cases o2 with
  | error x=>exact nsE e1
  | ok ds =>
   dsimp only at e1
   split at e1
   ·rename_i hlen
    cases e3:uncap ix τρ (aP dQ is ρ1) with
    | none=>rw [e3] at e1;exact nsE e1
    | some ρ3 =>
     rw [e3] at e1
     have eo:o=.ok (.val (.lst ds) .u)/\ρ'=aP gK is ρ3:=by cases e1;exact ⟨rfl,rfl⟩
     obtain ⟨eo,eρ⟩:=eo
     refine ux (K:=K) (Gc:=xk (eW G H1 g1 is) ix σ) (els:=els) (M:=fun _=>False) (ys:=ys) hz (fun x hx=>⟨Ce _ (Cd _ hx),(hels x hx).1⟩) (fun H' hk=>walk _ H' hM hk hysM) rfl hb (fun σ' H Q q=>xJ (G1:=xk (eW G H1 g1 is) ix σ) rfl q) (fun σ' H Q q=>xR (G1:=xk (eW G H1 g1 is) ix σ) rfl q) hlen w4 e2 fun us τ' H' g' huz hud w5=>?_
     obtain ⟨g6,w6⟩:=Wf.uncap w3 (fun b o h=>h) hij e3 huz w5
     have w7:=Wf.leave (T:=Ts ++ T) (T':=T) (R:=us) w1 his (Cn Ts T) (w6.sub ((List.Sublist.refl us).append (by
      rw [List.map_append]
      exact (Cn (Ts.map bJ) (T.map bJ)).trans (Cn els _))))
     have hle:us.length<=16777216:=by
      have h1:us.length=ds.length:=by rw [<- hud,Ck]
      have h2:=j5 e2
      omega
     rw [<- eρ] at w7
     exact hZ us H' _ Ts ds eo huz hud hle w7
   ·exact nsE e1
theorem m8 {us:List It3} {p:Addr} (w:Wf K G H σ ρ (us ++ T) g) (huz:∀ x ∈ us,x.f=.z) (hp:H p=none) :
  Wf K G (upd H p (.lst (us.map (·.v)))) σ ρ (⟨.lst (us.map (·.d)),.ref p,p :: (us.map (·.L)).flatten,.u⟩ :: T) g:=by
 have hi:∀ y ∈ us,Itm (us ++ T) g y/\y.f=.z:=fun y hy=>⟨.inr (Cd _ hy),huz y hy⟩
 have np:p ∉ (us.map (·.L)).flatten:=fun hc=>by
  obtain ⟨y,hm,hc⟩:=fP hc
  obtain ⟨o,ho⟩:=((w.itm (hi y hm).1).rep.inH p hc).ex
  rw [hp] at ho;exact nsE ho
 have n:New K H (upd H p (.lst (us.map (·.v)))) (ee us) ⟨.lst (us.map (·.d)),.ref p,p :: (us.map (·.L)).flatten,.u⟩:=⟨bH hp,.lst bh ((kO fun y hy=>(w.itm (hi y hy).1).rep).same (bH hp)),fun c hc=>by
  rcases Cf.mp hc with e | hc
  ·rw [e];exact .inl hp
  ·exact .inr (fP hc),fun _=>⟨rfl,p,_,rfl,rfl,np,hp⟩⟩
 exact (w.push n fun c h=>w.alls hi h).sub (List.Sublist.cons_cons _ (Cn us T))
theorem xU {im:IM} {bnd:D->Sto->Option Sto} {c:M3 Bool} {elt:EM} {tg:TG} {Q:VK} (hz:(16777216:Nat)=sizeLine) (hij:Inj ix) (hb:Bnd K (b7 ix).pr tg bnd) (h:tE K G0 W0 (bZ im bnd c elt ix) σ H Q) :
  z5 (tI K G0 W0 im) tg (tT K (b7 ix) noX c) (tE K (b7 ix) noX elt) ix σ H Q:=by
 refine h.use fun G W le ρ T g o ρ' w e q=>?_
 refine pN hz hij hb le w e q.err fun us H' g' Ts ds eo huz hud hl w1=>?_
 subst eo hud
 intro p hp
 have w2:=m8 w1 huz hp
 exact q (.ref p) _ ⟨[_],g',w2,Ar.val (⟨.lst (us.map (·.d)),.ref p,p :: (us.map (·.L)).flatten,.u⟩:It3)⟩
set_option tactic.hygienic true in
theorem qd {i:Nat} {im:IM} {bnd:D->Sto->Option Sto} {c:M3 Bool} {elt:EM} {tg:TG} {E:Ends} (hz:(16777216:Nat)=sizeLine) (hij:Inj ix) (hb:Bnd K (b7 ix).pr tg bnd) (hp:G0.pr i=false) (h:tS K G0 W0 (aN i (bZ im bnd c elt ix)) E σ H) :
  z8 i (tI K G0 W0 im) tg (tT K (b7 ix) noX c) (tE K (b7 ix) noX elt) ix E σ H:=by
 refine h.use fun G W le ρ T g r ρ' w e q=>?_
 unfold aN ae at e
 cases e1:bZ im bnd c elt ix ρ with
 | none=>rw [e1] at e;exact nsE e
 | some pr =>
  obtain ⟨o,ρ1⟩:=pr
  rw [e1] at e
  have herr:∀ x,o=.error x->W x ρ1:=fun x hx=>by subst hx;cases e;exact q
  refine pN hz hij hb le w e1 herr fun us H' g' Ts ds eo huz hud hl w1=>?_
  subst eo hud
  intro p hp'
  have w2:=m8 w1 huz hp'
  have e:(if i < ρ1.length then some ((.ok .nx,ρ1.set i (some (D.lst (us.map (·.d)),Fl.u))):Except D Flw × Sto) else none)=some (r,ρ'):=e
  split at e
  ·rename_i hi
   cases e
   exact q _ _ _ (w2.store (f:=.u) hi (by rw [le.pr];exact hp) (.inl rfl) (by intro h;cases h))
  ·exact nsE e
end
end L3
end
section
namespace L3
open PySem L2
section
variable {K:FG} {G G0:Gm} {W W0:D->Sto->Prop} {H H':Hp} {σ:St} {ρ ρ':Sto} {T T':List It3} {g:Nat->Option It3} {x y z:It3} {α β:Type}
theorem Wf.mutate {i:Nat} {a:Addr} {o':HO} {d':D} {L0:List Addr} (w:Wf K G H σ ρ T g) (ey:g i=some y) (hu:y.f=.u) (ev:y.v=.ref a) (hm:jw d'=true) (rep:Rep K (upd H a o') d' (.ref a) (a :: L0)) (na:a ∉ L0)
  (hk:∀ c ∈ L0,eI T g c/\(G.H0 c=none\/G.src c)):Wf K G (upd H a o') σ (ρ.set i (some (d',.u))) T (fun j=>if j=i then some ⟨d',.ref a,a :: L0,.u⟩ else g j):=by
 have hfz:y.f ≠ .z:=by rw [hu];intro q;cases q
 have oy:=w.okS i y ey
 obtain ⟨_,a',L',v1,v2,v3,v4⟩:=oy.own hfz
 rw [ev] at v1;cases v1
 have hi:i < ρ.length:=by
  have:=w.sl i
  rw [ey] at this
  exact eG this.symm
 have ma:MutAt H a:=oy.rep.inH a (by rw [v2];exact B8)
 have val:∀ j u,(if j=i then some (⟨d',.ref a,a :: L0,.u⟩:It3) else g j)=some u->(j=i/\u=⟨d',.ref a,a :: L0,.u⟩)\/(j ≠ i/\g j=some u):=fun j u h=>by
  by_cases q:j=i
  ·rw [if_pos q] at h;cases h;exact .inl ⟨q,rfl⟩
  ·rw [if_neg q] at h;exact .inr ⟨q,h⟩
 have keep:∀ u,ItOk K G H u->a ∉ u.L->ItOk K G (upd H a o') u:=fun u ou hn=>ou.keep (M:=fun b=>b=a) (fun b o hb n=>by rw [aL n];exact hb) (fun b e=>by rw [e];exact ma) fun b hb e=>hn (by rw [<- e];exact hb)
 have nS:∀ j u,j ≠ i->g j=some u->a ∉ u.L:=fun j u n e=>w.ss i j y u (Ne.symm n) ey e hfz a ev
 have nT:∀ u ∈ T,a ∉ u.L:=fun u hu'=>(w.st i y ey u hu').1 hfz a ev
 have dom:∀ b o,H b=some o->∃ o'',upd H a o' b=some o'':=fun b o hb=>by
  by_cases q:b=a
  ·rw [q,bh];exact ⟨_,rfl⟩
  ·rw [aL q];exact ⟨o,hb⟩
 refine ⟨by rw [List.length_set];exact w.len,fun j=>?_,fun j u h=>?_,fun j u h=>?_,fun u hu'=>keep u (w.okT u hu') (nT u hu'),fun j k p q n hp hq=>?_,fun j u h t ht=>?_,w.tt,fun b o e n=>?_,w.pro,⟨w.fx.frT,fun j u h hp hf b eb=>?_,fun b hb=>?_,fun b o hb=>?_,fun j u h hl=>?_⟩⟩
 ·rw [cn hi]
  by_cases q:j=i
  ·rw [if_pos q,if_pos q];rfl
  ·rw [if_neg q,if_neg q];exact w.sl j
 ·rcases val j u h with ⟨rfl,rfl⟩ | ⟨n,h⟩
  ·rw [w.sv j y ey,ev]
  ·exact w.sv j u h
 ·rcases val j u h with ⟨rfl,rfl⟩ | ⟨n,h⟩
  ·refine ⟨rep,fun _=>⟨hm,a,L0,rfl,rfl,na,fun _=>v4 hu⟩,fun c hc=>?_⟩
   rcases Cf.mp hc with e | hc
   ·rw [e];exact oy.src a (by rw [v2];exact B8)
   ·exact (hk c hc).2
  ·exact keep u (w.okS j u h) (nS j u n h)
 ·rcases val j p hp with ⟨ej,ep⟩ | ⟨n1,hp'⟩
  ·rcases val k q hq with ⟨ek,eq⟩ | ⟨n2,hq'⟩
   ·exact absurd (ej.trans ek.symm) n
   ·rw [ep]
    intro _ c ec
    cases ec
    exact nS k q n2 hq'
  ·rcases val k q hq with ⟨ek,eq⟩ | ⟨n2,hq'⟩
   ·rw [eq]
    intro hf c ec hc
    rcases Cf.mp hc with e | hc
    ·obtain ⟨_,b,L2,u1,u2,_⟩:=(w.okS j p hp').own hf
     rw [ec] at u1;cases u1
     exact nS j p n1 hp' (by rw [<- e,u2];exact B8)
    ·exact (hk c hc).1.1 j p hp' hf ec
   ·exact w.ss j k p q n hp' hq'
 ·rcases val j u h with ⟨ej,eu⟩ | ⟨n,h'⟩
  ·rw [eu]
   refine ⟨fun _ c ec=>by cases ec;exact nT t ht,fun hf c ec hc=>?_⟩
   rcases Cf.mp hc with e | hc
   ·obtain ⟨_,b,L2,u1,u2,_⟩:=(w.okT t ht).own hf
    rw [ec] at u1;cases u1
    exact nT t ht (by rw [<- e,u2];exact B8)
   ·exact (hk c hc).1.2 t ht hf ec
  ·exact w.st j u h' t ht
 ·have:b ≠ a:=fun z=>by
   subst z
   rcases v4 hu with h | h
   ·rw [e] at h;cases h
   ·exact n h
  rw [aL this];exact w.base b o e n
 ·rcases val j u h with ⟨ej,eu⟩ | ⟨n,h'⟩
  ·subst ej
   rw [eu] at eb
   cases eb
   exact w.fx.frS j y ey hp hfz a ev
  ·exact w.fx.frS j u h' hp hf b eb
 ·obtain ⟨o,ho⟩:=w.fx.bin b hb
  exact dom b o ho
 ·obtain ⟨o2,ho⟩:=w.fx.ob b o hb
  exact dom b o2 ho
 ·rcases val j u h with ⟨ej,eu⟩ | ⟨n,h'⟩
  ·rw [eu] at hl;cases hl
  ·exact w.fx.lvS j u h' hl
noncomputable def MutD (K:FG) (r:V->List V->Hp->VK->Prop) (f:D->List D->Option (D × D)):Prop:=∀ (a:Addr) (d:D) (L0:List Addr) (as:List It3) (H:Hp) (Q:VK) (p:D × D),Rep K H d (.ref a) (a :: L0)->jw d=true->a ∉ L0->(∀ x ∈ as,Rep K H x.d x.v x.L)->(∀ x ∈ as,a ∉ x.L)->f d (as.map (·.d))=some p ->
 (∀ (o':HO) (L1:List Addr) (w:It3),Rep K (upd H a o') p.1 (.ref a) (a :: L1)->jw p.1=true->(∀ c ∈ L1,c ∈ L0\/ee as c)->w.f=.z->w.d=p.2->Rep K (upd H a o') w.d w.v w.L->(∀ c ∈ w.L,c ∈ L0\/ee as c)->Q w.v (upd H a o'))->r (.ref a) (as.map (·.v)) H Q
noncomputable def chk (ok:D->Bool) (i:Nat):M3 Unit:=fun ρ=>match (ρ[i]?).join with
 | some (d,_)=>if ok d then some (.ok (),ρ) else none
 | none=>none
theorem oC {i:Nat} {k:R3->M3 β} {r:Except D β} (e:ae (ac i) k ρ=some (r,ρ')):∃ p,(ρ[i]?).join=some p/\k (.pl i) ρ=some (r,ρ'):=by
 unfold ae ac at e
 cases q:(ρ[i]?).join with
 | none=>rw [q] at e;exact nsE e
 | some p=>rw [q] at e;exact ⟨p,rfl,e⟩
theorem xj {ok:D->Bool} {i:Nat} {k:Unit->M3 β} {r:Except D β} (e:ae (chk ok i) k ρ=some (r,ρ')):(∀ p,(ρ[i]?).join=some p->ok p.1=true)/\k () ρ=some (r,ρ'):=by
 unfold ae chk at e
 cases q:(ρ[i]?).join with
 | none=>rw [q] at e;exact nsE e
 | some p =>
  rw [q] at e
  dsimp only at e
  cases h:ok p.1 with
  | false=>rw [h] at e;exact nsE e
  | true=>rw [h] at e;exact ⟨fun p' e'=>by cases e';exact h,e⟩
noncomputable def nQ (ok:D->Bool) (f:D->List D->Option (D × D)) (i:Nat) (ms:M3 (List R3)):EM:=ae (ac i) fun _=>ae (chk ok i) fun _=>ae ms fun rs=>ae (gives rs) fun ds=>fun ρ=>match (ρ[i]?).join with
 | some (d,.u)=>match f d ds with
  | some p=>some (.ok (.val p.2 .z),ρ.set i (some (p.1,.u)))
  | none=>none
 | _=>none
theorem Wf.changed {i:Nat} {d:D} {as us:List It3} {r:V->List V->Hp->VK->Prop} {f:D->List D->Option (D × D)} {p:D × D} {v:V} {Q:VK} (hr:MutD K r f) (w:Wf K G H σ ρ (us ++ T) g) (e:(ρ[i]?).join=some (d,.u)) (hv:σ[i]?=some (some v)) (ha:∀ y ∈ as,Itm (us ++ T) g y/\y.f=.z)
  (ef:f d (as.map (·.d))=some p) (q:∀ v H',Got K G σ (ρ.set i (some (p.1,.u))) T (.val p.2 .z) v H'->Q v H'):r v (as.map (·.v)) H Q:=by
 obtain ⟨y,y1,y2,y3,y4⟩:=w.slot e
 rw [hv] at y4
 injection y4 with y4
 injection y4 with y4
 have hfz:y.f ≠ .z:=by rw [y3];intro q;cases q
 have oy:=w.okS i y y1
 obtain ⟨m,a,L0,v1,v2,v3,_⟩:=oy.own hfz
 have ra:=oy.rep
 rw [v1,v2,y2] at ra
 rw [y2] at m
 rw [y4,v1]
 have na:∀ x ∈ as,a ∉ x.L:=fun x hx hc=>by
  have:=(w.kid (ha x hx).1 hc fun hf=>absurd (ha x hx).2 hf).1 i y y1 hfz
  exact this v1
 refine hr a d L0 as H Q p ra m v3 (fun x hx=>(w.itm (ha x hx).1).rep) na ef fun o' L1 u r1 m1 s1 uf ud ur us1=>?_
 have hsrc:∀ c,(c ∈ L0\/ee as c)->eI (us ++ T) g c/\(G.H0 c=none\/G.src c):=fun c hc=>by
  rcases hc with hc | hc
  ·have hc':c ∈ y.L:=by rw [v2];exact B9 _ hc
   exact ⟨w.kid (.inl ⟨i,y1⟩) hc' fun _ ez=>by rw [v1] at ez;cases ez;exact v3 hc,oy.src c hc'⟩
  ·exact w.alls ha hc
 have nL:∀ c,(c ∈ L0\/ee as c)->c ≠ a:=fun c hc z=>(hsrc c hc).1.1 i y y1 hfz (by rw [z];exact v1)
 have w1:=w.mutate (o':=o') y1 y3 v1 m1 r1 (fun h=>nL a (s1 a h) rfl) fun c hc=>hsrc c (s1 c hc)
 have w2:=w1.pushAll (ws:=[u]) fun x hx=>by
  rw [CH.mp hx]
  refine ⟨uf,ur,fun c hc=>?_⟩
  have s:=hsrc c (us1 c hc)
  refine ⟨⟨fun j z ez hf hz=>?_,s.1.2⟩,s.2⟩
  have ez:(if j=i then some (⟨p.1,.ref a,a :: L1,.u⟩:It3) else g j)=some z:=ez
  by_cases q:j=i
  ·rw [if_pos q] at ez
   cases ez
   cases hz
   exact nL a (us1 a hc) rfl
  ·rw [if_neg q] at ez
   exact s.1.1 j z ez hf hz
 rw [<- ud,<- uf] at q
 exact q u.v _ ⟨[u],_,w2.sub ((List.Sublist.refl [u]).append (Cn us T)),.val u⟩
theorem AO {i:Nat} {Ty:String} {ok:D->Bool} {ms:M3 (List R3)} {r:V->List V->Hp->VK->Prop} {f:D->List D->Option (D × D)} {Q:VK} (hr:MutD K r f) (hok:∀ d v L H,ok d=true->Rep K H d v L->tyV K Ty v H) (h:tE K G0 W0 (nQ ok f i ms) σ H Q):tBM K Ty r (sU i) (tA K G0 W0 ms) σ H Q:=by
 refine h.use fun G W le ρ T g o ρ' w e q=>?_
 obtain ⟨p0,e0,e⟩:=oC e
 obtain ⟨hk,e⟩:=xj e
 obtain ⟨d0,f0⟩:=p0
 obtain ⟨y,y1,y2,y3,y4⟩:=w.slot e0
 refine ⟨y.v,y4,hok d0 y.v y.L H (hk _ e0) (by rw [<- y2];exact (w.okS i y y1).rep),?_⟩
 refine tA.seq le w e q.err fun rs ρ1 e1 vs H1 Ts g1 w1 a1=>?_
 obtain ⟨ds,ρ2,g2,e2,_,w2,_,ys,hy,f1,f2⟩:=a1.gives w1 e1
 subst f1 f2
 cases e3:(ρ2[i]?).join with
 | none=>rw [e3] at e2;exact nsE e2
 | some p3 =>
  obtain ⟨d3,f3⟩:=p3
  rw [e3] at e2
  cases f3 with
  | u =>
   dsimp only at e2
   cases e4:f d3 (ys.map (·.d)) with
   | none=>rw [e4] at e2;exact nsE e2
   | some p =>
    rw [e4] at e2
    cases e2
    exact w2.changed hr e3 y4 hy e4 q
  | l=>exact nsE e2
  | z=>exact nsE e2
noncomputable def lA (t:V->V->V->Hp->(Hp->Prop)->Prop):V->List V->Hp->VK->Prop:=fun x vs H Q=>∃ k v,vs=[k,v]/\t x k v H fun H'=>Q .non H'
noncomputable def sZ (f:D->List D->Option (D × D)) (i:Nat) (mk mv:EM):SM:=ae mv fun rv=>ae (ac i) fun _=>ae mk fun rk=>ae (gives [rk,rv]) fun ds=>fun ρ=>match (ρ[i]?).join with
 | some (d,.u)=>match f d ds with
  | some p=>some (.ok .nx,ρ.set i (some (p.1,.u)))
  | none=>none
 | _=>none
theorem AC {i:Nat} {mk mv:EM} {t:uV} {f:D->List D->Option (D × D)} {E:Ends} (hr:MutD K (lA t) f) (h:tS K G0 W0 (sZ f i mk mv) E σ H):vf (tE K G0 W0 mv) (gSub (sU i) (tE K G0 W0 mk) t) E σ H:=by
 refine h.use fun G W le ρ T g r ρ' w e q=>?_
 refine tE.seq le w e q.err fun rv ρ1 e1 v H1 ⟨Ts,g1,w1,a1⟩=>?_
 obtain ⟨p0,e0,e1⟩:=oC e1
 obtain ⟨d0,f0⟩:=p0
 obtain ⟨y,y1,y2,y3,y4⟩:=w1.slot e0
 refine ⟨y.v,y4,?_⟩
 ·refine tE.seq le w1 e1 q.err fun rk ρ2 e2 vk H2 ⟨Us,g2,w2,a2⟩=>?_
  have a3:Ars σ [rk,rv] [vk,v] (([] ++ Ts) ++ Us):=.cons a2 (.cons a1 .nil)
  have w3:Wf K G H2 σ ρ2 ((([] ++ Ts) ++ Us) ++ T) g2:=w2.perm (by
   rw [List.nil_append,<- List.append_assoc]
   exact (List.perm_append_comm).append_right T)
  obtain ⟨ds,ρ3,g3,e3,_,w4,_,ys,hy,f1,f2⟩:=a3.gives w3 e2
  subst f1
  cases e4:(ρ3[i]?).join with
  | none=>rw [e4] at e3;exact nsE e3
  | some p3 =>
   obtain ⟨d3,f3⟩:=p3
   rw [e4] at e3
   cases f3 with
   | u =>
    dsimp only at e3
    cases e5:f d3 (ys.map (·.d)) with
    | none=>rw [e5] at e3;exact nsE e3
    | some p =>
     rw [e5] at e3
     cases e3
     have:=w4.changed (Q:=fun _ H'=>E.nx σ H') hr e4 y4 hy e5 fun v' H' ⟨Vs,g5,w5,a5⟩=>q _ _ _ (w5.sub (Cn Vs T))
     rw [f2] at this
     obtain ⟨k',v',ekv,ht⟩:=this
     cases ekv
     exact ht
   | l=>exact nsE e3
   | z=>exact nsE e3
end
end L3
end
section
namespace L3
open PySem L2
structure RE (X:Cx) (G0:Gm) (W0:D->Sto->Prop) (e:Expr) (m:EM):Prop where
 h:PE X e (tE X.K G0 W0 m)
structure RT (X:Cx) (G0:Gm) (W0:D->Sto->Prop) (e:Expr) (m:M3 Bool):Prop where
 h:PT X e (tT X.K G0 W0 m)
structure RW (X:Cx) (G0:Gm) (W0:D->Sto->Prop) (e:Expr) (m:M3 Bool):Prop where
 h:PW X e (tT X.K G0 W0 m)
structure RA (X:Cx) (G0:Gm) (W0:D->Sto->Prop) (es:List Expr) (m:M3 (List R3)):Prop where
 h:PA X es (tA X.K G0 W0 m)
structure RS (X:Cx) (G0:Gm) (W0:D->Sto->Prop) (s:Stmt) (m:SM):Prop where
 h:PS X s (tS X.K G0 W0 m)
structure RSs (X:Cx) (G0:Gm) (W0:D->Sto->Prop) (s:List Stmt) (m:SM):Prop where
 h:PSs X s (tS X.K G0 W0 m)
structure RI (X:Cx) (G0:Gm) (W0:D->Sto->Prop) (tg iter:Expr) (m:IM):Prop where
 h:PI X tg iter (tI X.K G0 W0 m)
structure RG (X:Cx) (pr:Nat->Bool) (target:Expr) (bnd:D->Sto->Option Sto):Prop where
 h:∃ tg,PG X target tg/\Bnd X.K pr tg bnd
structure RGs (X:Cx) (pr:Nat->Bool) (targets:List Expr) (bnd:List D->Sto->Option Sto):Prop where
 h:∃ tg,PGs X targets tg/\xE X.K pr tg bnd
theorem PE.imp {X:Cx} {e:Expr} {t t':TE} (h:PE X e t) (f:∀ σ H Q,t' σ H Q->t σ H Q):PE X e t':=fun pins s σ H Q I q=>h pins s σ H Q I (f σ H Q q)
theorem PT.imp {X:Cx} {e:Expr} {t t':TT} (h:PT X e t) (f:∀ σ H Q,t' σ H Q->t σ H Q):PT X e t':=fun pins s σ H Q I q=>h pins s σ H Q I (f σ H Q q)
theorem PW.imp {X:Cx} {e:Expr} {t t':TT} (h:PW X e t) (f:∀ σ H Q,t' σ H Q->t σ H Q):PW X e t':=fun wh pins s σ H Q I q=>h wh pins s σ H Q I (f σ H Q q)
theorem PA.imp {X:Cx} {e:List Expr} {t t':TA} (h:PA X e t) (f:∀ σ H Q,t' σ H Q->t σ H Q):PA X e t':=fun pos pins s σ H Q I q=>h pos pins s σ H Q I (f σ H Q q)
theorem PS.imp {X:Cx} {e:Stmt} {t t':TS} (h:PS X e t) (f:∀ D σ H,t' D σ H->t D σ H):PS X e t':=fun pins s σ H D I q=>h pins s σ H D I (f D σ H q)
theorem PSs.imp {X:Cx} {e:List Stmt} {t t':TS} (h:PSs X e t) (f:∀ D σ H,t' D σ H->t D σ H):PSs X e t':=fun pins s σ H D I q=>h pins s σ H D I (f D σ H q)
theorem PI.imp {X:Cx} {tg e:Expr} {t t':TI} (h:PI X tg e t) (f:∀ σ H R,t' σ H R->t σ H R):PI X tg e t':=fun pins s σ H R I q=>h pins s σ H R I (f σ H R q)
theorem szl:(16777216:Nat)=sizeLine:=by rw [sizeLine_eq]
section
variable {X:Cx} {G0:Gm} {W0:D->Sto->Prop} {a b c e:Expr} {es:List Expr} {pos:Pos} {ma mb mc m:EM} {ms:M3 (List R3)} {t u:M3 Bool} {eB:List Expr}
theorem vD (i:Nat) {x:Str} (hN:X.N[i]?=some x) (hv:Vis X.env.scope x) (hd:(x == ("__debug__":Str))=false) (hcd:(x == ("__classdict__":Str))=false):RE X G0 W0 (.Name x pos) (ac i):=⟨PE.imp (gT hN hv hd hcd) fun _ _ _ h=>AL h⟩
theorem ag {i j}:RE X G0 W0 (.Constant (.int i) j pos) (mC (.int i)):=⟨PE.imp Bp fun _ _ _ h=>ja (fun _=>.int i) h⟩
theorem gQ {i j}:RE X G0 W0 (.Constant (.bool i) j pos) (mC (.bl i)):=⟨PE.imp pe_bl fun _ _ _ h=>ja (fun _=>.bl i) h⟩
theorem qt {j}:RE X G0 W0 (.Constant .none j pos) (mC .non):=⟨PE.imp Bk fun _ _ _ h=>ja (fun _=>.non) h⟩
theorem jp {x:Str} {i:Int} {tk:Tok} (hg:Gl X x) (hm:X.mg x=some (.int i tk)) (hd:(x == ("__debug__":Str))=false):RE X G0 W0 (.Name x pos) (mC (.int i)):=⟨PE.imp (yO (v:=V.int i) hg hm ⟨_,rfl⟩ hd) fun _ _ _ h=>ja (fun _=>.int i) h⟩
theorem ao {op:Operator} {r:R2} {f:D->D->Option (D × Fl)} (ho:OpR X (binaryOp op) r) (hd:OpD X.K r f) (ha:RE X G0 W0 a ma) (hb:RE X G0 W0 b mb):RE X G0 W0 (.BinOp a op b pos) (ah f ma mb):=⟨PE.imp (pe_op ho ha.h hb.h) fun _ _ _ h=>k8 hd h⟩
theorem jm {op:UnaryOp} {r:V->Hp->VK->Prop} {f:D->Option (D × Fl)} (ho:UnR X (unaryOp op) r) (hd:UnD X.K r f) (ha:RE X G0 W0 a ma):RE X G0 W0 (.UnaryOp op a pos) (mUn f ma):=⟨PE.imp (pe_un ho ha.h) fun _ _ _ h=>zY hd h⟩
theorem lx {op:CmpOp} {r:R2} {f:D->D->Option (D × Fl)} (ho:OpR X (compareOp op) r) (hd:OpD X.K r f) (ha:RE X G0 W0 a ma) (hb:RE X G0 W0 b mb) (hm:behindInMarks op b=false):RE X G0 W0 (.Compare a [op] [b] pos) (ah f ma mb):=⟨PE.imp (yR ho ha.h hb.h hm) fun _ _ _ h=>k8 hd h⟩
theorem aM {r:R2} {f:D->D->Option (D × Fl)} (ho:IxR X r) (hd:OpD X.K r f) (ha:RE X G0 W0 a ma) (hb:RE X G0 W0 b mb) (hs:sN b):RE X G0 W0 (.Subscript a b pos) (ah f ma mb):=⟨PE.imp (pe_ix ho ha.h hb.h hs) fun _ _ _ h=>k8 hd h⟩
theorem nD (ha:RE X G0 W0 a ma) (hb:RE X G0 W0 (.BoolOp .And (b :: eB) pos) mb):RE X G0 W0 (.BoolOp .And (a :: b :: eB) pos) (pq ma mb):=⟨PE.imp (Br ha.h hb.h) fun _ _ _ h=>AR h⟩
theorem re_or (ha:RE X G0 W0 a ma) (hb:RE X G0 W0 (.BoolOp .Or (b :: eB) pos) mb):RE X G0 W0 (.BoolOp .Or (a :: b :: eB) pos) (mOr ma mb):=⟨PE.imp (pe_or ha.h hb.h) fun _ _ _ h=>tE_or h⟩
theorem lu {op} (h:RE X G0 W0 a ma):RE X G0 W0 (.BoolOp op [a] pos) ma:=⟨Bi h.h⟩
theorem vE (ha:RE X G0 W0 a ma):RE X G0 W0 (.UnaryOp .Not a pos) (zu ma):=⟨PE.imp (Bj ha.h) fun _ _ _ h=>AN h⟩
noncomputable def lN (f f':D->D->Option (D × Fl)) (ma mb mc:EM):EM:=ae ma fun ra=>ae mb fun rb=>ae (der ra) fun da=>ae (der rb) fun db=>ae (bo ((f da db).bind fun p=>asB p.1)) fun k=>if k then ae mc fun rc=>ae (der rb) fun db=>ae (der rc) fun dc=>bo ((f' db dc).map fun p=>R3.val p.1 p.2) else bx (.val (.bl false) .z)
theorem fB (ha:RE X G0 W0 a ma) (he:∀ whole,isTrue a X.env whole=(do let v <- whole;standAt a.pos;holding [v] (truthy v))):RT X G0 W0 a (cB ma):=⟨PT.imp (A9 ha.h he) fun _ _ _ h=>AA h⟩
theorem vy (h:RW X G0 W0 a t):RT X G0 W0 a t:=⟨h.h.pt⟩
theorem rE (ha:RT X G0 W0 a t):RW X G0 W0 (.BoolOp .And [a] pos) t:=⟨yz ha.h⟩
theorem qi (ha:RT X G0 W0 a t):RW X G0 W0 (.BoolOp .Or [a] pos) t:=⟨A7 ha.h⟩
theorem vq (ha:RT X G0 W0 a t) (hb:RW X G0 W0 (.BoolOp .And (b :: eB) pos) u):RW X G0 W0 (.BoolOp .And (a :: b :: eB) pos) (oj t u):=⟨PW.imp (A8 ha.h hb.h) fun _ _ _ h=>AB h⟩
theorem vp (ha:RT X G0 W0 a t) (hb:RW X G0 W0 (.BoolOp .Or (b :: eB) pos) u):RW X G0 W0 (.BoolOp .Or (a :: b :: eB) pos) (cOr t u):=⟨PW.imp (pw_or ha.h hb.h) fun _ _ _ h=>tT_or h⟩
theorem fD (ha:RT X G0 W0 a t):RT X G0 W0 (.UnaryOp .Not a pos) (i7 t):=⟨PT.imp (Ba ha.h) fun _ _ _ h=>Az h⟩
theorem ad:RA X G0 W0 [] ai:=⟨PA.imp qB fun _ _ _ h=>vg h⟩
theorem aa (ha:RE X G0 W0 e m) (hr:RA X G0 W0 es ms) (hs:starEach (e :: es) X.env=(false,eval e X.env) :: starEach es X.env):RA X G0 W0 (e :: es) (ab m ms):=⟨PA.imp (kP ha.h hr.h hs) fun _ _ _ h=>rC h⟩
theorem aZ {x1} (h:RA X G0 W0 es ms):RE X G0 W0 (.Tuple es x1 pos) (bI ms):=⟨PE.imp (Bh h.h) fun _ _ _ h=>AM szl h⟩
theorem cO (h:RA X G0 W0 es ms):RE X G0 W0 (.List es pos) (fW ms):=⟨PE.imp (Bm h.h) fun _ _ _ h=>AQ szl h⟩
theorem aJ {x:Str} {p:Pos} {id:String} {r:List V->Hp->VK->Prop} {f:List D->Option (D × Fl)} (hc:CallR X (.builtin id) r) (hd:ff X.K r f) (hg:Gl X x) (hm:X.mg x=none) (hv:bootBuiltins x=some (.builtin id)) (ha:RA X G0 W0 (e :: es) ms) (hn:x ≠ "__name__") (hdb:(x == ("__debug__":Str))=false)
  (he:starEach (e :: es) X.env=(false,eval e X.env) :: starEach es X.env) (hpl:(backTo pos (starEach es X.env)).any (·.1)=false):RE X G0 W0 (.Call (.Name x p) (e :: es) [] pos) (aG f ms):=⟨PE.imp (lC hc hg hm hv ha.h hn hdb he hpl) fun _ _ _ h=>jb hd h⟩
theorem iu {x:Str} {p:Pos} {T:String} {r:List V->Hp->VK->Prop} {f:List D->Option (D × Fl)} (hc:CallR X (.type T) r) (hd:ff X.K r f) (hg:Gl X x) (hm:X.mg x=none) (hv:bootBuiltins x=some (.type T)) (ha:RA X G0 W0 (e :: es) ms) (hn:x ≠ "__name__") (hdb:(x == ("__debug__":Str))=false)
  (he:starEach (e :: es) X.env=(false,eval e X.env) :: starEach es X.env) (hpl:(backTo pos (starEach es X.env)).any (·.1)=false):RE X G0 W0 (.Call (.Name x p) (e :: es) [] pos) (aG f ms):=⟨PE.imp (tK hc hg hm hv ha.h hn hdb he hpl) fun _ _ _ h=>jb hd h⟩
variable {st:Stmt} {sts:List Stmt} {sm sn:SM}
theorem bN:RSs X G0 W0 [] fg:=⟨PSs.imp yG fun _ _ _ h=>AG h⟩
theorem af (h1:RS X G0 W0 st sm) (h2:RSs X G0 W0 sts sn):RSs X G0 W0 (st :: sts) (aE sm sn):=⟨PSs.imp (vM h1.h h2.h) fun _ _ _ h=>AE h⟩
theorem ak (h1:RS X G0 W0 st sm):RSs X G0 W0 [st] sm:=⟨yF h1.h⟩
theorem gh (he:RE X G0 W0 e m) (hs:swapsWith e none pos.line X.env=pure false):RS X G0 W0 (.Expr e pos) (gN m):=⟨PS.imp (yH he.h hs) fun _ _ _ h=>xK h⟩
theorem aO (np:Nat) (hnp:∀ i,np<=i->G0.pr i=false) (he:RE X G0 W0 e m):RS X G0 W0 (.Return (some e) pos) (bG np m):=⟨PS.imp (Bc he.h) fun _ _ _ h=>AF hnp h⟩
theorem d8 {x y:List Stmt} (hc:RT X G0 W0 c t) (ha:RSs X G0 W0 x sm) (hb:RSs X G0 W0 y sn):RS X G0 W0 (.If c x y pos) (sIf t sm sn):=⟨PS.imp (ps_if hc.h ha.h hb.h) fun _ _ _ h=>tS_if h⟩
theorem aq (i:Nat) {x:Str} {pos':Pos} (hN:X.N.Nodup) (hi:X.N[i]?=some x) (hx:Loc X.env.scope x) (he:RE X G0 W0 e m) (hs:swapsWith e (some (.Name x pos')) pos.line X.env=pure false) (hf:X.fn x=true\/X.env.scope.names.lookup x=some .local) (hp:G0.pr i=false):RS X G0 W0 (.Assign [.Name x pos'] e pos) (aN i m):=⟨PS.imp (Bb hN hi hx he.h hs hf) fun _ _ _ h=>AD hp h⟩
theorem gO {body:List Stmt} (hp:PassesOwn (model X.prog X.w) X.A X.env X.xe) (hc:RT X G0 W0 c t) (hb:RSs X G0 W0 body sm):RS X G0 W0 (.While c body [] pos) (cM t sm):=⟨PS.imp (vN hp hc.h hb.h) fun _ _ _ h=>u8 h⟩
theorem bU {tg iter:Expr} {body:List Stmt} {im:IM} {bnd:D->Sto->Option Sto} (hp:PassesOwn (model X.prog X.w) X.A X.env X.xe) (hc:X.calm=true) (hi:RI X G0 W0 tg iter im) (hg:RG X G0.pr tg bnd) (hb:RSs X G0 W0 body sm) (hs:∀ x,foldedSetIterable iter X.env x=pure x):RS X G0 W0 (.For tg iter body [] pos) (cN im bnd sm):=by
 obtain ⟨g,h1,h2⟩:=hg.h
 exact ⟨PS.imp (Bd hp hc hi.h h1 hb.h hs) fun _ _ _ h=>AH h2 h⟩
theorem aQ (i:Nat) {x:Str} {pr:Nat->Bool} (hN:X.N.Nodup) (hi:X.N[i]?=some x) (hx:Loc X.env.scope x) (hf:X.fn x=true\/X.env.scope.names.lookup x=some .local) (hp:pr i=false):RG X pr (.Name x pos) (am i):=⟨_,bj hN hi hx hf,aW hp⟩
theorem nB {pr:Nat->Bool}:RGs X pr [] kJ:=⟨_,nH,l8⟩
theorem dN {pr:Nat->Bool} {bn:D->Sto->Option Sto} {bs:List D->Sto->Option Sto} (h1:RG X pr e bn) (h2:RGs X pr es bs) (hs:(assignEach (e :: es) X.env).map (·.2)=assign e X.env :: (assignEach es X.env).map (·.2)):RGs X pr (e :: es) (bT bn bs):=by
 obtain ⟨g,a1,a2⟩:=h1.h
 obtain ⟨gs,b1,b2⟩:=h2.h
 exact ⟨_,gS a1 b1 hs,f9 a2 b2⟩
theorem qr {pr:Nat->Bool} {k n:Nat} {bs:List D->Sto->Option Sto} (hc:X.calm=true) (h:RGs X pr es bs) (hn:(assignEach es X.env).length=n) (hst:(assignEach es X.env).findIdx? (·.1)=none):RG X pr (.Tuple es k pos) (kI n bs):=by
 obtain ⟨gs,b1,b2⟩:=h.h
 exact ⟨_,qA hc b1 hn hst,om b2⟩
theorem b8 {elt tg iter:Expr} {ifs:List Expr} {scope:Scope} {im:IM} {bnd:D->Sto->Option Sto} {cm:M3 Bool} {em:EM} (NY:List Str) (ix:List (Option Nat)) (hc:X.calm=true) (hi:RI X G0 W0 tg iter im)
  (ht:∀ s H C fp,PTs (bc X NY scope s H C fp) ifs (tT X.K (b7 ix) noX cm)) (he:∀ s H C fp,RE (bc X NY scope s H C fp) (b7 ix) noX elt em)
  (ck:j4 scope X.N X.env.scope NY ix=true) (hij:Inj ix) (hs:∀ x,foldedSetIterable iter X.env x=pure x) (hgu:∃ tg',Bnd X.K (b7 ix).pr tg' bnd/\∀ s H C fp,PG (bc X NY scope s H C fp) tg tg'):RE X G0 W0 (.ListComp elt [⟨tg,iter,ifs,0⟩] scope pos) (bZ im bnd cm em ix):=by
 obtain ⟨tg',b1,b2⟩:=hgu
 exact ⟨PE.imp (yQ NY ix hc hi.h b2 ht (fun s H C fp=>(he s H C fp).h) ck hs) fun _ _ _ h=>xU szl hij b1 h⟩
end
end L3
end
section
namespace L3
open PySem L2
noncomputable def ay (F:Fn) (ms:M3 (List R3)):EM:=ae ms fun rs=>fun ρ=>match prs (frz (pI rs) ρ) rs with
 | none=>none
 | some ps=>match F ps with
  | none=>none
  | some (.ok p,qs)=>if qs.length=ps.length then some (.ok (.val p.1 p.2),back rs ps qs (frz (pI rs) ρ)) else none
  | some (.error _,_)=>none
noncomputable def sV (K:FG) (F:Fn):Sp:=fun vs H Q _=>∃ (ps:List It3) (p:D × Fl) (fs:List (D × Fl)),vs=ps.map (·.v)/\(∀ p ∈ ps,Arg K H p)/\ps.Pairwise Apart3/\F (ps.map fun p=>(p.d,p.f))=some (.ok p,fs) /\
 ∀ x qs H',Behind K H H' ps qs x->x.d=p.1->x.f=p.2->qs.map (fun q=>(q.d,q.f))=fs->Q x.v H'
section
variable {K:FG} {G G0:Gm} {W W0:D->Sto->Prop} {H H':Hp} {σ:St} {ρ ρ':Sto} {T T':List It3} {g:Nat->Option It3} {x y z:It3} {α β:Type}
theorem vd {F:Fn} {ms:M3 (List R3)} {Q:VK} (h:tE K G0 W0 (ay F ms) σ H Q):tA K G0 W0 ms σ H fun vs H1=>sV K F vs H1 Q E0:=by
 refine h.use fun G W le ρ T g o ρ' w e q=>?_
 refine tA.seq le w e q.err fun rs ρ1 e1 vs H1 Ts g1 w1 a1=>?_
 obtain ⟨g2,w2,z2⟩:=Wf.frz (is:=pI rs) w1
 cases e2:prs (L3.frz (pI rs) ρ1) rs with
 | none=>rw [e2] at e1;exact nsE e1
 | some pfs =>
  rw [e2] at e1
  dsimp only at e1
  have hd:∀ i,2<=(pls rs).count i->∀ y,g2 i=some y->y.f=.z:=fun i hc y ey=>by
   have hm:i ∈ pI rs:=CJ.mpr ⟨List.count_pos_iff.mp (by omega),by simpa using hc⟩
   have s1:=w2.sl i
   rw [ey] at s1
   have hy:∃ y0,g1 i=some y0:=by
    cases q1:g1 i with
    | some y0=>exact ⟨y0,rfl⟩
    | none =>
     exfalso
     have s2:=w1.sl i
     rw [q1] at s2
     have:=pF (is:=pI rs) s2.symm
     rw [this] at s1
     cases s1
   obtain ⟨y0,ey0⟩:=hy
   obtain ⟨y',e3,_,e5⟩:=z2 i y0 ey0
   rw [ey] at e3
   cases e3
   exact e5 hm
  obtain ⟨ps,f1,f2,f3,f4,f5⟩:=Ars.args a1 w2 hd e2
  have hit:∀ p ∈ ps,Itm (Ts ++ T) g2 p:=fun p hp=>by
   rcases f4 p hp with ⟨i,_,ei⟩ | h
   ·exact .inl ⟨i,ei⟩
   ·exact .inr (Cd _ h)
  have harg:∀ p ∈ ps,Arg K H1 p:=fun p hp=>⟨(w2.itm (hit p hp)).rep,fun hf=>by
   obtain ⟨m,a,L',v1,v2,v3,_⟩:=(w2.itm (hit p hp)).own hf
   exact ⟨m,a,L',v1,v2,v3⟩⟩
  subst f2
  cases e3:F pfs with
  | none=>rw [e3] at e1;exact nsE e1
  | some r =>
   obtain ⟨out,fs⟩:=r
   rw [e3] at e1
   cases out with
   | ok p =>
    dsimp only at e1
    split at e1
    ·cases e1
     refine ⟨ps,p,fs,rfl,harg,f3,by rw [f1];exact e3,?_⟩
     intro x qs H' B x1 x2 hq
     obtain ⟨g',w3,px⟩:=Wf.after w2 e2 f1 f4 f5 B.toBehindX
     have w4:=px x B.rep B.own B.src B.apx
     rw [hq] at w4
     rw [<- x1,<- x2] at q
     exact q x.v H' ⟨[x],g',w4,.val x⟩
    ·exact nsE e1
   | error er=>exact nsE e1
noncomputable def eV (b:Bool) (p:It3):It3:=if b then d5 p else p
theorem mV:∀ {mask:List Bool} {ps:List It3},(List.zipWith eV mask ps).map (fun p=>(p.d,p.f))=List.zipWith t6 mask (ps.map fun p=>(p.d,p.f))
 | [],_=>rfl
 | _ :: _,[]=>rfl
 | b :: mask,p :: ps=>by
  simp only [List.zipWith_cons_cons,Cu,mV]
  cases b <;> rfl
theorem t5 {mask:List Bool} {ps:List It3} {i:Nat} {q:It3} (h:(List.zipWith eV mask ps)[i]?=some q):∃ b p,mask[i]?=some b/\ps[i]?=some p/\q=eV b p:=by
 rw [List.getElem?_zipWith] at h
 cases e1:mask[i]? with
 | none=>rw [e1] at h;exact nsE h
 | some b =>
  cases e2:ps[i]? with
  | none=>rw [e1,e2] at h;exact nsE h
  | some p=>rw [e1,e2] at h;cases h;exact ⟨b,p,rfl,rfl,rfl⟩
theorem pv {mask:List Bool} {ps:List It3} {i:Nat} {p:It3} (hl:ps.length=mask.length) (h:ps[i]?=some p):∃ b,mask[i]?=some b/\(List.zipWith eV mask ps)[i]?=some (eV b p):=by
 have hi:i < mask.length:=by have:=(Cl.mp h).1;omega
 refine ⟨mask[i],Cg hi,?_⟩
 rw [List.getElem?_zipWith,Cg hi,h]
theorem eU (b:Bool) (p:It3):(eV b p).d=p.d/\(eV b p).v=p.v/\(eV b p).L=p.L/\((eV b p).f=p.f\/(eV b p).f=.z):=by
 cases b
 ·exact ⟨rfl,rfl,rfl,.inl rfl⟩
 ·exact ⟨rfl,rfl,rfl,.inr rfl⟩
theorem NoRoot.low {a b a' b':It3} (h:NoRoot a b) (hv:a'.v=a.v) (hf:a'.f=a.f\/a'.f=.z) (hL:b'.L=b.L):NoRoot a' b':=fun q c e=>by
 rw [hL]
 rcases hf with f | f
 ·exact h (by rw [<- f];exact q) c (by rw [<- hv];exact e)
 ·exact absurd f q
noncomputable def prM (mask:List Bool) (i:Nat):Bool:=match mask[i]? with
 | some b=>!b
 | none=>false
theorem zo {α β:Type} {f:α->β} {l:List α} {i:Nat} {a:α} (h:l[i]?=some a):(l.map f)[i]?=some (f a):=by rw [Cp,h];rfl
set_option tactic.hygienic true in
theorem sj {mask:List Bool} {m:SM} {n:Nat} {vs:List V} {Q:VK} {E:XK} (hn:mask.length<=n) (h:sV K (fnM mask n m) vs H Q E) :
  ∃ G:Gm,G.pr=prM mask/\tS K G noX m { nx:=fun _ H'=>Q .non H',rt:=Q } (vs.map some ++ List.replicate (n - vs.length) none) H:=by
 obtain ⟨ps,p,fs,rfl,ha,hp,hF,q⟩:=h
 unfold fnM at hF
 rw [Ck] at hF
 split at hF
 ·rename_i hl
  rw [<- mV] at hF
  generalize hps:List.zipWith eV mask ps=ps' at hF
  have hl':ps'.length=ps.length:=by rw [<- hps,List.length_zipWith];omega
  have hv:ps'.map (·.v)=ps.map (·.v):=by
   refine List.ext_getElem? fun i=>?_
   rw [Cp,Cp]
   cases e:ps[i]? with
   | none=>rw [List.getElem?_eq_none (by have:=List.getElem?_eq_none_iff.mp e;omega)]
   | some u =>
    obtain ⟨b,_,e2⟩:=pv (mask:=mask) hl e
    rw [hps] at e2
    rw [e2]
    show some (eV b u).v=some u.v
    rw [(eU b u).2.1]
  have up:∀ (i:Nat) (u:It3),ps'[i]?=some u->∃ b u0,mask[i]?=some b/\ps[i]?=some u0/\u=eV b u0:=fun i u e=>by rw [<- hps] at e;exact t5 e
  have upm:∀ u ∈ ps',∃ b u0,u0 ∈ ps/\u=eV b u0:=fun u hu=>by
   obtain ⟨i,hi,e⟩:=List.mem_iff_getElem.mp hu
   obtain ⟨b,u0,_,e2,e3⟩:=up i u (by rw [Cg hi,e])
   exact ⟨b,u0,Cm e2,e3⟩
  have ha':∀ u ∈ ps',Arg K H u:=fun u hu=>by
   obtain ⟨b,u0,h0,rfl⟩:=upm u hu
   obtain ⟨e1,e2,e3,e4⟩:=eU b u0
   refine ⟨by rw [e1,e2,e3];exact (ha u0 h0).rep,fun hf=>?_⟩
   rw [e1,e2,e3]
   refine (ha u0 h0).own fun z=>hf ?_
   rcases e4 with f | f
   ·rw [f];exact z
   ·exact f
  have hp':ps'.Pairwise Apart3:=by
   rw [List.pairwise_iff_getElem]
   intro i j hi hj lt
   obtain ⟨b,u0,_,e2,e3⟩:=up i _ (Cg hi)
   obtain ⟨b',u0',_,e2',e3'⟩:=up j _ (Cg hj)
   have ap:=dO hp (fun _ _=>Apart3.symm) (Cs lt) e2 e2'
   rw [e3,e3']
   obtain ⟨_,a2,a3,a4⟩:=eU b u0
   obtain ⟨_,b2,b3,b4⟩:=eU b' u0'
   exact ⟨ap.1.low a2 a4 b3,ap.2.low b2 b4 a3⟩
  have hpr:∀ (i:Nat) (u:It3),ps'[i]?=some u->u.f ≠ .z->prM mask i=true:=fun i u e hf=>by
   obtain ⟨b,u0,e1,e2,e3⟩:=up i u e
   unfold prM
   rw [e1]
   cases b with
   | false=>rfl
   | true=>rw [e3] at hf;exact absurd rfl hf
  have alls:∀ c,ee ps' c->ee ps c:=fun c ⟨u,hu,hc⟩=>by
   obtain ⟨b,u0,h0,rfl⟩:=upm u hu
   exact ⟨u0,h0,by rw [<- (eU b u0).2.2.1];exact hc⟩
  have lift:∀ {H':Hp} {qs:List It3},BehindX K H H' ps' qs->BehindX K H H' ps qs:=fun {H' qs} B=>by
   refine ⟨fun b o hb hn=>B.frame b o hb fun u hu hf hv=>?_,Paired.ofGet ?_ fun k u v eu ev=>?_,B.apart⟩
   ·obtain ⟨b',u0,h0,rfl⟩:=upm u hu
    obtain ⟨_,e2,_,e4⟩:=eU b' u0
    rcases e4 with f | f
    ·exact hn u0 h0 (by rw [<- f];exact hf) (by rw [<- e2];exact hv)
    ·rw [f] at hf;cases hf
   ·rw [<- hl'];exact Paired.length B.back
   ·obtain ⟨b,_,e2⟩:=pv (mask:=mask) hl eu
    rw [hps] at e2
    have b1:=Paired.at B.back e2 ev
    obtain ⟨a1,a2,a3,a4⟩:=eU b u
    refine ⟨fun hz=>?_,by rw [b1.v,a2],?_,b1.arg,fun c hc=>(b1.src c hc).imp id (alls c),fun hf b' hb'=>?_⟩
    ·have:eV b u=u:=by
      cases b
      ·rfl
      ·obtain ⟨d,v,L,f⟩:=u
       have hz:f=.z:=hz
       subst hz;rfl
     rw [<- this]
     exact b1.z (by rw [this];exact hz)
    ·rcases b1.f with h | h
     ·rcases a4 with f | f
      ·exact .inl (h.trans f)
      ·exact .inr (h.trans f)
     ·exact .inr h
    ·rcases a4 with f | f
     ·exact b1.there (by rw [f];exact hf) b' (by rw [a2];exact hb')
     ·-- lowered: as it was
      obtain ⟨_,a,L',v1,v2,_⟩:=(ha u (Cm eu)).own (by rw [hf];intro q;cases q)
      rw [hb'] at v1;cases v1
      have hq:=b1.z f
      have r:=b1.arg.rep
      rw [hq,a1,a2,a3] at r
      exact (r.inH b' (by rw [v2];exact B8)).ex
  have hnn:ps'.length<=n:=by omega
  have wf:=u3 (K:=K) (H:=H) (n:=n) (pr:=prM mask) hnn ha' hp' hpr
  rw [hv] at wf
  refine ⟨gOf H (prM mask) ((ps.map (·.v)).map some ++ List.replicate (n - (ps.map (·.v)).length) none) ps',rfl,?_⟩
  have h0:∀ (i:Nat) (u:It3),ps'[i]?=some u->((ps.map (·.v)).map some ++ List.replicate (n - (ps.map (·.v)).length) none)[i]?=some (some u.v):=fun i u e=>mJ (by rw [<- hv];exact zo e)
  unfold fn0 at hF
  cases e:m (ko n (ps'.map fun p=>(p.d,p.f))) with
  | none=>rw [e] at hF;exact nsE hF
  | some rr =>
   obtain ⟨r,ρ2⟩:=rr
   rw [e] at hF
   refine tS.mk (r:=r) (Le.refl K _ _) wf e ?_
   have fin:∀ {x:It3} {σ':St} {H':Hp} {g':Nat->Option It3} {d:D} {f:Fl},Wf K (gOf H (prM mask) ((ps.map (·.v)).map some ++ List.replicate (n - (ps.map (·.v)).length) none) ps') H' σ' ρ2 [x] g'->x.d=d->x.f=f ->
     ((iH ρ2 0 (ps'.map fun p=>(p.d,p.f))).map fun fs=>((.ok (d,f),fs):Except D (D × Fl) × List (D × Fl)))=some (.ok p,fs)->Q x.v H':=fun {x σ' H' g' d f} w1 xd xf hF=>by
    cases e5:iH ρ2 0 (ps'.map fun p=>(p.d,p.f)) with
    | none=>rw [e5] at hF;exact nsE hF
    | some fs' =>
     rw [e5] at hF
     cases hF
     obtain ⟨qs,B,hq⟩:=rh (n:=n) ha' hp' hpr h0 w1 e5
     have BX:=lift B.toBehindX
     exact q x qs H' ⟨BX,B.rep,B.own,fun c hc=>(B.src c hc).imp id (alls c),B.apx⟩ xd xf hq
   cases r with
   | error er=>
    dsimp only at hF
    cases e5:iH ρ2 0 (ps'.map fun p=>(p.d,p.f)) with
    | none=>rw [e5] at hF;exact nsE hF
    | some fs'=>rw [e5] at hF;cases hF
   | ok fl =>
    cases fl with
    | nx =>
     intro σ' H' g' w1
     obtain ⟨Ts,g2,w2,a2⟩:=w1.const .non
     obtain ⟨x,rfl,x1,x2,x3⟩:=a2.val_inv
     have:=fin w2 x1 x2 hF
     rw [x3] at this
     exact this
    | br=>exact nsE hF
    | ct=>exact nsE hF
    | rt d f =>
     intro x σ' H' g' w1 x1 x2
     exact fin w1 x1 x2 hF
 ·exact nsE hF
end
noncomputable abbrev aR (P:Program) (w:World) (K:FG) (mg:Str->Option Value) (base:Heap) (x:Str) (k:Nat) (ps:List Str) (F:Fn):Prop:=Callee P w K mg base x k ps (sV K F)
set_option tactic.hygienic true in
theorem bf {P:Program} {w:World} {K:FG} {mg:Str->Option Value} {base:Heap} {x:Str} {st:Stmt} {k:Nat} {N ps:List Str} {mask:List Bool} {m:SM} {nn:Nat} (D:Def K mg x st) (S:FnScope N ps (al st)) (hml:mask.length=ps.length) (hnn:N.length=nn)
  (hb:∀ (kV doc pm:Value) (an:Option Addr) (cdv ct:Value) (us:List Value),us.length=ps.length->bindArgs (PySem.W.fnOf x x (bD st) (ba st) (al st) .none kV doc pm an cdv ct) ⟨us,[]⟩=pure (ps.zip us))
  (body:∀ (cdv:Value) (A:Around) (outer:List Env) (s:Shared) (H:Hp) (E:XK) (f:Addr) (G:Gm),Room k (A.deeper (PyProof.Rows.envOfC x (al st) s.heap.objs.size f cdv))->G.pr=prM mask->RSs (pK CX0 P w K mg base N x (al st) f cdv A outer s H E).nox G noX (ba st) m) :
  aR P w K mg base x (k+1) ps (fnM mask nn m):=by
 refine D.callee hb fun f fd F=>F.ok S (fun vs H Q E h=>?_) fun cdv A outer s H vs Q E hr h=>?_
 ·obtain ⟨ps',p,fs,rfl,_,_,hF,_⟩:=h
  unfold fnM at hF
  rw [Ck] at hF ⊢
  split at hF
  ·rename_i e;rw [e,hml]
  ·exact nsE hF
 ·have hle:mask.length<=nn:=by
   rw [hml,<- hnn]
   have:=congrArg List.length S.pre
   rw [CD] at this
   omega
  obtain ⟨G,hG,ht⟩:=sj hle h
  subst hnn
  exact ⟨_,(body cdv A outer s H E f G hr hG).h,ht⟩
theorem au {X:Cx} {G0:Gm} {W0:D->Sto->Prop} {x:Str} {p pos:Pos} {e:Expr} {es:List Expr} {ms:M3 (List R3)} {k:Nat} {ps:List Str} {F:Fn} (c:aR X.prog X.w X.K X.mg X.base x k ps F) (hr:Room k X.A) (ha:RA X G0 W0 (e :: es) ms) (hg:Gl X x) (hdb:(x == ("__debug__":Str))=false)
  (he:starEach (e :: es) X.env=(false,eval e X.env) :: starEach es X.env) (hpl:(backTo pos (starEach es X.env)).any (·.1)=false):RE X G0 W0 (.Call (.Name x p) (e :: es) [] pos) (ay F ms) :=
 ⟨PE.imp (pe_fn c hr ha.h hg hdb he hpl) fun _ _ _ h=>vd h⟩
end L3
end
section
namespace L3
open PySem L2
noncomputable def orD (f g:D->D->Option (D × Fl)) (a b:D):Option (D × Fl):=match f a b with
 | some p=>some p
 | none=>g a b
section
variable {K:FG} {H:Hp} {Ks:Addr->Prop} {d:D} {v:V} {L:List Addr} {X:Cx}
theorem dP (r:Rep K H d v []):New K H H Ks ⟨d,v,[],.z⟩:=⟨Same.refl _,r,fun _ h=>(by cases h),fun h=>absurd rfl h⟩
theorem o9 (r:Rep K H d v L) (h:∀ c ∈ L,Ks c):New K H H Ks ⟨d,v,L,.z⟩:=⟨Same.refl _,r,fun c hc=>.inr (h c hc),fun h=>absurd rfl h⟩
theorem BA {p:Addr} {ds:List D} {vs:List V} (hp:H p=none) (r:Reps (Rep K H) ds vs L) (h:∀ c ∈ L,Ks c):New K H (upd H p (.lst vs)) Ks ⟨.lst ds,.ref p,p :: L,.u⟩:=by
 have np:p ∉ L:=fun hc=>by obtain ⟨o,ho⟩:=(r.inH p hc).ex;rw [hp] at ho;exact nsE ho
 refine ⟨bH hp,.lst bh (r.same (bH hp)),fun c hc=>?_,fun _=>⟨rfl,p,L,rfl,rfl,np,hp⟩⟩
 rcases Cf.mp hc with e | hc
 ·rw [e];exact .inl hp
 ·exact .inr (h c hc)
theorem zb {p:Addr} {ds:List D} {vs:List V} (hp:H p=none) (r:Reps (Rep K H) ds vs L) (h:∀ c ∈ L,Ks c):New K H (upd H p (.tup vs)) Ks ⟨.tup ds,.ref p,L,.z⟩ :=
 ⟨bH hp,.tup bh (r.same (bH hp)),fun c hc=>.inr (h c hc),fun h=>absurd rfl h⟩
theorem jX {y:It3} {ys:List It3} (hy:y ∈ ys) (h:Arg K H y) (hm:jw y.d=false):∀ c ∈ y.L,eZ ys c:=fun c hc=>⟨y,hy,hc,fun hf=>by
 have:=(h.own hf).1
 rw [hm] at this;cases this⟩
theorem qO {y:It3} {ys:List It3} {a:Addr} {L:List Addr} (hy:y ∈ ys) (h:Arg K H y) (hv:y.v=.ref a) (hL:y.L=a :: L):∀ c ∈ L,eZ ys c:=fun c hc=>⟨y,hy,by rw [hL];exact B9 _ hc,fun hf e=>by
 obtain ⟨_,a',L',v1,v2,v3⟩:=h.own hf
 rw [hv] at v1;cases v1
 rw [hL] at v2;cases v2
 rw [hv] at e;cases e
 exact v3 hc⟩
theorem OpD.or {r r':R2} {f g:D->D->Option (D × Fl)} (h:OpD K r f) (h':OpD K r' g):OpD K (fun x y H Q=>r x y H Q\/r' x y H Q) (orD f g):=fun a b H Q p ra rb e q=>by
 unfold orD at e
 cases ef:f a.d b.d with
 | some p'=>rw [ef] at e;cases e;exact .inl (h a b H Q _ ra rb ef q)
 | none=>rw [ef] at e;exact .inr (h' a b H Q p ra rb e q)
noncomputable def gz (C:Int->Int->Bool) (g:Int->Int->D):D->D->Option (D × Fl)
 | .int i,.int j=>if C i j then some (g i j,.z) else none
 | _,_=>none
set_option tactic.hygienic true in
theorem jy {C:Int->Int->Prop} {Cb:Int->Int->Bool} {g:Int->Int->V} {gd:Int->Int->D} (hC:∀ i j,Cb i j=true->C i j) (hg:∀ i j H,Rep K H (gd i j) (g i j) []):OpD K (rI C g) (gz Cb gd):=fun a b H Q p ra rb e q=>by
 obtain ⟨da,va,La,fa⟩:=a
 obtain ⟨db,vb,Lb,fb⟩:=b
 obtain ⟨ra,oa⟩:=ra
 obtain ⟨rb,ob⟩:=rb
 dsimp only at ra rb
 cases da <;> try (exact nsE e)
 rename_i i
 obtain ⟨rfl,rfl⟩:=ra.view
 cases db <;> try (exact nsE e)
 rename_i j
 obtain ⟨rfl,rfl⟩:=rb.view
 have e:(if Cb i j then some (gd i j,Fl.z) else none)=some p:=e
 split at e
 ·rename_i hc
  cases e
  exact ⟨i,j,rfl,rfl,hC i j hc,q ⟨gd i j,g i j,[],.z⟩ H (dP (hg i j H)) rfl rfl⟩
 ·exact nsE e
theorem rI_of {g:Int->Int->V}:rI0 g=rI (fun _ _=>True) g:=by
 funext x y H Q
 unfold rI0 rI
 apply propext
 constructor
 ·rintro ⟨i,j,a,b,c⟩;exact ⟨i,j,a,b,trivial,c⟩
 ·rintro ⟨i,j,a,b,_,c⟩;exact ⟨i,j,a,b,c⟩
theorem hU {g:Int->Int->V} {gd:Int->Int->D} (hg:∀ i j H,Rep K H (gd i j) (g i j) []):OpD K (rI0 g) (gz (fun _ _=>true) gd):=by
 rw [rI_of]
 exact jy (fun _ _ _=>trivial) hg
noncomputable abbrev qa:Int->Int->Bool:=fun _ _=>true
noncomputable abbrev addI:=gz qa fun i j=>.int (i+j)
noncomputable abbrev ky:=gz qa fun i j=>.int (i - j)
noncomputable abbrev gj:=gz (fun i j=>decide ((-(2 ^ 64) < i/\i < 2 ^ 64)\/(-(2 ^ 64) < j/\j < 2 ^ 64))) fun i j=>.int (i * j)
noncomputable abbrev pd:=gz (fun _ j=>decide (0 < j)) fun i j=>.int (i % j)
noncomputable abbrev vQ:=gz (fun i j=>decide (0<=j/\j<=1000000/\i.natAbs < 2 ^ 64)) fun i j=>.int (i ^ j.toNat)
noncomputable abbrev ltI:=gz qa fun i j=>.bl (decide (i < j))
noncomputable abbrev leI:=gz qa fun i j=>.bl (decide (i<=j))
noncomputable abbrev gtI:=gz qa fun i j=>.bl (decide (j < i))
theorem od_addI:OpD K (rI0 fun i j=>.int (i+j)) addI:=hU fun i j _=>.int _
theorem c7:OpD K (rI0 fun i j=>.int (i - j)) ky:=hU fun i j _=>.int _
theorem bV:OpD K (rI CMul fun i j=>.int (i * j)) gj:=jy (fun i j h=>by simpa [CMul,uW,xC] using h) fun i j _=>.int _
theorem iy:OpD K (rI (fun _ j=>0 < j) fun i j=>.int (i % j)) pd:=jy (fun i j h=>by simpa [CMul,uW,xC] using h) fun i j _=>.int _
theorem rT:OpD K (rI xC fun i j=>.int (i ^ j.toNat)) vQ:=jy (fun i j h=>by simpa [CMul,uW,xC] using h) fun i j _=>.int _
theorem wa:OpD K (rI0 fun i j=>.bl (decide (i < j))) ltI:=hU fun i j _=>.bl _
theorem wb:OpD K (rI0 fun i j=>.bl (decide (i<=j))) leI:=hU fun i j _=>.bl _
theorem Ag:OpD K (rI0 fun i j=>.bl (decide (j < i))) gtI:=hU fun i j _=>.bl _
noncomputable def zP:D->D->Option (D × Fl)
 | .tup xs,.tup ys=>if xs.length+ys.length<=16777216 then some (.tup (xs ++ ys),.z) else none
 | _,_=>none
noncomputable def zR:D->D->Option (D × Fl)
 | .lst xs,.lst ys=>if xs.length+ys.length<=16777216 then some (.lst (xs ++ ys),.u) else none
 | _,_=>none
noncomputable def zQ:D->D->Option (D × Fl)
 | .str xs,.str ys=>if xs.length+ys.length<=16777216 then some (.str (xs ++ ys),.z) else none
 | _,_=>none
theorem Reps.len {ds:List D} {vs:List V} (r:Reps (Rep K H) ds vs L):ds.length=vs.length:=by
 induction r with
 | nil=>rfl
 | cons _ _ ih=>simp [ih]
theorem Reps.append {ds ds':List D} {vs vs':List V} {L L':List Addr} (r:Reps (Rep K H) ds vs L) (r':Reps (Rep K H) ds' vs' L'):Reps (Rep K H) (ds ++ ds') (vs ++ vs') (L ++ L'):=by
 induction r with
 | nil=>exact r'
 | cons a _ ih=>rw [List.append_assoc];exact .cons a ih
theorem Reps.nil_iff {ds:List D} {vs:List V} (r:Reps (Rep K H) ds vs L):ds=[] ↔ vs=[]:=by cases r <;> simp
noncomputable def nF (K:FG):R2:=fun x y H Q=>∃ a b ys,x=.ref a/\y=.ref b/\SqT K H a []/\SqT K H b ys/\Q (.ref b) H
theorem vZ:OpR X (binaryOp .Add) (nF X.K):=by
 intro pins s σ H x y v u Q I rx ry h
 obtain ⟨a,b,ys,rfl,rfl,ha,hb,q⟩:=h
 cases rx
 cases ry
 obtain ⟨its,r1,p1,_⟩:=I.tuple ha
 obtain ⟨its2,r2,p2,_⟩:=I.tuple hb
 have e:its=[]:=r1.nil_iff.mpr rfl
 subst e
 obtain ⟨⟨cls,dd,data,sl⟩,ho,hc,n,hd⟩:=id p1
 obtain ⟨⟨cls2,dd2,data2,sl2⟩,ho2,hc2,n2,hd2⟩:=id p2
 simp only at hc hd hc2 hd2
 subst hc hd hc2 hd2
 exact concat_meets ⟨_,ho,rfl⟩ ⟨_,ho2,rfl⟩ noFill_tuple_add seq_tuple_add PySem.F.slot_tuple_add PySem.F.entry_tuple_add (PySem.F.args_tuple_add_2 _ _)
   (PyProof.Rows.tuple_addW0 a b _ _ n n2 dd dd2 sl sl2 (by simp)) ⟨ho,ho2,⟨.ref b,H,I,rfl,q⟩⟩
set_option tactic.hygienic true in
theorem od_catT:OpD K (fun x y H Q=>rN K x y H Q\/nF K x y H Q) zP:=fun a b H Q p ra rb e q=>by
 obtain ⟨da,va,La,fa⟩:=a
 obtain ⟨db,vb,Lb,fb⟩:=b
 obtain ⟨ra,oa⟩:=ra
 obtain ⟨rb,ob⟩:=rb
 dsimp only at ra rb
 cases da <;> try (exact nsE e)
 rename_i xs
 obtain ⟨pa,vs,rfl,ha,rs⟩:=ra.view
 cases db <;> try (exact nsE e)
 rename_i ys
 obtain ⟨pb,ws,rfl,hb,rs'⟩:=rb.view
 have e:(if xs.length+ys.length<=16777216 then some (D.tup (xs ++ ys),Fl.z) else none)=some p:=e
 split at e
 ·rename_i hl
  cases e
  by_cases hx:vs=[]
  ·have hx0:=rs.nil_iff.mpr hx
   subst hx hx0
   refine .inr ⟨pa,pb,ws,rfl,rfl,SqT.of ha,SqT.of hb,?_⟩
   exact q ⟨.tup ys,.ref pb,Lb,.z⟩ H (o9 (.tup hb rs') (jX (y:=⟨.tup ys,.ref pb,Lb,fb⟩) (B9 _ (CH.mpr rfl)) ⟨.tup hb rs',ob⟩ rfl)) rfl rfl
  ·refine .inl ⟨pa,pb,vs,ws,rfl,rfl,SqT.of ha,SqT.of hb,hx,by rw [<- rs.len,<- rs'.len,<- szl];exact hl,fun hw=>?_,fun hw p hp=>?_⟩
   ·have hy0:=rs'.nil_iff.mpr hw
    subst hy0
    refine q ⟨.tup (xs ++ []),.ref pa,La,.z⟩ H (o9 (by rw [List.append_nil];exact .tup ha rs) (jX (y:=⟨.tup xs,.ref pa,La,fa⟩) B8 ⟨.tup ha rs,oa⟩ rfl)) rfl rfl
   ·refine q ⟨.tup (xs ++ ys),.ref p,La ++ Lb,.z⟩ _ (zb hp (rs.append rs') fun c hc=>?_) rfl rfl
    rcases Ci.mp hc with h | h
    ·exact jX (y:=⟨.tup xs,.ref pa,La,fa⟩) B8 ⟨.tup ha rs,oa⟩ rfl c h
    ·exact jX (y:=⟨.tup ys,.ref pb,Lb,fb⟩) (B9 _ (CH.mpr rfl)) ⟨.tup hb rs',ob⟩ rfl c h
 ·exact nsE e
set_option tactic.hygienic true in
theorem y9:OpD K yy zR:=fun a b H Q p ra rb e q=>by
 obtain ⟨da,va,La,fa⟩:=a
 obtain ⟨db,vb,Lb,fb⟩:=b
 obtain ⟨ra,oa⟩:=ra
 obtain ⟨rb,ob⟩:=rb
 dsimp only at ra rb
 cases da <;> try (exact nsE e)
 rename_i xs
 obtain ⟨pa,vs,La,rfl,rfl,ha,rs⟩:=ra.view
 cases db <;> try (exact nsE e)
 rename_i ys
 obtain ⟨pb,ws,Lb,rfl,rfl,hb,rs'⟩:=rb.view
 have e:(if xs.length+ys.length<=16777216 then some (D.lst (xs ++ ys),Fl.u) else none)=some p:=e
 split at e
 ·rename_i hl
  cases e
  refine ⟨pa,pb,vs,ws,rfl,rfl,ha,hb,by rw [<- rs.len,<- rs'.len,<- szl];exact hl,fun p hp=>?_⟩
  refine q ⟨.lst (xs ++ ys),.ref p,p :: (La ++ Lb),.u⟩ _ (BA hp (rs.append rs') fun c hc=>?_) rfl rfl
  rcases Ci.mp hc with h | h
  ·exact qO (y:=⟨.lst xs,.ref pa,pa :: La,fa⟩) B8 ⟨.lst ha rs,oa⟩ rfl rfl c h
  ·exact qO (y:=⟨.lst ys,.ref pb,pb :: Lb,fb⟩) (B9 _ (CH.mpr rfl)) ⟨.lst hb rs',ob⟩ rfl rfl c h
 ·exact nsE e
set_option tactic.hygienic true in
theorem od_catS:OpD K (fun x y H Q=>∃ i j,x=.str i/\y=.str j/\i.length+j.length<=sizeLine/\Q (.str (i ++ j)) H) zQ:=fun a b H Q p ra rb e q=>by
 obtain ⟨da,va,La,fa⟩:=a
 obtain ⟨db,vb,Lb,fb⟩:=b
 obtain ⟨ra,oa⟩:=ra
 obtain ⟨rb,ob⟩:=rb
 dsimp only at ra rb
 cases da <;> try (exact nsE e)
 rename_i i
 obtain ⟨rfl,rfl⟩:=ra.view
 cases db <;> try (exact nsE e)
 rename_i j
 obtain ⟨rfl,rfl⟩:=rb.view
 have e:(if i.length+j.length<=16777216 then some (D.str (i ++ j),Fl.z) else none)=some p:=e
 split at e
 ·rename_i hl
  cases e
  exact ⟨i,j,rfl,rfl,by rw [<- szl];exact hl,q ⟨.str (i ++ j),.str (i ++ j),[],.z⟩ H (dP (.str _)) rfl rfl⟩
 ·exact nsE e
noncomputable abbrev bg:=orD addI (orD zQ (orD zP zR))
theorem aH:OpD K (fun x y H Q=>rI0 (fun i j=>.int (i+j)) x y H Q\/((∃ i j,x=.str i/\y=.str j/\i.length+j.length<=sizeLine/\Q (.str (i ++ j)) H)\/((rN K x y H Q\/nF K x y H Q)\/yy x y H Q))) bg:=od_addI.or (od_catS.or (od_catT.or y9))
theorem aC:OpR X (binaryOp .Add) (fun x y H Q=>rI0 (fun i j=>.int (i+j)) x y H Q\/((∃ i j,x=.str i/\y=.str j/\i.length+j.length<=sizeLine/\Q (.str (i ++ j)) H)\/((rN X.K x y H Q\/nF X.K x y H Q)\/yy x y H Q))):=op_add.or (op_add_str.or ((op_catT.or vZ).or Bu))
noncomputable def eqS:D->D->Option Bool
 | .non,.non=>some true | .non,.int _=>some false | .int _,.non=>some false | .non,.bl _=>some false | .bl _,.non=>some false | .non,.str _=>some false | .str _,.non=>some false
 | .int i,.int j=>some (decide (i=j)) | .bl i,.bl j=>some (decide (i=j)) | .str i,.str j=>some (decide (i=j))
 | .int _,.str _=>some false | .str _,.int _=>some false | .bl _,.str _=>some false | .str _,.bl _=>some false
 | _,_=>none
theorem wT {a b:D} {u v:V} {L L':List Addr} {k:Bool} (ra:Rep K H a u L) (rb:Rep K H b v L') (e:eqS a b=some k):AX u v=true/\k=decide (u=v):=by
 cases a <;> cases b <;> first | exact nsE e | (obtain ⟨rfl,rfl⟩:=ra.view;obtain ⟨rfl,rfl⟩:=rb.view;cases e;exact ⟨rfl,by simp⟩)
noncomputable def sd:D->Bool
 | .non=>true
 | _=>false
noncomputable def isN:D->D->Option (D × Fl)
 | a,.non=>some (.bl (sd a),.z)
 | _,_=>none
noncomputable def za:D->D->Option (D × Fl)
 | a,.non=>some (.bl (!sd a),.z)
 | _,_=>none
theorem Rep.non_iff {a:D} {u:V} (ra:Rep K H a u L):sd a=decide (u=.non):=by cases ra <;> simp [sd]
theorem yZ:OpD K (fun x y H Q=>y=.non/\Q (.bl (!decide (x=.non))) H) za:=fun a b H Q p ra rb e q=>by
 obtain ⟨db,vb,Lb,fb⟩:=b
 obtain ⟨rb,ob⟩:=rb
 dsimp only at rb
 cases db <;> try (exact nsE e)
 obtain ⟨rfl,rfl⟩:=rb.view
 unfold za at e
 cases e
 refine ⟨rfl,?_⟩
 rw [<- ra.rep.non_iff]
 exact q ⟨_,_,[],.z⟩ H (dP (.bl _)) rfl rfl
noncomputable def kC:D->Option (D × Fl)
 | .int i=>some (.int (-i),.z)
 | _=>none
theorem ge:UnD K (rU fun i=>.int (-i)) kC:=fun a H Q p ra e q=>by
 obtain ⟨da,va,La,fa⟩:=a
 obtain ⟨ra,oa⟩:=ra
 dsimp only at ra
 cases da <;> try (exact nsE e)
 obtain ⟨rfl,rfl⟩:=ra.view
 cases e
 exact ⟨_,rfl,q ⟨_,_,[],.z⟩ H (dP (.int _)) rfl rfl⟩
theorem Reps.at:∀ {ds:List D} {vs:List V} {L:List Addr} {i:Nat} {d:D},Reps (Rep K H) ds vs L->ds[i]?=some d->∃ v L',vs[i]?=some v/\Rep K H d v L'/\∀ c ∈ L',c ∈ L
 | _,_,_,_,_,.nil,h=>by simp at h
 | _,_,_,0,_,.cons r _,h=>by simp at h;subst h;exact ⟨_,_,rfl,r,fun c hc=>Cd _ hc⟩
 | _,_,_,i+1,_,.cons _ t,h=>by
  obtain ⟨v,L',h1,h2,h3⟩:=Reps.at (i:=i) t (by simpa using h)
  exact ⟨v,L',by simpa using h1,h2,fun c hc=>Ce _ (h3 c hc)⟩
theorem Reps.atI {ds:List D} {vs:List V} {i:Int} {d:D} (r:Reps (Rep K H) ds vs L) (h:atI ds i=some d):∃ v L',atI vs i=some v/\Rep K H d v L'/\∀ c ∈ L',c ∈ L:=by
 unfold L2.atI at h ⊢
 rw [<- r.len]
 cases e:ixN ds.length i with
 | none=>rw [e] at h;exact nsE h
 | some j=>rw [e] at h;exact r.at h
noncomputable def ixD:D->D->Option (D × Fl)
 | .lst xs,.int i=>(atI xs i).map fun d=>(d,.z)
 | .fls xs,.int i=>(atI xs i).map fun d=>(d,.z)
 | .tup xs,.int i=>(atI xs i).map fun d=>(d,.z)
 | _,_=>none
set_option tactic.hygienic true in
theorem od_ix:OpD K (fun x y H Q=>vK K x y H Q\/vJ K x y H Q) ixD:=fun a b H Q p ra rb e q=>by
 obtain ⟨da,va,La,fa⟩:=a
 obtain ⟨db,vb,Lb,fb⟩:=b
 obtain ⟨rb,ob⟩:=rb
 have ra0:=ra
 obtain ⟨ra,oa⟩:=ra
 dsimp only at ra rb
 cases da <;> try (exact nsE e)
 all_goals (cases db <;> try (exact nsE e))
 all_goals (rename_i xs i;obtain ⟨rfl,rfl⟩:=rb.view)
 ·obtain ⟨pa,vs,rfl,ha,rs⟩:=ra.view
  obtain ⟨d,h1,h2⟩:=Cc.mp (show (atI xs i).map (fun d=>(d,Fl.z))=some p from e)
  subst h2
  obtain ⟨v,L',g1,g2,g3⟩:=rs.atI h1
  refine .inr ⟨pa,vs,i,v,rfl,rfl,SqT.of ha,g1,q ⟨d,v,L',.z⟩ H (o9 g2 fun c hc=>?_) rfl rfl⟩
  exact jX (y:=⟨.tup xs,.ref pa,La,fa⟩) B8 ra0 rfl c (g3 c hc)
 ·obtain ⟨pa,vs,La,rfl,rfl,ha,rs⟩:=ra.view
  obtain ⟨d,h1,h2⟩:=Cc.mp (show (atI xs i).map (fun d=>(d,Fl.z))=some p from e)
  subst h2
  obtain ⟨v,L',g1,g2,g3⟩:=rs.atI h1
  refine .inl ⟨pa,vs,i,v,rfl,rfl,SqL.of ha,g1,q ⟨d,v,L',.z⟩ H (o9 g2 fun c hc=>?_) rfl rfl⟩
  exact qO (y:=⟨.lst xs,.ref pa,pa :: La,fa⟩) B8 ra0 rfl rfl c (g3 c hc)
 ·obtain ⟨pa,vs,rfl,ha,rs⟩:=ra.view
  obtain ⟨d,h1,h2⟩:=Cc.mp (show (atI xs i).map (fun d=>(d,Fl.z))=some p from e)
  subst h2
  obtain ⟨v,L',g1,g2,g3⟩:=rs.atI h1
  refine .inl ⟨pa,vs,i,v,rfl,rfl,ha.sq,g1,q ⟨d,v,L',.z⟩ H (o9 g2 fun c hc=>?_) rfl rfl⟩
  exact jX (y:=⟨.fls xs,.ref pa,La,fa⟩) B8 ra0 rfl c (g3 c hc)
theorem ix_ok:IxR X (fun x y H Q=>vK X.K x y H Q\/vJ X.K x y H Q):=ix_list.or BK
end
end L3
end
section
namespace L3
open PySem L2
section
variable {K:FG} {H:Hp} {Ks:Addr->Prop} {d:D} {v:V} {L:List Addr} {X:Cx}
noncomputable def c1 (f:D->Option (D × Fl)):List D->Option (D × Fl)
 | [d]=>f d
 | _=>none
noncomputable def c2 (f:D->D->Option (D × Fl)):List D->Option (D × Fl)
 | [d,d']=>f d d'
 | _=>none
theorem ik {ys:List It3} {f:D->Option (D × Fl)} {p:D × Fl} (e:c1 f (ys.map (·.d))=some p):∃ y,ys=[y]/\f y.d=some p:=by
 match ys,e with
 | [],e=>exact nsE e
 | [y],e=>exact ⟨y,rfl,e⟩
 | _ :: _ :: _,e=>exact nsE e
theorem ol {ys:List It3} {f:D->D->Option (D × Fl)} {p:D × Fl} (e:c2 f (ys.map (·.d))=some p):∃ y z,ys=[y,z]/\f y.d z.d=some p:=by
 match ys,e with
 | [],e=>exact nsE e
 | [_],e=>exact nsE e
 | [y,z],e=>exact ⟨y,z,rfl,e⟩
 | _ :: _ :: _ :: _,e=>exact nsE e
noncomputable def t7:D->Option (D × Fl)
 | .lst xs=>some (.int xs.length,.z)
 | .fls xs=>some (.int xs.length,.z)
 | .tup xs=>some (.int xs.length,.z)
 | _=>none
noncomputable abbrev fH:=c1 t7
set_option tactic.hygienic true in
theorem dm:ff K (fun xs H Q=>∃ p ys,xs=[.ref p]/\(SqL K H p ys\/SqT K H p ys)/\Q (.int ys.length) H) fH:=fun ys H Q p ra e q=>by
 obtain ⟨y,rfl,e2⟩:=ik e
 clear e
 have e:=e2
 clear e2
 have rr:=(ra y B8).rep
 obtain ⟨da,va,La,fa⟩:=y
 dsimp only at rr e
 cases da <;> try (exact nsE e)
 ·rename_i xs
  obtain ⟨pa,vs,rfl,ha,rs⟩:=rr.view
  cases e
  exact ⟨pa,vs,rfl,.inr (SqT.of ha),by rw [<- rs.len];exact q ⟨_,_,[],.z⟩ H (dP (.int _)) rfl rfl⟩
 ·rename_i xs
  obtain ⟨pa,vs,La,rfl,rfl,ha,rs⟩:=rr.view
  cases e
  exact ⟨pa,vs,rfl,.inl (SqL.of ha),by rw [<- rs.len];exact q ⟨_,_,[],.z⟩ H (dP (.int _)) rfl rfl⟩
 ·rename_i xs
  obtain ⟨pa,vs,rfl,ha,rs⟩:=rr.view
  cases e
  exact ⟨pa,vs,rfl,.inl ha.sq,by rw [<- rs.len];exact q ⟨_,_,[],.z⟩ H (dP (.int _)) rfl rfl⟩
noncomputable def tupQ:D->Option (D × Fl)
 | .lst xs=>some (.tup xs,.z)
 | .tup xs=>some (.tup xs,.z)
 | _=>none
noncomputable abbrev sT:=c1 tupQ
set_option tactic.hygienic true in
theorem qX:ff K (fun xs H Q=>∃ p ys,xs=[.ref p]/\((SqL K H p ys/\∀ l,H l=none->Q (.ref l) (upd H l (.tup ys)))\/(SqT K H p ys/\Q (.ref p) H))) sT:=fun ys H Q p ra e q=>by
 obtain ⟨y,rfl,e2⟩:=ik e
 clear e
 have e:=e2
 clear e2
 have ry:=ra y B8
 have rr:=ry.rep
 obtain ⟨da,va,La,fa⟩:=y
 dsimp only at rr e
 cases da <;> try (exact nsE e)
 ·rename_i xs
  obtain ⟨pa,vs,rfl,ha,rs⟩:=rr.view
  cases e
  exact ⟨pa,vs,rfl,.inr ⟨SqT.of ha,q ⟨.tup xs,.ref pa,La,.z⟩ H (o9 (.tup ha rs) (jX (y:=⟨.tup xs,.ref pa,La,fa⟩) B8 ry rfl)) rfl rfl⟩⟩
 ·rename_i xs
  obtain ⟨pa,vs,La,rfl,rfl,ha,rs⟩:=rr.view
  cases e
  exact ⟨pa,vs,rfl,.inl ⟨SqL.of ha,fun l hl=>q ⟨.tup xs,.ref l,La,.z⟩ _ (zb hl rs (qO (y:=⟨.lst xs,.ref pa,pa :: La,fa⟩) B8 ry rfl rfl)) rfl rfl⟩⟩
noncomputable def absQ:D->Option (D × Fl)
 | .int i=>some (.int (if i < 0 then -i else i),.z)
 | _=>none
theorem Rep.int_inv {i:Int} (r:Rep K H (.int i) v L):v=.int i:=by cases r;rfl
noncomputable def pB (C:Int->Int->Bool) (g:Int->Int->D):D->D->Option (D × Fl)
 | .int i,.int j=>if C i j then some (g i j,.z) else none
 | _,_=>none
set_option tactic.hygienic true in
theorem jZ {a b:D} {C:Int->Int->Bool} {g:Int->Int->D} {p:D × Fl} (e:pB C g a b=some p):∃ i j,a=.int i/\b=.int j/\C i j=true/\p=(g i j,.z):=by
 cases a <;> cases b <;> try (exact nsE e)
 rename_i i j
 have e:(if C i j then some (g i j,Fl.z) else none)=some p:=e
 split at e
 ·rename_i h;cases e;exact ⟨i,j,rfl,rfl,h,rfl⟩
 ·exact nsE e
noncomputable abbrev Ai:=c2 (pB qa fun i j=>.int (if j > i then j else i))
noncomputable abbrev Ah:=c2 (pB qa fun i j=>.int (if j < i then j else i))
noncomputable abbrev wZ:=c2 (pB (fun _ j=>decide (0 < j/\j < 1073741824)) fun i j=>.tup [.int (i / j),.int (i % j)])
theorem zN:ff K (fun xs H Q=>∃ i j,xs=[.int i,.int j]/\Q (.int (if j > i then j else i)) H) Ai:=fun ys H Q p ra e q=>by
 obtain ⟨y,z,rfl,e2⟩:=ol e
 clear e
 have e:=e2
 clear e2
 obtain ⟨i,j,ei,ej,_,rfl⟩:=jZ e
 have r1:=(ra y B8).rep
 have r2:=(ra z (B9 _ B8)).rep
 rw [ei] at r1
 rw [ej] at r2
 refine ⟨i,j,?_,q ⟨_,_,[],.z⟩ H (dP (.int _)) rfl rfl⟩
 show [y.v,z.v]=_
 rw [r1.int_inv,r2.int_inv]
theorem zK:ff K (fun xs H Q=>∃ i j,xs=[.int i,.int j]/\Q (.int (if j < i then j else i)) H) Ah:=fun ys H Q p ra e q=>by
 obtain ⟨y,z,rfl,e2⟩:=ol e
 clear e
 have e:=e2
 clear e2
 obtain ⟨i,j,ei,ej,_,rfl⟩:=jZ e
 have r1:=(ra y B8).rep
 have r2:=(ra z (B9 _ B8)).rep
 rw [ei] at r1
 rw [ej] at r2
 refine ⟨i,j,?_,q ⟨_,_,[],.z⟩ H (dP (.int _)) rfl rfl⟩
 show [y.v,z.v]=_
 rw [r1.int_inv,r2.int_inv]
theorem uy:ff K (fun xs H Q=>∃ i j,xs=[.int i,.int j]/\uW i j/\∀ p,H p=none->Q (.ref p) (upd H p (.tup [.int (i / j),.int (i % j)]))) wZ:=fun ys H Q p ra e q=>by
 obtain ⟨y,z,rfl,e2⟩:=ol e
 clear e
 have e:=e2
 clear e2
 obtain ⟨i,j,ei,ej,hc,rfl⟩:=jZ e
 have r1:=(ra y B8).rep
 have r2:=(ra z (B9 _ B8)).rep
 rw [ei] at r1
 rw [ej] at r2
 refine ⟨i,j,?_,by simpa [uW] using hc,fun p hp=>q ⟨_,.ref p,[],.z⟩ _ (zb hp (L:=[]) (.cons (L:=[]) (.int _) (.cons (L:=[]) (.int _) .nil)) fun c hc=>by cases hc) rfl rfl⟩
 show [y.v,z.v]=_
 rw [r1.int_inv,r2.int_inv]
noncomputable def md:List D->Option (List Bool)
 | []=>some []
 | .bl b :: ds=>(md ds).map (b :: ·)
 | _=>none
set_option tactic.hygienic true in
theorem pX:∀ {ds:List D} {bs:List Bool},md ds=some bs->ds=bs.map D.bl
 | [],bs,e=>by cases e;rfl
 | d :: ds,bs,e=>by
  cases d <;> try (exact nsE e)
  rename_i b
  obtain ⟨r,h1,h2⟩:=Cc.mp (show (md ds).map (b :: ·)=some bs from e)
  subst h2
  rw [pX h1];rfl
theorem Reps.bls:∀ {bs:List Bool} {vs:List V} {L:List Addr},Reps (Rep K H) (bs.map D.bl) vs L->vs=bs.map V.bl
 | [],_,_,.nil=>rfl
 | b :: bs,_,_,.cons r rs=>by
  rw [Reps.bls rs]
  cases r;rfl
noncomputable def B4:D->Option (D × Fl)
 | .lst xs=>(md xs).map fun bs=>(.bl (bs.all id),.z)
 | _=>none
noncomputable abbrev uU:=c1 B4
set_option tactic.hygienic true in
theorem n9:ff K (fun xs H Q=>∃ (a:Addr) (bs:List Bool),xs=[.ref a]/\SqL K H a (bs.map V.bl)/\Q (.bl (bs.all id)) H) uU:=fun ys H Q p ra e q=>by
 obtain ⟨y,rfl,e2⟩:=ik e
 clear e
 have e:=e2
 clear e2
 have rr:=(ra y B8).rep
 obtain ⟨da,va,La,fa⟩:=y
 dsimp only at rr e
 cases da <;> try (exact nsE e)
 rename_i xs
 obtain ⟨pa,vs,La,rfl,rfl,ha,rs⟩:=rr.view
 obtain ⟨bs,h1,h2⟩:=Cc.mp (show (md xs).map (fun bs=>(D.bl (bs.all id),Fl.z))=some p from e)
 subst h2
 have:=pX h1
 subst this
 have:=rs.bls
 subst this
 exact ⟨pa,bs,rfl,SqL.of ha,q ⟨_,_,[],.z⟩ H (dP (.bl _)) rfl rfl⟩
noncomputable def iI (xs:List D) (lo hi:Option Int):List D:=(xs.drop (HT.sIx xs.length 0 lo)).take (HT.sIx xs.length xs.length hi - HT.sIx xs.length 0 lo)
end
end L3
end
section
namespace L3
open PySem L2
noncomputable def z7:D->Option (List D)
 | .lst xs=>some xs
 | .fls xs=>some xs
 | .tup xs=>some xs
 | _=>none
noncomputable def cT (m:EM):IM:=ae m fun r=>ae (der r) fun d=>bo ((z7 d).map fun ds=>([r],ds))
noncomputable def iSeq (K:FG) (tl:TE):TI:=fun σ H R=>tl σ H fun x H1=>(∃ a,x=.ref a/\(∃ xs,SqL K H1 a xs)/\R (Itl K a) H1)\/∃ a,x=.ref a/\(∃ xs,SqT K H1 a xs)/\R (Itt K a) H1
theorem Bf {X:Cx} {tg l:Expr} {tl:TE} (hl:PE X l tl):PI X tg l (iSeq X.K tl):=by
 intro pins s σ H R I h
 exact thn (hl pins s σ H _ I h) fun v s1 ⟨x,H1,I1,r1,q1⟩=>by
   rcases q1 with ⟨a,e,⟨xs,hq⟩,q⟩ | ⟨a,e,⟨xs,hq⟩,q⟩
   ·subst e
    cases r1
    obtain ⟨its,rv,p,hz⟩:=I1.list hq
    refine wpAny_pyIter_list p.isList ?_
    refine ⟨s1.heap.objs.size,[s1.heap.objs.size],_,_,H1,rfl,I1.kept (t':=s1.toks) fun b o e=>Ca _ e,sR a _,⟨_,Cj _ rfl,rfl,rfl⟩,fun b hb=>?_,q⟩
    have e:b=s1.heap.objs.size:=by simpa using hb
    subst e
    exact I1.fpOk (Cq _) (I1.hok.fresh (Cq _))
   ·subst e
    cases r1
    obtain ⟨its,rv,p,hz⟩:=I1.tuple hq
    refine wpAny_pyIter_tuple (show s1.heap.IsTuple a its.toArray from p) ?_
    refine ⟨s1.heap.objs.size,[s1.heap.objs.size],_,_,H1,rfl,I1.kept (t':=s1.toks) fun b o e=>Ca _ e,qb a _,⟨_,Cj _ rfl,rfl,rfl⟩,fun b hb=>?_,q⟩
    have e:b=s1.heap.objs.size:=by simpa using hb
    subst e
    exact I1.fpOk (Cq _) (I1.hok.fresh (Cq _))
section
variable {K:FG} {G G0:Gm} {W W0:D->Sto->Prop} {H H':Hp} {σ:St} {ρ ρ':Sto} {T T':List It3} {g:Nat->Option It3} {x y z:It3} {α β:Type} {X:Cx}
theorem Ar.item2 {r:R3} {v:V} {Ts:List It3} {d:D} (w:Wf K G H σ ρ (Ts ++ T) g) (a:Ar σ r v Ts) (e:der r ρ=some (.ok d,ρ)):∃ y,y.d=d/\y.v=v/\((∃ i,i ∈ pls [r]/\g i=some y)\/y ∈ Ts):=by
 cases a with
 | @pl i v h =>
  have er:der (.pl i) ρ=((ρ[i]?).join).map fun p=>(.ok p.1,ρ):=rfl
  rw [er] at e
  cases q:(ρ[i]?).join with
  | none=>rw [q] at e;exact nsE e
  | some p =>
   rw [q] at e
   obtain ⟨y,e1,e2,e3,e4⟩:=w.slot (d:=p.1) (f:=p.2) q
   have e5:p.1=d:=by cases e;rfl
   rw [h] at e4
   injection e4 with e4
   injection e4 with e4
   exact ⟨y,e2.trans e5,e4.symm,.inl ⟨i,B8,e1⟩⟩
 | val x=>cases e;exact ⟨x,rfl,rfl,.inr (by simp)⟩
theorem nk {J:It} {H1:Hp} {y:It3} {ds:List D} {vs:List V} {L0:List Addr} (hr:Reps (Rep K H1) ds vs L0) (hk:∀ c ∈ L0,eZ [y] c) (hL:∀ c ∈ L0,c ∈ y.L)
  (hgo:∀ (M:Addr->Prop) (H':Hp),(∀ b,M b->MutAt H1 b)->(∀ b o,H1 b=some o->¬ M b->H' b=some o)->(∀ b ∈ y.L,¬ M b)->(∀ (i:Nat) (v:V),vs[i]?=some v->J.go i H'/\∀ x H'',J.yld i H' x H''->H''=H'/\x=v)/\J.stop vs.length H'):Walk K J H1 [y] ds:=by
 obtain ⟨ws,h1,h2,h3⟩:=Reps.split hr
 refine ⟨ws,fun x hx=>⟨(h3 x hx).1,(h3 x hx).2.1,fun c hc=>hk c ((h3 x hx).2.2 c hc)⟩,fun M H' hm hkp hM=>?_⟩
 obtain ⟨go,stop⟩:=hgo M H' hm hkp (hM y B8)
 refine ⟨fun i d hd=>?_,by rw [hr.len];exact stop⟩
 have hi:∃ u,ws[i]?=some u/\u.d=d:=by
  rw [<- h1,Cp] at hd
  obtain ⟨u,a,b⟩:=Cc.mp hd
  exact ⟨u,a,b⟩
 obtain ⟨u,eu,ud⟩:=hi
 have hv:vs[i]?=some u.v:=by rw [<- h2,Cp,eu];rfl
 obtain ⟨g1,g2⟩:=go i u.v hv
 refine ⟨g1,fun x H'' hy=>?_⟩
 obtain ⟨e1,e2⟩:=g2 x H'' hy
 subst e1 e2
 have hu:=Cm eu
 refine ⟨u,⟨Same.refl _,(h3 u hu).2.1.keep hkp hm fun b hb=>hM y B8 b (hL b ((h3 u hu).2.2 b hb)),fun c hc=>.inr ⟨u,hu,hc⟩,fun hf=>absurd (h3 u hu).1 hf⟩,ud,(h3 u hu).1,rfl⟩
theorem my {y:It3} {a:Addr} {ds:List D} {vs:List V} (hq:∀ H',SqL K H' a vs->True) (hs:∀ (M:Addr->Prop) (H':Hp),(∀ b,M b->MutAt H b)->(∀ b o,H b=some o->¬ M b->H' b=some o)->(∀ b ∈ y.L,¬ M b)->SqL K H' a vs) :
  ∀ (M:Addr->Prop) (H':Hp),(∀ b,M b->MutAt H b)->(∀ b o,H b=some o->¬ M b->H' b=some o)->(∀ b ∈ y.L,¬ M b)->(∀ (i:Nat) (v:V),vs[i]?=some v->(Itl K a).go i H'/\∀ x H'',(Itl K a).yld i H' x H''->H''=H'/\x=v)/\(Itl K a).stop vs.length H':=fun M H' hm hk hM=>by
 have sq:SqL K H' a vs:=hs M H' hm hk hM
 refine ⟨fun i v hv=>⟨⟨vs,v,sq,hv⟩,fun x H'' ⟨e1,e2⟩=>⟨e1,?_⟩⟩,⟨vs,sq,Cq _⟩⟩
 have:=e2 vs sq
 rw [hv] at this
 injection this with this
 exact this.symm
theorem AK {m:EM} {R:It->Hp->Prop} (h:tI K G0 W0 (cT m) σ H R):iSeq K (tE K G0 W0 m) σ H R:=by
 obtain ⟨G,W,le,ρ,T,g,o,ρ',w,e,q⟩:=h
 have herr:∀ x,o=.error x->W x ρ':=fun x hx=>by subst hx;exact q
 refine tE.seq le w e herr fun ra ρ1 e1 v H1 ⟨Ts,g1,w1,a1⟩=>?_
 obtain ⟨d,d1,e2⟩:=aX e1
 obtain ⟨p,e3,rfl,rfl⟩:=cg e2
 obtain ⟨ds,e4,e5⟩:=Cc.mp e3
 subst e5
 obtain ⟨y,y1,y2,y3⟩:=a1.item2 w1 d1
 have hy:Itm (Ts ++ T) g1 y:=by
  rcases y3 with ⟨i,_,ei⟩ | h
  ·exact .inl ⟨i,ei⟩
  ·exact .inr (Cd _ h)
 have ar:=(w1.itm hy).arg
 have qq:∀ J,Walk K J H1 [y] ds->R J H1:=fun J hw=>q J H1 [v] Ts g1 [y] w1 (by simpa using Ars.cons a1 .nil) (fun z hz=>by rw [CH.mp hz];exact y3) hw
 clear e1 e2 e3 q
 subst y1 y2
 have ar0:=ar
 obtain ⟨da,va,La,fa⟩:=y
 obtain ⟨rr,oo⟩:=ar
 dsimp only at rr e4
 cases da with
 | tup xs =>
  obtain ⟨pa,vs,rfl,ha,rs⟩:=rr.view
  cases e4
  refine .inr ⟨pa,rfl,⟨_,SqT.of ha⟩,qq _ (nk rs (jX (y:=⟨.tup ds,.ref pa,La,fa⟩) B8 ar0 rfl) (fun c hc=>hc) fun M H' hm hk hM=>?_)⟩
  have sq:SqT K H' pa vs:=SqT.of (hk pa _ ha fun z=>(hm pa z).notup ha)
  refine ⟨fun i v hv=>⟨⟨vs,v,sq,hv⟩,fun x H'' ⟨e1,e2⟩=>⟨e1,?_⟩⟩,⟨vs,sq,Cq _⟩⟩
  have:=e2 vs sq
  rw [hv] at this
  injection this with this
  exact this.symm
 | lst xs =>
  obtain ⟨pa,vs,La,rfl,rfl,ha,rs⟩:=rr.view
  cases e4
  refine .inl ⟨pa,rfl,⟨_,SqL.of ha⟩,qq _ (nk rs (qO (y:=⟨.lst ds,.ref pa,pa :: La,fa⟩) B8 ar0 rfl rfl) (fun c hc=>B9 _ hc) (my (ds:=ds) (fun _ _=>trivial) fun M H' hm hk hM=>SqL.of (hk pa _ ha (hM pa B8))))⟩
 | fls xs =>
  obtain ⟨pa,vs,rfl,ha,rs⟩:=rr.view
  cases e4
  refine .inl ⟨pa,rfl,⟨_,ha.sq⟩,qq _ (nk rs (jX (y:=⟨.fls ds,.ref pa,La,fa⟩) B8 ar0 rfl) (fun c hc=>hc) (my (ds:=ds) (fun _ _=>trivial) fun M H' hm hk hM=>(ha.keep hk hm).sq))⟩
 | _=>exact nsE e4
theorem eO {tg l:Expr} {m:EM} (h:RE X G0 W0 l m):RI X G0 W0 tg l (cT m):=⟨PI.imp (Bf h.h) fun _ _ _ h=>AK h⟩
noncomputable def aV (lo:Int) (n:Nat):List D:=(List.range n).map fun (k:Nat)=>D.int (lo+(k:Int))
theorem oB {H1:Hp} {ys:List It3} {lo:Int} {n:Nat}:Walk K (Itr lo n) H1 ys (aV lo n):=by
 refine ⟨[],fun x hx=>(by cases hx),fun M H' _ _ _=>⟨fun i d hd=>?_,?_⟩⟩
 ·unfold aV at hd
  rw [Cp] at hd
  obtain ⟨k,a,b⟩:=Cc.mp hd
  obtain ⟨hk,e⟩:=Cl.mp a
  rw [List.getElem_range] at e
  subst e
  rw [List.length_range] at hk
  refine ⟨hk,fun x H'' ⟨e1,e2⟩=>?_⟩
  subst e1
  exact ⟨⟨d,x,[],.z⟩,dP (by rw [<- b,e2];exact .int _),rfl,rfl,rfl⟩
 ·show n<=(aV lo n).length
  unfold aV
  simp
noncomputable def cS (j:Int):Bool:=decide (-(2 ^ 62)<=j/\j < 2 ^ 62)
noncomputable def cV:List D->Option (List D)
 | [.int j]=>if cS j then some (aV 0 j.toNat) else none
 | _=>none
noncomputable def dA:List D->Option (List D)
 | [.int i,.int j]=>if cS i && cS j then some (aV i (j - i).toNat) else none
 | _=>none
noncomputable def aT (f:List D->Option (List D)) (ms:M3 (List R3)):IM:=ae ms fun rs=>ae (gE rs) fun ds=>bo ((f ds).map fun xs=>([],xs))
set_option tactic.hygienic true in
theorem xP {ms:M3 (List R3)} {R:It->Hp->Prop} (h:tI K G0 W0 (aT cV ms) σ H R):Ao (tA K G0 W0 ms) σ H R:=by
 obtain ⟨G,W,le,ρ,T,g,o,ρ',w,e,q⟩:=h
 have herr:∀ x,o=.error x->W x ρ':=fun x hx=>by subst hx;exact q
 refine tA.seq le w e herr fun rs ρ1 e1 vs H1 Ts g1 w1 a1=>?_
 obtain ⟨ds,d1,e2⟩:=dE e1
 obtain ⟨p,e3,rfl,rfl⟩:=cg e2
 obtain ⟨xs,e4,e5⟩:=Cc.mp e3
 subst e5
 obtain ⟨ys,i1,f1,f2⟩:=a1.items w1 (fun x hx=>Cd _ hx) d1
 subst f1 f2
 match ys,e4,i1,a1 with
 | [],e4,_,_=>exact nsE e4
 | y :: z :: r,e4,_,_=>cases hd:y.d <;> (rw [Cu,Cu,hd] at e4;exact nsE e4)
 | [y],e4,i1,a1 =>
  have rr:=(w1.itm (i1 y B8)).rep
  cases hd:y.d <;> (rw [Cu,hd] at e4;try (exact nsE e4))
  rename_i j
  rw [hd] at rr
  have e4:(if cS j then some (aV 0 j.toNat) else none)=some xs:=e4
  split at e4
  ·rename_i hj
   cases e4
   have hj:=of_decide_eq_true hj
   refine ⟨j,by show [y.v]=_;rw [rr.int_inv],hj.1,hj.2,?_⟩
   exact q _ H1 [] [] g1 [] (w1.sub (Cn Ts T)) .nil (fun _ h=>by cases h) oB
  ·exact nsE e4
set_option tactic.hygienic true in
theorem xO {ms:M3 (List R3)} {R:It->Hp->Prop} (h:tI K G0 W0 (aT dA ms) σ H R):An (tA K G0 W0 ms) σ H R:=by
 obtain ⟨G,W,le,ρ,T,g,o,ρ',w,e,q⟩:=h
 have herr:∀ x,o=.error x->W x ρ':=fun x hx=>by subst hx;exact q
 refine tA.seq le w e herr fun rs ρ1 e1 vs H1 Ts g1 w1 a1=>?_
 obtain ⟨ds,d1,e2⟩:=dE e1
 obtain ⟨p,e3,rfl,rfl⟩:=cg e2
 obtain ⟨xs,e4,e5⟩:=Cc.mp e3
 subst e5
 obtain ⟨ys,i1,f1,f2⟩:=a1.items w1 (fun x hx=>Cd _ hx) d1
 subst f1 f2
 have inv:∀ {ds:List D},dA ds=some xs->∃ i j,ds=[.int i,.int j]/\cS i=true/\cS j=true/\xs=aV i (j - i).toNat:=fun {ds} h=>by
  unfold dA at h
  split at h
  ·rename_i i j
   split at h
   ·rename_i hh
    cases h
    simp only [Bool.and_eq_true] at hh
    exact ⟨i,j,rfl,hh.1,hh.2,rfl⟩
   ·exact nsE h
  ·exact nsE h
 obtain ⟨i,j,eds,hi,hj,rfl⟩:=inv e4
 match ys,eds,i1,a1 with
 | [],eds,_,_=>cases eds
 | [y],eds,_,_=>exact absurd (congrArg List.length eds) (by simp)
 | y :: z :: u :: r,eds,_,_=>exact absurd (congrArg List.length eds) (by simp)
 | [y,z],eds,i1,a1 =>
  have r1:=(w1.itm (i1 y B8)).rep
  have r2:=(w1.itm (i1 z (B9 _ B8))).rep
  have h1:y.d=.int i:=by injection eds
  have h2:z.d=.int j:=by injection eds with _ h;injection h
  rw [h1] at r1
  rw [h2] at r2
  have hi:=of_decide_eq_true hi
  have hj:=of_decide_eq_true hj
  refine ⟨i,j,by show [y.v,z.v]=_;rw [r1.int_inv,r2.int_inv],⟨hi.1,hi.2,hj.1,hj.2⟩,?_⟩
  exact q _ H1 [] [] g1 [] (w1.sub (Cn Ts T)) .nil (fun _ h=>by cases h) oB
theorem cF {tg a:Expr} {p pos:Pos} {ms:M3 (List R3)} (hg:Gl X "range") (hm:X.mg "range"=none) (ha:RA X G0 W0 [a] ms) (hs:starEach [a] X.env=[(false,eval a X.env)]):RI X G0 W0 tg (.Call (.Name "range" p) [a] [] pos) (aT cV ms):=⟨PI.imp (tJ hg hm ha.h hs) fun _ _ _ h=>xP h⟩
theorem dJ {tg a b:Expr} {p pos:Pos} {ms:M3 (List R3)} (hg:Gl X "range") (hm:X.mg "range"=none) (ha:RA X G0 W0 [a,b] ms) (hs:starEach [a,b] X.env=[(false,eval a X.env),(false,eval b X.env)]) (hs2:starEach [b] X.env=[(false,eval b X.env)]):RI X G0 W0 tg (.Call (.Name "range" p) [a,b] [] pos) (aT dA ms):=⟨PI.imp (tH hg hm ha.h hs hs2) fun _ _ _ h=>xO h⟩
end
end L3
end
section
namespace L3
open PySem L2
section
variable {K:FG} {G G0:Gm} {W W0:D->Sto->Prop} {H H':Hp} {σ:St} {ρ ρ':Sto} {T T':List It3} {g:Nat->Option It3} {x y z:It3} {α β:Type} {X:Cx} {L:List Addr}
noncomputable def vo (bnd:D->Sto->Option Sto) (m:EM):SM:=ae m fun r=>ae (gH r) fun p=>fun ρ=>(bnd p.1 ρ).map fun ρ1=>(.ok .nx,ρ1)
theorem AI {bnd:D->Sto->Option Sto} {tg:TG} {m:EM} {E:Ends} (hb:Bnd K G0.pr tg bnd) (h:tS K G0 W0 (vo bnd m) E σ H):vf (tE K G0 W0 m) tg E σ H:=by
 refine h.use fun G W le ρ T g r ρ' w e q=>?_
 refine tE.seq le w e q.err fun ra ρ1 e1 v H1 ⟨Ts,g1,w1,a1⟩=>?_
 obtain ⟨p,ρ2,g2,x,e2,w2,f1,_,_,f3⟩:=a1.take w1 e1
 have w3:=Wf.lowT (Ts:=[x]) w2
 obtain ⟨ρ3,e3,e4⟩:=Cc.mp e2
 cases e4
 rw [<- f3]
 exact hb G H1 σ ρ2 _ T g2 (d5 x) _ le.pr rfl w3 (by show bnd x.d ρ2=_;rw [f1];exact e3) fun σ2 g3 w4=>q _ _ _ w4
theorem A2 {tg e:Expr} {pos:Pos} {bnd:D->Sto->Option Sto} {m:EM} (hg:RG X G0.pr tg bnd) (he:RE X G0 W0 e m) (hs:swapsWithSole [tg] e pos.line X.env=pure false) (hw:swappedStores [tg] e X.env=pure none) (h1:(assignEach [tg] X.env).map (·.2)=[assign tg X.env]):RS X G0 W0 (.Assign [tg] e pos) (vo bnd m):=by
 obtain ⟨g,a,b⟩:=hg.h
 exact ⟨PS.imp (vP he.h a hs hw h1) fun _ _ _ h=>AI b h⟩
theorem lh {i:Nat} {y:Str} {py spos:Pos} {elt tg iter:Expr} {ifs:List Expr} {scope:Scope} {pos:Pos} {im:IM} {bnd:D->Sto->Option Sto} {cm:M3 Bool} {em:EM} (hN:X.N.Nodup) (hy:X.N[i]?=some y) (hx:Loc X.env.scope y) (NY:List Str) (ix:List (Option Nat)) (hc:X.calm=true) (hi:RI X G0 W0 tg iter im)
  (ht:∀ s H C fp,PTs (bc X NY scope s H C fp) ifs (tT X.K (b7 ix) noX cm)) (he:∀ s H C fp,RE (bc X NY scope s H C fp) (b7 ix) noX elt em)
  (ck:j4 scope X.N X.env.scope NY ix=true) (hij:Inj ix) (hsw:swapsWith (.ListComp elt [⟨tg,iter,ifs,0⟩] scope pos) (some (.Name y py)) spos.line X.env=pure true) (hf:X.fn y=true\/X.env.scope.names.lookup y=some .local)
  (hs:∀ x,foldedSetIterable iter X.env x=pure x) (hp:G0.pr i=false) (hgu:∃ tg',Bnd X.K (b7 ix).pr tg' bnd/\∀ s H C fp,PG (bc X NY scope s H C fp) tg tg'):RS X G0 W0 (.Assign [.Name y py] (.ListComp elt [⟨tg,iter,ifs,0⟩] scope pos) spos) (aN i (bZ im bnd cm em ix)):=by
 obtain ⟨tg',b1,b2⟩:=hgu
 exact ⟨PS.imp (qw hN hy hx NY ix hc hi.h b2 ht (fun s H C fp=>(he s H C fp).h) ck hsw hf hs) fun _ _ _ h=>qd szl hij b1 hp h⟩
noncomputable def isL:D->Bool
 | .lst _=>true
 | _=>false
theorem lU:∀ d v L H,isL d=true->Rep K H d v L->tyV K "list" v H:=fun d v L H h r=>by
 cases r with
 | lst ha _=>exact .inl ⟨rfl,_,SqL.of ha⟩
 | _=>cases h
noncomputable def uS:D->List D->Option (D × D)
 | .lst xs,[d]=>if xs.length < 16777216 then some (.lst (xs ++ [d]),.non) else none
 | _,_=>none
set_option tactic.hygienic true in
theorem qG:MutD K rO uS:=fun a d L0 as H Q p r m na ra nA e q=>by
 cases d with
 | lst xs =>
  obtain ⟨_,vs,_,e1,e2,ha,rs⟩:=r.view
  cases e1
  cases e2
  match as,e,ra,nA with
  | [],e,_,_=>exact nsE e
  | _ :: _ :: _,e,_,_=>exact nsE e
  | [y],e,ra,nA =>
   have e:(if xs.length < 16777216 then some (D.lst (xs ++ [y.d]),D.non) else none)=some p:=e
   split at e
   ·rename_i hl
    cases e
    refine ⟨a,vs,y.v,rfl,rfl,ha,by rw [<- rs.len,<- szl];exact hl,?_⟩
    have ry:=ra y B8
    have ny:=nA y B8
    have ma:MutAt H a:=.inl ⟨_,ha⟩
    have keep:∀ {d v L},Rep K H d v L->a ∉ L->Rep K (upd H a (.lst (vs ++ [y.v]))) d v L:=fun {d v L} r n=>r.keep (M:=fun b=>b=a) (fun b o hb h=>by rw [aL h];exact hb) (fun b e=>by rw [e];exact ma) fun b hb e=>n (by rw [<- e];exact hb)
    have keeps:Reps (Rep K (upd H a (.lst (vs ++ [y.v])))) xs vs L0:=rs.keep (M:=fun b=>b=a) (fun b o hb h=>by rw [aL h];exact hb) (fun b e=>by rw [e];exact ma) fun b hb e=>na (by rw [<- e];exact hb)
    exact q (.lst (vs ++ [y.v])) (L0 ++ (y.L ++ [])) ⟨.non,.non,[],.z⟩ (.lst bh (keeps.append (.cons (keep ry ny) .nil))) rfl (fun c hc=>by
     rcases Ci.mp hc with h | h
     ·exact .inl h
     ·rw [List.append_nil] at h;exact .inr ⟨y,B8,h⟩) rfl rfl .non fun c hc=>by cases hc
   ·exact nsE e
 | _=>exact nsE e
noncomputable def uk:D->List D->Option (D × D)
 | .lst xs,[.lst ys]=>if xs.length+ys.length<=16777216 then some (.lst (xs ++ ys),.non) else none
 | _,_=>none
theorem ext2 {xs:List D} (a:D) {b:D} {r:List D}:uk (.lst xs) (a :: b :: r)=none:=by cases a <;> rfl
set_option tactic.hygienic true in
theorem wq:MutD K rL uk:=fun a d L0 as H Q p r m na ra nA e q=>by
 cases d with
 | lst xs =>
  obtain ⟨_,vs,_,e1,e2,ha,rs⟩:=r.view
  cases e1
  cases e2
  match as,e,ra,nA with
  | [],e,_,_=>exact nsE e
  | y :: _ :: _,e,_,_=>exact nsE ((ext2 y.d).symm.trans e)
  | [y],e,ra,nA =>
   have ry:=ra y B8
   have ny:=nA y B8
   obtain ⟨yd,yv,yL,yf⟩:=y
   dsimp only at ry ny e
   cases yd with
   | lst ys =>
    obtain ⟨b,ws,L1,rfl,rfl,hb,rs'⟩:=ry.view
    have e:(if xs.length+ys.length<=16777216 then some (D.lst (xs ++ ys),D.non) else none)=some p:=e
    split at e
    ·rename_i hl
     cases e
     refine ⟨a,b,vs,ws,rfl,rfl,ha,hb,by rw [<- rs.len,<- rs'.len,<- szl];exact hl,?_⟩
     have ma:MutAt H a:=.inl ⟨_,ha⟩
     have keeps:∀ {ds vs' L},Reps (Rep K H) ds vs' L->a ∉ L->Reps (Rep K (upd H a (.lst (vs ++ ws)))) ds vs' L:=fun {ds vs' L} r n=>r.keep (M:=fun b=>b=a) (fun b o hb h=>by rw [aL h];exact hb) (fun b e=>by rw [e];exact ma) fun b hb e=>n (by rw [<- e];exact hb)
     exact q (.lst (vs ++ ws)) (L0 ++ L1) ⟨.non,.non,[],.z⟩ (.lst bh ((keeps rs na).append (keeps rs' fun h=>ny (B9 _ h)))) rfl (fun c hc=>by
      rcases Ci.mp hc with h | h
      ·exact .inl h
      ·exact .inr ⟨_,B8,B9 _ h⟩) rfl rfl .non fun c hc=>by cases hc
    ·exact nsE e
   | _=>exact nsE e
 | _=>exact nsE e
noncomputable def xZ:D->List D->Option (D × D)
 | .lst xs,[.int i,d]=>(ixN xs.length i).map fun j=>(.lst (xs.set j d),.non)
 | _,_=>none
theorem Reps.set:∀ {ds:List D} {vs:List V} {L L':List Addr} {d:D} {v:V} (j:Nat),Reps (Rep K H) ds vs L->Rep K H d v L'->∃ L2,Reps (Rep K H) (ds.set j d) (vs.set j v) L2/\∀ c ∈ L2,c ∈ L\/c ∈ L'
 | _,_,_,_,_,_,j,.nil,_=>⟨[],.nil,fun c hc=>by cases hc⟩
 | _,_,_,L',_,_,0,.cons (L:=L1) (L':=L1') r rs,r'=>⟨L' ++ L1',.cons r' rs,fun c hc=>by
  rcases Ci.mp hc with h | h
  ·exact .inr h
  ·exact .inl (Ce _ h)⟩
 | _,_,_,L',_,_,j+1,.cons (L:=L1) (L':=L1') r rs,r'=>by
  obtain ⟨L2,h1,h2⟩:=Reps.set j rs r'
  refine ⟨L1 ++ L2,.cons r h1,fun c hc=>?_⟩
  rcases Ci.mp hc with h | h
  ·exact .inl (Cd _ h)
  ·rcases h2 c h with h | h
   ·exact .inl (Ce _ h)
   ·exact .inr h
theorem set1 {xs:List D} (a:D):xZ (.lst xs) [a]=none:=by cases a <;> rfl
theorem set3' {xs:List D} (a:D) {b c:D} {r:List D}:xZ (.lst xs) (a :: b :: c :: r)=none:=by cases a <;> rfl
theorem zj:MutD K (lA rH) xZ:=fun a d L0 as H Q p r m na ra nA e q=>by
 cases d with
 | lst xs =>
  obtain ⟨_,vs,_,e1,e2,ha,rs⟩:=r.view
  cases e1
  cases e2
  match as,e,ra,nA with
  | [],e,_,_=>exact nsE e
  | [y],e,_,_=>exact nsE ((set1 y.d).symm.trans e)
  | y :: _ :: _ :: _,e,_,_=>exact nsE ((set3' y.d).symm.trans e)
  | [k,y],e,ra,nA =>
   have rk:=ra k B8
   have ry:=ra y (B9 _ B8)
   have ny:=nA y (B9 _ B8)
   obtain ⟨kd,kv,kL,kf⟩:=k
   dsimp only at rk
   cases kd with
   | int i =>
    obtain ⟨rfl,rfl⟩:=rk.view
    obtain ⟨j,h1,h2⟩:=Cc.mp (show (ixN xs.length i).map (fun j=>(D.lst (xs.set j y.d),D.non))=some p from e)
    subst h2
    refine ⟨.int i,y.v,rfl,a,vs,i,j,rfl,rfl,ha,by rw [<- rs.len];exact h1,?_⟩
    have ma:MutAt H a:=.inl ⟨_,ha⟩
    have ry':Rep K (upd H a (.lst (vs.set j y.v))) y.d y.v y.L:=ry.keep (M:=fun b=>b=a) (fun b o hb h=>by rw [aL h];exact hb) (fun b e=>by rw [e];exact ma) fun b hb e=>ny (by rw [<- e];exact hb)
    have keeps:Reps (Rep K (upd H a (.lst (vs.set j y.v)))) xs vs L0:=rs.keep (M:=fun b=>b=a) (fun b o hb h=>by rw [aL h];exact hb) (fun b e=>by rw [e];exact ma) fun b hb e=>na (by rw [<- e];exact hb)
    obtain ⟨L2,h3,h4⟩:=keeps.set j ry'
    exact q (.lst (vs.set j y.v)) L2 ⟨.non,.non,[],.z⟩ (.lst bh h3) rfl (fun c hc=>(h4 c hc).imp id fun h=>⟨y,B9 _ B8,h⟩) rfl rfl .non fun c hc=>by cases hc
   | _=>exact nsE e
 | _=>exact nsE e
theorem jo {i:Nat} {x:Str} {pn apos cpos:Pos} {id:String} {nm:Str} {Ty:String} {e:Expr} {es:List Expr} {ok:D->Bool} {r:V->List V->Hp->VK->Prop} {f:D->List D->Option (D × D)} {ms:M3 (List R3)} (pa:PlainAttrs Ty) (slot:Slot Ty nm id) (hty:typeOf (.builtin id)=pure (.type "method_descriptor")) (hm:MtR X id r) (hr:MutD X.K r f) (hok:∀ d v L H,ok d=true->Rep X.K H d v L->tyV X.K Ty v H)
  (ho:PE X (.Name x pn) (sU i)) (ha:RA X G0 W0 (e :: es) ms) (hbase:attributeBase (.Name x pn) nm X.env (eval (.Name x pn) X.env)=eval (.Name x pn) X.env)
  (hfew:((backTo cpos (starEach (e :: es) X.env)).all (fun x=>!x.1) && (backToKw cpos (keywordEach [] X.env)).all (fun x=>x.1.isSome) && decide ((e :: es).length+([]:List Keyword).length+(if ([]:List Keyword).isEmpty then 0 else 1) < 30))=true)
  (hline:(apos.endLine == cpos.line)=true) (hs:starEach (e :: es) X.env=(false,eval e X.env) :: starEach es X.env) (hplain:(backTo cpos (starEach es X.env)).any (·.1)=false):RE X G0 W0 (.Call (.Attribute (.Name x pn) nm apos) (e :: es) [] cpos) (nQ ok f i ms) :=
 ⟨PE.imp (pe_bm pa slot hty hm ho ha.h hbase hfew hline hs hplain) fun _ _ _ h=>AO hr hok h⟩
theorem vA {i:Nat} {x:Str} {pn p2 pos:Pos} {k e:Expr} {mk mv:EM} {t:uV} {f:D->List D->Option (D × D)} (hs:xz X t) (hr:MutD X.K (lA t) f) (ho:PE X (.Name x pn) (sU i)) (hk:RE X G0 W0 k mk) (hv:RE X G0 W0 e mv)
  (ha:∀ v,assign (.Subscript (.Name x pn) k p2) X.env v=(do
   let ov <- holding [v] (eval (.Name x pn) X.env)
   let iv <- holding [v,ov] (eval k X.env)
   standAt p2
   holding [v,ov,iv] (setItem ov iv v)
   release [v,ov,iv] []))
  (h1:swapsWithSole [.Subscript (.Name x pn) k p2] e pos.line X.env=pure false) (h2:swappedStores [.Subscript (.Name x pn) k p2] e X.env=pure none) (h3:(assignEach [.Subscript (.Name x pn) k p2] X.env).map (·.2)=[assign (.Subscript (.Name x pn) k p2) X.env]):RS X G0 W0 (.Assign [.Subscript (.Name x pn) k p2] e pos) (sZ f i mk mv) :=
 ⟨PS.imp (vP hv.h (Bg ho hk.h hs ha) h1 h2 h3) fun _ _ _ h=>AC hr h⟩
end
end L3
end
section
namespace L3
open PySem L2
section
variable {K:FG} {G G0:Gm} {W W0:D->Sto->Prop} {H H':Hp} {σ:St} {ρ ρ':Sto} {T T':List It3} {g:Nat->Option It3} {x y z:It3} {α β:Type} {X:Cx} {L:List Addr}
theorem ci {Y:Cx} {ix:List (Option Nat)}:PTs Y [] (tT K (b7 ix) noX dW):=fun pins s σ H Q I h=>yD pins s σ H Q I (Ay h)
theorem gP {Y:Cx} {c:Expr} {ix:List (Option Nat)} {m:M3 Bool} (h:RT Y (b7 ix) noX c m):PTs Y [c] (tT Y.K (b7 ix) noX m):=yC h.h
theorem cz {ix:List (Option Nat)} (h:(ix.filterMap id).Nodup):Inj ix:=by
 intro j k i hj hk
 induction ix generalizing j k with
 | nil=>simp at hj
 | cons o ix ih =>
  cases o with
  | none =>
   have h':(ix.filterMap id).Nodup:=by simpa using h
   cases j with
   | zero=>simp at hj
   | succ j =>
    cases k with
    | zero=>simp at hk
    | succ k=>rw [ih h' j k (by simpa using hj) (by simpa using hk)]
  | some i0 =>
   have h':(i0 :: ix.filterMap id).Nodup:=by simpa using h
   obtain ⟨n,h''⟩:=List.nodup_cons.mp h'
   have mem:∀ m:Nat,ix[m]?=some (some i0)->False:=fun m e=>n (List.mem_filterMap.mpr ⟨some i0,Cm e,rfl⟩)
   cases j with
   | zero =>
    simp at hj
    cases k with
    | zero=>rfl
    | succ k=>subst hj;exact (mem k (by simpa using hk)).elim
   | succ j =>
    cases k with
    | zero=>simp at hk;subst hk;exact (mem j (by simpa using hj)).elim
    | succ k=>rw [ih h'' j k (by simpa using hj) (by simpa using hk)]
noncomputable def qh:SM:=fun _=>none
theorem oQ {st:Stmt}:RS X G0 W0 st qh:=⟨PS.imp vO fun _ _ _ h=>by
 refine h.use fun G W le ρ T g r ρ' w e q=>?_
 cases e⟩
theorem u9 {r r':R2} {f f':D->D->Option (D × Fl)} {ma mb mc:EM} {Q:VK} (ho:OpD K r f) (ho':OpD K r' f') (h:tE K G0 W0 (lN f f' ma mb mc) σ H Q):ve r r' (tE K G0 W0 ma) (tE K G0 W0 mb) (tE K G0 W0 mc) σ H Q:=by
 refine h.use fun G W le ρ T g o ρ' w e q=>?_
 refine tE.seq le w e q.err fun ra ρ1 e1 va H1 ⟨Ts,g1,w1,a1⟩=>?_
 refine tE.seq le w1 e1 q.err fun rb ρ2 e2 vb H2 ⟨Us,g2,w2,a2⟩=>?_
 obtain ⟨da,d1,e3⟩:=aX e2
 obtain ⟨db,d2,e4⟩:=aX e3
 obtain ⟨k,e5,e6⟩:=iz e4
 obtain ⟨ya,i1,f1,f2⟩:=a1.item w2 (fun x hx=>Ce _ (Cd _ hx)) d1
 obtain ⟨yb,i2,f3,f4⟩:=a2.item w2 (fun x hx=>Cd _ hx) d2
 obtain ⟨p,e7,e8⟩:=CG.mp e5
 have hp:=xu e8
 subst f1 f2 f4
 rw [<- f3] at e7
 refine ho ya yb H2 _ p (w2.itm i1).arg (w2.itm i2).arg e7 fun u H3 nu ud uf=>?_
 have w3:=w2.push nu fun c h=>w2.kids (ys:=[ya,yb]) (fun y hy=>by
  rcases Cf.mp hy with h | hy
  ·rw [h];exact i1
  ·rw [CH.mp hy];exact i2) h
 have ru:=nu.rep
 rw [ud,hp] at ru
 refine ⟨k,ru.bl_eq.1,?_⟩
 have w4:=w3.sub (List.sublist_cons_self u _)
 cases k with
 | false =>
  cases e6
  have w5:=w4.sub (T':=T) ((Cn Ts T).trans (Cn Us _))
  exact q _ _ (w5.const (.bl false))
 | true =>
  simp only [if_true] at e6 ⊢
  refine tE.seq le w4 e6 q.err fun rc ρ5 e9 vc H5 ⟨Vs,g5,w5,a5⟩=>?_
  obtain ⟨db',d3,e10⟩:=aX e9
  obtain ⟨dc,d4,e11⟩:=aX e10
  obtain ⟨p',e12,rfl,rfl⟩:=cg e11
  obtain ⟨yb',i3,f5,f6⟩:=a2.item w5 (fun x hx=>Ce _ (Cd _ hx)) d3
  obtain ⟨yc,i4,f7,f8⟩:=a5.item w5 (fun x hx=>Cd _ hx) d4
  cases ef:f' db' dc with
  | none=>rw [ef] at e12;exact nsE e12
  | some s =>
   rw [ef] at e12
   cases e12
   have w6:=w5
   rw [show Vs ++ (Us ++ (Ts ++ T))=(Vs ++ (Us ++ Ts)) ++ T by simp] at w6
   have i3':Itm ((Vs ++ (Us ++ Ts)) ++ T) g5 yb':=by simpa using i3
   have i4':Itm ((Vs ++ (Us ++ Ts)) ++ T) g5 yc:=by simpa using i4
   rw [<- f6,<- f8]
   refine ho' yb' yc H5 Q s (w5.itm i3).arg (w5.itm i4).arg (by rw [f5,f7];exact ef) (pH w6 (fun y hy=>?_) q)
   rcases Cf.mp hy with h | hy
   ·rw [h];exact i3'
   ·rw [CH.mp hy];exact i4'
theorem bO {op:CmpOp} {r:R2} {f:D->D->Option (D × Fl)} {a b:Expr} {pos:Pos} {ma mb:EM} (ho:OpR X (compareOp op) r) (hd:OpD X.K r f) (ha:RE X G0 W0 a ma) (hb:RE X G0 W0 b mb) (hm:behindInMarks op b=false):RT X G0 W0 (.Compare a [op] [b] pos) (cB (ah f ma mb)):=⟨PT.imp (yE ho ha.h hb.h hm) fun _ _ _ h=>k8 hd (AA h)⟩
theorem vz {op op':CmpOp} {r r':R2} {f f':D->D->Option (D × Fl)} {a b c:Expr} {pos:Pos} {ma mb mc:EM} (ho:OpR X (compareOp op) r) (hd:OpD X.K r f) (ho':OpR X (compareOp op') r') (hd':OpD X.K r' f') (ha:RE X G0 W0 a ma) (hb:RE X G0 W0 b mb) (hc:RE X G0 W0 c mc) (hm:lastMarks [op,op'] [b,c]=false):RT X G0 W0 (.Compare a [op,op'] [b,c] pos) (cB (lN f f' ma mb mc)):=⟨PT.imp (vL ho ho' ha.h hb.h hc.h hm) fun _ _ _ h=>u9 hd hd' (AA h)⟩
end
end L3
namespace L3
theorem aF {mask:List Bool} {i:Nat} (h:mask.length<=i):prM mask i=false:=by
 unfold prM
 rw [List.getElem?_eq_none h]
end L3
end
section
namespace L3
open PySem L2
structure Bl (mg:Str->Option Value):Prop where
 len:mg "len"=none
 range:mg "range"=none
 abs:mg "abs"=none
 divmod:mg "divmod"=none
 enumerate:mg "enumerate"=none
 tuple:mg "tuple"=none
 isinstance:mg "isinstance"=none
 int:mg "int"=none
 bool:mg "bool"=none
 all:mg "all"=none
 str:mg "str"=none
 max:mg "max"=none
 min:mg "min"=none
 list:mg "list"=none
 dict:mg "dict"=none
 repr:mg "repr"=none
 sorted:mg "sorted"=none
 set:mg "set"=none
 zip:mg "zip"=none
 reversed:mg "reversed"=none
theorem fA:bootBuiltins "len"=some (.builtin "len"):=by decide +kernel
theorem xp:bootBuiltins "divmod"=some (.builtin "divmod"):=by decide +kernel
theorem jG:bootBuiltins "tuple"=some (.type "tuple"):=by decide +kernel
theorem oq:bootBuiltins "isinstance"=some (.builtin "isinstance"):=by decide +kernel
theorem xo:bootBuiltins "int"=some (.type "int"):=by decide +kernel
theorem xq:bootBuiltins "bool"=some (.type "bool"):=by decide +kernel
theorem sK:bootBuiltins "all"=some (.builtin "all"):=by decide +kernel
theorem xn:bootBuiltins "max"=some (.builtin "max"):=by decide +kernel
theorem sJ:bootBuiltins "min"=some (.builtin "min"):=by decide +kernel
theorem B2:bootBuiltins "dict"=some (.type "dict"):=by decide +kernel
theorem b_zip:bootBuiltins "zip"=some (.type "zip"):=by decide +kernel
end L3
end
section
namespace L3
open PySem L2
section
variable {K:FG} {G G0:Gm} {W W0:D->Sto->Prop} {H H':Hp} {σ:St} {ρ ρ':Sto} {T T':List It3} {g:Nat->Option It3} {x y z:It3} {α β:Type} {X:Cx} {L:List Addr}
theorem rB {m:EM} {Q Q':VK} (h:tE K G0 W0 m σ H Q) (f:∀ v H,Q v H->Q' v H):tE K G0 W0 m σ H Q':=by
 refine h.use fun G W le ρ T g o ρ' w e q=>?_
 refine tE.mk le w e ?_
 cases o with
 | ok r=>exact fun v H' g=>f v H' (q v H' g)
 | error x=>exact q
noncomputable def Aj:D->Option String
 | .non=>some "NoneType" | .bl _=>some "bool" | .int _=>some "int" | .str _=>some "str"
 | .tup _=>some "tuple" | .lst _=>some "list" | .fls _=>some "list" | .dk _=>some "dict" | .dt _=>some "dict" | .exc _ _=>none
noncomputable def qQ (t:String) (d:D):Option (D × Fl):=(Aj d).map fun k=>(.bl (pA k t),.z)
theorem Rep.kind {d:D} {v:V} {k:String} (r:Rep K H d v L) (e:Aj d=some k):KindOf K H v k:=by
 cases r with
 | non=>cases e;exact .non
 | bl b=>cases e;exact .bool b
 | int i=>cases e;exact .int i
 | str s=>cases e;exact .str s
 | tup h _=>cases e;exact .tuple (SqT.of h)
 | lst h _=>cases e;exact .list (SqL.of h)
 | lstF h _=>cases e;exact .list h.sq
 | dK h _ _=>cases e;exact .dK h
 | dT h _ _=>cases e;exact .dT h
 | exc _ _=>cases e
theorem jL {t:String} {tn:Str} {a:Expr} {p pT pos:Pos} {ma:EM} (hc:CallR X (.builtin "isinstance") (fun xs H Q=>∃ x k,xs=[x,.ty t]/\KindOf X.K H x k/\Q (.bl (pA k t)) H)) (hg:Gl X "isinstance") (hm:X.mg "isinstance"=none) (ht:PE X (.Name tn pT) (tC (.ty t))) (ha:RE X G0 W0 a ma)
  (he1:starEach [a,.Name tn pT] X.env=(false,eval a X.env) :: starEach [.Name tn pT] X.env) (he2:starEach [.Name tn pT] X.env=(false,eval (.Name tn pT) X.env) :: starEach [] X.env) (hpl:(backTo pos (starEach [.Name tn pT] X.env)).any (·.1)=false):RE X G0 W0 (.Call (.Name "isinstance" p) [a,.Name tn pT] [] pos) (mUn (qQ t) ma) :=
 ⟨PE.imp (lC hc hg hm oq (kP ha.h (kP ht qB he2) he1) (by decide) (by decide) he1 hpl) fun σ H Q h=>by
  have h:=zY (r:=fun x H Q=>∃ k,KindOf X.K H x k/\Q (.bl (pA k t)) H) (fun a H Q p ra e q=>by
   obtain ⟨k,h1,h2⟩:=Cc.mp e
   subst h2
   exact ⟨k,ra.rep.kind h1,q ⟨.bl (pA k t),.bl (pA k t),[],.z⟩ H (dP (.bl _)) rfl rfl⟩) h
  refine rB h fun x H1 ⟨k,hk,q⟩=>?_
  exact ⟨x,k,rfl,hk,q⟩⟩
noncomputable def wI:D->Option Key
 | .int i=>some (.inl i)
 | .str s=>some (.inr s)
 | _=>none
noncomputable def dD:List D->Option (List Key)
 | []=>some []
 | d :: ds=>match wI d,dD ds with
  | some k,some ks=>some (k :: ks)
  | _,_=>none
theorem ua {d:D} {v:V} {k:Key} (r:Rep K H d v L) (e:wI d=some k):v=kV k:=by
 cases r <;> cases e <;> rfl
theorem fv:∀ {ds:List D} {vs:List V} {L:List Addr} {ks:List Key},Reps (Rep K H) ds vs L->dD ds=some ks->vs=ks.map kV
 | _,_,_,ks,.nil,e=>by cases e;rfl
 | _,_,_,ks,.cons (d:=d) (ds:=ds) r rs,e=>by
  unfold dD at e
  cases h1:wI d with
  | none=>rw [h1] at e;exact nsE e
  | some k =>
   cases h2:dD ds with
   | none=>rw [h1,h2] at e;exact nsE e
   | some ks' =>
    rw [h1,h2] at e
    cases e
    rw [ua r h1,fv rs h2];rfl
noncomputable def fh (kvs:List (List Key × D)) (k:List Key):Option D:=(kvs.find? fun kv=>decide (kv.1=k)).map (·.2)
noncomputable def iX (kvs:List (List Key × D)) (k:List Key) (v:D):List (List Key × D) :=
 if (kvs.any fun kv=>decide (kv.1=k))=true then kvs.map (fun kv=>if kv.1=k then (kv.1,v) else kv) else kvs ++ [(k,v)]
theorem pD:∀ {kvs:List (List Key × D)} {ps:List (List Key × V)} {L:List Addr} {k:List Key} {d:D},kvs.map (·.1)=ps.map (·.1)->Reps (Rep K H) (kvs.map (·.2)) (ps.map (·.2)) L->fh kvs k=some d->∃ v L',ku ps k=some v/\Rep K H d v L'/\∀ c ∈ L',c ∈ L
 | [],ps,L,k,d,hk,r,e=>by cases e
 | kv :: kvs,[],L,k,d,hk,r,e=>by cases hk
 | kv :: kvs,p :: ps,L,k,d,hk,r,e=>by
  have hk':kv.1=p.1/\kvs.map (·.1)=ps.map (·.1):=by simpa using hk
  generalize hr:(kv :: kvs).map (·.2)=xs at r
  generalize hp:(p :: ps).map (·.2)=ys at r
  cases r with
  | nil=>cases hr
  | cons a as =>
   cases hr
   cases hp
   unfold fh at e
   rw [List.find?_cons] at e
   by_cases h:kv.1=k
   ·rw [Cv h] at e
    cases e
    exact ⟨_,_,i8 (hk'.1.symm.trans h),a,fun c hc=>Cd _ hc⟩
   ·rw [Cw h] at e
    obtain ⟨v,L',h1,h2,h3⟩:=pD hk'.2 as e
    exact ⟨v,L',by rw [i9 (fun z=>h (hk'.1.trans z))];exact h1,h2,fun c hc=>Ce _ (h3 c hc)⟩
noncomputable def pE:D->D->Option (D × Fl)
 | .dt kvs,.tup ks=>match dD ks with
  | some k=>(fh kvs k).map fun d=>(d,.z)
  | none=>none
 | _,_=>none
noncomputable def rM:R2:=fun x y H Q=>∃ a v,x=.ref a/\DGet H a y (some v)/\Q v H
theorem y7:OpD K rM pE:=fun a b H Q p ra rb e q=>by
 obtain ⟨da,va,La,fa⟩:=a
 obtain ⟨db,vb,Lb,fb⟩:=b
 have ra0:=ra
 obtain ⟨ra,oa⟩:=ra
 obtain ⟨rb,ob⟩:=rb
 dsimp only at ra rb e
 cases da with
 | dt kvs =>
  obtain ⟨pa,ps,L0,rfl,rfl,ha,hk,rs⟩:=ra.view
  cases db with
  | tup ks =>
   obtain ⟨pb,ws,rfl,hb,rs'⟩:=rb.view
   have e:(match dD ks with | some k=>(fh kvs k).map fun d=>(d,Fl.z) | none=>none)=some p:=e
   cases h1:dD ks with
   | none=>rw [h1] at e;exact nsE e
   | some k =>
    rw [h1] at e
    obtain ⟨d,h2,h3⟩:=Cc.mp (show (fh kvs k).map (fun d=>(d,Fl.z))=some p from e)
    subst h3
    have hw:=fv rs' h1
    subst hw
    obtain ⟨v,L',g1,g2,g3⟩:=pD hk rs h2
    refine ⟨pa,v,rfl,by rw [<- g1];exact DGet.t ha hb,q ⟨d,v,L',.z⟩ H (o9 g2 fun c hc=>?_) rfl rfl⟩
    exact qO (y:=⟨.dt kvs,.ref pa,pa :: L0,fa⟩) B8 ra0 rfl rfl c (g3 c hc)
  | _=>exact nsE e
 | _=>exact nsE e
open PySem.Spec PyProof.Rows in
theorem zB (hu:X.A.units+1 < cLine):IxR X rM:=by
 intro value slice pins s σ H x y v u Q I rx ry h hs
 obtain ⟨a,w,rfl,g,q⟩:=h
 cases rx
 have hT:=pJ I g
 unfold subscriptTail
 refine B5 ?_
 rw [getitemInPython_of_ne hT.not_modules]
 refine B5 (wpAny_specialOf hT PySem.F.slot_dict_getitem.lookup ?_)
 have fin:wpAny (model X.prog X.w) X.A (subscripted slice false (.ref a) u) (fun r s₃=>wpAny (model X.prog X.w) X.A (letTemporaryGo value (.ref a) r >>= fun _=>pure r) (EP X pins σ Q) X.xe s₃) X.xe s:=by
  rw [hs]
  exact wpAny_operating (uu hu I g ry fun w' s3 I3 rw'=>B5 (wpAny_letTemporaryGo (B6 ⟨w,H,I3,rw',q⟩)))
 first
  | exact B6 (B5 fin)
  | exact B5 (B6 (B5 fin))
  | exact B5 fin
noncomputable abbrev aw:=orD ixD pE
theorem aA:OpD K (fun x y H Q=>(vK K x y H Q\/vJ K x y H Q)\/rM x y H Q) aw:=od_ix.or y7
theorem aB (hu:X.A.units+1 < cLine):IxR X (fun x y H Q=>(vK X.K x y H Q\/vJ X.K x y H Q)\/rM x y H Q):=ix_ok.or (zB hu)
noncomputable def wx:EM:=bx (.val (.dt []) .u)
theorem vF {pos:Pos}:RE X G0 W0 (.Dict [] [] pos) wx:=⟨PE.imp vT fun σ H Q h=>by
 refine h.use fun G W le ρ T g o ρ' w e q=>?_
 cases e
 intro p hp
 refine q _ _ (Wf.done (Us:=[]) (ys:=[]) (x:=⟨.dt [],.ref p,[p],.u⟩) w (fun _ h=>(by cases h)) ⟨bH hp,.dT bh rfl .nil,fun c hc=>?_,fun _=>⟨rfl,p,[],rfl,rfl,(by simp),hp⟩⟩)
 rw [CH.mp hc];exact .inl hp⟩
noncomputable def rP:D->List D->Option (D × D)
 | .dt kvs,[.tup ks,v]=>match dD ks with
  | some k=>if kvs.length < 16777216 then some (.dt (iX kvs k v),.non) else none
  | none=>none
 | _,_=>none
noncomputable def rJ:uV:=fun o i v H Q=>∃ a H',o=.ref a/\DPut H a i v H'/\Q H'
theorem vn (hu:X.A.units+1 < cLine):xz X rJ:=by
 intro pins s σ H o i v ov iv u Q I ro ri rv h
 obtain ⟨a,H',rfl,g,q⟩:=h
 cases ro
 exact ut hu I g ri rv fun s' I'=>⟨H',I',q⟩
theorem oY:∀ {kvs:List (List Key × D)} {ps:List (List Key × V)} {L L':List Addr} {k:List Key} {d:D} {v:V},kvs.map (·.1)=ps.map (·.1)->Reps (Rep K H) (kvs.map (·.2)) (ps.map (·.2)) L->Rep K H d v L' ->
  ∃ L2,Reps (Rep K H) ((kvs.map fun kv=>if kv.1=k then (kv.1,d) else kv).map (·.2)) ((ps.map fun kv=>if kv.1=k then (kv.1,v) else kv).map (·.2)) L2/\(∀ c ∈ L2,c ∈ L\/c ∈ L')
 | [],[],L,L',k,d,v,hk,r,rd=>⟨[],.nil,fun c hc=>by cases hc⟩
 | [],_ :: _,_,_,_,_,_,hk,_,_=>by cases hk
 | _ :: _,[],_,_,_,_,_,hk,_,_=>by cases hk
 | kv :: kvs,p :: ps,L,L',k,d,v,hk,r,rd=>by
  have hk':kv.1=p.1/\kvs.map (·.1)=ps.map (·.1):=by simpa using hk
  generalize hr:(kv :: kvs).map (·.2)=xs at r
  generalize hp:(p :: ps).map (·.2)=ys at r
  cases r with
  | nil=>cases hr
  | @cons _ _ L1 _ _ L1' a as =>
   cases hr
   cases hp
   obtain ⟨L2,h1,h2⟩:=oY (k:=k) hk'.2 as rd
   by_cases h:kv.1=k
   ·refine ⟨L' ++ L2,?_,fun c hc=>?_⟩
    ·simp only [Cu,if_pos h,if_pos (hk'.1.symm.trans h)]
     exact .cons rd h1
    ·rcases Ci.mp hc with z | z
     ·exact .inr z
     ·rcases h2 c z with y | y
      ·exact .inl (Ce _ y)
      ·exact .inr y
   ·refine ⟨L1 ++ L2,?_,fun c hc=>?_⟩
    ·simp only [Cu,if_neg h,if_neg (fun z=>h (hk'.1.trans z))]
     exact .cons a h1
    ·rcases Ci.mp hc with z | z
     ·exact .inl (Cd _ z)
     ·rcases h2 c z with y | y
      ·exact .inl (Ce _ y)
      ·exact .inr y
theorem xw {kvs:List (List Key × D)} {ps:List (List Key × V)} {k:List Key} (hk:kvs.map (·.1)=ps.map (·.1)):(kvs.any fun kv=>decide (kv.1=k))=ps.any fun kv=>decide (kv.1=k):=by
 have h1:(kvs.any fun kv=>decide (kv.1=k))=(kvs.map (·.1)).any fun x=>decide (x=k):=by rw [List.any_map];rfl
 have h2:(ps.any fun kv=>decide (kv.1=k))=(ps.map (·.1)).any fun x=>decide (x=k):=by rw [List.any_map];rfl
 rw [h1,h2,hk]
theorem pj {α:Type} {kvs:List (List Key × α)} {k:List Key} {d:α}:(kvs.map fun kv=>if kv.1=k then (kv.1,d) else kv).map (·.1)=kvs.map (·.1):=by
 rw [CT]
 refine CU fun kv _=>?_
 show (if kv.1=k then (kv.1,d) else kv).1=kv.1
 split <;> rfl
theorem put1 {kvs:List (List Key × D)} (a:D):rP (.dt kvs) [a]=none:=by cases a <;> rfl
theorem put3' {kvs:List (List Key × D)} (a:D) {b c:D} {r:List D}:rP (.dt kvs) (a :: b :: c :: r)=none:=by cases a <;> rfl
set_option tactic.hygienic true in
theorem zk:MutD K (lA rJ) rP:=fun a d L0 as H Q p r m na ra nA e q=>by
 cases d with
 | dt kvs =>
  obtain ⟨_,ps,_,e1,e2,ha,hk,rs⟩:=r.view
  cases e1
  cases e2
  match as,e,ra,nA with
  | [],e,_,_=>exact nsE e
  | [y],e,_,_=>exact nsE ((put1 y.d).symm.trans e)
  | y :: _ :: _ :: _,e,_,_=>exact nsE ((put3' y.d).symm.trans e)
  | [k,y],e,ra,nA =>
   have rk:=ra k B8
   have ry:=ra y (B9 _ B8)
   have ny:=nA y (B9 _ B8)
   obtain ⟨kd,kv,kL,kf⟩:=k
   dsimp only at rk
   cases kd with
   | tup ks =>
    obtain ⟨pb,ws,rfl,hb,rs'⟩:=rk.view
    have e:(match dD ks with | some k=>if kvs.length < 16777216 then some (D.dt (iX kvs k y.d),D.non) else none | none=>none)=some p:=e
    cases h1:dD ks with
    | none=>rw [h1] at e;exact nsE e
    | some key =>
     rw [h1] at e
     dsimp only at e
     split at e
     ·rename_i hl
      cases e
      have hw:=fv rs' h1
      subst hw
      have hlen:kvs.length=ps.length:=by have:=congrArg List.length hk;simpa using this
      refine ⟨.ref pb,y.v,rfl,a,_,rfl,DPut.t ha hb (by rw [<- hlen,<- szl];exact hl),?_⟩
      have ma:MutAt H a:=.inr (.inr ⟨_,ha⟩)
      have ry':Rep K (upd H a (.dT (gi ps key y.v))) y.d y.v y.L:=ry.keep (M:=fun b=>b=a) (fun b o hb h=>by rw [aL h];exact hb) (fun b e=>by rw [e];exact ma) fun b hb e=>ny (by rw [<- e];exact hb)
      have keeps:Reps (Rep K (upd H a (.dT (gi ps key y.v)))) (kvs.map (·.2)) (ps.map (·.2)) L0:=rs.keep (M:=fun b=>b=a) (fun b o hb h=>by rw [aL h];exact hb) (fun b e=>by rw [e];exact ma) fun b hb e=>na (by rw [<- e];exact hb)
      have fin:∃ L1,Reps (Rep K (upd H a (.dT (gi ps key y.v)))) ((iX kvs key y.d).map (·.2)) ((gi ps key y.v).map (·.2)) L1/\(∀ c ∈ L1,c ∈ L0\/c ∈ y.L)/\(iX kvs key y.d).map (·.1)=(gi ps key y.v).map (·.1):=by
       generalize upd H a (HO.dT (gi ps key y.v))=H2 at keeps ry' ⊢
       unfold iX gi
       rw [xw hk]
       split
       ·obtain ⟨L2,g1,g2⟩:=oY (k:=key) hk keeps ry'
        exact ⟨L2,g1,g2,by rw [pj,pj];exact hk⟩
       ·refine ⟨L0 ++ (y.L ++ []),?_,fun c hc=>?_,by rw [List.map_append,List.map_append,hk];rfl⟩
        ·rw [List.map_append,List.map_append]
         exact keeps.append (.cons ry' .nil)
        ·rcases Ci.mp hc with z | z
         ·exact .inl z
         ·rw [List.append_nil] at z;exact .inr z
      obtain ⟨L1,g1,g2,g3⟩:=fin
      exact q (.dT (gi ps key y.v)) L1 ⟨.non,.non,[],.z⟩ (.dT bh g3 g1) rfl (fun c hc=>(g2 c hc).imp id fun h=>⟨y,B9 _ B8,h⟩) rfl rfl .non fun c hc=>by cases hc
     ·exact nsE e
   | _=>exact nsE e
 | _=>exact nsE e
noncomputable def Bs (f g:D->List D->Option (D × D)) (a:D) (b:List D):Option (D × D):=match f a b with
 | some p=>some p
 | none=>g a b
theorem MutD.or {r r':V->List V->Hp->VK->Prop} {f g:D->List D->Option (D × D)} (h:MutD K r f) (h':MutD K r' g):MutD K (fun x y H Q=>r x y H Q\/r' x y H Q) (Bs f g):=fun a d L0 as H Q p r m na ra nA e q=>by
 unfold Bs at e
 cases ef:f d (as.map (·.d)) with
 | some p'=>rw [ef] at e;cases e;exact .inl (h a d L0 as H Q _ r m na ra nA ef q)
 | none=>rw [ef] at e;exact .inr (h' a d L0 as H Q p r m na ra nA e q)
noncomputable abbrev x4:=Bs xZ rP
theorem wo:MutD K (lA fun o i v H Q=>rH o i v H Q\/rJ o i v H Q) x4:=fun a d L0 as H Q p r m na ra nA e q=>by
 rcases MutD.or zj zk a d L0 as H Q p r m na ra nA e q with ⟨k,v,h1,h2⟩ | ⟨k,v,h1,h2⟩
 ·exact ⟨k,v,h1,.inl h2⟩
 ·exact ⟨k,v,h1,.inr h2⟩
theorem rD (hu:X.A.units+1 < cLine):xz X (fun o i v H Q=>rH o i v H Q\/rJ o i v H Q):=by
 intro pins s σ H o i v ov iv u Q I ro ri rv h
 rcases h with h | h
 ·exact vm pins s σ H o i v ov iv u Q I ro ri rv h
 ·exact vn hu pins s σ H o i v ov iv u Q I ro ri rv h
end
end L3
end
section
namespace L3
open PySem L2
section
open PySem.Spec PyProof.Rows HT
variable {prog:Program} {w:World} {A:Around} {E:Value->Shared->Prop} {s:Shared}
theorem iG {t sl:Addr} {items:Array Value} {vl vu:Value} {lo hi:Option Int} {Q:Value->Shared->Prop} (ht:IsTup s.heap t items) (hs:s.heap.IsSliceOf sl vl vu .none) (pl:IsPart vl lo) (pu:IsPart vu hi)
  (hw:sIx items.size 0 lo=0/\sIx items.size items.size hi=items.size) (h:Q (.ref t) s) (hsz:items.size<=sizeLine):wpAny (model prog w) A (getItem (.ref t) (.ref sl)) Q E s:=by
 obtain ⟨os,hos,hcs,hds⟩:=id hs
 have hTs:s.TypeIs (.ref sl) "slice":=⟨os,hos,hcs⟩
 unfold getItem
 try with_reducible refine B7 ?_
 first | refine B5 (B6 ?_) | skip
 refine B5 (wpAny_sequenceKey ht.typeIs (by decide) ?_)
 refine B5 (wpAny_callSpecial?_slot (name:=Str.ofString "__getitem__") ht.typeIs PyProof.Rows.slot_tuple_getitem
  (wpAny_call_entry PyProof.Rows.slot_tuple_getitem ht.typeIs entry_tuple_getitem ?_ (args_tuple_getitem _ _)))
 show wpAny _ _ (Builtin.Tuple.tupleItemsOf (.ref t) >>= _) _ _ s
 refine B5 (tupleItemsOf_ ht ?_)
 refine B5 (wpAny_typeOf hTs ?_)
 rw [if_pos (by decide)]
 refine B5 (fL hs pl pu ?_)
 show wpAny _ _ (if (((sIx items.size 0 lo:Nat):Int) == 0 && (1:Int) == 1 && (sIx items.size items.size hi - sIx items.size 0 lo) == items.size)=true then _ else _) _ _ s
 rw [if_pos (by simp [hw.1,hw.2])]
 refine B5 ?_
 unfold Builtin.Tuple.tupleIsExact
 refine B5 (wpAny_typeOf ht.typeIs ?_)
 refine B6 ?_
 rw [if_pos (by decide)]
 exact B5 (wpAny_rule (B6 ⟨_,rfl,B6 h⟩))
end
section
variable {K:FG} {G G0:Gm} {W W0:D->Sto->Prop} {H H':Hp} {σ:St} {ρ ρ':Sto} {T T':List It3} {g:Nat->Option It3} {x y z:It3} {α β:Type} {X:Cx} {L:List Addr}
noncomputable def vH (K:FG):V->Option Int->Option Int->Hp->VK->Prop:=fun x lo hi H Q=>∃ a xs,x=.ref a/\SqT K H a xs/\(HT.sIx xs.length 0 lo=0/\HT.sIx xs.length xs.length hi=xs.length)/\Q (.ref a) H
theorem xX:SlR X (vH X.K):=by
 intro pins s σ H x v vl vu lo hi sl Q I rx hs pl pu h
 obtain ⟨a,xs,rfl,hx,hw,q⟩:=h
 cases rx
 obtain ⟨its,r,ht,hz⟩:=I.tuple hx
 have hlen:its.toArray.size=xs.length:=by rw [Ct];exact r.length.symm
 refine ⟨"tuple",_,PyProof.Rows.slot_tuple_getitem.lookup,ht.typeIs,?_⟩
 exact iG ht hs pl pu (by rw [hlen];exact hw) ⟨.ref a,H,I,rfl,q⟩ (by rw [hlen];exact hz)
noncomputable def asI:D->Option Int
 | .int i=>some i
 | _=>none
noncomputable def o3:M3 (Option Int):=bx none
noncomputable def iL (m:EM):M3 (Option Int):=ae m fun r=>ae (der r) fun d=>bo ((asI d).map some)
noncomputable def EndP (K:FG) (G:Gm) (W:D->Sto->Prop) (σ:St) (T:List It3) (ρ':Sto) (Q:Option Int->Hp->Prop):Except D (Option Int)->Prop
 | .ok b=>∀ H' g',Wf K G H' σ ρ' T g'->Q b H'
 | .error e=>W e ρ'
noncomputable def tP (K:FG) (G0:Gm) (W0:D->Sto->Prop) (m:M3 (Option Int)):TO:=fun σ H Q=>∃ G W,Le K G W G0 W0/\∃ ρ T g r ρ',Wf K G H σ ρ T g/\m ρ=some (r,ρ')/\EndP K G W σ T ρ' Q r
structure RP (X:Cx) (G0:Gm) (W0:D->Sto->Prop) (e:Option Expr) (m:M3 (Option Int)):Prop where
 h:PO X e (tP X.K G0 W0 m)
theorem PO.imp {e:Option Expr} {t t':TO} (h:PO X e t) (f:∀ σ H Q,t' σ H Q->t σ H Q):PO X e t':=fun pins s σ H Q I q=>h pins s σ H Q I (f σ H Q q)
theorem nw:RP X G0 W0 none o3:=⟨PO.imp yK fun σ H Q h=>by
 obtain ⟨G,W,le,ρ,T,g,r,ρ',w,e,q⟩:=h
 cases e
 exact q _ _ w⟩
theorem jh {e:Expr} {m:EM} (h:RE X G0 W0 e m):RP X G0 W0 (some e) (iL m):=⟨PO.imp (yJ h.h) fun σ H Q h=>by
 obtain ⟨G,W,le,ρ,T,g,r,ρ',w,e,q⟩:=h
 have herr:∀ x,r=.error x->W x ρ':=fun x hx=>by subst hx;exact q
 refine tE.seq le w e herr fun ra ρ1 e1 v H1 ⟨Ts,g1,w1,a1⟩=>?_
 obtain ⟨d,d1,e2⟩:=aX e1
 obtain ⟨o,e3,rfl,rfl⟩:=cg e2
 obtain ⟨i,e4,e5⟩:=Cc.mp e3
 subst e5
 obtain ⟨y,i1,f1,f2⟩:=a1.item w1 (fun x hx=>Cd _ hx) d1
 have rr:=(w1.itm i1).rep
 rw [f1] at rr
 have hd:d=.int i:=by cases d <;> cases e4;rfl
 rw [hd] at rr
 refine ⟨i,by rw [<- f2];exact rr.int_inv,q _ _ (w1.sub (Cn Ts T))⟩⟩
noncomputable def mSl (f:D->Option Int->Option Int->Option (D × Fl)) (ma:EM) (pl pu:M3 (Option Int)):EM:=ae ma fun ra=>ae pl fun lo=>ae pu fun hi=>ae (der ra) fun d=>bo ((f d lo hi).map fun p=>R3.val p.1 p.2)
noncomputable def SlD (K:FG) (r:V->Option Int->Option Int->Hp->VK->Prop) (f:D->Option Int->Option Int->Option (D × Fl)):Prop:=∀ (a:It3) (lo hi:Option Int) (H:Hp) (Q:VK) (p:D × Fl),Arg K H a->f a.d lo hi=some p ->
 (∀ w H',New K H H' (eZ [a]) w->w.d=p.1->w.f=p.2->Q w.v H')->r a.v lo hi H Q
theorem tP.seq {ma:M3 (Option Int)} {k:Option Int->M3 β} {r:Except D β} {P:Option Int->Hp->Prop} (le:Le K G W G0 W0) (w:Wf K G H σ ρ T g) (e:ae ma k ρ=some (r,ρ')) (he:∀ x,r=.error x->W x ρ')
  (h:∀ b ρ1,k b ρ1=some (r,ρ')->∀ H1 g1,Wf K G H1 σ ρ1 T g1->P b H1):tP K G0 W0 ma σ H P:=by
 unfold ae at e
 cases q:ma ρ with
 | none=>rw [q] at e;exact nsE e
 | some p =>
  obtain ⟨o,ρ1⟩:=p
  rw [q] at e
  cases o with
  | error x=>cases e;exact ⟨G,W,le,ρ,T,g,.error x,ρ',w,q,he x rfl⟩
  | ok ra=>exact ⟨G,W,le,ρ,T,g,.ok ra,ρ1,w,q,h ra ρ1 e⟩
theorem tE_sl {r:V->Option Int->Option Int->Hp->VK->Prop} {f:D->Option Int->Option Int->Option (D × Fl)} {ma:EM} {pl pu:M3 (Option Int)} {Q:VK} (hd:SlD K r f) (h:tE K G0 W0 (mSl f ma pl pu) σ H Q):tSl r (tE K G0 W0 ma) (tP K G0 W0 pl) (tP K G0 W0 pu) σ H Q:=by
 refine h.use fun G W le ρ T g o ρ' w e q=>?_
 refine tE.seq le w e q.err fun ra ρ1 e1 va H1 ⟨Ts,g1,w1,a1⟩=>?_
 refine tP.seq le w1 e1 q.err fun lo ρ2 e2 H2 g2 w2=>?_
 refine tP.seq le w2 e2 q.err fun hi ρ3 e3 H3 g3 w3=>?_
 obtain ⟨d,d1,e4⟩:=aX e3
 obtain ⟨p,e5,rfl,rfl⟩:=cg e4
 obtain ⟨y,i1,f1,f2⟩:=a1.item w3 (fun x hx=>Cd _ hx) d1
 subst f1 f2
 cases ef:f y.d lo hi with
 | none=>rw [ef] at e5;exact nsE e5
 | some s =>
  rw [ef] at e5
  cases e5
  exact hd y lo hi H3 Q s (w3.itm i1).arg ef (pH w3 (fun z hz=>by rw [CH.mp hz];exact i1) q)
theorem Reps.take:∀ {ds:List D} {vs:List V} {L:List Addr} (n:Nat),Reps (Rep K H) ds vs L->∃ L',Reps (Rep K H) (ds.take n) (vs.take n) L'/\∀ c ∈ L',c ∈ L
 | _,_,_,0,_=>⟨[],by simpa using Reps.nil,fun c hc=>by cases hc⟩
 | _,_,_,n+1,.nil=>⟨[],by simpa using Reps.nil,fun c hc=>by cases hc⟩
 | _,_,_,n+1,.cons (L:=L1) r rs=>by
  obtain ⟨L',h1,h2⟩:=Reps.take n rs
  exact ⟨L1 ++ L',by simpa using Reps.cons r h1,fun c hc=>by
   rcases Ci.mp hc with h | h
   ·exact Cd _ h
   ·exact Ce _ (h2 c h)⟩
theorem Reps.drop:∀ {ds:List D} {vs:List V} {L:List Addr} (n:Nat),Reps (Rep K H) ds vs L->∃ L',Reps (Rep K H) (ds.drop n) (vs.drop n) L'/\∀ c ∈ L',c ∈ L
 | _,_,L,0,r=>⟨L,by simpa using r,fun c hc=>hc⟩
 | _,_,_,n+1,.nil=>⟨[],by simpa using Reps.nil,fun c hc=>by cases hc⟩
 | _,_,_,n+1,.cons r rs=>by
  obtain ⟨L',h1,h2⟩:=Reps.drop n rs
  exact ⟨L',by simpa using h1,fun c hc=>Ce _ (h2 c hc)⟩
theorem Reps.cut {ds:List D} {vs:List V} (lo hi:Option Int) (r:Reps (Rep K H) ds vs L):∃ L',Reps (Rep K H) (iI ds lo hi) (pL vs lo hi) L'/\∀ c ∈ L',c ∈ L:=by
 unfold iI pL
 rw [<- r.len]
 obtain ⟨L1,h1,h2⟩:=r.drop (HT.sIx ds.length 0 lo)
 obtain ⟨L2,h3,h4⟩:=h1.take (HT.sIx ds.length ds.length hi - HT.sIx ds.length 0 lo)
 exact ⟨L2,h3,fun c hc=>h2 c (h4 c hc)⟩
noncomputable def slD:D->Option Int->Option Int->Option (D × Fl)
 | .lst xs,lo,hi=>some (.lst (iI xs lo hi),.u)
 | .fls xs,lo,hi=>some (.lst (iI xs lo hi),.u)
 | .tup xs,lo,hi=>some (.tup (iI xs lo hi),.z)
 | _,_,_=>none
theorem sd_sl:SlD K (fun x lo hi H Q=>A5 K x lo hi H Q\/(A4 K x lo hi H Q\/vH K x lo hi H Q)) slD:=fun a lo hi H Q p ra e q=>by
 obtain ⟨da,va,La,fa⟩:=a
 have ra0:=ra
 obtain ⟨ra,oa⟩:=ra
 dsimp only at ra e
 cases da with
 | lst xs =>
  obtain ⟨pa,vs,L0,rfl,rfl,ha,rs⟩:=ra.view
  cases e
  obtain ⟨L',h1,h2⟩:=rs.cut lo hi
  exact .inl ⟨pa,vs,rfl,SqL.of ha,fun p hp=>q ⟨_,.ref p,p :: L',.u⟩ _ (BA hp h1 fun c hc=>qO (y:=⟨.lst xs,.ref pa,pa :: L0,fa⟩) B8 ra0 rfl rfl c (h2 c hc)) rfl rfl⟩
 | fls xs =>
  obtain ⟨pa,vs,rfl,ha,rs⟩:=ra.view
  cases e
  obtain ⟨L',h1,h2⟩:=rs.cut lo hi
  exact .inl ⟨pa,vs,rfl,ha.sq,fun p hp=>q ⟨_,.ref p,p :: L',.u⟩ _ (BA hp h1 fun c hc=>jX (y:=⟨.fls xs,.ref pa,La,fa⟩) B8 ra0 rfl c (h2 c hc)) rfl rfl⟩
 | tup xs =>
  obtain ⟨pa,vs,rfl,ha,rs⟩:=ra.view
  cases e
  by_cases hw:HT.sIx vs.length 0 lo=0/\HT.sIx vs.length vs.length hi=vs.length
  ·have hc:iI xs lo hi=xs:=by
    unfold iI
    rw [rs.len,hw.1,hw.2,<- rs.len]
    simp
   rw [hc] at q
   exact .inr (.inr ⟨pa,vs,rfl,SqT.of ha,hw,q ⟨.tup xs,.ref pa,La,.z⟩ H (o9 (.tup ha rs) (jX (y:=⟨.tup xs,.ref pa,La,fa⟩) B8 ra0 rfl)) rfl rfl⟩)
  ·obtain ⟨L',h1,h2⟩:=rs.cut lo hi
   exact .inr (.inl ⟨pa,vs,rfl,SqT.of ha,hw,fun p hp=>q ⟨_,.ref p,L',.z⟩ _ (zb hp h1 fun c hc=>jX (y:=⟨.tup xs,.ref pa,La,fa⟩) B8 ra0 rfl c (h2 c hc)) rfl rfl⟩)
 | _=>exact nsE e
theorem AV:SlR X (fun x lo hi H Q=>A5 X.K x lo hi H Q\/(A4 X.K x lo hi H Q\/vH X.K x lo hi H Q)):=sl_list.or (sl_tup.or xX)
theorem jn {e:Expr} {lo hi:Option Expr} {p2 pos:Pos} {m:EM} {pl pu:M3 (Option Int)} (he:RE X G0 W0 e m) (hl:RP X G0 W0 lo pl) (hu:RP X G0 W0 hi pu):RE X G0 W0 (.Subscript e (.Slice lo hi none p2) pos) (mSl slD m pl pu):=⟨PE.imp (vS AV he.h hl.h hu.h) fun _ _ _ h=>tE_sl sd_sl h⟩
end
end L3
end
section
namespace L3
open PySem L2
mutual
noncomputable def pyD:D->Option PyData
 | .non=>some .none
 | .bl b=>some (.bool b)
 | .int i=>some (.int i)
 | .str x=>some (.str x)
 | .tup xs=>(jq xs).map .tuple
 | .lst xs=>(jq xs).map .list
 | .fls xs=>(jq xs).map .list
 | .dk _=>none
 | .dt _=>none
 | .exc _ _=>none
noncomputable def jq:List D->Option (List PyData)
 | []=>some []
 | d :: ds=>match pyD d,jq ds with
  | some p,some ps=>some (p :: ps)
  | _,_=>none
end
section
variable {K:FG} {H:Hp} {Ks:Addr->Prop} {d:D} {v:V} {L:List Addr} {X:Cx}
set_option tactic.hygienic true in
theorem Rep.dv (r:Rep K H d v L):∀ p,pyD d=some p->DV K H v p:=by
 refine Rep.rec (motive_1:=fun d v _ _=>∀ p,pyD d=some p->DV K H v p) (motive_2:=fun ds vs _ _=>∀ ps,jq ds=some ps->DVs K H vs ps) ?_ ?_ ?_ ?_ ?_ ?_ ?_ ?_ ?_ ?_ ?_ ?_ r
 ·intro p e;unfold pyD at e;cases e;exact .non
 ·intro _ p e;unfold pyD at e;cases e;exact .bl _
 ·intro _ p e;unfold pyD at e;cases e;exact .int _
 ·intro _ p e;unfold pyD at e;cases e;exact .str _
 ·intro xs a vs L h _ ih p e
  unfold pyD at e
  obtain ⟨ps,e1,rfl⟩:=Cc.mp e
  exact .tup (SqT.of h) (ih ps e1)
 ·intro xs a vs L h _ ih p e
  unfold pyD at e
  obtain ⟨ps,e1,rfl⟩:=Cc.mp e
  exact .lst (SqL.of h) (ih ps e1)
 ·intro xs a vs L h _ ih p e
  unfold pyD at e
  obtain ⟨ps,e1,rfl⟩:=Cc.mp e
  exact .lst h.sq (ih ps e1)
 ·intro _ _ _ _ _ _ _ _ p e;unfold pyD at e;exact nsE e
 ·intro _ _ _ _ _ _ _ _ p e;unfold pyD at e;exact nsE e
 ·intros;rename_i e;unfold pyD at e;exact nsE e
 ·intro ps e;unfold jq at e;cases e;exact .nil
 ·intro d v L ds vs L' _ _ i1 i2 ps e
  unfold jq at e
  cases h1:pyD d with
  | none=>rw [h1] at e;exact nsE e
  | some p =>
   cases h2:jq ds with
   | none=>rw [h1,h2] at e;exact nsE e
   | some qs=>rw [h1,h2] at e;cases e;exact .cons (i1 p h1) (i2 qs h2)
noncomputable def eqP (a b:D):Option Bool:=match pyD a,pyD b with
 | some p,some q=>if p.canLay0 && q.canLay0 && decide (min p.depth q.depth<=30) then some (PyData.eqv p q) else none
 | _,_=>none
noncomputable def eqA (a b:D):Option Bool:=match eqS a b with
 | some k=>some k
 | none=>eqP a b
noncomputable abbrev eqX (a b:D):Option (D × Fl):=(eqA a b).map fun k=>(.bl k,.z)
noncomputable abbrev neX (a b:D):Option (D × Fl):=(eqA a b).map fun k=>(.bl (!k),.z)
noncomputable def rEqP:R2:=fun x y H Q=>∃ p q,DV X.K H x p/\DV X.K H y q/\p.canLay0=true/\q.canLay0=true/\min p.depth q.depth<=30/\Q (.bl (PyData.eqv p q)) H
noncomputable def rNeP:R2:=fun x y H Q=>∃ p q,DV X.K H x p/\DV X.K H y q/\p.canLay0=true/\q.canLay0=true/\min p.depth q.depth<=30/\Q (.bl (!PyData.eqv p q)) H
theorem dY (hu:X.A.units+64 < cLine):OpR X (compareOp .Eq) (fun x y H Q=>rEq x y H Q\/rEqP (X:=X) x y H Q):=by
 intro pins s σ H x y v u Q I rx ry h
 rcases h with h | ⟨p,q,h1,h2,h3,h4,h5,hq⟩
 ·exact op_eq pins s σ H x y v u Q I rx ry h
 ·obtain ⟨as,ra⟩:=DV.reads I h1 rx
  obtain ⟨bs,rb⟩:=DV.reads I h2 ry
  exact PySem.SeqAt.compareEq_reads ra rb h3 h4 (by omega) ⟨.bl _,H,I,rfl,hq⟩
theorem jM (hu:X.A.units+64 < cLine):OpR X (compareOp .NotEq) (fun x y H Q=>rNe x y H Q\/rNeP (X:=X) x y H Q):=by
 intro pins s σ H x y v u Q I rx ry h
 rcases h with h | ⟨p,q,h1,h2,h3,h4,h5,hq⟩
 ·exact op_ne pins s σ H x y v u Q I rx ry h
 ·obtain ⟨as,ra⟩:=DV.reads I h1 rx
  obtain ⟨bs,rb⟩:=DV.reads I h2 ry
  exact PySem.SeqAt.compareNe_reads ra rb h3 h4 (by omega) ⟨.bl _,H,I,rfl,hq⟩
set_option tactic.hygienic true in
theorem sk {a b:D} {k:Bool} (e:eqP a b=some k):∃ p q,pyD a=some p/\pyD b=some q/\p.canLay0=true/\q.canLay0=true/\min p.depth q.depth<=30/\k=PyData.eqv p q:=by
 unfold eqP at e
 cases h1:pyD a with
 | none=>rw [h1] at e;exact nsE e
 | some p =>
  cases h2:pyD b with
  | none=>rw [h1,h2] at e;exact nsE e
  | some q =>
   rw [h1,h2] at e
   dsimp only at e
   split at e
   ·rename_i h
    cases e
    simp only [Bool.and_eq_true,decide_eq_true_eq] at h
    exact ⟨p,q,rfl,rfl,h.1.1,h.1.2,h.2,rfl⟩
   ·exact nsE e
theorem dZ:OpD X.K (fun x y H Q=>rEq x y H Q\/rEqP (X:=X) x y H Q) eqX:=fun a b H Q p ra rb e q=>by
 obtain ⟨k,h1,h2⟩:=Cc.mp e
 subst h2
 unfold eqA at h1
 cases hs:eqS a.d b.d with
 | some k' =>
  rw [hs] at h1
  cases h1
  obtain ⟨s,hk⟩:=wT ra.rep rb.rep hs
  exact .inl ⟨s,by rw [<- hk];exact q ⟨.bl k,.bl k,[],.z⟩ H (dP (.bl k)) rfl rfl⟩
 | none =>
  rw [hs] at h1
  obtain ⟨p,p',e1,e2,e3,e4,e5,rfl⟩:=sk h1
  exact .inr ⟨p,p',ra.rep.dv p e1,rb.rep.dv p' e2,e3,e4,e5,q ⟨.bl _,.bl _,[],.z⟩ H (dP (.bl _)) rfl rfl⟩
theorem jO:OpD X.K (fun x y H Q=>rNe x y H Q\/rNeP (X:=X) x y H Q) neX:=fun a b H Q p ra rb e q=>by
 obtain ⟨k,h1,h2⟩:=Cc.mp e
 subst h2
 unfold eqA at h1
 cases hs:eqS a.d b.d with
 | some k' =>
  rw [hs] at h1
  cases h1
  obtain ⟨s,hk⟩:=wT ra.rep rb.rep hs
  exact .inl ⟨s,by rw [<- hk];exact q ⟨.bl (!k),.bl (!k),[],.z⟩ H (dP (.bl _)) rfl rfl⟩
 | none =>
  rw [hs] at h1
  obtain ⟨p,p',e1,e2,e3,e4,e5,rfl⟩:=sk h1
  exact .inr ⟨p,p',ra.rep.dv p e1,rb.rep.dv p' e2,e3,e4,e5,q ⟨.bl _,.bl _,[],.z⟩ H (dP (.bl _)) rfl rfl⟩
theorem wU {a:D} {p:PyData} (h:pyD a=some p) (hc:p.canLay0=true) (hd:p.depth<=30):eqP a a=some true:=by
 unfold eqP
 rw [h]
 simp [hc,hd,PySem.SeqAt.eqv_refl p hc]
noncomputable def intQ1:D->Option (D × Fl)
 | .int i=>some (.int i,.z)
 | .bl k=>some (.int (if k then 1 else 0),.z)
 | _=>none
noncomputable abbrev Ak:=c1 intQ1
set_option tactic.hygienic true in
theorem zO:ff K (fun xs H Q=>(∃ i,xs=[.int i]/\Q (.int i) H)\/∃ k,xs=[.bl k]/\Q (.int (if k then 1 else 0)) H) Ak:=fun ys H Q p ra e q=>by
 obtain ⟨y,rfl,e2⟩:=ik e
 clear e
 have e:=e2
 clear e2
 have rr:=(ra y B8).rep
 obtain ⟨da,va,La,fa⟩:=y
 dsimp only at rr e
 cases rr <;> try (exact nsE e)
 ·rename_i b
  cases e
  exact .inr ⟨b,rfl,q ⟨_,_,[],.z⟩ H (dP (.int _)) rfl rfl⟩
 ·rename_i i
  cases e
  exact .inl ⟨i,rfl,q ⟨_,_,[],.z⟩ H (dP (.int _)) rfl rfl⟩
end
end L3
end
section
namespace L3
open PySem L2
set_option tactic.hygienic true in
theorem BO {P:Program} {w:World} {K:FG} {mg:Str->Option Value} {base:Heap} {x:Str} {st:Stmt} {k:Nat} {N ps:List Str} {mask:List Bool} {m:SM} {nn:Nat} {f:Addr} {fd:FuncData} (F:Fun K x x st f fd) (S:FnScope N ps (al st)) (hml:mask.length=ps.length) (hnn:N.length=nn)
  (body:∀ (cdv:Value) (A:Around) (outer:List Env) (s:Shared) (H:Hp) (E:XK) (f:Addr) (G:Gm),Room k (A.deeper (PyProof.Rows.envOfC x (al st) s.heap.objs.size f cdv))->G.pr=prM mask->RSs (pK CX0 P w K mg base N x (al st) f cdv A outer s H E).nox G noX (ba st) m) :
  FnOk P w K mg base CX0 (k+1) f fd ps (sV K (fnM mask nn m)):=by
 refine F.ok S (fun vs H Q E h=>?_) fun cdv A outer s H vs Q E hr h=>?_
 ·obtain ⟨ps',p,fs,rfl,_,_,hF,_⟩:=h
  unfold fnM at hF
  rw [Ck] at hF ⊢
  split at hF
  ·rename_i e;rw [e,hml]
  ·exact nsE hF
 ·have hle:mask.length<=nn:=by
   rw [hml,<- hnn]
   have:=congrArg List.length S.pre
   rw [CD] at this
   omega
  obtain ⟨G,hG,ht⟩:=sj hle h
  subst hnn
  exact ⟨_,(body cdv A outer s H E f G hr hG).h,ht⟩
noncomputable def vi (K:FG):Sp:=fun vs H Q _=>∃ (a:Addr) (ns:List Int),vs=[.ref a]/\SqL K H a (ns.map V.int)/\zU H/\ns.length<=63/\∀ H',Q (.bl true) H'
theorem mN {K:FG} {H:Hp}:∀ ns:List Int,Reps (Rep K H) (ns.map D.int) (ns.map V.int) []
 | []=>.nil
 | n :: ns=>.cons (L:=[]) (.int n) (mN ns)
theorem zA {K:FG} {F:Fn} (hF:∀ ns:List Int,ns.length<=63->∃ fs,F [(.fls (ns.map .int),.z)]=some (.ok (.bl true,.z),fs)) {vs:List V} {H:Hp} {Q:VK} {E:XK} (h:vi K vs H Q E):sV K F vs H Q E:=by
 obtain ⟨a,ns,rfl,hS,hO,hn,q⟩:=h
 obtain ⟨fs,e⟩:=hF ns hn
 have fz:FzL K H a (ns.map V.int):=by
  rcases hS with (h | h) | h
  ·rcases hO a with z | ⟨o,xs,z⟩
   ·rw [h] at z;cases z
   ·rw [h] at z;cases z
  ·exact .inl h
  ·exact .inr h
 refine ⟨[⟨.fls (ns.map .int),.ref a,[],.z⟩],(.bl true,.z),fs,rfl,fun p hp=>?_,.cons (fun _ h=>by cases h) .nil,e,fun x qs H' B x1 x2 _=>?_⟩
 ·rw [CH.mp hp]
  exact ⟨.lstF fz (mN ns),fun h=>absurd rfl h⟩
 ·have r:=B.rep
  rw [x1] at r
  have inv:∀ {v:V} {L:List Addr},Rep K H' (.bl true) v L->v=.bl true:=fun r=>by cases r;rfl
  rw [inv r]
  exact q H'
end L3
end
section
namespace L3
open PySem L2
section
variable {K:FG} {G G0:Gm} {W W0:D->Sto->Prop} {H H':Hp} {σ:St} {ρ ρ':Sto} {T T':List It3} {g:Nat->Option It3} {x y z:It3} {α β:Type} {X:Cx} {v:V} {d:D} {L:List Addr}
noncomputable def bM:List D->Option (List Int)
 | []=>some []
 | .int i :: ds=>(bM ds).map (i :: ·)
 | _=>none
set_option tactic.hygienic true in
theorem fY:∀ {ds:List D} {ns:List Int},bM ds=some ns->ds=ns.map D.int
 | [],ns,e=>by cases e;rfl
 | d :: ds,ns,e=>by
  cases d <;> try (exact nsE e)
  rename_i b
  obtain ⟨r,h1,h2⟩:=Cc.mp (show (bM ds).map (b :: ·)=some ns from e)
  subst h2
  rw [fY h1];rfl
theorem Reps.ints:∀ {ns:List Int} {vs:List V} {L:List Addr},Reps (Rep K H) (ns.map D.int) vs L->vs=ns.map V.int
 | [],_,_,.nil=>rfl
 | b :: bs,_,_,.cons r rs=>by
  rw [Reps.ints rs]
  cases r;rfl
noncomputable def qN:List Int->Option Int
 | []=>none
 | x :: xs=>some (xs.foldl (fun a b=>if b < a then b else a) x)
noncomputable def jt:List Int->Option Int
 | []=>none
 | x :: xs=>some (xs.foldl (fun a b=>if a < b then b else a) x)
theorem fw:∀ (xs:List Int) (x:Int),(xs.foldl (fun a b=>if b < a then b else a) x) ∈ x :: xs/\∀ n ∈ x :: xs,(xs.foldl (fun a b=>if b < a then b else a) x)<=n
 | [],x=>⟨B8,fun n h=>by simp at h;subst h;exact Int.le_refl _⟩
 | y :: xs,x=>by
  obtain ⟨h1,h2⟩:=fw xs (if y < x then y else x)
  rw [List.foldl_cons]
  refine ⟨?_,fun n hn=>?_⟩
  ·rcases Cf.mp h1 with h | h
   ·rw [h];split <;> simp
   ·exact B9 _ (B9 _ h)
  ·have h3:=h2 _ B8
   have h4:(if y < x then y else x)<=x/\(if y < x then y else x)<=y:=by split <;> omega
   rcases Cf.mp hn with h | hn
   ·subst h;exact Int.le_trans h3 h4.1
   ·rcases Cf.mp hn with h | hn
    ·subst h;exact Int.le_trans h3 h4.2
    ·exact h2 n (B9 _ hn)
theorem gA:∀ (xs:List Int) (x:Int),(xs.foldl (fun a b=>if a < b then b else a) x) ∈ x :: xs/\∀ n ∈ x :: xs,n<=(xs.foldl (fun a b=>if a < b then b else a) x)
 | [],x=>⟨B8,fun n h=>by simp at h;subst h;exact Int.le_refl _⟩
 | y :: xs,x=>by
  obtain ⟨h1,h2⟩:=gA xs (if x < y then y else x)
  rw [List.foldl_cons]
  refine ⟨?_,fun n hn=>?_⟩
  ·rcases Cf.mp h1 with h | h
   ·rw [h];split <;> simp
   ·exact B9 _ (B9 _ h)
  ·have h3:=h2 _ B8
   have h4:x<=(if x < y then y else x)/\y<=(if x < y then y else x):=by split <;> omega
   rcases Cf.mp hn with h | hn
   ·subst h;exact Int.le_trans h4.1 h3
   ·rcases Cf.mp hn with h | hn
    ·subst h;exact Int.le_trans h4.2 h3
    ·exact h2 n (B9 _ hn)
theorem t9 {ns:List Int} {m:Int} (h:qN ns=some m):ns ≠ []/\∀ k,k ∈ ns->(∀ n ∈ ns,k<=n)->k=m:=by
 cases ns with
 | nil=>exact nsE h
 | cons x xs =>
  cases h
  obtain ⟨h1,h2⟩:=fw xs x
  refine ⟨by simp,fun k hk hm=>?_⟩
  have a:=hm _ h1
  have b:=h2 k hk
  omega
theorem pc {ns:List Int} {m:Int} (h:jt ns=some m):ns ≠ []/\∀ k,k ∈ ns->(∀ n ∈ ns,n<=k)->k=m:=by
 cases ns with
 | nil=>exact nsE h
 | cons x xs =>
  cases h
  obtain ⟨h1,h2⟩:=gA xs x
  refine ⟨by simp,fun k hk hm=>?_⟩
  have a:=hm _ h1
  have b:=h2 k hk
  omega
noncomputable def redQ (g:List Int->Option Int):D->Option (D × Fl)
 | .lst xs=>(bM xs).bind fun ns=>(g ns).map fun m=>(.int m,.z)
 | .tup xs=>(bM xs).bind fun ns=>(g ns).map fun m=>(.int m,.z)
 | _=>none
noncomputable abbrev rW:=c1 (redQ qN)
noncomputable def A6 (K:FG) (P:List Int->Int->Prop):List V->Hp->VK->Prop:=fun xs H Q=>(∃ (l:Addr) (ns:List Int),xs=[.ref l]/\SqL K H l (ns.map V.int)/\ns ≠ []/\∀ m,m ∈ ns->P ns m->Q (.int m) H)\/(∃ (l:Addr) (ns:List Int),xs=[.ref l]/\SqT K H l (ns.map V.int)/\ns ≠ []/\∀ m,m ∈ ns->P ns m->Q (.int m) H)
set_option tactic.hygienic true in
theorem BZ {g:List Int->Option Int} {P:List Int->Int->Prop} (hg:∀ ns m,g ns=some m->ns ≠ []/\∀ k,k ∈ ns->P ns k->k=m):ff K (A6 K P) (c1 (redQ g)):=fun ys H Q p ra e q=>by
 obtain ⟨y,rfl,e2⟩:=ik e
 clear e
 have e:=e2
 clear e2
 have rr:=(ra y B8).rep
 obtain ⟨da,va,La,fa⟩:=y
 dsimp only at rr e
 have key:∀ {xs:List D} {vs:List V} {L:List Addr},Reps (Rep K H) xs vs L->((bM xs).bind fun ns=>(g ns).map fun m=>((.int m,.z):D × Fl))=some p->∃ ns m,vs=ns.map V.int/\g ns=some m/\p=(.int m,.z):=fun {xs vs L} rs e=>by
  obtain ⟨ns,h1,h2⟩:=CG.mp e
  obtain ⟨m,h3,h4⟩:=Cc.mp h2
  have:=fY h1
  subst this
  exact ⟨ns,m,rs.ints,h3,h4.symm⟩
 cases da <;> try (exact nsE e)
 ·rename_i xs
  obtain ⟨pa,vs,rfl,ha,rs⟩:=rr.view
  obtain ⟨ns,m,rfl,h1,rfl⟩:=key rs e
  obtain ⟨h2,h3⟩:=hg ns m h1
  exact .inr ⟨pa,ns,rfl,SqT.of ha,h2,fun k hk hp=>by rw [h3 k hk hp];exact q ⟨_,_,[],.z⟩ H (dP (.int _)) rfl rfl⟩
 ·rename_i xs
  obtain ⟨pa,vs,La,rfl,rfl,ha,rs⟩:=rr.view
  obtain ⟨ns,m,rfl,h1,rfl⟩:=key rs e
  obtain ⟨h2,h3⟩:=hg ns m h1
  exact .inl ⟨pa,ns,rfl,SqL.of ha,h2,fun k hk hp=>by rw [h3 k hk hp];exact q ⟨_,_,[],.z⟩ H (dP (.int _)) rfl rfl⟩
theorem zL:ff K (A6 K fun ns m=>∀ n ∈ ns,m<=n) rW:=BZ (P:=fun ns m=>∀ n ∈ ns,m<=n) fun _ _=>t9
theorem uH (hc:X.calm=true):CallR X (.builtin "min") (A6 X.K fun ns m=>∀ n ∈ ns,m<=n):=(uF hc).or (uD hc)
end
end L3
end
section
namespace L3
open PySem L2
end L3
end
section
namespace L3
open PySem L2
section
variable {K:FG} {G G0:Gm} {W W0:D->Sto->Prop} {H H':Hp} {σ:St} {ρ ρ':Sto} {T T':List It3} {g:Nat->Option It3} {x y z:It3} {α β:Type} {X:Cx} {v:V} {d:D} {L:List Addr}
noncomputable def z9 (g:List Int->Option Int):D->D->Option (D × Fl)
 | .lst xs,.non=>(bM xs).map fun ns=>match g ns with
  | some m=>(.int m,.z)
  | none=>(.non,.z)
 | .lst xs,.int k=>(bM xs).map fun ns=>match g ns with
  | some m=>(.int m,.z)
  | none=>(.int k,.z)
 | _,_=>none
noncomputable abbrev zn:=z9 jt
theorem yY {g:List Int->Option Int} {P:List Int->Int->Prop} (hg:∀ ns m,g ns=some m->ns ≠ []/\∀ k,k ∈ ns->P ns k->k=m) (h0:∀ ns,g ns=none->ns=[]):OpD K (fun x d H Q=>rK K P x d H Q) (z9 g):=fun a b H Q p ra rb e q=>by
 obtain ⟨da,va,La,fa⟩:=a
 obtain ⟨db,vb,Lb,fb⟩:=b
 obtain ⟨ra,oa⟩:=ra
 obtain ⟨rb,ob⟩:=rb
 dsimp only at ra rb e
 cases da with
 | lst xs =>
  obtain ⟨pa,vs,La,rfl,rfl,ha,rs⟩:=ra.view
  have key:∀ (dd:D) (dv:V),Rep K H dd dv []->((bM xs).map fun ns=>match g ns with | some m=>((.int m,.z):D × Fl) | none=>(dd,.z))=some p->rK K P (.ref pa) dv H Q:=fun dd dv rd e=>by
   obtain ⟨ns,h1,h2⟩:=Cc.mp e
   have:=fY h1
   subst this
   have:=rs.ints
   subst this
   refine ⟨pa,ns,rfl,SqL.of ha,fun hn=>?_,fun m hm hp=>?_⟩
   ·cases hgn:g ns with
    | some m=>exact absurd hn (hg ns m hgn).1
    | none =>
     rw [hgn] at h2
     subst h2
     exact q ⟨dd,dv,[],.z⟩ H (dP rd) rfl rfl
   ·cases hgn:g ns with
    | none=>rw [h0 ns hgn] at hm;cases hm
    | some m' =>
     rw [hgn] at h2
     subst h2
     rw [(hg ns m' hgn).2 m hm hp]
     exact q ⟨.int m',.int m',[],.z⟩ H (dP (.int _)) rfl rfl
  cases db with
  | non =>
   obtain ⟨rfl,rfl⟩:=rb.view
   exact key .non .non .non e
  | int k =>
   obtain ⟨rfl,rfl⟩:=rb.view
   exact key (.int k) (.int k) (.int k) e
  | _=>exact nsE e
 | _=>first | exact nsE e | (cases db <;> exact nsE e)
theorem y6:OpD K (fun x d H Q=>rK K (fun ns m=>∀ n ∈ ns,n<=m) x d H Q) zn:=yY (fun _ _=>pc) fun ns h=>by cases ns with | nil=>rfl | cons=>cases h
theorem A3 {id:String} {nm:Str} {e d:Expr} {ma mb:EM} {p pos kpos:Pos} {r:V->V->Hp->VK->Prop} {f:D->D->Option (D × Fl)} (hrun:∀ {pins:List (Addr × Obj)} {s:Shared} {σ:St} {H:Hp} {x d:V} {u ud:Value} {Q:VK},Inv X pins σ H s->RelV x u->RelV d ud->r x d H Q->wpAny (model X.prog X.w) X.A (call (.builtin id) [u] [("default",ud)]) (EP X pins σ Q) X.xe s) (ho:OpD X.K (fun x d H Q=>r x d H Q) f)
  (hg:Gl X nm) (hm:X.mg nm=none) (hv:bootBuiltins nm=some (.builtin id)) (he:RE X G0 W0 e ma) (hd:RE X G0 W0 d mb) (hn:nm ≠ "__name__") (hdb:(nm == ("__debug__":Str))=false)
  (hs:backTo pos (starEach [e] X.env)=(false,eval e X.env) :: backTo pos (starEach [] X.env)) (hs0:backTo pos (starEach [] X.env)=[]) (hplain:(backTo pos (starEach [e] X.env)).any (·.1)=false)
  (hall:(backToKw pos (keywordEach [⟨some "default",d,kpos⟩] X.env)).all (·.1.isSome)=true) (hkw:(backToKw pos (keywordEach [⟨some "default",d,kpos⟩] X.env)).any (·.1.isNone)=false) (hks:(backToKw pos (keywordEach [⟨some "default",d,kpos⟩] X.env)).filterMap (·.1)=(["default"]:List Str)) :
  RE X G0 W0 (.Call (.Name nm p) [e] [⟨some "default",d,kpos⟩] pos) (ah f ma mb):=⟨PE.imp (Bo hrun hg hm hv he.h hd.h hn hdb hs hs0 hplain hall hkw hks) fun _ _ _ h=>k8 ho h⟩
theorem Reps.rep {ds:List D} {vs:List V} {L:List Addr} (r:Reps (Rep K H) ds vs L):∀ n:Nat,∃ L',Reps (Rep K H) (List.replicate n ds).flatten (List.replicate n vs).flatten L'/\∀ c ∈ L',c ∈ L
 | 0=>⟨[],.nil,fun _ h=>by cases h⟩
 | n+1=>by
  obtain ⟨L',h1,h2⟩:=Reps.rep r n
  refine ⟨L ++ L',?_,fun c hc=>?_⟩
  ·rw [List.replicate_succ,List.replicate_succ,List.flatten_cons,List.flatten_cons];exact r.append h1
  ·rcases Ci.mp hc with h | h
   ·exact h
   ·exact h2 c h
noncomputable def xD (i j:Int):Prop:=0 < j/\j < 1267650600228229401496703205376
theorem vY:OpR X (binaryOp .FloorDiv) (rI xD fun i j=>.int (i / j)):=opI fun i j _ _ _ _ _ hc q=>by
 have h1:(0:Int) < j:=hc.1
 have h2:j < 1267650600228229401496703205376:=hc.2
 refine PyProof.Rows.floordiv_int (by omega) (by rw [Int.fdiv_eq_ediv_of_nonneg i (by omega)];exact q) (.inl (PyProof.noPylong_of_log2 ?_))
 have h3:j.natAbs < 2 ^ 100:=by omega
 exact Nat.lt_trans ((Nat.log2_lt (by omega)).mpr h3) (by decide)
noncomputable abbrev BU:=gz (fun _ j=>decide (0 < j/\j < 1267650600228229401496703205376)) fun i j=>.int (i / j)
theorem y8:OpD K (rI xD fun i j=>.int (i / j)) BU:=jy (fun i j h=>by simpa [xD] using h) fun i j _=>.int _
end
end L3
end
section
namespace L3
open PySem L2
end L3
end
section
namespace L3
open PySem L2
section
variable {K:FG} {G G0:Gm} {W W0:D->Sto->Prop} {H H':Hp} {σ:St} {ρ ρ':Sto} {T T':List It3} {g:Nat->Option It3} {x y z:It3} {α β:Type} {X:Cx}
noncomputable def ji (hi:Int) (n:Nat):List D:=(List.range n).map fun (k:Nat)=>D.int (hi - (k:Int))
theorem sP {H1:Hp} {ys:List It3} {hi:Int} {n:Nat}:Walk K (Itd hi n) H1 ys (ji hi n):=by
 refine ⟨[],fun x hx=>(by cases hx),fun M H' _ _ _=>⟨fun i d hd=>?_,?_⟩⟩
 ·unfold ji at hd
  rw [Cp] at hd
  obtain ⟨k,a,b⟩:=Cc.mp hd
  obtain ⟨hk,e⟩:=Cl.mp a
  rw [List.getElem_range] at e
  subst e
  rw [List.length_range] at hk
  refine ⟨hk,fun x H'' ⟨e1,e2⟩=>?_⟩
  subst e1
  exact ⟨⟨d,x,[],.z⟩,dP (by rw [<- b,e2];exact .int _),rfl,rfl,rfl⟩
 ·show n<=(ji hi n).length
  unfold ji
  simp
noncomputable def qo:List D->Option (List D)
 | [.int i,.int j,.int c]=>if cS i && cS j && (c == -1) then some (ji i (i - j).toNat) else none
 | _=>none
set_option tactic.hygienic true in
theorem xN {ms:M3 (List R3)} {R:It->Hp->Prop} (h:tI K G0 W0 (aT qo ms) σ H R):Am (tA K G0 W0 ms) σ H R:=by
 obtain ⟨G,W,le,ρ,T,g,o,ρ',w,e,q⟩:=h
 have herr:∀ x,o=.error x->W x ρ':=fun x hx=>by subst hx;exact q
 refine tA.seq le w e herr fun rs ρ1 e1 vs H1 Ts g1 w1 a1=>?_
 obtain ⟨ds,d1,e2⟩:=dE e1
 obtain ⟨p,e3,rfl,rfl⟩:=cg e2
 obtain ⟨xs,e4,e5⟩:=Cc.mp e3
 subst e5
 obtain ⟨ys,i1,f1,f2⟩:=a1.items w1 (fun x hx=>Cd _ hx) d1
 subst f1 f2
 have inv:∀ {ds:List D},qo ds=some xs->∃ i j,ds=[.int i,.int j,.int (-1)]/\cS i=true/\cS j=true/\xs=ji i (i - j).toNat:=fun {ds} h=>by
  unfold qo at h
  split at h
  ·rename_i i j c
   split at h
   ·rename_i hh
    cases h
    simp only [Bool.and_eq_true,beq_iff_eq] at hh
    obtain ⟨⟨h1,h2⟩,rfl⟩:=hh
    exact ⟨i,j,rfl,h1,h2,rfl⟩
   ·exact nsE h
  ·exact nsE h
 obtain ⟨i,j,eds,hi,hj,rfl⟩:=inv e4
 match ys,eds,i1,a1 with
 | [],eds,_,_=>cases eds
 | [y],eds,_,_=>exact absurd (congrArg List.length eds) (by simp)
 | [y,z],eds,_,_=>exact absurd (congrArg List.length eds) (by simp)
 | y :: z :: u :: v :: r,eds,_,_=>exact absurd (congrArg List.length eds) (by simp)
 | [y,z,u],eds,i1,a1 =>
  have r1:=(w1.itm (i1 y B8)).rep
  have r2:=(w1.itm (i1 z (B9 _ B8))).rep
  have r3:=(w1.itm (i1 u (B9 _ (B9 _ B8)))).rep
  have h1:y.d=.int i:=by injection eds
  have h2:z.d=.int j:=by injection eds with _ h;injection h
  have h3:u.d=.int (-1):=by injection eds with _ h;injection h with _ h;injection h
  rw [h1] at r1
  rw [h2] at r2
  rw [h3] at r3
  have hi:=of_decide_eq_true hi
  have hj:=of_decide_eq_true hj
  refine ⟨i,j,by show [y.v,z.v,u.v]=_;rw [r1.int_inv,r2.int_inv,r3.int_inv],⟨hi.1,hi.2,hj.1,hj.2⟩,?_⟩
  exact q _ H1 [] [] g1 [] (w1.sub (Cn Ts T)) .nil (fun _ h=>by cases h) sP
theorem yt {tg a b c:Expr} {p pos:Pos} {ms:M3 (List R3)} (hg:Gl X "range") (hm:X.mg "range"=none) (ha:RA X G0 W0 [a,b,c] ms) (hs:starEach [a,b,c] X.env=(false,eval a X.env) :: starEach [b,c] X.env) (hpl:(backTo pos (starEach [b,c] X.env)).any (·.1)=false):RI X G0 W0 tg (.Call (.Name "range" p) [a,b,c] [] pos) (aT qo ms):=⟨PI.imp (tG hg hm ha.h hs hpl) fun _ _ _ h=>xN h⟩
end
end L3
end
section
namespace L3
open PySem L2
section
variable {K:FG} {G G0:Gm} {W W0:D->Sto->Prop} {H H':Hp} {σ:St} {ρ ρ':Sto} {T T':List It3} {g:Nat->Option It3} {x y z:It3} {α β:Type} {X:Cx} {v:V} {d:D} {L:List Addr}
noncomputable def keyD:Key->D
 | .inl i=>.int i
 | .inr s=>.str s
noncomputable def pw (k:List Key):D:=.tup (k.map keyD)
noncomputable def keysD:D->Option (List D)
 | .dt kvs=>some (kvs.map fun kv=>pw kv.1)
 | _=>none
noncomputable def nX (m:EM):IM:=ae m fun r=>ae (der r) fun d=>bo ((keysD d).map fun ds=>([r],ds))
theorem lq:∀ k:List Key,Reps (Rep K H) (k.map keyD) (k.map kV) []
 | []=>.nil
 | .inl i :: k=>.cons (L:=[]) (.int i) (lq k)
 | .inr s :: k=>.cons (L:=[]) (.str s) (lq k)
theorem sQ {H1:Hp} {y:It3} {a:Addr} {kvs:List (List Key × D)} {ps:List (List Key × V)} (ha:H1 a=some (.dT ps)) (hk:kvs.map (·.1)=ps.map (·.1)) (hy:a ∈ y.L):Walk K (Itk a ps.length) H1 [y] (kvs.map fun kv=>pw kv.1):=by
 refine ⟨[],fun x hx=>(by cases hx),fun M H' hm hkp hM=>?_⟩
 have h':H' a=some (.dT ps):=hkp a _ ha (hM y B8 a hy)
 have hl:kvs.length=ps.length:=by have:=congrArg List.length hk;simpa using this
 refine ⟨fun i d hd=>?_,⟨ps,.inl h',rfl,by rw [Ck,hl];exact Cq _⟩⟩
 rw [Cp] at hd
 obtain ⟨kv,h1,h2⟩:=Cc.mp hd
 have hi:i < kvs.length:=(Cl.mp h1).1
 obtain ⟨p,hp,hpk⟩:∃ p,ps[i]?=some p/\p.1=kv.1:=by
  have e:=congrArg (fun l=>l[i]?) hk
  simp only [Cp,h1] at e
  obtain ⟨p,e1,e2⟩:=Cc.mp e.symm
  exact ⟨p,e1,e2⟩
 refine ⟨⟨ps,.inl h',rfl,by omega⟩,fun x H'' ⟨e1,e2⟩=>?_⟩
 subst e1
 obtain ⟨b,rfl,hb⟩:=e2 ps p (.inl h') hp
 exact ⟨⟨d,.ref b,[],.z⟩,dP (by rw [<- h2,<- hpk];exact .tup hb (lq _)),rfl,rfl,rfl⟩
theorem xQ {m:EM} {R:It->Hp->Prop} (h:tI K G0 W0 (nX m) σ H R):Ap (tE K G0 W0 m) σ H R:=by
 obtain ⟨G,W,le,ρ,T,g,o,ρ',w,e,q⟩:=h
 have herr:∀ x,o=.error x->W x ρ':=fun x hx=>by subst hx;exact q
 refine tE.seq le w e herr fun ra ρ1 e1 v H1 ⟨Ts,g1,w1,a1⟩=>?_
 obtain ⟨d,d1,e2⟩:=aX e1
 obtain ⟨p,e3,rfl,rfl⟩:=cg e2
 obtain ⟨ds,e4,e5⟩:=Cc.mp e3
 subst e5
 obtain ⟨y,y1,y2,y3⟩:=a1.item2 w1 d1
 have hy:Itm (Ts ++ T) g1 y:=by
  rcases y3 with ⟨i,_,ei⟩ | h
  ·exact .inl ⟨i,ei⟩
  ·exact .inr (Cd _ h)
 have ar:=(w1.itm hy).arg
 have qq:∀ J,Walk K J H1 [y] ds->R J H1:=fun J hw=>q J H1 [v] Ts g1 [y] w1 (by simpa using Ars.cons a1 .nil) (fun z hz=>by rw [CH.mp hz];exact y3) hw
 clear e1 e2 e3 q
 subst y1 y2
 obtain ⟨da,va,La,fa⟩:=y
 obtain ⟨rr,oo⟩:=ar
 dsimp only at rr e4
 cases da with
 | dt kvs =>
  obtain ⟨pa,ps,L0,rfl,rfl,ha,hk,rs⟩:=rr.view
  cases e4
  exact ⟨pa,ps,rfl,.inl ha,qq _ (sQ ha hk B8)⟩
 | _=>exact nsE e4
theorem yw {tg l:Expr} {m:EM} (h:RE X G0 W0 l m):RI X G0 W0 tg l (nX m):=⟨PI.imp (yN h.h) fun _ _ _ h=>xQ h⟩
noncomputable def maxVQ:D->Option (D × Fl)
 | .dt kvs=>(bM (kvs.map (·.2))).bind fun ns=>(jt ns).map fun m=>(.int m,.z)
 | _=>none
noncomputable abbrev ph:=c1 maxVQ
noncomputable def rMV:List V->Hp->VK->Prop:=fun xs H Q=>∃ (a:Addr) (kvs:List (List Key × V)) (ns:List Int),xs=[.ref a]/\H a=some (.dT kvs)/\kvs.map (·.2)=ns.map V.int/\ns ≠ []/\∀ p,H p=none->∀ m,m ∈ ns->(∀ n ∈ ns,n<=m)->Q (.int m) (upd H p (lT p a))
theorem zM:ff K rMV ph:=fun ys H Q p ra e q=>by
 obtain ⟨y,rfl,e2⟩:=ik e
 clear e
 have e:=e2
 clear e2
 have rr:=(ra y B8).rep
 obtain ⟨da,va,La,fa⟩:=y
 dsimp only at rr e
 cases da with
 | dt kvs =>
  obtain ⟨pa,ps,L0,rfl,rfl,ha,hk,rs⟩:=rr.view
  obtain ⟨ns,h1,h2⟩:=CG.mp (show ((bM (kvs.map (·.2))).bind fun ns=>(jt ns).map fun m=>((.int m,.z):D × Fl))=some p from e)
  obtain ⟨m,h3,h4⟩:=Cc.mp h2
  have e3:=fY h1
  rw [e3] at rs
  obtain ⟨n1,n2⟩:=pc h3
  subst h4
  refine ⟨pa,ps,ns,rfl,ha,rs.ints,n1,fun p hp k k1 k2=>?_⟩
  rw [n2 k k1 k2]
  exact q ⟨.int m,.int m,[],.z⟩ _ ⟨bH hp,.int _,fun _ h=>(by cases h),fun h=>absurd rfl h⟩ rfl rfl
 | _=>exact nsE e
theorem xS {m:EM} {Q:VK} (h:tE K G0 W0 (aG ph (ab m ai)) σ H Q) :
  tCB Ac (oJ (tBM0 K "dict" (fun x vs H Q=>∃ a kvs,x=.ref a/\vs=[]/\Rd H a (.dT kvs)/\∀ p,H p=none->Q (.ref p) (upd H p (lT p a))) (tE K G0 W0 m)) xM) σ H Q:=by
 have h1:oJ (tE K G0 W0 m) (tA K G0 W0 ai) σ H (fun vs H1=>rMV vs H1 Q):=rC (jb zM h)
 refine rB h1 fun x H1 h2=>?_
 obtain ⟨a,kvs,ns,e,ha,hv,hn,q⟩:=vg h2
 cases e
 refine ⟨.inr (.inr (.inl ⟨rfl,.inr ⟨kvs,ha⟩⟩)),a,kvs,rfl,rfl,.inl ha,fun p hp=>?_⟩
 have hpa:a ≠ p:=fun z=>by rw [z,hp] at ha;exact nsE ha
 exact ⟨p,a,kvs,ns,rfl,bh,.inl (by rw [aL hpa];exact ha),hv,hn,q p hp⟩
theorem yx {o:Expr} {m:EM} {p apos cpos pos:Pos} (hc:X.calm=true) (hg:Gl X "max") (hm:X.mg "max"=none) (ho:RE X G0 W0 o m) (hbase:attributeBase o "values" X.env (eval o X.env)=eval o X.env) (hline:(apos.endLine == cpos.line)=true)
  (hs:starEach [.Call (.Attribute o "values" apos) [] [] cpos] X.env=(false,eval (.Call (.Attribute o "values" apos) [] [] cpos) X.env) :: starEach [] X.env) (hpl:(backTo pos (starEach [] X.env)).any (·.1)=false) :
  RE X G0 W0 (.Call (.Name "max" p) [.Call (.Attribute o "values" apos) [] [] cpos] [] pos) (aG ph (ab m ai)) :=
 ⟨PE.imp (lC (uJ hc) hg hm xn (kP (Bq PySem.F.plainAttrs_dict PySem.F.slot_dict_values PySem.F.type_dict_values zf ho.h hbase hline) qB hs) (by decide) (by decide) hs hpl) fun _ _ _ h=>xS h⟩
noncomputable def fj:List D->Option (List (Int × Int))
 | []=>some []
 | .tup [.int a,.int b] :: ds=>(fj ds).map ((a,b) :: ·)
 | _=>none
noncomputable def jr (n:Int × Int):D:=.tup [.int n.1,.int n.2]
set_option tactic.hygienic true in
theorem lD:∀ {ds:List D} {ns:List (Int × Int)},fj ds=some ns->ds=ns.map jr
 | [],ns,h=>by cases h;rfl
 | d :: ds,ns,h=>by
  unfold fj at h
  split at h
  ·rename_i h0;cases h0
  ·rename_i a b ds' h0
   cases h0
   obtain ⟨ms,h1,h2⟩:=Cc.mp h
   rw [lD h1,<- h2];rfl
  ·exact nsE h
theorem kc:∀ ns:List (Int × Int),fj (ns.map jr)=some ns
 | []=>rfl
 | n :: ns=>by
  show (fj (ns.map jr)).map _=_
  rw [kc ns];rfl
noncomputable def jW:List (Int × Int)->Option (Int × Int)
 | []=>none
 | x :: xs=>some (xs.foldl (fun a b=>if ltP b a=true then b else a) x)
set_option tactic.hygienic true in
theorem zv {x y:Int × Int} (h1:ltP x y=false) (h2:ltP y x=false):x=y:=by
 unfold ltP at *
 simp at h1 h2
 have:x.1=y.1:=by omega
 have:x.2=y.2:=by omega
 exact Prod.ext ‹_› ‹_›
theorem wz {x y z:Int × Int} (h1:ltP x y=false) (h2:ltP y z=false):ltP x z=false:=by
 unfold ltP at *
 simp at *
 omega
theorem wA {x y:Int × Int} (h1:ltP x y=true):ltP y x=false:=by
 unfold ltP at *
 simp at *
 omega
theorem wy (x:Int × Int):ltP x x=false:=by unfold ltP;simp
theorem gD:∀ (xs:List (Int × Int)) (x:Int × Int),(xs.foldl (fun a b=>if ltP b a=true then b else a) x) ∈ x :: xs/\∀ n ∈ x :: xs,ltP n (xs.foldl (fun a b=>if ltP b a=true then b else a) x)=false
 | [],x=>⟨B8,fun n hn=>by rw [CH.mp hn];exact wy x⟩
 | b :: xs,x=>by
  rw [List.foldl_cons]
  by_cases h:ltP b x=true
  ·rw [if_pos h]
   obtain ⟨h1,h2⟩:=gD xs b
   refine ⟨B9 _ h1,fun n hn=>?_⟩
   rcases Cf.mp hn with rfl | hn
   ·exact wz (wA h) (h2 b B8)
   ·exact h2 n hn
  ·rw [if_neg h]
   have h':ltP b x=false:=by simpa using h
   obtain ⟨h1,h2⟩:=gD xs x
   refine ⟨?_,fun n hn=>?_⟩
   ·rcases Cf.mp h1 with e | e
    ·rw [e];exact B8
    ·exact B9 _ (B9 _ e)
   ·rcases Cf.mp hn with rfl | hn
    ·exact h2 n B8
    ·rcases Cf.mp hn with rfl | hn
     ·exact wz h' (h2 x B8)
     ·exact h2 n (B9 _ hn)
theorem jV {ns:List (Int × Int)} {m:Int × Int} (h:jW ns=some m):m ∈ ns/\∀ n ∈ ns,ltP n m=false:=by
 cases ns with
 | nil=>exact nsE h
 | cons x xs=>cases h;exact gD xs x
noncomputable def minPQ:D->Option (D × Fl)
 | .lst ds=>(fj ds).bind fun ns=>(jW ns).map fun n=>(jr n,.z)
 | _=>none
noncomputable abbrev rV:=c1 minPQ
theorem ln:∀ {ns:List (Int × Int)} {vs:List V} {L:List Addr},Reps (Rep K H) (ns.map jr) vs L->∃ bs:List Addr,vs=bs.map V.ref/\ns.length=bs.length/\∀ (i:Nat) (b:Addr),bs[i]?=some b->∃ n,ns[i]?=some n/\H b=some (.tup [.int n.1,.int n.2])
 | [],_,_,.nil=>⟨[],rfl,rfl,fun i b h=>by simp at h⟩
 | n :: ns,_,_,.cons r rs=>by
  obtain ⟨bs,e1,e2,e3⟩:=ln rs
  subst e1
  cases r with
  | @tup xs a vs L ha hr =>
   refine ⟨a :: bs,rfl,by simp [e2],fun i b h=>?_⟩
   cases i with
   | zero =>
    simp only [List.getElem?_cons_zero,Option.some.injEq] at h
    subst h
    have hv:vs=[.int n.1,.int n.2]:=by
     have:=Reps.ints (ns:=[n.1,n.2]) hr
     exact this
    exact ⟨n,rfl,by rw [<- hv];exact ha⟩
   | succ i =>
    simp only [List.getElem?_cons_succ] at h
    exact e3 i b h
theorem zJ:ff K (Ab K) rV:=fun ys H Q p ra e q=>by
 obtain ⟨y,rfl,e2⟩:=ik e
 clear e
 have e:=e2
 clear e2
 have rr:=(ra y B8).rep
 obtain ⟨da,va,La,fa⟩:=y
 dsimp only at rr e
 cases da with
 | lst xs =>
  obtain ⟨pa,vs,L0,rfl,rfl,ha,rs⟩:=rr.view
  obtain ⟨ns,h1,h2⟩:=CG.mp (show ((fj xs).bind fun ns=>(jW ns).map fun n=>((jr n,.z):D × Fl))=some p from e)
  obtain ⟨n0,h3,h4⟩:=Cc.mp h2
  have e3:=lD h1
  subst e3 h4
  obtain ⟨bs,rfl,hl,hb⟩:=ln rs
  obtain ⟨m1,m2⟩:=jV h3
  refine ⟨pa,bs,ns,rfl,SqL.of ha,hb,fun z=>?_,fun m b hm hL=>?_⟩
  ·subst z
   have:ns=[]:=CW.mp hl
   subst this
   cases m1
  ·obtain ⟨n,e1,e2⟩:=hb m b hm
   have hn:n=n0:=by
    refine zv (m2 n (Cm e1) |> id) ?_ |> id
    obtain ⟨i,hi,e4⟩:=List.getElem_of_mem m1
    exact hL.2 i (by omega) n0 n (by rw [Cg hi,e4]) e1
   subst hn
   exact q ⟨jr n,.ref b,[],.z⟩ H (dP (.tup e2 (.cons (L:=[]) (.int _) (.cons (L:=[]) (.int _) .nil)))) rfl rfl
 | _=>exact nsE e
end
end L3
theorem L2.Room.hu {A:PySem.Around} {k:Nat} (hr:L2.Room k A):A.units+1 < PySem.cLine:=L2.hu_of hr
end
section
namespace L3
open PySem L2
section
variable {K:FG} {G G0:Gm} {W W0:D->Sto->Prop} {H H':Hp} {σ:St} {ρ ρ':Sto} {T T':List It3} {g:Nat->Option It3} {x y z:It3} {α β:Type} {X:Cx} {v:V} {d:D} {L:List Addr}
noncomputable def iP:List D->Option (List (List Key))
 | []=>some []
 | .tup xs :: ds=>match dD xs,iP ds with
  | some k,some ks=>some (k :: ks)
  | _,_=>none
 | _=>none
noncomputable def dzQ:D->D->Option (D × Fl)
 | .lst xs,.tup ys=>(iP xs).bind fun ks=>if ks.length=ys.length/\ks.Nodup then some (.dt (ks.zip ys),.u) else none
 | _,_=>none
noncomputable abbrev dzD:=c2 dzQ
noncomputable abbrev pp (ms:M3 (List R3)):EM:=aG dzD ms
set_option tactic.hygienic true in
theorem lS:∀ {ds:List D} {vs:List V} {L:List Addr} {ks:List (List Key)},Reps (Rep K H) ds vs L->iP ds=some ks->∃ bs:List (Addr × List Key),vs=bs.map (fun b=>V.ref b.1)/\bs.map (·.2)=ks/\∀ b ∈ bs,H b.1=some (.tup (b.2.map kV))
 | _,_,_,ks,.nil,e=>by cases e;exact ⟨[],rfl,rfl,fun b hb=>by cases hb⟩
 | _,_,_,ks,.cons (d:=d) (ds:=ds) r rs,e=>by
  cases d <;> try (exact nsE e)
  rename_i xs
  obtain ⟨pa,ws,rfl,ha,rs'⟩:=r.view
  unfold iP at e
  cases h1:dD xs with
  | none=>rw [h1] at e;exact nsE e
  | some k =>
   cases h2:iP ds with
   | none=>rw [h1,h2] at e;exact nsE e
   | some ks' =>
    rw [h1,h2] at e
    cases e
    obtain ⟨bs,g1,g2,g3⟩:=lS rs h2
    have hw:=fv rs' h1
    subst hw
    refine ⟨(pa,k) :: bs,by rw [g1];rfl,by rw [Cu,g2],fun b hb=>?_⟩
    rcases Cf.mp hb with rfl | hb
    ·exact ha
    ·exact g3 b hb
theorem k5 {α β:Type}:∀ {ks:List α} {ys:List β},ks.length=ys.length->(ks.zip ys).map (·.2)=ys
 | [],[],_=>rfl
 | k :: ks,y :: ys,e=>by simp [k5 (ks:=ks) (ys:=ys) (by simpa using e)]
theorem k7 {α β:Type}:∀ {ks:List α} {ys:List β},ks.length=ys.length->(ks.zip ys).map (·.1)=ks
 | [],[],_=>rfl
 | k :: ks,y :: ys,e=>by simp [k7 (ks:=ks) (ys:=ys) (by simpa using e)]
set_option tactic.hygienic true in
theorem xT {ms:M3 (List R3)} {Q:VK} (h:tE K G0 W0 (pp ms) σ H Q):z4 K (tA K G0 W0 ms) σ H Q:=by
 refine jb (r:=fun xs H Q=>∃ (l t:Addr) (bs:List (Addr × List Key)) (ws:List V),xs=[.ref l,.ref t]/\SqL K H l (bs.map fun b=>V.ref b.1)/\SqT K H t ws/\(∀ b ∈ bs,H b.1=some (.tup (b.2.map kV)))/\bs.length=ws.length/\(bs.map (·.2)).Nodup/\∀ p,H p=none->Q (.ref p) (upd H p (.dT ((bs.map (·.2)).zip ws)))) (fun ys H Q p ra e q=>?_) h
 obtain ⟨y,z,rfl,e2⟩:=ol e
 clear e
 have ry:=(ra y B8).rep
 have rz:=(ra z (B9 _ B8)).rep
 have az:=ra z (B9 _ B8)
 obtain ⟨da,va,La,fa⟩:=y
 obtain ⟨db,vb,Lb,fb⟩:=z
 dsimp only at ry rz e2
 cases da <;> try (exact nsE e2)
 rename_i xs
 cases db <;> try (exact nsE e2)
 rename_i ws
 obtain ⟨pa,vs,L0,rfl,rfl,ha,rs⟩:=ry.view
 obtain ⟨pb,us,rfl,hb,rs'⟩:=rz.view
 obtain ⟨ks,h1,h2⟩:=CG.mp (show ((iP xs).bind fun ks=>if ks.length=ws.length/\ks.Nodup then some ((.dt (ks.zip ws),.u):D × Fl) else none)=some p from e2)
 split at h2
 ·rename_i hc
  cases h2
  obtain ⟨bs,g1,g2,g3⟩:=lS rs h1
  subst g1 g2
  have hl:(bs.map (·.2)).length=us.length:=by rw [hc.1,rs'.len]
  refine ⟨pa,pb,bs,us,rfl,SqL.of ha,SqT.of hb,g3,by simpa using hl,hc.2,fun p hp=>?_⟩
  refine q ⟨.dt ((bs.map (·.2)).zip ws),.ref p,p :: Lb,.u⟩ _ ⟨bH hp,.dT bh (by rw [k7 hc.1,k7 hl]) (by rw [k5 hc.1,k5 hl];exact rs'.same (bH hp)),fun c hc=>?_,fun _=>⟨rfl,p,Lb,rfl,rfl,fun hc=>?_,hp⟩⟩ rfl rfl
  ·rcases Cf.mp hc with e | hc
   ·rw [e];exact .inl hp
   ·exact .inr (jX (y:=⟨.tup ws,.ref pb,Lb,fb⟩) (B9 _ B8) az rfl c hc)
  ·obtain ⟨o,ho⟩:=(rs'.inH p hc).ex
   rw [hp] at ho
   exact nsE ho
 ·exact nsE h2
theorem nC {a b:Expr} {ms:M3 (List R3)} {p1 p2 pos1 pos2:Pos} (hc:X.calm=true) (hu:X.A.units+64 < cLine) (hgl:Gl X "dict") (hml:X.mg "dict"=none) (hg:Gl X "zip") (hm:X.mg "zip"=none) (ha:RA X G0 W0 [a,b] ms)
  (hs:starEach [.Call (.Name "zip" p2) [a,b] [] pos2] X.env=[(false,eval (.Call (.Name "zip" p2) [a,b] [] pos2) X.env)]) (hs2:starEach [a,b] X.env=(false,eval a X.env) :: starEach [b] X.env) (hpl:(backTo pos2 (starEach [b] X.env)).any (·.1)=false) :
  RE X G0 W0 (.Call (.Name "dict" p1) [.Call (.Name "zip" p2) [a,b] [] pos2] [] pos1) (pp ms):=⟨PE.imp (yP hc hu hgl hml hg hm B2 b_zip ha.h hs hs2 hpl) fun _ _ _ h=>xT h⟩
end
end L3
end
section
namespace L3
open PySem L2
section
variable {K:FG} {G G0:Gm} {W W0:D->Sto->Prop} {H H':Hp}
noncomputable def ntD (n:List Int):D:=.tup (n.map D.int)
noncomputable def kg:List D->Option (List (List Int))
 | []=>some []
 | .tup xs :: ds=>(bM xs).bind fun n=>(kg ds).map (n :: ·)
 | _=>none
set_option tactic.hygienic true in
theorem o6:∀ {ds:List D} {ns:List (List Int)},kg ds=some ns->ds=ns.map ntD
 | [],ns,h=>by cases h;rfl
 | d :: ds,ns,h=>by
  cases d <;> try (exact nsE h)
  rename_i xs
  obtain ⟨n,h1,h2⟩:=CG.mp (show ((bM xs).bind fun n=>(kg ds).map (n :: ·))=some ns from h)
  obtain ⟨ms,h3,h4⟩:=Cc.mp h2
  rw [o6 h3,<- h4,fY h1];rfl
theorem lV:∀ n:List Int,bM (n.map D.int)=some n
 | []=>rfl
 | a :: n=>by
  show (bM (n.map D.int)).map _=_
  rw [lV n];rfl
theorem mQ:∀ ns:List (List Int),kg (ns.map ntD)=some ns
 | []=>rfl
 | n :: ns=>by
  show ((bM (n.map D.int)).bind fun m=>(kg (ns.map ntD)).map (m :: ·))=_
  rw [lV,mQ ns];rfl
noncomputable def jU:List (List Int)->Option (List Int)
 | []=>none
 | x :: xs=>some (xs.foldl (fun a b=>if HT.lexLt b a=true then b else a) x)
theorem wD {x y:List Int} (h1:HT.lexLt x y=true):HT.lexLt y x=false:=by
 cases h:HT.lexLt y x with
 | false=>rfl
 | true=>have:=iA h1 h;rw [fX] at this;cases this
theorem wC {x y z:List Int} (h1:HT.lexLt x y=false) (h2:HT.lexLt y z=false):HT.lexLt x z=false:=by
 cases h:HT.lexLt x z with
 | false=>rfl
 | true =>
  cases h3:HT.lexLt z y with
  | true=>rw [iA h h3] at h1;cases h1
  | false=>rw [kS h2 h3,h] at h1;cases h1
theorem gB:∀ (xs:List (List Int)) (x:List Int),(xs.foldl (fun a b=>if HT.lexLt b a=true then b else a) x) ∈ x :: xs/\∀ n ∈ x :: xs,HT.lexLt n (xs.foldl (fun a b=>if HT.lexLt b a=true then b else a) x)=false
 | [],x=>⟨B8,fun n hn=>by rw [CH.mp hn];exact fX x⟩
 | b :: xs,x=>by
  rw [List.foldl_cons]
  by_cases h:HT.lexLt b x=true
  ·rw [if_pos h]
   obtain ⟨h1,h2⟩:=gB xs b
   refine ⟨B9 _ h1,fun n hn=>?_⟩
   rcases Cf.mp hn with rfl | hn
   ·exact wC (wD h) (h2 b B8)
   ·exact h2 n hn
  ·rw [if_neg h]
   have h':HT.lexLt b x=false:=by simpa using h
   obtain ⟨h1,h2⟩:=gB xs x
   refine ⟨?_,fun n hn=>?_⟩
   ·rcases Cf.mp h1 with e | e
    ·rw [e];exact B8
    ·exact B9 _ (B9 _ e)
   ·rcases Cf.mp hn with rfl | hn
    ·exact h2 n B8
    ·rcases Cf.mp hn with rfl | hn
     ·exact wC h' (h2 x B8)
     ·exact h2 n (B9 _ hn)
theorem mW {ns:List (List Int)} {m:List Int} (h:jU ns=some m):m ∈ ns/\∀ n ∈ ns,HT.lexLt n m=false:=by
 cases ns with
 | nil=>exact nsE h
 | cons x xs=>cases h;exact gB xs x
noncomputable def minTQ:D->Option (D × Fl)
 | .lst ds=>(kg ds).bind fun ns=>(jU ns).map fun n=>(ntD n,.z)
 | _=>none
noncomputable abbrev wm:=c1 minTQ
theorem oU:∀ {ns:List (List Int)} {vs:List V} {L:List Addr},Reps (Rep K H) (ns.map ntD) vs L->∃ bs:List Addr,vs=bs.map V.ref/\ns.length=bs.length/\∀ (i:Nat) (b:Addr),bs[i]?=some b->∃ n,ns[i]?=some n/\H b=some (.tup (n.map V.int))
 | [],_,_,.nil=>⟨[],rfl,rfl,fun i b h=>by simp at h⟩
 | n :: ns,_,_,.cons r rs=>by
  obtain ⟨bs,e1,e2,e3⟩:=oU rs
  subst e1
  cases r with
  | @tup xs a vs L ha hr =>
   refine ⟨a :: bs,rfl,by simp [e2],fun i b h=>?_⟩
   cases i with
   | zero =>
    simp only [List.getElem?_cons_zero,Option.some.injEq] at h
    subst h
    have hv:vs=n.map V.int:=Reps.ints hr
    exact ⟨n,rfl,by rw [<- hv];exact ha⟩
   | succ i =>
    simp only [List.getElem?_cons_succ] at h
    exact e3 i b h
theorem jj:∀ n:List Int,Reps (Rep K H) (n.map D.int) (n.map V.int) []
 | []=>.nil
 | a :: n=>.cons (L:=[]) (.int a) (jj n)
theorem zI:ff K (vI K) wm:=fun ys H Q p ra e q=>by
 obtain ⟨y,rfl,e2⟩:=ik e
 clear e
 have e:=e2
 clear e2
 have rr:=(ra y B8).rep
 obtain ⟨da,va,La,fa⟩:=y
 dsimp only at rr e
 cases da with
 | lst xs =>
  obtain ⟨pa,vs,L0,rfl,rfl,ha,rs⟩:=rr.view
  obtain ⟨ns,h1,h2⟩:=CG.mp (show ((kg xs).bind fun ns=>(jU ns).map fun n=>((ntD n,.z):D × Fl))=some p from e)
  obtain ⟨n0,h3,h4⟩:=Cc.mp h2
  have e3:=o6 h1
  subst e3 h4
  obtain ⟨bs,rfl,hl,hb⟩:=oU rs
  obtain ⟨m1,m2⟩:=mW h3
  refine ⟨pa,bs,ns,rfl,SqL.of ha,(fun i b e=>let ⟨n,e1,e2⟩:=hb i b e;⟨n,e1,SqT.of e2⟩),fun z=>?_,fun m b hm hL=>?_⟩
  ·subst z
   have:ns=[]:=CW.mp hl
   subst this
   cases m1
  ·obtain ⟨n,e1,e2⟩:=hb m b hm
   have hn:n=n0:=by
    refine kS (m2 n (Cm e1)) ?_
    obtain ⟨i,hi,e4⟩:=List.getElem_of_mem m1
    exact hL.2 i (by omega) n0 n (by rw [Cg hi,e4]) e1
   subst hn
   exact q ⟨ntD n,.ref b,[],.z⟩ H (dP (.tup e2 (jj n))) rfl rfl
 | _=>exact nsE e
end
end L3
end
section
namespace Bn
open PySem L2 L3
noncomputable abbrev Pd (p:Int × Int):L3.D:=.tup [.int p.1,.int p.2]
theorem bL {bnd:L3.D->Sto->Option Sto} {b:SM} (P:Nat->Sto->Prop):∀ {ds:List L3.D} {ρ:Sto} {k:Nat},P k ρ->(∀ i d ρ,ds[i]?=some d->P (k+i) ρ->∃ ρ1 ρ2,bnd d ρ=some ρ1/\(b ρ1=some (.ok .nx,ρ2)\/b ρ1=some (.ok .ct,ρ2))/\P (k+i+1) ρ2)->∃ ρ',fI bnd b ds ρ=some (.ok .nx,ρ')/\P (k+ds.length) ρ'
 | [],ρ,k,h0,_=>⟨ρ,rfl,h0⟩
 | d :: ds,ρ,k,h0,hs=>by
  obtain ⟨ρ1,ρ2,e1,e2,h1⟩:=hs 0 d ρ rfl h0
  obtain ⟨ρ',e3,h3⟩:=bL P (ds:=ds) (ρ:=ρ2) (k:=k+1) h1 fun i d ρ hd hp=>by
   have:=hs (i+1) d ρ (by simpa using hd) (by rwa [show k+(i+1)=k+1+i by omega])
   rwa [show k+(i+1)+1=k+1+i+1 by omega] at this
  refine ⟨ρ',?_,by rw [CC,show k+(ds.length+1)=k+1+ds.length by omega];exact h3⟩
  unfold fI
  simp only [e1]
  rcases e2 with e2 | e2 <;> simp only [ae,e2,e3]
theorem jB {bnd:L3.D->Sto->Option Sto} {b:SM} (P:Nat->Sto->Prop) (E:Nat->L3.D->Fl->Sto->Prop):∀ {ds:List L3.D} {ρ:Sto} {k:Nat},P k ρ ->
  (∀ i d ρ,ds[i]?=some d->P (k+i) ρ->∃ ρ1 ρ2,bnd d ρ=some ρ1/\(((b ρ1=some (.ok .nx,ρ2)\/b ρ1=some (.ok .ct,ρ2))/\P (k+i+1) ρ2)\/∃ r f,b ρ1=some (.ok (.rt r f),ρ2)/\E (k+i) r f ρ2)) ->
  ∃ ρ',(fI bnd b ds ρ=some (.ok .nx,ρ')/\P (k+ds.length) ρ')\/∃ i r f,i < ds.length/\fI bnd b ds ρ=some (.ok (.rt r f),ρ')/\E (k+i) r f ρ'
 | [],ρ,k,h0,_=>⟨ρ,.inl ⟨rfl,h0⟩⟩
 | d :: ds,ρ,k,h0,hs=>by
  obtain ⟨ρ1,ρ2,e1,h1⟩:=hs 0 d ρ rfl h0
  rcases h1 with ⟨e2,h1⟩ | ⟨r,f,e2,h1⟩
  ·obtain ⟨ρ',h3⟩:=jB P E (ds:=ds) (ρ:=ρ2) (k:=k+1) h1 fun i d ρ hd hp=>by
    have:=hs (i+1) d ρ (by simpa using hd) (by rwa [show k+(i+1)=k+1+i by omega])
    rwa [show k+(i+1)=k+1+i by omega] at this
   have e4:fI bnd b (d :: ds) ρ=fI bnd b ds ρ2:=by
    conv=>lhs;unfold fI
    simp only [e1]
    rcases e2 with e2 | e2 <;> simp only [ae,e2]
   rcases h3 with ⟨e3,h3⟩ | ⟨i,r,f,hi,e3,h3⟩
   ·exact ⟨ρ',.inl ⟨e4.trans e3,by rw [CC,show k+(ds.length+1)=k+1+ds.length by omega];exact h3⟩⟩
   ·exact ⟨ρ',.inr ⟨i+1,r,f,by simp;omega,e4.trans e3,by rw [show k+(i+1)=k+1+i by omega];exact h3⟩⟩
  ·refine ⟨ρ2,.inr ⟨0,r,f,by simp,?_,h1⟩⟩
   unfold fI
   simp only [e1,ae,e2,bx]
theorem bX {lo:Int} {n i:Nat} {d:L3.D} (h:(aV lo n)[i]?=some d):i < n/\d=.int (lo+i):=by
 unfold aV at h
 rw [Cp,Cc] at h
 obtain ⟨j,h1,rfl⟩:=h
 have h2:=Cl.mp h1
 obtain ⟨h3,h4⟩:=h2
 simp at h3 h4
 subst h4
 exact ⟨h3,rfl⟩
theorem bv {lo:Int} {n:Nat}:(aV lo n).length=n:=by unfold aV;simp
theorem Small.sub {p q:Pt} (hp:Small p) (hq:Small q):(-18446744073709551616 < q.1 - p.1/\q.1 - p.1 < 18446744073709551616)/\(-18446744073709551616 < q.2 - p.2/\q.2 - p.2 < 18446744073709551616):=by
 obtain ⟨a1,a2,a3,a4⟩:=hp
 obtain ⟨b1,b2,b3,b4⟩:=hq
 exact ⟨⟨by omega,by omega⟩,⟨by omega,by omega⟩⟩
theorem fK {c:M3 Bool} {b:SM} (P:Nat->Sto->Prop) (Q:Sto->Prop) {n:Nat} {ρ:Sto} (h0:P n ρ)
  (hs:∀ n ρ,P n ρ->(∃ ρ1,c ρ=some (.ok false,ρ1)/\Q ρ1)\/∃ ρ1 ρ2 m,c ρ=some (.ok true,ρ1)/\(b ρ1=some (.ok .nx,ρ2)\/b ρ1=some (.ok .ct,ρ2))/\m < n/\P m ρ2):∃ ρ',cM c b ρ=some (.ok .nx,ρ')/\Q ρ':=by
 have main:∀ n ρ,P n ρ->∃ ρ',cy c b (n+1) ρ=some (.ok .nx,ρ')/\Q ρ':=by
  intro n
  induction n using Nat.strongRecOn with
  | _ n ih =>
   intro ρ hp
   rcases hs n ρ hp with ⟨ρ1,e1,hq⟩ | ⟨ρ1,ρ2,m,e1,e2,hm,hp2⟩
   ·refine ⟨ρ1,?_,hq⟩
    unfold cy
    simp [ae,e1,bx]
   ·obtain ⟨ρ',e3,hq⟩:=ih m hm ρ2 hp2
    refine ⟨ρ',?_,hq⟩
    have e4:=jI (show m+1<=n by omega) e3
    unfold cy
    rcases e2 with e2 | e2 <;> simp [ae,e1,e2,e4]
 obtain ⟨ρ',e,hq⟩:=main n ρ h0
 refine ⟨ρ',?_,hq⟩
 unfold cM
 have h:∃ n r,cy c b n ρ=some r:=⟨_,_,e⟩
 rw [dif_pos h]
 have e2:=Classical.choose_spec (Classical.choose_spec h)
 have e3:=jI (Nat.le_max_left (n+1) (Classical.choose h)) e
 have e4:=jI (Nat.le_max_right (n+1) (Classical.choose h)) e2
 rw [e3] at e4
 exact e4.symm
theorem aj {a b:SM} {ρ ρ1:Sto} {r:Option (Except L3.D Flw × Sto)} (h1:a ρ=some (.ok .nx,ρ1)) (h2:b ρ1=r):aE a b ρ=r:=by
 simp only [aE,ae,h1]
 exact h2
theorem dU {bnd:L3.D->Sto->Option Sto} {c:M3 Bool} {elt:EM} (P:Sto->Prop) (g:L3.D->Bool) (f:L3.D->L3.D):∀ {ds:List L3.D} {τ:Sto},P τ ->
  (∀ d ∈ ds,∀ τ,P τ->∃ τ1 τ2,bnd d τ=some τ1/\c τ1=some (.ok (g d),τ2)/\(g d=false->P τ2)/\(g d=true->∃ r τ3 p τ4,elt τ2=some (.ok r,τ3)/\gH r τ3=some (.ok p,τ4)/\p.1=f d/\P τ4)) ->
  ∃ τ',cp bnd c elt ds τ=some (.ok ((ds.filter g).map f),τ')/\P τ'
 | [],τ,h0,_=>⟨τ,rfl,h0⟩
 | d :: ds,τ,h0,hs=>by
  obtain ⟨τ1,τ2,e1,e2,hf,ht⟩:=hs d B8 τ h0
  cases hg:g d with
  | false =>
   obtain ⟨τ',e,hp⟩:=dU P g f (ds:=ds) (τ:=τ2) (hf hg) fun d hd=>hs d (B9 _ hd)
   refine ⟨τ',?_,hp⟩
   unfold cp
   rw [hg] at e2
   simp [e1,ae,e2,e,List.filter_cons,hg]
  | true =>
   obtain ⟨r,τ3,p,τ4,e3,e4,e5,hp4⟩:=ht hg
   obtain ⟨τ',e,hp⟩:=dU P g f (ds:=ds) (τ:=τ4) hp4 fun d hd=>hs d (B9 _ hd)
   refine ⟨τ',?_,hp⟩
   unfold cp
   rw [hg] at e2
   simp [e1,ae,e2,e3,e4,e,List.filter_cons,hg,bx,e5]
noncomputable abbrev Tri:=Nat × Nat × Nat
noncomputable def jK (i j m:Nat):List Tri:=(List.range m).map fun k=>(i,j,j+1+k)
noncomputable def iW (n i m:Nat):List Tri:=(List.range m).flatMap fun j=>jK i (i+1+j) (n - (i+1+j+1))
noncomputable def mq (n m:Nat):List Tri:=(List.range m).flatMap fun i=>iW n i (n - (i+1))
noncomputable def av (n:Nat):List Tri:=mq n n
theorem li (i j m:Nat):(jK i j m).length=m:=by simp [jK]
theorem mL (n i m:Nat):iW n i (m+1)=iW n i m ++ jK i (i+1+m) (n - (i+1+m+1)):=by simp [iW,List.range_succ,List.flatMap_append]
theorem mM (n m:Nat):mq n (m+1)=mq n m ++ iW n m (n - (m+1)):=by simp [mq,List.range_succ,List.flatMap_append]
theorem wn {i j m:Nat} {t:Tri} (h:t ∈ jK i j m):t.1=i/\t.2.1=j/\j < t.2.2/\t.2.2 < j+1+m:=by
 obtain ⟨k,hk,rfl⟩:=Co.mp h
 rw [List.mem_range] at hk
 exact ⟨rfl,rfl,by show j < j+1+k;omega,by show j+1+k < j+1+m;omega⟩
theorem fO {n:Nat} {t:Tri} (h:t ∈ av n):t.1 < t.2.1/\t.2.1 < t.2.2/\t.2.2 < n:=by
 obtain ⟨i,hi,h⟩:=CS.mp h
 obtain ⟨j,hj,h⟩:=CS.mp h
 rw [List.mem_range] at hi hj
 obtain ⟨h1,h2,h3,h4⟩:=wn h
 exact ⟨by omega,by omega,by omega⟩
theorem rG (n i m:Nat):(iW n i m).length<=m * n:=by
 induction m with
 | zero=>simp [iW]
 | succ m ih=>rw [mL,CB,li,Nat.succ_mul];omega
theorem yq (n m:Nat):(mq n m).length<=m * (n * n):=by
 induction m with
 | zero=>simp [mq]
 | succ m ih =>
  rw [mM,CB,Nat.succ_mul]
  have:=rG n m (n - (m+1))
  have h2:(n - (m+1)) * n<=n * n:=Nat.mul_le_mul (by omega) (Cq _)
  omega
theorem lj {n m:Nat} (hn:n<=25) (hm:m<=25):(mq n m).length<=15625:=by
 have h1:=yq n m
 have h2:n * n<=25 * 25:=Nat.mul_le_mul hn hn
 have h3:m * (n * n)<=25 * (25 * 25):=Nat.mul_le_mul hm h2
 omega
theorem qm {n i m:Nat} (hn:n<=25) (hm:m<=25):(iW n i m).length<=625:=by
 have h1:=rG n i m
 have h2:m * n<=25 * 25:=Nat.mul_le_mul hm hn
 omega
noncomputable abbrev Td (t:Tri):L3.D:=.tup [.int t.1,.int t.2.1,.int t.2.2]
noncomputable abbrev Shd (ps:List Pt):L3.D:=.tup (ps.map Pd)
theorem bA {im:IM} {bnd:L3.D->Sto->Option Sto} {c:M3 Bool} {elt:EM} {ix:List (Option Nat)} {ρ ρ1 ρ2 τ:Sto} {rs:List R3} {ds out:List L3.D} (h1:im ρ=some (.ok (rs,ds),ρ1)) (h2:cp bnd c elt ds (uz ix (aP dQ (us ρ1 (pls rs)) ρ1))=some (.ok out,τ)) (h3:ds.length < 16777216) (h4:uncap ix τ (aP dQ (us ρ1 (pls rs)) ρ1)=some ρ2) :
  bZ im bnd c elt ix ρ=some (.ok (.val (.lst out) .u),aP gK (us ρ1 (pls rs)) ρ2):=by
 simp [bZ,ae,h1,h2,h3,h4]
theorem p7:∀ {ds:List L3.D},(∀ d ∈ ds,d=.bl true)->md ds=some (List.replicate ds.length true)
 | [],_=>rfl
 | d :: ds,h=>by
  have h1:=h d B8
  subst h1
  have h2:=p7 fun d hd=>h d (B9 _ hd)
  simp [md,h2,List.replicate_succ]
theorem iC {ds:List L3.D} (h:∀ d ∈ ds,d=.bl true):B4 (.lst ds)=some (.bl true,.z):=by
 simp [B4,p7 h]
theorem sL {xs:List L3.D} {i:Nat} {d:L3.D} (h:xs[i]?=some d):L2.atI xs (i:Int)=some d:=by
 obtain ⟨h1,h2⟩:=Cl.mp h
 simp [L2.atI,ixN,h1,h2]
theorem xr {ps:List Pt} {i:Nat} {p:Pt} (h:ps[i]?=some p):L2.atI (ps.map Pd) (i:Int)=some (Pd p):=sL (by simp [h])
theorem wK {f:List L3.D->Option (List L3.D)} {ms:M3 (List R3)} {ρ ρ1 ρ2:Sto} {rs:List R3} {ds xs:List L3.D} (h1:ms ρ=some (.ok rs,ρ1)) (h2:gE rs ρ1=some (.ok ds,ρ2)) (h3:f ds=some xs):aT f ms ρ=some (.ok ([],xs),ρ2):=by
 simp [aT,ae,h1,h2,h3,bo]
theorem fi {a b:Int} (ha:-1000<=a/\a<=1000) (hb:-1000<=b/\b<=1000) {n:Nat} (hn:(b - a).toNat=n):dA [.int a,.int b]=some (aV a n):=by
 have lm:cS a=true:=Cv (by omega)
 have lm2:cS b=true:=Cv (by omega)
 show (if (cS a && cS b)=true then some (aV a (b - a).toNat) else none)=_
 rw [lm,lm2,hn]
 exact if_pos rfl
theorem eA {b:Int} (hb:-1000<=b/\b<=1000) {n:Nat} (hn:b.toNat=n):cV [.int b]=some (aV 0 n):=by
 have lm2:cS b=true:=Cv (by omega)
 show (if (cS b)=true then some (aV 0 b.toNat) else none)=_
 rw [lm2,hn]
 exact if_pos rfl
end Bn
end
section
namespace Bn
open PySem L2 L3
section
variable {α:Type} {ρ ρ1 ρ2 ρ3:Sto} {ma mb mc m:EM} {ms:M3 (List R3)} {ra rb r:R3} {rs:List R3} {da db d:L3.D} {ds:List L3.D} {fl:Fl} {i n np:Nat} {sa sb:SM} {c cc:M3 Bool} {b b2:Bool} {x:Option (Except L3.D Flw × Sto)} {y:Option (Except L3.D R3 × Sto)}
theorem bp {p:L3.D × Fl} (h:(ρ[i]?).join=some p):ac i ρ=some (.ok (.pl i),ρ):=by simp [ac,h]
theorem i_c:mC d ρ=some (.ok (.val d .z),ρ):=rfl
theorem eX {f:L3.D->L3.D->Option (L3.D × Fl)} (h1:ma ρ=some (.ok ra,ρ1)) (h2:mb ρ1=some (.ok rb,ρ2)) (h3:der ra ρ2=some (.ok da,ρ2)) (h4:der rb ρ2=some (.ok db,ρ2)) (h5:f da db=some (d,fl)):ah f ma mb ρ=some (.ok (.val d fl),ρ2):=by
 simp only [ah,ae,h1,h2,h3,h4,bo,h5,CF]
theorem i_un {f:L3.D->Option (L3.D × Fl)} (h1:ma ρ=some (.ok ra,ρ1)) (h3:der ra ρ1=some (.ok da,ρ1)) (h5:f da=some (d,fl)):mUn f ma ρ=some (.ok (.val d fl),ρ1):=by
 simp only [mUn,ae,h1,h3,bo,h5,CF]
theorem kW {f:List L3.D->Option (L3.D × Fl)} (h1:ms ρ=some (.ok rs,ρ1)) (h3:gE rs ρ1=some (.ok ds,ρ1)) (h5:f ds=some (d,fl)):aG f ms ρ=some (.ok (.val d fl),ρ1):=by
 simp only [aG,ae,h1,h3,bo,h5,CF]
theorem hV:ai ρ=some (.ok [],ρ):=rfl
theorem d6 (h1:m ρ=some (.ok r,ρ1)) (h2:ms ρ1=some (.ok rs,ρ2)):ab m ms ρ=some (.ok (r :: rs),ρ2):=by
 simp only [ab,ae,h1,h2,bx]
theorem lW {mk:List L3.D->L3.D} {f:Fl} (h1:ms ρ=some (.ok rs,ρ1)) (h2:gives rs ρ1=some (.ok ds,ρ2)) (h3:ds.length<=16777216):zr mk f ms ρ=some (.ok (.val (mk ds) f),ρ2):=by
 simp only [zr,ae,h1,h2,bo,h3,if_true,CF]
theorem aD {F:Fn} {ps qs:List (L3.D × Fl)} (hF:F ps=some (.ok (d,fl),qs)) (h1:ms ρ=some (.ok rs,ρ1)) (h2:prs (frz (pI rs) ρ1) rs=some ps) (h3:qs.length=ps.length) (h4:back rs ps qs (frz (pI rs) ρ1) = ρ2):ay F ms ρ=some (.ok (.val d fl),ρ2):=by
 simp only [ay,ae,h1,h2,hF,h3,if_true,h4]
theorem iQ {p:L3.D × Fl} (h1:m ρ=some (.ok r,ρ1)) (h2:gH r ρ1=some (.ok p,ρ2)) (h3:i < ρ2.length) (h4:ρ2.set i (some p) = ρ3):aN i m ρ=some (.ok .nx,ρ3):=by
 simp only [aN,ae,h1,h2,h3,if_true,h4]
theorem i_asg {bnd:L3.D->Sto->Option Sto} {p:L3.D × Fl} (h1:m ρ=some (.ok r,ρ1)) (h2:gH r ρ1=some (.ok p,ρ2)) (h3:bnd p.1 ρ2=some ρ3):vo bnd m ρ=some (.ok .nx,ρ3):=by
 simp only [vo,ae,h1,h2,h3,CF]
theorem qU (h1:m ρ=some (.ok r,ρ1)):gN m ρ=some (.ok .nx,ρ1):=by
 simp only [gN,ae,h1,bx]
noncomputable def retF (np:Nat) (r:R3):SM:=bG np (bx r)
theorem jz (h1:m ρ=some (.ok r,ρ1)) (h2:retF np r ρ1=x):bG np m ρ=x:=by
 rw [<- h2]
 unfold retF
 simp only [bG,ae,h1,bx]
theorem nv (h1:sa ρ=some (.ok (.rt d fl),ρ1)):aE sa sb ρ=some (.ok (.rt d fl),ρ1):=by
 simp only [aE,ae,h1,bx]
theorem ug (h1:m ρ=some (.ok r,ρ1)) (h2:der r ρ1=some (.ok (.bl b),ρ1)):cB m ρ=some (.ok b,ρ1):=by
 simp only [cB,ae,h1,h2,bo,asB,CF]
theorem ib (h1:c ρ=some (.ok b,ρ1)):i7 c ρ=some (.ok (!b),ρ1):=by
 simp only [i7,ae,h1,bx]
theorem kn (h1:c ρ=some (.ok b,ρ1)) (hb:b=true) (h2:sa ρ1=x):sIf c sa sb ρ=x:=by
 subst hb;simp only [sIf,ae,h1,if_true];exact h2
theorem dy (h1:c ρ=some (.ok b,ρ1)) (hb:b=false) (h2:sb ρ1=x):sIf c sa sb ρ=x:=by
 subst hb;simp only [sIf,ae,h1,CI,if_false];exact h2
theorem se (h1:c ρ=some (.ok b,ρ1)) (hb:b=false) (h2:cc ρ1=some (.ok b2,ρ2)):cOr c cc ρ=some (.ok b2,ρ2):=by
 subst hb;simp only [cOr,ae,h1,CI,if_false];exact h2
theorem wM (h1:c ρ=some (.ok b,ρ1)) (hb:b=true) (h2:cc ρ1=some (.ok b2,ρ2)):oj c cc ρ=some (.ok b2,ρ2):=by
 subst hb;simp only [oj,ae,h1,if_true];exact h2
theorem wN (h1:c ρ=some (.ok b,ρ1)) (hb:b=false):oj c cc ρ=some (.ok false,ρ1):=by
 subst hb;simp only [oj,ae,h1,CI,if_false];rfl
theorem kU (h1:ma ρ=some (.ok r,ρ1)) (h2:der r ρ1=some (.ok (.bl b),ρ1)) (hb:b=true) (h3:mb ρ1=y):pq ma mb ρ=y:=by
 subst hb;simp only [pq,ae,h1,h2,bo,asB,CF,if_true];exact h3
theorem BL (h1:ma ρ=some (.ok r,ρ1)) (h2:der r ρ1=some (.ok (.bl b),ρ1)) (hb:b=true):mOr ma mb ρ=some (.ok (.val (.bl true) .z),ρ1):=by
 subst hb;simp only [mOr,ae,h1,h2,bo,asB,CF,if_true];rfl
theorem BM (h1:ma ρ=some (.ok r,ρ1)) (h2:der r ρ1=some (.ok (.bl b),ρ1)) (hb:b=false) (h3:mb ρ1=y):mOr ma mb ρ=y:=by
 subst hb;simp only [mOr,ae,h1,h2,bo,asB,CF,CI,if_false];exact h3
theorem i_sl {f:L3.D->Option Int->Option Int->Option (L3.D × Fl)} {pl pu:M3 (Option Int)} {lo hi:Option Int} (h1:ma ρ=some (.ok ra,ρ1)) (h2:pl ρ1=some (.ok lo,ρ2)) (h3:pu ρ2=some (.ok hi,ρ3)) (h4:der ra ρ3=some (.ok da,ρ3)) (h5:f da lo hi=some (d,fl)):mSl f ma pl pu ρ=some (.ok (.val d fl),ρ3):=by
 simp only [mSl,ae,h1,h2,h3,h4,bo,h5,CF]
theorem zD:o3 ρ=some (.ok none,ρ):=rfl
theorem zC {k:Int} (h1:m ρ=some (.ok r,ρ1)) (h2:der r ρ1=some (.ok (.int k),ρ1)):iL m ρ=some (.ok (some k),ρ1):=by
 simp only [iL,ae,h1,h2,bo,asI,CF]
theorem wL {ok:L3.D->Bool} {f:L3.D->List L3.D->Option (L3.D × L3.D)} {d2 d3 d4:L3.D} (h0:(ρ[i]?).join=some (d,fl)) (hk:ok d=true) (h1:ms ρ=some (.ok rs,ρ1)) (h2:gives rs ρ1=some (.ok ds,ρ2)) (h3:(ρ2[i]?).join=some (d2,.u)) (h4:f d2 ds=some (d3,d4)) (h5:ρ2.set i (some (d3,.u)) = ρ3):nQ ok f i ms ρ=some (.ok (.val d4 .z),ρ3):=by
 simp only [nQ,ae,bp h0,chk,h0,hk,if_true,h1,h2,h3,h4,h5]
theorem Al {f:L3.D->List L3.D->Option (L3.D × L3.D)} {d2 d3 d4:L3.D} (h1:mb ρ=some (.ok rb,ρ1)) (h0:(ρ1[i]?).join=some (d,fl)) (h2:ma ρ1=some (.ok ra,ρ2)) (h3:gives [ra,rb] ρ2=some (.ok ds,ρ3)) (h4:(ρ3[i]?).join=some (d2,.u)) (h5:f d2 ds=some (d3,d4)):sZ f i ma mb ρ=some (.ok .nx,ρ3.set i (some (d3,.u))):=by
 simp only [sZ,ae,h1,bp h0,h2,h3,h4,h5]
theorem bF {mask:List Bool} {ps qs:List (L3.D × Fl)} (h1:ps.length=mask.length) (h0:ko n (List.zipWith t6 mask ps) = ρ) (h2:sa ρ=some (.ok (.rt d fl),ρ1)) (h3:iH ρ1 0 (List.zipWith t6 mask ps)=some qs):fnM mask n sa ps=some (.ok (d,fl),qs):=by
 subst h0;simp only [fnM,h1,if_true,fn0,h2,h3,CF]
theorem F_nx {mask:List Bool} {ps qs:List (L3.D × Fl)} (h1:ps.length=mask.length) (h0:ko n (List.zipWith t6 mask ps) = ρ) (h2:sa ρ=some (.ok .nx,ρ1)) (h3:iH ρ1 0 (List.zipWith t6 mask ps)=some qs):fnM mask n sa ps=some (.ok (.non,.z),qs):=by
 subst h0;simp only [fnM,h1,if_true,fn0,h2,h3,CF]
theorem js {i j:Int} (h:-18446744073709551616 < i/\i < 18446744073709551616):gj (.int i) (.int j)=some (.int (i * j),.z):=by
 simp [gz,h]
theorem wl {i j:Int} (h:-18446744073709551616 < j/\j < 18446744073709551616):gj (.int i) (.int j)=some (.int (i * j),.z):=by
 simp [gz,h]
theorem dR {im:IM} {bnd:L3.D->Sto->Option Sto} {o:Except L3.D Flw} (h1:im ρ=some (.ok (rs,ds),ρ1)) (hp:us ρ1 (pls rs)=[]) (h2:fI bnd sb ds ρ1=some (o,ρ2)):cN im bnd sb ρ=some (o,ρ2):=by
 have h4:∀ f ρ,aP f [] ρ = ρ:=fun _ _=>rfl
 simp only [cN,ae,h1,hp,h4,h2,CF]
theorem qT {im:IM} {bnd:L3.D->Sto->Option Sto} {o:Except L3.D Flw} {is:List Nat} (h1:im ρ=some (.ok (rs,ds),ρ1)) (hp:us ρ1 (pls rs)=is) (h2:fI bnd sb ds (aP dQ is ρ1)=some (o,ρ2)):cN im bnd sb ρ=some (o,aP gK is ρ2):=by
 simp only [cN,ae,h1,hp,h2,CF]
theorem jA (h1:m ρ=some (.ok r,ρ1)) (h2:der r ρ1=some (.ok d,ρ1)) (h3:z7 d=some ds):cT m ρ=some (.ok ([r],ds),ρ1):=by
 simp only [cT,ae,h1,h2,bo,h3,CF]
theorem cC {f:List L3.D->Option (List L3.D)} {xs:List L3.D} (h1:ms ρ=some (.ok rs,ρ1)) (h2:gE rs ρ1=some (.ok ds,ρ1)) (h3:f ds=some xs):aT f ms ρ=some (.ok ([],xs),ρ1):=wK h1 h2 h3
end
theorem cD {α:Type} {bnd:L3.D->Sto->Option Sto} {c:M3 Bool} {elt:EM} (P:Sto->Prop) (D:α->L3.D) (g:α->Bool) (f:α->L3.D):∀ {xs:List α} {τ:Sto},P τ ->
  (∀ x ∈ xs,∀ τ,P τ->∃ τ1 τ2,bnd (D x) τ=some τ1/\c τ1=some (.ok (g x),τ2)/\(g x=false->P τ2)/\(g x=true->∃ r τ3 p τ4,elt τ2=some (.ok r,τ3)/\gH r τ3=some (.ok p,τ4)/\p.1=f x/\P τ4)) ->
  ∃ τ',cp bnd c elt (xs.map D) τ=some (.ok ((xs.filter g).map f),τ')/\P τ'
 | [],τ,h0,_=>⟨τ,rfl,h0⟩
 | x :: xs,τ,h0,hs=>by
  obtain ⟨τ1,τ2,e1,e2,hf,ht⟩:=hs x B8 τ h0
  cases hg:g x with
  | false =>
   obtain ⟨τ',e,hp⟩:=cD P D g f (xs:=xs) (τ:=τ2) (hf hg) fun d hd=>hs d (B9 _ hd)
   refine ⟨τ',?_,hp⟩
   rw [Cu]
   unfold cp
   rw [hg] at e2
   simp [e1,ae,e2,e,List.filter_cons,hg]
  | true =>
   obtain ⟨r,τ3,p,τ4,e3,e4,e5,hp4⟩:=ht hg
   obtain ⟨τ',e,hp⟩:=cD P D g f (xs:=xs) (τ:=τ4) hp4 fun d hd=>hs d (B9 _ hd)
   refine ⟨τ',?_,hp⟩
   rw [Cu]
   unfold cp
   rw [hg] at e2
   simp [e1,ae,e2,e3,e4,e,List.filter_cons,hg,bx,e5]
section
variable {α:Type} {P:List α->Prop} {us:List α}
theorem bnd0 (h:us.length=0) (f:P []):P us:=by
 cases us with
 | nil=>exact f
 | cons a us=>cases h
theorem B0 {n:Nat} (h:us.length=n+1) (f:∀ a r,r.length=n->P (a :: r)):P us:=by
 cases us with
 | nil=>cases h
 | cons a us=>exact f a us (Nat.succ.inj h)
theorem bnd1 (h:us.length=1) (f:∀ a,P [a]):P us:=B0 h fun a _ h=>bnd0 (P:=fun r=>P (a :: r)) h (f a)
theorem bnd2 (h:us.length=2) (f:∀ a b,P [a,b]):P us:=B0 h fun a _ h=>bnd1 (P:=fun r=>P (a :: r)) h (f a)
theorem bnd3 (h:us.length=3) (f:∀ a b c,P [a,b,c]):P us:=B0 h fun a _ h=>bnd2 (P:=fun r=>P (a :: r)) h (f a)
end
theorem hb1 {x:Str} {st:Stmt} {p0:Str} (f:∀ (kV doc pm:Value) (an:Option Addr) (cdv ct a0:Value),bindArgs (PySem.W.fnOf x x (bD st) (ba st) (al st) .none kV doc pm an cdv ct) ⟨[a0],[]⟩=pure ([p0].zip [a0])) (kV doc pm:Value) (an:Option Addr) (cdv ct:Value) (us:List Value) (hl:us.length=[p0].length):bindArgs (PySem.W.fnOf x x (bD st) (ba st) (al st) .none kV doc pm an cdv ct) ⟨us,[]⟩=pure ([p0].zip us) :=
 bnd1 (P:=fun us=>bindArgs (PySem.W.fnOf x x (bD st) (ba st) (al st) .none kV doc pm an cdv ct) ⟨us,[]⟩=pure ([p0].zip us)) hl (f kV doc pm an cdv ct)
theorem hb2 {x:Str} {st:Stmt} {p0 p1:Str} (f:∀ (kV doc pm:Value) (an:Option Addr) (cdv ct a0 a1:Value),bindArgs (PySem.W.fnOf x x (bD st) (ba st) (al st) .none kV doc pm an cdv ct) ⟨[a0,a1],[]⟩=pure ([p0,p1].zip [a0,a1])) (kV doc pm:Value) (an:Option Addr) (cdv ct:Value) (us:List Value) (hl:us.length=[p0,p1].length):bindArgs (PySem.W.fnOf x x (bD st) (ba st) (al st) .none kV doc pm an cdv ct) ⟨us,[]⟩=pure ([p0,p1].zip us) :=
 bnd2 (P:=fun us=>bindArgs (PySem.W.fnOf x x (bD st) (ba st) (al st) .none kV doc pm an cdv ct) ⟨us,[]⟩=pure ([p0,p1].zip us)) hl (f kV doc pm an cdv ct)
theorem hb3 {x:Str} {st:Stmt} {p0 p1 p2:Str} (f:∀ (kV doc pm:Value) (an:Option Addr) (cdv ct a0 a1 a2:Value),bindArgs (PySem.W.fnOf x x (bD st) (ba st) (al st) .none kV doc pm an cdv ct) ⟨[a0,a1,a2],[]⟩=pure ([p0,p1,p2].zip [a0,a1,a2])) (kV doc pm:Value) (an:Option Addr) (cdv ct:Value) (us:List Value) (hl:us.length=[p0,p1,p2].length):bindArgs (PySem.W.fnOf x x (bD st) (ba st) (al st) .none kV doc pm an cdv ct) ⟨us,[]⟩=pure ([p0,p1,p2].zip us) :=
 bnd3 (P:=fun us=>bindArgs (PySem.W.fnOf x x (bD st) (ba st) (al st) .none kV doc pm an cdv ct) ⟨us,[]⟩=pure ([p0,p1,p2].zip us)) hl (f kV doc pm an cdv ct)
end Bn
end
section
namespace Bn
open PySem L2 L3
local macro_rules | `(tactic| infer_instance)=>`(tactic| first | with_reducible apply bp | with_reducible exact i_c | with_reducible apply eX | with_reducible apply i_un | with_reducible apply kW | with_reducible exact hV | with_reducible apply d6 | with_reducible apply lW | with_reducible apply iQ | with_reducible apply i_asg | with_reducible apply qU | with_reducible apply jz | with_reducible exact i_nilS | with_reducible apply ug | with_reducible apply ib | with_reducible apply i_mNot | with_reducible apply i_sl | with_reducible exact zD | with_reducible apply zC | with_reducible apply wL | with_reducible apply Al | with_reducible apply jA | with_reducible apply cC | with_reducible apply kU | with_reducible apply se)
local macro_rules | `(tactic| eq_refl)=>`(tactic| first | exact rfl | exact Nat.le_of_ble_eq_true rfl)
section
variable {X:Cx} {G0:Gm} {W0:L3.D->Sto->Prop} {pos:Pos}
theorem rvl (i:Nat) {x:Str} (hN:X.N[i]?=some x:=by exact rfl) (hv:Vis X.env.scope x:=by exact Or.inl rfl) (hd:(x == ("__debug__":Str))=false:=by decide) (hc:(x == ("__classdict__":Str))=false:=by decide):RE X G0 W0 (.Name x pos) (ac i):=vD i hN hv hd hc
theorem rvc (i:Nat) {x:Str} (hN:X.N[i]?=some x:=by exact rfl) (hv:Vis X.env.scope x:=by exact Or.inr (Or.inl rfl)) (hd:(x == ("__debug__":Str))=false:=by decide) (hc:(x == ("__classdict__":Str))=false:=by decide):RE X G0 W0 (.Name x pos) (ac i):=vD i hN hv hd hc
end
section
variable {P:Program} {w:World} {K:FG} {mg:Str->Option Value} {base:Heap}
noncomputable def qK:SM:=(bG 1 (pq (mUn (qQ "int") (ac 0)) (zu (mUn (qQ "bool") (ac 0)))))
noncomputable def dF:Fn:=fnM [false] 1 qK
theorem oN:FnScope ["thing"] ["thing"] (al gg):=⟨rfl,rfl,rfl,by decide +kernel,rfl,by decide +kernel,by decide +kernel⟩
theorem oi (B:Bl mg) (D:Def K mg "is_whole" gg):aR P w K mg base "is_whole" 1 ["thing"] dF :=
 bf (k:=0) D oN rfl rfl (hb1 fun _ _ _ _ _ _ _=>rfl) fun cdv A outer s H E f G hr hp =>
  (ak (aO 1 (fun i hi=>by rw [hp];exact aF (by simpa using hi)) (nD (jL jD rfl B.isinstance (iw (v:=V.ty "int") rfl B.int xo rfl (by decide) (by decide)) (rvl 0) rfl rfl rfl) (lu (vE (jL iS rfl B.isinstance (iw (v:=V.ty "bool") rfl B.bool xq rfl (by decide) (by decide)) (rvl 0) rfl rfl rfl))))))
noncomputable def lM:SM:=(sIf (cOr (i7 (cB (ay dF (ab (ac 0) ai)))) (i7 (cB (lN leI leI (ac 1) (ac 0) (ac 2))))) qh fg)
noncomputable def dq:Fn:=fnM [false,false,false] 3 lM
theorem kA:FnScope ["thing","least","most"] ["thing","least","most"] (al cY):=⟨rfl,rfl,rfl,by decide +kernel,rfl,by decide +kernel,by decide +kernel⟩
theorem j8 (B:Bl mg) (D:Def K mg "check_number" cY) (C_is_whole:aR P w K mg base "is_whole" 1 ["thing"] dF):aR P w K mg base "check_number" 2 ["thing","least","most"] dq :=
 bf (k:=1) D kA rfl rfl (hb3 fun _ _ _ _ _ _ _ _ _=>rfl) fun cdv A outer s H E f G hr hp =>
  (ak (d8 (vy (vp (fD (fB (au C_is_whole (hr.mono (by decide)) (aa (rvl 0) ad rfl) rfl (by decide) rfl rfl) (fun _=>rfl))) (qi (fD (vz vX wb vX wb (rvl 1) (rvl 0) (rvl 2) (by with_unfolding_all rfl)))))) (ak oQ) bN))
noncomputable def gW:EM:=(bI (ab (ac 1) (ab (ac 2) (ab (ac 0) ai))))
noncomputable def kh:EM:=(bZ (aT dA (ab (ah bg (ac 3) (mC (.int 1))) (ab (ac 0) ai))) (am 0) dW gW [none,some 2,some 3])
noncomputable def gX:SM:=(gN (nQ isL uk 1 (ab kh ai)))
noncomputable def ki:SM:=(cN (aT dA (ab (ah bg (ac 2) (mC (.int 1))) (ab (ac 0) ai))) (am 3) gX)
noncomputable def wr:SM:=(aE (aN 1 (fW ai)) (aE (cN (aT cV (ab (ac 0) ai)) (am 2) ki) (bG 1 (ac 1))))
noncomputable def dX:Fn:=fnM [false] 4 wr
theorem sc_threes:FnScope ["many","found","i","j"] ["many"] (al jd):=⟨rfl,rfl,rfl,by decide +kernel,rfl,by decide +kernel,by decide +kernel⟩
theorem qZ (B:Bl mg) (D:Def K mg "threes" jd):aR P w K mg base "threes" 1 ["many"] dX :=
 bf (k:=0) D sc_threes rfl rfl (hb1 fun _ _ _ _ _ _ _=>rfl) fun cdv A outer s H E f G hr hp =>
  (af (aq 1 sc_threes.nd rfl (Or.inl rfl) (cO ad) rfl (Or.inl rfl) (by rw [hp];rfl)) (af (bU PassesOwn.never rfl (cF rfl B.range (aa (rvl 0) ad rfl) rfl) (aQ 2 sc_threes.nd rfl (Or.inr rfl) (Or.inl rfl) (by rw [hp];rfl)) (ak (bU PassesOwn.never rfl (dJ rfl B.range (aa (ao aC aH (rvc 2) ag) (aa (rvl 0) ad rfl) rfl) rfl rfl) (aQ 3 sc_threes.nd rfl (Or.inr rfl) (Or.inl rfl) (by rw [hp];rfl)) (ak (gh (jo (ok:=isL) PySem.F.plainAttrs_list PySem.F.slot_list_extend PySem.F.type_list_extend mR wq lU (gT (i:=1) rfl (Or.inl rfl) (by decide) (by decide)) (aa (b8 ["k","i","j"] [none,some 2,some 3] rfl (dJ rfl B.range (aa (ao aC aH (rvc 3) ag) (aa (rvl 0) ad rfl) rfl) rfl rfl) (fun s H C fp=>ci) (fun s H C fp=>(aZ (aa (rvc 1) (aa (rvc 2) (aa (rvl 0) ad rfl) rfl) rfl))) (by rfl) (cz (by decide)) (fun _=>rfl) ⟨_,aW rfl,fun s H C fp=>bj (i:=0) (show (["k","i","j"]:List Str).Nodup by decide +kernel) rfl (Or.inl rfl) (Or.inr rfl)⟩) ad rfl) rfl rfl rfl rfl rfl) rfl)) (fun _=>rfl))) (fun _=>rfl)) (ak (aO 1 (fun i hi=>by rw [hp];exact aF (by simpa using hi)) (rvl 1)))))
noncomputable def i5:EM:=(ah bg (ac 1) (bI (ab (ac 0) ai)))
noncomputable def lL:EM:=(bZ (aT dA (ab (ah bg (ah aw (ac 2) (mC (.int 2))) (mC (.int 1))) (ab (ac 0) ai))) (am 0) dW i5 [none,some 2])
noncomputable def gw:SM:=(gN (nQ isL uk 1 (ab lL ai)))
noncomputable def zq:SM:=(aE (aN 1 (fW ai)) (aE (cN (cT (ay dX (ab (ac 0) ai))) (am 2) gw) (bG 1 (ac 1))))
noncomputable def k4:Fn:=fnM [false] 3 zq
theorem sc_fours:FnScope ["many","found","three"] ["many"] (al kN):=⟨rfl,rfl,rfl,by decide +kernel,rfl,by decide +kernel,by decide +kernel⟩
theorem uO (B:Bl mg) (D:Def K mg "fours" kN) (C_threes:aR P w K mg base "threes" 1 ["many"] dX):aR P w K mg base "fours" 2 ["many"] k4 :=
 bf (k:=1) D sc_fours rfl rfl (hb1 fun _ _ _ _ _ _ _=>rfl) fun cdv A outer s H E f G hr hp =>
  (af (aq 1 sc_fours.nd rfl (Or.inl rfl) (cO ad) rfl (Or.inl rfl) (by rw [hp];rfl)) (af (bU PassesOwn.never rfl (eO (au C_threes (hr.mono (by decide)) (aa (rvl 0) ad rfl) rfl (by decide) rfl rfl)) (aQ 2 sc_fours.nd rfl (Or.inr rfl) (Or.inl rfl) (by rw [hp];rfl)) (ak (gh (jo (ok:=isL) PySem.F.plainAttrs_list PySem.F.slot_list_extend PySem.F.type_list_extend mR wq lU (gT (i:=1) rfl (Or.inl rfl) (by decide) (by decide)) (aa (b8 ["last","three"] [none,some 2] rfl (dJ rfl B.range (aa (ao aC aH (aM (aB hr.hu) aA (rvc 2) ag (fun _ _=>rfl)) ag) (aa (rvl 0) ad rfl) rfl) rfl rfl) (fun s H C fp=>ci) (fun s H C fp=>(ao aC aH (rvc 1) (aZ (aa (rvl 0) ad rfl)))) (by rfl) (cz (by decide)) (fun _=>rfl) ⟨_,aW rfl,fun s H C fp=>bj (i:=0) (show (["last","three"]:List Str).Nodup by decide +kernel) rfl (Or.inl rfl) (Or.inr rfl)⟩) ad rfl) rfl rfl rfl rfl rfl) rfl)) (fun _=>rfl)) (ak (aO 1 (fun i hi=>by rw [hp];exact aF (by simpa using hi)) (rvl 1)))))
noncomputable def cb:M3 Bool:=(cB (ah eqX (ah aw (ac 4) (bI (ab (ac 5) (ab (ac 2) (ab (ac 0) ai))))) (ac 3)))
noncomputable def b9:EM:=(ah aw (ac 1) (bI (ab (ac 2) (ab (ac 0) ai))))
noncomputable def c8:EM:=(bZ (aT dA (ab (ah bg (ac 5) (mC (.int 1))) (ab (ac 1) ai))) (am 0) cb b9 [none,some 3,some 5,some 2,some 0,some 4])
noncomputable def cf:SM:=(sZ x4 3 (bI (ab (ac 4) (ab (ac 5) ai))) (ah bg (mC (.int 1)) (ah zn c8 (mC (.int 1)))))
noncomputable def ce:SM:=(cN (aT dA (ab (ah bg (ac 4) (mC (.int 1))) (ab (ac 1) ai))) (am 5) cf)
noncomputable def lI:SM:=(aE (aN 3 wx) (aE (cN (aT qo (ab (ah ky (ac 1) (mC (.int 2))) (ab (mUn kC (mC (.int 1))) (ab (mUn kC (mC (.int 1))) ai)))) (am 4) ce) (bG 3 (ac 3))))
noncomputable def dn:Fn:=fnM [false,false,false] 6 lI
theorem sc_onward_table:FnScope ["turns","many","way","most","i","j"] ["turns","many","way"] (al cW):=⟨rfl,rfl,rfl,by decide +kernel,rfl,by decide +kernel,by decide +kernel⟩
theorem j6 (B:Bl mg) (D:Def K mg "onward_table" cW):aR P w K mg base "onward_table" 1 ["turns","many","way"] dn :=
 bf (k:=0) D sc_onward_table rfl rfl (hb3 fun _ _ _ _ _ _ _ _ _=>rfl) fun cdv A outer s H E f G hr hp =>
  (af (aq 3 sc_onward_table.nd rfl (Or.inr rfl) vF rfl (Or.inl rfl) (by rw [hp];rfl)) (af (bU PassesOwn.never rfl (yt rfl B.range (aa (ao eP c7 (rvl 1) ag) (aa (jm gc ge ag) (aa (jm gc ge ag) ad rfl) rfl) rfl) rfl rfl) (aQ 4 sc_onward_table.nd rfl (Or.inr rfl) (Or.inl rfl) (by rw [hp];rfl)) (ak (bU PassesOwn.never rfl (dJ rfl B.range (aa (ao aC aH (rvc 4) ag) (aa (rvl 1) ad rfl) rfl) rfl rfl) (aQ 5 sc_onward_table.nd rfl (Or.inr rfl) (Or.inl rfl) (by rw [hp];rfl)) (ak (vA (i:=3) (rD hr.hu) wo (gT rfl (Or.inr (Or.inl rfl)) (by decide) (by decide)) (aZ (aa (rvc 4) (aa (rvc 5) ad rfl) rfl)) (ao aC aH ag (A3 (vv rfl) y6 rfl B.max xn (b8 ["k","most","j","way","turns","i"] [none,some 3,some 5,some 2,some 0,some 4] rfl (dJ rfl B.range (aa (ao aC aH (rvc 5) ag) (aa (rvl 1) ad rfl) rfl) rfl rfl) (fun s H C fp=>(gP (bO (dY hr.units) dZ (aM (aB hr.hu) aA (rvc 4) (aZ (aa (rvc 5) (aa (rvc 2) (aa (rvl 0) ad rfl) rfl) rfl)) (fun _ _=>rfl)) (rvc 3) (bd _)))) (fun s H C fp=>(aM (aB hr.hu) aA (rvc 1) (aZ (aa (rvc 2) (aa (rvl 0) ad rfl) rfl)) (fun _ _=>rfl))) (by rfl) (cz (by decide)) (fun _=>rfl) ⟨_,aW rfl,fun s H C fp=>bj (i:=0) (show (["k","most","j","way","turns","i"]:List Str).Nodup by decide +kernel) rfl (Or.inl rfl) (Or.inr rfl)⟩) ag (by decide) (by decide) rfl rfl rfl rfl rfl rfl)) (fun _=>rfl) rfl rfl rfl)) (fun _=>rfl))) (fun _=>rfl)) (ak (aO 3 (fun i hi=>by rw [hp];exact aF (by simpa using hi)) (rvc 3)))))
noncomputable def cv:M3 Bool:=(cB (ah eqX (ah aw (ac 2) (ac 0)) (ac 1)))
noncomputable def fS:EM:=(ac 0)
noncomputable def dB:EM:=(bZ (nX (ac 3)) (am 0) cv fS [none,some 4,some 3])
noncomputable def cu:M3 Bool:=(oj (cB (ah eqX (ah aw (ac 3) (bI (ab (ac 5) (ab (ac 6) (ab (ac 0) ai))))) (ac 1))) (cB (ah eqX (ah aw (ac 4) (bI (ab (ac 6) (ab (ac 0) ai)))) (ac 2))))
noncomputable def fR:EM:=(ac 0)
noncomputable def fQ:EM:=(bZ (aT dA (ab (ah bg (ac 7) (mC (.int 1))) (ab (ac 1) ai))) (am 0) cu fR [none,some 2,some 8,some 0,some 3,some 6,some 7])
noncomputable def bR:M3 Bool:=(cB (ah ltI (aG fH (ab (ac 5) ai)) (ac 4)))
noncomputable def cw:SM:=(aE (aN 6 (ah aw (ac 5) (mUn kC (mC (.int 2))))) (aE (aN 7 (ah aw (ac 5) (mUn kC (mC (.int 1))))) (aE (aN 8 (ah bg (ah ky (ac 4) (aG fH (ab (ac 5) ai))) (mC (.int 1)))) (aN 5 (ah bg (ac 5) (bI (ab (aG rW (ab fQ ai)) ai)))))))
noncomputable def mr:SM:=(aE (sIf (cB (ah eqX (ac 1) (mC (.int 1)))) (bG 3 (mC .non)) fg) (aE (aN 3 (ay dn (ab (ac 0) (ab (ac 1) (ab (ac 2) ai))))) (aE (aN 4 (aG ph (ab (ac 3) ai))) (aE (aN 5 (aG rV (ab dB ai))) (aE (cM bR cw) (bG 3 (ac 5)))))))
noncomputable def b6:Fn:=fnM [false,false,false] 9 mr
theorem sc_longest_row:FnScope ["turns","many","way","onward","length","row","i","j","left"] ["turns","many","way"] (al dG):=⟨rfl,rfl,rfl,by decide +kernel,rfl,by decide +kernel,by decide +kernel⟩
theorem kF (B:Bl mg) (D:Def K mg "longest_row" dG) (C_onward_table:aR P w K mg base "onward_table" 1 ["turns","many","way"] dn):aR P w K mg base "longest_row" 2 ["turns","many","way"] b6 :=
 bf (k:=1) D sc_longest_row rfl rfl (hb3 fun _ _ _ _ _ _ _ _ _=>rfl) fun cdv A outer s H E f G hr hp =>
  (af (d8 (bO (dY hr.units) dZ (rvl 1) ag (bd _)) (ak (aO 3 (fun i hi=>by rw [hp];exact aF (by simpa using hi)) qt)) bN) (af (aq 3 sc_longest_row.nd rfl (Or.inr rfl) (au C_onward_table (hr.mono (by decide)) (aa (rvc 0) (aa (rvl 1) (aa (rvc 2) ad rfl) rfl) rfl) rfl (by decide) rfl rfl) rfl (Or.inl rfl) (by rw [hp];rfl)) (af (aq 4 sc_longest_row.nd rfl (Or.inr rfl) (yx rfl rfl B.max (rvc 3) rfl rfl rfl rfl) rfl (Or.inl rfl) (by rw [hp];rfl)) (af (aq 5 sc_longest_row.nd rfl (Or.inl rfl) (aJ (uE rfl hr.hu) zJ rfl B.min sJ (aa (b8 ["pair","length","onward"] [none,some 4,some 3] rfl (yw (rvc 3)) (fun s H C fp=>(gP (bO (dY hr.units) dZ (aM (aB hr.hu) aA (rvc 2) (rvl 0) (fun _ _=>rfl)) (rvc 1) (bd _)))) (fun s H C fp=>(rvl 0)) (by rfl) (cz (by decide)) (fun _=>rfl) ⟨_,aW rfl,fun s H C fp=>bj (i:=0) (show (["pair","length","onward"]:List Str).Nodup by decide +kernel) rfl (Or.inl rfl) (Or.inr rfl)⟩) ad rfl) (by decide) (by decide) rfl rfl) rfl (Or.inl rfl) (by rw [hp];rfl)) (af (gO PassesOwn.never (bO vW wa (aJ aK dm rfl B.len fA (aa (rvl 5) ad rfl) (by decide) (by decide) rfl rfl) (rvc 4) (bd _)) (af (aq 6 sc_longest_row.nd rfl (Or.inr rfl) (aM (aB hr.hu) aA (rvl 5) (jm gc ge ag) (fun _ _=>rfl)) rfl (Or.inl rfl) (by rw [hp];rfl)) (af (aq 7 sc_longest_row.nd rfl (Or.inr rfl) (aM (aB hr.hu) aA (rvl 5) (jm gc ge ag) (fun _ _=>rfl)) rfl (Or.inl rfl) (by rw [hp];rfl)) (af (aq 8 sc_longest_row.nd rfl (Or.inr rfl) (ao aC aH (ao eP c7 (rvc 4) (aJ aK dm rfl B.len fA (aa (rvl 5) ad rfl) (by decide) (by decide) rfl rfl)) ag) rfl (Or.inl rfl) (by rw [hp];rfl)) (ak (aq 5 sc_longest_row.nd rfl (Or.inl rfl) (ao aC aH (rvl 5) (aZ (aa (aJ (uH rfl) zL rfl B.min sJ (aa (b8 ["k","way","left","turns","onward","i","j"] [none,some 2,some 8,some 0,some 3,some 6,some 7] rfl (dJ rfl B.range (aa (ao aC aH (rvc 7) ag) (aa (rvl 1) ad rfl) rfl) rfl rfl) (fun s H C fp=>(gP (vy (vq (bO (dY hr.units) dZ (aM (aB hr.hu) aA (rvc 3) (aZ (aa (rvc 5) (aa (rvc 6) (aa (rvl 0) ad rfl) rfl) rfl)) (fun _ _=>rfl)) (rvc 1) (bd _)) (rE (bO (dY hr.units) dZ (aM (aB hr.hu) aA (rvc 4) (aZ (aa (rvc 6) (aa (rvl 0) ad rfl) rfl)) (fun _ _=>rfl)) (rvc 2) (bd _))))))) (fun s H C fp=>(rvl 0)) (by rfl) (cz (by decide)) (fun _=>rfl) ⟨_,aW rfl,fun s H C fp=>bj (i:=0) (show (["k","way","left","turns","onward","i","j"]:List Str).Nodup by decide +kernel) rfl (Or.inl rfl) (Or.inr rfl)⟩) ad rfl) (by decide) (by decide) rfl rfl) ad rfl))) rfl (Or.inl rfl) (by rw [hp];rfl))))))) (ak (aO 3 (fun i hi=>by rw [hp];exact aF (by simpa using hi)) (rvl 5))))))))
noncomputable def tZ:SM:=(bG 1 (pq (ay dF (ab (ac 0) ai)) (mOr (ah eqX (ac 0) (mC (.int (1)))) (ah eqX (ac 0) (mC (.int (-1)))))))
noncomputable def iF:Fn:=fnM [false] 1 tZ
theorem qg:FnScope ["thing"] ["thing"] (al ir):=⟨rfl,rfl,rfl,by decide +kernel,rfl,by decide +kernel,by decide +kernel⟩
theorem pV (B:Bl mg) (D:Def K mg "is_sign" ir) (C_is_whole:aR P w K mg base "is_whole" 1 ["thing"] dF) {tk_DOWN:Tok} (Q_DOWN:mg "DOWN"=some (.int (-1) tk_DOWN)) {tk_UP:Tok} (Q_UP:mg "UP"=some (.int (1) tk_UP)):aR P w K mg base "is_sign" 2 ["thing"] iF :=
 bf (k:=1) D qg rfl rfl (hb1 fun _ _ _ _ _ _ _=>rfl) fun cdv A outer s H E f G hr hp =>
  (ak (aO 1 (fun i hi=>by rw [hp];exact aF (by simpa using hi)) (nD (au C_is_whole (hr.mono (by decide)) (aa (rvl 0) ad rfl) rfl (by decide) rfl rfl) (lu (re_or (lx (dY hr.units) dZ (rvl 0) (jp rfl Q_UP (by decide)) (bd _)) (lu (lx (dY hr.units) dZ (rvl 0) (jp rfl Q_DOWN (by decide)) (bd _))))))))
noncomputable def jS:SM:=(bG 2 (pp (ab (ay dX (ab (ac 0) ai)) (ab (ac 1) ai))))
noncomputable def bu:Fn:=fnM [false,false] 2 jS
theorem jc:FnScope ["many","signs"] ["many","signs"] (al cr):=⟨rfl,rfl,rfl,by decide +kernel,rfl,by decide +kernel,by decide +kernel⟩
theorem i6 (B:Bl mg) (D:Def K mg "turns_by_signs" cr) (C_threes:aR P w K mg base "threes" 1 ["many"] dX):aR P w K mg base "turns_by_signs" 2 ["many","signs"] bu :=
 bf (k:=1) D jc rfl rfl (hb2 fun _ _ _ _ _ _ _ _=>rfl) fun cdv A outer s H E f G hr hp =>
  (ak (aO 2 (fun i hi=>by rw [hp];exact aF (by simpa using hi)) (nC rfl hr.units rfl B.dict rfl B.zip (aa (au C_threes (hr.mono (by decide)) (aa (rvl 0) ad rfl) rfl (by decide) rfl rfl) (aa (rvl 1) ad rfl) rfl) rfl rfl rfl)))
noncomputable def aI:M3 Bool:=(cB (ah neX (ah aw (ac 1) (ac 0)) (ah aw (ac 1) (ah bg (ac 0) (mC (.int 1))))))
noncomputable def a9:EM:=(ac 0)
noncomputable def cA:EM:=(bZ (aT cV (ab (mC (.int 3)) ai)) (am 0) aI a9 [none,some 6])
noncomputable def dw:SM:=(aE (aN 2 (ah aw (ac 1) (mC (.int 0)))) (aE (aN 3 (ah aw (ac 1) (mC (.int 1)))) (aE (aN 4 (ah aw (ac 1) (mC (.int 2)))) (aE (aN 5 (ah aw (ac 1) (mC (.int 3)))) (aE (aN 6 (fW (ab (ah aw (ac 0) (bI (ab (ac 2) (ab (ac 3) (ab (ac 4) ai))))) (ab (ah aw (ac 0) (bI (ab (ac 2) (ab (ac 3) (ab (ac 5) ai))))) (ab (ah aw (ac 0) (bI (ab (ac 2) (ab (ac 4) (ab (ac 5) ai))))) (ab (ah aw (ac 0) (bI (ab (ac 3) (ab (ac 4) (ab (ac 5) ai))))) ai)))))) (bG 2 (ah leI (aG fH (ab cA ai)) (mC (.int 1)))))))))
noncomputable def bE:Fn:=fnM [false,false] 7 dw
theorem sc_change_once_at_most:FnScope ["turns","four","h","i","j","k","row"] ["turns","four"] (al bC):=⟨rfl,rfl,rfl,by decide +kernel,rfl,by decide +kernel,by decide +kernel⟩
theorem fZ (B:Bl mg) (D:Def K mg "change_once_at_most" bC):aR P w K mg base "change_once_at_most" 1 ["turns","four"] bE :=
 bf (k:=0) D sc_change_once_at_most rfl rfl (hb2 fun _ _ _ _ _ _ _ _=>rfl) fun cdv A outer s H E f G hr hp =>
  (af (aq 2 sc_change_once_at_most.nd rfl (Or.inl rfl) (aM (aB hr.hu) aA (rvl 1) ag (fun _ _=>rfl)) rfl (Or.inl rfl) (by rw [hp];rfl)) (af (aq 3 sc_change_once_at_most.nd rfl (Or.inl rfl) (aM (aB hr.hu) aA (rvl 1) ag (fun _ _=>rfl)) rfl (Or.inl rfl) (by rw [hp];rfl)) (af (aq 4 sc_change_once_at_most.nd rfl (Or.inl rfl) (aM (aB hr.hu) aA (rvl 1) ag (fun _ _=>rfl)) rfl (Or.inl rfl) (by rw [hp];rfl)) (af (aq 5 sc_change_once_at_most.nd rfl (Or.inl rfl) (aM (aB hr.hu) aA (rvl 1) ag (fun _ _=>rfl)) rfl (Or.inl rfl) (by rw [hp];rfl)) (af (aq 6 sc_change_once_at_most.nd rfl (Or.inr rfl) (cO (aa (aM (aB hr.hu) aA (rvl 0) (aZ (aa (rvl 2) (aa (rvl 3) (aa (rvl 4) ad rfl) rfl) rfl)) (fun _ _=>rfl)) (aa (aM (aB hr.hu) aA (rvl 0) (aZ (aa (rvl 2) (aa (rvl 3) (aa (rvl 5) ad rfl) rfl) rfl)) (fun _ _=>rfl)) (aa (aM (aB hr.hu) aA (rvl 0) (aZ (aa (rvl 2) (aa (rvl 4) (aa (rvl 5) ad rfl) rfl) rfl)) (fun _ _=>rfl)) (aa (aM (aB hr.hu) aA (rvl 0) (aZ (aa (rvl 3) (aa (rvl 4) (aa (rvl 5) ad rfl) rfl) rfl)) (fun _ _=>rfl)) ad rfl) rfl) rfl) rfl)) rfl (Or.inl rfl) (by rw [hp];rfl)) (ak (aO 2 (fun i hi=>by rw [hp];exact aF (by simpa using hi)) (lx vX wb (aJ aK dm rfl B.len fA (aa (b8 ["at","row"] [none,some 6] rfl (cF rfl B.range (aa ag ad rfl) rfl) (fun s H C fp=>(gP (bO (jM hr.units) jO (aM (aB hr.hu) aA (rvc 1) (rvl 0) (fun _ _=>rfl)) (aM (aB hr.hu) aA (rvc 1) (ao aC aH (rvl 0) ag) (fun _ _=>rfl)) (bd _)))) (fun s H C fp=>(rvl 0)) (by rfl) (cz (by decide)) (fun _=>rfl) ⟨_,aW rfl,fun s H C fp=>bj (i:=0) (show (["at","row"]:List Str).Nodup by decide +kernel) rfl (Or.inl rfl) (Or.inr rfl)⟩) ad rfl) (by decide) (by decide) rfl rfl) ag (bd _)))))))))
noncomputable def df:EM:=(ay iF (ab (ac 0) ai))
noncomputable def fu:EM:=(bZ (cT (ac 1)) (am 0) dW df [none])
noncomputable def de:EM:=(ay bE (ab (ac 1) (ab (ac 0) ai)))
noncomputable def ft:EM:=(bZ (cT (ay k4 (ab (ac 0) ai))) (am 0) dW de [none,some 2])
noncomputable def hJ:SM:=(aE (sIf (cOr (i7 (cB (mUn (qQ "tuple") (ac 1)))) (i7 (cB (aG uU (ab fu ai))))) (bG 2 (mC (.bl false))) fg) (aE (sIf (cB (ah neX (aG fH (ab (ac 1) ai)) (aG fH (ab (ay dX (ab (ac 0) ai)) ai)))) (bG 2 (mC (.bl false))) fg) (aE (aN 2 (ay bu (ab (ac 0) (ab (ac 1) ai)))) (bG 2 (aG uU (ab ft ai))))))
noncomputable def du:Fn:=fnM [false,false] 3 hJ
theorem sc_are_signs_of:FnScope ["many","thing","turns"] ["many","thing"] (al cZ):=⟨rfl,rfl,rfl,by decide +kernel,rfl,by decide +kernel,by decide +kernel⟩
theorem j9 (B:Bl mg) (D:Def K mg "are_signs_of" cZ) (C_change_once_at_most:aR P w K mg base "change_once_at_most" 1 ["turns","four"] bE) (C_fours:aR P w K mg base "fours" 2 ["many"] k4) (C_is_sign:aR P w K mg base "is_sign" 2 ["thing"] iF) (C_threes:aR P w K mg base "threes" 1 ["many"] dX) (C_turns_by_signs:aR P w K mg base "turns_by_signs" 2 ["many","signs"] bu):aR P w K mg base "are_signs_of" 3 ["many","thing"] du :=
 bf (k:=2) D sc_are_signs_of rfl rfl (hb2 fun _ _ _ _ _ _ _ _=>rfl) fun cdv A outer s H E f G hr hp =>
  (af (d8 (vy (vp (fD (fB (jL ig rfl B.isinstance (iw (v:=V.ty "tuple") rfl B.tuple jG rfl (by decide) (by decide)) (rvl 1) rfl rfl rfl) (fun _=>rfl))) (qi (fD (fB (aJ (jE rfl) n9 rfl B.all sK (aa (b8 ["sign"] [none] rfl (eO (rvl 1)) (fun s H C fp=>ci) (fun s H C fp=>(au C_is_sign (hr.mono (by decide)) (aa (rvl 0) ad rfl) rfl (by decide) rfl rfl)) (by rfl) (cz (by decide)) (fun _=>rfl) ⟨_,aW rfl,fun s H C fp=>bj (i:=0) (show (["sign"]:List Str).Nodup by decide +kernel) rfl (Or.inl rfl) (Or.inr rfl)⟩) ad rfl) (by decide) (by decide) rfl rfl) (fun _=>rfl)))))) (ak (aO 2 (fun i hi=>by rw [hp];exact aF (by simpa using hi)) gQ)) bN) (af (d8 (bO (jM hr.units) jO (aJ aK dm rfl B.len fA (aa (rvl 1) ad rfl) (by decide) (by decide) rfl rfl) (aJ aK dm rfl B.len fA (aa (au C_threes (hr.mono (by decide)) (aa (rvl 0) ad rfl) rfl (by decide) rfl rfl) ad rfl) (by decide) (by decide) rfl rfl) (bd _)) (ak (aO 2 (fun i hi=>by rw [hp];exact aF (by simpa using hi)) gQ)) bN) (af (aq 2 sc_are_signs_of.nd rfl (Or.inr rfl) (au C_turns_by_signs (hr.mono (by decide)) (aa (rvl 0) (aa (rvl 1) ad rfl) rfl) rfl (by decide) rfl rfl) rfl (Or.inl rfl) (by rw [hp];rfl)) (ak (aO 2 (fun i hi=>by rw [hp];exact aF (by simpa using hi)) (aJ (jE rfl) n9 rfl B.all sK (aa (b8 ["four","turns"] [none,some 2] rfl (eO (au C_fours (hr.mono (by decide)) (aa (rvl 0) ad rfl) rfl (by decide) rfl rfl)) (fun s H C fp=>ci) (fun s H C fp=>(au C_change_once_at_most (hr.mono (by decide)) (aa (rvc 1) (aa (rvl 0) ad rfl) rfl) rfl (by decide) rfl rfl)) (by rfl) (cz (by decide)) (fun _=>rfl) ⟨_,aW rfl,fun s H C fp=>bj (i:=0) (show (["four","turns"]:List Str).Nodup by decide +kernel) rfl (Or.inl rfl) (Or.inr rfl)⟩) ad rfl) (by decide) (by decide) rfl rfl))))))
noncomputable def iO:SM:=(aE (gN (ay dq (ab (ac 0) (ab (mC (.int 1)) (ab (ac 1) ai))))) (sIf (i7 (cB (ay du (ab (ac 0) (ab (ac 2) ai))))) qh fg))
noncomputable def dM:Fn:=fnM [false,false,false] 3 iO
theorem ld:FnScope ["many","most","signs"] ["many","most","signs"] (al dI):=⟨rfl,rfl,rfl,by decide +kernel,rfl,by decide +kernel,by decide +kernel⟩
theorem kH (B:Bl mg) (D:Def K mg "check_signs" dI) (C_are_signs_of:aR P w K mg base "are_signs_of" 3 ["many","thing"] du) (C_check_number:aR P w K mg base "check_number" 2 ["thing","least","most"] dq):aR P w K mg base "check_signs" 4 ["many","most","signs"] dM :=
 bf (k:=3) D ld rfl rfl (hb3 fun _ _ _ _ _ _ _ _ _=>rfl) fun cdv A outer s H E f G hr hp =>
  (af (gh (au C_check_number (hr.mono (by decide)) (aa (rvl 0) (aa ag (aa (rvl 1) ad rfl) rfl) rfl) rfl (by decide) rfl rfl) rfl) (ak (d8 (fD (fB (au C_are_signs_of (hr.mono (by decide)) (aa (rvl 0) (aa (rvl 2) ad rfl) rfl) rfl (by decide) rfl rfl) (fun _=>rfl))) (ak oQ) bN)))
noncomputable def gZ:SM:=(aE (gN (ay dM (ab (ac 0) (ab (mC (.int (24))) (ab (ac 1) ai))))) (bG 2 (ay b6 (ab (ay bu (ab (ac 0) (ab (ac 1) ai))) (ab (ac 0) (ab (mC (.int (1))) ai))))))
noncomputable def bB:Fn:=fnM [false,false] 2 gZ
theorem kz:FnScope ["many","signs"] ["many","signs"] (al cX):=⟨rfl,rfl,rfl,by decide +kernel,rfl,by decide +kernel,by decide +kernel⟩
theorem j7 (B:Bl mg) (D:Def K mg "cup_by_signs" cX) (C_check_signs:aR P w K mg base "check_signs" 4 ["many","most","signs"] dM) (C_longest_row:aR P w K mg base "longest_row" 2 ["turns","many","way"] b6) (C_turns_by_signs:aR P w K mg base "turns_by_signs" 2 ["many","signs"] bu) {tk_MOST_POINTS:Tok} (Q_MOST_POINTS:mg "MOST_POINTS"=some (.int (24) tk_MOST_POINTS)) {tk_UP:Tok} (Q_UP:mg "UP"=some (.int (1) tk_UP)):aR P w K mg base "cup_by_signs" 5 ["many","signs"] bB :=
 bf (k:=4) D kz rfl rfl (hb2 fun _ _ _ _ _ _ _ _=>rfl) fun cdv A outer s H E f G hr hp =>
  (af (gh (au C_check_signs (hr.mono (by decide)) (aa (rvl 0) (aa (jp rfl Q_MOST_POINTS (by decide)) (aa (rvl 1) ad rfl) rfl) rfl) rfl (by decide) rfl rfl) rfl) (ak (aO 2 (fun i hi=>by rw [hp];exact aF (by simpa using hi)) (au C_longest_row (hr.mono (by decide)) (aa (au C_turns_by_signs (hr.mono (by decide)) (aa (rvl 0) (aa (rvl 1) ad rfl) rfl) rfl (by decide) rfl rfl) (aa (rvl 0) (aa (jp rfl Q_UP (by decide)) ad rfl) rfl) rfl) rfl (by decide) rfl rfl))))
noncomputable def gv:SM:=(aE (aN 5 (ah pd (ah bg (ah bg (ah gj (ah pd (ac 2) (mC (.int 2147483647))) (mC (.int 48271))) (ah gj (mC (.int 7919)) (ac 4))) (mC (.int 1))) (mC (.int 2147483647)))) (aE (aN 5 (ah pd (ah gj (ac 5) (ac 5)) (mC (.int 2147483629)))) (aN 3 (ah bg (ah gj (ac 3) (mC (.int 2147483647))) (ah pd (ah gj (ac 5) (ah bg (ac 5) (mC (.int 13)))) (mC (.int 2147483647)))))))
noncomputable def zp:SM:=(aE (aN 2 (ah bg (ah gj (mC (.int 7919)) (ac 1)) (mC (.int 13)))) (aE (sIf (cB (ah ltI (ac 1) (aG fH (ab (ac 0) ai)))) (aN 2 (ah aw (ac 0) (ac 1))) fg) (aE (sIf (cB (ah eqX (ah pd (ac 2) (mC (.int 2))) (mC (.int 0)))) (bG 2 (fW (ab (ah BU (ac 2) (mC (.int 2))) ai))) fg) (aE (aN 3 (mC (.int 0))) (aE (cN (aT cV (ab (mC (.int 16)) ai)) (am 4) gv) (bG 2 (fW (ab (ac 3) ai))))))))
noncomputable def kZ:Fn:=fnM [false,false] 6 zp
theorem sc_l_box:FnScope ["_law_script","_law_k","_law_here","_law_number","_law_j","_law_part"] ["_law_script","_law_k"] (al kM):=⟨rfl,rfl,rfl,by decide +kernel,rfl,by decide +kernel,by decide +kernel⟩
theorem uN (B:Bl mg) (D:Def K mg "_law_box" kM):aR P w K mg base "_law_box" 1 ["_law_script","_law_k"] kZ :=
 bf (k:=0) D sc_l_box rfl rfl (hb2 fun _ _ _ _ _ _ _ _=>rfl) fun cdv A outer s H E f G hr hp =>
  (af (aq 2 sc_l_box.nd rfl (Or.inl rfl) (ao aC aH (ao cP bV ag (rvl 1)) ag) rfl (Or.inl rfl) (by rw [hp];rfl)) (af (d8 (bO vW wa (rvl 1) (aJ aK dm rfl B.len fA (aa (rvl 0) ad rfl) (by decide) (by decide) rfl rfl) (bd _)) (ak (aq 2 sc_l_box.nd rfl (Or.inl rfl) (aM (aB hr.hu) aA (rvl 0) (rvl 1) (fun _ _=>rfl)) rfl (Or.inl rfl) (by rw [hp];rfl))) bN) (af (d8 (bO (dY hr.units) dZ (ao jN iy (rvl 2) ag) ag (bd _)) (ak (aO 2 (fun i hi=>by rw [hp];exact aF (by simpa using hi)) (cO (aa (ao vY y8 (rvl 2) ag) ad rfl)))) bN) (af (aq 3 sc_l_box.nd rfl (Or.inl rfl) ag rfl (Or.inl rfl) (by rw [hp];rfl)) (af (bU PassesOwn.never rfl (cF rfl B.range (aa ag ad rfl) rfl) (aQ 4 sc_l_box.nd rfl (Or.inl rfl) (Or.inl rfl) (by rw [hp];rfl)) (af (aq 5 sc_l_box.nd rfl (Or.inl rfl) (ao jN iy (ao aC aH (ao aC aH (ao cP bV (ao jN iy (rvl 2) ag) ag) (ao cP bV ag (rvl 4))) ag) ag) rfl (Or.inl rfl) (by rw [hp];rfl)) (af (aq 5 sc_l_box.nd rfl (Or.inl rfl) (ao jN iy (ao cP bV (rvl 5) (rvl 5)) ag) rfl (Or.inl rfl) (by rw [hp];rfl)) (ak (aq 3 sc_l_box.nd rfl (Or.inl rfl) (ao aC aH (ao cP bV (rvl 3) ag) (ao jN iy (ao cP bV (rvl 5) (ao aC aH (rvl 5) ag)) ag)) rfl (Or.inl rfl) (by rw [hp];rfl))))) (fun _=>rfl)) (ak (aO 2 (fun i hi=>by rw [hp];exact aF (by simpa using hi)) (cO (aa (rvl 3) ad rfl)))))))))
noncomputable def wu:SM:=(aE (vo (kI 2 (bT (am 2) (bT (am 3) kJ))) (aG wZ (ab (ah aw (ac 0) (mC (.int 0))) (ab (ac 1) ai)))) (aE (sZ x4 0 (mC (.int 0)) (ac 2)) (bG 2 (ac 3))))
noncomputable def aY:Fn:=fnM [false,false] 4 wu
theorem sc_l_take:FnScope ["_law_box_here","_law_many","_law_left","_law_digit"] ["_law_box_here","_law_many"] (al je):=⟨rfl,rfl,rfl,by decide +kernel,rfl,by decide +kernel,by decide +kernel⟩
theorem re (B:Bl mg) (D:Def K mg "_law_take" je):aR P w K mg base "_law_take" 1 ["_law_box_here","_law_many"] aY :=
 bf (k:=0) D sc_l_take rfl rfl (hb2 fun _ _ _ _ _ _ _ _=>rfl) fun cdv A outer s H E f G hr hp =>
  (af (A2 (qr rfl (dN (aQ 2 sc_l_take.nd rfl (Or.inl rfl) (Or.inl rfl) (by rw [hp];rfl)) (dN (aQ 3 sc_l_take.nd rfl (Or.inl rfl) (Or.inl rfl) (by rw [hp];rfl)) nB rfl) rfl) rfl rfl) (aJ pP uy rfl B.divmod xp (aa (aM (aB hr.hu) aA (rvl 0) ag (fun _ _=>rfl)) (aa (rvl 1) ad rfl) rfl) (by decide) (by decide) rfl rfl) rfl rfl rfl) (af (vA (i:=0) (rD hr.hu) wo (gT rfl (Or.inl rfl) (by decide) (by decide)) ag (rvl 2) (fun _=>rfl) rfl rfl rfl) (ak (aO 2 (fun i hi=>by rw [hp];exact aF (by simpa using hi)) (rvl 3)))))
noncomputable def tW:SM:=(bG 1 (pq (mUn (qQ "int") (ac 0)) (zu (mUn (qQ "bool") (ac 0)))))
noncomputable def eL:Fn:=fnM [false] 1 tW
theorem qf:FnScope ["_law_thing"] ["_law_thing"] (al il):=⟨rfl,rfl,rfl,by decide +kernel,rfl,by decide +kernel,by decide +kernel⟩
theorem pQ (B:Bl mg) (D:Def K mg "_law_whole" il):aR P w K mg base "_law_whole" 1 ["_law_thing"] eL :=
 bf (k:=0) D qf rfl rfl (hb1 fun _ _ _ _ _ _ _=>rfl) fun cdv A outer s H E f G hr hp =>
  (ak (aO 1 (fun i hi=>by rw [hp];exact aF (by simpa using hi)) (nD (jL jD rfl B.isinstance (iw (v:=V.ty "int") rfl B.int xo rfl (by decide) (by decide)) (rvl 0) rfl rfl rfl) (lu (vE (jL iS rfl B.isinstance (iw (v:=V.ty "bool") rfl B.bool xq rfl (by decide) (by decide)) (rvl 0) rfl rfl rfl))))))
noncomputable def ww:SM:=(aE (aN 3 (ah gj (ah ky (ah aw (ac 1) (mC (.int 0))) (ah aw (ac 0) (mC (.int 0)))) (ah ky (ah aw (ac 2) (mC (.int 1))) (ah aw (ac 0) (mC (.int 1)))))) (bG 3 (ah ky (ac 3) (ah gj (ah ky (ah aw (ac 1) (mC (.int 1))) (ah aw (ac 0) (mC (.int 1)))) (ah ky (ah aw (ac 2) (mC (.int 0))) (ah aw (ac 0) (mC (.int 0))))))))
noncomputable def fe:Fn:=fnM [false,false,false] 4 ww
theorem sc_l_bend:FnScope ["_law_one","_law_two","_law_three","_law_across"] ["_law_one","_law_two","_law_three"] (al jg):=⟨rfl,rfl,rfl,by decide +kernel,rfl,by decide +kernel,by decide +kernel⟩
theorem rg (B:Bl mg) (D:Def K mg "_law_bend" jg):aR P w K mg base "_law_bend" 1 ["_law_one","_law_two","_law_three"] fe :=
 bf (k:=0) D sc_l_bend rfl rfl (hb3 fun _ _ _ _ _ _ _ _ _=>rfl) fun cdv A outer s H E f G hr hp =>
  (af (aq 3 sc_l_bend.nd rfl (Or.inl rfl) (ao cP bV (ao eP c7 (aM (aB hr.hu) aA (rvl 1) ag (fun _ _=>rfl)) (aM (aB hr.hu) aA (rvl 0) ag (fun _ _=>rfl))) (ao eP c7 (aM (aB hr.hu) aA (rvl 2) ag (fun _ _=>rfl)) (aM (aB hr.hu) aA (rvl 0) ag (fun _ _=>rfl)))) rfl (Or.inl rfl) (by rw [hp];rfl)) (ak (aO 3 (fun i hi=>by rw [hp];exact aF (by simpa using hi)) (ao eP c7 (rvl 3) (ao cP bV (ao eP c7 (aM (aB hr.hu) aA (rvl 1) ag (fun _ _=>rfl)) (aM (aB hr.hu) aA (rvl 0) ag (fun _ _=>rfl))) (ao eP c7 (aM (aB hr.hu) aA (rvl 2) ag (fun _ _=>rfl)) (aM (aB hr.hu) aA (rvl 0) ag (fun _ _=>rfl))))))))
noncomputable def fq:SM:=(sIf (cB (ah eqX (ay fe (ab (ah aw (ac 0) (ac 3)) (ab (ah aw (ac 0) (ac 2)) (ab (ac 1) ai)))) (mC (.int 0)))) (bG 2 (mC (.bl false))) fg)
noncomputable def cj:SM:=(cN (aT cV (ab (ac 2) ai)) (am 3) fq)
noncomputable def po:SM:=(aE (cN (aT cV (ab (aG fH (ab (ac 0) ai)) ai)) (am 2) cj) (bG 2 (mC (.bl true))))
noncomputable def fc:Fn:=fnM [false,false] 4 po
theorem sc_l_free:FnScope ["_law_found","_law_point","_law_k","_law_j"] ["_law_found","_law_point"] (al jf):=⟨rfl,rfl,rfl,by decide +kernel,rfl,by decide +kernel,by decide +kernel⟩
theorem rf (B:Bl mg) (D:Def K mg "_law_free" jf) (C__law_bend:aR P w K mg base "_law_bend" 1 ["_law_one","_law_two","_law_three"] fe):aR P w K mg base "_law_free" 2 ["_law_found","_law_point"] fc :=
 bf (k:=1) D sc_l_free rfl rfl (hb2 fun _ _ _ _ _ _ _ _=>rfl) fun cdv A outer s H E f G hr hp =>
  (af (bU PassesOwn.never rfl (cF rfl B.range (aa (aJ aK dm rfl B.len fA (aa (rvl 0) ad rfl) (by decide) (by decide) rfl rfl) ad rfl) rfl) (aQ 2 sc_l_free.nd rfl (Or.inl rfl) (Or.inl rfl) (by rw [hp];rfl)) (ak (bU PassesOwn.never rfl (cF rfl B.range (aa (rvl 2) ad rfl) rfl) (aQ 3 sc_l_free.nd rfl (Or.inl rfl) (Or.inl rfl) (by rw [hp];rfl)) (ak (d8 (bO (dY hr.units) dZ (au C__law_bend (hr.mono (by decide)) (aa (aM (aB hr.hu) aA (rvl 0) (rvl 3) (fun _ _=>rfl)) (aa (aM (aB hr.hu) aA (rvl 0) (rvl 2) (fun _ _=>rfl)) (aa (rvl 1) ad rfl) rfl) rfl) rfl (by decide) rfl rfl) ag (bd _)) (ak (aO 2 (fun i hi=>by rw [hp];exact aF (by simpa using hi)) gQ)) bN)) (fun _=>rfl))) (fun _=>rfl)) (ak (aO 2 (fun i hi=>by rw [hp];exact aF (by simpa using hi)) gQ)))
noncomputable def c9:M3 Bool:=(i7 (cB (ay fc (ab (ac 5) (ab (bI (ab (ac 4) (ab (ac 8) ai))) ai)))))
noncomputable def eF:SM:=(aN 8 (ah bg (ac 8) (mC (.int 1))))
noncomputable def eE:SM:=(aE (aN 4 (ah bg (ah bg (ac 4) (mC (.int 1))) (ay aY (ab (ac 0) (ab (mC (.int 3)) ai))))) (aE (aN 7 (ah aw (fW (ab (ah gj (ac 4) (ac 4)) (ab (ah ky (mC (.int 0)) (ah gj (ac 4) (ac 4))) ai))) (ah pd (ac 6) (mC (.int 2))))) (aE (aN 8 (ah aw (fW (ab (ay aY (ab (ac 0) (ab (mC (.int 40)) ai))) (ab (ah gj (ac 4) (ac 4)) (ab (ah ky (mC (.int 9)) (ah gj (ac 4) (ac 4))) (ab (ac 7) (ab (ay aY (ab (ac 0) (ab (mC (.int 6)) ai))) ai)))))) (ac 3))) (aE (cM c9 eF) (gN (nQ isL uS 5 (ab (bI (ab (ac 4) (ab (ac 8) ai))) ai)))))))
noncomputable def gm:EM:=(bI (ab (ah gj (ac 0) (ah vQ (mC (.int 10)) (mC (.int 12)))) (ab (ah bg (ah gj (ac 1) (ah vQ (mC (.int 10)) (mC (.int 15)))) (mC (.int 7))) ai)))
noncomputable def eD:EM:=(bZ (cT (ac 5)) (kI 2 (bT (am 0) (bT (am 1) kJ))) dW gm [none,none])
noncomputable def mU:SM:=(aE (aN 2 (ah bg (mC (.int 1)) (ay aY (ab (ac 0) (ab (ac 1) ai))))) (aE (aN 3 (ay aY (ab (ac 0) (ab (mC (.int 5)) ai)))) (aE (aN 4 (ah ky (mC (.int 0)) (ay aY (ab (ac 0) (ab (mC (.int 9)) ai))))) (aE (aN 5 (fW ai)) (aE (cN (aT cV (ab (ac 2) ai)) (am 6) eE) (aE (sIf (cB (ah eqX (ay aY (ab (ac 0) (ab (mC (.int 6)) ai))) (mC (.int 5)))) (aN 5 eD) fg) (bG 2 (aG sT (ab (ac 5) ai)))))))))
noncomputable def iD:Fn:=fnM [false,false] 9 mU
theorem sc_l_sheet:FnScope ["_law_box_here","_law_most","_law_many","_law_kind","_law_x","_law_found","_law_k","_law_bent","_law_y"] ["_law_box_here","_law_most"] (al ip):=⟨rfl,rfl,rfl,by decide +kernel,rfl,by decide +kernel,by decide +kernel⟩
theorem pS (B:Bl mg) (D:Def K mg "_law_sheet" ip) (C__law_free:aR P w K mg base "_law_free" 2 ["_law_found","_law_point"] fc) (C__law_take:aR P w K mg base "_law_take" 1 ["_law_box_here","_law_many"] aY):aR P w K mg base "_law_sheet" 3 ["_law_box_here","_law_most"] iD :=
 bf (k:=2) D sc_l_sheet rfl rfl (hb2 fun _ _ _ _ _ _ _ _=>rfl) fun cdv A outer s H E f G hr hp =>
  (af (aq 2 sc_l_sheet.nd rfl (Or.inl rfl) (ao aC aH ag (au C__law_take (hr.mono (by decide)) (aa (rvl 0) (aa (rvl 1) ad rfl) rfl) rfl (by decide) rfl rfl)) rfl (Or.inl rfl) (by rw [hp];rfl)) (af (aq 3 sc_l_sheet.nd rfl (Or.inl rfl) (au C__law_take (hr.mono (by decide)) (aa (rvl 0) (aa ag ad rfl) rfl) rfl (by decide) rfl rfl) rfl (Or.inl rfl) (by rw [hp];rfl)) (af (aq 4 sc_l_sheet.nd rfl (Or.inl rfl) (ao eP c7 ag (au C__law_take (hr.mono (by decide)) (aa (rvl 0) (aa ag ad rfl) rfl) rfl (by decide) rfl rfl)) rfl (Or.inl rfl) (by rw [hp];rfl)) (af (aq 5 sc_l_sheet.nd rfl (Or.inl rfl) (cO ad) rfl (Or.inl rfl) (by rw [hp];rfl)) (af (bU PassesOwn.never rfl (cF rfl B.range (aa (rvl 2) ad rfl) rfl) (aQ 6 sc_l_sheet.nd rfl (Or.inl rfl) (Or.inl rfl) (by rw [hp];rfl)) (af (aq 4 sc_l_sheet.nd rfl (Or.inl rfl) (ao aC aH (ao aC aH (rvl 4) ag) (au C__law_take (hr.mono (by decide)) (aa (rvl 0) (aa ag ad rfl) rfl) rfl (by decide) rfl rfl)) rfl (Or.inl rfl) (by rw [hp];rfl)) (af (aq 7 sc_l_sheet.nd rfl (Or.inl rfl) (aM (aB hr.hu) aA (cO (aa (ao cP bV (rvl 4) (rvl 4)) (aa (ao eP c7 ag (ao cP bV (rvl 4) (rvl 4))) ad rfl) rfl)) (ao jN iy (rvl 6) ag) (fun _ _=>rfl)) rfl (Or.inl rfl) (by rw [hp];rfl)) (af (aq 8 sc_l_sheet.nd rfl (Or.inl rfl) (aM (aB hr.hu) aA (cO (aa (au C__law_take (hr.mono (by decide)) (aa (rvl 0) (aa ag ad rfl) rfl) rfl (by decide) rfl rfl) (aa (ao cP bV (rvl 4) (rvl 4)) (aa (ao eP c7 ag (ao cP bV (rvl 4) (rvl 4))) (aa (rvl 7) (aa (au C__law_take (hr.mono (by decide)) (aa (rvl 0) (aa ag ad rfl) rfl) rfl (by decide) rfl rfl) ad rfl) rfl) rfl) rfl) rfl)) (rvl 3) (fun _ _=>rfl)) rfl (Or.inl rfl) (by rw [hp];rfl)) (af (gO PassesOwn.never (fD (fB (au C__law_free (hr.mono (by decide)) (aa (rvl 5) (aa (aZ (aa (rvl 4) (aa (rvl 8) ad rfl) rfl)) ad rfl) rfl) rfl (by decide) rfl rfl) (fun _=>rfl))) (ak (aq 8 sc_l_sheet.nd rfl (Or.inl rfl) (ao aC aH (rvl 8) ag) rfl (Or.inl rfl) (by rw [hp];rfl)))) (ak (gh (jo (ok:=isL) PySem.F.plainAttrs_list PySem.F.slot_list_append PySem.F.type_list_append jQ qG lU (gT (i:=5) rfl (Or.inl rfl) (by decide) (by decide)) (aa (aZ (aa (rvl 4) (aa (rvl 8) ad rfl) rfl)) ad rfl) rfl rfl rfl rfl rfl) rfl)))))) (fun _=>rfl)) (af (d8 (bO (dY hr.units) dZ (au C__law_take (hr.mono (by decide)) (aa (rvl 0) (aa ag ad rfl) rfl) rfl (by decide) rfl rfl) ag (bd _)) (ak (lh (i:=5) sc_l_sheet.nd rfl (Or.inl rfl) ["_law_x","_law_y"] [none,none] rfl (eO (rvl 5)) (fun s H C fp=>ci) (fun s H C fp=>(aZ (aa (ao cP bV (rvl 0) (ao vV rT ag ag)) (aa (ao aC aH (ao cP bV (rvl 1) (ao vV rT ag ag)) ag) ad rfl) rfl))) (by rfl) (cz (by decide)) rfl (Or.inl rfl) (fun _=>rfl) (by rw [hp];rfl) ⟨_,om (f9 (aW rfl) (f9 (aW rfl) l8)),fun s H C fp=>qA (n:=2) rfl (gS (bj (i:=0) (show (["_law_x","_law_y"]:List Str).Nodup by decide +kernel) rfl (Or.inl rfl) (Or.inr rfl)) (gS (bj (i:=1) (show (["_law_x","_law_y"]:List Str).Nodup by decide +kernel) rfl (Or.inl rfl) (Or.inr rfl)) nH rfl) rfl) rfl rfl⟩)) bN) (ak (aO 2 (fun i hi=>by rw [hp];exact aF (by simpa using hi)) (iu fJ qX rfl B.tuple jG (aa (rvl 5) ad rfl) (by decide) (by decide) rfl rfl)))))))))
noncomputable def fE:EM:=(bI (ab (ac 1) (ab (ac 2) (ab (ac 0) ai))))
noncomputable def iM:EM:=(bZ (aT dA (ab (ah bg (ac 3) (mC (.int 1))) (ab (ac 0) ai))) (am 0) dW fE [none,some 2,some 3])
noncomputable def fF:SM:=(aN 1 (ah bg (ac 1) iM))
noncomputable def iN:SM:=(cN (aT dA (ab (ah bg (ac 2) (mC (.int 1))) (ab (ac 0) ai))) (am 3) fF)
noncomputable def qJ:SM:=(aE (aN 1 (fW ai)) (aE (cN (aT cV (ab (ac 0) ai)) (am 2) iN) (bG 1 (ac 1))))
noncomputable def cq:Fn:=fnM [false] 4 qJ
theorem sc_l_threes:FnScope ["_law_many","_law_found","_law_i","_law_j"] ["_law_many"] (al gf):=⟨rfl,rfl,rfl,by decide +kernel,rfl,by decide +kernel,by decide +kernel⟩
theorem oh (B:Bl mg) (D:Def K mg "_law_threes" gf):aR P w K mg base "_law_threes" 1 ["_law_many"] cq :=
 bf (k:=0) D sc_l_threes rfl rfl (hb1 fun _ _ _ _ _ _ _=>rfl) fun cdv A outer s H E f G hr hp =>
  (af (aq 1 sc_l_threes.nd rfl (Or.inl rfl) (cO ad) rfl (Or.inl rfl) (by rw [hp];rfl)) (af (bU PassesOwn.never rfl (cF rfl B.range (aa (rvl 0) ad rfl) rfl) (aQ 2 sc_l_threes.nd rfl (Or.inr rfl) (Or.inl rfl) (by rw [hp];rfl)) (ak (bU PassesOwn.never rfl (dJ rfl B.range (aa (ao aC aH (rvc 2) ag) (aa (rvl 0) ad rfl) rfl) rfl rfl) (aQ 3 sc_l_threes.nd rfl (Or.inr rfl) (Or.inl rfl) (by rw [hp];rfl)) (ak (aq 1 sc_l_threes.nd rfl (Or.inl rfl) (ao aC aH (rvl 1) (b8 ["_law_k","_law_i","_law_j"] [none,some 2,some 3] rfl (dJ rfl B.range (aa (ao aC aH (rvc 3) ag) (aa (rvl 0) ad rfl) rfl) rfl rfl) (fun s H C fp=>ci) (fun s H C fp=>(aZ (aa (rvc 1) (aa (rvc 2) (aa (rvl 0) ad rfl) rfl) rfl))) (by rfl) (cz (by decide)) (fun _=>rfl) ⟨_,aW rfl,fun s H C fp=>bj (i:=0) (show (["_law_k","_law_i","_law_j"]:List Str).Nodup by decide +kernel) rfl (Or.inl rfl) (Or.inr rfl)⟩)) rfl (Or.inl rfl) (by rw [hp];rfl))) (fun _=>rfl))) (fun _=>rfl)) (ak (aO 1 (fun i hi=>by rw [hp];exact aF (by simpa using hi)) (rvl 1)))))
noncomputable def eC:SM:=(gN (nQ isL uS 1 (ab (ah aw (fW (ab (mUn kC (mC (.int 1))) (ab (mC (.int 1)) ai))) (aG Ak (ab (ah gtI (ay fe (ab (ah aw (ac 0) (ac 2)) (ab (ah aw (ac 0) (ac 3)) (ab (ah aw (ac 0) (ac 4)) ai)))) (mC (.int 0))) ai))) ai)))
noncomputable def tX:SM:=(aE (aN 1 (fW ai)) (aE (cN (cT (ay cq (ab (aG fH (ab (ac 0) ai)) ai))) (kI 3 (bT (am 2) (bT (am 3) (bT (am 4) kJ)))) eC) (bG 1 (aG sT (ab (ac 1) ai)))))
noncomputable def gb:Fn:=fnM [false] 5 tX
theorem sc_l_signs:FnScope ["_law_sheet_here","_law_found","_law_i","_law_j","_law_k"] ["_law_sheet_here"] (al io):=⟨rfl,rfl,rfl,by decide +kernel,rfl,by decide +kernel,by decide +kernel⟩
theorem pR (B:Bl mg) (D:Def K mg "_law_signs" io) (C__law_bend:aR P w K mg base "_law_bend" 1 ["_law_one","_law_two","_law_three"] fe) (C__law_threes:aR P w K mg base "_law_threes" 1 ["_law_many"] cq):aR P w K mg base "_law_signs" 2 ["_law_sheet_here"] gb :=
 bf (k:=1) D sc_l_signs rfl rfl (hb1 fun _ _ _ _ _ _ _=>rfl) fun cdv A outer s H E f G hr hp =>
  (af (aq 1 sc_l_signs.nd rfl (Or.inl rfl) (cO ad) rfl (Or.inl rfl) (by rw [hp];rfl)) (af (bU PassesOwn.never rfl (eO (au C__law_threes (hr.mono (by decide)) (aa (aJ aK dm rfl B.len fA (aa (rvl 0) ad rfl) (by decide) (by decide) rfl rfl) ad rfl) rfl (by decide) rfl rfl)) (qr rfl (dN (aQ 2 sc_l_signs.nd rfl (Or.inl rfl) (Or.inl rfl) (by rw [hp];rfl)) (dN (aQ 3 sc_l_signs.nd rfl (Or.inl rfl) (Or.inl rfl) (by rw [hp];rfl)) (dN (aQ 4 sc_l_signs.nd rfl (Or.inl rfl) (Or.inl rfl) (by rw [hp];rfl)) nB rfl) rfl) rfl) rfl rfl) (ak (gh (jo (ok:=isL) PySem.F.plainAttrs_list PySem.F.slot_list_append PySem.F.type_list_append jQ qG lU (gT (i:=1) rfl (Or.inl rfl) (by decide) (by decide)) (aa (aM (aB hr.hu) aA (cO (aa (jm gc ge ag) (aa ag ad rfl) rfl)) (iu uL zO rfl B.int xo (aa (lx Af Ag (au C__law_bend (hr.mono (by decide)) (aa (aM (aB hr.hu) aA (rvl 0) (rvl 2) (fun _ _=>rfl)) (aa (aM (aB hr.hu) aA (rvl 0) (rvl 3) (fun _ _=>rfl)) (aa (aM (aB hr.hu) aA (rvl 0) (rvl 4) (fun _ _=>rfl)) ad rfl) rfl) rfl) rfl (by decide) rfl rfl) ag (bd _)) ad rfl) (by decide) (by decide) rfl rfl) (fun _ _=>rfl)) ad rfl) rfl rfl rfl rfl rfl) rfl)) (fun _=>rfl)) (ak (aO 1 (fun i hi=>by rw [hp];exact aF (by simpa using hi)) (iu fJ qX rfl B.tuple jG (aa (rvl 1) ad rfl) (by decide) (by decide) rfl rfl)))))
noncomputable def cx:EM:=(pq (ay eL (ab (ac 0) ai)) (ah eqX (ah gj (ac 0) (ac 0)) (mC (.int 1))))
noncomputable def fT:EM:=(bZ (cT (ac 1)) (am 0) dW cx [none])
noncomputable def fV:M3 Bool:=(cB (ah neX (ah aw (ac 1) (ac 0)) (ah aw (ac 1) (ah bg (ac 0) (mC (.int 1))))))
noncomputable def fU:EM:=(ac 0)
noncomputable def dC:EM:=(bZ (aT cV (ab (mC (.int 3)) ai)) (am 0) fV fU [none,some 8])
noncomputable def bq:SM:=(aE (aN 8 (fW (ab (ah aw (ac 3) (bI (ab (ac 7) (ab (ac 4) (ab (ac 5) ai))))) (ab (ah aw (ac 3) (bI (ab (ac 7) (ab (ac 4) (ab (ac 6) ai))))) (ab (ah aw (ac 3) (bI (ab (ac 7) (ab (ac 5) (ab (ac 6) ai))))) (ab (ah aw (ac 3) (bI (ab (ac 4) (ab (ac 5) (ab (ac 6) ai))))) ai)))))) (sIf (cB (ah gtI (aG fH (ab dC ai)) (mC (.int 1)))) (bG 2 (mC (.bl false))) fg))
noncomputable def bS:SM:=(cN (aT cV (ab (ac 4) ai)) (am 7) bq)
noncomputable def fG:SM:=(aE (aN 2 (ay cq (ab (ac 0) ai))) (aE (sIf (cOr (i7 (cB (mUn (qQ "tuple") (ac 1)))) (cB (ah neX (aG fH (ab (ac 1) ai)) (aG fH (ab (ac 2) ai))))) (bG 2 (mC (.bl false))) fg) (aE (sIf (i7 (cB (aG uU (ab fT ai)))) (bG 2 (mC (.bl false))) fg) (aE (aN 3 (pp (ab (ac 2) (ab (ac 1) ai)))) (aE (cN (cT (ac 2)) (kI 3 (bT (am 4) (bT (am 5) (bT (am 6) kJ)))) bS) (bG 2 (mC (.bl true))))))))
noncomputable def dL:Fn:=fnM [false,false] 9 fG
theorem sc_l_are_signs:FnScope ["_law_many","_law_thing","_law_threes_here","_law_told","_law_i","_law_j","_law_k","_law_h","_law_row"] ["_law_many","_law_thing"] (al dH):=⟨rfl,rfl,rfl,by decide +kernel,rfl,by decide +kernel,by decide +kernel⟩
theorem kG (B:Bl mg) (D:Def K mg "_law_are_signs" dH) (C__law_threes:aR P w K mg base "_law_threes" 1 ["_law_many"] cq) (C__law_whole:aR P w K mg base "_law_whole" 1 ["_law_thing"] eL):aR P w K mg base "_law_are_signs" 2 ["_law_many","_law_thing"] dL :=
 bf (k:=1) D sc_l_are_signs rfl rfl (hb2 fun _ _ _ _ _ _ _ _=>rfl) fun cdv A outer s H E f G hr hp =>
  (af (aq 2 sc_l_are_signs.nd rfl (Or.inl rfl) (au C__law_threes (hr.mono (by decide)) (aa (rvl 0) ad rfl) rfl (by decide) rfl rfl) rfl (Or.inl rfl) (by rw [hp];rfl)) (af (d8 (vy (vp (fD (fB (jL ig rfl B.isinstance (iw (v:=V.ty "tuple") rfl B.tuple jG rfl (by decide) (by decide)) (rvl 1) rfl rfl rfl) (fun _=>rfl))) (qi (bO (jM hr.units) jO (aJ aK dm rfl B.len fA (aa (rvl 1) ad rfl) (by decide) (by decide) rfl rfl) (aJ aK dm rfl B.len fA (aa (rvl 2) ad rfl) (by decide) (by decide) rfl rfl) (bd _))))) (ak (aO 2 (fun i hi=>by rw [hp];exact aF (by simpa using hi)) gQ)) bN) (af (d8 (fD (fB (aJ (jE rfl) n9 rfl B.all sK (aa (b8 ["_law_one"] [none] rfl (eO (rvl 1)) (fun s H C fp=>ci) (fun s H C fp=>(nD (au C__law_whole (hr.mono (by decide)) (aa (rvl 0) ad rfl) rfl (by decide) rfl rfl) (lu (lx (dY hr.units) dZ (ao cP bV (rvl 0) (rvl 0)) ag (bd _))))) (by rfl) (cz (by decide)) (fun _=>rfl) ⟨_,aW rfl,fun s H C fp=>bj (i:=0) (show (["_law_one"]:List Str).Nodup by decide +kernel) rfl (Or.inl rfl) (Or.inr rfl)⟩) ad rfl) (by decide) (by decide) rfl rfl) (fun _=>rfl))) (ak (aO 2 (fun i hi=>by rw [hp];exact aF (by simpa using hi)) gQ)) bN) (af (aq 3 sc_l_are_signs.nd rfl (Or.inl rfl) (nC rfl hr.units rfl B.dict rfl B.zip (aa (rvl 2) (aa (rvl 1) ad rfl) rfl) rfl rfl rfl) rfl (Or.inl rfl) (by rw [hp];rfl)) (af (bU PassesOwn.never rfl (eO (rvl 2)) (qr rfl (dN (aQ 4 sc_l_are_signs.nd rfl (Or.inl rfl) (Or.inl rfl) (by rw [hp];rfl)) (dN (aQ 5 sc_l_are_signs.nd rfl (Or.inl rfl) (Or.inl rfl) (by rw [hp];rfl)) (dN (aQ 6 sc_l_are_signs.nd rfl (Or.inl rfl) (Or.inl rfl) (by rw [hp];rfl)) nB rfl) rfl) rfl) rfl rfl) (ak (bU PassesOwn.never rfl (cF rfl B.range (aa (rvl 4) ad rfl) rfl) (aQ 7 sc_l_are_signs.nd rfl (Or.inl rfl) (Or.inl rfl) (by rw [hp];rfl)) (af (aq 8 sc_l_are_signs.nd rfl (Or.inr rfl) (cO (aa (aM (aB hr.hu) aA (rvl 3) (aZ (aa (rvl 7) (aa (rvl 4) (aa (rvl 5) ad rfl) rfl) rfl)) (fun _ _=>rfl)) (aa (aM (aB hr.hu) aA (rvl 3) (aZ (aa (rvl 7) (aa (rvl 4) (aa (rvl 6) ad rfl) rfl) rfl)) (fun _ _=>rfl)) (aa (aM (aB hr.hu) aA (rvl 3) (aZ (aa (rvl 7) (aa (rvl 5) (aa (rvl 6) ad rfl) rfl) rfl)) (fun _ _=>rfl)) (aa (aM (aB hr.hu) aA (rvl 3) (aZ (aa (rvl 4) (aa (rvl 5) (aa (rvl 6) ad rfl) rfl) rfl)) (fun _ _=>rfl)) ad rfl) rfl) rfl) rfl)) rfl (Or.inl rfl) (by rw [hp];rfl)) (ak (d8 (bO Af Ag (aJ aK dm rfl B.len fA (aa (b8 ["_law_at","_law_row"] [none,some 8] rfl (cF rfl B.range (aa ag ad rfl) rfl) (fun s H C fp=>(gP (bO (jM hr.units) jO (aM (aB hr.hu) aA (rvc 1) (rvl 0) (fun _ _=>rfl)) (aM (aB hr.hu) aA (rvc 1) (ao aC aH (rvl 0) ag) (fun _ _=>rfl)) (bd _)))) (fun s H C fp=>(rvl 0)) (by rfl) (cz (by decide)) (fun _=>rfl) ⟨_,aW rfl,fun s H C fp=>bj (i:=0) (show (["_law_at","_law_row"]:List Str).Nodup by decide +kernel) rfl (Or.inl rfl) (Or.inr rfl)⟩) ad rfl) (by decide) (by decide) rfl rfl) ag (bd _)) (ak (aO 2 (fun i hi=>by rw [hp];exact aF (by simpa using hi)) gQ)) bN))) (fun _=>rfl))) (fun _=>rfl)) (ak (aO 2 (fun i hi=>by rw [hp];exact aF (by simpa using hi)) gQ)))))))
noncomputable def bY:M3 Bool:=(i7 (cB (ay fc (ab (ac 2) (ab (bI (ab (ac 3) (ab (ac 4) ai))) ai)))))
noncomputable def cI:SM:=(aN 4 (ah bg (ac 4) (mC (.int 1))))
noncomputable def cG:M3 Bool:=(cB (ah ltI (aG fH (ab (ac 2) ai)) (ac 1)))
noncomputable def cH:SM:=(aE (aN 3 (ah bg (ah aw (ah aw (ac 2) (mUn kC (mC (.int 1)))) (mC (.int 0))) (mC (.int 1)))) (aE (aN 4 (ay aY (ab (ac 0) (ab (mC (.int 30)) ai)))) (aE (cM bY cI) (aN 2 (ah bg (ac 2) (bI (ab (bI (ab (ac 3) (ab (ac 4) ai))) ai)))))))
noncomputable def jv:SM:=(aE (aN 2 (ay iD (ab (ac 0) (ab (mC (.int 9)) ai)))) (aE (cM cG cH) (bG 2 (mSl slD (ac 2) o3 (iL (ac 1))))))
noncomputable def eJ:Fn:=fnM [false,false] 5 jv
theorem sc_l_sheet_of:FnScope ["_law_box_here","_law_many","_law_sheet_here","_law_x","_law_y"] ["_law_box_here","_law_many"] (al eh):=⟨rfl,rfl,rfl,by decide +kernel,rfl,by decide +kernel,by decide +kernel⟩
theorem l7 (B:Bl mg) (D:Def K mg "_law_sheet_of" eh) (C__law_free:aR P w K mg base "_law_free" 2 ["_law_found","_law_point"] fc) (C__law_sheet:aR P w K mg base "_law_sheet" 3 ["_law_box_here","_law_most"] iD) (C__law_take:aR P w K mg base "_law_take" 1 ["_law_box_here","_law_many"] aY):aR P w K mg base "_law_sheet_of" 4 ["_law_box_here","_law_many"] eJ :=
 bf (k:=3) D sc_l_sheet_of rfl rfl (hb2 fun _ _ _ _ _ _ _ _=>rfl) fun cdv A outer s H E f G hr hp =>
  (af (aq 2 sc_l_sheet_of.nd rfl (Or.inl rfl) (au C__law_sheet (hr.mono (by decide)) (aa (rvl 0) (aa ag ad rfl) rfl) rfl (by decide) rfl rfl) rfl (Or.inl rfl) (by rw [hp];rfl)) (af (gO PassesOwn.never (bO vW wa (aJ aK dm rfl B.len fA (aa (rvl 2) ad rfl) (by decide) (by decide) rfl rfl) (rvl 1) (bd _)) (af (aq 3 sc_l_sheet_of.nd rfl (Or.inl rfl) (ao aC aH (aM (aB hr.hu) aA (aM (aB hr.hu) aA (rvl 2) (jm gc ge ag) (fun _ _=>rfl)) ag (fun _ _=>rfl)) ag) rfl (Or.inl rfl) (by rw [hp];rfl)) (af (aq 4 sc_l_sheet_of.nd rfl (Or.inl rfl) (au C__law_take (hr.mono (by decide)) (aa (rvl 0) (aa ag ad rfl) rfl) rfl (by decide) rfl rfl) rfl (Or.inl rfl) (by rw [hp];rfl)) (af (gO PassesOwn.never (fD (fB (au C__law_free (hr.mono (by decide)) (aa (rvl 2) (aa (aZ (aa (rvl 3) (aa (rvl 4) ad rfl) rfl)) ad rfl) rfl) rfl (by decide) rfl rfl) (fun _=>rfl))) (ak (aq 4 sc_l_sheet_of.nd rfl (Or.inl rfl) (ao aC aH (rvl 4) ag) rfl (Or.inl rfl) (by rw [hp];rfl)))) (ak (aq 2 sc_l_sheet_of.nd rfl (Or.inl rfl) (ao aC aH (rvl 2) (aZ (aa (aZ (aa (rvl 3) (aa (rvl 4) ad rfl) rfl)) ad rfl))) rfl (Or.inl rfl) (by rw [hp];rfl))))))) (ak (aO 2 (fun i hi=>by rw [hp];exact aF (by simpa using hi)) (jn (rvl 2) nw (jh (rvl 1)))))))
noncomputable def cQ:EM:=(ah ky (mC (.int 0)) (ac 0))
noncomputable def eT:EM:=(bZ (cT (mSl slD (ac 2) (iL (ac 4)) (iL (ah bg (ac 4) (mC (.int 1)))))) (am 0) dW cQ [none])
noncomputable def bW:SM:=(aE (aN 4 (ay aY (ab (ac 0) (ab (ah bg (aG fH (ab (ac 2) ai)) (mC (.int 1))) ai)))) (aE (aN 5 (ah bg (ah bg (mSl slD (ac 2) o3 (iL (ac 4))) (aG sT (ab eT ai))) (mSl slD (ac 2) (iL (ah bg (ac 4) (mC (.int 1)))) o3))) (sIf (cB (ay dL (ab (ac 1) (ab (ac 5) ai)))) (aN 2 (ac 5)) fg)))
noncomputable def gI:SM:=(aE (aN 2 (ay gb (ab (ay eJ (ab (ac 0) (ab (ac 1) ai))) ai))) (aE (cN (aT cV (ab (ay aY (ab (ac 0) (ab (mC (.int 4)) ai))) ai)) (am 3) bW) (bG 2 (ac 2))))
noncomputable def cK:Fn:=fnM [false,false] 6 gI
theorem sc_l_drawn_signs:FnScope ["_law_box_here","_law_many","_law_found","_law_lap","_law_at","_law_some"] ["_law_box_here","_law_many"] (al cE):=⟨rfl,rfl,rfl,by decide +kernel,rfl,by decide +kernel,by decide +kernel⟩
theorem jF (B:Bl mg) (D:Def K mg "_law_drawn_signs" cE) (C__law_are_signs:aR P w K mg base "_law_are_signs" 2 ["_law_many","_law_thing"] dL) (C__law_sheet_of:aR P w K mg base "_law_sheet_of" 4 ["_law_box_here","_law_many"] eJ) (C__law_signs:aR P w K mg base "_law_signs" 2 ["_law_sheet_here"] gb) (C__law_take:aR P w K mg base "_law_take" 1 ["_law_box_here","_law_many"] aY):aR P w K mg base "_law_drawn_signs" 5 ["_law_box_here","_law_many"] cK :=
 bf (k:=4) D sc_l_drawn_signs rfl rfl (hb2 fun _ _ _ _ _ _ _ _=>rfl) fun cdv A outer s H E f G hr hp =>
  (af (aq 2 sc_l_drawn_signs.nd rfl (Or.inl rfl) (au C__law_signs (hr.mono (by decide)) (aa (au C__law_sheet_of (hr.mono (by decide)) (aa (rvl 0) (aa (rvl 1) ad rfl) rfl) rfl (by decide) rfl rfl) ad rfl) rfl (by decide) rfl rfl) rfl (Or.inl rfl) (by rw [hp];rfl)) (af (bU PassesOwn.never rfl (cF rfl B.range (aa (au C__law_take (hr.mono (by decide)) (aa (rvl 0) (aa ag ad rfl) rfl) rfl (by decide) rfl rfl) ad rfl) rfl) (aQ 3 sc_l_drawn_signs.nd rfl (Or.inl rfl) (Or.inl rfl) (by rw [hp];rfl)) (af (aq 4 sc_l_drawn_signs.nd rfl (Or.inl rfl) (au C__law_take (hr.mono (by decide)) (aa (rvl 0) (aa (ao aC aH (aJ aK dm rfl B.len fA (aa (rvl 2) ad rfl) (by decide) (by decide) rfl rfl) ag) ad rfl) rfl) rfl (by decide) rfl rfl) rfl (Or.inl rfl) (by rw [hp];rfl)) (af (aq 5 sc_l_drawn_signs.nd rfl (Or.inl rfl) (ao aC aH (ao aC aH (jn (rvl 2) nw (jh (rvl 4))) (iu fJ qX rfl B.tuple jG (aa (b8 ["_law_one"] [none] rfl (eO (jn (rvl 2) (jh (rvl 4)) (jh (ao aC aH (rvl 4) ag)))) (fun s H C fp=>ci) (fun s H C fp=>(ao eP c7 ag (rvl 0))) (by rfl) (cz (by decide)) (fun _=>rfl) ⟨_,aW rfl,fun s H C fp=>bj (i:=0) (show (["_law_one"]:List Str).Nodup by decide +kernel) rfl (Or.inl rfl) (Or.inr rfl)⟩) ad rfl) (by decide) (by decide) rfl rfl)) (jn (rvl 2) (jh (ao aC aH (rvl 4) ag)) nw)) rfl (Or.inl rfl) (by rw [hp];rfl)) (ak (d8 (fB (au C__law_are_signs (hr.mono (by decide)) (aa (rvl 1) (aa (rvl 5) ad rfl) rfl) rfl (by decide) rfl rfl) (fun _=>rfl)) (ak (aq 2 sc_l_drawn_signs.nd rfl (Or.inl rfl) (rvl 5) rfl (Or.inl rfl) (by rw [hp];rfl))) bN)))) (fun _=>rfl)) (ak (aO 2 (fun i hi=>by rw [hp];exact aF (by simpa using hi)) (rvl 2)))))
noncomputable def gq:EM:=(bI (ab (ac 1) (ab (ac 0) ai)))
noncomputable def gp:EM:=(bZ (aT dA (ab (ah bg (ac 2) (mC (.int 1))) (ab (ac 0) ai))) (am 0) dW gq [none,some 2])
noncomputable def gr:SM:=(aN 1 (ah bg (ac 1) gp))
noncomputable def tY:SM:=(aE (aN 1 (fW ai)) (aE (cN (aT cV (ab (ac 0) ai)) (am 2) gr) (bG 1 (ac 1))))
noncomputable def iE:Fn:=fnM [false] 3 tY
theorem sc_l_pairs:FnScope ["_law_many","_law_found","_law_i"] ["_law_many"] (al iq):=⟨rfl,rfl,rfl,by decide +kernel,rfl,by decide +kernel,by decide +kernel⟩
theorem pU (B:Bl mg) (D:Def K mg "_law_pairs" iq):aR P w K mg base "_law_pairs" 1 ["_law_many"] iE :=
 bf (k:=0) D sc_l_pairs rfl rfl (hb1 fun _ _ _ _ _ _ _=>rfl) fun cdv A outer s H E f G hr hp =>
  (af (aq 1 sc_l_pairs.nd rfl (Or.inl rfl) (cO ad) rfl (Or.inl rfl) (by rw [hp];rfl)) (af (bU PassesOwn.never rfl (cF rfl B.range (aa (rvl 0) ad rfl) rfl) (aQ 2 sc_l_pairs.nd rfl (Or.inr rfl) (Or.inl rfl) (by rw [hp];rfl)) (ak (aq 1 sc_l_pairs.nd rfl (Or.inl rfl) (ao aC aH (rvl 1) (b8 ["_law_j","_law_i"] [none,some 2] rfl (dJ rfl B.range (aa (ao aC aH (rvc 2) ag) (aa (rvl 0) ad rfl) rfl) rfl rfl) (fun s H C fp=>ci) (fun s H C fp=>(aZ (aa (rvc 1) (aa (rvl 0) ad rfl) rfl))) (by rfl) (cz (by decide)) (fun _=>rfl) ⟨_,aW rfl,fun s H C fp=>bj (i:=0) (show (["_law_j","_law_i"]:List Str).Nodup by decide +kernel) rfl (Or.inl rfl) (Or.inr rfl)⟩)) rfl (Or.inl rfl) (by rw [hp];rfl))) (fun _=>rfl)) (ak (aO 1 (fun i hi=>by rw [hp];exact aF (by simpa using hi)) (rvl 1)))))
noncomputable def iZ:EM:=(bI (ab (ac 0) (ab (ac 1) ai)))
noncomputable def lK:EM:=(bZ (cT (ay iE (ab (ac 0) ai))) (kI 2 (bT (am 0) (bT (am 1) kJ))) dW iZ [none,none])
noncomputable def gu:SM:=(sIf (cB (ah eqX (ah aw (ac 1) (bI (ab (ah aw (ac 5) (mUn kC (mC (.int 2)))) (ab (ah aw (ac 5) (mUn kC (mC (.int 1)))) (ab (ac 6) ai))))) (mC (.int 1)))) (gN (nQ isL uS 4 (ab (ah bg (ac 5) (bI (ab (ac 6) ai))) ai))) fg)
noncomputable def eS:SM:=(cN (aT dA (ab (ah bg (ah aw (ac 5) (mUn kC (mC (.int 1)))) (mC (.int 1))) (ab (ac 0) ai))) (am 6) gu)
noncomputable def eQ:M3 Bool:=(cB (ah neX (ac 2) (fW ai)))
noncomputable def eR:SM:=(aE (aN 3 (aG wm (ab (ac 2) ai))) (aE (aN 4 (fW ai)) (aE (cN (cT (ac 2)) (am 5) eS) (aN 2 (ac 4)))))
noncomputable def rX:SM:=(aE (aN 2 lK) (aE (aN 3 (mC .non)) (aE (cM eQ eR) (bG 2 (ac 3)))))
noncomputable def kY:Fn:=fnM [false,false] 7 rX
theorem sc_l_due:FnScope ["_law_many","_law_told","_law_row","_law_best","_law_longer","_law_some","_law_k"] ["_law_many","_law_told"] (al kK):=⟨rfl,rfl,rfl,by decide +kernel,rfl,by decide +kernel,by decide +kernel⟩
theorem uM (B:Bl mg) (D:Def K mg "_law_due" kK) (C__law_pairs:aR P w K mg base "_law_pairs" 1 ["_law_many"] iE):aR P w K mg base "_law_due" 2 ["_law_many","_law_told"] kY :=
 bf (k:=1) D sc_l_due rfl rfl (hb2 fun _ _ _ _ _ _ _ _=>rfl) fun cdv A outer s H E f G hr hp =>
  (af (lh (i:=2) sc_l_due.nd rfl (Or.inl rfl) ["_law_i","_law_j"] [none,none] rfl (eO (au C__law_pairs (hr.mono (by decide)) (aa (rvl 0) ad rfl) rfl (by decide) rfl rfl)) (fun s H C fp=>ci) (fun s H C fp=>(aZ (aa (rvl 0) (aa (rvl 1) ad rfl) rfl))) (by rfl) (cz (by decide)) rfl (Or.inl rfl) (fun _=>rfl) (by rw [hp];rfl) ⟨_,om (f9 (aW rfl) (f9 (aW rfl) l8)),fun s H C fp=>qA (n:=2) rfl (gS (bj (i:=0) (show (["_law_i","_law_j"]:List Str).Nodup by decide +kernel) rfl (Or.inl rfl) (Or.inr rfl)) (gS (bj (i:=1) (show (["_law_i","_law_j"]:List Str).Nodup by decide +kernel) rfl (Or.inl rfl) (Or.inr rfl)) nH rfl) rfl) rfl rfl⟩) (af (aq 3 sc_l_due.nd rfl (Or.inl rfl) qt rfl (Or.inl rfl) (by rw [hp];rfl)) (af (gO PassesOwn.never (bO (jM hr.units) jO (rvl 2) (cO ad) (bd _)) (af (aq 3 sc_l_due.nd rfl (Or.inl rfl) (aJ (qY rfl hr.hu) zI rfl B.min sJ (aa (rvl 2) ad rfl) (by decide) (by decide) rfl rfl) rfl (Or.inl rfl) (by rw [hp];rfl)) (af (aq 4 sc_l_due.nd rfl (Or.inl rfl) (cO ad) rfl (Or.inl rfl) (by rw [hp];rfl)) (af (bU PassesOwn.never rfl (eO (rvl 2)) (aQ 5 sc_l_due.nd rfl (Or.inl rfl) (Or.inl rfl) (by rw [hp];rfl)) (ak (bU PassesOwn.never rfl (dJ rfl B.range (aa (ao aC aH (aM (aB hr.hu) aA (rvl 5) (jm gc ge ag) (fun _ _=>rfl)) ag) (aa (rvl 0) ad rfl) rfl) rfl rfl) (aQ 6 sc_l_due.nd rfl (Or.inl rfl) (Or.inl rfl) (by rw [hp];rfl)) (ak (d8 (bO (dY hr.units) dZ (aM (aB hr.hu) aA (rvl 1) (aZ (aa (aM (aB hr.hu) aA (rvl 5) (jm gc ge ag) (fun _ _=>rfl)) (aa (aM (aB hr.hu) aA (rvl 5) (jm gc ge ag) (fun _ _=>rfl)) (aa (rvl 6) ad rfl) rfl) rfl)) (fun _ _=>rfl)) ag (bd _)) (ak (gh (jo (ok:=isL) PySem.F.plainAttrs_list PySem.F.slot_list_append PySem.F.type_list_append jQ qG lU (gT (i:=4) rfl (Or.inl rfl) (by decide) (by decide)) (aa (ao aC aH (rvl 5) (aZ (aa (rvl 6) ad rfl))) ad rfl) rfl rfl rfl rfl rfl) rfl)) bN)) (fun _=>rfl))) (fun _=>rfl)) (ak (aq 2 sc_l_due.nd rfl (Or.inl rfl) (rvl 4) rfl (Or.inl rfl) (by rw [hp];rfl))))))) (ak (aO 2 (fun i hi=>by rw [hp];exact aF (by simpa using hi)) (rvl 3))))))
noncomputable def ju:EM:=(ay eL (ab (ac 0) ai))
noncomputable def lJ:EM:=(bZ (cT (ac 6)) (am 0) dW ju [none])
noncomputable def gY:SM:=(aE (aN 2 (ay kZ (ab (ac 0) (ab (ac 1) ai)))) (aE (aN 3 (ah bg (mC (.int 1)) (ay aY (ab (ac 2) (ab (mC (.int 8)) ai))))) (aE (aN 4 (ay cK (ab (ac 2) (ab (ac 3) ai)))) (aE (aN 5 (ay kY (ab (ac 3) (ab (pp (ab (ay cq (ab (ac 3) ai)) (ab (ac 4) ai))) ai)))) (aE (aN 6 (ay bB (ab (ac 3) (ab (ac 4) ai)))) (aE (sIf (cB (ah neX (ac 6) (ac 5))) (bG 1 (mC (.bl false))) fg) (sIf (oj (cB (ah za (ac 5) (mC .non))) (i7 (cB (aG uU (ab lJ ai))))) (bG 1 (mC (.bl false))) fg)))))))
noncomputable def m_law:SM:=(aE (cN (aT cV (ab (aG Ai (ab (mC (.int 1)) (ab (aG Ah (ab (aG fH (ab (ac 0) ai)) (ab (mC (.int 4)) ai))) ai))) ai)) (am 1) gY) (bG 1 (mC (.bl true))))
noncomputable def Aw:Fn:=fnM [false] 7 m_law
theorem sc_law:FnScope ["_law_script","_law_k","_law_box_here","_law_many","_law_signs_here","_law_due_here","_law_found"] ["_law_script"] (al gM):=⟨rfl,rfl,rfl,by decide +kernel,rfl,by decide +kernel,by decide +kernel⟩
theorem zH {f:Addr} {fd:FuncData} (B:Bl mg) (D:Fun K "law" "law" gM f fd) (C__law_box:aR P w K mg base "_law_box" 1 ["_law_script","_law_k"] kZ) (C__law_drawn_signs:aR P w K mg base "_law_drawn_signs" 5 ["_law_box_here","_law_many"] cK) (C__law_due:aR P w K mg base "_law_due" 2 ["_law_many","_law_told"] kY) (C__law_take:aR P w K mg base "_law_take" 1 ["_law_box_here","_law_many"] aY) (C__law_threes:aR P w K mg base "_law_threes" 1 ["_law_many"] cq) (C__law_whole:aR P w K mg base "_law_whole" 1 ["_law_thing"] eL) (C_cup_by_signs:aR P w K mg base "cup_by_signs" 5 ["many","signs"] bB):FnOk P w K mg base CX0 6 f fd ["_law_script"] (sV K Aw) :=
 BO (k:=5) D sc_law rfl rfl fun cdv A outer s H E f G hr hp =>
  (af (bU PassesOwn.never rfl (cF rfl B.range (aa (aJ (uK rfl) zN rfl B.max xn (aa ag (aa (aJ (uG rfl) zK rfl B.min sJ (aa (aJ aK dm rfl B.len fA (aa (rvl 0) ad rfl) (by decide) (by decide) rfl rfl) (aa ag ad rfl) rfl) (by decide) (by decide) rfl rfl) ad rfl) rfl) (by decide) (by decide) rfl rfl) ad rfl) rfl) (aQ 1 sc_law.nd rfl (Or.inl rfl) (Or.inl rfl) (by rw [hp];rfl)) (af (aq 2 sc_law.nd rfl (Or.inl rfl) (au C__law_box (hr.mono (by decide)) (aa (rvl 0) (aa (rvl 1) ad rfl) rfl) rfl (by decide) rfl rfl) rfl (Or.inl rfl) (by rw [hp];rfl)) (af (aq 3 sc_law.nd rfl (Or.inl rfl) (ao aC aH ag (au C__law_take (hr.mono (by decide)) (aa (rvl 2) (aa ag ad rfl) rfl) rfl (by decide) rfl rfl)) rfl (Or.inl rfl) (by rw [hp];rfl)) (af (aq 4 sc_law.nd rfl (Or.inl rfl) (au C__law_drawn_signs (hr.mono (by decide)) (aa (rvl 2) (aa (rvl 3) ad rfl) rfl) rfl (by decide) rfl rfl) rfl (Or.inl rfl) (by rw [hp];rfl)) (af (aq 5 sc_law.nd rfl (Or.inl rfl) (au C__law_due (hr.mono (by decide)) (aa (rvl 3) (aa (nC rfl hr.units rfl B.dict rfl B.zip (aa (au C__law_threes (hr.mono (by decide)) (aa (rvl 3) ad rfl) rfl (by decide) rfl rfl) (aa (rvl 4) ad rfl) rfl) rfl rfl rfl) ad rfl) rfl) rfl (by decide) rfl rfl) rfl (Or.inl rfl) (by rw [hp];rfl)) (af (aq 6 sc_law.nd rfl (Or.inl rfl) (au C_cup_by_signs (hr.mono (by decide)) (aa (rvl 3) (aa (rvl 4) ad rfl) rfl) rfl (by decide) rfl rfl) rfl (Or.inl rfl) (by rw [hp];rfl)) (af (d8 (bO (jM hr.units) jO (rvl 6) (rvl 5) (bd _)) (ak (aO 1 (fun i hi=>by rw [hp];exact aF (by simpa using hi)) gQ)) bN) (ak (d8 (vy (vq (bO yW yZ (rvl 5) qt (bd _)) (rE (fD (fB (aJ (jE rfl) n9 rfl B.all sK (aa (b8 ["_law_one"] [none] rfl (eO (rvl 6)) (fun s H C fp=>ci) (fun s H C fp=>(au C__law_whole (hr.mono (by decide)) (aa (rvl 0) ad rfl) rfl (by decide) rfl rfl)) (by rfl) (cz (by decide)) (fun _=>rfl) ⟨_,aW rfl,fun s H C fp=>bj (i:=0) (show (["_law_one"]:List Str).Nodup by decide +kernel) rfl (Or.inl rfl) (Or.inr rfl)⟩) ad rfl) (by decide) (by decide) rfl rfl) (fun _=>rfl)))))) (ak (aO 1 (fun i hi=>by rw [hp];exact aF (by simpa using hi)) gQ)) bN)))))))) (fun _=>rfl)) (ak (aO 1 (fun i hi=>by rw [hp];exact aF (by simpa using hi)) gQ)))
end
set_option tactic.hygienic true in
theorem mK (i:Int):dF [(.int i,.z)]=some (.ok (.bl true,.z),[(.int i,.z)]):=by
 apply bF (ρ:=[some (.int i,.z)]) rfl rfl
 ·(repeat' (first | infer_instance | eq_refl))
 ·rfl
theorem zE {f f':L3.D->L3.D->Option (L3.D × Fl)} {ma mb mc:EM} {ra rb rc:R3} {ρ ρ1 ρ2 ρ3:Sto} {da db db2 dc d:L3.D} {fl fl2:Fl} (h1:ma ρ=some (.ok ra,ρ1)) (h2:mb ρ1=some (.ok rb,ρ2)) (h3:der ra ρ2=some (.ok da,ρ2)) (h4:der rb ρ2=some (.ok db,ρ2)) (h5:f da db=some (.bl true,fl)) (h6:mc ρ2=some (.ok rc,ρ3)) (h7:der rb ρ3=some (.ok db2,ρ3)) (h8:der rc ρ3=some (.ok dc,ρ3)) (h9:f' db2 dc=some (d,fl2)):lN f f' ma mb mc ρ=some (.ok (.val d fl2),ρ3):=by
 simp only [lN,ae,h1,h2,h3,h4,h5,bo,Option.bind_some,asB,CF,if_true,h6,h7,h8,h9]
theorem iU {xs:List L3.D} {k:Int} {d:L3.D} (h:L2.atI xs k=some d):aw (.tup xs) (.int k)=some (d,.z):=by
 show orD ixD pE (.tup xs) (.int k)=_
 simp [orD,ixD,h]
theorem xV {xs:List L3.D} {k:Int} {d:L3.D} (h:L2.atI xs k=some d):aw (.lst xs) (.int k)=some (d,.z):=by
 show orD ixD pE (.lst xs) (.int k)=_
 simp [orD,ixD,h]
set_option tactic.hygienic true in
theorem oH {n i j:Nat} (xs:List L3.D) (hn:n<=25) (hj:j < n) (elt:EM) (he:∀ (a b c:L3.D),elt [some (c,.z),some (a,.z),some (b,.z)]=some (.ok (.val (.tup [a,b,c]) .z),[some (c,.z),some (a,.z),some (b,.z)])) :
  bZ (aT dA (ab (ah bg (ac 3) (mC (.int 1))) (ab (ac 0) ai))) (am 0) dW elt [none,some 2,some 3] [some (.int n,.z),some (.lst xs,.u),some (.int i,.z),some (.int j,.z)]=some (.ok (.val (.lst ((jK i j (n - (j+1))).map Td)) .u),[some (.int n,.z),some (.lst xs,.u),some (.int i,.z),some (.int j,.z)]):=by
 obtain ⟨τ',e,a,rfl⟩:=dU (bnd:=am 0) (c:=dW) (elt:=elt) (fun τ=>∃ a,τ=[a,some (.int i,.z),some (.int j,.z)]) (fun _=>true) (fun d=>.tup [.int i,.int j,d]) (ds:=aV ((j:Int)+1) (n - (j+1))) (τ:=[none,some (.int i,.z),some (.int j,.z)]) ⟨none,rfl⟩ (by
  rintro d hd τ ⟨a,rfl⟩
  exact ⟨[some (d,.z),some (.int i,.z),some (.int j,.z)],_,rfl,rfl,(fun h=>by cases h),fun _=>⟨_,_,(.tup [.int i,.int j,d],.z),_,he _ _ _,rfl,rfl,_,rfl⟩⟩)
 have e4:((aV ((j:Int)+1) (n - (j+1))).filter fun _=>true).map (fun d=>L3.D.tup [.int i,.int j,d])=(jK i j (n - (j+1))).map Td:=by
  rw [CQ.mpr (fun _ _=>rfl)]
  simp [aV,jK,Function.comp_def]
 rw [e4] at e
 have hr:dA [.int ((j:Int)+1),.int n]=some (aV ((j:Int)+1) (n - (j+1))):=fi (by omega) (by omega) (by omega)
 exact bA (rs:=[]) (by (repeat' (first | with_reducible apply cC (h3:=hr) | infer_instance | eq_refl))) e (by rw [bv];omega) rfl
theorem wS {A B:List L3.D} (h:A.length+B.length<=16777216):uk (.lst A) [.lst B]=some (.lst (A ++ B),.non):=by simp [uk,h]
theorem rm {A:List L3.D} {d:L3.D} (h:A.length < 16777216):uS (.lst A) [d]=some (.lst (A ++ [d]),.non):=by simp [uS,h]
theorem sG {A B:List L3.D} (h:A.length+B.length<=16777216):bg (.lst A) (.lst B)=some (.lst (A ++ B),.u):=by simp [orD,gz,zQ,zP,zR,h]
theorem iB {A B:List L3.D} (h:A.length+B.length<=16777216):bg (.tup A) (.tup B)=some (.tup (A ++ B),.z):=by simp [orD,gz,zQ,zP,zR,h]
set_option tactic.hygienic true in
theorem mG {n:Nat} (hn:n<=25) {b1 b2:SM} (h2:b2=cN (aT dA (ab (ah bg (ac 2) (mC (.int 1))) (ab (ac 0) ai))) (am 3) b1)
  (h1:∀ (i j:Nat) (xs:List L3.D),j < n->xs.length<=20000->b1 [some (.int n,.z),some (.lst xs,.u),some (.int i,.z),some (.int j,.z)]=some (.ok .nx,[some (.int n,.z),some (.lst (xs ++ (jK i j (n - (j+1))).map Td),.u),some (.int i,.z),some (.int j,.z)])) :
  ∃ v2 v3,cN (aT cV (ab (ac 0) ai)) (am 2) b2 [some (.int n,.z),some (.lst [],.u),none,none]=some (.ok .nx,[some (.int n,.z),some (.lst ((av n).map Td),.u),v2,v3]):=by
 have inner:∀ (i:Nat) (xs:List Tri) (v3:Option (L3.D × Fl)),i < n->xs.length<=15625->∃ v3',b2 [some (.int n,.z),some (.lst (xs.map Td),.u),some (.int i,.z),v3]=some (.ok .nx,[some (.int n,.z),some (.lst ((xs ++ iW n i (n - (i+1))).map Td),.u),some (.int i,.z),v3']):=by
  intro i xs v3 hi hx
  obtain ⟨ρ',e,v3',rfl⟩:=bL (bnd:=am 3) (b:=b1) (fun m ρ=>∃ v3,ρ=[some (.int n,.z),some (.lst ((xs ++ iW n i m).map Td),.u),some (.int i,.z),v3]) (ds:=aV ((i:Int)+1) (n - (i+1))) (ρ:=[some (.int n,.z),some (.lst (xs.map Td),.u),some (.int i,.z),v3]) (k:=0) ⟨v3,by simp [iW]⟩ (by
   rintro m d ρ hd ⟨v3,rfl⟩
   obtain ⟨hm,rfl⟩:=bX hd
   have hx2:((xs ++ iW n i m).map Td).length<=20000:=by
    have:=qm (n:=n) (i:=i) (m:=m) hn (by omega)
    simp only [Ck,CB]
    omega
   have c:=h1 i (i+1+m) ((xs ++ iW n i m).map Td) (by omega) hx2
   rw [show ((i+1+m:Nat):Int)=(i:Int)+1+m by omega,<- List.map_append,List.append_assoc,<- mL] at c
   exact ⟨_,_,by rw [Cz];rfl,.inl c,_,by rw [Cz]⟩)
  refine ⟨v3',?_⟩
  rw [bv,Cz] at e
  have hr:dA [.int ((i:Int)+1),.int n]=some (aV ((i:Int)+1) (n - (i+1))):=fi (by omega) (by omega) (by omega)
  rw [h2]
  apply dR
  ·(repeat' (first | with_reducible apply cC (h3:=hr) | infer_instance | eq_refl))
  ·rfl
  ·exact e
 obtain ⟨ρ',e,v2,v3,rfl⟩:=bL (bnd:=am 2) (b:=b2) (fun m ρ=>∃ v2 v3,ρ=[some (.int n,.z),some (.lst ((mq n m).map Td),.u),v2,v3]) (ds:=aV 0 n) (ρ:=[some (.int n,.z),some (.lst [],.u),none,none]) (k:=0) ⟨none,none,rfl⟩ (by
  rintro m d ρ hd ⟨v2,v3,rfl⟩
  obtain ⟨hm,rfl⟩:=bX hd
  rw [Cz,Int.zero_add]
  obtain ⟨v3',e⟩:=inner m (mq n m) v3 hm (lj hn (by omega))
  rw [<- mM] at e
  exact ⟨_,_,rfl,.inl e,_,_,rfl⟩)
 rw [bv,Cz] at e
 have hr:cV [.int (n:Int)]=some (aV 0 n):=eA (by omega) (by omega)
 refine ⟨v2,v3,?_⟩
 apply dR
 ·(repeat' (first | with_reducible apply cC (h3:=hr) | infer_instance | eq_refl))
 ·rfl
 ·exact e
set_option tactic.hygienic true in
theorem iV (n:Nat) (hn:n<=25):dX [(.int n,.z)]=some (.ok (.lst ((av n).map Td),.u),[(.int n,.z)]):=by
 obtain ⟨v2,v3,e⟩:=mG (n:=n) hn (b1:=gX) (b2:=ki) rfl (by
  intro i j xs hj hx
  have c:=oH (n:=n) (i:=i) (j:=j) xs hn hj gW (fun a b c=>by unfold gW;(repeat' (first | infer_instance | eq_refl)))
  have hl:xs.length+((jK i j (n - (j+1))).map Td).length<=16777216:=by
   rw [Ck,li];omega
  unfold gX kh
  (repeat' (first | with_reducible exact c | infer_instance | exact wS hl | eq_refl)))
 apply bF (ρ:=[some (.int n,.z),none,none,none]) rfl rfl
 ·apply aj
  ·(repeat' (first | infer_instance | eq_refl))
  ·apply aj
   ·exact e
   ·(repeat' (first | infer_instance | eq_refl))
 ·rfl
theorem nN {i j:Int}:neX (.int i) (.int j)=some (.bl (!decide (i=j)),.z):=rfl
noncomputable def d7 (p q r:Pt):Int:=if 0 < aU p q r then 1 else -1
noncomputable def fN (ps:List Pt) (i:Nat):Pt:=ps.getD i (0,0)
theorem c6 {ps:List Pt} {i:Nat} (h:i < ps.length):ps[i]?=some (fN ps i):=by
 simp [fN,List.getD,h]
set_option tactic.hygienic true in
theorem fM (n m:Int) (h:0 < m/\m < 1073741824):aY [(.lst [.int n],.u),(.int m,.z)]=some (.ok (.int (n % m),.z),[(.lst [.int (n / m)],.u),(.int m,.z)]):=by
 have hd:wZ [.int n,.int m]=some (.tup [.int (n / m),.int (n % m)],.z):=by simp [c2,pB,h]
 apply bF (ρ:=[some (.lst [.int n],.u),some (.int m,.z),none,none]) rfl rfl
 ·apply aj
  ·(repeat' (first | infer_instance | exact hd | eq_refl))
  ·apply aj
   ·(repeat' (first | infer_instance | eq_refl))
   ·(repeat' (first | infer_instance | eq_refl))
 ·rfl
set_option tactic.hygienic true in
theorem oP (p q r:Int × Int) (h1:-18446744073709551616 < q.1 - p.1/\q.1 - p.1 < 18446744073709551616) (h2:-18446744073709551616 < q.2 - p.2/\q.2 - p.2 < 18446744073709551616):fe [(Pd p,.z),(Pd q,.z),(Pd r,.z)]=some (.ok (.int (aU p q r),.z),[(Pd p,.z),(Pd q,.z),(Pd r,.z)]):=by
 apply bF (ρ:=[some (Pd p,.z),some (Pd q,.z),some (Pd r,.z),none]) rfl rfl
 ·apply aj
  ·(repeat' (first | infer_instance | exact js h1 | eq_refl))
  ·(repeat' (first | infer_instance | exact js h2 | eq_refl))
 ·rfl
theorem cJ (c:Int) (m:Int) (h:0 < m):0<=c % m/\c % m < m:=⟨Int.emod_nonneg _ (by omega),Int.emod_lt_of_pos _ h⟩
set_option tactic.hygienic true in
theorem xl (S kk:L3.D) (c n j:Int) (v5:Option (L3.D × Fl)):∃ n' p',gv [some (S,.z),some (kk,.z),some (.int c,.z),some (.int n,.z),some (.int j,.z),v5]=some (.ok .nx,[some (S,.z),some (kk,.z),some (.int c,.z),some (.int n',.z),some (.int j,.z),some (.int p',.z)]):=by
 have b:∀ x:Int,-18446744073709551616 < x % 2147483647/\x % 2147483647 < 18446744073709551616:=fun x=>by have:=cJ x 2147483647 (by decide);omega
 have b2:∀ x:Int,-18446744073709551616 < x % 2147483629/\x % 2147483629 < 18446744073709551616:=fun x=>by have:=cJ x 2147483629 (by decide);omega
 apply Exists.intro
 apply Exists.intro
 apply aj
 ·(repeat' (first | infer_instance | exact wl (by decide) | exact js (by decide) | eq_refl))
 ·apply aj
  ·(repeat' (first | infer_instance | exact js (b _) | eq_refl))
  ·(repeat' (first | infer_instance | exact wl (by decide) | exact js (b2 _) | eq_refl))
set_option tactic.hygienic true in
theorem pW (S kk:L3.D) (c:Int):∃ (n:Int) (v3 v4 v5:Option (L3.D × Fl)),(aE (sIf (cB (ah eqX (ah pd (ac 2) (mC (.int 2))) (mC (.int 0)))) (bG 2 (fW (ab (ah BU (ac 2) (mC (.int 2))) ai))) fg) (aE (aN 3 (mC (.int 0))) (aE (cN (aT cV (ab (mC (.int 16)) ai)) (am 4) gv) (bG 2 (fW (ab (ac 3) ai)))))) [some (S,.z),some (kk,.z),some (.int c,.z),none,none,none]=some (.ok (.rt (.lst [.int n]) .u),[some (S,.z),some (kk,.z),some (.int c,.z),v3,v4,v5]):=by
 by_cases h:c % 2=0
 ·refine ⟨c / 2,none,none,none,?_⟩
  apply nv
  apply kn
  ·(repeat' (first | infer_instance | eq_refl))
  ·exact Cv h
  ·(repeat' (first | infer_instance | eq_refl))
 ·obtain ⟨ρ',e,n,v4,v5,rfl⟩:=bL (bnd:=am 4) (b:=gv) (fun _ ρ=>∃ (n:Int) (v4 v5:Option (L3.D × Fl)),ρ=[some (S,.z),some (kk,.z),some (.int c,.z),some (.int n,.z),v4,v5]) (ds:=aV 0 16) (ρ:=[some (S,.z),some (kk,.z),some (.int c,.z),some (.int 0,.z),none,none]) (k:=0) ⟨0,none,none,rfl⟩ (by
   rintro i d ρ hd ⟨n,v4,v5,rfl⟩
   obtain ⟨hi,rfl⟩:=bX hd
   obtain ⟨n',p',e⟩:=xl S kk c n (0+(i:Int)) v5
   exact ⟨_,_,rfl,.inl e,_,_,_,rfl⟩)
  refine ⟨n,some (.int n,.z),v4,v5,?_⟩
  apply aj
  ·apply dy
   ·(repeat' (first | infer_instance | eq_refl))
   ·exact Cw h
   ·rfl
  apply aj
  ·(repeat' (first | infer_instance | eq_refl))
  apply aj
  ·apply dR
   ·exact cC (by (repeat' (first | infer_instance | eq_refl))) rfl (eA (n:=16) (by decide) (by decide))
   ·rfl
   ·exact e
  ·(repeat' (first | infer_instance | eq_refl))
set_option tactic.hygienic true in
theorem ym (ns:List Int) (k:Nat):∃ n:Int,kZ [(.fls (ns.map .int),.z),(.int k,.z)]=some (.ok (.lst [.int n],.u),[(.fls (ns.map .int),.z),(.int k,.z)]):=by
 by_cases h:k < ns.length
 ·obtain ⟨n,v3,v4,v5,e⟩:=pW (.fls (ns.map .int)) (.int k) ns[k]
  refine ⟨n,?_⟩
  have a:aw (.fls (ns.map .int)) (.int (k:Int))=some (.int ns[k],.z):=by
   have:L2.atI (ns.map L3.D.int) (k:Int)=some (.int ns[k]):=sL (by simp [h])
   simp [orD,ixD,this]
  have hk:(k:Int) < ((ns.map L3.D.int).length:Int):=by simp;omega
  generalize (k:Int)=kk at *
  apply bF (ρ:=[some (.fls (ns.map .int),.z),some (.int kk,.z),none,none,none,none]) rfl rfl
  ·apply aj
   ·(repeat' (first | infer_instance | exact js (by decide) | eq_refl))
   apply aj
   ·apply kn
    ·(repeat' (first | infer_instance | eq_refl))
    ·exact Cv hk
    ·(repeat' (first | infer_instance | exact a | eq_refl))
   ·exact e
  ·rfl
 ·obtain ⟨n,v3,v4,v5,e⟩:=pW (.fls (ns.map .int)) (.int k) (7919 * (k:Int)+13)
  refine ⟨n,?_⟩
  have hk:¬ (k:Int) < ((ns.map L3.D.int).length:Int):=by simp;omega
  generalize (k:Int)=kk at *
  apply bF (ρ:=[some (.fls (ns.map .int),.z),some (.int kk,.z),none,none,none,none]) rfl rfl
  ·apply aj
   ·(repeat' (first | infer_instance | exact js (by decide) | eq_refl))
   apply aj
   ·apply dy
    ·(repeat' (first | infer_instance | eq_refl))
    ·exact Cw hk
    ·rfl
   ·exact e
  ·rfl
set_option tactic.hygienic true in
theorem zG {X Z:L3.D} {f:Fl} {k j:Int} {p q z:L3.D} {b:Int} (a1:aw X (.int j)=some (p,.z)) (a2:aw X (.int k)=some (q,.z)) (hb:fe [(p,.z),(q,.z),(Z,.z)]=some (.ok (.int b,.z),[(p,.z),(q,.z),(Z,.z)])) :
  fq [some (X,f),some (Z,.z),some (.int k,.z),some (.int j,.z)]=some (.ok (if b=0 then .rt (.bl false) .z else .nx),[some (X,f),some (Z,.z),some (.int k,.z),some (.int j,.z)]):=by
 by_cases h:b=0
 ·rw [if_pos h]
  apply kn
  ·(repeat' (first | infer_instance | with_reducible apply aD (hb) | exact a1 | exact a2 | eq_refl))
  ·exact Cv h
  ·(repeat' (first | infer_instance | eq_refl))
 ·rw [if_neg h]
  apply dy
  ·(repeat' (first | infer_instance | with_reducible apply aD (hb) | exact a1 | exact a2 | eq_refl))
  ·exact Cw h
  ·rfl
set_option tactic.hygienic true in
theorem m4 (ps:List Pt) (z:Pt) (hs:∀ p ∈ ps,Small p) (hl:ps.length<=24) {X:L3.D} {f:Fl} (hlen:fH [X]=some (.int (ps.length:Int),.z)) (hix:∀ (i:Nat) (p:Pt),ps[i]?=some p->aw X (.int i)=some (Pd p,.z)) :
  ∃ (b:Bool) (v2 v3:Option (L3.D × Fl)),po [some (X,f),some (Pd z,.z),none,none]=some (.ok (.rt (.bl b) .z),[some (X,f),some (Pd z,.z),v2,v3])/\(b=true->rq ps z)/\(b=false->∃ (i j:Nat) (p q:Pt),i < j/\ps[i]?=some p/\ps[j]?=some q/\aU p q z=0):=by
 have inner:∀ (i:Nat) (q:Pt) (v3:Option (L3.D × Fl)),ps[i]?=some q->∃ v3',cj [some (X,f),some (Pd z,.z),some (.int (0+(i:Int)),.z),v3]=some (.ok .nx,[some (X,f),some (Pd z,.z),some (.int (0+(i:Int)),.z),v3'])/\(∀ j p,j < i->ps[j]?=some p->aU p q z ≠ 0) \/
   cj [some (X,f),some (Pd z,.z),some (.int (0+(i:Int)),.z),v3]=some (.ok (.rt (.bl false) .z),[some (X,f),some (Pd z,.z),some (.int (0+(i:Int)),.z),v3'])/\∃ j p,j < i/\ps[j]?=some p/\aU p q z=0:=by
  intro i q v3 hq
  have hi:i < ps.length:=(Cl.mp hq).1
  have hq2:aw X (.int (0+(i:Int)))=some (Pd q,.z):=by rw [Int.zero_add];exact hix i q hq
  have hr:cV [.int (0+(i:Int))]=some (aV 0 i):=eA (by omega) (by omega)
  obtain ⟨ρ',h⟩:=jB (bnd:=am 3) (b:=fq) (fun m ρ=>∃ v3,ρ=[some (X,f),some (Pd z,.z),some (.int (0+(i:Int)),.z),v3]/\∀ j p,j < m->ps[j]?=some p->aU p q z ≠ 0)
   (fun m r fl ρ=>r=.bl false/\fl=.z/\∃ v3,ρ=[some (X,f),some (Pd z,.z),some (.int (0+(i:Int)),.z),v3]/\∃ p,ps[m]?=some p/\aU p q z=0)
   (ds:=aV 0 i) (ρ:=[some (X,f),some (Pd z,.z),some (.int (0+(i:Int)),.z),v3]) (k:=0) ⟨v3,rfl,fun j p h=>absurd h (Nat.not_lt_zero _)⟩ (by
    rintro m d ρ hd ⟨v3,rfl,hn⟩
    obtain ⟨hm,rfl⟩:=bX hd
    have hp:ps[m]?=some (ps[m]'(by omega)):=Cg _
    generalize (ps[m]'(by omega))=p at hp
    have hp2:aw X (.int (0+(m:Int)))=some (Pd p,.z):=by rw [Int.zero_add];exact hix m p hp
    have sm:=Small.sub (hs p (Cm hp)) (hs q (Cm hq))
    have rb:=zG (f:=f) (z:=.non) hp2 hq2 (oP p q z sm.1 sm.2)
    by_cases h0:aU p q z=0
    ·rw [if_pos h0] at rb
     exact ⟨_,_,rfl,.inr ⟨.bl false,.z,rb,rfl,rfl,_,rfl,p,by rw [Cz];exact hp,h0⟩⟩
    ·rw [if_neg h0] at rb
     refine ⟨_,_,rfl,.inl ⟨.inl rb,_,rfl,fun j p' hj hp1=>?_⟩⟩
     by_cases e:j=m
     ·subst e;rw [hp] at hp1;cases hp1;exact h0
     ·exact hn j p' (by omega) hp1)
  have wrap:∀ {o:Except L3.D Flw} {ρ2:Sto},fI (am 3) fq (aV 0 i) [some (X,f),some (Pd z,.z),some (.int (0+(i:Int)),.z),v3]=some (o,ρ2)->cj [some (X,f),some (Pd z,.z),some (.int (0+(i:Int)),.z),v3]=some (o,ρ2):=fun e=>by
   apply dR
   ·(repeat' (first | with_reducible apply cC (h3:=hr) | infer_instance | eq_refl))
   ·rfl
   ·exact e
  rcases h with ⟨e,v3',rfl,h⟩ | ⟨m,r,fl,hm,e,rfl,rfl,v3',rfl,p,hp,h0⟩
  ·exact ⟨v3',.inl ⟨wrap e,fun j p hj=>h j p (by rw [bv];omega)⟩⟩
  ·exact ⟨v3',.inr ⟨wrap e,m,p,by rw [bv] at hm;exact hm,by rw [Cz] at hp;exact hp,h0⟩⟩
 obtain ⟨ρ',h⟩:=jB (bnd:=am 2) (b:=cj) (fun m ρ=>∃ v2 v3,ρ=[some (X,f),some (Pd z,.z),v2,v3]/\∀ i j p q,i < j->j < m->ps[i]?=some p->ps[j]?=some q->aU p q z ≠ 0)
   (fun m r fl ρ=>r=.bl false/\fl=.z/\∃ v2 v3,ρ=[some (X,f),some (Pd z,.z),v2,v3]/\∃ (i j:Nat) (p q:Pt),i < j/\ps[i]?=some p/\ps[j]?=some q/\aU p q z=0)
   (ds:=aV 0 ps.length) (ρ:=[some (X,f),some (Pd z,.z),none,none]) (k:=0) ⟨_,_,rfl,fun i j p q _ h=>absurd h (Nat.not_lt_zero _)⟩ (by
    rintro m d ρ hd ⟨v2,v3,rfl,hn⟩
    obtain ⟨hm,rfl⟩:=bX hd
    have hq:ps[m]?=some (ps[m]'(by omega)):=Cg _
    generalize (ps[m]'(by omega))=q at hq
    obtain ⟨v3',h⟩:=inner m q v3 hq
    rcases h with ⟨e,h⟩ | ⟨e,j,p,hj,hp,h0⟩
    ·refine ⟨_,_,rfl,.inl ⟨.inl e,_,_,rfl,fun i j p q' hij hj hi hj'=>?_⟩⟩
     by_cases ej:j=m
     ·subst ej;rw [hq] at hj';cases hj';exact h i p hij hi
     ·exact hn i j p q' hij (by omega) hi hj'
    ·exact ⟨_,_,rfl,.inr ⟨.bl false,.z,e,rfl,rfl,_,_,rfl,j,m,p,q,hj,hp,hq,h0⟩⟩)
 have hr:cV [.int (ps.length:Int)]=some (aV 0 ps.length):=eA (by omega) (by omega)
 have hf:∀ {o:Except L3.D Flw} {ρ2:Sto},fI (am 2) cj (aV 0 ps.length) [some (X,f),some (Pd z,.z),none,none]=some (o,ρ2)->cN (aT cV (ab (aG fH (ab (ac 0) ai)) ai)) (am 2) cj [some (X,f),some (Pd z,.z),none,none]=some (o,ρ2):=fun e=>by
  apply dR
  ·exact cC (d6 (kW (d6 (bp rfl) hV) rfl hlen) hV) rfl hr
  ·rfl
  ·exact e
 rcases h with ⟨e,v2,v3,rfl,h⟩ | ⟨m,r,fl,hm,e,rfl,rfl,v2,v3,rfl,hx⟩
 ·refine ⟨true,v2,v3,?_,fun _ i j p q hij hi hj=>h i j p q hij ?_ hi hj,fun h=>by cases h⟩
  ·apply aj
   ·exact hf e
   ·(repeat' (first | infer_instance | eq_refl))
  ·have:=(Cl.mp hj).1
   rw [bv];omega
 ·refine ⟨false,v2,v3,?_,fun h=>(by cases h),fun _=>hx⟩
  apply nv
  exact hf e
theorem vx (ps:List Pt) (z:Pt) (hs:∀ p ∈ ps,Small p) (hl:ps.length<=24):∃ b:Bool,fc [(.lst (ps.map Pd),.u),(Pd z,.z)]=some (.ok (.bl b,.z),[(.lst (ps.map Pd),.u),(Pd z,.z)])/\(b=true->rq ps z)/\(b=false->∃ (i j:Nat) (p q:Pt),i < j/\ps[i]?=some p/\ps[j]?=some q/\aU p q z=0):=by
 obtain ⟨b,v2,v3,e,h1,h2⟩:=m4 ps z hs hl (X:=.lst (ps.map Pd)) (f:=.u) (by simp [c1,t7]) (fun i p h=>xV (xr h))
 refine ⟨b,?_,h1,h2⟩
 apply bF (ρ:=[some (.lst (ps.map Pd),.u),some (Pd z,.z),none,none]) rfl rfl
 ·exact e
 ·rfl
theorem tu (ps:List Pt) (z:Pt) (hs:∀ p ∈ ps,Small p) (hl:ps.length<=24):∃ b:Bool,fc [(.tup (ps.map Pd),.z),(Pd z,.z)]=some (.ok (.bl b,.z),[(.tup (ps.map Pd),.z),(Pd z,.z)])/\(b=true->rq ps z)/\(b=false->∃ (i j:Nat) (p q:Pt),i < j/\ps[i]?=some p/\ps[j]?=some q/\aU p q z=0):=by
 obtain ⟨b,v2,v3,e,h1,h2⟩:=m4 ps z hs hl (X:=.tup (ps.map Pd)) (f:=.z) (by simp [c1,t7]) (fun i p h=>iU (xr h))
 refine ⟨b,?_,h1,h2⟩
 apply bF (ρ:=[some (.tup (ps.map Pd),.z),some (Pd z,.z),none,none]) rfl rfl
 ·exact e
 ·rfl
noncomputable abbrev eg (n most many kd x:Int) (ps:List Pt) (v6 v7 v8:Option (L3.D × Fl)):Sto:=[some (.lst [.int n],.u),some (.int most,.z),some (.int many,.z),some (.int kd,.z),some (.int x,.z),some (.lst (ps.map Pd),.u),v6,v7,v8]
theorem ni (ps:List Pt) (x y:Int) (hl:ps.length<=12):above ps x y<=144:=by
 have h1:=xx ps x y
 have h2:ps.length * ps.length<=12 * 12:=Nat.mul_le_mul hl hl
 omega
set_option tactic.hygienic true in
theorem qj {n most many kd x y0:Int} {ps:List Pt} {v6 v7:Option (L3.D × Fl)} (R:Rising ps) (hs:∀ p ∈ ps,Small p) (hl:ps.length<=12) :
  ∃ y,cM c9 eF (eg n most many kd x ps v6 v7 (some (.int y0,.z)))=some (.ok .nx,eg n most many kd x ps v6 v7 (some (.int y,.z)))/\rq ps (x,y)/\y0<=y/\y<=y0+144:=by
 have ablt:=ni ps x y0 hl
 obtain ⟨ρ',e,y,rfl,hf,h1,h2⟩:=fK (c:=c9) (b:=eF) (fun m ρ=>∃ y:Int,ρ=eg n most many kd x ps v6 v7 (some (.int y,.z))/\m=above ps x y/\y0<=y/\y+(above ps x y:Int)<=y0+(above ps x y0:Int))
  (fun ρ=>∃ y:Int,ρ=eg n most many kd x ps v6 v7 (some (.int y,.z))/\rq ps (x,y)/\y0<=y/\y<=y0+144) (ρ:=eg n most many kd x ps v6 v7 (some (.int y0,.z))) ⟨y0,rfl,rfl,Int.le_refl _,Int.le_refl _⟩ (by
   rintro m ρ ⟨y,rfl,rfl,h1,h2⟩
   obtain ⟨b,eb,ht,hf⟩:=vx ps (x,y) hs (by omega)
   have et:c9 (eg n most many kd x ps v6 v7 (some (.int y,.z)))=some (.ok (!b),eg n most many kd x ps v6 v7 (some (.int y,.z))):=by
    unfold c9
    (repeat' (first | infer_instance | with_reducible apply aD (eb) | eq_refl))
   cases b with
   | true=>exact .inl ⟨_,et,y,rfl,ht rfl,h1,by omega⟩
   | false =>
    obtain ⟨i,j,p,q,hij,e1,e2,h0⟩:=hf rfl
    have hlt:=p8 R hij e1 e2 h0
    exact .inr ⟨_,eg n most many kd x ps v6 v7 (some (.int (y+1),.z)),_,et,.inl (by unfold eF;(repeat' (first | infer_instance | eq_refl))),hlt,y+1,rfl,rfl,by omega,by omega⟩)
 exact ⟨y,e,hf,h1,h2⟩
theorem sq_le {x:Int} (h0:-40<=x) (h1:x<=40):0<=x * x/\x * x<=1600:=by
 have a:x * x=(x.natAbs * x.natAbs:Nat):=by rw [Int.natCast_mul];exact (Int.natAbs_mul_self' x).symm
 have b:x.natAbs * x.natAbs<=40 * 40:=Nat.mul_le_mul (by omega) (by omega)
 omega
theorem zS {x k:Int}:∃ b:Int,aw (.lst [.int (x * x),.int (0 - x * x)]) (.int (k % 2))=some (.int b,.z)/\(b=x * x\/b=0 - x * x):=by
 rcases Int.emod_two_eq k with e | e
 ·rw [e];exact ⟨_,rfl,.inl rfl⟩
 ·rw [e];exact ⟨_,rfl,.inr rfl⟩
theorem y_at {a b c d e kd:Int} (h0:0<=kd) (h1:kd < 5):∃ y:Int,aw (.lst [.int a,.int b,.int c,.int d,.int e]) (.int kd)=some (.int y,.z)/\(y=a\/y=b\/y=c\/y=d\/y=e):=by
 obtain ⟨j,rfl⟩:∃ j:Nat,kd=(j:Int):=⟨kd.toNat,by omega⟩
 match j,h1 with
 | 0,_=>exact ⟨_,rfl,.inl rfl⟩
 | 1,_=>exact ⟨_,rfl,.inr (.inl rfl)⟩
 | 2,_=>exact ⟨_,rfl,.inr (.inr (.inl rfl))⟩
 | 3,_=>exact ⟨_,rfl,.inr (.inr (.inr (.inl rfl)))⟩
 | 4,_=>exact ⟨_,rfl,.inr (.inr (.inr (.inr rfl)))⟩
 | j+5,h=>exact absurd h (by omega)
set_option tactic.hygienic true in
theorem vt {n most many kd x k:Int} {ps:List Pt} {v7 v8:Option (L3.D × Fl)} (R:Rising ps) (hs:∀ p ∈ ps,Small p) (hl:ps.length<=12) (k0:0<=kd) (k1:kd < 5) (x0:-9<=x) (x1:x<=36) :
  ∃ (n' d y:Int) (v7' v8':Option (L3.D × Fl)),eE (eg n most many kd x ps (some (.int k,.z)) v7 v8)=some (.ok .nx,eg n' most many kd (x+1+d) (ps ++ [(x+1+d,y)]) (some (.int k,.z)) v7' v8')/\0<=d/\d < 3/\rq ps (x+1+d,y)/\-2000<=y/\y<=2000:=by
 have d0:=cJ n 3 (by decide)
 have a0:=cJ (n / 3) 40 (by decide)
 have c0:=cJ (n / 3 / 40) 6 (by decide)
 have t:=fM
 generalize hX:x+1+n % 3=X at *
 have sq:=sq_le (x:=X) (by omega) (by omega)
 obtain ⟨bt,hb,hb2⟩:=zS (x:=X) (k:=k)
 obtain ⟨y0,hy,hy2⟩:=y_at (a:=n / 3 % 40) (b:=X * X) (c:=9 - X * X) (d:=bt) (e:=n / 3 / 40 % 6) k0 k1
 have hm:-18446744073709551616 < X/\X < 18446744073709551616:=by omega
 obtain ⟨y,ew,hf,h1,h2⟩:=qj (n:=n / 3 / 40 / 6) (most:=most) (many:=many) (kd:=kd) (x:=X) (y0:=y0) (ps:=ps) (v6:=some (.int k,.z)) (v7:=some (.int bt,.z)) R hs hl
 have yb:-1700<=y0/\y0<=1700:=by
  rcases hb2 with e | e <;> rcases hy2 with e2 | e2 | e2 | e2 | e2 <;> omega
 refine ⟨n / 3 / 40 / 6,n % 3,y,some (.int bt,.z),some (.int y,.z),?_,d0.1,d0.2,by rw [hX];exact hf,by omega,by omega⟩
 rw [hX]
 have m3:(ps.map Pd).length < 16777216:=by simp;omega
 have ha:=rm (d:=Pd (X,y)) m3
 rw [show ps.map Pd ++ [Pd (X,y)]=(ps ++ [(X,y)]).map Pd by simp] at ha
 apply aj (ρ1:=eg (n / 3) most many kd X ps (some (.int k,.z)) v7 v8)
 ·rw [<- hX]
  (repeat' (first | infer_instance | with_reducible apply aD (t _ _ (by decide)) | eq_refl))
 apply aj (ρ1:=eg (n / 3) most many kd X ps (some (.int k,.z)) (some (.int bt,.z)) v8)
 ·(repeat' (first | infer_instance | exact hb | exact js hm | eq_refl))
 apply aj (ρ1:=eg (n / 3 / 40 / 6) most many kd X ps (some (.int k,.z)) (some (.int bt,.z)) (some (.int y0,.z)))
 ·(repeat' (first | infer_instance | with_reducible apply aD (t _ _ (by decide)) | exact hy | exact js hm | eq_refl))
 apply aj
 ·exact ew
 ·(repeat' (first | infer_instance | exact ha | eq_refl))
set_option tactic.hygienic true in
theorem vw {n most many kd x:Int} (hm:0<=many/\many<=12) (k0:0<=kd) (k1:kd < 5) (x0:-8<=x) (x1:x<=0) :
  ∃ (n' x':Int) (ps:List Pt) (v6 v7 v8:Option (L3.D × Fl)),cN (aT cV (ab (ac 2) ai)) (am 6) eE (eg n most many kd x [] none none none)=some (.ok .nx,eg n' most many kd x' ps v6 v7 v8)/\(ps.length:Int)=many/\Rising ps/\NoLine ps/\(∀ q ∈ ps,-9<=q.1/\q.1<=100/\-2000<=q.2/\q.2<=2000):=by
 obtain ⟨ρ',e,n',x',ps,v6,v7,v8,rfl,hl,ris,nl,bnd,h1,h2⟩:=bL (bnd:=am 6) (b:=eE) (fun i ρ=>∃ (n x:Int) (ps:List Pt) (v6 v7 v8:Option (L3.D × Fl)),ρ=eg n most many kd x ps v6 v7 v8/\ps.length=i/\Rising ps/\NoLine ps/\(∀ q ∈ ps,q.1<=x/\-9<=q.1/\-2000<=q.2/\q.2<=2000)/\-8<=x/\x<=3 * (i:Int))
  (ds:=aV 0 many.toNat) (ρ:=eg n most many kd x [] none none none) (k:=0) ⟨n,x,[],none,none,none,rfl,rfl,fun _ _ _ _ _ e _=>by simp at e,fun _ _ _ _ _ _ _ _ e _ _=>by simp at e,fun _ e=>by simp at e,by omega,by omega⟩ (by
   rintro i d ρ hd ⟨n,x,ps,v6,v7,v8,rfl,hl,ris,nl,bnd,h1,h2⟩
   obtain ⟨hi,rfl⟩:=bX hd
   have smp:∀ q ∈ ps,Small q:=fun q hq=>by
    obtain ⟨a1,a2,a3,a4⟩:=bnd q hq
    exact ⟨by omega,by omega,by omega,by omega⟩
   obtain ⟨n',dd,y,v7',v8',e,d0,d1,fr,y0,y1⟩:=vt (n:=n) (most:=most) (many:=many) (kd:=kd) (x:=x) (k:=0+(i:Int)) (ps:=ps) (v7:=v7) (v8:=v8) ris smp (by omega) k0 k1 (by omega) (by omega)
   refine ⟨_,_,rfl,.inl e,n',x+1+dd,ps ++ [(x+1+dd,y)],_,_,_,rfl,by simp;omega,ris.snoc fun q hq=>?_,nl.snoc fr,fun q hq=>?_,by omega,by omega⟩
   ·show q.1 < x+1+dd
    have:=(bnd q hq).1
    omega
   ·rcases Ci.mp hq with hq | hq
    ·obtain ⟨a1,a2,a3,a4⟩:=bnd q hq
     exact ⟨by omega,by omega,by omega,by omega⟩
    ·have e:q=(x+1+dd,y):=by simpa using hq
     subst e
     exact ⟨Int.le_refl _,by show -9<=x+1+dd;omega,by show -2000<=y;omega,by show y<=2000;omega⟩)
 rw [bv] at hl h2
 have hr:cV [.int many]=some (aV 0 many.toNat):=eA (by omega) rfl
 refine ⟨n',x',ps,v6,v7,v8,?_,by omega,ris,nl,fun q hq=>?_⟩
 ·apply dR
  ·(repeat' (first | with_reducible apply cC (h3:=hr) | infer_instance | eq_refl))
  ·rfl
  ·exact e
 ·obtain ⟨a1,a2,a3,a4⟩:=bnd q hq
  exact ⟨by omega,by omega,by omega,by omega⟩
noncomputable def cL (p:Pt):Pt:=(p.1 * 1000000000000,p.2 * 1000000000000000+7)
theorem pY (p q r:Pt):aU (cL p) (cL q) (cL r)=1000000000000000000000000000 * aU p q r:=by
 unfold aU cL
 dsimp only
 have e1:q.1 * 1000000000000 - p.1 * 1000000000000=(q.1 - p.1) * 1000000000000:=by omega
 have e2:r.1 * 1000000000000 - p.1 * 1000000000000=(r.1 - p.1) * 1000000000000:=by omega
 have e3:r.2 * 1000000000000000+7 - (p.2 * 1000000000000000+7)=(r.2 - p.2) * 1000000000000000:=by omega
 have e4:q.2 * 1000000000000000+7 - (p.2 * 1000000000000000+7)=(q.2 - p.2) * 1000000000000000:=by omega
 rw [e1,e2,e3,e4]
 generalize q.1 - p.1=a
 generalize r.2 - p.2=b
 generalize q.2 - p.2=c
 generalize r.1 - p.1=d
 have h:∀ a b:Int,a * 1000000000000 * (b * 1000000000000000)=1000000000000000000000000000 * (a * b):=fun a b=>by
  rw [Int.mul_assoc,Int.mul_left_comm 1000000000000 b,<- Int.mul_assoc,show (1000000000000:Int) * 1000000000000000=1000000000000000000000000000 from rfl,Int.mul_comm]
 rw [h,Int.mul_comm (c * 1000000000000000),h,Int.mul_comm d c,<- Int.mul_sub]
theorem qp {ps:List Pt} (R:Rising ps):Rising (ps.map cL):=fun i j p q hij h1 h2=>by
 rw [Cp] at h1 h2
 obtain ⟨p',e1,rfl⟩:=Cc.mp h1
 obtain ⟨q',e2,rfl⟩:=Cc.mp h2
 have:=R i j p' q' hij e1 e2
 show p'.1 * 1000000000000 < q'.1 * 1000000000000
 omega
theorem qF {ps:List Pt} (N:NoLine ps):NoLine (ps.map cL):=fun i j k p q r hij hjk h1 h2 h3=>by
 rw [Cp] at h1 h2 h3
 obtain ⟨p',e1,rfl⟩:=Cc.mp h1
 obtain ⟨q',e2,rfl⟩:=Cc.mp h2
 obtain ⟨r',e3,rfl⟩:=Cc.mp h3
 rw [pY]
 exact Int.mul_ne_zero (by decide) (N i j k p' q' r' hij hjk e1 e2 e3)
theorem pow12:vQ (.int 10) (.int 12)=some (.int 1000000000000,.z):=rfl
theorem pow15:vQ (.int 10) (.int 15)=some (.int 1000000000000000,.z):=rfl
set_option tactic.hygienic true in
theorem tj (ps:List Pt) (hl:ps.length<=24) {n most many kd x:Int} {v6 v7 v8:Option (L3.D × Fl)}:aN 5 eD (eg n most many kd x ps v6 v7 v8)=some (.ok .nx,eg n most many kd x (ps.map cL) v6 v7 v8):=by
 obtain ⟨τ',e,a,b,rfl⟩:=cD (bnd:=kI 2 (bT (am 0) (bT (am 1) kJ))) (c:=dW) (elt:=gm) (fun τ=>∃ a b,τ=[a,b]) Pd (fun _=>true) (fun p=>Pd (cL p)) (xs:=ps) (τ:=[none,none]) ⟨none,none,rfl⟩ (by
  rintro p hp τ ⟨a,b,rfl⟩
  exact ⟨[some (.int p.1,.z),some (.int p.2,.z)],_,rfl,rfl,(fun h=>by cases h),fun _=>⟨.val (Pd (cL p)) .z,[some (.int p.1,.z),some (.int p.2,.z)],(Pd (cL p),.z),_,by unfold gm;(repeat' (first | infer_instance | exact pow12 | exact pow15 | exact wl (by decide) | eq_refl)),rfl,rfl,_,_,rfl⟩⟩)
 rw [CQ.mpr (fun _ _=>rfl)] at e
 have e2:eD (eg n most many kd x ps v6 v7 v8)=some (.ok (.val (.lst (ps.map fun p=>Pd (cL p))) .u),eg n most many kd x ps v6 v7 v8):=bA (rs:=[.pl 5]) (ρ1:=eg n most many kd x ps v6 v7 v8) (ρ2:=[some (.lst [.int n],.u),some (.int most,.z),some (.int many,.z),some (.int kd,.z),some (.int x,.z),some (.lst (ps.map Pd),.l),v6,v7,v8]) rfl e (by simp;omega) rfl
 rw [show (ps.map fun p=>Pd (cL p))=(ps.map cL).map Pd by simp] at e2
 exact iQ e2 rfl (Nat.le_of_ble_eq_true rfl) rfl
set_option tactic.hygienic true in
theorem tf (n most:Int) (h1:1<=most) (h2:most<=12):∃ (n':Int) (ps:List Pt),iD [(.lst [.int n],.u),(.int most,.z)]=some (.ok (.tup (ps.map Pd),.z),[(.lst [.int n'],.u),(.int most,.z)])/\GoodSh ps/\(ps.length:Int)<=most/\∀ q ∈ ps,(-(2 ^ 61) < q.2/\q.2 < 2 ^ 61)/\-(2 ^ 50) < q.1/\q.1 < 2 ^ 50:=by
 have t:=fM
 have a0:=cJ n most (by omega)
 have b0:=cJ (n / most) 5 (by decide)
 have x9:=cJ (n / most / 5) 9 (by decide)
 obtain ⟨n',x',ps,v6,v7,v8,e,hl,ris,nln,bnd⟩:=vw (n:=n / most / 5 / 9) (most:=most) (many:=1+n % most) (kd:=n / most % 5) (x:=0 - n / most / 5 % 9) ⟨by omega,by omega⟩ b0.1 b0.2 (by omega) (by omega)
 have good:GoodSh ps:=⟨by omega,by omega,fun q hq=>by
  obtain ⟨a1,a2,a3,a4⟩:=bnd q hq
  exact ⟨by omega,by omega,by omega,by omega⟩,ris,nln⟩
 have goodS:GoodSh (ps.map cL):=⟨by simpa using good.pos,by simpa using good.most,fun q hq=>by
  obtain ⟨r,hr,rfl⟩:=Co.mp hq
  obtain ⟨a1,a2,a3,a4⟩:=bnd r hr
  exact ⟨by show -(2 ^ 62) < r.1 * 1000000000000;omega,by show r.1 * 1000000000000 < 2 ^ 62;omega,by show -(2 ^ 62) < r.2 * 1000000000000000+7;omega,by show r.2 * 1000000000000000+7 < 2 ^ 62;omega⟩,qp ris,qF nln⟩
 have pre:∀ {r:Option (Except L3.D Flw × Sto)},aE (sIf (cB (ah eqX (ay aY (ab (ac 0) (ab (mC (.int 6)) ai))) (mC (.int 5)))) (aN 5 eD) fg) (bG 2 (aG sT (ab (ac 5) ai))) (eg n' most (1+n % most) (n / most % 5) x' ps v6 v7 v8)=r->mU [some (.lst [.int n],.u),some (.int most,.z),none,none,none,none,none,none,none]=r:=by
  intro r hr
  apply aj (ρ1:=[some (.lst [.int (n / most)],.u),some (.int most,.z),some (.int (1+n % most),.z),none,none,none,none,none,none])
  ·(repeat' (first | infer_instance | with_reducible apply aD (t n most (by omega)) | eq_refl))
  apply aj (ρ1:=[some (.lst [.int (n / most / 5)],.u),some (.int most,.z),some (.int (1+n % most),.z),some (.int (n / most % 5),.z),none,none,none,none,none])
  ·(repeat' (first | infer_instance | with_reducible apply aD (t _ _ (by decide)) | eq_refl))
  apply aj (ρ1:=[some (.lst [.int (n / most / 5 / 9)],.u),some (.int most,.z),some (.int (1+n % most),.z),some (.int (n / most % 5),.z),some (.int (0 - n / most / 5 % 9),.z),none,none,none,none])
  ·(repeat' (first | infer_instance | with_reducible apply aD (t _ _ (by decide)) | eq_refl))
  apply aj (ρ1:=eg (n / most / 5 / 9) most (1+n % most) (n / most % 5) (0 - n / most / 5 % 9) [] none none none)
  ·(repeat' (first | infer_instance | eq_refl))
  exact aj e hr
 by_cases h5:n' % 6=5
 ·refine ⟨n' / 6,ps.map cL,?_,goodS,by rw [Ck];omega,fun q hq=>?_⟩
  ·apply bF (ρ:=[some (.lst [.int n],.u),some (.int most,.z),none,none,none,none,none,none,none]) rfl rfl
   ·apply pre
    apply aj
    ·apply kn
     ·(repeat' (first | infer_instance | with_reducible apply aD (t _ _ (by decide)) | eq_refl))
     ·exact Cv h5
     ·exact tj ps (by omega)
    ·(repeat' (first | infer_instance | eq_refl))
   ·rfl
  ·obtain ⟨r,hr,rfl⟩:=Co.mp hq
   obtain ⟨a1,a2,a3,a4⟩:=bnd r hr
   exact ⟨⟨by show -(2 ^ 61) < r.2 * 1000000000000000+7;omega,by show r.2 * 1000000000000000+7 < 2 ^ 61;omega⟩,by show -(2 ^ 50) < r.1 * 1000000000000;omega,by show r.1 * 1000000000000 < 2 ^ 50;omega⟩
 ·refine ⟨n' / 6,ps,?_,good,by omega,fun q hq=>?_⟩
  ·apply bF (ρ:=[some (.lst [.int n],.u),some (.int most,.z),none,none,none,none,none,none,none]) rfl rfl
   ·apply pre
    apply aj
    ·apply dy
     ·(repeat' (first | infer_instance | with_reducible apply aD (t _ _ (by decide)) | eq_refl))
     ·exact Cw h5
     ·rfl
    ·(repeat' (first | infer_instance | eq_refl))
   ·rfl
  ·obtain ⟨a1,a2,a3,a4⟩:=bnd q hq
   exact ⟨⟨by omega,by omega⟩,by omega,by omega⟩
noncomputable def tp (ps:List Pt) (t:Tri):Int:=d7 (fN ps t.1) (fN ps t.2.1) (fN ps t.2.2)
set_option tactic.hygienic true in
theorem lg (n:Nat) (hn:n<=25):cq [(.int n,.z)]=some (.ok (.lst ((av n).map Td),.u),[(.int n,.z)]):=by
 obtain ⟨v2,v3,e⟩:=mG (n:=n) hn (b1:=fF) (b2:=iN) rfl (by
  intro i j xs hj hx
  have c:=oH (n:=n) (i:=i) (j:=j) xs hn hj fE (fun a b c=>by unfold fE;(repeat' (first | infer_instance | eq_refl)))
  have hl:xs.length+((jK i j (n - (j+1))).map Td).length<=16777216:=by
   rw [Ck,li];omega
  unfold fF iM
  exact iQ (eX (bp rfl) c rfl rfl (sG hl)) rfl (Nat.le_of_ble_eq_true rfl) rfl)
 apply bF (ρ:=[some (.int n,.z),none,none,none]) rfl rfl
 ·apply aj
  ·(repeat' (first | infer_instance | eq_refl))
  ·apply aj
   ·exact e
   ·(repeat' (first | infer_instance | eq_refl))
 ·rfl
theorem eM {n:Nat} (hn:n<=25):(av n).length<=15625:=lj hn hn
theorem AW {b:Int}:aw (.lst [.int (-1),.int 1]) (.int (if decide (0 < b)=true then 1 else 0))=some (.int (if 0 < b then 1 else -1),.z):=by
 by_cases h:0 < b
 ·simp only [h,decide_true,if_true];rfl
 ·simp only [h,decide_false,CI,if_false];rfl
set_option tactic.hygienic true in
theorem xY {S:List L3.D} {xs:List L3.D} {i j k:Int} {p q r:Pt} (a1:aw (.tup S) (.int i)=some (Pd p,.z)) (a2:aw (.tup S) (.int j)=some (Pd q,.z)) (a3:aw (.tup S) (.int k)=some (Pd r,.z)) (hp:Small p) (hq:Small q) (hx:xs.length < 16777216):eC [some (.tup S,.z),some (.lst xs,.u),some (.int i,.z),some (.int j,.z),some (.int k,.z)]=some (.ok .nx,[some (.tup S,.z),some (.lst (xs ++ [.int (d7 p q r)]),.u),some (.int i,.z),some (.int j,.z),some (.int k,.z)]):=by
 have b:=oP p q r (Small.sub hp hq).1 (Small.sub hp hq).2
 have ha:=rm (A:=xs) (d:=.int (d7 p q r)) hx
 have hs:=AW (b:=aU p q r)
 unfold eC
 apply qU
 apply wL
 ·rfl
 ·rfl
 ·apply d6
  ·apply eX (h5:=hs)
   ·(repeat' (first | infer_instance | eq_refl))
   ·(repeat' (first | infer_instance | with_reducible apply aD (b) | exact a1 | exact a2 | exact a3 | eq_refl))
   ·rfl
   ·rfl
  ·exact hV
 ·rfl
 ·rfl
 ·exact ha
 ·rfl
set_option tactic.hygienic true in
theorem s9 (ps:List Pt) (hl:ps.length<=24) (hs:∀ p ∈ ps,Small p):gb [(Shd ps,.z)]=some (.ok (.tup ((av ps.length).map fun t=>.int (tp ps t)),.z),[(Shd ps,.z)]):=by
 have ht:=lg ps.length (by omega)
 rw [show (ps.length:Int)=((ps.map Pd).length:Int) by rw [Ck]] at ht
 have sm:=eM (n:=ps.length) (by omega)
 obtain ⟨ρ',e,v2,v3,v4,rfl⟩:=bL (bnd:=kI 3 (bT (am 2) (bT (am 3) (bT (am 4) kJ)))) (b:=eC) (fun m ρ=>∃ v2 v3 v4,ρ=[some (Shd ps,.z),some (.lst (((av ps.length).take m).map fun t=>.int (tp ps t)),.u),v2,v3,v4]) (ds:=(av ps.length).map Td) (ρ:=[some (Shd ps,.z),some (.lst [],.u),none,none,none]) (k:=0) ⟨none,none,none,rfl⟩ (by
  rintro m d ρ hd ⟨v2,v3,v4,rfl⟩
  rw [Cp,Cc] at hd
  obtain ⟨t,ht,rfl⟩:=hd
  obtain ⟨m1,m2,m3⟩:=fO (Cm ht)
  have q1:=c6 (ps:=ps) (i:=t.1) (by omega)
  have q2:=c6 (ps:=ps) (i:=t.2.1) (by omega)
  have q3:=c6 (ps:=ps) (i:=t.2.2) (by omega)
  have b:=xY (xs:=((av ps.length).take (0+m)).map fun t=>L3.D.int (tp ps t)) (iU (xr q1)) (iU (xr q2)) (iU (xr q3)) (hs _ (Cm q1)) (hs _ (Cm q2)) (by rw [Ck,CD];omega)
  have e3:((av ps.length).take (0+m)).map (fun t=>L3.D.int (tp ps t)) ++ [.int (d7 (fN ps t.1) (fN ps t.2.1) (fN ps t.2.2))]=((av ps.length).take (0+m+1)).map fun t=>.int (tp ps t):=by
   rw [List.take_succ,Cz,ht]
   simp [tp]
  rw [e3] at b
  exact ⟨_,_,rfl,.inl b,_,_,_,rfl⟩)
 rw [Ck,Cz,List.take_length] at e
 apply bF (ρ:=[some (Shd ps,.z),none,none,none,none]) rfl rfl
 ·apply aj
  ·(repeat' (first | infer_instance | eq_refl))
  apply aj
  ·apply dR
   ·(repeat' (first | infer_instance | with_reducible apply aD (ht) | eq_refl))
   ·rfl
   ·exact e
  ·(repeat' (first | infer_instance | eq_refl))
 ·rfl
noncomputable abbrev Pr:=Nat × Nat
noncomputable abbrev PrD (t:Pr):L3.D:=.tup [.int t.1,.int t.2]
noncomputable def prJ (n i:Nat):List Pr:=(List.range (n - (i+1))).map fun j=>(i,i+1+j)
noncomputable def prI (n m:Nat):List Pr:=(List.range m).flatMap (prJ n)
theorem oZ (n m:Nat):prI n (m+1)=prI n m ++ prJ n m:=by simp [prI,List.range_succ,List.flatMap_append]
theorem mem_prI {n:Nat} {t:Pr}:t ∈ prI n n ↔ t.1 < t.2/\t.2 < n:=by
 constructor
 ·intro h
  obtain ⟨i,hi,h⟩:=CS.mp h
  obtain ⟨j,hj,rfl⟩:=Co.mp h
  rw [List.mem_range] at hi hj
  exact ⟨by show i < i+1+j;omega,by show i+1+j < n;omega⟩
 ·intro ⟨h1,h2⟩
  refine CS.mpr ⟨t.1,List.mem_range.mpr (by omega),Co.mpr ⟨t.2 - (t.1+1),List.mem_range.mpr (by omega),?_⟩⟩
  show (t.1,t.1+1+(t.2 - (t.1+1)))=t
  rw [show t.1+1+(t.2 - (t.1+1))=t.2 by omega]
theorem rQ (n m:Nat):(prI n m).length<=m * n:=by
 induction m with
 | zero=>simp [prI]
 | succ m ih=>rw [oZ,CB,Nat.succ_mul];simp only [prJ,Ck,List.length_range];omega
theorem tD {n m:Nat} (hn:n<=25) (hm:m<=25):(prI n m).length<=625:=by
 have h1:=rQ n m
 have h2:m * n<=25 * 25:=Nat.mul_le_mul hm hn
 omega
set_option tactic.hygienic true in
theorem yI {n i:Nat} (xs:L3.D) (hn:n<=25) (hi:i < n):gp [some (.int n,.z),some (xs,.u),some (.int i,.z)]=some (.ok (.val (.lst ((prJ n i).map PrD)) .u),[some (.int n,.z),some (xs,.u),some (.int i,.z)]):=by
 obtain ⟨τ',e,a,rfl⟩:=dU (bnd:=am 0) (c:=dW) (elt:=gq) (fun τ=>∃ a,τ=[a,some (.int i,.z)]) (fun _=>true) (fun d=>.tup [.int i,d]) (ds:=aV ((i:Int)+1) (n - (i+1))) (τ:=[none,some (.int i,.z)]) ⟨none,rfl⟩ (by
  rintro d hd τ ⟨a,rfl⟩
  obtain ⟨j,hj⟩:=List.getElem?_of_mem hd
  obtain ⟨hj,rfl⟩:=bX hj
  exact ⟨[some (.int ((i:Int)+1+j),.z),some (.int i,.z)],_,rfl,rfl,(fun h=>by cases h),fun _=>⟨.val (.tup [.int i,.int ((i:Int)+1+j)]) .z,[some (.int ((i:Int)+1+j),.z),some (.int i,.z)],(.tup [.int i,.int ((i:Int)+1+j)],.z),_,by unfold gq;(repeat' (first | infer_instance | eq_refl)),rfl,rfl,_,rfl⟩⟩)
 have e4:((aV ((i:Int)+1) (n - (i+1))).filter fun _=>true).map (fun d=>L3.D.tup [.int i,d])=(prJ n i).map PrD:=by
  rw [CQ.mpr (fun _ _=>rfl)]
  simp [aV,prJ,Function.comp_def]
 rw [e4] at e
 have hr:dA [.int ((i:Int)+1),.int n]=some (aV ((i:Int)+1) (n - (i+1))):=fi (by omega) (by omega) (by omega)
 unfold gp
 exact bA (rs:=[]) (by (repeat' (first | with_reducible apply cC (h3:=hr) | infer_instance | eq_refl))) e (by rw [bv];omega) rfl
set_option tactic.hygienic true in
theorem tq (n:Nat) (hn:n<=25):iE [(.int n,.z)]=some (.ok (.lst ((prI n n).map PrD),.u),[(.int n,.z)]):=by
 obtain ⟨ρ',e,v2,rfl⟩:=bL (bnd:=am 2) (b:=gr) (fun m ρ=>∃ v2,ρ=[some (.int n,.z),some (.lst ((prI n m).map PrD),.u),v2]) (ds:=aV 0 n) (ρ:=[some (.int n,.z),some (.lst [],.u),none]) (k:=0) ⟨none,rfl⟩ (by
  rintro m d ρ hd ⟨v2,rfl⟩
  obtain ⟨hm,rfl⟩:=bX hd
  rw [Cz,Int.zero_add]
  have c:=yI (n:=n) (i:=m) (.lst ((prI n m).map PrD)) hn hm
  have hl:((prI n m).map PrD).length+((prJ n m).map PrD).length<=16777216:=by
   have:=tD (n:=n) (m:=m) hn (by omega)
   simp only [Ck,prJ,List.length_range]
   omega
  have hc:=sG hl
  rw [<- List.map_append,<- oZ] at hc
  refine ⟨[some (.int n,.z),some (.lst ((prI n m).map PrD),.u),some (.int m,.z)],[some (.int n,.z),some (.lst ((prI n (m+1)).map PrD),.u),some (.int m,.z)],rfl,.inl ?_,_,rfl⟩
  unfold gr
  (repeat' (first | with_reducible exact c | infer_instance | exact hc | eq_refl)))
 rw [bv,Cz] at e
 have hr:cV [.int (n:Int)]=some (aV 0 n):=eA (by omega) (by omega)
 apply bF (ρ:=[some (.int n,.z),none,none]) rfl rfl
 ·apply aj
  ·(repeat' (first | infer_instance | eq_refl))
  apply aj
  ·apply dR
   ·(repeat' (first | with_reducible apply cC (h3:=hr) | infer_instance | eq_refl))
   ·rfl
   ·exact e
  ·(repeat' (first | infer_instance | eq_refl))
 ·rfl
noncomputable def mx1 (l:List Int):Int:=(jt l).getD 1
theorem ze:mx1 []=1:=rfl
theorem kQ {l:List Int} (h:l ≠ []):mx1 l ∈ l:=by
 cases l with
 | nil=>exact absurd rfl h
 | cons x xs=>exact (gA xs x).1
theorem wj {l:List Int} {n:Int} (h:n ∈ l):n<=mx1 l:=by
 cases l with
 | nil=>cases h
 | cons x xs=>exact (gA xs x).2 n h
theorem wg {l:List Int} (h:l ≠ []):jt l=some (mx1 l):=by
 cases l with
 | nil=>exact absurd rfl h
 | cons x xs=>rfl
theorem wk {l:List Int} (h:∀ n ∈ l,1<=n):1<=mx1 l:=by
 cases l with
 | nil=>exact Int.le_refl 1
 | cons x xs=>exact h _ (kQ (by simp))
section
variable (w:Nat->Nat->Nat->Bool)
noncomputable def BW:Nat->Nat->Nat->Int
 | 0,_,_=>2
 | f+1,i,j=>1+mx1 (((List.range i).filter fun h=>w h i j).map fun h=>BW f h i)
theorem xg:∀ (f i j:Nat),2<=BW w f i j
 | 0,_,_=>Int.le_refl 2
 | f+1,i,j=>by
  show 2<=1+mx1 _
  have:=wk (l:=((List.range i).filter fun h=>w h i j).map fun h=>BW w f h i) fun n hn=>by
   obtain ⟨k,_,rfl⟩:=Co.mp hn
   have:=xg f k i
   omega
  omega
noncomputable def ks (n j:Nat):List Nat:=(List.range (n - (j+1))).map fun d=>j+1+d
theorem mem_ks {n j k:Nat}:k ∈ ks n j ↔ j < k/\k < n:=by
 unfold ks
 constructor
 ·intro h
  obtain ⟨d,hd,rfl⟩:=Co.mp h
  have:=List.mem_range.mp hd
  omega
 ·intro h
  exact Co.mpr ⟨k - (j+1),List.mem_range.mpr (by omega),by omega⟩
noncomputable def onF (n:Nat):Nat->Nat->Nat->Int
 | 0,_,_=>2
 | f+1,i,j=>1+mx1 (((ks n j).filter fun k=>w i j k).map fun k=>onF n f j k)
noncomputable def onE (n i j:Nat):Int:=onF w n (n - (j+1)) i j
theorem nK (n:Nat):∀ (f f' i j:Nat),n - (j+1)<=f->n - (j+1)<=f'->onF w n f i j=onF w n f' i j
 | 0,0,_,_,_,_=>rfl
 | 0,f'+1,i,j,h,_=>by
  have e:ks n j=[]:=by unfold ks;rw [show n - (j+1)=0 by omega];rfl
  unfold onF
  rw [e]
  rfl
 | f+1,0,i,j,_,h=>by
  have e:ks n j=[]:=by unfold ks;rw [show n - (j+1)=0 by omega];rfl
  unfold onF
  rw [e]
  rfl
 | f+1,f'+1,i,j,h,h'=>by
  unfold onF
  congr 2
  refine CU fun k hk=>?_
  have hk:=mem_ks.mp (CJ.mp hk).1
  exact nK n f f' j k (by omega) (by omega)
theorem qD (n i j:Nat):onE w n i j=1+mx1 (((ks n j).filter fun k=>w i j k).map fun k=>onE w n j k):=by
 have h:onE w n i j=onF w n (n - (j+1)+1) i j:=nK w n _ _ i j (Cq _) (Nat.le_succ _)
 rw [h]
 show 1+mx1 (((ks n j).filter fun k=>w i j k).map fun k=>onF w n (n - (j+1)) j k)=_
 congr 2
 refine CU fun k hk=>?_
 have hk:=mem_ks.mp (CJ.mp hk).1
 exact nK w n _ _ j k (by omega) (Cq _)
theorem rR (n:Nat):∀ (f i j:Nat),2<=onF w n f i j
 | 0,_,_=>Int.le_refl 2
 | f+1,i,j=>by
  show 2<=1+mx1 _
  have:=wk (l:=((ks n j).filter fun k=>w i j k).map fun k=>onF w n f j k) fun n' hn=>by
   obtain ⟨k,_,rfl⟩:=Co.mp hn
   have:=rR n f j k
   omega
  omega
theorem rS (n i j:Nat):2<=onE w n i j:=rR w n _ i j
theorem o4 {n i j k:Nat} (hw:w i j k=true) (hj:j < k) (hk:k < n):onE w n j k+1<=onE w n i j:=by
 rw [qD w n i j]
 have:=wj (l:=((ks n j).filter fun k=>w i j k).map fun k=>onE w n j k) (n:=onE w n j k) (Co.mpr ⟨k,CJ.mpr ⟨mem_ks.mpr ⟨hj,hk⟩,hw⟩,rfl⟩)
 omega
variable {w}
end
noncomputable abbrev k2 (i j:Nat):List Key:=[.inl (i:Int),.inl (j:Int)]
noncomputable abbrev k3 (i j k:Nat):List Key:=[.inl (i:Int),.inl (j:Int),.inl (k:Int)]
theorem BJ {i j a b:Nat} (h:k2 i j=k2 a b):i=a/\j=b:=by
 simp only [k2,List.cons.injEq,Sum.inl.injEq,and_true] at h
 omega
theorem wP (kvs:List (List Key × L3.D)) (k k':List Key) (v:L3.D):fh (iX kvs k v) k'=if k'=k then some v else fh kvs k':=by
 unfold iX
 by_cases ha:(kvs.any fun kv=>decide (kv.1=k))=true
 ·rw [if_pos ha]
  induction kvs with
  | nil=>simp at ha
  | cons p r ih =>
   unfold fh at *
   rw [Cu,List.find?_cons,List.find?_cons]
   by_cases h1:p.1=k
   ·by_cases h2:k'=k
    ·simp [h1,h2]
    ·have h3:¬ (k=k'):=fun e=>h2 e.symm
     simp only [h1,if_pos,decide_eq_true_eq,h3,decide_false,if_neg h2]
     by_cases hr:(r.any fun kv=>decide (kv.1=k))=true
     ·have:=ih hr
      simpa [h2] using this
     ·have hid:r.map (fun kv=>if kv.1=k then (kv.1,v) else kv)=r:=by
       conv=>rhs;rw [<- List.map_id r]
       refine CU fun x hx=>?_
       have:¬ x.1=k:=fun e=>hr (List.any_eq_true.mpr ⟨x,hx,Cv e⟩)
       simp [this]
      rw [hid]
   ·have hr:(r.any fun kv=>decide (kv.1=k))=true:=by simpa [h1] using ha
    have:=ih hr
    simp only [h1,if_false]
    by_cases h4:p.1=k'
    ·have h5:¬ (k'=k):=fun e=>h1 (h4.trans e)
     simp [h4,h5]
    ·simp only [h4,decide_false]
     exact this
 ·rw [if_neg ha]
  have hn:∀ x ∈ kvs,¬ x.1=k:=fun x hx e=>ha (List.any_eq_true.mpr ⟨x,hx,Cv e⟩)
  unfold fh
  rw [List.find?_append]
  by_cases h2:k'=k
  ·subst h2
   have:kvs.find? (fun kv=>decide (kv.1=k'))=none:=List.find?_eq_none.mpr fun x hx=>by simpa using hn x hx
   simp [this]
  ·have h3:¬ (k=k'):=fun e=>h2 e.symm
   simp [h2,h3]
theorem yB (kvs:List (List Key × L3.D)) (k:List Key) (v:L3.D):(iX kvs k v).length<=kvs.length+1:=by
 unfold iX
 split <;> simp
theorem yA {kvs:List (List Key × L3.D)} {k:List Key} {v:L3.D} {x:List Key × L3.D} (h:x ∈ iX kvs k v):x ∈ kvs\/x=(k,v):=by
 unfold iX at h
 split at h
 ·obtain ⟨y,hy,rfl⟩:=Co.mp h
  by_cases e:y.1=k
  ·rw [if_pos e,<- e];exact .inr rfl
  ·rw [if_neg e];exact .inl hy
 ·rcases Ci.mp h with h | h
  ·exact .inl h
  ·exact .inr (CH.mp h)
theorem nZ {kvs:List (List Key × L3.D)} {k:List Key} {d:L3.D} (h:fh kvs k=some d):(k,d) ∈ kvs:=by
 unfold fh at h
 obtain ⟨p,h1,rfl⟩:=Cc.mp h
 have h2:=List.find?_some h1
 have h3:p.1=k:=by simpa using h2
 rw [<- h3]
 exact List.mem_of_find?_eq_some h1
theorem AT {kvs:List (List Key × L3.D)} {i j:Nat} {d:L3.D} (h:fh kvs (k2 i j)=some d):aw (.dt kvs) (.tup [.int i,.int j])=some (d,.z):=by
 show pE (.dt kvs) (.tup [.int i,.int j])=_
 show (fh kvs (k2 i j)).map (fun d=>(d,Fl.z))=_
 rw [h];rfl
theorem k9 {kvs:List (List Key × L3.D)} {i j k:Nat} {d:L3.D} (h:fh kvs (k3 i j k)=some d):aw (.dt kvs) (.tup [.int i,.int j,.int k])=some (d,.z):=by
 show (fh kvs (k3 i j k)).map (fun d=>(d,Fl.z))=_
 rw [h];rfl
theorem set2 {kvs:List (List Key × L3.D)} {i j:Nat} {d:L3.D} (h:kvs.length < 16777216):x4 (.dt kvs) [.tup [.int i,.int j],d]=some (.dt (iX kvs (k2 i j) d),.non):=by
 show (if kvs.length < 16777216 then some (L3.D.dt (iX kvs (k2 i j) d),L3.D.non) else none)=_
 rw [if_pos h]
theorem fy (a b:Int):eqX (.int a) (.int b)=some (.bl (decide (a=b)),.z):=rfl
structure TbP (kvs:List (List Key × L3.D)) (n:Nat) (f:Nat->Nat->Int) (S:Nat->Nat->Prop) (c:Nat):Prop where
 all:∀ kv ∈ kvs,∃ i j,i < j/\j < n/\kv=(k2 i j,.int (f i j))
 get:∀ i j,S i j->fh kvs (k2 i j)=some (.int (f i j))
 len:kvs.length<=c
theorem TbP.put {kvs:List (List Key × L3.D)} {n:Nat} {f:Nat->Nat->Int} {S S':Nat->Nat->Prop} {c:Nat} (h:TbP kvs n f S c) {i j:Nat} (h1:i < j) (h2:j < n) (hS:∀ a b,S' a b->S a b\/(a=i/\b=j)):TbP (iX kvs (k2 i j) (.int (f i j))) n f S' (c+1) where
 all:=fun kv hk=>by
  rcases yA hk with hk | rfl
  ·exact h.all kv hk
  ·exact ⟨i,j,h1,h2,rfl⟩
 get:=fun a b hs=>by
  rw [wP]
  by_cases e:k2 a b=k2 i j
  ·obtain ⟨rfl,rfl⟩:=BJ e
   rw [if_pos rfl]
  ·rw [if_neg e]
   rcases hS a b hs with h' | ⟨rfl,rfl⟩
   ·exact h.get a b h'
   ·exact absurd rfl e
 len:=by have:=yB kvs (k2 i j) (.int (f i j));have:=h.len;omega
theorem TbP.mono {kvs:List (List Key × L3.D)} {n:Nat} {f:Nat->Nat->Int} {S S':Nat->Nat->Prop} {c c':Nat} (h:TbP kvs n f S c) (hS:∀ a b,S' a b->S a b) (hc:c<=c'):TbP kvs n f S' c':=⟨h.all,fun a b hs=>h.get a b (hS a b hs),CO h.len hc⟩
structure Sg where
 length:Nat
 f:Nat->Nat->Nat->Int
noncomputable def trn (ps:Sg) (i j k:Nat):Int:=ps.f i j k
noncomputable def d9 (ps:Sg) (T:List (List Key × L3.D)):Prop:=∀ i j k,i < j->j < k->k < ps.length->fh T (k3 i j k)=some (.int (trn ps i j k))
theorem mS {n i j k:Nat} (h1:i < j) (h2:j < k) (h3:k < n):(i,j,k) ∈ av n:=by
 refine CS.mpr ⟨i,List.mem_range.mpr (by omega),CS.mpr ⟨j - (i+1),List.mem_range.mpr (by omega),Co.mpr ⟨k - (j+1),List.mem_range.mpr (by omega),?_⟩⟩⟩
 refine Prod.ext rfl (Prod.ext ?_ ?_) <;> simp <;> omega
theorem BI {i j k a b c:Nat} (h:k3 i j k=k3 a b c):i=a/\j=b/\k=c:=by
 simp only [k3,List.cons.injEq,Sum.inl.injEq,and_true] at h
 omega
noncomputable def tn (ps:Sg) (t:Tri):Int:=trn ps t.1 t.2.1 t.2.2
noncomputable abbrev kT (t:Tri):List Key:=k3 t.1 t.2.1 t.2.2
theorem qP {t u:Tri} (h:kT t=kT u):t=u:=by
 obtain ⟨h1,h2,h3⟩:=BI h
 exact Prod.ext h1 (Prod.ext h2 h3)
theorem yo (i j m:Nat):(jK i j m).Nodup:=by
 unfold jK List.Nodup
 rw [List.pairwise_map]
 exact List.pairwise_lt_range.imp fun {a b} h e=>by
  have:=congrArg (fun t:Tri=>t.2.2) e
  simp only at this
  omega
theorem yp (n i m:Nat):(iW n i m).Nodup:=by
 unfold iW List.Nodup
 refine List.pairwise_flatMap.mpr ⟨fun a _=>yo _ _ _,List.pairwise_lt_range.imp fun {a b} h x hx y hy e=>?_⟩
 obtain ⟨u,_,rfl⟩:=Co.mp hx
 obtain ⟨v,_,rfl⟩:=Co.mp hy
 have:=congrArg (fun t:Tri=>t.2.1) e
 simp only at this
 omega
theorem nq (n:Nat):(av n).Nodup:=by
 unfold av mq List.Nodup
 refine List.pairwise_flatMap.mpr ⟨fun a _=>yp _ _ _,List.pairwise_lt_range.imp fun {a b} h x hx y hy e=>?_⟩
 obtain ⟨u,_,hx⟩:=CS.mp hx
 obtain ⟨u',_,rfl⟩:=Co.mp hx
 obtain ⟨v,_,hy⟩:=CS.mp hy
 obtain ⟨v',_,rfl⟩:=Co.mp hy
 have:=congrArg (fun t:Tri=>t.1) e
 simp only at this
 omega
theorem jY:∀ l:List Tri,iP (l.map Td)=some (l.map kT)
 | []=>rfl
 | t :: l=>by
  have:=jY l
  rw [Cu,Cu]
  show (match dD [.int t.1,.int t.2.1,.int t.2.2],iP (l.map Td) with | some k,some ks=>some (k :: ks) | _,_=>none)=_
  rw [this]
  rfl
theorem sg {v:Tri->L3.D}:∀ {l:List Tri} {t:Tri},t ∈ l->fh ((l.map kT).zip (l.map v)) (kT t)=some (v t)
 | u :: l,t,h=>by
  unfold fh
  rw [Cu,Cu,List.zip_cons_cons,List.find?_cons]
  by_cases e:kT u=kT t
  ·have:=qP e
   subst this
   simp
  ·have hm:t ∈ l:=by
    rcases Cf.mp h with rfl | h
    ·exact absurd rfl e
    ·exact h
   have:=sg (v:=v) hm
   unfold fh at this
   simp only [e,decide_false]
   exact this
noncomputable def T0 (ps:Sg):List (List Key × L3.D):=((av ps.length).map kT).zip ((av ps.length).map fun t=>L3.D.int (tn ps t))
theorem jH (ps:Sg):d9 ps (T0 ps):=fun i j k h1 h2 h3=>sg (v:=fun t=>L3.D.int (tn ps t)) (t:=(i,j,k)) (mS h1 h2 h3)
theorem jx {α:Type} (f:α->Int):∀ xs:List α,bM (xs.map fun x=>L3.D.int (f x))=some (xs.map f)
 | []=>rfl
 | x :: xs=>by simp only [Cu,bM,jx f xs,CF]
noncomputable def wv (ps:Sg) (way:Int) (h i j:Nat):Bool:=decide (trn ps h i j=way)
theorem zm {α:Type} (xs:List α) (f:α->Int):zn (.lst (xs.map fun x=>L3.D.int (f x))) (.int 1)=some (.int (mx1 (xs.map f)),.z):=by
 show (bM (xs.map fun x=>L3.D.int (f x))).map _=_
 rw [jx]
 show some _=_
 unfold mx1
 cases h:jt (xs.map f) <;> simp [h]
theorem yr {a:Int} (ha:-1000<=a/\a<=1000) {n:Nat} (hn:(a+1).toNat=n):qo [.int a,.int (-1),.int (-1)]=some (ji a n):=by
 have lm:cS a=true:=Cv (by omega)
 have lm2:cS (-1)=true:=Cv (by omega)
 show (if (cS a && cS (-1) && ((-1:Int) == -1))=true then some (ji a (a - (-1)).toNat) else none)=_
 rw [lm,lm2,show (a - (-1)).toNat=n by omega]
 rfl
theorem vC {hi:Int} {n i:Nat} {d:L3.D} (h:(ji hi n)[i]?=some d):i < n/\d=.int (hi - i):=by
 unfold ji at h
 rw [Cp] at h
 obtain ⟨k,a,b⟩:=Cc.mp h
 obtain ⟨hk,e⟩:=Cl.mp a
 rw [List.getElem_range] at e
 subst e
 rw [List.length_range] at hk
 exact ⟨hk,b.symm⟩
theorem vB {hi:Int} {n:Nat}:(ji hi n).length=n:=by unfold ji;simp
theorem wG (n j:Nat):aV ((j:Int)+1) (n - (j+1))=(ks n j).map fun k:Nat=>L3.D.int (k:Int):=by
 unfold aV ks
 rw [CT]
 refine CU fun d _=>?_
 show L3.D.int _=L3.D.int _
 congr 1
section
variable {ps:Sg} {way:Int} {T kvs:List (List Key × L3.D)} {i j n:Nat}
noncomputable abbrev owS (n:Nat) (way:Int) (T kvs:List (List Key × L3.D)) (a b:Option (L3.D × Fl)):Sto:=[some (.dt T,.u),some (.int (n:Int),.z),some (.int way,.z),some (.dt kvs,.u),a,b]
set_option tactic.hygienic true in
theorem yU (hn:n=ps.length) (hT:d9 ps T) (hj:j < n) (hi:i < j) (hl:n<=24) (hk:∀ k,j < k->k < n->fh kvs (k2 j k)=some (.int (onE (wv ps way) n j k))) :
  c8 (owS n way T kvs (some (.int i,.z)) (some (.int j,.z)))=some (.ok (.val (.lst (((ks n j).filter fun k=>wv ps way i j k).map fun k=>L3.D.int (onE (wv ps way) n j k))) .u),owS n way T kvs (some (.int i,.z)) (some (.int j,.z))):=by
 obtain ⟨τ',e,a,rfl⟩:=cD (bnd:=am 0) (c:=cb) (elt:=b9) (fun τ=>∃ a,τ=[a,some (.dt kvs,.u),some (.int j,.z),some (.int way,.z),some (.dt T,.u),some (.int i,.z)]) (fun k:Nat=>L3.D.int (k:Int)) (fun k=>wv ps way i j k) (fun k=>L3.D.int (onE (wv ps way) n j k)) (xs:=ks n j) (τ:=[none,some (.dt kvs,.u),some (.int j,.z),some (.int way,.z),some (.dt T,.u),some (.int i,.z)]) ⟨none,rfl⟩ (by
  rintro k hkk τ ⟨a,rfl⟩
  have hkk:=mem_ks.mp hkk
  have s3:=k9 (hT i j k hi hkk.1 (by omega))
  have s2:=AT (hk k hkk.1 hkk.2)
  have c:cb [some (.int k,.z),some (.dt kvs,.u),some (.int j,.z),some (.int way,.z),some (.dt T,.u),some (.int i,.z)]=some (.ok (wv ps way i j k),[some (.int k,.z),some (.dt kvs,.u),some (.int j,.z),some (.int way,.z),some (.dt T,.u),some (.int i,.z)]):=by
   unfold cb
   (repeat' (first | infer_instance | exact s3 | exact fy _ _ | eq_refl))
  have el:b9 [some (.int k,.z),some (.dt kvs,.u),some (.int j,.z),some (.int way,.z),some (.dt T,.u),some (.int i,.z)]=some (.ok (.val (.int (onE (wv ps way) n j k)) .z),[some (.int k,.z),some (.dt kvs,.u),some (.int j,.z),some (.int way,.z),some (.dt T,.u),some (.int i,.z)]):=by
   unfold b9
   (repeat' (first | infer_instance | exact s2 | eq_refl))
  exact ⟨_,_,rfl,c,fun _=>⟨_,rfl⟩,fun _=>⟨_,_,_,_,el,rfl,rfl,_,rfl⟩⟩)
 rw [<- wG] at e
 have hr:dA [.int ((j:Int)+1),.int (n:Nat)]=some (aV ((j:Int)+1) (n - (j+1))):=fi (by omega) (by omega) (by omega)
 have im:aT dA (ab (ah bg (ac 5) (mC (.int 1))) (ab (ac 1) ai)) (owS n way T kvs (some (.int i,.z)) (some (.int j,.z)))=some (.ok ([],aV ((j:Int)+1) (n - (j+1))),owS n way T kvs (some (.int i,.z)) (some (.int j,.z))):=by (repeat' (first | with_reducible apply cC (h3:=hr) | infer_instance | eq_refl))
 exact bA (rs:=[]) im e (by rw [bv];omega) rfl
set_option tactic.hygienic true in
theorem yV (hn:n=ps.length) (hT:d9 ps T) (hj:j < n) (hi:i < j) (hl:n<=24) (hk:∀ k,j < k->k < n->fh kvs (k2 j k)=some (.int (onE (wv ps way) n j k))) (hc:kvs.length < 16777216) :
  cf (owS n way T kvs (some (.int i,.z)) (some (.int j,.z)))=some (.ok .nx,owS n way T (iX kvs (k2 i j) (.int (onE (wv ps way) n i j))) (some (.int i,.z)) (some (.int j,.z))):=by
 have c:=yU hn hT hj hi hl hk
 have v:ah bg (mC (.int 1)) (ah zn c8 (mC (.int 1))) (owS n way T kvs (some (.int i,.z)) (some (.int j,.z)))=some (.ok (.val (.int (onE (wv ps way) n i j)) .z),owS n way T kvs (some (.int i,.z)) (some (.int j,.z))):=by
  rw [qD]
  exact eX i_c (eX c i_c rfl rfl (zm _ _)) rfl rfl rfl
 unfold cf
 exact Al (i:=3) (ρ1:=owS n way T kvs (some (.int i,.z)) (some (.int j,.z))) (ρ2:=owS n way T kvs (some (.int i,.z)) (some (.int j,.z))) (ρ3:=owS n way T kvs (some (.int i,.z)) (some (.int j,.z))) v rfl (by (repeat' (first | infer_instance | eq_refl))) rfl rfl (set2 hc)
set_option tactic.hygienic true in
theorem AZ (hn:n=ps.length) (hT:d9 ps T) (hl:n<=24) (h2:2<=n):∃ kvs,dn [(.dt T,.u),(.int (n:Int),.z),(.int way,.z)]=some (.ok (.dt kvs,.u),[(.dt T,.u),(.int (n:Int),.z),(.int way,.z)])/\TbP kvs n (onE (wv ps way) n) (fun a b=>a < b/\b < n) 1000:=by
 have inner:∀ (i:Nat) (kvs:List (List Key × L3.D)) (v5:Option (L3.D × Fl)),i+1 < n->TbP kvs n (onE (wv ps way) n) (fun a b=>a < b/\b < n/\i < a) (25 * (n - i)) ->
   ∃ kvs' v5',ce (owS n way T kvs (some (.int i,.z)) v5)=some (.ok .nx,owS n way T kvs' (some (.int i,.z)) v5')/\TbP kvs' n (onE (wv ps way) n) (fun a b=>a < b/\b < n/\i<=a) (25 * (n - i+1)):=by
  intro i kvs v5 hi tb
  obtain ⟨ρ',e,kvs',v5',rfl,tb'⟩:=bL (bnd:=am 5) (b:=cf) (fun m ρ=>∃ kvs v5,ρ=owS n way T kvs (some (.int i,.z)) v5/\TbP kvs n (onE (wv ps way) n) (fun a b=>a < b/\b < n/\(i < a\/(a=i/\b < i+1+m))) (25 * (n - i)+m)) (ds:=aV ((i:Int)+1) (n - (i+1))) (ρ:=owS n way T kvs (some (.int i,.z)) v5) (k:=0) ⟨kvs,v5,rfl,tb.mono (fun a b h=>by omega) (by omega)⟩ (by
   rintro m d ρ hd ⟨kvs,v5,rfl,tb⟩
   obtain ⟨hm,rfl⟩:=bX hd
   rw [Cz] at tb ⊢
   have b:=yV (way:=way) (kvs:=kvs) (i:=i) (j:=i+1+m) hn hT (by omega) (by omega) hl (fun k h1 h2=>tb.get (i+1+m) k ⟨by omega,by omega,.inl (by omega)⟩) (by have:=tb.len;omega)
   rw [show ((i+1+m:Nat):Int)=(i:Int)+1+m by omega] at b
   refine ⟨_,_,rfl,.inl b,_,_,rfl,?_⟩
   exact (tb.put (i:=i) (j:=i+1+m) (by omega) (by omega) (fun a b h=>by omega)).mono (fun a b h=>h) (by omega))
  rw [bv,Cz] at tb'
  have hr:dA [.int ((i:Int)+1),.int (n:Nat)]=some (aV ((i:Int)+1) (n - (i+1))):=fi (by omega) (by omega) (by omega)
  refine ⟨kvs',v5',?_,tb'.mono (fun a b h=>by omega) (by omega)⟩
  unfold ce
  apply dR
  ·(repeat' (first | with_reducible apply cC (h3:=hr) | infer_instance | eq_refl))
  ·rfl
  ·exact e
 obtain ⟨ρ',e,kvs',v4,v5,rfl,tb'⟩:=bL (bnd:=am 4) (b:=ce) (fun m ρ=>∃ kvs v4 v5,ρ=owS n way T kvs v4 v5/\TbP kvs n (onE (wv ps way) n) (fun a b=>a < b/\b < n/\n - 1<=a+m) (25 * (m+2))) (ds:=ji ((n:Int) - 2) (n - 1)) (ρ:=owS n way T [] none none) (k:=0) ⟨[],none,none,rfl,⟨fun _ h=>(by cases h),fun a b h=>by omega,by simp⟩⟩ (by
  rintro m d ρ hd ⟨kvs,v4,v5,rfl,tb⟩
  obtain ⟨hm,rfl⟩:=vC hd
  rw [Cz] at tb ⊢
  obtain ⟨kvs',v5',e,tb'⟩:=inner (n - 2 - m) kvs v5 (by omega) (tb.mono (fun a b h=>by omega) (by omega))
  rw [show ((n - 2 - m:Nat):Int)=(n:Int) - 2 - m by omega] at e
  exact ⟨_,_,rfl,.inl e,_,_,_,rfl,tb'.mono (fun a b h=>by omega) (by omega)⟩)
 rw [vB,Cz] at tb'
 have hr:qo [.int ((n:Int) - 2),.int (-1),.int (-1)]=some (ji ((n:Int) - 2) (n - 1)):=yr (by omega) (by omega)
 refine ⟨kvs',?_,tb'.mono (fun a b h=>by omega) (by omega)⟩
 apply bF (ρ:=[some (.dt T,.u),some (.int (n:Int),.z),some (.int way,.z),none,none,none]) rfl rfl
 ·apply aj (ρ1:=owS n way T [] none none)
  ·rfl
  ·apply aj
   ·apply dR
    ·(repeat' (first | with_reducible apply cC (h3:=hr) | infer_instance | eq_refl))
    ·rfl
    ·exact e
   ·(repeat' (first | infer_instance | eq_refl))
 ·rfl
end
noncomputable abbrev Fo:=Tri × Nat
noncomputable def Qd (f:Fo):L3.D:=.tup [.int f.1.1,.int f.1.2.1,.int f.1.2.2,.int f.2]
noncomputable def nz (n:Nat) (t:Tri):List Fo:=(List.range (n - (t.2.2+1))).map fun m=>(t,t.2.2+1+m)
noncomputable def frs (n:Nat) (l:List Tri):List Fo:=l.flatMap (nz n)
theorem oS (n:Nat) (t:Tri):(nz n t).length=n - (t.2.2+1):=by simp [nz]
theorem n4 {n:Nat}:∀ l:List Tri,(frs n l).length<=n * l.length
 | []=>by simp [frs]
 | t :: l=>by
  have:=n4 (n:=n) l
  have h:(frs n (t :: l)).length=(nz n t).length+(frs n l).length:=by simp [frs]
  rw [h,oS,CC,Nat.mul_succ]
  omega
theorem zi {n:Nat} {f:Fo} (h:f ∈ frs n (av n)):f.1.1 < f.1.2.1/\f.1.2.1 < f.1.2.2/\f.1.2.2 < f.2/\f.2 < n:=by
 obtain ⟨t,ht,hf⟩:=CS.mp h
 obtain ⟨m,hm,rfl⟩:=Co.mp hf
 obtain ⟨h1,h2,h3⟩:=fO ht
 have:=List.mem_range.mp hm
 refine ⟨h1,h2,?_,?_⟩
 ·show t.2.2 < t.2.2+1+m
  omega
 ·show t.2.2+1+m < n
  omega
set_option tactic.hygienic true in
theorem ui {n:Nat} (hn:n<=25) {t:Tri} (ht:t ∈ av n) {xs:List L3.D} (hx:xs.length<=1000000):gw [some (.int n,.z),some (.lst xs,.u),some (Td t,.z)]=some (.ok .nx,[some (.int n,.z),some (.lst (xs ++ (nz n t).map Qd),.u),some (Td t,.z)]):=by
 obtain ⟨h1,h2,h3⟩:=fO ht
 obtain ⟨i,j,k⟩:=t
 dsimp only at h1 h2 h3
 obtain ⟨τ',e,a,rfl⟩:=dU (bnd:=am 0) (c:=dW) (elt:=i5) (fun τ=>∃ a,τ=[a,some (Td (i,j,k),.z)]) (fun _=>true) (fun d=>.tup [.int i,.int j,.int k,d]) (ds:=aV ((k:Int)+1) (n - (k+1))) (τ:=[none,some (Td (i,j,k),.z)]) ⟨none,rfl⟩ (by
  rintro d hd τ ⟨a,rfl⟩
  have hc:bg (Td (i,j,k)) (.tup [d])=some (.tup [.int i,.int j,.int k,d],.z):=iB (A:=[.int i,.int j,.int k]) (B:=[d]) (by simp)
  exact ⟨[some (d,.z),some (Td (i,j,k),.z)],_,rfl,rfl,(fun h=>by cases h),fun _=>⟨.val (.tup [.int i,.int j,.int k,d]) .z,[some (d,.z),some (Td (i,j,k),.z)],(.tup [.int i,.int j,.int k,d],.z),_,by unfold i5;(repeat' (first | infer_instance | exact hc | eq_refl)),rfl,rfl,_,rfl⟩⟩)
 have e4:((aV ((k:Int)+1) (n - (k+1))).filter fun _=>true).map (fun d=>L3.D.tup [.int i,.int j,.int k,d])=(nz n (i,j,k)).map Qd:=by
  rw [CQ.mpr (fun _ _=>rfl)]
  simp [aV,nz,Function.comp_def,Qd]
 rw [e4] at e
 have hr:dA [.int ((k:Int)+1),.int n]=some (aV ((k:Int)+1) (n - (k+1))):=fi (by omega) (by omega) (by omega)
 have hk:aw (Td (i,j,k)) (.int 2)=some (.int k,.z):=rfl
 have c:lL [some (.int n,.z),some (.lst xs,.u),some (Td (i,j,k),.z)]=some (.ok (.val (.lst ((nz n (i,j,k)).map Qd)) .u),[some (.int n,.z),some (.lst xs,.u),some (Td (i,j,k),.z)]):=bA (rs:=[]) (by (repeat' (first | with_reducible apply cC (h3:=hr) | infer_instance | exact hk | eq_refl))) e (by rw [bv];omega) rfl
 have hl:xs.length+((nz n (i,j,k)).map Qd).length<=16777216:=by
  rw [Ck,oS];dsimp only;omega
 unfold gw
 (repeat' (first | with_reducible exact c | infer_instance | exact wS hl | eq_refl))
set_option tactic.hygienic true in
theorem tv (n:Nat) (hn:n<=25):k4 [(.int n,.z)]=some (.ok (.lst ((frs n (av n)).map Qd),.u),[(.int n,.z)]):=by
 have th:=iV n hn
 have sm:=eM hn
 obtain ⟨ρ',e,v2,rfl⟩:=bL (bnd:=am 2) (b:=gw) (fun m ρ=>∃ v2,ρ=[some (.int n,.z),some (.lst ((frs n ((av n).take m)).map Qd),.u),v2]) (ds:=(av n).map Td) (ρ:=[some (.int n,.z),some (.lst [],.u),none]) (k:=0) ⟨none,rfl⟩ (by
  rintro m d ρ hd ⟨v2,rfl⟩
  rw [Cp] at hd
  obtain ⟨t,ht,rfl⟩:=Cc.mp hd
  have hm:=Cm ht
  have hx:((frs n ((av n).take m)).map Qd).length<=1000000:=by
   rw [Ck]
   have h1:=n4 (n:=n) ((av n).take m)
   have h2:((av n).take m).length<=15625:=by rw [CD];omega
   have h3:n * ((av n).take m).length<=25 * 15625:=Nat.mul_le_mul hn h2
   omega
  rw [Cz]
  refine ⟨_,_,rfl,.inl (ui hn hm hx),some (Td t,.z),?_⟩
  rw [List.take_add_one,ht]
  simp [frs])
 rw [Ck,Cz,List.take_length] at *
 apply bF (ρ:=[some (.int n,.z),none,none]) rfl rfl
 ·apply aj
  ·(repeat' (first | infer_instance | eq_refl))
  ·apply aj
   ·apply dR
    ·(repeat' (first | infer_instance | with_reducible apply aD (th) | eq_refl))
    ·rfl
    ·exact e
   ·(repeat' (first | infer_instance | eq_refl))
 ·rfl
theorem qy {b B s:Int} (hb:0 < b) (e:b * B=s) (hs:0 < s):0 < B:=by
 rcases Int.lt_or_le 0 B with h | h
 ·exact h
 ·have:=Int.mul_le_mul_of_nonneg_left h (Int.le_of_lt hb)
  rw [Int.mul_zero] at this
  omega
theorem nM {b B s:Int} (hb:0 < b) (e:b * B=s) (hs:s<=0):¬ 0 < B:=fun h=>by
 have:=Int.mul_pos hb h
 omega
theorem nO {u v A C:Int} (hu:0 < u) (hv:0 < v) (hA:0 < A) (hC:0 < C):0 < u * A+v * C:=by
 have h1:=Int.mul_pos hu hA
 have h2:=Int.mul_pos hv hC
 omega
theorem lF {u v A C:Int} (hu:0 < u) (hv:0 < v) (hA:¬ 0 < A) (hC:¬ 0 < C):u * A+v * C<=0:=by
 have h1:=Int.mul_le_mul_of_nonneg_left (show A<=0 by omega) (Int.le_of_lt hu)
 have h2:=Int.mul_le_mul_of_nonneg_left (show C<=0 by omega) (Int.le_of_lt hv)
 rw [Int.mul_zero] at h1 h2
 omega
theorem quad1 (h i j k:Pt):(j.1 - h.1) * aU h i k=(k.1 - h.1) * aU h i j+(i.1 - h.1) * aU h j k:=by
 simp only [aU];grind
theorem quad2 (h i j k:Pt):(k.1 - i.1) * aU h j k=(k.1 - h.1) * aU i j k+(k.1 - j.1) * aU h i k:=by
 simp only [aU];grind
theorem quad3 (h i j k:Pt):(j.1 - i.1) * aU h i k=(k.1 - i.1) * aU h i j+(i.1 - h.1) * aU i j k:=by
 simp only [aU];grind
noncomputable def chg (a b c d:Int):Nat:=(if a=b then 0 else 1)+(if b=c then 0 else 1)+(if c=d then 0 else 1)
theorem BY {h i j k:Pt} (h1:h.1 < i.1) (h2:i.1 < j.1) (h3:j.1 < k.1):chg (d7 h i j) (d7 h i k) (d7 h j k) (d7 i j k)<=1:=by
 have q1:=quad1 h i j k
 have q2:=quad2 h i j k
 have q3:=quad3 h i j k
 have p1:0 < j.1 - h.1:=by omega
 have p2:0 < k.1 - h.1:=by omega
 have p3:0 < i.1 - h.1:=by omega
 have p4:0 < k.1 - i.1:=by omega
 have p5:0 < k.1 - j.1:=by omega
 have p6:0 < j.1 - i.1:=by omega
 unfold d7
 generalize aU h i j=A at *
 generalize aU h i k=B at *
 generalize aU h j k=C at *
 generalize aU i j k=D at *
 by_cases a:0 < A <;> by_cases b:0 < B <;> by_cases c:0 < C <;> by_cases d:0 < D <;> simp only [a,b,c,d,if_true,if_false] <;> first
  | decide
  | exact absurd (qy p1 q1 (nO p2 p3 a c)) b
  | exact absurd b (nM p1 q1 (lF p2 p3 a c))
  | exact absurd (qy p4 q2 (nO p2 p5 d b)) c
  | exact absurd c (nM p4 q2 (lF p2 p5 d b))
  | exact absurd (qy p6 q3 (nO p4 p3 a d)) b
  | exact absurd b (nM p6 q3 (lF p4 p3 a d))
structure OkS (s:Sg):Prop where
 pos:0 < s.length
 most:s.length<=24
 sgn:∀ i j k,i < j->j < k->k < s.length->s.f i j k=1\/s.f i j k = -1
 chg1:∀ h i j k,h < i->i < j->j < k->k < s.length->chg (trn s h i j) (trn s h i k) (trn s h j k) (trn s i j k)<=1
noncomputable abbrev R4 (a b c d:Int):L3.D:=.lst [.int a,.int b,.int c,.int d]
noncomputable def g4 (a b c d:Int):L3.D->Bool
 | .int i=>if i=0 then !decide (a=b) else if i=1 then !decide (b=c) else !decide (c=d)
 | _=>true
set_option tactic.hygienic true in
theorem c4 {a b c d i x y:Int} (h1:aw (R4 a b c d) (.int i)=some (.int x,.z)) (h2:aw (R4 a b c d) (.int (i+1))=some (.int y,.z)):aI [some (.int i,.z),some (R4 a b c d,.u)]=some (.ok (!decide (x=y)),[some (.int i,.z),some (R4 a b c d,.u)]):=by
 have hn:=nN (i:=x) (j:=y)
 unfold aI
 (repeat' (first | infer_instance | exact h1 | exact h2 | exact hn | eq_refl))
theorem oR (a b c d:Int):∃ out τ',cp (am 0) aI a9 [.int 0,.int 1,.int 2] [none,some (R4 a b c d,.u)]=some (.ok out,τ')/\(∃ v,τ'=[v,some (R4 a b c d,.u)])/\out.length=chg a b c d:=by
 obtain ⟨τ',e,v,rfl⟩:=dU (bnd:=am 0) (c:=aI) (elt:=a9) (fun τ=>∃ v,τ=[v,some (R4 a b c d,.u)]) (g4 a b c d) (fun d=>d) (ds:=[.int 0,.int 1,.int 2]) (τ:=[none,some (R4 a b c d,.u)]) ⟨none,rfl⟩ (by
  have step:∀ {i x y:Int} (v:Option (L3.D × Fl)),aw (R4 a b c d) (.int i)=some (.int x,.z)->aw (R4 a b c d) (.int (i+1))=some (.int y,.z)->g4 a b c d (.int i) = !decide (x=y)->∃ τ1 τ2,am 0 (.int i) [v,some (R4 a b c d,.u)]=some τ1/\aI τ1=some (.ok (g4 a b c d (.int i)),τ2)/\(g4 a b c d (.int i)=false->∃ v,τ2=[v,some (R4 a b c d,.u)])/\(g4 a b c d (.int i)=true->∃ r τ3 p τ4,a9 τ2=some (.ok r,τ3)/\gH r τ3=some (.ok p,τ4)/\p.1=.int i/\∃ v,τ4=[v,some (R4 a b c d,.u)]):=fun {i x y} v h1 h2 h3 =>
   ⟨[some (.int i,.z),some (R4 a b c d,.u)],[some (.int i,.z),some (R4 a b c d,.u)],rfl,by rw [h3];exact c4 h1 h2,fun _=>⟨_,rfl⟩,fun _=>⟨.pl 0,[some (.int i,.z),some (R4 a b c d,.u)],(.int i,.z),[some (.int i,.z),some (R4 a b c d,.u)],rfl,rfl,rfl,_,rfl⟩⟩
  rintro d' hd τ ⟨v,rfl⟩
  rcases Cf.mp hd with rfl | hd
  ·exact step (x:=a) (y:=b) v rfl rfl rfl
  rcases Cf.mp hd with rfl | hd
  ·exact step (x:=b) (y:=c) v rfl rfl rfl
  rcases Cf.mp hd with rfl | hd
  ·exact step (x:=c) (y:=d) v rfl rfl rfl
  ·cases hd)
 refine ⟨_,_,e,⟨v,rfl⟩,?_⟩
 have k:∀ (x y:Int),(if x=y then 0 else 1:Nat)=bif decide (x=y) then 0 else 1:=fun x y=>by by_cases h:x=y <;> simp [h]
 have g0:g4 a b c d (.int 0) = !decide (a=b):=rfl
 have g1:g4 a b c d (.int 1) = !decide (b=c):=rfl
 have g2:g4 a b c d (.int 2) = !decide (c=d):=rfl
 unfold chg
 rw [k a b,k b c,k c d]
 simp only [Ck,List.filter_cons,List.filter_nil,g0,g1,g2]
 generalize decide (a=b)=p
 generalize decide (b=c)=q
 generalize decide (c=d)=r
 cases p <;> cases q <;> cases r <;> rfl
set_option tactic.hygienic true in
theorem ql {ps:Sg} {T:List (List Key × L3.D)} (hT:d9 ps T) (g:OkS ps) {f:Fo} (hf:f ∈ frs ps.length (av ps.length)):bE [(.dt T,.u),(Qd f,.z)]=some (.ok (.bl true,.z),[(.dt T,.u),(Qd f,.z)]):=by
 obtain ⟨h1,h2,h3,h4⟩:=zi hf
 obtain ⟨⟨h,i,j⟩,k⟩:=f
 dsimp only at h1 h2 h3 h4
 have t1:aw (.dt T) (.tup [.int h,.int i,.int j])=some (.int (trn ps h i j),.z):=k9 (hT h i j h1 h2 (by omega))
 have t2:aw (.dt T) (.tup [.int h,.int i,.int k])=some (.int (trn ps h i k),.z):=k9 (hT h i k h1 (by omega) h4)
 have t3:aw (.dt T) (.tup [.int h,.int j,.int k])=some (.int (trn ps h j k),.z):=k9 (hT h j k (by omega) h3 h4)
 have t4:aw (.dt T) (.tup [.int i,.int j,.int k])=some (.int (trn ps i j k),.z):=k9 (hT i j k h2 h3 h4)
 have hc:chg (trn ps h i j) (trn ps h i k) (trn ps h j k) (trn ps i j k)<=1:=g.chg1 h i j k h1 h2 h3 h4
 generalize trn ps h i j=a at *
 generalize trn ps h i k=b at *
 generalize trn ps h j k=c at *
 generalize trn ps i j k=d at *
 obtain ⟨out,τ',e,⟨v,rfl⟩,hl⟩:=oR a b c d
 have q0:aw (Qd ((h,i,j),k)) (.int 0)=some (.int h,.z):=rfl
 have q1:aw (Qd ((h,i,j),k)) (.int 1)=some (.int i,.z):=rfl
 have q2:aw (Qd ((h,i,j),k)) (.int 2)=some (.int j,.z):=rfl
 have q3:aw (Qd ((h,i,j),k)) (.int 3)=some (.int k,.z):=rfl
 have hr:cV [.int 3]=some [.int 0,.int 1,.int 2]:=rfl
 generalize Qd ((h,i,j),k)=Q at *
 generalize L3.D.int (h:Int)=dh at *
 generalize L3.D.int (i:Int)=di at *
 generalize L3.D.int (j:Int)=dj at *
 generalize L3.D.int (k:Int)=dk at *
 have e2:cA [some (.dt T,.u),some (Q,.z),some (dh,.z),some (di,.z),some (dj,.z),some (dk,.z),some (R4 a b c d,.u)]=some (.ok (.val (.lst out) .u),[some (.dt T,.u),some (Q,.z),some (dh,.z),some (di,.z),some (dj,.z),some (dk,.z),some (R4 a b c d,.u)]):=bA (rs:=[]) (by (repeat' (first | with_reducible apply cC (h3:=hr) | infer_instance | eq_refl))) e (by decide) rfl
 have hle:leI (.int (out.length:Int)) (.int 1)=some (.bl true,.z):=by
  simp [gz];omega
 have l1:ah aw (ac 0) (bI (ab (ac 2) (ab (ac 3) (ab (ac 4) ai)))) [some (.dt T,.u),some (Q,.z),some (dh,.z),some (di,.z),some (dj,.z),some (dk,.z),none]=some (.ok (.val (.int a) .z),[some (.dt T,.u),some (Q,.z),some (dh,.z),some (di,.z),some (dj,.z),some (dk,.z),none]):=by (repeat' (first | infer_instance | exact t1 | eq_refl))
 have l2:ah aw (ac 0) (bI (ab (ac 2) (ab (ac 3) (ab (ac 5) ai)))) [some (.dt T,.u),some (Q,.z),some (dh,.z),some (di,.z),some (dj,.z),some (dk,.z),none]=some (.ok (.val (.int b) .z),[some (.dt T,.u),some (Q,.z),some (dh,.z),some (di,.z),some (dj,.z),some (dk,.z),none]):=by (repeat' (first | infer_instance | exact t2 | eq_refl))
 have l3:ah aw (ac 0) (bI (ab (ac 2) (ab (ac 4) (ab (ac 5) ai)))) [some (.dt T,.u),some (Q,.z),some (dh,.z),some (di,.z),some (dj,.z),some (dk,.z),none]=some (.ok (.val (.int c) .z),[some (.dt T,.u),some (Q,.z),some (dh,.z),some (di,.z),some (dj,.z),some (dk,.z),none]):=by (repeat' (first | infer_instance | exact t3 | eq_refl))
 have l4:ah aw (ac 0) (bI (ab (ac 3) (ab (ac 4) (ab (ac 5) ai)))) [some (.dt T,.u),some (Q,.z),some (dh,.z),some (di,.z),some (dj,.z),some (dk,.z),none]=some (.ok (.val (.int d) .z),[some (.dt T,.u),some (Q,.z),some (dh,.z),some (di,.z),some (dj,.z),some (dk,.z),none]):=by (repeat' (first | infer_instance | exact t4 | eq_refl))
 apply bF (ρ:=[some (.dt T,.u),some (Q,.z),none,none,none,none,none]) rfl rfl
 ·unfold dw
  apply aj (ρ1:=[some (.dt T,.u),some (Q,.z),some (dh,.z),none,none,none,none])
  ·(repeat' (first | infer_instance | exact q0 | eq_refl))
  apply aj (ρ1:=[some (.dt T,.u),some (Q,.z),some (dh,.z),some (di,.z),none,none,none])
  ·(repeat' (first | infer_instance | exact q1 | eq_refl))
  apply aj (ρ1:=[some (.dt T,.u),some (Q,.z),some (dh,.z),some (di,.z),some (dj,.z),none,none])
  ·(repeat' (first | infer_instance | exact q2 | eq_refl))
  apply aj (ρ1:=[some (.dt T,.u),some (Q,.z),some (dh,.z),some (di,.z),some (dj,.z),some (dk,.z),none])
  ·(repeat' (first | infer_instance | exact q3 | eq_refl))
  apply aj (ρ1:=[some (.dt T,.u),some (Q,.z),some (dh,.z),some (di,.z),some (dj,.z),some (dk,.z),some (R4 a b c d,.u)])
  ·(repeat' (first | with_reducible exact l1 | with_reducible exact l2 | with_reducible exact l3 | with_reducible exact l4 | infer_instance | eq_refl))
  ·apply jz
   ·(repeat' (first | with_reducible exact e2 | infer_instance | exact hle | eq_refl))
   ·rfl
 ·rfl
set_option tactic.hygienic true in
theorem rF {ps:Sg} (hn:ps.length<=25):bu [(.int ps.length,.z),(.tup ((av ps.length).map fun t=>.int (tn ps t)),.z)]=some (.ok (.dt (T0 ps),.u),[(.int ps.length,.z),(.tup ((av ps.length).map fun t=>.int (tn ps t)),.z)]):=by
 have th:=iV ps.length hn
 have hz:dzD [.lst ((av ps.length).map Td),.tup ((av ps.length).map fun t=>.int (tn ps t))]=some (.dt (T0 ps),.u):=by
  show ((iP ((av ps.length).map Td)).bind fun ks=>if ks.length=((av ps.length).map fun t=>L3.D.int (tn ps t)).length/\ks.Nodup then some ((.dt (ks.zip ((av ps.length).map fun t=>L3.D.int (tn ps t))),.u):L3.D × Fl) else none)=_
  rw [jY]
  show (if ((av ps.length).map kT).length=((av ps.length).map fun t=>L3.D.int (tn ps t)).length/\((av ps.length).map kT).Nodup then _ else _)=_
  rw [if_pos]
  ·rfl
  refine ⟨by simp,?_⟩
  unfold List.Nodup
  rw [List.pairwise_map]
  exact (nq _).imp fun h e=>h (qP e)
 generalize (av ps.length).map (fun t=>L3.D.int (tn ps t))=S at *
 generalize T0 ps=T at *
 apply bF (ρ:=[some (.int ps.length,.z),some (.tup S,.z)]) rfl rfl
 ·apply jz
  ·(repeat' (first | infer_instance | with_reducible apply aD (th) | exact hz | eq_refl))
  ·rfl
 ·rfl
set_option tactic.hygienic true in
theorem yg {k lo hi:Int} (h1:lo<=k) (h2:k<=hi):dq [(.int k,.z),(.int lo,.z),(.int hi,.z)]=some (.ok (.non,.z),[(.int k,.z),(.int lo,.z),(.int hi,.z)]):=by
 have l1:leI (.int lo) (.int k)=some (.bl true,.z):=by simp [gz,h1]
 have l2:leI (.int k) (.int hi)=some (.bl true,.z):=by simp [gz,h2]
 have f:=mK k
 apply F_nx (ρ:=[some (.int k,.z),some (.int lo,.z),some (.int hi,.z)]) rfl rfl
 ·apply dy
  ·apply se (b:=false)
   ·apply ib (b:=true)
    (repeat' (first | infer_instance | with_reducible apply aD (f) | eq_refl))
   ·rfl
   ·exact ib (ug (zE (bp rfl) (bp rfl) rfl rfl l1 (bp rfl) rfl rfl l2) rfl)
  ·rfl
  ·rfl
 ·rfl
set_option tactic.hygienic true in
theorem qk {s:Int} (h:s=1\/s = -1):iF [(.int s,.z)]=some (.ok (.bl true,.z),[(.int s,.z)]):=by
 have f:=mK s
 rcases h with rfl | rfl
 ·apply bF (ρ:=[some (.int 1,.z)]) rfl rfl
  ·apply jz
   ·apply kU (b:=true)
    ·(repeat' (first | infer_instance | with_reducible apply aD (f) | eq_refl))
    ·rfl
    ·rfl
    ·apply BL (b:=true)
     ·exact eX (bp rfl) i_c rfl rfl rfl
     ·rfl
     ·rfl
   ·rfl
  ·rfl
 ·apply bF (ρ:=[some (.int (-1),.z)]) rfl rfl
  ·apply jz
   ·apply kU (b:=true)
    ·(repeat' (first | infer_instance | with_reducible apply aD (f) | eq_refl))
    ·rfl
    ·rfl
    ·apply BM (b:=false)
     ·exact eX (bp rfl) i_c rfl rfl rfl
     ·rfl
     ·rfl
     ·exact eX (bp rfl) i_c rfl rfl rfl
   ·rfl
  ·rfl
set_option tactic.hygienic true in
theorem yn {ps:Sg} (g:OkS ps):du [(.int ps.length,.z),(.tup ((av ps.length).map fun t=>.int (tn ps t)),.z)]=some (.ok (.bl true,.z),[(.int ps.length,.z),(.tup ((av ps.length).map fun t=>.int (tn ps t)),.z)]):=by
 have hn:ps.length<=25:=by have:=g.most;omega
 have sm:=eM (n:=ps.length) hn
 have fm:(frs ps.length (av ps.length)).length < 16777216:=by
  have h1:=n4 (n:=ps.length) (av ps.length)
  have h3:ps.length * (av ps.length).length<=25 * 15625:=Nat.mul_le_mul hn sm
  omega
 generalize hS:(av ps.length).map (fun t=>L3.D.int (tn ps t))=S
 have th:=iV ps.length hn
 have fo:=tv ps.length hn
 have hb:=rF hn
 rw [hS] at hb
 have hT:=jH ps
 generalize T0 ps=T at *
 have hlen:neX (.int (S.length:Int)) (.int (((av ps.length).map Td).length:Int))=some (.bl false,.z):=by
  rw [nN,<- hS];simp
 obtain ⟨τ1,e1,a1,rfl⟩:=dU (bnd:=am 0) (c:=dW) (elt:=df) (fun τ=>∃ a,τ=[a]) (fun _=>true) (fun _=>.bl true) (ds:=S) (τ:=[none]) ⟨none,rfl⟩ (by
  rintro d hd τ ⟨a,rfl⟩
  rw [<- hS] at hd
  obtain ⟨t,ht,rfl⟩:=Co.mp hd
  have ht:=fO ht
  have f:=qk (g.sgn t.1 t.2.1 t.2.2 ht.1 ht.2.1 ht.2.2:tn ps t=1\/tn ps t = -1)
  exact ⟨[some (.int (tn ps t),.z)],_,rfl,rfl,(fun h=>by cases h),fun _=>⟨.val (.bl true) .z,[some (.int (tn ps t),.z)],(.bl true,.z),[some (.int (tn ps t),.z)],by unfold df;(repeat' (first | infer_instance | with_reducible apply aD (f) | eq_refl)),rfl,rfl,_,rfl⟩⟩)
 have a3:=iC (ds:=(S.filter fun _=>true).map fun _=>.bl true) (fun d hd=>by obtain ⟨_,_,rfl⟩:=Co.mp hd;rfl)
 generalize (S.filter fun _=>true).map (fun _=>L3.D.bl true)=o1 at *
 obtain ⟨τ2,e2,a2,rfl⟩:=dU (bnd:=am 0) (c:=dW) (elt:=de) (fun τ=>∃ a,τ=[a,some (.dt T,.u)]) (fun _=>true) (fun _=>.bl true) (ds:=(frs ps.length (av ps.length)).map Qd) (τ:=[none,some (.dt T,.u)]) ⟨none,rfl⟩ (by
  rintro d hd τ ⟨a,rfl⟩
  obtain ⟨q,hq,rfl⟩:=Co.mp hd
  have f:=ql hT g hq
  exact ⟨[some (Qd q,.z),some (.dt T,.u)],_,rfl,rfl,(fun h=>by cases h),fun _=>⟨.val (.bl true) .z,[some (Qd q,.z),some (.dt T,.u)],(.bl true,.z),[some (Qd q,.z),some (.dt T,.u)],by unfold de;(repeat' (first | infer_instance | with_reducible apply aD (f) | eq_refl)),rfl,rfl,_,rfl⟩⟩)
 have a4:=iC (ds:=(((frs ps.length (av ps.length)).map Qd).filter fun _=>true).map fun _=>.bl true) (fun d hd=>by obtain ⟨_,_,rfl⟩:=Co.mp hd;rfl)
 generalize (((frs ps.length (av ps.length)).map Qd).filter fun _=>true).map (fun _=>L3.D.bl true)=o2 at *
 have hSl:S.length < 16777216:=by rw [<- hS,Ck];omega
 have c1:fu [some (.int ps.length,.z),some (.tup S,.z),none]=some (.ok (.val (.lst o1) .u),[some (.int ps.length,.z),some (.tup S,.z),none]):=bA (im:=cT (ac 1)) (ix:=[none]) (ρ1:=[some (.int ps.length,.z),some (.tup S,.z),none]) (ρ2:=[some (.int ps.length,.z),some (.tup S,.z),none]) (rs:=[.pl 1]) (by (repeat' (first | infer_instance | eq_refl))) e1 hSl rfl
 have c2:ft [some (.int ps.length,.z),some (.tup S,.z),some (.dt T,.u)]=some (.ok (.val (.lst o2) .u),[some (.int ps.length,.z),some (.tup S,.z),some (.dt T,.u)]):=bA (ρ1:=[some (.int ps.length,.z),some (.tup S,.z),some (.dt T,.u)]) (rs:=[.val (.lst ((frs ps.length (av ps.length)).map Qd)) .u]) (by (repeat' (first | infer_instance | with_reducible apply aD (fo) | eq_refl))) e2 (by rw [Ck];exact fm) rfl
 generalize hN:L3.D.int (ps.length:Int)=N at *
 apply bF (ρ:=[some (N,.z),some (.tup S,.z),none]) rfl rfl
 ·unfold hJ
  apply aj (ρ1:=[some (N,.z),some (.tup S,.z),none])
  ·apply dy
   ·apply se (b:=false)
    ·apply ib (b:=true)
     (repeat' (first | infer_instance | eq_refl))
    ·rfl
    ·apply ib (b:=true)
     (repeat' (first | with_reducible exact c1 | infer_instance | exact a3 | eq_refl))
   ·rfl
   ·rfl
  apply aj (ρ1:=[some (N,.z),some (.tup S,.z),none])
  ·apply dy
   ·(repeat' (first | infer_instance | with_reducible apply aD (th) | exact hlen | eq_refl))
   ·rfl
   ·rfl
  apply aj (ρ1:=[some (N,.z),some (.tup S,.z),some (.dt T,.u)])
  ·(repeat' (first | infer_instance | with_reducible apply aD (hb) | eq_refl))
  ·apply jz
   ·(repeat' (first | with_reducible exact c2 | infer_instance | exact a4 | eq_refl))
   ·rfl
 ·rfl
noncomputable abbrev SgD (s:Sg):List L3.D:=(av s.length).map fun t=>L3.D.int (tn s t)
set_option tactic.hygienic true in
theorem yl {ps:Sg} (g:OkS ps):dM [(.int ps.length,.z),(.int 24,.z),(.tup (SgD ps),.z)]=some (.ok (.non,.z),[(.int ps.length,.z),(.int 24,.z),(.tup (SgD ps),.z)]):=by
 have f1:=yg (k:=(ps.length:Int)) (lo:=1) (hi:=24) (by have:=g.pos;omega) (by have:=g.most;omega)
 have f2:=yn g
 unfold SgD
 generalize (av ps.length).map (fun t=>L3.D.int (tn ps t))=S at *
 generalize L3.D.int (ps.length:Int)=N at *
 apply F_nx (ρ:=[some (N,.z),some (.int 24,.z),some (.tup S,.z)]) rfl rfl
 ·unfold iO
  apply aj (ρ1:=[some (N,.z),some (.int 24,.z),some (.tup S,.z)])
  ·(repeat' (first | infer_instance | with_reducible apply aD (f1) | eq_refl))
  ·apply dy
   ·(repeat' (first | infer_instance | with_reducible apply aD (f2) | eq_refl))
   ·rfl
   ·rfl
 ·rfl
theorem we {d:L3.D} {p:PyData} (hS:eqS d d=none) (h:pyD d=some p) (hc:p.canLay0=true) (hd:p.depth<=30):neX d d=some (.bl false,.z):=by
 have h1:eqA d d=some true:=by
  unfold eqA
  rw [hS]
  exact wU h hc hd
 show (eqA d d).map _=_
 rw [h1];rfl
theorem zd {l:List L3.D} (hl:∀ d ∈ l,∃ i:Int,d=.int i):neX (.tup l) (.tup l)=some (.bl false,.z):=by
 have h:∀ ts:List L3.D,(∀ d ∈ ts,∃ i:Int,d=.int i)->∃ qs,jq ts=some qs/\PyData.canLayAll0 qs=true/\PyData.depthAll qs<=20:=by
  intro ts
  induction ts with
  | nil=>exact fun _=>⟨[],rfl,rfl,by decide⟩
  | cons t ts ih =>
   intro ht
   obtain ⟨qs,e1,e2,e3⟩:=ih fun d hd=>ht d (B9 _ hd)
   obtain ⟨i,rfl⟩:=ht t B8
   refine ⟨.int i :: qs,?_,?_,?_⟩
   ·unfold jq;rw [e1];rfl
   ·simp [PyData.canLayAll0,PyData.canLay0,e2]
   ·simp [PyData.depthAll,PyData.depth];omega
 obtain ⟨qs,e1,e2,e3⟩:=h l hl
 refine we (p:=.tuple qs) rfl ?_ ?_ ?_
 ·unfold pyD;rw [e1];rfl
 ·simp [PyData.canLay0,e2]
 ·simp [PyData.depth];omega
theorem ne_R {R:L3.D} (h:R=.non\/∃ xs:List L3.D,R=.tup xs/\∀ d ∈ xs,∃ i:Int,d=.int i):neX R R=some (.bl false,.z):=by
 rcases h with rfl | ⟨xs,rfl,h⟩
 ·rfl
 ·exact zd h
noncomputable abbrev Nd (l:List Nat):List L3.D:=l.map fun (i:Nat)=>L3.D.int (i:Int)
noncomputable def el (L:List Nat) (i:Nat):Nat:=L.getD i 0
theorem eY {P t:List Nat} {a:Nat} (h:a < P.length):el (P ++ t) a=el P a:=by
 simp [el,List.getD,List.getElem?_append,h]
theorem m7 {P t:List Nat} {a:Nat} (h:P.length<=a):el (P ++ t) a=el t (a - P.length):=by
 have:¬ a < P.length:=by omega
 simp [el,List.getD,List.getElem?_append,this]
theorem wW {L:List Nat} {i:Nat} (h:i < L.length):L[i]?=some (el L i):=by simp [el,List.getD,h]
theorem dl {L:List Nat} {m i:Nat} (h:i < m):el (L.take m) i=el L i:=by
 simp [el,List.getD,List.getElem?_take,h]
theorem n5 {P r:List Nat} (hl:P.length=r.length) (h:∀ a,a < P.length->el P a=el r a):P=r:=by
 refine List.ext_getElem? fun a=>?_
 by_cases ha:a < P.length
 ·rw [wW ha,wW (by omega),h a ha]
 ·rw [List.getElem?_eq_none (by omega),List.getElem?_eq_none (by omega)]
structure Rw (w:Nat->Nat->Nat->Bool) (n:Nat) (r:List Nat):Prop where
 two:2<=r.length
 up:∀ a,a+1 < r.length->el r a < el r (a+1)
 lt:∀ a,a < r.length->el r a < n
 ok:∀ a,a+2 < r.length->w (el r a) (el r (a+1)) (el r (a+2))=true
section
variable {w:Nat->Nat->Nat->Bool} {n:Nat}
theorem Rw.pair {i j:Nat} (h1:i < j) (h2:j < n):Rw w n [i,j] where
 two:=Cq _
 up:=fun a ha=>by
  have:a=0:=by simp at ha;omega
  subst this;exact h1
 lt:=fun a ha=>by
  have:a=0\/a=1:=by simp at ha;omega
  rcases this with rfl | rfl
  ·show i < n;omega
  ·exact h2
 ok:=fun a ha=>by simp at ha;omega
theorem Rw.snoc {r:List Nat} {k:Nat} (h:Rw w n r) (h1:el r (r.length - 1) < k) (h2:k < n) (h3:w (el r (r.length - 2)) (el r (r.length - 1)) k=true):Rw w n (r ++ [k]):=by
 have h0:=h.two
 have hk:el (r ++ [k]) r.length=k:=by rw [m7 (Cq _),Nat.sub_self];rfl
 refine ⟨by simp;omega,fun a ha=>?_,fun a ha=>?_,fun a ha=>?_⟩
 ·simp at ha
  by_cases e:a+1 < r.length
  ·rw [eY (by omega),eY e];exact h.up a e
  ·rw [eY (by omega),show a+1=r.length by omega,hk,show a=r.length - 1 by omega];exact h1
 ·simp at ha
  by_cases e:a < r.length
  ·rw [eY e];exact h.lt a e
  ·rw [show a=r.length by omega,hk];exact h2
 ·simp at ha
  by_cases e:a+2 < r.length
  ·rw [eY (by omega),eY (by omega),eY e];exact h.ok a e
  ·rw [eY (by omega),eY (by omega),show a+2=r.length by omega,hk,show a=r.length - 2 by omega,show r.length - 2+1=r.length - 1 by omega];exact h3
theorem Rw.take {r:List Nat} {m:Nat} (h:Rw w n r) (h1:2<=m) (h2:m<=r.length):Rw w n (r.take m):=by
 have hl:(r.take m).length=m:=by rw [CD];omega
 refine ⟨by omega,fun a ha=>?_,fun a ha=>?_,fun a ha=>?_⟩
 ·rw [dl (by omega),dl (by omega)];exact h.up a (by omega)
 ·rw [dl (by omega)];exact h.lt a (by omega)
 ·rw [dl (by omega),dl (by omega),dl (by omega)];exact h.ok a (by omega)
theorem Rw.on {r:List Nat} (h:Rw w n r):∀ d a,a+2+d=r.length->2+(d:Int)<=onE w n (el r a) (el r (a+1))
 | 0,a,_=>rS w n _ _
 | d+1,a,e=>by
  have h1:=h.on d (a+1) (by omega)
  have h2:=o4 (w:=w) (n:=n) (h.ok a (by omega)) (h.up (a+1) (by omega)) (h.lt (a+2) (by omega))
  rw [show a+1+1=a+2 from rfl] at h1
  omega
theorem Rw.short {r:List Nat} (h:Rw w n r):r.length<=n:=by
 have key:∀ a,a < r.length->a<=el r a:=fun a=>by
  induction a with
  | zero=>exact fun _=>Nat.zero_le _
  | succ a ih=>exact fun ha=>by have:=ih (by omega);have:=h.up a ha;omega
 have:=key (r.length - 1) (by have:=h.two;omega)
 have:=h.lt (r.length - 1) (by have:=h.two;omega)
 have:=h.two
 omega
noncomputable def Bt (P r:List Nat):Prop:=(∀ a,a < P.length->el P a=el r a)\/∃ a,a < P.length/\a < r.length/\(∀ b,b < a->el P b=el r b)/\el P a < el r a
noncomputable abbrev Zs (l:List Nat):List Int:=l.map fun x:Nat=>(x:Int)
theorem rY:∀ (a:Nat) (P r:List Nat),a < P.length->a < r.length->(∀ b,b < a->el P b=el r b)->el P a < el r a->HT.lexLt (Zs r) (Zs P)=false
 | _,[],_,h,_,_,_=>by cases h
 | _,_ :: _,[],_,h,_,_=>by cases h
 | 0,p :: P,x :: r,_,_,_,h=>by
  have h:p < x:=h
  show HT.lexLt ((x:Int) :: Zs r) ((p:Int) :: Zs P)=false
  rw [HT.lexLt_cons,if_neg (by omega)]
  exact Cw (by omega)
 | a+1,p :: P,x :: r,h1,h2,h3,h4=>by
  have e:p=x:=h3 0 (by omega)
  show HT.lexLt ((x:Int) :: Zs r) ((p:Int) :: Zs P)=false
  rw [HT.lexLt_cons,if_pos (by omega)]
  exact rY a P r (by simpa using h1) (by simpa using h2) (fun b hb=>h3 (b+1) (by omega)) h4
theorem Bt.fin {P r:List Nat} (h:Bt P r) (hl:P.length=r.length):HT.lexLt (Zs r) (Zs P)=false:=by
 rcases h with h | ⟨a,h1,h2,h3,h4⟩
 ·rw [n5 hl h];exact fX _
 ·exact rY a P r h1 h2 h3 h4
theorem Bt.step {P r:List Nat} {k:Nat} (h:Bt P r) (hl:P.length < r.length) (hk:(∀ a,a < P.length->el P a=el r a)->k<=el r P.length):Bt (P ++ [k]) r:=by
 have ek:el (P ++ [k]) P.length=k:=by rw [m7 (Cq _),Nat.sub_self];rfl
 rcases h with h | ⟨a,h1,h2,h3,h4⟩
 ·have:=hk h
  by_cases e:k=el r P.length
  ·refine .inl fun a ha=>?_
   simp at ha
   by_cases e2:a < P.length
   ·rw [eY e2];exact h a e2
   ·rw [show a=P.length by omega,ek];exact e
  ·refine .inr ⟨P.length,by simp,hl,fun b hb=>by rw [eY hb];exact h b hb,by rw [ek];omega⟩
 ·exact .inr ⟨a,by simp;omega,h2,fun b hb=>by rw [eY (by omega)];exact h3 b hb,by rw [eY h1];exact h4⟩
theorem xy:∀ a b:List Nat,Zs a=Zs b->a=b
 | [],[],_=>rfl
 | [],_ :: _,h=>by cases h
 | _ :: _,[],h=>by cases h
 | x :: a,y :: b,h=>by
  simp only [Zs,Cu,List.cons.injEq] at h
  rw [xy a b h.2,show x=y by omega]
theorem xm {P Q:List Nat} {L m:Nat} (hP:Rw w n P) (lP:P.length=L) (uP:∀ r,Rw w n r->r.length<=L) (bP:∀ r,Rw w n r->r.length=L->HT.lexLt (Zs r) (Zs P)=false)
  (hQ:Rw w n Q) (lQ:Q.length=m) (uQ:∀ r,Rw w n r->r.length ≠ m+1) (bQ:∀ r,Rw w n r->r.length=m->HT.lexLt (Zs r) (Zs Q)=false):P=Q:=by
 have h1:=uP Q hQ
 have h2:L=m:=by
  by_cases h:m < L
  ·have:=hP.two
   have:=hQ.two
   exact absurd (by rw [CD];omega) (uQ (P.take (m+1)) (hP.take (by omega) (by omega)))
  ·omega
 subst h2
 have e:=kS (bQ P hP lP) (bP Q hQ lQ)
 exact xy _ _ e
end
theorem me {xs:List L3.D} {a b:L3.D}:aw (.tup (xs ++ [a,b])) (.int (-2))=some (a,.z)/\aw (.tup (xs ++ [a,b])) (.int (-1))=some (b,.z):=by
 constructor
 ·refine iU ?_
  unfold L2.atI ixN
  rw [if_neg (by decide),if_pos (by simp;omega)]
  rw [show (-2+((xs ++ [a,b]).length:Int)).toNat=xs.length by simp;omega]
  simp
 ·refine iU ?_
  unfold L2.atI ixN
  rw [if_neg (by decide),if_pos (by simp;omega)]
  rw [show (-1+((xs ++ [a,b]).length:Int)).toNat=xs.length+1 by simp;omega]
  simp
theorem BB {l:List Int} {b:Int} (h:∀ n ∈ l,n<=b) (hb:1<=b):mx1 l<=b:=by
 cases l with
 | nil=>exact hb
 | cons x xs=>exact h _ (kQ (by simp))
theorem v9 (w:Nat->Nat->Nat->Bool) (n:Nat):∀ (f i j:Nat),onF w n f i j<=2+f
 | 0,_,_=>by simp [onF]
 | f+1,i,j=>by
  show 1+mx1 _<=_
  have:=BB (l:=((ks n j).filter fun k=>w i j k).map fun k=>onF w n f j k) (b:=2+f) (fun n' hn=>by
   obtain ⟨k,_,rfl⟩:=Co.mp hn
   exact v9 w n f j k) (by omega)
  omega
theorem Bw (w:Nat->Nat->Nat->Bool) (n i j:Nat):onE w n i j<=2+n:=by
 have:=v9 w n (n - (j+1)) i j
 unfold onE
 omega
theorem zh {α:Type} (xs:List α) (f:α->Int) (h:xs ≠ []):∃ x ∈ xs,rW [.lst (xs.map fun x=>L3.D.int (f x))]=some (.int (f x),.z)/\∀ y ∈ xs,f x<=f y:=by
 have e:rW [.lst (xs.map fun x=>L3.D.int (f x))]=((bM (xs.map fun x=>L3.D.int (f x))).bind fun ns=>(qN ns).map fun m=>((.int m,.z):L3.D × Fl)):=rfl
 rw [e,jx]
 cases xs with
 | nil=>exact absurd rfl h
 | cons y ys =>
  have hm:=(fw (ys.map f) (f y)).1
  obtain ⟨x,hx,e2⟩:=Co.mp (show ((ys.map f).foldl (fun a b=>if b < a then b else a) (f y)) ∈ (y :: ys).map f from hm)
  refine ⟨x,hx,by rw [e2];rfl,fun z hz=>?_⟩
  rw [e2]
  exact (fw (ys.map f) (f y)).2 _ (List.mem_map_of_mem (f:=f) hz)
section
variable {ps:Sg} {way:Int} {T kvs:List (List Key × L3.D)} {n:Nat} {L:Int}
noncomputable def vl (kv:List Key × L3.D):Int:=match kv.2 with | .int v=>v | _=>0
noncomputable def pk (kv:List Key × L3.D):Int × Int:=match kv.1 with | [.inl i,.inl j]=>(i,j) | _=>(0,0)
theorem xI {f:Nat->Nat->Int} {c:Nat} (h2:2<=n) (tb:TbP kvs n f (fun a b=>a < b/\b < n) c):∃ L,ph [.dt kvs]=some (.int L,.z)/\(∀ i j,i < j->j < n->f i j<=L)/\∃ i j,i < j/\j < n/\f i j=L:=by
 have e1:kvs.map (·.2)=kvs.map fun kv=>L3.D.int (vl kv):=by
  refine CU fun kv hk=>?_
  obtain ⟨i,j,_,_,rfl⟩:=tb.all kv hk
  rfl
 have mem:∀ i j,i < j->j < n->f i j ∈ kvs.map vl:=fun i j h1 h2=>by
  have:=nZ (tb.get i j ⟨h1,h2⟩)
  exact Co.mpr ⟨_,this,rfl⟩
 have hne:kvs.map vl ≠ []:=fun e=>by
  have:=mem 0 1 (by omega) (by omega)
  rw [e] at this
  cases this
 refine ⟨mx1 (kvs.map vl),?_,fun i j h1 h2=>wj (mem i j h1 h2),?_⟩
 ·show ((bM (kvs.map (·.2))).bind fun ns=>(jt ns).map fun m=>((.int m,.z):L3.D × Fl))=_
  rw [e1,jx]
  show (jt (kvs.map vl)).map _=_
  rw [wg hne]
  rfl
 ·obtain ⟨kv,hk,e⟩:=Co.mp (kQ hne)
  obtain ⟨i,j,h3,h4,rfl⟩:=tb.all kv hk
  exact ⟨i,j,h3,h4,e⟩
noncomputable abbrev lrS (T:List (List Key × L3.D)) (n:Nat) (way:Int) (kvs:List (List Key × L3.D)) (L:Int) (a b c d:Option (L3.D × Fl)):Sto:=[some (.dt T,.u),some (.int (n:Int),.z),some (.int way,.z),some (.dt kvs,.u),some (.int L,.z),a,b,c,d]
set_option tactic.hygienic true in
theorem zw {f:Nat->Nat->Int} {c:Nat} (hc:c < 16777216) (tb:TbP kvs n f (fun a b=>a < b/\b < n) c) (hL:∃ i j,i < j/\j < n/\f i j=L):∃ i j:Nat,i < j/\j < n/\f i j=L/\aG rV (ab dB ai) (lrS T n way kvs L none none none none)=some (.ok (.val (.tup [.int i,.int j]) .z),lrS T n way kvs L none none none none)/\∀ a b,a < b->b < n->f a b=L->¬ (a < i\/(a=i/\b < j)):=by
 obtain ⟨τ',e,a,rfl⟩:=cD (bnd:=am 0) (c:=cv) (elt:=fS) (fun τ=>∃ a,τ=[a,some (.int L,.z),some (.dt kvs,.l)]) (fun kv:List Key × L3.D=>pw kv.1) (fun kv=>decide (vl kv=L)) (fun kv=>pw kv.1) (xs:=kvs) (τ:=[none,some (.int L,.z),some (.dt kvs,.l)]) ⟨none,rfl⟩ (by
  rintro kv hk τ ⟨a,rfl⟩
  obtain ⟨i,j,h1,h2,rfl⟩:=tb.all kv hk
  have s2:=AT (tb.get i j ⟨h1,h2⟩)
  have c:cv [some (.tup [.int i,.int j],.z),some (.int L,.z),some (.dt kvs,.l)]=some (.ok (decide (f i j=L)),[some (.tup [.int i,.int j],.z),some (.int L,.z),some (.dt kvs,.l)]):=by
   unfold cv
   (repeat' (first | infer_instance | exact s2 | exact fy _ _ | eq_refl))
  exact ⟨_,_,rfl,c,fun _=>⟨_,rfl⟩,fun _=>⟨_,_,_,_,bp rfl,rfl,rfl,_,rfl⟩⟩)
 have im:nX (ac 3) (lrS T n way kvs L none none none none)=some (.ok ([.pl 3],kvs.map fun kv=>pw kv.1),lrS T n way kvs L none none none none):=rfl
 have cm:dB (lrS T n way kvs L none none none none)=some (.ok (.val (.lst ((kvs.filter fun kv=>decide (vl kv=L)).map fun kv=>pw kv.1)) .u),lrS T n way kvs L none none none none):=bA (rs:=[.pl 3]) (ρ2:=[some (.dt T,.u),some (.int (n:Int),.z),some (.int way,.z),some (.dt kvs,.l),some (.int L,.z),none,none,none,none]) im e (by rw [Ck];have:=tb.len;omega) rfl
 have e2:(kvs.filter fun kv=>decide (vl kv=L)).map (fun kv=>pw kv.1)=((kvs.filter fun kv=>decide (vl kv=L)).map pk).map jr:=by
  rw [CT]
  refine CU fun kv hk=>?_
  obtain ⟨i,j,h1,h2,rfl⟩:=tb.all kv (CJ.mp hk).1
  rfl
 obtain ⟨i0,j0,h1,h2,h3⟩:=hL
 have hmem:(k2 i0 j0,L3.D.int (f i0 j0)) ∈ kvs.filter fun kv=>decide (vl kv=L):=CJ.mpr ⟨nZ (tb.get i0 j0 ⟨h1,h2⟩),Cv h3⟩
 obtain ⟨m,hm⟩:∃ m,jW ((kvs.filter fun kv=>decide (vl kv=L)).map pk)=some m:=by
  cases h:(kvs.filter fun kv=>decide (vl kv=L)).map pk with
  | nil =>
   have:=List.mem_map_of_mem (f:=pk) hmem
   rw [h] at this
   cases this
  | cons x xs=>exact ⟨_,rfl⟩
 have low:=(jV hm).2
 obtain ⟨kv,hk,rfl⟩:=Co.mp (jV hm).1
 obtain ⟨hk,hv⟩:=CJ.mp hk
 obtain ⟨i,j,g1,g2,rfl⟩:=tb.all kv hk
 refine ⟨i,j,g1,g2,of_decide_eq_true hv,?_,fun a b ha hb hf hlt=>?_⟩
 rotate_left
 ·have q:=low _ (List.mem_map_of_mem (f:=pk) (CJ.mpr ⟨nZ (tb.get a b ⟨ha,hb⟩),Cv hf⟩))
  have q:ltP ((a:Int),(b:Int)) ((i:Int),(j:Int))=false:=q
  unfold ltP at q
  have q:=of_decide_eq_false q
  simp only at q
  omega
 have ev:rV [.lst ((kvs.filter fun kv=>decide (vl kv=L)).map fun kv=>pw kv.1)]=some (.tup [.int i,.int j],.z):=by
  rw [e2]
  show ((fj _).bind fun ns=>(jW ns).map fun n=>((jr n,.z):L3.D × Fl))=_
  rw [kc]
  show (jW _).map _=_
  rw [hm]
  rfl
 exact kW (d6 cm hV) rfl ev
set_option tactic.hygienic true in
theorem zy {i j:Nat} {left:Int} {row:L3.D} (hn:n=ps.length) (hT:d9 ps T) (hj:j < n) (hi:i < j) (hl:n<=24) {c:Nat} (tb:TbP kvs n (onE (wv ps way) n) (fun a b=>a < b/\b < n) c) :
  fQ (lrS T n way kvs L (some (row,.z)) (some (.int i,.z)) (some (.int j,.z)) (some (.int left,.z)))=some (.ok (.val (.lst (((ks n j).filter fun k=>wv ps way i j k && decide (onE (wv ps way) n j k=left)).map fun k:Nat=>L3.D.int (k:Int))) .u),lrS T n way kvs L (some (row,.z)) (some (.int i,.z)) (some (.int j,.z)) (some (.int left,.z))):=by
 obtain ⟨τ',e,a,rfl⟩:=cD (bnd:=am 0) (c:=cu) (elt:=fR) (fun τ=>∃ a,τ=[a,some (.int way,.z),some (.int left,.z),some (.dt T,.u),some (.dt kvs,.u),some (.int i,.z),some (.int j,.z)]) (fun k:Nat=>L3.D.int (k:Int)) (fun k=>wv ps way i j k && decide (onE (wv ps way) n j k=left)) (fun k:Nat=>L3.D.int (k:Int)) (xs:=ks n j) (τ:=[none,some (.int way,.z),some (.int left,.z),some (.dt T,.u),some (.dt kvs,.u),some (.int i,.z),some (.int j,.z)]) ⟨none,rfl⟩ (by
  rintro k hkk τ ⟨a,rfl⟩
  have hkk:=mem_ks.mp hkk
  have s3:=k9 (hT i j k hi hkk.1 (by omega))
  have s2:=AT (tb.get j k ⟨hkk.1,hkk.2⟩)
  have c1:cB (ah eqX (ah aw (ac 3) (bI (ab (ac 5) (ab (ac 6) (ab (ac 0) ai))))) (ac 1)) [some (.int k,.z),some (.int way,.z),some (.int left,.z),some (.dt T,.u),some (.dt kvs,.u),some (.int i,.z),some (.int j,.z)]=some (.ok (wv ps way i j k),[some (.int k,.z),some (.int way,.z),some (.int left,.z),some (.dt T,.u),some (.dt kvs,.u),some (.int i,.z),some (.int j,.z)]):=by
   (repeat' (first | infer_instance | exact s3 | exact fy _ _ | eq_refl))
  have c2:cB (ah eqX (ah aw (ac 4) (bI (ab (ac 6) (ab (ac 0) ai)))) (ac 2)) [some (.int k,.z),some (.int way,.z),some (.int left,.z),some (.dt T,.u),some (.dt kvs,.u),some (.int i,.z),some (.int j,.z)]=some (.ok (decide (onE (wv ps way) n j k=left)),[some (.int k,.z),some (.int way,.z),some (.int left,.z),some (.dt T,.u),some (.dt kvs,.u),some (.int i,.z),some (.int j,.z)]):=by
   (repeat' (first | infer_instance | exact s2 | exact fy _ _ | eq_refl))
  have cc:cu [some (.int k,.z),some (.int way,.z),some (.int left,.z),some (.dt T,.u),some (.dt kvs,.u),some (.int i,.z),some (.int j,.z)]=some (.ok (wv ps way i j k && decide (onE (wv ps way) n j k=left)),[some (.int k,.z),some (.int way,.z),some (.int left,.z),some (.dt T,.u),some (.dt kvs,.u),some (.int i,.z),some (.int j,.z)]):=by
   unfold cu
   cases hw:wv ps way i j k with
   | true =>
    rw [hw] at c1
    exact wM c1 rfl c2
   | false =>
    rw [hw] at c1
    exact wN c1 rfl
  exact ⟨_,_,rfl,cc,fun _=>⟨_,rfl⟩,fun _=>⟨_,_,_,_,bp rfl,rfl,rfl,_,rfl⟩⟩)
 rw [<- wG] at e
 have hr:dA [.int ((j:Int)+1),.int (n:Nat)]=some (aV ((j:Int)+1) (n - (j+1))):=fi (by omega) (by omega) (by omega)
 have im:aT dA (ab (ah bg (ac 7) (mC (.int 1))) (ab (ac 1) ai)) (lrS T n way kvs L (some (row,.z)) (some (.int i,.z)) (some (.int j,.z)) (some (.int left,.z)))=some (.ok ([],aV ((j:Int)+1) (n - (j+1))),lrS T n way kvs L (some (row,.z)) (some (.int i,.z)) (some (.int j,.z)) (some (.int left,.z))):=by (repeat' (first | with_reducible apply cC (h3:=hr) | infer_instance | eq_refl))
 exact bA (rs:=[]) im e (by rw [bv];omega) rfl
theorem zx {i j:Nat} {A:Int} (w:Nat->Nat->Nat->Bool) (h:onE w n i j=A+1) (hA:2<=A):∃ k,k ∈ (ks n j).filter fun k=>w i j k && decide (onE w n j k=A):=by
 rw [qD] at h
 have hne:((ks n j).filter fun k=>w i j k).map (fun k=>onE w n j k) ≠ []:=fun e=>by rw [e,ze] at h;omega
 obtain ⟨k,hk,e⟩:=Co.mp (kQ hne)
 obtain ⟨hk,hw⟩:=CJ.mp hk
 refine ⟨k,CJ.mpr ⟨hk,?_⟩⟩
 rw [hw,Bool.true_and]
 exact Cv (by omega)
set_option tactic.hygienic true in
theorem wB (hn:n=ps.length) (hT:d9 ps T) (hl:n<=24) {c:Nat} (tb:TbP kvs n (onE (wv ps way) n) (fun a b=>a < b/\b < n) c) {i j:Nat} (hi:i < j) (hj:j < n) (h0:onE (wv ps way) n i j=L) (hb0:∀ r,Rw (wv ps way) n r->(r.length:Int)=L->Bt [i,j] r) :
  ∃ (P:List Nat) (a b c:Option (L3.D × Fl)),cM bR cw (lrS T n way kvs L (some (.tup [.int i,.int j],.z)) none none none)=some (.ok .nx,lrS T n way kvs L (some (.tup (Nd P),.z)) a b c)/\(P.length:Int)=L/\Rw (wv ps way) n P/\∀ r,Rw (wv ps way) n r->(r.length:Int)=L->HT.lexLt (Zs r) (Zs P)=false:=by
 have hL:L<=26:=by have:=Bw (wv ps way) n i j;omega
 have hL2:2<=L:=by have:=rS (wv ps way) n i j;omega
 have nd:∀ (pre:List Nat) (i j:Nat),Nd (pre ++ [i,j])=Nd pre ++ [.int i,.int j]:=fun pre i j=>by simp [Nd]
 obtain ⟨ρ',e,P,a,b,c',rfl,hR,hI,hB⟩:=fK (c:=bR) (b:=cw) (fun m ρ=>∃ (pre:List Nat) (i j:Nat) (a b c:Option (L3.D × Fl)),ρ=lrS T n way kvs L (some (.tup (Nd (pre ++ [i,j])),.z)) a b c/\i < j/\j < n/\onE (wv ps way) n i j=L - pre.length/\m=(L - pre.length).toNat/\(pre.length:Int)+2<=L/\Rw (wv ps way) n (pre ++ [i,j])/\∀ r,Rw (wv ps way) n r->(r.length:Int)=L->Bt (pre ++ [i,j]) r)
  (fun ρ=>∃ (P:List Nat) (a b c:Option (L3.D × Fl)),ρ=lrS T n way kvs L (some (.tup (Nd P),.z)) a b c/\(P.length:Int)=L/\Rw (wv ps way) n P/\∀ r,Rw (wv ps way) n r->(r.length:Int)=L->HT.lexLt (Zs r) (Zs P)=false) (n:=L.toNat) (ρ:=lrS T n way kvs L (some (.tup [.int i,.int j],.z)) none none none) ⟨[],i,j,none,none,none,rfl,hi,hj,by simpa using h0,by simp,by simpa using hL2,Rw.pair hi hj,hb0⟩ (by
   rintro m ρ ⟨pre,i,j,a,b,c,rfl,hi,hj,ho,rfl,hp,hI,hB⟩
   have hq:(Nd pre).length=pre.length:=by simp [Nd]
   have hlen:fH [.tup (Nd pre ++ [.int i,.int j])]=some (.int ((pre.length:Int)+2),.z):=by simp [t7,c1,hq]
   have hlP:(pre ++ [i,j]).length=pre.length+2:=by simp
   rw [nd]
   have t:bR (lrS T n way kvs L (some (.tup (Nd pre ++ [.int i,.int j]),.z)) a b c)=some (.ok (decide ((pre.length:Int)+2 < L)),lrS T n way kvs L (some (.tup (Nd pre ++ [.int i,.int j]),.z)) a b c):=by
    unfold bR
    (repeat' (first | infer_instance | exact hlen | eq_refl))
   by_cases h:(pre.length:Int)+2 < L
   ·rw [Cv h] at t
    refine .inr ⟨lrS T n way kvs L (some (.tup (Nd pre ++ [.int i,.int j]),.z)) a b c,?_⟩
    obtain ⟨a2,a1⟩:=me (xs:=Nd pre) (a:=L3.D.int (i:Int)) (b:=L3.D.int (j:Int))
    have cm:=zy (L:=L) (left:=L - ((pre.length:Int)+2)+1) (row:=.tup (Nd pre ++ [.int i,.int j])) hn hT hj hi hl tb
    obtain ⟨k0,hk0⟩:=zx (n:=n) (i:=i) (j:=j) (A:=L - ((pre.length:Int)+2)+1) (wv ps way) (by omega) (by omega)
    obtain ⟨k,hk,em,hmin⟩:=zh ((ks n j).filter fun k=>wv ps way i j k && decide (onE (wv ps way) n j k=L - ((pre.length:Int)+2)+1)) (fun k:Nat=>(k:Int)) (List.ne_nil_of_mem hk0)
    obtain ⟨hk,hw⟩:=CJ.mp hk
    have hk:=mem_ks.mp hk
    simp only [Bool.and_eq_true,decide_eq_true_eq] at hw
    obtain ⟨hw0,hw⟩:=hw
    have ct:bg (.tup (Nd pre ++ [.int i,.int j])) (.tup [.int (k:Int)])=some (.tup (Nd pre ++ [.int i,.int j] ++ [.int (k:Int)]),.z):=iB (by simp;omega)
    have ei:el (pre ++ [i,j]) pre.length=i:=by rw [m7 (Cq _),Nat.sub_self];rfl
    have ej:el (pre ++ [i,j]) (pre.length+1)=j:=by rw [m7 (by omega),show pre.length+1 - pre.length=1 by omega];rfl
    have rs:Rw (wv ps way) n ((pre ++ [i,j]) ++ [k]):=hI.snoc (by rw [hlP,show pre.length+2 - 1=pre.length+1 by omega,ej];exact hk.1) hk.2 (by rw [hlP,show pre.length+2 - 2=pre.length by omega,show pre.length+2 - 1=pre.length+1 by omega,ei,ej];exact hw0)
    have bs:∀ r,Rw (wv ps way) n r->(r.length:Int)=L->Bt ((pre ++ [i,j]) ++ [k]) r:=fun r hr hrl=>(hB r hr hrl).step (by rw [hlP];omega) fun same=>by
     have s1:=same pre.length (by rw [hlP];omega)
     have s2:=same (pre.length+1) (by rw [hlP];omega)
     rw [ei] at s1
     rw [ej] at s2
     rw [hlP]
     have w1:=hr.ok pre.length (by omega)
     have w2:=hr.up (pre.length+1) (by omega)
     have w3:=hr.lt (pre.length+2) (by omega)
     rw [<- s1,<- s2] at w1
     rw [<- s2] at w2
     have w2:j < el r (pre.length+2):=w2
     have o1:=hr.on (r.length - (pre.length+3)) (pre.length+1) (by omega)
     rw [<- s2] at o1
     have o1:2+((r.length - (pre.length+3):Nat):Int)<=onE (wv ps way) n j (el r (pre.length+2)):=o1
     have o2:=o4 (w:=wv ps way) (n:=n) w1 w2 w3
     have:=hmin (el r (pre.length+2)) (CJ.mpr ⟨mem_ks.mpr ⟨w2,w3⟩,by rw [w1,Bool.true_and];exact Cv (by omega)⟩)
     omega
    have e3:pre ++ [i,j] ++ [k]=(pre ++ [i]) ++ [j,k]:=by simp
    rw [e3] at rs bs
    have er:Nd pre ++ [L3.D.int (i:Int),.int j] ++ [.int (k:Int)]=Nd ((pre ++ [i]) ++ [j,k]):=by simp [Nd]
    rw [er] at ct
    refine ⟨lrS T n way kvs L (some (.tup (Nd ((pre ++ [i]) ++ [j,k])),.z)) (some (.int i,.z)) (some (.int j,.z)) (some (.int (L - ((pre.length:Int)+2)+1),.z)),(L - (pre.length+1:Nat)).toNat,t,.inl ?_,by omega,pre ++ [i],j,k,_,_,_,rfl,hk.1,hk.2,by simp;omega,by simp,by simp;omega,rs,bs⟩
    unfold cw
    apply aj (ρ1:=lrS T n way kvs L (some (.tup (Nd pre ++ [.int i,.int j]),.z)) (some (.int i,.z)) b c)
    ·(repeat' (first | infer_instance | exact a2 | eq_refl))
    ·apply aj (ρ1:=lrS T n way kvs L (some (.tup (Nd pre ++ [.int i,.int j]),.z)) (some (.int i,.z)) (some (.int j,.z)) c)
     ·(repeat' (first | infer_instance | exact a1 | eq_refl))
     ·apply aj (ρ1:=lrS T n way kvs L (some (.tup (Nd pre ++ [.int i,.int j]),.z)) (some (.int i,.z)) (some (.int j,.z)) (some (.int (L - ((pre.length:Int)+2)+1),.z)))
      ·(repeat' (first | infer_instance | exact hlen | eq_refl))
      ·exact iQ (eX (bp rfl) (lW (d6 (kW (d6 cm hV) rfl em) hV) rfl (show 1<=16777216 by decide)) rfl rfl ct) rfl (show 5 < 9 by decide) rfl
   ·rw [Cw h] at t
    refine .inl ⟨_,t,pre ++ [i,j],a,b,c,by rw [nd],by rw [hlP];omega,hI,fun r hr hrl=>(hB r hr hrl).fin (by rw [hlP];omega)⟩)
 exact ⟨P,a,b,c',e,hR,hI,hB⟩
set_option tactic.hygienic true in
theorem A0 (hn:n=ps.length) (hT:d9 ps T) (hl:n<=24) (h0:0 < n):(n=1/\b6 [(.dt T,.u),(.int (n:Int),.z),(.int way,.z)]=some (.ok (.non,.z),[(.dt T,.u),(.int (n:Int),.z),(.int way,.z)])) \/
  ∃ (P:List Nat) (L:Nat),b6 [(.dt T,.u),(.int (n:Int),.z),(.int way,.z)]=some (.ok (.tup (Nd P),.z),[(.dt T,.u),(.int (n:Int),.z),(.int way,.z)])/\Rw (wv ps way) n P/\P.length=L/\(∀ r,Rw (wv ps way) n r->r.length<=L)/\∀ r,Rw (wv ps way) n r->r.length=L->HT.lexLt (Zs r) (Zs P)=false:=by
 by_cases h1:n=1
 ·refine .inl ⟨h1,?_⟩
  subst h1
  apply bF (ρ:=[some (.dt T,.u),some (.int (1:Nat),.z),some (.int way,.z),none,none,none,none,none,none]) rfl rfl
  ·apply nv
   apply kn (b:=true)
   ·(repeat' (first | infer_instance | exact fy _ _ | eq_refl))
   ·rfl
   ·(repeat' (first | infer_instance | eq_refl))
  ·rfl
 ·have h2:2<=n:=by omega
  obtain ⟨kvs,eo,tb⟩:=AZ (way:=way) hn hT hl h2
  obtain ⟨L,ev,u1,u2⟩:=xI h2 tb
  obtain ⟨i,j,g1,g2,g3,ep,low⟩:=zw (T:=T) (way:=way) (by decide) tb u2
  have up:∀ r,Rw (wv ps way) n r->(r.length:Int)<=L/\onE (wv ps way) n (el r 0) (el r 1) ≥ r.length:=fun r hr=>by
   have:=hr.two
   have o:=hr.on (r.length - 2) 0 (by omega)
   have:=u1 (el r 0) (el r 1) (hr.up 0 (by omega)) (hr.lt 1 (by omega))
   have o:2+((r.length - 2:Nat):Int)<=onE (wv ps way) n (el r 0) (el r 1):=o
   omega
  obtain ⟨P,a,b,c,ew,hR,hI,hB⟩:=wB hn hT hl tb g1 g2 g3 (fun r hr hrl=>by
   have t2:=hr.two
   have ur:=up r hr
   have a1:=hr.up 0 (by omega)
   have a2:=hr.lt 1 (by omega)
   have:=u1 (el r 0) (el r 1) a1 a2
   have lw:=low (el r 0) (el r 1) a1 a2 (by omega)
   by_cases e0:i=el r 0
   ·by_cases e1:j=el r 1
    ·refine .inl fun a ha=>?_
     have:a=0\/a=1:=by simp at ha;omega
     rcases this with rfl | rfl
     ·exact e0
     ·exact e1
    ·refine .inr ⟨1,by simp,by omega,fun b hb=>?_,?_⟩
     ·have:b=0:=by omega
      subst this;exact e0
     ·show j < el r 1;omega
   ·exact .inr ⟨0,by simp,by omega,fun b hb=>by omega,by show i < el r 0;omega⟩)
  refine .inr ⟨P,P.length,?_,hI,rfl,fun r hr=>by have:=(up r hr).1;omega,fun r hr hrl=>hB r hr (by omega)⟩
  have ne:decide ((n:Int)=1)=false:=Cw (by omega)
  apply bF (ρ:=[some (.dt T,.u),some (.int (n:Int),.z),some (.int way,.z),none,none,none,none,none,none]) rfl rfl
  ·apply aj (ρ1:=[some (.dt T,.u),some (.int (n:Int),.z),some (.int way,.z),none,none,none,none,none,none])
   ·apply dy
    ·(repeat' (first | infer_instance | exact fy _ _ | eq_refl))
    ·exact ne
    ·rfl
   ·apply aj (ρ1:=[some (.dt T,.u),some (.int (n:Int),.z),some (.int way,.z),some (.dt kvs,.u),none,none,none,none,none])
    ·(repeat' (first | infer_instance | with_reducible apply aD (eo) | eq_refl))
    ·apply aj (ρ1:=lrS T n way kvs L none none none none)
     ·(repeat' (first | infer_instance | exact ev | eq_refl))
     ·apply aj (ρ1:=lrS T n way kvs L (some (.tup [.int i,.int j],.z)) none none none)
      ·exact iQ ep rfl (show 5 < 9 by decide) rfl
      ·apply aj
       ·exact ew
       ·(repeat' (first | infer_instance | eq_refl))
  ·rfl
end
noncomputable abbrev Pl (l:List (List Nat)):List L3.D:=l.map fun p=>L3.D.tup (Nd p)
theorem Ae:∀ l:List Nat,∃ qs,jq (Nd l)=some qs/\PyData.canLayAll0 qs=true/\PyData.depthAll qs<=10/\qs.length=l.length
 | []=>⟨[],rfl,rfl,by decide,rfl⟩
 | x :: l=>by
  obtain ⟨qs,e1,e2,e3,e4⟩:=Ae l
  refine ⟨.int x :: qs,?_,?_,?_,?_⟩
  ·show (match pyD (.int x),jq (Nd l) with | some p,some ps=>some (p :: ps) | _,_=>none)=_
   rw [e1];rfl
  ·simp [PyData.canLayAll0,PyData.canLay0,e2]
  ·simp [PyData.depthAll,PyData.depth];omega
  ·simp [e4]
theorem Ad:∀ l:List (List Nat),∃ qs,jq (Pl l)=some qs/\PyData.canLayAll0 qs=true/\PyData.depthAll qs<=20/\qs.length=l.length
 | []=>⟨[],rfl,rfl,by decide,rfl⟩
 | p :: l=>by
  obtain ⟨qs,e1,e2,e3,e4⟩:=Ad l
  obtain ⟨rs,f1,f2,f3,_⟩:=Ae p
  refine ⟨.tuple rs :: qs,?_,?_,?_,by simp [e4]⟩
  ·show (match pyD (.tup (Nd p)),jq (Pl l) with | some p,some ps=>some (p :: ps) | _,_=>none)=_
   have:pyD (.tup (Nd p))=some (.tuple rs):=by unfold pyD;rw [f1];rfl
   rw [e1,this]
  ·simp [PyData.canLayAll0,PyData.canLay0,e2,f2]
  ·simp [PyData.depthAll,PyData.depth];omega
theorem zc (L:List (List Nat)):neX (.lst (Pl L)) (.lst [])=some (.bl (!decide (L=[])),.z):=by
 obtain ⟨qs,e1,e2,e3,e4⟩:=Ad L
 have p1:pyD (.lst (Pl L))=some (.list qs):=by unfold pyD;rw [e1];rfl
 have h:eqP (.lst (Pl L)) (.lst [])=some (decide (L=[])):=by
  have p2:pyD (.lst [])=some (.list []):=rfl
  unfold eqP
  rw [p1,p2]
  have:((PyData.list qs).canLay0 && (PyData.list []).canLay0 && decide (min (PyData.list qs).depth (PyData.list []).depth<=30))=true:=by
   simp [PyData.canLay0,e2,PyData.depth,PyData.canLayAll0];omega
  show (if _ then _ else _)=_
  rw [if_pos this]
  cases L with
  | nil =>
   have:qs=[]:=CW.mp e4
   subst this
   rfl
  | cons x L =>
   cases qs with
   | nil=>simp at e4
   | cons y qs=>rfl
 show (eqA (.lst (Pl L)) (.lst [])).map _=_
 have h1:eqA (.lst (Pl L)) (.lst [])=some (decide (L=[])):=h
 rw [h1];rfl
set_option tactic.hygienic true in
theorem lf (i:Int):eL [(.int i,.z)]=some (.ok (.bl true,.z),[(.int i,.z)]):=by
 apply bF (ρ:=[some (.int i,.z)]) rfl rfl
 ·(repeat' (first | infer_instance | eq_refl))
 ·rfl
set_option tactic.hygienic true in
theorem yk {s:Sg} (g:OkS s):(s.length=1/\bB [(.int s.length,.z),(.tup (SgD s),.z)]=some (.ok (.non,.z),[(.int s.length,.z),(.tup (SgD s),.z)])) \/
  ∃ (P:List Nat) (L:Nat),bB [(.int s.length,.z),(.tup (SgD s),.z)]=some (.ok (.tup (Nd P),.z),[(.int s.length,.z),(.tup (SgD s),.z)])/\Rw (wv s 1) s.length P/\P.length=L/\(∀ r,Rw (wv s 1) s.length r->r.length<=L)/\∀ r,Rw (wv s 1) s.length r->r.length=L->HT.lexLt (Zs r) (Zs P)=false:=by
 have hn:s.length<=25:=by have:=g.most;omega
 have hb:=rF (ps:=s) hn
 have hc:=yl g
 have lr:=A0 (way:=1) (T:=T0 s) rfl (jH s) g.most g.pos
 have go:∀ R,b6 [(.dt (T0 s),.u),(.int (s.length:Int),.z),(.int 1,.z)]=some (.ok (R,.z),[(.dt (T0 s),.u),(.int (s.length:Int),.z),(.int 1,.z)])->bB [(.int s.length,.z),(.tup (SgD s),.z)]=some (.ok (R,.z),[(.int s.length,.z),(.tup (SgD s),.z)]):=fun R e=>by
  unfold SgD at *
  clear lr
  generalize (av s.length).map (fun t=>L3.D.int (tn s t))=S at *
  generalize T0 s=T at *
  generalize L3.D.int (s.length:Int)=N at *
  apply bF (ρ:=[some (N,.z),some (.tup S,.z)]) rfl rfl
  ·unfold gZ
   apply aj (ρ1:=[some (N,.z),some (.tup S,.z)])
   ·(repeat' (first | infer_instance | with_reducible apply aD (hc) | eq_refl))
   ·apply jz
    ·(repeat' (first | infer_instance | with_reducible apply aD (hb) | with_reducible apply aD (e) | eq_refl))
    ·rfl
  ·rfl
 rcases lr with ⟨h1,e⟩ | ⟨P,L,e,h⟩
 ·exact .inl ⟨h1,go _ e⟩
 ·exact .inr ⟨P,L,go _ e,h⟩
theorem AU {r:List Nat} (h:2<=r.length):∃ pre i j,r=pre ++ [i,j]/\i=el r (r.length - 2)/\j=el r (r.length - 1)/\pre.length=r.length - 2:=by
 refine ⟨r.take (r.length - 2),el r (r.length - 2),el r (r.length - 1),?_,rfl,rfl,by rw [CD];omega⟩
 refine n5 (by simp;omega) fun a ha=>?_
 have hl:(r.take (r.length - 2)).length=r.length - 2:=by rw [CD];omega
 by_cases e:a < r.length - 2
 ·rw [eY (by omega),dl e]
 ·rw [m7 (by omega),hl]
  have:a=r.length - 2\/a=r.length - 1:=by omega
  rcases this with rfl | rfl
  ·rw [Nat.sub_self];rfl
  ·rw [show r.length - 1 - (r.length - 2)=1 by omega];rfl
noncomputable def Ext (w:Nat->Nat->Nat->Bool) (n:Nat) (r r':List Nat):Prop:=∃ k,el r (r.length - 1) < k/\k < n/\w (el r (r.length - 2)) (el r (r.length - 1)) k=true/\r'=r ++ [k]
theorem x6 {w:Nat->Nat->Nat->Bool} {n m:Nat} {r':List Nat}:(Rw w n r'/\r'.length=m+1+2) ↔ ∃ r,(Rw w n r/\r.length=m+2)/\Ext w n r r':=by
 constructor
 ·rintro ⟨h,e⟩
  have hl:(r'.take (m+2)).length=m+2:=by rw [CD];omega
  refine ⟨r'.take (m+2),⟨h.take (by omega) (by omega),hl⟩,el r' (m+2),?_,h.lt _ (by omega),?_,?_⟩
  ·rw [hl,dl (by omega)];exact h.up (m+1) (by omega)
  ·rw [hl,dl (by omega),dl (by omega)];exact h.ok m (by omega)
  ·refine n5 (by simp;omega) fun a ha=>?_
   by_cases q:a < m+2
   ·rw [eY (by omega),dl q]
   ·rw [m7 (by omega),hl,show a=m+2 by omega,Nat.sub_self];rfl
 ·rintro ⟨r,⟨h,e⟩,k,h1,h2,h3,rfl⟩
  exact ⟨h.snoc h1 h2 h3,by simp;omega⟩
theorem Rw.last {w:Nat->Nat->Nat->Bool} {n:Nat} {r:List Nat} (h:Rw w n r):r.length - 1<=el r (r.length - 1):=by
 have key:∀ a,a < r.length->a<=el r a:=fun a=>by
  induction a with
  | zero=>exact fun _=>Nat.zero_le _
  | succ a ih=>exact fun ha=>by have:=ih (by omega);have:=h.up a ha;omega
 exact key _ (by have:=h.two;omega)
noncomputable abbrev stD (n:Nat) (T:List (List Key × L3.D)) (v2 v3:Option (L3.D × Fl)) (X:List (List Nat)) (v5 v6:Option (L3.D × Fl)):Sto:=[some (.int (n:Int),.z),some (.dt T,.u),v2,v3,some (.lst (Pl X),.u),v5,v6]
section
variable {s:Sg} {T:List (List Key × L3.D)} {n:Nat} {v2 v3 v6:Option (L3.D × Fl)}
set_option tactic.hygienic true in
theorem BS (hn:n=s.length) (hT:d9 s T) (hl:n<=24) {X:List (List Nat)} {pre:List Nat} {i j k:Nat} (h1:i < j) (h2:j < k) (h3:k < n) (hp:pre.length<=30) (hX:X.length < 16777216) :
  gu (stD n T v2 v3 X (some (.tup (Nd pre ++ [.int i,.int j]),.z)) (some (.int k,.z)))=some (.ok .nx,stD n T v2 v3 (if wv s 1 i j k=true then X ++ [pre ++ [i,j] ++ [k]] else X) (some (.tup (Nd pre ++ [.int i,.int j]),.z)) (some (.int k,.z))):=by
 have s3:=k9 (hT i j k h1 h2 (by omega))
 obtain ⟨a2,a1⟩:=me (xs:=Nd pre) (a:=L3.D.int (i:Int)) (b:=L3.D.int (j:Int))
 have cnd:cB (ah eqX (ah aw (ac 1) (bI (ab (ah aw (ac 5) (mUn kC (mC (.int 2)))) (ab (ah aw (ac 5) (mUn kC (mC (.int 1)))) (ab (ac 6) ai))))) (mC (.int 1))) (stD n T v2 v3 X (some (.tup (Nd pre ++ [.int i,.int j]),.z)) (some (.int k,.z)))=some (.ok (wv s 1 i j k),stD n T v2 v3 X (some (.tup (Nd pre ++ [.int i,.int j]),.z)) (some (.int k,.z))):=by
  (repeat' (first | infer_instance | exact a2 | exact a1 | exact s3 | exact fy _ _ | eq_refl))
 have ct:bg (.tup (Nd pre ++ [.int i,.int j])) (.tup [.int (k:Int)])=some (.tup (Nd pre ++ [.int i,.int j] ++ [.int (k:Int)]),.z):=iB (by simp;omega)
 have ap:=rm (A:=Pl X) (d:=.tup (Nd pre ++ [.int i,.int j] ++ [.int (k:Int)])) (by simpa using hX)
 have ea:Pl X ++ [.tup (Nd pre ++ [.int i,.int j] ++ [.int (k:Int)])]=Pl (X ++ [pre ++ [i,j] ++ [k]]):=by simp [Pl,Nd]
 rw [ea] at ap
 unfold gu
 cases h:wv s 1 i j k with
 | true =>
  rw [h] at cnd
  rw [if_pos rfl]
  refine kn cnd rfl ?_
  exact qU (wL rfl rfl (d6 (eX (bp rfl) (lW (d6 (bp rfl) hV) rfl (show 1<=16777216 by decide)) rfl rfl ct) hV) rfl rfl ap rfl)
 | false =>
  rw [h] at cnd
  rw [if_neg (by decide)]
  exact dy cnd rfl rfl
set_option tactic.hygienic true in
theorem BR (hn:n=s.length) (hT:d9 s T) (hl:n<=24) {X:List (List Nat)} {pre:List Nat} {i j:Nat} (h1:i < j) (h3:j < n) (hp:pre.length<=30) (hX:X.length+(n - (j+1))<=16777216) :
  ∃ X' v6',eS (stD n T v2 v3 X (some (.tup (Nd pre ++ [.int i,.int j]),.z)) v6)=some (.ok .nx,stD n T v2 v3 X' (some (.tup (Nd pre ++ [.int i,.int j]),.z)) v6')/\X'.length<=X.length+(n - (j+1))/\∀ r',r' ∈ X' ↔ r' ∈ X\/∃ k,j < k/\k < n/\wv s 1 i j k=true/\r'=pre ++ [i,j] ++ [k]:=by
 obtain ⟨ρ',e,X',v6',rfl,hl',hm'⟩:=bL (bnd:=am 6) (b:=gu) (fun m ρ=>∃ X' v6,ρ=stD n T v2 v3 X' (some (.tup (Nd pre ++ [.int i,.int j]),.z)) v6/\X'.length<=X.length+m/\∀ r',r' ∈ X' ↔ r' ∈ X\/∃ k,j < k/\k < j+1+m/\wv s 1 i j k=true/\r'=pre ++ [i,j] ++ [k]) (ds:=aV ((j:Int)+1) (n - (j+1))) (ρ:=stD n T v2 v3 X (some (.tup (Nd pre ++ [.int i,.int j]),.z)) v6) (k:=0) ⟨X,v6,rfl,Cq _,fun r'=>⟨.inl,fun h=>h.elim id fun ⟨k,a,b,_⟩=>by omega⟩⟩ (by
  rintro m d ρ hd ⟨X',v6,rfl,hl',hm'⟩
  obtain ⟨hm,rfl⟩:=bX hd
  rw [Cz] at hl' hm' ⊢
  have b:=BS (v2:=v2) (v3:=v3) (X:=X') (pre:=pre) (i:=i) (j:=j) (k:=j+1+m) hn hT hl h1 (by omega) (by omega) hp (by omega)
  rw [show ((j+1+m:Nat):Int)=(j:Int)+1+m by omega] at b
  refine ⟨_,_,rfl,.inl b,_,_,rfl,?_,fun r'=>?_⟩
  ·split
   ·simp;omega
   ·omega
  ·cases h:wv s 1 i j (j+1+m) with
   | true =>
    rw [if_pos rfl,Ci,CH,hm']
    constructor
    ·rintro ((h | ⟨k,a,b,c,d⟩) | h)
     ·exact .inl h
     ·exact .inr ⟨k,a,by omega,c,d⟩
     ·exact .inr ⟨j+1+m,by omega,by omega,by assumption,h⟩
    ·rintro (h | ⟨k,a,b,c,d⟩)
     ·exact .inl (.inl h)
     ·by_cases q:k=j+1+m
      ·subst q;exact .inr d
      ·exact .inl (.inr ⟨k,a,by omega,c,d⟩)
   | false =>
    rw [if_neg (by decide),hm']
    constructor
    ·rintro (h | ⟨k,a,b,c,d⟩)
     ·exact .inl h
     ·exact .inr ⟨k,a,by omega,c,d⟩
    ·rintro (h' | ⟨k,a,b,c,d⟩)
     ·exact .inl h'
     ·by_cases q:k=j+1+m
      ·subst q;rw [h] at c;cases c
      ·exact .inr ⟨k,a,by omega,c,d⟩)
 rw [bv,Cz] at hl' hm'
 obtain ⟨a2,a1⟩:=me (xs:=Nd pre) (a:=L3.D.int (i:Int)) (b:=L3.D.int (j:Int))
 have hr:dA [.int ((j:Int)+1),.int (n:Nat)]=some (aV ((j:Int)+1) (n - (j+1))):=fi (by omega) (by omega) (by omega)
 refine ⟨X',v6',?_,hl',fun r'=>?_⟩
 ·unfold eS
  apply dR
  ·(repeat' (first | with_reducible apply cC (h3:=hr) | infer_instance | exact a1 | eq_refl))
  ·rfl
  ·exact e
 ·rw [hm',show j+1+(n - (j+1))=n by omega]
theorem so (hn:n=s.length) (hT:d9 s T) (hl:n<=24) {rows:List (List Nat)} {m:Nat} (hr:∀ r ∈ rows,Rw (wv s 1) n r/\r.length=m+2) (hb:rows.length * (n - (m+2))<=16777216) {v5:Option (L3.D × Fl)} :
  ∃ X' v5' v6',fI (am 5) eS (Pl rows) (stD n T v2 v3 [] v5 v6)=some (.ok .nx,stD n T v2 v3 X' v5' v6')/\X'.length<=rows.length * (n - (m+2))/\∀ r',r' ∈ X' ↔ ∃ r ∈ rows,Ext (wv s 1) n r r':=by
 obtain ⟨ρ',e,X',v5',v6',rfl,hl',hm'⟩:=bL (bnd:=am 5) (b:=eS) (fun t ρ=>∃ X' v5 v6,ρ=stD n T v2 v3 X' v5 v6/\X'.length<=t * (n - (m+2))/\∀ r',r' ∈ X' ↔ ∃ r ∈ rows.take t,Ext (wv s 1) n r r') (ds:=Pl rows) (ρ:=stD n T v2 v3 [] v5 v6) (k:=0) ⟨[],v5,v6,rfl,Nat.zero_le _,fun r'=>⟨fun h=>absurd h List.not_mem_nil,fun ⟨r,a,_⟩=>absurd (List.take_zero (l:=rows) ▸ a) List.not_mem_nil⟩⟩ (by
  rintro t d ρ hd ⟨X',v5,v6,rfl,hl',hm'⟩
  rw [Cp,Cc] at hd
  obtain ⟨r,hrt,rfl⟩:=hd
  rw [Cz] at hl' hm' ⊢
  have ht:t < rows.length:=(Cl.mp hrt).1
  obtain ⟨R,rl⟩:=hr r (Cm hrt)
  obtain ⟨pre,i,j,e0,ei,ej,pl⟩:=AU R.two
  have up:=R.up (m) (by omega)
  have hij:i < j:=by rw [ei,ej,rl];exact up
  have hjn:j < n:=by rw [ej];exact R.lt _ (by omega)
  have hj:m+1<=j:=by have:=R.last;rw [<- ej] at this;omega
  have sh:=R.short
  have step:(t+1) * (n - (m+2))<=rows.length * (n - (m+2)):=Nat.mul_le_mul_right _ ht
  rw [Nat.succ_mul] at step
  obtain ⟨X2,v6',e2,l2,m2⟩:=BR (v2:=v2) (v3:=v3) (v6:=v6) (X:=X') (pre:=pre) hn hT hl hij hjn (by omega) (by omega)
  have en:Nd r=Nd pre ++ [.int i,.int j]:=by rw [e0];simp [Nd]
  have b5:am 5 (.tup (Nd r)) (stD n T v2 v3 X' v5 v6)=some (stD n T v2 v3 X' (some (.tup (Nd pre ++ [.int i,.int j]),.z)) v6):=by
   rw [en];rfl
  have l3:X2.length<=(t+1) * (n - (m+2)):=by
   rw [Nat.succ_mul]
   exact CO l2 (by omega)
  refine ⟨_,_,b5,.inl e2,X2,_,_,rfl,l3,fun r'=>?_⟩
  have tk:∀ q,q ∈ rows.take (t+1) ↔ q ∈ rows.take t\/q=r:=fun q=>by
   rw [List.take_add_one,hrt];simp only [Option.toList_some,Ci,CH]
  rw [m2,hm']
  constructor
  ·rintro (⟨q,a,b⟩ | ⟨k,a,b,c,d⟩)
   ·exact ⟨q,(tk q).mpr (.inl a),b⟩
   ·exact ⟨r,(tk r).mpr (.inr rfl),k,by rw [<- ej];exact a,b,by rw [<- ei,<- ej];exact c,by rw [e0];exact d⟩
  ·rintro ⟨q,a,b⟩
   rcases (tk q).mp a with a | a
   ·exact .inl ⟨q,a,b⟩
   ·subst a
    obtain ⟨k,a,b,c,d⟩:=b
    exact .inr ⟨k,by rw [ej];exact a,b,by rw [ei,ej];exact c,by rw [<- e0];exact d⟩)
 have lp:(Pl rows).length=rows.length:=by simp
 rw [lp,Cz] at hl' hm'
 rw [List.take_length] at hm'
 exact ⟨X',v5',v6',e,hl',hm'⟩
end
theorem zg {X:List (List Nat)} (h:X ≠ []):∃ Q ∈ X,wm [.lst (Pl X)]=some (.tup (Nd Q),.z)/\∀ r ∈ X,HT.lexLt (Zs r) (Zs Q)=false:=by
 have e1:Pl X=(X.map Zs).map ntD:=by
  rw [CT]
  refine CU fun r _=>?_
  show L3.D.tup (Nd r)=L3.D.tup ((Zs r).map L3.D.int)
  rw [CT];rfl
 obtain ⟨q,hq⟩:∃ q,jU (X.map Zs)=some q:=by
  cases X with
  | nil=>exact absurd rfl h
  | cons x xs=>exact ⟨_,rfl⟩
 obtain ⟨m1,m2⟩:=mW hq
 obtain ⟨Q,hQ,rfl⟩:=Co.mp m1
 refine ⟨Q,hQ,?_,fun r hr=>m2 _ (List.mem_map_of_mem hr)⟩
 show ((kg (Pl X)).bind fun ns=>(jU ns).map fun n=>((ntD n,.z):L3.D × Fl))=_
 rw [e1,mQ]
 show (jU (X.map Zs)).map _=_
 rw [hq]
 show some (L3.D.tup ((Zs Q).map L3.D.int),Fl.z)=_
 rw [CT];rfl
noncomputable def Due (w:Nat->Nat->Nat->Bool) (n:Nat) (R:L3.D):Prop:=(n<=1/\R=.non)\/∃ (Q:List Nat) (m:Nat),R=.tup (Nd Q)/\Rw w n Q/\Q.length=m/\(∀ r,Rw w n r->r.length ≠ m+1)/\∀ r,Rw w n r->r.length=m->HT.lexLt (Zs r) (Zs Q)=false
section
variable {s:Sg} {T:List (List Key × L3.D)} {n:Nat}
noncomputable abbrev stE (n:Nat) (T:List (List Key × L3.D)) (X:List (List Nat)) (f:Fl) (v3 v4 v5 v6:Option (L3.D × Fl)):Sto:=[some (.int (n:Int),.z),some (.dt T,.u),some (.lst (Pl X),f),v3,v4,v5,v6]
set_option tactic.hygienic true in
theorem uo (hn:n=s.length) (hT:d9 s T) (hl:n<=24) {rows:List (List Nat)} {m:Nat} (h0:rows ≠ []) (hr:∀ r ∈ rows,Rw (wv s 1) n r/\r.length=m+2) (hb:rows.length * (n - (m+2))<=16777216) {f:Fl} (hf:f=.u\/f=.z) {v3 v4 v5 v6:Option (L3.D × Fl)} :
  ∃ Q X' v5' v6',eR (stE n T rows f v3 v4 v5 v6)=some (.ok .nx,stE n T X' .z (some (.tup (Nd Q),.z)) (some (.lst (Pl X'),.z)) v5' v6')/\X'.length<=rows.length * (n - (m+2))/\(∀ r',r' ∈ X' ↔ ∃ r ∈ rows,Ext (wv s 1) n r r')/\Q ∈ rows/\∀ r ∈ rows,HT.lexLt (Zs r) (Zs Q)=false:=by
 obtain ⟨Q,hQ,em,low⟩:=zg h0
 unfold eR
 rcases hf with rfl | rfl
 ·obtain ⟨X',v5',v6',e,l,hm⟩:=so (v2:=some (.lst (Pl rows),.l)) (v3:=some (.tup (Nd Q),.z)) (v5:=v5) (v6:=v6) hn hT hl hr hb
  refine ⟨Q,X',v5',v6',?_,l,hm,hQ,low⟩
  apply aj (ρ1:=[some (.int (n:Int),.z),some (.dt T,.u),some (.lst (Pl rows),.u),some (.tup (Nd Q),.z),v4,v5,v6])
  ·(repeat' (first | infer_instance | exact em | eq_refl))
  apply aj (ρ1:=[some (.int (n:Int),.z),some (.dt T,.u),some (.lst (Pl rows),.u),some (.tup (Nd Q),.z),some (.lst [],.u),v5,v6])
  ·(repeat' (first | infer_instance | eq_refl))
  apply aj (ρ1:=[some (.int (n:Int),.z),some (.dt T,.u),some (.lst (Pl rows),.u),some (.tup (Nd Q),.z),some (.lst (Pl X'),.u),v5',v6'])
  ·exact qT (is:=[2]) (ρ1:=[some (.int (n:Int),.z),some (.dt T,.u),some (.lst (Pl rows),.u),some (.tup (Nd Q),.z),some (.lst [],.u),v5,v6]) (jA (bp rfl) rfl rfl) rfl e
  ·exact iQ (p:=(.lst (Pl X'),.z)) (bp rfl) rfl (show 2 < 7 by decide) rfl
 ·obtain ⟨X',v5',v6',e,l,hm⟩:=so (v2:=some (.lst (Pl rows),.z)) (v3:=some (.tup (Nd Q),.z)) (v5:=v5) (v6:=v6) hn hT hl hr hb
  refine ⟨Q,X',v5',v6',?_,l,hm,hQ,low⟩
  apply aj (ρ1:=[some (.int (n:Int),.z),some (.dt T,.u),some (.lst (Pl rows),.z),some (.tup (Nd Q),.z),v4,v5,v6])
  ·(repeat' (first | infer_instance | exact em | eq_refl))
  apply aj (ρ1:=[some (.int (n:Int),.z),some (.dt T,.u),some (.lst (Pl rows),.z),some (.tup (Nd Q),.z),some (.lst [],.u),v5,v6])
  ·(repeat' (first | infer_instance | eq_refl))
  apply aj (ρ1:=[some (.int (n:Int),.z),some (.dt T,.u),some (.lst (Pl rows),.z),some (.tup (Nd Q),.z),some (.lst (Pl X'),.u),v5',v6'])
  ·exact dR (ρ1:=[some (.int (n:Int),.z),some (.dt T,.u),some (.lst (Pl rows),.z),some (.tup (Nd Q),.z),some (.lst [],.u),v5,v6]) (jA (bp rfl) rfl rfl) rfl e
  ·exact iQ (p:=(.lst (Pl X'),.z)) (bp rfl) rfl (show 2 < 7 by decide) rfl
theorem six {m:Nat} (h:m<=6) {a b:Nat} (ha:a<=64 * 6 ^ m) (hb:b<=6 - m):a * b<=16777216/\a * b<=64 * 6 ^ (m+1):=by
 have h1:a * b<=64 * 6 ^ m * (6 - m):=Nat.mul_le_mul ha hb
 have:m=0\/m=1\/m=2\/m=3\/m=4\/m=5\/m=6:=by omega
 rcases this with rfl | rfl | rfl | rfl | rfl | rfl | rfl <;> simp at h1 ⊢ <;> omega
set_option tactic.hygienic true in
theorem um (hn:n=s.length) (hT:d9 s T) (hl:n<=8) {X:List (List Nat)} (hX:∀ r,r ∈ X ↔ Rw (wv s 1) n r/\r.length=2) (hc:X.length<=64) :
  ∃ R X' f v4 v5 v6,cM eQ eR (stE n T X .u (some (.non,.z)) none none none)=some (.ok .nx,stE n T X' f (some (R,.z)) v4 v5 v6)/\Due (wv s 1) n R:=by
 obtain ⟨ρ',e,R,X',f,v4,v5,v6,rfl,hR⟩:=fK (c:=eQ) (b:=eR) (fun t ρ=>∃ m X f R v4 v5 v6,ρ=stE n T X f (some (R,.z)) v4 v5 v6/\(f=.u\/f=.z)/\m<=7/\t=8 - m/\X.length<=64 * 6 ^ m/\(∀ r,r ∈ X ↔ Rw (wv s 1) n r/\r.length=m+2)/\((m=0/\R=.non)\/(0 < m/\∃ Q,R=.tup (Nd Q)/\Rw (wv s 1) n Q/\Q.length=m+1/\∀ r,Rw (wv s 1) n r->r.length=m+1->HT.lexLt (Zs r) (Zs Q)=false)))
  (fun ρ=>∃ R X' f v4 v5 v6,ρ=stE n T X' f (some (R,.z)) v4 v5 v6/\Due (wv s 1) n R) (n:=8) (ρ:=stE n T X .u (some (.non,.z)) none none none) ⟨0,X,.u,.non,none,none,none,rfl,.inl rfl,by omega,rfl,hc,hX,.inl ⟨rfl,rfl⟩⟩ (by
   rintro t ρ ⟨m,X,f,R,v4,v5,v6,rfl,hf,hm,rfl,hc,hX,hR⟩
   have hne:=zc X
   have te:eQ (stE n T X f (some (R,.z)) v4 v5 v6)=some (.ok (!decide (X=[])),stE n T X f (some (R,.z)) v4 v5 v6):=by
    unfold eQ
    (repeat' (first | infer_instance | exact hne | eq_refl))
   by_cases h:X=[]
   ·rw [Cv h] at te
    refine .inl ⟨_,te,R,X,f,v4,v5,v6,rfl,?_⟩
    have no:∀ r,Rw (wv s 1) n r->r.length ≠ m+2:=fun r hr e=>by
     have:=(hX r).mpr ⟨hr,e⟩
     rw [h] at this
     cases this
    rcases hR with ⟨rfl,rfl⟩ | ⟨h0,Q,rfl,q1,q2,q3⟩
    ·refine .inl ⟨?_,rfl⟩
     by_cases h2:2<=n
     ·exact absurd rfl (no [0,1] (Rw.pair (by omega) (by omega)))
     ·omega
    ·exact .inr ⟨Q,m+1,rfl,q1,q2,no,q3⟩
   ·rw [Cw h] at te
    have hm6:m+2<=n:=by
     obtain ⟨r,hr⟩:=List.exists_mem_of_ne_nil _ h
     obtain ⟨a,b⟩:=(hX r).mp hr
     have:=a.short
     omega
    obtain ⟨b1,b2⟩:=six (m:=m) (by omega) hc (show n - (m+2)<=6 - m by omega)
    obtain ⟨Q,X',v5',v6',e,l,hm',hQ,low⟩:=uo (f:=f) (v3:=some (R,.z)) (v4:=v4) (v5:=v5) (v6:=v6) hn hT (by omega) h (fun r hr=>(hX r).mp hr) b1 hf
    obtain ⟨q1,q2⟩:=(hX Q).mp hQ
    refine .inr ⟨_,_,8 - (m+1),te,.inl e,by omega,m+1,X',.z,.tup (Nd Q),_,v5',v6',rfl,.inr rfl,by omega,rfl,CO l b2,fun r=>?_,.inr ⟨by omega,Q,rfl,q1,by omega,fun r hr hrl=>low r ((hX r).mpr ⟨hr,by omega⟩)⟩⟩
    rw [hm',x6]
    constructor
    ·rintro ⟨q,a,b⟩;exact ⟨q,(hX q).mp a,b⟩
    ·rintro ⟨q,a,b⟩;exact ⟨q,(hX q).mpr a,b⟩)
 exact ⟨R,X',f,v4,v5,v6,e,hR⟩
set_option tactic.hygienic true in
theorem yj (hn:n=s.length) (hT:d9 s T) (hl:n<=8):∃ R,kY [(.int (n:Int),.z),(.dt T,.u)]=some (.ok (R,.z),[(.int (n:Int),.z),(.dt T,.u)])/\Due (wv s 1) n R:=by
 have hp:=tq n (by omega)
 obtain ⟨τ',e,a,b,rfl⟩:=cD (bnd:=kI 2 (bT (am 0) (bT (am 1) kJ))) (c:=dW) (elt:=iZ) (fun τ=>∃ a b,τ=[a,b]) PrD (fun _=>true) (fun t:Pr=>.tup (Nd [t.1,t.2])) (xs:=prI n n) (τ:=[none,none]) ⟨none,none,rfl⟩ (by
  rintro ⟨i,j⟩ ht τ ⟨a,b,rfl⟩
  exact ⟨[some (.int i,.z),some (.int j,.z)],[some (.int i,.z),some (.int j,.z)],rfl,rfl,(fun h=>by cases h),fun _=>⟨.val (.tup [.int i,.int j]) .z,[some (.int i,.z),some (.int j,.z)],(.tup [.int i,.int j],.z),_,by unfold iZ;(repeat' (first | infer_instance | eq_refl)),rfl,rfl,_,_,rfl⟩⟩)
 rw [CQ.mpr (fun _ _=>rfl)] at e
 have e4:(prI n n).map (fun t:Pr=>L3.D.tup (Nd [t.1,t.2]))=Pl ((prI n n).map fun t=>[t.1,t.2]):=by
  show _=((prI n n).map fun t=>[t.1,t.2]).map _
  rw [CT];rfl
 rw [e4] at e
 have hs:=rQ n n
 have hs2:n * n<=8 * 8:=Nat.mul_le_mul hl hl
 have cm:lK [some (.int (n:Int),.z),some (.dt T,.u),none,none,none,none,none]=some (.ok (.val (.lst (Pl ((prI n n).map fun t=>[t.1,t.2]))) .u),[some (.int (n:Int),.z),some (.dt T,.u),none,none,none,none,none]):=bA (rs:=[.val (.lst ((prI n n).map PrD)) .u]) (by (repeat' (first | infer_instance | with_reducible apply aD (hp) | eq_refl))) e (by rw [Ck];omega) rfl
 obtain ⟨R,X',f,v4,v5,v6,ew,hR⟩:=um (T:=T) hn hT hl (X:=(prI n n).map fun t=>[t.1,t.2]) (fun r=>by
  constructor
  ·intro h
   obtain ⟨t,ht,rfl⟩:=Co.mp h
   have:=mem_prI.mp ht
   exact ⟨Rw.pair this.1 this.2,rfl⟩
  ·rintro ⟨h1,h2⟩
   refine Co.mpr ⟨(el r 0,el r 1),mem_prI.mpr ⟨h1.up 0 (by omega),h1.lt 1 (by omega)⟩,?_⟩
   refine n5 (by rw [h2];rfl) fun a ha=>?_
   have:a=0\/a=1:=by simp at ha;omega
   rcases this with rfl | rfl <;> rfl) (by rw [Ck];omega)
 refine ⟨R,?_,hR⟩
 generalize hY:(prI n n).map (fun t:Pr=>[t.1,t.2])=Y at *
 apply bF (ρ:=[some (.int (n:Int),.z),some (.dt T,.u),none,none,none,none,none]) rfl rfl
 ·unfold rX
  apply aj (ρ1:=[some (.int (n:Int),.z),some (.dt T,.u),some (.lst (Pl Y),.u),none,none,none,none])
  ·exact iQ cm rfl (show 2 < 7 by decide) rfl
  apply aj (ρ1:=[some (.int (n:Int),.z),some (.dt T,.u),some (.lst (Pl Y),.u),some (.non,.z),none,none,none])
  ·(repeat' (first | infer_instance | eq_refl))
  apply aj
  ·exact ew
  ·(repeat' (first | infer_instance | eq_refl))
 ·rfl
theorem BQ {w:Nat->Nat->Nat->Bool} {P:List Nat} {L:Nat} {R:L3.D} (hP:Rw w n P) (lP:P.length=L) (uP:∀ r,Rw w n r->r.length<=L) (bP:∀ r,Rw w n r->r.length=L->HT.lexLt (Zs r) (Zs P)=false) (h:Due w n R):R=.tup (Nd P):=by
 rcases h with ⟨h1,_⟩ | ⟨Q,m,rfl,q1,q2,q3,q4⟩
 ·have:=hP.short;have:=hP.two;omega
 ·rw [xm hP lP uP bP q1 q2 q3 q4]
end
theorem sD (xs:List L3.D) (a:Nat):slD (.tup xs) none (some (a:Int))=some (.tup (xs.take a),.z):=by
 have e:iI xs none (some (a:Int))=xs.take a:=by
  unfold iI
  rw [HT.sIx_none,HT.sIx_nat,List.drop_zero,Nat.sub_zero]
  by_cases h:a<=xs.length
  ·rw [Nat.min_eq_left h]
  ·rw [Nat.min_eq_right (by omega),List.take_length,CP (by omega)]
 show some ((.tup (iI xs none (some (a:Int))),.z):L3.D × Fl)=_
 rw [e]
theorem uw (xs:List L3.D) (a:Nat):slD (.tup xs) (some (a:Int)) none=some (.tup (xs.drop a),.z):=by
 have e:iI xs (some (a:Int)) none=xs.drop a:=by
  unfold iI
  rw [HT.sIx_none,HT.sIx_nat]
  by_cases h:a<=xs.length
  ·rw [Nat.min_eq_left h,CP (by rw [List.length_drop];omega)]
  ·rw [Nat.min_eq_right (by omega),List.drop_length,List.drop_of_length_le (by omega),List.take_nil]
 show some ((.tup (iI xs (some (a:Int)) none),.z):L3.D × Fl)=_
 rw [e]
theorem xc (xs:List L3.D) (a:Nat):slD (.tup xs) (some (a:Int)) (some ((a:Int)+1))=some (.tup ((xs.drop a).take 1),.z):=by
 have e:iI xs (some (a:Int)) (some ((a:Int)+1))=(xs.drop a).take 1:=by
  unfold iI
  rw [show ((a:Int)+1)=((a+1:Nat):Int) by omega,HT.sIx_nat,HT.sIx_nat]
  by_cases h:a+1<=xs.length
  ·rw [show min a xs.length=a by omega,show min (a+1) xs.length=a+1 by omega,show a+1 - a=1 by omega]
  ·rw [show min a xs.length=xs.length by omega,List.drop_length,List.drop_of_length_le (by omega),List.take_nil,List.take_nil]
 show some ((.tup (iI xs (some (a:Int)) (some ((a:Int)+1))),.z):L3.D × Fl)=_
 rw [e]
noncomputable abbrev stO (n many:Int) (ps:List Pt) (v3 v4:Option (L3.D × Fl)):Sto:=[some (.lst [.int n],.u),some (.int many,.z),some (Shd ps,.z),v3,v4]
set_option tactic.hygienic true in
theorem sW {n many x y0:Int} {ps:List Pt} (R:Rising ps) (hs:∀ p ∈ ps,Small p) (hl:ps.length<=12) :
  ∃ y,cM bY cI (stO n many ps (some (.int x,.z)) (some (.int y0,.z)))=some (.ok .nx,stO n many ps (some (.int x,.z)) (some (.int y,.z)))/\y0<=y/\y<=y0+144:=by
 have ablt:=ni ps x y0 hl
 obtain ⟨ρ',e,y,rfl,h1,h2⟩:=fK (c:=bY) (b:=cI) (fun m ρ=>∃ y:Int,ρ=stO n many ps (some (.int x,.z)) (some (.int y,.z))/\m=above ps x y/\y0<=y/\y+(above ps x y:Int)<=y0+(above ps x y0:Int))
  (fun ρ=>∃ y:Int,ρ=stO n many ps (some (.int x,.z)) (some (.int y,.z))/\y0<=y/\y<=y0+144) (ρ:=stO n many ps (some (.int x,.z)) (some (.int y0,.z))) ⟨y0,rfl,rfl,Int.le_refl _,Int.le_refl _⟩ (by
   rintro m ρ ⟨y,rfl,rfl,h1,h2⟩
   obtain ⟨b,eb,ht,hf⟩:=tu ps (x,y) hs (by omega)
   have et:bY (stO n many ps (some (.int x,.z)) (some (.int y,.z)))=some (.ok (!b),stO n many ps (some (.int x,.z)) (some (.int y,.z))):=by
    unfold bY
    (repeat' (first | infer_instance | with_reducible apply aD (eb) | eq_refl))
   cases b with
   | true=>exact .inl ⟨_,et,y,rfl,h1,by omega⟩
   | false =>
    obtain ⟨i,j,p,q,hij,e1,e2,h0⟩:=hf rfl
    have hlt:=p8 R hij e1 e2 h0
    exact .inr ⟨_,stO n many ps (some (.int x,.z)) (some (.int (y+1),.z)),_,et,.inl (by unfold cI;(repeat' (first | infer_instance | eq_refl))),hlt,y+1,rfl,rfl,by omega,by omega⟩)
 exact ⟨y,e,h1,h2⟩
structure Rsm (ps:List Pt):Prop where
 pos:0 < ps.length
 most:ps.length<=12
 rise:Rising ps
 lo:∀ q ∈ ps,-(2 ^ 50) < q.1/\q.1 < 2 ^ 50+(ps.length:Int)
 hi:∀ q ∈ ps,-(2 ^ 61) < q.2/\q.2 < 2 ^ 61
theorem Rsm.small {ps:List Pt} (r:Rsm ps):∀ q ∈ ps,Small q:=fun q hq=>by
 have:=r.lo q hq
 have:=r.hi q hq
 have:=r.most
 refine ⟨by omega,by omega,by omega,by omega⟩
set_option tactic.hygienic true in
theorem xW {n many:Int} {qs:List Pt} {z:Pt} (r:Rsm (qs ++ [z])) (hl:(qs ++ [z]).length < 12) {v3 v4:Option (L3.D × Fl)}:∃ n' y v3' v4',cH (stO n many (qs ++ [z]) v3 v4)=some (.ok .nx,stO n' many (qs ++ [z] ++ [(z.1+1,y)]) v3' v4')/\Rsm (qs ++ [z] ++ [(z.1+1,y)]):=by
 have d0:=cJ n 30 (by decide)
 have t:=fM n 30 (by decide)
 obtain ⟨y,ew,h1,h2⟩:=sW (n:=n / 30) (many:=many) (x:=z.1+1) (y0:=n % 30) r.rise r.small (by omega)
 have hz:z ∈ qs ++ [z]:=by simp
 have la:aw (Shd (qs ++ [z])) (.int (-1))=some (Pd z,.z):=by
  refine iU ?_
  rw [List.map_append]
  exact xt _ _
 have l0:aw (Pd z) (.int 0)=some (.int z.1,.z):=rfl
 have ct:bg (Shd (qs ++ [z])) (.tup [Pd (z.1+1,y)])=some (Shd (qs ++ [z] ++ [(z.1+1,y)]),.z):=by
  have:=iB (A:=(qs ++ [z]).map Pd) (B:=[Pd (z.1+1,y)]) (by simp at hl ⊢;omega)
  rw [this];simp [Shd]
 have up:∀ q ∈ qs ++ [z],q.1<=z.1:=fun q hq=>by
  rcases Ci.mp hq with h | h
  ·obtain ⟨i,hi⟩:=List.getElem?_of_mem h
   have hi':i < qs.length:=(Cl.mp hi).1
   have:=r.rise i qs.length q z hi' (by rw [CK hi'];exact hi) (by simp)
   omega
  ·rw [CH.mp h];exact Int.le_refl _
 refine ⟨n / 30,y,some (.int (z.1+1),.z),some (.int y,.z),?_,?_⟩
 ·unfold cH
  generalize qs ++ [z]=ps at *
  apply aj (ρ1:=stO n many ps (some (.int (z.1+1),.z)) v4)
  ·(repeat' (first | infer_instance | exact la | exact l0 | eq_refl))
  apply aj (ρ1:=stO (n / 30) many ps (some (.int (z.1+1),.z)) (some (.int (n % 30),.z)))
  ·(repeat' (first | infer_instance | with_reducible apply aD (t) | eq_refl))
  apply aj
  ·exact ew
  ·exact iQ (eX (bp rfl) (lW (d6 (lW (d6 (bp rfl) (d6 (bp rfl) hV)) rfl (show 2<=16777216 by decide)) hV) rfl (show 1<=16777216 by decide)) rfl rfl ct) rfl (show 2 < 5 by decide) rfl
 ·have zl:=r.lo z hz
  refine ⟨by simp,by simp at hl ⊢;omega,r.rise.snoc fun p hp=>by have:=up p hp;show p.1 < z.1+1;omega,fun q hq=>?_,fun q hq=>?_⟩
  ·rcases Ci.mp hq with h | h
   ·have:=r.lo q h
    rw [CB]
    simp only [CC,List.length_nil]
    omega
   ·rw [CH.mp h,CB]
    simp only [CC,List.length_nil]
    omega
  ·rcases Ci.mp hq with h | h
   ·exact r.hi q h
   ·rw [CH.mp h]
    show -(2 ^ 61) < y/\y < 2 ^ 61
    omega
set_option tactic.hygienic true in
theorem ye (n:Int) (many:Nat) (h1:1<=many) (h2:many<=8):∃ (n':Int) (ps:List Pt),eJ [(.lst [.int n],.u),(.int (many:Int),.z)]=some (.ok (Shd ps,.z),[(.lst [.int n'],.u),(.int (many:Int),.z)])/\ps.length=many/\Rising ps/\∀ q ∈ ps,Small q:=by
 obtain ⟨n1,ps,e1,g,hl,hb⟩:=tf n 9 (by decide) (by decide)
 have r:Rsm ps:=⟨g.pos,by omega,g.rising,fun q hq=>by have:=hb q hq;have:=g.pos;omega,fun q hq=>(hb q hq).1⟩
 obtain ⟨ρ',ew,n2,ps2,v3,v4,rfl,r2,l2⟩:=fK (c:=cG) (b:=cH) (fun m ρ=>∃ n ps v3 v4,ρ=stO n (many:Int) ps v3 v4/\Rsm ps/\m=many - ps.length)
  (fun ρ=>∃ n ps v3 v4,ρ=stO n (many:Int) ps v3 v4/\Rsm ps/\many<=ps.length) (ρ:=stO n1 (many:Int) ps none none) (n:=many - ps.length) ⟨n1,ps,none,none,rfl,r,rfl⟩ (by
   rintro m ρ ⟨n,ps,v3,v4,rfl,r,rfl⟩
   have hlen:fH [Shd ps]=some (.int (ps.length:Nat),.z):=by simp [t7,c1]
   have te:cG (stO n (many:Int) ps v3 v4)=some (.ok (decide ((ps.length:Int) < (many:Int))),stO n (many:Int) ps v3 v4):=by
    unfold cG
    (repeat' (first | infer_instance | exact hlen | eq_refl))
   by_cases h:ps.length < many
   ·rw [Cv (by omega)] at te
    obtain ⟨qs,z,rfl⟩:∃ qs z,ps=qs ++ [z]:=⟨ps.dropLast,ps.getLast (fun e=>by have:=r.pos;rw [e] at this;cases this),(List.dropLast_concat_getLast _).symm⟩
    obtain ⟨n',y,v3',v4',e,r'⟩:=xW (n:=n) (many:=(many:Int)) (v3:=v3) (v4:=v4) r (by omega)
    exact .inr ⟨_,_,many - (qs ++ [z] ++ [(z.1+1,y)]).length,te,.inl e,by simp only [CB,CC,List.length_nil] at *;omega,n',_,v3',v4',rfl,r',rfl⟩
   ·rw [Cw (by omega)] at te
    exact .inl ⟨_,te,n,ps,v3,v4,rfl,r,by omega⟩)
 have ct:=sD (ps2.map Pd) many
 rw [<- List.map_take] at ct
 have lt:(ps2.take many).length=many:=by rw [CD];omega
 refine ⟨n2,ps2.take many,?_,lt,?_,fun q hq=>r2.small q (List.mem_of_mem_take hq)⟩
 ·apply bF (ρ:=[some (.lst [.int n],.u),some (.int (many:Int),.z),none,none,none]) rfl rfl
  ·unfold jv
   apply aj (ρ1:=stO n1 (many:Int) ps none none)
   ·(repeat' (first | infer_instance | with_reducible apply aD (e1) | eq_refl))
   apply aj
   ·exact ew
   ·(repeat' (first | infer_instance | exact ct | eq_refl))
  ·rfl
 ·intro i j p q hij hp hq
  rw [List.getElem?_take] at hp hq
  split at hp
  ·split at hq
   ·exact r2.rise i j p q hij hp hq
   ·cases hq
  ·cases hp
theorem As (s:Sg):dzD [.lst ((av s.length).map Td),.tup (SgD s)]=some (.dt (T0 s),.u):=by
 show ((iP ((av s.length).map Td)).bind fun ks=>if ks.length=((av s.length).map fun t=>L3.D.int (tn s t)).length/\ks.Nodup then some ((.dt (ks.zip ((av s.length).map fun t=>L3.D.int (tn s t))),.u):L3.D × Fl) else none)=_
 rw [jY]
 show (if ((av s.length).map kT).length=((av s.length).map fun t=>L3.D.int (tn s t)).length/\((av s.length).map kT).Nodup then _ else _)=_
 rw [if_pos]
 ·rfl
 refine ⟨by simp,?_⟩
 unfold List.Nodup
 rw [List.pairwise_map]
 exact (nq _).imp fun h e=>h (qP e)
noncomputable abbrev stA (N:L3.D) (S R:List L3.D) (T:List (List Key × L3.D)) (v4 v5 v6 v7 v8:Option (L3.D × Fl)):Sto:=[some (N,.z),some (.tup S,.z),some (.lst R,.l),some (.dt T,.u),v4,v5,v6,v7,v8]
section
variable {s:Sg} {T:List (List Key × L3.D)} {N:L3.D} {S R:List L3.D}
set_option tactic.hygienic true in
theorem BD (hT:d9 s T) {h i j k:Nat} (h1:h < i) (h2:i < j) (h3:j < k) (h4:k < s.length) {v8:Option (L3.D × Fl)}:∃ v8',
  (chg (trn s h i j) (trn s h i k) (trn s h j k) (trn s i j k)<=1->bq (stA N S R T (some (.int i,.z)) (some (.int j,.z)) (some (.int k,.z)) (some (.int h,.z)) v8)=some (.ok .nx,stA N S R T (some (.int i,.z)) (some (.int j,.z)) (some (.int k,.z)) (some (.int h,.z)) v8')) /\
  (¬ chg (trn s h i j) (trn s h i k) (trn s h j k) (trn s i j k)<=1->bq (stA N S R T (some (.int i,.z)) (some (.int j,.z)) (some (.int k,.z)) (some (.int h,.z)) v8)=some (.ok (.rt (.bl false) .z),stA N S R T (some (.int i,.z)) (some (.int j,.z)) (some (.int k,.z)) (some (.int h,.z)) v8')):=by
 have t1:aw (.dt T) (.tup [.int h,.int i,.int j])=some (.int (trn s h i j),.z):=k9 (hT h i j h1 h2 (by omega))
 have t2:aw (.dt T) (.tup [.int h,.int i,.int k])=some (.int (trn s h i k),.z):=k9 (hT h i k h1 (by omega) h4)
 have t3:aw (.dt T) (.tup [.int h,.int j,.int k])=some (.int (trn s h j k),.z):=k9 (hT h j k (by omega) h3 h4)
 have t4:aw (.dt T) (.tup [.int i,.int j,.int k])=some (.int (trn s i j k),.z):=k9 (hT i j k h2 h3 h4)
 generalize trn s h i j=a at *
 generalize trn s h i k=b at *
 generalize trn s h j k=c at *
 generalize trn s i j k=d at *
 obtain ⟨out,τ',e,⟨v,rfl⟩,hl⟩:=oR a b c d
 have e:cp (am 0) fV fU [.int 0,.int 1,.int 2] [none,some (R4 a b c d,.u)]=some (.ok out,[v,some (R4 a b c d,.u)]):=e
 have hr:cV [.int 3]=some [.int 0,.int 1,.int 2]:=rfl
 generalize L3.D.int (h:Int)=dh at *
 generalize L3.D.int (i:Int)=di at *
 generalize L3.D.int (j:Int)=dj at *
 generalize L3.D.int (k:Int)=dk at *
 have e2:dC (stA N S R T (some (di,.z)) (some (dj,.z)) (some (dk,.z)) (some (dh,.z)) (some (R4 a b c d,.u)))=some (.ok (.val (.lst out) .u),stA N S R T (some (di,.z)) (some (dj,.z)) (some (dk,.z)) (some (dh,.z)) (some (R4 a b c d,.u))):=bA (rs:=[]) (by (repeat' (first | with_reducible apply cC (h3:=hr) | infer_instance | eq_refl))) e (by decide) rfl
 have hg:gtI (.int (out.length:Int)) (.int 1)=some (.bl (!decide (chg a b c d<=1)),.z):=by
  rw [<- hl]
  simp [gz]
  by_cases q:out.length<=1
  ·simp [q];omega
  ·simp [q];omega
 have set:aN 8 (fW (ab (ah aw (ac 3) (bI (ab (ac 7) (ab (ac 4) (ab (ac 5) ai))))) (ab (ah aw (ac 3) (bI (ab (ac 7) (ab (ac 4) (ab (ac 6) ai))))) (ab (ah aw (ac 3) (bI (ab (ac 7) (ab (ac 5) (ab (ac 6) ai))))) (ab (ah aw (ac 3) (bI (ab (ac 4) (ab (ac 5) (ab (ac 6) ai))))) ai))))) (stA N S R T (some (di,.z)) (some (dj,.z)) (some (dk,.z)) (some (dh,.z)) v8)=some (.ok .nx,stA N S R T (some (di,.z)) (some (dj,.z)) (some (dk,.z)) (some (dh,.z)) (some (R4 a b c d,.u))):=by
  have l1:ah aw (ac 3) (bI (ab (ac 7) (ab (ac 4) (ab (ac 5) ai)))) (stA N S R T (some (di,.z)) (some (dj,.z)) (some (dk,.z)) (some (dh,.z)) v8)=some (.ok (.val (.int a) .z),stA N S R T (some (di,.z)) (some (dj,.z)) (some (dk,.z)) (some (dh,.z)) v8):=by (repeat' (first | infer_instance | exact t1 | eq_refl))
  have l2:ah aw (ac 3) (bI (ab (ac 7) (ab (ac 4) (ab (ac 6) ai)))) (stA N S R T (some (di,.z)) (some (dj,.z)) (some (dk,.z)) (some (dh,.z)) v8)=some (.ok (.val (.int b) .z),stA N S R T (some (di,.z)) (some (dj,.z)) (some (dk,.z)) (some (dh,.z)) v8):=by (repeat' (first | infer_instance | exact t2 | eq_refl))
  have l3:ah aw (ac 3) (bI (ab (ac 7) (ab (ac 5) (ab (ac 6) ai)))) (stA N S R T (some (di,.z)) (some (dj,.z)) (some (dk,.z)) (some (dh,.z)) v8)=some (.ok (.val (.int c) .z),stA N S R T (some (di,.z)) (some (dj,.z)) (some (dk,.z)) (some (dh,.z)) v8):=by (repeat' (first | infer_instance | exact t3 | eq_refl))
  have l4:ah aw (ac 3) (bI (ab (ac 4) (ab (ac 5) (ab (ac 6) ai)))) (stA N S R T (some (di,.z)) (some (dj,.z)) (some (dk,.z)) (some (dh,.z)) v8)=some (.ok (.val (.int d) .z),stA N S R T (some (di,.z)) (some (dj,.z)) (some (dk,.z)) (some (dh,.z)) v8):=by (repeat' (first | infer_instance | exact t4 | eq_refl))
  (repeat' (first | with_reducible exact l1 | with_reducible exact l2 | with_reducible exact l3 | with_reducible exact l4 | infer_instance | eq_refl))
 have cnd:cB (ah gtI (aG fH (ab dC ai)) (mC (.int 1))) (stA N S R T (some (di,.z)) (some (dj,.z)) (some (dk,.z)) (some (dh,.z)) (some (R4 a b c d,.u)))=some (.ok (!decide (chg a b c d<=1)),stA N S R T (some (di,.z)) (some (dj,.z)) (some (dk,.z)) (some (dh,.z)) (some (R4 a b c d,.u))):=by
  (repeat' (first | with_reducible exact e2 | infer_instance | exact hg | eq_refl))
 refine ⟨some (R4 a b c d,.u),fun q=>?_,fun q=>?_⟩
 ·rw [Cv q] at cnd
  unfold bq
  exact aj set (dy cnd rfl rfl)
 ·rw [Cw q] at cnd
  unfold bq
  exact aj set (kn cnd rfl (jz i_c rfl))
set_option tactic.hygienic true in
theorem BC (hT:d9 s T) {i j k:Nat} (h2:i < j) (h3:j < k) (h4:k < s.length) (hl:s.length<=24) {v7 v8:Option (L3.D × Fl)}:∃ v7' v8',
  (bS (stA N S R T (some (.int i,.z)) (some (.int j,.z)) (some (.int k,.z)) v7 v8)=some (.ok .nx,stA N S R T (some (.int i,.z)) (some (.int j,.z)) (some (.int k,.z)) v7' v8')/\∀ h,h < i->chg (trn s h i j) (trn s h i k) (trn s h j k) (trn s i j k)<=1) \/
  bS (stA N S R T (some (.int i,.z)) (some (.int j,.z)) (some (.int k,.z)) v7 v8)=some (.ok (.rt (.bl false) .z),stA N S R T (some (.int i,.z)) (some (.int j,.z)) (some (.int k,.z)) v7' v8'):=by
 obtain ⟨ρ',hh⟩:=jB (bnd:=am 7) (b:=bq) (fun m ρ=>∃ v7 v8,ρ=stA N S R T (some (.int i,.z)) (some (.int j,.z)) (some (.int k,.z)) v7 v8/\∀ h,h < m->chg (trn s h i j) (trn s h i k) (trn s h j k) (trn s i j k)<=1) (fun _ r f ρ=>r=.bl false/\f=.z/\∃ v7 v8,ρ=stA N S R T (some (.int i,.z)) (some (.int j,.z)) (some (.int k,.z)) v7 v8) (ds:=aV 0 i) (ρ:=stA N S R T (some (.int i,.z)) (some (.int j,.z)) (some (.int k,.z)) v7 v8) (k:=0) ⟨v7,v8,rfl,fun h hh=>by omega⟩ (by
  rintro m d ρ hd ⟨v7,v8,rfl,hm⟩
  obtain ⟨hmi,rfl⟩:=bX hd
  rw [Cz] at hm ⊢
  obtain ⟨v8',g1,g2⟩:=BD (N:=N) (S:=S) (R:=R) (v8:=v8) hT (h:=m) hmi h2 h3 h4
  refine ⟨stA N S R T (some (.int i,.z)) (some (.int j,.z)) (some (.int k,.z)) (some (.int m,.z)) v8,stA N S R T (some (.int i,.z)) (some (.int j,.z)) (some (.int k,.z)) (some (.int m,.z)) v8',by rw [Int.zero_add];rfl,?_⟩
  by_cases q:chg (trn s m i j) (trn s m i k) (trn s m j k) (trn s i j k)<=1
  ·refine .inl ⟨.inl (g1 q),_,_,rfl,fun h hh=>?_⟩
   by_cases e:h=m
   ·subst e;exact q
   ·exact hm h (by omega)
  ·exact .inr ⟨_,_,g2 q,rfl,rfl,_,_,rfl⟩)
 have hr:cV [.int (i:Int)]=some (aV 0 i):=eA (by omega) (by omega)
 have im:aT cV (ab (ac 4) ai) (stA N S R T (some (.int i,.z)) (some (.int j,.z)) (some (.int k,.z)) v7 v8)=some (.ok ([],aV 0 i),stA N S R T (some (.int i,.z)) (some (.int j,.z)) (some (.int k,.z)) v7 v8):=by (repeat' (first | with_reducible apply cC (h3:=hr) | infer_instance | eq_refl))
 rcases hh with ⟨e,v7',v8',rfl,hm⟩ | ⟨_,r,f,_,e,rfl,rfl,v7',v8',rfl⟩
 ·rw [bv,Cz] at hm
  exact ⟨v7',v8',.inl ⟨dR im rfl e,hm⟩⟩
 ·exact ⟨v7',v8',.inr (dR im rfl e)⟩
set_option tactic.hygienic true in
theorem yi (h0:0 < s.length) (hl:s.length<=24) (hs:∀ i j k,i < j->j < k->k < s.length->s.f i j k=1\/s.f i j k = -1):∃ b:Bool,dL [(.int (s.length:Int),.z),(.tup (SgD s),.z)]=some (.ok (.bl b,.z),[(.int (s.length:Int),.z),(.tup (SgD s),.z)])/\(b=true->OkS s):=by
 have th:=lg s.length (by omega)
 have sm:=eM (n:=s.length) (by omega)
 have dz:=As s
 have hT:=jH s
 generalize T0 s=T at *
 obtain ⟨τ1,e1,a1,rfl⟩:=cD (bnd:=am 0) (c:=dW) (elt:=cx) (fun τ=>∃ a,τ=[a]) (fun t:Tri=>L3.D.int (tn s t)) (fun _=>true) (fun _=>.bl true) (xs:=av s.length) (τ:=[none]) ⟨none,rfl⟩ (by
  rintro t ht τ ⟨a,rfl⟩
  have ht:=fO ht
  have hv:tn s t=1\/tn s t = -1:=hs t.1 t.2.1 t.2.2 ht.1 ht.2.1 ht.2.2
  have f:=lf (tn s t)
  have m1:gj (.int (tn s t)) (.int (tn s t))=some (.int 1,.z):=by rcases hv with h | h <;> rw [h] <;> rfl
  refine ⟨[some (.int (tn s t),.z)],_,rfl,rfl,(fun h=>by cases h),fun _=>⟨.val (.bl true) .z,[some (.int (tn s t),.z)],(.bl true,.z),[some (.int (tn s t),.z)],?_,rfl,rfl,_,rfl⟩⟩
  unfold cx
  apply kU (b:=true)
  ·(repeat' (first | infer_instance | with_reducible apply aD (f) | eq_refl))
  ·rfl
  ·rfl
  ·(repeat' (first | infer_instance | exact m1 | exact fy _ _ | eq_refl)))
 rw [CQ.mpr (fun _ _=>rfl)] at e1
 have a3:=iC (ds:=(av s.length).map fun _=>.bl true) (fun d hd=>by obtain ⟨_,_,rfl⟩:=Co.mp hd;rfl)
 generalize (av s.length).map (fun _=>L3.D.bl true)=o1 at *
 have hlen:neX (.int ((SgD s).length:Int)) (.int (((av s.length).map Td).length:Int))=some (.bl false,.z):=by
  rw [nN];simp
 have hSl:(SgD s).length < 16777216:=by simp;omega
 have e1:cp (am 0) dW cx (SgD s) [none]=some (.ok o1,[a1]):=e1
 obtain ⟨ρ',hh⟩:=jB (bnd:=kI 3 (bT (am 4) (bT (am 5) (bT (am 6) kJ)))) (b:=bS) (fun m ρ=>∃ v4 v5 v6 v7 v8,ρ=stA (.int (s.length:Int)) (SgD s) ((av s.length).map Td) T v4 v5 v6 v7 v8/\∀ t ∈ (av s.length).take m,∀ h,h < t.1->chg (trn s h t.1 t.2.1) (trn s h t.1 t.2.2) (trn s h t.2.1 t.2.2) (trn s t.1 t.2.1 t.2.2)<=1) (fun _ r f ρ=>r=.bl false/\f=.z/\∃ v4 v5 v6 v7 v8,ρ=stA (.int (s.length:Int)) (SgD s) ((av s.length).map Td) T v4 v5 v6 v7 v8) (ds:=(av s.length).map Td) (ρ:=stA (.int (s.length:Int)) (SgD s) ((av s.length).map Td) T none none none none none) (k:=0) ⟨none,none,none,none,none,rfl,fun t ht=>absurd (List.take_zero (l:=av s.length) ▸ ht) List.not_mem_nil⟩ (by
  rintro m d ρ hd ⟨v4,v5,v6,v7,v8,rfl,hm⟩
  rw [Cp,Cc] at hd
  obtain ⟨⟨i,j,k⟩,ht,rfl⟩:=hd
  obtain ⟨m1,m2,m3⟩:=fO (Cm ht)
  rw [Cz] at hm ⊢
  obtain ⟨v7',v8',hb⟩:=BC (N:=.int (s.length:Int)) (S:=SgD s) (R:=(av s.length).map Td) (v7:=v7) (v8:=v8) hT (i:=i) (j:=j) (k:=k) m1 m2 m3 hl
  generalize SgD s=S at *
  refine ⟨stA (.int (s.length:Int)) S ((av s.length).map Td) T (some (.int i,.z)) (some (.int j,.z)) (some (.int k,.z)) v7 v8,stA (.int (s.length:Int)) S ((av s.length).map Td) T (some (.int i,.z)) (some (.int j,.z)) (some (.int k,.z)) v7' v8',rfl,?_⟩
  rcases hb with ⟨e,q⟩ | e
  ·refine .inl ⟨.inl e,_,_,_,_,_,rfl,fun t htm=>?_⟩
   rw [List.take_add_one,ht] at htm
   rcases Ci.mp htm with h | h
   ·exact hm t h
   ·rw [Option.toList_some,CH] at h
    subst h
    exact q
  ·exact .inr ⟨_,_,e,rfl,rfl,_,_,_,_,_,rfl⟩)
 have c1:fT [some (.int (s.length:Int),.z),some (.tup (SgD s),.z),some (.lst ((av s.length).map Td),.u),none,none,none,none,none,none]=some (.ok (.val (.lst o1) .u),[some (.int (s.length:Int),.z),some (.tup (SgD s),.z),some (.lst ((av s.length).map Td),.u),none,none,none,none,none,none]):=bA (im:=cT (ac 1)) (ix:=[none]) (ρ1:=[some (.int (s.length:Int),.z),some (.tup (SgD s),.z),some (.lst ((av s.length).map Td),.u),none,none,none,none,none,none]) (ρ2:=[some (.int (s.length:Int),.z),some (.tup (SgD s),.z),some (.lst ((av s.length).map Td),.u),none,none,none,none,none,none]) (rs:=[.pl 1]) (by (repeat' (first | infer_instance | eq_refl))) e1 hSl rfl
 have head:∀ {o:Except L3.D Flw} {ρ2:Sto},(aE (cN (cT (ac 2)) (kI 3 (bT (am 4) (bT (am 5) (bT (am 6) kJ)))) bS) (bG 2 (mC (.bl true)))) [some (.int (s.length:Int),.z),some (.tup (SgD s),.z),some (.lst ((av s.length).map Td),.u),some (.dt T,.u),none,none,none,none,none]=some (o,ρ2)->fG [some (.int (s.length:Int),.z),some (.tup (SgD s),.z),none,none,none,none,none,none,none]=some (o,ρ2):=fun {o ρ2} hq=>by
  unfold fG
  generalize SgD s=S at *
  generalize (av s.length).map Td=R at *
  generalize L3.D.int (s.length:Int)=N at *
  apply aj (ρ1:=[some (N,.z),some (.tup S,.z),some (.lst R,.u),none,none,none,none,none,none])
  ·(repeat' (first | infer_instance | with_reducible apply aD (th) | eq_refl))
  apply aj (ρ1:=[some (N,.z),some (.tup S,.z),some (.lst R,.u),none,none,none,none,none,none])
  ·apply dy
   ·apply se (b:=false)
    ·apply ib (b:=true)
     (repeat' (first | infer_instance | eq_refl))
    ·rfl
    ·(repeat' (first | infer_instance | exact hlen | eq_refl))
   ·rfl
   ·rfl
  apply aj (ρ1:=[some (N,.z),some (.tup S,.z),some (.lst R,.u),none,none,none,none,none,none])
  ·apply dy
   ·apply ib (b:=true)
    (repeat' (first | with_reducible exact c1 | infer_instance | exact a3 | eq_refl))
   ·rfl
   ·rfl
  apply aj (ρ1:=[some (N,.z),some (.tup S,.z),some (.lst R,.u),some (.dt T,.u),none,none,none,none,none])
  ·(repeat' (first | infer_instance | exact dz | eq_refl))
  exact hq
 generalize hR:(av s.length).map Td=R at *
 generalize hSS:SgD s=S at *
 rcases hh with ⟨e,v4,v5,v6,v7,v8,rfl,hm⟩ | ⟨_,r,f,_,e,rfl,rfl,v4,v5,v6,v7,v8,rfl⟩
 ·refine ⟨true,?_,fun _=>?_⟩
  ·apply bF (ρ:=[some (.int (s.length:Int),.z),some (.tup S,.z),none,none,none,none,none,none,none]) (ρ1:=[some (.int (s.length:Int),.z),some (.tup S,.z),some (.lst R,.u),some (.dt T,.u),v4,v5,v6,v7,v8]) rfl rfl
   ·refine head ?_
    apply aj
    ·exact qT (is:=[2]) (ρ1:=[some (.int (s.length:Int),.z),some (.tup S,.z),some (.lst R,.u),some (.dt T,.u),none,none,none,none,none]) (jA (bp rfl) rfl rfl) rfl e
    ·exact jz i_c rfl
   ·rfl
  ·refine ⟨h0,hl,hs,fun h i j k h1 h2 h3 h4=>?_⟩
   rw [<- hR,Ck,Cz,List.take_length] at hm
   exact hm (i,j,k) (mS h2 h3 h4) h h1
 ·refine ⟨false,?_,fun h=>by cases h⟩
  apply bF (ρ:=[some (.int (s.length:Int),.z),some (.tup S,.z),none,none,none,none,none,none,none]) (ρ1:=[some (.int (s.length:Int),.z),some (.tup S,.z),some (.lst R,.u),some (.dt T,.u),v4,v5,v6,v7,v8]) rfl rfl
  ·refine head ?_
   apply nv
   exact qT (is:=[2]) (ρ1:=[some (.int (s.length:Int),.z),some (.tup S,.z),some (.lst R,.u),some (.dt T,.u),none,none,none,none,none]) (jA (bp rfl) rfl rfl) rfl e
  ·rfl
end
noncomputable def jC (s:Sg) (a:Nat):Sg:=⟨s.length,fun i j k=>if (av s.length)[a]?=some (i,j,k) then 0 - s.f i j k else s.f i j k⟩
theorem uj (s:Sg) (a:Nat):(SgD s).take a ++ (((av s.length).drop a).take 1).map (fun t=>L3.D.int (0 - tn s t)) ++ (SgD s).drop (a+1)=SgD (jC s a):=by
 have key:∀ t,tn (jC s a) t=if (av s.length)[a]?=some t then 0 - tn s t else tn s t:=fun t=>rfl
 show _=(av s.length).map fun t=>L3.D.int (tn (jC s a) t)
 show ((av s.length).map fun t=>L3.D.int (tn s t)).take a ++ _ ++ ((av s.length).map fun t=>L3.D.int (tn s t)).drop (a+1)=_
 rw [<- List.map_take,<- List.map_drop]
 have nd:=nq s.length
 by_cases h:a < (av s.length).length
 ·have ht:(av s.length)[a]?=some (av s.length)[a]:=Cg h
  generalize (av s.length)[a]=t at ht
  have hs:av s.length=(av s.length).take a ++ t :: (av s.length).drop (a+1):=by
   have e1:=List.take_append_drop a (av s.length)
   rw [List.drop_eq_getElem_cons h] at e1
   have e2:(av s.length)[a]=t:=by
    have:=Cg h
    rw [ht] at this
    exact (CV this).symm
   rw [e2] at e1
   exact e1.symm
  have hd:((av s.length).drop a).take 1=[t]:=by
   rw [List.drop_eq_getElem_cons h]
   have:=Cg h
   rw [ht] at this
   rw [CV this];rfl
  rw [hd]
  rw [ht] at key
  generalize (av s.length).take a=A at *
  generalize (av s.length).drop (a+1)=B at *
  rw [hs] at nd ⊢
  obtain ⟨_,n2,n3⟩:=List.nodup_append.mp nd
  have n2:=(List.nodup_cons.mp n2).1
  have kt:tn (jC s a) t=0 - tn s t:=by rw [key,if_pos rfl]
  have hA:A.map (fun t=>L3.D.int (tn s t))=A.map fun t=>L3.D.int (tn (jC s a) t):=CU fun u hu=>by
   rw [key,if_neg (fun e=>?_)]
   have:=CV e
   subst this
   exact n3 _ hu _ B8 rfl
  have hB:B.map (fun t=>L3.D.int (tn s t))=B.map fun t=>L3.D.int (tn (jC s a) t):=CU fun u hu=>by
   rw [key,if_neg (fun e=>?_)]
   have:=CV e
   subst this
   exact n2 hu
  rw [hA,hB,List.map_append,List.append_assoc]
  show _ ++ (L3.D.int (0 - tn s t) :: _)=_ ++ (L3.D.int (tn (jC s a) t) :: _)
  rw [kt];rfl
 ·rw [List.getElem?_eq_none (by omega)] at key
  rw [CP (by omega),List.drop_of_length_le (by omega:(av s.length).length<=a),List.drop_of_length_le (by omega)]
  simp only [List.take_nil,List.map_nil,List.append_nil]
  refine CU fun u hu=>?_
  rw [key,if_neg (by simp)]
theorem wR {s:Sg} (g:OkS s) (a:Nat):∀ i j k,i < j->j < k->k < (jC s a).length->(jC s a).f i j k=1\/(jC s a).f i j k = -1:=fun i j k h1 h2 h3=>by
 have:=g.sgn i j k h1 h2 h3
 show (if (av s.length)[a]?=some (i,j,k) then 0 - s.f i j k else s.f i j k)=1\/(if (av s.length)[a]?=some (i,j,k) then 0 - s.f i j k else s.f i j k) = -1
 by_cases q:(av s.length)[a]?=some (i,j,k)
 ·rw [if_pos q];omega
 ·rw [if_neg q];omega
noncomputable abbrev stG (n:Int) (N:L3.D) (S:List L3.D) (v3 v4 v5:Option (L3.D × Fl)):Sto:=[some (.lst [.int n],.u),some (N,.z),some (.tup S,.z),v3,v4,v5]
set_option tactic.hygienic true in
theorem wY {s:Sg} (g:OkS s) {n:Int} {v3 v4 v5:Option (L3.D × Fl)}:∃ (s':Sg) (n':Int) (v4' v5':Option (L3.D × Fl)),bW (stG n (.int (s.length:Int)) (SgD s) v3 v4 v5)=some (.ok .nx,stG n' (.int (s.length:Int)) (SgD s') v3 v4' v5')/\OkS s'/\s'.length=s.length:=by
 have sm:=eM (n:=s.length) (by have:=g.most;omega)
 have hl:((SgD s).length:Int)=((av s.length).length:Int):=by simp
 have hlen:fH [.tup (SgD s)]=some (.int ((SgD s).length:Int),.z):=by simp [t7,c1]
 have t:=fM n (((SgD s).length:Int)+1) (by omega)
 have d0:=cJ n (((SgD s).length:Int)+1) (by omega)
 obtain ⟨a,ha⟩:∃ a:Nat,n % (((SgD s).length:Int)+1)=(a:Int):=⟨(n % (((SgD s).length:Int)+1)).toNat,by omega⟩
 rw [ha] at t
 have c1:=sD (SgD s) a
 have c2:=xc (SgD s) a
 have c3:=uw (SgD s) (a+1)
 rw [show ((a+1:Nat):Int)=(a:Int)+1 by omega] at c3
 have fl:=uj s a
 have e2:((SgD s).drop a).take 1=(((av s.length).drop a).take 1).map fun t=>L3.D.int (tn s t):=by
  show (((av s.length).map fun t=>L3.D.int (tn s t)).drop a).take 1=_
  rw [<- List.map_drop,<- List.map_take]
 rw [e2] at c2
 obtain ⟨τ',e,w,rfl⟩:=cD (bnd:=am 0) (c:=dW) (elt:=cQ) (fun τ=>∃ a,τ=[a]) (fun t:Tri=>L3.D.int (tn s t)) (fun _=>true) (fun t=>.int (0 - tn s t)) (xs:=((av s.length).drop a).take 1) (τ:=[none]) ⟨none,rfl⟩ (by
  rintro t ht τ ⟨a,rfl⟩
  exact ⟨[some (.int (tn s t),.z)],_,rfl,rfl,(fun h=>by cases h),fun _=>⟨.val (.int (0 - tn s t)) .z,[some (.int (tn s t),.z)],(.int (0 - tn s t),.z),[some (.int (tn s t),.z)],by unfold cQ;(repeat' (first | infer_instance | eq_refl)),rfl,rfl,_,rfl⟩⟩)
 rw [CQ.mpr (fun _ _=>rfl)] at e
 obtain ⟨b,eb,hb⟩:=yi (s:=jC s a) g.pos g.most (wR g a)
 have ez:(jC s a).length=s.length:=rfl
 rw [ez] at eb
 have z1:((SgD s).take a).length+((((av s.length).drop a).take 1).map fun t=>L3.D.int (0 - tn s t)).length<=16777216:=by
  simp only [CD,Ck,List.length_drop];omega
 have z2:((SgD s).take a ++ (((av s.length).drop a).take 1).map fun t=>L3.D.int (0 - tn s t)).length+((SgD s).drop (a+1)).length<=16777216:=by
  simp only [CB,CD,Ck,List.length_drop];omega
 have k1:=iB z1
 have k2:=iB z2
 rw [fl] at k2
 have hM:(((av s.length).drop a).take 1).length < 16777216:=by rw [CD];omega
 generalize hM1:(((av s.length).drop a).take 1).map (fun t=>L3.D.int (tn s t))=M1 at *
 generalize hM2:(((av s.length).drop a).take 1).map (fun t=>L3.D.int (0 - tn s t))=M2 at *
 generalize hS2:SgD (jC s a)=S2 at *
 have hM3:M1.length < 16777216:=by rw [<- hM1,Ck];exact hM
 refine ⟨if b=true then jC s a else s,n / (((SgD s).length:Int)+1),some (.int (a:Int),.z),some (.tup S2,.z),?_,?_,?_⟩
 ·generalize hS:SgD s=S at *
  generalize hA:S.take a=A at *
  generalize hB:S.drop (a+1)=B at *
  generalize hC:A ++ M2=C at *
  generalize L3.D.int (s.length:Int)=N at *
  have cm:eT (stG (n / ((S.length:Int)+1)) N S v3 (some (.int (a:Int),.z)) v5)=some (.ok (.val (.lst M2) .u),stG (n / ((S.length:Int)+1)) N S v3 (some (.int (a:Int),.z)) v5):=bA (im:=cT (mSl slD (ac 2) (iL (ac 4)) (iL (ah bg (ac 4) (mC (.int 1)))))) (ix:=[none]) (rs:=[.val (.tup M1) .z]) (by (repeat' (first | infer_instance | exact c2 | eq_refl))) e hM3 rfl
  have tp:sT [.lst M2]=some (.tup M2,.z):=rfl
  unfold bW
  apply aj (ρ1:=stG (n / ((S.length:Int)+1)) N S v3 (some (.int (a:Int),.z)) v5)
  ·(repeat' (first | infer_instance | with_reducible apply aD (t) | exact hlen | eq_refl))
  apply aj (ρ1:=stG (n / ((S.length:Int)+1)) N S v3 (some (.int (a:Int),.z)) (some (.tup S2,.z)))
  ·(repeat' (first | with_reducible exact cm | infer_instance | exact c1 | exact c3 | exact k1 | exact k2 | exact tp | eq_refl))
  ·cases b with
   | true =>
    apply kn (b:=true)
    ·(repeat' (first | infer_instance | with_reducible apply aD (eb) | eq_refl))
    ·rfl
    ·rw [if_pos rfl,hS2]
     exact iQ (p:=(.tup S2,.z)) (bp rfl) rfl (show 2 < 6 by decide) rfl
   | false =>
    apply dy (b:=false)
    ·(repeat' (first | infer_instance | with_reducible apply aD (eb) | eq_refl))
    ·rfl
    ·rw [if_neg (by decide),hS]
     rfl
 ·cases b with
  | true=>exact hb rfl
  | false=>exact g
 ·cases b <;> rfl
theorem vj {ps:List Pt} (h0:0 < ps.length) (hl:ps.length<=24) (R:Rising ps):OkS ⟨ps.length,fun i j k=>d7 (fN ps i) (fN ps j) (fN ps k)⟩ where
 pos:=h0
 most:=hl
 sgn:=fun i j k _ _ _=>by
  show d7 _ _ _=1\/d7 _ _ _ = -1
  unfold d7
  split
  ·exact .inl rfl
  ·exact .inr rfl
 chg1:=fun h i j k h1 h2 h3 h4=>by
  have h4:k < ps.length:=h4
  exact BY (R h i _ _ h1 (c6 (by omega)) (c6 (by omega))) (R i j _ _ h2 (c6 (by omega)) (c6 (by omega))) (R j k _ _ h3 (c6 (by omega)) (c6 (by omega)))
set_option tactic.hygienic true in
theorem tw (n:Int) (many:Nat) (h1:1<=many) (h2:many<=8):∃ (n':Int) (s:Sg),cK [(.lst [.int n],.u),(.int (many:Int),.z)]=some (.ok (.tup (SgD s),.z),[(.lst [.int n'],.u),(.int (many:Int),.z)])/\OkS s/\s.length=many:=by
 obtain ⟨n1,ps,e1,hl,R,sm⟩:=ye n many h1 h2
 have e2:=s9 ps (by omega) sm
 have g0:=vj (ps:=ps) (by omega) (by omega) R
 have e2:gb [(Shd ps,.z)]=some (.ok (.tup (SgD ⟨ps.length,fun i j k=>d7 (fN ps i) (fN ps j) (fN ps k)⟩),.z),[(Shd ps,.z)]):=e2
 have l0:(⟨ps.length,fun i j k=>d7 (fN ps i) (fN ps j) (fN ps k)⟩:Sg).length=many:=hl
 generalize (⟨ps.length,fun i j k=>d7 (fN ps i) (fN ps j) (fN ps k)⟩:Sg)=s0 at *
 have t:=fM n1 4 (by decide)
 have d0:=cJ n1 4 (by decide)
 obtain ⟨m,hm⟩:∃ m:Nat,n1 % 4=(m:Int):=⟨(n1 % 4).toNat,by omega⟩
 rw [hm] at t
 obtain ⟨ρ',e,n2,s,v3,v4,v5,rfl,g,gl⟩:=bL (bnd:=am 3) (b:=bW) (fun _ ρ=>∃ n s v3 v4 v5,ρ=stG n (.int (many:Int)) (SgD s) v3 v4 v5/\OkS s/\s.length=many) (ds:=aV 0 m) (ρ:=stG (n1 / 4) (.int (many:Int)) (SgD s0) none none none) (k:=0) ⟨_,_,_,_,_,rfl,g0,l0⟩ (by
  rintro i d ρ hd ⟨n,s,v3,v4,v5,rfl,g,gl⟩
  obtain ⟨s',n',v4',v5',e,g',gl'⟩:=wY g (n:=n) (v3:=some (d,.z)) (v4:=v4) (v5:=v5)
  rw [gl] at e
  exact ⟨_,_,rfl,.inl e,n',s',_,_,_,rfl,g',gl'.trans gl⟩)
 have hr:cV [.int (m:Int)]=some (aV 0 m):=eA (by omega) (by omega)
 refine ⟨n2,s,?_,g,gl⟩
 generalize SgD s0=S0 at *
 generalize SgD s=S1 at *
 apply bF (ρ:=[some (.lst [.int n],.u),some (.int (many:Int),.z),none,none,none,none]) rfl rfl
 ·unfold gI
  apply aj (ρ1:=stG n1 (.int (many:Int)) S0 none none none)
  ·(repeat' (first | infer_instance | with_reducible apply aD (e1) | with_reducible apply aD (e2) | eq_refl))
  apply aj (ρ1:=stG n2 (.int (many:Int)) S1 v3 v4 v5)
  ·apply dR (ρ1:=stG (n1 / 4) (.int (many:Int)) S0 none none none)
   ·(repeat' (first | with_reducible apply cC (h3:=hr) | infer_instance | with_reducible apply aD (t) | eq_refl))
   ·rfl
   ·exact e
  ·(repeat' (first | infer_instance | eq_refl))
 ·rfl
set_option tactic.hygienic true in
theorem wF {ns:List Int} (k:Nat) {v2 v3 v4 v5 v6:Option (L3.D × Fl)} :
  ∃ w2 w3 w4 w5 w6,gY [some (.fls (ns.map .int),.z),some (.int k,.z),v2,v3,v4,v5,v6]=some (.ok .nx,[some (.fls (ns.map .int),.z),some (.int k,.z),w2,w3,w4,w5,w6]):=by
 obtain ⟨n,eb⟩:=ym ns k
 have t:=fM n 8 (by decide)
 have d0:=cJ n 8 (by decide)
 obtain ⟨many,hm⟩:∃ m:Nat,1+n % 8=(m:Int):=⟨(1+n % 8).toNat,by omega⟩
 obtain ⟨n2,s,ed,g,gl⟩:=tw (n / 8) many (by omega) (by omega)
 subst gl
 obtain ⟨R,eu,hR⟩:=yj (T:=T0 s) rfl (jH s) (by omega)
 have th:=lg s.length (by omega)
 have dz:=As s
 have rc:=yk g
 generalize hS:L3.D.fls (ns.map .int)=S at *
 generalize hK:L3.D.int (k:Int)=kk at *
 have head:∀ {R':L3.D} {ρ2:Sto},bB [(.int s.length,.z),(.tup (SgD s),.z)]=some (.ok (R',.z),[(.int s.length,.z),(.tup (SgD s),.z)])->(aE (sIf (cB (ah neX (ac 6) (ac 5))) (bG 1 (mC (.bl false))) fg) (sIf (oj (cB (ah za (ac 5) (mC .non))) (i7 (cB (aG uU (ab lJ ai))))) (bG 1 (mC (.bl false))) fg)) [some (S,.z),some (kk,.z),some (.lst [.int n2],.u),some (.int s.length,.z),some (.tup (SgD s),.z),some (R,.z),some (R',.z)]=some (.ok .nx,ρ2)->gY [some (S,.z),some (kk,.z),v2,v3,v4,v5,v6]=some (.ok .nx,ρ2):=fun {R' ρ2} ec hq=>by
  unfold gY
  apply aj (ρ1:=[some (S,.z),some (kk,.z),some (.lst [.int n],.u),v3,v4,v5,v6])
  ·(repeat' (first | infer_instance | with_reducible apply aD (eb) | eq_refl))
  apply aj (ρ1:=[some (S,.z),some (kk,.z),some (.lst [.int (n / 8)],.u),some (.int s.length,.z),v4,v5,v6])
  ·rw [<- hm]
   (repeat' (first | infer_instance | with_reducible apply aD (t) | eq_refl))
  generalize SgD s=W at *
  generalize (av s.length).map Td=Y at *
  generalize T0 s=T at *
  generalize L3.D.int (s.length:Int)=N at *
  apply aj (ρ1:=[some (S,.z),some (kk,.z),some (.lst [.int n2],.u),some (N,.z),some (.tup W,.z),v5,v6])
  ·(repeat' (first | infer_instance | with_reducible apply aD (ed) | eq_refl))
  apply aj (ρ1:=[some (S,.z),some (kk,.z),some (.lst [.int n2],.u),some (N,.z),some (.tup W,.z),some (R,.z),v6])
  ·(repeat' (first | infer_instance | with_reducible apply aD (th) | with_reducible apply aD (eu) | exact dz | eq_refl))
  apply aj (ρ1:=[some (S,.z),some (kk,.z),some (.lst [.int n2],.u),some (N,.z),some (.tup W,.z),some (R,.z),some (R',.z)])
  ·(repeat' (first | infer_instance | with_reducible apply aD (ec) | eq_refl))
  exact hq
 rcases rc with ⟨h1,ec⟩ | ⟨P,L,ec,hP,lP,uP,bP⟩
 ·have e:R=.non:=by
   rcases hR with ⟨_,h⟩ | ⟨Q,m,_,q1,_⟩
   ·exact h
   ·have:=q1.short;have:=q1.two;omega
  subst e
  refine ⟨some (.lst [.int n2],.u),some (.int s.length,.z),some (.tup (SgD s),.z),some (.non,.z),some (.non,.z),head ec ?_⟩
  generalize SgD s=W at *
  generalize L3.D.int (s.length:Int)=N at *
  apply aj (ρ1:=[some (S,.z),some (kk,.z),some (.lst [.int n2],.u),some (N,.z),some (.tup W,.z),some (.non,.z),some (.non,.z)])
  ·apply dy (b:=false)
   ·exact ug (eX (bp rfl) (bp rfl) rfl rfl rfl) rfl
   ·rfl
   ·rfl
  ·apply dy (b:=false)
   ·apply wN (b:=false)
    ·exact ug (eX (bp rfl) i_c rfl rfl rfl) rfl
    ·rfl
   ·rfl
   ·rfl
 ·have e:=BQ hP lP uP bP hR
  subst e
  have ne:=ne_R (R:=.tup (Nd P)) (.inr ⟨Nd P,rfl,fun d hd=>by obtain ⟨x,_,rfl⟩:=Co.mp hd;exact ⟨_,rfl⟩⟩)
  have hsh:=hP.short
  obtain ⟨τ1,e1,a1,rfl⟩:=cD (bnd:=am 0) (c:=dW) (elt:=ju) (fun τ=>∃ a,τ=[a]) (fun x:Nat=>L3.D.int (x:Int)) (fun _=>true) (fun _=>.bl true) (xs:=P) (τ:=[none]) ⟨none,rfl⟩ (by
   rintro x hx τ ⟨a,rfl⟩
   have f:=lf (x:Int)
   exact ⟨[some (.int x,.z)],_,rfl,rfl,(fun h=>by cases h),fun _=>⟨.val (.bl true) .z,[some (.int x,.z)],(.bl true,.z),[some (.int x,.z)],by unfold ju;(repeat' (first | infer_instance | with_reducible apply aD (f) | eq_refl)),rfl,rfl,_,rfl⟩⟩)
  rw [CQ.mpr (fun _ _=>rfl)] at e1
  have a3:=iC (ds:=P.map fun _=>.bl true) (fun d hd=>by obtain ⟨_,_,rfl⟩:=Co.mp hd;rfl)
  generalize P.map (fun _=>L3.D.bl true)=o1 at *
  have hPl:(Nd P).length < 16777216:=by simp;omega
  refine ⟨some (.lst [.int n2],.u),some (.int s.length,.z),some (.tup (SgD s),.z),some (.tup (Nd P),.z),some (.tup (Nd P),.z),head ec ?_⟩
  have e1:cp (am 0) dW ju (Nd P) [none]=some (.ok o1,[a1]):=e1
  clear ec hR eu
  generalize SgD s=W at *
  generalize Nd P=Z at *
  generalize L3.D.int (s.length:Int)=N at *
  have c1:lJ [some (S,.z),some (kk,.z),some (.lst [.int n2],.u),some (N,.z),some (.tup W,.z),some (.tup Z,.z),some (.tup Z,.z)]=some (.ok (.val (.lst o1) .u),[some (S,.z),some (kk,.z),some (.lst [.int n2],.u),some (N,.z),some (.tup W,.z),some (.tup Z,.z),some (.tup Z,.z)]):=bA (im:=cT (ac 6)) (ix:=[none]) (ρ1:=[some (S,.z),some (kk,.z),some (.lst [.int n2],.u),some (N,.z),some (.tup W,.z),some (.tup Z,.z),some (.tup Z,.z)]) (ρ2:=[some (S,.z),some (kk,.z),some (.lst [.int n2],.u),some (N,.z),some (.tup W,.z),some (.tup Z,.z),some (.tup Z,.z)]) (rs:=[.pl 6]) (by (repeat' (first | infer_instance | eq_refl))) e1 hPl rfl
  apply aj (ρ1:=[some (S,.z),some (kk,.z),some (.lst [.int n2],.u),some (N,.z),some (.tup W,.z),some (.tup Z,.z),some (.tup Z,.z)])
  ·apply dy (b:=false)
   ·exact ug (eX (bp rfl) (bp rfl) rfl rfl ne) rfl
   ·rfl
   ·rfl
  ·apply dy (b:=false)
   ·apply wM (b:=true)
    ·exact ug (eX (bp rfl) i_c rfl rfl rfl) rfl
    ·rfl
    ·apply ib (b:=true)
     (repeat' (first | with_reducible exact c1 | infer_instance | exact a3 | eq_refl))
   ·rfl
   ·rfl
set_option tactic.hygienic true in
theorem yh (ns:List Int) (hn:ns.length<=63):Aw [(.fls (ns.map .int),.z)]=some (.ok (.bl true,.z),[(.fls (ns.map .int),.z)]):=by
 have hb:∃ m:Nat,(if (if ((4:Int) < ((ns.map L3.D.int).length:Int)) then (4:Int) else ((ns.map L3.D.int).length:Int)) > 1 then (if ((4:Int) < ((ns.map L3.D.int).length:Int)) then (4:Int) else ((ns.map L3.D.int).length:Int)) else (1:Int))=(m:Int)/\m<=4:=by
  refine ⟨max 1 (min ns.length 4),?_,by omega⟩
  simp only [Ck]
  split <;> split <;> omega
 obtain ⟨m,hm,hm4⟩:=hb
 obtain ⟨ρ',e,v1,v2,v3,v4,v5,v6,rfl⟩:=bL (bnd:=am 1) (b:=gY) (fun _ ρ=>∃ v1 v2 v3 v4 v5 v6,ρ=[some (.fls (ns.map .int),.z),v1,v2,v3,v4,v5,v6]) (ds:=aV 0 m) (ρ:=[some (.fls (ns.map .int),.z),none,none,none,none,none,none]) (k:=0) ⟨_,_,_,_,_,_,rfl⟩ (by
  rintro i d ρ hd ⟨v1,v2,v3,v4,v5,v6,rfl⟩
  obtain ⟨hi,rfl⟩:=bX hd
  rw [Int.zero_add]
  obtain ⟨w2,w3,w4,w5,w6,e⟩:=wF (ns:=ns) i (v2:=v2) (v3:=v3) (v4:=v4) (v5:=v5) (v6:=v6)
  exact ⟨_,_,rfl,.inl e,_,_,_,_,_,_,rfl⟩)
 have hr:cV [.int (if (if ((4:Int) < ((ns.map L3.D.int).length:Int)) then (4:Int) else ((ns.map L3.D.int).length:Int)) > 1 then (if ((4:Int) < ((ns.map L3.D.int).length:Int)) then (4:Int) else ((ns.map L3.D.int).length:Int)) else (1:Int))]=some (aV 0 m):=by
  rw [hm]
  exact eA (by omega) (by omega)
 apply bF (ρ:=[some (.fls (ns.map .int),.z),none,none,none,none,none,none]) rfl rfl
 ·apply aj
  ·apply dR
   ·(repeat' (first | with_reducible apply cC (h3:=hr) | infer_instance | eq_refl))
   ·rfl
   ·exact e
  ·(repeat' (first | infer_instance | eq_refl))
 ·rfl
end Bn
end
namespace Bn
open PySem L2 L3
theorem B3 {l : PySem.W.OpenLaw} {w : World} {K : FG} {h : Heap} {mg : Str -> Option Value} {fa : Addr} (X : K.In h) (G : h.Ns mainGlobals mg) (hfa : mg "law" = some (.ref fa)) (e : x5 K = sf) :
  ∃ fd : FuncData, (∀ (s : Shared) (v : Value), BindsTo s fd ⟨[v], []⟩ [("_law_script", v)]) /\ ∀ base : Heap, K.In base -> base.Ns mainGlobals mg -> FnOk l.prog w K mg base CX0 6 fa fd ["_law_script"] (vi K) := by
 have e0 : dsL.map (fun p => pG K p.1) = dsL.map (fun p => lZ p.1 p.2) := congrArg (fun x => x.1) e
 have e1 : blL.map (PySem.W.nsIn K mainGlobals) = blL.map (fun _ => some none) := congrArg (fun x => x.2.1) e
 have e2 : ciL.map (fun p => nW K p.1) = ciL.map (fun p => some p.2) := congrArg (fun x => x.2.2.1) e
 have e3 : csL.map (fun p => vh K p.1) = csL.map (fun p => some p.2) := congrArg (fun x => x.2.2.2) e
 have B : Bl mg := ⟨cR X G e1 0 rfl, cR X G e1 1 rfl, cR X G e1 2 rfl, cR X G e1 3 rfl, cR X G e1 4 rfl, cR X G e1 5 rfl, cR X G e1 6 rfl, cR X G e1 7 rfl, cR X G e1 8 rfl, cR X G e1 9 rfl, cR X G e1 10 rfl, cR X G e1 11 rfl, cR X G e1 12 rfl, cR X G e1 13 rfl, cR X G e1 14 rfl, cR X G e1 15 rfl, cR X G e1 16 rfl, cR X G e1 17 rfl, cR X G e1 18 rfl, cR X G e1 19 rfl⟩
 have D0 : Def K mg "is_whole" gg := bb X G e0 0 rfl
 have D1 : Def K mg "check_number" cY := bb X G e0 1 rfl
 have D2 : Def K mg "threes" jd := bb X G e0 2 rfl
 have D3 : Def K mg "fours" kN := bb X G e0 3 rfl
 have D4 : Def K mg "onward_table" cW := bb X G e0 4 rfl
 have D5 : Def K mg "longest_row" dG := bb X G e0 5 rfl
 have D6 : Def K mg "is_sign" ir := bb X G e0 6 rfl
 have D7 : Def K mg "turns_by_signs" cr := bb X G e0 7 rfl
 have D8 : Def K mg "change_once_at_most" bC := bb X G e0 8 rfl
 have D9 : Def K mg "are_signs_of" cZ := bb X G e0 9 rfl
 have D10 : Def K mg "check_signs" dI := bb X G e0 10 rfl
 have D11 : Def K mg "cup_by_signs" cX := bb X G e0 11 rfl
 have D12 : Def K mg "_law_box" kM := bb X G e0 12 rfl
 have D13 : Def K mg "_law_take" je := bb X G e0 13 rfl
 have D14 : Def K mg "_law_whole" il := bb X G e0 14 rfl
 have D15 : Def K mg "_law_bend" jg := bb X G e0 15 rfl
 have D16 : Def K mg "_law_free" jf := bb X G e0 16 rfl
 have D17 : Def K mg "_law_sheet" ip := bb X G e0 17 rfl
 have D18 : Def K mg "_law_threes" gf := bb X G e0 18 rfl
 have D19 : Def K mg "_law_signs" io := bb X G e0 19 rfl
 have D20 : Def K mg "_law_are_signs" dH := bb X G e0 20 rfl
 have D21 : Def K mg "_law_sheet_of" eh := bb X G e0 21 rfl
 have D22 : Def K mg "_law_drawn_signs" cE := bb X G e0 22 rfl
 have D23 : Def K mg "_law_pairs" iq := bb X G e0 23 rfl
 have D24 : Def K mg "_law_due" kK := bb X G e0 24 rfl
 obtain ⟨f, fd, F0, hf⟩ : Def K mg "law" gM := bb X G e0 25 rfl
 cases hfa.symm.trans hf
 have F := F0
 obtain ⟨oc, od, kV, doc, pm, an, cdv, ct, osl, ef, lk, hcd⟩ := F0.ex
 subst ef
 obtain ⟨tk0, Q0⟩ := qS X G e2 0 (n := "DOWN") (v := -1) rfl
 obtain ⟨tk1, Q1⟩ := qS X G e2 1 (n := "UP") (v := 1) rfl
 obtain ⟨tk2, Q2⟩ := qS X G e2 2 (n := "MOST_POINTS") (v := 24) rfl
 refine ⟨PySem.W.fnOf "law" "law" (bD gM) (ba gM) (al gM) .none kV doc pm an cdv ct, fun s v => .of_eq rfl, fun base _ _ => ?_⟩
 have C_is_whole := oi (P := l.prog) (w := w) (base := base) B D0
 have C_check_number := j8 (P := l.prog) (w := w) (base := base) B D1 C_is_whole
 have C_threes := qZ (P := l.prog) (w := w) (base := base) B D2
 have C_fours := uO (P := l.prog) (w := w) (base := base) B D3 C_threes
 have C_onward_table := j6 (P := l.prog) (w := w) (base := base) B D4
 have C_longest_row := kF (P := l.prog) (w := w) (base := base) B D5 C_onward_table
 have C_is_sign := pV (P := l.prog) (w := w) (base := base) B D6 C_is_whole Q0 Q1
 have C_turns_by_signs := i6 (P := l.prog) (w := w) (base := base) B D7 C_threes
 have C_change_once_at_most := fZ (P := l.prog) (w := w) (base := base) B D8
 have C_are_signs_of := j9 (P := l.prog) (w := w) (base := base) B D9 C_change_once_at_most C_fours C_is_sign C_threes C_turns_by_signs
 have C_check_signs := kH (P := l.prog) (w := w) (base := base) B D10 C_are_signs_of C_check_number
 have C_cup_by_signs := j7 (P := l.prog) (w := w) (base := base) B D11 C_check_signs C_longest_row C_turns_by_signs Q2 Q1
 have C__law_box := uN (P := l.prog) (w := w) (base := base) B D12
 have C__law_take := re (P := l.prog) (w := w) (base := base) B D13
 have C__law_whole := pQ (P := l.prog) (w := w) (base := base) B D14
 have C__law_bend := rg (P := l.prog) (w := w) (base := base) B D15
 have C__law_free := rf (P := l.prog) (w := w) (base := base) B D16 C__law_bend
 have C__law_sheet := pS (P := l.prog) (w := w) (base := base) B D17 C__law_free C__law_take
 have C__law_threes := oh (P := l.prog) (w := w) (base := base) B D18
 have C__law_signs := pR (P := l.prog) (w := w) (base := base) B D19 C__law_bend C__law_threes
 have C__law_are_signs := kG (P := l.prog) (w := w) (base := base) B D20 C__law_threes C__law_whole
 have C__law_sheet_of := l7 (P := l.prog) (w := w) (base := base) B D21 C__law_free C__law_sheet C__law_take
 have C__law_drawn_signs := jF (P := l.prog) (w := w) (base := base) B D22 C__law_are_signs C__law_sheet_of C__law_signs C__law_take
 have C__law_pairs := pU (P := l.prog) (w := w) (base := base) B D23
 have C__law_due := uM (P := l.prog) (w := w) (base := base) B D24 C__law_pairs
 exact FnOk.imp (zH (P := l.prog) (w := w) (base := base) B F C__law_box C__law_drawn_signs C__law_due C__law_take C__law_threes C__law_whole C_cup_by_signs) fun vs H Q E h => zA (fun ns hn => ⟨_, yh ns hn⟩) h
theorem walkL : PySem.W.WalkO viL loL (fun _ _ => True) (fun _ h => ∃ K : FG, K.In h /\ x5 K = sf) PySem.Challenge.rw_bentrows_k53_cups_by_signs.row.toRowW ⟨"law", bD gM, ba gM, al gM, stPos gM⟩ [] (fun f vs => PySem.call f vs) :=
 L2.walk_ofS (l := PySem.Challenge.rw_bentrows_k53_cups_by_signs) (n := 63) (k := 6) (x := "_law_script") (S := fun K => x5 K = sf) (CX := CX0) (sp := vi) rfl (by decide) rfl ⟨rfl, by decide, by decide, rfl⟩ (fun _ _ z => z) (fun _ _ _ _ _ e X G hm => B3 X G hm e) (fun _ _ a ns hl hO hS => ⟨a, ns, rfl, hS, hO, hl, fun _ => rfl⟩) fun _ _ _ _ z => z
end Bn
set_option tactic.hygienic true
open PySem PySem.W PyProof.Rows
set_option maxRecDepth 100000 in
set_option maxHeartbeats 0 in
theorem PySem.Challenge.cw_bentrows_k53_cups_by_signs_holds : PySem.Challenge.rw_bentrows_k53_cups_by_signs.Holds :=
 holds_law Bn.okL fun said => holds_open (r := PySem.Challenge.rw_bentrows_k53_cups_by_signs.row) Bn.leftL (fun _ _ e => ⟨_, L2.fragAt_in _, e⟩) (fun _ _ _ ⟨K, X, e⟩ k => ⟨K, X.keeps k, e⟩) (fun _ _ => trivial) (fun _ _ _ _ _ => trivial) (by kernel_rfl) (by kernel_rfl) (by kernel_rfl) (fun s e => recFacts_of e) (by rfl) said (by kernel_rfl) ⟨rfl, rfl, rfl, rfl, rfl, by decide +kernel⟩ ⟨[.list []], by decide +kernel, by decide +kernel⟩ Bn.walkL
