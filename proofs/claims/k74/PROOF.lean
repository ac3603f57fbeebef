import PyProof.Rows.All
import Wide.All
import OpenK.AllK
import Wide.FinOn
import Lean
import PyProof.EqAt
import PyProof.EqKinds
import PyProof.TupleCall
import PyProof.ExcClass3
import PyProof.ExcInit
import PyProof.RulesTry
import PyProof.RulesAs
import PyProof.CodeObj
import PyProof.FactsLen
import PyProof.DictTruth
import KE.KRevIter
import PyProof.ListRange
import PyProof.ExcBaseAll.ValueError
import PyProof.InstStoreFacts
import PyProof.ExcArgsOwn
import KE.KIsAll
import PyProof.IsiBase
import PyProof.ReprRoads
import PyProof.NsDelKeeps
import KE.KTryMore
import PyProof.Rows.SortPure
import PyProof.Rows.SortShell
import KE.KIntText
import PyProof.Rows.StrItems
import PyProof.ZipIter
import PyProof.DictKeyH
import KE.KDictLaws
import KE.RegKIsAll
import KE.RegKTryMore
import PyProof.Rows.KernelRfl
import PySem.Challenge.RW_calmwires_k74_whether_a_wire_parts
set_option Elab.async false
set_option linter.all false
namespace L2
open PySem PySem.W
noncomputable def pT (l:List Obj):BT->Nat->Option BT :=
 @List.rec Obj (fun _=>BT->Nat->Option BT) (fun t _=>some t) (fun o _ ih t n=>bif ((t.ins n o).get n).isSome then ih (t.ins n o) (n + 1) else none) l
theorem pTo (life:Life):∀ {l:List Obj} {t t' : BT} {n:Nat},pT l t n = some t'->absHeap t' (n + l.length) life = ⟨(absHeap t n life).objs++l.toArray,life⟩
 | [],t,t',n,h=>by
  cases h
  show absHeap t n life = _
  simp
  rfl
 | o :: r,t,t',n,h=>by
  have h' : (bif ((t.ins n o).get n).isSome then pT r (t.ins n o) (n + 1) else none) = some t':=h
  cases e:((t.ins n o).get n).isSome with
  | false=>rw [e] at h'; cases h'
  | true =>
   rw [e] at h'
   have i:=pTo life (l:=r) h'
   rw [absHeap_ins e] at i
   rw [show n + (o :: r).length = n + 1 + r.length by simp only [List.length_cons]; omega,i]
   show Heap.mk ((absHeap t n life).objs.push o++r.toArray) life = _
   congr 1
   apply Array.toList_inj.mp
   simp
noncomputable def pn (s:Shared):Option SharedT:=(pT s.heap.objs.toList .nil 0).map fun t=>⟨t,s.heap.objs.size,s.heap.life,s.gens,s.drawn,s.toks,s.os⟩
theorem po {s:Shared} {S:SharedT} (h:pn s = some S):S.abs = s:=by
 obtain ⟨t,e,rfl⟩:=Option.map_eq_some_iff.mp h
 have i:=pTo s.heap.life e
 obtain ⟨⟨objs,life⟩,gens,drawn,toks,os⟩:=s
 show Shared.mk (absHeap t objs.size life) gens drawn toks os = _
 have j:absHeap t objs.size life = ⟨objs,life⟩:=by
  rw [Nat.zero_add] at i
  have k:(absHeap BT.nil 0 life).objs = #[]:=rfl
  simp only [k] at i
  rw [show objs.size = objs.toList.length from rfl,i]
  simp
 rw [j]
noncomputable def goT (st:SharedT->Thread->Option (SharedT × Thread)) (ok:Thread->Bool) (n:Nat):SharedT->Thread->Option SharedT :=
 @Nat.rec (fun _=>SharedT->Thread->Option SharedT) (fun _ _=>none) (fun _ ih s t=>bif through t then some s else bif ok t then (st s t).bind fun z=>ih z.1 z.2 else none) n
theorem gTo {tb:String->Option Builtin} {p:Program} {w:World} {m:Nat} {a:Option Value}:∀ {n:Nat} {s s' : SharedT} {t:Thread},goT (stepT (denote tb) p w) (stepOk m a) n s t = some s'->topRun tb p w m a n s.abs t = some s'.abs
 | 0,_,_,_,h=>nomatch h
 | n + 1,s,s',t,h=>by
  have h' : (bif through t then some s else bif stepOk m a t then (stepT (denote tb) p w s t).bind fun z=>goT (stepT (denote tb) p w) (stepOk m a) n z.1 z.2 else none) = some s':=h
  unfold topRun
  cases e:through t with
  | true=>rw [e] at h'; cases h'; rfl
  | false =>
   rw [e] at h'
   cases e2:stepOk m a t with
   | false=>rw [e2] at h'; cases h'
   | true =>
    rw [e2] at h'
    obtain ⟨⟨s2,t2⟩,e3,e4⟩:=Option.bind_eq_some_iff.mp h'
    rw [stepT_spec e3]
    exact gTo e4
noncomputable def aT (tb:String->Option Builtin) (p:Program) (w:World) (N:Nat) (z:Shared):Option Shared :=
 bif z.heap.isNs mainGlobals && z.gens.size == 0 then
  (pn z).bind fun S=>(goT (stepT (denote tb) p w) (stepOk z.heap.objs.size (z.heap.nsMap mainGlobals "__annotations__")) N S (topStub p)).bind fun y =>
   bif staticsOk (importedModules p.main.body) z.heap y.abs.heap && namesBound p y.abs.heap && gensDone y.abs && laidKept z.heap y.abs.heap then some y.abs else none
 else none
theorem aTo {tb:String->Option Builtin} {p:Program} {w:World} {N:Nat} {z y:Shared} (h:aT tb p w N z = some y):topFrom tb p w N z = some y:=by
 unfold aT at h
 unfold topFrom
 cases e:(z.heap.isNs mainGlobals && z.gens.size == 0) with
 | false=>rw [e] at h; cases h
 | true =>
  rw [e] at h
  obtain ⟨S,e1,h⟩:=Option.bind_eq_some_iff.mp h
  obtain ⟨Y,e2,h⟩:=Option.bind_eq_some_iff.mp h
  have r:=gTo e2
  rw [po e1] at r
  dsimp only
  rw [r]
  cases e3:(staticsOk (importedModules p.main.body) z.heap Y.abs.heap && namesBound p Y.abs.heap && gensDone Y.abs && laidKept z.heap Y.abs.heap) with
  | false=>rw [e3] at h; cases h
  | true =>
   rw [e3] at h
   cases h
   show (match staticsOk (importedModules p.main.body) z.heap Y.abs.heap && namesBound p Y.abs.heap && gensDone Y.abs && laidKept z.heap Y.abs.heap with | true=>_ | false=>_) = _
   rw [e3]
theorem l2 {p q:Program} {loose:List PySem.Str} {Xt:Shared->Bool} {α:Type} {Yf:Shared->α} {Ya:World->α} {N:Nat} {g0:Bool}
  (h1:∀ w,((fencedOpening treeTable p w N).bind (aT treeTable p w N)).map (fun s=>openSeen q loose (importedModules p.main.body) Xt g0 s) = some (openGood q loose))
  (h2:∀ w,((fencedOpening treeTable p w N).bind (aT treeTable p w N)).map Yf = some (Ya w)):LeftO p q loose Xt Yf Ya N g0:=fun w=>by
 obtain ⟨s,e,e2⟩:=Option.map_eq_some_iff.mp (h1 w)
 have h3:=h2 w
 rw [e] at h3
 obtain ⟨z,e3,e4⟩:=Option.bind_eq_some_iff.mp e
 unfold openEnds
 rw [e3]
 show (topFrom treeTable p w N z).map _ = _
 rw [aTo e4]
 show some (openSeen q loose (importedModules p.main.body) Xt g0 s,Yf s) = _
 rw [e2,show Yf s = Ya w from Option.some.inj h3]
theorem l1 {p q:Program} {loose:List PySem.Str} {Xt:Shared->Bool} {α:Type} {Yf:Shared->α} {Ya:World->α} {N:Nat} {g0:Bool}
  (h:∀ w,((fencedOpening treeTable p w N).bind (aT treeTable p w N)).map (fun s=>(openSeen q loose (importedModules p.main.body) Xt g0 s,Yf s)) = some (openGood q loose,Ya w)):LeftO p q loose Xt Yf Ya N g0 :=
 l2 (fun w=>by
  obtain ⟨s,e,e2⟩:=Option.map_eq_some_iff.mp (h w)
  rw [e]
  exact congrArg some (Prod.mk.inj e2).1) (fun w=>by
  obtain ⟨s,e,e2⟩:=Option.map_eq_some_iff.mp (h w)
  rw [e]
  exact congrArg some (Prod.mk.inj e2).2)
end L2
section
open PySem PySem.W PyProof.Rows PySem.W.Fast
lay_quick PySem.Challenge.pw_calmwires_k74_whether_a_wire_parts
local macro_rules | `(tactic| refine $f:ident $as*) => do if (f.getId.toString.splitOn "holds_open").length > 1 then `(tactic| (refine' $f $as*; case' $(Lean.mkIdent `hl):ident => (refine' L2.l1 (fun w => ?_); unfold fencedOpening L2.aT; rw [show PySem.Challenge.rw_calmwires_k74_whether_a_wire_parts.row.prog = _ from te13523343265812162084,te10156331382660048174,te11892475500146522536,te6613529449190102663,te10274390034422433532,te14289696077712309145,te14364793385576792824,te1435165496053646825,te8920871248978507458,te4187177175401517315]; kernel_rfl!))) else Lean.Macro.throwUnsupported
set_option maxRecDepth 100000 in
set_option maxHeartbeats 0 in
open_top theTop for PySem.Challenge.rw_calmwires_k74_whether_a_wire_parts
end
open List (mem_filter mem_range filterMap_cons mem_cons_self mem_cons_of_mem mem_cons mem_append mem_append_left mem_append_right size_toArray append_nil nodup_cons of_mem_zip length_take getElem?_append_left getElem?_map mem_of_getElem? length_append length_map length_replicate length_drop map_nil map_cons length_set length_singleton lookup_cons all_eq_true mem_map mem_singleton length_cons all_cons any_cons any_map length_range drop_zero take_of_length_le length_eq_zero_iff reverse_cons pairwise_cons getElem?_set find?_cons nodup_nil mem_map_of_mem getElem_of_mem getElem?_eq_getElem getElem_mem map_append map_map any_eq_true map_id map_set map_take map_drop take_succ forall_mem_cons)
open PySem.W (instObj methodObj lookIn plainGet kitOne kia_one kitx_list kitx_tuple kitx_dict cellsFrom_some fnOf codeIn codeRec_of mg_of mg_none_of)
open Nat (lt_of_lt_of_le lt_irrefl ne_of_lt le_trans le_of_lt le_refl le_succ le_of_eq lt_of_le_of_lt lt_succ_self zero_le zero_add not_lt pow_le_pow_right lt_or_ge testBit_or testBit_and eq_zero_or_pos mod_lt)
open PySem.Heap (lt_size SameBut get?_push_of_some get?_push_size get?_update_self get?_update_other size_push ExtBut size_update)
noncomputable section
set_option Elab.async false
set_option linter.all false
set_option maxRecDepth 100000
abbrev Zzz:=PySem.Value->PySem.Shared->Prop
abbrev Zzy:=PySem.W.Frag
abbrev Zzx:=List (PySem.Addr×PySem.Obj)
abbrev Zzw:=PySem.Str->Option PySem.Value
variable {us its:List PySem.Value} {u cd pm ct oc:PySem.Value} {a b it e D C dx fI fI':PySem.Addr} {α β:Type} {P prog:PySem.Program} {w:PySem.World} {h base h':PySem.Heap} {t' i j k tk L most:Nat} {ch:List PySem.Addr} {N ps:List PySem.Str} {E Q:Zzz} {s' s:PySem.Shared} {pos pos' p spos apos cpos:PySem.Pos} {pins:Zzx} {op:PySem.CmpOp} {K:Zzy} {c qual z f1 f2 f3:PySem.Str} {es ifs:List PySem.Expr} {tg iter elt:PySem.Expr} {body:List PySem.Stmt} {l outer:List PySem.Env} {lo hi:Option Int} {mg:Zzw} {fd:PySem.FuncData} {sc scope:PySem.Scope} {an od dct:Option PySem.Addr} {items:Array PySem.Value} {ns:List Int} {T:String} {q:Nat×Nat} {m fr:Bool} {is:List Nat} {oe:PySem.Obj} {cls:PySem.Value×Option PySem.Value} {I:Nat×Nat->Prop} {qs:List (Nat×Nat)}
namespace L2
open PySem PySem.Spec PyProof.Rows
abbrev V5:=Sum Int Str
def P6:V5->Value->Bool
 | .inl k,v=>Value.isInt k v
 | .inr x,v=>Value.isStrOf x v
def Ziw (w:World):V5->Int
 | .inl k=>hashInt k
 | .inr x=>hashStr w x
theorem Ws:∀ {k:V5} {v:Value},P6 k v=true->(∃ i t,k=Sum.inl i/\v=Value.int i t)\/(∃ x t,k=Sum.inr x/\v=Value.str x t)
 | .inl i,v,h=>by
  obtain ⟨t,e⟩:=Value.isInt_shape (k:=i) (v:=v) h;exact .inl ⟨i,t,rfl,e⟩
 | .inr x,v,h=>by
  obtain ⟨t,e⟩:=Value.isStrOf_shape (x:=x) (v:=v) h;exact .inr ⟨x,t,rfl,e⟩
theorem Z51 (i:Int) (t:Tok):P6 (.inl i) (.int i t)=true:=by simp [P6,Value.isInt]
theorem Z4g (x:Str) (t:Tok):P6 (.inr x) (.str x t)=true:=by simp [P6,Value.isStrOf]
theorem Zcc (a b:Int):decide ((Sum.inl a:V5)=Sum.inl b)=(a==b):=by
 by_cases e:a=b
 ·subst e;simp
 ·have h:¬ (Sum.inl a:V5)=Sum.inl b:=fun q=>e (Sum.inl.inj q)
  rw [decide_eq_false h];exact (beq_eq_false_iff_ne.mpr e).symm
theorem Zcp (a b:Str):decide ((Sum.inr a:V5)=Sum.inr b)=decide (a=b):=by
 by_cases e:a=b
 ·subst e;simp
 ·have h:¬ (Sum.inr a:V5)=Sum.inr b:=fun q=>e (Sum.inr.inj q)
  rw [decide_eq_false h,decide_eq_false e]
theorem Zdt (a:Int) (b:Str):decide ((Sum.inl a:V5)=Sum.inr b)=false:=decide_eq_false (fun q=>nomatch q)
theorem Zdg (a:Str) (b:Int):decide ((Sum.inr a:V5)=Sum.inl b)=false:=decide_eq_false (fun q=>nomatch q)
def Wz (prog:Program) (w:World):PySem.KeyKind prog w V5 where
 is:=P6
 hash:=Ziw w
 inj:=fun v a b ha hb=>by
  rcases Ws ha with ⟨i,t,rfl,rfl⟩ | ⟨x,t,rfl,rfl⟩
  ·rcases Ws hb with ⟨j,u,rfl,e⟩ | ⟨y,u,rfl,e⟩
   ·injection e with e1 _;rw [e1]
   ·exact nomatch e
  ·rcases Ws hb with ⟨j,u,rfl,e⟩ | ⟨y,u,rfl,e⟩
   ·exact nomatch e
   ·injection e with e1 _;rw [e1]
 byValue:=fun k v h=>by
  rcases Ws h with ⟨i,t,rfl,rfl⟩ | ⟨x,t,rfl,rfl⟩<;>rfl
 pyHash:=fun hv h=>by
  rcases Ws hv with ⟨i,t,rfl,rfl⟩ | ⟨x,t,rfl,rfl⟩
  ·exact wpAny_pyHash_int h
  ·exact wpAny_pyHash_str h
 eqBool:=fun hu hv h=>by
  rcases Ws hu with ⟨i,t,rfl,rfl⟩ | ⟨x,t,rfl,rfl⟩
  ·rcases Ws hv with ⟨j,u,rfl,rfl⟩ | ⟨y,u,rfl,rfl⟩
   ·rw [Zcc] at h;exact wpAny_eqBool_int h
   ·rw [Zdt] at h;exact SeqAt.EqAt.int_str i t y u _ _ _ _ h
  ·rcases Ws hv with ⟨j,u,rfl,rfl⟩ | ⟨y,u,rfl,rfl⟩
   ·rw [Zdg] at h;exact SeqAt.EqAt.str_int x t j u _ _ _ _ h
   ·rw [Zcp] at h;exact wpAny_eqBool_str h
 «strs» := fun k x t v h=>by
  rcases Ws h with ⟨i,u,rfl,e⟩ | ⟨y,u,rfl,e⟩
  ·exact nomatch e
  ·injection e with e1 _
   subst e1;cases v<;>rfl
theorem Bm (prog:Program) (w:World) (i:Int) (t:Tok):(Wz prog w).is (.inl i) (.int i t)=true:=Z51 i t
theorem Ah (prog:Program) (w:World) (x:Str) (t:Tok):(Wz prog w).is (.inr x) (.str x t)=true:=Z4g x t
inductive V where
 | non | bl (b:Bool) | int (i:Int) | str (x:Str) | byt (b:Array UInt8) | flt (b:UInt64) | ref (a:Addr) | ty (n:String)
 deriving DecidableEq
def Yb:V->Value->Prop
 | .non,u=>u=Value.none
 | .bl b,u=>u=Value.bool b
 | .int i,u=>∃ t,u=Value.int i t
 | .str x,u=>∃ t,u=Value.str x t
 | .byt b,u=>∃ t,u=Value.bytes b t
 | .flt b,u=>∃ t,u=Value.float b t
 | .ref a,u=>u=Value.ref a
 | .ty n,u=>u=Value.type n
abbrev Zx:List V->List Value->Prop:=Paired Yb
theorem Zx.length {xs:List V} (r:Zx xs us):xs.length=us.length:=Paired.length r
theorem Zx.get:∀ {xs:List V} {us:List Value} {i:Nat} {x:V},Zx xs us->xs[i]?=some x->∃ u,us[i]?=some u/\Yb x u
 | _,_,_,_,.nil,e=>by simp at e
 | _,_,0,_,.cons r _,e=>by simp at e;subst e;exact ⟨_,rfl,r⟩
 | _,_,i+1,x,.cons _ t,e=>by
  obtain ⟨u,h1,h2⟩:=Zx.get (i:=i) (x:=x) t (by simpa using e);exact ⟨u,by simpa using h1,h2⟩
theorem Zx.set {x:V} (r:Yb x u):∀ {xs:List V} {us:List Value} (i:Nat),Zx xs us->Zx (xs.set i x) (us.set i u)
 | _,_,_,.nil=>.nil
 | _,_,0,.cons _ t=>.cons r t
 | _,_,i+1,.cons q t=>.cons q (Zx.set r i t)
theorem Zx.append:∀ {xs ys:List V} {us ws:List Value},Zx xs us->Zx ys ws->Zx (xs++ys) (us++ws)
 | _,_,_,_,.nil,s=>s
 | _,_,_,_,.cons r t,s=>.cons r (Zx.append t s)
theorem Zx.take:∀ {xs:List V} {us:List Value} (n:Nat),Zx xs us->Zx (xs.take n) (us.take n)
 | _,_,0,_=>.nil
 | _,_,_+1,.nil=>.nil
 | _,_,n+1,.cons r t=>.cons r (Zx.take n t)
theorem Zx.drop:∀ {xs:List V} {us:List Value} (n:Nat),Zx xs us->Zx (xs.drop n) (us.drop n)
 | _,_,0,r=>r
 | _,_,_+1,.nil=>.nil
 | _,_,n+1,.cons _ t=>Zx.drop n t
def Rv:Option V->Option Value->Prop
 | some v,some u=>Yb v u
 | none,none=>True
 | _,_=>False
def KV {κ:Type}:List (κ×V)->List (κ×Value)->Prop:=Paired fun (p:κ×V) (q:κ×Value)=>p.1=q.1/\Yb p.2 q.2
def kV:V5->V
 | .inl i=>.int i
 | .inr x=>.str x
inductive HO where
 | lst (xs:List V)
 | tup (xs:List V)
 | dK (kvs:List (V5×V)) | dT (kvs:List (List V5×V))
 | set (S:Int->Bool) (n:Nat)
 | ins (C dx:Addr) (fs:List (Str×V))
 | own (x:Addr)
 | xd (fs:List (Str×V))
 | met (f x:Addr)
 | rng (lo hi:Int)
 | frz (o:Obj) (u:HO)
 | tbl (ps:Array Value)
 | ext (φ:Heap->Prop)
abbrev Hp:=Addr->Option HO
def Yn (H:Hp) (a:Addr) (o:HO):Hp:=fun b=>if b=a then some o else H b
theorem Zg {H:Hp} {o:HO}:Yn H a o a=some o:=by unfold Yn;rw [if_pos rfl]
theorem Za {H:Hp} {o:HO} (h:b≠a):Yn H a o b=H b:=by unfold Yn;rw [if_neg h]
theorem Zav {H:Hp} {o u:HO} (h:H a=some o) (h':H b=some u) (d:o≠u):a≠b:=by
 intro e;subst e;rw [h] at h';exact d (Option.some.inj h')
theorem Y4 {H:Hp} {o:HO} (h:H a=some o) (h':H b=none):a≠b:=by
 intro e;subst e;rw [h] at h';cases h'
section
variable (P:Program) (w:World)
def Yz (H:Hp) (h:Heap) (a:Addr):HO->Prop
 | .lst xs=>xs.length<=sizeLine/\∃ (its:List Value) (n:Nat),Zx xs its/\h.get? a=some { cls:=.type "list",data:=.seq its.toArray n }
 | .tup xs=>xs.length<=sizeLine/\∃ its:List Value,Zx xs its/\IsTup h a its.toArray
 | .dK kvs=>kvs.length<=sizeLine/\(a==sysModules)=false/\∃ vs,KV kvs vs/\h.DictOf (Wz P w) a vs
 | .dT kvs=>kvs.length<=sizeLine/\(a==sysModules)=false/\∃ xs:List (List V5×Addr×Value),
  Paired (fun (p:List V5×V) (q:List V5×Addr×Value)=>p.1=q.1/\H q.2.1=some (.tup (p.1.map kV))/\Yb p.2 q.2.2) kvs xs /\
  ∃ o es ep,h.get? a=some o/\o.ExactDict/\o.data=.dict es ep/\es.toList=xs.map (entryOfKey (tupleKind (Wz P w)))/\(xs.map (·.1)).Nodup
 | .set S n=>h.SetOf (intKind P w) a S n
 | .ins C dx fs=>H dx=some (.own a)/\fs.length<=1000/\dx≠a/\h.get? a=some (instObj C dx) /\
  ∃ mA,h.Ns1 dx mA/\(∀ f,Rv (fs.lookup f) (mA f))/\PySem.Within mA (fs.map (·.1))
 | .own _=>∃ o,h.get? a=some o
 | .xd fs=>∃ mA,h.Ns1 a mA/\∀ f,Rv (fs.lookup f) (mA f)
 | .rng lo hi=>∃ t u v,h.get? a=some { cls:=.type "range",data:=.fields #[.int lo t,.int hi u,.int 1 v] }
 | .frz o u=>h.get? a=some o/\Yz H h a u
 | .tbl ps=>h.get? a=some { cls:=.none,data:=.fields ps }
 | .met f x=>h.get? a=some (methodObj (.ref f) (.ref x))
 | .ext φ=>φ h/\(∃ o,h.get? a=some o)/\∀ h1 h2:Heap,φ h1->(∀ o,h1.get? a=some o->h2.get? a=some o)->φ h2
def S4 (H:Hp) (h:Heap):Prop:=∀ a o,H a=some o->Yz P w H h a o
end
section
variable {P:Program} {w:World} {H H':Hp} {h h':Heap} {a:Addr} {o:HO}
theorem Yz.lt (x:Yz P w H h a o):a<h.objs.size:=by
 cases o with
 | lst xs=>obtain ⟨_,_,_,_,e⟩:=x;exact lt_size e
 | tup xs=>obtain ⟨_,_,_,p⟩:=x;exact p.lt
 | dK kvs=>obtain ⟨_,_,_,_,o,_,_,e,_⟩:=x;exact lt_size e
 | dT kvs=>obtain ⟨_,_,_,_,o,_,_,e,_⟩:=x;exact lt_size e
 | set S n=>obtain ⟨o,_,_,_,e,_⟩:=x;exact lt_size e
 | ins C dx fs=>obtain ⟨_,_,_,e,_⟩:=x;exact lt_size e
 | own y=>obtain ⟨_,e⟩:=x;exact lt_size e
 | xd fs=>obtain ⟨_,⟨_,_,_,e,_⟩,_⟩:=x;exact lt_size e
 | rng lo hi=>obtain ⟨_,_,_,e⟩:=x;exact lt_size e
 | frz ob u=>obtain ⟨e,_⟩:=x;exact lt_size e
 | tbl ps=>exact lt_size (show h.get? a=some _ from x)
 | met f y=>exact lt_size (show h.get? a=some _ from x)
 | ext φ=>obtain ⟨_,⟨_,e⟩,_⟩:=x;exact lt_size e
theorem Paired.mapP {F G:α->β->Prop}:∀ {l₁:List α} {l₂:List β},Paired F l₁ l₂->(∀ a b,F a b->G a b)->Paired G l₁ l₂
 | _,_,.nil,_=>.nil
 | _,_,.cons r t,f=>.cons (f _ _ r) (Paired.mapP t f)
theorem Yz.stay (x:Yz P w H h a o) (k:∀ b u,(b=a\/H b=some (.own a))->h.get? b=some u->h'.get? b=some u)
  (ho:∀ b,H b=some (.own a)->H' b=some (.own a)) (ht:∀ b xs,H b=some (.tup xs)->H' b=some (.tup xs)):Yz P w H' h' a o:=by
 induction o with
 | lst xs=>obtain ⟨z,its,n,r,e⟩:=x;exact ⟨z,its,n,r,k _ _ (.inl rfl) e⟩
 | tup xs=>obtain ⟨z,its,r,ob,e,c⟩:=x;exact ⟨z,its,r,ob,k _ _ (.inl rfl) e,c⟩
 | dK kvs=>obtain ⟨z,y,vs,r,ob,es,ep,e,c⟩:=x;exact ⟨z,y,vs,r,ob,es,ep,k _ _ (.inl rfl) e,c⟩
 | dT kvs =>
  obtain ⟨z,y,xs,r,ob,es,ep,e,c⟩:=x;exact ⟨z,y,xs,Paired.mapP r fun p q z=>⟨z.1,ht _ _ z.2.1,z.2.2⟩,ob,es,ep,k _ _ (.inl rfl) e,c⟩
 | set S n=>obtain ⟨ob,es,ep,t,e,c⟩:=x;exact ⟨ob,es,ep,t,k _ _ (.inl rfl) e,c⟩
 | ins C dx fs =>
  obtain ⟨d,z,ne,e,mA,⟨od,es,ep,e2,c⟩,r⟩:=x;exact ⟨ho _ d,z,ne,k _ _ (.inl rfl) e,mA,⟨od,es,ep,k _ _ (.inr d) e2,c⟩,r⟩
 | own y=>obtain ⟨ob,e⟩:=x;exact ⟨ob,k _ _ (.inl rfl) e⟩
 | xd fs=>obtain ⟨mA,⟨od,es,ep,e,c⟩,r⟩:=x;exact ⟨mA,⟨od,es,ep,k _ _ (.inl rfl) e,c⟩,r⟩
 | rng lo hi=>obtain ⟨t,u,v,e⟩:=x;exact ⟨t,u,v,k _ _ (.inl rfl) e⟩
 | frz ob u ih=>obtain ⟨e,q⟩:=x;exact ⟨k _ _ (.inl rfl) e,ih q⟩
 | tbl ps =>
  have e:h.get? a=some { cls:=.none,data:=.fields ps }:=x;show h'.get? a=some { cls:=.none,data:=.fields ps };exact k a _ (.inl rfl) e
 | met f y =>
  have e:h.get? a=some (methodObj (.ref f) (.ref y)):=x;show h'.get? a=some (methodObj (.ref f) (.ref y));exact k a _ (.inl rfl) e
 | ext φ=>obtain ⟨p,⟨o,e⟩,st⟩:=x;exact ⟨st _ _ p fun o q=>k _ _ (.inl rfl) q,⟨o,k _ _ (.inl rfl) e⟩,st⟩
theorem S4.lt (x:S4 P w H h) (e:H a=some o):a<h.objs.size:=(x a o e).lt
theorem S4.fresh (x:S4 P w H h) (e:h.objs.size<=a):H a=none:=by
 cases q:H a with
 | none=>rfl
 | some u=>exact absurd (lt_of_lt_of_le (x.lt q) e) (lt_irrefl _)
theorem S4.kept (x:S4 P w H h) (k:∀ b u,h.get? b=some u->h'.get? b=some u):S4 P w H h':=fun a o e =>
 (x a o e).stay (fun b u _ q=>k b u q) (fun _ q=>q) fun _ _ q=>q
theorem S4.laid (x:S4 P w H h) (k:∀ b u,h.get? b=some u->h'.get? b=some u) (hp:h.objs.size<=a) (new:Yz P w (Yn H a o) h' a o):S4 P w (Yn H a o) h':=fun b u e=>by
 have hn:=x.fresh hp;by_cases hb:b=a
 ·subst hb;rw [Zg] at e;cases e;exact new
 ·rw [Za hb] at e
  exact (x b u e).stay (fun c v _ q=>k c v q) (fun c q=>by rw [Za (Y4 q hn)];exact q) fun c xs q=>by rw [Za (Y4 q hn)];exact q
end
def Rd (H:Hp) (a:Addr) (u:HO):Prop:=H a=some u\/∃ o,H a=some (.frz o u)
theorem Rd.of {H:Hp} {u:HO} (h:H a=some u):Rd H a u:=.inl h
theorem Rd.ok {H:Hp} {u:HO} (r:Rd H a u) (x:S4 P w H h):Yz P w H h a u:=by
 rcases r with r | ⟨o,r⟩
 ·exact x a u r
 ·obtain ⟨_,q⟩:=x a _ r
  exact q
def Mut:Option HO->Prop
 | some (.lst _)=>True
 | some (.dK _)=>True
 | some (.dT _)=>True
 | some (.set _ _)=>True
 | some (.ins _ _ _)=>True
 | some (.ext _)=>True
 | _=>False
section
variable {P:Program} {w:World} {H:Hp} {h h':Heap} {x e:Addr} {o':HO}
theorem S4.write (ok:S4 P w H h) (mu:Mut (H x)) (he:e=x\/H e=some (.own x)) (k:∀ b u,b≠e->h.get? b=some u->h'.get? b=some u) (heo:∃ u,h'.get? e=some u)
  (new:Yz P w (Yn H x o') h' x o'):S4 P w (Yn H x o') h':=fun b u q=>by
 have nown:∀ c y,H c=some (.own y)->c≠x:=fun c y r z=>by subst z;rw [r] at mu;exact mu
 have ntup:∀ c xs,H c=some (.tup xs)->c≠x:=fun c xs r z=>by subst z;rw [r] at mu;exact mu
 by_cases hb:b=x
 ·subst hb;rw [Zg] at q;cases q;exact new
 ·rw [Za hb] at q
  by_cases hbe:b=e
  ·have q':H b=some (.own x):=by
    rcases he with z | z
    ·exact absurd (hbe.trans z) hb
    ·rw [hbe];exact z
   rw [q] at q';cases q';obtain ⟨v,hv⟩:=heo;exact ⟨v,by rw [hbe];exact hv⟩
  ·refine (ok b u q).stay (fun c v hc r=>k c v ?_ r) (fun c r=>by rw [Za (nown c b r)];exact r) fun c xs r=>by rw [Za (ntup c xs r)];exact r
   rcases hc with rfl | hc
   ·exact hbe
   ·rintro rfl
    rcases he with z | z
    ·exact nown c b hc z
    ·rw [hc] at z;cases z;exact hb rfl
end
structure Un (fs ex:List Addr) (H H':Hp) (h h':Heap):Prop where
 keep:∀ b o,h.get? b=some o->H b=none->b∉fs->b∉ex->h'.get? b=some o
 slot:∀ b o,h.get? b=some o->H b=none->b∈fs->b∉ex->∃ sl,h'.get? b=some { o with slots:=sl }
 free:∀ b o,h.get? b=some o->H b=none->b∉ex->H' b=none
 there:∀ b o,h.get? b=some o->b∉ex->∃ o',h'.get? b=some o'
 tups:∀ b xs,H b=some (.tup xs)->H' b=some (.tup xs)
 frzs:∀ b o u,H b=some (.frz o u)->H' b=some (.frz o u)
 tbls:∀ b ps,H b=some (.tbl ps)->∃ more,H' b=some (.tbl (ps++more))
section
variable {fs fs' ex ex':List Addr} {H H1 H2:Hp} {h h1 h2 h':Heap} {a x e:Addr} {o:HO}
theorem Un.any (u:Un fs ex H H1 h h1) {ob:Obj} (q:h.get? b=some ob) (n:H b=none) (hx:b∉ex):∃ sl,h1.get? b=some { ob with slots:=sl }:=by
 by_cases hb:b∈fs
 ·exact u.slot b ob q n hb hx
 ·exact ⟨ob.slots,u.keep b ob q n hb hx⟩
theorem Un.kept (k:∀ b u,h.get? b=some u->h'.get? b=some u):Un fs ex H H h h' :=
 ⟨fun b ob q _ _ _=>k b ob q,fun b ob q _ _ _=>⟨ob.slots,k b ob q⟩,fun _ _ _ n _=>n,fun b ob q _=>⟨ob,k b ob q⟩,fun _ _ q=>q,fun _ _ _ q=>q,fun _ ps q=>⟨#[],by rw [q];simp⟩⟩
theorem Un.refl:Un fs ex H H h h:=Un.kept fun _ _ q=>q
theorem Un.laid (k:∀ b u,h.get? b=some u->h'.get? b=some u) (hp:h.objs.size<=a) (hn:H a=none):Un fs ex H (Yn H a o) h h' where
 keep:=fun b u q _ _ _=>k b u q
 slot:=fun b u q _ _ _=>⟨u.slots,k b u q⟩
 free:=fun b u q n _=>by rw [Za (ne_of_lt (lt_of_lt_of_le (lt_size q) hp))];exact n
 there:=fun b u q _=>⟨u,k b u q⟩
 tups:=fun b xs q=>by rw [Za (Y4 q hn)];exact q
 frzs:=fun b u xs q=>by rw [Za (Y4 q hn)];exact q
 tbls:=fun b ps q=>⟨#[],by rw [Za (Y4 q hn),q];simp⟩
theorem Un.write (mu:Mut (H x)) (he:e=x\/H e=some (.own x)) (k:∀ b u,b≠e->h.get? b=some u->h'.get? b=some u) (heo:∃ u,h'.get? e=some u):Un fs ex H (Yn H x o) h h':=by
 have hx:∀ b,H b=none->b≠x:=fun b n z=>by subst z;rw [n] at mu;exact mu
 have hb:∀ b,H b=none->b≠e:=fun b n z=>by
  subst z;rcases he with r | r
  ·exact hx b n r
  ·rw [n] at r;cases r
 have hm:∀ b u,H b=some u->¬ Mut (some u)->b≠x:=fun b u q nm z=>by subst z;rw [q] at mu;exact nm mu
 refine ⟨fun b u q n _ _=>k b u (hb b n) q,fun b u q n _ _=>⟨u.slots,k b u (hb b n) q⟩,fun b u q n _=>by rw [Za (hx b n)];exact n,fun b u q _=>?_,
  fun b xs q=>by rw [Za (hm b _ q fun z=>z)];exact q,fun b u xs q=>by rw [Za (hm b _ q fun z=>z)];exact q,fun b ps q=>⟨#[],by rw [Za (hm b _ q fun z=>z),q];simp⟩⟩
 by_cases hbe:b=e
 ·subst hbe;exact heo
 ·exact ⟨u,k b u hbe q⟩
end
def trk (h:Heap) (H:Hp):List Addr:=(List.range h.objs.size).filter fun a=>(H a).isSome
def X7 (h:Heap) (H:Hp):Heap:=PySem.W.hideAll h (trk h H)
theorem Z44 (h:Heap) (H:Hp):(X7 h H).objs.size=h.objs.size:=PySem.W.hideAll_size _ _
theorem Z6b {H:Hp} {o:Obj} (e:h.get? b=some o) (n:H b=none):(X7 h H).get? b=some o :=
 PySem.W.hideAll_get _ e fun hm=>by
  have q:(H b).isSome=true:=(mem_filter.mp hm).2;rw [n] at q;simp at q
theorem Z8x {H:Hp} {o:Obj} (e:(X7 h H).get? b=some o):h.get? b=some o/\H b=none:=by
 have e':h.get? b=some o:=PySem.W.of_hideAll (trk h H) e;refine ⟨e',?_⟩;cases q:H b with
 | none=>rfl
 | some x =>
  have hm:b∈trk h H:=mem_filter.mpr ⟨mem_range.mpr (lt_size e'),by simp [q]⟩;have z:(X7 h H).get? b=none:=PySem.W.hideAll_none (trk h H) hm;rw [z] at e;cases e
structure Mod (K:Zzy) (mg:Zzw) (base:Heap):Prop where
 kin:K.In base
 glob:base.Ns mainGlobals mg
 blt:∃ mb,base.Ns builtinsNs mb/\∀ x:Str,x≠"__name__" -> mb x=bootBuiltins x
 nolimit:base.NoLimit
structure Cx where
 prog:Program
 w:World
 K:Zzy
 mg:Str->Option Value
 base:Heap
 A:Around
 N:List Str
 s₀:Shared
 H₀:Hp
 env:Env
 outer:List Env
 stack:List Env
 ex:List Addr
 fn:Str->Bool
 calm:Bool
 pn:List (Addr×Obj)
 xe:Value->Shared->Prop
 pl:Bool:=false
def E9 (l:List Env):List Addr:=l.filterMap (·.frame)
abbrev Cx.fs (X:Cx):List Addr:=E9 X.outer
def Vis (sc:Scope) (x:Str):Prop:=sc.names.lookup x=some .local\/sc.names.lookup x=some .cell\/sc.names.lookup x=some .free
def B2 (sc:Scope) (x:Str):Prop:=sc.names.lookup x=some .local\/sc.names.lookup x=some .cell
def Zhr (env:Env) (h:Heap) (m:Zzw) (x:Str) (u:Value):Prop :=
 (env.kindOf x=some .local/\m x=some u)\/((env.kindOf x=some .cell\/env.kindOf x=some .free)/\∃ c,env.cells.lookup x=some c/\h.IsCell c (some u))
structure Cx.Ok (X:Cx):Prop where
 mod:Mod X.K X.mg X.base
 kind:X.env.scope.kind=.function
 glob:X.env.globals=mainGlobals
 blt:X.env.builtins=builtinsNs
 above:X.s₀.heap.objs.size<=X.env.locals
 inj:∀ x y c,X.env.cells.lookup x=some c->X.env.cells.lookup y=some c->x=y
 has:∀ x,(X.env.kindOf x=some .cell\/X.env.kindOf x=some .free)->∃ c,X.env.cells.lookup x=some c
 cab:∀ x c,X.fn x=true->X.env.cells.lookup x=some c->X.s₀.heap.objs.size<=c
 hd:X.calm=true->X.A.handled=none
 frames:X.A.frames=some X.stack
 stk:X.stack=X.outer\/(X.stack=X.env::X.outer/\X.env.frame=some X.env.locals)
 exf:∀ b∈X.ex,b≠X.env.locals/\∀ x c,X.env.cells.lookup x=some c->c≠b
 bs:∀ b o,X.base.get? b=some o->X.s₀.heap.get? b=some o/\X.H₀ b=none
 bsz:X.base.objs.size<=X.s₀.heap.objs.size
 noex:∀ b o,X.base.get? b=some o->b∉X.ex
 exfs:∀ b∈X.ex,b∉X.fs
 funs:X.s₀.heap.FunFrames X.base X.outer
 frf:∀ b∈X.fs,X.H₀ b=none
structure Inv (X:Cx) (pins:Zzx) (σ:List (Option V)) (H:Hp) (s:Shared):Prop where
 ok:X.Ok
 os:s.os=X.s₀.os
 bare:AllBare s.gens
 base:Un X.fs X.ex X.H₀ H X.s₀.heap s.heap
 loc:∃ m,s.heap.Ns X.env.locals m/\∀ (i:Nat) (x:Str) (v:V),X.N[i]?=some x->σ[i]?=some (some v)->Vis X.env.scope x->∃ u,Yb v u/\Zhr X.env s.heap m x u
 cell:∀ x c,X.env.cells.lookup x=some c->∃ v,s.heap.IsCell c v
 free:H X.env.locals=none
 freeC:∀ x c,X.env.cells.lookup x=some c->H c=none
 pin:∀ p∈X.pn++pins,s.heap.get? p.1=some p.2/\H p.1=none/\p.1≠X.env.locals/\p.1∉X.fs/\∀ v,p.2.data≠.cell v
 hok:S4 X.prog X.w H s.heap
 len:σ.length=X.N.length
section
variable {X:Cx} {pins:Zzx} {σ:List (Option V)} {H H':Hp} {s:Shared} {h':Heap}
theorem Cx.Ok.nofr (ok:X.Ok) {o:Obj} (e:X.base.get? b=some o):b∉X.fs:=fun hb=>by
 have:=(ok.funs.mem hb).1;rw [e] at this;cases this
theorem Inv.bs (I:Inv X pins σ H s):∀ b o,X.base.get? b=some o->s.heap.get? b=some o/\H b=none:=fun b o e =>
 ⟨I.base.keep b o (I.ok.bs b o e).1 (I.ok.bs b o e).2 (I.ok.nofr e) (I.ok.noex b o e),I.base.free b o (I.ok.bs b o e).1 (I.ok.bs b o e).2 (I.ok.noex b o e)⟩
theorem Inv.bk (I:Inv X pins σ H s):∀ b o,X.base.get? b=some o->s.heap.get? b=some o:=fun b o e=>(I.bs b o e).1
theorem Inv.mod (I:Inv X pins σ H s):Mod X.K X.mg X.base:=I.ok.mod
theorem Inv.kIn (I:Inv X pins σ H s):X.K.In s.heap:=I.ok.mod.kin.keeps I.bk
theorem Inv.lt (I:Inv X pins σ H s):X.env.locals<s.heap.objs.size:=let ⟨_,hn,_⟩:=I.loc;hn.lt
theorem Inv.sz (I:Inv X pins σ H s):X.s₀.heap.objs.size<=s.heap.objs.size:=le_trans I.ok.above (le_of_lt I.lt)
theorem Inv.nofs (I:Inv X pins σ H s) (h:s.heap.objs.size<=a):a∉X.fs:=fun hb=>by
 obtain ⟨_,o,ho,_⟩:=I.ok.funs.mem hb;exact absurd (lt_of_lt_of_le (lt_size ho) (le_trans I.sz h)) (lt_irrefl _)
theorem Inv.cne (I:Inv X pins σ H s):∀ x c,X.env.cells.lookup x=some c->c≠X.env.locals:=fun x c e z=>by
 obtain ⟨v,o,ho,hd⟩:=I.cell x c e;obtain ⟨m,⟨o',es,ep,ho',hd',_⟩,_⟩:=I.loc;rw [z,ho'] at ho;cases ho;rw [hd'] at hd;cases hd
theorem Inv.funs (I:Inv X pins σ H s):s.heap.FunFrames X.base X.outer:=by
 have all:∀ (l:List Env),(∀ b∈E9 l,b∈X.fs)->X.s₀.heap.FunFrames X.base l->s.heap.FunFrames X.base l:=by
  intro l;induction l with
  | nil=>intro _ _;trivial
  | cons env r ih =>
   intro hs hl;obtain ⟨hk,⟨L,o,hf,hn,ho,hd⟩,hr⟩:=hl;have hL:L∈X.fs:=hs L (by unfold E9;rw [filterMap_cons,hf];exact mem_cons_self);obtain ⟨sl,e⟩:=I.base.slot L o ho (I.ok.frf L hL) hL fun z=>I.ok.exfs L z hL
   exact ⟨hk,⟨L,_,hf,hn,e,hd⟩,ih (fun b hb=>hs b (by unfold E9;rw [filterMap_cons,hf];exact mem_cons_of_mem _ hb)) hr⟩
 exact all X.outer (fun _ hb=>hb) I.ok.funs
theorem Inv.stack (I:Inv X pins σ H s):s.heap.FunFrames X.base X.stack:=by
 rcases I.ok.stk with e | ⟨e,hf⟩
 ·rw [e];exact I.funs
 ·rw [e]
  obtain ⟨m,hn,_⟩:=I.loc;refine .cons (by rw [I.ok.kind];decide) hf hn ?_ I.funs;exact Heap.get?_none_of_le (le_trans I.ok.bsz I.ok.above)
theorem Inv.stkSub (I:Inv X pins σ H s):∀ b∈E9 X.stack,b∈X.env.locals::X.fs:=fun b hb=>by
 rcases I.ok.stk with e | ⟨e,hf⟩
 ·rw [e] at hb;exact mem_cons_of_mem _ hb
 ·rw [e] at hb
  unfold E9 at hb;rw [filterMap_cons,hf] at hb;exact hb
theorem Inv.stkFree (I:Inv X pins σ H s):∀ b∈E9 X.stack,H b=none:=fun b hb=>by
 rcases mem_cons.mp (I.stkSub b hb) with e | hb
 ·rw [e];exact I.free
 ·obtain ⟨_,o,ho,_⟩:=I.ok.funs.mem hb
  exact I.base.free b o ho (I.ok.frf b hb) fun z=>I.ok.exfs b z hb
theorem Inv.step {g':Array GenState} {d':Drawn} (I:Inv X pins σ H s)
  (hch:∀ b∈ch,(b∈X.ex\/X.s₀.heap.objs.size<=b)/\b≠X.env.locals/\(∀ x c,X.env.cells.lookup x=some c->c≠b)/\∀ p∈X.pn++pins,p.1≠b)
  (keep:∀ b o,b≠X.env.locals->b∉X.fs->b∉ch->s.heap.get? b=some o->H b=none->h'.get? b=some o)
  (slot:∀ b o,b≠X.env.locals->b∈X.fs->b∉ch->s.heap.get? b=some o->H b=none->∃ sl,h'.get? b=some { o with slots:=sl }) (free:∀ b o,b∉ch->s.heap.get? b=some o->H b=none->H' b=none)
  (there:∀ b o,b∉ch->s.heap.get? b=some o->∃ o',h'.get? b=some o')
  (tups:∀ b xs,H b=some (.tup xs)->H' b=some (.tup xs)) (frzs:∀ b o u,H b=some (.frz o u)->H' b=some (.frz o u)) (tbls:∀ b ps,H b=some (.tbl ps)->∃ more,H' b=some (.tbl (ps++more)))
  (ns:∀ m,s.heap.Ns X.env.locals m->h'.Ns X.env.locals m) (hok:S4 X.prog X.w H' h') (hg:AllBare g') :
  Inv X pins σ H' { s with heap:=h',gens:=g',drawn:=d',toks:=t' }:=by
 have neL:∀ b o,X.s₀.heap.get? b=some o->b≠X.env.locals:=fun b o e=>ne_of_lt (lt_of_lt_of_le (lt_size e) I.ok.above)
 have neC:∀ b o,X.s₀.heap.get? b=some o->b∉X.ex->b∉ch:=fun b o e hx hb=>by
  rcases (hch b hb).1 with z | z
  ·exact hx z
  ·exact absurd (lt_of_lt_of_le (lt_size e) z) (lt_irrefl _)
 have cellK:∀ x c,X.env.cells.lookup x=some c->∀ v,s.heap.IsCell c v->h'.IsCell c v:=fun x c e v zz=>by
  obtain ⟨o,ho,hd⟩:=zz;have nch:c∉ch:=fun z=>(hch c z).2.2.1 x c e rfl
  by_cases hc:c∈X.fs
  ·obtain ⟨sl,q⟩:=slot c o (I.cne x c e) hc nch ho (I.freeC x c e)
   exact ⟨_,q,hd⟩
  ·exact ⟨o,keep c o (I.cne x c e) hc nch ho (I.freeC x c e),hd⟩
 refine ⟨I.ok,I.os,hg,⟨fun b o e n hb hx=>?_,fun b o e n hb hx=>?_,fun b o e n hx=>?_,fun b o e hx=>?_,fun b xs e=>tups b xs (I.base.tups b xs e),fun b o xs e=>frzs b o xs (I.base.frzs b o xs e),fun b ps e=>?_⟩,?_,fun x c e=>?_,?_,fun x c e=>?_,fun p hp=>?_,hok,I.len⟩
 ·exact keep b o (neL b o e) hb (neC b o e hx) (I.base.keep b o e n hb hx) (I.base.free b o e n hx)
 ·obtain ⟨sl,e1⟩:=I.base.slot b o e n hb hx
  obtain ⟨sl',e2⟩:=slot b _ (neL b o e) hb (neC b o e hx) e1 (I.base.free b o e n hx);exact ⟨sl',e2⟩
 ·obtain ⟨o',e1⟩:=I.base.there b o e hx
  exact free b o' (neC b o e hx) e1 (I.base.free b o e n hx)
 ·obtain ⟨o',e1⟩:=I.base.there b o e hx
  exact there b o' (neC b o e hx) e1
 ·obtain ⟨m1,e1⟩:=I.base.tbls b ps e
  obtain ⟨m2,e2⟩:=tbls b _ e1;exact ⟨m1++m2,by rw [e2,Array.append_assoc]⟩
 ·obtain ⟨m,hn,hl⟩:=I.loc
  refine ⟨m,ns m hn,fun i x v e1 e2 e3=>?_⟩;obtain ⟨u,r,l⟩:=hl i x v e1 e2 e3;refine ⟨u,r,?_⟩;rcases l with l | ⟨k,c,e,z⟩
  ·exact .inl l
  ·exact .inr ⟨k,c,e,cellK x c e _ z⟩
 ·obtain ⟨v,z⟩:=I.cell x c e
  exact ⟨v,cellK x c e v z⟩
 ·obtain ⟨m,⟨o,_,_,ho,_⟩,_⟩:=I.loc
  exact free _ o (fun z=>(hch _ z).2.1 rfl) ho I.free
 ·obtain ⟨v,o,ho,hd⟩:=I.cell x c e
  exact free c o (fun z=>(hch c z).2.2.1 x c e rfl) ho (I.freeC x c e)
 ·obtain ⟨e,n,ne,nf,d⟩:=I.pin p hp
  have nch:p.1∉ch:=fun z=>(hch p.1 z).2.2.2 p hp rfl
  exact ⟨keep p.1 p.2 ne nf nch e n,free p.1 p.2 nch e n,ne,nf,d⟩
theorem Inv.un (I:Inv X pins σ H s) (u:Un X.fs [] H H' s.heap h') (hok:S4 X.prog X.w H' h'):Inv X pins σ H' { s with heap:=h',toks:=t' }:=by
 obtain ⟨m,⟨o,es,ep,ho,r⟩,_⟩:=id I.loc;obtain ⟨sl,hL⟩:=u.any ho I.free (by simp);exact I.step (g':=s.gens) (d':=s.drawn) (ch:=[]) (fun _ z=>nomatch z) (fun b o _ hb _ e n=>u.keep b o e n hb (by simp)) (fun b o _ hb _ e n=>u.slot b o e n hb (by simp)) (fun b o _ e n=>u.free b o e n (by simp)) (fun b o _ e=>u.there b o e (by simp)) u.tups u.frzs u.tbls (fun m' hm=>by
  obtain ⟨o',es',ep',ho',r'⟩:=hm;rw [ho] at ho';cases ho';exact ⟨_,es',ep',hL,r'⟩) hok I.bare
theorem Inv.call {g':Array GenState} {d':Drawn} (I:Inv X pins σ H s) (u:Un (E9 X.stack) ch H H' s.heap h') (hok:S4 X.prog X.w H' h') (hg:AllBare g')
  (hch:∀ b∈ch,(b∈X.ex\/X.s₀.heap.objs.size<=b)/\b≠X.env.locals/\(∀ x c,X.env.cells.lookup x=some c->c≠b)/\∀ p∈X.pn++pins,p.1≠b) :
  Inv X pins σ H' { s with heap:=h',gens:=g',drawn:=d',toks:=t' }:=by
 obtain ⟨m,⟨o,es,ep,ho,r⟩,_⟩:=id I.loc;obtain ⟨sl,hL⟩:=u.any ho I.free fun z=>(hch _ z).2.1 rfl
 exact I.step (ch:=ch) hch (fun b o hL hb hc e n=>u.keep b o e n (fun z=>(mem_cons.mp (I.stkSub b z)).elim hL hb) hc) (fun b o _ _ hc e n=>u.any e n hc) (fun b o hc e n=>u.free b o e n hc) (fun b o hc e=>u.there b o e hc) u.tups u.frzs u.tbls (fun m' hm=>by
  obtain ⟨o',es',ep',ho',r'⟩:=hm;rw [ho] at ho';cases ho';exact ⟨_,es',ep',hL,r'⟩) hok hg
theorem Inv.turned (I:Inv X pins σ H s) (k:∀ b o,b≠it->s.heap.get? b=some o->h'.get? b=some o) (hn:H it=none) (hL:it≠X.env.locals)
  (h1:it∈X.ex\/X.s₀.heap.objs.size<=it) (h2:∀ x c,X.env.cells.lookup x=some c->c≠it) (h3:∀ p∈X.pn++pins,p.1≠it):Inv X pins σ H { s with heap:=h',toks:=t' }:=by
 have nit:∀ b u,H b=some u->b≠it:=fun b u e z=>by rw [z,hn] at e;cases e
 refine I.step (g':=s.gens) (d':=s.drawn) (ch:=[it]) (fun b hb=>?_) (fun b o _ _ hc e _=>k b o (fun z=>hc (by simp [z])) e) (fun b o _ _ hc e _=>⟨o.slots,k b o (fun z=>hc (by simp [z])) e⟩) (fun _ _ _ _ n=>n)
  (fun b o hc e=>⟨o,k b o (fun z=>hc (by simp [z])) e⟩) (fun _ _ e=>e) (fun _ _ _ e=>e) (fun b ps e=>⟨#[],by rw [e];simp⟩) (fun m hm=>?_) (fun b u e=>?_) I.bare
 ·have e:b=it:=by simpa using hb
  subst e;exact ⟨h1,hL,h2,h3⟩
 ·obtain ⟨o,es,ep,ho,r⟩:=hm
  exact ⟨o,es,ep,k _ o (Ne.symm hL) ho,r⟩
 ·refine (I.hok b u e).stay (fun c v hc q=>k c v ?_ q) (fun _ q=>q) fun _ _ q=>q
  rcases hc with z | z
  ·rw [z];exact nit b u e
  ·exact nit c _ z
theorem Inv.tok (I:Inv X pins σ H s) (t:Nat):Inv X pins σ H { s with toks:=t }:=I.un (h':=s.heap) (t':=t) Un.refl I.hok
theorem Inv.kept (I:Inv X pins σ H s) (k:∀ b u,s.heap.get? b=some u->h'.get? b=some u):Inv X pins σ H { s with heap:=h',toks:=t' }:=I.un (Un.kept k) (I.hok.kept k)
theorem Inv.laid {o:HO} (I:Inv X pins σ H s) (k:∀ b u,s.heap.get? b=some u->h'.get? b=some u) (hp:s.heap.objs.size<=a) (new:Yz X.prog X.w (Yn H a o) h' a o) :
 Inv X pins σ (Yn H a o) { s with heap:=h',toks:=t' }:=I.un (Un.laid k hp (I.hok.fresh hp)) (I.hok.laid k hp new)
theorem Inv.write {x:Addr} {o:HO} (I:Inv X pins σ H s) (mu:Mut (H x)) (he:e=x\/H e=some (.own x)) (k:∀ b u,b≠e->s.heap.get? b=some u->h'.get? b=some u) (heo:∃ u,h'.get? e=some u)
 (new:Yz X.prog X.w (Yn H x o) h' x o):Inv X pins σ (Yn H x o) { s with heap:=h',toks:=t' }:=I.un (Un.write mu he k heo) (I.hok.write mu he k heo new)
theorem Inv.weak {σ':List (Option V)} (I:Inv X pins σ H s) (hl:σ'.length=σ.length) (w:∀ (i:Nat) v,σ'[i]?=some (some v)->σ[i]?=some (some v)):Inv X pins σ' H s :=
 ⟨I.ok,I.os,I.bare,I.base,let ⟨m,hn,hl'⟩:=I.loc;⟨m,hn,fun i x v e1 e2 e3=>hl' i x v e1 (w i v e2) e3⟩,I.cell,I.free,I.freeC,I.pin,I.hok,hl.trans I.len⟩
theorem Inv.pins_of {pins':Zzx} (I:Inv X pins σ H s) (h:∀ p∈pins',s.heap.get? p.1=some p.2/\H p.1=none/\p.1≠X.env.locals/\p.1∉X.fs/\∀ v,p.2.data≠.cell v):Inv X pins' σ H s :=
 ⟨I.ok,I.os,I.bare,I.base,I.loc,I.cell,I.free,I.freeC,fun p hp=>(mem_append.mp hp).elim (fun z=>I.pin p (mem_append_left _ z)) (h p),I.hok,I.len⟩
theorem B3 (hN:N.Nodup) {x:Str} (a:N[i]?=some x) (b:N[j]?=some x):i=j:=by
 obtain ⟨h1,e1⟩:=List.getElem?_eq_some_iff.mp a;obtain ⟨h2,e2⟩:=List.getElem?_eq_some_iff.mp b;exact (List.getElem_inj hN).mp (e1.trans e2.symm)
theorem Py {M:Model} {A:Around} {x:Str} {v:V} {Q:Unit->Shared->Prop} (I:Inv X pins σ H s) (hN:X.N.Nodup) (hi:X.N[i]?=some x) (hx:B2 X.env.scope x) (r:Yb v u)
   (h:∀ s',Inv X pins (σ.set i (some v)) H s'->(∃ a,SameBut a s.heap s'.heap/\(a=X.env.locals\/X.env.cells.lookup x=some a))->Q () s') (hf:X.fn x=true\/X.env.scope.names.lookup x=some .local:=by first | exact .inl rfl | exact .inr rfl | assumption):wpAny M A (storeName X.env x u) Q E s:=by
 obtain ⟨m,hn,hl⟩:=id I.loc;have hcls:(X.env.scope.kind==.class||(X.env.scope.kind==.module&&X.env.locals != X.env.globals))=false:=by rw [I.ok.kind];rfl
 have hiσ:i<σ.length:=by rw [I.len];exact (List.getElem?_eq_some_iff.mp hi).1
 have cne:=I.cne;have tracked:∀ {a:Addr} {h':Heap},(∃ o,s.heap.get? a=some o/\H a=none)->SameBut a s.heap h'->S4 X.prog X.w H h':=fun {a h'} ha hs b ob e=>by
   obtain ⟨_,_,hfree⟩:=ha;refine (I.hok b ob e).stay (fun c w' hc q=>(hs.2 c ?_).trans q) (fun _ q=>q) fun _ _ q=>q
   rintro rfl;rcases hc with rfl | hc
   · rw [hfree] at e;cases e
   · rw [hfree] at hc;cases hc
 rcases hx with hk | hk
 · refine wpAny_storeName_local hk hn (fun h' hn' hs=>?_) hcls
   obtain ⟨oL,_,_,hoL,_⟩:=id hn;refine h _ ⟨I.ok,I.os,I.bare,⟨fun b o e n hb hx=>?_,fun b o e n hb hx=>?_,I.base.free,fun b o e hx=>?_,I.base.tups,I.base.frzs,I.base.tbls⟩,⟨_,hn',fun j y v' e1 e2 e3=>?_⟩,fun y c e=>?_,I.free,I.freeC,fun p hp=>?_,tracked ⟨oL,hoL,I.free⟩ hs,by simpa using I.len⟩ ⟨_,hs,.inl rfl⟩
   · exact (hs.2 b (ne_of_lt (lt_of_lt_of_le (lt_size e) I.ok.above))).trans (I.base.keep b o e n hb hx)
   · obtain ⟨sl,e1⟩:=I.base.slot b o e n hb hx
     exact ⟨sl,(hs.2 b (ne_of_lt (lt_of_lt_of_le (lt_size e) I.ok.above))).trans e1⟩
   · obtain ⟨o',e1⟩:=I.base.there b o e hx
     exact ⟨o',(hs.2 b (ne_of_lt (lt_of_lt_of_le (lt_size e) I.ok.above))).trans e1⟩
   · by_cases hj:j=i
     · subst hj
       rw [hi] at e1;cases e1;rw [List.getElem?_set_self hiσ] at e2;cases e2;exact ⟨u,r,.inl ⟨hk,by simp⟩⟩
     · rw [List.getElem?_set_ne (Ne.symm hj)] at e2
       obtain ⟨u',r',q⟩:=hl j y v' e1 e2 e3;refine ⟨u',r',?_⟩;rcases q with ⟨k,e⟩ | ⟨k,c,e,z⟩
       · refine .inl ⟨k,?_⟩
         have:y≠x:=fun e=>hj (B3 hN e1 (e▸hi))
         simp [this,e]
       · exact .inr ⟨k,c,e,z.sameBut hs (cne y c e)⟩
   · obtain ⟨w',z⟩:=I.cell y c e
     exact ⟨w',z.sameBut hs (cne y c e)⟩
   · obtain ⟨e,n,ne,nf,d⟩:=I.pin p hp
     exact ⟨(hs.2 p.1 ne).trans e,n,ne,nf,d⟩
 · have hfn:X.fn x=true:=by
     rcases hf with z | z
     · exact z
     · rw [z] at hk;cases hk
   obtain ⟨c,hc⟩:=I.ok.has x (.inl hk);obtain ⟨w',z⟩:=I.cell x c hc;refine wpAny_storeName_cell I.ok.kind hk hc z (fun h' hc' hs=>?_);obtain ⟨oc,hoc,hocd⟩:=id z;refine h { s with heap:=h' } ⟨I.ok,I.os,I.bare,⟨fun b o e n hb hx=>?_,fun b o e n hb hx=>?_,I.base.free,fun b o e hx=>?_,I.base.tups,I.base.frzs,I.base.tbls⟩,⟨m,hn.sameBut hs (Ne.symm (cne x c hc)),fun j y v' e1 e2 e3=>?_⟩,fun y c' e=>?_,I.free,I.freeC,fun p hp=>?_,tracked ⟨oc,hoc,I.freeC x c hc⟩ hs,by simpa using I.len⟩ ⟨c,hs,.inr hc⟩
   · exact (hs.2 b (ne_of_lt (lt_of_lt_of_le (lt_size e) (I.ok.cab x c hfn hc)))).trans (I.base.keep b o e n hb hx)
   · obtain ⟨sl,e1⟩:=I.base.slot b o e n hb hx
     exact ⟨sl,(hs.2 b (ne_of_lt (lt_of_lt_of_le (lt_size e) (I.ok.cab x c hfn hc)))).trans e1⟩
   · obtain ⟨o',e1⟩:=I.base.there b o e hx
     exact ⟨o',(hs.2 b (ne_of_lt (lt_of_lt_of_le (lt_size e) (I.ok.cab x c hfn hc)))).trans e1⟩
   · by_cases hj:j=i
     · subst hj
       rw [hi] at e1;cases e1;rw [List.getElem?_set_self hiσ] at e2;cases e2;exact ⟨u,r,.inr ⟨.inl hk,c,hc,hc'⟩⟩
     · rw [List.getElem?_set_ne (Ne.symm hj)] at e2
       obtain ⟨u',r',q⟩:=hl j y v' e1 e2 e3;refine ⟨u',r',?_⟩;rcases q with q | ⟨k,c',e,z'⟩
       · exact .inl q
       · refine .inr ⟨k,c',e,z'.sameBut hs ?_⟩
         rintro rfl;exact hj (B3 hN e1 (I.ok.inj _ _ _ e hc▸hi))
   · by_cases hcc:c'=c
     · subst hcc;exact ⟨_,hc'⟩
     · obtain ⟨w2,z2⟩:=I.cell y c' e
       exact ⟨w2,z2.sameBut hs hcc⟩
   · obtain ⟨e,n,ne,nf,d⟩:=I.pin p hp
     refine ⟨(hs.2 p.1 ?_).trans e,n,ne,nf,d⟩;intro q;rw [q,hoc] at e;have q':oc=p.2:=Option.some.inj e;exact d w' (by rw [← q'];exact hocd)
theorem O8 {M:Model} {A:Around} {x:Str} {v:V} {Q:Unit->Shared->Prop} (I:Inv X pins σ H s) (hN:X.N.Nodup) (hi:X.N[i]?=some x) (hx:B2 X.env.scope x) (r:Yb v u)
  (h:∀ s',Inv X pins (σ.set i (some v)) H s'->Q () s') (hf:X.fn x=true\/X.env.scope.names.lookup x=some .local:=by first | exact .inl rfl | exact .inr rfl | assumption):wpAny M A (storeName X.env x u) Q E s :=
 Py I hN hi hx r (fun s' I' _=>h s' I') hf
theorem Inv.call' (I:Inv X pins σ H s) (ho:s'.os=s.os) (u:Un (E9 X.stack) ch H H' s.heap s'.heap) (hok:S4 X.prog X.w H' s'.heap) (hg:AllBare s'.gens)
  (hch:∀ b∈ch,(b∈X.ex\/X.s₀.heap.objs.size<=b)/\b≠X.env.locals/\(∀ x c,X.env.cells.lookup x=some c->c≠b)/\∀ p∈X.pn++pins,p.1≠b):Inv X pins σ H' s':=by
 obtain ⟨h',g',d',t',o'⟩:=s';have e:o'=s.os:=ho;subst e;exact I.call (g':=g') (t':=t') (d':=d') u hok hg hch
end
abbrev XK:=Value->Option Addr->Hp->Prop
abbrev St:=List (Option V)
abbrev VK:=V->Hp->Prop
abbrev TE:=St->Hp->VK->Prop
abbrev TT:=St->Hp->(Bool->Hp->Prop)->Prop
abbrev TA:=St->Hp->(List V->Hp->Prop)->Prop
structure Ends where
 nx:St->Hp->Prop
 rt:VK
 bk:St->Hp->Prop:=fun _ _=>False
 ct:St->Hp->Prop:=fun _ _=>False
abbrev TS:=Ends->St->Hp->Prop
def EP (X:Cx) (pins:Zzx) (σ:St) (Q:VK) (u:Value) (s':Shared):Prop:=∃ v H',Inv X pins σ H' s'/\Yb v u/\Q v H'
def TP (X:Cx) (pins:Zzx) (σ:St) (Q:Bool->Hp->Prop) (b:Bool) (s':Shared):Prop:=∃ H',Inv X pins σ H' s'/\Q b H'
def AP (X:Cx) (pins:Zzx) (σ:St) (Q:List V->Hp->Prop) (us:List Value) (s':Shared):Prop:=∃ vs H',Inv X pins σ H' s'/\Zx vs us/\Q vs H'
def SP (X:Cx) (pins:Zzx) (D:Ends) (f:Flow) (s':Shared):Prop :=
 match f with
 | .next=>∃ σ' H',Inv X pins σ' H' s'/\D.nx σ' H'
 | .brk=>∃ σ' H',Inv X pins σ' H' s'/\D.bk σ' H'
 | .cont=>∃ σ' H',Inv X pins σ' H' s'/\D.ct σ' H'
 | .ret u=>∃ v σ' H',Inv X pins σ' H' s'/\Yb v u/\D.rt v H'
def PE (X:Cx) (e:Expr) (t:TE):Prop :=
 ∀ (pins:Zzx) (s:Shared) (σ:St) (H:Hp) (Q:VK),Inv X pins σ H s->t σ H Q->wpAny (model X.prog X.w) X.A (eval e X.env) (EP X pins σ Q) X.xe s
def PT (X:Cx) (e:Expr) (t:TT):Prop :=
 ∀ (pins:Zzx) (s:Shared) (σ:St) (H:Hp) (Q:Bool->Hp->Prop),Inv X pins σ H s->t σ H Q->wpAny (model X.prog X.w) X.A (isTrue e X.env (eval e X.env)) (TP X pins σ Q) X.xe s
def PW (X:Cx) (e:Expr) (t:TT):Prop :=
 ∀ (whole:Sem Value) (pins:Zzx) (s:Shared) (σ:St) (H:Hp) (Q:Bool->Hp->Prop),Inv X pins σ H s->t σ H Q->wpAny (model X.prog X.w) X.A (isTrue e X.env whole) (TP X pins σ Q) X.xe s
theorem PW.pt {X:Cx} {e:Expr} {t:TT} (h:PW X e t):PT X e t:=h _
def PA (X:Cx) (es:List Expr) (t:TA):Prop :=
 ∀ (pos:Pos) (pins:Zzx) (s:Shared) (σ:St) (H:Hp) (Q:List V->Hp->Prop),Inv X pins σ H s->t σ H Q->wpAny (model X.prog X.w) X.A (spliced (backTo pos (starEach es X.env))) (AP X pins σ Q) X.xe s
def PS (X:Cx) (st:Stmt) (t:TS):Prop :=
 ∀ (pins:Zzx) (s:Shared) (σ:St) (H:Hp) (D:Ends),Inv X pins σ H s->t D σ H->wpAny (model X.prog X.w) X.A (exec st X.env) (SP X pins D) X.xe s
def Dh (X:Cx) (st:List Stmt) (t:TS):Prop :=
 ∀ (pins:Zzx) (s:Shared) (σ:St) (H:Hp) (D:Ends),Inv X pins σ H s->t D σ H->wpAny (model X.prog X.w) X.A (execs st X.env) (SP X pins D) X.xe s
theorem Wp {t:Sem α} {Q Q':α->Shared->Prop} {M:Model} {A:Around} (h:wpAny M A t Q E s) (hQ:∀ a s,Q a s->Q' a s):wpAny M A t Q' E s:=wpAny_mono h hQ fun _ _ x=>x
section
variable {X:Cx}
def Mi (i:Nat):TE:=fun σ H Q=>∃ v,σ[i]?=some (some v)/\Q v H
def tC (v:V):TE:=fun _ H Q=>Q v H
theorem Qs {x:Str} (hN:X.N[i]?=some x) (hv:Vis X.env.scope x) (hd:(x==("__debug__" : Str))=false:=by decide) (hcd:(x==("__classdict__" : Str))=false:=by decide):PE X (.Name x pos) (Mi i):=by
 intro pins s σ H Q I h;obtain ⟨v,e,h⟩:=h;obtain ⟨m,hn,hl⟩:=I.loc;obtain ⟨u,r,l⟩:=hl i x v hN e hv;have fin:EP X pins σ Q u s:=⟨v,H,I,r,h⟩;rcases l with ⟨hk,hm⟩ | ⟨hk,c,hc,hcell⟩
 ·exact wpAny_Name (wpAny_loadName_local I.ok.kind hk hn hm fin) hd
 ·rcases hk with hk | hk
  ·exact wpAny_Name (wpAny_loadName_cell I.ok.kind hk hc hcell fin) hd
  ·exact wpAny_Name (wpAny_loadName_free I.ok.kind hk hc hcell fin hcd) hd
theorem Zd0 {i j pos}:PE X (.Constant (.int i) j pos) (tC (.int i)):=fun _ _ _ H _ I h=>wpAny_Constant_int ⟨.int i,H,I.tok _,⟨_,rfl⟩,h⟩
theorem Zg6 {b j pos}:PE X (.Constant (.bool b) j pos) (tC (.bl b)):=fun _ _ _ H _ I h=>Constant_bool ⟨.bl b,H,I,rfl,h⟩
theorem Zei {j pos}:PE X (.Constant .none j pos) (tC .non):=fun _ _ _ H _ I h=>Constant_none ⟨.non,H,I,rfl,h⟩
theorem Z6z {x j pos}:PE X (.Constant (.str x) j pos) (tC (.str x)):=fun _ _ _ H _ I h=>Calls.Constant_str ⟨.str x,H,I.tok _,⟨_,rfl⟩,h⟩
def Gl (X:Cx) (x:Str):Prop:=X.env.kindOf x=some .globalImplicit
theorem Ue {σ:St} {H:Hp} {x:Str} (I:Inv X pins σ H s) (hg:Gl X x) (hm:X.mg x=some u) (h:Q u s)
  (hd:(x==("__debug__" : Str))=false:=by decide):wpAny (model X.prog X.w) X.A (eval (.Name x pos) X.env) Q E s :=
 Calls.Name_function_global I.ok.kind hg (Calls.loadGlobal_global (by rw [I.ok.glob];exact I.mod.glob.keeps I.bk) hm h) hd
theorem Sa {σ:St} {H:Hp} {x:Str} (I:Inv X pins σ H s) (hg:Gl X x) (hm:X.mg x=none) (hv:bootBuiltins x=some u) (h:Q u s)
  (hn:x≠"__name__" := by decide) (hd:(x==("__debug__" : Str))=false:=by decide):wpAny (model X.prog X.w) X.A (eval (.Name x pos) X.env) Q E s:=by
 obtain ⟨mb,h1,h2⟩:=I.mod.blt;exact Calls.Name_function_global I.ok.kind hg (Calls.loadGlobal_builtin (by rw [I.ok.glob];exact I.mod.glob.keeps I.bk) hm (by rw [I.ok.blt];exact h1.keeps I.bk) ((h2 x hn).trans hv) h) hd
theorem Zac {x:Str} {v:V} (hg:Gl X x) (hm:X.mg x=some u) (r:Yb v u) (hd:(x==("__debug__" : Str))=false:=by decide):PE X (.Name x pos) (tC v) :=
 fun _ _ _ H _ I h=>Ue I hg hm ⟨v,H,I,r,h⟩ hd
theorem Z9z {x:Str} {v:V} (hg:Gl X x) (hm:X.mg x=none) (hv:bootBuiltins x=some u) (r:Yb v u) (hn:x≠"__name__" := by decide) (hd:(x==("__debug__" : Str))=false:=by decide):PE X (.Name x pos) (tC v) :=
 fun _ _ _ H _ I h=>Sa I hg hm hv ⟨v,H,I,r,h⟩ hn hd
variable {a b:Expr} {ta tb:TE} {pos:Pos}
def PC (X:Cx) (op:CmpOp) (a b:Expr) (t:TE):Prop :=
 ∀ (pins:Zzx) (s:Shared) (σ:St) (H:Hp) (Q:VK),Inv X pins σ H s->t σ H Q ->
  wpAny (model X.prog X.w) X.A (eval a X.env) (fun v s₁=>wpAny (model X.prog X.w) X.A (eval b X.env) (fun u s₂=>wpAny (model X.prog X.w) X.A (compareOp op v u) (EP X pins σ Q) X.xe s₂) X.xe s₁) X.xe s
def tB (t:TE):TT:=fun σ H Q=>t σ H fun x H1=>∃ c,x=.bl c/\Q c H1
theorem Zdk {t:TE} (h:PC X op a b t) (h1:behindInMarks op b=false:=by first | exact nobehind _ (by decide) (by decide) | rfl):PT X (.Compare a [op] [b] pos) (tB t):=by
 intro pins s σ H Q I hw;refine wpAny_isTrue_Compare1 (Wp (h pins s σ H _ I hw) fun v s1 h1=>Wp h1 fun u s2 h2=>Wp h2 fun c s3 ⟨x,H1,I1,r1,q1⟩=>?_) h1;obtain ⟨d,rfl,q⟩:=q1;cases r1;exact wpAny_truthy_bool ⟨H1,I1,q⟩
variable {tA tB':TT} {rest:List Expr}
def Zhv (t u:TT):TT:=fun σ H Q=>t σ H fun c H1=>if c=true then u σ H1 Q else Q false H1
def tOr (t u:TT):TT:=fun σ H Q=>t σ H fun c H1=>if c=true then Q true H1 else u σ H1 Q
def Zhu (t:TT):TT:=fun σ H Q=>t σ H fun c H1=>Q (!c) H1
theorem Z8r (ha:PT X a tA):PW X (.BoolOp .And [a] pos) tA:=by
 intro wh pins s σ H Q I h;refine isTrue_and (Wp (ha pins s σ H Q I h) fun c s1 e=>?_);cases c with
 | true=>exact isTrue_and_nil e
 | false=>exact e
theorem Zc6 (ha:PT X a tA):PW X (.BoolOp .Or [a] pos) tA:=by
 intro wh pins s σ H Q I h;refine isTrue_or (Wp (ha pins s σ H Q I h) fun c s1 e=>?_);cases c with
 | false=>exact isTrue_or_nil e
 | true=>exact e
theorem Zbv (ha:PT X a tA) (hb:PW X (.BoolOp .And (b::rest) pos) tB'):PW X (.BoolOp .And (a::b::rest) pos) (Zhv tA tB'):=by
 intro wh pins s σ H Q I h;refine isTrue_and (Wp (ha pins s σ H _ I h) fun c s1 ⟨H1,I1,q1⟩=>?_);cases c with
 | true=>exact hb wh pins s1 σ H1 Q I1 q1
 | false=>exact ⟨H1,I1,q1⟩
theorem Zgx (ha:PT X a tA) (hb:PW X (.BoolOp .Or (b::rest) pos) tB'):PW X (.BoolOp .Or (a::b::rest) pos) (tOr tA tB'):=by
 intro wh pins s σ H Q I h;refine isTrue_or (Wp (ha pins s σ H _ I h) fun c s1 ⟨H1,I1,q1⟩=>?_);cases c with
 | true=>exact ⟨H1,I1,q1⟩
 | false=>exact hb wh pins s1 σ H1 Q I1 q1
theorem Zca (ha:PT X a tA):PT X (.UnaryOp .Not a pos) (Zhu tA):=by
 intro pins s σ H Q I h;exact isTrue_not (ha pins s σ H (fun c H1=>Q (!c) H1) I h)
def Zho (ta tb:TE):TE:=fun σ H Q=>ta σ H fun x H1=>∃ c,x=.bl c/\if c=true then Q (.bl true) H1 else tb σ H1 Q
theorem Zc4 {op} {t:TE} (h:PE X a t):PE X (.BoolOp op [a] pos) t:=fun pins s σ H Q I hw=>BoolOp_one (h pins s σ H Q I hw)
theorem Zfq (ha:PE X a ta) (hb:PE X (.BoolOp .Or (b::rest) pos) tb):PE X (.BoolOp .Or (a::b::rest) pos) (Zho ta tb):=by
 intro pins s σ H Q I h;refine BoolOp_or (Wp (ha pins s σ H _ I h) fun v s1 ⟨x,H1,I1,r1,q1⟩=>?_);obtain ⟨c,rfl,q1⟩:=q1;cases r1;refine wpAny_truthy_bool ?_;cases c with
 | false=>exact hb pins s1 σ H1 Q I1 q1
 | true=>exact ⟨.bl true,H1,I1,rfl,q1⟩
end
def Dy (K:Zzy) (H:Hp) (a:Addr) (xs:List V):Prop :=
 Rd H a (.lst xs) \/
  ∃ (o:Obj) (its:Array Value) (n:Nat),K.lookup a=some o/\o.cls=.type "list" /\ o.dict=none/\o.data=.seq its n/\its.size<=sizeLine/\Zx xs its.toList
def Ed (K:Zzy) (H:Hp) (a:Addr) (xs:List V):Prop :=
 H a=some (.tup xs) \/
  ∃ (o:Obj) (its:Array Value) (n:Nat),K.lookup a=some o/\o.cls=.type "tuple" /\ o.data=.seq its n/\its.size<=sizeLine/\Zx xs its.toList/\∀ i:Int,V.int i∉xs
def Zi5:Value->Option V
 | .none=>some .non
 | .bool b=>some (.bl b)
 | .int i _=>some (.int i)
 | .str x _=>some (.str x)
 | .bytes b _=>some (.byt b)
 | .float b _=>some (.flt b)
 | .ref a=>some (.ref a)
 | .type n=>some (.ty n)
 | _=>none
theorem Yb.abs {x:V} (r:Yb x u):Zi5 u=some x:=by
 cases x with
 | non=>cases r;rfl
 | bl _=>cases r;rfl
 | int _=>obtain ⟨t,rfl⟩:=r;rfl
 | str _=>obtain ⟨t,rfl⟩:=r;rfl
 | byt _=>obtain ⟨t,rfl⟩:=r;rfl
 | flt _=>obtain ⟨t,rfl⟩:=r;rfl
 | ref _=>cases r;rfl
 | ty _=>cases r;rfl
theorem Yb.inj {x y:V} (r:Yb x u) (q:Yb y u):x=y:=Option.some.inj (r.abs.symm.trans q.abs)
theorem Zx.inj:∀ {xs ys:List V} {us:List Value},Zx xs us->Zx ys us->xs=ys
 | _,_,_,.nil,.nil=>rfl
 | _,_,_,.cons r t,.cons r' t'=>by rw [r.inj r',Zx.inj t t']
section
variable {X:Cx} {pins:Zzx} {σ:St} {H:Hp} {s:Shared} {a:Addr} {xs ys:List V}
theorem Dy.of (h:H a=some (.lst xs)):Dy K H a xs:=.inl (.inl h)
theorem Inv.list (I:Inv X pins σ H s) (h:Dy X.K H a xs):∃ its:List Value,Zx xs its/\PlainL s.heap a its.toArray/\xs.length<=sizeLine:=by
 rcases h with h | ⟨o,its,n,hk,hc,hd,hs,hz,r⟩
 ·obtain ⟨z,its,n,r,e⟩:=h.ok I.hok
  exact ⟨its,r,⟨_,n,e,rfl,rfl,rfl⟩,z⟩
 ·refine ⟨its.toList,r,⟨o,n,I.kIn a o hk,hc,hd,by simpa using hs⟩,?_⟩
  have e:=r.length;simp only [Array.length_toList] at e;lia
theorem Inv.tuple (I:Inv X pins σ H s) (h:Ed X.K H a xs):∃ its:List Value,Zx xs its/\IsTup s.heap a its.toArray/\xs.length<=sizeLine:=by
 rcases h with h | ⟨o,its,n,hk,hc,hs,hz,r,_⟩
 ·obtain ⟨z,its,r,p⟩:=(Rd.of h).ok I.hok
  exact ⟨its,r,p,z⟩
 ·refine ⟨its.toList,r,⟨o,I.kIn a o hk,hc,n,by simpa using hs⟩,?_⟩
  have e:=r.length;simp only [Array.length_toList] at e;lia
theorem Inv.list_inj (I:Inv X pins σ H s) (h:Dy X.K H a xs) (h':Dy X.K H a ys):xs=ys:=by
 obtain ⟨its,r,⟨o,n,e,_,_,d⟩,_⟩:=I.list h;obtain ⟨its',r',⟨o',n',e',_,_,d'⟩,_⟩:=I.list h';rw [e] at e';cases e';rw [d] at d';injection d' with d1 _
 have:its=its':=by simpa using congrArg Array.toList d1
 subst this;exact r.inj r'
theorem Inv.tuple_inj (I:Inv X pins σ H s) (h:Ed X.K H a xs) (h':Ed X.K H a ys):xs=ys:=by
 obtain ⟨its,r,⟨o,e,_,n,d⟩,_⟩:=I.tuple h;obtain ⟨its',r',⟨o',e',_,n',d'⟩,_⟩:=I.tuple h';rw [e] at e';cases e';rw [d] at d';injection d' with d1 _
 have:its=its':=by simpa using congrArg Array.toList d1
 subst this;exact r.inj r'
end
abbrev Cx.wish (X:Cx) (E:Zzz):Cx:={ X with xe:=E }
abbrev Cx.nox (X:Cx):Cx:=X.wish fun _ _=>False
theorem Cx.Ok.wish {X:Cx} (ok:X.Ok) (E:Zzz):(X.wish E).Ok :=
 ⟨ok.mod,ok.kind,ok.glob,ok.blt,ok.above,ok.inj,ok.has,ok.cab,ok.hd,ok.frames,ok.stk,ok.exf,ok.bs,ok.bsz,ok.noex,ok.exfs,ok.funs,ok.frf⟩
theorem Cx.Ok.unwish {X:Cx} (ok:(X.wish E).Ok):X.Ok :=
 ⟨ok.mod,ok.kind,ok.glob,ok.blt,ok.above,ok.inj,ok.has,ok.cab,ok.hd,ok.frames,ok.stk,ok.exf,ok.bs,ok.bsz,ok.noex,ok.exfs,ok.funs,ok.frf⟩
section
variable {X:Cx} {pins:Zzx} {σ:St} {H:Hp} {s:Shared} {E:Zzz}
theorem Inv.wish (I:Inv X pins σ H s) (E:Zzz):Inv (X.wish E) pins σ H s:=⟨I.ok.wish E,I.os,I.bare,I.base,I.loc,I.cell,I.free,I.freeC,I.pin,I.hok,I.len⟩
theorem Inv.unwish (I:Inv (X.wish E) pins σ H s):Inv X pins σ H s:=⟨I.ok.unwish,I.os,I.bare,I.base,I.loc,I.cell,I.free,I.freeC,I.pin,I.hok,I.len⟩
theorem SP.unwish {D:Ends} {f:Flow} (h:SP (X.wish E) pins D f s'):SP X pins D f s':=by
 cases f with
 | next=>obtain ⟨σ',H',I,q⟩:=h;exact ⟨σ',H',I.unwish,q⟩
 | brk=>obtain ⟨σ',H',I,q⟩:=h;exact ⟨σ',H',I.unwish,q⟩
 | cont=>obtain ⟨σ',H',I,q⟩:=h;exact ⟨σ',H',I.unwish,q⟩
 | ret u=>obtain ⟨v,σ',H',I,r,q⟩:=h;exact ⟨v,σ',H',I.unwish,r,q⟩
theorem Dh.nox {st:List Stmt} {t:TS} (h:Dh X.nox st t):Dh X st t:=fun pins s σ H D I hw =>
 wpAny_mono (h pins s σ H D (I.wish _) hw) (fun _ _ q=>q.unwish) fun _ _ z=>False.elim z
end
section
variable {X:Cx} {st:Stmt} {rest:List Stmt} {t u:TS} {e:Expr} {te:TE} {pos:Pos}
def Zgu:TS:=fun D σ H=>D.nx σ H
def O2 (t u:TS):TS:=fun D σ H=>t { D with nx:=u D } σ H
theorem Z9e:Dh X [] Zgu:=fun _ _ σ H _ I h=>wpAny_execs_nil ⟨σ,H,I,h⟩
theorem Uz (h1:PS X st t) (h2:Dh X rest u):Dh X (st::rest) (O2 t u):=by
 intro pins s σ H D I h;refine wpAny_execs_cons (Wp (h1 pins s σ H { D with nx:=u D } I h) fun f s1 q=>?_);cases f with
 | next =>
  obtain ⟨σ',H',I',q⟩:=q;exact h2 pins s1 σ' H' D I' q
 | ret v=>exact q
 | brk=>exact q
 | cont=>exact q
theorem Di (h1:PS X st t):Dh X [st] t:=by
 intro pins s σ H D I h;refine wpAny_execs_cons (Wp (h1 pins s σ H D I h) fun f s1 q=>?_);cases f with
 | next=>exact wpAny_execs_nil q
 | ret v=>exact q
 | brk=>exact q
 | cont=>exact q
def Zf6:TS:=fun D σ H=>D.ct σ H
theorem By:PS X (.Continue pos) Zf6:=fun _ _ σ H _ I h=>wpAny_Continue ⟨σ,H,I,h⟩
theorem Inv.quiet {σ:St} {H:Hp} (I:Inv X pins σ H s):interactive X.env=false:=by simp [interactive,I.ok.kind]
def As (te:TE):TS:=fun D σ H=>te σ H fun _ H1=>D.nx σ H1
theorem Jb (he:PE X e te) (hs:swapsWith e none pos.line X.env=pure false:=by rfl):PS X (.Expr e pos) (As te):=by
 intro pins s σ H D I h;exact wpAny_Expr_any (Wp (he pins s σ H _ I h) fun v s1 ⟨x,H1,I1,r1,q1⟩=>⟨σ,H1,I1,q1⟩) I.quiet hs
def Ziq (te:TE):TS:=fun D σ H=>te σ H D.rt
theorem Fp (he:PE X e te):PS X (.Return (some e) pos) (Ziq te):=by
 intro pins s σ H D I h;exact wpAny_Return_some (Wp (he pins s σ H _ I h) fun v s1 ⟨x,H1,I1,r1,q1⟩=>⟨x,σ,H1,I1,r1,q1⟩)
def Zit (c:TT) (t u:TS):TS:=fun D σ H=>c σ H fun b H1=>if b=true then t D σ H1 else u D σ H1
theorem Zbb {c:Expr} {a b:List Stmt} {tc:TT} (hc:PT X c tc) (ha:Dh X a t) (hb:Dh X b u):PS X (.If c a b pos) (Zit tc t u):=by
 intro pins s σ H D I h;refine wpAny_If (Wp (hc pins s σ H _ I h) fun d s1 ⟨H1,I1,q1⟩=>?_);cases d with
 | true=>exact ha pins s1 σ H1 D I1 q1
 | false=>exact hb pins s1 σ H1 D I1 q1
end
abbrev TG:=V->St->Hp->(St->Hp->Prop)->Prop
abbrev TGs:=List V->St->Hp->(St->Hp->Prop)->Prop
def PG (X:Cx) (target:Expr) (t:TG):Prop :=
 ∀ (pins:Zzx) (s:Shared) (σ:St) (H:Hp) (v:V) (u:Value) (Q:St->Hp->Prop),Inv X pins σ H s->Yb v u->t v σ H Q ->
  wpAny (model X.prog X.w) X.A (assign target X.env u) (fun _ s'=>∃ σ' H',Inv X pins σ' H' s'/\Q σ' H') X.xe s
def PGs (X:Cx) (ts:List Expr) (t:TGs):Prop :=
 ∀ (pins:Zzx) (s:Shared) (σ:St) (H:Hp) (vs:List V) (us:List Value) (Q:St->Hp->Prop),Inv X pins σ H s->Zx vs us->t vs σ H Q ->
  wpAny (model X.prog X.w) X.A (assignInOrder ((assignEach ts X.env).map (·.2)) us) (fun _ s'=>∃ σ' H',Inv X pins σ' H' s'/\Q σ' H') X.xe s
abbrev Zbm:=V->V->V->Hp->(Hp->Prop)->Prop
def Zfj (X:Cx) (t:Zbm):Prop :=
 ∀ (pins:Zzx) (s:Shared) (σ:St) (H:Hp) (o i v:V) (ov iv u:Value) (Q:Hp->Prop),Inv X pins σ H s->Yb o ov->Yb i iv->Yb v u->t o i v H Q ->
  wpAny (model X.prog X.w) X.A (setItem ov iv u) (fun _ s'=>∃ H',Inv X pins σ H' s'/\Q H') X.xe s
abbrev TIp:=V->V->Hp->VK->Prop
def PIp (X:Cx) (op:Operator) (t:TIp):Prop :=
 ∀ (pins:Zzx) (s:Shared) (σ:St) (H:Hp) (x y:V) (v u:Value) (Q:VK),Inv X pins σ H s->Yb x v->Yb y u->t x y H Q ->
  wpAny (model X.prog X.w) X.A (inplaceOp op v u) (EP X pins σ Q) X.xe s
section
variable {X:Cx} {pos:Pos}
def Z29 (i:Nat):TG:=fun v σ H Q=>Q (σ.set i (some v)) H
theorem Z92 {x:Str} (hN:X.N.Nodup) (hi:X.N[i]?=some x) (hx:B2 X.env.scope x) (hf:X.fn x=true\/X.env.scope.names.lookup x=some .local:=by first | exact .inl rfl | exact .inr rfl | assumption):PG X (.Name x pos) (Z29 i):=by
 intro pins s σ H v u Q I r h;exact wpAny_assign_Name (O8 I hN hi hx r (fun s' I'=>⟨_,H,I',h⟩) hf)
def Zht:TGs:=fun vs σ H Q=>vs=[]/\Q σ H
def Zfy (t:TG) (u:TGs):TGs:=fun vs σ H Q=>∃ v r,vs=v::r/\t v σ H fun σ' H'=>u r σ' H' Q
theorem Za9:PGs X [] Zht:=by
 intro pins s σ H vs us Q I r h;obtain ⟨e,h⟩:=h;subst e;cases r;exact assignInOrder_nil ⟨σ,H,I,h⟩
theorem Z5a {e:Expr} {t:TG} {u:TGs} (h1:PG X e t) (h2:PGs X es u)
  (hs:(assignEach (e::es) X.env).map (·.2)=assign e X.env::(assignEach es X.env).map (·.2):=by rfl):PGs X (e::es) (Zfy t u):=by
 intro pins s σ H vs us Q I r h;obtain ⟨v,vr,e1,h⟩:=h;subst e1;cases r with
 | cons r rr =>
  rw [hs];refine assignInOrder_cons (Wp (h1 pins s σ H _ _ _ I r h) fun _ s1 ⟨σ1,H1,I1,q1⟩=>?_);exact h2 pins s1 σ1 H1 _ _ Q I1 rr q1
def Zf5 (K:Zzy) (n:Nat) (t:TGs):TG:=fun v σ H Q=>∃ a xs,v=.ref a/\Ed K H a xs/\xs.length=n/\t xs σ H Q
theorem Zch {t:TGs} {n:Nat} (hc:X.calm=true) (h:PGs X es t)
  (hn:(assignEach es X.env).length=n:=by rfl) (hst:(assignEach es X.env).findIdx? (·.1)=none:=by rfl):PG X (.Tuple es k pos) (Zf5 X.K n t):=by
 intro pins s σ H v u Q I r hw;obtain ⟨a,xs,e1,hq,hl,hw⟩:=hw;subst e1;cases r;obtain ⟨its,rv,ht,hz⟩:=I.tuple hq;refine assign_Tuple_tuple (I.ok.hd hc) ht (by simp [hn,← hl,rv.length]) hst fun h' hx=>?_
 have I1:Inv X pins σ H { s with heap:=h' }:=I.kept (t':=s.toks) fun b o e=>hx b o (ne_of_lt (lt_size e)) e
 exact h pins _ σ H xs _ Q I1 (by simpa using rv) hw
def Zhy (to ti:TE) (t:Zbm):TG:=fun v σ H Q=>to σ H fun o H1=>ti σ H1 fun i H2=>t o i v H2 fun H3=>Q σ H3
theorem Zcd {o i:Expr} {to ti:TE} {t:Zbm} (ho:PE X o to) (hi:PE X i ti) (hs:Zfj X t)
  (ha:∀ v,assign (.Subscript o i pos) X.env v=(do
   let ov ← holding [v] (eval o X.env)
   let iv ← holding [v,ov] (eval i X.env)
   standAt pos
   holding [v,ov,iv] (setItem ov iv v)
   release [v,ov,iv] []):=by intro _;rfl):PG X (.Subscript o i pos) (Zhy to ti t):=by
 intro pins s σ H v u Q I r h;rw [ha];refine wpAny_bind (wpAny_holding (Wp (ho pins s σ H _ I h) fun ov s1 ⟨x,H1,I1,r1,q1⟩=>?_));refine wpAny_bind (wpAny_holding (Wp (hi pins s1 σ H1 _ I1 q1) fun iv s2 ⟨y,H2,I2,r2,q2⟩=>?_));refine wpAny_bind (wpAny_standAt (wpAny_bind (wpAny_holding (Wp (hs pins s2 σ H2 x y v ov iv u _ I2 r1 r2 r q2) fun _ s3 ⟨H3,I3,q3⟩=>?_))));exact wpAny_release ⟨σ,H3,I3,q3⟩
def Zcn (te:TE) (g:TG):TS:=fun D σ H=>te σ H fun x H1=>g x σ H1 D.nx
theorem Zcq {e:Expr} {te:TE} {g:TG} (he:PE X e te) (hg:PG X tg g) (hs:swapsWithSole [tg] e pos.line X.env=pure false:=by rfl) (hw:swappedStores [tg] e X.env=pure none:=by rfl)
  (h1:(assignEach [tg] X.env).map (·.2)=[assign tg X.env]:=by rfl):PS X (.Assign [tg] e pos) (Zcn te g):=by
 intro pins s σ H D I h;refine wpAny_Assign_stores (Wp (he pins s σ H _ I h) fun v s1 ⟨x,H1,I1,r1,q1⟩=>?_) hs hw;rw [h1];exact Wp (hg pins s1 σ H1 x v _ I1 r1 q1) fun _ s2 q=>q
theorem Ip {x:Str} {e:Expr} {te:TE} (hN:X.N.Nodup) (hi:X.N[i]?=some x) (hx:B2 X.env.scope x) (he:PE X e te) (hs:swapsWith e (some (.Name x pos')) pos.line X.env=pure false:=by rfl) (hf:X.fn x=true\/X.env.scope.names.lookup x=some .local:=by first | exact .inl rfl | exact .inr rfl | assumption) :
  PS X (.Assign [.Name x pos'] e pos) (Zcn te (Z29 i)):=by
 intro pins s σ H D I h;refine wpAny_Assign_Name (Wp (he pins s σ H _ I h) fun v s1 ⟨y,H1,I1,r1,q1⟩=>?_) hs;exact O8 I1 hN hi hx r1 (fun s2 I2=>⟨_,H1,I2,q1⟩) hf
def Zim (i:Nat) (te:TE) (ti:TIp):TS:=fun D σ H=>∃ x,σ[i]?=some (some x)/\te σ H fun y H1=>ti x y H1 fun z H2=>D.nx (σ.set i (some z)) H2
theorem Ze3 {x:Str} {e:Expr} {te:TE} {op:Operator} {ti:TIp} (hN:X.N.Nodup) (hi:X.N[i]?=some x) (hx:B2 X.env.scope x) (he:PE X e te) (ho:PIp X op ti) (hf:X.fn x=true\/X.env.scope.names.lookup x=some .local:=by first | exact .inl rfl | exact .inr rfl | assumption) :
  PS X (.AugAssign (.Name x pos') op e pos) (Zim i te ti):=by
 intro pins s σ H D I h;obtain ⟨v,e1,h⟩:=h;obtain ⟨m,hn,hl⟩:=I.loc;have vis:Vis X.env.scope x:=by rcases hx with k | k;exact .inl k;exact .inr (.inl k)
 obtain ⟨u,r,l⟩:=hl i x v hi e1 vis;refine wpAny_AugAssign_Name ?_;have go:wpAny (model X.prog X.w) X.A (eval e X.env) (fun w s₂=>wpAny (model X.prog X.w) X.A (inplaceOp op u w) (fun r s₃=>wpAny (model X.prog X.w) X.A (storeName X.env x r) (fun _=>SP X pins D .next) X.xe s₃) X.xe s₂) X.xe s:=by
  refine Wp (he pins s σ H _ I h) fun w s1 ⟨y,H1,I1,r1,q1⟩=>?_
  refine Wp (ho pins s1 σ H1 v y u w _ I1 r r1 q1) fun z s2 ⟨zv,H2,I2,r2,q2⟩=>?_
  exact O8 I2 hN hi hx r2 (fun s3 I3=>⟨_,H2,I3,q2⟩) hf
 rcases l with ⟨hk,hm⟩ | ⟨hk,c,hc,hcell⟩
 ·exact wpAny_loadName_local I.ok.kind hk hn hm go
 ·rcases hk with hk | hk
  ·exact wpAny_loadName_cell I.ok.kind hk hc hcell go
  ·rcases hx with k | k
   ·have:X.env.scope.names.lookup x=some .free:=hk
    rw [k] at this;cases this
   ·have:X.env.scope.names.lookup x=some .free:=hk
    rw [k] at this;cases this
def ipI (f:Int->Int->Int):TIp:=fun x y H Q=>∃ i j,x=.int i/\y=.int j/\Q (.int (f i j)) H
theorem Zbl:PIp X .Add (ipI fun i j=>i+j):=by
 intro pins s σ H x y v u Q I r1 r2 h;obtain ⟨i,j,e1,e2,q⟩:=h;subst e1;subst e2;obtain ⟨t,rfl⟩:=r1;obtain ⟨t',rfl⟩:=r2;exact iadd_int ⟨.int _,H,I.tok _,⟨_,rfl⟩,q⟩
def Zcv (c:TT) (tb:TS):TS:=fun D σ H=>∃ W:Nat->St->Hp->Prop,(∃ m,W m σ H)/\∀ m σ H,W m σ H ->
 c σ H fun b H1=>if b=true then ∃ N:St->Hp->Prop,(∀ σ' H',N σ' H'->∃ m',m'<m/\W m' σ' H')/\tb { D with nx:=N,ct:=N,bk:=D.nx } σ H1 else D.nx σ H1
theorem Z7g {c:Expr} {tc:TT} {tb:TS} (hp:PassesOwn (model X.prog X.w) X.A X.env X.xe) (hc:PT X c tc) (hb:Dh X body tb):PS X (.While c body [] pos) (Zcv tc tb):=by
 intro pins s σ H D I h;obtain ⟨W,⟨m0,w0⟩,turn⟩:=h;refine wpAny_While (codeAny_whileLoop (fun n s'=>∃ σ' H',Inv X pins σ' H' s'/\W n σ' H') ?_ m0 ⟨σ,H,I,w0⟩);rintro n s1 ⟨σ1,H1,I1,w1⟩;refine wpAny_passesOwn hp (Wp (hc pins s1 σ1 H1 _ I1 (turn n σ1 H1 w1)) fun b s2 ⟨H2,I2,q2⟩=>?_);cases b with
 | true =>
  obtain ⟨N,hN,q2⟩:=q2;rw [if_pos rfl];refine wpAny_passesOwn hp (Wp (hb pins s2 σ1 H2 _ I2 q2) fun f s3 q3=>?_);cases f with
  | next =>
   obtain ⟨σ3,H3,I3,n3⟩:=q3;obtain ⟨m',hm,w3⟩:=hN σ3 H3 n3;exact ⟨m',hm,σ3,H3,I3,w3⟩
  | cont =>
   obtain ⟨σ3,H3,I3,n3⟩:=q3;obtain ⟨m',hm,w3⟩:=hN σ3 H3 n3;exact ⟨m',hm,σ3,H3,I3,w3⟩
  | brk=>exact q3
  | ret v=>exact q3
 | false =>
  rw [if_neg Bool.false_ne_true];exact wpAny_execs_nil ⟨σ1,H2,I2,q2⟩
end
structure It where
 go:Nat->Hp->Prop
 yld:Nat->Hp->V->Hp->Prop
 stop:Nat->Hp->Prop
def E7 (X:Cx) (pins:Zzx) (H:Hp) (b:Addr):Prop :=
 H b=none/\b≠X.env.locals/\b∉X.fs/\(b∈X.ex\/X.s₀.heap.objs.size<=b)/\(∀ x c,X.env.cells.lookup x=some c->c≠b)/\∀ p∈X.pn++pins,p.1≠b
theorem Inv.fpOk {X:Cx} {σ:St} {H H':Hp} (I:Inv X pins σ H s) (hb:s.heap.objs.size<=b) (hn:H' b=none):E7 X pins H' b:=by
 refine ⟨hn,Nat.ne_of_gt (lt_of_lt_of_le I.lt hb),I.nofs hb,.inr (le_trans I.sz hb),fun x c e z=>?_,fun p hp z=>?_⟩
 ·obtain ⟨v,q⟩:=I.cell x c e
  exact absurd (lt_of_lt_of_le q.lt (by rw [z];exact hb)) (lt_irrefl _)
 ·exact absurd (lt_of_lt_of_le (lt_size (I.pin p hp).1) (by rw [z];exact hb)) (lt_irrefl _)
structure Turn (P:Program) (w:World) (K:Zzy) (tg:Expr) (J:It) (fp:List Addr) (it:Addr) (tn:Nat->Heap->Prop):Prop where
 mem:it∈fp
 obj:∀ i h,tn i h->∀ b∈fp,∃ o,h.get? b=some o/\∀ v,o.data≠.cell v
 keep:∀ i h h',tn i h->(∀ b∈fp,∀ o,h.get? b=some o->h'.get? b=some o)->tn i h'
 item:∀ (X:Cx),X.prog=P->X.w=w->X.K=K->X.calm=true->∀ (i:Nat) (pins:Zzx) (s:Shared) (σ:St) (H:Hp) (E:Zzz),Inv X pins σ H s->(∀ b∈fp,E7 X pins H b)->tn i s.heap->J.go i H ->
  wpAny (model P w) X.A (pyNext (.ref it)) (fun r s1=>∃ u,r=some u /\
   wpAny (model P w) X.A (letOwnedTupleGo tg (.ref it) u) (fun _ s2=>∃ x H',Inv X pins σ H' s2/\Yb x u/\J.yld i H x H'/\tn (i+1) s2.heap/\∀ b∈fp,H' b=none) E s1) E s
 done:∀ (X:Cx),X.prog=P->X.w=w->X.K=K->X.calm=true->∀ (i:Nat) (pins:Zzx) (s:Shared) (σ:St) (H:Hp) (E:Zzz),Inv X pins σ H s->(∀ b∈fp,E7 X pins H b)->tn i s.heap->J.stop i H ->
  wpAny (model P w) X.A (pyNext (.ref it)) (fun r s1=>r=none/\Inv X pins σ H s1) E s
 self:∀ (A:Around) (i:Nat) (s:Shared) (Q:Zzz) (E:Zzz),tn i s.heap->Q (.ref it) s->wpAny (model P w) A (pyIter (.ref it)) Q E s
abbrev TI:=St->Hp->(It->Hp->Prop)->Prop
def PIE (X:Cx) (pins:Zzx) (σ:St) (tg:Expr) (R:It->Hp->Prop) (itv:Value) (s2:Shared):Prop :=
 ∃ (it:Addr) (fp:List Addr) (tn:Nat->Heap->Prop) (J:It) (H':Hp),itv=.ref it/\Inv X pins σ H' s2/\Turn X.prog X.w X.K tg J fp it tn/\tn 0 s2.heap/\(∀ b∈fp,E7 X pins H' b)/\R J H'
def PI (X:Cx) (tg iter:Expr) (wi:TI):Prop :=
 ∀ (pins:Zzx) (s:Shared) (σ:St) (H:Hp) (R:It->Hp->Prop),Inv X pins σ H s->wi σ H R ->
  wpAny (model X.prog X.w) X.A (eval iter X.env) (fun v s1=>wpAny (model X.prog X.w) X.A (pyIter v) (PIE X pins σ tg R) X.xe s1) X.xe s
theorem Z1s {M:Model} {A:Around} {o:Obj} {n:String} {vs:Array Value} {Q:Unit->Shared->Prop} (ho:s.heap.get? it=some o) (hc:o.cls=.type n) (hd:o.data=.fields vs)
   (hn:["enumerate","zip","dict_itemiterator","dict_reverseitemiterator","odict_iterator","itertools.zip_longest","itertools.pairwise"].contains n=false) (hQ:Q () s):wpAny M A (letOwnedTupleGo tg (.ref it) u) Q E s:=by
 unfold letOwnedTupleGo;cases tg<;>first
   | exact wpAny_pure hQ
   | (cases u<;>first
       | exact wpAny_pure hQ
       | (refine wpAny_bind (wpAny_load ho ?_)
          rw [hc,hd];show wpAny M A (if (["enumerate","zip","dict_itemiterator","dict_reverseitemiterator","odict_iterator","itertools.zip_longest","itertools.pairwise"].contains n&&vs[0]?==some (rawInt _))=true then _ else _) Q E s;rw [if_neg (by intro h;rw [hn,Bool.false_and] at h;cases h)];exact wpAny_pure hQ))
def Itl (K:Zzy) (a:Addr):It :=
 ⟨fun i H=>∃ xs x,Dy K H a xs/\xs[i]?=some x,fun i H x H'=>H'=H/\∀ xs,Dy K H a xs->xs[i]?=some x,fun i H=>∃ xs,Dy K H a xs/\xs.length<=i⟩
def Itt (K:Zzy) (a:Addr):It :=
 ⟨fun i H=>∃ xs x,Ed K H a xs/\xs[i]?=some x,fun i H x H'=>H'=H/\∀ xs,Ed K H a xs->xs[i]?=some x,fun i H=>∃ xs,Ed K H a xs/\xs.length<=i⟩
def Itr (lo:Int) (n:Nat):It:=⟨fun i _=>i<n,fun i H x H'=>H'=H/\x=.int (lo+i),fun i _=>n<=i⟩
theorem Z3c (a it:Addr):Turn P w K tg (Itl K a) [it] it (fun i h=>h.IsListIter it a i) where
 mem:=by simp
 obj:=fun i h st b hb=>by
  have e:b=it:=by simpa using hb
  subst e;obtain ⟨o,e,c,d⟩:=st;exact ⟨o,e,fun v z=>by rw [d] at z;cases z⟩
 keep:=fun i h h' st k=>st.at fun o e=>k it (by simp) o e
 item:=by
  intro X hP hw hK hc i pins s σ H E I hf st hg;subst hP hw hK;obtain ⟨xs,x,hq,hx⟩:=hg;obtain ⟨its,rv,p,hz⟩:=I.list hq;obtain ⟨u,hu,ru⟩:=rv.get hx;obtain ⟨f0,f1,f2,f3,f4,f5⟩:=hf it (by simp);refine wpAny_pyNext_list_item st p.isList (x:=u) (by simpa using hu) fun h' st' sb=>?_
  have I1:Inv X pins σ H { s with heap:=h' }:=I.turned (t':=s.toks) (fun b o hb e=>(sb.2 b hb).trans e) f0 f1 f3 f4 f5;obtain ⟨o,e,c,d⟩:=id st';exact ⟨u,rfl,Z1s (s:={ s with heap:=h' }) e c d (by decide) ⟨x,H,I1,ru,⟨rfl,fun ys hy=>by rw [I.list_inj hy hq];exact hx⟩,st',fun b hb=>(hf b hb).1⟩⟩
 done:=by
  intro X hP hw hK hc i pins s σ H E I hf st hg;subst hP hw hK;obtain ⟨xs,hq,hx⟩:=hg;obtain ⟨its,rv,p,hz⟩:=I.list hq;obtain ⟨f0,f1,f2,f3,f4,f5⟩:=hf it (by simp);have hl:=rv.length;exact wpAny_pyNext_list_end (I.ok.hd hc) st p.isList (by simp;lia) fun h' eb=>⟨rfl,I.turned (t':=s.toks) (fun b o hb e=>eb b o hb e) f0 f1 f3 f4 f5⟩
 self:=fun _ _ _ _ _ st h=>wpAny_pyIter_listiter st h
theorem Z0x (a it:Addr):Turn P w K tg (Itt K a) [it] it (fun i h=>h.IsTupleIter it a i) where
 mem:=by simp
 obj:=fun i h st b hb=>by
  have e:b=it:=by simpa using hb
  subst e;obtain ⟨o,e,c,d⟩:=st;exact ⟨o,e,fun v z=>by rw [d] at z;cases z⟩
 keep:=fun i h h' st k=>st.at fun o e=>k it (by simp) o e
 item:=by
  intro X hP hw hK hc i pins s σ H E I hf st hg;subst hP hw hK;obtain ⟨xs,x,hq,hx⟩:=hg;obtain ⟨its,rv,p,hz⟩:=I.tuple hq;obtain ⟨u,hu,ru⟩:=rv.get hx;obtain ⟨f0,f1,f2,f3,f4,f5⟩:=hf it (by simp);refine wpAny_pyNext_tuple_item st (show s.heap.IsTuple a its.toArray from p) (x:=u) (by simpa using hu) fun h' st' sb=>?_
  have I1:Inv X pins σ H { s with heap:=h' }:=I.turned (t':=s.toks) (fun b o hb e=>(sb.2 b hb).trans e) f0 f1 f3 f4 f5;obtain ⟨o,e,c,d⟩:=id st';exact ⟨u,rfl,Z1s (s:={ s with heap:=h' }) e c d (by decide) ⟨x,H,I1,ru,⟨rfl,fun ys hy=>by rw [I.tuple_inj hy hq];exact hx⟩,st',fun b hb=>(hf b hb).1⟩⟩
 done:=by
  intro X hP hw hK hc i pins s σ H E I hf st hg;subst hP hw hK;obtain ⟨xs,hq,hx⟩:=hg;obtain ⟨its,rv,p,hz⟩:=I.tuple hq;obtain ⟨f0,f1,f2,f3,f4,f5⟩:=hf it (by simp);have hl:=rv.length;exact wpAny_pyNext_tuple_end (I.ok.hd hc) st (show s.heap.IsTuple a its.toArray from p) (by simp;lia) fun h' eb=>⟨rfl,I.turned (t':=s.toks) (fun b o hb e=>eb b o hb e) f0 f1 f3 f4 f5⟩
 self:=fun _ _ _ _ _ st h=>wpAny_pyIter_tupleiter st h
theorem Z12 (it:Addr) (lo:Int) (n:Nat):Turn P w K tg (Itr lo n) [it] it (fun i h=>IsRangeIter h it (lo+(i:Nat)*1) ((n:Int) - (i:Nat)) 1) where
 mem:=by simp
 obj:=fun i h st b hb=>by
  have e:b=it:=by simpa using hb
  subst e;exact ⟨_,st,fun v z=>by
   have z':Data.fields _=Data.cell v:=z;cases z'⟩
 keep:=fun i h h' st k=>k it (by simp) _ st
 item:=by
  intro X hP hw hK hc i pins s σ H E I hf st hg;subst hP hw hK;obtain ⟨f0,f1,f2,f3,f4,f5⟩:=hf it (by simp);have W:=Walks.range (prog:=X.prog) (w:=X.w) (I.ok.hd hc) it lo 1 n;refine W.item i s _ _ hg st fun v h' tk hv st' kk=>?_
  obtain ⟨t,rfl⟩:=hv;have I1:Inv X pins σ H { s with heap:=h',toks:=tk }:=I.turned (fun b o hb e=>kk b o (by simpa using hb) e) f0 f1 f3 f4 f5;refine ⟨_,rfl,Z1s (s:={ s with heap:=h',toks:=tk }) (n:="range_iterator") st' rfl rfl (by decide) ⟨.int (lo+i),H,I1,⟨t,?_⟩,⟨rfl,rfl⟩,st',fun b hb=>(hf b hb).1⟩⟩;rw [Int.mul_one]
 done:=by
  intro X hP hw hK hc i pins s σ H E I hf st hg;subst hP hw hK;obtain ⟨f0,f1,f2,f3,f4,f5⟩:=hf it (by simp);exact wpAny_pyNext_range_end (I.ok.hd hc) st (by have:n<=i:=hg;lia) fun h' eb=>⟨rfl,I.turned (t':=s.toks) (fun b o hb e=>eb b o hb e) f0 f1 f3 f4 f5⟩
 self:=fun _ _ _ _ _ st h=>wpAny_pyIter_rangeiter st h
section
variable {X:Cx} {tg:Expr}
def Zbf (K:Zzy) (tl:TE):TI:=fun σ H R=>tl σ H fun x H1=>∃ a,x=.ref a/\(∃ xs,Dy K H1 a xs)/\R (Itl K a) H1
def Zgn (K:Zzy) (tl:TE):TI:=fun σ H R=>tl σ H fun x H1=>∃ a,x=.ref a/\(∃ xs,Ed K H1 a xs)/\R (Itt K a) H1
theorem Z9h {l:Expr} {tl:TE} (hl:PE X l tl):PI X tg l (Zbf X.K tl):=by
 intro pins s σ H R I h;refine Wp (hl pins s σ H _ I h) fun v s1 ⟨x,H1,I1,r1,q1⟩=>?_
 obtain ⟨a,e,⟨xs,hq⟩,q⟩:=q1;subst e;cases r1;obtain ⟨its,rv,p,hz⟩:=I1.list hq;refine wpAny_pyIter_list p.isList ?_;refine ⟨s1.heap.objs.size,[s1.heap.objs.size],_,_,H1,rfl,I1.kept (t':=s1.toks) fun b o e=>get?_push_of_some _ e,Z3c a _,⟨_,get?_push_size _ rfl,rfl,rfl⟩,fun b hb=>?_,q⟩;have e:b=s1.heap.objs.size:=by simpa using hb
 subst e;exact I1.fpOk (le_refl _) (I1.hok.fresh (le_refl _))
theorem Zem {l:Expr} {tl:TE} (hl:PE X l tl):PI X tg l (Zgn X.K tl):=by
 intro pins s σ H R I h;refine Wp (hl pins s σ H _ I h) fun v s1 ⟨x,H1,I1,r1,q1⟩=>?_
 obtain ⟨a,e,⟨xs,hq⟩,q⟩:=q1;subst e;cases r1;obtain ⟨its,rv,p,hz⟩:=I1.tuple hq;refine wpAny_pyIter_tuple (show s1.heap.IsTuple a its.toArray from p) ?_;refine ⟨s1.heap.objs.size,[s1.heap.objs.size],_,_,H1,rfl,I1.kept (t':=s1.toks) fun b o e=>get?_push_of_some _ e,Z0x a _,⟨_,get?_push_size _ rfl,rfl,rfl⟩,fun b hb=>?_,q⟩;have e:b=s1.heap.objs.size:=by simpa using hb
 subst e;exact I1.fpOk (le_refl _) (I1.hok.fresh (le_refl _))
theorem B5 {σ:St} {H:Hp} {R:It->Hp->Prop} {lo hi:Int} {t u v:Tok} (I:Inv X pins σ H s) (h1 : -(2^62)<=lo) (h2:lo<2^62) (h3 : -(2^62)<=hi) (h4:hi<2^62)
  (q:R (Itr lo (hi - lo).toNat) H):wpAny (model X.prog X.w) X.A (pyIter (.ref s.heap.objs.size)) (PIE X pins σ tg R) E { s with heap:=s.heap.push { cls:=.type "range",data:=.fields #[.int lo t,.int hi u,.int 1 v] },toks:=tk }:=by
 refine wpAny_pyIter_range (IsRange.new ..) (small_one h1 h2 h3 h4) ?_;have I1:Inv X pins σ H { s with heap:=s.heap.push { cls:=.type "range",data:=.fields #[.int lo t,.int hi u,.int 1 v] },toks:=tk }:=I.kept fun b o e=>get?_push_of_some _ e
 refine ⟨(s.heap.push { cls:=.type "range",data:=.fields #[.int lo t,.int hi u,.int 1 v] }).objs.size,[(s.heap.push { cls:=.type "range",data:=.fields #[.int lo t,.int hi u,.int 1 v] }).objs.size],_,_,H,rfl,
  I1.kept (t':=tk) fun b o e=>get?_push_of_some _ e,Z12 _ lo (hi - lo).toNat,?_,fun b hb=>?_,q⟩
 ·have e1:lo+((0:Nat):Int)*1=lo:=by simp
  have e2:(((hi - lo).toNat:Nat):Int) - ((0:Nat):Int)=Builtin.Range.rangeSize lo hi 1:=by rw [rangeSize_one];split<;>lia
  show IsRangeIter _ _ (lo+((0:Nat):Int)*1) ((((hi - lo).toNat:Nat):Int) - ((0:Nat):Int)) 1;rw [e1,e2];exact get?_push_size _ rfl
 ·have e:b=(s.heap.push { cls:=.type "range",data:=.fields #[.int lo t,.int hi u,.int 1 v] }).objs.size:=by simpa using hb
  subst e;exact I1.fpOk (le_refl _) (I1.hok.fresh (le_refl _))
def Zgw (ta:TA):TI:=fun σ H R=>ta σ H fun vs H1=>∃ j:Int,vs=[.int j]/\-(2^62)<=j/\j<2^62/\R (Itr 0 j.toNat) H1
def Zgp (ta:TA):TI:=fun σ H R=>ta σ H fun vs H1=>∃ i j:Int,vs=[.int i,.int j]/\(-(2^62)<=i/\i<2^62/\-(2^62)<=j/\j<2^62)/\R (Itr i (j - i).toNat) H1
theorem Z38 {a:Expr} {ta:TA} (hg:Gl X "range") (hm:X.mg "range" = none) (ha:PA X [a] ta) (hs:starEach [a] X.env=[(false,eval a X.env)]:=by rfl):PI X tg (.Call (.Name "range" p) [a] [] pos) (Zgw ta):=by
 intro pins s σ H R I h;refine Call_ (Sa I hg hm boot_range (PyProof.Rows.callWith_type1 (Wp (ha pos pins s σ H _ I h) fun us s1 ⟨vs,H1,I1,r1,q1⟩=>?_) hs rfl));obtain ⟨j,e,q1,q2,q⟩:=q1;subst e;cases r1 with
 | cons r rr =>
  cases rr;obtain ⟨t,rfl⟩:=r;exact call_range_1 (B5 I1 (by lia) (by lia) q1 q2 (by simpa using q))
theorem Z4p {a b:Expr} {ta:TA} (hg:Gl X "range") (hm:X.mg "range" = none) (ha:PA X [a,b] ta) (hs:starEach [a,b] X.env=[(false,eval a X.env),(false,eval b X.env)]:=by rfl) (hs2:starEach [b] X.env=[(false,eval b X.env)]:=by rfl) :
  PI X tg (.Call (.Name "range" p) [a,b] [] pos) (Zgp ta):=by
 intro pins s σ H R I h;refine Call_ (Sa I hg hm boot_range (PyProof.Rows.callWith_type1 (Wp (ha pos pins s σ H _ I h) fun us s1 ⟨vs,H1,I1,r1,q1⟩=>?_) (by rw [hs,hs2]) (by rw [hs2];rfl)));obtain ⟨i,j,e,⟨q1,q2,q3,q4⟩,q⟩:=q1;subst e;cases r1 with
 | cons r rr =>
  cases rr with
  | cons r' rr =>
   cases rr;obtain ⟨t,rfl⟩:=r;obtain ⟨t',rfl⟩:=r';exact call_range_2 (B5 I1 q1 q2 q3 q4 q)
def Zhs (wi:TI) (g:TG) (tb:TS):TS:=fun D σ H=>wi σ H fun J H1=>∃ W:Nat->Nat->St->Hp->Prop,(∃ m,W 0 m σ H1)/\∀ i m σ H,W i m σ H ->
 (J.stop i H/\D.nx σ H)\/(J.go i H/\∃ N:St->Hp->Prop,(∀ σ' H',N σ' H'->∃ m',m'<m/\W (i+1) m' σ' H')/\∀ x H',J.yld i H x H'->g x σ H' fun σ2 H2=>tb { D with nx:=N,ct:=N,bk:=D.nx } σ2 H2)
def Ng (fp:List Addr) (h:Heap):List (Addr×Obj):=fp.filterMap fun b=>(h.get? b).map fun o=>(b,o)
theorem Rl {fp:List Addr} {o:Obj} (hb:b∈fp) (e:h.get? b=some o):(b,o)∈Ng fp h:=List.mem_filterMap.mpr ⟨b,hb,by rw [e];rfl⟩
theorem Z3s {fp:List Addr} {p:Addr×Obj} (hp:p∈Ng fp h):p.1∈fp/\h.get? p.1=some p.2:=by
 obtain ⟨b,hb,e⟩:=List.mem_filterMap.mp hp;cases q:h.get? b with
 | none=>rw [q] at e;cases e
 | some o =>
  rw [q] at e;have e':(b,o)=p:=Option.some.inj e;subst e';exact ⟨hb,q⟩
theorem Inv.pinned {σ:St} {H:Hp} {fp:List Addr} (I:Inv X pins σ H s) (hf:∀ b∈fp,E7 X pins H b) (ho:∀ b∈fp,∃ o,s.heap.get? b=some o/\∀ v,o.data≠.cell v):Inv X (pins++Ng fp s.heap) σ H s :=
 I.pins_of fun p hp=>(mem_append.mp hp).elim (fun z=>I.pin p (mem_append_right _ z)) fun z=>by
  obtain ⟨hb,e⟩:=Z3s z;obtain ⟨f0,f1,f2,_⟩:=hf p.1 hb;obtain ⟨o,e',d⟩:=ho p.1 hb;rw [e] at e';cases e';exact ⟨e,f0,f1,f2,d⟩
theorem Inv.unpinned {pl:Zzx} {σ:St} {H:Hp} (I:Inv X (pins++pl) σ H s):Inv X pins σ H s:=I.pins_of fun p hp=>I.pin p (mem_append_right _ (mem_append_left _ hp))
theorem Zcf {wi:TI} {g:TG} {tb:TS} (hp:PassesOwn (model X.prog X.w) X.A X.env X.xe) (hc:X.calm=true) (hi:PI X tg iter wi) (hg:PG X tg g) (hb:Dh X body tb)
  (hs:∀ x,foldedSetIterable iter X.env x=pure x:=by intro _;rfl):PS X (.For tg iter body [] pos) (Zhs wi g tb):=by
 intro pins s σ H D I h;refine wpAny_For (Wp (hi pins s σ H _ I h) fun v s1 h1=>Wp h1 fun itv s2 h2=>?_) hs;obtain ⟨it,fp,tn,J,H2,e,I2,T,st2,f2,W,⟨m0,w0⟩,turn⟩:=h2;subst e
 -- what stays true of the iterator's objects through the loop
 have stat:∀ {H':Hp},(∀ b∈fp,H' b=none)->∀ b∈fp,E7 X pins H' b:=fun hn b hb=>⟨hn b hb,(f2 b hb).2⟩
 refine codeAny_forLoop_any (fun n s'=>∃ i σ' H',Inv X pins σ' H' s'/\tn i s'.heap/\(∀ b∈fp,H' b=none)/\W i n σ' H') ?_ m0 ⟨0,σ,H2,I2,st2,fun b hb=>(f2 b hb).1,w0⟩;rintro n s3 ⟨i,σ3,H3,I3,st3,fr3,w3⟩;rcases turn i n σ3 H3 w3 with ⟨stop,qn⟩ | ⟨go,N,hN,step⟩
 ·refine wpAny_passesOwn hp (Wp (T.done X rfl rfl rfl hc i pins s3 σ3 H3 X.xe I3 (stat fr3) st3 stop) fun r s4 ⟨hr,I4⟩=>?_)
  subst hr;exact wpAny_execs_nil ⟨σ3,H3,I4,qn⟩
 ·refine wpAny_passesOwn hp (Wp (T.item X rfl rfl rfl hc i pins s3 σ3 H3 X.xe I3 (stat fr3) st3 go) fun r s4 ⟨u,hr,h4⟩=>?_)
  subst hr;refine wpAny_passesOwn hp (Wp h4 fun _ s5 ⟨x,H5,I5,r5,y5,st5,fr5⟩=>?_);have I5':=I5.pinned (stat fr5) (T.obj _ _ st5);refine wpAny_passesOwn hp (Wp (hg _ s5 σ3 H5 x u _ I5' r5 (step x H5 y5)) fun _ s6 ⟨σ6,H6,I6,q6⟩=>?_);refine wpAny_passesOwn hp (Wp (hb _ s6 σ6 H6 _ I6 q6) fun f s7 q7=>?_);have again:∀ {σ7:St} {H7:Hp},Inv X (pins++Ng fp s5.heap) σ7 H7 s7->N σ7 H7->∃ m,m<n/\∃ i σ' H',Inv X pins σ' H' s7/\tn i s7.heap/\(∀ b∈fp,H' b=none)/\W i m σ' H':=fun {σ7 H7} I7 n7=>by
   obtain ⟨m',hm,w7⟩:=hN σ7 H7 n7;refine ⟨m',hm,i+1,σ7,H7,I7.unpinned,T.keep _ _ _ st5 fun b hb o e=>(I7.pin (b,o) (mem_append_right _ (mem_append_right _ (Rl hb e)))).1,fun b hb=>?_,w7⟩;obtain ⟨o,e,d⟩:=T.obj _ _ st5 b hb;exact (I7.pin (b,o) (mem_append_right _ (mem_append_right _ (Rl hb e)))).2.1
  cases f with
  | next=>obtain ⟨σ7,H7,I7,n7⟩:=q7;exact again I7 n7
  | cont=>obtain ⟨σ7,H7,I7,n7⟩:=q7;exact again I7 n7
  | brk=>obtain ⟨σ7,H7,I7,q7⟩:=q7;exact ⟨σ7,H7,I7.unpinned,q7⟩
  | ret v=>obtain ⟨x7,σ7,H7,I7,r7,q7⟩:=q7;exact ⟨x7,σ7,H7,I7.unpinned,r7,q7⟩
end
abbrev R2:=V->V->Hp->VK->Prop
def E5 (X:Cx) (f:Value->Value->Sem Value) (r:R2):Prop :=
 ∀ (pins:Zzx) (s:Shared) (σ:St) (H:Hp) (x y:V) (v u:Value) (Q:VK),Inv X pins σ H s->Yb x v->Yb y u->r x y H Q ->
  wpAny (model X.prog X.w) X.A (f v u) (EP X pins σ Q) X.xe s
def UnR (X:Cx) (f:Value->Sem Value) (r:V->Hp->VK->Prop):Prop :=
 ∀ (pins:Zzx) (s:Shared) (σ:St) (H:Hp) (x:V) (v:Value) (Q:VK),Inv X pins σ H s->Yb x v->r x H Q ->
  wpAny (model X.prog X.w) X.A (f v) (EP X pins σ Q) X.xe s
def Vc (X:Cx) (f:Value) (r:List V->Hp->VK->Prop):Prop :=
 ∀ (pins:Zzx) (s:Shared) (σ:St) (H:Hp) (xs:List V) (us:List Value) (Q:VK),Inv X pins σ H s->Zx xs us->r xs H Q ->
  wpAny (model X.prog X.w) X.A (call f us) (EP X pins σ Q) X.xe s
def Zj3 (X:Cx) (r:V->Hp->(Bool->Hp->Prop)->Prop):Prop :=
 ∀ (pins:Zzx) (s:Shared) (σ:St) (H:Hp) (x:V) (v:Value) (Q:Bool->Hp->Prop),Inv X pins σ H s->Yb x v->r x H Q ->
  wpAny (model X.prog X.w) X.A (truthy v) (TP X pins σ Q) X.xe s
def tOp (r:R2) (ta tb:TE):TE:=fun σ H Q=>ta σ H fun x H1=>tb σ H1 fun y H2=>r x y H2 Q
def tUn (r:V->Hp->VK->Prop) (ta:TE):TE:=fun σ H Q=>ta σ H fun x H1=>r x H1 Q
def rI (C:Int->Int->Prop) (g:Int->Int->V):R2:=fun x y H Q=>∃ i j,x=.int i/\y=.int j/\C i j/\Q (g i j) H
def rI0 (g:Int->Int->V):R2:=fun x y H Q=>∃ i j,x=.int i/\y=.int j/\Q (g i j) H
def rU (g:Int->V):V->Hp->VK->Prop:=fun x H Q=>∃ i,x=.int i/\Q (g i) H
section
variable {X:Cx} {a b c:Expr} {ta tb tc:TE} {pos:Pos}
theorem Ze9 (ha:PE X a ta) (hb:PE X b tb) {σ:St} {H:Hp} {R:V->V->Hp->Prop} (I:Inv X pins σ H s)
  (h:ta σ H fun x H1=>tb σ H1 fun y H2=>R x y H2) {Q:Zzz} {f:Value->Value->Sem Value}
  (hf:∀ v u s2 x y H2,Inv X pins σ H2 s2->Yb x v->Yb y u->R x y H2->wpAny (model X.prog X.w) X.A (f v u) Q X.xe s2) :
  wpAny (model X.prog X.w) X.A (eval a X.env) (fun v s₁=>wpAny (model X.prog X.w) X.A (eval b X.env) (fun u s₂=>wpAny (model X.prog X.w) X.A (f v u) Q X.xe s₂) X.xe s₁) X.xe s:=by
 refine Wp (ha pins s σ H _ I h) fun v s1 ⟨x,H1,I1,r1,q1⟩=>?_
 refine Wp (hb pins s1 σ H1 _ I1 q1) fun u s2 ⟨y,H2,I2,r2,q2⟩=>?_
 exact hf v u s2 x y H2 I2 r1 r2 q2
theorem Zax {op:Operator} {r:R2} (ho:E5 X (binaryOp op) r) (ha:PE X a ta) (hb:PE X b tb):PE X (.BinOp a op b pos) (tOp r ta tb):=by
 intro pins s σ H Q I h;exact wpAny_BinOp (Ze9 ha hb I h fun v u s2 x y H2 I2 rx ry q=>ho pins s2 σ H2 x y v u Q I2 rx ry q)
theorem Zg2 {op:UnaryOp} {r:V->Hp->VK->Prop} (ho:UnR X (unaryOp op) r) (ha:PE X a ta):PE X (.UnaryOp op a pos) (tUn r ta):=by
 intro pins s σ H Q I h;exact UnaryOp_ (Wp (ha pins s σ H _ I h) fun v s1 ⟨x,H1,I1,r1,q1⟩=>ho pins s1 σ H1 x v Q I1 r1 q1)
theorem opI {f:Value->Value->Sem Value} {C:Int->Int->Prop} {g:Int->Int->Int}
  (rule:∀ (i j:Int) (t u:Tok) (s:Shared) (Q:Zzz) (E:Zzz),C i j->Q (.int (g i j) s.toks) { s with toks:=s.toks+1 }->wpAny (model X.prog X.w) X.A (f (.int i t) (.int j u)) Q E s) :
  E5 X f (rI C fun i j=>.int (g i j)):=by
 intro pins s σ H x y v u Q I rx ry h;obtain ⟨i,j,rfl,rfl,hc,q⟩:=h;obtain ⟨t,rfl⟩:=rx;obtain ⟨t',rfl⟩:=ry;exact rule i j t t' s _ _ hc ⟨.int (g i j),H,I.tok _,⟨_,rfl⟩,q⟩
theorem Z69 {f:Value->Value->Sem Value} {g:Int->Int->Int}
  (rule:∀ (i j:Int) (t u:Tok) (s:Shared) (Q:Zzz) (E:Zzz),Q (.int (g i j) s.toks) { s with toks:=s.toks+1 }->wpAny (model X.prog X.w) X.A (f (.int i t) (.int j u)) Q E s) :
  E5 X f (rI0 fun i j=>.int (g i j)):=by
 intro pins s σ H x y v u Q I rx ry h;obtain ⟨i,j,rfl,rfl,q⟩:=h;obtain ⟨t,rfl⟩:=rx;obtain ⟨t',rfl⟩:=ry;exact rule i j t t' s _ _ ⟨.int (g i j),H,I.tok _,⟨_,rfl⟩,q⟩
theorem Zeb {f:Value->Value->Sem Value} {g:Int->Int->Bool}
  (rule:∀ (i j:Int) (t u:Tok) (s:Shared) (Q:Zzz) (E:Zzz),Q (.bool (g i j)) s->wpAny (model X.prog X.w) X.A (f (.int i t) (.int j u)) Q E s) :
  E5 X f (rI0 fun i j=>.bl (g i j)):=by
 intro pins s σ H x y v u Q I rx ry h;obtain ⟨i,j,rfl,rfl,q⟩:=h;obtain ⟨t,rfl⟩:=rx;obtain ⟨t',rfl⟩:=ry;exact rule i j t t' s _ _ ⟨.bl (g i j),H,I,rfl,q⟩
def Z73 (i j:Int):Prop:=0<j/\j<1073741824
def Za3 (i j:Int):Prop:=0<=j/\j<=1000000/\i.natAbs<2^64
def Z0z (i j:Int):Prop:=(-(2^64)<i/\i<2^64)\/(-(2^64)<j/\j<2^64)
theorem Z0z.ok {i j:Int} (h:Z0z i j):IntMulOk i j:=by
 rcases h with ⟨h1,h2⟩ | ⟨h1,h2⟩
 ·exact .of_left (intBits_le_64 h1 h2)
 ·exact .of_right (intBits_le_64 h1 h2)
theorem Z0i (k:Nat):(0:Int)<=2^k:=by
 rw [two_pow_cast];exact Int.natCast_nonneg _
theorem Zdd:E5 X (binaryOp .Add) (rI0 fun i j=>.int (i+j)):=Z69 fun _ _ _ _ _ _ _ q=>add_int q
theorem Zdj:E5 X (binaryOp .Sub) (rI0 fun i j=>.int (i - j)):=Z69 fun _ _ _ _ _ _ _ q=>sub_int q
theorem Zbn:E5 X (binaryOp .Mult) (rI Z0z fun i j=>.int (i*j)):=opI fun _ _ _ _ _ _ _ hc q=>mul_int q hc.ok
theorem Zag:E5 X (binaryOp .FloorDiv) (rI Z73 fun i j=>.int (i / j)):=opI fun i j _ _ _ _ _ hc q=>by
 have h1:(0:Int)<j:=hc.1;have h2:j<1073741824:=hc.2;exact floordiv_int (by lia) (by rw [Int.fdiv_eq_ediv_of_nonneg i (by lia)];exact q) (.inl (PyProof.noPylong_small (by lia)))
theorem Zd1:E5 X (binaryOp .Mod) (rI (fun _ j=>0<j) fun i j=>.int (i % j)):=opI fun i j _ _ _ _ _ hc q=>by
 have h1:(0:Int)<j:=hc;exact mod_int' (by lia) (by rw [Int.fmod_eq_emod_of_nonneg i (by lia)];exact q)
theorem Zd5:E5 X (binaryOp .LShift) (rI Za3 fun i j=>.int (i*2^j.toNat)):=opI fun _ _ _ _ _ _ _ hc q=>lshift_int_small hc.1 hc.2.1 hc.2.2 q
theorem Zck:E5 X (binaryOp .RShift) (rI (fun _ j=>0<=j) fun i j=>.int (i / 2^j.toNat)):=opI fun i j _ _ _ _ _ hc q =>
 rshift_int hc (by rw [Int.fdiv_eq_ediv_of_nonneg i (Z0i _)];exact q)
theorem Zc3:E5 X (binaryOp .BitAnd) (rI0 fun i j=>.int (Builtin.bitAnd i j)):=Z69 fun _ _ _ _ _ _ _ q=>and_int q
theorem Zfv:E5 X (binaryOp .BitOr) (rI0 fun i j=>.int (Builtin.bitOr i j)):=Z69 fun _ _ _ _ _ _ _ q=>or_int q
theorem Ze6:E5 X (binaryOp .BitXor) (rI0 fun i j=>.int (Builtin.bitXor i j)):=Z69 fun _ _ _ _ _ _ _ q=>xor_int q
theorem unI {f:Value->Sem Value} {g:Int->Int}
  (rule:∀ (i:Int) (t:Tok) (s:Shared) (Q:Zzz) (E:Zzz),Q (.int (g i) s.toks) { s with toks:=s.toks+1 }->wpAny (model X.prog X.w) X.A (f (.int i t)) Q E s) :
  UnR X f (rU fun i=>.int (g i)):=by
 intro pins s σ H x v Q I rx h;obtain ⟨i,rfl,q⟩:=h;obtain ⟨t,rfl⟩:=rx;exact rule i t s _ _ ⟨.int (g i),H,I.tok _,⟨_,rfl⟩,q⟩
theorem Zco:UnR X (unaryOp .USub) (rU fun i=>.int (-i)):=unI fun _ _ _ _ _ q=>neg_int q
theorem Zdr:UnR X (unaryOp .Invert) (rU fun i=>.int (Builtin.bitNot i)):=unI fun _ _ _ _ _ q=>invert_int q
theorem Z0j {σ:St} {H:Hp} {Q:VK} {k k':Bool} (I:Inv X pins σ H s) (q:Q (.bl k) H) (e:k=k'):EP X pins σ Q (.bool k') s:=by
 subst e;exact ⟨.bl k,H,I,rfl,q⟩
theorem Zgy:E5 X (compareOp .Lt) (rI0 fun i j=>.bl (decide (i<j))):=Zeb fun _ _ _ _ _ _ _ q=>lt_int q
theorem Zfd:E5 X (compareOp .Gt) (rI0 fun i j=>.bl (decide (j<i))):=Zeb fun _ _ _ _ _ _ _ q=>gt_int q
theorem Zh1:E5 X (compareOp .GtE) (rI0 fun i j=>.bl (decide (j<=i))):=Zeb fun _ _ _ _ _ _ _ q=>ge_int q
theorem Z3l:E5 X (compareOp .In) (fun x y H Q=>∃ i j,x=.str i/\y=.str j/\Q (.bl (!(Builtin.Str.occurrences j i 0 j.length 1).isEmpty)) H):=by
 intro pins s σ H x y v u Q I rx ry h;obtain ⟨i,j,rfl,rfl,q⟩:=h;obtain ⟨t,rfl⟩:=rx;obtain ⟨t',rfl⟩:=ry;exact in_str (Z0j I q rfl)
theorem Zc5:E5 X (compareOp .Is) (fun x y H Q=>y=.non/\Q (.bl (decide (x=.non))) H):=by
 intro pins s σ H x y v u Q I rx ry h;obtain ⟨rfl,q⟩:=h;cases ry;refine is_none_gen (Z0j I q ?_);cases x<;>first
   | (cases rx;rfl)
   | (obtain ⟨t,rfl⟩:=rx;rfl)
theorem Z9q:E5 X (compareOp .IsNot) (fun x y H Q=>y=.non/\Q (.bl (!decide (x=.non))) H):=by
 intro pins s σ H x y v u Q I rx ry h;obtain ⟨rfl,q⟩:=h;cases ry;refine isnot_none_gen (Z0j I q ?_);cases x<;>first
   | (cases rx;rfl)
   | (obtain ⟨t,rfl⟩:=rx;rfl)
theorem Ya (b:Expr) (h:op≠.In:=by decide) (h2:op≠.NotIn:=by decide):behindInMarks op b=false:=by
 have e1:(op==CmpOp.In)=false:=by cases op<;>first | rfl | exact absurd rfl h
 have e2:(op==CmpOp.NotIn)=false:=by cases op<;>first | rfl | exact absurd rfl h2
 cases b<;>simp [behindInMarks,e1,e2]
theorem Z9a {r:R2} (ho:E5 X (compareOp op) r) (ha:PE X a ta) (hb:PE X b tb) (hm:behindInMarks op b=false):PE X (.Compare a [op] [b] pos) (tOp r ta tb):=by
 intro pins s σ H Q I h;exact wpAny_Compare1 (Ze9 ha hb I h fun v u s2 x y H2 I2 rx ry q=>ho pins s2 σ H2 x y v u Q I2 rx ry q) hm
def Zgg (t:TE):TT:=fun σ H Q=>t σ H fun x H'=>∃ k,x=.bl k/\Q k H'
theorem Z1j {r:R2} (ho:E5 X (compareOp op) r) (ha:PE X a ta) (hb:PE X b tb) (hm:behindInMarks op b=false):PT X (.Compare a [op] [b] pos) (Zgg (tOp r ta tb)):=by
 intro pins s σ H Q I h;refine wpAny_isTrue_Compare1 (Wp (ha pins s σ H _ I h) fun v s1 ⟨x,H1,I1,r1,q1⟩=>Wp (hb pins s1 σ H1 _ I1 q1) fun u s2 ⟨y,H2,I2,r2,q2⟩ =>
  Wp (ho pins s2 σ H2 x y v u _ I2 r1 r2 q2) fun c s3 ⟨z,H3,I3,r3,k,e,q3⟩=>?_) hm
 subst e;cases r3;exact wpAny_truthy_bool ⟨H3,I3,q3⟩
def Zfm (K:Zzy) (x:V) (H:Hp) (k:Bool):Prop :=
 match x with
 | .non=>k=false
 | .bl b=>k=b
 | .int i=>k=(i != 0)
 | .str y=>y.length<=sizeLine/\k=((y.length:Int) != 0)
 | .byt y=>y.size<=sizeLine/\k=((y.size:Int) != 0)
 | .ref p=>(∃ xs,Dy K H p xs/\k=!xs.isEmpty)\/(∃ xs,Ed K H p xs/\k=!xs.isEmpty)\/∃ kvs,H p=some (.dK kvs)/\k=!kvs.isEmpty
 | _=>False
theorem Z06 {κ:Type} {kvs:List (κ×V)} {vs:List (κ×Value)} (r:KV kvs vs):(!vs.isEmpty)=!kvs.isEmpty:=by
 cases r<;>rfl
theorem Nk {xs:List V} (r:Zx xs its):(!its.toArray.isEmpty)=!xs.isEmpty:=by
 cases r<;>simp
theorem Ex:(sizeLine:Nat)<2^63:=by rw [sizeLine_eq];decide
theorem Ze5:Zj3 X (fun x H Q=>∃ k,Zfm X.K x H k/\Q k H):=by
 intro pins s σ H x v Q I rx h;obtain ⟨k,e,q⟩:=h;have hl:=Ex;have hs:sizeLine=16777216:=sizeLine_eq;cases x with
 | non =>
  cases rx;have e':k=false:=e;subst e';exact truthy_none ⟨H,I,q⟩
 | bl b =>
  cases rx;have e':k=b:=e;subst e';exact wpAny_truthy_bool ⟨H,I,q⟩
 | int i =>
  obtain ⟨t,rfl⟩:=rx;have e':k=(i != 0):=e;subst e';exact PySem.P.truthy_int ⟨H,I,q⟩
 | str y =>
  obtain ⟨t,rfl⟩:=rx;obtain ⟨hy,e'⟩:y.length<=sizeLine/\k=((y.length:Int) != 0):=e;subst e';exact PySem.P.truthy_str (by lia) ⟨H,I.tok _,q⟩
 | byt y =>
  obtain ⟨t,rfl⟩:=rx;obtain ⟨hy,e'⟩:y.size<=sizeLine/\k=((y.size:Int) != 0):=e;subst e';exact PySem.W.truthy_bytes (by lia) ⟨H,I.tok _,q⟩
 | ref p =>
  cases rx;have e':(∃ xs,Dy X.K H p xs/\k=!xs.isEmpty)\/(∃ xs,Ed X.K H p xs/\k=!xs.isEmpty)\/∃ kvs,H p=some (.dK kvs)/\k=!kvs.isEmpty:=e;rcases e' with ⟨xs,hx,e'⟩ | ⟨xs,hx,e'⟩ | ⟨kvs,hx,e'⟩
  ·subst e'
   obtain ⟨its,r,pl,hz⟩:=I.list hx;have hlen:=r.length;exact wpAny_truthy_list pl.isList (by simp only [size_toArray];lia) ⟨H,I.tok _,by rw [Nk r];exact q⟩
  ·subst e'
   obtain ⟨its,r,pl,hz⟩:=I.tuple hx;have hlen:=r.length;exact truthy_tuple pl (by simp only [size_toArray];lia) ⟨H,I.tok _,by rw [Nk r];exact q⟩
  ·subst e'
   obtain ⟨hz,hS,vs,r,m⟩:kvs.length<=sizeLine/\(p==sysModules)=false/\∃ vs,KV kvs vs/\s.heap.DictOf (Wz X.prog X.w) p vs:=I.hok p _ hx;have hlen:kvs.length=vs.length:=Paired.length r;exact wpAny_truthy_dict hS m (by lia) ⟨H,I.tok _,by rw [Z06 r];exact q⟩
 | _=>exact (show False from e).elim
theorem Z85 (ha:PE X a ta) (he:∀ whole,isTrue a X.env whole=(do let v ← whole;standAt a.pos;holding [v] (truthy v))) :
  PT X a (fun σ H Q=>ta σ H fun x H'=>∃ k,Zfm X.K x H' k/\Q k H'):=by
 intro pins s σ H Q I h;exact isTrue_plain (Wp (ha pins s σ H _ I h) fun v s1 ⟨x,H1,I1,r1,q1⟩=>Ze5 pins s1 σ H1 x v Q I1 r1 q1) (he _)
theorem Z0m:E5 X (binaryOp .Add) (fun x y H Q=>∃ i j,x=.str i/\y=.str j/\i.length+j.length<=sizeLine/\Q (.str (i++j)) H):=by
 intro pins s σ H x y v u Q I rx ry h;obtain ⟨i,j,rfl,rfl,hz,q⟩:=h;obtain ⟨t,rfl⟩:=rx;obtain ⟨t',rfl⟩:=ry;exact add_str (fun t' tk=>⟨.str (i++j),H,I.tok _,⟨_,rfl⟩,q⟩) hz
theorem Jz {x:V} (r:Zx [x] us):∃ u,us=[u]/\Yb x u:=by
 cases r with
 | cons r1 r2=>cases r2;exact ⟨_,rfl,r1⟩
theorem Z2g {x y:V} (r:Zx [x,y] us):∃ u w',us=[u,w']/\Yb x u/\Yb y w':=by
 cases r with
 | cons r1 r2 =>
  cases r2 with
  | cons r3 r4=>cases r4;exact ⟨_,_,rfl,r1,r3⟩
theorem Z35 (hc:X.calm=true):Vc X (.builtin "max") (fun xs H Q=>∃ i j,xs=[.int i,.int j]/\Q (.int (if j > i then j else i)) H):=by
 intro pins s σ H xs us Q I r h;obtain ⟨i,j,rfl,q⟩:=h;obtain ⟨u,w',rfl,⟨t,rfl⟩,⟨t',rfl⟩⟩:=Z2g r;refine max_two_ints (I.ok.hd hc) fun h' tk k=>⟨_,H,I.kept k,?_,q⟩
 by_cases hj:j > i
 ·rw [if_pos hj,if_pos hj];exact ⟨_,rfl⟩
 ·rw [if_neg hj,if_neg hj];exact ⟨_,rfl⟩
theorem Z4e (hc:X.calm=true):Vc X (.builtin "min") (fun xs H Q=>∃ i j,xs=[.int i,.int j]/\Q (.int (if j<i then j else i)) H):=by
 intro pins s σ H xs us Q I r h;obtain ⟨i,j,rfl,q⟩:=h;obtain ⟨u,w',rfl,⟨t,rfl⟩,⟨t',rfl⟩⟩:=Z2g r;refine min_two_ints (I.ok.hd hc) fun h' tk k=>⟨_,H,I.kept k,?_,q⟩
 by_cases hj:j<i
 ·rw [if_pos hj,if_pos hj];exact ⟨_,rfl⟩
 ·rw [if_neg hj,if_neg hj];exact ⟨_,rfl⟩
theorem Z47:Vc X (.type "int") (fun xs H Q=>(∃ i,xs=[.int i]/\Q (.int i) H)\/∃ k,xs=[.bl k]/\Q (.int (if k then 1 else 0)) H):=by
 intro pins s σ H xs us Q I r h;rcases h with ⟨i,rfl,q⟩ | ⟨k,rfl,q⟩
 ·obtain ⟨u,rfl,t,rfl⟩:=Jz r
  exact call_int_int ⟨.int i,H,I,⟨_,rfl⟩,q⟩
 ·obtain ⟨u,rfl,r1⟩:=Jz r
  cases r1;exact call_int_bool ⟨.int (if k then 1 else 0),H,I.tok _,⟨_,rfl⟩,q⟩
end
structure ObjM (h:Heap) (x dx C:Addr) (mA:Zzw):Prop where
 obj:h.get? x=some (instObj C dx)
 ns:h.Ns1 dx mA
 ne:dx≠x
theorem Z4l {mA:Zzw} (n:h.Ns1 dx mA):∃ od,h.get? dx=some od/\∀ name,lookIn name od=some (mA name):=by
 obtain ⟨o,es,ep,ho,hd,hk,_,hm⟩:=n;refine ⟨o,ho,fun name=>?_⟩;have e:=hm name;unfold nsFind findBy at e;rw [← Array.find?_toList] at e;unfold lookIn;rw [hd];dsimp only;split
 ·rename_i y q
  rw [q] at e;exact congrArg some e
 ·rename_i q
  rw [q] at e;have a:es.toList.any (·.refKey)=false:=by
   rw [List.any_eq_false];intro y hy;obtain ⟨z,t,hkey⟩:=hk y (Array.mem_toList_iff.mp hy);simp [DictEntry.refKey,hkey]
  have a':¬ es.toList.any (·.refKey)=true:=by rw [a];exact Bool.false_ne_true
  rw [if_neg a'];exact congrArg some e
theorem ObjM.look {x:Addr} {mA:Zzw} (I:ObjM h x dx C mA):∃ od,PySem.W.InstAt h x (instObj C dx) C (some od)/\∀ name,lookIn name od=some (mA name) :=
 let ⟨od,ho,hl⟩:=Z4l I.ns
 ⟨od,⟨I.obj,rfl,rfl,ho⟩,hl⟩
section
variable {prog:Program} {w:World} {A:Around} {E:Zzz} {s:Shared} {K:Zzy} {x dx C f:Addr} {mA:Zzw} {name:Str} {v:Value}
end
theorem Rv.some_of {v:V} {o:Option Value} (r:Rv (some v) o):∃ u,o=some u/\Yb v u:=by
 cases o with
 | none=>exact (show False from r).elim
 | some u=>exact ⟨u,rfl,r⟩
theorem Rv.none_of {o:Option Value} (r:Rv none o):o=none:=by
 cases o with
 | none=>rfl
 | some u=>exact (show False from r).elim
section
variable {P:Program} {w:World} {H H':Hp} {h h':Heap} {a C dx:Addr} {fs fs':List (Str×V)}
theorem Z8h (hok:S4 P w H h) (e:H a=some (.ins C dx fs)):∃ mA,ObjM h a dx C mA/\(∀ f,Rv (fs.lookup f) (mA f))/\PySem.Within mA (fs.map (·.1))/\fs.length<=1000/\H dx=some (.own a):=by
 obtain ⟨d,z,ne,ob,mA,n,r,q⟩:=(show Yz P w H h a (.ins C dx fs) from hok a _ e);exact ⟨mA,⟨ob,n,ne⟩,r,q,z,d⟩
end
structure Cls (K:Zzy) (C:Addr):Prop where
 pg:plainGet K C Str.empty=true
 hd:PySem.W.hasDictIn K C=true
 po:PySem.W.plainOver K C=true
 sa:PySem.W.findIn K (.ref C) "__setattr__" = some (some (.builtin "object.__setattr__"))
theorem Cls.get (c:Cls K C) (f:Str):plainGet K C f=true:=c.pg
section
variable {X:Cx} {pins:Zzx} {σ:St} {H:Hp} {s:Shared} {a C dx:Addr} {fs:List (Str×V)} {f:Str} {v:V} {A:Around} {E:Zzz}
end
section
variable {X:Cx} {o e value:Expr} {f:Str} {pos pos' tpos:Pos} {ta tv:TE}
end
section
variable {X:Cx} {pins:Zzx} {σ:St} {H:Hp} {s:Shared} {A:Around} {E:Zzz} {Q:Zzz} {c:Value} {b:Bool}
inductive TyOf (K:Zzy) (H:Hp):V->Value->Prop where
 | non:TyOf K H .non (.type "NoneType")
 | bl (x:Bool):TyOf K H (.bl x) (.type "bool")
 | int (i:Int):TyOf K H (.int i) (.type "int")
 | str (x:Str):TyOf K H (.str x) (.type "str")
 | flt (x:UInt64):TyOf K H (.flt x) (.type "float")
 | lst {a:Addr} {xs:List V} (e:H a=some (.lst xs)):TyOf K H (.ref a) (.type "list")
 | frz {a:Addr} {o:Obj} {xs:List V} (e:H a=some (.frz o (.lst xs))):TyOf K H (.ref a) (.type "list")
 | tup {a:Addr} {xs:List V} (e:H a=some (.tup xs)):TyOf K H (.ref a) (.type "tuple")
 | dK {a:Addr} {kvs:List (V5×V)} (e:H a=some (.dK kvs)):TyOf K H (.ref a) (.type "dict")
 | dT {a:Addr} {kvs:List (List V5×V)} (e:H a=some (.dT kvs)):TyOf K H (.ref a) (.type "dict")
 | ins {a C dx:Addr} {fs:List (Str×V)} (e:H a=some (.ins C dx fs)) (cl:Cls K C) (ha:PySem.W.findIn K (.ref C) "__class__" = some (some (.builtin "object.__class__")))
  (hn:PySem.W.specialIn K (.builtin "object.__class__") "__get__" = some (some (.builtin "getset_descriptor.__get__"))) (htk:PySem.W.takesIn K (.builtin "object.__class__")=some true)
  (hm:PySem.W.mroIn K C (.type "object")=some true):TyOf K H (.ref a) (.ref C)
theorem Du {x:V} {t:Value} (I:Inv X pins σ H s) (rx:Yb x u) (ty:TyOf X.K H x t) (e:kitOne X.K t c=some b) (h:∀ tk,Q (.bool b) { s with toks:=tk }) :
  wpAny (model X.prog X.w) A (call (.builtin "isinstance") [u,c]) Q E s:=by
 cases ty with
 | non=>cases (show u=Value.none from rx);exact kia_one PySem.W.kitx_none I.kIn True.intro e (fun z=>nomatch z) h
 | bl y=>cases (show u=Value.bool y from rx);exact kia_one PySem.W.kitx_bool I.kIn True.intro e (fun z=>nomatch z) h
 | int i=>obtain ⟨t,q⟩:=(show ∃ t,u=Value.int i t from rx);cases q;exact kia_one PySem.W.kitx_int I.kIn True.intro e (fun z=>nomatch z) h
 | str y=>obtain ⟨t,q⟩:=(show ∃ t,u=Value.str y t from rx);cases q;exact kia_one PySem.W.kitx_str I.kIn True.intro e (fun z=>nomatch z) h
 | flt y=>obtain ⟨t,q⟩:=(show ∃ t,u=Value.float y t from rx);cases q;exact kia_one PySem.W.kitx_float I.kIn True.intro e (fun z=>nomatch z) h
 | @lst a xs ea =>
  cases (show u=Value.ref a from rx);obtain ⟨_,_,n,_,h1⟩:=(show Yz X.prog X.w H s.heap a (.lst xs) from I.hok a _ ea);exact kia_one kitx_list I.kIn ⟨_,h1,rfl⟩ e (fun z=>nomatch z) h
 | @frz a ob xs ea =>
  cases (show u=Value.ref a from rx);obtain ⟨_,_,_,n,_,h1⟩:=(show Yz X.prog X.w H s.heap a (.frz ob (.lst xs)) from I.hok a _ ea);exact kia_one kitx_list I.kIn ⟨_,h1,rfl⟩ e (fun z=>nomatch z) h
 | @tup a xs ea =>
  cases (show u=Value.ref a from rx);obtain ⟨_,_,_,p⟩:=(show Yz X.prog X.w H s.heap a (.tup xs) from I.hok a _ ea);obtain ⟨o,h1,h2,_⟩:=p;exact kia_one kitx_tuple I.kIn ⟨o,h1,h2⟩ e (fun z=>nomatch z) h
 | @dK a kvs ea =>
  cases (show u=Value.ref a from rx);obtain ⟨_,_,vs,_,p⟩:=(show Yz X.prog X.w H s.heap a (.dK kvs) from I.hok a _ ea);obtain ⟨o,es,ep,h1,h2,_⟩:=p;exact kia_one kitx_dict I.kIn ⟨o,h1,h2.1⟩ e (fun z=>nomatch z) h
 | @dT a kvs ea =>
  cases (show u=Value.ref a from rx);obtain ⟨_,_,xs,_,o,es,ep,h1,h2,_⟩:=(show Yz X.prog X.w H s.heap a (.dT kvs) from I.hok a _ ea);exact kia_one kitx_dict I.kIn ⟨o,h1,h2.1⟩ e (fun z=>nomatch z) h
 | @ins a C dx fs ea cl ha hn htk hm =>
  cases (show u=Value.ref a from rx);obtain ⟨mA,O,_⟩:=Z8h I.hok ea;obtain ⟨od,J,_⟩:=O.look;exact kia_one (PySem.W.kitx_own (cl.get _) cl.hd ha hn htk hm) I.kIn J e (fun z=>nomatch z) h
end
structure Room (k:Nat) (A:Around):Prop where
 hd:A.handled=none
 dp:A.depth+3*k+5<recursionLimit
 un:A.units+16*k+200<cLine
 gd:A.guards=some []
theorem Room.mono {A:Around} (r:Room k A) (h:j<=k):Room j A:=⟨r.hd,by have:=r.dp;lia,by have:=r.un;lia,r.gd⟩
theorem Room.deeper {A:Around} (r:Room (k+1) A) (env:Env):Room k (A.deeper env) :=
 ⟨r.hd,by have:=r.dp;show A.depth+1+3*k+5<_;lia,by have:=r.un;show A.units+3+16*k+200<_;lia,r.gd⟩
theorem Np {A:Around} {kw:List (Str×Value)}:(A.under (.builtin "type.__call__" ⟨.ref C::us,kw⟩)).depth=A.depth+1:=by
 first | rfl | simp [Around.under,Code.weight,Code.isCreation,Code.isGuard,Code.isCaller,Code.frames,Code.isFrame,guardIds]
theorem Og {A:Around} {kw:List (Str×Value)}:(A.under (.builtin "type.__call__" ⟨.ref C::us,kw⟩)).units=A.units+1:=by
 first | rfl | simp [Around.under,Code.cUnits,Code.frames,Code.isFrame]
theorem Room.make {A:Around} (r:Room (k+1) A) (C:Addr) (us:List Value) (kw:List (Str×Value)):Room k (A.under (.builtin "type.__call__" ⟨.ref C::us,kw⟩)) :=
 ⟨r.hd,by have:=r.dp;rw [Np];lia,by have:=r.un;rw [Og];lia,r.gd⟩
theorem Room.depth {A:Around} (r:Room k A):A.depth<recursionLimit:=by have:=r.dp;lia
theorem Room.units {A:Around} (r:Room k A):A.units+64<cLine:=by have:=r.un;lia
def F5:TA:=fun _ H Q=>Q [] H
def Mv (ta:TE) (tr:TA):TA:=fun σ H Q=>ta σ H fun x H1=>tr σ H1 fun xs H2=>Q (x::xs) H2
section
variable {X:Cx} {e:Expr} {es:List Expr} {te:TE} {t:TA} {pos:Pos}
theorem Vn:PA X [] F5:=fun _ _ _ _ H Q I h=>Calls.spliced_nil ⟨[],H,I,.nil,h⟩
theorem Yu (ha:PE X e te) (hr:PA X es t) (hs:starEach (e::es) X.env=(false,eval e X.env)::starEach es X.env:=by rfl):PA X (e::es) (Mv te t):=by
 intro pos pins s σ H Q I h;rw [hs];show wpAny _ _ (spliced ((false,eval e X.env)::backTo pos (starEach es X.env))) _ _ s;refine Calls.spliced_cons (Wp (ha pins s σ H _ I h) fun u s1 ⟨x,H1,I1,r1,q1⟩=>?_);exact Wp (hr pos pins s1 σ H1 _ I1 q1) fun us s2 ⟨xs,H2,I2,r2,q2⟩=>⟨x::xs,H2,I2,.cons r1 r2,q2⟩
def Zih (t:TA):TE:=fun σ H Q=>t σ H fun xs H1=>xs.length<=sizeLine/\∀ p,H1 p=none->Q (.ref p) (Yn H1 p (.tup xs))
def Ziv (t:TA):TE:=fun σ H Q=>t σ H fun xs H1=>xs.length<=sizeLine/\∀ p,H1 p=none->Q (.ref p) (Yn H1 p (.lst xs))
theorem Zed {x1} (h:PA X es t):PE X (.Tuple es x1 pos) (Zih t):=by
 intro pins s σ H Q I hq;refine wpAny_Tuple_spliced (Wp (h pos pins s σ H _ I hq) fun us s1 ⟨xs,H1,I1,r,z,q⟩=>⟨by rw [← r.length];exact z,?_⟩);have hf:H1 s1.heap.objs.size=none:=I1.hok.fresh (le_refl _);refine ⟨.ref s1.heap.objs.size,Yn H1 s1.heap.objs.size (.tup xs),I1.laid (t':=s1.toks) (fun b u e=>get?_push_of_some _ e) (le_refl _) ?_,rfl,q _ hf⟩;exact ⟨z,us,r,⟨_,get?_push_size _ rfl,rfl,_,rfl⟩⟩
theorem Z88 (h:PA X es t):PE X (.List es pos) (Ziv t):=by
 intro pins s σ H Q I hq;refine wpAny_List_spliced (Wp (h pos pins s σ H _ I hq) fun us s1 ⟨xs,H1,I1,r,z,q⟩=>⟨by rw [← r.length];exact z,?_⟩);have hf:H1 s1.heap.objs.size=none:=I1.hok.fresh (le_refl _);refine ⟨.ref s1.heap.objs.size,Yn H1 s1.heap.objs.size (.lst xs),I1.laid (t':=s1.toks) (fun b u e=>get?_push_of_some _ e) (le_refl _) ?_,rfl,q _ hf⟩;exact ⟨z,us,0,r,get?_push_size _ rfl⟩
end
abbrev Sp:=List V->Hp->VK->XK->Prop
abbrev Ow:=List Env->Hp->Shared->XK->Value->Shared->Prop
structure Env0 (P:Program) (w:World) (K:Zzy) (mg:Zzw) (base:Heap) (A:Around) (outer:List Env) (s:Shared) (H:Hp):Prop where
 frames:A.frames=some outer
 mod:Mod K mg base
 bs:∀ b o,base.get? b=some o->s.heap.get? b=some o/\H b=none
 bsz:base.objs.size<=s.heap.objs.size
 funs:s.heap.FunFrames base outer
 frf:∀ b∈E9 outer,H b=none
 hok:S4 P w H s.heap
 bare:AllBare s.gens
def CE (outer:List Env) (P:Program) (w:World) (H:Hp) (s:Shared) (Q:VK) (u:Value) (s':Shared):Prop :=
 ∃ v H',s'.os=s.os/\AllBare s'.gens/\Un (E9 outer) [] H H' s.heap s'.heap/\S4 P w H' s'.heap/\Yb v u/\Q v H'
def CR (CX:Ow) (outer:List Env) (P:Program) (w:World) (H:Hp) (s:Shared) (Q:VK) (E:XK) (r:Result) (s':Shared):Prop :=
 match r with
 | .ok (.ret u)=>CE outer P w H s Q u s'
 | .ok _=>False
 | .error e=>CX outer H s E e s'
structure FnOk (P:Program) (w:World) (K:Zzy) (mg:Zzw) (base:Heap) (CX:Ow) (k:Nat) (f:Addr) (fd:FuncData) (ps:List Str) (sp:Sp):Prop where
 len:∀ vs H Q E,sp vs H Q E->vs.length=ps.length
 run:∀ (A:Around) (outer:List Env) (s:Shared) (H:Hp) (args:Args) (us:List Value) (vs:List V) (Q:VK) (E:XK),Room k A->Env0 P w K mg base A outer s H->BindsTo s fd args (ps.zip us)->Zx vs us->sp vs H Q E ->
  codeAny (model P w) A (.call (.ref f) args) (CR CX outer P w H s Q E) s
theorem Env0.make {A:Around} {H:Hp} (e:Env0 P w K mg base A outer s H) (C:Addr) (us:List Value) (kw:List (Str×Value)) :
 Env0 P w K mg base (A.under (.builtin "type.__call__" ⟨.ref C::us,kw⟩)) outer s H:=⟨by first | exact e.frames | (simpa [Around.under,Code.envs,Code.isFrame,pushEnvs] using e.frames),e.mod,e.bs,e.bsz,e.funs,e.frf,e.hok,e.bare⟩
section
variable {X:Cx} {pins:Zzx} {σ:St} {H:Hp} {s s':Shared}
theorem Inv.env0 (I:Inv X pins σ H s):Env0 X.prog X.w X.K X.mg X.base X.A X.stack s H :=
 ⟨I.ok.frames,I.ok.mod,I.bs,le_trans I.ok.bsz I.sz,I.stack,I.stkFree,I.hok,I.bare⟩
theorem Inv.after {Q:VK} (I:Inv X pins σ H s) (h:CE X.stack X.prog X.w H s Q u s'):EP X pins σ Q u s':=by
 obtain ⟨v,H',os,bare,un,hok,r,q⟩:=h;obtain ⟨hh,g,d,t,os'⟩:=s';obtain rfl:os'=s.os:=os;exact ⟨v,H',I.call (h':=hh) (g':=g) (d':=d) (t':=t) (ch:=[]) un hok bare (fun b z=>absurd z (by simp)),r,q⟩
end
def Z20 (sp:Sp) (dvs:List V) (E:XK) (t:TA):TE:=fun σ H Q=>t σ H fun vs H1=>sp (vs++dvs) H1 Q E
def M9 (K:Zzy) (fd:FuncData) (ps:List Str) (ds:List Value):Prop :=
 ∀ (s:Shared) (us:List Value),K.In s.heap->(us++ds).length=ps.length->BindsTo s fd ⟨us,[]⟩ (ps.zip (us++ds))
theorem M9.all (h:∀ us:List Value,us.length=ps.length->bindArgs fd ⟨us,[]⟩=pure (ps.zip us)):M9 K fd ps []:=fun s us _ hl=>by
 rw [append_nil] at hl ⊢;exact .of_eq (h us hl)
def O9 (CX:Ow) (X:Cx) (E:XK):Prop:=∀ (pins:Zzx) (σ:St) (H:Hp) (s:Shared) (e:Value) (s':Shared),Inv X pins σ H s->CX X.stack H s E e s'->X.xe e s'
section
variable {X:Cx} {CX:Ow} {k:Nat} {f C:Addr} {fd:FuncData} {ps:List Str} {sp:Sp} {dvs:List V} {ds:List Value} {E:XK} {x m:Str} {p pos apos:Pos} {e o:Expr} {es:List Expr} {ta:TE} {t:TA}
theorem Zej {σ:St} {H:Hp} {Q:VK} {vs:List V} (F:FnOk X.prog X.w X.K X.mg X.base CX k f fd ps sp) (hr:Room k X.A) (hb:M9 X.K fd ps ds) (hd:Zx dvs ds) (hx:O9 CX X E)
  (I:Inv X pins σ H s) (r:Zx vs us) (h:sp (vs++dvs) H Q E):wpAny (model X.prog X.w) X.A (call (.ref f) us) (EP X pins σ Q) X.xe s:=by
 have r2:Zx (vs++dvs) (us++ds):=r.append hd;have hl:(us++ds).length=ps.length:=by rw [← r2.length];exact F.len _ _ _ _ h
 refine wpAny_call (codeAny_mono (F.run X.A X.stack s H ⟨us,[]⟩ (us++ds) (vs++dvs) Q E hr I.env0 (hb s us I.kIn hl) r2 h) fun r s' hq=>?_);cases r with
 | error e=>exact hx pins σ H s e s' I hq
 | ok fl =>
  cases fl with
  | ret u=>exact I.after hq
  | next=>exact False.elim hq
  | brk=>exact False.elim hq
  | cont=>exact False.elim hq
theorem Z99 (F:FnOk X.prog X.w X.K X.mg X.base CX k f fd ps sp) (hr:Room k X.A) (hg:Gl X x) (hm:X.mg x=some (.ref f)) (hk:PySem.W.keepIn X.K (.ref f)=true) (hb:M9 X.K fd ps ds) (hd:Zx dvs ds) (hx:O9 CX X E)
  (ha:PA X (e::es) t) (hdb:(x==("__debug__" : Str))=false:=by decide) (he:starEach (e::es) X.env=(false,eval e X.env)::starEach es X.env:=by rfl) (hpl:(backTo pos (starEach es X.env)).any (·.1)=false:=by rfl) :
  PE X (.Call (.Name x p) (e::es) [] pos) (Z20 sp dvs E t):=by
 intro pins s σ H Q I h;refine wpAny_Call_Name_kw (Ue I hg hm ?_ hdb);refine PySem.W.callWith_K (h₀:=X.base) I.ok.mod.kin hk (Wp (ha pos pins s σ H _ I h) fun us s1 ⟨vs,H1,I1,r,q⟩=>⟨I1.kIn,?_⟩) he hpl;exact Zej F hr hb hd hx I1 r q
end
section
variable {X:Cx} {CX:Ow} {k:Nat} {f C:Addr} {fd:FuncData} {ps ks:List Str} {sp:Sp} {E:XK} {x m:Str} {p pos apos kpos:Pos} {e o:Expr} {es:List Expr} {kws:List Keyword} {te ta:TE} {t tk:TA} {nm:Option Str}
variable {g:List Value->List Value->List Value} {gV:List V->List V->List V}
end
structure FnScope (N P:List Str) (sc:Scope):Prop where
 kind:sc.kind=.function
 co:sc.isCoroutine=false
 gen:sc.isGenerator=false
 nd:N.Nodup
 pre:N.take P.length=P
 par:∀ x∈P,sc.names.lookup x=some .local\/sc.names.lookup x=some .cell
 nofree:∀ y∈sc.names,y.2≠.free
theorem Pm {kindOf:Str->Option NameKind} {x:Str}:∀ {binds:List (Str×Value)} {m:Zzw},(∀ v,(x,v)∉binds)->bindL kindOf binds m x=m x
 | [],_,_=>rfl
 | (n,v)::r,m,h=>by
   unfold bindL;rw [Pm fun w hw=>h w (mem_cons_of_mem _ hw)];split
   · have:x≠n:=by rintro rfl;exact h v mem_cons_self
     simp [this]
   · rfl
theorem Pi {kindOf:Str->Option NameKind} {x:Str}:∀ {binds:List (Str×Value)} {m:Zzw},(∀ v,(x,v)∉binds)->bindC kindOf binds m x=m x
 | [],_,_=>rfl
 | (n,v)::r,m,h=>by
   unfold bindC;rw [Pi fun w hw=>h w (mem_cons_of_mem _ hw)];split
   · rfl
   · have:x≠n:=by rintro rfl;exact h v mem_cons_self
     simp [this]
theorem K1 {kindOf:Str->Option NameKind} {x:Str} {v:Value}:∀ {P:List Str} {vs:List Value} {i:Nat} {m:Zzw},P.Nodup->P[i]?=some x->vs[i]?=some v->kindOf x=some .local ->
  bindL kindOf (P.zip vs) m x=some v
 | [],_,_,_,_,h,_,_=>by simp at h
 | _::_,[],_,_,_,_,h,_=>by simp at h
 | p::P,w::vs,0,m,nd,h1,h2,hk=>by
  simp at h1 h2;subst h1;subst h2;show bindL kindOf ((p,w)::P.zip vs) m p=_;unfold bindL;rw [Pm fun v hv=>(nodup_cons.mp nd).1 (of_mem_zip hv).1,if_pos hk];simp
 | p::P,w::vs,i+1,m,nd,h1,h2,hk=>by
  show bindL kindOf ((p,w)::P.zip vs) m x=_;unfold bindL;exact K1 (i:=i) (nodup_cons.mp nd).2 (by simpa using h1) (by simpa using h2) hk
theorem K3 {kindOf:Str->Option NameKind} {x:Str} {v:Value}:∀ {P:List Str} {vs:List Value} {i:Nat} {m:Zzw},P.Nodup->P[i]?=some x->vs[i]?=some v->kindOf x≠some .local ->
  bindC kindOf (P.zip vs) m x=some v
 | [],_,_,_,_,h,_,_=>by simp at h
 | _::_,[],_,_,_,_,h,_=>by simp at h
 | p::P,w::vs,0,m,nd,h1,h2,hk=>by
  simp at h1 h2;subst h1;subst h2;show bindC kindOf ((p,w)::P.zip vs) m p=_;unfold bindC;rw [Pi fun v hv=>(nodup_cons.mp nd).1 (of_mem_zip hv).1,if_neg hk];simp
 | p::P,w::vs,i+1,m,nd,h1,h2,hk=>by
  show bindC kindOf ((p,w)::P.zip vs) m x=_;unfold bindC;exact K3 (i:=i) (nodup_cons.mp nd).2 (by simpa using h1) (by simpa using h2) hk
def start (N:List Str) (vs:List V):St:=vs.map some++List.replicate (N.length - vs.length) none
def Te (CX:Ow) (P:Program) (w:World) (K:Zzy) (mg:Zzw) (base:Heap) (N:List Str) (qual:Str) (scope:Scope) (f:Addr) (cd:Value) (A:Around) (outer:List Env) (s:Shared) (H:Hp) (E:XK):Cx where
 prog:=P
 w:=w
 K:=K
 mg:=mg
 base:=base
 A:=A.deeper (envOfC qual scope s.heap.objs.size f cd)
 N:=N
 s₀:=s
 H₀:=H
 env:=envOfC qual scope s.heap.objs.size f cd
 outer:=outer
 stack:=envOfC qual scope s.heap.objs.size f cd::outer
 ex:=[]
 calm:=true
 fn:=fun _=>true
 pn:=[]
 xe:=fun e s'=>wpAny (model P w) (A.deeper (envOfC qual scope s.heap.objs.size f cd)) (leaving (envOfC qual scope s.heap.objs.size f cd) e) (fun _ s''=>CX outer H s E e s'') (fun e' s''=>CX outer H s E e' s'') s'
theorem H9 {n:Nat} {x:Str} (h:sc.names.lookup x=some .cell):∃ c,(cellsFrom n sc.names []).lookup x=some c:=by
 have q:=cellsFrom_some sc.names n [] (.inl h);exact Option.isSome_iff_exists.mp q
theorem Z3e {CX:Ow} {f:Addr} {A:Around} {s1:Shared} {H:Hp} {E:XK} {vs:List V}
  (S:FnScope N ps scope) (hd:A.handled=none) (e0:Env0 P w K mg base A outer s H) (hl:vs.length=ps.length) (r:Zx vs us)
  (x:InCallC s s.heap.objs.size (bindL (envOfC qual scope s.heap.objs.size f cd).kindOf (ps.zip us) fun _=>none) (cellsFrom (s.heap.objs.size+1) scope.names []) (bindC (envOfC qual scope s.heap.objs.size f cd).kindOf (ps.zip us) fun _=>none) s1) :
  Inv (Te CX P w K mg base N qual scope f cd A outer s H E) [] (start N vs) H s1:=by
 have hpl:ps.length<=N.length:=by have:=congrArg List.length S.pre;rw [length_take] at this;lia
 obtain ⟨h1,tk,rfl,hk⟩:=x.done;have noA:∀ b:Addr,b∉(Te CX P w K mg base N qual scope f cd A outer s H E).ex:=fun b z=>absurd (show b∈([]:List Addr) from z) (by simp)
 refine ⟨⟨e0.mod,S.kind,rfl,rfl,le_refl _,fun y z c h1 h2=>?_,fun y hy=>?_,fun y c _ h=>?_,fun _=>hd,Around.frames_deeper e0.frames,.inr ⟨rfl,rfl⟩,fun b z=>absurd z (noA b),e0.bs,e0.bsz,fun b _ _=>noA b,fun b z=>absurd z (noA b),e0.funs,e0.frf⟩,
  rfl,e0.bare,Un.kept hk,⟨_,x.toInCall.ns,fun i y v h1 h2 h3=>?_⟩,fun y c h=>⟨_,x.cell y c h⟩,e0.hok.fresh (le_refl _),fun y c h=>?_,fun p hp=>absurd (show p∈([]:Zzx) from hp) (by simp),e0.hok.kept hk,?_⟩
 ·exact name_of_addr x.apart (PySem.mem_of_lookup h1) (PySem.mem_of_lookup h2)
 ·have hy:scope.names.lookup y=some .cell\/scope.names.lookup y=some .free:=hy
  rcases hy with hy | hy
  ·exact H9 hy
  ·exact absurd rfl (S.nofree _ (PySem.mem_of_lookup hy))
 ·exact le_of_lt (x.above y c (PySem.mem_of_lookup h))
 ·have hi:i<vs.length:=by
   unfold start at h2;by_cases hi:i<vs.length
   ·exact hi
   ·rw [List.getElem?_append_right (by simpa using hi)] at h2
    rw [List.getElem?_replicate] at h2;split at h2<;>cases h2
  have ha:vs[i]?=some v:=by
   unfold start at h2;rw [getElem?_append_left (by simpa using hi),getElem?_map] at h2;cases e:vs[i]? with
   | none=>rw [e] at h2;cases h2
   | some a=>rw [e] at h2;cases h2;rfl
  obtain ⟨u,hu,rv⟩:=r.get ha;have hp:ps[i]?=some y:=by
   rw [← S.pre,List.getElem?_take_of_lt (by lia)];exact h1
  have ndP:ps.Nodup:=by rw [← S.pre];exact S.nd.sublist (List.take_sublist _ _)
  refine ⟨u,rv,?_⟩;rcases S.par y (mem_of_getElem? hp) with k | k
  ·exact .inl ⟨k,K1 ndP hp hu k⟩
  ·obtain ⟨c,e⟩:=H9 (n:=s.heap.objs.size+1) k
   refine .inr ⟨.inl k,c,e,?_⟩;have q:=x.cell y c e;rw [K3 ndP hp hu (by show scope.names.lookup y≠_;rw [k];decide)] at q;exact q
 ·exact e0.hok.fresh (le_of_lt (x.above y c (PySem.mem_of_lookup h)))
 ·unfold start
  show _=N.length;rw [length_append,length_map,length_replicate];lia
theorem Zaz {CX:Ow} {f:Addr} {name:Str} {params:Arguments} {dV kV doc cdv:Value} 
  {osl:Array (Option Value)} {N ps:List Str} {sp:Sp} (lk:K.lookup f=some ⟨oc,od,.func (fnOf name qual params body scope dV kV doc pm an cdv ct),osl⟩) (hcd:codeIn K cdv qual=true) (S:FnScope N ps scope)
  (len:∀ vs H Q E,sp vs H Q E->vs.length=ps.length)
  (hbody:∀ (A:Around) (outer:List Env) (s:Shared) (H:Hp) (vs:List V) (Q:VK) (E:XK),Room k (A.deeper (envOfC qual scope s.heap.objs.size f cdv))->sp vs H Q E ->
   ∃ t,Dh (Te CX P w K mg base N qual scope f cdv A outer s H E) body t/\t { nx:=fun _ H'=>Q .non H',rt:=Q } (start N vs) H) :
  FnOk P w K mg base CX (k+1) f (fnOf name qual params body scope dV kV doc pm an cdv ct) ps sp:=by
 refine ⟨len,fun A outer s H args us vs Q E hr e0 hb r hsp=>?_⟩;have hl:=len _ _ _ _ hsp;have KX:K.In s.heap:=e0.mod.kin.keeps fun b o e=>(e0.bs b o e).1
 have lim:s.heap.NoLimit:=e0.mod.nolimit.keeps fun b o e=>(e0.bs b o e).1
 have hkind:∀ y∈ps.zip us,scope.names.lookup y.1=some .local\/(scope.names.lookup y.1=some .cell/\((cellsFrom (s.heap.objs.size+1) scope.names []).lookup y.1).isSome=true):=fun ⟨n,v⟩ hy=>by
  rcases S.par n (of_mem_zip hy).1 with q | q
  ·exact .inl q
  ·exact .inr ⟨q,cellsFrom_some _ _ _ (.inl q)⟩
 refine codeAny_call_function hr.depth (KX _ _ lk) rfl S.co S.gen rfl (codeRec_of KX hcd) (hb _ _ _ _ ?_);refine wpAny_newFunctionEnv_cells S.kind hkind fun env he s1 x=>?_
 subst he;refine ⟨lim.keeps x.toInCall.keep,codeAny_func ?_⟩;obtain ⟨t,ht,hq⟩:=hbody A outer s H vs Q E (hr.deeper _) hsp;have I:Inv (Te CX P w K mg base N qual scope f cdv A outer s H E) [] (start N vs) H s1:=Z3e S hr.hd e0 hl r x;refine wpAny_mono (ht [] s1 (start N vs) H _ I hq) (fun fl s' hs=>?_) fun e s' hs=>hs
 have fin:∀ {σ':St} {H':Hp} {v:V} {u:Value},Inv (Te CX P w K mg base N qual scope f cdv A outer s H E) [] σ' H' s'->Yb v u->Q v H'->CE outer P w H s Q u s' :=
  fun {σ' H' v u} J rv q=>⟨v,H',J.os,J.bare,J.base,J.hok,rv,q⟩
 cases fl with
 | ret u =>
  obtain ⟨v,σ',H',J,rv,q⟩:=hs;exact fin J rv q
 | next =>
  obtain ⟨σ',H',J,q⟩:=hs;exact fin (v:=V.non) (u:=Value.none) J rfl q
 | brk =>
  obtain ⟨_,_,_,q⟩:=hs;exact False.elim q
 | cont =>
  obtain ⟨_,_,_,q⟩:=hs;exact False.elim q
section
variable {X:Cx} {x:Str} {p pos:Pos} {e:Expr} {es:List Expr} {t:TA} {id T:String} {r:List V->Hp->VK->Prop}
def tCB (r:List V->Hp->VK->Prop) (t:TA):TE:=fun σ H Q=>t σ H fun vs H1=>r vs H1 Q
theorem Na (hc:Vc X (.builtin id) r) (hg:Gl X x) (hm:X.mg x=none) (hv:bootBuiltins x=some (.builtin id)) (ha:PA X (e::es) t) (hn:x≠"__name__" := by decide) (hdb:(x==("__debug__" : Str))=false:=by decide)
  (he:starEach (e::es) X.env=(false,eval e X.env)::starEach es X.env:=by rfl) (hpl:(backTo pos (starEach es X.env)).any (·.1)=false:=by rfl):PE X (.Call (.Name x p) (e::es) [] pos) (tCB r t):=by
 intro pins s σ H Q I h;refine wpAny_Call_Name_kw (Sa I hg hm hv ?_ hn hdb);exact PyProof.Rows.callWith_builtin1 (Wp (ha pos pins s σ H _ I h) fun us s1 ⟨vs,H1,I1,r1,q1⟩=>hc pins s1 σ H1 vs us Q I1 r1 q1) he hpl
theorem Q0 (hc:Vc X (.type T) r) (hg:Gl X x) (hm:X.mg x=none) (hv:bootBuiltins x=some (.type T)) (ha:PA X (e::es) t) (hn:x≠"__name__" := by decide) (hdb:(x==("__debug__" : Str))=false:=by decide)
  (he:starEach (e::es) X.env=(false,eval e X.env)::starEach es X.env:=by rfl) (hpl:(backTo pos (starEach es X.env)).any (·.1)=false:=by rfl):PE X (.Call (.Name x p) (e::es) [] pos) (tCB r t):=by
 intro pins s σ H Q I h;refine wpAny_Call_Name_kw (Sa I hg hm hv ?_ hn hdb);exact PyProof.Rows.callWith_type1 (Wp (ha pos pins s σ H _ I h) fun us s1 ⟨vs,H1,I1,r1,q1⟩=>hc pins s1 σ H1 vs us Q I1 r1 q1) he hpl
end
end L2
variable {H H' H1 H0:L2.Hp} {o:L2.HO} {v y:L2.V} {X:L2.Cx} {σ:L2.St} {te tl:L2.TE} {vs:List L2.V} {ta:L2.TA} {kvs:List (List L2.V5×L2.V)} {CX:L2.Ow} {sp:L2.Sp}
namespace HT
open PySem PyProof.Rows
section
open PySem.SeqAt
open PySem.AutoSeq1 (wpAny_loadPart')
open PySem.MeetsSeq PySem.MeetsSeq2 PySem.MeetsSeq3
end
section
variable {prog:Program} {w:World} {A:Around} {E:Zzz} {s:Shared}
theorem cat_tup {t:Addr} {vs ws:List Value} (ht:IsTup s.heap t vs.toArray) (hb:IsTup s.heap b ws.toArray) (hv:vs≠[])
  (h1:ws=[]->Q (.ref t) s) (h2:ws≠[]->Q (.ref s.heap.objs.size) { s with heap:=s.heap.push { cls:=.type "tuple",data:=.seq (vs++ws).toArray } })
  (hsz:vs.length+ws.length<=sizeLine):wpAny (model prog w) A (binaryOp .Add (.ref t) (.ref b)) Q E s:=by
 obtain ⟨⟨cls,dd,data,sl⟩,ho,hc,n,hd⟩:=id ht;obtain ⟨⟨cls2,dd2,data2,sl2⟩,ho2,hc2,n2,hd2⟩:=id hb;simp only at hc hd hc2 hd2;subst hc hd hc2 hd2;have e:vs.toArray++ws.toArray=(vs++ws).toArray:=by simp
 by_cases hw:ws=[]
 ·exact concat_meets ⟨_,ho,rfl⟩ ⟨_,ho2,rfl⟩ noFill_tuple_add seq_tuple_add PySem.F.slot_tuple_add PySem.F.entry_tuple_add (PySem.F.args_tuple_add_2 _ _)
   (tuple_addW1 t b vs.toArray ws.toArray n n2 dd dd2 sl sl2 (by simpa using hv) (by simp [hw])) ⟨ho,ho2,h1 hw⟩
 ·refine concat_meets ⟨_,ho,rfl⟩ ⟨_,ho2,rfl⟩ noFill_tuple_add seq_tuple_add PySem.F.slot_tuple_add PySem.F.entry_tuple_add (PySem.F.args_tuple_add_2 _ _)
   (tuple_addW2 t b vs.toArray ws.toArray n n2 dd dd2 sl sl2 (by simpa using hv) (by simpa using hw) (by rw [size_toArray,size_toArray];exact hsz)) ⟨ho,ho2,?_⟩
  rw [e];exact h2 hw
def sIx (n d:Nat):Option Int->Nat
 | none=>d
 | some v=>if v<0 then (v+(n:Int)).toNat else min v.toNat n
theorem sIx_none (n d:Nat):sIx n d none=d:=rfl
theorem sIx_nat (n d k:Nat):sIx n d (some (k:Int))=min k n:=by
 show (if (k:Int)<0 then ((k:Int)+(n:Int)).toNat else min (k:Int).toNat n)=min k n;rw [if_neg (by lia),Int.toNat_natCast]
theorem sIx_le (n d:Nat) (hd:d<=n) (o:Option Int):sIx n d o<=n:=by
 cases o with
 | none=>exact hd
 | some v =>
  show (if v<0 then (v+(n:Int)).toNat else min v.toNat n)<=n;by_cases hv:v<0
  ·rw [if_pos hv];lia
  ·rw [if_neg hv];exact Nat.min_le_right _ _
theorem clip_eq (v:Int) (n d:Nat):(if v<0 then max (v+(n:Int)) 0 else min v (n:Int))=((sIx n d (some v):Nat):Int):=by
 show (if v<0 then max (v+(n:Int)) 0 else min v (n:Int))=(((if v<0 then (v+(n:Int)).toNat else min v.toNat n):Nat):Int);by_cases hv:v<0
 ·simp only [if_pos hv];lia
 ·simp only [if_neg hv];lia
theorem Z01 (lo hi:Option Int) (n:Nat):Builtin.Slice.sliceAdjust lo hi 1 (n:Int)=(((sIx n 0 lo:Nat):Int),((sIx n n hi:Nat):Int)):=by
 have h1:¬ ((1:Int)<0):=by lia
 unfold Builtin.Slice.sliceAdjust;simp only [h1,if_false];refine Prod.ext ?_ ?_
 ·cases lo with
  | none=>rfl
  | some v=>exact clip_eq v n 0
 ·cases hi with
  | none=>rfl
  | some v=>exact clip_eq v n n
theorem Z19 (i j:Nat):Builtin.Slice.slicePlaces (i:Int) (j:Int) 1=j - i:=by
 unfold Builtin.Slice.slicePlaces;have h1:(1:Int) > 0:=by lia
 simp only [h1,if_true,Int.ediv_one];split<;>lia
theorem N9 {v:Value} {o:Option Int} {Q:Option Int->Shared->Prop} (p:IsPart v o) (h:Q o s):wpAny (model prog w) A (Builtin.Slice.slicePartIndex v) Q E s:=by
 cases p with
 | none=>exact slicePart_none h
 | int i t=>exact slicePart_int h
theorem R4 {sl:Addr} {vl vu:Value} {n:Nat} {Q:Int×Int×Nat->Shared->Prop} (hs:s.heap.IsSliceOf sl vl vu .none) (pl:IsPart vl lo) (pu:IsPart vu hi)
   (h:Q (((sIx n 0 lo:Nat):Int),1,sIx n n hi - sIx n 0 lo) s):wpAny (model prog w) A (Builtin.Slice.sliceApplied (.ref sl) (pure (n:Int))) Q E s:=by
 obtain ⟨os,hos,hcs,hds⟩:=id hs;unfold Builtin.Slice.sliceApplied Builtin.Slice.sliceFields;refine wpAny_bind (wpAny_bind (wpAny_field hos hds (x:=vl) rfl (wpAny_bind (wpAny_field hos hds (x:=vu) rfl (wpAny_bind (wpAny_field hos hds (x:=.none) rfl (wpAny_pure ?_)))))));refine wpAny_bind (slicePart_none ?_);show wpAny _ _ (if ((1:Int)==0)=true then _ else _) _ _ s;rw [if_neg (by decide)];refine wpAny_bind (N9 pl (wpAny_bind (N9 pu (wpAny_bind (wpAny_pure ?_)))));show wpAny _ _ (match Builtin.Slice.sliceAdjust lo hi 1 (n:Int) with | (lo,hi)=>pure (lo,(1:Int),Builtin.Slice.slicePlaces lo hi 1)) _ _ s;rw [Z01 lo hi n];show wpAny _ _ (pure (((sIx n 0 lo:Nat):Int),(1:Int),Builtin.Slice.slicePlaces ((sIx n 0 lo:Nat):Int) ((sIx n n hi:Nat):Int) 1)) _ _ s;rw [Z19];exact wpAny_pure h
theorem Z7x (xs:Array Value) (i k:Nat):((List.range k).filterMap fun (m:Nat)=>xs[((i:Int)+(m:Int)*1).toNat]?).toArray=((xs.toList.drop i).take k).toArray:=by
 have e:(fun (m:Nat)=>xs[((i:Int)+(m:Int)*1).toNat]?)=fun m=>xs[i+m]?:=by
  funext m
  have:((i:Int)+(m:Int)*1).toNat=i+m:=by lia
  rw [this]
 rw [e];have:=pick_run xs i k;rw [List.filterMap_map] at this;have e2:((fun x=>xs[x]?) ∘ fun x=>i+x)=fun m=>xs[i+m]?:=rfl
 rw [e2] at this;rw [this]
theorem getItem_tuple_cut {t sl:Addr} {vl vu:Value} (ht:IsTup s.heap t items) (hs:s.heap.IsSliceOf sl vl vu .none) (pl:IsPart vl lo) (pu:IsPart vu hi)
   (hw:¬ (sIx items.size 0 lo=0/\sIx items.size items.size hi=items.size))
   (h:Q (.ref s.heap.objs.size) { s with heap:=s.heap.push { cls:=.type "tuple",data:=.seq ((items.toList.drop (sIx items.size 0 lo)).take (sIx items.size items.size hi - sIx items.size 0 lo)).toArray } })
   (hsz:items.size<=sizeLine):wpAny (model prog w) A (getItem (.ref t) (.ref sl)) Q E s:=by
 have htake:sizeOk (.seq ((items.toList.drop (sIx items.size 0 lo)).take (sIx items.size items.size hi - sIx items.size 0 lo)).toArray):=by
   show ((items.toList.drop (sIx items.size 0 lo)).take (sIx items.size items.size hi - sIx items.size 0 lo)).toArray.size<=sizeLine;rw [size_toArray,length_take,length_drop,Array.length_toList];lia
 have hj:sIx items.size items.size hi<=items.size:=sIx_le _ _ (le_refl _) hi;obtain ⟨os,hos,hcs,hds⟩:=id hs;have hTs:s.TypeIs (.ref sl) "slice" := ⟨os,hos,hcs⟩;unfold getItem;try with_reducible refine wpAny_holding ?_
 first | refine wpAny_bind (wpAny_pure ?_) | skip
 refine wpAny_bind (wpAny_sequenceKey ht.typeIs (by decide) ?_);refine wpAny_bind (wpAny_callSpecial?_slot (name:=Str.ofString "__getitem__") ht.typeIs PyProof.Rows.slot_tuple_getitem
   (wpAny_call_entry PyProof.Rows.slot_tuple_getitem ht.typeIs entry_tuple_getitem ?_ (args_tuple_getitem _ _)))
 show wpAny _ _ (Builtin.Tuple.tupleItemsOf (.ref t) >>= _) _ _ s;refine wpAny_bind (tupleItemsOf_ ht ?_);refine wpAny_bind (wpAny_typeOf hTs ?_);rw [if_pos (by decide)];refine wpAny_bind (R4 hs pl pu ?_);have hno:¬ ((((sIx items.size 0 lo:Nat):Int)==0&&(1:Int)==1&&(sIx items.size items.size hi - sIx items.size 0 lo)==items.size)=true):=by
   intro q;rw [Bool.and_eq_true,Bool.and_eq_true] at q;have q1:((sIx items.size 0 lo:Nat):Int)=0:=eq_of_beq q.1.1;have q2:sIx items.size items.size hi - sIx items.size 0 lo=items.size:=eq_of_beq q.2;exact hw ⟨by lia,by lia⟩
 show wpAny _ _ (if (((sIx items.size 0 lo:Nat):Int)==0&&(1:Int)==1&&(sIx items.size items.size hi - sIx items.size 0 lo)==items.size)=true then _ else _) _ _ s;rw [if_neg hno,Z7x];first
   | exact wpAny_bind (m:=Builtin.Tuple.tupleExact _) (wpAny_newObj_type (wpAny_pure ⟨_,rfl,wpAny_pure h⟩) htake)
   | exact wpAny_bind (m:=Builtin.Tuple.tupleExact _) (wpAny_newObj_type (wpAny_bind (wpAny_pure (wpAny_pure ⟨_,rfl,wpAny_pure h⟩))) htake)
   | exact wpAny_bind (wpAny_bind (m:=Builtin.Tuple.tupleExact _) (wpAny_newObj_type (wpAny_pure (wpAny_pure ⟨_,rfl,wpAny_pure h⟩)) htake))
   | exact wpAny_bind (wpAny_bind (m:=Builtin.Tuple.tupleExact _) (wpAny_newObj_type (wpAny_pure ⟨_,rfl,wpAny_pure h⟩) htake))
end
end HT
namespace L2
open PySem PySem.Spec PyProof.Rows
abbrev TO:=St->Hp->(Option Int->Hp->Prop)->Prop
def PO (X:Cx) (e:Option Expr) (t:TO):Prop :=
 ∀ (pins:Zzx) (s:Shared) (σ:St) (H:Hp) (Q:Option Int->Hp->Prop),Inv X pins σ H s->t σ H Q ->
  wpAny (model X.prog X.w) X.A (evalPart e X.env) (fun u s'=>∃ o H',Inv X pins σ H' s'/\IsPart u o/\Q o H') X.xe s
def Z98:TO:=fun _ H Q=>Q none H
def Zff (t:TE):TO:=fun σ H Q=>t σ H fun x H1=>∃ i,x=.int i/\Q (some i) H1
theorem Nd:∀ {us:List Value},Zx (ns.map V.int) us->IntsAre us ns:=by
 induction ns with
 | nil=>intro us r;rw [map_nil] at r;cases r;exact .nil
 | cons n ns ih =>
  intro us r;rw [map_cons] at r;cases r with
  | cons r1 r2 =>
   obtain ⟨t,e⟩:=r1;subst e;exact .cons n t (ih r2)
section
variable {X:Cx} {e:Expr} {te:TE} {lo hi:Option Expr} {tl th:TO} {pos p2:Pos}
theorem Z9u:PO X none Z98:=by
 intro pins s σ H Q I h;rw [evalPart_none];exact wpAny_pure ⟨none,H,I,.none,h⟩
theorem Z8y (h:PE X e te):PO X (some e) (Zff te):=by
 intro pins s σ H Q I hw;rw [evalPart_some];refine Wp (h pins s σ H _ I hw) fun u s1 ⟨x,H1,I1,r1,q1⟩=>?_
 obtain ⟨i,rfl,q⟩:=q1;obtain ⟨t,rfl⟩:=r1;exact ⟨some i,H1,I1,.int i t,q⟩
def SlR (X:Cx) (r:V->Option Int->Option Int->Hp->VK->Prop):Prop :=
 ∀ (pins:Zzx) (s:Shared) (σ:St) (H:Hp) (x:V) (v vl vu:Value) (lo hi:Option Int) (sl:Addr) (Q:VK),Inv X pins σ H s->Yb x v->s.heap.IsSliceOf sl vl vu .none->IsPart vl lo->IsPart vu hi->r x lo hi H Q ->
  ∃ T id,typeLookup (.type T) "__getitem__" = pure (some (.builtin id))/\s.TypeIs v T/\wpAny (model X.prog X.w) X.A (getItem v (.ref sl)) (EP X pins σ Q) X.xe s
theorem SlR.or {r r':V->Option Int->Option Int->Hp->VK->Prop} (h:SlR X r) (h':SlR X r'):SlR X (fun x lo hi H Q=>r x lo hi H Q\/r' x lo hi H Q):=by
 intro pins s σ H x v vl vu lo hi sl Q I rx hs pl pu q;rcases q with q | q
 ·exact h pins s σ H x v vl vu lo hi sl Q I rx hs pl pu q
 ·exact h' pins s σ H x v vl vu lo hi sl Q I rx hs pl pu q
def tSl (r:V->Option Int->Option Int->Hp->VK->Prop) (te:TE) (tl th:TO):TE:=fun σ H Q=>te σ H fun x H1=>tl σ H1 fun l H2=>th σ H2 fun u H3=>r x l u H3 Q
theorem Z6i {r:V->Option Int->Option Int->Hp->VK->Prop} (hr:SlR X r) (he:PE X e te) (hl:PO X lo tl) (hu:PO X hi th):PE X (.Subscript e (.Slice lo hi none p2) pos) (tSl r te tl th):=by
 intro pins s σ H Q I h;refine Subscript_ (Wp (he pins s σ H _ I h) fun v s1 ⟨x,H1,I1,r1,q1⟩=>?_);refine wpAny_Slice (Wp (hl pins s1 σ H1 _ I1 q1) fun vl s2 ⟨l,H2,I2,pl,q2⟩=>Wp (hu pins s2 σ H2 _ I2 q2) fun vu s3 ⟨u,H3,I3,pu,q3⟩=>?_);rw [evalPart_none];refine wpAny_pure ?_;have I4:Inv X pins σ H3 { s3 with heap:=s3.heap.push { cls:=.type "slice",data:=.fields #[vl,vu,.none] } }:=I3.kept (t':=s3.toks) fun b ob q=>get?_push_of_some _ q
 obtain ⟨T,id,hT,ht,hg⟩:=hr pins { s3 with heap:=s3.heap.push { cls:=.type "slice",data:=.fields #[vl,vu,.none] } } σ H3 x v vl vu l u s3.heap.objs.size Q I4 r1 (Heap.IsSliceOf.new ..) pl pu q3;show wpAny (model X.prog X.w) X.A (subscriptTail e (.Slice lo hi none p2) v (.ref s3.heap.objs.size)) (EP X pins σ Q) X.xe { s3 with heap:=s3.heap.push { cls:=.type "slice",data:=.fields #[vl,vu,.none] } };exact tail_any (ops:=[.ref s3.heap.objs.size,v]) ht hT hg (by with_unfolding_all rfl)
def An (xs:List V) (lo hi:Option Int):List V:=(xs.drop (HT.sIx xs.length 0 lo)).take (HT.sIx xs.length xs.length hi - HT.sIx xs.length 0 lo)
theorem Kw (xs:List V) (lo hi:Option Int):(An xs lo hi).length<=xs.length:=by
 unfold An;rw [length_take,length_drop];lia
def Zfw (K:Zzy):V->Option Int->Option Int->Hp->VK->Prop:=fun x lo hi H Q=>∃ a xs,x=.ref a/\Ed K H a xs /\
 ¬ (HT.sIx xs.length 0 lo=0/\HT.sIx xs.length xs.length hi=xs.length)/\∀ p,H p=none->Q (.ref p) (Yn H p (.tup (An xs lo hi)))
theorem Zd3:SlR X (Zfw X.K):=by
 intro pins s σ H x v vl vu lo hi sl Q I rx hs pl pu h;obtain ⟨a,xs,rfl,hx,hw,q⟩:=h;cases rx;obtain ⟨its,r,ht,hz⟩:=I.tuple hx;have hlen:its.toArray.size=xs.length:=by rw [size_toArray];exact r.length.symm
 refine ⟨"tuple",_,PyProof.Rows.slot_tuple_getitem.lookup,ht.typeIs,?_⟩;refine HT.getItem_tuple_cut ht hs pl pu (by rw [hlen];exact hw) ?_ (by rw [hlen];exact hz);rw [hlen];refine ⟨.ref s.heap.objs.size,_,I.laid (t':=s.toks) (o:=.tup (An xs lo hi)) (fun b ob q=>get?_push_of_some _ q) (le_refl _) ?_,rfl,q _ (I.hok.fresh (le_refl _))⟩;exact ⟨le_trans (Kw xs lo hi) hz,_,(r.drop (HT.sIx xs.length 0 lo)).take (HT.sIx xs.length xs.length hi - HT.sIx xs.length 0 lo),IsTup.new _ _⟩
def Zg3 (K:Zzy):R2:=fun x y H Q=>∃ a b xs ys,x=.ref a/\y=.ref b/\Ed K H a xs/\Ed K H b ys/\xs≠[]/\xs.length+ys.length<=sizeLine /\
 (ys=[]->Q (.ref a) H)/\(ys≠[]->∀ p,H p=none->Q (.ref p) (Yn H p (.tup (xs++ys))))
theorem Zx.nil_iff {xs:List V} (r:Zx xs us):us=[]↔xs=[]:=by
 cases r with
 | nil=>simp
 | cons _ _=>simp
theorem Za1:E5 X (binaryOp .Add) (Zg3 X.K):=by
 intro pins s σ H x y v u Q I rx ry h;obtain ⟨a,b,xs,ys,rfl,rfl,ha,hb,hx,hz,q1,q2⟩:=h;cases rx;cases ry;obtain ⟨its,r1,p1,_⟩:=I.tuple ha;obtain ⟨its2,r2,p2,_⟩:=I.tuple hb;refine HT.cat_tup p1 p2 (fun z=>hx (r1.nil_iff.mp z)) (fun z=>⟨.ref a,H,I,rfl,q1 (r2.nil_iff.mp z)⟩) (fun z=>?_) (by rw [← r1.length,← r2.length];exact hz);refine ⟨.ref s.heap.objs.size,_,I.laid (t':=s.toks) (o:=.tup (xs++ys)) (fun b ob q=>get?_push_of_some _ q) (le_refl _) ?_,rfl,q2 (fun w=>z (r2.nil_iff.mpr w)) _ (I.hok.fresh (le_refl _))⟩;exact ⟨by rw [length_append];exact hz,_,r1.append r2,IsTup.new _ _⟩
end
def ixN (n:Nat) (i:Int):Option Nat:=if 0<=i then (if i<n then some i.toNat else none) else if -(n:Int)<=i then some (i+n).toNat else none
def P5 (xs:List α) (i:Int):Option α:=(ixN xs.length i).bind fun j=>xs[j]?
theorem Z1m {n:Nat} {i:Int} (h:ixN n i=some j):seqIndex? i n=some j/\j<n/\-(n:Int)<=i/\i<n:=by
 unfold ixN at h;by_cases h0:0<=i
 ·rw [if_pos h0] at h
  by_cases h1:i<n
  ·rw [if_pos h1] at h
   have e:i.toNat=j:=Option.some.inj h;exact ⟨by rw [seqIndex_of h0 h1,e],by lia,by lia,h1⟩
  ·rw [if_neg h1] at h;cases h
 ·rw [if_neg h0] at h
  by_cases h1 : -(n:Int)<=i
  ·rw [if_pos h1] at h
   have e:(i+n).toNat=j:=Option.some.inj h;exact ⟨by rw [seqIndex_neg (by lia) h1,e],by lia,h1,by lia⟩
  ·rw [if_neg h1] at h;cases h
theorem Fs {xs:List α} {i:Int} {v:α} (h:P5 xs i=some v):∃ j,seqIndex? i xs.length=some j/\xs[j]?=some v/\j<xs.length/\-(xs.length:Int)<=i/\i<xs.length:=by
 unfold P5 at h;cases e:ixN xs.length i with
 | none=>rw [e] at h;cases h
 | some j =>
  rw [e] at h;obtain ⟨h1,h2,h3,h4⟩:=Z1m e;exact ⟨j,h1,h,h2,h3,h4⟩
theorem Hi {xs:List α} {v:α} (h:xs[j]?=some v):P5 xs (j:Int)=some v:=by
 have hj:j<xs.length:=(List.getElem?_eq_some_iff.mp h).1;have e:ixN xs.length (j:Int)=some j:=by
  unfold ixN;rw [if_pos (by lia),if_pos (by lia)];simp
 unfold P5;rw [e];exact h
def Lf (b:Expr):Prop:=∀ o i,subscripted b false o i=operate [o,i] (getItem o i)
def IxR (X:Cx) (r:R2):Prop :=
 ∀ (value slice:Expr) (pins:Zzx) (s:Shared) (σ:St) (H:Hp) (x y:V) (v u:Value) (Q:VK),Inv X pins σ H s->Yb x v->Yb y u->r x y H Q ->
  subscripted slice false v u=operate [v,u] (getItem v u)->wpAny (model X.prog X.w) X.A (subscriptTail value slice v u) (EP X pins σ Q) X.xe s
def MtR (X:Cx) (id:String) (r:V->List V->Hp->VK->Prop):Prop :=
 ∀ (pins:Zzx) (s:Shared) (σ:St) (H:Hp) (x:V) (xs:List V) (v:Value) (us:List Value) (Q:VK),Inv X pins σ H s->Yb x v->Zx xs us->r x xs H Q ->
  wpAny (model X.prog X.w) X.A (call (.builtin id) (v::us)) (EP X pins σ Q) X.xe s
section
variable {X:Cx} {a b:Expr} {ta tb:TE} {pos:Pos}
theorem IxR.or {r r':R2} (h:IxR X r) (h':IxR X r'):IxR X (fun x y H Q=>r x y H Q\/r' x y H Q):=by
 intro value slice pins s σ H x y v u Q I rx ry q hs;rcases q with q | q
 ·exact h value slice pins s σ H x y v u Q I rx ry q hs
 ·exact h' value slice pins s σ H x y v u Q I rx ry q hs
theorem Z7j {r:R2} (hr:IxR X r) (ha:PE X a ta) (hb:PE X b tb) (hs:Lf b):PE X (.Subscript a b pos) (tOp r ta tb):=by
 intro pins s σ H Q I h;exact Subscript_ (Ze9 ha hb I h fun v u s2 x y H2 I2 rx ry q=>hr a b pins s2 σ H2 x y v u Q I2 rx ry q (hs _ _))
def Zg7 (K:Zzy):R2:=fun x y H Q=>∃ p xs i v,x=.ref p/\y=.int i/\Dy K H p xs/\P5 xs i=some v/\Q v H
def Zgs (K:Zzy):R2:=fun x y H Q=>∃ p xs i v,x=.ref p/\y=.int i/\Ed K H p xs/\P5 xs i=some v/\Q v H
def Zfn:R2:=fun x y H Q=>∃ z i c,x=.str z/\y=.int i/\z.length<=sizeLine/\P5 z.cps.toList i=some c/\Q (.str ⟨#[c]⟩) H
theorem Xv:IxR X (Zg7 X.K):=by
 intro value slice pins s σ H x y v u Q I rx ry h hs;obtain ⟨p,xs,i,z,rfl,rfl,hq,he,q⟩:=h;cases rx;obtain ⟨t,rfl⟩:=ry;obtain ⟨its,r,pl,hz⟩:=I.list hq;obtain ⟨j,h1,h2,h3,h4,h5⟩:=Fs he;obtain ⟨w,ew,rw'⟩:=r.get h2;have hl:=r.length;have hn:=Ex;have fin:EP X pins σ Q w s:=⟨z,H,I,rw',q⟩;by_cases h0:0<=i
 ·have hj:i.toNat=j:=by
   rw [seqIndex_of h0 h5] at h1;exact Option.some.inj h1
  exact item_listR pl.isList h0 (by lia) (by rw [hj];simpa using ew) fin hs
 ·have hj:(i+(its.toArray.size:Int)).toNat=j:=by
   rw [seqIndex_neg (by lia) h4] at h1;rw [size_toArray,← hl];exact Option.some.inj h1
  exact subscriptTail_builtinR (x:=w) pl.isList.typeIs slot_list_getitem.lookup
   (wpAny_getItem_list_neg (Q:=fun r s'=>r=w/\EP X pins σ Q r s') pl.isList (by lia) (by rw [size_toArray]<;>lia) (by lia) (by rw [hj];simpa using ew) ⟨rfl,fin⟩) hs
theorem Zdx:IxR X (Zgs X.K):=by
 intro value slice pins s σ H x y v u Q I rx ry h hs;obtain ⟨p,xs,i,z,rfl,rfl,hq,he,q⟩:=h;cases rx;obtain ⟨t,rfl⟩:=ry;obtain ⟨its,r,pl,hz⟩:=I.tuple hq;obtain ⟨j,h1,h2,h3,h4,h5⟩:=Fs he;obtain ⟨w,ew,rw'⟩:=r.get h2;have hl:=r.length;have hn:=Ex;have fin:EP X pins σ Q w s:=⟨z,H,I,rw',q⟩;exact subscriptTail_builtinR (x:=w) pl.typeIs slot_tuple_getitem.lookup
  (getItem_tuple (j:=j) (Q:=fun r s'=>r=w/\EP X pins σ Q r s') pl (by lia) (by lia) (by rw [size_toArray,← hl];exact h1) (by simpa using ew) ⟨rfl,fin⟩) hs
theorem Zbu:IxR X Zfn:=by
 intro value slice pins s σ H x y v u Q I rx ry h hs;obtain ⟨z,i,c,rfl,rfl,hz,he,q⟩:=h;obtain ⟨t,rfl⟩:=rx;obtain ⟨t',rfl⟩:=ry;obtain ⟨j,h1,h2,h3,h4,h5⟩:=Fs he;have hl:z.cps.toList.length=z.length:=by simp [Str.length]
 rw [hl] at h1 h4 h5;have hn:=Ex;exact tail_any (typeIs_str s z t) slot_str_getitem.lookup (getItem_str (c:=c) (by
  have e1:decide (i < -(2^63:Int))=false:=decide_eq_false (by lia);have e2:decide (i≥2^63)=false:=decide_eq_false (by lia);rw [e1,e2,Bool.or_false]) (by rw [h1];simpa using h2) ⟨.str ⟨#[c]⟩,H,I.tok _,⟨_,rfl⟩,q⟩) hs
def rIx (K:Zzy):R2:=fun x y H Q=>Zg7 K x y H Q\/Zgs K x y H Q\/Zfn x y H Q
theorem Zbz:IxR X (rIx X.K):=Xv.or (Zdx.or Zbu)
theorem Z09 (its:List Value) (n j:Nat) (u:Value):Obj.mapSeq (·.setIfInBounds j u) { cls:=.type "list",data:=.seq its.toArray n }={ cls:=.type "list",data:=.seq (its.set j u).toArray n }:=by
 simp [Obj.mapSeq]
theorem Inv.lst {pins:Zzx} {σ:St} {H:Hp} {s:Shared} {p:Addr} {xs:List V} (I:Inv X pins σ H s) (h:H p=some (.lst xs)) :
  ∃ (its:List Value) (n:Nat),Zx xs its/\s.heap.get? p=some { cls:=.type "list",data:=.seq its.toArray n }/\xs.length<=sizeLine:=by
 obtain ⟨z,its,n,r,e⟩:=I.hok p _ h;exact ⟨its,n,r,e,z⟩
theorem Inv.lstUpd {p:Addr} {xs ys:List V} {its':List Value} {n n':Nat} {f:Obj->Obj} (I:Inv X pins σ H s) (h:H p=some (.lst xs))
  (ho:s.heap.get? p=some { cls:=.type "list",data:=.seq its.toArray n }) (hf:f { cls:=.type "list",data:=.seq its.toArray n }={ cls:=.type "list",data:=.seq its'.toArray n' }) (r:Zx ys its') (hz:ys.length<=sizeLine) (t:Nat) :
  Inv X pins σ (Yn H p (.lst ys)) { s with heap:=s.heap.update p f,toks:=t }:=by
 have e:(s.heap.update p f).get? p=some { cls:=.type "list",data:=.seq its'.toArray n' }:=by
  rw [get?_update_self f ho (by rw [hf]<;>rfl),hf]
 refine I.write (x:=p) (e:=p) (by rw [h];trivial) (.inl rfl) (fun b u hb q=>(get?_update_other _ _ (Ne.symm hb)).trans q) ⟨_,e⟩ ?_;exact ⟨hz,its',n',r,e⟩
def Zgz:V->V->V->Hp->(Hp->Prop)->Prop:=fun o i v H Q=>∃ p xs k j,o=.ref p/\i=.int k/\H p=some (.lst xs)/\ixN xs.length k=some j/\Q (Yn H p (.lst (xs.set j v)))
theorem Z7w:Zfj X Zgz:=by
 intro pins s σ H o i v ov iv u Q I ro ri rv h;obtain ⟨p,xs,k,j,rfl,rfl,hp,hj,q⟩:=h;cases ro;obtain ⟨t,rfl⟩:=ri;obtain ⟨its,n,r,ho,hz⟩:=I.lst hp;obtain ⟨h1,h2,h3,h4⟩:=Z1m hj;have hl:=r.length;have hn:=Ex;have I':Inv X pins σ (Yn H p (.lst (xs.set j v))) { s with heap:=s.heap.update p (Obj.mapSeq (·.setIfInBounds j u)) } :=
  I.lstUpd hp ho (Z09 its n j u) (r.set rv j) (by rw [length_set];exact hz) s.toks
 by_cases h0:0<=k
 ·have hk:k.toNat=j:=by
   rw [seqIndex_of h0 h4] at h1;exact Option.some.inj h1
  exact PySem.W.ki_setAt ho h0 (by lia) (by rw [size_toArray,← hl];exact h4) (by rw [hk];exact ⟨_,I',q⟩)
 ·have hk:(k+(its.toArray.size:Int)).toNat=j:=by
   rw [seqIndex_neg (by lia) h3] at h1;rw [size_toArray,← hl];exact Option.some.inj h1
  exact PySem.W.ki_setBack ho (by lia) (by rw [size_toArray,← hl];exact h3) (by lia) (by rw [hk];exact ⟨_,I',q⟩)
theorem Xx (lo hi:Option Int) (n:Nat):(sliceBounds lo hi none n).1=((HT.sIx n 0 lo:Nat):Int)/\(sliceBounds lo hi none n).2.1=((HT.sIx n n hi:Nat):Int)/\(sliceBounds lo hi none n).2.2=1:=by
 refine ⟨?_,?_,rfl⟩
 ·cases lo with
  | none=>simp [sliceBounds,HT.sIx]
  | some i =>
   simp only [sliceBounds,HT.sIx,Option.getD_none,show (1:Int) > 0 by decide,if_true];by_cases h:i<0
   ·simp only [h,if_true]<;>lia
   ·simp only [h,if_false]<;>lia
 ·cases hi with
  | none=>simp [sliceBounds,HT.sIx]
  | some i =>
   simp only [sliceBounds,HT.sIx,Option.getD_none,show (1:Int) > 0 by decide,if_true];by_cases h:i<0
   ·simp only [h,if_true]<;>lia
   ·simp only [h,if_false]<;>lia
theorem Op (its:List Value) (lo hi:Option Int):slicePick its.toArray lo hi none=((its.drop (HT.sIx its.length 0 lo)).take (HT.sIx its.length its.length hi - HT.sIx its.length 0 lo)).toArray:=by
 obtain ⟨h1,h2,h3⟩:=Xx lo hi its.toArray.size;unfold slicePick;rw [h1,h2,h3];simp only [sliceRange_one,pick_run,size_toArray]<;>rfl
def Zgb (K:Zzy):V->Option Int->Option Int->Hp->VK->Prop:=fun x lo hi H Q=>∃ a xs,x=.ref a/\Dy K H a xs/\∀ p,H p=none->Q (.ref p) (Yn H p (.lst (An xs lo hi)))
theorem Z9p:SlR X (Zgb X.K):=by
 intro pins s σ H x v vl vu lo hi sl Q I rx hs pl pu h;obtain ⟨a,xs,rfl,hx,q⟩:=h;cases rx;obtain ⟨its,r,ht,hz⟩:=I.list hx;have hlen:=r.length;refine ⟨"list",_,slot_list_getitem.lookup,ht.isList.typeIs,?_⟩;refine wpAny_getItem_list_slice ht.isList hs pl pu .none (by simp) ?_ (by rw [size_toArray]<;>lia);rw [Op,← hlen];refine ⟨.ref s.heap.objs.size,_,I.laid (t':=s.toks) (o:=.lst (An xs lo hi)) (fun b ob q=>get?_push_of_some _ q) (le_refl _) ?_,rfl,q _ (I.hok.fresh (le_refl _))⟩;exact ⟨le_trans (Kw xs lo hi) hz,_,0,(r.drop (HT.sIx xs.length 0 lo)).take (HT.sIx xs.length xs.length hi - HT.sIx xs.length 0 lo),get?_push_size _ rfl⟩
theorem A0:E5 X (compareOp .NotIn) (fun x y H Q=>∃ i j,x=.str i/\y=.str j/\Q (.bl (!(!(Builtin.Str.occurrences j i 0 j.length 1).isEmpty))) H):=by
 intro pins s σ H x y v u Q I rx ry h;obtain ⟨i,j,rfl,rfl,q⟩:=h;obtain ⟨t,rfl⟩:=rx;obtain ⟨t',rfl⟩:=ry;exact notIn_str ⟨.bl _,H,I,rfl,q⟩
theorem Xh:Vc X (.builtin "len") (fun xs H Q=>∃ p ys,xs=[.ref p]/\(Dy X.K H p ys\/Ed X.K H p ys)/\Q (.int ys.length) H):=by
 intro pins s σ H xs us Q I r h;obtain ⟨p,ys,rfl,hq,q⟩:=h;obtain ⟨u,rfl,rx⟩:=Jz r;cases rx;have hn:=Ex;rcases hq with hq | hq
 ·obtain ⟨its,r',pl,hz⟩:=I.list hq
  have hlen:=r'.length;exact Calls.call_len_list pl.isList (by simp only [size_toArray]<;>lia) ⟨.int ys.length,H,I.tok _,⟨s.toks+1,by rw [size_toArray,hlen]⟩,q⟩
 ·obtain ⟨its,r',pl,hz⟩:=I.tuple hq
  have hlen:=r'.length;exact len_tuple pl (by simp only [size_toArray]<;>lia) ⟨.int ys.length,H,I.tok _,⟨s.toks+1,by rw [size_toArray,hlen]⟩,q⟩
theorem Fb:Vc X (.builtin "len") (fun xs H Q=>∃ z,xs=[.str z]/\z.length<=sizeLine/\Q (.int z.length) H):=by
 intro pins s σ H xs us Q I r h;obtain ⟨z,rfl,hz,q⟩:=h;obtain ⟨u,rfl,t,rfl⟩:=Jz r;have hn:=Ex;exact len_str (by lia) ⟨.int z.length,H,I.tok _,⟨_,rfl⟩,q⟩
theorem Vc.or {f:Value} {r r':List V->Hp->VK->Prop} (h:Vc X f r) (h':Vc X f r'):Vc X f (fun xs H Q=>r xs H Q\/r' xs H Q):=by
 intro pins s σ H xs us Q I rs q;rcases q with q | q
 ·exact h pins s σ H xs us Q I rs q
 ·exact h' pins s σ H xs us Q I rs q
theorem Ie:Vc X (.type "list") (fun xs H Q=>∃ p ys,xs=[.ref p]/\(Dy X.K H p ys\/Ed X.K H p ys)/\∀ l,H l=none->Q (.ref l) (Yn H l (.lst ys))):=by
 intro pins s σ H xs us Q I r h;obtain ⟨p,ys,rfl,hq,q⟩:=h;obtain ⟨u,rfl,rx⟩:=Jz r;cases rx;have fin:∀ (its:List Value),Zx ys its->ys.length<=sizeLine->∀ (h':Heap) (c':Nat),(∀ b o',s.heap.get? b=some o'->h'.get? b=some o') ->
   h'.get? s.heap.objs.size=some { cls:=.type "list",dict:=none,data:=.seq its.toArray c',slots:=#[] }->EP X pins σ Q (.ref s.heap.objs.size) { s with heap:=h' }:=fun its r' hz h' c' kp e =>
  ⟨.ref s.heap.objs.size,_,I.laid (t':=s.toks) kp (le_refl _) (show Yz X.prog X.w _ h' _ (.lst ys) from ⟨hz,its,c',r',e⟩),rfl,q _ (I.hok.fresh (le_refl _))⟩
 rcases hq with hq | hq
 ·obtain ⟨its,r',pl,hz⟩:=I.list hq
  have hlen:=r'.length;obtain ⟨o,ho,hc,n,hd⟩:=pl.isList;exact call_list_seq p (.inl rfl) ho hc hd (fun h' c' kp e=>fin its r' hz h' c' kp e) (by simp only [size_toArray]<;>lia)
 ·obtain ⟨its,r',pl,hz⟩:=I.tuple hq
  have hlen:=r'.length;obtain ⟨o,ho,hc,n,hd⟩:=pl;exact call_list_seq p (.inr rfl) ho hc hd (fun h' c' kp e=>fin its r' hz h' c' kp e) (by simp only [size_toArray]<;>lia)
theorem Ov:Vc X (.type "tuple") (fun xs H Q=>∃ p ys,xs=[.ref p]/\((Dy X.K H p ys/\∀ l,H l=none->Q (.ref l) (Yn H l (.tup ys)))\/(Ed X.K H p ys/\Q (.ref p) H))):=by
 intro pins s σ H xs us Q I r h;obtain ⟨p,ys,rfl,h⟩:=h;obtain ⟨u,rfl,rx⟩:=Jz r;cases rx;rcases h with ⟨hq,q⟩ | ⟨hq,q⟩
 ·obtain ⟨its,r',pl,hz⟩:=I.list hq
  have hlen:=r'.length;refine call_tuple_list pl.isList (fun h' kp=>?_) (by simp only [size_toArray]<;>lia);have I1:Inv X pins σ H { s with heap:=h' }:=I.kept (t':=s.toks) kp;have I2:Inv X pins σ (Yn H h'.objs.size (.tup ys)) { s with heap:=h'.push { cls:=.type "tuple",data:=.seq its.toArray } } :=
   I1.laid (t':=s.toks) (fun b o e=>get?_push_of_some _ e) (le_refl _) (show Yz X.prog X.w _ _ _ (.tup ys) from ⟨hz,its,r',IsTup.new _ _⟩)
  exact ⟨.ref h'.objs.size,_,I2,rfl,q _ (I1.hok.fresh (le_refl _))⟩
 ·obtain ⟨its,r',pl,hz⟩:=I.tuple hq
  exact call_tuple_same pl ⟨.ref p,H,I,rfl,q⟩
def tyV (K:Zzy) (T:String) (x:V) (H:Hp):Prop:=match x with
 | .str _=>T="str"
 | .int _=>T="int"
 | .ref p=>(T="list" /\ ∃ xs,Dy K H p xs)\/(T="tuple" /\ ∃ o,K.lookup p=some o/\o.cls=.type "tuple" /\ o.dict=none) \/
  (T="dict" /\ ((∃ kvs,H p=some (.dK kvs))\/∃ kvs,H p=some (.dT kvs)))\/(T="set" /\ ∃ S n,H p=some (.set S n))
 | _=>False
theorem Zdb {x:V} {v:Value} (I:Inv X pins σ H s) (r:Yb x v) (ty:tyV X.K T x H) :
  s.TypeIs v T/\∀ a,v=.ref a->∃ ob,s.heap.get? a=some ob/\ob.dict=none:=by
 cases x with
 | str z =>
  obtain ⟨t,rfl⟩:=r;cases (show T="str" from ty);exact ⟨typeIs_str s z t,fun _ e=>nomatch e⟩
 | int i =>
  obtain ⟨t,rfl⟩:=r;cases (show T="int" from ty);exact ⟨typeIs_int s i t,fun _ e=>nomatch e⟩
 | ref p =>
  cases r;rcases ty with ⟨rfl,xs,hq⟩ | ⟨rfl,o,hk,hc,hd⟩ | ⟨rfl,hk⟩ | ⟨rfl,S,n,hk⟩
  ·obtain ⟨its,_,pl,_⟩:=I.list hq
   refine ⟨pl.isList.typeIs,fun a e=>?_⟩;cases e;obtain ⟨o,n,e,c,hd,_⟩:=pl;exact ⟨o,e,hd⟩
  ·refine ⟨⟨o,I.kIn p o hk,hc⟩,fun a e=>?_⟩
   cases e;exact ⟨o,I.kIn _ o hk,hd⟩
  ·have z:∃ o,s.heap.get? p=some o/\o.ExactDict:=by
    rcases hk with ⟨kvs,hk⟩ | ⟨kvs,hk⟩
    ·obtain ⟨_,_,_,_,o,_,_,e,ex,_⟩:=I.hok p _ hk
     exact ⟨o,e,ex⟩
    ·obtain ⟨_,_,_,_,o,_,_,e,ex,_⟩:=I.hok p _ hk
     exact ⟨o,e,ex⟩
   obtain ⟨o,e,ex⟩:=z;refine ⟨⟨o,e,ex.1⟩,fun a e2=>?_⟩;cases e2;exact ⟨o,e,ex.2.1⟩
  ·obtain ⟨o,_,_,_,e,ex,_⟩:=I.hok p _ hk
   refine ⟨⟨o,e,ex.1⟩,fun a e2=>?_⟩;cases e2;exact ⟨o,e,ex.2.1⟩
 | _=>exact False.elim ty
def tBM (K:Zzy) (T:String) (r:V->List V->Hp->VK->Prop) (to:TE) (t:TA):TE:=fun σ H Q=>to σ H fun x H1=>tyV K T x H1/\t σ H1 fun xs H2=>r x xs H2 Q
variable {o e:Expr} {es:List Expr} {to:TE} {t:TA} {name:Str} {apos cpos:Pos} {T id:String} {r:V->List V->Hp->VK->Prop}
theorem Z21 (pa:PlainAttrs T) (slot:Slot T name id) (hty:typeOf (.builtin id)=pure (.type "method_descriptor")) (hm:MtR X id r) (ho:PE X o to) (ha:PA X (e::es) t)
   (hbase:attributeBase o name X.env (eval o X.env)=eval o X.env:=by rfl)
   (hfew:((backTo cpos (starEach (e::es) X.env)).all (fun x=>!x.1)&&(backToKw cpos (keywordEach [] X.env)).all (fun x=>x.1.isSome)
     && decide ((e::es).length+([]:List Keyword).length+(if ([]:List Keyword).isEmpty then 0 else 1)<30))=true:=by rfl)
   (hline:(apos.endLine==cpos.line)=true:=by rfl) (hs:starEach (e::es) X.env=(false,eval e X.env)::starEach es X.env:=by rfl) (hplain:(backTo cpos (starEach es X.env)).any (·.1)=false:=by rfl) :
   PE X (.Call (.Attribute o name apos) (e::es) [] cpos) (tBM X.K T r to t):=by
 intro pins s σ H Q I h;refine wpAny_Call_method_late hbase hfew hline rfl (Wp (ho pins s σ H _ I h) fun v s1 ⟨x,H1,I1,r1,ty,q1⟩=>?_);obtain ⟨h1,h2⟩:=Zdb I1 r1 ty;refine ⟨T,id,pa,slot,hty,h1,h2,?_⟩;have hA:=ha cpos pins s1 σ H1 _ I1 q1;rw [hs] at hA ⊢;refine Calls.callWith_builtin (by show (false||(backTo cpos (starEach es X.env)).any (·.1))=false;rw [hplain]<;>rfl) (Calls.evalArgs_plain ?_);exact Wp hA fun us s2 ⟨vs,H2,I2,r2,q2⟩=>hm pins s2 σ H2 x vs v us Q I2 r1 r2 q2
end
def MtM (X:Cx) (id:String) (r:V->List V->Hp->VK->Prop):Prop :=
 ∀ (pins:Zzx) (s:Shared) (σ:St) (H:Hp) (x:V) (xs:List V) (v:Value) (us:List Value) (Q:VK),Inv X pins σ H s->Yb x v->Zx xs us->r x xs H Q ->
  wpAny (model X.prog X.w) X.A (call (.builtin id) (v::us)) (EP X pins σ Q) X.xe s
theorem Zx.one:∀ {x:V} {us:List Value},Zx [x] us->∃ u,us=[u]/\Yb x u
 | _,_,.cons r .nil=>⟨_,rfl,r⟩
theorem Zx.eraseIdx:∀ {xs:List V} {us:List Value} (i:Nat),Zx xs us->Zx (xs.eraseIdx i) (us.eraseIdx i)
 | _,_,_,.nil=>.nil
 | _,_,0,.cons _ t=>t
 | _,_,i+1,.cons r t=>.cons r (Zx.eraseIdx i t)
theorem Pp:∀ (l:List α) (i:Nat),(l.eraseIdx i).length<=l.length
 | [],_=>le_refl _
 | _::_,0=>le_succ _
 | _::r,i+1=>Nat.succ_le_succ (Pp r i)
section
variable {X:Cx} {pins:Zzx} {σ:St} {H:Hp} {s:Shared} {l b:Addr} {xs ys zs:List V}
theorem Inv.lset {its':List Value} {n:Nat} {f:Array Value->Array Value} (I:Inv X pins σ H s) (hH:H l=some (.lst xs))
  (e:s.heap.get? l=some { cls:=.type "list",data:=.seq its.toArray n }) (hf:f its.toArray=its'.toArray) (hv:Zx ys its') (hz:ys.length<=sizeLine) :
  Inv X pins σ (Yn H l (.lst ys)) { s with heap:=s.heap.update l (Obj.mapSeq f),toks:=t' }:=by
 have q:=PySem.IsL.update e f;rw [hf] at q;refine I.write (x:=l) (e:=l) (by rw [hH];exact trivial) (.inl rfl) (fun b' u hb hu=>(get?_update_other s.heap (Obj.mapSeq f) (Ne.symm hb)).trans hu) ⟨_,q⟩ ?_;exact ⟨hz,its',_,hv,q⟩
theorem Inv.lnew (I:Inv X pins σ H s) (hv:Zx ys its) (hz:ys.length<=sizeLine) :
  Inv X pins σ (Yn H s.heap.objs.size (.lst ys)) { s with heap:=s.heap.push { cls:=.type "list",data:=.seq its.toArray },toks:=t' } :=
 I.laid (fun _ _ q=>get?_push_of_some _ q) (le_refl _) ⟨hz,its,0,hv,get?_push_size _ rfl⟩
theorem Inv.fresh (I:Inv X pins σ H s):H s.heap.objs.size=none:=I.hok.fresh (le_refl _)
theorem Inv.lstM (I:Inv X pins σ H s) (hH:H l=some (.lst xs)):xs.length<=sizeLine/\∃ (its:List Value) (n:Nat),Zx xs its/\xs.length=its.length/\s.heap.get? l=some { cls:=.type "list",data:=.seq its.toArray n }:=by
 obtain ⟨z,its,n,r,e⟩:=I.hok l _ hH;exact ⟨z,its,n,r,r.length,e⟩
theorem Z70 {n:Nat} (h:n<=sizeLine):Builtin.List.listTooLong n=false:=by
 unfold Builtin.List.listTooLong;exact decide_eq_false (by lia)
end
section
variable {X:Cx}
def Za8:V->List V->Hp->VK->Prop:=fun x vs H Q=>∃ l xs y,x=.ref l/\vs=[y]/\H l=some (.lst xs)/\xs.length<sizeLine/\Q .non (Yn H l (.lst (xs++[y])))
theorem Pl:MtM X "list.append" Za8:=by
 intro pins s σ H x vs v us Q I rx rv h;obtain ⟨l,xs,y,rfl,rfl,hH,hz,q⟩:=h;cases rx;obtain ⟨u,rfl,ru⟩:=rv.one;obtain ⟨z,its,n,r,hl,e⟩:=I.lstM hH;refine call_meets F.slot_list_append ⟨_,e,rfl⟩ F.entry_list_append (F.args_list_append_2 _ _) (PySem.list_append l its.toArray n u (by rw [size_toArray];lia)) ⟨e,?_⟩;refine ⟨.non,_,I.lset (its':=its++[u]) hH e (by simp) (r.append (.cons ru .nil)) ?_,rfl,q⟩;rw [length_append,length_singleton];lia
def Zbr:V->List V->Hp->VK->Prop:=fun x vs H Q=>∃ l xs i k y,x=.ref l/\vs=[.int i]/\H l=some (.lst xs)/\-(2^63)<=i/\i<2^63/\seqIndex? i xs.length=some k/\xs[k]?=some y/\Q y (Yn H l (.lst (xs.eraseIdx k)))
theorem Z56:MtM X "list.pop" Zbr:=by
 intro pins s σ H x vs v us Q I rx rv h;obtain ⟨l,xs,i,k,y,rfl,rfl,hH,h1,h2,hk,hy,q⟩:=h;cases rx;obtain ⟨u,rfl,ru⟩:=rv.one;obtain ⟨t,rfl⟩:=ru;obtain ⟨z,its,n,r,hl,e⟩:=I.lstM hH;obtain ⟨w,hw,rw'⟩:=r.get hy;refine call_meets F.slot_list_pop ⟨_,e,rfl⟩ F.entry_list_pop (F.args_list_pop_2 _ _)
  (MeetsSeq.list_pop_at l its.toArray n i t k w (fitsIndex_both h1 h2) (by rw [size_toArray,← hl];exact hk) (by rw [← Array.getElem?_toList];exact hw) (by rw [size_toArray];lia)) ⟨e,?_⟩
 refine ⟨y,_,I.lset (its':=its.eraseIdx k) hH e ?_ (r.eraseIdx k) ?_,rw',q⟩
 ·show its.toArray.eraseIdxIfInBounds k=(its.eraseIdx k).toArray
  rw [List.eraseIdxIfInBounds_toArray]
 ·have:=Pp xs k
  lia
end
section
variable {prog:Program} {w:World} {A:Around} {E:Zzz} {s:Shared}
end
section
variable {X:Cx}
end
end L2
namespace Att
open PySem PySem.W PySem.Calls PyProof.Rows
theorem Ld {P:Params} :∀ (ns:List Int) (vs:List Value),WellAll P h vs (ns.map WData.int)->IntsAre vs ns:=by
 intro ns;induction ns with
 | nil =>
  intro vs w;rw [map_nil] at w;cases w;exact .nil
 | cons n ns ih =>
  intro vs w;rw [map_cons] at w;cases w with
  | cons a b =>
   cases a;exact .cons _ _ (ih _ b)
theorem Z50 {l:OpenLaw} {n:Nat} (hn:l.most=some n) {P:Params} {args:List WData} {vals:List Value}
   (hpre:l.row.toRowW.claim.pre args=true) (hwl:WellAll P h vals args) :
   ∃ a vs ns,vals=[Value.ref a]/\args=[WData.list (ns.map WData.int)]/\h.get? a=some { cls:=.type "list",data:=.seq vs.toArray }/\IntsAre vs ns/\ns.length<=n:=by
 have hsh:WShape.hasAll [] args [.list .int]=true:=(pre_splitW hpre).1;have hc:l.pre.holds [] { args:=args }=true:=(pre_splitW hpre).2;obtain ⟨d,r,rfl,h1,h2⟩:=hasAllW_cons hsh;obtain rfl:=hasAllW_nil h2;obtain ⟨xs,rfl,h3⟩:=hasW_list h1;obtain ⟨ns,rfl⟩:=items_int h3;have hlen:ns.length<=n:=by
   unfold OpenLaw.pre at hc;have h4:(WTm.not (.lt (.lit (.int (n:Int))) (.len (.arg 0)))).holds [] { args:=[.list (ns.map .int)] }=true:=by
     have h4:=(holds_andW hc).1;rw [hn] at h4;exact h4
   have h5:=condW_of h4 (w_not (w_lt w_lit (w_len_list (w_arg rfl))));rw [length_map] at h5;refine Nat.le_of_not_lt fun q=>?_
   have q':(n:Int)<((ns.length:Nat):Int):=by lia
   first
     | (rw [decide_eq_true q'] at h5;exact absurd h5 (by decide))
     | (simp at h5;lia)
 cases hwl with
 | cons w1 w2 =>
   cases w2;cases w1 with
   | list ho hall=>exact ⟨_,_,ns,rfl,rfl,ho,Ld ns _ hall,hlen⟩
theorem Z46 (l:OpenLaw) (args:List WData):l.row.toRowW.claim.post args (.bool true) args=true :=
 postW_of (r:=l.row.toRowW) (X:=(true==true))
  (show WShape.has [] (.bool true) .bool=true by first | rfl | decide | simp [WShape.has,WShape.arms,WShape.armsAll])
  (show (WTm.eq .res (.lit (.bool true))).value [] { args:=args,res:=some (.bool true),after:=args }=some (.bool (true==true)) from w_eq_bool (w_res rfl) w_lit) rfl
theorem attach_call {l:OpenLaw} {n:Nat} {q:Program} {loose:List Str} {XP:(Str->Option Value)->Heap->Prop} {YP:World->Heap->Prop} {d:DefRec}
  (hn:l.most=some n) (hdf:d.params.defaults=[])
  (call:∀ (w:World) (s₀ s₁:Shared) (mg mb:Zzw) (fa:Addr) (o:Obj) (pm cd doc:Value) (a:Addr) (vs:List Value) (ns:List Int),
   Ground q loose [] XP w s₀ mg mb s₁.heap->YP w s₁.heap ->
   s₁.heap.get? fa=some o->o.data=.func (docDef d.name d.params d.body d.scope pm cd doc)->s₁.heap.CodeRec cd d.name->mg d.name=some (.ref fa) ->
   s₁.heap.get? a=some { cls:=.type "list",data:=.seq vs.toArray }->IntsAre vs ns->ns.length<=n->s₁.gens=#[] ->
   codeAny (model l.prog w) callerA (.call (.ref fa) ⟨[.ref a],[]⟩) (fun r s'=>r=.ok (.ret (.bool true))/\OldK s₁.heap s'.heap/\s'.os=s₁.os/\AllBare s'.gens) s₁) :
  WalkO q loose XP YP l.row.toRowW d [] (fun f vs=>PySem.call f vs):=by
 intro w s₀ s₁ mg mb G Y fa o pm cd doc dV kV ho hd hcd hD hmg hg args vals as hpre hlay hrd hwl hlo;obtain rfl:dV=.none:=Dflts.none hD hdf;obtain rfl:kV=.none:=Dflts.noKw hD;obtain ⟨a,vs,ns,rfl,rfl,hobj,hints,hlen⟩:=Z50 hn hpre hwl;refine enter_call (codeAny_mono (call w s₀ s₁ mg mb fa o pm cd doc a vs ns G Y ho (fd_plain hd) hcd hmg hobj hints hlen hg) fun r s' hq=>?_);obtain ⟨rfl,h2,h3,h4⟩:=hq;exact ⟨.inl ⟨.bool true,.bool true,[],rfl,fun _=>rfl,.bool true,Z46 l _,fun _=>⟨List.Pairwise.nil,fun _ hm=>(nomatch hm)⟩⟩,h2,h3,h4⟩
section
variable {prog:Program} {w:World} {A:Around} {E:Zzz} {s:Shared} {K:Frag}
end
end Att
namespace L2
open PySem PySem.Spec PyProof.Rows
theorem Pj:∀ {vs:List Value} {ns:List Int},IntsAre vs ns->Zx (ns.map V.int) vs
 | _,_,.nil=>.nil
 | _,_,.cons n t h=>.cons ⟨t,rfl⟩ (Pj h)
def SL (K:Zzy) (H:Hp) (a:Addr) (xs:List V):Prop :=
 Rd H a (.lst xs)\/∃ (its:List Value) (n:Nat),K.lookup a=some { cls:=.type "list",data:=.seq its.toArray n }/\xs.length<=sizeLine/\Zx xs its
def Zel (H:Hp):Prop:=∀ b,H b=none\/∃ o xs,H b=some (.frz o (.lst xs))
theorem Z6a {mb:Zzw} {fa:Addr} {x:Str} {s₁:Shared} {vs:List Value} 
  (KX:K.In s₁.heap) (hns:s₁.heap.Ns mainGlobals mg) (hb:s₁.heap.Ns builtinsNs mb) (hbb:∀ x:Str,x≠"__name__" -> mb x=bootBuiltins x) (hlim:s₁.heap.NoLimit) (hg:s₁.gens=#[])
  (ha:s₁.heap.get? a=some { cls:=.type "list",data:=.seq vs.toArray }) (hi:IntsAre vs ns) (hl:ns.length<=sizeLine) (hr:Room k callerA)
  (F:∀ base:Heap,K.In base->base.Ns mainGlobals mg->FnOk P w K mg base CX k fa fd [x] sp) (hbind:∀ (s:Shared) (u:Value),BindsTo s fd ⟨[u],[]⟩ [(x,u)])
  (hsp:∀ H:Hp,Zel H->SL K H a (ns.map V.int)->sp [.ref a] H (fun v _=>v=.bl true) fun _ _ _=>False)
  (hCX:∀ H e s',CX [] H s₁ (fun _ _ _=>False) e s'->False) :
  codeAny (model P w) callerA (.call (.ref fa) ⟨[.ref a],[]⟩) (fun r s'=>r=.ok (.ret (.bool true))/\OldK s₁.heap s'.heap/\s'.os=s₁.os/\AllBare s'.gens) s₁:=by
 have rv:=Pj hi;have lenV:=hi.length
 -- from an abstract heap in which nothing but the script may be tracked
 have core:∀ H:Hp,Zel H->SL K H a (ns.map V.int)->S4 P w H s₁.heap->(∀ b,H b≠none->b=a)->(H a≠none->K.lookup a=none) ->
   codeAny (model P w) callerA (.call (.ref fa) ⟨[.ref a],[]⟩) (fun r s'=>r=.ok (.ret (.bool true))/\OldK s₁.heap s'.heap/\s'.os=s₁.os/\AllBare s'.gens) s₁:=by
  intro H hO hS hok hA hK;have base_of:∀ {b:Addr} {o:Obj},s₁.heap.get? b=some o->H b=none->(X7 s₁.heap H).get? b=some o:=fun e n=>Z6b e n
  have noA:∀ {b:Addr} {o:Obj} {es:Array DictEntry} {ep:Nat},s₁.heap.get? b=some o->o.data=.dict es ep->H b=none:=fun {b o es ep} e d=>by
   cases q:H b with
   | none=>rfl
   | some u =>
    have e':b=a:=hA b (by rw [q];simp);subst e';rw [ha] at e;cases e;have d':Data.seq vs.toArray _=Data.dict es ep:=d;cases d'
  have nsK:∀ {b:Addr} {m:Zzw},s₁.heap.Ns b m->(X7 s₁.heap H).Ns b m:=fun {b m} ⟨o,es,ep,e,d,r⟩=>⟨o,es,ep,base_of e (noA e d),d,r⟩
  have hKb:K.In (X7 s₁.heap H):=fun b o e=>base_of (KX b o e) (by
   cases q:H b with
   | none=>rfl
   | some u =>
    have e':b=a:=hA b (by rw [q];simp);subst e';rw [hK (by rw [q];simp)] at e;cases e)
  have hM:Mod K mg (X7 s₁.heap H):=⟨hKb,nsK hns,⟨mb,nsK hb,hbb⟩,let ⟨mc,h1,h2⟩:=hlim;⟨mc,nsK h1,h2⟩⟩;have e0:Env0 P w K mg (X7 s₁.heap H) callerA [] s₁ H:=⟨rfl,hM,fun b o e=>Z8x e,le_of_eq (Z44 _ _),trivial,fun b hb=>absurd (show b∈([]:List Addr) from hb) (by simp),hok,.of_eq hg⟩;refine codeAny_mono ((F _ hKb (nsK hns)).run callerA [] s₁ H ⟨[.ref a],[]⟩ [.ref a] [.ref a] _ _ hr e0 (hbind s₁ (.ref a)) (.cons rfl .nil) (hsp H hO hS)) fun r s' h=>?_
  cases r with
  | error e=>exact (hCX H e s' h).elim
  | ok fl =>
   cases fl with
   | next=>exact False.elim h
   | brk=>exact False.elim h
   | cont=>exact False.elim h
   | ret u =>
    obtain ⟨v,H',os,bare,un,hok',r',q⟩:=h;have q':v=.bl true:=q;subst q';obtain rfl:u=Value.bool true:=r';refine ⟨rfl,OldK.of_keep fun b o e=>?_,os,bare⟩;cases q:H b with
    | none=>exact un.keep b o e q (by intro z;exact absurd (show b∈([]:List Addr) from z) (by simp)) (by simp)
    | some u =>
     rcases hO b with z | ⟨ob,xs,z⟩
     ·rw [q] at z;cases z
     ·have z2:=un.frzs b ob _ z
      obtain ⟨e1,_⟩:=hok b _ z;obtain ⟨e2,_⟩:=hok' b _ z2;rw [e] at e1;cases e1;exact e2
 cases hk:K.lookup a with
 | some o =>
  -- the script is one of the module's own objects
  have e:=KX a o hk;rw [ha] at e;cases e;refine core (fun _=>none) (fun _=>.inl rfl) (.inr ⟨vs,_,hk,by rw [length_map];exact hl,rv⟩) (fun b u z=>by have z':(none:Option HO)=some u:=z;cases z') (fun b z=>absurd rfl z) fun z=>absurd rfl z
 | none =>
  refine core (fun b=>if b=a then some (.frz { cls:=.type "list",data:=.seq vs.toArray } (.lst (ns.map V.int))) else none) (fun b=>?_) (.inl (.inr ⟨{ cls:=.type "list",data:=.seq vs.toArray },if_pos rfl⟩)) (fun b u z=>?_) (fun b z=>?_) fun _=>hk
  ·by_cases hb:b=a
   ·exact .inr ⟨_,_,if_pos hb⟩
   ·exact .inl (if_neg hb)
  ·by_cases hb:b=a
   ·have z':=(if_pos hb).symm.trans z
    cases z';subst hb;exact ⟨ha,by rw [length_map];exact hl,vs,_,rv,ha⟩
   ·have z':=(if_neg hb).symm.trans z
    cases z'
  ·by_cases hb:b=a
   ·exact hb
   ·exact absurd (if_neg hb) z
theorem Zh5 {l:PySem.W.OpenLaw} {n:Nat} {q:Program} {loose:List Str} {XP:(Str->Option Value)->Heap->Prop} {YP:World->Heap->Prop} {d:DefRec} {K:Params->Zzy} {CX:World->Ow} {sp:World->Sp} {x:Str}
  (hn:l.most=some n) (hn2:n<=sizeLine) (hdf:d.params.defaults=[]) (hr:Room k callerA)
  (hY:∀ (w:World) (h:Heap),YP w h->(K w.params).In h)
  (F:∀ (w:World) (mg:Zzw) (fa:Addr) (h:Heap),(K w.params).In h->h.Ns mainGlobals mg->mg d.name=some (.ref fa) ->
   ∃ fd:FuncData,(∀ (s:Shared) (u:Value),BindsTo s fd ⟨[u],[]⟩ [(x,u)]) /\
    ∀ base:Heap,(K w.params).In base->base.Ns mainGlobals mg->FnOk l.prog w (K w.params) mg base (CX w) k fa fd [x] (sp w))
  (hsp:∀ (w:World) (H:Hp) (a:Addr) (ns:List Int),ns.length<=n->Zel H->SL (K w.params) H a (ns.map V.int)->sp w [.ref a] H (fun v _=>v=.bl true) fun _ _ _=>False)
  (hCX:∀ (w:World) (H:Hp) (s:Shared) (e:Value) (s':Shared),CX w [] H s (fun _ _ _=>False) e s'->False) :
  PySem.W.WalkO q loose XP YP l.row.toRowW d [] (fun f vs=>PySem.call f vs):=by
 refine Att.attach_call hn hdf fun w s₀ s₁ mg mb fa o pm cd doc a vs ns G Y ho hd hcd hmg hobj hints hlen hg=>?_
 have KX:=hY w _ Y;obtain ⟨fd,hb,hF⟩:=F w mg fa _ KX G.T.g hmg;exact Z6a KX G.T.g G.T.b G.T.builtins G.T.nolimit hg hobj hints (le_trans hlen hn2) hr hF hb (fun H hO hS=>hsp w H a ns hlen hO hS) fun H e s'=>hCX w H s₁ e s'
def Ig (s:Stmt) (j:Nat):Stmt:=match s with
 | .ClassDef _ _ _ body _ _ _ _ _ _ _=>body.getD j (.Pass ⟨0,0,0,0⟩)
 | _=>.Pass ⟨0,0,0,0⟩
def Wc (s:Stmt):Arguments:=match s with
 | .FunctionDef _ a _ _ _ _ _ _ _ _=>a
 | _=>{ posonlyargs:=[],args:=[],vararg:=none,kwonlyargs:=[],kw_defaults:=[],kwarg:=none,defaults:=[] }
def Y2 (s:Stmt):List Stmt:=match s with
 | .FunctionDef _ _ b _ _ _ _ _ _ _=>b
 | _=>[]
def Z4 (s:Stmt):Scope:=match s with
 | .FunctionDef _ _ _ _ _ _ sc _ _ _=>sc
 | _=>{ kind:=.function,names:=[],isGenerator:=false,isCoroutine:=false }
abbrev E4:Ow:=fun _ _ _ _ _ _=>False
abbrev E0:XK:=fun _ _ _=>False
theorem Zb3:O9 E4 X E0:=fun _ _ _ _ _ _ _ h=>h.elim
structure Fun (K:Zzy) (x qual:Str) (st:Stmt) (f:Addr) (fd:FuncData):Prop where
 ex:∃ (oc:Value) (od:Option Addr) (kV doc pm:Value) (an:Option Addr) (cdv ct:Value) (osl:Array (Option Value)),
  fd=fnOf x qual (Wc st) (Y2 st) (Z4 st) .none kV doc pm an cdv ct/\K.lookup f=some ⟨oc,od,.func fd,osl⟩/\codeIn K cdv qual=true
 kp:PySem.W.keepIn K (.ref f)=true
section
variable {P:Program} {w:World} {K:Zzy} {mg:Zzw} {base:Heap}
theorem Fun.ok {x:Str} {st:Stmt} {f:Addr} (F:Fun K x qual st f fd) (S:FnScope N ps (Z4 st)) (len:∀ vs H Q E,sp vs H Q E->vs.length=ps.length)
  (hbody:∀ (cdv:Value) (A:Around) (outer:List Env) (s:Shared) (H:Hp) (vs:List V) (Q:VK) (E:XK),Room k (A.deeper (envOfC qual (Z4 st) s.heap.objs.size f cdv))->sp vs H Q E ->
   ∃ t,Dh (Te E4 P w K mg base N qual (Z4 st) f cdv A outer s H E).nox (Y2 st) t/\t { nx:=fun _ H'=>Q .non H',rt:=Q } (start N vs) H):FnOk P w K mg base E4 (k+1) f fd ps sp:=by
 obtain ⟨oc,od,kV,doc,pm,an,cdv,ct,osl,rfl,lk,hcd⟩:=F.ex;refine Zaz lk hcd S len fun A outer s H vs Q E hr hsp=>?_
 obtain ⟨t,h,q⟩:=hbody cdv A outer s H vs Q E hr hsp;exact ⟨t,h.nox,q⟩
theorem Fun.binds {x:Str} {st:Stmt} {f:Addr} (F:Fun K x qual st f fd)
  (h:∀ (kV doc pm:Value) (an:Option Addr) (cdv ct:Value) (us:List Value),us.length=ps.length->bindArgs (fnOf x qual (Wc st) (Y2 st) (Z4 st) .none kV doc pm an cdv ct) ⟨us,[]⟩=pure (ps.zip us)):M9 K fd ps []:=by
 obtain ⟨oc,od,kV,doc,pm,an,cdv,ct,osl,rfl,lk,hcd⟩:=F.ex;exact .all (h kV doc pm an cdv ct)
theorem Ey {x:Str} {st:Stmt} {f:Addr} {osl:Array (Option Value)} {kV doc cdv:Value} (l:K.lookup f=some ⟨oc,od,.func (fnOf x qual (Wc st) (Y2 st) (Z4 st) .none kV doc pm an cdv ct),osl⟩)
 (c:codeIn K cdv qual=true) (k:PySem.W.keepIn K (.ref f)=true):Fun K x qual st f (fnOf x qual (Wc st) (Y2 st) (Z4 st) .none kV doc pm an cdv ct):=⟨⟨oc,od,kV,doc,pm,an,cdv,ct,osl,rfl,l,c⟩,k⟩
end
theorem Z5k {A:Around} (hr:Room k A):A.units+1<cLine:=lt_of_le_of_lt (Nat.add_le_add_left (by decide:1<=64) _) hr.units
theorem U1 {n:Nat} (h:n<=1000):n<sizeLine:=lt_of_le_of_lt h (by decide)
section
variable {X:Cx}
theorem pv (i:Nat) {x:Str} (hN:X.N[i]?=some x:=by rfl) (hv:Vis X.env.scope x:=by first | exact Or.inl rfl | exact Or.inr (Or.inl rfl) | exact Or.inr (Or.inr rfl)) (hd:(x==("__debug__" : Str))=false:=by decide)
 (hcd:(x==("__classdict__" : Str))=false:=by decide):PE X (.Name x pos) (Mi i):=Qs hN hv hd hcd
end
theorem Z9n {A B:Prop} (h:B):if false=true then A else B:=by
 rw [if_neg Bool.false_ne_true];exact h
theorem Za5 {A B:Prop} (h:A):if true=true then A else B:=by
 rw [if_pos rfl];exact h
def Zo (H H':Hp):Prop:=∀ b o,H b=some o->H' b=some o
theorem Zo.refl (H:Hp):Zo H H:=fun _ _ h=>h
theorem Zo.trans {H2:Hp} (a:Zo H H1) (b:Zo H1 H2):Zo H H2:=fun c o h=>b c o (a c o h)
theorem Zo.free (e:Zo H H') {l:Addr} (h:H' l=Option.none):H l=Option.none:=by
 cases q:H l with
 | none=>rfl
 | some o =>
  rw [e l o q] at h;cases h
theorem Bv {A:Around} {R:Result->Shared->Prop} {elt target iter:Expr} {ifs:List Expr} {scope:Scope} {pos:Pos} {it acc:Value} {env:Env} (I:Nat->Shared->Prop)
  (turn:∀ n s,I n s->wpAny (model prog w) A (pyNext it) (fun r s₁=>match r with
   | none=>R (.ok .next) s₁
   | some v=>wpAny (model prog w) A (letOwnedTupleGo target it v) (fun _ s₁'=>wpAny (model prog w) A (assign target env v) (fun _ s₂ =>
    wpAny (model prog w) A (forIn ifs true fun c r=>if r=true then do let ok ← isTrue c env (eval c env);pure (ForInStep.yield ok) else pure (ForInStep.yield r)) (fun ok s₃ =>
     if ok=true then wpAny (model prog w) A (eval elt env) (fun x s₄ =>
      wpAny (model prog w) A (call (.builtin "list.append") [acc,x]) (fun _ s₅=>∃ m,m<n/\I m s₅) (fun _ _=>False) s₄) (fun _ _=>False) s₃
     else ∃ m,m<n/\I m s₃) (fun _ _=>False) s₂) (fun _ _=>False) s₁') (fun _ _=>False) s₁) (fun _ _=>False) s)
  (n:Nat) (h:I n s) :
  codeAny (model prog w) A (.compLoop (.ListComp elt [⟨target,iter,ifs,0⟩] scope pos) 0 it acc env) R s:=by
 refine codeAny_loop rfl I (fun n s hI=>?_) n h;show wpAny _ A ((compTurn (.ListComp elt [⟨target,iter,ifs,0⟩] scope pos) 0 it acc env).onRaise (fun x=>do noteFrame x env;theTreesLotGoes x)) _ _ s;refine wpAny_noted ?_;rw [compTurn_list];refine wpAny_bind (wpAny_standAt (wpAny_bind (wpAny_mono (turn n s hI) (fun r s₁ h₁=>?_) fun _ _ h'=>h'.elim)));cases r with
 | none=>exact wpAny_pure h₁
 | some v =>
  refine wpAny_bind (wpAny_mono h₁ (fun _ s₁' h₁'=>?_) fun _ _ h'=>h'.elim);refine wpAny_bind (wpAny_mono h₁' (fun _ s₂ h₂=>wpAny_bind (wpAny_mono h₂ (fun ok s₃ h₃=>?_) fun _ _ h'=>h'.elim)) fun _ _ h'=>h'.elim);cases ok with
  | false=>exact wpAny_pure ⟨rfl,h₃⟩
  | true =>
   exact wpAny_bind (wpAny_bind (wpAny_mono h₃ (fun x s₄ h₄=>wpAny_bind (wpAny_mono h₄ (fun _ s₅ h₅=>wpAny_pure (wpAny_pure ⟨rfl,h₅⟩)) fun _ _ h'=>h'.elim)) fun _ _ h'=>h'.elim))
def Ir (cells:List (Str×Addr)):List (Str×NameKind)->List (Str×Addr)->List (Str×Addr)
 | [],acc=>acc
 | (n,k)::r,acc=>Ir cells r (if k==.free then (n,(cells.lookup n).getD 0)::acc else acc)
theorem Ol {env:Env} (h:∀ y∈sc.names,y.2=.free->∃ c,env.cells.lookup y.1=some c):closureFor sc env=pure (Ir env.cells sc.names []):=by
 unfold closureFor;generalize ([]:List (Str×Addr))=acc;generalize hl:sc.names=names at h;clear hl;induction names generalizing acc with
 | nil=>rfl
 | cons y r ih =>
  obtain ⟨n,k⟩:=y;have ih':=fun acc=>ih acc fun y hy=>h y (mem_cons_of_mem _ hy)
  dsimp only at ih' ⊢;rw [List.forIn_cons];by_cases hk:k=.free
  ·subst hk
   obtain ⟨c,hc⟩:=h (n,.free) mem_cons_self rfl;simp only [cellOf,hc,beq_self_eq_true,if_true,pure_bind,Ir,Option.getD_some];exact ih' _
  ·have hb:(k==NameKind.free)=false:=by simpa using hk
   simp only [hb,Bool.false_eq_true,if_false,pure_bind,Ir];exact ih' _
theorem Ko {cells:List (Str×Addr)}:∀ (names:List (Str×NameKind)) (acc:List (Str×Addr)),(∀ y∈names,y.2=.free->∃ c,cells.lookup y.1=some c)->(∀ x c,acc.lookup x=some c->cells.lookup x=some c) ->
   ∀ x c,(Ir cells names acc).lookup x=some c->cells.lookup x=some c
 | [],_,_,ha,x,c,e=>ha x c e
 | (n,k)::r,acc,h,ha,x,c,e=>by
   unfold Ir at e;refine Ko r _ (fun y hy=>h y (mem_cons_of_mem _ hy)) (fun x' c' e'=>?_) x c e;split at e'
   · rename_i hk
     have hk':k=.free:=by simpa using hk
     obtain ⟨c0,hc0⟩:=h (n,k) mem_cons_self hk';simp only at hc0;rw [lookup_cons] at e';split at e'
     · rename_i hx
       have hx':x'=n:=by simpa using hx
       subst hx';rw [hc0] at e';simp at e';rw [hc0,e']
     · exact ha x' c' e'
   · exact ha x' c' e'
theorem N8 {cells:List (Str×Addr)}:∀ (names:List (Str×NameKind)) (acc:List (Str×Addr)) (x:Str),((x,NameKind.free)∈names\/(acc.lookup x).isSome=true)->((Ir cells names acc).lookup x).isSome=true
 | [],acc,x,h=>by
   rcases h with h | h
   · simp at h
   · exact h
 | (n,k)::r,acc,x,h=>by
   unfold Ir;refine N8 r _ x ?_;rcases h with h | h
   · rcases mem_cons.mp h with e | h
     · cases e
       right;simp
     · exact .inl h
   · right
     split
     · rw [lookup_cons]
       split
       · rfl
       · exact h
     · exact h
def Wl (X:Cx) (sc:Scope) (N:List Str) (C:Addr) (s:Shared) (H:Hp) (fp:List Addr):Cx :=
 { X with N:=N,s₀:=s,H₀:=H,env:=compEnvC sc (Ir X.env.cells sc.names []) C X.env,outer:=X.stack,ex:=fp,fn:=fun _=>false,pn:=[],xe:=fun _ _=>False }
def Zb6 (psc sc:Scope) (NX N:List Str) (fs:List (Option Nat)):Bool :=
 N.length==fs.length&&(N.zip fs).all (fun p=>match p.2 with | none=>true | some j=>NX[j]?==some p.1&&sc.names.lookup p.1==some .free) &&
 sc.names.all (fun y=>y.2 != .cell&&(y.2 != .free||(psc.names.lookup y.1==some .cell||psc.names.lookup y.1==some .free))&&(y.2 != .local||sc.names.lookup y.1==some .local))&&sc.kind==.function
structure CompOk (psc sc:Scope) (NX N:List Str) (fs:List (Option Nat)):Prop where
 len:N.length=fs.length
 frees:∀ (i j:Nat),fs[i]?=some (some j)->∃ x,N[i]?=some x/\NX[j]?=some x/\sc.names.lookup x=some .free
 nocell:∀ y∈sc.names,y.2≠.cell
 par:∀ y∈sc.names,y.2=.free->psc.names.lookup y.1=some .cell\/psc.names.lookup y.1=some .free
 loc:∀ y∈sc.names,y.2=.local->sc.names.lookup y.1=some .local
 kind:sc.kind=.function
theorem CompOk.of {psc:Scope} {NX:List Str} {fs:List (Option Nat)} (h:Zb6 psc sc NX N fs=true):CompOk psc sc NX N fs:=by
 unfold Zb6 at h;simp only [Bool.and_eq_true,beq_iff_eq,all_eq_true,bne_iff_ne,ne_eq,Bool.or_eq_true] at h;obtain ⟨⟨⟨h1,h2⟩,h3⟩,h4⟩:=h;refine ⟨h1,fun i j e=>?_,fun y hy=>(h3 y hy).1.1,fun y hy e=>?_,fun y hy e=>?_,h4⟩
 ·have hi:i<fs.length:=(List.getElem?_eq_some_iff.mp e).1
  have hN:i<N.length:=by lia
  have hz:(N.zip fs)[i]?=some (N[i],some j):=by
   rw [List.getElem?_zip_eq_some];exact ⟨by simp [hN],e⟩
  have:=h2 _ (mem_of_getElem? hz);simp only [Bool.and_eq_true,beq_iff_eq] at this;exact ⟨N[i],by simp [hN],this.1,this.2⟩
 ·rcases (h3 y hy).1.2 with z | z
  ·exact absurd e z
  ·exact z
 ·rcases (h3 y hy).2 with z | z
  ·exact absurd e z
  ·exact z
theorem Ei {env:Env} {x:Str} {k:NameKind} (nc:∀ y∈sc.names,y.2≠.cell) (h:(relabel sc env).names.lookup x=some k) (hk:k=.cell\/k=.free):(x,NameKind.free)∈sc.names:=by
 have hm:=PySem.mem_of_lookup h;unfold relabel at hm;simp only [mem_map] at hm;obtain ⟨⟨n,k'⟩,hy,e⟩:=hm;dsimp only at e;split at e
 ·rename_i hc
  simp only [Bool.and_eq_true,beq_iff_eq] at hc;cases e;rw [hc.1.1] at hy;exact hy
 ·cases e
  rcases hk with z | z
  ·exact absurd z (nc _ hy)
  ·rw [z] at hy;exact hy
theorem A9 {env:Env} {x:Str} (h:sc.names.lookup x=some .free):(relabel sc env).names.lookup x=some .cell\/(relabel sc env).names.lookup x=some .free:=by
 unfold relabel;dsimp only;generalize sc.names=names at h;induction names with
 | nil=>simp at h
 | cons y r ih =>
  obtain ⟨n,k⟩:=y;rw [lookup_cons] at h;rw [map_cons];split at h
  ·rename_i hx
   cases h;have:x=n:=by simpa using hx
   subst this;dsimp only;split
   ·left;rw [lookup_cons];simp
   ·right;rw [lookup_cons];simp
  ·rename_i hx
   dsimp only;split
   ·rw [lookup_cons,hx];exact ih h
   ·rw [lookup_cons,hx];exact ih h
section
variable {X:Cx} {pins:Zzx} {σ:St} {H:Hp} {s:Shared} {sc psc:Scope} {N:List Str} {fs:List (Option Nat)} {C:Addr} {fp:List Addr}
theorem G8 (I:Inv X pins σ H s) (hp:X.env.scope=psc) (S:CompOk psc sc X.N N fs):∀ y∈sc.names,y.2=.free->∃ c,X.env.cells.lookup y.1=some c:=fun y hy e=>by
 refine I.ok.has y.1 ?_;have:=S.par y hy e;rw [← hp] at this;exact this
theorem Me (I:Inv X pins σ H s) (hp:X.env.scope=psc) (S:CompOk psc sc X.N N fs):∀ x c,(Ir X.env.cells sc.names []).lookup x=some c->X.env.cells.lookup x=some c :=
 Ko sc.names [] (G8 I hp S) fun x c e=>by simp at e
theorem Z37 (I:Inv X pins σ H s) (hp:X.env.scope=psc) (S:CompOk psc sc X.N N fs) (hf:∀ b∈fp,E7 X pins H b) (hfl:∀ b∈fp,b<s.heap.objs.size) (hC:s.heap.objs.size<=C):(Wl X sc N C s H fp).Ok where
 mod:=I.ok.mod
 kind:=S.kind
 glob:=I.ok.glob
 blt:=I.ok.blt
 above:=hC
 inj:=fun x y c h1 h2=>I.ok.inj x y c (Me I hp S x c h1) (Me I hp S y c h2)
 has:=fun x hx=>by
  have hm:(x,NameKind.free)∈sc.names:=by
   rcases hx with hx | hx
   ·exact Ei S.nocell hx (.inl rfl)
   ·exact Ei S.nocell hx (.inr rfl)
  exact Option.isSome_iff_exists.mp (N8 sc.names [] x (.inl hm))
 cab:=fun x c h _=>by cases h
 hd:=I.ok.hd
 frames:=I.ok.frames
 stk:=.inl rfl
 exf:=fun b hb=>⟨ne_of_lt (lt_of_lt_of_le (hfl b hb) hC),fun x c e=>(hf b hb).2.2.2.2.1 x c (Me I hp S x c e)⟩
 bs:=I.bs
 bsz:=le_trans I.ok.bsz I.sz
 noex:=fun b o e hb=>by
  rcases (hf b hb).2.2.2.1 with z | z
  ·exact I.ok.noex b o e z
  ·exact absurd (lt_of_lt_of_le (lt_size e) (le_trans I.ok.bsz z)) (lt_irrefl _)
 exfs:=fun b hb hs=>by
  rcases mem_cons.mp (I.stkSub b hs) with z | z
  ·exact (hf b hb).2.1 z
  ·exact (hf b hb).2.2.1 z
 funs:=I.stack
 frf:=I.stkFree
def Vp (fs:List (Option Nat)) (σ:St):St:=fs.map fun o=>match o with | none=>none | some j=>(σ[j]?).getD none
theorem Z0k {h₁:Heap} {oD:Obj} {m₁:Zzw} (I:Inv X pins σ H s) (hp:X.env.scope=psc) (S:CompOk psc sc X.N N fs) (hf:∀ b∈fp,E7 X pins H b) (hfl:∀ b∈fp,b<s.heap.objs.size) (hC:s.heap.objs.size<=C)
  (old:∀ b o,s.heap.get? b=some o->h₁.get? b=some o) (hn:h₁.Ns C m₁) (hD:h₁.get? D=some oD) (hDs:s.heap.objs.size<=D) (hDC:D≠C) (hDd:∀ v,oD.data≠.cell v) :
  Inv (Wl X sc N C s H fp) [(D,oD)] (Vp fs σ) H { s with heap:=h₁,toks:=tk }:=by
 refine ⟨Z37 I hp S hf hfl hC,rfl,I.bare,Un.kept old,⟨m₁,hn,fun i x v e1 e2 e3=>?_⟩,fun x c e=>?_,I.hok.fresh hC,fun x c e=>I.freeC x c (Me I hp S x c e),fun p hpn=>?_,I.hok.kept old,?_⟩
 ·unfold Vp at e2
  rw [getElem?_map] at e2;cases hfi:fs[i]? with
  | none=>rw [hfi] at e2;cases e2
  | some o =>
   rw [hfi] at e2;cases o with
   | none=>simp at e2
   | some j =>
    simp only [Option.map_some,Option.some.injEq] at e2;obtain ⟨x',ex,ej,el⟩:=S.frees i j hfi;have:x'=x:=by
     have q:N[i]?=some x:=e1;rw [ex] at q;exact Option.some.inj q
    subst this;have ev:σ[j]?=some (some v):=by
     cases q:σ[j]? with
     | none=>rw [q] at e2;simp at e2
     | some z=>rw [q] at e2;simp at e2;rw [e2]
    have kk:X.env.scope.names.lookup x'=some .cell\/X.env.scope.names.lookup x'=some .free:=by
     rw [hp];exact S.par (x',.free) (PySem.mem_of_lookup el) rfl
    obtain ⟨m,hm,hl⟩:=I.loc;obtain ⟨u,r,l⟩:=hl j x' v ej ev (by
     rcases kk with k | k
     ·exact .inr (.inl k)
     ·exact .inr (.inr k))
    refine ⟨u,r,.inr ⟨A9 el,?_⟩⟩;rcases l with ⟨k,_⟩ | ⟨_,c,hc,hcell⟩
    ·have k':X.env.scope.names.lookup x'=some .local:=k
     rcases kk with z | z<;>rw [z] at k'<;>cases k'
    ·obtain ⟨c',hc'⟩:=Option.isSome_iff_exists.mp (N8 (cells:=X.env.cells) sc.names [] x' (.inl (PySem.mem_of_lookup el)))
     have:=Me I hp S x' c' hc';rw [hc] at this;cases this;obtain ⟨oc,ho,hd⟩:=hcell;exact ⟨c,hc',oc,old _ _ ho,hd⟩
 ·obtain ⟨v,oc,ho,hd⟩:=I.cell x c (Me I hp S x c e)
  exact ⟨v,oc,old _ _ ho,hd⟩
 ·have hpn':p=(D,oD):=by
   rcases mem_append.mp hpn with z | z
   ·exact absurd (show p∈([]:Zzx) from z) (by simp)
   ·simpa using z
  subst hpn';refine ⟨hD,I.hok.fresh hDs,hDC,fun hs=>?_,hDd⟩;have hb:D∈X.env.locals::X.fs:=I.stkSub D hs;rcases mem_cons.mp hb with z | z
  ·exact absurd (lt_of_lt_of_le I.lt (by rw [← z];exact hDs)) (lt_irrefl _)
  ·exact I.nofs hDs z
 ·show (Vp fs σ).length=N.length
  unfold Vp;rw [length_map,S.len]
theorem S4.adopt {ys:List V} {n:Nat} (ok:S4 P w H h) (hD:H D=none) (ho:h.get? D=some { cls:=.type "list",data:=.seq its.toArray n }) (r:Zx ys its) (hz:ys.length<=sizeLine) :
  S4 P w (Yn H D (.lst ys)) h:=fun b u e=>by
 by_cases hb:b=D
 ·subst hb
  rw [Zg] at e;cases e;exact ⟨hz,its,n,r,ho⟩
 ·rw [Za hb] at e
  refine (ok b u e).stay (fun c v _ q=>q) (fun c q=>?_) fun c xs q=>?_
  ·rw [Za (Y4 q hD)];exact q
  ·rw [Za (Y4 q hD)];exact q
theorem Un.adopt {fs ex:List Addr} (u:Un fs ex H H' h h') (hD:h.objs.size<=D) (hn:H' D=none):Un fs ex H (Yn H' D o) h h' where
 keep:=u.keep
 slot:=u.slot
 free:=fun b ob q n hx=>by rw [Za (ne_of_lt (lt_of_lt_of_le (lt_size q) hD))];exact u.free b ob q n hx
 there:=u.there
 tups:=fun b xs q=>by rw [Za (Y4 (u.tups b xs q) hn)];exact u.tups b xs q
 frzs:=fun b ob x q=>by rw [Za (Y4 (u.frzs b ob x q) hn)];exact u.frzs b ob x q
 tbls:=fun b ps q=>by
  obtain ⟨more,e⟩:=u.tbls b ps q;exact ⟨more,by rw [Za (Y4 e hn)];exact e⟩
def PIf (Y:Cx) (ifs:List Expr) (tt:TT):Prop :=
 ∀ (pins:Zzx) (s:Shared) (σ:St) (H:Hp) (Q:Bool->Hp->Prop),Inv Y pins σ H s->tt σ H Q ->
  wpAny (model Y.prog Y.w) Y.A (forIn ifs true fun c r=>if r=true then do let ok ← isTrue c Y.env (eval c Y.env);pure (ForInStep.yield ok) else pure (ForInStep.yield r)) (TP Y pins σ Q) Y.xe s
def Zi2:TT:=fun _ H Q=>Q true H
theorem Z91 {Y:Cx}:PIf Y [] Zi2:=fun _ _ _ H _ I h=>wpAny_tests_nil ⟨H,I,h⟩
theorem Z8i {Y:Cx} {c:Expr} {tc:TT} (h:PT Y c tc):PIf Y [c] tc:=fun pins s σ H Q I q=>wpAny_tests_one (h pins s σ H Q I q)
def Ext (σ σ2:St):Prop:=σ.length=σ2.length/\∀ (i:Nat) v,σ[i]?=some (some v)->σ2[i]?=some (some v)
def Zbg (wi:TI) (fs:List (Option Nat)) (g:TG) (tt:TT) (te:TE):TE:=fun σ H Q=>wi σ H fun J H1=>∃ W:Nat->Nat->List V->Hp->Prop,(∃ m,W 0 m [] H1)/\∀ i m ys H,W i m ys H ->
 (J.stop i H/\ys.length<=sizeLine/\∀ p,H p=none->Q (.ref p) (Yn H p (.lst ys))) \/
 (J.go i H/\ys.length<=sizeLine/\∃ N:List V->Hp->Prop,(∀ ys' H',N ys' H'->∃ m',m'<m/\W (i+1) m' ys' H')/\∀ x H',J.yld i H x H'->g x (Vp fs σ) H' fun σ2 H2=>Ext (Vp fs σ) σ2 /\
  tt σ2 H2 fun b H3=>if b=true then te σ2 H3 fun v H4=>N (ys++[v]) H4 else N ys H3)
theorem Cb {tn:Nat->Heap->Prop} {J:It} {g:TG} {tt:TT} {RR:Value->Addr->Result->Shared->Prop}
  (hp:X.env.scope=psc) (S:CompOk psc sc X.N N fs) (hc:X.calm=true)
  (hb:∀ (C:Addr) (s:Shared) (H:Hp) (fp:List Addr),PG (Wl X sc N C s H fp) tg g/\PIf (Wl X sc N C s H fp) ifs tt/\PE (Wl X sc N C s H fp) elt te)
  (I:Inv X pins σ H s) (T:Turn X.prog X.w X.K tg J fp it tn) (st:tn 0 s.heap) (hf:∀ b∈fp,E7 X pins H b) {Q:VK}
  (hW:∃ W:Nat->Nat->List V->Hp->Prop,(∃ m,W 0 m [] H)/\∀ i m ys H,W i m ys H ->
   (J.stop i H/\ys.length<=sizeLine/\∀ p,H p=none->Q (.ref p) (Yn H p (.lst ys))) \/
   (J.go i H/\ys.length<=sizeLine/\∃ N:List V->Hp->Prop,(∀ ys' H',N ys' H'->∃ m',m'<m/\W (i+1) m' ys' H')/\∀ x H',J.yld i H x H'->g x (Vp fs σ) H' fun σ2 H2=>Ext (Vp fs σ) σ2 /\
    tt σ2 H2 fun b H3=>if b=true then te σ2 H3 fun v H4=>N (ys++[v]) H4 else N ys H3))
  (hRR:∀ (D C:Addr) (s':Shared) (H':Hp),(∃ m,s'.heap.Ns C m)->Inv X pins σ H' s'->E7 X pins H' C->Q (.ref D) H'->RR (.ref D) C (.ok .next) s') :
  wpAny (model X.prog X.w) X.A (newList []) (fun acc s₃=>wpAny (model X.prog X.w) X.A (newFunctionEnv sc X.env.globals (Ir X.env.cells sc.names []) [] X.env.qual none .none (some X.env)) (fun cenv s₄ =>
   codeAny (model X.prog X.w) X.A (.compStart (.ListComp elt [⟨tg,iter,ifs,0⟩] sc pos) 0 (.ref it) acc { cenv with scope:=relabel sc X.env }) (RR acc cenv.locals) s₄) E s₃) E s:=by
 refine wpAny_newObj_type (wpAny_newFunctionEnv S.nocell (by intro y hy;simp at hy) (fun h₁ hns₁ hsb₁=>?_) S.kind);dsimp only at hns₁ hsb₁ ⊢;generalize hH2:s.heap.push { cls:=.type "list",dict:=none,data:=.seq ([]:List Value).toArray }=G2 at hns₁ hsb₁ ⊢;have hC:G2.objs.size=s.heap.objs.size+1:=by rw [← hH2,size_push]
 have hDC:s.heap.objs.size≠G2.objs.size:=by rw [hC];exact ne_of_lt (lt_succ_self _)
 have hCle:s.heap.objs.size<=G2.objs.size:=by rw [hC];exact le_succ _
 have below:∀ b,b<s.heap.objs.size->b≠G2.objs.size/\b≠s.heap.objs.size:=fun b hb=>⟨by rw [hC];exact ne_of_lt (Nat.lt_succ_of_lt hb),ne_of_lt hb⟩
 have hfl:∀ b∈fp,b<s.heap.objs.size:=fun b hb=>by
  obtain ⟨o,e,_⟩:=T.obj _ _ st b hb;exact lt_size e
 have old:∀ b o,s.heap.get? b=some o->h₁.get? b=some o:=fun b o e=>hsb₁.extBut b o (below b (lt_size e)).1 (get?_push_of_some _ (hH2▸get?_push_of_some _ e))
 have hacc:h₁.get? s.heap.objs.size=some { cls:=.type "list",data:=.seq ([]:List Value).toArray 0 }:=hsb₁.extBut _ _ hDC (get?_push_of_some _ (hH2▸get?_push_size _ rfl));have st1:tn 0 h₁:=T.keep _ _ _ st fun b _ o e=>old b o e
 obtain ⟨W,⟨m0,w0⟩,turn⟩:=hW;obtain ⟨pg,pif,pe⟩:=hb G2.objs.size s H fp;generalize hY:Wl X sc N G2.objs.size s H fp=Y at pg pif pe;have Ye:Y.env=compEnvC sc (Ir X.env.cells sc.names []) G2.objs.size X.env:=by rw [← hY];rfl
 have YA:Y.A=X.A:=by rw [← hY];rfl
 have Yp:Y.prog=X.prog:=by rw [← hY];rfl
 have Yw:Y.w=X.w:=by rw [← hY];rfl
 have YK:Y.K=X.K:=by rw [← hY];rfl
 have Yx:Y.xe=fun _ _=>False:=by rw [← hY];rfl
 have Yc:Y.calm=true:=by rw [← hY];exact hc
 have cellN:∀ x c,X.env.cells.lookup x=some c->c<s.heap.objs.size:=fun x c e=>by
  obtain ⟨v,q⟩:=I.cell x c e;exact q.lt
 have loop:∀ s₃:Shared,s₃={ s with heap:=h₁,toks:=s.toks+([]:List (Str×Value)).length } ->
   codeAny (model X.prog X.w) X.A (.compLoop (.ListComp elt [⟨tg,iter,ifs,0⟩] sc pos) 0 (.ref it) (.ref s.heap.objs.size) (compEnvC sc (Ir X.env.cells sc.names []) G2.objs.size X.env)) (RR (.ref s.heap.objs.size) G2.objs.size) s₃:=by
  rintro s₃ rfl;refine Bv (fun n s'=>∃ (i:Nat) (H':Hp) (ys:List V) (its:List Value) (k:Nat),Zx ys its/\Inv Y [(s.heap.objs.size,{ cls:=.type "list",data:=.seq its.toArray k })] (Vp fs σ) H' s'/\tn i s'.heap/\(∀ b∈fp,H' b=none)/\W i n ys H') ?_ m0
   ⟨0,H,[],[],0,.nil,hY▸Z0k (D:=s.heap.objs.size) I hp S hf hfl hCle old hns₁ hacc (le_refl _) hDC (fun v z=>by cases z),st1,fun b hb=>(hf b hb).1,w0⟩
  rintro n s1 ⟨i,H1,ys,its,k,rv,I1,st',fr1,w1⟩;have stat:∀ {H':Hp} {pl:Zzx},(∀ b∈fp,H' b=none)->(∀ p∈pl,p.1=s.heap.objs.size)->∀ b∈fp,E7 Y pl H' b:=fun {H' pl} hn hpl b hb=>by
   rw [← hY];refine ⟨hn b hb,(below b (hfl b hb)).1,fun z=>?_,.inl hb,fun x c e=>(hf b hb).2.2.2.2.1 x c (Me I hp S x c e),fun p hpp=>?_⟩
   ·rcases mem_cons.mp (I.stkSub b z) with z | z
    ·exact (hf b hb).2.1 z
    ·exact (hf b hb).2.2.1 z
   ·have hpp':p∈pl:=by
     rcases mem_append.mp hpp with z | z
     ·exact absurd (show p∈([]:Zzx) from z) (by simp)
     ·exact z
    rw [hpl p hpp'];exact Ne.symm (below b (hfl b hb)).2
  have one:∀ {o:Obj} (p:Addr×Obj),p∈([(s.heap.objs.size,o)]:Zzx)->p.1=s.heap.objs.size:=fun {o} p hpp=>by
   have:p=_:=mem_singleton.mp hpp;rw [this]
  rcases turn i n ys H1 w1 with ⟨stop,hz,qn⟩ | ⟨go,hz,N',hN,step⟩
  ·have:=T.done Y Yp Yw YK Yc i _ s1 _ H1 (fun _ _=>False) I1 (stat fr1 one) st' stop
   rw [YA] at this;refine Wp this fun r s4 ⟨hr,I4⟩=>?_
   subst hr;have Ib:=I4.base;have pinD:=I4.pin (s.heap.objs.size,_) (mem_append_right _ mem_cons_self);obtain ⟨mC,hmC,_⟩:=I4.loc;have e1:Y.fs=E9 X.stack:=by rw [← hY];rfl
   have e2:Y.ex=fp:=by rw [← hY];rfl
   have e3:Y.H₀=H:=by rw [← hY];rfl
   have e4:Y.s₀=s:=by rw [← hY];rfl
   have e5:Y.env.locals=G2.objs.size:=by rw [← hY];rfl
   rw [e1,e2,e3,e4] at Ib;rw [e5] at hmC;have hok4:S4 X.prog X.w H1 s4.heap:=by
    have:=I4.hok;rw [Yp,Yw] at this;exact this
   have freeC:H1 G2.objs.size=none:=by have:=I4.free;rw [e5] at this;exact this
   have freeC':Yn H1 s.heap.objs.size (.lst ys) G2.objs.size=none:=by rw [Za (Ne.symm hDC)];exact freeC
   have os4:s4.os=s.os:=by have:=I4.os;rw [e4] at this;exact this
   refine hRR _ _ s4 (Yn H1 s.heap.objs.size (.lst ys)) ⟨mC,hmC⟩ ?_ (I.fpOk hCle freeC') (qn _ pinD.2.1);exact I.call' (s':=s4) (ch:=fp) os4 (Ib.adopt (le_refl _) pinD.2.1) (hok4.adopt pinD.2.1 pinD.1 rv hz) I4.bare fun b hb=>⟨(hf b hb).2.2.2.1,(hf b hb).2.1,(hf b hb).2.2.2.2.1,(hf b hb).2.2.2.2.2⟩
  ·have:=T.item Y Yp Yw YK Yc i _ s1 _ H1 (fun _ _=>False) I1 (stat fr1 one) st' go
   rw [YA] at this;refine Wp this fun r s4 ⟨u,hr,h4⟩=>?_
   subst hr;refine Wp h4 fun _ s5 ⟨x,H5,I5,r5,y5,st5,fr5⟩=>?_
   have I5':=I5.pinned (stat fr5 one) (T.obj _ _ st5);have a1:=pg _ s5 _ H5 x u _ I5' r5 (step x H5 y5);rw [YA,Yp,Yw,Yx,Ye] at a1;refine Wp a1 fun _ s6 ⟨σ6,H6,I6,ext,q6⟩=>?_
   have a2:=pif _ s6 σ6 H6 _ I6 q6;rw [YA,Yp,Yw,Yx,Ye] at a2;refine Wp a2 fun b s7 ⟨H7,I7,q7⟩=>?_
   have back:∀ {H8:Hp} {s8:Shared},Inv Y ([(s.heap.objs.size,({ cls:=.type "list",data:=.seq its.toArray k }:Obj))]++Ng fp s5.heap) σ6 H8 s8->Inv Y [(s.heap.objs.size,{ cls:=.type "list",data:=.seq its.toArray k })] (Vp fs σ) H8 s8/\tn (i+1) s8.heap/\∀ b∈fp,H8 b=none:=fun {H8 s8} I8 =>
    ⟨I8.unpinned.weak ext.1 ext.2,T.keep _ _ _ st5 fun b hb o e=>(I8.pin (b,o) (mem_append_right _ (mem_append_right _ (Rl hb e)))).1,fun b hb=>by
     obtain ⟨o,e,d⟩:=T.obj _ _ st5 b hb;exact (I8.pin (b,o) (mem_append_right _ (mem_append_right _ (Rl hb e)))).2.1⟩
   cases b with
   | false =>
    rw [if_neg Bool.false_ne_true] at q7 ⊢;obtain ⟨m',hm,w7⟩:=hN _ _ q7;obtain ⟨I7',st7,fr7⟩:=back I7;exact ⟨m',hm,i+1,H7,ys,its,k,rv,I7',st7,fr7,w7⟩
   | true =>
    rw [if_pos rfl] at q7 ⊢;have a3:=pe _ s7 σ6 H7 _ I7 q7;rw [YA,Yp,Yw,Yx,Ye] at a3;refine Wp a3 fun y s8 ⟨v,H8,I8,r8,q8⟩=>?_
    obtain ⟨m',hm,w8⟩:=hN _ _ q8;obtain ⟨I8',st8,fr8⟩:=back I8;have pinD:=I8'.pin (s.heap.objs.size,_) (mem_append_right _ mem_cons_self);refine append_at (hsz:=by show its.toArray.size<=sizeLine;rw [size_toArray,← rv.length];exact hz) pinD.1 fun h9 hs9 hD9=>?_
    have e5:Y.env.locals=G2.objs.size:=by rw [← hY];rfl
    have I9:Inv Y [] (Vp fs σ) H8 { s8 with heap:=h9 }:=by
     have J0:Inv Y [] (Vp fs σ) H8 s8:=I8'.pins_of fun p hp=>absurd hp (by simp)
     refine J0.turned (t':=s8.toks) (it:=s.heap.objs.size) (fun b o hb e=>hs9.extBut b o hb e) pinD.2.1 (by rw [e5];exact hDC) (.inr ?_) (fun x c e=>?_) fun p hp=>?_
     ·rw [← hY];exact le_refl _
     ·rw [← hY] at e
      exact ne_of_lt (cellN x c (Me I hp S x c e))
     ·rw [← hY] at hp
      exact absurd (show p∈([]:Zzx) from hp) (by simp)
    refine ⟨m',hm,i+1,H8,ys++[v],its++[y],k+1,rv.append (.cons r8 .nil),I9.pins_of fun p hp=>?_,T.keep _ _ _ st8 fun b hb o e=>hs9.extBut b o (below b (hfl b hb)).2 e,fr8,w8⟩;have:p=_:=mem_singleton.mp hp;subst this;refine ⟨?_,pinD.2.1,pinD.2.2.1,pinD.2.2.2.1,fun v z=>by cases z⟩;have e9:its.toArray.push y=(its++[y]).toArray:=by simp
    rw [← e9];exact hD9
 exact codeAny_compStart_list (loop _ rfl) (T.self _ 0 _ _ _ st1 (loop _ rfl))
theorem Inv.letGo {H':Hp} (I:Inv X pins σ H s) (f:E7 X pins H C) (hs:SameBut C s.heap h'):Inv X pins σ H { s with heap:=h' }:=by
 obtain ⟨f0,f1,f2,f3,f4,f5⟩:=f;exact I.turned (t':=s.toks) (fun b o hb e=>hs.extBut b o hb e) f0 f1 f3 f4 f5
theorem Z9t {wi:TI} {g:TG} {tt:TT} (psc:Scope) (fs:List (Option Nat)) (N:List Str) (hp:X.env.scope=psc) (S:CompOk psc sc X.N N fs) (hc:X.calm=true) (hi:PI X tg iter wi)
  (hb:∀ (C:Addr) (s:Shared) (H:Hp) (fp:List Addr),PG (Wl X sc N C s H fp) tg g/\PIf (Wl X sc N C s H fp) ifs tt/\PE (Wl X sc N C s H fp) elt te)
  (hs:∀ x,foldedSetIterable iter X.env x=pure x:=by intro _;rfl):PE X (.ListComp elt [⟨tg,iter,ifs,0⟩] sc pos) (Zbg wi fs g tt te):=by
 intro pins s σ H Q I h;rw [eval_ListComp];refine wpAny_comprehension_free (use:=none) rfl hs (Ol (G8 I hp S)) S.kind S.loc (Wp (hi pins s σ H _ I h) fun xv s₁ h₁=>Wp h₁ fun itv s₂ h₂=>?_);obtain ⟨it,fp,tn,J,H2,e,I2,T,st2,f2,hW⟩:=h₂;subst e;refine Cb (RR:=fun acc C=>compPost (model X.prog X.w) X.A X.xe none (EP X pins σ Q) acc C) hp S hc hb I2 T st2 f2 hW ?_;intro D C s' H' ⟨m,hm⟩ I' f q;exact ⟨m,hm,fun h' hs'=>⟨.ref D,H',I'.letGo (H':=H') f hs',rfl,q⟩⟩
theorem Ga {x:Str} {wi:TI} {g:TG} {tt:TT} (hN:X.N.Nodup) (hi':X.N[i]?=some x) (hx:B2 X.env.scope x) (psc:Scope) (fs:List (Option Nat)) (N:List Str) (hp:X.env.scope=psc) (S:CompOk psc sc X.N N fs) (hc:X.calm=true) (hi:PI X tg iter wi)
  (hb:∀ (C:Addr) (s:Shared) (H:Hp) (fp:List Addr),PG (Wl X sc N C s H fp) tg g/\PIf (Wl X sc N C s H fp) ifs tt/\PE (Wl X sc N C s H fp) elt te)
  (hs:∀ x,foldedSetIterable iter X.env x=pure x:=by intro _;rfl) (hsw:swapsWith (.ListComp elt [⟨tg,iter,ifs,0⟩] sc pos) (some (.Name x pos')) spos.line X.env=pure true:=by rfl)
  (hf:X.fn x=true\/X.env.scope.names.lookup x=some .local:=by first | exact .inl rfl | exact .inr rfl | assumption) :
  PS X (.Assign [.Name x pos'] (.ListComp elt [⟨tg,iter,ifs,0⟩] sc pos) spos) (Zcn (Zbg wi fs g tt te) (Z29 i)):=by
 intro pins s σ H D I h;rw [exec_Assign_Name_used _ _ _ _ hsw];refine wpAny_bind (wpAny_standAt (wpAny_bind ?_));show wpAny _ X.A (do let _ ← comprehension (.ListComp elt [⟨tg,iter,ifs,0⟩] sc pos) sc X.env _ (newList []) false (eval iter X.env) (some (assign (.Name x pos') X.env))) _ _ s;refine wpAny_bind (wpAny_mono (wpAny_comprehension_free (use:=some (assign (.Name x pos') X.env)) (Q:=fun _ s'=>SP X pins D .next s') rfl hs (Ol (G8 I hp S)) S.kind S.loc
  (Wp (hi pins s σ H _ I h) fun xv s₁ h₁=>Wp h₁ fun itv s₂ h₂=>?_)) (fun _ s' hq=>wpAny_pure (wpAny_pure hq)) fun _ _ e=>e)
 obtain ⟨it,fp,tn,J,H2,e,I2,T,st2,f2,hW⟩:=h₂;subst e;refine Cb (Q:=fun v H'=>Z29 i v σ H' D.nx) (RR:=fun acc C=>compPost (model X.prog X.w) X.A X.xe (some (assign (.Name x pos') X.env)) (fun _ s'=>SP X pins D .next s') acc C) hp S hc hb I2 T st2 f2 hW ?_;intro L C s' H' ⟨m,hm⟩ I' f q;refine wpAny_assign_Name (Py I' hN hi' hx (show Yb (V.ref L) (Value.ref L) from rfl) (fun s'' I'' ⟨a,hsb,ha⟩=>?_) hf);have hCa:C≠a:=by
  rintro rfl;rcases ha with z | z
  ·exact f.2.1 z
  ·exact f.2.2.2.2.1 x _ z rfl
 refine ⟨m,hm.sameBut hsb hCa,fun h' hs'=>⟨_,H',I''.letGo (H':=H') f hs',q⟩⟩
end
section
variable {t u:TS} {a b c:St->Hp->Prop} {r:VK} {σ:St} {H:Hp} {te ta tb:TE} {tc td:TT} {Q:VK} {i:Nat}
end
section
variable {X:Cx}
def Zg5 (K:Zzy):List V->Hp->VK->Prop:=fun xs H Q=>(∃ p ys,xs=[.ref p]/\(Dy K H p ys\/Ed K H p ys)/\(ys.length<=sizeLine->Q (.int ys.length) H))\/∃ z,xs=[.str z]/\z.length<=sizeLine/\Q (.int z.length) H
theorem Z39:Vc X (.builtin "len") (Zg5 X.K):=by
 intro pins s σ H xs us Q I r h;rcases h with ⟨p,ys,e,hq,q⟩ | h
 ·refine Xh pins s σ H xs us Q I r ⟨p,ys,e,hq,q ?_⟩
  rcases hq with hq | hq
  ·exact (I.list hq).choose_spec.2.2
  ·exact (I.tuple hq).choose_spec.2.2
 ·exact Fb pins s σ H xs us Q I r h
theorem PI.or {w1 w2:TI} (h1:PI X tg iter w1) (h2:PI X tg iter w2):PI X tg iter (fun σ H R=>w1 σ H R\/w2 σ H R):=by
 intro pins s σ H R I h;rcases h with h | h
 ·exact h1 pins s σ H R I h
 ·exact h2 pins s σ H R I h
def Zj4 (K:Zzy) (tl:TE):TI:=fun σ H R=>Zbf K tl σ H R\/Zgn K tl σ H R
theorem Z59 {l:Expr} (hl:PE X l tl):PI X tg l (Zj4 X.K tl):=(Z9h hl).or (Zem hl)
end
section
variable {K:Zzy} {tl:TE} {ta:TA} {g:TG} {tb:TS} {D:Ends} {σ:St} {H:Hp} {a b c:St->Hp->Prop} {r:VK}
variable {tt:TT} {te:TE} {fs:List (Option Nat)} {Q:VK}
end
structure Def (K:Zzy) (mg:Zzw) (x:Str) (st:Stmt):Prop where
 ex:∃ f fd,Fun K x x st f fd/\mg x=some (.ref f)
structure Cal (P:Program) (w:World) (K:Zzy) (mg:Zzw) (base:Heap) (k:Nat) (x:Str) (ps:List Str) (sp:Sp):Prop where
 ex:∃ f fd,FnOk P w K mg base E4 k f fd ps sp/\mg x=some (.ref f)/\PySem.W.keepIn K (.ref f)=true/\M9 K fd ps []
def Zfi (sp:Sp) (t:TA):TE:=fun σ H Q=>t σ H fun vs H1=>sp vs H1 Q E0
section
variable {P:Program} {w:World} {K:Zzy} {mg:Zzw} {base:Heap}
theorem Zdn {x:Str} {e:Expr} {t:TA} (C:Cal X.prog X.w X.K X.mg X.base k x ps sp) (hr:Room k X.A) (ha:PA X (e::es) t) (hg:Gl X x:=by rfl)
  (hdb:(x==("__debug__" : Str))=false:=by decide) (he:starEach (e::es) X.env=(false,eval e X.env)::starEach es X.env:=by rfl) (hpl:(backTo pos (starEach es X.env)).any (·.1)=false:=by rfl) :
  PE X (.Call (.Name x p) (e::es) [] pos) (Zfi sp t):=by
 obtain ⟨f,fd,F,hm,hk,hb⟩:=C.ex;have:=Z99 (dvs:=[]) (ds:=[]) (E:=E0) F hr hg hm hk hb .nil Zb3 ha hdb he hpl (p:=p);intro pins s σ H Q I h;refine this pins s σ H Q I ?_;unfold Z20;simp only [append_nil];exact h
theorem Ze1 {x:Str} {st:Stmt} (D:Def K mg x st) (S:FnScope N ps (Z4 st))
  (hbi:∀ (kV doc pm:Value) (an:Option Addr) (cdv ct:Value) (us:List Value),us.length=ps.length->bindArgs (fnOf x x (Wc st) (Y2 st) (Z4 st) .none kV doc pm an cdv ct) ⟨us,[]⟩=pure (ps.zip us))
  (len:∀ vs H Q E,sp vs H Q E->vs.length=ps.length)
  (hbody:∀ (f:Addr) (cdv:Value) (A:Around) (outer:List Env) (s:Shared) (H:Hp) (vs:List V) (Q:VK) (E:XK),Room k (A.deeper (envOfC x (Z4 st) s.heap.objs.size f cdv))->sp vs H Q E ->
   ∃ t,Dh (Te E4 P w K mg base N x (Z4 st) f cdv A outer s H E).nox (Y2 st) t/\t (Ends.mk (fun _ H'=>Q .non H') Q (fun _ _=>False) (fun _ _=>False)) (start N vs) H):Cal P w K mg base (k+1) x ps sp:=by
 obtain ⟨f,fd,F,hm⟩:=D.ex;exact ⟨f,fd,F.ok S len (fun cdv A outer s H vs Q E hr h=>hbody f cdv A outer s H vs Q E hr h),hm,F.kp,F.binds hbi⟩
theorem Z93 {x:Str} {st:Stmt} {f:Addr} (F:Fun K x x st f fd) (S:FnScope N ps (Z4 st)) (len:∀ vs H Q E,sp vs H Q E->vs.length=ps.length)
  (hbody:∀ (cdv:Value) (A:Around) (outer:List Env) (s:Shared) (H:Hp) (vs:List V) (Q:VK) (E:XK),Room k (A.deeper (envOfC x (Z4 st) s.heap.objs.size f cdv))->sp vs H Q E ->
   ∃ t,Dh (Te E4 P w K mg base N x (Z4 st) f cdv A outer s H E).nox (Y2 st) t/\t (Ends.mk (fun _ H'=>Q .non H') Q (fun _ _=>False) (fun _ _=>False)) (start N vs) H):FnOk P w K mg base E4 (k+1) f fd ps sp :=
 F.ok S len hbody
end
theorem Zo.new {l:Addr} (h:H l=none):Zo H (Yn H l o):=fun b u e=>by rw [Za (Y4 e h)];exact e
theorem Zo.seqT {xs:List V} (e:Zo H H') (h:Ed K H a xs):Ed K H' a xs:=by
 rcases h with h | h
 ·exact .inl (e _ _ h)
 ·exact .inr h
section
variable {X:Cx}
theorem Zbt {x:Str} (hg:Gl X x) (hm:X.mg x=none) (hv:bootBuiltins x=some (.type T)) (hn:x≠"__name__" := by decide) (hd:(x==("__debug__" : Str))=false:=by decide):PE X (.Name x pos) (tC (.ty T)) :=
 Z9z (v:=.ty T) hg hm hv rfl hn hd
def Z7f (T n:String):Option Bool:=if (Value.type T==Value.type n)=true then some true else if PySem.W.kitMeta n=true then (PySem.fastBuiltinMro T).map (·.contains (.type n)) else none
theorem Zcm {n:String} {b:Bool} (h:Z7f T n=some b):kitOne K (.type T) (.type n)=some b:=h
def Zgv:V->Option Int->Option Int->Hp->VK->Prop:=fun x lo hi H Q=>∃ z,x=.str z/\z.length<=sizeLine/\Q (.str (Txt.slice z lo hi)) H
theorem Zd8:SlR X Zgv:=by
 intro pins s σ H x v vl vu lo hi sl Q I rx hs pl pu h;obtain ⟨z,rfl,hz,q⟩:=h;obtain ⟨t,rfl⟩:=rx;have fin:∀ t' k,EP X pins σ Q (.str (Txt.slice z lo hi) t') { s with toks:=k }:=fun t' k=>⟨.str (Txt.slice z lo hi),H,I.tok _,⟨_,rfl⟩,q⟩
 refine ⟨"str",_,F.slot_str_getitem.lookup,typeIs_str _ _ _,?_⟩;cases pl with
 | none =>
  cases pu with
  | none=>exact wpAny_getItem_str_slice (l:=none) (u:=none) (st:=none) hs rfl (post_val_or_str ⟨le_trans (Txt.slice_le z _ _) hz,fin⟩)
  | int j tj=>exact wpAny_getItem_str_slice (l:=none) (u:=some (j,tj)) (st:=none) hs rfl (post_val_or_str ⟨le_trans (Txt.slice_le z _ _) hz,fin⟩)
 | int i ti =>
  cases pu with
  | none=>exact wpAny_getItem_str_slice (l:=some (i,ti)) (u:=none) (st:=none) hs rfl (post_val_or_str ⟨le_trans (Txt.slice_le z _ _) hz,fin⟩)
  | int j tj=>exact wpAny_getItem_str_slice (l:=some (i,ti)) (u:=some (j,tj)) (st:=none) hs rfl (post_val_or_str ⟨le_trans (Txt.slice_le z _ _) hz,fin⟩)
def Zil (K:Zzy):V->Option Int->Option Int->Hp->VK->Prop:=fun x lo hi H Q=>Zgb K x lo hi H Q\/Zfw K x lo hi H Q\/Zgv x lo hi H Q
theorem Zi0:SlR X (Zil X.K):=Z9p.or (Zd3.or Zd8)
theorem Gg:∀ {us:List Value},IntsAre us ns->Zx (ns.map V.int) us:=by
 intro us h;induction h with
 | nil=>exact .nil
 | cons n t h ih=>exact .cons ⟨t,rfl⟩ ih
def Zaj (K:Zzy):List V->Hp->VK->Prop:=fun xs H Q=>∃ p ns,xs=[.ref p]/\Dy K H p (ns.map V.int)/\ns.length<64 /\
 ∀ (ms:List Int) (l:Addr),ms.Perm ns->ms.Pairwise (·<=·)->H l=none->Q (.ref l) (Yn H l (.lst (ms.map V.int)))
theorem Fy:Vc X (.builtin "sorted") (Zaj X.K):=by
 intro pins s σ H xs us Q I r h;obtain ⟨p,ns,rfl,hq,h64,q⟩:=h;obtain ⟨u,rfl,rx⟩:=Jz r;cases rx;obtain ⟨its,r',pl,hz⟩:=I.list hq;have hlen:=r'.length;rw [length_map] at hlen;refine sorted_ints pl.isList (Nd r') (by lia) fun out ms h1 h2 h3=>?_
 obtain ⟨e,he⟩:=sortedAll_at s.heap its out;have hl:ms.length=ns.length:=h2.length_eq;refine ⟨.ref (s.heap.objs.size+1),Yn H (s.heap.objs.size+1) (.lst (ms.map V.int)),I.laid (t':=s.toks) (fun b o q=>sortedAll_old q) (le_succ _) ?_,rfl,q ms _ h2 h3 (I.hok.fresh (le_succ _))⟩;refine ⟨by rw [length_map] at hz ⊢;lia,out.toList,e,Gg h1,?_⟩;rw [he]
theorem Kl {A:Around} {bs:List Bool} (r:Zx (bs.map V.bl) its):TruthOf X.prog X.w A (fun i v=>its.toArray[i]?=some v) (fun i=>bs.getD i false):=by
 intro i v s Q E hv h;have hv':its[i]?=some v:=by simpa using hv
 have hi:i<its.length:=(List.getElem?_eq_some_iff.mp hv').1;have hl:=r.length;rw [length_map] at hl;have hb:(bs.map V.bl)[i]?=some (V.bl (bs[i]'(by lia))):=by simp [show i<bs.length by lia]
 obtain ⟨u,hu,ru⟩:=r.get hb;rw [hv'] at hu;cases hu;cases ru;have:bs.getD i false=bs[i]'(by lia):=by simp [List.getD,show i<bs.length by lia]
 have h':Q (bs.getD i false) s:=h;rw [this] at h';exact wpAny_truthy_bool h'
theorem Z3p (bs:List Bool):(List.range bs.length).all (fun i=>bs.getD i false)=bs.all id:=by
 induction bs with
 | nil=>rfl
 | cons b bs ih =>
  rw [length_cons,List.range_succ_eq_map,all_cons,List.all_map,all_cons];have:(fun i=>(b::bs).getD i false) ∘ Nat.succ=fun i=>bs.getD i false:=by funext i;rfl
  rw [this,ih];rfl
theorem Z4m (bs:List Bool):(List.range bs.length).any (fun i=>bs.getD i false)=bs.any id:=by
 induction bs with
 | nil=>rfl
 | cons b bs ih =>
  rw [length_cons,List.range_succ_eq_map,any_cons,any_map,any_cons];have:(fun i=>(b::bs).getD i false) ∘ Nat.succ=fun i=>bs.getD i false:=by funext i;rfl
  rw [this,ih];rfl
def Zj2 (K:Zzy):List V->Hp->VK->Prop:=fun xs H Q=>∃ (p:Addr) (bs:List Bool),xs=[.ref p]/\Dy K H p (bs.map V.bl)/\Q (.bl (bs.all id)) H
def Zi4 (K:Zzy):List V->Hp->VK->Prop:=fun xs H Q=>∃ (p:Addr) (bs:List Bool),xs=[.ref p]/\Dy K H p (bs.map V.bl)/\Q (.bl (bs.any id)) H
theorem Z3m (hc:X.calm=true):Vc X (.builtin "all") (Zj2 X.K):=by
 intro pins s σ H xs us Q I r h;obtain ⟨p,bs,rfl,hq,q⟩:=h;obtain ⟨u,rfl,rx⟩:=Jz r;cases rx;obtain ⟨its,r',pl,hz⟩:=I.list hq;have hl:=pl.isList;have hlt:p<s.heap.objs.size:=by obtain ⟨o,e,_⟩:=hl;exact lt_size e
 have hlen:=r'.length;rw [length_map] at hlen;refine call_all_walk (wpAny_pyIter_list hl ⟨s.heap.objs.size,_,_,_,_,_,fun i=>bs.getD i false,rfl,Walks.list (A:=X.A.in1) (I.ok.hd hc) s.heap.objs.size p (ne_of_lt hlt) its.toArray,⟨⟨_,get?_push_size _ rfl,rfl,rfl⟩,hl.push _⟩,Kl r',fun h' tk hk=>?_⟩);have e:(List.range its.toArray.size).all (fun i=>bs.getD i false)=bs.all id:=by rw [size_toArray,← hlen];exact Z3p bs
 rw [e];exact ⟨.bl _,H,I.kept (h':=h') (t':=tk) (fun b o e=>hk b o (by simpa using ne_of_lt (lt_size e)) (get?_push_of_some _ e)),rfl,q⟩
theorem Z4n (hc:X.calm=true):Vc X (.builtin "any") (Zi4 X.K):=by
 intro pins s σ H xs us Q I r h;obtain ⟨p,bs,rfl,hq,q⟩:=h;obtain ⟨u,rfl,rx⟩:=Jz r;cases rx;obtain ⟨its,r',pl,hz⟩:=I.list hq;have hl:=pl.isList;have hlt:p<s.heap.objs.size:=by obtain ⟨o,e,_⟩:=hl;exact lt_size e
 have hlen:=r'.length;rw [length_map] at hlen;refine call_any_walk (wpAny_pyIter_list hl ⟨s.heap.objs.size,_,_,_,_,_,fun i=>bs.getD i false,rfl,Walks.list (A:=X.A.in1) (I.ok.hd hc) s.heap.objs.size p (ne_of_lt hlt) its.toArray,⟨⟨_,get?_push_size _ rfl,rfl,rfl⟩,hl.push _⟩,Kl r',fun h' tk hk=>?_⟩);have e:(List.range its.toArray.size).any (fun i=>bs.getD i false)=bs.any id:=by rw [size_toArray,← hlen];exact Z4m bs
 rw [e];exact ⟨.bl _,H,I.kept (h':=h') (t':=tk) (fun b o e=>hk b o (by simpa using ne_of_lt (lt_size e)) (get?_push_of_some _ e)),rfl,q⟩
def Its (z:Str):It:=⟨fun i _=>i<z.length,fun i H x H'=>H'=H/\∃ c,z.cps[i]?=some c/\x=.str ⟨#[c]⟩,fun i _=>i=z.length⟩
theorem Ay (it:Addr) (z:Str) (t:Tok) (ty:String) (hty:["enumerate","zip","dict_itemiterator","dict_reverseitemiterator","odict_iterator","itertools.zip_longest","itertools.pairwise"].contains ty=false)
  (W:∀ A':Around,A'.handled=none->Walks P w A' it [it] [it] z.cps.size (SignAt z) (fun i h=>h.IsStrIter it ty z t i))
  (S:∀ (A:Around) (i:Nat) (s:Shared) (Q:Zzz) (E:Zzz),s.heap.IsStrIter it ty z t i->Q (.ref it) s->wpAny (model P w) A (pyIter (.ref it)) Q E s):Turn P w K tg (Its z) [it] it (fun i h=>h.IsStrIter it ty z t i) where
 mem:=by simp
 obj:=fun i h st b hb=>by
  have e:b=it:=by simpa using hb
  subst e;obtain ⟨o,e,c,d⟩:=st;exact ⟨o,e,fun v z=>by rw [d] at z;cases z⟩
 keep:=fun i h h' st k=>by
  obtain ⟨o,e,r⟩:=st;exact ⟨o,k it (by simp) o e,r⟩
 item:=by
  intro X hP hw hK hc i pins s σ H E I hf st hg;subst hP hw hK;obtain ⟨f0,f1,f2,f3,f4,f5⟩:=hf it (by simp);refine (W X.A (I.ok.hd hc)).item i s _ _ (show i<z.cps.size from hg) st fun v h' tk hv st' kk=>?_
  obtain ⟨c,u,hcu,rfl⟩:=hv;have I1:Inv X pins σ H { s with heap:=h',toks:=tk }:=I.turned (fun b o hb e=>kk b o (by simpa using hb) e) f0 f1 f3 f4 f5;obtain ⟨o,e,cc,d⟩:=id st';exact ⟨_,rfl,Z1s (s:={ s with heap:=h',toks:=tk }) e cc d hty ⟨.str ⟨#[c]⟩,H,I1,⟨u,rfl⟩,⟨rfl,c,hcu,rfl⟩,st',fun b hb=>(hf b hb).1⟩⟩
 done:=by
  intro X hP hw hK hc i pins s σ H E I hf st hg;subst hP hw hK;obtain ⟨f0,f1,f2,f3,f4,f5⟩:=hf it (by simp);have e:i=z.cps.size:=hg;subst e;exact (W X.A (I.ok.hd hc)).done s _ _ st fun h' tk kk=>⟨rfl,I.turned (fun b o hb e=>kk b o (by simpa using hb) e) f0 f1 f3 f4 f5⟩
 self:=fun A i s Q E st h=>S A i s Q E st h
def Zic (tl:TE):TI:=fun σ H R=>tl σ H fun x H1=>∃ z,x=.str z/\R (Its z) H1
theorem Zdz {l:Expr} (hl:PE X l tl):PI X tg l (Zic tl):=by
 intro pins s σ H R I h;refine Wp (hl pins s σ H _ I h) fun v s1 ⟨x,H1,I1,r1,z,e,q⟩=>?_
 subst e;obtain ⟨t,rfl⟩:=r1;have I2:∀ o:Obj,Inv X pins σ H1 { s1 with heap:=s1.heap.push o }:=fun o=>I1.kept (t':=s1.toks) fun b ob e=>get?_push_of_some _ e
 have fr:∀ b∈[s1.heap.objs.size],E7 X pins H1 b:=fun b hb=>by
  have e:b=s1.heap.objs.size:=by simpa using hb
  subst e;exact I1.fpOk (le_refl _) (I1.hok.fresh (le_refl _))
 cases ha:z.cps.all (· < 128)
 ·exact wpAny_pyIter_wide ha ⟨_,_,_,Its z,H1,rfl,I2 _,Ay _ z t "str_iterator" (by decide) (fun A' hA=>Walks.strWide hA _ z t) (fun A i s Q E st h=>wpAny_pyIter_striter_wide st h),⟨_,get?_push_size _ rfl,rfl,rfl⟩,fr,q⟩
 ·exact wpAny_pyIter_ascii ha ⟨_,_,_,Its z,H1,rfl,I2 _,Ay _ z t "str_ascii_iterator" (by decide) (fun A' hA=>Walks.strAscii hA _ z t) (fun A i s Q E st h=>wpAny_pyIter_striter_ascii st h),⟨_,get?_push_size _ rfl,rfl,rfl⟩,fr,q⟩
abbrev TJ:=St->Hp->Str->VK->Prop
def PJ (X:Cx) (vs:List Expr) (t:TJ):Prop :=
 ∀ (pins:Zzx) (s:Shared) (σ:St) (H:Hp) (acc:Str) (Q:VK),Inv X pins σ H s->acc.length<=sizeLine->t σ H acc Q->wpAny (model X.prog X.w) X.A (joinParts acc (evalEach vs X.env)) (EP X pins σ Q) X.xe s
def Zfu:TJ:=fun _ H acc Q=>Q (.str acc) H
def Zg9 (c:Str) (r:TJ):TJ:=fun σ H acc Q=>(acc++c).length<=sizeLine/\r σ H (acc++c) Q
theorem X9:PJ X [] Zfu:=fun pins s σ H acc Q I hz h=>joinParts_nil ⟨.str acc,H,I.tok _,⟨_,rfl⟩,h⟩ hz
theorem D9 {vs:List Expr} {r:TJ} (hr:PJ X vs r):PJ X (.Constant (.str c) j pos::vs) (Zg9 c r):=by
 intro pins s σ H acc Q I hz h;refine joinParts_cons (Calls.Constant_str ?_);exact ⟨h.1,hr pins _ σ H (acc++c) Q (I.tok _) h.1 h.2⟩
def Lk (r:TJ):TE:=fun σ H Q=>r σ H Str.empty Q
theorem De {v1 v2:Expr} {rest:List Expr} {r:TJ} (h:PJ X (v1::v2::rest) r):PE X (.JoinedStr (v1::v2::rest) pos) (Lk r):=by
 intro pins s σ H Q I hq;exact JoinedStr_many (h pins s σ H Str.empty Q I (by decide) hq)
end
abbrev cl (z:Str):List Nat:=z.cps.toList
theorem Mn (z:Str):(cl z).length=z.length:=by simp [cl,Str.length]
theorem Z17 (x y:Str):cl (x++y)=cl x++cl y:=by
 show (x.cps++y.cps).toList=_;simp [cl]
theorem Ze0 {x y:Str} (h:cl x=cl y):x=y:=by
 cases x;cases y;simp only [cl] at h;congr
 exact Array.ext' h
def Jy (xs:List α) (lo hi:Option Int):List α:=(xs.drop (HT.sIx xs.length 0 lo)).take (HT.sIx xs.length xs.length hi - HT.sIx xs.length 0 lo)
theorem Z80 (xs:List Nat) (i k:Nat):((List.range k).map fun (m:Nat)=>((i:Int)+1*(m:Int)).toNat).filterMap (xs[·]?)=(xs.drop i).take k:=by
 rw [List.filterMap_map];induction k generalizing i with
 | zero=>simp
 | succ k ih =>
  rw [List.range_succ_eq_map,filterMap_cons,List.filterMap_map];have e0:((fun x=>xs[x]?) ∘ fun m:Nat=>((i:Int)+1*(m:Int)).toNat) 0=xs[i]?:=by simp [Function.comp]
  rw [e0];have e1:(((fun x=>xs[x]?) ∘ fun m:Nat=>((i:Int)+1*(m:Int)).toNat) ∘ Nat.succ)=((fun x=>xs[x]?) ∘ fun m:Nat=>(((i+1:Nat):Int)+1*(m:Int)).toNat):=by
   funext m
   simp only [Function.comp,Nat.succ_eq_add_one];congr 1
   lia
  rw [e1,ih];cases h:xs[i]? with
  | none =>
   have hl:xs.length<=i:=List.getElem?_eq_none_iff.mp h;simp [List.drop_eq_nil_of_le hl,List.drop_eq_nil_of_le (Nat.le_succ_of_le hl)]
  | some c =>
   obtain ⟨hi,hc⟩:=List.getElem?_eq_some_iff.mp h;rw [List.drop_eq_getElem_cons hi,List.take_succ_cons,hc]
theorem Z5q (lo hi:Option Int) (n:Nat):Builtin.Str.strSliceIndices lo hi 1 n=(List.range (HT.sIx n n hi - HT.sIx n 0 lo)).map fun (m:Nat)=>(((HT.sIx n 0 lo:Nat):Int)+1*(m:Int)).toNat:=by
 have c:∀ (v:Option Int) (d:Nat),(match v with | none=>(d:Int) | some i=>(let i:=if i<0 then i+(n:Int) else i;if (1:Int) > 0 then max 0 (min i (n:Int)) else max (-1) (min i ((n:Int) - 1))))=((HT.sIx n d v:Nat):Int):=by
  intro v d;cases v with
  | none=>rfl
  | some i =>
   rw [← HT.clip_eq i n d];dsimp only;rw [if_pos (by decide)];by_cases hi:i<0
   ·rw [if_pos hi,if_pos hi];lia
   ·rw [if_neg hi,if_neg hi];lia
 have key:∀ (x y:Int) (a b:Nat),x=a->y=b->sliceRange x y 1=(List.range (b - a)).map fun (m:Nat)=>((a:Int)+1*(m:Int)).toNat:=by
  rintro x y a b rfl rfl;unfold sliceRange;dsimp only;rw [if_pos (by decide)];congr 1
  congr 1
  by_cases h:(a:Int)<(b:Int)
  ·rw [if_pos h];lia
  ·rw [if_neg h];lia
 unfold Builtin.Str.strSliceIndices;dsimp only;have e1:=c lo 0;have e2:=c hi n;dsimp only at e1 e2;simp only [show (1:Int) > 0 by decide,if_true] at e1 e2 ⊢;exact key _ _ _ _ e1 e2
theorem Z6k (z:Str) (lo hi:Option Int):cl (Txt.slice z lo hi)=Jy (cl z) lo hi:=by
 have hn:(cl z).length=z.length:=Mn z;unfold Txt.slice Jy;rw [hn];have hle:=HT.sIx_le z.length z.length (le_refl _) hi;split
 ·rename_i h
  rw [Z5q,length_map,length_range] at h;have h':HT.sIx z.length z.length hi - HT.sIx z.length 0 lo=z.length:=by simpa using h
  have h0:HT.sIx z.length 0 lo=0\/z.length=0:=by lia
  rcases h0 with h0 | h0
  ·rw [h',h0,drop_zero,take_of_length_le (by lia)]
  ·have:cl z=[]:=length_eq_zero_iff.mp (by lia)
   rw [this];simp
 ·show (((Builtin.Str.strSliceIndices lo hi 1 z.length).filterMap (z.cps[·]?)).toArray).toList=_
  rw [Z5q];have e:(fun x:Nat=>z.cps[x]?)=fun x=>(cl z)[x]?:=by funext x;simp [cl]
  rw [e];exact Z80 _ _ _
section
variable {X:Cx} (K:Zzy)
def Ce (K:Zzy):List V->Hp->VK->Prop:=fun xs H Q=>∃ p ys,xs=[.ref p]/\(Dy K H p ys\/Ed K H p ys)/\∀ l,H l=none->Q (.ref l) (Yn H l (.lst ys))
theorem Jp (h:X.K=K:=by rfl):Vc X (.type "list") (Ce K):=by subst h;exact Ie
variable {o e:Expr} {es:List Expr} {to:TE} {t:TA} {name:Str} {apos cpos:Pos} {T id:String} {r:V->List V->Hp->VK->Prop}
end
end L2
namespace PySem
open AutoSeq1 (wpAny_loadPart')
section
variable {prog:Program} {w:World} {A:Around} {E:Zzz} {s:Shared}
theorem Mq {l:Addr} {items} {x:Value} (hit:s.heap.IsTupleIter it l i)
  (hl:s.heap.IsTuple l items) (hx:items[i]?=some x)
  (hQ:∀ h',h'.IsTupleIter it l (i+1)->SameBut it s.heap h'->Q x { s with heap:=h' }) :
  wpAny (model prog w) A (Builtin.SmallTypes.nextOf (.ref it)) Q E s:=by
 obtain ⟨o,ho,hc,hd⟩:=id hit;obtain ⟨ol,hol,_,nl,hdl⟩:=hl;unfold Builtin.SmallTypes.nextOf;refine wpAny_bind (wpAny_callSpecial?_slot (name:=Str.ofString "__next__") hit.typeIs F.slot_tuple_iterator_next
  (wpAny_call_entry F.slot_tuple_iterator_next hit.typeIs F.entry_tuple_iterator_next ?_ (F.args_tuple_iterator_next_1 _)))
 show wpAny _ _ (field (.ref it) 0 >>= _) _ _ s;refine wpAny_bind (wpAny_field ho hd (x:=.ref l) rfl ?_);show wpAny _ _ (if (Value.ref l==Value.none)=true then _ else _) _ _ s;rw [if_neg (show ¬ ((Value.ref l==Value.none)=true) from Bool.false_ne_true)];show wpAny _ _ (field (.ref it) 1 >>= _) _ _ s;refine wpAny_bind (wpAny_field ho hd (x:=.int i 0) rfl ?_);show wpAny _ _ (seqItems? (.ref l) >>= _) _ _ s;refine wpAny_bind (wpAny_seqItems hol hdl ?_);simp only [Int.toNat_natCast,hx];refine wpAny_bind (wpAny_setField ho hd (by simp) (wpAny_pure ⟨x,rfl,wpAny_pure (hQ _ ?_ (SameBut.update ..))⟩));exact ⟨_,get?_update_self _ ho (Obj.isFreed_of_fields (Obj.data_mapFields hd _)),(Obj.cls_mapFields ..).trans hc,by
  rw [Obj.data_mapFields hd];simp [rawInt]⟩
theorem Rk {l:Addr} {items} (hh:A.handled=none)
   (hit:s.heap.IsTupleIter it l i) (hl:s.heap.IsTuple l items) (hx:items[i]?=none)
   (hE:∀ h' e,ExtBut it s.heap h'->(∃ o,h'.get? e=some o/\o.cls=.type "StopIteration")->E (.ref e) { s with heap:=h' }) :
   wpAny (model prog w) A (Builtin.SmallTypes.nextOf (.ref it)) Q E s:=by
 obtain ⟨o,ho,hc,hd⟩:=id hit;obtain ⟨ol,hol,_,nl,hdl⟩:=hl;unfold Builtin.SmallTypes.nextOf;refine wpAny_bind (wpAny_callSpecial?_slot (name:=Str.ofString "__next__") hit.typeIs F.slot_tuple_iterator_next
   (wpAny_call_entry F.slot_tuple_iterator_next hit.typeIs F.entry_tuple_iterator_next ?_ (F.args_tuple_iterator_next_1 _)))
 show wpAny _ _ (field (.ref it) 0 >>= _) _ _ s;refine wpAny_bind (wpAny_field ho hd (x:=.ref l) rfl ?_);show wpAny _ _ (if (Value.ref l==Value.none)=true then _ else _) _ _ s;rw [if_neg (show ¬ ((Value.ref l==Value.none)=true) from Bool.false_ne_true)];show wpAny _ _ (field (.ref it) 1 >>= _) _ _ s;refine wpAny_bind (wpAny_field ho hd (x:=.int i 0) rfl ?_);show wpAny _ _ (seqItems? (.ref l) >>= _) _ _ s;refine wpAny_bind (wpAny_seqItems hol hdl ?_);simp only [Int.toNat_natCast,hx];refine wpAny_bind (wpAny_rule (wpAny_bind (wpAny_setField ho hd (by simp) ?_)));show wpAny _ _ (newExc (.type "StopIteration") [] >>= _) _ _ _;refine wpAny_bind ?_;simp only [newExc,newTuple];refine wpAny_bind (wpAny_newObj_type ?_ (by size_fits));refine wpAny_bind (m:=firstArgMember _ _) (wpAny_of_eq (a:=Value.none) (by first | rfl | (simp only [firstArgMember];rfl)) ?_);refine wpAny_newObj_type ?_ (by size_fits);simp only [raiseNew];refine wpAny_bind (wpAny_handled ?_);first | rw [show A.in1.handled=none from hh] | rw [hh]
 refine wpAny_bind (wpAny_pure (wpAny_throw ?_));exact hE _ _ (((SameBut.update ..).extBut.push _).push _) ⟨_,get?_push_size _ rfl,rfl⟩
end
theorem Draws.tupleD {A:Around} (hh:A.handled=none) (it l:Addr) (hne:l≠it) (items:Array Value) :
  Draws prog w A it [it,l] items.size (fun i v=>items[i]?=some v) (fun i h=>h.IsTupleIter it l i/\h.IsTuple l items) where
 live:=fun _ _ st=>let ⟨o,ho,_⟩:=st.1;⟨o,ho⟩
 frame:=fun _ _ _ st hk=>⟨st.1.at fun o e=>hk it (by simp) o e,let ⟨o,ho,r⟩:=st.2;⟨o,hk l (by simp) o ho,r⟩⟩
 item:=fun i s Q E hi st hQ=>by
  refine Mq st.1 st.2 (x:=items[i]) (by simp [hi]) fun h' hit' hs'=>?_
  exact hQ _ h' s.toks (by simp [hi]) ⟨hit',st.2.extBut hs'.extBut hne⟩ hs'
 done:=fun s Q E st hE=>Rk hh st.1 st.2 (by simp) hE
theorem Sj (l:Addr) (items:Array Value) (n:Nat) (dct:Option Addr) (sl:Array (Option Value)) :
  Meets (Builtin.«enumerate.__new__» ⟨[.type "enumerate",.ref l],[]⟩) (fun _ R s=>s.heap.get? l=some { cls:=.type "tuple",dict:=dct,data:=.seq items n,slots:=sl } /\
   R (.ok (.ret (.ref (s.heap.push { cls:=.type "tuple_iterator",data:=.fields #[.ref l,.int 0 0] }).objs.size)))
    { s with heap:=(s.heap.push { cls:=.type "tuple_iterator",data:=.fields #[.ref l,.int 0 0] }).push { cls:=.type "enumerate",data:=.fields #[.none,.bool false,.ref s.heap.objs.size,rawInt 0,.none,.none] } }) :=
 .of_wp fun prog w A R s h=>by
  obtain ⟨hp,g,d,tk,os⟩:=s;obtain ⟨hl,h⟩:=h;have hsub:=sub_enumerate;have hL:Heap.IsTuple (Shared.heap ⟨hp,g,d,tk,os⟩) l items:=⟨_,hl,rfl,n,rfl⟩
  wp_walk using wpAny_loadPart' hl
  refine wpAny_stack_any fun st=>wpAny_pure ?_
  split
  ·rename_i c _ _ _ _ _
   cases (c==Value.type "enumerate")
   ·wp_walk using wpAny_loadPart' hl,wpAny_pyIter_tuple hL
    exact ⟨_,rfl,h⟩
   ·wp_walk using wpAny_loadPart' hl,wpAny_pyIter_tuple hL
    exact ⟨_,rfl,h⟩
  ·wp_walk using wpAny_loadPart' hl,wpAny_pyIter_tuple hL
   exact ⟨_,rfl,h⟩
theorem Ss {A:Around} {l:Addr} (hL:s.heap.IsTuple l items)
  (h:∀ h',IsEnum h' (s.heap.objs.size+1) s.heap.objs.size 0 .none->h'.IsTupleIter s.heap.objs.size l 0->h'.objs.size=s.heap.objs.size+2 ->
   (∀ b o,s.heap.get? b=some o->h'.get? b=some o)->Q (.ref (s.heap.objs.size+1)) { s with heap:=h' }) :
  wpAny (model prog w) A (call (.type "enumerate") [.ref l]) Q E s:=by
 obtain ⟨⟨c,dct,dt,sl⟩,hl,hc,n,hd⟩:=hL;replace hc:c=.type "tuple" := hc;replace hd:dt=.seq items n:=hd;subst hc hd;refine callType_new F.called_enumerate (by decide) (F.typeCall_enumerate_1 _) (F.newCall_enumerate_1 _) (fun obj=>F.args_object_init_2 obj _) F.entry_enumerate_new
  (Sj l items n dct sl) ⟨hl,?_⟩
 have hz:(s.heap.push { cls:=.type "tuple_iterator",data:=.fields #[.ref l,.int 0 0] }).objs.size=s.heap.objs.size+1:=size_push ..;show _/\_;rw [hz];have he:IsEnum ((s.heap.push { cls:=.type "tuple_iterator",data:=.fields #[.ref l,.int 0 0] }).push
   { cls:=.type "enumerate",data:=.fields #[.none,.bool false,.ref s.heap.objs.size,rawInt 0,.none,.none] }) (s.heap.objs.size+1) s.heap.objs.size 0 .none:=by
  have:=get?_push_size (s.heap.push { cls:=.type "tuple_iterator",data:=.fields #[.ref l,.int 0 0] })
   (o:={ cls:=.type "enumerate",data:=.fields #[.none,.bool false,.ref s.heap.objs.size,rawInt 0,.none,.none] }) rfl
  rw [hz] at this;exact this
 refine ⟨⟨_,he,rfl⟩,h _ he ⟨_,get?_push_of_some _ (get?_push_size _ rfl),rfl,rfl⟩ (by rw [size_push,hz]) fun b o x=>get?_push_of_some _ (get?_push_of_some _ x)⟩
end PySem
namespace L2
open PySem PySem.Spec PyProof.Rows
inductive XD where
 | int (i:Int) | nums (is:List Int)
inductive Dat where
 | non | bl (b:Bool) | int (i:Int) | str (x:Str) | tup (xs:List Dat) | lst (xs:List Dat) | dct (kvs:List (List V5×Int)) | exc (c:Str) (fs:List (Str×XD))
def U3 (K:Zzy) (c:Str) (C:Addr):Prop:=PySem.W.nsIn K mainGlobals c=some (some (.ref C))
def XIs (e C:Addr) (dct:Option Addr) (h:Heap):Prop:=∃ o,h.get? e=some o/\o.cls=.ref C/\o.dict=dct/\∀ c,o.data≠.cls c
def Z8u (K:Zzy) (H:Hp):XD->V->Prop
 | .int i,v=>v=.int i
 | .nums is,v=>∃ a,v=.ref a/\SL K H a (is.map V.int)/\is.length<=sizeLine
def Ab (K:Zzy) (H:Hp):Option Addr->List (Str×XD)->Prop
 | none,fs=>fs=[]
 | some dx,fs=>∃ fvs,H dx=some (.xd fvs)/\∀ f,(fs.lookup f=none/\fvs.lookup f=none)\/∃ d v,fs.lookup f=some d/\fvs.lookup f=some v/\Z8u K H d v
def XRp (K:Zzy) (H:Hp) (c:Str) (fs:List (Str×XD)) (v:V):Prop:=∃ e C dct,v=.ref e/\H e=some (.ext (XIs e C dct))/\U3 K c C/\Ab K H dct fs
def Z4q (kvs:List (List V5×Int)):List (List V5×V):=kvs.map fun p=>(p.1,V.int p.2)
structure SOk (x:Str):Prop where
 ok:PyData.strOk x=true
 le:x.length<=sizeLine
instance (x:Str):Decidable (SOk x):=decidable_of_iff (PyData.strOk x=true/\x.length<=sizeLine) ⟨fun h=>⟨h.1,h.2⟩,fun h=>⟨h.ok,h.le⟩⟩
theorem SOk.of {x:Str} (h:PyData.strOk x=true) (h':x.length<=sizeLine):SOk x:=⟨h,h'⟩
mutual
def Rp (K:Zzy) (H:Hp):Dat->V->Prop
 | .non,v=>v=.non
 | .bl b,v=>v=.bl b
 | .int i,v=>v=.int i
 | .str x,v=>v=.str x/\SOk x
 | .tup ds,v=>ds.length<=sizeLine/\∃ a vs,v=.ref a/\Ed K H a vs/\W5 K H ds vs
 | .lst ds,v=>ds.length<=sizeLine/\∃ a vs,v=.ref a/\SL K H a vs/\W5 K H ds vs
 | .dct kvs,v=>kvs.length<=sizeLine/\∃ a,v=.ref a/\H a=some (.dT (Z4q kvs))
 | .exc c fs,v=>XRp K H c fs v
def W5 (K:Zzy) (H:Hp):List Dat->List V->Prop
 | [],vs=>vs=[]
 | d::ds,vs=>∃ v r,vs=v::r/\Rp K H d v/\W5 K H ds r
end
abbrev AS:=Addr->Bool
def av (H:Hp) (A:AS):Hp:=fun a=>if A a=true then none else H a
theorem Wn {A:AS} (h:H a=some o) (hA:A a=false):av H A a=some o:=by unfold av;rw [hA];exact h
theorem Qd {A:AS} (h:av H A a=some o):A a=false/\H a=some o:=by
 unfold av at h;split at h
 ·cases h
 ·rename_i q;exact ⟨by simpa using q,h⟩
theorem Ym {A:AS}:Zo (av H A) H:=fun b o e=>(Qd e).2
theorem We {A:AS} (h:Zo H H'):Zo (av H A) (av H' A):=fun b o e=>Wn (h b o (Qd e).2) (Qd e).1
theorem Q8 {A B:AS} (h:∀ a,B a=true->A a=true):Zo (av H A) (av H B):=fun b o e=>by
 obtain ⟨h1,h2⟩:=Qd e;refine Wn h2 ?_;cases q:B b with
 | false=>rfl
 | true=>rw [h b q] at h1;cases h1
def no:AS:=fun _=>false
theorem Z2v:av H no=H:=by funext a;simp [av,no]
theorem Zo.sl {xs:List V} (e:Zo H H') (h:SL K H a xs):SL K H' a xs:=by
 rcases h with (h | ⟨o,h⟩) | h
 ·exact .inl (.inl (e _ _ h))
 ·exact .inl (.inr ⟨o,e _ _ h⟩)
 ·exact .inr h
theorem SL.sq {xs:List V} (h:SL K H a xs):Dy K H a xs:=by
 rcases h with h | ⟨its,n,h1,h2,h3⟩
 ·exact .inl h
 ·refine .inr ⟨_,its.toArray,n,h1,rfl,rfl,rfl,?_,by simpa using h3⟩
  have:=h3.length;simp only [size_toArray];lia
theorem SL.get {xs:List V} (h:SL X.K H a xs) (I:Inv X pins σ H s) :
  ∃ (its:List Value) (n:Nat),Zx xs its/\s.heap.get? a=some { cls:=.type "list",data:=.seq its.toArray n }/\xs.length<=sizeLine:=by
 rcases h with h | ⟨its,n,h1,h2,h3⟩
 ·obtain ⟨z,its,n,r,e⟩:=h.ok I.hok
  exact ⟨its,n,r,e,z⟩
 ·exact ⟨its,n,h3,I.kIn _ _ h1,h2⟩
theorem Z8u.mono (e:Zo H H') {d:XD} (h:Z8u K H d v):Z8u K H' d v:=by
 cases d with
 | int i=>exact h
 | nums is=>obtain ⟨a,e1,e2,e3⟩:=h;exact ⟨a,e1,e.sl e2,e3⟩
theorem Ab.mono (e:Zo H H') {fs:List (Str×XD)} (h:Ab K H dct fs):Ab K H' dct fs:=by
 cases dct with
 | none=>exact h
 | some dx =>
  obtain ⟨fvs,e1,e2⟩:=h;exact ⟨fvs,e _ _ e1,fun f=>(e2 f).imp id fun ⟨d,v,a,b,c⟩=>⟨d,v,a,b,c.mono e⟩⟩
theorem XRp.mono (e:Zo H H') {fs:List (Str×XD)} (h:XRp K H c fs v):XRp K H' c fs v:=by
 obtain ⟨x,C,dct,e1,e2,e3,e4⟩:=h;exact ⟨x,C,dct,e1,e _ _ e2,e3,e4.mono e⟩
mutual
theorem Rp.mono (e:Zo H H'):∀ {d:Dat} {v:V},Rp K H d v->Rp K H' d v
 | .non,v,h=>by unfold Rp at h ⊢;exact h
 | .bl b,v,h=>by unfold Rp at h ⊢;exact h
 | .int i,v,h=>by unfold Rp at h ⊢;exact h
 | .str x,v,h=>by unfold Rp at h ⊢;exact h
 | .dct _,v,h=>by unfold Rp at h ⊢;obtain ⟨hz,a,e1,e2⟩:=h;exact ⟨hz,a,e1,e _ _ e2⟩
 | .exc _ _,v,h=>by unfold Rp at h ⊢;exact XRp.mono e h
 | .tup ds,v,h=>by
  unfold Rp at h ⊢;obtain ⟨hz,a,vs,e1,e2,e3⟩:=h;exact ⟨hz,a,vs,e1,e.seqT e2,W5.mono e e3⟩
 | .lst ds,v,h=>by
  unfold Rp at h ⊢;obtain ⟨hz,a,vs,e1,e2,e3⟩:=h;exact ⟨hz,a,vs,e1,e.sl e2,W5.mono e e3⟩
theorem W5.mono (e:Zo H H'):∀ {ds:List Dat} {vs:List V},W5 K H ds vs->W5 K H' ds vs
 | [],vs,h=>by unfold W5 at h ⊢;exact h
 | d::ds,vs,h=>by
  unfold W5 at h ⊢;obtain ⟨v,r,e1,e2,e3⟩:=h;exact ⟨v,r,e1,Rp.mono e e2,W5.mono e e3⟩
end
section
variable {K:Zzy} {H:Hp}
theorem V8:W5 K H [] []:=by unfold W5;rfl
theorem Vb {d:Dat} {ds:List Dat} (h:Rp K H d v) (t:W5 K H ds vs):W5 K H (d::ds) (v::vs):=by unfold W5;exact ⟨v,vs,rfl,h,t⟩
theorem Yf (h:W5 K H [] vs):vs=[]:=by unfold W5 at h;exact h
theorem Zp {d:Dat} {ds:List Dat} (h:W5 K H (d::ds) vs):∃ v r,vs=v::r/\Rp K H d v/\W5 K H ds r:=by unfold W5 at h;exact h
theorem Zv:∀ {ds:List Dat} {vs:List V},W5 K H ds vs->vs.length=ds.length
 | [],vs,h=>by rw [Yf h];rfl
 | d::ds,vs,h=>by
  obtain ⟨v,r,e1,e2,e3⟩:=Zp h;rw [e1,length_cons,length_cons,Zv e3]
theorem Rh:∀ {ds:List Dat} {vs:List V} {i:Nat} {d:Dat},W5 K H ds vs->ds[i]?=some d->∃ v,vs[i]?=some v/\Rp K H d v
 | [],vs,i,d,h,e=>by simp at e
 | d'::ds,vs,0,d,h,e=>by
  obtain ⟨v,r,e1,e2,e3⟩:=Zp h;simp at e;subst e;exact ⟨v,by rw [e1];rfl,e2⟩
 | d'::ds,vs,i+1,d,h,e=>by
  obtain ⟨v,r,e1,e2,e3⟩:=Zp h;obtain ⟨v',h1,h2⟩:=Rh (i:=i) e3 (by simpa using e);exact ⟨v',by rw [e1];simpa using h1,h2⟩
theorem W6:∀ {ds es:List Dat} {vs us:List V},W5 K H ds vs->W5 K H es us->W5 K H (ds++es) (vs++us)
 | [],es,vs,us,h,k=>by rw [Yf h];exact k
 | d::ds,es,vs,us,h,k=>by
  obtain ⟨v,r,e1,e2,e3⟩:=Zp h;subst e1;exact Vb e2 (W6 e3 k)
theorem Gu:∀ (n:Nat) {ds:List Dat} {vs:List V},W5 K H ds vs->W5 K H (ds.take n) (vs.take n)
 | 0,_,_,_=>by simp only [List.take_zero];exact V8
 | n+1,[],vs,h=>by rw [Yf h];simp only [List.take_nil];exact V8
 | n+1,d::ds,vs,h=>by
  obtain ⟨v,r,e1,e2,e3⟩:=Zp h;subst e1;exact Vb e2 (Gu n e3)
theorem Gn:∀ (n:Nat) {ds:List Dat} {vs:List V},W5 K H ds vs->W5 K H (ds.drop n) (vs.drop n)
 | 0,_,_,h=>h
 | n+1,[],vs,h=>by rw [Yf h];simp only [List.drop_nil];exact V8
 | n+1,d::ds,vs,h=>by
  obtain ⟨v,r,e1,e2,e3⟩:=Zp h;subst e1;exact Gn n e3
theorem J9 {d:Dat} (h:Rp K H d v):W5 K H [d] [v]:=Vb h V8
theorem Z1p:∀ {ds:List Dat} {vs:List V} {d:Dat} {v:V} (i:Nat),W5 K H ds vs->Rp K H d v->W5 K H (ds.set i d) (vs.set i v)
 | [],vs,d,v,i,h,_=>by rw [Yf h];simp only [List.set_nil];exact V8
 | d'::ds,vs,d,v,0,h,k=>by
  obtain ⟨v',r,e1,e2,e3⟩:=Zp h;subst e1;exact Vb k e3
 | d'::ds,vs,d,v,i+1,h,k=>by
  obtain ⟨v',r,e1,e2,e3⟩:=Zp h;subst e1;exact Vb e2 (Z1p i e3 k)
theorem Z8e {ds:List Dat}:∀ {vs:List V},W5 K H ds vs->W5 K H ds.reverse vs.reverse:=by
 induction ds with
 | nil=>intro vs h;rw [Yf h];exact V8
 | cons d ds ih =>
  intro vs h;obtain ⟨v,r,e1,e2,e3⟩:=Zp h;subst e1;rw [reverse_cons,reverse_cons];exact W6 (ih e3) (J9 e2)
theorem Hd:∀ (ns:List Int),W5 K H (ns.map Dat.int) (ns.map V.int)
 | []=>V8
 | n::ns=>Vb (by unfold Rp;rfl) (Hd ns)
theorem Io:Rp K H .non .non:=by unfold Rp;rfl
theorem Us {b:Bool}:Rp K H (.bl b) (.bl b):=by unfold Rp;rfl
theorem Yq {i:Int}:Rp K H (.int i) (.int i):=by unfold Rp;rfl
theorem Ro {x:Str} (h:SOk x):Rp K H (.str x) (.str x):=by unfold Rp;exact ⟨rfl,h⟩
theorem X8 {ds:List Dat} (hz:ds.length<=sizeLine) (h:Ed K H a vs) (r:W5 K H ds vs):Rp K H (.tup ds) (.ref a):=by unfold Rp;exact ⟨hz,a,vs,rfl,h,r⟩
theorem Kf {ds:List Dat} (hz:ds.length<=sizeLine) (h:SL K H a vs) (r:W5 K H ds vs):Rp K H (.lst ds) (.ref a):=by unfold Rp;exact ⟨hz,a,vs,rfl,h,r⟩
theorem Nf (h:Rp K H .non v):v=.non:=by unfold Rp at h;exact h
theorem L1 {b:Bool} (h:Rp K H (.bl b) v):v=.bl b:=by unfold Rp at h;exact h
theorem Jw {i:Int} (h:Rp K H (.int i) v):v=.int i:=by unfold Rp at h;exact h
theorem Nr {x:Str} (h:Rp K H (.str x) v):v=.str x/\SOk x:=by unfold Rp at h;exact h
theorem S3 {ds:List Dat} (h:Rp K H (.tup ds) v):∃ a vs,v=.ref a/\Ed K H a vs/\W5 K H ds vs:=by unfold Rp at h;exact h.2
theorem Z2w {ds:List Dat} (h:Rp K H (.tup ds) v):ds.length<=sizeLine:=by unfold Rp at h;exact h.1
theorem Z9i {ds:List Dat} (h:Rp K H (.lst ds) v):ds.length<=sizeLine:=by unfold Rp at h;exact h.1
theorem Qr {ds:List Dat} (h:Rp K H (.lst ds) v):∃ a vs,v=.ref a/\SL K H a vs/\W5 K H ds vs:=by unfold Rp at h;exact h.2
theorem Zea {kvs:List (List V5×Int)} (h:Rp K H (.dct kvs) v):kvs.length<=sizeLine/\∃ a,v=.ref a/\H a=some (.dT (Z4q kvs)):=by unfold Rp at h;exact h
theorem Zek {ds:List (Str×XD)} (h:Rp K H (.exc c ds) v):XRp K H c ds v:=by unfold Rp at h;exact h
end
def XO (K:Zzy) (H:Hp) (c f:Str) (ns:List Int) (v:V):Prop:=∃ (e C dx:Addr) (fvs:List (Str×V)) (a:Addr),v=.ref e/\H e=some (.ext (XIs e C (some dx)))/\U3 K c C/\H dx=some (.xd fvs)/\(∀ g,g≠f->fvs.lookup g=none)/\fvs.lookup f=some (.ref a)/\H a=some (.lst (ns.map V.int))/\ns.length<=sizeLine
theorem XO.mono {f:Str} (h:XO K H c f ns v) (e:Zo H H'):XO K H' c f ns v:=by
 obtain ⟨x,C,dx,fvs,a,h1,h2,h3,h4,h5,h6,h7,h8⟩:=h;exact ⟨x,C,dx,fvs,a,h1,e _ _ h2,h3,e _ _ h4,h5,h6,e _ _ h7,h8⟩
theorem XO.rp {f:Str} (h:XO K H c f ns v):Rp K H (.exc c [(f,.nums ns)]) v:=by
 obtain ⟨x,C,dx,fvs,a,h1,h2,h3,h4,h5,h6,h7,h8⟩:=h;unfold Rp;refine ⟨x,C,some dx,h1,h2,h3,fvs,h4,fun g=>?_⟩;by_cases hg:g=f
 ·subst hg;exact .inr ⟨.nums ns,.ref a,by simp [List.lookup],h6,a,rfl,.inl (.inl h7),h8⟩
 ·exact .inl ⟨by simp only [List.lookup];rw [show (g==f)=false from by simpa using hg],h5 g hg⟩
def Pk (K:Zzy) (A:AS) (H:Hp) (d:Dat) (v:V):Prop :=
 Rp K (av H A) d v\/(∃ a vs ds,d=.lst ds/\v=.ref a/\ds.length<=sizeLine/\H a=some (.lst vs)/\W5 K (av H A) ds vs)\/(∃ c f ns,d=.exc c [(f,.nums ns)]/\XO K H c f ns v)\/∃ kvs a,d=.dct kvs/\v=.ref a/\kvs.length<=sizeLine/\H a=some (.dT (Z4q kvs))
section
variable {K:Zzy} {A:AS} {H H':Hp} {d:Dat} {v:V}
theorem Pk.mono (e:Zo H H') (h:Pk K A H d v):Pk K A H' d v:=by
 rcases h with h | ⟨a,vs,ds,e1,e2,hz,e3,e4⟩ | ⟨c,f,ns,e1,e2⟩ | ⟨kvs,a,e1,e2,e3,e4⟩
 ·exact .inl (h.mono (We e))
 ·exact .inr (.inl ⟨a,vs,ds,e1,e2,hz,e _ _ e3,e4.mono (We e)⟩)
 ·exact .inr (.inr (.inl ⟨c,f,ns,e1,e2.mono e⟩))
 ·exact .inr (.inr (.inr ⟨kvs,a,e1,e2,e3,e _ _ e4⟩))
theorem Pk.rp (h:Pk K A H d v):Rp K H d v:=by
 rcases h with h | ⟨a,vs,ds,e1,e2,hz,e3,e4⟩ | ⟨c,f,ns,e1,e2⟩ | ⟨kvs,a,e1,e2,e3,e4⟩
 ·exact h.mono Ym
 ·subst e1 e2;exact Kf hz (.inl (.inl e3)) (e4.mono Ym)
 ·subst e1;exact e2.rp
 ·subst e1;unfold Rp;exact ⟨e3,a,e2,e4⟩
theorem Pk.lenL {ds:List Dat} (h:Pk K A H (.lst ds) v):ds.length<=sizeLine:=Z9i h.rp
theorem Pk.lenT {ds:List Dat} (h:Pk K A H (.tup ds) v):ds.length<=sizeLine:=Z2w h.rp
theorem Pk.non (h:Pk K A H .non v):v=.non:=Nf h.rp
theorem Pk.bl {b:Bool} (h:Pk K A H (.bl b) v):v=.bl b:=L1 h.rp
theorem Pk.int {i:Int} (h:Pk K A H (.int i) v):v=.int i:=Jw h.rp
theorem Pk.str {x:Str} (h:Pk K A H (.str x) v):v=.str x/\SOk x:=Nr h.rp
theorem Pk.tup {ds:List Dat} (h:Pk K A H (.tup ds) v):∃ a vs,v=.ref a/\Ed K H a vs/\W5 K (av H A) ds vs:=by
 rcases h with h | ⟨a,vs,ds,e1,e2,e3,e4⟩ | ⟨c,f,ns,e1,e2⟩ | ⟨kvs,a,e1,e2,e3,e4⟩
 ·obtain ⟨a,vs,e1,e2,e3⟩:=S3 h
  exact ⟨a,vs,e1,Ym.seqT e2,e3⟩
 ·cases e1
 ·cases e1
 ·cases e1
theorem Pk.lst {ds:List Dat} (h:Pk K A H (.lst ds) v):∃ a vs,v=.ref a/\SL K H a vs/\W5 K (av H A) ds vs:=by
 rcases h with h | ⟨a,vs,ds',e1,e2,hz,e3,e4⟩ | ⟨c,f,ns,e1,e2⟩ | ⟨kvs,a,e1,e2,e3,e4⟩
 ·obtain ⟨a,vs,e1,e2,e3⟩:=Qr h
  exact ⟨a,vs,e1,Ym.sl e2,e3⟩
 ·cases e1;exact ⟨a,vs,e2,.inl (.inl e3),e4⟩
 ·cases e1
 ·cases e1
end
mutual
def Hk:Dat->Dat->Bool
 | .non,.non=>true
 | .bl a,.bl b=>a==b
 | .bl a,.int j=>(if a then 1 else 0)==j
 | .int i,.bl b=>i==(if b then 1 else 0)
 | .int i,.int j=>i==j
 | .str x,.str y=>x==y
 | .lst xs,.lst ys=>Ot xs ys
 | .tup xs,.tup ys=>Ot xs ys
 | _,_=>false
def Ot:List Dat->List Dat->Bool
 | [],[]=>true
 | x::xs,y::ys=>Hk x y&&Ot xs ys
 | _,_=>false
end
def pd:Nat->Dat->Bool
 | 0,.lst _=>false
 | 0,.tup _=>false
 | n+1,.lst xs=>xs.all (pd n)
 | n+1,.tup xs=>xs.all (pd n)
 | _,.dct _=>false
 | _,.exc _ _=>false
 | _,.non=>true
 | _,.bl _=>true
 | _,.int _=>true
 | _,.str _=>true
mutual
def toP:Dat->PyData
 | .non=>.none
 | .bl b=>.bool b
 | .int i=>.int i
 | .str x=>.str x
 | .tup xs=>.tuple (Oc xs)
 | .lst xs=>.list (Oc xs)
 | .dct _=>.none
 | .exc _ _=>.none
def Oc:List Dat->List PyData
 | []=>[]
 | x::xs=>toP x::Oc xs
end
theorem Fx {n:Nat} {xs:List Dat} (h:pd n (.lst xs)=true):∃ m,n=m+1/\∀ x∈xs,pd m x=true:=by
 cases n with
 | zero=>cases h
 | succ n=>exact ⟨n,rfl,by simpa [pd] using h⟩
theorem Xj {n:Nat} {xs:List Dat} (h:pd n (.tup xs)=true):∃ m,n=m+1/\∀ x∈xs,pd m x=true:=by
 cases n with
 | zero=>cases h
 | succ n=>exact ⟨n,rfl,by simpa [pd] using h⟩
theorem F0 {n:Nat} {xs} (h:pd n (.dct xs)=true):False:=by cases n<;>cases h
theorem Xn {n:Nat} {c xs} (h:pd n (.exc c xs)=true):False:=by cases n<;>cases h
mutual
theorem Dz:∀ {n m:Nat} (x y:Dat),pd n x=true->pd m y=true->PyData.eqv (toP x) (toP y)=Hk x y
 | n,m,.dct _,y,h,_=>(F0 h).elim
 | n,m,.exc _ _,y,h,_=>(Xn h).elim
 | n,m,x,.dct _,_,h=>(F0 h).elim
 | n,m,x,.exc _ _,_,h=>(Xn h).elim
 | n,m,.non,.non,_,_=>rfl
 | n,m,.non,.bl _,_,_=>rfl
 | n,m,.non,.int _,_,_=>rfl
 | n,m,.non,.str _,_,_=>rfl
 | n,m,.non,.tup _,_,_=>rfl
 | n,m,.non,.lst _,_,_=>rfl
 | n,m,.bl _,.non,_,_=>rfl
 | n,m,.bl _,.bl _,_,_=>rfl
 | n,m,.bl _,.int _,_,_=>rfl
 | n,m,.bl _,.str _,_,_=>rfl
 | n,m,.bl _,.tup _,_,_=>rfl
 | n,m,.bl _,.lst _,_,_=>rfl
 | n,m,.int _,.non,_,_=>rfl
 | n,m,.int _,.bl _,_,_=>rfl
 | n,m,.int _,.int _,_,_=>rfl
 | n,m,.int _,.str _,_,_=>rfl
 | n,m,.int _,.tup _,_,_=>rfl
 | n,m,.int _,.lst _,_,_=>rfl
 | n,m,.str _,.non,_,_=>rfl
 | n,m,.str _,.bl _,_,_=>rfl
 | n,m,.str _,.int _,_,_=>rfl
 | n,m,.str _,.str _,_,_=>rfl
 | n,m,.str _,.tup _,_,_=>rfl
 | n,m,.str _,.lst _,_,_=>rfl
 | n,m,.lst _,.non,_,_=>rfl
 | n,m,.lst _,.bl _,_,_=>rfl
 | n,m,.lst _,.int _,_,_=>rfl
 | n,m,.lst _,.str _,_,_=>rfl
 | n,m,.lst _,.tup _,_,_=>rfl
 | n,m,.lst xs,.lst ys,h,k=>by
  obtain ⟨n',_,hx⟩:=Fx h;obtain ⟨m',_,hy⟩:=Fx k;simp only [toP,PyData.eqv,Hk];exact N3 xs ys hx hy
 | n,m,.tup _,.non,_,_=>rfl
 | n,m,.tup _,.bl _,_,_=>rfl
 | n,m,.tup _,.int _,_,_=>rfl
 | n,m,.tup _,.str _,_,_=>rfl
 | n,m,.tup _,.lst _,_,_=>rfl
 | n,m,.tup xs,.tup ys,h,k=>by
  obtain ⟨n',_,hx⟩:=Xj h;obtain ⟨m',_,hy⟩:=Xj k;simp only [toP,PyData.eqv,Hk];exact N3 xs ys hx hy
theorem N3:∀ {n m:Nat} (xs ys:List Dat),(∀ x∈xs,pd n x=true)->(∀ y∈ys,pd m y=true)->PyData.eqvAll (Oc xs) (Oc ys)=Ot xs ys
 | n,m,[],[],_,_=>rfl
 | n,m,[],_::_,_,_=>rfl
 | n,m,_::_,[],_,_=>rfl
 | n,m,x::xs,y::ys,hx,hy=>by
  simp only [Oc,PyData.eqvAll,Ot];rw [Dz (n:=n) (m:=m) x y (hx x mem_cons_self) (hy y mem_cons_self),N3 (n:=n) (m:=m) xs ys (fun z hz=>hx z (mem_cons_of_mem _ hz)) (fun z hz=>hy z (mem_cons_of_mem _ hz))]
end
mutual
theorem E1:∀ (n:Nat) (x:Dat),pd n x=true->(toP x).depth<=n
 | n,.dct _,h=>(F0 h).elim
 | n,.exc _ _,h=>(Xn h).elim
 | n,.non,_=>zero_le _
 | n,.bl _,_=>zero_le _
 | n,.int _,_=>zero_le _
 | n,.str _,_=>zero_le _
 | n,.lst xs,h=>by
  obtain ⟨m,e,hx⟩:=Fx h;subst e;simp only [toP,PyData.depth];exact Nat.succ_le_succ (G7 m xs hx)
 | n,.tup xs,h=>by
  obtain ⟨m,e,hx⟩:=Xj h;subst e;simp only [toP,PyData.depth];exact Nat.succ_le_succ (G7 m xs hx)
theorem G7:∀ (n:Nat) (xs:List Dat),(∀ x∈xs,pd n x=true)->PyData.depthAll (Oc xs)<=n
 | n,[],_=>zero_le _
 | n,x::xs,h=>by
  simp only [Oc,PyData.depthAll];exact Nat.max_le.mpr ⟨E1 n x (h x mem_cons_self),G7 n xs fun z hz=>h z (mem_cons_of_mem _ hz)⟩
end
section
variable {X:Cx} {pins:Zzx} {σ:St} {H:Hp} {s:Shared}
mutual
theorem Rp.reads (I:Inv X pins σ H s):∀ {n:Nat} (d:Dat) (v:V) (u:Value),pd n d=true->Rp X.K H d v->Yb v u->∃ as,Reads s.heap u (toP d) as/\(toP d).canLay0=true
 | n,.dct _,v,u,h,_,_=>(F0 h).elim
 | n,.exc _ _,v,u,h,_,_=>(Xn h).elim
 | n,.non,v,u,_,i,r=>by cases Nf i;cases r;exact ⟨_,.none,rfl⟩
 | n,.bl b,v,u,_,i,r=>by cases L1 i;cases r;exact ⟨_,.bool b,rfl⟩
 | n,.int k,v,u,_,i,r=>by cases Jw i;obtain ⟨t,rfl⟩:=r;exact ⟨_,.int k t,rfl⟩
 | n,.str x,v,u,_,i,r=>by
  obtain ⟨e,hs⟩:=Nr i;subst e;obtain ⟨t,rfl⟩:=r;exact ⟨_,.str x t,hs.ok⟩
 | n,.tup ds,v,u,h,i,r=>by
  obtain ⟨m,_,hx⟩:=Xj h;obtain ⟨a,vs,e1,e2,e3⟩:=S3 i;subst e1;cases r;obtain ⟨its,rv,⟨o,ho,hc,k,hd⟩,_⟩:=I.tuple e2;obtain ⟨as,ra,hl⟩:=W5.reads I ds vs its hx e3 rv;exact ⟨_,.tuple ho hc hd (by simpa using ra),hl⟩
 | n,.lst ds,v,u,h,i,r=>by
  obtain ⟨m,_,hx⟩:=Fx h;obtain ⟨a,vs,e1,e2,e3⟩:=Qr i;subst e1;cases r;obtain ⟨its,rv,⟨o,k,ho,hc,_,hd⟩,_⟩:=I.list e2.sq;obtain ⟨as,ra,hl⟩:=W5.reads I ds vs its hx e3 rv;exact ⟨_,.list ho hc hd (by simpa using ra),hl⟩
theorem W5.reads (I:Inv X pins σ H s):∀ {n:Nat} (ds:List Dat) (vs:List V) (us:List Value),(∀ x∈ds,pd n x=true)->W5 X.K H ds vs->Zx vs us->∃ as,ReadsAll s.heap us (Oc ds) as/\PyData.canLayAll0 (Oc ds)=true
 | n,[],vs,us,_,i,r=>by
  rw [Yf i] at r;cases r;exact ⟨_,.nil,rfl⟩
 | n,d::ds,vs,us,h,i,r=>by
  obtain ⟨v,rr,e1,e2,e3⟩:=Zp i;subst e1;cases r with
  | cons r1 r2 =>
   obtain ⟨as,h1,l1⟩:=Rp.reads I d v _ (h d mem_cons_self) e2 r1;obtain ⟨bs,h2,l2⟩:=W5.reads I ds rr _ (fun z hz=>h z (mem_cons_of_mem _ hz)) e3 r2;exact ⟨_,.cons h1 h2,by simp only [Oc,PyData.canLayAll0,l1,l2];rfl⟩
end
theorem Rp.eqAt (I:Inv X pins σ H s) {A:Around} {n m:Nat} {d e:Dat} {w:V} {u':Value} (hd:pd n d=true) (he:pd m e=true) (hn:n<=60) (hu:A.units+60<cLine) (r1:Rp X.K H d v) (r2:Rp X.K H e w) (q1:Yb v u) (q2:Yb w u') :
  SeqAt.EqAt A s u u' (Hk d e):=by
 obtain ⟨as,a1,a2⟩:=Rp.reads I d v u hd r1 q1;obtain ⟨bs,b1,b2⟩:=Rp.reads I e w u' he r2 q2;rw [← Dz d e hd he];have:=E1 n d hd;exact SeqAt.eqAt_reads _ _ A s u u' as bs a1 b1 a2 b2 (by lia)
end
def Mtb:Option HO->Prop
 | some (.lst _)=>True
 | some (.dK _)=>True
 | some (.dT _)=>True
 | _=>False
def Ta (A:AS) (H:Hp):Prop:=∀ a,A a=true->Mtb (H a)
theorem Ta.new {A:AS} (m:Ta A H) {p:Addr} (h:H p=none):A p=false:=by
 cases q:A p with
 | false=>rfl
 | true=>have:=m p q;rw [h] at this;exact this.elim
theorem Ta.mono {A:AS} (m:Ta A H) (e:Zo H H'):Ta A H':=fun a h=>by
 have:=m a h;cases q:H a with
 | none=>rw [q] at this;exact this.elim
 | some o=>rw [q] at this;rw [e a o q];exact this
def ins (A:AS) (p:Addr):AS:=fun a=>A a||a==p
theorem Cj {A:AS} {p:Addr}:ins A p p=true:=by simp [ins]
theorem Iu {A:AS} {p:Addr} (h:A a=true):ins A p a=true:=by simp [ins,h]
theorem Nv {A:AS} {p:Addr} (h:ins A p a=true):A a=true\/a=p:=by simpa [ins] using h
theorem Zce {A:AS} {p:Addr} (h:A a=false) (hn:a≠p):ins A p a=false:=by simp [ins,h,hn]
structure Step (A:AS) (H:Hp) (A':AS) (H':Hp):Prop where
 keep:∀ a o,H a=some o->A a=false->H' a=some o
 sub:∀ a,A' a=true->A a=true\/H a=none
theorem Step.refl (A:AS) (H:Hp):Step A H A H:=⟨fun _ _ h _=>h,fun _ h=>.inl h⟩
theorem Step.same {A:AS} (e:Zo H H'):Step A H A H':=⟨fun a o h _=>e a o h,fun _ h=>.inl h⟩
theorem Step.trans {A A1 A2:AS} {H2:Hp} (a:Step A H A1 H1) (b:Step A1 H1 A2 H2):Step A H A2 H2 where
 keep:=fun c o h hA=>b.keep c o (a.keep c o h hA) (by
  cases q:A1 c with
  | false=>rfl
  | true =>
   rcases a.sub c q with z | z
   ·rw [z] at hA;cases hA
   ·rw [z] at h;cases h)
 sub:=fun c h=>by
  rcases b.sub c h with z | z
  ·exact a.sub c z
  ·cases qA:A c with
   | true=>exact .inl rfl
   | false =>
    cases q:H c with
    | none=>exact .inr rfl
    | some o=>rw [a.keep c o q qA] at z;cases z
theorem Step.av {A A':AS} (s:Step A H A' H'):Zo (av H A) (av H' A'):=fun b o e=>by
 obtain ⟨h1,h2⟩:=Qd e;refine Wn (s.keep b o h2 h1) ?_;cases q:A' b with
 | false=>rfl
 | true =>
  rcases s.sub b q with z | z
  ·rw [z] at h1;cases h1
  ·rw [z] at h2;cases h2
inductive GX where
 | nest (dss:List (List Dat)) | dict (kvs:List (List V5×Dat)) | err (c f:Str) (ns:List Int) | dik (kvs:List (Int×Dat))
def GOk (K:Zzy) (A:AS) (H:Hp) (o:Addr->Prop):GX->V->Prop
 | .nest dss,v=>∃ (a:Addr) (as:List Addr),v=.ref a/\o a/\dss.length<=sizeLine/\H a=some (.lst (as.map V.ref))/\as.length=dss.length/\as.Nodup/\a∉as/\∀ (n:Nat) b ds,as[n]?=some b->dss[n]?=some ds->o b/\ds.length<=sizeLine/\∃ vs,H b=some (.lst vs)/\W5 K (av H A) ds vs
 | .dict kvs,v=>∃ (a:Addr) (us:List (List V5×V)),v=.ref a/\o a/\kvs.length<=sizeLine/\H a=some (.dT us)/\us.map (·.1)=kvs.map (·.1)/\W5 K (av H A) (kvs.map (·.2)) (us.map (·.2))
 | .err c f ns,v=>∃ (e C dx:Addr) (fvs:List (Str×V)) (a:Addr),v=.ref e/\av H A e=some (.ext (XIs e C (some dx)))/\U3 K c C/\av H A dx=some (.xd fvs)/\(∀ g,g≠f->fvs.lookup g=none)/\fvs.lookup f=some (.ref a)/\o a/\H a=some (.lst (ns.map V.int))/\ns.length<=sizeLine
 | .dik kvs,v=>∃ (a:Addr) (us:List (V5×V)),v=.ref a/\o a/\kvs.length<=sizeLine/\H a=some (.dK us)/\us.map (·.1)=kvs.map (fun p=>(Sum.inl p.1:V5))/\W5 K (av H A) (kvs.map (·.2)) (us.map (·.2))
theorem GOk.frame {A A':AS} {o o':Addr->Prop} {g:GX} (h:GOk K A H o g v) (ho:∀ b,o b->o' b) (hf:∀ b x,o b->H b=some x->H' b=some x) (ha:Zo (av H A) (av H' A')):GOk K A' H' o' g v:=by
 cases g with
 | nest dss =>
  obtain ⟨a,as,e1,e2,e3,e4,e5,e6,e7,e8⟩:=h;refine ⟨a,as,e1,ho a e2,e3,hf _ _ e2 e4,e5,e6,e7,fun n b ds q1 q2=>?_⟩;obtain ⟨f1,f2,vs,f3,f4⟩:=e8 n b ds q1 q2;exact ⟨ho b f1,f2,vs,hf _ _ f1 f3,f4.mono ha⟩
 | dict kvs =>
  obtain ⟨a,us,e1,e2,e3,e4,e5,e6⟩:=h;exact ⟨a,us,e1,ho a e2,e3,hf _ _ e2 e4,e5,e6.mono ha⟩
 | err c f ns =>
  obtain ⟨x,C,dx,fvs,a,h1,h2,h3,h4,h5,h6,h7,h8,h9⟩:=h;exact ⟨x,C,dx,fvs,a,h1,ha _ _ h2,h3,ha _ _ h4,h5,h6,ho a h7,hf _ _ h7 h8,h9⟩
 | dik kvs =>
  obtain ⟨a,us,e1,e2,e3,e4,e5,e6⟩:=h;exact ⟨a,us,e1,ho a e2,e3,hf _ _ e2 e4,e5,e6.mono ha⟩
inductive Slt where
 | un | fz (d:Dat) | pk (d:Dat) | ow (ds:List Dat) | gx (g:GX)
abbrev Ev:=List Slt
abbrev Zzu:=Ev->Option Dat
abbrev Zzv:=Ev->Option (List Dat)
def Fc (K:Zzy) (A:AS) (H:Hp) (o:Addr->Prop):Slt->Option V->Prop
 | .un,_=>True
 | .fz d,x=>∃ v,x=some v/\Rp K (av H A) d v
 | .pk d,x=>∃ v,x=some v/\Pk K A H d v
 | .ow ds,x=>∃ a vs,x=some (.ref a)/\o a/\ds.length<=sizeLine/\H a=some (.lst vs)/\W5 K (av H A) ds vs
 | .gx g,x=>∃ v,x=some v/\GOk K A H o g v
structure Bs where
 H₀:Hp
 R:AS
 st:Bool
structure EnvOk (K:Zzy) (B:Bs) (A:AS) (H:Hp) (σ:St) (env:Ev):Prop where
 h0:Zo B.H₀ H
 r0:∀ a,B.R a=true->∃ o,B.H₀ a=some o
 ra:∀ a,B.R a=true->A a=true
 ar:∀ a,A a=true->B.R a=true\/B.H₀ a=none
 mu:Ta A H
 len:σ.length=env.length
 np:B.st=true->∀ (i:Nat) d,env[i]?≠some (.pk d)
 sl:∃ own:Nat->Addr->Prop,(∀ i j a,own i a->own j a->i=j)/\(∀ i a,own i a->A a=true/\B.R a=false) /\
  ∀ (i:Nat) s,env[i]?=some s->∃ x,σ[i]?=some x/\Fc K A H (own i) s x
theorem Fc.mono {A:AS} (e:Zo H H') {o:Addr->Prop} {s:Slt} {x:Option V} (h:Fc K A H o s x):Fc K A H' o s x:=by
 cases s with
 | un=>trivial
 | fz d=>obtain ⟨v,e1,e2⟩:=h;exact ⟨v,e1,e2.mono (We e)⟩
 | pk d=>obtain ⟨v,e1,e2⟩:=h;exact ⟨v,e1,e2.mono e⟩
 | ow ds=>obtain ⟨a,vs,e1,e2,hz,e3,e4⟩:=h;exact ⟨a,vs,e1,e2,hz,e _ _ e3,e4.mono (We e)⟩
 | gx g=>obtain ⟨v,e1,e2⟩:=h;exact ⟨v,e1,e2.frame (fun _ z=>z) (fun b x _ q=>e b x q) (We e)⟩
theorem EnvOk.mono {B:Bs} {A:AS} {env:Ev} (k:EnvOk K B A H σ env) (e:Zo H H'):EnvOk K B A H' σ env:=by
 obtain ⟨own,h1,h2,h4⟩:=k.sl;exact ⟨k.h0.trans e,k.r0,k.ra,k.ar,k.mu.mono e,k.len,k.np,own,h1,h2,fun i s q=>let ⟨x,q2,q3⟩:=h4 i s q;⟨x,q2,q3.mono e⟩⟩
def Rm (m:Bool) (K:Zzy) (A:AS) (H:Hp) (d:Dat) (v:V):Prop:=match m with
 | true=>Pk K A H d v
 | false=>Rp K (av H A) d v
theorem Rm.any {A:AS} {d:Dat} (h:Rp K (av H A) d v):Rm m K A H d v:=by
 cases m with
 | true=>exact .inl h
 | false=>exact h
theorem Rm.pk {A:AS} {d:Dat} (h:Rm m K A H d v):Pk K A H d v:=by
 cases m with
 | true=>exact h
 | false=>exact .inl h
theorem Rm.mono {A:AS} (e:Zo H H') {d:Dat} (h:Rm m K A H d v):Rm m K A H' d v:=by
 cases m with
 | true=>exact Pk.mono e h
 | false=>exact Rp.mono (We e) h
def Bk (m:Bool) (K:Zzy) (A:AS) (H:Hp):List Dat->List V->Prop
 | [],vs=>vs=[]
 | d::ds,vs=>∃ v r,vs=v::r/\Rm m K A H d v/\Bk m K A H ds r
theorem Bk.rps {A:AS} :∀ {ds:List Dat} {vs:List V},Bk false K A H ds vs->W5 K (av H A) ds vs
 | [],vs,h=>by rw [show vs=[] from h];exact V8
 | _::_,_,⟨v,r,e1,e2,e3⟩=>by rw [e1];exact Vb e2 (Bk.rps e3)
theorem Bk.full {A:AS} :∀ {ds:List Dat} {vs:List V},Bk m K A H ds vs->W5 K H ds vs
 | [],vs,h=>by rw [show vs=[] from h];exact V8
 | _::_,_,⟨v,r,e1,e2,e3⟩=>by rw [e1];exact Vb e2.pk.rp (Bk.full e3)
theorem Bk.one {A:AS} {d:Dat} (h:Bk m K A H [d] vs):∃ v,vs=[v]/\Pk K A H d v:=by
 obtain ⟨v,r,e1,e2,e3⟩:=h;exact ⟨v,by rw [e1,show r=[] from e3],e2.pk⟩
theorem Bk.two {A:AS} {d d':Dat} (h:Bk m K A H [d,d'] vs):∃ v v',vs=[v,v']/\Pk K A H d v/\Pk K A H d' v':=by
 obtain ⟨v,r,e1,e2,v',r',e3,e4,e5⟩:=h;exact ⟨v,v',by rw [e1,e3,show r'=[] from e5],e2.pk,e4.pk⟩
def Qn (m:Bool) (K:Zzy) (A:AS) (H:Hp) (d:Dat) (Q:VK):Prop:=∀ v H',Zo H H'->Rm m K A H' d v->Q v H'
def Os (K:Zzy) (A:AS) (H:Hp) (ds:List Dat) (Q:VK):Prop:=∀ p vs H',ds.length<=sizeLine->Zo H H'->H p=none->H' p=some (.lst vs)->W5 K (av H' (ins A p)) ds vs->Q (.ref p) H'
section
variable {m:Bool} {K:Zzy} {A:AS} {H H':Hp} {d:Dat} {ds:List Dat} {Q:VK}
theorem Qn.mono (h:Qn m K A H d Q) (e:Zo H H'):Qn m K A H' d Q:=fun v H2 e2 r=>h v H2 (e.trans e2) r
theorem Os.mono (h:Os K A H ds Q) (e:Zo H H'):Os K A H' ds Q:=fun p vs H2 hz e2 hn hp r=>h p vs H2 hz (e.trans e2) (e.free hn) hp r
theorem Qn.any (h:Qn m K A H d Q):Qn false K A H d Q:=fun v H' e r=>h v H' e (Rm.any r)
theorem Qn.here (h:Qn m K A H d Q) (r:Rp K (av H A) d v):Q v H:=h v H (Zo.refl H) (Rm.any r)
theorem Qn.new (h:Qn m K A H (.lst ds) Q) (mu:Ta A H):Os K A H ds Q:=fun p vs H' hz e hn hp r=>by
 refine h _ H' e (Rm.any (Kf hz (.inl (.inl (Wn hp (mu.new hn)))) (r.mono (Q8 fun a q=>Iu q))))
theorem Os.at (h:Os K A H ds Q) (hz:ds.length<=sizeLine) (r:W5 K (av H A) ds vs):∀ p,H p=none->Q (.ref p) (Yn H p (.lst vs)):=fun p hp=>by
 refine h p vs _ hz (Zo.new hp) hp Zg (r.mono fun b o e=>?_);obtain ⟨h1,h2⟩:=Qd e;have hb:b≠p:=Y4 h2 hp;exact Wn (by rw [Za hb];exact h2) (Zce h1 hb)
theorem Qn.tup {vs:List V} (h:Qn m K A H (.tup ds) Q) (mu:Ta A H) (hz:ds.length<=sizeLine) (r:W5 K (av H A) ds vs):∀ p,H p=none->Q (.ref p) (Yn H p (.tup vs)):=fun p hp=>by
 refine h _ _ (Zo.new hp) (Rm.any (X8 hz (.inl ((Wn Zg (mu.new hp)))) (r.mono (We (Zo.new hp)))))
end
def Wj (m:Bool) (X:Cx) (e:Expr) (f:Zzu):Prop:=PE X e fun σ H Q=>∃ env R A d,EnvOk X.K R A H σ env/\f env=some d/\Qn m X.K A H d Q
def PNd (X:Cx) (e:Expr) (f:Zzv):Prop:=PE X e fun σ H Q=>∃ env R A ds,EnvOk X.K R A H σ env/\f env=some ds/\Os X.K A H ds Q
def Oo (m:Bool) (X:Cx) (es:List Expr) (f:Zzv):Prop:=PA X es fun σ H Q=>∃ env R A ds,EnvOk X.K R A H σ env/\f env=some ds/\∀ vs H',Zo H H'->Bk m X.K A H' ds vs->Q vs H'
def PTd (X:Cx) (e:Expr) (f:Ev->Option Bool):Prop:=PT X e fun σ H Q=>∃ env R A b,EnvOk X.K R A H σ env/\f env=some b/\∀ H',Zo H H'->Q b H'
def Fg (X:Cx) (e:Expr) (f:Ev->Option Bool):Prop:=PW X e fun σ H Q=>∃ env R A b,EnvOk X.K R A H σ env/\f env=some b/\∀ H',Zo H H'->Q b H'
theorem PE.weak {e:Expr} {t t':TE} (h:PE X e t) (w:∀ σ H Q,t' σ H Q->t σ H Q):PE X e t':=fun pins s σ H Q I q=>h pins s σ H Q I (w σ H Q q)
theorem PT.weak {e:Expr} {t t':TT} (h:PT X e t) (w:∀ σ H Q,t' σ H Q->t σ H Q):PT X e t':=fun pins s σ H Q I q=>h pins s σ H Q I (w σ H Q q)
theorem PW.weak {e:Expr} {t t':TT} (h:PW X e t) (w:∀ σ H Q,t' σ H Q->t σ H Q):PW X e t':=fun wh pins s σ H Q I q=>h wh pins s σ H Q I (w σ H Q q)
theorem PA.weak {e:List Expr} {t t':TA} (h:PA X e t) (w:∀ σ H Q,t' σ H Q->t σ H Q):PA X e t':=fun pos pins s σ H Q I q=>h pos pins s σ H Q I (w σ H Q q)
theorem PS.weak {e:Stmt} {t t':TS} (h:PS X e t) (w:∀ D σ H,t' D σ H->t D σ H):PS X e t':=fun pins s σ H D I q=>h pins s σ H D I (w D σ H q)
theorem Dh.weak {e:List Stmt} {t t':TS} (h:Dh X e t) (w:∀ D σ H,t' D σ H->t D σ H):Dh X e t':=fun pins s σ H D I q=>h pins s σ H D I (w D σ H q)
section
variable {m:Bool} {X:Cx} {e:Expr} {f:Zzu}
theorem Wj.any (h:Wj false X e f):Wj m X e f:=h.weak fun _ _ _ ⟨env,R,A,d,k,q1,q2⟩=>⟨env,R,A,d,k,q1,q2.any⟩
def dL (g:Zzv):Ev->Option Dat:=fun env=>(g env).map .lst
theorem PNd.x {g:Zzv} (h:PNd X e g):Wj m X e (dL g):=h.weak fun _ _ _ zz=>by
 obtain ⟨env,R,A,d,k,q1,q2⟩:=zz;unfold dL at q1;cases q:g env with
 | none=>rw [q] at q1;cases q1
 | some ds =>
  rw [q] at q1;cases q1;exact ⟨env,R,A,ds,k,q,q2.new k.mu⟩
theorem bind_some {a:Option α} {g:α->Option β} {b:β} (h:a.bind g=some b):∃ x,a=some x/\g x=some b:=by
 cases a with
 | none=>cases h
 | some x=>exact ⟨x,rfl,h⟩
def dV (i:Nat):Ev->Option Dat:=fun env=>match env[i]? with
 | some (.fz d)=>some d
 | _=>none
def Aa:List (List V5×Dat)->Option (List (List V5×Int))
 | []=>some []
 | (k,.int n)::r=>(Aa r).map ((k,n)::·)
 | _=>none
theorem Ak:∀ {kvs:List (List V5×Dat)} {ls:List (List V5×Int)},Aa kvs=some ls->ls.length=kvs.length
 | [],ls,h=>by cases h;rfl
 | (k,.int n)::r,ls,h=>by
   rw [Aa] at h;cases e:Aa r with
   | none=>rw [e] at h;cases h
   | some r'=>rw [e] at h;cases h;rw [length_cons,length_cons,Ak e]
 | (k,.non)::r,ls,h=>by cases h
 | (k,.bl _)::r,ls,h=>by cases h
 | (k,.str _)::r,ls,h=>by cases h
 | (k,.tup _)::r,ls,h=>by cases h
 | (k,.lst _)::r,ls,h=>by cases h
 | (k,.dct _)::r,ls,h=>by cases h
 | (k,.exc _ _)::r,ls,h=>by cases h
theorem Aq:∀ {kvs:List (List V5×Dat)} {ls:List (List V5×Int)} {us:List (List V5×V)},Aa kvs=some ls->us.map (·.1)=kvs.map (·.1)->W5 K H (kvs.map (·.2)) (us.map (·.2))->us=Z4q ls
 | [],ls,us,h,e1,_=>by
   cases h;cases us with
   | nil=>rfl
   | cons u us=>cases e1
 | (k,.int n)::r,ls,us,h,e1,e2=>by
   rw [Aa] at h;cases e:Aa r with
   | none=>rw [e] at h;cases h
   | some r' =>
     rw [e] at h;cases h;cases us with
     | nil=>cases e1
     | cons u us =>
       obtain ⟨v,vr,z1,z2,z3⟩:=Zp e2;rw [map_cons] at z1;injection z1 with z1 z4
       rw [map_cons,map_cons] at e1;injection e1 with e1 e3
       have ih:=Aq e e3 (z4▸z3);have hv:u.2=.int n:=by rw [z1];exact Jw z2
       rw [ih];show u::Z4q r'=(k,V.int n)::Z4q r';rw [show u=(k,V.int n) from Prod.ext e1 hv]
 | (k,.non)::r,ls,us,h,_,_=>by cases h
 | (k,.bl _)::r,ls,us,h,_,_=>by cases h
 | (k,.str _)::r,ls,us,h,_,_=>by cases h
 | (k,.tup _)::r,ls,us,h,_,_=>by cases h
 | (k,.lst _)::r,ls,us,h,_,_=>by cases h
 | (k,.dct _)::r,ls,us,h,_,_=>by cases h
 | (k,.exc _ _)::r,ls,us,h,_,_=>by cases h
def dP (i:Nat):Ev->Option Dat:=fun env=>match env[i]? with
 | some (.fz d)=>some d
 | some (.pk d)=>some d
 | some (.ow ds)=>some (.lst ds)
 | some (.gx (.err c f ns))=>some (.exc c [(f,.nums ns)])
 | some (.gx (.dict kvs))=>(Aa kvs).map .dct
 | _=>none
theorem EnvOk.fz {R:Bs} {A:AS} {env:Ev} {d:Dat} (k:EnvOk X.K R A H σ env) (h:env[i]?=some (.fz d)):∃ v,σ[i]?=some (some v)/\Rp X.K (av H A) d v:=by
 obtain ⟨own,h1,h2,h4⟩:=k.sl;obtain ⟨x,q2,v,e1,e2⟩:=h4 i _ h;subst e1;exact ⟨v,q2,e2⟩
theorem EnvOk.look {R:Bs} {A:AS} {env:Ev} {d:Dat} (k:EnvOk X.K R A H σ env) (h:dP i env=some d):∃ v,σ[i]?=some (some v)/\Pk X.K A H d v:=by
 obtain ⟨own,h1,h2,h4⟩:=k.sl;unfold dP at h;split at h
 ·rename_i z e
  cases h;obtain ⟨x,q2,v,e1,e2⟩:=h4 i _ e;subst e1;exact ⟨v,q2,.inl e2⟩
 ·rename_i z e
  cases h;obtain ⟨x,q2,v,e1,e2⟩:=h4 i _ e;subst e1;exact ⟨v,q2,e2⟩
 ·rename_i z e
  cases h;obtain ⟨x,q2,a,vs,e1,e2,hz,e3,e4⟩:=h4 i _ e;subst e1;exact ⟨.ref a,q2,.inr (.inl ⟨a,vs,z,rfl,rfl,hz,e3,e4⟩)⟩
 ·rename_i c f ns e
  cases h;obtain ⟨x,q2,v,e1,y,C,dx,fvs,a,h1,h2,h3,h4,h5,h6,h7,h8,h9⟩:=h4 i _ e;subst e1;exact ⟨v,q2,.inr (.inr (.inl ⟨c,f,ns,rfl,y,C,dx,fvs,a,h1,(Qd h2).2,h3,(Qd h4).2,h5,h6,h8,h9⟩))⟩
 ·rename_i kvs e
  obtain ⟨x,q2,v,e1,a,us,g1,g2,g3,g4,g5,g6⟩:=h4 i _ e;subst e1;cases el:Aa kvs with
  | none=>rw [el] at h;cases h
  | some ls =>
   rw [el] at h;cases h;exact ⟨v,q2,.inr (.inr (.inr ⟨ls,a,rfl,g1,by rw [Ak el];exact g3,by rw [g4,Aq el g5 g6]⟩))⟩
 ·cases h
theorem xv (i:Nat) {x:Str} {pos:Pos} (hN:X.N[i]?=some x:=by rfl) (hv:Vis X.env.scope x:=by first | exact Or.inl rfl | exact Or.inr (Or.inl rfl) | exact Or.inr (Or.inr rfl)) (hd:(x==("__debug__" : Str))=false:=by decide)
  (hcd:(x==("__classdict__" : Str))=false:=by decide):Wj m X (.Name x pos) (dV i):=Wj.any ((Qs hN hv hd hcd).weak fun σ H Q zz=>by
 obtain ⟨env,R,A,d,k,q1,q2⟩:=zz;unfold dV at q1;split at q1
 ·rename_i z e
  cases q1;obtain ⟨v,h1,h2⟩:=k.fz e;exact ⟨v,h1,q2.here h2⟩
 ·cases q1)
theorem xo (i:Nat) {x:Str} (hN:X.N[i]?=some x:=by rfl) (hv:Vis X.env.scope x:=by first | exact Or.inl rfl | exact Or.inr (Or.inl rfl) | exact Or.inr (Or.inr rfl)) (hd:(x==("__debug__" : Str))=false:=by decide)
  (hcd:(x==("__classdict__" : Str))=false:=by decide):Wj true X (.Name x pos) (dP i):=(Qs hN hv hd hcd).weak fun σ H Q zz=>by
 obtain ⟨env,R,A,d,k,q1,q2⟩:=zz;obtain ⟨v,h1,h2⟩:=k.look q1;exact ⟨v,h1,q2 v H (Zo.refl H) h2⟩
def dC (d:Dat):Ev->Option Dat:=fun _=>some d
theorem Zg8 {i:Int} {j pos}:Wj m X (.Constant (.int i) j pos) (dC (.int i)):=Wj.any (Zd0.weak fun _ _ _ ⟨_,_,_,_,_,q1,q2⟩=>by cases q1;exact q2.here Yq)
theorem xbl {b:Bool} {j pos}:Wj m X (.Constant (.bool b) j pos) (dC (.bl b)):=Wj.any (Zg6.weak fun _ _ _ ⟨_,_,_,_,_,q1,q2⟩=>by cases q1;exact q2.here Us)
theorem Z30 {j pos}:Wj m X (.Constant .none j pos) (dC .non):=Wj.any (Zei.weak fun _ _ _ ⟨_,_,_,_,_,q1,q2⟩=>by cases q1;exact q2.here Io)
theorem Z7a {x:Str} {j pos} (h:SOk x:=by decide +kernel):Wj m X (.Constant (.str x) j pos) (dC (.str x)):=Wj.any (Z6z.weak fun _ _ _ ⟨_,_,_,_,_,q1,q2⟩=>by cases q1;exact q2.here (Ro h))
theorem Zfa {x:Str} {d:Dat} (hg:Gl X x) (hm:X.mg x=some u) (r:Yb v u) (hr:∀ H,Rp X.K H d v) (hd:(x==("__debug__" : Str))=false:=by decide):Wj m X (.Name x pos) (dC d) :=
 Wj.any ((Zac hg hm r hd).weak fun _ _ _ ⟨_,_,_,_,_,q1,q2⟩=>by cases q1;exact q2.here (hr _))
end
def rD (K:Zzy) (F:Dat->Dat->Option Dat):R2:=fun v u H Q=>∃ A x y d,Ta A H/\F x y=some d/\Pk K A H x v/\Pk K A H y u/\Qn false K A H d Q
def rN (K:Zzy) (F:Dat->Dat->Option (List Dat)):R2:=fun v u H Q=>∃ A x y ds,Ta A H/\F x y=some ds/\Pk K A H x v/\Pk K A H y u/\Os K A H ds Q
def Si (X:Cx) (f:Value->Value->Sem Value) (F:Dat->Dat->Option Dat):Prop:=E5 X f (rD X.K F)
def OpN (X:Cx) (f:Value->Value->Sem Value) (F:Dat->Dat->Option (List Dat)):Prop:=E5 X f (rN X.K F)
theorem E5.weak {f:Value->Value->Sem Value} {r r':R2} (h:E5 X f r) (w:∀ x y H Q,r' x y H Q->r x y H Q):E5 X f r':=fun pins s σ H x y v u Q I rx ry q=>h pins s σ H x y v u Q I rx ry (w _ _ _ _ q)
theorem OpN.d {f:Value->Value->Sem Value} {F:Dat->Dat->Option (List Dat)} (h:OpN X f F):Si X f (fun x y=>(F x y).map .lst):=E5.weak h fun v u H Q zz=>by
 obtain ⟨A,x,y,d,mu,e,p1,p2,q⟩:=zz;dsimp only at e;cases z:F x y with
 | none=>rw [z] at e;cases e
 | some ds=>rw [z] at e;cases e;exact ⟨A,x,y,ds,mu,z,p1,p2,q.new mu⟩
def dO (F:Dat->Dat->Option α) (f g:Zzu):Ev->Option α:=fun env=>(f env).bind fun x=>(g env).bind fun y=>F x y
section
variable {m m1 m2:Bool} {X:Cx} {a b:Expr} {f g:Zzu} {F:Dat->Dat->Option Dat} {G:Dat->Dat->Option (List Dat)} {pos:Pos}
theorem two {r:R2} {Q:VK} {env:Ev} {R:Bs} {A:AS} {x y:Dat} (k:EnvOk X.K R A H σ env) (e1:f env=some x) (e2:g env=some y)
  (h:∀ v u H2,Zo H H2->Pk X.K A H2 x v->Pk X.K A H2 y u->Ta A H2->r v u H2 Q) :
  tOp r (fun σ H Q=>∃ env R A d,EnvOk X.K R A H σ env/\f env=some d/\Qn m1 X.K A H d Q) (fun σ H Q=>∃ env R A d,EnvOk X.K R A H σ env/\g env=some d/\Qn m2 X.K A H d Q) σ H Q :=
 ⟨env,R,A,x,k,e1,fun v H1 s1 p1=>⟨env,R,A,y,k.mono s1,e2,fun u H2 s2 p2=>h v u H2 (s1.trans s2) (p1.pk.mono s2) p2.pk (k.mu.mono (s1.trans s2))⟩⟩
theorem Hz {F:Dat->Dat->Option α} {env:Ev} {d:α} (h:dO F f g env=some d):∃ x y,f env=some x/\g env=some y/\F x y=some d:=by
 obtain ⟨x,e1,h⟩:=bind_some h;obtain ⟨y,e2,h⟩:=bind_some h;exact ⟨x,y,e1,e2,h⟩
theorem xop {op:Operator} (ho:Si X (binaryOp op) F) (ha:Wj m1 X a f) (hb:Wj m2 X b g):Wj m X (.BinOp a op b pos) (dO F f g):=Wj.any ((Zax ho ha hb).weak fun σ H Q zz=>by
 obtain ⟨env,R,A,d,k,q1,q2⟩:=zz;obtain ⟨x,y,e1,e2,e3⟩:=Hz q1;exact two k e1 e2 fun v u H2 s p1 p2 mu=>⟨A,x,y,d,mu,e3,p1,p2,q2.mono s⟩)
theorem nop {op:Operator} (ho:OpN X (binaryOp op) G) (ha:Wj m1 X a f) (hb:Wj m2 X b g):PNd X (.BinOp a op b pos) (dO G f g):=(Zax ho ha hb).weak fun σ H Q zz=>by
 obtain ⟨env,R,A,d,k,q1,q2⟩:=zz;obtain ⟨x,y,e1,e2,e3⟩:=Hz q1;exact two k e1 e2 fun v u H2 s p1 p2 mu=>⟨A,x,y,d,mu,e3,p1,p2,q2.mono s⟩
theorem Zj0 {op:CmpOp} (ho:Si X (compareOp op) F) (ha:Wj m1 X a f) (hb:Wj m2 X b g) (hm:behindInMarks op b=false):Wj m X (.Compare a [op] [b] pos) (dO F f g):=Wj.any ((Z9a ho ha hb hm).weak fun σ H Q zz=>by
 obtain ⟨env,R,A,d,k,q1,q2⟩:=zz;obtain ⟨x,y,e1,e2,e3⟩:=Hz q1;exact two k e1 e2 fun v u H2 s p1 p2 mu=>⟨A,x,y,d,mu,e3,p1,p2,q2.mono s⟩)
def dB (f:Zzu):Ev->Option Bool:=fun env=>match f env with
 | some (.bl b)=>some b
 | _=>none
theorem F9 {env:Ev} {b:Bool} (h:dB f env=some b):f env=some (.bl b):=by
 unfold dB at h;split at h
 ·rename_i z e;cases h;exact e
 ·cases h
theorem Vg (ho:Si X (compareOp op) F) (ha:Wj m1 X a f) (hb:Wj m2 X b g) (hm:behindInMarks op b=false):PTd X (.Compare a [op] [b] pos) (dB (dO F f g)):=(Z1j ho ha hb hm).weak fun σ H Q zz=>by
 obtain ⟨env,R,A,d,k,q1,q2⟩:=zz;obtain ⟨x,y,e1,e2,e3⟩:=Hz (F9 q1);show tOp (rD X.K F) _ _ σ H (fun x H'=>∃ k,x=.bl k/\Q k H');exact two k e1 e2 fun v u H2 s p1 p2 mu=>⟨A,x,y,.bl d,mu,e3,p1,p2,fun v H' s' r=>⟨d,r.pk.bl,q2 H' (s.trans s')⟩⟩
theorem xix (ho:IxR X (rD X.K F)) (ha:Wj m1 X a f) (hb:Wj m2 X b g) (hs:Lf b):Wj m X (.Subscript a b pos) (dO F f g):=Wj.any ((Z7j ho ha hb hs).weak fun σ H Q zz=>by
 obtain ⟨env,R,A,d,k,q1,q2⟩:=zz;obtain ⟨x,y,e1,e2,e3⟩:=Hz q1;exact two k e1 e2 fun v u H2 s p1 p2 mu=>⟨A,x,y,d,mu,e3,p1,p2,q2.mono s⟩)
end
section
variable {m m1 m2:Bool} {X:Cx} {a b c:Expr} {rest:List Expr} {f g h:Zzu} {t u:Ev->Option Bool} {pos:Pos}
def Em (t u:Ev->Option Bool):Ev->Option Bool:=fun env=>(t env).bind fun b=>if b=true then u env else some false
def L6 (t u:Ev->Option Bool):Ev->Option Bool:=fun env=>(t env).bind fun b=>if b=true then some true else u env
def Eh (t:Ev->Option Bool):Ev->Option Bool:=fun env=>(t env).map (!·)
theorem K5 (ha:PTd X a t):Fg X (.BoolOp .And [a] pos) t:=Z8r ha
theorem Ci (ha:PTd X a t):Fg X (.BoolOp .Or [a] pos) t:=Zc6 ha
theorem Nh (ha:PTd X a t) (hb:Fg X (.BoolOp .And (b::rest) pos) u):Fg X (.BoolOp .And (a::b::rest) pos) (Em t u):=(Zbv ha hb).weak fun σ H Q zz=>by
 obtain ⟨env,R,A,d,k,q1,q2⟩:=zz;obtain ⟨x,e1,e2⟩:=bind_some q1;refine ⟨env,R,A,x,k,e1,fun H1 s1=>?_⟩;cases x with
 | true =>
  rw [if_pos rfl] at e2 ⊢;exact ⟨env,R,A,d,k.mono s1,e2,fun H2 s2=>q2 H2 (s1.trans s2)⟩
 | false =>
  rw [if_neg Bool.false_ne_true] at e2 ⊢;cases e2;exact q2 H1 s1
theorem Cp (ha:PTd X a t) (hb:Fg X (.BoolOp .Or (b::rest) pos) u):Fg X (.BoolOp .Or (a::b::rest) pos) (L6 t u):=(Zgx ha hb).weak fun σ H Q zz=>by
 obtain ⟨env,R,A,d,k,q1,q2⟩:=zz;obtain ⟨x,e1,e2⟩:=bind_some q1;refine ⟨env,R,A,x,k,e1,fun H1 s1=>?_⟩;cases x with
 | true =>
  rw [if_pos rfl] at e2 ⊢;cases e2;exact q2 H1 s1
 | false =>
  rw [if_neg Bool.false_ne_true] at e2 ⊢;exact ⟨env,R,A,d,k.mono s1,e2,fun H2 s2=>q2 H2 (s1.trans s2)⟩
theorem Fg.pt {e:Expr} (h:Fg X e t):PTd X e t:=PW.pt h
theorem Zap (ha:PTd X a t):PTd X (.UnaryOp .Not a pos) (Eh t):=(Zca ha).weak fun σ H Q zz=>by
 obtain ⟨env,R,A,d,k,q1,q2⟩:=zz;unfold Eh at q1;cases e:t env with
 | none=>rw [e] at q1;cases q1
 | some x =>
  rw [e] at q1;cases q1;exact ⟨env,R,A,x,k,e,fun H1 s1=>q2 H1 s1⟩
def dOr (f g:Zzu):Ev->Option Dat:=fun env=>(dB f env).bind fun b=>if b=true then some (.bl true) else g env
theorem Zi1 {op} (ha:Wj m X a f):Wj m X (.BoolOp op [a] pos) f:=Zc4 ha
theorem xor (ha:Wj m1 X a f) (hb:Wj false X (.BoolOp .Or (b::rest) pos) g):Wj m X (.BoolOp .Or (a::b::rest) pos) (dOr f g):=Wj.any ((Zfq ha hb).weak fun σ H Q zz=>by
 obtain ⟨env,R,A,d,k,q1,q2⟩:=zz;obtain ⟨x,e1,e2⟩:=bind_some q1;refine ⟨env,R,A,.bl x,k,F9 e1,fun v H1 s1 p1=>⟨x,p1.pk.bl,?_⟩⟩;cases x with
 | true =>
  rw [if_pos rfl] at e2 ⊢;cases e2;exact (q2.mono s1).here Us
 | false =>
  rw [if_neg Bool.false_ne_true] at e2 ⊢;exact ⟨env,R,A,d,k.mono s1,e2,q2.mono s1⟩)
def Zj5:Dat->Option Bool
 | .non=>some false
 | .bl b=>some b
 | .int i=>some (i != 0)
 | .str y=>some ((y.length:Int) != 0)
 | .lst xs=>some (!xs.isEmpty)
 | .tup xs=>some (!xs.isEmpty)
 | _=>none
def dT (f:Zzu):Ev->Option Bool:=fun env=>(f env).bind Zj5
theorem Kk {ds:List Dat} (r:W5 K H ds vs):vs.isEmpty=ds.isEmpty:=by
 cases ds with
 | nil=>rw [Yf r];rfl
 | cons d ds=>obtain ⟨v,r',e,_⟩:=Zp r;rw [e];rfl
theorem Lb (ha:Wj true X a f) (he:∀ whole,isTrue a X.env whole=(do let v ← whole;standAt a.pos;holding [v] (truthy v)):=by intro _;rfl):PTd X a (dT f):=(Z85 ha he).weak fun σ H Q zz=>by
 obtain ⟨env,R,A,b,k,q1,q2⟩:=zz;obtain ⟨x,e1,e2⟩:=bind_some q1;refine ⟨env,R,A,x,k,e1,fun v H1 s1 p1=>⟨b,?_,q2 H1 s1⟩⟩;have p:Pk X.K A H1 x v:=p1;cases x with
 | non=>cases e2;rw [p.non];rfl
 | bl b'=>cases e2;rw [p.bl];rfl
 | int i=>cases e2;rw [p.int];rfl
 | str y=>cases e2;obtain ⟨e,h⟩:=p.str;rw [e];exact ⟨h.le,rfl⟩
 | lst xs=>cases e2;obtain ⟨a',vs,e,h1,h2⟩:=p.lst;rw [e];exact .inl ⟨vs,h1.sq,by rw [Kk h2]⟩
 | tup xs=>cases e2;obtain ⟨a',vs,e,h1,h2⟩:=p.tup;rw [e];exact .inr (.inl ⟨vs,h1,by rw [Kk h2]⟩)
 | dct _=>cases e2
 | exc _ _=>cases e2
end
section
variable {m:Bool} {X:Cx} {e:Expr} {es:List Expr} {f:Zzu} {fs:Zzv} {pos:Pos}
def Zc:Ev->Option (List Dat):=fun _=>some []
def Z1 (f:Zzu) (fs:Zzv):Ev->Option (List Dat):=fun env=>(f env).bind fun d=>(fs env).map fun ds=>d::ds
theorem Z8:Oo m X [] Zc:=Vn.weak fun σ H Q ⟨env,R,A,ds,k,q1,q2⟩=>by cases q1;exact q2 [] H (Zo.refl H) rfl
theorem Z0 (ha:Wj m X e f) (hr:Oo m X es fs) (hs:starEach (e::es) X.env=(false,eval e X.env)::starEach es X.env:=by rfl):Oo m X (e::es) (Z1 f fs):=(Yu ha hr hs).weak fun σ H Q zz=>by
 obtain ⟨env,R,A,ds,k,q1,q2⟩:=zz;obtain ⟨d,e1,e2⟩:=bind_some q1;cases e3:fs env with
 | none=>rw [e3] at e2;cases e2
 | some r =>
  rw [e3] at e2;cases e2;exact ⟨env,R,A,d,k,e1,fun v H1 s1 p1=>⟨env,R,A,r,k.mono s1,e3,fun vs H2 s2 p2=>q2 (v::vs) H2 (s1.trans s2) ⟨v,vs,rfl,p1.mono s2,p2⟩⟩⟩
def V7 (fs:Zzv):Ev->Option Dat:=fun env=>(fs env).bind fun ds=>if ds.length<=1000 then some (.tup ds) else none
def Qx (fs:Zzv):Ev->Option (List Dat):=fun env=>(fs env).bind fun ds=>if ds.length<=1000 then some ds else none
theorem Zge {x1} (h:Oo false X es fs):Wj m X (.Tuple es x1 pos) (V7 fs):=Wj.any ((Zed h).weak fun σ H Q zz=>by
 obtain ⟨env,R,A,d,k,q1,q2⟩:=zz;obtain ⟨ds,e1,e2⟩:=bind_some q1;split at e2
 ·rename_i hz
  cases e2;have hz':ds.length<=sizeLine:=le_of_lt (U1 hz);refine ⟨env,R,A,ds,k,e1,fun vs H1 s1 p1=>⟨?_,(q2.mono s1).tup (k.mu.mono s1) hz' p1.rps⟩⟩;rw [Zv p1.rps];exact hz'
 ·cases e2)
theorem Sh (h:Oo false X es fs):PNd X (.List es pos) (Qx fs):=(Z88 h).weak fun σ H Q zz=>by
 obtain ⟨env,R,A,d,k,q1,q2⟩:=zz;obtain ⟨ds,e1,e2⟩:=bind_some q1;split at e2
 ·rename_i hz
  cases e2;have hz':d.length<=sizeLine:=le_of_lt (U1 hz);refine ⟨env,R,A,d,k,e1,fun vs H1 s1 p1=>⟨?_,(q2.mono s1).at hz' p1.rps⟩⟩;rw [Zv p1.rps];exact hz'
 ·cases e2
def Hm (X:Cx) (f:Value) (F:List Dat->Option Dat):Prop:=Vc X f (fun vs H Q=>∃ A ds d,Ta A H/\F ds=some d/\Bk true X.K A H ds vs/\Qn false X.K A H d Q)
def Z28 (X:Cx) (f:Value) (F:List Dat->Option (List Dat)):Prop:=Vc X f (fun vs H Q=>∃ A ds d,Ta A H/\F ds=some d/\Bk true X.K A H ds vs/\Os X.K A H d Q)
theorem Vc.weak {f:Value} {r r':List V->Hp->VK->Prop} (h:Vc X f r) (w:∀ xs H Q,r' xs H Q->r xs H Q):Vc X f r':=fun pins s σ H xs us Q I rv q=>h pins s σ H xs us Q I rv (w _ _ _ q)
def dF (F:List Dat->Option α) (fs:Zzv):Ev->Option α:=fun env=>(fs env).bind F
variable {x:Str} {p:Pos} {id T:String} {F:List Dat->Option Dat} {G:List Dat->Option (List Dat)}
theorem Z74 (hc:Hm X (.builtin id) F) (hg:Gl X x) (hm:X.mg x=none) (hv:bootBuiltins x=some (.builtin id)) (ha:Oo true X (e::es) fs) (hn:x≠"__name__" := by decide) (hdb:(x==("__debug__" : Str))=false:=by decide)
  (he:starEach (e::es) X.env=(false,eval e X.env)::starEach es X.env:=by rfl) (hpl:(backTo pos (starEach es X.env)).any (·.1)=false:=by rfl):Wj m X (.Call (.Name x p) (e::es) [] pos) (dF F fs) :=
 Wj.any ((Na hc hg hm hv ha hn hdb he hpl).weak fun σ H Q zz=>by
  obtain ⟨env,R,A,d,k,q1,q2⟩:=zz;obtain ⟨ds,e1,e2⟩:=bind_some q1;exact ⟨env,R,A,ds,k,e1,fun vs H1 s1 p1=>⟨A,ds,d,k.mu.mono s1,e2,p1,q2.mono s1⟩⟩)
theorem Ew (hc:Hm X (.type T) F) (hg:Gl X x) (hm:X.mg x=none) (hv:bootBuiltins x=some (.type T)) (ha:Oo true X (e::es) fs) (hn:x≠"__name__" := by decide) (hdb:(x==("__debug__" : Str))=false:=by decide)
  (he:starEach (e::es) X.env=(false,eval e X.env)::starEach es X.env:=by rfl) (hpl:(backTo pos (starEach es X.env)).any (·.1)=false:=by rfl):Wj m X (.Call (.Name x p) (e::es) [] pos) (dF F fs) :=
 Wj.any ((Q0 hc hg hm hv ha hn hdb he hpl).weak fun σ H Q zz=>by
  obtain ⟨env,R,A,d,k,q1,q2⟩:=zz;obtain ⟨ds,e1,e2⟩:=bind_some q1;exact ⟨env,R,A,ds,k,e1,fun vs H1 s1 p1=>⟨A,ds,d,k.mu.mono s1,e2,p1,q2.mono s1⟩⟩)
theorem Z5o (hc:Z28 X (.builtin id) G) (hg:Gl X x) (hm:X.mg x=none) (hv:bootBuiltins x=some (.builtin id)) (ha:Oo true X (e::es) fs) (hn:x≠"__name__" := by decide) (hdb:(x==("__debug__" : Str))=false:=by decide)
  (he:starEach (e::es) X.env=(false,eval e X.env)::starEach es X.env:=by rfl) (hpl:(backTo pos (starEach es X.env)).any (·.1)=false:=by rfl):PNd X (.Call (.Name x p) (e::es) [] pos) (dF G fs) :=
 (Na hc hg hm hv ha hn hdb he hpl).weak fun σ H Q zz=>by
  obtain ⟨env,R,A,d,k,q1,q2⟩:=zz;obtain ⟨ds,e1,e2⟩:=bind_some q1;exact ⟨env,R,A,ds,k,e1,fun vs H1 s1 p1=>⟨A,ds,d,k.mu.mono s1,e2,p1,q2.mono s1⟩⟩
theorem Z75 (hc:Z28 X (.type T) G) (hg:Gl X x) (hm:X.mg x=none) (hv:bootBuiltins x=some (.type T)) (ha:Oo true X (e::es) fs) (hn:x≠"__name__" := by decide) (hdb:(x==("__debug__" : Str))=false:=by decide)
  (he:starEach (e::es) X.env=(false,eval e X.env)::starEach es X.env:=by rfl) (hpl:(backTo pos (starEach es X.env)).any (·.1)=false:=by rfl):PNd X (.Call (.Name x p) (e::es) [] pos) (dF G fs) :=
 (Q0 hc hg hm hv ha hn hdb he hpl).weak fun σ H Q zz=>by
  obtain ⟨env,R,A,d,k,q1,q2⟩:=zz;obtain ⟨ds,e1,e2⟩:=bind_some q1;exact ⟨env,R,A,ds,k,e1,fun vs H1 s1 p1=>⟨A,ds,d,k.mu.mono s1,e2,p1,q2.mono s1⟩⟩
end
section
variable {m m1:Bool} {X:Cx} {o e:Expr} {es:List Expr} {f:Zzu} {fs:Zzv} {pos apos cpos:Pos} {name:Str} {T id:String} {α:Type}
def Z0v (T:String):Dat->Bool
 | .str _=>T=="str"
 | .int _=>T=="int"
 | .lst _=>T=="list"
 | _=>false
theorem Zbo {A:AS} {d:Dat} (h:Z0v T d=true) (p:Pk K A H d v):tyV K T v H:=by
 cases d with
 | str x=>rw [p.str.1];show T="str";simpa [Z0v] using h
 | int x=>rw [p.int];show T="int";simpa [Z0v] using h
 | lst x=>obtain ⟨a,vs,e,h1,h2⟩:=p.lst;rw [e];exact .inl ⟨by simpa [Z0v] using h,vs,h1.sq⟩
 | _=>cases h
def MtD (X:Cx) (id:String) (F:Dat->List Dat->Option Dat):Prop:=MtR X id (fun v vs H Q=>∃ A x ds d,Ta A H/\F x ds=some d/\Pk X.K A H x v/\Bk true X.K A H ds vs/\Qn false X.K A H d Q)
def dM (T:String) (F:Dat->List Dat->Option α) (f:Zzu) (fs:Zzv):Ev->Option α:=fun env=>(f env).bind fun x=>if Z0v T x=true then (fs env).bind fun ds=>F x ds else none
theorem Z9l {F:Dat->List Dat->Option α} {env:Ev} {d:α} (h:dM T F f fs env=some d):∃ x ds,f env=some x/\Z0v T x=true/\fs env=some ds/\F x ds=some d:=by
 obtain ⟨x,e1,h⟩:=bind_some h;split at h
 ·rename_i ht
  obtain ⟨ds,e2,h⟩:=bind_some h;exact ⟨x,ds,e1,ht,e2,h⟩
 ·cases h
theorem MtR.weak {r r':V->List V->Hp->VK->Prop} (h:MtR X id r) (w:∀ x xs H Q,r' x xs H Q->r x xs H Q):MtR X id r':=fun pins s σ H x xs v us Q I rx rv q=>h pins s σ H x xs v us Q I rx rv (w _ _ _ _ q)
variable {F:Dat->List Dat->Option Dat} {G:Dat->List Dat->Option (List Dat)}
theorem xbm (pa:PlainAttrs T) (slot:Slot T name id) (hty:typeOf (.builtin id)=pure (.type "method_descriptor")) (hm:MtD X id F) (ho:Wj m1 X o f) (ha:Oo true X (e::es) fs)
  (hbase:attributeBase o name X.env (eval o X.env)=eval o X.env:=by rfl)
  (hfew:((backTo cpos (starEach (e::es) X.env)).all (fun x=>!x.1)&&(backToKw cpos (keywordEach [] X.env)).all (fun x=>x.1.isSome)
   && decide ((e::es).length+([]:List Keyword).length+(if ([]:List Keyword).isEmpty then 0 else 1)<30))=true:=by rfl)
  (hline:(apos.endLine==cpos.line)=true:=by rfl) (hs:starEach (e::es) X.env=(false,eval e X.env)::starEach es X.env:=by rfl) (hplain:(backTo cpos (starEach es X.env)).any (·.1)=false:=by rfl) :
  Wj m X (.Call (.Attribute o name apos) (e::es) [] cpos) (dM T F f fs):=Wj.any ((Z21 pa slot hty hm ho ha hbase hfew hline hs hplain).weak fun σ H Q zz=>by
 obtain ⟨env,R,A,d,k,q1,q2⟩:=zz;obtain ⟨x,ds,e1,ht,e2,e3⟩:=Z9l q1;exact ⟨env,R,A,x,k,e1,fun v H1 s1 p1=>⟨Zbo ht p1.pk,env,R,A,ds,k.mono s1,e2,fun vs H2 s2 p2=>⟨A,x,ds,d,k.mu.mono (s1.trans s2),e3,p1.pk.mono s2,p2,q2.mono (s1.trans s2)⟩⟩⟩)
def POd (X:Cx) (e:Option Expr) (f:Ev->Option (Option Int)):Prop:=PO X e fun σ H Q=>∃ env R A i,EnvOk X.K R A H σ env/\f env=some i/\∀ H',Zo H H'->Q i H'
def Sc:Ev->Option (Option Int):=fun _=>some none
def Jv (f:Zzu):Ev->Option (Option Int):=fun env=>match f env with
 | some (.int i)=>some (some i)
 | _=>none
theorem PO.weak {e:Option Expr} {t t':TO} (h:PO X e t) (w:∀ σ H Q,t' σ H Q->t σ H Q):PO X e t':=fun pins s σ H Q I q=>h pins s σ H Q I (w σ H Q q)
theorem Sb:POd X none Sc:=Z9u.weak fun σ H Q ⟨env,R,A,i,k,q1,q2⟩=>by cases q1;exact q2 H (Zo.refl H)
theorem Rn (h:Wj m X e f):POd X (some e) (Jv f):=(Z8y h).weak fun σ H Q zz=>by
 obtain ⟨env,R,A,i,k,q1,q2⟩:=zz;unfold Jv at q1;split at q1
 ·rename_i n e1
  cases q1;exact ⟨env,R,A,_,k,e1,fun v H1 s1 p1=>⟨n,p1.pk.int,q2 H1 s1⟩⟩
 ·cases q1
def SlD (X:Cx) (F:Dat->Option Int->Option Int->Option Dat):Prop:=SlR X (fun v lo hi H Q=>∃ A x d,Ta A H/\F x lo hi=some d/\Pk X.K A H x v/\Qn false X.K A H d Q)
def dS (F:Dat->Option Int->Option Int->Option α) (f:Zzu) (g h:Ev->Option (Option Int)):Ev->Option α:=fun env=>(f env).bind fun x=>(g env).bind fun l=>(h env).bind fun u=>F x l u
variable {lo hi:Option Expr} {gl gh:Ev->Option (Option Int)} {p2:Pos}
theorem Z8w {F:Dat->Option Int->Option Int->Option α} {env:Ev} {d:α} (h:dS F f gl gh env=some d):∃ x l u,f env=some x/\gl env=some l/\gh env=some u/\F x l u=some d:=by
 obtain ⟨x,e1,h⟩:=bind_some h;obtain ⟨l,e2,h⟩:=bind_some h;obtain ⟨u,e3,h⟩:=bind_some h;exact ⟨x,l,u,e1,e2,e3,h⟩
theorem Nm {F:Dat->Option Int->Option Int->Option Dat} (hr:SlD X F) (he:Wj m1 X e f) (hl:POd X lo gl) (hu:POd X hi gh):Wj m X (.Subscript e (.Slice lo hi none p2) pos) (dS F f gl gh):=Wj.any ((Z6i hr he hl hu).weak fun σ H Q zz=>by
 obtain ⟨env,R,A,d,k,q1,q2⟩:=zz;obtain ⟨x,l,u,e1,e2,e3,e4⟩:=Z8w q1;exact ⟨env,R,A,x,k,e1,fun v H1 s1 p1=>⟨env,R,A,l,k.mono s1,e2,fun H2 s2=>⟨env,R,A,u,k.mono (s1.trans s2),e3,fun H3 s3=>⟨A,x,d,k.mu.mono ((s1.trans s2).trans s3),e4,p1.pk.mono (s2.trans s3),q2.mono ((s1.trans s2).trans s3)⟩⟩⟩⟩)
def UnD (X:Cx) (g:Value->Sem Value) (F:Dat->Option Dat):Prop:=UnR X g (fun v H Q=>∃ A x d,Ta A H/\F x=some d/\Pk X.K A H x v/\Qn false X.K A H d Q)
def dU (F:Dat->Option Dat) (f:Zzu):Ev->Option Dat:=fun env=>(f env).bind F
theorem xun {op:UnaryOp} {F:Dat->Option Dat} (ho:UnD X (unaryOp op) F) (ha:Wj m1 X e f):Wj m X (.UnaryOp op e pos) (dU F f):=Wj.any ((Zg2 ho ha).weak fun σ H Q zz=>by
 obtain ⟨env,R,A,d,k,q1,q2⟩:=zz;obtain ⟨x,e1,e2⟩:=bind_some q1;exact ⟨env,R,A,x,k,e1,fun v H1 s1 p1=>⟨A,x,d,k.mu.mono s1,e2,p1.pk,q2.mono s1⟩⟩)
end
section
variable {X:Cx}
def F4 (C:Int->Int->Prop) [∀ i j,Decidable (C i j)] (g:Int->Int->Dat):Dat->Dat->Option Dat
 | .int i,.int j=>if C i j then some (g i j) else none
 | _,_=>none
theorem Z7d {f:Value->Value->Sem Value} {C:Int->Int->Prop} [∀ i j,Decidable (C i j)] {g:Int->Int->V} {G:Int->Int->Dat} (h:E5 X f (rI C g)) (hg:∀ K H i j,Rp K H (G i j) (g i j)):Si X f (F4 C G):=h.weak fun v u H Q zz=>by
 obtain ⟨A,x,y,d,mu,e,p1,p2,q⟩:=zz;unfold F4 at e;split at e
 ·rename_i i j
  split at e
  ·rename_i hc
   cases e;exact ⟨i,j,p1.int,p2.int,hc,q.here (hg _ _ _ _)⟩
  ·cases e
 ·cases e
theorem Kq {f:Value->Value->Sem Value} {g:Int->Int->V} {G:Int->Int->Dat} (h:E5 X f (rI0 g)) (hg:∀ K H i j,Rp K H (G i j) (g i j)):Si X f (F4 (fun _ _=>True) G):=h.weak fun v u H Q zz=>by
 obtain ⟨A,x,y,d,mu,e,p1,p2,q⟩:=zz;unfold F4 at e;split at e
 ·rename_i i j
  rw [if_pos trivial] at e;cases e;exact ⟨i,j,p1.int,p2.int,q.here (hg _ _ _ _)⟩
 ·cases e
instance:∀ i j,Decidable (Z0z i j):=fun i j=>by unfold Z0z;infer_instance
instance:∀ i j,Decidable (Z73 i j):=fun i j=>by unfold Z73;infer_instance
instance:∀ i j,Decidable (Za3 i j):=fun i j=>by unfold Za3;infer_instance
def Z7y:=F4 (fun _ _=>True) fun i j=>.int (i - j)
def U8:=F4 Z73 fun i j=>.int (i / j)
def Tf:=F4 (fun _ j=>0<j) fun i j=>.int (i % j)
def Fj:=F4 Za3 fun i j=>.int (i*2^j.toNat)
def Z3n:=F4 (fun _ j=>0<=j) fun i j=>.int (i / 2^j.toNat)
def Oa:=F4 (fun _ _=>True) fun i j=>.int (Builtin.bitAnd i j)
def orD:=F4 (fun _ _=>True) fun i j=>.int (Builtin.bitOr i j)
def Z8n:=F4 (fun _ _=>True) fun i j=>.int (Builtin.bitXor i j)
def ltD:=F4 (fun _ _=>True) fun i j=>.bl (decide (i<j))
def gtD:=F4 (fun _ _=>True) fun i j=>.bl (decide (j<i))
def geD:=F4 (fun _ _=>True) fun i j=>.bl (decide (j<=i))
theorem Z5c:Si X (binaryOp .Sub) Z7y:=Kq Zdj fun _ _ _ _=>Yq
theorem U6:Si X (binaryOp .FloorDiv) U8:=Z7d Zag fun _ _ _ _=>Yq
theorem U5:Si X (binaryOp .Mod) Tf:=Z7d Zd1 fun _ _ _ _=>Yq
theorem Pr:Si X (binaryOp .LShift) Fj:=Z7d Zd5 fun _ _ _ _=>Yq
theorem Zbi:Si X (binaryOp .RShift) Z3n:=Z7d Zck fun _ _ _ _=>Yq
theorem Kz:Si X (binaryOp .BitAnd) Oa:=Kq Zc3 fun _ _ _ _=>Yq
theorem Z3r:Si X (binaryOp .BitOr) orD:=Kq Zfv fun _ _ _ _=>Yq
theorem Zba:Si X (binaryOp .BitXor) Z8n:=Kq Ze6 fun _ _ _ _=>Yq
theorem Zcb:Si X (compareOp .Lt) ltD:=Kq Zgy fun _ _ _ _=>Us
theorem Z8l:Si X (compareOp .Gt) gtD:=Kq Zfd fun _ _ _ _=>Us
theorem Zfc:Si X (compareOp .GtE) geD:=Kq Zh1 fun _ _ _ _=>Us
theorem Si.or {f:Value->Value->Sem Value} {F G E:Dat->Dat->Option Dat} (h:Si X f F) (h':Si X f G) (he:∀ x y d,E x y=some d->F x y=some d\/G x y=some d):Si X f E:=fun pins s σ H x y v u Q I rx ry zz=>by
 obtain ⟨A,a,b,d,mu,e,p1,p2,q⟩:=zz;rcases he _ _ _ e with e | e
 ·exact h pins s σ H x y v u Q I rx ry ⟨A,a,b,d,mu,e,p1,p2,q⟩
 ·exact h' pins s σ H x y v u Q I rx ry ⟨A,a,b,d,mu,e,p1,p2,q⟩
def Zen:Dat->Option Dat
 | .int i=>some (.int (-i))
 | _=>none
def Za2:Dat->Option Dat
 | .int i=>some (.int (Builtin.bitNot i))
 | _=>none
theorem UnR.weak {f:Value->Sem Value} {r r':V->Hp->VK->Prop} (h:UnR X f r) (w:∀ x H Q,r' x H Q->r x H Q):UnR X f r':=fun pins s σ H x v Q I rx q=>h pins s σ H x v Q I rx (w _ _ _ q)
theorem Zgr:UnD X (unaryOp .USub) Zen:=UnR.weak Zco fun v H Q zz=>by
 obtain ⟨A,x,d,mu,e,p,q⟩:=zz;unfold Zen at e;split at e
 ·cases e;exact ⟨_,p.int,q.here Yq⟩
 ·cases e
theorem Zb8:UnD X (unaryOp .Invert) Za2:=UnR.weak Zdr fun v H Q zz=>by
 obtain ⟨A,x,d,mu,e,p,q⟩:=zz;unfold Za2 at e;split at e
 ·cases e;exact ⟨_,p.int,q.here Yq⟩
 ·cases e
theorem Of {x:Str} (h:∀ c∈cl x,c<0x110000):PyData.strOk x=true:=by
 unfold PyData.strOk;rw [Array.all_eq_true'];intro c hc;exact decide_eq_true (h c (by simpa [cl] using hc))
theorem Ha {x:Str} (h:PyData.strOk x=true):∀ c∈cl x,c<0x110000:=by
 unfold PyData.strOk at h;rw [Array.all_eq_true'] at h;intro c hc;exact of_decide_eq_true (h c (by simpa [cl] using hc))
theorem Z4o {x y:Str} (h:PyData.strOk x=true) (k:PyData.strOk y=true):PyData.strOk (x++y)=true:=Of fun c hc=>by
 rw [Z17] at hc;rcases mem_append.mp hc with z | z
 ·exact Ha h c z
 ·exact Ha k c z
theorem Z2x (x y:Str):(x++y).length=x.length+y.length:=by rw [← Mn,Z17,length_append,Mn,Mn]
def Zcx:Dat->Dat->Option Dat
 | .str x,.str y=>if x.length+y.length<=sizeLine then some (.str (x++y)) else none
 | _,_=>none
theorem Zdc:Si X (binaryOp .Add) Zcx:=Z0m.weak fun v u H Q zz=>by
 obtain ⟨A,x,y,d,mu,e,p1,p2,q⟩:=zz;unfold Zcx at e;split at e
 ·rename_i i j
  split at e
  ·rename_i hz
   cases e;obtain ⟨e1,k1⟩:=p1.str;obtain ⟨e2,k2⟩:=p2.str;exact ⟨i,j,e1,e2,hz,q.here (Ro (SOk.of (Z4o k1.ok k2.ok) (by rw [Z2x];exact hz)))⟩
  ·cases e
 ·cases e
def O7:Dat->Dat->Option (List Dat)
 | .lst xs,.lst ys=>if xs.length+ys.length<=sizeLine then some (xs++ys) else none
 | _,_=>none
theorem Z26:OpN X (binaryOp .Add) O7:=fun pins s σ H x y v u Q I rx ry zz=>by
 obtain ⟨A,a,b,d,mu,e,p1,p2,q⟩:=zz;unfold O7 at e;split at e
 ·rename_i xs ys
  split at e
  ·rename_i hz
   cases e;obtain ⟨l1,vs,e1,h1,r1⟩:=p1.lst;obtain ⟨l2,us,e2,h2,r2⟩:=p2.lst;subst e1 e2;cases rx;cases ry;obtain ⟨its,n,w1,g1,_⟩:=h1.get I;obtain ⟨its2,n2,w2,g2,_⟩:=h2.get I;have z1:=w1.length;have z2:=w2.length;have z3:=Zv r1;have z4:=Zv r2;refine PySem.P.add_list g1 g2 ?_ (by rw [size_toArray,size_toArray];lia);have ea:its.toArray++its2.toArray=(its++its2).toArray:=by simp
   rw [ea];exact ⟨.ref _,_,I.lnew (t':=s.toks) (w1.append w2) (by rw [length_append];lia),rfl,q.at (by rw [length_append];exact hz) (W6 r1 r2) _ I.fresh⟩
  ·cases e
 ·cases e
theorem Z3d {ds:List Dat} (r:W5 K H ds vs) (h:ds.length≠0):vs≠[]:=by
 intro e;subst e;have:=Zv r;simp at this;lia
def Wk:Dat->Dat->Option Dat
 | .int i,.int j=>some (.int (i+j))
 | .str x,.str y=>if x.length+y.length<=sizeLine then some (.str (x++y)) else none
 | .lst xs,.lst ys=>if xs.length+ys.length<=sizeLine then some (.lst (xs++ys)) else none
 | _,_=>none
theorem Zbp:Si X (binaryOp .Add) (F4 (fun _ _=>True) fun i j=>.int (i+j)):=Kq Zdd fun _ _ _ _=>Yq
theorem W2:Si X (binaryOp .Add) Wk:=by
 have h1:=Si.or (E:=fun x y=>match x,y with | .int i,.int j=>some (.int (i+j)) | .str x,.str y=>if x.length+y.length<=sizeLine then some (.str (x++y)) else none | _,_=>none) (Zbp (X:=X)) Zdc (fun x y d e=>by
  split at e
  ·left;simp [F4];exact by simpa using e
  ·right;simp only [Zcx];exact e
  ·cases e)
 refine Si.or h1 Z26.d fun x y d e=>?_
 unfold Wk at e;split at e
 ·left;exact e
 ·left;exact e
 ·right
  rename_i xs ys;simp only [O7];split at e
  ·rename_i hz;cases e;rw [if_pos hz];rfl
  ·cases e
 ·cases e
def Zfx:=F4 Z0z fun i j=>.int (i*j)
theorem Ze7:Si X (binaryOp .Mult) Zfx:=Z7d Zbn fun _ _ _ _=>Yq
def Hr:Dat->Dat->Option Dat:=fun x y=>if (pd 20 x&&pd 20 y)=true then some (.bl (Hk x y)) else none
def Lc:Dat->Dat->Option Dat:=fun x y=>if (pd 20 x&&pd 20 y)=true then some (.bl (!Hk x y)) else none
theorem Es (hu:X.A.units+64<cLine):Si X (compareOp .Eq) Hr:=fun pins s σ H x y v u Q I rx ry zz=>by
 obtain ⟨A,a,b,d,mu,e,p1,p2,q⟩:=zz;unfold Hr at e;split at e
 ·rename_i hp
  rw [Bool.and_eq_true] at hp;cases e;obtain ⟨as,a1,a2⟩:=Rp.reads I a x v hp.1 p1.rp rx;obtain ⟨bs,b1,b2⟩:=Rp.reads I b y u hp.2 p2.rp ry;have:=E1 20 a hp.1;refine SeqAt.compareEq_reads a1 b1 a2 b2 (by lia) ⟨.bl _,H,I,rfl,?_⟩;rw [Dz a b hp.1 hp.2];exact q.here Us
 ·cases e
theorem Ap (hu:X.A.units+64<cLine):Si X (compareOp .NotEq) Lc:=fun pins s σ H x y v u Q I rx ry zz=>by
 obtain ⟨A,a,b,d,mu,e,p1,p2,q⟩:=zz;unfold Lc at e;split at e
 ·rename_i hp
  rw [Bool.and_eq_true] at hp;cases e;obtain ⟨as,a1,a2⟩:=Rp.reads I a x v hp.1 p1.rp rx;obtain ⟨bs,b1,b2⟩:=Rp.reads I b y u hp.2 p2.rp ry;have:=E1 20 a hp.1;refine SeqAt.compareNe_reads a1 b1 a2 b2 (by lia) ⟨.bl _,H,I,rfl,?_⟩;rw [Dz a b hp.1 hp.2];exact q.here Us
 ·cases e
def isN:Dat->Bool
 | .non=>true
 | _=>false
theorem Zbk {d:Dat} (r:Rp K H d v):decide (v=V.non)=isN d:=by
 cases d with
 | non=>rw [Nf r];rfl
 | bl b=>rw [L1 r];rfl
 | int b=>rw [Jw r];rfl
 | str b=>rw [(Nr r).1];rfl
 | tup b=>obtain ⟨a,_,e,_⟩:=S3 r;rw [e];rfl
 | lst b=>obtain ⟨a,_,e,_⟩:=Qr r;rw [e];rfl
 | dct _=>obtain ⟨_,a,e,_⟩:=Zea r;rw [e];rfl
 | exc _ _=>obtain ⟨_,_,_,e,_⟩:=Zek r;subst e;rfl
def isF:Dat->Dat->Option Dat
 | x,.non=>some (.bl (isN x))
 | _,_=>none
def Ze8:Dat->Dat->Option Dat
 | x,.non=>some (.bl (!isN x))
 | _,_=>none
theorem Zhn:Si X (compareOp .Is) isF:=Zc5.weak fun v u H Q zz=>by
 obtain ⟨A,x,y,d,mu,e,p1,p2,q⟩:=zz;unfold isF at e;split at e
 ·cases e
  exact ⟨p2.non,by rw [Zbk p1.rp];exact q.here Us⟩
 ·cases e
theorem Zgf:Si X (compareOp .IsNot) Ze8:=Z9q.weak fun v u H Q zz=>by
 obtain ⟨A,x,y,d,mu,e,p1,p2,q⟩:=zz;unfold Ze8 at e;split at e
 ·cases e
  exact ⟨p2.non,by rw [Zbk p1.rp];exact q.here Us⟩
 ·cases e
def inS:Str->Str->Bool:=fun i j=>!(Builtin.Str.occurrences j i 0 j.length 1).isEmpty
def inB:Dat->Dat->Option Bool
 | x,.lst ys=>if (pd 20 x&&ys.all (pd 20))=true then some (ys.any fun y=>Hk y x) else none
 | x,.tup ys=>if (pd 20 x&&ys.all (pd 20))=true then some (ys.any fun y=>Hk y x) else none
 | .str i,.str j=>some (inS i j)
 | _,_=>none
def inF:Dat->Dat->Option Dat:=fun x y=>(inB x y).map .bl
def Ep:Dat->Dat->Option Dat:=fun x y=>(inB x y).map fun b=>.bl (!b)
theorem Rj (I:Inv X pins σ H s) (hu:X.A.units+64<cLine) {a:Dat} {x:V} {v:Value} (ha:pd 20 a=true) (rx:Rp X.K H a x) (qx:Yb x v) :
  ∃ e:Value->Bool,∀ {ys:List Dat} {vs:List V} {us:List Value},W5 X.K H ys vs->Zx vs us->(∀ y∈ys,pd 20 y=true)->(∀ u∈us,SeqAt.EqAt X.A.in1 s u v (e u))/\us.any e=ys.any fun y=>Hk y a:=by
 classical
 have hu':X.A.in1.units+60<cLine:=by show X.A.units+1+60<cLine;lia
 have key:∀ {y:Dat} {w:V} {u:Value},Rp X.K H y w->Yb w u->pd 20 y=true->SeqAt.EqAt X.A.in1 s u v (Hk y a):=fun {y w u} r q h=>Rp.eqAt I h ha (by decide) hu' r rx q qx
 let e:Value->Bool:=fun u=>decide (∃ (y:Dat) (w:V),Rp X.K H y w/\Yb w u/\pd 20 y=true/\Hk y a=true)
 have he:∀ {y:Dat} {w:V} {u:Value},Rp X.K H y w->Yb w u->pd 20 y=true->e u=Hk y a:=fun {y w u} r q h=>by
  cases z:Hk y a with
  | true=>exact decide_eq_true ⟨y,w,r,q,h,z⟩
  | false =>
   refine decide_eq_false ?_;rintro ⟨y',w',r',q',h',z'⟩;have:=q.inj q';subst this;obtain ⟨as,a1,a2⟩:=Rp.reads I y w u h r q;obtain ⟨bs,b1,b2⟩:=Rp.reads I y' w u h' r' q;have eqP:=SeqAt.Reads.unique _ _ _ _ _ a2 a1 b1;rw [← Dz y a h ha,eqP,Dz y' a h' ha,z'] at z;cases z
 refine ⟨e,fun {ys}=>?_⟩;induction ys with
 | nil=>intro vs us r q _;rw [Yf r] at q;cases q;exact ⟨fun u hu=>(by cases hu),rfl⟩
 | cons y ys ih =>
  intro vs us r q hp;obtain ⟨w,vs',e1,r1,r2⟩:=Zp r;subst e1;cases q with
  | cons q1 q2 =>
   rename_i u us;obtain ⟨h1,h2⟩:=ih r2 q2 fun z hz=>hp z (mem_cons_of_mem _ hz)
   have hy:=hp y mem_cons_self;refine ⟨fun u' hu'=>?_,?_⟩
   ·rcases mem_cons.mp hu' with z | z
    ·subst z;rw [he r1 q1 hy];exact key r1 q1 hy
    ·exact h1 u' z
   ·rw [any_cons,any_cons,h2,he r1 q1 hy]
theorem Z4v (hu:X.A.units+64<cLine):Si X (compareOp .In) inF:=fun pins s σ H x y v u Q I rx ry zz=>by
 obtain ⟨A,a,b,d,mu,e,p1,p2,q⟩:=zz;unfold inF at e;unfold inB at e;split at e
 ·rename_i ys
  split at e
  ·rename_i hp
   rw [Bool.and_eq_true,all_eq_true] at hp;cases e;obtain ⟨l,vs,e1,h1,r1⟩:=p2.lst;subst e1;cases ry;obtain ⟨its,w1,pl,_⟩:=I.list h1.sq;obtain ⟨f,hf⟩:=Rj I hu hp.1 p1.rp rx;obtain ⟨k1,k2⟩:=hf (r1.mono Ym) w1 hp.2;refine SeqAt.in_listAt f pl.isList (fun w hw=>k1 w (by simpa using hw)) ⟨.bl _,H,I,rfl,?_⟩;rw [show its.toArray.any f=its.any f by simp,k2];exact q.here Us
  ·cases e
 ·rename_i ys
  split at e
  ·rename_i hp
   rw [Bool.and_eq_true,all_eq_true] at hp;cases e;obtain ⟨l,vs,e1,h1,r1⟩:=p2.tup;subst e1;cases ry;obtain ⟨its,w1,pl,_⟩:=I.tuple h1;obtain ⟨f,hf⟩:=Rj I hu hp.1 p1.rp rx;obtain ⟨k1,k2⟩:=hf (r1.mono Ym) w1 hp.2;refine SeqAt.in_tupleAt f pl (fun w hw=>k1 w (by simpa using hw)) ⟨.bl _,H,I,rfl,?_⟩;rw [show its.toArray.any f=its.any f by simp,k2];exact q.here Us
  ·cases e
 ·rename_i i j
  cases e;obtain ⟨e1,k1⟩:=p1.str;obtain ⟨e2,k2⟩:=p2.str;exact Z3l pins s σ H x y v u Q I rx ry ⟨i,j,e1,e2,q.here Us⟩
 ·cases e
theorem Pt (hu:X.A.units+64<cLine):Si X (compareOp .NotIn) Ep:=fun pins s σ H x y v u Q I rx ry zz=>by
 obtain ⟨A,a,b,d,mu,e,p1,p2,q⟩:=zz;unfold Ep at e;unfold inB at e;split at e
 ·rename_i ys
  split at e
  ·rename_i hp
   rw [Bool.and_eq_true,all_eq_true] at hp;cases e;obtain ⟨l,vs,e1,h1,r1⟩:=p2.lst;subst e1;cases ry;obtain ⟨its,w1,pl,_⟩:=I.list h1.sq;obtain ⟨f,hf⟩:=Rj I hu hp.1 p1.rp rx;obtain ⟨k1,k2⟩:=hf (r1.mono Ym) w1 hp.2;refine SeqAt.notIn_listAt f pl.isList (fun w hw=>k1 w (by simpa using hw)) ⟨.bl _,H,I,rfl,?_⟩;rw [show its.toArray.any f=its.any f by simp,k2];exact q.here Us
  ·cases e
 ·rename_i ys
  split at e
  ·rename_i hp
   rw [Bool.and_eq_true,all_eq_true] at hp;cases e;obtain ⟨l,vs,e1,h1,r1⟩:=p2.tup;subst e1;cases ry;obtain ⟨its,w1,pl,_⟩:=I.tuple h1;obtain ⟨f,hf⟩:=Rj I hu hp.1 p1.rp rx;obtain ⟨k1,k2⟩:=hf (r1.mono Ym) w1 hp.2;refine SeqAt.notIn_tupleAt f pl (fun w hw=>k1 w (by simpa using hw)) ⟨.bl _,H,I,rfl,?_⟩;rw [show its.toArray.any f=its.any f by simp,k2];exact q.here Us
  ·cases e
 ·rename_i i j
  cases e;obtain ⟨e1,k1⟩:=p1.str;obtain ⟨e2,k2⟩:=p2.str;exact A0 pins s σ H x y v u Q I rx ry ⟨i,j,e1,e2,q.here Us⟩
 ·cases e
def Yg:Dat->Dat->Option Dat
 | .lst xs,.int i=>P5 xs i
 | .tup xs,.int i=>P5 xs i
 | .str z,.int i=>(P5 (cl z) i).map fun c=>.str ⟨#[c]⟩
 | _,_=>none
theorem Z2s {ds:List Dat} {i:Int} {d:Dat} (r:W5 K H ds vs) (h:P5 ds i=some d):∃ v,P5 vs i=some v/\Rp K H d v:=by
 unfold P5 at h ⊢;rw [Zv r];obtain ⟨j,e1,e2⟩:=bind_some h;obtain ⟨v,h1,h2⟩:=Rh r e2;exact ⟨v,by rw [e1];exact h1,h2⟩
theorem Za6 {xs:List α} {i:Int} {x:α} (h:P5 xs i=some x):x∈xs:=by
 unfold P5 at h;obtain ⟨j,e1,e2⟩:=bind_some h;exact mem_of_getElem? e2
theorem Z2h {c:Nat} (h:SOk z) (hc:c∈cl z):SOk ⟨#[c]⟩:=SOk.of (Of fun c' hc'=>by
 have:c'=c:=by simpa [cl] using hc'
 rw [this];exact Ha h.ok c hc) (by rw [← Mn];simp [cl];decide)
theorem IxR.weak {r r':R2} (h:IxR X r) (w:∀ x y H Q,r' x y H Q->r x y H Q):IxR X r':=fun value slice pins s σ H x y v u Q I rx ry q hs=>h value slice pins s σ H x y v u Q I rx ry (w _ _ _ _ q) hs
theorem Zw:IxR X (rD X.K Yg):=Zbz.weak fun v u H Q zz=>by
 obtain ⟨A,x,y,d,mu,e,p1,p2,q⟩:=zz;unfold Yg at e;split at e
 ·rename_i xs i
  obtain ⟨l,vs,e1,h1,r1⟩:=p1.lst;obtain ⟨w,h2,r2⟩:=Z2s r1 e;exact .inl ⟨l,vs,i,w,e1,p2.int,h1.sq,h2,q.here r2⟩
 ·rename_i xs i
  obtain ⟨l,vs,e1,h1,r1⟩:=p1.tup;obtain ⟨w,h2,r2⟩:=Z2s r1 e;exact .inr (.inl ⟨l,vs,i,w,e1,p2.int,h1,h2,q.here r2⟩)
 ·rename_i z i
  obtain ⟨e1,k1⟩:=p1.str;cases hc:P5 (cl z) i with
  | none=>rw [hc] at e;cases e
  | some c =>
   rw [hc] at e;cases e;exact .inr (.inr ⟨z,i,c,e1,p2.int,k1.le,hc,q.here (Ro (Z2h k1 (Za6 hc)))⟩)
 ·cases e
theorem Z1w {ds:List Dat} (lo hi:Option Int) (r:W5 K H ds vs):W5 K H (Jy ds lo hi) (An vs lo hi):=by
 unfold Jy An;rw [Zv r];exact Gu _ (Gn _ r)
theorem Z65 {xs:List α} {x:α} (h:x∈Jy xs lo hi):x∈xs:=List.mem_of_mem_drop (List.mem_of_mem_take h)
theorem Ac {xs:List α} {n:Nat} (h:xs.length<=n):(Jy xs lo hi).length<=n:=by unfold Jy;rw [length_take,length_drop];lia
theorem SlR.weak {r r':V->Option Int->Option Int->Hp->VK->Prop} (h:SlR X r) (w:∀ x lo hi H Q,r' x lo hi H Q->r x lo hi H Q):SlR X r':=fun pins s σ H x v vl vu lo hi sl Q I rx hs pl pu q=>h pins s σ H x v vl vu lo hi sl Q I rx hs pl pu (w _ _ _ _ _ q)
def slD:Dat->Option Int->Option Int->Option Dat
 | .lst xs,lo,hi=>some (.lst (Jy xs lo hi))
 | .str z,lo,hi=>some (.str (Txt.slice z lo hi))
 | .tup xs,lo,hi=>if HT.sIx xs.length 0 lo=0/\HT.sIx xs.length xs.length hi=xs.length then none else some (.tup (Jy xs lo hi))
 | _,_,_=>none
theorem Z3o (h:SOk z):SOk (Txt.slice z lo hi):=SOk.of (Of fun c hc=>by
 rw [Z6k] at hc;exact Ha h.ok c (Z65 hc)) (le_trans (Txt.slice_le z _ _) h.le)
theorem Zid:SlD X slD:=Zi0.weak fun v lo hi H Q zz=>by
 obtain ⟨A,x,d,mu,e,p1,q⟩:=zz;unfold slD at e;split at e
 ·rename_i xs
  cases e;obtain ⟨l,vs,e1,h1,r1⟩:=p1.lst;exact .inl ⟨l,vs,e1,h1.sq,(q.new mu).at (Ac p1.lenL) (Z1w lo hi r1)⟩
 ·rename_i z
  cases e;obtain ⟨e1,k1⟩:=p1.str;exact .inr (.inr ⟨z,e1,k1.le,q.here (Ro (Z3o k1))⟩)
 ·rename_i xs
  split at e
  ·cases e
  ·rename_i hn
   cases e;obtain ⟨l,vs,e1,h1,r1⟩:=p1.tup;exact .inr (.inl ⟨l,vs,e1,h1,by rw [Zv r1];exact hn,q.tup mu (Ac p1.lenT) (Z1w lo hi r1)⟩)
 ·cases e
end
section
variable {X:Cx} {m:Bool}
def Uh:List Dat->Option Dat
 | [.lst xs]=>some (.int xs.length)
 | [.tup xs]=>some (.int xs.length)
 | [.str z]=>some (.int z.length)
 | _=>none
theorem U4:Hm X (.builtin "len") Uh:=Z39.weak fun vs H Q zz=>by
 obtain ⟨A,ds,d,mu,e,p,q⟩:=zz;unfold Uh at e;split at e
 ·obtain ⟨v,e1,p1⟩:=p.one
  obtain ⟨l,us,e2,h1,r1⟩:=p1.lst;cases e;exact .inl ⟨l,us,by rw [e1,e2],.inl h1.sq,fun _=>by rw [Zv r1];exact q.here Yq⟩
 ·obtain ⟨v,e1,p1⟩:=p.one
  obtain ⟨l,us,e2,h1,r1⟩:=p1.tup;cases e;exact .inl ⟨l,us,by rw [e1,e2],.inr h1,fun _=>by rw [Zv r1];exact q.here Yq⟩
 ·obtain ⟨v,e1,p1⟩:=p.one
  obtain ⟨e2,h1⟩:=p1.str;cases e;exact .inr ⟨_,by rw [e1,e2],h1.le,q.here Yq⟩
 ·cases e
def Z1v:List Dat->Option (List Dat)
 | [.lst xs]=>some xs
 | [.tup xs]=>some xs
 | _=>none
theorem Z7u:Z28 X (.type "list") Z1v:=Ie.weak fun vs H Q zz=>by
 obtain ⟨A,ds,d,mu,e,p,q⟩:=zz;unfold Z1v at e;split at e
 ·obtain ⟨v,e1,p1⟩:=p.one
  obtain ⟨l,us,e2,h1,r1⟩:=p1.lst;cases e;exact ⟨l,us,by rw [e1,e2],.inl h1.sq,q.at p1.lenL r1⟩
 ·obtain ⟨v,e1,p1⟩:=p.one
  obtain ⟨l,us,e2,h1,r1⟩:=p1.tup;cases e;exact ⟨l,us,by rw [e1,e2],.inr h1,q.at p1.lenT r1⟩
 ·cases e
def tupleD:List Dat->Option Dat
 | [.lst xs]=>some (.tup xs)
 | [.tup xs]=>some (.tup xs)
 | _=>none
theorem E2:Hm X (.type "tuple") tupleD:=Ov.weak fun vs H Q zz=>by
 obtain ⟨A,ds,d,mu,e,p,q⟩:=zz;unfold tupleD at e;split at e
 ·obtain ⟨v,e1,p1⟩:=p.one
  obtain ⟨l,us,e2,h1,r1⟩:=p1.lst;cases e;exact ⟨l,us,by rw [e1,e2],.inl ⟨h1.sq,q.tup mu p1.lenL r1⟩⟩
 ·obtain ⟨v,e1,p1⟩:=p.one
  rcases p1 with p1 | ⟨_,_,_,z,_⟩ | ⟨_,_,_,z,_⟩ | ⟨_,_,z,_⟩
  ·obtain ⟨l,us,e2,h1,r1⟩:=S3 p1
   cases e;exact ⟨l,us,by rw [e1,e2],.inr ⟨Ym.seqT h1,by rw [← e2];exact q.here p1⟩⟩
  ·cases z
  ·cases z
  ·cases z
 ·cases e
def Qk:List Dat->Option (List Int)
 | []=>some []
 | .int i::r=>(Qk r).map (i::·)
 | _=>none
def Av:List Dat->Option (List Bool)
 | []=>some []
 | .bl i::r=>(Av r).map (i::·)
 | _=>none
theorem E3 (ns:List Int):Qk (ns.map .int)=some ns:=by
 induction ns with
 | nil=>rfl
 | cons n ns ih=>rw [map_cons,Qk,ih];rfl
theorem C2 (ns:List Bool):Av (ns.map .bl)=some ns:=by
 induction ns with
 | nil=>rfl
 | cons n ns ih=>rw [map_cons,Av,ih];rfl
theorem Qo:∀ {ds:List Dat} {ns:List Int},Qk ds=some ns->ds=ns.map .int
 | [],_,h=>by cases h;rfl
 | d::ds,ns,h=>by
  cases d<;>try cases h
  rename_i i;rw [Qk] at h;cases e:Qk ds with
  | none=>rw [e] at h;cases h
  | some r=>rw [e] at h;cases h;rw [Qo e];rfl
theorem Fm:∀ {ds:List Dat} {ns:List Bool},Av ds=some ns->ds=ns.map .bl
 | [],_,h=>by cases h;rfl
 | d::ds,ns,h=>by
  cases d<;>try cases h
  rename_i i;rw [Av] at h;cases e:Av ds with
  | none=>rw [e] at h;cases h
  | some r=>rw [e] at h;cases h;rw [Fm e];rfl
theorem Wv:∀ {ns:List Int} {vs:List V},W5 K H (ns.map .int) vs->vs=ns.map .int
 | [],vs,h=>Yf h
 | n::ns,vs,h=>by obtain ⟨v,r,e,h1,h2⟩:=Zp h;rw [e,Jw h1,Wv h2];rfl
theorem Eo:∀ {ns:List Bool} {vs:List V},W5 K H (ns.map .bl) vs->vs=ns.map .bl
 | [],vs,h=>Yf h
 | n::ns,vs,h=>by obtain ⟨v,r,e,h1,h2⟩:=Zp h;rw [e,L1 h1,Eo h2];rfl
def Gp (ns:List Int):List Int:=ns.mergeSort (fun a b=>decide (a<=b))
theorem Q3 (ns:List Int):(Gp ns).Perm ns:=List.mergeSort_perm ns _
theorem Hg (ns:List Int):(Gp ns).Pairwise (·<=·):=by
 have:=List.pairwise_mergeSort (le:=fun a b:Int=>decide (a<=b)) (by intro a b c h1 h2;simp only [decide_eq_true_eq] at *;lia) (by intro a b;simp only [Bool.or_eq_true,decide_eq_true_eq];lia) ns;exact this.imp fun h=>of_decide_eq_true h
theorem Mj:∀ {xs ys:List Int},xs.Perm ys->xs.Pairwise (·<=·)->ys.Pairwise (·<=·)->xs=ys
 | [],ys,p,_,_=>by rw [List.nil_perm.mp p]
 | x::xs,[],p,_,_=>by have:=p.length_eq;simp at this
 | x::xs,y::ys,p,h1,h2=>by
  have hx:=pairwise_cons.mp h1;have hy:=pairwise_cons.mp h2;have e:x=y:=by
   have m1:x∈y::ys:=p.mem_iff.mp mem_cons_self;have m2:y∈x::xs:=p.mem_iff.mpr mem_cons_self;rcases mem_cons.mp m1 with z | z
   ·exact z
   ·rcases mem_cons.mp m2 with w | w
    ·exact w.symm
    ·have a1:=hx.1 y w
     have a2:=hy.1 x z;lia
  subst e;rw [Mj (List.Perm.cons_inv p) hx.2 hy.2]
def Z1g:List Dat->Option (List Dat)
 | [.lst xs]=>(Qk xs).bind fun ns=>if ns.length<64 then some ((Gp ns).map .int) else none
 | _=>none
def Z6h:List Dat->Option Dat
 | [.lst xs]=>(Av xs).map fun bs=>.bl (bs.all id)
 | _=>none
def Z5i:List Dat->Option Dat
 | [.lst xs]=>(Av xs).map fun bs=>.bl (bs.any id)
 | _=>none
theorem map_some {a:Option α} {g:α->β} {b:β} (h:a.map g=some b):∃ x,a=some x/\g x=b:=by
 cases a with
 | none=>cases h
 | some x=>cases h;exact ⟨x,rfl,rfl⟩
theorem Zf4 (hc:X.calm=true):Hm X (.builtin "all") Z6h:=(Z3m hc).weak fun vs H Q zz=>by
 obtain ⟨A,ds,d,mu,e,p,q⟩:=zz;unfold Z6h at e;split at e
 ·obtain ⟨v,e1,p1⟩:=p.one
  obtain ⟨l,us,e2,h1,r1⟩:=p1.lst;obtain ⟨bs,hb,e⟩:=map_some e;subst e;rw [Fm hb] at r1;have eu:=Eo r1;subst eu;exact ⟨l,bs,by rw [e1,e2],h1.sq,q.here Us⟩
 ·cases e
theorem Zf9 (hc:X.calm=true):Hm X (.builtin "any") Z5i:=(Z4n hc).weak fun vs H Q zz=>by
 obtain ⟨A,ds,d,mu,e,p,q⟩:=zz;unfold Z5i at e;split at e
 ·obtain ⟨v,e1,p1⟩:=p.one
  obtain ⟨l,us,e2,h1,r1⟩:=p1.lst;obtain ⟨bs,hb,e⟩:=map_some e;subst e;rw [Fm hb] at r1;have eu:=Eo r1;subst eu;exact ⟨l,bs,by rw [e1,e2],h1.sq,q.here Us⟩
 ·cases e
def Z3i:List Dat->Option Dat
 | [.int i,.int j]=>some (.int (if j > i then j else i))
 | _=>none
def Z4x:List Dat->Option Dat
 | [.int i,.int j]=>some (.int (if j<i then j else i))
 | _=>none
theorem Zbc (hc:X.calm=true):Hm X (.builtin "max") Z3i:=(Z35 hc).weak fun vs H Q zz=>by
 obtain ⟨A,ds,d,mu,e,p,q⟩:=zz;unfold Z3i at e;split at e
 ·obtain ⟨v,w,e1,p1,p2⟩:=p.two
  cases e;exact ⟨_,_,by rw [e1,p1.int,p2.int],q.here Yq⟩
 ·cases e
theorem Zb5 (hc:X.calm=true):Hm X (.builtin "min") Z4x:=(Z4e hc).weak fun vs H Q zz=>by
 obtain ⟨A,ds,d,mu,e,p,q⟩:=zz;unfold Z4x at e;split at e
 ·obtain ⟨v,w,e1,p1,p2⟩:=p.two
  cases e;exact ⟨_,_,by rw [e1,p1.int,p2.int],q.here Yq⟩
 ·cases e
def tyN:Dat->Option String
 | .non=>some "NoneType" | .bl _=>some "bool" | .int _=>some "int" | .str _=>some "str" | .tup _=>some "tuple" | .lst _=>some "list" | _=>none
def Zae (T:String) (d:Dat):Option Bool:=(tyN d).bind fun t=>Z7f t T
def dI (T:String) (f:Zzu):Ev->Option Dat:=fun env=>(f env).bind fun d=>(Zae T d).map .bl
theorem Zdi {A:Around} {d:Dat} {t:String} {b:Bool} (I:Inv X pins σ H s) (r:Rp X.K H d v) (ru:Yb v u) (ht:tyN d=some t) (e:kitOne X.K (.type t) (.type T)=some b) (h:∀ tk,Q (.bool b) { s with toks:=tk }) :
  wpAny (model X.prog X.w) A (call (.builtin "isinstance") [u,.type T]) Q E s:=by
 cases d with
 | non=>cases ht;rw [Nf r] at ru;exact Du I ru .non e h
 | bl y=>cases ht;rw [L1 r] at ru;exact Du I ru (.bl y) e h
 | int y=>cases ht;rw [Jw r] at ru;exact Du I ru (.int y) e h
 | str y=>cases ht;rw [(Nr r).1] at ru;exact Du I ru (.str y) e h
 | tup ds =>
  cases ht;obtain ⟨a,vs,e1,h1,_⟩:=S3 r;subst e1;cases ru;obtain ⟨its,_,⟨o,ho,hc,_⟩,_⟩:=I.tuple h1;exact kia_one kitx_tuple I.kIn ⟨o,ho,hc⟩ e (fun z=>nomatch z) h
 | lst ds =>
  cases ht;obtain ⟨a,vs,e1,h1,_⟩:=Qr r;subst e1;cases ru;obtain ⟨its,n,_,ho,_⟩:=h1.get I;exact kia_one kitx_list I.kIn ⟨_,ho,rfl⟩ e (fun z=>nomatch z) h
 | dct _=>cases ht
 | exc _ _=>cases ht
theorem Zik {e:Expr} {f:Zzu} {tx:Str} {p2:Pos} (he:Wj true X e f) (hg:Gl X "isinstance") (hm:X.mg "isinstance" = none) (hv:bootBuiltins "isinstance" = some (.builtin "isinstance")) (hgT:Gl X tx) (hmT:X.mg tx=none) (hvT:bootBuiltins tx=some (.type T)) (hnT:tx≠"__name__" := by decide) (hdT:(tx==("__debug__" : Str))=false:=by decide)
  (hs:starEach [e,.Name tx p2] X.env=(false,eval e X.env)::starEach [.Name tx p2] X.env:=by rfl):Wj m X (.Call (.Name "isinstance" p) [e,.Name tx p2] [] pos) (dI T f):=by
 have hc:Vc X (.builtin "isinstance") (fun vs H Q=>∃ v A d b,vs=[v,.ty T]/\Ta A H/\Zae T d=some b/\Pk X.K A H d v/\Qn false X.K A H (.bl b) Q):=by
  intro pins s σ H xs us Q I r ⟨v,A,d,b,e1,mu,e2,p1,q⟩;subst e1;obtain ⟨u,w',rfl,ru,rw'⟩:=Z2g r;cases rw';obtain ⟨t,ht,hk⟩:=bind_some e2;exact Zdi I p1.rp ru ht (Zcm hk) fun tk=>⟨.bl b,H,I.tok _,rfl,q.here Us⟩
 refine Wj.any ((Na hc hg hm hv (Yu he (Yu (Zbt hgT hmT hvT hnT hdT) Vn) hs) (he:=hs)).weak fun σ H Q ⟨env,R,A,d,k,q1,q2⟩=>?_);obtain ⟨x,e1,h⟩:=bind_some q1;obtain ⟨b,e2,h⟩:=map_some h;subst h;exact ⟨env,R,A,x,k,e1,fun v H1 s1 p1=>⟨v,A,x,b,rfl,k.mu.mono s1,e2,p1,q2.mono s1⟩⟩
end
def Adv (st:Bool) (A:AS) (H:Hp) (A1:AS) (H1:Hp):Prop:=match st with
 | true=>Step A H A1 H1
 | false=>A1=A/\Zo H H1
theorem Adv.step {st:Bool} {A A1:AS} (h:Adv st A H A1 H1):Step A H A1 H1:=by
 cases st with
 | true=>exact h
 | false=>obtain ⟨rfl,h⟩:=h;exact Step.same h
def Z13 (st:Bool) (K:Zzy) (A:AS) (H:Hp) (ds:List Dat) (J:It):Prop:=∀ A1 H1,Adv st A H A1 H1->Ta A1 H1 ->
 (∀ (i:Nat) x,ds[i]?=some x->J.go i H1/\∀ v H2,J.yld i H1 v H2->Zo H1 H2/\Rp K (av H2 A1) x v)/\J.stop ds.length H1
def PId (st:Bool) (X:Cx) (tg iter:Expr) (src:Zzv):Prop:=PI X tg iter fun σ H R'=>∃ env R A ds,EnvOk X.K R A H σ env/\src env=some ds /\
 ∀ J H',ds.length<=sizeLine->Zo H H'->Z13 st X.K A H' ds J->R' J H'
theorem PI.weak {t t':TI} (h:PI X tg iter t) (w:∀ σ H Q,t' σ H Q->t σ H Q):PI X tg iter t':=fun pins s σ H Q I q=>h pins s σ H Q I (w σ H Q q)
section
variable {st m:Bool} {X:Cx} {tg l:Expr} {f:Zzu} {fs:Zzv}
def Th (f:Zzu):Ev->Option (List Dat):=fun env=>match f env with
 | some (.lst xs)=>some xs
 | some (.tup xs)=>some xs
 | _=>none
theorem Z2c {A:AS} {ds:List Dat} (h:∀ A1 H1,Adv st A H A1 H1->Dy K H1 a vs) (r:W5 K (av H A) ds vs):Z13 st K A H ds (Itl K a):=fun A1 H1 adv _=>by
 have h1:=h A1 H1 adv;have r1:=r.mono adv.step.av;refine ⟨fun i x e=>?_,⟨vs,h1,le_of_eq (Zv r)⟩⟩;obtain ⟨v,e1,e2⟩:=Rh r1 e;refine ⟨⟨vs,v,h1,e1⟩,fun v' H2 ⟨e3,e4⟩=>?_⟩;subst e3;have:=e4 vs h1;rw [e1] at this;cases this;exact ⟨Zo.refl _,e2⟩
theorem Z7p {A:AS} {ds:List Dat} (h:∀ A1 H1,Adv st A H A1 H1->Ed K H1 a vs) (r:W5 K (av H A) ds vs):Z13 st K A H ds (Itt K a):=fun A1 H1 adv _=>by
 have h1:=h A1 H1 adv;have r1:=r.mono adv.step.av;refine ⟨fun i x e=>?_,⟨vs,h1,le_of_eq (Zv r)⟩⟩;obtain ⟨v,e1,e2⟩:=Rh r1 e;refine ⟨⟨vs,v,h1,e1⟩,fun v' H2 ⟨e3,e4⟩=>?_⟩;subst e3;have:=e4 vs h1;rw [e1] at this;cases this;exact ⟨Zo.refl _,e2⟩
theorem Oe (h:Wj false X l f):PId st X tg l (Th f):=(Z59 h).weak fun σ H R' zz=>by
 obtain ⟨env,R,A,ds,k,e,q⟩:=zz;unfold Th at e;split at e
 ·rename_i xs e1
  cases e;refine .inl ⟨env,R,A,.lst ds,k,e1,fun v H1 s1 p1=>?_⟩;obtain ⟨a,vs,e2,h1,r1⟩:=Qr (show Rp X.K (av H1 A) (.lst ds) v from p1);subst e2;exact ⟨a,rfl,⟨vs,(Ym.sl h1).sq⟩,q _ H1 p1.pk.lenL s1 (Z2c (vs:=vs) (fun A1 H2 adv=>(Ym.sl (adv.step.av.sl h1)).sq) r1)⟩
 ·rename_i xs e1
  cases e;refine .inr ⟨env,R,A,.tup ds,k,e1,fun v H1 s1 p1=>?_⟩;obtain ⟨a,vs,e2,h1,r1⟩:=S3 (show Rp X.K (av H1 A) (.tup ds) v from p1);subst e2;exact ⟨a,rfl,⟨vs,Ym.seqT h1⟩,q _ H1 p1.pk.lenT s1 (Z7p (vs:=vs) (fun A1 H2 adv=>Ym.seqT (adv.step.av.seqT h1)) r1)⟩
 ·cases e
theorem S9 (h:Wj true X l f):PId false X tg l (Th f):=(Z59 h).weak fun σ H R' zz=>by
 obtain ⟨env,R,A,ds,k,e,q⟩:=zz;unfold Th at e;split at e
 ·rename_i xs e1
  cases e;refine .inl ⟨env,R,A,.lst ds,k,e1,fun v H1 s1 p1=>?_⟩;obtain ⟨a,vs,e2,h1,r1⟩:=p1.pk.lst;subst e2;exact ⟨a,rfl,⟨vs,h1.sq⟩,q _ H1 p1.pk.lenL s1 (Z2c (vs:=vs) (fun A1 H2 adv=>(adv.2.sl h1).sq) r1)⟩
 ·rename_i xs e1
  cases e;refine .inr ⟨env,R,A,.tup ds,k,e1,fun v H1 s1 p1=>?_⟩;obtain ⟨a,vs,e2,h1,r1⟩:=p1.pk.tup;subst e2;exact ⟨a,rfl,⟨vs,h1⟩,q _ H1 p1.pk.lenT s1 (Z7p (vs:=vs) (fun A1 H2 adv=>adv.2.seqT h1) r1)⟩
 ·cases e
def rng (lo:Int) (n:Nat):List Dat:=(List.range n).map fun (k:Nat)=>.int (lo+k)
theorem Vr {lo:Int} {n:Nat}:(rng lo n).length=n:=by simp [rng]
theorem Z6x {A:AS} {lo:Int} {n:Nat}:Z13 st K A H (rng lo n) (Itr lo n):=fun A1 H1 adv _=>by
 refine ⟨fun i x e=>?_,by show n<=(rng lo n).length;simp [rng]⟩;unfold rng at e;rw [getElem?_map] at e;by_cases hi:i<n
 ·rw [List.getElem?_range hi] at e
  cases e;exact ⟨hi,fun v H2 ⟨e1,e2⟩=>by subst e1 e2;exact ⟨Zo.refl _,Yq⟩⟩
 ·rw [List.getElem?_eq_none (by simpa using hi)] at e
  cases e
def Ut (fs:Zzv):Ev->Option (List Dat):=fun env=>match fs env with
 | some [.int j]=>if -(2^62)<=j/\j<2^62/\j.toNat<=sizeLine then some (rng 0 j.toNat) else none
 | _=>none
def Bl (fs:Zzv):Ev->Option (List Dat):=fun env=>match fs env with
 | some [.int i,.int j]=>if (-(2^62)<=i/\i<2^62/\-(2^62)<=j/\j<2^62)/\(j - i).toNat<=sizeLine then some (rng i (j - i).toNat) else none
 | _=>none
theorem Wa {a:Expr} (hg:Gl X "range") (hm:X.mg "range" = none) (ha:Oo true X [a] fs) (hs:starEach [a] X.env=[(false,eval a X.env)]:=by rfl):PId st X tg (.Call (.Name "range" p) [a] [] pos) (Ut fs):=(Z38 hg hm ha hs).weak fun σ H R' zz=>by
 obtain ⟨env,R,A,ds,k,e,q⟩:=zz;unfold Ut at e;split at e
 ·rename_i j e1
  split at e
  ·rename_i hj
   cases e;refine ⟨env,R,A,_,k,e1,fun vs H1 s1 p1=>?_⟩;obtain ⟨v,e2,p2⟩:=p1.one;exact ⟨j,by rw [e2,p2.int],hj.1,hj.2.1,q _ H1 (by rw [Vr];exact hj.2.2) s1 Z6x⟩
  ·cases e
 ·cases e
theorem Z7s {a b:Expr} (hg:Gl X "range") (hm:X.mg "range" = none) (ha:Oo true X [a,b] fs) (hs:starEach [a,b] X.env=[(false,eval a X.env),(false,eval b X.env)]:=by rfl) (hs2:starEach [b] X.env=[(false,eval b X.env)]:=by rfl):PId st X tg (.Call (.Name "range" p) [a,b] [] pos) (Bl fs):=(Z4p hg hm ha hs hs2).weak fun σ H R' zz=>by
 obtain ⟨env,R,A,ds,k,e,q⟩:=zz;unfold Bl at e;split at e
 ·rename_i i j e1
  split at e
  ·rename_i hj
   cases e;refine ⟨env,R,A,_,k,e1,fun vs H1 s1 p1=>?_⟩;obtain ⟨v,w,e2,p2,p3⟩:=p1.two;exact ⟨i,j,by rw [e2,p2.int,p3.int],hj.1,q _ H1 (by rw [Vr];exact hj.2) s1 Z6x⟩
  ·cases e
 ·cases e
def Zcs (f:Zzu):Ev->Option (List Dat):=fun env=>match f env with
 | some (.str z)=>some ((cl z).map fun c=>.str ⟨#[c]⟩)
 | _=>none
theorem Zg4 (h:Wj m X l f):PId st X tg l (Zcs f):=(Zdz h).weak fun σ H R' zz=>by
 obtain ⟨env,R,A,ds,k,e,q⟩:=zz;unfold Zcs at e;split at e
 ·rename_i z e1
  cases e;refine ⟨env,R,A,_,k,e1,fun v H1 s1 p1=>?_⟩;obtain ⟨e2,hk⟩:=p1.pk.str;refine ⟨z,e2,q _ H1 (by rw [length_map,Mn];exact hk.le) s1 fun A1 H2 adv _=>⟨fun i x ex=>?_,by show _=_;rw [length_map,Mn]⟩⟩;rw [getElem?_map] at ex;cases hc:(cl z)[i]? with
  | none=>rw [hc] at ex;cases ex
  | some c =>
   rw [hc] at ex;cases ex;have hi:i<z.length:=by rw [← Mn];exact (List.getElem?_eq_some_iff.mp hc).1
   refine ⟨hi,fun v' H3 ⟨e3,c',e4,e5⟩=>?_⟩;subst e3 e5;have:c'=c:=by
    have h':(cl z)[i]?=some c':=by simpa [cl] using e4
    rw [hc] at h';exact (Option.some.inj h').symm
   subst this;exact ⟨Zo.refl _,Ro (Z2h hk (mem_of_getElem? hc))⟩
 ·cases e
end
def Hf (is:List Nat) (σ σ':St):Prop:=σ'.length=σ.length/\∀ j,j∉is->σ'[j]?=σ[j]?
def PGd (is:List Nat) (X:Cx) (tg:Expr) (g:Dat->Ev->Option Ev):Prop:=PG X tg fun v σ H Q=>∃ env R A d env',EnvOk X.K R A H σ env/\Rp X.K (av H A) d v/\g d env=some env'/\∀ σ',EnvOk X.K R A H σ' env'->Hf is σ σ'->Q σ' H
def Zai (is:List Nat) (X:Cx) (tgs:List Expr) (g:List Dat->Ev->Option Ev):Prop:=PGs X tgs fun vs σ H Q=>∃ env R A ds env',EnvOk X.K R A H σ env/\W5 X.K (av H A) ds vs/\g ds env=some env'/\∀ σ',EnvOk X.K R A H σ' env'->Hf is σ σ'->Q σ' H
theorem EnvOk.put {B:Bs} {A:AS} {env:Ev} (k:EnvOk K B A H σ env) (i:Nat) {d:Dat} (r:Rp K (av H A) d v):EnvOk K B A H (σ.set i (some v)) (env.set i (.fz d)):=by
 obtain ⟨own,h1,h2,h4⟩:=k.sl;refine ⟨k.h0,k.r0,k.ra,k.ar,k.mu,by rw [length_set,length_set];exact k.len,fun hs j d'=>?_,fun j a=>j≠i/\own j a,fun j j' a q q'=>h1 j j' a q.2 q'.2,fun j a q=>h2 j a q.2,fun j s e=>?_⟩
 ·rw [getElem?_set]
  split
  ·split
   ·intro z;cases z
   ·intro z;cases z
  ·exact k.np hs j d'
 by_cases hj:i=j
 ·subst hj
  rw [getElem?_set] at e;rw [if_pos rfl] at e;split at e
  ·rename_i hl
   cases e;refine ⟨some v,?_,v,rfl,r⟩;rw [getElem?_set,if_pos rfl,if_pos (by rw [k.len];exact hl)]
  ·cases e
 ·rw [getElem?_set,if_neg hj] at e
  obtain ⟨x,q1,q2⟩:=h4 j s e;refine ⟨x,by rw [getElem?_set,if_neg hj];exact q1,?_⟩;cases s with
  | un=>trivial
  | fz d=>exact q2
  | pk d=>exact q2
  | ow ds=>obtain ⟨a,vs,e1,e2,e3⟩:=q2;exact ⟨a,vs,e1,⟨Ne.symm hj,e2⟩,e3⟩
  | gx g=>obtain ⟨v,e1,e2⟩:=q2;exact ⟨v,e1,e2.frame (fun _ z=>⟨Ne.symm hj,z⟩) (fun _ _ _ z=>z) (Zo.refl _)⟩
theorem PG.weak {e:Expr} {t t':TG} (h:PG X e t) (w:∀ v σ H Q,t' v σ H Q->t v σ H Q):PG X e t':=fun pins s σ H v u Q I r q=>h pins s σ H v u Q I r (w _ _ _ _ q)
theorem PGs.weak {e:List Expr} {t t':TGs} (h:PGs X e t) (w:∀ v σ H Q,t' v σ H Q->t v σ H Q):PGs X e t':=fun pins s σ H v u Q I r q=>h pins s σ H v u Q I r (w _ _ _ _ q)
section
variable {X:Cx} {pos:Pos}
def Y5 (i:Nat):Dat->Ev->Option Ev:=fun d env=>some (env.set i (.fz d))
theorem Z2z {v:Option V}:Hf [i] σ (σ.set i v):=⟨by rw [length_set],fun j hj=>by rw [getElem?_set,if_neg (by intro e;exact hj (by simp [e]))]⟩
theorem Zs (i:Nat) {x:Str} (hN:X.N.Nodup) (hi:X.N[i]?=some x) (hx:B2 X.env.scope x) (hf:X.fn x=true\/X.env.scope.names.lookup x=some .local:=by first | exact .inl rfl | exact .inr rfl | assumption):PGd [i] X (.Name x pos) (Y5 i):=(Z92 hN hi hx hf).weak fun v σ H Q zz=>by
 obtain ⟨env,R,A,d,env',k,r,e,q⟩:=zz;cases e;exact q _ (k.put i r) Z2z
def Qf:List Dat->Ev->Option Ev:=fun ds env=>match ds with
 | []=>some env
 | _=>none
def Yh (g:Dat->Ev->Option Ev) (gs:List Dat->Ev->Option Ev):List Dat->Ev->Option Ev:=fun ds env=>match ds with
 | d::ds=>(g d env).bind fun env'=>gs ds env'
 | _=>none
theorem Jo:Zai [] X [] Qf:=Za9.weak fun vs σ H Q zz=>by
 obtain ⟨env,R,A,ds,env',k,r,e,q⟩:=zz;unfold Qf at e;split at e
 ·cases e
  exact ⟨Yf r,q σ k ⟨rfl,fun _ _=>rfl⟩⟩
 ·cases e
theorem Yt {e:Expr} {js:List Nat} {g:Dat->Ev->Option Ev} {gs:List Dat->Ev->Option Ev} (h1:PGd is X e g) (h2:Zai js X es gs)
  (hs:(assignEach (e::es) X.env).map (·.2)=assign e X.env::(assignEach es X.env).map (·.2):=by rfl):Zai (is++js) X (e::es) (Yh g gs):=(Z5a h1 h2 hs).weak fun vs σ H Q zz=>by
 obtain ⟨env,R,A,ds,env',k,r,e,q⟩:=zz;unfold Yh at e;split at e
 ·rename_i d ds'
  obtain ⟨env1,e1,e2⟩:=bind_some e;obtain ⟨v,us,ev,r1,r2⟩:=Zp r;refine ⟨v,us,ev,env,R,A,d,env1,k,r1,e1,fun σ1 k1 a1=>⟨env1,R,A,ds',env',k1,r2,e2,fun σ2 k2 a2=>q σ2 k2 ⟨by rw [a2.1,a1.1],fun j hj=>?_⟩⟩⟩;rw [mem_append,not_or] at hj;rw [a2.2 j hj.2,a1.2 j hj.1]
 ·cases e
end
def Tv (fs:List (Option Nat)) (env:Ev):Ev:=fs.map fun o=>match o with
 | none=>.un
 | some j=>match env[j]? with
  | some (.fz d)=>.fz d
  | some (.pk d)=>.pk d
  | some (.ow ds)=>.pk (.lst ds)
  | _=>.un
theorem EnvOk.inn {B:Bs} {A:AS} {env:Ev} (k:EnvOk K B A H σ env) (fs:List (Option Nat)):EnvOk K ⟨H,A,false⟩ A H (Vp fs σ) (Tv fs env):=by
 obtain ⟨own,h1,h2,h4⟩:=k.sl;refine ⟨Zo.refl H,fun a h=>?_,fun _ h=>h,fun _ h=>.inl h,k.mu,by simp [Vp,Tv],fun z=>(by cases z),fun _ _=>False,fun _ _ _ h=>h.elim,fun _ _ h=>h.elim,fun i s e=>?_⟩
 ·have:=k.mu a h
  cases q:H a with
  | none=>rw [q] at this;exact this.elim
  | some o=>exact ⟨o,q⟩
 ·unfold Tv at e
  rw [getElem?_map] at e;unfold Vp;rw [getElem?_map];cases hf:fs[i]? with
  | none=>rw [hf] at e;cases e
  | some o =>
   rw [hf] at e;cases o with
   | none=>cases e;exact ⟨_,rfl,trivial⟩
   | some j =>
    simp only [Option.map_some,Option.some.injEq] at e ⊢;refine ⟨_,rfl,?_⟩;split at e
    ·rename_i d hd
     obtain ⟨x,q1,q2⟩:=h4 j _ hd;subst e;rw [q1];exact q2
    ·rename_i d hd
     obtain ⟨x,q1,q2⟩:=h4 j _ hd;subst e;rw [q1];exact q2
    ·rename_i ds hd
     obtain ⟨x,q1,a,vs,e1,_,hz,e3,e4⟩:=h4 j _ hd;subst e;rw [q1];exact ⟨.ref a,e1,.inr (.inl ⟨a,vs,ds,rfl,rfl,hz,e3,e4⟩)⟩
    ·subst e;trivial
def W3 (g:Dat->Ev->Option Ev) (t:Ev->Option Bool) (f:Zzu) (env:Ev):List Dat->Option (List Dat)
 | []=>some []
 | x::xs=>(g x env).bind fun env1=>(t env1).bind fun b=>if b=true then (f env1).bind fun y=>(W3 g t f env xs).map (y::·) else W3 g t f env xs
def Vm (src:Zzv) (fs:List (Option Nat)) (g:Dat->Ev->Option Ev) (t:Ev->Option Bool) (f:Zzu):Ev->Option (List Dat):=fun env=>(src env).bind fun ds=>W3 g t f (Tv fs env) ds
theorem K7 {g:Dat->Ev->Option Ev} {t:Ev->Option Bool} {f:Zzu} {env:Ev}:∀ {xs ys:List Dat},W3 g t f env xs=some ys->ys.length<=xs.length
 | [],ys,h=>by cases h;exact le_refl _
 | x::xs,ys,h=>by
  rw [W3] at h;obtain ⟨env1,e1,h⟩:=bind_some h;obtain ⟨b,e2,h⟩:=bind_some h;split at h
  ·obtain ⟨y,e3,h⟩:=bind_some h
   obtain ⟨zs,e4,h⟩:=map_some h;subst h;exact Nat.succ_le_succ (K7 e4)
  ·exact Nat.le_succ_of_le (K7 h)
def PFd (X:Cx) (ifs:List Expr) (t:Ev->Option Bool):Prop:=PIf X ifs fun σ H Q=>∃ env R A b,EnvOk X.K R A H σ env/\t env=some b/\∀ H',Zo H H'->Q b H'
def Ux:Ev->Option Bool:=fun _=>some true
theorem PIf.weak {e:List Expr} {t t':TT} (h:PIf X e t) (w:∀ σ H Q,t' σ H Q->t σ H Q):PIf X e t':=fun pins s σ H Q I q=>h pins s σ H Q I (w σ H Q q)
theorem Ef:PFd X [] Ux:=(Z91 (Y:=X)).weak fun σ H Q ⟨env,R,A,b,k,e,q⟩=>by cases e;exact q H (Zo.refl H)
theorem Ee {c:Expr} {t:Ev->Option Bool} (h:PTd X c t):PFd X [c] t:=Z8i h
section
variable {X:Cx} {sc:Scope}
theorem Xc {J:It} {fs:List (Option Nat)} {g:Dat->Ev->Option Ev} {t:Ev->Option Bool} {f:Zzu} {Q:VK} {A:AS} {B:Bs} {env:Ev} {ds ys:List Dat}
  (hfs:∀ i∈is,fs[i]?=some none) (k:EnvOk K B A H1 σ env) (hJ:Z13 false K A H1 ds J) (hz:ds.length<=sizeLine) (hc:W3 g t f (Tv fs env) ds=some ys) (q:Os K A H1 ys Q) :
  ∃ W:Nat->Nat->List V->Hp->Prop,(∃ m,W 0 m [] H1)/\∀ i m zs H,W i m zs H ->
   (J.stop i H/\zs.length<=sizeLine/\∀ p,H p=none->Q (.ref p) (Yn H p (.lst zs))) \/
   (J.go i H/\zs.length<=sizeLine/\∃ N:List V->Hp->Prop,(∀ ys' H',N ys' H'->∃ m',m'<m/\W (i+1) m' ys' H')/\∀ x H',J.yld i H x H'->(∃ env R A d env',EnvOk K R A H' (Vp fs σ) env/\Rp K (av H' A) d x/\g d env=some env'/\∀ σ',EnvOk K R A H' σ' env'->Hf is (Vp fs σ) σ' ->
    (Ext (Vp fs σ) σ'/\∃ env R A b,EnvOk K R A H' σ' env/\t env=some b/\∀ H3,Zo H' H3->if b=true then ∃ env R A d,EnvOk K R A H3 σ' env/\f env=some d/\Qn false K A H3 d (fun v H4=>N (zs++[v]) H4) else N zs H3))):=by
 have hl:=K7 hc;refine ⟨fun i m zs H=>m=ds.length - i/\i<=ds.length/\Zo H1 H/\∃ us rest,W3 g t f (Tv fs env) (ds.drop i)=some rest/\us++rest=ys/\W5 K (av H A) us zs,
  ⟨ds.length,by simp,zero_le _,Zo.refl _,[],ys,by simpa using hc,rfl,V8⟩,?_⟩
 rintro i m zs H ⟨rfl,hi,s1,us,rest,e1,e2,r⟩;have hzs:zs.length<=sizeLine:=by
  rw [Zv r];have:us.length<=ys.length:=by rw [← e2,length_append];lia
  lia
 obtain ⟨hgo,hstop⟩:=hJ A H ⟨rfl,s1⟩ (k.mono s1).mu;by_cases hlt:i<ds.length
 ·have hx:ds[i]?=some ds[i]:=by simp [hlt]
  obtain ⟨go,yl⟩:=hgo i _ hx;rw [List.drop_eq_getElem_cons hlt,W3] at e1;obtain ⟨env1,b1,e1⟩:=bind_some e1;obtain ⟨b,b2,e1⟩:=bind_some e1;refine .inr ⟨go,hzs,fun zs' H'=>i+1<=ds.length/\Zo H1 H'/\∃ us rest,W3 g t f (Tv fs env) (ds.drop (i+1))=some rest/\us++rest=ys/\W5 K (av H' A) us zs',
   fun zs' H' h=>⟨ds.length - (i+1),by lia,rfl,h⟩,fun x H' hy=>?_⟩
  obtain ⟨s2,rx⟩:=yl x H' hy;refine ⟨Tv fs env,⟨H1,A,false⟩,A,ds[i],env1,(k.inn fs).mono (s1.trans s2),rx,b1,fun σ' k' ag=>⟨⟨ag.1.symm,fun j v ej=>?_⟩,env1,⟨H1,A,false⟩,A,b,k',b2,fun H3 s3=>?_⟩⟩
  ·have hj:j∉is:=fun hj=>by
    have:=hfs j hj;unfold Vp at ej;rw [getElem?_map,this] at ej;cases ej
   rw [ag.2 j hj];exact ej
  ·cases b with
   | true =>
    rw [if_pos rfl] at e1 ⊢;obtain ⟨y,b3,e1⟩:=bind_some e1;obtain ⟨rest',b4,e1⟩:=map_some e1;subst e1;refine ⟨env1,⟨H1,A,false⟩,A,y,k'.mono s3,b3,fun v H4 s4 rv=>⟨hlt,((s1.trans s2).trans s3).trans s4,us++[y],rest',b4,by rw [List.append_assoc];exact e2,W6 (r.mono (We ((s2.trans s3).trans s4))) (J9 rv)⟩⟩
   | false =>
    rw [if_neg Bool.false_ne_true] at e1 ⊢;exact ⟨hlt,(s1.trans s2).trans s3,us,rest,e1,e2,r.mono (We (s2.trans s3))⟩
 ·have e:i=ds.length:=by lia
  subst e;rw [List.drop_length,W3] at e1;cases e1;rw [append_nil] at e2;subst e2;exact .inl ⟨hstop,hzs,(q.mono s1).at (by lia) r⟩
variable {elt tg iter:Expr} {ifs:List Expr} {pos:Pos} {src:Zzv} {is:List Nat} {g:Dat->Ev->Option Ev} {t:Ev->Option Bool} {f:Zzu}
theorem Tn (psc:Scope) (fs:List (Option Nat)) (N:List Str) (hp:X.env.scope=psc) (S:CompOk psc sc X.N N fs) (hc:X.calm=true) (hi:PId false X tg iter src)
  (hb:∀ (C:Addr) (s:Shared) (H:Hp) (fp:List Addr),PGd is (Wl X sc N C s H fp) tg g/\PFd (Wl X sc N C s H fp) ifs t/\Wj false (Wl X sc N C s H fp) elt f)
  (hfs:∀ i∈is,fs[i]?=some none) (hs:∀ x,foldedSetIterable iter X.env x=pure x:=by intro _;rfl):PNd X (.ListComp elt [⟨tg,iter,ifs,0⟩] sc pos) (Vm src fs g t f):=by
 refine PE.weak (Z9t (g:=fun v σ H Q=>∃ env R A d env',EnvOk X.K R A H σ env/\Rp X.K (av H A) d v/\g d env=some env'/\∀ σ',EnvOk X.K R A H σ' env'->Hf is σ σ'->Q σ' H) (tt:=fun σ H Q=>∃ env R A b,EnvOk X.K R A H σ env/\t env=some b/\∀ H',Zo H H'->Q b H') (te:=fun σ H Q=>∃ env R A d,EnvOk X.K R A H σ env/\f env=some d/\Qn false X.K A H d Q) psc fs N hp S hc hi hb hs) fun σ H Q ⟨env,R,A,ys,k,e,q⟩=>?_
 obtain ⟨ds,e1,e2⟩:=bind_some e;exact ⟨env,R,A,ds,k,e1,fun J H1 hz s1 hJ=>Xc hfs (k.mono s1) hJ hz e2 (q.mono s1)⟩
end
def Im (h base:Heap) (e T:Addr) (cls:Value×Option Value) (dct:Option Addr) (fl:Value):Prop :=
 ∃ oe vs oT ts,h.get? e=some oe/\(oe.cls,vs[2]?)=cls/\oe.dict=dct/\oe.data=.fields vs/\vs[1]?=some (.ref T)/\base.get? T=none/\T≠e/\h.get? T=some oT/\oT.data=.fields ts/\ts[3]?=some fl
def Nj (l:List Env) (ch:List Addr) (h h':Heap):Prop:=∀ b o,h.get? b=some o->b∉ch->(b∉E9 l->h'.get? b=some o)/\∃ sl,h'.get? b=some { o with slots:=sl }
theorem Nj.of {h1:Heap} (a:∀ b o,h.get? b=some o->b∉ch->h1.get? b=some o):Nj l ch h h1:=fun c o q hc=>⟨fun _=>a c o q hc,o.slots,a c o q hc⟩
theorem Nn (f:Array Value->Array Value) (o:Obj):(Obj.mapFields f o).dict=o.dict:=by
 unfold Obj.mapFields;split<;>rfl
section
variable {M:Model} {A:Around} {E:Zzz} {s:Shared}
theorem Z7z {env:Env} {L:Addr} {vs:Array Value} {head:Value} {hadNext:Bool} {Q:Unit->Shared->Prop}
   (hfr:A.frames=some (env::outer)) (hl:s.heap.FunFrames base (env::outer)) (hf:env.frame=some L)
   (he:s.heap.get? e=some oe) (hkb:base.StaysIn s.heap) (hen:base.get? e=none) (hd:oe.data=.fields vs) (hsz:1<vs.size)
   (h:∀ h' T,s.heap.objs.size<=T->base.StaysIn h'->h'.FunFrames base (env::outer)->Im h' base e T (oe.cls,vs[2]?) oe.dict (rawInt L)->Nj (env::outer) [e] s.heap h'->s.heap.objs.size<=h'.objs.size->Q () { s with heap:=h' }) :
   wpAny M A (do let a ← frameOf env;let pl ← entryPlaceOf L hadNext;let b ← EntryCells.newEntry head a .none (rawInt L) .none pl;setField (.ref e) 1 b) Q E s:=by
 have hene:e∉(env::outer).filterMap (·.frame):=fun hm=>by
   obtain ⟨_,o,ho,hnf⟩:=hl.mem hm;rw [he] at ho;injection ho with ho;subst ho;exact hnf vs hd
 refine wpAny_bind (wpAny_frameOf_fun hfr hl hf fun h₁ hs₁=>?_);refine wpAny_bind (wpAny_entryPlaceOf fun pl hpl=>?_);unfold EntryCells.newEntry newFields;refine wpAny_bind (wpAny_newObj_type ?_ (hpl.sizeOk5 _ _ _ _ _));have he₁:h₁.get? e=some oe:=(hs₁.2.1 e hene).trans he;have kb₁:base.StaysIn h₁:=fun b o hbo=>(hs₁.2.1 b fun hm=>by rw [(hl.mem hm).1] at hbo;cases hbo).trans (hkb b o hbo)
 have he₂:=get?_push_of_some (h:=h₁) { cls:=.type "traceback",dict:=none,data:=.fields ([head,.ref L,.none,rawInt L,.none]++(if pl.isEmpty then List.replicate 6 Value.none else pl)).toArray } he₁;have hlow:s.heap.objs.size<=h₁.objs.size:=le_of_eq hs₁.1.symm;have hTe:h₁.objs.size≠e:=Nat.ne_of_gt (lt_size he₁);have hd₃:=Obj.data_mapFields hd (·.setIfInBounds 1 (Value.ref h₁.objs.size));have he₃:=get?_update_self (Obj.mapFields (·.setIfInBounds 1 (Value.ref h₁.objs.size))) he₂ (Obj.isFreed_of_fields hd₃);have hT₃:=(get?_update_other (h₁.push { cls:=.type "traceback",dict:=none,data:=.fields ([head,.ref L,.none,rawInt L,.none]++(if pl.isEmpty then List.replicate 6 Value.none else pl)).toArray })
   (Obj.mapFields (·.setIfInBounds 1 (Value.ref h₁.objs.size))) (Ne.symm hTe)).trans (get?_push_size h₁ rfl)
 have keep:∀ b o,b≠e->h₁.get? b=some o ->
     ((h₁.push { cls:=.type "traceback",dict:=none,data:=.fields ([head,.ref L,.none,rawInt L,.none]++(if pl.isEmpty then List.replicate 6 Value.none else pl)).toArray }).update e (Obj.mapFields (·.setIfInBounds 1 (Value.ref h₁.objs.size)))).get? b=some o :=
   fun b o hbe hb=>by
     rw [get?_update_other _ _ (Ne.symm hbe)];exact get?_push_of_some _ hb
 refine wpAny_setField he₂ hd hsz (h _ h₁.objs.size hlow ?_ ?_ ?_ ?_ ?_)
 · exact fun b o hbo=>keep b o (fun q=>by rw [q,hen] at hbo;cases hbo) (kb₁ b o hbo)
 · refine hl.of_keeps fun b o hb hnf=>?_
   obtain ⟨sl,hs⟩:=hs₁.2.2 b o hb;have hbe:b≠e:=fun q=>by rw [q,he] at hb;injection hb with hb;subst hb;exact hnf vs hd
   exact ⟨_,keep b _ hbe hs,rfl⟩
 · exact ⟨_,_,_,_,he₃,by rw [Obj.cls_mapFields];simp [Array.getElem?_setIfInBounds],Nn _ _,hd₃,by simp [hsz],kb₁.fresh,hTe,hT₃,rfl,by first | (simp;done) | (rcases hpl with rfl | ⟨_,_,_,_,_,_,_,rfl⟩<;>simp)⟩
 · intro b o hb hbe
   have hbe':b≠e:=fun z=>hbe (by simp [z])
   obtain ⟨sl,hs⟩:=hs₁.2.2 b o hb;exact ⟨fun hfr'=>keep b o hbe' ((hs₁.2.1 b hfr').trans hb),sl,keep b _ hbe' hs⟩
 · rw [size_update,size_push];exact Nat.le_succ_of_le hlow
theorem Kp {T:Addr} {fl:Value} {Q:Unit->Shared->Prop}
  (hkb:base.StaysIn s.heap) (hl:s.heap.FunFrames base l) (ht:Im s.heap base e T cls dct fl)
  (h:∀ h',base.StaysIn h'->h'.FunFrames base l->Im h' base e T cls dct .none->(∀ b o,s.heap.get? b=some o->b∉[T]->h'.get? b=some o)->h'.objs.size=s.heap.objs.size->Q () { s with heap:=h' }) :
  wpAny M A (setFlight (.ref e) none) Q E s:=by
 obtain ⟨oe,vs,oT,ts,he,hcls,hdct,hd,h1,hnT,hTe,hT,hdT,h3⟩:=ht;have hsz3:3<ts.size:=(Array.getElem?_eq_some_iff.mp h3).1;have other:∀ b,b≠T->(s.heap.update T (Obj.mapFields (·.setIfInBounds 3 ((none:Option Addr).elim Value.none fun f=>rawInt f)))).get? b=s.heap.get? b :=
  fun b hb=>get?_update_other _ _ (Ne.symm hb)
 have noRecord:∀ b o,s.heap.get? b=some o->(∀ vs,o.data≠.fields vs)->b≠T:=fun b o hb hnf q=>by
  rw [q,hT] at hb;injection hb with hb;subst hb;exact hnf ts hdT
 unfold setFlight;refine wpAny_bind (wpAny_field he hd h1 ?_);rw [if_pos (show (Value.ref T != Value.none)=true from by simp)];refine wpAny_setField hT hdT hsz3 (h _ (fun b o hbo=>(other b fun q=>by rw [q,hnT] at hbo;cases hbo).trans (hkb b o hbo))
  (hl.of_keeps fun b o hb hnf=>⟨o,(other b (noRecord b o hb hnf)).trans hb,rfl⟩) ?_ (fun b o hb hnf=>(other b (fun z=>hnf (by simp [z]))).trans hb) (size_update ..))
 exact ⟨oe,vs,_,_,(other e (Ne.symm hTe)).trans he,hcls,hdct,hd,h1,hnT,hTe,get?_update_self _ hT (Obj.isFreed_of_fields (Obj.data_mapFields hdT _)),Obj.data_mapFields hdT _,by simp [hsz3]⟩
theorem Z1i {env:Env} {L T:Addr} {Q:Unit->Shared->Prop}
  (hfr:A.frames=some (env::outer)) (hl:s.heap.FunFrames base (env::outer)) (hf:env.frame=some L) (ht:Im s.heap base e T cls dct .none) (hkb:base.StaysIn s.heap) (hen:base.get? e=none)
  (h:∀ h' T',s.heap.objs.size<=T'->base.StaysIn h'->h'.FunFrames base (env::outer)->Im h' base e T' cls dct (rawInt L)->Nj (env::outer) [e,T] s.heap h'->s.heap.objs.size<=h'.objs.size->Q () { s with heap:=h' }):wpAny M A (noteFrame (.ref e) env) Q E s:=by
 obtain ⟨oe,vs,oT,ts,he,hcls,hdct,hd,h1,hnT,hTe,hT,hdT,h3⟩:=ht;subst hcls hdct;unfold noteFrame;simp only [hf];refine wpAny_bind (wpAny_field he hd h1 ?_);rw [if_pos (show (Value.ref T != Value.none)=true from by simp)];refine wpAny_bind (wpAny_field hT hdT h3 ?_);rw [if_neg (show ¬ ((Value.none==rawInt L)=true) from by simp [rawInt])];refine wpAny_bind (wpAny_setField hT hdT (Array.getElem?_eq_some_iff.mp h3).1 ?_);have other:∀ b,b≠T->(s.heap.update T (Obj.mapFields (·.setIfInBounds 3 Value.none))).get? b=s.heap.get? b:=fun b hb=>get?_update_other _ _ (Ne.symm hb)
 have noRecord:∀ b o,s.heap.get? b=some o->(∀ vs,o.data≠.fields vs)->b≠T:=fun b o hb hnf q=>by
  rw [q,hT] at hb;injection hb with hb;subst hb;exact hnf ts hdT
 have hsz:(s.heap.update T (Obj.mapFields (·.setIfInBounds 3 Value.none))).objs.size=s.heap.objs.size:=size_update ..;refine Z7z (s:={ s with heap:=s.heap.update T (Obj.mapFields (·.setIfInBounds 3 Value.none)) }) hfr (hl.of_keeps fun b o hb hnf=>⟨o,(other b (noRecord b o hb hnf)).trans hb,rfl⟩) hf ((other e (Ne.symm hTe)).trans he)
  (fun b o hbo=>(other b fun q=>by rw [q,hnT] at hbo;cases hbo).trans (hkb b o hbo)) hen hd (Array.getElem?_eq_some_iff.mp h1).1
  fun h' T' x0 x1 x2 x3 x4 x5=>h h' T' (by rw [← hsz];exact x0) x1 x2 x3 (fun b o hb hc=>?_) (by rw [← hsz];exact x5)
 have hbT:b≠T:=fun z=>hc (by simp [z])
 exact x4 b o ((other b hbT).trans hb) (fun z=>hc (by simp at z;simp [z]))
theorem Md {env:Env} {L:Addr} {vs:Array Value} {Q:Unit->Shared->Prop}
  (hfr:A.frames=some (env::outer)) (hl:s.heap.FunFrames base (env::outer)) (hf:env.frame=some L)
  (he:s.heap.get? e=some oe) (hkb:base.StaysIn s.heap) (hen:base.get? e=none) (hd:oe.data=.fields vs) (h1:vs[1]?=some .none)
  (h:∀ h' T',s.heap.objs.size<=T'->base.StaysIn h'->h'.FunFrames base (env::outer)->Im h' base e T' (oe.cls,vs[2]?) oe.dict (rawInt L)->Nj (env::outer) [e] s.heap h'->s.heap.objs.size<=h'.objs.size->Q () { s with heap:=h' }):wpAny M A (noteFrame (.ref e) env) Q E s:=by
 unfold noteFrame;simp only [hf];refine wpAny_bind (wpAny_field he hd h1 ?_);rw [if_neg (by decide)];exact Z7z hfr hl hf he hkb hen hd (Array.getElem?_eq_some_iff.mp h1).1 h
theorem Xq {env:Env} {L:Addr} {vs:Array Value} {Q:Unit->Shared->Prop}
  (hfr:A.frames=some (env::outer)) (hl:s.heap.FunFrames base (env::outer)) (hf:env.frame=some L)
  (he:s.heap.get? e=some oe) (hkb:base.StaysIn s.heap) (hen:base.get? e=none) (hd:oe.data=.fields vs) (h1:vs[1]?=some .none)
  (h:∀ h' T',s.heap.objs.size<=T'->base.StaysIn h'->h'.FunFrames base (env::outer)->Im h' base e T' (oe.cls,vs[2]?) oe.dict .none->Nj (env::outer) [e] s.heap h'->Q () { s with heap:=h' }):wpAny M A (leaving env (.ref e)) Q E s:=by
 unfold leaving;refine wpAny_bind (Md hfr hl hf he hkb hen hd h1 fun h' T' x0 x1 x2 x3 x4 x5=>?_);refine Kp (s:={ s with heap:=h' }) x1 x2 x3 fun h2 y1 y2 y3 y4 y5=>h h2 T' x0 y1 y2 y3 (fun b o hb hc=>?_)
 obtain ⟨k1,sl,k2⟩:=x4 b o hb hc;have hbT:b∉[T']:=fun z=>by
  have e1:b=T':=by simpa using z
  have e2:=lt_size hb;rw [e1] at e2;exact absurd (lt_of_lt_of_le e2 x0) (lt_irrefl _)
 exact ⟨fun hfr'=>y4 b o (k1 hfr') hbT,sl,y4 b _ k2 hbT⟩
theorem Zd6 {env:Env} {L T:Addr} {Q:Unit->Shared->Prop}
  (hfr:A.frames=some (env::outer)) (hl:s.heap.FunFrames base (env::outer)) (hf:env.frame=some L) (ht:Im s.heap base e T cls dct .none) (hkb:base.StaysIn s.heap) (hen:base.get? e=none)
  (h:∀ h' T',s.heap.objs.size<=T'->base.StaysIn h'->h'.FunFrames base (env::outer)->Im h' base e T' cls dct .none->Nj (env::outer) [e,T] s.heap h'->Q () { s with heap:=h' }):wpAny M A (leaving env (.ref e)) Q E s:=by
 unfold leaving;refine wpAny_bind (Z1i hfr hl hf ht hkb hen fun h' T' x0 x1 x2 x3 x4 x5=>?_);refine Kp (s:={ s with heap:=h' }) x1 x2 x3 fun h2 y1 y2 y3 y4 y5=>h h2 T' x0 y1 y2 y3 (fun b o hb hc=>?_)
 obtain ⟨k1,sl,k2⟩:=x4 b o hb hc;have hbT:b∉[T']:=fun z=>by
  have e1:b=T':=by simpa using z
  have e2:=lt_size hb;rw [e1] at e2;exact absurd (lt_of_lt_of_le e2 x0) (lt_irrefl _)
 exact ⟨fun hfr'=>y4 b o (k1 hfr') hbT,sl,y4 b _ k2 hbT⟩
end
inductive Fl where
 | next (env:Ev) | ret (d:Dat) | brk (env:Ev) | cont (env:Ev) | exc (env:Ev) (c:Str) (fs:List (Str×XD)) | no
def NwT (K:Zzy) (B:Bs) (H':Hp) (d:Dat) (v:V):Prop:=∀ ds,d=.lst ds->∃ p vs,v=.ref p/\B.H₀ p=none/\H' p=some (.lst vs)/\ds.length<=sizeLine/\W5 K (av H' (ins B.R p)) ds vs
structure XSt (X:Cx) (pins:Zzx) (H:Hp) (h:Heap) (e C:Addr) (dct:Option Addr):Prop where
 lo:X.s₀.heap.objs.size<=e
 un:H e=none
 ob:(∃ o vs,h.get? e=some o/\o.cls=.ref C/\o.dict=dct/\o.data=.fields vs/\vs[1]?=some .none/\(X.pl=true->vs[2]?=some .none))\/∃ T c2,X.s₀.heap.objs.size<=T/\H T=none/\(∀ p∈X.pn++pins,p.1≠T)/\Im h X.base e T (.ref C,c2) dct .none/\(X.pl=true->c2=some .none)
 pe:∀ p∈X.pn++pins,p.1≠e
def F7 (H0 H:Hp) (dct:Option Addr):Prop:=∀ dx,dct=some dx->H0 dx=none/\∀ fvs f a,H dx=some (.xd fvs)->fvs.lookup f=some (.ref a)->H0 a=none/\∃ xs,H a=some (.lst xs)
theorem F7.mono (h:F7 H1 H dct) (m:∀ b,H1 b=none->H0 b=none):F7 H0 H dct:=fun dx e=>⟨m _ (h dx e).1,fun fvs f a q l=>((h dx e).2 fvs f a q l).imp (m _) id⟩
theorem O1 {fvs:List (Str×V)} (h1:H0 dx=none) (h2:H dx=some (.xd fvs)) (h3:∀ f a,(f,V.ref a)∈fvs->H0 a=none/\∃ xs,H a=some (.lst xs)):F7 H0 H (some dx):=fun dx' e=>by
 cases e;refine ⟨h1,fun fvs' f a q l=>?_⟩;rw [h2] at q;cases q;exact h3 f a (PySem.mem_of_lookup l)
theorem Z60:F7 H0 H none:=fun dx e=>by cases e
theorem Zo.none (s:Zo H H') (h:H' b=none):H b=none:=by
 cases q:H b with
 | none=>rfl
 | some o=>rw [s b o q] at h;cases h
def XW (X:Cx) (H0:Hp) (A:AS) (H:Hp) (σ:St) (c:Str) (fs:List (Str×XD)):Prop :=
 ∀ (pins:Zzx) (s:Shared) (e C:Addr) (dct:Option Addr),Inv X pins σ H s->U3 X.K c C->XSt X pins H s.heap e C dct->Ab X.K (av H A) dct fs->F7 H0 H dct->X.xe (.ref e) s
def E6 (fr:Bool) (X:Cx) (B:Bs) (A:AS) (H:Hp) (D:Ends):Fl->Prop
 | .next env'=>∀ A' H' σ',Step A H A' H'->EnvOk X.K B A' H' σ' env'->D.nx σ' H'
 | .brk env'=>∀ A' H' σ',Step A H A' H'->EnvOk X.K B A' H' σ' env'->D.bk σ' H'
 | .cont env'=>∀ A' H' σ',Step A H A' H'->EnvOk X.K B A' H' σ' env'->D.ct σ' H'
 | .ret d=>∀ v H',Zo B.H₀ H'->Rp X.K (av H' B.R) d v->(fr=true->NwT X.K B H' d v)->D.rt v H'
 | .exc env' c fs=>∀ A' H' σ',Step A H A' H'->EnvOk X.K B A' H' σ' env'->XW X B.H₀ A' H' σ' c fs
 | .no=>False
def tS (fr:Bool) (X:Cx) (g:Ev->Fl):TS:=fun D σ H=>∃ env B A,EnvOk X.K B A H σ env/\B.st=true/\E6 fr X B A H D (g env)
def E8 (fr:Bool) (X:Cx) (st:Stmt) (g:Ev->Fl):Prop:=PS X st (tS fr X g)
def On (fr:Bool) (X:Cx) (st:List Stmt) (g:Ev->Fl):Prop:=Dh X st (tS fr X g)
theorem E6.step {B:Bs} {A A':AS} {D:Ends} {r:Fl} (h:E6 fr X B A H D r) (s:Step A H A' H'):E6 fr X B A' H' D r:=by
 cases r with
 | next e=>exact fun A2 H2 σ2 s2 k=>h A2 H2 σ2 (s.trans s2) k
 | brk e=>exact fun A2 H2 σ2 s2 k=>h A2 H2 σ2 (s.trans s2) k
 | cont e=>exact fun A2 H2 σ2 s2 k=>h A2 H2 σ2 (s.trans s2) k
 | ret d=>exact h
 | exc e c fs=>exact fun A2 H2 σ2 s2 k=>h A2 H2 σ2 (s.trans s2) k
 | no=>exact h
section
variable {fr m:Bool} {X:Cx} {st:Stmt} {rest a b:List Stmt} {e c:Expr} {g h:Ev->Fl} {f:Zzu} {fs:Zzv} {t:Ev->Option Bool} {pos:Pos}
def Qq:Ev->Fl:=fun env=>.next env
def Zf (g h:Ev->Fl):Ev->Fl:=fun env=>match g env with
 | .next env'=>h env'
 | r=>r
theorem Vi:On fr X [] Qq:=Z9e.weak fun D σ H ⟨env,B,A,k,hst,q⟩=>q A H σ (Step.refl A H) k
theorem Zb (h1:E8 fr X st g) (h2:On fr X rest h):On fr X (st::rest) (Zf g h):=(Uz h1 h2).weak fun D σ H zz=>by
 obtain ⟨env,B,A,k,hst,q⟩:=zz;refine ⟨env,B,A,k,hst,?_⟩;unfold Zf at q;split at q
 ·rename_i env' e
  rw [e];exact fun A' H' σ' s k'=>⟨env',B,A',k',hst,q.step s⟩
 ·rename_i r hn
  cases e:g env with
  | next env'=>exact absurd e (hn env')
  | brk e'=>rw [e] at q;exact q
  | cont e'=>rw [e] at q;exact q
  | ret d=>rw [e] at q;exact q
  | exc e' c fs=>rw [e] at q;exact q
  | no=>rw [e] at q;exact q
theorem Zj (h1:E8 fr X st g):On fr X [st] g:=Di h1
theorem Zcz:E8 fr X (.Continue pos) (fun env=>.cont env):=By.weak fun D σ H ⟨env,B,A,k,hst,q⟩=>q A H σ (Step.refl A H) k
def Ec (t:Ev->Option Bool) (g h:Ev->Fl):Ev->Fl:=fun env=>match t env with
 | some true=>g env
 | some false=>h env
 | none=>.no
theorem Jt (hc:PTd X c t) (ha:On fr X a g) (hb:On fr X b h):E8 fr X (.If c a b pos) (Ec t g h):=(Zbb hc ha hb).weak fun D σ H zz=>by
 obtain ⟨env,B,A,k,hst,q⟩:=zz;unfold Ec at q;split at q
 ·rename_i e
  refine ⟨env,B,A,true,k,e,fun H' s=>?_⟩;exact Za5 ⟨env,B,A,k.mono s,hst,q.step (Step.same s)⟩
 ·rename_i e
  refine ⟨env,B,A,false,k,e,fun H' s=>?_⟩;exact Z9n ⟨env,B,A,k.mono s,hst,q.step (Step.same s)⟩
 ·exact q.elim
def P9 (f:Zzu):Ev->Fl:=fun env=>match f env with
 | some _=>.next env
 | none=>.no
theorem Z5r (he:Wj m X e f) (hs:swapsWith e none pos.line X.env=pure false:=by rfl):E8 fr X (.Expr e pos) (P9 f):=(Jb he hs).weak fun D σ H zz=>by
 obtain ⟨env,B,A,k,hst,q⟩:=zz;unfold P9 at q;split at q
 ·rename_i d e
  exact ⟨env,B,A,d,k,e,fun v H' s _=>q A H' σ (Step.same s) (k.mono s)⟩
 ·exact q.elim
def Yk (f:Zzu):Ev->Fl:=fun env=>match f env with
 | some d=>.ret d
 | none=>.no
theorem Fv {B:Bs} {A:AS} {env:Ev} {d:Dat} (k:EnvOk X.K B A H σ env) (s:Zo H H') (r:Rp X.K (av H' A) d v):Zo B.H₀ H'/\Rp X.K (av H' B.R) d v:=⟨k.h0.trans s,r.mono (Q8 k.ra)⟩
theorem Yj (he:Wj false X e f):E8 false X (.Return (some e) pos) (Yk f):=(Fp he).weak fun D σ H zz=>by
 obtain ⟨env,B,A,k,hst,q⟩:=zz;unfold Yk at q;split at q
 ·rename_i d e
  exact ⟨env,B,A,d,k,e,fun v H' s r=>q v H' (Fv k s r).1 (Fv k s r).2 (fun z=>by cases z)⟩
 ·exact q.elim
theorem Zdo {B:Bs} {A:AS} {env:Ev} {ds:List Dat} {p:Addr} (k:EnvOk X.K B A H σ env) (hz:ds.length<=sizeLine) (s:Zo H H') (hn:H p=none) (hp:H' p=some (.lst vs)) (r:W5 X.K (av H' (ins A p)) ds vs):B.H₀ p=none/\B.R p=false/\W5 X.K (av H' (ins B.R p)) ds vs:=by
 have h0:B.H₀ p=none:=k.h0.free hn;refine ⟨h0,?_,r.mono (Q8 fun a ha=>?_)⟩
 ·cases q:B.R p with
  | false=>rfl
  | true=>obtain ⟨o,ho⟩:=k.r0 p q;rw [h0] at ho;cases ho
 ·rcases Nv ha with z | z
  ·exact Iu (k.ra a z)
  ·subst z;exact Cj
theorem Rt (he:PNd X e fs):E8 fr X (.Return (some e) pos) (Yk (dL fs)):=(Fp he).weak fun D σ H zz=>by
 obtain ⟨env,B,A,k,hst,q⟩:=zz;unfold Yk at q;split at q
 ·rename_i d e
  obtain ⟨ds,e1,e2⟩:=map_some e;subst e2;refine ⟨env,B,A,ds,k,e1,fun p vs H' hz s hn hp r=>?_⟩;obtain ⟨h1,h2,h3⟩:=Zdo k hz s hn hp r;refine q (.ref p) H' (k.h0.trans s) (Kf hz (.inl (.inl (Wn hp h2))) (h3.mono (Q8 fun a ha=>Iu ha))) fun _ ds' ed=>?_
  cases ed;exact ⟨p,vs,rfl,h1,hp,hz,h3⟩
 ·exact q.elim
theorem N5 {env:Ev} {s:Slt} (h:∀ (j:Nat) d,env[j]?≠some (.pk d)) (hs:∀ d,s≠.pk d):∀ (j:Nat) d,(env.set i s)[j]?≠some (.pk d):=fun j d=>by
 rw [getElem?_set];split
 ·split
  ·intro z;exact hs d (Option.some.inj z)
  ·intro z;cases z
 ·exact h j d
theorem EnvOk.own {B:Bs} {A:AS} {env:Ev} {ds:List Dat} (k:EnvOk K B A H σ env) (hst:B.st=true) (h:env[i]?=some (.ow ds)) :
  ∃ a vs,σ[i]?=some (some (.ref a))/\H a=some (.lst vs)/\W5 K (av H A) ds vs/\ds.length<=sizeLine/\A a=true/\B.R a=false/\B.H₀ a=none /\
   (∀ ds' vs',ds'.length<=sizeLine->W5 K (av H A) ds' vs'->Step A H A (Yn H a (.lst vs'))/\EnvOk K B A (Yn H a (.lst vs')) σ (env.set i (.ow ds'))) /\
   Step A H (fun b=>A b&&b != a) H/\EnvOk K B (fun b=>A b&&b != a) H σ (env.set i (.fz (.lst ds))):=by
 obtain ⟨own,h1,h2,h4⟩:=k.sl;obtain ⟨x,q1,a,vs,e1,e2,hz,e3,e4⟩:=h4 i _ h;subst e1;obtain ⟨hA,hR⟩:=h2 i a e2;have h0:B.H₀ a=none:=by
  rcases k.ar a hA with z | z
  ·rw [z] at hR;cases hR
  ·exact z
 have avs:∀ vs',Zo (av H A) (av (Yn H a (.lst vs')) A):=fun vs' b o e=>by
  obtain ⟨z1,z2⟩:=Qd e;have hb:b≠a:=by intro z;rw [z,hA] at z1;cases z1
  exact Wn (by rw [Za hb];exact z2) z1
 refine ⟨a,vs,q1,e3,e4,hz,hA,hR,h0,fun ds' vs' hz' r'=>⟨⟨fun b o hb hAb=>?_,fun b hb=>.inl hb⟩,?_⟩,⟨fun b o hb _=>hb,fun b hb=>.inl ?_⟩,?_⟩
 ·have hn:b≠a:=by intro z;rw [z,hA] at hAb;cases hAb
  rw [Za hn];exact hb
 ·refine ⟨fun b o hb=>?_,k.r0,k.ra,k.ar,fun b hb=>?_,by rw [length_set];exact k.len,fun hs j d'=>N5 (k.np hs) (fun _ z=>by cases z) j d',own,h1,h2,fun j s e=>?_⟩
  ·have hn:b≠a:=Y4 hb h0
   rw [Za hn];exact k.h0 b o hb
  ·by_cases hn:b=a
   ·subst hn;rw [Zg];trivial
   ·rw [Za hn];exact k.mu b hb
  ·by_cases hj:i=j
   ·subst hj
    rw [getElem?_set,if_pos rfl] at e;split at e
    ·cases e
     exact ⟨_,q1,a,vs',rfl,e2,hz',Zg,r'.mono (avs vs')⟩
    ·cases e
   ·rw [getElem?_set,if_neg hj] at e
    obtain ⟨x,p1,p2⟩:=h4 j s e;refine ⟨x,p1,?_⟩;cases s with
    | un=>trivial
    | fz d=>obtain ⟨v,z1,z2⟩:=p2;exact ⟨v,z1,z2.mono (avs vs')⟩
    | pk d =>
     exact absurd e (k.np hst j d)
    | ow es =>
     obtain ⟨b,us,z1,z2,z3,z4,z5⟩:=p2;have hn:b≠a:=fun z=>hj (h1 i j a e2 (z▸z2))
     exact ⟨b,us,z1,z2,z3,by rw [Za hn];exact z4,z5.mono (avs vs')⟩
    | gx g =>
     obtain ⟨v,z1,z2⟩:=p2;exact ⟨v,z1,z2.frame (fun _ z=>z) (fun b x ob z=>by
      have hn:b≠a:=fun w=>hj (h1 i j a e2 (w▸ob))
      rw [Za hn];exact z) (avs vs')⟩
 ·rw [Bool.and_eq_true] at hb;exact hb.1
 ·have less:Zo (av H A) (av H fun b=>A b&&b != a):=Q8 fun b hb=>by rw [Bool.and_eq_true] at hb;exact hb.1
  refine ⟨k.h0,k.r0,fun b hb=>?_,fun b hb=>?_,fun b hb=>?_,by rw [length_set];exact k.len,fun hs j d'=>N5 (k.np hs) (fun _ z=>by cases z) j d',fun j b=>j≠i/\own j b,fun j j' b z z'=>h1 j j' b z.2 z'.2,fun j b z=>?_,fun j s e=>?_⟩
  ·have hn:b≠a:=by intro z;rw [z,hR] at hb;cases hb
   simp [k.ra b hb,hn]
  ·rw [Bool.and_eq_true] at hb;exact k.ar b hb.1
  ·rw [Bool.and_eq_true] at hb;exact k.mu b hb.1
  ·have hn:b≠a:=fun w=>z.1 (h1 j i a (w▸z.2) e2)
   simp [(h2 j b z.2).1,(h2 j b z.2).2,hn]
  ·by_cases hj:i=j
   ·subst hj
    rw [getElem?_set,if_pos rfl] at e;split at e
    ·cases e
     exact ⟨_,q1,.ref a,rfl,Kf hz (.inl (.inl (Wn e3 (by simp)))) (e4.mono less)⟩
    ·cases e
   ·rw [getElem?_set,if_neg hj] at e
    obtain ⟨x,p1,p2⟩:=h4 j s e;refine ⟨x,p1,?_⟩;cases s with
    | un=>trivial
    | fz d=>obtain ⟨v,z1,z2⟩:=p2;exact ⟨v,z1,z2.mono less⟩
    | pk d =>
     obtain ⟨v,z1,z2⟩:=p2;refine ⟨v,z1,?_⟩;rcases z2 with z2 | ⟨b,us,es,y1,y2,y3,y4,y5⟩ | z2
     ·exact .inl (z2.mono less)
     ·exact .inr (.inl ⟨b,us,es,y1,y2,y3,y4,y5.mono less⟩)
     ·exact .inr (.inr z2)
    | ow es =>
     obtain ⟨b,us,z1,z2,z3,z4,z5⟩:=p2;exact ⟨b,us,z1,⟨Ne.symm hj,z2⟩,z3,z4,z5.mono less⟩
    | gx g =>
     obtain ⟨v,z1,z2⟩:=p2;exact ⟨v,z1,z2.frame (fun _ z=>⟨Ne.symm hj,z⟩) (fun _ _ _ z=>z) less⟩
def Ik (i:Nat):Ev->Fl:=fun env=>match env[i]? with
 | some (.ow ds)=>.ret (.lst ds)
 | _=>.no
theorem N7 (i:Nat) {x:Str} (hN:X.N[i]?=some x:=by rfl) (hv:Vis X.env.scope x:=by first | exact Or.inl rfl | exact Or.inr (Or.inl rfl) | exact Or.inr (Or.inr rfl)) (hd:(x==("__debug__" : Str))=false:=by decide)
  (hcd:(x==("__classdict__" : Str))=false:=by decide):E8 fr X (.Return (some (.Name x p)) pos) (Ik i):=(Fp (Qs hN hv hd hcd)).weak fun D σ H zz=>by
 obtain ⟨env,B,A,k,hst,q⟩:=zz;unfold Ik at q;split at q
 ·rename_i ds e
  obtain ⟨a,vs,h1,h2,h3,hz,hA,hR,h0,_⟩:=k.own hst e;have less:∀ b,ins B.R a b=true->A b=true:=fun b hb=>by
   rcases Nv hb with z | z
   ·exact k.ra b z
   ·rw [z];exact hA
  have r:=h3.mono (Q8 (H:=H) less);refine ⟨.ref a,h1,q (.ref a) H k.h0 (Kf hz (.inl (.inl (Wn h2 hR))) (r.mono (Q8 fun b hb=>Iu hb))) fun _ ds' ed=>?_⟩;cases ed;exact ⟨a,vs,rfl,h0,h2,hz,r⟩
 ·exact q.elim
def Y3 (i:Nat) (f:Zzu):Ev->Fl:=fun env=>match f env with
 | some d=>.next (env.set i (.fz d))
 | none=>.no
def D6 (i:Nat) (f:Zzv):Ev->Fl:=fun env=>match f env with
 | some ds=>.next (env.set i (.ow ds))
 | none=>.no
theorem EnvOk.putO {B:Bs} {A:AS} {env:Ev} (k:EnvOk K B A H σ env) (hst:B.st=true) (i:Nat) {ds:List Dat} {p:Addr} (hz:ds.length<=sizeLine) (s:Zo H H') (hn:H p=none) (hp:H' p=some (.lst vs)) (r:W5 K (av H' (ins A p)) ds vs) :
  Step A H (ins A p) H'/\EnvOk K B (ins A p) H' (σ.set i (some (.ref p))) (env.set i (.ow ds)):=by
 have st:Step A H (ins A p) H':=⟨fun a o h _=>s a o h,fun a h=>by
  rcases Nv h with z | z
  ·exact .inl z
  ·rw [z];exact .inr hn⟩
 have hAp:A p=false:=k.mu.new hn;have h0:B.H₀ p=none:=k.h0.free hn;obtain ⟨own,h1,h2,h4⟩:=k.sl;refine ⟨st,k.h0.trans s,k.r0,fun a h=>Iu (k.ra a h),fun a h=>?_,fun a h=>?_,by rw [length_set,length_set];exact k.len,fun hs j d'=>N5 (k.np hs) (fun _ z=>by cases z) j d',
  fun j a=>(j≠i/\own j a)\/(j=i/\a=p),fun j j' a z z'=>?_,fun j a z=>?_,fun j sl e=>?_⟩
 ·rcases Nv h with z | z
  ·exact k.ar a z
  ·rw [z];exact .inr h0
 ·rcases Nv h with z | z
  ·exact k.mu.mono s a z
  ·rw [z,hp];trivial
 ·rcases z with z | z<;>rcases z' with z' | z'
  ·exact h1 j j' a z.2 z'.2
  ·have:=(h2 j a z.2).1;rw [z'.2,hAp] at this;cases this
  ·have:=(h2 j' a z'.2).1;rw [z.2,hAp] at this;cases this
  ·rw [z.1,z'.1]
 ·rcases z with z | z
  ·exact ⟨Iu (h2 j a z.2).1,(h2 j a z.2).2⟩
  ·refine ⟨by rw [z.2];exact Cj,?_⟩
   cases q:B.R a with
   | false=>rfl
   | true=>obtain ⟨o,ho⟩:=k.r0 a q;rw [z.2,h0] at ho;cases ho
 ·by_cases hj:i=j
  ·subst hj
   rw [getElem?_set,if_pos rfl] at e;split at e
   ·rename_i hl
    cases e;exact ⟨some (.ref p),by rw [getElem?_set,if_pos rfl,if_pos (by rw [k.len];exact hl)],p,vs,rfl,.inr ⟨rfl,rfl⟩,hz,hp,r⟩
   ·cases e
  ·rw [getElem?_set,if_neg hj] at e
   obtain ⟨x,p1,p2⟩:=h4 j sl e;refine ⟨x,by rw [getElem?_set,if_neg hj];exact p1,?_⟩;cases sl with
   | un=>trivial
   | fz d=>obtain ⟨v,z1,z2⟩:=p2;exact ⟨v,z1,z2.mono st.av⟩
   | pk d=>exact absurd e (k.np hst j d)
   | ow es =>
    obtain ⟨b,us,z1,z2,z3,z4,z5⟩:=p2;exact ⟨b,us,z1,.inl ⟨Ne.symm hj,z2⟩,z3,s _ _ z4,z5.mono st.av⟩
   | gx g =>
    obtain ⟨v,z1,z2⟩:=p2;exact ⟨v,z1,z2.frame (fun _ z=>.inl ⟨Ne.symm hj,z⟩) (fun b x _ z=>s b x z) st.av⟩
theorem Zr (i:Nat) {x:Str} (hN:X.N.Nodup) (hi:X.N[i]?=some x) (hx:B2 X.env.scope x) (he:Wj false X e f) (hs:swapsWith e (some (.Name x pos')) pos.line X.env=pure false:=by rfl)
  (hf:X.fn x=true\/X.env.scope.names.lookup x=some .local:=by first | exact .inl rfl | exact .inr rfl | assumption):E8 fr X (.Assign [.Name x pos'] e pos) (Y3 i f):=(Ip hN hi hx he hs hf).weak fun D σ H zz=>by
 obtain ⟨env,B,A,k,hst,q⟩:=zz;unfold Y3 at q;split at q
 ·rename_i d e
  exact ⟨env,B,A,d,k,e,fun v H' s r=>q A H' _ (Step.same s) ((k.mono s).put i r)⟩
 ·exact q.elim
theorem Ek (i:Nat) {x:Str} (hN:X.N.Nodup) (hi:X.N[i]?=some x) (hx:B2 X.env.scope x) (he:PNd X e fs) (hs:swapsWith e (some (.Name x pos')) pos.line X.env=pure false:=by rfl)
  (hf:X.fn x=true\/X.env.scope.names.lookup x=some .local:=by first | exact .inl rfl | exact .inr rfl | assumption):E8 fr X (.Assign [.Name x pos'] e pos) (D6 i fs):=(Ip hN hi hx he hs hf).weak fun D σ H zz=>by
 obtain ⟨env,B,A,k,hst,q⟩:=zz;unfold D6 at q;split at q
 ·rename_i ds e
  refine ⟨env,B,A,ds,k,e,fun p vs H' hz s hn hp r=>?_⟩;obtain ⟨h1,h2⟩:=k.putO hst i hz s hn hp r;exact q _ H' _ h1 h2
 ·exact q.elim
variable {sc:Scope} {elt tg iter:Expr} {ifs:List Expr} {src:Zzv} {is:List Nat} {gg:Dat->Ev->Option Ev} {tt:Ev->Option Bool}
theorem Zc8 (i:Nat) {x:Str} (hN:X.N.Nodup) (hi':X.N[i]?=some x) (hx:B2 X.env.scope x) (psc:Scope) (fs:List (Option Nat)) (N:List Str) (hp:X.env.scope=psc) (S:CompOk psc sc X.N N fs) (hc:X.calm=true) (hi:PId false X tg iter src)
  (hb:∀ (C:Addr) (s:Shared) (H:Hp) (fp:List Addr),PGd is (Wl X sc N C s H fp) tg gg/\PFd (Wl X sc N C s H fp) ifs tt/\Wj false (Wl X sc N C s H fp) elt f)
  (hfs:∀ i∈is,fs[i]?=some none) (hs:∀ x,foldedSetIterable iter X.env x=pure x:=by intro _;rfl) (hsw:swapsWith (.ListComp elt [⟨tg,iter,ifs,0⟩] sc pos) (some (.Name x pos')) spos.line X.env=pure true:=by rfl)
  (hf:X.fn x=true\/X.env.scope.names.lookup x=some .local:=by first | exact .inl rfl | exact .inr rfl | assumption) :
  E8 fr X (.Assign [.Name x pos'] (.ListComp elt [⟨tg,iter,ifs,0⟩] sc pos) spos) (D6 i (Vm src fs gg tt f)):=(Ga (g:=fun v σ H Q=>∃ env R A d env',EnvOk X.K R A H σ env/\Rp X.K (av H A) d v/\gg d env=some env'/\∀ σ',EnvOk X.K R A H σ' env'->Hf is σ σ'->Q σ' H) (tt:=fun σ H Q=>∃ env R A b,EnvOk X.K R A H σ env/\tt env=some b/\∀ H',Zo H H'->Q b H') (te:=fun σ H Q=>∃ env R A d,EnvOk X.K R A H σ env/\f env=some d/\Qn false X.K A H d Q) hN hi' hx psc fs N hp S hc hi hb hs hsw hf).weak fun D σ H zz=>by
 obtain ⟨env,B,A,k,hst,q⟩:=zz;unfold D6 at q;split at q
 ·rename_i ys e
  obtain ⟨ds,e1,e2⟩:=bind_some e;refine ⟨env,B,A,ds,k,e1,fun J H1 hz s1 hJ=>Xc (Q:=fun v H'=>D.nx (σ.set i (some v)) H') hfs (k.mono s1) hJ hz e2 fun p vs H' hz' s hn hp r=>?_⟩;obtain ⟨h1,h2⟩:=k.putO hst i hz' (s1.trans s) (s1.free hn) hp r;exact q _ H' _ h1 h2
 ·exact q.elim
theorem A6 (i:Nat) {x:Str} (hN:X.N.Nodup) (hi':X.N[i]?=some x) (hx:B2 X.env.scope x) (psc:Scope) (fs:List (Option Nat)) (N:List Str) (hp:X.env.scope=psc) (S:CompOk psc sc X.N N fs) (hc:X.calm=true) (hi:PId false X tg iter src)
  (hb:∀ (C:Addr) (s:Shared) (H:Hp) (fp:List Addr),PGd is (Wl X sc N C s H fp) tg gg/\PFd (Wl X sc N C s H fp) ifs tt/\Wj false (Wl X sc N C s H fp) elt f)
  (hfs:∀ i∈is,fs[i]?=some none) (hs:∀ x,foldedSetIterable iter X.env x=pure x:=by intro _;rfl) (hsw:swapsWith (.ListComp elt [⟨tg,iter,ifs,0⟩] sc pos) (some (.Name x pos')) spos.line X.env=pure true:=by rfl)
  (hf:X.fn x=true\/X.env.scope.names.lookup x=some .local:=by first | exact .inl rfl | exact .inr rfl | assumption) :
  E8 fr X (.Assign [.Name x pos'] (.ListComp elt [⟨tg,iter,ifs,0⟩] sc pos) spos) (Y3 i (dL (Vm src fs gg tt f))):=(Ga (g:=fun v σ H Q=>∃ env R A d env',EnvOk X.K R A H σ env/\Rp X.K (av H A) d v/\gg d env=some env'/\∀ σ',EnvOk X.K R A H σ' env'->Hf is σ σ'->Q σ' H) (tt:=fun σ H Q=>∃ env R A b,EnvOk X.K R A H σ env/\tt env=some b/\∀ H',Zo H H'->Q b H') (te:=fun σ H Q=>∃ env R A d,EnvOk X.K R A H σ env/\f env=some d/\Qn false X.K A H d Q) hN hi' hx psc fs N hp S hc hi hb hs hsw hf).weak fun D σ H zz=>by
 obtain ⟨env,B,A,k,hst,q⟩:=zz;unfold Y3 at q;split at q
 ·rename_i d e
  obtain ⟨ys,e',ed⟩:=map_some e;subst ed;obtain ⟨ds,e1,e2⟩:=bind_some e';have q':Qn false X.K A H (.lst ys) (fun v H'=>D.nx (σ.set i (some v)) H'):=fun v H' s r=>q A H' _ (Step.same s) ((k.mono s).put i r)
  exact ⟨env,B,A,ds,k,e1,fun J H1 hz s1 hJ=>Xc (Q:=fun v H'=>D.nx (σ.set i (some v)) H') hfs (k.mono s1) hJ hz e2 ((q'.new k.mu).mono s1)⟩
 ·exact q.elim
def L5 (g:Dat->Ev->Option Ev) (body:Ev->Fl):List Dat->Ev->Fl
 | [],env=>.next env
 | x::xs,env=>match g x env with
  | none=>.no
  | some env1=>match body env1 with
   | .next e=>L5 g body xs e
   | .cont e=>L5 g body xs e
   | .brk e=>.next e
   | .ret d=>.ret d
   | .exc e c fs=>.exc e c fs
   | .no=>.no
def Q1 (src:Zzv) (g:Dat->Ev->Option Ev) (body:Ev->Fl):Ev->Fl:=fun env=>match src env with
 | none=>.no
 | some ds=>L5 g body ds env
theorem U9 (hp:PassesOwn (model X.prog X.w) X.A X.env X.xe) (hc:X.calm=true) (hi:PId true X tg iter src) (hg:PGd is X tg gg) (hb:On fr X body g)
  (hs:∀ x,foldedSetIterable iter X.env x=pure x:=by intro _;rfl):E8 fr X (.For tg iter body [] pos) (Q1 src gg g):=(Zcf hp hc hi hg hb hs).weak fun D σ H zz=>by
 obtain ⟨env,B,A,k,hst,q⟩:=zz;unfold Q1 at q;split at q
 ·exact q.elim
 rename_i ds e;refine ⟨env,B,A,ds,k,e,fun J H1 hz s1 hJ=>?_⟩;refine ⟨fun i m σ' H'=>m=ds.length - i/\i<=ds.length/\∃ A' env',Step A H1 A' H'/\EnvOk X.K B A' H' σ' env'/\E6 fr X B A' H' D (L5 gg g (ds.drop i) env'),
  ⟨ds.length,by simp,zero_le _,A,env,Step.refl A H1,k.mono s1,by simpa using q.step (Step.same s1)⟩,?_⟩
 rintro i m σ' H' ⟨rfl,hi',A',env',s',k',q'⟩;obtain ⟨hgo,hstop⟩:=hJ A' H' s' k'.mu;by_cases hlt:i<ds.length
 ·obtain ⟨go,yl⟩:=hgo i _ (show ds[i]?=some ds[i] by simp [hlt])
  refine .inr ⟨go,fun σ2 H2=>i+1<=ds.length/\∃ A2 env2,Step A H1 A2 H2/\EnvOk X.K B A2 H2 σ2 env2/\E6 fr X B A2 H2 D (L5 gg g (ds.drop (i+1)) env2),fun σ2 H2 z=>⟨ds.length - (i+1),by lia,rfl,z⟩,fun x H2 hy=>?_⟩;obtain ⟨s2,rx⟩:=yl x H2 hy;rw [List.drop_eq_getElem_cons hlt,L5] at q';split at q'
  ·exact q'.elim
  rename_i env1 e1;refine ⟨env',B,A',ds[i],env1,k'.mono s2,rx,e1,fun σ3 k3 _=>⟨env1,B,A',k3,hst,?_⟩⟩;have st2:Step A' H' A' H2:=Step.same s2;split at q'
  ·rename_i e2 eb
   rw [eb];exact fun A4 H4 σ4 s4 k4=>⟨hlt,A4,e2,s'.trans (st2.trans s4),k4,q'.step (st2.trans s4)⟩
  ·rename_i e2 eb
   rw [eb];exact fun A4 H4 σ4 s4 k4=>⟨hlt,A4,e2,s'.trans (st2.trans s4),k4,q'.step (st2.trans s4)⟩
  ·rename_i e2 eb
   rw [eb];exact fun A4 H4 σ4 s4 k4=>q' A4 H4 σ4 (st2.trans s4) k4
  ·rename_i d eb
   rw [eb];exact q'
  ·rename_i e2 c2 f2 eb
   rw [eb];exact fun A4 H4 σ4 s4 k4=>q' A4 H4 σ4 (st2.trans s4) k4
  ·exact q'.elim
 ·have e:i=ds.length:=by lia
  subst e;rw [List.drop_length,L5] at q';exact .inl ⟨hstop,q' A' H' σ' (Step.refl _ _) k'⟩
def V3 (t:Ev->Option Bool) (body:Ev->Fl):Nat->Ev->Fl
 | 0,_=>.no
 | n+1,env=>match t env with
  | none=>.no
  | some false=>.next env
  | some true=>match body env with
   | .next e=>V3 t body n e
   | .cont e=>V3 t body n e
   | .brk e=>.next e
   | .ret d=>.ret d
   | .exc e c fs=>.exc e c fs
   | .no=>.no
theorem Uu {body:Ev->Fl}:∀ {n:Nat} {env:Ev} (k:Nat),V3 t body n env≠.no->V3 t body (n+k) env=V3 t body n env
 | 0,env,k,h=>absurd rfl h
 | n+1,env,k,h=>by
  rw [show n+1+k=(n+k)+1 by lia];simp only [V3] at h ⊢;split
  ·rfl
  ·rfl
  ·rename_i e1
   simp only [e1] at h;split
   ·rename_i e2 eb;simp only [eb] at h;exact Uu k h
   ·rename_i e2 eb;simp only [eb] at h;exact Uu k h
   ·rfl
   ·rfl
   ·rfl
   ·rfl
open Classical in
def Sw (t:Ev->Option Bool) (body:Ev->Fl):Ev->Fl:=fun env=>if h:∃ n,V3 t body n env≠.no then V3 t body (Classical.choose h) env else .no
theorem Pf {body:Ev->Fl} {n:Nat} {env:Ev} (h:V3 t body n env≠.no):Sw t body env=V3 t body n env:=by
 unfold Sw;have hx:∃ n,V3 t body n env≠.no:=⟨n,h⟩;rw [dif_pos hx];have hc:=Classical.choose_spec hx;have e1:=Uu n hc;have e2:=Uu (Classical.choose hx) h;rw [← e1,← e2,Nat.add_comm]
theorem Z1h (hp:PassesOwn (model X.prog X.w) X.A X.env X.xe) (hc:PTd X c t) (hb:On fr X body g):E8 fr X (.While c body [] pos) (Sw t g):=(Z7g hp hc hb).weak fun D σ H zz=>by
 obtain ⟨env,B,A,k,hst,q⟩:=zz;unfold Sw at q;split at q
 ·rename_i hx
  refine ⟨fun n σ' H'=>∃ A' env',EnvOk X.K B A' H' σ' env'/\E6 fr X B A' H' D (V3 t g n env'),⟨_,A,env,k,q⟩,?_⟩;rintro n σ' H' ⟨A',env',k',q'⟩;cases n with
  | zero=>exact q'.elim
  | succ n =>
   rw [V3] at q';split at q'
   ·exact q'.elim
   ·rename_i e1
    refine ⟨env',B,A',false,k',e1,fun H1 s1=>?_⟩;refine Z9n ?_;exact q' A' H1 σ' (Step.same s1) (k'.mono s1)
   ·rename_i e1
    refine ⟨env',B,A',true,k',e1,fun H1 s1=>?_⟩;refine Za5 ?_;refine ⟨fun σ2 H2=>∃ A2 env2,EnvOk X.K B A2 H2 σ2 env2/\E6 fr X B A2 H2 D (V3 t g n env2),fun σ2 H2 z=>⟨n,lt_succ_self n,z⟩,env',B,A',k'.mono s1,hst,?_⟩;have st2:Step A' H' A' H1:=Step.same s1;split at q'
    ·rename_i e2 eb
     rw [eb];exact fun A4 H4 σ4 s4 k4=>⟨A4,e2,k4,q'.step (st2.trans s4)⟩
    ·rename_i e2 eb
     rw [eb];exact fun A4 H4 σ4 s4 k4=>⟨A4,e2,k4,q'.step (st2.trans s4)⟩
    ·rename_i e2 eb
     rw [eb];exact fun A4 H4 σ4 s4 k4=>q' A4 H4 σ4 (st2.trans s4) k4
    ·rename_i d eb
     rw [eb];exact q'
    ·rename_i e2 c2 f2 eb
     rw [eb];exact fun A4 H4 σ4 s4 k4=>q' A4 H4 σ4 (st2.trans s4) k4
    ·exact q'.elim
 ·exact q.elim
def MtU (X:Cx) (id:String) (F:List Dat->List Dat->Option (List Dat)):Prop:=MtR X id (fun v us H Q=>∃ A a vs ds as ds',Ta A H/\v=.ref a/\H a=some (.lst vs)/\W5 X.K (av H A) ds vs/\Bk false X.K A H as us/\F ds as=some ds'/\∀ w vs',ds'.length<=sizeLine->W5 X.K (av H A) ds' vs'->Q w (Yn H a (.lst vs')))
def Sd (i:Nat) (F:List Dat->List Dat->Option (List Dat)) (fs:Zzv):Ev->Fl:=fun env=>match env[i]? with
 | some (.ow ds)=>match (fs env).bind fun as=>F ds as with
  | some ds'=>.next (env.set i (.ow ds'))
  | none=>.no
 | _=>.no
theorem D8 (i:Nat) {x:Str} {name:Str} {id:String} {F:List Dat->List Dat->Option (List Dat)} (slot:Slot "list" name id) (hty:typeOf (.builtin id)=pure (.type "method_descriptor")) (hm:MtU X id F) (ha:Oo false X (e::es) fs)
  (hN:X.N[i]?=some x:=by rfl) (hv:Vis X.env.scope x:=by first | exact Or.inl rfl | exact Or.inr (Or.inl rfl) | exact Or.inr (Or.inr rfl)) (hd:(x==("__debug__" : Str))=false:=by decide) (hcd:(x==("__classdict__" : Str))=false:=by decide)
  (hsw:swapsWith (.Call (.Attribute (.Name x p) name apos) (e::es) [] cpos) none pos.line X.env=pure false:=by rfl)
  (hbase:attributeBase (.Name x p) name X.env (eval (.Name x p) X.env)=eval (.Name x p) X.env:=by rfl)
  (hfew:((backTo cpos (starEach (e::es) X.env)).all (fun x=>!x.1)&&(backToKw cpos (keywordEach [] X.env)).all (fun x=>x.1.isSome)
   && decide ((e::es).length+([]:List Keyword).length+(if ([]:List Keyword).isEmpty then 0 else 1)<30))=true:=by rfl)
  (hline:(apos.endLine==cpos.line)=true:=by rfl) (hs:starEach (e::es) X.env=(false,eval e X.env)::starEach es X.env:=by rfl) (hplain:(backTo cpos (starEach es X.env)).any (·.1)=false:=by rfl) :
  E8 fr X (.Expr (.Call (.Attribute (.Name x p) name apos) (e::es) [] cpos) pos) (Sd i F fs):=(Jb (Z21 PySem.F.plainAttrs_list slot hty hm (Qs hN hv hd hcd) ha hbase hfew hline hs hplain) hsw).weak fun D σ H zz=>by
 obtain ⟨env,B,A,k,hst,q⟩:=zz;unfold Sd at q;split at q
 ·rename_i ds e
  split at q
  ·rename_i ds' e2
   obtain ⟨as,e3,e4⟩:=bind_some e2;obtain ⟨a,vs,h1,h2,h3,_⟩:=k.own hst e;refine ⟨.ref a,h1,.inl ⟨rfl,vs,Dy.of h2⟩,env,B,A,as,k,e3,fun us H2 s2 rs=>?_⟩;have k2:=k.mono s2;obtain ⟨a',vs',g1,g2,g3,_,_,_,_,g4,_⟩:=k2.own hst e;rw [h1] at g1;cases g1;refine ⟨A,a,vs',ds,as,ds',k2.mu,rfl,g2,g3,rs,e4,fun w vs2 hz r2=>?_⟩;obtain ⟨z1,z2⟩:=g4 ds' vs2 hz r2;exact q A _ σ ((Step.same s2).trans z1) z2
  ·exact q.elim
 ·exact q.elim
def Ua:List Dat->List Dat->Option (List Dat)
 | ds,[d]=>if ds.length<sizeLine then some (ds++[d]) else none
 | _,_=>none
theorem Sn:MtU X "list.append" Ua:=MtR.weak (id:="list.append") Pl fun v us H Q zz=>by
 obtain ⟨A,a,vs,ds,as,ds',mu,e1,h1,r1,r2,e2,q⟩:=zz;unfold Ua at e2;split at e2
 ·rename_i d
  split at e2
  ·rename_i hl
   cases e2;obtain ⟨w,us',e3,r3,e4⟩:=r2;refine ⟨a,vs,w,e1,by rw [e3,show us'=[] from e4],h1,by rw [Zv r1];exact hl,q _ _ (by simp;lia) (W6 r1 (J9 r3))⟩
  ·cases e2
 ·cases e2
end
inductive Rs where
 | ok (d:Dat) | exc (c:Str) (fs:List (Str×XD)) | no
def Ui (n:Nat) (ds:List Dat):Ev:=ds.map .fz++List.replicate (n - ds.length) .un
def Y7 (n p:Nat) (g:Ev->Fl):List Dat->Rs:=fun ds=>if ds.length=p then (match g (Ui n ds) with
 | .ret d=>.ok d
 | .next _=>.ok .non
 | .exc _ c fs=>.exc c fs
 | _=>.no) else .no
def spD (K:Zzy) (fr:Bool) (p:Nat) (F:List Dat->Rs):Sp:=fun vs H Q _=>vs.length=p/\∃ ds R d,Ta R H/\W5 K (av H R) ds vs/\F ds=.ok d/\∀ v H',Zo H H'->Rp K (av H' R) d v->(fr=true->NwT K ⟨H,R,true⟩ H' d v)->Q v H'
structure CalD (P:Program) (w:World) (K:Zzy) (mg:Zzw) (base:Heap) (k:Nat) (x:Str) (ps:List Str) (fr:Bool) (F:List Dat->Rs):Prop where
 cal:Cal P w K mg base k x ps (spD K fr ps.length F)
 len:∀ ds d,F ds=.ok d->ds.length=ps.length
theorem Mtb.some {o:Option HO} (h:Mtb o):∃ u,o=Option.some u:=by
 cases o with
 | none=>exact h.elim
 | some u=>exact ⟨u,rfl⟩
theorem Ht {R:AS} {ds:List Dat} (mu:Ta R H) (r:W5 K (av H R) ds vs) (hl:ds.length<=N.length):EnvOk K ⟨H,R,true⟩ R H (start N vs) (Ui N.length ds):=by
 have hn:=Zv r;refine ⟨Zo.refl H,fun a h=>(mu a h).some,fun _ h=>h,fun _ h=>.inl h,mu,by simp [start,Ui];lia,fun _ i d=>?_,fun _ _=>False,fun _ _ _ h=>h.elim,fun _ _ h=>h.elim,fun i s e=>?_⟩
 ·unfold Ui
  rw [List.getElem?_append];split
  ·rw [getElem?_map]
   cases ds[i]?<;>simp
  ·rw [List.getElem?_replicate]
   split<;>simp
 ·unfold Ui at e
  unfold start;rw [List.getElem?_append] at e ⊢;simp only [length_map] at e ⊢;rw [hn];split at e
  ·rename_i hi
   rw [if_pos hi];rw [getElem?_map] at e ⊢;cases hd:ds[i]? with
   | none=>rw [hd] at e;cases e
   | some d =>
    rw [hd] at e;cases e;obtain ⟨v,h1,h2⟩:=Rh r hd;rw [h1];exact ⟨some v,rfl,v,rfl,h2⟩
  ·rename_i hi
   rw [if_neg hi];rw [List.getElem?_replicate] at e ⊢;split at e
   ·rename_i h2
    cases e;rw [if_pos h2];exact ⟨none,rfl,trivial⟩
   ·cases e
theorem O5 {p:Nat} {g:Ev->Fl} {ds:List Dat} {d:Dat} {R:AS} {Q:VK} (hp:p<=N.length) (mu:Ta R H) (r:W5 X.K (av H R) ds vs) (hF:Y7 N.length p g ds=.ok d)
  (q:∀ v H',Zo H H'->Rp X.K (av H' R) d v->(fr=true->NwT X.K ⟨H,R,true⟩ H' d v)->Q v H') :
  tS fr X g (Ends.mk (fun _ H'=>Q .non H') Q (fun _ _=>False) (fun _ _=>False)) (start N vs) H:=by
 unfold Y7 at hF;split at hF
 ·rename_i hl
  refine ⟨Ui N.length ds,⟨H,R,true⟩,R,Ht mu r (by lia),rfl,?_⟩;split at hF
  ·rename_i d' e
   cases hF;rw [e];exact fun v H' s r n=>q v H' s r n
  ·rename_i env e
   cases hF;rw [e];exact fun A' H' σ' s k=>q .non H' k.h0 Io (fun _ ds e=>by cases e)
  ·cases hF
  ·cases hF
 ·cases hF
section
variable {P:Program} {w:World} {K:Zzy} {mg:Zzw} {base:Heap}
theorem B1 {n p:Nat} {g:Ev->Fl} {ds:List Dat} {d:Dat} (h:Y7 n p g ds=.ok d):ds.length=p:=by
 unfold Y7 at h;split at h
 ·assumption
 ·cases h
theorem ar0 {P:List α->Prop} (us:List α) (hl:us.length=0) (h:P []):P us:=by cases us with | nil=>exact h | cons _ _=>cases hl
@[elab_as_elim] theorem ar1 {P:List α->Prop} (us:List α) (hl:us.length=1) (h:∀ a,P [a]):P us:=by
 cases us with
 | nil=>cases hl
 | cons a us=>exact ar0 (P:=fun us=>P (a::us)) us (Nat.succ.inj hl) (h a)
@[elab_as_elim] theorem ar2 {P:List α->Prop} (us:List α) (hl:us.length=2) (h:∀ a b,P [a,b]):P us:=by
 cases us with
 | nil=>cases hl
 | cons a us=>exact ar1 (P:=fun us=>P (a::us)) us (Nat.succ.inj hl) (h a)
@[elab_as_elim] theorem ar3 {P:List α->Prop} (us:List α) (hl:us.length=3) (h:∀ a b c,P [a,b,c]):P us:=by
 cases us with
 | nil=>cases hl
 | cons a us=>exact ar2 (P:=fun us=>P (a::us)) us (Nat.succ.inj hl) (h a)
@[elab_as_elim] theorem ar4 {P:List α->Prop} (us:List α) (hl:us.length=4) (h:∀ a b c d,P [a,b,c,d]):P us:=by
 cases us with
 | nil=>cases hl
 | cons a us=>exact ar3 (P:=fun us=>P (a::us)) us (Nat.succ.inj hl) (h a)
@[elab_as_elim] theorem ar5 {P:List α->Prop} (us:List α) (hl:us.length=5) (h:∀ a b c d e,P [a,b,c,d,e]):P us:=by
 cases us with
 | nil=>cases hl
 | cons a us=>exact ar4 (P:=fun us=>P (a::us)) us (Nat.succ.inj hl) (h a)
@[elab_as_elim] theorem ar6 {P:List α->Prop} (us:List α) (hl:us.length=6) (h:∀ a b c d e f,P [a,b,c,d,e,f]):P us:=by
 cases us with
 | nil=>cases hl
 | cons a us=>exact ar5 (P:=fun us=>P (a::us)) us (Nat.succ.inj hl) (h a)
theorem Yl {x:Str} {st:Stmt} {g:Ev->Fl} (D:Def K mg x st) (S:FnScope N ps (Z4 st))
  (hbi:∀ (kV doc pm:Value) (an:Option Addr) (cdv ct:Value) (us:List Value),us.length=ps.length->bindArgs (fnOf x x (Wc st) (Y2 st) (Z4 st) .none kV doc pm an cdv ct) ⟨us,[]⟩=pure (ps.zip us))
  (hb:∀ (f:Addr) (cdv:Value) (A:Around) (outer:List Env) (s:Shared) (H:Hp) (E:XK),Room k (A.deeper (envOfC x (Z4 st) s.heap.objs.size f cdv))->On fr (Te E4 P w K mg base N x (Z4 st) f cdv A outer s H E).nox (Y2 st) g) :
  CalD P w K mg base (k+1) x ps fr (Y7 N.length ps.length g):=by
 have hpl:ps.length<=N.length:=by have:=congrArg List.length S.pre;rw [length_take] at this;lia
 refine ⟨Ze1 D S hbi (fun vs H Q E h=>h.1) fun f cdv A outer s H vs Q E hr ⟨hl,ds,R,d,mu,r,hF,q⟩=>⟨_,hb f cdv A outer s H E hr,?_⟩,fun ds d h=>B1 h⟩;exact O5 hpl mu r hF q
def Bd (K:Zzy):Sp:=fun vs H Q _=>∃ (a:Addr) (ns:List Int),vs=[.ref a]/\SL K H a (ns.map V.int)/\ns.length<=63/\∀ H',Q (.bl true) H'
theorem Zgt {x:Str} {st:Stmt} {f:Addr} {g:Ev->Fl} (F:Fun K x x st f fd) (S:FnScope N ps (Z4 st)) (hps:ps.length=1)
  (hb:∀ (cdv:Value) (A:Around) (outer:List Env) (s:Shared) (H:Hp) (E:XK),Room k (A.deeper (envOfC x (Z4 st) s.heap.objs.size f cdv))->On false (Te E4 P w K mg base N x (Z4 st) f cdv A outer s H E).nox (Y2 st) g)
  (law:∀ ns:List Int,ns.length<=63->Y7 N.length 1 g [.lst (ns.map .int)]=.ok (.bl true)):FnOk P w K mg base E4 (k+1) f fd ps (Bd K):=by
 have hpl:ps.length<=N.length:=by have:=congrArg List.length S.pre;rw [length_take] at this;lia
 refine Z93 F S (fun vs H Q E ⟨a,ns,e,_⟩=>by rw [e,hps];rfl) fun cdv A outer s H vs Q E hr ⟨a,ns,e,hS,hl,q⟩=>⟨_,hb cdv A outer s H E hr,?_⟩
 subst e;refine O5 (R:=no) (d:=.bl true) (by lia) (fun a h=>by cases h) (ds:=[.lst (ns.map .int)]) ?_ (law ns hl) fun v H' _ r _=>by rw [L1 r];exact q H'
 rw [Z2v];refine J9 (Kf ?_ hS (Hd ns));rw [length_map];exact le_of_lt (U1 (by lia))
variable {X:Cx} {m:Bool} {fr:Bool} {F:List Dat->Rs} {k:Nat} {x:Str} {ps:List Str} {e:Expr} {es:List Expr} {fs:Zzv} {p pos:Pos}
def okR:Rs->Option Dat
 | .ok d=>some d
 | _=>none
theorem C9 {r:Rs} {d:Dat} (h:okR r=some d):r=.ok d:=by cases r<;>cases h;rfl
def Zt (F:List Dat->Rs) (fs:Zzv):Ev->Option Dat:=fun env=>(fs env).bind fun ds=>okR (F ds)
theorem Zgi (C:CalD X.prog X.w X.K X.mg X.base k x ps fr F) (hr:Room k X.A) (ha:Oo false X (e::es) fs) (hg:Gl X x:=by rfl)
  (hdb:(x==("__debug__" : Str))=false:=by decide) (he:starEach (e::es) X.env=(false,eval e X.env)::starEach es X.env:=by rfl) (hpl:(backTo pos (starEach es X.env)).any (·.1)=false:=by rfl) :
  Wj m X (.Call (.Name x p) (e::es) [] pos) (Zt F fs):=Wj.any ((Zdn C.cal hr ha hg hdb he hpl).weak fun σ H Q zz=>by
 obtain ⟨env,R,A,d,k,q1,q2⟩:=zz;obtain ⟨ds,e1,e2⟩:=bind_some q1;have e3:=C9 e2;refine ⟨env,R,A,ds,k,e1,fun vs H1 s1 rs=>⟨by rw [Zv rs.rps];exact C.len ds d e3,ds,A,d,k.mu.mono s1,rs.rps,e3,fun v H' s r _=>q2 v H' (s1.trans s) r⟩⟩)
mutual
def Ag:Dat->Bool
 | .lst _=>false
 | .dct _=>false
 | .exc _ _=>false
 | .tup xs=>Xk xs
 | .non=>true
 | .bl _=>true
 | .int _=>true
 | .str _=>true
def Xk:List Dat->Bool
 | []=>true
 | x::xs=>Ag x&&Xk xs
end
theorem Zdq {A:AS} (mu:Ta A H) (h:Ed K H a vs):Ed K (av H A) a vs:=by
 rcases h with h | h
 ·left
  have hA:A a=false:=by
   cases q:A a with
   | false=>rfl
   | true =>
    have:=mu a q;rw [h] at this;exact this.elim
  exact Wn h hA
 ·exact .inr h
mutual
theorem Rp.pure {A:AS} (mu:Ta A H):∀ {d:Dat} {v:V},Ag d=true->Rp K H d v->Rp K (av H A) d v
 | .non,v,_,r=>by rw [Nf r];exact Io
 | .bl b,v,_,r=>by rw [L1 r];exact Us
 | .int b,v,_,r=>by rw [Jw r];exact Yq
 | .str b,v,_,r=>by obtain ⟨e,h⟩:=Nr r;rw [e];exact Ro h
 | .lst _,v,h,_=>by cases h
 | .dct _,v,h,_=>by cases h
 | .exc _ _,v,h,_=>by cases h
 | .tup xs,v,h,r=>by
  obtain ⟨a,vs,e,h1,h2⟩:=S3 r;subst e;exact X8 (Z2w r) (Zdq mu h1) (W5.pure mu (by simpa [Ag] using h) h2)
theorem W5.pure {A:AS} (mu:Ta A H):∀ {ds:List Dat} {vs:List V},Xk ds=true->W5 K H ds vs->W5 K (av H A) ds vs
 | [],vs,_,r=>by rw [Yf r];exact V8
 | d::ds,vs,h,r=>by
  obtain ⟨v,us,e,r1,r2⟩:=Zp r;subst e;rw [Xk,Bool.and_eq_true] at h;exact Vb (Rp.pure mu h.1 r1) (W5.pure mu h.2 r2)
end
end
section
variable {X:Cx} {m:Bool}
structure Glo (K:Zzy) (mg:Zzw) (x:Str) (d:Dat):Prop where
 ex:∃ v u,mg x=some u/\Yb v u/\∀ H,Rp K H d v
theorem Glo.x {x:Str} {d:Dat} {p:Pos} (G:Glo X.K X.mg x d) (hg:Gl X x) (hd:(x==("__debug__" : Str))=false:=by decide):Wj m X (.Name x p) (dC d):=by
 obtain ⟨v,u,h1,h2,h3⟩:=G.ex;exact Zfa hg h1 h2 h3 hd
end
def Ite (sq:Hp->List V->Prop):It :=
 ⟨fun i H=>∃ xs x,sq H xs/\xs[i]?=some x,
  fun i H v H'=>∃ p x,v=.ref p/\H p=none/\(∀ xs,sq H xs->xs[i]?=some x)/\H'=Yn H p (.tup [.int i,x]),
  fun i H=>∃ xs,sq H xs/\xs.length=i⟩
theorem Inv.turnedT {T:Addr} {xs:List V} (I:Inv X pins σ H s) (hf:∀ b∈ch,E7 X pins H b)
  (kk:∀ b o,b∉ch->s.heap.get? b=some o->h'.get? b=some o) (hT:s.heap.objs.size<=T) (rv:Zx xs its) (hz:xs.length<=sizeLine) (ht:IsTup h' T its.toArray) :
  Inv X pins σ (Yn H T (.tup xs)) { s with heap:=h',toks:=tk }:=by
 have hn:H T=none:=I.hok.fresh hT;have nch:∀ b u,H b=some u->b∉ch:=fun b u e z=>by rw [(hf b z).1] at e;cases e
 refine I.call' (ch:=ch) rfl ⟨fun b o q n _ hx=>kk b o hx q,fun b o q n _ hx=>⟨o.slots,kk b o hx q⟩,fun b o q n hx=>?_,fun b o q hx=>⟨o,kk b o hx q⟩,fun b ys q=>?_,fun b o u q=>?_,fun b ps q=>⟨#[],?_⟩⟩ (fun b u e=>?_) I.bare fun b hb=>⟨(hf b hb).2.2.2.1,(hf b hb).2.1,(hf b hb).2.2.2.2.1,(hf b hb).2.2.2.2.2⟩
 ·rw [Za (ne_of_lt (lt_of_lt_of_le (lt_size q) hT))];exact n
 ·rw [Za (Y4 q hn)];exact q
 ·rw [Za (Y4 q hn)];exact q
 ·rw [Za (Y4 q hn),q];simp
 ·by_cases hb:b=T
  ·subst hb
   rw [Zg] at e;cases e;exact ⟨hz,its,rv,ht⟩
  ·rw [Za hb] at e
   refine (I.hok b u e).stay (fun c v hc q=>?_) (fun c q=>?_) fun c ys q=>?_
   ·rcases hc with hc | hc
    ·subst hc;exact kk c v (nch c u e) q
    ·exact kk c v (nch c _ hc) q
   ·rw [Za (Y4 q hn)];exact q
   ·rw [Za (Y4 q hn)];exact q
theorem Inv.turnedN (I:Inv X pins σ H s) (hf:∀ b∈ch,E7 X pins H b)
  (kk:∀ b o,b∉ch->s.heap.get? b=some o->h'.get? b=some o):Inv X pins σ H { s with heap:=h',toks:=tk }:=by
 have nch:∀ b u,H b=some u->b∉ch:=fun b u e z=>by rw [(hf b z).1] at e;cases e
 refine I.call' (ch:=ch) rfl ⟨fun b o q n _ hx=>kk b o hx q,fun b o q n _ hx=>⟨o.slots,kk b o hx q⟩,fun b o q n hx=>n,fun b o q hx=>⟨o,kk b o hx q⟩,fun b ys q=>q,fun b o u q=>q,fun b ps q=>⟨#[],by rw [q];simp⟩⟩ (fun b u e=>?_) I.bare fun b hb=>⟨(hf b hb).2.2.2.1,(hf b hb).2.1,(hf b hb).2.2.2.2.1,(hf b hb).2.2.2.2.2⟩
 refine (I.hok b u e).stay (fun c v hc q=>?_) (fun c q=>q) fun c ys q=>q
 rcases hc with hc | hc
 ·subst hc;exact kk c v (nch c u e) q
 ·exact kk c v (nch c _ hc) q
theorem Pn (a e it:Addr) (itS:Nat->Heap->Prop) (IsS:Heap->Array Value->Prop) (sq:Hp->List V->Prop)
  (hS:∀ h h' i,itS i h->(∀ o,h.get? it=some o->h'.get? it=some o)->itS i h')
  (hO:∀ h i,itS i h->∃ o,h.get? it=some o/\o.cls≠.type "enumerate" /\ ∀ v,o.data≠.cell v)
  (hA:∀ h items,IsS h items->∃ o,h.get? a=some o/\o.cls≠.type "enumerate" /\ ∀ h' i,itS i h'->∀ o',h'.get? it=some o'->o'.cls≠o.cls)
  (hD:∀ A:Around,A.handled=none->a≠it->∀ items:Array Value,Draws P w A it [it,a] items.size (fun i v=>items[i]?=some v) (fun i h=>itS i h/\IsS h items))
  (hg:∀ (X:Cx) (pins:Zzx) (σ:St) (H:Hp) (s:Shared) (xs:List V),X.K=K->Inv X pins σ H s->sq H xs->∃ its,Zx xs its/\IsS s.heap its.toArray)
  (hj:∀ (X:Cx) (pins:Zzx) (σ:St) (H:Hp) (s:Shared) (xs ys:List V),X.K=K->Inv X pins σ H s->sq H xs->sq H ys->xs=ys) :
  Turn P w K (.Tuple es k pos) (Ite sq) [e,it] e (fun i h=>(∃ old,IsEnum h e it i old)/\itS i h) where
 mem:=by simp
 obj:=fun i h st b hb=>by
  rcases mem_cons.mp hb with rfl | hb
  ·obtain ⟨⟨old,z⟩,_⟩:=st;exact ⟨_,z,fun v q=>by cases q⟩
  ·rw [mem_singleton.mp hb];obtain ⟨o,h1,_,h2⟩:=hO h i st.2;exact ⟨o,h1,h2⟩
 keep:=fun i h h' st kk=>by
  obtain ⟨⟨old,z⟩,q⟩:=st;exact ⟨⟨old,kk e (by simp) _ z⟩,hS h h' i q fun o r=>kk it (by simp) o r⟩
 item:=by
  intro X hP hw hK hc i pins s σ H E I hf st hgo;subst hP hw;obtain ⟨xs,x,hsq,hx⟩:=hgo;obtain ⟨its,rv,hI⟩:=hg X pins σ H s xs hK I hsq;obtain ⟨u,hu,ru⟩:=rv.get hx;obtain ⟨⟨old,hE⟩,hIt⟩:=st;obtain ⟨oi,hoi,hci,_⟩:=hO _ _ hIt;obtain ⟨oa,hoa,hca,hcc⟩:=hA _ _ hI;have hne:a≠it:=by intro z;rw [z,hoi] at hoa;cases hoa;exact hcc _ _ hIt _ hoi rfl
  have hei:e≠it:=by intro z;rw [← z,hE] at hoi;cases hoi;exact hci rfl
  have hea:e≠a:=by intro z;rw [← z,hE] at hoa;cases hoa;exact hca rfl
  have W:=WalksT.enumerateD (hD X.A.in1 (I.ok.hd hc) hne its.toArray) e hei (by simp [hei,hea]) (by simp);have hi:i<its.toArray.size:=by rw [size_toArray];exact (List.getElem?_eq_some_iff.mp hu).1
  refine W.item i s _ _ hi ⟨⟨old,hE⟩,hIt,hI⟩ fun T vals h' tk hPt hT hTup hM hk=>⟨.ref T,rfl,W.go es k pos i T _ _ _ hM fun h2 hst hk2=>?_⟩
  obtain ⟨t,x',hx',rfl⟩:=hPt;have hxu:x'=u:=by
   have:its[i]?=some x':=by simpa using hx'
   rw [hu] at this;exact (Option.some.inj this).symm
  subst hxu;have hTup2:IsTup h2 T #[.int i t,x']:=by
   obtain ⟨o,ho,r⟩:=hTup;exact ⟨o,hk2 T o (W.apart i T h' hM) ho,r⟩
  have I2:=Inv.turnedT (s:=s) (h':=h2) (tk:=tk) (ch:=[e,it]) (its:=[.int i t,x']) (xs:=[.int i,x]) I hf (fun b o hb q=>hk2 b o hb (hk b o hb q)) hT (.cons ⟨t,rfl⟩ (.cons ru .nil)) (by show 2<=sizeLine;decide) hTup2;refine ⟨.ref T,Yn H T (.tup [.int i,x]),I2,rfl,⟨T,x,rfl,I.hok.fresh hT,fun ys hy=>?_,rfl⟩,⟨hst.1,hst.2.1⟩,fun b hb=>?_⟩
  ·rw [hj X pins σ H s ys xs hK I hy hsq];exact hx
  ·rw [Za ?_];exact (hf b hb).1
   intro z;have hlt:b<s.heap.objs.size:=by
    rcases mem_cons.mp hb with rfl | hb
    ·exact lt_size hE
    ·rw [mem_singleton.mp hb];exact lt_size hoi
   exact absurd (lt_of_lt_of_le hlt (by rw [z];exact hT)) (lt_irrefl _)
 done:=by
  intro X hP hw hK hc i pins s σ H E I hf st hs;subst hP hw;obtain ⟨xs,hsq,hl⟩:=hs;obtain ⟨its,rv,hI⟩:=hg X pins σ H s xs hK I hsq;obtain ⟨⟨old,hE⟩,hIt⟩:=st;obtain ⟨oi,hoi,hci,_⟩:=hO _ _ hIt;obtain ⟨oa,hoa,hca,hcc⟩:=hA _ _ hI;have hne:a≠it:=by intro z;rw [z,hoi] at hoa;cases hoa;exact hcc _ _ hIt _ hoi rfl
  have hei:e≠it:=by intro z;rw [← z,hE] at hoi;cases hoi;exact hci rfl
  have hea:e≠a:=by intro z;rw [← z,hE] at hoa;cases hoa;exact hca rfl
  have W:=WalksT.enumerateD (hD X.A.in1 (I.ok.hd hc) hne its.toArray) e hei (by simp [hei,hea]) (by simp);have hn:its.toArray.size=i:=by rw [size_toArray,← rv.length];exact hl
  refine W.done s _ _ (by rw [hn];exact ⟨⟨old,hE⟩,hIt,hI⟩) fun h' tk hk=>⟨rfl,I.turnedN (ch:=[e,it]) hf fun b o hb q=>hk b o hb q⟩
 self:=fun A i s Q E st h=>by
  obtain ⟨⟨old,z⟩,_⟩:=st;exact wpAny_pyIter_enum z h
section
variable {st m:Bool} {X:Cx} {l:Expr} {es:List Expr} {f:Zzu} {tk:Nat} {tpos:Pos}
theorem Z0d (a e it:Addr):Turn X.prog X.w X.K (.Tuple es tk tpos) (Ite fun H xs=>Ed X.K H a xs) [e,it] e (fun i h=>(∃ old,IsEnum h e it i old)/\h.IsTupleIter it a i) :=
 Pn a e it (fun i h=>h.IsTupleIter it a i) (fun h items=>h.IsTuple a items) _ (fun h h' i q kk=>let ⟨o,h1,r⟩:=q;⟨o,kk o h1,r⟩)
  (fun h i q=>let ⟨o,h1,h2,h3⟩:=q;⟨o,h1,by rw [h2];decide,fun v z=>by rw [h3] at z;cases z⟩)
  (fun h items q=>let ⟨o,h1,h2,_⟩:=q;⟨o,h1,by rw [h2];decide,fun h' i r o' e'=>by obtain ⟨o2,g1,g2,_⟩:=r;rw [g1] at e';cases e';rw [g2,h2];decide⟩)
  (fun A hh hne items=>Draws.tupleD hh it a hne items)
  (fun Y pins σ H s xs hK I h=>by rw [← hK] at h;obtain ⟨its,r,p,_⟩:=I.tuple h;exact ⟨its,r,p⟩)
  (fun Y pins σ H s xs ys hK I h h'=>by rw [← hK] at h h';exact I.tuple_inj h h')
theorem Z0q (a e it:Addr):Turn X.prog X.w X.K (.Tuple es tk tpos) (Ite fun H xs=>Dy X.K H a xs) [e,it] e (fun i h=>(∃ old,IsEnum h e it i old)/\h.IsListIter it a i) :=
 Pn a e it (fun i h=>h.IsListIter it a i) (fun h items=>h.IsList a items) _ (fun h h' i q kk=>let ⟨o,h1,r⟩:=q;⟨o,kk o h1,r⟩)
  (fun h i q=>let ⟨o,h1,h2,h3⟩:=q;⟨o,h1,by rw [h2];decide,fun v z=>by rw [h3] at z;cases z⟩)
  (fun h items q=>let ⟨o,h1,h2,_⟩:=q;⟨o,h1,by rw [h2];decide,fun h' i r o' e'=>by obtain ⟨o2,g1,g2,_⟩:=r;rw [g1] at e';cases e';rw [g2,h2];decide⟩)
  (fun A hh hne items=>Draws.list hh it a hne items)
  (fun Y pins σ H s xs hK I h=>by rw [← hK] at h;obtain ⟨its,r,p,_⟩:=I.list h;exact ⟨its,r,p.isList⟩)
  (fun Y pins σ H s xs ys hK I h h'=>by rw [← hK] at h h';exact I.list_inj h h')
def Tq:Nat->List Dat->List Dat
 | _,[]=>[]
 | k,x::xs=>.tup [.int k,x]::Tq (k+1) xs
theorem Gy:∀ (xs:List Dat) (k i:Nat),(Tq k xs)[i]?=(xs[i]?).map fun x=>.tup [.int ((k+i:Nat):Int),x]
 | [],k,i=>by simp [Tq]
 | x::xs,k,0=>by simp [Tq]
 | x::xs,k,i+1=>by
  rw [Tq,List.getElem?_cons_succ,List.getElem?_cons_succ,Gy xs (k+1) i,show k+1+i=k+(i+1) by lia]
theorem Qi:∀ (xs:List Dat) (k:Nat),(Tq k xs).length=xs.length
 | [],_=>rfl
 | x::xs,k=>by rw [Tq,length_cons,length_cons,Qi xs]
def G1 (f:Zzu):Ev->Option (List Dat):=fun env=>(Th f env).map (Tq 0)
theorem Lm {A:AS} {ds:List Dat} {sq:Hp->List V->Prop} (h:∀ A1 H1,Adv st A H A1 H1->sq H1 vs) (r:W5 K (av H A) ds vs):Z13 st K A H (Tq 0 ds) (Ite sq):=fun A1 H1 adv mu=>by
 have h1:=h A1 H1 adv;have r1:=r.mono adv.step.av;refine ⟨fun i x e=>?_,⟨vs,h1,by rw [Qi];exact Zv r⟩⟩;rw [Gy] at e;obtain ⟨d,e1,e2⟩:=map_some e;subst e2;obtain ⟨v,e3,e4⟩:=Rh r1 e1;refine ⟨⟨vs,v,h1,e3⟩,fun v' H2 ⟨p,x,z1,z2,z3,z4⟩=>?_⟩;subst z1 z4;have:=z3 vs h1;rw [e3] at this;cases this;refine ⟨Zo.new z2,X8 (by show 2<=sizeLine;decide) (.inl (Wn Zg (mu.new z2))) (Vb ?_ (J9 (e4.mono (We (Zo.new z2)))))⟩;rw [zero_add];exact Yq
def Zcr (K:Zzy) (ta:TA):TI:=fun σ H R=>ta σ H fun vs H1=>∃ a,vs=[.ref a]/\(∃ xs,Dy K H1 a xs)/\R (Ite fun H xs=>Dy K H a xs) H1
def Zcu (K:Zzy) (ta:TA):TI:=fun σ H R=>ta σ H fun vs H1=>∃ a,vs=[.ref a]/\(∃ xs,Ed K H1 a xs)/\R (Ite fun H xs=>Ed K H a xs) H1
theorem fp2 (I:Inv X pins σ H s):∀ b∈[s.heap.objs.size+1,s.heap.objs.size],E7 X pins H b:=fun b hb=>by
 rcases mem_cons.mp hb with rfl | hb
 ·exact I.fpOk (le_succ _) (I.hok.fresh (le_succ _))
 ·rw [mem_singleton.mp hb];exact I.fpOk (le_refl _) (I.hok.fresh (le_refl _))
theorem B4 (hg:Gl X "enumerate") (hm:X.mg "enumerate" = none) (hv:bootBuiltins "enumerate" = some (.type "enumerate")) (ha:PA X [l] ta) (hs:starEach [l] X.env=[(false,eval l X.env)]:=by rfl):PI X (.Tuple es tk tpos) (.Call (.Name "enumerate" p) [l] [] pos) (Zcr X.K ta):=by
 intro pins s σ H R I h;refine Call_ (Sa I hg hm hv (PyProof.Rows.callWith_type1 (Wp (ha pos pins s σ H _ I h) fun us s1 ⟨vs,H1,I1,r1,q1⟩=>?_) hs rfl));obtain ⟨a,e,⟨xs,hq⟩,q⟩:=q1;subst e;obtain ⟨u,rfl,ru⟩:=Jz r1;cases ru;obtain ⟨its,rv,pl,hz⟩:=I1.list hq;refine call_enumerate_list pl.isList fun h' h1 h2 h3 h4=>?_
 have I2:Inv X pins σ H1 { s1 with heap:=h' }:=I1.kept (t':=s1.toks) h4;refine wpAny_pyIter_enum (s:={ s1 with heap:=h' }) h1 ?_;exact ⟨s1.heap.objs.size+1,[s1.heap.objs.size+1,s1.heap.objs.size],_,_,H1,rfl,I2,Z0q a _ _,⟨⟨_,h1⟩,h2⟩,fp2 I1,q⟩
theorem Bc (hg:Gl X "enumerate") (hm:X.mg "enumerate" = none) (hv:bootBuiltins "enumerate" = some (.type "enumerate")) (ha:PA X [l] ta) (hs:starEach [l] X.env=[(false,eval l X.env)]:=by rfl):PI X (.Tuple es tk tpos) (.Call (.Name "enumerate" p) [l] [] pos) (Zcu X.K ta):=by
 intro pins s σ H R I h;refine Call_ (Sa I hg hm hv (PyProof.Rows.callWith_type1 (Wp (ha pos pins s σ H _ I h) fun us s1 ⟨vs,H1,I1,r1,q1⟩=>?_) hs rfl));obtain ⟨a,e,⟨xs,hq⟩,q⟩:=q1;subst e;obtain ⟨u,rfl,ru⟩:=Jz r1;cases ru;obtain ⟨its,rv,pl,hz⟩:=I1.tuple hq;refine Ss (show s1.heap.IsTuple a its.toArray from pl) fun h' h1 h2 h3 h4=>?_
 have I2:Inv X pins σ H1 { s1 with heap:=h' }:=I1.kept (t':=s1.toks) h4;refine wpAny_pyIter_enum (s:={ s1 with heap:=h' }) h1 ?_;exact ⟨s1.heap.objs.size+1,[s1.heap.objs.size+1,s1.heap.objs.size],_,_,H1,rfl,I2,Z0d a _ _,⟨⟨_,h1⟩,h2⟩,fp2 I1,q⟩
theorem Z02 (hg:Gl X "enumerate") (hm:X.mg "enumerate" = none) (h:Wj false X l f) (hv:bootBuiltins "enumerate" = some (.type "enumerate"):=by decide +kernel) (hs:starEach [l] X.env=[(false,eval l X.env)]:=by rfl):PId st X (.Tuple es tk tpos) (.Call (.Name "enumerate" p) [l] [] pos) (G1 f) :=
 ((B4 hg hm hv (Yu h Vn hs) hs).or (Bc hg hm hv (Yu h Vn hs) hs)).weak fun σ H R' zz=>by
 obtain ⟨env,R,A,ds,k,e,q⟩:=zz;obtain ⟨xs,e0,e1⟩:=map_some e;subst e1;unfold Th at e0;split at e0
 ·rename_i ys e1
  cases e0;refine .inl ⟨env,R,A,.lst xs,k,e1,fun v H1 s1 p1=>?_⟩;obtain ⟨a,vs,e2,h1,r1⟩:=Qr (show Rp X.K (av H1 A) (.lst xs) v from p1);subst e2;exact ⟨a,rfl,⟨vs,(Ym.sl h1).sq⟩,q _ H1 (by rw [Qi];exact p1.pk.lenL) s1 (Lm (vs:=vs) (fun A1 H2 adv=>(Ym.sl (adv.step.av.sl h1)).sq) r1)⟩
 ·rename_i ys e1
  cases e0;refine .inr ⟨env,R,A,.tup xs,k,e1,fun v H1 s1 p1=>?_⟩;obtain ⟨a,vs,e2,h1,r1⟩:=S3 (show Rp X.K (av H1 A) (.tup xs) v from p1);subst e2;exact ⟨a,rfl,⟨vs,Ym.seqT h1⟩,q _ H1 (by rw [Qi];exact p1.pk.lenT) s1 (Lm (vs:=vs) (fun A1 H2 adv=>Ym.seqT (adv.step.av.seqT h1)) r1)⟩
 ·cases e0
theorem N2 (hg:Gl X "enumerate") (hm:X.mg "enumerate" = none) (h:Wj true X l f) (hv:bootBuiltins "enumerate" = some (.type "enumerate"):=by decide +kernel) (hs:starEach [l] X.env=[(false,eval l X.env)]:=by rfl):PId false X (.Tuple es tk tpos) (.Call (.Name "enumerate" p) [l] [] pos) (G1 f) :=
 ((B4 hg hm hv (Yu h Vn hs) hs).or (Bc hg hm hv (Yu h Vn hs) hs)).weak fun σ H R' zz=>by
 obtain ⟨env,R,A,ds,k,e,q⟩:=zz;obtain ⟨xs,e0,e1⟩:=map_some e;subst e1;unfold Th at e0;split at e0
 ·rename_i ys e1
  cases e0;refine .inl ⟨env,R,A,.lst xs,k,e1,fun v H1 s1 p1=>?_⟩;obtain ⟨a,vs,e2,h1,r1⟩:=p1.pk.lst;subst e2;exact ⟨a,rfl,⟨vs,h1.sq⟩,q _ H1 (by rw [Qi];exact p1.pk.lenL) s1 (Lm (vs:=vs) (fun A1 H2 adv=>(adv.2.sl h1).sq) r1)⟩
 ·rename_i ys e1
  cases e0;refine .inr ⟨env,R,A,.tup xs,k,e1,fun v H1 s1 p1=>?_⟩;obtain ⟨a,vs,e2,h1,r1⟩:=p1.pk.tup;subst e2;exact ⟨a,rfl,⟨vs,h1⟩,q _ H1 (by rw [Qi];exact p1.pk.lenT) s1 (Lm (vs:=vs) (fun A1 H2 adv=>adv.2.seqT h1) r1)⟩
 ·cases e0
end
end L2
variable {xs ys ds:List L2.Dat} {F:List L2.Dat->L2.Rs} {A R:L2.AS} {f:L2.Zzu} {g:L2.Ev->L2.Fl} {r:L2.TJ} {B:L2.Bs} {env:L2.Ev} {fl:List (PySem.Str×L2.XD)} {gg:L2.Dat->L2.Ev->Option L2.Ev} {src:L2.Zzv}
namespace L2
open PySem
section
variable {prog:Program} {w:World} {A:Around} {E:Zzz} {h:Heap} {g:Array GenState} {d:Drawn} {t:Nat} {os:OsState}
variable {nm q:Str} {C N:Addr} {bs bm bmB:List Value} {hdct:Bool} {sn:List Str} {sub:List Value} {ab:Bool} {col:Option Bool} {dd:Option Addr} {k0 k1 k2 k3 k5:Option Value} {B Bn newId nid initId inN:String} {bmN:List Value}
theorem La (Fn:ExcBaseFacts Bn newId inN bmN) (hBn:bmB.contains (.type Bn)=true) (F:ExcBaseFacts B nid initId bmB) (T:OwnTail h bmB bm) {mN:Zzw} {rest:List Value} {oI:Obj} {Q:Fin->Shared->Prop}
   (hC:h.get? C=some (excClassObj nm q C N bs bm hdct sn sub ab col dd k0 k1 k2 k3 k5 newId)) (hn:h.Ns N mN) (hi:mN "__init__" = some (.ref fI))
   (hfI:h.get? fI=some oI) (hfc:oI.cls=.type "function")
   (hq:∀ h' e,h.objs.size<=e->Heap.MadeExcOf h h' e (.ref C) rest ->
     wpAny (model prog w) A (call (.ref fI) (.ref e::rest)) (fun r s'=>r=.none/\Q (.done (.ret (.ref e))) s') E ⟨h',g,d,t,os⟩) (hrest:rest.length<=sizeLine:=by size_fits) :
   wpAny (model prog w) A (Builtin.«type.__call__» ⟨.ref C::rest,[]⟩) Q E ⟨h,g,d,t,os⟩:=by
 repeat (first | with_reducible refine wpAny_loadPart_at hC ?_ | with_reducible refine wpAny_madeBy_exc hC ?_ | wp_step)
 refine codeAny_call_builtin_code (Code.quiet_builtin _ Fn.quiet) (wpAny_check_new_subU Fn hBn T hC ?_);refine codeAny_exc_new_subU Fn hBn F T hC ?_ hrest;show wpAny _ _ _ _ _ _;have hC₁:=get?_push_of_some { cls:=.ref C,data:=.fields #[.ref h.objs.size,.none,.none,.none,.bool false,.none] }
   (get?_push_of_some { cls:=.type "tuple",data:=.seq rest.toArray } hC)
 have hfI₁:=get?_push_of_some { cls:=.ref C,data:=.fields #[.ref h.objs.size,.none,.none,.none,.bool false,.none] }
   (get?_push_of_some { cls:=.type "tuple",data:=.seq rest.toArray } hfI)
 have hn₁:((h.push { cls:=.type "tuple",data:=.seq rest.toArray }).push { cls:=.ref C,data:=.fields #[.ref h.objs.size,.none,.none,.none,.bool false,.none] }).Ns N mN :=
   let ⟨o,es,ep,e,r⟩:=hn;⟨o,es,ep,get?_push_of_some _ (get?_push_of_some _ e),r⟩
 have hget:((h.push { cls:=.type "tuple",data:=.seq rest.toArray }).push
     { cls:=.ref C,data:=.fields #[.ref h.objs.size,.none,.none,.none,.bool false,.none] }).get? (h.objs.size+1)=some
     { cls:=.ref C,data:=.fields #[.ref h.objs.size,.none,.none,.none,.bool false,.none] }:=by heap_get
 have hcC:(Value.ref C::bm).contains (.ref C)=true:=by simp
 have T₁:=T.keeps (h':=(h.push { cls:=.type "tuple",data:=.seq rest.toArray }).push { cls:=.ref C,data:=.fields #[.ref h.objs.size,.none,.none,.none,.bool false,.none] })
   fun b o e=>get?_push_of_some _ (get?_push_of_some _ e)
 unfold isInstance;repeat (first | with_reducible refine wpAny_loadPart_at hget ?_ | (with_reducible refine wpAny_isSubtype_exc hC₁ ?_;rw [hcC]) | wp_step)
 show wpAny _ _ (typeLookup (.ref C) _) _ _ _;refine wpAny_typeLookup_tail hC₁ hn₁ T₁ F.mroIs F.init.lookup ?_;rw [hi];refine wpAny_holding (wpAny_bind ?_);unfold bindSpecial;refine wpAny_bind (wpAny_typeOf (T:="function") ⟨_,hfI₁,hfc⟩ ?_);rw [if_pos (by decide)];refine wpAny_pure (wpAny_bind (wpAny_mono (hq _ (h.objs.size+1) (le_succ _) ⟨fun b o hb=>get?_push_of_some _ (get?_push_of_some _ hb),Heap.get?_none_of_le (le_succ _),h.objs.size,hget,Heap.get?_none_of_le (le_refl _),?_⟩) (fun r s' hr=>?_) fun _ _ x=>x))
 · exact get?_push_of_some _ (Heap.get?_push_at rfl rfl)
 · obtain ⟨rfl,hQ⟩:=hr
   wp_walk
   exact hQ
theorem Om (Fn:ExcBaseFacts Bn newId inN bmN) (hBn:bmB.contains (.type Bn)=true) (F:ExcBaseFacts B nid initId bmB) (T:OwnTail h bmB bm) {mN:Zzw} {rest:List Value} {oI:Obj} 
  (hC:h.get? C=some (excClassObj nm q C N bs bm hdct sn sub ab col dd k0 k1 k2 k3 k5 newId)) (hn:h.Ns N mN) (hi:mN "__init__" = some (.ref fI))
  (hfI:h.get? fI=some oI) (hfc:oI.cls=.type "function")
  (hq:∀ h' e,h.objs.size<=e->Heap.MadeExcOf h h' e (.ref C) rest ->
   wpAny (model prog w) (A.under (.builtin "type.__call__" ⟨.ref C::rest,[]⟩)) (call (.ref fI) (.ref e::rest)) (fun r s'=>r=.none/\Q (.ref e) s') E ⟨h',g,d,t,os⟩) (hrest:rest.length<=sizeLine:=by size_fits) :
  wpAny (model prog w) A (call (.ref C) rest) Q E ⟨h,g,d,t,os⟩:=by
 have f1:=tc_lookup;have f2:=tc_bind (.ref C);have hT:(⟨h,g,d,t,os⟩:Shared).TypeIs (.ref C) "type" := ⟨_,hC,rfl⟩;refine wpAny_call (codeAny_of_tree ?_);show wpAny _ _ (callAny (.ref C) _) _ _ _;repeat (any_goals (first | assumption | with_reducible refine wpAny_loadPart_at hC ?_ | wp_step))
 refine ⟨rfl,?_⟩;refine codeAny_call_builtin_at (Code.quiet_builtin _ (by decide +kernel)) entry_typeCall (wpAny_check_type_call_sub hC (La (hrest:=hrest) Fn hBn F T hC hn hi hfI hfc fun h' e hlo hm=>?_));exact hq h' e hlo hm
end
section
variable {M:Model} {A:Around} {E:Zzz} {env:Env}
variable {nm q:Str} {C N:Addr} {bs bm:List Value} {hdct:Bool} {sn:List Str} {sub:List Value} {ab:Bool} {col:Option Bool} {dd:Option Addr} {k0 k1 k2 k3 k5:Option Value} {newId:String}
theorem Kx {x:Sem Value} {Q:Flow->Shared->Prop} (hbase:bm.contains (.type "BaseException")=true) (hh:A.handled=none)
   (h:wpAny M A x (fun v s₁=>∃ e a dct,v=.ref e/\s₁.heap.get? C=some (excClassObj nm q C N bs bm hdct sn sub ab col dd k0 k1 k2 k3 k5 newId) /\
     s₁.heap.get? e=some { cls:=.ref C,dict:=dct,data:=.fields #[a,.none,.none,.none,.bool false,.none] }/\E (.ref e) s₁) E s) :
   wpAny M A (raiseStmt env (some x) none) Q E s:=by
 have hcB:(Value.ref C::bm).contains (.type "BaseException")=true:=by rw [List.contains_cons,hbase,Bool.or_true]
 unfold raiseStmt;refine wpAny_bind (wpAny_mono h (fun v s₁ h₁=>?_) fun _ _ x=>x);obtain ⟨e,a,dct,rfl,hC,he,hE⟩:=h₁;obtain ⟨hp,g,d,tk,os⟩:=s₁;repeat (first | with_reducible refine wpAny_loadPart_at he ?_ | with_reducible refine wpAny_loadPart_at hC ?_ | (with_reducible refine wpAny_isSubtype_exc hC ?_;rw [hcB]) | wp_step)
 exact wpAny_raiseNew_none hh hE
end
theorem Ox:entryFor table "proto.unchain" = some Builtin.«proto.unchain» := entryFor_of_fast (by kernel_rfl)
section
variable {prog:Program} {w:World} {A:Around} {E:Zzz} {s:Shared}
theorem Ft {h:Addr} {o:Obj} {vs:Array Value} (ho:s.heap.get? h=some o) (hd:o.data=.fields vs) (hc:vs[2]?=some .none) (hq:Q .none s) :
  wpAny (model prog w) A (runValue (.builtin "proto.unchain" ⟨[.ref e,.ref h,.ref h,.bool false],[]⟩)) Q E s:=by
 refine wpAny_runValue (codeAny_builtin Ox ?_);unfold Builtin.«proto.unchain»;refine wpAny_bind (wpAny_field ho hd hc ?_);exact wpAny_pure hq
theorem Xi {h:Addr} {oh:Obj} {ve vh:Array Value} {Q:α->Shared->Prop} (hh:A.handled=some (.ref h)) (ne:h≠e) (he:s.heap.get? e=some oe) (hde:oe.data=.fields ve) (h2:2<ve.size)
  (ho:s.heap.get? h=some oh) (hdh:oh.data=.fields vh) (hc:vh[2]?=some .none) (hE:E (.ref e) { s with heap:=s.heap.update e (Obj.mapFields (·.setIfInBounds 2 (.ref h))) }):wpAny (model prog w) A (raiseNew (.ref e):Sem α) Q E s:=by
 unfold raiseNew;refine wpAny_bind (wpAny_handled ?_);rw [hh];have hne:(Value.ref h != Value.ref e)=true:=by
  simp only [bne_iff_ne,ne_eq];intro z;cases z;exact ne rfl
 dsimp only;rw [if_pos hne];refine wpAny_bind (wpAny_holding (Ft ho hdh hc ?_));show wpAny _ _ (setField (.ref e) 2 (.ref h) >>= _) _ _ _;refine wpAny_bind (wpAny_mono (wpAny_setField (x:=.ref h) he hde h2 (Q:=fun _ s'=>s'={ s with heap:=s.heap.update e (Obj.mapFields (·.setIfInBounds 2 (.ref h))) }) rfl) (fun _ s' z=>?_) fun _ _ x=>x);rw [z];exact wpAny_throw hE
theorem Aw {env:Env} {nm q:Str} {N h:Addr} {bs bm:List Value} {hdct:Bool} {sn:List Str} {sub:List Value} {ab:Bool} {col:Option Bool} {dd:Option Addr} {k0 k1 k2 k3 k5:Option Value} {newId:String} {x cz:Sem Value} {Q:Flow->Shared->Prop} (hbase:bm.contains (.type "BaseException")=true) (hh:A.handled=some (.ref h))
   (hx:wpAny (model prog w) A x (fun v s₁=>∃ e a dct,v=.ref e/\s₁.heap.get? C=some (excClassObj nm q C N bs bm hdct sn sub ab col dd k0 k1 k2 k3 k5 newId) /\
     s₁.heap.get? e=some { cls:=.ref C,dict:=dct,data:=.fields #[a,.none,.none,.none,.bool false,.none] }/\h≠e/\(∃ oh vh,s₁.heap.get? h=some oh/\oh.data=.fields vh/\vh[2]?=some .none) /\
     wpAny (model prog w) A cz (fun v' s₂=>v'=.none/\s₂.heap=s₁.heap/\∀ h',(∀ b,b≠e->h'.get? b=s₁.heap.get? b)->h'.get? e=some { cls:=.ref C,dict:=dct,data:=.fields #[a,.none,.ref h,.none,.bool true,.none] }->h'.objs.size=s₁.heap.objs.size->E (.ref e) { s₂ with heap:=h' }) E s₁) E s) :
   wpAny (model prog w) A (raiseStmt env (some x) (some cz)) Q E s:=by
 have hcB:(Value.ref C::bm).contains (.type "BaseException")=true:=by rw [List.contains_cons,hbase,Bool.or_true]
 unfold raiseStmt;refine wpAny_bind (wpAny_mono hx (fun v s₁ h₁=>?_) fun _ _ x=>x);obtain ⟨e,a,dct,rfl,hC,he,hne,⟨oh,vh,ho,hdh,hc⟩,hz⟩:=h₁;refine wpAny_bind (wpAny_holding (wpAny_mono hz (fun v' s₂ h₂=>?_) fun _ _ x=>x));obtain ⟨rfl,hhp,hE⟩:=h₂;obtain ⟨hp,g,d,tk,os⟩:=s₂;have hhp':hp=s₁.heap:=hhp;subst hhp';repeat (first | with_reducible refine wpAny_loadPart_at he ?_ | with_reducible refine wpAny_loadPart_at hC ?_ | (with_reducible refine wpAny_isSubtype_exc hC ?_;rw [hcB]) | wp_step)
 have hCe:e≠C:=by
   intro z;subst z;rw [he] at hC;injection hC with hC
   have:=congrArg Obj.data hC;simp [excClassObj] at this
 have hC3:((s₁.heap.update e (Obj.mapFields fun x=>x.setIfInBounds 3 Value.none)).update e (Obj.mapFields fun x=>x.setIfInBounds 4 (Value.bool true))).get? C=some (excClassObj nm q C N bs bm hdct sn sub ab col dd k0 k1 k2 k3 k5 newId):=by
   rw [get?_update_other _ _ hCe,get?_update_other _ _ hCe];exact hC
 have he3:((s₁.heap.update e (Obj.mapFields fun x=>x.setIfInBounds 3 Value.none)).update e (Obj.mapFields fun x=>x.setIfInBounds 4 (Value.bool true))).get? e=some { cls:=.ref C,dict:=dct,data:=.fields #[a,.none,.none,.none,.bool true,.none] } :=
   get?_update_self _ (get?_update_self _ he rfl) rfl
 have ho3:((s₁.heap.update e (Obj.mapFields fun x=>x.setIfInBounds 3 Value.none)).update e (Obj.mapFields fun x=>x.setIfInBounds 4 (Value.bool true))).get? h=some oh:=by
   rw [get?_update_other _ _ (Ne.symm hne),get?_update_other _ _ (Ne.symm hne)];exact ho
 repeat (first | with_reducible refine wpAny_loadPart_at hC3 ?_ | with_reducible refine wpAny_loadPart_at he3 ?_ | wp_step)
 refine Xi hh hne he3 rfl (by show 2<6;decide) ho3 hdh hc ?_;refine hE _ (fun b hb=>?_) (get?_update_self _ he3 rfl) ?_
 · show (((s₁.heap.update e _).update e _).update e _).get? b=_
   rw [get?_update_other _ _ (Ne.symm hb),get?_update_other _ _ (Ne.symm hb),get?_update_other _ _ (Ne.symm hb)]
 · show (((s₁.heap.update e _).update e _).update e _).objs.size=_
   simp [Heap.update]
end
end L2
namespace L2
open PySem PySem.Spec PyProof.Rows
section
variable (P:Program) (w:World)
end
section
variable {P:Program} {w:World} {H H':Hp} {h h':Heap} {a:Addr} {o:HO}
end
section
variable {P:Program} {w:World} {H:Hp} {h h':Heap} {x e:Addr} {o':HO}
end
section
variable {fs fs' ex ex':List Addr} {H H1 H2:Hp} {h h1 h2 h':Heap} {a x e:Addr} {o:HO}
end
section
variable {X:Cx} {pins:Zzx} {σ:List (Option V)} {H H':Hp} {s:Shared} {h':Heap}
end
section
variable {X:Cx}
variable {a b:Expr} {ta tb:TE} {pos:Pos}
variable {tA tB':TT} {rest:List Expr}
end
section
variable {X:Cx} {pins:Zzx} {σ:St} {H:Hp} {s:Shared} {a:Addr} {xs ys:List V}
end
section
variable {X:Cx} {pins:Zzx} {σ:St} {H:Hp} {s:Shared} {E:Zzz}
end
section
variable {X:Cx} {st:Stmt} {rest:List Stmt} {t u:TS} {e:Expr} {te:TE} {pos:Pos}
end
section
variable {X:Cx} {pos:Pos}
end
section
variable {X:Cx} {tg:Expr}
end
section
variable {X:Cx} {a b c:Expr} {ta tb tc:TE} {pos:Pos}
end
section
variable {prog:Program} {w:World} {A:Around} {E:Zzz} {s:Shared} {K:Zzy} {x dx C f:Addr} {mA:Zzw} {name:Str} {v:Value}
end
section
variable {P:Program} {w:World} {H H':Hp} {h h':Heap} {a C dx:Addr} {fs fs':List (Str×V)}
end
section
variable {X:Cx} {pins:Zzx} {σ:St} {H:Hp} {s:Shared} {a C dx:Addr} {fs:List (Str×V)} {f:Str} {v:V} {A:Around} {E:Zzz}
end
section
variable {X:Cx} {o e value:Expr} {f:Str} {pos pos' tpos:Pos} {ta tv:TE}
end
section
variable {X:Cx} {pins:Zzx} {σ:St} {H:Hp} {s:Shared} {A:Around} {E:Zzz} {Q:Zzz} {c:Value} {b:Bool}
end
section
variable {X:Cx} {e:Expr} {es:List Expr} {te:TE} {t:TA} {pos:Pos}
end
section
variable {X:Cx} {pins:Zzx} {σ:St} {H:Hp} {s s':Shared}
end
section
variable {X:Cx} {CX:Ow} {k:Nat} {f C:Addr} {fd:FuncData} {ps:List Str} {sp:Sp} {dvs:List V} {ds:List Value} {E:XK} {x m:Str} {p pos apos:Pos} {e o:Expr} {es:List Expr} {ta:TE} {t:TA}
end
section
variable {X:Cx} {CX:Ow} {k:Nat} {f C:Addr} {fd:FuncData} {ps ks:List Str} {sp:Sp} {E:XK} {x m:Str} {p pos apos kpos:Pos} {e o:Expr} {es:List Expr} {kws:List Keyword} {te ta:TE} {t tk:TA} {nm:Option Str}
variable {g:List Value->List Value->List Value} {gV:List V->List V->List V}
end
section
variable {X:Cx} {x:Str} {p pos:Pos} {e:Expr} {es:List Expr} {t:TA} {id T:String} {r:List V->Hp->VK->Prop}
end
section
variable {κ:Type} [DecidableEq κ]
def Tx (kvs:List (κ×V)) (k:κ):Option V:=(kvs.find? fun kv=>decide (kv.1=k)).map (·.2)
def Gs (kvs:List (κ×V)) (k:κ) (v:V):List (κ×V) :=
 if (kvs.any fun kv=>decide (kv.1=k))=true then kvs.map (fun kv=>if kv.1=k then (kv.1,v) else kv) else kvs++[(k,v)]
theorem Hv {p:κ×V} {r:List (κ×V)} {k:κ} (e:p.1=k):Tx (p::r) k=some p.2:=by simp [Tx,find?_cons,e]
theorem Hl {p:κ×V} {r:List (κ×V)} {k:κ} (e:¬ p.1=k):Tx (p::r) k=Tx r k:=by simp [Tx,find?_cons,e]
theorem Il (k:κ):∀ kvs:List (κ×V),(kvs.any fun kv=>decide (kv.1=k))=(Tx kvs k).isSome
 | []=>rfl
 | p::r=>by
  rw [any_cons];by_cases e:p.1=k
  ·simp only [Hv e,decide_eq_true e,Bool.true_or,Option.isSome_some]
  ·rw [Hl e,decide_eq_false e,Bool.false_or];exact Il k r
theorem Kn (kvs:List (κ×V)) (k:κ) (v:V):(Gs kvs k v).length<=kvs.length+1:=by
 unfold Gs;split
 ·rw [length_map];lia
 ·rw [length_append,length_cons,List.length_nil];lia
theorem Br {kvs:List (κ×V)} {k:κ} (v:V) (h:Tx kvs k=none):Gs kvs k v=kvs++[(k,v)]:=by
 unfold Gs;rw [Il,h];exact if_neg (by decide)
theorem Rv.isSome_eq {o:Option V} {u:Option Value} (r:Rv o u):o.isSome=u.isSome:=by
 cases o with
 | none=>cases u with
  | none=>rfl
  | some _=>exact (show False from r).elim
 | some _=>cases u with
  | none=>exact (show False from r).elim
  | some _=>rfl
theorem KV.val {kvs:List (κ×V)} {vs:List (κ×Value)} (r:KV kvs vs) (k:κ):Rv (Tx kvs k) (valueAt vs k):=by
 unfold KV at r;induction r with
 | nil=>exact True.intro
 | @cons p q ps qs h t ih =>
  obtain ⟨h1,h2⟩:=h;by_cases e:p.1=k
  ·have e':q.1=k:=h1.symm.trans e
   have b:valueAt (q::qs) k=some q.2:=by simp [valueAt,find?_cons,e']
   rw [Hv e,b];exact h2
  ·have e':¬ q.1=k:=fun z=>e (h1.trans z)
   have b:valueAt (q::qs) k=valueAt qs k:=by simp [valueAt,find?_cons,e']
   rw [Hl e,b];exact ih
theorem KV.any {kvs:List (κ×V)} {vs:List (κ×Value)} (r:KV kvs vs) (k:κ):(kvs.any fun kv=>decide (kv.1=k))=vs.any fun kv=>decide (kv.1=k):=by
 unfold KV at r;induction r with
 | nil=>rfl
 | cons h t ih=>rw [any_cons,any_cons,ih,h.1]
theorem KV.repl {kvs:List (κ×V)} {vs:List (κ×Value)} (r:KV kvs vs) (k:κ) (ry:Yb y u) :
  KV (kvs.map fun kv=>if kv.1=k then (kv.1,y) else kv) (vs.map fun kv=>if kv.1=k then (kv.1,u) else kv):=by
 unfold KV at r ⊢;induction r with
 | nil=>exact .nil
 | @cons p q ps qs h t ih =>
  rw [map_cons,map_cons];refine .cons ?_ ih;obtain ⟨h1,h2⟩:=h;by_cases e:p.1=k
  ·rw [if_pos e,if_pos (h1.symm.trans e)];exact ⟨h1,ry⟩
  ·rw [if_neg e,if_neg (fun z=>e (h1.trans z))];exact ⟨h1,h2⟩
theorem KV.put {kvs:List (κ×V)} {vs:List (κ×Value)} (r:KV kvs vs) (k:κ) (ry:Yb y u):KV (Gs kvs k y) (stored vs k u):=by
 unfold Gs stored;rw [r.any k];by_cases e:(vs.any fun kv=>decide (kv.1=k))=true
 ·rw [if_pos e,if_pos e];exact r.repl k ry
 ·rw [if_neg e,if_neg e];exact Paired.snoc r ⟨rfl,ry⟩
theorem KV.length {kvs:List (κ×V)} {vs:List (κ×Value)} (r:KV kvs vs):kvs.length=vs.length:=Paired.length r
end
theorem Z22 {k:V5} (r:Yb (kV k) u):(Wz P w).is k u=true:=by
 cases k with
 | inl i=>obtain ⟨t,e⟩:=(show ∃ t,u=Value.int i t from r);subst e;exact Bm P w i t
 | inr x=>obtain ⟨t,e⟩:=(show ∃ t,u=Value.str x t from r);subst e;exact Ah P w x t
theorem Pg:∀ {ks:List V5} {us:List Value},Zx (ks.map kV) us->ItemsAre (Wz P w) ks us
 | [],_,r=>by rw [map_nil] at r;cases r;exact .nil
 | k::ks,_,r=>by
  rw [map_cons] at r;cases r with
  | cons h t=>exact .cons (Z22 h) (Pg t)
abbrev KT (H:Hp):List (List V5×V)->List (List V5×Addr×Value)->Prop:=Paired fun p q=>p.1=q.1/\H q.2.1=some (.tup (p.1.map kV))/\Yb p.2 q.2.2
theorem KT.val {xs:List (List V5×Addr×Value)} (r:KT H kvs xs) (k:List V5):Rv (Tx kvs k) ((atKey xs k).map (·.2)):=by
 induction r with
 | nil=>exact True.intro
 | @cons p q ps qs h t ih =>
  obtain ⟨h1,_,h2⟩:=h;by_cases e:p.1=k
  ·have e':q.1=k:=h1.symm.trans e
   have b:atKey (q::qs) k=some q.2:=by simp [atKey,find?_cons,e']
   rw [Hv e,b];exact h2
  ·have e':¬ q.1=k:=fun z=>e (h1.trans z)
   have b:atKey (q::qs) k=atKey qs k:=by simp [atKey,find?_cons,e']
   rw [Hl e,b];exact ih
theorem KT.repl {xs:List (List V5×Addr×Value)} (r:KT H kvs xs) (k:List V5) (ry:Yb y u) :
  KT H (kvs.map fun kv=>if kv.1=k then (kv.1,y) else kv) (xs.map (putAt k u)):=by
 induction r with
 | nil=>exact .nil
 | @cons p q ps qs h t ih =>
  rw [map_cons,map_cons];refine .cons ?_ ih;obtain ⟨h1,h2,h3⟩:=h;unfold putAt;by_cases e:p.1=k
  ·rw [if_pos e,if_pos (h1.symm.trans e)];exact ⟨h1,h2,ry⟩
  ·rw [if_neg e,if_neg (fun z=>e (h1.trans z))];exact ⟨h1,h2,h3⟩
theorem KT.put {xs:List (List V5×Addr×Value)} (r:KT H kvs xs) (k:List V5) (hb:H b=some (.tup (k.map kV))) (ry:Yb y u) :
  KT H (Gs kvs k y) (storedH xs k b u):=by
 have e:(kvs.any fun kv=>decide (kv.1=k))=(atKey xs k).isSome:=by
  rw [Il,(r.val k).isSome_eq,Option.isSome_map]
 unfold Gs storedH;rw [e];by_cases q:(atKey xs k).isSome=true
 ·rw [if_pos q,if_pos q];exact r.repl k ry
 ·rw [if_neg q,if_neg q];exact Paired.snoc r ⟨rfl,hb,ry⟩
theorem KT.keeps {xs:List (List V5×Addr×Value)} (r:KT H kvs xs) (ht:∀ b ys,H b=some (.tup ys)->H' b=some (.tup ys)):KT H' kvs xs :=
 Paired.mapP r fun _ _ z=>⟨z.1,ht _ _ z.2.1,z.2.2⟩
section
variable {P:Program} {w:World} {H:Hp} {h:Heap} {a:Addr}
theorem Zbd {u:HO} (ok:S4 P w H h) (e:Rd H a u):Yz P w H h a u:=e.ok ok
theorem Z67 {kvs:List (V5×V)} (ok:S4 P w H h) (e:Rd H a (.dK kvs)):kvs.length<=sizeLine/\(a==sysModules)=false/\∃ vs,KV kvs vs/\h.DictOf (Wz P w) a vs :=
 show Yz P w H h a (.dK kvs) from Zbd ok e
theorem Zbj {kvs:List (V5×V)} (ok:S4 P w H h) (e:H a=some (.dK kvs)):kvs.length<=sizeLine/\(a==sysModules)=false/\∃ vs,KV kvs vs/\h.DictOf (Wz P w) a vs:=Z67 ok (.inl e)
theorem Xo {ks:List V5} (ok:S4 P w H h) (e:H a=some (.tup (ks.map kV))):(tupleKind (Wz P w)).is h ks a:=by
 obtain ⟨_,its,r,o,h1,h2,n,h3⟩:=(show Yz P w H h a (.tup (ks.map kV)) from ok a _ e);exact ⟨o,its.toArray,n,h1,h2,h3,by simpa using Pg r⟩
theorem Z83 (ok:S4 P w H h) (e:Rd H a (.dT kvs)):kvs.length<=sizeLine/\(a==sysModules)=false /\
  ∃ xs,KT H kvs xs/\h.DictOfH (tupleKind (Wz P w)) a xs:=by
 obtain ⟨z,y,xs,r,o,es,ep,h1,h2,h3,h4,h5⟩:=(show Yz P w H h a (.dT kvs) from Zbd ok e);refine ⟨z,y,xs,r,o,es,ep,h1,h2,h3,h4,fun x hx=>?_,h5⟩;have all:∀ {l:List (List V5×V)} {m:List (List V5×Addr×Value)},KT H l m->∀ x∈m,(tupleKind (Wz P w)).is h x.1 x.2.1:=by
  intro l m q;induction q with
  | nil=>intro x hx;exact nomatch hx
  | @cons p q ps qs hq t ih =>
   intro x hx;rcases mem_cons.mp hx with e | hx
   ·subst e
    exact Xo ok (by rw [← hq.1];exact hq.2.1)
   ·exact ih x hx
 exact all r x hx
theorem Zbh (ok:S4 P w H h) (e:H a=some (.dT kvs)):kvs.length<=sizeLine/\(a==sysModules)=false /\
 ∃ xs,KT H kvs xs/\h.DictOfH (tupleKind (Wz P w)) a xs:=Z83 ok (.inl e)
end
def Z6m (H:Hp) (a:Addr) (y:V) (r:Option V):Prop :=
 (∃ kvs k,Rd H a (.dK kvs)/\y=kV k/\r=Tx kvs k)\/∃ kvs k b,Rd H a (.dT kvs)/\y=.ref b/\H b=some (.tup (k.map kV))/\r=Tx kvs k
def Z84 (H:Hp) (a:Addr) (y v:V) (H':Hp):Prop :=
 (∃ kvs k,H a=some (.dK kvs)/\y=kV k/\kvs.length<sizeLine/\H'=Yn H a (.dK (Gs kvs k v))) \/
 ∃ kvs k b,H a=some (.dT kvs)/\y=.ref b/\H b=some (.tup (k.map kV))/\kvs.length<sizeLine/\H'=Yn H a (.dT (Gs kvs k v))
theorem Z6m.t {k:List V5} (e:H a=some (.dT kvs)) (eb:H b=some (.tup (k.map kV))):Z6m H a (.ref b) (Tx kvs k):=.inr ⟨kvs,k,b,.inl e,rfl,eb,rfl⟩
theorem Z84.t {k:List V5} (e:H a=some (.dT kvs)) (eb:H b=some (.tup (k.map kV))) (hl:kvs.length<sizeLine) :
 Z84 H a (.ref b) v (Yn H a (.dT (Gs kvs k v))):=.inr ⟨kvs,k,b,e,rfl,eb,hl,rfl⟩
section
variable {X:Cx} {pins:Zzx} {σ:St} {H:Hp} {s:Shared} {a:Addr} {y v:V} {u r:Value} {o:Option V} {A:Around} {E:Zzz}
theorem Inv.big (I:Inv X pins σ H s):sysModules<s.heap.objs.size:=by
 have h:mainGlobals<s.heap.objs.size:=(I.mod.glob.keeps I.bk).lt;exact Nat.lt_trans (by decide) h
theorem Zhz (hu:A.units+1<cLine) (I:Inv X pins σ H s) (g:Z6m H a y o) (ry:Yb y u) (h:∀ s',Inv X pins σ H s'->Q (.bool o.isSome) s') :
  wpAny (model X.prog X.w) A (compareOp .In u (.ref a)) Q E s:=by
 rcases g with ⟨kvs,k,e,ey,l⟩ | ⟨kvs,k,b,e,ey,eb,l⟩
 ·subst ey
  obtain ⟨z,hd,vs,rel,dd⟩:=Z67 I.hok e;refine wpAny_in_of (Z22 ry) hd dd.mapOf ?_;rw [← (rel.val k).isSome_eq,← l];exact h _ (I.tok _)
 ·subst ey
  cases (show u=Value.ref b from ry);obtain ⟨z,hd,xs,rel,dd⟩:=Z83 I.hok e;refine wpAny_in_heap (tupleKind_room_in1 hu) (Xo I.hok eb) hd dd ?_;have q:=(rel.val k).isSome_eq;rw [Option.isSome_map] at q;rw [← q,← l];exact h _ (I.tok _)
theorem N0 {ob:HO} (I:Inv X pins σ H s) (mu:Mut (H a)) (hs:SameBut a s.heap h') (he:∃ q,h'.get? a=some q) (new:Yz X.prog X.w (Yn H a ob) h' a ob) :
  Inv X pins σ (Yn H a ob) { s with heap:=h',toks:=t' } :=
 I.write (x:=a) (e:=a) mu (.inl rfl) (fun b q hb z=>(hs.2 b hb).trans z) he new
theorem Z7l {kvs:List (V5×V)} {vs:List (V5×Value)} (z:kvs.length<=sizeLine) (hd:(a==sysModules)=false) (rel:KV kvs vs) (dd:h'.DictOf (Wz P w) a vs) :
 Yz P w H' h' a (.dK kvs):=⟨z,hd,vs,rel,dd⟩
theorem Z41 {Q:Unit->Shared->Prop} (hu:A.units+1<cLine) (I:Inv X pins σ H s) (g:Z84 H a y v H') (ry:Yb y u) (rv:Yb v r) (h:∀ s',Inv X pins σ H' s'->Q () s') :
  wpAny (model X.prog X.w) A (setItem (.ref a) u r) Q E s:=by
 rcases g with ⟨kvs,k,e,ey,l,eH⟩ | ⟨kvs,k,b,e,ey,eb,l,eH⟩
 ·subst ey eH
  obtain ⟨z,hd,vs,rel,dd⟩:=Zbj I.hok e;have hz:vs.length<=sizeLine:=by rw [← rel.length];exact z
  have hl:(Gs kvs k v).length<=sizeLine:=by have:=Kn kvs k v;lia
  refine wpAny_setItem_pairs (hsz:=hz) (Z22 ry) dd fun h' dd' hs=>h _ ?_
  have he:∃ q,h'.get? a=some q:=let ⟨q,_,_,hq,_⟩:=dd';⟨q,hq⟩
  exact N0 I (by rw [e];exact True.intro) hs he (Z7l hl hd (rel.put k rv) dd')
 ·subst ey eH
  cases (show u=Value.ref b from ry);obtain ⟨z,hd,xs,rel,dd⟩:=Zbh I.hok e;have hz:xs.length<=sizeLine:=by rw [← Paired.length rel];exact z
  have hl:(Gs kvs k v).length<=sizeLine:=by have:=Kn kvs k v;lia
  refine wpAny_setItem_heap (hsz:=hz) (tupleKind_room_in1 hu) (Xo I.hok eb) dd fun h' dd' hs=>h _ ?_
  obtain ⟨q,es,ep,hq,h2,h3,h4,_,h5⟩:=dd';refine N0 I (by rw [e];exact True.intro) hs ⟨q,hq⟩ ⟨hl,hd,_,(rel.put k eb rv).keeps fun c ys ec=>?_,q,es,ep,hq,h2,h3,h4,h5⟩;rw [Za (Zav ec e (fun z=>nomatch z))];exact ec
end
section
variable {X:Cx} {pins:Zzx} {σ:St} {H:Hp} {s:Shared} {a:Addr} {kvs:List (V5×V)} {k:V5} {u:Value} {A:Around} {E:Zzz}
end
def Zin (ty td:TE):TE:=fun σ H Q=>ty σ H fun y H1=>td σ H1 fun x H2=>∃ a o,x=.ref a/\Z6m H2 a y o/\Q (.bl o.isSome) H2
def Zfs (td ty tv:TE):TS:=fun D σ H=>tv σ H fun v H1=>td σ H1 fun x H2=>ty σ H2 fun y H3=>∃ a H4,x=.ref a/\Z84 H3 a y v H4/\D.nx σ H4
section
variable {X:Cx} {o i e value:Expr} {pos pos' tpos:Pos} {td ty tv:TE}
theorem Ze2 (hu:X.A.units+1<cLine) (hi:PE X i ty) (ho:PE X o td):PC X .In i o (Zin ty td):=by
 intro pins s σ H Q I h;refine Wp (hi pins s σ H _ I h) fun iv s1 ⟨y,H1,I1,ry,q1⟩=>Wp (ho pins s1 σ H1 _ I1 q1) fun u s2 ⟨x,H2,I2,rx,a,ov,ex,g,q2⟩=>?_
 subst ex;obtain rfl:u=Value.ref a:=rx;exact Zhz hu I2 g ry fun s3 I3=>⟨.bl ov.isSome,H2,I3,rfl,q2⟩
theorem Za0 (hu:X.A.units+1<cLine) (ho:PE X o td) (hi:PE X i ty) (hv:PE X value tv) (hs:swapsWith value (some (.Subscript o i pos')) pos.line X.env=pure false) :
  PS X (.Assign [.Subscript o i pos'] value pos) (Zfs td ty tv):=by
 intro pins s σ H D I h;refine wpAny_Assign_Subscript (Wp (hv pins s σ H _ I h) fun r s1 ⟨v,H1,I1,rv,q1⟩=>Wp (ho pins s1 σ H1 _ I1 q1) fun u s2 ⟨x,H2,I2,rx,q2⟩=>Wp (hi pins s2 σ H2 _ I2 q2) fun iv s3 ⟨y,H3,I3,ry,a,H4,ex,g,q3⟩=>?_) hs;subst ex;obtain rfl:u=Value.ref a:=rx;exact Z41 hu I3 g ry rv fun s4 I4=>⟨σ,H4,I4,q3⟩
end
theorem Z54 (h:Heap) (hb:sysModules<h.objs.size):Yz P w H (h.push { cls:=.type "dict",data:=.dict #[] }) h.objs.size (.dK []) :=
 ⟨zero_le _,beq_eq_false_iff_ne.mpr (Ne.symm (ne_of_lt hb)),[],.nil,Heap.DictOf.new h⟩
theorem Z6o (h:Heap) (hb:sysModules<h.objs.size):Yz P w H (h.push { cls:=.type "dict",data:=.dict #[] }) h.objs.size (.dT []) :=
 ⟨zero_le _,beq_eq_false_iff_ne.mpr (Ne.symm (ne_of_lt hb)),[],.nil,_,#[],0,get?_push_size _ rfl,⟨rfl,rfl,rfl⟩,rfl,rfl,nodup_nil⟩
def Zdh:TE:=fun _ H Q=>∀ p,H p=none->Q (.ref p) (Yn H p (.dK []))
section
variable {X:Cx} {pos:Pos}
theorem Z6n:PE X (.Dict [] [] pos) Zdh:=fun pins s σ H Q I h =>
 wpAny_Dict_empty ⟨.ref s.heap.objs.size,_,I.laid (a:=s.heap.objs.size) (o:=.dK []) (t':=s.toks) (fun _ _ q=>get?_push_of_some _ q) (le_refl _) (Z54 s.heap I.big),rfl,h _ (I.hok.fresh (le_refl _))⟩
end
structure M2 (X:Cx) (o:Expr) (m:Str) (apos:Pos) (e f:Expr) (cpos:Pos):Prop where
 base:attributeBase o m X.env (eval o X.env)=eval o X.env
 few:((backTo cpos (starEach [e,f] X.env)).all (fun x=>!x.1)&&(backToKw cpos (keywordEach [] X.env)).all (fun x=>x.1.isSome)
  && decide (([e,f]:List Expr).length+([]:List Keyword).length+(if ([]:List Keyword).isEmpty then 0 else 1)<30))=true
 line:(apos.endLine==cpos.line)=true
 trees:backTo cpos (starEach [e,f] X.env)=[(false,eval e X.env),(false,eval f X.env)]
def IsD (H:Hp) (a:Addr):Prop:=(∃ kvs,Rd H a (.dK kvs))\/∃ kvs,Rd H a (.dT kvs)
theorem Zdv (I:Inv X pins σ H s) (d:IsD H a) :
  s.TypeIs (.ref a) "dict" /\ (∀ b,Value.ref a=.ref b->∃ ob,s.heap.get? b=some ob/\ob.dict=none)/\(a==sysModules)=false:=by
 rcases d with ⟨kvs,e⟩ | ⟨kvs,e⟩
 ·obtain ⟨_,hd,vs,_,dd⟩:=Z67 I.hok e
  refine ⟨dd.typeIs,fun b q=>?_,hd⟩;cases q;obtain ⟨ob,_,_,h1,h2,_⟩:=dd;exact ⟨ob,h1,h2.2.1⟩
 ·obtain ⟨_,hd,xs,_,dd⟩:=Z83 I.hok e
  refine ⟨dd.typeIs,fun b q=>?_,hd⟩;cases q;obtain ⟨ob,_,_,h1,h2,_⟩:=dd;exact ⟨ob,h1,h2.2.1⟩
section
variable {X:Cx} {pins:Zzx} {σ:St} {H:Hp} {s:Shared} {a:Addr} {y d:V} {u r:Value} {o:Option V} {A:Around} {E:Zzz}
end
section
variable {X:Cx} {o e f:Expr} {apos cpos:Pos} {td ty tx:TE}
end
section
variable {X:Cx} {pins:Zzx} {σ:St} {H:Hp} {s:Shared} {a:Addr} {kvs:List (V5×V)} {A:Around} {E:Zzz}
end
section
variable {X:Cx} {pins:Zzx} {σ:St} {H:Hp} {s:Shared} {a:Addr} {y:V} {u:Value} {A:Around} {E:Zzz}
end
end L2
namespace Att
open PySem PySem.W PySem.Calls PyProof.Rows
section
variable {prog:Program} {w:World} {A:Around} {E:Zzz} {s:Shared} {K:Frag}
end
end Att
namespace L2
open PySem PySem.Spec PyProof.Rows
section
variable {P:Program} {w:World} {K:Zzy} {mg:Zzw} {base:Heap}
end
section
variable {X:Cx}
end
section
variable {κ:Type} [DecidableEq κ]
end
structure RoomN (k:Nat) (A:Around):Prop where
 dp:A.depth+3*k+5<recursionLimit
 un:A.units+16*k+200<cLine
 gd:A.guards=some []
theorem RoomN.mono {A:Around} (r:RoomN k A) (h:j<=k):RoomN j A:=⟨by have:=r.dp;lia,by have:=r.un;lia,r.gd⟩
theorem RoomN.deeper {A:Around} (r:RoomN (k+1) A) (env:Env):RoomN k (A.deeper env) :=
 ⟨by have:=r.dp;show A.depth+1+3*k+5<_;lia,by have:=r.un;show A.units+3+16*k+200<_;lia,r.gd⟩
theorem RoomN.depth {A:Around} (r:RoomN k A):A.depth<recursionLimit:=by have:=r.dp;lia
def HdS (A:Around) (h:Heap):Prop:=A.handled=none\/∃ e oe ve,A.handled=some (.ref e)/\h.get? e=some oe/\oe.data=.fields ve/\ve[2]?=some .none
def HdK (A:Around) (fs:List Addr) (H:Hp) (h:Heap):Prop:=A.handled=none\/∃ e oe ve,A.handled=some (.ref e)/\h.get? e=some oe/\oe.data=.fields ve/\ve[2]?=some .none/\H e=none/\e∉fs
def HdN (X:Cx):Prop:=∀ pins σ H s,Inv X pins σ H s->HdS X.A s.heap
def HdC (X:Cx):Prop:=∀ pins σ H s,Inv X pins σ H s->HdK X.A (E9 X.stack) H s.heap
theorem HdN.of (k:HdK X.A X.fs X.H₀ X.s₀.heap) (hx:X.ex=[]):HdN X:=fun _ _ _ _ I=>k.imp id fun ⟨e,oe,ve,h1,h2,h3,h4,h5,h6⟩=>⟨e,oe,ve,h1,I.base.keep e oe h2 h5 h6 (by rw [hx];simp),h3,h4⟩
theorem Room.n {A:Around} (r:Room k A):RoomN k A:=⟨r.dp,r.un,r.gd⟩
structure FnOkN (P:Program) (w:World) (K:Zzy) (mg:Zzw) (base:Heap) (CX:Ow) (k:Nat) (f:Addr) (fd:FuncData) (ps:List Str) (sp:Sp):Prop where
 len:∀ vs H Q E,sp vs H Q E->vs.length=ps.length
 run:∀ (A:Around) (outer:List Env) (s:Shared) (H:Hp) (args:Args) (us:List Value) (vs:List V) (Q:VK) (E:XK),RoomN k A->HdK A (E9 outer) H s.heap->Env0 P w K mg base A outer s H->BindsTo s fd args (ps.zip us)->Zx vs us->sp vs H Q E ->
  codeAny (model P w) A (.call (.ref f) args) (CR CX outer P w H s Q E) s
section
variable {X:Cx} {CX:Ow} {k:Nat} {f C:Addr} {fd:FuncData} {ps:List Str} {sp:Sp} {dvs:List V} {ds:List Value} {E:XK} {x m:Str} {p pos apos:Pos} {e o:Expr} {es:List Expr} {ta:TE} {t:TA}
theorem Zaf {Q:VK} (F:FnOkN X.prog X.w X.K X.mg X.base CX k f fd ps sp) (hr:RoomN k X.A) (hk:HdC X) (hb:M9 X.K fd ps ds) (hd:Zx dvs ds) (hx:O9 CX X E)
  (I:Inv X pins σ H s) (r:Zx vs us) (h:sp (vs++dvs) H Q E):wpAny (model X.prog X.w) X.A (call (.ref f) us) (EP X pins σ Q) X.xe s:=by
 have r2:Zx (vs++dvs) (us++ds):=r.append hd;have hl:(us++ds).length=ps.length:=by rw [← r2.length];exact F.len _ _ _ _ h
 refine wpAny_call (codeAny_mono (F.run X.A X.stack s H ⟨us,[]⟩ (us++ds) (vs++dvs) Q E hr (hk _ _ _ _ I) I.env0 (hb s us I.kIn hl) r2 h) fun r s' hq=>?_);cases r with
 | error e=>exact hx pins σ H s e s' I hq
 | ok fl =>
  cases fl with
  | ret u=>exact I.after hq
  | next=>exact False.elim hq
  | brk=>exact False.elim hq
  | cont=>exact False.elim hq
theorem Z77 (F:FnOkN X.prog X.w X.K X.mg X.base CX k f fd ps sp) (hr:RoomN k X.A) (hh:HdC X) (hg:Gl X x) (hm:X.mg x=some (.ref f)) (hk:PySem.W.keepIn X.K (.ref f)=true) (hb:M9 X.K fd ps ds) (hd:Zx dvs ds) (hx:O9 CX X E)
  (ha:PA X (e::es) t) (hdb:(x==("__debug__" : Str))=false:=by decide) (he:starEach (e::es) X.env=(false,eval e X.env)::starEach es X.env:=by rfl) (hpl:(backTo pos (starEach es X.env)).any (·.1)=false:=by rfl) :
  PE X (.Call (.Name x p) (e::es) [] pos) (Z20 sp dvs E t):=by
 intro pins s σ H Q I h;refine wpAny_Call_Name_kw (Ue I hg hm ?_ hdb);refine PySem.W.callWith_K (h₀:=X.base) I.ok.mod.kin hk (Wp (ha pos pins s σ H _ I h) fun us s1 ⟨vs,H1,I1,r,q⟩=>⟨I1.kIn,?_⟩) he hpl;exact Zaf F hr hh hb hd hx I1 r q
end
def Sm (CX:Ow) (P:Program) (w:World) (K:Zzy) (mg:Zzw) (base:Heap) (N:List Str) (qual:Str) (scope:Scope) (f:Addr) (cd:Value) (A:Around) (outer:List Env) (s:Shared) (H:Hp) (E:XK):Cx where
 prog:=P
 w:=w
 K:=K
 mg:=mg
 base:=base
 A:=A.deeper (envOfC qual scope s.heap.objs.size f cd)
 N:=N
 s₀:=s
 H₀:=H
 env:=envOfC qual scope s.heap.objs.size f cd
 outer:=outer
 stack:=envOfC qual scope s.heap.objs.size f cd::outer
 ex:=[]
 calm:=false
 fn:=fun _=>true
 pn:=[]
 xe:=fun e s'=>wpAny (model P w) (A.deeper (envOfC qual scope s.heap.objs.size f cd)) (leaving (envOfC qual scope s.heap.objs.size f cd) e) (fun _ s''=>CX outer H s E e s'') (fun e' s''=>CX outer H s E e' s'') s'
theorem Cw {f:Addr} {A:Around} {s1:Shared} {E:XK} 
  (S:FnScope N ps scope) (e0:Env0 P w K mg base A outer s H) (hl:vs.length=ps.length) (r:Zx vs us)
  (x:InCallC s s.heap.objs.size (bindL (envOfC qual scope s.heap.objs.size f cd).kindOf (ps.zip us) fun _=>none) (cellsFrom (s.heap.objs.size+1) scope.names []) (bindC (envOfC qual scope s.heap.objs.size f cd).kindOf (ps.zip us) fun _=>none) s1) :
  Inv (Sm CX P w K mg base N qual scope f cd A outer s H E) [] (start N vs) H s1:=by
 have hpl:ps.length<=N.length:=by have:=congrArg List.length S.pre;rw [length_take] at this;lia
 obtain ⟨h1,tk,rfl,hk⟩:=x.done;have noA:∀ b:Addr,b∉(Sm CX P w K mg base N qual scope f cd A outer s H E).ex:=fun b z=>absurd (show b∈([]:List Addr) from z) (by simp)
 refine ⟨⟨e0.mod,S.kind,rfl,rfl,le_refl _,fun y z c h1 h2=>?_,fun y hy=>?_,fun y c _ h=>?_,(fun z=>nomatch z),Around.frames_deeper e0.frames,.inr ⟨rfl,rfl⟩,fun b z=>absurd z (noA b),e0.bs,e0.bsz,fun b _ _=>noA b,fun b z=>absurd z (noA b),e0.funs,e0.frf⟩,
  rfl,e0.bare,Un.kept hk,⟨_,x.toInCall.ns,fun i y v h1 h2 h3=>?_⟩,fun y c h=>⟨_,x.cell y c h⟩,e0.hok.fresh (le_refl _),fun y c h=>?_,fun p hp=>absurd (show p∈([]:Zzx) from hp) (by simp),e0.hok.kept hk,?_⟩
 ·exact name_of_addr x.apart (PySem.mem_of_lookup h1) (PySem.mem_of_lookup h2)
 ·have hy:scope.names.lookup y=some .cell\/scope.names.lookup y=some .free:=hy
  rcases hy with hy | hy
  ·exact H9 hy
  ·exact absurd rfl (S.nofree _ (PySem.mem_of_lookup hy))
 ·exact le_of_lt (x.above y c (PySem.mem_of_lookup h))
 ·have hi:i<vs.length:=by
   unfold start at h2;by_cases hi:i<vs.length
   ·exact hi
   ·rw [List.getElem?_append_right (by simpa using hi)] at h2
    rw [List.getElem?_replicate] at h2;split at h2<;>cases h2
  have ha:vs[i]?=some v:=by
   unfold start at h2;rw [getElem?_append_left (by simpa using hi),getElem?_map] at h2;cases e:vs[i]? with
   | none=>rw [e] at h2;cases h2
   | some a=>rw [e] at h2;cases h2;rfl
  obtain ⟨u,hu,rv⟩:=r.get ha;have hp:ps[i]?=some y:=by
   rw [← S.pre,List.getElem?_take_of_lt (by lia)];exact h1
  have ndP:ps.Nodup:=by rw [← S.pre];exact S.nd.sublist (List.take_sublist _ _)
  refine ⟨u,rv,?_⟩;rcases S.par y (mem_of_getElem? hp) with k | k
  ·exact .inl ⟨k,K1 ndP hp hu k⟩
  ·obtain ⟨c,e⟩:=H9 (n:=s.heap.objs.size+1) k
   refine .inr ⟨.inl k,c,e,?_⟩;have q:=x.cell y c e;rw [K3 ndP hp hu (by show scope.names.lookup y≠_;rw [k];decide)] at q;exact q
 ·exact e0.hok.fresh (le_of_lt (x.above y c (PySem.mem_of_lookup h)))
 ·unfold start
  show _=N.length;rw [length_append,length_map,length_replicate];lia
theorem Zdm {f:Addr} {name:Str} {params:Arguments} {dV kV doc cdv:Value} 
  {osl:Array (Option Value)} {N ps:List Str} {sp:Sp} (lk:K.lookup f=some ⟨oc,od,.func (fnOf name qual params body scope dV kV doc pm an cdv ct),osl⟩) (hcd:codeIn K cdv qual=true) (S:FnScope N ps scope)
  (len:∀ vs H Q E,sp vs H Q E->vs.length=ps.length)
  (hbody:∀ (A:Around) (outer:List Env) (s:Shared) (H:Hp) (vs:List V) (Q:VK) (E:XK),RoomN k (A.deeper (envOfC qual scope s.heap.objs.size f cdv))->HdK A (E9 outer) H s.heap->sp vs H Q E ->
   ∃ t,Dh (Sm CX P w K mg base N qual scope f cdv A outer s H E) body t/\t { nx:=fun _ H'=>Q .non H',rt:=Q } (start N vs) H) :
  FnOkN P w K mg base CX (k+1) f (fnOf name qual params body scope dV kV doc pm an cdv ct) ps sp:=by
 refine ⟨len,fun A outer s H args us vs Q E hr hk e0 hb r hsp=>?_⟩;have hl:=len _ _ _ _ hsp;have KX:K.In s.heap:=e0.mod.kin.keeps fun b o e=>(e0.bs b o e).1
 have lim:s.heap.NoLimit:=e0.mod.nolimit.keeps fun b o e=>(e0.bs b o e).1
 have hkind:∀ y∈ps.zip us,scope.names.lookup y.1=some .local\/(scope.names.lookup y.1=some .cell/\((cellsFrom (s.heap.objs.size+1) scope.names []).lookup y.1).isSome=true):=fun ⟨n,v⟩ hy=>by
  rcases S.par n (of_mem_zip hy).1 with q | q
  ·exact .inl q
  ·exact .inr ⟨q,cellsFrom_some _ _ _ (.inl q)⟩
 refine codeAny_call_function hr.depth (KX _ _ lk) rfl S.co S.gen rfl (codeRec_of KX hcd) (hb _ _ _ _ ?_);refine wpAny_newFunctionEnv_cells S.kind hkind fun env he s1 x=>?_
 subst he;refine ⟨lim.keeps x.toInCall.keep,codeAny_func ?_⟩;obtain ⟨t,ht,hq⟩:=hbody A outer s H vs Q E (hr.deeper _) hk hsp;have I:Inv (Sm CX P w K mg base N qual scope f cdv A outer s H E) [] (start N vs) H s1:=Cw S e0 hl r x;refine wpAny_mono (ht [] s1 (start N vs) H _ I hq) (fun fl s' hs=>?_) fun e s' hs=>hs
 have fin:∀ {σ':St} {H':Hp} {v:V} {u:Value},Inv (Sm CX P w K mg base N qual scope f cdv A outer s H E) [] σ' H' s'->Yb v u->Q v H'->CE outer P w H s Q u s' :=
  fun {σ' H' v u} J rv q=>⟨v,H',J.os,J.bare,J.base,J.hok,rv,q⟩
 cases fl with
 | ret u =>
  obtain ⟨v,σ',H',J,rv,q⟩:=hs;exact fin J rv q
 | next =>
  obtain ⟨σ',H',J,q⟩:=hs;exact fin (v:=V.non) (u:=Value.none) J rfl q
 | brk =>
  obtain ⟨_,_,_,q⟩:=hs;exact False.elim q
 | cont =>
  obtain ⟨_,_,_,q⟩:=hs;exact False.elim q
theorem FnOkN.x {P:Program} {w:World} {K:Zzy} {mg:Zzw} {base:Heap} {CX:Ow} {k:Nat} {f:Addr} {fd:FuncData} {ps:List Str} {sp:Sp} (F:FnOkN P w K mg base CX k f fd ps sp):FnOk P w K mg base CX k f fd ps sp :=
 ⟨F.len,fun A outer s H args us vs Q E hr e0 hb r hsp=>F.run A outer s H args us vs Q E hr.n (.inl hr.hd) e0 hb r hsp⟩
end L2
namespace PySem
open Sem (wp)
open AutoSeq1 (wpAny_loadPart')
namespace F
theorem nolen_lr:typeLookup (.type "list_reverseiterator") "__len__" = pure none:=by rw [typeLookup_type,builtinLookup_eq_fast];kernel_rfl
theorem hint_lr:typeLookup (.type "list_reverseiterator") "__length_hint__" = pure (some (.builtin "list_reverseiterator.__length_hint__")):=by rw [typeLookup_type,builtinLookup_eq_fast];kernel_rfl
end F
section
variable {prog:Program} {w:World} {A:Around} {E:Zzz} {s:Shared}
end
section
variable {prog:Program} {w:World} {A:Around} {s:Shared} {R:Result->Shared->Prop}
variable {I:Addr} {fp wr:List Addr} {G:Array GenState->Array GenState->Prop} {n:Nat} {P:Nat->Value->Prop} {St:Nat->Shared->Prop}
def X3 (prog:Program) (w:World) (A:Around) (I:Addr) (St:Nat->Shared->Prop):Prop:=∀ (s:Shared) (Q:Bool->Shared->Prop) (E:Zzz),St 0 s->(∀ tk,s.toks<=tk->Q false { s with toks:=tk })->wpAny (model prog w) A (Builtin.List.listLengthHint (.ref I)) Q E s
theorem L8 (W:WalksS prog w A.in1 I fp wr G n P St) (hT:∀ i s,St i s->s.TypeIs (.ref I) T) (hTm:T="range_iterator" \/ T="list_reverseiterator") (hh:X3 prog w A.in1 I St) (S:Addr) (res:Value) (c₀:Nat) (hst:St 0 s) (hSf:S∉fp) (hI:I∈fp)
  (hS:s.heap.get? S=some { cls:=.type "list",data:=.seq #[] c₀ })
  (hR:∀ s' acc' c',Moved (S::wr) G s s'->s'.heap.get? S=some { cls:=.type "list",dict:=none,data:=.seq acc' c',slots:=#[] }->ItemsOf P acc' n->R (.ok (.ret res)) s') (hn:n<=sizeLine) :
  wpAny (model prog w) A.in1 (Builtin.List.listExtendWith (.ref S) (.ref I) res)
   (fun fin s'=>match fin with | .done f=>R (.ok f) s' | .again c'=>c'.quiet=true/\codeAny (model prog w) A c' R s') (fun e s'=>R (.error e) s') s:=by
 have hSI:S≠I:=fun e=>hSf (e▸hI)
 unfold Builtin.List.listExtendWith;refine wpAny_bind (wpAny_typeOf (hT 0 _ hst) ?_);have h1:Builtin.List.listSameRef (.ref S) (.ref I)=false:=by simp [Builtin.List.listSameRef,hSI]
 have h2:(Value.type T==Value.type "list")=false:=by rcases hTm with rfl | rfl<;>decide
 have h3:(Value.type T==Value.type "tuple")=false:=by rcases hTm with rfl | rfl<;>decide
 simp only [h1,h2,h3,Bool.or_false,Bool.false_eq_true,if_false];refine wpAny_bind (W.self 0 _ _ _ hst ?_);refine wpAny_bind (wpAny_holding (hh s _ _ hst fun tk htk=>?_));rw [if_neg (by rcases hTm with rfl | rfl<;>decide)];have hst₂:=W.frame 0 _ _ tk hst htk fun b _ o e=>e
 refine wpAny_pure ⟨plainId_quiet F.plain_extend_loop _,codeAny_extend_loopS W hn _ hSf _ n 0 _ _ _ rfl (zero_le _) hst₂ hS (ItemsOf.nil P) fun s' acc' c' hm hS' hacc=>?_⟩;exact hR s' acc' c' (Moved.trans W.gtrans ((Moved.refl W.grefl).then_heap htk fun b o hb e=>e) hm) hS' hacc
theorem G9 (W:WalksS prog w A.in1 I fp wr G n P St) (hT:∀ i s,St i s->s.TypeIs (.ref I) T) (hTm:T="range_iterator" \/ T="list_reverseiterator") (hh:X3 prog w A.in1 I St) (S:Addr) (hst:St 0 s) (hSf:S∉fp) (hI:I∈fp)
  (hS:s.heap.get? S=some { cls:=.type "list",data:=.seq #[] })
  (hR:∀ s' acc' c',Moved (S::wr) G s s'->s'.heap.get? S=some { cls:=.type "list",dict:=none,data:=.seq acc' c',slots:=#[] }->ItemsOf P acc' n->R (.ok (.ret .none)) s') (hn:n<=sizeLine) :
  wpAny (model prog w) A.in1 (Builtin.«list.__init__» ⟨[.ref S,.ref I],[]⟩)
   (fun fin s'=>match fin with | .done f=>R (.ok f) s' | .again c'=>c'.quiet=true/\codeAny (model prog w) A c' R s') (fun e s'=>R (.error e) s') s:=by
 show wpAny _ A.in1 (do let old ← Builtin.List.listItems (.ref S);Builtin.List.listUpdate (.ref S) (fun _=>#[]);letGo old.toList.reverse;Builtin.List.listExtendWith (.ref S) (.ref I) .none) _ _ s;refine wpAny_bind ?_;unfold Builtin.List.listItems;refine wpAny_bind (wpAny_seqItems hS rfl (wpAny_pure ?_));show wpAny _ A.in1 (updateSeq S (fun _=>#[]) >>= fun _=>letGo (#[]:Array Value).toList.reverse >>= fun _=>Builtin.List.listExtendWith (.ref S) (.ref I) .none) _ _ s;refine wpAny_bind (wpAny_updateSeq hS rfl ?_);have hS₂:=get?_update_self (Obj.mapSeq (fun _=>(#[]:Array Value))) hS rfl;have oth:∀ b o,b≠S->s.heap.get? b=some o->(s.heap.update S (Obj.mapSeq (fun _=>(#[]:Array Value)))).get? b=some o :=
  fun b o hb e=>(get?_update_other _ _ (Ne.symm hb)).trans e
 refine wpAny_bind (wpAny_letGo ?_);refine L8 (hn:=hn) W hT hTm hh S .none _ (W.frame 0 s _ s.toks hst (le_refl _) fun b hb o e=>oth b o (fun h=>hSf (h▸hb)) e) hSf hI hS₂ fun s' acc' c' hm hS' hacc=>?_
 exact hR s' acc' c' (Moved.trans W.gtrans ((Moved.refl W.grefl).then_heap (le_refl _) fun b o hb e=>oth b o (fun h=>hb (h▸mem_cons_self)) e) hm) hS' hacc
end
section
variable {prog:Program} {w:World} {A:Around} {E:Zzz} {s:Shared}
variable {I:Addr} {fp wr:List Addr} {n:Nat} {P:Nat->Value->Prop} {St:Nat->Shared->Prop}
theorem A5 (W:WalksS prog w A.in1.in1 I fp wr (fun a b=>b=a) n P St) (hT:∀ i s,St i s->s.TypeIs (.ref I) T) (hTm:T="range_iterator" \/ T="list_reverseiterator") (hh:X3 prog w A.in1.in1 I St) (hst:St 0 s) (hfp:∀ b∈fp,b<s.heap.objs.size) (hI:I∈fp)
  (hQ:∀ h' tk acc' c',(∀ b o,b∉wr->s.heap.get? b=some o->h'.get? b=some o)->h'.get? s.heap.objs.size=some { cls:=.type "list",dict:=none,data:=.seq acc' c',slots:=#[] }->ItemsOf P acc' n->Q (.ref s.heap.objs.size) { s with heap:=h',toks:=tk }) (hn:n<=sizeLine) :
  wpAny (model prog w) A (call (.type "list") [.ref I]) Q E s:=by
 have hSf:s.heap.objs.size∉fp:=fun hm=>lt_irrefl _ (hfp _ hm)
 refine callType_codes (Q₁:=fun obj s₁=>obj=.ref s.heap.objs.size/\s₁={ s with heap:=s.heap.push { cls:=.type "list",data:=.seq #[] } }) F.called_list (F.typeCall_list_1 _) F.entry_list_init
  (code_list_new _ ⟨rfl,rfl⟩) fun obj s₁ h₁=>?_
 obtain ⟨rfl,rfl⟩:=h₁;have hS:(s.heap.push { cls:=.type "list",data:=.seq #[] }).get? s.heap.objs.size=some { cls:=.type "list",data:=.seq #[] }:=get?_push_size _ rfl;refine ⟨⟨_,hS,rfl⟩,F.args_list_init_2 _ _,G9 (hn:=hn) W hT hTm hh _ (W.frame 0 s _ s.toks hst (le_refl _) fun b _ o e=>get?_push_of_some _ e) hSf hI hS fun s' acc' c' hm hS' hacc=>?_⟩;refine ⟨rfl,?_⟩;rw [Moved.eq_with hm];refine hQ s'.heap s'.toks acc' c' (fun b o hb e=>hm.heap b o (fun hmem=>?_) (get?_push_of_some _ e)) hS' hacc;rcases mem_cons.mp hmem with e' | hmem
 ·exact absurd (lt_size e) (by rw [e'];exact lt_irrefl _)
 ·exact hb hmem
end
section
variable {prog:Program} {w:World} {A:Around}
theorem Z7i (it:Addr) (St:Nat->Shared->Prop) (hT:∀ s,St 0 s->s.TypeIs (.ref it) "list_reverseiterator"):X3 prog w A it St:=fun s Q E hst hQ=>by
 unfold Builtin.List.listLengthHint;refine wpAny_bind (wpAny_specialOf (hT s hst) F.nolen_lr ?_);show wpAny _ _ (specialOf (Value.ref it) (Str.ofString "__length_hint__") >>= _) _ _ _;refine wpAny_bind (wpAny_specialOf (hT s hst) F.hint_lr ?_)
 (generalize hid:("list_reverseiterator.__length_hint__" : String)=id0;(fail_if_success (clear hid id0));wp_delta;rw [show splitId id0=some ("list_reverseiterator","__length_hint__") from by subst hid;decide +kernel];subst hid)
 refine wpAny_bind (wpAny_isInstance (b:=true) (hT s hst) (by rw [isSubtype_type];kernel_rfl) ?_);exact wpAny_pure (hQ s.toks (le_refl _))
end
section
variable {prog:Program} {w:World} {A:Around} {E:Zzz} {s:Shared}
theorem Sg {l h:Addr} {oh:Obj} {vh:Array Value} {Q:Option Value->Shared->Prop} (hh:A.handled=some (.ref h)) (hoh:s.heap.get? h=some oh) (hdh:oh.data=.fields vh) (hc2:vh[2]?=some .none) (hit:s.heap.IsRevIter it l (-1))
   (hQ:∀ h',ExtBut it s.heap h'->Q none { s with heap:=h' }):wpAny (model prog w) A (pyNext (.ref it)) Q E s:=by
 obtain ⟨o,ho,hc,hd⟩:=id hit;unfold pyNext;refine wpAny_bind (wpAny_attempt (wpAny_callSpecial?_slot (name:=Str.ofString "__next__") hit.typeIs F.slot_lri_next
   (wpAny_call_entry F.slot_lri_next hit.typeIs F.entry_lri_next ?_ (F.args_lri_next_1 _))))
 unfold Builtin.«list_reverseiterator.__next__»;refine wpAny_bind (wpAny_of_eq (a:=(Value.ref it,[])) rfl ?_);try dsimp only
 refine wpAny_bind (wpAny_field ho hd (x:=rawInt (-1)) rfl ?_);show wpAny _ _ (if (-1:Int)<0 then _ else _) _ _ s;rw [if_pos (by decide)];refine wpAny_bind (wpAny_rule ?_);first
 | show wpAny _ _ (newExc (.type "StopIteration") [] >>= _) _ _ _
 | (refine wpAny_bind ?_;show wpAny _ _ (newExc (.type "StopIteration") [] >>= _) _ _ _)
 refine wpAny_bind ?_;simp only [newExc,newTuple];refine wpAny_bind (wpAny_newObj_type ?_ (by size_fits));refine wpAny_bind (m:=firstArgMember _ _) (wpAny_of_eq (a:=Value.none) (by first | rfl | (simp only [firstArgMember];rfl)) ?_);refine wpAny_newObj_type ?_ (by size_fits);have hlt:=lt_size hoh;refine L2.Xi (A:=A.in1) (h:=h) hh ?_ (get?_push_size _ rfl) rfl (by simp;lia) (get?_push_of_some _ (get?_push_of_some _ hoh)) hdh hc2 ?_
 · intro z
   rw [z] at hlt;exact absurd hlt (not_lt.mpr (by first | (rw [size_push];exact le_succ _) | (show _<=(Heap.push _ _).objs.size;rw [size_push];exact le_succ _)))
 refine wpAny_bind (wpAny_isInstance (T:="StopIteration") (b:=true) ⟨_,get?_update_self _ (get?_push_size _ rfl) rfl,rfl⟩ isSubtype_stop ?_);refine wpAny_pure (hQ _ fun b ob hb eo=>?_);have hb2:=lt_size eo;refine (get?_update_other _ _ ?_).trans (get?_push_of_some _ (get?_push_of_some _ eo));intro z;rw [← z] at hb2;exact absurd hb2 (not_lt.mpr (by first | (rw [size_push];exact le_succ _) | (show _<=(Heap.push _ _).objs.size;rw [size_push];exact le_succ _)))
end
theorem Walks.listRevH {A:Around} (hs:Zzx) (hh:A.handled=none\/∃ p∈hs,A.handled=some (.ref p.1)/\∃ ve,p.2.data=.fields ve/\ve[2]?=some .none) (I l:Addr) (hne:l≠I) (hn:∀ p∈hs,p.1≠I) (items:Array Value) :
  Walks prog w A I (I::l::hs.map (·.1)) [I] items.size (fun i v=>items[items.size - 1 - i]?=some v) (fun i h=>i<=items.size/\h.IsRevIter I l ((items.size:Int) - 1 - (i:Int))/\h.IsList l items/\∀ p∈hs,h.get? p.1=some p.2) where
 sub:=fun b hb=>by simp at hb;simp [hb]
 frame:=fun _ _ _ x hk=>⟨x.1,x.2.1.at fun o e=>hk I (by simp) o e,x.2.2.1.at fun o e=>hk l (by simp) o e,fun p hp=>hk p.1 (mem_cons_of_mem _ (mem_cons_of_mem _ (mem_map_of_mem hp))) p.2 (x.2.2.2 p hp)⟩
 item:=fun i s Q E hi x hQ=>by
  have e:(items.size:Int) - 1 - (i:Int)=((items.size - 1 - i:Nat):Int):=by lia
  have hit:=x.2.1;rw [e] at hit;have hx:items[items.size - 1 - i]?=some (items[items.size - 1 - i]'(by lia)):=Array.getElem?_eq_getElem (by lia);refine wpAny_pyNext_rev_item hit x.2.2.1 hx fun h' hit' hs'=>?_
  have e2:((items.size - 1 - i:Nat):Int) - 1=(items.size:Int) - 1 - ((i+1:Nat):Int):=by lia
  rw [e2] at hit';exact hQ _ h' s.toks hx ⟨hi,hit',x.2.2.1.at fun o eo=>(hs'.2 l hne).trans eo,fun p hp=>(hs'.2 p.1 (hn p hp)).trans (x.2.2.2 p hp)⟩ fun b o hb eo=>hs'.extBut b o (fun h=>hb (by simp [h])) eo
 done:=fun s Q E x hQ=>by
  have e:(items.size:Int) - 1 - (items.size:Int) = -1:=by lia
  have hit:=x.2.1;rw [e] at hit;rcases hh with hh | ⟨p,hp,hh,ve,h1,h2⟩
  ·exact wpAny_pyNext_rev_end hh hit fun h' he'=>hQ h' s.toks fun b o hb eo=>he' b o (fun h=>hb (by simp [h])) eo
  ·exact Sg hh (x.2.2.2 p hp) h1 h2 hit fun h' he'=>hQ h' s.toks fun b o hb eo=>he' b o (fun h=>hb (by simp [h])) eo
 self:=fun _ _ _ _ x hQ=>wpAny_pyIter_revIter x.2.1 hQ
end PySem
namespace L2
open PySem PySem.Spec PyProof.Rows
section
variable {X:Cx} {m:Bool} {e:Expr} {f:Zzu} {fs:Zzv}
theorem Dm (h:Heap) (o:Obj):(h.push o).objs.size=h.objs.size+1:=by cases h;exact Array.size_push ..
def dLR (fs:Zzv):Ev->Option (List Dat):=fun env=>match fs env with
 | some [.lst xs]=>some xs.reverse
 | _=>none
theorem Zx.rev:∀ {xs:List V} {us:List Value},Zx xs us->Zx xs.reverse us.reverse
 | [],[],_=>.nil
 | x::xs,u::us,.cons h r=>by rw [reverse_cons,reverse_cons];exact (Zx.rev r).append (.cons h .nil)
theorem Z3q {p1 p2 q1 q2:Pos} (hgL:Gl X "list") (hmL:X.mg "list" = none) (hgR:Gl X "reversed") (hmR:X.mg "reversed" = none) (ha:Oo true X [e] fs) (hc:HdN X:=by first | exact HdN.calm rfl | assumption)
  (hvL:bootBuiltins "list" = some (.type "list"):=by decide +kernel) (hvR:bootBuiltins "reversed" = some (.type "reversed"):=by decide +kernel)
  (hs1:starEach [.Call (.Name "reversed" p2) [e] [] q2] X.env=[(false,eval (.Call (.Name "reversed" p2) [e] [] q2) X.env)]:=by rfl)
  (hs3:starEach [e] X.env=[(false,eval e X.env)]:=by rfl) :
  PNd X (.Call (.Name "list" p1) [.Call (.Name "reversed" p2) [e] [] q2] [] q1) (dLR fs):=by
 intro pins s σ H Q I ⟨env,R,A,ds,k,e1,q⟩;unfold dLR at e1;split at e1
 case h_2=>cases e1
 rename_i xs en;cases e1;refine Call_ (Sa I hgL hmL hvL (callWith_type1 ?_ hs1 rfl));rw [hs1];refine Calls.spliced_cons ?_;refine Call_ (Sa I hgR hmR hvR (callWith_type1 (Wp (ha q2 pins s σ H (fun vs H1=>∃ v,Zo H H1/\vs=[v]/\Pk X.K A H1 (.lst xs) v) I ⟨env,R,A,[.lst xs],k,en,fun vs H1 s1 r1=>?_⟩) fun us s1 ⟨vs,H1,I1,r1,v,sm,ev,pv⟩=>?_) hs3 rfl))
 ·obtain ⟨v,e3,p1⟩:=r1.one
  exact ⟨v,s1,e3,p1⟩
 subst ev;obtain ⟨a,ys,ea,h1,r2⟩:=pv.lst;subst ea;obtain ⟨u,rfl,ru⟩:=Jz r1;cases ru;obtain ⟨its,rv0,pl,hz⟩:=I1.list h1.sq;refine call_reversed_list pl.isList ?_;refine Calls.spliced_nil ?_;have hlt:=I1.hok;obtain ⟨oa,hoa,_⟩:=id pl.isList;have hne:a≠s1.heap.objs.size:=ne_of_lt (lt_size hoa);obtain ⟨hs,hsh,hsg⟩:∃ hs:List (Addr×Obj),(X.A.in1.in1.handled=none\/∃ p∈hs,X.A.in1.in1.handled=some (.ref p.1)/\∃ ve,p.2.data=.fields ve/\ve[2]?=some .none)/\∀ p∈hs,s1.heap.get? p.1=some p.2:=by
  rcases hc _ _ _ _ I1 with z | ⟨eh,oh,vh,z1,z2,z3,z4⟩
  ·exact ⟨[],.inl z,fun p hp=>by cases hp⟩
  ·exact ⟨[(eh,oh)],.inr ⟨_,mem_singleton.mpr rfl,z1,vh,z3,z4⟩,fun p hp=>by rw [mem_singleton.mp hp];exact z2⟩
 have hsn:∀ p∈hs,p.1≠s1.heap.objs.size:=fun p hp=>ne_of_lt (lt_size (hsg p hp))
 have W:=(Walks.listRevH (prog:=X.prog) (w:=X.w) (A:=X.A.in1.in1) hs hsh s1.heap.objs.size a hne hsn its.toArray).toS;have hlen:=rv0.length;refine A5 W (T:="list_reverseiterator") (fun i s st=>st.2.1.typeIs) (.inr rfl) (Z7i _ _ fun s st=>st.2.1.typeIs) ⟨zero_le _,?_,pl.isList.at fun o eo=>get?_push_of_some _ eo,fun p hp=>get?_push_of_some _ (hsg p hp)⟩ ?_ (by simp) ?_ ?_
 ·refine ⟨_,get?_push_size _ rfl,rfl,?_⟩
  simp [revObj]
 ·intro b hb
  rcases mem_cons.mp hb with rfl | hb
  ·rw [Dm];exact lt_succ_self _
  ·rcases mem_cons.mp hb with rfl | hb
   ·exact lt_of_lt_of_le (lt_size hoa) (by rw [Dm];lia)
   ·obtain ⟨p,hp,rfl⟩:=mem_map.mp hb
    exact lt_of_lt_of_le (lt_size (hsg p hp)) (by rw [Dm];lia)
 ·intro h' tk acc' c' hk hl hi
  have kp:∀ b o,s1.heap.get? b=some o->h'.get? b=some o:=fun b o eb=>hk b o (fun hm=>by
   have hlt:=lt_size eb;rw [mem_singleton.mp hm] at hlt;exact lt_irrefl _ hlt) (get?_push_of_some _ eb)
  have eacc:acc'.toList=its.reverse:=by
   apply List.ext_getElem?;intro i;by_cases hi':i<its.length
   ·have hia:i<acc'.size:=by rw [hi.1];simpa using hi'
    have:=hi.2 i acc'[i] (by simp [hia]);rw [Array.getElem?_toList,Array.getElem?_eq_getElem hia,List.getElem?_reverse hi'];simpa using this.symm
   ·rw [List.getElem?_eq_none (l:=acc'.toList) (by rw [Array.length_toList,hi.1];simpa using hi'),List.getElem?_eq_none (l:=its.reverse) (by rw [List.length_reverse];exact Nat.le_of_not_lt hi')]
  generalize hS:({ heap:=s1.heap.push (revObj a ((its.toArray.size:Int) - 1)),gens:=s1.gens,drawn:=s1.drawn,toks:=s1.toks,os:=s1.os }:Shared).heap.objs.size=S at hl ⊢;have hSz:s1.heap.objs.size<=S:=by
   rw [← hS];show _<=(Heap.push _ _).objs.size;rw [Dm];exact le_succ _
  have I2:Inv X pins σ (Yn H1 S (.lst ys.reverse)) { s1 with heap:=h',toks:=tk }:=I1.laid kp hSz (show Yz X.prog X.w _ h' _ (.lst ys.reverse) from ⟨by rw [List.length_reverse];exact hz,acc'.toList,c',by rw [eacc];exact rv0.rev,by rw [Array.toArray_toList];exact hl⟩);exact ⟨.ref S,_,I2,rfl,(q.mono sm).at (vs:=ys.reverse) (by rw [List.length_reverse,← Zv r2];exact hz) (Z8e r2) _ (I1.hok.fresh hSz)⟩
 ·rw [size_toArray,← hlen];exact hz
def Z96:List Dat->Option Dat
 | [.int i]=>some (.int i)
 | [.bl b]=>some (.int (if b then 1 else 0))
 | _=>none
theorem Zft:Hm X (.type "int") Z96:=Z47.weak fun vs H Q zz=>by
 obtain ⟨A,ds,d,mu,e,p,q⟩:=zz;unfold Z96 at e;split at e
 ·obtain ⟨v,e1,p1⟩:=p.one
  cases e;exact .inl ⟨_,by rw [e1,p1.int],q.here Yq⟩
 ·obtain ⟨v,e1,p1⟩:=p.one
  cases e;exact .inr ⟨_,by rw [e1,p1.bl],q.here Yq⟩
 ·cases e
def Zcy:Dat->Dat->Option Dat
 | .str x,.int k=>if 1<=k/\k<=1000/\x.length<=1000 then some (.str (Txt.mul x k)) else none
 | _,_=>none
theorem C1 (x:Array α) (c:α):∀ (n:Nat) (acc:Array α),c∈(List.replicate n x).foldl (·++·) acc->c∈acc\/c∈x
 | 0,acc,h=>.inl h
 | n+1,acc,h=>by
  rw [List.replicate_succ,List.foldl_cons] at h;rcases C1 x c n _ h with h | h
  ·rcases Array.mem_append.mp h with h | h
   ·exact .inl h
   ·exact .inr h
  ·exact .inr h
theorem Z33 {x:Str} {k:Int} (h:PyData.strOk x=true):PyData.strOk (Txt.mul x k)=true:=by
 unfold Txt.mul;split
 ·unfold PyData.strOk Str.empty;simp
 ·split
  ·exact h
  ·unfold PyData.strOk at h ⊢
   rw [Array.all_eq_true'] at h ⊢;intro c hc;rcases C1 x.cps c _ _ hc with z | z
   ·simp at z
   ·exact h c z
theorem Zcg:Si X (binaryOp .Mult) Zcy:=fun pins s σ H x y v u Q I rx ry zz=>by
 obtain ⟨A,a,b,d,mu,e,p1,p2,q⟩:=zz;unfold Zcy at e;split at e
 ·rename_i z k
  split at e
  ·rename_i hz
   cases e;obtain ⟨e1,k1⟩:=p1.str;have e2:=p2.int;subst e1 e2;obtain ⟨t,rfl⟩:=rx;obtain ⟨t',rfl⟩:=ry;have hl:(Txt.mul z k).length<=1000*1000:=len_mul_leN hz.2.2 hz.2.1;refine SB.mul (mulOk_of 1000 1000 hz.2.2 hz.2.1 (by lia) (by decide) (by decide)) fun t' k'=>⟨.str (Txt.mul z k),H,I.tok _,⟨_,rfl⟩,q.here (Ro (SOk.of (Z33 k1.ok) (le_trans hl (by decide))))⟩
  ·cases e
 ·cases e
def Ez:Dat->Dat->Option Dat
 | .int i,.int j=>Zfx (.int i) (.int j)
 | .str x,.int k=>Zcy (.str x) (.int k)
 | _,_=>none
theorem D5:Si X (binaryOp .Mult) Ez:=Si.or Ze7 Zcg fun x y d e=>by
 unfold Ez at e;split at e
 ·exact .inl e
 ·exact .inr e
 ·cases e
end
end L2
namespace L2
open PySem
section
variable {prog:Program} {w:World} {A:Around} {E:Zzz} {h:Heap} {g:Array GenState} {d:Drawn} {t:Nat} {os:OsState}
variable {nm q:Str} {C N:Addr} {bs bm bmB:List Value} {hdct:Bool} {sn:List Str} {sub:List Value} {ab:Bool} {col:Option Bool} {dd:Option Addr} {k0 k1 k2 k3 k5:Option Value} {newId nid:String}
theorem P0 (T:OwnTail h [.type "ValueError",.type "Exception",.type "BaseException",.type "object"] bm) {t0:Addr} {x:Value} 
  (hC:h.get? C=some (excClassObj nm q C N bs bm hdct sn sub ab col dd k0 k1 k2 k3 k5 newId)) (he:h.get? e=some { cls:=.ref C,dict:=dct,data:=.fields #[.ref t0,.none,.none,.none,.bool false,.none] })
  (hq:∀ h',h'.get? e=some { cls:=.ref C,dict:=dct,data:=.fields #[.ref h.objs.size,.none,.none,.none,.bool false,.none] }->(∀ b o,b≠e->h.get? b=some o->h'.get? b=some o)->h.objs.size<=h'.objs.size->Q .none ⟨h',g,d,t,os⟩) :
  wpAny (model prog w) A (call (.builtin "ValueError.__init__") [.ref e,x]) Q E ⟨h,g,d,t,os⟩:=by
 have F:=PySem.F.excBase_ValueError;refine wpAny_call (codeAny_call_builtin F.init.plain F.initEntry (wpAny_check_init_subU F T hC he rfl ?_));have he2:=get?_push_of_some { cls:=.type "tuple",data:=.seq #[x] } he
 wp_walk
 refine hq _ ?_ ?_ ?_
 ·rw [get?_update_self _ he2 rfl]
  rfl
 ·intro b o hb hbo
  rw [get?_update_other _ _ (Ne.symm hb)];exact get?_push_of_some _ hbo
 ·rw [Heap.size_after_update,size_push];exact le_succ _
end
end L2
namespace L2
open PySem PySem.Spec PyProof.Rows PySem.W
open PySem.Builtin PySem.Builtin.ObjectAttr
def Mb:List Value:=[.type "ValueError",.type "Exception",.type "BaseException",.type "object"]
section
variable {prog:Program} {w:World} {A:Around} {E:Zzz} {s:Shared} {K:Frag} {x C a b:Addr} {cd:ClassData} {R:Result->Shared->Prop} {v:Value} {name:Str}
theorem Zbe {ox:Obj} {od:Option Obj} {tk:Tok} (X:K.In s.heap) (I:InstAt s.heap x ox C od) (hc:clsIn K C=some cd) (hm:cd.mro=.ref a::.ref b::Mb) (ha:findIn K (.ref C) name=some none)
  (h:wpAny (model prog w) A.in1 (storeInOwnDict (.ref x) (.ref C) (.str name tk) name v false)
   (fun fin s'=>match fin with | .done f=>R (.ok f) s' | .again c'=>c'.quiet=true/\codeAny (model prog w) A c' R s') (fun e s'=>R (.error e) s') s) :
  codeAny (model prog w) A (.call (.builtin "object.__setattr__") ⟨[.ref x,.str name tk,v],[]⟩) R s:=by
 have SF:=PySem.F.store_object;have sub:Looks (model prog w) s.heap (isInstance (.ref x) (.type "object")) true:=I.type.andThen (looks_mroIn X (by unfold mroIn;rw [hc,Option.bind_some,hm];rfl));refine codeAny_call_builtin SF.slot.plain SF.entry (@check_slot (model prog w) _ _ s "object.__setattr__" "object" "__setattr__" (.ref x) [.str name tk,v] [] _ SF.kind SF.split sub (SF.args (.ref x) (.str name tk) v) ?_);have hmr:Looks (model prog w) s.heap (mroOf (.ref C)) cd.mro:=(looks_clsIn X hc).andThen .now;rw [osa_eq,refuse_eq];refine wpAny_bind (wpAny_bind (I.type.here (wpAny_bind (hmr.here ?_))));rw [hm,refuseLoop_ref,refuseLoop_ref,show Mb=[.type "ValueError",.type "Exception",.type "BaseException",.type "object"] from rfl,PySem.F.store_ValueError.passes];refine wpAny_pure (wpAny_bind (I.type.here (wpAny_bind ((looks_findIn X ha).here (wpAny_bind ?_)))));exact wpAny_pure h
end
section
variable {prog:Program} {w:World} {A:Around} {E:Zzz} {h:Heap} {g:Array GenState} {d:Drawn} {t:Nat} {os:OsState} {x C:Addr} {v:Value} {name:Str} {oC:Obj} {cd:ClassData}
theorem Z49 {o:Obj} {tk:Tok} {Q:Fin->Shared->Prop} (hx:h.get? x=some o) (hc:o.cls=.ref C) (hnc:∀ c,o.data≠.cls c) (hdn:o.dict=none) (hC:h.get? C=some oC) (hcd:oC.data=.cls cd) (hhd:cd.hasDict=true)
   (hq:∀ h' tk',h'.get? x=some { cls:=o.cls,dict:=some h.objs.size,data:=o.data,slots:=o.slots }->h'.Ns1 h.objs.size (fun y=>if y=name then some v else none)->(∀ b ob,b≠x->h.get? b=some ob->h'.get? b=some ob)->h.objs.size<h'.objs.size->Q (.done (.ret .none)) ⟨h',g,d,tk',os⟩) :
   wpAny (model prog w) A (storeInOwnDict (.ref x) (.ref C) (.str name tk) name v false) Q E ⟨h,g,d,t,os⟩:=by
 unfold storeInOwnDict;repeat (first | (with_reducible refine wpAny_loadPart_at hx ?_;rw [hc]) | with_reducible refine wpAny_loadPart_at hC ?_ | wp_step)
 rw [hcd];refine wpAny_pure ?_;rw [hhd,if_neg (by decide),hdn];show wpAny _ _ (if (!true||!typeHasDict (Value.ref C))=true then pure none else _) _ _ _;rw [if_neg (by simp [typeHasDict])];have hx₁:(h.push { cls:=.type "dict",data:=.dict #[] }).get? x=some o:=get?_push_of_some _ hx;have hxs:x≠h.objs.size:=ne_of_lt (lt_size hx);split
 · rename_i c hcd'
   exact absurd hcd' (hnc c)
 · refine wpAny_bind (wpAny_alloc' ?_)
   refine wpAny_bind (wpAny_update' hx₁ ?_);refine wpAny_pure ?_;have hgd:((h.push { cls:=.type "dict",data:=.dict #[] }).update x fun o=>{ cls:=o.cls,dict:=some h.objs.size,data:=o.data,slots:=o.slots }).get? h.objs.size
       = some { cls:=.type "dict",data:=.dict #[] } :=
     (Heap.get?_update_ne _ _ _ _ hxs.symm).trans (Heap.get?_push_at rfl rfl)
   have hnd:((h.push { cls:=.type "dict",data:=.dict #[] }).update x fun o=>{ cls:=o.cls,dict:=some h.objs.size,data:=o.data,slots:=o.slots }).Ns h.objs.size (fun _=>none) :=
     ⟨_,#[],_,hgd,rfl,fun e he=>absurd he (by simp),fun _=>rfl⟩
   show wpAny _ _ (storeInDict h.objs.size (.str name tk) name v) _ _ _;unfold storeInDict newKeyGuard;refine wpAny_bind (wpAny_pure (wpAny_bind (wpAny_nsSet1 (Heap.Ns1.of_empty hnd) fun h' hn' hs=>?_)));obtain ⟨oD,esD,epD,hoD,hdD,hcD⟩:=hn'.count (Within.cons name v Within.nil);refine wpAny_bind (wpAny_lookBehind hoD (by rw [hdD];exact pastItsLine_dict (le_trans hcD (by rw [length_cons,List.length_nil,sizeLine_eq];lia))) ?_)
   wp_walk
   have hx':h'.get? x=some { cls:=o.cls,dict:=some h.objs.size,data:=o.data,slots:=o.slots }:=by
     refine (hs.2 x hxs).trans (get?_update_self _ hx₁ ?_);have hfr:=(Heap.get?_some_iff.mp hx).2;obtain ⟨oc,od,odt,osl⟩:=o;cases odt<;>first | rfl | exact hfr
   refine hq h' _ hx' hn' (fun b ob hbx hb=>?_) ?_
   · exact (hs.2 b (ne_of_lt (lt_size hb))).trans ((Heap.get?_update_ne _ _ _ _ hbx).trans (get?_push_of_some _ hb))
   · have h1:=hs.1
     rw [Heap.size_after_update,size_push] at h1;lia
theorem Z0h {o:Obj} {mA:Zzw} {ns:List Str} {tk:Tok} {Q:Fin->Shared->Prop} (hx:h.get? x=some o) (hc:o.cls=.ref C) (hdx:o.dict=some dx) (hns:h.Ns1 dx mA) (hw:Within mA ns) (hsz:ns.length<=1000) (hC:h.get? C=some oC) (hcd:oC.data=.cls cd) (hhd:cd.hasDict=true)
   (hq:∀ h' tk',h'.Ns1 dx (fun y=>if y=name then some v else mA y)->(∀ b ob,b≠dx->h.get? b=some ob->h'.get? b=some ob)->h.objs.size<=h'.objs.size->Q (.done (.ret .none)) ⟨h',g,d,tk',os⟩) :
   wpAny (model prog w) A (storeInOwnDict (.ref x) (.ref C) (.str name tk) name v false) Q E ⟨h,g,d,t,os⟩:=by
 unfold storeInOwnDict;repeat (first | (with_reducible refine wpAny_loadPart_at hx ?_;rw [hc]) | with_reducible refine wpAny_loadPart_at hC ?_ | wp_step)
 rw [hcd];refine wpAny_pure ?_;rw [hhd,if_neg (by decide),hdx];refine wpAny_pure ?_;show wpAny _ _ (storeInDict dx (.str name tk) name v) _ _ _;unfold storeInDict newKeyGuard;refine wpAny_bind (wpAny_pure (wpAny_bind (wpAny_nsSet1 hns fun h' hn' hs=>?_)));obtain ⟨oD,esD,epD,hoD,hdD,hcD⟩:=hn'.count (Within.cons name v hw);refine wpAny_bind (wpAny_lookBehind hoD (by rw [hdD];exact pastItsLine_dict (le_trans hcD (by rw [length_cons,sizeLine_eq];lia))) ?_)
 wp_walk
 exact hq h' _ hn' (fun b ob hbx hb=>(hs.2 b hbx).trans hb) (by have h1:h'.objs.size=h.objs.size:=hs.1;lia)
end
open PySem.Builtin PySem.Builtin.ObjectAttr
section
variable {prog:Program} {w:World} {A:Around} {E:Zzz} {h:Heap} {g:Array GenState} {d:Drawn} {t:Nat} {os:OsState} {x C dx:Addr} {v:Value} {name:Str} {oC o:Obj} {cd:ClassData} {K:Frag} {mA:Zzw}
end
open PySem.Builtin PySem.Builtin.ObjectAttr
section
variable {prog:Program} {w:World} {A:Around} {E:Zzz} {h:Heap} {g:Array GenState} {d:Drawn} {t:Nat} {os:OsState} {x C:Addr} {o:Obj} {K:Frag}
structure XCls (K:Frag) (C:Addr):Prop where
 cd:∃ cd,clsIn K C=some cd/\cd.hasDict=true/\∃ a b,cd.mro=.ref a::.ref b::Mb
 cl:findIn K (.ref C) "__class__" = some (some (.builtin "object.__class__"))
 ga:findIn K (.ref C) "__getattribute__" = some (some (.builtin "BaseException.__getattribute__"))
 gh:findIn K (.ref C) "__getattr__" = some none
 sa:findIn K (.ref C) "__setattr__" = some (some (.builtin "object.__setattr__"))
theorem XCls.ld (c:XCls K C) (X:K.In h):∃ oC cd,h.get? C=some oC/\oC.data=.cls cd/\cd.hasDict=true:=by
 obtain ⟨cd,hc,hd,_⟩:=c.cd;unfold clsIn at hc;split at hc
 ·rename_i c' d' cd' sl' ho
  cases hc;exact ⟨_,_,X _ _ ho,rfl,hd⟩
 ·cases hc
end
end L2
namespace L2
open PySem PySem.Spec PyProof.Rows
theorem Mh (ok:S4 P w H h) (k:Nj l ch h h') (hc:∀ b∈ch,H b=none) (hf:∀ b∈E9 l,H b=none):S4 P w H h':=fun a o e=>by
 have key:∀ b u,H b≠none->h.get? b=some u->h'.get? b=some u:=fun b u n q=>(k b u q fun z=>n (hc b z)).1 fun z=>n (hf b z)
 exact (ok a o e).stay (fun b u z q=>key b u (by rcases z with z | z<;>simp_all) q) (fun _ q=>q) fun _ _ q=>q
theorem Ka (k:Nj l ch h h') (hc:∀ b∈ch,H b=none):Un (E9 l) ch H H h h' where
 keep:=fun b o q n hf hx=>(k b o q hx).1 hf
 slot:=fun b o q n hf hx=>(k b o q hx).2
 free:=fun b o q n hx=>n
 there:=fun b o q hx=>by obtain ⟨sl,z⟩:=(k b o q hx).2;exact ⟨_,z⟩
 tups:=fun b xs q=>q
 frzs:=fun b o u q=>q
 tbls:=fun b ps q=>⟨#[],by simpa using q⟩
def Cu (P:Program) (w:World) (base:Heap) (pl:Bool:=false):Ow:=fun outer H s E ev s'=>∃ e C dct T H' c2,ev=.ref e/\s'.os=s.os/\AllBare s'.gens/\Un (E9 outer) [] H H' s.heap s'.heap/\S4 P w H' s'.heap /\
 s.heap.objs.size<=e/\s.heap.objs.size<=T/\H' e=none/\H' T=none/\Im s'.heap base e T (.ref C,c2) dct .none/\(pl=true->c2=some .none)/\F7 H H' dct/\E (.ref C) dct H'
theorem Inv.noBase (I:Inv X pins σ H s) (h:X.s₀.heap.objs.size<=e):X.base.get? e=none:=by
 cases q:X.base.get? e with
 | none=>rfl
 | some o=>exact absurd (lt_size (I.ok.bs e o q).1) (not_lt.mpr h)
theorem Gq {pl:Bool} {Y:Cx} {f:Addr} {A:Around} {E:XK} 
  (I:Inv (Te (Cu P w base pl) P w K mg base N qual scope f cd A outer s H E) pins σ H' s') (x:XSt Y pins H' s'.heap e C dct) (hY:Y={ Te (Cu P w base pl) P w K mg base N qual scope f cd A outer s H E with pl:=pl }) (hnw:F7 H H' dct) (q:E (.ref C) dct H') :
  (Te (Cu P w base pl) P w K mg base N qual scope f cd A outer s H E).xe (.ref e) s':=by
 subst hY;have hfr:(A.deeper (envOfC qual scope s.heap.objs.size f cd)).frames=some (envOfC qual scope s.heap.objs.size f cd::outer):=I.ok.frames;have hl:s'.heap.FunFrames base (envOfC qual scope s.heap.objs.size f cd::outer):=I.stack;have hkb:base.StaysIn s'.heap:=I.bk;have lo:s.heap.objs.size<=e:=x.lo;have hen:base.get? e=none:=I.noBase x.lo;have bs:Un (E9 outer) [] H H' s.heap s'.heap:=I.base;have hfree:∀ b∈E9 (envOfC qual scope s.heap.objs.size f cd::outer),H' b=none:=I.stkFree;have fin:∀ (h':Heap) (T':Addr) (c2:Option Value) (ch:List Addr),(pl=true->c2=some .none)->(∀ b∈ch,H' b=none/\s.heap.objs.size<=b)->s.heap.objs.size<=T'->H' T'=none->Im h' base e T' (.ref C,c2) dct .none->Nj (envOfC qual scope s.heap.objs.size f cd::outer) ch s'.heap h' ->
   Cu P w base pl outer H s E (.ref e) { s' with heap:=h' }:=fun h' T' c2 ch hc2 hch hT hTn ht kp=>by
  have ncb:∀ {b:Addr} {o:Obj},s.heap.get? b=some o->b∉ch:=fun {b o} q z=>absurd (lt_size q) (not_lt.mpr (hch b z).2)
  have nfr:∀ {b:Addr} {o:Obj},s.heap.get? b=some o->b∉E9 outer->b∉E9 (envOfC qual scope s.heap.objs.size f cd::outer):=fun {b o} q n z=>by
   rcases mem_cons.mp (I.stkSub b z) with e1 | e1
   ·have:b=s.heap.objs.size:=e1
    exact absurd (lt_size q) (by rw [this];exact lt_irrefl _)
   ·exact n e1
  refine ⟨e,C,dct,T',H',c2,rfl,I.os,I.bare,⟨?_,?_,?_,?_,bs.tups,bs.frzs,bs.tbls⟩,Mh I.hok kp (fun b z=>(hch b z).1) hfree,lo,hT,x.un,hTn,ht,hc2,hnw,q⟩
  ·exact fun b o q n hf hx=>(kp b o (bs.keep b o q n hf hx) (ncb q)).1 (nfr q hf)
  ·intro b o q n hf hx
   obtain ⟨sl,z⟩:=bs.slot b o q n hf hx;obtain ⟨sl',z'⟩:=(kp b _ z (ncb q)).2;exact ⟨sl',z'⟩
  ·exact fun b o q n hx=>bs.free b o q n hx
  ·intro b o q hx
   obtain ⟨o',z⟩:=bs.there b o q hx;obtain ⟨sl,z'⟩:=(kp b o' z (ncb q)).2;exact ⟨_,z'⟩
 have sz:s.heap.objs.size<=s'.heap.objs.size:=I.sz;rcases x.ob with ⟨o,vs,he,hc,hd,hda,h1,hp⟩ | ⟨T,c2,hT,hTn,_,ht,hp⟩
 ·refine Xq hfr hl rfl he hkb hen hda h1 fun h' T' z0 z1 z2 z3 z4=>?_
  rw [hc,hd] at z3;exact fin h' T' _ [e] hp (fun b hb=>by rw [mem_singleton.mp hb];exact ⟨x.un,lo⟩) (le_trans sz z0) (I.hok.fresh z0) z3 z4
 ·refine Zd6 hfr hl rfl ht hkb hen fun h' T' z0 z1 z2 z3 z4=>?_
  refine fin h' T' _ [e,T] hp (fun b hb=>?_) (le_trans sz z0) (I.hok.fresh z0) z3 z4;rcases mem_cons.mp hb with e1 | e1
  ·rw [e1];exact ⟨x.un,lo⟩
  ·rw [mem_singleton.mp e1];exact ⟨hTn,hT⟩
def B7 (K:Zzy) (fr:Bool) (R:AS) (H:Hp) (Q:VK) (E:XK):Rs->Prop
 | .ok d=>∀ v H',Zo H H'->Rp K (av H' R) d v->(fr=true->NwT K ⟨H,R,true⟩ H' d v)->Q v H'
 | .exc c fs=>∀ C dct H',Zo H H'->U3 K c C->Ab K (av H' R) dct fs->E (.ref C) dct H'
 | .no=>False
def spX (K:Zzy) (fr:Bool) (p:Nat) (F:List Dat->Rs):Sp:=fun vs H Q E=>vs.length=p/\∃ ds R,Ta R H/\W5 K (av H R) ds vs/\B7 K fr R H Q E (F ds)
structure CalX (P:Program) (w:World) (K:Zzy) (mg:Zzw) (base:Heap) (k:Nat) (x:Str) (ps:List Str) (fr:Bool) (F:List Dat->Rs) (pl:Bool:=false):Prop where
 ex:∃ f fd,FnOk P w K mg base (Cu P w base pl) k f fd ps (spX K fr ps.length F)/\mg x=some (.ref f)/\PySem.W.keepIn K (.ref f)=true/\M9 K fd ps []
 len:∀ ds,F ds≠.no->ds.length=ps.length
section
variable {P:Program} {w:World} {K:Zzy} {mg:Zzw} {base:Heap}
theorem Fun.okX {x:Str} {st:Stmt} {f:Addr} (F:Fun K x qual st f fd) (S:FnScope N ps (Z4 st)) (len:∀ vs H Q E,sp vs H Q E->vs.length=ps.length)
  (hbody:∀ (cdv:Value) (A:Around) (outer:List Env) (s:Shared) (H:Hp) (vs:List V) (Q:VK) (E:XK),Room k (A.deeper (envOfC qual (Z4 st) s.heap.objs.size f cdv))->sp vs H Q E ->
   ∃ t,Dh (Te CX P w K mg base N qual (Z4 st) f cdv A outer s H E) (Y2 st) t/\t { nx:=fun _ H'=>Q .non H',rt:=Q } (start N vs) H):FnOk P w K mg base CX (k+1) f fd ps sp:=by
 obtain ⟨oc,od,kV,doc,pm,an,cdv,ct,osl,rfl,lk,hcd⟩:=F.ex;exact Zaz lk hcd S len fun A outer s H vs Q E hr hsp=>hbody cdv A outer s H vs Q E hr hsp
theorem Iw {n p:Nat} (h:Y7 n p g ds≠.no):ds.length=p:=by
 unfold Y7 at h;split at h
 ·assumption
 ·exact absurd rfl h
theorem Z4y {f:Addr} {A:Around} {E:XK} {p:Nat} {Q:VK} (hp:p<=N.length) (mu:Ta R H) (r:W5 K (av H R) ds vs)
  (q:B7 K fr R H Q E (Y7 N.length p g ds)) :
  tS fr (Te (Cu P w base) P w K mg base N qual scope f cd A outer s H E) g (Ends.mk (fun _ H'=>Q .non H') Q (fun _ _=>False) (fun _ _=>False)) (start N vs) H:=by
 unfold Y7 at q;split at q
 ·rename_i hl
  refine ⟨Ui N.length ds,⟨H,R,true⟩,R,Ht mu r (by lia),rfl,?_⟩;split at q
  ·rename_i d' e
   rw [e];exact fun v H' s r n=>q v H' s r n
  ·rename_i env e
   rw [e];exact fun A' H' σ' s k=>q .non H' k.h0 Io (fun _ ds e=>by cases e)
  ·rename_i env c fs e
   rw [e];exact fun A' H' σ' st k pins s' e C dct I hc x hf hnw=>Gq I x rfl hnw (q C dct H' k.h0 hc (hf.mono (Q8 k.ra)))
  ·exact q.elim
 ·exact q.elim
theorem Zci {x:Str} {st:Stmt} (D:Def K mg x st) (S:FnScope N ps (Z4 st))
  (hbi:∀ (kV doc pm:Value) (an:Option Addr) (cdv ct:Value) (us:List Value),us.length=ps.length->bindArgs (fnOf x x (Wc st) (Y2 st) (Z4 st) .none kV doc pm an cdv ct) ⟨us,[]⟩=pure (ps.zip us))
  (hb:∀ (f:Addr) (cdv:Value) (A:Around) (outer:List Env) (s:Shared) (H:Hp) (E:XK),Room k (A.deeper (envOfC x (Z4 st) s.heap.objs.size f cdv))->On fr (Te (Cu P w base) P w K mg base N x (Z4 st) f cdv A outer s H E) (Y2 st) g) :
  CalX P w K mg base (k+1) x ps fr (Y7 N.length ps.length g):=by
 have hpl:ps.length<=N.length:=by have:=congrArg List.length S.pre;rw [length_take] at this;lia
 obtain ⟨f,fd,F,hm⟩:=D.ex;refine ⟨⟨f,fd,F.okX S (fun vs H Q E h=>h.1) fun cdv A outer s H vs Q E hr ⟨hl,ds,R,mu,r,q⟩=>⟨_,hb f cdv A outer s H E hr,?_⟩,hm,F.kp,F.binds hbi⟩,fun ds h=>Iw h⟩;exact Z4y hpl mu r q
end
section
variable {X:Cx} {m fr fr':Bool} {F:List Dat->Rs} {k:Nat} {x:Str} {ps:List Str} {e:Expr} {es:List Expr} {fs:Zzv} {p pos:Pos}
def tXx (X:Cx) (fr:Bool) (F:List Dat->Rs) (fs:Zzv):TE:=fun σ H Q=>∃ env B A ds,EnvOk X.K B A H σ env/\fs env=some ds/\match F ds with
 | .ok d=>∀ v H',Zo H H'->Rp X.K (av H' A) d v->Q v H'
 | .exc c fl=>∀ A' H' σ',Step A H A' H'->EnvOk X.K B A' H' σ' env->σ'=σ->XW X B.H₀ A' H' σ' c fl
 | .no=>False
theorem B0 {pl:Bool} (C:CalX X.prog X.w X.K X.mg X.base k x ps fr F pl) (hr:Room k X.A) (ha:Oo false X (e::es) fs) (hg:Gl X x:=by rfl)
  (hdb:(x==("__debug__" : Str))=false:=by decide) (he:starEach (e::es) X.env=(false,eval e X.env)::starEach es X.env:=by rfl) (hpl:(backTo pos (starEach es X.env)).any (·.1)=false:=by rfl) (hp:X.pl=true->pl=true:=by first | exact fun _=>rfl | exact fun z=>nomatch z) :
  PE X (.Call (.Name x p) (e::es) [] pos) (tXx X fr F fs):=by
 obtain ⟨f,fd,Ff,hm,hk,hb⟩:=C.ex;intro pins s σ H Q I ⟨env,B,A,ds,kk,e1,q⟩;refine wpAny_Call_Name_kw (Ue I hg hm ?_ hdb);refine PySem.W.callWith_K (h₀:=X.base) I.ok.mod.kin hk (Wp (ha pos pins s σ H (fun vs H1=>Zo H H1/\W5 X.K (av H1 A) ds vs) I ⟨env,B,A,ds,kk,e1,fun vs H1 s1 rs=>⟨s1,rs.rps⟩⟩) fun us s1 ⟨vs,H1,I1,r,sm,rs⟩=>⟨I1.kIn,?_⟩) he hpl;have hne:F ds≠.no:=fun z=>by rw [z] at q;exact q
 have hl:us.length=ps.length:=by rw [← r.length,Zv rs];exact C.len ds hne
 let E:XK:=fun cls dct H'=>∃ c fl C,F ds=.exc c fl/\cls=.ref C/\U3 X.K c C/\Zo H1 H'/\Ab X.K (av H' A) dct fl
 refine wpAny_call (codeAny_mono (Ff.run X.A X.stack s1 H1 ⟨us,[]⟩ us vs Q E hr I1.env0 (by simpa using hb s1 us I1.kIn (by simpa using hl)) r ⟨by rw [Zv rs];exact C.len ds hne,ds,A,kk.mu.mono sm,rs,?_⟩) fun rr s' hq=>?_)
 ·unfold B7
  split
  ·rename_i d hd
   rw [hd] at q;exact fun v H' s2 r2 _=>q v H' (sm.trans s2) r2
  ·rename_i c fl hd
   exact fun C dct H' s2 hc hf=>⟨c,fl,C,hd,rfl,hc,s2,hf⟩
  ·rename_i hd
   exact hne hd
 ·cases rr with
  | error ev =>
   obtain ⟨ex,C,dct,T,H',c2,rfl,ho,hbr,un,hok,h1,h2,h3,h4,ht,hc2,hnw,c,fl,C',hF,eC,hc,sm2,hf⟩:=hq;cases eC;rw [hF] at q;have I2:Inv X pins σ H' s':=I1.call' (ch:=[]) ho un hok hbr (fun b z=>absurd z (by simp));have sz:X.s₀.heap.objs.size<=s1.heap.objs.size:=I1.sz;have np:∀ {a:Addr},s1.heap.objs.size<=a->∀ p∈X.pn++pins,p.1≠a:=fun {a} ha p hp z=>by
    have:=(I1.pin p hp).1;rw [z] at this;exact absurd (lt_size this) (not_lt.mpr ha)
   exact q A H' σ (Step.same (sm.trans sm2)) (kk.mono (sm.trans sm2)) rfl pins s' ex C dct I2 hc ⟨le_trans sz h1,h3,.inr ⟨T,c2,le_trans sz h2,h4,np h2,ht,fun z=>hc2 (hp z)⟩,np h1⟩ hf (hnw.mono fun b z=>kk.h0.none (sm.none z))
  | ok fl =>
   cases fl with
   | ret u=>exact I1.after hq
   | next=>exact False.elim hq
   | brk=>exact False.elim hq
   | cont=>exact False.elim hq
def Eg (i:Nat) (F:List Dat->Rs) (fs:Zzv):Ev->Fl:=fun env=>match fs env with
 | none=>.no
 | some ds=>match F ds with
  | .ok d=>.next (env.set i (.fz d))
  | .exc c fl=>.exc env c fl
  | .no=>.no
theorem F8 (i:Nat) (hN:X.N.Nodup) (hi:X.N[i]?=some x) (hx:B2 X.env.scope x) (he:PE X e (tXx X fr' F fs)) (hs:swapsWith e (some (.Name x pos')) pos.line X.env=pure false:=by rfl)
  (hf:X.fn x=true\/X.env.scope.names.lookup x=some .local:=by first | exact .inl rfl | exact .inr rfl | assumption):E8 fr X (.Assign [.Name x pos'] e pos) (Eg i F fs):=(Ip hN hi hx he hs hf).weak fun D σ H zz=>by
 obtain ⟨env,B,A,k,hst,q⟩:=zz;unfold Eg at q;split at q
 ·exact q.elim
 rename_i ds e1;refine ⟨env,B,A,ds,k,e1,?_⟩;split at q
 ·rename_i d hd
  exact fun v H' s r=>q A H' _ (Step.same s) ((k.mono s).put i r)
 ·rename_i c fl hd
  exact fun A' H' σ' s k' _=>q A' H' σ' s k'
 ·exact q.elim
def Ai (F:List Dat->Rs) (fs:Zzv):Ev->Fl:=fun env=>match fs env with
 | none=>.no
 | some ds=>match F ds with
  | .ok d=>.ret d
  | .exc c fl=>.exc env c fl
  | .no=>.no
theorem Zd9 (he:PE X e (tXx X fr' F fs)):E8 false X (.Return (some e) pos) (Ai F fs):=(Fp he).weak fun D σ H zz=>by
 obtain ⟨env,B,A,k,hst,q⟩:=zz;unfold Ai at q;split at q
 ·exact q.elim
 rename_i ds e1;refine ⟨env,B,A,ds,k,e1,?_⟩;split at q
 ·rename_i d hd
  exact fun v H' s r=>q v H' (Fv k s r).1 (Fv k s r).2 (fun z=>by cases z)
 ·rename_i c fl hd
  exact fun A' H' σ' s k' _=>q A' H' σ' s k'
 ·exact q.elim
end
theorem Z0y:∀ i:Fin 1000,(Str.ofString (toString (i.val:Int))).length<=3:=by decide +kernel
theorem L3 {i:Int} (h0:0<=i) (h1:i<1000):(Str.ofString (toString i)).length<=3:=by
 have:=Z0y ⟨i.toNat,by lia⟩;have e:((i.toNat:Nat):Int)=i:=by lia
 rw [e] at this;exact this
theorem Kh:∀ (ts:List Str) (k:Nat) (acc:Str),(textFrom k acc ts).length<=acc.length+piled ts
 | [],k,acc=>by rw [piled_nil];exact le_refl _
 | t::ts,k,acc=>by
  have h:=Kh ts (k+1) (acc++(if k > 0 then ", " else "" : String)++t);rw [piled_cons];have e:(acc++(if k > 0 then ", " else "" : String)++t).length<=acc.length+2+t.length:=by
   rw [strLen_append,strLen_append];have:(Str.ofString (if k > 0 then ", " else "")).length<=2:=by split<;>decide
   lia
  show (textFrom (k+1) (acc++(if k > 0 then ", " else "" : String)++t) ts).length<=_;lia
def So (ns:List Int):Prop:=ns.length<=500/\∀ n∈ns,0<=n/\n<1000
theorem Bg (h:So ns):(PyData.shown (.list (ns.map PyData.int))).length<=3000:=by
 have key:∀ ns:List Int,(∀ n∈ns,0<=n/\n<1000)->piled (PyData.shownAll (ns.map PyData.int))<=5*ns.length:=by
  intro ns;induction ns with
  | nil=>intro _;simp [PyData.shownAll,piled_nil]
  | cons n ns ih =>
   intro hn;have h1:=ih fun m hm=>hn m (mem_cons_of_mem _ hm)
   have h2:=hn n mem_cons_self;rw [map_cons,PyData.shownAll,piled_cons,length_cons];have:(PyData.shown (.int n)).length<=3:=by rw [PyData.shown];exact L3 h2.1 h2.2
   lia
 have hk:=key ns h.2;have h5:=h.1;rw [PyData.shown];show (textFrom 0 "[" _++"]").length<=_;rw [strLen_append];have:=Kh (PyData.shownAll (ns.map PyData.int)) 0 "[";have e1:(Str.ofString "[").length=1:=by decide
 have e2:(Str.ofString "]").length=1:=by decide
 lia
theorem Sz:∀ {ns:List Int},(∀ n∈ns,0<=n/\n<1000)->PyData.showableAll (ns.map PyData.int)=true
 | [],_=>by simp [PyData.showableAll]
 | n::ns,h=>by
  have h2:=h n mem_cons_self;rw [map_cons,PyData.showableAll,Sz fun m hm=>h m (mem_cons_of_mem _ hm),Bool.and_true,PyData.showable];have h3:n.natAbs<2^1920:=lt_of_lt_of_le (show n.natAbs<2^10 by lia) (pow_le_pow_right (by decide) (by decide));by_cases h0:n.natAbs=0
  ·rw [h0];decide
  ·exact decide_eq_true ((Nat.log2_lt h0).mpr h3)
theorem Kv:∀ (ns:List Int),PyData.hasDictAll (ns.map PyData.int)=false
 | []=>by simp [PyData.hasDictAll]
 | n::ns=>by rw [map_cons,PyData.hasDictAll,Kv ns,PyData.hasDict];rfl
theorem Nl:∀ (ns:List Int),PyData.depthAll (ns.map PyData.int)=0
 | []=>by simp [PyData.depthAll]
 | n::ns=>by rw [map_cons,PyData.depthAll,Nl ns,PyData.depth];rfl
theorem Oj:∀ {ns:List Int} {its:List Value},Zx (ns.map V.int) its->ReadsAll h its (ns.map PyData.int) []
 | [],[],_=>.nil
 | [],_::_,r=>by have:=r.length;simp at this
 | _::_,[],r=>by have:=r.length;simp at this
 | n::ns,v::its,r=>by
  cases r with
  | cons h1 r' =>
   obtain ⟨t,rfl⟩:=h1;exact .cons (as:=[]) (bs:=[]) (.int n t) (Oj r')
section
variable {X:Cx}
def Zct (K:Zzy) (te:TE) (r:TJ):TJ:=fun σ H acc Q=>te σ H fun x H1=>((∃ i:Int,x=.int i/\0<=i/\i<1000)\/∃ a ns,x=.ref a/\SL K H1 a (ns.map V.int)/\So ns)/\acc.length<=100000/\∀ y:Str,y.length<=3000->r σ H1 (acc++y) Q
theorem F3 (hr:RoomN k X.A) {e:Expr} {vs:List Expr} (he:PE X e te) (hrr:PJ X vs r):PJ X (.FormattedValue e (-1) none pos::vs) (Zct X.K te r):=by
 intro pins s σ H acc Q I hz h;refine joinParts_cons (FormattedValue_plain (Wp (he pins s σ H _ I h) fun v s1 ⟨x,H1,I1,r1,hx,hacc,q⟩=>?_));have hle:∀ y:Str,y.length<=3000->(acc++y).length<=sizeLine:=fun y hy=>by rw [strLen_append,sizeLine_eq];lia
 rcases hx with ⟨i,rfl,h0,h1⟩ | ⟨a,ns,rfl,hS,hsm⟩
 ·obtain ⟨t,rfl⟩:=r1
  have hy:(Str.ofString (toString i)).length<=3000:=le_trans (L3 h0 h1) (by decide);refine formatField_int_small ?_ ⟨hle _ hy,hrr pins _ σ H1 _ Q (I1.tok _) (hle _ hy) (q _ hy)⟩;by_cases h00:i.natAbs=0
  ·rw [h00];decide
  ·exact (Nat.log2_lt h00).mpr (lt_of_lt_of_le (show i.natAbs<2^10 by lia) (pow_le_pow_right (by decide) (by decide)))
 ·cases r1
  obtain ⟨its,n,w1,g1,_⟩:=hS.get I1;have hy:=Bg hsm;have rd:Reads s1.heap (.ref a) (.list (ns.map PyData.int)) [a]:=.list g1 rfl rfl (by simpa using Oj w1);refine formatField_of_reads (h₀:=s1.heap) rd (by rw [PyData.showable];exact Sz hsm.2) (PyData.noDict_hsm (by rw [PyData.hasDict];exact Kv ns)) hr.gd (by rw [PyData.depth,Nl];have:=hr.un;lia) (fun _ _ q=>q) (fun h' u tk hk=>?_) (le_trans hy (by decide));exact ⟨hle _ hy,hrr pins _ σ H1 _ Q (I1.kept hk) (hle _ hy) (q _ hy)⟩
theorem K9 (hr:Room k X.A) {e:Expr} {vs:List Expr} (he:PE X e te) (hrr:PJ X vs r):PJ X (.FormattedValue e (-1) none pos::vs) (Zct X.K te r):=F3 hr.n he hrr
end
end L2
namespace L2
open PySem PySem.Spec PyProof.Rows PySem.W
theorem Z0l {K:Frag} {N:Addr} {n:Str} {v:Value} (X:K.In h) (G:h.Ns N mg) (e:nsIn K N n=some (some v)):mg n=some v:=by
 obtain ⟨o,es,ep,ho,hd,_,hf⟩:=G;unfold nsIn at e;split at e
 ·rename_i c d es' n' sl q
  have:=X _ _ q;rw [ho] at this;cases this;cases hd;split at e
  ·rename_i en he
   cases e;rw [← hf];unfold nsFind findBy;rw [← Array.find?_toList,he];rfl
  ·split at e<;>cases e
 ·cases e
def Td (K:Frag) (C fI D:Addr):Bool:=match K.lookup C with
 | some ⟨.type "type",_,.cls cd,sl⟩=>(match cd.mro,sl.toList with
  | .ref C'::bm,[_,_,_,_,some (.builtin n),_]=>C'==C&&n=="ValueError.__new__" && !cd.hasDel&&cd.hasDict&&bm==.ref D::Mb&&tailIn K Mb bm&&nsOkIn K cd.ns&&nsIn K cd.ns "__init__" == some (some (.ref fI))
  | _,_=>false)
 | _=>false
theorem Oh {K:Frag} (X:K.In h) (q:Td K C fI D=true):∃ nm qn N bs sn sub ab col dd k0 k1 k2 k3 k5 mN,
  h.get? C=some (excClassObj nm qn C N bs (.ref D::Mb) true sn sub ab col dd k0 k1 k2 k3 k5 "ValueError.__new__")/\h.Ns N mN/\mN "__init__" = some (.ref fI)/\OwnTail h Mb (.ref D::Mb):=by
 unfold Td at q;split at q
 ·rename_i dd cd sl ho
  split at q
  ·rename_i C' bm k0 k1 k2 k3 n k5 hm hs
   simp only [Bool.and_eq_true,beq_iff_eq,Bool.not_eq_true'] at q;obtain ⟨⟨⟨⟨⟨⟨⟨rfl,rfl⟩,hdel⟩,hdi⟩,rfl⟩,ht⟩,hok⟩,hni⟩:=q;obtain ⟨nm,bs,mro,ns,qn,hd,sn,sub,ab,col,del⟩:=cd;dsimp only at hm hdel hok hni hdi;subst hm hdel hdi;have hsl:sl=#[k0,k1,k2,k3,some (.builtin "ValueError.__new__"),k5]:=by
    obtain ⟨l⟩:=sl;simp only at hs;rw [hs]
   subst hsl;have G:h.Ns ns (h.nsMap ns):=.of_isNs (isNs_of_in X hok);exact ⟨nm,qn,ns,bs,sn,sub,ab,col,dd,k0,k1,k2,k3,k5,_,X _ _ ho,G,Z0l X G hni,tail_of_in X ht⟩
  ·cases q
 ·cases q
def Ea (e C:Addr) (dct:Option Addr) (h:Heap):Prop:=∃ t:Addr,h.get? e=some { cls:=.ref C,dict:=dct,data:=.fields #[.ref t,.none,.none,.none,.bool false,.none] }
theorem Zda (h:H a=some o):Yn H a o=H:=by
 funext b;unfold Yn;split
 ·rename_i e;rw [e,h]
 ·rfl
theorem Xa (x:Ea e C dct h):Yz P w H h e (.ext (Ea e C dct)):=by
 obtain ⟨t,ht⟩:=x;exact ⟨⟨t,ht⟩,⟨_,ht⟩,fun h1 h2 ⟨t,q⟩ k=>⟨t,k _ q⟩⟩
structure BaseC (K:Frag) (mg:Zzw) (D:Addr):Prop where
 mg:mg "CalmError" = some (.ref D)
 ga:specialIn K (.ref D) "__getattribute__" = some (some (.builtin "type.__getattribute__"))
 rd:readsIn K D (.type "type")=true
 fi:findCls K (.ref D) (.type "type") "__init__" = some (.val (.builtin "ValueError.__init__"))
section
variable {X:Cx} {e:Expr} {es:List Expr} {t:TA} {p apos pos pos':Pos} {D:Addr}
def Am (K:Frag) (t:TA):TE:=fun σ H Q=>t σ H fun vs H1=>∃ e C dct v fI D,vs=[.ref e,v]/\H1 e=some (.ext (Ea e C dct))/\Td K C fI D=true/\Q .non H1
theorem Hq {pl:Sem Bool} (B:BaseC X.K X.mg D) (ha:PA X (e::es) t) (hg:Gl X "CalmError" := by rfl) (he:starEach (e::es) X.env=(false,eval e X.env)::starEach es X.env:=by rfl) (hpl:(backTo pos (starEach es X.env)).any (·.1)=false:=by rfl)
  (ht:eval (.Call (.Attribute (.Name "CalmError" p) "__init__" apos) (e::es) [] pos) X.env=(do
   let ov ← eval (.Name "CalmError" p) X.env
   standAt apos.atName
   let (f,first) ← holding [ov] (getMethod ov "__init__" pl)
   callWith pos f first (backTo pos (starEach (e::es) X.env)) (backToKw pos (keywordEach [] X.env))):=by rfl) :
  PE X (.Call (.Attribute (.Name "CalmError" p) "__init__" apos) (e::es) [] pos) (Am X.K t):=by
 intro pins s σ H Q I h;refine methodCall_KW (pl:=pl) (Ue I hg B.mg ?_ (by decide)) ht;refine method_cls I.kIn B.ga (cls_value I.kIn B.rd B.fi rfl ?_);refine PyProof.Rows.callWith_builtin1 (Wp (ha pos pins _ σ H _ (I.tok _) h) fun us s1 ⟨vs,H1,I1,r,ex,C,dct,v,fI,D',ev,hx,hc,q⟩=>?_) he hpl;subst ev;obtain ⟨u,w',rfl,r1,r2⟩:=Z2g r;cases r1;obtain ⟨nm,qn,N,bs,sn,sub,ab,col,dd,k0,k1,k2,k3,k5,mN,hC,hN,hi,T⟩:=Oh I1.kIn hc;obtain ⟨⟨t0,ht0⟩,_,_⟩:=(show Yz X.prog X.w H1 s1.heap ex (.ext (Ea ex C dct)) from I1.hok ex _ hx);obtain ⟨hh,g,d,tk,os⟩:=s1;refine P0 T hC ht0 fun h' he' hk hsz=>⟨.non,H1,?_,rfl,q⟩
 have:=I1.write (h':=h') (x:=ex) (e:=ex) (o:=.ext (Ea ex C dct)) (t':=tk) (by rw [hx];trivial) (.inl rfl) (fun b u hb q=>hk b u hb q) ⟨_,he'⟩ (Xa ⟨_,he'⟩);rw [Zda hx] at this;exact this
def Z1l (K:Frag) (ta tv:TE) (f:Str):TS:=fun D σ H=>tv σ H fun y H1=>ta σ H1 fun x H2=>∃ a C dct fI D',x=.ref a/\H2 a=some (.ext (Ea a C dct))/\Td K C fI D'=true/\XCls K C/\findIn K (.ref C) f=some none /\
 match dct with
 | none=>∀ dx,H2 dx=none->dx≠a->D.nx σ (Yn (Yn H2 a (.ext (Ea a C (some dx)))) dx (.xd [(f,y)]))
 | some dx=>False
theorem Lr {o value:Expr} {f:Str} {ta tv:TE} (ha:PE X o ta) (hv:PE X value tv) (hs:swapsWith value (some (.Attribute o f pos')) pos.line X.env=pure false:=by rfl):PS X (.Assign [.Attribute o f pos'] value pos) (Z1l X.K ta tv f):=by
 intro pins s σ H D I h;refine plainObj_wpAny_Assign_Attribute (Wp (hv pins s σ H _ I h) fun u s1 ⟨y,H1,I1,ry,q⟩=>Wp (ha pins s1 σ H1 _ I1 q) fun ov s2 ⟨x,H2,I2,rx,a,C,dct,fI,D',ex,ea,hc,xc,hf,q2⟩=>?_) hs;subst ex;obtain rfl:ov=Value.ref a:=rx;cases dct with
 | some dx=>exact q2.elim
 | none =>
  obtain ⟨⟨t0,ht0⟩,_,_⟩:=(show Yz X.prog X.w H2 s2.heap a (.ext (Ea a C none)) from I2.hok a _ ea);obtain ⟨cd,hcd,hhd,a',b',hm⟩:=xc.cd;obtain ⟨oC,cd',hC,hcd',hhd'⟩:=xc.ld I2.kIn;have IA:InstAt s2.heap a { cls:=.ref C,dict:=none,data:=.fields #[.ref t0,.none,.none,.none,.bool false,.none] } C none:=⟨ht0,rfl,rfl,trivial⟩;refine set_plain I2.kIn IA xc.sa ?_;refine Zbe (s:={ s2 with toks:=s2.toks+1 }) I2.kIn IA hcd hm hf ?_;obtain ⟨hh,g,d,tk,os⟩:=s2;refine Z49 ht0 rfl (fun c z=>by cases z) rfl hC hcd' hhd' fun h' tk' hx' hns hk hsz=>?_
  have hlt:a<hh.objs.size:=lt_size ht0;have hfr:H2 hh.objs.size=none:=I2.hok.fresh (le_refl _);have hda:hh.objs.size≠a:=Nat.ne_of_gt hlt;have agr:∀ b,b≠a->b≠hh.objs.size->Yn (Yn H2 a (.ext (Ea a C (some hh.objs.size)))) hh.objs.size (.xd [(f,y)]) b=H2 b:=fun b h1 h2=>by rw [Za h2,Za h1]
  have nex:∀ {b:Addr} {o:HO},H2 b=some o->b≠hh.objs.size:=fun {b o} q z=>by rw [z,hfr] at q;cases q
  have un:Un X.fs [] H2 (Yn (Yn H2 a (.ext (Ea a C (some hh.objs.size)))) hh.objs.size (.xd [(f,y)])) hh h':=by
   refine ⟨fun b o q n _ _=>hk b o (fun z=>by rw [z,ea] at n;cases n) q,fun b o q n _ _=>⟨o.slots,hk b o (fun z=>by rw [z,ea] at n;cases n) q⟩,fun b o q n _=>?_,fun b o q _=>?_,fun b xs q=>?_,fun b o u q=>?_,fun b ps q=>?_⟩
   ·rw [agr b (fun z=>by rw [z,ea] at n;cases n) (fun z=>by rw [z] at q;exact absurd (lt_size q) (lt_irrefl _))];exact n
   ·by_cases z:b=a
    ·subst z;exact ⟨_,hx'⟩
    ·exact ⟨_,hk b o z q⟩
   ·rw [agr b (fun z=>by rw [z,ea] at q;cases q) (nex q)];exact q
   ·rw [agr b (fun z=>by rw [z,ea] at q;cases q) (nex q)];exact q
   ·exact ⟨#[],by rw [agr b (fun z=>by rw [z,ea] at q;cases q) (nex q)];simpa using q⟩
  have hok:S4 X.prog X.w (Yn (Yn H2 a (.ext (Ea a C (some hh.objs.size)))) hh.objs.size (.xd [(f,y)])) h':=by
   intro b o q;by_cases z2:b=hh.objs.size
   ·subst z2
    rw [Zg] at q;cases q;refine ⟨_,hns,fun g=>?_⟩;show Rv (List.lookup g [(f,y)]) (if g=f then some u else none);by_cases e:g=f
    ·subst e;simp [List.lookup,Rv];exact ry
    ·have e':(g==f)=false:=by simpa using e
     simp [List.lookup,e',e,Rv]
   ·by_cases z1:b=a
    ·subst z1
     rw [Za z2,Zg] at q;cases q;exact Xa ⟨t0,hx'⟩
    ·rw [agr b z1 z2] at q
     refine (I2.hok b o q).stay (fun c v z w=>hk c v (fun zz=>?_) w) (fun c w=>?_) fun c xs w=>?_
     ·rcases z with z | z
      ·exact z1 (z.symm.trans zz)
      ·rw [zz,ea] at z;cases z
     ·rw [agr c (fun zz=>by rw [zz,ea] at w;cases w) (nex w)];exact w
     ·rw [agr c (fun zz=>by rw [zz,ea] at w;cases w) (nex w)];exact w
  exact ⟨σ,_,I2.un (h':=h') (t':=tk') un hok,q2 _ hfr hda⟩
end
def spG (K:Frag) (C:Addr) (p:Nat) (G:List Dat->Option (List (Str×XD))):Sp:=fun vs H Q _=>∃ e ws ds R fl,vs=.ref e::ws/\ws.length=p/\H e=some (.ext (Ea e C none))/\Ta R H/\R e=false/\W5 K (av H R) ds ws/\G ds=some fl /\
 ∀ H' dct,(∀ c o,c≠e->H c=some o->H' c=some o)->H' e=some (.ext (Ea e C dct))->Ab K (av H' R) dct fl->F7 H H' dct->Q .non H'
structure XMake (P:Program) (w:World) (K:Frag) (mg:Zzw) (base:Heap) (k:Nat) (c:Str) (p:Nat) (G:List Dat->Option (List (Str×XD))):Prop where
 ex:∃ C fI D fd ps,U3 K c C/\mg c=some (.ref C)/\keepIn K (.ref C)=true/\Td K C fI D=true/\XCls K C/\isFn K (.ref fI)=true/\FnOk P w K mg base E4 k fI fd ps (spG K C p G)/\M9 K fd ps []
 len:∀ ds fl,G ds=some fl->ds.length=p
 few:p<=10
theorem Ab.of_ne {K:Frag} {fs:List (Str×XD)} {g:Heap->Prop} (he:H e=some (.ext g)) (k:∀ c o,c≠e->H c=some o->H' c=some o) (h:Ab K H dct fs):Ab K H' dct fs:=by
 have ne:∀ {c:Addr} {o:HO},H c=some o->(∀ g,o≠.ext g)->H' c=some o:=fun {c o} q n=>k c o (fun z=>by rw [z,he] at q;exact n _ (Option.some.inj q).symm) q
 cases dct with
 | none=>exact h
 | some dx =>
  obtain ⟨fvs,e1,e2⟩:=h;refine ⟨fvs,ne e1 (fun _ z=>by cases z),fun f=>(e2 f).imp id fun ⟨d,v,a,b,c⟩=>⟨d,v,a,b,?_⟩⟩;cases d with
  | int i=>exact c
  | nums is =>
   obtain ⟨a,z1,z2,z3⟩:=c;refine ⟨a,z1,?_,z3⟩;rcases z2 with (z | ⟨o,z⟩) | z
   ·exact .inl (.inl (ne z (fun _ w=>by cases w)))
   ·exact .inl (.inr ⟨o,ne z (fun _ w=>by cases w)⟩)
   ·exact .inr z
def drp (H:Hp) (a:Addr):Hp:=fun b=>if b=a then none else H b
theorem Sv (h:b≠a):drp H a b=H b:=by unfold drp;rw [if_neg h]
theorem Gj:drp H a a=none:=by unfold drp;rw [if_pos rfl]
theorem Hj (h:H b=none):drp H a b=none:=by unfold drp;split<;>first | rfl | exact h
theorem Inv.drop {g:Heap->Prop} (I:Inv X pins σ H s) (ha:H a=some (.ext g)):Inv X pins σ (drp H a) s:=by
 have ne:∀ {b:Addr} {o:HO},H b=some o->(∀ g,o≠.ext g)->drp H a b=some o:=fun {b o} q n=>by rw [Sv (fun z=>by rw [z,ha] at q;exact n _ (Option.some.inj q).symm)];exact q
 refine ⟨I.ok,I.os,I.bare,⟨I.base.keep,I.base.slot,fun b o q n hx=>Hj (I.base.free b o q n hx),I.base.there,fun b xs q=>ne (I.base.tups b xs q) (fun _ z=>by cases z),fun b o u q=>ne (I.base.frzs b o u q) (fun _ z=>by cases z),fun b ps q=>?_⟩,I.loc,I.cell,Hj I.free,fun x c e=>Hj (I.freeC x c e),fun p hp=>?_,fun b o q=>?_,I.len⟩
 ·obtain ⟨more,z⟩:=I.base.tbls b ps q
  exact ⟨more,ne z (fun _ z=>by cases z)⟩
 ·obtain ⟨h1,h2,h3⟩:=I.pin p hp
  exact ⟨h1,Hj h2,h3⟩
 ·have hb:b≠a:=fun z=>by rw [z,Gj] at q;cases q
  rw [Sv hb] at q;exact (I.hok b o q).stay (fun _ _ _ w=>w) (fun c w=>ne w (fun _ z=>by cases z)) fun c xs w=>ne w (fun _ z=>by cases z)
theorem Z2j {ex:Addr} (h:F7 (Yn H ex o) H' dct) (hx:∃ g,H' ex=some (.ext g)) (s:Zo H0 H):F7 H0 (drp H' ex) dct:=fun dx e=>by
 have m:∀ b,Yn H ex o b=none->H0 b=none:=fun b z=>by
  have hb:b≠ex:=fun w=>by rw [w,Zg] at z;cases z
  rw [Za hb] at z;exact s.none z
 refine ⟨m _ (h dx e).1,fun fvs f a q l=>?_⟩;have q':H' dx=some (.xd fvs):=by
  have hb:dx≠ex:=fun w=>by rw [w,Gj] at q;cases q
  rw [Sv hb] at q;exact q
 obtain ⟨y1,xs,y2⟩:=(h dx e).2 fvs f a q' l;refine ⟨m _ y1,xs,?_⟩;have ha:a≠ex:=fun w=>by
  obtain ⟨g,hg⟩:=hx;rw [w,hg] at y2;cases y2
 rw [Sv ha];exact y2
theorem Ax (h:H a=none):Zo H (Yn H a o):=fun b u e=>by rw [Za (fun z=>by rw [z,h] at e;cases e)];exact e
section
variable {X:Cx} {fr:Bool} {e:Expr} {es:List Expr} {fs:Zzv} {p pos cpos:Pos} {k n:Nat} {c:Str} {G:List Dat->Option (List (Str×XD))}
def Vl (c:Str) (G:List Dat->Option (List (Str×XD))) (fs:Zzv):Ev->Fl:=fun env=>match (fs env).bind G with
 | none=>.no
 | some fl=>.exc env c fl
theorem P8 (M:XMake X.prog X.w X.K X.mg X.base k c n G) (hr:Room (k+1) X.A)
  (I:Inv X pins σ H s) (kk:EnvOk X.K B A H σ env) (r:Zx vs us) (rs:W5 X.K (av H A) ds vs) (hG:G ds=some fl) {C fI D:Addr} (hcl:U3 X.K c C) (hx:Td X.K C fI D=true) {fd:FuncData} {ps:List Str} (hfn:isFn X.K (.ref fI)=true) (F:FnOk X.prog X.w X.K X.mg X.base E4 k fI fd ps (spG X.K C n G)) (hb:M9 X.K fd ps [])
  (q:∀ H' σ',σ'=σ->Zo H H'->EnvOk X.K B A H' σ env->XW X B.H₀ A H' σ c fl) :
  wpAny (model X.prog X.w) X.A (call (.ref C) us) (fun v s'=>∃ ex t dct,v=.ref ex/\(∃ o,s'.heap.get? C=some o)/\s'.heap.get? ex=some { cls:=.ref C,dict:=dct,data:=.fields #[.ref t,.none,.none,.none,.bool false,.none] }/\X.K.In s'.heap/\X.xe (.ref ex) s') X.xe s:=by
 obtain ⟨nm,qn,N,bs,sn,sub,ab,col,dd,k0,k1,k2,k3,k5,mN,hC,hN,hi,T⟩:=Oh I.kIn hx;have hfI:∃ oI,s.heap.get? fI=some oI/\oI.cls=.type "function" := by
  have:=beq_iff_eq.mp hfn;obtain ⟨oI,h1,h2⟩:=Option.map_eq_some_iff.mp this;exact ⟨oI,I.kIn _ _ h1,h2⟩
 obtain ⟨oI,hfI,hfc⟩:=hfI;have hlen:us.length<=sizeLine:=by
  have h1:=r.length;have h2:=Zv rs;have h3:=M.len ds fl hG;have h4:=M.few;exact le_of_lt (U1 (by lia))
 obtain ⟨hh,g,d,tk,os⟩:=s;refine Om (hrest:=hlen) PySem.F.excBase_ValueError (by decide) PySem.F.excBase_ValueError T hC hN hi hfI hfc fun h' ex hlo hm=>?_
 obtain ⟨t0,ht0,_,_⟩:=hm.there;have hfr:H ex=none:=I.hok.fresh hlo;have I2:Inv X pins σ (Yn H ex (.ext (Ea ex C none))) ⟨h',g,d,tk,os⟩:=I.laid (h':=h') (t':=tk) (a:=ex) (o:=.ext (Ea ex C none)) hm.keeps hlo (Xa ⟨t0,ht0⟩);have aex:A ex=false:=by
  cases z:A ex with
  | false=>rfl
  | true=>obtain ⟨o,ho⟩:=(kk.mu ex z).some;rw [hfr] at ho;cases ho
 have sm1:Zo H (Yn H ex (.ext (Ea ex C none))):=Ax hfr;let Q':VK:=fun v H'=>v=.non/\∃ dct,(∀ c o,c≠ex->Yn H ex (.ext (Ea ex C none)) c=some o->H' c=some o)/\H' ex=some (.ext (Ea ex C dct))/\Ab X.K (av H' A) dct fl/\F7 (Yn H ex (.ext (Ea ex C none))) H' dct
 have hsp:spG X.K C n G (.ref ex::vs) (Yn H ex (.ext (Ea ex C none))) Q' E0:=⟨ex,vs,ds,A,fl,rfl,by rw [Zv rs];exact M.len ds fl hG,Zg,kk.mu.mono sm1,aex,rs.mono (We sm1),hG,fun H' dct h1 h2 h3 h4=>⟨rfl,dct,h1,h2,h3,h4⟩⟩;have hl2:(Value.ref ex::us).length=ps.length:=by
  have e1:=F.len _ _ _ _ hsp;have e2:=r.length;rw [length_cons] at e1 ⊢;lia
 refine wpAny_call (codeAny_mono (F.run _ X.stack ⟨h',g,d,tk,os⟩ _ ⟨Value.ref ex::us,[]⟩ (Value.ref ex::us) (V.ref ex::vs) Q' E0 (hr.make C us []) (I2.env0.make C us []) (by simpa using hb _ (Value.ref ex::us) I2.kIn (by simpa using hl2)) (.cons rfl r) hsp) fun rr s' hq=>?_);cases rr with
 | error e=>exact False.elim hq
 | ok fl' =>
  cases fl' with
  | ret u =>
   obtain ⟨v,H',I3,rv,ev,dct,h1,h2,h3,h4⟩:=I2.after hq;subst ev;have eu:u=.none:=rv;subst eu;refine ⟨rfl,?_⟩;obtain ⟨⟨t1,ht1⟩,_,_⟩:=(show Yz X.prog X.w H' s'.heap ex (.ext (Ea ex C dct)) from I3.hok ex _ h2);have I4:=I3.drop h2;have sm:Zo H (drp H' ex):=fun b o q=>by
    have hb:b≠ex:=fun z=>by rw [z,hfr] at q;cases q
    rw [Sv hb];exact h1 b o hb (by rw [Za hb];exact q)
   have lo2:X.s₀.heap.objs.size<=ex:=le_trans I.sz hlo;obtain ⟨nm',qn',N',bs',sn',sub',ab',col',dd',k0',k1',k2',k3',k5',mN',hC',_,_,_⟩:=Oh I3.kIn hx;refine ⟨ex,t1,dct,rfl,⟨_,hC'⟩,ht1,I3.kIn,?_⟩;refine q (drp H' ex) σ rfl sm (kk.mono sm) pins s' ex C dct I4 hcl ⟨lo2,Gj,.inl ⟨_,_,ht1,rfl,rfl,rfl,rfl,fun _=>rfl⟩,fun p hp z=>?_⟩ ?_ (Z2j h4 ⟨_,h2⟩ kk.h0)
   ·have:=(I.pin p hp).1
    rw [z] at this;exact absurd (lt_size this) (not_lt.mpr hlo)
   ·exact h3.of_ne (e:=ex) (Wn h2 aex) fun c o hc q=>Wn (by rw [Sv hc];exact (Qd q).2) (Qd q).1
  | next=>exact False.elim hq
  | brk=>exact False.elim hq
  | cont=>exact False.elim hq
theorem Li (M:XMake X.prog X.w X.K X.mg X.base k c n G) (hr:Room (k+1) X.A) (hc:X.calm=true) (ha:Oo false X (e::es) fs) (hg:Gl X c:=by rfl) (hdb:(c==("__debug__" : Str))=false:=by decide)
  (he:starEach (e::es) X.env=(false,eval e X.env)::starEach es X.env:=by rfl) (hpl:(backTo cpos (starEach es X.env)).any (·.1)=false:=by rfl):E8 fr X (.Raise (some (.Call (.Name c p) (e::es) [] cpos)) none pos) (Vl c G fs):=by
 intro pins s σ H D I ⟨env,B,A,kk,hst,q⟩;obtain ⟨C,fI,D',fd,ps,hcl,hm,hkp,hx,xc,hfn,F,hb⟩:=M.ex;unfold Vl at q;split at q
 ·exact q.elim
 rename_i fl hfl;obtain ⟨ds,e1,hG⟩:=bind_some hfl;obtain ⟨nm,qn,N,bs,sn,sub,ab,col,dd,k0,k1,k2,k3,k5,mN,hC,hN,hi,T⟩:=Oh I.kIn hx;have key:wpAny (model X.prog X.w) X.A (eval (.Call (.Name c p) (e::es) [] cpos) X.env) (fun v s'=>∃ ex t dct,v=.ref ex/\(∃ o,s'.heap.get? C=some o)/\s'.heap.get? ex=some { cls:=.ref C,dict:=dct,data:=.fields #[.ref t,.none,.none,.none,.bool false,.none] }/\X.K.In s'.heap/\X.xe (.ref ex) s') X.xe s:=by
  refine wpAny_Call_Name_kw (Ue I hg hm ?_ hdb);refine callWith_K (h₀:=X.base) I.ok.mod.kin hkp (Wp (ha cpos pins s σ H (fun vs H1=>Zo H H1/\W5 X.K (av H1 A) ds vs) I ⟨env,B,A,ds,kk,e1,fun vs H1 s1 rs=>⟨s1,rs.rps⟩⟩) fun us s1 ⟨vs,H1,I1,r,sm,rs⟩=>⟨I1.kIn,?_⟩) he hpl;exact P8 M hr I1 (kk.mono sm) r rs hG hcl hx hfn F hb fun H' σ' _ sm2 k2=>q A H' σ (Step.same (sm.trans sm2)) k2
 rw [arm_exec_Raise];refine wpAny_bind (wpAny_standAt (Kx (C:=C) (nm:=nm) (q:=qn) (N:=N) (bs:=bs) (bm:=.ref D'::Mb) (hdct:=true) (sn:=sn) (sub:=sub) (ab:=ab) (col:=col) (dd:=dd) (k0:=k0) (k1:=k1) (k2:=k2) (k3:=k3) (k5:=k5) (newId:="ValueError.__new__") (by simp [Mb]) (I.ok.hd hc) (wpAny_bind (wpAny_mono key (fun v s₃ h₃=>wpAny_bind (wpAny_standAt (wpAny_pure ?_))) fun _ _ x=>x))));obtain ⟨ex,t,dct,rfl,_,hex,hK,hxe⟩:=h₃;obtain ⟨o,lk⟩:∃ o,X.K.lookup C=some o:=by
  unfold Td at hx;split at hx
  ·rename_i ho;exact ⟨_,ho⟩
  ·cases hx
 have e2:=(I.kIn _ _ lk).symm.trans hC;cases e2;exact ⟨ex,.ref t,dct,rfl,hK _ _ lk,hex,hxe⟩
end
def T3 (ns:List Int):Bool:=decide (ns.length<=500)&&ns.all fun n=>decide (0<=n)&&decide (n<1000)
theorem Dj (h:T3 ns=true):So ns:=by
 unfold T3 at h;rw [Bool.and_eq_true,all_eq_true] at h;refine ⟨of_decide_eq_true h.1,fun n hn=>?_⟩;have:=h.2 n hn;rw [Bool.and_eq_true] at this;exact ⟨of_decide_eq_true this.1,of_decide_eq_true this.2⟩
def gW (f:Str):List Dat->Option (List (Str×XD))
 | [.lst xs]=>(Qk xs).bind fun ns=>if T3 ns=true then some [(f,.nums ns)] else none
 | _=>none
def JOk (n:Nat) (σ:St) (H:Hp) (r:TJ):Prop:=∀ (acc:Str) (Q:VK),acc.length<=n->(∀ z,Q (.str z) H)->r σ H acc Q
theorem Lx {n:Nat} :JOk n σ H Zfu:=fun acc Q _ q=>q acc
theorem M3 {n:Nat} (hr:JOk (n+c.length) σ H r) (h:n+c.length<=100000):JOk n σ H (Zg9 c r):=fun acc Q ha q=>by
 have e:(acc++c).length=acc.length+c.length:=strLen_append _ _;exact ⟨by rw [e,sizeLine_eq];lia,hr _ Q (by rw [e];lia) q⟩
theorem M1 {n:Nat} {K:Frag} (hr:JOk (n+3000) σ H r) (h:n<=90000) (hv:σ[i]?=some (some v)) (hs:(∃ i:Int,v=.int i/\0<=i/\i<1000)\/∃ a ns,v=.ref a/\SL K H a (ns.map V.int)/\So ns):JOk n σ H (Zct K (Mi i) r):=fun acc Q ha q =>
 ⟨v,hv,hs,by lia,fun y hy=>hr _ Q (by rw [strLen_append];lia) q⟩
section
variable {P:Program} {w:World} {K:Frag} {mg:Zzw} {base:Heap}
end
section
variable {X:Cx} {pins:Zzx} {σ:St} {H:Hp} {s:Shared}
abbrev Cx.inTry (X:Cx) (pn:Zzx) (E:Zzz):Cx:={ X with pn:=pn,xe:=E }
abbrev Cx.inH (X:Cx) (pn:Zzx) (e:Addr):Cx:={ X with A:=X.A.mark (some (.ref e)),calm:=false,pn:=pn,xe:=fun _ _=>False }
theorem Inv.toTry (I:Inv X pins σ H s):Inv (X.inTry (X.pn++pins) E) [] σ H s :=
 ⟨⟨I.ok.mod,I.ok.kind,I.ok.glob,I.ok.blt,I.ok.above,I.ok.inj,I.ok.has,I.ok.cab,I.ok.hd,I.ok.frames,I.ok.stk,I.ok.exf,I.ok.bs,I.ok.bsz,I.ok.noex,I.ok.exfs,I.ok.funs,I.ok.frf⟩,I.os,I.bare,I.base,I.loc,I.cell,I.free,I.freeC,fun p hp=>I.pin p (by simpa using hp),I.hok,I.len⟩
theorem Inv.ofTry {pins':Zzx} (ok:X.Ok) (I:Inv (X.inTry (X.pn++pins) E) pins' σ H s):Inv X pins σ H s :=
 ⟨ok,I.os,I.bare,I.base,I.loc,I.cell,I.free,I.freeC,fun p hp=>I.pin p (mem_append_left _ hp),I.hok,I.len⟩
theorem Inv.toH (I:Inv X pins σ H s):Inv (X.inH (X.pn++pins) e) [] σ H s :=
 ⟨⟨I.ok.mod,I.ok.kind,I.ok.glob,I.ok.blt,I.ok.above,I.ok.inj,I.ok.has,I.ok.cab,(fun z=>nomatch z),I.ok.frames,I.ok.stk,I.ok.exf,I.ok.bs,I.ok.bsz,I.ok.noex,I.ok.exfs,I.ok.funs,I.ok.frf⟩,I.os,I.bare,I.base,I.loc,I.cell,I.free,I.freeC,fun p hp=>I.pin p (by simpa using hp),I.hok,I.len⟩
end
theorem R8 {T':Addr} {h2:Heap} (k:Nj l ch h h') (hT:h.objs.size<=T') (y:∀ b o,h'.get? b=some o->b∉[T']->h2.get? b=some o):Nj l ch h h2:=fun b o hb hc=>by
 obtain ⟨k1,sl,k2⟩:=k b o hb hc;have hbT:b∉[T']:=fun z=>by
  have e1:b=T':=by simpa using z
  rw [e1] at hb;exact absurd (lt_size hb) (not_lt.mpr hT)
 exact ⟨fun hl=>y b o (k1 hl) hbT,sl,y b _ k2 hbT⟩
section
variable {X:Cx} {fr:Bool} {g h:Ev->Fl} {body:List Stmt} {b₀:Stmt} {suite:List Stmt} {T n:Str} {np hpos pos:Pos} {i:Nat} {sub:Str->Bool} {DT:Addr}
end
section
variable {X:Cx} {m:Bool} {e:Expr} {f:Zzu} {p p2 pos:Pos}
end
end L2
namespace L2
open PySem
end L2
namespace L2
open PySem PySem.Spec PyProof.Rows
section
variable {P:Program} {w:World} {A:Around} {E:Zzz} {s:Shared}
end
section
variable {P:Program} {w:World} {A:Around} {R:Result->Shared->Prop} {I:Addr} {fp wr:List Addr} {G:Array GenState->Array GenState->Prop} {n:Nat} {Pv:Nat->Value->Prop} {St:Nat->Shared->Prop}
end
section
variable {P:Program} {w:World} {A:Around} {E:Zzz} {s:Shared}
end
end L2
namespace PySem
namespace F
end F
end PySem
namespace L2
open PySem PySem.Spec PyProof.Rows
section
variable {P:Program} {w:World} {A:Around} {E:Zzz} {s:Shared}
end
end L2
namespace PySem.F
end PySem.F
namespace L2
open PySem PySem.Spec PyProof.Rows
section
variable {P:Program} {w:World} {A:Around} {E:Zzz} {s:Shared}
end
end L2
namespace Sq
open PySem PyProof PyProof.Rows
section
variable {prog:Program} {w:World} {A:Around} {E:Zzz} {s:Shared} {a₀:Array Keyed} {p:Array (Nat×Nat×Nat)}
end
section
variable {prog:Program} {w:World} {A:Around} {E:Zzz} {s:Shared}
end
section
variable {r:Int->Int->Prop} {a b out:List Keyed} {ia ib:Nat}
end
section
variable {prog:Program} {w:World} {A:Around} {E:Zzz} {s:Shared} {a b:Array Keyed} {n0:Nat}
end
section
variable {prog:Program} {w:World} {A:Around} {E:Zzz} {s:Shared} {a₀:Array Keyed}
end
section
variable {prog:Program} {w:World} {A:Around} {E:Zzz} {s:Shared}
end
end Sq
namespace L2
open PySem PySem.Spec PyProof.Rows
section
variable {P:Program} {w:World} {A:Around} {E:Zzz} {s:Shared}
end
section
variable {X:Cx} {e:Expr} {fs:Zzv}
end
end L2
set_option maxHeartbeats 4000000
namespace L2
open PySem PySem.Spec PyProof.Rows
section
variable {X:Cx}
theorem Z5b {A:Around} {t:Addr} {vs ws:List Value} (ht:IsTup s.heap t vs.toArray) (hb:IsTup s.heap b ws.toArray) (hv:vs=[]) (h0:Q (.ref b) s):wpAny (model P w) A (binaryOp .Add (.ref t) (.ref b)) Q E s:=by
 obtain ⟨⟨cls,dd,data,sl⟩,ho,hc,n,hd⟩:=id ht;obtain ⟨⟨cls2,dd2,data2,sl2⟩,ho2,hc2,n2,hd2⟩:=id hb;simp only at hc hd hc2 hd2;subst hc hd hc2 hd2;exact concat_meets ⟨_,ho,rfl⟩ ⟨_,ho2,rfl⟩ noFill_tuple_add seq_tuple_add PySem.F.slot_tuple_add PySem.F.entry_tuple_add (PySem.F.args_tuple_add_2 _ _)
  (tuple_addW0 t b vs.toArray ws.toArray n n2 dd dd2 sl sl2 (by simp [hv])) ⟨ho,ho2,h0⟩
theorem Pk.tupR (h:Pk K A H (.tup ds) v):Rp K (av H A) (.tup ds) v:=by
 rcases h with h | ⟨a,vs,ds,e1,e2,e3,e4⟩ | ⟨_,_,_,e1,_⟩ | ⟨_,_,e1,_⟩
 ·exact h
 ·cases e1
 ·cases e1
 ·cases e1
def Z7t:Dat->Dat->Option Dat
 | .tup xs,.tup ys=>if xs.length+ys.length<=sizeLine then some (.tup (xs++ys)) else none
 | _,_=>none
theorem Z5w:Si X (binaryOp .Add) Z7t:=fun pins s σ H x y v u Q I rx ry zz=>by
 obtain ⟨A,a,b,d,mu,e,p1,p2,q⟩:=zz;unfold Z7t at e;split at e
 ·rename_i xs ys
  split at e
  ·rename_i hz
   cases e;obtain ⟨l1,vs,e1,h1,r1⟩:=p1.tup;obtain ⟨l2,us,e2,h2,r2⟩:=p2.tup;have z1:=Zv r1;have z2:=Zv r2;have w1:=p1.tupR;have w2:=p2.tupR;by_cases hx:xs=[]
   ·subst hx e1 e2
    cases rx;cases ry;obtain ⟨its,y1,g1,_⟩:=I.tuple h1;obtain ⟨its2,y2,g2,_⟩:=I.tuple h2;have hn:its=[]:=by
     have:=y1.length;rw [z1] at this;exact length_eq_zero_iff.mp this.symm
    refine Z5b g1 g2 hn ⟨.ref l2,H,I,rfl,?_⟩;exact q.here w2
   ·refine Za1 pins s σ H x y v u Q I rx ry ⟨l1,l2,vs,us,e1,e2,h1,h2,Z3d r1 (by simpa using hx),by lia,fun hy=>?_,fun hy=>?_⟩
    ·have:ys=[]:=by subst hy;exact length_eq_zero_iff.mp z2.symm
     subst this;rw [append_nil] at q;rw [e1] at w1;exact q.here w1
    ·exact q.tup mu (by rw [length_append];exact hz) (W6 r1 r2)
  ·cases e
 ·cases e
end
end L2
namespace L2
open PySem PySem.Spec PyProof.Rows PySem.W
section
variable {X:Cx} {m fr:Bool} {e:Expr} {f:Zzu} {g h:Ev->Fl} {p p2 pos:Pos} {body:List Stmt} {b₀:Stmt} {suite:List Stmt} {T n tx:Str} {np hpos:Pos} {i:Nat} {sub:Str->Bool} {sb:Str->Option Bool}
end
section
variable {K:Frag} {mg:Zzw}
end
section
variable {X:Cx}
theorem Cz:MtR X "list.extend" (fun x vs H Q=>∃ l b xs zs,x=.ref l/\vs=[.ref b]/\H l=some (.lst xs)/\SL X.K H b zs/\xs.length+zs.length<=sizeLine/\Q .non (Yn H l (.lst (xs++zs)))):=by
 intro pins s σ H x vs v us Q I rx rv h;obtain ⟨l,b,xs,zs,rfl,rfl,hH,hB,hz,q⟩:=h;cases rx;obtain ⟨u,rfl,ru⟩:=rv.one;cases ru;obtain ⟨z,its,n,r,hl,e⟩:=I.lstM hH;obtain ⟨its2,n2,r2,e2,hz2⟩:=hB.get I;have hl2:=r2.length;have hsz:its.toArray.size+its2.toArray.size<=sizeLine:=by rw [size_toArray,size_toArray];lia
 have hlong:¬ (!its.toArray.isEmpty&&Builtin.List.listTooLong (its.toArray.size+its2.toArray.size))=true:=by
  rw [Z70 hsz,Bool.and_false];exact Bool.false_ne_true
 refine call_meets PySem.F.slot_list_extend ⟨_,e,rfl⟩ PySem.F.entry_list_extend (PySem.F.args_list_extend_2 _ _)
  (AutoSeq1.list_extend_list_list_0 l its.toArray n b its2.toArray n2 hlong (by rw [size_toArray];lia) (by lia)) ⟨e,e2,?_⟩
 refine ⟨.non,_,I.lset (its':=its++its2) hH e (by simp) (r.append r2) ?_,rfl,q⟩;rw [length_append];lia
def Lw:List Dat->List Dat->Option (List Dat)
 | ds,[.lst es]=>if ds.length+es.length<=sizeLine then some (ds++es) else none
 | _,_=>none
theorem Z5f:MtU X "list.extend" Lw:=MtR.weak (id:="list.extend") Cz fun v us H Q zz=>by
 obtain ⟨A,a,vs,ds,as,ds',mu,e1,h1,r1,r2,e2,q⟩:=zz;unfold Lw at e2;split at e2
 ·rename_i es
  split at e2
  ·rename_i hl
   cases e2;obtain ⟨w,us',e3,r3,e4⟩:=r2;obtain ⟨b,zs,e5,hS,r5⟩:=Qr r3;subst e5;have l1:=Zv r1;have l2:=Zv r5;refine ⟨a,b,vs,zs,e1,by rw [e3,show us'=[] from e4],h1,Ym.sl hS,by lia,q _ _ (by rw [length_append];exact hl) (W6 r1 r5)⟩
  ·cases e2
 ·cases e2
end
section
variable {X:Cx} {m:Bool} {e:Expr} {f:Zzu} {pos:Pos} {vs:List Expr} {r:Ev->Str->Option Str}
end
end L2
namespace L2
open PySem PySem.Spec PyProof.Rows PySem.W PySem.Builtin PySem.Builtin.Str
section
variable {X:Cx}
end
end L2
namespace L2
open PySem PySem.Spec PyProof.Rows PySem.W
def sNo:Ev->Fl:=fun _=>.no
theorem Zgm {st:Stmt}:E8 fr X st sNo:=fun pins s σ H D I ⟨env,B,A,k,hst,q⟩=>q.elim
section
variable {X:Cx} {fr:Bool} {p pos cpos:Pos} {k n:Nat} {c:Str} {G:List Dat->Option (List (Str×XD))}
theorem Z6v (M:XMake X.prog X.w X.K X.mg X.base k c n G) (hr:Room (k+1) X.A) (hc:X.calm=true) (hg:Gl X c:=by rfl) (hdb:(c==("__debug__" : Str))=false:=by decide)
  : E8 fr X (.Raise (some (.Call (.Name c p) [] [] cpos)) none pos) (Vl c G Zc):=by
 intro pins s σ H D I ⟨env,B,A,kk,hst,q⟩;obtain ⟨C,fI,D',fd,ps,hcl,hm,hkp,hx,xc,hfn,F,hb⟩:=M.ex;unfold Vl at q;split at q
 ·exact q.elim
 rename_i fl hfl;obtain ⟨ds,e1,hG⟩:=bind_some hfl;obtain ⟨nm,qn,N,bs,sn,sub,ab,col,dd,k0,k1,k2,k3,k5,mN,hC,hN,hi,T⟩:=Oh I.kIn hx;have key:wpAny (model X.prog X.w) X.A (eval (.Call (.Name c p) [] [] cpos) X.env) (fun v s'=>∃ ex t dct,v=.ref ex/\(∃ o,s'.heap.get? C=some o)/\s'.heap.get? ex=some { cls:=.ref C,dict:=dct,data:=.fields #[.ref t,.none,.none,.none,.bool false,.none] }/\X.K.In s'.heap/\X.xe (.ref ex) s') X.xe s:=by
  refine wpAny_Call_Name_kw (Ue I hg hm ?_ hdb);refine callWith_K0 I.kIn hkp ?_;cases e1;exact P8 M hr I kk .nil V8 hG hcl hx hfn F hb fun H' σ' _ sm2 k2=>q A H' σ (Step.same sm2) k2
 rw [arm_exec_Raise];refine wpAny_bind (wpAny_standAt (Kx (C:=C) (nm:=nm) (q:=qn) (N:=N) (bs:=bs) (bm:=.ref D'::Mb) (hdct:=true) (sn:=sn) (sub:=sub) (ab:=ab) (col:=col) (dd:=dd) (k0:=k0) (k1:=k1) (k2:=k2) (k3:=k3) (k5:=k5) (newId:="ValueError.__new__") (by simp [Mb]) (I.ok.hd hc) (wpAny_bind (wpAny_mono key (fun v s₃ h₃=>wpAny_bind (wpAny_standAt (wpAny_pure ?_))) fun _ _ x=>x))));obtain ⟨ex,t,dct,rfl,_,hex,hK,hxe⟩:=h₃;obtain ⟨o,lk⟩:∃ o,X.K.lookup C=some o:=by
  unfold Td at hx;split at hx
  ·rename_i ho;exact ⟨_,ho⟩
  ·cases hx
 have e2:=(I.kIn _ _ lk).symm.trans hC;cases e2;exact ⟨ex,.ref t,dct,rfl,hK _ _ lk,hex,hxe⟩
end
def gZ:List Dat->Option (List (Str×XD))
 | []=>some []
 | _=>none
theorem Z5s:∀ ds fl,gZ ds=some fl->ds.length=0:=fun ds fl h=>by
 unfold gZ at h;split at h
 ·rfl
 ·cases h
section
variable {P:Program} {w:World} {K:Frag} {mg:Zzw} {base:Heap}
theorem Zdp {st:Stmt} (F:Fun K "__init__" qual st fI fd) (S:FnScope ["self"] ["self"] (Z4 st)) (hx:Td K C fI' D=true)
  (hb:∀ (cdv:Value) (A:Around) (outer:List Env) (s:Shared) (H:Hp) (E:XK),Room k (A.deeper (envOfC qual (Z4 st) s.heap.objs.size fI cdv)) ->
   Dh (Te E4 P w K mg base ["self"] qual (Z4 st) fI cdv A outer s H E).nox (Y2 st) (As (Am K (Mv (Mi 0) (Mv (tC (.str z)) F5))))) :
  FnOk P w K mg base E4 (k+1) fI fd ["self"] (spG K C 0 gZ):=by
 refine F.ok S (fun vs H Q E ⟨e,ws,ds,R,fl,ev,hl,_⟩=>by rw [ev,length_cons,hl];rfl) fun cdv A outer s H vs Q E hr ⟨e,ws,ds,R,fl,ev,hl,he,mu,re,rs,hG,q⟩=>⟨_,hb cdv A outer s H E hr,?_⟩
 subst ev;have ew:ws=[]:=length_eq_zero_iff.mp hl;subst ew;have ed:ds=[]:=length_eq_zero_iff.mp (Z5s ds fl hG);subst ed;cases hG;exact ⟨.ref e,rfl,e,C,none,.str z,fI',D,rfl,he,hx,q H none (fun _ _ _ h=>h) he rfl Z60⟩
end
section
variable {X:Cx} {pos pos':Pos}
def C8 (K:Frag) (ta tv:TE) (f:Str):TS:=fun D σ H=>tv σ H fun y H1=>ta σ H1 fun x H2=>∃ a C dx fvs fI D',x=.ref a/\H2 a=some (.ext (Ea a C (some dx)))/\H2 dx=some (.xd fvs)/\fvs.length<=100/\fvs.lookup f=none/\Td K C fI D'=true/\XCls K C/\findIn K (.ref C) f=some none /\
 D.nx σ (Yn H2 dx (.xd (fvs++[(f,y)])))
theorem Kr (f g:Str) (y:β):∀ (l:List (Str×β)),(l++[(f,y)]).lookup g=match l.lookup g with | some v=>some v | none=>if g=f then some y else none
 | []=>by
   by_cases e:g=f
   · subst e;simp [List.lookup]
   · have e':(g==f)=false:=by simpa using e
     simp [List.lookup,e',e]
 | (h,z)::l=>by
   rw [List.cons_append,lookup_cons,lookup_cons];cases hh:(g==h) with
   | true=>rfl
   | false=>exact Kr f g y l
theorem O6 {v:β}:∀ {l:List (Str×β)},l.lookup z=some v->z∈l.map (·.1)
 | [],h=>by simp at h
 | (k,w)::l,h=>by
   rw [lookup_cons] at h;cases hh:(z==k) with
   | true=>rw [beq_iff_eq.mp hh];simp
   | false=>rw [hh] at h;exact mem_cons_of_mem _ (O6 h)
theorem Lv {o value:Expr} {f:Str} {ta tv:TE} (ha:PE X o ta) (hv:PE X value tv) (hs:swapsWith value (some (.Attribute o f pos')) pos.line X.env=pure false:=by rfl):PS X (.Assign [.Attribute o f pos'] value pos) (C8 X.K ta tv f):=by
 intro pins s σ H D I h;refine plainObj_wpAny_Assign_Attribute (Wp (hv pins s σ H _ I h) fun u s1 ⟨y,H1,I1,ry,q⟩=>Wp (ha pins s1 σ H1 _ I1 q) fun ov s2 ⟨x,H2,I2,rx,a,C,dx,fvs,fI,D',ex,ea,ed,hle,hnf,hc,xc,hf,q2⟩=>?_) hs;subst ex;obtain rfl:ov=Value.ref a:=rx;obtain ⟨⟨t0,ht0⟩,_,_⟩:=(show Yz X.prog X.w H2 s2.heap a (.ext (Ea a C (some dx))) from I2.hok a _ ea);obtain ⟨mA,hns,hrel⟩:=(show Yz X.prog X.w H2 s2.heap dx (.xd fvs) from I2.hok dx _ ed);obtain ⟨cd,hcd,hhd,a',b',hm⟩:=xc.cd;obtain ⟨oC,cd',hC,hcd',hhd'⟩:=xc.ld I2.kIn;have hns':=hns;obtain ⟨od,es,ep,hod,hcod⟩:=hns;have IA:InstAt s2.heap a { cls:=.ref C,dict:=some dx,data:=.fields #[.ref t0,.none,.none,.none,.bool false,.none] } C (some od):=⟨ht0,rfl,rfl,hod⟩;refine set_plain I2.kIn IA xc.sa ?_;refine Zbe (s:={ s2 with toks:=s2.toks+1 }) I2.kIn IA hcd hm hf ?_;obtain ⟨hh,g,d,tk,os⟩:=s2;have hw:Within mA (fvs.map (·.1)):=fun z hz=>by
  have:=hrel z;cases e:fvs.lookup z with
  | none =>
   rw [e] at this;cases e2:mA z with
   | none=>exact absurd e2 hz
   | some v=>rw [e2] at this;exact this.elim
  | some v=>exact O6 e
 refine Z0h ht0 rfl rfl hns' hw (by rw [length_map];lia) hC hcd' hhd' fun h' tk' hn' hk hsz=>?_
 have nd:∀ {b:Addr} {o:HO},H2 b=some o->(∀ l,o≠.xd l)->b≠dx:=fun {b o} q n z=>by rw [z,ed] at q;cases q;exact n _ rfl
 have n0:∀ {b:Addr},H2 b=none->b≠dx:=fun {b} q z=>by rw [z,ed] at q;cases q
 have un:Un X.fs [] H2 (Yn H2 dx (.xd (fvs++[(f,y)]))) hh h':=by
  refine ⟨fun b o q n _ _=>hk b o (n0 n) q,fun b o q n _ _=>⟨o.slots,hk b o (n0 n) q⟩,fun b o q n _=>by rw [Za (n0 n)];exact n,fun b o q _=>?_,fun b xs q=>by rw [Za (nd q (fun _ z=>by cases z))];exact q,fun b o u q=>by rw [Za (nd q (fun _ z=>by cases z))];exact q,fun b ps q=>⟨#[],by rw [Za (nd q (fun _ z=>by cases z))];simpa using q⟩⟩;by_cases z:b=dx
  ·subst z
   obtain ⟨od2,_,_,h2,_⟩:=hn';exact ⟨_,h2⟩
  ·exact ⟨_,hk b o z q⟩
 have hok:S4 X.prog X.w (Yn H2 dx (.xd (fvs++[(f,y)]))) h':=by
  intro b o q;by_cases z2:b=dx
  ·subst z2
   rw [Zg] at q;cases q;refine ⟨_,hn',fun g=>?_⟩;show Rv (List.lookup g (fvs++[(f,y)])) (if g=f then some u else mA g);rw [Kr];by_cases e:g=f
   ·subst e
    rw [hnf];simp [Rv];exact ry
   ·have:=hrel g
    cases e3:fvs.lookup g with
    | none=>rw [e3] at this;simpa [e] using this
    | some v=>rw [e3] at this;simpa [e] using this
  ·rw [Za z2] at q
   refine (I2.hok b o q).stay (fun c v z w=>hk c v (fun zz=>?_) w) (fun c w=>?_) fun c xs w=>?_
   ·rcases z with z | z
    ·exact z2 (z.symm.trans zz)
    ·rw [zz,ed] at z;cases z
   ·rw [Za (fun zz=>by rw [zz,ed] at w;cases w)];exact w
   ·rw [Za (fun zz=>by rw [zz,ed] at w;cases w)];exact w
 exact ⟨σ,_,I2.un (h':=h') (t':=tk') un hok,q2⟩
end
def Ri (i:Int):Bool:=decide (0<=i)&&decide (i<1000)
theorem Ke {i:Int} (h:Ri i=true):0<=i/\i<1000:=by
 unfold Ri at h;rw [Bool.and_eq_true] at h;exact ⟨of_decide_eq_true h.1,of_decide_eq_true h.2⟩
def gC (f1 f2 f3:Str):List Dat->Option (List (Str×XD))
 | [.lst xs,.int i,.int j]=>(Qk xs).bind fun ns=>if (T3 ns&&Ri i&&Ri j)=true then some [(f1,.nums ns),(f2,.int i),(f3,.int j)] else none
 | _=>none
def gK (f1 f2 f3:Str):List Dat->Option (List (Str×XD))
 | [.lst xs,.lst ys,.int i]=>(Qk xs).bind fun ns=>(Qk ys).bind fun ms=>if (T3 ns&&T3 ms&&Ri i)=true then some [(f1,.nums ns),(f2,.nums ms),(f3,.int i)] else none
 | _=>none
section
variable {P:Program} {w:World} {K:Frag} {mg:Zzw} {base:Heap}
theorem Zeh {x1 x2 x3:Str} {st:Stmt} (F:Fun K "__init__" qual st fI fd) (S:FnScope ["self",x1,x2,x3] ["self",x1,x2,x3] (Z4 st)) (hx:Td K C fI' D=true) (xc:XCls K C) (h1:findIn K (.ref C) f1=some none) (h2:findIn K (.ref C) f2=some none) (h3:findIn K (.ref C) f3=some none)
  (n12:f1≠f2) (n13:f1≠f3) (n23:f2≠f3)
  (hb:∀ (cdv:Value) (A:Around) (outer:List Env) (s:Shared) (H:Hp) (E:XK),Room k (A.deeper (envOfC qual (Z4 st) s.heap.objs.size fI cdv)) ->
   Dh (Te E4 P w K mg base ["self",x1,x2,x3] qual (Z4 st) fI cdv A outer s H E).nox (Y2 st) (O2 (As (Am K (Mv (Mi 0) (Mv (Lk r) F5)))) (O2 (Z1l K (Mi 0) (tCB (Ce K) (Mv (Mi 1) F5)) f1) (O2 (C8 K (Mi 0) (Mi 2) f2) (C8 K (Mi 0) (Mi 3) f3)))))
  (hj:∀ (H:Hp) (e a:Addr) (ns:List Int) (i j:Int),SL K H a (ns.map V.int)->So ns->0<=i->i<1000->0<=j->j<1000->JOk 0 [some (.ref e),some (.ref a),some (.int i),some (.int j)] H r) :
  FnOk P w K mg base E4 (k+1) fI fd ["self",x1,x2,x3] (spG K C 3 (gC f1 f2 f3)):=by
 refine F.ok S (fun vs H Q E ⟨e,ws,ds,R,fl,ev,hl,_⟩=>by rw [ev,length_cons,hl];rfl) fun cdv A outer s H vs Q E hr ⟨e,ws,ds,R,fl,ev,hl,he,mu,re,rs,hG,q⟩=>⟨_,hb cdv A outer s H E hr,?_⟩
 subst ev;unfold gC at hG;split at hG
 ·rename_i xs i j
  obtain ⟨ns,hn,hG⟩:=bind_some hG;split at hG
  ·rename_i hs
   cases hG;rw [Bool.and_eq_true,Bool.and_eq_true] at hs;obtain ⟨⟨hs,hi⟩,hjj⟩:=hs;have hs:=Dj hs;obtain ⟨hi0,hi1⟩:=Ke hi;obtain ⟨hj0,hj1⟩:=Ke hjj;obtain ⟨v,r',e1,r1,r2⟩:=Zp rs;obtain ⟨v2,r'',e2,r3,r4⟩:=Zp r2;obtain ⟨v3,r''',e3,r5,r6⟩:=Zp r4;have e4:=Yf r6;have e5:=Jw r3;have e6:=Jw r5;subst e1 e2 e3 e4 e5 e6;obtain ⟨a,us,e3,hS,ru⟩:=Qr r1;rw [Qo hn] at ru;have e4:=Wv ru;subst e3 e4;have hS':SL K H a (ns.map V.int):=Ym.sl hS;show O2 _ _ _ [some (.ref e),some (.ref a),some (.int i),some (.int j)] H;refine ⟨.ref e,rfl,?_⟩;refine hj H e a ns i j hS' hs hi0 hi1 hj0 hj1 Str.empty _ (by decide) fun z=>?_
   refine ⟨e,C,none,.str z,fI',D,rfl,he,hx,?_⟩;refine ⟨.ref a,rfl,a,ns.map V.int,rfl,.inl hS'.sq,fun l hln=>?_⟩;have hle:l≠e:=fun z=>by rw [z,he] at hln;cases hln
   refine ⟨.ref e,rfl,e,C,none,fI',D,rfl,by rw [Za (Ne.symm hle)];exact he,hx,xc,h1,fun dx hdx hde=>?_⟩;have hdl:dx≠l:=fun z=>by rw [z,Zg] at hdx;cases hdx
   have hdn:H dx=none:=by rw [Za hdl] at hdx;exact hdx
   have nR:∀ {b:Addr},H b=none->R b=false:=fun {b} z=>by
    cases y:R b with
    | false=>rfl
    | true=>obtain ⟨o,ho⟩:=(mu b y).some;rw [z] at ho;cases ho
   have u2:∀ (G:Hp) (o o':HO),Yn (Yn G dx o) dx o'=Yn G dx o':=fun G o o'=>by funext b;unfold Yn;split<;>rfl
   have a1:(f2==f1)=false:=by simpa using Ne.symm n12
   have a2:(f3==f1)=false:=by simpa using Ne.symm n13
   have a3:(f3==f2)=false:=by simpa using Ne.symm n23
   have lk2:List.lookup f2 [(f1,V.ref l)]=none:=by simp [List.lookup,a1]
   have lk3:List.lookup f3 [(f1,V.ref l),(f2,V.int i)]=none:=by simp [List.lookup,a2,a3]
   refine ⟨.int i,rfl,.ref e,rfl,e,C,dx,[(f1,.ref l)],fI',D,rfl,by rw [Za (Ne.symm hde),Zg],Zg,by simp,lk2,hx,xc,h2,?_⟩;refine ⟨.int j,rfl,.ref e,rfl,e,C,dx,[(f1,.ref l),(f2,.int i)],fI',D,rfl,by rw [Za (Ne.symm hde),Za (Ne.symm hde),Zg],Zg,by simp,lk3,hx,xc,h3,?_⟩;rw [u2,u2];refine q _ (some dx) (fun c o hc h=>?_) ?_ ?_ (O1 hdn Zg fun g a hm=>by simp at hm;obtain ⟨_,rfl⟩:=hm;exact ⟨hln,_,by rw [Za (Ne.symm hdl),Za hle,Zg]⟩)
   ·have c1:c≠dx:=fun z=>by rw [z,hdn] at h;cases h
    have c2:c≠l:=fun z=>by rw [z,hln] at h;cases h
    rw [Za c1,Za hc,Za c2];exact h
   ·rw [Za (Ne.symm hde),Zg]
   ·refine ⟨[(f1,.ref l),(f2,.int i),(f3,.int j)],Wn Zg (nR hdn),fun g=>?_⟩
    by_cases g1:g=f1
    ·subst g1
     refine .inr ⟨.nums ns,.ref l,by simp [List.lookup],by simp [List.lookup],l,rfl,.inl (.inl (Wn ?_ (nR hln))),?_⟩
     ·rw [Za (Ne.symm hdl),Za hle,Zg]
     ·exact le_of_lt (U1 (by have:=hs.1;lia))
    have b1:(g==f1)=false:=by simpa using g1
    by_cases g2:g=f2
    ·subst g2
     exact .inr ⟨.int i,.int i,by simp [List.lookup,b1],by simp [List.lookup,b1],rfl⟩
    have b2:(g==f2)=false:=by simpa using g2
    by_cases g3:g=f3
    ·subst g3
     exact .inr ⟨.int j,.int j,by simp [List.lookup,b1,b2],by simp [List.lookup,b1,b2],rfl⟩
    have b3:(g==f3)=false:=by simpa using g3
    exact .inl ⟨by simp [List.lookup,b1,b2,b3],by simp [List.lookup,b1,b2,b3]⟩
  ·cases hG
 ·cases hG
theorem Zds {x1 x2 x3:Str} {st:Stmt} (F:Fun K "__init__" qual st fI fd) (S:FnScope ["self",x1,x2,x3] ["self",x1,x2,x3] (Z4 st)) (hx:Td K C fI' D=true) (xc:XCls K C) (h1:findIn K (.ref C) f1=some none) (h2:findIn K (.ref C) f2=some none) (h3:findIn K (.ref C) f3=some none)
  (n12:f1≠f2) (n13:f1≠f3) (n23:f2≠f3)
  (hb:∀ (cdv:Value) (A:Around) (outer:List Env) (s:Shared) (H:Hp) (E:XK),Room k (A.deeper (envOfC qual (Z4 st) s.heap.objs.size fI cdv)) ->
   Dh (Te E4 P w K mg base ["self",x1,x2,x3] qual (Z4 st) fI cdv A outer s H E).nox (Y2 st) (O2 (As (Am K (Mv (Mi 0) (Mv (Lk r) F5)))) (O2 (Z1l K (Mi 0) (tCB (Ce K) (Mv (Mi 1) F5)) f1) (O2 (C8 K (Mi 0) (tCB (Ce K) (Mv (Mi 2) F5)) f2) (C8 K (Mi 0) (Mi 3) f3)))))
  (hj:∀ (H:Hp) (e a b:Addr) (ns ms:List Int) (j:Int),SL K H a (ns.map V.int)->So ns->SL K H b (ms.map V.int)->So ms->0<=j->j<1000->JOk 0 [some (.ref e),some (.ref a),some (.ref b),some (.int j)] H r) :
  FnOk P w K mg base E4 (k+1) fI fd ["self",x1,x2,x3] (spG K C 3 (gK f1 f2 f3)):=by
 refine F.ok S (fun vs H Q E ⟨e,ws,ds,R,fl,ev,hl,_⟩=>by rw [ev,length_cons,hl];rfl) fun cdv A outer s H vs Q E hr ⟨e,ws,ds,R,fl,ev,hl,he,mu,re,rs,hG,q⟩=>⟨_,hb cdv A outer s H E hr,?_⟩
 subst ev;unfold gK at hG;split at hG
 ·rename_i xs ys j
  obtain ⟨ns,hn,hG⟩:=bind_some hG;obtain ⟨ms,hm,hG⟩:=bind_some hG;split at hG
  ·rename_i hs
   cases hG;rw [Bool.and_eq_true,Bool.and_eq_true] at hs;obtain ⟨⟨hs,hi⟩,hjj⟩:=hs;have hs:=Dj hs;have ht:=Dj hi;obtain ⟨hj0,hj1⟩:=Ke hjj;obtain ⟨v,rA,e1,r1,r2⟩:=Zp rs;obtain ⟨v2,rB,e2,r3,r4⟩:=Zp r2;obtain ⟨v3,rC,e3,r5,r6⟩:=Zp r4;have e4:=Yf r6;have e6:=Jw r5;subst e1 e2 e3 e4 e6;obtain ⟨a,us,e3,hS,ru⟩:=Qr r1;rw [Qo hn] at ru;have e4:=Wv ru;subst e3 e4;obtain ⟨b,us',e7,hT,ru'⟩:=Qr r3;rw [Qo hm] at ru';have e8:=Wv ru';subst e7 e8;have hS':SL K H a (ns.map V.int):=Ym.sl hS;have hT':SL K H b (ms.map V.int):=Ym.sl hT;show O2 _ _ _ [some (.ref e),some (.ref a),some (.ref b),some (.int j)] H;refine ⟨.ref e,rfl,?_⟩;refine hj H e a b ns ms j hS' hs hT' ht hj0 hj1 Str.empty _ (by decide) fun z=>?_
   refine ⟨e,C,none,.str z,fI',D,rfl,he,hx,?_⟩;refine ⟨.ref a,rfl,a,ns.map V.int,rfl,.inl hS'.sq,fun l hln=>?_⟩;have hle:l≠e:=fun z=>by rw [z,he] at hln;cases hln
   refine ⟨.ref e,rfl,e,C,none,fI',D,rfl,by rw [Za (Ne.symm hle)];exact he,hx,xc,h1,fun dx hdx hde=>?_⟩;have hdl:dx≠l:=fun z=>by rw [z,Zg] at hdx;cases hdx
   have hdn:H dx=none:=by rw [Za hdl] at hdx;exact hdx
   have nR:∀ {b:Addr},H b=none->R b=false:=fun {b} z=>by
    cases y:R b with
    | false=>rfl
    | true=>obtain ⟨o,ho⟩:=(mu b y).some;rw [z] at ho;cases ho
   have keep:∀ c o,c≠e->H c=some o->Yn (Yn (Yn H l (.lst (ns.map V.int))) e (.ext (Ea e C (some dx)))) dx (.xd [(f1,.ref l)]) c=some o:=fun c o hc h=>by
    have c1:c≠dx:=fun z=>by rw [z,hdn] at h;cases h
    have c2:c≠l:=fun z=>by rw [z,hln] at h;cases h
    rw [Za c1,Za hc,Za c2];exact h
   have hT2:SL K (Yn (Yn (Yn H l (.lst (ns.map V.int))) e (.ext (Ea e C (some dx)))) dx (.xd [(f1,.ref l)])) b (ms.map V.int):=by
    rcases hT' with (z | ⟨o,z⟩) | z
    ·exact .inl (.inl (keep b _ (fun w=>by rw [w,he] at z;cases z) z))
    ·exact .inl (.inr ⟨o,keep b _ (fun w=>by rw [w,he] at z;cases z) z⟩)
    ·exact .inr z
   refine ⟨.ref b,rfl,b,ms.map V.int,rfl,.inl hT2.sq,fun l2 hl2=>?_⟩;have g1:l2≠dx:=fun z=>by rw [z,Zg] at hl2;cases hl2
   have g2:l2≠e:=fun z=>by rw [z,Za (Ne.symm hde),Zg] at hl2;cases hl2
   have g3:l2≠l:=fun z=>by rw [z,Za (Ne.symm hdl),Za hle,Zg] at hl2;cases hl2
   have hl2n:H l2=none:=by rw [Za g1,Za g2,Za g3] at hl2;exact hl2
   have a1:(f2==f1)=false:=by simpa using Ne.symm n12
   have a2:(f3==f1)=false:=by simpa using Ne.symm n13
   have a3:(f3==f2)=false:=by simpa using Ne.symm n23
   have lk2:List.lookup f2 [(f1,V.ref l)]=none:=by simp [List.lookup,a1]
   have lk3:List.lookup f3 [(f1,V.ref l),(f2,V.ref l2)]=none:=by simp [List.lookup,a2,a3]
   refine ⟨.ref e,rfl,e,C,dx,[(f1,.ref l)],fI',D,rfl,by rw [Za (Ne.symm g2),Za (Ne.symm hde),Zg],by rw [Za (Ne.symm g1),Zg],by simp,lk2,hx,xc,h2,?_⟩;refine ⟨.int j,rfl,.ref e,rfl,e,C,dx,[(f1,.ref l),(f2,.ref l2)],fI',D,rfl,by rw [Za (Ne.symm hde),Za (Ne.symm g2),Za (Ne.symm hde),Zg],Zg,by simp,lk3,hx,xc,h3,?_⟩;refine q _ (some dx) (fun c o hc h=>?_) ?_ ?_ (O1 hdn Zg fun g a hm=>by simp at hm;rcases hm with ⟨_,rfl⟩ | ⟨_,rfl⟩<;>first | exact ⟨hln,_,by rw [Za (Ne.symm hdl),Za (Ne.symm hdl),Za (Ne.symm g3),Za (Ne.symm hdl),Za hle,Zg]⟩ | exact ⟨hl2n,_,by rw [Za g1,Za g1,Zg]⟩)
   ·have c1:c≠dx:=fun z=>by rw [z,hdn] at h;cases h
    have c3:c≠l2:=fun z=>by rw [z,hl2n] at h;cases h
    rw [Za c1,Za c1,Za c3];exact keep c o hc h
   ·rw [Za (Ne.symm hde),Za (Ne.symm hde),Za (Ne.symm g2),Za (Ne.symm hde),Zg]
   ·refine ⟨[(f1,.ref l),(f2,.ref l2),(f3,.int j)],Wn Zg (nR hdn),fun g=>?_⟩
    by_cases g1':g=f1
    ·subst g1'
     refine .inr ⟨.nums ns,.ref l,by simp [List.lookup],by simp [List.lookup],l,rfl,.inl (.inl (Wn ?_ (nR hln))),?_⟩
     ·rw [Za (Ne.symm hdl),Za (Ne.symm hdl),Za (Ne.symm g3),Za (Ne.symm hdl),Za hle,Zg]
     ·exact le_of_lt (U1 (by have:=hs.1;lia))
    have b1:(g==f1)=false:=by simpa using g1'
    by_cases g2':g=f2
    ·subst g2'
     refine .inr ⟨.nums ms,.ref l2,by simp [List.lookup,b1],by simp [List.lookup,b1],l2,rfl,.inl (.inl (Wn ?_ (nR hl2n))),?_⟩
     ·rw [Za g1,Za g1,Zg]
     ·exact le_of_lt (U1 (by have:=ht.1;lia))
    have b2:(g==f2)=false:=by simpa using g2'
    by_cases g3':g=f3
    ·subst g3'
     exact .inr ⟨.int j,.int j,by simp [List.lookup,b1,b2],by simp [List.lookup,b1,b2],rfl⟩
    have b3:(g==f3)=false:=by simpa using g3'
    exact .inl ⟨by simp [List.lookup,b1,b2,b3],by simp [List.lookup,b1,b2,b3]⟩
  ·cases hG
 ·cases hG
end
theorem Z68 {f:Str}:∀ ds fl,gW f ds=some fl->ds.length=1:=fun ds fl h=>by
 unfold gW at h;split at h
 ·rfl
 ·cases h
theorem Zef:∀ ds fl,gC f1 f2 f3 ds=some fl->ds.length=3:=fun ds fl h=>by
 unfold gC at h;split at h
 ·rfl
 ·cases h
theorem Zdy:∀ ds fl,gK f1 f2 f3 ds=some fl->ds.length=3:=fun ds fl h=>by
 unfold gK at h;split at h
 ·rfl
 ·cases h
theorem I0 (q:Td K C fI D=true) (cl:PySem.W.findIn K (.ref C) "__class__" = some (some (.builtin "object.__class__"))) (ga:PySem.W.findIn K (.ref C) "__getattribute__" = some (some (.builtin "BaseException.__getattribute__"))) (gh:PySem.W.findIn K (.ref C) "__getattr__" = some none) (sa:PySem.W.findIn K (.ref C) "__setattr__" = some (some (.builtin "object.__setattr__"))):XCls K C:=by
 refine ⟨?_,cl,ga,gh,sa⟩;unfold Td at q;split at q
 ·rename_i dd cd sl ho
  split at q
  ·rename_i C' bm k0 k1 k2 k3 n k5 hm hs
   simp only [Bool.and_eq_true,beq_iff_eq,Bool.not_eq_true'] at q;obtain ⟨⟨⟨⟨⟨⟨⟨e1,_⟩,_⟩,hdi⟩,e2⟩,_⟩,_⟩,_⟩:=q;exact ⟨cd,by unfold PySem.W.clsIn;rw [ho],hdi,C',D,by rw [hm,e2]⟩
  ·cases q
 ·cases q
section
variable {M:Model} {A:Around} {E:Zzz} {s:Shared}
theorem Pz {env:Env} {L T:Addr} {Q:Unit->Shared->Prop} (hf:env.frame=some L) (ht:Im s.heap base e T cls dct (rawInt L)) (h:Q () s):wpAny M A (noteFrame (.ref e) env) Q E s:=by
 obtain ⟨oe,vs,oT,ts,he,hcls,hdct,hd,h1,hnT,hTe,hT,hdT,h3⟩:=ht;unfold noteFrame;simp only [hf];refine wpAny_bind (wpAny_field he hd h1 ?_);rw [if_pos (show (Value.ref T != Value.none)=true from by simp)];refine wpAny_bind (wpAny_field hT hdT h3 ?_);rw [if_pos (show ((rawInt L==rawInt L)=true) from by simp)];exact wpAny_pure h
theorem Zec {T:Addr} {fl:Value} {fr:Option Addr} {Q:Unit->Shared->Prop}
  (hkb:base.StaysIn s.heap) (hl:s.heap.FunFrames base l) (ht:Im s.heap base e T cls dct fl)
  (h:∀ h',base.StaysIn h'->h'.FunFrames base l->Im h' base e T cls dct (fr.elim Value.none fun f=>rawInt f)->(∀ b o,s.heap.get? b=some o->b∉[T]->h'.get? b=some o)->h'.objs.size=s.heap.objs.size->Q () { s with heap:=h' }) :
  wpAny M A (setFlight (.ref e) fr) Q E s:=by
 obtain ⟨oe,vs,oT,ts,he,hcls,hdct,hd,h1,hnT,hTe,hT,hdT,h3⟩:=ht;have hsz3:3<ts.size:=(Array.getElem?_eq_some_iff.mp h3).1;have other:∀ b,b≠T->(s.heap.update T (Obj.mapFields (·.setIfInBounds 3 (fr.elim Value.none fun f=>rawInt f)))).get? b=s.heap.get? b :=
  fun b hb=>get?_update_other _ _ (Ne.symm hb)
 have noRecord:∀ b o,s.heap.get? b=some o->(∀ vs,o.data≠.fields vs)->b≠T:=fun b o hb hnf q=>by
  rw [q,hT] at hb;injection hb with hb;subst hb;exact hnf ts hdT
 unfold setFlight;refine wpAny_bind (wpAny_field he hd h1 ?_);rw [if_pos (show (Value.ref T != Value.none)=true from by simp)];refine wpAny_setField hT hdT hsz3 (h _ (fun b o hbo=>(other b fun q=>by rw [q,hnT] at hbo;cases hbo).trans (hkb b o hbo))
  (hl.of_keeps fun b o hb hnf=>⟨o,(other b (noRecord b o hb hnf)).trans hb,rfl⟩) ?_ (fun b o hb hnf=>(other b (fun z=>hnf (by simp [z]))).trans hb) (size_update ..))
 exact ⟨oe,vs,_,_,(other e (Ne.symm hTe)).trans he,hcls,hdct,hd,h1,hnT,hTe,get?_update_self _ hT (Obj.isFreed_of_fields (Obj.data_mapFields hdT _)),Obj.data_mapFields hdT _,by simp [hsz3]⟩
theorem Z1e {env:Env} {L T:Addr} {Q:Unit->Shared->Prop} (hf:env.frame=some L)
  (hkb:base.StaysIn s.heap) (hl:s.heap.FunFrames base l) (ht:Im s.heap base e T cls dct (rawInt L))
  (h:∀ h',base.StaysIn h'->h'.FunFrames base l->Im h' base e T cls dct .none->Nj l [T] s.heap h'->Q () { s with heap:=h' }):wpAny M A (leaving env (.ref e)) Q E s:=by
 unfold leaving;refine wpAny_bind (Pz hf ht ?_);exact Zec (fr:=none) hkb hl ht fun h' y1 y2 y3 y4 y5=>h h' y1 y2 y3 (Nj.of fun b o hb hc=>y4 b o hb hc)
theorem Zf7 {A':Around} {env:Env} {L T:Addr} {E':Zzz} (hf:env.frame=some L)
  (hkb:base.StaysIn s.heap) (hl:s.heap.FunFrames base l) (ht:Im s.heap base e T cls dct (rawInt L))
  (h:∀ h',base.StaysIn h'->h'.FunFrames base l->Im h' base e T cls dct (rawInt L)->Nj l [T] s.heap h'->E' (.ref e) { s with heap:=h' }):notedBy M A' env (cameBackBy M A env E') (.ref e) s:=by
 refine Pz (A:=A') (E:=cameBackBy M A env E') hf ht ?_;obtain ⟨oe,vs,oT,ts,he,hcls,hdct,hd,h1,hnT,hTe,hT,hdT,h3⟩:=id ht;refine wpAny_bind (wpAny_field he hd h1 ?_);rw [if_neg (show ¬ (Value.ref T==Value.none)=true from by simp)];rw [hf];exact Zec (fr:=some L) hkb hl ht fun h' y1 y2 y3 y4 y5=>h h' y1 y2 y3 (Nj.of fun b o hb hc=>y4 b o hb hc)
theorem Zb1 {env:Env} {L T:Addr} {E':Zzz} (hf:env.frame=some L)
  (hkb:base.StaysIn s.heap) (hl:s.heap.FunFrames base l) (ht:Im s.heap base e T cls dct (rawInt L))
  (h:∀ h',base.StaysIn h'->h'.FunFrames base l->Im h' base e T cls dct (rawInt L)->(∀ b o,s.heap.get? b=some o->b∉[T]->h'.get? b=some o)->E' (.ref e) { s with heap:=h' }):cameBackBy M A env E' (.ref e) s:=by
 obtain ⟨oe,vs,oT,ts,he,hcls,hdct,hd,h1,hnT,hTe,hT,hdT,h3⟩:=id ht;refine wpAny_bind (wpAny_field he hd h1 ?_);rw [if_neg (show ¬ (Value.ref T==Value.none)=true from by simp)];rw [hf];exact Zec (fr:=some L) hkb hl ht fun h' y1 y2 y3 y4 y5=>h h' y1 y2 y3 y4
end
def Cd (X:Cx) (E:XK):Value->Shared->Prop:=fun v s=>∃ (e C:Addr) (dct:Option Addr) (pins:Zzx) (σ:St) (H:Hp),v=.ref e/\Inv X pins σ H s/\X.s₀.heap.objs.size<=e/\H e=none/\(∀ p∈X.pn++pins,p.1≠e) /\
 ((∃ o vs,s.heap.get? e=some o/\o.cls=.ref C/\o.dict=dct/\o.data=.fields vs/\vs[1]?=some .none)\/∃ T fl c2,X.s₀.heap.objs.size<=T/\H T=none/\(∀ p∈X.pn++pins,p.1≠T)/\Im s.heap X.base e T (.ref C,c2) dct fl/\(fl=.none\/fl=rawInt X.env.locals))/\F7 X.H₀ H dct/\E (.ref C) dct H
theorem XSt.lie {E:XK} (I:Inv X pins σ H s) (x:XSt X pins H s.heap e C dct) (hnw:F7 X.H₀ H dct) (q:E (.ref C) dct H):Cd X E (.ref e) s :=
 ⟨e,C,dct,pins,σ,H,rfl,I,x.lo,x.un,x.pe,x.ob.imp (fun ⟨o,vs,a,b,c,d,g,_⟩=>⟨o,vs,a,b,c,d,g⟩) fun ⟨T,c2,h1,h2,h3,h4,_⟩=>⟨T,.none,c2,h1,h2,h3,h4,.inl rfl⟩,hnw,q⟩
theorem Z82 {E:XK} {A':Around} (hA:A'.frames=X.A.frames) (hstk:X.stack=X.env::X.outer/\X.env.frame=some X.env.locals):PassesOwnAt (model X.prog X.w) A' X.A X.env (Cd X E):=by
 rintro ev s1 ⟨e,C,dct,pins,σ,H,rfl,J1,lo,un,pe,ob,hnw,q⟩;have hfr:A'.frames=some (X.env::X.outer):=by rw [hA,← hstk.1];exact J1.ok.frames
 have hl:s1.heap.FunFrames X.base (X.env::X.outer):=by rw [← hstk.1];exact J1.stack
 have hkb:X.base.StaysIn s1.heap:=J1.bk;have hen:X.base.get? e=none:=J1.noBase lo;have hfree:∀ b∈E9 (X.env::X.outer),H b=none:=by rw [← hstk.1];exact J1.stkFree
 have nloc:∀ {a:Addr} {o:Obj} {vs:Array Value},s1.heap.get? a=some o->o.data=.fields vs->a≠X.env.locals/\∀ y c,X.env.cells.lookup y=some c->c≠a:=fun {a o vs} ho hd=>by
  refine ⟨fun z=>?_,fun y c hc z=>?_⟩
  ·obtain ⟨m,⟨o',es,ep,ho',hd',_⟩,_⟩:=J1.loc
   rw [z,ho'] at ho;cases ho;rw [hd] at hd';cases hd'
  ·obtain ⟨v,o',ho',hd'⟩:=J1.cell y c hc
   rw [z,ho] at ho';cases ho';rw [hd] at hd';cases hd'
 have after:∀ (h2:Heap) (T':Addr) (c2:Option Value) (ch:List Addr),(X.s₀.heap.objs.size<=T'/\H T'=none/\∀ p∈X.pn++pins,p.1≠T')->Im h2 X.base e T' (.ref C,c2) dct (rawInt X.env.locals)->Nj (X.env::X.outer) ch s1.heap h2->(∀ b∈ch,H b=none/\X.s₀.heap.objs.size<=b/\b≠X.env.locals/\(∀ y c,X.env.cells.lookup y=some c->c≠b)/\∀ p∈X.pn++pins,p.1≠b)->Cd X E (.ref e) { s1 with heap:=h2 }:=fun h2 T' c2 ch hT tr kp hch=>by
  have J2:Inv X pins σ H { s1 with heap:=h2 }:=J1.call' (s':={ s1 with heap:=h2 }) (ch:=ch) rfl (by rw [hstk.1];exact Ka kp fun b hb=>(hch b hb).1) (Mh J1.hok kp (fun b hb=>(hch b hb).1) hfree) J1.bare fun b hb=>⟨.inr (hch b hb).2.1,(hch b hb).2.2.1,(hch b hb).2.2.2.1,(hch b hb).2.2.2.2⟩
  exact ⟨e,C,dct,pins,σ,H,rfl,J2,lo,un,pe,.inr ⟨T',_,c2,hT.1,hT.2.1,hT.2.2,tr,.inr rfl⟩,hnw,q⟩
 have fresh:∀ {T':Addr},s1.heap.objs.size<=T'->X.s₀.heap.objs.size<=T'/\H T'=none/\∀ p∈X.pn++pins,p.1≠T':=fun {T'} h=>⟨le_trans J1.sz h,J1.hok.fresh h,fun p hp z=>by
  have:=(J1.pin p hp).1;rw [z] at this;exact absurd (lt_size this) (not_lt.mpr h)⟩
 rcases ob with ⟨o,vs,he,hc,hd,hda,h1⟩ | ⟨T,fl,c2,hT1,hT2,hT3,ht,hfl⟩
 ·have el:=nloc he hda
  refine Md (E:=cameBackBy (model X.prog X.w) X.A X.env (Cd X E)) hfr hl hstk.2 he hkb hen hda h1 fun h' T' z0 z1 z2 z3 z4 z5=>?_
  rw [hc,hd] at z3;exact Zb1 (s:={ s1 with heap:=h' }) hstk.2 z1 z2 z3 fun h2 y1 y2 y3 y4=>after h2 T' _ [e] (fresh z0) y3 (R8 z4 z0 y4) fun b hb=>by rw [mem_singleton.mp hb];exact ⟨un,lo,el.1,el.2,pe⟩
 ·obtain ⟨oe,ve,oT,ts,g1,g2,g3,g4,g5,g6,g7,g8,g9,g10⟩:=id ht
  have el:=nloc g1 g4;have eT:=nloc g8 g9;rcases hfl with hfl | hfl
  ·subst hfl
   refine Z1i (E:=cameBackBy (model X.prog X.w) X.A X.env (Cd X E)) hfr hl hstk.2 ht hkb hen fun h' T' z0 z1 z2 z3 z4 z5=>?_
   refine Zb1 (s:={ s1 with heap:=h' }) hstk.2 z1 z2 z3 fun h2 y1 y2 y3 y4=>after h2 T' _ [e,T] (fresh z0) y3 (R8 z4 z0 y4) fun b hb=>?_
   rcases mem_cons.mp hb with e1 | e1
   ·rw [e1];exact ⟨un,lo,el.1,el.2,pe⟩
   ·rw [mem_singleton.mp e1];exact ⟨hT2,hT1,eT.1,eT.2,hT3⟩
  ·subst hfl
   exact Zf7 hstk.2 hkb hl ht fun h2 y1 y2 y3 kp=>after h2 T _ [T] ⟨hT1,hT2,hT3⟩ y3 kp fun b hb=>by rw [mem_singleton.mp hb];exact ⟨hT2,hT1,eT.1,eT.2,hT3⟩
theorem Zgq {E:XK} (hstk:X.stack=X.env::X.outer/\X.env.frame=some X.env.locals):PassesOwn (model X.prog X.w) X.A X.env (Cd X E):=fun e s h=>Z82 rfl hstk e s h
end L2
namespace L2
open PySem PySem.Spec PyProof.Rows
theorem Z4w {f:Addr} {A:Around} {E:XK} {T:Addr} {c2:Option Value}
  (I:Inv (Te (Cu P w base) P w K mg base N qual scope f cd A outer s H E) pins σ H' s') (lo:s.heap.objs.size<=e) (un:H' e=none) (hT:s.heap.objs.size<=T) (hTn:H' T=none) (ht:Im s'.heap base e T (.ref C,c2) dct (rawInt s.heap.objs.size)) (hnw:F7 H H' dct) (q:E (.ref C) dct H') :
  (Te (Cu P w base) P w K mg base N qual scope f cd A outer s H E).xe (.ref e) s':=by
 have hl:s'.heap.FunFrames base (envOfC qual scope s.heap.objs.size f cd::outer):=I.stack;have hkb:base.StaysIn s'.heap:=I.bk;have bs:Un (E9 outer) [] H H' s.heap s'.heap:=I.base;have hfree:∀ b∈E9 (envOfC qual scope s.heap.objs.size f cd::outer),H' b=none:=I.stkFree;refine Z1e (env:=envOfC qual scope s.heap.objs.size f cd) rfl hkb hl ht fun h' z1 z2 z3 kp=>?_
 have hch:∀ b∈[T],H' b=none/\s.heap.objs.size<=b:=fun b hb=>by rw [mem_singleton.mp hb];exact ⟨hTn,hT⟩
 have ncb:∀ {b:Addr} {o:Obj},s.heap.get? b=some o->b∉[T]:=fun {b o} q z=>absurd (lt_size q) (not_lt.mpr (hch b z).2)
 have nfr:∀ {b:Addr} {o:Obj},s.heap.get? b=some o->b∉E9 outer->b∉E9 (envOfC qual scope s.heap.objs.size f cd::outer):=fun {b o} q n z=>by
  rcases mem_cons.mp (I.stkSub b z) with e1 | e1
  ·have:b=s.heap.objs.size:=e1
   exact absurd (lt_size q) (by rw [this];exact lt_irrefl _)
  ·exact n e1
 refine ⟨e,C,dct,T,H',c2,rfl,I.os,I.bare,⟨?_,?_,?_,?_,bs.tups,bs.frzs,bs.tbls⟩,Mh I.hok kp (fun b z=>(hch b z).1) hfree,lo,hT,un,hTn,z3,(fun z=>nomatch z),hnw,q⟩
 ·exact fun b o q n hf hx=>(kp b o (bs.keep b o q n hf hx) (ncb q)).1 (nfr q hf)
 ·intro b o q n hf hx
  obtain ⟨sl,z⟩:=bs.slot b o q n hf hx;obtain ⟨sl',z'⟩:=(kp b _ z (ncb q)).2;exact ⟨sl',z'⟩
 ·exact fun b o q n hx=>bs.free b o q n hx
 ·intro b o q hx
  obtain ⟨o',z⟩:=bs.there b o q hx;obtain ⟨sl,z'⟩:=(kp b o' z (ncb q)).2;exact ⟨_,z'⟩
theorem Z4k {f:Addr} {A:Around} {E:XK} {v:Value} 
  (h:Cd (Te (Cu P w base) P w K mg base N qual scope f cd A outer s H E) E v s'):(Te (Cu P w base) P w K mg base N qual scope f cd A outer s H E).xe v s':=by
 obtain ⟨e,C,dct,pins,σ,H',rfl,J,lo,un,pe,ob,hnw,q⟩:=h;rcases ob with ⟨o,vs,a1,a2,a3,a4,a5⟩ | ⟨T,fl,c2,h1,h2,h3,h4,h5 | h5⟩
 ·exact Gq J ⟨lo,un,.inl ⟨o,vs,a1,a2,a3,a4,a5,fun z=>nomatch z⟩,pe⟩ rfl hnw q
 ·subst h5
  exact Gq J ⟨lo,un,.inr ⟨T,c2,h1,h2,h3,h4,fun z=>nomatch z⟩,pe⟩ rfl hnw q
 ·subst h5
  exact Z4w J lo un h1 h2 h4 hnw q
theorem Dh.wishE {st:List Stmt} {t:TS} (h:Dh (X.wish E) st t) (he:∀ v s,E v s->X.xe v s):Dh X st t:=fun pins s σ H D I hw =>
 wpAny_mono (h pins s σ H D (I.wish _) hw) (fun _ _ q=>q.unwish) he
section
variable {P:Program} {w:World} {K:Zzy} {mg:Zzw} {base:Heap}
abbrev cxL (P:Program) (w:World) (K:Zzy) (mg:Zzw) (base:Heap) (N:List Str) (qual:Str) (scope:Scope) (f:Addr) (cd:Value) (A:Around) (outer:List Env) (s:Shared) (H:Hp) (E:XK):Cx :=
 (Te (Cu P w base) P w K mg base N qual scope f cd A outer s H E).wish (Cd (Te (Cu P w base) P w K mg base N qual scope f cd A outer s H E) E)
theorem Z4c {f:Addr} {A:Around} {E:XK} {p:Nat} {Q:VK} (hp:p<=N.length) (mu:Ta R H) (r:W5 K (av H R) ds vs)
  (q:B7 K fr R H Q E (Y7 N.length p g ds)) :
  tS fr (cxL P w K mg base N qual scope f cd A outer s H E) g (Ends.mk (fun _ H'=>Q .non H') Q (fun _ _=>False) (fun _ _=>False)) (start N vs) H:=by
 unfold Y7 at q;split at q
 ·rename_i hl
  refine ⟨Ui N.length ds,⟨H,R,true⟩,R,Ht mu r (by lia),rfl,?_⟩;split at q
  ·rename_i d' e
   rw [e];exact fun v H' s r n=>q v H' s r n
  ·rename_i env e
   rw [e];exact fun A' H' σ' s k=>q .non H' k.h0 Io (fun _ ds e=>by cases e)
  ·rename_i env c fs e
   rw [e];exact fun A' H' σ' st k pins s' e C dct I hc x hf hnw=>XSt.lie (I.unwish) ⟨x.lo,x.un,x.ob,x.pe⟩ hnw (q C dct H' k.h0 hc (hf.mono (Q8 k.ra)))
  ·exact q.elim
 ·exact q.elim
theorem Z0c {x:Str} {st:Stmt} (D:Def K mg x st) (S:FnScope N ps (Z4 st))
  (hbi:∀ (kV doc pm:Value) (an:Option Addr) (cdv ct:Value) (us:List Value),us.length=ps.length->bindArgs (fnOf x x (Wc st) (Y2 st) (Z4 st) .none kV doc pm an cdv ct) ⟨us,[]⟩=pure (ps.zip us))
  (hb:∀ (f:Addr) (cdv:Value) (A:Around) (outer:List Env) (s:Shared) (H:Hp) (E:XK),Room k (A.deeper (envOfC x (Z4 st) s.heap.objs.size f cdv))->On fr (cxL P w K mg base N x (Z4 st) f cdv A outer s H E) (Y2 st) g) :
  CalX P w K mg base (k+1) x ps fr (Y7 N.length ps.length g):=by
 have hpl:ps.length<=N.length:=by have:=congrArg List.length S.pre;rw [length_take] at this;lia
 obtain ⟨f,fd,F,hm⟩:=D.ex;refine ⟨⟨f,fd,F.okX S (fun vs H Q E h=>h.1) fun cdv A outer s H vs Q E hr ⟨hl,ds,R,mu,r,q⟩=>⟨_,Dh.wishE (hb f cdv A outer s H E hr) fun v s' z=>Z4k z,?_⟩,hm,F.kp,F.binds hbi⟩,fun ds h=>Iw h⟩;exact Z4c hpl mu r q
theorem Fd {f:Addr} {A:Around} {E:XK} :
  PassesOwn (model P w) (cxL P w K mg base N qual scope f cd A outer s H E).A (cxL P w K mg base N qual scope f cd A outer s H E).env (cxL P w K mg base N qual scope f cd A outer s H E).xe :=
 Zgq (X:=Te (Cu P w base) P w K mg base N qual scope f cd A outer s H E) ⟨rfl,rfl⟩
end
section
variable {X:Cx}
def Z9b:V->List V->Hp->VK->Prop:=fun x vs H Q=>∃ l xs i y,x=.ref l/\vs=[.int i,y]/\H l=some (.lst xs)/\0<=i/\i<=xs.length/\xs.length<sizeLine/\Q .non (Yn H l (.lst (xs.take i.toNat++y::xs.drop i.toNat)))
theorem Pw:∀ {vs:List V} {us:List Value} (n:Nat),Zx vs us->Zx (vs.take n) (us.take n)
 | _,_,0,_=>by simp;exact .nil
 | [],us,n+1,h=>by cases h;exact .nil
 | v::vs,us,n+1,h=>by cases h with | cons a b=>exact .cons a (Pw n b)
theorem P7:∀ {vs:List V} {us:List Value} (n:Nat),Zx vs us->Zx (vs.drop n) (us.drop n)
 | _,_,0,h=>h
 | [],us,n+1,h=>by cases h;exact .nil
 | v::vs,us,n+1,h=>by cases h with | cons a b=>exact P7 n b
theorem Z3b:MtM X "list.insert" Z9b:=by
 intro pins s σ H x vs v us Q I rx rv h;obtain ⟨l,xs,i,y,rfl,rfl,hH,h0,h1,hz,q⟩:=h;cases rx;cases rv with
 | cons r1 r2 =>
  cases r2 with
  | cons ru r3 =>
   cases r3;obtain ⟨t,rfl⟩:=r1;rename_i u;obtain ⟨z,its,n,r,hl,e⟩:=I.lstM hH;have hfit:¬ (!Builtin.List.listFitsIndex i)=true:=by
    have:(sizeLine:Nat)<2^62:=by decide
    rw [fitsIndex_both (by lia) (by lia)]
    decide
   refine call_meets F.slot_list_insert ⟨_,e,rfl⟩ F.entry_list_insert (F.args_list_insert_3 _ _ _) (AutoSeq1.list_insert_list_int_val_1 l its.toArray n i t u hfit (by rw [size_toArray];lia)) ⟨e,?_⟩;refine ⟨.non,_,I.lset (its':=its.take i.toNat++u::its.drop i.toNat) hH e ?_ ((Pw _ r).append (.cons ru (P7 _ r))) ?_,rfl,q⟩
   ·apply Array.toList_inj.mp
    have hm:(if i<0 then (i+(its.toArray.size:Int)).toNat else min i.toNat its.toArray.size)=i.toNat:=by
     rw [if_neg (by lia),size_toArray,Nat.min_eq_left (by lia)]
    show ((its.toArray.extract 0 (if i<0 then (i+(its.toArray.size:Int)).toNat else min i.toNat its.toArray.size)).push u++its.toArray.extract (if i<0 then (i+(its.toArray.size:Int)).toNat else min i.toNat its.toArray.size)).toList=_;rw [hm];simp [List.extract];exact take_of_length_le (by rw [length_drop];lia)
   ·rw [length_append,length_cons,length_take,length_drop]
    lia
def He:List Dat->List Dat->Option (List Dat)
 | ds,[.int i,d]=>if 0<=i/\i<=ds.length/\ds.length<sizeLine then some (ds.take i.toNat++d::ds.drop i.toNat) else none
 | _,_=>none
theorem C0:MtU X "list.insert" He:=MtR.weak (id:="list.insert") Z3b fun v us H Q zz=>by
 obtain ⟨A,a,vs,ds,as,ds',mu,e1,h1,r1,r2,e2,q⟩:=zz;unfold He at e2;split at e2
 ·rename_i i d
  split at e2
  ·rename_i hl
   cases e2;obtain ⟨w,us',e3,r3,e4⟩:=r2;obtain ⟨w2,us2,e5,r5,e6⟩:=e4;have hw:w=.int i:=(Rm.pk r3).int;have hlen:=Zv r1;refine ⟨a,vs,i,w2,e1,by rw [e3,e5,show us2=[] from e6,hw],h1,hl.1,by rw [hlen];exact hl.2.1,by rw [hlen];exact hl.2.2,q _ _ (by rw [length_append,length_cons,length_take,length_drop];lia) (W6 (Gu _ r1) (Vb r5 (Gn _ r1)))⟩
  ·cases e2
 ·cases e2
def Zdw (c:Int):Value->Bool
 | .int z _=>z==c
 | _=>false
theorem A3:∀ {ns:List Int} {us:List Value},Zx (ns.map V.int) us->∀ (j:Nat) (h:j<us.length) (h':j<ns.length),∃ t,us[j]=.int ns[j] t
 | [],us,r,j,h,h'=>by simp at h'
 | n::ns,us,r,j,h,h'=>by
  rw [map_cons] at r;cases r with
  | cons r1 r2 =>
   obtain ⟨t,e⟩:=r1;subst e;cases j with
   | zero=>exact ⟨t,rfl⟩
   | succ j=>exact A3 r2 j (by simpa using h) (by simpa using h')
theorem Zd2 (r:Zx (ns.map V.int) us) {y:Value} (h:y∈us):∃ z t,y=.int z t:=by
 obtain ⟨j,hj,rfl⟩:=getElem_of_mem h;have hl:=r.length;rw [length_map] at hl;obtain ⟨t,e⟩:=A3 r j hj (by lia);exact ⟨_,t,e⟩
theorem Z2y:MtR X "list.index" (fun x vs H Q=>∃ (p:Addr) (zs:List Int) (c:Int),x=.ref p/\vs=[.int c]/\Dy X.K H p (zs.map V.int)/\c∈zs/\Q (.int ((zs.idxOf c:Nat):Int)) H):=by
 intro pins s σ H x vs v us Q I rx rs h;obtain ⟨p,zs,c,rfl,rfl,hq,hm,q⟩:=h;cases rx;obtain ⟨u',rfl,ru⟩:=Jz rs;obtain ⟨u,rfl⟩:=ru;obtain ⟨its,r',pl,hz⟩:=I.list hq;obtain ⟨⟨cls,dd,data,sl⟩,ho,hc,n,hd⟩:=pl.isList;simp only at hc hd;subst hc hd;have hlen':=r'.length;rw [length_map] at hlen' hz;have hj:zs.idxOf c<zs.length:=List.idxOf_lt_length_iff.mpr hm;have hsl:sizeLine<2^63 - 1:=by decide
 refine call_meets PySem.F.slot_list_index ⟨_,ho,rfl⟩ PySem.F.entry_list_index (PySem.F.args_list_index_2 _ _) (SeqAt.list_indexAt p _ n dd sl (.int c u) (Zdw c) (zs.idxOf c) (by simpa [← hlen'] using hj) (by lia) ?_ ?_) ⟨ho,fun y hy=>?_,⟨.int _,H,I.tok _,⟨_,rfl⟩,q⟩⟩
 ·obtain ⟨t,e⟩:=A3 r' (zs.idxOf c) (by lia) hj
  show Zdw c (its[zs.idxOf c]'(by lia))=true;rw [e];show (zs[zs.idxOf c]==c)=true;simpa using List.getElem_idxOf hj
 ·intro j hjs hlt
  have hjb:j<zs.length:=by lia
  obtain ⟨t,e⟩:=A3 r' j (by lia) hjb;show Zdw c (its[j]'(by lia))=false;rw [e];show (zs[j]==c)=false;have:=List.not_of_lt_findIdx (xs:=zs) (p:=(·==c)) (i:=j) (by simpa [List.idxOf] using hlt);simpa using this
 ·obtain ⟨z,t,rfl⟩:=Zd2 r' (by simpa using hy)
  exact SeqAt.EqAt.int_int z t c u
def O4:Dat->List Dat->Option Dat
 | .lst xs,[.int c]=>(Qk xs).bind fun zs=>if c∈zs then some (.int ((zs.idxOf c:Nat):Int)) else none
 | _,_=>none
theorem Cf:MtD X "list.index" O4:=Z2y.weak fun v vs H Q zz=>by
 obtain ⟨A,x,ds,d,mu,e,p,ps,q⟩:=zz;unfold O4 at e;split at e
 ·rename_i xs c
  obtain ⟨l,us,e2,h1,r1⟩:=p.lst;obtain ⟨v1,e3,p1⟩:=ps.one;obtain ⟨zs,hy,e⟩:=bind_some e;split at e
  ·rename_i hc
   cases e;rw [Qo hy] at r1;have eu:=Wv r1;subst eu;exact ⟨l,zs,c,e2,by rw [e3,p1.int],h1.sq,hc,q.here Yq⟩
  ·cases e
 ·cases e
end
section
variable {fr m:Bool} {X:Cx} {e:Expr} {f fa fb:Zzu} {pos:Pos}
def Ju (i:Nat) (fa fb:Zzu):Ev->Fl:=fun env=>match env[i]?,fb env,fa env with
 | some (.ow ds),some d,some (.int k)=>if 0<=k/\k<ds.length then .next (env.set i (.ow (ds.set k.toNat d))) else .no
 | _,_,_=>.no
theorem K6 (i:Nat) {x:Str} {ix:Expr} (ha:Wj true X ix fa) (hb:Wj false X e fb)
  (hN:X.N[i]?=some x:=by rfl) (hv:Vis X.env.scope x:=by first | exact Or.inl rfl | exact Or.inr (Or.inl rfl) | exact Or.inr (Or.inr rfl)) (hd:(x==("__debug__" : Str))=false:=by decide) (hcd:(x==("__classdict__" : Str))=false:=by decide)
  (hs:swapsWithSole [.Subscript (.Name x p) ix pos'] e pos.line X.env=pure false:=by rfl) (hw:swappedStores [.Subscript (.Name x p) ix pos'] e X.env=pure none:=by rfl) (h1:(assignEach [.Subscript (.Name x p) ix pos'] X.env).map (·.2)=[assign (.Subscript (.Name x p) ix pos') X.env]:=by rfl)
  (hq:∀ v,assign (.Subscript (.Name x p) ix pos') X.env v=(do
   let ov ← holding [v] (eval (.Name x p) X.env)
   let iv ← holding [v,ov] (eval ix X.env)
   standAt pos'
   holding [v,ov,iv] (setItem ov iv v)
   release [v,ov,iv] []):=by intro _;rfl) :
  E8 fr X (.Assign [.Subscript (.Name x p) ix pos'] e pos) (Ju i fa fb):=(Zcq hb (Zcd (Qs hN hv hd hcd) ha Z7w hq) hs hw h1).weak fun D σ H zz=>by
 obtain ⟨env,B,A,k,hst,q⟩:=zz;unfold Ju at q;split at q
 ·rename_i ds d j e1 e2 e3
  split at q
  ·rename_i hj
   refine ⟨env,B,A,d,k,e2,fun v H1 s1 r1=>?_⟩;have k1:=k.mono s1;obtain ⟨a,vs,g1,g2,g3,_⟩:=k1.own hst e1;refine ⟨.ref a,g1,env,B,A,.int j,k1,e3,fun w H2 s2 r2=>?_⟩;have k2:=k1.mono s2;obtain ⟨a',vs',m1,m2,m3,mz,_,_,_,m4,_⟩:=k2.own hst e1;rw [g1] at m1;cases m1;have hw2:w=.int j:=(Rm.pk r2).int;have hlen:=Zv m3;have r1':Rp X.K (av H2 A) d v:=Rp.mono (We s2) r1;refine ⟨a,vs',j,j.toNat,rfl,hw2,m2,?_,?_⟩
   ·unfold ixN;rw [if_pos hj.1,if_pos (by lia)]
   ·obtain ⟨z1,z2⟩:=m4 (ds.set j.toNat d) (vs'.set j.toNat v) (by rw [length_set];exact mz) (Z1p _ m3 r1')
    exact q A _ σ (((Step.same s1).trans (Step.same s2)).trans z1) z2
  ·exact q.elim
 ·exact q.elim
def Ob (j i:Nat) (fa:Zzv):Ev->Fl:=fun env=>match env[i]?,fa env with
 | some (.ow ds),some [.int k]=>if 0<=k/\k<ds.length then (match ds[k.toNat]? with
  | some d=>.next ((env.set i (.ow (ds.eraseIdx k.toNat))).set j (.fz d))
  | none=>.no) else .no
 | _,_=>.no
theorem Z4b (n:Nat) (r:W5 K H ds vs):W5 K H (ds.eraseIdx n) (vs.eraseIdx n):=by
 rw [List.eraseIdx_eq_take_drop_succ,List.eraseIdx_eq_take_drop_succ];exact W6 (Gu _ r) (Gn _ r)
theorem Z9x (j i:Nat) {x y:Str} (hnd:X.N.Nodup) (hj:X.N[j]?=some y) (hy:B2 X.env.scope y) {e0:Expr} {g:Zzv} (ha:Oo true X [e0] g)
  (hN:X.N[i]?=some x:=by rfl) (hv:Vis X.env.scope x:=by first | exact Or.inl rfl | exact Or.inr (Or.inl rfl) | exact Or.inr (Or.inr rfl)) (hd:(x==("__debug__" : Str))=false:=by decide) (hcd:(x==("__classdict__" : Str))=false:=by decide)
  (hs:swapsWith (.Call (.Attribute (.Name x p) "pop" apos) [e0] [] cpos) (some (.Name y pos')) pos.line X.env=pure false:=by rfl)
  (hf:X.fn y=true\/X.env.scope.names.lookup y=some .local:=by first | exact .inl rfl | exact .inr rfl | assumption)
  (hbase:attributeBase (.Name x p) "pop" X.env (eval (.Name x p) X.env)=eval (.Name x p) X.env:=by rfl)
  (hfew:((backTo cpos (starEach [e0] X.env)).all (fun x=>!x.1)&&(backToKw cpos (keywordEach [] X.env)).all (fun x=>x.1.isSome)
   && decide (([e0]).length+([]:List Keyword).length+(if ([]:List Keyword).isEmpty then 0 else 1)<30))=true:=by rfl)
  (hline:(apos.endLine==cpos.line)=true:=by rfl) (hst1:starEach [e0] X.env=(false,eval e0 X.env)::starEach [] X.env:=by rfl) (hplain:(backTo cpos (starEach [] X.env)).any (·.1)=false:=by rfl) :
  E8 fr X (.Assign [.Name y pos'] (.Call (.Attribute (.Name x p) "pop" apos) [e0] [] cpos) pos) (Ob j i g):=(Ip hnd hj hy (Z21 PySem.F.plainAttrs_list PySem.F.slot_list_pop PySem.F.type_list_pop (id:="list.pop") Z56 (Qs hN hv hd hcd) ha hbase hfew hline hst1 hplain) hs hf).weak fun D σ H zz=>by
 obtain ⟨env,B,A,k,hst,q⟩:=zz;unfold Ob at q;split at q
 ·rename_i ds n e1 e2
  split at q
  ·rename_i hn
   split at q
   ·rename_i d e3
    obtain ⟨a,vs,h1,h2,h3,_⟩:=k.own hst e1;refine ⟨.ref a,h1,.inl ⟨rfl,vs,Dy.of h2⟩,env,B,A,[.int n],k,e2,fun us H2 s2 rs=>?_⟩;have k2:=k.mono s2;obtain ⟨a',vs',g1,g2,g3,gz,_,_,_,g4,_⟩:=k2.own hst e1;rw [h1] at g1;cases g1;obtain ⟨w,eu,pw⟩:=rs.one;have hw:w=.int n:=pw.int;have hlen:=Zv g3;obtain ⟨v,hv1,hv2⟩:=Rh g3 e3;have hsz:(sizeLine:Nat)<2^62:=by decide
    refine ⟨a,vs',n,n.toNat,v,rfl,by rw [eu,hw],g2,by lia,by lia,?_,hv1,?_⟩
    ·exact seqIndex_of hn.1 (by lia)
    ·obtain ⟨z1,z2⟩:=g4 (ds.eraseIdx n.toNat) (vs'.eraseIdx n.toNat) (le_trans (List.length_eraseIdx_le _ _) gz) (Z4b _ g3)
     exact q A _ _ ((Step.same s2).trans z1) (z2.put j (Rp.mono z1.av hv2))
   ·exact q.elim
  ·exact q.elim
 ·exact q.elim
end
theorem EnvOk.gx {g:GX} (k:EnvOk K B A H σ env) (hst:B.st=true) (h:env[i]?=some (.gx g)) :
  ∃ (v:V) (o:Addr->Prop),σ[i]?=some (some v)/\GOk K A H o g v/\(∀ b,o b->A b=true/\B.H₀ b=none) /\
   ∀ (b:Addr) (O:HO) (g':GX),o b->Mtb (some O)->GOk K A (Yn H b O) o g' v->Step A H A (Yn H b O)/\EnvOk K B A (Yn H b O) σ (env.set i (.gx g')):=by
 obtain ⟨own,h1,h2,h4⟩:=k.sl;obtain ⟨x,q1,v,e1,e2⟩:=h4 i _ h;subst e1;have hb0:∀ b,own i b->A b=true/\B.H₀ b=none:=fun b ob=>by
  obtain ⟨hA,hR⟩:=h2 i b ob;refine ⟨hA,?_⟩;rcases k.ar b hA with z | z
  ·rw [z] at hR;cases hR
  ·exact z
 refine ⟨v,own i,q1,e2,hb0,fun a O g' oa hO hg=>?_⟩;obtain ⟨hA,h0⟩:=hb0 a oa;have avs:Zo (av H A) (av (Yn H a O) A):=fun b o e=>by
  obtain ⟨z1,z2⟩:=Qd e;have hb:b≠a:=by intro z;rw [z,hA] at z1;cases z1
  exact Wn (by rw [Za hb];exact z2) z1
 refine ⟨⟨fun b o hb hAb=>?_,fun b hb=>.inl hb⟩,?_⟩
 ·have hn:b≠a:=by intro z;rw [z,hA] at hAb;cases hAb
  rw [Za hn];exact hb
 ·refine ⟨fun b o hb=>?_,k.r0,k.ra,k.ar,fun b hb=>?_,by rw [length_set];exact k.len,fun hs j d'=>N5 (k.np hs) (fun _ z=>by cases z) j d',own,h1,h2,fun j s e=>?_⟩
  ·have hn:b≠a:=Y4 hb h0
   rw [Za hn];exact k.h0 b o hb
  ·by_cases hn:b=a
   ·subst hn;rw [Zg];exact hO
   ·rw [Za hn];exact k.mu b hb
  ·by_cases hj:i=j
   ·subst hj
    rw [getElem?_set,if_pos rfl] at e;split at e
    ·cases e
     exact ⟨_,q1,v,rfl,hg⟩
    ·cases e
   ·rw [getElem?_set,if_neg hj] at e
    obtain ⟨x,p1,p2⟩:=h4 j s e;refine ⟨x,p1,?_⟩;cases s with
    | un=>trivial
    | fz d=>obtain ⟨v,z1,z2⟩:=p2;exact ⟨v,z1,z2.mono avs⟩
    | pk d=>exact absurd e (k.np hst j d)
    | ow es =>
     obtain ⟨b,us,z1,z2,z3,z4,z5⟩:=p2;have hn:b≠a:=fun z=>hj (h1 i j a oa (z▸z2))
     exact ⟨b,us,z1,z2,z3,by rw [Za hn];exact z4,z5.mono avs⟩
    | gx g2 =>
     obtain ⟨w,z1,z2⟩:=p2;exact ⟨w,z1,z2.frame (fun _ z=>z) (fun b x ob z=>by
      have hn:b≠a:=fun y=>hj (h1 i j a oa (y▸ob))
      rw [Za hn];exact z) avs⟩
def Nb (A:AS) (S:Addr->Bool):AS:=fun b=>A b||S b
theorem EnvOk.putG (k:EnvOk K B A H σ env) (hst:B.st=true) (i:Nat) {g:GX} {S:Addr->Bool} (s:Zo H H') (hn:∀ p,S p=true->H p=none) (hm:∀ p,S p=true->Mtb (H' p)) (r:GOk K (Nb A S) H' (fun b=>S b=true) g v) :
  Step A H (Nb A S) H'/\EnvOk K B (Nb A S) H' (σ.set i (some v)) (env.set i (.gx g)):=by
 have or_of:∀ {b},Nb A S b=true->A b=true\/S b=true:=fun {b} h=>by unfold Nb at h;rw [Bool.or_eq_true] at h;exact h
 have inl_of:∀ {b},A b=true->Nb A S b=true:=fun {b} h=>by unfold Nb;rw [h];rfl
 have inr_of:∀ {b},S b=true->Nb A S b=true:=fun {b} h=>by unfold Nb;rw [h,Bool.or_true]
 have st:Step A H (Nb A S) H':=⟨fun a o h _=>s a o h,fun a h=>(or_of h).imp id fun z=>hn a z⟩;have hAp:∀ p,S p=true->A p=false:=fun p hp=>k.mu.new (hn p hp)
 have h0:∀ p,S p=true->B.H₀ p=none:=fun p hp=>k.h0.free (hn p hp)
 obtain ⟨own,h1,h2,h4⟩:=k.sl;refine ⟨st,k.h0.trans s,k.r0,fun a h=>inl_of (k.ra a h),fun a h=>?_,fun a h=>?_,by rw [length_set,length_set];exact k.len,fun hs j d'=>N5 (k.np hs) (fun _ z=>by cases z) j d',
  fun j a=>(j≠i/\own j a)\/(j=i/\S a=true),fun j j' a z z'=>?_,fun j a z=>?_,fun j sl e=>?_⟩
 ·rcases or_of h with z | z
  ·exact k.ar a z
  ·exact .inr (h0 a z)
 ·rcases or_of h with z | z
  ·exact k.mu.mono s a z
  ·exact hm a z
 ·rcases z with z | z<;>rcases z' with z' | z'
  ·exact h1 j j' a z.2 z'.2
  ·have:=(h2 j a z.2).1;rw [hAp a z'.2] at this;cases this
  ·have:=(h2 j' a z'.2).1;rw [hAp a z.2] at this;cases this
  ·rw [z.1,z'.1]
 ·rcases z with z | z
  ·exact ⟨inl_of (h2 j a z.2).1,(h2 j a z.2).2⟩
  ·refine ⟨inr_of z.2,?_⟩
   cases q:B.R a with
   | false=>rfl
   | true=>obtain ⟨o,ho⟩:=k.r0 a q;rw [h0 a z.2] at ho;cases ho
 ·by_cases hj:i=j
  ·subst hj
   rw [getElem?_set,if_pos rfl] at e;split at e
   ·rename_i hl
    cases e;exact ⟨some v,by rw [getElem?_set,if_pos rfl,if_pos (by rw [k.len];exact hl)],v,rfl,r.frame (fun _ z=>.inr ⟨rfl,z⟩) (fun _ _ _ z=>z) (Zo.refl _)⟩
   ·cases e
  ·rw [getElem?_set,if_neg hj] at e
   obtain ⟨x,p1,p2⟩:=h4 j sl e;refine ⟨x,by rw [getElem?_set,if_neg hj];exact p1,?_⟩;cases sl with
   | un=>trivial
   | fz d=>obtain ⟨v,z1,z2⟩:=p2;exact ⟨v,z1,z2.mono st.av⟩
   | pk d=>exact absurd e (k.np hst j d)
   | ow es =>
    obtain ⟨b,us,z1,z2,z3,z4,z5⟩:=p2;exact ⟨b,us,z1,.inl ⟨Ne.symm hj,z2⟩,z3,s _ _ z4,z5.mono st.av⟩
   | gx g2 =>
    obtain ⟨w,z1,z2⟩:=p2;exact ⟨w,z1,z2.frame (fun _ z=>.inl ⟨Ne.symm hj,z⟩) (fun b x _ z=>s b x z) st.av⟩
section
variable {fr m:Bool} {X:Cx} {e ix:Expr} {f fa:Zzu} {fs:Zzv} {pos:Pos}
def En (dss:List (List Dat)) (k:Int):Option (List Dat):=if 0<=k then dss[k.toNat]? else none
def Z43 (i:Nat) (fa:Zzu):Ev->Option Dat:=fun env=>match env[i]?,fa env with
 | some (.gx (.nest dss)),some (.int k)=>(En dss k).map .lst
 | _,_=>none
theorem EnvOk.nest {dss:List (List Dat)} (k:EnvOk K B A H σ env) (h:env[i]?=some (.gx (.nest dss))) :
  ∃ (a:Addr) (as:List Addr),σ[i]?=some (some (.ref a))/\H a=some (.lst (as.map V.ref))/\as.length=dss.length/\∀ (n:Nat) b ds,as[n]?=some b->dss[n]?=some ds->ds.length<=sizeLine/\∃ vs,H b=some (.lst vs)/\W5 K (av H A) ds vs:=by
 obtain ⟨own,h1,h2,h4⟩:=k.sl;obtain ⟨x,q1,v,e1,a,as,e2,e3,e4,e5,e6,e7,e8,e9⟩:=h4 i _ h;subst e1 e2;exact ⟨a,as,q1,e5,e6,fun n b ds z1 z2=>⟨(e9 n b ds z1 z2).2.1,(e9 n b ds z1 z2).2.2⟩⟩
theorem L0 {dss:List (List Dat)} {k:Int} (h:En dss k=some ds):0<=k/\dss[k.toNat]?=some ds/\k=((k.toNat:Nat):Int):=by
 unfold En at h;split at h
 ·rename_i h0;exact ⟨h0,h,(Int.toNat_of_nonneg h0).symm⟩
 ·cases h
theorem Zfl (i:Nat) {x:Str} (ha:Wj true X ix fa) (hpl:Lf ix)
  (hN:X.N[i]?=some x:=by rfl) (hv:Vis X.env.scope x:=by first | exact Or.inl rfl | exact Or.inr (Or.inl rfl) | exact Or.inr (Or.inr rfl)) (hd:(x==("__debug__" : Str))=false:=by decide) (hcd:(x==("__classdict__" : Str))=false:=by decide) :
  Wj true X (.Subscript (.Name x p) ix pos) (Z43 i fa):=PE.weak (Z7j Xv (Qs hN hv hd hcd) ha hpl) fun σ H Q zz=>by
 obtain ⟨env,B,A,d,k,e,q⟩:=zz;unfold Z43 at e;split at e
 ·rename_i dss n e1 e2
  obtain ⟨ds,e3,e4⟩:=map_some e;subst e4;obtain ⟨h0,e5,e6⟩:=L0 e3;obtain ⟨a,as,h1,h2,h3,h4⟩:=k.nest e1;refine ⟨.ref a,h1,env,B,A,.int n,k,e2,fun w H2 s2 r2=>?_⟩;have hw:w=.int n:=(Rm.pk r2).int;have hlt:n.toNat<as.length:=by rw [h3];exact (List.getElem?_eq_some_iff.mp e5).1
  obtain ⟨hz,vs,g1,g2⟩:=h4 n.toNat _ ds (getElem?_eq_getElem hlt) e5;refine ⟨a,as.map V.ref,n,.ref as[n.toNat],rfl,hw,Dy.of (s2 _ _ h2),?_,q _ _ s2 (.inr (.inl ⟨_,vs,ds,rfl,rfl,hz,s2 _ _ g1,g2.mono (We s2)⟩))⟩;have hat:P5 (as.map V.ref) ((n.toNat:Nat):Int)=some (.ref as[n.toNat]):=Hi (by rw [getElem?_map,getElem?_eq_getElem hlt];rfl)
  rwa [← e6] at hat
 ·cases e
def Kt (i:Nat) (fa:Zzu) (fs:Zzv):Ev->Fl:=fun env=>match env[i]?,fa env with
 | some (.gx (.nest dss)),some (.int k)=>match En dss k with
  | some ds=>match (fs env).bind fun as=>Ua ds as with
   | some ds'=>.next (env.set i (.gx (.nest (dss.set k.toNat ds'))))
   | none=>.no
  | none=>.no
 | _,_=>.no
theorem Xf (i:Nat) {x:Str} {p2:Pos} (ha:Wj true X ix fa) (hpl:Lf ix) (hb:Oo false X (e::es) fs)
  (hN:X.N[i]?=some x:=by rfl) (hv:Vis X.env.scope x:=by first | exact Or.inl rfl | exact Or.inr (Or.inl rfl) | exact Or.inr (Or.inr rfl)) (hd:(x==("__debug__" : Str))=false:=by decide) (hcd:(x==("__classdict__" : Str))=false:=by decide)
  (hsw:swapsWith (.Call (.Attribute (.Subscript (.Name x p) ix p2) "append" apos) (e::es) [] cpos) none pos.line X.env=pure false:=by rfl)
  (hbase:attributeBase (.Subscript (.Name x p) ix p2) "append" X.env (eval (.Subscript (.Name x p) ix p2) X.env)=eval (.Subscript (.Name x p) ix p2) X.env:=by rfl)
  (hfew:((backTo cpos (starEach (e::es) X.env)).all (fun x=>!x.1)&&(backToKw cpos (keywordEach [] X.env)).all (fun x=>x.1.isSome)
   && decide ((e::es).length+([]:List Keyword).length+(if ([]:List Keyword).isEmpty then 0 else 1)<30))=true:=by rfl)
  (hline:(apos.endLine==cpos.line)=true:=by rfl) (hs:starEach (e::es) X.env=(false,eval e X.env)::starEach es X.env:=by rfl) (hplain:(backTo cpos (starEach es X.env)).any (·.1)=false:=by rfl) :
  E8 fr X (.Expr (.Call (.Attribute (.Subscript (.Name x p) ix p2) "append" apos) (e::es) [] cpos) pos) (Kt i fa fs):=(Jb (Z21 PySem.F.plainAttrs_list PySem.F.slot_list_append PySem.F.type_list_append (id:="list.append") Pl (Z7j Xv (Qs hN hv hd hcd) ha hpl) hb hbase hfew hline hs hplain) hsw).weak fun D σ H zz=>by
 obtain ⟨env,B,A,k,hst,q⟩:=zz;unfold Kt at q;split at q
 ·rename_i dss n e1 e2
  split at q
  ·rename_i ds e3
   split at q
   ·rename_i ds' e4
    obtain ⟨as0,e5,e6⟩:=bind_some e4;obtain ⟨h0,e7,e8⟩:=L0 e3;obtain ⟨a,as,h1,h2,h3,h4⟩:=k.nest e1;refine ⟨.ref a,h1,env,B,A,.int n,k,e2,fun w H2 s2 r2=>?_⟩;have hw:w=.int n:=(Rm.pk r2).int;have hlt:n.toNat<as.length:=by rw [h3];exact (List.getElem?_eq_some_iff.mp e7).1
    obtain ⟨hz,vs,g1,g2⟩:=h4 n.toNat _ ds (getElem?_eq_getElem hlt) e7;refine ⟨a,as.map V.ref,n,.ref as[n.toNat],rfl,hw,Dy.of (s2 _ _ h2),?_,.inl ⟨rfl,vs,Dy.of (s2 _ _ g1)⟩,env,B,A,as0,k.mono s2,e5,fun us H3 s3 rs=>?_⟩
    ·have hat:P5 (as.map V.ref) ((n.toNat:Nat):Int)=some (.ref as[n.toNat]):=Hi (by rw [getElem?_map,getElem?_eq_getElem hlt];rfl)
     rwa [← e8] at hat
    have k3:=k.mono (s2.trans s3);obtain ⟨v,o,m1,m2,m3,m4⟩:=k3.gx hst e1;rw [h1] at m1;cases m1;obtain ⟨a',as',z1,z2,z3,z4,z5,z6,z7,z8⟩:=m2;cases z1;have eas:as'.map V.ref=as.map V.ref:=by
     have:=(s2.trans s3) _ _ h2;rw [z4] at this;exact HO.lst.inj (Option.some.inj this)
    have eas2:as'=as:=by
     have hinj:∀ (l1 l2:List Addr),l1.map V.ref=l2.map V.ref->l1=l2:=fun l1=>by
      induction l1 with
      | nil=>intro l2 hl;cases l2 with | nil=>rfl | cons=>cases hl
      | cons y l1 ih =>
       intro l2 hl;cases l2 with
       | nil=>cases hl
       | cons y2 l2=>simp at hl;rw [hl.1,ih l2 (by simpa using hl.2)]
     exact hinj _ _ eas
    subst eas2;obtain ⟨ob,hz2,vs2,g3,g4⟩:=z8 n.toNat _ ds (getElem?_eq_getElem hlt) e7;generalize hbq:as'[n.toNat]=b at *;have hbm:b∈as':=by rw [← hbq];exact getElem_mem hlt
    unfold Ua at e6;split at e6
    ·rename_i d
     split at e6
     ·rename_i hl
      cases e6;obtain ⟨y,us',e9,r3,e10⟩:=rs;have hus:us=[y]:=by rw [e9,show us'=[] from e10]
      refine ⟨b,vs2,y,rfl,hus,g3,by rw [Zv g4];exact hl,?_⟩;have hA:A b=true:=(m3 b ob).1;have avs:Zo (av H3 A) (av (Yn H3 b (.lst (vs2++[y]))) A):=fun c o2 ec=>by
       obtain ⟨y1,y2⟩:=Qd ec;have hc:c≠b:=by intro z;rw [z,hA] at y1;cases y1
       exact Wn (by rw [Za hc];exact y2) y1
      have hab:a≠b:=fun z=>z7 (z▸hbm)
      have hg:GOk X.K A (Yn H3 b (.lst (vs2++[y]))) o (.nest (dss.set n.toNat (ds++[d]))) (.ref a):=by
       refine ⟨a,as',rfl,z2,by rw [length_set];exact z3,by rw [Za hab];exact z4,by rw [length_set];exact z5,z6,z7,fun j c es q1 q2=>?_⟩;by_cases hj:n.toNat=j
       ·subst hj
        rw [getElem?_eq_getElem hlt,hbq] at q1;cases q1;rw [getElem?_set,if_pos rfl,if_pos (by rw [← h3];exact hlt)] at q2;cases q2;exact ⟨ob,by rw [length_append,length_singleton];lia,vs2++[y],Zg,W6 (g4.mono avs) (J9 (Rp.mono avs r3))⟩
       ·rw [getElem?_set,if_neg hj] at q2
        obtain ⟨y1,y2,us2,y3,y4⟩:=z8 j c es q1 q2;have hcb:c≠b:=fun z=>by
         obtain ⟨hjl1,hjl2⟩:=List.getElem?_eq_some_iff.mp q1;have:=List.nodup_iff_pairwise_ne.mp z6;rw [List.pairwise_iff_getElem] at this;rcases lt_or_ge n.toNat j with hlt2 | hge2
         ·exact this n.toNat j hlt hjl1 hlt2 (by rw [hbq,hjl2,z])
         ·exact this j n.toNat hjl1 hlt (by lia) (by rw [hbq,hjl2,z])
        exact ⟨y1,y2,us2,by rw [Za hcb];exact y3,y4.mono avs⟩
      obtain ⟨w1,w2⟩:=m4 b (.lst (vs2++[y])) _ ob trivial hg;exact q A _ σ (((Step.same s2).trans (Step.same s3)).trans w1) w2
     ·cases e6
    ·cases e6
   ·exact q.elim
  ·exact q.elim
 ·exact q.elim
end
section
variable {fr:Bool} {X:Cx} {sc:Scope} {tg iter:Expr} {pos:Pos} {src:Zzv} {is:List Nat} {gg:Dat->Ev->Option Ev}
def Ph (i:Nat) (src:Zzv) (fs:List (Option Nat)) (gg:Dat->Ev->Option Ev):Ev->Fl:=fun env=>match src env with
 | some ds=>if ds.all (fun d=>(gg d (Tv fs env)).isSome)=true then .next (env.set i (.gx (.nest (List.replicate ds.length [])))) else .no
 | none=>.no
theorem Z5t {J:It} {fs:List (Option Nat)} {g:Dat->Ev->Option Ev} {Q:VK} 
  (hfs:∀ i∈is,fs[i]?=some none) (k:EnvOk K B A H1 σ env) (hJ:Z13 false K A H1 ds J) (hz:ds.length<=sizeLine) (hc:∀ d∈ds,∃ e',g d (Tv fs env)=some e')
  (q:∀ (p:Addr) (as:List Addr) (H':Hp),Zo H1 H'->H1 p=none->H' p=some (.lst (as.map V.ref))->as.length=ds.length->as.Nodup->p∉as->(∀ b∈as,H1 b=none/\H' b=some (.lst []))->Q (.ref p) H') :
  ∃ W:Nat->Nat->List V->Hp->Prop,(∃ m,W 0 m [] H1)/\∀ i m zs H,W i m zs H ->
   (J.stop i H/\zs.length<=sizeLine/\∀ p,H p=none->Q (.ref p) (Yn H p (.lst zs))) \/
   (J.go i H/\zs.length<=sizeLine/\∃ N:List V->Hp->Prop,(∀ ys' H',N ys' H'->∃ m',m'<m/\W (i+1) m' ys' H')/\∀ x H',J.yld i H x H'->(∃ env R A d env',EnvOk K R A H' (Vp fs σ) env/\Rp K (av H' A) d x/\g d env=some env'/\∀ σ',EnvOk K R A H' σ' env'->Hf is (Vp fs σ) σ' ->
    (Ext (Vp fs σ) σ'/\∃ env R A b,EnvOk K R A H' σ' env/\Ux env=some b/\∀ H3,Zo H' H3->if b=true then (∀ p,H3 p=none->N (zs++[.ref p]) (Yn H3 p (.lst []))) else N zs H3))):=by
 refine ⟨fun i m zs H=>m=ds.length - i/\i<=ds.length/\Zo H1 H/\∃ as:List Addr,zs=as.map V.ref/\as.length=i/\as.Nodup/\∀ b∈as,H1 b=none/\H b=some (.lst []),
  ⟨ds.length,by simp,zero_le _,Zo.refl _,[],rfl,rfl,nodup_nil,fun b hb=>nomatch hb⟩,?_⟩
 rintro i m zs H ⟨rfl,hi,s1,as,rfl,hal,hnd,has⟩;have hzs:(as.map V.ref).length<=sizeLine:=by rw [length_map];lia
 obtain ⟨hgo,hstop⟩:=hJ A H ⟨rfl,s1⟩ (k.mono s1).mu;by_cases hlt:i<ds.length
 ·have hx:ds[i]?=some ds[i]:=by simp [hlt]
  obtain ⟨go,yl⟩:=hgo i _ hx;obtain ⟨env1,b1⟩:=hc _ (getElem_mem hlt);refine .inr ⟨go,hzs,fun zs' H'=>i+1<=ds.length/\Zo H1 H'/\∃ as:List Addr,zs'=as.map V.ref/\as.length=i+1/\as.Nodup/\∀ b∈as,H1 b=none/\H' b=some (.lst []),
   fun zs' H' h=>⟨ds.length - (i+1),by lia,rfl,h⟩,fun x H' hy=>?_⟩
  obtain ⟨s2,rx⟩:=yl x H' hy;refine ⟨Tv fs env,⟨H1,A,false⟩,A,ds[i],env1,(k.inn fs).mono (s1.trans s2),rx,b1,fun σ' k' ag=>⟨⟨ag.1.symm,fun j v ej=>?_⟩,env1,⟨H1,A,false⟩,A,true,k',rfl,fun H3 s3=>?_⟩⟩
  ·have hj:j∉is:=fun hj=>by
    have:=hfs j hj;unfold Vp at ej;rw [getElem?_map,this] at ej;cases ej
   rw [ag.2 j hj];exact ej
  ·rw [if_pos rfl]
   intro p hp;have s4:Zo H1 H3:=(s1.trans s2).trans s3;have hpa:p∉as:=fun z=>by
    have:=(s2.trans s3) _ _ (has p z).2;rw [hp] at this;cases this
   refine ⟨hlt,fun b o hb=>?_,as++[p],by rw [map_append];rfl,by rw [length_append,length_singleton,hal],List.nodup_append.mpr ⟨hnd,nodup_cons.mpr ⟨by simp,nodup_nil⟩,fun a ha b hb=>by rw [mem_singleton.mp hb];intro z;exact hpa (z▸ha)⟩,fun b hb=>?_⟩
   ·have hn:b≠p:=fun z=>by have:=s4 b o hb;rw [z,hp] at this;cases this
    rw [Za hn];exact s4 b o hb
   ·rcases mem_append.mp hb with hb | hb
    ·have hn:b≠p:=fun z=>hpa (z▸hb)
     exact ⟨(has b hb).1,by rw [Za hn];exact (s2.trans s3) _ _ (has b hb).2⟩
    ·rw [mem_singleton.mp hb]
     exact ⟨s4.free hp,Zg⟩
 ·have e:i=ds.length:=by lia
  subst e;refine .inl ⟨hstop,hzs,fun p hp=>q p as _ (fun b o hb=>?_) (s1.free hp) Zg hal hnd (fun z=>by have:=(has p z).2;rw [hp] at this;cases this) fun b hb=>⟨(has b hb).1,?_⟩⟩
  ·have hn:b≠p:=fun z=>by have:=s1 b o hb;rw [z,hp] at this;cases this
   rw [Za hn];exact s1 b o hb
  ·have hn:b≠p:=fun z=>by have:=(has b hb).2;rw [z,hp] at this;cases this
   rw [Za hn];exact (has b hb).2
theorem Z6p (i:Nat) {x:Str} {lpos:Pos} (hN:X.N.Nodup) (hi':X.N[i]?=some x) (hx:B2 X.env.scope x) (psc:Scope) (fs:List (Option Nat)) (N:List Str) (hp:X.env.scope=psc) (S:CompOk psc sc X.N N fs) (hc:X.calm=true) (hi:PId false X tg iter src)
  (hb:∀ (C:Addr) (s:Shared) (H:Hp) (fp:List Addr),PGd is (Wl X sc N C s H fp) tg gg/\PFd (Wl X sc N C s H fp) [] Ux)
  (hfs:∀ i∈is,fs[i]?=some none) (hs:∀ x,foldedSetIterable iter X.env x=pure x:=by intro _;rfl) (hsw:swapsWith (.ListComp (.List [] lpos) [⟨tg,iter,[],0⟩] sc pos) (some (.Name x pos')) spos.line X.env=pure true:=by rfl)
  (hf:X.fn x=true\/X.env.scope.names.lookup x=some .local:=by first | exact .inl rfl | exact .inr rfl | assumption) :
  E8 fr X (.Assign [.Name x pos'] (.ListComp (.List [] lpos) [⟨tg,iter,[],0⟩] sc pos) spos) (Ph i src fs gg):=(Ga (g:=fun v σ H Q=>∃ env R A d env',EnvOk X.K R A H σ env/\Rp X.K (av H A) d v/\gg d env=some env'/\∀ σ',EnvOk X.K R A H σ' env'->Hf is σ σ'->Q σ' H) (tt:=fun σ H Q=>∃ env R A b,EnvOk X.K R A H σ env/\Ux env=some b/\∀ H',Zo H H'->Q b H') (te:=fun σ H Q=>∀ p,H p=none->Q (.ref p) (Yn H p (.lst []))) hN hi' hx psc fs N hp S hc hi (fun C s H fp=>⟨(hb C s H fp).1,(hb C s H fp).2,(Z88 Vn).weak fun σ H Q h=>⟨zero_le _,h⟩⟩) hs hsw hf).weak fun D σ H zz=>by
 obtain ⟨env,B,A,k,hst,q⟩:=zz;unfold Ph at q;split at q
 ·rename_i ds e
  split at q
  ·rename_i hall
   refine ⟨env,B,A,ds,k,e,fun J H1 hz s1 hJ=>Z5t (Q:=fun v H'=>D.nx (σ.set i (some v)) H') hfs (k.mono s1) hJ hz (fun d hd=>Option.isSome_iff_exists.mp (all_eq_true.mp hall d hd)) fun p as H' s2 hn hp1 hal hnd hpa has=>?_⟩;have h1:=k.putG hst i (g:=.nest (List.replicate ds.length [])) (v:=.ref p) (S:=fun b=>decide (b=p)||decide (b∈as)) (s1.trans s2) (fun b hb=>?_) (fun b hb=>?_) ⟨p,as,rfl,by simp,by rw [length_replicate];exact hz,hp1,by rw [length_replicate];exact hal,hnd,hpa,fun n b es q1 q2=>?_⟩
   ·exact q _ H' _ h1.1 h1.2
   ·rw [Bool.or_eq_true,decide_eq_true_eq,decide_eq_true_eq] at hb
    rcases hb with z | z
    ·rw [z];exact s1.free hn
    ·exact s1.free (has b z).1
   ·rw [Bool.or_eq_true,decide_eq_true_eq,decide_eq_true_eq] at hb
    rcases hb with z | z
    ·rw [z,hp1];trivial
    ·rw [(has b z).2];trivial
   ·have hbm:b∈as:=mem_of_getElem? q1
    have hes:es=[]:=by
     have:=mem_of_getElem? q2;exact (List.mem_replicate.mp this).2
    subst hes;exact ⟨by simp [hbm],zero_le _,[],(has b hbm).2,V8⟩
  ·exact q.elim
 ·exact q.elim
end
section
variable {X:Cx} {m:Bool}
end
section
variable {prog:Program} {w:World} {A:Around} {E:Zzz} {s:Shared} {z TI TO i1 i2:Addr} {f1 f2:List Addr} {n i:Nat} {P1 P2:Nat->Value->Prop} {S1 S2:Nat->Heap->Prop} {a b:Value}
end
section
variable {st m:Bool} {X:Cx} {l1 l2:Expr} {es:List Expr} {fs:Zzv} {tk:Nat} {tpos:Pos}
end
section
variable {prog:Program} {w:World} {A:Around} {E:Zzz} {s:Shared}
theorem Bq {l:Addr} {vs:List Value} {Q:List Value->Shared->Prop} (hl:s.heap.IsTuple l vs.toArray)
  (h:Q vs { s with heap:=(s.heap.push (seqObj "list" #[] 0)).update s.heap.objs.size (Obj.mapSeq (·++vs.toArray)) }) (hsz:vs.length<=sizeLine) :
  wpAny (model prog w) A (collect (.ref l)) Q E s:=by
 obtain ⟨o,ho,hc,n,hd⟩:=id hl;unfold collect;refine wpAny_bind (wpAny_runValue (codeAny_builtin entry_proto_collect' ?_));show wpAny _ _ (do again (.builtin "list.__iadd__" ⟨[← newList [],.ref l],[]⟩)) _ _ s;refine wpAny_bind (wpAny_newList (wpAny_pure ⟨Code.quiet_builtin _ (by decide +kernel),codeAny_builtin entry_list_iadd' ?_⟩));show wpAny _ _ (Builtin.List.listExtendWith (.ref s.heap.objs.size) (.ref l) (.ref s.heap.objs.size)) _ _ { s with heap:=s.heap.push (seqObj "list" #[] 0) };unfold Builtin.List.listExtendWith;have ho':(s.heap.push (seqObj "list" #[] 0)).get? l=some o:=get?_push_of_some _ ho;refine wpAny_bind (wpAny_typeOf (T:="tuple") ⟨o,ho',hc⟩ ?_);have ht:(Value.type "tuple" == Value.type "tuple")=true:=by rfl
 rw [if_pos (by rw [ht];simp)];refine wpAny_bind (listItems_at ho' hd ?_);refine wpAny_bind (listItems_at (xs:=#[]) (n:=0) (get?_push_size _ rfl) rfl ?_);rw [if_neg (by simp)];refine wpAny_bind (listUpdate_at (xs:=#[]) (n:=0) (get?_push_size _ rfl) rfl ?_ (zero_le _) (by show (#[]++vs.toArray).size<=sizeLine+1;simp only [Array.size_append,size_toArray,List.length_nil];lia));refine wpAny_pure ?_;show wpAny (model prog w) A (do
   let o ← load s.heap.objs.size
   match o.data with
   | .seq xs _=>pure xs.toList
   | _=>unsupported "internal:collect") Q E { s with heap:=(s.heap.push (seqObj "list" #[] 0)).update s.heap.objs.size (Obj.mapSeq (·++vs.toArray)) }
 refine wpAny_bind (wpAny_load (get?_update_seq (get?_push_size _ rfl) _) ?_);show wpAny _ _ (pure ((#[]:Array Value)++vs.toArray).toList) Q E _;rw [show ((#[]:Array Value)++vs.toArray).toList=vs by simp];exact wpAny_pure h
theorem Z08 {l:Addr} {vs:List Value} (hl:s.heap.IsTuple l vs.toArray) (hI:IntsAre vs ns) (h64:vs.length<64)
  (h:∀ (out:Array Value) (ns':List Int),IntsAre out.toList ns'->ns'.Perm ns->ns'.Pairwise (·<=·)->Q (.ref (s.heap.objs.size+1)) { s with heap:=sortedAll s.heap vs out }) :
  wpAny (model prog w) A (call (.builtin "sorted") [.ref l]) Q E s:=by
 refine Calls.call_function_entry kind_sorted plain_sorted entry_sorted (args_sorted1 _) ?_;unfold Builtin.«sorted»;refine wpAny_bind (m:=checkCount "sorted" 1 1 _) (wpAny_pure ?_);refine wpAny_bind (Bq hl ?_ (by rw [sizeLine_eq];lia));refine wpAny_bind (wpAny_newList ?_);have hsz:((s.heap.push (seqObj "list" #[] 0)).update s.heap.objs.size (Obj.mapSeq (·++vs.toArray))).objs.size=s.heap.objs.size+1:=by
  rw [size_update,size_push']
 have hoL:(((s.heap.push (seqObj "list" #[] 0)).update s.heap.objs.size (Obj.mapSeq (·++vs.toArray))).push (seqObj "list" vs.toArray 0)).get? (s.heap.objs.size+1)=some (seqObj "list" vs.toArray 0):=by
  rw [← hsz];exact get?_push_size _ rfl
 show wpAny _ _ _ _ _ { s with heap:=((s.heap.push (seqObj "list" #[] 0)).update s.heap.objs.size (Obj.mapSeq (·++vs.toArray))).push (seqObj "list" vs.toArray 0) };rw [hsz];refine wpAny_bind (wpAny_holding (wpAny_call_entry slot_list_sort ⟨_,hoL,rfl⟩ entry_list_sort (list_sort_tree hoL hI h64 fun out ns' a1 a2 a3=>⟨_,rfl,?_⟩) (args_list_sort _)));exact wpAny_pure ⟨_,rfl,h out ns' a1 a2 a3⟩
end
section
variable {X:Cx}
def Z7r (K:Zzy):List V->Hp->VK->Prop:=fun xs H Q=>∃ p ns,xs=[.ref p]/\Ed K H p (ns.map V.int)/\ns.length<64 /\
 ∀ (ms:List Int) (l:Addr),ms.Perm ns->ms.Pairwise (·<=·)->H l=none->Q (.ref l) (Yn H l (.lst (ms.map V.int)))
theorem Fh:Vc X (.builtin "sorted") (Z7r X.K):=by
 intro pins s σ H xs us Q I r h;obtain ⟨p,ns,rfl,hq,h64,q⟩:=h;obtain ⟨u,rfl,rx⟩:=Jz r;cases rx;obtain ⟨its,r',pl,hz⟩:=I.tuple hq;have hlen:=r'.length;rw [length_map] at hlen;refine Z08 (show s.heap.IsTuple p its.toArray from pl) (Nd r') (by lia) fun out ms h1 h2 h3=>?_
 obtain ⟨e,he⟩:=sortedAll_at s.heap its out;have hl:ms.length=ns.length:=h2.length_eq;refine ⟨.ref (s.heap.objs.size+1),Yn H (s.heap.objs.size+1) (.lst (ms.map V.int)),I.laid (t':=s.toks) (fun b o q=>sortedAll_old q) (le_succ _) ?_,rfl,q ms _ h2 h3 (I.hok.fresh (le_succ _))⟩;refine ⟨by rw [length_map] at hz ⊢;lia,out.toList,e,Gg h1,?_⟩;rw [he]
def Gz:List Dat->Option (List Dat)
 | [.lst xs]=>(Qk xs).bind fun ns=>if ns.length<64 then some ((Gp ns).map .int) else none
 | [.tup xs]=>(Qk xs).bind fun ns=>if ns.length<64 then some ((Gp ns).map .int) else none
 | _=>none
theorem Pb:Z28 X (.builtin "sorted") Gz:=(Fy.or Fh).weak fun vs H Q zz=>by
 obtain ⟨A,ds,d,mu,e,p,q⟩:=zz;unfold Gz at e;split at e
 ·rename_i xs
  obtain ⟨v,e1,p1⟩:=p.one;obtain ⟨l,us,e2,h1,r1⟩:=p1.lst;obtain ⟨ns,hn,e⟩:=bind_some e;split at e
  ·rename_i h64
   cases e;rw [Qo hn] at r1;have eu:=Wv r1;subst eu;refine .inl ⟨l,ns,by rw [e1,e2],h1.sq,h64,fun ms l' hp hs hl=>?_⟩;rw [Mj (hp.trans (Q3 ns).symm) hs (Hg ns)];have h0:(64:Nat)<=sizeLine:=by decide
   exact q.at (by rw [length_map,(Q3 ns).length_eq];lia) (Hd _) l' hl
  ·cases e
 ·rename_i xs
  obtain ⟨v,e1,p1⟩:=p.one;obtain ⟨l,us,e2,h1,r1⟩:=p1.tup;obtain ⟨ns,hn,e⟩:=bind_some e;split at e
  ·rename_i h64
   cases e;rw [Qo hn] at r1;have eu:=Wv r1;subst eu;refine .inr ⟨l,ns,by rw [e1,e2],h1,h64,fun ms l' hp hs hl=>?_⟩;rw [Mj (hp.trans (Q3 ns).symm) hs (Hg ns)];have h0:(64:Nat)<=sizeLine:=by decide
   exact q.at (by rw [length_map,(Q3 ns).length_eq];lia) (Hd _) l' hl
  ·cases e
 ·cases e
end
section
variable {prog:Program} {w:World} {A:Around} {E:Zzz} {s:Shared}
open HT in
theorem Eb {t sl:Addr} {vl vu:Value} (ht:IsTup s.heap t items) (hs:s.heap.IsSliceOf sl vl vu .none) (pl:IsPart vl lo) (pu:IsPart vu hi)
  (hw:(sIx items.size 0 lo=0/\sIx items.size items.size hi=items.size))
  (h:Q (.ref t) s)
  (hsz:items.size<=sizeLine):wpAny (model prog w) A (getItem (.ref t) (.ref sl)) Q E s:=by
 obtain ⟨os,hos,hcs,hds⟩:=id hs;have hTs:s.TypeIs (.ref sl) "slice" := ⟨os,hos,hcs⟩;unfold getItem;try with_reducible refine wpAny_holding ?_
 first | refine wpAny_bind (wpAny_pure ?_) | skip
 refine wpAny_bind (wpAny_sequenceKey ht.typeIs (by decide) ?_);refine wpAny_bind (wpAny_callSpecial?_slot (name:=Str.ofString "__getitem__") ht.typeIs PyProof.Rows.slot_tuple_getitem
  (wpAny_call_entry PyProof.Rows.slot_tuple_getitem ht.typeIs entry_tuple_getitem ?_ (args_tuple_getitem _ _)))
 show wpAny _ _ (Builtin.Tuple.tupleItemsOf (.ref t) >>= _) _ _ s;refine wpAny_bind (tupleItemsOf_ ht ?_);refine wpAny_bind (wpAny_typeOf hTs ?_);rw [if_pos (by decide)];refine wpAny_bind (R4 hs pl pu ?_);have hyes:(((sIx items.size 0 lo:Nat):Int)==0&&(1:Int)==1&&(sIx items.size items.size hi - sIx items.size 0 lo)==items.size)=true:=by
  rw [hw.1,hw.2];simp
 show wpAny _ _ (if (((sIx items.size 0 lo:Nat):Int)==0&&(1:Int)==1&&(sIx items.size items.size hi - sIx items.size 0 lo)==items.size)=true then _ else _) _ _ s;rw [if_pos hyes];unfold Builtin.Tuple.tupleIsExact;refine wpAny_bind (wpAny_bind (wpAny_typeOf ht.typeIs (wpAny_pure ?_)));rw [if_pos (by decide)];exact wpAny_bind (wpAny_rule (wpAny_pure ⟨_,rfl,wpAny_pure h⟩))
end
section
variable {X:Cx}
def Zio (K:Zzy):V->Option Int->Option Int->Hp->VK->Prop:=fun x lo hi H Q=>∃ a xs,x=.ref a/\Ed K H a xs /\
 (HT.sIx xs.length 0 lo=0/\HT.sIx xs.length xs.length hi=xs.length)/\Q (.ref a) H
theorem Z5e:SlR X (Zio X.K):=by
 intro pins s σ H x v vl vu lo hi sl Q I rx hs pl pu h;obtain ⟨a,xs,rfl,hx,hw,q⟩:=h;cases rx;obtain ⟨its,r,ht,hz⟩:=I.tuple hx;have hlen:its.toArray.size=xs.length:=by rw [size_toArray];exact r.length.symm
 refine ⟨"tuple",_,PyProof.Rows.slot_tuple_getitem.lookup,ht.typeIs,?_⟩;exact Eb ht hs pl pu (by rw [hlen];exact hw) ⟨.ref a,H,I,rfl,q⟩ (by rw [hlen];exact hz)
def Ct:Dat->Option Int->Option Int->Option Dat
 | .lst xs,lo,hi=>some (.lst (Jy xs lo hi))
 | .str z,lo,hi=>some (.str (Txt.slice z lo hi))
 | .tup xs,lo,hi=>some (.tup (Jy xs lo hi))
 | _,_,_=>none
theorem Gr:SlD X Ct:=(Zid.or Z5e).weak fun v lo hi H Q zz=>by
 obtain ⟨A,x,d,mu,e,p1,q⟩:=zz;unfold Ct at e;split at e
 ·exact .inl ⟨A,.lst _,d,mu,e,p1,q⟩
 ·exact .inl ⟨A,.str _,d,mu,e,p1,q⟩
 ·rename_i xs
  by_cases hw:HT.sIx xs.length 0 lo=0/\HT.sIx xs.length xs.length hi=xs.length
  ·obtain ⟨l,vs,e1,h1,r1⟩:=p1.tup
   cases e;have ec:Jy xs lo hi=xs:=by unfold Jy;rw [hw.1,hw.2];simp
   rw [ec] at q;exact .inr ⟨l,vs,e1,h1,by rw [Zv r1];exact hw,by rw [← e1];exact q.here (by rcases p1 with h | ⟨_,_,_,e9,_⟩ | ⟨_,_,_,e9,_⟩ | ⟨_,_,e9,_⟩;exact h;cases e9;cases e9;cases e9)⟩
  ·exact .inl ⟨A,.tup xs,d,mu,by show (if _ then none else _)=_;rw [if_neg hw];exact e,p1,q⟩
 ·cases e
end
section
variable {P:Program} {w:World} {A:Around} {E:Zzz} {s:Shared}
end
section
variable {X:Cx} {e:Expr} {fs:Zzv}
end
section
variable {prog:Program} {w:World} {A:Around} {E:Zzz} {s:Shared}
theorem Rx {t:Addr} {xs:Array Value} (q:h.IsList t xs) (e:∀ o,h.get? t=some o->h'.get? t=some o):h'.IsList t xs:=by
 obtain ⟨o,ho,r⟩:=q;exact ⟨o,e o ho,r⟩
theorem Px {t:Addr} (hne:t≠it):∀ (n i:Nat) (s:Shared) (Q:List Value->Shared->Prop),s.heap.IsListIter it t i->s.heap.IsList t items->i+n<=items.size ->
  (∀ h',h'.IsListIter it t (i+n)->SameBut it s.heap h'->Q ((items.toList.drop i).take n) { s with heap:=h' })->wpAny (model prog w) A (draw (.ref it) n) Q E s
 | 0,i,s,Q,hit,_,_,hQ=>by
  show wpAny _ _ (pure []) Q E s;exact wpAny_pure (by simpa using hQ s.heap hit (SameBut.refl ..))
 | n+1,i,s,Q,hit,ht,hle,hQ=>by
  have hlt:i<items.size:=by lia
  show wpAny _ _ (pyNext (.ref it) >>= _) Q E s;refine wpAny_bind (wpAny_pyNext_list_item hit ht (x:=items[i]) (by simp [hlt]) fun h₁ hit₁ hs₁=>?_);refine wpAny_bind (wpAny_holding (Px hne n (i+1) _ _ hit₁ (Rx ht fun o e=>hs₁.extBut _ _ hne e) (by lia) fun h₂ hit₂ hs₂=>wpAny_pure ?_));have hd:items.toList.drop i=items[i]::items.toList.drop (i+1):=by simp [List.drop_eq_getElem_cons,hlt]
  have:=hQ h₂ (by rw [show i+(n+1)=i+1+n by lia];exact hit₂) (hs₁.trans hs₂);rw [hd,List.take_succ_cons] at this;exact this
theorem Kg {t:Addr} {Q:List Value->Shared->Prop} (hh:A.handled=none) (ht:s.heap.IsList t items)
  (hQ:∀ h',ExtBut s.heap.objs.size s.heap h'->Q items.toList { s with heap:=h' }):wpAny (model prog w) A (unpackItems (.ref t) items.size none) Q E s:=by
 have hlt:t≠s.heap.objs.size:=by obtain ⟨o,ho,_⟩:=ht;exact ne_of_lt (lt_size ho)
 unfold unpackItems;refine wpAny_bind ?_
 ·unfold notIterableAtAll
  refine wpAny_bind (wpAny_specialOf ht.typeIs slot_list_iter.lookup ?_);refine wpAny_pure ?_;simp only [Bool.false_eq_true,if_false];refine wpAny_bind (wpAny_holding (wpAny_pyIter_list ht ?_));refine wpAny_bind (wpAny_holding (Px hlt items.size 0 _ _ ⟨_,get?_push_size _ rfl,rfl,rfl⟩ (Rx ht fun o e=>get?_push_of_some _ e) (by lia) fun h₁ hit₁ hs₁=>?_));have hall:List.take items.size (List.drop 0 items.toList)=items.toList:=by
   rw [drop_zero];exact take_of_length_le (by simp)
  rw [hall];rw [if_neg (by simp)];have ht₁:Heap.IsList h₁ t items:=Rx (Rx ht fun o e=>get?_push_of_some _ e) fun o e=>hs₁.extBut _ _ hlt e
  refine wpAny_bind (wpAny_holding (wpAny_pyNext_list_end hh hit₁ ht₁ (by simp) fun h₂ he₂=>?_));simp only [Option.isSome_none,Bool.false_eq_true,if_false];refine wpAny_pure (hQ h₂ fun b o hb e=>he₂ b o hb (hs₁.extBut b o hb (get?_push_of_some _ e)))
theorem Gv {env:Env} {elts:List Expr} {x1} {t:Addr} {Q:Unit->Shared->Prop} (hh:A.handled=none) (ht:s.heap.IsList t items)
  (hn:(assignEach elts env).length=items.size) (hstar:(assignEach elts env).findIdx? (·.1)=none)
  (h:∀ h',ExtBut s.heap.objs.size s.heap h'->wpAny (model prog w) A (assignInOrder ((assignEach elts env).map (·.2)) items.toList) Q E { s with heap:=h' }) :
  wpAny (model prog w) A (assign (.Tuple elts x1 pos) env (.ref t)) Q E s:=by
 rw [assign_Tuple];refine wpAny_bind (wpAny_standAt ?_);unfold unpack;rw [hn,hstar];exact wpAny_bind (wpAny_holding (Kg hh ht h))
end
section
variable {X:Cx} {pos:Pos}
def Zig (K:Zzy) (n:Nat) (t:TGs):TG:=fun v σ H Q=>∃ a xs,v=.ref a/\Dy K H a xs/\xs.length=n/\t xs σ H Q
theorem Zd4 {t:TGs} {n:Nat} (hc:X.calm=true) (h:PGs X es t)
  (hn:(assignEach es X.env).length=n:=by rfl) (hst:(assignEach es X.env).findIdx? (·.1)=none:=by rfl):PG X (.Tuple es k pos) (fun v σ H Q=>Zf5 X.K n t v σ H Q\/Zig X.K n t v σ H Q):=by
 intro pins s σ H v u Q I r hw;rcases hw with hw | hw
 ·exact Zch hc h hn hst pins s σ H v u Q I r hw
 obtain ⟨a,xs,e1,hq,hl,hw⟩:=hw;subst e1;cases r;obtain ⟨its,rv,pl,hz⟩:=I.list hq;refine Gv (I.ok.hd hc) pl.isList (by simp [hn,← hl,rv.length]) hst fun h' hx=>?_
 have I1:Inv X pins σ H { s with heap:=h' }:=I.kept (t':=s.toks) fun b o e=>hx b o (ne_of_lt (lt_size e)) e
 exact h pins _ σ H xs _ Q I1 (by simpa using rv) hw
def Sx (n:Nat) (gs:List Dat->Ev->Option Ev):Dat->Ev->Option Ev:=fun d env=>match d with
 | .tup ds=>if ds.length=n then gs ds env else none
 | .lst ds=>if ds.length=n then gs ds env else none
 | _=>none
theorem D0 {gs:List Dat->Ev->Option Ev} {n:Nat} (hc:X.calm=true) (h:Zai is X es gs)
  (hn:(assignEach es X.env).length=n:=by rfl) (hst:(assignEach es X.env).findIdx? (·.1)=none:=by rfl):PGd is X (.Tuple es k pos) (Sx n gs):=(Zd4 hc h hn hst).weak fun v σ H Q zz=>by
 obtain ⟨env,R,A,d,env',k,r,e,q⟩:=zz;unfold Sx at e;split at e
 ·rename_i ds
  split at e
  ·rename_i hl
   obtain ⟨a,vs,ev,h1,r1⟩:=S3 r;exact .inl ⟨a,vs,ev,Ym.seqT h1,by rw [Zv r1];exact hl,env,R,A,ds,env',k,r1,e,q⟩
  ·cases e
 ·rename_i ds
  split at e
  ·rename_i hl
   obtain ⟨a,vs,ev,h1,r1⟩:=Qr r;exact .inr ⟨a,vs,ev,(Ym.sl h1).sq,by rw [Zv r1];exact hl,env,R,A,ds,env',k,r1,e,q⟩
  ·cases e
 ·cases e
end
section
variable {P:Program} {w:World} {A:Around} {E:Zzz} {s:Shared}
end
section
variable {X:Cx} {e:Expr} {fs:Zzv}
end
def Z4j:Dat->Option (List V5)
 | .tup [.int a,.int b]=>some [.inl a,.inl b]
 | _=>none
theorem Xt {d:Dat} {ks:List V5} (e:Z4j d=some ks) (r:Pk K A H d v):∃ p,v=.ref p/\H p=some (.tup (ks.map kV)):=by
 unfold Z4j at e;split at e
 ·rename_i a b
  cases e;obtain ⟨p,vs,e1,h1,r1⟩:=r.tup;have ev:vs=[.int a,.int b]:=Wv (ns:=[a,b]) r1;subst ev;rcases h1 with h1 | ⟨_,_,_,_,_,_,_,_,h2⟩
  ·exact ⟨p,e1,h1⟩
  ·exact absurd mem_cons_self (h2 a)
 ·cases e
def Ks (kvs:List (List V5×Dat)) (ks:List V5):Bool:=(kvs.map (·.1)).any fun x=>decide (x=ks)
theorem Bx {us:List (List V5×V)} {k:List V5}:(Tx us k).isSome=(us.map (·.1)).any fun x=>decide (x=k):=by
 rw [any_map,← Il];congr 1
section
variable {X:Cx} {pos:Pos} {e:Expr} {f g:Zzu} {m fr:Bool}
def Z5u (neg:Bool) (i:Nat) (f:Zzu):Ev->Option Dat:=fun env=>match env[i]?,f env with
 | some (.gx (.dict kvs)),some d=>(Z4j d).map fun ks=>.bl (if neg then !Ks kvs ks else Ks kvs ks)
 | _,_=>none
theorem EnvOk.dictA {kvs:List (List V5×Dat)} (k:EnvOk K B A H σ env) (h:env[i]?=some (.gx (.dict kvs))) :
  ∃ (a:Addr) (us:List (List V5×V)),σ[i]?=some (some (.ref a))/\H a=some (.dT us)/\us.map (·.1)=kvs.map (·.1):=by
 obtain ⟨own,h1,h2,h4⟩:=k.sl;obtain ⟨x,q1,v,e1,a,us,e2,e3,e4,e5,e6,e7⟩:=h4 i _ h;subst e1 e2;exact ⟨a,us,q1,e5,e6⟩
def Nx (i:Nat) (fk fv:Zzu):Ev->Fl:=fun env=>match env[i]?,fv env,fk env with
 | some (.gx (.dict kvs)),some d,some y=>match Z4j y with
  | some ks=>if Ks kvs ks=false/\kvs.length<sizeLine then .next (env.set i (.gx (.dict (kvs++[(ks,d)])))) else .no
  | none=>.no
 | _,_,_=>.no
theorem Zbx (i:Nat) {x:Str} {ix:Expr} (hu:X.A.units+1<cLine) (ha:Wj true X ix f) (hb:Wj false X e g)
  (hN:X.N[i]?=some x:=by rfl) (hv:Vis X.env.scope x:=by first | exact Or.inl rfl | exact Or.inr (Or.inl rfl) | exact Or.inr (Or.inr rfl)) (hd:(x==("__debug__" : Str))=false:=by decide) (hcd:(x==("__classdict__" : Str))=false:=by decide)
  (hs:swapsWith e (some (.Subscript (.Name x p) ix pos')) pos.line X.env=pure false:=by rfl) :
  E8 fr X (.Assign [.Subscript (.Name x p) ix pos'] e pos) (Nx i f g):=(Za0 hu (Qs hN hv hd hcd) ha hb hs).weak fun D σ H zz=>by
 obtain ⟨env,B,A,k,hst,q⟩:=zz;unfold Nx at q;split at q
 ·rename_i kvs d y h1 h2 h3
  split at q
  ·rename_i ks hk
   split at q
   ·rename_i hc
    obtain ⟨a,us,s1,s2,s3⟩:=k.dictA h1;refine ⟨env,B,A,d,k,h2,fun v H1 sm1 r1=>⟨.ref a,s1,env,B,A,y,k.mono sm1,h3,fun u H2 sm2 r2=>?_⟩⟩;obtain ⟨b,e4,e5⟩:=Xt hk r2.pk;subst e4;have sm:=sm1.trans sm2;have k3:=k.mono sm;obtain ⟨v0,o,m1,m2,m3,m4⟩:=k3.gx hst h1;rw [s1] at m1;cases m1;obtain ⟨a',us',z1,z2,z3,z4,z5,z6⟩:=m2;cases z1;have eus:us'=us:=by
     have:=sm _ _ s2;rw [z4] at this;exact HO.dT.inj (Option.some.inj this)
    subst eus;have hno:Tx us' ks=none:=by
     have:=Bx (us:=us') (k:=ks);rw [s3] at this;have h9:Ks kvs ks=false:=hc.1;unfold Ks at h9;rw [h9] at this;cases h8:Tx us' ks with
     | none=>rfl
     | some _=>rw [h8] at this;cases this
    have hul:us'.length=kvs.length:=by have:=congrArg List.length s3;rwa [length_map,length_map] at this
    have ep:Gs us' ks v=us'++[(ks,v)]:=Br v hno;refine ⟨a,Yn H2 a (.dT (us'++[(ks,v)])),rfl,by rw [← ep];exact Z84.t (sm _ _ s2) e5 (by rw [hul];exact hc.2),?_⟩;have hA:A a=true:=(m3 a z2).1;have avs:Zo (av H2 A) (av (Yn H2 a (.dT (us'++[(ks,v)]))) A):=fun c o2 ec=>by
     obtain ⟨y1,y2⟩:=Qd ec;have hc:c≠a:=by intro z;rw [z,hA] at y1;cases y1
     exact Wn (by rw [Za hc];exact y2) y1
    have hg:GOk X.K A (Yn H2 a (.dT (us'++[(ks,v)]))) o (.dict (kvs++[(ks,d)])) (.ref a):=by
     refine ⟨a,us'++[(ks,v)],rfl,z2,by rw [length_append];exact hc.2,Zg,by rw [map_append,map_append,s3];rfl,?_⟩;rw [map_append,map_append];exact W6 (z6.mono avs) (J9 ((Rp.mono (We sm2) (show Rp X.K (av H1 A) d v from r1)).mono avs))
    obtain ⟨w1,w2⟩:=m4 a (.dT (us'++[(ks,v)])) _ z2 trivial hg;exact q A _ σ ((Step.same sm).trans w1) w2
   ·exact q.elim
  ·exact q.elim
 ·exact q.elim
def Zbq (tk tv:TE):TE:=fun σ H Q=>∀ p,H p=none->tk σ (Yn H p (.dT [])) fun y H1=>tv σ H1 fun x H2=>H2 p=some (.dT [])/\∃ ks b,y=.ref b/\H2 b=some (.tup (ks.map kV))/\Q (.ref p) (Yn H2 p (.dT [(ks,x)]))
theorem Cv {A:Around} {env:Env} {K:Type} [DecidableEq K] {knd:HeapKind prog w K} {k v:Expr} 
  (h:wpAny (model prog w) A (evalPairs (pairTrees [some k] [v] env pos)) (fun vs s₁=>∃ b x ks,vs=[(.ref b,x)]/\knd.room A/\knd.is s₁.heap ks b/\s₁.heap.DictOfH knd s.heap.objs.size [] /\
   ∀ h',h'.DictOfH knd s.heap.objs.size (storedH [] ks b x)->SameBut s.heap.objs.size s₁.heap h'->Q (.ref s.heap.objs.size) { s₁ with heap:=h',toks:=s₁.toks+knd.draws ks }) E
   { s with heap:=s.heap.push { cls:=.type "dict",data:=.dict #[] } }) :
  wpAny (model prog w) A (eval (.Dict [some k] [v] pos) env) Q E s:=by
 rw [arm_eval_Dict,zip_pairTrees [some k] [v] env pos rfl rfl,dictDisplay_pairs (pairTrees [some k] [v] env pos) (by simp [pairTrees]) (by simp [pairTrees])];refine wpAny_bind (wpAny_standAt (wpAny_bind ?_));unfold subDict;refine wpAny_bind (wpAny_alloc ?_);refine wpAny_bind (wpAny_holding ?_);rw [if_pos (by simp [pairTrees])];refine wpAny_bind (wpAny_mono h (fun vs s₁ h₁=>?_) fun _ _ e=>e);obtain ⟨b,x,ks,rfl,hr,hk,hm,hq⟩:=h₁;refine wpAny_holding ?_;rw [List.forIn_cons];refine wpAny_bind (wpAny_bind (wpAny_bind (wpAny_dictSet_heap hr hk hm (fun h' a c=>wpAny_pure ?_) (zero_le _))));show wpAny _ _ (forIn ([]:List (Value×Value)) PUnit.unit _) _ _ _;rw [List.forIn_nil];exact wpAny_pure (wpAny_pure (wpAny_pure (wpAny_pure (hq h' a c))))
theorem Z86 {k v:Expr} {tk tv:TE} (hu:X.A.units+1<cLine) (hk:PE X k tk) (hv:PE X v tv):PE X (.Dict [some k] [v] pos) (Zbq tk tv):=by
 intro pins s σ H Q I q;have hn:=I.hok.fresh (le_refl s.heap.objs.size);have I1:=I.laid (a:=s.heap.objs.size) (o:=.dT []) (h':=s.heap.push { cls:=.type "dict",data:=.dict #[] }) (t':=s.toks) (fun _ _ q=>get?_push_of_some _ q) (le_refl _) (Z6o s.heap I.big);refine Cv (knd:=tupleKind (Wz X.prog X.w)) (pairTrees_cons_walk (Wp (hk pins _ σ _ _ I1 (q _ hn)) fun u s1 ⟨y,H1,I2,ry,q1⟩=>Wp (hv pins s1 σ H1 _ I2 q1) fun u2 s2 ⟨x,H2,I3,rx,q2⟩=>pairTrees_nil_walk ?_));obtain ⟨hp,ks,b,ey,eb,q3⟩:=q2;subst ey;cases (show u=Value.ref b from ry);obtain ⟨z,hd,xs,rel,dd⟩:=Zbh I3.hok hp;cases rel;refine ⟨b,u2,ks,rfl,(show X.A.units<cLine by lia),Xo I3.hok eb,dd,fun h' dd' hs=>⟨.ref s.heap.objs.size,_,?_,rfl,q3⟩⟩;obtain ⟨q,es,ep,hq,h2,h3,h4,_,h5⟩:=dd';have r1:=(KT.put (H:=H2) (kvs:=[]) (xs:=[]) .nil ks eb rx);refine N0 I3 (by rw [hp];exact True.intro) hs ⟨q,hq⟩ ⟨by show 1<=sizeLine;decide,hd,_,r1.keeps fun c ys ec=>?_,q,es,ep,hq,h2,h3,h4,h5⟩;rw [Za (Zav ec hp (fun z=>nomatch z))];exact ec
def C4 (i:Nat) (fk fv:Zzu):Ev->Fl:=fun env=>match fk env,fv env with
 | some y,some (.bl d)=>match Z4j y with
  | some ks=>.next (env.set i (.gx (.dict [(ks,.bl d)])))
  | none=>.no
 | _,_=>.no
theorem Zby (i:Nat) {x:Str} {kx:Expr} {dpos:Pos} (hN:X.N.Nodup) (hi:X.N[i]?=some x) (hx:B2 X.env.scope x) (hu:X.A.units+1<cLine) (ha:Wj true X kx f) (hb:Wj false X e g)
  (hs:swapsWith (.Dict [some kx] [e] dpos) (some (.Name x pos')) pos.line X.env=pure false:=by rfl)
  (hf:X.fn x=true\/X.env.scope.names.lookup x=some .local:=by first | exact .inl rfl | exact .inr rfl | assumption) :
  E8 fr X (.Assign [.Name x pos'] (.Dict [some kx] [e] dpos) pos) (C4 i f g):=(Ip hN hi hx (Z86 hu ha hb) hs hf).weak fun D σ H zz=>by
 obtain ⟨env,B,A,k,hst,q⟩:=zz;unfold C4 at q;split at q
 ·rename_i y d h1 h2
  split at q
  ·rename_i ks hk
   intro p hp;have sm0:Zo H (Yn H p (.dT [])):=Zo.new hp;refine ⟨env,B,A,y,k.mono sm0,h1,fun u H1 sm1 r1=>⟨env,B,A,.bl d,(k.mono sm0).mono sm1,h2,fun v H2 sm2 r2=>⟨sm2 _ _ (sm1 _ _ Zg),?_⟩⟩⟩;obtain ⟨b,e4,e5⟩:=Xt hk r1.pk;refine ⟨ks,b,e4,sm2 _ _ e5,?_⟩;have smH:Zo H (Yn H2 p (.dT [(ks,v)])):=fun c o ec=>by
    rw [Za (fun z=>by rw [z,hp] at ec;cases ec)];exact sm2 _ _ (sm1 _ _ (sm0 _ _ ec))
   have h9:=k.putG hst i (g:=.dict [(ks,.bl d)]) (v:=.ref p) (S:=fun b=>decide (b=p)) smH (fun b hb=>by rw [of_decide_eq_true hb];exact hp) (fun b hb=>by rw [of_decide_eq_true hb,Zg];trivial) ⟨p,[(ks,v)],rfl,by simp,by show 1<=sizeLine;decide,Zg,rfl,J9 ?_⟩
   ·exact q _ _ _ h9.1 h9.2
   ·rw [(show Rp X.K (av H2 A) (.bl d) v from r2) |> L1];exact Us
  ·exact q.elim
 ·exact q.elim
end
end L2
namespace L2
open PySem PySem.Spec PyProof.Rows PySem.W
section
variable {X:Cx} {fr:Bool} {g:Ev->Fl} {body:List Stmt} {h₀:ExceptHandler} {hs:List ExceptHandler} {pos:Pos}
variable {e a b c:Expr} {f1 f2 f3:Zzu} {F1 F2:Dat->Dat->Option Dat} {m1 m2 m3:Bool}
def Z55 (i:Nat) (f:Zzu):Ev->Fl:=fun env=>match env[i]?,f env with
 | some (.fz (.int x)),some (.int y)=>.next (env.set i (.fz (.int (x+y))))
 | _,_=>.no
theorem Zgh (i:Nat) {x:Str} (hN:X.N.Nodup) (hi:X.N[i]?=some x) (hx:B2 X.env.scope x) (he:Wj m1 X e f1)
  (hf:X.fn x=true\/X.env.scope.names.lookup x=some .local:=by first | exact .inl rfl | exact .inr rfl | assumption):E8 fr X (.AugAssign (.Name x pos') .Add e pos) (Z55 i f1):=(Ze3 hN hi hx he Zbl hf).weak fun D σ H zz=>by
 obtain ⟨env,B,A,k,hst,q⟩:=zz;unfold Z55 at q;split at q
 ·rename_i n m h1 h2
  obtain ⟨own,z1,z2,z4⟩:=k.sl;obtain ⟨w,q1,v,e1,e2⟩:=z4 i _ h1;subst e1;have ev:v=.int n:=Jw e2;subst ev;refine ⟨.int n,q1,env,B,A,.int m,k,h2,fun y H1 s1 r1=>?_⟩;refine ⟨n,m,rfl,r1.pk.int,?_⟩;exact q A H1 _ (Step.same s1) ((k.mono s1).put i Yq)
 ·exact q.elim
theorem Zi7 (i:Nat) {x:Str} (hu:X.A.units+1<cLine) (he:Wj true X e f1) (hN:X.N[i]?=some x:=by rfl) (hv:Vis X.env.scope x:=by first | exact Or.inl rfl | exact Or.inr (Or.inl rfl) | exact Or.inr (Or.inr rfl)) (hd:(x==("__debug__" : Str))=false:=by decide) (hcd:(x==("__classdict__" : Str))=false:=by decide)
  (hm:behindInMarks .In (.Name x p)=false:=by rfl):PTd X (.Compare e [.In] [.Name x p] pos) (dB (Z5u false i f1)):=(Zdk (Ze2 hu he (Qs hN hv hd hcd)) hm).weak fun σ H Q zz=>by
 obtain ⟨env,R,A,d,k,e1,q⟩:=zz;have e1:=F9 e1;unfold Z5u at e1;split at e1
 ·rename_i kvs d0 h1 h2
  obtain ⟨ks,hk,e3⟩:=map_some e1;have e4:=Dat.bl.inj e3;subst e4;obtain ⟨a,us,s1,s2,s3⟩:=k.dictA h1;refine ⟨env,R,A,d0,k,h2,fun y H1 sm r1=>⟨.ref a,s1,a,Tx us ks,rfl,?_,_,rfl,?_⟩⟩
  ·obtain ⟨b,e4,e5⟩:=Xt hk r1.pk
   subst e4;exact Z6m.t (sm _ _ s2) e5
  ·rw [Bx,s3]
   exact q H1 sm
 ·cases e1
end
end L2
namespace L2
open PySem PySem.Spec PyProof.Rows
section
variable {prog:Program} {w:World} {κ:Type} [DecidableEq κ] {kd:HeapKind prog w κ} {A:Around} {E:Zzz} {s:Shared}
end
section
variable {X:Cx} {pos:Pos} {m fr fr':Bool} {F:List Dat->Rs} {k:Nat} {ps:List Str} {e:Expr} {es:List Expr} {fs:Zzv} {p:Pos}
def G4 (F:List Dat->Rs) (fs:Zzv):Ev->Fl:=fun env=>match fs env with
 | none=>.no
 | some ds=>match F ds with
  | .ok _=>.next env
  | .exc c fl=>.exc env c fl
  | .no=>.no
theorem Z9y (he:PE X e (tXx X fr' F fs)) (hs:swapsWith e none pos.line X.env=pure false:=by rfl):E8 fr X (.Expr e pos) (G4 F fs):=(Jb he hs).weak fun D σ H zz=>by
 obtain ⟨env,B,A,k,hst,q⟩:=zz;unfold G4 at q;split at q
 ·exact q.elim
 rename_i ds e1;refine ⟨env,B,A,ds,k,e1,?_⟩;split at q
 ·rename_i d hd
  try rw [hd]
  exact fun v H' s r=>q A H' σ (Step.same s) (k.mono s)
 ·rename_i c fl hd
  try rw [hd]
  exact fun A' H' σ' s k' _=>q A' H' σ' s k'
 ·exact q.elim
end
end L2
namespace L2
open PySem PySem.Spec PyProof.Rows PySem.W
abbrev Cx.pls (X:Cx) (b:Bool):Cx:={ X with pl:=b }
section
variable {X:Cx} {b:Bool} {pins:Zzx} {σ:St} {H:Hp} {s:Shared}
theorem Inv.pls (I:Inv X pins σ H s):Inv (X.pls b) pins σ H s :=
 ⟨⟨I.ok.mod,I.ok.kind,I.ok.glob,I.ok.blt,I.ok.above,I.ok.inj,I.ok.has,I.ok.cab,I.ok.hd,I.ok.frames,I.ok.stk,I.ok.exf,I.ok.bs,I.ok.bsz,I.ok.noex,I.ok.exfs,I.ok.funs,I.ok.frf⟩,I.os,I.bare,I.base,I.loc,I.cell,I.free,I.freeC,I.pin,I.hok,I.len⟩
theorem Inv.unpls (I:Inv (X.pls b) pins σ H s):Inv X pins σ H s :=
 ⟨⟨I.ok.mod,I.ok.kind,I.ok.glob,I.ok.blt,I.ok.above,I.ok.inj,I.ok.has,I.ok.cab,I.ok.hd,I.ok.frames,I.ok.stk,I.ok.exf,I.ok.bs,I.ok.bsz,I.ok.noex,I.ok.exfs,I.ok.funs,I.ok.frf⟩,I.os,I.bare,I.base,I.loc,I.cell,I.free,I.freeC,I.pin,I.hok,I.len⟩
theorem SP.unpls {D:Ends} {f:Flow} (h:SP (X.pls b) pins D f s):SP X pins D f s:=by
 cases f with
 | next=>obtain ⟨σ',H',I,q⟩:=h;exact ⟨σ',H',I.unpls,q⟩
 | brk=>obtain ⟨σ',H',I,q⟩:=h;exact ⟨σ',H',I.unpls,q⟩
 | cont=>obtain ⟨σ',H',I,q⟩:=h;exact ⟨σ',H',I.unpls,q⟩
 | ret u=>obtain ⟨v,σ',H',I,r,q⟩:=h;exact ⟨v,σ',H',I.unpls,r,q⟩
theorem Dh.unpls {st:List Stmt} {t:TS} (h:Dh (X.pls b) st t):Dh X st t:=fun pins s σ H D I hw =>
 wpAny_mono (h pins s σ H D I.pls hw) (fun _ _ q=>q.unpls) fun _ _ z=>z
end
section
variable {P:Program} {w:World} {K:Frag} {mg:Zzw} {base:Heap}
abbrev cxP (P:Program) (w:World) (K:Zzy) (mg:Zzw) (base:Heap) (N:List Str) (qual:Str) (scope:Scope) (f:Addr) (cd:Value) (A:Around) (outer:List Env) (s:Shared) (H:Hp) (E:XK):Cx :=
 (Te (Cu P w base true) P w K mg base N qual scope f cd A outer s H E).pls true
theorem Z9v {x:Str} {st:Stmt} (D:Def K mg x st) (S:FnScope N ps (Z4 st))
  (hbi:∀ (kV doc pm:Value) (an:Option Addr) (cdv ct:Value) (us:List Value),us.length=ps.length->bindArgs (fnOf x x (Wc st) (Y2 st) (Z4 st) .none kV doc pm an cdv ct) ⟨us,[]⟩=pure (ps.zip us))
  (hb:∀ (f:Addr) (cdv:Value) (A:Around) (outer:List Env) (s:Shared) (H:Hp) (E:XK),Room k (A.deeper (envOfC x (Z4 st) s.heap.objs.size f cdv))->On fr (cxP P w K mg base N x (Z4 st) f cdv A outer s H E) (Y2 st) g) :
  CalX P w K mg base (k+1) x ps fr (Y7 N.length ps.length g) true:=by
 have hpl:ps.length<=N.length:=by have:=congrArg List.length S.pre;rw [length_take] at this;lia
 obtain ⟨f,fd,F,hm⟩:=D.ex;refine ⟨⟨f,fd,F.okX S (fun vs H Q E h=>h.1) fun cdv A outer s H vs Q E hr ⟨hl,ds,R,mu,r,q⟩=>⟨_,Dh.unpls (hb f cdv A outer s H E hr),?_⟩,hm,F.kp,F.binds hbi⟩,fun ds h=>Iw h⟩;unfold Y7 at q;split at q
 ·rename_i hl
  refine ⟨Ui N.length ds,⟨H,R,true⟩,R,Ht mu r (by lia),rfl,?_⟩;split at q
  ·rename_i d' e
   rw [e];exact fun v H' s r n=>q v H' s r n
  ·rename_i env e
   rw [e];exact fun A' H' σ' s k=>q .non H' k.h0 Io (fun _ ds e=>by cases e)
  ·rename_i env c fs e
   rw [e];exact fun A' H' σ' st k pins s' e C dct I hc x hf hnw=>Gq I.unpls x rfl hnw (q C dct H' k.h0 hc (hf.mono (Q8 k.ra)))
  ·exact q.elim
 ·exact q.elim
structure CalN (P:Program) (w:World) (K:Zzy) (mg:Zzw) (base:Heap) (k:Nat) (x:Str) (ps:List Str) (fr:Bool) (F:List Dat->Rs):Prop where
 ex:∃ f fd,FnOkN P w K mg base E4 k f fd ps (spD K fr ps.length F)/\mg x=some (.ref f)/\PySem.W.keepIn K (.ref f)=true/\M9 K fd ps []
 len:∀ ds d,F ds=.ok d->ds.length=ps.length
theorem CalN.d {x:Str} (C:CalN P w K mg base k x ps fr F):CalD P w K mg base k x ps fr F:=by
 obtain ⟨f,fd,Ff,r⟩:=C.ex;exact ⟨⟨f,fd,Ff.x,r⟩,C.len⟩
theorem Fun.okN {x:Str} {st:Stmt} {f:Addr} (F:Fun K x qual st f fd) (S:FnScope N ps (Z4 st)) (len:∀ vs H Q E,sp vs H Q E->vs.length=ps.length)
  (hbody:∀ (cdv:Value) (A:Around) (outer:List Env) (s:Shared) (H:Hp) (vs:List V) (Q:VK) (E:XK),RoomN k (A.deeper (envOfC qual (Z4 st) s.heap.objs.size f cdv))->HdN (Sm E4 P w K mg base N qual (Z4 st) f cdv A outer s H E).nox->sp vs H Q E ->
   ∃ t,Dh (Sm E4 P w K mg base N qual (Z4 st) f cdv A outer s H E).nox (Y2 st) t/\t { nx:=fun _ H'=>Q .non H',rt:=Q } (start N vs) H):FnOkN P w K mg base E4 (k+1) f fd ps sp:=by
 obtain ⟨oc,od,kV,doc,pm,an,cdv,ct,osl,rfl,lk,hcd⟩:=F.ex;refine Zdm lk hcd S len fun A outer s H vs Q E hr hk hsp=>?_
 obtain ⟨t,h,q⟩:=hbody cdv A outer s H vs Q E hr (HdN.of (X:=(Sm E4 P w K mg base N qual (Z4 st) f cdv A outer s H E).nox) hk rfl) hsp;exact ⟨t,h.nox,q⟩
theorem Zdl {x:Str} {st:Stmt} (D:Def K mg x st) (S:FnScope N ps (Z4 st))
  (hbi:∀ (kV doc pm:Value) (an:Option Addr) (cdv ct:Value) (us:List Value),us.length=ps.length->bindArgs (fnOf x x (Wc st) (Y2 st) (Z4 st) .none kV doc pm an cdv ct) ⟨us,[]⟩=pure (ps.zip us))
  (hb:∀ (f:Addr) (cdv:Value) (A:Around) (outer:List Env) (s:Shared) (H:Hp) (E:XK),RoomN k (A.deeper (envOfC x (Z4 st) s.heap.objs.size f cdv))->HdN (Sm E4 P w K mg base N x (Z4 st) f cdv A outer s H E).nox->On fr (Sm E4 P w K mg base N x (Z4 st) f cdv A outer s H E).nox (Y2 st) g) :
  CalN P w K mg base (k+1) x ps fr (Y7 N.length ps.length g):=by
 have hpl:ps.length<=N.length:=by have:=congrArg List.length S.pre;rw [length_take] at this;lia
 obtain ⟨f,fd,F,hm⟩:=D.ex;refine ⟨⟨f,fd,F.okN S (fun vs H Q E h=>h.1) fun cdv A outer s H vs Q E hr hh ⟨hl,ds,R,d,mu,r,hF,q⟩=>⟨_,hb f cdv A outer s H E hr hh,?_⟩,hm,F.kp,F.binds hbi⟩,fun ds d h=>B1 h⟩;exact O5 hpl mu r hF q
end
section
variable {X:Cx} {m fr:Bool} {F:List Dat->Rs} {k:Nat} {x:Str} {ps:List Str} {e:Expr} {es:List Expr} {fs:Zzv} {p pos:Pos}
theorem Zau (C:CalN X.prog X.w X.K X.mg X.base k x ps fr F) (hr:RoomN k X.A) (hh:HdC X) (ha:Oo false X (e::es) fs) (hg:Gl X x:=by rfl)
  (hdb:(x==("__debug__" : Str))=false:=by decide) (he:starEach (e::es) X.env=(false,eval e X.env)::starEach es X.env:=by rfl) (hpl:(backTo pos (starEach es X.env)).any (·.1)=false:=by rfl) :
  Wj m X (.Call (.Name x p) (e::es) [] pos) (Zt F fs):=by
 obtain ⟨f,fd,Ff,hm,hk,hb⟩:=C.ex;have key:=Z77 (dvs:=[]) (ds:=[]) (E:=E0) Ff hr hh hg hm hk hb .nil Zb3 ha hdb he hpl (p:=p);have key':PE X (.Call (.Name x p) (e::es) [] pos) (Zfi (spD X.K fr ps.length F) (fun σ H Q=>∃ env R A ds,EnvOk X.K R A H σ env/\fs env=some ds/\∀ vs H',Zo H H'->Bk false X.K A H' ds vs->Q vs H')):=fun pins s σ H Q I h=>key pins s σ H Q I (by
  unfold Z20;simp only [append_nil];exact h)
 refine Wj.any (key'.weak fun σ H Q ⟨env,R,A,d,k,q1,q2⟩=>?_);obtain ⟨ds,e1,e2⟩:=bind_some q1;have e3:=C9 e2;refine ⟨env,R,A,ds,k,e1,fun vs H1 s1 rs=>⟨by rw [Zv rs.rps];exact C.len ds d e3,ds,A,d,k.mu.mono s1,rs.rps,e3,fun v H' s r _=>q2 v H' (s1.trans s) r⟩⟩
end
structure XMakeN (P:Program) (w:World) (K:Frag) (mg:Zzw) (base:Heap) (k:Nat) (c:Str) (p:Nat) (G:List Dat->Option (List (Str×XD))):Prop where
 ex:∃ C fI D fd ps,U3 K c C/\mg c=some (.ref C)/\keepIn K (.ref C)=true/\Td K C fI D=true/\XCls K C/\isFn K (.ref fI)=true/\FnOkN P w K mg base E4 k fI fd ps (spG K C p G)/\M9 K fd ps []
 len:∀ ds fl,G ds=some fl->ds.length=p
 few:p<=10
theorem XMakeN.x {P:Program} {w:World} {K:Frag} {mg:Zzw} {base:Heap} {k:Nat} {c:Str} {p:Nat} {G:List Dat->Option (List (Str×XD))} (M:XMakeN P w K mg base k c p G):XMake P w K mg base k c p G:=by
 obtain ⟨C,fI,D,fd,ps,h1,h2,h3,h4,h5,h6,h7,h8⟩:=M.ex;exact ⟨⟨C,fI,D,fd,ps,h1,h2,h3,h4,h5,h6,h7.x,h8⟩,M.len,M.few⟩
section
variable {P:Program} {w:World} {K:Frag} {mg:Zzw} {base:Heap}
theorem Z2b {x:Str} {st:Stmt} {f:Str} (F:Fun K "__init__" qual st fI fd) (S:FnScope ["self",x] ["self",x] (Z4 st)) (hx:Td K C fI' D=true) (xc:XCls K C) (hf:findIn K (.ref C) f=some none)
  (hb:∀ (cdv:Value) (A:Around) (outer:List Env) (s:Shared) (H:Hp) (E:XK),RoomN k (A.deeper (envOfC qual (Z4 st) s.heap.objs.size fI cdv)) ->
   Dh (Sm E4 P w K mg base ["self",x] qual (Z4 st) fI cdv A outer s H E).nox (Y2 st) (O2 (As (Am K (Mv (Mi 0) (Mv (Lk r) F5)))) (Z1l K (Mi 0) (tCB (Ce K) (Mv (Mi 1) F5)) f)))
  (hj:∀ (H:Hp) (e a:Addr) (ns:List Int),SL K H a (ns.map V.int)->So ns->JOk 0 [some (.ref e),some (.ref a)] H r) :
  FnOkN P w K mg base E4 (k+1) fI fd ["self",x] (spG K C 1 (gW f)):=by
 refine F.okN S (fun vs H Q E ⟨e,ws,ds,R,fl,ev,hl,_⟩=>by rw [ev,length_cons,hl];rfl) fun cdv A outer s H vs Q E hr hh ⟨e,ws,ds,R,fl,ev,hl,he,mu,re,rs,hG,q⟩=>⟨_,hb cdv A outer s H E hr,?_⟩
 subst ev;unfold gW at hG;split at hG
 ·rename_i xs
  obtain ⟨ns,hn,hG⟩:=bind_some hG;split at hG
  ·rename_i hs
   cases hG;have hs:=Dj hs;obtain ⟨v,r',e1,r1,r2⟩:=Zp rs;have e2:=Yf r2;subst e1 e2;obtain ⟨a,us,e3,hS,ru⟩:=Qr r1;rw [Qo hn] at ru;have e4:=Wv ru;subst e3 e4;have hS':SL K H a (ns.map V.int):=Ym.sl hS;show O2 _ _ _ [some (.ref e),some (.ref a)] H;refine ⟨.ref e,rfl,?_⟩;refine hj H e a ns hS' hs Str.empty _ (by decide) fun z=>?_
   refine ⟨e,C,none,.str z,fI',D,rfl,he,hx,?_⟩;refine ⟨.ref a,rfl,a,ns.map V.int,rfl,.inl hS'.sq,fun l hln=>?_⟩;have hle:l≠e:=fun z=>by rw [z,he] at hln;cases hln
   refine ⟨.ref e,rfl,e,C,none,fI',D,rfl,by rw [Za (Ne.symm hle)];exact he,hx,xc,hf,fun dx hdx hde=>?_⟩;have hdl:dx≠l:=fun z=>by rw [z,Zg] at hdx;cases hdx
   have hdn:H dx=none:=by rw [Za hdl] at hdx;exact hdx
   have nR:∀ {b:Addr},H b=none->R b=false:=fun {b} z=>by
    cases y:R b with
    | false=>rfl
    | true=>obtain ⟨o,ho⟩:=(mu b y).some;rw [z] at ho;cases ho
   refine q _ (some dx) (fun c o hc h=>?_) ?_ ?_ (O1 hdn Zg fun g a hm=>by simp at hm;obtain ⟨_,rfl⟩:=hm;exact ⟨hln,_,by rw [Za (Ne.symm hdl),Za hle,Zg]⟩)
   ·have c1:c≠dx:=fun z=>by rw [z,hdn] at h;cases h
    have c2:c≠l:=fun z=>by rw [z,hln] at h;cases h
    rw [Za c1,Za hc,Za c2];exact h
   ·rw [Za (Ne.symm hde),Zg]
   ·refine ⟨[(f,.ref l)],Wn Zg (nR hdn),fun g=>?_⟩
    by_cases eg:g=f
    ·subst eg
     refine .inr ⟨.nums ns,.ref l,by simp [List.lookup],by simp [List.lookup],l,rfl,.inl (.inl (Wn ?_ (nR hln))),?_⟩
     ·rw [Za (Ne.symm hdl),Za hle,Zg]
     ·exact le_of_lt (U1 (by have:=hs.1;lia))
    ·have e':(g==f)=false:=by simpa using eg
     exact .inl ⟨by simp [List.lookup,e'],by simp [List.lookup,e']⟩
  ·cases hG
 ·cases hG
end
theorem Zc9 {K:Frag} (h:Ab K H dct fl) (n:F7 H0 H dct) (nA:∀ b,H0 b=none->A b=false):Ab K (av H A) dct fl:=by
 cases dct with
 | none=>exact h
 | some dx =>
  obtain ⟨fvs,e1,e2⟩:=h;refine ⟨fvs,Wn e1 (nA _ (n dx rfl).1),fun f=>(e2 f).imp id fun ⟨d,v,a,b,c⟩=>⟨d,v,a,b,?_⟩⟩;cases d with
  | int i=>exact c
  | nums is =>
   obtain ⟨a',z1,z2,z3⟩:=c;subst z1;have hn:=nA _ (((n dx rfl).2 fvs f a' e1 b).1);refine ⟨a',rfl,?_,z3⟩;rcases z2 with (z | ⟨o,z⟩) | z
   ·exact .inl (.inl (Wn z hn))
   ·exact .inl (.inr ⟨o,Wn z hn⟩)
   ·exact .inr z
def Hh (F:List Dat->Rs):List Dat->Rs:=fun ds=>match F ds with
 | .ok d=>if Ag d=true then .ok d else .no
 | r=>r
section
variable {X:Cx} {m fr fr':Bool} {F:List Dat->Rs} {k:Nat} {x:Str} {ps:List Str} {e:Expr} {es:List Expr} {fs:Zzv} {p pos:Pos}
theorem Zc1 {pl:Bool} (C:CalX X.prog X.w X.K X.mg X.base k x ps fr F pl) (hr:Room k X.A) (ha:Oo true X (e::es) fs) (hg:Gl X x:=by rfl)
  (hdb:(x==("__debug__" : Str))=false:=by decide) (he:starEach (e::es) X.env=(false,eval e X.env)::starEach es X.env:=by rfl) (hpl:(backTo pos (starEach es X.env)).any (·.1)=false:=by rfl) (hp:X.pl=true->pl=true:=by first | exact fun _=>rfl | exact fun z=>nomatch z) :
  PE X (.Call (.Name x p) (e::es) [] pos) (tXx X fr (Hh F) fs):=by
 obtain ⟨f,fd,Ff,hm,hk,hb⟩:=C.ex;intro pins s σ H Q I ⟨env,B,A,ds,kk,e1,q⟩;refine wpAny_Call_Name_kw (Ue I hg hm ?_ hdb);refine PySem.W.callWith_K (h₀:=X.base) I.ok.mod.kin hk (Wp (ha pos pins s σ H (fun vs H1=>Zo H H1/\W5 X.K H1 ds vs) I ⟨env,B,A,ds,kk,e1,fun vs H1 s1 rs=>⟨s1,rs.full⟩⟩) fun us s1 ⟨vs,H1,I1,r,sm,rs⟩=>⟨I1.kIn,?_⟩) he hpl;have hne:F ds≠.no:=fun z=>by unfold Hh at q;rw [z] at q;exact q
 have hl:us.length=ps.length:=by rw [← r.length,Zv rs];exact C.len ds hne
 let E:XK:=fun cls dct H'=>∃ c fl C,F ds=.exc c fl/\cls=.ref C/\U3 X.K c C/\Zo H1 H'/\Ab X.K H' dct fl
 refine wpAny_call (codeAny_mono (Ff.run X.A X.stack s1 H1 ⟨us,[]⟩ us vs Q E hr I1.env0 (by simpa using hb s1 us I1.kIn (by simpa using hl)) r ⟨by rw [Zv rs];exact C.len ds hne,ds,no,(fun a h=>by cases h),by rw [Z2v];exact rs,?_⟩) fun rr s' hq=>?_)
 ·unfold B7
  split
  ·rename_i d hd
   unfold Hh at q;rw [hd] at q;dsimp only at q;split at q
   ·rename_i d' hq
    split at hq
    ·rename_i hpu
     cases hq;exact fun v H' s2 r2 _=>q v H' (sm.trans s2) (by rw [Z2v] at r2;exact Rp.pure (kk.mu.mono (sm.trans s2)) hpu r2)
    ·cases hq
   ·rename_i hq
    split at hq<;>cases hq
   ·exact q.elim
  ·rename_i c fl hd
   exact fun C dct H' s2 hc hf=>⟨c,fl,C,hd,rfl,hc,s2,by rw [Z2v] at hf;exact hf⟩
  ·rename_i hd
   exact hne hd
 ·cases rr with
  | error ev =>
   obtain ⟨ex,C,dct,T,H',c2,rfl,ho,hbr,un,hok,h1,h2,h3,h4,ht,hc2,hnw,c,fl,C',hF,eC,hc,sm2,hf⟩:=hq;cases eC;unfold Hh at q;rw [hF] at q;have I2:Inv X pins σ H' s':=I1.call' (ch:=[]) ho un hok hbr (fun b z=>absurd z (by simp));have sz:X.s₀.heap.objs.size<=s1.heap.objs.size:=I1.sz;have np:∀ {a:Addr},s1.heap.objs.size<=a->∀ p∈X.pn++pins,p.1≠a:=fun {a} ha p hp z=>by
    have:=(I1.pin p hp).1;rw [z] at this;exact absurd (lt_size this) (not_lt.mpr ha)
   have nA:∀ b,H1 b=none->A b=false:=fun b z=>by
    cases y:A b with
    | false=>rfl
    | true=>obtain ⟨o,ho⟩:=(kk.mu.mono sm b y).some;rw [z] at ho;cases ho
   exact q A H' σ (Step.same (sm.trans sm2)) (kk.mono (sm.trans sm2)) rfl pins s' ex C dct I2 hc ⟨le_trans sz h1,h3,.inr ⟨T,c2,le_trans sz h2,h4,np h2,ht,fun z=>hc2 (hp z)⟩,np h1⟩ (Zc9 hf hnw nA) (hnw.mono fun b z=>kk.h0.none (sm.none z))
  | ok fl =>
   cases fl with
   | ret u=>exact I1.after hq
   | next=>exact False.elim hq
   | brk=>exact False.elim hq
   | cont=>exact False.elim hq
end
theorem RoomN.make {A:Around} (r:RoomN (k+1) A) (C:Addr) (us:List Value) (kw:List (Str×Value)):RoomN k (A.under (.builtin "type.__call__" ⟨.ref C::us,kw⟩)) :=
 ⟨by have:=r.dp;rw [Np];lia,by have:=r.un;rw [Og];lia,r.gd⟩
abbrev Cx.inR (X:Cx) (pn:Zzx) (e:Addr):Cx:={ X with A:=X.A.mark (some (.ref e)),calm:=false,pn:=pn }
theorem Zad {pn:Zzx} {ve:Array Value} (hstk:X.stack=X.env::X.outer/\X.env.frame=some X.env.locals) (hm:(e,oe)∈pn) (hd:oe.data=.fields ve) (h2:ve[2]?=some .none):HdC (X.inR pn e):=fun pins σ H s I=>by
 obtain ⟨a,b,c,d,_⟩:=I.pin (e,oe) (mem_append_left _ hm);refine .inr ⟨e,oe,ve,rfl,a,hd,h2,b,fun z=>?_⟩;have z:e∈E9 X.stack:=z;rw [hstk.1] at z;unfold E9 at z;rw [filterMap_cons,hstk.2] at z;rcases mem_cons.mp z with z | z
 ·exact c z
 ·exact d z
section
variable {X:Cx} {fr:Bool} {e:Expr} {es:List Expr} {fs:Zzv} {p pos cpos npos:Pos} {k n:Nat} {c:Str} {G:List Dat->Option (List (Str×XD))}
theorem Z3y (M:XMakeN X.prog X.w X.K X.mg X.base k c n G) (hr:RoomN (k+1) X.A) (hh:HdC X)
  (I:Inv X pins σ H s) (kk:EnvOk X.K B A H σ env) (r:Zx vs us) (rs:W5 X.K (av H A) ds vs) (hG:G ds=some fl) {C fI D:Addr} (hcl:U3 X.K c C) (hx:Td X.K C fI D=true) {fd:FuncData} {ps:List Str} (hfn:isFn X.K (.ref fI)=true) (F:FnOkN X.prog X.w X.K X.mg X.base E4 k fI fd ps (spG X.K C n G)) (hb:M9 X.K fd ps []) :
  wpAny (model X.prog X.w) X.A (call (.ref C) us) (fun v s'=>∃ ex t dct H',v=.ref ex/\s'.heap.get? ex=some { cls:=.ref C,dict:=dct,data:=.fields #[.ref t,.none,.none,.none,.bool false,.none] }/\Inv X pins σ H' s'/\Zo H H'/\X.s₀.heap.objs.size<=ex/\H' ex=none/\(∀ p∈X.pn++pins,p.1≠ex)/\Ab X.K (av H' A) dct fl/\s.heap.objs.size<=ex/\F7 B.H₀ H' dct) E s:=by
 obtain ⟨nm,qn,N,bs,sn,sub,ab,col,dd,k0,k1,k2,k3,k5,mN,hC,hN,hi,T⟩:=Oh I.kIn hx;have hfI:∃ oI,s.heap.get? fI=some oI/\oI.cls=.type "function" := by
  have:=beq_iff_eq.mp hfn;obtain ⟨oI,h1,h2⟩:=Option.map_eq_some_iff.mp this;exact ⟨oI,I.kIn _ _ h1,h2⟩
 obtain ⟨oI,hfI,hfc⟩:=hfI;have hlen:us.length<=sizeLine:=by
  have h1:=r.length;have h2:=Zv rs;have h3:=M.len ds fl hG;have h4:=M.few;exact le_of_lt (U1 (by lia))
 obtain ⟨hp,g,d,tk,os⟩:=s;refine Om (hrest:=hlen) PySem.F.excBase_ValueError (by decide) PySem.F.excBase_ValueError T hC hN hi hfI hfc fun h' ex hlo hm=>?_
 obtain ⟨t0,ht0,_,_⟩:=hm.there;have hfr:H ex=none:=I.hok.fresh hlo;have I2:Inv X pins σ (Yn H ex (.ext (Ea ex C none))) ⟨h',g,d,tk,os⟩:=I.laid (h':=h') (t':=tk) (a:=ex) (o:=.ext (Ea ex C none)) hm.keeps hlo (Xa ⟨t0,ht0⟩);have aex:A ex=false:=by
  cases z:A ex with
  | false=>rfl
  | true=>obtain ⟨o,ho⟩:=(kk.mu ex z).some;rw [hfr] at ho;cases ho
 have sm1:Zo H (Yn H ex (.ext (Ea ex C none))):=Ax hfr;let Q':VK:=fun v H'=>v=.non/\∃ dct,(∀ c o,c≠ex->Yn H ex (.ext (Ea ex C none)) c=some o->H' c=some o)/\H' ex=some (.ext (Ea ex C dct))/\Ab X.K (av H' A) dct fl/\F7 (Yn H ex (.ext (Ea ex C none))) H' dct
 have hsp:spG X.K C n G (.ref ex::vs) (Yn H ex (.ext (Ea ex C none))) Q' E0:=⟨ex,vs,ds,A,fl,rfl,by rw [Zv rs];exact M.len ds fl hG,Zg,kk.mu.mono sm1,aex,rs.mono (We sm1),hG,fun H' dct h1 h2 h3 h4=>⟨rfl,dct,h1,h2,h3,h4⟩⟩;have hl2:(Value.ref ex::us).length=ps.length:=by
  have e1:=F.len _ _ _ _ hsp;have e2:=r.length;rw [length_cons] at e1 ⊢;lia
 refine wpAny_call (codeAny_mono (F.run _ X.stack ⟨h',g,d,tk,os⟩ _ ⟨Value.ref ex::us,[]⟩ (Value.ref ex::us) (V.ref ex::vs) Q' E0 (hr.make C us []) (hh _ _ _ _ I2) (I2.env0.make C us []) (by simpa using hb _ (Value.ref ex::us) I2.kIn (by simpa using hl2)) (.cons rfl r) hsp) fun rr s' hq=>?_);cases rr with
 | error e=>exact False.elim hq
 | ok fl' =>
  cases fl' with
  | ret u =>
   obtain ⟨v,H',I3,rv,ev,dct,h1,h2,h3,h4⟩:=I2.after hq;subst ev;have eu:u=.none:=rv;subst eu;refine ⟨rfl,?_⟩;obtain ⟨⟨t1,ht1⟩,_,_⟩:=(show Yz X.prog X.w H' s'.heap ex (.ext (Ea ex C dct)) from I3.hok ex _ h2);have I4:=I3.drop h2;have sm:Zo H (drp H' ex):=fun b o q=>by
    have hb:b≠ex:=fun z=>by rw [z,hfr] at q;cases q
    rw [Sv hb];exact h1 b o hb (by rw [Za hb];exact q)
   refine ⟨ex,t1,dct,drp H' ex,rfl,ht1,I4,sm,le_trans I.sz hlo,Gj,fun p hp z=>?_,?_,hlo,Z2j h4 ⟨_,h2⟩ kk.h0⟩
   ·have:=(I.pin p hp).1
    rw [z] at this;exact absurd (lt_size this) (not_lt.mpr hlo)
   ·exact h3.of_ne (e:=ex) (Wn h2 aex) fun c o hc q=>Wn (by rw [Sv hc];exact (Qd q).2) (Qd q).1
  | next=>exact False.elim hq
  | brk=>exact False.elim hq
  | cont=>exact False.elim hq
theorem Bu (M:XMakeN X.prog X.w X.K X.mg X.base k c n G) (hr:RoomN (k+1) X.A) (hh:HdC X) (ha:Oo false X (e::es) fs) (hn:X.A.handled≠none) (hpl0:X.pl=false:=by rfl) (hstk:X.stack=X.env::X.outer:=by rfl) (hg:Gl X c:=by rfl) (hdb:(c==("__debug__" : Str))=false:=by decide)
  (he:starEach (e::es) X.env=(false,eval e X.env)::starEach es X.env:=by rfl) (hpl:(backTo cpos (starEach es X.env)).any (·.1)=false:=by rfl) {kn:Nat}:E8 fr X (.Raise (some (.Call (.Name c p) (e::es) [] cpos)) (some (.Constant .none kn npos)) pos) (Vl c G fs):=by
 intro pins s σ H D I ⟨env,B,A,kk,hst,q⟩;obtain ⟨C,fI,D',fd,ps,hcl,hm,hkp,hx,xc,hfn,F,hb⟩:=M.ex;unfold Vl at q;split at q
 ·exact q.elim
 rename_i fl hfl;obtain ⟨ds,e1,hG⟩:=bind_some hfl;obtain ⟨nm,qn,N,bs,sn,sub,ab,col,dd,k0,k1,k2,k3,k5,mN,hC,hN,hi,T⟩:=Oh I.kIn hx;obtain ⟨h,hhd⟩:∃ h,X.A.handled=some (.ref h):=by
  rcases hh _ _ _ _ I with z | ⟨h,_,_,z,_⟩
  ·exact absurd z hn
  ·exact ⟨h,z⟩
 have key:wpAny (model X.prog X.w) X.A (eval (.Call (.Name c p) (e::es) [] cpos) X.env) (fun v s'=>∃ ex t dct H',v=.ref ex/\s'.heap.get? ex=some { cls:=.ref C,dict:=dct,data:=.fields #[.ref t,.none,.none,.none,.bool false,.none] }/\Inv X pins σ H' s'/\Zo H H'/\X.s₀.heap.objs.size<=ex/\H' ex=none/\(∀ p∈X.pn++pins,p.1≠ex)/\Ab X.K (av H' A) dct fl/\h≠ex/\F7 B.H₀ H' dct) X.xe s:=by
  refine wpAny_Call_Name_kw (Ue I hg hm ?_ hdb);refine callWith_K (h₀:=X.base) I.ok.mod.kin hkp (Wp (ha cpos pins s σ H (fun vs H1=>Zo H H1/\W5 X.K (av H1 A) ds vs) I ⟨env,B,A,ds,kk,e1,fun vs H1 s1 rs=>⟨s1,rs.rps⟩⟩) fun us s1 ⟨vs,H1,I1,r,sm,rs⟩=>⟨I1.kIn,?_⟩) he hpl;refine wpAny_mono (Z3y (E:=X.xe) M hr hh I1 (kk.mono sm) r rs hG hcl hx hfn F hb) (fun v s' ⟨ex,t,dct,H',z1,z2,z3,z4,z5,z6,z7,z8,z9,z10⟩=>⟨ex,t,dct,H',z1,z2,z3,sm.trans z4,z5,z6,z7,z8,fun z=>?_,z10⟩) fun _ _ z=>z
  rcases hh _ _ _ _ I1 with y | ⟨h',_,_,y,y1,_⟩
  ·exact hn y
  ·rw [hhd] at y
   cases y;have:=lt_size y1;rw [z] at this;exact absurd this (not_lt.mpr z9)
 obtain ⟨o,lk⟩:∃ o,X.K.lookup C=some o:=by
  unfold Td at hx;split at hx
  ·rename_i ho;exact ⟨_,ho⟩
  ·cases hx
 have e2:=(I.kIn _ _ lk).symm.trans hC;cases e2;rw [arm_exec_Raise];refine wpAny_bind (wpAny_standAt (Aw (C:=C) (nm:=nm) (q:=qn) (N:=N) (bs:=bs) (bm:=.ref D'::Mb) (hdct:=true) (sn:=sn) (sub:=sub) (ab:=ab) (col:=col) (dd:=dd) (k0:=k0) (k1:=k1) (k2:=k2) (k3:=k3) (k5:=k5) (newId:="ValueError.__new__") (by simp [Mb]) hhd (wpAny_bind (wpAny_mono key (fun v s₃ h₃=>wpAny_bind (wpAny_standAt (wpAny_pure ?_))) fun _ _ x=>x))));obtain ⟨ex,t,dct,H',rfl,hex,I3,sm,lo,un,pe,hf,hne,hnw⟩:=h₃;obtain ⟨oh,vh,hg1,hg2,hg3⟩:∃ oh vh,s₃.heap.get? h=some oh/\oh.data=.fields vh/\vh[2]?=some .none:=by
  rcases hh _ _ _ _ I3 with y | ⟨h',oh,vh,y,y1,y2,y3,_⟩
  ·exact absurd y hn
  ·rw [hhd] at y
   cases y;exact ⟨oh,vh,y1,y2,y3⟩
 have nloc:ex≠X.env.locals/\∀ y c,X.env.cells.lookup y=some c->c≠ex:=by
  refine ⟨fun z=>?_,fun y c hc z=>?_⟩
  ·obtain ⟨m,⟨o',es,ep,ho',hd',_⟩,_⟩:=I3.loc
   rw [z,ho'] at hex;cases hex;cases hd'
  ·obtain ⟨v,o',ho',hd'⟩:=I3.cell y c hc
   rw [z,hex] at ho';cases ho';cases hd'
 refine ⟨ex,.ref t,dct,rfl,I3.kIn _ _ lk,hex,hne,⟨oh,vh,hg1,hg2,hg3⟩,wpAny_bind (wpAny_Constant_none (wpAny_bind (wpAny_standAt (wpAny_pure ⟨rfl,rfl,fun h' hk hx' hz=>?_⟩))))⟩;have hfree:∀ b∈E9 (X.env::X.outer),H' b=none:=by rw [← hstk];exact I3.stkFree
 have kp:Nj (X.env::X.outer) [ex] s₃.heap h':=Nj.of fun b o hb hc=>(hk b (by simpa using hc)).trans hb
 have hch:∀ b∈[ex],b=ex:=fun b hb=>mem_singleton.mp hb
 have I4:Inv X pins σ H' { s₃ with heap:=h' }:=I3.call' (s':={ s₃ with heap:=h' }) (ch:=[ex]) rfl (by rw [hstk];exact Ka kp fun b hb=>by rw [hch b hb];exact un) (Mh I3.hok kp (fun b hb=>by rw [hch b hb];exact un) hfree) I3.bare fun b hb=>by rw [hch b hb];exact ⟨.inr lo,nloc.1,nloc.2,pe⟩
 exact q A H' σ (Step.same sm) (kk.mono sm) pins { s₃ with heap:=h' } ex C dct I4 hcl ⟨lo,un,.inl ⟨_,_,hx',rfl,rfl,rfl,rfl,fun z=>by rw [hpl0] at z;cases z⟩,pe⟩ hf hnw
end
def Z58 (K:Frag) (mg:Zzw) (T:Str) (known:List Str):Prop:=∃ D,mg T=some (.ref D)/\∀ c C,c∈known->U3 K c C->exmOne K (.ref C) (.ref D)=some (decide (c=T))
def Zbw:Fl->Fl
 | .exc e c f=>.exc e c f
 | _=>.no
def Bz (known:List Str) (T1 T2:Str) (g k1 k2:Ev->Fl):Ev->Fl:=fun env=>match g env with
 | .exc env' c fl=>if c∈known then (if c=T1 then Zbw (k1 env') else if c=T2 then Zbw (k2 env') else .no) else .no
 | r=>r
theorem Inv.ofR {pins' pn:Zzx} (ok:X.Ok) (hs:∀ p∈X.pn++pins,p∈pn) (I:Inv (X.inR pn e) pins' σ H s):Inv X pins σ H s :=
 ⟨ok,I.os,I.bare,I.base,I.loc,I.cell,I.free,I.freeC,fun p hp=>I.pin p (mem_append_left _ (hs p hp)),I.hok,I.len⟩
theorem SP.ofR {pn:Zzx} {D:Ends} {f:Flow} (ok:X.Ok) (hs:∀ p∈X.pn++pins,p∈pn) (h:SP (X.inR pn e) [] D f s):SP X pins D f s:=by
 cases f with
 | next=>obtain ⟨σ',H',I,q⟩:=h;exact ⟨σ',H',I.ofR ok hs,q⟩
 | brk=>obtain ⟨σ',H',I,q⟩:=h;exact ⟨σ',H',I.ofR ok hs,q⟩
 | cont=>obtain ⟨σ',H',I,q⟩:=h;exact ⟨σ',H',I.ofR ok hs,q⟩
 | ret u=>obtain ⟨v,σ',H',I,r,q⟩:=h;exact ⟨v,σ',H',I.ofR ok hs,r,q⟩
section
variable {X:Cx} {fr:Bool} {g k1 k2:Ev->Fl} {body:List Stmt} {b1 b2:Stmt} {su1 su2:List Stmt} {T1 T2:Str} {np1 np2 hp1 hp2 pos:Pos} {known:List Str}
theorem Z9d (hp:∀ e,PassesOwnAt (model X.prog X.w) (X.A.mark (some (.ref e))) X.A X.env X.xe) (hb:∀ pn E,On fr ((X.inTry pn E).pls true) body g)
  (h1:∀ pn e,HdC (X.inR pn e)->On fr (X.inR pn e) (b1::su1) k1) (h2':∀ pn e,HdC (X.inR pn e)->On fr (X.inR pn e) (b2::su2) k2) (c1:Z58 X.K X.mg T1 known) (c2:Z58 X.K X.mg T2 known)
  (hg1:Gl X T1:=by rfl) (hdb1:(T1==("__debug__" : Str))=false:=by decide) (hg2:Gl X T2:=by rfl) (hdb2:(T2==("__debug__" : Str))=false:=by decide)
  (hstk:X.stack=X.env::X.outer/\X.env.frame=some X.env.locals:=by exact ⟨rfl,rfl⟩) :
  E8 fr X (.Try body [.ExceptHandler (some (.Name T1 np1)) none (b1::su1) hp1,.ExceptHandler (some (.Name T2 np2)) none (b2::su2) hp2] [] [] pos) (Bz known T1 T2 g k1 k2):=by
 obtain ⟨D1,m1,x1⟩:=c1;obtain ⟨D2,m2,x2⟩:=c2;intro pins s σ H D I ⟨env,B,A,kk,hst,q⟩;let HS:List ExceptHandler:=[.ExceptHandler (some (.Name T1 np1)) none (b1::su1) hp1,.ExceptHandler (some (.Name T2 np2)) none (b2::su2) hp2]
 let EX:Value->Shared->Prop:=fun ev s₁=>wpAny (model X.prog X.w) X.A (noteFrame ev X.env) (fun _ s₂=>wpAny (model X.prog X.w) X.A (setFlight ev none) (fun _ s₃=>wpAny (model X.prog X.w) X.A (handleBy ev X.env HS) (SP X pins D) X.xe s₃) X.xe s₂) X.xe s₁
 have flok:E6 fr ((X.inTry (X.pn++pins) EX).pls true) B A H D (g env):=by
  unfold Bz at q;cases eg:g env with
  | next e'=>rw [eg] at q;exact q
  | brk e'=>rw [eg] at q;exact q
  | cont e'=>rw [eg] at q;exact q
  | ret d=>rw [eg] at q;exact q
  | no=>rw [eg] at q;exact q
  | exc env' c fl =>
   rw [eg] at q;dsimp only at q;split at q
   case isFalse=>exact q.elim
   rename_i hkn;intro A1 H1 σ1 st1 kv1 pins' s1 e C dct I1 hcl x hf1 hnw1;have J1:Inv X pins σ1 H1 s1:=I1.unpls.ofTry I.ok;have hfr:X.A.frames=some (X.env::X.outer):=by rw [← hstk.1];exact J1.ok.frames
   have hl:s1.heap.FunFrames X.base (X.env::X.outer):=by rw [← hstk.1];exact J1.stack
   have hkb:X.base.StaysIn s1.heap:=J1.bk;have hen:X.base.get? e=none:=J1.noBase x.lo;have hfree:∀ b∈E9 (X.env::X.outer),H1 b=none:=by rw [← hstk.1];exact J1.stkFree
   have hpn:∀ {a:Addr},(∀ p∈(X.inTry (X.pn++pins) EX).pn++pins',p.1≠a)->∀ p∈X.pn++pins,p.1≠a:=fun {a} z p hp=>z p (mem_append_left _ hp)
   have nloc:∀ {s1:Shared} (J1:Inv X pins σ1 H1 s1) {a:Addr} {o:Obj} {vs:Array Value},s1.heap.get? a=some o->o.data=.fields vs->a≠X.env.locals/\∀ y c,X.env.cells.lookup y=some c->c≠a:=fun {s1} J1 {a o vs} ho hd=>by
    refine ⟨fun z=>?_,fun y c hc z=>?_⟩
    ·obtain ⟨m,⟨o',es,ep,ho',hd',_⟩,_⟩:=J1.loc
     rw [z,ho'] at ho;cases ho;rw [hd] at hd';cases hd'
    ·obtain ⟨v,o',ho',hd'⟩:=J1.cell y c hc
     rw [z,ho] at ho';cases ho';rw [hd] at hd';cases hd'
   -- a suite
   have suite:∀ (b₀:Stmt) (su:List Stmt) (hp':Pos) (kf:Ev->Fl) (hh:∀ pn e,HdC (X.inR pn e)->On fr (X.inR pn e) (b₀::su) kf) (qf:E6 fr X B A H D (Zbw (kf env'))) (h2:Heap) (T':Addr),s1.heap.objs.size<=T'->X.base.StaysIn h2->h2.FunFrames X.base (X.env::X.outer)->Im h2 X.base e T' (.ref C,some .none) dct .none->Inv X pins σ1 H1 { s1 with heap:=h2 } ->
     codeAny (model X.prog X.w) (X.A.mark (some (.ref e))) (.handlers (.ref e) [.ExceptHandler none none (b₀::su) hp'] X.env) (fun r s₂=>match r with
      | .ok f=>SP X pins D f s₂
      | .error x=>cameBackBy (model X.prog X.w) X.A X.env X.xe x s₂) { s1 with heap:=h2 }:=by
    intro b₀ su hp' kf hh qf h2 T' hT' sb2 ff2 tr2 J2;obtain ⟨oe,ve,oT,ts,g1,g2,g3,g4,g5,g6,g7,g8,g9,g10⟩:=id tr2;refine codeAny_handlers_suite ?_;refine Kp (s:={ s1 with heap:=h2 }) sb2 ff2 tr2 fun h3 y1 y2 tr3 y4 y5=>?_
    have kp3:Nj (X.env::X.outer) [T'] h2 h3:=.of fun b o hb hc=>y4 b o hb hc
    have hTn:H1 T'=none:=J1.hok.fresh hT';have hTl:=nloc J2 g8 g9;have hTp:∀ p∈X.pn++pins,p.1≠T':=fun p hp z=>by
     have:=(J1.pin p hp).1;rw [z] at this;exact absurd (lt_size this) (not_lt.mpr hT')
    have hTs:∀ b∈[T'],b=T':=fun b hb=>mem_singleton.mp hb
    have J3:Inv X pins σ1 H1 { s1 with heap:=h3 }:=J2.call' (s':={ s1 with heap:=h3 }) (ch:=[T']) rfl (by rw [hstk.1];exact Ka kp3 fun b hb=>by rw [hTs b hb];exact hTn) (Mh J2.hok kp3 (fun b hb=>by rw [hTs b hb];exact hTn) hfree) J2.bare fun b hb=>by rw [hTs b hb];exact ⟨.inr (le_trans J1.sz hT'),hTl.1,hTl.2,hTp⟩
    obtain ⟨oe',ve',_,_,e1,e2,e3,e4,_⟩:=id tr3;have el:=nloc J3 e1 e4;have hv2:ve'[2]?=some .none:=(Prod.mk.inj e2).2;have efs:e∉X.fs:=fun z=>by
     obtain ⟨_,o,ho,hnf⟩:=y2.mem (show e∈(X.env::X.outer).filterMap (·.frame) from by
      rw [filterMap_cons,hstk.2];exact mem_cons_of_mem _ z)
     have ho:h3.get? e=some o:=ho;rw [e1] at ho;cases ho;exact hnf ve' e4
    have hs:∀ p∈X.pn++pins,p∈X.pn++pins++[(e,oe')]:=fun p hp=>mem_append_left _ hp
    have hm:(e,oe')∈X.pn++pins++[(e,oe')]:=mem_append_right _ (mem_singleton.mpr rfl);have J4:Inv (X.inR (X.pn++pins++[(e,oe')]) e) [] σ1 H1 { s1 with heap:=h3 } :=
     ⟨⟨J3.ok.mod,J3.ok.kind,J3.ok.glob,J3.ok.blt,J3.ok.above,J3.ok.inj,J3.ok.has,J3.ok.cab,(fun z=>nomatch z),J3.ok.frames,J3.ok.stk,J3.ok.exf,J3.ok.bs,J3.ok.bsz,J3.ok.noex,J3.ok.exfs,J3.ok.funs,J3.ok.frf⟩,J3.os,J3.bare,J3.base,J3.loc,J3.cell,J3.free,J3.freeC,fun p hp=>by
      rw [append_nil] at hp;rcases mem_append.mp hp with hp | hp
      ·exact J3.pin p hp
      ·rw [mem_singleton.mp hp]
       exact ⟨e1,x.un,el.1,efs,fun v z=>by rw [e4] at z;cases z⟩,J3.hok,J3.len⟩
    have fl2:E6 fr (X.inR (X.pn++pins++[(e,oe')]) e) B A1 H1 D (kf env'):=by
     have q2:=qf.step st1;cases ek:kf env' with
     | exc e' c' f' =>
      rw [ek] at q2;exact fun A' H' σ' s' k' pins2 s5 e5 C5 d5 I5 hc5 x5 hf5 hn5=>q2 A' H' σ' s' k' pins s5 e5 C5 d5 (I5.ofR I.ok hs) hc5 ⟨x5.lo,x5.un,x5.ob.imp id fun ⟨T,c2,a1,a2,a3,a4⟩=>⟨T,c2,a1,a2,fun p hp=>a3 p (mem_append_left _ (hs p hp)),a4⟩,fun p hp=>x5.pe p (mem_append_left _ (hs p hp))⟩ hf5 hn5
     | next e'=>rw [ek] at q2;exact q2.elim
     | brk e'=>rw [ek] at q2;exact q2.elim
     | cont e'=>rw [ek] at q2;exact q2.elim
     | ret d=>rw [ek] at q2;exact q2.elim
     | no=>rw [ek] at q2;exact q2.elim
    exact wpAny_mono (hh (X.pn++pins++[(e,oe')]) e (Zad hstk hm e4 hv2) [] _ _ _ _ J4 ⟨_,B,A1,kv1,hst,fl2⟩) (fun f s6 hs6=>hs6.ofR I.ok hs) (fun ev s6 z=>hp e ev s6 z)
   -- behind the landing
   have after:∀ (h2:Heap) (T':Addr) (ch:List Addr),s1.heap.objs.size<=T'->X.base.StaysIn h2->h2.FunFrames X.base (X.env::X.outer)->Im h2 X.base e T' (.ref C,some .none) dct .none->Nj (X.env::X.outer) ch s1.heap h2->(∀ b∈ch,H1 b=none/\X.s₀.heap.objs.size<=b/\b≠X.env.locals/\(∀ y c,X.env.cells.lookup y=some c->c≠b)/\∀ p∈X.pn++pins,p.1≠b) ->
     wpAny (model X.prog X.w) X.A (handleBy (.ref e) X.env HS) (SP X pins D) X.xe { s1 with heap:=h2 }:=by
    intro h2 T' ch hT' sb2 ff2 tr2 kp hch;have J2:Inv X pins σ1 H1 { s1 with heap:=h2 }:=J1.call' (s':={ s1 with heap:=h2 }) (ch:=ch) rfl (by rw [hstk.1];exact Ka kp fun b hb=>(hch b hb).1) (Mh J1.hok kp (fun b hb=>(hch b hb).1) hfree) J1.bare fun b hb=>⟨.inr (hch b hb).2.1,(hch b hb).2.2.1,(hch b hb).2.2.2.1,(hch b hb).2.2.2.2⟩
    obtain ⟨oe,ve,oT,ts,g1,g2,g3,g4,g5,g6,g7,g8,g9,g10⟩:=id tr2;have g2:=(Prod.mk.inj g2).1;have LT:Looks (model X.prog X.w) h2 (typeOf (.ref e)) (.ref C):=g2▸(Looks.ld g1).andThen .now;have e1:=x1 c C hkn hcl;have e2:=x2 c C hkn hcl;refine wpAny_handleBy_cons (codeAny_handlers_test (Ue (J2.toH (e:=e)) hg1 m1 ?_ hdb1)) (by intro z;cases z);by_cases z1:c=T1
    ·rw [decide_eq_true z1] at e1
     rw [if_pos z1] at q;exact (exm_one (M:=model X.prog X.w) J2.kIn LT e1).here (suite b1 su1 hp1 k1 h1 q h2 T' hT' sb2 ff2 tr2 J2)
    ·rw [decide_eq_false z1] at e1
     rw [if_neg z1] at q;refine (exm_one (M:=model X.prog X.w) J2.kIn LT e1).here ?_;show wpAny _ _ _ _ _ _;refine wpAny_handleBy_cons (codeAny_handlers_test (Ue (J2.toH (e:=e)) hg2 m2 ?_ hdb2)) (by intro z;cases z);by_cases z2:c=T2
     ·rw [decide_eq_true z2] at e2
      rw [if_pos z2] at q;exact (exm_one (M:=model X.prog X.w) J2.kIn LT e2).here (suite b2 su2 hp2 k2 h2' q h2 T' hT' sb2 ff2 tr2 J2)
     ·rw [if_neg z2] at q
      exact q.elim
   show wpAny _ _ _ _ _ _;rcases x.ob with ⟨o,vs,he,hc,hd,hda,hv1,hpl⟩ | ⟨T0,c2,hT,hTn,hTp,ht,hpl⟩
   ·have hv2:=hpl rfl
    refine Md hfr hl hstk.2 he hkb hen hda hv1 fun h' T' x0 x1 x2 x3 x4 x5=>?_
    refine Kp (s:={ s1 with heap:=h' }) x1 x2 x3 fun h2 y1 y2 y3 y4 y5=>?_
    rw [hc,hd,hv2] at y3;refine after h2 T' [e] x0 y1 y2 y3 (R8 x4 x0 y4) fun b hb=>?_
    rw [mem_singleton.mp hb];have z:=nloc J1 he hda;exact ⟨x.un,x.lo,z.1,z.2,hpn x.pe⟩
   ·have hv2:=hpl rfl
    subst hv2;refine Z1i hfr hl hstk.2 ht hkb hen fun h' T' x0 x1 x2 x3 x4 x5=>?_
    refine Kp (s:={ s1 with heap:=h' }) x1 x2 x3 fun h2 y1 y2 y3 y4 y5=>?_
    refine after h2 T' [e,T0] x0 y1 y2 y3 (R8 x4 x0 y4) fun b hb=>?_
    obtain ⟨oe,ve,oT,ts,g1,g2,g3,g4,g5,g6,g7,g8,g9,g10⟩:=id ht;rcases mem_cons.mp hb with z | z
    ·rw [z];have w:=nloc J1 g1 g4;exact ⟨x.un,x.lo,w.1,w.2,hpn x.pe⟩
    ·rw [mem_singleton.mp z];have w:=nloc J1 g8 g9;exact ⟨hTn,hT,w.1,w.2,hpn hTp⟩
 refine wpAny_Try_except (wpAny_mono (hb (X.pn++pins) EX [] s σ H D I.toTry.pls ⟨env,B,A,kk,hst,flok⟩) (fun f s₁ hs=>?_) (fun e s₁ hx=>hx));cases f with
 | next=>obtain ⟨σ',H',I',q'⟩:=hs;exact wpAny_pure ⟨σ',H',I'.unpls.ofTry I.ok,q'⟩
 | brk=>obtain ⟨σ',H',I',q'⟩:=hs;exact ⟨σ',H',I'.unpls.ofTry I.ok,q'⟩
 | cont=>obtain ⟨σ',H',I',q'⟩:=hs;exact ⟨σ',H',I'.unpls.ofTry I.ok,q'⟩
 | ret u=>obtain ⟨v,σ',H',I',r',q'⟩:=hs;exact ⟨v,σ',H',I'.unpls.ofTry I.ok,r',q'⟩
end
theorem Z8s {K:Frag} {f:Addr} {A:Around} {E:XK} (e:Addr) :
  PassesOwnAt (model P w) ((cxL P w K mg base N qual scope f cd A outer s H E).A.mark (some (.ref e))) (cxL P w K mg base N qual scope f cd A outer s H E).A (cxL P w K mg base N qual scope f cd A outer s H E).env (cxL P w K mg base N qual scope f cd A outer s H E).xe :=
 Z82 (X:=Te (Cu P w base) P w K mg base N qual scope f cd A outer s H E) rfl ⟨rfl,rfl⟩
theorem Z2t {K:Frag} {raised:List Str} {T:Str} (hm:mg T=some (.ref D)) (h:∀ c∈raised,∃ C,U3 K c C/\exmOne K (.ref C) (.ref D)=some (decide (c=T))):Z58 K mg T raised:=by
 refine ⟨D,hm,fun c C hc hb=>?_⟩;obtain ⟨C',h1,h2⟩:=h c hc;unfold U3 at hb h1;rw [hb] at h1;cases h1;exact h2
theorem RoomN.mark {A:Around} {v:Option Value} (r:RoomN k A):RoomN k (A.mark v):=⟨r.dp,r.un,r.gd⟩
def Zdf (K:Frag) (mg:Zzw) (T:Str) (known:List Str) (b:Str->Bool):Prop:=∃ D,mg T=some (.ref D)/\∀ c C,c∈known->U3 K c C->exmOne K (.ref C) (.ref D)=some (b c)
def Ky (known:List Str) (b1:Str->Bool) (g k1:Ev->Fl):Ev->Fl:=fun env=>match g env with
 | .exc env' c fl=>if c∈known then (if b1 c=true then k1 env' else .no) else .no
 | r=>r
section
variable {X:Cx} {fr:Bool} {g k1 k2:Ev->Fl} {body:List Stmt} {b1 b2:Stmt} {su1 su2:List Stmt} {T1 T2:Str} {np1 np2 hp1 hp2 pos:Pos} {known:List Str} {b1' b2':Str->Bool}
theorem Z1o (hp:∀ e,PassesOwnAt (model X.prog X.w) (X.A.mark (some (.ref e))) X.A X.env X.xe) (hb:∀ pn E,On fr (X.inTry pn E) body g)
  (h1:∀ pn e,On fr (X.inR pn e) (b1::su1) k1) (c1:Zdf X.K X.mg T1 known b1')
  (hg1:Gl X T1:=by rfl) (hdb1:(T1==("__debug__" : Str))=false:=by decide)
  (hstk:X.stack=X.env::X.outer/\X.env.frame=some X.env.locals:=by exact ⟨rfl,rfl⟩) :
  E8 fr X (.Try body [.ExceptHandler (some (.Name T1 np1)) none (b1::su1) hp1] [] [] pos) (Ky known b1' g k1):=by
 obtain ⟨D1,m1,x1⟩:=c1;intro pins s σ H D I ⟨env,B,A,kk,hst,q⟩;let HS:List ExceptHandler:=[.ExceptHandler (some (.Name T1 np1)) none (b1::su1) hp1]
 let EX:Value->Shared->Prop:=fun ev s₁=>wpAny (model X.prog X.w) X.A (noteFrame ev X.env) (fun _ s₂=>wpAny (model X.prog X.w) X.A (setFlight ev none) (fun _ s₃=>wpAny (model X.prog X.w) X.A (handleBy ev X.env HS) (SP X pins D) X.xe s₃) X.xe s₂) X.xe s₁
 have flok:E6 fr (X.inTry (X.pn++pins) EX) B A H D (g env):=by
  unfold Ky at q;cases eg:g env with
  | next e'=>rw [eg] at q;exact q
  | brk e'=>rw [eg] at q;exact q
  | cont e'=>rw [eg] at q;exact q
  | ret d=>rw [eg] at q;exact q
  | no=>rw [eg] at q;exact q
  | exc env' c fl =>
   rw [eg] at q;dsimp only at q;split at q
   case isFalse=>exact q.elim
   rename_i hkn;intro A1 H1 σ1 st1 kv1 pins' s1 e C dct I1 hcl x hf1 hnw1;have J1:Inv X pins σ1 H1 s1:=I1.ofTry I.ok;have hfr:X.A.frames=some (X.env::X.outer):=by rw [← hstk.1];exact J1.ok.frames
   have hl:s1.heap.FunFrames X.base (X.env::X.outer):=by rw [← hstk.1];exact J1.stack
   have hkb:X.base.StaysIn s1.heap:=J1.bk;have hen:X.base.get? e=none:=J1.noBase x.lo;have hfree:∀ b∈E9 (X.env::X.outer),H1 b=none:=by rw [← hstk.1];exact J1.stkFree
   have hpn:∀ {a:Addr},(∀ p∈(X.inTry (X.pn++pins) EX).pn++pins',p.1≠a)->∀ p∈X.pn++pins,p.1≠a:=fun {a} z p hp=>z p (mem_append_left _ hp)
   have nloc:∀ {s1:Shared} (J1:Inv X pins σ1 H1 s1) {a:Addr} {o:Obj} {vs:Array Value},s1.heap.get? a=some o->o.data=.fields vs->a≠X.env.locals/\∀ y c,X.env.cells.lookup y=some c->c≠a:=fun {s1} J1 {a o vs} ho hd=>by
    refine ⟨fun z=>?_,fun y c hc z=>?_⟩
    ·obtain ⟨m,⟨o',es,ep,ho',hd',_⟩,_⟩:=J1.loc
     rw [z,ho'] at ho;cases ho;rw [hd] at hd';cases hd'
    ·obtain ⟨v,o',ho',hd'⟩:=J1.cell y c hc
     rw [z,ho] at ho';cases ho';rw [hd] at hd';cases hd'
   -- a suite
   have suite:∀ (b₀:Stmt) (su:List Stmt) (hp':Pos) (kf:Ev->Fl) (hh:∀ pn e,On fr (X.inR pn e) (b₀::su) kf) (qf:E6 fr X B A H D (kf env')) (h2:Heap) (T':Addr) (c2:Option Value),s1.heap.objs.size<=T'->X.base.StaysIn h2->h2.FunFrames X.base (X.env::X.outer)->Im h2 X.base e T' (.ref C,c2) dct .none->Inv X pins σ1 H1 { s1 with heap:=h2 } ->
     codeAny (model X.prog X.w) (X.A.mark (some (.ref e))) (.handlers (.ref e) [.ExceptHandler none none (b₀::su) hp'] X.env) (fun r s₂=>match r with
      | .ok f=>SP X pins D f s₂
      | .error x=>cameBackBy (model X.prog X.w) X.A X.env X.xe x s₂) { s1 with heap:=h2 }:=by
    intro b₀ su hp' kf hh qf h2 T' c2 hT' sb2 ff2 tr2 J2;obtain ⟨oe,ve,oT,ts,g1,g2,g3,g4,g5,g6,g7,g8,g9,g10⟩:=id tr2;refine codeAny_handlers_suite ?_;refine Kp (s:={ s1 with heap:=h2 }) sb2 ff2 tr2 fun h3 y1 y2 tr3 y4 y5=>?_
    have kp3:Nj (X.env::X.outer) [T'] h2 h3:=.of fun b o hb hc=>y4 b o hb hc
    have hTn:H1 T'=none:=J1.hok.fresh hT';have hTl:=nloc J2 g8 g9;have hTp:∀ p∈X.pn++pins,p.1≠T':=fun p hp z=>by
     have:=(J1.pin p hp).1;rw [z] at this;exact absurd (lt_size this) (not_lt.mpr hT')
    have hTs:∀ b∈[T'],b=T':=fun b hb=>mem_singleton.mp hb
    have J3:Inv X pins σ1 H1 { s1 with heap:=h3 }:=J2.call' (s':={ s1 with heap:=h3 }) (ch:=[T']) rfl (by rw [hstk.1];exact Ka kp3 fun b hb=>by rw [hTs b hb];exact hTn) (Mh J2.hok kp3 (fun b hb=>by rw [hTs b hb];exact hTn) hfree) J2.bare fun b hb=>by rw [hTs b hb];exact ⟨.inr (le_trans J1.sz hT'),hTl.1,hTl.2,hTp⟩
    obtain ⟨oe',ve',_,_,e1,e2,e3,e4,_⟩:=id tr3;have el:=nloc J3 e1 e4;have efs:e∉X.fs:=fun z=>by
     obtain ⟨_,o,ho,hnf⟩:=y2.mem (show e∈(X.env::X.outer).filterMap (·.frame) from by
      rw [filterMap_cons,hstk.2];exact mem_cons_of_mem _ z)
     have ho:h3.get? e=some o:=ho;rw [e1] at ho;cases ho;exact hnf ve' e4
    have hs:∀ p∈X.pn++pins,p∈X.pn++pins++[(e,oe')]:=fun p hp=>mem_append_left _ hp
    have J4:Inv (X.inR (X.pn++pins++[(e,oe')]) e) [] σ1 H1 { s1 with heap:=h3 } :=
     ⟨⟨J3.ok.mod,J3.ok.kind,J3.ok.glob,J3.ok.blt,J3.ok.above,J3.ok.inj,J3.ok.has,J3.ok.cab,(fun z=>nomatch z),J3.ok.frames,J3.ok.stk,J3.ok.exf,J3.ok.bs,J3.ok.bsz,J3.ok.noex,J3.ok.exfs,J3.ok.funs,J3.ok.frf⟩,J3.os,J3.bare,J3.base,J3.loc,J3.cell,J3.free,J3.freeC,fun p hp=>by
      rw [append_nil] at hp;rcases mem_append.mp hp with hp | hp
      ·exact J3.pin p hp
      ·rw [mem_singleton.mp hp]
       exact ⟨e1,x.un,el.1,efs,fun v z=>by rw [e4] at z;cases z⟩,J3.hok,J3.len⟩
    have fl2:E6 fr (X.inR (X.pn++pins++[(e,oe')]) e) B A1 H1 D (kf env'):=by
     have q2:=qf.step st1;cases ek:kf env' with
     | exc e' c' f' =>
      rw [ek] at q2;exact fun A' H' σ' s' k' pins2 s5 e5 C5 d5 I5 hc5 x5 hf5 hn5=>q2 A' H' σ' s' k' pins s5 e5 C5 d5 (I5.ofR I.ok hs) hc5 ⟨x5.lo,x5.un,x5.ob.imp id fun ⟨T,c2,a1,a2,a3,a4⟩=>⟨T,c2,a1,a2,fun p hp=>a3 p (mem_append_left _ (hs p hp)),a4⟩,fun p hp=>x5.pe p (mem_append_left _ (hs p hp))⟩ hf5 hn5
     | next e'=>rw [ek] at q2;exact q2
     | brk e'=>rw [ek] at q2;exact q2
     | cont e'=>rw [ek] at q2;exact q2
     | ret d=>rw [ek] at q2;exact q2
     | no=>rw [ek] at q2;exact q2
    exact wpAny_mono (hh (X.pn++pins++[(e,oe')]) e [] _ _ _ _ J4 ⟨_,B,A1,kv1,hst,fl2⟩) (fun f s6 hs6=>hs6.ofR I.ok hs) (fun ev s6 z=>hp e ev s6 z)
   -- behind the landing
   have after:∀ (h2:Heap) (T':Addr) (c2:Option Value) (ch:List Addr),s1.heap.objs.size<=T'->X.base.StaysIn h2->h2.FunFrames X.base (X.env::X.outer)->Im h2 X.base e T' (.ref C,c2) dct .none->Nj (X.env::X.outer) ch s1.heap h2->(∀ b∈ch,H1 b=none/\X.s₀.heap.objs.size<=b/\b≠X.env.locals/\(∀ y c,X.env.cells.lookup y=some c->c≠b)/\∀ p∈X.pn++pins,p.1≠b) ->
     wpAny (model X.prog X.w) X.A (handleBy (.ref e) X.env HS) (SP X pins D) X.xe { s1 with heap:=h2 }:=by
    intro h2 T' c2 ch hT' sb2 ff2 tr2 kp hch;have J2:Inv X pins σ1 H1 { s1 with heap:=h2 }:=J1.call' (s':={ s1 with heap:=h2 }) (ch:=ch) rfl (by rw [hstk.1];exact Ka kp fun b hb=>(hch b hb).1) (Mh J1.hok kp (fun b hb=>(hch b hb).1) hfree) J1.bare fun b hb=>⟨.inr (hch b hb).2.1,(hch b hb).2.2.1,(hch b hb).2.2.2.1,(hch b hb).2.2.2.2⟩
    obtain ⟨oe,ve,oT,ts,g1,g2,g3,g4,g5,g6,g7,g8,g9,g10⟩:=id tr2;have g2:=(Prod.mk.inj g2).1;have LT:Looks (model X.prog X.w) h2 (typeOf (.ref e)) (.ref C):=g2▸(Looks.ld g1).andThen .now;have e1:=x1 c C hkn hcl;refine wpAny_handleBy_cons (codeAny_handlers_test (Ue (J2.toH (e:=e)) hg1 m1 ?_ hdb1)) (by intro z;cases z);cases z1:b1' c with
    | true =>
     rw [z1] at e1;rw [if_pos z1] at q;exact (exm_one (M:=model X.prog X.w) J2.kIn LT e1).here (suite b1 su1 hp1 k1 h1 q h2 T' c2 hT' sb2 ff2 tr2 J2)
    | false =>
     rw [if_neg (by rw [z1];exact Bool.false_ne_true)] at q;exact q.elim
   show wpAny _ _ _ _ _ _;rcases x.ob with ⟨o,vs,he,hc,hd,hda,hv1,hpl⟩ | ⟨T0,c2,hT,hTn,hTp,ht,hpl⟩
   ·refine Md hfr hl hstk.2 he hkb hen hda hv1 fun h' T' x0 x1 x2 x3 x4 x5=>?_
    refine Kp (s:={ s1 with heap:=h' }) x1 x2 x3 fun h2 y1 y2 y3 y4 y5=>?_
    rw [hc,hd] at y3;refine after h2 T' _ [e] x0 y1 y2 y3 (R8 x4 x0 y4) fun b hb=>?_
    rw [mem_singleton.mp hb];have z:=nloc J1 he hda;exact ⟨x.un,x.lo,z.1,z.2,hpn x.pe⟩
   ·refine Z1i hfr hl hstk.2 ht hkb hen fun h' T' x0 x1 x2 x3 x4 x5=>?_
    refine Kp (s:={ s1 with heap:=h' }) x1 x2 x3 fun h2 y1 y2 y3 y4 y5=>?_
    refine after h2 T' _ [e,T0] x0 y1 y2 y3 (R8 x4 x0 y4) fun b hb=>?_
    obtain ⟨oe,ve,oT,ts,g1,g2,g3,g4,g5,g6,g7,g8,g9,g10⟩:=id ht;rcases mem_cons.mp hb with z | z
    ·rw [z];have w:=nloc J1 g1 g4;exact ⟨x.un,x.lo,w.1,w.2,hpn x.pe⟩
    ·rw [mem_singleton.mp z];have w:=nloc J1 g8 g9;exact ⟨hTn,hT,w.1,w.2,hpn hTp⟩
 refine wpAny_Try_except (wpAny_mono (hb (X.pn++pins) EX [] s σ H D I.toTry ⟨env,B,A,kk,hst,flok⟩) (fun f s₁ hs=>?_) (fun e s₁ hx=>hx));cases f with
 | next=>obtain ⟨σ',H',I',q'⟩:=hs;exact wpAny_pure ⟨σ',H',I'.ofTry I.ok,q'⟩
 | brk=>obtain ⟨σ',H',I',q'⟩:=hs;exact ⟨σ',H',I'.ofTry I.ok,q'⟩
 | cont=>obtain ⟨σ',H',I',q'⟩:=hs;exact ⟨σ',H',I'.ofTry I.ok,q'⟩
 | ret u=>obtain ⟨v,σ',H',I',r',q'⟩:=hs;exact ⟨v,σ',H',I'.ofTry I.ok,r',q'⟩
end
theorem Z8k {K:Frag} {raised:List Str} {T:Str} {b:Str->Bool} (hm:mg T=some (.ref D)) (h:∀ c∈raised,∃ C,U3 K c C/\exmOne K (.ref C) (.ref D)=some (b c)):Zdf K mg T raised b:=by
 refine ⟨D,hm,fun c C hc hb=>?_⟩;obtain ⟨C',h1,h2⟩:=h c hc;unfold U3 at hb h1;rw [hb] at h1;cases h1;exact h2
section
variable {X:Cx} {m fr:Bool} {e:Expr} {es:List Expr} {f:Zzu} {fs:Zzv} {p p2 pos:Pos}
end
section
variable {X:Cx} {fr:Bool} {g h:Ev->Fl} {body:List Stmt} {b₀:Stmt} {suite:List Stmt} {T n:Str} {np hpos pos:Pos} {i:Nat} {sub:Str->Bool} {DT:Addr}
end
section
variable {X:Cx}
end
end L2
namespace L2
open PySem PySem.Spec PyProof.Rows
section
variable {X:Cx} {pins:Zzx} {σ:St} {H:Hp} {s:Shared} {a:Addr} {k:V5} {u r:Value} {kvs:List (V5×V)} {A:Around} {E:Zzz}
theorem Z5z {z:V} (I:Inv X pins σ H s) (e:H a=some (.dK kvs)) (ry:Yb (kV k) u) (rz:Yb z r) (hl:kvs.length<sizeLine)
  (h1:∀ v w' s',Tx kvs k=some v->Inv X pins σ H s'->Yb v w'->Q w' s')
  (h2:Tx kvs k=none->∀ s',Inv X pins σ (Yn H a (.dK (kvs++[(k,z)]))) s'->Q r s') :
  wpAny (model X.prog X.w) A (call (.builtin "dict.setdefault") [.ref a,u,r]) Q E s:=by
 obtain ⟨z0,hd,vs,rel,dd⟩:=Zbj I.hok e;refine call_meetsIn PySem.F.slot_dict_setdefault dd.typeIs PySem.F.entry_dict_setdefault (PySem.F.args_dict_setdefault_3 _ _ _) (kt_meets_setdefault (Wz X.prog X.w) a (Z22 ry) hd r) ⟨vs,dd,by rw [← rel.length];exact z0,fun v hv=>?_,fun hn h' dd' hs=>?_⟩
 ·cases hk:Tx kvs k with
  | none =>
   have:=Rv.none_of (o:=valueAt vs k) (by rw [← hk];exact rel.val k);rw [this] at hv;cases hv
  | some v0 =>
   obtain ⟨w',hw,rw'⟩:=Rv.some_of (v:=v0) (o:=valueAt vs k) (by rw [← hk];exact rel.val k);rw [hw] at hv;cases hv;exact h1 v0 _ _ hk (I.tok _) rw'
 ·have hno:Tx kvs k=none:=by
   cases hk:Tx kvs k with
   | none=>rfl
   | some v0 =>
    obtain ⟨w',hw,rw'⟩:=Rv.some_of (v:=v0) (o:=valueAt vs k) (by rw [← hk];exact rel.val k);rw [hw] at hn;cases hn
  have he:∃ q,h'.get? a=some q:=let ⟨q,_,_,hq,_⟩:=dd';⟨q,hq⟩
  have rp:=rel.put k rz;rw [Br z hno] at rp;exact h2 hno _ (N0 I (by rw [e];exact True.intro) hs he (Z7l (by rw [length_append];exact hl) hd rp dd'))
end
def Zgc (td ty tx:TE):TE:=fun σ H Q=>td σ H fun x H1=>∃ a,x=.ref a/\IsD H1 a/\ty σ H1 fun y H2=>tx σ H2 fun z H3=>∃ kvs k,H3 a=some (.dK kvs)/\y=kV k/\kvs.length<sizeLine /\
 (∀ v,Tx kvs k=some v->Q v H3)/\(Tx kvs k=none->Q z (Yn H3 a (.dK (kvs++[(k,z)]))))
section
variable {X:Cx} {o e f:Expr} {apos cpos:Pos} {td ty tx:TE}
theorem Z8t (ho:PE X o td) (he:PE X e ty) (hf:PE X f tx) (m:M2 X o "setdefault" apos e f cpos):PE X (.Call (.Attribute o "setdefault" apos) [e,f] [] cpos) (Zgc td ty tx):=by
 intro pins s σ H Q I h;refine wpAny_Call_method m.base m.few m.line PySem.F.plainAttrs_dict PySem.F.slot_dict_setdefault PySem.F.type_dict_setdefault (Wp (ho pins s σ H _ I h) fun u s1 ⟨x,H1,I1,rx,a,ex,d,q1⟩=>?_);subst ex;obtain rfl:u=Value.ref a:=rx;obtain ⟨t1,t2,_⟩:=Zdv I1 d;refine ⟨t1,t2,?_⟩;rw [m.trees];refine Calls.callWith_builtin rfl (Calls.evalArgs_plain (Calls.spliced_cons (Wp (he pins s1 σ H1 _ I1 q1) fun iv s2 ⟨y,H2,I2,ry,q2⟩ =>
  Calls.spliced_cons (Wp (hf pins s2 σ H2 _ I2 q2) fun fv s3 ⟨z,H3,I3,rz,kvs,k,ea,ey,hl,q3,q4⟩=>Calls.spliced_nil ?_))))
 subst ey;exact Z5z I3 ea ry rz hl (fun v w' s4 l I4 rw'=>⟨v,H3,I4,rw',q3 v l⟩) fun l s4 I4=>⟨z,_,I4,rz,q4 l⟩
end
def Qw (kvs:List (Int×Dat)) (k:Int):Option Dat:=(kvs.find? fun p=>decide (p.1=k)).map (·.2)
theorem N4 {k:Int}:∀ {kvs:List (Int×Dat)} {us:List (V5×V)},us.map (·.1)=kvs.map (fun p=>(Sum.inl p.1:V5))->W5 K H (kvs.map (·.2)) (us.map (·.2)) ->
   (Qw kvs k=none/\Tx us (.inl k)=none)\/∃ d v,Qw kvs k=some d/\Tx us (.inl k)=some v/\Rp K H d v
 | [],us,h1,_=>by
   cases us with
   | nil=>exact .inl ⟨rfl,rfl⟩
   | cons _ _=>cases h1
 | (n,d)::kvs,us,h1,h2=>by
   cases us with
   | nil=>cases h1
   | cons p us =>
     obtain ⟨kp,v⟩:=p;rw [map_cons,map_cons] at h1 h2;obtain ⟨e1,e2⟩:=List.cons.inj h1;dsimp only at e1;subst e1;obtain ⟨v',r',q1,q2,q3⟩:=Zp h2;obtain ⟨z1,z2⟩:=List.cons.inj q1;dsimp only at z1;subst z1 z2;by_cases h:n=k
     · subst h
       exact .inr ⟨d,v,by unfold Qw;rw [find?_cons];simp,Hv rfl,q2⟩
     · have n1:Qw ((n,d)::kvs) k=Qw kvs k:=by unfold Qw;rw [find?_cons];simp [h]
       have n2:Tx ((Sum.inl n,v)::us) (.inl k)=Tx us (.inl k):=Hl (fun z=>h (Sum.inl.inj z));rw [n1,n2];exact N4 e2 q3
theorem EnvOk.dikA {kvs:List (Int×Dat)} (k:EnvOk K B A H σ env) (h:env[i]?=some (.gx (.dik kvs))) :
  ∃ (a:Addr) (us:List (V5×V)),σ[i]?=some (some (.ref a))/\H a=some (.dK us)/\us.map (·.1)=kvs.map (fun p=>(Sum.inl p.1:V5))/\W5 K (av H A) (kvs.map (·.2)) (us.map (·.2)):=by
 obtain ⟨own,h1,h2,h4⟩:=k.sl;obtain ⟨x,q1,v,e1,a,us,e2,e3,e4,e5,e6,e7⟩:=h4 i _ h;subst e1 e2;exact ⟨a,us,q1,e5,e6,e7⟩
section
variable {X:Cx} {pos:Pos} {ix:Expr} {f:Zzu} {g:Ev->Fl} {fr:Bool} {body:List Stmt}
def Zat (i:Nat):Ev->Fl:=fun env=>.next (env.set i (.gx (.dik [])))
theorem Zeo (i:Nat) {x:Str} {dpos:Pos} (hN:X.N.Nodup) (hi:X.N[i]?=some x) (hx:B2 X.env.scope x) (hs:swapsWith (.Dict [] [] dpos) (some (.Name x pos')) pos.line X.env=pure false:=by rfl)
  (hf:X.fn x=true\/X.env.scope.names.lookup x=some .local:=by first | exact .inl rfl | exact .inr rfl | assumption):E8 fr X (.Assign [.Name x pos'] (.Dict [] [] dpos) pos) (Zat i):=(Ip hN hi hx Z6n hs hf).weak fun D σ H zz=>by
 obtain ⟨env,B,A,k,hst,q⟩:=zz;intro p hp;have hS:GOk X.K (Nb A (fun b=>b==p)) (Yn H p (.dK [])) (fun b=>(b==p)=true) (.dik []) (.ref p):=⟨p,[],rfl,by simp,zero_le _,Zg,rfl,V8⟩;obtain ⟨h1,h2⟩:=k.putG hst i (Zo.new hp) (fun b hb=>by rw [eq_of_beq hb];exact hp) (fun b hb=>by rw [eq_of_beq hb,Zg];trivial) hS;exact q _ _ _ h1 h2
def Aj (i:Nat) (fk:Zzu) (j:Nat) (g:Ev->Fl):Ev->Fl:=fun env=>match env[i]?,fk env,dV j env with
 | some (.gx (.dik kvs)),some (.int k),some d=>if kvs.length<sizeLine then (match Qw kvs k with
  | some d'=>(match Lc d' d with | some (.bl true)=>g env | some (.bl false)=>.next env | _=>.no)
  | none=>(match Lc d d with | some (.bl true)=>g (env.set i (.gx (.dik (kvs++[(k,d)])))) | some (.bl false)=>.next (env.set i (.gx (.dik (kvs++[(k,d)])))) | _=>.no)) else .no
 | _,_,_=>.no
theorem Zc7 {g:Slt} (h:i≠j):dV j (env.set i g)=dV j env:=by unfold dV;rw [List.getElem?_set_ne h]
theorem Ze4 (i j:Nat) {x y:Str} {q q2:Pos} (hij:i≠j) (hu:X.A.units+64<cLine) (ha:Wj true X ix f) (hb:Wj false X (.Name y q) (dV j)) (ho:Wj true X (.Name y q2) (dV j)) (hg:On fr X body g)
  (hN:X.N[i]?=some x:=by rfl) (hv:Vis X.env.scope x:=by first | exact Or.inl rfl | exact Or.inr (Or.inl rfl) | exact Or.inr (Or.inr rfl)) (hd:(x==("__debug__" : Str))=false:=by decide) (hcd:(x==("__classdict__" : Str))=false:=by decide)
  (m:M2 X (.Name x p) "setdefault" apos ix (.Name y q) cpos:=by exact ⟨rfl,rfl,rfl,rfl⟩) :
  E8 fr X (.If (.Compare (.Call (.Attribute (.Name x p) "setdefault" apos) [ix,.Name y q] [] cpos) [.NotEq] [.Name y q2] pos') body [] pos) (Aj i f j g) :=
 (Zbb (Z1j (Ap hu) (Z8t (Qs hN hv hd hcd) ha hb m) ho (Ya _)) hg (Vi (fr:=fr))).weak fun D σ H zz=>by
 obtain ⟨env,B,A,k,hst,q⟩:=zz;unfold Aj at q;split at q
 ·rename_i kvs kk d h1 h2 h3
  split at q
  ·rename_i hlen
   obtain ⟨a,us,s1,s2,s3,s4⟩:=k.dikA h1;refine ⟨.ref a,s1,a,rfl,.inl ⟨us,.inl s2⟩,env,B,A,.int kk,k,h2,fun yv H2 sm1 r1=>⟨env,B,A,d,k.mono sm1,h3,fun zv H3 sm2 r2=>?_⟩⟩;have sm:=sm1.trans sm2;have k3:=k.mono sm;have hul:us.length=kvs.length:=by have:=congrArg List.length s3;rwa [length_map,length_map] at this
   refine ⟨us,.inl kk,sm _ _ s2,r1.pk.int,by rw [hul];exact hlen,fun v hv=>?_,fun hn=>?_⟩
   ·rcases N4 (k:=kk) s3 s4 with ⟨z1,z2⟩ | ⟨d',v',z1,z2,z3⟩
    ·rw [z2] at hv;cases hv
    ·rw [z2] at hv;cases hv
     rw [z1] at q;dsimp only at q;refine ⟨env,B,A,d,k3,h3,fun u H4 sm4 r4=>?_⟩;have sm5:=sm.trans sm4;split at q
     ·rename_i hne
      exact ⟨A,d',d,.bl true,(k.mono sm5).mu,hne,.inl (z3.mono (We sm5)),r4.pk,fun w H5 sm6 r5=>⟨true,r5.pk.bl,Za5 ⟨env,B,A,k.mono (sm5.trans sm6),hst,q.step (Step.same (sm5.trans sm6))⟩⟩⟩
     ·rename_i hne
      exact ⟨A,d',d,.bl false,(k.mono sm5).mu,hne,.inl (z3.mono (We sm5)),r4.pk,fun w H5 sm6 r5=>⟨false,r5.pk.bl,Z9n ⟨env,B,A,k.mono (sm5.trans sm6),hst,E6.step (r:=.next env) q (Step.same (sm5.trans sm6))⟩⟩⟩
     ·exact q.elim
   ·rcases N4 (k:=kk) s3 s4 with ⟨z1,z2⟩ | ⟨d',v',z1,z2,z3⟩
    ·rw [z1] at q
     dsimp only at q;obtain ⟨v0,o,m1,m2,m3,m4⟩:=k3.gx hst h1;rw [s1] at m1;cases m1;obtain ⟨a',us',y1,y2,y3,y4,y5,y6⟩:=m2;cases y1;have eus:us'=us:=by
      have:=sm _ _ s2;rw [y4] at this;exact HO.dK.inj (Option.some.inj this)
     subst eus;have hA:A a=true:=(m3 a y2).1;have avs:Zo (av H3 A) (av (Yn H3 a (.dK (us'++[(Sum.inl kk,zv)]))) A):=fun c o2 ec=>by
      obtain ⟨x1,x2⟩:=Qd ec;have hc:c≠a:=by intro z;rw [z,hA] at x1;cases x1
      exact Wn (by rw [Za hc];exact x2) x1
     have rz:Rp X.K (av (Yn H3 a (.dK (us'++[(Sum.inl kk,zv)]))) A) d zv:=(show Rp X.K (av H3 A) d zv from r2).mono avs;have hg:GOk X.K A (Yn H3 a (.dK (us'++[(Sum.inl kk,zv)]))) o (.dik (kvs++[(kk,d)])) (.ref a):=by
      refine ⟨a,us'++[(Sum.inl kk,zv)],rfl,y2,by rw [length_append];exact hlen,Zg,by rw [map_append,map_append,s3];rfl,?_⟩;rw [map_append,map_append];exact W6 (y6.mono avs) (J9 rz)
     obtain ⟨w1,w2⟩:=m4 a (.dK (us'++[(Sum.inl kk,zv)])) _ y2 trivial hg;refine ⟨_,B,A,d,w2,(Zc7 hij).trans h3,fun u H4 sm4 r4=>?_⟩;split at q
     ·rename_i hne
      exact ⟨A,d,d,.bl true,(w2.mono sm4).mu,hne,.inl (rz.mono (We sm4)),r4.pk,fun w H5 sm6 r5=>⟨true,r5.pk.bl,Za5 ⟨_,B,A,w2.mono (sm4.trans sm6),hst,q.step (((Step.same sm).trans w1).trans (Step.same (sm4.trans sm6)))⟩⟩⟩
     ·rename_i hne
      exact ⟨A,d,d,.bl false,(w2.mono sm4).mu,hne,.inl (rz.mono (We sm4)),r4.pk,fun w H5 sm6 r5=>⟨false,r5.pk.bl,Z9n ⟨_,B,A,w2.mono (sm4.trans sm6),hst,E6.step (r:=.next _) q (((Step.same sm).trans w1).trans (Step.same (sm4.trans sm6)))⟩⟩⟩
     ·exact q.elim
    ·rw [z2] at hn;cases hn
  ·exact q.elim
 ·exact q.elim
end
def Y1:=@Z74 true
def Z3:=@xv true
def Z5:=@Zg8 true
def V9:=@xbl false
def Ug:=@Z74 false
def Ww:=@PNd.x true
def Qj:=@Zj0 false
def Zl:=@xix true
def Z6:=@xv false
def Zy {X:Cx}:=@Zgi X true
def Zu:=@xix false
def W7:=@Zg8 false
def Zn:=@xop false
def Zi:=@xop true
def Zm {X:Cx}:=@Zgi X false
def Mw:=@PNd.x false
def Y8:=@Zge false
def R5:=@Zge true
def Yr:=@Z7a false
def Jr:=@Nm true
end L2
namespace K74
open PySem PySem.Spec PyProof.Rows L2
abbrev N0_:List Str:=["_law_script","_law_first","_law_n","_law_many","_law_order_here","_law_size","_law_cell","_law_pairs","_law_w","_law_one","_law_two","_law_takes","_law_fills","_law_marks","_law_spots","_law_i","_law_j","_law_code","_law_seen","_law_steps","_law_d","_law_turn","_law_word_here","_law_wires"]
abbrev N1_:List Str:=["_law_script","_law_n","_law_cell","_law_graph_here","_law_some","_law_first","_law_second","_law_name","_law_most","_law_one","_law_other","_law_got"]
abbrev N2_:List Str:=["_law_script","_law_first","_law_many","_law_size","_law_pairs","_law_k","_law_cell","_law_i","_law_j"]
abbrev N3_:List Str:=["_law_cell","_law_k","_law_letters","_law_size","_law_at","_law_word_here","_law_j","_law_shift"]
abbrev N4_:List Str:=["_law_script","_law_first","_law_n","_law_order_here","_law_w","_law_cell","_law_at","_law_far"]
abbrev N5_:List Str:=["_law_cell","_law_wires","_law_letters","_law_there","_law_k","_law_word_here","_law_j"]
abbrev N6_:List Str:=["_law_graph_here","_law_most","_law_got","_law_wanted","_law_stand","_law_row"]
abbrev N7_:List Str:=["graph","name","first","second","wire","spots","rise","fall","steps"]
abbrev N8_:List Str:=["_law_graph_here","_law_stand","_law_wire","_law_k","_law_step"]
abbrev N9_:List Str:=["graph","most","found","pairs","n","stand","here","by","lost"]
abbrev N10_:List Str:=["graph","most","found","seen","at","here","step","stand"]
abbrev N11_:List Str:=["_law_graph_here","_law_stand","_law_k","_law_takes"]
abbrev N12_:List Str:=["_law_w","_law_word_here","_law_script","_law_first"]
abbrev N13_:List Str:=["_law_w","_law_wire","_law_graph_here","_law_stand"]
abbrev N14_:List Str:=["_law_script","_law_first","_law_many","_law_size"]
abbrev N15_:List Str:=["Broken","Crowded","TooMany","CalledOff","Clash"]
abbrev N16_:List Str:=["graph","found","wires","wanted","told","n","m"]
abbrev N17_:List Str:=["_law_script","_law_first","_law_n","_law_many"]
abbrev N18_:List Str:=["graph","stand","step","wire","left","fills"]
abbrev N19_:List Str:=["_law_graph_here","_law_stand","_law_wire"]
abbrev N20_:List Str:=["_law_graph_here","_law_wire","_law_wires"]
abbrev N21_:List Str:=["_law_graph_here","_law_stand","_law_k"]
abbrev N22_:List Str:=["graph","name","first","second","most"]
abbrev N23_:List Str:=["_law_k","_law_step","_law_graph_here"]
abbrev N24_:List Str:=["_law_script","_law_first","_law_n"]
abbrev N25_:List Str:=["given","made","up","down","start"]
abbrev N26_:List Str:=["_law_pair","_law_one","_law_two"]
abbrev N27_:List Str:=["graph","name","first","second"]
abbrev N28_:List Str:=["_law_graph_here","_law_wire"]
abbrev N29_:List Str:=["_law_graph_here","_law_most"]
abbrev N30_:List Str:=["place","wire","one","other"]
abbrev N31_:List Str:=["graph","found","at","step"]
abbrev N32_:List Str:=["graph","stand","wire","up"]
abbrev N33_:List Str:=["self","one","other","wire"]
abbrev N34_:List Str:=["number","step","wire","up"]
abbrev N35_:List Str:=["steps","first","second"]
abbrev N36_:List Str:=["_law_cell","_law_wires"]
abbrev N37_:List Str:=["self","way","lost","by"]
abbrev N38_:List Str:=["graph","stand","wires"]
abbrev N39_:List Str:=["stand","graph","wires"]
abbrev N40_:List Str:=["graph","stand","step"]
abbrev N41_:List Str:=["graph","stand","wire"]
abbrev N42_:List Str:=["_law_script","_law_k"]
abbrev N43_:List Str:=["step","graph","stand"]
abbrev N44_:List Str:=["wire","graph","stand"]
abbrev N45_:List Str:=["wires","one","other"]
abbrev N46_:List Str:=["graph","used","step"]
abbrev N47_:List Str:=["_law_k","_law_pairs"]
abbrev N48_:List Str:=["_law_cell","_law_k"]
abbrev N49_:List Str:=["graph","wire","up"]
abbrev N50_:List Str:=["graph","by","lost"]
abbrev N51_:List Str:=["number","place"]
abbrev N52_:List Str:=["graph","stand"]
abbrev N53_:List Str:=["graph","found"]
abbrev N54_:List Str:=["graph","wire"]
abbrev N55_:List Str:=["graph","step"]
abbrev N56_:List Str:=["graph","most"]
abbrev N57_:List Str:=["graph","name"]
abbrev N58_:List Str:=["step","spot"]
abbrev N59_:List Str:=["_law_script"]
abbrev N60_:List Str:=["self","way"]
abbrev N61_:List Str:=["found","n"]
abbrev N62_:List Str:=["graph"]
def c_LETTERS:Dat:=.str "abcdefghijklmnopqrstuvwxyz"
def c_LONGEST_NAME:Dat:=.int 8
def c_MANY_SPOTS:Dat:=.int 64
def c_MOST_STEPS_AHEAD:Dat:=.int 22
def c_MOST_WIRES_AHEAD:Dat:=.int 9
def c_WORDS:Dat:=.tup [.str "given",.str "made",.str "up",.str "down",.str "start"]
def Jf:Ev->Fl:=(Zf (Ec (L6 (dB (dO ltD (dF Uh (Z1 (dV 0) Zc)) (dC (.int 1)))) (L6 (dB (dO gtD (dF Uh (Z1 (dV 0) Zc)) (dC c_LONGEST_NAME))) (dB (dO inF (dV 0) (dC c_WORDS))))) (Yk (dC (.bl false))) Qq)
 (Yk (dF Z6h (Z1 (dL (Vm (Zcs (dV 0)) [none] (Y5 0) Ux (dO inF (dV 0) (dC c_LETTERS)))) Zc))))
def Uk:List Dat->Rs:=Y7 1 1 Jf
def Db:Ev->Fl:=(Yk (dL (Vm (Th (dO Yg (dV 0) (dC (.int 0)))) [none,none] (Sx 2 (Yh (Y5 0) (Yh (Y5 1) Qf))) Ux (dV 0))))
def Lg:List Dat->Rs:=Y7 1 1 Db
def Jl:Ev->Fl:=(Yk (dO Hr (dO Yg (dO Yg (dO Yg (dV 0) (dC (.int 0))) (dV 1)) (dC (.int 1))) (dC (.str "made"))))
def V4:List Dat->Rs:=Y7 2 2 Jl
def Kd:Ev->Fl:=(Yk (dL (Vm (Ut (Z1 (dF Uh (Z1 (dO Yg (dV 0) (dC (.int 0))) Zc)) Zc)) [none,some 0] (Y5 0) (dT (Zt V4 (Z1 (dV 1) (Z1 (dV 0) Zc)))) (dV 0))))
def Xe:List Dat->Rs:=Y7 1 1 Kd
def Q2:Ev->Fl:=(Yk (dL (Vm (G1 (dO Yg (dV 0) (dC (.int 1)))) [none,none,some 1,some 2] (Sx 2 (Yh (Y5 0) (Yh (Y5 1) Qf))) (Em (dB (dO Hr (dO Yg (dV 1) (dC (.int 0))) (dV 2))) (dB (dO Hr (dO Yg (dV 1) (dC (.int 1))) (dV 3)))) (dV 0))))
def S7:List Dat->Rs:=Y7 3 3 Q2
def Ji:Ev->Fl:=(Yk (dO Yg (dO Yg (dO Yg (dV 0) (dC (.int 1))) (dV 1)) (dC (.int 0))))
def Vd:List Dat->Rs:=Y7 2 2 Ji
def Jm:Ev->Fl:=(Yk (dO Yg (dO Yg (dO Yg (dV 0) (dC (.int 1))) (dV 1)) (dC (.int 1))))
def Dp:List Dat->Rs:=Y7 2 2 Jm
def Q7:Ev->Fl:=(Yk (dO Yg (dO Yg (dO Yg (dV 0) (dC (.int 1))) (dV 1)) (dC (.int 2))))
def Yo:List Dat->Rs:=Y7 2 2 Q7
def Ti:Ev->Fl:=(Yk (dO Yg (dO Yg (dO Yg (dV 0) (dC (.int 1))) (dV 1)) (dC (.int 3))))
def Vo:List Dat->Rs:=Y7 2 2 Ti
def K2:Ev->Fl:=(Zf (Y3 1 (dC (.int 0)))
 (Zf (Q1 (Th (dV 0)) (Y5 2) (Y3 1 (dO orD (dV 1) (dO Fj (dC (.int 1)) (dV 2)))))
 (Yk (dV 1))))
def T7:List Dat->Rs:=Y7 3 1 K2
def Jg:Ev->Fl:=(Yk (dO Hr (dO Oa (dO Z3n (dV 0) (dV 1)) (dC (.int 1))) (dC (.int 1))))
def Tl:List Dat->Rs:=Y7 2 2 Jg
def Pa:Ev->Fl:=(Zf (Y3 3 (Zt T7 (Z1 (Zt Yo (Z1 (dV 0) (Z1 (dV 2) Zc))) Zc)))
 (Yk (dO Hr (dO Oa (dO Yg (dV 1) (dC (.int 0))) (dV 3)) (dV 3))))
def Kj:List Dat->Rs:=Y7 4 3 Pa
def Uw:Ev->Fl:=(Zf (Y3 3 (Zt Vd (Z1 (dV 0) (Z1 (dV 2) Zc))))
 (Zf (Ec (dB (dO Hr (Zt Tl (Z1 (dO Yg (dV 1) (dC (.int 1))) (Z1 (dV 3) Zc))) (Zt Dp (Z1 (dV 0) (Z1 (dV 2) Zc))))) (Vl "Broken" (gW "way") (Z1 (dL (Qx (Z1 (dV 2) Zc))) Zc)) Qq)
 (Zf (Y3 4 (dO Oa (dO Yg (dV 1) (dC (.int 0))) (dU Za2 (Zt T7 (Z1 (Zt Yo (Z1 (dV 0) (Z1 (dV 2) Zc))) Zc)))))
 (Zf (Y3 5 (Zt T7 (Z1 (Zt Vo (Z1 (dV 0) (Z1 (dV 2) Zc))) Zc)))
 (Zf (Ec (dB (dO Lc (dO Oa (dV 4) (dV 5)) (dC (.int 0)))) (Vl "Crowded" (gW "way") (Z1 (dL (Qx (Z1 (dV 2) Zc))) Zc)) Qq)
 (Yk (V7 (Z1 (dO orD (dV 4) (dV 5)) (Z1 (dO Z8n (dO Yg (dV 1) (dC (.int 1))) (dO Fj (dC (.int 1)) (dV 3))) Zc)))))))))
def Sl:List Dat->Rs:=Y7 6 3 Uw
def Tt:Ev->Fl:=(Yk (dL (Vm (Ut (Z1 (dF Uh (Z1 (dO Yg (dV 0) (dC (.int 1))) Zc)) Zc)) [none,some 0,some 1] (Y5 0) (dT (Zt Kj (Z1 (dV 1) (Z1 (dV 2) (Z1 (dV 0) Zc))))) (dV 0))))
def Tj:List Dat->Rs:=Y7 2 2 Tt
def Pc:Ev->Fl:=(Zf (D6 2 (Qx Zc))
 (Zf (Y3 3 (dV 1))
 (Zf (Sw (dB (dO Ze8 (dO Yg (dO Yg (dV 0) (dV 3)) (dC (.int 2))) (dC .non))) (Zf (Sd 2 Ua (Z1 (dO Yg (dO Yg (dV 0) (dV 3)) (dC (.int 3))) Zc))
 (Y3 3 (dO Yg (dO Yg (dV 0) (dV 3)) (dC (.int 2))))))
 (Yk (dL (dLR (Z1 (dP 2) Zc)))))))
def Sf:List Dat->Rs:=Y7 4 2 Pc
def Q5:Ev->Fl:=(Bz N15_ "Broken" "Crowded" (Ai Sl (Z1 (dV 0) (Z1 (dS Ct (dO Yg (dV 1) (dV 2)) Sc (Jv (dC (.int 2)))) (Z1 (dV 3) Zc)))) (Vl "Broken" (gW "way") (Z1 (dL (dO O7 (Zt Sf (Z1 (dV 1) (Z1 (dV 2) Zc))) (dL (Qx (Z1 (dV 3) Zc))))) Zc)) (Vl "Crowded" (gW "way") (Z1 (dL (dO O7 (Zt Sf (Z1 (dV 1) (Z1 (dV 2) Zc))) (dL (Qx (Z1 (dV 3) Zc))))) Zc)))
def R3:List Dat->Rs:=Y7 4 4 Q5
def Mt:Ev->Fl:=(Zf (D6 2 (Qx (Z1 (V7 (Z1 (dO Yg (dV 0) (dC (.int 2))) (Z1 (dO Yg (dV 0) (dC (.int 3))) (Z1 (dC .non) (Z1 (dC .non) Zc))))) Zc)))
 (Zf (C4 3 (V7 (Z1 (dO Yg (dV 0) (dC (.int 2))) (Z1 (dO Yg (dV 0) (dC (.int 3))) Zc))) (dC (.bl true)))
 (Zf (Y3 4 (dC (.int 0)))
 (Zf (Sw (dB (dO ltD (dV 4) (dF Uh (Z1 (dP 2) Zc)))) (Zf (Y3 5 (Zt Tj (Z1 (dV 0) (Z1 (dS Ct (dO Yg (dP 2) (dV 4)) Sc (Jv (dC (.int 2)))) Zc))))
 (Zf (Q1 (Th (dV 5)) (Y5 6) (Zf (Eg 7 (Hh R3) (Z1 (dV 0) (Z1 (dP 2) (Z1 (dV 4) (Z1 (dV 6) Zc)))))
 (Zf (Ec (dB (Z5u false 3 (dV 7))) (fun env=>.cont env) Qq)
 (Zf (Ec (dB (dO geD (dF Uh (Z1 (dP 2) Zc)) (dV 1))) (Vl "TooMany" gZ Zc) Qq)
 (Zf (Nx 3 (dV 7) (dC (.bl true)))
 (Sd 2 Ua (Z1 (V7 (Z1 (dO Yg (dV 7) (dC (.int 0))) (Z1 (dO Yg (dV 7) (dC (.int 1))) (Z1 (dV 4) (Z1 (dV 6) Zc))))) Zc)))))))
 (Z55 4 (dC (.int 1))))))
 (Ik 2)))))
def Jn:List Dat->Rs:=Y7 8 2 Mt
def Ur:Ev->Fl:=(Yk (dF Z5i (Z1 (dL (Vm (Th (Zt S7 (Z1 (dV 0) (Z1 (dV 2) (Z1 (dV 3) Zc))))) [none,some 0,some 1] (Y5 0) Ux (Zt Kj (Z1 (dV 1) (Z1 (dV 2) (Z1 (dV 0) Zc)))))) Zc)))
def Qp:List Dat->Rs:=Y7 4 4 Ur
def Dd:Ev->Fl:=(Zf (Ec (dT (Zt Qp (Z1 (dV 0) (Z1 (dV 1) (Z1 (dV 2) (Z1 (dC (.bl true)) Zc)))))) (Yk (dC (.int 1))) Qq)
 (Zf (Ec (dT (Zt Qp (Z1 (dV 0) (Z1 (dV 1) (Z1 (dV 2) (Z1 (dC (.bl false)) Zc)))))) (Yk (dU Zen (dC (.int 1)))) Qq)
 (Yk (dC (.int 0)))))
def Hx:List Dat->Rs:=Y7 3 3 Dd
def Iz:Ev->Fl:=(Zf (Y3 3 (dO Oa (Zt T7 (Z1 (Zt Yo (Z1 (dV 0) (Z1 (dV 1) Zc))) Zc)) (dU Za2 (Zt T7 (Z1 (Zt Vo (Z1 (dV 0) (Z1 (dV 1) Zc))) Zc)))))
 (Yk (dO Lc (dO Oa (dV 3) (Zt T7 (Z1 (Zt Yo (Z1 (dV 0) (Z1 (dV 2) Zc))) Zc))) (dC (.int 0)))))
def F6:List Dat->Rs:=Y7 4 3 Iz
def V0:Ev->Fl:=(Yk (dOr (Zt V4 (Z1 (dV 0) (Z1 (Zt Vd (Z1 (dV 0) (Z1 (dV 1) Zc))) Zc))) (Zt V4 (Z1 (dV 0) (Z1 (Zt Vd (Z1 (dV 0) (Z1 (dV 2) Zc))) Zc)))))
def T4:List Dat->Rs:=Y7 3 3 V0
def Mx:Ev->Fl:=(Zf (D6 1 (Qx Zc))
 (Zf (Q1 (Ut (Z1 (dF Uh (Z1 (dO Yg (dV 0) (dC (.int 1))) Zc)) Zc)) (Y5 2) (Q1 (Ut (Z1 (dF Uh (Z1 (dO Yg (dV 0) (dC (.int 1))) Zc)) Zc)) (Y5 3) (Ec (Em (dB (dO Lc (dV 2) (dV 3))) (Em (dT (Zt T4 (Z1 (dV 0) (Z1 (dV 2) (Z1 (dV 3) Zc))))) (dT (Zt F6 (Z1 (dV 0) (Z1 (dV 2) (Z1 (dV 3) Zc))))))) (Sd 1 Ua (Z1 (V7 (Z1 (dV 2) (Z1 (dV 3) Zc))) Zc)) Qq)))
 (Ik 1)))
def Gm:List Dat->Rs:=Y7 4 1 Mx
def Ma:Ev->Fl:=(Zf (Eg 2 Jn (Z1 (dV 0) (Z1 (dV 1) Zc)))
 (Zf (Y3 3 (Zt Gm (Z1 (dV 0) Zc)))
 (Zf (Q1 (G1 (dV 2)) (Sx 2 (Yh (Y5 4) (Yh (Y5 5) Qf))) (Zf (Y3 6 (Zt Tj (Z1 (dV 0) (Z1 (dS Ct (dV 5) Sc (Jv (dC (.int 2)))) Zc))))
 (Q1 (Th (dV 3)) (Sx 2 (Yh (Y5 7) (Yh (Y5 8) Qf))) (Ec (Em (dB (dO inF (dV 7) (dV 6))) (dB (dO inF (dV 8) (dV 6)))) (Vl "CalledOff" (gC "way" "lost" "by") (Z1 (Zt Sf (Z1 (dV 2) (Z1 (dV 4) Zc))) (Z1 (dV 8) (Z1 (dV 7) Zc)))) Qq))))
 (Yk (dV 2)))))
def Vj:List Dat->Rs:=Y7 9 2 Ma
def Tu:Ev->Fl:=(Yk (dL (Vm (Th (dV 2)) [none,some 0,some 1] (Y5 0) Ux (Zt Hx (Z1 (dV 1) (Z1 (dV 2) (Z1 (dV 0) Zc)))))))
def Jq:List Dat->Rs:=Y7 3 3 Tu
def R0:Ev->Fl:=(Yk (dL (Vm (G1 (dV 0)) [none,none,some 1,some 2] (Sx 2 (Yh (Y5 0) (Yh (Y5 1) Qf))) (dB (dO Lc (dO Yg (dV 2) (dV 0)) (dO Yg (dV 3) (dV 0)))) (dV 1))))
def Ij:List Dat->Rs:=Y7 3 3 R0
def Wq:Ev->Fl:=(Zf (Y3 2 (Zt Xe (Z1 (dV 0) Zc)))
 (Zf (Y3 3 (dL (Vm (Th (dV 1)) [none,some 0,some 2] (Y5 0) Ux (Zt Jq (Z1 (dV 1) (Z1 (dS Ct (dV 0) Sc (Jv (dC (.int 2)))) (Z1 (dV 2) Zc)))))))
 (Zf (D6 4 (Qx Zc))
 (Zf (Q1 (Ut (Z1 (dF Uh (Z1 (dV 1) Zc)) Zc)) (Y5 5) (Q1 (Bl (Z1 (dO Wk (dV 5) (dC (.int 1))) (Z1 (dF Uh (Z1 (dV 1) Zc)) Zc))) (Y5 6) (Ec (dB (dO Hr (dO Yg (dO Yg (dV 1) (dV 5)) (dC (.int 1))) (dO Yg (dO Yg (dV 1) (dV 6)) (dC (.int 1))))) (Sd 4 Lw (Z1 (dL (Vm (Th (Zt Ij (Z1 (dV 2) (Z1 (dO Yg (dV 3) (dV 5)) (Z1 (dO Yg (dV 3) (dV 6)) Zc))))) [none,some 5,some 6] (Y5 0) Ux (V7 (Z1 (dV 1) (Z1 (dV 2) (Z1 (dV 0) Zc)))))) Zc)) Qq)))
 (Ik 4)))))
def Uf:List Dat->Rs:=Y7 7 2 Wq
def Wt:Ev->Fl:=(Zf (Eg 2 Vj (Z1 (dV 0) (Z1 (dV 1) Zc)))
 (Zf (Y3 3 (Zt Uf (Z1 (dV 0) (Z1 (dV 2) Zc))))
 (Zf (Ec (dB (dO gtD (dF Uh (Z1 (dV 3) Zc)) (dC (.int 0)))) (Zf (Y3 4 (dO Yg (dV 3) (dC (.int 0))))
 (Vl "Clash" (gK "one" "other" "wire") (Z1 (Zt Sf (Z1 (dV 2) (Z1 (dO Yg (dV 4) (dC (.int 0))) Zc))) (Z1 (Zt Sf (Z1 (dV 2) (Z1 (dO Yg (dV 4) (dC (.int 1))) Zc))) (Z1 (dO Yg (dV 4) (dC (.int 2))) Zc))))) Qq)
 (Yk (dV 2)))))
def V6:List Dat->Rs:=Y7 5 2 Wt
def Vz:Ev->Fl:=(Zf (Y3 1 (dO Yg (dV 0) (dC (.int 2))))
 (Zf (Q1 (Ut (Z1 (dF Uh (Z1 (dO Yg (dV 0) (dC (.int 1))) Zc)) Zc)) (Y5 2) (Y3 1 (dO orD (dO orD (dV 1) (Zt T7 (Z1 (Zt Yo (Z1 (dV 0) (Z1 (dV 2) Zc))) Zc))) (Zt T7 (Z1 (Zt Vo (Z1 (dV 0) (Z1 (dV 2) Zc))) Zc)))))
 (Yk (dL (Vm (Ut (Z1 (dC c_MANY_SPOTS) Zc)) [none,some 1] (Y5 0) (Eh (dT (Zt Tl (Z1 (dV 1) (Z1 (dV 0) Zc))))) (dV 0))))))
def Vy:List Dat->Rs:=Y7 3 1 Vz
def Tr:Ev->Fl:=(Zf (Ec (L6 (dB (dO gtD (dF Uh (Z1 (dO Yg (dV 0) (dC (.int 0))) Zc)) (dC c_MOST_WIRES_AHEAD))) (dB (dO gtD (dF Uh (Z1 (dO Yg (dV 0) (dC (.int 1))) Zc)) (dC c_MOST_STEPS_AHEAD)))) (Yk (dC (.bl false))) Qq)
 (Yk (dO geD (dF Uh (Z1 (Zt Vy (Z1 (dV 0) Zc)) Zc)) (dC (.int 2)))))
def Rz:List Dat->Rs:=Y7 1 1 Tr
def Uq:Ev->Fl:=(Ec (L6 (Eh (dT (Zt Uk (Z1 (dV 1) Zc)))) (L6 (dB (dO inF (dV 1) (Zt Lg (Z1 (dV 0) Zc)))) (Eh (dT (Zt Rz (Z1 (dV 0) Zc)))))) sNo Qq)
def M8:List Dat->Rs:=Y7 2 2 Uq
def Ts:Ev->Fl:=(Ec (L6 (dB (dO Hr (dV 1) (dV 2))) (L6 (dB (dO Ep (dV 1) (dV 0))) (dB (dO Ep (dV 2) (dV 0))))) sNo Qq)
def Rb:List Dat->Rs:=Y7 3 3 Ts
def Jk:Ev->Fl:=(Yk (V7 (Z1 (dO Yg (dV 0) (dC (.int 0))) (Z1 (dO Yg (dV 0) (dC (.int 1))) (Z1 (V7 (Z1 (dV 1) Zc)) (Z1 (dO Yg (dV 0) (dC (.int 3))) Zc))))))
def R7:List Dat->Rs:=Y7 2 2 Jk
def Vx:Ev->Fl:=(Yk (dL (Vm (Ut (Z1 (dF Uh (Z1 (dO Yg (dV 0) (dC (.int 1))) Zc)) Zc)) [none,some 0] (Y5 0) (dT (Zt V4 (Z1 (dV 1) (Z1 (Zt Vd (Z1 (dV 1) (Z1 (dV 0) Zc))) Zc)))) (dV 0))))
def J6:List Dat->Rs:=Y7 1 1 Vx
def R9:Ev->Fl:=(Zf (P9 (Zt M8 (Z1 (dV 0) (Z1 (dV 1) Zc))))
 (Zf (P9 (Zt Rb (Z1 (Zt J6 (Z1 (dV 0) Zc)) (Z1 (dV 2) (Z1 (dV 3) Zc)))))
 (Zf (Y3 4 (dF Uh (Z1 (dO Yg (dV 0) (dC (.int 0))) Zc)))
 (Zf (Y3 5 (Zt Vy (Z1 (dV 0) Zc)))
 (Zf (Y3 6 (V7 (Z1 (dV 4) (Z1 (dC (.bl true)) (Z1 (Zt Yo (Z1 (dV 0) (Z1 (dV 2) Zc))) (Z1 (V7 (Z1 (dO Yg (dV 5) (dC (.int 0))) Zc)) Zc))))))
 (Zf (Y3 7 (V7 (Z1 (dV 4) (Z1 (dC (.bl false)) (Z1 (Zt Yo (Z1 (dV 0) (Z1 (dV 3) Zc))) (Z1 (V7 (Z1 (dO Yg (dV 5) (dC (.int 1))) Zc)) Zc))))))
 (Zf (D6 8 (dF Z1v (Z1 (dO Yg (dV 0) (dC (.int 1))) Zc)))
 (Zf (Ju 8 (dV 2) (Zt R7 (Z1 (dO Yg (dP 8) (dV 2)) (Z1 (dO Yg (dV 5) (dC (.int 0))) Zc))))
 (Zf (Ju 8 (dV 3) (Zt R7 (Z1 (dO Yg (dP 8) (dV 3)) (Z1 (dO Yg (dV 5) (dC (.int 1))) Zc))))
 (Yk (V7 (Z1 (dO Z7t (dO Yg (dV 0) (dC (.int 0))) (V7 (Z1 (V7 (Z1 (dV 1) (Z1 (dC (.str "made")) Zc))) Zc))) (Z1 (dF tupleD (Z1 (dO Wk (dP 8) (dL (Qx (Z1 (dV 6) (Z1 (dV 7) Zc))))) Zc)) (Z1 (dO Yg (dV 0) (dC (.int 2))) (Z1 (dO Yg (dV 0) (dC (.int 3))) Zc)))))))))))))))
def T9:List Dat->Rs:=Y7 9 4 R9
def Q4:Ev->Fl:=(Zf (Ky N15_ (fun _=>true) (G4 V6 (Z1 (dV 0) (Z1 (dV 1) Zc))) (Yk (dC (.bl false))))
 (Yk (dC (.bl true))))
def Up:List Dat->Rs:=Y7 2 2 Q4
def Ds:Ev->Fl:=(Yk (Zt Up (Z1 (Zt T9 (Z1 (dV 0) (Z1 (dV 1) (Z1 (dV 2) (Z1 (dV 3) Zc))))) (Z1 (dV 4) Zc))))
def Dw:List Dat->Rs:=Y7 5 5 Ds
def Q6:Ev->Fl:=(Zf (Y3 2 (dO Wk (dO Ez (dC (.int 7919)) (dV 1)) (dC (.int 12345))))
 (Zf (Ec (dB (dO ltD (dV 1) (dF Uh (Z1 (dV 0) Zc)))) (Y3 2 (dO Wk (dV 2) (dO Ez (dO Yg (dV 0) (dV 1)) (dC (.int 6364136223846793005))))) Qq)
 (Yk (dO Tf (dO Ez (dV 2) (dC (.int 48271))) (dC (.int 1000000000039))))))
def Y9:List Dat->Rs:=Y7 3 2 Q6
def Uo:Ev->Fl:=(Zf (Y3 2 (dC (.str "abcdefghijklmnopqrstuvwxyz")))
 (Zf (Y3 3 (dO Wk (dC (.int 2)) (dO Tf (dV 0) (dC (.int 7)))))
 (Zf (Y3 4 (dO Tf (dO U8 (dV 0) (dC (.int 7))) (dV 3)))
 (Zf (Y3 5 (dC (.str "")))
 (Zf (Q1 (Ut (Z1 (dV 3) Zc)) (Y5 6) (Zf (Y3 7 (dC (.int 0)))
 (Zf (Ec (dB (dO Hr (dV 6) (dV 4))) (Y3 7 (dV 1)) Qq)
 (Y3 5 (dO Wk (dV 5) (dO Yg (dV 2) (dO Tf (dO Wk (dO Wk (dO U8 (dV 0) (dC (.int 49))) (dO Ez (dC (.int 5)) (dV 6))) (dO Ez (dC (.int 7)) (dV 7))) (dC (.int 26)))))))))
 (Zf (Ec (dB (dO inF (dV 5) (dL (Qx (Z1 (dC (.str "given")) (Z1 (dC (.str "made")) (Z1 (dC (.str "up")) (Z1 (dC (.str "down")) (Z1 (dC (.str "start")) Zc))))))))) (Y3 5 (dO Wk (dS Ct (dV 5) (Jv (dC (.int 1))) Sc) (dC (.str "q")))) Qq)
 (Yk (dV 5))))))))
def Qg:List Dat->Rs:=Y7 8 2 Uo
def Vt:Ev->Fl:=(Zf (D6 3 (Qx Zc))
 (Zf (Q1 (Ut (Z1 (dV 2) Zc)) (Y5 4) (Zf (Y3 5 (Zt Y9 (Z1 (dV 0) (Z1 (dO Wk (dV 1) (dV 4)) Zc))))
 (Zf (Y3 6 (dO Tf (dV 5) (dO Wk (dF Uh (Z1 (dP 3) Zc)) (dC (.int 1)))))
 (Zf (Sd 3 He (Z1 (dV 6) (Z1 (dV 4) Zc)))
 (Zf (Y3 7 (dO Tf (dO U8 (dV 5) (dC (.int 64))) (dO Z7y (dF Uh (Z1 (dP 3) Zc)) (dV 6))))
 (Sd 3 He (Z1 (dO Wk (dO Wk (dV 6) (dC (.int 1))) (dV 7)) (Z1 (dV 4) Zc))))))))
 (Ik 3)))
def Ja:List Dat->Rs:=Y7 8 3 Vt
def Ve:Ev->Fl:=(Zf (D6 4 (Qx Zc))
 (Zf (Q1 (Ut (Z1 (dV 2) Zc)) (Y5 5) (Zf (Y3 6 (Zt Y9 (Z1 (dV 0) (Z1 (dO Wk (dV 1) (dV 5)) Zc))))
 (Zf (Y3 7 (dO Tf (dV 6) (dV 3)))
 (Zf (Y3 8 (dO Tf (dO U8 (dV 6) (dC (.int 64))) (dV 3)))
 (Ec (Em (dB (dO Lc (dV 7) (dV 8))) (dB (dO Ep (V7 (Z1 (dF Z4x (Z1 (dV 7) (Z1 (dV 8) Zc))) (Z1 (dF Z3i (Z1 (dV 7) (Z1 (dV 8) Zc))) Zc))) (dP 4)))) (Sd 4 Ua (Z1 (V7 (Z1 (dF Z4x (Z1 (dV 7) (Z1 (dV 8) Zc))) (Z1 (dF Z3i (Z1 (dV 7) (Z1 (dV 8) Zc))) Zc))) Zc)) Qq)))))
 (Ik 4)))
def Qa:List Dat->Rs:=Y7 9 4 Ve
def U0:Ev->Fl:=(Zf (Y3 4 (Zt Ja (Z1 (dV 0) (Z1 (dV 1) (Z1 (dV 2) Zc)))))
 (Zf (Y3 5 (dO Ez (dC (.int 2)) (dV 2)))
 (Zf (Y3 6 (Zt Y9 (Z1 (dV 0) (Z1 (dO Wk (dV 1) (dV 2)) Zc))))
 (Zf (Y3 7 (Zt Qa (Z1 (dV 0) (Z1 (dO Wk (dO Wk (dV 1) (dV 2)) (dC (.int 1))) (Z1 (dV 3) (Z1 (dV 5) Zc))))))
 (Zf (Ec (dB (dO Hr (dO Tf (dV 6) (dC (.int 3))) (dC (.int 0)))) (Y3 7 (dO Wk (dV 7) (dL (Vm (Ut (Z1 (dO Z7y (dV 5) (dC (.int 1))) Zc)) [none,some 7] (Y5 0) (dB (dO Ep (V7 (Z1 (dV 0) (Z1 (dO Wk (dV 0) (dC (.int 1))) Zc))) (dV 1))) (V7 (Z1 (dV 0) (Z1 (dO Wk (dV 0) (dC (.int 1))) Zc))))))) Qq)
 (Zf (Q1 (Ut (Z1 (dV 2) Zc)) (Y5 8) (Zf (Y3 9 (dM "list" O4 (dV 4) (Z1 (dV 8) Zc)))
 (Zf (Y3 10 (dO Wk (dO Wk (dV 9) (dC (.int 1))) (dM "list" O4 (dS Ct (dV 4) (Jv (dO Wk (dV 9) (dC (.int 1)))) Sc) (Z1 (dV 8) Zc))))
 (Y3 7 (dO Wk (dL (Vm (Th (dV 7)) [none,some 9,some 10] (Y5 0) (dB (dO Lc (dV 0) (V7 (Z1 (dV 1) (Z1 (dV 2) Zc))))) (dV 0))) (dL (Qx (Z1 (V7 (Z1 (dV 9) (Z1 (dV 10) Zc))) Zc))))))))
 (Zf (Ph 11 (Th (dV 4)) [none] (Y5 0))
 (Zf (Ph 12 (Th (dV 4)) [none] (Y5 0))
 (Zf (Y3 13 (dC (.int 0)))
 (Zf (Y3 14 (dO Tf (dO U8 (dV 6) (dC (.int 3))) (dC (.int 20))))
 (Zf (Q1 (Th (dV 7)) (Sx 2 (Yh (Y5 15) (Yh (Y5 16) Qf))) (Zf (Kt 12 (dV 15) (Z1 (dV 14) Zc))
 (Zf (Kt 11 (dV 16) (Z1 (dV 14) Zc))
 (Zf (Kt 12 (dV 16) (Z1 (dO Wk (dV 14) (dC (.int 1))) Zc))
 (Zf (Kt 11 (dV 15) (Z1 (dO Wk (dV 14) (dC (.int 1))) Zc))
 (Zf (Y3 13 (dO orD (dV 13) (dO Fj (dC (.int 1)) (dO Wk (dV 14) (dC (.int 1))))))
 (Y3 14 (dO Wk (dV 14) (dC (.int 2))))))))))
 (Zf (Y3 17 (dO Tf (dO U8 (dV 6) (dC (.int 60))) (dO Fj (dC (.int 1)) (dV 2))))
 (Zf (Y3 18 (dV 17))
 (Zf (D6 19 (Qx Zc))
 (Zf (Q1 (G1 (dV 4)) (Sx 2 (Yh (Y5 20) (Yh (Y5 8) Qf))) (Zf (Sd 19 Ua (Z1 (V7 (Z1 (dV 8) (Z1 (dO Hr (dO Oa (dO Z3n (dV 18) (dV 8)) (dC (.int 1))) (dC (.int 0))) (Z1 (dF tupleD (Z1 (dL (dF Gz (Z1 (Z43 11 (dV 20)) Zc))) Zc)) (Z1 (dF tupleD (Z1 (dL (dF Gz (Z1 (Z43 12 (dV 20)) Zc))) Zc)) Zc))))) Zc))
 (Y3 18 (dO Z8n (dV 18) (dO Fj (dC (.int 1)) (dV 8))))))
 (Zf (Y3 21 (dO Tf (dO U8 (dV 6) (dC (.int 2000))) (dV 5)))
 (Zf (D6 19 (dO O7 (dS Ct (dP 19) (Jv (dV 21)) Sc) (dS Ct (dP 19) Sc (Jv (dV 21)))))
 (Zf (Y3 22 (dO U8 (dV 6) (dC (.int 40000))))
 (Zf (Y3 23 (dL (Vm (Ut (Z1 (dV 2) Zc)) [none,some 22,some 0,some 1] (Y5 0) Ux (V7 (Z1 (Zt Qg (Z1 (dV 1) (Z1 (dV 0) Zc))) (Z1 (dO Yg (dL (Qx (Z1 (dC (.str "given")) (Z1 (dC (.str "made")) Zc)))) (dO Tf (dO U8 (Zt Y9 (Z1 (dV 2) (Z1 (dO Wk (dV 3) (dV 0)) Zc))) (dC (.int 4096))) (dC (.int 2)))) Zc))))))
 (Yk (V7 (Z1 (dF tupleD (Z1 (dV 23) Zc)) (Z1 (dF tupleD (Z1 (dP 19) Zc)) (Z1 (dV 13) (Z1 (dV 17) Zc)))))))))))))))))))))))))
def Jc:List Dat->Rs:=Y7 24 4 U0
def Uv:Ev->Fl:=(Zf (Y3 1 (dC (.int 0)))
 (Zf (Q1 (Th (dV 0)) (Y5 2) (Y3 1 (dO orD (dV 1) (dO Fj (dC (.int 1)) (dV 2)))))
 (Yk (dV 1))))
def Mc:List Dat->Rs:=Y7 3 1 Uv
def Tz:Ev->Fl:=(Zf (Y3 3 (Zt Mc (Z1 (dO Yg (dO Yg (dO Yg (dV 0) (dC (.int 1))) (dV 2)) (dC (.int 2))) Zc)))
 (Yk (dO Hr (dO Oa (dO Yg (dV 1) (dC (.int 0))) (dV 3)) (dV 3))))
def Ry:List Dat->Rs:=Y7 4 3 Tz
def Vw:Ev->Fl:=(Zf (Q1 (G1 (dO Yg (dV 0) (dC (.int 1)))) (Sx 2 (Yh (Y5 3) (Yh (Y5 4) Qf))) (Ec (Em (dB (dO Hr (dO Yg (dV 4) (dC (.int 0))) (dV 2))) (dT (Zt Ry (Z1 (dV 0) (Z1 (dV 1) (Z1 (dV 3) Zc)))))) (Yk (dO Z7y (dO Ez (dC (.int 2)) (dF Z96 (Z1 (dO Yg (dV 4) (dC (.int 1))) Zc))) (dC (.int 1)))) Qq))
 (Yk (dC (.int 0))))
def T5:List Dat->Rs:=Y7 5 3 Vw
def Wi:Ev->Fl:=(Zf (D6 2 (dF Z1v (Z1 (dO Yg (dV 0) (dC (.int 0))) Zc)))
 (Zf (Ju 2 (dV 1) (V7 (Z1 (dO Yg (dO Yg (dP 2) (dV 1)) (dC (.int 0))) (Z1 (dC (.str "made")) Zc))))
 (Yk (dO Z7t (V7 (Z1 (dF tupleD (Z1 (dP 2) Zc)) Zc)) (dS Ct (dV 0) (Jv (dC (.int 1))) Sc)))))
def Vu:List Dat->Rs:=Y7 3 2 Wi
def Wr:Ev->Fl:=(Zf (Y3 2 (dC (.str "abcdefghijklmnopqrstuvwxyz")))
 (Zf (Y3 3 (dL (Vm (Th (dV 1)) [none] (Y5 0) Ux (dO Yg (dV 0) (dC (.int 0))))))
 (Zf (Q1 (Ut (Z1 (dC (.int 26)) Zc)) (Y5 4) (Zf (Y3 5 (dC (.str "")))
 (Zf (Q1 (Ut (Z1 (dO Wk (dC (.int 1)) (dO Tf (dV 0) (dC (.int 8)))) Zc)) (Y5 6) (Y3 5 (dO Wk (dV 5) (dO Yg (dV 2) (dO Tf (dO Wk (dO Wk (dO U8 (dV 0) (dC (.int 8))) (dO Ez (dC (.int 11)) (dV 6))) (dV 4)) (dC (.int 26)))))))
 (Ec (Em (dB (dO Ep (dV 5) (dV 3))) (dB (dO Ep (dV 5) (dL (Qx (Z1 (dC (.str "given")) (Z1 (dC (.str "made")) (Z1 (dC (.str "up")) (Z1 (dC (.str "down")) (Z1 (dC (.str "start")) Zc)))))))))) (Yk (dV 5)) Qq))))
 (Yk (dC (.str "zzzzzzzz"))))))
def Uc:List Dat->Rs:=Y7 7 2 Wr
def Wf:Ev->Fl:=(Zf (Y3 2 (dC .non))
 (Zf (Ky N15_ (fun _=>true) (Eg 2 Vj (Z1 (dV 0) (Z1 (dV 1) Zc))) (Y3 2 (dC .non)))
 (Zf (Ec (dB (dO isF (dV 2) (dC .non))) (Yk (dC (.bl false))) Qq)
 (Zf (Zat 3)
 (Zf (Q1 (Th (dV 2)) (Y5 4) (Zf (Y3 5 (dL (Vm (G1 (dO Yg (dV 0) (dC (.int 0)))) [none,none,some 0,some 4] (Sx 2 (Yh (Y5 0) (Yh (Y5 1) Qf))) (dB (dO Hr (dO Yg (dV 1) (dC (.int 1))) (dC (.str "made")))) (Zt T5 (Z1 (dV 2) (Z1 (dV 3) (Z1 (dV 0) Zc)))))))
 (Aj 3 (dO Yg (dV 4) (dC (.int 1))) 5 (Yk (dC (.bl false))))))
 (Yk (dC (.bl true))))))))
def Wu:List Dat->Rs:=Y7 6 2 Wf
def Pu:Ev->Fl:=(Zf (Y3 1 (dO Wk (dC (.int 1)) (dO Tf (Zt Y9 (Z1 (dV 0) (Z1 (dC (.int 0)) Zc))) (dC (.int 3)))))
 (Zf (Y3 2 (Zt Y9 (Z1 (dV 0) (Z1 (dC (.int 2)) Zc))))
 (Zf (Y3 3 (Zt Vu (Z1 (Zt Jc (Z1 (dV 0) (Z1 (dC (.int 3)) (Z1 (dV 1) (Z1 (dO Tf (Zt Y9 (Z1 (dV 0) (Z1 (dC (.int 1)) Zc))) (dC (.int 4))) Zc))))) (Z1 (dO Tf (dO U8 (dV 2) (dC (.int 6))) (dV 1)) Zc))))
 (Zf (D6 4 (Vm (G1 (dO Yg (dV 3) (dC (.int 1)))) [none,none,some 3] (Sx 2 (Yh (Y5 0) (Yh (Y5 1) Qf))) (dB (dO Hr (dO Yg (dO Yg (dO Yg (dV 2) (dC (.int 0))) (dO Yg (dV 1) (dC (.int 0)))) (dC (.int 1))) (dC (.str "made")))) (dV 0)))
 (Zf (Ob 5 4 (Z1 (dO Tf (dO U8 (dV 2) (dC (.int 7))) (dF Uh (Z1 (dP 4) Zc))) Zc))
 (Zf (Y3 6 (dO Yg (dP 4) (dO Tf (dO U8 (dV 2) (dC (.int 77))) (dF Uh (Z1 (dP 4) Zc)))))
 (Zf (Y3 7 (Zt Uc (Z1 (dO U8 (dV 2) (dC (.int 600))) (Z1 (dO Yg (dV 3) (dC (.int 0))) Zc))))
 (Zf (Y3 8 (dO Yg (dL (Qx (Z1 (dC (.int 80)) (Z1 (dC (.int 60)) (Z1 (dC (.int 80)) (Z1 (dO Wk (dC (.int 1)) (dO Tf (dO U8 (dV 2) (dC (.int 90000))) (dC (.int 40)))) Zc)))))) (dO Tf (dO U8 (dV 2) (dC (.int 20000))) (dC (.int 4)))))
 (Zf (Q1 (Th (dL (Qx (Z1 (V7 (Z1 (dV 5) (Z1 (dV 6) Zc))) (Z1 (V7 (Z1 (dV 6) (Z1 (dV 5) Zc))) (Z1 (V7 (Z1 (dV 5) (Z1 (dV 6) Zc))) Zc)))))) (Sx 2 (Yh (Y5 9) (Yh (Y5 10) Qf))) (Zf (Y3 11 (Zt Dw (Z1 (dV 3) (Z1 (dV 7) (Z1 (dV 9) (Z1 (dV 10) (Z1 (dV 8) Zc)))))))
 (Ec (L6 (Eh (dT (dI "bool" (dV 11)))) (dB (dO Lc (dV 11) (Zt Wu (Z1 (Zt T9 (Z1 (dV 3) (Z1 (dV 7) (Z1 (dV 9) (Z1 (dV 10) Zc))))) (Z1 (dV 8) Zc)))))) (Yk (dC (.bl false))) Qq)))
 (Yk (dC (.bl true))))))))))))
def Zb7:List Dat->Rs:=Y7 12 1 Pu
theorem Ql {P:List Str} (h1:sc.kind=.function:=by rfl) (h2:sc.isCoroutine=false:=by rfl) (h3:sc.isGenerator=false:=by rfl) (h4:N.Nodup:=by decide +kernel) (h5:N.take P.length=P:=by rfl) (h6:∀ x∈P,sc.names.lookup x=some .local\/sc.names.lookup x=some .cell:=by decide +kernel) (h7:∀ y∈sc.names,y.2≠.free:=by decide +kernel):FnScope N P sc:=⟨h1,h2,h3,h4,h5,h6,h7⟩
def Qe (i:Nat):Stmt:=PySem.Challenge.pw_calmwires_k74_whether_a_wire_parts.main.body.getD i (.Pass ⟨0,0,0,0⟩)
abbrev Jh:Stmt:=Qe 12
theorem Z18:FnScope ["text"] ["text"] (Z4 Jh):=Ql
abbrev Dg:Stmt:=Qe 13
theorem Z7q:FnScope N62_ N62_ (Z4 Dg):=Ql
abbrev Dl:Stmt:=Qe 15
theorem Z00:FnScope N54_ N54_ (Z4 Dl):=Ql
abbrev K4:Stmt:=Qe 14
theorem Z8v:FnScope N62_ N62_ (Z4 K4):=Ql
abbrev Tw:Stmt:=Qe 16
theorem B9:FnScope N49_ N49_ (Z4 Tw):=Ql
abbrev Dt:Stmt:=Qe 17
theorem Z0b:FnScope N55_ N55_ (Z4 Dt):=Ql
abbrev Dv:Stmt:=Qe 18
theorem Z0w:FnScope N55_ N55_ (Z4 Dv):=Ql
abbrev S0:Stmt:=Qe 19
theorem C3:FnScope N55_ N55_ (Z4 S0):=Ql
abbrev Rf:Stmt:=Qe 20
theorem Co:FnScope N55_ N55_ (Z4 Rf):=Ql
abbrev A7:Stmt:=Qe 21
theorem Ly:FnScope ["some","number","place"] ["some"] (Z4 A7):=Ql
abbrev Da:Stmt:=Qe 22
theorem Z0o:FnScope N51_ N51_ (Z4 Da):=Ql
abbrev Z2p:Stmt:=Qe 24
theorem Z6y:FnScope ["graph","stand","step","takes"] N40_ (Z4 Z2p):=Ql
abbrev Hu:Stmt:=Qe 25
theorem Dq:FnScope N18_ N40_ (Z4 Hu):=Ql
abbrev Tp:Stmt:=Qe 27
theorem Bj:FnScope N52_ N52_ (Z4 Tp):=Ql
abbrev Z2e:Stmt:=Qe 29
theorem Fw:FnScope ["found","n","steps","at"] N61_ (Z4 Z2e):=Ql
abbrev Dn:Stmt:=Qe 28
theorem Z11:FnScope N31_ N31_ (Z4 Dn):=Ql
abbrev Hc:Stmt:=Qe 26
theorem Uj:FnScope N10_ N56_ (Z4 Hc):=Ql
abbrev Ul:Stmt:=Qe 32
theorem Fq:FnScope N32_ N32_ (Z4 Ul):=Ql
abbrev Lq:Stmt:=Qe 31
theorem Z5h:FnScope N41_ N41_ (Z4 Lq):=Ql
abbrev Fu:Stmt:=Qe 33
theorem Z25:FnScope ["graph","by","lost","kept"] N50_ (Z4 Fu):=Ql
abbrev Uy:Stmt:=Qe 36
theorem L9:FnScope N50_ N50_ (Z4 Uy):=Ql
abbrev Gx:Stmt:=Qe 35
theorem Dx:FnScope ["graph","pairs","by","lost"] N62_ (Z4 Gx):=Ql
abbrev Ll:Stmt:=Qe 34
theorem Qm:FnScope N9_ N56_ (Z4 Ll):=Ql
abbrev Tk:Stmt:=Qe 40
theorem Af:FnScope N38_ N38_ (Z4 Tk):=Ql
abbrev Ms:Stmt:=Qe 41
theorem Z42:FnScope N45_ N45_ (Z4 Ms):=Ql
abbrev Ys:Stmt:=Qe 39
theorem Wh:FnScope N16_ N53_ (Z4 Ys):=Ql
abbrev M6:Stmt:=Qe 38
theorem Jd:FnScope ["graph","most","found","told","first"] N56_ (Z4 M6):=Ql
abbrev Vq:Stmt:=Qe 51
theorem Qb:FnScope N46_ N62_ (Z4 Vq):=Ql
abbrev S5:Stmt:=Qe 50
theorem Ck:FnScope N62_ N62_ (Z4 S5):=Ql
abbrev M0:Stmt:=Qe 49
theorem Fa:FnScope N57_ N57_ (Z4 M0):=Ql
abbrev S6:Stmt:=Qe 48
theorem Be:FnScope N35_ N35_ (Z4 S6):=Ql
abbrev Dr:Stmt:=Qe 47
theorem Z14:FnScope N58_ N58_ (Z4 Dr):=Ql
abbrev Vs:Stmt:=Qe 52
theorem Oy:FnScope N62_ N62_ (Z4 Vs):=Ql
abbrev Ho:Stmt:=Qe 46
theorem Jj:FnScope N7_ N27_ (Z4 Ho):=Ql
abbrev Do:Stmt:=Qe 54
theorem Z16:FnScope N56_ N56_ (Z4 Do):=Ql
abbrev Lu:Stmt:=Qe 53
theorem Z89:FnScope N22_ N22_ (Z4 Lu):=Ql
abbrev Rg:Stmt:=Qe 56
theorem D7:FnScope ["_law_script","_law_k","_law_number"] N42_ (Z4 Rg):=Ql
abbrev M5:Stmt:=Qe 57
theorem W1:FnScope N3_ N48_ (Z4 M5):=Ql
abbrev J8:Stmt:=Qe 58
theorem Vf:FnScope N4_ N24_ (Z4 J8):=Ql
abbrev Q9:Stmt:=Qe 59
theorem V1:FnScope N2_ N14_ (Z4 Q9):=Ql
abbrev Y6:Stmt:=Qe 60
theorem Zh:FnScope N0_ N17_ (Z4 Y6):=Ql
abbrev Mf:Stmt:=Qe 61
theorem Qy:FnScope ["_law_some","_law_number","_law_place"] ["_law_some"] (Z4 Mf):=Ql
abbrev Ru:Stmt:=Qe 62
theorem Ku:FnScope N11_ N21_ (Z4 Ru):=Ql
abbrev Qz:Stmt:=Qe 64
theorem Ml:FnScope N8_ N19_ (Z4 Qz):=Ql
abbrev U2:Stmt:=Qe 65
theorem M4:FnScope N20_ N28_ (Z4 U2):=Ql
abbrev Wo:Stmt:=Qe 66
theorem Yy:FnScope N5_ N36_ (Z4 Wo):=Ql
abbrev Vv:Stmt:=Qe 67
theorem Wx:FnScope N6_ N29_ (Z4 Vv):=Ql
abbrev El:Stmt:=Qe 68
theorem Qu:FnScope N1_ N59_ (Z4 El):=Ql
structure Txt (K:Zzy) (mg:Zzw):Prop where
 b_all:mg "all" = none
 b_any:mg "any" = none
 b_bool:mg "bool" = none
 b_enumerate:mg "enumerate" = none
 b_int:mg "int" = none
 b_isinstance:mg "isinstance" = none
 b_len:mg "len" = none
 b_list:mg "list" = none
 b_max:mg "max" = none
 b_min:mg "min" = none
 b_range:mg "range" = none
 b_reversed:mg "reversed" = none
 b_sorted:mg "sorted" = none
 b_tuple:mg "tuple" = none
 q_0:Z58 K mg "Broken" N15_
 q_1:Z58 K mg "Crowded" N15_
 u_8:Zdf K mg "CalmError" N15_ (fun _=>true)
 c_LETTERS:Glo K mg "LETTERS" c_LETTERS
 c_LONGEST_NAME:Glo K mg "LONGEST_NAME" c_LONGEST_NAME
 c_MANY_SPOTS:Glo K mg "MANY_SPOTS" c_MANY_SPOTS
 c_MOST_STEPS_AHEAD:Glo K mg "MOST_STEPS_AHEAD" c_MOST_STEPS_AHEAD
 c_MOST_WIRES_AHEAD:Glo K mg "MOST_WIRES_AHEAD" c_MOST_WIRES_AHEAD
 c_WORDS:Glo K mg "WORDS" c_WORDS
section
variable {P:Program} {w:World} {K:Zzy} {mg:Zzw} {base:Heap}
theorem Z4f (T:Txt X.K X.mg) (hg:Gl X "LETTERS" := by rfl):Wj m X (.Name "LETTERS" p) (dC c_LETTERS):=T.c_LETTERS.x hg
theorem Nw (T:Txt X.K X.mg) (hg:Gl X "LONGEST_NAME" := by rfl):Wj m X (.Name "LONGEST_NAME" p) (dC c_LONGEST_NAME):=T.c_LONGEST_NAME.x hg
theorem Xp (T:Txt X.K X.mg) (hg:Gl X "MANY_SPOTS" := by rfl):Wj m X (.Name "MANY_SPOTS" p) (dC c_MANY_SPOTS):=T.c_MANY_SPOTS.x hg
theorem Eu (T:Txt X.K X.mg) (hg:Gl X "MOST_STEPS_AHEAD" := by rfl):Wj m X (.Name "MOST_STEPS_AHEAD" p) (dC c_MOST_STEPS_AHEAD):=T.c_MOST_STEPS_AHEAD.x hg
theorem G5 (T:Txt X.K X.mg) (hg:Gl X "MOST_WIRES_AHEAD" := by rfl):Wj m X (.Name "MOST_WIRES_AHEAD" p) (dC c_MOST_WIRES_AHEAD):=T.c_MOST_WIRES_AHEAD.x hg
theorem Z94 (T:Txt X.K X.mg) (hg:Gl X "WORDS" := by rfl):Wj m X (.Name "WORDS" p) (dC c_WORDS):=T.c_WORDS.x hg
end
abbrev i_0:Stmt:=Ig (Qe 2) 0
theorem Ziz:FnScope N60_ N60_ (Z4 i_0):=Ql
abbrev i_1:Stmt:=Ig (Qe 3) 0
theorem Zia:FnScope N60_ N60_ (Z4 i_1):=Ql
abbrev i_2:Stmt:=Ig (Qe 4) 0
theorem Ziy:FnScope ["self"] ["self"] (Z4 i_2):=Ql
abbrev i_3:Stmt:=Ig (Qe 5) 0
theorem Zif:FnScope N37_ N37_ (Z4 i_3):=Ql
abbrev i_4:Stmt:=Ig (Qe 6) 0
theorem Zi6:FnScope N33_ N33_ (Z4 i_4):=Ql
section
variable {P:Program} {w:World} {K:Zzy} {mg:Zzw} {base:Heap}
theorem m_0 (B:BaseC K mg D) (F:Fun K "__init__" "Broken.__init__" i_0 fI fd) (hc:U3 K "Broken" C) (hm:mg "Broken" = some (.ref C)) (hk:PySem.W.keepIn K (.ref C)=true) (hx:Td K C fI D=true) (xc:XCls K C) (hf0:PySem.W.findIn K (.ref C) "way" = some none) (isf:PySem.W.isFn K (.ref fI)=true) (bl:mg "list" = none):XMakeN P w K mg base 1 "Broken" 1 (gW "way") where
 ex:=⟨C,fI,D,fd,N60_,hc,hm,hk,hx,xc,isf,Z2b (k:=0) F Ziz hx xc hf0 (fun cdv A outer s H E hr=>(Uz (Jb (Hq B (Yu (pv 0) (Yu (De (D9 (F3 hr (pv 1) X9))) Vn)))) (Di (Lr (pv 0) (Q0 (Jp K) rfl bl (by decide +kernel) (Yu (pv 1) Vn)))))) (fun H e a0 n0 l0 m0=>(M3 (M1 Lx (by decide +kernel) rfl (.inr ⟨a0,n0,rfl,l0,m0⟩)) (by decide +kernel))),
  F.binds fun _ _ _ _ _ _ us hl=>ar2 us hl fun _ _=>rfl⟩
 len:=Z68
 few:=by lia
theorem m_1 (B:BaseC K mg D) (F:Fun K "__init__" "Crowded.__init__" i_1 fI fd) (hc:U3 K "Crowded" C) (hm:mg "Crowded" = some (.ref C)) (hk:PySem.W.keepIn K (.ref C)=true) (hx:Td K C fI D=true) (xc:XCls K C) (hf0:PySem.W.findIn K (.ref C) "way" = some none) (isf:PySem.W.isFn K (.ref fI)=true) (bl:mg "list" = none):XMakeN P w K mg base 1 "Crowded" 1 (gW "way") where
 ex:=⟨C,fI,D,fd,N60_,hc,hm,hk,hx,xc,isf,Z2b (k:=0) F Zia hx xc hf0 (fun cdv A outer s H E hr=>(Uz (Jb (Hq B (Yu (pv 0) (Yu (De (D9 (F3 hr (pv 1) X9))) Vn)))) (Di (Lr (pv 0) (Q0 (Jp K) rfl bl (by decide +kernel) (Yu (pv 1) Vn)))))) (fun H e a0 n0 l0 m0=>(M3 (M1 Lx (by decide +kernel) rfl (.inr ⟨a0,n0,rfl,l0,m0⟩)) (by decide +kernel))),
  F.binds fun _ _ _ _ _ _ us hl=>ar2 us hl fun _ _=>rfl⟩
 len:=Z68
 few:=by lia
theorem m_2 (B:BaseC K mg D) (F:Fun K "__init__" "TooMany.__init__" i_2 fI fd) (hc:U3 K "TooMany" C) (hm:mg "TooMany" = some (.ref C)) (hk:PySem.W.keepIn K (.ref C)=true) (hx:Td K C fI D=true) (xc:XCls K C)  (isf:PySem.W.isFn K (.ref fI)=true) (bl:mg "list" = none):XMake P w K mg base 1 "TooMany" 0 gZ where
 ex:=⟨C,fI,D,fd,["self"],hc,hm,hk,hx,xc,isf,Zdp (k:=0) F Ziy hx (fun cdv A outer s H E hr=>(Di (Jb (Hq B (Yu (pv 0) (Yu Z6z Vn)))))),
  F.binds fun _ _ _ _ _ _ us hl=>ar1 us hl fun _=>rfl⟩
 len:=Z5s
 few:=by lia
theorem m_3 (B:BaseC K mg D) (F:Fun K "__init__" "CalledOff.__init__" i_3 fI fd) (hc:U3 K "CalledOff" C) (hm:mg "CalledOff" = some (.ref C)) (hk:PySem.W.keepIn K (.ref C)=true) (hx:Td K C fI D=true) (xc:XCls K C) (hf0:PySem.W.findIn K (.ref C) "way" = some none) (hf1:PySem.W.findIn K (.ref C) "lost" = some none) (hf2:PySem.W.findIn K (.ref C) "by" = some none) (isf:PySem.W.isFn K (.ref fI)=true) (bl:mg "list" = none):XMake P w K mg base 1 "CalledOff" 3 (gC "way" "lost" "by") where
 ex:=⟨C,fI,D,fd,N37_,hc,hm,hk,hx,xc,isf,Zeh (k:=0) F Zif hx xc hf0 hf1 hf2 (by decide +kernel) (by decide +kernel) (by decide +kernel) (fun cdv A outer s H E hr=>(Uz (Jb (Hq B (Yu (pv 0) (Yu (De (D9 (K9 hr (pv 2) (D9 (K9 hr (pv 3) (D9 (K9 hr (pv 1) X9))))))) Vn)))) (Uz (Lr (pv 0) (Q0 (Jp K) rfl bl (by decide +kernel) (Yu (pv 1) Vn))) (Uz (Lv (pv 0) (pv 2)) (Di (Lv (pv 0) (pv 3))))))) (fun H e a0 n0 i0 i1 l0 m0 u0 v0 u1 v1=>(M3 (M1 (M3 (M1 (M3 (M1 Lx (by decide +kernel) rfl (.inr ⟨a0,n0,rfl,l0,m0⟩)) (by decide +kernel)) (by decide +kernel) rfl (.inl ⟨i1,rfl,u1,v1⟩)) (by decide +kernel)) (by decide +kernel) rfl (.inl ⟨i0,rfl,u0,v0⟩)) (by decide +kernel))),
  F.binds fun _ _ _ _ _ _ us hl=>ar4 us hl fun _ _ _ _=>rfl⟩
 len:=Zef
 few:=by lia
theorem m_4 (B:BaseC K mg D) (F:Fun K "__init__" "Clash.__init__" i_4 fI fd) (hc:U3 K "Clash" C) (hm:mg "Clash" = some (.ref C)) (hk:PySem.W.keepIn K (.ref C)=true) (hx:Td K C fI D=true) (xc:XCls K C) (hf0:PySem.W.findIn K (.ref C) "one" = some none) (hf1:PySem.W.findIn K (.ref C) "other" = some none) (hf2:PySem.W.findIn K (.ref C) "wire" = some none) (isf:PySem.W.isFn K (.ref fI)=true) (bl:mg "list" = none):XMake P w K mg base 1 "Clash" 3 (gK "one" "other" "wire") where
 ex:=⟨C,fI,D,fd,N33_,hc,hm,hk,hx,xc,isf,Zds (k:=0) F Zi6 hx xc hf0 hf1 hf2 (by decide +kernel) (by decide +kernel) (by decide +kernel) (fun cdv A outer s H E hr=>(Uz (Jb (Hq B (Yu (pv 0) (Yu (De (D9 (K9 hr (pv 3) (D9 (K9 hr (pv 1) (D9 (K9 hr (pv 2) X9))))))) Vn)))) (Uz (Lr (pv 0) (Q0 (Jp K) rfl bl (by decide +kernel) (Yu (pv 1) Vn))) (Uz (Lv (pv 0) (Q0 (Jp K) rfl bl (by decide +kernel) (Yu (pv 2) Vn))) (Di (Lv (pv 0) (pv 3))))))) (fun H e a0 a1 n0 n1 i0 l0 m0 l1 m1 u0 v0=>(M3 (M1 (M3 (M1 (M3 (M1 Lx (by decide +kernel) rfl (.inr ⟨a1,n1,rfl,l1,m1⟩)) (by decide +kernel)) (by decide +kernel) rfl (.inr ⟨a0,n0,rfl,l0,m0⟩)) (by decide +kernel)) (by decide +kernel) rfl (.inl ⟨i0,rfl,u0,v0⟩)) (by decide +kernel))),
  F.binds fun _ _ _ _ _ _ us hl=>ar4 us hl fun _ _ _ _=>rfl⟩
 len:=Zdy
 few:=by lia
theorem Z3z (Df:Def K mg "is_name" Jh) (T:Txt K mg)   : CalD P w K mg base 1 "is_name" ["text"] false Uk :=
 Yl (N:=["text"]) (ps:=["text"]) (st:=Jh) (k:=0) (g:=Jf) Df Z18 (fun _ _ _ _ _ _ us hl=>ar1 us hl fun _=>rfl) (fun f cdv A outer s H E hr=>(by
  unfold Jf;refine (Zb (Jt (Fg.pt (Cp (Vg Zcb (Y1 U4 (by rfl) T.b_len (by decide +kernel) (Z0 (Z3 0) Z8)) (Z5) (Ya _)) (Cp (Vg Z8l (Y1 U4 (by rfl) T.b_len (by decide +kernel) (Z0 (Z3 0) Z8)) (Nw (m:=true) T) (Ya _)) (Ci (Vg (Z4v hr.units) (Z3 0) (Z94 (m:=true) T) (by rfl)))))) (Zj (Yj (V9))) Vi)
  (Zj (Yj (Ug (Zf4 rfl) (by rfl) T.b_all (by decide +kernel) (Z0 (Ww ?c0) Z8)))))
  case c0=>exact Tn (Z4 Jh) [none] ["sign"] rfl (show CompOk (Z4 Jh) _ ["text"] ["sign"] [none] from CompOk.of (by decide +kernel)) rfl (Zg4 (Z3 0)) (fun _ _ _ _=>⟨(Zs 0 (show (["sign"]:List Str).Nodup from by decide +kernel) rfl (Or.inl rfl)),Ef,(Qj (Z4v hr.units) (Z3 0) (Z4f (m:=true) T) (by rfl))⟩) (by decide)))
theorem Z8p (Df:Def K mg "names" Dg) (T:Txt K mg)   : CalD P w K mg base 1 "names" N62_ true Lg :=
 Yl (N:=N62_) (ps:=N62_) (st:=Dg) (k:=0) (g:=Db) Df Z7q (fun _ _ _ _ _ _ us hl=>ar1 us hl fun _=>rfl) (fun f cdv A outer s H E hr=>(by
  unfold Db;refine (Zj (Rt ?c0))
  case c0=>exact Tn (Z4 Dg) [none,none] ["name","kind"] rfl (show CompOk (Z4 Dg) _ N62_ ["name","kind"] [none,none] from CompOk.of (by decide +kernel)) rfl (S9 (Zl Zw (Z3 0) (Z5) (fun _ _=>rfl))) (fun _ _ _ _=>⟨(D0 (n:=2) rfl (Yt (Zs 0 (show (["name","kind"]:List Str).Nodup from by decide +kernel) rfl (Or.inl rfl)) (Yt (Zs 1 (show (["name","kind"]:List Str).Nodup from by decide +kernel) rfl (Or.inl rfl)) Jo))),Ef,(Z6 0)⟩) (by decide)))
theorem Z4t (Df:Def K mg "is_made" Dl) (T:Txt K mg)   : CalD P w K mg base 1 "is_made" N54_ false V4 :=
 Yl (N:=N54_) (ps:=N54_) (st:=Dl) (k:=0) (g:=Jl) Df Z00 (fun _ _ _ _ _ _ us hl=>ar2 us hl fun _ _=>rfl) (fun f cdv A outer s H E hr=>(by
  unfold Jl;exact (Zj (Yj (Qj (Es hr.units) (Zl Zw (Zl Zw (Zl Zw (Z3 0) (Z5) (fun _ _=>rfl)) (Z3 1) (fun _ _=>rfl)) (Z5) (fun _ _=>rfl)) (Z7a (m:=true)) (Ya _))))))
theorem Zcl (Df:Def K mg "made" K4) (T:Txt K mg)  (C_is_made:CalD P w K mg base 1 "is_made" N54_ false V4):CalD P w K mg base 2 "made" N62_ true Xe :=
 Yl (N:=N62_) (ps:=N62_) (st:=K4) (k:=1) (g:=Kd) Df Z8v (fun _ _ _ _ _ _ us hl=>ar1 us hl fun _=>rfl) (fun f cdv A outer s H E hr=>(by
  unfold Kd;refine (Zj (Rt ?c0))
  case c0=>exact Tn (Z4 K4) [none,some 0] ["wire","graph"] rfl (show CompOk (Z4 K4) _ N62_ ["wire","graph"] [none,some 0] from CompOk.of (by decide +kernel)) rfl (Wa (by rfl) T.b_range (Z0 (Y1 U4 (by rfl) T.b_len (by decide +kernel) (Z0 (Zl Zw (Z3 0) (Z5) (fun _ _=>rfl)) Z8)) Z8)) (fun _ _ _ _=>⟨(Zs 0 (show (["wire","graph"]:List Str).Nodup from by decide +kernel) rfl (Or.inl rfl)),(Ee (Lb (Zy C_is_made (hr.mono (by lia)) (Z0 (Z6 1) (Z0 (Z6 0) Z8))))),(Z6 0)⟩) (by decide)))
theorem Z0e (Df:Def K mg "steps_of" Tw) (T:Txt K mg)   : CalD P w K mg base 1 "steps_of" N49_ true S7 :=
 Yl (N:=N49_) (ps:=N49_) (st:=Tw) (k:=0) (g:=Q2) Df B9 (fun _ _ _ _ _ _ us hl=>ar3 us hl fun _ _ _=>rfl) (fun f cdv A outer s H E hr=>(by
  unfold Q2;refine (Zj (Rt ?c0))
  case c0=>exact Tn (Z4 Tw) [none,none,some 1,some 2] N34_ rfl (show CompOk (Z4 Tw) _ N49_ N34_ [none,none,some 1,some 2] from CompOk.of (by decide +kernel)) rfl (N2 (by rfl) T.b_enumerate (Zl Zw (Z3 0) (Z5) (fun _ _=>rfl))) (fun _ _ _ _=>⟨(D0 (n:=2) rfl (Yt (Zs 0 (show (N34_:List Str).Nodup from by decide +kernel) rfl (Or.inl rfl)) (Yt (Zs 1 (show (N34_:List Str).Nodup from by decide +kernel) rfl (Or.inl rfl)) Jo))),(Ee (Fg.pt (Nh (Vg (Es hr.units) (Zl Zw (Z3 1) (Z5) (fun _ _=>rfl)) (Z3 2) (Ya _)) (K5 (Vg (Es hr.units) (Zl Zw (Z3 1) (Z5) (fun _ _=>rfl)) (Z3 3) (Ya _)))))),(Z6 0)⟩) (by decide)))
theorem Z3v (Df:Def K mg "wire_of" Dt) (T:Txt K mg)   : CalD P w K mg base 1 "wire_of" N55_ false Vd :=
 Yl (N:=N55_) (ps:=N55_) (st:=Dt) (k:=0) (g:=Ji) Df Z0b (fun _ _ _ _ _ _ us hl=>ar2 us hl fun _ _=>rfl) (fun f cdv A outer s H E hr=>(by
  unfold Ji;exact (Zj (Yj (Zu Zw (Zl Zw (Zl Zw (Z3 0) (Z5) (fun _ _=>rfl)) (Z3 1) (fun _ _=>rfl)) (Z5) (fun _ _=>rfl))))))
theorem Z4z (Df:Def K mg "is_rise" Dv) (T:Txt K mg)   : CalD P w K mg base 1 "is_rise" N55_ false Dp :=
 Yl (N:=N55_) (ps:=N55_) (st:=Dv) (k:=0) (g:=Jm) Df Z0w (fun _ _ _ _ _ _ us hl=>ar2 us hl fun _ _=>rfl) (fun f cdv A outer s H E hr=>(by
  unfold Jm;exact (Zj (Yj (Zu Zw (Zl Zw (Zl Zw (Z3 0) (Z5) (fun _ _=>rfl)) (Z3 1) (fun _ _=>rfl)) (Z5) (fun _ _=>rfl))))))
theorem Z10 (Df:Def K mg "takes_of" S0) (T:Txt K mg)   : CalD P w K mg base 1 "takes_of" N55_ false Yo :=
 Yl (N:=N55_) (ps:=N55_) (st:=S0) (k:=0) (g:=Q7) Df C3 (fun _ _ _ _ _ _ us hl=>ar2 us hl fun _ _=>rfl) (fun f cdv A outer s H E hr=>(by
  unfold Q7;exact (Zj (Yj (Zu Zw (Zl Zw (Zl Zw (Z3 0) (Z5) (fun _ _=>rfl)) (Z3 1) (fun _ _=>rfl)) (Z5) (fun _ _=>rfl))))))
theorem Cy (Df:Def K mg "fills_of" Rf) (T:Txt K mg)   : CalD P w K mg base 1 "fills_of" N55_ false Vo :=
 Yl (N:=N55_) (ps:=N55_) (st:=Rf) (k:=0) (g:=Ti) Df Co (fun _ _ _ _ _ _ us hl=>ar2 us hl fun _ _=>rfl) (fun f cdv A outer s H E hr=>(by
  unfold Ti;exact (Zj (Yj (Zu Zw (Zl Zw (Zl Zw (Z3 0) (Z5) (fun _ _=>rfl)) (Z3 1) (fun _ _=>rfl)) (Z5) (fun _ _=>rfl))))))
theorem Zd7 (Df:Def K mg "bits" A7) (T:Txt K mg)   : CalD P w K mg base 1 "bits" ["some"] false T7 :=
 Yl (N:=["some","number","place"]) (ps:=["some"]) (st:=A7) (k:=0) (g:=K2) Df Ly (fun _ _ _ _ _ _ us hl=>ar1 us hl fun _=>rfl) (fun f cdv A outer s H E hr=>(by
  unfold K2;exact (Zb (Zr 1 Ly.nd rfl (Or.inl rfl) (W7))
  (Zb (U9 PassesOwn.never rfl (Oe (Z6 0)) (Zs 2 Ly.nd rfl (Or.inl rfl)) (Zj (Zr 1 Ly.nd rfl (Or.inl rfl) (Zn Z3r (Z3 1) (Zi Pr (Z5) (Z3 2))))))
  (Zj (Yj (Z6 1)))))))
theorem Z4u (Df:Def K mg "has_one" Da) (T:Txt K mg)   : CalD P w K mg base 1 "has_one" N51_ false Tl :=
 Yl (N:=N51_) (ps:=N51_) (st:=Da) (k:=0) (g:=Jg) Df Z0o (fun _ _ _ _ _ _ us hl=>ar2 us hl fun _ _=>rfl) (fun f cdv A outer s H E hr=>(by
  unfold Jg;exact (Zj (Yj (Qj (Es hr.units) (Zi Kz (Zi Zbi (Z3 0) (Z3 1)) (Z5)) (Z5) (Ya _))))))
theorem Zgo (Df:Def K mg "can" Z2p) (T:Txt K mg)  (C_bits:CalD P w K mg base 1 "bits" ["some"] false T7) (C_takes_of:CalD P w K mg base 1 "takes_of" N55_ false Yo):CalD P w K mg base 2 "can" N40_ false Kj :=
 Yl (N:=["graph","stand","step","takes"]) (ps:=N40_) (st:=Z2p) (k:=1) (g:=Pa) Df Z6y (fun _ _ _ _ _ _ us hl=>ar3 us hl fun _ _ _=>rfl) (fun f cdv A outer s H E hr=>(by
  unfold Pa;exact (Zb (Zr 3 Z6y.nd rfl (Or.inl rfl) (Zm C_bits (hr.mono (by lia)) (Z0 (Zm C_takes_of (hr.mono (by lia)) (Z0 (Z6 0) (Z0 (Z6 2) Z8))) Z8)))
  (Zj (Yj (Qj (Es hr.units) (Zi Kz (Zl Zw (Z3 1) (Z5) (fun _ _=>rfl)) (Z3 3)) (Z3 3) (Ya _)))))))
theorem Z71 (Df:Def K mg "behind" Hu) (T:Txt K mg) (M_0:XMake P w K mg base 1 "Broken" 1 (gW "way")) (M_1:XMake P w K mg base 1 "Crowded" 1 (gW "way")) (C_wire_of:CalD P w K mg base 1 "wire_of" N55_ false Vd) (C_bits:CalD P w K mg base 1 "bits" ["some"] false T7) (C_has_one:CalD P w K mg base 1 "has_one" N51_ false Tl) (C_is_rise:CalD P w K mg base 1 "is_rise" N55_ false Dp) (C_fills_of:CalD P w K mg base 1 "fills_of" N55_ false Vo) (C_takes_of:CalD P w K mg base 1 "takes_of" N55_ false Yo):CalX P w K mg base 3 "behind" N40_ false Sl true :=
 Z9v (N:=N18_) (ps:=N40_) (st:=Hu) (k:=2) (g:=Uw) Df Dq (fun _ _ _ _ _ _ us hl=>ar3 us hl fun _ _ _=>rfl) (fun f cdv A outer s H E hr=>(by
  unfold Uw;exact (Zb (Zr 3 Dq.nd rfl (Or.inl rfl) (Zm C_wire_of (hr.mono (by lia)) (Z0 (Z6 0) (Z0 (Z6 2) Z8))))
  (Zb (Jt (Vg (Es hr.units) (Zy C_has_one (hr.mono (by lia)) (Z0 (Zu Zw (Z3 1) (Z5) (fun _ _=>rfl)) (Z0 (Z6 3) Z8))) (Zy C_is_rise (hr.mono (by lia)) (Z0 (Z6 0) (Z0 (Z6 2) Z8))) (Ya _)) (Zj (Li M_0 (hr.mono (by lia)) rfl (Z0 (Mw (Sh (Z0 (Z6 2) Z8))) Z8))) Vi)
  (Zb (Zr 4 Dq.nd rfl (Or.inl rfl) (Zn Kz (Zl Zw (Z3 1) (Z5) (fun _ _=>rfl)) (xun (m:=true) Zb8 (Zy C_bits (hr.mono (by lia)) (Z0 (Zm C_takes_of (hr.mono (by lia)) (Z0 (Z6 0) (Z0 (Z6 2) Z8))) Z8)))))
  (Zb (Zr 5 Dq.nd rfl (Or.inl rfl) (Zm C_bits (hr.mono (by lia)) (Z0 (Zm C_fills_of (hr.mono (by lia)) (Z0 (Z6 0) (Z0 (Z6 2) Z8))) Z8)))
  (Zb (Jt (Vg (Ap hr.units) (Zi Kz (Z3 4) (Z3 5)) (Z5) (Ya _)) (Zj (Li M_1 (hr.mono (by lia)) rfl (Z0 (Mw (Sh (Z0 (Z6 2) Z8))) Z8))) Vi)
  (Zj (Yj (Y8 (Z0 (Zn Z3r (Z3 4) (Z3 5)) (Z0 (Zn Zba (Zl Zw (Z3 1) (Z5) (fun _ _=>rfl)) (Zi Pr (Z5) (Z3 3))) Z8))))))))))))
theorem Z0a (Df:Def K mg "steps_at" Tp) (T:Txt K mg)  (C_can:CalD P w K mg base 2 "can" N40_ false Kj):CalD P w K mg base 3 "steps_at" N52_ true Tj :=
 Yl (N:=N52_) (ps:=N52_) (st:=Tp) (k:=2) (g:=Tt) Df Bj (fun _ _ _ _ _ _ us hl=>ar2 us hl fun _ _=>rfl) (fun f cdv A outer s H E hr=>(by
  unfold Tt;refine (Zj (Rt ?c0))
  case c0=>exact Tn (Z4 Tp) [none,some 0,some 1] N43_ rfl (show CompOk (Z4 Tp) _ N52_ N43_ [none,some 0,some 1] from CompOk.of (by decide +kernel)) rfl (Wa (by rfl) T.b_range (Z0 (Y1 U4 (by rfl) T.b_len (by decide +kernel) (Z0 (Zl Zw (Z3 0) (Z5) (fun _ _=>rfl)) Z8)) Z8)) (fun _ _ _ _=>⟨(Zs 0 (show (N43_:List Str).Nodup from by decide +kernel) rfl (Or.inl rfl)),(Ee (Lb (Zy C_can (hr.mono (by lia)) (Z0 (Z6 1) (Z0 (Z6 2) (Z0 (Z6 0) Z8)))))),(Z6 0)⟩) (by decide)))
theorem Zga (Df:Def K mg "way" Z2e) (T:Txt K mg)   : CalN P w K mg base 1 "way" N61_ true Sf :=
 Zdl (N:=["found","n","steps","at"]) (ps:=N61_) (st:=Z2e) (k:=0) (g:=Pc) Df Fw (fun _ _ _ _ _ _ us hl=>ar2 us hl fun _ _=>rfl) (fun f cdv A outer s H E hr hd=>(by
  unfold Pc;exact (Zb (Ek 2 Fw.nd rfl (Or.inl rfl) (Sh Z8))
  (Zb (Zr 3 Fw.nd rfl (Or.inl rfl) (Z6 1))
  (Zb (Z1h PassesOwn.never (Vg Zgf (Zl Zw (Zl Zw (Z3 0) (Z3 3) (fun _ _=>rfl)) (Z5) (fun _ _=>rfl)) (Z30 (m:=true)) (Ya _)) (Zb (D8 2 PySem.F.slot_list_append PySem.F.type_list_append Sn (Z0 (Zu Zw (Zl Zw (Z3 0) (Z3 3) (fun _ _=>rfl)) (Z5) (fun _ _=>rfl)) Z8))
  (Zj (Zr 3 Fw.nd rfl (Or.inl rfl) (Zu Zw (Zl Zw (Z3 0) (Z3 3) (fun _ _=>rfl)) (Z5) (fun _ _=>rfl))))))
  (Zj (Rt (Z3q (by rfl) T.b_list (by rfl) T.b_reversed (Z0 (xo 2) Z8)))))))))
theorem Z4s (Df:Def K mg "come_to" Dn) (T:Txt K mg) (M_0:XMakeN P w K mg base 1 "Broken" 1 (gW "way")) (M_1:XMakeN P w K mg base 1 "Crowded" 1 (gW "way")) (C_behind:CalX P w K mg base 3 "behind" N40_ false Sl true) (C_way:CalN P w K mg base 1 "way" N61_ true Sf):CalX P w K mg base 4 "come_to" N31_ false R3 :=
 Z0c (N:=N31_) (ps:=N31_) (st:=Dn) (k:=3) (g:=Q5) Df Z11 (fun _ _ _ _ _ _ us hl=>ar4 us hl fun _ _ _ _=>rfl) (fun f cdv A outer s H E hr=>(by
  unfold Q5;exact (Zj (Z9d (known:=N15_) Z8s (fun _ _=>(Zj (Zd9 (B0 C_behind (hr.mono (by lia)) (Z0 (Z6 0) (Z0 (Nm (m:=false) Gr (Zl Zw (Z3 1) (Z3 2) (fun _ _=>rfl)) Sb (Rn (Z5))) (Z0 (Z6 3) Z8))))))) (fun _ _ hd=>(Zj (Bu M_0 (hr.n.mono (by lia)).mark hd (Z0 (Mw (nop Z26 (Zau (m:=true) C_way (hr.n.mono (by lia)).mark hd (Z0 (Z6 1) (Z0 (Z6 2) Z8))) (Ww (Sh (Z0 (Z6 3) Z8))))) Z8) (by intro z;cases z)))) (fun _ _ hd=>(Zj (Bu M_1 (hr.n.mono (by lia)).mark hd (Z0 (Mw (nop Z26 (Zau (m:=true) C_way (hr.n.mono (by lia)).mark hd (Z0 (Z6 1) (Z0 (Z6 2) Z8))) (Ww (Sh (Z0 (Z6 3) Z8))))) Z8) (by intro z;cases z)))) T.q_0 T.q_1))))
theorem Z79 (Df:Def K mg "stands" Hc) (T:Txt K mg) (M_2:XMake P w K mg base 1 "TooMany" 0 gZ) (C_steps_at:CalD P w K mg base 3 "steps_at" N52_ true Tj) (C_come_to:CalX P w K mg base 4 "come_to" N31_ false R3):CalX P w K mg base 5 "stands" N56_ true Jn :=
 Z0c (N:=N10_) (ps:=N56_) (st:=Hc) (k:=4) (g:=Mt) Df Uj (fun _ _ _ _ _ _ us hl=>ar2 us hl fun _ _=>rfl) (fun f cdv A outer s H E hr=>(by
  unfold Mt;exact (Zb (Ek 2 Uj.nd rfl (Or.inl rfl) (Sh (Z0 (Y8 (Z0 (Zu Zw (Z3 0) (Z5) (fun _ _=>rfl)) (Z0 (Zu Zw (Z3 0) (Z5) (fun _ _=>rfl)) (Z0 (Z30 (m:=false)) (Z0 (Z30 (m:=false)) Z8))))) Z8)))
  (Zb (Zby 3 Uj.nd rfl (Or.inl rfl) (Z5k hr) (R5 (Z0 (Zu Zw (Z3 0) (Z5) (fun _ _=>rfl)) (Z0 (Zu Zw (Z3 0) (Z5) (fun _ _=>rfl)) Z8))) (V9))
  (Zb (Zr 4 Uj.nd rfl (Or.inl rfl) (W7))
  (Zb (Z1h Fd (Vg Zcb (Z3 4) (Y1 U4 (by rfl) T.b_len (by decide +kernel) (Z0 (xo 2) Z8)) (Ya _)) (Zb (Zr 5 Uj.nd rfl (Or.inl rfl) (Zm C_steps_at (hr.mono (by lia)) (Z0 (Z6 0) (Z0 (Nm (m:=false) Gr (Zl Zw (xo 2) (Z3 4) (fun _ _=>rfl)) Sb (Rn (Z5))) Z8))))
  (Zb (U9 Fd rfl (Oe (Z6 5)) (Zs 6 Uj.nd rfl (Or.inl rfl)) (Zb (F8 7 Uj.nd rfl (Or.inl rfl) (Zc1 C_come_to (hr.mono (by lia)) (Z0 (Z3 0) (Z0 (xo 2) (Z0 (Z3 4) (Z0 (Z3 6) Z8))))))
  (Zb (Jt (Zi7 3 (Z5k hr) (Z3 7)) (Zj Zcz) Vi)
  (Zb (Jt (Vg Zfc (Y1 U4 (by rfl) T.b_len (by decide +kernel) (Z0 (xo 2) Z8)) (Z3 1) (Ya _)) (Zj (Z6v M_2 (hr.mono (by lia)) rfl)) Vi)
  (Zb (Zbx 3 (Z5k hr) (Z3 7) (V9))
  (Zj (D8 2 PySem.F.slot_list_append PySem.F.type_list_append Sn (Z0 (Y8 (Z0 (Zu Zw (Z3 7) (Z5) (fun _ _=>rfl)) (Z0 (Zu Zw (Z3 7) (Z5) (fun _ _=>rfl)) (Z0 (Z6 4) (Z0 (Z6 6) Z8))))) Z8))))))))
  (Zj (Zgh 4 Uj.nd rfl (Or.inl rfl) (W7))))))
  (Zj (N7 2))))))))
theorem Ch (Df:Def K mg "is_called" Ul) (T:Txt K mg)  (C_can:CalD P w K mg base 2 "can" N40_ false Kj) (C_steps_of:CalD P w K mg base 1 "steps_of" N49_ true S7):CalD P w K mg base 3 "is_called" N32_ false Qp :=
 Yl (N:=N32_) (ps:=N32_) (st:=Ul) (k:=2) (g:=Ur) Df Fq (fun _ _ _ _ _ _ us hl=>ar4 us hl fun _ _ _ _=>rfl) (fun f cdv A outer s H E hr=>(by
  unfold Ur;refine (Zj (Yj (Ug (Zf9 rfl) (by rfl) T.b_any (by decide +kernel) (Z0 (Ww ?c0) Z8))))
  case c0=>exact Tn (Z4 Ul) [none,some 0,some 1] N43_ rfl (show CompOk (Z4 Ul) _ N32_ N43_ [none,some 0,some 1] from CompOk.of (by decide +kernel)) rfl (S9 (Zy C_steps_of (hr.mono (by lia)) (Z0 (Z6 0) (Z0 (Z6 2) (Z0 (Z6 3) Z8))))) (fun _ _ _ _=>⟨(Zs 0 (show (N43_:List Str).Nodup from by decide +kernel) rfl (Or.inl rfl)),Ef,(Zm C_can (hr.mono (by lia)) (Z0 (Z6 1) (Z0 (Z6 2) (Z0 (Z6 0) Z8))))⟩) (by decide)))
theorem Z9o (Df:Def K mg "wants" Lq) (T:Txt K mg)  (C_is_called:CalD P w K mg base 3 "is_called" N32_ false Qp):CalD P w K mg base 4 "wants" N41_ false Hx :=
 Yl (N:=N41_) (ps:=N41_) (st:=Lq) (k:=3) (g:=Dd) Df Z5h (fun _ _ _ _ _ _ us hl=>ar3 us hl fun _ _ _=>rfl) (fun f cdv A outer s H E hr=>(by
  unfold Dd;exact (Zb (Jt (Lb (Zy C_is_called (hr.mono (by lia)) (Z0 (Z6 0) (Z0 (Z6 1) (Z0 (Z6 2) (Z0 (V9) Z8)))))) (Zj (Yj (W7))) Vi)
  (Zb (Jt (Lb (Zy C_is_called (hr.mono (by lia)) (Z0 (Z6 0) (Z0 (Z6 1) (Z0 (Z6 2) (Z0 (V9) Z8)))))) (Zj (Yj (xun (m:=false) Zgr (Z5)))) Vi)
  (Zj (Yj (W7)))))))
theorem Zcw (Df:Def K mg "robs" Fu) (T:Txt K mg)  (C_bits:CalD P w K mg base 1 "bits" ["some"] false T7) (C_takes_of:CalD P w K mg base 1 "takes_of" N55_ false Yo) (C_fills_of:CalD P w K mg base 1 "fills_of" N55_ false Vo):CalD P w K mg base 2 "robs" N50_ false F6 :=
 Yl (N:=["graph","by","lost","kept"]) (ps:=N50_) (st:=Fu) (k:=1) (g:=Iz) Df Z25 (fun _ _ _ _ _ _ us hl=>ar3 us hl fun _ _ _=>rfl) (fun f cdv A outer s H E hr=>(by
  unfold Iz;exact (Zb (Zr 3 Z25.nd rfl (Or.inl rfl) (Zn Kz (Zy C_bits (hr.mono (by lia)) (Z0 (Zm C_takes_of (hr.mono (by lia)) (Z0 (Z6 0) (Z0 (Z6 1) Z8))) Z8)) (xun (m:=true) Zb8 (Zy C_bits (hr.mono (by lia)) (Z0 (Zm C_fills_of (hr.mono (by lia)) (Z0 (Z6 0) (Z0 (Z6 1) Z8))) Z8)))))
  (Zj (Yj (Qj (Ap hr.units) (Zi Kz (Z3 3) (Zy C_bits (hr.mono (by lia)) (Z0 (Zm C_takes_of (hr.mono (by lia)) (Z0 (Z6 0) (Z0 (Z6 2) Z8))) Z8))) (Z5) (Ya _)))))))
theorem Nu (Df:Def K mg "touches_made" Uy) (T:Txt K mg)  (C_is_made:CalD P w K mg base 1 "is_made" N54_ false V4) (C_wire_of:CalD P w K mg base 1 "wire_of" N55_ false Vd):CalD P w K mg base 2 "touches_made" N50_ false T4 :=
 Yl (N:=N50_) (ps:=N50_) (st:=Uy) (k:=1) (g:=V0) Df L9 (fun _ _ _ _ _ _ us hl=>ar3 us hl fun _ _ _=>rfl) (fun f cdv A outer s H E hr=>(by
  unfold V0;exact (Zj (Yj (xor (m:=false) (Zy C_is_made (hr.mono (by lia)) (Z0 (Z6 0) (Z0 (Zm C_wire_of (hr.mono (by lia)) (Z0 (Z6 0) (Z0 (Z6 1) Z8))) Z8))) (Zi1 (Zm C_is_made (hr.mono (by lia)) (Z0 (Z6 0) (Z0 (Zm C_wire_of (hr.mono (by lia)) (Z0 (Z6 0) (Z0 (Z6 2) Z8))) Z8)))))))))
theorem Z7k (Df:Def K mg "rivals" Gx) (T:Txt K mg)  (C_touches_made:CalD P w K mg base 2 "touches_made" N50_ false T4) (C_robs:CalD P w K mg base 2 "robs" N50_ false F6):CalD P w K mg base 3 "rivals" N62_ true Gm :=
 Yl (N:=["graph","pairs","by","lost"]) (ps:=N62_) (st:=Gx) (k:=2) (g:=Mx) Df Dx (fun _ _ _ _ _ _ us hl=>ar1 us hl fun _=>rfl) (fun f cdv A outer s H E hr=>(by
  unfold Mx;exact (Zb (Ek 1 Dx.nd rfl (Or.inl rfl) (Sh Z8))
  (Zb (U9 PassesOwn.never rfl (Wa (by rfl) T.b_range (Z0 (Y1 U4 (by rfl) T.b_len (by decide +kernel) (Z0 (Zl Zw (Z3 0) (Z5) (fun _ _=>rfl)) Z8)) Z8)) (Zs 2 Dx.nd rfl (Or.inl rfl)) (Zj (U9 PassesOwn.never rfl (Wa (by rfl) T.b_range (Z0 (Y1 U4 (by rfl) T.b_len (by decide +kernel) (Z0 (Zl Zw (Z3 0) (Z5) (fun _ _=>rfl)) Z8)) Z8)) (Zs 3 Dx.nd rfl (Or.inl rfl)) (Zj (Jt (Fg.pt (Nh (Vg (Ap hr.units) (Z3 2) (Z3 3) (Ya _)) (Nh (Lb (Zy C_touches_made (hr.mono (by lia)) (Z0 (Z6 0) (Z0 (Z6 2) (Z0 (Z6 3) Z8))))) (K5 (Lb (Zy C_robs (hr.mono (by lia)) (Z0 (Z6 0) (Z0 (Z6 2) (Z0 (Z6 3) Z8))))))))) (Zj (D8 1 PySem.F.slot_list_append PySem.F.type_list_append Sn (Z0 (Y8 (Z0 (Z6 2) (Z0 (Z6 3) Z8))) Z8))) Vi)))))
  (Zj (N7 1))))))
theorem Zaq (Df:Def K mg "sound" Ll) (T:Txt K mg) (M_3:XMake P w K mg base 1 "CalledOff" 3 (gC "way" "lost" "by")) (C_stands:CalX P w K mg base 5 "stands" N56_ true Jn) (C_rivals:CalD P w K mg base 3 "rivals" N62_ true Gm) (C_steps_at:CalD P w K mg base 3 "steps_at" N52_ true Tj) (C_way:CalD P w K mg base 1 "way" N61_ true Sf):CalX P w K mg base 6 "sound" N56_ false Vj :=
 Z0c (N:=N9_) (ps:=N56_) (st:=Ll) (k:=5) (g:=Ma) Df Qm (fun _ _ _ _ _ _ us hl=>ar2 us hl fun _ _=>rfl) (fun f cdv A outer s H E hr=>(by
  unfold Ma;exact (Zb (F8 2 Qm.nd rfl (Or.inl rfl) (B0 C_stands (hr.mono (by lia)) (Z0 (Z6 0) (Z0 (Z6 1) Z8))))
  (Zb (Zr 3 Qm.nd rfl (Or.inl rfl) (Zm C_rivals (hr.mono (by lia)) (Z0 (Z6 0) Z8)))
  (Zb (U9 Fd rfl (Z02 (by rfl) T.b_enumerate (Z6 2)) (D0 (n:=2) rfl (Yt (Zs 4 Qm.nd rfl (Or.inl rfl)) (Yt (Zs 5 Qm.nd rfl (Or.inl rfl)) Jo))) (Zb (Zr 6 Qm.nd rfl (Or.inl rfl) (Zm C_steps_at (hr.mono (by lia)) (Z0 (Z6 0) (Z0 (Nm (m:=false) Gr (Z3 5) Sb (Rn (Z5))) Z8))))
  (Zj (U9 Fd rfl (Oe (Z6 3)) (D0 (n:=2) rfl (Yt (Zs 7 Qm.nd rfl (Or.inl rfl)) (Yt (Zs 8 Qm.nd rfl (Or.inl rfl)) Jo))) (Zj (Jt (Fg.pt (Nh (Vg (Z4v hr.units) (Z3 7) (Z3 6) (by rfl)) (K5 (Vg (Z4v hr.units) (Z3 8) (Z3 6) (by rfl))))) (Zj (Li M_3 (hr.mono (by lia)) rfl (Z0 (Zm C_way (hr.mono (by lia)) (Z0 (Z6 2) (Z0 (Z6 4) Z8))) (Z0 (Z6 8) (Z0 (Z6 7) Z8))))) Vi))))))
  (Zj (Yj (Z6 2))))))))
theorem Z15 (Df:Def K mg "wants_of" Tk) (T:Txt K mg)  (C_wants:CalD P w K mg base 4 "wants" N41_ false Hx):CalD P w K mg base 5 "wants_of" N38_ true Jq :=
 Yl (N:=N38_) (ps:=N38_) (st:=Tk) (k:=4) (g:=Tu) Df Af (fun _ _ _ _ _ _ us hl=>ar3 us hl fun _ _ _=>rfl) (fun f cdv A outer s H E hr=>(by
  unfold Tu;refine (Zj (Rt ?c0))
  case c0=>exact Tn (Z4 Tk) [none,some 0,some 1] N44_ rfl (show CompOk (Z4 Tk) _ N38_ N44_ [none,some 0,some 1] from CompOk.of (by decide +kernel)) rfl (S9 (Z3 2)) (fun _ _ _ _=>⟨(Zs 0 (show (N44_:List Str).Nodup from by decide +kernel) rfl (Or.inl rfl)),Ef,(Zm C_wants (hr.mono (by lia)) (Z0 (Z6 1) (Z0 (Z6 2) (Z0 (Z6 0) Z8))))⟩) (by decide)))
theorem Z76 (Df:Def K mg "unlike" Ms) (T:Txt K mg)   : CalD P w K mg base 1 "unlike" N45_ true Ij :=
 Yl (N:=N45_) (ps:=N45_) (st:=Ms) (k:=0) (g:=R0) Df Z42 (fun _ _ _ _ _ _ us hl=>ar3 us hl fun _ _ _=>rfl) (fun f cdv A outer s H E hr=>(by
  unfold R0;refine (Zj (Rt ?c0))
  case c0=>exact Tn (Z4 Ms) [none,none,some 1,some 2] N30_ rfl (show CompOk (Z4 Ms) _ N45_ N30_ [none,none,some 1,some 2] from CompOk.of (by decide +kernel)) rfl (N2 (by rfl) T.b_enumerate (Z3 0)) (fun _ _ _ _=>⟨(D0 (n:=2) rfl (Yt (Zs 0 (show (N30_:List Str).Nodup from by decide +kernel) rfl (Or.inl rfl)) (Yt (Zs 1 (show (N30_:List Str).Nodup from by decide +kernel) rfl (Or.inl rfl)) Jo))),(Ee (Vg (Ap hr.units) (Zl Zw (Z3 2) (Z3 0) (fun _ _=>rfl)) (Zl Zw (Z3 3) (Z3 0) (fun _ _=>rfl)) (Ya _))),(Z6 1)⟩) (by decide)))
theorem L7 (Df:Def K mg "clashes_among" Ys) (T:Txt K mg)  (C_made:CalD P w K mg base 2 "made" N62_ true Xe) (C_wants_of:CalD P w K mg base 5 "wants_of" N38_ true Jq) (C_unlike:CalD P w K mg base 1 "unlike" N45_ true Ij):CalD P w K mg base 6 "clashes_among" N53_ true Uf :=
 Yl (N:=N16_) (ps:=N53_) (st:=Ys) (k:=5) (g:=Wq) Df Wh (fun _ _ _ _ _ _ us hl=>ar2 us hl fun _ _=>rfl) (fun f cdv A outer s H E hr=>(by
  unfold Wq;refine (Zb (Zr 2 Wh.nd rfl (Or.inr rfl) (Zm C_made (hr.mono (by lia)) (Z0 (Z6 0) Z8)))
  (Zb (A6 3 Wh.nd rfl (Or.inl rfl) (Z4 Ys) [none,some 0,some 2] N39_ rfl (show CompOk (Z4 Ys) _ N16_ N39_ [none,some 0,some 2] from CompOk.of (by decide +kernel)) rfl (S9 (Z3 1)) (fun _ _ _ _=>⟨(Zs 0 (show (N39_:List Str).Nodup from by decide +kernel) rfl (Or.inl rfl)),Ef,(Zm C_wants_of (hr.mono (by lia)) (Z0 (Z6 1) (Z0 (Nm (m:=false) Gr (Z3 0) Sb (Rn (Z5))) (Z0 (Z6 2) Z8))))⟩) (by decide))
  (Zb (Ek 4 Wh.nd rfl (Or.inl rfl) (Sh Z8))
  (Zb (U9 PassesOwn.never rfl (Wa (by rfl) T.b_range (Z0 (Y1 U4 (by rfl) T.b_len (by decide +kernel) (Z0 (Z3 1) Z8)) Z8)) (Zs 5 Wh.nd rfl (Or.inr rfl)) (Zj (U9 PassesOwn.never rfl (Z7s (by rfl) T.b_range (Z0 (Zi W2 (Z3 5) (Z5)) (Z0 (Y1 U4 (by rfl) T.b_len (by decide +kernel) (Z0 (Z3 1) Z8)) Z8))) (Zs 6 Wh.nd rfl (Or.inr rfl)) (Zj (Jt (Vg (Es hr.units) (Zl Zw (Zl Zw (Z3 1) (Z3 5) (fun _ _=>rfl)) (Z5) (fun _ _=>rfl)) (Zl Zw (Zl Zw (Z3 1) (Z3 6) (fun _ _=>rfl)) (Z5) (fun _ _=>rfl)) (Ya _)) (Zj (D8 4 PySem.F.slot_list_extend PySem.F.type_list_extend Z5f (Z0 (Mw ?c0) Z8))) Vi)))))
  (Zj (N7 4))))))
  case c0=>exact Tn (Z4 Ys) [none,some 5,some 6] ["wire","n","m"] rfl (show CompOk (Z4 Ys) _ N16_ ["wire","n","m"] [none,some 5,some 6] from CompOk.of (by decide +kernel)) rfl (S9 (Zy C_unlike (hr.mono (by lia)) (Z0 (Z6 2) (Z0 (Zu Zw (Z3 3) (Z3 5) (fun _ _=>rfl)) (Z0 (Zu Zw (Z3 3) (Z3 6) (fun _ _=>rfl)) Z8))))) (fun _ _ _ _=>⟨(Zs 0 (show (["wire","n","m"]:List Str).Nodup from by decide +kernel) rfl (Or.inl rfl)),Ef,(Y8 (Z0 (Z6 1) (Z0 (Z6 2) (Z0 (Z6 0) Z8))))⟩) (by decide)))
theorem Au (Df:Def K mg "need_none" M6) (T:Txt K mg) (M_4:XMake P w K mg base 1 "Clash" 3 (gK "one" "other" "wire")) (C_sound:CalX P w K mg base 6 "sound" N56_ false Vj) (C_clashes_among:CalD P w K mg base 6 "clashes_among" N53_ true Uf) (C_way:CalD P w K mg base 1 "way" N61_ true Sf):CalX P w K mg base 7 "need_none" N56_ false V6 :=
 Zci (N:=["graph","most","found","told","first"]) (ps:=N56_) (st:=M6) (k:=6) (g:=Wt) Df Jd (fun _ _ _ _ _ _ us hl=>ar2 us hl fun _ _=>rfl) (fun f cdv A outer s H E hr=>(by
  unfold Wt;exact (Zb (F8 2 Jd.nd rfl (Or.inl rfl) (B0 C_sound (hr.mono (by lia)) (Z0 (Z6 0) (Z0 (Z6 1) Z8))))
  (Zb (Zr 3 Jd.nd rfl (Or.inl rfl) (Zm C_clashes_among (hr.mono (by lia)) (Z0 (Z6 0) (Z0 (Z6 2) Z8))))
  (Zb (Jt (Vg Z8l (Y1 U4 (by rfl) T.b_len (by decide +kernel) (Z0 (Z3 3) Z8)) (Z5) (Ya _)) (Zb (Zr 4 Jd.nd rfl (Or.inl rfl) (Zu Zw (Z3 3) (Z5) (fun _ _=>rfl)))
  (Zj (Li M_4 (hr.mono (by lia)) rfl (Z0 (Zm C_way (hr.mono (by lia)) (Z0 (Z6 2) (Z0 (Zu Zw (Z3 4) (Z5) (fun _ _=>rfl)) Z8))) (Z0 (Zm C_way (hr.mono (by lia)) (Z0 (Z6 2) (Z0 (Zu Zw (Z3 4) (Z5) (fun _ _=>rfl)) Z8))) (Z0 (Zu Zw (Z3 4) (Z5) (fun _ _=>rfl)) Z8)))))) Vi)
  (Zj (Yj (Z6 2))))))))
theorem Xm (Df:Def K mg "free_spots" Vq) (T:Txt K mg)  (C_bits:CalD P w K mg base 1 "bits" ["some"] false T7) (C_fills_of:CalD P w K mg base 1 "fills_of" N55_ false Vo) (C_has_one:CalD P w K mg base 1 "has_one" N51_ false Tl) (C_takes_of:CalD P w K mg base 1 "takes_of" N55_ false Yo):CalD P w K mg base 2 "free_spots" N62_ true Vy :=
 Yl (N:=N46_) (ps:=N62_) (st:=Vq) (k:=1) (g:=Vz) Df Qb (fun _ _ _ _ _ _ us hl=>ar1 us hl fun _=>rfl) (fun f cdv A outer s H E hr=>(by
  unfold Vz;refine (Zb (Zr 1 Qb.nd rfl (Or.inr rfl) (Zu Zw (Z3 0) (Z5) (fun _ _=>rfl)))
  (Zb (U9 PassesOwn.never rfl (Wa (by rfl) T.b_range (Z0 (Y1 U4 (by rfl) T.b_len (by decide +kernel) (Z0 (Zl Zw (Z3 0) (Z5) (fun _ _=>rfl)) Z8)) Z8)) (Zs 2 Qb.nd rfl (Or.inl rfl)) (Zj (Zr 1 Qb.nd rfl (Or.inr rfl) (Zn Z3r (Zi Z3r (Z3 1) (Zy C_bits (hr.mono (by lia)) (Z0 (Zm C_takes_of (hr.mono (by lia)) (Z0 (Z6 0) (Z0 (Z6 2) Z8))) Z8))) (Zy C_bits (hr.mono (by lia)) (Z0 (Zm C_fills_of (hr.mono (by lia)) (Z0 (Z6 0) (Z0 (Z6 2) Z8))) Z8))))))
  (Zj (Rt ?c0))))
  case c0=>exact Tn (Z4 Vq) [none,some 1] ["spot","used"] rfl (show CompOk (Z4 Vq) _ N46_ ["spot","used"] [none,some 1] from CompOk.of (by decide +kernel)) rfl (Wa (by rfl) T.b_range (Z0 (Xp (m:=true) T) Z8)) (fun _ _ _ _=>⟨(Zs 0 (show (["spot","used"]:List Str).Nodup from by decide +kernel) rfl (Or.inl rfl)),(Ee (Zap (Lb (Zy C_has_one (hr.mono (by lia)) (Z0 (Z6 1) (Z0 (Z6 0) Z8)))))),(Z6 0)⟩) (by decide)))
theorem Z0r (Df:Def K mg "has_room" S5) (T:Txt K mg)  (C_free_spots:CalD P w K mg base 2 "free_spots" N62_ true Vy):CalD P w K mg base 3 "has_room" N62_ false Rz :=
 Yl (N:=N62_) (ps:=N62_) (st:=S5) (k:=2) (g:=Tr) Df Ck (fun _ _ _ _ _ _ us hl=>ar1 us hl fun _=>rfl) (fun f cdv A outer s H E hr=>(by
  unfold Tr;exact (Zb (Jt (Fg.pt (Cp (Vg Z8l (Y1 U4 (by rfl) T.b_len (by decide +kernel) (Z0 (Zl Zw (Z3 0) (Z5) (fun _ _=>rfl)) Z8)) (G5 (m:=true) T) (Ya _)) (Ci (Vg Z8l (Y1 U4 (by rfl) T.b_len (by decide +kernel) (Z0 (Zl Zw (Z3 0) (Z5) (fun _ _=>rfl)) Z8)) (Eu (m:=true) T) (Ya _))))) (Zj (Yj (V9))) Vi)
  (Zj (Yj (Qj Zfc (Y1 U4 (by rfl) T.b_len (by decide +kernel) (Z0 (Zy C_free_spots (hr.mono (by lia)) (Z0 (Z6 0) Z8)) Z8)) (Z5) (Ya _)))))))
theorem Cg (Df:Def K mg "need_room" M0) (T:Txt K mg)  (C_is_name:CalD P w K mg base 1 "is_name" ["text"] false Uk) (C_names:CalD P w K mg base 1 "names" N62_ true Lg) (C_has_room:CalD P w K mg base 3 "has_room" N62_ false Rz):CalD P w K mg base 4 "need_room" N57_ false M8 :=
 Yl (N:=N57_) (ps:=N57_) (st:=M0) (k:=3) (g:=Uq) Df Fa (fun _ _ _ _ _ _ us hl=>ar2 us hl fun _ _=>rfl) (fun f cdv A outer s H E hr=>(by
  unfold Uq;exact (Zj (Jt (Fg.pt (Cp (Zap (Lb (Zy C_is_name (hr.mono (by lia)) (Z0 (Z6 1) Z8)))) (Cp (Vg (Z4v hr.units) (Z3 1) (Zy C_names (hr.mono (by lia)) (Z0 (Z6 0) Z8)) (by rfl)) (Ci (Zap (Lb (Zy C_has_room (hr.mono (by lia)) (Z0 (Z6 0) Z8)))))))) (Zj Zgm) Vi))))
theorem Z0g (Df:Def K mg "need_two" S6) (T:Txt K mg)   : CalD P w K mg base 3 "need_two" N35_ false Rb :=
 Yl (N:=N35_) (ps:=N35_) (st:=S6) (k:=2) (g:=Ts) Df Be (fun _ _ _ _ _ _ us hl=>ar3 us hl fun _ _ _=>rfl) (fun f cdv A outer s H E hr=>(by
  unfold Ts;exact (Zj (Jt (Fg.pt (Cp (Vg (Es hr.units) (Z3 1) (Z3 2) (Ya _)) (Cp (Vg (Pt hr.units) (Z3 1) (Z3 0) (by rfl)) (Ci (Vg (Pt hr.units) (Z3 2) (Z3 0) (by rfl)))))) (Zj Zgm) Vi))))
theorem Z36 (Df:Def K mg "waiting" Dr) (T:Txt K mg)   : CalD P w K mg base 1 "waiting" N58_ false R7 :=
 Yl (N:=N58_) (ps:=N58_) (st:=Dr) (k:=0) (g:=Jk) Df Z14 (fun _ _ _ _ _ _ us hl=>ar2 us hl fun _ _=>rfl) (fun f cdv A outer s H E hr=>(by
  unfold Jk;exact (Zj (Yj (Y8 (Z0 (Zu Zw (Z3 0) (Z5) (fun _ _=>rfl)) (Z0 (Zu Zw (Z3 0) (Z5) (fun _ _=>rfl)) (Z0 (Y8 (Z0 (Z6 1) Z8)) (Z0 (Zu Zw (Z3 0) (Z5) (fun _ _=>rfl)) Z8)))))))))
theorem Fo (Df:Def K mg "made_steps" Vs) (T:Txt K mg)  (C_is_made:CalD P w K mg base 1 "is_made" N54_ false V4) (C_wire_of:CalD P w K mg base 1 "wire_of" N55_ false Vd):CalD P w K mg base 2 "made_steps" N62_ true J6 :=
 Yl (N:=N62_) (ps:=N62_) (st:=Vs) (k:=1) (g:=Vx) Df Oy (fun _ _ _ _ _ _ us hl=>ar1 us hl fun _=>rfl) (fun f cdv A outer s H E hr=>(by
  unfold Vx;refine (Zj (Rt ?c0))
  case c0=>exact Tn (Z4 Vs) [none,some 0] ["step","graph"] rfl (show CompOk (Z4 Vs) _ N62_ ["step","graph"] [none,some 0] from CompOk.of (by decide +kernel)) rfl (Wa (by rfl) T.b_range (Z0 (Y1 U4 (by rfl) T.b_len (by decide +kernel) (Z0 (Zl Zw (Z3 0) (Z5) (fun _ _=>rfl)) Z8)) Z8)) (fun _ _ _ _=>⟨(Zs 0 (show (["step","graph"]:List Str).Nodup from by decide +kernel) rfl (Or.inl rfl)),(Ee (Lb (Zy C_is_made (hr.mono (by lia)) (Z0 (Z6 1) (Z0 (Zm C_wire_of (hr.mono (by lia)) (Z0 (Z6 1) (Z0 (Z6 0) Z8))) Z8))))),(Z6 0)⟩) (by decide)))
theorem Z6t (Df:Def K mg "put_in" Ho) (T:Txt K mg)  (C_need_room:CalD P w K mg base 4 "need_room" N57_ false M8) (C_need_two:CalD P w K mg base 3 "need_two" N35_ false Rb) (C_free_spots:CalD P w K mg base 2 "free_spots" N62_ true Vy) (C_waiting:CalD P w K mg base 1 "waiting" N58_ false R7) (C_made_steps:CalD P w K mg base 2 "made_steps" N62_ true J6) (C_takes_of:CalD P w K mg base 1 "takes_of" N55_ false Yo):CalD P w K mg base 5 "put_in" N27_ false T9 :=
 Yl (N:=N7_) (ps:=N27_) (st:=Ho) (k:=4) (g:=R9) Df Jj (fun _ _ _ _ _ _ us hl=>ar4 us hl fun _ _ _ _=>rfl) (fun f cdv A outer s H E hr=>(by
  unfold R9;exact (Zb (Z5r (Zy C_need_room (hr.mono (by lia)) (Z0 (Z6 0) (Z0 (Z6 1) Z8))))
  (Zb (Z5r (Zy C_need_two (hr.mono (by lia)) (Z0 (Zm C_made_steps (hr.mono (by lia)) (Z0 (Z6 0) Z8)) (Z0 (Z6 2) (Z0 (Z6 3) Z8)))))
  (Zb (Zr 4 Jj.nd rfl (Or.inl rfl) (Ug U4 (by rfl) T.b_len (by decide +kernel) (Z0 (Zl Zw (Z3 0) (Z5) (fun _ _=>rfl)) Z8)))
  (Zb (Zr 5 Jj.nd rfl (Or.inl rfl) (Zm C_free_spots (hr.mono (by lia)) (Z0 (Z6 0) Z8)))
  (Zb (Zr 6 Jj.nd rfl (Or.inl rfl) (Y8 (Z0 (Z6 4) (Z0 (V9) (Z0 (Zm C_takes_of (hr.mono (by lia)) (Z0 (Z6 0) (Z0 (Z6 2) Z8))) (Z0 (Y8 (Z0 (Zu Zw (Z3 5) (Z5) (fun _ _=>rfl)) Z8)) Z8))))))
  (Zb (Zr 7 Jj.nd rfl (Or.inl rfl) (Y8 (Z0 (Z6 4) (Z0 (V9) (Z0 (Zm C_takes_of (hr.mono (by lia)) (Z0 (Z6 0) (Z0 (Z6 3) Z8))) (Z0 (Y8 (Z0 (Zu Zw (Z3 5) (Z5) (fun _ _=>rfl)) Z8)) Z8))))))
  (Zb (Ek 8 Jj.nd rfl (Or.inl rfl) (Z75 Z7u (by rfl) T.b_list (by decide +kernel) (Z0 (Zl Zw (Z3 0) (Z5) (fun _ _=>rfl)) Z8)))
  (Zb (K6 8 (Z3 2) (Zm C_waiting (hr.mono (by lia)) (Z0 (Zu Zw (xo 8) (Z3 2) (fun _ _=>rfl)) (Z0 (Zu Zw (Z3 5) (Z5) (fun _ _=>rfl)) Z8))))
  (Zb (K6 8 (Z3 3) (Zm C_waiting (hr.mono (by lia)) (Z0 (Zu Zw (xo 8) (Z3 3) (fun _ _=>rfl)) (Z0 (Zu Zw (Z3 5) (Z5) (fun _ _=>rfl)) Z8))))
  (Zj (Yj (Y8 (Z0 (Zn Z5w (Zl Zw (Z3 0) (Z5) (fun _ _=>rfl)) (R5 (Z0 (Y8 (Z0 (Z6 1) (Z0 (Yr) Z8))) Z8))) (Z0 (Ew (m:=false) E2 (by rfl) T.b_tuple (by decide +kernel) (Z0 (Zi W2 (xo 8) (Ww (Sh (Z0 (Z6 6) (Z0 (Z6 7) Z8))))) Z8)) (Z0 (Zu Zw (Z3 0) (Z5) (fun _ _=>rfl)) (Z0 (Zu Zw (Z3 0) (Z5) (fun _ _=>rfl)) Z8))))))))))))))))))
theorem Z34 (Df:Def K mg "is_calm" Do) (T:Txt K mg)  (C_need_none:CalX P w K mg base 7 "need_none" N56_ false V6):CalD P w K mg base 8 "is_calm" N56_ false Up :=
 Yl (N:=N56_) (ps:=N56_) (st:=Do) (k:=7) (g:=Q4) Df Z16 (fun _ _ _ _ _ _ us hl=>ar2 us hl fun _ _=>rfl) (fun f cdv A outer s H E hr=>(by
  unfold Q4;exact (Zb (Z1o (known:=N15_) (b1':=(fun _=>true)) (fun _=>PassesOwnAt.never) (fun _ _=>(Zj (Z9y (B0 C_need_none (hr.mono (by lia)) (Z0 (Z6 0) (Z0 (Z6 1) Z8)))))) (fun _ _=>(Zj (Yj (V9)))) T.u_8)
  (Zj (Yj (V9))))))
theorem Z8m (Df:Def K mg "parts" Lu) (T:Txt K mg)  (C_is_calm:CalD P w K mg base 8 "is_calm" N56_ false Up) (C_put_in:CalD P w K mg base 5 "put_in" N27_ false T9):CalD P w K mg base 9 "parts" N22_ false Dw :=
 Yl (N:=N22_) (ps:=N22_) (st:=Lu) (k:=8) (g:=Ds) Df Z89 (fun _ _ _ _ _ _ us hl=>ar5 us hl fun _ _ _ _ _=>rfl) (fun f cdv A outer s H E hr=>(by
  unfold Ds;exact (Zj (Yj (Zm C_is_calm (hr.mono (by lia)) (Z0 (Zm C_put_in (hr.mono (by lia)) (Z0 (Z6 0) (Z0 (Z6 1) (Z0 (Z6 2) (Z0 (Z6 3) Z8))))) (Z0 (Z6 4) Z8)))))))
theorem Z0f (Df:Def K mg "_law_mix" Rg) (T:Txt K mg)   : CalD P w K mg base 1 "_law_mix" N42_ false Y9 :=
 Yl (N:=["_law_script","_law_k","_law_number"]) (ps:=N42_) (st:=Rg) (k:=0) (g:=Q6) Df D7 (fun _ _ _ _ _ _ us hl=>ar2 us hl fun _ _=>rfl) (fun f cdv A outer s H E hr=>(by
  unfold Q6;exact (Zb (Zr 2 D7.nd rfl (Or.inl rfl) (Zn W2 (Zi D5 (Z5) (Z3 1)) (Z5)))
  (Zb (Jt (Vg Zcb (Z3 1) (Y1 U4 (by rfl) T.b_len (by decide +kernel) (Z0 (Z3 0) Z8)) (Ya _)) (Zj (Zr 2 D7.nd rfl (Or.inl rfl) (Zn W2 (Z3 2) (Zi D5 (Zl Zw (Z3 0) (Z3 1) (fun _ _=>rfl)) (Z5))))) Vi)
  (Zj (Yj (Zn U5 (Zi D5 (Z3 2) (Z5)) (Z5))))))))
theorem Bi (Df:Def K mg "_law_word" M5) (T:Txt K mg)   : CalD P w K mg base 1 "_law_word" N48_ false Qg :=
 Yl (N:=N3_) (ps:=N48_) (st:=M5) (k:=0) (g:=Uo) Df W1 (fun _ _ _ _ _ _ us hl=>ar2 us hl fun _ _=>rfl) (fun f cdv A outer s H E hr=>(by
  unfold Uo;exact (Zb (Zr 2 W1.nd rfl (Or.inl rfl) (Yr))
  (Zb (Zr 3 W1.nd rfl (Or.inl rfl) (Zn W2 (Z5) (Zi U5 (Z3 0) (Z5))))
  (Zb (Zr 4 W1.nd rfl (Or.inl rfl) (Zn U5 (Zi U6 (Z3 0) (Z5)) (Z3 3)))
  (Zb (Zr 5 W1.nd rfl (Or.inl rfl) (Yr))
  (Zb (U9 PassesOwn.never rfl (Wa (by rfl) T.b_range (Z0 (Z3 3) Z8)) (Zs 6 W1.nd rfl (Or.inl rfl)) (Zb (Zr 7 W1.nd rfl (Or.inl rfl) (W7))
  (Zb (Jt (Vg (Es hr.units) (Z3 6) (Z3 4) (Ya _)) (Zj (Zr 7 W1.nd rfl (Or.inl rfl) (Z6 1))) Vi)
  (Zj (Zr 5 W1.nd rfl (Or.inl rfl) (Zn W2 (Z3 5) (Zl Zw (Z3 2) (Zi U5 (Zi W2 (Zi W2 (Zi U6 (Z3 0) (Z5)) (Zi D5 (Z5) (Z3 6))) (Zi D5 (Z5) (Z3 7))) (Z5)) (fun _ _=>rfl))))))))
  (Zb (Jt (Vg (Z4v hr.units) (Z3 5) (Ww (Sh (Z0 (Yr) (Z0 (Yr) (Z0 (Yr) (Z0 (Yr) (Z0 (Yr) Z8))))))) (by rfl)) (Zj (Zr 5 W1.nd rfl (Or.inl rfl) (Zn W2 (Jr Gr (Z3 5) (Rn (Z5)) Sb) (Z7a (m:=true))))) Vi)
  (Zj (Yj (Z6 5)))))))))))
theorem Xg (Df:Def K mg "_law_order" J8) (T:Txt K mg)  (C__law_mix:CalD P w K mg base 1 "_law_mix" N42_ false Y9):CalD P w K mg base 2 "_law_order" N24_ true Ja :=
 Yl (N:=N4_) (ps:=N24_) (st:=J8) (k:=1) (g:=Vt) Df Vf (fun _ _ _ _ _ _ us hl=>ar3 us hl fun _ _ _=>rfl) (fun f cdv A outer s H E hr=>(by
  unfold Vt;exact (Zb (Ek 3 Vf.nd rfl (Or.inl rfl) (Sh Z8))
  (Zb (U9 PassesOwn.never rfl (Wa (by rfl) T.b_range (Z0 (Z3 2) Z8)) (Zs 4 Vf.nd rfl (Or.inl rfl)) (Zb (Zr 5 Vf.nd rfl (Or.inl rfl) (Zm C__law_mix (hr.mono (by lia)) (Z0 (Z6 0) (Z0 (Zn W2 (Z3 1) (Z3 4)) Z8))))
  (Zb (Zr 6 Vf.nd rfl (Or.inl rfl) (Zn U5 (Z3 5) (Zi W2 (Y1 U4 (by rfl) T.b_len (by decide +kernel) (Z0 (xo 3) Z8)) (Z5))))
  (Zb (D8 3 PySem.F.slot_list_insert PySem.F.type_list_insert C0 (Z0 (Z6 6) (Z0 (Z6 4) Z8)))
  (Zb (Zr 7 Vf.nd rfl (Or.inl rfl) (Zn U5 (Zi U6 (Z3 5) (Z5)) (Zi Z5c (Y1 U4 (by rfl) T.b_len (by decide +kernel) (Z0 (xo 3) Z8)) (Z3 6))))
  (Zj (D8 3 PySem.F.slot_list_insert PySem.F.type_list_insert C0 (Z0 (Zn W2 (Zi W2 (Z3 6) (Z5)) (Z3 7)) (Z0 (Z6 4) Z8)))))))))
  (Zj (N7 3))))))
theorem P4 (Df:Def K mg "_law_arrows" Q9) (T:Txt K mg)  (C__law_mix:CalD P w K mg base 1 "_law_mix" N42_ false Y9):CalD P w K mg base 2 "_law_arrows" N14_ true Qa :=
 Yl (N:=N2_) (ps:=N14_) (st:=Q9) (k:=1) (g:=Ve) Df V1 (fun _ _ _ _ _ _ us hl=>ar4 us hl fun _ _ _ _=>rfl) (fun f cdv A outer s H E hr=>(by
  unfold Ve;exact (Zb (Ek 4 V1.nd rfl (Or.inl rfl) (Sh Z8))
  (Zb (U9 PassesOwn.never rfl (Wa (by rfl) T.b_range (Z0 (Z3 2) Z8)) (Zs 5 V1.nd rfl (Or.inl rfl)) (Zb (Zr 6 V1.nd rfl (Or.inl rfl) (Zm C__law_mix (hr.mono (by lia)) (Z0 (Z6 0) (Z0 (Zn W2 (Z3 1) (Z3 5)) Z8))))
  (Zb (Zr 7 V1.nd rfl (Or.inl rfl) (Zn U5 (Z3 6) (Z3 3)))
  (Zb (Zr 8 V1.nd rfl (Or.inl rfl) (Zn U5 (Zi U6 (Z3 6) (Z5)) (Z3 3)))
  (Zj (Jt (Fg.pt (Nh (Vg (Ap hr.units) (Z3 7) (Z3 8) (Ya _)) (K5 (Vg (Pt hr.units) (R5 (Z0 (Ug (Zb5 rfl) (by rfl) T.b_min (by decide +kernel) (Z0 (Z3 7) (Z0 (Z3 8) Z8))) (Z0 (Ug (Zbc rfl) (by rfl) T.b_max (by decide +kernel) (Z0 (Z3 7) (Z0 (Z3 8) Z8))) Z8))) (xo 4) (by rfl))))) (Zj (D8 4 PySem.F.slot_list_append PySem.F.type_list_append Sn (Z0 (Y8 (Z0 (Ug (Zb5 rfl) (by rfl) T.b_min (by decide +kernel) (Z0 (Z3 7) (Z0 (Z3 8) Z8))) (Z0 (Ug (Zbc rfl) (by rfl) T.b_max (by decide +kernel) (Z0 (Z3 7) (Z0 (Z3 8) Z8))) Z8))) Z8))) Vi))))))
  (Zj (N7 4))))))
theorem Xz (Df:Def K mg "_law_graph" Y6) (T:Txt K mg)  (C__law_order:CalD P w K mg base 2 "_law_order" N24_ true Ja) (C__law_mix:CalD P w K mg base 1 "_law_mix" N42_ false Y9) (C__law_arrows:CalD P w K mg base 2 "_law_arrows" N14_ true Qa) (C__law_word:CalD P w K mg base 1 "_law_word" N48_ false Qg):CalD P w K mg base 3 "_law_graph" N17_ false Jc :=
 Yl (N:=N0_) (ps:=N17_) (st:=Y6) (k:=2) (g:=U0) Df Zh (fun _ _ _ _ _ _ us hl=>ar4 us hl fun _ _ _ _=>rfl) (fun f cdv A outer s H E hr=>(by
  unfold U0;refine (Zb (Zr 4 Zh.nd rfl (Or.inl rfl) (Zm C__law_order (hr.mono (by lia)) (Z0 (Z6 0) (Z0 (Z6 1) (Z0 (Z6 2) Z8)))))
  (Zb (Zr 5 Zh.nd rfl (Or.inl rfl) (Zn D5 (Z5) (Z3 2)))
  (Zb (Zr 6 Zh.nd rfl (Or.inl rfl) (Zm C__law_mix (hr.mono (by lia)) (Z0 (Z6 0) (Z0 (Zn W2 (Z3 1) (Z3 2)) Z8))))
  (Zb (Zr 7 Zh.nd rfl (Or.inr rfl) (Zm C__law_arrows (hr.mono (by lia)) (Z0 (Z6 0) (Z0 (Zn W2 (Zi W2 (Z3 1) (Z3 2)) (Z5)) (Z0 (Z6 3) (Z0 (Z6 5) Z8))))))
  (Zb (Jt (Vg (Es hr.units) (Zi U5 (Z3 6) (Z5)) (Z5) (Ya _)) (Zj (Zr 7 Zh.nd rfl (Or.inr rfl) (Zn W2 (Z3 7) (Ww ?c0)))) Vi)
  (Zb (U9 PassesOwn.never rfl (Wa (by rfl) T.b_range (Z0 (Z3 2) Z8)) (Zs 8 Zh.nd rfl (Or.inl rfl)) (Zb (Zr 9 Zh.nd rfl (Or.inr rfl) (xbm (m:=false) PySem.F.plainAttrs_list PySem.F.slot_list_index PySem.F.type_list_index Cf (Z3 4) (Z0 (Z3 8) Z8)))
  (Zb (Zr 10 Zh.nd rfl (Or.inr rfl) (Zn W2 (Zi W2 (Z3 9) (Z5)) (xbm (m:=true) PySem.F.plainAttrs_list PySem.F.slot_list_index PySem.F.type_list_index Cf (Jr Gr (Z3 4) (Rn (Zi W2 (Z3 9) (Z5))) Sb) (Z0 (Z3 8) Z8))))
  (Zj (Zr 7 Zh.nd rfl (Or.inr rfl) (Zn W2 (Ww ?c1) (Ww (Sh (Z0 (Y8 (Z0 (Z6 9) (Z0 (Z6 10) Z8))) Z8)))))))))
  (Zb (Z6p 11 Zh.nd rfl (Or.inl rfl) (Z4 Y6) [none] ["_law_d"] rfl (show CompOk (Z4 Y6) _ N0_ ["_law_d"] [none] from CompOk.of (by decide +kernel)) rfl (S9 (Z3 4)) (fun _ _ _ _=>⟨(Zs 0 (show (["_law_d"]:List Str).Nodup from by decide +kernel) rfl (Or.inl rfl)),Ef⟩) (by decide))
  (Zb (Z6p 12 Zh.nd rfl (Or.inl rfl) (Z4 Y6) [none] ["_law_d"] rfl (show CompOk (Z4 Y6) _ N0_ ["_law_d"] [none] from CompOk.of (by decide +kernel)) rfl (S9 (Z3 4)) (fun _ _ _ _=>⟨(Zs 0 (show (["_law_d"]:List Str).Nodup from by decide +kernel) rfl (Or.inl rfl)),Ef⟩) (by decide))
  (Zb (Zr 13 Zh.nd rfl (Or.inl rfl) (W7))
  (Zb (Zr 14 Zh.nd rfl (Or.inl rfl) (Zn U5 (Zi U6 (Z3 6) (Z5)) (Z5)))
  (Zb (U9 PassesOwn.never rfl (Oe (Z6 7)) (D0 (n:=2) rfl (Yt (Zs 15 Zh.nd rfl (Or.inl rfl)) (Yt (Zs 16 Zh.nd rfl (Or.inl rfl)) Jo))) (Zb (Xf 12 (Z3 15) (fun _ _=>rfl) (Z0 (Z6 14) Z8))
  (Zb (Xf 11 (Z3 16) (fun _ _=>rfl) (Z0 (Z6 14) Z8))
  (Zb (Xf 12 (Z3 16) (fun _ _=>rfl) (Z0 (Zn W2 (Z3 14) (Z5)) Z8))
  (Zb (Xf 11 (Z3 15) (fun _ _=>rfl) (Z0 (Zn W2 (Z3 14) (Z5)) Z8))
  (Zb (Zr 13 Zh.nd rfl (Or.inl rfl) (Zn Z3r (Z3 13) (Zi Pr (Z5) (Zi W2 (Z3 14) (Z5)))))
  (Zj (Zr 14 Zh.nd rfl (Or.inl rfl) (Zn W2 (Z3 14) (Z5))))))))))
  (Zb (Zr 17 Zh.nd rfl (Or.inl rfl) (Zn U5 (Zi U6 (Z3 6) (Z5)) (Zi Pr (Z5) (Z3 2))))
  (Zb (Zr 18 Zh.nd rfl (Or.inl rfl) (Z6 17))
  (Zb (Ek 19 Zh.nd rfl (Or.inl rfl) (Sh Z8))
  (Zb (U9 PassesOwn.never rfl (Z02 (by rfl) T.b_enumerate (Z6 4)) (D0 (n:=2) rfl (Yt (Zs 20 Zh.nd rfl (Or.inl rfl)) (Yt (Zs 8 Zh.nd rfl (Or.inl rfl)) Jo))) (Zb (D8 19 PySem.F.slot_list_append PySem.F.type_list_append Sn (Z0 (Y8 (Z0 (Z6 8) (Z0 (Qj (Es hr.units) (Zi Kz (Zi Zbi (Z3 18) (Z3 8)) (Z5)) (Z5) (Ya _)) (Z0 (Ew (m:=false) E2 (by rfl) T.b_tuple (by decide +kernel) (Z0 (Ww (Z5o Pb (by rfl) T.b_sorted (by decide +kernel) (Z0 (Zfl 11 (Z3 20) (fun _ _=>rfl)) Z8))) Z8)) (Z0 (Ew (m:=false) E2 (by rfl) T.b_tuple (by decide +kernel) (Z0 (Ww (Z5o Pb (by rfl) T.b_sorted (by decide +kernel) (Z0 (Zfl 12 (Z3 20) (fun _ _=>rfl)) Z8))) Z8)) Z8))))) Z8))
  (Zj (Zr 18 Zh.nd rfl (Or.inl rfl) (Zn Zba (Z3 18) (Zi Pr (Z5) (Z3 8)))))))
  (Zb (Zr 21 Zh.nd rfl (Or.inl rfl) (Zn U5 (Zi U6 (Z3 6) (Z5)) (Z3 5)))
  (Zb (Ek 19 Zh.nd rfl (Or.inl rfl) (nop Z26 (Jr Gr (xo 19) (Rn (Z3 21)) Sb) (Jr Gr (xo 19) Sb (Rn (Z3 21)))))
  (Zb (Zr 22 Zh.nd rfl (Or.inr rfl) (Zn U6 (Z3 6) (Z5)))
  (Zb (A6 23 Zh.nd rfl (Or.inl rfl) (Z4 Y6) [none,some 22,some 0,some 1] N12_ rfl (show CompOk (Z4 Y6) _ N0_ N12_ [none,some 22,some 0,some 1] from CompOk.of (by decide +kernel)) rfl (Wa (by rfl) T.b_range (Z0 (Z3 2) Z8)) (fun _ _ _ _=>⟨(Zs 0 (show (N12_:List Str).Nodup from by decide +kernel) rfl (Or.inl rfl)),Ef,(Y8 (Z0 (Zm C__law_word (hr.mono (by lia)) (Z0 (Z6 1) (Z0 (Z6 0) Z8))) (Z0 (Zu Zw (Ww (Sh (Z0 (Yr) (Z0 (Yr) Z8)))) (Zi U5 (Zi U6 (Zy C__law_mix (hr.mono (by lia)) (Z0 (Z6 2) (Z0 (Zn W2 (Z3 3) (Z3 0)) Z8))) (Z5)) (Z5)) (fun _ _=>rfl)) Z8)))⟩) (by decide))
  (Zj (Yj (Y8 (Z0 (Ew (m:=false) E2 (by rfl) T.b_tuple (by decide +kernel) (Z0 (Z3 23) Z8)) (Z0 (Ew (m:=false) E2 (by rfl) T.b_tuple (by decide +kernel) (Z0 (xo 19) Z8)) (Z0 (Z6 13) (Z0 (Z6 17) Z8))))))))))))))))))))))))))
  case c0=>exact Tn (Z4 Y6) [none,some 7] N47_ rfl (show CompOk (Z4 Y6) _ N0_ N47_ [none,some 7] from CompOk.of (by decide +kernel)) rfl (Wa (by rfl) T.b_range (Z0 (Zi Z5c (Z3 5) (Z5)) Z8)) (fun _ _ _ _=>⟨(Zs 0 (show (N47_:List Str).Nodup from by decide +kernel) rfl (Or.inl rfl)),(Ee (Vg (Pt hr.units) (R5 (Z0 (Z6 0) (Z0 (Zn W2 (Z3 0) (Z5)) Z8))) (Z3 1) (by rfl))),(Y8 (Z0 (Z6 0) (Z0 (Zn W2 (Z3 0) (Z5)) Z8)))⟩) (by decide)
  case c1=>exact Tn (Z4 Y6) [none,some 9,some 10] N26_ rfl (show CompOk (Z4 Y6) _ N0_ N26_ [none,some 9,some 10] from CompOk.of (by decide +kernel)) rfl (S9 (Z3 7)) (fun _ _ _ _=>⟨(Zs 0 (show (N26_:List Str).Nodup from by decide +kernel) rfl (Or.inl rfl)),(Ee (Vg (Ap hr.units) (Z3 0) (R5 (Z0 (Z6 1) (Z0 (Z6 2) Z8))) (Ya _))),(Z6 0)⟩) (by decide)))
theorem Cr (Df:Def K mg "_law_bits" Mf) (T:Txt K mg)   : CalD P w K mg base 1 "_law_bits" ["_law_some"] false Mc :=
 Yl (N:=["_law_some","_law_number","_law_place"]) (ps:=["_law_some"]) (st:=Mf) (k:=0) (g:=Uv) Df Qy (fun _ _ _ _ _ _ us hl=>ar1 us hl fun _=>rfl) (fun f cdv A outer s H E hr=>(by
  unfold Uv;exact (Zb (Zr 1 Qy.nd rfl (Or.inl rfl) (W7))
  (Zb (U9 PassesOwn.never rfl (Oe (Z6 0)) (Zs 2 Qy.nd rfl (Or.inl rfl)) (Zj (Zr 1 Qy.nd rfl (Or.inl rfl) (Zn Z3r (Z3 1) (Zi Pr (Z5) (Z3 2))))))
  (Zj (Yj (Z6 1)))))))
theorem Z1c (Df:Def K mg "_law_can" Ru) (T:Txt K mg)  (C__law_bits:CalD P w K mg base 1 "_law_bits" ["_law_some"] false Mc):CalD P w K mg base 2 "_law_can" N21_ false Ry :=
 Yl (N:=N11_) (ps:=N21_) (st:=Ru) (k:=1) (g:=Tz) Df Ku (fun _ _ _ _ _ _ us hl=>ar3 us hl fun _ _ _=>rfl) (fun f cdv A outer s H E hr=>(by
  unfold Tz;exact (Zb (Zr 3 Ku.nd rfl (Or.inl rfl) (Zm C__law_bits (hr.mono (by lia)) (Z0 (Zu Zw (Zl Zw (Zl Zw (Z3 0) (Z5) (fun _ _=>rfl)) (Z3 2) (fun _ _=>rfl)) (Z5) (fun _ _=>rfl)) Z8)))
  (Zj (Yj (Qj (Es hr.units) (Zi Kz (Zl Zw (Z3 1) (Z5) (fun _ _=>rfl)) (Z3 3)) (Z3 3) (Ya _)))))))
theorem Fz (Df:Def K mg "_law_wants" Qz) (T:Txt K mg)  (C__law_can:CalD P w K mg base 2 "_law_can" N21_ false Ry):CalD P w K mg base 3 "_law_wants" N19_ false T5 :=
 Yl (N:=N8_) (ps:=N19_) (st:=Qz) (k:=2) (g:=Vw) Df Ml (fun _ _ _ _ _ _ us hl=>ar3 us hl fun _ _ _=>rfl) (fun f cdv A outer s H E hr=>(by
  unfold Vw;exact (Zb (U9 PassesOwn.never rfl (Z02 (by rfl) T.b_enumerate (Zu Zw (Z3 0) (Z5) (fun _ _=>rfl))) (D0 (n:=2) rfl (Yt (Zs 3 Ml.nd rfl (Or.inl rfl)) (Yt (Zs 4 Ml.nd rfl (Or.inl rfl)) Jo))) (Zj (Jt (Fg.pt (Nh (Vg (Es hr.units) (Zl Zw (Z3 4) (Z5) (fun _ _=>rfl)) (Z3 2) (Ya _)) (K5 (Lb (Zy C__law_can (hr.mono (by lia)) (Z0 (Z6 0) (Z0 (Z6 1) (Z0 (Z6 3) Z8)))))))) (Zj (Yj (Zn Z5c (Zi D5 (Z5) (Ew (m:=true) Zft (by rfl) T.b_int (by decide +kernel) (Z0 (Zl Zw (Z3 4) (Z5) (fun _ _=>rfl)) Z8))) (Z5)))) Vi)))
  (Zj (Yj (W7))))))
theorem Iv (Df:Def K mg "_law_with_made" U2) (T:Txt K mg)   : CalD P w K mg base 1 "_law_with_made" N28_ false Vu :=
 Yl (N:=N20_) (ps:=N28_) (st:=U2) (k:=0) (g:=Wi) Df M4 (fun _ _ _ _ _ _ us hl=>ar2 us hl fun _ _=>rfl) (fun f cdv A outer s H E hr=>(by
  unfold Wi;exact (Zb (Ek 2 M4.nd rfl (Or.inl rfl) (Z75 Z7u (by rfl) T.b_list (by decide +kernel) (Z0 (Zl Zw (Z3 0) (Z5) (fun _ _=>rfl)) Z8)))
  (Zb (K6 2 (Z3 1) (Y8 (Z0 (Zu Zw (Zl Zw (xo 2) (Z3 1) (fun _ _=>rfl)) (Z5) (fun _ _=>rfl)) (Z0 (Yr) Z8))))
  (Zj (Yj (Zn Z5w (R5 (Z0 (Ew (m:=false) E2 (by rfl) T.b_tuple (by decide +kernel) (Z0 (xo 2) Z8)) Z8)) (Jr Gr (Z3 0) (Rn (Z5)) Sb))))))))
theorem L4 (Df:Def K mg "_law_new_name" Wo) (T:Txt K mg)   : CalD P w K mg base 1 "_law_new_name" N36_ false Uc :=
 Yl (N:=N5_) (ps:=N36_) (st:=Wo) (k:=0) (g:=Wr) Df Yy (fun _ _ _ _ _ _ us hl=>ar2 us hl fun _ _=>rfl) (fun f cdv A outer s H E hr=>(by
  unfold Wr;exact (Zb (Zr 2 Yy.nd rfl (Or.inl rfl) (Yr))
  (Zb (A6 3 Yy.nd rfl (Or.inl rfl) (Z4 Wo) [none] ["_law_wire"] rfl (show CompOk (Z4 Wo) _ N5_ ["_law_wire"] [none] from CompOk.of (by decide +kernel)) rfl (S9 (Z3 1)) (fun _ _ _ _=>⟨(Zs 0 (show (["_law_wire"]:List Str).Nodup from by decide +kernel) rfl (Or.inl rfl)),Ef,(Zu Zw (Z3 0) (Z5) (fun _ _=>rfl))⟩) (by decide))
  (Zb (U9 PassesOwn.never rfl (Wa (by rfl) T.b_range (Z0 (Z5) Z8)) (Zs 4 Yy.nd rfl (Or.inl rfl)) (Zb (Zr 5 Yy.nd rfl (Or.inl rfl) (Yr))
  (Zb (U9 PassesOwn.never rfl (Wa (by rfl) T.b_range (Z0 (Zi W2 (Z5) (Zi U5 (Z3 0) (Z5))) Z8)) (Zs 6 Yy.nd rfl (Or.inl rfl)) (Zj (Zr 5 Yy.nd rfl (Or.inl rfl) (Zn W2 (Z3 5) (Zl Zw (Z3 2) (Zi U5 (Zi W2 (Zi W2 (Zi U6 (Z3 0) (Z5)) (Zi D5 (Z5) (Z3 6))) (Z3 4)) (Z5)) (fun _ _=>rfl))))))
  (Zj (Jt (Fg.pt (Nh (Vg (Pt hr.units) (Z3 5) (Z3 3) (by rfl)) (K5 (Vg (Pt hr.units) (Z3 5) (Ww (Sh (Z0 (Yr) (Z0 (Yr) (Z0 (Yr) (Z0 (Yr) (Z0 (Yr) Z8))))))) (by rfl))))) (Zj (Yj (Z6 5))) Vi)))))
  (Zj (Yj (Yr))))))))
theorem Xr (Df:Def K mg "_law_parts" Vv) (T:Txt K mg)  (C_sound:CalX P w K mg base 6 "sound" N56_ false Vj) (C__law_wants:CalD P w K mg base 3 "_law_wants" N19_ false T5):CalD P w K mg base 7 "_law_parts" N29_ false Wu :=
 Yl (N:=N6_) (ps:=N29_) (st:=Vv) (k:=6) (g:=Wf) Df Wx (fun _ _ _ _ _ _ us hl=>ar2 us hl fun _ _=>rfl) (fun f cdv A outer s H E hr=>(by
  unfold Wf;exact (Zb (Zr 2 Wx.nd rfl (Or.inl rfl) (Z30 (m:=false)))
  (Zb (Z1o (known:=N15_) (b1':=(fun _=>true)) (fun _=>PassesOwnAt.never) (fun _ _=>(Zj (F8 2 Wx.nd rfl (Or.inl rfl) (B0 C_sound (hr.mono (by lia)) (Z0 (Z6 0) (Z0 (Z6 1) Z8)))))) (fun _ _=>(Zj (Zr 2 Wx.nd rfl (Or.inl rfl) (Z30 (m:=false))))) T.u_8)
  (Zb (Jt (Vg Zhn (Z3 2) (Z30 (m:=true)) (Ya _)) (Zj (Yj (V9))) Vi)
  (Zb (Zeo 3 Wx.nd rfl (Or.inl rfl))
  (Zb (U9 PassesOwn.never rfl (Oe (Z6 2)) (Zs 4 Wx.nd rfl (Or.inr rfl)) (Zb (A6 5 Wx.nd rfl (Or.inl rfl) (Z4 Vv) [none,none,some 0,some 4] N13_ rfl (show CompOk (Z4 Vv) _ N6_ N13_ [none,none,some 0,some 4] from CompOk.of (by decide +kernel)) rfl (N2 (by rfl) T.b_enumerate (Zl Zw (Z3 0) (Z5) (fun _ _=>rfl))) (fun _ _ _ _=>⟨(D0 (n:=2) rfl (Yt (Zs 0 (show (N13_:List Str).Nodup from by decide +kernel) rfl (Or.inl rfl)) (Yt (Zs 1 (show (N13_:List Str).Nodup from by decide +kernel) rfl (Or.inl rfl)) Jo))),(Ee (Vg (Es hr.units) (Zl Zw (Z3 1) (Z5) (fun _ _=>rfl)) (Z7a (m:=true)) (Ya _))),(Zm C__law_wants (hr.mono (by lia)) (Z0 (Z6 2) (Z0 (Z6 3) (Z0 (Z6 0) Z8))))⟩) (by decide))
  (Zj (Ze4 3 5 (by decide) hr.units (Zl Zw (Z3 4) (Z5) (fun _ _=>rfl)) (Z6 5) (Z3 5) (Zj (Yj (V9)))))))
  (Zj (Yj (V9))))))))))
theorem Zg1 {f:Addr} (Df:Fun K "law" "law" El f fd) (T:Txt K mg)  (C__law_mix:CalD P w K mg base 1 "_law_mix" N42_ false Y9) (C__law_with_made:CalD P w K mg base 1 "_law_with_made" N28_ false Vu) (C__law_new_name:CalD P w K mg base 1 "_law_new_name" N36_ false Uc) (C__law_graph:CalD P w K mg base 3 "_law_graph" N17_ false Jc) (C_parts:CalD P w K mg base 9 "parts" N22_ false Dw) (C__law_parts:CalD P w K mg base 7 "_law_parts" N29_ false Wu) (C_put_in:CalD P w K mg base 5 "put_in" N27_ false T9) (hl:∀ ns:List Int,ns.length<=63->Zb7 [.lst (ns.map .int)]=.ok (.bl true)):FnOk P w K mg base E4 10 f fd N59_ (Bd K) :=
 Zgt (N:=N1_) (ps:=N59_) (st:=El) (g:=Pu) Df Qu rfl (fun cdv A outer s H E hr=>(by
  unfold Pu;exact (Zb (Zr 1 Qu.nd rfl (Or.inl rfl) (Zn W2 (Z5) (Zi U5 (Zy C__law_mix (hr.mono (by lia)) (Z0 (Z6 0) (Z0 (W7) Z8))) (Z5))))
  (Zb (Zr 2 Qu.nd rfl (Or.inl rfl) (Zm C__law_mix (hr.mono (by lia)) (Z0 (Z6 0) (Z0 (W7) Z8))))
  (Zb (Zr 3 Qu.nd rfl (Or.inr rfl) (Zm C__law_with_made (hr.mono (by lia)) (Z0 (Zm C__law_graph (hr.mono (by lia)) (Z0 (Z6 0) (Z0 (W7) (Z0 (Z6 1) (Z0 (Zn U5 (Zy C__law_mix (hr.mono (by lia)) (Z0 (Z6 0) (Z0 (W7) Z8))) (Z5)) Z8))))) (Z0 (Zn U5 (Zi U6 (Z3 2) (Z5)) (Z3 1)) Z8))))
  (Zb (Zc8 4 Qu.nd rfl (Or.inl rfl) (Z4 El) [none,none,some 3] N23_ rfl (show CompOk (Z4 El) _ N1_ N23_ [none,none,some 3] from CompOk.of (by decide +kernel)) rfl (N2 (by rfl) T.b_enumerate (Zl Zw (Z3 3) (Z5) (fun _ _=>rfl))) (fun _ _ _ _=>⟨(D0 (n:=2) rfl (Yt (Zs 0 (show (N23_:List Str).Nodup from by decide +kernel) rfl (Or.inl rfl)) (Yt (Zs 1 (show (N23_:List Str).Nodup from by decide +kernel) rfl (Or.inl rfl)) Jo))),(Ee (Vg (Es hr.units) (Zl Zw (Zl Zw (Zl Zw (Z3 2) (Z5) (fun _ _=>rfl)) (Zl Zw (Z3 1) (Z5) (fun _ _=>rfl)) (fun _ _=>rfl)) (Z5) (fun _ _=>rfl)) (Z7a (m:=true)) (Ya _))),(Z6 0)⟩) (by decide))
  (Zb (Z9x 5 4 Qu.nd rfl (Or.inl rfl) (Z0 (Zi U5 (Zi U6 (Z3 2) (Z5)) (Y1 U4 (by rfl) T.b_len (by decide +kernel) (Z0 (xo 4) Z8))) Z8))
  (Zb (Zr 6 Qu.nd rfl (Or.inl rfl) (Zu Zw (xo 4) (Zi U5 (Zi U6 (Z3 2) (Z5)) (Y1 U4 (by rfl) T.b_len (by decide +kernel) (Z0 (xo 4) Z8))) (fun _ _=>rfl)))
  (Zb (Zr 7 Qu.nd rfl (Or.inl rfl) (Zm C__law_new_name (hr.mono (by lia)) (Z0 (Zn U6 (Z3 2) (Z5)) (Z0 (Zu Zw (Z3 3) (Z5) (fun _ _=>rfl)) Z8))))
  (Zb (Zr 8 Qu.nd rfl (Or.inl rfl) (Zu Zw (Ww (Sh (Z0 (W7) (Z0 (W7) (Z0 (W7) (Z0 (Zn W2 (Z5) (Zi U5 (Zi U6 (Z3 2) (Z5)) (Z5))) Z8)))))) (Zi U5 (Zi U6 (Z3 2) (Z5)) (Z5)) (fun _ _=>rfl)))
  (Zb (U9 PassesOwn.never rfl (Oe (Mw (Sh (Z0 (Y8 (Z0 (Z6 5) (Z0 (Z6 6) Z8))) (Z0 (Y8 (Z0 (Z6 6) (Z0 (Z6 5) Z8))) (Z0 (Y8 (Z0 (Z6 5) (Z0 (Z6 6) Z8))) Z8)))))) (D0 (n:=2) rfl (Yt (Zs 9 Qu.nd rfl (Or.inl rfl)) (Yt (Zs 10 Qu.nd rfl (Or.inl rfl)) Jo))) (Zb (Zr 11 Qu.nd rfl (Or.inl rfl) (Zm C_parts (hr.mono (by lia)) (Z0 (Z6 3) (Z0 (Z6 7) (Z0 (Z6 9) (Z0 (Z6 10) (Z0 (Z6 8) Z8)))))))
  (Zj (Jt (Fg.pt (Cp (Zap (Lb (Zik (m:=true) (T:="bool") (Z3 11) (by rfl) T.b_isinstance (by decide +kernel) (by rfl) T.b_bool (by decide +kernel)))) (Ci (Vg (Ap hr.units) (Z3 11) (Zy C__law_parts (hr.mono (by lia)) (Z0 (Zm C_put_in (hr.mono (by lia)) (Z0 (Z6 3) (Z0 (Z6 7) (Z0 (Z6 9) (Z0 (Z6 10) Z8))))) (Z0 (Z6 8) Z8))) (Ya _))))) (Zj (Yj (V9))) Vi))))
  (Zj (Yj (V9)))))))))))))) hl
end
end K74
namespace L2
open PySem PySem.Spec PyProof.Rows
def Gd (r:Fl) (N:Ev->Prop) (R:Dat->Prop):Prop:=match r with
 | .next e=>N e
 | .ret d=>R d
 | _=>False
structure Go (r:Fl) (N:Ev->Prop) (R:Dat->Prop):Prop where
 of:Gd r N R
section
variable {N:Ev->Prop} {R:Dat->Prop} {g h:Ev->Fl} {f:Zzu} {fs:Zzv} {t:Ev->Option Bool} {env:Ev} {d:Dat} {ds:List Dat} {i:Nat}
theorem Go.mono {N':Ev->Prop} {R':Dat->Prop} {r:Fl} (q:Go r N R) (hN:∀ e,N e->N' e) (hR:∀ d,R d->R' d):Go r N' R':=by
 cases r with
 | next e=>exact ⟨hN e q.of⟩
 | ret d=>exact ⟨hR d q.of⟩
 | _=>exact q.of.elim
theorem Wd (q:N env):Go (Qq env) N R:=⟨q⟩
theorem Z9 (q:Go (g env) (fun e=>Go (h e) N R) R):Go (Zf g h env) N R:=by
 unfold Zf;cases e:g env with
 | next e'=>rw [e] at q;exact q.of
 | ret d=>rw [e] at q;exact ⟨q.of⟩
 | _=>rw [e] at q;exact q.of.elim
theorem Zk (e:f env=some d) (q:N (env.set i (.fz d))):Go (Y3 i f env) N R:=by unfold Y3;rw [e];exact ⟨q⟩
theorem Jx (e:fs env=some ds) (q:N (env.set i (.ow ds))):Go (D6 i fs env) N R:=by unfold D6;rw [e];exact ⟨q⟩
theorem Y0 (e:f env=some d) (q:R d):Go (Yk f env) N R:=by unfold Yk;rw [e];exact ⟨q⟩
theorem Hw (e:env[i]?=some (.ow ds)) (q:R (.lst ds)):Go (Ik i env) N R:=by unfold Ik;rw [e];exact ⟨q⟩
theorem Zde (e:t env=some true) (q:Go (g env) N R):Go (Ec t g h env) N R:=by unfold Ec;rw [e];exact q
theorem S8 (e:t env=some false) (q:Go (h env) N R):Go (Ec t g h env) N R:=by unfold Ec;rw [e];exact q
theorem D4 {b:Bool} (e:t env=some b) (q1:b=true->Go (g env) N R) (q2:b=false->Go (h env) N R):Go (Ec t g h env) N R:=by
 cases b with
 | true=>exact Zde e (q1 rfl)
 | false=>exact S8 e (q2 rfl)
theorem Mg {F:List Dat->List Dat->Option (List Dat)} {ds' as:List Dat} (e:env[i]?=some (.ow ds)) (e2:fs env=some as) (e3:F ds as=some ds') (q:N (env.set i (.ow ds'))):Go (Sd i F fs env) N R:=by
 unfold Sd;rw [e];dsimp only;rw [e2];dsimp only [Option.bind];rw [e3];exact ⟨q⟩
theorem Z2q (P:Nat->Ev->Prop):∀ (ds:List Dat) (k:Nat) (env:Ev),P k env->(∀ i d e,ds[i]?=some d->P (k+i) e->∃ e1,gg d e=some e1/\Go (g e1) (P (k+i+1)) R)->(∀ e,P (k+ds.length) e->N e)->Go (L5 gg g ds env) N R
 | [],k,env,h0,_,hN=>⟨hN env h0⟩
 | d::ds,k,env,h0,hs,hN=>by
  obtain ⟨e1,a1,a2⟩:=hs 0 d env rfl h0;rw [L5,a1];dsimp only;cases e:g e1 with
  | next e' =>
   rw [e] at a2;exact Z2q P ds (k+1) e' a2.of (fun i d e hi hp=>by
    have:=hs (i+1) d e (by simpa using hi) (by rw [show k+(i+1)=k+1+i by lia];exact hp);rw [show k+1+i+1=k+(i+1)+1 by lia];exact this) (fun e hp=>hN e (by rw [length_cons,show k+(ds.length+1)=k+1+ds.length by lia];exact hp))
  | ret d'=>rw [e] at a2;exact ⟨a2.of⟩
  | _=>rw [e] at a2;exact a2.of.elim
theorem Vh (P:Nat->Ev->Prop) (e:src env=some ds) (h0:P 0 env) (hs:∀ i d e,ds[i]?=some d->P i e->∃ e1,gg d e=some e1/\Go (g e1) (P (i+1)) R) (hN:∀ e,P ds.length e->N e):Go (Q1 src gg g env) N R:=by
 unfold Q1;rw [e];exact Z2q P ds 0 env h0 (fun i d e hi hp=>by simpa using hs i d e hi (by simpa using hp)) (fun e hp=>hN e (by simpa using hp))
theorem Go.ne {r:Fl} (q:Go r N R):r≠.no:=fun z=>by rw [z] at q;exact q.of
theorem Z6q (W:Nat->Ev->Prop) {n:Nat} (h0:W n env) (hs:∀ n e,W n e->(t e=some false/\N e)\/(t e=some true/\Go (g e) (fun e'=>∃ m,m<n/\W m e') R)):Go (Sw t g env) N R:=by
 have key:∀ n e,W n e->Go (V3 t g (n+1) e) N R:=by
  intro n;induction n using Nat.strongRecOn with
  | _ n ih =>
   intro e hw;rcases hs n e hw with ⟨a,b⟩ | ⟨a,b⟩
   ·rw [V3,a];exact ⟨b⟩
   ·rw [V3,a]
    dsimp only;cases eg:g e with
    | next e' =>
     rw [eg] at b;obtain ⟨m,hm,hw'⟩:=b.of;have q:=ih m hm e' hw';dsimp only;have:=Uu (n - (m+1)) q.ne;rw [show m+1+(n - (m+1))=n by lia] at this;rw [this];exact q
    | ret d=>rw [eg] at b;exact ⟨b.of⟩
    | _=>rw [eg] at b;exact b.of.elim
 have q:=key n env h0;rw [Pf q.ne];exact q
theorem Zz {n p:Nat} (hp:ds.length=p) (q:Go (g (Ui n ds)) (fun _=>R .non) R):∃ d,Y7 n p g ds=.ok d/\R d:=by
 unfold Y7;rw [if_pos hp];cases e:g (Ui n ds) with
 | next e'=>rw [e] at q;exact ⟨_,rfl,q.of⟩
 | ret d=>rw [e] at q;exact ⟨_,rfl,q.of⟩
 | _=>rw [e] at q;exact q.of.elim
end
theorem Ub {lo:Int} {n:Nat} {d:Dat} (h:(rng lo n)[i]?=some d):i<n/\d=.int (lo+i):=by
 unfold rng at h;rw [getElem?_map] at h;by_cases hi:i<n
 ·rw [List.getElem?_range hi] at h
  exact ⟨hi,(Option.some.inj h).symm⟩
 ·rw [List.getElem?_eq_none (by simpa using hi)] at h
  cases h
theorem W9 {fs:Zzv} {n:Nat} (h:fs env=some [.int n]) (hn:n<=100000):Ut fs env=some (rng 0 n):=by
 unfold Ut;rw [h];dsimp only;rw [if_pos ⟨by lia,by lia,by rw [sizeLine_eq];simp;lia⟩,Int.toNat_natCast]
theorem Gw {i j:Int} (h:Z0z i j):Ez (.int i) (.int j)=some (.int (i*j)):=if_pos h
theorem Z24 {i j:Int} (h:0<j):Tf (.int i) (.int j)=some (.int (i % j)):=if_pos h
theorem Z6s {i j:Int} (h:Z73 i j):U8 (.int i) (.int j)=some (.int (i / j)):=if_pos h
theorem Z7 {F:Dat->Dat->Option α} {g:Zzu} {x y:Dat} {z:α} (h1:f env=some x) (h2:g env=some y) (h3:F x y=some z):dO F f g env=some z:=by unfold dO;rw [h1,h2];exact h3
theorem Wg {F:List Dat->Option α} {fs:Zzv} {z:α} (h1:fs env=some xs) (h3:F xs=some z):dF F fs env=some z:=by unfold dF;rw [h1];exact h3
theorem Z2 {fs:Zzv} {x:Dat} (h1:f env=some x) (h2:fs env=some xs):Z1 f fs env=some (x::xs):=by unfold Z1;rw [h1,h2];rfl
theorem Ze {fs:Zzv} {d:Dat} (h1:fs env=some xs) (h2:F xs=.ok d):Zt F fs env=some d:=by unfold Zt;rw [h1];show okR (F xs)=_;rw [h2];rfl
theorem Yi {b:Bool} (h:f env=some (.bl b)):dB f env=some b:=by unfold dB;rw [h]
theorem Z1k (z:Str) (ws:List Str):(ws.map Dat.str).any (fun y=>Hk y (.str z))=decide (z∈ws):=by
 induction ws with
 | nil=>simp
 | cons w ws ih =>
  rw [map_cons,any_cons,ih];have:Hk (.str w) (.str z)=(w==z):=by unfold Hk;rfl
  rw [this];by_cases e:w=z
  ·subst e;simp
  ·have e':(w==z)=false:=by simpa using e
   have e2:¬ z=w:=fun q=>e q.symm
   rw [e'];simp [e2]
theorem Z05 (n:Nat) (z:Str):pd n (.str z)=true:=by cases n<;>rfl
theorem Z2m (ws:List Str):(ws.map Dat.str).all (pd 20)=true:=by
 induction ws with
 | nil=>rfl
 | cons w ws ih=>rw [map_cons,all_cons,ih,Z05];rfl
theorem Z2k (z:Str) (ws:List Str):inB (.str z) (.lst (ws.map .str))=some (decide (z∈ws)):=by
 unfold inB;dsimp only;rw [Z2m,Z05,Bool.and_self,if_pos rfl,Z1k]
theorem Z9c (z:Str) (ws:List Str):inB (.str z) (.tup (ws.map .str))=some (decide (z∈ws)):=by
 unfold inB;dsimp only;rw [Z2m,Z05,Bool.and_self,if_pos rfl,Z1k]
theorem Z1y (z:Str) (ws:List Str):inF (.str z) (.lst (ws.map .str))=some (.bl (decide (z∈ws))):=by unfold inF;rw [Z2k];rfl
theorem Za7 (z:Str) (ws:List Str):inF (.str z) (.tup (ws.map .str))=some (.bl (decide (z∈ws))):=by unfold inF;rw [Z9c];rfl
theorem D3 {t u:Ev->Option Bool} {a b:Bool} (h1:t env=some a) (h2:a=false->u env=some b):L6 t u env=some (a||b):=by
 unfold L6;rw [h1];cases a with
 | true=>rfl
 | false=>exact h2 rfl
theorem Rr {t u:Ev->Option Bool} {a b:Bool} (h1:t env=some a) (h2:a=true->u env=some b):Em t u env=some (a&&b):=by
 unfold Em;rw [h1];cases a with
 | false=>rfl
 | true=>exact h2 rfl
theorem Hn {F:Dat->Option Int->Option Int->Option Dat} {l h:Ev->Option (Option Int)} {x z:Dat} {a b:Option Int} (h1:f env=some x) (h2:l env=some a) (h3:h env=some b) (h4:F x a b=some z):dS F f l h env=some z:=by
 unfold dS;rw [h1,h2,h3];exact h4
theorem Tb {i:Int} (h:f env=some (.int i)):Jv f env=some (some i):=by unfold Jv;rw [h]
theorem W0 {x:Dat} (h:xs[j]?=some x):Yg (.lst xs) (.int j)=some x:=Hi h
theorem Dk {x:Dat} (h:xs[j]?=some x):Yg (.tup xs) (.int j)=some x:=Hi h
theorem Zfh (x y:Dat) {j:Int} (h0:0<=j) (h1:j<2):Yg (.lst [x,y]) (.int j)=some (if j=1 then y else x):=by
 rcases (show j=0\/j=1 by lia) with rfl | rfl<;>rfl
theorem Zfe (b:Bool):Z96 [.bl b]=some (.int (if b then 1 else 0)):=rfl
theorem Yd {fs:Zzv} (h:fs env=some xs) (hl:xs.length<=1000):V7 fs env=some (.tup xs):=by unfold V7;rw [h];exact if_pos hl
theorem Je {d:Dat} (h:ds.length<=1000):Ua ds [d]=some (ds++[d]):=if_pos (lt_of_le_of_lt h (by decide))
abbrev Mp (ns:List Int):Dat:=.lst (ns.map .int)
abbrev Vk:Str:="abcdefghijklmnopqrstuvwxyz"
theorem Xl:cl Vk=List.range' 97 26:=by decide +kernel
theorem Z07 {j:Int} (h0:0<=j) (h1:j<26):P5 (cl Vk) j=some (97+j.toNat):=by
 obtain ⟨n,rfl⟩:∃ n:Nat,j=n:=⟨j.toNat,(Int.toNat_of_nonneg h0).symm⟩;refine Hi ?_;rw [Xl,List.getElem?_range' (by lia)];simp
theorem Ni {j:Int} (h0:0<=j) (h1:j<26):Yg (.str Vk) (.int j)=some (.str ⟨#[97+j.toNat]⟩):=by
 show (P5 (cl Vk) j).map _=_;rw [Z07 h0 h1];rfl
theorem Xw {x y:Str} (h:x.length+y.length<=1000):Wk (.str x) (.str y)=some (.str (x++y)):=if_pos (le_trans h (by decide))
theorem Zhk:Z7f "bool" "bool" = some true:=by decide +kernel
theorem Zfo {d:Dat} {t:String} {b:Bool} (h:f env=some d) (ht:tyN d=some t) (hk:Z7f t T=some b):dI T f env=some (.bl b):=by
 unfold dI;rw [h];show (Zae T d).map _=_;unfold Zae;rw [ht];show Option.map _ (Z7f t T)=_;rw [hk];rfl
theorem Se {b:Bool} (h:f env=some (.bl b)):dT f env=some b:=by unfold dT;rw [h];rfl
theorem N1 {t:Ev->Option Bool} {b:Bool} (h:t env=some b):Eh t env=some (!b):=by unfold Eh;rw [h];rfl
theorem W8 {r:Rs} {d0:Dat} (h:∃ d,r=.ok d/\d=d0):r=.ok d0:=by obtain ⟨d,e,rfl⟩:=h;exact e
theorem Zah (i:Str):Hr (.str i) (.str i)=some (.bl true):=by unfold Hr;rw [if_pos (by rfl)];unfold Hk;simp
theorem Wy {g:Zzv} (h:g env=some ds):dL g env=some (.lst ds):=by unfold dL;rw [h];rfl
theorem Yv {fs:List (Option Nat)} {g:Dat->Ev->Option Ev} {t:Ev->Option Bool} {env':Ev} (h1:src env=some xs) (h2:Tv fs env=env') (h3:W3 g t f env' xs=some ys):Vm src fs g t f env=some ys:=by
 unfold Vm;rw [h1,h2];exact h3
theorem Ls (h:f env=some (.tup xs)):Th f env=some xs:=by unfold Th;rw [h]
theorem Z1x (h:f env=some (.tup xs)):G1 f env=some (Tq 0 xs):=by unfold G1;rw [Ls h];rfl
theorem Um {g:Dat->Ev->Option Ev} {t:Ev->Option Bool} (D:α->Dat) (y:α->Dat):∀ (xs:List α),(∀ x∈xs,∃ e1,g (D x) env=some e1/\t e1=some true/\f e1=some (y x))->W3 g t f env (xs.map D)=some (xs.map y)
 | [],_=>rfl
 | x::xs,h=>by
  obtain ⟨e1,a1,a2,a3⟩:=h x mem_cons_self;have ih:=Um D y xs fun z hz=>h z (mem_cons_of_mem _ hz)
  rw [map_cons,W3,a1];dsimp only [Option.bind];rw [a2];dsimp only;rw [if_pos rfl,a3];dsimp only;rw [ih];rfl
theorem Z2i (b:Bool):Hr (.str (if b then "made" else "given")) (.str "made")=some (.bl b):=by
 cases b
 ·show Hr (.str "given") (.str "made")=_
  unfold Hr;rw [if_pos (by rfl)];unfold Hk;rw [show (("given" : Str)=="made")=false by decide +kernel]
 ·exact Zah _
theorem Zcj (i j:Bool):Hr (.bl i) (.bl j)=some (.bl (i==j)):=rfl
theorem K8 (a b:Nat):Builtin.bitOr (a:Int) (b:Int)=((a ||| b:Nat):Int):=by
 unfold Builtin.bitOr Builtin.bitAnd Builtin.bitNot;have h1:decide (0<=-(a:Int) - 1)=false:=by simp;lia
 have h2:decide (0<=-(b:Int) - 1)=false:=by simp;lia
 rw [h1,h2];dsimp only;rw [show (-(-(a:Int) - 1) - 1).toNat=a by lia,show (-(-(b:Int) - 1) - 1).toNat=b by lia];lia
theorem Rc (a b:Nat):Builtin.bitAnd (a:Int) (b:Int)=((a &&& b:Nat):Int):=by
 unfold Builtin.bitAnd;rw [show decide (0<=(a:Int))=true by simp,show decide (0<=(b:Int))=true by simp];simp
def bitsN (ps:List Nat):Nat:=ps.foldl (fun a p=>a ||| 2^p) 0
theorem Z3h (ps:List Nat):∀ (a j:Nat),(ps.foldl (fun a p=>a ||| 2^p) a).testBit j=(a.testBit j||decide (j∈ps)):=by
 induction ps with
 | nil=>intro a j;simp
 | cons p ps ih =>
  intro a j;rw [List.foldl_cons,ih,testBit_or,Nat.testBit_two_pow];by_cases h:j=p
  ·subst h;simp
  ·have h':¬ p=j:=fun e=>h e.symm
   simp [h,h']
theorem T8 (ps:List Nat) (j:Nat):(bitsN ps).testBit j=decide (j∈ps):=by unfold bitsN;rw [Z3h];simp
theorem toI (ps:List Nat):(ps.map fun p:Nat=>(p:Int)).map Dat.int=ps.map fun p:Nat=>Dat.int (p:Int):=by rw [map_map];rfl
abbrev Zd (ps:List Nat):List Dat:=(ps.map fun p:Nat=>(p:Int)).map Dat.int
theorem Z3x (p:Nat) (hp:p<=1000):Fj (.int 1) (.int (p:Int))=some (.int ((2^p:Nat):Int)):=by
 have:Fj (.int 1) (.int (p:Int))=some (.int (1*2^((p:Int)).toNat)):=if_pos ⟨by lia,by lia,by decide⟩;rw [this,Int.toNat_natCast,Int.one_mul];congr 2
theorem Z7v (n:Nat) (i:Int):pd n (.int i)=true:=by cases n<;>rfl
theorem Zam (ps:List Nat):(Zd ps).all (pd 20)=true:=all_eq_true.mpr fun x hx=>by
 obtain ⟨i,_,rfl⟩:=mem_map.mp hx;exact Z7v 20 i
theorem Z1u (p:Nat) (ps:List Nat):inB (.int (p:Int)) (.lst (Zd ps))=some (decide (p∈ps)):=by
 unfold inB;dsimp only;rw [Zam,Z7v,Bool.and_self,if_pos rfl];congr 1
 rw [Bool.eq_iff_iff,any_eq_true,decide_eq_true_eq];constructor
 ·rintro ⟨x,hx,he⟩
  obtain ⟨i,hi,rfl⟩:=mem_map.mp hx;obtain ⟨q,hq,rfl⟩:=mem_map.mp hi;have:((q:Int)==(p:Int))=true:=by unfold Hk at he;exact he
  have:q=p:=by have h9:=eq_of_beq this;lia
  exact this▸hq
 ·intro h
  refine ⟨.int (p:Int),mem_map_of_mem (mem_map_of_mem h),?_⟩;unfold Hk;simp
theorem Al (p:Nat) (ps:List Nat):Ep (.int (p:Int)) (.lst (Zd ps))=some (.bl (!decide (p∈ps))):=by unfold Ep;rw [Z1u];rfl
theorem Za4 (bs:List Bool):Z6h [.lst (bs.map .bl)]=some (.bl (bs.all id)):=by unfold Z6h;dsimp only;rw [C2];rfl
theorem Od (a b:Nat):Builtin.bitXor (a:Int) (b:Int)=((a ^^^ b:Nat):Int):=by
 unfold Builtin.bitXor;rw [K8,Rc];have key:∀ (x y:Nat),x ||| y=(x ^^^ y)+(x &&& y):=by
  intro x;induction x using Nat.strongRecOn with
  | _ x ih =>
   intro y;by_cases hx:x=0
   ·subst hx;simp
   ·have h:=ih (x / 2) (by lia) (y / 2)
    have e1:x ||| y=2*(x / 2 ||| y / 2)+(x ||| y) % 2:=by rw [← Nat.or_div_two];lia
    have e2:x ^^^ y=2*(x / 2 ^^^ y / 2)+(x ^^^ y) % 2:=by rw [← Nat.xor_div_two];lia
    have e3:x &&& y=2*(x / 2 &&& y / 2)+(x &&& y) % 2:=by rw [← Nat.and_div_two];lia
    have e4:(x ||| y) % 2=(x ^^^ y) % 2+(x &&& y) % 2:=by
     have t1:∀ z:Nat,z % 2=(z.testBit 0).toNat:=fun z=>by rw [Nat.testBit_zero];by_cases q:z % 2=1<;>simp [q];lia
     rw [t1,t1,t1,testBit_or,Nat.testBit_xor,testBit_and];cases x.testBit 0<;>cases y.testBit 0<;>rfl
    lia
 have:=key a b;lia
theorem Er (a b:Nat):∃ c:Nat,Builtin.bitAnd (a:Int) (-(b:Int) - 1)=(c:Int)/\∀ j,c.testBit j=(a.testBit j&&!b.testBit j):=by
 refine ⟨a ^^^ (a &&& b),?_,fun j=>by rw [Nat.testBit_xor,testBit_and];cases a.testBit j<;>cases b.testBit j<;>rfl⟩;have hx:=Od a (a &&& b);unfold Builtin.bitXor at hx;rw [K8,Rc] at hx;have e1:a ||| (a &&& b)=a:=Nat.eq_of_testBit_eq fun j=>by rw [testBit_or,testBit_and];cases a.testBit j<;>cases b.testBit j<;>rfl
 have e2:a &&& (a &&& b)=a &&& b:=Nat.eq_of_testBit_eq fun j=>by rw [testBit_and,testBit_and];cases a.testBit j<;>cases b.testBit j<;>rfl
 rw [e1,e2] at hx;rw [← hx];unfold Builtin.bitAnd Builtin.bitNot;have h1:decide (0<=(a:Int))=true:=by simp
 have h2:decide (0<=-(b:Int) - 1)=false:=by simp;lia
 rw [h1,h2];dsimp only;rw [show (-(-(b:Int) - 1) - 1).toNat=b by lia,Int.toNat_natCast]
theorem Zfk (n j:Nat):Z3n (.int (n:Int)) (.int (j:Int))=some (.int ((n / 2^j:Nat):Int)):=by
 have:Z3n (.int (n:Int)) (.int (j:Int))=some (.int ((n:Int) / 2^((j:Int)).toNat)):=by unfold Z3n F4;dsimp only;rw [if_pos (by lia)]
 rw [this,Int.toNat_natCast];congr 2
theorem Zb4 (n j:Nat):Oa (.int ((n / 2^j:Nat):Int)) (.int 1)=some (.int (if n.testBit j then 1 else 0)):=by
 show some (Dat.int (Builtin.bitAnd ((n / 2^j:Nat):Int) ((1:Nat):Int)))=_;rw [Rc,Nat.and_one_is_mod,Nat.testBit_eq_decide_div_mod_eq];generalize n / 2^j=q;congr 2
 rcases (show q % 2=0\/q % 2=1 by lia) with h | h<;>simp [h]
theorem Z87 (a b:Nat):Oa (.int (a:Int)) (.int (b:Int))=some (.int ((a &&& b:Nat):Int)):=by
 show some (Dat.int (Builtin.bitAnd _ _))=_;rw [Rc]
theorem orN (a b:Nat):orD (.int (a:Int)) (.int (b:Int))=some (.int ((a ||| b:Nat):Int)):=by
 show some (Dat.int (Builtin.bitOr _ _))=_;rw [K8]
theorem Zf8 (a b:Nat):Z8n (.int (a:Int)) (.int (b:Int))=some (.int ((a ^^^ b:Nat):Int)):=by
 show some (Dat.int (Builtin.bitXor _ _))=_;rw [Od]
theorem Zaa (b:Bool):Hr (.int (if b then 1 else 0)) (.int 1)=some (.bl b):=by cases b<;>rfl
theorem eqN (a b:Nat):Hr (.int (a:Int)) (.int (b:Int))=some (.bl (a==b)):=by
 show some (Dat.bl ((a:Int)==(b:Int)))=_;congr 2
 rw [Bool.eq_iff_iff,beq_iff_eq,beq_iff_eq];lia
theorem Zfg (i j:Int):Lc (.int i) (.int j)=some (.bl (!(i==j))):=rfl
theorem Z8g (bs:List Bool):Z5i [.lst (bs.map .bl)]=some (.bl (bs.any id)):=by unfold Z5i;dsimp only;rw [C2];rfl
theorem M7 {fs:Zzv} (h:fs env=some xs) (hl:xs.length<=1000):Qx fs env=some xs:=by unfold Qx;rw [h];exact if_pos (le_trans hl (by decide))
theorem W4 (ps:List Nat):Zd ps=ps.map fun p:Nat=>Dat.int (p:Int):=toI ps
theorem Z7b {F:Dat->Option Dat} {x z:Dat} (h1:f env=some x) (h2:F x=some z):dU F f env=some z:=by unfold dU;rw [h1];exact h2
theorem C7 {g:Dat->Ev->Option Ev} (D:α->Dat) (P:α->Prop):∀ (xs:List Dat),(∀ x∈xs,∃ (e1:Ev) (y:α),g x env=some e1/\f e1=some (D y)/\P y)->∃ ys:List α,W3 g Ux f env xs=some (ys.map D)/\ys.length=xs.length/\∀ y∈ys,P y
 | [],_=>⟨[],rfl,rfl,fun _ h=>nomatch h⟩
 | x::xs,h=>by
  obtain ⟨e1,y,a1,a2,a3⟩:=h x mem_cons_self;obtain ⟨ys,b1,b2,b3⟩:=C7 D P xs fun z hz=>h z (mem_cons_of_mem _ hz)
  refine ⟨y::ys,?_,by rw [length_cons,length_cons,b2],fun z hz=>?_⟩
  ·rw [W3,a1]
   dsimp only [Option.bind,Ux];rw [if_pos rfl,a2];dsimp only;rw [b1];rfl
  ·rcases mem_cons.mp hz with e | e
   ·exact e▸a3
   ·exact b3 z e
theorem Z9w {lo:Int} {n:Nat} {d:Dat} (h:d∈rng lo n):∃ i:Nat,i<n/\d=.int (lo+i):=by
 obtain ⟨i,hi,e⟩:=getElem_of_mem h;have:=Ub (lo:=lo) (n:=n) (i:=i) (d:=d) (by rw [getElem?_eq_getElem hi,e]);exact ⟨i,this.1,this.2⟩
theorem Ic {ps:List Nat} {d:Dat} (h:(Zd ps)[i]?=some d):∃ p:Nat,ps[i]?=some p/\d=.int (p:Int):=by
 rw [getElem?_map,getElem?_map] at h;obtain ⟨y,hy,rfl⟩:=map_some h;obtain ⟨p,hq,rfl⟩:=map_some hy;exact ⟨p,hq,rfl⟩
structure St3 where
 w:Nat
 up:Bool
 takes:List Nat
 fills:List Nat
def St3.d (s:St3):Dat:=.tup [.int (s.w:Int),.bl s.up,.tup (Zd s.takes),.tup (Zd s.fills)]
structure G3 where
 wires:List (Str×Bool)
 steps:List St3
 marks:Nat
 code:Nat
def T6 (w:Str×Bool):Dat:=.tup [.str w.1,.str (if w.2 then "made" else "given")]
def G3.d (G:G3):Dat:=.tup [.tup (G.wires.map T6),.tup (G.steps.map St3.d),.int (G.marks:Int),.int (G.code:Int)]
theorem Mo (r m:Nat) (h:0<m):Tf (.int (r:Int)) (.int (m:Int))=some (.int ((r % m:Nat):Int)):=by
 rw [Z24 (by lia)];rfl
theorem Qv (r m:Nat) (h:0<m) (h2:m<1073741824):U8 (.int (r:Int)) (.int (m:Int))=some (.int ((r / m:Nat):Int)):=by
 rw [Z6s ⟨by lia,by lia⟩];rfl
theorem Z2u (r m:Nat) (h:r<18446744073709551616):Ez (.int (r:Int)) (.int (m:Int))=some (.int ((r*m:Nat):Int)):=by
 rw [Gw (.inl ⟨by lia,by lia⟩)];rfl
theorem J7 (r m:Nat):Wk (.int (r:Int)) (.int (m:Int))=some (.int ((r+m:Nat):Int)):=rfl
def Tc (s:St3) (m:Nat):Bool:=(m &&& bitsN s.takes)==bitsN s.takes
theorem Z4a (ps:List Nat):∃ qs:List Nat,(Gp (ps.map fun p:Nat=>(p:Int))).map Dat.int=Zd qs/\qs.Perm ps:=by
 refine ⟨(Gp (ps.map fun p:Nat=>(p:Int))).map Int.toNat,?_,?_⟩
 ·show _=(((Gp (ps.map fun p:Nat=>(p:Int))).map Int.toNat).map fun p:Nat=>(p:Int)).map Dat.int
  congr 1
  rw [map_map];conv=>lhs;rw [← map_id (Gp _)]
  apply List.map_congr_left;intro x hx;have:=(Q3 _).mem_iff.mp hx;obtain ⟨p,_,rfl⟩:=mem_map.mp this;simp
 ·have h:=(Q3 (ps.map fun p:Nat=>(p:Int))).map Int.toNat
  rw [map_map] at h;have e:(Int.toNat ∘ fun p:Nat=>(p:Int))=id:=by funext p;simp
  rw [e,map_id] at h;exact h
theorem Az (ps:List Nat) (h:ps.length<64):∃ qs:List Nat,Z1g [.lst (Zd ps)]=some (Zd qs)/\qs.Perm ps:=by
 obtain ⟨qs,e,hp⟩:=Z4a ps;refine ⟨qs,?_,hp⟩;unfold Z1g;dsimp only;rw [E3];show (if (ps.map fun p:Nat=>(p:Int)).length<64 then _ else _)=_;rw [if_pos (by rw [length_map];exact h),e]
theorem N6 (x y:Str):(x++y).length=x.length+y.length:=Z2x x y
section
variable {env:Ev} {N:Ev->Prop} {R:Dat->Prop}
theorem Et {fa fb:Zzu} {d:Dat} (e:env[i]?=some (.ow ds)) (e1:fb env=some d) (e2:fa env=some (.int (k:Int))) (hk:k<ds.length) (q:N (env.set i (.ow (ds.set k d)))):Go (Ju i fa fb env) N R:=by
 unfold Ju;rw [e,e1,e2];dsimp only;rw [if_pos ⟨by lia,by lia⟩];exact ⟨q⟩
theorem Z6f {fa:Zzv} {d:Dat} (e:env[i]?=some (.ow ds)) (e2:fa env=some [.int (k:Int)]) (hk:ds[k]?=some d) (q:N ((env.set i (.ow (ds.eraseIdx k))).set j (.fz d))):Go (Ob j i fa env) N R:=by
 unfold Ob;rw [e,e2];dsimp only;have hl:k<ds.length:=(List.getElem?_eq_some_iff.mp hk).1;rw [if_pos ⟨by lia,by lia⟩,Int.toNat_natCast,hk];exact ⟨q⟩
theorem Z1t {d:Dat} (e:f env=some d) (q:N env):Go (P9 f env) N R:=by
 unfold P9;rw [e];exact ⟨q⟩
theorem Z2r {fs:List (Option Nat)} {h:Nat} (e:src env=some ds) (q:N (env.set i (.gx (.nest (List.replicate ds.length []))))):Go (Ph i src fs (Y5 h) env) N R:=by
 unfold Ph;rw [e];dsimp only;rw [if_pos (show (ds.all fun d=>(Y5 h d (Tv fs env)).isSome)=true from all_eq_true.mpr fun d _=>rfl)];exact ⟨q⟩
def Z4r (tk:List (List Nat)) (k x:Nat):List (List Nat):=tk.set k (tk.getD k []++[x])
theorem R6 (tk:List (List Nat)) (k x:Nat):(Z4r tk k x).length=tk.length:=by unfold Z4r;rw [length_set]
structure Nst (L B:Nat) (tk:List (List Nat)):Prop where
 len:∀ l∈tk,l.length<=L
 lt:∀ l∈tk,∀ p∈l,p<B
theorem Nst.mono {L' B B':Nat} {tk:List (List Nat)} (h:Nst L B tk) (h1:L<=L') (h2:B<=B'):Nst L' B' tk:=⟨fun l q=>le_trans (h.len l q) h1,fun l q p z=>lt_of_lt_of_le (h.lt l q p z) h2⟩
theorem Nst.app {B:Nat} {tk:List (List Nat)} (h:Nst L B tk) (k x:Nat) (hx:x<B):Nst (L+1) B (Z4r tk k x):=by
 have hg:(tk.getD k []).length<=L/\∀ p∈tk.getD k [],p<B:=by
  cases e:tk[k]? with
  | none=>simp [List.getD,e]
  | some l=>have hm:=mem_of_getElem? e;simp only [List.getD,e,Option.getD_some];exact ⟨h.len l hm,h.lt l hm⟩
 constructor
 ·intro l hl
  rcases List.mem_or_eq_of_mem_set hl with q | q
  ·exact Nat.le_succ_of_le (h.len l q)
  ·rw [q,length_append];show _+1<=_;lia
 ·intro l hl p hp
  rcases List.mem_or_eq_of_mem_set hl with q | q
  ·exact h.lt l q p hp
  ·rw [q] at hp
   rcases mem_append.mp hp with z | z
   ·exact hg.2 p z
   ·rw [mem_singleton.mp z];exact hx
theorem Nst.nil (n:Nat):Nst 0 0 (List.replicate n []):=⟨fun l h=>by rw [(List.mem_replicate.mp h).2];exact le_refl _,fun l h p hp=>by rw [(List.mem_replicate.mp h).2] at hp;cases hp⟩
theorem Z7e (n:Nat):(List.replicate n ([]:List Dat))=(List.replicate n ([]:List Nat)).map Zd:=by rw [List.map_replicate];rfl
theorem Le {fa:Zzu} {fs:Zzv} {tk:List (List Nat)} {x B:Nat} (e:env[i]?=some (.gx (.nest (tk.map Zd)))) (h:Nst L B tk) (hL:L<=1000) (hk:k<tk.length) (e1:fa env=some (.int (k:Int))) (e2:fs env=some [.int (x:Int)]) (q:N (env.set i (.gx (.nest ((Z4r tk k x).map Zd))))):Go (Kt i fa fs env) N R:=by
 unfold Kt;rw [e,e1];dsimp only;have hat:En (tk.map Zd) (k:Int)=some (Zd tk[k]):=by
  unfold En;rw [if_pos (by lia),Int.toNat_natCast];simp [hk]
 rw [hat,e2];dsimp only;have hl:=h.len _ (getElem_mem hk);rw [show (some [Dat.int (x:Int)]).bind (fun as=>Ua (Zd tk[k]) as)=some (Zd (tk[k]++[x])) by
  show Ua (Zd tk[k]) [Dat.int (x:Int)]=_;rw [Je (by rw [length_map,length_map];lia)];simp [Zd]]
 dsimp only;have:(tk.map Zd).set ((k:Int)).toNat (Zd (tk[k]++[x]))=(Z4r tk k x).map Zd:=by
  unfold Z4r;rw [Int.toNat_natCast,map_set];congr 2
  simp [List.getD,hk]
 rw [this];exact ⟨q⟩
theorem Z27 {fa:Zzu} {tk:List (List Nat)} {l:List Nat} (e:env[i]?=some (.gx (.nest (tk.map Zd)))) (e1:fa env=some (.int (k:Int))) (hk:tk[k]?=some l):Z43 i fa env=some (.lst (Zd l)):=by
 unfold Z43;rw [e,e1];dsimp only;unfold En;rw [if_pos (by lia),Int.toNat_natCast,getElem?_map,hk];rfl
end
theorem K0 {g:Dat->Ev->Option Ev} {t:Ev->Option Bool} (D E:α->Dat):∀ (xs:List α),(∀ x∈xs,∃ e1 b,g (D x) env=some e1/\t e1=some b/\f e1=some (E x))->∃ ys:List α,ys.Sublist xs/\W3 g t f env (xs.map D)=some (ys.map E)
 | [],_=>⟨[],.slnil,rfl⟩
 | x::xs,h=>by
  obtain ⟨ys,h1,h2⟩:=K0 D E xs fun z hz=>h z (mem_cons_of_mem _ hz)
  obtain ⟨e1,b,a1,a2,a3⟩:=h x mem_cons_self;cases b with
  | true=>exact ⟨x::ys,h1.cons₂ x,by rw [map_cons,W3,a1];show (t e1).bind _=_;rw [a2];show (f e1).bind _=_;rw [a3,h2];rfl⟩
  | false=>exact ⟨ys,h1.cons x,by rw [map_cons,W3,a1];show (t e1).bind _=_;rw [a2];exact h2⟩
theorem Zfb (r m:Nat) (h:m<=r):Z7y (.int (r:Int)) (.int (m:Int))=some (.int ((r - m:Nat):Int)):=by
 show some (Dat.int ((r:Int) - (m:Int)))=_;rw [Int.ofNat_sub h]
theorem Mz (ps:List Nat):Uh [.lst (Zd ps)]=some (.int ((ps.length:Nat):Int)):=by
 show some (Dat.int ((Zd ps).length:Int))=_;rw [length_map,length_map]
theorem Ki (ps:List Nat) (a w:Nat) (h:a<=ps.length) (hl:ps.length<=1000):He (Zd ps) [.int (a:Int),.int (w:Int)]=some (Zd (ps.take a++w::ps.drop a)):=by
 show (if _ then some _ else none)=_;rw [if_pos ⟨by lia,by rw [length_map,length_map];lia,by rw [length_map,length_map];exact lt_of_le_of_lt hl (by decide)⟩,Int.toNat_natCast];simp [Zd,map_take,map_drop]
theorem O0 (ps:List α) (a:Nat) (w:α):(ps.take a++w::ps.drop a).length=ps.length+1:=by
 rw [length_append,length_cons,length_take,length_drop];lia
theorem B6 (ps:List α) (a:Nat) (w:α):(ps.take a++w::ps.drop a).Perm (w::ps):=by
 have h:(ps.take a++w::ps.drop a).Perm (w::(ps.take a++ps.drop a)):=List.perm_middle;rw [List.take_append_drop] at h;exact h
theorem Gh (ps:List Nat) (a w v:Nat):(ps.take a++w::ps.drop a).count v=ps.count v+(if w=v then 1 else 0):=by
 rw [(B6 ps a w).count_eq,List.count_cons];by_cases h:w=v<;>simp [h]
theorem Bp (xs:List α) (t:Nat) (h:t<=xs.length):Jy xs (some (t:Int)) none=xs.drop t:=by
 unfold Jy;rw [HT.sIx_nat,HT.sIx_none,Nat.min_eq_left h,take_of_length_le (by rw [length_drop];exact le_refl _)]
theorem Z5y (xs:List α) (t:Nat) (h:t<=xs.length):Jy xs none (some (t:Int))=xs.take t:=by
 unfold Jy;rw [HT.sIx_nat,HT.sIx_none,Nat.min_eq_left h,drop_zero,Nat.sub_zero]
theorem Lh (f:α->β) (xs:List α) (a b:Option Int):Jy (xs.map f) a b=(Jy xs a b).map f:=by
 unfold Jy;rw [length_map,map_take,map_drop]
theorem Z8o (ps:List Nat) (c:Nat):(ps.map fun p:Nat=>(p:Int)).idxOf (c:Int)=ps.idxOf c:=by
 induction ps with
 | nil=>rfl
 | cons p ps ih =>
  rw [map_cons,List.idxOf_cons,List.idxOf_cons,ih];by_cases h:p=c
  ·subst h;rw [show ((p:Int)==(p:Int))=true from beq_self_eq_true _,show (p==p)=true from beq_self_eq_true _]
  ·rw [show ((p:Int)==(c:Int))=false from beq_eq_false_iff_ne.mpr (by lia),show (p==c)=false from beq_eq_false_iff_ne.mpr h]
theorem Ny (ps:List Nat) (c:Nat) (h:c∈ps):O4 (.lst (Zd ps)) [.int (c:Int)]=some (.int ((ps.idxOf c:Nat):Int)):=by
 show ((Qk (Zd ps)).bind fun zs=>if (c:Int)∈zs then some (Dat.int ((zs.idxOf (c:Int):Nat):Int)) else none)=_;rw [E3];show (if _ then some _ else none)=_;rw [if_pos (mem_map_of_mem h),Z8o]
theorem X6 (h:xs.length+ys.length<=1000):Wk (.lst xs) (.lst ys)=some (.lst (xs++ys)):=if_pos (le_trans h (by decide))
theorem Z8j (h:xs.length+ys.length<=1000):O7 (.lst xs) (.lst ys)=some (xs++ys):=if_pos (le_trans h (by decide))
theorem Z2o (h:xs.length+ys.length<=1000):Z7t (.tup xs) (.tup ys)=some (.tup (xs++ys)):=if_pos (le_trans h (by decide))
def Zq (p:Nat×Nat):Dat:=.tup [.int (p.1:Int),.int (p.2:Int)]
theorem Lo (p:Nat×Nat):pd 20 (Zq p)=true:=rfl
theorem X1 (p:Nat×Nat) (qs:List (Nat×Nat)):∃ b,Ep (Zq p) (.lst (qs.map Zq))=some (.bl b):=by
 refine ⟨!((qs.map Zq).any fun y=>Hk y (Zq p)),?_⟩;unfold Ep inB;dsimp only;rw [if_pos]
 ·rfl
 ·rw [Lo,Bool.true_and]
  exact all_eq_true.mpr fun x hx=>by obtain ⟨q,_,rfl⟩:=mem_map.mp hx;exact Lo q
theorem Z66 (p q:Nat×Nat):∃ b,Lc (Zq p) (Zq q)=some (.bl b):=by
 refine ⟨!Hk (Zq p) (Zq q),?_⟩;unfold Lc;rw [Lo,Lo];rfl
theorem Zhx (a b:Nat):Z4x [.int (a:Int),.int (b:Int)]=some (.int ((min a b:Nat):Int)):=by
 show some (Dat.int (if (b:Int)<(a:Int) then (b:Int) else (a:Int)))=_;congr 2
 split<;>lia
theorem Zhq (a b:Nat):Z3i [.int (a:Int),.int (b:Int)]=some (.int ((max a b:Nat):Int)):=by
 show some (Dat.int (if (b:Int) > (a:Int) then (b:Int) else (a:Int)))=_;congr 2
 split<;>lia
theorem neN (a b:Nat):Lc (.int (a:Int)) (.int (b:Int))=some (.bl (!(a==b))):=by
 rw [Zfg];congr 3
 rw [Bool.eq_iff_iff];simp;lia
theorem Hs (ps:List Nat) (h:ps.length<64):∃ qs:List Nat,Gz [.lst (Zd ps)]=some (Zd qs)/\qs.Perm ps:=Az ps h
theorem Ge (n:Nat):rng 0 n=(List.range n).map fun k:Nat=>Dat.int (k:Int):=by
 unfold rng;congr 1
 funext k
 rw [Int.zero_add]
theorem Kc {d:Dat} (h:(Tq 0 xs)[i]?=some d):∃ x,xs[i]?=some x/\d=.tup [.int (i:Int),x]:=by
 rw [Gy] at h;cases e:xs[i]? with
 | none=>rw [e] at h;cases h
 | some x=>rw [e] at h;cases h;exact ⟨x,rfl,by rw [zero_add]⟩
theorem Zar {F:Dat->List Dat->Option α} {fs:Zzv} {x:Dat} {as:List Dat} {z:α} (h1:f env=some x) (ht:Z0v T x=true) (h2:fs env=some as) (h3:F x as=some z):dM T F f fs env=some z:=by
 unfold dM;rw [h1];show (if _ then _ else _)=_;rw [if_pos ht,h2];exact h3
theorem Xd (h:f env=some (.lst xs)):Th f env=some xs:=by unfold Th;rw [h]
theorem Bw (h:f env=some (.lst xs)):G1 f env=some (Tq 0 xs):=by unfold G1;rw [Xd h];rfl
theorem To {g:Dat->Ev->Option Ev} {t:Ev->Option Bool} (D E:α->Dat) (p:α->Bool):∀ (xs:List α),(∀ x∈xs,∃ e1,g (D x) env=some e1/\t e1=some (p x)/\f e1=some (E x))->W3 g t f env (xs.map D)=some ((xs.filter p).map E)
 | [],_=>rfl
 | x::xs,h=>by
  have ih:=To D E p xs fun z hz=>h z (mem_cons_of_mem _ hz)
  obtain ⟨e1,a1,a2,a3⟩:=h x mem_cons_self;rw [map_cons,W3,a1];show (t e1).bind _=_;rw [a2];cases hp:p x with
  | true=>show (f e1).bind _=_;rw [a3,ih,List.filter_cons_of_pos hp];rfl
  | false=>rw [List.filter_cons_of_neg (by rw [hp];decide)];exact ih
theorem Xu (xs:List Dat) (a b:Option Int):Ct (.lst xs) a b=some (.lst (Jy xs a b)):=rfl
theorem Z9j (z:Str) (a b:Option Int):Ct (.str z) a b=some (.str (Txt.slice z a b)):=rfl
def Qt (s:St3) (p:Nat×Nat):Nat×Nat:=((p.1 ^^^ (p.1 &&& bitsN s.takes)) ||| bitsN s.fills,p.2 ^^^ 2^s.w)
theorem Zfp (s:St3) (p:Nat×Nat) (j:Nat):(Qt s p).1.testBit j=((p.1.testBit j&&!decide (j∈s.takes))||decide (j∈s.fills)):=by
 unfold Qt;dsimp only;rw [testBit_or,Nat.testBit_xor,testBit_and,T8,T8];cases p.1.testBit j<;>cases decide (j∈s.takes)<;>rfl
structure Rw where
 m:Nat
 c:Nat
 src:Option (Nat×Nat)
def Rw.st (r:Rw):Nat×Nat:=(r.m,r.c)
def Rw.d (r:Rw):Dat:=.tup [.int (r.m:Int),.int (r.c:Int),match r.src with | none=>.non | some p=>.int (p.1:Int),match r.src with | none=>.non | some p=>.int (p.2:Int)]
structure Told (G:G3) (I:Nat×Nat->Prop) (rows:List Rw):Prop where
 zero:rows[0]?=some ⟨G.marks,G.code,none⟩
 inv:∀ r∈rows,I r.st
 nd:(rows.map Rw.st).Nodup
 src:∀ i r,rows[i]?=some r->0<i->∃ f k s rf,r.src=some (f,k)/\f<i/\G.steps[k]?=some s/\rows[f]?=some rf/\Tc s rf.m=true/\r.st=Qt s rf.st
def Hy (rows:List Rw):Nat->Nat->List Nat
 | 0,_=>[]
 | fu+1,n=>match (rows[n]?).bind Rw.src with
  | none=>[]
  | some p=>Hy rows fu p.1++[p.2]
theorem Kb {G:G3} {rows:List Rw} (t:Told G I rows):∀ (fu n:Nat),n<rows.length->n<=fu->Hy rows fu n=Hy rows n n
 | 0,n,_,h=>by rw [show n=0 by lia]
 | fu+1,n,hl,h=>by
  obtain ⟨r,hr⟩:∃ r,rows[n]?=some r:=⟨_,getElem?_eq_getElem hl⟩;rcases eq_zero_or_pos n with z | z
  ·subst z
   show (match (rows[0]?).bind Rw.src with | none=>[] | some p=>Hy rows fu p.1++[p.2])=[];rw [t.zero];rfl
  ·obtain ⟨f,k,s,rf,a1,a2,_,a4,_,_⟩:=t.src n r hr z
   have hfl:=(List.getElem?_eq_some_iff.mp a4).1;obtain ⟨n',rfl⟩:∃ n',n=n'+1:=⟨n - 1,by lia⟩;rw [Hy,Hy,hr];show (match r.src with | none=>[] | some p=>Hy rows fu p.1++[p.2])=(match r.src with | none=>[] | some p=>Hy rows n' p.1++[p.2]);rw [a1];show Hy rows fu f++[k]=Hy rows n' f++[k];rw [Kb t fu f hfl (by lia),Kb t n' f hfl (by lia)]
def Mu (rows:List Rw) (n:Nat):List Nat:=Hy rows n n
theorem C6 (rows:List Rw):Mu rows 0=[]:=rfl
theorem Bo {G:G3} {rows:List Rw} (t:Told G I rows) {n:Nat} {r:Rw} {f:Nat} (hr:rows[n]?=some r) (hs:r.src=some (f,k)) (h0:0<n):Mu rows n=Mu rows f++[k]:=by
 obtain ⟨f',k',s,rf,a1,a2,_,a4,_,_⟩:=t.src n r hr h0;rw [hs] at a1;cases a1;have hfl:=(List.getElem?_eq_some_iff.mp a4).1;obtain ⟨n',rfl⟩:∃ n',n=n'+1:=⟨n - 1,by lia⟩;unfold Mu;rw [Hy,hr];show (match r.src with | none=>[] | some p=>Hy rows n' p.1++[p.2])=_;rw [hs];show Hy rows n' f++[k]=_;rw [Kb t n' f hfl (by lia)]
theorem Z5d {G:G3} {rows:List Rw} (t:Told G I rows) {n:Nat} {r:Rw} (hr:rows[n]?=some r):r.src=none↔n=0:=by
 constructor
 ·intro h
  rcases eq_zero_or_pos n with z | z
  ·exact z
  ·obtain ⟨f,k,s,rf,a1,_⟩:=t.src n r hr z
   rw [h] at a1;cases a1
 ·rintro rfl
  rw [t.zero] at hr;cases hr;rfl
end L2
namespace L2
end L2
namespace L2
end L2
namespace L2
open PySem PySem.Spec PyProof.Rows
section
variable {N:Ev->Prop} {R:Dat->Prop} {g h:Ev->Fl} {f fk fv:Zzu} {t:Ev->Option Bool} {env:Ev} {d:Dat} {ds:List Dat} {i:Nat}
theorem Zee {x y:Int} (e:env[i]?=some (.fz (.int x))) (e2:f env=some (.int y)) (q:N (env.set i (.fz (.int (x+y))))):Go (Z55 i f env) N R:=by
 unfold Z55;rw [e,e2];exact ⟨q⟩
def Nc (p:Nat×Nat):List V5:=[.inl (p.1:Int),.inl (p.2:Int)]
theorem Z78 {p:Nat×Nat}:Nc p=Nc q↔p=q:=by
 constructor
 ·intro h
  unfold Nc at h;simp only [List.cons.injEq,Sum.inl.injEq,and_true] at h;exact Prod.ext (by lia) (by lia)
 ·rintro rfl;rfl
theorem Iy (p:Nat×Nat):Z4j (Zq p)=some (Nc p):=rfl
def Gc (ps:List (Nat×Nat)):List (List V5×Dat):=ps.map fun p=>(Nc p,.bl true)
theorem No (ps:List (Nat×Nat)) (q:Nat×Nat):Ks (Gc ps) (Nc q)=decide (q∈ps):=by
 unfold Ks Gc;rw [map_map,Bool.eq_iff_iff,any_eq_true,decide_eq_true_eq];constructor
 ·rintro ⟨x,hx,e⟩
  obtain ⟨p,hp,rfl⟩:=mem_map.mp hx;have:Nc p=Nc q:=of_decide_eq_true e;rw [← Z78.mp this];exact hp
 ·intro h
  exact ⟨Nc q,mem_map.mpr ⟨q,h,rfl⟩,decide_eq_true rfl⟩
theorem Zab {ps:List (Nat×Nat)} (e:env[i]?=some (.gx (.dict (Gc ps)))) (e2:f env=some (Zq q)):Z5u false i f env=some (.bl (decide (q∈ps))):=by
 unfold Z5u;rw [e,e2];dsimp only;rw [Iy];show some (Dat.bl (Ks (Gc ps) (Nc q)))=_;rw [No]
theorem Z9m {ps:List (Nat×Nat)} (e:env[i]?=some (.gx (.dict (Gc ps)))) (e2:fv env=some (.bl true)) (e3:fk env=some (Zq q)) (hq:q∉ps) (hl:ps.length<=1000) (n:N (env.set i (.gx (.dict (Gc (ps++[q])))))):Go (Nx i fk fv env) N R:=by
 unfold Nx;rw [e,e2,e3];dsimp only;rw [Iy];dsimp only;rw [if_pos ⟨by rw [No,decide_eq_false hq],by unfold Gc;rw [length_map];exact lt_of_le_of_lt hl (by decide)⟩];have:Gc ps++[(Nc q,Dat.bl true)]=Gc (ps++[q]):=by unfold Gc;rw [map_append];rfl
 rw [this];exact ⟨n⟩
theorem Z90 (e:fk env=some (Zq q)) (e2:fv env=some (.bl true)) (n:N (env.set i (.gx (.dict (Gc [q]))))):Go (C4 i fk fv env) N R:=by
 unfold C4;rw [e,e2];dsimp only;rw [Iy];exact ⟨n⟩
theorem Zc2 {fs:Zzv} (h1:fs env=some [.lst xs]):dLR fs env=some xs.reverse:=by unfold dLR;rw [h1]
end
def Xs (G:G3) (m k:Nat):Bool:=match G.steps[k]? with
 | some s=>Tc s m
 | none=>false
theorem Z3u {G:G3} {m:Nat} (h:Xs G m k=true):∃ s,G.steps[k]?=some s/\Tc s m=true:=by
 unfold Xs at h;cases e:G.steps[k]? with
 | none=>rw [e] at h;cases h
 | some s=>rw [e] at h;exact ⟨s,rfl,h⟩
def Cs (G:G3) (m:Nat):List Nat:=(List.range G.steps.length).filter (Xs G m)
theorem X2 {rows F:List Rw} (h:rows <+: F) {r:Rw} (e:rows[i]?=some r):F[i]?=some r:=by
 obtain ⟨t,rfl⟩:=h;rw [getElem?_append_left (List.getElem?_eq_some_iff.mp e).1];exact e
theorem Z62 {G:G3} {m:Nat} (h:k∈Cs G m):Xs G m k=true:=(mem_filter.mp h).2
def GdE (r:Fl) (N C:Ev->Prop) (R:Dat->Prop) (E:Str->List (Str×XD)->Prop):Prop:=match r with
 | .next e=>N e
 | .cont e=>C e
 | .ret d=>R d
 | .exc _ c fl=>E c fl
 | _=>False
structure GoE (r:Fl) (N C:Ev->Prop) (R:Dat->Prop) (E:Str->List (Str×XD)->Prop):Prop where
 of:GdE r N C R E
section
variable {N C:Ev->Prop} {R:Dat->Prop} {E:Str->List (Str×XD)->Prop} {g h:Ev->Fl} {t:Ev->Option Bool} {env:Ev} {d:Dat} {ds:List Dat} {i:Nat}
theorem Go.toE {r:Fl} (q:Go r N R):GoE r N C R E:=by
 cases r with
 | next e=>exact ⟨q.of⟩
 | ret d=>exact ⟨q.of⟩
 | _=>exact q.of.elim
theorem V2 (q:GoE (g env) (fun e=>GoE (h e) N C R E) C R E):GoE (Zf g h env) N C R E:=by
 unfold Zf;cases e:g env with
 | next e'=>rw [e] at q;exact q.of
 | ret d=>rw [e] at q;exact ⟨q.of⟩
 | cont d=>rw [e] at q;exact ⟨q.of⟩
 | exc e' c fl=>rw [e] at q;exact ⟨q.of⟩
 | _=>rw [e] at q;exact q.of.elim
theorem Ud (q:Go (g env) (fun e=>GoE (h e) N C R E) R):GoE (Zf g h env) N C R E:=V2 q.toE
theorem Iq {b:Bool} (e:t env=some b) (q1:b=true->GoE (g env) N C R E) (q2:b=false->GoE (h env) N C R E):GoE (Ec t g h env) N C R E:=by
 unfold Ec;rw [e];cases b with
 | true=>exact q1 rfl
 | false=>exact q2 rfl
theorem Mr {Gf:List Dat->Option (List (Str×XD))} {fs:Zzv} (e:fs env=some ds) (e2:Gf ds=some fl) (q:E c fl):GoE (Vl c Gf fs env) N C R E:=by
 unfold Vl;rw [e];dsimp only [Option.bind];rw [e2];exact ⟨q⟩
theorem Ba (P:Nat->Ev->Prop):∀ (ds:List Dat) (k:Nat) (env:Ev),P k env->(∀ i d e,ds[i]?=some d->P (k+i) e->∃ e1,gg d e=some e1/\GoE (g e1) (P (k+i+1)) (P (k+i+1)) R E)->(∀ e,P (k+ds.length) e->N e)->GoE (L5 gg g ds env) N C R E
 | [],k,env,h0,_,hN=>⟨hN env h0⟩
 | d::ds,k,env,h0,hs,hN=>by
  obtain ⟨e1,a1,a2⟩:=hs 0 d env rfl h0;rw [L5,a1];dsimp only;have more:∀ e',P (k+0+1) e'->GoE (L5 gg g ds e') N C R E:=fun e' h'=>Ba P ds (k+1) e' h' (fun i d e hi hp=>by
   have:=hs (i+1) d e (by simpa using hi) (by rw [show k+(i+1)=k+1+i by lia];exact hp);rw [show k+1+i+1=k+(i+1)+1 by lia];exact this) (fun e hp=>hN e (by rw [length_cons,show k+(ds.length+1)=k+1+ds.length by lia];exact hp))
  cases e:g e1 with
  | next e'=>rw [e] at a2;exact more e' a2.of
  | cont e'=>rw [e] at a2;exact more e' a2.of
  | ret d'=>rw [e] at a2;exact ⟨a2.of⟩
  | exc e' c fl=>rw [e] at a2;exact ⟨a2.of⟩
  | _=>rw [e] at a2;exact a2.of.elim
theorem A8 (P:Nat->Ev->Prop) (e:src env=some ds) (h0:P 0 env) (hs:∀ i d e,ds[i]?=some d->P i e->∃ e1,gg d e=some e1/\GoE (g e1) (P (i+1)) (P (i+1)) R E) (hN:∀ e,P ds.length e->N e):GoE (Q1 src gg g env) N C R E:=by
 unfold Q1;rw [e];exact Ba P ds 0 env h0 (fun i d e hi hp=>by simpa using hs i d e hi (by simpa using hp)) (fun e hp=>hN e (by simpa using hp))
theorem GoE.ne {r:Fl} (q:GoE r N C R E):r≠.no:=fun z=>by rw [z] at q;exact q.of
theorem Z40 (W:Nat->Ev->Prop) {n:Nat} (h0:W n env) (hs:∀ n e,W n e->(t e=some false/\N e)\/(t e=some true/\GoE (g e) (fun e'=>∃ m,m<n/\W m e') (fun _=>False) R E)):GoE (Sw t g env) N C R E:=by
 have key:∀ n e,W n e->GoE (V3 t g (n+1) e) N C R E:=by
  intro n;induction n using Nat.strongRecOn with
  | _ n ih =>
   intro e hw;rcases hs n e hw with ⟨a,b⟩ | ⟨a,b⟩
   ·rw [V3,a];exact ⟨b⟩
   ·rw [V3,a]
    dsimp only;cases eg:g e with
    | next e' =>
     rw [eg] at b;obtain ⟨m,hm,hw'⟩:=b.of;have q:=ih m hm e' hw';dsimp only;have:=Uu (n - (m+1)) q.ne;rw [show m+1+(n - (m+1))=n by lia] at this;rw [this];exact q
    | ret d=>rw [eg] at b;exact ⟨b.of⟩
    | exc e' c fl=>rw [eg] at b;exact ⟨b.of⟩
    | _=>rw [eg] at b;exact b.of.elim
 have q:=key n env h0;rw [Pf q.ne];exact q
theorem Lz {n p:Nat} (hp:ds.length=p) (q:GoE (g (Ui n ds)) (fun _=>R .non) (fun _=>False) R E):(∃ d,Y7 n p g ds=.ok d/\R d)\/∃ c fl,Y7 n p g ds=.exc c fl/\E c fl:=by
 unfold Y7;rw [if_pos hp];cases e:g (Ui n ds) with
 | next e'=>rw [e] at q;exact .inl ⟨_,rfl,q.of⟩
 | ret d=>rw [e] at q;exact .inl ⟨_,rfl,q.of⟩
 | exc e' c fl=>rw [e] at q;exact .inr ⟨_,_,rfl,q.of⟩
 | _=>rw [e] at q;exact q.of.elim
variable {e' e3:Ev} {sub:Str->Bool} {c:Str} {fl:List (Str×XD)} {F:List Dat->Rs} {fs:Zzv}
theorem Z3j (e:fs env=some ds) (h:F ds=.exc c fl):G4 F fs env=.exc env c fl:=by unfold G4;rw [e];dsimp only;rw [h]
end
end L2
namespace K74
open PySem PySem.Spec PyProof.Rows L2
theorem G6 (ns:List Int) (k:Nat) (hk:k<=100000):∃ r:Nat,Y9 [Mp ns,.int (k:Int)]=.ok (.int (r:Int))/\r<1000000000039:=by
 have:=Zz (n:=3) (p:=2) (ds:=[Mp ns,.int (k:Int)]) (g:=Q6) (R:=fun d=>∃ r:Nat,d=.int (r:Int)/\r<1000000000039) rfl ?_
 ·obtain ⟨d,e,r,rfl,h⟩:=this
  exact ⟨r,e,h⟩
 show Go (Q6 [.fz (Mp ns),.fz (.int (k:Int)),.un]) _ _;unfold Q6;have fin:∀ z:Int,Go (Yk (dO Tf (dO Ez (dV 2) (dC (.int 48271))) (dC (.int 1000000000039))) [.fz (Mp ns),.fz (.int (k:Int)),.fz (.int z)]) (fun _=>False) (fun d=>∃ r:Nat,d=.int (r:Int)/\r<1000000000039):=fun z=>by
  refine Y0 (d:=.int (z*48271 % 1000000000039)) (Z7 (Z7 rfl rfl (Gw (.inr (by lia)))) rfl (Z24 (by lia))) ⟨(z*48271 % 1000000000039).toNat,?_,?_⟩
  ·congr 1;lia
  ·lia
 refine Z9 (Zk (d:=.int (7919*(k:Int)+12345)) (Z7 (Z7 rfl rfl (Gw (.inl (by lia)))) rfl rfl) ?_);refine Z9 (D4 (b:=decide ((k:Int)<((ns.map Dat.int).length:Int))) rfl (fun hb=>?_) (fun hb=>?_))
 ·have hkl:k<ns.length:=by have:=of_decide_eq_true hb;rw [length_map] at this;lia
  have hix:Yg (Mp ns) (.int (k:Int))=some (.int ns[k]):=W0 (by simp [hkl]);refine Zk (d:=.int (7919*(k:Int)+12345+ns[k]*6364136223846793005)) (Z7 rfl (Z7 (Z7 rfl rfl hix) rfl (Gw (.inr (by lia)))) rfl) ?_;exact (fin _).mono (fun _ h=>h.elim) fun _ h=>h
 ·refine Wd ?_
  exact (fin _).mono (fun _ h=>h.elim) fun _ h=>h
theorem Z9g (c k:Nat):∃ z:Str,Qg [.int (c:Int),.int (k:Int)]=.ok (.str z):=by
 have:=Zz (n:=8) (p:=2) (ds:=[.int (c:Int),.int (k:Int)]) (g:=Uo) (R:=fun d=>∃ z:Str,d=.str z) rfl ?_
 ·obtain ⟨d,e,z,rfl⟩:=this
  exact ⟨z,e⟩
 show Go (Uo [.fz (.int (c:Int)),.fz (.int (k:Int)),.un,.un,.un,.un,.un,.un]) _ _;unfold Uo;obtain ⟨n,hn,hn1⟩:∃ n:Nat,2+c % 7=n/\n<=8:=⟨_,rfl,by lia⟩;refine Z9 (Zk (d:=.str Vk) rfl ?_);refine Z9 (Zk (d:=.int (n:Int)) (by rw [← hn];exact Z7 rfl (Z7 rfl rfl (Mo c 7 (by lia))) (J7 2 _)) ?_);refine Z9 (Zk (Z7 (Z7 rfl rfl (Qv c 7 (by lia) (by lia))) rfl (Mo (c / 7) n (by lia))) ?_);refine Z9 (Zk (d:=.str "") rfl ?_);generalize c / 7 % n=at0;refine Z9 (Vh (ds:=rng 0 n) (fun i e=>∃ (z:Str) (v6 v7:Slt),e=[.fz (.int (c:Int)),.fz (.int (k:Int)),.fz (.str Vk),.fz (.int (n:Int)),.fz (.int (at0:Int)),.fz (.str z),v6,v7]/\z.length=i) (W9 (Z2 rfl rfl) (by lia)) ⟨"",.un,.un,rfl,by decide⟩ ?_ ?_)
 ·rintro i d e hi ⟨z,v6,v7,rfl,hz⟩
  obtain ⟨hi1,rfl⟩:=Ub hi;rw [Int.zero_add];refine ⟨_,rfl,?_⟩;refine Z9 (Zk (d:=.int ((0:Nat):Int)) rfl ?_);have fin:∀ q:Nat,Go (Y3 5 (dO Wk (dV 5) (dO Yg (dV 2) (dO Tf (dO Wk (dO Wk (dO U8 (dV 0) (dC (.int 49))) (dO Ez (dC (.int 5)) (dV 6))) (dO Ez (dC (.int 7)) (dV 7))) (dC (.int 26))))) [.fz (.int (c:Int)),.fz (.int (k:Int)),.fz (.str Vk),.fz (.int (n:Int)),.fz (.int (at0:Int)),.fz (.str z),.fz (.int (i:Int)),.fz (.int (q:Int))]) (fun e=>∃ (z:Str) (v6 v7:Slt),e=[.fz (.int (c:Int)),.fz (.int (k:Int)),.fz (.str Vk),.fz (.int (n:Int)),.fz (.int (at0:Int)),.fz (.str z),v6,v7]/\z.length=i+1) (fun d=>∃ z:Str,d=.str z):=fun q=>by
   have hx:=Ni (j:=(((c / 49+5*i+7*q) % 26:Nat):Int)) (by lia) (by lia);refine Zk (Z7 rfl (Z7 rfl (Z7 (Z7 (Z7 (Z7 rfl rfl (Qv c 49 (by lia) (by lia))) (Z7 rfl rfl (Z2u 5 i (by lia))) (J7 _ _)) (Z7 rfl rfl (Z2u 7 q (by lia))) (J7 _ _)) rfl (Mo _ 26 (by lia))) hx) (Xw (by show z.length+1<=_;lia))) ?_;exact ⟨_,_,_,rfl,by rw [N6];show _+1=_;lia⟩
  refine Z9 (D4 (Yi (Z7 rfl rfl (eqN i at0))) (fun hb=>?_) (fun hb=>?_))
  ·exact Zk rfl (fin k)
  ·exact Wd (fin 0)
 ·rintro e ⟨z,v6,v7,rfl,hz⟩
  rw [Vr] at hz;refine Z9 (D4 (b:=decide (z∈(N25_:List Str))) (Yi (Z7 rfl rfl (Z1y z N25_))) (fun hb=>?_) (fun hb=>?_))
  ·refine Zk (Z7 (Hn rfl (Tb rfl) rfl (Z9j z _ _)) rfl (Xw ?_)) (Y0 rfl ⟨_,rfl⟩)
   have:=Txt.slice_le z (some 1) none;show (Txt.slice z (some 1) none).length+1<=_;lia
  ·exact Wd (Y0 rfl ⟨_,rfl⟩)
structure Ord (n:Nat) (ps:List Nat):Prop where
 len:ps.length=2*n
 cnt:∀ v,ps.count v=if v<n then 2 else 0
theorem Ord.mem {n:Nat} {ps:List Nat} (h:Ord n ps) {v:Nat}:v∈ps↔v<n:=by
 rw [← List.count_pos_iff,h.cnt];split<;>lia
theorem Z6l (ns:List Int) (first n:Nat) (hf:first<=1000) (hn:n<=10):∃ ps:List Nat,Ja [Mp ns,.int (first:Int),.int (n:Int)]=.ok (.lst (Zd ps))/\Ord n ps:=by
 have:=Zz (n:=8) (p:=3) (ds:=[Mp ns,.int (first:Int),.int (n:Int)]) (g:=Vt) (R:=fun d=>∃ ps:List Nat,d=.lst (Zd ps)/\Ord n ps) rfl ?_
 ·obtain ⟨d,e,z,rfl,h⟩:=this
  exact ⟨z,e,h⟩
 show Go (Vt [.fz (Mp ns),.fz (.int (first:Int)),.fz (.int (n:Int)),.un,.un,.un,.un,.un]) _ _;unfold Vt;refine Z9 (Jx (ds:=Zd []) rfl ?_);refine Z9 (Vh (ds:=rng 0 n) (fun i e=>∃ (ps:List Nat) (v4 v5 v6 v7:Slt),e=[.fz (Mp ns),.fz (.int (first:Int)),.fz (.int (n:Int)),.ow (Zd ps),v4,v5,v6,v7]/\Ord i ps) (W9 (Z2 rfl rfl) (by lia)) ⟨[],.un,.un,.un,.un,rfl,rfl,fun v=>by simp⟩ ?_ ?_)
 ·rintro i d e hi ⟨ps,v4,v5,v6,v7,rfl,ho⟩
  obtain ⟨hi1,rfl⟩:=Ub hi;rw [Int.zero_add];refine ⟨_,rfl,?_⟩;obtain ⟨c,ec,lc⟩:=G6 ns (first+i) (by lia);have hl:=ho.len;refine Z9 (Zk (Ze (xs:=[Mp ns,.int ((first+i:Nat):Int)]) (Z2 rfl (Z2 (Z7 rfl rfl (J7 _ _)) rfl)) ec) ?_);refine Z9 (Zk (Z7 rfl (Z7 (Wg (Z2 rfl rfl) (Mz ps)) rfl (J7 _ 1)) (Mo c (ps.length+1) (by lia))) ?_);have ha:c % (ps.length+1)<=ps.length:=by have:=mod_lt c (show 0<ps.length+1 by lia);lia
  generalize c % (ps.length+1)=a at ha;refine Z9 (Mg (ds:=Zd ps) (as:=[.int (a:Int),.int (i:Int)]) rfl rfl (Ki ps a i ha (by lia)) ?_);have hl1:=O0 ps a i;have hc1:=Gh ps a i;generalize ps.take a++i::ps.drop a=qs at hl1 hc1;refine Z9 (Zk (Z7 (Z7 rfl rfl (Qv c 64 (by lia) (by lia))) (Z7 (Wg (Z2 rfl rfl) (Mz qs)) rfl (Zfb _ a (by lia))) (Mo (c / 64) (qs.length - a) (by lia))) ?_);have hb:c / 64 % (qs.length - a)<qs.length - a:=mod_lt _ (by lia);generalize c / 64 % (qs.length - a)=b at hb;refine Mg (ds:=Zd qs) (as:=[.int ((a+1+b:Nat):Int),.int (i:Int)]) rfl (Z2 (Z7 (Z7 rfl rfl (J7 a 1)) rfl (J7 _ b)) (Z2 rfl rfl)) (Ki qs (a+1+b) i (by lia) (by lia)) ?_;have hl2:=O0 qs (a+1+b) i;have hc2:=Gh qs (a+1+b) i;refine ⟨_,_,_,_,_,rfl,by lia,fun v=>?_⟩;rw [hc2,hc1,ho.cnt];by_cases h1:i=v
  ·subst h1;rw [if_neg (by lia),if_pos rfl,if_pos (by lia)]
  ·rw [if_neg h1]
   by_cases h2:v<i
   ·rw [if_pos h2,if_pos (by lia)]
   ·rw [if_neg h2,if_neg (by lia)]
 ·rintro e ⟨ps,v4,v5,v6,v7,rfl,ho⟩
  rw [Vr] at ho;exact Hw rfl ⟨ps,rfl,ho⟩
structure Prs (n m:Nat) (qs:List (Nat×Nat)):Prop where
 len:qs.length<=m
 lt:∀ q∈qs,q.1<n/\q.2<n
theorem Prs.app {n m m':Nat} {rs:List (Nat×Nat)} (h:Prs n m qs) (h':Prs n m' rs):Prs n (m+m') (qs++rs):=⟨by rw [length_append];have:=h.len;have:=h'.len;lia,fun q hq=>(mem_append.mp hq).elim (h.lt q) (h'.lt q)⟩
theorem Prs.sub {n m:Nat} {rs:List (Nat×Nat)} (h:Prs n m qs) (s:rs.Sublist qs):Prs n m rs:=⟨le_trans s.length_le h.len,fun q hq=>h.lt q (s.subset hq)⟩
theorem Prs.one {n:Nat} (h1:q.1<n) (h2:q.2<n):Prs n 1 [q]:=⟨le_refl _,fun p hp=>by rw [mem_singleton.mp hp];exact ⟨h1,h2⟩⟩
theorem Prs.mono {n m m':Nat} (h:Prs n m qs) (hm:m<=m'):Prs n m' qs:=⟨le_trans h.len hm,h.lt⟩
theorem Prs.nil (n m:Nat):Prs n m []:=⟨zero_le _,fun q hq=>by cases hq⟩
theorem Z3g (ns:List Int) (first many size:Nat) (hf:first<=1000) (hm:many<=100) (hs:0<size):∃ qs:List (Nat×Nat),Qa [Mp ns,.int (first:Int),.int (many:Int),.int (size:Int)]=.ok (.lst (qs.map Zq))/\Prs size many qs:=by
 have:=Zz (n:=9) (p:=4) (ds:=[Mp ns,.int (first:Int),.int (many:Int),.int (size:Int)]) (g:=Ve) (R:=fun d=>∃ qs:List (Nat×Nat),d=.lst (qs.map Zq)/\Prs size many qs) rfl ?_
 ·obtain ⟨d,e,z,rfl,h⟩:=this
  exact ⟨z,e,h⟩
 show Go (Ve [.fz (Mp ns),.fz (.int (first:Int)),.fz (.int (many:Int)),.fz (.int (size:Int)),.un,.un,.un,.un,.un]) _ _;unfold Ve;refine Z9 (Jx (ds:=([]:List (Nat×Nat)).map Zq) rfl ?_);refine Z9 (Vh (ds:=rng 0 many) (fun i e=>∃ (qs:List (Nat×Nat)) (v5 v6 v7 v8:Slt),e=[.fz (Mp ns),.fz (.int (first:Int)),.fz (.int (many:Int)),.fz (.int (size:Int)),.ow (qs.map Zq),v5,v6,v7,v8]/\Prs size i qs) (W9 (Z2 rfl rfl) (by lia)) ⟨[],.un,.un,.un,.un,rfl,Prs.nil _ _⟩ ?_ ?_)
 ·rintro i d e hi ⟨qs,v5,v6,v7,v8,rfl,hq⟩
  obtain ⟨hi1,rfl⟩:=Ub hi;rw [Int.zero_add];refine ⟨_,rfl,?_⟩;obtain ⟨c,ec,lc⟩:=G6 ns (first+i) (by lia);refine Z9 (Zk (Ze (xs:=[Mp ns,.int ((first+i:Nat):Int)]) (Z2 rfl (Z2 (Z7 rfl rfl (J7 _ _)) rfl)) ec) ?_);refine Z9 (Zk (Z7 rfl rfl (Mo c size hs)) ?_);refine Z9 (Zk (Z7 (Z7 rfl rfl (Qv c 64 (by lia) (by lia))) rfl (Mo _ size hs)) ?_);have ha:c % size<size:=mod_lt _ hs;have hb:c / 64 % size<size:=mod_lt _ hs;generalize c % size=a at ha;generalize c / 64 % size=b at hb;obtain ⟨z,hz⟩:=X1 (min a b,max a b) qs;have et:∀ env:Ev,env[7]?=some (.fz (.int (a:Int)))->env[8]?=some (.fz (.int (b:Int)))->V7 (Z1 (dF Z4x (Z1 (dV 7) (Z1 (dV 8) Zc))) (Z1 (dF Z3i (Z1 (dV 7) (Z1 (dV 8) Zc))) Zc)) env=some (Zq (min a b,max a b)):=fun env h7 h8=>by
   have e7:dV 7 env=some (.int (a:Int)):=by unfold dV;rw [h7]
   have e8:dV 8 env=some (.int (b:Int)):=by unfold dV;rw [h8]
   exact Yd (Z2 (Wg (Z2 e7 (Z2 e8 rfl)) (Zhx a b)) (Z2 (Wg (Z2 e7 (Z2 e8 rfl)) (Zhq a b)) rfl)) (by simp)
  refine D4 (Rr (Yi (Z7 rfl rfl (neN a b))) fun _=>Yi (Z7 (et _ rfl rfl) rfl hz)) (fun _=>?_) (fun _=>Wd ⟨qs,_,_,_,_,rfl,hq.mono (by lia)⟩);refine Mg (ds:=qs.map Zq) (as:=[Zq (min a b,max a b)]) (ds':=(qs++[(min a b,max a b)]).map Zq) rfl (Z2 (et _ rfl rfl) rfl) (by rw [Je (by rw [length_map];have:=hq.len;lia),map_append];rfl) ⟨_,_,_,_,_,rfl,hq.app (Prs.one (by show min a b<_;lia) (by show max a b<_;lia))⟩
 ·rintro e ⟨qs,v5,v6,v7,v8,rfl,hq⟩
  rw [Vr] at hq;exact Hw rfl ⟨qs,rfl,hq⟩
end K74
set_option maxHeartbeats 1000000
namespace K74
open PySem PySem.Spec PyProof.Rows L2
structure Sk (B L n:Nat) (s:St3):Prop where
 w:s.w<n
 t:∀ p∈s.takes,p<B
 f:∀ p∈s.fills,p<B
 tl:s.takes.length<=L
 fl:s.fills.length<=L
structure Gk (B L:Nat) (G:G3):Prop where
 w1:1<=G.wires.length
 w2:G.wires.length<=5
 s1:2<=G.steps.length
 s2:G.steps.length<=22
 st:∀ s∈G.steps,Sk B L G.wires.length s
 mks:G.marks<2^B
 two:∀ w,w<G.wires.length->2<=(G.steps.map (·.w)).count w
theorem second {v:Nat}:∀ {ps:List Nat},ps.count v=2->v∈ps.drop (ps.idxOf v+1)
 | [],h=>by cases h
 | p::ps,h=>by
  rw [List.count_cons] at h;rw [List.idxOf_cons];by_cases e:p=v
  ·subst e
   rw [show (p==p)=true from beq_self_eq_true _] at h ⊢;show p∈ps;refine List.count_pos_iff.mp ?_;simp at h;lia
  ·rw [show (p==v)=false from beq_eq_false_iff_ne.mpr e] at h ⊢
   show v∈ps.drop (ps.idxOf v+1);exact second (by simpa using h)
theorem Z6c (ps:List Nat) (t:Nat) (h:t<=ps.length):Jy (Zd ps) (some (t:Int)) none=Zd (ps.drop t):=by
 unfold Zd;rw [Lh,Lh,Bp ps t h]
theorem Zal (b:Bool):Hr (.int (if b then 1 else 0)) (.int 0)=some (.bl (!b)):=by cases b<;>rfl
theorem Zf3 {a b:Nat} (h1:a<2^k) (h2:b<2^k):a ||| b<2^k:=Nat.or_lt_two_pow h1 h2
theorem Z7h (ns:List Int) (first n many:Nat) (hf:first<=900) (hn1:1<=n) (hn2:n<=4) (hm:many<=5):∃ G:G3,Jc [Mp ns,.int (first:Int),.int (n:Int),.int (many:Int)]=.ok G.d/\Gk 54 34 G/\G.wires.length=n:=by
 have:=Zz (n:=24) (p:=4) (ds:=[Mp ns,.int (first:Int),.int (n:Int),.int (many:Int)]) (g:=U0) (R:=fun d=>∃ G:G3,d=G.d/\Gk 54 34 G/\G.wires.length=n) rfl ?_
 ·obtain ⟨d,e,z,rfl,h⟩:=this
  exact ⟨z,e,h⟩
 show Go (U0 [.fz (Mp ns),.fz (.int (first:Int)),.fz (.int (n:Int)),.fz (.int (many:Int)),.un,.un,.un,.un,.un,.un,.un,.un,.un,.un,.un,.un,.un,.un,.un,.un,.un,.un,.un,.un]) _ _;unfold U0;obtain ⟨ps,eo,ho⟩:=Z6l ns first n (by lia) (by lia);have hpl:=ho.len;refine Z9 (Zk (Ze (xs:=[Mp ns,.int (first:Int),.int (n:Int)]) rfl eo) ?_);refine Z9 (Zk (Z7 rfl rfl (Z2u 2 n (by lia))) ?_);obtain ⟨m,hm0⟩:∃ m:Nat,2*n=m:=⟨_,rfl⟩;rw [hm0] at hpl ⊢;obtain ⟨c,ec,lc⟩:=G6 ns (first+n) (by lia);refine Z9 (Zk (Ze (xs:=[Mp ns,.int ((first+n:Nat):Int)]) (Z2 rfl (Z2 (Z7 rfl rfl (J7 _ _)) rfl)) ec) ?_);obtain ⟨qs,eq,hq⟩:=Z3g ns (first+n+1) many m (by lia) (by lia) (by lia);refine Z9 (Zk (Ze (xs:=[Mp ns,.int ((first+n+1:Nat):Int),.int (many:Int),.int (m:Int)]) (Z2 rfl (Z2 (Z7 (Z7 rfl rfl (J7 _ _)) rfl (J7 _ 1)) rfl)) eq) ?_);refine Z9 (Go.mono (N:=fun e=>∃ rs:List (Nat×Nat),e=[.fz (Mp ns),.fz (.int (first:Int)),.fz (.int (n:Int)),.fz (.int (many:Int)),.fz (.lst (Zd ps)),.fz (.int (m:Int)),.fz (.int (c:Int)),.fz (.lst (rs.map Zq)),.un,.un,.un,.un,.un,.un,.un,.un,.un,.un,.un,.un,.un,.un,.un,.un]/\Prs m 12 rs) ?_ ?_ (fun _ h=>h))
 ·refine D4 (Yi (Z7 (Z7 rfl rfl (Mo c 3 (by lia))) rfl (eqN _ 0))) (fun _=>?_) (fun _=>Wd ⟨qs,rfl,hq.mono (by lia)⟩)
  obtain ⟨ks,hs,hc⟩:=K0 (g:=Y5 0) (t:=dB (dO Ep (V7 (Z1 (dV 0) (Z1 (dO Wk (dV 0) (dC (.int 1))) Zc))) (dV 1))) (f:=V7 (Z1 (dV 0) (Z1 (dO Wk (dV 0) (dC (.int 1))) Zc))) (env:=[.un,.fz (.lst (qs.map Zq))]) (fun k:Nat=>Dat.int (k:Int)) (fun k:Nat=>Zq (k,k+1)) (List.range (m - 1)) fun k _=>by
   obtain ⟨b,hb⟩:=X1 (k,k+1) qs;have et:V7 (Z1 (dV 0) (Z1 (dO Wk (dV 0) (dC (.int 1))) Zc)) [.fz (.int (k:Int)),.fz (.lst (qs.map Zq))]=some (Zq (k,k+1)):=Yd (Z2 rfl (Z2 (Z7 rfl rfl (J7 k 1)) rfl)) (by simp);exact ⟨_,b,rfl,Yi (Z7 et rfl hb),et⟩
  rw [← Ge] at hc;have hp:Prs m 7 (ks.map fun k=>(k,k+1)):=⟨by have:=hs.length_le;rw [length_range] at this;rw [length_map];lia,fun q hq=>by
   obtain ⟨k,hk,rfl⟩:=mem_map.mp hq;have:=mem_range.mp (hs.subset hk);exact ⟨by show k<m;lia,by show k+1<m;lia⟩⟩
  have hl1:=hq.len;have hl2:=hp.len;rw [length_map] at hl2;refine Zk (Z7 rfl (Wy (Yv (xs:=rng 0 (m - 1)) (W9 (Z2 (Z7 rfl rfl (Zfb m 1 (by lia))) rfl) (by lia)) rfl hc)) (X6 (by rw [length_map,length_map];lia))) ⟨qs++ks.map fun k=>(k,k+1),by rw [map_append,map_map];rfl,(hq.app hp).mono (by lia)⟩
 rintro e ⟨rs,rfl,hr⟩;clear eq hq qs;refine Z9 (Vh (ds:=rng 0 n) (fun i e=>∃ (rs:List (Nat×Nat)) (v8 v9 v10:Slt),e=[.fz (Mp ns),.fz (.int (first:Int)),.fz (.int (n:Int)),.fz (.int (many:Int)),.fz (.lst (Zd ps)),.fz (.int (m:Int)),.fz (.int (c:Int)),.fz (.lst (rs.map Zq)),v8,v9,v10,.un,.un,.un,.un,.un,.un,.un,.un,.un,.un,.un,.un,.un]/\Prs m (12+i) rs) (W9 (Z2 rfl rfl) (by lia)) ⟨rs,.un,.un,.un,rfl,hr⟩ ?_ ?_)
 ·rintro i d e hi ⟨rs,v8,v9,v10,rfl,hr⟩
  obtain ⟨hi1,rfl⟩:=Ub hi;rw [Int.zero_add];refine ⟨_,rfl,?_⟩;have hmem:i∈ps:=ho.mem.mpr hi1;have hone:ps.idxOf i<ps.length:=List.idxOf_lt_length_of_mem hmem;have h2:=second (ho.cnt i▸if_pos hi1);refine Z9 (Zk (Zar rfl rfl rfl (Ny ps i hmem)) ?_);generalize ps.idxOf i=one at hone h2;have htwo:(ps.drop (one+1)).idxOf i<(ps.drop (one+1)).length:=List.idxOf_lt_length_of_mem h2;rw [length_drop] at htwo;refine Z9 (Zk (Z7 (Z7 rfl rfl (J7 one 1)) (Zar (x:=.lst (Zd (ps.drop (one+1)))) (Hn rfl (Tb (Z7 rfl rfl (J7 one 1))) rfl (by rw [Xu,Z6c ps _ (by lia)])) rfl rfl (Ny _ i h2)) (J7 _ _)) ?_);generalize (ps.drop (one+1)).idxOf i=x2 at htwo;obtain ⟨ts,hs,hc⟩:=K0 (g:=Y5 0) (t:=dB (dO Lc (dV 0) (V7 (Z1 (dV 1) (Z1 (dV 2) Zc))))) (f:=dV 0) (env:=[.un,.fz (.int (one:Int)),.fz (.int ((one+1+x2:Nat):Int))]) Zq Zq rs fun q _=>by
   obtain ⟨b,hb⟩:=Z66 q (one,one+1+x2);exact ⟨_,b,rfl,Yi (Z7 rfl (Yd rfl (by simp)) hb),rfl⟩
  have hl:=hs.length_le;have hl2:=hr.len;refine Zk (Z7 (Wy (Yv (xs:=rs.map Zq) rfl rfl hc)) (Wy (M7 (xs:=[Zq (one,one+1+x2)]) (Z2 (Yd rfl (by simp)) rfl) (by simp))) (X6 (by rw [length_map];show _+1<=_;lia))) ⟨ts++[(one,one+1+x2)],_,_,_,by rw [map_append];rfl,?_⟩;exact ((hr.sub hs).app (Prs.one (by show one<m;lia) (by show one+1+x2<m;lia))).mono (by lia)
 rintro e ⟨rs,v8,v9,v10,rfl,hr⟩;rw [Vr] at hr;refine Z9 (Z2r (ds:=Zd ps) rfl ?_);refine Z9 (Z2r (ds:=Zd ps) rfl ?_);rw [length_map,length_map,hpl,Z7e];refine Z9 (Zk (d:=.int ((0:Nat):Int)) rfl ?_);refine Z9 (Zk (Z7 (Z7 rfl rfl (Qv c 3 (by lia) (by lia))) rfl (Mo _ 20 (by lia))) ?_);have hs0:c / 3 % 20<20:=mod_lt _ (by lia);generalize c / 3 % 20=s0 at hs0;refine Z9 (Vh (ds:=rs.map Zq) (fun i e=>∃ (tk fl:List (List Nat)) (mk:Nat) (v15 v16:Slt),e=[.fz (Mp ns),.fz (.int (first:Int)),.fz (.int (n:Int)),.fz (.int (many:Int)),.fz (.lst (Zd ps)),.fz (.int (m:Int)),.fz (.int (c:Int)),.fz (.lst (rs.map Zq)),v8,v9,v10,.gx (.nest (tk.map Zd)),.gx (.nest (fl.map Zd)),.fz (.int (mk:Int)),.fz (.int ((s0+2*i:Nat):Int)),v15,v16,.un,.un,.un,.un,.un,.un,.un]/\tk.length=m/\fl.length=m/\Nst (2*i) (s0+2*i) tk/\Nst (2*i) (s0+2*i) fl/\mk<2^(s0+2*i)) rfl ⟨_,_,0,.un,.un,rfl,length_replicate,length_replicate,(Nst.nil m).mono (by lia) (by lia),(Nst.nil m).mono (by lia) (by lia),Nat.two_pow_pos _⟩ ?_ ?_)
 ·rintro i d e hi ⟨tk,fl,mk,v15,v16,rfl,htl,hfl,ht,hfk,hmk⟩
  rw [getElem?_map] at hi;obtain ⟨q,hq,rfl⟩:=map_some hi;have hil:=(List.getElem?_eq_some_iff.mp hq).1;have hql:=hr.lt q (mem_of_getElem? hq);have hrl:=hr.len;refine ⟨_,rfl,?_⟩;have ht1:=ht.mono (le_refl _) (show s0+2*i<=s0+2*i+2 by lia);have hf1:=hfk.mono (le_refl _) (show s0+2*i<=s0+2*i+2 by lia);refine Z9 (Le rfl hf1 (by lia) (k:=q.1) (by lia) rfl rfl ?_);refine Z9 (Le rfl ht1 (by lia) (k:=q.2) (by lia) rfl rfl ?_);have ht2:=ht1.app q.2 (s0+2*i) (by lia);have hf2:=hf1.app q.1 (s0+2*i) (by lia);refine Z9 (Le (x:=s0+2*i+1) rfl hf2 (by lia) (k:=q.2) (by rw [R6];lia) rfl rfl ?_);refine Z9 (Le (x:=s0+2*i+1) rfl ht2 (by lia) (k:=q.1) (by rw [R6];lia) rfl rfl ?_);have ht3:=ht2.app q.1 (s0+2*i+1) (by lia);have hf3:=hf2.app q.2 (s0+2*i+1) (by lia);refine Z9 (Zk (Z7 rfl (Z7 rfl (Z7 rfl rfl (J7 _ 1)) (Z3x (s0+2*i+1) (by lia))) (orN mk _)) ?_);refine Zk (Z7 rfl rfl (J7 _ 2)) ⟨_,_,_,_,_,rfl,by rw [R6,R6,htl],by rw [R6,R6,hfl],ht3.mono (by lia) (by lia),hf3.mono (by lia) (by lia),?_⟩;exact Zf3 (lt_of_lt_of_le hmk (pow_le_pow_right (by lia) (by lia))) (Nat.pow_lt_pow_right (by lia) (by lia))
 rintro e ⟨tk,fl,mk,v15,v16,rfl,htl,hfl,ht,hfk,hmk⟩;rw [length_map] at ht hfk hmk ⊢;have hrl:=hr.len;have ht:=ht.mono (L':=32) (B':=54) (by lia) (by lia);have hfk:=hfk.mono (L':=32) (B':=54) (by lia) (by lia);have hmk:mk<2^54:=lt_of_lt_of_le hmk (pow_le_pow_right (by lia) (by lia));refine Z9 (Zk (Z7 (Z7 rfl rfl (Qv c 60 (by lia) (by lia))) (Z7 rfl rfl (Z3x n (by lia))) (Mo _ (2^n) (Nat.two_pow_pos _))) ?_);generalize c / 60 % 2^n=code;refine Z9 (Zk rfl ?_);refine Z9 (Jx (ds:=([]:List St3).map St3.d) rfl ?_);generalize (s0+2*rs.length)=s9;refine Z9 (Vh (ds:=Tq 0 (Zd ps)) (fun i e=>∃ (ss:List St3) (seen:Nat) (v8 v20:Slt),e=[.fz (Mp ns),.fz (.int (first:Int)),.fz (.int (n:Int)),.fz (.int (many:Int)),.fz (.lst (Zd ps)),.fz (.int (m:Int)),.fz (.int (c:Int)),.fz (.lst (rs.map Zq)),v8,v9,v10,.gx (.nest (tk.map Zd)),.gx (.nest (fl.map Zd)),.fz (.int (mk:Int)),.fz (.int (s9:Int)),v15,v16,.fz (.int (code:Int)),.fz (.int (seen:Int)),.ow (ss.map St3.d),v20,.un,.un,.un]/\ss.length=i/\ss.map (·.w)=ps.take i/\∀ s∈ss,Sk 54 34 n s) rfl ⟨[],code,v8,.un,rfl,rfl,rfl,by simp⟩ ?_ ?_)
 ·rintro i d e hi ⟨ss,seen,v8,v20,rfl,hsl,hsw,hsk⟩
  obtain ⟨x,hx,rfl⟩:=Kc hi;obtain ⟨w,hw,rfl⟩:=Ic hx;have hil:=(List.getElem?_eq_some_iff.mp hw).1;have hwn:w<n:=ho.mem.mp (mem_of_getElem? hw);refine ⟨_,rfl,?_⟩;have e1:tk[i]?=some tk[i]:=getElem?_eq_getElem (by lia);have e2:fl[i]?=some fl[i]:=getElem?_eq_getElem (by lia);generalize htk:tk[i]=tl at e1;generalize hfl':fl[i]=fl' at e2;have t1:=ht.len _ (mem_of_getElem? e1);have t2:=ht.lt _ (mem_of_getElem? e1);have f1:=hfk.len _ (mem_of_getElem? e2);have f2:=hfk.lt _ (mem_of_getElem? e2);obtain ⟨ta,ea,pa⟩:=Hs tl (by lia);obtain ⟨fa,eb,pb⟩:=Hs fl' (by lia);refine Z9 (Mg (ds:=ss.map St3.d) (as:=[(⟨w,!(seen.testBit w),ta,fa⟩:St3).d]) (ds':=(ss++[(⟨w,!(seen.testBit w),ta,fa⟩:St3)]).map St3.d) rfl (Z2 (Yd (Z2 rfl (Z2 (Z7 (Z7 (Z7 rfl rfl (Zfk seen w)) rfl (Zb4 seen w)) rfl (Zal _)) (Z2 (Wg (Z2 (Wy (Wg (Z2 (Z27 rfl rfl e1) rfl) ea)) rfl) rfl) (Z2 (Wg (Z2 (Wy (Wg (Z2 (Z27 rfl rfl e2) rfl) eb)) rfl) rfl) rfl)))) (by simp)) rfl) ?_ ?_)
  ·rw [Je (by rw [length_map];lia),map_append];rfl
  ·refine Zk (Z7 rfl (Z7 rfl rfl (Z3x w (by lia))) (Zf8 seen _)) ⟨_,_,_,_,rfl,by rw [length_append,length_singleton,hsl],?_,fun s hs=>?_⟩
   ·rw [map_append,hsw,take_succ,hw];rfl
   rcases mem_append.mp hs with h | h
   ·exact hsk s h
   ·rw [mem_singleton.mp h]
    exact ⟨hwn,fun p hp=>t2 p (pa.mem_iff.mp hp),fun p hp=>f2 p (pb.mem_iff.mp hp),by show ta.length<=34;rw [pa.length_eq];lia,by show fa.length<=34;rw [pb.length_eq];lia⟩
 rintro e ⟨ss,seen,v8,v20,rfl,hsl,hsw,hsk⟩;rw [Qi,length_map,length_map] at hsl hsw;rw [take_of_length_le (le_refl _)] at hsw;refine Z9 (Zk (Z7 (Z7 rfl rfl (Qv c 2000 (by lia) (by lia))) rfl (Mo _ m (by lia))) ?_);have htn:c / 2000 % m<m:=mod_lt _ (by lia);generalize c / 2000 % m=t at htn;refine Z9 (Jx (ds:=(ss.drop t++ss.take t).map St3.d) (by
  refine Z7 (Hn rfl (Tb rfl) rfl (Xu _ _ _)) (Hn rfl rfl (Tb rfl) (Xu _ _ _)) ?_;rw [Lh,Lh,Bp ss t (by lia),Z5y ss t (by lia),Z8j (by rw [length_map,length_map,length_drop,length_take];lia),map_append]) ?_)
 refine Z9 (Zk (Z7 rfl rfl (Qv c 40000 (by lia) (by lia))) ?_);obtain ⟨ws,ew,wl,_⟩:=C7 (g:=Y5 0) (f:=V7 (Z1 (Zt Qg (Z1 (dV 1) (Z1 (dV 0) Zc))) (Z1 (dO Yg (dL (Qx (Z1 (dC (.str "given")) (Z1 (dC (.str "made")) Zc)))) (dO Tf (dO U8 (Zt Y9 (Z1 (dV 2) (Z1 (dO Wk (dV 3) (dV 0)) Zc))) (dC (.int 4096))) (dC (.int 2)))) Zc))) (env:=[.un,.fz (.int ((c / 40000:Nat):Int)),.fz (Mp ns),.fz (.int (first:Int))]) T6 (fun _=>True) (rng 0 n) fun x hx=>by
  obtain ⟨i,hi,rfl⟩:=Z9w hx;rw [Int.zero_add];obtain ⟨z,ez⟩:=Z9g (c / 40000) i;obtain ⟨r,er,_⟩:=G6 ns (first+i) (by lia);have p1:=Zfh (.str "given") (.str "made") (j:=((r / 4096 % 2:Nat):Int)) (by lia) (by lia);refine ⟨[.fz (.int (i:Int)),.fz (.int ((c / 40000:Nat):Int)),.fz (Mp ns),.fz (.int (first:Int))],(z,decide (((r / 4096 % 2:Nat):Int)=1)),rfl,?_,trivial⟩;refine Eq.trans (Yd (Z2 (Ze (xs:=[.int ((c / 40000:Nat):Int),.int (i:Int)]) rfl ez) (Z2 (Z7 (x:=.lst [.str "given",.str "made"]) rfl (Z7 (Z7 (Ze (xs:=[Mp ns,.int ((first+i:Nat):Int)]) (Z2 rfl (Z2 (Z7 rfl rfl (J7 _ _)) rfl)) er) rfl (Qv r 4096 (by lia) (by lia))) rfl (Mo _ 2 (by lia))) p1) rfl)) (by simp)) ?_;show some (Dat.tup [.str z,if ((r / 4096 % 2:Nat):Int)=1 then .str "made" else .str "given"])=some (Dat.tup [.str z,.str (if decide (((r / 4096 % 2:Nat):Int)=1)=true then "made" else "given")]);by_cases hb:((r / 4096 % 2:Nat):Int)=1
  ·rw [if_pos hb,decide_eq_true hb];rfl
  ·rw [if_neg hb,decide_eq_false hb];rfl
 rw [Vr] at wl;refine Z9 (Zk (d:=.lst (ws.map T6)) (Wy (Yv (xs:=rng 0 n) (W9 (Z2 rfl rfl) (by lia)) rfl ew)) ?_);have hperm:(ss.drop t++ss.take t).Perm ss:=by
  have:=List.perm_append_comm (l₁:=ss.drop t) (l₂:=ss.take t);rw [List.take_append_drop] at this;exact this
 refine Y0 (Yd (Z2 (Wg (Z2 rfl rfl) rfl) (Z2 (Wg (Z2 rfl rfl) rfl) rfl)) (by simp)) ⟨⟨ws,ss.drop t++ss.take t,mk,code⟩,rfl,?_,wl⟩;have hlen:=hperm.length_eq;exact { w1:=by show 1<=ws.length;lia,w2:=by show ws.length<=5;lia,s1:=by show 2<=(ss.drop t++ss.take t).length;lia,s2:=by show (ss.drop t++ss.take t).length<=22;lia,st:=fun s hs=>by show Sk 54 34 ws.length s;rw [wl];exact hsk s (hperm.mem_iff.mp hs),mks:=hmk,two:=fun w hw=>by show 2<=((ss.drop t++ss.take t).map (·.w)).count w;rw [(hperm.map _).count_eq,hsw,ho.cnt,if_pos (by have hw':w<ws.length:=hw;lia)];exact le_refl _ }
structure SB (B n:Nat) (s:St3):Prop where
 w:s.w<n
 t:∀ p∈s.takes,p<B
 f:∀ p∈s.fills,p<B
structure Gb (B:Nat) (G:G3):Prop where
 w2:G.wires.length<=10
 s1:1<=G.steps.length
 s2:G.steps.length<=24
 st:∀ s∈G.steps,SB B G.wires.length s
 mks:G.marks<2^B
theorem Bt (a b:List Nat):Zd a++Zd b=Zd (a++b):=by unfold Zd;rw [map_append,map_append]
theorem Lj (f:α->Dat) (xs:List α):Uh [.lst (xs.map f)]=some (.int ((xs.length:Nat):Int)):=by
 show some (Dat.int ((xs.map f).length:Int))=_;rw [length_map]
theorem Qh (G:G3) (k:Nat) (s:St3) (h:G.steps[k]?=some s):Yo [G.d,.int (k:Int)]=.ok (.tup (Zd s.takes)):=by
 refine W8 (Zz (n:=2) (p:=2) (ds:=[G.d,.int (k:Int)]) (g:=Q7) (R:=fun d=>d=.tup (Zd s.takes)) rfl ?_);show Go (Q7 [.fz G.d,.fz (.int (k:Int))]) _ _;unfold Q7;exact Y0 (Z7 (Z7 (Z7 rfl rfl rfl) rfl (Dk (x:=s.d) (by rw [getElem?_map,h];rfl))) rfl rfl) rfl
theorem Qc (ps:List Nat) (hp:∀ p∈ps,p<=1000):T7 [.tup (Zd ps)]=.ok (.int (bitsN ps:Int)):=by
 refine W8 (Zz (n:=3) (p:=1) (ds:=[.tup (Zd ps)]) (g:=K2) (R:=fun d=>d=.int (bitsN ps:Int)) rfl ?_);show Go (K2 [.fz (.tup (Zd ps)),.un,.un]) _ _;unfold K2;refine Z9 (Zk (d:=.int 0) rfl ?_);refine Z9 (Vh (ds:=Zd ps) (fun i e=>∃ (z:Int) (v:Slt),e=[.fz (.tup (Zd ps)),.fz (.int z),v]/\z=(((ps.take i).foldl (fun a p=>a ||| 2^p) 0:Nat):Int)) rfl ⟨0,.un,rfl,rfl⟩ ?_ ?_)
 ·rintro i x e hi ⟨z,v,rfl,rfl⟩
  obtain ⟨p,hq,rfl⟩:=Ic hi;have hpp:=hp p (mem_of_getElem? hq);refine ⟨_,rfl,?_⟩;refine Zk (d:=.int ((((ps.take (i+1)).foldl (fun a p=>a ||| 2^p) 0:Nat)):Int)) (Z7 rfl (Z7 rfl rfl (Z3x p hpp)) ?_) ⟨_,_,rfl,rfl⟩;rw [orN,take_succ,hq,List.foldl_append];rfl
 ·rintro e ⟨z,v,rfl,rfl⟩
  refine Y0 rfl ?_;rw [length_map,length_map,take_of_length_le (le_refl _)];rfl
theorem Ih (G:G3) (k:Nat) (s:St3) (h:G.steps[k]?=some s):Vd [G.d,.int (k:Int)]=.ok (.int (s.w:Int)):=by
 refine W8 (Zz (n:=2) (p:=2) (ds:=[G.d,.int (k:Int)]) (g:=Ji) (R:=fun d=>d=.int (s.w:Int)) rfl ?_);show Go (Ji [.fz G.d,.fz (.int (k:Int))]) _ _;unfold Ji;exact Y0 (Z7 (Z7 (Z7 rfl rfl rfl) rfl (Dk (x:=s.d) (by rw [getElem?_map,h];rfl))) rfl rfl) rfl
theorem Z2n (G:G3) (k:Nat) (s:St3) (h:G.steps[k]?=some s):Dp [G.d,.int (k:Int)]=.ok (.bl s.up):=by
 refine W8 (Zz (n:=2) (p:=2) (ds:=[G.d,.int (k:Int)]) (g:=Jm) (R:=fun d=>d=.bl s.up) rfl ?_);show Go (Jm [.fz G.d,.fz (.int (k:Int))]) _ _;unfold Jm;exact Y0 (Z7 (Z7 (Z7 rfl rfl rfl) rfl (Dk (x:=s.d) (by rw [getElem?_map,h];rfl))) rfl rfl) rfl
theorem Ia (G:G3) (k:Nat) (s:St3) (h:G.steps[k]?=some s):Vo [G.d,.int (k:Int)]=.ok (.tup (Zd s.fills)):=by
 refine W8 (Zz (n:=2) (p:=2) (ds:=[G.d,.int (k:Int)]) (g:=Ti) (R:=fun d=>d=.tup (Zd s.fills)) rfl ?_);show Go (Ti [.fz G.d,.fz (.int (k:Int))]) _ _;unfold Ti;exact Y0 (Z7 (Z7 (Z7 rfl rfl rfl) rfl (Dk (x:=s.d) (by rw [getElem?_map,h];rfl))) rfl rfl) rfl
theorem Z0n (n p:Nat):Tl [.int (n:Int),.int (p:Int)]=.ok (.bl (n.testBit p)):=by
 refine W8 (Zz (n:=2) (p:=2) (ds:=[.int (n:Int),.int (p:Int)]) (g:=Jg) (R:=fun d=>d=.bl (n.testBit p)) rfl ?_);show Go (Jg [.fz (.int (n:Int)),.fz (.int (p:Int))]) _ _;unfold Jg;exact Y0 (Z7 (Z7 (Z7 rfl rfl (Zfk n p)) rfl (Zb4 n p)) rfl (Zaa _)) rfl
theorem ne0 (a:Nat):Lc (.int (a:Int)) (.int 0)=some (.bl (!(a==0))):=by
 rw [Zfg];congr 3
 rw [Bool.eq_iff_iff,beq_iff_eq,beq_iff_eq];lia
theorem Z5x (G:G3) (hG:Gb 64 G) (m:Nat) (cd:Dat) (k:Nat) (s:St3) (h:G.steps[k]?=some s):Kj [G.d,.tup [.int (m:Int),cd],.int (k:Int)]=.ok (.bl (Tc s m)):=by
 refine W8 (Zz (n:=4) (p:=3) (ds:=[G.d,.tup [.int (m:Int),cd],.int (k:Int)]) (g:=Pa) (R:=fun d=>d=.bl (Tc s m)) rfl ?_);show Go (Pa [.fz G.d,.fz (.tup [.int (m:Int),cd]),.fz (.int (k:Int)),.un]) _ _;unfold Pa;have hs:=hG.st s (mem_of_getElem? h);refine Z9 (Zk (Ze (xs:=[.tup (Zd s.takes)]) (Z2 (Ze (xs:=[G.d,.int (k:Int)]) rfl (Qh G k s h)) rfl) (Qc s.takes fun p hp=>by have:=hs.t p hp;lia)) ?_);exact Y0 (Z7 (Z7 (Z7 rfl rfl rfl) rfl (Z87 m _)) rfl (eqN _ _)) rfl
structure Fine (s:St3) (p:Nat×Nat):Prop where
 can:Tc s p.1=true
 lev:p.2.testBit s.w≠s.up
 room:∀ q∈s.fills,p.1.testBit q=true->q∈s.takes
theorem Z3a (G:G3) (hG:Gb 64 G) (p:Nat×Nat) (k:Nat) (s:St3) (h:G.steps[k]?=some s) (hf:Fine s p):Sl [G.d,Zq p,.int (k:Int)]=.ok (Zq (Qt s p)):=by
 have hs:=hG.st s (mem_of_getElem? h);have hw2:=hG.w2;have hw1:=hs.w;refine W8 (Zz (n:=6) (p:=3) (ds:=[G.d,Zq p,.int (k:Int)]) (g:=Uw) (R:=fun d=>d=Zq (Qt s p)) rfl ?_);show Go (Uw [.fz G.d,.fz (Zq p),.fz (.int (k:Int)),.un,.un,.un]) _ _;unfold Uw;refine Z9 (Zk (Ze (xs:=[G.d,.int (k:Int)]) rfl (Ih G k s h)) ?_);refine Z9 (S8 (Yi (Z7 (Ze (xs:=[.int (p.2:Int),.int (s.w:Int)]) (Z2 (Z7 rfl rfl rfl) rfl) (Z0n p.2 s.w)) (Ze (xs:=[G.d,.int (k:Int)]) rfl (Z2n G k s h)) (by rw [Zcj,show (p.2.testBit s.w==s.up)=false by simpa using hf.lev]))) (Wd ?_));obtain ⟨lf,ek,hlf⟩:=Er p.1 (bitsN s.takes);refine Z9 (Zk (d:=.int (lf:Int)) (Z7 (Z7 rfl rfl rfl) (Z7b (Ze (xs:=[.tup (Zd s.takes)]) (Z2 (Ze (xs:=[G.d,.int (k:Int)]) rfl (Qh G k s h)) rfl) (Qc s.takes fun p hp=>by have:=hs.t p hp;lia)) (z:=.int (-(bitsN s.takes:Int) - 1)) rfl) (by show some (Dat.int (Builtin.bitAnd _ _))=_;rw [ek])) ?_);refine Z9 (Zk (d:=.int (bitsN s.fills:Int)) (Ze (xs:=[.tup (Zd s.fills)]) (Z2 (Ze (xs:=[G.d,.int (k:Int)]) rfl (Ia G k s h)) rfl) (Qc s.fills fun p hp=>by have:=hs.f p hp;lia)) ?_);have hz:lf &&& bitsN s.fills=0:=Nat.eq_of_testBit_eq fun j=>by
  rw [testBit_and,hlf,T8,T8,Nat.zero_testBit];by_cases h1:j∈s.fills
  ·by_cases h2:p.1.testBit j=true
   ·rw [decide_eq_true (hf.room j h1 h2)];simp
   ·have:p.1.testBit j=false:=by simpa using h2
    rw [this];rfl
  ·rw [decide_eq_false h1,Bool.and_false]
 refine Z9 (S8 (Yi (Z7 (Z7 rfl rfl (Z87 lf _)) rfl (by rw [hz];exact ne0 0))) (Wd ?_));have em:lf ||| bitsN s.fills=(Qt s p).1:=Nat.eq_of_testBit_eq fun j=>by rw [testBit_or,hlf,T8,T8,Zfp]
 refine Y0 (Yd (xs:=[.int ((Qt s p).1:Int),.int ((Qt s p).2:Int)]) (Z2 (Z7 rfl rfl (by rw [orN,em])) (Z2 (Z7 (Z7 rfl rfl rfl) (Z7 rfl rfl (Z3x s.w (by lia))) (Zf8 p.2 _)) rfl)) (by simp)) rfl
theorem Fi (r:Rw):Ct r.d none (some 2)=some (Zq r.st):=rfl
theorem Km (G:G3) (hG:Gb 64 G) (p:Nat×Nat):Tj [G.d,Zq p]=.ok (.lst (Zd (Cs G p.1))):=by
 refine W8 (Zz (n:=2) (p:=2) (ds:=[G.d,Zq p]) (g:=Tt) (R:=fun d=>d=.lst (Zd (Cs G p.1))) rfl ?_);show Go (Tt [.fz G.d,.fz (Zq p)]) _ _;unfold Tt;have hs2:=hG.s2;have hc:=To (g:=Y5 0) (t:=dT (Zt Kj (Z1 (dV 1) (Z1 (dV 2) (Z1 (dV 0) Zc))))) (f:=dV 0) (env:=[.un,.fz G.d,.fz (Zq p)]) (fun k:Nat=>Dat.int (k:Int)) (fun k:Nat=>Dat.int (k:Int)) (Xs G p.1) (List.range G.steps.length) fun k hk=>by
  have hkl:=mem_range.mp hk;have e:G.steps[k]?=some G.steps[k]:=getElem?_eq_getElem hkl;refine ⟨[.fz (.int (k:Int)),.fz G.d,.fz (Zq p)],rfl,?_,rfl⟩;have:Xs G p.1 k=Tc G.steps[k] p.1:=by unfold Xs;rw [e]
  rw [this];exact Se (Ze (xs:=[G.d,.tup [.int (p.1:Int),.int (p.2:Int)],.int (k:Int)]) rfl (Z5x G hG p.1 _ k _ e))
 rw [← Ge] at hc;refine Y0 (Wy (Yv (xs:=rng 0 G.steps.length) (W9 (Z2 (Wg (Z2 (x:=.tup (G.steps.map St3.d)) (Z7 rfl rfl rfl) rfl) (by show some (Dat.int ((G.steps.map St3.d).length:Int))=_;rw [length_map])) rfl) (by lia)) rfl hc)) ?_;rw [W4];rfl
def rw0 (G:G3):Rw:=⟨G.marks,G.code,none⟩
theorem Xb {G:G3} {rows:List Rw} (hle:rows.length<=400) (t:Told G I rows) (n:Nat) (hn:n<rows.length):Sf [.lst (rows.map Rw.d),.int (n:Int)]=.ok (.lst (Zd (Mu rows n))):=by
 refine W8 (Zz (n:=4) (p:=2) (ds:=[.lst (rows.map Rw.d),.int (n:Int)]) (g:=Pc) (R:=fun d=>d=.lst (Zd (Mu rows n))) rfl ?_);show Go (Pc [.fz (.lst (rows.map Rw.d)),.fz (.int (n:Int)),.un,.un]) _ _;unfold Pc;refine Z9 (Jx (ds:=Zd []) rfl ?_);refine Z9 (Zk rfl ?_);refine Z9 (Z6q (fun m e=>∃ (at0:Nat) (ks:List Nat),e=[.fz (.lst (rows.map Rw.d)),.fz (.int (n:Int)),.ow (Zd ks),.fz (.int (at0:Int))]/\m=at0/\at0<rows.length/\Mu rows n=Mu rows at0++ks.reverse/\ks.length+at0<=n) (n:=n) ⟨n,[],rfl,rfl,hn,by simp,by simp⟩ ?_);rintro m e ⟨at0,ks,rfl,rfl,hl,hw,hk⟩;obtain ⟨r,hr⟩:∃ r,rows[m]?=some r:=⟨_,getElem?_eq_getElem hl⟩;have hix:Yg (.lst (rows.map Rw.d)) (.int (m:Int))=some r.d:=W0 (by rw [getElem?_map,hr];rfl);rcases eq_zero_or_pos m with z | z
 ·left
  have hs:=(Z5d t hr).mpr z;subst z;refine ⟨Yi (Z7 (x:=.non) (Z7 (Z7 rfl rfl hix) rfl (by show some (match r.src with | none=>Dat.non | some p=>.int (p.1:Int))=_;rw [hs])) rfl rfl),?_⟩;rw [C6,List.nil_append] at hw;refine Y0 (Wy (Zc2 (xs:=Zd ks) (Z2 rfl rfl))) ?_;rw [hw];unfold Zd;rw [List.map_reverse,List.map_reverse]
 ·right
  obtain ⟨f,k,s,rf,a1,a2,a3,a4,a5,a6⟩:=t.src m r hr z;have hd2:Yg r.d (.int 2)=some (.int (f:Int)):=by show some (match r.src with | none=>Dat.non | some p=>.int (p.1:Int))=_;rw [a1]
  have hd3:Yg r.d (.int 3)=some (.int (k:Int)):=by show some (match r.src with | none=>Dat.non | some p=>.int (p.2:Int))=_;rw [a1]
  refine ⟨Yi (Z7 (x:=.int (f:Int)) (Z7 (Z7 rfl rfl hix) rfl hd2) rfl rfl),?_⟩;refine Z9 (Mg (ds:=Zd ks) (as:=[.int (k:Int)]) (ds':=Zd (ks++[k])) rfl (Z2 (Z7 (Z7 rfl rfl hix) rfl hd3) rfl) (by rw [Je (by unfold Zd;rw [length_map,length_map];lia),← Bt];rfl) ?_);refine Zk (Z7 (Z7 rfl rfl hix) rfl hd2) ⟨f,a2,f,ks++[k],rfl,rfl,by lia,?_,by rw [length_append,length_singleton];lia⟩;rw [hw,Bo t hr a1 z,List.reverse_append];simp
theorem Dc {G:G3} {rows:List Rw} (t:Told G I rows):∀ n,n<rows.length->(Mu rows n).length<=n/\∀ k∈Mu rows n,k<G.steps.length:=by
 intro m;induction m using Nat.strongRecOn with
 | _ m ih =>
  intro hm;rcases eq_zero_or_pos m with z | z
  ·subst z;rw [C6];exact ⟨le_refl _,by simp⟩
  ·obtain ⟨r',hr'⟩:∃ r,rows[m]?=some r:=⟨_,getElem?_eq_getElem hm⟩
   obtain ⟨f,k,s,rf,a1,a2,a3,_,_,_⟩:=t.src m r' hr' z;obtain ⟨h1,h2⟩:=ih f a2 (by lia);rw [Bo t hr' a1 z,length_append,length_singleton];refine ⟨by lia,fun x hx=>?_⟩;rcases mem_append.mp hx with q | q
   ·exact h2 x q
   ·rw [mem_singleton.mp q];exact (List.getElem?_eq_some_iff.mp a3).1
def My (ks:List Nat):List Int:=ks.map fun k:Nat=>(k:Int)
theorem Ra {ks:List Nat} (h1:ks.length<=500) (h2:∀ k∈ks,k<1000):T3 (My ks)=true:=by
 unfold T3 My;rw [length_map,decide_eq_true h1,Bool.true_and,all_eq_true];intro n hn;obtain ⟨k,hk,rfl⟩:=mem_map.mp hn;have:=h2 k hk;rw [decide_eq_true (by lia),decide_eq_true (by lia)];rfl
theorem X0 (l:List Nat):Qk (Zd l)=some (My l):=E3 (My l)
def Z04 (ks:List Nat):List (Str×XD):=[("way",.nums (My ks))]
theorem Zaw {ks:List Nat} (h1:ks.length<=500) (h2:∀ k∈ks,k<1000):gW "way" [.lst (Zd ks)]=some (Z04 ks):=by
 unfold gW;dsimp only;rw [X0];dsimp only [Option.bind];rw [if_pos (Ra h1 h2)];rfl
def Z8q (c:Str):Prop:=c="Broken" \/ c="Crowded"
theorem Z03 (G:G3) (hG:Gb 64 G) (p:Nat×Nat) (k:Nat) (s:St3) (h:G.steps[k]?=some s) (hc:Tc s p.1=true) (hf:¬ Fine s p):∃ c,Z8q c/\Sl [G.d,Zq p,.int (k:Int)]=.exc c (Z04 [k]):=by
 have hs:=hG.st s (mem_of_getElem? h);have hw2:=hG.w2;have hw1:=hs.w;have hk:=(List.getElem?_eq_some_iff.mp h).1;have hs2:=hG.s2;have hgw:gW "way" [.lst (Zd [k])]=some (Z04 [k]):=Zaw (by simp) fun q hq=>by rw [mem_singleton.mp hq];lia
 have:=Lz (n:=6) (p:=3) (ds:=[G.d,Zq p,.int (k:Int)]) (g:=Uw) (R:=fun _=>False) (E:=fun c fl=>Z8q c/\fl=Z04 [k]) rfl ?_
 ·rcases this with ⟨d,_,z⟩ | ⟨c,fl,e,h1,h2⟩
  ·exact z.elim
  ·exact ⟨c,h1,by rw [← h2];exact e⟩
 show GoE (Uw [.fz G.d,.fz (Zq p),.fz (.int (k:Int)),.un,.un,.un]) _ _ _ _;unfold Uw;refine Ud (Zk (Ze (xs:=[G.d,.int (k:Int)]) rfl (Ih G k s h)) ?_);refine V2 (Iq (Yi (Z7 (Ze (xs:=[.int (p.2:Int),.int (s.w:Int)]) (Z2 (Z7 rfl rfl rfl) rfl) (Z0n p.2 s.w)) (Ze (xs:=[G.d,.int (k:Int)]) rfl (Z2n G k s h)) (Zcj _ _))) (fun _=>Mr (ds:=[.lst (Zd [k])]) (Z2 (Wy (M7 (Z2 rfl rfl) (by simp))) rfl) hgw ⟨.inl rfl,rfl⟩) (fun hb=>(Wd ?_:Go _ _ _).toE));have hlev:p.2.testBit s.w≠s.up:=by simpa using hb
 obtain ⟨lf,ek,hlf⟩:=Er p.1 (bitsN s.takes);refine Ud (Zk (d:=.int (lf:Int)) (Z7 (Z7 rfl rfl rfl) (Z7b (Ze (xs:=[.tup (Zd s.takes)]) (Z2 (Ze (xs:=[G.d,.int (k:Int)]) rfl (Qh G k s h)) rfl) (Qc s.takes fun p hp=>by have:=hs.t p hp;lia)) (z:=.int (-(bitsN s.takes:Int) - 1)) rfl) (by show some (Dat.int (Builtin.bitAnd _ _))=_;rw [ek])) ?_);refine Ud (Zk (d:=.int (bitsN s.fills:Int)) (Ze (xs:=[.tup (Zd s.fills)]) (Z2 (Ze (xs:=[G.d,.int (k:Int)]) rfl (Ia G k s h)) rfl) (Qc s.fills fun p hp=>by have:=hs.f p hp;lia)) ?_);refine V2 (Iq (Yi (Z7 (Z7 rfl rfl (Z87 lf _)) rfl (ne0 _))) (fun _=>Mr (ds:=[.lst (Zd [k])]) (Z2 (Wy (M7 (Z2 rfl rfl) (by simp))) rfl) hgw ⟨.inr rfl,rfl⟩) (fun hb2=>?_));exfalso;refine hf ⟨hc,hlev,fun q h1 h2=>?_⟩;have hz:lf &&& bitsN s.fills=0:=by simpa using hb2
 have:=congrArg (Nat.testBit · q) hz;simp only [testBit_and,hlf,T8,Nat.zero_testBit,h2,Bool.true_and,decide_eq_true h1,Bool.and_true] at this;simpa using this
theorem Z1q {G:G3} {rows:List Rw} {n:Nat} {r:Rw} (hr:rows[n]?=some r):(Z1 (dV 0) (Z1 (dS Ct (dO Yg (dV 1) (dV 2)) Sc (Jv (dC (.int 2)))) (Z1 (dV 3) Zc))) [.fz G.d,.fz (.lst (rows.map Rw.d)),.fz (.int (n:Int)),.fz (.int (k:Int))]=some [G.d,Zq r.st,.int (k:Int)] :=
 Z2 rfl (Z2 (Hn (Z7 rfl rfl (W0 (x:=r.d) (by rw [getElem?_map,hr];rfl))) rfl (Tb rfl) (Fi r)) rfl)
theorem Zak (G:G3) (hG:Gb 64 G) (rows:List Rw) (n k:Nat) (r:Rw) (s:St3) (hr:rows[n]?=some r) (h:G.steps[k]?=some s) (hf:Fine s r.st):R3 [G.d,.lst (rows.map Rw.d),.int (n:Int),.int (k:Int)]=.ok (Zq (Qt s r.st)):=by
 show (match Q5 [.fz G.d,.fz (.lst (rows.map Rw.d)),.fz (.int (n:Int)),.fz (.int (k:Int))] with | .ret d=>Rs.ok d | .next _=>.ok .non | .exc _ c fs=>.exc c fs | _=>.no)=_;unfold Q5 Bz Ai;rw [Z1q hr];dsimp only;rw [Z3a G hG r.st k s h hf]
theorem Z7m {G:G3} (hG:Gb 64 G) {rows:List Rw} (t:Told G I rows) (hle:rows.length<=400) {n:Nat} {r:Rw} {s:St3} (hr:rows[n]?=some r) (h:G.steps[k]?=some s) (hc:Tc s r.m=true) (hf:¬ Fine s r.st):∃ c,Z8q c/\R3 [G.d,.lst (rows.map Rw.d),.int (n:Int),.int (k:Int)]=.exc c (Z04 (Mu rows n++[k])):=by
 obtain ⟨c,hcB,eb⟩:=Z03 G hG r.st k s h hc hf;have hk:=(List.getElem?_eq_some_iff.mp h).1;have hn:=(List.getElem?_eq_some_iff.mp hr).1;have hs2:=hG.s2;obtain ⟨w1,w2⟩:=Dc t n hn;have hgw:gW "way" [.lst (Zd (Mu rows n++[k]))]=some (Z04 (Mu rows n++[k])):=Zaw (by rw [length_append,length_singleton];lia) fun q hq=>by
  rcases mem_append.mp hq with z | z
  ·have:=w2 q z;lia
  ·rw [mem_singleton.mp z];lia
 have ha:(Z1 (dL (dO O7 (Zt Sf (Z1 (dV 1) (Z1 (dV 2) Zc))) (dL (Qx (Z1 (dV 3) Zc))))) Zc) [.fz G.d,.fz (.lst (rows.map Rw.d)),.fz (.int (n:Int)),.fz (.int (k:Int))]=some [.lst (Zd (Mu rows n++[k]))]:=by
  refine Z2 (Wy (ds:=Zd (Mu rows n++[k])) ?_) rfl;unfold dO;rw [Ze (xs:=[.lst (rows.map Rw.d),.int (n:Int)]) rfl (Xb hle t n hn),Wy (M7 (xs:=[.int (k:Int)]) (Z2 rfl rfl) (by simp))];have hl:(Zd (Mu rows n)).length=(Mu rows n).length:=by unfold Zd;rw [length_map,length_map]
  show O7 (.lst (Zd (Mu rows n))) (.lst (Zd [k]))=_;rw [← Bt];unfold O7;exact if_pos (by rw [hl];have:(Zd [k]).length=1:=rfl;rw [sizeLine_eq];lia)
 refine ⟨c,hcB,?_⟩;show (match Q5 [.fz G.d,.fz (.lst (rows.map Rw.d)),.fz (.int (n:Int)),.fz (.int (k:Int))] with | .ret d=>Rs.ok d | .next _=>.ok .non | .exc _ c fs=>.exc c fs | _=>.no)=_;unfold Q5 Bz Ai;rw [Z1q hr];dsimp only;rw [eb];dsimp only;have hr:∀ c,Vl c (gW "way") (Z1 (dL (dO O7 (Zt Sf (Z1 (dV 1) (Z1 (dV 2) Zc))) (dL (Qx (Z1 (dV 3) Zc))))) Zc) [.fz G.d,.fz (.lst (rows.map Rw.d)),.fz (.int (n:Int)),.fz (.int (k:Int))]=.exc [.fz G.d,.fz (.lst (rows.map Rw.d)),.fz (.int (n:Int)),.fz (.int (k:Int))] c (Z04 (Mu rows n++[k])):=fun c=>by
  unfold Vl;rw [ha];dsimp only [Option.bind];rw [hgw]
 rcases hcB with rfl | rfl
 ·rw [if_pos (by decide),if_pos rfl,hr]
  rfl
 ·rw [if_pos (by decide),if_neg (by decide),if_pos rfl,hr]
  rfl
abbrev TT (G:G3) (rows:List Rw):Prop:=Told G (fun _=>True) rows
theorem Z7o (G:G3):TT G [rw0 G] where
 zero:=rfl
 inv:=fun _ _=>trivial
 nd:=nodup_cons.mpr ⟨by simp,nodup_nil⟩
 src:=fun i r e h0=>by
  rw [List.getElem?_cons,if_neg (by lia)] at e;cases e
theorem Zdu {G:G3} {rows:List Rw} (t:TT G rows) {f:Nat} {s:St3} {rf:Rw} (hf:rows[f]?=some rf) (hs:G.steps[k]?=some s) (hc:Tc s rf.m=true) (hn:Qt s rf.st∉rows.map Rw.st):TT G (rows++[⟨(Qt s rf.st).1,(Qt s rf.st).2,some (f,k)⟩]) where
 zero:=by
  have:=t.zero;have hl:=(List.getElem?_eq_some_iff.mp this).1;rw [getElem?_append_left hl];exact this
 inv:=fun _ _=>trivial
 nd:=by
  rw [map_append];refine List.nodup_append.mpr ⟨t.nd,nodup_cons.mpr ⟨by simp,nodup_nil⟩,fun a ha b hb=>?_⟩;have eb:b=Qt s rf.st:=mem_singleton.mp hb;rw [eb];intro e;exact hn (e▸ha)
 src:=fun i r e h0=>by
  rcases lt_or_ge i rows.length with hl | hl
  ·rw [getElem?_append_left hl] at e
   obtain ⟨f',k',s',rf',a1,a2,a3,a4,a5,a6⟩:=t.src i r e h0;exact ⟨f',k',s',rf',a1,a2,a3,by rw [getElem?_append_left (by lia)];exact a4,a5,a6⟩
  ·rw [List.getElem?_append_right hl] at e
   have hfl:=(List.getElem?_eq_some_iff.mp hf).1;have e0:i - rows.length=0:=by
    rcases eq_zero_or_pos (i - rows.length) with z | z
    ·exact z
    ·rw [List.getElem?_cons,if_neg (by lia)] at e;cases e
   rw [e0] at e;cases e;exact ⟨f,k,s,rf,rfl,by lia,hs,by rw [getElem?_append_left hfl];exact hf,hc,rfl⟩
def Okr (G:G3) (r:Rw):Prop:=∀ (k:Nat) (s:St3),G.steps[k]?=some s->Tc s r.m=true->Fine s r.st
structure Whole (G:G3) (most:Nat) (rows:List Rw):Prop where
 t:TT G rows
 le:rows.length<=most
 ok:∀ r∈rows,Okr G r
def Mm:List Str:=N15_
theorem Ln {fs:Zzv} {d:Dat} (e:fs env=some ds) (h:F ds=.ok d):Eg i F fs env=.next (env.set i (.fz d)):=by unfold Eg;rw [e];dsimp only;rw [h]
theorem Hb {fs:Zzv} (e:fs env=some ds) (h:F ds=.exc c fl):Eg i F fs env=.exc env c fl:=by unfold Eg;rw [e];dsimp only;rw [h]
theorem Z5l {d:Dat} (h:F ds=.ok d) (hp:Ag d=true):Hh F ds=.ok d:=by unfold Hh;rw [h];exact if_pos hp
theorem Z3t (h:F ds=.exc c fl):Hh F ds=.exc c fl:=by unfold Hh;rw [h]
theorem Z0t (h:Z8q c):c∈Mm:=by rcases h with rfl | rfl<;>(unfold Mm;simp)
theorem Z0p {G:G3} (hG:Gb 64 G) (most:Nat) (hm1:1<=most) (hm2:most<=400):(∃ d,Jn [G.d,.int (most:Int)]=.ok d/\∃ rows,d=.lst (rows.map Rw.d)/\Whole G most rows)\/∃ c fl,Jn [G.d,.int (most:Int)]=.exc c fl/\c∈Mm:=by
 refine Lz (n:=8) (p:=2) (ds:=[G.d,.int (most:Int)]) (g:=Mt) (R:=fun d=>∃ rows,d=.lst (rows.map Rw.d)/\Whole G most rows) (E:=fun c _=>c∈Mm) rfl ?_;show GoE (Mt [.fz G.d,.fz (.int (most:Int)),.un,.un,.un,.un,.un,.un]) _ _ _ _;unfold Mt;refine Ud (Jx (ds:=[rw0 G].map Rw.d) (M7 (Z2 (Yd (Z2 (Z7 rfl rfl rfl) (Z2 (Z7 rfl rfl rfl) rfl)) (by simp)) rfl) (by simp)) ?_);refine Ud (Z90 (q:=(G.marks,G.code)) (Yd (Z2 (Z7 rfl rfl rfl) (Z2 (Z7 rfl rfl rfl) rfl)) (by simp)) rfl ?_);refine Ud (Zk (d:=.int ((0:Nat):Int)) rfl ?_);refine V2 (Z40 (fun m e=>∃ (rows:List Rw) (at0:Nat) (v5 v6 v7:Slt),e=[.fz G.d,.fz (.int (most:Int)),.ow (rows.map Rw.d),.gx (.dict (Gc (rows.map Rw.st))),.fz (.int (at0:Int)),v5,v6,v7]/\TT G rows/\at0<=rows.length/\m+at0=400/\rows.length<=most/\∀ i r,i<at0->rows[i]?=some r->Okr G r) (n:=400) ⟨_,0,.un,.un,.un,rfl,Z7o G,by lia,rfl,hm1,fun i r h=>by lia⟩ ?_);rintro m e ⟨rows,at0,v5,v6,v7,rfl,t,hal,hm,hmost,hok⟩;have hlen:dF Uh (Z1 (dP 2) Zc) [.fz G.d,.fz (.int (most:Int)),.ow (rows.map Rw.d),.gx (.dict (Gc (rows.map Rw.st))),.fz (.int (at0:Int)),v5,v6,v7]=some (.int (rows.length:Int)):=Wg (Z2 rfl rfl) (Lj Rw.d rows);rcases lt_or_ge at0 rows.length with hl | hl
 ·right
  obtain ⟨r,hr⟩:∃ r,rows[at0]?=some r:=⟨_,getElem?_eq_getElem hl⟩;have hix:Yg (.lst (rows.map Rw.d)) (.int (at0:Int))=some r.d:=W0 (by rw [getElem?_map,hr];rfl);refine ⟨Yi (Z7 rfl hlen (by show some (Dat.bl (decide ((at0:Int)<(rows.length:Int))))=_;rw [decide_eq_true (by lia)])),?_⟩;refine Ud (Zk (Ze (xs:=[G.d,Zq r.st]) (Z2 rfl (Z2 (Hn (Z7 rfl rfl hix) rfl (Tb rfl) (Fi r)) rfl)) (Km G hG r.st)) ?_);obtain ⟨ks,hks⟩:∃ ks:List Nat,Cs G r.st.1=ks:=⟨_,rfl⟩;have hks':Cs G r.m=ks:=hks;have hkm:∀ k∈ks,Xs G r.m k=true:=fun k hk=>by rw [← hks'] at hk;exact Z62 hk
  rw [hks];refine V2 (A8 (ds:=Zd ks) (fun i e=>∃ (rw1:List Rw) (v6 v7:Slt),e=[.fz G.d,.fz (.int (most:Int)),.ow (rw1.map Rw.d),.gx (.dict (Gc (rw1.map Rw.st))),.fz (.int (at0:Int)),.fz (.lst (Zd ks)),v6,v7]/\TT G rw1/\rows <+: rw1/\rw1.length<=most/\∀ k∈ks.take i,∀ s,G.steps[k]?=some s->Fine s r.st) rfl ⟨rows,v6,v7,rfl,t,List.prefix_rfl,hmost,fun k hk=>by simp at hk⟩ ?_ ?_)
  ·rintro i d e hi ⟨rw1,v6,v7,rfl,tr,hpre,hmo,hfn⟩
   obtain ⟨k,hk,rfl⟩:=Ic hi;have hcanK:=hkm k (mem_of_getElem? hk);obtain ⟨s,hs,hcan⟩:=Z3u hcanK;have htk:ks.take (i+1)=ks.take i++[k]:=by rw [take_succ,hk];rfl
   have hr':=X2 hpre hr;have hle:rw1.length<=400:=by lia
   refine ⟨_,rfl,?_⟩;by_cases hf:Fine s r.st
   case neg =>
    obtain ⟨c,hcB,ec⟩:=Z7m hG tr hle hr' hs hcan hf;refine V2 ⟨?_⟩;rw [Hb (ds:=[G.d,.lst (rw1.map Rw.d),.int (at0:Int),.int (k:Int)]) rfl (Z3t ec)];exact Z0t hcB
   have hfn':∀ k'∈ks.take (i+1),∀ s,G.steps[k']?=some s->Fine s r.st:=fun k' hk' s' hs'=>by
    rw [htk] at hk';rcases mem_append.mp hk' with z | z
    ·exact hfn k' z s' hs'
    ·rw [mem_singleton.mp z,hs] at hs';cases hs';exact hf
   refine V2 ⟨?_⟩;rw [Ln (d:=Zq (Qt s r.st)) (ds:=[G.d,.lst (rw1.map Rw.d),.int (at0:Int),.int (k:Int)]) rfl (Z5l (Zak G hG rw1 at0 k r s hr' hs hf) rfl)];refine V2 (Iq (Yi (Zab (ps:=rw1.map Rw.st) (q:=Qt s r.st) rfl rfl)) (fun hb=>?_) (fun hb=>?_))
   ·exact ⟨⟨rw1,.fz (.int (k:Int)),.fz (Zq (Qt s r.st)),rfl,tr,hpre,hmo,hfn'⟩⟩
   have hnin:Qt s r.st∉rw1.map Rw.st:=of_decide_eq_false hb;refine (Wd ?_:Go _ _ _).toE;refine V2 (Iq (b:=decide ((most:Int)<=(rw1.length:Int))) (Yi (Z7 (Wg (Z2 rfl rfl) (Lj Rw.d rw1)) rfl rfl)) (fun hb2=>?_) (fun hb2=>(Wd ?_:Go _ _ _).toE))
   ·exact Mr (ds:=[]) rfl rfl (by unfold Mm;simp)
   have hlt:=of_decide_eq_false hb2;refine Ud (Z9m (ps:=rw1.map Rw.st) (q:=Qt s r.st) rfl rfl rfl hnin (by rw [length_map];lia) ?_);refine (Mg (ds:=rw1.map Rw.d) (as:=[(⟨(Qt s r.st).1,(Qt s r.st).2,some (at0,k)⟩:Rw).d]) (ds':=(rw1++[(⟨(Qt s r.st).1,(Qt s r.st).2,some (at0,k)⟩:Rw)]).map Rw.d) rfl (Z2 (Yd (Z2 (Z7 rfl rfl rfl) (Z2 (Z7 rfl rfl rfl) rfl)) (by simp)) rfl) (by rw [Je (by rw [length_map];lia),map_append];rfl) ?_).toE;refine ⟨rw1++[⟨(Qt s r.st).1,(Qt s r.st).2,some (at0,k)⟩],.fz (.int (k:Int)),.fz (Zq (Qt s r.st)),?_,Zdu tr hr' hs hcan hnin,hpre.trans (List.prefix_append _ _),by rw [length_append,length_singleton];lia,hfn'⟩;rw [map_append (f:=Rw.st)];rfl
  ·rintro e ⟨rw1,v6,v7,rfl,tr,hpre,hmo,hfn⟩
   have hlk:(Zd ks).length=ks.length:=by unfold Zd;rw [length_map,length_map]
   rw [hlk,take_of_length_le (le_refl _)] at hfn;have hpl:=hpre.length_le;refine (Zee rfl rfl ⟨m - 1,by lia,rw1,at0+1,_,_,_,rfl,tr,by lia,by lia,hmo,fun i r' hi hr2=>?_⟩:Go _ _ _).toE;rcases lt_or_ge i at0 with hlt | hge
   ·obtain ⟨r3,hr3⟩:∃ r3,rows[i]?=some r3:=⟨_,getElem?_eq_getElem (by lia)⟩
    have:=X2 hpre hr3;rw [hr2] at this;cases this;exact hok i _ hlt hr3
   ·have:i=at0:=by lia
    subst this;have:=X2 hpre hr;rw [hr2] at this;cases this;have hk:∀ (k:Nat) (s:St3),G.steps[k]?=some s->Tc s r.m=true->k∈ks:=fun k s hs hc=>by
     rw [← hks'];unfold Cs;refine mem_filter.mpr ⟨mem_range.mpr (List.getElem?_eq_some_iff.mp hs).1,?_⟩;unfold Xs;rw [hs];exact hc
    exact fun k s hs hc=>hfn k (hk k s hs hc) s hs
 ·left
  refine ⟨Yi (Z7 rfl hlen (by show some (Dat.bl (decide ((at0:Int)<(rows.length:Int))))=_;rw [decide_eq_false (by lia)])),?_⟩;exact (Hw rfl ⟨rows,rfl,t,hmost,fun r hr=>by
   obtain ⟨i,hi,rfl⟩:=getElem_of_mem hr;exact hok i _ (by lia) (getElem?_eq_getElem hi)⟩:Go _ _ _).toE
end K74
namespace L2
open PySem
def Pd (G:G3) (s:St3):Bool:=match G.wires[s.w]? with
 | some u=>u.2
 | none=>false
end L2
namespace K74
open PySem PySem.Spec PyProof.Rows L2
theorem Z8z (G:G3) (hG:Gb 64 G) (i j:Nat) (si sj:St3) (hi:G.steps[i]?=some si) (hj:G.steps[j]?=some sj):∃ b:Bool,F6 [G.d,.int (i:Int),.int (j:Int)]=.ok (.bl b):=by
 have bi:=hG.st si (mem_of_getElem? hi);have bj:=hG.st sj (mem_of_getElem? hj);have:=Zz (n:=4) (p:=3) (ds:=[G.d,.int (i:Int),.int (j:Int)]) (g:=Iz) (R:=fun d=>∃ b:Bool,d=.bl b) rfl ?_
 ·obtain ⟨d,e,b,rfl⟩:=this
  exact ⟨b,e⟩
 show Go (Iz [.fz G.d,.fz (.int (i:Int)),.fz (.int (j:Int)),.un]) _ _;unfold Iz;obtain ⟨kp,ek,hkp⟩:=Er (bitsN si.takes) (bitsN si.fills);refine Z9 (Zk (d:=.int (kp:Int)) (Z7 (Ze (xs:=[.tup (Zd si.takes)]) (Z2 (Ze (xs:=[G.d,.int (i:Int)]) rfl (Qh G i si hi)) rfl) (Qc si.takes fun p hp=>by have:=bi.t p hp;lia)) (Z7b (Ze (xs:=[.tup (Zd si.fills)]) (Z2 (Ze (xs:=[G.d,.int (i:Int)]) rfl (Ia G i si hi)) rfl) (Qc si.fills fun p hp=>by have:=bi.f p hp;lia)) (z:=.int (-(bitsN si.fills:Int) - 1)) rfl) (by show some (Dat.int (Builtin.bitAnd _ _))=_;rw [ek])) ?_);exact Y0 (Z7 (Z7 rfl (Ze (xs:=[.tup (Zd sj.takes)]) (Z2 (Ze (xs:=[G.d,.int (j:Int)]) rfl (Qh G j sj hj)) rfl) (Qc sj.takes fun p hp=>by have:=bj.t p hp;lia)) (Z87 kp _)) rfl (ne0 _)) ⟨_,rfl⟩
theorem Z23 {G:G3} {w:Nat} {u:Str×Bool} (h:G.wires[w]?=some u):Yg (.tup (G.wires.map T6)) (.int (w:Int))=some (T6 u):=Dk (by rw [getElem?_map,h];rfl)
theorem Re (G:G3) (w:Nat) (u:Str×Bool) (h:G.wires[w]?=some u):V4 [G.d,.int (w:Int)]=.ok (.bl u.2):=by
 refine W8 (Zz (n:=2) (p:=2) (ds:=[G.d,.int (w:Int)]) (g:=Jl) (R:=fun d=>d=.bl u.2) rfl ?_);show Go (Jl [.fz G.d,.fz (.int (w:Int))]) _ _;unfold Jl;exact Y0 (Z7 (Z7 (Z7 (Z7 rfl rfl rfl) rfl (Z23 h)) rfl rfl) rfl (Z2i _)) rfl
theorem Z1n {G:G3} {s:St3} {u:Str×Bool} (h:G.wires[s.w]?=some u):Pd G s=u.2:=by unfold Pd;rw [h]
theorem Zc0 {g:Zzu} {a b:Bool} (h1:f env=some (.bl a)) (h2:g env=some (.bl b)):dOr f g env=some (.bl (a||b)):=by
 unfold dOr dB;rw [h1];cases a with
 | true=>rfl
 | false=>exact h2
theorem Z1b (G:G3) (hG:Gb 64 G) (i j:Nat) (si sj:St3) (hi:G.steps[i]?=some si) (hj:G.steps[j]?=some sj):T4 [G.d,.int (i:Int),.int (j:Int)]=.ok (.bl (Pd G si||Pd G sj)):=by
 have bi:=(hG.st si (mem_of_getElem? hi)).w;have bj:=(hG.st sj (mem_of_getElem? hj)).w;have ei:G.wires[si.w]?=some G.wires[si.w]:=getElem?_eq_getElem bi;have ej:G.wires[sj.w]?=some G.wires[sj.w]:=getElem?_eq_getElem bj;refine W8 (Zz (n:=3) (p:=3) (ds:=[G.d,.int (i:Int),.int (j:Int)]) (g:=V0) (R:=fun d=>d=.bl (Pd G si||Pd G sj)) rfl ?_);show Go (V0 [.fz G.d,.fz (.int (i:Int)),.fz (.int (j:Int))]) _ _;unfold V0;rw [Z1n ei,Z1n ej];exact Y0 (Zc0 (Ze (xs:=[G.d,.int (si.w:Int)]) (Z2 rfl (Z2 (Ze (xs:=[G.d,.int (i:Int)]) rfl (Ih G i si hi)) rfl)) (Re G si.w _ ei)) (Ze (xs:=[G.d,.int (sj.w:Int)]) (Z2 rfl (Z2 (Ze (xs:=[G.d,.int (j:Int)]) rfl (Ih G j sj hj)) rfl)) (Re G sj.w _ ej))) rfl
theorem Z4i (G:G3) (hG:Gb 64 G):∃ qs:List (Nat×Nat),Gm [G.d]=.ok (.lst (qs.map Zq))/\∀ p∈qs,p.1<24/\p.2<24:=by
 have:=Zz (n:=4) (p:=1) (ds:=[G.d]) (g:=Mx) (R:=fun d=>∃ qs:List (Nat×Nat),d=.lst (qs.map Zq)/\∀ p∈qs,p.1<24/\p.2<24) rfl ?_
 ·obtain ⟨d,e,qs,rfl,h⟩:=this
  exact ⟨qs,e,h⟩
 show Go (Mx [.fz G.d,.un,.un,.un]) _ _;unfold Mx;have hs2:=hG.s2;have hlen:∀ e:Ev,e[0]?=some (.fz G.d)->dF Uh (Z1 (dO Yg (dV 0) (dC (.int 1))) Zc) e=some (.int ((G.steps.length:Nat):Int)):=fun e he=>Wg (Z2 (x:=.tup (G.steps.map St3.d)) (Z7 (x:=G.d) (by unfold dV;rw [he]) rfl rfl) rfl) (by show some (Dat.int ((G.steps.map St3.d).length:Int))=_;rw [length_map])
 refine Z9 (Jx (ds:=([]:List (Nat×Nat)).map Zq) rfl ?_);refine Z9 (Vh (ds:=rng 0 G.steps.length) (fun i e=>∃ (qs:List (Nat×Nat)) (v2 v3:Slt),e=[.fz G.d,.ow (qs.map Zq),v2,v3]/\qs.length<=24*i/\∀ p∈qs,p.1<24/\p.2<24) (W9 (Z2 (hlen _ rfl) rfl) (by lia)) ⟨[],.un,.un,rfl,by simp,by simp⟩ ?_ ?_)
 ·rintro i d e hi ⟨qs,v2,v3,rfl,hl,hq⟩
  obtain ⟨hi1,rfl⟩:=Ub hi;rw [Int.zero_add];refine ⟨_,rfl,?_⟩;obtain ⟨si,hsi⟩:∃ s,G.steps[i]?=some s:=⟨_,getElem?_eq_getElem hi1⟩;refine Vh (ds:=rng 0 G.steps.length) (fun j e=>∃ (qs:List (Nat×Nat)) (v3:Slt),e=[.fz G.d,.ow (qs.map Zq),.fz (.int (i:Int)),v3]/\qs.length<=24*i+j/\∀ p∈qs,p.1<24/\p.2<24) (W9 (Z2 (hlen _ rfl) rfl) (by lia)) ⟨qs,v3,rfl,hl,hq⟩ ?_ ?_
  ·rintro j d e hj ⟨qs,v3,rfl,hl,hq⟩
   obtain ⟨hj1,rfl⟩:=Ub hj;rw [Int.zero_add];refine ⟨_,rfl,?_⟩;obtain ⟨sj,hsj⟩:∃ s,G.steps[j]?=some s:=⟨_,getElem?_eq_getElem hj1⟩;obtain ⟨b,hb⟩:=Z8z G hG i j si sj hsi hsj;refine D4 (Rr (Yi (Z7 rfl rfl (neN i j))) fun _=>Rr (Se (Ze (xs:=[G.d,.int (i:Int),.int (j:Int)]) rfl (Z1b G hG i j si sj hsi hsj))) fun _=>Se (Ze (xs:=[G.d,.int (i:Int),.int (j:Int)]) rfl hb)) (fun _=>?_) (fun _=>Wd ⟨qs,_,rfl,by lia,hq⟩);refine Mg (ds':=(qs++[(i,j)]).map Zq) (as:=[Zq (i,j)]) rfl (Z2 (Yd (Z2 rfl (Z2 rfl rfl)) (by simp)) rfl) (by rw [Je (by rw [length_map];lia),map_append];rfl) ⟨qs++[(i,j)],_,rfl,by rw [length_append];show _+1<=_;lia,fun p hp=>?_⟩;rcases mem_append.mp hp with z | z
   ·exact hq p z
   ·rw [mem_singleton.mp z];exact ⟨by show i<24;lia,by show j<24;lia⟩
  ·rintro e ⟨qs,v3,rfl,hl,hq⟩
   rw [Vr] at hl;exact ⟨qs,_,_,rfl,by lia,hq⟩
 ·rintro e ⟨qs,v2,v3,rfl,hl,hq⟩
  exact Hw rfl ⟨qs,rfl,hq⟩
def Zhw (ks:List Nat) (a b:Nat):List (Str×XD):=[("way",.nums (My ks)),("lost",.int (a:Int)),("by",.int (b:Int))]
theorem Zh0 (ks:List Nat) (a b:Nat) (h:T3 (My ks)=true) (ha:a<1000) (hb:b<1000):gC "way" "lost" "by" [.lst (Zd ks),.int (a:Int),.int (b:Int)]=some (Zhw ks a b):=by
 unfold gC;dsimp only;rw [X0];dsimp only [Option.bind];have hs:∀ w:Nat,w<1000->Ri (w:Int)=true:=fun w hw=>by unfold Ri;rw [decide_eq_true (by lia),decide_eq_true (by lia)];rfl
 rw [if_pos (by rw [h,hs a ha,hs b hb];rfl)];rfl
theorem Ad (p:Nat) (ps:List Nat):inF (.int (p:Int)) (.lst (Zd ps))=some (.bl (decide (p∈ps))):=by unfold inF;rw [Z1u];rfl
theorem Z5v {d:Dat} (h:(qs.map L2.Zq)[i]?=some d):∃ p,qs[i]?=some p/\d=L2.Zq p:=by
 rw [getElem?_map] at h;obtain ⟨p,h1,h2⟩:=map_some h;exact ⟨p,h1,h2.symm⟩
theorem Z4d {G:G3} (hG:Gb 64 G) (hm:most<=400) {rows:List Rw} (es:Jn [G.d,.int (most:Int)]=.ok (.lst (rows.map Rw.d))) (W:Whole G most rows) :
  (∃ d,Vj [G.d,.int (most:Int)]=.ok d/\d=.lst (rows.map Rw.d))\/∃ c fl,Vj [G.d,.int (most:Int)]=.exc c fl/\c="CalledOff" := by
 have hle:=W.le;have hs2:=hG.s2;refine Lz (n:=9) (p:=2) (ds:=[G.d,.int (most:Int)]) (g:=Ma) (R:=fun d=>d=.lst (rows.map Rw.d)) (E:=fun c fl=>c="CalledOff") rfl ?_;show GoE (Ma [.fz G.d,.fz (.int (most:Int)),.un,.un,.un,.un,.un,.un,.un]) _ _ _ _;unfold Ma;refine V2 ⟨?_⟩;rw [Ln (d:=.lst (rows.map Rw.d)) (ds:=[G.d,.int (most:Int)]) rfl es];obtain ⟨qs,hqs,hql⟩:=Z4i G hG;refine Ud (Zk (Ze (xs:=[G.d]) rfl hqs) ?_);refine V2 (A8 (ds:=Tq 0 (rows.map Rw.d)) (fun i e=>∃ v4 v5 v6 v7 v8:Slt,e=[.fz G.d,.fz (.int (most:Int)),.fz (.lst (rows.map Rw.d)),.fz (.lst (qs.map Zq)),v4,v5,v6,v7,v8]) (Bw rfl) ⟨.un,.un,.un,.un,.un,rfl⟩ ?_ ?_)
 ·rintro n d e hn ⟨v4,v5,v6,v7,v8,rfl⟩
  obtain ⟨x,hx,rfl⟩:=Kc hn;rw [getElem?_map] at hx;obtain ⟨r,hr,rfl⟩:=map_some hx;have hnl:=(List.getElem?_eq_some_iff.mp hr).1;refine ⟨[.fz G.d,.fz (.int (most:Int)),.fz (.lst (rows.map Rw.d)),.fz (.lst (qs.map Zq)),.fz (.int (n:Int)),.fz r.d,v6,v7,v8],rfl,?_⟩;refine Ud (Zk (Ze (xs:=[G.d,Zq r.st]) (Z2 rfl (Z2 (Hn rfl rfl (Tb rfl) (Fi r)) rfl)) (Km G hG r.st)) ?_);refine A8 (ds:=qs.map Zq) (fun i e=>∃ v7 v8:Slt,e=[.fz G.d,.fz (.int (most:Int)),.fz (.lst (rows.map Rw.d)),.fz (.lst (qs.map Zq)),.fz (.int (n:Int)),.fz r.d,.fz (.lst (Zd (Cs G r.st.1))),v7,v8]) rfl ⟨v7,v8,rfl⟩ ?_ ?_
  ·rintro i d e hi ⟨v7,v8,rfl⟩
   obtain ⟨p,hp,rfl⟩:=Z5v hi;refine ⟨[.fz G.d,.fz (.int (most:Int)),.fz (.lst (rows.map Rw.d)),.fz (.lst (qs.map Zq)),.fz (.int (n:Int)),.fz r.d,.fz (.lst (Zd (Cs G r.st.1))),.fz (.int (p.1:Int)),.fz (.int (p.2:Int))],rfl,?_⟩;refine Iq (Rr (Yi (Z7 rfl rfl (Ad p.1 _))) fun _=>Yi (Z7 rfl rfl (Ad p.2 _))) (fun hb=>?_) (fun hb=>(Wd ⟨_,_,rfl⟩:Go _ _ _).toE);obtain ⟨w1,w2⟩:=Dc W.t n hnl;obtain ⟨l1,l2⟩:=hql p (mem_of_getElem? hp);exact Mr (ds:=[.lst (Zd (Mu rows n)),.int (p.2:Int),.int (p.1:Int)]) (Z2 (Ze (xs:=[.lst (rows.map Rw.d),.int (n:Int)]) rfl (Xb (by lia) W.t n hnl)) rfl) (Zh0 _ p.2 p.1 (Ra (by lia) fun k hk=>by have:=w2 k hk;lia) (by lia) (by lia)) rfl
  ·rintro e ⟨v7,v8,rfl⟩
   exact ⟨_,_,_,_,_,rfl⟩
 ·rintro e ⟨v4,v5,v6,v7,v8,rfl⟩
  refine (Y0 rfl ?_:Go _ _ _).toE;rfl
theorem neI (a b:Int):Lc (.int a) (.int b)=some (.bl (!(a==b))):=by unfold Lc Hk;rfl
def Wm (p:α->Bool):Nat->List α->List Nat
 | _,[]=>[]
 | k,x::xs=>if p x=true then k::Wm p (k+1) xs else Wm p (k+1) xs
theorem Nz {g:Dat->Ev->Option Ev} {t:Ev->Option Bool} (D:α->Dat) (p:α->Bool):∀ (xs:List α) (k:Nat),(∀ x∈xs,∀ n:Nat,∃ e1,g (.tup [.int (n:Int),D x]) env=some e1/\t e1=some (p x)/\f e1=some (.int (n:Int)))->W3 g t f env (Tq k (xs.map D))=some (Zd (Wm p k xs))
 | [],_,_=>rfl
 | x::xs,k,h=>by
  obtain ⟨e1,a1,a2,a3⟩:=h x mem_cons_self k;have ih:=Nz D p xs (k+1) fun z hz=>h z (mem_cons_of_mem _ hz)
  rw [map_cons,Tq,W3,a1];dsimp only [Option.bind];rw [a2];dsimp only;rw [Wm];cases hp:p x with
  | true=>rw [if_pos rfl,a3];dsimp only;rw [ih,if_pos rfl];rfl
  | false=>rw [if_neg (by decide),ih,if_neg (by decide)]
theorem J5 (p:α->Bool):∀ (xs:List α) (k j:Nat),j∈Wm p k xs↔∃ i x,j=k+i/\xs[i]?=some x/\p x=true
 | [],k,j=>by simp [Wm]
 | x::xs,k,j=>by
  rw [Wm];have ih:=J5 p xs (k+1) j;have key:(j∈Wm p (k+1) xs)↔∃ i y,j=k+(i+1)/\(x::xs)[i+1]?=some y/\p y=true:=by
   rw [ih];constructor
   ·rintro ⟨i,y,h1,h2,h3⟩;exact ⟨i,y,by lia,by simpa using h2,h3⟩
   ·rintro ⟨i,y,h1,h2,h3⟩;exact ⟨i,y,by lia,by simpa using h2,h3⟩
  constructor
  ·intro h
   split at h
   ·rename_i hp
    rcases mem_cons.mp h with e | e
    ·exact ⟨0,x,by lia,rfl,hp⟩
    ·obtain ⟨i,y,h1,h2,h3⟩:=key.mp e;exact ⟨i+1,y,h1,h2,h3⟩
   ·obtain ⟨i,y,h1,h2,h3⟩:=key.mp h;exact ⟨i+1,y,h1,h2,h3⟩
  ·rintro ⟨i,y,h1,h2,h3⟩
   cases i with
   | zero =>
    have:x=y:=by simpa using h2
    subst this;rw [if_pos h3];exact mem_cons.mpr (.inl (by lia))
   | succ i =>
    have:=key.mpr ⟨i,y,h1,h2,h3⟩;split
    ·exact mem_cons_of_mem _ this
    ·exact this
def P3 (w:Nat) (up:Bool) (s:St3):Bool:=(s.w==w)&&(s.up==up)
theorem Bf (G:G3) (w:Nat) (up:Bool):S7 [G.d,.int (w:Int),.bl up]=.ok (.lst (Zd (Wm (P3 w up) 0 G.steps))):=by
 refine W8 (Zz (n:=3) (p:=3) (ds:=[G.d,.int (w:Int),.bl up]) (g:=Q2) (R:=fun d=>d=.lst (Zd (Wm (P3 w up) 0 G.steps))) rfl ?_);show Go (Q2 [.fz G.d,.fz (.int (w:Int)),.fz (.bl up)]) _ _;unfold Q2;exact Y0 (Wy (Yv (xs:=Tq 0 (G.steps.map St3.d)) (env':=[.un,.un,.fz (.int (w:Int)),.fz (.bl up)]) (Z1x (Z7 rfl rfl rfl)) rfl (Nz St3.d (P3 w up) G.steps 0 fun s _ n=>⟨[.fz (.int (n:Int)),.fz s.d,.fz (.int (w:Int)),.fz (.bl up)],rfl,Rr (Yi (Z7 (Z7 rfl rfl rfl) rfl (eqN s.w w))) fun _=>Yi (Z7 (Z7 rfl rfl rfl) rfl (Zcj s.up up)),rfl⟩))) rfl
def Va (G:G3) (m w:Nat) (up:Bool):Bool:=G.steps.any fun s=>P3 w up s&&Tc s m
theorem Gi (G:G3) (hG:Gb 64 G) (m:Nat) (cd:Dat) (w:Nat) (up:Bool):Qp [G.d,.tup [.int (m:Int),cd],.int (w:Int),.bl up]=.ok (.bl (Va G m w up)):=by
 refine W8 (Zz (n:=4) (p:=4) (ds:=[G.d,.tup [.int (m:Int),cd],.int (w:Int),.bl up]) (g:=Ur) (R:=fun d=>d=.bl (Va G m w up)) rfl ?_);show Go (Ur [.fz G.d,.fz (.tup [.int (m:Int),cd]),.fz (.int (w:Int)),.fz (.bl up)]) _ _;unfold Ur;let q:Nat->Bool:=fun k=>match G.steps[k]? with | some s=>Tc s m | none=>false
 have hc:W3 (Y5 0) Ux (Zt Kj (Z1 (dV 1) (Z1 (dV 2) (Z1 (dV 0) Zc)))) [.un,.fz G.d,.fz (.tup [.int (m:Int),cd])] (Zd (Wm (P3 w up) 0 G.steps))=some (((Wm (P3 w up) 0 G.steps).map q).map Dat.bl):=by
  rw [W4,Um (fun p:Nat=>Dat.int (p:Int)) (fun p:Nat=>.bl (q p)) _ fun p hp=>?_,map_map]
  ·rfl
  ·obtain ⟨i,s,e,hs,_⟩:=(J5 _ _ _ _).mp hp
   rw [zero_add] at e;subst e;refine ⟨[.fz (.int (p:Int)),.fz G.d,.fz (.tup [.int (m:Int),cd])],rfl,rfl,Ze (xs:=[G.d,.tup [.int (m:Int),cd],.int (p:Int)]) rfl ?_⟩;rw [Z5x G hG m cd p s hs];show _=Rs.ok (.bl (match G.steps[p]? with | some s=>Tc s m | none=>false));rw [hs]
 refine Y0 (Wg (Z2 (Wy (Yv (xs:=Zd (Wm (P3 w up) 0 G.steps)) (env':=[.un,.fz G.d,.fz (.tup [.int (m:Int),cd])]) (by unfold Th;rw [Ze (xs:=[G.d,.int (w:Int),.bl up]) rfl (Bf G w up)]) rfl hc)) rfl) (Z8g _)) ?_;congr 1
 unfold Va;rw [Bool.eq_iff_iff,any_map,any_eq_true,any_eq_true];constructor
 ·rintro ⟨j,hj,hq⟩
  obtain ⟨i,s,e,hs,hp⟩:=(J5 _ _ _ _).mp hj;rw [zero_add] at e;subst e;refine ⟨s,mem_of_getElem? hs,?_⟩;have:Tc s m=true:=by
   have hq':q j=true:=hq;have e2:q j=Tc s m:=by show (match G.steps[j]? with | some s=>Tc s m | none=>false)=_;rw [hs]
   rw [← e2];exact hq'
  rw [hp,this];rfl
 ·rintro ⟨s,hs,hq⟩
  obtain ⟨i,hi,e⟩:=getElem_of_mem hs;have hg:G.steps[i]?=some s:=by rw [getElem?_eq_getElem hi,e]
  rw [Bool.and_eq_true] at hq;refine ⟨i,(J5 _ _ _ _).mpr ⟨i,s,by lia,hg,hq.1⟩,?_⟩;show q i=true;have e2:q i=Tc s m:=by show (match G.steps[i]? with | some s=>Tc s m | none=>false)=_;rw [hg]
  rw [e2];exact hq.2
def Ae (u d:Bool):Int:=if u then 1 else if d then -1 else 0
theorem Z57 (G:G3) (hG:Gb 64 G) (m:Nat) (cd:Dat) (w:Nat):Hx [G.d,.tup [.int (m:Int),cd],.int (w:Int)]=.ok (.int (Ae (Va G m w true) (Va G m w false))):=by
 refine W8 (Zz (n:=3) (p:=3) (ds:=[G.d,.tup [.int (m:Int),cd],.int (w:Int)]) (g:=Dd) (R:=fun d=>d=.int (Ae (Va G m w true) (Va G m w false))) rfl ?_);show Go (Dd [.fz G.d,.fz (.tup [.int (m:Int),cd]),.fz (.int (w:Int))]) _ _;unfold Dd;refine Z9 (D4 (Se (Ze (xs:=[G.d,.tup [.int (m:Int),cd],.int (w:Int),.bl true]) rfl (Gi G hG m cd w true))) (fun hb=>Y0 rfl ?_) (fun hb=>Wd ?_))
 ·rw [hb];rfl
 refine Z9 (D4 (Se (Ze (xs:=[G.d,.tup [.int (m:Int),cd],.int (w:Int),.bl false]) rfl (Gi G hG m cd w false))) (fun hb2=>Y0 rfl ?_) (fun hb2=>Wd (Y0 rfl ?_)))
 ·rw [hb,hb2];rfl
 ·rw [hb,hb2];rfl
theorem Sy (f:α->Dat) (xs:List α):Uh [.tup (xs.map f)]=some (.int ((xs.length:Nat):Int)):=by
 show some (Dat.int ((xs.map f).length:Int))=_;rw [length_map]
def R1 (G:G3):List Nat:=(List.range G.wires.length).filter fun w=>match G.wires[w]? with | some u=>u.2 | none=>false
theorem Z9k {G:G3} {w:Nat} (h:w∈R1 G):w<G.wires.length:=mem_range.mp (mem_filter.mp h).1
theorem Z8f (G:G3) (hG:Gb 64 G):Xe [G.d]=.ok (.lst (Zd (R1 G))):=by
 refine W8 (Zz (n:=1) (p:=1) (ds:=[G.d]) (g:=Kd) (R:=fun d=>d=.lst (Zd (R1 G))) rfl ?_);show Go (Kd [.fz G.d]) _ _;unfold Kd;have hw2:=hG.w2;have hc:=To (g:=Y5 0) (t:=dT (Zt V4 (Z1 (dV 1) (Z1 (dV 0) Zc)))) (f:=dV 0) (env:=[.un,.fz G.d]) (fun k:Nat=>Dat.int (k:Int)) (fun k:Nat=>Dat.int (k:Int)) (fun w=>match G.wires[w]? with | some u=>u.2 | none=>false) (List.range G.wires.length) fun k hk=>by
  have hkl:=mem_range.mp hk;have e:G.wires[k]?=some G.wires[k]:=getElem?_eq_getElem hkl;refine ⟨[.fz (.int (k:Int)),.fz G.d],rfl,?_,rfl⟩;rw [e];exact Se (Ze (xs:=[G.d,.int (k:Int)]) rfl (Re G k _ e))
 rw [← Ge] at hc;refine Y0 (Wy (Yv (xs:=rng 0 G.wires.length) (W9 (Z2 (Wg (Z2 (x:=.tup (G.wires.map T6)) (Z7 rfl rfl rfl) rfl) (Sy T6 G.wires)) rfl) (by lia)) rfl hc)) ?_;unfold R1;rw [W4]
def Wb (G:G3) (m w:Nat):Int:=Ae (Va G m w true) (Va G m w false)
theorem At (G:G3) (hG:Gb 64 G) (p:Nat×Nat) (ws:List Nat):Jq [G.d,Zq p,.lst (Zd ws)]=.ok (.lst ((ws.map (Wb G p.1)).map .int)):=by
 refine W8 (Zz (n:=3) (p:=3) (ds:=[G.d,Zq p,.lst (Zd ws)]) (g:=Tu) (R:=fun d=>d=.lst ((ws.map (Wb G p.1)).map .int)) rfl ?_);show Go (Tu [.fz G.d,.fz (Zq p),.fz (.lst (Zd ws))]) _ _;unfold Tu;have hc:W3 (Y5 0) Ux (Zt Hx (Z1 (dV 1) (Z1 (dV 2) (Z1 (dV 0) Zc)))) [.un,.fz G.d,.fz (Zq p)] (Zd ws)=some ((ws.map (Wb G p.1)).map .int):=by
  rw [W4,Um (fun w:Nat=>Dat.int (w:Int)) (fun w:Nat=>.int (Wb G p.1 w)) ws fun w _=>⟨[.fz (.int (w:Int)),.fz G.d,.fz (Zq p)],rfl,rfl,Ze (xs:=[G.d,.tup [.int (p.1:Int),.int (p.2:Int)],.int (w:Int)]) rfl (Z57 G hG p.1 _ w)⟩,map_map];rfl
 exact Y0 (Wy (Yv (xs:=Zd ws) rfl rfl hc)) rfl
theorem O3 {g:Dat->Ev->Option Ev} {t:Ev->Option Bool} (D E:α->Dat) (P:α->Bool):∀ (xs:List α) (k:Nat),(∀ (i:Nat) (x:α),xs[i]?=some x->∃ e1,g (.tup [.int ((k+i:Nat):Int),D x]) env=some e1/\t e1=some (P x)/\f e1=some (E x))->W3 g t f env (Tq k (xs.map D))=some ((xs.filter P).map E)
 | [],k,_=>rfl
 | x::xs,k,h=>by
  have h1:=O3 D E P xs (k+1) fun i y hy=>by
   have:=h (i+1) y (by simpa using hy);rw [show k+1+i=k+(i+1) by lia];exact this
  obtain ⟨e1,a1,a2,a3⟩:=h 0 x rfl;rw [Nat.add_zero] at a1;rw [map_cons,Tq,W3,a1];dsimp only [Option.bind];rw [a2];dsimp only;cases hb:P x with
  | true =>
   rw [if_pos rfl,a3,List.filter_cons,hb,if_pos rfl];dsimp only;rw [h1];rfl
  | false =>
   rw [if_neg (by decide),h1,List.filter_cons,hb,if_neg (by decide)]
def unl (ws:List Nat) (f g:Nat->Int):List Nat:=ws.filter fun y=>!(f y==g y)
theorem Z3w (ws:List Nat) (f g:Nat->Int):Ij [.lst (Zd ws),.lst ((ws.map f).map .int),.lst ((ws.map g).map .int)]=.ok (.lst (Zd (unl ws f g))):=by
 refine W8 (Zz (n:=3) (p:=3) (ds:=[.lst (Zd ws),.lst ((ws.map f).map .int),.lst ((ws.map g).map .int)]) (g:=R0) (R:=fun d=>d=.lst (Zd (unl ws f g))) rfl ?_);show Go (R0 [.fz (.lst (Zd ws)),.fz (.lst ((ws.map f).map .int)),.fz (.lst ((ws.map g).map .int))]) _ _;unfold R0;have e:=O3 (g:=Sx 2 (Yh (Y5 0) (Yh (Y5 1) Qf))) (t:=dB (dO Lc (dO Yg (dV 2) (dV 0)) (dO Yg (dV 3) (dV 0)))) (f:=dV 1) (env:=[.un,.un,.fz (.lst ((ws.map f).map .int)),.fz (.lst ((ws.map g).map .int))]) (fun w:Nat=>Dat.int (w:Int)) (fun w:Nat=>Dat.int (w:Int)) (fun y=>!(f y==g y)) ws 0 fun i x hx=>by
  rw [zero_add];exact ⟨[.fz (.int (i:Int)),.fz (.int (x:Int)),.fz (.lst ((ws.map f).map .int)),.fz (.lst ((ws.map g).map .int))],rfl,Yi (Z7 (Z7 rfl rfl (W0 (x:=.int (f x)) (by rw [getElem?_map,getElem?_map,hx];rfl))) (Z7 rfl rfl (W0 (x:=.int (g x)) (by rw [getElem?_map,getElem?_map,hx];rfl))) (neI _ _)),rfl⟩
 rw [← W4,← W4] at e;exact Y0 (Wy (Yv (xs:=Tq 0 (Zd ws)) (Bw rfl) rfl e)) rfl
def Ix (t:Nat×Nat×Nat):Dat:=.tup [.int (t.1:Int),.int (t.2.1:Int),.int (t.2.2:Int)]
structure ClT (G:G3) (F:List Rw) (t:Nat×Nat×Nat):Prop where
 w:t.2.2∈R1 G
 a:∃ r q,F[t.1]?=some r/\F[t.2.1]?=some q/\r.c=q.c/\Wb G r.m t.2.2≠Wb G q.m t.2.2
def Sr (G:G3) (r q:Rw):Prop:=r.c=q.c->∀ w∈R1 G,Wb G r.m w=Wb G q.m w
theorem Z6r {fs:Zzv} {a b:Nat} (h:fs env=some [.int (a:Int),.int (b:Int)]) (ha:a<=100000) (hb:b<=100000):Bl fs env=some (rng (a:Int) (b - a)):=by
 unfold Bl;rw [h];dsimp only;have e:((b:Int) - (a:Int)).toNat=b - a:=by lia
 rw [e,if_pos ⟨⟨by lia,by lia,by lia,by lia⟩,by rw [sizeLine_eq];lia⟩]
theorem Z48 {es:List Dat} (h:ds.length+es.length<=10000000):Lw ds [.lst es]=some (ds++es):=if_pos (by rw [sizeLine_eq];lia)
theorem Z5j {G:G3} {F:List Rw} (hG:Gb 64 G) (hF:F.length<=400):∃ cs:List (Nat×Nat×Nat),Uf [G.d,.lst (F.map Rw.d)]=.ok (.lst (cs.map Ix))/\(∀ t∈cs,ClT G F t)/\(cs=[]->∀ (n m:Nat) (r q:Rw),n<m->F[n]?=some r->F[m]?=some q->Sr G r q):=by
 have hw2:=hG.w2;have:=Zz (n:=7) (p:=2) (ds:=[G.d,.lst (F.map Rw.d)]) (g:=Wq) (R:=fun d=>∃ cs:List (Nat×Nat×Nat),d=.lst (cs.map Ix)/\(∀ t∈cs,ClT G F t)/\(cs=[]->∀ (n m:Nat) (r q:Rw),n<m->F[n]?=some r->F[m]?=some q->Sr G r q)) rfl ?_
 ·obtain ⟨d,e,b,rfl,h⟩:=this
  exact ⟨b,e,h⟩
 show Go (Wq [.fz G.d,.fz (.lst (F.map Rw.d)),.un,.un,.un,.un,.un]) _ _;unfold Wq;refine Z9 (Zk (Ze (xs:=[G.d]) rfl (Z8f G hG)) ?_);have hml:(R1 G).length<=G.wires.length:=by unfold R1;exact le_trans (List.length_filter_le _ _) (by rw [length_range];exact le_refl _)
 obtain ⟨ms,hms⟩:∃ ms,R1 G=ms:=⟨_,rfl⟩;rw [hms] at hml ⊢;have hc:W3 (Y5 0) Ux (Zt Jq (Z1 (dV 1) (Z1 (dS Ct (dV 0) Sc (Jv (dC (.int 2)))) (Z1 (dV 2) Zc)))) [.un,.fz G.d,.fz (.lst (Zd ms))] (F.map Rw.d)=some (F.map fun r:Rw=>.lst ((ms.map (Wb G r.m)).map .int)) :=
  Um Rw.d (fun r:Rw=>.lst ((ms.map (Wb G r.m)).map .int)) F fun r _=>⟨[.fz r.d,.fz G.d,.fz (.lst (Zd ms))],rfl,rfl,Ze (xs:=[G.d,Zq r.st,.lst (Zd ms)]) (Z2 rfl (Z2 (Hn rfl rfl (Tb rfl) (Fi r)) rfl)) (At G hG r.st ms)⟩
 refine Z9 (Zk (d:=.lst (F.map fun r:Rw=>.lst ((ms.map (Wb G r.m)).map .int))) (Wy (Yv (xs:=F.map Rw.d) rfl rfl hc)) ?_);refine Z9 (Jx (ds:=([]:List (Nat×Nat×Nat)).map Ix) rfl ?_);have hlen:∀ e:Ev,e[1]?=some (.fz (.lst (F.map Rw.d)))->dF Uh (Z1 (dV 1) Zc) e=some (.int ((F.length:Nat):Int)):=fun e he=>Wg (Z2 (x:=.lst (F.map Rw.d)) (by unfold dV;rw [he]) rfl) (Lj Rw.d F)
 refine Z9 (Vh (ds:=rng 0 F.length) (fun i e=>∃ (cs:List (Nat×Nat×Nat)) (v5 v6:Slt),e=[.fz G.d,.fz (.lst (F.map Rw.d)),.fz (.lst (Zd ms)),.fz (.lst (F.map fun r:Rw=>.lst ((ms.map (Wb G r.m)).map .int))),.ow (cs.map Ix),v5,v6]/\cs.length<=4000*i/\(∀ t∈cs,ClT G F t)/\(cs=[]->∀ (n m:Nat) (r q:Rw),n<i->n<m->F[n]?=some r->F[m]?=some q->Sr G r q)) (W9 (Z2 (hlen _ rfl) rfl) (by lia)) ⟨[],.un,.un,rfl,by simp,by simp,fun _ n m r q h=>by lia⟩ ?_ ?_)
 ·rintro n d e hn ⟨cs,v5,v6,rfl,hcl,hcs,hno⟩
  obtain ⟨hn1,rfl⟩:=Ub hn;rw [Int.zero_add];refine ⟨_,rfl,?_⟩;obtain ⟨r,hr⟩:∃ r,F[n]?=some r:=⟨_,getElem?_eq_getElem hn1⟩;refine Vh (ds:=rng ((n+1:Nat):Int) (F.length - (n+1))) (fun j e=>∃ (cs:List (Nat×Nat×Nat)) (v6:Slt),e=[.fz G.d,.fz (.lst (F.map Rw.d)),.fz (.lst (Zd ms)),.fz (.lst (F.map fun r:Rw=>.lst ((ms.map (Wb G r.m)).map .int))),.ow (cs.map Ix),.fz (.int (n:Int)),v6]/\cs.length<=4000*n+10*j/\(∀ t∈cs,ClT G F t)/\(cs=[]->∀ (k m:Nat) (r q:Rw),(k<n/\k<m)\/(k=n/\n<m/\m<n+1+j)->F[k]?=some r->F[m]?=some q->Sr G r q)) (Z6r (Z2 (Z7 rfl rfl (J7 n 1)) (Z2 (hlen _ rfl) rfl)) (by lia) (by lia)) ⟨cs,v6,rfl,by lia,hcs,fun hc k m r q h=>by
   rcases h with h | h
   ·exact hno hc k m r q h.1 h.2
   ·lia⟩ ?_ ?_
  ·rintro j d e hj ⟨cs,v6,rfl,hcl,hcs,hno⟩
   obtain ⟨hj1,rfl⟩:=Ub hj;obtain ⟨m,hm⟩:∃ m:Nat,n+1+j=m:=⟨_,rfl⟩;rw [show ((n+1:Nat):Int)+(j:Int)=(m:Int) by lia];refine ⟨_,rfl,?_⟩;obtain ⟨q,hq⟩:∃ r,F[m]?=some r:=⟨_,getElem?_eq_getElem (by lia)⟩;have hxr:Yg (.lst (F.map Rw.d)) (.int (n:Int))=some r.d:=W0 (by rw [getElem?_map,hr];rfl);have hxq:Yg (.lst (F.map Rw.d)) (.int (m:Int))=some q.d:=W0 (by rw [getElem?_map,hq];rfl);have more:∀ P:Prop,(P->Sr G r q)->(P->∀ (k m:Nat) (r q:Rw),(k<n/\k<m)\/(k=n/\n<m/\m<n+1+j)->F[k]?=some r->F[m]?=some q->Sr G r q)->P->∀ (k m:Nat) (r q:Rw),(k<n/\k<m)\/(k=n/\n<m/\m<n+1+(j+1))->F[k]?=some r->F[m]?=some q->Sr G r q:=fun P ha ho hp k m' r' q' h hr' hq'=>by
    rcases h with h | ⟨h1,h2,h3⟩
    ·exact ho hp k m' r' q' (.inl h) hr' hq'
    ·rcases lt_or_ge m' (n+1+j) with z | z
     ·exact ho hp k m' r' q' (.inr ⟨h1,h2,z⟩) hr' hq'
     ·have e1:m'=m:=by lia
      subst e1 h1;rw [hr] at hr';rw [hq] at hq';cases hr';cases hq';exact ha hp
   refine D4 (Yi (Z7 (Z7 (Z7 rfl rfl hxr) rfl rfl) (Z7 (Z7 rfl rfl hxq) rfl rfl) (eqN r.c q.c))) (fun hb=>?_) (fun hb=>Wd ⟨cs,_,rfl,by lia,hcs,more _ (fun _ h=>absurd h (by simpa using hb)) hno⟩);have hrq:r.c=q.c:=by simpa using hb
   have ey:=Z3w ms (Wb G r.m) (Wb G q.m);obtain ⟨ys,hys⟩:∃ ys,unl ms (Wb G r.m) (Wb G q.m)=ys:=⟨_,rfl⟩;have yl:ys.length<=ms.length:=by rw [← hys];exact List.length_filter_le _ _
   have yh:∀ y,y∈ys↔y∈ms/\Wb G r.m y≠Wb G q.m y:=fun y=>by rw [← hys];unfold unl;rw [mem_filter];simp
   rw [hys] at ey;have hwr:Yg (.lst (F.map fun r:Rw=>.lst ((ms.map (Wb G r.m)).map .int))) (.int (n:Int))=some (.lst ((ms.map (Wb G r.m)).map .int)):=W0 (by rw [getElem?_map,hr];rfl);have hwq:Yg (.lst (F.map fun r:Rw=>.lst ((ms.map (Wb G r.m)).map .int))) (.int (m:Int))=some (.lst ((ms.map (Wb G q.m)).map .int)):=W0 (by rw [getElem?_map,hq];rfl);have hc2:W3 (Y5 0) Ux (V7 (Z1 (dV 1) (Z1 (dV 2) (Z1 (dV 0) Zc)))) [.un,.fz (.int (n:Int)),.fz (.int (m:Int))] (Zd ys)=some (ys.map fun y=>Ix (n,m,y)):=by
    rw [W4];exact Um (fun y:Nat=>Dat.int (y:Int)) (fun y:Nat=>Ix (n,m,y)) ys fun y _=>⟨[.fz (.int (y:Int)),.fz (.int (n:Int)),.fz (.int (m:Int))],rfl,rfl,Yd rfl (by simp)⟩
   refine Mg (ds:=cs.map Ix) (as:=[.lst (ys.map fun y=>Ix (n,m,y))]) (ds':=(cs++ys.map fun y=>(n,m,y)).map Ix) rfl (Z2 (Wy (Yv (xs:=Zd ys) (Xd (Ze (xs:=[.lst (Zd ms),.lst ((ms.map (Wb G r.m)).map .int),.lst ((ms.map (Wb G q.m)).map .int)]) (Z2 rfl (Z2 (Z7 rfl rfl hwr) (Z2 (Z7 rfl rfl hwq) rfl))) ey)) rfl hc2)) rfl) (by rw [Z48 (by rw [length_map,length_map];lia),map_append,map_map];rfl) ⟨_,_,rfl,by rw [length_append,length_map];lia,fun t ht=>?_,more _ (fun hc _ w hw=>?_) fun hc=>hno (List.append_eq_nil_iff.mp hc).1⟩
   ·rcases mem_append.mp ht with ht | ht
    ·exact hcs t ht
    ·obtain ⟨y,hy,rfl⟩:=mem_map.mp ht
     obtain ⟨y2,y1⟩:=(yh y).mp hy;exact ⟨by rw [hms];exact y2,r,q,hr,hq,hrq,y1⟩
   ·have hz:ys=[]:=List.map_eq_nil_iff.mp (List.append_eq_nil_iff.mp hc).2
    refine Classical.byContradiction fun hne=>?_
    have:=(yh w).mpr ⟨by rw [← hms];exact hw,hne⟩;rw [hz] at this;cases this
  ·rintro e ⟨cs,v6,rfl,hcl,hcs,hno⟩
   rw [Vr] at hcl hno;refine ⟨cs,_,_,rfl,by lia,hcs,fun hc k m r q h1 h2 hr hq=>hno hc k m r q ?_ hr hq⟩;have:=(List.getElem?_eq_some_iff.mp hq).1;lia
 ·rintro e ⟨cs,v5,v6,rfl,hcl,hcs,hno⟩
  rw [Vr] at hno;exact Hw rfl ⟨cs,rfl,hcs,fun hc n m r q h hr hq=>hno hc n m r q (by have:=(List.getElem?_eq_some_iff.mp hr).1;lia) h hr hq⟩
theorem Ar (ps:List Nat) (hp:∀ p∈ps,p<=1000):Mc [.tup (Zd ps)]=.ok (.int (bitsN ps:Int)):=by
 refine W8 (Zz (n:=3) (p:=1) (ds:=[.tup (Zd ps)]) (g:=Uv) (R:=fun d=>d=.int (bitsN ps:Int)) rfl ?_);show Go (Uv [.fz (.tup (Zd ps)),.un,.un]) _ _;unfold Uv;refine Z9 (Zk (d:=.int 0) rfl ?_);refine Z9 (Vh (ds:=Zd ps) (fun i e=>∃ (z:Int) (v:Slt),e=[.fz (.tup (Zd ps)),.fz (.int z),v]/\z=(((ps.take i).foldl (fun a p=>a ||| 2^p) 0:Nat):Int)) rfl ⟨0,.un,rfl,rfl⟩ ?_ ?_)
 ·rintro i x e hi ⟨z,v,rfl,rfl⟩
  obtain ⟨p,hq,rfl⟩:=Ic hi;have hpp:=hp p (mem_of_getElem? hq);refine ⟨_,rfl,?_⟩;refine Zk (d:=.int ((((ps.take (i+1)).foldl (fun a p=>a ||| 2^p) 0:Nat)):Int)) (Z7 rfl (Z7 rfl rfl (Z3x p hpp)) ?_) ⟨_,_,rfl,rfl⟩;rw [orN,take_succ,hq,List.foldl_append];rfl
 ·rintro e ⟨z,v,rfl,rfl⟩
  refine Y0 rfl ?_;rw [length_map,length_map,take_of_length_le (le_refl _)];rfl
theorem Zfr (a b:List Nat) (w:Nat) (ha:T3 (My a)=true) (hb:T3 (My b)=true) (hw:w<1000):gK "one" "other" "wire" [.lst (Zd a),.lst (Zd b),.int (w:Int)]=some ([("one",.nums (My a)),("other",.nums (My b)),("wire",.int (w:Int))]:List (Str×XD)):=by
 unfold gK;dsimp only;have e:∀ l:List Nat,Qk (Zd l)=some (My l):=fun l=>E3 (My l)
 rw [e a];dsimp only [Option.bind];rw [e b];dsimp only [Option.bind];have hs:Ri (w:Int)=true:=by unfold Ri;rw [decide_eq_true (by lia),decide_eq_true (by lia)];rfl
 rw [if_pos (by rw [ha,hb,hs];rfl)]
theorem Z32 {G:G3} (e:Jn [G.d,.int (most:Int)]=.exc c fl):Vj [G.d,.int (most:Int)]=.exc c fl:=by
 show (match Ma [.fz G.d,.fz (.int (most:Int)),.un,.un,.un,.un,.un,.un,.un] with | .ret d=>Rs.ok d | .next _=>.ok .non | .exc _ c fs=>.exc c fs | _=>.no)=_;unfold Ma Zf;rw [Hb (ds:=[G.d,.int (most:Int)]) rfl e]
theorem Z7n {fs:Zzv} {d:Dat} (e:fs env=some ds) (h:F ds=.ok d):G4 F fs env=.next env:=by unfold G4;rw [e];dsimp only;rw [h]
theorem Z1d (G:G3) (hG:Gb 64 G) (p:Nat×Nat) {D:Dat} (hD:Yg D (.int 0)=some (.int (p.1:Int))) (k:Nat) (s:St3) (h:G.steps[k]?=some s):Ry [G.d,D,.int (k:Int)]=.ok (.bl (Tc s p.1)):=by
 refine W8 (Zz (n:=4) (p:=3) (ds:=[G.d,D,.int (k:Int)]) (g:=Tz) (R:=fun d=>d=.bl (Tc s p.1)) rfl ?_);show Go (Tz [.fz G.d,.fz (D),.fz (.int (k:Int)),.un]) _ _;unfold Tz;have hs:=hG.st s (mem_of_getElem? h);refine Z9 (Zk (Ze (xs:=[.tup (Zd s.takes)]) (Z2 (Z7 (Z7 (Z7 rfl rfl rfl) rfl (Dk (x:=s.d) (by rw [getElem?_map,h];rfl))) rfl rfl) rfl) (Ar s.takes fun p hp=>by have:=hs.t p hp;lia)) ?_);exact Y0 (Z7 (Z7 (Z7 rfl rfl hD) rfl (Z87 p.1 _)) rfl (eqN _ _)) rfl
theorem Fk {G:G3} (hG:Gb 64 G) (p:Nat×Nat) {D:Dat} (hD:Yg D (.int 0)=some (.int (p.1:Int))) (hlev:∀ s∈G.steps,Tc s p.1=true->p.2.testBit s.w≠s.up) (w:Nat):T5 [G.d,D,.int (w:Int)]=.ok (.int (Wb G p.1 w)):=by
 refine W8 (Zz (n:=5) (p:=3) (ds:=[G.d,D,.int (w:Int)]) (g:=Vw) (R:=fun d=>d=.int (Wb G p.1 w)) rfl ?_);show Go (Vw [.fz G.d,.fz (D),.fz (.int (w:Int)),.un,.un]) _ _;unfold Vw;have called:∀ (s:St3),s∈G.steps->s.w=w->Tc s p.1=true->Wb G p.1 w=2*(if s.up then 1 else 0) - 1:=fun s hs hw hcn=>by
  have hup:∀ r∈G.steps,r.w=w->Tc r p.1=true->r.up=s.up:=fun r hr hrw hrc=>by
   have a:=hlev r hr hrc;have b:=hlev s hs hcn;rw [hrw] at a;rw [hw] at b;revert a b;cases p.2.testBit w<;>cases r.up<;>cases s.up<;>simp
  have c1:Va G p.1 w s.up=true:=any_eq_true.mpr ⟨s,hs,by unfold P3;rw [hw,hcn];simp⟩;have c2:Va G p.1 w (!s.up)=false:=by
   cases hx:Va G p.1 w (!s.up) with
   | false=>rfl
   | true =>
    obtain ⟨r,hr,hq⟩:=any_eq_true.mp hx;unfold P3 at hq;simp only [Bool.and_eq_true,beq_iff_eq] at hq;have:=hup r hr hq.1.1 hq.2;rw [this] at hq;have:=hq.1.2;cases s.up<;>simp at this
  unfold Wb Ae;cases hu:s.up with
  | true=>rw [hu] at c1;rw [c1];rfl
  | false =>
   rw [hu] at c1 c2;have c2':Va G p.1 w true=false:=c2;rw [c1,c2'];rfl
 refine Z9 (Vh (ds:=Tq 0 (G.steps.map St3.d)) (fun i e=>∃ v3 v4:Slt,e=[.fz G.d,.fz (D),.fz (.int (w:Int)),v3,v4]/\∀ s∈G.steps.take i,¬ (s.w=w/\Tc s p.1=true)) (by unfold G1;rw [Ls (xs:=G.steps.map St3.d) (Z7 rfl rfl rfl)];rfl) ⟨_,_,rfl,by simp⟩ ?_ ?_)
 ·rintro i d e hi ⟨v3,v4,rfl,hno⟩
  obtain ⟨x,hx,rfl⟩:=Kc hi;rw [getElem?_map] at hx;obtain ⟨s,hs,rfl⟩:=map_some hx;have hsm:=mem_of_getElem? hs;refine ⟨[.fz G.d,.fz (D),.fz (.int (w:Int)),.fz (.int (i:Int)),.fz s.d],rfl,?_⟩;refine D4 (b:=s.w==w&&Tc s p.1) (Rr (Yi (Z7 (Z7 rfl rfl rfl) rfl (eqN s.w w))) fun _=>Se (Ze (xs:=[G.d,D,.int (i:Int)]) rfl (Z1d G hG p hD i s hs))) (fun hb=>?_) (fun hb=>Wd ⟨_,_,rfl,fun r hr=>?_⟩)
  ·rw [Bool.and_eq_true,beq_iff_eq] at hb
   have hu:=called s hsm hb.1 hb.2;refine Y0 (d:=.int (2*(if s.up then 1 else 0) - 1)) (Z7 (Z7 rfl (Wg (Z2 (x:=.bl s.up) (Z7 rfl rfl rfl) rfl) (Zfe s.up)) (Gw (.inl (by lia)))) rfl rfl) ?_;rw [hu]
  ·rw [take_succ,hs] at hr
   rcases mem_append.mp hr with q | q
   ·exact hno r q
   ·rw [mem_singleton.mp q]
    rintro ⟨h1,h2⟩;rw [h1,h2] at hb;simp at hb
 ·rintro e ⟨v3,v4,rfl,hno⟩
  rw [Qi,length_map,take_of_length_le (le_refl _)] at hno;refine Y0 (d:=.int 0) rfl ?_;have cz:∀ u,Va G p.1 w u=false:=fun u=>by
   cases hx:Va G p.1 w u with
   | false=>rfl
   | true =>
    obtain ⟨r,hr,hq⟩:=any_eq_true.mp hx;unfold P3 at hq;simp only [Bool.and_eq_true,beq_iff_eq] at hq;exact absurd ⟨hq.1.1,hq.2⟩ (hno r hr)
  unfold Wb Ae;rw [cz true,cz false];rfl
theorem Z3f {G:G3} (hG:Gb 64 G) (most:Nat) (hm1:1<=most) (hm2:most<=400):(∃ rows,Vj [G.d,.int (most:Int)]=.ok (.lst (rows.map Rw.d))/\Whole G most rows)\/∃ c fl,Vj [G.d,.int (most:Int)]=.exc c fl/\c∈Mm:=by
 rcases Z0p hG most hm1 hm2 with ⟨d,es,rows,rfl,W⟩ | ⟨c,fl,es,hr⟩
 ·rcases Z4d hG hm2 es W with ⟨d,e,rfl⟩ | ⟨c,fl,e,rfl⟩
  ·exact .inl ⟨rows,e,W⟩
  ·exact .inr ⟨_,fl,e,by unfold Mm;simp⟩
 ·exact .inr ⟨c,fl,Z32 es,hr⟩
def Oi (G:G3) (rows:List Rw):Prop:=∀ r∈rows,∀ q∈rows,Sr G r q
theorem Z5m {G:G3} {rows:List Rw} (h:∀ (n m:Nat) (r q:Rw),n<m->rows[n]?=some r->rows[m]?=some q->Sr G r q):Oi G rows:=fun r hr q hq=>by
 obtain ⟨n,hn⟩:=List.getElem?_of_mem hr;obtain ⟨m,hm⟩:=List.getElem?_of_mem hq;rcases Nat.lt_trichotomy n m with z | z | z
 ·exact h n m r q z hn hm
 ·subst z;rw [hn] at hm;cases hm;exact fun _ _ _=>rfl
 ·exact fun e w hw=>(h m n q r z hm hn e.symm w hw).symm
theorem Z9f {G:G3} (hG:Gb 64 G) (hm:most<=400) {rows:List Rw} (es:Vj [G.d,.int (most:Int)]=.ok (.lst (rows.map Rw.d))) (W:Whole G most rows) :
  (∃ d,V6 [G.d,.int (most:Int)]=.ok d/\Oi G rows)\/∃ c fl,V6 [G.d,.int (most:Int)]=.exc c fl/\c="Clash" /\ ¬ Oi G rows:=by
 have hF:rows.length<=400:=le_trans W.le hm;have hs2:=hG.s2;have hw2:=hG.w2;obtain ⟨cs,e,hcs,hno⟩:=Z5j hG hF;refine Lz (n:=5) (p:=2) (ds:=[G.d,.int (most:Int)]) (g:=Wt) (R:=fun d=>Oi G rows) (E:=fun c fl=>c="Clash" /\ ¬ Oi G rows) rfl ?_;show GoE (Wt [.fz G.d,.fz (.int (most:Int)),.un,.un,.un]) _ _ _ _;unfold Wt;refine V2 ⟨?_⟩;rw [Ln (d:=.lst (rows.map Rw.d)) (ds:=[G.d,.int (most:Int)]) rfl es];refine Ud (Zk (Ze (xs:=[G.d,.lst (rows.map Rw.d)]) rfl e) ?_);refine V2 (Iq (b:=decide ((0:Int)<((cs.length:Nat):Int))) (Yi (Z7 (Wg (Z2 rfl rfl) (Lj Ix cs)) rfl rfl)) (fun hb=>?_) (fun hb=>(Wd ?_:Go _ _ _).toE))
 ·have:=of_decide_eq_true hb
  cases hc:cs with
  | nil=>rw [hc] at this;simp at this
  | cons t l =>
   have ht:=hcs t (by rw [hc];exact mem_cons_self);obtain ⟨r,q,h1,h2,h3,h4⟩:=ht.a;have l1:=(List.getElem?_eq_some_iff.mp h1).1;have l2:=(List.getElem?_eq_some_iff.mp h2).1;have s1:=Dc W.t t.1 l1;have s2:=Dc W.t t.2.1 l2;have hw:=Z9k ht.w;refine Ud (Zk (d:=Ix t) (Z7 rfl rfl (W0 (j:=0) (x:=Ix t) rfl)) ?_);exact Mr (Z2 (Ze (xs:=[.lst (rows.map Rw.d),.int (t.1:Int)]) (Z2 rfl (Z2 (Z7 rfl rfl rfl) rfl)) (Xb hF W.t t.1 l1)) (Z2 (Ze (xs:=[.lst (rows.map Rw.d),.int (t.2.1:Int)]) (Z2 rfl (Z2 (Z7 rfl rfl rfl) rfl)) (Xb hF W.t t.2.1 l2)) (Z2 (Z7 rfl rfl rfl) rfl))) (Zfr _ _ t.2.2 (Ra (by lia) fun k hk=>by have:=s1.2 k hk;lia) (Ra (by lia) fun k hk=>by have:=s2.2 k hk;lia) (by lia)) ⟨rfl,fun hq=>h4 (hq r (mem_of_getElem? h1) q (mem_of_getElem? h2) h3 _ ht.w)⟩
 ·have:=of_decide_eq_false hb
  have hc:cs=[]:=List.eq_nil_of_length_eq_zero (by lia);exact (Y0 rfl (Z5m (hno hc)):Go _ _ _).toE
theorem B8 {n p:Nat} {d:Dat} (hp:ds.length=p) (h:g (Ui n ds)=.ret d):Y7 n p g ds=.ok d:=by unfold Y7;rw [if_pos hp,h]
theorem Z6d {n p:Nat} {e:Ev} (hp:ds.length=p) (h:g (Ui n ds)=.exc e c fl):Y7 n p g ds=.exc c fl:=by unfold Y7;rw [if_pos hp,h]
theorem Z5n {G:G3} (e:Vj [G.d,.int (most:Int)]=.exc c fl):V6 [G.d,.int (most:Int)]=.exc c fl:=by
 refine Z6d (n:=5) (p:=2) (g:=Wt) (ds:=[G.d,.int (most:Int)]) (e:=[.fz G.d,.fz (.int (most:Int)),.un,.un,.un]) rfl ?_;show Wt [.fz G.d,.fz (.int (most:Int)),.un,.un,.un]=_;unfold Wt;rw [Zf,Hb (ds:=[G.d,.int (most:Int)]) rfl e]
theorem Z2f {G:G3} {b:Bool} (h:Q4 [.fz G.d,.fz (.int (most:Int))]=.ret (.bl b)):Up [G.d,.int (most:Int)]=.ok (.bl b):=B8 (n:=2) (p:=2) (g:=Q4) (ds:=[G.d,.int (most:Int)]) rfl h
theorem Z61 {G:G3} {d:Dat} (e:V6 [G.d,.int (most:Int)]=.ok d):Up [G.d,.int (most:Int)]=.ok (.bl true):=Z2f (by
 unfold Q4 Zf Ky;rw [Z7n (ds:=[G.d,.int (most:Int)]) rfl e];rfl)
theorem Z2a {G:G3} (e:V6 [G.d,.int (most:Int)]=.exc c fl) (hc:c∈Mm):Up [G.d,.int (most:Int)]=.ok (.bl false):=Z2f (by
 unfold Q4 Zf Ky;rw [Z3j (ds:=[G.d,.int (most:Int)]) rfl e];dsimp only;rw [if_pos (show c∈([Str.ofString "Broken",Str.ofString "Crowded",Str.ofString "TooMany",Str.ofString "CalledOff",Str.ofString "Clash"]:List Str) from hc),if_pos rfl];rfl)
theorem Cn {g:Dat->Ev->Option Ev} {t:Ev->Option Bool} (D:α->Dat) (p:α->Bool) (E:Nat->Dat):∀ (xs:List α) (k:Nat),(∀ x∈xs,∀ n:Nat,∃ e1,g (.tup [.int (n:Int),D x]) env=some e1/\t e1=some (p x)/\f e1=some (E n))->W3 g t f env (Tq k (xs.map D))=some ((Wm p k xs).map E)
 | [],_,_=>rfl
 | x::xs,k,h=>by
  obtain ⟨e1,a1,a2,a3⟩:=h x mem_cons_self k;have ih:=Cn D p E xs (k+1) fun z hz=>h z (mem_cons_of_mem _ hz)
  rw [map_cons,Tq,W3,a1];dsimp only [Option.bind];rw [a2];dsimp only;rw [Wm];cases hp:p x with
  | true=>rw [if_pos rfl,a3];dsimp only;rw [ih,if_pos rfl];rfl
  | false=>rw [if_neg (by decide),ih,if_neg (by decide)]
theorem Ii (p:α->Bool):∀ (xs:List α) (k:Nat),Wm p k xs=((List.range xs.length).filter fun i=>match xs[i]? with | some u=>p u | none=>false).map (k+·)
 | [],k=>rfl
 | x::xs,k=>by
  rw [Wm,length_cons,List.range_succ_eq_map,List.filter_cons,List.filter_map,Ii p xs (k+1)];have e:((List.range xs.length).filter ((fun i=>match (x::xs)[i]? with | some u=>p u | none=>false) ∘ Nat.succ))=(List.range xs.length).filter fun i=>match xs[i]? with | some u=>p u | none=>false:=rfl
  rw [e];have e2:∀ l:List Nat,l.map (k+1+·)=(l.map Nat.succ).map (k+·):=fun l=>by rw [map_map];apply List.map_congr_left;intro a _;show k+1+a=k+(a+1);lia
  rw [e2];show _=List.map (k+·) (if p x=true then 0::_ else _);cases p x with
  | true=>rw [if_pos rfl,if_pos rfl];rfl
  | false=>rw [if_neg (by decide),if_neg (by decide)]
theorem Cc (G:G3):Wm (fun u:Str×Bool=>u.2) 0 G.wires=R1 G:=by
 rw [Ii];unfold R1;rw [show ((0:Nat)+·)=id from funext fun a=>zero_add a,map_id];exact List.filter_congr fun i _=>by cases G.wires[i]?<;>rfl
def U7 (G:G3) (r:Rw):List Int:=(R1 G).map (Wb G r.m)
def Tg (l:List Int):Dat:=.lst (l.map .int)
theorem Bh:∀ a b:List Int,Ot (a.map .int) (b.map .int)=decide (a=b)
 | [],[]=>by unfold Ot;rfl
 | [],_::_=>by unfold Ot;rfl
 | _::_,[]=>by unfold Ot;rfl
 | x::a,y::b=>by
  rw [map_cons,map_cons,Ot,Bh a b];have:Hk (.int x) (.int y)=decide (x=y):=by unfold Hk;rfl
  rw [this];by_cases h:x=y
  ·by_cases h2:a=b<;>simp [h,h2]
  ·simp [h]
theorem Z1r (l:List Int):pd 20 (Tg l)=true:=by
 unfold Tg pd;rw [all_eq_true];intro x hx;obtain ⟨i,_,rfl⟩:=mem_map.mp hx;rfl
theorem Lp (a b:List Int):Lc (Tg a) (Tg b)=some (.bl (!decide (a=b))):=by
 unfold Lc;rw [Z1r,Z1r];show some (Dat.bl (!Hk (Tg a) (Tg b)))=_;have:Hk (Tg a) (Tg b)=decide (a=b):=by unfold Tg Hk;exact Bh a b
 rw [this]
theorem Pq {G:G3} {r q:Rw} (e:r.c=q.c):U7 G r=U7 G q↔Sr G r q:=by
 unfold U7 Sr;rw [List.map_inj_left];exact ⟨fun h _=>h,fun h=>h e⟩
theorem Z9s (b:Bool):Hr (.str (if b then "made" else "given")) (.str "made")=some (.bl b):=by cases b<;>rfl
theorem Ou {G:G3} (hG:Gb 64 G) (hm:most<=400) {rows:List Rw} (es:Vj [G.d,.int (most:Int)]=.ok (.lst (rows.map Rw.d))) (W:Whole G most rows) :
  ∃ b:Bool,Wu [G.d,.int (most:Int)]=.ok (.bl b)/\(b=true↔Oi G rows):=by
 have hF:rows.length<=400:=le_trans W.le hm;have:=Zz (n:=6) (p:=2) (ds:=[G.d,.int (most:Int)]) (g:=Wf) (R:=fun d=>∃ b:Bool,d=.bl b/\(b=true↔Oi G rows)) rfl ?_
 ·obtain ⟨d,e,b,rfl,h⟩:=this
  exact ⟨b,e,h⟩
 show Go (Wf [.fz G.d,.fz (.int (most:Int)),.un,.un,.un,.un]) _ _;unfold Wf;refine Z9 (Zk (d:=.non) rfl ?_);refine Z9 ⟨?_⟩;unfold Ky;rw [show List.set [Slt.fz G.d,.fz (.int (most:Int)),.un,.un,.un,.un] 2 (.fz .non)=[.fz G.d,.fz (.int (most:Int)),.fz .non,.un,.un,.un] from rfl,Ln (d:=.lst (rows.map Rw.d)) (ds:=[G.d,.int (most:Int)]) rfl es];show Go _ _ _;refine Z9 (S8 (Yi (Z7 rfl rfl rfl)) (Wd ?_));refine Z9 ⟨?_⟩;show Go _ _ _;refine Z9 (Vh (ds:=rows.map Rw.d) (fun i e=>∃ (kvs:List (Int×Dat)) (v4 v5:Slt),e=[.fz G.d,.fz (.int (most:Int)),.fz (.lst (rows.map Rw.d)),.gx (.dik kvs),v4,v5]/\kvs.length<=i/\(∀ k d,Qw kvs k=some d->∃ r∈rows,(r.c:Int)=k/\d=Tg (U7 G r))/\∀ r∈rows.take i,Qw kvs (r.c:Int)=some (Tg (U7 G r))) rfl ⟨[],.un,.un,rfl,le_refl _,fun k d h=>by unfold Qw at h;simp at h,by simp⟩ ?_ ?_)
 ·rintro i d e hi ⟨kvs,v4,v5,rfl,hl,h1,h2⟩
  rw [getElem?_map] at hi;obtain ⟨r,hr,rfl⟩:=map_some hi;have hrm:=mem_of_getElem? hr;have hil:=(List.getElem?_eq_some_iff.mp hr).1;refine ⟨[.fz G.d,.fz (.int (most:Int)),.fz (.lst (rows.map Rw.d)),.gx (.dik kvs),.fz r.d,v5],rfl,?_⟩;have hlev:∀ s∈G.steps,Tc s r.st.1=true->r.st.2.testBit s.w≠s.up:=fun s hs hc=>by
   obtain ⟨k,hk⟩:=List.getElem?_of_mem hs;exact (W.ok r hrm k s hk hc).lev
  have hc:=Cn (g:=Sx 2 (Yh (Y5 0) (Yh (Y5 1) Qf))) (t:=dB (dO Hr (dO Yg (dV 1) (dC (.int 1))) (dC (.str "made")))) (f:=Zt T5 (Z1 (dV 2) (Z1 (dV 3) (Z1 (dV 0) Zc)))) (env:=[.un,.un,.fz G.d,.fz r.d]) T6 (fun u=>u.2) (fun w=>.int (Wb G r.m w)) G.wires 0 fun u _ n =>
   ⟨[.fz (.int (n:Int)),.fz (T6 u),.fz G.d,.fz r.d],rfl,Yi (Z7 (Z7 rfl rfl rfl) rfl (Z9s u.2)),Ze (xs:=[G.d,r.d,.int (n:Int)]) rfl (Fk hG r.st rfl hlev n)⟩
  rw [Cc] at hc;have hrow:(R1 G).map (fun w=>Dat.int (Wb G r.m w))=(U7 G r).map .int:=by unfold U7;rw [map_map];rfl
  rw [hrow] at hc;refine Z9 (Zk (d:=Tg (U7 G r)) (Wy (Yv (xs:=Tq 0 (G.wires.map T6)) (by unfold G1;rw [Ls (xs:=G.wires.map T6) (Z7 rfl rfl rfl)];rfl) rfl hc)) ?_);refine ⟨?_⟩;show Gd (Aj 3 (dO Yg (dV 4) (dC (.int 1))) 5 (Yk (dC (.bl false))) [.fz G.d,.fz (.int (most:Int)),.fz (.lst (rows.map Rw.d)),.gx (.dik kvs),.fz r.d,.fz (Tg (U7 G r))]) _ _;have hkl:kvs.length<sizeLine:=by rw [sizeLine_eq];lia
  have htk:rows.take (i+1)=rows.take i++[r]:=by rw [take_succ,hr];rfl
  have e0:Aj 3 (dO Yg (dV 4) (dC (.int 1))) 5 (Yk (dC (.bl false))) [.fz G.d,.fz (.int (most:Int)),.fz (.lst (rows.map Rw.d)),.gx (.dik kvs),.fz r.d,.fz (Tg (U7 G r))]=(if kvs.length<sizeLine then (match Qw kvs (r.c:Int) with
   | some d'=>(match Lc d' (Tg (U7 G r)) with | some (.bl true)=>Yk (dC (.bl false)) [.fz G.d,.fz (.int (most:Int)),.fz (.lst (rows.map Rw.d)),.gx (.dik kvs),.fz r.d,.fz (Tg (U7 G r))] | some (.bl false)=>.next [.fz G.d,.fz (.int (most:Int)),.fz (.lst (rows.map Rw.d)),.gx (.dik kvs),.fz r.d,.fz (Tg (U7 G r))] | _=>.no)
   | none=>(match Lc (Tg (U7 G r)) (Tg (U7 G r)) with | some (.bl true)=>Yk (dC (.bl false)) [.fz G.d,.fz (.int (most:Int)),.fz (.lst (rows.map Rw.d)),.gx (.dik (kvs++[((r.c:Int),Tg (U7 G r))])),.fz r.d,.fz (Tg (U7 G r))] | some (.bl false)=>.next [.fz G.d,.fz (.int (most:Int)),.fz (.lst (rows.map Rw.d)),.gx (.dik (kvs++[((r.c:Int),Tg (U7 G r))])),.fz r.d,.fz (Tg (U7 G r))] | _=>.no)) else .no):=rfl
  rw [e0,if_pos hkl];cases hk:Qw kvs (r.c:Int) with
  | some d' =>
   obtain ⟨q,hq,hqc,rfl⟩:=h1 _ _ hk;have hqc':q.c=r.c:=by lia
   dsimp only;rw [Lp];by_cases heq:U7 G q=U7 G r
   ·rw [decide_eq_true heq]
    refine ⟨kvs,_,_,rfl,by lia,h1,fun r' hr'=>?_⟩;rw [htk] at hr';rcases mem_append.mp hr' with z | z
    ·exact h2 r' z
    ·rw [mem_singleton.mp z,hk,heq]
   ·rw [decide_eq_false heq]
    exact ⟨false,rfl,Iff.intro (fun z=>by cases z) (fun z=>absurd ((Pq hqc').mpr (z q hq r hrm)) heq)⟩
  | none =>
   dsimp only;rw [Lp,decide_eq_true rfl];have look:∀ k,Qw (kvs++[((r.c:Int),Tg (U7 G r))]) k=match Qw kvs k with | some d=>some d | none=>if (r.c:Int)=k then some (Tg (U7 G r)) else none:=fun k=>by
    unfold Qw;rw [List.find?_append];cases kvs.find? (fun p=>decide (p.1=k)) with
    | some p=>rfl
    | none =>
     by_cases z:(r.c:Int)=k
     ·simp [z]
     ·simp [z]
   refine ⟨kvs++[((r.c:Int),Tg (U7 G r))],_,_,rfl,by rw [length_append];show kvs.length+1<=i+1;lia,fun k d hd=>?_,fun r' hr'=>?_⟩
   ·rw [look] at hd
    cases hz:Qw kvs k with
    | some d2=>rw [hz] at hd;exact h1 k d (hz.trans hd)
    | none =>
     rw [hz] at hd;dsimp only at hd;split at hd
     ·rename_i z;cases hd;exact ⟨r,hrm,z,rfl⟩
     ·cases hd
   ·rw [htk] at hr'
    rcases mem_append.mp hr' with z | z
    ·rw [look,h2 r' z]
    ·rw [mem_singleton.mp z,look,hk]
     dsimp only;rw [if_pos rfl]
 ·rintro e ⟨kvs,v4,v5,rfl,hl,h1,h2⟩
  rw [length_map,take_of_length_le (le_refl _)] at h2;refine Y0 (d:=.bl true) rfl ⟨true,rfl,Iff.intro (fun _ r hr q hq hc=>?_) (fun _=>rfl)⟩;have a:=h2 r hr;have b:=h2 q hq;rw [← hc] at b;rw [a] at b;have hb:=Lp (U7 G r) (U7 G q);have e1:Tg (U7 G r)=Tg (U7 G q):=Option.some.inj b;rw [← e1,Lp,decide_eq_true rfl] at hb;have:decide (U7 G r=U7 G q)=true:=by
   cases hd:decide (U7 G r=U7 G q) with
   | true=>rfl
   | false=>rw [hd] at hb;cases hb
  exact (Pq hc).mp (of_decide_eq_true this) hc
theorem Xy {G:G3} (e:Vj [G.d,.int (most:Int)]=.exc c fl) (hc:c∈Mm):Wu [G.d,.int (most:Int)]=.ok (.bl false):=by
 refine B8 (n:=6) (p:=2) (g:=Wf) (ds:=[G.d,.int (most:Int)]) rfl ?_;show Wf [.fz G.d,.fz (.int (most:Int)),.un,.un,.un,.un]=_;unfold Wf;rw [Zf,show Y3 2 (dC .non) [.fz G.d,.fz (.int (most:Int)),.un,.un,.un,.un]=.next [.fz G.d,.fz (.int (most:Int)),.fz .non,.un,.un,.un] from rfl];dsimp only;rw [Zf,Ky,Hb (ds:=[G.d,.int (most:Int)]) rfl e];dsimp only;rw [if_pos (show c∈([Str.ofString "Broken",Str.ofString "Crowded",Str.ofString "TooMany",Str.ofString "CalledOff",Str.ofString "Clash"]:List Str) from hc),if_pos rfl];rfl
theorem Zgl {G:G3} (hG:Gb 64 G) (most:Nat) (hm1:1<=most) (hm2:most<=400):∃ b:Bool,Up [G.d,.int (most:Int)]=.ok (.bl b)/\Wu [G.d,.int (most:Int)]=.ok (.bl b):=by
 rcases Z3f hG most hm1 hm2 with ⟨rows,es,W⟩ | ⟨c,fl,es,hc⟩
 ·obtain ⟨b,e,hb⟩:=Ou hG hm2 es W
  rcases Z9f hG hm2 es W with ⟨d,en,hq⟩ | ⟨c,fl,en,rfl,hq⟩
  ·exact ⟨true,Z61 en,by rw [e,hb.mpr hq]⟩
  ·refine ⟨false,Z2a en (by unfold Mm;simp),?_⟩
   rw [e];cases b with
   | true=>exact absurd (hb.mp rfl) hq
   | false=>rfl
 ·exact ⟨false,Z2a (Z5n es) hc,Xy es hc⟩
theorem X5 {B:Nat} (G:G3) (hG:Gk B L G) (w:Nat) (hw:w<G.wires.length):∃ G':G3,Vu [G.d,.int (w:Int)]=.ok G'.d/\Gk B L G'/\(∃ u∈G'.wires,u.2=true)/\∃ x,G'=⟨G.wires.set w (x,true),G.steps,G.marks,G.code⟩:=by
 obtain ⟨ws,ss,mk,code⟩:=G;have hw':w<ws.length:=hw;obtain ⟨u,hu⟩:∃ u,ws[w]?=some u:=⟨_,getElem?_eq_getElem hw'⟩;refine ⟨⟨ws.set w (u.1,true),ss,mk,code⟩,?_,?_,⟨(u.1,true),List.mem_set hw' _,rfl⟩,u.1,rfl⟩
 ·refine W8 (Zz (n:=3) (p:=2) (ds:=[(⟨ws,ss,mk,code⟩:G3).d,.int (w:Int)]) (g:=Wi) (R:=fun d=>d=_) rfl ?_)
  show Go (Wi [.fz (⟨ws,ss,mk,code⟩:G3).d,.fz (.int (w:Int)),.un]) _ _;unfold Wi;refine Z9 (Jx (ds:=ws.map T6) (Wg (Z2 (Z7 rfl rfl rfl) rfl) rfl) ?_);refine Z9 (Et (k:=w) (d:=T6 (u.1,true)) rfl (Yd (Z2 (Z7 (Z7 rfl rfl (W0 (x:=T6 u) (by rw [getElem?_map,hu];rfl))) rfl rfl) rfl) (by simp)) rfl (by rw [length_map];exact hw') ?_);refine Y0 (Z7 (Yd (Z2 (Wg (Z2 rfl rfl) rfl) rfl) (by simp)) (Hn (z:=.tup [.tup (ss.map St3.d),.int (mk:Int),.int (code:Int)]) rfl (Tb rfl) rfl rfl) (Z2o (by simp))) ?_;show _=G3.d _;unfold G3.d;rw [map_set];rfl
 ·exact { w1:=by show 1<=(ws.set w _).length;rw [length_set];exact hG.w1,w2:=by show (ws.set w _).length<=5;rw [length_set];exact hG.w2,s1:=hG.s1,s2:=hG.s2,st:=fun s hs=>by show Sk B L (ws.set w _).length s;rw [length_set];exact hG.st s hs,mks:=hG.mks,two:=fun v hv=>hG.two v (by have hv':v<(ws.set w (u.1,true)).length:=hv;rw [length_set] at hv';exact hv') }
def Nt (G:G3) (k:Nat):Bool:=G.marks.testBit k||G.steps.any fun s=>decide (k∈s.takes)||decide (k∈s.fills)
def frees (G:G3):List Nat:=(List.range 64).filter fun k=>!Nt G k
theorem Z2l {B:Nat} {G:G3} (hG:Gk B L G) (h:Nt G k=true):k<B:=by
 unfold Nt at h;rcases Bool.or_eq_true_iff.mp h with h | h
 ·rcases lt_or_ge k B with q | q
  ·exact q
  ·rw [Nat.testBit_lt_two_pow (lt_of_lt_of_le hG.mks (pow_le_pow_right (by lia) q))] at h;cases h
 ·obtain ⟨s,hs,h⟩:=any_eq_true.mp h
  rcases Bool.or_eq_true_iff.mp h with h | h
  ·exact (hG.st s hs).t k (of_decide_eq_true h)
  ·exact (hG.st s hs).f k (of_decide_eq_true h)
theorem Z31 {B:Nat} {G:G3} (hG:Gk B L G) (hB:B<=62):∃ x y rest,frees G=x::y::rest/\x<y/\y<=B+1:=by
 have m1:B∈frees G:=mem_filter.mpr ⟨mem_range.mpr (by lia),by
  cases h:Nt G B with
  | false=>rfl
  | true=>have:=Z2l hG h;lia⟩
 have m2:B+1∈frees G:=mem_filter.mpr ⟨mem_range.mpr (by lia),by
  cases h:Nt G (B+1) with
  | false=>rfl
  | true=>have:=Z2l hG h;lia⟩
 have hs:(frees G).Pairwise (· < ·):=List.Pairwise.filter _ List.pairwise_lt_range;generalize frees G=fs at m1 m2 hs;match fs,m1,m2,hs with
 | [x],m1,m2,_=>have:=mem_singleton.mp m1;have:=mem_singleton.mp m2;lia
 | x::y::rest,m1,m2,hs =>
  have h1:=pairwise_cons.mp hs;have h2:=pairwise_cons.mp h1.2;have hxy:=h1.1 y mem_cons_self;refine ⟨x,y,rest,rfl,hxy,?_⟩;rcases mem_cons.mp m2 with q | q
  ·rcases mem_cons.mp m1 with p | p
   ·lia
   ·have:=h1.1 _ p;lia
  ·rcases mem_cons.mp q with q | q
   ·lia
   ·have:=h2.1 _ q;lia
theorem Ej {B:Nat} (G:G3) (hG:Gk B L G) (hB:B<=62):Vy [G.d]=.ok (.lst (Zd (frees G))):=by
 refine W8 (Zz (n:=3) (p:=1) (ds:=[G.d]) (g:=Vz) (R:=fun d=>d=.lst (Zd (frees G))) rfl ?_);show Go (Vz [.fz G.d,.un,.un]) _ _;unfold Vz;refine Z9 (Zk (d:=.int (G.marks:Int)) (Z7 rfl rfl rfl) ?_);have hlen:dF Uh (Z1 (dO Yg (dV 0) (dC (.int 1))) Zc) [.fz G.d,.fz (.int (G.marks:Int)),.un]=some (.int ((G.steps.length:Nat):Int)):=Wg (Z2 (Z7 rfl rfl rfl) rfl) (by show some (Dat.int ((G.steps.map St3.d).length:Int))=_;rw [length_map]);refine Z9 (Vh (ds:=rng 0 G.steps.length) (fun i e=>∃ (u:Nat) (v:Slt),e=[.fz G.d,.fz (.int (u:Int)),v]/\∀ k,u.testBit k=(G.marks.testBit k||(G.steps.take i).any fun s=>decide (k∈s.takes)||decide (k∈s.fills))) (W9 (Z2 hlen rfl) (by have:=hG.s2;lia)) ⟨G.marks,.un,rfl,fun k=>by simp⟩ ?_ ?_)
 · rintro i d e hi ⟨u,v,rfl,hu⟩
   obtain ⟨hi1,rfl⟩:=Ub hi;rw [Int.zero_add];refine ⟨_,rfl,?_⟩;obtain ⟨s,hs⟩:∃ s,G.steps[i]?=some s:=⟨_,getElem?_eq_getElem hi1⟩;have hk:=hG.st s (mem_of_getElem? hs);refine Zk (Z7 (Z7 rfl (Ze (xs:=[.tup (Zd s.takes)]) (Z2 (Ze (xs:=[G.d,.int (i:Int)]) rfl (Qh G i s hs)) rfl) (Qc s.takes fun p hp=>by have:=hk.t p hp;lia)) (orN u _)) (Ze (xs:=[.tup (Zd s.fills)]) (Z2 (Ze (xs:=[G.d,.int (i:Int)]) rfl (Ia G i s hs)) rfl) (Qc s.fills fun p hp=>by have:=hk.f p hp;lia)) (orN _ _)) ⟨_,_,rfl,fun k=>?_⟩;rw [testBit_or,testBit_or,hu,T8,T8,take_succ,hs];simp [List.any_append,Bool.or_assoc]
 · rintro e ⟨u,v,rfl,hu⟩
   rw [Vr,take_of_length_le (le_refl _)] at hu;have hc:W3 (Y5 0) (Eh (dT (Zt Tl (Z1 (dV 1) (Z1 (dV 0) Zc))))) (dV 0) [.un,.fz (.int (u:Int))] (rng 0 64)=some (Zd (frees G)):=by
     rw [Ge,To (fun k:Nat=>Dat.int (k:Int)) (fun k:Nat=>Dat.int (k:Int)) (fun k=>!Nt G k) (List.range 64) fun k _=>⟨[.fz (.int (k:Int)),.fz (.int (u:Int))],rfl,N1 (Se (by rw [show Nt G k=u.testBit k from (hu k).symm];exact Ze (xs:=[.int (u:Int),.int (k:Int)]) rfl (Z0n u k))),rfl⟩,W4];rfl
   exact Y0 (Wy (Yv (xs:=rng 0 64) (W9 (Z2 rfl rfl) (by lia)) rfl hc)) rfl
theorem Pe [BEq α] [LawfulBEq α]:∀ (l b:List α),l.Nodup->(∀ x∈l,x∈b)->l.length<=b.length
 | [],b,_,_=>zero_le _
 | x::l,b,hn,hs=>by
  have hx:=nodup_cons.mp hn;have h1:=Pe l (b.erase x) hx.2 fun y hy=>(List.mem_erase_of_ne (show y≠x from fun e=>hx.1 (e▸hy))).mpr (hs y (mem_cons_of_mem _ hy))
  have h2:=List.length_erase_of_mem (hs x mem_cons_self);have h3:=List.length_pos_of_mem (hs x mem_cons_self);rw [length_cons];lia
def kept:List Str:=N25_
theorem Z95:∀ k∈List.range 26,inS ⟨#[97+k]⟩ Vk=true:=by decide +kernel
theorem Fe (z:Str) (h1:1<=z.length) (h2:z.length<=8) (h3:∀ c∈cl z,∃ k,k<26/\c=97+k) (h4:z∉kept):Uk [.str z]=.ok (.bl true):=by
 refine W8 (Zz (n:=1) (p:=1) (ds:=[.str z]) (g:=Jf) (R:=fun d=>d=.bl true) rfl ?_);show Go (Jf [.fz (.str z)]) _ _;unfold Jf;refine Z9 (S8 (D3 (a:=false) (b:=false) (Yi (Z7 rfl rfl (show ltD (.int (z.length:Int)) (.int 1)=some (.bl false) from (by show some (Dat.bl (decide ((z.length:Int)<1)))=_;rw [decide_eq_false (by lia)])))) fun _=>D3 (a:=false) (b:=false) (Yi (Z7 rfl rfl (show gtD (.int (z.length:Int)) (.int 8)=some (.bl false) from (by show some (Dat.bl (decide ((8:Int)<(z.length:Int))))=_;rw [decide_eq_false (by lia)])))) fun _=>Yi (Z7 rfl rfl (show inF (.str z) (.tup (kept.map .str))=some (.bl false) from (by rw [Za7,decide_eq_false h4])))) (Wd ?_));refine Y0 (d:=.bl true) (Wg (Z2 (Wy (ds:=((cl z).map fun c=>inS ⟨#[c]⟩ Vk).map .bl) (Yv (xs:=(cl z).map fun c=>Dat.str ⟨#[c]⟩) (env':=[.un]) rfl rfl ?_)) rfl) ?_) rfl
 ·rw [Um (fun c=>Dat.str ⟨#[c]⟩) (fun c=>.bl (inS ⟨#[c]⟩ Vk)) (cl z) fun c _=>⟨[.fz (.str ⟨#[c]⟩)],rfl,rfl,rfl⟩,map_map];rfl
 ·rw [Za4,List.all_map]
  congr 2
  refine all_eq_true.mpr fun c hc=>?_
  obtain ⟨k,hk,rfl⟩:=h3 c hc;exact Z95 k (mem_range.mpr hk)
def Su (c m k:Nat):Str:=⟨((List.range m).map fun j=>97+(c / 8+11*j+k) % 26).toArray⟩
theorem Rq (c m k:Nat):cl (Su c m k)=(List.range m).map fun j=>97+(c / 8+11*j+k) % 26:=rfl
theorem Z64 {c m:Nat} (hm:1<=m) (hj:j<26) (hk:k<26) (h:Su c m j=Su c m k):j=k:=by
 have e:=congrArg cl h;rw [Rq,Rq] at e;have e0:=congrArg (fun l=>l[0]?) e;simp only [getElem?_map,List.getElem?_range (show 0<m by lia),Option.map_some,Option.some.injEq] at e0;lia
theorem Ca (z:Str) (ws:List Str):Ep (.str z) (.lst (ws.map .str))=some (.bl (!decide (z∈ws))):=by unfold Ep;rw [Z2k];rfl
theorem Cq (c:Nat) (ws:List (Str×Bool)) (hw:ws.length<=5):∃ z:Str,Uc [.int (c:Int),.tup (ws.map T6)]=.ok (.str z)/\z∉ws.map (·.1)/\Uk [.str z]=.ok (.bl true):=by
 have:=Zz (n:=7) (p:=2) (ds:=[.int (c:Int),.tup (ws.map T6)]) (g:=Wr) (R:=fun d=>∃ z:Str,d=.str z/\z∉ws.map (·.1)/\Uk [.str z]=.ok (.bl true)) rfl ?_
 ·obtain ⟨d,e,z,rfl,h⟩:=this
  exact ⟨z,e,h⟩
 show Go (Wr [.fz (.int (c:Int)),.fz (.tup (ws.map T6)),.un,.un,.un,.un,.un]) _ _;unfold Wr;refine Z9 (Zk (d:=.str Vk) rfl ?_);have hc:W3 (Y5 0) Ux (dO Yg (dV 0) (dC (.int 0))) [.un] (ws.map T6)=some ((ws.map (·.1)).map .str):=by
  rw [Um T6 (fun w=>.str w.1) ws fun w _=>⟨[.fz (T6 w)],rfl,rfl,Z7 rfl rfl rfl⟩,map_map];rfl
 refine Z9 (Zk (Wy (Yv (xs:=ws.map T6) rfl rfl hc)) ?_);obtain ⟨m,hm,hm1,hm2⟩:∃ m:Nat,1+c % 8=m/\1<=m/\m<=8:=⟨_,rfl,by lia,by lia⟩;refine Z9 (Vh (ds:=rng 0 26) (fun i e=>∃ (v4 v5 v6:Slt),e=[.fz (.int (c:Int)),.fz (.tup (ws.map T6)),.fz (.str Vk),.fz (.lst ((ws.map (·.1)).map .str)),v4,v5,v6]/\∀ k,k<i->Su c m k∈ws.map (·.1)++kept) (W9 (Z2 rfl rfl) (by lia)) ⟨.un,.un,.un,rfl,by lia⟩ ?_ ?_)
 ·rintro i d e hi ⟨v4,v5,v6,rfl,hall⟩
  obtain ⟨hi1,rfl⟩:=Ub hi;rw [Int.zero_add];refine ⟨_,rfl,?_⟩;refine Z9 (Zk (d:=.str (Su c 0 i)) rfl ?_);refine Z9 (Vh (ds:=rng 0 m) (fun j e=>∃ (v6:Slt),e=[.fz (.int (c:Int)),.fz (.tup (ws.map T6)),.fz (.str Vk),.fz (.lst ((ws.map (·.1)).map .str)),.fz (.int (i:Int)),.fz (.str (Su c j i)),v6]) (W9 (Z2 (by rw [← hm];exact Z7 rfl (Z7 rfl rfl (Mo c 8 (by lia))) (J7 1 _)) rfl) (by lia)) ⟨v6,rfl⟩ ?_ ?_)
  ·rintro j d e hj ⟨v6,rfl⟩
   obtain ⟨hj1,rfl⟩:=Ub hj;rw [Int.zero_add];refine ⟨_,rfl,?_⟩;have hx:=Ni (j:=(((c / 8+11*j+i) % 26:Nat):Int)) (by lia) (by lia);have hz:Su c j i++(⟨#[97+(c / 8+11*j+i) % 26]⟩:Str)=Su c (j+1) i:=Ze0 (by rw [Z17,Rq,Rq,List.range_succ,map_append];rfl);have hl:(Su c j i).length=j:=by rw [← Mn,Rq,length_map,length_range]
   refine Zk (d:=.str (Su c (j+1) i)) (Z7 rfl (Z7 rfl (Z7 (Z7 (Z7 (Z7 rfl rfl (Qv c 8 (by lia) (by lia))) (Z7 rfl rfl (Z2u 11 j (by lia))) (J7 _ _)) rfl (J7 _ _)) rfl (Mo _ 26 (by lia))) hx) ?_) ⟨_,rfl⟩;rw [Int.toNat_natCast,Xw (by show _+1<=_;lia),hz]
  ·rintro e ⟨v6,rfl⟩
   rw [Vr];have hkp:=Ca (Su c m i) kept;refine D4 (Rr (Yi (Z7 rfl rfl (Ca (Su c m i) (ws.map (·.1))))) fun _=>Yi (Z7 rfl rfl hkp)) (fun hb=>?_) (fun hb=>Wd ?_)
   ·rw [Bool.and_eq_true] at hb
    have n1:Su c m i∉ws.map (·.1):=by simpa using hb.1
    have n2:Su c m i∉kept:=by simpa using hb.2
    have hl:(Su c m i).length=m:=by rw [← Mn,Rq,length_map,length_range]
    exact Y0 rfl ⟨_,rfl,n1,Fe _ (by lia) (by lia) (fun x hx=>by
     rw [Rq] at hx;obtain ⟨j,_,rfl⟩:=mem_map.mp hx;exact ⟨_,mod_lt _ (by lia),rfl⟩) n2⟩
   ·refine ⟨_,_,_,rfl,fun k hk=>?_⟩
    rcases lt_or_ge k i with h | h
    ·exact hall k h
    ·obtain rfl:k=i:=by lia
     rw [mem_append];by_cases q:Su c m k∈ws.map (·.1)
     ·exact .inl q
     ·right
      rw [decide_eq_false q] at hb;simpa using hb
 ·rintro e ⟨v4,v5,v6,rfl,hall⟩
  exfalso;rw [Vr] at hall;have h1:((List.range 26).map (Su c m)).Nodup:=by
   refine List.pairwise_map.mpr (List.Pairwise.imp_of_mem ?_ List.nodup_range);intro x y hx hy hne h;exact hne (Z64 hm1 (mem_range.mp hx) (mem_range.mp hy) h)
  have h2:=Pe _ (ws.map (·.1)++kept) h1 fun z hz=>by
   obtain ⟨k,hk,rfl⟩:=mem_map.mp hz;exact hall k (mem_range.mp hk)
  rw [length_map,length_range,length_append,length_map] at h2;have h3:kept.length=5:=rfl;lia
def Oz (G:G3) (s:St3):Bool:=match G.wires[s.w]? with
 | some u=>u.2
 | none=>false
theorem Z0u {G:G3} {s:St3} {u:Str×Bool} (h:G.wires[s.w]?=some u):Oz G s=u.2:=by unfold Oz;rw [h]
theorem Z7c (G:G3):Lg [G.d]=.ok (.lst ((G.wires.map (·.1)).map .str)):=by
 refine W8 (Zz (n:=1) (p:=1) (ds:=[G.d]) (g:=Db) (R:=fun d=>d=.lst ((G.wires.map (·.1)).map .str)) rfl ?_);show Go (Db [.fz G.d]) _ _;unfold Db;refine Y0 (Wy (Yv (xs:=G.wires.map T6) (env':=[.un,.un]) (Ls (Z7 rfl rfl rfl)) rfl (Um T6 (fun w=>.str w.1) G.wires fun w _=>⟨[.fz (.str w.1),.fz (.str (if w.2 then "made" else "given"))],rfl,rfl,rfl⟩))) ?_;rw [map_map];rfl
theorem Bb {B:Nat} (G:G3) (hG:Gk B L G) (hB:B<=62) {x y:Nat} {rest:List Nat} (hf:frees G=x::y::rest):Rz [G.d]=.ok (.bl true):=by
 refine W8 (Zz (n:=1) (p:=1) (ds:=[G.d]) (g:=Tr) (R:=fun d=>d=.bl true) rfl ?_);show Go (Tr [.fz G.d]) _ _;unfold Tr;have h1:=hG.w2;have h2:=hG.s2;refine Z9 (S8 (D3 (a:=false) (b:=false) (Yi (Z7 (Wg (Z2 (Z7 rfl rfl rfl) rfl) (Sy T6 G.wires)) rfl (by show some (Dat.bl (decide ((9:Int)<(G.wires.length:Int))))=_;rw [decide_eq_false (by lia)]))) fun _=>Yi (Z7 (Wg (Z2 (Z7 rfl rfl rfl) rfl) (Sy St3.d G.steps)) rfl (by show some (Dat.bl (decide ((22:Int)<(G.steps.length:Int))))=_;rw [decide_eq_false (by lia)]))) (Wd ?_));refine Y0 (Z7 (Wg (Z2 (Ze (xs:=[G.d]) rfl (Ej G hG hB)) rfl) (Mz _)) rfl rfl) ?_;rw [hf];show Dat.bl (decide ((2:Int)<=((rest.length+1+1:Nat):Int)))=_;rw [decide_eq_true (by lia)]
theorem X4 {B:Nat} (G:G3) (hG:Gk B L G) (hB:B<=62) {x y:Nat} {rest:List Nat} (hf:frees G=x::y::rest) (z:Str) (hz:z∉G.wires.map (·.1)) (hn:Uk [.str z]=.ok (.bl true)):M8 [G.d,.str z]=.ok .non:=by
 refine W8 (Zz (n:=2) (p:=2) (ds:=[G.d,.str z]) (g:=Uq) (R:=fun d=>d=.non) rfl ?_);show Go (Uq [.fz G.d,.fz (.str z)]) _ _;unfold Uq;exact S8 (D3 (a:=false) (b:=false) (N1 (b:=true) (Se (Ze (xs:=[.str z]) rfl hn))) fun _=>D3 (a:=false) (b:=false) (Yi (Z7 rfl (Ze (xs:=[G.d]) rfl (Z7c G)) (by rw [Z1y,decide_eq_false hz]))) fun _=>N1 (b:=true) (Se (Ze (xs:=[G.d]) rfl (Bb G hG hB hf)))) (Wd rfl)
theorem Cm (ms:List Nat) (a b:Nat) (h:a≠b) (ha:a∈ms) (hb:b∈ms):Rb [.lst (Zd ms),.int (a:Int),.int (b:Int)]=.ok .non:=by
 refine W8 (Zz (n:=3) (p:=3) (ds:=[.lst (Zd ms),.int (a:Int),.int (b:Int)]) (g:=Ts) (R:=fun d=>d=.non) rfl ?_);show Go (Ts [.fz (.lst (Zd ms)),.fz (.int (a:Int)),.fz (.int (b:Int))]) _ _;unfold Ts;exact S8 (D3 (a:=false) (b:=false) (Yi (Z7 rfl rfl (by rw [eqN];congr 2;exact beq_eq_false_iff_ne.mpr h))) fun _=>D3 (a:=false) (b:=false) (Yi (Z7 rfl rfl (by rw [Al,decide_eq_true ha];rfl))) fun _=>Yi (Z7 rfl rfl (by rw [Al,decide_eq_true hb];rfl))) (Wd rfl)
def Ao (G:G3):List Nat:=(List.range G.steps.length).filter fun k=>(G.steps[k]?.map (Oz G)).getD false
theorem Ps {G:G3} {s:St3} (h:G.steps[k]?=some s) (hm:Oz G s=true):k∈Ao G :=
 mem_filter.mpr ⟨mem_range.mpr (List.getElem?_eq_some_iff.mp h).1,by rw [h];exact hm⟩
theorem Oq {B:Nat} (G:G3) (hG:Gk B L G):J6 [G.d]=.ok (.lst (Zd (Ao G))):=by
 refine W8 (Zz (n:=1) (p:=1) (ds:=[G.d]) (g:=Vx) (R:=fun d=>d=.lst (Zd (Ao G))) rfl ?_);show Go (Vx [.fz G.d]) _ _;unfold Vx;have hc:W3 (Y5 0) (dT (Zt V4 (Z1 (dV 1) (Z1 (Zt Vd (Z1 (dV 1) (Z1 (dV 0) Zc))) Zc)))) (dV 0) [.un,.fz G.d] (rng 0 G.steps.length)=some (Zd (Ao G)):=by
  rw [Ge,To (fun k:Nat=>Dat.int (k:Int)) (fun k:Nat=>Dat.int (k:Int)) (fun k=>(G.steps[k]?.map (Oz G)).getD false) (List.range G.steps.length) fun k hk=>by
   obtain ⟨s,hs⟩:∃ s,G.steps[k]?=some s:=⟨_,getElem?_eq_getElem (mem_range.mp hk)⟩;have hw:=(hG.st s (mem_of_getElem? hs)).w;obtain ⟨u,hu⟩:∃ u,G.wires[s.w]?=some u:=⟨_,getElem?_eq_getElem hw⟩;refine ⟨[.fz (.int (k:Int)),.fz G.d],rfl,?_,rfl⟩;rw [hs];show _=some (Oz G s);rw [Z0u hu];exact Se (Ze (xs:=[G.d,.int (s.w:Int)]) (Z2 rfl (Z2 (Ze (xs:=[G.d,.int (k:Int)]) rfl (Ih G k s hs)) rfl)) (Re G s.w u hu)),W4]
  rfl
 exact Y0 (Wy (Yv (xs:=rng 0 G.steps.length) (W9 (Z2 (Wg (Z2 (Z7 rfl rfl rfl) rfl) (Sy St3.d G.steps)) rfl) (by have:=hG.s2;lia)) rfl hc)) rfl
def putG (G:G3) (z:Str) (a b x y:Nat) (sa sb:St3):G3 :=
 ⟨G.wires++[(z,true)],(G.steps.set a ⟨sa.w,sa.up,[x],sa.fills⟩).set b ⟨sb.w,sb.up,[y],sb.fills⟩++[⟨G.wires.length,true,sa.takes,[x]⟩,⟨G.wires.length,false,sb.takes,[y]⟩],G.marks,G.code⟩
theorem Nq (s:St3) (x:Nat):R7 [s.d,.int (x:Int)]=.ok (⟨s.w,s.up,[x],s.fills⟩:St3).d:=by
 refine W8 (Zz (n:=2) (p:=2) (ds:=[s.d,.int (x:Int)]) (g:=Jk) (R:=fun d=>d=(⟨s.w,s.up,[x],s.fills⟩:St3).d) rfl ?_);show Go (Jk [.fz s.d,.fz (.int (x:Int))]) _ _;unfold Jk;exact Y0 (Yd (Z2 (Z7 rfl rfl rfl) (Z2 (Z7 rfl rfl rfl) (Z2 (Yd rfl (by simp)) (Z2 (Z7 rfl rfl rfl) rfl)))) (by simp)) rfl
theorem Z4h {B:Nat} (G:G3) (hG:Gk B L G) (hB:B<=62) {x y:Nat} {rest:List Nat} (hf:frees G=x::y::rest) (z:Str) (hz:z∉G.wires.map (·.1)) (hn:Uk [.str z]=.ok (.bl true)) (a b:Nat) (sa sb:St3) (hab:a≠b) (ha:G.steps[a]?=some sa) (hb:G.steps[b]?=some sb) (ma:Oz G sa=true) (mb:Oz G sb=true) :
  T9 [G.d,.str z,.int (a:Int),.int (b:Int)]=.ok (putG G z a b x y sa sb).d:=by
 refine W8 (Zz (n:=9) (p:=4) (ds:=[G.d,.str z,.int (a:Int),.int (b:Int)]) (g:=R9) (R:=fun d=>d=(putG G z a b x y sa sb).d) rfl ?_);show Go (R9 [.fz G.d,.fz (.str z),.fz (.int (a:Int)),.fz (.int (b:Int)),.un,.un,.un,.un,.un]) _ _;unfold R9;have hal:=(List.getElem?_eq_some_iff.mp ha).1;have hbl:=(List.getElem?_eq_some_iff.mp hb).1;have h22:=hG.s2;have h5:=hG.w2;refine Z9 (Z1t (Ze (xs:=[G.d,.str z]) rfl (X4 G hG hB hf z hz hn)) ?_);refine Z9 (Z1t (Ze (xs:=[.lst (Zd (Ao G)),.int (a:Int),.int (b:Int)]) (Z2 (Ze (xs:=[G.d]) rfl (Oq G hG)) rfl) (Cm _ a b hab (Ps ha ma) (Ps hb mb))) ?_);refine Z9 (Zk (Wg (Z2 (Z7 rfl rfl rfl) rfl) (Sy T6 G.wires)) ?_);refine Z9 (Zk (d:=.lst (Zd (x::y::rest))) (by rw [← hf];exact Ze (xs:=[G.d]) rfl (Ej G hG hB)) ?_);have x0:Yg (.lst (Zd (x::y::rest))) (.int 0)=some (.int (x:Int)):=W0 (j:=0) rfl;have x1:Yg (.lst (Zd (x::y::rest))) (.int 1)=some (.int (y:Int)):=W0 (j:=1) rfl;refine Z9 (Zk (d:=(⟨G.wires.length,true,sa.takes,[x]⟩:St3).d) (Yd (Z2 rfl (Z2 rfl (Z2 (Ze (xs:=[G.d,.int (a:Int)]) rfl (Qh G a sa ha)) (Z2 (Yd (Z2 (Z7 rfl rfl x0) rfl) (by simp)) rfl)))) (by simp)) ?_);refine Z9 (Zk (d:=(⟨G.wires.length,false,sb.takes,[y]⟩:St3).d) (Yd (Z2 rfl (Z2 rfl (Z2 (Ze (xs:=[G.d,.int (b:Int)]) rfl (Qh G b sb hb)) (Z2 (Yd (Z2 (Z7 rfl rfl x1) rfl) (by simp)) rfl)))) (by simp)) ?_);refine Z9 (Jx (ds:=G.steps.map St3.d) (Wg (Z2 (Z7 rfl rfl rfl) rfl) rfl) ?_);refine Z9 (Et (k:=a) (d:=(⟨sa.w,sa.up,[x],sa.fills⟩:St3).d) rfl (Ze (xs:=[sa.d,.int (x:Int)]) (Z2 (Z7 rfl rfl (W0 (by rw [getElem?_map,ha];rfl))) (Z2 (Z7 rfl rfl x0) rfl)) (Nq sa x)) rfl (by rw [length_map];exact hal) ?_);refine Z9 (Et (k:=b) (d:=(⟨sb.w,sb.up,[y],sb.fills⟩:St3).d) rfl (Ze (xs:=[sb.d,.int (y:Int)]) (Z2 (Z7 rfl rfl (W0 (by rw [List.getElem?_set_ne hab,getElem?_map,hb];rfl))) (Z2 (Z7 rfl rfl x1) rfl)) (Nq sb y)) rfl (by rw [length_set,length_map];exact hbl) ?_);refine Y0 (Yd (Z2 (Z7 (Z7 rfl rfl rfl) (Yd (xs:=[T6 (z,true)]) (Z2 (Yd rfl (by simp)) rfl) (by simp)) (Z2o (by rw [length_map];show _+1<=_;lia))) (Z2 (Wg (Z2 (Z7 rfl (Wy (M7 rfl (by simp))) (X6 (by rw [length_set,length_set,length_map];show _+2<=_;lia))) rfl) rfl) (Z2 (Z7 rfl rfl rfl) (Z2 (Z7 rfl rfl rfl) rfl)))) (by simp)) ?_;unfold putG G3.d;simp only [map_append,map_set];rfl
def Mk (G:G3):List Nat:=(G.steps.zipIdx.filter fun p=>Oz G p.1).map (·.2)
theorem Z6u (ss:List St3):Tq 0 (ss.map St3.d)=ss.zipIdx.map fun p=>Dat.tup [.int (p.2:Int),p.1.d]:=by
 apply List.ext_getElem?;intro i;rw [Gy,getElem?_map,getElem?_map,List.getElem?_zipIdx];cases ss[i]? with
 | none=>rfl
 | some s=>simp
theorem Z6e {G:G3} (h:k∈Mk G):∃ s,G.steps[k]?=some s/\Oz G s=true:=by
 obtain ⟨⟨s,j⟩,hp,rfl⟩:=mem_map.mp h;obtain ⟨h1,h2⟩:=mem_filter.mp hp;have:=List.mem_zipIdx h1;simp only [zero_le,zero_add,Nat.sub_zero,true_and] at this;exact ⟨s,by rw [this.2];exact getElem?_eq_getElem this.1,h2⟩
theorem Z0s (G:G3):(Mk G).Nodup:=by
 have h1:(Mk G).Sublist (G.steps.zipIdx.map (·.2)):=List.filter_sublist.map _;refine List.Nodup.sublist h1 ?_;rw [List.zipIdx_map_snd];exact List.nodup_range'
theorem Z5g {B:Nat} {G:G3} (hG:Gk B L G) (hm:∃ u∈G.wires,u.2=true):2<=(Mk G).length:=by
 obtain ⟨u,hu,hu2⟩:=hm;obtain ⟨w,hw⟩:=List.getElem?_of_mem hu;have hwl:=(List.getElem?_eq_some_iff.mp hw).1;have h2:=hG.two w hwl;unfold Mk;rw [length_map,← List.countP_eq_length_filter];have e1:G.steps.zipIdx.countP (fun p=>Oz G p.1)=G.steps.countP (Oz G):=by
  have h:(G.steps.zipIdx.map Prod.fst).countP (Oz G)=G.steps.zipIdx.countP (fun p=>Oz G p.1):=by rw [List.countP_map];rfl
  rw [← h,List.zipIdx_map_fst]
 rw [e1];have e2:(G.steps.map (·.w)).count w=G.steps.countP (fun s=>s.w==w):=by
  rw [List.count,List.countP_map];rfl
 rw [e2] at h2;refine le_trans h2 (List.countP_mono_left fun s hs h=>?_);have:s.w=w:=eq_of_beq h;rw [Z0u (this▸hw),hu2]
theorem Z81 {l:List Nat} (h:l.Nodup) {a:Nat} (ha:l[i]?=some a) {b:Nat} (hb:b∈l.eraseIdx i):a≠b/\b∈l:=by
 have hl:=(List.getElem?_eq_some_iff.mp ha).1;have e:l=l.take i++a::l.drop (i+1):=by
  have h0:=(List.take_append_drop i l).symm;rw [List.drop_eq_getElem_cons hl,(List.getElem?_eq_some_iff.mp ha).2] at h0;exact h0
 rw [List.eraseIdx_eq_take_drop_succ] at hb;have hmem:b∈l:=by
  rcases mem_append.mp hb with q | q
  ·exact List.mem_of_mem_take q
  ·exact List.mem_of_mem_drop q
 refine ⟨?_,hmem⟩;rw [e] at h;obtain ⟨_,h2,h3⟩:=List.nodup_append.mp h;rcases mem_append.mp hb with q | q
 ·exact fun z=>h3 b q a mem_cons_self z.symm
 ·exact fun z=>(nodup_cons.mp h2).1 (z▸q)
theorem Zep {G:G3} (hb:Gb 54 G) (h5:G.wires.length<=5) (h22:G.steps.length<=22) {x y a b:Nat} (hx:x<64) (hy:y<64) {sa sb:St3} (ha:G.steps[a]?=some sa) (hbb:G.steps[b]?=some sb) (z:Str):Gb 64 (putG G z a b x y sa sb) where
 w2:=by show (G.wires++[(z,true)]).length<=10;rw [length_append];show _+1<=10;lia
 s1:=by show 1<=((G.steps.set a _).set b _++[_,_]).length;rw [length_append];show 1<=_+2;lia
 s2:=by show ((G.steps.set a _).set b _++[_,_]).length<=24;rw [length_append,length_set,length_set];show _+2<=24;lia
 mks:=lt_of_lt_of_le hb.mks (pow_le_pow_right (by lia) (by lia))
 st:=fun s hs=>by
  have hwl:(putG G z a b x y sa sb).wires.length=G.wires.length+1:=by show (G.wires++[(z,true)]).length=_;rw [length_append];rfl
  rw [hwl];have old:∀ s∈G.steps,SB 64 (G.wires.length+1) s:=fun s hs=>⟨Nat.lt_succ_of_lt (hb.st s hs).w,fun p hp=>by have:=(hb.st s hs).t p hp;lia,fun p hp=>by have:=(hb.st s hs).f p hp;lia⟩
  have oa:=old sa (mem_of_getElem? ha);have ob:=old sb (mem_of_getElem? hbb);have one:∀ v:Nat,v<64->∀ p∈[v],p<64:=fun v hv p hp=>by rw [mem_singleton.mp hp];exact hv
  rcases mem_append.mp (show s∈(G.steps.set a ⟨sa.w,sa.up,[x],sa.fills⟩).set b ⟨sb.w,sb.up,[y],sb.fills⟩++[⟨G.wires.length,true,sa.takes,[x]⟩,⟨G.wires.length,false,sb.takes,[y]⟩] from hs) with q | q
  ·rcases List.mem_or_eq_of_mem_set q with q | q
   ·rcases List.mem_or_eq_of_mem_set q with q | q
    ·exact old s q
    ·rw [q];exact ⟨oa.w,one x hx,oa.f⟩
   ·rw [q];exact ⟨ob.w,one y hy,ob.f⟩
  ·rcases mem_cons.mp q with q | q
   ·rw [q];exact ⟨lt_succ_self _,oa.t,one x hx⟩
   ·rw [mem_singleton.mp q];exact ⟨lt_succ_self _,ob.t,one y hy⟩
theorem Z63 {G P:G3} {a b:Nat} {bb:Bool} (h1:T9 [G.d,.str z,.int (a:Int),.int (b:Int)]=.ok P.d) (h2:Up [P.d,.int (most:Int)]=.ok (.bl bb)):Dw [G.d,.str z,.int (a:Int),.int (b:Int),.int (most:Int)]=.ok (.bl bb):=by
 refine W8 (Zz (n:=5) (p:=5) (ds:=[G.d,.str z,.int (a:Int),.int (b:Int),.int (most:Int)]) (g:=Ds) (R:=fun d=>d=.bl bb) rfl ?_);show Go (Ds [.fz G.d,.fz (.str z),.fz (.int (a:Int)),.fz (.int (b:Int)),.fz (.int (most:Int))]) _ _;unfold Ds;exact Y0 (Ze (xs:=[P.d,.int (most:Int)]) (Z2 (Ze (xs:=[G.d,.str z,.int (a:Int),.int (b:Int)]) rfl h1) rfl) h2) rfl
theorem Zix (c j:Nat) (hj:j<4):∃ m:Nat,Yg (.lst [.int 80,.int 60,.int 80,.int ((1+c % 40:Nat):Int)]) (.int (j:Int))=some (.int (m:Int))/\1<=m/\m<=400:=by
 match j,hj with
 | 0,_=>exact ⟨80,W0 (j:=0) rfl,by lia,by lia⟩
 | 1,_=>exact ⟨60,W0 (j:=1) rfl,by lia,by lia⟩
 | 2,_=>exact ⟨80,W0 (j:=2) rfl,by lia,by lia⟩
 | 3,_=>exact ⟨1+c % 40,W0 (j:=3) rfl,by lia,by lia⟩
theorem Zeg (ns:List Int) (hns:ns.length<=63):Zb7 [.lst (ns.map .int)]=.ok (.bl true):=by
 refine W8 (Zz (n:=12) (p:=1) (ds:=[Mp ns]) (g:=Pu) (R:=fun d=>d=.bl true) rfl ?_);show Go (Pu [.fz (Mp ns),.un,.un,.un,.un,.un,.un,.un,.un,.un,.un,.un]) _ _;unfold Pu;obtain ⟨c0,e0,_⟩:=G6 ns 0 (by lia);obtain ⟨c1,e1,_⟩:=G6 ns 1 (by lia);obtain ⟨c,e2,_⟩:=G6 ns 2 (by lia);obtain ⟨n,hn,hn1,hn2⟩:∃ n:Nat,1+c0 % 3=n/\1<=n/\n<=3:=⟨_,rfl,by lia,by lia⟩;have e0':∀ env:Ev,env[0]?=some (.fz (Mp ns))->Zt Y9 (Z1 (dV 0) (Z1 (dC (.int 0)) Zc)) env=some (.int (c0:Int)):=fun env h0=>Ze (xs:=[Mp ns,.int ((0:Nat):Int)]) (Z2 (by unfold dV;rw [h0]) rfl) e0
 have e1':∀ env:Ev,env[0]?=some (.fz (Mp ns))->Zt Y9 (Z1 (dV 0) (Z1 (dC (.int 1)) Zc)) env=some (.int (c1:Int)):=fun env h0=>Ze (xs:=[Mp ns,.int ((1:Nat):Int)]) (Z2 (by unfold dV;rw [h0]) rfl) e1
 have e2':∀ env:Ev,env[0]?=some (.fz (Mp ns))->Zt Y9 (Z1 (dV 0) (Z1 (dC (.int 2)) Zc)) env=some (.int (c:Int)):=fun env h0=>Ze (xs:=[Mp ns,.int ((2:Nat):Int)]) (Z2 (by unfold dV;rw [h0]) rfl) e2
 refine Z9 (Zk (d:=.int (n:Int)) (by rw [← hn];exact Z7 rfl (Z7 (e0' _ rfl) rfl (Mo c0 3 (by lia))) (J7 1 _)) ?_);refine Z9 (Zk (e2' _ rfl) ?_);obtain ⟨G0,eg,hGk,hl⟩:=Z7h ns 3 n (c1 % 4) (by lia) hn1 (by lia) (by lia);have hwi:c / 6 % n<G0.wires.length:=by rw [hl];exact mod_lt _ (by lia)
 obtain ⟨G,eg2,hG,hmd,xx,hGe⟩:=X5 G0 hGk (c / 6 % n) hwi;have hGB:Gb 54 G:=⟨by have:=hG.w2;lia,by have:=hG.s1;lia,by have:=hG.s2;lia,fun s hs=>⟨(hG.st s hs).w,(hG.st s hs).t,(hG.st s hs).f⟩,hG.mks⟩;refine Z9 (Zk (d:=G.d) (Ze (xs:=[G0.d,.int ((c / 6 % n:Nat):Int)]) (Z2 (Ze (xs:=[Mp ns,.int ((3:Nat):Int),.int (n:Int),.int ((c1 % 4:Nat):Int)]) (Z2 rfl (Z2 rfl (Z2 rfl (Z2 (Z7 (e1' _ rfl) rfl (Mo c1 4 (by lia))) rfl)))) eg) (Z2 (Z7 (Z7 rfl rfl (Qv c 6 (by lia) (by lia))) rfl (Mo _ n (by lia))) rfl)) eg2) ?_);clear hGe eg2 hwi hGk hl eg;have hsc:W3 (Sx 2 (Yh (Y5 0) (Yh (Y5 1) Qf))) (dB (dO Hr (dO Yg (dO Yg (dO Yg (dV 2) (dC (.int 0))) (dO Yg (dV 1) (dC (.int 0)))) (dC (.int 1))) (dC (.str "made")))) (dV 0) [.un,.un,.fz G.d] (Tq 0 (G.steps.map St3.d))=some (Zd (Mk G)):=by
  rw [Z6u,To (fun p:St3×Nat=>Dat.tup [.int (p.2:Int),p.1.d]) (fun p:St3×Nat=>Dat.int (p.2:Int)) (fun p=>Oz G p.1) G.steps.zipIdx fun p hp=>by
   obtain ⟨s,j⟩:=p;have hs:s∈G.steps:=by
    have:=List.mem_zipIdx hp;rw [this.2.2];exact getElem_mem _
   have hw:=(hG.st s hs).w;obtain ⟨u,hu⟩:∃ u,G.wires[s.w]?=some u:=⟨_,getElem?_eq_getElem hw⟩;refine ⟨[.fz (.int (j:Int)),.fz s.d,.fz G.d],rfl,?_,rfl⟩;show _=some (Oz G s);rw [Z0u hu];exact Yi (Z7 (Z7 (Z7 (Z7 rfl rfl rfl) (Z7 rfl rfl rfl) (Z23 hu)) rfl rfl) rfl (Z2i _))]
  unfold Mk;rw [W4,map_map];rfl
 refine Z9 (Jx (ds:=Zd (Mk G)) (Yv (xs:=Tq 0 (G.steps.map St3.d)) (Z1x (Z7 rfl rfl rfl)) rfl hsc) ?_);have hlen:=Z5g hG hmd;have hnd:=Z0s G;have hmem:∀ k∈Mk G,∃ s,G.steps[k]?=some s/\Oz G s=true:=fun k hk=>Z6e hk
 generalize Mk G=sm at hlen hnd hmem;have hi1:c / 7 % sm.length<sm.length:=mod_lt _ (by lia);generalize hii:c / 7 % sm.length=i1 at hi1;obtain ⟨a,ha⟩:∃ a,sm[i1]?=some a:=⟨_,getElem?_eq_getElem hi1⟩;refine Z9 (Z6f (ds:=Zd sm) (k:=i1) (d:=.int (a:Int)) rfl (Z2 (by rw [← hii];exact Z7 (Z7 rfl rfl (Qv c 7 (by lia) (by lia))) (Wg (Z2 rfl rfl) (Mz sm)) (Mo _ sm.length (by lia))) rfl) (by rw [W4,getElem?_map,ha];rfl) ?_);have her:(Zd sm).eraseIdx i1=Zd (sm.eraseIdx i1):=by
  rw [W4,W4,List.eraseIdx_eq_take_drop_succ,List.eraseIdx_eq_take_drop_succ,map_append,map_take,map_drop]
 rw [her];have hel:(sm.eraseIdx i1).length=sm.length - 1:=by rw [List.length_eraseIdx,if_pos hi1]
 have hi2:c / 77 % (sm.eraseIdx i1).length<(sm.eraseIdx i1).length:=mod_lt _ (by lia);generalize hjj:c / 77 % (sm.eraseIdx i1).length=i2 at hi2;obtain ⟨b,hb⟩:∃ b,(sm.eraseIdx i1)[i2]?=some b:=⟨_,getElem?_eq_getElem hi2⟩;refine Z9 (Zk (d:=.int (b:Int)) (Z7 (y:=.int (i2:Int)) rfl (by rw [← hjj];exact Z7 (Z7 rfl rfl (Qv c 77 (by lia) (by lia))) (Wg (Z2 rfl rfl) (Mz (sm.eraseIdx i1))) (Mo _ (sm.eraseIdx i1).length (by lia))) (W0 (by rw [W4,getElem?_map,hb];rfl))) ?_);obtain ⟨z,ez,hz,hnm⟩:=Cq (c / 600) G.wires hG.w2;refine Z9 (Zk (d:=.str z) (Ze (xs:=[.int ((c / 600:Nat):Int),.tup (G.wires.map T6)]) (Z2 (Z7 rfl rfl (Qv c 600 (by lia) (by lia))) (Z2 (Z7 rfl rfl rfl) rfl)) ez) ?_);obtain ⟨most,em,hm1,hm2⟩:=Zix (c / 90000) (c / 20000 % 4) (mod_lt _ (by lia));refine Z9 (Zk (d:=.int (most:Int)) (Z7 (x:=.lst [.int 80,.int 60,.int 80,.int ((1+c / 90000 % 40:Nat):Int)]) (Wy (M7 (Z2 rfl (Z2 rfl (Z2 rfl (Z2 (Z7 rfl (Z7 (Z7 rfl rfl (Qv c 90000 (by lia) (by lia))) rfl (Mo _ 40 (by lia))) (J7 1 _)) rfl)))) (by simp))) (Z7 (Z7 rfl rfl (Qv c 20000 (by lia) (by lia))) rfl (Mo _ 4 (by lia))) em) ?_);obtain ⟨hab,hbm⟩:=Z81 hnd ha (mem_of_getElem? hb);obtain ⟨sa,hsa,hma⟩:=hmem a (mem_of_getElem? ha);obtain ⟨sb,hsb,hmb⟩:=hmem b hbm;obtain ⟨x,y,rest,hf,hxy,hyB⟩:=Z31 hG (by lia);have key:∀ (p q:Nat) (sp sq:St3),p≠q->G.steps[p]?=some sp->G.steps[q]?=some sq->Oz G sp=true->Oz G sq=true->∃ (P:G3) (bb:Bool),T9 [G.d,.str z,.int (p:Int),.int (q:Int)]=.ok P.d/\Dw [G.d,.str z,.int (p:Int),.int (q:Int),.int (most:Int)]=.ok (.bl bb)/\Wu [P.d,.int (most:Int)]=.ok (.bl bb):=fun p q sp sq hpq hp hq mp mq=>by
  have e:=Z4h G hG (by lia) hf z hz hnm p q sp sq hpq hp hq mp mq;obtain ⟨bb,h1,h2⟩:=Zgl (Zep hGB hG.w2 hG.s2 (x:=x) (y:=y) (by lia) (by lia) hp hq z) most hm1 hm2;exact ⟨_,bb,e,Z63 e h1,h2⟩
 have step:∀ (p q:Nat) (sp sq:St3) (v9 v10 v11:Slt),p≠q->G.steps[p]?=some sp->G.steps[q]?=some sq->Oz G sp=true->Oz G sq=true->∃ e1,Sx 2 (Yh (Y5 9) (Yh (Y5 10) Qf)) (.tup [.int (p:Int),.int (q:Int)]) [.fz (Mp ns),.fz (.int (n:Int)),.fz (.int (c:Int)),.fz G.d,.ow (Zd (sm.eraseIdx i1)),.fz (.int (a:Int)),.fz (.int (b:Int)),.fz (.str z),.fz (.int (most:Int)),v9,v10,v11]=some e1/\Go ((Zf (Y3 11 (Zt Dw (Z1 (dV 3) (Z1 (dV 7) (Z1 (dV 9) (Z1 (dV 10) (Z1 (dV 8) Zc)))))))
   (Ec (L6 (Eh (dT (dI "bool" (dV 11)))) (dB (dO Lc (dV 11) (Zt Wu (Z1 (Zt T9 (Z1 (dV 3) (Z1 (dV 7) (Z1 (dV 9) (Z1 (dV 10) Zc))))) (Z1 (dV 8) Zc)))))) (Yk (dC (.bl false))) Qq)) e1) (fun e=>∃ v9 v10 v11:Slt,e=[.fz (Mp ns),.fz (.int (n:Int)),.fz (.int (c:Int)),.fz G.d,.ow (Zd (sm.eraseIdx i1)),.fz (.int (a:Int)),.fz (.int (b:Int)),.fz (.str z),.fz (.int (most:Int)),v9,v10,v11]) (fun d=>d=.bl true):=fun p q sp sq v9 v10 v11 hpq hp hq mp mq=>by
  obtain ⟨P,bb,h1,h2,h3⟩:=key p q sp sq hpq hp hq mp mq;refine ⟨[.fz (Mp ns),.fz (.int (n:Int)),.fz (.int (c:Int)),.fz G.d,.ow (Zd (sm.eraseIdx i1)),.fz (.int (a:Int)),.fz (.int (b:Int)),.fz (.str z),.fz (.int (most:Int)),.fz (.int (p:Int)),.fz (.int (q:Int)),v11],rfl,?_⟩;refine Z9 (Zk (d:=.bl bb) (Ze (xs:=[G.d,.str z,.int (p:Int),.int (q:Int),.int (most:Int)]) rfl h2) ?_);refine S8 (D3 (a:=false) (b:=false) (N1 (b:=true) (Se (Zfo rfl rfl Zhk))) fun _=>Yi (Z7 (y:=.bl bb) rfl (Ze (xs:=[P.d,.int (most:Int)]) (Z2 (Ze (xs:=[G.d,.str z,.int (p:Int),.int (q:Int)]) rfl h1) rfl) h3) (by cases bb<;>rfl))) (Wd ⟨_,_,_,rfl⟩)
 refine Z9 (Vh (ds:=[.tup [.int (a:Int),.int (b:Int)],.tup [.int (b:Int),.int (a:Int)],.tup [.int (a:Int),.int (b:Int)]]) (fun i e=>∃ v9 v10 v11:Slt,e=[.fz (Mp ns),.fz (.int (n:Int)),.fz (.int (c:Int)),.fz G.d,.ow (Zd (sm.eraseIdx i1)),.fz (.int (a:Int)),.fz (.int (b:Int)),.fz (.str z),.fz (.int (most:Int)),v9,v10,v11]) (Xd (Wy (M7 (Z2 (Yd rfl (by simp)) (Z2 (Yd rfl (by simp)) (Z2 (Yd rfl (by simp)) rfl))) (by simp)))) ⟨.un,.un,.un,rfl⟩ ?_ ?_)
 ·rintro i d e hi ⟨v9,v10,v11,rfl⟩
  match i,hi with
  | 0,hi=>cases hi;exact step a b sa sb v9 v10 v11 hab hsa hsb hma hmb
  | 1,hi=>cases hi;exact step b a sb sa v9 v10 v11 (Ne.symm hab) hsb hsa hmb hma
  | 2,hi=>cases hi;exact step a b sa sb v9 v10 v11 hab hsa hsb hma hmb
  | k+3,hi=>cases hi
 ·rintro e ⟨v9,v10,v11,rfl⟩
  exact Y0 rfl rfl
end K74
set_option maxHeartbeats 4000000
namespace K74
open PySem PySem.Spec PyProof.Rows L2
def DD (K:Zzy) (n:Str) (st:Stmt):Prop:=∃ f oc od kV dc pm an cd ct sl,PySem.W.nsIn K mainGlobals n=some (some (.ref f))/\K.lookup f=some ⟨oc,od,.func (fnOf n n (Wc st) (Y2 st) (Z4 st) .none kV dc pm an cd ct),sl⟩/\codeIn K cd n=true/\PySem.W.keepIn K (.ref f)=true
theorem ddI {n:Str} {st:Stmt} {f:Addr} {kV dc:Value} {sl:Array (Option Value)} (h1:PySem.W.nsIn K mainGlobals n=some (some (.ref f))) (h2:K.lookup f=some ⟨oc,od,.func (fnOf n n (Wc st) (Y2 st) (Z4 st) .none kV dc pm an cd ct),sl⟩) (h3:codeIn K cd n=true) (h4:PySem.W.keepIn K (.ref f)=true):DD K n st:=⟨f,oc,od,kV,dc,pm,an,cd,ct,sl,h1,h2,h3,h4⟩
theorem Js (X:K.In h) (G:h.Ns mainGlobals mg) {n:Str} {st:Stmt} (d:DD K n st):Def K mg n st:=by
 obtain ⟨f,oc,od,kV,dc,pm,an,cd,ct,sl,h1,h2,h3,h4⟩:=d;exact ⟨_,_,Ey (st:=st) h2 h3 h4,mg_of X G h1⟩
abbrev DA (K:Zzy) (n:Str) (f:Addr):Prop:=PySem.W.nsIn K mainGlobals n=some (some (.ref f))
abbrev DL (K:Zzy) (n:Str) (st:Stmt) (f:Addr) (oc:Value) (od:Option Addr) (kV dc pm:Value) (an:Option Addr) (cd ct:Value) (sl:Array (Option Value)):Prop:=K.lookup f=some ⟨oc,od,.func (fnOf n n (Wc st) (Y2 st) (Z4 st) .none kV dc pm an cd ct),sl⟩
theorem Po:∀ {ws:List Str},(∀ w∈ws,SOk w)->W5 K H (ws.map Dat.str) (ws.map V.str)
 | [],_=>V8
 | w::ws,h=>Vb (Ro (h w mem_cons_self)) (Po fun z hz=>h z (mem_cons_of_mem _ hz))
theorem Z5p {x:Str} {its:Array Value} {n:Nat} {sl:Array (Option Value)} (X:K.In h) (G:h.Ns mainGlobals mg) (e:PySem.W.nsIn K mainGlobals x=some (some (.ref a))) (l:K.lookup a=some ⟨.type "tuple",od,.seq its n,sl⟩) (ws:List Str) (hv:Zx (ws.map V.str) its.toList) (ok:∀ w∈ws,SOk w) (hl:ws.length<=sizeLine):Glo K mg x (.tup (ws.map .str)) :=
 ⟨.ref a,.ref a,mg_of X G e,rfl,fun H=>X8 (by rw [length_map];exact hl) (.inr ⟨_,its,n,l,rfl,rfl,by have h1:=hv.length;have h2:its.toList.length=its.size:=Array.length_toList;rw [length_map] at h1;lia,hv,fun i hi=>by obtain ⟨z,_,e⟩:=mem_map.mp hi;cases e⟩) (Po ok)⟩
theorem Zie {l:PySem.W.OpenLaw} {fa:Addr} (X:K.In h) (G:h.Ns mainGlobals mg) (hfa:mg "law" = some (.ref fa))
  {f47:Addr} {od47 an47:Option Addr} {sl47:Array (Option Value)} {oc47 kV47 dc47 pm47 cd47 ct47:Value}
  {t_LETTERS:Tok}
  {t_LONGEST_NAME:Tok}
  {t_MANY_SPOTS:Tok}
  {t_MOST_STEPS_AHEAD:Tok}
  {t_MOST_WIRES_AHEAD:Tok}
  {q_WORDS:Addr} {d_WORDS:Option Addr} {i_WORDS:Array Value} {n_WORDS:Nat} {w_WORDS:Array (Option Value)} {t_WORDS0 t_WORDS1 t_WORDS2 t_WORDS3 t_WORDS4:Tok}
  {C_0:Addr}
  {C_3:Addr}
  {C_4:Addr}
  {C_1:Addr}
  {C_2:Addr}
  {C_8:Addr}
  {J_0:Addr} {qd_0 qa_0 qo_0:Option Addr} {qs_0 qt_0:Array (Option Value)} {qk_0 qc_0 kV_0 dc_0 pm_0 cv_0 ct_0:Value} {cd_0:ClassData}
  {J_1:Addr} {qd_1 qa_1 qo_1:Option Addr} {qs_1 qt_1:Array (Option Value)} {qk_1 qc_1 kV_1 dc_1 pm_1 cv_1 ct_1:Value} {cd_1:ClassData}
  {J_2:Addr} {qd_2 qa_2 qo_2:Option Addr} {qs_2 qt_2:Array (Option Value)} {qk_2 qc_2 kV_2 dc_2 pm_2 cv_2 ct_2:Value} {cd_2:ClassData}
  {J_3:Addr} {qd_3 qa_3 qo_3:Option Addr} {qs_3 qt_3:Array (Option Value)} {qk_3 qc_3 kV_3 dc_3 pm_3 cv_3 ct_3:Value} {cd_3:ClassData}
  {J_4:Addr} {qd_4 qa_4 qo_4:Option Addr} {qs_4 qt_4:Array (Option Value)} {qk_4 qc_4 kV_4 dc_4 pm_4 cv_4 ct_4:Value} {cd_4:ClassData}
  (a0:DD K "is_name" Jh)
  (a1:DD K "names" Dg)
  (a2:DD K "is_made" Dl)
  (a3:DD K "made" K4)
  (a4:DD K "steps_of" Tw)
  (a5:DD K "wire_of" Dt)
  (a6:DD K "is_rise" Dv)
  (a7:DD K "takes_of" S0)
  (a8:DD K "fills_of" Rf)
  (a9:DD K "bits" A7)
  (a10:DD K "has_one" Da)
  (a11:DD K "can" Z2p)
  (a12:DD K "behind" Hu)
  (a13:DD K "steps_at" Tp)
  (a14:DD K "way" Z2e)
  (a15:DD K "come_to" Dn)
  (a16:DD K "stands" Hc)
  (a17:DD K "is_called" Ul)
  (a18:DD K "wants" Lq)
  (a19:DD K "robs" Fu)
  (a20:DD K "touches_made" Uy)
  (a21:DD K "rivals" Gx)
  (a22:DD K "sound" Ll)
  (a23:DD K "wants_of" Tk)
  (a24:DD K "unlike" Ms)
  (a25:DD K "clashes_among" Ys)
  (a26:DD K "need_none" M6)
  (a27:DD K "free_spots" Vq)
  (a28:DD K "has_room" S5)
  (a29:DD K "need_room" M0)
  (a30:DD K "need_two" S6)
  (a31:DD K "waiting" Dr)
  (a32:DD K "made_steps" Vs)
  (a33:DD K "put_in" Ho)
  (a34:DD K "is_calm" Do)
  (a35:DD K "parts" Lu)
  (a36:DD K "_law_mix" Rg)
  (a37:DD K "_law_word" M5)
  (a38:DD K "_law_order" J8)
  (a39:DD K "_law_arrows" Q9)
  (a40:DD K "_law_graph" Y6)
  (a41:DD K "_law_bits" Mf)
  (a42:DD K "_law_can" Ru)
  (a43:DD K "_law_wants" Qz)
  (a44:DD K "_law_with_made" U2)
  (a45:DD K "_law_new_name" Wo)
  (a46:DD K "_law_parts" Vv)
  (a47:DA K "law" f47) (l47:DL K "law" El f47 oc47 od47 kV47 dc47 pm47 an47 cd47 ct47 sl47) (c47:codeIn K cd47 "law" = true) (k47:PySem.W.keepIn K (.ref f47)=true)
  (z_all:PySem.W.nsIn K mainGlobals "all" = some none)
  (z_any:PySem.W.nsIn K mainGlobals "any" = some none)
  (z_bool:PySem.W.nsIn K mainGlobals "bool" = some none)
  (z_enumerate:PySem.W.nsIn K mainGlobals "enumerate" = some none)
  (z_int:PySem.W.nsIn K mainGlobals "int" = some none)
  (z_isinstance:PySem.W.nsIn K mainGlobals "isinstance" = some none)
  (z_len:PySem.W.nsIn K mainGlobals "len" = some none)
  (z_list:PySem.W.nsIn K mainGlobals "list" = some none)
  (z_max:PySem.W.nsIn K mainGlobals "max" = some none)
  (z_min:PySem.W.nsIn K mainGlobals "min" = some none)
  (z_range:PySem.W.nsIn K mainGlobals "range" = some none)
  (z_reversed:PySem.W.nsIn K mainGlobals "reversed" = some none)
  (z_sorted:PySem.W.nsIn K mainGlobals "sorted" = some none)
  (z_tuple:PySem.W.nsIn K mainGlobals "tuple" = some none)
  (v_LETTERS:PySem.W.nsIn K mainGlobals "LETTERS" = some (some (.str "abcdefghijklmnopqrstuvwxyz" t_LETTERS)))
  (v_LONGEST_NAME:PySem.W.nsIn K mainGlobals "LONGEST_NAME" = some (some (.int 8 t_LONGEST_NAME)))
  (v_MANY_SPOTS:PySem.W.nsIn K mainGlobals "MANY_SPOTS" = some (some (.int 64 t_MANY_SPOTS)))
  (v_MOST_STEPS_AHEAD:PySem.W.nsIn K mainGlobals "MOST_STEPS_AHEAD" = some (some (.int 22 t_MOST_STEPS_AHEAD)))
  (v_MOST_WIRES_AHEAD:PySem.W.nsIn K mainGlobals "MOST_WIRES_AHEAD" = some (some (.int 9 t_MOST_WIRES_AHEAD)))
  (v_WORDS:PySem.W.nsIn K mainGlobals "WORDS" = some (some (.ref q_WORDS))) (u_WORDS:K.lookup q_WORDS=some ⟨.type "tuple",d_WORDS,.seq i_WORDS n_WORDS,w_WORDS⟩) (r_WORDS:i_WORDS.toList=[.str "given" t_WORDS0,.str "made" t_WORDS1,.str "up" t_WORDS2,.str "down" t_WORDS3,.str "start" t_WORDS4])
  (y_0:PySem.W.nsIn K mainGlobals "Broken" = some (some (.ref C_0)))
  (y_3:PySem.W.nsIn K mainGlobals "CalledOff" = some (some (.ref C_3)))
  (y_4:PySem.W.nsIn K mainGlobals "Clash" = some (some (.ref C_4)))
  (y_1:PySem.W.nsIn K mainGlobals "Crowded" = some (some (.ref C_1)))
  (y_2:PySem.W.nsIn K mainGlobals "TooMany" = some (some (.ref C_2)))
  (y_8:PySem.W.nsIn K mainGlobals "CalmError" = some (some (.ref C_8)))
  (b0:PySem.W.specialIn K (.ref C_8) "__getattribute__" = some (some (.builtin "type.__getattribute__"))) (b1:PySem.W.readsIn K C_8 (.type "type")=true) (b2:PySem.W.findCls K (.ref C_8) (.type "type") "__init__" = some (.val (.builtin "ValueError.__init__")))
  (o_0:K.lookup C_0=some ⟨qk_0,qd_0,.cls cd_0,qs_0⟩) (n_0:PySem.W.nsIn K cd_0.ns "__init__" = some (some (.ref J_0))) (jl_0:K.lookup J_0=some ⟨qc_0,qo_0,.func (fnOf "__init__" "Broken.__init__" (Wc i_0) (Y2 i_0) (Z4 i_0) .none kV_0 dc_0 pm_0 qa_0 cv_0 ct_0),qt_0⟩) (w_0:codeIn K cv_0 "Broken.__init__" = true) (p_0:PySem.W.keepIn K (.ref J_0)=true) (g_0:PySem.W.isFn K (.ref J_0)=true) (h_0:PySem.W.keepIn K (.ref C_0)=true)
  (x_0:Td K C_0 J_0 C_8=true)
  (ra_0:PySem.W.findIn K (.ref C_0) "__class__" = some (some (.builtin "object.__class__"))) (rb_0:PySem.W.findIn K (.ref C_0) "__getattribute__" = some (some (.builtin "BaseException.__getattribute__"))) (rc_0:PySem.W.findIn K (.ref C_0) "__getattr__" = some none) (rd_0:PySem.W.findIn K (.ref C_0) "__setattr__" = some (some (.builtin "object.__setattr__"))) (re_0_way:PySem.W.findIn K (.ref C_0) "way" = some none)
  (s_0:PySem.W.exmOne K (.ref C_0) (.ref C_8)=some true)
  (e_0_0:PySem.W.exmOne K (.ref C_0) (.ref C_0)=some true)
  (e_0_1:PySem.W.exmOne K (.ref C_0) (.ref C_1)=some false)
  (o_1:K.lookup C_1=some ⟨qk_1,qd_1,.cls cd_1,qs_1⟩) (n_1:PySem.W.nsIn K cd_1.ns "__init__" = some (some (.ref J_1))) (jl_1:K.lookup J_1=some ⟨qc_1,qo_1,.func (fnOf "__init__" "Crowded.__init__" (Wc i_1) (Y2 i_1) (Z4 i_1) .none kV_1 dc_1 pm_1 qa_1 cv_1 ct_1),qt_1⟩) (w_1:codeIn K cv_1 "Crowded.__init__" = true) (p_1:PySem.W.keepIn K (.ref J_1)=true) (g_1:PySem.W.isFn K (.ref J_1)=true) (h_1:PySem.W.keepIn K (.ref C_1)=true)
  (x_1:Td K C_1 J_1 C_8=true)
  (ra_1:PySem.W.findIn K (.ref C_1) "__class__" = some (some (.builtin "object.__class__"))) (rb_1:PySem.W.findIn K (.ref C_1) "__getattribute__" = some (some (.builtin "BaseException.__getattribute__"))) (rc_1:PySem.W.findIn K (.ref C_1) "__getattr__" = some none) (rd_1:PySem.W.findIn K (.ref C_1) "__setattr__" = some (some (.builtin "object.__setattr__"))) (re_1_way:PySem.W.findIn K (.ref C_1) "way" = some none)
  (s_1:PySem.W.exmOne K (.ref C_1) (.ref C_8)=some true)
  (e_1_0:PySem.W.exmOne K (.ref C_1) (.ref C_0)=some false)
  (e_1_1:PySem.W.exmOne K (.ref C_1) (.ref C_1)=some true)
  (o_2:K.lookup C_2=some ⟨qk_2,qd_2,.cls cd_2,qs_2⟩) (n_2:PySem.W.nsIn K cd_2.ns "__init__" = some (some (.ref J_2))) (jl_2:K.lookup J_2=some ⟨qc_2,qo_2,.func (fnOf "__init__" "TooMany.__init__" (Wc i_2) (Y2 i_2) (Z4 i_2) .none kV_2 dc_2 pm_2 qa_2 cv_2 ct_2),qt_2⟩) (w_2:codeIn K cv_2 "TooMany.__init__" = true) (p_2:PySem.W.keepIn K (.ref J_2)=true) (g_2:PySem.W.isFn K (.ref J_2)=true) (h_2:PySem.W.keepIn K (.ref C_2)=true)
  (x_2:Td K C_2 J_2 C_8=true)
  (ra_2:PySem.W.findIn K (.ref C_2) "__class__" = some (some (.builtin "object.__class__"))) (rb_2:PySem.W.findIn K (.ref C_2) "__getattribute__" = some (some (.builtin "BaseException.__getattribute__"))) (rc_2:PySem.W.findIn K (.ref C_2) "__getattr__" = some none) (rd_2:PySem.W.findIn K (.ref C_2) "__setattr__" = some (some (.builtin "object.__setattr__"))) 
  (s_2:PySem.W.exmOne K (.ref C_2) (.ref C_8)=some true)
  (e_2_0:PySem.W.exmOne K (.ref C_2) (.ref C_0)=some false)
  (e_2_1:PySem.W.exmOne K (.ref C_2) (.ref C_1)=some false)
  (o_3:K.lookup C_3=some ⟨qk_3,qd_3,.cls cd_3,qs_3⟩) (n_3:PySem.W.nsIn K cd_3.ns "__init__" = some (some (.ref J_3))) (jl_3:K.lookup J_3=some ⟨qc_3,qo_3,.func (fnOf "__init__" "CalledOff.__init__" (Wc i_3) (Y2 i_3) (Z4 i_3) .none kV_3 dc_3 pm_3 qa_3 cv_3 ct_3),qt_3⟩) (w_3:codeIn K cv_3 "CalledOff.__init__" = true) (p_3:PySem.W.keepIn K (.ref J_3)=true) (g_3:PySem.W.isFn K (.ref J_3)=true) (h_3:PySem.W.keepIn K (.ref C_3)=true)
  (x_3:Td K C_3 J_3 C_8=true)
  (ra_3:PySem.W.findIn K (.ref C_3) "__class__" = some (some (.builtin "object.__class__"))) (rb_3:PySem.W.findIn K (.ref C_3) "__getattribute__" = some (some (.builtin "BaseException.__getattribute__"))) (rc_3:PySem.W.findIn K (.ref C_3) "__getattr__" = some none) (rd_3:PySem.W.findIn K (.ref C_3) "__setattr__" = some (some (.builtin "object.__setattr__"))) (re_3_by:PySem.W.findIn K (.ref C_3) "by" = some none) (re_3_lost:PySem.W.findIn K (.ref C_3) "lost" = some none) (re_3_way:PySem.W.findIn K (.ref C_3) "way" = some none)
  (s_3:PySem.W.exmOne K (.ref C_3) (.ref C_8)=some true)
  (e_3_0:PySem.W.exmOne K (.ref C_3) (.ref C_0)=some false)
  (e_3_1:PySem.W.exmOne K (.ref C_3) (.ref C_1)=some false)
  (o_4:K.lookup C_4=some ⟨qk_4,qd_4,.cls cd_4,qs_4⟩) (n_4:PySem.W.nsIn K cd_4.ns "__init__" = some (some (.ref J_4))) (jl_4:K.lookup J_4=some ⟨qc_4,qo_4,.func (fnOf "__init__" "Clash.__init__" (Wc i_4) (Y2 i_4) (Z4 i_4) .none kV_4 dc_4 pm_4 qa_4 cv_4 ct_4),qt_4⟩) (w_4:codeIn K cv_4 "Clash.__init__" = true) (p_4:PySem.W.keepIn K (.ref J_4)=true) (g_4:PySem.W.isFn K (.ref J_4)=true) (h_4:PySem.W.keepIn K (.ref C_4)=true)
  (x_4:Td K C_4 J_4 C_8=true)
  (ra_4:PySem.W.findIn K (.ref C_4) "__class__" = some (some (.builtin "object.__class__"))) (rb_4:PySem.W.findIn K (.ref C_4) "__getattribute__" = some (some (.builtin "BaseException.__getattribute__"))) (rc_4:PySem.W.findIn K (.ref C_4) "__getattr__" = some none) (rd_4:PySem.W.findIn K (.ref C_4) "__setattr__" = some (some (.builtin "object.__setattr__"))) (re_4_one:PySem.W.findIn K (.ref C_4) "one" = some none) (re_4_other:PySem.W.findIn K (.ref C_4) "other" = some none) (re_4_wire:PySem.W.findIn K (.ref C_4) "wire" = some none)
  (s_4:PySem.W.exmOne K (.ref C_4) (.ref C_8)=some true)
  (e_4_0:PySem.W.exmOne K (.ref C_4) (.ref C_0)=some false)
  (e_4_1:PySem.W.exmOne K (.ref C_4) (.ref C_1)=some false) :
  ∃ fd:FuncData,(∀ (s:Shared) (v:Value),BindsTo s fd ⟨[v],[]⟩ [("_law_script",v)])/\∀ base:Heap,K.In base->base.Ns mainGlobals mg->FnOk l.prog w K mg base E4 10 fa fd N59_ (Bd K):=by
 have e:=hfa.symm.trans (mg_of X G a47);cases e;have xc_0:XCls K C_0:=I0 x_0 ra_0 rb_0 rc_0 rd_0;have xc_1:XCls K C_1:=I0 x_1 ra_1 rb_1 rc_1 rd_1;have xc_2:XCls K C_2:=I0 x_2 ra_2 rb_2 rc_2 rd_2;have xc_3:XCls K C_3:=I0 x_3 ra_3 rb_3 rc_3 rd_3;have xc_4:XCls K C_4:=I0 x_4 ra_4 rb_4 rc_4 rd_4;have B:BaseC K mg C_8:=⟨mg_of X G y_8,b0,b1,b2⟩;have T:Txt K mg:={ b_all:=mg_none_of X G z_all,b_any:=mg_none_of X G z_any,b_bool:=mg_none_of X G z_bool,b_enumerate:=mg_none_of X G z_enumerate,b_int:=mg_none_of X G z_int,b_isinstance:=mg_none_of X G z_isinstance,b_len:=mg_none_of X G z_len,b_list:=mg_none_of X G z_list,b_max:=mg_none_of X G z_max,b_min:=mg_none_of X G z_min,b_range:=mg_none_of X G z_range,b_reversed:=mg_none_of X G z_reversed,b_sorted:=mg_none_of X G z_sorted,b_tuple:=mg_none_of X G z_tuple,c_LETTERS:=⟨.str "abcdefghijklmnopqrstuvwxyz",_,mg_of X G v_LETTERS,⟨_,rfl⟩,fun H=>Ro (SOk.of (by decide +kernel) (by decide +kernel))⟩,c_LONGEST_NAME:=⟨.int 8,_,mg_of X G v_LONGEST_NAME,⟨_,rfl⟩,fun H=>Yq⟩,c_MANY_SPOTS:=⟨.int 64,_,mg_of X G v_MANY_SPOTS,⟨_,rfl⟩,fun H=>Yq⟩,c_MOST_STEPS_AHEAD:=⟨.int 22,_,mg_of X G v_MOST_STEPS_AHEAD,⟨_,rfl⟩,fun H=>Yq⟩,c_MOST_WIRES_AHEAD:=⟨.int 9,_,mg_of X G v_MOST_WIRES_AHEAD,⟨_,rfl⟩,fun H=>Yq⟩,c_WORDS:=Z5p X G v_WORDS u_WORDS N25_ (by rw [r_WORDS];exact (.cons ⟨_,rfl⟩ (.cons ⟨_,rfl⟩ (.cons ⟨_,rfl⟩ (.cons ⟨_,rfl⟩ (.cons ⟨_,rfl⟩ .nil)))))) (by decide +kernel) (by decide +kernel),q_0:=Z2t (mg_of X G y_0) (forall_mem_cons.mpr ⟨⟨C_0,y_0,e_0_0.trans (by decide +kernel)⟩,(forall_mem_cons.mpr ⟨⟨C_1,y_1,e_1_0.trans (by decide +kernel)⟩,(forall_mem_cons.mpr ⟨⟨C_2,y_2,e_2_0.trans (by decide +kernel)⟩,(forall_mem_cons.mpr ⟨⟨C_3,y_3,e_3_0.trans (by decide +kernel)⟩,(forall_mem_cons.mpr ⟨⟨C_4,y_4,e_4_0.trans (by decide +kernel)⟩,(fun _ h=>nomatch h)⟩)⟩)⟩)⟩)⟩),q_1:=Z2t (mg_of X G y_1) (forall_mem_cons.mpr ⟨⟨C_0,y_0,e_0_1.trans (by decide +kernel)⟩,(forall_mem_cons.mpr ⟨⟨C_1,y_1,e_1_1.trans (by decide +kernel)⟩,(forall_mem_cons.mpr ⟨⟨C_2,y_2,e_2_1.trans (by decide +kernel)⟩,(forall_mem_cons.mpr ⟨⟨C_3,y_3,e_3_1.trans (by decide +kernel)⟩,(forall_mem_cons.mpr ⟨⟨C_4,y_4,e_4_1.trans (by decide +kernel)⟩,(fun _ h=>nomatch h)⟩)⟩)⟩)⟩)⟩),u_8:=Z8k (mg_of X G y_8) (forall_mem_cons.mpr ⟨⟨C_0,y_0,s_0⟩,(forall_mem_cons.mpr ⟨⟨C_1,y_1,s_1⟩,(forall_mem_cons.mpr ⟨⟨C_2,y_2,s_2⟩,(forall_mem_cons.mpr ⟨⟨C_3,y_3,s_3⟩,(forall_mem_cons.mpr ⟨⟨C_4,y_4,s_4⟩,(fun _ h=>nomatch h)⟩)⟩)⟩)⟩)⟩) };have D_is_name:=Js X G a0;have D_names:=Js X G a1;have D_is_made:=Js X G a2;have D_made:=Js X G a3;have D_steps_of:=Js X G a4;have D_wire_of:=Js X G a5;have D_is_rise:=Js X G a6;have D_takes_of:=Js X G a7;have D_fills_of:=Js X G a8;have D_bits:=Js X G a9;have D_has_one:=Js X G a10;have D_can:=Js X G a11;have D_behind:=Js X G a12;have D_steps_at:=Js X G a13;have D_way:=Js X G a14;have D_come_to:=Js X G a15;have D_stands:=Js X G a16;have D_is_called:=Js X G a17;have D_wants:=Js X G a18;have D_robs:=Js X G a19;have D_touches_made:=Js X G a20;have D_rivals:=Js X G a21;have D_sound:=Js X G a22;have D_wants_of:=Js X G a23;have D_unlike:=Js X G a24;have D_clashes_among:=Js X G a25;have D_need_none:=Js X G a26;have D_free_spots:=Js X G a27;have D_has_room:=Js X G a28;have D_need_room:=Js X G a29;have D_need_two:=Js X G a30;have D_waiting:=Js X G a31;have D_made_steps:=Js X G a32;have D_put_in:=Js X G a33;have D_is_calm:=Js X G a34;have D_parts:=Js X G a35;have D__law_mix:=Js X G a36;have D__law_word:=Js X G a37;have D__law_order:=Js X G a38;have D__law_arrows:=Js X G a39;have D__law_graph:=Js X G a40;have D__law_bits:=Js X G a41;have D__law_can:=Js X G a42;have D__law_wants:=Js X G a43;have D__law_with_made:=Js X G a44;have D__law_new_name:=Js X G a45;have D__law_parts:=Js X G a46;have F47:=Ey (st:=El) l47 c47 k47;refine ⟨fnOf "law" "law" (Wc El) (Y2 El) (Z4 El) .none kV47 dc47 pm47 an47 cd47 ct47,fun s v=>.of_eq rfl,fun base _ _=>?_⟩;have M_0:=m_0 (P:=l.prog) (w:=w) (base:=base) B (Ey (st:=i_0) jl_0 w_0 p_0) y_0 (mg_of X G y_0) h_0 x_0 xc_0 re_0_way g_0 (mg_none_of X G z_list);have M_1:=m_1 (P:=l.prog) (w:=w) (base:=base) B (Ey (st:=i_1) jl_1 w_1 p_1) y_1 (mg_of X G y_1) h_1 x_1 xc_1 re_1_way g_1 (mg_none_of X G z_list);have M_2:=m_2 (P:=l.prog) (w:=w) (base:=base) B (Ey (st:=i_2) jl_2 w_2 p_2) y_2 (mg_of X G y_2) h_2 x_2 xc_2  g_2 (mg_none_of X G z_list);have M_3:=m_3 (P:=l.prog) (w:=w) (base:=base) B (Ey (st:=i_3) jl_3 w_3 p_3) y_3 (mg_of X G y_3) h_3 x_3 xc_3 re_3_way re_3_lost re_3_by g_3 (mg_none_of X G z_list);have M_4:=m_4 (P:=l.prog) (w:=w) (base:=base) B (Ey (st:=i_4) jl_4 w_4 p_4) y_4 (mg_of X G y_4) h_4 x_4 xc_4 re_4_one re_4_other re_4_wire g_4 (mg_none_of X G z_list);have C_is_name:=Z3z (P:=l.prog) (w:=w) (base:=base) D_is_name T;have C_names:=Z8p (P:=l.prog) (w:=w) (base:=base) D_names T;have C_is_made:=Z4t (P:=l.prog) (w:=w) (base:=base) D_is_made T;have C_made:=Zcl (P:=l.prog) (w:=w) (base:=base) D_made T C_is_made;have C_steps_of:=Z0e (P:=l.prog) (w:=w) (base:=base) D_steps_of T;have C_wire_of:=Z3v (P:=l.prog) (w:=w) (base:=base) D_wire_of T;have C_is_rise:=Z4z (P:=l.prog) (w:=w) (base:=base) D_is_rise T;have C_takes_of:=Z10 (P:=l.prog) (w:=w) (base:=base) D_takes_of T;have C_fills_of:=Cy (P:=l.prog) (w:=w) (base:=base) D_fills_of T;have C_bits:=Zd7 (P:=l.prog) (w:=w) (base:=base) D_bits T;have C_has_one:=Z4u (P:=l.prog) (w:=w) (base:=base) D_has_one T;have C_can:=Zgo (P:=l.prog) (w:=w) (base:=base) D_can T C_bits C_takes_of;have C_behind:=Z71 (P:=l.prog) (w:=w) (base:=base) D_behind T M_0.x M_1.x C_wire_of C_bits C_has_one C_is_rise C_fills_of C_takes_of;have C_steps_at:=Z0a (P:=l.prog) (w:=w) (base:=base) D_steps_at T C_can;have C_way:=Zga (P:=l.prog) (w:=w) (base:=base) D_way T;have C_come_to:=Z4s (P:=l.prog) (w:=w) (base:=base) D_come_to T M_0 M_1 C_behind C_way;have C_stands:=Z79 (P:=l.prog) (w:=w) (base:=base) D_stands T M_2 C_steps_at C_come_to;have C_is_called:=Ch (P:=l.prog) (w:=w) (base:=base) D_is_called T C_can C_steps_of;have C_wants:=Z9o (P:=l.prog) (w:=w) (base:=base) D_wants T C_is_called;have C_robs:=Zcw (P:=l.prog) (w:=w) (base:=base) D_robs T C_bits C_takes_of C_fills_of;have C_touches_made:=Nu (P:=l.prog) (w:=w) (base:=base) D_touches_made T C_is_made C_wire_of;have C_rivals:=Z7k (P:=l.prog) (w:=w) (base:=base) D_rivals T C_touches_made C_robs;have C_sound:=Zaq (P:=l.prog) (w:=w) (base:=base) D_sound T M_3 C_stands C_rivals C_steps_at C_way.d;have C_wants_of:=Z15 (P:=l.prog) (w:=w) (base:=base) D_wants_of T C_wants;have C_unlike:=Z76 (P:=l.prog) (w:=w) (base:=base) D_unlike T;have C_clashes_among:=L7 (P:=l.prog) (w:=w) (base:=base) D_clashes_among T C_made C_wants_of C_unlike;have C_need_none:=Au (P:=l.prog) (w:=w) (base:=base) D_need_none T M_4 C_sound C_clashes_among C_way.d;have C_free_spots:=Xm (P:=l.prog) (w:=w) (base:=base) D_free_spots T C_bits C_fills_of C_has_one C_takes_of;have C_has_room:=Z0r (P:=l.prog) (w:=w) (base:=base) D_has_room T C_free_spots;have C_need_room:=Cg (P:=l.prog) (w:=w) (base:=base) D_need_room T C_is_name C_names C_has_room;have C_need_two:=Z0g (P:=l.prog) (w:=w) (base:=base) D_need_two T;have C_waiting:=Z36 (P:=l.prog) (w:=w) (base:=base) D_waiting T;have C_made_steps:=Fo (P:=l.prog) (w:=w) (base:=base) D_made_steps T C_is_made C_wire_of;have C_put_in:=Z6t (P:=l.prog) (w:=w) (base:=base) D_put_in T C_need_room C_need_two C_free_spots C_waiting C_made_steps C_takes_of;have C_is_calm:=Z34 (P:=l.prog) (w:=w) (base:=base) D_is_calm T C_need_none;have C_parts:=Z8m (P:=l.prog) (w:=w) (base:=base) D_parts T C_is_calm C_put_in;have C__law_mix:=Z0f (P:=l.prog) (w:=w) (base:=base) D__law_mix T;have C__law_word:=Bi (P:=l.prog) (w:=w) (base:=base) D__law_word T;have C__law_order:=Xg (P:=l.prog) (w:=w) (base:=base) D__law_order T C__law_mix;have C__law_arrows:=P4 (P:=l.prog) (w:=w) (base:=base) D__law_arrows T C__law_mix;have C__law_graph:=Xz (P:=l.prog) (w:=w) (base:=base) D__law_graph T C__law_order C__law_mix C__law_arrows C__law_word;have C__law_bits:=Cr (P:=l.prog) (w:=w) (base:=base) D__law_bits T;have C__law_can:=Z1c (P:=l.prog) (w:=w) (base:=base) D__law_can T C__law_bits;have C__law_wants:=Fz (P:=l.prog) (w:=w) (base:=base) D__law_wants T C__law_can;have C__law_with_made:=Iv (P:=l.prog) (w:=w) (base:=base) D__law_with_made T;have C__law_new_name:=L4 (P:=l.prog) (w:=w) (base:=base) D__law_new_name T;have C__law_parts:=Xr (P:=l.prog) (w:=w) (base:=base) D__law_parts T C_sound C__law_wants;exact Zg1 F47 T C__law_mix C__law_with_made C__law_new_name C__law_graph C_parts C__law_parts C_put_in Zeg
theorem Zk1 {l:PySem.W.OpenLaw} {q:Program} {loose:List Str} {XP:(Str->Option Value)->Heap->Prop} {YP:World->Heap->Prop} {d:DefRec} {K:Params->Zzy} (hn:l.most=some 63) (hdf:d.params.defaults=[])
  (hY:∀ (w:World) (h:Heap),YP w h->(K w.params).In h)
  (F:∀ (w:World) (mg:Zzw) (fa:Addr) (h:Heap),(K w.params).In h->h.Ns mainGlobals mg->mg d.name=some (.ref fa) ->
   ∃ fd:FuncData,(∀ (s:Shared) (u:Value),BindsTo s fd ⟨[u],[]⟩ [("_law_script",u)])/\∀ base:Heap,(K w.params).In base->base.Ns mainGlobals mg->FnOk l.prog w (K w.params) mg base E4 10 fa fd N59_ (Bd (K w.params))) :
  PySem.W.WalkO q loose XP YP l.row.toRowW d [] (fun f vs=>PySem.call f vs) :=
 L2.Zh5 (n:=63) (k:=10) (x:="_law_script") (CX:=fun _=>E4) (sp:=fun w=>Bd (K w.params)) hn (by decide) hdf ⟨rfl,by decide,by decide,rfl⟩ hY F (fun _ _ a ns hl _ hS=>⟨a,ns,rfl,hS,hl,fun _=>rfl⟩) fun _ _ _ _ _ z=>z
end K74
open PySem PySem.W PyProof.Rows
set_option maxRecDepth 100000 in
set_option maxHeartbeats 0 in
theorem PySem.Challenge.cw_calmwires_k74_whether_a_wire_parts_holds : PySem.Challenge.rw_calmwires_k74_whether_a_wire_parts.Holds := by
 refine theTop ?_
 k_fill;refine K74.Zk1 (l:=PySem.Challenge.rw_calmwires_k74_whether_a_wire_parts) rfl rfl (fun w h Y=>PySem.W.kIn_of Y) ?F
 case F =>
   intro w mg fa h KX G hmg;refine' K74.Zie KX G hmg ?a0 ?a1 ?a2 ?a3 ?a4 ?a5 ?a6 ?a7 ?a8 ?a9 ?a10 ?a11 ?a12 ?a13 ?a14 ?a15 ?a16 ?a17 ?a18 ?a19 ?a20 ?a21 ?a22 ?a23 ?a24 ?a25 ?a26 ?a27 ?a28 ?a29 ?a30 ?a31 ?a32 ?a33 ?a34 ?a35 ?a36 ?a37 ?a38 ?a39 ?a40 ?a41 ?a42 ?a43 ?a44 ?a45 ?a46 ?a47 ?l47 ?c47 ?k47 ?z_all ?z_any ?z_bool ?z_enumerate ?z_int ?z_isinstance ?z_len ?z_list ?z_max ?z_min ?z_range ?z_reversed ?z_sorted ?z_tuple ?v_LETTERS ?v_LONGEST_NAME ?v_MANY_SPOTS ?v_MOST_STEPS_AHEAD ?v_MOST_WIRES_AHEAD ?v_WORDS ?u_WORDS ?r_WORDS ?y_0 ?y_3 ?y_4 ?y_1 ?y_2 ?y_8 ?b0 ?b1 ?b2 ?o_0 ?n_0 ?jl_0 ?w_0 ?p_0 ?g_0 ?h_0 ?x_0 ?ra_0 ?rb_0 ?rc_0 ?rd_0 ?re_0_way ?s_0 ?e_0_0 ?e_0_1 ?o_1 ?n_1 ?jl_1 ?w_1 ?p_1 ?g_1 ?h_1 ?x_1 ?ra_1 ?rb_1 ?rc_1 ?rd_1 ?re_1_way ?s_1 ?e_1_0 ?e_1_1 ?o_2 ?n_2 ?jl_2 ?w_2 ?p_2 ?g_2 ?h_2 ?x_2 ?ra_2 ?rb_2 ?rc_2 ?rd_2 ?s_2 ?e_2_0 ?e_2_1 ?o_3 ?n_3 ?jl_3 ?w_3 ?p_3 ?g_3 ?h_3 ?x_3 ?ra_3 ?rb_3 ?rc_3 ?rd_3 ?re_3_by ?re_3_lost ?re_3_way ?s_3 ?e_3_0 ?e_3_1 ?o_4 ?n_4 ?jl_4 ?w_4 ?p_4 ?g_4 ?h_4 ?x_4 ?ra_4 ?rb_4 ?rc_4 ?rd_4 ?re_4_one ?re_4_other ?re_4_wire ?s_4 ?e_4_0 ?e_4_1
   case a47 | l47 | c47 | k47 | z_all | z_any | z_bool | z_enumerate | z_int | z_isinstance | z_len | z_list | z_max | z_min | z_range | z_reversed | z_sorted | z_tuple | v_LETTERS | v_LONGEST_NAME | v_MANY_SPOTS | v_MOST_STEPS_AHEAD | v_MOST_WIRES_AHEAD | v_WORDS | u_WORDS | y_0 | y_3 | y_4 | y_1 | y_2 | y_8 | b0 | b1 | b2 | o_0 | n_0 | jl_0 | w_0 | p_0 | g_0 | h_0 | ra_0 | rb_0 | rc_0 | rd_0 | re_0_way | o_1 | n_1 | jl_1 | w_1 | p_1 | g_1 | h_1 | ra_1 | rb_1 | rc_1 | rd_1 | re_1_way | o_2 | n_2 | jl_2 | w_2 | p_2 | g_2 | h_2 | ra_2 | rb_2 | rc_2 | rd_2 | o_3 | n_3 | jl_3 | w_3 | p_3 | g_3 | h_3 | ra_3 | rb_3 | rc_3 | rd_3 | re_3_by | re_3_lost | re_3_way | o_4 | n_4 | jl_4 | w_4 | p_4 | g_4 | h_4 | ra_4 | rb_4 | rc_4 | rd_4 | re_4_one | re_4_other | re_4_wire=>first | k_is | (unfold K74.DA;k_is) | (unfold K74.DL;k_is)
   case a0 | a1 | a2 | a3 | a4 | a5 | a6 | a7 | a8 | a9 | a10 | a11 | a12 | a13 | a14 | a15 | a16 | a17 | a18 | a19 | a20 | a21 | a22 | a23 | a24 | a25 | a26 | a27 | a28 | a29 | a30 | a31 | a32 | a33 | a34 | a35 | a36 | a37 | a38 | a39 | a40 | a41 | a42 | a43 | a44 | a45 | a46=>refine' K74.ddI ?h1 ?h2 ?h3 ?h4;case h1 | h2 | h3 | h4=>k_is
   (case r_WORDS=>rfl)
   case x_0 | x_1 | x_2 | x_3 | x_4=>kernel_rfl!
   case s_0 | e_0_0 | e_0_1 | s_1 | e_1_0 | e_1_1 | s_2 | e_2_0 | e_2_1 | s_3 | e_3_0 | e_3_1 | s_4 | e_4_0 | e_4_1=>kts_exm
