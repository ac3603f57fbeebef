import PyProof.Rows.All
import Wide.All
import OpenK.AllK
import Wide.FinOn
import Lean
import PyProof.EqAt
import PyProof.EqKinds
import PyProof.TupleCall
import PyProof.ExcClass3
import PyProof.ExcInit
import PyProof.RulesTry
import PyProof.RulesAs
import PyProof.CodeObj
import PyProof.FactsLen
import PyProof.DictTruth
import KE.KRevIter
import PyProof.ListRange
import PyProof.ExcBaseAll.ValueError
import PyProof.InstStoreFacts
import PyProof.ExcArgsOwn
import KE.KIsAll
import PyProof.IsiBase
import PyProof.ReprRoads
import PyProof.NsDelKeeps
import KE.KTryMore
import PyProof.Rows.SortPure
import PyProof.Rows.SortShell
import KE.KIntText
import PyProof.Rows.StrItems
import PyProof.ZipIter
import PyProof.DictKeyH
import KE.RegKIsAll
import KE.RegKTryMore
import PyProof.Rows.KernelRfl
import PySem.Challenge.RW_calmwires_k25_whole_any_walk_is_there
set_option Elab.async false
set_option linter.all false
namespace L2
open PySem PySem.W
noncomputable def pT (l:List Obj):BT->Nat->Option BT :=
 @List.rec Obj (fun _=>BT->Nat->Option BT) (fun t _=>some t) (fun o _ ih t n=>bif ((t.ins n o).get n).isSome then ih (t.ins n o) (n + 1) else none) l
theorem pTo (life:Life):∀ {l:List Obj} {t t' : BT} {n:Nat},pT l t n = some t'->absHeap t' (n + l.length) life = ⟨(absHeap t n life).objs++l.toArray,life⟩
 | [],t,t',n,h=>by
  cases h
  show absHeap t n life = _
  simp
  rfl
 | o :: r,t,t',n,h=>by
  have h' : (bif ((t.ins n o).get n).isSome then pT r (t.ins n o) (n + 1) else none) = some t':=h
  cases e:((t.ins n o).get n).isSome with
  | false=>rw [e] at h'; cases h'
  | true =>
   rw [e] at h'
   have i:=pTo life (l:=r) h'
   rw [absHeap_ins e] at i
   rw [show n + (o :: r).length = n + 1 + r.length by simp only [List.length_cons]; omega,i]
   show Heap.mk ((absHeap t n life).objs.push o++r.toArray) life = _
   congr 1
   apply Array.toList_inj.mp
   simp
noncomputable def pn (s:Shared):Option SharedT:=(pT s.heap.objs.toList .nil 0).map fun t=>⟨t,s.heap.objs.size,s.heap.life,s.gens,s.drawn,s.toks,s.os⟩
theorem po {s:Shared} {S:SharedT} (h:pn s = some S):S.abs = s:=by
 obtain ⟨t,e,rfl⟩:=Option.map_eq_some_iff.mp h
 have i:=pTo s.heap.life e
 obtain ⟨⟨objs,life⟩,gens,drawn,toks,os⟩:=s
 show Shared.mk (absHeap t objs.size life) gens drawn toks os = _
 have j:absHeap t objs.size life = ⟨objs,life⟩:=by
  rw [Nat.zero_add] at i
  have k:(absHeap BT.nil 0 life).objs = #[]:=rfl
  simp only [k] at i
  rw [show objs.size = objs.toList.length from rfl,i]
  simp
 rw [j]
noncomputable def goT (st:SharedT->Thread->Option (SharedT × Thread)) (ok:Thread->Bool) (n:Nat):SharedT->Thread->Option SharedT :=
 @Nat.rec (fun _=>SharedT->Thread->Option SharedT) (fun _ _=>none) (fun _ ih s t=>bif through t then some s else bif ok t then (st s t).bind fun z=>ih z.1 z.2 else none) n
theorem gTo {tb:String->Option Builtin} {p:Program} {w:World} {m:Nat} {a:Option Value}:∀ {n:Nat} {s s' : SharedT} {t:Thread},goT (stepT (denote tb) p w) (stepOk m a) n s t = some s'->topRun tb p w m a n s.abs t = some s'.abs
 | 0,_,_,_,h=>nomatch h
 | n + 1,s,s',t,h=>by
  have h' : (bif through t then some s else bif stepOk m a t then (stepT (denote tb) p w s t).bind fun z=>goT (stepT (denote tb) p w) (stepOk m a) n z.1 z.2 else none) = some s':=h
  unfold topRun
  cases e:through t with
  | true=>rw [e] at h'; cases h'; rfl
  | false =>
   rw [e] at h'
   cases e2:stepOk m a t with
   | false=>rw [e2] at h'; cases h'
   | true =>
    rw [e2] at h'
    obtain ⟨⟨s2,t2⟩,e3,e4⟩:=Option.bind_eq_some_iff.mp h'
    rw [stepT_spec e3]
    exact gTo e4
noncomputable def aT (tb:String->Option Builtin) (p:Program) (w:World) (N:Nat) (z:Shared):Option Shared :=
 bif z.heap.isNs mainGlobals && z.gens.size == 0 then
  (pn z).bind fun S=>(goT (stepT (denote tb) p w) (stepOk z.heap.objs.size (z.heap.nsMap mainGlobals "__annotations__")) N S (topStub p)).bind fun y =>
   bif staticsOk (importedModules p.main.body) z.heap y.abs.heap && namesBound p y.abs.heap && gensDone y.abs && laidKept z.heap y.abs.heap then some y.abs else none
 else none
theorem aTo {tb:String->Option Builtin} {p:Program} {w:World} {N:Nat} {z y:Shared} (h:aT tb p w N z = some y):topFrom tb p w N z = some y:=by
 unfold aT at h
 unfold topFrom
 cases e:(z.heap.isNs mainGlobals && z.gens.size == 0) with
 | false=>rw [e] at h; cases h
 | true =>
  rw [e] at h
  obtain ⟨S,e1,h⟩:=Option.bind_eq_some_iff.mp h
  obtain ⟨Y,e2,h⟩:=Option.bind_eq_some_iff.mp h
  have r:=gTo e2
  rw [po e1] at r
  dsimp only
  rw [r]
  cases e3:(staticsOk (importedModules p.main.body) z.heap Y.abs.heap && namesBound p Y.abs.heap && gensDone Y.abs && laidKept z.heap Y.abs.heap) with
  | false=>rw [e3] at h; cases h
  | true =>
   rw [e3] at h
   cases h
   show (match staticsOk (importedModules p.main.body) z.heap Y.abs.heap && namesBound p Y.abs.heap && gensDone Y.abs && laidKept z.heap Y.abs.heap with | true=>_ | false=>_) = _
   rw [e3]
theorem l2 {p q:Program} {loose:List PySem.Str} {Xt:Shared->Bool} {α:Type} {Yf:Shared->α} {Ya:World->α} {N:Nat} {g0:Bool}
  (h1:∀ w,((fencedOpening treeTable p w N).bind (aT treeTable p w N)).map (fun s=>openSeen q loose (importedModules p.main.body) Xt g0 s) = some (openGood q loose))
  (h2:∀ w,((fencedOpening treeTable p w N).bind (aT treeTable p w N)).map Yf = some (Ya w)):LeftO p q loose Xt Yf Ya N g0:=fun w=>by
 obtain ⟨s,e,e2⟩:=Option.map_eq_some_iff.mp (h1 w)
 have h3:=h2 w
 rw [e] at h3
 obtain ⟨z,e3,e4⟩:=Option.bind_eq_some_iff.mp e
 unfold openEnds
 rw [e3]
 show (topFrom treeTable p w N z).map _ = _
 rw [aTo e4]
 show some (openSeen q loose (importedModules p.main.body) Xt g0 s,Yf s) = _
 rw [e2,show Yf s = Ya w from Option.some.inj h3]
end L2
section
open PySem PySem.W PyProof.Rows PySem.W.Fast
lay_quick PySem.Challenge.pw_calmwires_k25_whole_any_walk_is_there
local macro_rules | `(tactic| refine $f:ident $as*) => do if (f.getId.toString.splitOn "holds_open").length > 1 then `(tactic| (refine' $f $as*; case' $(Lean.mkIdent `hl):ident => (refine' L2.l2 (fun w => ?_) (fun w => ?_); (· unfold fencedOpening L2.aT; rw [show PySem.Challenge.rw_calmwires_k25_whole_any_walk_is_there.row.prog = _ from te9175142761248672107,te10156331382660048174,te11892475500146522536,te6613529449190102663,te10274390034422433532,te14289696077712309145,te14364793385576792824,te1435165496053646825,te8920871248978507458,te4187177175401517315]; kernel_rfl!); (· unfold fencedOpening L2.aT; rw [show PySem.Challenge.rw_calmwires_k25_whole_any_walk_is_there.row.prog = _ from te9175142761248672107,te10156331382660048174,te11892475500146522536,te6613529449190102663,te10274390034422433532,te14289696077712309145,te14364793385576792824,te1435165496053646825,te8920871248978507458]; kernel_rfl!)))) else Lean.Macro.throwUnsupported
set_option maxRecDepth 100000 in
set_option maxHeartbeats 0 in
open_top theTop for PySem.Challenge.rw_calmwires_k25_whole_any_walk_is_there
end
open List (mem_filter mem_range filterMap_cons mem_cons_self mem_cons_of_mem mem_cons mem_append mem_append_left mem_append_right size_toArray append_nil nodup_cons of_mem_zip length_take getElem?_append_right getElem?_append_left getElem?_map mem_of_getElem? length_append length_map length_replicate length_drop map_nil map_cons length_singleton lookup_cons all_eq_true mem_map mem_singleton length_cons all_cons any_cons any_map take_succ_cons length_range drop_zero take_of_length_le length_eq_zero_iff take_zero reverse_cons getElem?_range length_set getElem?_set find?_cons length_nil nodup_nil getElem?_eq_getElem getElem_mem map_append nodup_append mem_replicate map_map take_append_drop idxOf_cons getElem?_of_mem getElem?_cons take_succ forall_mem_cons)
open PySem.W (instObj methodObj lookIn plainGet kitOne kia_one kitx_list kitx_tuple kitx_dict cellsFrom_some fnOf codeIn codeRec_of mg_of mg_none_of)
open Nat (lt_of_lt_of_le lt_irrefl ne_of_lt le_trans le_of_lt le_refl le_of_eq lt_of_le_of_lt le_succ zero_le not_lt pow_le_pow_right lt_or_ge strongRecOn testBit_or testBit_two_pow eq_of_testBit_eq mod_lt two_pow_pos testBit_xor testBit_and eq_zero_or_pos)
open PySem.Heap (lt_size SameBut get?_push_of_some get?_push_size get?_update_other size_push get?_update_self ExtBut size_update)
noncomputable section
set_option Elab.async false
set_option linter.all false
set_option maxRecDepth 100000
namespace L2
open PySem PySem.Spec PyProof.Rows
abbrev Wg:=Sum Int Str
def L1:Wg->Value->Bool
 | .inl k,v=>Value.isInt k v
 | .inr x,v=>Value.isStrOf x v
def Zdy (w:World):Wg->Int
 | .inl k=>hashInt k
 | .inr x=>hashStr w x
theorem Wd:∀ {k:Wg} {v:Value},L1 k v=true->(∃ i t,k=Sum.inl i/\v=Value.int i t)\/(∃ x t,k=Sum.inr x/\v=Value.str x t)
 | .inl i,v,h=>by
  obtain ⟨t,e⟩:=Value.isInt_shape (k:=i) (v:=v) h;exact .inl ⟨i,t,rfl,e⟩
 | .inr x,v,h=>by
  obtain ⟨t,e⟩:=Value.isStrOf_shape (x:=x) (v:=v) h;exact .inr ⟨x,t,rfl,e⟩
theorem Cj (i:Int) (t:Tok):L1 (.inl i) (.int i t)=true:=by simp [L1,Value.isInt]
theorem Ci (x:Str) (t:Tok):L1 (.inr x) (.str x t)=true:=by simp [L1,Value.isStrOf]
theorem Z8d (a b:Int):decide ((Sum.inl a:Wg)=Sum.inl b)=(a==b):=by
 by_cases e:a=b
 ·subst e;simp
 ·have h:¬ (Sum.inl a:Wg)=Sum.inl b:=fun q=>e (Sum.inl.inj q)
  rw [decide_eq_false h];exact (beq_eq_false_iff_ne.mpr e).symm
theorem Z9w (a b:Str):decide ((Sum.inr a:Wg)=Sum.inr b)=decide (a=b):=by
 by_cases e:a=b
 ·subst e;simp
 ·have h:¬ (Sum.inr a:Wg)=Sum.inr b:=fun q=>e (Sum.inr.inj q)
  rw [decide_eq_false h,decide_eq_false e]
theorem Z8i (a:Int) (b:Str):decide ((Sum.inl a:Wg)=Sum.inr b)=false:=decide_eq_false (fun q=>nomatch q)
theorem Z9x (a:Str) (b:Int):decide ((Sum.inr a:Wg)=Sum.inl b)=false:=decide_eq_false (fun q=>nomatch q)
def Wu (prog:Program) (w:World):PySem.KeyKind prog w Wg where
 is:=L1
 hash:=Zdy w
 inj:=fun v a b ha hb=>by
  rcases Wd ha with ⟨i,t,rfl,rfl⟩ | ⟨x,t,rfl,rfl⟩
  ·rcases Wd hb with ⟨j,u,rfl,e⟩ | ⟨y,u,rfl,e⟩
   ·injection e with e1 _;rw [e1]
   ·exact nomatch e
  ·rcases Wd hb with ⟨j,u,rfl,e⟩ | ⟨y,u,rfl,e⟩
   ·exact nomatch e
   ·injection e with e1 _;rw [e1]
 byValue:=fun k v h=>by
  rcases Wd h with ⟨i,t,rfl,rfl⟩ | ⟨x,t,rfl,rfl⟩<;>rfl
 pyHash:=fun hv h=>by
  rcases Wd hv with ⟨i,t,rfl,rfl⟩ | ⟨x,t,rfl,rfl⟩
  ·exact wpAny_pyHash_int h
  ·exact wpAny_pyHash_str h
 eqBool:=fun hu hv h=>by
  rcases Wd hu with ⟨i,t,rfl,rfl⟩ | ⟨x,t,rfl,rfl⟩
  ·rcases Wd hv with ⟨j,u,rfl,rfl⟩ | ⟨y,u,rfl,rfl⟩
   ·rw [Z8d] at h;exact wpAny_eqBool_int h
   ·rw [Z8i] at h;exact SeqAt.EqAt.int_str i t y u _ _ _ _ h
  ·rcases Wd hv with ⟨j,u,rfl,rfl⟩ | ⟨y,u,rfl,rfl⟩
   ·rw [Z9x] at h;exact SeqAt.EqAt.str_int x t j u _ _ _ _ h
   ·rw [Z9w] at h;exact wpAny_eqBool_str h
 «strs» := fun k x t v h=>by
  rcases Wd h with ⟨i,u,rfl,e⟩ | ⟨y,u,rfl,e⟩
  ·exact nomatch e
  ·injection e with e1 _
   subst e1;cases v<;>rfl
theorem Pu (prog:Program) (w:World) (i:Int) (t:Tok):(Wu prog w).is (.inl i) (.int i t)=true:=Cj i t
theorem Pg (prog:Program) (w:World) (x:Str) (t:Tok):(Wu prog w).is (.inr x) (.str x t)=true:=Ci x t
inductive V where
 | non | bl (b:Bool) | int (i:Int) | str (x:Str) | byt (b:Array UInt8) | flt (b:UInt64) | ref (a:Addr) | ty (n:String)
 deriving DecidableEq
def Yg:V->Value->Prop
 | .non,u=>u=Value.none
 | .bl b,u=>u=Value.bool b
 | .int i,u=>∃ t,u=Value.int i t
 | .str x,u=>∃ t,u=Value.str x t
 | .byt b,u=>∃ t,u=Value.bytes b t
 | .flt b,u=>∃ t,u=Value.float b t
 | .ref a,u=>u=Value.ref a
 | .ty n,u=>u=Value.type n
abbrev Zx:List V->List Value->Prop:=Paired Yg
theorem Zx.length {xs:List V} {us:List Value} (r:Zx xs us):xs.length=us.length:=Paired.length r
theorem Zx.get:∀ {xs:List V} {us:List Value} {i:Nat} {x:V},Zx xs us->xs[i]?=some x->∃ u,us[i]?=some u/\Yg x u
 | _,_,_,_,.nil,e=>by simp at e
 | _,_,0,_,.cons r _,e=>by simp at e;subst e;exact ⟨_,rfl,r⟩
 | _,_,i+1,x,.cons _ t,e=>by
  obtain ⟨u,h1,h2⟩:=Zx.get (i:=i) (x:=x) t (by simpa using e);exact ⟨u,by simpa using h1,h2⟩
theorem Zx.append:∀ {xs ys:List V} {us ws:List Value},Zx xs us->Zx ys ws->Zx (xs++ys) (us++ws)
 | _,_,_,_,.nil,s=>s
 | _,_,_,_,.cons r t,s=>.cons r (Zx.append t s)
theorem Zx.take:∀ {xs:List V} {us:List Value} (n:Nat),Zx xs us->Zx (xs.take n) (us.take n)
 | _,_,0,_=>.nil
 | _,_,_+1,.nil=>.nil
 | _,_,n+1,.cons r t=>.cons r (Zx.take n t)
theorem Zx.drop:∀ {xs:List V} {us:List Value} (n:Nat),Zx xs us->Zx (xs.drop n) (us.drop n)
 | _,_,0,r=>r
 | _,_,_+1,.nil=>.nil
 | _,_,n+1,.cons _ t=>Zx.drop n t
def Dl:Option V->Option Value->Prop
 | some v,some u=>Yg v u
 | none,none=>True
 | _,_=>False
def KV {κ:Type}:List (κ×V)->List (κ×Value)->Prop:=Paired fun (p:κ×V) (q:κ×Value)=>p.1=q.1/\Yg p.2 q.2
def kV:Wg->V
 | .inl i=>.int i
 | .inr x=>.str x
inductive HO where
 | lst (xs:List V)
 | tup (xs:List V)
 | dK (kvs:List (Wg×V)) | dT (kvs:List (List Wg×V))
 | set (S:Int->Bool) (n:Nat)
 | ins (C dx:Addr) (fs:List (Str×V))
 | own (x:Addr)
 | xd (fs:List (Str×V))
 | met (f x:Addr)
 | rng (lo hi:Int)
 | frz (o:Obj) (u:HO)
 | tbl (ps:Array Value)
 | ext (φ:Heap->Prop)
abbrev Hp:=Addr->Option HO
def W6 (H:Hp) (a:Addr) (o:HO):Hp:=fun b=>if b=a then some o else H b
theorem Zt {H:Hp} {a:Addr} {o:HO}:W6 H a o a=some o:=by unfold W6;rw [if_pos rfl]
theorem Zj {H:Hp} {a b:Addr} {o:HO} (h:b≠a):W6 H a o b=H b:=by unfold W6;rw [if_neg h]
theorem Z6d {H:Hp} {a b:Addr} {o u:HO} (h:H a=some o) (h':H b=some u) (d:o≠u):a≠b:=by
 intro e;subst e;rw [h] at h';exact d (Option.some.inj h')
theorem Y0 {H:Hp} {a b:Addr} {o:HO} (h:H a=some o) (h':H b=none):a≠b:=by
 intro e;subst e;rw [h] at h';cases h'
section
variable (P:Program) (w:World)
def W2 (H:Hp) (h:Heap) (a:Addr):HO->Prop
 | .lst xs=>xs.length<=sizeLine/\∃ (its:List Value) (n:Nat),Zx xs its/\h.get? a=some { cls:=.type "list",data:=.seq its.toArray n }
 | .tup xs=>xs.length<=sizeLine/\∃ its:List Value,Zx xs its/\IsTup h a its.toArray
 | .dK kvs=>kvs.length<=sizeLine/\(a==sysModules)=false/\∃ vs,KV kvs vs/\h.DictOf (Wu P w) a vs
 | .dT kvs=>kvs.length<=sizeLine/\(a==sysModules)=false/\∃ xs:List (List Wg×Addr×Value),
  Paired (fun (p:List Wg×V) (q:List Wg×Addr×Value)=>p.1=q.1/\H q.2.1=some (.tup (p.1.map kV))/\Yg p.2 q.2.2) kvs xs /\
  ∃ o es ep,h.get? a=some o/\o.ExactDict/\o.data=.dict es ep/\es.toList=xs.map (entryOfKey (tupleKind (Wu P w)))/\(xs.map (·.1)).Nodup
 | .set S n=>h.SetOf (intKind P w) a S n
 | .ins C dx fs=>H dx=some (.own a)/\fs.length<=1000/\dx≠a/\h.get? a=some (instObj C dx) /\
  ∃ mA,h.Ns1 dx mA/\(∀ f,Dl (fs.lookup f) (mA f))/\PySem.Within mA (fs.map (·.1))
 | .own _=>∃ o,h.get? a=some o
 | .xd fs=>∃ mA,h.Ns1 a mA/\∀ f,Dl (fs.lookup f) (mA f)
 | .rng lo hi=>∃ t u v,h.get? a=some { cls:=.type "range",data:=.fields #[.int lo t,.int hi u,.int 1 v] }
 | .frz o u=>h.get? a=some o/\W2 H h a u
 | .tbl ps=>h.get? a=some { cls:=.none,data:=.fields ps }
 | .met f x=>h.get? a=some (methodObj (.ref f) (.ref x))
 | .ext φ=>φ h/\(∃ o,h.get? a=some o)/\∀ h1 h2:Heap,φ h1->(∀ o,h1.get? a=some o->h2.get? a=some o)->φ h2
def M7 (H:Hp) (h:Heap):Prop:=∀ a o,H a=some o->W2 P w H h a o
end
section
variable {P:Program} {w:World} {H H':Hp} {h h':Heap} {a:Addr} {o:HO}
theorem W2.lt (x:W2 P w H h a o):a<h.objs.size:=by
 cases o with
 | lst xs=>obtain ⟨_,_,_,_,e⟩:=x;exact lt_size e
 | tup xs=>obtain ⟨_,_,_,p⟩:=x;exact p.lt
 | dK kvs=>obtain ⟨_,_,_,_,o,_,_,e,_⟩:=x;exact lt_size e
 | dT kvs=>obtain ⟨_,_,_,_,o,_,_,e,_⟩:=x;exact lt_size e
 | set S n=>obtain ⟨o,_,_,_,e,_⟩:=x;exact lt_size e
 | ins C dx fs=>obtain ⟨_,_,_,e,_⟩:=x;exact lt_size e
 | own y=>obtain ⟨_,e⟩:=x;exact lt_size e
 | xd fs=>obtain ⟨_,⟨_,_,_,e,_⟩,_⟩:=x;exact lt_size e
 | rng lo hi=>obtain ⟨_,_,_,e⟩:=x;exact lt_size e
 | frz ob u=>obtain ⟨e,_⟩:=x;exact lt_size e
 | tbl ps=>exact lt_size (show h.get? a=some _ from x)
 | met f y=>exact lt_size (show h.get? a=some _ from x)
 | ext φ=>obtain ⟨_,⟨_,e⟩,_⟩:=x;exact lt_size e
theorem Paired.mapP {α β:Type} {F G:α->β->Prop}:∀ {l₁:List α} {l₂:List β},Paired F l₁ l₂->(∀ a b,F a b->G a b)->Paired G l₁ l₂
 | _,_,.nil,_=>.nil
 | _,_,.cons r t,f=>.cons (f _ _ r) (Paired.mapP t f)
theorem W2.stay (x:W2 P w H h a o) (k:∀ b u,(b=a\/H b=some (.own a))->h.get? b=some u->h'.get? b=some u)
  (ho:∀ b,H b=some (.own a)->H' b=some (.own a)) (ht:∀ b xs,H b=some (.tup xs)->H' b=some (.tup xs)):W2 P w H' h' a o:=by
 induction o with
 | lst xs=>obtain ⟨z,its,n,r,e⟩:=x;exact ⟨z,its,n,r,k _ _ (.inl rfl) e⟩
 | tup xs=>obtain ⟨z,its,r,ob,e,c⟩:=x;exact ⟨z,its,r,ob,k _ _ (.inl rfl) e,c⟩
 | dK kvs=>obtain ⟨z,y,vs,r,ob,es,ep,e,c⟩:=x;exact ⟨z,y,vs,r,ob,es,ep,k _ _ (.inl rfl) e,c⟩
 | dT kvs =>
  obtain ⟨z,y,xs,r,ob,es,ep,e,c⟩:=x;exact ⟨z,y,xs,Paired.mapP r fun p q z=>⟨z.1,ht _ _ z.2.1,z.2.2⟩,ob,es,ep,k _ _ (.inl rfl) e,c⟩
 | set S n=>obtain ⟨ob,es,ep,t,e,c⟩:=x;exact ⟨ob,es,ep,t,k _ _ (.inl rfl) e,c⟩
 | ins C dx fs =>
  obtain ⟨d,z,ne,e,mA,⟨od,es,ep,e2,c⟩,r⟩:=x;exact ⟨ho _ d,z,ne,k _ _ (.inl rfl) e,mA,⟨od,es,ep,k _ _ (.inr d) e2,c⟩,r⟩
 | own y=>obtain ⟨ob,e⟩:=x;exact ⟨ob,k _ _ (.inl rfl) e⟩
 | xd fs=>obtain ⟨mA,⟨od,es,ep,e,c⟩,r⟩:=x;exact ⟨mA,⟨od,es,ep,k _ _ (.inl rfl) e,c⟩,r⟩
 | rng lo hi=>obtain ⟨t,u,v,e⟩:=x;exact ⟨t,u,v,k _ _ (.inl rfl) e⟩
 | frz ob u ih=>obtain ⟨e,q⟩:=x;exact ⟨k _ _ (.inl rfl) e,ih q⟩
 | tbl ps =>
  have e:h.get? a=some { cls:=.none,data:=.fields ps }:=x;show h'.get? a=some { cls:=.none,data:=.fields ps };exact k a _ (.inl rfl) e
 | met f y =>
  have e:h.get? a=some (methodObj (.ref f) (.ref y)):=x;show h'.get? a=some (methodObj (.ref f) (.ref y));exact k a _ (.inl rfl) e
 | ext φ=>obtain ⟨p,⟨o,e⟩,st⟩:=x;exact ⟨st _ _ p fun o q=>k _ _ (.inl rfl) q,⟨o,k _ _ (.inl rfl) e⟩,st⟩
theorem M7.lt (x:M7 P w H h) (e:H a=some o):a<h.objs.size:=(x a o e).lt
theorem M7.fresh (x:M7 P w H h) (e:h.objs.size<=a):H a=none:=by
 cases q:H a with
 | none=>rfl
 | some u=>exact absurd (lt_of_lt_of_le (x.lt q) e) (lt_irrefl _)
theorem M7.kept (x:M7 P w H h) (k:∀ b u,h.get? b=some u->h'.get? b=some u):M7 P w H h':=fun a o e =>
 (x a o e).stay (fun b u _ q=>k b u q) (fun _ q=>q) fun _ _ q=>q
theorem M7.laid (x:M7 P w H h) (k:∀ b u,h.get? b=some u->h'.get? b=some u) (hp:h.objs.size<=a) (new:W2 P w (W6 H a o) h' a o):M7 P w (W6 H a o) h':=fun b u e=>by
 have hn:=x.fresh hp;by_cases hb:b=a
 ·subst hb;rw [Zt] at e;cases e;exact new
 ·rw [Zj hb] at e
  exact (x b u e).stay (fun c v _ q=>k c v q) (fun c q=>by rw [Zj (Y0 q hn)];exact q) fun c xs q=>by rw [Zj (Y0 q hn)];exact q
end
def Rd (H:Hp) (a:Addr) (u:HO):Prop:=H a=some u\/∃ o,H a=some (.frz o u)
theorem Rd.of {H:Hp} {a:Addr} {u:HO} (h:H a=some u):Rd H a u:=.inl h
theorem Rd.ok {P:Program} {w:World} {H:Hp} {h:Heap} {a:Addr} {u:HO} (r:Rd H a u) (x:M7 P w H h):W2 P w H h a u:=by
 rcases r with r | ⟨o,r⟩
 ·exact x a u r
 ·obtain ⟨_,q⟩:=x a _ r
  exact q
def Mut:Option HO->Prop
 | some (.lst _)=>True
 | some (.dK _)=>True
 | some (.dT _)=>True
 | some (.set _ _)=>True
 | some (.ins _ _ _)=>True
 | some (.ext _)=>True
 | _=>False
section
variable {P:Program} {w:World} {H:Hp} {h h':Heap} {x e:Addr} {o':HO}
theorem M7.write (ok:M7 P w H h) (mu:Mut (H x)) (he:e=x\/H e=some (.own x)) (k:∀ b u,b≠e->h.get? b=some u->h'.get? b=some u) (heo:∃ u,h'.get? e=some u)
  (new:W2 P w (W6 H x o') h' x o'):M7 P w (W6 H x o') h':=fun b u q=>by
 have nown:∀ c y,H c=some (.own y)->c≠x:=fun c y r z=>by subst z;rw [r] at mu;exact mu
 have ntup:∀ c xs,H c=some (.tup xs)->c≠x:=fun c xs r z=>by subst z;rw [r] at mu;exact mu
 by_cases hb:b=x
 ·subst hb;rw [Zt] at q;cases q;exact new
 ·rw [Zj hb] at q
  by_cases hbe:b=e
  ·have q':H b=some (.own x):=by
    rcases he with z | z
    ·exact absurd (hbe.trans z) hb
    ·rw [hbe];exact z
   rw [q] at q';cases q';obtain ⟨v,hv⟩:=heo;exact ⟨v,by rw [hbe];exact hv⟩
  ·refine (ok b u q).stay (fun c v hc r=>k c v ?_ r) (fun c r=>by rw [Zj (nown c b r)];exact r) fun c xs r=>by rw [Zj (ntup c xs r)];exact r
   rcases hc with rfl | hc
   ·exact hbe
   ·rintro rfl
    rcases he with z | z
    ·exact nown c b hc z
    ·rw [hc] at z;cases z;exact hb rfl
end
structure Un (fs ex:List Addr) (H H':Hp) (h h':Heap):Prop where
 keep:∀ b o,h.get? b=some o->H b=none->b∉fs->b∉ex->h'.get? b=some o
 slot:∀ b o,h.get? b=some o->H b=none->b∈fs->b∉ex->∃ sl,h'.get? b=some { o with slots:=sl }
 free:∀ b o,h.get? b=some o->H b=none->b∉ex->H' b=none
 there:∀ b o,h.get? b=some o->b∉ex->∃ o',h'.get? b=some o'
 tups:∀ b xs,H b=some (.tup xs)->H' b=some (.tup xs)
 frzs:∀ b o u,H b=some (.frz o u)->H' b=some (.frz o u)
 tbls:∀ b ps,H b=some (.tbl ps)->∃ more,H' b=some (.tbl (ps++more))
section
variable {fs fs' ex ex':List Addr} {H H1 H2:Hp} {h h1 h2 h':Heap} {a x e:Addr} {o:HO}
theorem Un.any (u:Un fs ex H H1 h h1) {b:Addr} {ob:Obj} (q:h.get? b=some ob) (n:H b=none) (hx:b∉ex):∃ sl,h1.get? b=some { ob with slots:=sl }:=by
 by_cases hb:b∈fs
 ·exact u.slot b ob q n hb hx
 ·exact ⟨ob.slots,u.keep b ob q n hb hx⟩
theorem Un.kept (k:∀ b u,h.get? b=some u->h'.get? b=some u):Un fs ex H H h h' :=
 ⟨fun b ob q _ _ _=>k b ob q,fun b ob q _ _ _=>⟨ob.slots,k b ob q⟩,fun _ _ _ n _=>n,fun b ob q _=>⟨ob,k b ob q⟩,fun _ _ q=>q,fun _ _ _ q=>q,fun _ ps q=>⟨#[],by rw [q];simp⟩⟩
theorem Un.refl:Un fs ex H H h h:=Un.kept fun _ _ q=>q
theorem Un.laid (k:∀ b u,h.get? b=some u->h'.get? b=some u) (hp:h.objs.size<=a) (hn:H a=none):Un fs ex H (W6 H a o) h h' where
 keep:=fun b u q _ _ _=>k b u q
 slot:=fun b u q _ _ _=>⟨u.slots,k b u q⟩
 free:=fun b u q n _=>by rw [Zj (ne_of_lt (lt_of_lt_of_le (lt_size q) hp))];exact n
 there:=fun b u q _=>⟨u,k b u q⟩
 tups:=fun b xs q=>by rw [Zj (Y0 q hn)];exact q
 frzs:=fun b u xs q=>by rw [Zj (Y0 q hn)];exact q
 tbls:=fun b ps q=>⟨#[],by rw [Zj (Y0 q hn),q];simp⟩
theorem Un.write (mu:Mut (H x)) (he:e=x\/H e=some (.own x)) (k:∀ b u,b≠e->h.get? b=some u->h'.get? b=some u) (heo:∃ u,h'.get? e=some u):Un fs ex H (W6 H x o) h h':=by
 have hx:∀ b,H b=none->b≠x:=fun b n z=>by subst z;rw [n] at mu;exact mu
 have hb:∀ b,H b=none->b≠e:=fun b n z=>by
  subst z;rcases he with r | r
  ·exact hx b n r
  ·rw [n] at r;cases r
 have hm:∀ b u,H b=some u->¬ Mut (some u)->b≠x:=fun b u q nm z=>by subst z;rw [q] at mu;exact nm mu
 refine ⟨fun b u q n _ _=>k b u (hb b n) q,fun b u q n _ _=>⟨u.slots,k b u (hb b n) q⟩,fun b u q n _=>by rw [Zj (hx b n)];exact n,fun b u q _=>?_,
  fun b xs q=>by rw [Zj (hm b _ q fun z=>z)];exact q,fun b u xs q=>by rw [Zj (hm b _ q fun z=>z)];exact q,fun b ps q=>⟨#[],by rw [Zj (hm b _ q fun z=>z),q];simp⟩⟩
 by_cases hbe:b=e
 ·subst hbe;exact heo
 ·exact ⟨u,k b u hbe q⟩
end
def trk (h:Heap) (H:Hp):List Addr:=(List.range h.objs.size).filter fun a=>(H a).isSome
def Lz (h:Heap) (H:Hp):Heap:=PySem.W.hideAll h (trk h H)
theorem C3 (h:Heap) (H:Hp):(Lz h H).objs.size=h.objs.size:=PySem.W.hideAll_size _ _
theorem Z2l {h:Heap} {H:Hp} {b:Addr} {o:Obj} (e:h.get? b=some o) (n:H b=none):(Lz h H).get? b=some o :=
 PySem.W.hideAll_get _ e fun hm=>by
  have q:(H b).isSome=true:=(mem_filter.mp hm).2;rw [n] at q;simp at q
theorem Z4i {h:Heap} {H:Hp} {b:Addr} {o:Obj} (e:(Lz h H).get? b=some o):h.get? b=some o/\H b=none:=by
 have e':h.get? b=some o:=PySem.W.of_hideAll (trk h H) e;refine ⟨e',?_⟩;cases q:H b with
 | none=>rfl
 | some x =>
  have hm:b∈trk h H:=mem_filter.mpr ⟨mem_range.mpr (lt_size e'),by simp [q]⟩;have z:(Lz h H).get? b=none:=PySem.W.hideAll_none (trk h H) hm;rw [z] at e;cases e
structure Mod (K:PySem.W.Frag) (mg:Str->Option Value) (base:Heap):Prop where
 kin:K.In base
 glob:base.Ns mainGlobals mg
 blt:∃ mb,base.Ns builtinsNs mb/\∀ x:Str,x≠"__name__" -> mb x=bootBuiltins x
 nolimit:base.NoLimit
structure Cx where
 prog:Program
 w:World
 K:PySem.W.Frag
 mg:Str->Option Value
 base:Heap
 A:Around
 N:List Str
 s₀:Shared
 H₀:Hp
 env:Env
 outer:List Env
 stack:List Env
 ex:List Addr
 fn:Str->Bool
 calm:Bool
 pn:List (Addr×Obj)
 xe:Value->Shared->Prop
 pl:Bool:=false
def Rk (l:List Env):List Addr:=l.filterMap (·.frame)
abbrev Cx.fs (X:Cx):List Addr:=Rk X.outer
def Vis (sc:Scope) (x:Str):Prop:=sc.names.lookup x=some .local\/sc.names.lookup x=some .cell\/sc.names.lookup x=some .free
def Fj (sc:Scope) (x:Str):Prop:=sc.names.lookup x=some .local\/sc.names.lookup x=some .cell
def Zea (env:Env) (h:Heap) (m:Str->Option Value) (x:Str) (u:Value):Prop :=
 (env.kindOf x=some .local/\m x=some u)\/((env.kindOf x=some .cell\/env.kindOf x=some .free)/\∃ c,env.cells.lookup x=some c/\h.IsCell c (some u))
structure Cx.Ok (X:Cx):Prop where
 mod:Mod X.K X.mg X.base
 kind:X.env.scope.kind=.function
 glob:X.env.globals=mainGlobals
 blt:X.env.builtins=builtinsNs
 above:X.s₀.heap.objs.size<=X.env.locals
 inj:∀ x y c,X.env.cells.lookup x=some c->X.env.cells.lookup y=some c->x=y
 has:∀ x,(X.env.kindOf x=some .cell\/X.env.kindOf x=some .free)->∃ c,X.env.cells.lookup x=some c
 cab:∀ x c,X.fn x=true->X.env.cells.lookup x=some c->X.s₀.heap.objs.size<=c
 hd:X.calm=true->X.A.handled=none
 frames:X.A.frames=some X.stack
 stk:X.stack=X.outer\/(X.stack=X.env::X.outer/\X.env.frame=some X.env.locals)
 exf:∀ b∈X.ex,b≠X.env.locals/\∀ x c,X.env.cells.lookup x=some c->c≠b
 bs:∀ b o,X.base.get? b=some o->X.s₀.heap.get? b=some o/\X.H₀ b=none
 bsz:X.base.objs.size<=X.s₀.heap.objs.size
 noex:∀ b o,X.base.get? b=some o->b∉X.ex
 exfs:∀ b∈X.ex,b∉X.fs
 funs:X.s₀.heap.FunFrames X.base X.outer
 frf:∀ b∈X.fs,X.H₀ b=none
structure Inv (X:Cx) (pins:List (Addr×Obj)) (σ:List (Option V)) (H:Hp) (s:Shared):Prop where
 ok:X.Ok
 os:s.os=X.s₀.os
 bare:AllBare s.gens
 base:Un X.fs X.ex X.H₀ H X.s₀.heap s.heap
 loc:∃ m,s.heap.Ns X.env.locals m/\∀ (i:Nat) (x:Str) (v:V),X.N[i]?=some x->σ[i]?=some (some v)->Vis X.env.scope x->∃ u,Yg v u/\Zea X.env s.heap m x u
 cell:∀ x c,X.env.cells.lookup x=some c->∃ v,s.heap.IsCell c v
 free:H X.env.locals=none
 freeC:∀ x c,X.env.cells.lookup x=some c->H c=none
 pin:∀ p∈X.pn++pins,s.heap.get? p.1=some p.2/\H p.1=none/\p.1≠X.env.locals/\p.1∉X.fs/\∀ v,p.2.data≠.cell v
 hok:M7 X.prog X.w H s.heap
 len:σ.length=X.N.length
section
variable {X:Cx} {pins:List (Addr×Obj)} {σ:List (Option V)} {H H':Hp} {s:Shared} {h':Heap}
theorem Cx.Ok.nofr (ok:X.Ok) {b:Addr} {o:Obj} (e:X.base.get? b=some o):b∉X.fs:=fun hb=>by
 have:=(ok.funs.mem hb).1;rw [e] at this;cases this
theorem Inv.bs (I:Inv X pins σ H s):∀ b o,X.base.get? b=some o->s.heap.get? b=some o/\H b=none:=fun b o e =>
 ⟨I.base.keep b o (I.ok.bs b o e).1 (I.ok.bs b o e).2 (I.ok.nofr e) (I.ok.noex b o e),I.base.free b o (I.ok.bs b o e).1 (I.ok.bs b o e).2 (I.ok.noex b o e)⟩
theorem Inv.bk (I:Inv X pins σ H s):∀ b o,X.base.get? b=some o->s.heap.get? b=some o:=fun b o e=>(I.bs b o e).1
theorem Inv.mod (I:Inv X pins σ H s):Mod X.K X.mg X.base:=I.ok.mod
theorem Inv.kIn (I:Inv X pins σ H s):X.K.In s.heap:=I.ok.mod.kin.keeps I.bk
theorem Inv.lt (I:Inv X pins σ H s):X.env.locals<s.heap.objs.size:=let ⟨_,hn,_⟩:=I.loc;hn.lt
theorem Inv.sz (I:Inv X pins σ H s):X.s₀.heap.objs.size<=s.heap.objs.size:=le_trans I.ok.above (le_of_lt I.lt)
theorem Inv.nofs (I:Inv X pins σ H s) {a:Addr} (h:s.heap.objs.size<=a):a∉X.fs:=fun hb=>by
 obtain ⟨_,o,ho,_⟩:=I.ok.funs.mem hb;exact absurd (lt_of_lt_of_le (lt_size ho) (le_trans I.sz h)) (lt_irrefl _)
theorem Inv.cne (I:Inv X pins σ H s):∀ x c,X.env.cells.lookup x=some c->c≠X.env.locals:=fun x c e z=>by
 obtain ⟨v,o,ho,hd⟩:=I.cell x c e;obtain ⟨m,⟨o',es,ep,ho',hd',_⟩,_⟩:=I.loc;rw [z,ho'] at ho;cases ho;rw [hd'] at hd;cases hd
theorem Inv.funs (I:Inv X pins σ H s):s.heap.FunFrames X.base X.outer:=by
 have all:∀ (l:List Env),(∀ b∈Rk l,b∈X.fs)->X.s₀.heap.FunFrames X.base l->s.heap.FunFrames X.base l:=by
  intro l;induction l with
  | nil=>intro _ _;trivial
  | cons env r ih =>
   intro hs hl;obtain ⟨hk,⟨L,o,hf,hn,ho,hd⟩,hr⟩:=hl;have hL:L∈X.fs:=hs L (by unfold Rk;rw [filterMap_cons,hf];exact mem_cons_self);obtain ⟨sl,e⟩:=I.base.slot L o ho (I.ok.frf L hL) hL fun z=>I.ok.exfs L z hL
   exact ⟨hk,⟨L,_,hf,hn,e,hd⟩,ih (fun b hb=>hs b (by unfold Rk;rw [filterMap_cons,hf];exact mem_cons_of_mem _ hb)) hr⟩
 exact all X.outer (fun _ hb=>hb) I.ok.funs
theorem Inv.stack (I:Inv X pins σ H s):s.heap.FunFrames X.base X.stack:=by
 rcases I.ok.stk with e | ⟨e,hf⟩
 ·rw [e];exact I.funs
 ·rw [e]
  obtain ⟨m,hn,_⟩:=I.loc;refine .cons (by rw [I.ok.kind];decide) hf hn ?_ I.funs;exact Heap.get?_none_of_le (le_trans I.ok.bsz I.ok.above)
theorem Inv.stkSub (I:Inv X pins σ H s):∀ b∈Rk X.stack,b∈X.env.locals::X.fs:=fun b hb=>by
 rcases I.ok.stk with e | ⟨e,hf⟩
 ·rw [e] at hb;exact mem_cons_of_mem _ hb
 ·rw [e] at hb
  unfold Rk at hb;rw [filterMap_cons,hf] at hb;exact hb
theorem Inv.stkFree (I:Inv X pins σ H s):∀ b∈Rk X.stack,H b=none:=fun b hb=>by
 rcases mem_cons.mp (I.stkSub b hb) with e | hb
 ·rw [e];exact I.free
 ·obtain ⟨_,o,ho,_⟩:=I.ok.funs.mem hb
  exact I.base.free b o ho (I.ok.frf b hb) fun z=>I.ok.exfs b z hb
theorem Inv.step {g':Array GenState} {t':Nat} {d':Drawn} {ch:List Addr} (I:Inv X pins σ H s)
  (hch:∀ b∈ch,(b∈X.ex\/X.s₀.heap.objs.size<=b)/\b≠X.env.locals/\(∀ x c,X.env.cells.lookup x=some c->c≠b)/\∀ p∈X.pn++pins,p.1≠b)
  (keep:∀ b o,b≠X.env.locals->b∉X.fs->b∉ch->s.heap.get? b=some o->H b=none->h'.get? b=some o)
  (slot:∀ b o,b≠X.env.locals->b∈X.fs->b∉ch->s.heap.get? b=some o->H b=none->∃ sl,h'.get? b=some { o with slots:=sl }) (free:∀ b o,b∉ch->s.heap.get? b=some o->H b=none->H' b=none)
  (there:∀ b o,b∉ch->s.heap.get? b=some o->∃ o',h'.get? b=some o')
  (tups:∀ b xs,H b=some (.tup xs)->H' b=some (.tup xs)) (frzs:∀ b o u,H b=some (.frz o u)->H' b=some (.frz o u)) (tbls:∀ b ps,H b=some (.tbl ps)->∃ more,H' b=some (.tbl (ps++more)))
  (ns:∀ m,s.heap.Ns X.env.locals m->h'.Ns X.env.locals m) (hok:M7 X.prog X.w H' h') (hg:AllBare g') :
  Inv X pins σ H' { s with heap:=h',gens:=g',drawn:=d',toks:=t' }:=by
 have neL:∀ b o,X.s₀.heap.get? b=some o->b≠X.env.locals:=fun b o e=>ne_of_lt (lt_of_lt_of_le (lt_size e) I.ok.above)
 have neC:∀ b o,X.s₀.heap.get? b=some o->b∉X.ex->b∉ch:=fun b o e hx hb=>by
  rcases (hch b hb).1 with z | z
  ·exact hx z
  ·exact absurd (lt_of_lt_of_le (lt_size e) z) (lt_irrefl _)
 have cellK:∀ x c,X.env.cells.lookup x=some c->∀ v,s.heap.IsCell c v->h'.IsCell c v:=fun x c e v zz=>by
  obtain ⟨o,ho,hd⟩:=zz;have nch:c∉ch:=fun z=>(hch c z).2.2.1 x c e rfl
  by_cases hc:c∈X.fs
  ·obtain ⟨sl,q⟩:=slot c o (I.cne x c e) hc nch ho (I.freeC x c e)
   exact ⟨_,q,hd⟩
  ·exact ⟨o,keep c o (I.cne x c e) hc nch ho (I.freeC x c e),hd⟩
 refine ⟨I.ok,I.os,hg,⟨fun b o e n hb hx=>?_,fun b o e n hb hx=>?_,fun b o e n hx=>?_,fun b o e hx=>?_,fun b xs e=>tups b xs (I.base.tups b xs e),fun b o xs e=>frzs b o xs (I.base.frzs b o xs e),fun b ps e=>?_⟩,?_,fun x c e=>?_,?_,fun x c e=>?_,fun p hp=>?_,hok,I.len⟩
 ·exact keep b o (neL b o e) hb (neC b o e hx) (I.base.keep b o e n hb hx) (I.base.free b o e n hx)
 ·obtain ⟨sl,e1⟩:=I.base.slot b o e n hb hx
  obtain ⟨sl',e2⟩:=slot b _ (neL b o e) hb (neC b o e hx) e1 (I.base.free b o e n hx);exact ⟨sl',e2⟩
 ·obtain ⟨o',e1⟩:=I.base.there b o e hx
  exact free b o' (neC b o e hx) e1 (I.base.free b o e n hx)
 ·obtain ⟨o',e1⟩:=I.base.there b o e hx
  exact there b o' (neC b o e hx) e1
 ·obtain ⟨m1,e1⟩:=I.base.tbls b ps e
  obtain ⟨m2,e2⟩:=tbls b _ e1;exact ⟨m1++m2,by rw [e2,Array.append_assoc]⟩
 ·obtain ⟨m,hn,hl⟩:=I.loc
  refine ⟨m,ns m hn,fun i x v e1 e2 e3=>?_⟩;obtain ⟨u,r,l⟩:=hl i x v e1 e2 e3;refine ⟨u,r,?_⟩;rcases l with l | ⟨k,c,e,z⟩
  ·exact .inl l
  ·exact .inr ⟨k,c,e,cellK x c e _ z⟩
 ·obtain ⟨v,z⟩:=I.cell x c e
  exact ⟨v,cellK x c e v z⟩
 ·obtain ⟨m,⟨o,_,_,ho,_⟩,_⟩:=I.loc
  exact free _ o (fun z=>(hch _ z).2.1 rfl) ho I.free
 ·obtain ⟨v,o,ho,hd⟩:=I.cell x c e
  exact free c o (fun z=>(hch c z).2.2.1 x c e rfl) ho (I.freeC x c e)
 ·obtain ⟨e,n,ne,nf,d⟩:=I.pin p hp
  have nch:p.1∉ch:=fun z=>(hch p.1 z).2.2.2 p hp rfl
  exact ⟨keep p.1 p.2 ne nf nch e n,free p.1 p.2 nch e n,ne,nf,d⟩
theorem Inv.un {t':Nat} (I:Inv X pins σ H s) (u:Un X.fs [] H H' s.heap h') (hok:M7 X.prog X.w H' h'):Inv X pins σ H' { s with heap:=h',toks:=t' }:=by
 obtain ⟨m,⟨o,es,ep,ho,r⟩,_⟩:=id I.loc;obtain ⟨sl,hL⟩:=u.any ho I.free (by simp);exact I.step (g':=s.gens) (d':=s.drawn) (ch:=[]) (fun _ z=>nomatch z) (fun b o _ hb _ e n=>u.keep b o e n hb (by simp)) (fun b o _ hb _ e n=>u.slot b o e n hb (by simp)) (fun b o _ e n=>u.free b o e n (by simp)) (fun b o _ e=>u.there b o e (by simp)) u.tups u.frzs u.tbls (fun m' hm=>by
  obtain ⟨o',es',ep',ho',r'⟩:=hm;rw [ho] at ho';cases ho';exact ⟨_,es',ep',hL,r'⟩) hok I.bare
theorem Inv.call {g':Array GenState} {t':Nat} {d':Drawn} {ch:List Addr} (I:Inv X pins σ H s) (u:Un (Rk X.stack) ch H H' s.heap h') (hok:M7 X.prog X.w H' h') (hg:AllBare g')
  (hch:∀ b∈ch,(b∈X.ex\/X.s₀.heap.objs.size<=b)/\b≠X.env.locals/\(∀ x c,X.env.cells.lookup x=some c->c≠b)/\∀ p∈X.pn++pins,p.1≠b) :
  Inv X pins σ H' { s with heap:=h',gens:=g',drawn:=d',toks:=t' }:=by
 obtain ⟨m,⟨o,es,ep,ho,r⟩,_⟩:=id I.loc;obtain ⟨sl,hL⟩:=u.any ho I.free fun z=>(hch _ z).2.1 rfl
 exact I.step (ch:=ch) hch (fun b o hL hb hc e n=>u.keep b o e n (fun z=>(mem_cons.mp (I.stkSub b z)).elim hL hb) hc) (fun b o _ _ hc e n=>u.any e n hc) (fun b o hc e n=>u.free b o e n hc) (fun b o hc e=>u.there b o e hc) u.tups u.frzs u.tbls (fun m' hm=>by
  obtain ⟨o',es',ep',ho',r'⟩:=hm;rw [ho] at ho';cases ho';exact ⟨_,es',ep',hL,r'⟩) hok hg
theorem Inv.turned {t':Nat} {it:Addr} (I:Inv X pins σ H s) (k:∀ b o,b≠it->s.heap.get? b=some o->h'.get? b=some o) (hn:H it=none) (hL:it≠X.env.locals)
  (h1:it∈X.ex\/X.s₀.heap.objs.size<=it) (h2:∀ x c,X.env.cells.lookup x=some c->c≠it) (h3:∀ p∈X.pn++pins,p.1≠it):Inv X pins σ H { s with heap:=h',toks:=t' }:=by
 have nit:∀ b u,H b=some u->b≠it:=fun b u e z=>by rw [z,hn] at e;cases e
 refine I.step (g':=s.gens) (d':=s.drawn) (ch:=[it]) (fun b hb=>?_) (fun b o _ _ hc e _=>k b o (fun z=>hc (by simp [z])) e) (fun b o _ _ hc e _=>⟨o.slots,k b o (fun z=>hc (by simp [z])) e⟩) (fun _ _ _ _ n=>n)
  (fun b o hc e=>⟨o,k b o (fun z=>hc (by simp [z])) e⟩) (fun _ _ e=>e) (fun _ _ _ e=>e) (fun b ps e=>⟨#[],by rw [e];simp⟩) (fun m hm=>?_) (fun b u e=>?_) I.bare
 ·have e:b=it:=by simpa using hb
  subst e;exact ⟨h1,hL,h2,h3⟩
 ·obtain ⟨o,es,ep,ho,r⟩:=hm
  exact ⟨o,es,ep,k _ o (Ne.symm hL) ho,r⟩
 ·refine (I.hok b u e).stay (fun c v hc q=>k c v ?_ q) (fun _ q=>q) fun _ _ q=>q
  rcases hc with z | z
  ·rw [z];exact nit b u e
  ·exact nit c _ z
theorem Inv.tok (I:Inv X pins σ H s) (t:Nat):Inv X pins σ H { s with toks:=t }:=I.un (h':=s.heap) (t':=t) Un.refl I.hok
theorem Inv.kept {t':Nat} (I:Inv X pins σ H s) (k:∀ b u,s.heap.get? b=some u->h'.get? b=some u):Inv X pins σ H { s with heap:=h',toks:=t' }:=I.un (Un.kept k) (I.hok.kept k)
theorem Inv.laid {a:Addr} {o:HO} {t':Nat} (I:Inv X pins σ H s) (k:∀ b u,s.heap.get? b=some u->h'.get? b=some u) (hp:s.heap.objs.size<=a) (new:W2 X.prog X.w (W6 H a o) h' a o) :
 Inv X pins σ (W6 H a o) { s with heap:=h',toks:=t' }:=I.un (Un.laid k hp (I.hok.fresh hp)) (I.hok.laid k hp new)
theorem Inv.write {x e:Addr} {o:HO} {t':Nat} (I:Inv X pins σ H s) (mu:Mut (H x)) (he:e=x\/H e=some (.own x)) (k:∀ b u,b≠e->s.heap.get? b=some u->h'.get? b=some u) (heo:∃ u,h'.get? e=some u)
 (new:W2 X.prog X.w (W6 H x o) h' x o):Inv X pins σ (W6 H x o) { s with heap:=h',toks:=t' }:=I.un (Un.write mu he k heo) (I.hok.write mu he k heo new)
theorem Inv.weak {σ':List (Option V)} (I:Inv X pins σ H s) (hl:σ'.length=σ.length) (w:∀ (i:Nat) v,σ'[i]?=some (some v)->σ[i]?=some (some v)):Inv X pins σ' H s :=
 ⟨I.ok,I.os,I.bare,I.base,let ⟨m,hn,hl'⟩:=I.loc;⟨m,hn,fun i x v e1 e2 e3=>hl' i x v e1 (w i v e2) e3⟩,I.cell,I.free,I.freeC,I.pin,I.hok,hl.trans I.len⟩
theorem Inv.pins_of {pins':List (Addr×Obj)} (I:Inv X pins σ H s) (h:∀ p∈pins',s.heap.get? p.1=some p.2/\H p.1=none/\p.1≠X.env.locals/\p.1∉X.fs/\∀ v,p.2.data≠.cell v):Inv X pins' σ H s :=
 ⟨I.ok,I.os,I.bare,I.base,I.loc,I.cell,I.free,I.freeC,fun p hp=>(mem_append.mp hp).elim (fun z=>I.pin p (mem_append_left _ z)) (h p),I.hok,I.len⟩
theorem Pp {N:List Str} (hN:N.Nodup) {i j:Nat} {x:Str} (a:N[i]?=some x) (b:N[j]?=some x):i=j:=by
 obtain ⟨h1,e1⟩:=List.getElem?_eq_some_iff.mp a;obtain ⟨h2,e2⟩:=List.getElem?_eq_some_iff.mp b;exact (List.getElem_inj hN).mp (e1.trans e2.symm)
theorem Lj {M:Model} {A:Around} {E:Value->Shared->Prop} {i:Nat} {x:Str} {v:V} {u:Value} {Q:Unit->Shared->Prop} (I:Inv X pins σ H s) (hN:X.N.Nodup) (hi:X.N[i]?=some x) (hx:Fj X.env.scope x) (r:Yg v u)
   (h:∀ s',Inv X pins (σ.set i (some v)) H s'->(∃ a,SameBut a s.heap s'.heap/\(a=X.env.locals\/X.env.cells.lookup x=some a))->Q () s') (hf:X.fn x=true\/X.env.scope.names.lookup x=some .local:=by first | exact .inl rfl | exact .inr rfl | assumption):wpAny M A (storeName X.env x u) Q E s:=by
 obtain ⟨m,hn,hl⟩:=id I.loc;have hcls:(X.env.scope.kind==.class||(X.env.scope.kind==.module&&X.env.locals != X.env.globals))=false:=by rw [I.ok.kind];rfl
 have hiσ:i<σ.length:=by rw [I.len];exact (List.getElem?_eq_some_iff.mp hi).1
 have cne:=I.cne;have tracked:∀ {a:Addr} {h':Heap},(∃ o,s.heap.get? a=some o/\H a=none)->SameBut a s.heap h'->M7 X.prog X.w H h':=fun {a h'} ha hs b ob e=>by
   obtain ⟨_,_,hfree⟩:=ha;refine (I.hok b ob e).stay (fun c w' hc q=>(hs.2 c ?_).trans q) (fun _ q=>q) fun _ _ q=>q
   rintro rfl;rcases hc with rfl | hc
   · rw [hfree] at e;cases e
   · rw [hfree] at hc;cases hc
 rcases hx with hk | hk
 · refine wpAny_storeName_local hk hn (fun h' hn' hs=>?_) hcls
   obtain ⟨oL,_,_,hoL,_⟩:=id hn;refine h _ ⟨I.ok,I.os,I.bare,⟨fun b o e n hb hx=>?_,fun b o e n hb hx=>?_,I.base.free,fun b o e hx=>?_,I.base.tups,I.base.frzs,I.base.tbls⟩,⟨_,hn',fun j y v' e1 e2 e3=>?_⟩,fun y c e=>?_,I.free,I.freeC,fun p hp=>?_,tracked ⟨oL,hoL,I.free⟩ hs,by simpa using I.len⟩ ⟨_,hs,.inl rfl⟩
   · exact (hs.2 b (ne_of_lt (lt_of_lt_of_le (lt_size e) I.ok.above))).trans (I.base.keep b o e n hb hx)
   · obtain ⟨sl,e1⟩:=I.base.slot b o e n hb hx
     exact ⟨sl,(hs.2 b (ne_of_lt (lt_of_lt_of_le (lt_size e) I.ok.above))).trans e1⟩
   · obtain ⟨o',e1⟩:=I.base.there b o e hx
     exact ⟨o',(hs.2 b (ne_of_lt (lt_of_lt_of_le (lt_size e) I.ok.above))).trans e1⟩
   · by_cases hj:j=i
     · subst hj
       rw [hi] at e1;cases e1;rw [List.getElem?_set_self hiσ] at e2;cases e2;exact ⟨u,r,.inl ⟨hk,by simp⟩⟩
     · rw [List.getElem?_set_ne (Ne.symm hj)] at e2
       obtain ⟨u',r',q⟩:=hl j y v' e1 e2 e3;refine ⟨u',r',?_⟩;rcases q with ⟨k,e⟩ | ⟨k,c,e,z⟩
       · refine .inl ⟨k,?_⟩
         have:y≠x:=fun e=>hj (Pp hN e1 (e▸hi))
         simp [this,e]
       · exact .inr ⟨k,c,e,z.sameBut hs (cne y c e)⟩
   · obtain ⟨w',z⟩:=I.cell y c e
     exact ⟨w',z.sameBut hs (cne y c e)⟩
   · obtain ⟨e,n,ne,nf,d⟩:=I.pin p hp
     exact ⟨(hs.2 p.1 ne).trans e,n,ne,nf,d⟩
 · have hfn:X.fn x=true:=by
     rcases hf with z | z
     · exact z
     · rw [z] at hk;cases hk
   obtain ⟨c,hc⟩:=I.ok.has x (.inl hk);obtain ⟨w',z⟩:=I.cell x c hc;refine wpAny_storeName_cell I.ok.kind hk hc z (fun h' hc' hs=>?_);obtain ⟨oc,hoc,hocd⟩:=id z;refine h { s with heap:=h' } ⟨I.ok,I.os,I.bare,⟨fun b o e n hb hx=>?_,fun b o e n hb hx=>?_,I.base.free,fun b o e hx=>?_,I.base.tups,I.base.frzs,I.base.tbls⟩,⟨m,hn.sameBut hs (Ne.symm (cne x c hc)),fun j y v' e1 e2 e3=>?_⟩,fun y c' e=>?_,I.free,I.freeC,fun p hp=>?_,tracked ⟨oc,hoc,I.freeC x c hc⟩ hs,by simpa using I.len⟩ ⟨c,hs,.inr hc⟩
   · exact (hs.2 b (ne_of_lt (lt_of_lt_of_le (lt_size e) (I.ok.cab x c hfn hc)))).trans (I.base.keep b o e n hb hx)
   · obtain ⟨sl,e1⟩:=I.base.slot b o e n hb hx
     exact ⟨sl,(hs.2 b (ne_of_lt (lt_of_lt_of_le (lt_size e) (I.ok.cab x c hfn hc)))).trans e1⟩
   · obtain ⟨o',e1⟩:=I.base.there b o e hx
     exact ⟨o',(hs.2 b (ne_of_lt (lt_of_lt_of_le (lt_size e) (I.ok.cab x c hfn hc)))).trans e1⟩
   · by_cases hj:j=i
     · subst hj
       rw [hi] at e1;cases e1;rw [List.getElem?_set_self hiσ] at e2;cases e2;exact ⟨u,r,.inr ⟨.inl hk,c,hc,hc'⟩⟩
     · rw [List.getElem?_set_ne (Ne.symm hj)] at e2
       obtain ⟨u',r',q⟩:=hl j y v' e1 e2 e3;refine ⟨u',r',?_⟩;rcases q with q | ⟨k,c',e,z'⟩
       · exact .inl q
       · refine .inr ⟨k,c',e,z'.sameBut hs ?_⟩
         rintro rfl;exact hj (Pp hN e1 (I.ok.inj _ _ _ e hc▸hi))
   · by_cases hcc:c'=c
     · subst hcc;exact ⟨_,hc'⟩
     · obtain ⟨w2,z2⟩:=I.cell y c' e
       exact ⟨w2,z2.sameBut hs hcc⟩
   · obtain ⟨e,n,ne,nf,d⟩:=I.pin p hp
     refine ⟨(hs.2 p.1 ?_).trans e,n,ne,nf,d⟩;intro q;rw [q,hoc] at e;have q':oc=p.2:=Option.some.inj e;exact d w' (by rw [← q'];exact hocd)
theorem Hw {M:Model} {A:Around} {E:Value->Shared->Prop} {i:Nat} {x:Str} {v:V} {u:Value} {Q:Unit->Shared->Prop} (I:Inv X pins σ H s) (hN:X.N.Nodup) (hi:X.N[i]?=some x) (hx:Fj X.env.scope x) (r:Yg v u)
  (h:∀ s',Inv X pins (σ.set i (some v)) H s'->Q () s') (hf:X.fn x=true\/X.env.scope.names.lookup x=some .local:=by first | exact .inl rfl | exact .inr rfl | assumption):wpAny M A (storeName X.env x u) Q E s :=
 Lj I hN hi hx r (fun s' I' _=>h s' I') hf
theorem Inv.call' {s':Shared} {ch:List Addr} (I:Inv X pins σ H s) (ho:s'.os=s.os) (u:Un (Rk X.stack) ch H H' s.heap s'.heap) (hok:M7 X.prog X.w H' s'.heap) (hg:AllBare s'.gens)
  (hch:∀ b∈ch,(b∈X.ex\/X.s₀.heap.objs.size<=b)/\b≠X.env.locals/\(∀ x c,X.env.cells.lookup x=some c->c≠b)/\∀ p∈X.pn++pins,p.1≠b):Inv X pins σ H' s':=by
 obtain ⟨h',g',d',t',o'⟩:=s';have e:o'=s.os:=ho;subst e;exact I.call (g':=g') (t':=t') (d':=d') u hok hg hch
end
abbrev XK:=Value->Option Addr->Hp->Prop
abbrev St:=List (Option V)
abbrev VK:=V->Hp->Prop
abbrev TE:=St->Hp->VK->Prop
abbrev TT:=St->Hp->(Bool->Hp->Prop)->Prop
abbrev TA:=St->Hp->(List V->Hp->Prop)->Prop
structure Ends where
 nx:St->Hp->Prop
 rt:VK
 bk:St->Hp->Prop:=fun _ _=>False
 ct:St->Hp->Prop:=fun _ _=>False
abbrev TS:=Ends->St->Hp->Prop
def EP (X:Cx) (pins:List (Addr×Obj)) (σ:St) (Q:VK) (u:Value) (s':Shared):Prop:=∃ v H',Inv X pins σ H' s'/\Yg v u/\Q v H'
def TP (X:Cx) (pins:List (Addr×Obj)) (σ:St) (Q:Bool->Hp->Prop) (b:Bool) (s':Shared):Prop:=∃ H',Inv X pins σ H' s'/\Q b H'
def AP (X:Cx) (pins:List (Addr×Obj)) (σ:St) (Q:List V->Hp->Prop) (us:List Value) (s':Shared):Prop:=∃ vs H',Inv X pins σ H' s'/\Zx vs us/\Q vs H'
def SP (X:Cx) (pins:List (Addr×Obj)) (D:Ends) (f:Flow) (s':Shared):Prop :=
 match f with
 | .next=>∃ σ' H',Inv X pins σ' H' s'/\D.nx σ' H'
 | .brk=>∃ σ' H',Inv X pins σ' H' s'/\D.bk σ' H'
 | .cont=>∃ σ' H',Inv X pins σ' H' s'/\D.ct σ' H'
 | .ret u=>∃ v σ' H',Inv X pins σ' H' s'/\Yg v u/\D.rt v H'
def PE (X:Cx) (e:Expr) (t:TE):Prop :=
 ∀ (pins:List (Addr×Obj)) (s:Shared) (σ:St) (H:Hp) (Q:VK),Inv X pins σ H s->t σ H Q->wpAny (model X.prog X.w) X.A (eval e X.env) (EP X pins σ Q) X.xe s
def PT (X:Cx) (e:Expr) (t:TT):Prop :=
 ∀ (pins:List (Addr×Obj)) (s:Shared) (σ:St) (H:Hp) (Q:Bool->Hp->Prop),Inv X pins σ H s->t σ H Q->wpAny (model X.prog X.w) X.A (isTrue e X.env (eval e X.env)) (TP X pins σ Q) X.xe s
def PW (X:Cx) (e:Expr) (t:TT):Prop :=
 ∀ (whole:Sem Value) (pins:List (Addr×Obj)) (s:Shared) (σ:St) (H:Hp) (Q:Bool->Hp->Prop),Inv X pins σ H s->t σ H Q->wpAny (model X.prog X.w) X.A (isTrue e X.env whole) (TP X pins σ Q) X.xe s
theorem PW.pt {X:Cx} {e:Expr} {t:TT} (h:PW X e t):PT X e t:=h _
def PA (X:Cx) (es:List Expr) (t:TA):Prop :=
 ∀ (pos:Pos) (pins:List (Addr×Obj)) (s:Shared) (σ:St) (H:Hp) (Q:List V->Hp->Prop),Inv X pins σ H s->t σ H Q->wpAny (model X.prog X.w) X.A (spliced (backTo pos (starEach es X.env))) (AP X pins σ Q) X.xe s
def PS (X:Cx) (st:Stmt) (t:TS):Prop :=
 ∀ (pins:List (Addr×Obj)) (s:Shared) (σ:St) (H:Hp) (D:Ends),Inv X pins σ H s->t D σ H->wpAny (model X.prog X.w) X.A (exec st X.env) (SP X pins D) X.xe s
def Ro (X:Cx) (st:List Stmt) (t:TS):Prop :=
 ∀ (pins:List (Addr×Obj)) (s:Shared) (σ:St) (H:Hp) (D:Ends),Inv X pins σ H s->t D σ H->wpAny (model X.prog X.w) X.A (execs st X.env) (SP X pins D) X.xe s
theorem Wh {α:Type} {t:Sem α} {Q Q':α->Shared->Prop} {M:Model} {A:Around} {E:Value->Shared->Prop} {s:Shared} (h:wpAny M A t Q E s) (hQ:∀ a s,Q a s->Q' a s):wpAny M A t Q' E s:=wpAny_mono h hQ fun _ _ x=>x
section
variable {X:Cx}
def Xz (i:Nat):TE:=fun σ H Q=>∃ v,σ[i]?=some (some v)/\Q v H
def tC (v:V):TE:=fun _ H Q=>Q v H
theorem Jy {i:Nat} {x:Str} {pos:Pos} (hN:X.N[i]?=some x) (hv:Vis X.env.scope x) (hd:(x==("__debug__" : Str))=false:=by decide) (hcd:(x==("__classdict__" : Str))=false:=by decide):PE X (.Name x pos) (Xz i):=by
 intro pins s σ H Q I h;obtain ⟨v,e,h⟩:=h;obtain ⟨m,hn,hl⟩:=I.loc;obtain ⟨u,r,l⟩:=hl i x v hN e hv;have fin:EP X pins σ Q u s:=⟨v,H,I,r,h⟩;rcases l with ⟨hk,hm⟩ | ⟨hk,c,hc,hcell⟩
 ·exact wpAny_Name (wpAny_loadName_local I.ok.kind hk hn hm fin) hd
 ·rcases hk with hk | hk
  ·exact wpAny_Name (wpAny_loadName_cell I.ok.kind hk hc hcell fin) hd
  ·exact wpAny_Name (wpAny_loadName_free I.ok.kind hk hc hcell fin hcd) hd
theorem Z8g {i j pos}:PE X (.Constant (.int i) j pos) (tC (.int i)):=fun _ _ _ H _ I h=>wpAny_Constant_int ⟨.int i,H,I.tok _,⟨_,rfl⟩,h⟩
theorem Zcf {b j pos}:PE X (.Constant (.bool b) j pos) (tC (.bl b)):=fun _ _ _ H _ I h=>Constant_bool ⟨.bl b,H,I,rfl,h⟩
theorem Z9z {j pos}:PE X (.Constant .none j pos) (tC .non):=fun _ _ _ H _ I h=>Constant_none ⟨.non,H,I,rfl,h⟩
theorem Z18 {x j pos}:PE X (.Constant (.str x) j pos) (tC (.str x)):=fun _ _ _ H _ I h=>Calls.Constant_str ⟨.str x,H,I.tok _,⟨_,rfl⟩,h⟩
def Gl (X:Cx) (x:Str):Prop:=X.env.kindOf x=some .globalImplicit
theorem Uc {E:Value->Shared->Prop} {pins:List (Addr×Obj)} {s:Shared} {σ:St} {H:Hp} {x:Str} {u:Value} {pos:Pos} {Q:Value->Shared->Prop} (I:Inv X pins σ H s) (hg:Gl X x) (hm:X.mg x=some u) (h:Q u s)
  (hd:(x==("__debug__" : Str))=false:=by decide):wpAny (model X.prog X.w) X.A (eval (.Name x pos) X.env) Q E s :=
 Calls.Name_function_global I.ok.kind hg (Calls.loadGlobal_global (by rw [I.ok.glob];exact I.mod.glob.keeps I.bk) hm h) hd
theorem M4 {E:Value->Shared->Prop} {pins:List (Addr×Obj)} {s:Shared} {σ:St} {H:Hp} {x:Str} {u:Value} {pos:Pos} {Q:Value->Shared->Prop} (I:Inv X pins σ H s) (hg:Gl X x) (hm:X.mg x=none) (hv:bootBuiltins x=some u) (h:Q u s)
  (hn:x≠"__name__" := by decide) (hd:(x==("__debug__" : Str))=false:=by decide):wpAny (model X.prog X.w) X.A (eval (.Name x pos) X.env) Q E s:=by
 obtain ⟨mb,h1,h2⟩:=I.mod.blt;exact Calls.Name_function_global I.ok.kind hg (Calls.loadGlobal_builtin (by rw [I.ok.glob];exact I.mod.glob.keeps I.bk) hm (by rw [I.ok.blt];exact h1.keeps I.bk) ((h2 x hn).trans hv) h) hd
theorem Z41 {x:Str} {v:V} {u:Value} {pos:Pos} (hg:Gl X x) (hm:X.mg x=none) (hv:bootBuiltins x=some u) (r:Yg v u) (hn:x≠"__name__" := by decide) (hd:(x==("__debug__" : Str))=false:=by decide):PE X (.Name x pos) (tC v) :=
 fun _ _ _ H _ I h=>M4 I hg hm hv ⟨v,H,I,r,h⟩ hn hd
variable {a b:Expr} {ta tb:TE} {pos:Pos}
def PC (X:Cx) (op:CmpOp) (a b:Expr) (t:TE):Prop :=
 ∀ (pins:List (Addr×Obj)) (s:Shared) (σ:St) (H:Hp) (Q:VK),Inv X pins σ H s->t σ H Q ->
  wpAny (model X.prog X.w) X.A (eval a X.env) (fun v s₁=>wpAny (model X.prog X.w) X.A (eval b X.env) (fun u s₂=>wpAny (model X.prog X.w) X.A (compareOp op v u) (EP X pins σ Q) X.xe s₂) X.xe s₁) X.xe s
def tB (t:TE):TT:=fun σ H Q=>t σ H fun x H1=>∃ c,x=.bl c/\Q c H1
theorem Z8b {op:CmpOp} {t:TE} (h:PC X op a b t) (h1:behindInMarks op b=false:=by first | exact nobehind _ (by decide) (by decide) | rfl):PE X (.Compare a [op] [b] pos) t:=fun pins s σ H Q I hw=>wpAny_Compare1 (h pins s σ H Q I hw) h1
theorem Z2v {op:CmpOp} {t:TE} (h:PC X op a b t) (h1:behindInMarks op b=false:=by first | exact nobehind _ (by decide) (by decide) | rfl):PT X (.Compare a [op] [b] pos) (tB t):=by
 intro pins s σ H Q I hw;refine wpAny_isTrue_Compare1 (Wh (h pins s σ H _ I hw) fun v s1 h1=>Wh h1 fun u s2 h2=>Wh h2 fun c s3 ⟨x,H1,I1,r1,q1⟩=>?_) h1;obtain ⟨d,rfl,q⟩:=q1;cases r1;exact wpAny_truthy_bool ⟨H1,I1,q⟩
variable {tA tB':TT} {rest:List Expr}
def Ze8 (t u:TT):TT:=fun σ H Q=>t σ H fun c H1=>if c=true then u σ H1 Q else Q false H1
def tOr (t u:TT):TT:=fun σ H Q=>t σ H fun c H1=>if c=true then Q true H1 else u σ H1 Q
def Zdd (t:TT):TT:=fun σ H Q=>t σ H fun c H1=>Q (!c) H1
theorem Z4c (ha:PT X a tA):PW X (.BoolOp .And [a] pos) tA:=by
 intro wh pins s σ H Q I h;refine isTrue_and (Wh (ha pins s σ H Q I h) fun c s1 e=>?_);cases c with
 | true=>exact isTrue_and_nil e
 | false=>exact e
theorem Z8y (ha:PT X a tA):PW X (.BoolOp .Or [a] pos) tA:=by
 intro wh pins s σ H Q I h;refine isTrue_or (Wh (ha pins s σ H Q I h) fun c s1 e=>?_);cases c with
 | false=>exact isTrue_or_nil e
 | true=>exact e
theorem Z99 (ha:PT X a tA) (hb:PW X (.BoolOp .And (b::rest) pos) tB'):PW X (.BoolOp .And (a::b::rest) pos) (Ze8 tA tB'):=by
 intro wh pins s σ H Q I h;refine isTrue_and (Wh (ha pins s σ H _ I h) fun c s1 ⟨H1,I1,q1⟩=>?_);cases c with
 | true=>exact hb wh pins s1 σ H1 Q I1 q1
 | false=>exact ⟨H1,I1,q1⟩
theorem Zbl (ha:PT X a tA) (hb:PW X (.BoolOp .Or (b::rest) pos) tB'):PW X (.BoolOp .Or (a::b::rest) pos) (tOr tA tB'):=by
 intro wh pins s σ H Q I h;refine isTrue_or (Wh (ha pins s σ H _ I h) fun c s1 ⟨H1,I1,q1⟩=>?_);cases c with
 | true=>exact ⟨H1,I1,q1⟩
 | false=>exact hb wh pins s1 σ H1 Q I1 q1
theorem Z75 (ha:PT X a tA):PT X (.UnaryOp .Not a pos) (Zdd tA):=by
 intro pins s σ H Q I h;exact isTrue_not (ha pins s σ H (fun c H1=>Q (!c) H1) I h)
def Zb6 (ta tb:TE):TE:=fun σ H Q=>ta σ H fun x H1=>∃ c,x=.bl c/\if c=true then tb σ H1 Q else Q (.bl false) H1
def Zbz (ta:TE):TE:=fun σ H Q=>ta σ H fun x H1=>∃ c,x=.bl c/\Q (.bl (!c)) H1
theorem Z8h {op} {t:TE} (h:PE X a t):PE X (.BoolOp op [a] pos) t:=fun pins s σ H Q I hw=>BoolOp_one (h pins s σ H Q I hw)
theorem Z7o (ha:PE X a ta) (hb:PE X (.BoolOp .And (b::rest) pos) tb):PE X (.BoolOp .And (a::b::rest) pos) (Zb6 ta tb):=by
 intro pins s σ H Q I h;refine BoolOp_and (Wh (ha pins s σ H _ I h) fun v s1 ⟨x,H1,I1,r1,q1⟩=>?_);obtain ⟨c,rfl,q1⟩:=q1;cases r1;refine wpAny_truthy_bool ?_;cases c with
 | true=>exact hb pins s1 σ H1 Q I1 q1
 | false=>exact ⟨.bl false,H1,I1,rfl,q1⟩
theorem Z9f (ha:PE X a ta):PE X (.UnaryOp .Not a pos) (Zbz ta):=by
 intro pins s σ H Q I h;refine UnaryOp_ (Wh (ha pins s σ H _ I h) fun v s1 ⟨x,H1,I1,r1,q1⟩=>?_);obtain ⟨c,rfl,q1⟩:=q1;cases r1;exact not_of (wpAny_truthy_bool ⟨.bl (!c),H1,I1,rfl,q1⟩)
end
def R1 (K:PySem.W.Frag) (H:Hp) (a:Addr) (xs:List V):Prop :=
 Rd H a (.lst xs) \/
  ∃ (o:Obj) (its:Array Value) (n:Nat),K.lookup a=some o/\o.cls=.type "list" /\ o.dict=none/\o.data=.seq its n/\its.size<=sizeLine/\Zx xs its.toList
def Mv (K:PySem.W.Frag) (H:Hp) (a:Addr) (xs:List V):Prop :=
 H a=some (.tup xs) \/
  ∃ (o:Obj) (its:Array Value) (n:Nat),K.lookup a=some o/\o.cls=.type "tuple" /\ o.data=.seq its n/\its.size<=sizeLine/\Zx xs its.toList/\∀ i:Int,V.int i∉xs
def Zd9:Value->Option V
 | .none=>some .non
 | .bool b=>some (.bl b)
 | .int i _=>some (.int i)
 | .str x _=>some (.str x)
 | .bytes b _=>some (.byt b)
 | .float b _=>some (.flt b)
 | .ref a=>some (.ref a)
 | .type n=>some (.ty n)
 | _=>none
theorem Yg.abs {x:V} {u:Value} (r:Yg x u):Zd9 u=some x:=by
 cases x with
 | non=>cases r;rfl
 | bl _=>cases r;rfl
 | int _=>obtain ⟨t,rfl⟩:=r;rfl
 | str _=>obtain ⟨t,rfl⟩:=r;rfl
 | byt _=>obtain ⟨t,rfl⟩:=r;rfl
 | flt _=>obtain ⟨t,rfl⟩:=r;rfl
 | ref _=>cases r;rfl
 | ty _=>cases r;rfl
theorem Yg.inj {x y:V} {u:Value} (r:Yg x u) (q:Yg y u):x=y:=Option.some.inj (r.abs.symm.trans q.abs)
theorem Zx.inj:∀ {xs ys:List V} {us:List Value},Zx xs us->Zx ys us->xs=ys
 | _,_,_,.nil,.nil=>rfl
 | _,_,_,.cons r t,.cons r' t'=>by rw [r.inj r',Zx.inj t t']
section
variable {X:Cx} {pins:List (Addr×Obj)} {σ:St} {H:Hp} {s:Shared} {a:Addr} {xs ys:List V}
theorem R1.of {K:PySem.W.Frag} (h:H a=some (.lst xs)):R1 K H a xs:=.inl (.inl h)
theorem Inv.list (I:Inv X pins σ H s) (h:R1 X.K H a xs):∃ its:List Value,Zx xs its/\PlainL s.heap a its.toArray/\xs.length<=sizeLine:=by
 rcases h with h | ⟨o,its,n,hk,hc,hd,hs,hz,r⟩
 ·obtain ⟨z,its,n,r,e⟩:=h.ok I.hok
  exact ⟨its,r,⟨_,n,e,rfl,rfl,rfl⟩,z⟩
 ·refine ⟨its.toList,r,⟨o,n,I.kIn a o hk,hc,hd,by simpa using hs⟩,?_⟩
  have e:=r.length;simp only [Array.length_toList] at e;lia
theorem Inv.tuple (I:Inv X pins σ H s) (h:Mv X.K H a xs):∃ its:List Value,Zx xs its/\IsTup s.heap a its.toArray/\xs.length<=sizeLine:=by
 rcases h with h | ⟨o,its,n,hk,hc,hs,hz,r,_⟩
 ·obtain ⟨z,its,r,p⟩:=(Rd.of h).ok I.hok
  exact ⟨its,r,p,z⟩
 ·refine ⟨its.toList,r,⟨o,I.kIn a o hk,hc,n,by simpa using hs⟩,?_⟩
  have e:=r.length;simp only [Array.length_toList] at e;lia
theorem Inv.list_inj (I:Inv X pins σ H s) (h:R1 X.K H a xs) (h':R1 X.K H a ys):xs=ys:=by
 obtain ⟨its,r,⟨o,n,e,_,_,d⟩,_⟩:=I.list h;obtain ⟨its',r',⟨o',n',e',_,_,d'⟩,_⟩:=I.list h';rw [e] at e';cases e';rw [d] at d';injection d' with d1 _
 have:its=its':=by simpa using congrArg Array.toList d1
 subst this;exact r.inj r'
theorem Inv.tuple_inj (I:Inv X pins σ H s) (h:Mv X.K H a xs) (h':Mv X.K H a ys):xs=ys:=by
 obtain ⟨its,r,⟨o,e,_,n,d⟩,_⟩:=I.tuple h;obtain ⟨its',r',⟨o',e',_,n',d'⟩,_⟩:=I.tuple h';rw [e] at e';cases e';rw [d] at d';injection d' with d1 _
 have:its=its':=by simpa using congrArg Array.toList d1
 subst this;exact r.inj r'
end
abbrev Cx.wish (X:Cx) (E:Value->Shared->Prop):Cx:={ X with xe:=E }
abbrev Cx.nox (X:Cx):Cx:=X.wish fun _ _=>False
theorem Cx.Ok.wish {X:Cx} (ok:X.Ok) (E:Value->Shared->Prop):(X.wish E).Ok :=
 ⟨ok.mod,ok.kind,ok.glob,ok.blt,ok.above,ok.inj,ok.has,ok.cab,ok.hd,ok.frames,ok.stk,ok.exf,ok.bs,ok.bsz,ok.noex,ok.exfs,ok.funs,ok.frf⟩
theorem Cx.Ok.unwish {X:Cx} {E:Value->Shared->Prop} (ok:(X.wish E).Ok):X.Ok :=
 ⟨ok.mod,ok.kind,ok.glob,ok.blt,ok.above,ok.inj,ok.has,ok.cab,ok.hd,ok.frames,ok.stk,ok.exf,ok.bs,ok.bsz,ok.noex,ok.exfs,ok.funs,ok.frf⟩
section
variable {X:Cx} {pins:List (Addr×Obj)} {σ:St} {H:Hp} {s:Shared} {E:Value->Shared->Prop}
theorem Inv.wish (I:Inv X pins σ H s) (E:Value->Shared->Prop):Inv (X.wish E) pins σ H s:=⟨I.ok.wish E,I.os,I.bare,I.base,I.loc,I.cell,I.free,I.freeC,I.pin,I.hok,I.len⟩
theorem Inv.unwish (I:Inv (X.wish E) pins σ H s):Inv X pins σ H s:=⟨I.ok.unwish,I.os,I.bare,I.base,I.loc,I.cell,I.free,I.freeC,I.pin,I.hok,I.len⟩
theorem SP.unwish {D:Ends} {f:Flow} {s':Shared} (h:SP (X.wish E) pins D f s'):SP X pins D f s':=by
 cases f with
 | next=>obtain ⟨σ',H',I,q⟩:=h;exact ⟨σ',H',I.unwish,q⟩
 | brk=>obtain ⟨σ',H',I,q⟩:=h;exact ⟨σ',H',I.unwish,q⟩
 | cont=>obtain ⟨σ',H',I,q⟩:=h;exact ⟨σ',H',I.unwish,q⟩
 | ret u=>obtain ⟨v,σ',H',I,r,q⟩:=h;exact ⟨v,σ',H',I.unwish,r,q⟩
theorem Ro.nox {st:List Stmt} {t:TS} (h:Ro X.nox st t):Ro X st t:=fun pins s σ H D I hw =>
 wpAny_mono (h pins s σ H D (I.wish _) hw) (fun _ _ q=>q.unwish) fun _ _ z=>False.elim z
end
section
variable {X:Cx} {st:Stmt} {rest:List Stmt} {t u:TS} {e:Expr} {te:TE} {pos:Pos}
def Zbn:TS:=fun D σ H=>D.nx σ H
def Z9y (t u:TS):TS:=fun D σ H=>t { D with nx:=u D } σ H
theorem Z42:Ro X [] Zbn:=fun _ _ σ H _ I h=>wpAny_execs_nil ⟨σ,H,I,h⟩
theorem Ih (h1:PS X st t) (h2:Ro X rest u):Ro X (st::rest) (Z9y t u):=by
 intro pins s σ H D I h;refine wpAny_execs_cons (Wh (h1 pins s σ H { D with nx:=u D } I h) fun f s1 q=>?_);cases f with
 | next =>
  obtain ⟨σ',H',I',q⟩:=q;exact h2 pins s1 σ' H' D I' q
 | ret v=>exact q
 | brk=>exact q
 | cont=>exact q
theorem Gi (h1:PS X st t):Ro X [st] t:=by
 intro pins s σ H D I h;refine wpAny_execs_cons (Wh (h1 pins s σ H D I h) fun f s1 q=>?_);cases f with
 | next=>exact wpAny_execs_nil q
 | ret v=>exact q
 | brk=>exact q
 | cont=>exact q
def Zas:TS:=fun D σ H=>D.ct σ H
theorem P3:PS X (.Continue pos) Zas:=fun _ _ σ H _ I h=>wpAny_Continue ⟨σ,H,I,h⟩
theorem Inv.quiet {pins:List (Addr×Obj)} {σ:St} {H:Hp} {s:Shared} (I:Inv X pins σ H s):interactive X.env=false:=by simp [interactive,I.ok.kind]
def Z2a (te:TE):TS:=fun D σ H=>te σ H fun _ H1=>D.nx σ H1
theorem Sv (he:PE X e te) (hs:swapsWith e none pos.line X.env=pure false:=by rfl):PS X (.Expr e pos) (Z2a te):=by
 intro pins s σ H D I h;exact wpAny_Expr_any (Wh (he pins s σ H _ I h) fun v s1 ⟨x,H1,I1,r1,q1⟩=>⟨σ,H1,I1,q1⟩) I.quiet hs
def Zdj (te:TE):TS:=fun D σ H=>te σ H D.rt
theorem H9 (he:PE X e te):PS X (.Return (some e) pos) (Zdj te):=by
 intro pins s σ H D I h;exact wpAny_Return_some (Wh (he pins s σ H _ I h) fun v s1 ⟨x,H1,I1,r1,q1⟩=>⟨x,σ,H1,I1,r1,q1⟩)
def Zdt (c:TT) (t u:TS):TS:=fun D σ H=>c σ H fun b H1=>if b=true then t D σ H1 else u D σ H1
theorem Zca {c:Expr} {a b:List Stmt} {tc:TT} (hc:PT X c tc) (ha:Ro X a t) (hb:Ro X b u):PS X (.If c a b pos) (Zdt tc t u):=by
 intro pins s σ H D I h;refine wpAny_If (Wh (hc pins s σ H _ I h) fun d s1 ⟨H1,I1,q1⟩=>?_);cases d with
 | true=>exact ha pins s1 σ H1 D I1 q1
 | false=>exact hb pins s1 σ H1 D I1 q1
end
abbrev TG:=V->St->Hp->(St->Hp->Prop)->Prop
abbrev TGs:=List V->St->Hp->(St->Hp->Prop)->Prop
def PG (X:Cx) (target:Expr) (t:TG):Prop :=
 ∀ (pins:List (Addr×Obj)) (s:Shared) (σ:St) (H:Hp) (v:V) (u:Value) (Q:St->Hp->Prop),Inv X pins σ H s->Yg v u->t v σ H Q ->
  wpAny (model X.prog X.w) X.A (assign target X.env u) (fun _ s'=>∃ σ' H',Inv X pins σ' H' s'/\Q σ' H') X.xe s
def PGs (X:Cx) (ts:List Expr) (t:TGs):Prop :=
 ∀ (pins:List (Addr×Obj)) (s:Shared) (σ:St) (H:Hp) (vs:List V) (us:List Value) (Q:St->Hp->Prop),Inv X pins σ H s->Zx vs us->t vs σ H Q ->
  wpAny (model X.prog X.w) X.A (assignInOrder ((assignEach ts X.env).map (·.2)) us) (fun _ s'=>∃ σ' H',Inv X pins σ' H' s'/\Q σ' H') X.xe s
abbrev TIp:=V->V->Hp->VK->Prop
def PIp (X:Cx) (op:Operator) (t:TIp):Prop :=
 ∀ (pins:List (Addr×Obj)) (s:Shared) (σ:St) (H:Hp) (x y:V) (v u:Value) (Q:VK),Inv X pins σ H s->Yg x v->Yg y u->t x y H Q ->
  wpAny (model X.prog X.w) X.A (inplaceOp op v u) (EP X pins σ Q) X.xe s
section
variable {X:Cx} {pos:Pos}
def Ai (i:Nat):TG:=fun v σ H Q=>Q (σ.set i (some v)) H
theorem Z5u {i:Nat} {x:Str} (hN:X.N.Nodup) (hi:X.N[i]?=some x) (hx:Fj X.env.scope x) (hf:X.fn x=true\/X.env.scope.names.lookup x=some .local:=by first | exact .inl rfl | exact .inr rfl | assumption):PG X (.Name x pos) (Ai i):=by
 intro pins s σ H v u Q I r h;exact wpAny_assign_Name (Hw I hN hi hx r (fun s' I'=>⟨_,H,I',h⟩) hf)
def Ze9:TGs:=fun vs σ H Q=>vs=[]/\Q σ H
def Zb0 (t:TG) (u:TGs):TGs:=fun vs σ H Q=>∃ v r,vs=v::r/\t v σ H fun σ' H'=>u r σ' H' Q
theorem Z44:PGs X [] Ze9:=by
 intro pins s σ H vs us Q I r h;obtain ⟨e,h⟩:=h;subst e;cases r;exact assignInOrder_nil ⟨σ,H,I,h⟩
theorem Z0t {e:Expr} {es:List Expr} {t:TG} {u:TGs} (h1:PG X e t) (h2:PGs X es u)
  (hs:(assignEach (e::es) X.env).map (·.2)=assign e X.env::(assignEach es X.env).map (·.2):=by rfl):PGs X (e::es) (Zb0 t u):=by
 intro pins s σ H vs us Q I r h;obtain ⟨v,vr,e1,h⟩:=h;subst e1;cases r with
 | cons r rr =>
  rw [hs];refine assignInOrder_cons (Wh (h1 pins s σ H _ _ _ I r h) fun _ s1 ⟨σ1,H1,I1,q1⟩=>?_);exact h2 pins s1 σ1 H1 _ _ Q I1 rr q1
def Zbo (K:PySem.W.Frag) (n:Nat) (t:TGs):TG:=fun v σ H Q=>∃ a xs,v=.ref a/\Mv K H a xs/\xs.length=n/\t xs σ H Q
theorem Z7j {es:List Expr} {k:Nat} {t:TGs} {n:Nat} (hc:X.calm=true) (h:PGs X es t)
  (hn:(assignEach es X.env).length=n:=by rfl) (hst:(assignEach es X.env).findIdx? (·.1)=none:=by rfl):PG X (.Tuple es k pos) (Zbo X.K n t):=by
 intro pins s σ H v u Q I r hw;obtain ⟨a,xs,e1,hq,hl,hw⟩:=hw;subst e1;cases r;obtain ⟨its,rv,ht,hz⟩:=I.tuple hq;refine assign_Tuple_tuple (I.ok.hd hc) ht (by simp [hn,← hl,rv.length]) hst fun h' hx=>?_
 have I1:Inv X pins σ H { s with heap:=h' }:=I.kept (t':=s.toks) fun b o e=>hx b o (ne_of_lt (lt_size e)) e
 exact h pins _ σ H xs _ Q I1 (by simpa using rv) hw
def Z9k (te:TE) (g:TG):TS:=fun D σ H=>te σ H fun x H1=>g x σ H1 D.nx
theorem Z73 {tg e:Expr} {te:TE} {g:TG} (he:PE X e te) (hg:PG X tg g) (hs:swapsWithSole [tg] e pos.line X.env=pure false:=by rfl) (hw:swappedStores [tg] e X.env=pure none:=by rfl)
  (h1:(assignEach [tg] X.env).map (·.2)=[assign tg X.env]:=by rfl):PS X (.Assign [tg] e pos) (Z9k te g):=by
 intro pins s σ H D I h;refine wpAny_Assign_stores (Wh (he pins s σ H _ I h) fun v s1 ⟨x,H1,I1,r1,q1⟩=>?_) hs hw;rw [h1];exact Wh (hg pins s1 σ H1 x v _ I1 r1 q1) fun _ s2 q=>q
theorem K0 {i:Nat} {x:Str} {e:Expr} {te:TE} {pos':Pos} (hN:X.N.Nodup) (hi:X.N[i]?=some x) (hx:Fj X.env.scope x) (he:PE X e te) (hs:swapsWith e (some (.Name x pos')) pos.line X.env=pure false:=by rfl) (hf:X.fn x=true\/X.env.scope.names.lookup x=some .local:=by first | exact .inl rfl | exact .inr rfl | assumption) :
  PS X (.Assign [.Name x pos'] e pos) (Z9k te (Ai i)):=by
 intro pins s σ H D I h;refine wpAny_Assign_Name (Wh (he pins s σ H _ I h) fun v s1 ⟨y,H1,I1,r1,q1⟩=>?_) hs;exact Hw I1 hN hi hx r1 (fun s2 I2=>⟨_,H1,I2,q1⟩) hf
def Ze6 (i:Nat) (te:TE) (ti:TIp):TS:=fun D σ H=>∃ x,σ[i]?=some (some x)/\te σ H fun y H1=>ti x y H1 fun z H2=>D.nx (σ.set i (some z)) H2
theorem Z7u {i:Nat} {x:Str} {e:Expr} {te:TE} {op:Operator} {ti:TIp} {pos':Pos} (hN:X.N.Nodup) (hi:X.N[i]?=some x) (hx:Fj X.env.scope x) (he:PE X e te) (ho:PIp X op ti) (hf:X.fn x=true\/X.env.scope.names.lookup x=some .local:=by first | exact .inl rfl | exact .inr rfl | assumption) :
  PS X (.AugAssign (.Name x pos') op e pos) (Ze6 i te ti):=by
 intro pins s σ H D I h;obtain ⟨v,e1,h⟩:=h;obtain ⟨m,hn,hl⟩:=I.loc;have vis:Vis X.env.scope x:=by rcases hx with k | k;exact .inl k;exact .inr (.inl k)
 obtain ⟨u,r,l⟩:=hl i x v hi e1 vis;refine wpAny_AugAssign_Name ?_;have go:wpAny (model X.prog X.w) X.A (eval e X.env) (fun w s₂=>wpAny (model X.prog X.w) X.A (inplaceOp op u w) (fun r s₃=>wpAny (model X.prog X.w) X.A (storeName X.env x r) (fun _=>SP X pins D .next) X.xe s₃) X.xe s₂) X.xe s:=by
  refine Wh (he pins s σ H _ I h) fun w s1 ⟨y,H1,I1,r1,q1⟩=>?_
  refine Wh (ho pins s1 σ H1 v y u w _ I1 r r1 q1) fun z s2 ⟨zv,H2,I2,r2,q2⟩=>?_
  exact Hw I2 hN hi hx r2 (fun s3 I3=>⟨_,H2,I3,q2⟩) hf
 rcases l with ⟨hk,hm⟩ | ⟨hk,c,hc,hcell⟩
 ·exact wpAny_loadName_local I.ok.kind hk hn hm go
 ·rcases hk with hk | hk
  ·exact wpAny_loadName_cell I.ok.kind hk hc hcell go
  ·rcases hx with k | k
   ·have:X.env.scope.names.lookup x=some .free:=hk
    rw [k] at this;cases this
   ·have:X.env.scope.names.lookup x=some .free:=hk
    rw [k] at this;cases this
def ipI (f:Int->Int->Int):TIp:=fun x y H Q=>∃ i j,x=.int i/\y=.int j/\Q (.int (f i j)) H
theorem Z7t:PIp X .Add (ipI fun i j=>i+j):=by
 intro pins s σ H x y v u Q I r1 r2 h;obtain ⟨i,j,e1,e2,q⟩:=h;subst e1;subst e2;obtain ⟨t,rfl⟩:=r1;obtain ⟨t',rfl⟩:=r2;exact iadd_int ⟨.int _,H,I.tok _,⟨_,rfl⟩,q⟩
def Z7e (c:TT) (tb:TS):TS:=fun D σ H=>∃ W:Nat->St->Hp->Prop,(∃ m,W m σ H)/\∀ m σ H,W m σ H ->
 c σ H fun b H1=>if b=true then ∃ N:St->Hp->Prop,(∀ σ' H',N σ' H'->∃ m',m'<m/\W m' σ' H')/\tb { D with nx:=N,ct:=N,bk:=D.nx } σ H1 else D.nx σ H1
theorem Z2n {c:Expr} {body:List Stmt} {tc:TT} {tb:TS} (hp:PassesOwn (model X.prog X.w) X.A X.env X.xe) (hc:PT X c tc) (hb:Ro X body tb):PS X (.While c body [] pos) (Z7e tc tb):=by
 intro pins s σ H D I h;obtain ⟨W,⟨m0,w0⟩,turn⟩:=h;refine wpAny_While (codeAny_whileLoop (fun n s'=>∃ σ' H',Inv X pins σ' H' s'/\W n σ' H') ?_ m0 ⟨σ,H,I,w0⟩);rintro n s1 ⟨σ1,H1,I1,w1⟩;refine wpAny_passesOwn hp (Wh (hc pins s1 σ1 H1 _ I1 (turn n σ1 H1 w1)) fun b s2 ⟨H2,I2,q2⟩=>?_);cases b with
 | true =>
  obtain ⟨N,hN,q2⟩:=q2;rw [if_pos rfl];refine wpAny_passesOwn hp (Wh (hb pins s2 σ1 H2 _ I2 q2) fun f s3 q3=>?_);cases f with
  | next =>
   obtain ⟨σ3,H3,I3,n3⟩:=q3;obtain ⟨m',hm,w3⟩:=hN σ3 H3 n3;exact ⟨m',hm,σ3,H3,I3,w3⟩
  | cont =>
   obtain ⟨σ3,H3,I3,n3⟩:=q3;obtain ⟨m',hm,w3⟩:=hN σ3 H3 n3;exact ⟨m',hm,σ3,H3,I3,w3⟩
  | brk=>exact q3
  | ret v=>exact q3
 | false =>
  rw [if_neg Bool.false_ne_true];exact wpAny_execs_nil ⟨σ1,H2,I2,q2⟩
end
structure It where
 go:Nat->Hp->Prop
 yld:Nat->Hp->V->Hp->Prop
 stop:Nat->Hp->Prop
def S3 (X:Cx) (pins:List (Addr×Obj)) (H:Hp) (b:Addr):Prop :=
 H b=none/\b≠X.env.locals/\b∉X.fs/\(b∈X.ex\/X.s₀.heap.objs.size<=b)/\(∀ x c,X.env.cells.lookup x=some c->c≠b)/\∀ p∈X.pn++pins,p.1≠b
theorem Inv.fpOk {X:Cx} {pins:List (Addr×Obj)} {σ:St} {H H':Hp} {s:Shared} {b:Addr} (I:Inv X pins σ H s) (hb:s.heap.objs.size<=b) (hn:H' b=none):S3 X pins H' b:=by
 refine ⟨hn,Nat.ne_of_gt (lt_of_lt_of_le I.lt hb),I.nofs hb,.inr (le_trans I.sz hb),fun x c e z=>?_,fun p hp z=>?_⟩
 ·obtain ⟨v,q⟩:=I.cell x c e
  exact absurd (lt_of_lt_of_le q.lt (by rw [z];exact hb)) (lt_irrefl _)
 ·exact absurd (lt_of_lt_of_le (lt_size (I.pin p hp).1) (by rw [z];exact hb)) (lt_irrefl _)
structure Turn (P:Program) (w:World) (K:PySem.W.Frag) (tg:Expr) (J:It) (fp:List Addr) (it:Addr) (tn:Nat->Heap->Prop):Prop where
 mem:it∈fp
 obj:∀ i h,tn i h->∀ b∈fp,∃ o,h.get? b=some o/\∀ v,o.data≠.cell v
 keep:∀ i h h',tn i h->(∀ b∈fp,∀ o,h.get? b=some o->h'.get? b=some o)->tn i h'
 item:∀ (X:Cx),X.prog=P->X.w=w->X.K=K->X.calm=true->∀ (i:Nat) (pins:List (Addr×Obj)) (s:Shared) (σ:St) (H:Hp) (E:Value->Shared->Prop),Inv X pins σ H s->(∀ b∈fp,S3 X pins H b)->tn i s.heap->J.go i H ->
  wpAny (model P w) X.A (pyNext (.ref it)) (fun r s1=>∃ u,r=some u /\
   wpAny (model P w) X.A (letOwnedTupleGo tg (.ref it) u) (fun _ s2=>∃ x H',Inv X pins σ H' s2/\Yg x u/\J.yld i H x H'/\tn (i+1) s2.heap/\∀ b∈fp,H' b=none) E s1) E s
 done:∀ (X:Cx),X.prog=P->X.w=w->X.K=K->X.calm=true->∀ (i:Nat) (pins:List (Addr×Obj)) (s:Shared) (σ:St) (H:Hp) (E:Value->Shared->Prop),Inv X pins σ H s->(∀ b∈fp,S3 X pins H b)->tn i s.heap->J.stop i H ->
  wpAny (model P w) X.A (pyNext (.ref it)) (fun r s1=>r=none/\Inv X pins σ H s1) E s
 self:∀ (A:Around) (i:Nat) (s:Shared) (Q:Value->Shared->Prop) (E:Value->Shared->Prop),tn i s.heap->Q (.ref it) s->wpAny (model P w) A (pyIter (.ref it)) Q E s
abbrev TI:=St->Hp->(It->Hp->Prop)->Prop
def PIE (X:Cx) (pins:List (Addr×Obj)) (σ:St) (tg:Expr) (R:It->Hp->Prop) (itv:Value) (s2:Shared):Prop :=
 ∃ (it:Addr) (fp:List Addr) (tn:Nat->Heap->Prop) (J:It) (H':Hp),itv=.ref it/\Inv X pins σ H' s2/\Turn X.prog X.w X.K tg J fp it tn/\tn 0 s2.heap/\(∀ b∈fp,S3 X pins H' b)/\R J H'
def PI (X:Cx) (tg iter:Expr) (wi:TI):Prop :=
 ∀ (pins:List (Addr×Obj)) (s:Shared) (σ:St) (H:Hp) (R:It->Hp->Prop),Inv X pins σ H s->wi σ H R ->
  wpAny (model X.prog X.w) X.A (eval iter X.env) (fun v s1=>wpAny (model X.prog X.w) X.A (pyIter v) (PIE X pins σ tg R) X.xe s1) X.xe s
theorem Z2t {M:Model} {A:Around} {E:Value->Shared->Prop} {s:Shared} {tg:Expr} {it:Addr} {u:Value} {o:Obj} {n:String} {vs:Array Value} {Q:Unit->Shared->Prop} (ho:s.heap.get? it=some o) (hc:o.cls=.type n) (hd:o.data=.fields vs)
   (hn:["enumerate","zip","dict_itemiterator","dict_reverseitemiterator","odict_iterator","itertools.zip_longest","itertools.pairwise"].contains n=false) (hQ:Q () s):wpAny M A (letOwnedTupleGo tg (.ref it) u) Q E s:=by
 unfold letOwnedTupleGo;cases tg<;>first
   | exact wpAny_pure hQ
   | (cases u<;>first
       | exact wpAny_pure hQ
       | (refine wpAny_bind (wpAny_load ho ?_)
          rw [hc,hd];show wpAny M A (if (["enumerate","zip","dict_itemiterator","dict_reverseitemiterator","odict_iterator","itertools.zip_longest","itertools.pairwise"].contains n&&vs[0]?==some (rawInt _))=true then _ else _) Q E s;rw [if_neg (by intro h;rw [hn,Bool.false_and] at h;cases h)];exact wpAny_pure hQ))
def Itl (K:PySem.W.Frag) (a:Addr):It :=
 ⟨fun i H=>∃ xs x,R1 K H a xs/\xs[i]?=some x,fun i H x H'=>H'=H/\∀ xs,R1 K H a xs->xs[i]?=some x,fun i H=>∃ xs,R1 K H a xs/\xs.length<=i⟩
def Itt (K:PySem.W.Frag) (a:Addr):It :=
 ⟨fun i H=>∃ xs x,Mv K H a xs/\xs[i]?=some x,fun i H x H'=>H'=H/\∀ xs,Mv K H a xs->xs[i]?=some x,fun i H=>∃ xs,Mv K H a xs/\xs.length<=i⟩
def Itr (lo:Int) (n:Nat):It:=⟨fun i _=>i<n,fun i H x H'=>H'=H/\x=.int (lo+i),fun i _=>n<=i⟩
theorem Cf {P:Program} {w:World} {K:PySem.W.Frag} {tg:Expr} (a it:Addr):Turn P w K tg (Itl K a) [it] it (fun i h=>h.IsListIter it a i) where
 mem:=by simp
 obj:=fun i h st b hb=>by
  have e:b=it:=by simpa using hb
  subst e;obtain ⟨o,e,c,d⟩:=st;exact ⟨o,e,fun v z=>by rw [d] at z;cases z⟩
 keep:=fun i h h' st k=>st.at fun o e=>k it (by simp) o e
 item:=by
  intro X hP hw hK hc i pins s σ H E I hf st hg;subst hP hw hK;obtain ⟨xs,x,hq,hx⟩:=hg;obtain ⟨its,rv,p,hz⟩:=I.list hq;obtain ⟨u,hu,ru⟩:=rv.get hx;obtain ⟨f0,f1,f2,f3,f4,f5⟩:=hf it (by simp);refine wpAny_pyNext_list_item st p.isList (x:=u) (by simpa using hu) fun h' st' sb=>?_
  have I1:Inv X pins σ H { s with heap:=h' }:=I.turned (t':=s.toks) (fun b o hb e=>(sb.2 b hb).trans e) f0 f1 f3 f4 f5;obtain ⟨o,e,c,d⟩:=id st';exact ⟨u,rfl,Z2t (s:={ s with heap:=h' }) e c d (by decide) ⟨x,H,I1,ru,⟨rfl,fun ys hy=>by rw [I.list_inj hy hq];exact hx⟩,st',fun b hb=>(hf b hb).1⟩⟩
 done:=by
  intro X hP hw hK hc i pins s σ H E I hf st hg;subst hP hw hK;obtain ⟨xs,hq,hx⟩:=hg;obtain ⟨its,rv,p,hz⟩:=I.list hq;obtain ⟨f0,f1,f2,f3,f4,f5⟩:=hf it (by simp);have hl:=rv.length;exact wpAny_pyNext_list_end (I.ok.hd hc) st p.isList (by simp;lia) fun h' eb=>⟨rfl,I.turned (t':=s.toks) (fun b o hb e=>eb b o hb e) f0 f1 f3 f4 f5⟩
 self:=fun _ _ _ _ _ st h=>wpAny_pyIter_listiter st h
theorem Xh {P:Program} {w:World} {K:PySem.W.Frag} {tg:Expr} (a it:Addr):Turn P w K tg (Itt K a) [it] it (fun i h=>h.IsTupleIter it a i) where
 mem:=by simp
 obj:=fun i h st b hb=>by
  have e:b=it:=by simpa using hb
  subst e;obtain ⟨o,e,c,d⟩:=st;exact ⟨o,e,fun v z=>by rw [d] at z;cases z⟩
 keep:=fun i h h' st k=>st.at fun o e=>k it (by simp) o e
 item:=by
  intro X hP hw hK hc i pins s σ H E I hf st hg;subst hP hw hK;obtain ⟨xs,x,hq,hx⟩:=hg;obtain ⟨its,rv,p,hz⟩:=I.tuple hq;obtain ⟨u,hu,ru⟩:=rv.get hx;obtain ⟨f0,f1,f2,f3,f4,f5⟩:=hf it (by simp);refine wpAny_pyNext_tuple_item st (show s.heap.IsTuple a its.toArray from p) (x:=u) (by simpa using hu) fun h' st' sb=>?_
  have I1:Inv X pins σ H { s with heap:=h' }:=I.turned (t':=s.toks) (fun b o hb e=>(sb.2 b hb).trans e) f0 f1 f3 f4 f5;obtain ⟨o,e,c,d⟩:=id st';exact ⟨u,rfl,Z2t (s:={ s with heap:=h' }) e c d (by decide) ⟨x,H,I1,ru,⟨rfl,fun ys hy=>by rw [I.tuple_inj hy hq];exact hx⟩,st',fun b hb=>(hf b hb).1⟩⟩
 done:=by
  intro X hP hw hK hc i pins s σ H E I hf st hg;subst hP hw hK;obtain ⟨xs,hq,hx⟩:=hg;obtain ⟨its,rv,p,hz⟩:=I.tuple hq;obtain ⟨f0,f1,f2,f3,f4,f5⟩:=hf it (by simp);have hl:=rv.length;exact wpAny_pyNext_tuple_end (I.ok.hd hc) st (show s.heap.IsTuple a its.toArray from p) (by simp;lia) fun h' eb=>⟨rfl,I.turned (t':=s.toks) (fun b o hb e=>eb b o hb e) f0 f1 f3 f4 f5⟩
 self:=fun _ _ _ _ _ st h=>wpAny_pyIter_tupleiter st h
theorem X5 {P:Program} {w:World} {K:PySem.W.Frag} {tg:Expr} (it:Addr) (lo:Int) (n:Nat):Turn P w K tg (Itr lo n) [it] it (fun i h=>IsRangeIter h it (lo+(i:Nat)*1) ((n:Int) - (i:Nat)) 1) where
 mem:=by simp
 obj:=fun i h st b hb=>by
  have e:b=it:=by simpa using hb
  subst e;exact ⟨_,st,fun v z=>by
   have z':Data.fields _=Data.cell v:=z;cases z'⟩
 keep:=fun i h h' st k=>k it (by simp) _ st
 item:=by
  intro X hP hw hK hc i pins s σ H E I hf st hg;subst hP hw hK;obtain ⟨f0,f1,f2,f3,f4,f5⟩:=hf it (by simp);have W:=Walks.range (prog:=X.prog) (w:=X.w) (I.ok.hd hc) it lo 1 n;refine W.item i s _ _ hg st fun v h' tk hv st' kk=>?_
  obtain ⟨t,rfl⟩:=hv;have I1:Inv X pins σ H { s with heap:=h',toks:=tk }:=I.turned (fun b o hb e=>kk b o (by simpa using hb) e) f0 f1 f3 f4 f5;refine ⟨_,rfl,Z2t (s:={ s with heap:=h',toks:=tk }) (n:="range_iterator") st' rfl rfl (by decide) ⟨.int (lo+i),H,I1,⟨t,?_⟩,⟨rfl,rfl⟩,st',fun b hb=>(hf b hb).1⟩⟩;rw [Int.mul_one]
 done:=by
  intro X hP hw hK hc i pins s σ H E I hf st hg;subst hP hw hK;obtain ⟨f0,f1,f2,f3,f4,f5⟩:=hf it (by simp);exact wpAny_pyNext_range_end (I.ok.hd hc) st (by have:n<=i:=hg;lia) fun h' eb=>⟨rfl,I.turned (t':=s.toks) (fun b o hb e=>eb b o hb e) f0 f1 f3 f4 f5⟩
 self:=fun _ _ _ _ _ st h=>wpAny_pyIter_rangeiter st h
section
variable {X:Cx} {tg:Expr}
def Z6u (K:PySem.W.Frag) (tl:TE):TI:=fun σ H R=>tl σ H fun x H1=>∃ a,x=.ref a/\(∃ xs,R1 K H1 a xs)/\R (Itl K a) H1
def Zan (K:PySem.W.Frag) (tl:TE):TI:=fun σ H R=>tl σ H fun x H1=>∃ a,x=.ref a/\(∃ xs,Mv K H1 a xs)/\R (Itt K a) H1
theorem Z4m {l:Expr} {tl:TE} (hl:PE X l tl):PI X tg l (Z6u X.K tl):=by
 intro pins s σ H R I h;refine Wh (hl pins s σ H _ I h) fun v s1 ⟨x,H1,I1,r1,q1⟩=>?_
 obtain ⟨a,e,⟨xs,hq⟩,q⟩:=q1;subst e;cases r1;obtain ⟨its,rv,p,hz⟩:=I1.list hq;refine wpAny_pyIter_list p.isList ?_;refine ⟨s1.heap.objs.size,[s1.heap.objs.size],_,_,H1,rfl,I1.kept (t':=s1.toks) fun b o e=>get?_push_of_some _ e,Cf a _,⟨_,get?_push_size _ rfl,rfl,rfl⟩,fun b hb=>?_,q⟩;have e:b=s1.heap.objs.size:=by simpa using hb
 subst e;exact I1.fpOk (le_refl _) (I1.hok.fresh (le_refl _))
theorem Z8o {l:Expr} {tl:TE} (hl:PE X l tl):PI X tg l (Zan X.K tl):=by
 intro pins s σ H R I h;refine Wh (hl pins s σ H _ I h) fun v s1 ⟨x,H1,I1,r1,q1⟩=>?_
 obtain ⟨a,e,⟨xs,hq⟩,q⟩:=q1;subst e;cases r1;obtain ⟨its,rv,p,hz⟩:=I1.tuple hq;refine wpAny_pyIter_tuple (show s1.heap.IsTuple a its.toArray from p) ?_;refine ⟨s1.heap.objs.size,[s1.heap.objs.size],_,_,H1,rfl,I1.kept (t':=s1.toks) fun b o e=>get?_push_of_some _ e,Xh a _,⟨_,get?_push_size _ rfl,rfl,rfl⟩,fun b hb=>?_,q⟩;have e:b=s1.heap.objs.size:=by simpa using hb
 subst e;exact I1.fpOk (le_refl _) (I1.hok.fresh (le_refl _))
theorem On {pins:List (Addr×Obj)} {σ:St} {H:Hp} {s:Shared} {R:It->Hp->Prop} {E:Value->Shared->Prop} {lo hi:Int} {t u v:Tok} {tk:Nat} (I:Inv X pins σ H s) (h1 : -(2^62)<=lo) (h2:lo<2^62) (h3 : -(2^62)<=hi) (h4:hi<2^62)
  (q:R (Itr lo (hi - lo).toNat) H):wpAny (model X.prog X.w) X.A (pyIter (.ref s.heap.objs.size)) (PIE X pins σ tg R) E { s with heap:=s.heap.push { cls:=.type "range",data:=.fields #[.int lo t,.int hi u,.int 1 v] },toks:=tk }:=by
 refine wpAny_pyIter_range (IsRange.new ..) (small_one h1 h2 h3 h4) ?_;have I1:Inv X pins σ H { s with heap:=s.heap.push { cls:=.type "range",data:=.fields #[.int lo t,.int hi u,.int 1 v] },toks:=tk }:=I.kept fun b o e=>get?_push_of_some _ e
 refine ⟨(s.heap.push { cls:=.type "range",data:=.fields #[.int lo t,.int hi u,.int 1 v] }).objs.size,[(s.heap.push { cls:=.type "range",data:=.fields #[.int lo t,.int hi u,.int 1 v] }).objs.size],_,_,H,rfl,
  I1.kept (t':=tk) fun b o e=>get?_push_of_some _ e,X5 _ lo (hi - lo).toNat,?_,fun b hb=>?_,q⟩
 ·have e1:lo+((0:Nat):Int)*1=lo:=by simp
  have e2:(((hi - lo).toNat:Nat):Int) - ((0:Nat):Int)=Builtin.Range.rangeSize lo hi 1:=by rw [rangeSize_one];split<;>lia
  show IsRangeIter _ _ (lo+((0:Nat):Int)*1) ((((hi - lo).toNat:Nat):Int) - ((0:Nat):Int)) 1;rw [e1,e2];exact get?_push_size _ rfl
 ·have e:b=(s.heap.push { cls:=.type "range",data:=.fields #[.int lo t,.int hi u,.int 1 v] }).objs.size:=by simpa using hb
  subst e;exact I1.fpOk (le_refl _) (I1.hok.fresh (le_refl _))
def Zbu (ta:TA):TI:=fun σ H R=>ta σ H fun vs H1=>∃ j:Int,vs=[.int j]/\-(2^62)<=j/\j<2^62/\R (Itr 0 j.toNat) H1
def Zac (ta:TA):TI:=fun σ H R=>ta σ H fun vs H1=>∃ i j:Int,vs=[.int i,.int j]/\(-(2^62)<=i/\i<2^62/\-(2^62)<=j/\j<2^62)/\R (Itr i (j - i).toNat) H1
theorem Bo {a:Expr} {ta:TA} {p pos:Pos} (hg:Gl X "range") (hm:X.mg "range" = none) (ha:PA X [a] ta) (hs:starEach [a] X.env=[(false,eval a X.env)]:=by rfl):PI X tg (.Call (.Name "range" p) [a] [] pos) (Zbu ta):=by
 intro pins s σ H R I h;refine Call_ (M4 I hg hm boot_range (PyProof.Rows.callWith_type1 (Wh (ha pos pins s σ H _ I h) fun us s1 ⟨vs,H1,I1,r1,q1⟩=>?_) hs rfl));obtain ⟨j,e,q1,q2,q⟩:=q1;subst e;cases r1 with
 | cons r rr =>
  cases rr;obtain ⟨t,rfl⟩:=r;exact call_range_1 (On I1 (by lia) (by lia) q1 q2 (by simpa using q))
theorem Z05 {a b:Expr} {ta:TA} {p pos:Pos} (hg:Gl X "range") (hm:X.mg "range" = none) (ha:PA X [a,b] ta) (hs:starEach [a,b] X.env=[(false,eval a X.env),(false,eval b X.env)]:=by rfl) (hs2:starEach [b] X.env=[(false,eval b X.env)]:=by rfl) :
  PI X tg (.Call (.Name "range" p) [a,b] [] pos) (Zac ta):=by
 intro pins s σ H R I h;refine Call_ (M4 I hg hm boot_range (PyProof.Rows.callWith_type1 (Wh (ha pos pins s σ H _ I h) fun us s1 ⟨vs,H1,I1,r1,q1⟩=>?_) (by rw [hs,hs2]) (by rw [hs2];rfl)));obtain ⟨i,j,e,⟨q1,q2,q3,q4⟩,q⟩:=q1;subst e;cases r1 with
 | cons r rr =>
  cases rr with
  | cons r' rr =>
   cases rr;obtain ⟨t,rfl⟩:=r;obtain ⟨t',rfl⟩:=r';exact call_range_2 (On I1 q1 q2 q3 q4 q)
def Ze4 (wi:TI) (g:TG) (tb:TS):TS:=fun D σ H=>wi σ H fun J H1=>∃ W:Nat->Nat->St->Hp->Prop,(∃ m,W 0 m σ H1)/\∀ i m σ H,W i m σ H ->
 (J.stop i H/\D.nx σ H)\/(J.go i H/\∃ N:St->Hp->Prop,(∀ σ' H',N σ' H'->∃ m',m'<m/\W (i+1) m' σ' H')/\∀ x H',J.yld i H x H'->g x σ H' fun σ2 H2=>tb { D with nx:=N,ct:=N,bk:=D.nx } σ2 H2)
def Hb (fp:List Addr) (h:Heap):List (Addr×Obj):=fp.filterMap fun b=>(h.get? b).map fun o=>(b,o)
theorem Jw {fp:List Addr} {h:Heap} {b:Addr} {o:Obj} (hb:b∈fp) (e:h.get? b=some o):(b,o)∈Hb fp h:=List.mem_filterMap.mpr ⟨b,hb,by rw [e];rfl⟩
theorem By {fp:List Addr} {h:Heap} {p:Addr×Obj} (hp:p∈Hb fp h):p.1∈fp/\h.get? p.1=some p.2:=by
 obtain ⟨b,hb,e⟩:=List.mem_filterMap.mp hp;cases q:h.get? b with
 | none=>rw [q] at e;cases e
 | some o =>
  rw [q] at e;have e':(b,o)=p:=Option.some.inj e;subst e';exact ⟨hb,q⟩
theorem Inv.pinned {pins:List (Addr×Obj)} {σ:St} {H:Hp} {s:Shared} {fp:List Addr} (I:Inv X pins σ H s) (hf:∀ b∈fp,S3 X pins H b) (ho:∀ b∈fp,∃ o,s.heap.get? b=some o/\∀ v,o.data≠.cell v):Inv X (pins++Hb fp s.heap) σ H s :=
 I.pins_of fun p hp=>(mem_append.mp hp).elim (fun z=>I.pin p (mem_append_right _ z)) fun z=>by
  obtain ⟨hb,e⟩:=By z;obtain ⟨f0,f1,f2,_⟩:=hf p.1 hb;obtain ⟨o,e',d⟩:=ho p.1 hb;rw [e] at e';cases e';exact ⟨e,f0,f1,f2,d⟩
theorem Inv.unpinned {pins pl:List (Addr×Obj)} {σ:St} {H:Hp} {s:Shared} (I:Inv X (pins++pl) σ H s):Inv X pins σ H s:=I.pins_of fun p hp=>I.pin p (mem_append_right _ (mem_append_left _ hp))
theorem Z8e {iter:Expr} {body:List Stmt} {wi:TI} {g:TG} {tb:TS} {pos:Pos} (hp:PassesOwn (model X.prog X.w) X.A X.env X.xe) (hc:X.calm=true) (hi:PI X tg iter wi) (hg:PG X tg g) (hb:Ro X body tb)
  (hs:∀ x,foldedSetIterable iter X.env x=pure x:=by intro _;rfl):PS X (.For tg iter body [] pos) (Ze4 wi g tb):=by
 intro pins s σ H D I h;refine wpAny_For (Wh (hi pins s σ H _ I h) fun v s1 h1=>Wh h1 fun itv s2 h2=>?_) hs;obtain ⟨it,fp,tn,J,H2,e,I2,T,st2,f2,W,⟨m0,w0⟩,turn⟩:=h2;subst e
 -- what stays true of the iterator's objects through the loop
 have stat:∀ {H':Hp},(∀ b∈fp,H' b=none)->∀ b∈fp,S3 X pins H' b:=fun hn b hb=>⟨hn b hb,(f2 b hb).2⟩
 refine codeAny_forLoop_any (fun n s'=>∃ i σ' H',Inv X pins σ' H' s'/\tn i s'.heap/\(∀ b∈fp,H' b=none)/\W i n σ' H') ?_ m0 ⟨0,σ,H2,I2,st2,fun b hb=>(f2 b hb).1,w0⟩;rintro n s3 ⟨i,σ3,H3,I3,st3,fr3,w3⟩;rcases turn i n σ3 H3 w3 with ⟨stop,qn⟩ | ⟨go,N,hN,step⟩
 ·refine wpAny_passesOwn hp (Wh (T.done X rfl rfl rfl hc i pins s3 σ3 H3 X.xe I3 (stat fr3) st3 stop) fun r s4 ⟨hr,I4⟩=>?_)
  subst hr;exact wpAny_execs_nil ⟨σ3,H3,I4,qn⟩
 ·refine wpAny_passesOwn hp (Wh (T.item X rfl rfl rfl hc i pins s3 σ3 H3 X.xe I3 (stat fr3) st3 go) fun r s4 ⟨u,hr,h4⟩=>?_)
  subst hr;refine wpAny_passesOwn hp (Wh h4 fun _ s5 ⟨x,H5,I5,r5,y5,st5,fr5⟩=>?_);have I5':=I5.pinned (stat fr5) (T.obj _ _ st5);refine wpAny_passesOwn hp (Wh (hg _ s5 σ3 H5 x u _ I5' r5 (step x H5 y5)) fun _ s6 ⟨σ6,H6,I6,q6⟩=>?_);refine wpAny_passesOwn hp (Wh (hb _ s6 σ6 H6 _ I6 q6) fun f s7 q7=>?_);have again:∀ {σ7:St} {H7:Hp},Inv X (pins++Hb fp s5.heap) σ7 H7 s7->N σ7 H7->∃ m,m<n/\∃ i σ' H',Inv X pins σ' H' s7/\tn i s7.heap/\(∀ b∈fp,H' b=none)/\W i m σ' H':=fun {σ7 H7} I7 n7=>by
   obtain ⟨m',hm,w7⟩:=hN σ7 H7 n7;refine ⟨m',hm,i+1,σ7,H7,I7.unpinned,T.keep _ _ _ st5 fun b hb o e=>(I7.pin (b,o) (mem_append_right _ (mem_append_right _ (Jw hb e)))).1,fun b hb=>?_,w7⟩;obtain ⟨o,e,d⟩:=T.obj _ _ st5 b hb;exact (I7.pin (b,o) (mem_append_right _ (mem_append_right _ (Jw hb e)))).2.1
  cases f with
  | next=>obtain ⟨σ7,H7,I7,n7⟩:=q7;exact again I7 n7
  | cont=>obtain ⟨σ7,H7,I7,n7⟩:=q7;exact again I7 n7
  | brk=>obtain ⟨σ7,H7,I7,q7⟩:=q7;exact ⟨σ7,H7,I7.unpinned,q7⟩
  | ret v=>obtain ⟨x7,σ7,H7,I7,r7,q7⟩:=q7;exact ⟨x7,σ7,H7,I7.unpinned,r7,q7⟩
end
abbrev R2:=V->V->Hp->VK->Prop
def Ma (X:Cx) (f:Value->Value->Sem Value) (r:R2):Prop :=
 ∀ (pins:List (Addr×Obj)) (s:Shared) (σ:St) (H:Hp) (x y:V) (v u:Value) (Q:VK),Inv X pins σ H s->Yg x v->Yg y u->r x y H Q ->
  wpAny (model X.prog X.w) X.A (f v u) (EP X pins σ Q) X.xe s
def UnR (X:Cx) (f:Value->Sem Value) (r:V->Hp->VK->Prop):Prop :=
 ∀ (pins:List (Addr×Obj)) (s:Shared) (σ:St) (H:Hp) (x:V) (v:Value) (Q:VK),Inv X pins σ H s->Yg x v->r x H Q ->
  wpAny (model X.prog X.w) X.A (f v) (EP X pins σ Q) X.xe s
def Wn (X:Cx) (f:Value) (r:List V->Hp->VK->Prop):Prop :=
 ∀ (pins:List (Addr×Obj)) (s:Shared) (σ:St) (H:Hp) (xs:List V) (us:List Value) (Q:VK),Inv X pins σ H s->Zx xs us->r xs H Q ->
  wpAny (model X.prog X.w) X.A (call f us) (EP X pins σ Q) X.xe s
def Zdu (X:Cx) (r:V->Hp->(Bool->Hp->Prop)->Prop):Prop :=
 ∀ (pins:List (Addr×Obj)) (s:Shared) (σ:St) (H:Hp) (x:V) (v:Value) (Q:Bool->Hp->Prop),Inv X pins σ H s->Yg x v->r x H Q ->
  wpAny (model X.prog X.w) X.A (truthy v) (TP X pins σ Q) X.xe s
def tOp (r:R2) (ta tb:TE):TE:=fun σ H Q=>ta σ H fun x H1=>tb σ H1 fun y H2=>r x y H2 Q
def tUn (r:V->Hp->VK->Prop) (ta:TE):TE:=fun σ H Q=>ta σ H fun x H1=>r x H1 Q
def rI (C:Int->Int->Prop) (g:Int->Int->V):R2:=fun x y H Q=>∃ i j,x=.int i/\y=.int j/\C i j/\Q (g i j) H
def rI0 (g:Int->Int->V):R2:=fun x y H Q=>∃ i j,x=.int i/\y=.int j/\Q (g i j) H
def rU (g:Int->V):V->Hp->VK->Prop:=fun x H Q=>∃ i,x=.int i/\Q (g i) H
section
variable {X:Cx} {a b c:Expr} {ta tb tc:TE} {pos:Pos}
theorem Z91 (ha:PE X a ta) (hb:PE X b tb) {pins:List (Addr×Obj)} {s:Shared} {σ:St} {H:Hp} {R:V->V->Hp->Prop} (I:Inv X pins σ H s)
  (h:ta σ H fun x H1=>tb σ H1 fun y H2=>R x y H2) {Q:Value->Shared->Prop} {f:Value->Value->Sem Value}
  (hf:∀ v u s2 x y H2,Inv X pins σ H2 s2->Yg x v->Yg y u->R x y H2->wpAny (model X.prog X.w) X.A (f v u) Q X.xe s2) :
  wpAny (model X.prog X.w) X.A (eval a X.env) (fun v s₁=>wpAny (model X.prog X.w) X.A (eval b X.env) (fun u s₂=>wpAny (model X.prog X.w) X.A (f v u) Q X.xe s₂) X.xe s₁) X.xe s:=by
 refine Wh (ha pins s σ H _ I h) fun v s1 ⟨x,H1,I1,r1,q1⟩=>?_
 refine Wh (hb pins s1 σ H1 _ I1 q1) fun u s2 ⟨y,H2,I2,r2,q2⟩=>?_
 exact hf v u s2 x y H2 I2 r1 r2 q2
theorem Z69 {op:Operator} {r:R2} (ho:Ma X (binaryOp op) r) (ha:PE X a ta) (hb:PE X b tb):PE X (.BinOp a op b pos) (tOp r ta tb):=by
 intro pins s σ H Q I h;exact wpAny_BinOp (Z91 ha hb I h fun v u s2 x y H2 I2 rx ry q=>ho pins s2 σ H2 x y v u Q I2 rx ry q)
theorem Zat {op:UnaryOp} {r:V->Hp->VK->Prop} (ho:UnR X (unaryOp op) r) (ha:PE X a ta):PE X (.UnaryOp op a pos) (tUn r ta):=by
 intro pins s σ H Q I h;exact UnaryOp_ (Wh (ha pins s σ H _ I h) fun v s1 ⟨x,H1,I1,r1,q1⟩=>ho pins s1 σ H1 x v Q I1 r1 q1)
theorem opI {f:Value->Value->Sem Value} {C:Int->Int->Prop} {g:Int->Int->Int}
  (rule:∀ (i j:Int) (t u:Tok) (s:Shared) (Q:Value->Shared->Prop) (E:Value->Shared->Prop),C i j->Q (.int (g i j) s.toks) { s with toks:=s.toks+1 }->wpAny (model X.prog X.w) X.A (f (.int i t) (.int j u)) Q E s) :
  Ma X f (rI C fun i j=>.int (g i j)):=by
 intro pins s σ H x y v u Q I rx ry h;obtain ⟨i,j,rfl,rfl,hc,q⟩:=h;obtain ⟨t,rfl⟩:=rx;obtain ⟨t',rfl⟩:=ry;exact rule i j t t' s _ _ hc ⟨.int (g i j),H,I.tok _,⟨_,rfl⟩,q⟩
theorem Z0m {f:Value->Value->Sem Value} {g:Int->Int->Int}
  (rule:∀ (i j:Int) (t u:Tok) (s:Shared) (Q:Value->Shared->Prop) (E:Value->Shared->Prop),Q (.int (g i j) s.toks) { s with toks:=s.toks+1 }->wpAny (model X.prog X.w) X.A (f (.int i t) (.int j u)) Q E s) :
  Ma X f (rI0 fun i j=>.int (g i j)):=by
 intro pins s σ H x y v u Q I rx ry h;obtain ⟨i,j,rfl,rfl,q⟩:=h;obtain ⟨t,rfl⟩:=rx;obtain ⟨t',rfl⟩:=ry;exact rule i j t t' s _ _ ⟨.int (g i j),H,I.tok _,⟨_,rfl⟩,q⟩
theorem Z85 {f:Value->Value->Sem Value} {g:Int->Int->Bool}
  (rule:∀ (i j:Int) (t u:Tok) (s:Shared) (Q:Value->Shared->Prop) (E:Value->Shared->Prop),Q (.bool (g i j)) s->wpAny (model X.prog X.w) X.A (f (.int i t) (.int j u)) Q E s) :
  Ma X f (rI0 fun i j=>.bl (g i j)):=by
 intro pins s σ H x y v u Q I rx ry h;obtain ⟨i,j,rfl,rfl,q⟩:=h;obtain ⟨t,rfl⟩:=rx;obtain ⟨t',rfl⟩:=ry;exact rule i j t t' s _ _ ⟨.bl (g i j),H,I,rfl,q⟩
def Z0g (i j:Int):Prop:=0<j/\j<1073741824
def Z06 (i j:Int):Prop:=0<=j/\j<=1000000/\i.natAbs<2^64
def Fc (i j:Int):Prop:=(-(2^64)<i/\i<2^64)\/(-(2^64)<j/\j<2^64)
theorem Fc.ok {i j:Int} (h:Fc i j):IntMulOk i j:=by
 rcases h with ⟨h1,h2⟩ | ⟨h1,h2⟩
 ·exact .of_left (intBits_le_64 h1 h2)
 ·exact .of_right (intBits_le_64 h1 h2)
theorem Xn (k:Nat):(0:Int)<=2^k:=by
 rw [two_pow_cast];exact Int.natCast_nonneg _
theorem Z8t:Ma X (binaryOp .Add) (rI0 fun i j=>.int (i+j)):=Z0m fun _ _ _ _ _ _ _ q=>add_int q
theorem Z9q:Ma X (binaryOp .Sub) (rI0 fun i j=>.int (i - j)):=Z0m fun _ _ _ _ _ _ _ q=>sub_int q
theorem Z8m:Ma X (binaryOp .Mult) (rI Fc fun i j=>.int (i*j)):=opI fun _ _ _ _ _ _ _ hc q=>mul_int q hc.ok
theorem Z64:Ma X (binaryOp .FloorDiv) (rI Z0g fun i j=>.int (i / j)):=opI fun i j _ _ _ _ _ hc q=>by
 have h1:(0:Int)<j:=hc.1;have h2:j<1073741824:=hc.2;exact floordiv_int (by lia) (by rw [Int.fdiv_eq_ediv_of_nonneg i (by lia)];exact q) (.inl (PyProof.noPylong_small (by lia)))
theorem Z8s:Ma X (binaryOp .Mod) (rI (fun _ j=>0<j) fun i j=>.int (i % j)):=opI fun i j _ _ _ _ _ hc q=>by
 have h1:(0:Int)<j:=hc;exact mod_int' (by lia) (by rw [Int.fmod_eq_emod_of_nonneg i (by lia)];exact q)
theorem Z9d:Ma X (binaryOp .Pow) (rI Z06 fun i j=>.int (i^j.toNat)):=opI fun _ _ _ _ _ _ _ hc q=>pow_int_small hc.1 hc.2.1 hc.2.2 q
theorem Z88:Ma X (binaryOp .LShift) (rI Z06 fun i j=>.int (i*2^j.toNat)):=opI fun _ _ _ _ _ _ _ hc q=>lshift_int_small hc.1 hc.2.1 hc.2.2 q
theorem Z7c:Ma X (binaryOp .RShift) (rI (fun _ j=>0<=j) fun i j=>.int (i / 2^j.toNat)):=opI fun i j _ _ _ _ _ hc q =>
 rshift_int hc (by rw [Int.fdiv_eq_ediv_of_nonneg i (Xn _)];exact q)
theorem Z8j:Ma X (binaryOp .BitAnd) (rI0 fun i j=>.int (Builtin.bitAnd i j)):=Z0m fun _ _ _ _ _ _ _ q=>and_int q
theorem Zcc:Ma X (binaryOp .BitOr) (rI0 fun i j=>.int (Builtin.bitOr i j)):=Z0m fun _ _ _ _ _ _ _ q=>or_int q
theorem Z7z:Ma X (binaryOp .BitXor) (rI0 fun i j=>.int (Builtin.bitXor i j)):=Z0m fun _ _ _ _ _ _ _ q=>xor_int q
theorem unI {f:Value->Sem Value} {g:Int->Int}
  (rule:∀ (i:Int) (t:Tok) (s:Shared) (Q:Value->Shared->Prop) (E:Value->Shared->Prop),Q (.int (g i) s.toks) { s with toks:=s.toks+1 }->wpAny (model X.prog X.w) X.A (f (.int i t)) Q E s) :
  UnR X f (rU fun i=>.int (g i)):=by
 intro pins s σ H x v Q I rx h;obtain ⟨i,rfl,q⟩:=h;obtain ⟨t,rfl⟩:=rx;exact rule i t s _ _ ⟨.int (g i),H,I.tok _,⟨_,rfl⟩,q⟩
theorem Z7h:UnR X (unaryOp .Invert) (rU fun i=>.int (Builtin.bitNot i)):=unI fun _ _ _ _ _ q=>invert_int q
theorem Xf {pins:List (Addr×Obj)} {σ:St} {H:Hp} {s:Shared} {Q:VK} {k k':Bool} (I:Inv X pins σ H s) (q:Q (.bl k) H) (e:k=k'):EP X pins σ Q (.bool k') s:=by
 subst e;exact ⟨.bl k,H,I,rfl,q⟩
theorem Zbf:Ma X (compareOp .Lt) (rI0 fun i j=>.bl (decide (i<j))):=Z85 fun _ _ _ _ _ _ _ q=>lt_int q
theorem Zc9:Ma X (compareOp .Gt) (rI0 fun i j=>.bl (decide (j<i))):=Z85 fun _ _ _ _ _ _ _ q=>gt_int q
theorem Zal:Ma X (compareOp .GtE) (rI0 fun i j=>.bl (decide (j<=i))):=Z85 fun _ _ _ _ _ _ _ q=>ge_int q
theorem Br:Ma X (compareOp .In) (fun x y H Q=>∃ i j,x=.str i/\y=.str j/\Q (.bl (!(Builtin.Str.occurrences j i 0 j.length 1).isEmpty)) H):=by
 intro pins s σ H x y v u Q I rx ry h;obtain ⟨i,j,rfl,rfl,q⟩:=h;obtain ⟨t,rfl⟩:=rx;obtain ⟨t',rfl⟩:=ry;exact in_str (Xf I q rfl)
theorem Z9o:Ma X (compareOp .Is) (fun x y H Q=>y=.non/\Q (.bl (decide (x=.non))) H):=by
 intro pins s σ H x y v u Q I rx ry h;obtain ⟨rfl,q⟩:=h;cases ry;refine is_none_gen (Xf I q ?_);cases x<;>first
   | (cases rx;rfl)
   | (obtain ⟨t,rfl⟩:=rx;rfl)
theorem Z62:Ma X (compareOp .IsNot) (fun x y H Q=>y=.non/\Q (.bl (!decide (x=.non))) H):=by
 intro pins s σ H x y v u Q I rx ry h;obtain ⟨rfl,q⟩:=h;cases ry;refine isnot_none_gen (Xf I q ?_);cases x<;>first
   | (cases rx;rfl)
   | (obtain ⟨t,rfl⟩:=rx;rfl)
theorem Y1 (b:Expr) {op:CmpOp} (h:op≠.In:=by decide) (h2:op≠.NotIn:=by decide):behindInMarks op b=false:=by
 have e1:(op==CmpOp.In)=false:=by cases op<;>first | rfl | exact absurd rfl h
 have e2:(op==CmpOp.NotIn)=false:=by cases op<;>first | rfl | exact absurd rfl h2
 cases b<;>simp [behindInMarks,e1,e2]
theorem Z4p {op:CmpOp} {r:R2} (ho:Ma X (compareOp op) r) (ha:PE X a ta) (hb:PE X b tb) (hm:behindInMarks op b=false):PE X (.Compare a [op] [b] pos) (tOp r ta tb):=by
 intro pins s σ H Q I h;exact wpAny_Compare1 (Z91 ha hb I h fun v u s2 x y H2 I2 rx ry q=>ho pins s2 σ H2 x y v u Q I2 rx ry q) hm
def Zbr (t:TE):TT:=fun σ H Q=>t σ H fun x H'=>∃ k,x=.bl k/\Q k H'
theorem Z4x {op:CmpOp} {r:R2} (ho:Ma X (compareOp op) r) (ha:PE X a ta) (hb:PE X b tb) (hm:behindInMarks op b=false):PT X (.Compare a [op] [b] pos) (Zbr (tOp r ta tb)):=by
 intro pins s σ H Q I h;refine wpAny_isTrue_Compare1 (Wh (ha pins s σ H _ I h) fun v s1 ⟨x,H1,I1,r1,q1⟩=>Wh (hb pins s1 σ H1 _ I1 q1) fun u s2 ⟨y,H2,I2,r2,q2⟩ =>
  Wh (ho pins s2 σ H2 x y v u _ I2 r1 r2 q2) fun c s3 ⟨z,H3,I3,r3,k,e,q3⟩=>?_) hm
 subst e;cases r3;exact wpAny_truthy_bool ⟨H3,I3,q3⟩
def Zc5 (K:PySem.W.Frag) (x:V) (H:Hp) (k:Bool):Prop :=
 match x with
 | .non=>k=false
 | .bl b=>k=b
 | .int i=>k=(i != 0)
 | .str y=>y.length<=sizeLine/\k=((y.length:Int) != 0)
 | .byt y=>y.size<=sizeLine/\k=((y.size:Int) != 0)
 | .ref p=>(∃ xs,R1 K H p xs/\k=!xs.isEmpty)\/(∃ xs,Mv K H p xs/\k=!xs.isEmpty)\/∃ kvs,H p=some (.dK kvs)/\k=!kvs.isEmpty
 | _=>False
theorem F6 {κ:Type} {kvs:List (κ×V)} {vs:List (κ×Value)} (r:KV kvs vs):(!vs.isEmpty)=!kvs.isEmpty:=by
 cases r<;>rfl
theorem Hu {xs:List V} {its:List Value} (r:Zx xs its):(!its.toArray.isEmpty)=!xs.isEmpty:=by
 cases r<;>simp
theorem E1:(sizeLine:Nat)<2^63:=by rw [sizeLine_eq];decide
theorem Z78:Zdu X (fun x H Q=>∃ k,Zc5 X.K x H k/\Q k H):=by
 intro pins s σ H x v Q I rx h;obtain ⟨k,e,q⟩:=h;have hl:=E1;have hs:sizeLine=16777216:=sizeLine_eq;cases x with
 | non =>
  cases rx;have e':k=false:=e;subst e';exact truthy_none ⟨H,I,q⟩
 | bl b =>
  cases rx;have e':k=b:=e;subst e';exact wpAny_truthy_bool ⟨H,I,q⟩
 | int i =>
  obtain ⟨t,rfl⟩:=rx;have e':k=(i != 0):=e;subst e';exact PySem.P.truthy_int ⟨H,I,q⟩
 | str y =>
  obtain ⟨t,rfl⟩:=rx;obtain ⟨hy,e'⟩:y.length<=sizeLine/\k=((y.length:Int) != 0):=e;subst e';exact PySem.P.truthy_str (by lia) ⟨H,I.tok _,q⟩
 | byt y =>
  obtain ⟨t,rfl⟩:=rx;obtain ⟨hy,e'⟩:y.size<=sizeLine/\k=((y.size:Int) != 0):=e;subst e';exact PySem.W.truthy_bytes (by lia) ⟨H,I.tok _,q⟩
 | ref p =>
  cases rx;have e':(∃ xs,R1 X.K H p xs/\k=!xs.isEmpty)\/(∃ xs,Mv X.K H p xs/\k=!xs.isEmpty)\/∃ kvs,H p=some (.dK kvs)/\k=!kvs.isEmpty:=e;rcases e' with ⟨xs,hx,e'⟩ | ⟨xs,hx,e'⟩ | ⟨kvs,hx,e'⟩
  ·subst e'
   obtain ⟨its,r,pl,hz⟩:=I.list hx;have hlen:=r.length;exact wpAny_truthy_list pl.isList (by simp only [size_toArray];lia) ⟨H,I.tok _,by rw [Hu r];exact q⟩
  ·subst e'
   obtain ⟨its,r,pl,hz⟩:=I.tuple hx;have hlen:=r.length;exact truthy_tuple pl (by simp only [size_toArray];lia) ⟨H,I.tok _,by rw [Hu r];exact q⟩
  ·subst e'
   obtain ⟨hz,hS,vs,r,m⟩:kvs.length<=sizeLine/\(p==sysModules)=false/\∃ vs,KV kvs vs/\s.heap.DictOf (Wu X.prog X.w) p vs:=I.hok p _ hx;have hlen:kvs.length=vs.length:=Paired.length r;exact wpAny_truthy_dict hS m (by lia) ⟨H,I.tok _,by rw [F6 r];exact q⟩
 | _=>exact (show False from e).elim
theorem Z38 (ha:PE X a ta) (he:∀ whole,isTrue a X.env whole=(do let v ← whole;standAt a.pos;holding [v] (truthy v))) :
  PT X a (fun σ H Q=>ta σ H fun x H'=>∃ k,Zc5 X.K x H' k/\Q k H'):=by
 intro pins s σ H Q I h;exact isTrue_plain (Wh (ha pins s σ H _ I h) fun v s1 ⟨x,H1,I1,r1,q1⟩=>Z78 pins s1 σ H1 x v Q I1 r1 q1) (he _)
theorem Xl:Ma X (binaryOp .Add) (fun x y H Q=>∃ i j,x=.str i/\y=.str j/\i.length+j.length<=sizeLine/\Q (.str (i++j)) H):=by
 intro pins s σ H x y v u Q I rx ry h;obtain ⟨i,j,rfl,rfl,hz,q⟩:=h;obtain ⟨t,rfl⟩:=rx;obtain ⟨t',rfl⟩:=ry;exact add_str (fun t' tk=>⟨.str (i++j),H,I.tok _,⟨_,rfl⟩,q⟩) hz
theorem Q7 {x:V} {us:List Value} (r:Zx [x] us):∃ u,us=[u]/\Yg x u:=by
 cases r with
 | cons r1 r2=>cases r2;exact ⟨_,rfl,r1⟩
theorem Aq {x y:V} {us:List Value} (r:Zx [x,y] us):∃ u w',us=[u,w']/\Yg x u/\Yg y w':=by
 cases r with
 | cons r1 r2 =>
  cases r2 with
  | cons r3 r4=>cases r4;exact ⟨_,_,rfl,r1,r3⟩
theorem Z3j:Wn X (.builtin "abs") (fun xs H Q=>∃ i,xs=[.int i]/\Q (.int (if i<0 then -i else i)) H):=by
 intro pins s σ H xs us Q I r h;obtain ⟨i,rfl,q⟩:=h;obtain ⟨u,rfl,t,rfl⟩:=Q7 r;exact call_abs_int fun u tk=>⟨.int (if i<0 then -i else i),H,I.tok _,⟨_,rfl⟩,q⟩
theorem Z07 (hc:X.calm=true):Wn X (.builtin "max") (fun xs H Q=>∃ i j,xs=[.int i,.int j]/\Q (.int (if j > i then j else i)) H):=by
 intro pins s σ H xs us Q I r h;obtain ⟨i,j,rfl,q⟩:=h;obtain ⟨u,w',rfl,⟨t,rfl⟩,⟨t',rfl⟩⟩:=Aq r;refine max_two_ints (I.ok.hd hc) fun h' tk k=>⟨_,H,I.kept k,?_,q⟩
 by_cases hj:j > i
 ·rw [if_pos hj,if_pos hj];exact ⟨_,rfl⟩
 ·rw [if_neg hj,if_neg hj];exact ⟨_,rfl⟩
theorem Z0b (hc:X.calm=true):Wn X (.builtin "min") (fun xs H Q=>∃ i j,xs=[.int i,.int j]/\Q (.int (if j<i then j else i)) H):=by
 intro pins s σ H xs us Q I r h;obtain ⟨i,j,rfl,q⟩:=h;obtain ⟨u,w',rfl,⟨t,rfl⟩,⟨t',rfl⟩⟩:=Aq r;refine min_two_ints (I.ok.hd hc) fun h' tk k=>⟨_,H,I.kept k,?_,q⟩
 by_cases hj:j<i
 ·rw [if_pos hj,if_pos hj];exact ⟨_,rfl⟩
 ·rw [if_neg hj,if_neg hj];exact ⟨_,rfl⟩
end
structure ObjM (h:Heap) (x dx C:Addr) (mA:Str->Option Value):Prop where
 obj:h.get? x=some (instObj C dx)
 ns:h.Ns1 dx mA
 ne:dx≠x
theorem C6 {h:Heap} {dx:Addr} {mA:Str->Option Value} (n:h.Ns1 dx mA):∃ od,h.get? dx=some od/\∀ name,lookIn name od=some (mA name):=by
 obtain ⟨o,es,ep,ho,hd,hk,_,hm⟩:=n;refine ⟨o,ho,fun name=>?_⟩;have e:=hm name;unfold nsFind findBy at e;rw [← Array.find?_toList] at e;unfold lookIn;rw [hd];dsimp only;split
 ·rename_i y q
  rw [q] at e;exact congrArg some e
 ·rename_i q
  rw [q] at e;have a:es.toList.any (·.refKey)=false:=by
   rw [List.any_eq_false];intro y hy;obtain ⟨z,t,hkey⟩:=hk y (Array.mem_toList_iff.mp hy);simp [DictEntry.refKey,hkey]
  have a':¬ es.toList.any (·.refKey)=true:=by rw [a];exact Bool.false_ne_true
  rw [if_neg a'];exact congrArg some e
theorem ObjM.look {h:Heap} {x dx C:Addr} {mA:Str->Option Value} (I:ObjM h x dx C mA):∃ od,PySem.W.InstAt h x (instObj C dx) C (some od)/\∀ name,lookIn name od=some (mA name) :=
 let ⟨od,ho,hl⟩:=C6 I.ns
 ⟨od,⟨I.obj,rfl,rfl,ho⟩,hl⟩
section
variable {prog:Program} {w:World} {A:Around} {E:Value->Shared->Prop} {s:Shared} {K:PySem.W.Frag} {x dx C f:Addr} {mA:Str->Option Value} {name:Str} {v:Value}
end
theorem Dl.some_of {v:V} {o:Option Value} (r:Dl (some v) o):∃ u,o=some u/\Yg v u:=by
 cases o with
 | none=>exact (show False from r).elim
 | some u=>exact ⟨u,rfl,r⟩
section
variable {P:Program} {w:World} {H H':Hp} {h h':Heap} {a C dx:Addr} {fs fs':List (Str×V)}
theorem Z3u (hok:M7 P w H h) (e:H a=some (.ins C dx fs)):∃ mA,ObjM h a dx C mA/\(∀ f,Dl (fs.lookup f) (mA f))/\PySem.Within mA (fs.map (·.1))/\fs.length<=1000/\H dx=some (.own a):=by
 obtain ⟨d,z,ne,ob,mA,n,r,q⟩:=(show W2 P w H h a (.ins C dx fs) from hok a _ e);exact ⟨mA,⟨ob,n,ne⟩,r,q,z,d⟩
end
structure Cls (K:PySem.W.Frag) (C:Addr):Prop where
 pg:plainGet K C Str.empty=true
 hd:PySem.W.hasDictIn K C=true
 po:PySem.W.plainOver K C=true
 sa:PySem.W.findIn K (.ref C) "__setattr__" = some (some (.builtin "object.__setattr__"))
theorem Cls.get {K:PySem.W.Frag} {C:Addr} (c:Cls K C) (f:Str):plainGet K C f=true:=c.pg
section
variable {X:Cx} {pins:List (Addr×Obj)} {σ:St} {H:Hp} {s:Shared} {a C dx:Addr} {fs:List (Str×V)} {f:Str} {v:V} {A:Around} {E:Value->Shared->Prop}
end
section
variable {X:Cx} {o e value:Expr} {f:Str} {pos pos' tpos:Pos} {ta tv:TE}
end
section
variable {X:Cx} {pins:List (Addr×Obj)} {σ:St} {H:Hp} {s:Shared} {A:Around} {E:Value->Shared->Prop} {Q:Value->Shared->Prop} {c:Value} {b:Bool}
inductive TyOf (K:PySem.W.Frag) (H:Hp):V->Value->Prop where
 | non:TyOf K H .non (.type "NoneType")
 | bl (x:Bool):TyOf K H (.bl x) (.type "bool")
 | int (i:Int):TyOf K H (.int i) (.type "int")
 | str (x:Str):TyOf K H (.str x) (.type "str")
 | flt (x:UInt64):TyOf K H (.flt x) (.type "float")
 | lst {a:Addr} {xs:List V} (e:H a=some (.lst xs)):TyOf K H (.ref a) (.type "list")
 | frz {a:Addr} {o:Obj} {xs:List V} (e:H a=some (.frz o (.lst xs))):TyOf K H (.ref a) (.type "list")
 | tup {a:Addr} {xs:List V} (e:H a=some (.tup xs)):TyOf K H (.ref a) (.type "tuple")
 | dK {a:Addr} {kvs:List (Wg×V)} (e:H a=some (.dK kvs)):TyOf K H (.ref a) (.type "dict")
 | dT {a:Addr} {kvs:List (List Wg×V)} (e:H a=some (.dT kvs)):TyOf K H (.ref a) (.type "dict")
 | ins {a C dx:Addr} {fs:List (Str×V)} (e:H a=some (.ins C dx fs)) (cl:Cls K C) (ha:PySem.W.findIn K (.ref C) "__class__" = some (some (.builtin "object.__class__")))
  (hn:PySem.W.specialIn K (.builtin "object.__class__") "__get__" = some (some (.builtin "getset_descriptor.__get__"))) (htk:PySem.W.takesIn K (.builtin "object.__class__")=some true)
  (hm:PySem.W.mroIn K C (.type "object")=some true):TyOf K H (.ref a) (.ref C)
theorem Mz {x:V} {u t:Value} (I:Inv X pins σ H s) (rx:Yg x u) (ty:TyOf X.K H x t) (e:kitOne X.K t c=some b) (h:∀ tk,Q (.bool b) { s with toks:=tk }) :
  wpAny (model X.prog X.w) A (call (.builtin "isinstance") [u,c]) Q E s:=by
 cases ty with
 | non=>cases (show u=Value.none from rx);exact kia_one PySem.W.kitx_none I.kIn True.intro e (fun z=>nomatch z) h
 | bl y=>cases (show u=Value.bool y from rx);exact kia_one PySem.W.kitx_bool I.kIn True.intro e (fun z=>nomatch z) h
 | int i=>obtain ⟨t,q⟩:=(show ∃ t,u=Value.int i t from rx);cases q;exact kia_one PySem.W.kitx_int I.kIn True.intro e (fun z=>nomatch z) h
 | str y=>obtain ⟨t,q⟩:=(show ∃ t,u=Value.str y t from rx);cases q;exact kia_one PySem.W.kitx_str I.kIn True.intro e (fun z=>nomatch z) h
 | flt y=>obtain ⟨t,q⟩:=(show ∃ t,u=Value.float y t from rx);cases q;exact kia_one PySem.W.kitx_float I.kIn True.intro e (fun z=>nomatch z) h
 | @lst a xs ea =>
  cases (show u=Value.ref a from rx);obtain ⟨_,_,n,_,h1⟩:=(show W2 X.prog X.w H s.heap a (.lst xs) from I.hok a _ ea);exact kia_one kitx_list I.kIn ⟨_,h1,rfl⟩ e (fun z=>nomatch z) h
 | @frz a ob xs ea =>
  cases (show u=Value.ref a from rx);obtain ⟨_,_,_,n,_,h1⟩:=(show W2 X.prog X.w H s.heap a (.frz ob (.lst xs)) from I.hok a _ ea);exact kia_one kitx_list I.kIn ⟨_,h1,rfl⟩ e (fun z=>nomatch z) h
 | @tup a xs ea =>
  cases (show u=Value.ref a from rx);obtain ⟨_,_,_,p⟩:=(show W2 X.prog X.w H s.heap a (.tup xs) from I.hok a _ ea);obtain ⟨o,h1,h2,_⟩:=p;exact kia_one kitx_tuple I.kIn ⟨o,h1,h2⟩ e (fun z=>nomatch z) h
 | @dK a kvs ea =>
  cases (show u=Value.ref a from rx);obtain ⟨_,_,vs,_,p⟩:=(show W2 X.prog X.w H s.heap a (.dK kvs) from I.hok a _ ea);obtain ⟨o,es,ep,h1,h2,_⟩:=p;exact kia_one kitx_dict I.kIn ⟨o,h1,h2.1⟩ e (fun z=>nomatch z) h
 | @dT a kvs ea =>
  cases (show u=Value.ref a from rx);obtain ⟨_,_,xs,_,o,es,ep,h1,h2,_⟩:=(show W2 X.prog X.w H s.heap a (.dT kvs) from I.hok a _ ea);exact kia_one kitx_dict I.kIn ⟨o,h1,h2.1⟩ e (fun z=>nomatch z) h
 | @ins a C dx fs ea cl ha hn htk hm =>
  cases (show u=Value.ref a from rx);obtain ⟨mA,O,_⟩:=Z3u I.hok ea;obtain ⟨od,J,_⟩:=O.look;exact kia_one (PySem.W.kitx_own (cl.get _) cl.hd ha hn htk hm) I.kIn J e (fun z=>nomatch z) h
end
structure Room (k:Nat) (A:Around):Prop where
 hd:A.handled=none
 dp:A.depth+3*k+5<recursionLimit
 un:A.units+16*k+200<cLine
 gd:A.guards=some []
theorem Room.mono {j k:Nat} {A:Around} (r:Room k A) (h:j<=k):Room j A:=⟨r.hd,by have:=r.dp;lia,by have:=r.un;lia,r.gd⟩
theorem Room.deeper {k:Nat} {A:Around} (r:Room (k+1) A) (env:Env):Room k (A.deeper env) :=
 ⟨r.hd,by have:=r.dp;show A.depth+1+3*k+5<_;lia,by have:=r.un;show A.units+3+16*k+200<_;lia,r.gd⟩
theorem Gx {A:Around} {C:Addr} {us:List Value} {kw:List (Str×Value)}:(A.under (.builtin "type.__call__" ⟨.ref C::us,kw⟩)).depth=A.depth+1:=by
 first | rfl | simp [Around.under,Code.weight,Code.isCreation,Code.isGuard,Code.isCaller,Code.frames,Code.isFrame,guardIds]
theorem Hn {A:Around} {C:Addr} {us:List Value} {kw:List (Str×Value)}:(A.under (.builtin "type.__call__" ⟨.ref C::us,kw⟩)).units=A.units+1:=by
 first | rfl | simp [Around.under,Code.cUnits,Code.frames,Code.isFrame]
theorem Room.make {k:Nat} {A:Around} (r:Room (k+1) A) (C:Addr) (us:List Value) (kw:List (Str×Value)):Room k (A.under (.builtin "type.__call__" ⟨.ref C::us,kw⟩)) :=
 ⟨r.hd,by have:=r.dp;rw [Gx];lia,by have:=r.un;rw [Hn];lia,r.gd⟩
theorem Room.depth {k:Nat} {A:Around} (r:Room k A):A.depth<recursionLimit:=by have:=r.dp;lia
theorem Room.units {k:Nat} {A:Around} (r:Room k A):A.units+64<cLine:=by have:=r.un;lia
def Z60:TA:=fun _ H Q=>Q [] H
def Ku (ta:TE) (tr:TA):TA:=fun σ H Q=>ta σ H fun x H1=>tr σ H1 fun xs H2=>Q (x::xs) H2
section
variable {X:Cx} {e:Expr} {es:List Expr} {te:TE} {t:TA} {pos:Pos}
theorem Q8:PA X [] Z60:=fun _ _ _ _ H Q I h=>Calls.spliced_nil ⟨[],H,I,.nil,h⟩
theorem V7 (ha:PE X e te) (hr:PA X es t) (hs:starEach (e::es) X.env=(false,eval e X.env)::starEach es X.env:=by rfl):PA X (e::es) (Ku te t):=by
 intro pos pins s σ H Q I h;rw [hs];show wpAny _ _ (spliced ((false,eval e X.env)::backTo pos (starEach es X.env))) _ _ s;refine Calls.spliced_cons (Wh (ha pins s σ H _ I h) fun u s1 ⟨x,H1,I1,r1,q1⟩=>?_);exact Wh (hr pos pins s1 σ H1 _ I1 q1) fun us s2 ⟨xs,H2,I2,r2,q2⟩=>⟨x::xs,H2,I2,.cons r1 r2,q2⟩
def Zed (t:TA):TE:=fun σ H Q=>t σ H fun xs H1=>xs.length<=sizeLine/\∀ p,H1 p=none->Q (.ref p) (W6 H1 p (.tup xs))
def Ze5 (t:TA):TE:=fun σ H Q=>t σ H fun xs H1=>xs.length<=sizeLine/\∀ p,H1 p=none->Q (.ref p) (W6 H1 p (.lst xs))
theorem Z79 {x1} (h:PA X es t):PE X (.Tuple es x1 pos) (Zed t):=by
 intro pins s σ H Q I hq;refine wpAny_Tuple_spliced (Wh (h pos pins s σ H _ I hq) fun us s1 ⟨xs,H1,I1,r,z,q⟩=>⟨by rw [← r.length];exact z,?_⟩);have hf:H1 s1.heap.objs.size=none:=I1.hok.fresh (le_refl _);refine ⟨.ref s1.heap.objs.size,W6 H1 s1.heap.objs.size (.tup xs),I1.laid (t':=s1.toks) (fun b u e=>get?_push_of_some _ e) (le_refl _) ?_,rfl,q _ hf⟩;exact ⟨z,us,r,⟨_,get?_push_size _ rfl,rfl,_,rfl⟩⟩
theorem Z1k (h:PA X es t):PE X (.List es pos) (Ze5 t):=by
 intro pins s σ H Q I hq;refine wpAny_List_spliced (Wh (h pos pins s σ H _ I hq) fun us s1 ⟨xs,H1,I1,r,z,q⟩=>⟨by rw [← r.length];exact z,?_⟩);have hf:H1 s1.heap.objs.size=none:=I1.hok.fresh (le_refl _);refine ⟨.ref s1.heap.objs.size,W6 H1 s1.heap.objs.size (.lst xs),I1.laid (t':=s1.toks) (fun b u e=>get?_push_of_some _ e) (le_refl _) ?_,rfl,q _ hf⟩;exact ⟨z,us,0,r,get?_push_size _ rfl⟩
end
abbrev Sp:=List V->Hp->VK->XK->Prop
abbrev Kl:=List Env->Hp->Shared->XK->Value->Shared->Prop
structure Env0 (P:Program) (w:World) (K:PySem.W.Frag) (mg:Str->Option Value) (base:Heap) (A:Around) (outer:List Env) (s:Shared) (H:Hp):Prop where
 frames:A.frames=some outer
 mod:Mod K mg base
 bs:∀ b o,base.get? b=some o->s.heap.get? b=some o/\H b=none
 bsz:base.objs.size<=s.heap.objs.size
 funs:s.heap.FunFrames base outer
 frf:∀ b∈Rk outer,H b=none
 hok:M7 P w H s.heap
 bare:AllBare s.gens
def CE (outer:List Env) (P:Program) (w:World) (H:Hp) (s:Shared) (Q:VK) (u:Value) (s':Shared):Prop :=
 ∃ v H',s'.os=s.os/\AllBare s'.gens/\Un (Rk outer) [] H H' s.heap s'.heap/\M7 P w H' s'.heap/\Yg v u/\Q v H'
def CR (CX:Kl) (outer:List Env) (P:Program) (w:World) (H:Hp) (s:Shared) (Q:VK) (E:XK) (r:Result) (s':Shared):Prop :=
 match r with
 | .ok (.ret u)=>CE outer P w H s Q u s'
 | .ok _=>False
 | .error e=>CX outer H s E e s'
structure FnOk (P:Program) (w:World) (K:PySem.W.Frag) (mg:Str->Option Value) (base:Heap) (CX:Kl) (k:Nat) (f:Addr) (fd:FuncData) (ps:List Str) (sp:Sp):Prop where
 len:∀ vs H Q E,sp vs H Q E->vs.length=ps.length
 run:∀ (A:Around) (outer:List Env) (s:Shared) (H:Hp) (args:Args) (us:List Value) (vs:List V) (Q:VK) (E:XK),Room k A->Env0 P w K mg base A outer s H->BindsTo s fd args (ps.zip us)->Zx vs us->sp vs H Q E ->
  codeAny (model P w) A (.call (.ref f) args) (CR CX outer P w H s Q E) s
theorem Env0.make {P:Program} {w:World} {K:PySem.W.Frag} {mg:Str->Option Value} {base:Heap} {A:Around} {outer:List Env} {s:Shared} {H:Hp} (e:Env0 P w K mg base A outer s H) (C:Addr) (us:List Value) (kw:List (Str×Value)) :
 Env0 P w K mg base (A.under (.builtin "type.__call__" ⟨.ref C::us,kw⟩)) outer s H:=⟨by first | exact e.frames | (simpa [Around.under,Code.envs,Code.isFrame,pushEnvs] using e.frames),e.mod,e.bs,e.bsz,e.funs,e.frf,e.hok,e.bare⟩
section
variable {X:Cx} {pins:List (Addr×Obj)} {σ:St} {H:Hp} {s s':Shared}
theorem Inv.env0 (I:Inv X pins σ H s):Env0 X.prog X.w X.K X.mg X.base X.A X.stack s H :=
 ⟨I.ok.frames,I.ok.mod,I.bs,le_trans I.ok.bsz I.sz,I.stack,I.stkFree,I.hok,I.bare⟩
theorem Inv.after {Q:VK} {u:Value} (I:Inv X pins σ H s) (h:CE X.stack X.prog X.w H s Q u s'):EP X pins σ Q u s':=by
 obtain ⟨v,H',os,bare,un,hok,r,q⟩:=h;obtain ⟨hh,g,d,t,os'⟩:=s';obtain rfl:os'=s.os:=os;exact ⟨v,H',I.call (h':=hh) (g':=g) (d':=d) (t':=t) (ch:=[]) un hok bare (fun b z=>absurd z (by simp)),r,q⟩
end
def Ao (sp:Sp) (dvs:List V) (E:XK) (t:TA):TE:=fun σ H Q=>t σ H fun vs H1=>sp (vs++dvs) H1 Q E
def Qm (K:PySem.W.Frag) (fd:FuncData) (ps:List Str) (ds:List Value):Prop :=
 ∀ (s:Shared) (us:List Value),K.In s.heap->(us++ds).length=ps.length->BindsTo s fd ⟨us,[]⟩ (ps.zip (us++ds))
theorem Qm.all {K:PySem.W.Frag} {fd:FuncData} {ps:List Str} (h:∀ us:List Value,us.length=ps.length->bindArgs fd ⟨us,[]⟩=pure (ps.zip us)):Qm K fd ps []:=fun s us _ hl=>by
 rw [append_nil] at hl ⊢;exact .of_eq (h us hl)
def K7 (CX:Kl) (X:Cx) (E:XK):Prop:=∀ (pins:List (Addr×Obj)) (σ:St) (H:Hp) (s:Shared) (e:Value) (s':Shared),Inv X pins σ H s->CX X.stack H s E e s'->X.xe e s'
section
variable {X:Cx} {CX:Kl} {k:Nat} {f C:Addr} {fd:FuncData} {ps:List Str} {sp:Sp} {dvs:List V} {ds:List Value} {E:XK} {x m:Str} {p pos apos:Pos} {e o:Expr} {es:List Expr} {ta:TE} {t:TA}
theorem Z9u {pins:List (Addr×Obj)} {σ:St} {H:Hp} {s:Shared} {Q:VK} {us:List Value} {vs:List V} (F:FnOk X.prog X.w X.K X.mg X.base CX k f fd ps sp) (hr:Room k X.A) (hb:Qm X.K fd ps ds) (hd:Zx dvs ds) (hx:K7 CX X E)
  (I:Inv X pins σ H s) (r:Zx vs us) (h:sp (vs++dvs) H Q E):wpAny (model X.prog X.w) X.A (call (.ref f) us) (EP X pins σ Q) X.xe s:=by
 have r2:Zx (vs++dvs) (us++ds):=r.append hd;have hl:(us++ds).length=ps.length:=by rw [← r2.length];exact F.len _ _ _ _ h
 refine wpAny_call (codeAny_mono (F.run X.A X.stack s H ⟨us,[]⟩ (us++ds) (vs++dvs) Q E hr I.env0 (hb s us I.kIn hl) r2 h) fun r s' hq=>?_);cases r with
 | error e=>exact hx pins σ H s e s' I hq
 | ok fl =>
  cases fl with
  | ret u=>exact I.after hq
  | next=>exact False.elim hq
  | brk=>exact False.elim hq
  | cont=>exact False.elim hq
theorem Z51 (F:FnOk X.prog X.w X.K X.mg X.base CX k f fd ps sp) (hr:Room k X.A) (hg:Gl X x) (hm:X.mg x=some (.ref f)) (hk:PySem.W.keepIn X.K (.ref f)=true) (hb:Qm X.K fd ps ds) (hd:Zx dvs ds) (hx:K7 CX X E)
  (ha:PA X (e::es) t) (hdb:(x==("__debug__" : Str))=false:=by decide) (he:starEach (e::es) X.env=(false,eval e X.env)::starEach es X.env:=by rfl) (hpl:(backTo pos (starEach es X.env)).any (·.1)=false:=by rfl) :
  PE X (.Call (.Name x p) (e::es) [] pos) (Ao sp dvs E t):=by
 intro pins s σ H Q I h;refine wpAny_Call_Name_kw (Uc I hg hm ?_ hdb);refine PySem.W.callWith_K (h₀:=X.base) I.ok.mod.kin hk (Wh (ha pos pins s σ H _ I h) fun us s1 ⟨vs,H1,I1,r,q⟩=>⟨I1.kIn,?_⟩) he hpl;exact Z9u F hr hb hd hx I1 r q
end
section
variable {X:Cx} {CX:Kl} {k:Nat} {f C:Addr} {fd:FuncData} {ps ks:List Str} {sp:Sp} {E:XK} {x m:Str} {p pos apos kpos:Pos} {e o:Expr} {es:List Expr} {kws:List Keyword} {te ta:TE} {t tk:TA} {nm:Option Str}
variable {g:List Value->List Value->List Value} {gV:List V->List V->List V}
end
structure FnScope (N P:List Str) (sc:Scope):Prop where
 kind:sc.kind=.function
 co:sc.isCoroutine=false
 gen:sc.isGenerator=false
 nd:N.Nodup
 pre:N.take P.length=P
 par:∀ x∈P,sc.names.lookup x=some .local\/sc.names.lookup x=some .cell
 nofree:∀ y∈sc.names,y.2≠.free
theorem Ld {kindOf:Str->Option NameKind} {x:Str}:∀ {binds:List (Str×Value)} {m:Str->Option Value},(∀ v,(x,v)∉binds)->bindL kindOf binds m x=m x
 | [],_,_=>rfl
 | (n,v)::r,m,h=>by
   unfold bindL;rw [Ld fun w hw=>h w (mem_cons_of_mem _ hw)];split
   · have:x≠n:=by rintro rfl;exact h v mem_cons_self
     simp [this]
   · rfl
theorem Kq {kindOf:Str->Option NameKind} {x:Str}:∀ {binds:List (Str×Value)} {m:Str->Option Value},(∀ v,(x,v)∉binds)->bindC kindOf binds m x=m x
 | [],_,_=>rfl
 | (n,v)::r,m,h=>by
   unfold bindC;rw [Kq fun w hw=>h w (mem_cons_of_mem _ hw)];split
   · rfl
   · have:x≠n:=by rintro rfl;exact h v mem_cons_self
     simp [this]
theorem E9 {kindOf:Str->Option NameKind} {x:Str} {v:Value}:∀ {P:List Str} {vs:List Value} {i:Nat} {m:Str->Option Value},P.Nodup->P[i]?=some x->vs[i]?=some v->kindOf x=some .local ->
  bindL kindOf (P.zip vs) m x=some v
 | [],_,_,_,_,h,_,_=>by simp at h
 | _::_,[],_,_,_,_,h,_=>by simp at h
 | p::P,w::vs,0,m,nd,h1,h2,hk=>by
  simp at h1 h2;subst h1;subst h2;show bindL kindOf ((p,w)::P.zip vs) m p=_;unfold bindL;rw [Ld fun v hv=>(nodup_cons.mp nd).1 (of_mem_zip hv).1,if_pos hk];simp
 | p::P,w::vs,i+1,m,nd,h1,h2,hk=>by
  show bindL kindOf ((p,w)::P.zip vs) m x=_;unfold bindL;exact E9 (i:=i) (nodup_cons.mp nd).2 (by simpa using h1) (by simpa using h2) hk
theorem Dy {kindOf:Str->Option NameKind} {x:Str} {v:Value}:∀ {P:List Str} {vs:List Value} {i:Nat} {m:Str->Option Value},P.Nodup->P[i]?=some x->vs[i]?=some v->kindOf x≠some .local ->
  bindC kindOf (P.zip vs) m x=some v
 | [],_,_,_,_,h,_,_=>by simp at h
 | _::_,[],_,_,_,_,h,_=>by simp at h
 | p::P,w::vs,0,m,nd,h1,h2,hk=>by
  simp at h1 h2;subst h1;subst h2;show bindC kindOf ((p,w)::P.zip vs) m p=_;unfold bindC;rw [Kq fun v hv=>(nodup_cons.mp nd).1 (of_mem_zip hv).1,if_neg hk];simp
 | p::P,w::vs,i+1,m,nd,h1,h2,hk=>by
  show bindC kindOf ((p,w)::P.zip vs) m x=_;unfold bindC;exact Dy (i:=i) (nodup_cons.mp nd).2 (by simpa using h1) (by simpa using h2) hk
def start (N:List Str) (vs:List V):St:=vs.map some++List.replicate (N.length - vs.length) none
def Ts (CX:Kl) (P:Program) (w:World) (K:PySem.W.Frag) (mg:Str->Option Value) (base:Heap) (N:List Str) (qual:Str) (scope:Scope) (f:Addr) (cd:Value) (A:Around) (outer:List Env) (s:Shared) (H:Hp) (E:XK):Cx where
 prog:=P
 w:=w
 K:=K
 mg:=mg
 base:=base
 A:=A.deeper (envOfC qual scope s.heap.objs.size f cd)
 N:=N
 s₀:=s
 H₀:=H
 env:=envOfC qual scope s.heap.objs.size f cd
 outer:=outer
 stack:=envOfC qual scope s.heap.objs.size f cd::outer
 ex:=[]
 calm:=true
 fn:=fun _=>true
 pn:=[]
 xe:=fun e s'=>wpAny (model P w) (A.deeper (envOfC qual scope s.heap.objs.size f cd)) (leaving (envOfC qual scope s.heap.objs.size f cd) e) (fun _ s''=>CX outer H s E e s'') (fun e' s''=>CX outer H s E e' s'') s'
theorem Sz {sc:Scope} {n:Nat} {x:Str} (h:sc.names.lookup x=some .cell):∃ c,(cellsFrom n sc.names []).lookup x=some c:=by
 have q:=cellsFrom_some sc.names n [] (.inl h);exact Option.isSome_iff_exists.mp q
theorem Cr {CX:Kl} {P:Program} {w:World} {K:PySem.W.Frag} {mg:Str->Option Value} {base:Heap} {N ps:List Str} {qual:Str} {scope:Scope} {f:Addr} {cd:Value} {A:Around} {outer:List Env} {s s1:Shared} {H:Hp} {E:XK} {us:List Value} {vs:List V}
  (S:FnScope N ps scope) (hd:A.handled=none) (e0:Env0 P w K mg base A outer s H) (hl:vs.length=ps.length) (r:Zx vs us)
  (x:InCallC s s.heap.objs.size (bindL (envOfC qual scope s.heap.objs.size f cd).kindOf (ps.zip us) fun _=>none) (cellsFrom (s.heap.objs.size+1) scope.names []) (bindC (envOfC qual scope s.heap.objs.size f cd).kindOf (ps.zip us) fun _=>none) s1) :
  Inv (Ts CX P w K mg base N qual scope f cd A outer s H E) [] (start N vs) H s1:=by
 have hpl:ps.length<=N.length:=by have:=congrArg List.length S.pre;rw [length_take] at this;lia
 obtain ⟨h1,tk,rfl,hk⟩:=x.done;have noA:∀ b:Addr,b∉(Ts CX P w K mg base N qual scope f cd A outer s H E).ex:=fun b z=>absurd (show b∈([]:List Addr) from z) (by simp)
 refine ⟨⟨e0.mod,S.kind,rfl,rfl,le_refl _,fun y z c h1 h2=>?_,fun y hy=>?_,fun y c _ h=>?_,fun _=>hd,Around.frames_deeper e0.frames,.inr ⟨rfl,rfl⟩,fun b z=>absurd z (noA b),e0.bs,e0.bsz,fun b _ _=>noA b,fun b z=>absurd z (noA b),e0.funs,e0.frf⟩,
  rfl,e0.bare,Un.kept hk,⟨_,x.toInCall.ns,fun i y v h1 h2 h3=>?_⟩,fun y c h=>⟨_,x.cell y c h⟩,e0.hok.fresh (le_refl _),fun y c h=>?_,fun p hp=>absurd (show p∈([]:List (Addr×Obj)) from hp) (by simp),e0.hok.kept hk,?_⟩
 ·exact name_of_addr x.apart (PySem.mem_of_lookup h1) (PySem.mem_of_lookup h2)
 ·have hy:scope.names.lookup y=some .cell\/scope.names.lookup y=some .free:=hy
  rcases hy with hy | hy
  ·exact Sz hy
  ·exact absurd rfl (S.nofree _ (PySem.mem_of_lookup hy))
 ·exact le_of_lt (x.above y c (PySem.mem_of_lookup h))
 ·have hi:i<vs.length:=by
   unfold start at h2;by_cases hi:i<vs.length
   ·exact hi
   ·rw [getElem?_append_right (by simpa using hi)] at h2
    rw [List.getElem?_replicate] at h2;split at h2<;>cases h2
  have ha:vs[i]?=some v:=by
   unfold start at h2;rw [getElem?_append_left (by simpa using hi),getElem?_map] at h2;cases e:vs[i]? with
   | none=>rw [e] at h2;cases h2
   | some a=>rw [e] at h2;cases h2;rfl
  obtain ⟨u,hu,rv⟩:=r.get ha;have hp:ps[i]?=some y:=by
   rw [← S.pre,List.getElem?_take_of_lt (by lia)];exact h1
  have ndP:ps.Nodup:=by rw [← S.pre];exact S.nd.sublist (List.take_sublist _ _)
  refine ⟨u,rv,?_⟩;rcases S.par y (mem_of_getElem? hp) with k | k
  ·exact .inl ⟨k,E9 ndP hp hu k⟩
  ·obtain ⟨c,e⟩:=Sz (n:=s.heap.objs.size+1) k
   refine .inr ⟨.inl k,c,e,?_⟩;have q:=x.cell y c e;rw [Dy ndP hp hu (by show scope.names.lookup y≠_;rw [k];decide)] at q;exact q
 ·exact e0.hok.fresh (le_of_lt (x.above y c (PySem.mem_of_lookup h)))
 ·unfold start
  show _=N.length;rw [length_append,length_map,length_replicate];lia
theorem Z6a {CX:Kl} {P:Program} {w:World} {K:PySem.W.Frag} {mg:Str->Option Value} {base:Heap} {k:Nat} {f:Addr} {name qual:Str} {params:Arguments} {body:List Stmt} {scope:Scope} {dV kV doc pm cdv ct oc:Value} {an od:Option Addr}
  {osl:Array (Option Value)} {N ps:List Str} {sp:Sp} (lk:K.lookup f=some ⟨oc,od,.func (fnOf name qual params body scope dV kV doc pm an cdv ct),osl⟩) (hcd:codeIn K cdv qual=true) (S:FnScope N ps scope)
  (len:∀ vs H Q E,sp vs H Q E->vs.length=ps.length)
  (hbody:∀ (A:Around) (outer:List Env) (s:Shared) (H:Hp) (vs:List V) (Q:VK) (E:XK),Room k (A.deeper (envOfC qual scope s.heap.objs.size f cdv))->sp vs H Q E ->
   ∃ t,Ro (Ts CX P w K mg base N qual scope f cdv A outer s H E) body t/\t { nx:=fun _ H'=>Q .non H',rt:=Q } (start N vs) H) :
  FnOk P w K mg base CX (k+1) f (fnOf name qual params body scope dV kV doc pm an cdv ct) ps sp:=by
 refine ⟨len,fun A outer s H args us vs Q E hr e0 hb r hsp=>?_⟩;have hl:=len _ _ _ _ hsp;have KX:K.In s.heap:=e0.mod.kin.keeps fun b o e=>(e0.bs b o e).1
 have lim:s.heap.NoLimit:=e0.mod.nolimit.keeps fun b o e=>(e0.bs b o e).1
 have hkind:∀ y∈ps.zip us,scope.names.lookup y.1=some .local\/(scope.names.lookup y.1=some .cell/\((cellsFrom (s.heap.objs.size+1) scope.names []).lookup y.1).isSome=true):=fun ⟨n,v⟩ hy=>by
  rcases S.par n (of_mem_zip hy).1 with q | q
  ·exact .inl q
  ·exact .inr ⟨q,cellsFrom_some _ _ _ (.inl q)⟩
 refine codeAny_call_function hr.depth (KX _ _ lk) rfl S.co S.gen rfl (codeRec_of KX hcd) (hb _ _ _ _ ?_);refine wpAny_newFunctionEnv_cells S.kind hkind fun env he s1 x=>?_
 subst he;refine ⟨lim.keeps x.toInCall.keep,codeAny_func ?_⟩;obtain ⟨t,ht,hq⟩:=hbody A outer s H vs Q E (hr.deeper _) hsp;have I:Inv (Ts CX P w K mg base N qual scope f cdv A outer s H E) [] (start N vs) H s1:=Cr S hr.hd e0 hl r x;refine wpAny_mono (ht [] s1 (start N vs) H _ I hq) (fun fl s' hs=>?_) fun e s' hs=>hs
 have fin:∀ {σ':St} {H':Hp} {v:V} {u:Value},Inv (Ts CX P w K mg base N qual scope f cdv A outer s H E) [] σ' H' s'->Yg v u->Q v H'->CE outer P w H s Q u s' :=
  fun {σ' H' v u} J rv q=>⟨v,H',J.os,J.bare,J.base,J.hok,rv,q⟩
 cases fl with
 | ret u =>
  obtain ⟨v,σ',H',J,rv,q⟩:=hs;exact fin J rv q
 | next =>
  obtain ⟨σ',H',J,q⟩:=hs;exact fin (v:=V.non) (u:=Value.none) J rfl q
 | brk =>
  obtain ⟨_,_,_,q⟩:=hs;exact False.elim q
 | cont =>
  obtain ⟨_,_,_,q⟩:=hs;exact False.elim q
section
variable {X:Cx} {x:Str} {p pos:Pos} {e:Expr} {es:List Expr} {t:TA} {id T:String} {r:List V->Hp->VK->Prop}
def tCB (r:List V->Hp->VK->Prop) (t:TA):TE:=fun σ H Q=>t σ H fun vs H1=>r vs H1 Q
theorem Db (hc:Wn X (.builtin id) r) (hg:Gl X x) (hm:X.mg x=none) (hv:bootBuiltins x=some (.builtin id)) (ha:PA X (e::es) t) (hn:x≠"__name__" := by decide) (hdb:(x==("__debug__" : Str))=false:=by decide)
  (he:starEach (e::es) X.env=(false,eval e X.env)::starEach es X.env:=by rfl) (hpl:(backTo pos (starEach es X.env)).any (·.1)=false:=by rfl):PE X (.Call (.Name x p) (e::es) [] pos) (tCB r t):=by
 intro pins s σ H Q I h;refine wpAny_Call_Name_kw (M4 I hg hm hv ?_ hn hdb);exact PyProof.Rows.callWith_builtin1 (Wh (ha pos pins s σ H _ I h) fun us s1 ⟨vs,H1,I1,r1,q1⟩=>hc pins s1 σ H1 vs us Q I1 r1 q1) he hpl
theorem Dv (hc:Wn X (.type T) r) (hg:Gl X x) (hm:X.mg x=none) (hv:bootBuiltins x=some (.type T)) (ha:PA X (e::es) t) (hn:x≠"__name__" := by decide) (hdb:(x==("__debug__" : Str))=false:=by decide)
  (he:starEach (e::es) X.env=(false,eval e X.env)::starEach es X.env:=by rfl) (hpl:(backTo pos (starEach es X.env)).any (·.1)=false:=by rfl):PE X (.Call (.Name x p) (e::es) [] pos) (tCB r t):=by
 intro pins s σ H Q I h;refine wpAny_Call_Name_kw (M4 I hg hm hv ?_ hn hdb);exact PyProof.Rows.callWith_type1 (Wh (ha pos pins s σ H _ I h) fun us s1 ⟨vs,H1,I1,r1,q1⟩=>hc pins s1 σ H1 vs us Q I1 r1 q1) he hpl
end
end L2
namespace HT
open PySem PyProof.Rows
theorem Z1e (A:Around) (s:Shared) (a:Int) (t:Tok) (c:Int) (u:Tok):∃ e,SeqAt.EqAt A s (.int a t) (.int c u) e/\(e=true↔a=c) :=
 ⟨(a==c),SeqAt.EqAt.int_int a t c u,by simp⟩
section
open PySem.SeqAt
open PySem.AutoSeq1 (wpAny_loadPart')
open PySem.MeetsSeq PySem.MeetsSeq2 PySem.MeetsSeq3
end
section
variable {prog:Program} {w:World} {A:Around} {E:Value->Shared->Prop} {s:Shared}
theorem cat_tup {t b:Addr} {vs ws:List Value} {Q:Value->Shared->Prop} (ht:IsTup s.heap t vs.toArray) (hb:IsTup s.heap b ws.toArray) (hv:vs≠[])
  (h1:ws=[]->Q (.ref t) s) (h2:ws≠[]->Q (.ref s.heap.objs.size) { s with heap:=s.heap.push { cls:=.type "tuple",data:=.seq (vs++ws).toArray } })
  (hsz:vs.length+ws.length<=sizeLine):wpAny (model prog w) A (binaryOp .Add (.ref t) (.ref b)) Q E s:=by
 obtain ⟨⟨cls,dd,data,sl⟩,ho,hc,n,hd⟩:=id ht;obtain ⟨⟨cls2,dd2,data2,sl2⟩,ho2,hc2,n2,hd2⟩:=id hb;simp only at hc hd hc2 hd2;subst hc hd hc2 hd2;have e:vs.toArray++ws.toArray=(vs++ws).toArray:=by simp
 by_cases hw:ws=[]
 ·exact concat_meets ⟨_,ho,rfl⟩ ⟨_,ho2,rfl⟩ noFill_tuple_add seq_tuple_add PySem.F.slot_tuple_add PySem.F.entry_tuple_add (PySem.F.args_tuple_add_2 _ _)
   (tuple_addW1 t b vs.toArray ws.toArray n n2 dd dd2 sl sl2 (by simpa using hv) (by simp [hw])) ⟨ho,ho2,h1 hw⟩
 ·refine concat_meets ⟨_,ho,rfl⟩ ⟨_,ho2,rfl⟩ noFill_tuple_add seq_tuple_add PySem.F.slot_tuple_add PySem.F.entry_tuple_add (PySem.F.args_tuple_add_2 _ _)
   (tuple_addW2 t b vs.toArray ws.toArray n n2 dd dd2 sl sl2 (by simpa using hv) (by simpa using hw) (by rw [size_toArray,size_toArray];exact hsz)) ⟨ho,ho2,?_⟩
  rw [e];exact h2 hw
def sIx (n d:Nat):Option Int->Nat
 | none=>d
 | some v=>if v<0 then (v+(n:Int)).toNat else min v.toNat n
theorem sIx_none (n d:Nat):sIx n d none=d:=rfl
theorem sIx_nat (n d k:Nat):sIx n d (some (k:Int))=min k n:=by
 show (if (k:Int)<0 then ((k:Int)+(n:Int)).toNat else min (k:Int).toNat n)=min k n;rw [if_neg (by lia),Int.toNat_natCast]
theorem sIx_le (n d:Nat) (hd:d<=n) (o:Option Int):sIx n d o<=n:=by
 cases o with
 | none=>exact hd
 | some v =>
  show (if v<0 then (v+(n:Int)).toNat else min v.toNat n)<=n;by_cases hv:v<0
  ·rw [if_pos hv];lia
  ·rw [if_neg hv];exact Nat.min_le_right _ _
theorem clip_eq (v:Int) (n d:Nat):(if v<0 then max (v+(n:Int)) 0 else min v (n:Int))=((sIx n d (some v):Nat):Int):=by
 show (if v<0 then max (v+(n:Int)) 0 else min v (n:Int))=(((if v<0 then (v+(n:Int)).toNat else min v.toNat n):Nat):Int);by_cases hv:v<0
 ·simp only [if_pos hv];lia
 ·simp only [if_neg hv];lia
theorem Xw (lo hi:Option Int) (n:Nat):Builtin.Slice.sliceAdjust lo hi 1 (n:Int)=(((sIx n 0 lo:Nat):Int),((sIx n n hi:Nat):Int)):=by
 have h1:¬ ((1:Int)<0):=by lia
 unfold Builtin.Slice.sliceAdjust;simp only [h1,if_false];refine Prod.ext ?_ ?_
 ·cases lo with
  | none=>rfl
  | some v=>exact clip_eq v n 0
 ·cases hi with
  | none=>rfl
  | some v=>exact clip_eq v n n
theorem X9 (i j:Nat):Builtin.Slice.slicePlaces (i:Int) (j:Int) 1=j - i:=by
 unfold Builtin.Slice.slicePlaces;have h1:(1:Int) > 0:=by lia
 simp only [h1,if_true,Int.ediv_one];split<;>lia
theorem Gz {v:Value} {o:Option Int} {Q:Option Int->Shared->Prop} (p:IsPart v o) (h:Q o s):wpAny (model prog w) A (Builtin.Slice.slicePartIndex v) Q E s:=by
 cases p with
 | none=>exact slicePart_none h
 | int i t=>exact slicePart_int h
theorem Jc {sl:Addr} {vl vu:Value} {lo hi:Option Int} {n:Nat} {Q:Int×Int×Nat->Shared->Prop} (hs:s.heap.IsSliceOf sl vl vu .none) (pl:IsPart vl lo) (pu:IsPart vu hi)
   (h:Q (((sIx n 0 lo:Nat):Int),1,sIx n n hi - sIx n 0 lo) s):wpAny (model prog w) A (Builtin.Slice.sliceApplied (.ref sl) (pure (n:Int))) Q E s:=by
 obtain ⟨os,hos,hcs,hds⟩:=id hs;unfold Builtin.Slice.sliceApplied Builtin.Slice.sliceFields;refine wpAny_bind (wpAny_bind (wpAny_field hos hds (x:=vl) rfl (wpAny_bind (wpAny_field hos hds (x:=vu) rfl (wpAny_bind (wpAny_field hos hds (x:=.none) rfl (wpAny_pure ?_)))))));refine wpAny_bind (slicePart_none ?_);show wpAny _ _ (if ((1:Int)==0)=true then _ else _) _ _ s;rw [if_neg (by decide)];refine wpAny_bind (Gz pl (wpAny_bind (Gz pu (wpAny_bind (wpAny_pure ?_)))));show wpAny _ _ (match Builtin.Slice.sliceAdjust lo hi 1 (n:Int) with | (lo,hi)=>pure (lo,(1:Int),Builtin.Slice.slicePlaces lo hi 1)) _ _ s;rw [Xw lo hi n];show wpAny _ _ (pure (((sIx n 0 lo:Nat):Int),(1:Int),Builtin.Slice.slicePlaces ((sIx n 0 lo:Nat):Int) ((sIx n n hi:Nat):Int) 1)) _ _ s;rw [X9];exact wpAny_pure h
theorem Z25 (xs:Array Value) (i k:Nat):((List.range k).filterMap fun (m:Nat)=>xs[((i:Int)+(m:Int)*1).toNat]?).toArray=((xs.toList.drop i).take k).toArray:=by
 have e:(fun (m:Nat)=>xs[((i:Int)+(m:Int)*1).toNat]?)=fun m=>xs[i+m]?:=by
  funext m
  have:((i:Int)+(m:Int)*1).toNat=i+m:=by lia
  rw [this]
 rw [e];have:=pick_run xs i k;rw [List.filterMap_map] at this;have e2:((fun x=>xs[x]?) ∘ fun x=>i+x)=fun m=>xs[i+m]?:=rfl
 rw [e2] at this;rw [this]
theorem getItem_tuple_cut {t sl:Addr} {items:Array Value} {vl vu:Value} {lo hi:Option Int} {Q:Value->Shared->Prop} (ht:IsTup s.heap t items) (hs:s.heap.IsSliceOf sl vl vu .none) (pl:IsPart vl lo) (pu:IsPart vu hi)
   (hw:¬ (sIx items.size 0 lo=0/\sIx items.size items.size hi=items.size))
   (h:Q (.ref s.heap.objs.size) { s with heap:=s.heap.push { cls:=.type "tuple",data:=.seq ((items.toList.drop (sIx items.size 0 lo)).take (sIx items.size items.size hi - sIx items.size 0 lo)).toArray } })
   (hsz:items.size<=sizeLine):wpAny (model prog w) A (getItem (.ref t) (.ref sl)) Q E s:=by
 have htake:sizeOk (.seq ((items.toList.drop (sIx items.size 0 lo)).take (sIx items.size items.size hi - sIx items.size 0 lo)).toArray):=by
   show ((items.toList.drop (sIx items.size 0 lo)).take (sIx items.size items.size hi - sIx items.size 0 lo)).toArray.size<=sizeLine;rw [size_toArray,length_take,length_drop,Array.length_toList];lia
 have hj:sIx items.size items.size hi<=items.size:=sIx_le _ _ (le_refl _) hi;obtain ⟨os,hos,hcs,hds⟩:=id hs;have hTs:s.TypeIs (.ref sl) "slice" := ⟨os,hos,hcs⟩;unfold getItem;try with_reducible refine wpAny_holding ?_
 first | refine wpAny_bind (wpAny_pure ?_) | skip
 refine wpAny_bind (wpAny_sequenceKey ht.typeIs (by decide) ?_);refine wpAny_bind (wpAny_callSpecial?_slot (name:=Str.ofString "__getitem__") ht.typeIs PyProof.Rows.slot_tuple_getitem
   (wpAny_call_entry PyProof.Rows.slot_tuple_getitem ht.typeIs entry_tuple_getitem ?_ (args_tuple_getitem _ _)))
 show wpAny _ _ (Builtin.Tuple.tupleItemsOf (.ref t) >>= _) _ _ s;refine wpAny_bind (tupleItemsOf_ ht ?_);refine wpAny_bind (wpAny_typeOf hTs ?_);rw [if_pos (by decide)];refine wpAny_bind (Jc hs pl pu ?_);have hno:¬ ((((sIx items.size 0 lo:Nat):Int)==0&&(1:Int)==1&&(sIx items.size items.size hi - sIx items.size 0 lo)==items.size)=true):=by
   intro q;rw [Bool.and_eq_true,Bool.and_eq_true] at q;have q1:((sIx items.size 0 lo:Nat):Int)=0:=eq_of_beq q.1.1;have q2:sIx items.size items.size hi - sIx items.size 0 lo=items.size:=eq_of_beq q.2;exact hw ⟨by lia,by lia⟩
 show wpAny _ _ (if (((sIx items.size 0 lo:Nat):Int)==0&&(1:Int)==1&&(sIx items.size items.size hi - sIx items.size 0 lo)==items.size)=true then _ else _) _ _ s;rw [if_neg hno,Z25];first
   | exact wpAny_bind (m:=Builtin.Tuple.tupleExact _) (wpAny_newObj_type (wpAny_pure ⟨_,rfl,wpAny_pure h⟩) htake)
   | exact wpAny_bind (m:=Builtin.Tuple.tupleExact _) (wpAny_newObj_type (wpAny_bind (wpAny_pure (wpAny_pure ⟨_,rfl,wpAny_pure h⟩))) htake)
   | exact wpAny_bind (wpAny_bind (m:=Builtin.Tuple.tupleExact _) (wpAny_newObj_type (wpAny_pure (wpAny_pure ⟨_,rfl,wpAny_pure h⟩)) htake))
   | exact wpAny_bind (wpAny_bind (m:=Builtin.Tuple.tupleExact _) (wpAny_newObj_type (wpAny_pure ⟨_,rfl,wpAny_pure h⟩) htake))
end
end HT
namespace L2
open PySem PySem.Spec PyProof.Rows
abbrev TO:=St->Hp->(Option Int->Hp->Prop)->Prop
def PO (X:Cx) (e:Option Expr) (t:TO):Prop :=
 ∀ (pins:List (Addr×Obj)) (s:Shared) (σ:St) (H:Hp) (Q:Option Int->Hp->Prop),Inv X pins σ H s->t σ H Q ->
  wpAny (model X.prog X.w) X.A (evalPart e X.env) (fun u s'=>∃ o H',Inv X pins σ H' s'/\IsPart u o/\Q o H') X.xe s
def Z5f:TO:=fun _ H Q=>Q none H
def Zab (t:TE):TO:=fun σ H Q=>t σ H fun x H1=>∃ i,x=.int i/\Q (some i) H1
theorem Jk {ns:List Int}:∀ {us:List Value},Zx (ns.map V.int) us->IntsAre us ns:=by
 induction ns with
 | nil=>intro us r;rw [map_nil] at r;cases r;exact .nil
 | cons n ns ih =>
  intro us r;rw [map_cons] at r;cases r with
  | cons r1 r2 =>
   obtain ⟨t,e⟩:=r1;subst e;exact .cons n t (ih r2)
section
variable {X:Cx} {e:Expr} {te:TE} {lo hi:Option Expr} {tl th:TO} {pos p2:Pos}
theorem Z3q:PO X none Z5f:=by
 intro pins s σ H Q I h;rw [evalPart_none];exact wpAny_pure ⟨none,H,I,.none,h⟩
theorem Z3v (h:PE X e te):PO X (some e) (Zab te):=by
 intro pins s σ H Q I hw;rw [evalPart_some];refine Wh (h pins s σ H _ I hw) fun u s1 ⟨x,H1,I1,r1,q1⟩=>?_
 obtain ⟨i,rfl,q⟩:=q1;obtain ⟨t,rfl⟩:=r1;exact ⟨some i,H1,I1,.int i t,q⟩
def Fw (X:Cx) (r:V->Option Int->Option Int->Hp->VK->Prop):Prop :=
 ∀ (pins:List (Addr×Obj)) (s:Shared) (σ:St) (H:Hp) (x:V) (v vl vu:Value) (lo hi:Option Int) (sl:Addr) (Q:VK),Inv X pins σ H s->Yg x v->s.heap.IsSliceOf sl vl vu .none->IsPart vl lo->IsPart vu hi->r x lo hi H Q ->
  ∃ T id,typeLookup (.type T) "__getitem__" = pure (some (.builtin id))/\s.TypeIs v T/\wpAny (model X.prog X.w) X.A (getItem v (.ref sl)) (EP X pins σ Q) X.xe s
theorem Fw.or {r r':V->Option Int->Option Int->Hp->VK->Prop} (h:Fw X r) (h':Fw X r'):Fw X (fun x lo hi H Q=>r x lo hi H Q\/r' x lo hi H Q):=by
 intro pins s σ H x v vl vu lo hi sl Q I rx hs pl pu q;rcases q with q | q
 ·exact h pins s σ H x v vl vu lo hi sl Q I rx hs pl pu q
 ·exact h' pins s σ H x v vl vu lo hi sl Q I rx hs pl pu q
def tSl (r:V->Option Int->Option Int->Hp->VK->Prop) (te:TE) (tl th:TO):TE:=fun σ H Q=>te σ H fun x H1=>tl σ H1 fun l H2=>th σ H2 fun u H3=>r x l u H3 Q
theorem Z23 {r:V->Option Int->Option Int->Hp->VK->Prop} (hr:Fw X r) (he:PE X e te) (hl:PO X lo tl) (hu:PO X hi th):PE X (.Subscript e (.Slice lo hi none p2) pos) (tSl r te tl th):=by
 intro pins s σ H Q I h;refine Subscript_ (Wh (he pins s σ H _ I h) fun v s1 ⟨x,H1,I1,r1,q1⟩=>?_);refine wpAny_Slice (Wh (hl pins s1 σ H1 _ I1 q1) fun vl s2 ⟨l,H2,I2,pl,q2⟩=>Wh (hu pins s2 σ H2 _ I2 q2) fun vu s3 ⟨u,H3,I3,pu,q3⟩=>?_);rw [evalPart_none];refine wpAny_pure ?_;have I4:Inv X pins σ H3 { s3 with heap:=s3.heap.push { cls:=.type "slice",data:=.fields #[vl,vu,.none] } }:=I3.kept (t':=s3.toks) fun b ob q=>get?_push_of_some _ q
 obtain ⟨T,id,hT,ht,hg⟩:=hr pins { s3 with heap:=s3.heap.push { cls:=.type "slice",data:=.fields #[vl,vu,.none] } } σ H3 x v vl vu l u s3.heap.objs.size Q I4 r1 (Heap.IsSliceOf.new ..) pl pu q3;show wpAny (model X.prog X.w) X.A (subscriptTail e (.Slice lo hi none p2) v (.ref s3.heap.objs.size)) (EP X pins σ Q) X.xe { s3 with heap:=s3.heap.push { cls:=.type "slice",data:=.fields #[vl,vu,.none] } };exact tail_any (ops:=[.ref s3.heap.objs.size,v]) ht hT hg (by with_unfolding_all rfl)
def Om (xs:List V) (lo hi:Option Int):List V:=(xs.drop (HT.sIx xs.length 0 lo)).take (HT.sIx xs.length xs.length hi - HT.sIx xs.length 0 lo)
theorem Eg (xs:List V) (lo hi:Option Int):(Om xs lo hi).length<=xs.length:=by
 unfold Om;rw [length_take,length_drop];lia
def Zag (K:PySem.W.Frag):V->Option Int->Option Int->Hp->VK->Prop:=fun x lo hi H Q=>∃ a xs,x=.ref a/\Mv K H a xs /\
 ¬ (HT.sIx xs.length 0 lo=0/\HT.sIx xs.length xs.length hi=xs.length)/\∀ p,H p=none->Q (.ref p) (W6 H p (.tup (Om xs lo hi)))
theorem Z94:Fw X (Zag X.K):=by
 intro pins s σ H x v vl vu lo hi sl Q I rx hs pl pu h;obtain ⟨a,xs,rfl,hx,hw,q⟩:=h;cases rx;obtain ⟨its,r,ht,hz⟩:=I.tuple hx;have hlen:its.toArray.size=xs.length:=by rw [size_toArray];exact r.length.symm
 refine ⟨"tuple",_,PyProof.Rows.slot_tuple_getitem.lookup,ht.typeIs,?_⟩;refine HT.getItem_tuple_cut ht hs pl pu (by rw [hlen];exact hw) ?_ (by rw [hlen];exact hz);rw [hlen];refine ⟨.ref s.heap.objs.size,_,I.laid (t':=s.toks) (o:=.tup (Om xs lo hi)) (fun b ob q=>get?_push_of_some _ q) (le_refl _) ?_,rfl,q _ (I.hok.fresh (le_refl _))⟩;exact ⟨le_trans (Eg xs lo hi) hz,_,(r.drop (HT.sIx xs.length 0 lo)).take (HT.sIx xs.length xs.length hi - HT.sIx xs.length 0 lo),IsTup.new _ _⟩
def Zay (K:PySem.W.Frag):R2:=fun x y H Q=>∃ a b xs ys,x=.ref a/\y=.ref b/\Mv K H a xs/\Mv K H b ys/\xs≠[]/\xs.length+ys.length<=sizeLine /\
 (ys=[]->Q (.ref a) H)/\(ys≠[]->∀ p,H p=none->Q (.ref p) (W6 H p (.tup (xs++ys))))
theorem Zx.nil_iff {xs:List V} {us:List Value} (r:Zx xs us):us=[]↔xs=[]:=by
 cases r with
 | nil=>simp
 | cons _ _=>simp
theorem Z57:Ma X (binaryOp .Add) (Zay X.K):=by
 intro pins s σ H x y v u Q I rx ry h;obtain ⟨a,b,xs,ys,rfl,rfl,ha,hb,hx,hz,q1,q2⟩:=h;cases rx;cases ry;obtain ⟨its,r1,p1,_⟩:=I.tuple ha;obtain ⟨its2,r2,p2,_⟩:=I.tuple hb;refine HT.cat_tup p1 p2 (fun z=>hx (r1.nil_iff.mp z)) (fun z=>⟨.ref a,H,I,rfl,q1 (r2.nil_iff.mp z)⟩) (fun z=>?_) (by rw [← r1.length,← r2.length];exact hz);refine ⟨.ref s.heap.objs.size,_,I.laid (t':=s.toks) (o:=.tup (xs++ys)) (fun b ob q=>get?_push_of_some _ q) (le_refl _) ?_,rfl,q2 (fun w=>z (r2.nil_iff.mpr w)) _ (I.hok.fresh (le_refl _))⟩;exact ⟨by rw [length_append];exact hz,_,r1.append r2,IsTup.new _ _⟩
end
def ixN (n:Nat) (i:Int):Option Nat:=if 0<=i then (if i<n then some i.toNat else none) else if -(n:Int)<=i then some (i+n).toNat else none
def Kp {α:Type} (xs:List α) (i:Int):Option α:=(ixN xs.length i).bind fun j=>xs[j]?
theorem Z5o {n:Nat} {i:Int} {j:Nat} (h:ixN n i=some j):seqIndex? i n=some j/\j<n/\-(n:Int)<=i/\i<n:=by
 unfold ixN at h;by_cases h0:0<=i
 ·rw [if_pos h0] at h
  by_cases h1:i<n
  ·rw [if_pos h1] at h
   have e:i.toNat=j:=Option.some.inj h;exact ⟨by rw [seqIndex_of h0 h1,e],by lia,by lia,h1⟩
  ·rw [if_neg h1] at h;cases h
 ·rw [if_neg h0] at h
  by_cases h1 : -(n:Int)<=i
  ·rw [if_pos h1] at h
   have e:(i+n).toNat=j:=Option.some.inj h;exact ⟨by rw [seqIndex_neg (by lia) h1,e],by lia,h1,by lia⟩
  ·rw [if_neg h1] at h;cases h
theorem Lx {α:Type} {xs:List α} {i:Int} {v:α} (h:Kp xs i=some v):∃ j,seqIndex? i xs.length=some j/\xs[j]?=some v/\j<xs.length/\-(xs.length:Int)<=i/\i<xs.length:=by
 unfold Kp at h;cases e:ixN xs.length i with
 | none=>rw [e] at h;cases h
 | some j =>
  rw [e] at h;obtain ⟨h1,h2,h3,h4⟩:=Z5o e;exact ⟨j,h1,h,h2,h3,h4⟩
theorem Ss {α:Type} {xs:List α} {j:Nat} {v:α} (h:xs[j]?=some v):Kp xs (j:Int)=some v:=by
 have hj:j<xs.length:=(List.getElem?_eq_some_iff.mp h).1;have e:ixN xs.length (j:Int)=some j:=by
  unfold ixN;rw [if_pos (by lia),if_pos (by lia)];simp
 unfold Kp;rw [e];exact h
def Gh (b:Expr):Prop:=∀ o i,subscripted b false o i=operate [o,i] (getItem o i)
def Aa (X:Cx) (r:R2):Prop :=
 ∀ (value slice:Expr) (pins:List (Addr×Obj)) (s:Shared) (σ:St) (H:Hp) (x y:V) (v u:Value) (Q:VK),Inv X pins σ H s->Yg x v->Yg y u->r x y H Q ->
  subscripted slice false v u=operate [v,u] (getItem v u)->wpAny (model X.prog X.w) X.A (subscriptTail value slice v u) (EP X pins σ Q) X.xe s
def MtR (X:Cx) (id:String) (r:V->List V->Hp->VK->Prop):Prop :=
 ∀ (pins:List (Addr×Obj)) (s:Shared) (σ:St) (H:Hp) (x:V) (xs:List V) (v:Value) (us:List Value) (Q:VK),Inv X pins σ H s->Yg x v->Zx xs us->r x xs H Q ->
  wpAny (model X.prog X.w) X.A (call (.builtin id) (v::us)) (EP X pins σ Q) X.xe s
section
variable {X:Cx} {a b:Expr} {ta tb:TE} {pos:Pos}
theorem Aa.or {r r':R2} (h:Aa X r) (h':Aa X r'):Aa X (fun x y H Q=>r x y H Q\/r' x y H Q):=by
 intro value slice pins s σ H x y v u Q I rx ry q hs;rcases q with q | q
 ·exact h value slice pins s σ H x y v u Q I rx ry q hs
 ·exact h' value slice pins s σ H x y v u Q I rx ry q hs
theorem Z1a {r:R2} (hr:Aa X r) (ha:PE X a ta) (hb:PE X b tb) (hs:Gh b):PE X (.Subscript a b pos) (tOp r ta tb):=by
 intro pins s σ H Q I h;exact Subscript_ (Z91 ha hb I h fun v u s2 x y H2 I2 rx ry q=>hr a b pins s2 σ H2 x y v u Q I2 rx ry q (hs _ _))
def Zam (K:PySem.W.Frag):R2:=fun x y H Q=>∃ p xs i v,x=.ref p/\y=.int i/\R1 K H p xs/\Kp xs i=some v/\Q v H
def Zbq (K:PySem.W.Frag):R2:=fun x y H Q=>∃ p xs i v,x=.ref p/\y=.int i/\Mv K H p xs/\Kp xs i=some v/\Q v H
def Zbp:R2:=fun x y H Q=>∃ z i c,x=.str z/\y=.int i/\z.length<=sizeLine/\Kp z.cps.toList i=some c/\Q (.str ⟨#[c]⟩) H
theorem Na:Aa X (Zam X.K):=by
 intro value slice pins s σ H x y v u Q I rx ry h hs;obtain ⟨p,xs,i,z,rfl,rfl,hq,he,q⟩:=h;cases rx;obtain ⟨t,rfl⟩:=ry;obtain ⟨its,r,pl,hz⟩:=I.list hq;obtain ⟨j,h1,h2,h3,h4,h5⟩:=Lx he;obtain ⟨w,ew,rw'⟩:=r.get h2;have hl:=r.length;have hn:=E1;have fin:EP X pins σ Q w s:=⟨z,H,I,rw',q⟩;by_cases h0:0<=i
 ·have hj:i.toNat=j:=by
   rw [seqIndex_of h0 h5] at h1;exact Option.some.inj h1
  exact item_listR pl.isList h0 (by lia) (by rw [hj];simpa using ew) fin hs
 ·have hj:(i+(its.toArray.size:Int)).toNat=j:=by
   rw [seqIndex_neg (by lia) h4] at h1;rw [size_toArray,← hl];exact Option.some.inj h1
  exact subscriptTail_builtinR (x:=w) pl.isList.typeIs slot_list_getitem.lookup
   (wpAny_getItem_list_neg (Q:=fun r s'=>r=w/\EP X pins σ Q r s') pl.isList (by lia) (by rw [size_toArray]<;>lia) (by lia) (by rw [hj];simpa using ew) ⟨rfl,fin⟩) hs
theorem Z8z:Aa X (Zbq X.K):=by
 intro value slice pins s σ H x y v u Q I rx ry h hs;obtain ⟨p,xs,i,z,rfl,rfl,hq,he,q⟩:=h;cases rx;obtain ⟨t,rfl⟩:=ry;obtain ⟨its,r,pl,hz⟩:=I.tuple hq;obtain ⟨j,h1,h2,h3,h4,h5⟩:=Lx he;obtain ⟨w,ew,rw'⟩:=r.get h2;have hl:=r.length;have hn:=E1;have fin:EP X pins σ Q w s:=⟨z,H,I,rw',q⟩;exact subscriptTail_builtinR (x:=w) pl.typeIs slot_tuple_getitem.lookup
  (getItem_tuple (j:=j) (Q:=fun r s'=>r=w/\EP X pins σ Q r s') pl (by lia) (by lia) (by rw [size_toArray,← hl];exact h1) (by simpa using ew) ⟨rfl,fin⟩) hs
theorem Z9r:Aa X Zbp:=by
 intro value slice pins s σ H x y v u Q I rx ry h hs;obtain ⟨z,i,c,rfl,rfl,hz,he,q⟩:=h;obtain ⟨t,rfl⟩:=rx;obtain ⟨t',rfl⟩:=ry;obtain ⟨j,h1,h2,h3,h4,h5⟩:=Lx he;have hl:z.cps.toList.length=z.length:=by simp [Str.length]
 rw [hl] at h1 h4 h5;have hn:=E1;exact tail_any (typeIs_str s z t) slot_str_getitem.lookup (getItem_str (c:=c) (by
  have e1:decide (i < -(2^63:Int))=false:=decide_eq_false (by lia);have e2:decide (i≥2^63)=false:=decide_eq_false (by lia);rw [e1,e2,Bool.or_false]) (by rw [h1];simpa using h2) ⟨.str ⟨#[c]⟩,H,I.tok _,⟨_,rfl⟩,q⟩) hs
def rIx (K:PySem.W.Frag):R2:=fun x y H Q=>Zam K x y H Q\/Zbq K x y H Q\/Zbp x y H Q
theorem Z7r:Aa X (rIx X.K):=Na.or (Z8z.or Z9r)
theorem Nv (lo hi:Option Int) (n:Nat):(sliceBounds lo hi none n).1=((HT.sIx n 0 lo:Nat):Int)/\(sliceBounds lo hi none n).2.1=((HT.sIx n n hi:Nat):Int)/\(sliceBounds lo hi none n).2.2=1:=by
 refine ⟨?_,?_,rfl⟩
 ·cases lo with
  | none=>simp [sliceBounds,HT.sIx]
  | some i =>
   simp only [sliceBounds,HT.sIx,Option.getD_none,show (1:Int) > 0 by decide,if_true];by_cases h:i<0
   ·simp only [h,if_true]<;>lia
   ·simp only [h,if_false]<;>lia
 ·cases hi with
  | none=>simp [sliceBounds,HT.sIx]
  | some i =>
   simp only [sliceBounds,HT.sIx,Option.getD_none,show (1:Int) > 0 by decide,if_true];by_cases h:i<0
   ·simp only [h,if_true]<;>lia
   ·simp only [h,if_false]<;>lia
theorem Ka (its:List Value) (lo hi:Option Int):slicePick its.toArray lo hi none=((its.drop (HT.sIx its.length 0 lo)).take (HT.sIx its.length its.length hi - HT.sIx its.length 0 lo)).toArray:=by
 obtain ⟨h1,h2,h3⟩:=Nv lo hi its.toArray.size;unfold slicePick;rw [h1,h2,h3];simp only [sliceRange_one,pick_run,size_toArray]<;>rfl
def Zcd (K:PySem.W.Frag):V->Option Int->Option Int->Hp->VK->Prop:=fun x lo hi H Q=>∃ a xs,x=.ref a/\R1 K H a xs/\∀ p,H p=none->Q (.ref p) (W6 H p (.lst (Om xs lo hi)))
theorem Z4j:Fw X (Zcd X.K):=by
 intro pins s σ H x v vl vu lo hi sl Q I rx hs pl pu h;obtain ⟨a,xs,rfl,hx,q⟩:=h;cases rx;obtain ⟨its,r,ht,hz⟩:=I.list hx;have hlen:=r.length;refine ⟨"list",_,slot_list_getitem.lookup,ht.isList.typeIs,?_⟩;refine wpAny_getItem_list_slice ht.isList hs pl pu .none (by simp) ?_ (by rw [size_toArray]<;>lia);rw [Ka,← hlen];refine ⟨.ref s.heap.objs.size,_,I.laid (t':=s.toks) (o:=.lst (Om xs lo hi)) (fun b ob q=>get?_push_of_some _ q) (le_refl _) ?_,rfl,q _ (I.hok.fresh (le_refl _))⟩;exact ⟨le_trans (Eg xs lo hi) hz,_,0,(r.drop (HT.sIx xs.length 0 lo)).take (HT.sIx xs.length xs.length hi - HT.sIx xs.length 0 lo),get?_push_size _ rfl⟩
theorem O1:Ma X (compareOp .NotIn) (fun x y H Q=>∃ i j,x=.str i/\y=.str j/\Q (.bl (!(!(Builtin.Str.occurrences j i 0 j.length 1).isEmpty))) H):=by
 intro pins s σ H x y v u Q I rx ry h;obtain ⟨i,j,rfl,rfl,q⟩:=h;obtain ⟨t,rfl⟩:=rx;obtain ⟨t',rfl⟩:=ry;exact notIn_str ⟨.bl _,H,I,rfl,q⟩
theorem Nt:Wn X (.builtin "len") (fun xs H Q=>∃ p ys,xs=[.ref p]/\(R1 X.K H p ys\/Mv X.K H p ys)/\Q (.int ys.length) H):=by
 intro pins s σ H xs us Q I r h;obtain ⟨p,ys,rfl,hq,q⟩:=h;obtain ⟨u,rfl,rx⟩:=Q7 r;cases rx;have hn:=E1;rcases hq with hq | hq
 ·obtain ⟨its,r',pl,hz⟩:=I.list hq
  have hlen:=r'.length;exact Calls.call_len_list pl.isList (by simp only [size_toArray]<;>lia) ⟨.int ys.length,H,I.tok _,⟨s.toks+1,by rw [size_toArray,hlen]⟩,q⟩
 ·obtain ⟨its,r',pl,hz⟩:=I.tuple hq
  have hlen:=r'.length;exact len_tuple pl (by simp only [size_toArray]<;>lia) ⟨.int ys.length,H,I.tok _,⟨s.toks+1,by rw [size_toArray,hlen]⟩,q⟩
theorem Lw:Wn X (.builtin "len") (fun xs H Q=>∃ z,xs=[.str z]/\z.length<=sizeLine/\Q (.int z.length) H):=by
 intro pins s σ H xs us Q I r h;obtain ⟨z,rfl,hz,q⟩:=h;obtain ⟨u,rfl,t,rfl⟩:=Q7 r;have hn:=E1;exact len_str (by lia) ⟨.int z.length,H,I.tok _,⟨_,rfl⟩,q⟩
theorem Wn.or {f:Value} {r r':List V->Hp->VK->Prop} (h:Wn X f r) (h':Wn X f r'):Wn X f (fun xs H Q=>r xs H Q\/r' xs H Q):=by
 intro pins s σ H xs us Q I rs q;rcases q with q | q
 ·exact h pins s σ H xs us Q I rs q
 ·exact h' pins s σ H xs us Q I rs q
theorem N0:Wn X (.type "list") (fun xs H Q=>∃ p ys,xs=[.ref p]/\(R1 X.K H p ys\/Mv X.K H p ys)/\∀ l,H l=none->Q (.ref l) (W6 H l (.lst ys))):=by
 intro pins s σ H xs us Q I r h;obtain ⟨p,ys,rfl,hq,q⟩:=h;obtain ⟨u,rfl,rx⟩:=Q7 r;cases rx;have fin:∀ (its:List Value),Zx ys its->ys.length<=sizeLine->∀ (h':Heap) (c':Nat),(∀ b o',s.heap.get? b=some o'->h'.get? b=some o') ->
   h'.get? s.heap.objs.size=some { cls:=.type "list",dict:=none,data:=.seq its.toArray c',slots:=#[] }->EP X pins σ Q (.ref s.heap.objs.size) { s with heap:=h' }:=fun its r' hz h' c' kp e =>
  ⟨.ref s.heap.objs.size,_,I.laid (t':=s.toks) kp (le_refl _) (show W2 X.prog X.w _ h' _ (.lst ys) from ⟨hz,its,c',r',e⟩),rfl,q _ (I.hok.fresh (le_refl _))⟩
 rcases hq with hq | hq
 ·obtain ⟨its,r',pl,hz⟩:=I.list hq
  have hlen:=r'.length;obtain ⟨o,ho,hc,n,hd⟩:=pl.isList;exact call_list_seq p (.inl rfl) ho hc hd (fun h' c' kp e=>fin its r' hz h' c' kp e) (by simp only [size_toArray]<;>lia)
 ·obtain ⟨its,r',pl,hz⟩:=I.tuple hq
  have hlen:=r'.length;obtain ⟨o,ho,hc,n,hd⟩:=pl;exact call_list_seq p (.inr rfl) ho hc hd (fun h' c' kp e=>fin its r' hz h' c' kp e) (by simp only [size_toArray]<;>lia)
theorem Kb:Wn X (.type "tuple") (fun xs H Q=>∃ p ys,xs=[.ref p]/\((R1 X.K H p ys/\∀ l,H l=none->Q (.ref l) (W6 H l (.tup ys)))\/(Mv X.K H p ys/\Q (.ref p) H))):=by
 intro pins s σ H xs us Q I r h;obtain ⟨p,ys,rfl,h⟩:=h;obtain ⟨u,rfl,rx⟩:=Q7 r;cases rx;rcases h with ⟨hq,q⟩ | ⟨hq,q⟩
 ·obtain ⟨its,r',pl,hz⟩:=I.list hq
  have hlen:=r'.length;refine call_tuple_list pl.isList (fun h' kp=>?_) (by simp only [size_toArray]<;>lia);have I1:Inv X pins σ H { s with heap:=h' }:=I.kept (t':=s.toks) kp;have I2:Inv X pins σ (W6 H h'.objs.size (.tup ys)) { s with heap:=h'.push { cls:=.type "tuple",data:=.seq its.toArray } } :=
   I1.laid (t':=s.toks) (fun b o e=>get?_push_of_some _ e) (le_refl _) (show W2 X.prog X.w _ _ _ (.tup ys) from ⟨hz,its,r',IsTup.new _ _⟩)
  exact ⟨.ref h'.objs.size,_,I2,rfl,q _ (I1.hok.fresh (le_refl _))⟩
 ·obtain ⟨its,r',pl,hz⟩:=I.tuple hq
  exact call_tuple_same pl ⟨.ref p,H,I,rfl,q⟩
def tyV (K:PySem.W.Frag) (T:String) (x:V) (H:Hp):Prop:=match x with
 | .str _=>T="str"
 | .int _=>T="int"
 | .ref p=>(T="list" /\ ∃ xs,R1 K H p xs)\/(T="tuple" /\ ∃ o,K.lookup p=some o/\o.cls=.type "tuple" /\ o.dict=none) \/
  (T="dict" /\ ((∃ kvs,H p=some (.dK kvs))\/∃ kvs,H p=some (.dT kvs)))\/(T="set" /\ ∃ S n,H p=some (.set S n))
 | _=>False
theorem Z97 {pins:List (Addr×Obj)} {σ:St} {H:Hp} {s:Shared} {T:String} {x:V} {v:Value} (I:Inv X pins σ H s) (r:Yg x v) (ty:tyV X.K T x H) :
  s.TypeIs v T/\∀ a,v=.ref a->∃ ob,s.heap.get? a=some ob/\ob.dict=none:=by
 cases x with
 | str z =>
  obtain ⟨t,rfl⟩:=r;cases (show T="str" from ty);exact ⟨typeIs_str s z t,fun _ e=>nomatch e⟩
 | int i =>
  obtain ⟨t,rfl⟩:=r;cases (show T="int" from ty);exact ⟨typeIs_int s i t,fun _ e=>nomatch e⟩
 | ref p =>
  cases r;rcases ty with ⟨rfl,xs,hq⟩ | ⟨rfl,o,hk,hc,hd⟩ | ⟨rfl,hk⟩ | ⟨rfl,S,n,hk⟩
  ·obtain ⟨its,_,pl,_⟩:=I.list hq
   refine ⟨pl.isList.typeIs,fun a e=>?_⟩;cases e;obtain ⟨o,n,e,c,hd,_⟩:=pl;exact ⟨o,e,hd⟩
  ·refine ⟨⟨o,I.kIn p o hk,hc⟩,fun a e=>?_⟩
   cases e;exact ⟨o,I.kIn _ o hk,hd⟩
  ·have z:∃ o,s.heap.get? p=some o/\o.ExactDict:=by
    rcases hk with ⟨kvs,hk⟩ | ⟨kvs,hk⟩
    ·obtain ⟨_,_,_,_,o,_,_,e,ex,_⟩:=I.hok p _ hk
     exact ⟨o,e,ex⟩
    ·obtain ⟨_,_,_,_,o,_,_,e,ex,_⟩:=I.hok p _ hk
     exact ⟨o,e,ex⟩
   obtain ⟨o,e,ex⟩:=z;refine ⟨⟨o,e,ex.1⟩,fun a e2=>?_⟩;cases e2;exact ⟨o,e,ex.2.1⟩
  ·obtain ⟨o,_,_,_,e,ex,_⟩:=I.hok p _ hk
   refine ⟨⟨o,e,ex.1⟩,fun a e2=>?_⟩;cases e2;exact ⟨o,e,ex.2.1⟩
 | _=>exact False.elim ty
def tBM (K:PySem.W.Frag) (T:String) (r:V->List V->Hp->VK->Prop) (to:TE) (t:TA):TE:=fun σ H Q=>to σ H fun x H1=>tyV K T x H1/\t σ H1 fun xs H2=>r x xs H2 Q
variable {o e:Expr} {es:List Expr} {to:TE} {t:TA} {name:Str} {apos cpos:Pos} {T id:String} {r:V->List V->Hp->VK->Prop}
theorem Z1l (pa:PlainAttrs T) (slot:Slot T name id) (hty:typeOf (.builtin id)=pure (.type "method_descriptor")) (hm:MtR X id r) (ho:PE X o to) (ha:PA X (e::es) t)
   (hbase:attributeBase o name X.env (eval o X.env)=eval o X.env:=by rfl)
   (hfew:((backTo cpos (starEach (e::es) X.env)).all (fun x=>!x.1)&&(backToKw cpos (keywordEach [] X.env)).all (fun x=>x.1.isSome)
     && decide ((e::es).length+([]:List Keyword).length+(if ([]:List Keyword).isEmpty then 0 else 1)<30))=true:=by rfl)
   (hline:(apos.endLine==cpos.line)=true:=by rfl) (hs:starEach (e::es) X.env=(false,eval e X.env)::starEach es X.env:=by rfl) (hplain:(backTo cpos (starEach es X.env)).any (·.1)=false:=by rfl) :
   PE X (.Call (.Attribute o name apos) (e::es) [] cpos) (tBM X.K T r to t):=by
 intro pins s σ H Q I h;refine wpAny_Call_method_late hbase hfew hline rfl (Wh (ho pins s σ H _ I h) fun v s1 ⟨x,H1,I1,r1,ty,q1⟩=>?_);obtain ⟨h1,h2⟩:=Z97 I1 r1 ty;refine ⟨T,id,pa,slot,hty,h1,h2,?_⟩;have hA:=ha cpos pins s1 σ H1 _ I1 q1;rw [hs] at hA ⊢;refine Calls.callWith_builtin (by show (false||(backTo cpos (starEach es X.env)).any (·.1))=false;rw [hplain]<;>rfl) (Calls.evalArgs_plain ?_);exact Wh hA fun us s2 ⟨vs,H2,I2,r2,q2⟩=>hm pins s2 σ H2 x vs v us Q I2 r1 r2 q2
end
def MtM (X:Cx) (id:String) (r:V->List V->Hp->VK->Prop):Prop :=
 ∀ (pins:List (Addr×Obj)) (s:Shared) (σ:St) (H:Hp) (x:V) (xs:List V) (v:Value) (us:List Value) (Q:VK),Inv X pins σ H s->Yg x v->Zx xs us->r x xs H Q ->
  wpAny (model X.prog X.w) X.A (call (.builtin id) (v::us)) (EP X pins σ Q) X.xe s
theorem Zx.one:∀ {x:V} {us:List Value},Zx [x] us->∃ u,us=[u]/\Yg x u
 | _,_,.cons r .nil=>⟨_,rfl,r⟩
section
variable {X:Cx} {pins:List (Addr×Obj)} {σ:St} {H:Hp} {s:Shared} {l b:Addr} {xs ys zs:List V}
theorem Inv.lset {its its':List Value} {n:Nat} {f:Array Value->Array Value} {t':Nat} (I:Inv X pins σ H s) (hH:H l=some (.lst xs))
  (e:s.heap.get? l=some { cls:=.type "list",data:=.seq its.toArray n }) (hf:f its.toArray=its'.toArray) (hv:Zx ys its') (hz:ys.length<=sizeLine) :
  Inv X pins σ (W6 H l (.lst ys)) { s with heap:=s.heap.update l (Obj.mapSeq f),toks:=t' }:=by
 have q:=PySem.IsL.update e f;rw [hf] at q;refine I.write (x:=l) (e:=l) (by rw [hH];exact trivial) (.inl rfl) (fun b' u hb hu=>(get?_update_other s.heap (Obj.mapSeq f) (Ne.symm hb)).trans hu) ⟨_,q⟩ ?_;exact ⟨hz,its',_,hv,q⟩
theorem Inv.lnew {its:List Value} {t':Nat} (I:Inv X pins σ H s) (hv:Zx ys its) (hz:ys.length<=sizeLine) :
  Inv X pins σ (W6 H s.heap.objs.size (.lst ys)) { s with heap:=s.heap.push { cls:=.type "list",data:=.seq its.toArray },toks:=t' } :=
 I.laid (fun _ _ q=>get?_push_of_some _ q) (le_refl _) ⟨hz,its,0,hv,get?_push_size _ rfl⟩
theorem Inv.fresh (I:Inv X pins σ H s):H s.heap.objs.size=none:=I.hok.fresh (le_refl _)
theorem Inv.lstM (I:Inv X pins σ H s) (hH:H l=some (.lst xs)):xs.length<=sizeLine/\∃ (its:List Value) (n:Nat),Zx xs its/\xs.length=its.length/\s.heap.get? l=some { cls:=.type "list",data:=.seq its.toArray n }:=by
 obtain ⟨z,its,n,r,e⟩:=I.hok l _ hH;exact ⟨z,its,n,r,r.length,e⟩
end
section
variable {X:Cx}
def Z4e:V->List V->Hp->VK->Prop:=fun x vs H Q=>∃ l xs y,x=.ref l/\vs=[y]/\H l=some (.lst xs)/\xs.length<sizeLine/\Q .non (W6 H l (.lst (xs++[y])))
theorem Lh:MtM X "list.append" Z4e:=by
 intro pins s σ H x vs v us Q I rx rv h;obtain ⟨l,xs,y,rfl,rfl,hH,hz,q⟩:=h;cases rx;obtain ⟨u,rfl,ru⟩:=rv.one;obtain ⟨z,its,n,r,hl,e⟩:=I.lstM hH;refine call_meets F.slot_list_append ⟨_,e,rfl⟩ F.entry_list_append (F.args_list_append_2 _ _) (PySem.list_append l its.toArray n u (by rw [size_toArray];lia)) ⟨e,?_⟩;refine ⟨.non,_,I.lset (its':=its++[u]) hH e (by simp) (r.append (.cons ru .nil)) ?_,rfl,q⟩;rw [length_append,length_singleton];lia
end
section
variable {prog:Program} {w:World} {A:Around} {E:Value->Shared->Prop} {s:Shared}
end
section
variable {X:Cx}
end
end L2
namespace Att
open PySem PySem.W PySem.Calls PyProof.Rows
theorem G7 {P:Params} {h:Heap}:∀ (ns:List Int) (vs:List Value),WellAll P h vs (ns.map WData.int)->IntsAre vs ns:=by
 intro ns;induction ns with
 | nil =>
  intro vs w;rw [map_nil] at w;cases w;exact .nil
 | cons n ns ih =>
  intro vs w;rw [map_cons] at w;cases w with
  | cons a b =>
   cases a;exact .cons _ _ (ih _ b)
theorem Cy {l:OpenLaw} {n:Nat} (hn:l.most=some n) {P:Params} {h:Heap} {args:List WData} {vals:List Value}
   (hpre:l.row.toRowW.claim.pre args=true) (hwl:WellAll P h vals args) :
   ∃ a vs ns,vals=[Value.ref a]/\args=[WData.list (ns.map WData.int)]/\h.get? a=some { cls:=.type "list",data:=.seq vs.toArray }/\IntsAre vs ns/\ns.length<=n:=by
 have hsh:WShape.hasAll [] args [.list .int]=true:=(pre_splitW hpre).1;have hc:l.pre.holds [] { args:=args }=true:=(pre_splitW hpre).2;obtain ⟨d,r,rfl,h1,h2⟩:=hasAllW_cons hsh;obtain rfl:=hasAllW_nil h2;obtain ⟨xs,rfl,h3⟩:=hasW_list h1;obtain ⟨ns,rfl⟩:=items_int h3;have hlen:ns.length<=n:=by
   unfold OpenLaw.pre at hc;have h4:(WTm.not (.lt (.lit (.int (n:Int))) (.len (.arg 0)))).holds [] { args:=[.list (ns.map .int)] }=true:=by
     have h4:=(holds_andW hc).1;rw [hn] at h4;exact h4
   have h5:=condW_of h4 (w_not (w_lt w_lit (w_len_list (w_arg rfl))));rw [length_map] at h5;refine Nat.le_of_not_lt fun q=>?_
   have q':(n:Int)<((ns.length:Nat):Int):=by lia
   first
     | (rw [decide_eq_true q'] at h5;exact absurd h5 (by decide))
     | (simp at h5;lia)
 cases hwl with
 | cons w1 w2 =>
   cases w2;cases w1 with
   | list ho hall=>exact ⟨_,_,ns,rfl,rfl,ho,G7 ns _ hall,hlen⟩
theorem Z02 (l:OpenLaw) (args:List WData):l.row.toRowW.claim.post args (.bool true) args=true :=
 postW_of (r:=l.row.toRowW) (X:=(true==true))
  (show WShape.has [] (.bool true) .bool=true by first | rfl | decide | simp [WShape.has,WShape.arms,WShape.armsAll])
  (show (WTm.eq .res (.lit (.bool true))).value [] { args:=args,res:=some (.bool true),after:=args }=some (.bool (true==true)) from w_eq_bool (w_res rfl) w_lit) rfl
theorem attach_call {l:OpenLaw} {n:Nat} {q:Program} {loose:List Str} {XP:(Str->Option Value)->Heap->Prop} {YP:World->Heap->Prop} {d:DefRec}
  (hn:l.most=some n) (hdf:d.params.defaults=[])
  (call:∀ (w:World) (s₀ s₁:Shared) (mg mb:Str->Option Value) (fa:Addr) (o:Obj) (pm cd doc:Value) (a:Addr) (vs:List Value) (ns:List Int),
   Ground q loose [] XP w s₀ mg mb s₁.heap->YP w s₁.heap ->
   s₁.heap.get? fa=some o->o.data=.func (docDef d.name d.params d.body d.scope pm cd doc)->s₁.heap.CodeRec cd d.name->mg d.name=some (.ref fa) ->
   s₁.heap.get? a=some { cls:=.type "list",data:=.seq vs.toArray }->IntsAre vs ns->ns.length<=n->s₁.gens=#[] ->
   codeAny (model l.prog w) callerA (.call (.ref fa) ⟨[.ref a],[]⟩) (fun r s'=>r=.ok (.ret (.bool true))/\OldK s₁.heap s'.heap/\s'.os=s₁.os/\AllBare s'.gens) s₁) :
  WalkO q loose XP YP l.row.toRowW d [] (fun f vs=>PySem.call f vs):=by
 intro w s₀ s₁ mg mb G Y fa o pm cd doc dV kV ho hd hcd hD hmg hg args vals as hpre hlay hrd hwl hlo;obtain rfl:dV=.none:=Dflts.none hD hdf;obtain rfl:kV=.none:=Dflts.noKw hD;obtain ⟨a,vs,ns,rfl,rfl,hobj,hints,hlen⟩:=Cy hn hpre hwl;refine enter_call (codeAny_mono (call w s₀ s₁ mg mb fa o pm cd doc a vs ns G Y ho (fd_plain hd) hcd hmg hobj hints hlen hg) fun r s' hq=>?_);obtain ⟨rfl,h2,h3,h4⟩:=hq;exact ⟨.inl ⟨.bool true,.bool true,[],rfl,fun _=>rfl,.bool true,Z02 l _,fun _=>⟨List.Pairwise.nil,fun _ hm=>(nomatch hm)⟩⟩,h2,h3,h4⟩
section
variable {prog:Program} {w:World} {A:Around} {E:Value->Shared->Prop} {s:Shared} {K:Frag}
end
end Att
namespace L2
open PySem PySem.Spec PyProof.Rows
theorem Ko:∀ {vs:List Value} {ns:List Int},IntsAre vs ns->Zx (ns.map V.int) vs
 | _,_,.nil=>.nil
 | _,_,.cons n t h=>.cons ⟨t,rfl⟩ (Ko h)
def SL (K:PySem.W.Frag) (H:Hp) (a:Addr) (xs:List V):Prop :=
 Rd H a (.lst xs)\/∃ (its:List Value) (n:Nat),K.lookup a=some { cls:=.type "list",data:=.seq its.toArray n }/\xs.length<=sizeLine/\Zx xs its
def Z82 (H:Hp):Prop:=∀ b,H b=none\/∃ o xs,H b=some (.frz o (.lst xs))
theorem Z0s {P:Program} {w:World} {K:PySem.W.Frag} {mg mb:Str->Option Value} {CX:Kl} {k:Nat} {fa a:Addr} {fd:FuncData} {x:Str} {sp:Sp} {s₁:Shared} {vs:List Value} {ns:List Int}
  (KX:K.In s₁.heap) (hns:s₁.heap.Ns mainGlobals mg) (hb:s₁.heap.Ns builtinsNs mb) (hbb:∀ x:Str,x≠"__name__" -> mb x=bootBuiltins x) (hlim:s₁.heap.NoLimit) (hg:s₁.gens=#[])
  (ha:s₁.heap.get? a=some { cls:=.type "list",data:=.seq vs.toArray }) (hi:IntsAre vs ns) (hl:ns.length<=sizeLine) (hr:Room k callerA)
  (F:∀ base:Heap,K.In base->base.Ns mainGlobals mg->FnOk P w K mg base CX k fa fd [x] sp) (hbind:∀ (s:Shared) (u:Value),BindsTo s fd ⟨[u],[]⟩ [(x,u)])
  (hsp:∀ H:Hp,Z82 H->SL K H a (ns.map V.int)->sp [.ref a] H (fun v _=>v=.bl true) fun _ _ _=>False)
  (hCX:∀ H e s',CX [] H s₁ (fun _ _ _=>False) e s'->False) :
  codeAny (model P w) callerA (.call (.ref fa) ⟨[.ref a],[]⟩) (fun r s'=>r=.ok (.ret (.bool true))/\OldK s₁.heap s'.heap/\s'.os=s₁.os/\AllBare s'.gens) s₁:=by
 have rv:=Ko hi;have lenV:=hi.length
 -- from an abstract heap in which nothing but the script may be tracked
 have core:∀ H:Hp,Z82 H->SL K H a (ns.map V.int)->M7 P w H s₁.heap->(∀ b,H b≠none->b=a)->(H a≠none->K.lookup a=none) ->
   codeAny (model P w) callerA (.call (.ref fa) ⟨[.ref a],[]⟩) (fun r s'=>r=.ok (.ret (.bool true))/\OldK s₁.heap s'.heap/\s'.os=s₁.os/\AllBare s'.gens) s₁:=by
  intro H hO hS hok hA hK;have base_of:∀ {b:Addr} {o:Obj},s₁.heap.get? b=some o->H b=none->(Lz s₁.heap H).get? b=some o:=fun e n=>Z2l e n
  have noA:∀ {b:Addr} {o:Obj} {es:Array DictEntry} {ep:Nat},s₁.heap.get? b=some o->o.data=.dict es ep->H b=none:=fun {b o es ep} e d=>by
   cases q:H b with
   | none=>rfl
   | some u =>
    have e':b=a:=hA b (by rw [q];simp);subst e';rw [ha] at e;cases e;have d':Data.seq vs.toArray _=Data.dict es ep:=d;cases d'
  have nsK:∀ {b:Addr} {m:Str->Option Value},s₁.heap.Ns b m->(Lz s₁.heap H).Ns b m:=fun {b m} ⟨o,es,ep,e,d,r⟩=>⟨o,es,ep,base_of e (noA e d),d,r⟩
  have hKb:K.In (Lz s₁.heap H):=fun b o e=>base_of (KX b o e) (by
   cases q:H b with
   | none=>rfl
   | some u =>
    have e':b=a:=hA b (by rw [q];simp);subst e';rw [hK (by rw [q];simp)] at e;cases e)
  have hM:Mod K mg (Lz s₁.heap H):=⟨hKb,nsK hns,⟨mb,nsK hb,hbb⟩,let ⟨mc,h1,h2⟩:=hlim;⟨mc,nsK h1,h2⟩⟩;have e0:Env0 P w K mg (Lz s₁.heap H) callerA [] s₁ H:=⟨rfl,hM,fun b o e=>Z4i e,le_of_eq (C3 _ _),trivial,fun b hb=>absurd (show b∈([]:List Addr) from hb) (by simp),hok,.of_eq hg⟩;refine codeAny_mono ((F _ hKb (nsK hns)).run callerA [] s₁ H ⟨[.ref a],[]⟩ [.ref a] [.ref a] _ _ hr e0 (hbind s₁ (.ref a)) (.cons rfl .nil) (hsp H hO hS)) fun r s' h=>?_
  cases r with
  | error e=>exact (hCX H e s' h).elim
  | ok fl =>
   cases fl with
   | next=>exact False.elim h
   | brk=>exact False.elim h
   | cont=>exact False.elim h
   | ret u =>
    obtain ⟨v,H',os,bare,un,hok',r',q⟩:=h;have q':v=.bl true:=q;subst q';obtain rfl:u=Value.bool true:=r';refine ⟨rfl,OldK.of_keep fun b o e=>?_,os,bare⟩;cases q:H b with
    | none=>exact un.keep b o e q (by intro z;exact absurd (show b∈([]:List Addr) from z) (by simp)) (by simp)
    | some u =>
     rcases hO b with z | ⟨ob,xs,z⟩
     ·rw [q] at z;cases z
     ·have z2:=un.frzs b ob _ z
      obtain ⟨e1,_⟩:=hok b _ z;obtain ⟨e2,_⟩:=hok' b _ z2;rw [e] at e1;cases e1;exact e2
 cases hk:K.lookup a with
 | some o =>
  -- the script is one of the module's own objects
  have e:=KX a o hk;rw [ha] at e;cases e;refine core (fun _=>none) (fun _=>.inl rfl) (.inr ⟨vs,_,hk,by rw [length_map];exact hl,rv⟩) (fun b u z=>by have z':(none:Option HO)=some u:=z;cases z') (fun b z=>absurd rfl z) fun z=>absurd rfl z
 | none =>
  refine core (fun b=>if b=a then some (.frz { cls:=.type "list",data:=.seq vs.toArray } (.lst (ns.map V.int))) else none) (fun b=>?_) (.inl (.inr ⟨{ cls:=.type "list",data:=.seq vs.toArray },if_pos rfl⟩)) (fun b u z=>?_) (fun b z=>?_) fun _=>hk
  ·by_cases hb:b=a
   ·exact .inr ⟨_,_,if_pos hb⟩
   ·exact .inl (if_neg hb)
  ·by_cases hb:b=a
   ·have z':=(if_pos hb).symm.trans z
    cases z';subst hb;exact ⟨ha,by rw [length_map];exact hl,vs,_,rv,ha⟩
   ·have z':=(if_neg hb).symm.trans z
    cases z'
  ·by_cases hb:b=a
   ·exact hb
   ·exact absurd (if_neg hb) z
theorem Zci {l:PySem.W.OpenLaw} {n k:Nat} {q:Program} {loose:List Str} {XP:(Str->Option Value)->Heap->Prop} {YP:World->Heap->Prop} {d:DefRec} {K:Params->PySem.W.Frag} {CX:World->Kl} {sp:World->Sp} {x:Str}
  (hn:l.most=some n) (hn2:n<=sizeLine) (hdf:d.params.defaults=[]) (hr:Room k callerA)
  (hY:∀ (w:World) (h:Heap),YP w h->(K w.params).In h)
  (F:∀ (w:World) (mg:Str->Option Value) (fa:Addr) (h:Heap),(K w.params).In h->h.Ns mainGlobals mg->mg d.name=some (.ref fa) ->
   ∃ fd:FuncData,(∀ (s:Shared) (u:Value),BindsTo s fd ⟨[u],[]⟩ [(x,u)]) /\
    ∀ base:Heap,(K w.params).In base->base.Ns mainGlobals mg->FnOk l.prog w (K w.params) mg base (CX w) k fa fd [x] (sp w))
  (hsp:∀ (w:World) (H:Hp) (a:Addr) (ns:List Int),ns.length<=n->Z82 H->SL (K w.params) H a (ns.map V.int)->sp w [.ref a] H (fun v _=>v=.bl true) fun _ _ _=>False)
  (hCX:∀ (w:World) (H:Hp) (s:Shared) (e:Value) (s':Shared),CX w [] H s (fun _ _ _=>False) e s'->False) :
  PySem.W.WalkO q loose XP YP l.row.toRowW d [] (fun f vs=>PySem.call f vs):=by
 refine Att.attach_call hn hdf fun w s₀ s₁ mg mb fa o pm cd doc a vs ns G Y ho hd hcd hmg hobj hints hlen hg=>?_
 have KX:=hY w _ Y;obtain ⟨fd,hb,hF⟩:=F w mg fa _ KX G.T.g hmg;exact Z0s KX G.T.g G.T.b G.T.builtins G.T.nolimit hg hobj hints (le_trans hlen hn2) hr hF hb (fun H hO hS=>hsp w H a ns hlen hO hS) fun H e s'=>hCX w H s₁ e s'
def N7 (s:Stmt) (j:Nat):Stmt:=match s with
 | .ClassDef _ _ _ body _ _ _ _ _ _ _=>body.getD j (.Pass ⟨0,0,0,0⟩)
 | _=>.Pass ⟨0,0,0,0⟩
def Wi (s:Stmt):Arguments:=match s with
 | .FunctionDef _ a _ _ _ _ _ _ _ _=>a
 | _=>{ posonlyargs:=[],args:=[],vararg:=none,kwonlyargs:=[],kw_defaults:=[],kwarg:=none,defaults:=[] }
def Y6 (s:Stmt):List Stmt:=match s with
 | .FunctionDef _ _ b _ _ _ _ _ _ _=>b
 | _=>[]
def Z7 (s:Stmt):Scope:=match s with
 | .FunctionDef _ _ _ _ _ _ sc _ _ _=>sc
 | _=>{ kind:=.function,names:=[],isGenerator:=false,isCoroutine:=false }
abbrev Sc:Kl:=fun _ _ _ _ _ _=>False
abbrev E0:XK:=fun _ _ _=>False
theorem Z6c {X:Cx}:K7 Sc X E0:=fun _ _ _ _ _ _ _ h=>h.elim
structure Fun (K:PySem.W.Frag) (x qual:Str) (st:Stmt) (f:Addr) (fd:FuncData):Prop where
 ex:∃ (oc:Value) (od:Option Addr) (kV doc pm:Value) (an:Option Addr) (cdv ct:Value) (osl:Array (Option Value)),
  fd=fnOf x qual (Wi st) (Y6 st) (Z7 st) .none kV doc pm an cdv ct/\K.lookup f=some ⟨oc,od,.func fd,osl⟩/\codeIn K cdv qual=true
 kp:PySem.W.keepIn K (.ref f)=true
section
variable {P:Program} {w:World} {K:PySem.W.Frag} {mg:Str->Option Value} {base:Heap}
theorem Fun.ok {x qual:Str} {st:Stmt} {f:Addr} {fd:FuncData} {N ps:List Str} {k:Nat} {sp:Sp} (F:Fun K x qual st f fd) (S:FnScope N ps (Z7 st)) (len:∀ vs H Q E,sp vs H Q E->vs.length=ps.length)
  (hbody:∀ (cdv:Value) (A:Around) (outer:List Env) (s:Shared) (H:Hp) (vs:List V) (Q:VK) (E:XK),Room k (A.deeper (envOfC qual (Z7 st) s.heap.objs.size f cdv))->sp vs H Q E ->
   ∃ t,Ro (Ts Sc P w K mg base N qual (Z7 st) f cdv A outer s H E).nox (Y6 st) t/\t { nx:=fun _ H'=>Q .non H',rt:=Q } (start N vs) H):FnOk P w K mg base Sc (k+1) f fd ps sp:=by
 obtain ⟨oc,od,kV,doc,pm,an,cdv,ct,osl,rfl,lk,hcd⟩:=F.ex;refine Z6a lk hcd S len fun A outer s H vs Q E hr hsp=>?_
 obtain ⟨t,h,q⟩:=hbody cdv A outer s H vs Q E hr hsp;exact ⟨t,h.nox,q⟩
theorem Fun.binds {x qual:Str} {st:Stmt} {f:Addr} {fd:FuncData} {ps:List Str} (F:Fun K x qual st f fd)
  (h:∀ (kV doc pm:Value) (an:Option Addr) (cdv ct:Value) (us:List Value),us.length=ps.length->bindArgs (fnOf x qual (Wi st) (Y6 st) (Z7 st) .none kV doc pm an cdv ct) ⟨us,[]⟩=pure (ps.zip us)):Qm K fd ps []:=by
 obtain ⟨oc,od,kV,doc,pm,an,cdv,ct,osl,rfl,lk,hcd⟩:=F.ex;exact .all (h kV doc pm an cdv ct)
theorem Ha {x qual:Str} {st:Stmt} {f:Addr} {oc:Value} {od an:Option Addr} {osl:Array (Option Value)} {kV doc pm cdv ct:Value} (l:K.lookup f=some ⟨oc,od,.func (fnOf x qual (Wi st) (Y6 st) (Z7 st) .none kV doc pm an cdv ct),osl⟩)
 (c:codeIn K cdv qual=true) (k:PySem.W.keepIn K (.ref f)=true):Fun K x qual st f (fnOf x qual (Wi st) (Y6 st) (Z7 st) .none kV doc pm an cdv ct):=⟨⟨oc,od,kV,doc,pm,an,cdv,ct,osl,rfl,l,c⟩,k⟩
end
theorem Rq {A:Around} {k:Nat} (hr:Room k A):A.units+1<cLine:=lt_of_le_of_lt (Nat.add_le_add_left (by decide:1<=64) _) hr.units
theorem Q1 {n:Nat} (h:n<=1000):n<sizeLine:=lt_of_le_of_lt h (by decide)
section
variable {X:Cx}
theorem pv (i:Nat) {x:Str} {pos:Pos} (hN:X.N[i]?=some x:=by rfl) (hv:Vis X.env.scope x:=by first | exact Or.inl rfl | exact Or.inr (Or.inl rfl) | exact Or.inr (Or.inr rfl)) (hd:(x==("__debug__" : Str))=false:=by decide)
 (hcd:(x==("__classdict__" : Str))=false:=by decide):PE X (.Name x pos) (Xz i):=Jy hN hv hd hcd
end
theorem Zb9 {A B:Prop} (h:B):if false=true then A else B:=by
 rw [if_neg Bool.false_ne_true];exact h
theorem Zaw {A B:Prop} (h:A):if true=true then A else B:=by
 rw [if_pos rfl];exact h
def Zp (H H':Hp):Prop:=∀ b o,H b=some o->H' b=some o
theorem Zp.refl (H:Hp):Zp H H:=fun _ _ h=>h
theorem Zp.trans {H H1 H2:Hp} (a:Zp H H1) (b:Zp H1 H2):Zp H H2:=fun c o h=>b c o (a c o h)
theorem Zp.free {H H':Hp} (e:Zp H H') {l:Addr} (h:H' l=Option.none):H l=Option.none:=by
 cases q:H l with
 | none=>rfl
 | some o =>
  rw [e l o q] at h;cases h
theorem Pd {prog:Program} {w:World} {A:Around} {R:Result->Shared->Prop} {s:Shared} {elt target iter:Expr} {ifs:List Expr} {scope:Scope} {pos:Pos} {it acc:Value} {env:Env} (I:Nat->Shared->Prop)
  (turn:∀ n s,I n s->wpAny (model prog w) A (pyNext it) (fun r s₁=>match r with
   | none=>R (.ok .next) s₁
   | some v=>wpAny (model prog w) A (letOwnedTupleGo target it v) (fun _ s₁'=>wpAny (model prog w) A (assign target env v) (fun _ s₂ =>
    wpAny (model prog w) A (forIn ifs true fun c r=>if r=true then do let ok ← isTrue c env (eval c env);pure (ForInStep.yield ok) else pure (ForInStep.yield r)) (fun ok s₃ =>
     if ok=true then wpAny (model prog w) A (eval elt env) (fun x s₄ =>
      wpAny (model prog w) A (call (.builtin "list.append") [acc,x]) (fun _ s₅=>∃ m,m<n/\I m s₅) (fun _ _=>False) s₄) (fun _ _=>False) s₃
     else ∃ m,m<n/\I m s₃) (fun _ _=>False) s₂) (fun _ _=>False) s₁') (fun _ _=>False) s₁) (fun _ _=>False) s)
  (n:Nat) (h:I n s) :
  codeAny (model prog w) A (.compLoop (.ListComp elt [⟨target,iter,ifs,0⟩] scope pos) 0 it acc env) R s:=by
 refine codeAny_loop rfl I (fun n s hI=>?_) n h;show wpAny _ A ((compTurn (.ListComp elt [⟨target,iter,ifs,0⟩] scope pos) 0 it acc env).onRaise (fun x=>do noteFrame x env;theTreesLotGoes x)) _ _ s;refine wpAny_noted ?_;rw [compTurn_list];refine wpAny_bind (wpAny_standAt (wpAny_bind (wpAny_mono (turn n s hI) (fun r s₁ h₁=>?_) fun _ _ h'=>h'.elim)));cases r with
 | none=>exact wpAny_pure h₁
 | some v =>
  refine wpAny_bind (wpAny_mono h₁ (fun _ s₁' h₁'=>?_) fun _ _ h'=>h'.elim);refine wpAny_bind (wpAny_mono h₁' (fun _ s₂ h₂=>wpAny_bind (wpAny_mono h₂ (fun ok s₃ h₃=>?_) fun _ _ h'=>h'.elim)) fun _ _ h'=>h'.elim);cases ok with
  | false=>exact wpAny_pure ⟨rfl,h₃⟩
  | true =>
   exact wpAny_bind (wpAny_bind (wpAny_mono h₃ (fun x s₄ h₄=>wpAny_bind (wpAny_mono h₄ (fun _ s₅ h₅=>wpAny_pure (wpAny_pure ⟨rfl,h₅⟩)) fun _ _ h'=>h'.elim)) fun _ _ h'=>h'.elim))
def E6 (cells:List (Str×Addr)):List (Str×NameKind)->List (Str×Addr)->List (Str×Addr)
 | [],acc=>acc
 | (n,k)::r,acc=>E6 cells r (if k==.free then (n,(cells.lookup n).getD 0)::acc else acc)
theorem Hh {sc:Scope} {env:Env} (h:∀ y∈sc.names,y.2=.free->∃ c,env.cells.lookup y.1=some c):closureFor sc env=pure (E6 env.cells sc.names []):=by
 unfold closureFor;generalize ([]:List (Str×Addr))=acc;generalize hl:sc.names=names at h;clear hl;induction names generalizing acc with
 | nil=>rfl
 | cons y r ih =>
  obtain ⟨n,k⟩:=y;have ih':=fun acc=>ih acc fun y hy=>h y (mem_cons_of_mem _ hy)
  dsimp only at ih' ⊢;rw [List.forIn_cons];by_cases hk:k=.free
  ·subst hk
   obtain ⟨c,hc⟩:=h (n,.free) mem_cons_self rfl;simp only [cellOf,hc,beq_self_eq_true,if_true,pure_bind,E6,Option.getD_some];exact ih' _
  ·have hb:(k==NameKind.free)=false:=by simpa using hk
   simp only [hb,Bool.false_eq_true,if_false,pure_bind,E6];exact ih' _
theorem Ec {cells:List (Str×Addr)}:∀ (names:List (Str×NameKind)) (acc:List (Str×Addr)),(∀ y∈names,y.2=.free->∃ c,cells.lookup y.1=some c)->(∀ x c,acc.lookup x=some c->cells.lookup x=some c) ->
   ∀ x c,(E6 cells names acc).lookup x=some c->cells.lookup x=some c
 | [],_,_,ha,x,c,e=>ha x c e
 | (n,k)::r,acc,h,ha,x,c,e=>by
   unfold E6 at e;refine Ec r _ (fun y hy=>h y (mem_cons_of_mem _ hy)) (fun x' c' e'=>?_) x c e;split at e'
   · rename_i hk
     have hk':k=.free:=by simpa using hk
     obtain ⟨c0,hc0⟩:=h (n,k) mem_cons_self hk';simp only at hc0;rw [lookup_cons] at e';split at e'
     · rename_i hx
       have hx':x'=n:=by simpa using hx
       subst hx';rw [hc0] at e';simp at e';rw [hc0,e']
     · exact ha x' c' e'
   · exact ha x' c' e'
theorem Hr {cells:List (Str×Addr)}:∀ (names:List (Str×NameKind)) (acc:List (Str×Addr)) (x:Str),((x,NameKind.free)∈names\/(acc.lookup x).isSome=true)->((E6 cells names acc).lookup x).isSome=true
 | [],acc,x,h=>by
   rcases h with h | h
   · simp at h
   · exact h
 | (n,k)::r,acc,x,h=>by
   unfold E6;refine Hr r _ x ?_;rcases h with h | h
   · rcases mem_cons.mp h with e | h
     · cases e
       right;simp
     · exact .inl h
   · right
     split
     · rw [lookup_cons]
       split
       · rfl
       · exact h
     · exact h
def Wr (X:Cx) (sc:Scope) (N:List Str) (C:Addr) (s:Shared) (H:Hp) (fp:List Addr):Cx :=
 { X with N:=N,s₀:=s,H₀:=H,env:=compEnvC sc (E6 X.env.cells sc.names []) C X.env,outer:=X.stack,ex:=fp,fn:=fun _=>false,pn:=[],xe:=fun _ _=>False }
def Z6m (psc sc:Scope) (NX N:List Str) (fs:List (Option Nat)):Bool :=
 N.length==fs.length&&(N.zip fs).all (fun p=>match p.2 with | none=>true | some j=>NX[j]?==some p.1&&sc.names.lookup p.1==some .free) &&
 sc.names.all (fun y=>y.2 != .cell&&(y.2 != .free||(psc.names.lookup y.1==some .cell||psc.names.lookup y.1==some .free))&&(y.2 != .local||sc.names.lookup y.1==some .local))&&sc.kind==.function
structure CompOk (psc sc:Scope) (NX N:List Str) (fs:List (Option Nat)):Prop where
 len:N.length=fs.length
 frees:∀ (i j:Nat),fs[i]?=some (some j)->∃ x,N[i]?=some x/\NX[j]?=some x/\sc.names.lookup x=some .free
 nocell:∀ y∈sc.names,y.2≠.cell
 par:∀ y∈sc.names,y.2=.free->psc.names.lookup y.1=some .cell\/psc.names.lookup y.1=some .free
 loc:∀ y∈sc.names,y.2=.local->sc.names.lookup y.1=some .local
 kind:sc.kind=.function
theorem CompOk.of {psc sc:Scope} {NX N:List Str} {fs:List (Option Nat)} (h:Z6m psc sc NX N fs=true):CompOk psc sc NX N fs:=by
 unfold Z6m at h;simp only [Bool.and_eq_true,beq_iff_eq,all_eq_true,bne_iff_ne,ne_eq,Bool.or_eq_true] at h;obtain ⟨⟨⟨h1,h2⟩,h3⟩,h4⟩:=h;refine ⟨h1,fun i j e=>?_,fun y hy=>(h3 y hy).1.1,fun y hy e=>?_,fun y hy e=>?_,h4⟩
 ·have hi:i<fs.length:=(List.getElem?_eq_some_iff.mp e).1
  have hN:i<N.length:=by lia
  have hz:(N.zip fs)[i]?=some (N[i],some j):=by
   rw [List.getElem?_zip_eq_some];exact ⟨by simp [hN],e⟩
  have:=h2 _ (mem_of_getElem? hz);simp only [Bool.and_eq_true,beq_iff_eq] at this;exact ⟨N[i],by simp [hN],this.1,this.2⟩
 ·rcases (h3 y hy).1.2 with z | z
  ·exact absurd e z
  ·exact z
 ·rcases (h3 y hy).2 with z | z
  ·exact absurd e z
  ·exact z
theorem Rx {sc:Scope} {env:Env} {x:Str} {k:NameKind} (nc:∀ y∈sc.names,y.2≠.cell) (h:(relabel sc env).names.lookup x=some k) (hk:k=.cell\/k=.free):(x,NameKind.free)∈sc.names:=by
 have hm:=PySem.mem_of_lookup h;unfold relabel at hm;simp only [mem_map] at hm;obtain ⟨⟨n,k'⟩,hy,e⟩:=hm;dsimp only at e;split at e
 ·rename_i hc
  simp only [Bool.and_eq_true,beq_iff_eq] at hc;cases e;rw [hc.1.1] at hy;exact hy
 ·cases e
  rcases hk with z | z
  ·exact absurd z (nc _ hy)
  ·rw [z] at hy;exact hy
theorem Lq {sc:Scope} {env:Env} {x:Str} (h:sc.names.lookup x=some .free):(relabel sc env).names.lookup x=some .cell\/(relabel sc env).names.lookup x=some .free:=by
 unfold relabel;dsimp only;generalize sc.names=names at h;induction names with
 | nil=>simp at h
 | cons y r ih =>
  obtain ⟨n,k⟩:=y;rw [lookup_cons] at h;rw [map_cons];split at h
  ·rename_i hx
   cases h;have:x=n:=by simpa using hx
   subst this;dsimp only;split
   ·left;rw [lookup_cons];simp
   ·right;rw [lookup_cons];simp
  ·rename_i hx
   dsimp only;split
   ·rw [lookup_cons,hx];exact ih h
   ·rw [lookup_cons,hx];exact ih h
section
variable {X:Cx} {pins:List (Addr×Obj)} {σ:St} {H:Hp} {s:Shared} {sc psc:Scope} {N:List Str} {fs:List (Option Nat)} {C:Addr} {fp:List Addr}
theorem S7 (I:Inv X pins σ H s) (hp:X.env.scope=psc) (S:CompOk psc sc X.N N fs):∀ y∈sc.names,y.2=.free->∃ c,X.env.cells.lookup y.1=some c:=fun y hy e=>by
 refine I.ok.has y.1 ?_;have:=S.par y hy e;rw [← hp] at this;exact this
theorem Ql (I:Inv X pins σ H s) (hp:X.env.scope=psc) (S:CompOk psc sc X.N N fs):∀ x c,(E6 X.env.cells sc.names []).lookup x=some c->X.env.cells.lookup x=some c :=
 Ec sc.names [] (S7 I hp S) fun x c e=>by simp at e
theorem Z00 (I:Inv X pins σ H s) (hp:X.env.scope=psc) (S:CompOk psc sc X.N N fs) (hf:∀ b∈fp,S3 X pins H b) (hfl:∀ b∈fp,b<s.heap.objs.size) (hC:s.heap.objs.size<=C):(Wr X sc N C s H fp).Ok where
 mod:=I.ok.mod
 kind:=S.kind
 glob:=I.ok.glob
 blt:=I.ok.blt
 above:=hC
 inj:=fun x y c h1 h2=>I.ok.inj x y c (Ql I hp S x c h1) (Ql I hp S y c h2)
 has:=fun x hx=>by
  have hm:(x,NameKind.free)∈sc.names:=by
   rcases hx with hx | hx
   ·exact Rx S.nocell hx (.inl rfl)
   ·exact Rx S.nocell hx (.inr rfl)
  exact Option.isSome_iff_exists.mp (Hr sc.names [] x (.inl hm))
 cab:=fun x c h _=>by cases h
 hd:=I.ok.hd
 frames:=I.ok.frames
 stk:=.inl rfl
 exf:=fun b hb=>⟨ne_of_lt (lt_of_lt_of_le (hfl b hb) hC),fun x c e=>(hf b hb).2.2.2.2.1 x c (Ql I hp S x c e)⟩
 bs:=I.bs
 bsz:=le_trans I.ok.bsz I.sz
 noex:=fun b o e hb=>by
  rcases (hf b hb).2.2.2.1 with z | z
  ·exact I.ok.noex b o e z
  ·exact absurd (lt_of_lt_of_le (lt_size e) (le_trans I.ok.bsz z)) (lt_irrefl _)
 exfs:=fun b hb hs=>by
  rcases mem_cons.mp (I.stkSub b hs) with z | z
  ·exact (hf b hb).2.1 z
  ·exact (hf b hb).2.2.1 z
 funs:=I.stack
 frf:=I.stkFree
def Vf (fs:List (Option Nat)) (σ:St):St:=fs.map fun o=>match o with | none=>none | some j=>(σ[j]?).getD none
theorem X6 {h₁:Heap} {tk:Nat} {D:Addr} {oD:Obj} {m₁:Str->Option Value} (I:Inv X pins σ H s) (hp:X.env.scope=psc) (S:CompOk psc sc X.N N fs) (hf:∀ b∈fp,S3 X pins H b) (hfl:∀ b∈fp,b<s.heap.objs.size) (hC:s.heap.objs.size<=C)
  (old:∀ b o,s.heap.get? b=some o->h₁.get? b=some o) (hn:h₁.Ns C m₁) (hD:h₁.get? D=some oD) (hDs:s.heap.objs.size<=D) (hDC:D≠C) (hDd:∀ v,oD.data≠.cell v) :
  Inv (Wr X sc N C s H fp) [(D,oD)] (Vf fs σ) H { s with heap:=h₁,toks:=tk }:=by
 refine ⟨Z00 I hp S hf hfl hC,rfl,I.bare,Un.kept old,⟨m₁,hn,fun i x v e1 e2 e3=>?_⟩,fun x c e=>?_,I.hok.fresh hC,fun x c e=>I.freeC x c (Ql I hp S x c e),fun p hpn=>?_,I.hok.kept old,?_⟩
 ·unfold Vf at e2
  rw [getElem?_map] at e2;cases hfi:fs[i]? with
  | none=>rw [hfi] at e2;cases e2
  | some o =>
   rw [hfi] at e2;cases o with
   | none=>simp at e2
   | some j =>
    simp only [Option.map_some,Option.some.injEq] at e2;obtain ⟨x',ex,ej,el⟩:=S.frees i j hfi;have:x'=x:=by
     have q:N[i]?=some x:=e1;rw [ex] at q;exact Option.some.inj q
    subst this;have ev:σ[j]?=some (some v):=by
     cases q:σ[j]? with
     | none=>rw [q] at e2;simp at e2
     | some z=>rw [q] at e2;simp at e2;rw [e2]
    have kk:X.env.scope.names.lookup x'=some .cell\/X.env.scope.names.lookup x'=some .free:=by
     rw [hp];exact S.par (x',.free) (PySem.mem_of_lookup el) rfl
    obtain ⟨m,hm,hl⟩:=I.loc;obtain ⟨u,r,l⟩:=hl j x' v ej ev (by
     rcases kk with k | k
     ·exact .inr (.inl k)
     ·exact .inr (.inr k))
    refine ⟨u,r,.inr ⟨Lq el,?_⟩⟩;rcases l with ⟨k,_⟩ | ⟨_,c,hc,hcell⟩
    ·have k':X.env.scope.names.lookup x'=some .local:=k
     rcases kk with z | z<;>rw [z] at k'<;>cases k'
    ·obtain ⟨c',hc'⟩:=Option.isSome_iff_exists.mp (Hr (cells:=X.env.cells) sc.names [] x' (.inl (PySem.mem_of_lookup el)))
     have:=Ql I hp S x' c' hc';rw [hc] at this;cases this;obtain ⟨oc,ho,hd⟩:=hcell;exact ⟨c,hc',oc,old _ _ ho,hd⟩
 ·obtain ⟨v,oc,ho,hd⟩:=I.cell x c (Ql I hp S x c e)
  exact ⟨v,oc,old _ _ ho,hd⟩
 ·have hpn':p=(D,oD):=by
   rcases mem_append.mp hpn with z | z
   ·exact absurd (show p∈([]:List (Addr×Obj)) from z) (by simp)
   ·simpa using z
  subst hpn';refine ⟨hD,I.hok.fresh hDs,hDC,fun hs=>?_,hDd⟩;have hb:D∈X.env.locals::X.fs:=I.stkSub D hs;rcases mem_cons.mp hb with z | z
  ·exact absurd (lt_of_lt_of_le I.lt (by rw [← z];exact hDs)) (lt_irrefl _)
  ·exact I.nofs hDs z
 ·show (Vf fs σ).length=N.length
  unfold Vf;rw [length_map,S.len]
theorem M7.adopt {P:Program} {w:World} {H:Hp} {h:Heap} {D:Addr} {ys:List V} {its:List Value} {n:Nat} (ok:M7 P w H h) (hD:H D=none) (ho:h.get? D=some { cls:=.type "list",data:=.seq its.toArray n }) (r:Zx ys its) (hz:ys.length<=sizeLine) :
  M7 P w (W6 H D (.lst ys)) h:=fun b u e=>by
 by_cases hb:b=D
 ·subst hb
  rw [Zt] at e;cases e;exact ⟨hz,its,n,r,ho⟩
 ·rw [Zj hb] at e
  refine (ok b u e).stay (fun c v _ q=>q) (fun c q=>?_) fun c xs q=>?_
  ·rw [Zj (Y0 q hD)];exact q
  ·rw [Zj (Y0 q hD)];exact q
theorem Un.adopt {fs ex:List Addr} {H H':Hp} {h h':Heap} {D:Addr} {o:HO} (u:Un fs ex H H' h h') (hD:h.objs.size<=D) (hn:H' D=none):Un fs ex H (W6 H' D o) h h' where
 keep:=u.keep
 slot:=u.slot
 free:=fun b ob q n hx=>by rw [Zj (ne_of_lt (lt_of_lt_of_le (lt_size q) hD))];exact u.free b ob q n hx
 there:=u.there
 tups:=fun b xs q=>by rw [Zj (Y0 (u.tups b xs q) hn)];exact u.tups b xs q
 frzs:=fun b ob x q=>by rw [Zj (Y0 (u.frzs b ob x q) hn)];exact u.frzs b ob x q
 tbls:=fun b ps q=>by
  obtain ⟨more,e⟩:=u.tbls b ps q;exact ⟨more,by rw [Zj (Y0 e hn)];exact e⟩
def PIf (Y:Cx) (ifs:List Expr) (tt:TT):Prop :=
 ∀ (pins:List (Addr×Obj)) (s:Shared) (σ:St) (H:Hp) (Q:Bool->Hp->Prop),Inv Y pins σ H s->tt σ H Q ->
  wpAny (model Y.prog Y.w) Y.A (forIn ifs true fun c r=>if r=true then do let ok ← isTrue c Y.env (eval c Y.env);pure (ForInStep.yield ok) else pure (ForInStep.yield r)) (TP Y pins σ Q) Y.xe s
def Zdi:TT:=fun _ H Q=>Q true H
theorem Z46 {Y:Cx}:PIf Y [] Zdi:=fun _ _ _ H _ I h=>wpAny_tests_nil ⟨H,I,h⟩
theorem Z52 {Y:Cx} {c:Expr} {tc:TT} (h:PT Y c tc):PIf Y [c] tc:=fun pins s σ H Q I q=>wpAny_tests_one (h pins s σ H Q I q)
def Ext (σ σ2:St):Prop:=σ.length=σ2.length/\∀ (i:Nat) v,σ[i]?=some (some v)->σ2[i]?=some (some v)
def Z6k (wi:TI) (fs:List (Option Nat)) (g:TG) (tt:TT) (te:TE):TE:=fun σ H Q=>wi σ H fun J H1=>∃ W:Nat->Nat->List V->Hp->Prop,(∃ m,W 0 m [] H1)/\∀ i m ys H,W i m ys H ->
 (J.stop i H/\ys.length<=sizeLine/\∀ p,H p=none->Q (.ref p) (W6 H p (.lst ys))) \/
 (J.go i H/\ys.length<=sizeLine/\∃ N:List V->Hp->Prop,(∀ ys' H',N ys' H'->∃ m',m'<m/\W (i+1) m' ys' H')/\∀ x H',J.yld i H x H'->g x (Vf fs σ) H' fun σ2 H2=>Ext (Vf fs σ) σ2 /\
  tt σ2 H2 fun b H3=>if b=true then te σ2 H3 fun v H4=>N (ys++[v]) H4 else N ys H3)
theorem Oj {elt tg iter:Expr} {ifs:List Expr} {pos:Pos} {it:Addr} {tn:Nat->Heap->Prop} {J:It} {g:TG} {tt:TT} {te:TE} {E:Value->Shared->Prop} {RR:Value->Addr->Result->Shared->Prop}
  (hp:X.env.scope=psc) (S:CompOk psc sc X.N N fs) (hc:X.calm=true)
  (hb:∀ (C:Addr) (s:Shared) (H:Hp) (fp:List Addr),PG (Wr X sc N C s H fp) tg g/\PIf (Wr X sc N C s H fp) ifs tt/\PE (Wr X sc N C s H fp) elt te)
  (I:Inv X pins σ H s) (T:Turn X.prog X.w X.K tg J fp it tn) (st:tn 0 s.heap) (hf:∀ b∈fp,S3 X pins H b) {Q:VK}
  (hW:∃ W:Nat->Nat->List V->Hp->Prop,(∃ m,W 0 m [] H)/\∀ i m ys H,W i m ys H ->
   (J.stop i H/\ys.length<=sizeLine/\∀ p,H p=none->Q (.ref p) (W6 H p (.lst ys))) \/
   (J.go i H/\ys.length<=sizeLine/\∃ N:List V->Hp->Prop,(∀ ys' H',N ys' H'->∃ m',m'<m/\W (i+1) m' ys' H')/\∀ x H',J.yld i H x H'->g x (Vf fs σ) H' fun σ2 H2=>Ext (Vf fs σ) σ2 /\
    tt σ2 H2 fun b H3=>if b=true then te σ2 H3 fun v H4=>N (ys++[v]) H4 else N ys H3))
  (hRR:∀ (D C:Addr) (s':Shared) (H':Hp),(∃ m,s'.heap.Ns C m)->Inv X pins σ H' s'->S3 X pins H' C->Q (.ref D) H'->RR (.ref D) C (.ok .next) s') :
  wpAny (model X.prog X.w) X.A (newList []) (fun acc s₃=>wpAny (model X.prog X.w) X.A (newFunctionEnv sc X.env.globals (E6 X.env.cells sc.names []) [] X.env.qual none .none (some X.env)) (fun cenv s₄ =>
   codeAny (model X.prog X.w) X.A (.compStart (.ListComp elt [⟨tg,iter,ifs,0⟩] sc pos) 0 (.ref it) acc { cenv with scope:=relabel sc X.env }) (RR acc cenv.locals) s₄) E s₃) E s:=by
 refine wpAny_newObj_type (wpAny_newFunctionEnv S.nocell (by intro y hy;simp at hy) (fun h₁ hns₁ hsb₁=>?_) S.kind);dsimp only at hns₁ hsb₁ ⊢;generalize hH2:s.heap.push { cls:=.type "list",dict:=none,data:=.seq ([]:List Value).toArray }=G2 at hns₁ hsb₁ ⊢;have hC:G2.objs.size=s.heap.objs.size+1:=by rw [← hH2,size_push]
 have hDC:s.heap.objs.size≠G2.objs.size:=by rw [hC];exact ne_of_lt (Nat.lt_succ_self _)
 have hCle:s.heap.objs.size<=G2.objs.size:=by rw [hC];exact le_succ _
 have below:∀ b,b<s.heap.objs.size->b≠G2.objs.size/\b≠s.heap.objs.size:=fun b hb=>⟨by rw [hC];exact ne_of_lt (Nat.lt_succ_of_lt hb),ne_of_lt hb⟩
 have hfl:∀ b∈fp,b<s.heap.objs.size:=fun b hb=>by
  obtain ⟨o,e,_⟩:=T.obj _ _ st b hb;exact lt_size e
 have old:∀ b o,s.heap.get? b=some o->h₁.get? b=some o:=fun b o e=>hsb₁.extBut b o (below b (lt_size e)).1 (get?_push_of_some _ (hH2▸get?_push_of_some _ e))
 have hacc:h₁.get? s.heap.objs.size=some { cls:=.type "list",data:=.seq ([]:List Value).toArray 0 }:=hsb₁.extBut _ _ hDC (get?_push_of_some _ (hH2▸get?_push_size _ rfl));have st1:tn 0 h₁:=T.keep _ _ _ st fun b _ o e=>old b o e
 obtain ⟨W,⟨m0,w0⟩,turn⟩:=hW;obtain ⟨pg,pif,pe⟩:=hb G2.objs.size s H fp;generalize hY:Wr X sc N G2.objs.size s H fp=Y at pg pif pe;have Ye:Y.env=compEnvC sc (E6 X.env.cells sc.names []) G2.objs.size X.env:=by rw [← hY];rfl
 have YA:Y.A=X.A:=by rw [← hY];rfl
 have Yp:Y.prog=X.prog:=by rw [← hY];rfl
 have Yw:Y.w=X.w:=by rw [← hY];rfl
 have YK:Y.K=X.K:=by rw [← hY];rfl
 have Yx:Y.xe=fun _ _=>False:=by rw [← hY];rfl
 have Yc:Y.calm=true:=by rw [← hY];exact hc
 have cellN:∀ x c,X.env.cells.lookup x=some c->c<s.heap.objs.size:=fun x c e=>by
  obtain ⟨v,q⟩:=I.cell x c e;exact q.lt
 have loop:∀ s₃:Shared,s₃={ s with heap:=h₁,toks:=s.toks+([]:List (Str×Value)).length } ->
   codeAny (model X.prog X.w) X.A (.compLoop (.ListComp elt [⟨tg,iter,ifs,0⟩] sc pos) 0 (.ref it) (.ref s.heap.objs.size) (compEnvC sc (E6 X.env.cells sc.names []) G2.objs.size X.env)) (RR (.ref s.heap.objs.size) G2.objs.size) s₃:=by
  rintro s₃ rfl;refine Pd (fun n s'=>∃ (i:Nat) (H':Hp) (ys:List V) (its:List Value) (k:Nat),Zx ys its/\Inv Y [(s.heap.objs.size,{ cls:=.type "list",data:=.seq its.toArray k })] (Vf fs σ) H' s'/\tn i s'.heap/\(∀ b∈fp,H' b=none)/\W i n ys H') ?_ m0
   ⟨0,H,[],[],0,.nil,hY▸X6 (D:=s.heap.objs.size) I hp S hf hfl hCle old hns₁ hacc (le_refl _) hDC (fun v z=>by cases z),st1,fun b hb=>(hf b hb).1,w0⟩
  rintro n s1 ⟨i,H1,ys,its,k,rv,I1,st',fr1,w1⟩;have stat:∀ {H':Hp} {pl:List (Addr×Obj)},(∀ b∈fp,H' b=none)->(∀ p∈pl,p.1=s.heap.objs.size)->∀ b∈fp,S3 Y pl H' b:=fun {H' pl} hn hpl b hb=>by
   rw [← hY];refine ⟨hn b hb,(below b (hfl b hb)).1,fun z=>?_,.inl hb,fun x c e=>(hf b hb).2.2.2.2.1 x c (Ql I hp S x c e),fun p hpp=>?_⟩
   ·rcases mem_cons.mp (I.stkSub b z) with z | z
    ·exact (hf b hb).2.1 z
    ·exact (hf b hb).2.2.1 z
   ·have hpp':p∈pl:=by
     rcases mem_append.mp hpp with z | z
     ·exact absurd (show p∈([]:List (Addr×Obj)) from z) (by simp)
     ·exact z
    rw [hpl p hpp'];exact Ne.symm (below b (hfl b hb)).2
  have one:∀ {o:Obj} (p:Addr×Obj),p∈([(s.heap.objs.size,o)]:List (Addr×Obj))->p.1=s.heap.objs.size:=fun {o} p hpp=>by
   have:p=_:=mem_singleton.mp hpp;rw [this]
  rcases turn i n ys H1 w1 with ⟨stop,hz,qn⟩ | ⟨go,hz,N',hN,step⟩
  ·have:=T.done Y Yp Yw YK Yc i _ s1 _ H1 (fun _ _=>False) I1 (stat fr1 one) st' stop
   rw [YA] at this;refine Wh this fun r s4 ⟨hr,I4⟩=>?_
   subst hr;have Ib:=I4.base;have pinD:=I4.pin (s.heap.objs.size,_) (mem_append_right _ mem_cons_self);obtain ⟨mC,hmC,_⟩:=I4.loc;have e1:Y.fs=Rk X.stack:=by rw [← hY];rfl
   have e2:Y.ex=fp:=by rw [← hY];rfl
   have e3:Y.H₀=H:=by rw [← hY];rfl
   have e4:Y.s₀=s:=by rw [← hY];rfl
   have e5:Y.env.locals=G2.objs.size:=by rw [← hY];rfl
   rw [e1,e2,e3,e4] at Ib;rw [e5] at hmC;have hok4:M7 X.prog X.w H1 s4.heap:=by
    have:=I4.hok;rw [Yp,Yw] at this;exact this
   have freeC:H1 G2.objs.size=none:=by have:=I4.free;rw [e5] at this;exact this
   have freeC':W6 H1 s.heap.objs.size (.lst ys) G2.objs.size=none:=by rw [Zj (Ne.symm hDC)];exact freeC
   have os4:s4.os=s.os:=by have:=I4.os;rw [e4] at this;exact this
   refine hRR _ _ s4 (W6 H1 s.heap.objs.size (.lst ys)) ⟨mC,hmC⟩ ?_ (I.fpOk hCle freeC') (qn _ pinD.2.1);exact I.call' (s':=s4) (ch:=fp) os4 (Ib.adopt (le_refl _) pinD.2.1) (hok4.adopt pinD.2.1 pinD.1 rv hz) I4.bare fun b hb=>⟨(hf b hb).2.2.2.1,(hf b hb).2.1,(hf b hb).2.2.2.2.1,(hf b hb).2.2.2.2.2⟩
  ·have:=T.item Y Yp Yw YK Yc i _ s1 _ H1 (fun _ _=>False) I1 (stat fr1 one) st' go
   rw [YA] at this;refine Wh this fun r s4 ⟨u,hr,h4⟩=>?_
   subst hr;refine Wh h4 fun _ s5 ⟨x,H5,I5,r5,y5,st5,fr5⟩=>?_
   have I5':=I5.pinned (stat fr5 one) (T.obj _ _ st5);have a1:=pg _ s5 _ H5 x u _ I5' r5 (step x H5 y5);rw [YA,Yp,Yw,Yx,Ye] at a1;refine Wh a1 fun _ s6 ⟨σ6,H6,I6,ext,q6⟩=>?_
   have a2:=pif _ s6 σ6 H6 _ I6 q6;rw [YA,Yp,Yw,Yx,Ye] at a2;refine Wh a2 fun b s7 ⟨H7,I7,q7⟩=>?_
   have back:∀ {H8:Hp} {s8:Shared},Inv Y ([(s.heap.objs.size,({ cls:=.type "list",data:=.seq its.toArray k }:Obj))]++Hb fp s5.heap) σ6 H8 s8->Inv Y [(s.heap.objs.size,{ cls:=.type "list",data:=.seq its.toArray k })] (Vf fs σ) H8 s8/\tn (i+1) s8.heap/\∀ b∈fp,H8 b=none:=fun {H8 s8} I8 =>
    ⟨I8.unpinned.weak ext.1 ext.2,T.keep _ _ _ st5 fun b hb o e=>(I8.pin (b,o) (mem_append_right _ (mem_append_right _ (Jw hb e)))).1,fun b hb=>by
     obtain ⟨o,e,d⟩:=T.obj _ _ st5 b hb;exact (I8.pin (b,o) (mem_append_right _ (mem_append_right _ (Jw hb e)))).2.1⟩
   cases b with
   | false =>
    rw [if_neg Bool.false_ne_true] at q7 ⊢;obtain ⟨m',hm,w7⟩:=hN _ _ q7;obtain ⟨I7',st7,fr7⟩:=back I7;exact ⟨m',hm,i+1,H7,ys,its,k,rv,I7',st7,fr7,w7⟩
   | true =>
    rw [if_pos rfl] at q7 ⊢;have a3:=pe _ s7 σ6 H7 _ I7 q7;rw [YA,Yp,Yw,Yx,Ye] at a3;refine Wh a3 fun y s8 ⟨v,H8,I8,r8,q8⟩=>?_
    obtain ⟨m',hm,w8⟩:=hN _ _ q8;obtain ⟨I8',st8,fr8⟩:=back I8;have pinD:=I8'.pin (s.heap.objs.size,_) (mem_append_right _ mem_cons_self);refine append_at (hsz:=by show its.toArray.size<=sizeLine;rw [size_toArray,← rv.length];exact hz) pinD.1 fun h9 hs9 hD9=>?_
    have e5:Y.env.locals=G2.objs.size:=by rw [← hY];rfl
    have I9:Inv Y [] (Vf fs σ) H8 { s8 with heap:=h9 }:=by
     have J0:Inv Y [] (Vf fs σ) H8 s8:=I8'.pins_of fun p hp=>absurd hp (by simp)
     refine J0.turned (t':=s8.toks) (it:=s.heap.objs.size) (fun b o hb e=>hs9.extBut b o hb e) pinD.2.1 (by rw [e5];exact hDC) (.inr ?_) (fun x c e=>?_) fun p hp=>?_
     ·rw [← hY];exact le_refl _
     ·rw [← hY] at e
      exact ne_of_lt (cellN x c (Ql I hp S x c e))
     ·rw [← hY] at hp
      exact absurd (show p∈([]:List (Addr×Obj)) from hp) (by simp)
    refine ⟨m',hm,i+1,H8,ys++[v],its++[y],k+1,rv.append (.cons r8 .nil),I9.pins_of fun p hp=>?_,T.keep _ _ _ st8 fun b hb o e=>hs9.extBut b o (below b (hfl b hb)).2 e,fr8,w8⟩;have:p=_:=mem_singleton.mp hp;subst this;refine ⟨?_,pinD.2.1,pinD.2.2.1,pinD.2.2.2.1,fun v z=>by cases z⟩;have e9:its.toArray.push y=(its++[y]).toArray:=by simp
    rw [← e9];exact hD9
 exact codeAny_compStart_list (loop _ rfl) (T.self _ 0 _ _ _ st1 (loop _ rfl))
theorem Inv.letGo {H':Hp} {h':Heap} (I:Inv X pins σ H s) (f:S3 X pins H C) (hs:SameBut C s.heap h'):Inv X pins σ H { s with heap:=h' }:=by
 obtain ⟨f0,f1,f2,f3,f4,f5⟩:=f;exact I.turned (t':=s.toks) (fun b o hb e=>hs.extBut b o hb e) f0 f1 f3 f4 f5
theorem Z45 {elt tg iter:Expr} {ifs:List Expr} {pos:Pos} {wi:TI} {g:TG} {tt:TT} {te:TE} (psc:Scope) (fs:List (Option Nat)) (N:List Str) (hp:X.env.scope=psc) (S:CompOk psc sc X.N N fs) (hc:X.calm=true) (hi:PI X tg iter wi)
  (hb:∀ (C:Addr) (s:Shared) (H:Hp) (fp:List Addr),PG (Wr X sc N C s H fp) tg g/\PIf (Wr X sc N C s H fp) ifs tt/\PE (Wr X sc N C s H fp) elt te)
  (hs:∀ x,foldedSetIterable iter X.env x=pure x:=by intro _;rfl):PE X (.ListComp elt [⟨tg,iter,ifs,0⟩] sc pos) (Z6k wi fs g tt te):=by
 intro pins s σ H Q I h;rw [eval_ListComp];refine wpAny_comprehension_free (use:=none) rfl hs (Hh (S7 I hp S)) S.kind S.loc (Wh (hi pins s σ H _ I h) fun xv s₁ h₁=>Wh h₁ fun itv s₂ h₂=>?_);obtain ⟨it,fp,tn,J,H2,e,I2,T,st2,f2,hW⟩:=h₂;subst e;refine Oj (RR:=fun acc C=>compPost (model X.prog X.w) X.A X.xe none (EP X pins σ Q) acc C) hp S hc hb I2 T st2 f2 hW ?_;intro D C s' H' ⟨m,hm⟩ I' f q;exact ⟨m,hm,fun h' hs'=>⟨.ref D,H',I'.letGo (H':=H') f hs',rfl,q⟩⟩
theorem Ie {i:Nat} {x:Str} {elt tg iter:Expr} {ifs:List Expr} {pos pos' spos:Pos} {wi:TI} {g:TG} {tt:TT} {te:TE} (hN:X.N.Nodup) (hi':X.N[i]?=some x) (hx:Fj X.env.scope x) (psc:Scope) (fs:List (Option Nat)) (N:List Str) (hp:X.env.scope=psc) (S:CompOk psc sc X.N N fs) (hc:X.calm=true) (hi:PI X tg iter wi)
  (hb:∀ (C:Addr) (s:Shared) (H:Hp) (fp:List Addr),PG (Wr X sc N C s H fp) tg g/\PIf (Wr X sc N C s H fp) ifs tt/\PE (Wr X sc N C s H fp) elt te)
  (hs:∀ x,foldedSetIterable iter X.env x=pure x:=by intro _;rfl) (hsw:swapsWith (.ListComp elt [⟨tg,iter,ifs,0⟩] sc pos) (some (.Name x pos')) spos.line X.env=pure true:=by rfl)
  (hf:X.fn x=true\/X.env.scope.names.lookup x=some .local:=by first | exact .inl rfl | exact .inr rfl | assumption) :
  PS X (.Assign [.Name x pos'] (.ListComp elt [⟨tg,iter,ifs,0⟩] sc pos) spos) (Z9k (Z6k wi fs g tt te) (Ai i)):=by
 intro pins s σ H D I h;rw [exec_Assign_Name_used _ _ _ _ hsw];refine wpAny_bind (wpAny_standAt (wpAny_bind ?_));show wpAny _ X.A (do let _ ← comprehension (.ListComp elt [⟨tg,iter,ifs,0⟩] sc pos) sc X.env _ (newList []) false (eval iter X.env) (some (assign (.Name x pos') X.env))) _ _ s;refine wpAny_bind (wpAny_mono (wpAny_comprehension_free (use:=some (assign (.Name x pos') X.env)) (Q:=fun _ s'=>SP X pins D .next s') rfl hs (Hh (S7 I hp S)) S.kind S.loc
  (Wh (hi pins s σ H _ I h) fun xv s₁ h₁=>Wh h₁ fun itv s₂ h₂=>?_)) (fun _ s' hq=>wpAny_pure (wpAny_pure hq)) fun _ _ e=>e)
 obtain ⟨it,fp,tn,J,H2,e,I2,T,st2,f2,hW⟩:=h₂;subst e;refine Oj (Q:=fun v H'=>Ai i v σ H' D.nx) (RR:=fun acc C=>compPost (model X.prog X.w) X.A X.xe (some (assign (.Name x pos') X.env)) (fun _ s'=>SP X pins D .next s') acc C) hp S hc hb I2 T st2 f2 hW ?_;intro L C s' H' ⟨m,hm⟩ I' f q;refine wpAny_assign_Name (Lj I' hN hi' hx (show Yg (V.ref L) (Value.ref L) from rfl) (fun s'' I'' ⟨a,hsb,ha⟩=>?_) hf);have hCa:C≠a:=by
  rintro rfl;rcases ha with z | z
  ·exact f.2.1 z
  ·exact f.2.2.2.2.1 x _ z rfl
 refine ⟨m,hm.sameBut hsb hCa,fun h' hs'=>⟨_,H',I''.letGo (H':=H') f hs',q⟩⟩
end
section
variable {t u:TS} {a b c:St->Hp->Prop} {r:VK} {σ:St} {H:Hp} {te ta tb:TE} {tc td:TT} {Q:VK} {i:Nat}
end
section
variable {X:Cx}
def Zad (K:PySem.W.Frag):List V->Hp->VK->Prop:=fun xs H Q=>(∃ p ys,xs=[.ref p]/\(R1 K H p ys\/Mv K H p ys)/\(ys.length<=sizeLine->Q (.int ys.length) H))\/∃ z,xs=[.str z]/\z.length<=sizeLine/\Q (.int z.length) H
theorem Bz:Wn X (.builtin "len") (Zad X.K):=by
 intro pins s σ H xs us Q I r h;rcases h with ⟨p,ys,e,hq,q⟩ | h
 ·refine Nt pins s σ H xs us Q I r ⟨p,ys,e,hq,q ?_⟩
  rcases hq with hq | hq
  ·exact (I.list hq).choose_spec.2.2
  ·exact (I.tuple hq).choose_spec.2.2
 ·exact Lw pins s σ H xs us Q I r h
theorem PI.or {tg iter:Expr} {w1 w2:TI} (h1:PI X tg iter w1) (h2:PI X tg iter w2):PI X tg iter (fun σ H R=>w1 σ H R\/w2 σ H R):=by
 intro pins s σ H R I h;rcases h with h | h
 ·exact h1 pins s σ H R I h
 ·exact h2 pins s σ H R I h
def Ze2 (K:PySem.W.Frag) (tl:TE):TI:=fun σ H R=>Z6u K tl σ H R\/Zan K tl σ H R
theorem Z0p {tg l:Expr} {tl:TE} (hl:PE X l tl):PI X tg l (Ze2 X.K tl):=(Z4m hl).or (Z8o hl)
end
section
variable {K:PySem.W.Frag} {tl:TE} {ta:TA} {g:TG} {tb:TS} {D:Ends} {σ:St} {H:Hp} {a b c:St->Hp->Prop} {r:VK}
variable {tt:TT} {te:TE} {fs:List (Option Nat)} {Q:VK}
end
structure Def (K:PySem.W.Frag) (mg:Str->Option Value) (x:Str) (st:Stmt):Prop where
 ex:∃ f fd,Fun K x x st f fd/\mg x=some (.ref f)
structure Cal (P:Program) (w:World) (K:PySem.W.Frag) (mg:Str->Option Value) (base:Heap) (k:Nat) (x:Str) (ps:List Str) (sp:Sp):Prop where
 ex:∃ f fd,FnOk P w K mg base Sc k f fd ps sp/\mg x=some (.ref f)/\PySem.W.keepIn K (.ref f)=true/\Qm K fd ps []
def Zaq (sp:Sp) (t:TA):TE:=fun σ H Q=>t σ H fun vs H1=>sp vs H1 Q E0
section
variable {P:Program} {w:World} {K:PySem.W.Frag} {mg:Str->Option Value} {base:Heap}
theorem Z9t {X:Cx} {k:Nat} {x:Str} {ps:List Str} {sp:Sp} {p pos:Pos} {e:Expr} {es:List Expr} {t:TA} (C:Cal X.prog X.w X.K X.mg X.base k x ps sp) (hr:Room k X.A) (ha:PA X (e::es) t) (hg:Gl X x:=by rfl)
  (hdb:(x==("__debug__" : Str))=false:=by decide) (he:starEach (e::es) X.env=(false,eval e X.env)::starEach es X.env:=by rfl) (hpl:(backTo pos (starEach es X.env)).any (·.1)=false:=by rfl) :
  PE X (.Call (.Name x p) (e::es) [] pos) (Zaq sp t):=by
 obtain ⟨f,fd,F,hm,hk,hb⟩:=C.ex;have:=Z51 (dvs:=[]) (ds:=[]) (E:=E0) F hr hg hm hk hb .nil Z6c ha hdb he hpl (p:=p);intro pins s σ H Q I h;refine this pins s σ H Q I ?_;unfold Ao;simp only [append_nil];exact h
theorem Z7f {x:Str} {st:Stmt} {N ps:List Str} {k:Nat} {sp:Sp} (D:Def K mg x st) (S:FnScope N ps (Z7 st))
  (hbi:∀ (kV doc pm:Value) (an:Option Addr) (cdv ct:Value) (us:List Value),us.length=ps.length->bindArgs (fnOf x x (Wi st) (Y6 st) (Z7 st) .none kV doc pm an cdv ct) ⟨us,[]⟩=pure (ps.zip us))
  (len:∀ vs H Q E,sp vs H Q E->vs.length=ps.length)
  (hbody:∀ (f:Addr) (cdv:Value) (A:Around) (outer:List Env) (s:Shared) (H:Hp) (vs:List V) (Q:VK) (E:XK),Room k (A.deeper (envOfC x (Z7 st) s.heap.objs.size f cdv))->sp vs H Q E ->
   ∃ t,Ro (Ts Sc P w K mg base N x (Z7 st) f cdv A outer s H E).nox (Y6 st) t/\t (Ends.mk (fun _ H'=>Q .non H') Q (fun _ _=>False) (fun _ _=>False)) (start N vs) H):Cal P w K mg base (k+1) x ps sp:=by
 obtain ⟨f,fd,F,hm⟩:=D.ex;exact ⟨f,fd,F.ok S len (fun cdv A outer s H vs Q E hr h=>hbody f cdv A outer s H vs Q E hr h),hm,F.kp,F.binds hbi⟩
theorem Z5j {x:Str} {st:Stmt} {f:Addr} {fd:FuncData} {N ps:List Str} {k:Nat} {sp:Sp} (F:Fun K x x st f fd) (S:FnScope N ps (Z7 st)) (len:∀ vs H Q E,sp vs H Q E->vs.length=ps.length)
  (hbody:∀ (cdv:Value) (A:Around) (outer:List Env) (s:Shared) (H:Hp) (vs:List V) (Q:VK) (E:XK),Room k (A.deeper (envOfC x (Z7 st) s.heap.objs.size f cdv))->sp vs H Q E ->
   ∃ t,Ro (Ts Sc P w K mg base N x (Z7 st) f cdv A outer s H E).nox (Y6 st) t/\t (Ends.mk (fun _ H'=>Q .non H') Q (fun _ _=>False) (fun _ _=>False)) (start N vs) H):FnOk P w K mg base Sc (k+1) f fd ps sp :=
 F.ok S len hbody
end
theorem Zp.new {H:Hp} {l:Addr} {o:HO} (h:H l=none):Zp H (W6 H l o):=fun b u e=>by rw [Zj (Y0 e h)];exact e
theorem Zp.seqT {K:PySem.W.Frag} {H H':Hp} {a:Addr} {xs:List V} (e:Zp H H') (h:Mv K H a xs):Mv K H' a xs:=by
 rcases h with h | h
 ·exact .inl (e _ _ h)
 ·exact .inr h
section
variable {X:Cx}
theorem Z9g {x:Str} {T:String} {pos:Pos} (hg:Gl X x) (hm:X.mg x=none) (hv:bootBuiltins x=some (.type T)) (hn:x≠"__name__" := by decide) (hd:(x==("__debug__" : Str))=false:=by decide):PE X (.Name x pos) (tC (.ty T)) :=
 Z41 (v:=.ty T) hg hm hv rfl hn hd
def Z5g (T n:String):Option Bool:=if (Value.type T==Value.type n)=true then some true else if PySem.W.kitMeta n=true then (PySem.fastBuiltinMro T).map (·.contains (.type n)) else none
theorem Z9m {K:PySem.W.Frag} {T n:String} {b:Bool} (h:Z5g T n=some b):kitOne K (.type T) (.type n)=some b:=h
def Zb7:V->Option Int->Option Int->Hp->VK->Prop:=fun x lo hi H Q=>∃ z,x=.str z/\z.length<=sizeLine/\Q (.str (Txt.slice z lo hi)) H
theorem Z81:Fw X Zb7:=by
 intro pins s σ H x v vl vu lo hi sl Q I rx hs pl pu h;obtain ⟨z,rfl,hz,q⟩:=h;obtain ⟨t,rfl⟩:=rx;have fin:∀ t' k,EP X pins σ Q (.str (Txt.slice z lo hi) t') { s with toks:=k }:=fun t' k=>⟨.str (Txt.slice z lo hi),H,I.tok _,⟨_,rfl⟩,q⟩
 refine ⟨"str",_,F.slot_str_getitem.lookup,typeIs_str _ _ _,?_⟩;cases pl with
 | none =>
  cases pu with
  | none=>exact wpAny_getItem_str_slice (l:=none) (u:=none) (st:=none) hs rfl (post_val_or_str ⟨le_trans (Txt.slice_le z _ _) hz,fin⟩)
  | int j tj=>exact wpAny_getItem_str_slice (l:=none) (u:=some (j,tj)) (st:=none) hs rfl (post_val_or_str ⟨le_trans (Txt.slice_le z _ _) hz,fin⟩)
 | int i ti =>
  cases pu with
  | none=>exact wpAny_getItem_str_slice (l:=some (i,ti)) (u:=none) (st:=none) hs rfl (post_val_or_str ⟨le_trans (Txt.slice_le z _ _) hz,fin⟩)
  | int j tj=>exact wpAny_getItem_str_slice (l:=some (i,ti)) (u:=some (j,tj)) (st:=none) hs rfl (post_val_or_str ⟨le_trans (Txt.slice_le z _ _) hz,fin⟩)
def Zdp (K:PySem.W.Frag):V->Option Int->Option Int->Hp->VK->Prop:=fun x lo hi H Q=>Zcd K x lo hi H Q\/Zag K x lo hi H Q\/Zb7 x lo hi H Q
theorem Zdh:Fw X (Zdp X.K):=Z4j.or (Z94.or Z81)
theorem Dk {ns:List Int}:∀ {us:List Value},IntsAre us ns->Zx (ns.map V.int) us:=by
 intro us h;induction h with
 | nil=>exact .nil
 | cons n t h ih=>exact .cons ⟨t,rfl⟩ ih
def Z3x (K:PySem.W.Frag):List V->Hp->VK->Prop:=fun xs H Q=>∃ p ns,xs=[.ref p]/\R1 K H p (ns.map V.int)/\ns.length<64 /\
 ∀ (ms:List Int) (l:Addr),ms.Perm ns->ms.Pairwise (·<=·)->H l=none->Q (.ref l) (W6 H l (.lst (ms.map V.int)))
theorem N4:Wn X (.builtin "sorted") (Z3x X.K):=by
 intro pins s σ H xs us Q I r h;obtain ⟨p,ns,rfl,hq,h64,q⟩:=h;obtain ⟨u,rfl,rx⟩:=Q7 r;cases rx;obtain ⟨its,r',pl,hz⟩:=I.list hq;have hlen:=r'.length;rw [length_map] at hlen;refine sorted_ints pl.isList (Jk r') (by lia) fun out ms h1 h2 h3=>?_
 obtain ⟨e,he⟩:=sortedAll_at s.heap its out;have hl:ms.length=ns.length:=h2.length_eq;refine ⟨.ref (s.heap.objs.size+1),W6 H (s.heap.objs.size+1) (.lst (ms.map V.int)),I.laid (t':=s.toks) (fun b o q=>sortedAll_old q) (le_succ _) ?_,rfl,q ms _ h2 h3 (I.hok.fresh (le_succ _))⟩;refine ⟨by rw [length_map] at hz ⊢;lia,out.toList,e,Dk h1,?_⟩;rw [he]
theorem Eo {A:Around} {its:List Value} {bs:List Bool} (r:Zx (bs.map V.bl) its):TruthOf X.prog X.w A (fun i v=>its.toArray[i]?=some v) (fun i=>bs.getD i false):=by
 intro i v s Q E hv h;have hv':its[i]?=some v:=by simpa using hv
 have hi:i<its.length:=(List.getElem?_eq_some_iff.mp hv').1;have hl:=r.length;rw [length_map] at hl;have hb:(bs.map V.bl)[i]?=some (V.bl (bs[i]'(by lia))):=by simp [show i<bs.length by lia]
 obtain ⟨u,hu,ru⟩:=r.get hb;rw [hv'] at hu;cases hu;cases ru;have:bs.getD i false=bs[i]'(by lia):=by simp [List.getD,show i<bs.length by lia]
 have h':Q (bs.getD i false) s:=h;rw [this] at h';exact wpAny_truthy_bool h'
theorem Z04 (bs:List Bool):(List.range bs.length).all (fun i=>bs.getD i false)=bs.all id:=by
 induction bs with
 | nil=>rfl
 | cons b bs ih =>
  rw [length_cons,List.range_succ_eq_map,all_cons,List.all_map,all_cons];have:(fun i=>(b::bs).getD i false) ∘ Nat.succ=fun i=>bs.getD i false:=by funext i;rfl
  rw [this,ih];rfl
theorem Cz (bs:List Bool):(List.range bs.length).any (fun i=>bs.getD i false)=bs.any id:=by
 induction bs with
 | nil=>rfl
 | cons b bs ih =>
  rw [length_cons,List.range_succ_eq_map,any_cons,any_map,any_cons];have:(fun i=>(b::bs).getD i false) ∘ Nat.succ=fun i=>bs.getD i false:=by funext i;rfl
  rw [this,ih];rfl
def Zec (K:PySem.W.Frag):List V->Hp->VK->Prop:=fun xs H Q=>∃ (p:Addr) (bs:List Bool),xs=[.ref p]/\R1 K H p (bs.map V.bl)/\Q (.bl (bs.all id)) H
def Zdf (K:PySem.W.Frag):List V->Hp->VK->Prop:=fun xs H Q=>∃ (p:Addr) (bs:List Bool),xs=[.ref p]/\R1 K H p (bs.map V.bl)/\Q (.bl (bs.any id)) H
theorem Bw (hc:X.calm=true):Wn X (.builtin "all") (Zec X.K):=by
 intro pins s σ H xs us Q I r h;obtain ⟨p,bs,rfl,hq,q⟩:=h;obtain ⟨u,rfl,rx⟩:=Q7 r;cases rx;obtain ⟨its,r',pl,hz⟩:=I.list hq;have hl:=pl.isList;have hlt:p<s.heap.objs.size:=by obtain ⟨o,e,_⟩:=hl;exact lt_size e
 have hlen:=r'.length;rw [length_map] at hlen;refine call_all_walk (wpAny_pyIter_list hl ⟨s.heap.objs.size,_,_,_,_,_,fun i=>bs.getD i false,rfl,Walks.list (A:=X.A.in1) (I.ok.hd hc) s.heap.objs.size p (ne_of_lt hlt) its.toArray,⟨⟨_,get?_push_size _ rfl,rfl,rfl⟩,hl.push _⟩,Eo r',fun h' tk hk=>?_⟩);have e:(List.range its.toArray.size).all (fun i=>bs.getD i false)=bs.all id:=by rw [size_toArray,← hlen];exact Z04 bs
 rw [e];exact ⟨.bl _,H,I.kept (h':=h') (t':=tk) (fun b o e=>hk b o (by simpa using ne_of_lt (lt_size e)) (get?_push_of_some _ e)),rfl,q⟩
theorem Bq (hc:X.calm=true):Wn X (.builtin "any") (Zdf X.K):=by
 intro pins s σ H xs us Q I r h;obtain ⟨p,bs,rfl,hq,q⟩:=h;obtain ⟨u,rfl,rx⟩:=Q7 r;cases rx;obtain ⟨its,r',pl,hz⟩:=I.list hq;have hl:=pl.isList;have hlt:p<s.heap.objs.size:=by obtain ⟨o,e,_⟩:=hl;exact lt_size e
 have hlen:=r'.length;rw [length_map] at hlen;refine call_any_walk (wpAny_pyIter_list hl ⟨s.heap.objs.size,_,_,_,_,_,fun i=>bs.getD i false,rfl,Walks.list (A:=X.A.in1) (I.ok.hd hc) s.heap.objs.size p (ne_of_lt hlt) its.toArray,⟨⟨_,get?_push_size _ rfl,rfl,rfl⟩,hl.push _⟩,Eo r',fun h' tk hk=>?_⟩);have e:(List.range its.toArray.size).any (fun i=>bs.getD i false)=bs.any id:=by rw [size_toArray,← hlen];exact Cz bs
 rw [e];exact ⟨.bl _,H,I.kept (h':=h') (t':=tk) (fun b o e=>hk b o (by simpa using ne_of_lt (lt_size e)) (get?_push_of_some _ e)),rfl,q⟩
abbrev TJ:=St->Hp->Str->VK->Prop
def PJ (X:Cx) (vs:List Expr) (t:TJ):Prop :=
 ∀ (pins:List (Addr×Obj)) (s:Shared) (σ:St) (H:Hp) (acc:Str) (Q:VK),Inv X pins σ H s->acc.length<=sizeLine->t σ H acc Q->wpAny (model X.prog X.w) X.A (joinParts acc (evalEach vs X.env)) (EP X pins σ Q) X.xe s
def Zbh:TJ:=fun _ H acc Q=>Q (.str acc) H
def Zb4 (c:Str) (r:TJ):TJ:=fun σ H acc Q=>(acc++c).length<=sizeLine/\r σ H (acc++c) Q
theorem Z0u:PJ X [] Zbh:=fun pins s σ H acc Q I hz h=>joinParts_nil ⟨.str acc,H,I.tok _,⟨_,rfl⟩,h⟩ hz
theorem Z3d {c:Str} {j:Nat} {pos:Pos} {vs:List Expr} {r:TJ} (hr:PJ X vs r):PJ X (.Constant (.str c) j pos::vs) (Zb4 c r):=by
 intro pins s σ H acc Q I hz h;refine joinParts_cons (Calls.Constant_str ?_);exact ⟨h.1,hr pins _ σ H (acc++c) Q (I.tok _) h.1 h.2⟩
def B1 (r:TJ):TE:=fun σ H Q=>r σ H Str.empty Q
theorem L7 {v1 v2:Expr} {rest:List Expr} {pos:Pos} {r:TJ} (h:PJ X (v1::v2::rest) r):PE X (.JoinedStr (v1::v2::rest) pos) (B1 r):=by
 intro pins s σ H Q I hq;exact JoinedStr_many (h pins s σ H Str.empty Q I (by decide) hq)
end
abbrev cl (z:Str):List Nat:=z.cps.toList
theorem Hm (z:Str):(cl z).length=z.length:=by simp [cl,Str.length]
theorem Z3e (x y:Str):cl (x++y)=cl x++cl y:=by
 show (x.cps++y.cps).toList=_;simp [cl]
def Ue {α:Type} (xs:List α) (lo hi:Option Int):List α:=(xs.drop (HT.sIx xs.length 0 lo)).take (HT.sIx xs.length xs.length hi - HT.sIx xs.length 0 lo)
theorem Z1h (xs:List Nat) (i k:Nat):((List.range k).map fun (m:Nat)=>((i:Int)+1*(m:Int)).toNat).filterMap (xs[·]?)=(xs.drop i).take k:=by
 rw [List.filterMap_map];induction k generalizing i with
 | zero=>simp
 | succ k ih =>
  rw [List.range_succ_eq_map,filterMap_cons,List.filterMap_map];have e0:((fun x=>xs[x]?) ∘ fun m:Nat=>((i:Int)+1*(m:Int)).toNat) 0=xs[i]?:=by simp [Function.comp]
  rw [e0];have e1:(((fun x=>xs[x]?) ∘ fun m:Nat=>((i:Int)+1*(m:Int)).toNat) ∘ Nat.succ)=((fun x=>xs[x]?) ∘ fun m:Nat=>(((i+1:Nat):Int)+1*(m:Int)).toNat):=by
   funext m
   simp only [Function.comp,Nat.succ_eq_add_one];congr 1
   lia
  rw [e1,ih];cases h:xs[i]? with
  | none =>
   have hl:xs.length<=i:=List.getElem?_eq_none_iff.mp h;simp [List.drop_eq_nil_of_le hl,List.drop_eq_nil_of_le (Nat.le_succ_of_le hl)]
  | some c =>
   obtain ⟨hi,hc⟩:=List.getElem?_eq_some_iff.mp h;rw [List.drop_eq_getElem_cons hi,take_succ_cons,hc]
theorem Z1s (lo hi:Option Int) (n:Nat):Builtin.Str.strSliceIndices lo hi 1 n=(List.range (HT.sIx n n hi - HT.sIx n 0 lo)).map fun (m:Nat)=>(((HT.sIx n 0 lo:Nat):Int)+1*(m:Int)).toNat:=by
 have c:∀ (v:Option Int) (d:Nat),(match v with | none=>(d:Int) | some i=>(let i:=if i<0 then i+(n:Int) else i;if (1:Int) > 0 then max 0 (min i (n:Int)) else max (-1) (min i ((n:Int) - 1))))=((HT.sIx n d v:Nat):Int):=by
  intro v d;cases v with
  | none=>rfl
  | some i =>
   rw [← HT.clip_eq i n d];dsimp only;rw [if_pos (by decide)];by_cases hi:i<0
   ·rw [if_pos hi,if_pos hi];lia
   ·rw [if_neg hi,if_neg hi];lia
 have key:∀ (x y:Int) (a b:Nat),x=a->y=b->sliceRange x y 1=(List.range (b - a)).map fun (m:Nat)=>((a:Int)+1*(m:Int)).toNat:=by
  rintro x y a b rfl rfl;unfold sliceRange;dsimp only;rw [if_pos (by decide)];congr 1
  congr 1
  by_cases h:(a:Int)<(b:Int)
  ·rw [if_pos h];lia
  ·rw [if_neg h];lia
 unfold Builtin.Str.strSliceIndices;dsimp only;have e1:=c lo 0;have e2:=c hi n;dsimp only at e1 e2;simp only [show (1:Int) > 0 by decide,if_true] at e1 e2 ⊢;exact key _ _ _ _ e1 e2
theorem Z2e (z:Str) (lo hi:Option Int):cl (Txt.slice z lo hi)=Ue (cl z) lo hi:=by
 have hn:(cl z).length=z.length:=Hm z;unfold Txt.slice Ue;rw [hn];have hle:=HT.sIx_le z.length z.length (le_refl _) hi;split
 ·rename_i h
  rw [Z1s,length_map,length_range] at h;have h':HT.sIx z.length z.length hi - HT.sIx z.length 0 lo=z.length:=by simpa using h
  have h0:HT.sIx z.length 0 lo=0\/z.length=0:=by lia
  rcases h0 with h0 | h0
  ·rw [h',h0,drop_zero,take_of_length_le (by lia)]
  ·have:cl z=[]:=length_eq_zero_iff.mp (by lia)
   rw [this];simp
 ·show (((Builtin.Str.strSliceIndices lo hi 1 z.length).filterMap (z.cps[·]?)).toArray).toList=_
  rw [Z1s];have e:(fun x:Nat=>z.cps[x]?)=fun x=>(cl z)[x]?:=by funext x;simp [cl]
  rw [e];exact Z1h _ _ _
section
variable {X:Cx} (K:PySem.W.Frag)
def Z68 (K:PySem.W.Frag):List V->Hp->VK->Prop:=fun xs H Q=>∃ p ys,xs=[.ref p]/\(R1 K H p ys\/Mv K H p ys)/\∀ l,H l=none->Q (.ref l) (W6 H l (.lst ys))
theorem Ho (h:X.K=K:=by rfl):Wn X (.type "list") (Z68 K):=by subst h;exact N0
variable {o e:Expr} {es:List Expr} {to:TE} {t:TA} {name:Str} {apos cpos:Pos} {T id:String} {r:V->List V->Hp->VK->Prop}
end
end L2
namespace PySem
open AutoSeq1 (wpAny_loadPart')
section
variable {prog:Program} {w:World} {A:Around} {E:Value->Shared->Prop} {s:Shared}
theorem Je {it l:Addr} {i:Nat} {items} {x:Value} {Q:Value->Shared->Prop} (hit:s.heap.IsTupleIter it l i)
  (hl:s.heap.IsTuple l items) (hx:items[i]?=some x)
  (hQ:∀ h',h'.IsTupleIter it l (i+1)->SameBut it s.heap h'->Q x { s with heap:=h' }) :
  wpAny (model prog w) A (Builtin.SmallTypes.nextOf (.ref it)) Q E s:=by
 obtain ⟨o,ho,hc,hd⟩:=id hit;obtain ⟨ol,hol,_,nl,hdl⟩:=hl;unfold Builtin.SmallTypes.nextOf;refine wpAny_bind (wpAny_callSpecial?_slot (name:=Str.ofString "__next__") hit.typeIs F.slot_tuple_iterator_next
  (wpAny_call_entry F.slot_tuple_iterator_next hit.typeIs F.entry_tuple_iterator_next ?_ (F.args_tuple_iterator_next_1 _)))
 show wpAny _ _ (field (.ref it) 0 >>= _) _ _ s;refine wpAny_bind (wpAny_field ho hd (x:=.ref l) rfl ?_);show wpAny _ _ (if (Value.ref l==Value.none)=true then _ else _) _ _ s;rw [if_neg (show ¬ ((Value.ref l==Value.none)=true) from Bool.false_ne_true)];show wpAny _ _ (field (.ref it) 1 >>= _) _ _ s;refine wpAny_bind (wpAny_field ho hd (x:=.int i 0) rfl ?_);show wpAny _ _ (seqItems? (.ref l) >>= _) _ _ s;refine wpAny_bind (wpAny_seqItems hol hdl ?_);simp only [Int.toNat_natCast,hx];refine wpAny_bind (wpAny_setField ho hd (by simp) (wpAny_pure ⟨x,rfl,wpAny_pure (hQ _ ?_ (SameBut.update ..))⟩));exact ⟨_,get?_update_self _ ho (Obj.isFreed_of_fields (Obj.data_mapFields hd _)),(Obj.cls_mapFields ..).trans hc,by
  rw [Obj.data_mapFields hd];simp [rawInt]⟩
theorem Jm {it l:Addr} {i:Nat} {items} {Q:Value->Shared->Prop} (hh:A.handled=none)
   (hit:s.heap.IsTupleIter it l i) (hl:s.heap.IsTuple l items) (hx:items[i]?=none)
   (hE:∀ h' e,ExtBut it s.heap h'->(∃ o,h'.get? e=some o/\o.cls=.type "StopIteration")->E (.ref e) { s with heap:=h' }) :
   wpAny (model prog w) A (Builtin.SmallTypes.nextOf (.ref it)) Q E s:=by
 obtain ⟨o,ho,hc,hd⟩:=id hit;obtain ⟨ol,hol,_,nl,hdl⟩:=hl;unfold Builtin.SmallTypes.nextOf;refine wpAny_bind (wpAny_callSpecial?_slot (name:=Str.ofString "__next__") hit.typeIs F.slot_tuple_iterator_next
   (wpAny_call_entry F.slot_tuple_iterator_next hit.typeIs F.entry_tuple_iterator_next ?_ (F.args_tuple_iterator_next_1 _)))
 show wpAny _ _ (field (.ref it) 0 >>= _) _ _ s;refine wpAny_bind (wpAny_field ho hd (x:=.ref l) rfl ?_);show wpAny _ _ (if (Value.ref l==Value.none)=true then _ else _) _ _ s;rw [if_neg (show ¬ ((Value.ref l==Value.none)=true) from Bool.false_ne_true)];show wpAny _ _ (field (.ref it) 1 >>= _) _ _ s;refine wpAny_bind (wpAny_field ho hd (x:=.int i 0) rfl ?_);show wpAny _ _ (seqItems? (.ref l) >>= _) _ _ s;refine wpAny_bind (wpAny_seqItems hol hdl ?_);simp only [Int.toNat_natCast,hx];refine wpAny_bind (wpAny_rule (wpAny_bind (wpAny_setField ho hd (by simp) ?_)));show wpAny _ _ (newExc (.type "StopIteration") [] >>= _) _ _ _;refine wpAny_bind ?_;simp only [newExc,newTuple];refine wpAny_bind (wpAny_newObj_type ?_ (by size_fits));refine wpAny_bind (m:=firstArgMember _ _) (wpAny_of_eq (a:=Value.none) (by first | rfl | (simp only [firstArgMember];rfl)) ?_);refine wpAny_newObj_type ?_ (by size_fits);simp only [raiseNew];refine wpAny_bind (wpAny_handled ?_);first | rw [show A.in1.handled=none from hh] | rw [hh]
 refine wpAny_bind (wpAny_pure (wpAny_throw ?_));exact hE _ _ (((SameBut.update ..).extBut.push _).push _) ⟨_,get?_push_size _ rfl,rfl⟩
end
theorem Draws.tupleD {prog:Program} {w:World} {A:Around} (hh:A.handled=none) (it l:Addr) (hne:l≠it) (items:Array Value) :
  Draws prog w A it [it,l] items.size (fun i v=>items[i]?=some v) (fun i h=>h.IsTupleIter it l i/\h.IsTuple l items) where
 live:=fun _ _ st=>let ⟨o,ho,_⟩:=st.1;⟨o,ho⟩
 frame:=fun _ _ _ st hk=>⟨st.1.at fun o e=>hk it (by simp) o e,let ⟨o,ho,r⟩:=st.2;⟨o,hk l (by simp) o ho,r⟩⟩
 item:=fun i s Q E hi st hQ=>by
  refine Je st.1 st.2 (x:=items[i]) (by simp [hi]) fun h' hit' hs'=>?_
  exact hQ _ h' s.toks (by simp [hi]) ⟨hit',st.2.extBut hs'.extBut hne⟩ hs'
 done:=fun s Q E st hE=>Jm hh st.1 st.2 (by simp) hE
theorem Mw (l:Addr) (items:Array Value) (n:Nat) (dct:Option Addr) (sl:Array (Option Value)) :
  Meets (Builtin.«enumerate.__new__» ⟨[.type "enumerate",.ref l],[]⟩) (fun _ R s=>s.heap.get? l=some { cls:=.type "tuple",dict:=dct,data:=.seq items n,slots:=sl } /\
   R (.ok (.ret (.ref (s.heap.push { cls:=.type "tuple_iterator",data:=.fields #[.ref l,.int 0 0] }).objs.size)))
    { s with heap:=(s.heap.push { cls:=.type "tuple_iterator",data:=.fields #[.ref l,.int 0 0] }).push { cls:=.type "enumerate",data:=.fields #[.none,.bool false,.ref s.heap.objs.size,rawInt 0,.none,.none] } }) :=
 .of_wp fun prog w A R s h=>by
  obtain ⟨hp,g,d,tk,os⟩:=s;obtain ⟨hl,h⟩:=h;have hsub:=sub_enumerate;have hL:Heap.IsTuple (Shared.heap ⟨hp,g,d,tk,os⟩) l items:=⟨_,hl,rfl,n,rfl⟩
  wp_walk using wpAny_loadPart' hl
  refine wpAny_stack_any fun st=>wpAny_pure ?_
  split
  ·rename_i c _ _ _ _ _
   cases (c==Value.type "enumerate")
   ·wp_walk using wpAny_loadPart' hl,wpAny_pyIter_tuple hL
    exact ⟨_,rfl,h⟩
   ·wp_walk using wpAny_loadPart' hl,wpAny_pyIter_tuple hL
    exact ⟨_,rfl,h⟩
  ·wp_walk using wpAny_loadPart' hl,wpAny_pyIter_tuple hL
   exact ⟨_,rfl,h⟩
theorem Mh {prog:Program} {w:World} {A:Around} {E:Value->Shared->Prop} {s:Shared} {l:Addr} {items:Array Value} {Q:Value->Shared->Prop} (hL:s.heap.IsTuple l items)
  (h:∀ h',IsEnum h' (s.heap.objs.size+1) s.heap.objs.size 0 .none->h'.IsTupleIter s.heap.objs.size l 0->h'.objs.size=s.heap.objs.size+2 ->
   (∀ b o,s.heap.get? b=some o->h'.get? b=some o)->Q (.ref (s.heap.objs.size+1)) { s with heap:=h' }) :
  wpAny (model prog w) A (call (.type "enumerate") [.ref l]) Q E s:=by
 obtain ⟨⟨c,dct,dt,sl⟩,hl,hc,n,hd⟩:=hL;replace hc:c=.type "tuple" := hc;replace hd:dt=.seq items n:=hd;subst hc hd;refine callType_new F.called_enumerate (by decide) (F.typeCall_enumerate_1 _) (F.newCall_enumerate_1 _) (fun obj=>F.args_object_init_2 obj _) F.entry_enumerate_new
  (Mw l items n dct sl) ⟨hl,?_⟩
 have hz:(s.heap.push { cls:=.type "tuple_iterator",data:=.fields #[.ref l,.int 0 0] }).objs.size=s.heap.objs.size+1:=size_push ..;show _/\_;rw [hz];have he:IsEnum ((s.heap.push { cls:=.type "tuple_iterator",data:=.fields #[.ref l,.int 0 0] }).push
   { cls:=.type "enumerate",data:=.fields #[.none,.bool false,.ref s.heap.objs.size,rawInt 0,.none,.none] }) (s.heap.objs.size+1) s.heap.objs.size 0 .none:=by
  have:=get?_push_size (s.heap.push { cls:=.type "tuple_iterator",data:=.fields #[.ref l,.int 0 0] })
   (o:={ cls:=.type "enumerate",data:=.fields #[.none,.bool false,.ref s.heap.objs.size,rawInt 0,.none,.none] }) rfl
  rw [hz] at this;exact this
 refine ⟨⟨_,he,rfl⟩,h _ he ⟨_,get?_push_of_some _ (get?_push_size _ rfl),rfl,rfl⟩ (by rw [size_push,hz]) fun b o x=>get?_push_of_some _ (get?_push_of_some _ x)⟩
end PySem
namespace L2
open PySem PySem.Spec PyProof.Rows
inductive XD where
 | int (i:Int) | nums (is:List Int)
inductive Dat where
 | non | bl (b:Bool) | int (i:Int) | str (x:Str) | tup (xs:List Dat) | lst (xs:List Dat) | dct (kvs:List (List Wg×Int)) | exc (c:Str) (fs:List (Str×XD))
def U1 (K:PySem.W.Frag) (c:Str) (C:Addr):Prop:=PySem.W.nsIn K mainGlobals c=some (some (.ref C))
def XIs (e C:Addr) (dct:Option Addr) (h:Heap):Prop:=∃ o,h.get? e=some o/\o.cls=.ref C/\o.dict=dct/\∀ c,o.data≠.cls c
def Z63 (K:PySem.W.Frag) (H:Hp):XD->V->Prop
 | .int i,v=>v=.int i
 | .nums is,v=>∃ a,v=.ref a/\SL K H a (is.map V.int)/\is.length<=sizeLine
def O8 (K:PySem.W.Frag) (H:Hp):Option Addr->List (Str×XD)->Prop
 | none,fs=>fs=[]
 | some dx,fs=>∃ fvs,H dx=some (.xd fvs)/\∀ f,(fs.lookup f=none/\fvs.lookup f=none)\/∃ d v,fs.lookup f=some d/\fvs.lookup f=some v/\Z63 K H d v
def XRp (K:PySem.W.Frag) (H:Hp) (c:Str) (fs:List (Str×XD)) (v:V):Prop:=∃ e C dct,v=.ref e/\H e=some (.ext (XIs e C dct))/\U1 K c C/\O8 K H dct fs
def Di (kvs:List (List Wg×Int)):List (List Wg×V):=kvs.map fun p=>(p.1,V.int p.2)
structure SOk (x:Str):Prop where
 ok:PyData.strOk x=true
 le:x.length<=sizeLine
instance (x:Str):Decidable (SOk x):=decidable_of_iff (PyData.strOk x=true/\x.length<=sizeLine) ⟨fun h=>⟨h.1,h.2⟩,fun h=>⟨h.ok,h.le⟩⟩
theorem SOk.of {x:Str} (h:PyData.strOk x=true) (h':x.length<=sizeLine):SOk x:=⟨h,h'⟩
mutual
def Rp (K:PySem.W.Frag) (H:Hp):Dat->V->Prop
 | .non,v=>v=.non
 | .bl b,v=>v=.bl b
 | .int i,v=>v=.int i
 | .str x,v=>v=.str x/\SOk x
 | .tup ds,v=>ds.length<=sizeLine/\∃ a vs,v=.ref a/\Mv K H a vs/\W8 K H ds vs
 | .lst ds,v=>ds.length<=sizeLine/\∃ a vs,v=.ref a/\SL K H a vs/\W8 K H ds vs
 | .dct kvs,v=>kvs.length<=sizeLine/\∃ a,v=.ref a/\H a=some (.dT (Di kvs))
 | .exc c fs,v=>XRp K H c fs v
def W8 (K:PySem.W.Frag) (H:Hp):List Dat->List V->Prop
 | [],vs=>vs=[]
 | d::ds,vs=>∃ v r,vs=v::r/\Rp K H d v/\W8 K H ds r
end
abbrev AS:=Addr->Bool
def av (H:Hp) (A:AS):Hp:=fun a=>if A a=true then none else H a
theorem Wx {H:Hp} {A:AS} {a:Addr} {o:HO} (h:H a=some o) (hA:A a=false):av H A a=some o:=by unfold av;rw [hA];exact h
theorem Tn {H:Hp} {A:AS} {a:Addr} {o:HO} (h:av H A a=some o):A a=false/\H a=some o:=by
 unfold av at h;split at h
 ·cases h
 ·rename_i q;exact ⟨by simpa using q,h⟩
theorem Yy {H:Hp} {A:AS}:Zp (av H A) H:=fun b o e=>(Tn e).2
theorem V6 {H H':Hp} {A:AS} (h:Zp H H'):Zp (av H A) (av H' A):=fun b o e=>Wx (h b o (Tn e).2) (Tn e).1
theorem Ux {H:Hp} {A B:AS} (h:∀ a,B a=true->A a=true):Zp (av H A) (av H B):=fun b o e=>by
 obtain ⟨h1,h2⟩:=Tn e;refine Wx h2 ?_;cases q:B b with
 | false=>rfl
 | true=>rw [h b q] at h1;cases h1
def no:AS:=fun _=>false
theorem Fx {H:Hp}:av H no=H:=by funext a;simp [av,no]
theorem Zp.sl {K:PySem.W.Frag} {H H':Hp} {a:Addr} {xs:List V} (e:Zp H H') (h:SL K H a xs):SL K H' a xs:=by
 rcases h with (h | ⟨o,h⟩) | h
 ·exact .inl (.inl (e _ _ h))
 ·exact .inl (.inr ⟨o,e _ _ h⟩)
 ·exact .inr h
theorem SL.sq {K:PySem.W.Frag} {H:Hp} {a:Addr} {xs:List V} (h:SL K H a xs):R1 K H a xs:=by
 rcases h with h | ⟨its,n,h1,h2,h3⟩
 ·exact .inl h
 ·refine .inr ⟨_,its.toArray,n,h1,rfl,rfl,rfl,?_,by simpa using h3⟩
  have:=h3.length;simp only [size_toArray];lia
theorem SL.get {X:Cx} {pins:List (Addr×Obj)} {σ:St} {H:Hp} {s:Shared} {a:Addr} {xs:List V} (h:SL X.K H a xs) (I:Inv X pins σ H s) :
  ∃ (its:List Value) (n:Nat),Zx xs its/\s.heap.get? a=some { cls:=.type "list",data:=.seq its.toArray n }/\xs.length<=sizeLine:=by
 rcases h with h | ⟨its,n,h1,h2,h3⟩
 ·obtain ⟨z,its,n,r,e⟩:=h.ok I.hok
  exact ⟨its,n,r,e,z⟩
 ·exact ⟨its,n,h3,I.kIn _ _ h1,h2⟩
theorem Z63.mono {K:PySem.W.Frag} {H H':Hp} (e:Zp H H') {d:XD} {v:V} (h:Z63 K H d v):Z63 K H' d v:=by
 cases d with
 | int i=>exact h
 | nums is=>obtain ⟨a,e1,e2,e3⟩:=h;exact ⟨a,e1,e.sl e2,e3⟩
theorem O8.mono {K:PySem.W.Frag} {H H':Hp} (e:Zp H H') {dct:Option Addr} {fs:List (Str×XD)} (h:O8 K H dct fs):O8 K H' dct fs:=by
 cases dct with
 | none=>exact h
 | some dx =>
  obtain ⟨fvs,e1,e2⟩:=h;exact ⟨fvs,e _ _ e1,fun f=>(e2 f).imp id fun ⟨d,v,a,b,c⟩=>⟨d,v,a,b,c.mono e⟩⟩
theorem XRp.mono {K:PySem.W.Frag} {H H':Hp} (e:Zp H H') {c:Str} {fs:List (Str×XD)} {v:V} (h:XRp K H c fs v):XRp K H' c fs v:=by
 obtain ⟨x,C,dct,e1,e2,e3,e4⟩:=h;exact ⟨x,C,dct,e1,e _ _ e2,e3,e4.mono e⟩
mutual
theorem Rp.mono {K:PySem.W.Frag} {H H':Hp} (e:Zp H H'):∀ {d:Dat} {v:V},Rp K H d v->Rp K H' d v
 | .non,v,h=>by unfold Rp at h ⊢;exact h
 | .bl b,v,h=>by unfold Rp at h ⊢;exact h
 | .int i,v,h=>by unfold Rp at h ⊢;exact h
 | .str x,v,h=>by unfold Rp at h ⊢;exact h
 | .dct _,v,h=>by unfold Rp at h ⊢;obtain ⟨hz,a,e1,e2⟩:=h;exact ⟨hz,a,e1,e _ _ e2⟩
 | .exc _ _,v,h=>by unfold Rp at h ⊢;exact XRp.mono e h
 | .tup ds,v,h=>by
  unfold Rp at h ⊢;obtain ⟨hz,a,vs,e1,e2,e3⟩:=h;exact ⟨hz,a,vs,e1,e.seqT e2,W8.mono e e3⟩
 | .lst ds,v,h=>by
  unfold Rp at h ⊢;obtain ⟨hz,a,vs,e1,e2,e3⟩:=h;exact ⟨hz,a,vs,e1,e.sl e2,W8.mono e e3⟩
theorem W8.mono {K:PySem.W.Frag} {H H':Hp} (e:Zp H H'):∀ {ds:List Dat} {vs:List V},W8 K H ds vs->W8 K H' ds vs
 | [],vs,h=>by unfold W8 at h ⊢;exact h
 | d::ds,vs,h=>by
  unfold W8 at h ⊢;obtain ⟨v,r,e1,e2,e3⟩:=h;exact ⟨v,r,e1,Rp.mono e e2,W8.mono e e3⟩
end
section
variable {K:PySem.W.Frag} {H:Hp}
theorem Vl:W8 K H [] []:=by unfold W8;rfl
theorem U4 {d:Dat} {ds:List Dat} {v:V} {vs:List V} (h:Rp K H d v) (t:W8 K H ds vs):W8 K H (d::ds) (v::vs):=by unfold W8;exact ⟨v,vs,rfl,h,t⟩
theorem Yn {vs:List V} (h:W8 K H [] vs):vs=[]:=by unfold W8 at h;exact h
theorem Y3 {d:Dat} {ds:List Dat} {vs:List V} (h:W8 K H (d::ds) vs):∃ v r,vs=v::r/\Rp K H d v/\W8 K H ds r:=by unfold W8 at h;exact h
theorem Zv:∀ {ds:List Dat} {vs:List V},W8 K H ds vs->vs.length=ds.length
 | [],vs,h=>by rw [Yn h];rfl
 | d::ds,vs,h=>by
  obtain ⟨v,r,e1,e2,e3⟩:=Y3 h;rw [e1,length_cons,length_cons,Zv e3]
theorem Ri:∀ {ds:List Dat} {vs:List V} {i:Nat} {d:Dat},W8 K H ds vs->ds[i]?=some d->∃ v,vs[i]?=some v/\Rp K H d v
 | [],vs,i,d,h,e=>by simp at e
 | d'::ds,vs,0,d,h,e=>by
  obtain ⟨v,r,e1,e2,e3⟩:=Y3 h;simp at e;subst e;exact ⟨v,by rw [e1];rfl,e2⟩
 | d'::ds,vs,i+1,d,h,e=>by
  obtain ⟨v,r,e1,e2,e3⟩:=Y3 h;obtain ⟨v',h1,h2⟩:=Ri (i:=i) e3 (by simpa using e);exact ⟨v',by rw [e1];simpa using h1,h2⟩
theorem Ww:∀ {ds es:List Dat} {vs us:List V},W8 K H ds vs->W8 K H es us->W8 K H (ds++es) (vs++us)
 | [],es,vs,us,h,k=>by rw [Yn h];exact k
 | d::ds,es,vs,us,h,k=>by
  obtain ⟨v,r,e1,e2,e3⟩:=Y3 h;subst e1;exact U4 e2 (Ww e3 k)
theorem Gu:∀ (n:Nat) {ds:List Dat} {vs:List V},W8 K H ds vs->W8 K H (ds.take n) (vs.take n)
 | 0,_,_,_=>by simp only [take_zero];exact Vl
 | n+1,[],vs,h=>by rw [Yn h];simp only [List.take_nil];exact Vl
 | n+1,d::ds,vs,h=>by
  obtain ⟨v,r,e1,e2,e3⟩:=Y3 h;subst e1;exact U4 e2 (Gu n e3)
theorem Hx:∀ (n:Nat) {ds:List Dat} {vs:List V},W8 K H ds vs->W8 K H (ds.drop n) (vs.drop n)
 | 0,_,_,h=>h
 | n+1,[],vs,h=>by rw [Yn h];simp only [List.drop_nil];exact Vl
 | n+1,d::ds,vs,h=>by
  obtain ⟨v,r,e1,e2,e3⟩:=Y3 h;subst e1;exact Hx n e3
theorem Qr {d:Dat} {v:V} (h:Rp K H d v):W8 K H [d] [v]:=U4 h Vl
theorem Z58 {ds:List Dat}:∀ {vs:List V},W8 K H ds vs->W8 K H ds.reverse vs.reverse:=by
 induction ds with
 | nil=>intro vs h;rw [Yn h];exact Vl
 | cons d ds ih =>
  intro vs h;obtain ⟨v,r,e1,e2,e3⟩:=Y3 h;subst e1;rw [reverse_cons,reverse_cons];exact Ww (ih e3) (Qr e2)
theorem D8:∀ (ns:List Int),W8 K H (ns.map Dat.int) (ns.map V.int)
 | []=>Vl
 | n::ns=>U4 (by unfold Rp;rfl) (D8 ns)
theorem Il:Rp K H .non .non:=by unfold Rp;rfl
theorem Vd {b:Bool}:Rp K H (.bl b) (.bl b):=by unfold Rp;rfl
theorem Yk {i:Int}:Rp K H (.int i) (.int i):=by unfold Rp;rfl
theorem Dx {x:Str} (h:SOk x):Rp K H (.str x) (.str x):=by unfold Rp;exact ⟨rfl,h⟩
theorem Fh {a:Addr} {vs:List V} {ds:List Dat} (hz:ds.length<=sizeLine) (h:Mv K H a vs) (r:W8 K H ds vs):Rp K H (.tup ds) (.ref a):=by unfold Rp;exact ⟨hz,a,vs,rfl,h,r⟩
theorem E7 {a:Addr} {vs:List V} {ds:List Dat} (hz:ds.length<=sizeLine) (h:SL K H a vs) (r:W8 K H ds vs):Rp K H (.lst ds) (.ref a):=by unfold Rp;exact ⟨hz,a,vs,rfl,h,r⟩
theorem K3 {v:V} (h:Rp K H .non v):v=.non:=by unfold Rp at h;exact h
theorem Ez {b:Bool} {v:V} (h:Rp K H (.bl b) v):v=.bl b:=by unfold Rp at h;exact h
theorem Mo {i:Int} {v:V} (h:Rp K H (.int i) v):v=.int i:=by unfold Rp at h;exact h
theorem Gn {x:Str} {v:V} (h:Rp K H (.str x) v):v=.str x/\SOk x:=by unfold Rp at h;exact h
theorem Jl {ds:List Dat} {v:V} (h:Rp K H (.tup ds) v):∃ a vs,v=.ref a/\Mv K H a vs/\W8 K H ds vs:=by unfold Rp at h;exact h.2
theorem A6 {ds:List Dat} {v:V} (h:Rp K H (.tup ds) v):ds.length<=sizeLine:=by unfold Rp at h;exact h.1
theorem Z5a {ds:List Dat} {v:V} (h:Rp K H (.lst ds) v):ds.length<=sizeLine:=by unfold Rp at h;exact h.1
theorem Mj {ds:List Dat} {v:V} (h:Rp K H (.lst ds) v):∃ a vs,v=.ref a/\SL K H a vs/\W8 K H ds vs:=by unfold Rp at h;exact h.2
theorem Z32 {kvs:List (List Wg×Int)} {v:V} (h:Rp K H (.dct kvs) v):kvs.length<=sizeLine/\∃ a,v=.ref a/\H a=some (.dT (Di kvs)):=by unfold Rp at h;exact h
theorem Z80 {c:Str} {ds:List (Str×XD)} {v:V} (h:Rp K H (.exc c ds) v):XRp K H c ds v:=by unfold Rp at h;exact h
end
def XO (K:PySem.W.Frag) (H:Hp) (c f:Str) (ns:List Int) (v:V):Prop:=∃ (e C dx:Addr) (fvs:List (Str×V)) (a:Addr),v=.ref e/\H e=some (.ext (XIs e C (some dx)))/\U1 K c C/\H dx=some (.xd fvs)/\(∀ g,g≠f->fvs.lookup g=none)/\fvs.lookup f=some (.ref a)/\H a=some (.lst (ns.map V.int))/\ns.length<=sizeLine
theorem XO.mono {K:PySem.W.Frag} {H H':Hp} {c f:Str} {ns:List Int} {v:V} (h:XO K H c f ns v) (e:Zp H H'):XO K H' c f ns v:=by
 obtain ⟨x,C,dx,fvs,a,h1,h2,h3,h4,h5,h6,h7,h8⟩:=h;exact ⟨x,C,dx,fvs,a,h1,e _ _ h2,h3,e _ _ h4,h5,h6,e _ _ h7,h8⟩
theorem XO.rp {K:PySem.W.Frag} {H:Hp} {c f:Str} {ns:List Int} {v:V} (h:XO K H c f ns v):Rp K H (.exc c [(f,.nums ns)]) v:=by
 obtain ⟨x,C,dx,fvs,a,h1,h2,h3,h4,h5,h6,h7,h8⟩:=h;unfold Rp;refine ⟨x,C,some dx,h1,h2,h3,fvs,h4,fun g=>?_⟩;by_cases hg:g=f
 ·subst hg;exact .inr ⟨.nums ns,.ref a,by simp [List.lookup],h6,a,rfl,.inl (.inl h7),h8⟩
 ·exact .inl ⟨by simp only [List.lookup];rw [show (g==f)=false from by simpa using hg],h5 g hg⟩
def Pk (K:PySem.W.Frag) (A:AS) (H:Hp) (d:Dat) (v:V):Prop :=
 Rp K (av H A) d v\/(∃ a vs ds,d=.lst ds/\v=.ref a/\ds.length<=sizeLine/\H a=some (.lst vs)/\W8 K (av H A) ds vs)\/(∃ c f ns,d=.exc c [(f,.nums ns)]/\XO K H c f ns v)\/∃ kvs a,d=.dct kvs/\v=.ref a/\kvs.length<=sizeLine/\H a=some (.dT (Di kvs))
section
variable {K:PySem.W.Frag} {A:AS} {H H':Hp} {d:Dat} {v:V}
theorem Pk.mono (e:Zp H H') (h:Pk K A H d v):Pk K A H' d v:=by
 rcases h with h | ⟨a,vs,ds,e1,e2,hz,e3,e4⟩ | ⟨c,f,ns,e1,e2⟩ | ⟨kvs,a,e1,e2,e3,e4⟩
 ·exact .inl (h.mono (V6 e))
 ·exact .inr (.inl ⟨a,vs,ds,e1,e2,hz,e _ _ e3,e4.mono (V6 e)⟩)
 ·exact .inr (.inr (.inl ⟨c,f,ns,e1,e2.mono e⟩))
 ·exact .inr (.inr (.inr ⟨kvs,a,e1,e2,e3,e _ _ e4⟩))
theorem Pk.rp (h:Pk K A H d v):Rp K H d v:=by
 rcases h with h | ⟨a,vs,ds,e1,e2,hz,e3,e4⟩ | ⟨c,f,ns,e1,e2⟩ | ⟨kvs,a,e1,e2,e3,e4⟩
 ·exact h.mono Yy
 ·subst e1 e2;exact E7 hz (.inl (.inl e3)) (e4.mono Yy)
 ·subst e1;exact e2.rp
 ·subst e1;unfold Rp;exact ⟨e3,a,e2,e4⟩
theorem Pk.lenL {ds:List Dat} (h:Pk K A H (.lst ds) v):ds.length<=sizeLine:=Z5a h.rp
theorem Pk.lenT {ds:List Dat} (h:Pk K A H (.tup ds) v):ds.length<=sizeLine:=A6 h.rp
theorem Pk.non (h:Pk K A H .non v):v=.non:=K3 h.rp
theorem Pk.bl {b:Bool} (h:Pk K A H (.bl b) v):v=.bl b:=Ez h.rp
theorem Pk.int {i:Int} (h:Pk K A H (.int i) v):v=.int i:=Mo h.rp
theorem Pk.str {x:Str} (h:Pk K A H (.str x) v):v=.str x/\SOk x:=Gn h.rp
theorem Pk.tup {ds:List Dat} (h:Pk K A H (.tup ds) v):∃ a vs,v=.ref a/\Mv K H a vs/\W8 K (av H A) ds vs:=by
 rcases h with h | ⟨a,vs,ds,e1,e2,e3,e4⟩ | ⟨c,f,ns,e1,e2⟩ | ⟨kvs,a,e1,e2,e3,e4⟩
 ·obtain ⟨a,vs,e1,e2,e3⟩:=Jl h
  exact ⟨a,vs,e1,Yy.seqT e2,e3⟩
 ·cases e1
 ·cases e1
 ·cases e1
theorem Pk.lst {ds:List Dat} (h:Pk K A H (.lst ds) v):∃ a vs,v=.ref a/\SL K H a vs/\W8 K (av H A) ds vs:=by
 rcases h with h | ⟨a,vs,ds',e1,e2,hz,e3,e4⟩ | ⟨c,f,ns,e1,e2⟩ | ⟨kvs,a,e1,e2,e3,e4⟩
 ·obtain ⟨a,vs,e1,e2,e3⟩:=Mj h
  exact ⟨a,vs,e1,Yy.sl e2,e3⟩
 ·cases e1;exact ⟨a,vs,e2,.inl (.inl e3),e4⟩
 ·cases e1
 ·cases e1
end
mutual
def Et:Dat->Dat->Bool
 | .non,.non=>true
 | .bl a,.bl b=>a==b
 | .bl a,.int j=>(if a then 1 else 0)==j
 | .int i,.bl b=>i==(if b then 1 else 0)
 | .int i,.int j=>i==j
 | .str x,.str y=>x==y
 | .lst xs,.lst ys=>P6 xs ys
 | .tup xs,.tup ys=>P6 xs ys
 | _,_=>false
def P6:List Dat->List Dat->Bool
 | [],[]=>true
 | x::xs,y::ys=>Et x y&&P6 xs ys
 | _,_=>false
end
def pd:Nat->Dat->Bool
 | 0,.lst _=>false
 | 0,.tup _=>false
 | n+1,.lst xs=>xs.all (pd n)
 | n+1,.tup xs=>xs.all (pd n)
 | _,.dct _=>false
 | _,.exc _ _=>false
 | _,.non=>true
 | _,.bl _=>true
 | _,.int _=>true
 | _,.str _=>true
mutual
def toP:Dat->PyData
 | .non=>.none
 | .bl b=>.bool b
 | .int i=>.int i
 | .str x=>.str x
 | .tup xs=>.tuple (K1 xs)
 | .lst xs=>.list (K1 xs)
 | .dct _=>.none
 | .exc _ _=>.none
def K1:List Dat->List PyData
 | []=>[]
 | x::xs=>toP x::K1 xs
end
theorem Nh {n:Nat} {xs:List Dat} (h:pd n (.lst xs)=true):∃ m,n=m+1/\∀ x∈xs,pd m x=true:=by
 cases n with
 | zero=>cases h
 | succ n=>exact ⟨n,rfl,by simpa [pd] using h⟩
theorem N5 {n:Nat} {xs:List Dat} (h:pd n (.tup xs)=true):∃ m,n=m+1/\∀ x∈xs,pd m x=true:=by
 cases n with
 | zero=>cases h
 | succ n=>exact ⟨n,rfl,by simpa [pd] using h⟩
theorem N1 {n:Nat} {xs} (h:pd n (.dct xs)=true):False:=by cases n<;>cases h
theorem Ls {n:Nat} {c xs} (h:pd n (.exc c xs)=true):False:=by cases n<;>cases h
mutual
theorem R8:∀ {n m:Nat} (x y:Dat),pd n x=true->pd m y=true->PyData.eqv (toP x) (toP y)=Et x y
 | n,m,.dct _,y,h,_=>(N1 h).elim
 | n,m,.exc _ _,y,h,_=>(Ls h).elim
 | n,m,x,.dct _,_,h=>(N1 h).elim
 | n,m,x,.exc _ _,_,h=>(Ls h).elim
 | n,m,.non,.non,_,_=>rfl
 | n,m,.non,.bl _,_,_=>rfl
 | n,m,.non,.int _,_,_=>rfl
 | n,m,.non,.str _,_,_=>rfl
 | n,m,.non,.tup _,_,_=>rfl
 | n,m,.non,.lst _,_,_=>rfl
 | n,m,.bl _,.non,_,_=>rfl
 | n,m,.bl _,.bl _,_,_=>rfl
 | n,m,.bl _,.int _,_,_=>rfl
 | n,m,.bl _,.str _,_,_=>rfl
 | n,m,.bl _,.tup _,_,_=>rfl
 | n,m,.bl _,.lst _,_,_=>rfl
 | n,m,.int _,.non,_,_=>rfl
 | n,m,.int _,.bl _,_,_=>rfl
 | n,m,.int _,.int _,_,_=>rfl
 | n,m,.int _,.str _,_,_=>rfl
 | n,m,.int _,.tup _,_,_=>rfl
 | n,m,.int _,.lst _,_,_=>rfl
 | n,m,.str _,.non,_,_=>rfl
 | n,m,.str _,.bl _,_,_=>rfl
 | n,m,.str _,.int _,_,_=>rfl
 | n,m,.str _,.str _,_,_=>rfl
 | n,m,.str _,.tup _,_,_=>rfl
 | n,m,.str _,.lst _,_,_=>rfl
 | n,m,.lst _,.non,_,_=>rfl
 | n,m,.lst _,.bl _,_,_=>rfl
 | n,m,.lst _,.int _,_,_=>rfl
 | n,m,.lst _,.str _,_,_=>rfl
 | n,m,.lst _,.tup _,_,_=>rfl
 | n,m,.lst xs,.lst ys,h,k=>by
  obtain ⟨n',_,hx⟩:=Nh h;obtain ⟨m',_,hy⟩:=Nh k;simp only [toP,PyData.eqv,Et];exact K4 xs ys hx hy
 | n,m,.tup _,.non,_,_=>rfl
 | n,m,.tup _,.bl _,_,_=>rfl
 | n,m,.tup _,.int _,_,_=>rfl
 | n,m,.tup _,.str _,_,_=>rfl
 | n,m,.tup _,.lst _,_,_=>rfl
 | n,m,.tup xs,.tup ys,h,k=>by
  obtain ⟨n',_,hx⟩:=N5 h;obtain ⟨m',_,hy⟩:=N5 k;simp only [toP,PyData.eqv,Et];exact K4 xs ys hx hy
theorem K4:∀ {n m:Nat} (xs ys:List Dat),(∀ x∈xs,pd n x=true)->(∀ y∈ys,pd m y=true)->PyData.eqvAll (K1 xs) (K1 ys)=P6 xs ys
 | n,m,[],[],_,_=>rfl
 | n,m,[],_::_,_,_=>rfl
 | n,m,_::_,[],_,_=>rfl
 | n,m,x::xs,y::ys,hx,hy=>by
  simp only [K1,PyData.eqvAll,P6];rw [R8 (n:=n) (m:=m) x y (hx x mem_cons_self) (hy y mem_cons_self),K4 (n:=n) (m:=m) xs ys (fun z hz=>hx z (mem_cons_of_mem _ hz)) (fun z hz=>hy z (mem_cons_of_mem _ hz))]
end
mutual
theorem R0:∀ (n:Nat) (x:Dat),pd n x=true->(toP x).depth<=n
 | n,.dct _,h=>(N1 h).elim
 | n,.exc _ _,h=>(Ls h).elim
 | n,.non,_=>zero_le _
 | n,.bl _,_=>zero_le _
 | n,.int _,_=>zero_le _
 | n,.str _,_=>zero_le _
 | n,.lst xs,h=>by
  obtain ⟨m,e,hx⟩:=Nh h;subst e;simp only [toP,PyData.depth];exact Nat.succ_le_succ (S5 m xs hx)
 | n,.tup xs,h=>by
  obtain ⟨m,e,hx⟩:=N5 h;subst e;simp only [toP,PyData.depth];exact Nat.succ_le_succ (S5 m xs hx)
theorem S5:∀ (n:Nat) (xs:List Dat),(∀ x∈xs,pd n x=true)->PyData.depthAll (K1 xs)<=n
 | n,[],_=>zero_le _
 | n,x::xs,h=>by
  simp only [K1,PyData.depthAll];exact Nat.max_le.mpr ⟨R0 n x (h x mem_cons_self),S5 n xs fun z hz=>h z (mem_cons_of_mem _ hz)⟩
end
section
variable {X:Cx} {pins:List (Addr×Obj)} {σ:St} {H:Hp} {s:Shared}
mutual
theorem Rp.reads (I:Inv X pins σ H s):∀ {n:Nat} (d:Dat) (v:V) (u:Value),pd n d=true->Rp X.K H d v->Yg v u->∃ as,Reads s.heap u (toP d) as/\(toP d).canLay0=true
 | n,.dct _,v,u,h,_,_=>(N1 h).elim
 | n,.exc _ _,v,u,h,_,_=>(Ls h).elim
 | n,.non,v,u,_,i,r=>by cases K3 i;cases r;exact ⟨_,.none,rfl⟩
 | n,.bl b,v,u,_,i,r=>by cases Ez i;cases r;exact ⟨_,.bool b,rfl⟩
 | n,.int k,v,u,_,i,r=>by cases Mo i;obtain ⟨t,rfl⟩:=r;exact ⟨_,.int k t,rfl⟩
 | n,.str x,v,u,_,i,r=>by
  obtain ⟨e,hs⟩:=Gn i;subst e;obtain ⟨t,rfl⟩:=r;exact ⟨_,.str x t,hs.ok⟩
 | n,.tup ds,v,u,h,i,r=>by
  obtain ⟨m,_,hx⟩:=N5 h;obtain ⟨a,vs,e1,e2,e3⟩:=Jl i;subst e1;cases r;obtain ⟨its,rv,⟨o,ho,hc,k,hd⟩,_⟩:=I.tuple e2;obtain ⟨as,ra,hl⟩:=W8.reads I ds vs its hx e3 rv;exact ⟨_,.tuple ho hc hd (by simpa using ra),hl⟩
 | n,.lst ds,v,u,h,i,r=>by
  obtain ⟨m,_,hx⟩:=Nh h;obtain ⟨a,vs,e1,e2,e3⟩:=Mj i;subst e1;cases r;obtain ⟨its,rv,⟨o,k,ho,hc,_,hd⟩,_⟩:=I.list e2.sq;obtain ⟨as,ra,hl⟩:=W8.reads I ds vs its hx e3 rv;exact ⟨_,.list ho hc hd (by simpa using ra),hl⟩
theorem W8.reads (I:Inv X pins σ H s):∀ {n:Nat} (ds:List Dat) (vs:List V) (us:List Value),(∀ x∈ds,pd n x=true)->W8 X.K H ds vs->Zx vs us->∃ as,ReadsAll s.heap us (K1 ds) as/\PyData.canLayAll0 (K1 ds)=true
 | n,[],vs,us,_,i,r=>by
  rw [Yn i] at r;cases r;exact ⟨_,.nil,rfl⟩
 | n,d::ds,vs,us,h,i,r=>by
  obtain ⟨v,rr,e1,e2,e3⟩:=Y3 i;subst e1;cases r with
  | cons r1 r2 =>
   obtain ⟨as,h1,l1⟩:=Rp.reads I d v _ (h d mem_cons_self) e2 r1;obtain ⟨bs,h2,l2⟩:=W8.reads I ds rr _ (fun z hz=>h z (mem_cons_of_mem _ hz)) e3 r2;exact ⟨_,.cons h1 h2,by simp only [K1,PyData.canLayAll0,l1,l2];rfl⟩
end
theorem Rp.eqAt (I:Inv X pins σ H s) {A:Around} {n m:Nat} {d e:Dat} {v w:V} {u u':Value} (hd:pd n d=true) (he:pd m e=true) (hn:n<=60) (hu:A.units+60<cLine) (r1:Rp X.K H d v) (r2:Rp X.K H e w) (q1:Yg v u) (q2:Yg w u') :
  SeqAt.EqAt A s u u' (Et d e):=by
 obtain ⟨as,a1,a2⟩:=Rp.reads I d v u hd r1 q1;obtain ⟨bs,b1,b2⟩:=Rp.reads I e w u' he r2 q2;rw [← R8 d e hd he];have:=R0 n d hd;exact SeqAt.eqAt_reads _ _ A s u u' as bs a1 b1 a2 b2 (by lia)
end
def Mtb:Option HO->Prop
 | some (.lst _)=>True
 | some (.dK _)=>True
 | some (.dT _)=>True
 | _=>False
def Ud (A:AS) (H:Hp):Prop:=∀ a,A a=true->Mtb (H a)
theorem Ud.new {A:AS} {H:Hp} (m:Ud A H) {p:Addr} (h:H p=none):A p=false:=by
 cases q:A p with
 | false=>rfl
 | true=>have:=m p q;rw [h] at this;exact this.elim
theorem Ud.mono {A:AS} {H H':Hp} (m:Ud A H) (e:Zp H H'):Ud A H':=fun a h=>by
 have:=m a h;cases q:H a with
 | none=>rw [q] at this;exact this.elim
 | some o=>rw [q] at this;rw [e a o q];exact this
def ins (A:AS) (p:Addr):AS:=fun a=>A a||a==p
theorem Pz {A:AS} {p:Addr}:ins A p p=true:=by simp [ins]
theorem Dz {A:AS} {p a:Addr} (h:A a=true):ins A p a=true:=by simp [ins,h]
theorem Hd {A:AS} {p a:Addr} (h:ins A p a=true):A a=true\/a=p:=by simpa [ins] using h
theorem Z9p {A:AS} {p a:Addr} (h:A a=false) (hn:a≠p):ins A p a=false:=by simp [ins,h,hn]
structure Step (A:AS) (H:Hp) (A':AS) (H':Hp):Prop where
 keep:∀ a o,H a=some o->A a=false->H' a=some o
 sub:∀ a,A' a=true->A a=true\/H a=none
theorem Step.refl (A:AS) (H:Hp):Step A H A H:=⟨fun _ _ h _=>h,fun _ h=>.inl h⟩
theorem Step.same {A:AS} {H H':Hp} (e:Zp H H'):Step A H A H':=⟨fun a o h _=>e a o h,fun _ h=>.inl h⟩
theorem Step.trans {A A1 A2:AS} {H H1 H2:Hp} (a:Step A H A1 H1) (b:Step A1 H1 A2 H2):Step A H A2 H2 where
 keep:=fun c o h hA=>b.keep c o (a.keep c o h hA) (by
  cases q:A1 c with
  | false=>rfl
  | true =>
   rcases a.sub c q with z | z
   ·rw [z] at hA;cases hA
   ·rw [z] at h;cases h)
 sub:=fun c h=>by
  rcases b.sub c h with z | z
  ·exact a.sub c z
  ·cases qA:A c with
   | true=>exact .inl rfl
   | false =>
    cases q:H c with
    | none=>exact .inr rfl
    | some o=>rw [a.keep c o q qA] at z;cases z
theorem Step.av {A A':AS} {H H':Hp} (s:Step A H A' H'):Zp (av H A) (av H' A'):=fun b o e=>by
 obtain ⟨h1,h2⟩:=Tn e;refine Wx (s.keep b o h2 h1) ?_;cases q:A' b with
 | false=>rfl
 | true =>
  rcases s.sub b q with z | z
  ·rw [z] at h1;cases h1
  ·rw [z] at h2;cases h2
inductive GX where
 | nest (dss:List (List Dat)) | dict (kvs:List (List Wg×Dat)) | err (c f:Str) (ns:List Int)
def GOk (K:PySem.W.Frag) (A:AS) (H:Hp) (o:Addr->Prop):GX->V->Prop
 | .nest dss,v=>∃ (a:Addr) (as:List Addr),v=.ref a/\o a/\dss.length<=sizeLine/\H a=some (.lst (as.map V.ref))/\as.length=dss.length/\as.Nodup/\a∉as/\∀ (n:Nat) b ds,as[n]?=some b->dss[n]?=some ds->o b/\ds.length<=sizeLine/\∃ vs,H b=some (.lst vs)/\W8 K (av H A) ds vs
 | .dict kvs,v=>∃ (a:Addr) (us:List (List Wg×V)),v=.ref a/\o a/\kvs.length<=sizeLine/\H a=some (.dT us)/\us.map (·.1)=kvs.map (·.1)/\W8 K (av H A) (kvs.map (·.2)) (us.map (·.2))
 | .err c f ns,v=>∃ (e C dx:Addr) (fvs:List (Str×V)) (a:Addr),v=.ref e/\av H A e=some (.ext (XIs e C (some dx)))/\U1 K c C/\av H A dx=some (.xd fvs)/\(∀ g,g≠f->fvs.lookup g=none)/\fvs.lookup f=some (.ref a)/\o a/\H a=some (.lst (ns.map V.int))/\ns.length<=sizeLine
theorem GOk.frame {K:PySem.W.Frag} {A A':AS} {H H':Hp} {o o':Addr->Prop} {g:GX} {v:V} (h:GOk K A H o g v) (ho:∀ b,o b->o' b) (hf:∀ b x,o b->H b=some x->H' b=some x) (ha:Zp (av H A) (av H' A')):GOk K A' H' o' g v:=by
 cases g with
 | nest dss =>
  obtain ⟨a,as,e1,e2,e3,e4,e5,e6,e7,e8⟩:=h;refine ⟨a,as,e1,ho a e2,e3,hf _ _ e2 e4,e5,e6,e7,fun n b ds q1 q2=>?_⟩;obtain ⟨f1,f2,vs,f3,f4⟩:=e8 n b ds q1 q2;exact ⟨ho b f1,f2,vs,hf _ _ f1 f3,f4.mono ha⟩
 | dict kvs =>
  obtain ⟨a,us,e1,e2,e3,e4,e5,e6⟩:=h;exact ⟨a,us,e1,ho a e2,e3,hf _ _ e2 e4,e5,e6.mono ha⟩
 | err c f ns =>
  obtain ⟨x,C,dx,fvs,a,h1,h2,h3,h4,h5,h6,h7,h8,h9⟩:=h;exact ⟨x,C,dx,fvs,a,h1,ha _ _ h2,h3,ha _ _ h4,h5,h6,ho a h7,hf _ _ h7 h8,h9⟩
inductive Slt where
 | un | fz (d:Dat) | pk (d:Dat) | ow (ds:List Dat) | gx (g:GX)
abbrev Ev:=List Slt
def O6 (K:PySem.W.Frag) (A:AS) (H:Hp) (o:Addr->Prop):Slt->Option V->Prop
 | .un,_=>True
 | .fz d,x=>∃ v,x=some v/\Rp K (av H A) d v
 | .pk d,x=>∃ v,x=some v/\Pk K A H d v
 | .ow ds,x=>∃ a vs,x=some (.ref a)/\o a/\ds.length<=sizeLine/\H a=some (.lst vs)/\W8 K (av H A) ds vs
 | .gx g,x=>∃ v,x=some v/\GOk K A H o g v
structure Bs where
 H₀:Hp
 R:AS
 st:Bool
structure EnvOk (K:PySem.W.Frag) (B:Bs) (A:AS) (H:Hp) (σ:St) (env:Ev):Prop where
 h0:Zp B.H₀ H
 r0:∀ a,B.R a=true->∃ o,B.H₀ a=some o
 ra:∀ a,B.R a=true->A a=true
 ar:∀ a,A a=true->B.R a=true\/B.H₀ a=none
 mu:Ud A H
 len:σ.length=env.length
 np:B.st=true->∀ (i:Nat) d,env[i]?≠some (.pk d)
 sl:∃ own:Nat->Addr->Prop,(∀ i j a,own i a->own j a->i=j)/\(∀ i a,own i a->A a=true/\B.R a=false) /\
  ∀ (i:Nat) s,env[i]?=some s->∃ x,σ[i]?=some x/\O6 K A H (own i) s x
theorem O6.mono {K:PySem.W.Frag} {A:AS} {H H':Hp} (e:Zp H H') {o:Addr->Prop} {s:Slt} {x:Option V} (h:O6 K A H o s x):O6 K A H' o s x:=by
 cases s with
 | un=>trivial
 | fz d=>obtain ⟨v,e1,e2⟩:=h;exact ⟨v,e1,e2.mono (V6 e)⟩
 | pk d=>obtain ⟨v,e1,e2⟩:=h;exact ⟨v,e1,e2.mono e⟩
 | ow ds=>obtain ⟨a,vs,e1,e2,hz,e3,e4⟩:=h;exact ⟨a,vs,e1,e2,hz,e _ _ e3,e4.mono (V6 e)⟩
 | gx g=>obtain ⟨v,e1,e2⟩:=h;exact ⟨v,e1,e2.frame (fun _ z=>z) (fun b x _ q=>e b x q) (V6 e)⟩
theorem EnvOk.mono {K:PySem.W.Frag} {B:Bs} {A:AS} {H H':Hp} {σ:St} {env:Ev} (k:EnvOk K B A H σ env) (e:Zp H H'):EnvOk K B A H' σ env:=by
 obtain ⟨own,h1,h2,h4⟩:=k.sl;exact ⟨k.h0.trans e,k.r0,k.ra,k.ar,k.mu.mono e,k.len,k.np,own,h1,h2,fun i s q=>let ⟨x,q2,q3⟩:=h4 i s q;⟨x,q2,q3.mono e⟩⟩
def Rm (m:Bool) (K:PySem.W.Frag) (A:AS) (H:Hp) (d:Dat) (v:V):Prop:=match m with
 | true=>Pk K A H d v
 | false=>Rp K (av H A) d v
theorem Rm.any {m:Bool} {K:PySem.W.Frag} {A:AS} {H:Hp} {d:Dat} {v:V} (h:Rp K (av H A) d v):Rm m K A H d v:=by
 cases m with
 | true=>exact .inl h
 | false=>exact h
theorem Rm.pk {m:Bool} {K:PySem.W.Frag} {A:AS} {H:Hp} {d:Dat} {v:V} (h:Rm m K A H d v):Pk K A H d v:=by
 cases m with
 | true=>exact h
 | false=>exact .inl h
theorem Rm.mono {m:Bool} {K:PySem.W.Frag} {A:AS} {H H':Hp} (e:Zp H H') {d:Dat} {v:V} (h:Rm m K A H d v):Rm m K A H' d v:=by
 cases m with
 | true=>exact Pk.mono e h
 | false=>exact Rp.mono (V6 e) h
def X0 (m:Bool) (K:PySem.W.Frag) (A:AS) (H:Hp):List Dat->List V->Prop
 | [],vs=>vs=[]
 | d::ds,vs=>∃ v r,vs=v::r/\Rm m K A H d v/\X0 m K A H ds r
theorem X0.rps {K:PySem.W.Frag} {A:AS} {H:Hp}:∀ {ds:List Dat} {vs:List V},X0 false K A H ds vs->W8 K (av H A) ds vs
 | [],vs,h=>by rw [show vs=[] from h];exact Vl
 | _::_,_,⟨v,r,e1,e2,e3⟩=>by rw [e1];exact U4 e2 (X0.rps e3)
theorem X0.full {m:Bool} {K:PySem.W.Frag} {A:AS} {H:Hp}:∀ {ds:List Dat} {vs:List V},X0 m K A H ds vs->W8 K H ds vs
 | [],vs,h=>by rw [show vs=[] from h];exact Vl
 | _::_,_,⟨v,r,e1,e2,e3⟩=>by rw [e1];exact U4 e2.pk.rp (X0.full e3)
theorem X0.one {m:Bool} {K:PySem.W.Frag} {A:AS} {H:Hp} {d:Dat} {vs:List V} (h:X0 m K A H [d] vs):∃ v,vs=[v]/\Pk K A H d v:=by
 obtain ⟨v,r,e1,e2,e3⟩:=h;exact ⟨v,by rw [e1,show r=[] from e3],e2.pk⟩
theorem X0.two {m:Bool} {K:PySem.W.Frag} {A:AS} {H:Hp} {d d':Dat} {vs:List V} (h:X0 m K A H [d,d'] vs):∃ v v',vs=[v,v']/\Pk K A H d v/\Pk K A H d' v':=by
 obtain ⟨v,r,e1,e2,v',r',e3,e4,e5⟩:=h;exact ⟨v,v',by rw [e1,e3,show r'=[] from e5],e2.pk,e4.pk⟩
def Ti (m:Bool) (K:PySem.W.Frag) (A:AS) (H:Hp) (d:Dat) (Q:VK):Prop:=∀ v H',Zp H H'->Rm m K A H' d v->Q v H'
def K9 (K:PySem.W.Frag) (A:AS) (H:Hp) (ds:List Dat) (Q:VK):Prop:=∀ p vs H',ds.length<=sizeLine->Zp H H'->H p=none->H' p=some (.lst vs)->W8 K (av H' (ins A p)) ds vs->Q (.ref p) H'
section
variable {m:Bool} {K:PySem.W.Frag} {A:AS} {H H':Hp} {d:Dat} {ds:List Dat} {Q:VK}
theorem Ti.mono (h:Ti m K A H d Q) (e:Zp H H'):Ti m K A H' d Q:=fun v H2 e2 r=>h v H2 (e.trans e2) r
theorem K9.mono (h:K9 K A H ds Q) (e:Zp H H'):K9 K A H' ds Q:=fun p vs H2 hz e2 hn hp r=>h p vs H2 hz (e.trans e2) (e.free hn) hp r
theorem Ti.any (h:Ti m K A H d Q):Ti false K A H d Q:=fun v H' e r=>h v H' e (Rm.any r)
theorem Ti.here {v:V} (h:Ti m K A H d Q) (r:Rp K (av H A) d v):Q v H:=h v H (Zp.refl H) (Rm.any r)
theorem Ti.new (h:Ti m K A H (.lst ds) Q) (mu:Ud A H):K9 K A H ds Q:=fun p vs H' hz e hn hp r=>by
 refine h _ H' e (Rm.any (E7 hz (.inl (.inl (Wx hp (mu.new hn)))) (r.mono (Ux fun a q=>Dz q))))
theorem K9.at {vs:List V} (h:K9 K A H ds Q) (hz:ds.length<=sizeLine) (r:W8 K (av H A) ds vs):∀ p,H p=none->Q (.ref p) (W6 H p (.lst vs)):=fun p hp=>by
 refine h p vs _ hz (Zp.new hp) hp Zt (r.mono fun b o e=>?_);obtain ⟨h1,h2⟩:=Tn e;have hb:b≠p:=Y0 h2 hp;exact Wx (by rw [Zj hb];exact h2) (Z9p h1 hb)
theorem Ti.tup {vs:List V} (h:Ti m K A H (.tup ds) Q) (mu:Ud A H) (hz:ds.length<=sizeLine) (r:W8 K (av H A) ds vs):∀ p,H p=none->Q (.ref p) (W6 H p (.tup vs)):=fun p hp=>by
 refine h _ _ (Zp.new hp) (Rm.any (Fh hz (.inl ((Wx Zt (mu.new hp)))) (r.mono (V6 (Zp.new hp)))))
end
def W4 (m:Bool) (X:Cx) (e:Expr) (f:Ev->Option Dat):Prop:=PE X e fun σ H Q=>∃ env R A d,EnvOk X.K R A H σ env/\f env=some d/\Ti m X.K A H d Q
def PNd (X:Cx) (e:Expr) (f:Ev->Option (List Dat)):Prop:=PE X e fun σ H Q=>∃ env R A ds,EnvOk X.K R A H σ env/\f env=some ds/\K9 X.K A H ds Q
def Km (m:Bool) (X:Cx) (es:List Expr) (f:Ev->Option (List Dat)):Prop:=PA X es fun σ H Q=>∃ env R A ds,EnvOk X.K R A H σ env/\f env=some ds/\∀ vs H',Zp H H'->X0 m X.K A H' ds vs->Q vs H'
def Aw (X:Cx) (e:Expr) (f:Ev->Option Bool):Prop:=PT X e fun σ H Q=>∃ env R A b,EnvOk X.K R A H σ env/\f env=some b/\∀ H',Zp H H'->Q b H'
def B3 (X:Cx) (e:Expr) (f:Ev->Option Bool):Prop:=PW X e fun σ H Q=>∃ env R A b,EnvOk X.K R A H σ env/\f env=some b/\∀ H',Zp H H'->Q b H'
theorem PE.weak {X:Cx} {e:Expr} {t t':TE} (h:PE X e t) (w:∀ σ H Q,t' σ H Q->t σ H Q):PE X e t':=fun pins s σ H Q I q=>h pins s σ H Q I (w σ H Q q)
theorem PT.weak {X:Cx} {e:Expr} {t t':TT} (h:PT X e t) (w:∀ σ H Q,t' σ H Q->t σ H Q):PT X e t':=fun pins s σ H Q I q=>h pins s σ H Q I (w σ H Q q)
theorem PW.weak {X:Cx} {e:Expr} {t t':TT} (h:PW X e t) (w:∀ σ H Q,t' σ H Q->t σ H Q):PW X e t':=fun wh pins s σ H Q I q=>h wh pins s σ H Q I (w σ H Q q)
theorem PA.weak {X:Cx} {e:List Expr} {t t':TA} (h:PA X e t) (w:∀ σ H Q,t' σ H Q->t σ H Q):PA X e t':=fun pos pins s σ H Q I q=>h pos pins s σ H Q I (w σ H Q q)
theorem PS.weak {X:Cx} {e:Stmt} {t t':TS} (h:PS X e t) (w:∀ D σ H,t' D σ H->t D σ H):PS X e t':=fun pins s σ H D I q=>h pins s σ H D I (w D σ H q)
theorem Ro.weak {X:Cx} {e:List Stmt} {t t':TS} (h:Ro X e t) (w:∀ D σ H,t' D σ H->t D σ H):Ro X e t':=fun pins s σ H D I q=>h pins s σ H D I (w D σ H q)
section
variable {m:Bool} {X:Cx} {e:Expr} {f:Ev->Option Dat}
theorem W4.any (h:W4 false X e f):W4 m X e f:=h.weak fun _ _ _ ⟨env,R,A,d,k,q1,q2⟩=>⟨env,R,A,d,k,q1,q2.any⟩
def dL (g:Ev->Option (List Dat)):Ev->Option Dat:=fun env=>(g env).map .lst
theorem PNd.x {g:Ev->Option (List Dat)} (h:PNd X e g):W4 m X e (dL g):=h.weak fun _ _ _ zz=>by
 obtain ⟨env,R,A,d,k,q1,q2⟩:=zz;unfold dL at q1;cases q:g env with
 | none=>rw [q] at q1;cases q1
 | some ds =>
  rw [q] at q1;cases q1;exact ⟨env,R,A,ds,k,q,q2.new k.mu⟩
theorem bind_some {α β:Type} {a:Option α} {g:α->Option β} {b:β} (h:a.bind g=some b):∃ x,a=some x/\g x=some b:=by
 cases a with
 | none=>cases h
 | some x=>exact ⟨x,rfl,h⟩
def dV (i:Nat):Ev->Option Dat:=fun env=>match env[i]? with
 | some (.fz d)=>some d
 | _=>none
def Dc:List (List Wg×Dat)->Option (List (List Wg×Int))
 | []=>some []
 | (k,.int n)::r=>(Dc r).map ((k,n)::·)
 | _=>none
theorem K8:∀ {kvs:List (List Wg×Dat)} {ls:List (List Wg×Int)},Dc kvs=some ls->ls.length=kvs.length
 | [],ls,h=>by cases h;rfl
 | (k,.int n)::r,ls,h=>by
   rw [Dc] at h;cases e:Dc r with
   | none=>rw [e] at h;cases h
   | some r'=>rw [e] at h;cases h;rw [length_cons,length_cons,K8 e]
 | (k,.non)::r,ls,h=>by cases h
 | (k,.bl _)::r,ls,h=>by cases h
 | (k,.str _)::r,ls,h=>by cases h
 | (k,.tup _)::r,ls,h=>by cases h
 | (k,.lst _)::r,ls,h=>by cases h
 | (k,.dct _)::r,ls,h=>by cases h
 | (k,.exc _ _)::r,ls,h=>by cases h
theorem Io {K:PySem.W.Frag} {H:Hp}:∀ {kvs:List (List Wg×Dat)} {ls:List (List Wg×Int)} {us:List (List Wg×V)},Dc kvs=some ls->us.map (·.1)=kvs.map (·.1)->W8 K H (kvs.map (·.2)) (us.map (·.2))->us=Di ls
 | [],ls,us,h,e1,_=>by
   cases h;cases us with
   | nil=>rfl
   | cons u us=>cases e1
 | (k,.int n)::r,ls,us,h,e1,e2=>by
   rw [Dc] at h;cases e:Dc r with
   | none=>rw [e] at h;cases h
   | some r' =>
     rw [e] at h;cases h;cases us with
     | nil=>cases e1
     | cons u us =>
       obtain ⟨v,vr,z1,z2,z3⟩:=Y3 e2;rw [map_cons] at z1;injection z1 with z1 z4
       rw [map_cons,map_cons] at e1;injection e1 with e1 e3
       have ih:=Io e e3 (z4▸z3);have hv:u.2=.int n:=by rw [z1];exact Mo z2
       rw [ih];show u::Di r'=(k,V.int n)::Di r';rw [show u=(k,V.int n) from Prod.ext e1 hv]
 | (k,.non)::r,ls,us,h,_,_=>by cases h
 | (k,.bl _)::r,ls,us,h,_,_=>by cases h
 | (k,.str _)::r,ls,us,h,_,_=>by cases h
 | (k,.tup _)::r,ls,us,h,_,_=>by cases h
 | (k,.lst _)::r,ls,us,h,_,_=>by cases h
 | (k,.dct _)::r,ls,us,h,_,_=>by cases h
 | (k,.exc _ _)::r,ls,us,h,_,_=>by cases h
def dP (i:Nat):Ev->Option Dat:=fun env=>match env[i]? with
 | some (.fz d)=>some d
 | some (.pk d)=>some d
 | some (.ow ds)=>some (.lst ds)
 | some (.gx (.err c f ns))=>some (.exc c [(f,.nums ns)])
 | some (.gx (.dict kvs))=>(Dc kvs).map .dct
 | _=>none
theorem EnvOk.fz {R:Bs} {A:AS} {H:Hp} {σ:St} {env:Ev} {i:Nat} {d:Dat} (k:EnvOk X.K R A H σ env) (h:env[i]?=some (.fz d)):∃ v,σ[i]?=some (some v)/\Rp X.K (av H A) d v:=by
 obtain ⟨own,h1,h2,h4⟩:=k.sl;obtain ⟨x,q2,v,e1,e2⟩:=h4 i _ h;subst e1;exact ⟨v,q2,e2⟩
theorem EnvOk.look {R:Bs} {A:AS} {H:Hp} {σ:St} {env:Ev} {i:Nat} {d:Dat} (k:EnvOk X.K R A H σ env) (h:dP i env=some d):∃ v,σ[i]?=some (some v)/\Pk X.K A H d v:=by
 obtain ⟨own,h1,h2,h4⟩:=k.sl;unfold dP at h;split at h
 ·rename_i z e
  cases h;obtain ⟨x,q2,v,e1,e2⟩:=h4 i _ e;subst e1;exact ⟨v,q2,.inl e2⟩
 ·rename_i z e
  cases h;obtain ⟨x,q2,v,e1,e2⟩:=h4 i _ e;subst e1;exact ⟨v,q2,e2⟩
 ·rename_i z e
  cases h;obtain ⟨x,q2,a,vs,e1,e2,hz,e3,e4⟩:=h4 i _ e;subst e1;exact ⟨.ref a,q2,.inr (.inl ⟨a,vs,z,rfl,rfl,hz,e3,e4⟩)⟩
 ·rename_i c f ns e
  cases h;obtain ⟨x,q2,v,e1,y,C,dx,fvs,a,h1,h2,h3,h4,h5,h6,h7,h8,h9⟩:=h4 i _ e;subst e1;exact ⟨v,q2,.inr (.inr (.inl ⟨c,f,ns,rfl,y,C,dx,fvs,a,h1,(Tn h2).2,h3,(Tn h4).2,h5,h6,h8,h9⟩))⟩
 ·rename_i kvs e
  obtain ⟨x,q2,v,e1,a,us,g1,g2,g3,g4,g5,g6⟩:=h4 i _ e;subst e1;cases el:Dc kvs with
  | none=>rw [el] at h;cases h
  | some ls =>
   rw [el] at h;cases h;exact ⟨v,q2,.inr (.inr (.inr ⟨ls,a,rfl,g1,by rw [K8 el];exact g3,by rw [g4,Io el g5 g6]⟩))⟩
 ·cases h
theorem xv (i:Nat) {x:Str} {pos:Pos} (hN:X.N[i]?=some x:=by rfl) (hv:Vis X.env.scope x:=by first | exact Or.inl rfl | exact Or.inr (Or.inl rfl) | exact Or.inr (Or.inr rfl)) (hd:(x==("__debug__" : Str))=false:=by decide)
  (hcd:(x==("__classdict__" : Str))=false:=by decide):W4 m X (.Name x pos) (dV i):=W4.any ((Jy hN hv hd hcd).weak fun σ H Q zz=>by
 obtain ⟨env,R,A,d,k,q1,q2⟩:=zz;unfold dV at q1;split at q1
 ·rename_i z e
  cases q1;obtain ⟨v,h1,h2⟩:=k.fz e;exact ⟨v,h1,q2.here h2⟩
 ·cases q1)
theorem xo (i:Nat) {x:Str} {pos:Pos} (hN:X.N[i]?=some x:=by rfl) (hv:Vis X.env.scope x:=by first | exact Or.inl rfl | exact Or.inr (Or.inl rfl) | exact Or.inr (Or.inr rfl)) (hd:(x==("__debug__" : Str))=false:=by decide)
  (hcd:(x==("__classdict__" : Str))=false:=by decide):W4 true X (.Name x pos) (dP i):=(Jy hN hv hd hcd).weak fun σ H Q zz=>by
 obtain ⟨env,R,A,d,k,q1,q2⟩:=zz;obtain ⟨v,h1,h2⟩:=k.look q1;exact ⟨v,h1,q2 v H (Zp.refl H) h2⟩
def dC (d:Dat):Ev->Option Dat:=fun _=>some d
theorem Zc8 {i:Int} {j pos}:W4 m X (.Constant (.int i) j pos) (dC (.int i)):=W4.any (Z8g.weak fun _ _ _ ⟨_,_,_,_,_,q1,q2⟩=>by cases q1;exact q2.here Yk)
theorem xbl {b:Bool} {j pos}:W4 m X (.Constant (.bool b) j pos) (dC (.bl b)):=W4.any (Zcf.weak fun _ _ _ ⟨_,_,_,_,_,q1,q2⟩=>by cases q1;exact q2.here Vd)
theorem Z40 {j pos}:W4 m X (.Constant .none j pos) (dC .non):=W4.any (Z9z.weak fun _ _ _ ⟨_,_,_,_,_,q1,q2⟩=>by cases q1;exact q2.here Il)
theorem Zbx {x:Str} {j pos} (h:SOk x:=by decide +kernel):W4 m X (.Constant (.str x) j pos) (dC (.str x)):=W4.any (Z18.weak fun _ _ _ ⟨_,_,_,_,_,q1,q2⟩=>by cases q1;exact q2.here (Dx h))
end
def rD (K:PySem.W.Frag) (F:Dat->Dat->Option Dat):R2:=fun v u H Q=>∃ A x y d,Ud A H/\F x y=some d/\Pk K A H x v/\Pk K A H y u/\Ti false K A H d Q
def rN (K:PySem.W.Frag) (F:Dat->Dat->Option (List Dat)):R2:=fun v u H Q=>∃ A x y ds,Ud A H/\F x y=some ds/\Pk K A H x v/\Pk K A H y u/\K9 K A H ds Q
def Ji (X:Cx) (f:Value->Value->Sem Value) (F:Dat->Dat->Option Dat):Prop:=Ma X f (rD X.K F)
def OpN (X:Cx) (f:Value->Value->Sem Value) (F:Dat->Dat->Option (List Dat)):Prop:=Ma X f (rN X.K F)
theorem Ma.weak {X:Cx} {f:Value->Value->Sem Value} {r r':R2} (h:Ma X f r) (w:∀ x y H Q,r' x y H Q->r x y H Q):Ma X f r':=fun pins s σ H x y v u Q I rx ry q=>h pins s σ H x y v u Q I rx ry (w _ _ _ _ q)
theorem OpN.d {X:Cx} {f:Value->Value->Sem Value} {F:Dat->Dat->Option (List Dat)} (h:OpN X f F):Ji X f (fun x y=>(F x y).map .lst):=Ma.weak h fun v u H Q zz=>by
 obtain ⟨A,x,y,d,mu,e,p1,p2,q⟩:=zz;dsimp only at e;cases z:F x y with
 | none=>rw [z] at e;cases e
 | some ds=>rw [z] at e;cases e;exact ⟨A,x,y,ds,mu,z,p1,p2,q.new mu⟩
def dO (F:Dat->Dat->Option α) (f g:Ev->Option Dat):Ev->Option α:=fun env=>(f env).bind fun x=>(g env).bind fun y=>F x y
section
variable {m m1 m2:Bool} {X:Cx} {a b:Expr} {f g:Ev->Option Dat} {F:Dat->Dat->Option Dat} {G:Dat->Dat->Option (List Dat)} {pos:Pos}
theorem two {r:R2} {σ:St} {H:Hp} {Q:VK} {env:Ev} {R:Bs} {A:AS} {x y:Dat} (k:EnvOk X.K R A H σ env) (e1:f env=some x) (e2:g env=some y)
  (h:∀ v u H2,Zp H H2->Pk X.K A H2 x v->Pk X.K A H2 y u->Ud A H2->r v u H2 Q) :
  tOp r (fun σ H Q=>∃ env R A d,EnvOk X.K R A H σ env/\f env=some d/\Ti m1 X.K A H d Q) (fun σ H Q=>∃ env R A d,EnvOk X.K R A H σ env/\g env=some d/\Ti m2 X.K A H d Q) σ H Q :=
 ⟨env,R,A,x,k,e1,fun v H1 s1 p1=>⟨env,R,A,y,k.mono s1,e2,fun u H2 s2 p2=>h v u H2 (s1.trans s2) (p1.pk.mono s2) p2.pk (k.mu.mono (s1.trans s2))⟩⟩
theorem Si {α:Type} {F:Dat->Dat->Option α} {env:Ev} {d:α} (h:dO F f g env=some d):∃ x y,f env=some x/\g env=some y/\F x y=some d:=by
 obtain ⟨x,e1,h⟩:=bind_some h;obtain ⟨y,e2,h⟩:=bind_some h;exact ⟨x,y,e1,e2,h⟩
theorem xop {op:Operator} (ho:Ji X (binaryOp op) F) (ha:W4 m1 X a f) (hb:W4 m2 X b g):W4 m X (.BinOp a op b pos) (dO F f g):=W4.any ((Z69 ho ha hb).weak fun σ H Q zz=>by
 obtain ⟨env,R,A,d,k,q1,q2⟩:=zz;obtain ⟨x,y,e1,e2,e3⟩:=Si q1;exact two k e1 e2 fun v u H2 s p1 p2 mu=>⟨A,x,y,d,mu,e3,p1,p2,q2.mono s⟩)
theorem nop {op:Operator} (ho:OpN X (binaryOp op) G) (ha:W4 m1 X a f) (hb:W4 m2 X b g):PNd X (.BinOp a op b pos) (dO G f g):=(Z69 ho ha hb).weak fun σ H Q zz=>by
 obtain ⟨env,R,A,d,k,q1,q2⟩:=zz;obtain ⟨x,y,e1,e2,e3⟩:=Si q1;exact two k e1 e2 fun v u H2 s p1 p2 mu=>⟨A,x,y,d,mu,e3,p1,p2,q2.mono s⟩
theorem Zc7 {op:CmpOp} (ho:Ji X (compareOp op) F) (ha:W4 m1 X a f) (hb:W4 m2 X b g) (hm:behindInMarks op b=false):W4 m X (.Compare a [op] [b] pos) (dO F f g):=W4.any ((Z4p ho ha hb hm).weak fun σ H Q zz=>by
 obtain ⟨env,R,A,d,k,q1,q2⟩:=zz;obtain ⟨x,y,e1,e2,e3⟩:=Si q1;exact two k e1 e2 fun v u H2 s p1 p2 mu=>⟨A,x,y,d,mu,e3,p1,p2,q2.mono s⟩)
def dB (f:Ev->Option Dat):Ev->Option Bool:=fun env=>match f env with
 | some (.bl b)=>some b
 | _=>none
theorem Sn {env:Ev} {b:Bool} (h:dB f env=some b):f env=some (.bl b):=by
 unfold dB at h;split at h
 ·rename_i z e;cases h;exact e
 ·cases h
theorem U7 {op:CmpOp} (ho:Ji X (compareOp op) F) (ha:W4 m1 X a f) (hb:W4 m2 X b g) (hm:behindInMarks op b=false):Aw X (.Compare a [op] [b] pos) (dB (dO F f g)):=(Z4x ho ha hb hm).weak fun σ H Q zz=>by
 obtain ⟨env,R,A,d,k,q1,q2⟩:=zz;obtain ⟨x,y,e1,e2,e3⟩:=Si (Sn q1);show tOp (rD X.K F) _ _ σ H (fun x H'=>∃ k,x=.bl k/\Q k H');exact two k e1 e2 fun v u H2 s p1 p2 mu=>⟨A,x,y,.bl d,mu,e3,p1,p2,fun v H' s' r=>⟨d,r.pk.bl,q2 H' (s.trans s')⟩⟩
theorem xix (ho:Aa X (rD X.K F)) (ha:W4 m1 X a f) (hb:W4 m2 X b g) (hs:Gh b):W4 m X (.Subscript a b pos) (dO F f g):=W4.any ((Z1a ho ha hb hs).weak fun σ H Q zz=>by
 obtain ⟨env,R,A,d,k,q1,q2⟩:=zz;obtain ⟨x,y,e1,e2,e3⟩:=Si q1;exact two k e1 e2 fun v u H2 s p1 p2 mu=>⟨A,x,y,d,mu,e3,p1,p2,q2.mono s⟩)
end
section
variable {m m1 m2:Bool} {X:Cx} {a b c:Expr} {rest:List Expr} {f g h:Ev->Option Dat} {t u:Ev->Option Bool} {pos:Pos}
def Hi (t u:Ev->Option Bool):Ev->Option Bool:=fun env=>(t env).bind fun b=>if b=true then u env else some false
def Cd (t u:Ev->Option Bool):Ev->Option Bool:=fun env=>(t env).bind fun b=>if b=true then some true else u env
def L8 (t:Ev->Option Bool):Ev->Option Bool:=fun env=>(t env).map (!·)
theorem Nb (ha:Aw X a t):B3 X (.BoolOp .And [a] pos) t:=Z4c ha
theorem Z6h (ha:Aw X a t):B3 X (.BoolOp .Or [a] pos) t:=Z8y ha
theorem Bc (ha:Aw X a t) (hb:B3 X (.BoolOp .And (b::rest) pos) u):B3 X (.BoolOp .And (a::b::rest) pos) (Hi t u):=(Z99 ha hb).weak fun σ H Q zz=>by
 obtain ⟨env,R,A,d,k,q1,q2⟩:=zz;obtain ⟨x,e1,e2⟩:=bind_some q1;refine ⟨env,R,A,x,k,e1,fun H1 s1=>?_⟩;cases x with
 | true =>
  rw [if_pos rfl] at e2 ⊢;exact ⟨env,R,A,d,k.mono s1,e2,fun H2 s2=>q2 H2 (s1.trans s2)⟩
 | false =>
  rw [if_neg Bool.false_ne_true] at e2 ⊢;cases e2;exact q2 H1 s1
theorem Z8c (ha:Aw X a t) (hb:B3 X (.BoolOp .Or (b::rest) pos) u):B3 X (.BoolOp .Or (a::b::rest) pos) (Cd t u):=(Zbl ha hb).weak fun σ H Q zz=>by
 obtain ⟨env,R,A,d,k,q1,q2⟩:=zz;obtain ⟨x,e1,e2⟩:=bind_some q1;refine ⟨env,R,A,x,k,e1,fun H1 s1=>?_⟩;cases x with
 | true =>
  rw [if_pos rfl] at e2 ⊢;cases e2;exact q2 H1 s1
 | false =>
  rw [if_neg Bool.false_ne_true] at e2 ⊢;exact ⟨env,R,A,d,k.mono s1,e2,fun H2 s2=>q2 H2 (s1.trans s2)⟩
theorem B3.pt {e:Expr} (h:B3 X e t):Aw X e t:=PW.pt h
theorem Zc3 (ha:Aw X a t):Aw X (.UnaryOp .Not a pos) (L8 t):=(Z75 ha).weak fun σ H Q zz=>by
 obtain ⟨env,R,A,d,k,q1,q2⟩:=zz;unfold L8 at q1;cases e:t env with
 | none=>rw [e] at q1;cases q1
 | some x =>
  rw [e] at q1;cases q1;exact ⟨env,R,A,x,k,e,fun H1 s1=>q2 H1 s1⟩
def Z56 (f g:Ev->Option Dat):Ev->Option Dat:=fun env=>(dB f env).bind fun b=>if b=true then g env else some (.bl false)
def Z48 (f:Ev->Option Dat):Ev->Option Dat:=fun env=>(dB f env).map fun b=>.bl (!b)
theorem Zeg {op} (ha:W4 m X a f):W4 m X (.BoolOp op [a] pos) f:=Z8h ha
theorem Zd3 (ha:W4 m1 X a f) (hb:W4 false X (.BoolOp .And (b::rest) pos) g):W4 m X (.BoolOp .And (a::b::rest) pos) (Z56 f g):=W4.any ((Z7o ha hb).weak fun σ H Q zz=>by
 obtain ⟨env,R,A,d,k,q1,q2⟩:=zz;obtain ⟨x,e1,e2⟩:=bind_some q1;refine ⟨env,R,A,.bl x,k,Sn e1,fun v H1 s1 p1=>⟨x,p1.pk.bl,?_⟩⟩;cases x with
 | true =>
  rw [if_pos rfl] at e2 ⊢;exact ⟨env,R,A,d,k.mono s1,e2,q2.mono s1⟩
 | false =>
  rw [if_neg Bool.false_ne_true] at e2 ⊢;cases e2;exact (q2.mono s1).here Vd)
theorem Zbd (ha:W4 m1 X a f):W4 m X (.UnaryOp .Not a pos) (Z48 f):=W4.any ((Z9f ha).weak fun σ H Q zz=>by
 obtain ⟨env,R,A,d,k,q1,q2⟩:=zz;unfold Z48 at q1;cases e:dB f env with
 | none=>rw [e] at q1;cases q1
 | some x =>
  rw [e] at q1;cases q1;exact ⟨env,R,A,.bl x,k,Sn e,fun v H1 s1 p1=>⟨x,p1.pk.bl,(q2.mono s1).here Vd⟩⟩)
def Zdm:Dat->Option Bool
 | .non=>some false
 | .bl b=>some b
 | .int i=>some (i != 0)
 | .str y=>some ((y.length:Int) != 0)
 | .lst xs=>some (!xs.isEmpty)
 | .tup xs=>some (!xs.isEmpty)
 | _=>none
def dT (f:Ev->Option Dat):Ev->Option Bool:=fun env=>(f env).bind Zdm
theorem Ey {K:PySem.W.Frag} {H:Hp} {ds:List Dat} {vs:List V} (r:W8 K H ds vs):vs.isEmpty=ds.isEmpty:=by
 cases ds with
 | nil=>rw [Yn r];rfl
 | cons d ds=>obtain ⟨v,r',e,_⟩:=Y3 r;rw [e];rfl
theorem Px (ha:W4 true X a f) (he:∀ whole,isTrue a X.env whole=(do let v ← whole;standAt a.pos;holding [v] (truthy v)):=by intro _;rfl):Aw X a (dT f):=(Z38 ha he).weak fun σ H Q zz=>by
 obtain ⟨env,R,A,b,k,q1,q2⟩:=zz;obtain ⟨x,e1,e2⟩:=bind_some q1;refine ⟨env,R,A,x,k,e1,fun v H1 s1 p1=>⟨b,?_,q2 H1 s1⟩⟩;have p:Pk X.K A H1 x v:=p1;cases x with
 | non=>cases e2;rw [p.non];rfl
 | bl b'=>cases e2;rw [p.bl];rfl
 | int i=>cases e2;rw [p.int];rfl
 | str y=>cases e2;obtain ⟨e,h⟩:=p.str;rw [e];exact ⟨h.le,rfl⟩
 | lst xs=>cases e2;obtain ⟨a',vs,e,h1,h2⟩:=p.lst;rw [e];exact .inl ⟨vs,h1.sq,by rw [Ey h2]⟩
 | tup xs=>cases e2;obtain ⟨a',vs,e,h1,h2⟩:=p.tup;rw [e];exact .inr (.inl ⟨vs,h1,by rw [Ey h2]⟩)
 | dct _=>cases e2
 | exc _ _=>cases e2
end
section
variable {m:Bool} {X:Cx} {e:Expr} {es:List Expr} {f:Ev->Option Dat} {fs:Ev->Option (List Dat)} {pos:Pos}
def Zc:Ev->Option (List Dat):=fun _=>some []
def Z2 (f:Ev->Option Dat) (fs:Ev->Option (List Dat)):Ev->Option (List Dat):=fun env=>(f env).bind fun d=>(fs env).map fun ds=>d::ds
theorem Z9:Km m X [] Zc:=Q8.weak fun σ H Q ⟨env,R,A,ds,k,q1,q2⟩=>by cases q1;exact q2 [] H (Zp.refl H) rfl
theorem Z0 (ha:W4 m X e f) (hr:Km m X es fs) (hs:starEach (e::es) X.env=(false,eval e X.env)::starEach es X.env:=by rfl):Km m X (e::es) (Z2 f fs):=(V7 ha hr hs).weak fun σ H Q zz=>by
 obtain ⟨env,R,A,ds,k,q1,q2⟩:=zz;obtain ⟨d,e1,e2⟩:=bind_some q1;cases e3:fs env with
 | none=>rw [e3] at e2;cases e2
 | some r =>
  rw [e3] at e2;cases e2;exact ⟨env,R,A,d,k,e1,fun v H1 s1 p1=>⟨env,R,A,r,k.mono s1,e3,fun vs H2 s2 p2=>q2 (v::vs) H2 (s1.trans s2) ⟨v,vs,rfl,p1.mono s2,p2⟩⟩⟩
def Yi (fs:Ev->Option (List Dat)):Ev->Option Dat:=fun env=>(fs env).bind fun ds=>if ds.length<=1000 then some (.tup ds) else none
def Vu (fs:Ev->Option (List Dat)):Ev->Option (List Dat):=fun env=>(fs env).bind fun ds=>if ds.length<=1000 then some ds else none
theorem Zb2 {x1} (h:Km false X es fs):W4 m X (.Tuple es x1 pos) (Yi fs):=W4.any ((Z79 h).weak fun σ H Q zz=>by
 obtain ⟨env,R,A,d,k,q1,q2⟩:=zz;obtain ⟨ds,e1,e2⟩:=bind_some q1;split at e2
 ·rename_i hz
  cases e2;have hz':ds.length<=sizeLine:=le_of_lt (Q1 hz);refine ⟨env,R,A,ds,k,e1,fun vs H1 s1 p1=>⟨?_,(q2.mono s1).tup (k.mu.mono s1) hz' p1.rps⟩⟩;rw [Zv p1.rps];exact hz'
 ·cases e2)
theorem Tq (h:Km false X es fs):PNd X (.List es pos) (Vu fs):=(Z1k h).weak fun σ H Q zz=>by
 obtain ⟨env,R,A,d,k,q1,q2⟩:=zz;obtain ⟨ds,e1,e2⟩:=bind_some q1;split at e2
 ·rename_i hz
  cases e2;have hz':d.length<=sizeLine:=le_of_lt (Q1 hz);refine ⟨env,R,A,d,k,e1,fun vs H1 s1 p1=>⟨?_,(q2.mono s1).at hz' p1.rps⟩⟩;rw [Zv p1.rps];exact hz'
 ·cases e2
def Rt (X:Cx) (f:Value) (F:List Dat->Option Dat):Prop:=Wn X f (fun vs H Q=>∃ A ds d,Ud A H/\F ds=some d/\X0 true X.K A H ds vs/\Ti false X.K A H d Q)
def Z6i (X:Cx) (f:Value) (F:List Dat->Option (List Dat)):Prop:=Wn X f (fun vs H Q=>∃ A ds d,Ud A H/\F ds=some d/\X0 true X.K A H ds vs/\K9 X.K A H d Q)
theorem Wn.weak {f:Value} {r r':List V->Hp->VK->Prop} (h:Wn X f r) (w:∀ xs H Q,r' xs H Q->r xs H Q):Wn X f r':=fun pins s σ H xs us Q I rv q=>h pins s σ H xs us Q I rv (w _ _ _ q)
def dF (F:List Dat->Option α) (fs:Ev->Option (List Dat)):Ev->Option α:=fun env=>(fs env).bind F
variable {x:Str} {p:Pos} {id T:String} {F:List Dat->Option Dat} {G:List Dat->Option (List Dat)}
theorem Z2m (hc:Rt X (.builtin id) F) (hg:Gl X x) (hm:X.mg x=none) (hv:bootBuiltins x=some (.builtin id)) (ha:Km true X (e::es) fs) (hn:x≠"__name__" := by decide) (hdb:(x==("__debug__" : Str))=false:=by decide)
  (he:starEach (e::es) X.env=(false,eval e X.env)::starEach es X.env:=by rfl) (hpl:(backTo pos (starEach es X.env)).any (·.1)=false:=by rfl):W4 m X (.Call (.Name x p) (e::es) [] pos) (dF F fs) :=
 W4.any ((Db hc hg hm hv ha hn hdb he hpl).weak fun σ H Q zz=>by
  obtain ⟨env,R,A,d,k,q1,q2⟩:=zz;obtain ⟨ds,e1,e2⟩:=bind_some q1;exact ⟨env,R,A,ds,k,e1,fun vs H1 s1 p1=>⟨A,ds,d,k.mu.mono s1,e2,p1,q2.mono s1⟩⟩)
theorem Uu (hc:Rt X (.type T) F) (hg:Gl X x) (hm:X.mg x=none) (hv:bootBuiltins x=some (.type T)) (ha:Km true X (e::es) fs) (hn:x≠"__name__" := by decide) (hdb:(x==("__debug__" : Str))=false:=by decide)
  (he:starEach (e::es) X.env=(false,eval e X.env)::starEach es X.env:=by rfl) (hpl:(backTo pos (starEach es X.env)).any (·.1)=false:=by rfl):W4 m X (.Call (.Name x p) (e::es) [] pos) (dF F fs) :=
 W4.any ((Dv hc hg hm hv ha hn hdb he hpl).weak fun σ H Q zz=>by
  obtain ⟨env,R,A,d,k,q1,q2⟩:=zz;obtain ⟨ds,e1,e2⟩:=bind_some q1;exact ⟨env,R,A,ds,k,e1,fun vs H1 s1 p1=>⟨A,ds,d,k.mu.mono s1,e2,p1,q2.mono s1⟩⟩)
theorem Nn (hc:Z6i X (.builtin id) G) (hg:Gl X x) (hm:X.mg x=none) (hv:bootBuiltins x=some (.builtin id)) (ha:Km true X (e::es) fs) (hn:x≠"__name__" := by decide) (hdb:(x==("__debug__" : Str))=false:=by decide)
  (he:starEach (e::es) X.env=(false,eval e X.env)::starEach es X.env:=by rfl) (hpl:(backTo pos (starEach es X.env)).any (·.1)=false:=by rfl):PNd X (.Call (.Name x p) (e::es) [] pos) (dF G fs) :=
 (Db hc hg hm hv ha hn hdb he hpl).weak fun σ H Q zz=>by
  obtain ⟨env,R,A,d,k,q1,q2⟩:=zz;obtain ⟨ds,e1,e2⟩:=bind_some q1;exact ⟨env,R,A,ds,k,e1,fun vs H1 s1 p1=>⟨A,ds,d,k.mu.mono s1,e2,p1,q2.mono s1⟩⟩
end
section
variable {m m1:Bool} {X:Cx} {o e:Expr} {es:List Expr} {f:Ev->Option Dat} {fs:Ev->Option (List Dat)} {pos apos cpos:Pos} {name:Str} {T id:String} {α:Type}
def Xg (T:String):Dat->Bool
 | .str _=>T=="str"
 | .int _=>T=="int"
 | .lst _=>T=="list"
 | _=>false
theorem Z7i {K:PySem.W.Frag} {A:AS} {H:Hp} {d:Dat} {v:V} (h:Xg T d=true) (p:Pk K A H d v):tyV K T v H:=by
 cases d with
 | str x=>rw [p.str.1];show T="str";simpa [Xg] using h
 | int x=>rw [p.int];show T="int";simpa [Xg] using h
 | lst x=>obtain ⟨a,vs,e,h1,h2⟩:=p.lst;rw [e];exact .inl ⟨by simpa [Xg] using h,vs,h1.sq⟩
 | _=>cases h
def MtD (X:Cx) (id:String) (F:Dat->List Dat->Option Dat):Prop:=MtR X id (fun v vs H Q=>∃ A x ds d,Ud A H/\F x ds=some d/\Pk X.K A H x v/\X0 true X.K A H ds vs/\Ti false X.K A H d Q)
def dM (T:String) (F:Dat->List Dat->Option α) (f:Ev->Option Dat) (fs:Ev->Option (List Dat)):Ev->Option α:=fun env=>(f env).bind fun x=>if Xg T x=true then (fs env).bind fun ds=>F x ds else none
theorem Z3y {F:Dat->List Dat->Option α} {env:Ev} {d:α} (h:dM T F f fs env=some d):∃ x ds,f env=some x/\Xg T x=true/\fs env=some ds/\F x ds=some d:=by
 obtain ⟨x,e1,h⟩:=bind_some h;split at h
 ·rename_i ht
  obtain ⟨ds,e2,h⟩:=bind_some h;exact ⟨x,ds,e1,ht,e2,h⟩
 ·cases h
theorem MtR.weak {r r':V->List V->Hp->VK->Prop} (h:MtR X id r) (w:∀ x xs H Q,r' x xs H Q->r x xs H Q):MtR X id r':=fun pins s σ H x xs v us Q I rx rv q=>h pins s σ H x xs v us Q I rx rv (w _ _ _ _ q)
variable {F:Dat->List Dat->Option Dat} {G:Dat->List Dat->Option (List Dat)}
theorem xbm (pa:PlainAttrs T) (slot:Slot T name id) (hty:typeOf (.builtin id)=pure (.type "method_descriptor")) (hm:MtD X id F) (ho:W4 m1 X o f) (ha:Km true X (e::es) fs)
  (hbase:attributeBase o name X.env (eval o X.env)=eval o X.env:=by rfl)
  (hfew:((backTo cpos (starEach (e::es) X.env)).all (fun x=>!x.1)&&(backToKw cpos (keywordEach [] X.env)).all (fun x=>x.1.isSome)
   && decide ((e::es).length+([]:List Keyword).length+(if ([]:List Keyword).isEmpty then 0 else 1)<30))=true:=by rfl)
  (hline:(apos.endLine==cpos.line)=true:=by rfl) (hs:starEach (e::es) X.env=(false,eval e X.env)::starEach es X.env:=by rfl) (hplain:(backTo cpos (starEach es X.env)).any (·.1)=false:=by rfl) :
  W4 m X (.Call (.Attribute o name apos) (e::es) [] cpos) (dM T F f fs):=W4.any ((Z1l pa slot hty hm ho ha hbase hfew hline hs hplain).weak fun σ H Q zz=>by
 obtain ⟨env,R,A,d,k,q1,q2⟩:=zz;obtain ⟨x,ds,e1,ht,e2,e3⟩:=Z3y q1;exact ⟨env,R,A,x,k,e1,fun v H1 s1 p1=>⟨Z7i ht p1.pk,env,R,A,ds,k.mono s1,e2,fun vs H2 s2 p2=>⟨A,x,ds,d,k.mu.mono (s1.trans s2),e3,p1.pk.mono s2,p2,q2.mono (s1.trans s2)⟩⟩⟩)
def POd (X:Cx) (e:Option Expr) (f:Ev->Option (Option Int)):Prop:=PO X e fun σ H Q=>∃ env R A i,EnvOk X.K R A H σ env/\f env=some i/\∀ H',Zp H H'->Q i H'
def Ja:Ev->Option (Option Int):=fun _=>some none
def Va (f:Ev->Option Dat):Ev->Option (Option Int):=fun env=>match f env with
 | some (.int i)=>some (some i)
 | _=>none
theorem PO.weak {e:Option Expr} {t t':TO} (h:PO X e t) (w:∀ σ H Q,t' σ H Q->t σ H Q):PO X e t':=fun pins s σ H Q I q=>h pins s σ H Q I (w σ H Q q)
theorem J5:POd X none Ja:=Z3q.weak fun σ H Q ⟨env,R,A,i,k,q1,q2⟩=>by cases q1;exact q2 H (Zp.refl H)
theorem Tg (h:W4 m X e f):POd X (some e) (Va f):=(Z3v h).weak fun σ H Q zz=>by
 obtain ⟨env,R,A,i,k,q1,q2⟩:=zz;unfold Va at q1;split at q1
 ·rename_i n e1
  cases q1;exact ⟨env,R,A,_,k,e1,fun v H1 s1 p1=>⟨n,p1.pk.int,q2 H1 s1⟩⟩
 ·cases q1
def SlD (X:Cx) (F:Dat->Option Int->Option Int->Option Dat):Prop:=Fw X (fun v lo hi H Q=>∃ A x d,Ud A H/\F x lo hi=some d/\Pk X.K A H x v/\Ti false X.K A H d Q)
def dS (F:Dat->Option Int->Option Int->Option α) (f:Ev->Option Dat) (g h:Ev->Option (Option Int)):Ev->Option α:=fun env=>(f env).bind fun x=>(g env).bind fun l=>(h env).bind fun u=>F x l u
variable {lo hi:Option Expr} {gl gh:Ev->Option (Option Int)} {p2:Pos}
theorem Z53 {F:Dat->Option Int->Option Int->Option α} {env:Ev} {d:α} (h:dS F f gl gh env=some d):∃ x l u,f env=some x/\gl env=some l/\gh env=some u/\F x l u=some d:=by
 obtain ⟨x,e1,h⟩:=bind_some h;obtain ⟨l,e2,h⟩:=bind_some h;obtain ⟨u,e3,h⟩:=bind_some h;exact ⟨x,l,u,e1,e2,e3,h⟩
theorem Xk {F:Dat->Option Int->Option Int->Option Dat} (hr:SlD X F) (he:W4 m1 X e f) (hl:POd X lo gl) (hu:POd X hi gh):W4 m X (.Subscript e (.Slice lo hi none p2) pos) (dS F f gl gh):=W4.any ((Z23 hr he hl hu).weak fun σ H Q zz=>by
 obtain ⟨env,R,A,d,k,q1,q2⟩:=zz;obtain ⟨x,l,u,e1,e2,e3,e4⟩:=Z53 q1;exact ⟨env,R,A,x,k,e1,fun v H1 s1 p1=>⟨env,R,A,l,k.mono s1,e2,fun H2 s2=>⟨env,R,A,u,k.mono (s1.trans s2),e3,fun H3 s3=>⟨A,x,d,k.mu.mono ((s1.trans s2).trans s3),e4,p1.pk.mono (s2.trans s3),q2.mono ((s1.trans s2).trans s3)⟩⟩⟩⟩)
def UnD (X:Cx) (g:Value->Sem Value) (F:Dat->Option Dat):Prop:=UnR X g (fun v H Q=>∃ A x d,Ud A H/\F x=some d/\Pk X.K A H x v/\Ti false X.K A H d Q)
def dU (F:Dat->Option Dat) (f:Ev->Option Dat):Ev->Option Dat:=fun env=>(f env).bind F
theorem xun {op:UnaryOp} {F:Dat->Option Dat} (ho:UnD X (unaryOp op) F) (ha:W4 m1 X e f):W4 m X (.UnaryOp op e pos) (dU F f):=W4.any ((Zat ho ha).weak fun σ H Q zz=>by
 obtain ⟨env,R,A,d,k,q1,q2⟩:=zz;obtain ⟨x,e1,e2⟩:=bind_some q1;exact ⟨env,R,A,x,k,e1,fun v H1 s1 p1=>⟨A,x,d,k.mu.mono s1,e2,p1.pk,q2.mono s1⟩⟩)
end
section
variable {X:Cx}
def Gm (C:Int->Int->Prop) [∀ i j,Decidable (C i j)] (g:Int->Int->Dat):Dat->Dat->Option Dat
 | .int i,.int j=>if C i j then some (g i j) else none
 | _,_=>none
theorem F9 {f:Value->Value->Sem Value} {C:Int->Int->Prop} [∀ i j,Decidable (C i j)] {g:Int->Int->V} {G:Int->Int->Dat} (h:Ma X f (rI C g)) (hg:∀ K H i j,Rp K H (G i j) (g i j)):Ji X f (Gm C G):=h.weak fun v u H Q zz=>by
 obtain ⟨A,x,y,d,mu,e,p1,p2,q⟩:=zz;unfold Gm at e;split at e
 ·rename_i i j
  split at e
  ·rename_i hc
   cases e;exact ⟨i,j,p1.int,p2.int,hc,q.here (hg _ _ _ _)⟩
  ·cases e
 ·cases e
theorem Eb {f:Value->Value->Sem Value} {g:Int->Int->V} {G:Int->Int->Dat} (h:Ma X f (rI0 g)) (hg:∀ K H i j,Rp K H (G i j) (g i j)):Ji X f (Gm (fun _ _=>True) G):=h.weak fun v u H Q zz=>by
 obtain ⟨A,x,y,d,mu,e,p1,p2,q⟩:=zz;unfold Gm at e;split at e
 ·rename_i i j
  rw [if_pos trivial] at e;cases e;exact ⟨i,j,p1.int,p2.int,q.here (hg _ _ _ _)⟩
 ·cases e
instance:∀ i j,Decidable (Fc i j):=fun i j=>by unfold Fc;infer_instance
instance:∀ i j,Decidable (Z0g i j):=fun i j=>by unfold Z0g;infer_instance
instance:∀ i j,Decidable (Z06 i j):=fun i j=>by unfold Z06;infer_instance
def Ke:=Gm (fun _ _=>True) fun i j=>.int (i - j)
def Yh:=Gm Z0g fun i j=>.int (i / j)
def W5:=Gm (fun _ j=>0<j) fun i j=>.int (i % j)
def Z3a:=Gm Z06 fun i j=>.int (i^j.toNat)
def Q6:=Gm Z06 fun i j=>.int (i*2^j.toNat)
def J6:=Gm (fun _ j=>0<=j) fun i j=>.int (i / 2^j.toNat)
def Tf:=Gm (fun _ _=>True) fun i j=>.int (Builtin.bitAnd i j)
def orD:=Gm (fun _ _=>True) fun i j=>.int (Builtin.bitOr i j)
def Z5z:=Gm (fun _ _=>True) fun i j=>.int (Builtin.bitXor i j)
def ltD:=Gm (fun _ _=>True) fun i j=>.bl (decide (i<j))
def gtD:=Gm (fun _ _=>True) fun i j=>.bl (decide (j<i))
def geD:=Gm (fun _ _=>True) fun i j=>.bl (decide (j<=i))
theorem Ik:Ji X (binaryOp .Sub) Ke:=Eb Z9q fun _ _ _ _=>Yk
theorem Y9:Ji X (binaryOp .FloorDiv) Yh:=F9 Z64 fun _ _ _ _=>Yk
theorem Yf:Ji X (binaryOp .Mod) W5:=F9 Z8s fun _ _ _ _=>Yk
theorem Z71:Ji X (binaryOp .Pow) Z3a:=F9 Z9d fun _ _ _ _=>Yk
theorem Uf:Ji X (binaryOp .LShift) Q6:=F9 Z88 fun _ _ _ _=>Yk
theorem Ml:Ji X (binaryOp .RShift) J6:=F9 Z7c fun _ _ _ _=>Yk
theorem Tk:Ji X (binaryOp .BitAnd) Tf:=Eb Z8j fun _ _ _ _=>Yk
theorem Z0n:Ji X (binaryOp .BitOr) orD:=Eb Zcc fun _ _ _ _=>Yk
theorem Z6v:Ji X (binaryOp .BitXor) Z5z:=Eb Z7z fun _ _ _ _=>Yk
theorem Zby:Ji X (compareOp .Lt) ltD:=Eb Zbf fun _ _ _ _=>Vd
theorem Zds:Ji X (compareOp .Gt) gtD:=Eb Zc9 fun _ _ _ _=>Vd
theorem Zd4:Ji X (compareOp .GtE) geD:=Eb Zal fun _ _ _ _=>Vd
theorem Ji.or {f:Value->Value->Sem Value} {F G E:Dat->Dat->Option Dat} (h:Ji X f F) (h':Ji X f G) (he:∀ x y d,E x y=some d->F x y=some d\/G x y=some d):Ji X f E:=fun pins s σ H x y v u Q I rx ry zz=>by
 obtain ⟨A,a,b,d,mu,e,p1,p2,q⟩:=zz;rcases he _ _ _ e with e | e
 ·exact h pins s σ H x y v u Q I rx ry ⟨A,a,b,d,mu,e,p1,p2,q⟩
 ·exact h' pins s σ H x y v u Q I rx ry ⟨A,a,b,d,mu,e,p1,p2,q⟩
def Z8l:Dat->Option Dat
 | .int i=>some (.int (Builtin.bitNot i))
 | _=>none
theorem UnR.weak {f:Value->Sem Value} {r r':V->Hp->VK->Prop} (h:UnR X f r) (w:∀ x H Q,r' x H Q->r x H Q):UnR X f r':=fun pins s σ H x v Q I rx q=>h pins s σ H x v Q I rx (w _ _ _ q)
theorem Zc6:UnD X (unaryOp .Invert) Z8l:=UnR.weak Z7h fun v H Q zz=>by
 obtain ⟨A,x,d,mu,e,p,q⟩:=zz;unfold Z8l at e;split at e
 ·cases e;exact ⟨_,p.int,q.here Yk⟩
 ·cases e
theorem Ht {x:Str} (h:∀ c∈cl x,c<0x110000):PyData.strOk x=true:=by
 unfold PyData.strOk;rw [Array.all_eq_true'];intro c hc;exact decide_eq_true (h c (by simpa [cl] using hc))
theorem Sw {x:Str} (h:PyData.strOk x=true):∀ c∈cl x,c<0x110000:=by
 unfold PyData.strOk at h;rw [Array.all_eq_true'] at h;intro c hc;exact of_decide_eq_true (h c (by simpa [cl] using hc))
theorem Z08 {x y:Str} (h:PyData.strOk x=true) (k:PyData.strOk y=true):PyData.strOk (x++y)=true:=Ht fun c hc=>by
 rw [Z3e] at hc;rcases mem_append.mp hc with z | z
 ·exact Sw h c z
 ·exact Sw k c z
theorem Ak (x y:Str):(x++y).length=x.length+y.length:=by rw [← Hm,Z3e,length_append,Hm,Hm]
def Z72:Dat->Dat->Option Dat
 | .str x,.str y=>if x.length+y.length<=sizeLine then some (.str (x++y)) else none
 | _,_=>none
theorem Z7m:Ji X (binaryOp .Add) Z72:=Xl.weak fun v u H Q zz=>by
 obtain ⟨A,x,y,d,mu,e,p1,p2,q⟩:=zz;unfold Z72 at e;split at e
 ·rename_i i j
  split at e
  ·rename_i hz
   cases e;obtain ⟨e1,k1⟩:=p1.str;obtain ⟨e2,k2⟩:=p2.str;exact ⟨i,j,e1,e2,hz,q.here (Dx (SOk.of (Z08 k1.ok k2.ok) (by rw [Ak];exact hz)))⟩
  ·cases e
 ·cases e
def K2:Dat->Dat->Option (List Dat)
 | .lst xs,.lst ys=>if xs.length+ys.length<=sizeLine then some (xs++ys) else none
 | _,_=>none
theorem Ad:OpN X (binaryOp .Add) K2:=fun pins s σ H x y v u Q I rx ry zz=>by
 obtain ⟨A,a,b,d,mu,e,p1,p2,q⟩:=zz;unfold K2 at e;split at e
 ·rename_i xs ys
  split at e
  ·rename_i hz
   cases e;obtain ⟨l1,vs,e1,h1,r1⟩:=p1.lst;obtain ⟨l2,us,e2,h2,r2⟩:=p2.lst;subst e1 e2;cases rx;cases ry;obtain ⟨its,n,w1,g1,_⟩:=h1.get I;obtain ⟨its2,n2,w2,g2,_⟩:=h2.get I;have z1:=w1.length;have z2:=w2.length;have z3:=Zv r1;have z4:=Zv r2;refine PySem.P.add_list g1 g2 ?_ (by rw [size_toArray,size_toArray];lia);have ea:its.toArray++its2.toArray=(its++its2).toArray:=by simp
   rw [ea];exact ⟨.ref _,_,I.lnew (t':=s.toks) (w1.append w2) (by rw [length_append];lia),rfl,q.at (by rw [length_append];exact hz) (Ww r1 r2) _ I.fresh⟩
  ·cases e
 ·cases e
theorem Cp {K:PySem.W.Frag} {H:Hp} {ds:List Dat} {vs:List V} (r:W8 K H ds vs) (h:ds.length≠0):vs≠[]:=by
 intro e;subst e;have:=Zv r;simp at this;lia
def Y8:Dat->Dat->Option Dat
 | .int i,.int j=>some (.int (i+j))
 | .str x,.str y=>if x.length+y.length<=sizeLine then some (.str (x++y)) else none
 | .lst xs,.lst ys=>if xs.length+ys.length<=sizeLine then some (.lst (xs++ys)) else none
 | _,_=>none
theorem Z74:Ji X (binaryOp .Add) (Gm (fun _ _=>True) fun i j=>.int (i+j)):=Eb Z8t fun _ _ _ _=>Yk
theorem Y2:Ji X (binaryOp .Add) Y8:=by
 have h1:=Ji.or (E:=fun x y=>match x,y with | .int i,.int j=>some (.int (i+j)) | .str x,.str y=>if x.length+y.length<=sizeLine then some (.str (x++y)) else none | _,_=>none) (Z74 (X:=X)) Z7m (fun x y d e=>by
  split at e
  ·left;simp [Gm];exact by simpa using e
  ·right;simp only [Z72];exact e
  ·cases e)
 refine Ji.or h1 Ad.d fun x y d e=>?_
 unfold Y8 at e;split at e
 ·left;exact e
 ·left;exact e
 ·right
  rename_i xs ys;simp only [K2];split at e
  ·rename_i hz;cases e;rw [if_pos hz];rfl
  ·cases e
 ·cases e
def Zbt:=Gm Fc fun i j=>.int (i*j)
theorem Z9c:Ji X (binaryOp .Mult) Zbt:=F9 Z8m fun _ _ _ _=>Yk
def Jj:Dat->Dat->Option Dat:=fun x y=>if (pd 20 x&&pd 20 y)=true then some (.bl (Et x y)) else none
def Ax:Dat->Dat->Option Dat:=fun x y=>if (pd 20 x&&pd 20 y)=true then some (.bl (!Et x y)) else none
theorem Ta (hu:X.A.units+64<cLine):Ji X (compareOp .Eq) Jj:=fun pins s σ H x y v u Q I rx ry zz=>by
 obtain ⟨A,a,b,d,mu,e,p1,p2,q⟩:=zz;unfold Jj at e;split at e
 ·rename_i hp
  rw [Bool.and_eq_true] at hp;cases e;obtain ⟨as,a1,a2⟩:=Rp.reads I a x v hp.1 p1.rp rx;obtain ⟨bs,b1,b2⟩:=Rp.reads I b y u hp.2 p2.rp ry;have:=R0 20 a hp.1;refine SeqAt.compareEq_reads a1 b1 a2 b2 (by lia) ⟨.bl _,H,I,rfl,?_⟩;rw [R8 a b hp.1 hp.2];exact q.here Vd
 ·cases e
theorem Z1b (hu:X.A.units+64<cLine):Ji X (compareOp .NotEq) Ax:=fun pins s σ H x y v u Q I rx ry zz=>by
 obtain ⟨A,a,b,d,mu,e,p1,p2,q⟩:=zz;unfold Ax at e;split at e
 ·rename_i hp
  rw [Bool.and_eq_true] at hp;cases e;obtain ⟨as,a1,a2⟩:=Rp.reads I a x v hp.1 p1.rp rx;obtain ⟨bs,b1,b2⟩:=Rp.reads I b y u hp.2 p2.rp ry;have:=R0 20 a hp.1;refine SeqAt.compareNe_reads a1 b1 a2 b2 (by lia) ⟨.bl _,H,I,rfl,?_⟩;rw [R8 a b hp.1 hp.2];exact q.here Vd
 ·cases e
def isN:Dat->Bool
 | .non=>true
 | _=>false
theorem Z6p {K:PySem.W.Frag} {H:Hp} {d:Dat} {v:V} (r:Rp K H d v):decide (v=V.non)=isN d:=by
 cases d with
 | non=>rw [K3 r];rfl
 | bl b=>rw [Ez r];rfl
 | int b=>rw [Mo r];rfl
 | str b=>rw [(Gn r).1];rfl
 | tup b=>obtain ⟨a,_,e,_⟩:=Jl r;rw [e];rfl
 | lst b=>obtain ⟨a,_,e,_⟩:=Mj r;rw [e];rfl
 | dct _=>obtain ⟨_,a,e,_⟩:=Z32 r;rw [e];rfl
 | exc _ _=>obtain ⟨_,_,_,e,_⟩:=Z80 r;subst e;rfl
def isF:Dat->Dat->Option Dat
 | x,.non=>some (.bl (isN x))
 | _,_=>none
def Z93:Dat->Dat->Option Dat
 | x,.non=>some (.bl (!isN x))
 | _,_=>none
theorem Zb3:Ji X (compareOp .Is) isF:=Z9o.weak fun v u H Q zz=>by
 obtain ⟨A,x,y,d,mu,e,p1,p2,q⟩:=zz;unfold isF at e;split at e
 ·cases e
  exact ⟨p2.non,by rw [Z6p p1.rp];exact q.here Vd⟩
 ·cases e
theorem Zbb:Ji X (compareOp .IsNot) Z93:=Z62.weak fun v u H Q zz=>by
 obtain ⟨A,x,y,d,mu,e,p1,p2,q⟩:=zz;unfold Z93 at e;split at e
 ·cases e
  exact ⟨p2.non,by rw [Z6p p1.rp];exact q.here Vd⟩
 ·cases e
def inS:Str->Str->Bool:=fun i j=>!(Builtin.Str.occurrences j i 0 j.length 1).isEmpty
def inB:Dat->Dat->Option Bool
 | x,.lst ys=>if (pd 20 x&&ys.all (pd 20))=true then some (ys.any fun y=>Et y x) else none
 | x,.tup ys=>if (pd 20 x&&ys.all (pd 20))=true then some (ys.any fun y=>Et y x) else none
 | .str i,.str j=>some (inS i j)
 | _,_=>none
def inF:Dat->Dat->Option Dat:=fun x y=>(inB x y).map .bl
def F0:Dat->Dat->Option Dat:=fun x y=>(inB x y).map fun b=>.bl (!b)
theorem Ju {pins:List (Addr×Obj)} {σ:St} {H:Hp} {s:Shared} (I:Inv X pins σ H s) (hu:X.A.units+64<cLine) {a:Dat} {x:V} {v:Value} (ha:pd 20 a=true) (rx:Rp X.K H a x) (qx:Yg x v) :
  ∃ e:Value->Bool,∀ {ys:List Dat} {vs:List V} {us:List Value},W8 X.K H ys vs->Zx vs us->(∀ y∈ys,pd 20 y=true)->(∀ u∈us,SeqAt.EqAt X.A.in1 s u v (e u))/\us.any e=ys.any fun y=>Et y a:=by
 classical
 have hu':X.A.in1.units+60<cLine:=by show X.A.units+1+60<cLine;lia
 have key:∀ {y:Dat} {w:V} {u:Value},Rp X.K H y w->Yg w u->pd 20 y=true->SeqAt.EqAt X.A.in1 s u v (Et y a):=fun {y w u} r q h=>Rp.eqAt I h ha (by decide) hu' r rx q qx
 let e:Value->Bool:=fun u=>decide (∃ (y:Dat) (w:V),Rp X.K H y w/\Yg w u/\pd 20 y=true/\Et y a=true)
 have he:∀ {y:Dat} {w:V} {u:Value},Rp X.K H y w->Yg w u->pd 20 y=true->e u=Et y a:=fun {y w u} r q h=>by
  cases z:Et y a with
  | true=>exact decide_eq_true ⟨y,w,r,q,h,z⟩
  | false =>
   refine decide_eq_false ?_;rintro ⟨y',w',r',q',h',z'⟩;have:=q.inj q';subst this;obtain ⟨as,a1,a2⟩:=Rp.reads I y w u h r q;obtain ⟨bs,b1,b2⟩:=Rp.reads I y' w u h' r' q;have eqP:=SeqAt.Reads.unique _ _ _ _ _ a2 a1 b1;rw [← R8 y a h ha,eqP,R8 y' a h' ha,z'] at z;cases z
 refine ⟨e,fun {ys}=>?_⟩;induction ys with
 | nil=>intro vs us r q _;rw [Yn r] at q;cases q;exact ⟨fun u hu=>(by cases hu),rfl⟩
 | cons y ys ih =>
  intro vs us r q hp;obtain ⟨w,vs',e1,r1,r2⟩:=Y3 r;subst e1;cases q with
  | cons q1 q2 =>
   rename_i u us;obtain ⟨h1,h2⟩:=ih r2 q2 fun z hz=>hp z (mem_cons_of_mem _ hz)
   have hy:=hp y mem_cons_self;refine ⟨fun u' hu'=>?_,?_⟩
   ·rcases mem_cons.mp hu' with z | z
    ·subst z;rw [he r1 q1 hy];exact key r1 q1 hy
    ·exact h1 u' z
   ·rw [any_cons,any_cons,h2,he r1 q1 hy]
theorem Zee (hu:X.A.units+64<cLine):Ji X (compareOp .In) inF:=fun pins s σ H x y v u Q I rx ry zz=>by
 obtain ⟨A,a,b,d,mu,e,p1,p2,q⟩:=zz;unfold inF at e;unfold inB at e;split at e
 ·rename_i ys
  split at e
  ·rename_i hp
   rw [Bool.and_eq_true,all_eq_true] at hp;cases e;obtain ⟨l,vs,e1,h1,r1⟩:=p2.lst;subst e1;cases ry;obtain ⟨its,w1,pl,_⟩:=I.list h1.sq;obtain ⟨f,hf⟩:=Ju I hu hp.1 p1.rp rx;obtain ⟨k1,k2⟩:=hf (r1.mono Yy) w1 hp.2;refine SeqAt.in_listAt f pl.isList (fun w hw=>k1 w (by simpa using hw)) ⟨.bl _,H,I,rfl,?_⟩;rw [show its.toArray.any f=its.any f by simp,k2];exact q.here Vd
  ·cases e
 ·rename_i ys
  split at e
  ·rename_i hp
   rw [Bool.and_eq_true,all_eq_true] at hp;cases e;obtain ⟨l,vs,e1,h1,r1⟩:=p2.tup;subst e1;cases ry;obtain ⟨its,w1,pl,_⟩:=I.tuple h1;obtain ⟨f,hf⟩:=Ju I hu hp.1 p1.rp rx;obtain ⟨k1,k2⟩:=hf (r1.mono Yy) w1 hp.2;refine SeqAt.in_tupleAt f pl (fun w hw=>k1 w (by simpa using hw)) ⟨.bl _,H,I,rfl,?_⟩;rw [show its.toArray.any f=its.any f by simp,k2];exact q.here Vd
  ·cases e
 ·rename_i i j
  cases e;obtain ⟨e1,k1⟩:=p1.str;obtain ⟨e2,k2⟩:=p2.str;exact Br pins s σ H x y v u Q I rx ry ⟨i,j,e1,e2,q.here Vd⟩
 ·cases e
theorem Z6t (hu:X.A.units+64<cLine):Ji X (compareOp .NotIn) F0:=fun pins s σ H x y v u Q I rx ry zz=>by
 obtain ⟨A,a,b,d,mu,e,p1,p2,q⟩:=zz;unfold F0 at e;unfold inB at e;split at e
 ·rename_i ys
  split at e
  ·rename_i hp
   rw [Bool.and_eq_true,all_eq_true] at hp;cases e;obtain ⟨l,vs,e1,h1,r1⟩:=p2.lst;subst e1;cases ry;obtain ⟨its,w1,pl,_⟩:=I.list h1.sq;obtain ⟨f,hf⟩:=Ju I hu hp.1 p1.rp rx;obtain ⟨k1,k2⟩:=hf (r1.mono Yy) w1 hp.2;refine SeqAt.notIn_listAt f pl.isList (fun w hw=>k1 w (by simpa using hw)) ⟨.bl _,H,I,rfl,?_⟩;rw [show its.toArray.any f=its.any f by simp,k2];exact q.here Vd
  ·cases e
 ·rename_i ys
  split at e
  ·rename_i hp
   rw [Bool.and_eq_true,all_eq_true] at hp;cases e;obtain ⟨l,vs,e1,h1,r1⟩:=p2.tup;subst e1;cases ry;obtain ⟨its,w1,pl,_⟩:=I.tuple h1;obtain ⟨f,hf⟩:=Ju I hu hp.1 p1.rp rx;obtain ⟨k1,k2⟩:=hf (r1.mono Yy) w1 hp.2;refine SeqAt.notIn_tupleAt f pl (fun w hw=>k1 w (by simpa using hw)) ⟨.bl _,H,I,rfl,?_⟩;rw [show its.toArray.any f=its.any f by simp,k2];exact q.here Vd
  ·cases e
 ·rename_i i j
  cases e;obtain ⟨e1,k1⟩:=p1.str;obtain ⟨e2,k2⟩:=p2.str;exact O1 pins s σ H x y v u Q I rx ry ⟨i,j,e1,e2,q.here Vd⟩
 ·cases e
def V1:Dat->Dat->Option Dat
 | .lst xs,.int i=>Kp xs i
 | .tup xs,.int i=>Kp xs i
 | .str z,.int i=>(Kp (cl z) i).map fun c=>.str ⟨#[c]⟩
 | _,_=>none
theorem B5 {K:PySem.W.Frag} {H:Hp} {ds:List Dat} {vs:List V} {i:Int} {d:Dat} (r:W8 K H ds vs) (h:Kp ds i=some d):∃ v,Kp vs i=some v/\Rp K H d v:=by
 unfold Kp at h ⊢;rw [Zv r];obtain ⟨j,e1,e2⟩:=bind_some h;obtain ⟨v,h1,h2⟩:=Ri r e2;exact ⟨v,by rw [e1];exact h1,h2⟩
theorem Z4n {α:Type} {xs:List α} {i:Int} {x:α} (h:Kp xs i=some x):x∈xs:=by
 unfold Kp at h;obtain ⟨j,e1,e2⟩:=bind_some h;exact mem_of_getElem? e2
theorem Z5c {z:Str} {c:Nat} (h:SOk z) (hc:c∈cl z):SOk ⟨#[c]⟩:=SOk.of (Ht fun c' hc'=>by
 have:c'=c:=by simpa [cl] using hc'
 rw [this];exact Sw h.ok c hc) (by rw [← Hm];simp [cl];decide)
theorem Aa.weak {r r':R2} (h:Aa X r) (w:∀ x y H Q,r' x y H Q->r x y H Q):Aa X r':=fun value slice pins s σ H x y v u Q I rx ry q hs=>h value slice pins s σ H x y v u Q I rx ry (w _ _ _ _ q) hs
theorem Yl:Aa X (rD X.K V1):=Z7r.weak fun v u H Q zz=>by
 obtain ⟨A,x,y,d,mu,e,p1,p2,q⟩:=zz;unfold V1 at e;split at e
 ·rename_i xs i
  obtain ⟨l,vs,e1,h1,r1⟩:=p1.lst;obtain ⟨w,h2,r2⟩:=B5 r1 e;exact .inl ⟨l,vs,i,w,e1,p2.int,h1.sq,h2,q.here r2⟩
 ·rename_i xs i
  obtain ⟨l,vs,e1,h1,r1⟩:=p1.tup;obtain ⟨w,h2,r2⟩:=B5 r1 e;exact .inr (.inl ⟨l,vs,i,w,e1,p2.int,h1,h2,q.here r2⟩)
 ·rename_i z i
  obtain ⟨e1,k1⟩:=p1.str;cases hc:Kp (cl z) i with
  | none=>rw [hc] at e;cases e
  | some c =>
   rw [hc] at e;cases e;exact .inr (.inr ⟨z,i,c,e1,p2.int,k1.le,hc,q.here (Dx (Z5c k1 (Z4n hc)))⟩)
 ·cases e
theorem B2 {K:PySem.W.Frag} {H:Hp} {ds:List Dat} {vs:List V} (lo hi:Option Int) (r:W8 K H ds vs):W8 K H (Ue ds lo hi) (Om vs lo hi):=by
 unfold Ue Om;rw [Zv r];exact Gu _ (Hx _ r)
theorem Z2p {α:Type} {xs:List α} {lo hi:Option Int} {x:α} (h:x∈Ue xs lo hi):x∈xs:=List.mem_of_mem_drop (List.mem_of_mem_take h)
theorem Of {α:Type} {xs:List α} {lo hi:Option Int} {n:Nat} (h:xs.length<=n):(Ue xs lo hi).length<=n:=by unfold Ue;rw [length_take,length_drop];lia
theorem Fw.weak {r r':V->Option Int->Option Int->Hp->VK->Prop} (h:Fw X r) (w:∀ x lo hi H Q,r' x lo hi H Q->r x lo hi H Q):Fw X r':=fun pins s σ H x v vl vu lo hi sl Q I rx hs pl pu q=>h pins s σ H x v vl vu lo hi sl Q I rx hs pl pu (w _ _ _ _ _ q)
def slD:Dat->Option Int->Option Int->Option Dat
 | .lst xs,lo,hi=>some (.lst (Ue xs lo hi))
 | .str z,lo,hi=>some (.str (Txt.slice z lo hi))
 | .tup xs,lo,hi=>if HT.sIx xs.length 0 lo=0/\HT.sIx xs.length xs.length hi=xs.length then none else some (.tup (Ue xs lo hi))
 | _,_,_=>none
theorem C0 {z:Str} {lo hi:Option Int} (h:SOk z):SOk (Txt.slice z lo hi):=SOk.of (Ht fun c hc=>by
 rw [Z2e] at hc;exact Sw h.ok c (Z2p hc)) (le_trans (Txt.slice_le z _ _) h.le)
theorem Zcx:SlD X slD:=Zdh.weak fun v lo hi H Q zz=>by
 obtain ⟨A,x,d,mu,e,p1,q⟩:=zz;unfold slD at e;split at e
 ·rename_i xs
  cases e;obtain ⟨l,vs,e1,h1,r1⟩:=p1.lst;exact .inl ⟨l,vs,e1,h1.sq,(q.new mu).at (Of p1.lenL) (B2 lo hi r1)⟩
 ·rename_i z
  cases e;obtain ⟨e1,k1⟩:=p1.str;exact .inr (.inr ⟨z,e1,k1.le,q.here (Dx (C0 k1))⟩)
 ·rename_i xs
  split at e
  ·cases e
  ·rename_i hn
   cases e;obtain ⟨l,vs,e1,h1,r1⟩:=p1.tup;exact .inr (.inl ⟨l,vs,e1,h1,by rw [Zv r1];exact hn,q.tup mu (Of p1.lenT) (B2 lo hi r1)⟩)
 ·cases e
end
section
variable {X:Cx} {m:Bool}
def Qh:List Dat->Option Dat
 | [.lst xs]=>some (.int xs.length)
 | [.tup xs]=>some (.int xs.length)
 | [.str z]=>some (.int z.length)
 | _=>none
theorem M5:Rt X (.builtin "len") Qh:=Bz.weak fun vs H Q zz=>by
 obtain ⟨A,ds,d,mu,e,p,q⟩:=zz;unfold Qh at e;split at e
 ·obtain ⟨v,e1,p1⟩:=p.one
  obtain ⟨l,us,e2,h1,r1⟩:=p1.lst;cases e;exact .inl ⟨l,us,by rw [e1,e2],.inl h1.sq,fun _=>by rw [Zv r1];exact q.here Yk⟩
 ·obtain ⟨v,e1,p1⟩:=p.one
  obtain ⟨l,us,e2,h1,r1⟩:=p1.tup;cases e;exact .inl ⟨l,us,by rw [e1,e2],.inr h1,fun _=>by rw [Zv r1];exact q.here Yk⟩
 ·obtain ⟨v,e1,p1⟩:=p.one
  obtain ⟨e2,h1⟩:=p1.str;cases e;exact .inr ⟨_,by rw [e1,e2],h1.le,q.here Yk⟩
 ·cases e
def tupleD:List Dat->Option Dat
 | [.lst xs]=>some (.tup xs)
 | [.tup xs]=>some (.tup xs)
 | _=>none
theorem Vg:Rt X (.type "tuple") tupleD:=Kb.weak fun vs H Q zz=>by
 obtain ⟨A,ds,d,mu,e,p,q⟩:=zz;unfold tupleD at e;split at e
 ·obtain ⟨v,e1,p1⟩:=p.one
  obtain ⟨l,us,e2,h1,r1⟩:=p1.lst;cases e;exact ⟨l,us,by rw [e1,e2],.inl ⟨h1.sq,q.tup mu p1.lenL r1⟩⟩
 ·obtain ⟨v,e1,p1⟩:=p.one
  rcases p1 with p1 | ⟨_,_,_,z,_⟩ | ⟨_,_,_,z,_⟩ | ⟨_,_,z,_⟩
  ·obtain ⟨l,us,e2,h1,r1⟩:=Jl p1
   cases e;exact ⟨l,us,by rw [e1,e2],.inr ⟨Yy.seqT h1,by rw [← e2];exact q.here p1⟩⟩
  ·cases z
  ·cases z
  ·cases z
 ·cases e
def Tl:List Dat->Option (List Int)
 | []=>some []
 | .int i::r=>(Tl r).map (i::·)
 | _=>none
def Oy:List Dat->Option (List Bool)
 | []=>some []
 | .bl i::r=>(Oy r).map (i::·)
 | _=>none
theorem R6 (ns:List Int):Tl (ns.map .int)=some ns:=by
 induction ns with
 | nil=>rfl
 | cons n ns ih=>rw [map_cons,Tl,ih];rfl
theorem P9 (ns:List Bool):Oy (ns.map .bl)=some ns:=by
 induction ns with
 | nil=>rfl
 | cons n ns ih=>rw [map_cons,Oy,ih];rfl
theorem Td:∀ {ds:List Dat} {ns:List Int},Tl ds=some ns->ds=ns.map .int
 | [],_,h=>by cases h;rfl
 | d::ds,ns,h=>by
  cases d<;>try cases h
  rename_i i;rw [Tl] at h;cases e:Tl ds with
  | none=>rw [e] at h;cases h
  | some r=>rw [e] at h;cases h;rw [Td e];rfl
theorem Nl:∀ {ds:List Dat} {ns:List Bool},Oy ds=some ns->ds=ns.map .bl
 | [],_,h=>by cases h;rfl
 | d::ds,ns,h=>by
  cases d<;>try cases h
  rename_i i;rw [Oy] at h;cases e:Oy ds with
  | none=>rw [e] at h;cases h
  | some r=>rw [e] at h;cases h;rw [Nl e];rfl
theorem Wf {K:PySem.W.Frag} {H:Hp}:∀ {ns:List Int} {vs:List V},W8 K H (ns.map .int) vs->vs=ns.map .int
 | [],vs,h=>Yn h
 | n::ns,vs,h=>by obtain ⟨v,r,e,h1,h2⟩:=Y3 h;rw [e,Mo h1,Wf h2];rfl
theorem Rz {K:PySem.W.Frag} {H:Hp}:∀ {ns:List Bool} {vs:List V},W8 K H (ns.map .bl) vs->vs=ns.map .bl
 | [],vs,h=>Yn h
 | n::ns,vs,h=>by obtain ⟨v,r,e,h1,h2⟩:=Y3 h;rw [e,Ez h1,Rz h2];rfl
def Dm (ns:List Int):List Int:=ns.mergeSort (fun a b=>decide (a<=b))
theorem Ut (ns:List Int):(Dm ns).Perm ns:=List.mergeSort_perm ns _
theorem Dh (ns:List Int):(Dm ns).Pairwise (·<=·):=by
 have:=List.pairwise_mergeSort (le:=fun a b:Int=>decide (a<=b)) (by intro a b c h1 h2;simp only [decide_eq_true_eq] at *;lia) (by intro a b;simp only [Bool.or_eq_true,decide_eq_true_eq];lia) ns;exact this.imp fun h=>of_decide_eq_true h
theorem Qw:∀ {xs ys:List Int},xs.Perm ys->xs.Pairwise (·<=·)->ys.Pairwise (·<=·)->xs=ys
 | [],ys,p,_,_=>by rw [List.nil_perm.mp p]
 | x::xs,[],p,_,_=>by have:=p.length_eq;simp at this
 | x::xs,y::ys,p,h1,h2=>by
  have hx:=List.pairwise_cons.mp h1;have hy:=List.pairwise_cons.mp h2;have e:x=y:=by
   have m1:x∈y::ys:=p.mem_iff.mp mem_cons_self;have m2:y∈x::xs:=p.mem_iff.mpr mem_cons_self;rcases mem_cons.mp m1 with z | z
   ·exact z
   ·rcases mem_cons.mp m2 with w | w
    ·exact w.symm
    ·have a1:=hx.1 y w
     have a2:=hy.1 x z;lia
  subst e;rw [Qw (List.Perm.cons_inv p) hx.2 hy.2]
def B9:List Dat->Option (List Dat)
 | [.lst xs]=>(Tl xs).bind fun ns=>if ns.length<64 then some ((Dm ns).map .int) else none
 | _=>none
def Z1j:List Dat->Option Dat
 | [.lst xs]=>(Oy xs).map fun bs=>.bl (bs.all id)
 | _=>none
def Z1i:List Dat->Option Dat
 | [.lst xs]=>(Oy xs).map fun bs=>.bl (bs.any id)
 | _=>none
theorem map_some {α β:Type} {a:Option α} {g:α->β} {b:β} (h:a.map g=some b):∃ x,a=some x/\g x=b:=by
 cases a with
 | none=>cases h
 | some x=>cases h;exact ⟨x,rfl,rfl⟩
theorem Zcb (hc:X.calm=true):Rt X (.builtin "all") Z1j:=(Bw hc).weak fun vs H Q zz=>by
 obtain ⟨A,ds,d,mu,e,p,q⟩:=zz;unfold Z1j at e;split at e
 ·obtain ⟨v,e1,p1⟩:=p.one
  obtain ⟨l,us,e2,h1,r1⟩:=p1.lst;obtain ⟨bs,hb,e⟩:=map_some e;subst e;rw [Nl hb] at r1;have eu:=Rz r1;subst eu;exact ⟨l,bs,by rw [e1,e2],h1.sq,q.here Vd⟩
 ·cases e
theorem Zce (hc:X.calm=true):Rt X (.builtin "any") Z1i:=(Bq hc).weak fun vs H Q zz=>by
 obtain ⟨A,ds,d,mu,e,p,q⟩:=zz;unfold Z1i at e;split at e
 ·obtain ⟨v,e1,p1⟩:=p.one
  obtain ⟨l,us,e2,h1,r1⟩:=p1.lst;obtain ⟨bs,hb,e⟩:=map_some e;subst e;rw [Nl hb] at r1;have eu:=Rz r1;subst eu;exact ⟨l,bs,by rw [e1,e2],h1.sq,q.here Vd⟩
 ·cases e
def Z47:List Dat->Option Dat
 | [.int i]=>some (.int (if i<0 then -i else i))
 | _=>none
theorem Zc0:Rt X (.builtin "abs") Z47:=Z3j.weak fun vs H Q zz=>by
 obtain ⟨A,ds,d,mu,e,p,q⟩:=zz;unfold Z47 at e;split at e
 ·obtain ⟨v,e1,p1⟩:=p.one
  cases e;exact ⟨_,by rw [e1,p1.int],q.here Yk⟩
 ·cases e
def Pj:List Dat->Option Dat
 | [.int i,.int j]=>some (.int (if j > i then j else i))
 | _=>none
def N9:List Dat->Option Dat
 | [.int i,.int j]=>some (.int (if j<i then j else i))
 | _=>none
theorem Z3k (hc:X.calm=true):Rt X (.builtin "max") Pj:=(Z07 hc).weak fun vs H Q zz=>by
 obtain ⟨A,ds,d,mu,e,p,q⟩:=zz;unfold Pj at e;split at e
 ·obtain ⟨v,w,e1,p1,p2⟩:=p.two
  cases e;exact ⟨_,_,by rw [e1,p1.int,p2.int],q.here Yk⟩
 ·cases e
theorem Z3f (hc:X.calm=true):Rt X (.builtin "min") N9:=(Z0b hc).weak fun vs H Q zz=>by
 obtain ⟨A,ds,d,mu,e,p,q⟩:=zz;unfold N9 at e;split at e
 ·obtain ⟨v,w,e1,p1,p2⟩:=p.two
  cases e;exact ⟨_,_,by rw [e1,p1.int,p2.int],q.here Yk⟩
 ·cases e
def tyN:Dat->Option String
 | .non=>some "NoneType" | .bl _=>some "bool" | .int _=>some "int" | .str _=>some "str" | .tup _=>some "tuple" | .lst _=>some "list" | _=>none
def Z3r (T:String) (d:Dat):Option Bool:=(tyN d).bind fun t=>Z5g t T
def dI (T:String) (f:Ev->Option Dat):Ev->Option Dat:=fun env=>(f env).bind fun d=>(Z3r T d).map .bl
theorem Z92 {pins:List (Addr×Obj)} {σ:St} {H:Hp} {s:Shared} {A:Around} {E:Value->Shared->Prop} {Q:Value->Shared->Prop} {d:Dat} {v:V} {u:Value} {T t:String} {b:Bool} (I:Inv X pins σ H s) (r:Rp X.K H d v) (ru:Yg v u) (ht:tyN d=some t) (e:kitOne X.K (.type t) (.type T)=some b) (h:∀ tk,Q (.bool b) { s with toks:=tk }) :
  wpAny (model X.prog X.w) A (call (.builtin "isinstance") [u,.type T]) Q E s:=by
 cases d with
 | non=>cases ht;rw [K3 r] at ru;exact Mz I ru .non e h
 | bl y=>cases ht;rw [Ez r] at ru;exact Mz I ru (.bl y) e h
 | int y=>cases ht;rw [Mo r] at ru;exact Mz I ru (.int y) e h
 | str y=>cases ht;rw [(Gn r).1] at ru;exact Mz I ru (.str y) e h
 | tup ds =>
  cases ht;obtain ⟨a,vs,e1,h1,_⟩:=Jl r;subst e1;cases ru;obtain ⟨its,_,⟨o,ho,hc,_⟩,_⟩:=I.tuple h1;exact kia_one kitx_tuple I.kIn ⟨o,ho,hc⟩ e (fun z=>nomatch z) h
 | lst ds =>
  cases ht;obtain ⟨a,vs,e1,h1,_⟩:=Mj r;subst e1;cases ru;obtain ⟨its,n,_,ho,_⟩:=h1.get I;exact kia_one kitx_list I.kIn ⟨_,ho,rfl⟩ e (fun z=>nomatch z) h
 | dct _=>cases ht
 | exc _ _=>cases ht
theorem Zcu {e:Expr} {f:Ev->Option Dat} {T:String} {tx:Str} {p p2 pos:Pos} (he:W4 true X e f) (hg:Gl X "isinstance") (hm:X.mg "isinstance" = none) (hv:bootBuiltins "isinstance" = some (.builtin "isinstance")) (hgT:Gl X tx) (hmT:X.mg tx=none) (hvT:bootBuiltins tx=some (.type T)) (hnT:tx≠"__name__" := by decide) (hdT:(tx==("__debug__" : Str))=false:=by decide)
  (hs:starEach [e,.Name tx p2] X.env=(false,eval e X.env)::starEach [.Name tx p2] X.env:=by rfl):W4 m X (.Call (.Name "isinstance" p) [e,.Name tx p2] [] pos) (dI T f):=by
 have hc:Wn X (.builtin "isinstance") (fun vs H Q=>∃ v A d b,vs=[v,.ty T]/\Ud A H/\Z3r T d=some b/\Pk X.K A H d v/\Ti false X.K A H (.bl b) Q):=by
  intro pins s σ H xs us Q I r ⟨v,A,d,b,e1,mu,e2,p1,q⟩;subst e1;obtain ⟨u,w',rfl,ru,rw'⟩:=Aq r;cases rw';obtain ⟨t,ht,hk⟩:=bind_some e2;exact Z92 I p1.rp ru ht (Z9m hk) fun tk=>⟨.bl b,H,I.tok _,rfl,q.here Vd⟩
 refine W4.any ((Db hc hg hm hv (V7 he (V7 (Z9g hgT hmT hvT hnT hdT) Q8) hs) (he:=hs)).weak fun σ H Q ⟨env,R,A,d,k,q1,q2⟩=>?_);obtain ⟨x,e1,h⟩:=bind_some q1;obtain ⟨b,e2,h⟩:=map_some h;subst h;exact ⟨env,R,A,x,k,e1,fun v H1 s1 p1=>⟨v,A,x,b,rfl,k.mu.mono s1,e2,p1,q2.mono s1⟩⟩
end
def Adv (st:Bool) (A:AS) (H:Hp) (A1:AS) (H1:Hp):Prop:=match st with
 | true=>Step A H A1 H1
 | false=>A1=A/\Zp H H1
theorem Adv.step {st:Bool} {A A1:AS} {H H1:Hp} (h:Adv st A H A1 H1):Step A H A1 H1:=by
 cases st with
 | true=>exact h
 | false=>obtain ⟨rfl,h⟩:=h;exact Step.same h
def F7 (st:Bool) (K:PySem.W.Frag) (A:AS) (H:Hp) (ds:List Dat) (J:It):Prop:=∀ A1 H1,Adv st A H A1 H1->Ud A1 H1 ->
 (∀ (i:Nat) x,ds[i]?=some x->J.go i H1/\∀ v H2,J.yld i H1 v H2->Zp H1 H2/\Rp K (av H2 A1) x v)/\J.stop ds.length H1
def PId (st:Bool) (X:Cx) (tg iter:Expr) (src:Ev->Option (List Dat)):Prop:=PI X tg iter fun σ H R'=>∃ env R A ds,EnvOk X.K R A H σ env/\src env=some ds /\
 ∀ J H',ds.length<=sizeLine->Zp H H'->F7 st X.K A H' ds J->R' J H'
theorem PI.weak {X:Cx} {tg iter:Expr} {t t':TI} (h:PI X tg iter t) (w:∀ σ H Q,t' σ H Q->t σ H Q):PI X tg iter t':=fun pins s σ H Q I q=>h pins s σ H Q I (w σ H Q q)
section
variable {st m:Bool} {X:Cx} {tg l:Expr} {f:Ev->Option Dat} {fs:Ev->Option (List Dat)}
def Qi (f:Ev->Option Dat):Ev->Option (List Dat):=fun env=>match f env with
 | some (.lst xs)=>some xs
 | some (.tup xs)=>some xs
 | _=>none
theorem A3 {K:PySem.W.Frag} {A:AS} {H:Hp} {a:Addr} {vs:List V} {ds:List Dat} (h:∀ A1 H1,Adv st A H A1 H1->R1 K H1 a vs) (r:W8 K (av H A) ds vs):F7 st K A H ds (Itl K a):=fun A1 H1 adv _=>by
 have h1:=h A1 H1 adv;have r1:=r.mono adv.step.av;refine ⟨fun i x e=>?_,⟨vs,h1,le_of_eq (Zv r)⟩⟩;obtain ⟨v,e1,e2⟩:=Ri r1 e;refine ⟨⟨vs,v,h1,e1⟩,fun v' H2 ⟨e3,e4⟩=>?_⟩;subst e3;have:=e4 vs h1;rw [e1] at this;cases this;exact ⟨Zp.refl _,e2⟩
theorem Z2w {K:PySem.W.Frag} {A:AS} {H:Hp} {a:Addr} {vs:List V} {ds:List Dat} (h:∀ A1 H1,Adv st A H A1 H1->Mv K H1 a vs) (r:W8 K (av H A) ds vs):F7 st K A H ds (Itt K a):=fun A1 H1 adv _=>by
 have h1:=h A1 H1 adv;have r1:=r.mono adv.step.av;refine ⟨fun i x e=>?_,⟨vs,h1,le_of_eq (Zv r)⟩⟩;obtain ⟨v,e1,e2⟩:=Ri r1 e;refine ⟨⟨vs,v,h1,e1⟩,fun v' H2 ⟨e3,e4⟩=>?_⟩;subst e3;have:=e4 vs h1;rw [e1] at this;cases this;exact ⟨Zp.refl _,e2⟩
theorem Ij (h:W4 false X l f):PId st X tg l (Qi f):=(Z0p h).weak fun σ H R' zz=>by
 obtain ⟨env,R,A,ds,k,e,q⟩:=zz;unfold Qi at e;split at e
 ·rename_i xs e1
  cases e;refine .inl ⟨env,R,A,.lst ds,k,e1,fun v H1 s1 p1=>?_⟩;obtain ⟨a,vs,e2,h1,r1⟩:=Mj (show Rp X.K (av H1 A) (.lst ds) v from p1);subst e2;exact ⟨a,rfl,⟨vs,(Yy.sl h1).sq⟩,q _ H1 p1.pk.lenL s1 (A3 (vs:=vs) (fun A1 H2 adv=>(Yy.sl (adv.step.av.sl h1)).sq) r1)⟩
 ·rename_i xs e1
  cases e;refine .inr ⟨env,R,A,.tup ds,k,e1,fun v H1 s1 p1=>?_⟩;obtain ⟨a,vs,e2,h1,r1⟩:=Jl (show Rp X.K (av H1 A) (.tup ds) v from p1);subst e2;exact ⟨a,rfl,⟨vs,Yy.seqT h1⟩,q _ H1 p1.pk.lenT s1 (Z2w (vs:=vs) (fun A1 H2 adv=>Yy.seqT (adv.step.av.seqT h1)) r1)⟩
 ·cases e
theorem Iq (h:W4 true X l f):PId false X tg l (Qi f):=(Z0p h).weak fun σ H R' zz=>by
 obtain ⟨env,R,A,ds,k,e,q⟩:=zz;unfold Qi at e;split at e
 ·rename_i xs e1
  cases e;refine .inl ⟨env,R,A,.lst ds,k,e1,fun v H1 s1 p1=>?_⟩;obtain ⟨a,vs,e2,h1,r1⟩:=p1.pk.lst;subst e2;exact ⟨a,rfl,⟨vs,h1.sq⟩,q _ H1 p1.pk.lenL s1 (A3 (vs:=vs) (fun A1 H2 adv=>(adv.2.sl h1).sq) r1)⟩
 ·rename_i xs e1
  cases e;refine .inr ⟨env,R,A,.tup ds,k,e1,fun v H1 s1 p1=>?_⟩;obtain ⟨a,vs,e2,h1,r1⟩:=p1.pk.tup;subst e2;exact ⟨a,rfl,⟨vs,h1⟩,q _ H1 p1.pk.lenT s1 (Z2w (vs:=vs) (fun A1 H2 adv=>adv.2.seqT h1) r1)⟩
 ·cases e
def rng (lo:Int) (n:Nat):List Dat:=(List.range n).map fun (k:Nat)=>.int (lo+k)
theorem Uz {lo:Int} {n:Nat}:(rng lo n).length=n:=by simp [rng]
theorem Z24 {K:PySem.W.Frag} {A:AS} {H:Hp} {lo:Int} {n:Nat}:F7 st K A H (rng lo n) (Itr lo n):=fun A1 H1 adv _=>by
 refine ⟨fun i x e=>?_,by show n<=(rng lo n).length;simp [rng]⟩;unfold rng at e;rw [getElem?_map] at e;by_cases hi:i<n
 ·rw [getElem?_range hi] at e
  cases e;exact ⟨hi,fun v H2 ⟨e1,e2⟩=>by subst e1 e2;exact ⟨Zp.refl _,Yk⟩⟩
 ·rw [List.getElem?_eq_none (by simpa using hi)] at e
  cases e
def Te (fs:Ev->Option (List Dat)):Ev->Option (List Dat):=fun env=>match fs env with
 | some [.int j]=>if -(2^62)<=j/\j<2^62/\j.toNat<=sizeLine then some (rng 0 j.toNat) else none
 | _=>none
def Pi (fs:Ev->Option (List Dat)):Ev->Option (List Dat):=fun env=>match fs env with
 | some [.int i,.int j]=>if (-(2^62)<=i/\i<2^62/\-(2^62)<=j/\j<2^62)/\(j - i).toNat<=sizeLine then some (rng i (j - i).toNat) else none
 | _=>none
theorem Wl {a:Expr} {p pos:Pos} (hg:Gl X "range") (hm:X.mg "range" = none) (ha:Km true X [a] fs) (hs:starEach [a] X.env=[(false,eval a X.env)]:=by rfl):PId st X tg (.Call (.Name "range" p) [a] [] pos) (Te fs):=(Bo hg hm ha hs).weak fun σ H R' zz=>by
 obtain ⟨env,R,A,ds,k,e,q⟩:=zz;unfold Te at e;split at e
 ·rename_i j e1
  split at e
  ·rename_i hj
   cases e;refine ⟨env,R,A,_,k,e1,fun vs H1 s1 p1=>?_⟩;obtain ⟨v,e2,p2⟩:=p1.one;exact ⟨j,by rw [e2,p2.int],hj.1,hj.2.1,q _ H1 (by rw [Uz];exact hj.2.2) s1 Z24⟩
  ·cases e
 ·cases e
theorem Z35 {a b:Expr} {p pos:Pos} (hg:Gl X "range") (hm:X.mg "range" = none) (ha:Km true X [a,b] fs) (hs:starEach [a,b] X.env=[(false,eval a X.env),(false,eval b X.env)]:=by rfl) (hs2:starEach [b] X.env=[(false,eval b X.env)]:=by rfl):PId st X tg (.Call (.Name "range" p) [a,b] [] pos) (Pi fs):=(Z05 hg hm ha hs hs2).weak fun σ H R' zz=>by
 obtain ⟨env,R,A,ds,k,e,q⟩:=zz;unfold Pi at e;split at e
 ·rename_i i j e1
  split at e
  ·rename_i hj
   cases e;refine ⟨env,R,A,_,k,e1,fun vs H1 s1 p1=>?_⟩;obtain ⟨v,w,e2,p2,p3⟩:=p1.two;exact ⟨i,j,by rw [e2,p2.int,p3.int],hj.1,q _ H1 (by rw [Uz];exact hj.2) s1 Z24⟩
  ·cases e
 ·cases e
end
def Eh (is:List Nat) (σ σ':St):Prop:=σ'.length=σ.length/\∀ j,j∉is->σ'[j]?=σ[j]?
def PGd (is:List Nat) (X:Cx) (tg:Expr) (g:Dat->Ev->Option Ev):Prop:=PG X tg fun v σ H Q=>∃ env R A d env',EnvOk X.K R A H σ env/\Rp X.K (av H A) d v/\g d env=some env'/\∀ σ',EnvOk X.K R A H σ' env'->Eh is σ σ'->Q σ' H
def Z4k (is:List Nat) (X:Cx) (tgs:List Expr) (g:List Dat->Ev->Option Ev):Prop:=PGs X tgs fun vs σ H Q=>∃ env R A ds env',EnvOk X.K R A H σ env/\W8 X.K (av H A) ds vs/\g ds env=some env'/\∀ σ',EnvOk X.K R A H σ' env'->Eh is σ σ'->Q σ' H
theorem EnvOk.put {K:PySem.W.Frag} {B:Bs} {A:AS} {H:Hp} {σ:St} {env:Ev} (k:EnvOk K B A H σ env) (i:Nat) {d:Dat} {v:V} (r:Rp K (av H A) d v):EnvOk K B A H (σ.set i (some v)) (env.set i (.fz d)):=by
 obtain ⟨own,h1,h2,h4⟩:=k.sl;refine ⟨k.h0,k.r0,k.ra,k.ar,k.mu,by rw [length_set,length_set];exact k.len,fun hs j d'=>?_,fun j a=>j≠i/\own j a,fun j j' a q q'=>h1 j j' a q.2 q'.2,fun j a q=>h2 j a q.2,fun j s e=>?_⟩
 ·rw [getElem?_set]
  split
  ·split
   ·intro z;cases z
   ·intro z;cases z
  ·exact k.np hs j d'
 by_cases hj:i=j
 ·subst hj
  rw [getElem?_set] at e;rw [if_pos rfl] at e;split at e
  ·rename_i hl
   cases e;refine ⟨some v,?_,v,rfl,r⟩;rw [getElem?_set,if_pos rfl,if_pos (by rw [k.len];exact hl)]
  ·cases e
 ·rw [getElem?_set,if_neg hj] at e
  obtain ⟨x,q1,q2⟩:=h4 j s e;refine ⟨x,by rw [getElem?_set,if_neg hj];exact q1,?_⟩;cases s with
  | un=>trivial
  | fz d=>exact q2
  | pk d=>exact q2
  | ow ds=>obtain ⟨a,vs,e1,e2,e3⟩:=q2;exact ⟨a,vs,e1,⟨Ne.symm hj,e2⟩,e3⟩
  | gx g=>obtain ⟨v,e1,e2⟩:=q2;exact ⟨v,e1,e2.frame (fun _ z=>⟨Ne.symm hj,z⟩) (fun _ _ _ z=>z) (Zp.refl _)⟩
theorem PG.weak {X:Cx} {e:Expr} {t t':TG} (h:PG X e t) (w:∀ v σ H Q,t' v σ H Q->t v σ H Q):PG X e t':=fun pins s σ H v u Q I r q=>h pins s σ H v u Q I r (w _ _ _ _ q)
theorem PGs.weak {X:Cx} {e:List Expr} {t t':TGs} (h:PGs X e t) (w:∀ v σ H Q,t' v σ H Q->t v σ H Q):PGs X e t':=fun pins s σ H v u Q I r q=>h pins s σ H v u Q I r (w _ _ _ _ q)
section
variable {X:Cx} {pos:Pos}
def Yj (i:Nat):Dat->Ev->Option Ev:=fun d env=>some (env.set i (.fz d))
theorem C8 {σ:St} {i:Nat} {v:Option V}:Eh [i] σ (σ.set i v):=⟨by rw [length_set],fun j hj=>by rw [getElem?_set,if_neg (by intro e;exact hj (by simp [e]))]⟩
theorem Zu (i:Nat) {x:Str} (hN:X.N.Nodup) (hi:X.N[i]?=some x) (hx:Fj X.env.scope x) (hf:X.fn x=true\/X.env.scope.names.lookup x=some .local:=by first | exact .inl rfl | exact .inr rfl | assumption):PGd [i] X (.Name x pos) (Yj i):=(Z5u hN hi hx hf).weak fun v σ H Q zz=>by
 obtain ⟨env,R,A,d,env',k,r,e,q⟩:=zz;cases e;exact q _ (k.put i r) C8
def Ru:List Dat->Ev->Option Ev:=fun ds env=>match ds with
 | []=>some env
 | _=>none
def Wb (g:Dat->Ev->Option Ev) (gs:List Dat->Ev->Option Ev):List Dat->Ev->Option Ev:=fun ds env=>match ds with
 | d::ds=>(g d env).bind fun env'=>gs ds env'
 | _=>none
theorem Mp:Z4k [] X [] Ru:=Z44.weak fun vs σ H Q zz=>by
 obtain ⟨env,R,A,ds,env',k,r,e,q⟩:=zz;unfold Ru at e;split at e
 ·cases e
  exact ⟨Yn r,q σ k ⟨rfl,fun _ _=>rfl⟩⟩
 ·cases e
theorem Yz {e:Expr} {es:List Expr} {is js:List Nat} {g:Dat->Ev->Option Ev} {gs:List Dat->Ev->Option Ev} (h1:PGd is X e g) (h2:Z4k js X es gs)
  (hs:(assignEach (e::es) X.env).map (·.2)=assign e X.env::(assignEach es X.env).map (·.2):=by rfl):Z4k (is++js) X (e::es) (Wb g gs):=(Z0t h1 h2 hs).weak fun vs σ H Q zz=>by
 obtain ⟨env,R,A,ds,env',k,r,e,q⟩:=zz;unfold Wb at e;split at e
 ·rename_i d ds'
  obtain ⟨env1,e1,e2⟩:=bind_some e;obtain ⟨v,us,ev,r1,r2⟩:=Y3 r;refine ⟨v,us,ev,env,R,A,d,env1,k,r1,e1,fun σ1 k1 a1=>⟨env1,R,A,ds',env',k1,r2,e2,fun σ2 k2 a2=>q σ2 k2 ⟨by rw [a2.1,a1.1],fun j hj=>?_⟩⟩⟩;rw [mem_append,not_or] at hj;rw [a2.2 j hj.2,a1.2 j hj.1]
 ·cases e
end
def Uv (fs:List (Option Nat)) (env:Ev):Ev:=fs.map fun o=>match o with
 | none=>.un
 | some j=>match env[j]? with
  | some (.fz d)=>.fz d
  | some (.pk d)=>.pk d
  | some (.ow ds)=>.pk (.lst ds)
  | _=>.un
theorem EnvOk.inn {K:PySem.W.Frag} {B:Bs} {A:AS} {H:Hp} {σ:St} {env:Ev} (k:EnvOk K B A H σ env) (fs:List (Option Nat)):EnvOk K ⟨H,A,false⟩ A H (Vf fs σ) (Uv fs env):=by
 obtain ⟨own,h1,h2,h4⟩:=k.sl;refine ⟨Zp.refl H,fun a h=>?_,fun _ h=>h,fun _ h=>.inl h,k.mu,by simp [Vf,Uv],fun z=>(by cases z),fun _ _=>False,fun _ _ _ h=>h.elim,fun _ _ h=>h.elim,fun i s e=>?_⟩
 ·have:=k.mu a h
  cases q:H a with
  | none=>rw [q] at this;exact this.elim
  | some o=>exact ⟨o,q⟩
 ·unfold Uv at e
  rw [getElem?_map] at e;unfold Vf;rw [getElem?_map];cases hf:fs[i]? with
  | none=>rw [hf] at e;cases e
  | some o =>
   rw [hf] at e;cases o with
   | none=>cases e;exact ⟨_,rfl,trivial⟩
   | some j =>
    simp only [Option.map_some,Option.some.injEq] at e ⊢;refine ⟨_,rfl,?_⟩;split at e
    ·rename_i d hd
     obtain ⟨x,q1,q2⟩:=h4 j _ hd;subst e;rw [q1];exact q2
    ·rename_i d hd
     obtain ⟨x,q1,q2⟩:=h4 j _ hd;subst e;rw [q1];exact q2
    ·rename_i ds hd
     obtain ⟨x,q1,a,vs,e1,_,hz,e3,e4⟩:=h4 j _ hd;subst e;rw [q1];exact ⟨.ref a,e1,.inr (.inl ⟨a,vs,ds,rfl,rfl,hz,e3,e4⟩)⟩
    ·subst e;trivial
def Vc (g:Dat->Ev->Option Ev) (t:Ev->Option Bool) (f:Ev->Option Dat) (env:Ev):List Dat->Option (List Dat)
 | []=>some []
 | x::xs=>(g x env).bind fun env1=>(t env1).bind fun b=>if b=true then (f env1).bind fun y=>(Vc g t f env xs).map (y::·) else Vc g t f env xs
def Qk (src:Ev->Option (List Dat)) (fs:List (Option Nat)) (g:Dat->Ev->Option Ev) (t:Ev->Option Bool) (f:Ev->Option Dat):Ev->Option (List Dat):=fun env=>(src env).bind fun ds=>Vc g t f (Uv fs env) ds
theorem E4 {g:Dat->Ev->Option Ev} {t:Ev->Option Bool} {f:Ev->Option Dat} {env:Ev}:∀ {xs ys:List Dat},Vc g t f env xs=some ys->ys.length<=xs.length
 | [],ys,h=>by cases h;exact le_refl _
 | x::xs,ys,h=>by
  rw [Vc] at h;obtain ⟨env1,e1,h⟩:=bind_some h;obtain ⟨b,e2,h⟩:=bind_some h;split at h
  ·obtain ⟨y,e3,h⟩:=bind_some h
   obtain ⟨zs,e4,h⟩:=map_some h;subst h;exact Nat.succ_le_succ (E4 e4)
  ·exact Nat.le_succ_of_le (E4 h)
def PFd (X:Cx) (ifs:List Expr) (t:Ev->Option Bool):Prop:=PIf X ifs fun σ H Q=>∃ env R A b,EnvOk X.K R A H σ env/\t env=some b/\∀ H',Zp H H'->Q b H'
def M6:Ev->Option Bool:=fun _=>some true
theorem PIf.weak {X:Cx} {e:List Expr} {t t':TT} (h:PIf X e t) (w:∀ σ H Q,t' σ H Q->t σ H Q):PIf X e t':=fun pins s σ H Q I q=>h pins s σ H Q I (w σ H Q q)
theorem Lm {X:Cx}:PFd X [] M6:=(Z46 (Y:=X)).weak fun σ H Q ⟨env,R,A,b,k,e,q⟩=>by cases e;exact q H (Zp.refl H)
theorem Ln {X:Cx} {c:Expr} {t:Ev->Option Bool} (h:Aw X c t):PFd X [c] t:=Z52 h
section
variable {X:Cx} {sc:Scope}
theorem Be {J:It} {fs:List (Option Nat)} {is:List Nat} {g:Dat->Ev->Option Ev} {t:Ev->Option Bool} {f:Ev->Option Dat} {σ:St} {H1:Hp} {Q:VK} {K:PySem.W.Frag} {A:AS} {B:Bs} {env:Ev} {ds ys:List Dat}
  (hfs:∀ i∈is,fs[i]?=some none) (k:EnvOk K B A H1 σ env) (hJ:F7 false K A H1 ds J) (hz:ds.length<=sizeLine) (hc:Vc g t f (Uv fs env) ds=some ys) (q:K9 K A H1 ys Q) :
  ∃ W:Nat->Nat->List V->Hp->Prop,(∃ m,W 0 m [] H1)/\∀ i m zs H,W i m zs H ->
   (J.stop i H/\zs.length<=sizeLine/\∀ p,H p=none->Q (.ref p) (W6 H p (.lst zs))) \/
   (J.go i H/\zs.length<=sizeLine/\∃ N:List V->Hp->Prop,(∀ ys' H',N ys' H'->∃ m',m'<m/\W (i+1) m' ys' H')/\∀ x H',J.yld i H x H'->(∃ env R A d env',EnvOk K R A H' (Vf fs σ) env/\Rp K (av H' A) d x/\g d env=some env'/\∀ σ',EnvOk K R A H' σ' env'->Eh is (Vf fs σ) σ' ->
    (Ext (Vf fs σ) σ'/\∃ env R A b,EnvOk K R A H' σ' env/\t env=some b/\∀ H3,Zp H' H3->if b=true then ∃ env R A d,EnvOk K R A H3 σ' env/\f env=some d/\Ti false K A H3 d (fun v H4=>N (zs++[v]) H4) else N zs H3))):=by
 have hl:=E4 hc;refine ⟨fun i m zs H=>m=ds.length - i/\i<=ds.length/\Zp H1 H/\∃ us rest,Vc g t f (Uv fs env) (ds.drop i)=some rest/\us++rest=ys/\W8 K (av H A) us zs,
  ⟨ds.length,by simp,zero_le _,Zp.refl _,[],ys,by simpa using hc,rfl,Vl⟩,?_⟩
 rintro i m zs H ⟨rfl,hi,s1,us,rest,e1,e2,r⟩;have hzs:zs.length<=sizeLine:=by
  rw [Zv r];have:us.length<=ys.length:=by rw [← e2,length_append];lia
  lia
 obtain ⟨hgo,hstop⟩:=hJ A H ⟨rfl,s1⟩ (k.mono s1).mu;by_cases hlt:i<ds.length
 ·have hx:ds[i]?=some ds[i]:=by simp [hlt]
  obtain ⟨go,yl⟩:=hgo i _ hx;rw [List.drop_eq_getElem_cons hlt,Vc] at e1;obtain ⟨env1,b1,e1⟩:=bind_some e1;obtain ⟨b,b2,e1⟩:=bind_some e1;refine .inr ⟨go,hzs,fun zs' H'=>i+1<=ds.length/\Zp H1 H'/\∃ us rest,Vc g t f (Uv fs env) (ds.drop (i+1))=some rest/\us++rest=ys/\W8 K (av H' A) us zs',
   fun zs' H' h=>⟨ds.length - (i+1),by lia,rfl,h⟩,fun x H' hy=>?_⟩
  obtain ⟨s2,rx⟩:=yl x H' hy;refine ⟨Uv fs env,⟨H1,A,false⟩,A,ds[i],env1,(k.inn fs).mono (s1.trans s2),rx,b1,fun σ' k' ag=>⟨⟨ag.1.symm,fun j v ej=>?_⟩,env1,⟨H1,A,false⟩,A,b,k',b2,fun H3 s3=>?_⟩⟩
  ·have hj:j∉is:=fun hj=>by
    have:=hfs j hj;unfold Vf at ej;rw [getElem?_map,this] at ej;cases ej
   rw [ag.2 j hj];exact ej
  ·cases b with
   | true =>
    rw [if_pos rfl] at e1 ⊢;obtain ⟨y,b3,e1⟩:=bind_some e1;obtain ⟨rest',b4,e1⟩:=map_some e1;subst e1;refine ⟨env1,⟨H1,A,false⟩,A,y,k'.mono s3,b3,fun v H4 s4 rv=>⟨hlt,((s1.trans s2).trans s3).trans s4,us++[y],rest',b4,by rw [List.append_assoc];exact e2,Ww (r.mono (V6 ((s2.trans s3).trans s4))) (Qr rv)⟩⟩
   | false =>
    rw [if_neg Bool.false_ne_true] at e1 ⊢;exact ⟨hlt,(s1.trans s2).trans s3,us,rest,e1,e2,r.mono (V6 (s2.trans s3))⟩
 ·have e:i=ds.length:=by lia
  subst e;rw [List.drop_length,Vc] at e1;cases e1;rw [append_nil] at e2;subst e2;exact .inl ⟨hstop,hzs,(q.mono s1).at (by lia) r⟩
variable {elt tg iter:Expr} {ifs:List Expr} {pos:Pos} {src:Ev->Option (List Dat)} {is:List Nat} {g:Dat->Ev->Option Ev} {t:Ev->Option Bool} {f:Ev->Option Dat}
theorem Ms (psc:Scope) (fs:List (Option Nat)) (N:List Str) (hp:X.env.scope=psc) (S:CompOk psc sc X.N N fs) (hc:X.calm=true) (hi:PId false X tg iter src)
  (hb:∀ (C:Addr) (s:Shared) (H:Hp) (fp:List Addr),PGd is (Wr X sc N C s H fp) tg g/\PFd (Wr X sc N C s H fp) ifs t/\W4 false (Wr X sc N C s H fp) elt f)
  (hfs:∀ i∈is,fs[i]?=some none) (hs:∀ x,foldedSetIterable iter X.env x=pure x:=by intro _;rfl):PNd X (.ListComp elt [⟨tg,iter,ifs,0⟩] sc pos) (Qk src fs g t f):=by
 refine PE.weak (Z45 (g:=fun v σ H Q=>∃ env R A d env',EnvOk X.K R A H σ env/\Rp X.K (av H A) d v/\g d env=some env'/\∀ σ',EnvOk X.K R A H σ' env'->Eh is σ σ'->Q σ' H) (tt:=fun σ H Q=>∃ env R A b,EnvOk X.K R A H σ env/\t env=some b/\∀ H',Zp H H'->Q b H') (te:=fun σ H Q=>∃ env R A d,EnvOk X.K R A H σ env/\f env=some d/\Ti false X.K A H d Q) psc fs N hp S hc hi hb hs) fun σ H Q ⟨env,R,A,ys,k,e,q⟩=>?_
 obtain ⟨ds,e1,e2⟩:=bind_some e;exact ⟨env,R,A,ds,k,e1,fun J H1 hz s1 hJ=>Be hfs (k.mono s1) hJ hz e2 (q.mono s1)⟩
end
def Do (h base:Heap) (e T:Addr) (cls:Value×Option Value) (dct:Option Addr) (fl:Value):Prop :=
 ∃ oe vs oT ts,h.get? e=some oe/\(oe.cls,vs[2]?)=cls/\oe.dict=dct/\oe.data=.fields vs/\vs[1]?=some (.ref T)/\base.get? T=none/\T≠e/\h.get? T=some oT/\oT.data=.fields ts/\ts[3]?=some fl
def Iu (l:List Env) (ch:List Addr) (h h':Heap):Prop:=∀ b o,h.get? b=some o->b∉ch->(b∉Rk l->h'.get? b=some o)/\∃ sl,h'.get? b=some { o with slots:=sl }
theorem Iu.of {l:List Env} {ch:List Addr} {h h1:Heap} (a:∀ b o,h.get? b=some o->b∉ch->h1.get? b=some o):Iu l ch h h1:=fun c o q hc=>⟨fun _=>a c o q hc,o.slots,a c o q hc⟩
theorem Hl (f:Array Value->Array Value) (o:Obj):(Obj.mapFields f o).dict=o.dict:=by
 unfold Obj.mapFields;split<;>rfl
section
variable {M:Model} {A:Around} {E:Value->Shared->Prop} {s:Shared}
theorem Z2f {base:Heap} {env:Env} {outer:List Env} {L e:Addr} {oe:Obj} {vs:Array Value} {head:Value} {hadNext:Bool} {Q:Unit->Shared->Prop}
   (hfr:A.frames=some (env::outer)) (hl:s.heap.FunFrames base (env::outer)) (hf:env.frame=some L)
   (he:s.heap.get? e=some oe) (hkb:base.StaysIn s.heap) (hen:base.get? e=none) (hd:oe.data=.fields vs) (hsz:1<vs.size)
   (h:∀ h' T,s.heap.objs.size<=T->base.StaysIn h'->h'.FunFrames base (env::outer)->Do h' base e T (oe.cls,vs[2]?) oe.dict (rawInt L)->Iu (env::outer) [e] s.heap h'->s.heap.objs.size<=h'.objs.size->Q () { s with heap:=h' }) :
   wpAny M A (do let a ← frameOf env;let pl ← entryPlaceOf L hadNext;let b ← EntryCells.newEntry head a .none (rawInt L) .none pl;setField (.ref e) 1 b) Q E s:=by
 have hene:e∉(env::outer).filterMap (·.frame):=fun hm=>by
   obtain ⟨_,o,ho,hnf⟩:=hl.mem hm;rw [he] at ho;injection ho with ho;subst ho;exact hnf vs hd
 refine wpAny_bind (wpAny_frameOf_fun hfr hl hf fun h₁ hs₁=>?_);refine wpAny_bind (wpAny_entryPlaceOf fun pl hpl=>?_);unfold EntryCells.newEntry newFields;refine wpAny_bind (wpAny_newObj_type ?_ (hpl.sizeOk5 _ _ _ _ _));have he₁:h₁.get? e=some oe:=(hs₁.2.1 e hene).trans he;have kb₁:base.StaysIn h₁:=fun b o hbo=>(hs₁.2.1 b fun hm=>by rw [(hl.mem hm).1] at hbo;cases hbo).trans (hkb b o hbo)
 have he₂:=get?_push_of_some (h:=h₁) { cls:=.type "traceback",dict:=none,data:=.fields ([head,.ref L,.none,rawInt L,.none]++(if pl.isEmpty then List.replicate 6 Value.none else pl)).toArray } he₁;have hlow:s.heap.objs.size<=h₁.objs.size:=le_of_eq hs₁.1.symm;have hTe:h₁.objs.size≠e:=Nat.ne_of_gt (lt_size he₁);have hd₃:=Obj.data_mapFields hd (·.setIfInBounds 1 (Value.ref h₁.objs.size));have he₃:=get?_update_self (Obj.mapFields (·.setIfInBounds 1 (Value.ref h₁.objs.size))) he₂ (Obj.isFreed_of_fields hd₃);have hT₃:=(get?_update_other (h₁.push { cls:=.type "traceback",dict:=none,data:=.fields ([head,.ref L,.none,rawInt L,.none]++(if pl.isEmpty then List.replicate 6 Value.none else pl)).toArray })
   (Obj.mapFields (·.setIfInBounds 1 (Value.ref h₁.objs.size))) (Ne.symm hTe)).trans (get?_push_size h₁ rfl)
 have keep:∀ b o,b≠e->h₁.get? b=some o ->
     ((h₁.push { cls:=.type "traceback",dict:=none,data:=.fields ([head,.ref L,.none,rawInt L,.none]++(if pl.isEmpty then List.replicate 6 Value.none else pl)).toArray }).update e (Obj.mapFields (·.setIfInBounds 1 (Value.ref h₁.objs.size)))).get? b=some o :=
   fun b o hbe hb=>by
     rw [get?_update_other _ _ (Ne.symm hbe)];exact get?_push_of_some _ hb
 refine wpAny_setField he₂ hd hsz (h _ h₁.objs.size hlow ?_ ?_ ?_ ?_ ?_)
 · exact fun b o hbo=>keep b o (fun q=>by rw [q,hen] at hbo;cases hbo) (kb₁ b o hbo)
 · refine hl.of_keeps fun b o hb hnf=>?_
   obtain ⟨sl,hs⟩:=hs₁.2.2 b o hb;have hbe:b≠e:=fun q=>by rw [q,he] at hb;injection hb with hb;subst hb;exact hnf vs hd
   exact ⟨_,keep b _ hbe hs,rfl⟩
 · exact ⟨_,_,_,_,he₃,by rw [Obj.cls_mapFields];simp [Array.getElem?_setIfInBounds],Hl _ _,hd₃,by simp [hsz],kb₁.fresh,hTe,hT₃,rfl,by first | (simp;done) | (rcases hpl with rfl | ⟨_,_,_,_,_,_,_,rfl⟩<;>simp)⟩
 · intro b o hb hbe
   have hbe':b≠e:=fun z=>hbe (by simp [z])
   obtain ⟨sl,hs⟩:=hs₁.2.2 b o hb;exact ⟨fun hfr'=>keep b o hbe' ((hs₁.2.1 b hfr').trans hb),sl,keep b _ hbe' hs⟩
 · rw [size_update,size_push];exact Nat.le_succ_of_le hlow
theorem Er {base:Heap} {l:List Env} {e T:Addr} {cls:Value×Option Value} {dct:Option Addr} {fl:Value} {Q:Unit->Shared->Prop}
  (hkb:base.StaysIn s.heap) (hl:s.heap.FunFrames base l) (ht:Do s.heap base e T cls dct fl)
  (h:∀ h',base.StaysIn h'->h'.FunFrames base l->Do h' base e T cls dct .none->(∀ b o,s.heap.get? b=some o->b∉[T]->h'.get? b=some o)->h'.objs.size=s.heap.objs.size->Q () { s with heap:=h' }) :
  wpAny M A (setFlight (.ref e) none) Q E s:=by
 obtain ⟨oe,vs,oT,ts,he,hcls,hdct,hd,h1,hnT,hTe,hT,hdT,h3⟩:=ht;have hsz3:3<ts.size:=(Array.getElem?_eq_some_iff.mp h3).1;have other:∀ b,b≠T->(s.heap.update T (Obj.mapFields (·.setIfInBounds 3 ((none:Option Addr).elim Value.none fun f=>rawInt f)))).get? b=s.heap.get? b :=
  fun b hb=>get?_update_other _ _ (Ne.symm hb)
 have noRecord:∀ b o,s.heap.get? b=some o->(∀ vs,o.data≠.fields vs)->b≠T:=fun b o hb hnf q=>by
  rw [q,hT] at hb;injection hb with hb;subst hb;exact hnf ts hdT
 unfold setFlight;refine wpAny_bind (wpAny_field he hd h1 ?_);rw [if_pos (show (Value.ref T != Value.none)=true from by simp)];refine wpAny_setField hT hdT hsz3 (h _ (fun b o hbo=>(other b fun q=>by rw [q,hnT] at hbo;cases hbo).trans (hkb b o hbo))
  (hl.of_keeps fun b o hb hnf=>⟨o,(other b (noRecord b o hb hnf)).trans hb,rfl⟩) ?_ (fun b o hb hnf=>(other b (fun z=>hnf (by simp [z]))).trans hb) (size_update ..))
 exact ⟨oe,vs,_,_,(other e (Ne.symm hTe)).trans he,hcls,hdct,hd,h1,hnT,hTe,get?_update_self _ hT (Obj.isFreed_of_fields (Obj.data_mapFields hdT _)),Obj.data_mapFields hdT _,by simp [hsz3]⟩
theorem Fu {base:Heap} {env:Env} {outer:List Env} {L e T:Addr} {cls:Value×Option Value} {dct:Option Addr} {Q:Unit->Shared->Prop}
  (hfr:A.frames=some (env::outer)) (hl:s.heap.FunFrames base (env::outer)) (hf:env.frame=some L) (ht:Do s.heap base e T cls dct .none) (hkb:base.StaysIn s.heap) (hen:base.get? e=none)
  (h:∀ h' T',s.heap.objs.size<=T'->base.StaysIn h'->h'.FunFrames base (env::outer)->Do h' base e T' cls dct (rawInt L)->Iu (env::outer) [e,T] s.heap h'->s.heap.objs.size<=h'.objs.size->Q () { s with heap:=h' }):wpAny M A (noteFrame (.ref e) env) Q E s:=by
 obtain ⟨oe,vs,oT,ts,he,hcls,hdct,hd,h1,hnT,hTe,hT,hdT,h3⟩:=ht;subst hcls hdct;unfold noteFrame;simp only [hf];refine wpAny_bind (wpAny_field he hd h1 ?_);rw [if_pos (show (Value.ref T != Value.none)=true from by simp)];refine wpAny_bind (wpAny_field hT hdT h3 ?_);rw [if_neg (show ¬ ((Value.none==rawInt L)=true) from by simp [rawInt])];refine wpAny_bind (wpAny_setField hT hdT (Array.getElem?_eq_some_iff.mp h3).1 ?_);have other:∀ b,b≠T->(s.heap.update T (Obj.mapFields (·.setIfInBounds 3 Value.none))).get? b=s.heap.get? b:=fun b hb=>get?_update_other _ _ (Ne.symm hb)
 have noRecord:∀ b o,s.heap.get? b=some o->(∀ vs,o.data≠.fields vs)->b≠T:=fun b o hb hnf q=>by
  rw [q,hT] at hb;injection hb with hb;subst hb;exact hnf ts hdT
 have hsz:(s.heap.update T (Obj.mapFields (·.setIfInBounds 3 Value.none))).objs.size=s.heap.objs.size:=size_update ..;refine Z2f (s:={ s with heap:=s.heap.update T (Obj.mapFields (·.setIfInBounds 3 Value.none)) }) hfr (hl.of_keeps fun b o hb hnf=>⟨o,(other b (noRecord b o hb hnf)).trans hb,rfl⟩) hf ((other e (Ne.symm hTe)).trans he)
  (fun b o hbo=>(other b fun q=>by rw [q,hnT] at hbo;cases hbo).trans (hkb b o hbo)) hen hd (Array.getElem?_eq_some_iff.mp h1).1
  fun h' T' x0 x1 x2 x3 x4 x5=>h h' T' (by rw [← hsz];exact x0) x1 x2 x3 (fun b o hb hc=>?_) (by rw [← hsz];exact x5)
 have hbT:b≠T:=fun z=>hc (by simp [z])
 exact x4 b o ((other b hbT).trans hb) (fun z=>hc (by simp at z;simp [z]))
theorem Qp {base:Heap} {env:Env} {outer:List Env} {L e:Addr} {oe:Obj} {vs:Array Value} {Q:Unit->Shared->Prop}
  (hfr:A.frames=some (env::outer)) (hl:s.heap.FunFrames base (env::outer)) (hf:env.frame=some L)
  (he:s.heap.get? e=some oe) (hkb:base.StaysIn s.heap) (hen:base.get? e=none) (hd:oe.data=.fields vs) (h1:vs[1]?=some .none)
  (h:∀ h' T',s.heap.objs.size<=T'->base.StaysIn h'->h'.FunFrames base (env::outer)->Do h' base e T' (oe.cls,vs[2]?) oe.dict (rawInt L)->Iu (env::outer) [e] s.heap h'->s.heap.objs.size<=h'.objs.size->Q () { s with heap:=h' }):wpAny M A (noteFrame (.ref e) env) Q E s:=by
 unfold noteFrame;simp only [hf];refine wpAny_bind (wpAny_field he hd h1 ?_);rw [if_neg (by decide)];exact Z2f hfr hl hf he hkb hen hd (Array.getElem?_eq_some_iff.mp h1).1 h
theorem Nj {base:Heap} {env:Env} {outer:List Env} {L e:Addr} {oe:Obj} {vs:Array Value} {Q:Unit->Shared->Prop}
  (hfr:A.frames=some (env::outer)) (hl:s.heap.FunFrames base (env::outer)) (hf:env.frame=some L)
  (he:s.heap.get? e=some oe) (hkb:base.StaysIn s.heap) (hen:base.get? e=none) (hd:oe.data=.fields vs) (h1:vs[1]?=some .none)
  (h:∀ h' T',s.heap.objs.size<=T'->base.StaysIn h'->h'.FunFrames base (env::outer)->Do h' base e T' (oe.cls,vs[2]?) oe.dict .none->Iu (env::outer) [e] s.heap h'->Q () { s with heap:=h' }):wpAny M A (leaving env (.ref e)) Q E s:=by
 unfold leaving;refine wpAny_bind (Qp hfr hl hf he hkb hen hd h1 fun h' T' x0 x1 x2 x3 x4 x5=>?_);refine Er (s:={ s with heap:=h' }) x1 x2 x3 fun h2 y1 y2 y3 y4 y5=>h h2 T' x0 y1 y2 y3 (fun b o hb hc=>?_)
 obtain ⟨k1,sl,k2⟩:=x4 b o hb hc;have hbT:b∉[T']:=fun z=>by
  have e1:b=T':=by simpa using z
  have e2:=lt_size hb;rw [e1] at e2;exact absurd (lt_of_lt_of_le e2 x0) (lt_irrefl _)
 exact ⟨fun hfr'=>y4 b o (k1 hfr') hbT,sl,y4 b _ k2 hbT⟩
theorem Z98 {base:Heap} {env:Env} {outer:List Env} {L e T:Addr} {cls:Value×Option Value} {dct:Option Addr} {Q:Unit->Shared->Prop}
  (hfr:A.frames=some (env::outer)) (hl:s.heap.FunFrames base (env::outer)) (hf:env.frame=some L) (ht:Do s.heap base e T cls dct .none) (hkb:base.StaysIn s.heap) (hen:base.get? e=none)
  (h:∀ h' T',s.heap.objs.size<=T'->base.StaysIn h'->h'.FunFrames base (env::outer)->Do h' base e T' cls dct .none->Iu (env::outer) [e,T] s.heap h'->Q () { s with heap:=h' }):wpAny M A (leaving env (.ref e)) Q E s:=by
 unfold leaving;refine wpAny_bind (Fu hfr hl hf ht hkb hen fun h' T' x0 x1 x2 x3 x4 x5=>?_);refine Er (s:={ s with heap:=h' }) x1 x2 x3 fun h2 y1 y2 y3 y4 y5=>h h2 T' x0 y1 y2 y3 (fun b o hb hc=>?_)
 obtain ⟨k1,sl,k2⟩:=x4 b o hb hc;have hbT:b∉[T']:=fun z=>by
  have e1:b=T':=by simpa using z
  have e2:=lt_size hb;rw [e1] at e2;exact absurd (lt_of_lt_of_le e2 x0) (lt_irrefl _)
 exact ⟨fun hfr'=>y4 b o (k1 hfr') hbT,sl,y4 b _ k2 hbT⟩
end
inductive Fl where
 | next (env:Ev) | ret (d:Dat) | brk (env:Ev) | cont (env:Ev) | exc (env:Ev) (c:Str) (fs:List (Str×XD)) | no
def NwT (K:PySem.W.Frag) (B:Bs) (H':Hp) (d:Dat) (v:V):Prop:=∀ ds,d=.lst ds->∃ p vs,v=.ref p/\B.H₀ p=none/\H' p=some (.lst vs)/\ds.length<=sizeLine/\W8 K (av H' (ins B.R p)) ds vs
structure XSt (X:Cx) (pins:List (Addr×Obj)) (H:Hp) (h:Heap) (e C:Addr) (dct:Option Addr):Prop where
 lo:X.s₀.heap.objs.size<=e
 un:H e=none
 ob:(∃ o vs,h.get? e=some o/\o.cls=.ref C/\o.dict=dct/\o.data=.fields vs/\vs[1]?=some .none/\(X.pl=true->vs[2]?=some .none))\/∃ T c2,X.s₀.heap.objs.size<=T/\H T=none/\(∀ p∈X.pn++pins,p.1≠T)/\Do h X.base e T (.ref C,c2) dct .none/\(X.pl=true->c2=some .none)
 pe:∀ p∈X.pn++pins,p.1≠e
def N3 (H0 H:Hp) (dct:Option Addr):Prop:=∀ dx,dct=some dx->H0 dx=none/\∀ fvs f a,H dx=some (.xd fvs)->fvs.lookup f=some (.ref a)->H0 a=none/\∃ xs,H a=some (.lst xs)
theorem N3.mono {H0 H1 H:Hp} {dct:Option Addr} (h:N3 H1 H dct) (m:∀ b,H1 b=none->H0 b=none):N3 H0 H dct:=fun dx e=>⟨m _ (h dx e).1,fun fvs f a q l=>((h dx e).2 fvs f a q l).imp (m _) id⟩
theorem Z3h {H0 H:Hp} {dx:Addr} {fvs:List (Str×V)} (h1:H0 dx=none) (h2:H dx=some (.xd fvs)) (h3:∀ f a,(f,V.ref a)∈fvs->H0 a=none/\∃ xs,H a=some (.lst xs)):N3 H0 H (some dx):=fun dx' e=>by
 cases e;refine ⟨h1,fun fvs' f a q l=>?_⟩;rw [h2] at q;cases q;exact h3 f a (PySem.mem_of_lookup l)
theorem Z1t {H0 H:Hp}:N3 H0 H none:=fun dx e=>by cases e
theorem Zp.none {H H':Hp} (s:Zp H H') {b:Addr} (h:H' b=none):H b=none:=by
 cases q:H b with
 | none=>rfl
 | some o=>rw [s b o q] at h;cases h
def XW (X:Cx) (H0:Hp) (A:AS) (H:Hp) (σ:St) (c:Str) (fs:List (Str×XD)):Prop :=
 ∀ (pins:List (Addr×Obj)) (s:Shared) (e C:Addr) (dct:Option Addr),Inv X pins σ H s->U1 X.K c C->XSt X pins H s.heap e C dct->O8 X.K (av H A) dct fs->N3 H0 H dct->X.xe (.ref e) s
def Dj (fr:Bool) (X:Cx) (B:Bs) (A:AS) (H:Hp) (D:Ends):Fl->Prop
 | .next env'=>∀ A' H' σ',Step A H A' H'->EnvOk X.K B A' H' σ' env'->D.nx σ' H'
 | .brk env'=>∀ A' H' σ',Step A H A' H'->EnvOk X.K B A' H' σ' env'->D.bk σ' H'
 | .cont env'=>∀ A' H' σ',Step A H A' H'->EnvOk X.K B A' H' σ' env'->D.ct σ' H'
 | .ret d=>∀ v H',Zp B.H₀ H'->Rp X.K (av H' B.R) d v->(fr=true->NwT X.K B H' d v)->D.rt v H'
 | .exc env' c fs=>∀ A' H' σ',Step A H A' H'->EnvOk X.K B A' H' σ' env'->XW X B.H₀ A' H' σ' c fs
 | .no=>False
def tS (fr:Bool) (X:Cx) (g:Ev->Fl):TS:=fun D σ H=>∃ env B A,EnvOk X.K B A H σ env/\B.st=true/\Dj fr X B A H D (g env)
def Sb (fr:Bool) (X:Cx) (st:Stmt) (g:Ev->Fl):Prop:=PS X st (tS fr X g)
def Kv (fr:Bool) (X:Cx) (st:List Stmt) (g:Ev->Fl):Prop:=Ro X st (tS fr X g)
theorem Dj.step {fr:Bool} {X:Cx} {B:Bs} {A A':AS} {H H':Hp} {D:Ends} {r:Fl} (h:Dj fr X B A H D r) (s:Step A H A' H'):Dj fr X B A' H' D r:=by
 cases r with
 | next e=>exact fun A2 H2 σ2 s2 k=>h A2 H2 σ2 (s.trans s2) k
 | brk e=>exact fun A2 H2 σ2 s2 k=>h A2 H2 σ2 (s.trans s2) k
 | cont e=>exact fun A2 H2 σ2 s2 k=>h A2 H2 σ2 (s.trans s2) k
 | ret d=>exact h
 | exc e c fs=>exact fun A2 H2 σ2 s2 k=>h A2 H2 σ2 (s.trans s2) k
 | no=>exact h
section
variable {fr m:Bool} {X:Cx} {st:Stmt} {rest a b:List Stmt} {e c:Expr} {g h:Ev->Fl} {f:Ev->Option Dat} {fs:Ev->Option (List Dat)} {t:Ev->Option Bool} {pos:Pos}
def Tp:Ev->Fl:=fun env=>.next env
def Ze (g h:Ev->Fl):Ev->Fl:=fun env=>match g env with
 | .next env'=>h env'
 | r=>r
theorem Vm:Kv fr X [] Tp:=Z42.weak fun D σ H ⟨env,B,A,k,hst,q⟩=>q A H σ (Step.refl A H) k
theorem Za (h1:Sb fr X st g) (h2:Kv fr X rest h):Kv fr X (st::rest) (Ze g h):=(Ih h1 h2).weak fun D σ H zz=>by
 obtain ⟨env,B,A,k,hst,q⟩:=zz;refine ⟨env,B,A,k,hst,?_⟩;unfold Ze at q;split at q
 ·rename_i env' e
  rw [e];exact fun A' H' σ' s k'=>⟨env',B,A',k',hst,q.step s⟩
 ·rename_i r hn
  cases e:g env with
  | next env'=>exact absurd e (hn env')
  | brk e'=>rw [e] at q;exact q
  | cont e'=>rw [e] at q;exact q
  | ret d=>rw [e] at q;exact q
  | exc e' c fs=>rw [e] at q;exact q
  | no=>rw [e] at q;exact q
theorem Zn (h1:Sb fr X st g):Kv fr X [st] g:=Gi h1
theorem Z7q:Sb fr X (.Continue pos) (fun env=>.cont env):=P3.weak fun D σ H ⟨env,B,A,k,hst,q⟩=>q A H σ (Step.refl A H) k
def Mx (t:Ev->Option Bool) (g h:Ev->Fl):Ev->Fl:=fun env=>match t env with
 | some true=>g env
 | some false=>h env
 | none=>.no
theorem Tj (hc:Aw X c t) (ha:Kv fr X a g) (hb:Kv fr X b h):Sb fr X (.If c a b pos) (Mx t g h):=(Zca hc ha hb).weak fun D σ H zz=>by
 obtain ⟨env,B,A,k,hst,q⟩:=zz;unfold Mx at q;split at q
 ·rename_i e
  refine ⟨env,B,A,true,k,e,fun H' s=>?_⟩;exact Zaw ⟨env,B,A,k.mono s,hst,q.step (Step.same s)⟩
 ·rename_i e
  refine ⟨env,B,A,false,k,e,fun H' s=>?_⟩;exact Zb9 ⟨env,B,A,k.mono s,hst,q.step (Step.same s)⟩
 ·exact q.elim
def Vn (f:Ev->Option Dat):Ev->Fl:=fun env=>match f env with
 | some d=>.ret d
 | none=>.no
theorem E3 {B:Bs} {A:AS} {H H':Hp} {σ:St} {env:Ev} {d:Dat} {v:V} (k:EnvOk X.K B A H σ env) (s:Zp H H') (r:Rp X.K (av H' A) d v):Zp B.H₀ H'/\Rp X.K (av H' B.R) d v:=⟨k.h0.trans s,r.mono (Ux k.ra)⟩
theorem V8 (he:W4 false X e f):Sb false X (.Return (some e) pos) (Vn f):=(H9 he).weak fun D σ H zz=>by
 obtain ⟨env,B,A,k,hst,q⟩:=zz;unfold Vn at q;split at q
 ·rename_i d e
  exact ⟨env,B,A,d,k,e,fun v H' s r=>q v H' (E3 k s r).1 (E3 k s r).2 (fun z=>by cases z)⟩
 ·exact q.elim
theorem Z9j {B:Bs} {A:AS} {H H':Hp} {σ:St} {env:Ev} {ds:List Dat} {p:Addr} {vs:List V} (k:EnvOk X.K B A H σ env) (hz:ds.length<=sizeLine) (s:Zp H H') (hn:H p=none) (hp:H' p=some (.lst vs)) (r:W8 X.K (av H' (ins A p)) ds vs):B.H₀ p=none/\B.R p=false/\W8 X.K (av H' (ins B.R p)) ds vs:=by
 have h0:B.H₀ p=none:=k.h0.free hn;refine ⟨h0,?_,r.mono (Ux fun a ha=>?_)⟩
 ·cases q:B.R p with
  | false=>rfl
  | true=>obtain ⟨o,ho⟩:=k.r0 p q;rw [h0] at ho;cases ho
 ·rcases Hd ha with z | z
  ·exact Dz (k.ra a z)
  ·subst z;exact Pz
theorem Z1d (he:PNd X e fs):Sb fr X (.Return (some e) pos) (Vn (dL fs)):=(H9 he).weak fun D σ H zz=>by
 obtain ⟨env,B,A,k,hst,q⟩:=zz;unfold Vn at q;split at q
 ·rename_i d e
  obtain ⟨ds,e1,e2⟩:=map_some e;subst e2;refine ⟨env,B,A,ds,k,e1,fun p vs H' hz s hn hp r=>?_⟩;obtain ⟨h1,h2,h3⟩:=Z9j k hz s hn hp r;refine q (.ref p) H' (k.h0.trans s) (E7 hz (.inl (.inl (Wx hp h2))) (h3.mono (Ux fun a ha=>Dz ha))) fun _ ds' ed=>?_
  cases ed;exact ⟨p,vs,rfl,h1,hp,hz,h3⟩
 ·exact q.elim
def L3 (f:Ev->Option Dat):Ev->Fl:=fun env=>match f env with
 | some (.lst _)=>.no
 | some d=>.ret d
 | none=>.no
theorem Ny (he:W4 false X e f):Sb fr X (.Return (some e) pos) (L3 f):=(H9 he).weak fun D σ H zz=>by
 obtain ⟨env,B,A,k,hst,q⟩:=zz;unfold L3 at q;split at q
 ·exact q.elim
 ·rename_i d hd e
  exact ⟨env,B,A,d,k,e,fun v H' s r=>q v H' (E3 k s r).1 (E3 k s r).2 (fun _ ds ed=>absurd ed (hd ds))⟩
 ·exact q.elim
theorem Dq {env:Ev} {i:Nat} {s:Slt} (h:∀ (j:Nat) d,env[j]?≠some (.pk d)) (hs:∀ d,s≠.pk d):∀ (j:Nat) d,(env.set i s)[j]?≠some (.pk d):=fun j d=>by
 rw [getElem?_set];split
 ·split
  ·intro z;exact hs d (Option.some.inj z)
  ·intro z;cases z
 ·exact h j d
theorem EnvOk.own {K:PySem.W.Frag} {B:Bs} {A:AS} {H:Hp} {σ:St} {env:Ev} {i:Nat} {ds:List Dat} (k:EnvOk K B A H σ env) (hst:B.st=true) (h:env[i]?=some (.ow ds)) :
  ∃ a vs,σ[i]?=some (some (.ref a))/\H a=some (.lst vs)/\W8 K (av H A) ds vs/\ds.length<=sizeLine/\A a=true/\B.R a=false/\B.H₀ a=none /\
   (∀ ds' vs',ds'.length<=sizeLine->W8 K (av H A) ds' vs'->Step A H A (W6 H a (.lst vs'))/\EnvOk K B A (W6 H a (.lst vs')) σ (env.set i (.ow ds'))) /\
   Step A H (fun b=>A b&&b != a) H/\EnvOk K B (fun b=>A b&&b != a) H σ (env.set i (.fz (.lst ds))):=by
 obtain ⟨own,h1,h2,h4⟩:=k.sl;obtain ⟨x,q1,a,vs,e1,e2,hz,e3,e4⟩:=h4 i _ h;subst e1;obtain ⟨hA,hR⟩:=h2 i a e2;have h0:B.H₀ a=none:=by
  rcases k.ar a hA with z | z
  ·rw [z] at hR;cases hR
  ·exact z
 have avs:∀ vs',Zp (av H A) (av (W6 H a (.lst vs')) A):=fun vs' b o e=>by
  obtain ⟨z1,z2⟩:=Tn e;have hb:b≠a:=by intro z;rw [z,hA] at z1;cases z1
  exact Wx (by rw [Zj hb];exact z2) z1
 refine ⟨a,vs,q1,e3,e4,hz,hA,hR,h0,fun ds' vs' hz' r'=>⟨⟨fun b o hb hAb=>?_,fun b hb=>.inl hb⟩,?_⟩,⟨fun b o hb _=>hb,fun b hb=>.inl ?_⟩,?_⟩
 ·have hn:b≠a:=by intro z;rw [z,hA] at hAb;cases hAb
  rw [Zj hn];exact hb
 ·refine ⟨fun b o hb=>?_,k.r0,k.ra,k.ar,fun b hb=>?_,by rw [length_set];exact k.len,fun hs j d'=>Dq (k.np hs) (fun _ z=>by cases z) j d',own,h1,h2,fun j s e=>?_⟩
  ·have hn:b≠a:=Y0 hb h0
   rw [Zj hn];exact k.h0 b o hb
  ·by_cases hn:b=a
   ·subst hn;rw [Zt];trivial
   ·rw [Zj hn];exact k.mu b hb
  ·by_cases hj:i=j
   ·subst hj
    rw [getElem?_set,if_pos rfl] at e;split at e
    ·cases e
     exact ⟨_,q1,a,vs',rfl,e2,hz',Zt,r'.mono (avs vs')⟩
    ·cases e
   ·rw [getElem?_set,if_neg hj] at e
    obtain ⟨x,p1,p2⟩:=h4 j s e;refine ⟨x,p1,?_⟩;cases s with
    | un=>trivial
    | fz d=>obtain ⟨v,z1,z2⟩:=p2;exact ⟨v,z1,z2.mono (avs vs')⟩
    | pk d =>
     exact absurd e (k.np hst j d)
    | ow es =>
     obtain ⟨b,us,z1,z2,z3,z4,z5⟩:=p2;have hn:b≠a:=fun z=>hj (h1 i j a e2 (z▸z2))
     exact ⟨b,us,z1,z2,z3,by rw [Zj hn];exact z4,z5.mono (avs vs')⟩
    | gx g =>
     obtain ⟨v,z1,z2⟩:=p2;exact ⟨v,z1,z2.frame (fun _ z=>z) (fun b x ob z=>by
      have hn:b≠a:=fun w=>hj (h1 i j a e2 (w▸ob))
      rw [Zj hn];exact z) (avs vs')⟩
 ·rw [Bool.and_eq_true] at hb;exact hb.1
 ·have less:Zp (av H A) (av H fun b=>A b&&b != a):=Ux fun b hb=>by rw [Bool.and_eq_true] at hb;exact hb.1
  refine ⟨k.h0,k.r0,fun b hb=>?_,fun b hb=>?_,fun b hb=>?_,by rw [length_set];exact k.len,fun hs j d'=>Dq (k.np hs) (fun _ z=>by cases z) j d',fun j b=>j≠i/\own j b,fun j j' b z z'=>h1 j j' b z.2 z'.2,fun j b z=>?_,fun j s e=>?_⟩
  ·have hn:b≠a:=by intro z;rw [z,hR] at hb;cases hb
   simp [k.ra b hb,hn]
  ·rw [Bool.and_eq_true] at hb;exact k.ar b hb.1
  ·rw [Bool.and_eq_true] at hb;exact k.mu b hb.1
  ·have hn:b≠a:=fun w=>z.1 (h1 j i a (w▸z.2) e2)
   simp [(h2 j b z.2).1,(h2 j b z.2).2,hn]
  ·by_cases hj:i=j
   ·subst hj
    rw [getElem?_set,if_pos rfl] at e;split at e
    ·cases e
     exact ⟨_,q1,.ref a,rfl,E7 hz (.inl (.inl (Wx e3 (by simp)))) (e4.mono less)⟩
    ·cases e
   ·rw [getElem?_set,if_neg hj] at e
    obtain ⟨x,p1,p2⟩:=h4 j s e;refine ⟨x,p1,?_⟩;cases s with
    | un=>trivial
    | fz d=>obtain ⟨v,z1,z2⟩:=p2;exact ⟨v,z1,z2.mono less⟩
    | pk d =>
     obtain ⟨v,z1,z2⟩:=p2;refine ⟨v,z1,?_⟩;rcases z2 with z2 | ⟨b,us,es,y1,y2,y3,y4,y5⟩ | z2
     ·exact .inl (z2.mono less)
     ·exact .inr (.inl ⟨b,us,es,y1,y2,y3,y4,y5.mono less⟩)
     ·exact .inr (.inr z2)
    | ow es =>
     obtain ⟨b,us,z1,z2,z3,z4,z5⟩:=p2;exact ⟨b,us,z1,⟨Ne.symm hj,z2⟩,z3,z4,z5.mono less⟩
    | gx g =>
     obtain ⟨v,z1,z2⟩:=p2;exact ⟨v,z1,z2.frame (fun _ z=>⟨Ne.symm hj,z⟩) (fun _ _ _ z=>z) less⟩
theorem EnvOk.frzD {K:PySem.W.Frag} {B:Bs} {A:AS} {H:Hp} {σ:St} {env:Ev} {i:Nat} {kvs:List (List Wg×Dat)} {ls:List (List Wg×Int)} (k:EnvOk K B A H σ env) (h:env[i]?=some (.gx (.dict kvs))) (el:Dc kvs=some ls) :
  ∃ A',Step A H A' H/\EnvOk K B A' H σ (env.set i (.fz (.dct ls))):=by
 obtain ⟨own,h1,h2,h4⟩:=k.sl;obtain ⟨x,q1,v,e1,a,us,g1,g2,g3,g4,g5,g6⟩:=h4 i _ h;subst e1 g1;obtain ⟨hA,hR⟩:=h2 i a g2;have less:Zp (av H A) (av H fun b=>A b&&b != a):=Ux fun b hb=>by rw [Bool.and_eq_true] at hb;exact hb.1
 refine ⟨fun b=>A b&&b != a,⟨fun b o hb _=>hb,fun b hb=>.inl ?_⟩,k.h0,k.r0,fun b hb=>?_,fun b hb=>?_,fun b hb=>?_,by rw [length_set];exact k.len,fun hs j d'=>Dq (k.np hs) (fun _ z=>by cases z) j d',fun j b=>j≠i/\own j b,fun j j' b z z'=>h1 j j' b z.2 z'.2,fun j b z=>?_,fun j s e=>?_⟩
 ·rw [Bool.and_eq_true] at hb;exact hb.1
 ·have hn:b≠a:=by intro z;rw [z,hR] at hb;cases hb
  simp [k.ra b hb,hn]
 ·rw [Bool.and_eq_true] at hb;exact k.ar b hb.1
 ·rw [Bool.and_eq_true] at hb;exact k.mu b hb.1
 ·have hn:b≠a:=fun w=>z.1 (h1 j i a (w▸z.2) g2)
  simp [(h2 j b z.2).1,(h2 j b z.2).2,hn]
 ·by_cases hj:i=j
  ·subst hj
   rw [getElem?_set,if_pos rfl] at e;split at e
   ·cases e
    refine ⟨_,q1,.ref a,rfl,?_⟩;unfold Rp;exact ⟨by rw [K8 el];exact g3,a,rfl,Wx (by rw [g4,Io el g5 g6]) (by simp)⟩
   ·cases e
  ·rw [getElem?_set,if_neg hj] at e
   obtain ⟨x,p1,p2⟩:=h4 j s e;refine ⟨x,p1,?_⟩;cases s with
   | un=>trivial
   | fz d=>obtain ⟨v,z1,z2⟩:=p2;exact ⟨v,z1,z2.mono less⟩
   | pk d =>
    obtain ⟨v,z1,z2⟩:=p2;refine ⟨v,z1,?_⟩;rcases z2 with z2 | ⟨b,us,es,y1,y2,y3,y4,y5⟩ | z2
    ·exact .inl (z2.mono less)
    ·exact .inr (.inl ⟨b,us,es,y1,y2,y3,y4,y5.mono less⟩)
    ·exact .inr (.inr z2)
   | ow es =>
    obtain ⟨b,us,z1,z2,z3,z4,z5⟩:=p2;exact ⟨b,us,z1,⟨Ne.symm hj,z2⟩,z3,z4,z5.mono less⟩
   | gx g =>
    obtain ⟨v,z1,z2⟩:=p2;exact ⟨v,z1,z2.frame (fun _ z=>⟨Ne.symm hj,z⟩) (fun _ _ _ z=>z) less⟩
def frz (i:Nat):Ev->Ev:=fun env=>match env[i]? with
 | some (.ow ds)=>env.set i (.fz (.lst ds))
 | some (.gx (.dict kvs))=>match Dc kvs with
  | some ls=>env.set i (.fz (.dct ls))
  | none=>env
 | _=>env
def Z8k (i:Nat) (g:Ev->Fl):Ev->Fl:=fun env=>g (frz i env)
theorem Zbm (i:Nat) (h:Sb fr X st g):Sb fr X st (Z8k i g):=h.weak fun D σ H zz=>by
 obtain ⟨env,B,A,k,hst,q⟩:=zz;dsimp only [Z8k,frz] at q;split at q
 ·rename_i ds e
  obtain ⟨a,vs,_,_,_,_,_,_,_,_,s,k'⟩:=k.own hst e;exact ⟨_,B,_,k',hst,q.step s⟩
 ·rename_i kvs e
  split at q
  ·rename_i ls el
   obtain ⟨A',s,k'⟩:=k.frzD e el;exact ⟨_,B,_,k',hst,q.step s⟩
  ·exact ⟨env,B,A,k,hst,q⟩
 ·exact ⟨env,B,A,k,hst,q⟩
def G0 (i:Nat):Ev->Fl:=fun env=>match env[i]? with
 | some (.ow ds)=>.ret (.lst ds)
 | _=>.no
theorem Nc (i:Nat) {x:Str} {p:Pos} (hN:X.N[i]?=some x:=by rfl) (hv:Vis X.env.scope x:=by first | exact Or.inl rfl | exact Or.inr (Or.inl rfl) | exact Or.inr (Or.inr rfl)) (hd:(x==("__debug__" : Str))=false:=by decide)
  (hcd:(x==("__classdict__" : Str))=false:=by decide):Sb fr X (.Return (some (.Name x p)) pos) (G0 i):=(H9 (Jy hN hv hd hcd)).weak fun D σ H zz=>by
 obtain ⟨env,B,A,k,hst,q⟩:=zz;unfold G0 at q;split at q
 ·rename_i ds e
  obtain ⟨a,vs,h1,h2,h3,hz,hA,hR,h0,_⟩:=k.own hst e;have less:∀ b,ins B.R a b=true->A b=true:=fun b hb=>by
   rcases Hd hb with z | z
   ·exact k.ra b z
   ·rw [z];exact hA
  have r:=h3.mono (Ux (H:=H) less);refine ⟨.ref a,h1,q (.ref a) H k.h0 (E7 hz (.inl (.inl (Wx h2 hR))) (r.mono (Ux fun b hb=>Dz hb))) fun _ ds' ed=>?_⟩;cases ed;exact ⟨a,vs,rfl,h0,h2,hz,r⟩
 ·exact q.elim
def Zr (i:Nat) (f:Ev->Option Dat):Ev->Fl:=fun env=>match f env with
 | some d=>.next (env.set i (.fz d))
 | none=>.no
def Sg (i:Nat) (f:Ev->Option (List Dat)):Ev->Fl:=fun env=>match f env with
 | some ds=>.next (env.set i (.ow ds))
 | none=>.no
theorem EnvOk.putO {K:PySem.W.Frag} {B:Bs} {A:AS} {H H':Hp} {σ:St} {env:Ev} (k:EnvOk K B A H σ env) (hst:B.st=true) (i:Nat) {ds:List Dat} {p:Addr} {vs:List V} (hz:ds.length<=sizeLine) (s:Zp H H') (hn:H p=none) (hp:H' p=some (.lst vs)) (r:W8 K (av H' (ins A p)) ds vs) :
  Step A H (ins A p) H'/\EnvOk K B (ins A p) H' (σ.set i (some (.ref p))) (env.set i (.ow ds)):=by
 have st:Step A H (ins A p) H':=⟨fun a o h _=>s a o h,fun a h=>by
  rcases Hd h with z | z
  ·exact .inl z
  ·rw [z];exact .inr hn⟩
 have hAp:A p=false:=k.mu.new hn;have h0:B.H₀ p=none:=k.h0.free hn;obtain ⟨own,h1,h2,h4⟩:=k.sl;refine ⟨st,k.h0.trans s,k.r0,fun a h=>Dz (k.ra a h),fun a h=>?_,fun a h=>?_,by rw [length_set,length_set];exact k.len,fun hs j d'=>Dq (k.np hs) (fun _ z=>by cases z) j d',
  fun j a=>(j≠i/\own j a)\/(j=i/\a=p),fun j j' a z z'=>?_,fun j a z=>?_,fun j sl e=>?_⟩
 ·rcases Hd h with z | z
  ·exact k.ar a z
  ·rw [z];exact .inr h0
 ·rcases Hd h with z | z
  ·exact k.mu.mono s a z
  ·rw [z,hp];trivial
 ·rcases z with z | z<;>rcases z' with z' | z'
  ·exact h1 j j' a z.2 z'.2
  ·have:=(h2 j a z.2).1;rw [z'.2,hAp] at this;cases this
  ·have:=(h2 j' a z'.2).1;rw [z.2,hAp] at this;cases this
  ·rw [z.1,z'.1]
 ·rcases z with z | z
  ·exact ⟨Dz (h2 j a z.2).1,(h2 j a z.2).2⟩
  ·refine ⟨by rw [z.2];exact Pz,?_⟩
   cases q:B.R a with
   | false=>rfl
   | true=>obtain ⟨o,ho⟩:=k.r0 a q;rw [z.2,h0] at ho;cases ho
 ·by_cases hj:i=j
  ·subst hj
   rw [getElem?_set,if_pos rfl] at e;split at e
   ·rename_i hl
    cases e;exact ⟨some (.ref p),by rw [getElem?_set,if_pos rfl,if_pos (by rw [k.len];exact hl)],p,vs,rfl,.inr ⟨rfl,rfl⟩,hz,hp,r⟩
   ·cases e
  ·rw [getElem?_set,if_neg hj] at e
   obtain ⟨x,p1,p2⟩:=h4 j sl e;refine ⟨x,by rw [getElem?_set,if_neg hj];exact p1,?_⟩;cases sl with
   | un=>trivial
   | fz d=>obtain ⟨v,z1,z2⟩:=p2;exact ⟨v,z1,z2.mono st.av⟩
   | pk d=>exact absurd e (k.np hst j d)
   | ow es =>
    obtain ⟨b,us,z1,z2,z3,z4,z5⟩:=p2;exact ⟨b,us,z1,.inl ⟨Ne.symm hj,z2⟩,z3,s _ _ z4,z5.mono st.av⟩
   | gx g =>
    obtain ⟨v,z1,z2⟩:=p2;exact ⟨v,z1,z2.frame (fun _ z=>.inl ⟨Ne.symm hj,z⟩) (fun b x _ z=>s b x z) st.av⟩
theorem Zk (i:Nat) {x:Str} {pos':Pos} (hN:X.N.Nodup) (hi:X.N[i]?=some x) (hx:Fj X.env.scope x) (he:W4 false X e f) (hs:swapsWith e (some (.Name x pos')) pos.line X.env=pure false:=by rfl)
  (hf:X.fn x=true\/X.env.scope.names.lookup x=some .local:=by first | exact .inl rfl | exact .inr rfl | assumption):Sb fr X (.Assign [.Name x pos'] e pos) (Zr i f):=(K0 hN hi hx he hs hf).weak fun D σ H zz=>by
 obtain ⟨env,B,A,k,hst,q⟩:=zz;unfold Zr at q;split at q
 ·rename_i d e
  exact ⟨env,B,A,d,k,e,fun v H' s r=>q A H' _ (Step.same s) ((k.mono s).put i r)⟩
 ·exact q.elim
theorem Ry (i:Nat) {x:Str} {pos':Pos} (hN:X.N.Nodup) (hi:X.N[i]?=some x) (hx:Fj X.env.scope x) (he:PNd X e fs) (hs:swapsWith e (some (.Name x pos')) pos.line X.env=pure false:=by rfl)
  (hf:X.fn x=true\/X.env.scope.names.lookup x=some .local:=by first | exact .inl rfl | exact .inr rfl | assumption):Sb fr X (.Assign [.Name x pos'] e pos) (Sg i fs):=(K0 hN hi hx he hs hf).weak fun D σ H zz=>by
 obtain ⟨env,B,A,k,hst,q⟩:=zz;unfold Sg at q;split at q
 ·rename_i ds e
  refine ⟨env,B,A,ds,k,e,fun p vs H' hz s hn hp r=>?_⟩;obtain ⟨h1,h2⟩:=k.putO hst i hz s hn hp r;exact q _ H' _ h1 h2
 ·exact q.elim
variable {sc:Scope} {elt tg iter:Expr} {ifs:List Expr} {src:Ev->Option (List Dat)} {is:List Nat} {gg:Dat->Ev->Option Ev} {tt:Ev->Option Bool}
theorem Z2y (i:Nat) {x:Str} {pos' spos:Pos} (hN:X.N.Nodup) (hi':X.N[i]?=some x) (hx:Fj X.env.scope x) (psc:Scope) (fs:List (Option Nat)) (N:List Str) (hp:X.env.scope=psc) (S:CompOk psc sc X.N N fs) (hc:X.calm=true) (hi:PId false X tg iter src)
  (hb:∀ (C:Addr) (s:Shared) (H:Hp) (fp:List Addr),PGd is (Wr X sc N C s H fp) tg gg/\PFd (Wr X sc N C s H fp) ifs tt/\W4 false (Wr X sc N C s H fp) elt f)
  (hfs:∀ i∈is,fs[i]?=some none) (hs:∀ x,foldedSetIterable iter X.env x=pure x:=by intro _;rfl) (hsw:swapsWith (.ListComp elt [⟨tg,iter,ifs,0⟩] sc pos) (some (.Name x pos')) spos.line X.env=pure true:=by rfl)
  (hf:X.fn x=true\/X.env.scope.names.lookup x=some .local:=by first | exact .inl rfl | exact .inr rfl | assumption) :
  Sb fr X (.Assign [.Name x pos'] (.ListComp elt [⟨tg,iter,ifs,0⟩] sc pos) spos) (Zr i (dL (Qk src fs gg tt f))):=(Ie (g:=fun v σ H Q=>∃ env R A d env',EnvOk X.K R A H σ env/\Rp X.K (av H A) d v/\gg d env=some env'/\∀ σ',EnvOk X.K R A H σ' env'->Eh is σ σ'->Q σ' H) (tt:=fun σ H Q=>∃ env R A b,EnvOk X.K R A H σ env/\tt env=some b/\∀ H',Zp H H'->Q b H') (te:=fun σ H Q=>∃ env R A d,EnvOk X.K R A H σ env/\f env=some d/\Ti false X.K A H d Q) hN hi' hx psc fs N hp S hc hi hb hs hsw hf).weak fun D σ H zz=>by
 obtain ⟨env,B,A,k,hst,q⟩:=zz;unfold Zr at q;split at q
 ·rename_i d e
  obtain ⟨ys,e',ed⟩:=map_some e;subst ed;obtain ⟨ds,e1,e2⟩:=bind_some e';have q':Ti false X.K A H (.lst ys) (fun v H'=>D.nx (σ.set i (some v)) H'):=fun v H' s r=>q A H' _ (Step.same s) ((k.mono s).put i r)
  exact ⟨env,B,A,ds,k,e1,fun J H1 hz s1 hJ=>Be (Q:=fun v H'=>D.nx (σ.set i (some v)) H') hfs (k.mono s1) hJ hz e2 ((q'.new k.mu).mono s1)⟩
 ·exact q.elim
def Co (f:Ev->Option Dat) (g:Dat->Ev->Option Ev):Ev->Fl:=fun env=>match (f env).bind fun d=>g d env with
 | some env'=>.next env'
 | none=>.no
theorem Z6l {tg e:Expr} {is:List Nat} {g:Dat->Ev->Option Ev} (he:W4 false X e f) (hg:PGd is X tg g) (hs:swapsWithSole [tg] e pos.line X.env=pure false:=by rfl) (hw:swappedStores [tg] e X.env=pure none:=by rfl) (h1:(assignEach [tg] X.env).map (·.2)=[assign tg X.env]:=by rfl):Sb fr X (.Assign [tg] e pos) (Co f g):=(Z73 he hg hs hw h1).weak fun D σ H zz=>by
 obtain ⟨env,B,A,k,hst,q⟩:=zz;unfold Co at q;split at q
 ·rename_i env' e
  obtain ⟨d,e1,e2⟩:=bind_some e;exact ⟨env,B,A,d,k,e1,fun v H' s r=>⟨env,B,A,d,env',k.mono s,r,e2,fun σ' k' _=>q A H' σ' (Step.same s) k'⟩⟩
 ·exact q.elim
def G5 (g:Dat->Ev->Option Ev) (body:Ev->Fl):List Dat->Ev->Fl
 | [],env=>.next env
 | x::xs,env=>match g x env with
  | none=>.no
  | some env1=>match body env1 with
   | .next e=>G5 g body xs e
   | .cont e=>G5 g body xs e
   | .brk e=>.next e
   | .ret d=>.ret d
   | .exc e c fs=>.exc e c fs
   | .no=>.no
def Tz (src:Ev->Option (List Dat)) (g:Dat->Ev->Option Ev) (body:Ev->Fl):Ev->Fl:=fun env=>match src env with
 | none=>.no
 | some ds=>G5 g body ds env
theorem Ug {body:List Stmt} (hp:PassesOwn (model X.prog X.w) X.A X.env X.xe) (hc:X.calm=true) (hi:PId true X tg iter src) (hg:PGd is X tg gg) (hb:Kv fr X body g)
  (hs:∀ x,foldedSetIterable iter X.env x=pure x:=by intro _;rfl):Sb fr X (.For tg iter body [] pos) (Tz src gg g):=(Z8e hp hc hi hg hb hs).weak fun D σ H zz=>by
 obtain ⟨env,B,A,k,hst,q⟩:=zz;unfold Tz at q;split at q
 ·exact q.elim
 rename_i ds e;refine ⟨env,B,A,ds,k,e,fun J H1 hz s1 hJ=>?_⟩;refine ⟨fun i m σ' H'=>m=ds.length - i/\i<=ds.length/\∃ A' env',Step A H1 A' H'/\EnvOk X.K B A' H' σ' env'/\Dj fr X B A' H' D (G5 gg g (ds.drop i) env'),
  ⟨ds.length,by simp,zero_le _,A,env,Step.refl A H1,k.mono s1,by simpa using q.step (Step.same s1)⟩,?_⟩
 rintro i m σ' H' ⟨rfl,hi',A',env',s',k',q'⟩;obtain ⟨hgo,hstop⟩:=hJ A' H' s' k'.mu;by_cases hlt:i<ds.length
 ·obtain ⟨go,yl⟩:=hgo i _ (show ds[i]?=some ds[i] by simp [hlt])
  refine .inr ⟨go,fun σ2 H2=>i+1<=ds.length/\∃ A2 env2,Step A H1 A2 H2/\EnvOk X.K B A2 H2 σ2 env2/\Dj fr X B A2 H2 D (G5 gg g (ds.drop (i+1)) env2),fun σ2 H2 z=>⟨ds.length - (i+1),by lia,rfl,z⟩,fun x H2 hy=>?_⟩;obtain ⟨s2,rx⟩:=yl x H2 hy;rw [List.drop_eq_getElem_cons hlt,G5] at q';split at q'
  ·exact q'.elim
  rename_i env1 e1;refine ⟨env',B,A',ds[i],env1,k'.mono s2,rx,e1,fun σ3 k3 _=>⟨env1,B,A',k3,hst,?_⟩⟩;have st2:Step A' H' A' H2:=Step.same s2;split at q'
  ·rename_i e2 eb
   rw [eb];exact fun A4 H4 σ4 s4 k4=>⟨hlt,A4,e2,s'.trans (st2.trans s4),k4,q'.step (st2.trans s4)⟩
  ·rename_i e2 eb
   rw [eb];exact fun A4 H4 σ4 s4 k4=>⟨hlt,A4,e2,s'.trans (st2.trans s4),k4,q'.step (st2.trans s4)⟩
  ·rename_i e2 eb
   rw [eb];exact fun A4 H4 σ4 s4 k4=>q' A4 H4 σ4 (st2.trans s4) k4
  ·rename_i d eb
   rw [eb];exact q'
  ·rename_i e2 c2 f2 eb
   rw [eb];exact fun A4 H4 σ4 s4 k4=>q' A4 H4 σ4 (st2.trans s4) k4
  ·exact q'.elim
 ·have e:i=ds.length:=by lia
  subst e;rw [List.drop_length,G5] at q';exact .inl ⟨hstop,q' A' H' σ' (Step.refl _ _) k'⟩
def Wm (t:Ev->Option Bool) (body:Ev->Fl):Nat->Ev->Fl
 | 0,_=>.no
 | n+1,env=>match t env with
  | none=>.no
  | some false=>.next env
  | some true=>match body env with
   | .next e=>Wm t body n e
   | .cont e=>Wm t body n e
   | .brk e=>.next e
   | .ret d=>.ret d
   | .exc e c fs=>.exc e c fs
   | .no=>.no
theorem Vx {t:Ev->Option Bool} {body:Ev->Fl}:∀ {n:Nat} {env:Ev} (k:Nat),Wm t body n env≠.no->Wm t body (n+k) env=Wm t body n env
 | 0,env,k,h=>absurd rfl h
 | n+1,env,k,h=>by
  rw [show n+1+k=(n+k)+1 by lia];simp only [Wm] at h ⊢;split
  ·rfl
  ·rfl
  ·rename_i e1
   simp only [e1] at h;split
   ·rename_i e2 eb;simp only [eb] at h;exact Vx k h
   ·rename_i e2 eb;simp only [eb] at h;exact Vx k h
   ·rfl
   ·rfl
   ·rfl
   ·rfl
open Classical in
def Mn (t:Ev->Option Bool) (body:Ev->Fl):Ev->Fl:=fun env=>if h:∃ n,Wm t body n env≠.no then Wm t body (Classical.choose h) env else .no
theorem Kw {t:Ev->Option Bool} {body:Ev->Fl} {n:Nat} {env:Ev} (h:Wm t body n env≠.no):Mn t body env=Wm t body n env:=by
 unfold Mn;have hx:∃ n,Wm t body n env≠.no:=⟨n,h⟩;rw [dif_pos hx];have hc:=Classical.choose_spec hx;have e1:=Vx n hc;have e2:=Vx (Classical.choose hx) h;rw [← e1,← e2,Nat.add_comm]
theorem Aj {body:List Stmt} (hp:PassesOwn (model X.prog X.w) X.A X.env X.xe) (hc:Aw X c t) (hb:Kv fr X body g):Sb fr X (.While c body [] pos) (Mn t g):=(Z2n hp hc hb).weak fun D σ H zz=>by
 obtain ⟨env,B,A,k,hst,q⟩:=zz;unfold Mn at q;split at q
 ·rename_i hx
  refine ⟨fun n σ' H'=>∃ A' env',EnvOk X.K B A' H' σ' env'/\Dj fr X B A' H' D (Wm t g n env'),⟨_,A,env,k,q⟩,?_⟩;rintro n σ' H' ⟨A',env',k',q'⟩;cases n with
  | zero=>exact q'.elim
  | succ n =>
   rw [Wm] at q';split at q'
   ·exact q'.elim
   ·rename_i e1
    refine ⟨env',B,A',false,k',e1,fun H1 s1=>?_⟩;refine Zb9 ?_;exact q' A' H1 σ' (Step.same s1) (k'.mono s1)
   ·rename_i e1
    refine ⟨env',B,A',true,k',e1,fun H1 s1=>?_⟩;refine Zaw ?_;refine ⟨fun σ2 H2=>∃ A2 env2,EnvOk X.K B A2 H2 σ2 env2/\Dj fr X B A2 H2 D (Wm t g n env2),fun σ2 H2 z=>⟨n,Nat.lt_succ_self n,z⟩,env',B,A',k'.mono s1,hst,?_⟩;have st2:Step A' H' A' H1:=Step.same s1;split at q'
    ·rename_i e2 eb
     rw [eb];exact fun A4 H4 σ4 s4 k4=>⟨A4,e2,k4,q'.step (st2.trans s4)⟩
    ·rename_i e2 eb
     rw [eb];exact fun A4 H4 σ4 s4 k4=>⟨A4,e2,k4,q'.step (st2.trans s4)⟩
    ·rename_i e2 eb
     rw [eb];exact fun A4 H4 σ4 s4 k4=>q' A4 H4 σ4 (st2.trans s4) k4
    ·rename_i d eb
     rw [eb];exact q'
    ·rename_i e2 c2 f2 eb
     rw [eb];exact fun A4 H4 σ4 s4 k4=>q' A4 H4 σ4 (st2.trans s4) k4
    ·exact q'.elim
 ·exact q.elim
def MtU (X:Cx) (id:String) (F:List Dat->List Dat->Option (List Dat)):Prop:=MtR X id (fun v us H Q=>∃ A a vs ds as ds',Ud A H/\v=.ref a/\H a=some (.lst vs)/\W8 X.K (av H A) ds vs/\X0 false X.K A H as us/\F ds as=some ds'/\∀ w vs',ds'.length<=sizeLine->W8 X.K (av H A) ds' vs'->Q w (W6 H a (.lst vs')))
def Qd (i:Nat) (F:List Dat->List Dat->Option (List Dat)) (fs:Ev->Option (List Dat)):Ev->Fl:=fun env=>match env[i]? with
 | some (.ow ds)=>match (fs env).bind fun as=>F ds as with
  | some ds'=>.next (env.set i (.ow ds'))
  | none=>.no
 | _=>.no
theorem Qy (i:Nat) {x:Str} {es:List Expr} {name:Str} {id:String} {F:List Dat->List Dat->Option (List Dat)} {p apos cpos:Pos} (slot:Slot "list" name id) (hty:typeOf (.builtin id)=pure (.type "method_descriptor")) (hm:MtU X id F) (ha:Km false X (e::es) fs)
  (hN:X.N[i]?=some x:=by rfl) (hv:Vis X.env.scope x:=by first | exact Or.inl rfl | exact Or.inr (Or.inl rfl) | exact Or.inr (Or.inr rfl)) (hd:(x==("__debug__" : Str))=false:=by decide) (hcd:(x==("__classdict__" : Str))=false:=by decide)
  (hsw:swapsWith (.Call (.Attribute (.Name x p) name apos) (e::es) [] cpos) none pos.line X.env=pure false:=by rfl)
  (hbase:attributeBase (.Name x p) name X.env (eval (.Name x p) X.env)=eval (.Name x p) X.env:=by rfl)
  (hfew:((backTo cpos (starEach (e::es) X.env)).all (fun x=>!x.1)&&(backToKw cpos (keywordEach [] X.env)).all (fun x=>x.1.isSome)
   && decide ((e::es).length+([]:List Keyword).length+(if ([]:List Keyword).isEmpty then 0 else 1)<30))=true:=by rfl)
  (hline:(apos.endLine==cpos.line)=true:=by rfl) (hs:starEach (e::es) X.env=(false,eval e X.env)::starEach es X.env:=by rfl) (hplain:(backTo cpos (starEach es X.env)).any (·.1)=false:=by rfl) :
  Sb fr X (.Expr (.Call (.Attribute (.Name x p) name apos) (e::es) [] cpos) pos) (Qd i F fs):=(Sv (Z1l PySem.F.plainAttrs_list slot hty hm (Jy hN hv hd hcd) ha hbase hfew hline hs hplain) hsw).weak fun D σ H zz=>by
 obtain ⟨env,B,A,k,hst,q⟩:=zz;unfold Qd at q;split at q
 ·rename_i ds e
  split at q
  ·rename_i ds' e2
   obtain ⟨as,e3,e4⟩:=bind_some e2;obtain ⟨a,vs,h1,h2,h3,_⟩:=k.own hst e;refine ⟨.ref a,h1,.inl ⟨rfl,vs,R1.of h2⟩,env,B,A,as,k,e3,fun us H2 s2 rs=>?_⟩;have k2:=k.mono s2;obtain ⟨a',vs',g1,g2,g3,_,_,_,_,g4,_⟩:=k2.own hst e;rw [h1] at g1;cases g1;refine ⟨A,a,vs',ds,as,ds',k2.mu,rfl,g2,g3,rs,e4,fun w vs2 hz r2=>?_⟩;obtain ⟨z1,z2⟩:=g4 ds' vs2 hz r2;exact q A _ σ ((Step.same s2).trans z1) z2
  ·exact q.elim
 ·exact q.elim
def Wj:List Dat->List Dat->Option (List Dat)
 | ds,[d]=>if ds.length<sizeLine then some (ds++[d]) else none
 | _,_=>none
theorem T8:MtU X "list.append" Wj:=MtR.weak (id:="list.append") Lh fun v us H Q zz=>by
 obtain ⟨A,a,vs,ds,as,ds',mu,e1,h1,r1,r2,e2,q⟩:=zz;unfold Wj at e2;split at e2
 ·rename_i d
  split at e2
  ·rename_i hl
   cases e2;obtain ⟨w,us',e3,r3,e4⟩:=r2;refine ⟨a,vs,w,e1,by rw [e3,show us'=[] from e4],h1,by rw [Zv r1];exact hl,q _ _ (by simp;lia) (Ww r1 (Qr r3))⟩
  ·cases e2
 ·cases e2
end
inductive Rs where
 | ok (d:Dat) | exc (c:Str) (fs:List (Str×XD)) | no
def Th (n:Nat) (ds:List Dat):Ev:=ds.map .fz++List.replicate (n - ds.length) .un
def We (n p:Nat) (g:Ev->Fl):List Dat->Rs:=fun ds=>if ds.length=p then (match g (Th n ds) with
 | .ret d=>.ok d
 | .next _=>.ok .non
 | .exc _ c fs=>.exc c fs
 | _=>.no) else .no
def spD (K:PySem.W.Frag) (fr:Bool) (p:Nat) (F:List Dat->Rs):Sp:=fun vs H Q _=>vs.length=p/\∃ ds R d,Ud R H/\W8 K (av H R) ds vs/\F ds=.ok d/\∀ v H',Zp H H'->Rp K (av H' R) d v->(fr=true->NwT K ⟨H,R,true⟩ H' d v)->Q v H'
structure CalD (P:Program) (w:World) (K:PySem.W.Frag) (mg:Str->Option Value) (base:Heap) (k:Nat) (x:Str) (ps:List Str) (fr:Bool) (F:List Dat->Rs):Prop where
 cal:Cal P w K mg base k x ps (spD K fr ps.length F)
 len:∀ ds d,F ds=.ok d->ds.length=ps.length
theorem Mtb.some {o:Option HO} (h:Mtb o):∃ u,o=Option.some u:=by
 cases o with
 | none=>exact h.elim
 | some u=>exact ⟨u,rfl⟩
theorem Gy {K:PySem.W.Frag} {H:Hp} {R:AS} {N:List Str} {ds:List Dat} {vs:List V} (mu:Ud R H) (r:W8 K (av H R) ds vs) (hl:ds.length<=N.length):EnvOk K ⟨H,R,true⟩ R H (start N vs) (Th N.length ds):=by
 have hn:=Zv r;refine ⟨Zp.refl H,fun a h=>(mu a h).some,fun _ h=>h,fun _ h=>.inl h,mu,by simp [start,Th];lia,fun _ i d=>?_,fun _ _=>False,fun _ _ _ h=>h.elim,fun _ _ h=>h.elim,fun i s e=>?_⟩
 ·unfold Th
  rw [List.getElem?_append];split
  ·rw [getElem?_map]
   cases ds[i]?<;>simp
  ·rw [List.getElem?_replicate]
   split<;>simp
 ·unfold Th at e
  unfold start;rw [List.getElem?_append] at e ⊢;simp only [length_map] at e ⊢;rw [hn];split at e
  ·rename_i hi
   rw [if_pos hi];rw [getElem?_map] at e ⊢;cases hd:ds[i]? with
   | none=>rw [hd] at e;cases e
   | some d =>
    rw [hd] at e;cases e;obtain ⟨v,h1,h2⟩:=Ri r hd;rw [h1];exact ⟨some v,rfl,v,rfl,h2⟩
  ·rename_i hi
   rw [if_neg hi];rw [List.getElem?_replicate] at e ⊢;split at e
   ·rename_i h2
    cases e;rw [if_pos h2];exact ⟨none,rfl,trivial⟩
   ·cases e
theorem Hy {fr:Bool} {X:Cx} {N:List Str} {p:Nat} {g:Ev->Fl} {ds:List Dat} {d:Dat} {R:AS} {H:Hp} {vs:List V} {Q:VK} (hp:p<=N.length) (mu:Ud R H) (r:W8 X.K (av H R) ds vs) (hF:We N.length p g ds=.ok d)
  (q:∀ v H',Zp H H'->Rp X.K (av H' R) d v->(fr=true->NwT X.K ⟨H,R,true⟩ H' d v)->Q v H') :
  tS fr X g (Ends.mk (fun _ H'=>Q .non H') Q (fun _ _=>False) (fun _ _=>False)) (start N vs) H:=by
 unfold We at hF;split at hF
 ·rename_i hl
  refine ⟨Th N.length ds,⟨H,R,true⟩,R,Gy mu r (by lia),rfl,?_⟩;split at hF
  ·rename_i d' e
   cases hF;rw [e];exact fun v H' s r n=>q v H' s r n
  ·rename_i env e
   cases hF;rw [e];exact fun A' H' σ' s k=>q .non H' k.h0 Il (fun _ ds e=>by cases e)
  ·cases hF
  ·cases hF
 ·cases hF
section
variable {P:Program} {w:World} {K:PySem.W.Frag} {mg:Str->Option Value} {base:Heap}
theorem Oa {n p:Nat} {g:Ev->Fl} {ds:List Dat} {d:Dat} (h:We n p g ds=.ok d):ds.length=p:=by
 unfold We at h;split at h
 ·assumption
 ·cases h
theorem ar0 {α:Type} {P:List α->Prop} (us:List α) (hl:us.length=0) (h:P []):P us:=by cases us with | nil=>exact h | cons _ _=>cases hl
@[elab_as_elim] theorem ar1 {α:Type} {P:List α->Prop} (us:List α) (hl:us.length=1) (h:∀ a,P [a]):P us:=by
 cases us with
 | nil=>cases hl
 | cons a us=>exact ar0 (P:=fun us=>P (a::us)) us (Nat.succ.inj hl) (h a)
@[elab_as_elim] theorem ar2 {α:Type} {P:List α->Prop} (us:List α) (hl:us.length=2) (h:∀ a b,P [a,b]):P us:=by
 cases us with
 | nil=>cases hl
 | cons a us=>exact ar1 (P:=fun us=>P (a::us)) us (Nat.succ.inj hl) (h a)
@[elab_as_elim] theorem ar3 {α:Type} {P:List α->Prop} (us:List α) (hl:us.length=3) (h:∀ a b c,P [a,b,c]):P us:=by
 cases us with
 | nil=>cases hl
 | cons a us=>exact ar2 (P:=fun us=>P (a::us)) us (Nat.succ.inj hl) (h a)
@[elab_as_elim] theorem ar4 {α:Type} {P:List α->Prop} (us:List α) (hl:us.length=4) (h:∀ a b c d,P [a,b,c,d]):P us:=by
 cases us with
 | nil=>cases hl
 | cons a us=>exact ar3 (P:=fun us=>P (a::us)) us (Nat.succ.inj hl) (h a)
@[elab_as_elim] theorem ar5 {α:Type} {P:List α->Prop} (us:List α) (hl:us.length=5) (h:∀ a b c d e,P [a,b,c,d,e]):P us:=by
 cases us with
 | nil=>cases hl
 | cons a us=>exact ar4 (P:=fun us=>P (a::us)) us (Nat.succ.inj hl) (h a)
@[elab_as_elim] theorem ar6 {α:Type} {P:List α->Prop} (us:List α) (hl:us.length=6) (h:∀ a b c d e f,P [a,b,c,d,e,f]):P us:=by
 cases us with
 | nil=>cases hl
 | cons a us=>exact ar5 (P:=fun us=>P (a::us)) us (Nat.succ.inj hl) (h a)
theorem Vy {x:Str} {st:Stmt} {N ps:List Str} {k:Nat} {fr:Bool} {g:Ev->Fl} (D:Def K mg x st) (S:FnScope N ps (Z7 st))
  (hbi:∀ (kV doc pm:Value) (an:Option Addr) (cdv ct:Value) (us:List Value),us.length=ps.length->bindArgs (fnOf x x (Wi st) (Y6 st) (Z7 st) .none kV doc pm an cdv ct) ⟨us,[]⟩=pure (ps.zip us))
  (hb:∀ (f:Addr) (cdv:Value) (A:Around) (outer:List Env) (s:Shared) (H:Hp) (E:XK),Room k (A.deeper (envOfC x (Z7 st) s.heap.objs.size f cdv))->Kv fr (Ts Sc P w K mg base N x (Z7 st) f cdv A outer s H E).nox (Y6 st) g) :
  CalD P w K mg base (k+1) x ps fr (We N.length ps.length g):=by
 have hpl:ps.length<=N.length:=by have:=congrArg List.length S.pre;rw [length_take] at this;lia
 refine ⟨Z7f D S hbi (fun vs H Q E h=>h.1) fun f cdv A outer s H vs Q E hr ⟨hl,ds,R,d,mu,r,hF,q⟩=>⟨_,hb f cdv A outer s H E hr,?_⟩,fun ds d h=>Oa h⟩;exact Hy hpl mu r hF q
def Po (K:PySem.W.Frag):Sp:=fun vs H Q _=>∃ (a:Addr) (ns:List Int),vs=[.ref a]/\SL K H a (ns.map V.int)/\ns.length<=63/\∀ H',Q (.bl true) H'
theorem Zav {x:Str} {st:Stmt} {f:Addr} {fd:FuncData} {N ps:List Str} {k:Nat} {g:Ev->Fl} (F:Fun K x x st f fd) (S:FnScope N ps (Z7 st)) (hps:ps.length=1)
  (hb:∀ (cdv:Value) (A:Around) (outer:List Env) (s:Shared) (H:Hp) (E:XK),Room k (A.deeper (envOfC x (Z7 st) s.heap.objs.size f cdv))->Kv false (Ts Sc P w K mg base N x (Z7 st) f cdv A outer s H E).nox (Y6 st) g)
  (law:∀ ns:List Int,ns.length<=63->We N.length 1 g [.lst (ns.map .int)]=.ok (.bl true)):FnOk P w K mg base Sc (k+1) f fd ps (Po K):=by
 have hpl:ps.length<=N.length:=by have:=congrArg List.length S.pre;rw [length_take] at this;lia
 refine Z5j F S (fun vs H Q E ⟨a,ns,e,_⟩=>by rw [e,hps];rfl) fun cdv A outer s H vs Q E hr ⟨a,ns,e,hS,hl,q⟩=>⟨_,hb cdv A outer s H E hr,?_⟩
 subst e;refine Hy (R:=no) (d:=.bl true) (by lia) (fun a h=>by cases h) (ds:=[.lst (ns.map .int)]) ?_ (law ns hl) fun v H' _ r _=>by rw [Ez r];exact q H'
 rw [Fx];refine Qr (E7 ?_ hS (D8 ns));rw [length_map];exact le_of_lt (Q1 (by lia))
variable {X:Cx} {m:Bool} {fr:Bool} {F:List Dat->Rs} {k:Nat} {x:Str} {ps:List Str} {e:Expr} {es:List Expr} {fs:Ev->Option (List Dat)} {p pos:Pos}
def okR:Rs->Option Dat
 | .ok d=>some d
 | _=>none
theorem Gp {r:Rs} {d:Dat} (h:okR r=some d):r=.ok d:=by cases r<;>cases h;rfl
def Yu (F:List Dat->Rs) (fs:Ev->Option (List Dat)):Ev->Option Dat:=fun env=>(fs env).bind fun ds=>okR (F ds)
theorem Zaj (C:CalD X.prog X.w X.K X.mg X.base k x ps fr F) (hr:Room k X.A) (ha:Km false X (e::es) fs) (hg:Gl X x:=by rfl)
  (hdb:(x==("__debug__" : Str))=false:=by decide) (he:starEach (e::es) X.env=(false,eval e X.env)::starEach es X.env:=by rfl) (hpl:(backTo pos (starEach es X.env)).any (·.1)=false:=by rfl) :
  W4 m X (.Call (.Name x p) (e::es) [] pos) (Yu F fs):=W4.any ((Z9t C.cal hr ha hg hdb he hpl).weak fun σ H Q zz=>by
 obtain ⟨env,R,A,d,k,q1,q2⟩:=zz;obtain ⟨ds,e1,e2⟩:=bind_some q1;have e3:=Gp e2;refine ⟨env,R,A,ds,k,e1,fun vs H1 s1 rs=>⟨by rw [Zv rs.rps];exact C.len ds d e3,ds,A,d,k.mu.mono s1,rs.rps,e3,fun v H' s r _=>q2 v H' (s1.trans s) r⟩⟩)
mutual
def P5:Dat->Bool
 | .lst _=>false
 | .dct _=>false
 | .exc _ _=>false
 | .tup xs=>O4 xs
 | .non=>true
 | .bl _=>true
 | .int _=>true
 | .str _=>true
def O4:List Dat->Bool
 | []=>true
 | x::xs=>P5 x&&O4 xs
end
theorem Z86 {K:PySem.W.Frag} {H:Hp} {A:AS} {a:Addr} {vs:List V} (mu:Ud A H) (h:Mv K H a vs):Mv K (av H A) a vs:=by
 rcases h with h | h
 ·left
  have hA:A a=false:=by
   cases q:A a with
   | false=>rfl
   | true =>
    have:=mu a q;rw [h] at this;exact this.elim
  exact Wx h hA
 ·exact .inr h
mutual
theorem Rp.pure {K:PySem.W.Frag} {H:Hp} {A:AS} (mu:Ud A H):∀ {d:Dat} {v:V},P5 d=true->Rp K H d v->Rp K (av H A) d v
 | .non,v,_,r=>by rw [K3 r];exact Il
 | .bl b,v,_,r=>by rw [Ez r];exact Vd
 | .int b,v,_,r=>by rw [Mo r];exact Yk
 | .str b,v,_,r=>by obtain ⟨e,h⟩:=Gn r;rw [e];exact Dx h
 | .lst _,v,h,_=>by cases h
 | .dct _,v,h,_=>by cases h
 | .exc _ _,v,h,_=>by cases h
 | .tup xs,v,h,r=>by
  obtain ⟨a,vs,e,h1,h2⟩:=Jl r;subst e;exact Fh (A6 r) (Z86 mu h1) (W8.pure mu (by simpa [P5] using h) h2)
theorem W8.pure {K:PySem.W.Frag} {H:Hp} {A:AS} (mu:Ud A H):∀ {ds:List Dat} {vs:List V},O4 ds=true->W8 K H ds vs->W8 K (av H A) ds vs
 | [],vs,_,r=>by rw [Yn r];exact Vl
 | d::ds,vs,h,r=>by
  obtain ⟨v,us,e,r1,r2⟩:=Y3 r;subst e;rw [O4,Bool.and_eq_true] at h;exact U4 (Rp.pure mu h.1 r1) (W8.pure mu h.2 r2)
end
end
section
variable {X:Cx} {m:Bool}
end
def Ite (sq:Hp->List V->Prop):It :=
 ⟨fun i H=>∃ xs x,sq H xs/\xs[i]?=some x,
  fun i H v H'=>∃ p x,v=.ref p/\H p=none/\(∀ xs,sq H xs->xs[i]?=some x)/\H'=W6 H p (.tup [.int i,x]),
  fun i H=>∃ xs,sq H xs/\xs.length=i⟩
theorem Inv.turnedT {X:Cx} {pins:List (Addr×Obj)} {σ:St} {H:Hp} {s:Shared} {h':Heap} {tk:Nat} {ch:List Addr} {T:Addr} {xs:List V} {its:List Value} (I:Inv X pins σ H s) (hf:∀ b∈ch,S3 X pins H b)
  (kk:∀ b o,b∉ch->s.heap.get? b=some o->h'.get? b=some o) (hT:s.heap.objs.size<=T) (rv:Zx xs its) (hz:xs.length<=sizeLine) (ht:IsTup h' T its.toArray) :
  Inv X pins σ (W6 H T (.tup xs)) { s with heap:=h',toks:=tk }:=by
 have hn:H T=none:=I.hok.fresh hT;have nch:∀ b u,H b=some u->b∉ch:=fun b u e z=>by rw [(hf b z).1] at e;cases e
 refine I.call' (ch:=ch) rfl ⟨fun b o q n _ hx=>kk b o hx q,fun b o q n _ hx=>⟨o.slots,kk b o hx q⟩,fun b o q n hx=>?_,fun b o q hx=>⟨o,kk b o hx q⟩,fun b ys q=>?_,fun b o u q=>?_,fun b ps q=>⟨#[],?_⟩⟩ (fun b u e=>?_) I.bare fun b hb=>⟨(hf b hb).2.2.2.1,(hf b hb).2.1,(hf b hb).2.2.2.2.1,(hf b hb).2.2.2.2.2⟩
 ·rw [Zj (ne_of_lt (lt_of_lt_of_le (lt_size q) hT))];exact n
 ·rw [Zj (Y0 q hn)];exact q
 ·rw [Zj (Y0 q hn)];exact q
 ·rw [Zj (Y0 q hn),q];simp
 ·by_cases hb:b=T
  ·subst hb
   rw [Zt] at e;cases e;exact ⟨hz,its,rv,ht⟩
  ·rw [Zj hb] at e
   refine (I.hok b u e).stay (fun c v hc q=>?_) (fun c q=>?_) fun c ys q=>?_
   ·rcases hc with hc | hc
    ·subst hc;exact kk c v (nch c u e) q
    ·exact kk c v (nch c _ hc) q
   ·rw [Zj (Y0 q hn)];exact q
   ·rw [Zj (Y0 q hn)];exact q
theorem Inv.turnedN {X:Cx} {pins:List (Addr×Obj)} {σ:St} {H:Hp} {s:Shared} {h':Heap} {tk:Nat} {ch:List Addr} (I:Inv X pins σ H s) (hf:∀ b∈ch,S3 X pins H b)
  (kk:∀ b o,b∉ch->s.heap.get? b=some o->h'.get? b=some o):Inv X pins σ H { s with heap:=h',toks:=tk }:=by
 have nch:∀ b u,H b=some u->b∉ch:=fun b u e z=>by rw [(hf b z).1] at e;cases e
 refine I.call' (ch:=ch) rfl ⟨fun b o q n _ hx=>kk b o hx q,fun b o q n _ hx=>⟨o.slots,kk b o hx q⟩,fun b o q n hx=>n,fun b o q hx=>⟨o,kk b o hx q⟩,fun b ys q=>q,fun b o u q=>q,fun b ps q=>⟨#[],by rw [q];simp⟩⟩ (fun b u e=>?_) I.bare fun b hb=>⟨(hf b hb).2.2.2.1,(hf b hb).2.1,(hf b hb).2.2.2.2.1,(hf b hb).2.2.2.2.2⟩
 refine (I.hok b u e).stay (fun c v hc q=>?_) (fun c q=>q) fun c ys q=>q
 rcases hc with hc | hc
 ·subst hc;exact kk c v (nch c u e) q
 ·exact kk c v (nch c _ hc) q
theorem Ll {P:Program} {w:World} {K:PySem.W.Frag} {es:List Expr} {k:Nat} {pos:Pos} (a e it:Addr) (itS:Nat->Heap->Prop) (IsS:Heap->Array Value->Prop) (sq:Hp->List V->Prop)
  (hS:∀ h h' i,itS i h->(∀ o,h.get? it=some o->h'.get? it=some o)->itS i h')
  (hO:∀ h i,itS i h->∃ o,h.get? it=some o/\o.cls≠.type "enumerate" /\ ∀ v,o.data≠.cell v)
  (hA:∀ h items,IsS h items->∃ o,h.get? a=some o/\o.cls≠.type "enumerate" /\ ∀ h' i,itS i h'->∀ o',h'.get? it=some o'->o'.cls≠o.cls)
  (hD:∀ A:Around,A.handled=none->a≠it->∀ items:Array Value,Draws P w A it [it,a] items.size (fun i v=>items[i]?=some v) (fun i h=>itS i h/\IsS h items))
  (hg:∀ (X:Cx) (pins:List (Addr×Obj)) (σ:St) (H:Hp) (s:Shared) (xs:List V),X.K=K->Inv X pins σ H s->sq H xs->∃ its,Zx xs its/\IsS s.heap its.toArray)
  (hj:∀ (X:Cx) (pins:List (Addr×Obj)) (σ:St) (H:Hp) (s:Shared) (xs ys:List V),X.K=K->Inv X pins σ H s->sq H xs->sq H ys->xs=ys) :
  Turn P w K (.Tuple es k pos) (Ite sq) [e,it] e (fun i h=>(∃ old,IsEnum h e it i old)/\itS i h) where
 mem:=by simp
 obj:=fun i h st b hb=>by
  rcases mem_cons.mp hb with rfl | hb
  ·obtain ⟨⟨old,z⟩,_⟩:=st;exact ⟨_,z,fun v q=>by cases q⟩
  ·rw [mem_singleton.mp hb];obtain ⟨o,h1,_,h2⟩:=hO h i st.2;exact ⟨o,h1,h2⟩
 keep:=fun i h h' st kk=>by
  obtain ⟨⟨old,z⟩,q⟩:=st;exact ⟨⟨old,kk e (by simp) _ z⟩,hS h h' i q fun o r=>kk it (by simp) o r⟩
 item:=by
  intro X hP hw hK hc i pins s σ H E I hf st hgo;subst hP hw;obtain ⟨xs,x,hsq,hx⟩:=hgo;obtain ⟨its,rv,hI⟩:=hg X pins σ H s xs hK I hsq;obtain ⟨u,hu,ru⟩:=rv.get hx;obtain ⟨⟨old,hE⟩,hIt⟩:=st;obtain ⟨oi,hoi,hci,_⟩:=hO _ _ hIt;obtain ⟨oa,hoa,hca,hcc⟩:=hA _ _ hI;have hne:a≠it:=by intro z;rw [z,hoi] at hoa;cases hoa;exact hcc _ _ hIt _ hoi rfl
  have hei:e≠it:=by intro z;rw [← z,hE] at hoi;cases hoi;exact hci rfl
  have hea:e≠a:=by intro z;rw [← z,hE] at hoa;cases hoa;exact hca rfl
  have W:=WalksT.enumerateD (hD X.A.in1 (I.ok.hd hc) hne its.toArray) e hei (by simp [hei,hea]) (by simp);have hi:i<its.toArray.size:=by rw [size_toArray];exact (List.getElem?_eq_some_iff.mp hu).1
  refine W.item i s _ _ hi ⟨⟨old,hE⟩,hIt,hI⟩ fun T vals h' tk hPt hT hTup hM hk=>⟨.ref T,rfl,W.go es k pos i T _ _ _ hM fun h2 hst hk2=>?_⟩
  obtain ⟨t,x',hx',rfl⟩:=hPt;have hxu:x'=u:=by
   have:its[i]?=some x':=by simpa using hx'
   rw [hu] at this;exact (Option.some.inj this).symm
  subst hxu;have hTup2:IsTup h2 T #[.int i t,x']:=by
   obtain ⟨o,ho,r⟩:=hTup;exact ⟨o,hk2 T o (W.apart i T h' hM) ho,r⟩
  have I2:=Inv.turnedT (s:=s) (h':=h2) (tk:=tk) (ch:=[e,it]) (its:=[.int i t,x']) (xs:=[.int i,x]) I hf (fun b o hb q=>hk2 b o hb (hk b o hb q)) hT (.cons ⟨t,rfl⟩ (.cons ru .nil)) (by show 2<=sizeLine;decide) hTup2;refine ⟨.ref T,W6 H T (.tup [.int i,x]),I2,rfl,⟨T,x,rfl,I.hok.fresh hT,fun ys hy=>?_,rfl⟩,⟨hst.1,hst.2.1⟩,fun b hb=>?_⟩
  ·rw [hj X pins σ H s ys xs hK I hy hsq];exact hx
  ·rw [Zj ?_];exact (hf b hb).1
   intro z;have hlt:b<s.heap.objs.size:=by
    rcases mem_cons.mp hb with rfl | hb
    ·exact lt_size hE
    ·rw [mem_singleton.mp hb];exact lt_size hoi
   exact absurd (lt_of_lt_of_le hlt (by rw [z];exact hT)) (lt_irrefl _)
 done:=by
  intro X hP hw hK hc i pins s σ H E I hf st hs;subst hP hw;obtain ⟨xs,hsq,hl⟩:=hs;obtain ⟨its,rv,hI⟩:=hg X pins σ H s xs hK I hsq;obtain ⟨⟨old,hE⟩,hIt⟩:=st;obtain ⟨oi,hoi,hci,_⟩:=hO _ _ hIt;obtain ⟨oa,hoa,hca,hcc⟩:=hA _ _ hI;have hne:a≠it:=by intro z;rw [z,hoi] at hoa;cases hoa;exact hcc _ _ hIt _ hoi rfl
  have hei:e≠it:=by intro z;rw [← z,hE] at hoi;cases hoi;exact hci rfl
  have hea:e≠a:=by intro z;rw [← z,hE] at hoa;cases hoa;exact hca rfl
  have W:=WalksT.enumerateD (hD X.A.in1 (I.ok.hd hc) hne its.toArray) e hei (by simp [hei,hea]) (by simp);have hn:its.toArray.size=i:=by rw [size_toArray,← rv.length];exact hl
  refine W.done s _ _ (by rw [hn];exact ⟨⟨old,hE⟩,hIt,hI⟩) fun h' tk hk=>⟨rfl,I.turnedN (ch:=[e,it]) hf fun b o hb q=>hk b o hb q⟩
 self:=fun A i s Q E st h=>by
  obtain ⟨⟨old,z⟩,_⟩:=st;exact wpAny_pyIter_enum z h
section
variable {st m:Bool} {X:Cx} {l:Expr} {es:List Expr} {f:Ev->Option Dat} {tk:Nat} {tpos:Pos}
theorem Xd (a e it:Addr):Turn X.prog X.w X.K (.Tuple es tk tpos) (Ite fun H xs=>Mv X.K H a xs) [e,it] e (fun i h=>(∃ old,IsEnum h e it i old)/\h.IsTupleIter it a i) :=
 Ll a e it (fun i h=>h.IsTupleIter it a i) (fun h items=>h.IsTuple a items) _ (fun h h' i q kk=>let ⟨o,h1,r⟩:=q;⟨o,kk o h1,r⟩)
  (fun h i q=>let ⟨o,h1,h2,h3⟩:=q;⟨o,h1,by rw [h2];decide,fun v z=>by rw [h3] at z;cases z⟩)
  (fun h items q=>let ⟨o,h1,h2,_⟩:=q;⟨o,h1,by rw [h2];decide,fun h' i r o' e'=>by obtain ⟨o2,g1,g2,_⟩:=r;rw [g1] at e';cases e';rw [g2,h2];decide⟩)
  (fun A hh hne items=>Draws.tupleD hh it a hne items)
  (fun Y pins σ H s xs hK I h=>by rw [← hK] at h;obtain ⟨its,r,p,_⟩:=I.tuple h;exact ⟨its,r,p⟩)
  (fun Y pins σ H s xs ys hK I h h'=>by rw [← hK] at h h';exact I.tuple_inj h h')
theorem Fi (a e it:Addr):Turn X.prog X.w X.K (.Tuple es tk tpos) (Ite fun H xs=>R1 X.K H a xs) [e,it] e (fun i h=>(∃ old,IsEnum h e it i old)/\h.IsListIter it a i) :=
 Ll a e it (fun i h=>h.IsListIter it a i) (fun h items=>h.IsList a items) _ (fun h h' i q kk=>let ⟨o,h1,r⟩:=q;⟨o,kk o h1,r⟩)
  (fun h i q=>let ⟨o,h1,h2,h3⟩:=q;⟨o,h1,by rw [h2];decide,fun v z=>by rw [h3] at z;cases z⟩)
  (fun h items q=>let ⟨o,h1,h2,_⟩:=q;⟨o,h1,by rw [h2];decide,fun h' i r o' e'=>by obtain ⟨o2,g1,g2,_⟩:=r;rw [g1] at e';cases e';rw [g2,h2];decide⟩)
  (fun A hh hne items=>Draws.list hh it a hne items)
  (fun Y pins σ H s xs hK I h=>by rw [← hK] at h;obtain ⟨its,r,p,_⟩:=I.list h;exact ⟨its,r,p.isList⟩)
  (fun Y pins σ H s xs ys hK I h h'=>by rw [← hK] at h h';exact I.list_inj h h')
def Rn:Nat->List Dat->List Dat
 | _,[]=>[]
 | k,x::xs=>.tup [.int k,x]::Rn (k+1) xs
theorem Gw:∀ (xs:List Dat) (k i:Nat),(Rn k xs)[i]?=(xs[i]?).map fun x=>.tup [.int ((k+i:Nat):Int),x]
 | [],k,i=>by simp [Rn]
 | x::xs,k,0=>by simp [Rn]
 | x::xs,k,i+1=>by
  rw [Rn,List.getElem?_cons_succ,List.getElem?_cons_succ,Gw xs (k+1) i,show k+1+i=k+(i+1) by lia]
theorem Tc:∀ (xs:List Dat) (k:Nat),(Rn k xs).length=xs.length
 | [],_=>rfl
 | x::xs,k=>by rw [Rn,length_cons,length_cons,Tc xs]
def Lp (f:Ev->Option Dat):Ev->Option (List Dat):=fun env=>(Qi f env).map (Rn 0)
theorem Bf {K:PySem.W.Frag} {A:AS} {H:Hp} {vs:List V} {ds:List Dat} {sq:Hp->List V->Prop} (h:∀ A1 H1,Adv st A H A1 H1->sq H1 vs) (r:W8 K (av H A) ds vs):F7 st K A H (Rn 0 ds) (Ite sq):=fun A1 H1 adv mu=>by
 have h1:=h A1 H1 adv;have r1:=r.mono adv.step.av;refine ⟨fun i x e=>?_,⟨vs,h1,by rw [Tc];exact Zv r⟩⟩;rw [Gw] at e;obtain ⟨d,e1,e2⟩:=map_some e;subst e2;obtain ⟨v,e3,e4⟩:=Ri r1 e1;refine ⟨⟨vs,v,h1,e3⟩,fun v' H2 ⟨p,x,z1,z2,z3,z4⟩=>?_⟩;subst z1 z4;have:=z3 vs h1;rw [e3] at this;cases this;refine ⟨Zp.new z2,Fh (by show 2<=sizeLine;decide) (.inl (Wx Zt (mu.new z2))) (U4 ?_ (Qr (e4.mono (V6 (Zp.new z2)))))⟩;rw [Nat.zero_add];exact Yk
def Z87 (K:PySem.W.Frag) (ta:TA):TI:=fun σ H R=>ta σ H fun vs H1=>∃ a,vs=[.ref a]/\(∃ xs,R1 K H1 a xs)/\R (Ite fun H xs=>R1 K H a xs) H1
def Z7a (K:PySem.W.Frag) (ta:TA):TI:=fun σ H R=>ta σ H fun vs H1=>∃ a,vs=[.ref a]/\(∃ xs,Mv K H1 a xs)/\R (Ite fun H xs=>Mv K H a xs) H1
theorem fp2 {pins:List (Addr×Obj)} {σ:St} {H:Hp} {s:Shared} (I:Inv X pins σ H s):∀ b∈[s.heap.objs.size+1,s.heap.objs.size],S3 X pins H b:=fun b hb=>by
 rcases mem_cons.mp hb with rfl | hb
 ·exact I.fpOk (le_succ _) (I.hok.fresh (le_succ _))
 ·rw [mem_singleton.mp hb];exact I.fpOk (le_refl _) (I.hok.fresh (le_refl _))
theorem Z0o {ta:TA} {p pos:Pos} (hg:Gl X "enumerate") (hm:X.mg "enumerate" = none) (hv:bootBuiltins "enumerate" = some (.type "enumerate")) (ha:PA X [l] ta) (hs:starEach [l] X.env=[(false,eval l X.env)]:=by rfl):PI X (.Tuple es tk tpos) (.Call (.Name "enumerate" p) [l] [] pos) (Z87 X.K ta):=by
 intro pins s σ H R I h;refine Call_ (M4 I hg hm hv (PyProof.Rows.callWith_type1 (Wh (ha pos pins s σ H _ I h) fun us s1 ⟨vs,H1,I1,r1,q1⟩=>?_) hs rfl));obtain ⟨a,e,⟨xs,hq⟩,q⟩:=q1;subst e;obtain ⟨u,rfl,ru⟩:=Q7 r1;cases ru;obtain ⟨its,rv,pl,hz⟩:=I1.list hq;refine call_enumerate_list pl.isList fun h' h1 h2 h3 h4=>?_
 have I2:Inv X pins σ H1 { s1 with heap:=h' }:=I1.kept (t':=s1.toks) h4;refine wpAny_pyIter_enum (s:={ s1 with heap:=h' }) h1 ?_;exact ⟨s1.heap.objs.size+1,[s1.heap.objs.size+1,s1.heap.objs.size],_,_,H1,rfl,I2,Fi a _ _,⟨⟨_,h1⟩,h2⟩,fp2 I1,q⟩
theorem Z1r {ta:TA} {p pos:Pos} (hg:Gl X "enumerate") (hm:X.mg "enumerate" = none) (hv:bootBuiltins "enumerate" = some (.type "enumerate")) (ha:PA X [l] ta) (hs:starEach [l] X.env=[(false,eval l X.env)]:=by rfl):PI X (.Tuple es tk tpos) (.Call (.Name "enumerate" p) [l] [] pos) (Z7a X.K ta):=by
 intro pins s σ H R I h;refine Call_ (M4 I hg hm hv (PyProof.Rows.callWith_type1 (Wh (ha pos pins s σ H _ I h) fun us s1 ⟨vs,H1,I1,r1,q1⟩=>?_) hs rfl));obtain ⟨a,e,⟨xs,hq⟩,q⟩:=q1;subst e;obtain ⟨u,rfl,ru⟩:=Q7 r1;cases ru;obtain ⟨its,rv,pl,hz⟩:=I1.tuple hq;refine Mh (show s1.heap.IsTuple a its.toArray from pl) fun h' h1 h2 h3 h4=>?_
 have I2:Inv X pins σ H1 { s1 with heap:=h' }:=I1.kept (t':=s1.toks) h4;refine wpAny_pyIter_enum (s:={ s1 with heap:=h' }) h1 ?_;exact ⟨s1.heap.objs.size+1,[s1.heap.objs.size+1,s1.heap.objs.size],_,_,H1,rfl,I2,Xd a _ _,⟨⟨_,h1⟩,h2⟩,fp2 I1,q⟩
theorem No {p pos:Pos} (hg:Gl X "enumerate") (hm:X.mg "enumerate" = none) (h:W4 false X l f) (hv:bootBuiltins "enumerate" = some (.type "enumerate"):=by decide +kernel) (hs:starEach [l] X.env=[(false,eval l X.env)]:=by rfl):PId st X (.Tuple es tk tpos) (.Call (.Name "enumerate" p) [l] [] pos) (Lp f) :=
 ((Z0o hg hm hv (V7 h Q8 hs) hs).or (Z1r hg hm hv (V7 h Q8 hs) hs)).weak fun σ H R' zz=>by
 obtain ⟨env,R,A,ds,k,e,q⟩:=zz;obtain ⟨xs,e0,e1⟩:=map_some e;subst e1;unfold Qi at e0;split at e0
 ·rename_i ys e1
  cases e0;refine .inl ⟨env,R,A,.lst xs,k,e1,fun v H1 s1 p1=>?_⟩;obtain ⟨a,vs,e2,h1,r1⟩:=Mj (show Rp X.K (av H1 A) (.lst xs) v from p1);subst e2;exact ⟨a,rfl,⟨vs,(Yy.sl h1).sq⟩,q _ H1 (by rw [Tc];exact p1.pk.lenL) s1 (Bf (vs:=vs) (fun A1 H2 adv=>(Yy.sl (adv.step.av.sl h1)).sq) r1)⟩
 ·rename_i ys e1
  cases e0;refine .inr ⟨env,R,A,.tup xs,k,e1,fun v H1 s1 p1=>?_⟩;obtain ⟨a,vs,e2,h1,r1⟩:=Jl (show Rp X.K (av H1 A) (.tup xs) v from p1);subst e2;exact ⟨a,rfl,⟨vs,Yy.seqT h1⟩,q _ H1 (by rw [Tc];exact p1.pk.lenT) s1 (Bf (vs:=vs) (fun A1 H2 adv=>Yy.seqT (adv.step.av.seqT h1)) r1)⟩
 ·cases e0
end
end L2
namespace L2
open PySem
section
variable {prog:Program} {w:World} {A:Around} {E:Value->Shared->Prop} {h:Heap} {g:Array GenState} {d:Drawn} {t:Nat} {os:OsState}
variable {nm q:Str} {C N:Addr} {bs bm bmB:List Value} {hdct:Bool} {sn:List Str} {sub:List Value} {ab:Bool} {col:Option Bool} {dd:Option Addr} {k0 k1 k2 k3 k5:Option Value} {B Bn newId nid initId inN:String} {bmN:List Value}
theorem G6 (Fn:ExcBaseFacts Bn newId inN bmN) (hBn:bmB.contains (.type Bn)=true) (F:ExcBaseFacts B nid initId bmB) (T:OwnTail h bmB bm) {mN:Str->Option Value} {rest:List Value} {fI:Addr} {oI:Obj} {Q:Fin->Shared->Prop}
   (hC:h.get? C=some (excClassObj nm q C N bs bm hdct sn sub ab col dd k0 k1 k2 k3 k5 newId)) (hn:h.Ns N mN) (hi:mN "__init__" = some (.ref fI))
   (hfI:h.get? fI=some oI) (hfc:oI.cls=.type "function")
   (hq:∀ h' e,h.objs.size<=e->Heap.MadeExcOf h h' e (.ref C) rest ->
     wpAny (model prog w) A (call (.ref fI) (.ref e::rest)) (fun r s'=>r=.none/\Q (.done (.ret (.ref e))) s') E ⟨h',g,d,t,os⟩) (hrest:rest.length<=sizeLine:=by size_fits) :
   wpAny (model prog w) A (Builtin.«type.__call__» ⟨.ref C::rest,[]⟩) Q E ⟨h,g,d,t,os⟩:=by
 repeat (first | with_reducible refine wpAny_loadPart_at hC ?_ | with_reducible refine wpAny_madeBy_exc hC ?_ | wp_step)
 refine codeAny_call_builtin_code (Code.quiet_builtin _ Fn.quiet) (wpAny_check_new_subU Fn hBn T hC ?_);refine codeAny_exc_new_subU Fn hBn F T hC ?_ hrest;show wpAny _ _ _ _ _ _;have hC₁:=get?_push_of_some { cls:=.ref C,data:=.fields #[.ref h.objs.size,.none,.none,.none,.bool false,.none] }
   (get?_push_of_some { cls:=.type "tuple",data:=.seq rest.toArray } hC)
 have hfI₁:=get?_push_of_some { cls:=.ref C,data:=.fields #[.ref h.objs.size,.none,.none,.none,.bool false,.none] }
   (get?_push_of_some { cls:=.type "tuple",data:=.seq rest.toArray } hfI)
 have hn₁:((h.push { cls:=.type "tuple",data:=.seq rest.toArray }).push { cls:=.ref C,data:=.fields #[.ref h.objs.size,.none,.none,.none,.bool false,.none] }).Ns N mN :=
   let ⟨o,es,ep,e,r⟩:=hn;⟨o,es,ep,get?_push_of_some _ (get?_push_of_some _ e),r⟩
 have hget:((h.push { cls:=.type "tuple",data:=.seq rest.toArray }).push
     { cls:=.ref C,data:=.fields #[.ref h.objs.size,.none,.none,.none,.bool false,.none] }).get? (h.objs.size+1)=some
     { cls:=.ref C,data:=.fields #[.ref h.objs.size,.none,.none,.none,.bool false,.none] }:=by heap_get
 have hcC:(Value.ref C::bm).contains (.ref C)=true:=by simp
 have T₁:=T.keeps (h':=(h.push { cls:=.type "tuple",data:=.seq rest.toArray }).push { cls:=.ref C,data:=.fields #[.ref h.objs.size,.none,.none,.none,.bool false,.none] })
   fun b o e=>get?_push_of_some _ (get?_push_of_some _ e)
 unfold isInstance;repeat (first | with_reducible refine wpAny_loadPart_at hget ?_ | (with_reducible refine wpAny_isSubtype_exc hC₁ ?_;rw [hcC]) | wp_step)
 show wpAny _ _ (typeLookup (.ref C) _) _ _ _;refine wpAny_typeLookup_tail hC₁ hn₁ T₁ F.mroIs F.init.lookup ?_;rw [hi];refine wpAny_holding (wpAny_bind ?_);unfold bindSpecial;refine wpAny_bind (wpAny_typeOf (T:="function") ⟨_,hfI₁,hfc⟩ ?_);rw [if_pos (by decide)];refine wpAny_pure (wpAny_bind (wpAny_mono (hq _ (h.objs.size+1) (le_succ _) ⟨fun b o hb=>get?_push_of_some _ (get?_push_of_some _ hb),Heap.get?_none_of_le (le_succ _),h.objs.size,hget,Heap.get?_none_of_le (le_refl _),?_⟩) (fun r s' hr=>?_) fun _ _ x=>x))
 · exact get?_push_of_some _ (Heap.get?_push_at rfl rfl)
 · obtain ⟨rfl,hQ⟩:=hr
   wp_walk
   exact hQ
theorem K6 (Fn:ExcBaseFacts Bn newId inN bmN) (hBn:bmB.contains (.type Bn)=true) (F:ExcBaseFacts B nid initId bmB) (T:OwnTail h bmB bm) {mN:Str->Option Value} {rest:List Value} {fI:Addr} {oI:Obj} {Q:Value->Shared->Prop}
  (hC:h.get? C=some (excClassObj nm q C N bs bm hdct sn sub ab col dd k0 k1 k2 k3 k5 newId)) (hn:h.Ns N mN) (hi:mN "__init__" = some (.ref fI))
  (hfI:h.get? fI=some oI) (hfc:oI.cls=.type "function")
  (hq:∀ h' e,h.objs.size<=e->Heap.MadeExcOf h h' e (.ref C) rest ->
   wpAny (model prog w) (A.under (.builtin "type.__call__" ⟨.ref C::rest,[]⟩)) (call (.ref fI) (.ref e::rest)) (fun r s'=>r=.none/\Q (.ref e) s') E ⟨h',g,d,t,os⟩) (hrest:rest.length<=sizeLine:=by size_fits) :
  wpAny (model prog w) A (call (.ref C) rest) Q E ⟨h,g,d,t,os⟩:=by
 have f1:=tc_lookup;have f2:=tc_bind (.ref C);have hT:(⟨h,g,d,t,os⟩:Shared).TypeIs (.ref C) "type" := ⟨_,hC,rfl⟩;refine wpAny_call (codeAny_of_tree ?_);show wpAny _ _ (callAny (.ref C) _) _ _ _;repeat (any_goals (first | assumption | with_reducible refine wpAny_loadPart_at hC ?_ | wp_step))
 refine ⟨rfl,?_⟩;refine codeAny_call_builtin_at (Code.quiet_builtin _ (by decide +kernel)) entry_typeCall (wpAny_check_type_call_sub hC (G6 (hrest:=hrest) Fn hBn F T hC hn hi hfI hfc fun h' e hlo hm=>?_));exact hq h' e hlo hm
end
section
variable {M:Model} {A:Around} {E:Value->Shared->Prop} {env:Env}
variable {nm q:Str} {C N:Addr} {bs bm:List Value} {hdct:Bool} {sn:List Str} {sub:List Value} {ab:Bool} {col:Option Bool} {dd:Option Addr} {k0 k1 k2 k3 k5:Option Value} {newId:String}
theorem En {s:Shared} {x:Sem Value} {Q:Flow->Shared->Prop} (hbase:bm.contains (.type "BaseException")=true) (hh:A.handled=none)
   (h:wpAny M A x (fun v s₁=>∃ e a dct,v=.ref e/\s₁.heap.get? C=some (excClassObj nm q C N bs bm hdct sn sub ab col dd k0 k1 k2 k3 k5 newId) /\
     s₁.heap.get? e=some { cls:=.ref C,dict:=dct,data:=.fields #[a,.none,.none,.none,.bool false,.none] }/\E (.ref e) s₁) E s) :
   wpAny M A (raiseStmt env (some x) none) Q E s:=by
 have hcB:(Value.ref C::bm).contains (.type "BaseException")=true:=by rw [List.contains_cons,hbase,Bool.or_true]
 unfold raiseStmt;refine wpAny_bind (wpAny_mono h (fun v s₁ h₁=>?_) fun _ _ x=>x);obtain ⟨e,a,dct,rfl,hC,he,hE⟩:=h₁;obtain ⟨hp,g,d,tk,os⟩:=s₁;repeat (first | with_reducible refine wpAny_loadPart_at he ?_ | with_reducible refine wpAny_loadPart_at hC ?_ | (with_reducible refine wpAny_isSubtype_exc hC ?_;rw [hcB]) | wp_step)
 exact wpAny_raiseNew_none hh hE
end
theorem Kc:entryFor table "proto.unchain" = some Builtin.«proto.unchain» := entryFor_of_fast (by kernel_rfl)
section
variable {prog:Program} {w:World} {A:Around} {E:Value->Shared->Prop} {s:Shared}
theorem N6 {e h:Addr} {o:Obj} {vs:Array Value} {Q:Value->Shared->Prop} (ho:s.heap.get? h=some o) (hd:o.data=.fields vs) (hc:vs[2]?=some .none) (hq:Q .none s) :
  wpAny (model prog w) A (runValue (.builtin "proto.unchain" ⟨[.ref e,.ref h,.ref h,.bool false],[]⟩)) Q E s:=by
 refine wpAny_runValue (codeAny_builtin Kc ?_);unfold Builtin.«proto.unchain»;refine wpAny_bind (wpAny_field ho hd hc ?_);exact wpAny_pure hq
theorem O3 {α:Type} {e h:Addr} {oe oh:Obj} {ve vh:Array Value} {Q:α->Shared->Prop} (hh:A.handled=some (.ref h)) (ne:h≠e) (he:s.heap.get? e=some oe) (hde:oe.data=.fields ve) (h2:2<ve.size)
  (ho:s.heap.get? h=some oh) (hdh:oh.data=.fields vh) (hc:vh[2]?=some .none) (hE:E (.ref e) { s with heap:=s.heap.update e (Obj.mapFields (·.setIfInBounds 2 (.ref h))) }):wpAny (model prog w) A (raiseNew (.ref e):Sem α) Q E s:=by
 unfold raiseNew;refine wpAny_bind (wpAny_handled ?_);rw [hh];have hne:(Value.ref h != Value.ref e)=true:=by
  simp only [bne_iff_ne,ne_eq];intro z;cases z;exact ne rfl
 dsimp only;rw [if_pos hne];refine wpAny_bind (wpAny_holding (N6 ho hdh hc ?_));show wpAny _ _ (setField (.ref e) 2 (.ref h) >>= _) _ _ _;refine wpAny_bind (wpAny_mono (wpAny_setField (x:=.ref h) he hde h2 (Q:=fun _ s'=>s'={ s with heap:=s.heap.update e (Obj.mapFields (·.setIfInBounds 2 (.ref h))) }) rfl) (fun _ s' z=>?_) fun _ _ x=>x);rw [z];exact wpAny_throw hE
theorem Pb {env:Env} {nm q:Str} {C N h:Addr} {bs bm:List Value} {hdct:Bool} {sn:List Str} {sub:List Value} {ab:Bool} {col:Option Bool} {dd:Option Addr} {k0 k1 k2 k3 k5:Option Value} {newId:String} {x cz:Sem Value} {Q:Flow->Shared->Prop} (hbase:bm.contains (.type "BaseException")=true) (hh:A.handled=some (.ref h))
   (hx:wpAny (model prog w) A x (fun v s₁=>∃ e a dct,v=.ref e/\s₁.heap.get? C=some (excClassObj nm q C N bs bm hdct sn sub ab col dd k0 k1 k2 k3 k5 newId) /\
     s₁.heap.get? e=some { cls:=.ref C,dict:=dct,data:=.fields #[a,.none,.none,.none,.bool false,.none] }/\h≠e/\(∃ oh vh,s₁.heap.get? h=some oh/\oh.data=.fields vh/\vh[2]?=some .none) /\
     wpAny (model prog w) A cz (fun v' s₂=>v'=.none/\s₂.heap=s₁.heap/\∀ h',(∀ b,b≠e->h'.get? b=s₁.heap.get? b)->h'.get? e=some { cls:=.ref C,dict:=dct,data:=.fields #[a,.none,.ref h,.none,.bool true,.none] }->h'.objs.size=s₁.heap.objs.size->E (.ref e) { s₂ with heap:=h' }) E s₁) E s) :
   wpAny (model prog w) A (raiseStmt env (some x) (some cz)) Q E s:=by
 have hcB:(Value.ref C::bm).contains (.type "BaseException")=true:=by rw [List.contains_cons,hbase,Bool.or_true]
 unfold raiseStmt;refine wpAny_bind (wpAny_mono hx (fun v s₁ h₁=>?_) fun _ _ x=>x);obtain ⟨e,a,dct,rfl,hC,he,hne,⟨oh,vh,ho,hdh,hc⟩,hz⟩:=h₁;refine wpAny_bind (wpAny_holding (wpAny_mono hz (fun v' s₂ h₂=>?_) fun _ _ x=>x));obtain ⟨rfl,hhp,hE⟩:=h₂;obtain ⟨hp,g,d,tk,os⟩:=s₂;have hhp':hp=s₁.heap:=hhp;subst hhp';repeat (first | with_reducible refine wpAny_loadPart_at he ?_ | with_reducible refine wpAny_loadPart_at hC ?_ | (with_reducible refine wpAny_isSubtype_exc hC ?_;rw [hcB]) | wp_step)
 have hCe:e≠C:=by
   intro z;subst z;rw [he] at hC;injection hC with hC
   have:=congrArg Obj.data hC;simp [excClassObj] at this
 have hC3:((s₁.heap.update e (Obj.mapFields fun x=>x.setIfInBounds 3 Value.none)).update e (Obj.mapFields fun x=>x.setIfInBounds 4 (Value.bool true))).get? C=some (excClassObj nm q C N bs bm hdct sn sub ab col dd k0 k1 k2 k3 k5 newId):=by
   rw [get?_update_other _ _ hCe,get?_update_other _ _ hCe];exact hC
 have he3:((s₁.heap.update e (Obj.mapFields fun x=>x.setIfInBounds 3 Value.none)).update e (Obj.mapFields fun x=>x.setIfInBounds 4 (Value.bool true))).get? e=some { cls:=.ref C,dict:=dct,data:=.fields #[a,.none,.none,.none,.bool true,.none] } :=
   get?_update_self _ (get?_update_self _ he rfl) rfl
 have ho3:((s₁.heap.update e (Obj.mapFields fun x=>x.setIfInBounds 3 Value.none)).update e (Obj.mapFields fun x=>x.setIfInBounds 4 (Value.bool true))).get? h=some oh:=by
   rw [get?_update_other _ _ (Ne.symm hne),get?_update_other _ _ (Ne.symm hne)];exact ho
 repeat (first | with_reducible refine wpAny_loadPart_at hC3 ?_ | with_reducible refine wpAny_loadPart_at he3 ?_ | wp_step)
 refine O3 hh hne he3 rfl (by show 2<6;decide) ho3 hdh hc ?_;refine hE _ (fun b hb=>?_) (get?_update_self _ he3 rfl) ?_
 · show (((s₁.heap.update e _).update e _).update e _).get? b=_
   rw [get?_update_other _ _ (Ne.symm hb),get?_update_other _ _ (Ne.symm hb),get?_update_other _ _ (Ne.symm hb)]
 · show (((s₁.heap.update e _).update e _).update e _).objs.size=_
   simp [Heap.update]
end
end L2
namespace L2
open PySem PySem.Spec PyProof.Rows
section
variable (P:Program) (w:World)
end
section
variable {P:Program} {w:World} {H H':Hp} {h h':Heap} {a:Addr} {o:HO}
end
section
variable {P:Program} {w:World} {H:Hp} {h h':Heap} {x e:Addr} {o':HO}
end
section
variable {fs fs' ex ex':List Addr} {H H1 H2:Hp} {h h1 h2 h':Heap} {a x e:Addr} {o:HO}
end
section
variable {X:Cx} {pins:List (Addr×Obj)} {σ:List (Option V)} {H H':Hp} {s:Shared} {h':Heap}
end
section
variable {X:Cx}
variable {a b:Expr} {ta tb:TE} {pos:Pos}
variable {tA tB':TT} {rest:List Expr}
end
section
variable {X:Cx} {pins:List (Addr×Obj)} {σ:St} {H:Hp} {s:Shared} {a:Addr} {xs ys:List V}
end
section
variable {X:Cx} {pins:List (Addr×Obj)} {σ:St} {H:Hp} {s:Shared} {E:Value->Shared->Prop}
end
section
variable {X:Cx} {st:Stmt} {rest:List Stmt} {t u:TS} {e:Expr} {te:TE} {pos:Pos}
end
section
variable {X:Cx} {pos:Pos}
end
section
variable {X:Cx} {tg:Expr}
end
section
variable {X:Cx} {a b c:Expr} {ta tb tc:TE} {pos:Pos}
end
section
variable {prog:Program} {w:World} {A:Around} {E:Value->Shared->Prop} {s:Shared} {K:PySem.W.Frag} {x dx C f:Addr} {mA:Str->Option Value} {name:Str} {v:Value}
end
section
variable {P:Program} {w:World} {H H':Hp} {h h':Heap} {a C dx:Addr} {fs fs':List (Str×V)}
end
section
variable {X:Cx} {pins:List (Addr×Obj)} {σ:St} {H:Hp} {s:Shared} {a C dx:Addr} {fs:List (Str×V)} {f:Str} {v:V} {A:Around} {E:Value->Shared->Prop}
end
section
variable {X:Cx} {o e value:Expr} {f:Str} {pos pos' tpos:Pos} {ta tv:TE}
end
section
variable {X:Cx} {pins:List (Addr×Obj)} {σ:St} {H:Hp} {s:Shared} {A:Around} {E:Value->Shared->Prop} {Q:Value->Shared->Prop} {c:Value} {b:Bool}
end
section
variable {X:Cx} {e:Expr} {es:List Expr} {te:TE} {t:TA} {pos:Pos}
end
section
variable {X:Cx} {pins:List (Addr×Obj)} {σ:St} {H:Hp} {s s':Shared}
end
section
variable {X:Cx} {CX:Kl} {k:Nat} {f C:Addr} {fd:FuncData} {ps:List Str} {sp:Sp} {dvs:List V} {ds:List Value} {E:XK} {x m:Str} {p pos apos:Pos} {e o:Expr} {es:List Expr} {ta:TE} {t:TA}
end
section
variable {X:Cx} {CX:Kl} {k:Nat} {f C:Addr} {fd:FuncData} {ps ks:List Str} {sp:Sp} {E:XK} {x m:Str} {p pos apos kpos:Pos} {e o:Expr} {es:List Expr} {kws:List Keyword} {te ta:TE} {t tk:TA} {nm:Option Str}
variable {g:List Value->List Value->List Value} {gV:List V->List V->List V}
end
section
variable {X:Cx} {x:Str} {p pos:Pos} {e:Expr} {es:List Expr} {t:TA} {id T:String} {r:List V->Hp->VK->Prop}
end
section
variable {κ:Type} [DecidableEq κ]
def Jb (kvs:List (κ×V)) (k:κ):Option V:=(kvs.find? fun kv=>decide (kv.1=k)).map (·.2)
def Sy (kvs:List (κ×V)) (k:κ) (v:V):List (κ×V) :=
 if (kvs.any fun kv=>decide (kv.1=k))=true then kvs.map (fun kv=>if kv.1=k then (kv.1,v) else kv) else kvs++[(k,v)]
theorem Hj {p:κ×V} {r:List (κ×V)} {k:κ} (e:p.1=k):Jb (p::r) k=some p.2:=by simp [Jb,find?_cons,e]
theorem He {p:κ×V} {r:List (κ×V)} {k:κ} (e:¬ p.1=k):Jb (p::r) k=Jb r k:=by simp [Jb,find?_cons,e]
theorem Sk (k:κ):∀ kvs:List (κ×V),(kvs.any fun kv=>decide (kv.1=k))=(Jb kvs k).isSome
 | []=>rfl
 | p::r=>by
  rw [any_cons];by_cases e:p.1=k
  ·simp only [Hj e,decide_eq_true e,Bool.true_or,Option.isSome_some]
  ·rw [He e,decide_eq_false e,Bool.false_or];exact Sk k r
theorem Ej (kvs:List (κ×V)) (k:κ) (v:V):(Sy kvs k v).length<=kvs.length+1:=by
 unfold Sy;split
 ·rw [length_map];lia
 ·rw [length_append,length_cons,length_nil];lia
theorem Z3g {kvs:List (κ×V)} {k:κ} (v:V) (h:Jb kvs k=none):Sy kvs k v=kvs++[(k,v)]:=by
 unfold Sy;rw [Sk,h];exact if_neg (by decide)
theorem Dl.isSome_eq {o:Option V} {u:Option Value} (r:Dl o u):o.isSome=u.isSome:=by
 cases o with
 | none=>cases u with
  | none=>rfl
  | some _=>exact (show False from r).elim
 | some _=>cases u with
  | none=>exact (show False from r).elim
  | some _=>rfl
theorem KV.val {kvs:List (κ×V)} {vs:List (κ×Value)} (r:KV kvs vs) (k:κ):Dl (Jb kvs k) (valueAt vs k):=by
 unfold KV at r;induction r with
 | nil=>exact True.intro
 | @cons p q ps qs h t ih =>
  obtain ⟨h1,h2⟩:=h;by_cases e:p.1=k
  ·have e':q.1=k:=h1.symm.trans e
   have b:valueAt (q::qs) k=some q.2:=by simp [valueAt,find?_cons,e']
   rw [Hj e,b];exact h2
  ·have e':¬ q.1=k:=fun z=>e (h1.trans z)
   have b:valueAt (q::qs) k=valueAt qs k:=by simp [valueAt,find?_cons,e']
   rw [He e,b];exact ih
theorem KV.any {kvs:List (κ×V)} {vs:List (κ×Value)} (r:KV kvs vs) (k:κ):(kvs.any fun kv=>decide (kv.1=k))=vs.any fun kv=>decide (kv.1=k):=by
 unfold KV at r;induction r with
 | nil=>rfl
 | cons h t ih=>rw [any_cons,any_cons,ih,h.1]
theorem KV.repl {kvs:List (κ×V)} {vs:List (κ×Value)} (r:KV kvs vs) (k:κ) {y:V} {u:Value} (ry:Yg y u) :
  KV (kvs.map fun kv=>if kv.1=k then (kv.1,y) else kv) (vs.map fun kv=>if kv.1=k then (kv.1,u) else kv):=by
 unfold KV at r ⊢;induction r with
 | nil=>exact .nil
 | @cons p q ps qs h t ih =>
  rw [map_cons,map_cons];refine .cons ?_ ih;obtain ⟨h1,h2⟩:=h;by_cases e:p.1=k
  ·rw [if_pos e,if_pos (h1.symm.trans e)];exact ⟨h1,ry⟩
  ·rw [if_neg e,if_neg (fun z=>e (h1.trans z))];exact ⟨h1,h2⟩
theorem KV.put {kvs:List (κ×V)} {vs:List (κ×Value)} (r:KV kvs vs) (k:κ) {y:V} {u:Value} (ry:Yg y u):KV (Sy kvs k y) (stored vs k u):=by
 unfold Sy stored;rw [r.any k];by_cases e:(vs.any fun kv=>decide (kv.1=k))=true
 ·rw [if_pos e,if_pos e];exact r.repl k ry
 ·rw [if_neg e,if_neg e];exact Paired.snoc r ⟨rfl,ry⟩
theorem KV.length {kvs:List (κ×V)} {vs:List (κ×Value)} (r:KV kvs vs):kvs.length=vs.length:=Paired.length r
end
theorem Og {P:Program} {w:World} {k:Wg} {u:Value} (r:Yg (kV k) u):(Wu P w).is k u=true:=by
 cases k with
 | inl i=>obtain ⟨t,e⟩:=(show ∃ t,u=Value.int i t from r);subst e;exact Pu P w i t
 | inr x=>obtain ⟨t,e⟩:=(show ∃ t,u=Value.str x t from r);subst e;exact Pg P w x t
theorem Kr {P:Program} {w:World}:∀ {ks:List Wg} {us:List Value},Zx (ks.map kV) us->ItemsAre (Wu P w) ks us
 | [],_,r=>by rw [map_nil] at r;cases r;exact .nil
 | k::ks,_,r=>by
  rw [map_cons] at r;cases r with
  | cons h t=>exact .cons (Og h) (Kr t)
abbrev KT (H:Hp):List (List Wg×V)->List (List Wg×Addr×Value)->Prop:=Paired fun p q=>p.1=q.1/\H q.2.1=some (.tup (p.1.map kV))/\Yg p.2 q.2.2
theorem KT.val {H:Hp} {kvs:List (List Wg×V)} {xs:List (List Wg×Addr×Value)} (r:KT H kvs xs) (k:List Wg):Dl (Jb kvs k) ((atKey xs k).map (·.2)):=by
 induction r with
 | nil=>exact True.intro
 | @cons p q ps qs h t ih =>
  obtain ⟨h1,_,h2⟩:=h;by_cases e:p.1=k
  ·have e':q.1=k:=h1.symm.trans e
   have b:atKey (q::qs) k=some q.2:=by simp [atKey,find?_cons,e']
   rw [Hj e,b];exact h2
  ·have e':¬ q.1=k:=fun z=>e (h1.trans z)
   have b:atKey (q::qs) k=atKey qs k:=by simp [atKey,find?_cons,e']
   rw [He e,b];exact ih
theorem KT.repl {H:Hp} {kvs:List (List Wg×V)} {xs:List (List Wg×Addr×Value)} (r:KT H kvs xs) (k:List Wg) {y:V} {u:Value} (ry:Yg y u) :
  KT H (kvs.map fun kv=>if kv.1=k then (kv.1,y) else kv) (xs.map (putAt k u)):=by
 induction r with
 | nil=>exact .nil
 | @cons p q ps qs h t ih =>
  rw [map_cons,map_cons];refine .cons ?_ ih;obtain ⟨h1,h2,h3⟩:=h;unfold putAt;by_cases e:p.1=k
  ·rw [if_pos e,if_pos (h1.symm.trans e)];exact ⟨h1,h2,ry⟩
  ·rw [if_neg e,if_neg (fun z=>e (h1.trans z))];exact ⟨h1,h2,h3⟩
theorem KT.put {H:Hp} {kvs:List (List Wg×V)} {xs:List (List Wg×Addr×Value)} (r:KT H kvs xs) (k:List Wg) {b:Addr} {y:V} {u:Value} (hb:H b=some (.tup (k.map kV))) (ry:Yg y u) :
  KT H (Sy kvs k y) (storedH xs k b u):=by
 have e:(kvs.any fun kv=>decide (kv.1=k))=(atKey xs k).isSome:=by
  rw [Sk,(r.val k).isSome_eq,Option.isSome_map]
 unfold Sy storedH;rw [e];by_cases q:(atKey xs k).isSome=true
 ·rw [if_pos q,if_pos q];exact r.repl k ry
 ·rw [if_neg q,if_neg q];exact Paired.snoc r ⟨rfl,hb,ry⟩
theorem KT.keeps {H H':Hp} {kvs:List (List Wg×V)} {xs:List (List Wg×Addr×Value)} (r:KT H kvs xs) (ht:∀ b ys,H b=some (.tup ys)->H' b=some (.tup ys)):KT H' kvs xs :=
 Paired.mapP r fun _ _ z=>⟨z.1,ht _ _ z.2.1,z.2.2⟩
section
variable {P:Program} {w:World} {H:Hp} {h:Heap} {a:Addr}
theorem Z6g {u:HO} (ok:M7 P w H h) (e:Rd H a u):W2 P w H h a u:=e.ok ok
theorem Py {kvs:List (Wg×V)} (ok:M7 P w H h) (e:Rd H a (.dK kvs)):kvs.length<=sizeLine/\(a==sysModules)=false/\∃ vs,KV kvs vs/\h.DictOf (Wu P w) a vs :=
 show W2 P w H h a (.dK kvs) from Z6g ok e
theorem Zae {kvs:List (Wg×V)} (ok:M7 P w H h) (e:H a=some (.dK kvs)):kvs.length<=sizeLine/\(a==sysModules)=false/\∃ vs,KV kvs vs/\h.DictOf (Wu P w) a vs:=Py ok (.inl e)
theorem Dw {ks:List Wg} (ok:M7 P w H h) (e:H a=some (.tup (ks.map kV))):(tupleKind (Wu P w)).is h ks a:=by
 obtain ⟨_,its,r,o,h1,h2,n,h3⟩:=(show W2 P w H h a (.tup (ks.map kV)) from ok a _ e);exact ⟨o,its.toArray,n,h1,h2,h3,by simpa using Kr r⟩
theorem Oo {kvs:List (List Wg×V)} (ok:M7 P w H h) (e:Rd H a (.dT kvs)):kvs.length<=sizeLine/\(a==sysModules)=false /\
  ∃ xs,KT H kvs xs/\h.DictOfH (tupleKind (Wu P w)) a xs:=by
 obtain ⟨z,y,xs,r,o,es,ep,h1,h2,h3,h4,h5⟩:=(show W2 P w H h a (.dT kvs) from Z6g ok e);refine ⟨z,y,xs,r,o,es,ep,h1,h2,h3,h4,fun x hx=>?_,h5⟩;have all:∀ {l:List (List Wg×V)} {m:List (List Wg×Addr×Value)},KT H l m->∀ x∈m,(tupleKind (Wu P w)).is h x.1 x.2.1:=by
  intro l m q;induction q with
  | nil=>intro x hx;exact nomatch hx
  | @cons p q ps qs hq t ih =>
   intro x hx;rcases mem_cons.mp hx with e | hx
   ·subst e
    exact Dw ok (by rw [← hq.1];exact hq.2.1)
   ·exact ih x hx
 exact all r x hx
theorem Z1v {kvs:List (List Wg×V)} (ok:M7 P w H h) (e:H a=some (.dT kvs)):kvs.length<=sizeLine/\(a==sysModules)=false /\
 ∃ xs,KT H kvs xs/\h.DictOfH (tupleKind (Wu P w)) a xs:=Oo ok (.inl e)
end
def Du (H:Hp) (a:Addr) (y:V) (r:Option V):Prop :=
 (∃ kvs k,Rd H a (.dK kvs)/\y=kV k/\r=Jb kvs k)\/∃ kvs k b,Rd H a (.dT kvs)/\y=.ref b/\H b=some (.tup (k.map kV))/\r=Jb kvs k
def Z2g (H:Hp) (a:Addr) (y v:V) (H':Hp):Prop :=
 (∃ kvs k,H a=some (.dK kvs)/\y=kV k/\kvs.length<sizeLine/\H'=W6 H a (.dK (Sy kvs k v))) \/
 ∃ kvs k b,H a=some (.dT kvs)/\y=.ref b/\H b=some (.tup (k.map kV))/\kvs.length<sizeLine/\H'=W6 H a (.dT (Sy kvs k v))
theorem Du.t {H:Hp} {a b:Addr} {kvs:List (List Wg×V)} {k:List Wg} (e:H a=some (.dT kvs)) (eb:H b=some (.tup (k.map kV))):Du H a (.ref b) (Jb kvs k):=.inr ⟨kvs,k,b,.inl e,rfl,eb,rfl⟩
theorem Z2g.t {H:Hp} {a b:Addr} {kvs:List (List Wg×V)} {k:List Wg} {v:V} (e:H a=some (.dT kvs)) (eb:H b=some (.tup (k.map kV))) (hl:kvs.length<sizeLine) :
 Z2g H a (.ref b) v (W6 H a (.dT (Sy kvs k v))):=.inr ⟨kvs,k,b,e,rfl,eb,hl,rfl⟩
section
variable {X:Cx} {pins:List (Addr×Obj)} {σ:St} {H:Hp} {s:Shared} {a:Addr} {y v:V} {u r:Value} {o:Option V} {A:Around} {E:Value->Shared->Prop}
theorem Inv.big (I:Inv X pins σ H s):sysModules<s.heap.objs.size:=by
 have h:mainGlobals<s.heap.objs.size:=(I.mod.glob.keeps I.bk).lt;exact Nat.lt_trans (by decide) h
theorem Z0c {Q:Value->Shared->Prop} (hu:A.units+1<cLine) (I:Inv X pins σ H s) (g:Du H a y (some v)) (ry:Yg y u) (h:∀ w' s',Inv X pins σ H s'->Yg v w'->Q w' s') :
  wpAny (model X.prog X.w) A (getItem (.ref a) u) Q E s:=by
 rcases g with ⟨kvs,k,e,ey,l⟩ | ⟨kvs,k,b,e,ey,eb,l⟩
 ·subst ey
  obtain ⟨z,hd,vs,rel,dd⟩:=Py I.hok e;obtain ⟨w',hw,rw'⟩:=Dl.some_of (v:=v) (o:=valueAt vs k) (by rw [l];exact rel.val k);exact wpAny_getItem_of (Og ry) dd.mapOf hw (h w' _ (I.tok _) rw')
 ·subst ey
  cases (show u=Value.ref b from ry);obtain ⟨z,hd,xs,rel,dd⟩:=Oo I.hok e;obtain ⟨w',hw,rw'⟩:=Dl.some_of (v:=v) (o:=(atKey xs k).map (·.2)) (by rw [l];exact rel.val k);obtain ⟨p,hp,hp2⟩:=Option.map_eq_some_iff.mp hw;refine wpAny_getItem_heap (tupleKind_room_in1 hu) (Dw I.hok eb) dd hp ?_;rw [hp2];exact h w' _ (I.tok _) rw'
theorem Zdb {Q:Value->Shared->Prop} (hu:A.units+1<cLine) (I:Inv X pins σ H s) (g:Du H a y o) (ry:Yg y u) (h:∀ s',Inv X pins σ H s'->Q (.bool o.isSome) s') :
  wpAny (model X.prog X.w) A (compareOp .In u (.ref a)) Q E s:=by
 rcases g with ⟨kvs,k,e,ey,l⟩ | ⟨kvs,k,b,e,ey,eb,l⟩
 ·subst ey
  obtain ⟨z,hd,vs,rel,dd⟩:=Py I.hok e;refine wpAny_in_of (Og ry) hd dd.mapOf ?_;rw [← (rel.val k).isSome_eq,← l];exact h _ (I.tok _)
 ·subst ey
  cases (show u=Value.ref b from ry);obtain ⟨z,hd,xs,rel,dd⟩:=Oo I.hok e;refine wpAny_in_heap (tupleKind_room_in1 hu) (Dw I.hok eb) hd dd ?_;have q:=(rel.val k).isSome_eq;rw [Option.isSome_map] at q;rw [← q,← l];exact h _ (I.tok _)
theorem Z4y {Q:Value->Shared->Prop} (hu:A.units+1<cLine) (I:Inv X pins σ H s) (g:Du H a y o) (ry:Yg y u) (h:∀ s',Inv X pins σ H s'->Q (.bool (!o.isSome)) s') :
  wpAny (model X.prog X.w) A (compareOp .NotIn u (.ref a)) Q E s:=by
 rcases g with ⟨kvs,k,e,ey,l⟩ | ⟨kvs,k,b,e,ey,eb,l⟩
 ·subst ey
  obtain ⟨z,hd,vs,rel,dd⟩:=Py I.hok e;refine wpAny_notIn_of (Og ry) hd dd.mapOf ?_;rw [← (rel.val k).isSome_eq,← l];exact h _ (I.tok _)
 ·subst ey
  cases (show u=Value.ref b from ry);obtain ⟨z,hd,xs,rel,dd⟩:=Oo I.hok e;refine wpAny_notIn_heap (tupleKind_room_in1 hu) (Dw I.hok eb) hd dd ?_;have q:=(rel.val k).isSome_eq;rw [Option.isSome_map] at q;rw [← q,← l];exact h _ (I.tok _)
theorem Lu {h':Heap} {t':Nat} {ob:HO} (I:Inv X pins σ H s) (mu:Mut (H a)) (hs:SameBut a s.heap h') (he:∃ q,h'.get? a=some q) (new:W2 X.prog X.w (W6 H a ob) h' a ob) :
  Inv X pins σ (W6 H a ob) { s with heap:=h',toks:=t' } :=
 I.write (x:=a) (e:=a) mu (.inl rfl) (fun b q hb z=>(hs.2 b hb).trans z) he new
theorem Z8p {P:Program} {w:World} {H':Hp} {h':Heap} {kvs:List (Wg×V)} {vs:List (Wg×Value)} (z:kvs.length<=sizeLine) (hd:(a==sysModules)=false) (rel:KV kvs vs) (dd:h'.DictOf (Wu P w) a vs) :
 W2 P w H' h' a (.dK kvs):=⟨z,hd,vs,rel,dd⟩
theorem Bk {H':Hp} {Q:Unit->Shared->Prop} (hu:A.units+1<cLine) (I:Inv X pins σ H s) (g:Z2g H a y v H') (ry:Yg y u) (rv:Yg v r) (h:∀ s',Inv X pins σ H' s'->Q () s') :
  wpAny (model X.prog X.w) A (setItem (.ref a) u r) Q E s:=by
 rcases g with ⟨kvs,k,e,ey,l,eH⟩ | ⟨kvs,k,b,e,ey,eb,l,eH⟩
 ·subst ey eH
  obtain ⟨z,hd,vs,rel,dd⟩:=Zae I.hok e;have hz:vs.length<=sizeLine:=by rw [← rel.length];exact z
  have hl:(Sy kvs k v).length<=sizeLine:=by have:=Ej kvs k v;lia
  refine wpAny_setItem_pairs (hsz:=hz) (Og ry) dd fun h' dd' hs=>h _ ?_
  have he:∃ q,h'.get? a=some q:=let ⟨q,_,_,hq,_⟩:=dd';⟨q,hq⟩
  exact Lu I (by rw [e];exact True.intro) hs he (Z8p hl hd (rel.put k rv) dd')
 ·subst ey eH
  cases (show u=Value.ref b from ry);obtain ⟨z,hd,xs,rel,dd⟩:=Z1v I.hok e;have hz:xs.length<=sizeLine:=by rw [← Paired.length rel];exact z
  have hl:(Sy kvs k v).length<=sizeLine:=by have:=Ej kvs k v;lia
  refine wpAny_setItem_heap (hsz:=hz) (tupleKind_room_in1 hu) (Dw I.hok eb) dd fun h' dd' hs=>h _ ?_
  obtain ⟨q,es,ep,hq,h2,h3,h4,_,h5⟩:=dd';refine Lu I (by rw [e];exact True.intro) hs ⟨q,hq⟩ ⟨hl,hd,_,(rel.put k eb rv).keeps fun c ys ec=>?_,q,es,ep,hq,h2,h3,h4,h5⟩;rw [Zj (Z6d ec e (fun z=>nomatch z))];exact ec
end
section
variable {X:Cx} {pins:List (Addr×Obj)} {σ:St} {H:Hp} {s:Shared} {a:Addr} {kvs:List (Wg×V)} {k:Wg} {u:Value} {A:Around} {E:Value->Shared->Prop}
end
def Z83 (i:Expr):Prop:=∀ ov iv,subscripted i false ov iv=operate [ov,iv] (getItem ov iv)
theorem Z4d {prog:Program} {w:World} {A:Around} {E:Value->Shared->Prop} {s:Shared} {env:Env} {value slice:Expr} {pos:Pos} {T id:String} {Q:Value->Shared->Prop}
   (hl:typeLookup (.type T) "__getitem__" = pure (some (.builtin id))) (hs:Z83 slice)
   (h:wpAny (model prog w) A (eval value env) (fun o s₁=>wpAny (model prog w) A (eval slice env) (fun i s₂=>s₂.TypeIs o T/\wpAny (model prog w) A (getItem o i) Q E s₂) E s₁) E s) :
   wpAny (model prog w) A (eval (.Subscript value slice pos) env) Q E s:=by
 refine Subscript_ (wpAny_mono h (fun o s₁ h₁=>wpAny_mono h₁ (fun i s₂ h₂=>?_) fun _ _ x=>x) fun _ _ x=>x);obtain ⟨hT,h₂⟩:=h₂;unfold subscriptTail;refine wpAny_bind ?_;rw [getitemInPython_of_ne hT.not_modules];refine wpAny_bind (wpAny_specialOf hT hl ?_);have fin:wpAny (model prog w) A (subscripted slice false o i) (fun r s₃=>wpAny (model prog w) A (letTemporaryGo value o r >>= fun _=>pure r) Q E s₃) E s₂:=by
   rw [hs o i];exact wpAny_operating (wpAny_mono h₂ (fun r s₃ h₃=>wpAny_bind (wpAny_letTemporaryGo (wpAny_pure h₃))) fun _ _ x=>x)
 first
   | exact wpAny_pure (wpAny_bind fin)
   | exact wpAny_bind (wpAny_pure (wpAny_bind fin))
   | exact wpAny_bind fin
theorem Ow {X:Cx} {pins:List (Addr×Obj)} {σ:St} {H:Hp} {s:Shared} {a:Addr} {y:V} {o:Option V} (I:Inv X pins σ H s) (g:Du H a y o):s.TypeIs (.ref a) "dict" := by
 rcases g with ⟨kvs,k,e,_,_⟩ | ⟨kvs,k,b,e,_,_,_⟩
 ·obtain ⟨_,_,vs,_,dd⟩:=Py I.hok e
  exact dd.typeIs
 ·obtain ⟨_,_,xs,_,dd⟩:=Oo I.hok e
  exact dd.typeIs
def Zaf (td ty:TE):TE:=fun σ H Q=>td σ H fun x H1=>ty σ H1 fun y H2=>∃ a v,x=.ref a/\Du H2 a y (some v)/\Q v H2
def Zdg (ty td:TE):TE:=fun σ H Q=>ty σ H fun y H1=>td σ H1 fun x H2=>∃ a o,x=.ref a/\Du H2 a y o/\Q (.bl o.isSome) H2
def Z3s (ty td:TE):TE:=fun σ H Q=>ty σ H fun y H1=>td σ H1 fun x H2=>∃ a o,x=.ref a/\Du H2 a y o/\Q (.bl (!o.isSome)) H2
def Zb8 (td ty tv:TE):TS:=fun D σ H=>tv σ H fun v H1=>td σ H1 fun x H2=>ty σ H2 fun y H3=>∃ a H4,x=.ref a/\Z2g H3 a y v H4/\D.nx σ H4
section
variable {X:Cx} {o i e value:Expr} {pos pos' tpos:Pos} {td ty tv:TE}
theorem Z4w (hu:X.A.units+1<cLine) (ho:PE X o td) (hi:PE X i ty) (hs:Z83 i):PE X (.Subscript o i pos) (Zaf td ty):=by
 intro pins s σ H Q I h;refine Z4d PySem.F.slot_dict_getitem.lookup hs (Wh (ho pins s σ H _ I h) fun u s1 ⟨x,H1,I1,rx,q1⟩=>Wh (hi pins s1 σ H1 _ I1 q1) fun iv s2 ⟨y,H2,I2,ry,a,v,ex,g,q2⟩=>?_);subst ex;obtain rfl:u=Value.ref a:=rx;exact ⟨Ow I2 g,Z0c hu I2 g ry fun w' s3 I3 rw'=>⟨v,H2,I3,rw',q2⟩⟩
theorem Z0h (hu:X.A.units+1<cLine) (hi:PE X i ty) (ho:PE X o td):PC X .In i o (Zdg ty td):=by
 intro pins s σ H Q I h;refine Wh (hi pins s σ H _ I h) fun iv s1 ⟨y,H1,I1,ry,q1⟩=>Wh (ho pins s1 σ H1 _ I1 q1) fun u s2 ⟨x,H2,I2,rx,a,ov,ex,g,q2⟩=>?_
 subst ex;obtain rfl:u=Value.ref a:=rx;exact Zdb hu I2 g ry fun s3 I3=>⟨.bl ov.isSome,H2,I3,rfl,q2⟩
theorem C9 (hu:X.A.units+1<cLine) (hi:PE X i ty) (ho:PE X o td):PC X .NotIn i o (Z3s ty td):=by
 intro pins s σ H Q I h;refine Wh (hi pins s σ H _ I h) fun iv s1 ⟨y,H1,I1,ry,q1⟩=>Wh (ho pins s1 σ H1 _ I1 q1) fun u s2 ⟨x,H2,I2,rx,a,ov,ex,g,q2⟩=>?_
 subst ex;obtain rfl:u=Value.ref a:=rx;exact Z4y hu I2 g ry fun s3 I3=>⟨.bl (!ov.isSome),H2,I3,rfl,q2⟩
theorem Z4z (hu:X.A.units+1<cLine) (ho:PE X o td) (hi:PE X i ty) (hv:PE X value tv) (hs:swapsWith value (some (.Subscript o i pos')) pos.line X.env=pure false) :
  PS X (.Assign [.Subscript o i pos'] value pos) (Zb8 td ty tv):=by
 intro pins s σ H D I h;refine wpAny_Assign_Subscript (Wh (hv pins s σ H _ I h) fun r s1 ⟨v,H1,I1,rv,q1⟩=>Wh (ho pins s1 σ H1 _ I1 q1) fun u s2 ⟨x,H2,I2,rx,q2⟩=>Wh (hi pins s2 σ H2 _ I2 q2) fun iv s3 ⟨y,H3,I3,ry,a,H4,ex,g,q3⟩=>?_) hs;subst ex;obtain rfl:u=Value.ref a:=rx;exact Bk hu I3 g ry rv fun s4 I4=>⟨σ,H4,I4,q3⟩
end
theorem Pc {P:Program} {w:World} {H:Hp} (h:Heap) (hb:sysModules<h.objs.size):W2 P w H (h.push { cls:=.type "dict",data:=.dict #[] }) h.objs.size (.dT []) :=
 ⟨zero_le _,beq_eq_false_iff_ne.mpr (Ne.symm (ne_of_lt hb)),[],.nil,_,#[],0,get?_push_size _ rfl,⟨rfl,rfl,rfl⟩,rfl,rfl,nodup_nil⟩
def Z9v:TE:=fun _ H Q=>∀ p,H p=none->Q (.ref p) (W6 H p (.dT []))
section
variable {X:Cx} {pos:Pos}
theorem Z19:PE X (.Dict [] [] pos) Z9v:=fun pins s σ H Q I h =>
 wpAny_Dict_empty ⟨.ref s.heap.objs.size,_,I.laid (a:=s.heap.objs.size) (o:=.dT []) (t':=s.toks) (fun _ _ q=>get?_push_of_some _ q) (le_refl _) (Pc s.heap I.big),rfl,h _ (I.hok.fresh (le_refl _))⟩
end
section
variable {X:Cx} {pins:List (Addr×Obj)} {σ:St} {H:Hp} {s:Shared} {a:Addr} {y d:V} {u r:Value} {o:Option V} {A:Around} {E:Value->Shared->Prop}
end
section
variable {X:Cx} {o e f:Expr} {apos cpos:Pos} {td ty tx:TE}
end
section
variable {X:Cx} {pins:List (Addr×Obj)} {σ:St} {H:Hp} {s:Shared} {a:Addr} {kvs:List (Wg×V)} {A:Around} {E:Value->Shared->Prop}
end
section
variable {X:Cx} {pins:List (Addr×Obj)} {σ:St} {H:Hp} {s:Shared} {a:Addr} {y:V} {u:Value} {A:Around} {E:Value->Shared->Prop}
end
end L2
namespace Att
open PySem PySem.W PySem.Calls PyProof.Rows
section
variable {prog:Program} {w:World} {A:Around} {E:Value->Shared->Prop} {s:Shared} {K:Frag}
end
end Att
namespace L2
open PySem PySem.Spec PyProof.Rows
section
variable {P:Program} {w:World} {K:PySem.W.Frag} {mg:Str->Option Value} {base:Heap}
end
section
variable {X:Cx}
end
section
variable {κ:Type} [DecidableEq κ]
end
structure RoomN (k:Nat) (A:Around):Prop where
 dp:A.depth+3*k+5<recursionLimit
 un:A.units+16*k+200<cLine
 gd:A.guards=some []
theorem RoomN.mono {j k:Nat} {A:Around} (r:RoomN k A) (h:j<=k):RoomN j A:=⟨by have:=r.dp;lia,by have:=r.un;lia,r.gd⟩
theorem RoomN.deeper {k:Nat} {A:Around} (r:RoomN (k+1) A) (env:Env):RoomN k (A.deeper env) :=
 ⟨by have:=r.dp;show A.depth+1+3*k+5<_;lia,by have:=r.un;show A.units+3+16*k+200<_;lia,r.gd⟩
theorem RoomN.depth {k:Nat} {A:Around} (r:RoomN k A):A.depth<recursionLimit:=by have:=r.dp;lia
def HdS (A:Around) (h:Heap):Prop:=A.handled=none\/∃ e oe ve,A.handled=some (.ref e)/\h.get? e=some oe/\oe.data=.fields ve/\ve[2]?=some .none
def HdK (A:Around) (fs:List Addr) (H:Hp) (h:Heap):Prop:=A.handled=none\/∃ e oe ve,A.handled=some (.ref e)/\h.get? e=some oe/\oe.data=.fields ve/\ve[2]?=some .none/\H e=none/\e∉fs
def HdN (X:Cx):Prop:=∀ pins σ H s,Inv X pins σ H s->HdS X.A s.heap
def HdC (X:Cx):Prop:=∀ pins σ H s,Inv X pins σ H s->HdK X.A (Rk X.stack) H s.heap
theorem HdN.of {X:Cx} (k:HdK X.A X.fs X.H₀ X.s₀.heap) (hx:X.ex=[]):HdN X:=fun _ _ _ _ I=>k.imp id fun ⟨e,oe,ve,h1,h2,h3,h4,h5,h6⟩=>⟨e,oe,ve,h1,I.base.keep e oe h2 h5 h6 (by rw [hx];simp),h3,h4⟩
theorem Room.n {k:Nat} {A:Around} (r:Room k A):RoomN k A:=⟨r.dp,r.un,r.gd⟩
structure FnOkN (P:Program) (w:World) (K:PySem.W.Frag) (mg:Str->Option Value) (base:Heap) (CX:Kl) (k:Nat) (f:Addr) (fd:FuncData) (ps:List Str) (sp:Sp):Prop where
 len:∀ vs H Q E,sp vs H Q E->vs.length=ps.length
 run:∀ (A:Around) (outer:List Env) (s:Shared) (H:Hp) (args:Args) (us:List Value) (vs:List V) (Q:VK) (E:XK),RoomN k A->HdK A (Rk outer) H s.heap->Env0 P w K mg base A outer s H->BindsTo s fd args (ps.zip us)->Zx vs us->sp vs H Q E ->
  codeAny (model P w) A (.call (.ref f) args) (CR CX outer P w H s Q E) s
section
variable {X:Cx} {CX:Kl} {k:Nat} {f C:Addr} {fd:FuncData} {ps:List Str} {sp:Sp} {dvs:List V} {ds:List Value} {E:XK} {x m:Str} {p pos apos:Pos} {e o:Expr} {es:List Expr} {ta:TE} {t:TA}
theorem Z4a {pins:List (Addr×Obj)} {σ:St} {H:Hp} {s:Shared} {Q:VK} {us:List Value} {vs:List V} (F:FnOkN X.prog X.w X.K X.mg X.base CX k f fd ps sp) (hr:RoomN k X.A) (hk:HdC X) (hb:Qm X.K fd ps ds) (hd:Zx dvs ds) (hx:K7 CX X E)
  (I:Inv X pins σ H s) (r:Zx vs us) (h:sp (vs++dvs) H Q E):wpAny (model X.prog X.w) X.A (call (.ref f) us) (EP X pins σ Q) X.xe s:=by
 have r2:Zx (vs++dvs) (us++ds):=r.append hd;have hl:(us++ds).length=ps.length:=by rw [← r2.length];exact F.len _ _ _ _ h
 refine wpAny_call (codeAny_mono (F.run X.A X.stack s H ⟨us,[]⟩ (us++ds) (vs++dvs) Q E hr (hk _ _ _ _ I) I.env0 (hb s us I.kIn hl) r2 h) fun r s' hq=>?_);cases r with
 | error e=>exact hx pins σ H s e s' I hq
 | ok fl =>
  cases fl with
  | ret u=>exact I.after hq
  | next=>exact False.elim hq
  | brk=>exact False.elim hq
  | cont=>exact False.elim hq
theorem Z14 (F:FnOkN X.prog X.w X.K X.mg X.base CX k f fd ps sp) (hr:RoomN k X.A) (hh:HdC X) (hg:Gl X x) (hm:X.mg x=some (.ref f)) (hk:PySem.W.keepIn X.K (.ref f)=true) (hb:Qm X.K fd ps ds) (hd:Zx dvs ds) (hx:K7 CX X E)
  (ha:PA X (e::es) t) (hdb:(x==("__debug__" : Str))=false:=by decide) (he:starEach (e::es) X.env=(false,eval e X.env)::starEach es X.env:=by rfl) (hpl:(backTo pos (starEach es X.env)).any (·.1)=false:=by rfl) :
  PE X (.Call (.Name x p) (e::es) [] pos) (Ao sp dvs E t):=by
 intro pins s σ H Q I h;refine wpAny_Call_Name_kw (Uc I hg hm ?_ hdb);refine PySem.W.callWith_K (h₀:=X.base) I.ok.mod.kin hk (Wh (ha pos pins s σ H _ I h) fun us s1 ⟨vs,H1,I1,r,q⟩=>⟨I1.kIn,?_⟩) he hpl;exact Z4a F hr hh hb hd hx I1 r q
end
def Me (CX:Kl) (P:Program) (w:World) (K:PySem.W.Frag) (mg:Str->Option Value) (base:Heap) (N:List Str) (qual:Str) (scope:Scope) (f:Addr) (cd:Value) (A:Around) (outer:List Env) (s:Shared) (H:Hp) (E:XK):Cx where
 prog:=P
 w:=w
 K:=K
 mg:=mg
 base:=base
 A:=A.deeper (envOfC qual scope s.heap.objs.size f cd)
 N:=N
 s₀:=s
 H₀:=H
 env:=envOfC qual scope s.heap.objs.size f cd
 outer:=outer
 stack:=envOfC qual scope s.heap.objs.size f cd::outer
 ex:=[]
 calm:=false
 fn:=fun _=>true
 pn:=[]
 xe:=fun e s'=>wpAny (model P w) (A.deeper (envOfC qual scope s.heap.objs.size f cd)) (leaving (envOfC qual scope s.heap.objs.size f cd) e) (fun _ s''=>CX outer H s E e s'') (fun e' s''=>CX outer H s E e' s'') s'
theorem Fb {CX:Kl} {P:Program} {w:World} {K:PySem.W.Frag} {mg:Str->Option Value} {base:Heap} {N ps:List Str} {qual:Str} {scope:Scope} {f:Addr} {cd:Value} {A:Around} {outer:List Env} {s s1:Shared} {H:Hp} {E:XK} {us:List Value} {vs:List V}
  (S:FnScope N ps scope) (e0:Env0 P w K mg base A outer s H) (hl:vs.length=ps.length) (r:Zx vs us)
  (x:InCallC s s.heap.objs.size (bindL (envOfC qual scope s.heap.objs.size f cd).kindOf (ps.zip us) fun _=>none) (cellsFrom (s.heap.objs.size+1) scope.names []) (bindC (envOfC qual scope s.heap.objs.size f cd).kindOf (ps.zip us) fun _=>none) s1) :
  Inv (Me CX P w K mg base N qual scope f cd A outer s H E) [] (start N vs) H s1:=by
 have hpl:ps.length<=N.length:=by have:=congrArg List.length S.pre;rw [length_take] at this;lia
 obtain ⟨h1,tk,rfl,hk⟩:=x.done;have noA:∀ b:Addr,b∉(Me CX P w K mg base N qual scope f cd A outer s H E).ex:=fun b z=>absurd (show b∈([]:List Addr) from z) (by simp)
 refine ⟨⟨e0.mod,S.kind,rfl,rfl,le_refl _,fun y z c h1 h2=>?_,fun y hy=>?_,fun y c _ h=>?_,(fun z=>nomatch z),Around.frames_deeper e0.frames,.inr ⟨rfl,rfl⟩,fun b z=>absurd z (noA b),e0.bs,e0.bsz,fun b _ _=>noA b,fun b z=>absurd z (noA b),e0.funs,e0.frf⟩,
  rfl,e0.bare,Un.kept hk,⟨_,x.toInCall.ns,fun i y v h1 h2 h3=>?_⟩,fun y c h=>⟨_,x.cell y c h⟩,e0.hok.fresh (le_refl _),fun y c h=>?_,fun p hp=>absurd (show p∈([]:List (Addr×Obj)) from hp) (by simp),e0.hok.kept hk,?_⟩
 ·exact name_of_addr x.apart (PySem.mem_of_lookup h1) (PySem.mem_of_lookup h2)
 ·have hy:scope.names.lookup y=some .cell\/scope.names.lookup y=some .free:=hy
  rcases hy with hy | hy
  ·exact Sz hy
  ·exact absurd rfl (S.nofree _ (PySem.mem_of_lookup hy))
 ·exact le_of_lt (x.above y c (PySem.mem_of_lookup h))
 ·have hi:i<vs.length:=by
   unfold start at h2;by_cases hi:i<vs.length
   ·exact hi
   ·rw [getElem?_append_right (by simpa using hi)] at h2
    rw [List.getElem?_replicate] at h2;split at h2<;>cases h2
  have ha:vs[i]?=some v:=by
   unfold start at h2;rw [getElem?_append_left (by simpa using hi),getElem?_map] at h2;cases e:vs[i]? with
   | none=>rw [e] at h2;cases h2
   | some a=>rw [e] at h2;cases h2;rfl
  obtain ⟨u,hu,rv⟩:=r.get ha;have hp:ps[i]?=some y:=by
   rw [← S.pre,List.getElem?_take_of_lt (by lia)];exact h1
  have ndP:ps.Nodup:=by rw [← S.pre];exact S.nd.sublist (List.take_sublist _ _)
  refine ⟨u,rv,?_⟩;rcases S.par y (mem_of_getElem? hp) with k | k
  ·exact .inl ⟨k,E9 ndP hp hu k⟩
  ·obtain ⟨c,e⟩:=Sz (n:=s.heap.objs.size+1) k
   refine .inr ⟨.inl k,c,e,?_⟩;have q:=x.cell y c e;rw [Dy ndP hp hu (by show scope.names.lookup y≠_;rw [k];decide)] at q;exact q
 ·exact e0.hok.fresh (le_of_lt (x.above y c (PySem.mem_of_lookup h)))
 ·unfold start
  show _=N.length;rw [length_append,length_map,length_replicate];lia
theorem Z7b {CX:Kl} {P:Program} {w:World} {K:PySem.W.Frag} {mg:Str->Option Value} {base:Heap} {k:Nat} {f:Addr} {name qual:Str} {params:Arguments} {body:List Stmt} {scope:Scope} {dV kV doc pm cdv ct oc:Value} {an od:Option Addr}
  {osl:Array (Option Value)} {N ps:List Str} {sp:Sp} (lk:K.lookup f=some ⟨oc,od,.func (fnOf name qual params body scope dV kV doc pm an cdv ct),osl⟩) (hcd:codeIn K cdv qual=true) (S:FnScope N ps scope)
  (len:∀ vs H Q E,sp vs H Q E->vs.length=ps.length)
  (hbody:∀ (A:Around) (outer:List Env) (s:Shared) (H:Hp) (vs:List V) (Q:VK) (E:XK),RoomN k (A.deeper (envOfC qual scope s.heap.objs.size f cdv))->HdK A (Rk outer) H s.heap->sp vs H Q E ->
   ∃ t,Ro (Me CX P w K mg base N qual scope f cdv A outer s H E) body t/\t { nx:=fun _ H'=>Q .non H',rt:=Q } (start N vs) H) :
  FnOkN P w K mg base CX (k+1) f (fnOf name qual params body scope dV kV doc pm an cdv ct) ps sp:=by
 refine ⟨len,fun A outer s H args us vs Q E hr hk e0 hb r hsp=>?_⟩;have hl:=len _ _ _ _ hsp;have KX:K.In s.heap:=e0.mod.kin.keeps fun b o e=>(e0.bs b o e).1
 have lim:s.heap.NoLimit:=e0.mod.nolimit.keeps fun b o e=>(e0.bs b o e).1
 have hkind:∀ y∈ps.zip us,scope.names.lookup y.1=some .local\/(scope.names.lookup y.1=some .cell/\((cellsFrom (s.heap.objs.size+1) scope.names []).lookup y.1).isSome=true):=fun ⟨n,v⟩ hy=>by
  rcases S.par n (of_mem_zip hy).1 with q | q
  ·exact .inl q
  ·exact .inr ⟨q,cellsFrom_some _ _ _ (.inl q)⟩
 refine codeAny_call_function hr.depth (KX _ _ lk) rfl S.co S.gen rfl (codeRec_of KX hcd) (hb _ _ _ _ ?_);refine wpAny_newFunctionEnv_cells S.kind hkind fun env he s1 x=>?_
 subst he;refine ⟨lim.keeps x.toInCall.keep,codeAny_func ?_⟩;obtain ⟨t,ht,hq⟩:=hbody A outer s H vs Q E (hr.deeper _) hk hsp;have I:Inv (Me CX P w K mg base N qual scope f cdv A outer s H E) [] (start N vs) H s1:=Fb S e0 hl r x;refine wpAny_mono (ht [] s1 (start N vs) H _ I hq) (fun fl s' hs=>?_) fun e s' hs=>hs
 have fin:∀ {σ':St} {H':Hp} {v:V} {u:Value},Inv (Me CX P w K mg base N qual scope f cdv A outer s H E) [] σ' H' s'->Yg v u->Q v H'->CE outer P w H s Q u s' :=
  fun {σ' H' v u} J rv q=>⟨v,H',J.os,J.bare,J.base,J.hok,rv,q⟩
 cases fl with
 | ret u =>
  obtain ⟨v,σ',H',J,rv,q⟩:=hs;exact fin J rv q
 | next =>
  obtain ⟨σ',H',J,q⟩:=hs;exact fin (v:=V.non) (u:=Value.none) J rfl q
 | brk =>
  obtain ⟨_,_,_,q⟩:=hs;exact False.elim q
 | cont =>
  obtain ⟨_,_,_,q⟩:=hs;exact False.elim q
theorem FnOkN.x {P:Program} {w:World} {K:PySem.W.Frag} {mg:Str->Option Value} {base:Heap} {CX:Kl} {k:Nat} {f:Addr} {fd:FuncData} {ps:List Str} {sp:Sp} (F:FnOkN P w K mg base CX k f fd ps sp):FnOk P w K mg base CX k f fd ps sp :=
 ⟨F.len,fun A outer s H args us vs Q E hr e0 hb r hsp=>F.run A outer s H args us vs Q E hr.n (.inl hr.hd) e0 hb r hsp⟩
end L2
namespace PySem
open Sem (wp)
open AutoSeq1 (wpAny_loadPart')
namespace F
theorem nolen_lr:typeLookup (.type "list_reverseiterator") "__len__" = pure none:=by rw [typeLookup_type,builtinLookup_eq_fast];kernel_rfl
theorem hint_lr:typeLookup (.type "list_reverseiterator") "__length_hint__" = pure (some (.builtin "list_reverseiterator.__length_hint__")):=by rw [typeLookup_type,builtinLookup_eq_fast];kernel_rfl
end F
section
variable {prog:Program} {w:World} {A:Around} {E:Value->Shared->Prop} {s:Shared}
end
section
variable {prog:Program} {w:World} {A:Around} {s:Shared} {R:Result->Shared->Prop}
variable {I:Addr} {fp wr:List Addr} {G:Array GenState->Array GenState->Prop} {n:Nat} {P:Nat->Value->Prop} {St:Nat->Shared->Prop}
def N8 (prog:Program) (w:World) (A:Around) (I:Addr) (St:Nat->Shared->Prop):Prop:=∀ (s:Shared) (Q:Bool->Shared->Prop) (E:Value->Shared->Prop),St 0 s->(∀ tk,s.toks<=tk->Q false { s with toks:=tk })->wpAny (model prog w) A (Builtin.List.listLengthHint (.ref I)) Q E s
theorem G4 {T:String} (W:WalksS prog w A.in1 I fp wr G n P St) (hT:∀ i s,St i s->s.TypeIs (.ref I) T) (hTm:T="range_iterator" \/ T="list_reverseiterator") (hh:N8 prog w A.in1 I St) (S:Addr) (res:Value) (c₀:Nat) (hst:St 0 s) (hSf:S∉fp) (hI:I∈fp)
  (hS:s.heap.get? S=some { cls:=.type "list",data:=.seq #[] c₀ })
  (hR:∀ s' acc' c',Moved (S::wr) G s s'->s'.heap.get? S=some { cls:=.type "list",dict:=none,data:=.seq acc' c',slots:=#[] }->ItemsOf P acc' n->R (.ok (.ret res)) s') (hn:n<=sizeLine) :
  wpAny (model prog w) A.in1 (Builtin.List.listExtendWith (.ref S) (.ref I) res)
   (fun fin s'=>match fin with | .done f=>R (.ok f) s' | .again c'=>c'.quiet=true/\codeAny (model prog w) A c' R s') (fun e s'=>R (.error e) s') s:=by
 have hSI:S≠I:=fun e=>hSf (e▸hI)
 unfold Builtin.List.listExtendWith;refine wpAny_bind (wpAny_typeOf (hT 0 _ hst) ?_);have h1:Builtin.List.listSameRef (.ref S) (.ref I)=false:=by simp [Builtin.List.listSameRef,hSI]
 have h2:(Value.type T==Value.type "list")=false:=by rcases hTm with rfl | rfl<;>decide
 have h3:(Value.type T==Value.type "tuple")=false:=by rcases hTm with rfl | rfl<;>decide
 simp only [h1,h2,h3,Bool.or_false,Bool.false_eq_true,if_false];refine wpAny_bind (W.self 0 _ _ _ hst ?_);refine wpAny_bind (wpAny_holding (hh s _ _ hst fun tk htk=>?_));rw [if_neg (by rcases hTm with rfl | rfl<;>decide)];have hst₂:=W.frame 0 _ _ tk hst htk fun b _ o e=>e
 refine wpAny_pure ⟨plainId_quiet F.plain_extend_loop _,codeAny_extend_loopS W hn _ hSf _ n 0 _ _ _ rfl (zero_le _) hst₂ hS (ItemsOf.nil P) fun s' acc' c' hm hS' hacc=>?_⟩;exact hR s' acc' c' (Moved.trans W.gtrans ((Moved.refl W.grefl).then_heap htk fun b o hb e=>e) hm) hS' hacc
theorem S8 {T:String} (W:WalksS prog w A.in1 I fp wr G n P St) (hT:∀ i s,St i s->s.TypeIs (.ref I) T) (hTm:T="range_iterator" \/ T="list_reverseiterator") (hh:N8 prog w A.in1 I St) (S:Addr) (hst:St 0 s) (hSf:S∉fp) (hI:I∈fp)
  (hS:s.heap.get? S=some { cls:=.type "list",data:=.seq #[] })
  (hR:∀ s' acc' c',Moved (S::wr) G s s'->s'.heap.get? S=some { cls:=.type "list",dict:=none,data:=.seq acc' c',slots:=#[] }->ItemsOf P acc' n->R (.ok (.ret .none)) s') (hn:n<=sizeLine) :
  wpAny (model prog w) A.in1 (Builtin.«list.__init__» ⟨[.ref S,.ref I],[]⟩)
   (fun fin s'=>match fin with | .done f=>R (.ok f) s' | .again c'=>c'.quiet=true/\codeAny (model prog w) A c' R s') (fun e s'=>R (.error e) s') s:=by
 show wpAny _ A.in1 (do let old ← Builtin.List.listItems (.ref S);Builtin.List.listUpdate (.ref S) (fun _=>#[]);letGo old.toList.reverse;Builtin.List.listExtendWith (.ref S) (.ref I) .none) _ _ s;refine wpAny_bind ?_;unfold Builtin.List.listItems;refine wpAny_bind (wpAny_seqItems hS rfl (wpAny_pure ?_));show wpAny _ A.in1 (updateSeq S (fun _=>#[]) >>= fun _=>letGo (#[]:Array Value).toList.reverse >>= fun _=>Builtin.List.listExtendWith (.ref S) (.ref I) .none) _ _ s;refine wpAny_bind (wpAny_updateSeq hS rfl ?_);have hS₂:=get?_update_self (Obj.mapSeq (fun _=>(#[]:Array Value))) hS rfl;have oth:∀ b o,b≠S->s.heap.get? b=some o->(s.heap.update S (Obj.mapSeq (fun _=>(#[]:Array Value)))).get? b=some o :=
  fun b o hb e=>(get?_update_other _ _ (Ne.symm hb)).trans e
 refine wpAny_bind (wpAny_letGo ?_);refine G4 (hn:=hn) W hT hTm hh S .none _ (W.frame 0 s _ s.toks hst (le_refl _) fun b hb o e=>oth b o (fun h=>hSf (h▸hb)) e) hSf hI hS₂ fun s' acc' c' hm hS' hacc=>?_
 exact hR s' acc' c' (Moved.trans W.gtrans ((Moved.refl W.grefl).then_heap (le_refl _) fun b o hb e=>oth b o (fun h=>hb (h▸mem_cons_self)) e) hm) hS' hacc
end
section
variable {prog:Program} {w:World} {A:Around} {E:Value->Shared->Prop} {s:Shared}
variable {I:Addr} {fp wr:List Addr} {n:Nat} {P:Nat->Value->Prop} {St:Nat->Shared->Prop}
theorem Nr {T:String} {Q:Value->Shared->Prop} (W:WalksS prog w A.in1.in1 I fp wr (fun a b=>b=a) n P St) (hT:∀ i s,St i s->s.TypeIs (.ref I) T) (hTm:T="range_iterator" \/ T="list_reverseiterator") (hh:N8 prog w A.in1.in1 I St) (hst:St 0 s) (hfp:∀ b∈fp,b<s.heap.objs.size) (hI:I∈fp)
  (hQ:∀ h' tk acc' c',(∀ b o,b∉wr->s.heap.get? b=some o->h'.get? b=some o)->h'.get? s.heap.objs.size=some { cls:=.type "list",dict:=none,data:=.seq acc' c',slots:=#[] }->ItemsOf P acc' n->Q (.ref s.heap.objs.size) { s with heap:=h',toks:=tk }) (hn:n<=sizeLine) :
  wpAny (model prog w) A (call (.type "list") [.ref I]) Q E s:=by
 have hSf:s.heap.objs.size∉fp:=fun hm=>lt_irrefl _ (hfp _ hm)
 refine callType_codes (Q₁:=fun obj s₁=>obj=.ref s.heap.objs.size/\s₁={ s with heap:=s.heap.push { cls:=.type "list",data:=.seq #[] } }) F.called_list (F.typeCall_list_1 _) F.entry_list_init
  (code_list_new _ ⟨rfl,rfl⟩) fun obj s₁ h₁=>?_
 obtain ⟨rfl,rfl⟩:=h₁;have hS:(s.heap.push { cls:=.type "list",data:=.seq #[] }).get? s.heap.objs.size=some { cls:=.type "list",data:=.seq #[] }:=get?_push_size _ rfl;refine ⟨⟨_,hS,rfl⟩,F.args_list_init_2 _ _,S8 (hn:=hn) W hT hTm hh _ (W.frame 0 s _ s.toks hst (le_refl _) fun b _ o e=>get?_push_of_some _ e) hSf hI hS fun s' acc' c' hm hS' hacc=>?_⟩;refine ⟨rfl,?_⟩;rw [Moved.eq_with hm];refine hQ s'.heap s'.toks acc' c' (fun b o hb e=>hm.heap b o (fun hmem=>?_) (get?_push_of_some _ e)) hS' hacc;rcases mem_cons.mp hmem with e' | hmem
 ·exact absurd (lt_size e) (by rw [e'];exact lt_irrefl _)
 ·exact hb hmem
end
section
variable {prog:Program} {w:World} {A:Around}
theorem Z0i (it:Addr) (St:Nat->Shared->Prop) (hT:∀ s,St 0 s->s.TypeIs (.ref it) "list_reverseiterator"):N8 prog w A it St:=fun s Q E hst hQ=>by
 unfold Builtin.List.listLengthHint;refine wpAny_bind (wpAny_specialOf (hT s hst) F.nolen_lr ?_);show wpAny _ _ (specialOf (Value.ref it) (Str.ofString "__length_hint__") >>= _) _ _ _;refine wpAny_bind (wpAny_specialOf (hT s hst) F.hint_lr ?_)
 (generalize hid:("list_reverseiterator.__length_hint__" : String)=id0;(fail_if_success (clear hid id0));wp_delta;rw [show splitId id0=some ("list_reverseiterator","__length_hint__") from by subst hid;decide +kernel];subst hid)
 refine wpAny_bind (wpAny_isInstance (b:=true) (hT s hst) (by rw [isSubtype_type];kernel_rfl) ?_);exact wpAny_pure (hQ s.toks (le_refl _))
end
section
variable {prog:Program} {w:World} {A:Around} {E:Value->Shared->Prop} {s:Shared}
theorem Mc {it l h:Addr} {oh:Obj} {vh:Array Value} {Q:Option Value->Shared->Prop} (hh:A.handled=some (.ref h)) (hoh:s.heap.get? h=some oh) (hdh:oh.data=.fields vh) (hc2:vh[2]?=some .none) (hit:s.heap.IsRevIter it l (-1))
   (hQ:∀ h',ExtBut it s.heap h'->Q none { s with heap:=h' }):wpAny (model prog w) A (pyNext (.ref it)) Q E s:=by
 obtain ⟨o,ho,hc,hd⟩:=id hit;unfold pyNext;refine wpAny_bind (wpAny_attempt (wpAny_callSpecial?_slot (name:=Str.ofString "__next__") hit.typeIs F.slot_lri_next
   (wpAny_call_entry F.slot_lri_next hit.typeIs F.entry_lri_next ?_ (F.args_lri_next_1 _))))
 unfold Builtin.«list_reverseiterator.__next__»;refine wpAny_bind (wpAny_of_eq (a:=(Value.ref it,[])) rfl ?_);try dsimp only
 refine wpAny_bind (wpAny_field ho hd (x:=rawInt (-1)) rfl ?_);show wpAny _ _ (if (-1:Int)<0 then _ else _) _ _ s;rw [if_pos (by decide)];refine wpAny_bind (wpAny_rule ?_);first
 | show wpAny _ _ (newExc (.type "StopIteration") [] >>= _) _ _ _
 | (refine wpAny_bind ?_;show wpAny _ _ (newExc (.type "StopIteration") [] >>= _) _ _ _)
 refine wpAny_bind ?_;simp only [newExc,newTuple];refine wpAny_bind (wpAny_newObj_type ?_ (by size_fits));refine wpAny_bind (m:=firstArgMember _ _) (wpAny_of_eq (a:=Value.none) (by first | rfl | (simp only [firstArgMember];rfl)) ?_);refine wpAny_newObj_type ?_ (by size_fits);have hlt:=lt_size hoh;refine L2.O3 (A:=A.in1) (h:=h) hh ?_ (get?_push_size _ rfl) rfl (by simp;lia) (get?_push_of_some _ (get?_push_of_some _ hoh)) hdh hc2 ?_
 · intro z
   rw [z] at hlt;exact absurd hlt (not_lt.mpr (by first | (rw [size_push];exact le_succ _) | (show _<=(Heap.push _ _).objs.size;rw [size_push];exact le_succ _)))
 refine wpAny_bind (wpAny_isInstance (T:="StopIteration") (b:=true) ⟨_,get?_update_self _ (get?_push_size _ rfl) rfl,rfl⟩ isSubtype_stop ?_);refine wpAny_pure (hQ _ fun b ob hb eo=>?_);have hb2:=lt_size eo;refine (get?_update_other _ _ ?_).trans (get?_push_of_some _ (get?_push_of_some _ eo));intro z;rw [← z] at hb2;exact absurd hb2 (not_lt.mpr (by first | (rw [size_push];exact le_succ _) | (show _<=(Heap.push _ _).objs.size;rw [size_push];exact le_succ _)))
end
theorem Walks.listRevH {prog:Program} {w:World} {A:Around} (hs:List (Addr×Obj)) (hh:A.handled=none\/∃ p∈hs,A.handled=some (.ref p.1)/\∃ ve,p.2.data=.fields ve/\ve[2]?=some .none) (I l:Addr) (hne:l≠I) (hn:∀ p∈hs,p.1≠I) (items:Array Value) :
  Walks prog w A I (I::l::hs.map (·.1)) [I] items.size (fun i v=>items[items.size - 1 - i]?=some v) (fun i h=>i<=items.size/\h.IsRevIter I l ((items.size:Int) - 1 - (i:Int))/\h.IsList l items/\∀ p∈hs,h.get? p.1=some p.2) where
 sub:=fun b hb=>by simp at hb;simp [hb]
 frame:=fun _ _ _ x hk=>⟨x.1,x.2.1.at fun o e=>hk I (by simp) o e,x.2.2.1.at fun o e=>hk l (by simp) o e,fun p hp=>hk p.1 (mem_cons_of_mem _ (mem_cons_of_mem _ (List.mem_map_of_mem hp))) p.2 (x.2.2.2 p hp)⟩
 item:=fun i s Q E hi x hQ=>by
  have e:(items.size:Int) - 1 - (i:Int)=((items.size - 1 - i:Nat):Int):=by lia
  have hit:=x.2.1;rw [e] at hit;have hx:items[items.size - 1 - i]?=some (items[items.size - 1 - i]'(by lia)):=Array.getElem?_eq_getElem (by lia);refine wpAny_pyNext_rev_item hit x.2.2.1 hx fun h' hit' hs'=>?_
  have e2:((items.size - 1 - i:Nat):Int) - 1=(items.size:Int) - 1 - ((i+1:Nat):Int):=by lia
  rw [e2] at hit';exact hQ _ h' s.toks hx ⟨hi,hit',x.2.2.1.at fun o eo=>(hs'.2 l hne).trans eo,fun p hp=>(hs'.2 p.1 (hn p hp)).trans (x.2.2.2 p hp)⟩ fun b o hb eo=>hs'.extBut b o (fun h=>hb (by simp [h])) eo
 done:=fun s Q E x hQ=>by
  have e:(items.size:Int) - 1 - (items.size:Int) = -1:=by lia
  have hit:=x.2.1;rw [e] at hit;rcases hh with hh | ⟨p,hp,hh,ve,h1,h2⟩
  ·exact wpAny_pyNext_rev_end hh hit fun h' he'=>hQ h' s.toks fun b o hb eo=>he' b o (fun h=>hb (by simp [h])) eo
  ·exact Mc hh (x.2.2.2 p hp) h1 h2 hit fun h' he'=>hQ h' s.toks fun b o hb eo=>he' b o (fun h=>hb (by simp [h])) eo
 self:=fun _ _ _ _ x hQ=>wpAny_pyIter_revIter x.2.1 hQ
end PySem
namespace L2
open PySem PySem.Spec PyProof.Rows
section
variable {X:Cx} {m:Bool} {e:Expr} {f:Ev->Option Dat} {fs:Ev->Option (List Dat)}
theorem Re (h:Heap) (o:Obj):(h.push o).objs.size=h.objs.size+1:=by cases h;exact Array.size_push ..
def dLR (fs:Ev->Option (List Dat)):Ev->Option (List Dat):=fun env=>match fs env with
 | some [.lst xs]=>some xs.reverse
 | _=>none
theorem Zx.rev:∀ {xs:List V} {us:List Value},Zx xs us->Zx xs.reverse us.reverse
 | [],[],_=>.nil
 | x::xs,u::us,.cons h r=>by rw [reverse_cons,reverse_cons];exact (Zx.rev r).append (.cons h .nil)
theorem Z0d {p1 p2 q1 q2:Pos} (hgL:Gl X "list") (hmL:X.mg "list" = none) (hgR:Gl X "reversed") (hmR:X.mg "reversed" = none) (ha:Km true X [e] fs) (hc:HdN X:=by first | exact HdN.calm rfl | assumption)
  (hvL:bootBuiltins "list" = some (.type "list"):=by decide +kernel) (hvR:bootBuiltins "reversed" = some (.type "reversed"):=by decide +kernel)
  (hs1:starEach [.Call (.Name "reversed" p2) [e] [] q2] X.env=[(false,eval (.Call (.Name "reversed" p2) [e] [] q2) X.env)]:=by rfl)
  (hs3:starEach [e] X.env=[(false,eval e X.env)]:=by rfl) :
  PNd X (.Call (.Name "list" p1) [.Call (.Name "reversed" p2) [e] [] q2] [] q1) (dLR fs):=by
 intro pins s σ H Q I ⟨env,R,A,ds,k,e1,q⟩;unfold dLR at e1;split at e1
 case h_2=>cases e1
 rename_i xs en;cases e1;refine Call_ (M4 I hgL hmL hvL (callWith_type1 ?_ hs1 rfl));rw [hs1];refine Calls.spliced_cons ?_;refine Call_ (M4 I hgR hmR hvR (callWith_type1 (Wh (ha q2 pins s σ H (fun vs H1=>∃ v,Zp H H1/\vs=[v]/\Pk X.K A H1 (.lst xs) v) I ⟨env,R,A,[.lst xs],k,en,fun vs H1 s1 r1=>?_⟩) fun us s1 ⟨vs,H1,I1,r1,v,sm,ev,pv⟩=>?_) hs3 rfl))
 ·obtain ⟨v,e3,p1⟩:=r1.one
  exact ⟨v,s1,e3,p1⟩
 subst ev;obtain ⟨a,ys,ea,h1,r2⟩:=pv.lst;subst ea;obtain ⟨u,rfl,ru⟩:=Q7 r1;cases ru;obtain ⟨its,rv0,pl,hz⟩:=I1.list h1.sq;refine call_reversed_list pl.isList ?_;refine Calls.spliced_nil ?_;have hlt:=I1.hok;obtain ⟨oa,hoa,_⟩:=id pl.isList;have hne:a≠s1.heap.objs.size:=ne_of_lt (lt_size hoa);obtain ⟨hs,hsh,hsg⟩:∃ hs:List (Addr×Obj),(X.A.in1.in1.handled=none\/∃ p∈hs,X.A.in1.in1.handled=some (.ref p.1)/\∃ ve,p.2.data=.fields ve/\ve[2]?=some .none)/\∀ p∈hs,s1.heap.get? p.1=some p.2:=by
  rcases hc _ _ _ _ I1 with z | ⟨eh,oh,vh,z1,z2,z3,z4⟩
  ·exact ⟨[],.inl z,fun p hp=>by cases hp⟩
  ·exact ⟨[(eh,oh)],.inr ⟨_,mem_singleton.mpr rfl,z1,vh,z3,z4⟩,fun p hp=>by rw [mem_singleton.mp hp];exact z2⟩
 have hsn:∀ p∈hs,p.1≠s1.heap.objs.size:=fun p hp=>ne_of_lt (lt_size (hsg p hp))
 have W:=(Walks.listRevH (prog:=X.prog) (w:=X.w) (A:=X.A.in1.in1) hs hsh s1.heap.objs.size a hne hsn its.toArray).toS;have hlen:=rv0.length;refine Nr W (T:="list_reverseiterator") (fun i s st=>st.2.1.typeIs) (.inr rfl) (Z0i _ _ fun s st=>st.2.1.typeIs) ⟨zero_le _,?_,pl.isList.at fun o eo=>get?_push_of_some _ eo,fun p hp=>get?_push_of_some _ (hsg p hp)⟩ ?_ (by simp) ?_ ?_
 ·refine ⟨_,get?_push_size _ rfl,rfl,?_⟩
  simp [revObj]
 ·intro b hb
  rcases mem_cons.mp hb with rfl | hb
  ·rw [Re];exact Nat.lt_succ_self _
  ·rcases mem_cons.mp hb with rfl | hb
   ·exact lt_of_lt_of_le (lt_size hoa) (by rw [Re];lia)
   ·obtain ⟨p,hp,rfl⟩:=mem_map.mp hb
    exact lt_of_lt_of_le (lt_size (hsg p hp)) (by rw [Re];lia)
 ·intro h' tk acc' c' hk hl hi
  have kp:∀ b o,s1.heap.get? b=some o->h'.get? b=some o:=fun b o eb=>hk b o (fun hm=>by
   have hlt:=lt_size eb;rw [mem_singleton.mp hm] at hlt;exact lt_irrefl _ hlt) (get?_push_of_some _ eb)
  have eacc:acc'.toList=its.reverse:=by
   apply List.ext_getElem?;intro i;by_cases hi':i<its.length
   ·have hia:i<acc'.size:=by rw [hi.1];simpa using hi'
    have:=hi.2 i acc'[i] (by simp [hia]);rw [Array.getElem?_toList,Array.getElem?_eq_getElem hia,List.getElem?_reverse hi'];simpa using this.symm
   ·rw [List.getElem?_eq_none (l:=acc'.toList) (by rw [Array.length_toList,hi.1];simpa using hi'),List.getElem?_eq_none (l:=its.reverse) (by rw [List.length_reverse];exact Nat.le_of_not_lt hi')]
  generalize hS:({ heap:=s1.heap.push (revObj a ((its.toArray.size:Int) - 1)),gens:=s1.gens,drawn:=s1.drawn,toks:=s1.toks,os:=s1.os }:Shared).heap.objs.size=S at hl ⊢;have hSz:s1.heap.objs.size<=S:=by
   rw [← hS];show _<=(Heap.push _ _).objs.size;rw [Re];exact le_succ _
  have I2:Inv X pins σ (W6 H1 S (.lst ys.reverse)) { s1 with heap:=h',toks:=tk }:=I1.laid kp hSz (show W2 X.prog X.w _ h' _ (.lst ys.reverse) from ⟨by rw [List.length_reverse];exact hz,acc'.toList,c',by rw [eacc];exact rv0.rev,by rw [Array.toArray_toList];exact hl⟩);exact ⟨.ref S,_,I2,rfl,(q.mono sm).at (vs:=ys.reverse) (by rw [List.length_reverse,← Zv r2];exact hz) (Z58 r2) _ (I1.hok.fresh hSz)⟩
 ·rw [size_toArray,← hlen];exact hz
def Z7v:Dat->Dat->Option Dat
 | .str x,.int k=>if 1<=k/\k<=1000/\x.length<=1000 then some (.str (Txt.mul x k)) else none
 | _,_=>none
theorem Op {α:Type} (x:Array α) (c:α):∀ (n:Nat) (acc:Array α),c∈(List.replicate n x).foldl (·++·) acc->c∈acc\/c∈x
 | 0,acc,h=>.inl h
 | n+1,acc,h=>by
  rw [List.replicate_succ,List.foldl_cons] at h;rcases Op x c n _ h with h | h
  ·rcases Array.mem_append.mp h with h | h
   ·exact .inl h
   ·exact .inr h
  ·exact .inr h
theorem Cw {x:Str} {k:Int} (h:PyData.strOk x=true):PyData.strOk (Txt.mul x k)=true:=by
 unfold Txt.mul;split
 ·unfold PyData.strOk Str.empty;simp
 ·split
  ·exact h
  ·unfold PyData.strOk at h ⊢
   rw [Array.all_eq_true'] at h ⊢;intro c hc;rcases Op x.cps c _ _ hc with z | z
   ·simp at z
   ·exact h c z
theorem Z8f:Ji X (binaryOp .Mult) Z7v:=fun pins s σ H x y v u Q I rx ry zz=>by
 obtain ⟨A,a,b,d,mu,e,p1,p2,q⟩:=zz;unfold Z7v at e;split at e
 ·rename_i z k
  split at e
  ·rename_i hz
   cases e;obtain ⟨e1,k1⟩:=p1.str;have e2:=p2.int;subst e1 e2;obtain ⟨t,rfl⟩:=rx;obtain ⟨t',rfl⟩:=ry;have hl:(Txt.mul z k).length<=1000*1000:=len_mul_leN hz.2.2 hz.2.1;refine SB.mul (mulOk_of 1000 1000 hz.2.2 hz.2.1 (by lia) (by decide) (by decide)) fun t' k'=>⟨.str (Txt.mul z k),H,I.tok _,⟨_,rfl⟩,q.here (Dx (SOk.of (Cw k1.ok) (le_trans hl (by decide))))⟩
  ·cases e
 ·cases e
def Md:Dat->Dat->Option Dat
 | .int i,.int j=>Zbt (.int i) (.int j)
 | .str x,.int k=>Z7v (.str x) (.int k)
 | _,_=>none
theorem J7:Ji X (binaryOp .Mult) Md:=Ji.or Z9c Z8f fun x y d e=>by
 unfold Md at e;split at e
 ·exact .inl e
 ·exact .inr e
 ·cases e
end
end L2
namespace L2
open PySem
section
variable {prog:Program} {w:World} {A:Around} {E:Value->Shared->Prop} {h:Heap} {g:Array GenState} {d:Drawn} {t:Nat} {os:OsState}
variable {nm q:Str} {C N:Addr} {bs bm bmB:List Value} {hdct:Bool} {sn:List Str} {sub:List Value} {ab:Bool} {col:Option Bool} {dd:Option Addr} {k0 k1 k2 k3 k5:Option Value} {newId nid:String}
theorem Kf (T:OwnTail h [.type "ValueError",.type "Exception",.type "BaseException",.type "object"] bm) {e t0:Addr} {x:Value} {dct:Option Addr} {Q:Value->Shared->Prop}
  (hC:h.get? C=some (excClassObj nm q C N bs bm hdct sn sub ab col dd k0 k1 k2 k3 k5 newId)) (he:h.get? e=some { cls:=.ref C,dict:=dct,data:=.fields #[.ref t0,.none,.none,.none,.bool false,.none] })
  (hq:∀ h',h'.get? e=some { cls:=.ref C,dict:=dct,data:=.fields #[.ref h.objs.size,.none,.none,.none,.bool false,.none] }->(∀ b o,b≠e->h.get? b=some o->h'.get? b=some o)->h.objs.size<=h'.objs.size->Q .none ⟨h',g,d,t,os⟩) :
  wpAny (model prog w) A (call (.builtin "ValueError.__init__") [.ref e,x]) Q E ⟨h,g,d,t,os⟩:=by
 have F:=PySem.F.excBase_ValueError;refine wpAny_call (codeAny_call_builtin F.init.plain F.initEntry (wpAny_check_init_subU F T hC he rfl ?_));have he2:=get?_push_of_some { cls:=.type "tuple",data:=.seq #[x] } he
 wp_walk
 refine hq _ ?_ ?_ ?_
 ·rw [get?_update_self _ he2 rfl]
  rfl
 ·intro b o hb hbo
  rw [get?_update_other _ _ (Ne.symm hb)];exact get?_push_of_some _ hbo
 ·rw [Heap.size_after_update,size_push];exact le_succ _
end
end L2
namespace L2
open PySem PySem.Spec PyProof.Rows PySem.W
open PySem.Builtin PySem.Builtin.ObjectAttr
def Qn:List Value:=[.type "ValueError",.type "Exception",.type "BaseException",.type "object"]
section
variable {prog:Program} {w:World} {A:Around} {E:Value->Shared->Prop} {s:Shared} {K:Frag} {x C a b:Addr} {cd:ClassData} {R:Result->Shared->Prop} {v:Value} {name:Str}
theorem Zbk {ox:Obj} {od:Option Obj} {tk:Tok} (X:K.In s.heap) (I:InstAt s.heap x ox C od) (hc:clsIn K C=some cd) (hm:cd.mro=.ref a::.ref b::Qn) (ha:findIn K (.ref C) name=some none)
  (h:wpAny (model prog w) A.in1 (storeInOwnDict (.ref x) (.ref C) (.str name tk) name v false)
   (fun fin s'=>match fin with | .done f=>R (.ok f) s' | .again c'=>c'.quiet=true/\codeAny (model prog w) A c' R s') (fun e s'=>R (.error e) s') s) :
  codeAny (model prog w) A (.call (.builtin "object.__setattr__") ⟨[.ref x,.str name tk,v],[]⟩) R s:=by
 have SF:=PySem.F.store_object;have sub:Looks (model prog w) s.heap (isInstance (.ref x) (.type "object")) true:=I.type.andThen (looks_mroIn X (by unfold mroIn;rw [hc,Option.bind_some,hm];rfl));refine codeAny_call_builtin SF.slot.plain SF.entry (@check_slot (model prog w) _ _ s "object.__setattr__" "object" "__setattr__" (.ref x) [.str name tk,v] [] _ SF.kind SF.split sub (SF.args (.ref x) (.str name tk) v) ?_);have hmr:Looks (model prog w) s.heap (mroOf (.ref C)) cd.mro:=(looks_clsIn X hc).andThen .now;rw [osa_eq,refuse_eq];refine wpAny_bind (wpAny_bind (I.type.here (wpAny_bind (hmr.here ?_))));rw [hm,refuseLoop_ref,refuseLoop_ref,show Qn=[.type "ValueError",.type "Exception",.type "BaseException",.type "object"] from rfl,PySem.F.store_ValueError.passes];refine wpAny_pure (wpAny_bind (I.type.here (wpAny_bind ((looks_findIn X ha).here (wpAny_bind ?_)))));exact wpAny_pure h
end
section
variable {prog:Program} {w:World} {A:Around} {E:Value->Shared->Prop} {h:Heap} {g:Array GenState} {d:Drawn} {t:Nat} {os:OsState} {x C:Addr} {v:Value} {name:Str} {oC:Obj} {cd:ClassData}
theorem Ca {o:Obj} {tk:Tok} {Q:Fin->Shared->Prop} (hx:h.get? x=some o) (hc:o.cls=.ref C) (hnc:∀ c,o.data≠.cls c) (hdn:o.dict=none) (hC:h.get? C=some oC) (hcd:oC.data=.cls cd) (hhd:cd.hasDict=true)
   (hq:∀ h' tk',h'.get? x=some { cls:=o.cls,dict:=some h.objs.size,data:=o.data,slots:=o.slots }->h'.Ns1 h.objs.size (fun y=>if y=name then some v else none)->(∀ b ob,b≠x->h.get? b=some ob->h'.get? b=some ob)->h.objs.size<h'.objs.size->Q (.done (.ret .none)) ⟨h',g,d,tk',os⟩) :
   wpAny (model prog w) A (storeInOwnDict (.ref x) (.ref C) (.str name tk) name v false) Q E ⟨h,g,d,t,os⟩:=by
 unfold storeInOwnDict;repeat (first | (with_reducible refine wpAny_loadPart_at hx ?_;rw [hc]) | with_reducible refine wpAny_loadPart_at hC ?_ | wp_step)
 rw [hcd];refine wpAny_pure ?_;rw [hhd,if_neg (by decide),hdn];show wpAny _ _ (if (!true||!typeHasDict (Value.ref C))=true then pure none else _) _ _ _;rw [if_neg (by simp [typeHasDict])];have hx₁:(h.push { cls:=.type "dict",data:=.dict #[] }).get? x=some o:=get?_push_of_some _ hx;have hxs:x≠h.objs.size:=ne_of_lt (lt_size hx);split
 · rename_i c hcd'
   exact absurd hcd' (hnc c)
 · refine wpAny_bind (wpAny_alloc' ?_)
   refine wpAny_bind (wpAny_update' hx₁ ?_);refine wpAny_pure ?_;have hgd:((h.push { cls:=.type "dict",data:=.dict #[] }).update x fun o=>{ cls:=o.cls,dict:=some h.objs.size,data:=o.data,slots:=o.slots }).get? h.objs.size
       = some { cls:=.type "dict",data:=.dict #[] } :=
     (Heap.get?_update_ne _ _ _ _ hxs.symm).trans (Heap.get?_push_at rfl rfl)
   have hnd:((h.push { cls:=.type "dict",data:=.dict #[] }).update x fun o=>{ cls:=o.cls,dict:=some h.objs.size,data:=o.data,slots:=o.slots }).Ns h.objs.size (fun _=>none) :=
     ⟨_,#[],_,hgd,rfl,fun e he=>absurd he (by simp),fun _=>rfl⟩
   show wpAny _ _ (storeInDict h.objs.size (.str name tk) name v) _ _ _;unfold storeInDict newKeyGuard;refine wpAny_bind (wpAny_pure (wpAny_bind (wpAny_nsSet1 (Heap.Ns1.of_empty hnd) fun h' hn' hs=>?_)));obtain ⟨oD,esD,epD,hoD,hdD,hcD⟩:=hn'.count (Within.cons name v Within.nil);refine wpAny_bind (wpAny_lookBehind hoD (by rw [hdD];exact pastItsLine_dict (le_trans hcD (by rw [length_cons,length_nil,sizeLine_eq];lia))) ?_)
   wp_walk
   have hx':h'.get? x=some { cls:=o.cls,dict:=some h.objs.size,data:=o.data,slots:=o.slots }:=by
     refine (hs.2 x hxs).trans (get?_update_self _ hx₁ ?_);have hfr:=(Heap.get?_some_iff.mp hx).2;obtain ⟨oc,od,odt,osl⟩:=o;cases odt<;>first | rfl | exact hfr
   refine hq h' _ hx' hn' (fun b ob hbx hb=>?_) ?_
   · exact (hs.2 b (ne_of_lt (lt_size hb))).trans ((Heap.get?_update_ne _ _ _ _ hbx).trans (get?_push_of_some _ hb))
   · have h1:=hs.1
     rw [Heap.size_after_update,size_push] at h1;lia
end
open PySem.Builtin PySem.Builtin.ObjectAttr
section
variable {prog:Program} {w:World} {A:Around} {E:Value->Shared->Prop} {h:Heap} {g:Array GenState} {d:Drawn} {t:Nat} {os:OsState} {x C dx:Addr} {v:Value} {name:Str} {oC o:Obj} {cd:ClassData} {K:Frag} {mA:Str->Option Value}
end
open PySem.Builtin PySem.Builtin.ObjectAttr
section
variable {prog:Program} {w:World} {A:Around} {E:Value->Shared->Prop} {h:Heap} {g:Array GenState} {d:Drawn} {t:Nat} {os:OsState} {x C:Addr} {o:Obj} {K:Frag}
structure XCls (K:Frag) (C:Addr):Prop where
 cd:∃ cd,clsIn K C=some cd/\cd.hasDict=true/\∃ a b,cd.mro=.ref a::.ref b::Qn
 cl:findIn K (.ref C) "__class__" = some (some (.builtin "object.__class__"))
 ga:findIn K (.ref C) "__getattribute__" = some (some (.builtin "BaseException.__getattribute__"))
 gh:findIn K (.ref C) "__getattr__" = some none
 sa:findIn K (.ref C) "__setattr__" = some (some (.builtin "object.__setattr__"))
theorem XCls.ld (c:XCls K C) (X:K.In h):∃ oC cd,h.get? C=some oC/\oC.data=.cls cd/\cd.hasDict=true:=by
 obtain ⟨cd,hc,hd,_⟩:=c.cd;unfold clsIn at hc;split at hc
 ·rename_i c' d' cd' sl' ho
  cases hc;exact ⟨_,_,X _ _ ho,rfl,hd⟩
 ·cases hc
end
end L2
namespace L2
open PySem PySem.Spec PyProof.Rows
theorem Qt {P:Program} {w:World} {l:List Env} {ch:List Addr} {H:Hp} {h h':Heap} (ok:M7 P w H h) (k:Iu l ch h h') (hc:∀ b∈ch,H b=none) (hf:∀ b∈Rk l,H b=none):M7 P w H h':=fun a o e=>by
 have key:∀ b u,H b≠none->h.get? b=some u->h'.get? b=some u:=fun b u n q=>(k b u q fun z=>n (hc b z)).1 fun z=>n (hf b z)
 exact (ok a o e).stay (fun b u z q=>key b u (by rcases z with z | z<;>simp_all) q) (fun _ q=>q) fun _ _ q=>q
theorem E2 {l:List Env} {ch:List Addr} {H:Hp} {h h':Heap} (k:Iu l ch h h') (hc:∀ b∈ch,H b=none):Un (Rk l) ch H H h h' where
 keep:=fun b o q n hf hx=>(k b o q hx).1 hf
 slot:=fun b o q n hf hx=>(k b o q hx).2
 free:=fun b o q n hx=>n
 there:=fun b o q hx=>by obtain ⟨sl,z⟩:=(k b o q hx).2;exact ⟨_,z⟩
 tups:=fun b xs q=>q
 frzs:=fun b o u q=>q
 tbls:=fun b ps q=>⟨#[],by simpa using q⟩
def Ab (P:Program) (w:World) (base:Heap) (pl:Bool:=false):Kl:=fun outer H s E ev s'=>∃ e C dct T H' c2,ev=.ref e/\s'.os=s.os/\AllBare s'.gens/\Un (Rk outer) [] H H' s.heap s'.heap/\M7 P w H' s'.heap /\
 s.heap.objs.size<=e/\s.heap.objs.size<=T/\H' e=none/\H' T=none/\Do s'.heap base e T (.ref C,c2) dct .none/\(pl=true->c2=some .none)/\N3 H H' dct/\E (.ref C) dct H'
theorem Inv.noBase {X:Cx} {pins:List (Addr×Obj)} {σ:St} {H:Hp} {s:Shared} (I:Inv X pins σ H s) {e:Addr} (h:X.s₀.heap.objs.size<=e):X.base.get? e=none:=by
 cases q:X.base.get? e with
 | none=>rfl
 | some o=>exact absurd (lt_size (I.ok.bs e o q).1) (not_lt.mpr h)
theorem Iw {P:Program} {w:World} {K:PySem.W.Frag} {mg:Str->Option Value} {base:Heap} {pl:Bool} {Y:Cx} {N:List Str} {qual:Str} {scope:Scope} {f:Addr} {cd:Value} {A:Around} {outer:List Env} {s:Shared} {H:Hp} {E:XK} {pins:List (Addr×Obj)} {σ:St} {H':Hp} {s':Shared} {e C:Addr} {dct:Option Addr}
  (I:Inv (Ts (Ab P w base pl) P w K mg base N qual scope f cd A outer s H E) pins σ H' s') (x:XSt Y pins H' s'.heap e C dct) (hY:Y={ Ts (Ab P w base pl) P w K mg base N qual scope f cd A outer s H E with pl:=pl }) (hnw:N3 H H' dct) (q:E (.ref C) dct H') :
  (Ts (Ab P w base pl) P w K mg base N qual scope f cd A outer s H E).xe (.ref e) s':=by
 subst hY;have hfr:(A.deeper (envOfC qual scope s.heap.objs.size f cd)).frames=some (envOfC qual scope s.heap.objs.size f cd::outer):=I.ok.frames;have hl:s'.heap.FunFrames base (envOfC qual scope s.heap.objs.size f cd::outer):=I.stack;have hkb:base.StaysIn s'.heap:=I.bk;have lo:s.heap.objs.size<=e:=x.lo;have hen:base.get? e=none:=I.noBase x.lo;have bs:Un (Rk outer) [] H H' s.heap s'.heap:=I.base;have hfree:∀ b∈Rk (envOfC qual scope s.heap.objs.size f cd::outer),H' b=none:=I.stkFree;have fin:∀ (h':Heap) (T':Addr) (c2:Option Value) (ch:List Addr),(pl=true->c2=some .none)->(∀ b∈ch,H' b=none/\s.heap.objs.size<=b)->s.heap.objs.size<=T'->H' T'=none->Do h' base e T' (.ref C,c2) dct .none->Iu (envOfC qual scope s.heap.objs.size f cd::outer) ch s'.heap h' ->
   Ab P w base pl outer H s E (.ref e) { s' with heap:=h' }:=fun h' T' c2 ch hc2 hch hT hTn ht kp=>by
  have ncb:∀ {b:Addr} {o:Obj},s.heap.get? b=some o->b∉ch:=fun {b o} q z=>absurd (lt_size q) (not_lt.mpr (hch b z).2)
  have nfr:∀ {b:Addr} {o:Obj},s.heap.get? b=some o->b∉Rk outer->b∉Rk (envOfC qual scope s.heap.objs.size f cd::outer):=fun {b o} q n z=>by
   rcases mem_cons.mp (I.stkSub b z) with e1 | e1
   ·have:b=s.heap.objs.size:=e1
    exact absurd (lt_size q) (by rw [this];exact lt_irrefl _)
   ·exact n e1
  refine ⟨e,C,dct,T',H',c2,rfl,I.os,I.bare,⟨?_,?_,?_,?_,bs.tups,bs.frzs,bs.tbls⟩,Qt I.hok kp (fun b z=>(hch b z).1) hfree,lo,hT,x.un,hTn,ht,hc2,hnw,q⟩
  ·exact fun b o q n hf hx=>(kp b o (bs.keep b o q n hf hx) (ncb q)).1 (nfr q hf)
  ·intro b o q n hf hx
   obtain ⟨sl,z⟩:=bs.slot b o q n hf hx;obtain ⟨sl',z'⟩:=(kp b _ z (ncb q)).2;exact ⟨sl',z'⟩
  ·exact fun b o q n hx=>bs.free b o q n hx
  ·intro b o q hx
   obtain ⟨o',z⟩:=bs.there b o q hx;obtain ⟨sl,z'⟩:=(kp b o' z (ncb q)).2;exact ⟨_,z'⟩
 have sz:s.heap.objs.size<=s'.heap.objs.size:=I.sz;rcases x.ob with ⟨o,vs,he,hc,hd,hda,h1,hp⟩ | ⟨T,c2,hT,hTn,_,ht,hp⟩
 ·refine Nj hfr hl rfl he hkb hen hda h1 fun h' T' z0 z1 z2 z3 z4=>?_
  rw [hc,hd] at z3;exact fin h' T' _ [e] hp (fun b hb=>by rw [mem_singleton.mp hb];exact ⟨x.un,lo⟩) (le_trans sz z0) (I.hok.fresh z0) z3 z4
 ·refine Z98 hfr hl rfl ht hkb hen fun h' T' z0 z1 z2 z3 z4=>?_
  refine fin h' T' _ [e,T] hp (fun b hb=>?_) (le_trans sz z0) (I.hok.fresh z0) z3 z4;rcases mem_cons.mp hb with e1 | e1
  ·rw [e1];exact ⟨x.un,lo⟩
  ·rw [mem_singleton.mp e1];exact ⟨hTn,hT⟩
def A7 (K:PySem.W.Frag) (fr:Bool) (R:AS) (H:Hp) (Q:VK) (E:XK):Rs->Prop
 | .ok d=>∀ v H',Zp H H'->Rp K (av H' R) d v->(fr=true->NwT K ⟨H,R,true⟩ H' d v)->Q v H'
 | .exc c fs=>∀ C dct H',Zp H H'->U1 K c C->O8 K (av H' R) dct fs->E (.ref C) dct H'
 | .no=>False
def spX (K:PySem.W.Frag) (fr:Bool) (p:Nat) (F:List Dat->Rs):Sp:=fun vs H Q E=>vs.length=p/\∃ ds R,Ud R H/\W8 K (av H R) ds vs/\A7 K fr R H Q E (F ds)
structure CalX (P:Program) (w:World) (K:PySem.W.Frag) (mg:Str->Option Value) (base:Heap) (k:Nat) (x:Str) (ps:List Str) (fr:Bool) (F:List Dat->Rs) (pl:Bool:=false):Prop where
 ex:∃ f fd,FnOk P w K mg base (Ab P w base pl) k f fd ps (spX K fr ps.length F)/\mg x=some (.ref f)/\PySem.W.keepIn K (.ref f)=true/\Qm K fd ps []
 len:∀ ds,F ds≠.no->ds.length=ps.length
section
variable {P:Program} {w:World} {K:PySem.W.Frag} {mg:Str->Option Value} {base:Heap}
theorem Fun.okX {x qual:Str} {st:Stmt} {f:Addr} {fd:FuncData} {N ps:List Str} {k:Nat} {sp:Sp} {CX:Kl} (F:Fun K x qual st f fd) (S:FnScope N ps (Z7 st)) (len:∀ vs H Q E,sp vs H Q E->vs.length=ps.length)
  (hbody:∀ (cdv:Value) (A:Around) (outer:List Env) (s:Shared) (H:Hp) (vs:List V) (Q:VK) (E:XK),Room k (A.deeper (envOfC qual (Z7 st) s.heap.objs.size f cdv))->sp vs H Q E ->
   ∃ t,Ro (Ts CX P w K mg base N qual (Z7 st) f cdv A outer s H E) (Y6 st) t/\t { nx:=fun _ H'=>Q .non H',rt:=Q } (start N vs) H):FnOk P w K mg base CX (k+1) f fd ps sp:=by
 obtain ⟨oc,od,kV,doc,pm,an,cdv,ct,osl,rfl,lk,hcd⟩:=F.ex;exact Z6a lk hcd S len fun A outer s H vs Q E hr hsp=>hbody cdv A outer s H vs Q E hr hsp
theorem Lg {n p:Nat} {g:Ev->Fl} {ds:List Dat} (h:We n p g ds≠.no):ds.length=p:=by
 unfold We at h;split at h
 ·assumption
 ·exact absurd rfl h
end
section
variable {X:Cx} {m fr fr':Bool} {F:List Dat->Rs} {k:Nat} {x:Str} {ps:List Str} {e:Expr} {es:List Expr} {fs:Ev->Option (List Dat)} {p pos:Pos}
def tXx (X:Cx) (fr:Bool) (F:List Dat->Rs) (fs:Ev->Option (List Dat)):TE:=fun σ H Q=>∃ env B A ds,EnvOk X.K B A H σ env/\fs env=some ds/\match F ds with
 | .ok d=>∀ v H',Zp H H'->Rp X.K (av H' A) d v->Q v H'
 | .exc c fl=>∀ A' H' σ',Step A H A' H'->EnvOk X.K B A' H' σ' env->σ'=σ->XW X B.H₀ A' H' σ' c fl
 | .no=>False
theorem Z39 {pl:Bool} (C:CalX X.prog X.w X.K X.mg X.base k x ps fr F pl) (hr:Room k X.A) (ha:Km false X (e::es) fs) (hg:Gl X x:=by rfl)
  (hdb:(x==("__debug__" : Str))=false:=by decide) (he:starEach (e::es) X.env=(false,eval e X.env)::starEach es X.env:=by rfl) (hpl:(backTo pos (starEach es X.env)).any (·.1)=false:=by rfl) (hp:X.pl=true->pl=true:=by first | exact fun _=>rfl | exact fun z=>nomatch z) :
  PE X (.Call (.Name x p) (e::es) [] pos) (tXx X fr F fs):=by
 obtain ⟨f,fd,Ff,hm,hk,hb⟩:=C.ex;intro pins s σ H Q I ⟨env,B,A,ds,kk,e1,q⟩;refine wpAny_Call_Name_kw (Uc I hg hm ?_ hdb);refine PySem.W.callWith_K (h₀:=X.base) I.ok.mod.kin hk (Wh (ha pos pins s σ H (fun vs H1=>Zp H H1/\W8 X.K (av H1 A) ds vs) I ⟨env,B,A,ds,kk,e1,fun vs H1 s1 rs=>⟨s1,rs.rps⟩⟩) fun us s1 ⟨vs,H1,I1,r,sm,rs⟩=>⟨I1.kIn,?_⟩) he hpl;have hne:F ds≠.no:=fun z=>by rw [z] at q;exact q
 have hl:us.length=ps.length:=by rw [← r.length,Zv rs];exact C.len ds hne
 let E:XK:=fun cls dct H'=>∃ c fl C,F ds=.exc c fl/\cls=.ref C/\U1 X.K c C/\Zp H1 H'/\O8 X.K (av H' A) dct fl
 refine wpAny_call (codeAny_mono (Ff.run X.A X.stack s1 H1 ⟨us,[]⟩ us vs Q E hr I1.env0 (by simpa using hb s1 us I1.kIn (by simpa using hl)) r ⟨by rw [Zv rs];exact C.len ds hne,ds,A,kk.mu.mono sm,rs,?_⟩) fun rr s' hq=>?_)
 ·unfold A7
  split
  ·rename_i d hd
   rw [hd] at q;exact fun v H' s2 r2 _=>q v H' (sm.trans s2) r2
  ·rename_i c fl hd
   exact fun C dct H' s2 hc hf=>⟨c,fl,C,hd,rfl,hc,s2,hf⟩
  ·rename_i hd
   exact hne hd
 ·cases rr with
  | error ev =>
   obtain ⟨ex,C,dct,T,H',c2,rfl,ho,hbr,un,hok,h1,h2,h3,h4,ht,hc2,hnw,c,fl,C',hF,eC,hc,sm2,hf⟩:=hq;cases eC;rw [hF] at q;have I2:Inv X pins σ H' s':=I1.call' (ch:=[]) ho un hok hbr (fun b z=>absurd z (by simp));have sz:X.s₀.heap.objs.size<=s1.heap.objs.size:=I1.sz;have np:∀ {a:Addr},s1.heap.objs.size<=a->∀ p∈X.pn++pins,p.1≠a:=fun {a} ha p hp z=>by
    have:=(I1.pin p hp).1;rw [z] at this;exact absurd (lt_size this) (not_lt.mpr ha)
   exact q A H' σ (Step.same (sm.trans sm2)) (kk.mono (sm.trans sm2)) rfl pins s' ex C dct I2 hc ⟨le_trans sz h1,h3,.inr ⟨T,c2,le_trans sz h2,h4,np h2,ht,fun z=>hc2 (hp z)⟩,np h1⟩ hf (hnw.mono fun b z=>kk.h0.none (sm.none z))
  | ok fl =>
   cases fl with
   | ret u=>exact I1.after hq
   | next=>exact False.elim hq
   | brk=>exact False.elim hq
   | cont=>exact False.elim hq
def Ed (i:Nat) (F:List Dat->Rs) (fs:Ev->Option (List Dat)):Ev->Fl:=fun env=>match fs env with
 | none=>.no
 | some ds=>match F ds with
  | .ok d=>.next (env.set i (.fz d))
  | .exc c fl=>.exc env c fl
  | .no=>.no
theorem Z0j (i:Nat) {x:Str} {pos':Pos} (hN:X.N.Nodup) (hi:X.N[i]?=some x) (hx:Fj X.env.scope x) (he:PE X e (tXx X fr' F fs)) (hs:swapsWith e (some (.Name x pos')) pos.line X.env=pure false:=by rfl)
  (hf:X.fn x=true\/X.env.scope.names.lookup x=some .local:=by first | exact .inl rfl | exact .inr rfl | assumption):Sb fr X (.Assign [.Name x pos'] e pos) (Ed i F fs):=(K0 hN hi hx he hs hf).weak fun D σ H zz=>by
 obtain ⟨env,B,A,k,hst,q⟩:=zz;unfold Ed at q;split at q
 ·exact q.elim
 rename_i ds e1;refine ⟨env,B,A,ds,k,e1,?_⟩;split at q
 ·rename_i d hd
  exact fun v H' s r=>q A H' _ (Step.same s) ((k.mono s).put i r)
 ·rename_i c fl hd
  exact fun A' H' σ' s k' _=>q A' H' σ' s k'
 ·exact q.elim
def Oz (F:List Dat->Rs) (fs:Ev->Option (List Dat)):Ev->Fl:=fun env=>match fs env with
 | none=>.no
 | some ds=>match F ds with
  | .ok d=>.ret d
  | .exc c fl=>.exc env c fl
  | .no=>.no
theorem Z7l (he:PE X e (tXx X fr' F fs)):Sb false X (.Return (some e) pos) (Oz F fs):=(H9 he).weak fun D σ H zz=>by
 obtain ⟨env,B,A,k,hst,q⟩:=zz;unfold Oz at q;split at q
 ·exact q.elim
 rename_i ds e1;refine ⟨env,B,A,ds,k,e1,?_⟩;split at q
 ·rename_i d hd
  exact fun v H' s r=>q v H' (E3 k s r).1 (E3 k s r).2 (fun z=>by cases z)
 ·rename_i c fl hd
  exact fun A' H' σ' s k' _=>q A' H' σ' s k'
 ·exact q.elim
end
theorem Fq:∀ i:Fin 1000,(Str.ofString (toString (i.val:Int))).length<=3:=by decide +kernel
theorem Em {i:Int} (h0:0<=i) (h1:i<1000):(Str.ofString (toString i)).length<=3:=by
 have:=Fq ⟨i.toNat,by lia⟩;have e:((i.toNat:Nat):Int)=i:=by lia
 rw [e] at this;exact this
theorem Ex:∀ (ts:List Str) (k:Nat) (acc:Str),(textFrom k acc ts).length<=acc.length+piled ts
 | [],k,acc=>by rw [piled_nil];exact le_refl _
 | t::ts,k,acc=>by
  have h:=Ex ts (k+1) (acc++(if k > 0 then ", " else "" : String)++t);rw [piled_cons];have e:(acc++(if k > 0 then ", " else "" : String)++t).length<=acc.length+2+t.length:=by
   rw [strLen_append,strLen_append];have:(Str.ofString (if k > 0 then ", " else "")).length<=2:=by split<;>decide
   lia
  show (textFrom (k+1) (acc++(if k > 0 then ", " else "" : String)++t) ts).length<=_;lia
def Ir (ns:List Int):Prop:=ns.length<=500/\∀ n∈ns,0<=n/\n<1000
theorem Ph {ns:List Int} (h:Ir ns):(PyData.shown (.list (ns.map PyData.int))).length<=3000:=by
 have key:∀ ns:List Int,(∀ n∈ns,0<=n/\n<1000)->piled (PyData.shownAll (ns.map PyData.int))<=5*ns.length:=by
  intro ns;induction ns with
  | nil=>intro _;simp [PyData.shownAll,piled_nil]
  | cons n ns ih =>
   intro hn;have h1:=ih fun m hm=>hn m (mem_cons_of_mem _ hm)
   have h2:=hn n mem_cons_self;rw [map_cons,PyData.shownAll,piled_cons,length_cons];have:(PyData.shown (.int n)).length<=3:=by rw [PyData.shown];exact Em h2.1 h2.2
   lia
 have hk:=key ns h.2;have h5:=h.1;rw [PyData.shown];show (textFrom 0 "[" _++"]").length<=_;rw [strLen_append];have:=Ex (PyData.shownAll (ns.map PyData.int)) 0 "[";have e1:(Str.ofString "[").length=1:=by decide
 have e2:(Str.ofString "]").length=1:=by decide
 lia
theorem Mg:∀ {ns:List Int},(∀ n∈ns,0<=n/\n<1000)->PyData.showableAll (ns.map PyData.int)=true
 | [],_=>by simp [PyData.showableAll]
 | n::ns,h=>by
  have h2:=h n mem_cons_self;rw [map_cons,PyData.showableAll,Mg fun m hm=>h m (mem_cons_of_mem _ hm),Bool.and_true,PyData.showable];have h3:n.natAbs<2^1920:=lt_of_lt_of_le (show n.natAbs<2^10 by lia) (pow_le_pow_right (by decide) (by decide));by_cases h0:n.natAbs=0
  ·rw [h0];decide
  ·exact decide_eq_true ((Nat.log2_lt h0).mpr h3)
theorem Ew:∀ (ns:List Int),PyData.hasDictAll (ns.map PyData.int)=false
 | []=>by simp [PyData.hasDictAll]
 | n::ns=>by rw [map_cons,PyData.hasDictAll,Ew ns,PyData.hasDict];rfl
theorem Hc:∀ (ns:List Int),PyData.depthAll (ns.map PyData.int)=0
 | []=>by simp [PyData.depthAll]
 | n::ns=>by rw [map_cons,PyData.depthAll,Hc ns,PyData.depth];rfl
theorem Ia {h:Heap}:∀ {ns:List Int} {its:List Value},Zx (ns.map V.int) its->ReadsAll h its (ns.map PyData.int) []
 | [],[],_=>.nil
 | [],_::_,r=>by have:=r.length;simp at this
 | _::_,[],r=>by have:=r.length;simp at this
 | n::ns,v::its,r=>by
  cases r with
  | cons h1 r' =>
   obtain ⟨t,rfl⟩:=h1;exact .cons (as:=[]) (bs:=[]) (.int n t) (Ia r')
section
variable {X:Cx}
def Zbe (K:PySem.W.Frag) (te:TE) (r:TJ):TJ:=fun σ H acc Q=>te σ H fun x H1=>((∃ i:Int,x=.int i/\0<=i/\i<1000)\/∃ a ns,x=.ref a/\SL K H1 a (ns.map V.int)/\Ir ns)/\acc.length<=100000/\∀ y:Str,y.length<=3000->r σ H1 (acc++y) Q
theorem A9 {k:Nat} (hr:RoomN k X.A) {e:Expr} {pos:Pos} {te:TE} {vs:List Expr} {r:TJ} (he:PE X e te) (hrr:PJ X vs r):PJ X (.FormattedValue e (-1) none pos::vs) (Zbe X.K te r):=by
 intro pins s σ H acc Q I hz h;refine joinParts_cons (FormattedValue_plain (Wh (he pins s σ H _ I h) fun v s1 ⟨x,H1,I1,r1,hx,hacc,q⟩=>?_));have hle:∀ y:Str,y.length<=3000->(acc++y).length<=sizeLine:=fun y hy=>by rw [strLen_append,sizeLine_eq];lia
 rcases hx with ⟨i,rfl,h0,h1⟩ | ⟨a,ns,rfl,hS,hsm⟩
 ·obtain ⟨t,rfl⟩:=r1
  have hy:(Str.ofString (toString i)).length<=3000:=le_trans (Em h0 h1) (by decide);refine formatField_int_small ?_ ⟨hle _ hy,hrr pins _ σ H1 _ Q (I1.tok _) (hle _ hy) (q _ hy)⟩;by_cases h00:i.natAbs=0
  ·rw [h00];decide
  ·exact (Nat.log2_lt h00).mpr (lt_of_lt_of_le (show i.natAbs<2^10 by lia) (pow_le_pow_right (by decide) (by decide)))
 ·cases r1
  obtain ⟨its,n,w1,g1,_⟩:=hS.get I1;have hy:=Ph hsm;have rd:Reads s1.heap (.ref a) (.list (ns.map PyData.int)) [a]:=.list g1 rfl rfl (by simpa using Ia w1);refine formatField_of_reads (h₀:=s1.heap) rd (by rw [PyData.showable];exact Mg hsm.2) (PyData.noDict_hsm (by rw [PyData.hasDict];exact Ew ns)) hr.gd (by rw [PyData.depth,Hc];have:=hr.un;lia) (fun _ _ q=>q) (fun h' u tk hk=>?_) (le_trans hy (by decide));exact ⟨hle _ hy,hrr pins _ σ H1 _ Q (I1.kept hk) (hle _ hy) (q _ hy)⟩
end
end L2
namespace L2
open PySem PySem.Spec PyProof.Rows PySem.W
theorem Xv {K:Frag} {h:Heap} {N:Addr} {mg:Str->Option Value} {n:Str} {v:Value} (X:K.In h) (G:h.Ns N mg) (e:nsIn K N n=some (some v)):mg n=some v:=by
 obtain ⟨o,es,ep,ho,hd,_,hf⟩:=G;unfold nsIn at e;split at e
 ·rename_i c d es' n' sl q
  have:=X _ _ q;rw [ho] at this;cases this;cases hd;split at e
  ·rename_i en he
   cases e;rw [← hf];unfold nsFind findBy;rw [← Array.find?_toList,he];rfl
  ·split at e<;>cases e
 ·cases e
def Qx (K:Frag) (C fI D:Addr):Bool:=match K.lookup C with
 | some ⟨.type "type",_,.cls cd,sl⟩=>(match cd.mro,sl.toList with
  | .ref C'::bm,[_,_,_,_,some (.builtin n),_]=>C'==C&&n=="ValueError.__new__" && !cd.hasDel&&cd.hasDict&&bm==.ref D::Qn&&tailIn K Qn bm&&nsOkIn K cd.ns&&nsIn K cd.ns "__init__" == some (some (.ref fI))
  | _,_=>false)
 | _=>false
theorem Hz {K:Frag} {h:Heap} {C fI D:Addr} (X:K.In h) (q:Qx K C fI D=true):∃ nm qn N bs sn sub ab col dd k0 k1 k2 k3 k5 mN,
  h.get? C=some (excClassObj nm qn C N bs (.ref D::Qn) true sn sub ab col dd k0 k1 k2 k3 k5 "ValueError.__new__")/\h.Ns N mN/\mN "__init__" = some (.ref fI)/\OwnTail h Qn (.ref D::Qn):=by
 unfold Qx at q;split at q
 ·rename_i dd cd sl ho
  split at q
  ·rename_i C' bm k0 k1 k2 k3 n k5 hm hs
   simp only [Bool.and_eq_true,beq_iff_eq,Bool.not_eq_true'] at q;obtain ⟨⟨⟨⟨⟨⟨⟨rfl,rfl⟩,hdel⟩,hdi⟩,rfl⟩,ht⟩,hok⟩,hni⟩:=q;obtain ⟨nm,bs,mro,ns,qn,hd,sn,sub,ab,col,del⟩:=cd;dsimp only at hm hdel hok hni hdi;subst hm hdel hdi;have hsl:sl=#[k0,k1,k2,k3,some (.builtin "ValueError.__new__"),k5]:=by
    obtain ⟨l⟩:=sl;simp only at hs;rw [hs]
   subst hsl;have G:h.Ns ns (h.nsMap ns):=.of_isNs (isNs_of_in X hok);exact ⟨nm,qn,ns,bs,sn,sub,ab,col,dd,k0,k1,k2,k3,k5,_,X _ _ ho,G,Xv X G hni,tail_of_in X ht⟩
  ·cases q
 ·cases q
def Sf (e C:Addr) (dct:Option Addr) (h:Heap):Prop:=∃ t:Addr,h.get? e=some { cls:=.ref C,dict:=dct,data:=.fields #[.ref t,.none,.none,.none,.bool false,.none] }
theorem Z84 {H:Hp} {a:Addr} {o:HO} (h:H a=some o):W6 H a o=H:=by
 funext b;unfold W6;split
 ·rename_i e;rw [e,h]
 ·rfl
theorem N2 {P:Program} {w:World} {H:Hp} {h:Heap} {e C:Addr} {dct:Option Addr} (x:Sf e C dct h):W2 P w H h e (.ext (Sf e C dct)):=by
 obtain ⟨t,ht⟩:=x;exact ⟨⟨t,ht⟩,⟨_,ht⟩,fun h1 h2 ⟨t,q⟩ k=>⟨t,k _ q⟩⟩
structure BaseC (K:Frag) (mg:Str->Option Value) (D:Addr):Prop where
 mg:mg "CalmError" = some (.ref D)
 ga:specialIn K (.ref D) "__getattribute__" = some (some (.builtin "type.__getattribute__"))
 rd:readsIn K D (.type "type")=true
 fi:findCls K (.ref D) (.type "type") "__init__" = some (.val (.builtin "ValueError.__init__"))
section
variable {X:Cx} {e:Expr} {es:List Expr} {t:TA} {p apos pos pos':Pos} {D:Addr}
def Z13 (K:Frag) (t:TA):TE:=fun σ H Q=>t σ H fun vs H1=>∃ e C dct v fI D,vs=[.ref e,v]/\H1 e=some (.ext (Sf e C dct))/\Qx K C fI D=true/\Q .non H1
theorem Np {pl:Sem Bool} (B:BaseC X.K X.mg D) (ha:PA X (e::es) t) (hg:Gl X "CalmError" := by rfl) (he:starEach (e::es) X.env=(false,eval e X.env)::starEach es X.env:=by rfl) (hpl:(backTo pos (starEach es X.env)).any (·.1)=false:=by rfl)
  (ht:eval (.Call (.Attribute (.Name "CalmError" p) "__init__" apos) (e::es) [] pos) X.env=(do
   let ov ← eval (.Name "CalmError" p) X.env
   standAt apos.atName
   let (f,first) ← holding [ov] (getMethod ov "__init__" pl)
   callWith pos f first (backTo pos (starEach (e::es) X.env)) (backToKw pos (keywordEach [] X.env))):=by rfl) :
  PE X (.Call (.Attribute (.Name "CalmError" p) "__init__" apos) (e::es) [] pos) (Z13 X.K t):=by
 intro pins s σ H Q I h;refine methodCall_KW (pl:=pl) (Uc I hg B.mg ?_ (by decide)) ht;refine method_cls I.kIn B.ga (cls_value I.kIn B.rd B.fi rfl ?_);refine PyProof.Rows.callWith_builtin1 (Wh (ha pos pins _ σ H _ (I.tok _) h) fun us s1 ⟨vs,H1,I1,r,ex,C,dct,v,fI,D',ev,hx,hc,q⟩=>?_) he hpl;subst ev;obtain ⟨u,w',rfl,r1,r2⟩:=Aq r;cases r1;obtain ⟨nm,qn,N,bs,sn,sub,ab,col,dd,k0,k1,k2,k3,k5,mN,hC,hN,hi,T⟩:=Hz I1.kIn hc;obtain ⟨⟨t0,ht0⟩,_,_⟩:=(show W2 X.prog X.w H1 s1.heap ex (.ext (Sf ex C dct)) from I1.hok ex _ hx);obtain ⟨hh,g,d,tk,os⟩:=s1;refine Kf T hC ht0 fun h' he' hk hsz=>⟨.non,H1,?_,rfl,q⟩
 have:=I1.write (h':=h') (x:=ex) (e:=ex) (o:=.ext (Sf ex C dct)) (t':=tk) (by rw [hx];trivial) (.inl rfl) (fun b u hb q=>hk b u hb q) ⟨_,he'⟩ (N2 ⟨_,he'⟩);rw [Z84 hx] at this;exact this
def Z67 (K:Frag) (ta tv:TE) (f:Str):TS:=fun D σ H=>tv σ H fun y H1=>ta σ H1 fun x H2=>∃ a C dct fI D',x=.ref a/\H2 a=some (.ext (Sf a C dct))/\Qx K C fI D'=true/\XCls K C/\findIn K (.ref C) f=some none /\
 match dct with
 | none=>∀ dx,H2 dx=none->dx≠a->D.nx σ (W6 (W6 H2 a (.ext (Sf a C (some dx)))) dx (.xd [(f,y)]))
 | some dx=>False
theorem Ba {o value:Expr} {f:Str} {ta tv:TE} (ha:PE X o ta) (hv:PE X value tv) (hs:swapsWith value (some (.Attribute o f pos')) pos.line X.env=pure false:=by rfl):PS X (.Assign [.Attribute o f pos'] value pos) (Z67 X.K ta tv f):=by
 intro pins s σ H D I h;refine plainObj_wpAny_Assign_Attribute (Wh (hv pins s σ H _ I h) fun u s1 ⟨y,H1,I1,ry,q⟩=>Wh (ha pins s1 σ H1 _ I1 q) fun ov s2 ⟨x,H2,I2,rx,a,C,dct,fI,D',ex,ea,hc,xc,hf,q2⟩=>?_) hs;subst ex;obtain rfl:ov=Value.ref a:=rx;cases dct with
 | some dx=>exact q2.elim
 | none =>
  obtain ⟨⟨t0,ht0⟩,_,_⟩:=(show W2 X.prog X.w H2 s2.heap a (.ext (Sf a C none)) from I2.hok a _ ea);obtain ⟨cd,hcd,hhd,a',b',hm⟩:=xc.cd;obtain ⟨oC,cd',hC,hcd',hhd'⟩:=xc.ld I2.kIn;have IA:InstAt s2.heap a { cls:=.ref C,dict:=none,data:=.fields #[.ref t0,.none,.none,.none,.bool false,.none] } C none:=⟨ht0,rfl,rfl,trivial⟩;refine set_plain I2.kIn IA xc.sa ?_;refine Zbk (s:={ s2 with toks:=s2.toks+1 }) I2.kIn IA hcd hm hf ?_;obtain ⟨hh,g,d,tk,os⟩:=s2;refine Ca ht0 rfl (fun c z=>by cases z) rfl hC hcd' hhd' fun h' tk' hx' hns hk hsz=>?_
  have hlt:a<hh.objs.size:=lt_size ht0;have hfr:H2 hh.objs.size=none:=I2.hok.fresh (le_refl _);have hda:hh.objs.size≠a:=Nat.ne_of_gt hlt;have agr:∀ b,b≠a->b≠hh.objs.size->W6 (W6 H2 a (.ext (Sf a C (some hh.objs.size)))) hh.objs.size (.xd [(f,y)]) b=H2 b:=fun b h1 h2=>by rw [Zj h2,Zj h1]
  have nex:∀ {b:Addr} {o:HO},H2 b=some o->b≠hh.objs.size:=fun {b o} q z=>by rw [z,hfr] at q;cases q
  have un:Un X.fs [] H2 (W6 (W6 H2 a (.ext (Sf a C (some hh.objs.size)))) hh.objs.size (.xd [(f,y)])) hh h':=by
   refine ⟨fun b o q n _ _=>hk b o (fun z=>by rw [z,ea] at n;cases n) q,fun b o q n _ _=>⟨o.slots,hk b o (fun z=>by rw [z,ea] at n;cases n) q⟩,fun b o q n _=>?_,fun b o q _=>?_,fun b xs q=>?_,fun b o u q=>?_,fun b ps q=>?_⟩
   ·rw [agr b (fun z=>by rw [z,ea] at n;cases n) (fun z=>by rw [z] at q;exact absurd (lt_size q) (lt_irrefl _))];exact n
   ·by_cases z:b=a
    ·subst z;exact ⟨_,hx'⟩
    ·exact ⟨_,hk b o z q⟩
   ·rw [agr b (fun z=>by rw [z,ea] at q;cases q) (nex q)];exact q
   ·rw [agr b (fun z=>by rw [z,ea] at q;cases q) (nex q)];exact q
   ·exact ⟨#[],by rw [agr b (fun z=>by rw [z,ea] at q;cases q) (nex q)];simpa using q⟩
  have hok:M7 X.prog X.w (W6 (W6 H2 a (.ext (Sf a C (some hh.objs.size)))) hh.objs.size (.xd [(f,y)])) h':=by
   intro b o q;by_cases z2:b=hh.objs.size
   ·subst z2
    rw [Zt] at q;cases q;refine ⟨_,hns,fun g=>?_⟩;show Dl (List.lookup g [(f,y)]) (if g=f then some u else none);by_cases e:g=f
    ·subst e;simp [List.lookup,Dl];exact ry
    ·have e':(g==f)=false:=by simpa using e
     simp [List.lookup,e',e,Dl]
   ·by_cases z1:b=a
    ·subst z1
     rw [Zj z2,Zt] at q;cases q;exact N2 ⟨t0,hx'⟩
    ·rw [agr b z1 z2] at q
     refine (I2.hok b o q).stay (fun c v z w=>hk c v (fun zz=>?_) w) (fun c w=>?_) fun c xs w=>?_
     ·rcases z with z | z
      ·exact z1 (z.symm.trans zz)
      ·rw [zz,ea] at z;cases z
     ·rw [agr c (fun zz=>by rw [zz,ea] at w;cases w) (nex w)];exact w
     ·rw [agr c (fun zz=>by rw [zz,ea] at w;cases w) (nex w)];exact w
  exact ⟨σ,_,I2.un (h':=h') (t':=tk') un hok,q2 _ hfr hda⟩
end
def spG (K:Frag) (C:Addr) (p:Nat) (G:List Dat->Option (List (Str×XD))):Sp:=fun vs H Q _=>∃ e ws ds R fl,vs=.ref e::ws/\ws.length=p/\H e=some (.ext (Sf e C none))/\Ud R H/\R e=false/\W8 K (av H R) ds ws/\G ds=some fl /\
 ∀ H' dct,(∀ c o,c≠e->H c=some o->H' c=some o)->H' e=some (.ext (Sf e C dct))->O8 K (av H' R) dct fl->N3 H H' dct->Q .non H'
structure XMake (P:Program) (w:World) (K:Frag) (mg:Str->Option Value) (base:Heap) (k:Nat) (c:Str) (p:Nat) (G:List Dat->Option (List (Str×XD))):Prop where
 ex:∃ C fI D fd ps,U1 K c C/\mg c=some (.ref C)/\keepIn K (.ref C)=true/\Qx K C fI D=true/\XCls K C/\isFn K (.ref fI)=true/\FnOk P w K mg base Sc k fI fd ps (spG K C p G)/\Qm K fd ps []
 len:∀ ds fl,G ds=some fl->ds.length=p
 few:p<=10
theorem O8.of_ne {K:Frag} {H H':Hp} {e:Addr} {dct:Option Addr} {fs:List (Str×XD)} {g:Heap->Prop} (he:H e=some (.ext g)) (k:∀ c o,c≠e->H c=some o->H' c=some o) (h:O8 K H dct fs):O8 K H' dct fs:=by
 have ne:∀ {c:Addr} {o:HO},H c=some o->(∀ g,o≠.ext g)->H' c=some o:=fun {c o} q n=>k c o (fun z=>by rw [z,he] at q;exact n _ (Option.some.inj q).symm) q
 cases dct with
 | none=>exact h
 | some dx =>
  obtain ⟨fvs,e1,e2⟩:=h;refine ⟨fvs,ne e1 (fun _ z=>by cases z),fun f=>(e2 f).imp id fun ⟨d,v,a,b,c⟩=>⟨d,v,a,b,?_⟩⟩;cases d with
  | int i=>exact c
  | nums is =>
   obtain ⟨a,z1,z2,z3⟩:=c;refine ⟨a,z1,?_,z3⟩;rcases z2 with (z | ⟨o,z⟩) | z
   ·exact .inl (.inl (ne z (fun _ w=>by cases w)))
   ·exact .inl (.inr ⟨o,ne z (fun _ w=>by cases w)⟩)
   ·exact .inr z
def Cc (H:Hp) (a:Addr):Hp:=fun b=>if b=a then none else H b
theorem Mq {H:Hp} {a b:Addr} (h:b≠a):Cc H a b=H b:=by unfold Cc;rw [if_neg h]
theorem Sm {H:Hp} {a:Addr}:Cc H a a=none:=by unfold Cc;rw [if_pos rfl]
theorem D7 {H:Hp} {a b:Addr} (h:H b=none):Cc H a b=none:=by unfold Cc;split<;>first | rfl | exact h
theorem Inv.drop {X:Cx} {pins:List (Addr×Obj)} {σ:St} {H:Hp} {s:Shared} {a:Addr} {g:Heap->Prop} (I:Inv X pins σ H s) (ha:H a=some (.ext g)):Inv X pins σ (Cc H a) s:=by
 have ne:∀ {b:Addr} {o:HO},H b=some o->(∀ g,o≠.ext g)->Cc H a b=some o:=fun {b o} q n=>by rw [Mq (fun z=>by rw [z,ha] at q;exact n _ (Option.some.inj q).symm)];exact q
 refine ⟨I.ok,I.os,I.bare,⟨I.base.keep,I.base.slot,fun b o q n hx=>D7 (I.base.free b o q n hx),I.base.there,fun b xs q=>ne (I.base.tups b xs q) (fun _ z=>by cases z),fun b o u q=>ne (I.base.frzs b o u q) (fun _ z=>by cases z),fun b ps q=>?_⟩,I.loc,I.cell,D7 I.free,fun x c e=>D7 (I.freeC x c e),fun p hp=>?_,fun b o q=>?_,I.len⟩
 ·obtain ⟨more,z⟩:=I.base.tbls b ps q
  exact ⟨more,ne z (fun _ z=>by cases z)⟩
 ·obtain ⟨h1,h2,h3⟩:=I.pin p hp
  exact ⟨h1,D7 h2,h3⟩
 ·have hb:b≠a:=fun z=>by rw [z,Sm] at q;cases q
  rw [Mq hb] at q;exact (I.hok b o q).stay (fun _ _ _ w=>w) (fun c w=>ne w (fun _ z=>by cases z)) fun c xs w=>ne w (fun _ z=>by cases z)
theorem B6 {H0 H H':Hp} {ex:Addr} {o:HO} {dct:Option Addr} (h:N3 (W6 H ex o) H' dct) (hx:∃ g,H' ex=some (.ext g)) (s:Zp H0 H):N3 H0 (Cc H' ex) dct:=fun dx e=>by
 have m:∀ b,W6 H ex o b=none->H0 b=none:=fun b z=>by
  have hb:b≠ex:=fun w=>by rw [w,Zt] at z;cases z
  rw [Zj hb] at z;exact s.none z
 refine ⟨m _ (h dx e).1,fun fvs f a q l=>?_⟩;have q':H' dx=some (.xd fvs):=by
  have hb:dx≠ex:=fun w=>by rw [w,Sm] at q;cases q
  rw [Mq hb] at q;exact q
 obtain ⟨y1,xs,y2⟩:=(h dx e).2 fvs f a q' l;refine ⟨m _ y1,xs,?_⟩;have ha:a≠ex:=fun w=>by
  obtain ⟨g,hg⟩:=hx;rw [w,hg] at y2;cases y2
 rw [Mq ha];exact y2
theorem Oc {H:Hp} {a:Addr} {o:HO} (h:H a=none):Zp H (W6 H a o):=fun b u e=>by rw [Zj (fun z=>by rw [z,h] at e;cases e)];exact e
section
variable {X:Cx} {fr:Bool} {e:Expr} {es:List Expr} {fs:Ev->Option (List Dat)} {p pos cpos:Pos} {k n:Nat} {c:Str} {G:List Dat->Option (List (Str×XD))}
def Vv (c:Str) (G:List Dat->Option (List (Str×XD))) (fs:Ev->Option (List Dat)):Ev->Fl:=fun env=>match (fs env).bind G with
 | none=>.no
 | some fl=>.exc env c fl
theorem Lk {pins:List (Addr×Obj)} {σ:St} {H:Hp} {s:Shared} {us:List Value} {vs:List V} {ds:List Dat} {fl:List (Str×XD)} {env:Ev} {B:Bs} {A:AS} (M:XMake X.prog X.w X.K X.mg X.base k c n G) (hr:Room (k+1) X.A)
  (I:Inv X pins σ H s) (kk:EnvOk X.K B A H σ env) (r:Zx vs us) (rs:W8 X.K (av H A) ds vs) (hG:G ds=some fl) {C fI D:Addr} (hcl:U1 X.K c C) (hx:Qx X.K C fI D=true) {fd:FuncData} {ps:List Str} (hfn:isFn X.K (.ref fI)=true) (F:FnOk X.prog X.w X.K X.mg X.base Sc k fI fd ps (spG X.K C n G)) (hb:Qm X.K fd ps [])
  (q:∀ H' σ',σ'=σ->Zp H H'->EnvOk X.K B A H' σ env->XW X B.H₀ A H' σ c fl) :
  wpAny (model X.prog X.w) X.A (call (.ref C) us) (fun v s'=>∃ ex t dct,v=.ref ex/\(∃ o,s'.heap.get? C=some o)/\s'.heap.get? ex=some { cls:=.ref C,dict:=dct,data:=.fields #[.ref t,.none,.none,.none,.bool false,.none] }/\X.K.In s'.heap/\X.xe (.ref ex) s') X.xe s:=by
 obtain ⟨nm,qn,N,bs,sn,sub,ab,col,dd,k0,k1,k2,k3,k5,mN,hC,hN,hi,T⟩:=Hz I.kIn hx;have hfI:∃ oI,s.heap.get? fI=some oI/\oI.cls=.type "function" := by
  have:=beq_iff_eq.mp hfn;obtain ⟨oI,h1,h2⟩:=Option.map_eq_some_iff.mp this;exact ⟨oI,I.kIn _ _ h1,h2⟩
 obtain ⟨oI,hfI,hfc⟩:=hfI;have hlen:us.length<=sizeLine:=by
  have h1:=r.length;have h2:=Zv rs;have h3:=M.len ds fl hG;have h4:=M.few;exact le_of_lt (Q1 (by lia))
 obtain ⟨hh,g,d,tk,os⟩:=s;refine K6 (hrest:=hlen) PySem.F.excBase_ValueError (by decide) PySem.F.excBase_ValueError T hC hN hi hfI hfc fun h' ex hlo hm=>?_
 obtain ⟨t0,ht0,_,_⟩:=hm.there;have hfr:H ex=none:=I.hok.fresh hlo;have I2:Inv X pins σ (W6 H ex (.ext (Sf ex C none))) ⟨h',g,d,tk,os⟩:=I.laid (h':=h') (t':=tk) (a:=ex) (o:=.ext (Sf ex C none)) hm.keeps hlo (N2 ⟨t0,ht0⟩);have aex:A ex=false:=by
  cases z:A ex with
  | false=>rfl
  | true=>obtain ⟨o,ho⟩:=(kk.mu ex z).some;rw [hfr] at ho;cases ho
 have sm1:Zp H (W6 H ex (.ext (Sf ex C none))):=Oc hfr;let Q':VK:=fun v H'=>v=.non/\∃ dct,(∀ c o,c≠ex->W6 H ex (.ext (Sf ex C none)) c=some o->H' c=some o)/\H' ex=some (.ext (Sf ex C dct))/\O8 X.K (av H' A) dct fl/\N3 (W6 H ex (.ext (Sf ex C none))) H' dct
 have hsp:spG X.K C n G (.ref ex::vs) (W6 H ex (.ext (Sf ex C none))) Q' E0:=⟨ex,vs,ds,A,fl,rfl,by rw [Zv rs];exact M.len ds fl hG,Zt,kk.mu.mono sm1,aex,rs.mono (V6 sm1),hG,fun H' dct h1 h2 h3 h4=>⟨rfl,dct,h1,h2,h3,h4⟩⟩;have hl2:(Value.ref ex::us).length=ps.length:=by
  have e1:=F.len _ _ _ _ hsp;have e2:=r.length;rw [length_cons] at e1 ⊢;lia
 refine wpAny_call (codeAny_mono (F.run _ X.stack ⟨h',g,d,tk,os⟩ _ ⟨Value.ref ex::us,[]⟩ (Value.ref ex::us) (V.ref ex::vs) Q' E0 (hr.make C us []) (I2.env0.make C us []) (by simpa using hb _ (Value.ref ex::us) I2.kIn (by simpa using hl2)) (.cons rfl r) hsp) fun rr s' hq=>?_);cases rr with
 | error e=>exact False.elim hq
 | ok fl' =>
  cases fl' with
  | ret u =>
   obtain ⟨v,H',I3,rv,ev,dct,h1,h2,h3,h4⟩:=I2.after hq;subst ev;have eu:u=.none:=rv;subst eu;refine ⟨rfl,?_⟩;obtain ⟨⟨t1,ht1⟩,_,_⟩:=(show W2 X.prog X.w H' s'.heap ex (.ext (Sf ex C dct)) from I3.hok ex _ h2);have I4:=I3.drop h2;have sm:Zp H (Cc H' ex):=fun b o q=>by
    have hb:b≠ex:=fun z=>by rw [z,hfr] at q;cases q
    rw [Mq hb];exact h1 b o hb (by rw [Zj hb];exact q)
   have lo2:X.s₀.heap.objs.size<=ex:=le_trans I.sz hlo;obtain ⟨nm',qn',N',bs',sn',sub',ab',col',dd',k0',k1',k2',k3',k5',mN',hC',_,_,_⟩:=Hz I3.kIn hx;refine ⟨ex,t1,dct,rfl,⟨_,hC'⟩,ht1,I3.kIn,?_⟩;refine q (Cc H' ex) σ rfl sm (kk.mono sm) pins s' ex C dct I4 hcl ⟨lo2,Sm,.inl ⟨_,_,ht1,rfl,rfl,rfl,rfl,fun _=>rfl⟩,fun p hp z=>?_⟩ ?_ (B6 h4 ⟨_,h2⟩ kk.h0)
   ·have:=(I.pin p hp).1
    rw [z] at this;exact absurd (lt_size this) (not_lt.mpr hlo)
   ·exact h3.of_ne (e:=ex) (Wx h2 aex) fun c o hc q=>Wx (by rw [Mq hc];exact (Tn q).2) (Tn q).1
  | next=>exact False.elim hq
  | brk=>exact False.elim hq
  | cont=>exact False.elim hq
theorem Ag (M:XMake X.prog X.w X.K X.mg X.base k c n G) (hr:Room (k+1) X.A) (hc:X.calm=true) (ha:Km false X (e::es) fs) (hg:Gl X c:=by rfl) (hdb:(c==("__debug__" : Str))=false:=by decide)
  (he:starEach (e::es) X.env=(false,eval e X.env)::starEach es X.env:=by rfl) (hpl:(backTo cpos (starEach es X.env)).any (·.1)=false:=by rfl):Sb fr X (.Raise (some (.Call (.Name c p) (e::es) [] cpos)) none pos) (Vv c G fs):=by
 intro pins s σ H D I ⟨env,B,A,kk,hst,q⟩;obtain ⟨C,fI,D',fd,ps,hcl,hm,hkp,hx,xc,hfn,F,hb⟩:=M.ex;unfold Vv at q;split at q
 ·exact q.elim
 rename_i fl hfl;obtain ⟨ds,e1,hG⟩:=bind_some hfl;obtain ⟨nm,qn,N,bs,sn,sub,ab,col,dd,k0,k1,k2,k3,k5,mN,hC,hN,hi,T⟩:=Hz I.kIn hx;have key:wpAny (model X.prog X.w) X.A (eval (.Call (.Name c p) (e::es) [] cpos) X.env) (fun v s'=>∃ ex t dct,v=.ref ex/\(∃ o,s'.heap.get? C=some o)/\s'.heap.get? ex=some { cls:=.ref C,dict:=dct,data:=.fields #[.ref t,.none,.none,.none,.bool false,.none] }/\X.K.In s'.heap/\X.xe (.ref ex) s') X.xe s:=by
  refine wpAny_Call_Name_kw (Uc I hg hm ?_ hdb);refine callWith_K (h₀:=X.base) I.ok.mod.kin hkp (Wh (ha cpos pins s σ H (fun vs H1=>Zp H H1/\W8 X.K (av H1 A) ds vs) I ⟨env,B,A,ds,kk,e1,fun vs H1 s1 rs=>⟨s1,rs.rps⟩⟩) fun us s1 ⟨vs,H1,I1,r,sm,rs⟩=>⟨I1.kIn,?_⟩) he hpl;exact Lk M hr I1 (kk.mono sm) r rs hG hcl hx hfn F hb fun H' σ' _ sm2 k2=>q A H' σ (Step.same (sm.trans sm2)) k2
 rw [arm_exec_Raise];refine wpAny_bind (wpAny_standAt (En (C:=C) (nm:=nm) (q:=qn) (N:=N) (bs:=bs) (bm:=.ref D'::Qn) (hdct:=true) (sn:=sn) (sub:=sub) (ab:=ab) (col:=col) (dd:=dd) (k0:=k0) (k1:=k1) (k2:=k2) (k3:=k3) (k5:=k5) (newId:="ValueError.__new__") (by simp [Qn]) (I.ok.hd hc) (wpAny_bind (wpAny_mono key (fun v s₃ h₃=>wpAny_bind (wpAny_standAt (wpAny_pure ?_))) fun _ _ x=>x))));obtain ⟨ex,t,dct,rfl,_,hex,hK,hxe⟩:=h₃;obtain ⟨o,lk⟩:∃ o,X.K.lookup C=some o:=by
  unfold Qx at hx;split at hx
  ·rename_i ho;exact ⟨_,ho⟩
  ·cases hx
 have e2:=(I.kIn _ _ lk).symm.trans hC;cases e2;exact ⟨ex,.ref t,dct,rfl,hK _ _ lk,hex,hxe⟩
end
def Sr (ns:List Int):Bool:=decide (ns.length<=500)&&ns.all fun n=>decide (0<=n)&&decide (n<1000)
theorem Cm {ns:List Int} (h:Sr ns=true):Ir ns:=by
 unfold Sr at h;rw [Bool.and_eq_true,all_eq_true] at h;refine ⟨of_decide_eq_true h.1,fun n hn=>?_⟩;have:=h.2 n hn;rw [Bool.and_eq_true] at this;exact ⟨of_decide_eq_true this.1,of_decide_eq_true this.2⟩
def gW (f:Str):List Dat->Option (List (Str×XD))
 | [.lst xs]=>(Tl xs).bind fun ns=>if Sr ns=true then some [(f,.nums ns)] else none
 | _=>none
def JOk (n:Nat) (σ:St) (H:Hp) (r:TJ):Prop:=∀ (acc:Str) (Q:VK),acc.length<=n->(∀ z,Q (.str z) H)->r σ H acc Q
theorem Az {n:Nat} {σ:St} {H:Hp}:JOk n σ H Zbh:=fun acc Q _ q=>q acc
theorem A5 {n:Nat} {σ:St} {H:Hp} {c:Str} {r:TJ} (hr:JOk (n+c.length) σ H r) (h:n+c.length<=100000):JOk n σ H (Zb4 c r):=fun acc Q ha q=>by
 have e:(acc++c).length=acc.length+c.length:=strLen_append _ _;exact ⟨by rw [e,sizeLine_eq];lia,hr _ Q (by rw [e];lia) q⟩
theorem An {n i:Nat} {K:Frag} {σ:St} {H:Hp} {v:V} {r:TJ} (hr:JOk (n+3000) σ H r) (h:n<=90000) (hv:σ[i]?=some (some v)) (hs:(∃ i:Int,v=.int i/\0<=i/\i<1000)\/∃ a ns,v=.ref a/\SL K H a (ns.map V.int)/\Ir ns):JOk n σ H (Zbe K (Xz i) r):=fun acc Q ha q =>
 ⟨v,hv,hs,by lia,fun y hy=>hr _ Q (by rw [strLen_append];lia) q⟩
section
variable {P:Program} {w:World} {K:Frag} {mg:Str->Option Value} {base:Heap}
end
section
variable {X:Cx} {pins:List (Addr×Obj)} {σ:St} {H:Hp} {s:Shared}
abbrev Cx.inTry (X:Cx) (pn:List (Addr×Obj)) (E:Value->Shared->Prop):Cx:={ X with pn:=pn,xe:=E }
abbrev Cx.inH (X:Cx) (pn:List (Addr×Obj)) (e:Addr):Cx:={ X with A:=X.A.mark (some (.ref e)),calm:=false,pn:=pn,xe:=fun _ _=>False }
theorem Inv.toTry {E:Value->Shared->Prop} (I:Inv X pins σ H s):Inv (X.inTry (X.pn++pins) E) [] σ H s :=
 ⟨⟨I.ok.mod,I.ok.kind,I.ok.glob,I.ok.blt,I.ok.above,I.ok.inj,I.ok.has,I.ok.cab,I.ok.hd,I.ok.frames,I.ok.stk,I.ok.exf,I.ok.bs,I.ok.bsz,I.ok.noex,I.ok.exfs,I.ok.funs,I.ok.frf⟩,I.os,I.bare,I.base,I.loc,I.cell,I.free,I.freeC,fun p hp=>I.pin p (by simpa using hp),I.hok,I.len⟩
theorem Inv.ofTry {E:Value->Shared->Prop} {pins':List (Addr×Obj)} (ok:X.Ok) (I:Inv (X.inTry (X.pn++pins) E) pins' σ H s):Inv X pins σ H s :=
 ⟨ok,I.os,I.bare,I.base,I.loc,I.cell,I.free,I.freeC,fun p hp=>I.pin p (mem_append_left _ hp),I.hok,I.len⟩
theorem Inv.toH {e:Addr} (I:Inv X pins σ H s):Inv (X.inH (X.pn++pins) e) [] σ H s :=
 ⟨⟨I.ok.mod,I.ok.kind,I.ok.glob,I.ok.blt,I.ok.above,I.ok.inj,I.ok.has,I.ok.cab,(fun z=>nomatch z),I.ok.frames,I.ok.stk,I.ok.exf,I.ok.bs,I.ok.bsz,I.ok.noex,I.ok.exfs,I.ok.funs,I.ok.frf⟩,I.os,I.bare,I.base,I.loc,I.cell,I.free,I.freeC,fun p hp=>I.pin p (by simpa using hp),I.hok,I.len⟩
end
theorem Jg {l:List Env} {ch:List Addr} {T':Addr} {h h' h2:Heap} (k:Iu l ch h h') (hT:h.objs.size<=T') (y:∀ b o,h'.get? b=some o->b∉[T']->h2.get? b=some o):Iu l ch h h2:=fun b o hb hc=>by
 obtain ⟨k1,sl,k2⟩:=k b o hb hc;have hbT:b∉[T']:=fun z=>by
  have e1:b=T':=by simpa using z
  rw [e1] at hb;exact absurd (lt_size hb) (not_lt.mpr hT)
 exact ⟨fun hl=>y b o (k1 hl) hbT,sl,y b _ k2 hbT⟩
section
variable {X:Cx} {fr:Bool} {g h:Ev->Fl} {body:List Stmt} {b₀:Stmt} {suite:List Stmt} {T n:Str} {np hpos pos:Pos} {i:Nat} {sub:Str->Bool} {DT:Addr}
end
section
variable {X:Cx} {m:Bool} {e:Expr} {f:Ev->Option Dat} {p p2 pos:Pos}
end
end L2
namespace L2
open PySem
end L2
namespace L2
open PySem PySem.Spec PyProof.Rows
section
variable {P:Program} {w:World} {A:Around} {E:Value->Shared->Prop} {s:Shared}
end
section
variable {P:Program} {w:World} {A:Around} {R:Result->Shared->Prop} {I:Addr} {fp wr:List Addr} {G:Array GenState->Array GenState->Prop} {n:Nat} {Pv:Nat->Value->Prop} {St:Nat->Shared->Prop}
end
section
variable {P:Program} {w:World} {A:Around} {E:Value->Shared->Prop} {s:Shared}
end
end L2
namespace PySem
namespace F
end F
end PySem
namespace L2
open PySem PySem.Spec PyProof.Rows
section
variable {P:Program} {w:World} {A:Around} {E:Value->Shared->Prop} {s:Shared}
end
end L2
namespace PySem.F
end PySem.F
namespace L2
open PySem PySem.Spec PyProof.Rows
section
variable {P:Program} {w:World} {A:Around} {E:Value->Shared->Prop} {s:Shared}
end
end L2
namespace Sq
open PySem PyProof PyProof.Rows
section
variable {prog:Program} {w:World} {A:Around} {E:Value->Shared->Prop} {s:Shared} {a₀:Array Keyed} {p:Array (Nat×Nat×Nat)}
end
section
variable {prog:Program} {w:World} {A:Around} {E:Value->Shared->Prop} {s:Shared}
end
section
variable {r:Int->Int->Prop} {a b out:List Keyed} {ia ib:Nat}
end
section
variable {prog:Program} {w:World} {A:Around} {E:Value->Shared->Prop} {s:Shared} {a b:Array Keyed} {n0:Nat}
end
section
variable {prog:Program} {w:World} {A:Around} {E:Value->Shared->Prop} {s:Shared} {a₀:Array Keyed}
end
section
variable {prog:Program} {w:World} {A:Around} {E:Value->Shared->Prop} {s:Shared}
end
end Sq
namespace L2
open PySem PySem.Spec PyProof.Rows
section
variable {P:Program} {w:World} {A:Around} {E:Value->Shared->Prop} {s:Shared}
end
section
variable {X:Cx} {e:Expr} {fs:Ev->Option (List Dat)}
end
end L2
set_option maxHeartbeats 4000000
namespace L2
open PySem PySem.Spec PyProof.Rows
section
variable {X:Cx}
theorem Rr:∀ {its:List Value} {ns:List Int},Zx (ns.map V.int) its->∃ xs:List (Int×Tok),its=xs.map (fun p=>Value.int p.1 p.2)/\xs.map (·.1)=ns
 | [],[],_=>⟨[],rfl,rfl⟩
 | [],_::_,r=>by have:=r.length;simp at this
 | _::_,[],r=>by have:=r.length;simp at this
 | v::its,n::ns,r=>by
  cases r with
  | cons h r' =>
   obtain ⟨xs,e1,e2⟩:=Rr r';obtain ⟨t,rfl⟩:=h;exact ⟨(n,t)::xs,by rw [e1];rfl,by rw [map_cons,e2]⟩
def Zeh (K:PySem.W.Frag):List V->Hp->VK->Prop:=fun xs H Q=>∃ (p:Addr) (ns:List Int),xs=[.ref p]/\R1 K H p (ns.map V.int)/\Q (.int ns.sum) H
theorem Bx (hc:X.calm=true):Wn X (.builtin "sum") (Zeh X.K):=by
 intro pins s σ H xs us Q I r h;obtain ⟨p,ns,rfl,hq,q⟩:=h;obtain ⟨u,rfl,rx⟩:=Q7 r;cases rx;obtain ⟨its,r',pl,hz⟩:=I.list hq;have hl:=pl.isList;obtain ⟨ys,e1,e2⟩:=Rr r';have hl':s.heap.IsList p (intItems ys.toArray):=by
  have:intItems ys.toArray=its.toArray:=by rw [e1];simp [intItems]
  rw [this];exact hl
 refine sum_intListG (I.ok.hd hc) hl' fun h' tk t' hk=>?_
 have e:preSum (numAt ys.toArray) ys.toArray.size=ns.sum:=by
  rw [preSum_eq,take_of_length_le (by simp)];show (List.map (·.1) ys).sum=_;rw [e2]
 rw [e];exact ⟨.int _,H,I.kept (h':=h') (t':=tk) hk,⟨_,rfl⟩,q⟩
def Xb:List Dat->Option Dat
 | [.lst xs]=>(Tl xs).map fun ns=>.int ns.sum
 | _=>none
theorem Zc2 (hc:X.calm=true):Rt X (.builtin "sum") Xb:=(Bx hc).weak fun vs H Q zz=>by
 obtain ⟨A,ds,d,mu,e,p,q⟩:=zz;unfold Xb at e;split at e
 ·obtain ⟨v,e1,p1⟩:=p.one
  obtain ⟨l,us,e2,h1,r1⟩:=p1.lst;obtain ⟨ns,hn,e⟩:=map_some e;subst e;rw [Td hn] at r1;have eu:=Wf r1;subst eu;exact ⟨l,ns,by rw [e1,e2],h1.sq,q.here Yk⟩
 ·cases e
theorem Z0k {P:Program} {w:World} {A:Around} {E:Value->Shared->Prop} {s:Shared} {t b:Addr} {vs ws:List Value} {Q:Value->Shared->Prop} (ht:IsTup s.heap t vs.toArray) (hb:IsTup s.heap b ws.toArray) (hv:vs=[]) (h0:Q (.ref b) s):wpAny (model P w) A (binaryOp .Add (.ref t) (.ref b)) Q E s:=by
 obtain ⟨⟨cls,dd,data,sl⟩,ho,hc,n,hd⟩:=id ht;obtain ⟨⟨cls2,dd2,data2,sl2⟩,ho2,hc2,n2,hd2⟩:=id hb;simp only at hc hd hc2 hd2;subst hc hd hc2 hd2;exact concat_meets ⟨_,ho,rfl⟩ ⟨_,ho2,rfl⟩ noFill_tuple_add seq_tuple_add PySem.F.slot_tuple_add PySem.F.entry_tuple_add (PySem.F.args_tuple_add_2 _ _)
  (tuple_addW0 t b vs.toArray ws.toArray n n2 dd dd2 sl sl2 (by simp [hv])) ⟨ho,ho2,h0⟩
theorem Pk.tupR {K:PySem.W.Frag} {A:AS} {H:Hp} {ds:List Dat} {v:V} (h:Pk K A H (.tup ds) v):Rp K (av H A) (.tup ds) v:=by
 rcases h with h | ⟨a,vs,ds,e1,e2,e3,e4⟩ | ⟨_,_,_,e1,_⟩ | ⟨_,_,e1,_⟩
 ·exact h
 ·cases e1
 ·cases e1
 ·cases e1
def O0:Dat->Dat->Option Dat
 | .tup xs,.tup ys=>if xs.length+ys.length<=sizeLine then some (.tup (xs++ys)) else none
 | _,_=>none
theorem Xr:Ji X (binaryOp .Add) O0:=fun pins s σ H x y v u Q I rx ry zz=>by
 obtain ⟨A,a,b,d,mu,e,p1,p2,q⟩:=zz;unfold O0 at e;split at e
 ·rename_i xs ys
  split at e
  ·rename_i hz
   cases e;obtain ⟨l1,vs,e1,h1,r1⟩:=p1.tup;obtain ⟨l2,us,e2,h2,r2⟩:=p2.tup;have z1:=Zv r1;have z2:=Zv r2;have w1:=p1.tupR;have w2:=p2.tupR;by_cases hx:xs=[]
   ·subst hx e1 e2
    cases rx;cases ry;obtain ⟨its,y1,g1,_⟩:=I.tuple h1;obtain ⟨its2,y2,g2,_⟩:=I.tuple h2;have hn:its=[]:=by
     have:=y1.length;rw [z1] at this;exact length_eq_zero_iff.mp this.symm
    refine Z0k g1 g2 hn ⟨.ref l2,H,I,rfl,?_⟩;exact q.here w2
   ·refine Z57 pins s σ H x y v u Q I rx ry ⟨l1,l2,vs,us,e1,e2,h1,h2,Cp r1 (by simpa using hx),by lia,fun hy=>?_,fun hy=>?_⟩
    ·have:ys=[]:=by subst hy;exact length_eq_zero_iff.mp z2.symm
     subst this;rw [append_nil] at q;rw [e1] at w1;exact q.here w1
    ·exact q.tup mu (by rw [length_append];exact hz) (Ww r1 r2)
  ·cases e
 ·cases e
end
end L2
namespace L2
open PySem PySem.Spec PyProof.Rows PySem.W
section
variable {X:Cx} {m fr:Bool} {e:Expr} {f:Ev->Option Dat} {g h:Ev->Fl} {p p2 pos:Pos} {body:List Stmt} {b₀:Stmt} {suite:List Stmt} {T n tx:Str} {np hpos:Pos} {i:Nat} {sub:Str->Bool} {sb:Str->Option Bool}
end
section
variable {K:Frag} {mg:Str->Option Value}
end
section
variable {X:Cx}
end
section
variable {X:Cx} {m:Bool} {e:Expr} {f:Ev->Option Dat} {pos:Pos} {vs:List Expr} {r:Ev->Str->Option Str}
end
end L2
namespace L2
open PySem PySem.Spec PyProof.Rows PySem.W PySem.Builtin PySem.Builtin.Str
section
variable {X:Cx}
end
end L2
namespace L2
open PySem PySem.Spec PyProof.Rows PySem.W
section
variable {X:Cx} {fr:Bool} {p pos cpos:Pos} {k n:Nat} {c:Str} {G:List Dat->Option (List (Str×XD))}
theorem Z1f (M:XMake X.prog X.w X.K X.mg X.base k c n G) (hr:Room (k+1) X.A) (hc:X.calm=true) (hg:Gl X c:=by rfl) (hdb:(c==("__debug__" : Str))=false:=by decide)
  : Sb fr X (.Raise (some (.Call (.Name c p) [] [] cpos)) none pos) (Vv c G Zc):=by
 intro pins s σ H D I ⟨env,B,A,kk,hst,q⟩;obtain ⟨C,fI,D',fd,ps,hcl,hm,hkp,hx,xc,hfn,F,hb⟩:=M.ex;unfold Vv at q;split at q
 ·exact q.elim
 rename_i fl hfl;obtain ⟨ds,e1,hG⟩:=bind_some hfl;obtain ⟨nm,qn,N,bs,sn,sub,ab,col,dd,k0,k1,k2,k3,k5,mN,hC,hN,hi,T⟩:=Hz I.kIn hx;have key:wpAny (model X.prog X.w) X.A (eval (.Call (.Name c p) [] [] cpos) X.env) (fun v s'=>∃ ex t dct,v=.ref ex/\(∃ o,s'.heap.get? C=some o)/\s'.heap.get? ex=some { cls:=.ref C,dict:=dct,data:=.fields #[.ref t,.none,.none,.none,.bool false,.none] }/\X.K.In s'.heap/\X.xe (.ref ex) s') X.xe s:=by
  refine wpAny_Call_Name_kw (Uc I hg hm ?_ hdb);refine callWith_K0 I.kIn hkp ?_;cases e1;exact Lk M hr I kk .nil Vl hG hcl hx hfn F hb fun H' σ' _ sm2 k2=>q A H' σ (Step.same sm2) k2
 rw [arm_exec_Raise];refine wpAny_bind (wpAny_standAt (En (C:=C) (nm:=nm) (q:=qn) (N:=N) (bs:=bs) (bm:=.ref D'::Qn) (hdct:=true) (sn:=sn) (sub:=sub) (ab:=ab) (col:=col) (dd:=dd) (k0:=k0) (k1:=k1) (k2:=k2) (k3:=k3) (k5:=k5) (newId:="ValueError.__new__") (by simp [Qn]) (I.ok.hd hc) (wpAny_bind (wpAny_mono key (fun v s₃ h₃=>wpAny_bind (wpAny_standAt (wpAny_pure ?_))) fun _ _ x=>x))));obtain ⟨ex,t,dct,rfl,_,hex,hK,hxe⟩:=h₃;obtain ⟨o,lk⟩:∃ o,X.K.lookup C=some o:=by
  unfold Qx at hx;split at hx
  ·rename_i ho;exact ⟨_,ho⟩
  ·cases hx
 have e2:=(I.kIn _ _ lk).symm.trans hC;cases e2;exact ⟨ex,.ref t,dct,rfl,hK _ _ lk,hex,hxe⟩
end
def gZ:List Dat->Option (List (Str×XD))
 | []=>some []
 | _=>none
theorem Z2c:∀ ds fl,gZ ds=some fl->ds.length=0:=fun ds fl h=>by
 unfold gZ at h;split at h
 ·rfl
 ·cases h
section
variable {P:Program} {w:World} {K:Frag} {mg:Str->Option Value} {base:Heap}
theorem Z7w {qual:Str} {st:Stmt} {fI C D fI':Addr} {fd:FuncData} {k:Nat} {z:Str} (F:Fun K "__init__" qual st fI fd) (S:FnScope ["self"] ["self"] (Z7 st)) (hx:Qx K C fI' D=true)
  (hb:∀ (cdv:Value) (A:Around) (outer:List Env) (s:Shared) (H:Hp) (E:XK),Room k (A.deeper (envOfC qual (Z7 st) s.heap.objs.size fI cdv)) ->
   Ro (Ts Sc P w K mg base ["self"] qual (Z7 st) fI cdv A outer s H E).nox (Y6 st) (Z2a (Z13 K (Ku (Xz 0) (Ku (tC (.str z)) Z60))))) :
  FnOk P w K mg base Sc (k+1) fI fd ["self"] (spG K C 0 gZ):=by
 refine F.ok S (fun vs H Q E ⟨e,ws,ds,R,fl,ev,hl,_⟩=>by rw [ev,length_cons,hl];rfl) fun cdv A outer s H vs Q E hr ⟨e,ws,ds,R,fl,ev,hl,he,mu,re,rs,hG,q⟩=>⟨_,hb cdv A outer s H E hr,?_⟩
 subst ev;have ew:ws=[]:=length_eq_zero_iff.mp hl;subst ew;have ed:ds=[]:=length_eq_zero_iff.mp (Z2c ds fl hG);subst ed;cases hG;exact ⟨.ref e,rfl,e,C,none,.str z,fI',D,rfl,he,hx,q H none (fun _ _ _ h=>h) he rfl Z1t⟩
end
section
variable {X:Cx} {pos pos':Pos}
end
section
variable {P:Program} {w:World} {K:Frag} {mg:Str->Option Value} {base:Heap}
end
theorem Z0r {f:Str}:∀ ds fl,gW f ds=some fl->ds.length=1:=fun ds fl h=>by
 unfold gW at h;split at h
 ·rfl
 ·cases h
theorem O7 {K:PySem.W.Frag} {C fI D:Addr} (q:Qx K C fI D=true) (cl:PySem.W.findIn K (.ref C) "__class__" = some (some (.builtin "object.__class__"))) (ga:PySem.W.findIn K (.ref C) "__getattribute__" = some (some (.builtin "BaseException.__getattribute__"))) (gh:PySem.W.findIn K (.ref C) "__getattr__" = some none) (sa:PySem.W.findIn K (.ref C) "__setattr__" = some (some (.builtin "object.__setattr__"))):XCls K C:=by
 refine ⟨?_,cl,ga,gh,sa⟩;unfold Qx at q;split at q
 ·rename_i dd cd sl ho
  split at q
  ·rename_i C' bm k0 k1 k2 k3 n k5 hm hs
   simp only [Bool.and_eq_true,beq_iff_eq,Bool.not_eq_true'] at q;obtain ⟨⟨⟨⟨⟨⟨⟨e1,_⟩,_⟩,hdi⟩,e2⟩,_⟩,_⟩,_⟩:=q;exact ⟨cd,by unfold PySem.W.clsIn;rw [ho],hdi,C',D,by rw [hm,e2]⟩
  ·cases q
 ·cases q
section
variable {M:Model} {A:Around} {E:Value->Shared->Prop} {s:Shared}
theorem Ky {base:Heap} {env:Env} {L e T:Addr} {cls:Value×Option Value} {dct:Option Addr} {Q:Unit->Shared->Prop} (hf:env.frame=some L) (ht:Do s.heap base e T cls dct (rawInt L)) (h:Q () s):wpAny M A (noteFrame (.ref e) env) Q E s:=by
 obtain ⟨oe,vs,oT,ts,he,hcls,hdct,hd,h1,hnT,hTe,hT,hdT,h3⟩:=ht;unfold noteFrame;simp only [hf];refine wpAny_bind (wpAny_field he hd h1 ?_);rw [if_pos (show (Value.ref T != Value.none)=true from by simp)];refine wpAny_bind (wpAny_field hT hdT h3 ?_);rw [if_pos (show ((rawInt L==rawInt L)=true) from by simp)];exact wpAny_pure h
theorem Z9l {base:Heap} {l:List Env} {e T:Addr} {cls:Value×Option Value} {dct:Option Addr} {fl:Value} {fr:Option Addr} {Q:Unit->Shared->Prop}
  (hkb:base.StaysIn s.heap) (hl:s.heap.FunFrames base l) (ht:Do s.heap base e T cls dct fl)
  (h:∀ h',base.StaysIn h'->h'.FunFrames base l->Do h' base e T cls dct (fr.elim Value.none fun f=>rawInt f)->(∀ b o,s.heap.get? b=some o->b∉[T]->h'.get? b=some o)->h'.objs.size=s.heap.objs.size->Q () { s with heap:=h' }) :
  wpAny M A (setFlight (.ref e) fr) Q E s:=by
 obtain ⟨oe,vs,oT,ts,he,hcls,hdct,hd,h1,hnT,hTe,hT,hdT,h3⟩:=ht;have hsz3:3<ts.size:=(Array.getElem?_eq_some_iff.mp h3).1;have other:∀ b,b≠T->(s.heap.update T (Obj.mapFields (·.setIfInBounds 3 (fr.elim Value.none fun f=>rawInt f)))).get? b=s.heap.get? b :=
  fun b hb=>get?_update_other _ _ (Ne.symm hb)
 have noRecord:∀ b o,s.heap.get? b=some o->(∀ vs,o.data≠.fields vs)->b≠T:=fun b o hb hnf q=>by
  rw [q,hT] at hb;injection hb with hb;subst hb;exact hnf ts hdT
 unfold setFlight;refine wpAny_bind (wpAny_field he hd h1 ?_);rw [if_pos (show (Value.ref T != Value.none)=true from by simp)];refine wpAny_setField hT hdT hsz3 (h _ (fun b o hbo=>(other b fun q=>by rw [q,hnT] at hbo;cases hbo).trans (hkb b o hbo))
  (hl.of_keeps fun b o hb hnf=>⟨o,(other b (noRecord b o hb hnf)).trans hb,rfl⟩) ?_ (fun b o hb hnf=>(other b (fun z=>hnf (by simp [z]))).trans hb) (size_update ..))
 exact ⟨oe,vs,_,_,(other e (Ne.symm hTe)).trans he,hcls,hdct,hd,h1,hnT,hTe,get?_update_self _ hT (Obj.isFreed_of_fields (Obj.data_mapFields hdT _)),Obj.data_mapFields hdT _,by simp [hsz3]⟩
theorem Xi {base:Heap} {env:Env} {l:List Env} {L e T:Addr} {cls:Value×Option Value} {dct:Option Addr} {Q:Unit->Shared->Prop} (hf:env.frame=some L)
  (hkb:base.StaysIn s.heap) (hl:s.heap.FunFrames base l) (ht:Do s.heap base e T cls dct (rawInt L))
  (h:∀ h',base.StaysIn h'->h'.FunFrames base l->Do h' base e T cls dct .none->Iu l [T] s.heap h'->Q () { s with heap:=h' }):wpAny M A (leaving env (.ref e)) Q E s:=by
 unfold leaving;refine wpAny_bind (Ky hf ht ?_);exact Z9l (fr:=none) hkb hl ht fun h' y1 y2 y3 y4 y5=>h h' y1 y2 y3 (Iu.of fun b o hb hc=>y4 b o hb hc)
theorem Zak {A':Around} {base:Heap} {env:Env} {l:List Env} {L e T:Addr} {cls:Value×Option Value} {dct:Option Addr} {E':Value->Shared->Prop} (hf:env.frame=some L)
  (hkb:base.StaysIn s.heap) (hl:s.heap.FunFrames base l) (ht:Do s.heap base e T cls dct (rawInt L))
  (h:∀ h',base.StaysIn h'->h'.FunFrames base l->Do h' base e T cls dct (rawInt L)->Iu l [T] s.heap h'->E' (.ref e) { s with heap:=h' }):notedBy M A' env (cameBackBy M A env E') (.ref e) s:=by
 refine Ky (A:=A') (E:=cameBackBy M A env E') hf ht ?_;obtain ⟨oe,vs,oT,ts,he,hcls,hdct,hd,h1,hnT,hTe,hT,hdT,h3⟩:=id ht;refine wpAny_bind (wpAny_field he hd h1 ?_);rw [if_neg (show ¬ (Value.ref T==Value.none)=true from by simp)];rw [hf];exact Z9l (fr:=some L) hkb hl ht fun h' y1 y2 y3 y4 y5=>h h' y1 y2 y3 (Iu.of fun b o hb hc=>y4 b o hb hc)
theorem Z6x {base:Heap} {env:Env} {l:List Env} {L e T:Addr} {cls:Value×Option Value} {dct:Option Addr} {E':Value->Shared->Prop} (hf:env.frame=some L)
  (hkb:base.StaysIn s.heap) (hl:s.heap.FunFrames base l) (ht:Do s.heap base e T cls dct (rawInt L))
  (h:∀ h',base.StaysIn h'->h'.FunFrames base l->Do h' base e T cls dct (rawInt L)->(∀ b o,s.heap.get? b=some o->b∉[T]->h'.get? b=some o)->E' (.ref e) { s with heap:=h' }):cameBackBy M A env E' (.ref e) s:=by
 obtain ⟨oe,vs,oT,ts,he,hcls,hdct,hd,h1,hnT,hTe,hT,hdT,h3⟩:=id ht;refine wpAny_bind (wpAny_field he hd h1 ?_);rw [if_neg (show ¬ (Value.ref T==Value.none)=true from by simp)];rw [hf];exact Z9l (fr:=some L) hkb hl ht fun h' y1 y2 y3 y4 y5=>h h' y1 y2 y3 y4
end
def X1 (X:Cx) (E:XK):Value->Shared->Prop:=fun v s=>∃ (e C:Addr) (dct:Option Addr) (pins:List (Addr×Obj)) (σ:St) (H:Hp),v=.ref e/\Inv X pins σ H s/\X.s₀.heap.objs.size<=e/\H e=none/\(∀ p∈X.pn++pins,p.1≠e) /\
 ((∃ o vs,s.heap.get? e=some o/\o.cls=.ref C/\o.dict=dct/\o.data=.fields vs/\vs[1]?=some .none)\/∃ T fl c2,X.s₀.heap.objs.size<=T/\H T=none/\(∀ p∈X.pn++pins,p.1≠T)/\Do s.heap X.base e T (.ref C,c2) dct fl/\(fl=.none\/fl=rawInt X.env.locals))/\N3 X.H₀ H dct/\E (.ref C) dct H
theorem XSt.lie {X:Cx} {E:XK} {pins:List (Addr×Obj)} {σ:St} {H:Hp} {s:Shared} {e C:Addr} {dct:Option Addr} (I:Inv X pins σ H s) (x:XSt X pins H s.heap e C dct) (hnw:N3 X.H₀ H dct) (q:E (.ref C) dct H):X1 X E (.ref e) s :=
 ⟨e,C,dct,pins,σ,H,rfl,I,x.lo,x.un,x.pe,x.ob.imp (fun ⟨o,vs,a,b,c,d,g,_⟩=>⟨o,vs,a,b,c,d,g⟩) fun ⟨T,c2,h1,h2,h3,h4,_⟩=>⟨T,.none,c2,h1,h2,h3,h4,.inl rfl⟩,hnw,q⟩
theorem Z17 {X:Cx} {E:XK} {A':Around} (hA:A'.frames=X.A.frames) (hstk:X.stack=X.env::X.outer/\X.env.frame=some X.env.locals):PassesOwnAt (model X.prog X.w) A' X.A X.env (X1 X E):=by
 rintro ev s1 ⟨e,C,dct,pins,σ,H,rfl,J1,lo,un,pe,ob,hnw,q⟩;have hfr:A'.frames=some (X.env::X.outer):=by rw [hA,← hstk.1];exact J1.ok.frames
 have hl:s1.heap.FunFrames X.base (X.env::X.outer):=by rw [← hstk.1];exact J1.stack
 have hkb:X.base.StaysIn s1.heap:=J1.bk;have hen:X.base.get? e=none:=J1.noBase lo;have hfree:∀ b∈Rk (X.env::X.outer),H b=none:=by rw [← hstk.1];exact J1.stkFree
 have nloc:∀ {a:Addr} {o:Obj} {vs:Array Value},s1.heap.get? a=some o->o.data=.fields vs->a≠X.env.locals/\∀ y c,X.env.cells.lookup y=some c->c≠a:=fun {a o vs} ho hd=>by
  refine ⟨fun z=>?_,fun y c hc z=>?_⟩
  ·obtain ⟨m,⟨o',es,ep,ho',hd',_⟩,_⟩:=J1.loc
   rw [z,ho'] at ho;cases ho;rw [hd] at hd';cases hd'
  ·obtain ⟨v,o',ho',hd'⟩:=J1.cell y c hc
   rw [z,ho] at ho';cases ho';rw [hd] at hd';cases hd'
 have after:∀ (h2:Heap) (T':Addr) (c2:Option Value) (ch:List Addr),(X.s₀.heap.objs.size<=T'/\H T'=none/\∀ p∈X.pn++pins,p.1≠T')->Do h2 X.base e T' (.ref C,c2) dct (rawInt X.env.locals)->Iu (X.env::X.outer) ch s1.heap h2->(∀ b∈ch,H b=none/\X.s₀.heap.objs.size<=b/\b≠X.env.locals/\(∀ y c,X.env.cells.lookup y=some c->c≠b)/\∀ p∈X.pn++pins,p.1≠b)->X1 X E (.ref e) { s1 with heap:=h2 }:=fun h2 T' c2 ch hT tr kp hch=>by
  have J2:Inv X pins σ H { s1 with heap:=h2 }:=J1.call' (s':={ s1 with heap:=h2 }) (ch:=ch) rfl (by rw [hstk.1];exact E2 kp fun b hb=>(hch b hb).1) (Qt J1.hok kp (fun b hb=>(hch b hb).1) hfree) J1.bare fun b hb=>⟨.inr (hch b hb).2.1,(hch b hb).2.2.1,(hch b hb).2.2.2.1,(hch b hb).2.2.2.2⟩
  exact ⟨e,C,dct,pins,σ,H,rfl,J2,lo,un,pe,.inr ⟨T',_,c2,hT.1,hT.2.1,hT.2.2,tr,.inr rfl⟩,hnw,q⟩
 have fresh:∀ {T':Addr},s1.heap.objs.size<=T'->X.s₀.heap.objs.size<=T'/\H T'=none/\∀ p∈X.pn++pins,p.1≠T':=fun {T'} h=>⟨le_trans J1.sz h,J1.hok.fresh h,fun p hp z=>by
  have:=(J1.pin p hp).1;rw [z] at this;exact absurd (lt_size this) (not_lt.mpr h)⟩
 rcases ob with ⟨o,vs,he,hc,hd,hda,h1⟩ | ⟨T,fl,c2,hT1,hT2,hT3,ht,hfl⟩
 ·have el:=nloc he hda
  refine Qp (E:=cameBackBy (model X.prog X.w) X.A X.env (X1 X E)) hfr hl hstk.2 he hkb hen hda h1 fun h' T' z0 z1 z2 z3 z4 z5=>?_
  rw [hc,hd] at z3;exact Z6x (s:={ s1 with heap:=h' }) hstk.2 z1 z2 z3 fun h2 y1 y2 y3 y4=>after h2 T' _ [e] (fresh z0) y3 (Jg z4 z0 y4) fun b hb=>by rw [mem_singleton.mp hb];exact ⟨un,lo,el.1,el.2,pe⟩
 ·obtain ⟨oe,ve,oT,ts,g1,g2,g3,g4,g5,g6,g7,g8,g9,g10⟩:=id ht
  have el:=nloc g1 g4;have eT:=nloc g8 g9;rcases hfl with hfl | hfl
  ·subst hfl
   refine Fu (E:=cameBackBy (model X.prog X.w) X.A X.env (X1 X E)) hfr hl hstk.2 ht hkb hen fun h' T' z0 z1 z2 z3 z4 z5=>?_
   refine Z6x (s:={ s1 with heap:=h' }) hstk.2 z1 z2 z3 fun h2 y1 y2 y3 y4=>after h2 T' _ [e,T] (fresh z0) y3 (Jg z4 z0 y4) fun b hb=>?_
   rcases mem_cons.mp hb with e1 | e1
   ·rw [e1];exact ⟨un,lo,el.1,el.2,pe⟩
   ·rw [mem_singleton.mp e1];exact ⟨hT2,hT1,eT.1,eT.2,hT3⟩
  ·subst hfl
   exact Zak hstk.2 hkb hl ht fun h2 y1 y2 y3 kp=>after h2 T _ [T] ⟨hT1,hT2,hT3⟩ y3 kp fun b hb=>by rw [mem_singleton.mp hb];exact ⟨hT2,hT1,eT.1,eT.2,hT3⟩
theorem Zc4 {X:Cx} {E:XK} (hstk:X.stack=X.env::X.outer/\X.env.frame=some X.env.locals):PassesOwn (model X.prog X.w) X.A X.env (X1 X E):=fun e s h=>Z17 rfl hstk e s h
end L2
namespace L2
open PySem PySem.Spec PyProof.Rows
theorem Cn {P:Program} {w:World} {K:PySem.W.Frag} {mg:Str->Option Value} {base:Heap} {N:List Str} {qual:Str} {scope:Scope} {f:Addr} {cd:Value} {A:Around} {outer:List Env} {s:Shared} {H:Hp} {E:XK} {pins:List (Addr×Obj)} {σ:St} {H':Hp} {s':Shared} {e C T:Addr} {dct:Option Addr} {c2:Option Value}
  (I:Inv (Ts (Ab P w base) P w K mg base N qual scope f cd A outer s H E) pins σ H' s') (lo:s.heap.objs.size<=e) (un:H' e=none) (hT:s.heap.objs.size<=T) (hTn:H' T=none) (ht:Do s'.heap base e T (.ref C,c2) dct (rawInt s.heap.objs.size)) (hnw:N3 H H' dct) (q:E (.ref C) dct H') :
  (Ts (Ab P w base) P w K mg base N qual scope f cd A outer s H E).xe (.ref e) s':=by
 have hl:s'.heap.FunFrames base (envOfC qual scope s.heap.objs.size f cd::outer):=I.stack;have hkb:base.StaysIn s'.heap:=I.bk;have bs:Un (Rk outer) [] H H' s.heap s'.heap:=I.base;have hfree:∀ b∈Rk (envOfC qual scope s.heap.objs.size f cd::outer),H' b=none:=I.stkFree;refine Xi (env:=envOfC qual scope s.heap.objs.size f cd) rfl hkb hl ht fun h' z1 z2 z3 kp=>?_
 have hch:∀ b∈[T],H' b=none/\s.heap.objs.size<=b:=fun b hb=>by rw [mem_singleton.mp hb];exact ⟨hTn,hT⟩
 have ncb:∀ {b:Addr} {o:Obj},s.heap.get? b=some o->b∉[T]:=fun {b o} q z=>absurd (lt_size q) (not_lt.mpr (hch b z).2)
 have nfr:∀ {b:Addr} {o:Obj},s.heap.get? b=some o->b∉Rk outer->b∉Rk (envOfC qual scope s.heap.objs.size f cd::outer):=fun {b o} q n z=>by
  rcases mem_cons.mp (I.stkSub b z) with e1 | e1
  ·have:b=s.heap.objs.size:=e1
   exact absurd (lt_size q) (by rw [this];exact lt_irrefl _)
  ·exact n e1
 refine ⟨e,C,dct,T,H',c2,rfl,I.os,I.bare,⟨?_,?_,?_,?_,bs.tups,bs.frzs,bs.tbls⟩,Qt I.hok kp (fun b z=>(hch b z).1) hfree,lo,hT,un,hTn,z3,(fun z=>nomatch z),hnw,q⟩
 ·exact fun b o q n hf hx=>(kp b o (bs.keep b o q n hf hx) (ncb q)).1 (nfr q hf)
 ·intro b o q n hf hx
  obtain ⟨sl,z⟩:=bs.slot b o q n hf hx;obtain ⟨sl',z'⟩:=(kp b _ z (ncb q)).2;exact ⟨sl',z'⟩
 ·exact fun b o q n hx=>bs.free b o q n hx
 ·intro b o q hx
  obtain ⟨o',z⟩:=bs.there b o q hx;obtain ⟨sl,z'⟩:=(kp b o' z (ncb q)).2;exact ⟨_,z'⟩
theorem Cq {P:Program} {w:World} {K:PySem.W.Frag} {mg:Str->Option Value} {base:Heap} {N:List Str} {qual:Str} {scope:Scope} {f:Addr} {cd:Value} {A:Around} {outer:List Env} {s:Shared} {H:Hp} {E:XK} {v:Value} {s':Shared}
  (h:X1 (Ts (Ab P w base) P w K mg base N qual scope f cd A outer s H E) E v s'):(Ts (Ab P w base) P w K mg base N qual scope f cd A outer s H E).xe v s':=by
 obtain ⟨e,C,dct,pins,σ,H',rfl,J,lo,un,pe,ob,hnw,q⟩:=h;rcases ob with ⟨o,vs,a1,a2,a3,a4,a5⟩ | ⟨T,fl,c2,h1,h2,h3,h4,h5 | h5⟩
 ·exact Iw J ⟨lo,un,.inl ⟨o,vs,a1,a2,a3,a4,a5,fun z=>nomatch z⟩,pe⟩ rfl hnw q
 ·subst h5
  exact Iw J ⟨lo,un,.inr ⟨T,c2,h1,h2,h3,h4,fun z=>nomatch z⟩,pe⟩ rfl hnw q
 ·subst h5
  exact Cn J lo un h1 h2 h4 hnw q
theorem Ro.wishE {X:Cx} {E:Value->Shared->Prop} {st:List Stmt} {t:TS} (h:Ro (X.wish E) st t) (he:∀ v s,E v s->X.xe v s):Ro X st t:=fun pins s σ H D I hw =>
 wpAny_mono (h pins s σ H D (I.wish _) hw) (fun _ _ q=>q.unwish) he
section
variable {P:Program} {w:World} {K:PySem.W.Frag} {mg:Str->Option Value} {base:Heap}
abbrev cxL (P:Program) (w:World) (K:PySem.W.Frag) (mg:Str->Option Value) (base:Heap) (N:List Str) (qual:Str) (scope:Scope) (f:Addr) (cd:Value) (A:Around) (outer:List Env) (s:Shared) (H:Hp) (E:XK):Cx :=
 (Ts (Ab P w base) P w K mg base N qual scope f cd A outer s H E).wish (X1 (Ts (Ab P w base) P w K mg base N qual scope f cd A outer s H E) E)
theorem Bm {fr:Bool} {N:List Str} {qual:Str} {scope:Scope} {f:Addr} {cd:Value} {A:Around} {outer:List Env} {s:Shared} {H:Hp} {E:XK} {p:Nat} {g:Ev->Fl} {ds:List Dat} {R:AS} {vs:List V} {Q:VK} (hp:p<=N.length) (mu:Ud R H) (r:W8 K (av H R) ds vs)
  (q:A7 K fr R H Q E (We N.length p g ds)) :
  tS fr (cxL P w K mg base N qual scope f cd A outer s H E) g (Ends.mk (fun _ H'=>Q .non H') Q (fun _ _=>False) (fun _ _=>False)) (start N vs) H:=by
 unfold We at q;split at q
 ·rename_i hl
  refine ⟨Th N.length ds,⟨H,R,true⟩,R,Gy mu r (by lia),rfl,?_⟩;split at q
  ·rename_i d' e
   rw [e];exact fun v H' s r n=>q v H' s r n
  ·rename_i env e
   rw [e];exact fun A' H' σ' s k=>q .non H' k.h0 Il (fun _ ds e=>by cases e)
  ·rename_i env c fs e
   rw [e];exact fun A' H' σ' st k pins s' e C dct I hc x hf hnw=>XSt.lie (I.unwish) ⟨x.lo,x.un,x.ob,x.pe⟩ hnw (q C dct H' k.h0 hc (hf.mono (Ux k.ra)))
  ·exact q.elim
 ·exact q.elim
theorem Z26 {x:Str} {st:Stmt} {N ps:List Str} {k:Nat} {fr:Bool} {g:Ev->Fl} (D:Def K mg x st) (S:FnScope N ps (Z7 st))
  (hbi:∀ (kV doc pm:Value) (an:Option Addr) (cdv ct:Value) (us:List Value),us.length=ps.length->bindArgs (fnOf x x (Wi st) (Y6 st) (Z7 st) .none kV doc pm an cdv ct) ⟨us,[]⟩=pure (ps.zip us))
  (hb:∀ (f:Addr) (cdv:Value) (A:Around) (outer:List Env) (s:Shared) (H:Hp) (E:XK),Room k (A.deeper (envOfC x (Z7 st) s.heap.objs.size f cdv))->Kv fr (cxL P w K mg base N x (Z7 st) f cdv A outer s H E) (Y6 st) g) :
  CalX P w K mg base (k+1) x ps fr (We N.length ps.length g):=by
 have hpl:ps.length<=N.length:=by have:=congrArg List.length S.pre;rw [length_take] at this;lia
 obtain ⟨f,fd,F,hm⟩:=D.ex;refine ⟨⟨f,fd,F.okX S (fun vs H Q E h=>h.1) fun cdv A outer s H vs Q E hr ⟨hl,ds,R,mu,r,q⟩=>⟨_,Ro.wishE (hb f cdv A outer s H E hr) fun v s' z=>Cq z,?_⟩,hm,F.kp,F.binds hbi⟩,fun ds h=>Lg h⟩;exact Bm hpl mu r q
theorem Z1o {N:List Str} {qual:Str} {scope:Scope} {f:Addr} {cd:Value} {A:Around} {outer:List Env} {s:Shared} {H:Hp} {E:XK} :
  PassesOwn (model P w) (cxL P w K mg base N qual scope f cd A outer s H E).A (cxL P w K mg base N qual scope f cd A outer s H E).env (cxL P w K mg base N qual scope f cd A outer s H E).xe :=
 Zc4 (X:=Ts (Ab P w base) P w K mg base N qual scope f cd A outer s H E) ⟨rfl,rfl⟩
end
section
variable {X:Cx}
def Z5w:V->List V->Hp->VK->Prop:=fun x vs H Q=>∃ l xs i y,x=.ref l/\vs=[.int i,y]/\H l=some (.lst xs)/\0<=i/\i<=xs.length/\xs.length<sizeLine/\Q .non (W6 H l (.lst (xs.take i.toNat++y::xs.drop i.toNat)))
theorem Lc:∀ {vs:List V} {us:List Value} (n:Nat),Zx vs us->Zx (vs.take n) (us.take n)
 | _,_,0,_=>by simp;exact .nil
 | [],us,n+1,h=>by cases h;exact .nil
 | v::vs,us,n+1,h=>by cases h with | cons a b=>exact .cons a (Lc n b)
theorem L4:∀ {vs:List V} {us:List Value} (n:Nat),Zx vs us->Zx (vs.drop n) (us.drop n)
 | _,_,0,h=>h
 | [],us,n+1,h=>by cases h;exact .nil
 | v::vs,us,n+1,h=>by cases h with | cons a b=>exact L4 n b
theorem Cb:MtM X "list.insert" Z5w:=by
 intro pins s σ H x vs v us Q I rx rv h;obtain ⟨l,xs,i,y,rfl,rfl,hH,h0,h1,hz,q⟩:=h;cases rx;cases rv with
 | cons r1 r2 =>
  cases r2 with
  | cons ru r3 =>
   cases r3;obtain ⟨t,rfl⟩:=r1;rename_i u;obtain ⟨z,its,n,r,hl,e⟩:=I.lstM hH;have hfit:¬ (!Builtin.List.listFitsIndex i)=true:=by
    have:(sizeLine:Nat)<2^62:=by decide
    rw [fitsIndex_both (by lia) (by lia)]
    decide
   refine call_meets F.slot_list_insert ⟨_,e,rfl⟩ F.entry_list_insert (F.args_list_insert_3 _ _ _) (AutoSeq1.list_insert_list_int_val_1 l its.toArray n i t u hfit (by rw [size_toArray];lia)) ⟨e,?_⟩;refine ⟨.non,_,I.lset (its':=its.take i.toNat++u::its.drop i.toNat) hH e ?_ ((Lc _ r).append (.cons ru (L4 _ r))) ?_,rfl,q⟩
   ·apply Array.toList_inj.mp
    have hm:(if i<0 then (i+(its.toArray.size:Int)).toNat else min i.toNat its.toArray.size)=i.toNat:=by
     rw [if_neg (by lia),size_toArray,Nat.min_eq_left (by lia)]
    show ((its.toArray.extract 0 (if i<0 then (i+(its.toArray.size:Int)).toNat else min i.toNat its.toArray.size)).push u++its.toArray.extract (if i<0 then (i+(its.toArray.size:Int)).toNat else min i.toNat its.toArray.size)).toList=_;rw [hm];simp [List.extract];exact take_of_length_le (by rw [length_drop];lia)
   ·rw [length_append,length_cons,length_take,length_drop]
    lia
def Sx:List Dat->List Dat->Option (List Dat)
 | ds,[.int i,d]=>if 0<=i/\i<=ds.length/\ds.length<sizeLine then some (ds.take i.toNat++d::ds.drop i.toNat) else none
 | _,_=>none
theorem Pq:MtU X "list.insert" Sx:=MtR.weak (id:="list.insert") Cb fun v us H Q zz=>by
 obtain ⟨A,a,vs,ds,as,ds',mu,e1,h1,r1,r2,e2,q⟩:=zz;unfold Sx at e2;split at e2
 ·rename_i i d
  split at e2
  ·rename_i hl
   cases e2;obtain ⟨w,us',e3,r3,e4⟩:=r2;obtain ⟨w2,us2,e5,r5,e6⟩:=e4;have hw:w=.int i:=(Rm.pk r3).int;have hlen:=Zv r1;refine ⟨a,vs,i,w2,e1,by rw [e3,e5,show us2=[] from e6,hw],h1,hl.1,by rw [hlen];exact hl.2.1,by rw [hlen];exact hl.2.2,q _ _ (by rw [length_append,length_cons,length_take,length_drop];lia) (Ww (Gu _ r1) (U4 r5 (Hx _ r1)))⟩
  ·cases e2
 ·cases e2
def Z8u (c:Int):Value->Bool
 | .int z _=>z==c
 | _=>false
theorem Ng:∀ {ns:List Int} {us:List Value},Zx (ns.map V.int) us->∀ (j:Nat) (h:j<us.length) (h':j<ns.length),∃ t,us[j]=.int ns[j] t
 | [],us,r,j,h,h'=>by simp at h'
 | n::ns,us,r,j,h,h'=>by
  rw [map_cons] at r;cases r with
  | cons r1 r2 =>
   obtain ⟨t,e⟩:=r1;subst e;cases j with
   | zero=>exact ⟨t,rfl⟩
   | succ j=>exact Ng r2 j (by simpa using h) (by simpa using h')
theorem Z76 {ns:List Int} {us:List Value} (r:Zx (ns.map V.int) us) {y:Value} (h:y∈us):∃ z t,y=.int z t:=by
 obtain ⟨j,hj,rfl⟩:=List.getElem_of_mem h;have hl:=r.length;rw [length_map] at hl;obtain ⟨t,e⟩:=Ng r j hj (by lia);exact ⟨_,t,e⟩
theorem Z09:MtR X "list.index" (fun x vs H Q=>∃ (p:Addr) (zs:List Int) (c:Int),x=.ref p/\vs=[.int c]/\R1 X.K H p (zs.map V.int)/\c∈zs/\Q (.int ((zs.idxOf c:Nat):Int)) H):=by
 intro pins s σ H x vs v us Q I rx rs h;obtain ⟨p,zs,c,rfl,rfl,hq,hm,q⟩:=h;cases rx;obtain ⟨u',rfl,ru⟩:=Q7 rs;obtain ⟨u,rfl⟩:=ru;obtain ⟨its,r',pl,hz⟩:=I.list hq;obtain ⟨⟨cls,dd,data,sl⟩,ho,hc,n,hd⟩:=pl.isList;simp only at hc hd;subst hc hd;have hlen':=r'.length;rw [length_map] at hlen' hz;have hj:zs.idxOf c<zs.length:=List.idxOf_lt_length_iff.mpr hm;have hsl:sizeLine<2^63 - 1:=by decide
 refine call_meets PySem.F.slot_list_index ⟨_,ho,rfl⟩ PySem.F.entry_list_index (PySem.F.args_list_index_2 _ _) (SeqAt.list_indexAt p _ n dd sl (.int c u) (Z8u c) (zs.idxOf c) (by simpa [← hlen'] using hj) (by lia) ?_ ?_) ⟨ho,fun y hy=>?_,⟨.int _,H,I.tok _,⟨_,rfl⟩,q⟩⟩
 ·obtain ⟨t,e⟩:=Ng r' (zs.idxOf c) (by lia) hj
  show Z8u c (its[zs.idxOf c]'(by lia))=true;rw [e];show (zs[zs.idxOf c]==c)=true;simpa using List.getElem_idxOf hj
 ·intro j hjs hlt
  have hjb:j<zs.length:=by lia
  obtain ⟨t,e⟩:=Ng r' j (by lia) hjb;show Z8u c (its[j]'(by lia))=false;rw [e];show (zs[j]==c)=false;have:=List.not_of_lt_findIdx (xs:=zs) (p:=(·==c)) (i:=j) (by simpa [List.idxOf] using hlt);simpa using this
 ·obtain ⟨z,t,rfl⟩:=Z76 r' (by simpa using hy)
  exact SeqAt.EqAt.int_int z t c u
def K5:Dat->List Dat->Option Dat
 | .lst xs,[.int c]=>(Tl xs).bind fun zs=>if c∈zs then some (.int ((zs.idxOf c:Nat):Int)) else none
 | _,_=>none
theorem Od:MtD X "list.index" K5:=Z09.weak fun v vs H Q zz=>by
 obtain ⟨A,x,ds,d,mu,e,p,ps,q⟩:=zz;unfold K5 at e;split at e
 ·rename_i xs c
  obtain ⟨l,us,e2,h1,r1⟩:=p.lst;obtain ⟨v1,e3,p1⟩:=ps.one;obtain ⟨zs,hy,e⟩:=bind_some e;split at e
  ·rename_i hc
   cases e;rw [Td hy] at r1;have eu:=Wf r1;subst eu;exact ⟨l,zs,c,e2,by rw [e3,p1.int],h1.sq,hc,q.here Yk⟩
  ·cases e
 ·cases e
end
section
variable {fr m:Bool} {X:Cx} {e:Expr} {f fa fb:Ev->Option Dat} {pos:Pos}
end
theorem EnvOk.gx {K:PySem.W.Frag} {B:Bs} {A:AS} {H:Hp} {σ:St} {env:Ev} {i:Nat} {g:GX} (k:EnvOk K B A H σ env) (hst:B.st=true) (h:env[i]?=some (.gx g)) :
  ∃ (v:V) (o:Addr->Prop),σ[i]?=some (some v)/\GOk K A H o g v/\(∀ b,o b->A b=true/\B.H₀ b=none) /\
   ∀ (b:Addr) (O:HO) (g':GX),o b->Mtb (some O)->GOk K A (W6 H b O) o g' v->Step A H A (W6 H b O)/\EnvOk K B A (W6 H b O) σ (env.set i (.gx g')):=by
 obtain ⟨own,h1,h2,h4⟩:=k.sl;obtain ⟨x,q1,v,e1,e2⟩:=h4 i _ h;subst e1;have hb0:∀ b,own i b->A b=true/\B.H₀ b=none:=fun b ob=>by
  obtain ⟨hA,hR⟩:=h2 i b ob;refine ⟨hA,?_⟩;rcases k.ar b hA with z | z
  ·rw [z] at hR;cases hR
  ·exact z
 refine ⟨v,own i,q1,e2,hb0,fun a O g' oa hO hg=>?_⟩;obtain ⟨hA,h0⟩:=hb0 a oa;have avs:Zp (av H A) (av (W6 H a O) A):=fun b o e=>by
  obtain ⟨z1,z2⟩:=Tn e;have hb:b≠a:=by intro z;rw [z,hA] at z1;cases z1
  exact Wx (by rw [Zj hb];exact z2) z1
 refine ⟨⟨fun b o hb hAb=>?_,fun b hb=>.inl hb⟩,?_⟩
 ·have hn:b≠a:=by intro z;rw [z,hA] at hAb;cases hAb
  rw [Zj hn];exact hb
 ·refine ⟨fun b o hb=>?_,k.r0,k.ra,k.ar,fun b hb=>?_,by rw [length_set];exact k.len,fun hs j d'=>Dq (k.np hs) (fun _ z=>by cases z) j d',own,h1,h2,fun j s e=>?_⟩
  ·have hn:b≠a:=Y0 hb h0
   rw [Zj hn];exact k.h0 b o hb
  ·by_cases hn:b=a
   ·subst hn;rw [Zt];exact hO
   ·rw [Zj hn];exact k.mu b hb
  ·by_cases hj:i=j
   ·subst hj
    rw [getElem?_set,if_pos rfl] at e;split at e
    ·cases e
     exact ⟨_,q1,v,rfl,hg⟩
    ·cases e
   ·rw [getElem?_set,if_neg hj] at e
    obtain ⟨x,p1,p2⟩:=h4 j s e;refine ⟨x,p1,?_⟩;cases s with
    | un=>trivial
    | fz d=>obtain ⟨v,z1,z2⟩:=p2;exact ⟨v,z1,z2.mono avs⟩
    | pk d=>exact absurd e (k.np hst j d)
    | ow es =>
     obtain ⟨b,us,z1,z2,z3,z4,z5⟩:=p2;have hn:b≠a:=fun z=>hj (h1 i j a oa (z▸z2))
     exact ⟨b,us,z1,z2,z3,by rw [Zj hn];exact z4,z5.mono avs⟩
    | gx g2 =>
     obtain ⟨w,z1,z2⟩:=p2;exact ⟨w,z1,z2.frame (fun _ z=>z) (fun b x ob z=>by
      have hn:b≠a:=fun y=>hj (h1 i j a oa (y▸ob))
      rw [Zj hn];exact z) avs⟩
def Im (A:AS) (S:Addr->Bool):AS:=fun b=>A b||S b
theorem EnvOk.putG {K:PySem.W.Frag} {B:Bs} {A:AS} {H H':Hp} {σ:St} {env:Ev} (k:EnvOk K B A H σ env) (hst:B.st=true) (i:Nat) {g:GX} {v:V} {S:Addr->Bool} (s:Zp H H') (hn:∀ p,S p=true->H p=none) (hm:∀ p,S p=true->Mtb (H' p)) (r:GOk K (Im A S) H' (fun b=>S b=true) g v) :
  Step A H (Im A S) H'/\EnvOk K B (Im A S) H' (σ.set i (some v)) (env.set i (.gx g)):=by
 have or_of:∀ {b},Im A S b=true->A b=true\/S b=true:=fun {b} h=>by unfold Im at h;rw [Bool.or_eq_true] at h;exact h
 have inl_of:∀ {b},A b=true->Im A S b=true:=fun {b} h=>by unfold Im;rw [h];rfl
 have inr_of:∀ {b},S b=true->Im A S b=true:=fun {b} h=>by unfold Im;rw [h,Bool.or_true]
 have st:Step A H (Im A S) H':=⟨fun a o h _=>s a o h,fun a h=>(or_of h).imp id fun z=>hn a z⟩;have hAp:∀ p,S p=true->A p=false:=fun p hp=>k.mu.new (hn p hp)
 have h0:∀ p,S p=true->B.H₀ p=none:=fun p hp=>k.h0.free (hn p hp)
 obtain ⟨own,h1,h2,h4⟩:=k.sl;refine ⟨st,k.h0.trans s,k.r0,fun a h=>inl_of (k.ra a h),fun a h=>?_,fun a h=>?_,by rw [length_set,length_set];exact k.len,fun hs j d'=>Dq (k.np hs) (fun _ z=>by cases z) j d',
  fun j a=>(j≠i/\own j a)\/(j=i/\S a=true),fun j j' a z z'=>?_,fun j a z=>?_,fun j sl e=>?_⟩
 ·rcases or_of h with z | z
  ·exact k.ar a z
  ·exact .inr (h0 a z)
 ·rcases or_of h with z | z
  ·exact k.mu.mono s a z
  ·exact hm a z
 ·rcases z with z | z<;>rcases z' with z' | z'
  ·exact h1 j j' a z.2 z'.2
  ·have:=(h2 j a z.2).1;rw [hAp a z'.2] at this;cases this
  ·have:=(h2 j' a z'.2).1;rw [hAp a z.2] at this;cases this
  ·rw [z.1,z'.1]
 ·rcases z with z | z
  ·exact ⟨inl_of (h2 j a z.2).1,(h2 j a z.2).2⟩
  ·refine ⟨inr_of z.2,?_⟩
   cases q:B.R a with
   | false=>rfl
   | true=>obtain ⟨o,ho⟩:=k.r0 a q;rw [h0 a z.2] at ho;cases ho
 ·by_cases hj:i=j
  ·subst hj
   rw [getElem?_set,if_pos rfl] at e;split at e
   ·rename_i hl
    cases e;exact ⟨some v,by rw [getElem?_set,if_pos rfl,if_pos (by rw [k.len];exact hl)],v,rfl,r.frame (fun _ z=>.inr ⟨rfl,z⟩) (fun _ _ _ z=>z) (Zp.refl _)⟩
   ·cases e
  ·rw [getElem?_set,if_neg hj] at e
   obtain ⟨x,p1,p2⟩:=h4 j sl e;refine ⟨x,by rw [getElem?_set,if_neg hj];exact p1,?_⟩;cases sl with
   | un=>trivial
   | fz d=>obtain ⟨v,z1,z2⟩:=p2;exact ⟨v,z1,z2.mono st.av⟩
   | pk d=>exact absurd e (k.np hst j d)
   | ow es =>
    obtain ⟨b,us,z1,z2,z3,z4,z5⟩:=p2;exact ⟨b,us,z1,.inl ⟨Ne.symm hj,z2⟩,z3,s _ _ z4,z5.mono st.av⟩
   | gx g2 =>
    obtain ⟨w,z1,z2⟩:=p2;exact ⟨w,z1,z2.frame (fun _ z=>.inl ⟨Ne.symm hj,z⟩) (fun b x _ z=>s b x z) st.av⟩
section
variable {fr m:Bool} {X:Cx} {e ix:Expr} {f fa:Ev->Option Dat} {fs:Ev->Option (List Dat)} {pos:Pos}
def Sa (dss:List (List Dat)) (k:Int):Option (List Dat):=if 0<=k then dss[k.toNat]? else none
def Ck (i:Nat) (fa:Ev->Option Dat):Ev->Option Dat:=fun env=>match env[i]?,fa env with
 | some (.gx (.nest dss)),some (.int k)=>(Sa dss k).map .lst
 | _,_=>none
theorem EnvOk.nest {K:PySem.W.Frag} {B:Bs} {A:AS} {H:Hp} {σ:St} {env:Ev} {i:Nat} {dss:List (List Dat)} (k:EnvOk K B A H σ env) (h:env[i]?=some (.gx (.nest dss))) :
  ∃ (a:Addr) (as:List Addr),σ[i]?=some (some (.ref a))/\H a=some (.lst (as.map V.ref))/\as.length=dss.length/\∀ (n:Nat) b ds,as[n]?=some b->dss[n]?=some ds->ds.length<=sizeLine/\∃ vs,H b=some (.lst vs)/\W8 K (av H A) ds vs:=by
 obtain ⟨own,h1,h2,h4⟩:=k.sl;obtain ⟨x,q1,v,e1,a,as,e2,e3,e4,e5,e6,e7,e8,e9⟩:=h4 i _ h;subst e1 e2;exact ⟨a,as,q1,e5,e6,fun n b ds z1 z2=>⟨(e9 n b ds z1 z2).2.1,(e9 n b ds z1 z2).2.2⟩⟩
theorem Ef {dss:List (List Dat)} {k:Int} {ds:List Dat} (h:Sa dss k=some ds):0<=k/\dss[k.toNat]?=some ds/\k=((k.toNat:Nat):Int):=by
 unfold Sa at h;split at h
 ·rename_i h0;exact ⟨h0,h,(Int.toNat_of_nonneg h0).symm⟩
 ·cases h
theorem Zbc (i:Nat) {x:Str} {p:Pos} (ha:W4 true X ix fa) (hpl:Gh ix)
  (hN:X.N[i]?=some x:=by rfl) (hv:Vis X.env.scope x:=by first | exact Or.inl rfl | exact Or.inr (Or.inl rfl) | exact Or.inr (Or.inr rfl)) (hd:(x==("__debug__" : Str))=false:=by decide) (hcd:(x==("__classdict__" : Str))=false:=by decide) :
  W4 true X (.Subscript (.Name x p) ix pos) (Ck i fa):=PE.weak (Z1a Na (Jy hN hv hd hcd) ha hpl) fun σ H Q zz=>by
 obtain ⟨env,B,A,d,k,e,q⟩:=zz;unfold Ck at e;split at e
 ·rename_i dss n e1 e2
  obtain ⟨ds,e3,e4⟩:=map_some e;subst e4;obtain ⟨h0,e5,e6⟩:=Ef e3;obtain ⟨a,as,h1,h2,h3,h4⟩:=k.nest e1;refine ⟨.ref a,h1,env,B,A,.int n,k,e2,fun w H2 s2 r2=>?_⟩;have hw:w=.int n:=(Rm.pk r2).int;have hlt:n.toNat<as.length:=by rw [h3];exact (List.getElem?_eq_some_iff.mp e5).1
  obtain ⟨hz,vs,g1,g2⟩:=h4 n.toNat _ ds (getElem?_eq_getElem hlt) e5;refine ⟨a,as.map V.ref,n,.ref as[n.toNat],rfl,hw,R1.of (s2 _ _ h2),?_,q _ _ s2 (.inr (.inl ⟨_,vs,ds,rfl,rfl,hz,s2 _ _ g1,g2.mono (V6 s2)⟩))⟩;have hat:Kp (as.map V.ref) ((n.toNat:Nat):Int)=some (.ref as[n.toNat]):=Ss (by rw [getElem?_map,getElem?_eq_getElem hlt];rfl)
  rwa [← e6] at hat
 ·cases e
def Ee (i:Nat) (fa:Ev->Option Dat) (fs:Ev->Option (List Dat)):Ev->Fl:=fun env=>match env[i]?,fa env with
 | some (.gx (.nest dss)),some (.int k)=>match Sa dss k with
  | some ds=>match (fs env).bind fun as=>Wj ds as with
   | some ds'=>.next (env.set i (.gx (.nest (dss.set k.toNat ds'))))
   | none=>.no
  | none=>.no
 | _,_=>.no
theorem Nk (i:Nat) {x:Str} {es:List Expr} {p p2 apos cpos:Pos} (ha:W4 true X ix fa) (hpl:Gh ix) (hb:Km false X (e::es) fs)
  (hN:X.N[i]?=some x:=by rfl) (hv:Vis X.env.scope x:=by first | exact Or.inl rfl | exact Or.inr (Or.inl rfl) | exact Or.inr (Or.inr rfl)) (hd:(x==("__debug__" : Str))=false:=by decide) (hcd:(x==("__classdict__" : Str))=false:=by decide)
  (hsw:swapsWith (.Call (.Attribute (.Subscript (.Name x p) ix p2) "append" apos) (e::es) [] cpos) none pos.line X.env=pure false:=by rfl)
  (hbase:attributeBase (.Subscript (.Name x p) ix p2) "append" X.env (eval (.Subscript (.Name x p) ix p2) X.env)=eval (.Subscript (.Name x p) ix p2) X.env:=by rfl)
  (hfew:((backTo cpos (starEach (e::es) X.env)).all (fun x=>!x.1)&&(backToKw cpos (keywordEach [] X.env)).all (fun x=>x.1.isSome)
   && decide ((e::es).length+([]:List Keyword).length+(if ([]:List Keyword).isEmpty then 0 else 1)<30))=true:=by rfl)
  (hline:(apos.endLine==cpos.line)=true:=by rfl) (hs:starEach (e::es) X.env=(false,eval e X.env)::starEach es X.env:=by rfl) (hplain:(backTo cpos (starEach es X.env)).any (·.1)=false:=by rfl) :
  Sb fr X (.Expr (.Call (.Attribute (.Subscript (.Name x p) ix p2) "append" apos) (e::es) [] cpos) pos) (Ee i fa fs):=(Sv (Z1l PySem.F.plainAttrs_list PySem.F.slot_list_append PySem.F.type_list_append (id:="list.append") Lh (Z1a Na (Jy hN hv hd hcd) ha hpl) hb hbase hfew hline hs hplain) hsw).weak fun D σ H zz=>by
 obtain ⟨env,B,A,k,hst,q⟩:=zz;unfold Ee at q;split at q
 ·rename_i dss n e1 e2
  split at q
  ·rename_i ds e3
   split at q
   ·rename_i ds' e4
    obtain ⟨as0,e5,e6⟩:=bind_some e4;obtain ⟨h0,e7,e8⟩:=Ef e3;obtain ⟨a,as,h1,h2,h3,h4⟩:=k.nest e1;refine ⟨.ref a,h1,env,B,A,.int n,k,e2,fun w H2 s2 r2=>?_⟩;have hw:w=.int n:=(Rm.pk r2).int;have hlt:n.toNat<as.length:=by rw [h3];exact (List.getElem?_eq_some_iff.mp e7).1
    obtain ⟨hz,vs,g1,g2⟩:=h4 n.toNat _ ds (getElem?_eq_getElem hlt) e7;refine ⟨a,as.map V.ref,n,.ref as[n.toNat],rfl,hw,R1.of (s2 _ _ h2),?_,.inl ⟨rfl,vs,R1.of (s2 _ _ g1)⟩,env,B,A,as0,k.mono s2,e5,fun us H3 s3 rs=>?_⟩
    ·have hat:Kp (as.map V.ref) ((n.toNat:Nat):Int)=some (.ref as[n.toNat]):=Ss (by rw [getElem?_map,getElem?_eq_getElem hlt];rfl)
     rwa [← e8] at hat
    have k3:=k.mono (s2.trans s3);obtain ⟨v,o,m1,m2,m3,m4⟩:=k3.gx hst e1;rw [h1] at m1;cases m1;obtain ⟨a',as',z1,z2,z3,z4,z5,z6,z7,z8⟩:=m2;cases z1;have eas:as'.map V.ref=as.map V.ref:=by
     have:=(s2.trans s3) _ _ h2;rw [z4] at this;exact HO.lst.inj (Option.some.inj this)
    have eas2:as'=as:=by
     have hinj:∀ (l1 l2:List Addr),l1.map V.ref=l2.map V.ref->l1=l2:=fun l1=>by
      induction l1 with
      | nil=>intro l2 hl;cases l2 with | nil=>rfl | cons=>cases hl
      | cons y l1 ih =>
       intro l2 hl;cases l2 with
       | nil=>cases hl
       | cons y2 l2=>simp at hl;rw [hl.1,ih l2 (by simpa using hl.2)]
     exact hinj _ _ eas
    subst eas2;obtain ⟨ob,hz2,vs2,g3,g4⟩:=z8 n.toNat _ ds (getElem?_eq_getElem hlt) e7;generalize hbq:as'[n.toNat]=b at *;have hbm:b∈as':=by rw [← hbq];exact getElem_mem hlt
    unfold Wj at e6;split at e6
    ·rename_i d
     split at e6
     ·rename_i hl
      cases e6;obtain ⟨y,us',e9,r3,e10⟩:=rs;have hus:us=[y]:=by rw [e9,show us'=[] from e10]
      refine ⟨b,vs2,y,rfl,hus,g3,by rw [Zv g4];exact hl,?_⟩;have hA:A b=true:=(m3 b ob).1;have avs:Zp (av H3 A) (av (W6 H3 b (.lst (vs2++[y]))) A):=fun c o2 ec=>by
       obtain ⟨y1,y2⟩:=Tn ec;have hc:c≠b:=by intro z;rw [z,hA] at y1;cases y1
       exact Wx (by rw [Zj hc];exact y2) y1
      have hab:a≠b:=fun z=>z7 (z▸hbm)
      have hg:GOk X.K A (W6 H3 b (.lst (vs2++[y]))) o (.nest (dss.set n.toNat (ds++[d]))) (.ref a):=by
       refine ⟨a,as',rfl,z2,by rw [length_set];exact z3,by rw [Zj hab];exact z4,by rw [length_set];exact z5,z6,z7,fun j c es q1 q2=>?_⟩;by_cases hj:n.toNat=j
       ·subst hj
        rw [getElem?_eq_getElem hlt,hbq] at q1;cases q1;rw [getElem?_set,if_pos rfl,if_pos (by rw [← h3];exact hlt)] at q2;cases q2;exact ⟨ob,by rw [length_append,length_singleton];lia,vs2++[y],Zt,Ww (g4.mono avs) (Qr (Rp.mono avs r3))⟩
       ·rw [getElem?_set,if_neg hj] at q2
        obtain ⟨y1,y2,us2,y3,y4⟩:=z8 j c es q1 q2;have hcb:c≠b:=fun z=>by
         obtain ⟨hjl1,hjl2⟩:=List.getElem?_eq_some_iff.mp q1;have:=List.nodup_iff_pairwise_ne.mp z6;rw [List.pairwise_iff_getElem] at this;rcases lt_or_ge n.toNat j with hlt2 | hge2
         ·exact this n.toNat j hlt hjl1 hlt2 (by rw [hbq,hjl2,z])
         ·exact this j n.toNat hjl1 hlt (by lia) (by rw [hbq,hjl2,z])
        exact ⟨y1,y2,us2,by rw [Zj hcb];exact y3,y4.mono avs⟩
      obtain ⟨w1,w2⟩:=m4 b (.lst (vs2++[y])) _ ob trivial hg;exact q A _ σ (((Step.same s2).trans (Step.same s3)).trans w1) w2
     ·cases e6
    ·cases e6
   ·exact q.elim
  ·exact q.elim
 ·exact q.elim
end
section
variable {fr:Bool} {X:Cx} {sc:Scope} {tg iter:Expr} {pos:Pos} {src:Ev->Option (List Dat)} {is:List Nat} {gg:Dat->Ev->Option Ev}
def Lb (i:Nat) (src:Ev->Option (List Dat)) (fs:List (Option Nat)) (gg:Dat->Ev->Option Ev):Ev->Fl:=fun env=>match src env with
 | some ds=>if ds.all (fun d=>(gg d (Uv fs env)).isSome)=true then .next (env.set i (.gx (.nest (List.replicate ds.length [])))) else .no
 | none=>.no
theorem Z31 {J:It} {fs:List (Option Nat)} {is:List Nat} {g:Dat->Ev->Option Ev} {σ:St} {H1:Hp} {Q:VK} {K:PySem.W.Frag} {A:AS} {B:Bs} {env:Ev} {ds:List Dat}
  (hfs:∀ i∈is,fs[i]?=some none) (k:EnvOk K B A H1 σ env) (hJ:F7 false K A H1 ds J) (hz:ds.length<=sizeLine) (hc:∀ d∈ds,∃ e',g d (Uv fs env)=some e')
  (q:∀ (p:Addr) (as:List Addr) (H':Hp),Zp H1 H'->H1 p=none->H' p=some (.lst (as.map V.ref))->as.length=ds.length->as.Nodup->p∉as->(∀ b∈as,H1 b=none/\H' b=some (.lst []))->Q (.ref p) H') :
  ∃ W:Nat->Nat->List V->Hp->Prop,(∃ m,W 0 m [] H1)/\∀ i m zs H,W i m zs H ->
   (J.stop i H/\zs.length<=sizeLine/\∀ p,H p=none->Q (.ref p) (W6 H p (.lst zs))) \/
   (J.go i H/\zs.length<=sizeLine/\∃ N:List V->Hp->Prop,(∀ ys' H',N ys' H'->∃ m',m'<m/\W (i+1) m' ys' H')/\∀ x H',J.yld i H x H'->(∃ env R A d env',EnvOk K R A H' (Vf fs σ) env/\Rp K (av H' A) d x/\g d env=some env'/\∀ σ',EnvOk K R A H' σ' env'->Eh is (Vf fs σ) σ' ->
    (Ext (Vf fs σ) σ'/\∃ env R A b,EnvOk K R A H' σ' env/\M6 env=some b/\∀ H3,Zp H' H3->if b=true then (∀ p,H3 p=none->N (zs++[.ref p]) (W6 H3 p (.lst []))) else N zs H3))):=by
 refine ⟨fun i m zs H=>m=ds.length - i/\i<=ds.length/\Zp H1 H/\∃ as:List Addr,zs=as.map V.ref/\as.length=i/\as.Nodup/\∀ b∈as,H1 b=none/\H b=some (.lst []),
  ⟨ds.length,by simp,zero_le _,Zp.refl _,[],rfl,rfl,nodup_nil,fun b hb=>nomatch hb⟩,?_⟩
 rintro i m zs H ⟨rfl,hi,s1,as,rfl,hal,hnd,has⟩;have hzs:(as.map V.ref).length<=sizeLine:=by rw [length_map];lia
 obtain ⟨hgo,hstop⟩:=hJ A H ⟨rfl,s1⟩ (k.mono s1).mu;by_cases hlt:i<ds.length
 ·have hx:ds[i]?=some ds[i]:=by simp [hlt]
  obtain ⟨go,yl⟩:=hgo i _ hx;obtain ⟨env1,b1⟩:=hc _ (getElem_mem hlt);refine .inr ⟨go,hzs,fun zs' H'=>i+1<=ds.length/\Zp H1 H'/\∃ as:List Addr,zs'=as.map V.ref/\as.length=i+1/\as.Nodup/\∀ b∈as,H1 b=none/\H' b=some (.lst []),
   fun zs' H' h=>⟨ds.length - (i+1),by lia,rfl,h⟩,fun x H' hy=>?_⟩
  obtain ⟨s2,rx⟩:=yl x H' hy;refine ⟨Uv fs env,⟨H1,A,false⟩,A,ds[i],env1,(k.inn fs).mono (s1.trans s2),rx,b1,fun σ' k' ag=>⟨⟨ag.1.symm,fun j v ej=>?_⟩,env1,⟨H1,A,false⟩,A,true,k',rfl,fun H3 s3=>?_⟩⟩
  ·have hj:j∉is:=fun hj=>by
    have:=hfs j hj;unfold Vf at ej;rw [getElem?_map,this] at ej;cases ej
   rw [ag.2 j hj];exact ej
  ·rw [if_pos rfl]
   intro p hp;have s4:Zp H1 H3:=(s1.trans s2).trans s3;have hpa:p∉as:=fun z=>by
    have:=(s2.trans s3) _ _ (has p z).2;rw [hp] at this;cases this
   refine ⟨hlt,fun b o hb=>?_,as++[p],by rw [map_append];rfl,by rw [length_append,length_singleton,hal],nodup_append.mpr ⟨hnd,nodup_cons.mpr ⟨by simp,nodup_nil⟩,fun a ha b hb=>by rw [mem_singleton.mp hb];intro z;exact hpa (z▸ha)⟩,fun b hb=>?_⟩
   ·have hn:b≠p:=fun z=>by have:=s4 b o hb;rw [z,hp] at this;cases this
    rw [Zj hn];exact s4 b o hb
   ·rcases mem_append.mp hb with hb | hb
    ·have hn:b≠p:=fun z=>hpa (z▸hb)
     exact ⟨(has b hb).1,by rw [Zj hn];exact (s2.trans s3) _ _ (has b hb).2⟩
    ·rw [mem_singleton.mp hb]
     exact ⟨s4.free hp,Zt⟩
 ·have e:i=ds.length:=by lia
  subst e;refine .inl ⟨hstop,hzs,fun p hp=>q p as _ (fun b o hb=>?_) (s1.free hp) Zt hal hnd (fun z=>by have:=(has p z).2;rw [hp] at this;cases this) fun b hb=>⟨(has b hb).1,?_⟩⟩
  ·have hn:b≠p:=fun z=>by have:=s1 b o hb;rw [z,hp] at this;cases this
   rw [Zj hn];exact s1 b o hb
  ·have hn:b≠p:=fun z=>by have:=(has b hb).2;rw [z,hp] at this;cases this
   rw [Zj hn];exact (has b hb).2
theorem Z2d (i:Nat) {x:Str} {pos' spos lpos:Pos} (hN:X.N.Nodup) (hi':X.N[i]?=some x) (hx:Fj X.env.scope x) (psc:Scope) (fs:List (Option Nat)) (N:List Str) (hp:X.env.scope=psc) (S:CompOk psc sc X.N N fs) (hc:X.calm=true) (hi:PId false X tg iter src)
  (hb:∀ (C:Addr) (s:Shared) (H:Hp) (fp:List Addr),PGd is (Wr X sc N C s H fp) tg gg/\PFd (Wr X sc N C s H fp) [] M6)
  (hfs:∀ i∈is,fs[i]?=some none) (hs:∀ x,foldedSetIterable iter X.env x=pure x:=by intro _;rfl) (hsw:swapsWith (.ListComp (.List [] lpos) [⟨tg,iter,[],0⟩] sc pos) (some (.Name x pos')) spos.line X.env=pure true:=by rfl)
  (hf:X.fn x=true\/X.env.scope.names.lookup x=some .local:=by first | exact .inl rfl | exact .inr rfl | assumption) :
  Sb fr X (.Assign [.Name x pos'] (.ListComp (.List [] lpos) [⟨tg,iter,[],0⟩] sc pos) spos) (Lb i src fs gg):=(Ie (g:=fun v σ H Q=>∃ env R A d env',EnvOk X.K R A H σ env/\Rp X.K (av H A) d v/\gg d env=some env'/\∀ σ',EnvOk X.K R A H σ' env'->Eh is σ σ'->Q σ' H) (tt:=fun σ H Q=>∃ env R A b,EnvOk X.K R A H σ env/\M6 env=some b/\∀ H',Zp H H'->Q b H') (te:=fun σ H Q=>∀ p,H p=none->Q (.ref p) (W6 H p (.lst []))) hN hi' hx psc fs N hp S hc hi (fun C s H fp=>⟨(hb C s H fp).1,(hb C s H fp).2,(Z1k Q8).weak fun σ H Q h=>⟨zero_le _,h⟩⟩) hs hsw hf).weak fun D σ H zz=>by
 obtain ⟨env,B,A,k,hst,q⟩:=zz;unfold Lb at q;split at q
 ·rename_i ds e
  split at q
  ·rename_i hall
   refine ⟨env,B,A,ds,k,e,fun J H1 hz s1 hJ=>Z31 (Q:=fun v H'=>D.nx (σ.set i (some v)) H') hfs (k.mono s1) hJ hz (fun d hd=>Option.isSome_iff_exists.mp (all_eq_true.mp hall d hd)) fun p as H' s2 hn hp1 hal hnd hpa has=>?_⟩;have h1:=k.putG hst i (g:=.nest (List.replicate ds.length [])) (v:=.ref p) (S:=fun b=>decide (b=p)||decide (b∈as)) (s1.trans s2) (fun b hb=>?_) (fun b hb=>?_) ⟨p,as,rfl,by simp,by rw [length_replicate];exact hz,hp1,by rw [length_replicate];exact hal,hnd,hpa,fun n b es q1 q2=>?_⟩
   ·exact q _ H' _ h1.1 h1.2
   ·rw [Bool.or_eq_true,decide_eq_true_eq,decide_eq_true_eq] at hb
    rcases hb with z | z
    ·rw [z];exact s1.free hn
    ·exact s1.free (has b z).1
   ·rw [Bool.or_eq_true,decide_eq_true_eq,decide_eq_true_eq] at hb
    rcases hb with z | z
    ·rw [z,hp1];trivial
    ·rw [(has b z).2];trivial
   ·have hbm:b∈as:=mem_of_getElem? q1
    have hes:es=[]:=by
     have:=mem_of_getElem? q2;exact (mem_replicate.mp this).2
    subst hes;exact ⟨by simp [hbm],zero_le _,[],(has b hbm).2,Vl⟩
  ·exact q.elim
 ·exact q.elim
end
section
variable {X:Cx} {m:Bool}
end
section
variable {prog:Program} {w:World} {A:Around} {E:Value->Shared->Prop} {s:Shared} {z TI TO i1 i2:Addr} {f1 f2:List Addr} {n i:Nat} {P1 P2:Nat->Value->Prop} {S1 S2:Nat->Heap->Prop} {a b:Value}
end
section
variable {st m:Bool} {X:Cx} {l1 l2:Expr} {es:List Expr} {fs:Ev->Option (List Dat)} {tk:Nat} {tpos:Pos}
end
section
variable {prog:Program} {w:World} {A:Around} {E:Value->Shared->Prop} {s:Shared}
theorem Pe {l:Addr} {vs:List Value} {Q:List Value->Shared->Prop} (hl:s.heap.IsTuple l vs.toArray)
  (h:Q vs { s with heap:=(s.heap.push (seqObj "list" #[] 0)).update s.heap.objs.size (Obj.mapSeq (·++vs.toArray)) }) (hsz:vs.length<=sizeLine) :
  wpAny (model prog w) A (collect (.ref l)) Q E s:=by
 obtain ⟨o,ho,hc,n,hd⟩:=id hl;unfold collect;refine wpAny_bind (wpAny_runValue (codeAny_builtin entry_proto_collect' ?_));show wpAny _ _ (do again (.builtin "list.__iadd__" ⟨[← newList [],.ref l],[]⟩)) _ _ s;refine wpAny_bind (wpAny_newList (wpAny_pure ⟨Code.quiet_builtin _ (by decide +kernel),codeAny_builtin entry_list_iadd' ?_⟩));show wpAny _ _ (Builtin.List.listExtendWith (.ref s.heap.objs.size) (.ref l) (.ref s.heap.objs.size)) _ _ { s with heap:=s.heap.push (seqObj "list" #[] 0) };unfold Builtin.List.listExtendWith;have ho':(s.heap.push (seqObj "list" #[] 0)).get? l=some o:=get?_push_of_some _ ho;refine wpAny_bind (wpAny_typeOf (T:="tuple") ⟨o,ho',hc⟩ ?_);have ht:(Value.type "tuple" == Value.type "tuple")=true:=by rfl
 rw [if_pos (by rw [ht];simp)];refine wpAny_bind (listItems_at ho' hd ?_);refine wpAny_bind (listItems_at (xs:=#[]) (n:=0) (get?_push_size _ rfl) rfl ?_);rw [if_neg (by simp)];refine wpAny_bind (listUpdate_at (xs:=#[]) (n:=0) (get?_push_size _ rfl) rfl ?_ (zero_le _) (by show (#[]++vs.toArray).size<=sizeLine+1;simp only [Array.size_append,size_toArray,length_nil];lia));refine wpAny_pure ?_;show wpAny (model prog w) A (do
   let o ← load s.heap.objs.size
   match o.data with
   | .seq xs _=>pure xs.toList
   | _=>unsupported "internal:collect") Q E { s with heap:=(s.heap.push (seqObj "list" #[] 0)).update s.heap.objs.size (Obj.mapSeq (·++vs.toArray)) }
 refine wpAny_bind (wpAny_load (get?_update_seq (get?_push_size _ rfl) _) ?_);show wpAny _ _ (pure ((#[]:Array Value)++vs.toArray).toList) Q E _;rw [show ((#[]:Array Value)++vs.toArray).toList=vs by simp];exact wpAny_pure h
theorem Xj {l:Addr} {vs:List Value} {ns:List Int} {Q:Value->Shared->Prop} (hl:s.heap.IsTuple l vs.toArray) (hI:IntsAre vs ns) (h64:vs.length<64)
  (h:∀ (out:Array Value) (ns':List Int),IntsAre out.toList ns'->ns'.Perm ns->ns'.Pairwise (·<=·)->Q (.ref (s.heap.objs.size+1)) { s with heap:=sortedAll s.heap vs out }) :
  wpAny (model prog w) A (call (.builtin "sorted") [.ref l]) Q E s:=by
 refine Calls.call_function_entry kind_sorted plain_sorted entry_sorted (args_sorted1 _) ?_;unfold Builtin.«sorted»;refine wpAny_bind (m:=checkCount "sorted" 1 1 _) (wpAny_pure ?_);refine wpAny_bind (Pe hl ?_ (by rw [sizeLine_eq];lia));refine wpAny_bind (wpAny_newList ?_);have hsz:((s.heap.push (seqObj "list" #[] 0)).update s.heap.objs.size (Obj.mapSeq (·++vs.toArray))).objs.size=s.heap.objs.size+1:=by
  rw [size_update,size_push']
 have hoL:(((s.heap.push (seqObj "list" #[] 0)).update s.heap.objs.size (Obj.mapSeq (·++vs.toArray))).push (seqObj "list" vs.toArray 0)).get? (s.heap.objs.size+1)=some (seqObj "list" vs.toArray 0):=by
  rw [← hsz];exact get?_push_size _ rfl
 show wpAny _ _ _ _ _ { s with heap:=((s.heap.push (seqObj "list" #[] 0)).update s.heap.objs.size (Obj.mapSeq (·++vs.toArray))).push (seqObj "list" vs.toArray 0) };rw [hsz];refine wpAny_bind (wpAny_holding (wpAny_call_entry slot_list_sort ⟨_,hoL,rfl⟩ entry_list_sort (list_sort_tree hoL hI h64 fun out ns' a1 a2 a3=>⟨_,rfl,?_⟩) (args_list_sort _)));exact wpAny_pure ⟨_,rfl,h out ns' a1 a2 a3⟩
end
section
variable {X:Cx}
def Z0x (K:PySem.W.Frag):List V->Hp->VK->Prop:=fun xs H Q=>∃ p ns,xs=[.ref p]/\Mv K H p (ns.map V.int)/\ns.length<64 /\
 ∀ (ms:List Int) (l:Addr),ms.Perm ns->ms.Pairwise (·<=·)->H l=none->Q (.ref l) (W6 H l (.lst (ms.map V.int)))
theorem Nx:Wn X (.builtin "sorted") (Z0x X.K):=by
 intro pins s σ H xs us Q I r h;obtain ⟨p,ns,rfl,hq,h64,q⟩:=h;obtain ⟨u,rfl,rx⟩:=Q7 r;cases rx;obtain ⟨its,r',pl,hz⟩:=I.tuple hq;have hlen:=r'.length;rw [length_map] at hlen;refine Xj (show s.heap.IsTuple p its.toArray from pl) (Jk r') (by lia) fun out ms h1 h2 h3=>?_
 obtain ⟨e,he⟩:=sortedAll_at s.heap its out;have hl:ms.length=ns.length:=h2.length_eq;refine ⟨.ref (s.heap.objs.size+1),W6 H (s.heap.objs.size+1) (.lst (ms.map V.int)),I.laid (t':=s.toks) (fun b o q=>sortedAll_old q) (le_succ _) ?_,rfl,q ms _ h2 h3 (I.hok.fresh (le_succ _))⟩;refine ⟨by rw [length_map] at hz ⊢;lia,out.toList,e,Dk h1,?_⟩;rw [he]
def Qv:List Dat->Option (List Dat)
 | [.lst xs]=>(Tl xs).bind fun ns=>if ns.length<64 then some ((Dm ns).map .int) else none
 | [.tup xs]=>(Tl xs).bind fun ns=>if ns.length<64 then some ((Dm ns).map .int) else none
 | _=>none
theorem R5:Z6i X (.builtin "sorted") Qv:=(N4.or Nx).weak fun vs H Q zz=>by
 obtain ⟨A,ds,d,mu,e,p,q⟩:=zz;unfold Qv at e;split at e
 ·rename_i xs
  obtain ⟨v,e1,p1⟩:=p.one;obtain ⟨l,us,e2,h1,r1⟩:=p1.lst;obtain ⟨ns,hn,e⟩:=bind_some e;split at e
  ·rename_i h64
   cases e;rw [Td hn] at r1;have eu:=Wf r1;subst eu;refine .inl ⟨l,ns,by rw [e1,e2],h1.sq,h64,fun ms l' hp hs hl=>?_⟩;rw [Qw (hp.trans (Ut ns).symm) hs (Dh ns)];have h0:(64:Nat)<=sizeLine:=by decide
   exact q.at (by rw [length_map,(Ut ns).length_eq];lia) (D8 _) l' hl
  ·cases e
 ·rename_i xs
  obtain ⟨v,e1,p1⟩:=p.one;obtain ⟨l,us,e2,h1,r1⟩:=p1.tup;obtain ⟨ns,hn,e⟩:=bind_some e;split at e
  ·rename_i h64
   cases e;rw [Td hn] at r1;have eu:=Wf r1;subst eu;refine .inr ⟨l,ns,by rw [e1,e2],h1,h64,fun ms l' hp hs hl=>?_⟩;rw [Qw (hp.trans (Ut ns).symm) hs (Dh ns)];have h0:(64:Nat)<=sizeLine:=by decide
   exact q.at (by rw [length_map,(Ut ns).length_eq];lia) (D8 _) l' hl
  ·cases e
 ·cases e
end
section
variable {prog:Program} {w:World} {A:Around} {E:Value->Shared->Prop} {s:Shared}
open HT in
theorem Rl {t sl:Addr} {items:Array Value} {vl vu:Value} {lo hi:Option Int} {Q:Value->Shared->Prop} (ht:IsTup s.heap t items) (hs:s.heap.IsSliceOf sl vl vu .none) (pl:IsPart vl lo) (pu:IsPart vu hi)
  (hw:(sIx items.size 0 lo=0/\sIx items.size items.size hi=items.size))
  (h:Q (.ref t) s)
  (hsz:items.size<=sizeLine):wpAny (model prog w) A (getItem (.ref t) (.ref sl)) Q E s:=by
 obtain ⟨os,hos,hcs,hds⟩:=id hs;have hTs:s.TypeIs (.ref sl) "slice" := ⟨os,hos,hcs⟩;unfold getItem;try with_reducible refine wpAny_holding ?_
 first | refine wpAny_bind (wpAny_pure ?_) | skip
 refine wpAny_bind (wpAny_sequenceKey ht.typeIs (by decide) ?_);refine wpAny_bind (wpAny_callSpecial?_slot (name:=Str.ofString "__getitem__") ht.typeIs PyProof.Rows.slot_tuple_getitem
  (wpAny_call_entry PyProof.Rows.slot_tuple_getitem ht.typeIs entry_tuple_getitem ?_ (args_tuple_getitem _ _)))
 show wpAny _ _ (Builtin.Tuple.tupleItemsOf (.ref t) >>= _) _ _ s;refine wpAny_bind (tupleItemsOf_ ht ?_);refine wpAny_bind (wpAny_typeOf hTs ?_);rw [if_pos (by decide)];refine wpAny_bind (Jc hs pl pu ?_);have hyes:(((sIx items.size 0 lo:Nat):Int)==0&&(1:Int)==1&&(sIx items.size items.size hi - sIx items.size 0 lo)==items.size)=true:=by
  rw [hw.1,hw.2];simp
 show wpAny _ _ (if (((sIx items.size 0 lo:Nat):Int)==0&&(1:Int)==1&&(sIx items.size items.size hi - sIx items.size 0 lo)==items.size)=true then _ else _) _ _ s;rw [if_pos hyes];unfold Builtin.Tuple.tupleIsExact;refine wpAny_bind (wpAny_bind (wpAny_typeOf ht.typeIs (wpAny_pure ?_)));rw [if_pos (by decide)];exact wpAny_bind (wpAny_rule (wpAny_pure ⟨_,rfl,wpAny_pure h⟩))
end
section
variable {X:Cx}
def Zdz (K:PySem.W.Frag):V->Option Int->Option Int->Hp->VK->Prop:=fun x lo hi H Q=>∃ a xs,x=.ref a/\Mv K H a xs /\
 (HT.sIx xs.length 0 lo=0/\HT.sIx xs.length xs.length hi=xs.length)/\Q (.ref a) H
theorem Z28:Fw X (Zdz X.K):=by
 intro pins s σ H x v vl vu lo hi sl Q I rx hs pl pu h;obtain ⟨a,xs,rfl,hx,hw,q⟩:=h;cases rx;obtain ⟨its,r,ht,hz⟩:=I.tuple hx;have hlen:its.toArray.size=xs.length:=by rw [size_toArray];exact r.length.symm
 refine ⟨"tuple",_,PyProof.Rows.slot_tuple_getitem.lookup,ht.typeIs,?_⟩;exact Rl ht hs pl pu (by rw [hlen];exact hw) ⟨.ref a,H,I,rfl,q⟩ (by rw [hlen];exact hz)
def Kh:Dat->Option Int->Option Int->Option Dat
 | .lst xs,lo,hi=>some (.lst (Ue xs lo hi))
 | .str z,lo,hi=>some (.str (Txt.slice z lo hi))
 | .tup xs,lo,hi=>some (.tup (Ue xs lo hi))
 | _,_,_=>none
theorem Mi:SlD X Kh:=(Zcx.or Z28).weak fun v lo hi H Q zz=>by
 obtain ⟨A,x,d,mu,e,p1,q⟩:=zz;unfold Kh at e;split at e
 ·exact .inl ⟨A,.lst _,d,mu,e,p1,q⟩
 ·exact .inl ⟨A,.str _,d,mu,e,p1,q⟩
 ·rename_i xs
  by_cases hw:HT.sIx xs.length 0 lo=0/\HT.sIx xs.length xs.length hi=xs.length
  ·obtain ⟨l,vs,e1,h1,r1⟩:=p1.tup
   cases e;have ec:Ue xs lo hi=xs:=by unfold Ue;rw [hw.1,hw.2];simp
   rw [ec] at q;exact .inr ⟨l,vs,e1,h1,by rw [Zv r1];exact hw,by rw [← e1];exact q.here (by rcases p1 with h | ⟨_,_,_,e9,_⟩ | ⟨_,_,_,e9,_⟩ | ⟨_,_,e9,_⟩;exact h;cases e9;cases e9;cases e9)⟩
  ·exact .inl ⟨A,.tup xs,d,mu,by show (if _ then none else _)=_;rw [if_neg hw];exact e,p1,q⟩
 ·cases e
end
section
variable {P:Program} {w:World} {A:Around} {E:Value->Shared->Prop} {s:Shared}
end
section
variable {X:Cx} {e:Expr} {fs:Ev->Option (List Dat)}
end
section
variable {prog:Program} {w:World} {A:Around} {E:Value->Shared->Prop} {s:Shared}
theorem M1 {h h':Heap} {t:Addr} {xs:Array Value} (q:h.IsList t xs) (e:∀ o,h.get? t=some o->h'.get? t=some o):h'.IsList t xs:=by
 obtain ⟨o,ho,r⟩:=q;exact ⟨o,e o ho,r⟩
theorem Kt {it t:Addr} {items:Array Value} (hne:t≠it):∀ (n i:Nat) (s:Shared) (Q:List Value->Shared->Prop),s.heap.IsListIter it t i->s.heap.IsList t items->i+n<=items.size ->
  (∀ h',h'.IsListIter it t (i+n)->SameBut it s.heap h'->Q ((items.toList.drop i).take n) { s with heap:=h' })->wpAny (model prog w) A (draw (.ref it) n) Q E s
 | 0,i,s,Q,hit,_,_,hQ=>by
  show wpAny _ _ (pure []) Q E s;exact wpAny_pure (by simpa using hQ s.heap hit (SameBut.refl ..))
 | n+1,i,s,Q,hit,ht,hle,hQ=>by
  have hlt:i<items.size:=by lia
  show wpAny _ _ (pyNext (.ref it) >>= _) Q E s;refine wpAny_bind (wpAny_pyNext_list_item hit ht (x:=items[i]) (by simp [hlt]) fun h₁ hit₁ hs₁=>?_);refine wpAny_bind (wpAny_holding (Kt hne n (i+1) _ _ hit₁ (M1 ht fun o e=>hs₁.extBut _ _ hne e) (by lia) fun h₂ hit₂ hs₂=>wpAny_pure ?_));have hd:items.toList.drop i=items[i]::items.toList.drop (i+1):=by simp [List.drop_eq_getElem_cons,hlt]
  have:=hQ h₂ (by rw [show i+(n+1)=i+1+n by lia];exact hit₂) (hs₁.trans hs₂);rw [hd,take_succ_cons] at this;exact this
theorem E8 {t:Addr} {items:Array Value} {Q:List Value->Shared->Prop} (hh:A.handled=none) (ht:s.heap.IsList t items)
  (hQ:∀ h',ExtBut s.heap.objs.size s.heap h'->Q items.toList { s with heap:=h' }):wpAny (model prog w) A (unpackItems (.ref t) items.size none) Q E s:=by
 have hlt:t≠s.heap.objs.size:=by obtain ⟨o,ho,_⟩:=ht;exact ne_of_lt (lt_size ho)
 unfold unpackItems;refine wpAny_bind ?_
 ·unfold notIterableAtAll
  refine wpAny_bind (wpAny_specialOf ht.typeIs slot_list_iter.lookup ?_);refine wpAny_pure ?_;simp only [Bool.false_eq_true,if_false];refine wpAny_bind (wpAny_holding (wpAny_pyIter_list ht ?_));refine wpAny_bind (wpAny_holding (Kt hlt items.size 0 _ _ ⟨_,get?_push_size _ rfl,rfl,rfl⟩ (M1 ht fun o e=>get?_push_of_some _ e) (by lia) fun h₁ hit₁ hs₁=>?_));have hall:List.take items.size (List.drop 0 items.toList)=items.toList:=by
   rw [drop_zero];exact take_of_length_le (by simp)
  rw [hall];rw [if_neg (by simp)];have ht₁:Heap.IsList h₁ t items:=M1 (M1 ht fun o e=>get?_push_of_some _ e) fun o e=>hs₁.extBut _ _ hlt e
  refine wpAny_bind (wpAny_holding (wpAny_pyNext_list_end hh hit₁ ht₁ (by simp) fun h₂ he₂=>?_));simp only [Option.isSome_none,Bool.false_eq_true,if_false];refine wpAny_pure (hQ h₂ fun b o hb e=>he₂ b o hb (hs₁.extBut b o hb (get?_push_of_some _ e)))
theorem Sl {env:Env} {elts:List Expr} {x1} {pos:Pos} {t:Addr} {items:Array Value} {Q:Unit->Shared->Prop} (hh:A.handled=none) (ht:s.heap.IsList t items)
  (hn:(assignEach elts env).length=items.size) (hstar:(assignEach elts env).findIdx? (·.1)=none)
  (h:∀ h',ExtBut s.heap.objs.size s.heap h'->wpAny (model prog w) A (assignInOrder ((assignEach elts env).map (·.2)) items.toList) Q E { s with heap:=h' }) :
  wpAny (model prog w) A (assign (.Tuple elts x1 pos) env (.ref t)) Q E s:=by
 rw [assign_Tuple];refine wpAny_bind (wpAny_standAt ?_);unfold unpack;rw [hn,hstar];exact wpAny_bind (wpAny_holding (E8 hh ht h))
end
section
variable {X:Cx} {pos:Pos}
def Zdk (K:PySem.W.Frag) (n:Nat) (t:TGs):TG:=fun v σ H Q=>∃ a xs,v=.ref a/\R1 K H a xs/\xs.length=n/\t xs σ H Q
theorem Z7g {es:List Expr} {k:Nat} {t:TGs} {n:Nat} (hc:X.calm=true) (h:PGs X es t)
  (hn:(assignEach es X.env).length=n:=by rfl) (hst:(assignEach es X.env).findIdx? (·.1)=none:=by rfl):PG X (.Tuple es k pos) (fun v σ H Q=>Zbo X.K n t v σ H Q\/Zdk X.K n t v σ H Q):=by
 intro pins s σ H v u Q I r hw;rcases hw with hw | hw
 ·exact Z7j hc h hn hst pins s σ H v u Q I r hw
 obtain ⟨a,xs,e1,hq,hl,hw⟩:=hw;subst e1;cases r;obtain ⟨its,rv,pl,hz⟩:=I.list hq;refine Sl (I.ok.hd hc) pl.isList (by simp [hn,← hl,rv.length]) hst fun h' hx=>?_
 have I1:Inv X pins σ H { s with heap:=h' }:=I.kept (t':=s.toks) fun b o e=>hx b o (ne_of_lt (lt_size e)) e
 exact h pins _ σ H xs _ Q I1 (by simpa using rv) hw
def Ki (n:Nat) (gs:List Dat->Ev->Option Ev):Dat->Ev->Option Ev:=fun d env=>match d with
 | .tup ds=>if ds.length=n then gs ds env else none
 | .lst ds=>if ds.length=n then gs ds env else none
 | _=>none
theorem Ei {es:List Expr} {k:Nat} {is:List Nat} {gs:List Dat->Ev->Option Ev} {n:Nat} (hc:X.calm=true) (h:Z4k is X es gs)
  (hn:(assignEach es X.env).length=n:=by rfl) (hst:(assignEach es X.env).findIdx? (·.1)=none:=by rfl):PGd is X (.Tuple es k pos) (Ki n gs):=(Z7g hc h hn hst).weak fun v σ H Q zz=>by
 obtain ⟨env,R,A,d,env',k,r,e,q⟩:=zz;unfold Ki at e;split at e
 ·rename_i ds
  split at e
  ·rename_i hl
   obtain ⟨a,vs,ev,h1,r1⟩:=Jl r;exact .inl ⟨a,vs,ev,Yy.seqT h1,by rw [Zv r1];exact hl,env,R,A,ds,env',k,r1,e,q⟩
  ·cases e
 ·rename_i ds
  split at e
  ·rename_i hl
   obtain ⟨a,vs,ev,h1,r1⟩:=Mj r;exact .inr ⟨a,vs,ev,(Yy.sl h1).sq,by rw [Zv r1];exact hl,env,R,A,ds,env',k,r1,e,q⟩
  ·cases e
 ·cases e
end
section
variable {P:Program} {w:World} {A:Around} {E:Value->Shared->Prop} {s:Shared}
end
section
variable {X:Cx} {e:Expr} {fs:Ev->Option (List Dat)}
end
def Ot:Dat->Option (List Wg)
 | .tup [.int a,.int b]=>some [.inl a,.inl b]
 | _=>none
theorem Ra {K:PySem.W.Frag} {A:AS} {H:Hp} {d:Dat} {v:V} {ks:List Wg} (e:Ot d=some ks) (r:Pk K A H d v):∃ p,v=.ref p/\H p=some (.tup (ks.map kV)):=by
 unfold Ot at e;split at e
 ·rename_i a b
  cases e;obtain ⟨p,vs,e1,h1,r1⟩:=r.tup;have ev:vs=[.int a,.int b]:=Wf (ns:=[a,b]) r1;subst ev;rcases h1 with h1 | ⟨_,_,_,_,_,_,_,_,h2⟩
  ·exact ⟨p,e1,h1⟩
  ·exact absurd mem_cons_self (h2 a)
 ·cases e
def Rv (kvs:List (List Wg×Dat)) (ks:List Wg):Bool:=(kvs.map (·.1)).any fun x=>decide (x=ks)
theorem P0 {us:List (List Wg×V)} {k:List Wg}:(Jb us k).isSome=(us.map (·.1)).any fun x=>decide (x=k):=by
 rw [any_map,← Sk];congr 1
section
variable {X:Cx} {pos:Pos} {e:Expr} {f g:Ev->Option Dat} {m fr:Bool}
def Z22 (neg:Bool) (i:Nat) (f:Ev->Option Dat):Ev->Option Dat:=fun env=>match env[i]?,f env with
 | some (.gx (.dict kvs)),some d=>(Ot d).map fun ks=>.bl (if neg then !Rv kvs ks else Rv kvs ks)
 | _,_=>none
theorem EnvOk.dictA {K:PySem.W.Frag} {B:Bs} {A:AS} {H:Hp} {σ:St} {env:Ev} {i:Nat} {kvs:List (List Wg×Dat)} (k:EnvOk K B A H σ env) (h:env[i]?=some (.gx (.dict kvs))) :
  ∃ (a:Addr) (us:List (List Wg×V)),σ[i]?=some (some (.ref a))/\H a=some (.dT us)/\us.map (·.1)=kvs.map (·.1):=by
 obtain ⟨own,h1,h2,h4⟩:=k.sl;obtain ⟨x,q1,v,e1,a,us,e2,e3,e4,e5,e6,e7⟩:=h4 i _ h;subst e1 e2;exact ⟨a,us,q1,e5,e6⟩
def S4 (i:Nat) (fk fv:Ev->Option Dat):Ev->Fl:=fun env=>match env[i]?,fv env,fk env with
 | some (.gx (.dict kvs)),some d,some y=>match Ot y with
  | some ks=>if Rv kvs ks=false/\kvs.length<sizeLine then .next (env.set i (.gx (.dict (kvs++[(ks,d)])))) else .no
  | none=>.no
 | _,_,_=>.no
theorem Z2o (i:Nat) {x:Str} {ix:Expr} {p pos':Pos} (hu:X.A.units+1<cLine) (ha:W4 true X ix f) (hb:W4 false X e g)
  (hN:X.N[i]?=some x:=by rfl) (hv:Vis X.env.scope x:=by first | exact Or.inl rfl | exact Or.inr (Or.inl rfl) | exact Or.inr (Or.inr rfl)) (hd:(x==("__debug__" : Str))=false:=by decide) (hcd:(x==("__classdict__" : Str))=false:=by decide)
  (hs:swapsWith e (some (.Subscript (.Name x p) ix pos')) pos.line X.env=pure false:=by rfl) :
  Sb fr X (.Assign [.Subscript (.Name x p) ix pos'] e pos) (S4 i f g):=(Z4z hu (Jy hN hv hd hcd) ha hb hs).weak fun D σ H zz=>by
 obtain ⟨env,B,A,k,hst,q⟩:=zz;unfold S4 at q;split at q
 ·rename_i kvs d y h1 h2 h3
  split at q
  ·rename_i ks hk
   split at q
   ·rename_i hc
    obtain ⟨a,us,s1,s2,s3⟩:=k.dictA h1;refine ⟨env,B,A,d,k,h2,fun v H1 sm1 r1=>⟨.ref a,s1,env,B,A,y,k.mono sm1,h3,fun u H2 sm2 r2=>?_⟩⟩;obtain ⟨b,e4,e5⟩:=Ra hk r2.pk;subst e4;have sm:=sm1.trans sm2;have k3:=k.mono sm;obtain ⟨v0,o,m1,m2,m3,m4⟩:=k3.gx hst h1;rw [s1] at m1;cases m1;obtain ⟨a',us',z1,z2,z3,z4,z5,z6⟩:=m2;cases z1;have eus:us'=us:=by
     have:=sm _ _ s2;rw [z4] at this;exact HO.dT.inj (Option.some.inj this)
    subst eus;have hno:Jb us' ks=none:=by
     have:=P0 (us:=us') (k:=ks);rw [s3] at this;have h9:Rv kvs ks=false:=hc.1;unfold Rv at h9;rw [h9] at this;cases h8:Jb us' ks with
     | none=>rfl
     | some _=>rw [h8] at this;cases this
    have hul:us'.length=kvs.length:=by have:=congrArg List.length s3;rwa [length_map,length_map] at this
    have ep:Sy us' ks v=us'++[(ks,v)]:=Z3g v hno;refine ⟨a,W6 H2 a (.dT (us'++[(ks,v)])),rfl,by rw [← ep];exact Z2g.t (sm _ _ s2) e5 (by rw [hul];exact hc.2),?_⟩;have hA:A a=true:=(m3 a z2).1;have avs:Zp (av H2 A) (av (W6 H2 a (.dT (us'++[(ks,v)]))) A):=fun c o2 ec=>by
     obtain ⟨y1,y2⟩:=Tn ec;have hc:c≠a:=by intro z;rw [z,hA] at y1;cases y1
     exact Wx (by rw [Zj hc];exact y2) y1
    have hg:GOk X.K A (W6 H2 a (.dT (us'++[(ks,v)]))) o (.dict (kvs++[(ks,d)])) (.ref a):=by
     refine ⟨a,us'++[(ks,v)],rfl,z2,by rw [length_append];exact hc.2,Zt,by rw [map_append,map_append,s3];rfl,?_⟩;rw [map_append,map_append];exact Ww (z6.mono avs) (Qr ((Rp.mono (V6 sm2) (show Rp X.K (av H1 A) d v from r1)).mono avs))
    obtain ⟨w1,w2⟩:=m4 a (.dT (us'++[(ks,v)])) _ z2 trivial hg;exact q A _ σ ((Step.same sm).trans w1) w2
   ·exact q.elim
  ·exact q.elim
 ·exact q.elim
def Z95 (tk tv:TE):TE:=fun σ H Q=>∀ p,H p=none->tk σ (W6 H p (.dT [])) fun y H1=>tv σ H1 fun x H2=>H2 p=some (.dT [])/\∃ ks b,y=.ref b/\H2 b=some (.tup (ks.map kV))/\Q (.ref p) (W6 H2 p (.dT [(ks,x)]))
theorem Xm {prog:Program} {w:World} {A:Around} {E:Value->Shared->Prop} {s:Shared} {env:Env} {K:Type} [DecidableEq K] {knd:HeapKind prog w K} {k v:Expr} {pos:Pos} {Q:Value->Shared->Prop}
  (h:wpAny (model prog w) A (evalPairs (pairTrees [some k] [v] env pos)) (fun vs s₁=>∃ b x ks,vs=[(.ref b,x)]/\knd.room A/\knd.is s₁.heap ks b/\s₁.heap.DictOfH knd s.heap.objs.size [] /\
   ∀ h',h'.DictOfH knd s.heap.objs.size (storedH [] ks b x)->SameBut s.heap.objs.size s₁.heap h'->Q (.ref s.heap.objs.size) { s₁ with heap:=h',toks:=s₁.toks+knd.draws ks }) E
   { s with heap:=s.heap.push { cls:=.type "dict",data:=.dict #[] } }) :
  wpAny (model prog w) A (eval (.Dict [some k] [v] pos) env) Q E s:=by
 rw [arm_eval_Dict,zip_pairTrees [some k] [v] env pos rfl rfl,dictDisplay_pairs (pairTrees [some k] [v] env pos) (by simp [pairTrees]) (by simp [pairTrees])];refine wpAny_bind (wpAny_standAt (wpAny_bind ?_));unfold subDict;refine wpAny_bind (wpAny_alloc ?_);refine wpAny_bind (wpAny_holding ?_);rw [if_pos (by simp [pairTrees])];refine wpAny_bind (wpAny_mono h (fun vs s₁ h₁=>?_) fun _ _ e=>e);obtain ⟨b,x,ks,rfl,hr,hk,hm,hq⟩:=h₁;refine wpAny_holding ?_;rw [List.forIn_cons];refine wpAny_bind (wpAny_bind (wpAny_bind (wpAny_dictSet_heap hr hk hm (fun h' a c=>wpAny_pure ?_) (zero_le _))));show wpAny _ _ (forIn ([]:List (Value×Value)) PUnit.unit _) _ _ _;rw [List.forIn_nil];exact wpAny_pure (wpAny_pure (wpAny_pure (wpAny_pure (hq h' a c))))
theorem Z0y {k v:Expr} {tk tv:TE} (hu:X.A.units+1<cLine) (hk:PE X k tk) (hv:PE X v tv):PE X (.Dict [some k] [v] pos) (Z95 tk tv):=by
 intro pins s σ H Q I q;have hn:=I.hok.fresh (le_refl s.heap.objs.size);have I1:=I.laid (a:=s.heap.objs.size) (o:=.dT []) (h':=s.heap.push { cls:=.type "dict",data:=.dict #[] }) (t':=s.toks) (fun _ _ q=>get?_push_of_some _ q) (le_refl _) (Pc s.heap I.big);refine Xm (knd:=tupleKind (Wu X.prog X.w)) (pairTrees_cons_walk (Wh (hk pins _ σ _ _ I1 (q _ hn)) fun u s1 ⟨y,H1,I2,ry,q1⟩=>Wh (hv pins s1 σ H1 _ I2 q1) fun u2 s2 ⟨x,H2,I3,rx,q2⟩=>pairTrees_nil_walk ?_));obtain ⟨hp,ks,b,ey,eb,q3⟩:=q2;subst ey;cases (show u=Value.ref b from ry);obtain ⟨z,hd,xs,rel,dd⟩:=Z1v I3.hok hp;cases rel;refine ⟨b,u2,ks,rfl,(show X.A.units<cLine by lia),Dw I3.hok eb,dd,fun h' dd' hs=>⟨.ref s.heap.objs.size,_,?_,rfl,q3⟩⟩;obtain ⟨q,es,ep,hq,h2,h3,h4,_,h5⟩:=dd';have r1:=(KT.put (H:=H2) (kvs:=[]) (xs:=[]) .nil ks eb rx);refine Lu I3 (by rw [hp];exact True.intro) hs ⟨q,hq⟩ ⟨by show 1<=sizeLine;decide,hd,_,r1.keeps fun c ys ec=>?_,q,es,ep,hq,h2,h3,h4,h5⟩;rw [Zj (Z6d ec hp (fun z=>nomatch z))];exact ec
def Oe (i:Nat) (fk fv:Ev->Option Dat):Ev->Fl:=fun env=>match fk env,fv env with
 | some y,some (.bl d)=>match Ot y with
  | some ks=>.next (env.set i (.gx (.dict [(ks,.bl d)])))
  | none=>.no
 | _,_=>.no
theorem Za0 (i:Nat) {x:Str} {kx:Expr} {pos' dpos:Pos} (hN:X.N.Nodup) (hi:X.N[i]?=some x) (hx:Fj X.env.scope x) (hu:X.A.units+1<cLine) (ha:W4 true X kx f) (hb:W4 false X e g)
  (hs:swapsWith (.Dict [some kx] [e] dpos) (some (.Name x pos')) pos.line X.env=pure false:=by rfl)
  (hf:X.fn x=true\/X.env.scope.names.lookup x=some .local:=by first | exact .inl rfl | exact .inr rfl | assumption) :
  Sb fr X (.Assign [.Name x pos'] (.Dict [some kx] [e] dpos) pos) (Oe i f g):=(K0 hN hi hx (Z0y hu ha hb) hs hf).weak fun D σ H zz=>by
 obtain ⟨env,B,A,k,hst,q⟩:=zz;unfold Oe at q;split at q
 ·rename_i y d h1 h2
  split at q
  ·rename_i ks hk
   intro p hp;have sm0:Zp H (W6 H p (.dT [])):=Zp.new hp;refine ⟨env,B,A,y,k.mono sm0,h1,fun u H1 sm1 r1=>⟨env,B,A,.bl d,(k.mono sm0).mono sm1,h2,fun v H2 sm2 r2=>⟨sm2 _ _ (sm1 _ _ Zt),?_⟩⟩⟩;obtain ⟨b,e4,e5⟩:=Ra hk r1.pk;refine ⟨ks,b,e4,sm2 _ _ e5,?_⟩;have smH:Zp H (W6 H2 p (.dT [(ks,v)])):=fun c o ec=>by
    rw [Zj (fun z=>by rw [z,hp] at ec;cases ec)];exact sm2 _ _ (sm1 _ _ (sm0 _ _ ec))
   have h9:=k.putG hst i (g:=.dict [(ks,.bl d)]) (v:=.ref p) (S:=fun b=>decide (b=p)) smH (fun b hb=>by rw [of_decide_eq_true hb];exact hp) (fun b hb=>by rw [of_decide_eq_true hb,Zt];trivial) ⟨p,[(ks,v)],rfl,by simp,by show 1<=sizeLine;decide,Zt,rfl,Qr ?_⟩
   ·exact q _ _ _ h9.1 h9.2
   ·rw [(show Rp X.K (av H2 A) (.bl d) v from r2) |> Ez];exact Vd
  ·exact q.elim
 ·exact q.elim
end
end L2
namespace L2
open PySem PySem.Spec PyProof.Rows PySem.W
section
variable {X:Cx} {fr:Bool} {g:Ev->Fl} {body:List Stmt} {h₀:ExceptHandler} {hs:List ExceptHandler} {pos:Pos}
variable {e a b c:Expr} {f1 f2 f3:Ev->Option Dat} {F1 F2:Dat->Dat->Option Dat} {m1 m2 m3:Bool}
def Z3l (i:Nat) (f:Ev->Option Dat):Ev->Fl:=fun env=>match env[i]?,f env with
 | some (.fz (.int x)),some (.int y)=>.next (env.set i (.fz (.int (x+y))))
 | _,_=>.no
theorem Zau (i:Nat) {x:Str} {pos':Pos} (hN:X.N.Nodup) (hi:X.N[i]?=some x) (hx:Fj X.env.scope x) (he:W4 m1 X e f1)
  (hf:X.fn x=true\/X.env.scope.names.lookup x=some .local:=by first | exact .inl rfl | exact .inr rfl | assumption):Sb fr X (.AugAssign (.Name x pos') .Add e pos) (Z3l i f1):=(Z7u hN hi hx he Z7t hf).weak fun D σ H zz=>by
 obtain ⟨env,B,A,k,hst,q⟩:=zz;unfold Z3l at q;split at q
 ·rename_i n m h1 h2
  obtain ⟨own,z1,z2,z4⟩:=k.sl;obtain ⟨w,q1,v,e1,e2⟩:=z4 i _ h1;subst e1;have ev:v=.int n:=Mo e2;subst ev;refine ⟨.int n,q1,env,B,A,.int m,k,h2,fun y H1 s1 r1=>?_⟩;refine ⟨n,m,rfl,r1.pk.int,?_⟩;exact q A H1 _ (Step.same s1) ((k.mono s1).put i Yk)
 ·exact q.elim
theorem Zd2 (i:Nat) {x:Str} {p:Pos} (hu:X.A.units+1<cLine) (he:W4 true X e f1) (hN:X.N[i]?=some x:=by rfl) (hv:Vis X.env.scope x:=by first | exact Or.inl rfl | exact Or.inr (Or.inl rfl) | exact Or.inr (Or.inr rfl)) (hd:(x==("__debug__" : Str))=false:=by decide) (hcd:(x==("__classdict__" : Str))=false:=by decide)
  (hm:behindInMarks .In (.Name x p)=false:=by rfl):Aw X (.Compare e [.In] [.Name x p] pos) (dB (Z22 false i f1)):=(Z2v (Z0h hu he (Jy hN hv hd hcd)) hm).weak fun σ H Q zz=>by
 obtain ⟨env,R,A,d,k,e1,q⟩:=zz;have e1:=Sn e1;unfold Z22 at e1;split at e1
 ·rename_i kvs d0 h1 h2
  obtain ⟨ks,hk,e3⟩:=map_some e1;have e4:=Dat.bl.inj e3;subst e4;obtain ⟨a,us,s1,s2,s3⟩:=k.dictA h1;refine ⟨env,R,A,d0,k,h2,fun y H1 sm r1=>⟨.ref a,s1,a,Jb us ks,rfl,?_,_,rfl,?_⟩⟩
  ·obtain ⟨b,e4,e5⟩:=Ra hk r1.pk
   subst e4;exact Du.t (sm _ _ s2) e5
  ·rw [P0,s3]
   exact q H1 sm
 ·cases e1
end
end L2
namespace L2
open PySem PySem.Spec PyProof.Rows
section
variable {prog:Program} {w:World} {κ:Type} [DecidableEq κ] {kd:HeapKind prog w κ} {A:Around} {E:Value->Shared->Prop} {s:Shared}
theorem szH {a:Addr} (hs:(a==sysModules)=false):MeetsIn prog w (Builtin.«dict.__len__» ⟨[.ref a],[]⟩) (fun _ R s=>∃ xs,s.heap.DictOfH kd a xs/\R (.ok (.ret (.int xs.length s.toks))) { s with toks:=s.toks+1 }) :=
 MeetsIn.of_wp fun A R s z=>by
  obtain ⟨xs,⟨o,es,ep,g1,g2,g3,g4,g5,g6⟩,g7⟩:=z;show wpAny _ _ (dictSize a >>= _) _ _ s;unfold dictSize;refine wpAny_bind (wpAny_bind (wpAny_dictEntries g1 g3 (wpAny_pure ?_)));show wpAny _ _ (Builtin.Dict.pendingCount a >>= _) _ _ s;refine wpAny_bind (wpAny_pendingCount_other hs ?_);refine wpAny_ret_mkInt ?_;rw [Nat.add_zero,size_of_entries g4];exact g7
theorem Ze7 {a:Addr} {xs:List (κ×Addr×Value)} {Q:Value->Shared->Prop} (hs:(a==sysModules)=false) (hm:s.heap.DictOfH kd a xs) (hb:(xs.length:Int)<2^63)
  (hq:Q (.int xs.length (s.toks+1)) { s with toks:=s.toks+1+1 }):wpAny (model prog w) A (call (.builtin "len") [.ref a]) Q E s:=by
 refine Calls.call_function_entry kind_len plain_len entry_len (args_len1 _) ?_;unfold Builtin.«len»;refine wpAny_bind (m:=oneArg "len" _) (wpAny_pure (?_));refine wpAny_bind (m:=callSpecial? (.ref a) (Str.ofString "__len__")) (wpAny_callSpecial?_slot (name:=Str.ofString "__len__") hm.typeIs PySem.F.slot_dict_len (call_meetsIn PySem.F.slot_dict_len hm.typeIs PySem.F.entry_dict_len (PySem.F.args_dict_len_1 _) (szH (kd:=kd) hs) ⟨xs,hm,?_⟩));show wpAny _ _ _ _ _ { s with toks:=s.toks+1 };refine wpAny_bind (wpAny_holding (wpAny_pure (?_)));refine wpAny_bind (wpAny_letGo (?_));show wpAny _ _ (if ((xs.length:Nat):Int)<0 then _ else _) _ _ _;rw [if_neg (by lia)];show wpAny _ _ (if ((xs.length:Nat):Int)≥2^63 then _ else _) _ _ _;rw [if_neg (by lia)];exact wpAny_bind (wpAny_mkInt (wpAny_pure ⟨_,rfl,hq⟩))
end
theorem KT.len {H:Hp} {kvs:List (List Wg×V)} {xs:List (List Wg×Addr×Value)} (h:KT H kvs xs):kvs.length=xs.length:=by
 induction h with
 | nil=>rfl
 | cons _ _ ih=>simp [ih]
section
variable {X:Cx} {pos:Pos} {m fr fr':Bool} {F:List Dat->Rs} {k:Nat} {ps:List Str} {e:Expr} {es:List Expr} {fs:Ev->Option (List Dat)} {p:Pos}
theorem Bu:Wn X (.builtin "len") (fun xs H Q=>∃ a kvs,xs=[V.ref a]/\H a=some (.dT kvs)/\Q (.int kvs.length) H):=by
 intro pins s σ H xs us Q I r h;obtain ⟨a,kvs,rfl,ha,q⟩:=h;obtain ⟨u,rfl,ru⟩:=Q7 r;cases ru;obtain ⟨z,hd,ys,rel,dd⟩:=Z1v I.hok ha;refine Ze7 hd dd (by rw [← KT.len rel];rw [sizeLine_eq] at z;lia) ?_;rw [← KT.len rel];exact ⟨.int kvs.length,H,I.tok _,⟨_,rfl⟩,q⟩
end
end L2
namespace L2
open PySem PySem.Spec PyProof.Rows PySem.W
abbrev Cx.pls (X:Cx) (b:Bool):Cx:={ X with pl:=b }
section
variable {X:Cx} {b:Bool} {pins:List (Addr×Obj)} {σ:St} {H:Hp} {s:Shared}
theorem Inv.pls (I:Inv X pins σ H s):Inv (X.pls b) pins σ H s :=
 ⟨⟨I.ok.mod,I.ok.kind,I.ok.glob,I.ok.blt,I.ok.above,I.ok.inj,I.ok.has,I.ok.cab,I.ok.hd,I.ok.frames,I.ok.stk,I.ok.exf,I.ok.bs,I.ok.bsz,I.ok.noex,I.ok.exfs,I.ok.funs,I.ok.frf⟩,I.os,I.bare,I.base,I.loc,I.cell,I.free,I.freeC,I.pin,I.hok,I.len⟩
theorem Inv.unpls (I:Inv (X.pls b) pins σ H s):Inv X pins σ H s :=
 ⟨⟨I.ok.mod,I.ok.kind,I.ok.glob,I.ok.blt,I.ok.above,I.ok.inj,I.ok.has,I.ok.cab,I.ok.hd,I.ok.frames,I.ok.stk,I.ok.exf,I.ok.bs,I.ok.bsz,I.ok.noex,I.ok.exfs,I.ok.funs,I.ok.frf⟩,I.os,I.bare,I.base,I.loc,I.cell,I.free,I.freeC,I.pin,I.hok,I.len⟩
theorem SP.unpls {D:Ends} {f:Flow} (h:SP (X.pls b) pins D f s):SP X pins D f s:=by
 cases f with
 | next=>obtain ⟨σ',H',I,q⟩:=h;exact ⟨σ',H',I.unpls,q⟩
 | brk=>obtain ⟨σ',H',I,q⟩:=h;exact ⟨σ',H',I.unpls,q⟩
 | cont=>obtain ⟨σ',H',I,q⟩:=h;exact ⟨σ',H',I.unpls,q⟩
 | ret u=>obtain ⟨v,σ',H',I,r,q⟩:=h;exact ⟨v,σ',H',I.unpls,r,q⟩
theorem Ro.unpls {st:List Stmt} {t:TS} (h:Ro (X.pls b) st t):Ro X st t:=fun pins s σ H D I hw =>
 wpAny_mono (h pins s σ H D I.pls hw) (fun _ _ q=>q.unpls) fun _ _ z=>z
end
section
variable {P:Program} {w:World} {K:Frag} {mg:Str->Option Value} {base:Heap}
abbrev cxP (P:Program) (w:World) (K:PySem.W.Frag) (mg:Str->Option Value) (base:Heap) (N:List Str) (qual:Str) (scope:Scope) (f:Addr) (cd:Value) (A:Around) (outer:List Env) (s:Shared) (H:Hp) (E:XK):Cx :=
 (Ts (Ab P w base true) P w K mg base N qual scope f cd A outer s H E).pls true
theorem Z4q {x:Str} {st:Stmt} {N ps:List Str} {k:Nat} {fr:Bool} {g:Ev->Fl} (D:Def K mg x st) (S:FnScope N ps (Z7 st))
  (hbi:∀ (kV doc pm:Value) (an:Option Addr) (cdv ct:Value) (us:List Value),us.length=ps.length->bindArgs (fnOf x x (Wi st) (Y6 st) (Z7 st) .none kV doc pm an cdv ct) ⟨us,[]⟩=pure (ps.zip us))
  (hb:∀ (f:Addr) (cdv:Value) (A:Around) (outer:List Env) (s:Shared) (H:Hp) (E:XK),Room k (A.deeper (envOfC x (Z7 st) s.heap.objs.size f cdv))->Kv fr (cxP P w K mg base N x (Z7 st) f cdv A outer s H E) (Y6 st) g) :
  CalX P w K mg base (k+1) x ps fr (We N.length ps.length g) true:=by
 have hpl:ps.length<=N.length:=by have:=congrArg List.length S.pre;rw [length_take] at this;lia
 obtain ⟨f,fd,F,hm⟩:=D.ex;refine ⟨⟨f,fd,F.okX S (fun vs H Q E h=>h.1) fun cdv A outer s H vs Q E hr ⟨hl,ds,R,mu,r,q⟩=>⟨_,Ro.unpls (hb f cdv A outer s H E hr),?_⟩,hm,F.kp,F.binds hbi⟩,fun ds h=>Lg h⟩;unfold We at q;split at q
 ·rename_i hl
  refine ⟨Th N.length ds,⟨H,R,true⟩,R,Gy mu r (by lia),rfl,?_⟩;split at q
  ·rename_i d' e
   rw [e];exact fun v H' s r n=>q v H' s r n
  ·rename_i env e
   rw [e];exact fun A' H' σ' s k=>q .non H' k.h0 Il (fun _ ds e=>by cases e)
  ·rename_i env c fs e
   rw [e];exact fun A' H' σ' st k pins s' e C dct I hc x hf hnw=>Iw I.unpls x rfl hnw (q C dct H' k.h0 hc (hf.mono (Ux k.ra)))
  ·exact q.elim
 ·exact q.elim
structure CalN (P:Program) (w:World) (K:PySem.W.Frag) (mg:Str->Option Value) (base:Heap) (k:Nat) (x:Str) (ps:List Str) (fr:Bool) (F:List Dat->Rs):Prop where
 ex:∃ f fd,FnOkN P w K mg base Sc k f fd ps (spD K fr ps.length F)/\mg x=some (.ref f)/\PySem.W.keepIn K (.ref f)=true/\Qm K fd ps []
 len:∀ ds d,F ds=.ok d->ds.length=ps.length
theorem Fun.okN {x qual:Str} {st:Stmt} {f:Addr} {fd:FuncData} {N ps:List Str} {k:Nat} {sp:Sp} (F:Fun K x qual st f fd) (S:FnScope N ps (Z7 st)) (len:∀ vs H Q E,sp vs H Q E->vs.length=ps.length)
  (hbody:∀ (cdv:Value) (A:Around) (outer:List Env) (s:Shared) (H:Hp) (vs:List V) (Q:VK) (E:XK),RoomN k (A.deeper (envOfC qual (Z7 st) s.heap.objs.size f cdv))->HdN (Me Sc P w K mg base N qual (Z7 st) f cdv A outer s H E).nox->sp vs H Q E ->
   ∃ t,Ro (Me Sc P w K mg base N qual (Z7 st) f cdv A outer s H E).nox (Y6 st) t/\t { nx:=fun _ H'=>Q .non H',rt:=Q } (start N vs) H):FnOkN P w K mg base Sc (k+1) f fd ps sp:=by
 obtain ⟨oc,od,kV,doc,pm,an,cdv,ct,osl,rfl,lk,hcd⟩:=F.ex;refine Z7b lk hcd S len fun A outer s H vs Q E hr hk hsp=>?_
 obtain ⟨t,h,q⟩:=hbody cdv A outer s H vs Q E hr (HdN.of (X:=(Me Sc P w K mg base N qual (Z7 st) f cdv A outer s H E).nox) hk rfl) hsp;exact ⟨t,h.nox,q⟩
theorem Z96 {x:Str} {st:Stmt} {N ps:List Str} {k:Nat} {fr:Bool} {g:Ev->Fl} (D:Def K mg x st) (S:FnScope N ps (Z7 st))
  (hbi:∀ (kV doc pm:Value) (an:Option Addr) (cdv ct:Value) (us:List Value),us.length=ps.length->bindArgs (fnOf x x (Wi st) (Y6 st) (Z7 st) .none kV doc pm an cdv ct) ⟨us,[]⟩=pure (ps.zip us))
  (hb:∀ (f:Addr) (cdv:Value) (A:Around) (outer:List Env) (s:Shared) (H:Hp) (E:XK),RoomN k (A.deeper (envOfC x (Z7 st) s.heap.objs.size f cdv))->HdN (Me Sc P w K mg base N x (Z7 st) f cdv A outer s H E).nox->Kv fr (Me Sc P w K mg base N x (Z7 st) f cdv A outer s H E).nox (Y6 st) g) :
  CalN P w K mg base (k+1) x ps fr (We N.length ps.length g):=by
 have hpl:ps.length<=N.length:=by have:=congrArg List.length S.pre;rw [length_take] at this;lia
 obtain ⟨f,fd,F,hm⟩:=D.ex;refine ⟨⟨f,fd,F.okN S (fun vs H Q E h=>h.1) fun cdv A outer s H vs Q E hr hh ⟨hl,ds,R,d,mu,r,hF,q⟩=>⟨_,hb f cdv A outer s H E hr hh,?_⟩,hm,F.kp,F.binds hbi⟩,fun ds d h=>Oa h⟩;exact Hy hpl mu r hF q
end
section
variable {X:Cx} {m fr:Bool} {F:List Dat->Rs} {k:Nat} {x:Str} {ps:List Str} {e:Expr} {es:List Expr} {fs:Ev->Option (List Dat)} {p pos:Pos}
theorem Z6b (C:CalN X.prog X.w X.K X.mg X.base k x ps fr F) (hr:RoomN k X.A) (hh:HdC X) (ha:Km false X (e::es) fs) (hg:Gl X x:=by rfl)
  (hdb:(x==("__debug__" : Str))=false:=by decide) (he:starEach (e::es) X.env=(false,eval e X.env)::starEach es X.env:=by rfl) (hpl:(backTo pos (starEach es X.env)).any (·.1)=false:=by rfl) :
  W4 m X (.Call (.Name x p) (e::es) [] pos) (Yu F fs):=by
 obtain ⟨f,fd,Ff,hm,hk,hb⟩:=C.ex;have key:=Z14 (dvs:=[]) (ds:=[]) (E:=E0) Ff hr hh hg hm hk hb .nil Z6c ha hdb he hpl (p:=p);have key':PE X (.Call (.Name x p) (e::es) [] pos) (Zaq (spD X.K fr ps.length F) (fun σ H Q=>∃ env R A ds,EnvOk X.K R A H σ env/\fs env=some ds/\∀ vs H',Zp H H'->X0 false X.K A H' ds vs->Q vs H')):=fun pins s σ H Q I h=>key pins s σ H Q I (by
  unfold Ao;simp only [append_nil];exact h)
 refine W4.any (key'.weak fun σ H Q ⟨env,R,A,d,k,q1,q2⟩=>?_);obtain ⟨ds,e1,e2⟩:=bind_some q1;have e3:=Gp e2;refine ⟨env,R,A,ds,k,e1,fun vs H1 s1 rs=>⟨by rw [Zv rs.rps];exact C.len ds d e3,ds,A,d,k.mu.mono s1,rs.rps,e3,fun v H' s r _=>q2 v H' (s1.trans s) r⟩⟩
end
structure XMakeN (P:Program) (w:World) (K:Frag) (mg:Str->Option Value) (base:Heap) (k:Nat) (c:Str) (p:Nat) (G:List Dat->Option (List (Str×XD))):Prop where
 ex:∃ C fI D fd ps,U1 K c C/\mg c=some (.ref C)/\keepIn K (.ref C)=true/\Qx K C fI D=true/\XCls K C/\isFn K (.ref fI)=true/\FnOkN P w K mg base Sc k fI fd ps (spG K C p G)/\Qm K fd ps []
 len:∀ ds fl,G ds=some fl->ds.length=p
 few:p<=10
theorem XMakeN.x {P:Program} {w:World} {K:Frag} {mg:Str->Option Value} {base:Heap} {k:Nat} {c:Str} {p:Nat} {G:List Dat->Option (List (Str×XD))} (M:XMakeN P w K mg base k c p G):XMake P w K mg base k c p G:=by
 obtain ⟨C,fI,D,fd,ps,h1,h2,h3,h4,h5,h6,h7,h8⟩:=M.ex;exact ⟨⟨C,fI,D,fd,ps,h1,h2,h3,h4,h5,h6,h7.x,h8⟩,M.len,M.few⟩
section
variable {P:Program} {w:World} {K:Frag} {mg:Str->Option Value} {base:Heap}
theorem A8 {qual x:Str} {st:Stmt} {fI C D fI':Addr} {fd:FuncData} {k:Nat} {f:Str} {r:TJ} (F:Fun K "__init__" qual st fI fd) (S:FnScope ["self",x] ["self",x] (Z7 st)) (hx:Qx K C fI' D=true) (xc:XCls K C) (hf:findIn K (.ref C) f=some none)
  (hb:∀ (cdv:Value) (A:Around) (outer:List Env) (s:Shared) (H:Hp) (E:XK),RoomN k (A.deeper (envOfC qual (Z7 st) s.heap.objs.size fI cdv)) ->
   Ro (Me Sc P w K mg base ["self",x] qual (Z7 st) fI cdv A outer s H E).nox (Y6 st) (Z9y (Z2a (Z13 K (Ku (Xz 0) (Ku (B1 r) Z60)))) (Z67 K (Xz 0) (tCB (Z68 K) (Ku (Xz 1) Z60)) f)))
  (hj:∀ (H:Hp) (e a:Addr) (ns:List Int),SL K H a (ns.map V.int)->Ir ns->JOk 0 [some (.ref e),some (.ref a)] H r) :
  FnOkN P w K mg base Sc (k+1) fI fd ["self",x] (spG K C 1 (gW f)):=by
 refine F.okN S (fun vs H Q E ⟨e,ws,ds,R,fl,ev,hl,_⟩=>by rw [ev,length_cons,hl];rfl) fun cdv A outer s H vs Q E hr hh ⟨e,ws,ds,R,fl,ev,hl,he,mu,re,rs,hG,q⟩=>⟨_,hb cdv A outer s H E hr,?_⟩
 subst ev;unfold gW at hG;split at hG
 ·rename_i xs
  obtain ⟨ns,hn,hG⟩:=bind_some hG;split at hG
  ·rename_i hs
   cases hG;have hs:=Cm hs;obtain ⟨v,r',e1,r1,r2⟩:=Y3 rs;have e2:=Yn r2;subst e1 e2;obtain ⟨a,us,e3,hS,ru⟩:=Mj r1;rw [Td hn] at ru;have e4:=Wf ru;subst e3 e4;have hS':SL K H a (ns.map V.int):=Yy.sl hS;show Z9y _ _ _ [some (.ref e),some (.ref a)] H;refine ⟨.ref e,rfl,?_⟩;refine hj H e a ns hS' hs Str.empty _ (by decide) fun z=>?_
   refine ⟨e,C,none,.str z,fI',D,rfl,he,hx,?_⟩;refine ⟨.ref a,rfl,a,ns.map V.int,rfl,.inl hS'.sq,fun l hln=>?_⟩;have hle:l≠e:=fun z=>by rw [z,he] at hln;cases hln
   refine ⟨.ref e,rfl,e,C,none,fI',D,rfl,by rw [Zj (Ne.symm hle)];exact he,hx,xc,hf,fun dx hdx hde=>?_⟩;have hdl:dx≠l:=fun z=>by rw [z,Zt] at hdx;cases hdx
   have hdn:H dx=none:=by rw [Zj hdl] at hdx;exact hdx
   have nR:∀ {b:Addr},H b=none->R b=false:=fun {b} z=>by
    cases y:R b with
    | false=>rfl
    | true=>obtain ⟨o,ho⟩:=(mu b y).some;rw [z] at ho;cases ho
   refine q _ (some dx) (fun c o hc h=>?_) ?_ ?_ (Z3h hdn Zt fun g a hm=>by simp at hm;obtain ⟨_,rfl⟩:=hm;exact ⟨hln,_,by rw [Zj (Ne.symm hdl),Zj hle,Zt]⟩)
   ·have c1:c≠dx:=fun z=>by rw [z,hdn] at h;cases h
    have c2:c≠l:=fun z=>by rw [z,hln] at h;cases h
    rw [Zj c1,Zj hc,Zj c2];exact h
   ·rw [Zj (Ne.symm hde),Zt]
   ·refine ⟨[(f,.ref l)],Wx Zt (nR hdn),fun g=>?_⟩
    by_cases eg:g=f
    ·subst eg
     refine .inr ⟨.nums ns,.ref l,by simp [List.lookup],by simp [List.lookup],l,rfl,.inl (.inl (Wx ?_ (nR hln))),?_⟩
     ·rw [Zj (Ne.symm hdl),Zj hle,Zt]
     ·exact le_of_lt (Q1 (by have:=hs.1;lia))
    ·have e':(g==f)=false:=by simpa using eg
     exact .inl ⟨by simp [List.lookup,e'],by simp [List.lookup,e']⟩
  ·cases hG
 ·cases hG
end
theorem Z7x {K:Frag} {H0 H:Hp} {A:AS} {dct:Option Addr} {fl:List (Str×XD)} (h:O8 K H dct fl) (n:N3 H0 H dct) (nA:∀ b,H0 b=none->A b=false):O8 K (av H A) dct fl:=by
 cases dct with
 | none=>exact h
 | some dx =>
  obtain ⟨fvs,e1,e2⟩:=h;refine ⟨fvs,Wx e1 (nA _ (n dx rfl).1),fun f=>(e2 f).imp id fun ⟨d,v,a,b,c⟩=>⟨d,v,a,b,?_⟩⟩;cases d with
  | int i=>exact c
  | nums is =>
   obtain ⟨a',z1,z2,z3⟩:=c;subst z1;have hn:=nA _ (((n dx rfl).2 fvs f a' e1 b).1);refine ⟨a',rfl,?_,z3⟩;rcases z2 with (z | ⟨o,z⟩) | z
   ·exact .inl (.inl (Wx z hn))
   ·exact .inl (.inr ⟨o,Wx z hn⟩)
   ·exact .inr z
def Dg (F:List Dat->Rs):List Dat->Rs:=fun ds=>match F ds with
 | .ok d=>if P5 d=true then .ok d else .no
 | r=>r
section
variable {X:Cx} {m fr fr':Bool} {F:List Dat->Rs} {k:Nat} {x:Str} {ps:List Str} {e:Expr} {es:List Expr} {fs:Ev->Option (List Dat)} {p pos:Pos}
theorem Z8r {pl:Bool} (C:CalX X.prog X.w X.K X.mg X.base k x ps fr F pl) (hr:Room k X.A) (ha:Km true X (e::es) fs) (hg:Gl X x:=by rfl)
  (hdb:(x==("__debug__" : Str))=false:=by decide) (he:starEach (e::es) X.env=(false,eval e X.env)::starEach es X.env:=by rfl) (hpl:(backTo pos (starEach es X.env)).any (·.1)=false:=by rfl) (hp:X.pl=true->pl=true:=by first | exact fun _=>rfl | exact fun z=>nomatch z) :
  PE X (.Call (.Name x p) (e::es) [] pos) (tXx X fr (Dg F) fs):=by
 obtain ⟨f,fd,Ff,hm,hk,hb⟩:=C.ex;intro pins s σ H Q I ⟨env,B,A,ds,kk,e1,q⟩;refine wpAny_Call_Name_kw (Uc I hg hm ?_ hdb);refine PySem.W.callWith_K (h₀:=X.base) I.ok.mod.kin hk (Wh (ha pos pins s σ H (fun vs H1=>Zp H H1/\W8 X.K H1 ds vs) I ⟨env,B,A,ds,kk,e1,fun vs H1 s1 rs=>⟨s1,rs.full⟩⟩) fun us s1 ⟨vs,H1,I1,r,sm,rs⟩=>⟨I1.kIn,?_⟩) he hpl;have hne:F ds≠.no:=fun z=>by unfold Dg at q;rw [z] at q;exact q
 have hl:us.length=ps.length:=by rw [← r.length,Zv rs];exact C.len ds hne
 let E:XK:=fun cls dct H'=>∃ c fl C,F ds=.exc c fl/\cls=.ref C/\U1 X.K c C/\Zp H1 H'/\O8 X.K H' dct fl
 refine wpAny_call (codeAny_mono (Ff.run X.A X.stack s1 H1 ⟨us,[]⟩ us vs Q E hr I1.env0 (by simpa using hb s1 us I1.kIn (by simpa using hl)) r ⟨by rw [Zv rs];exact C.len ds hne,ds,no,(fun a h=>by cases h),by rw [Fx];exact rs,?_⟩) fun rr s' hq=>?_)
 ·unfold A7
  split
  ·rename_i d hd
   unfold Dg at q;rw [hd] at q;dsimp only at q;split at q
   ·rename_i d' hq
    split at hq
    ·rename_i hpu
     cases hq;exact fun v H' s2 r2 _=>q v H' (sm.trans s2) (by rw [Fx] at r2;exact Rp.pure (kk.mu.mono (sm.trans s2)) hpu r2)
    ·cases hq
   ·rename_i hq
    split at hq<;>cases hq
   ·exact q.elim
  ·rename_i c fl hd
   exact fun C dct H' s2 hc hf=>⟨c,fl,C,hd,rfl,hc,s2,by rw [Fx] at hf;exact hf⟩
  ·rename_i hd
   exact hne hd
 ·cases rr with
  | error ev =>
   obtain ⟨ex,C,dct,T,H',c2,rfl,ho,hbr,un,hok,h1,h2,h3,h4,ht,hc2,hnw,c,fl,C',hF,eC,hc,sm2,hf⟩:=hq;cases eC;unfold Dg at q;rw [hF] at q;have I2:Inv X pins σ H' s':=I1.call' (ch:=[]) ho un hok hbr (fun b z=>absurd z (by simp));have sz:X.s₀.heap.objs.size<=s1.heap.objs.size:=I1.sz;have np:∀ {a:Addr},s1.heap.objs.size<=a->∀ p∈X.pn++pins,p.1≠a:=fun {a} ha p hp z=>by
    have:=(I1.pin p hp).1;rw [z] at this;exact absurd (lt_size this) (not_lt.mpr ha)
   have nA:∀ b,H1 b=none->A b=false:=fun b z=>by
    cases y:A b with
    | false=>rfl
    | true=>obtain ⟨o,ho⟩:=(kk.mu.mono sm b y).some;rw [z] at ho;cases ho
   exact q A H' σ (Step.same (sm.trans sm2)) (kk.mono (sm.trans sm2)) rfl pins s' ex C dct I2 hc ⟨le_trans sz h1,h3,.inr ⟨T,c2,le_trans sz h2,h4,np h2,ht,fun z=>hc2 (hp z)⟩,np h1⟩ (Z7x hf hnw nA) (hnw.mono fun b z=>kk.h0.none (sm.none z))
  | ok fl =>
   cases fl with
   | ret u=>exact I1.after hq
   | next=>exact False.elim hq
   | brk=>exact False.elim hq
   | cont=>exact False.elim hq
end
theorem RoomN.make {k:Nat} {A:Around} (r:RoomN (k+1) A) (C:Addr) (us:List Value) (kw:List (Str×Value)):RoomN k (A.under (.builtin "type.__call__" ⟨.ref C::us,kw⟩)) :=
 ⟨by have:=r.dp;rw [Gx];lia,by have:=r.un;rw [Hn];lia,r.gd⟩
abbrev Cx.inR (X:Cx) (pn:List (Addr×Obj)) (e:Addr):Cx:={ X with A:=X.A.mark (some (.ref e)),calm:=false,pn:=pn }
theorem Z4f {X:Cx} {pn:List (Addr×Obj)} {e:Addr} {oe:Obj} {ve:Array Value} (hstk:X.stack=X.env::X.outer/\X.env.frame=some X.env.locals) (hm:(e,oe)∈pn) (hd:oe.data=.fields ve) (h2:ve[2]?=some .none):HdC (X.inR pn e):=fun pins σ H s I=>by
 obtain ⟨a,b,c,d,_⟩:=I.pin (e,oe) (mem_append_left _ hm);refine .inr ⟨e,oe,ve,rfl,a,hd,h2,b,fun z=>?_⟩;have z:e∈Rk X.stack:=z;rw [hstk.1] at z;unfold Rk at z;rw [filterMap_cons,hstk.2] at z;rcases mem_cons.mp z with z | z
 ·exact c z
 ·exact d z
section
variable {X:Cx} {fr:Bool} {e:Expr} {es:List Expr} {fs:Ev->Option (List Dat)} {p pos cpos npos:Pos} {k n:Nat} {c:Str} {G:List Dat->Option (List (Str×XD))}
theorem Z0a {pins:List (Addr×Obj)} {σ:St} {H:Hp} {s:Shared} {us:List Value} {vs:List V} {ds:List Dat} {fl:List (Str×XD)} {env:Ev} {B:Bs} {A:AS} {E:Value->Shared->Prop} (M:XMakeN X.prog X.w X.K X.mg X.base k c n G) (hr:RoomN (k+1) X.A) (hh:HdC X)
  (I:Inv X pins σ H s) (kk:EnvOk X.K B A H σ env) (r:Zx vs us) (rs:W8 X.K (av H A) ds vs) (hG:G ds=some fl) {C fI D:Addr} (hcl:U1 X.K c C) (hx:Qx X.K C fI D=true) {fd:FuncData} {ps:List Str} (hfn:isFn X.K (.ref fI)=true) (F:FnOkN X.prog X.w X.K X.mg X.base Sc k fI fd ps (spG X.K C n G)) (hb:Qm X.K fd ps []) :
  wpAny (model X.prog X.w) X.A (call (.ref C) us) (fun v s'=>∃ ex t dct H',v=.ref ex/\s'.heap.get? ex=some { cls:=.ref C,dict:=dct,data:=.fields #[.ref t,.none,.none,.none,.bool false,.none] }/\Inv X pins σ H' s'/\Zp H H'/\X.s₀.heap.objs.size<=ex/\H' ex=none/\(∀ p∈X.pn++pins,p.1≠ex)/\O8 X.K (av H' A) dct fl/\s.heap.objs.size<=ex/\N3 B.H₀ H' dct) E s:=by
 obtain ⟨nm,qn,N,bs,sn,sub,ab,col,dd,k0,k1,k2,k3,k5,mN,hC,hN,hi,T⟩:=Hz I.kIn hx;have hfI:∃ oI,s.heap.get? fI=some oI/\oI.cls=.type "function" := by
  have:=beq_iff_eq.mp hfn;obtain ⟨oI,h1,h2⟩:=Option.map_eq_some_iff.mp this;exact ⟨oI,I.kIn _ _ h1,h2⟩
 obtain ⟨oI,hfI,hfc⟩:=hfI;have hlen:us.length<=sizeLine:=by
  have h1:=r.length;have h2:=Zv rs;have h3:=M.len ds fl hG;have h4:=M.few;exact le_of_lt (Q1 (by lia))
 obtain ⟨hp,g,d,tk,os⟩:=s;refine K6 (hrest:=hlen) PySem.F.excBase_ValueError (by decide) PySem.F.excBase_ValueError T hC hN hi hfI hfc fun h' ex hlo hm=>?_
 obtain ⟨t0,ht0,_,_⟩:=hm.there;have hfr:H ex=none:=I.hok.fresh hlo;have I2:Inv X pins σ (W6 H ex (.ext (Sf ex C none))) ⟨h',g,d,tk,os⟩:=I.laid (h':=h') (t':=tk) (a:=ex) (o:=.ext (Sf ex C none)) hm.keeps hlo (N2 ⟨t0,ht0⟩);have aex:A ex=false:=by
  cases z:A ex with
  | false=>rfl
  | true=>obtain ⟨o,ho⟩:=(kk.mu ex z).some;rw [hfr] at ho;cases ho
 have sm1:Zp H (W6 H ex (.ext (Sf ex C none))):=Oc hfr;let Q':VK:=fun v H'=>v=.non/\∃ dct,(∀ c o,c≠ex->W6 H ex (.ext (Sf ex C none)) c=some o->H' c=some o)/\H' ex=some (.ext (Sf ex C dct))/\O8 X.K (av H' A) dct fl/\N3 (W6 H ex (.ext (Sf ex C none))) H' dct
 have hsp:spG X.K C n G (.ref ex::vs) (W6 H ex (.ext (Sf ex C none))) Q' E0:=⟨ex,vs,ds,A,fl,rfl,by rw [Zv rs];exact M.len ds fl hG,Zt,kk.mu.mono sm1,aex,rs.mono (V6 sm1),hG,fun H' dct h1 h2 h3 h4=>⟨rfl,dct,h1,h2,h3,h4⟩⟩;have hl2:(Value.ref ex::us).length=ps.length:=by
  have e1:=F.len _ _ _ _ hsp;have e2:=r.length;rw [length_cons] at e1 ⊢;lia
 refine wpAny_call (codeAny_mono (F.run _ X.stack ⟨h',g,d,tk,os⟩ _ ⟨Value.ref ex::us,[]⟩ (Value.ref ex::us) (V.ref ex::vs) Q' E0 (hr.make C us []) (hh _ _ _ _ I2) (I2.env0.make C us []) (by simpa using hb _ (Value.ref ex::us) I2.kIn (by simpa using hl2)) (.cons rfl r) hsp) fun rr s' hq=>?_);cases rr with
 | error e=>exact False.elim hq
 | ok fl' =>
  cases fl' with
  | ret u =>
   obtain ⟨v,H',I3,rv,ev,dct,h1,h2,h3,h4⟩:=I2.after hq;subst ev;have eu:u=.none:=rv;subst eu;refine ⟨rfl,?_⟩;obtain ⟨⟨t1,ht1⟩,_,_⟩:=(show W2 X.prog X.w H' s'.heap ex (.ext (Sf ex C dct)) from I3.hok ex _ h2);have I4:=I3.drop h2;have sm:Zp H (Cc H' ex):=fun b o q=>by
    have hb:b≠ex:=fun z=>by rw [z,hfr] at q;cases q
    rw [Mq hb];exact h1 b o hb (by rw [Zj hb];exact q)
   refine ⟨ex,t1,dct,Cc H' ex,rfl,ht1,I4,sm,le_trans I.sz hlo,Sm,fun p hp z=>?_,?_,hlo,B6 h4 ⟨_,h2⟩ kk.h0⟩
   ·have:=(I.pin p hp).1
    rw [z] at this;exact absurd (lt_size this) (not_lt.mpr hlo)
   ·exact h3.of_ne (e:=ex) (Wx h2 aex) fun c o hc q=>Wx (by rw [Mq hc];exact (Tn q).2) (Tn q).1
  | next=>exact False.elim hq
  | brk=>exact False.elim hq
  | cont=>exact False.elim hq
theorem Pm (M:XMakeN X.prog X.w X.K X.mg X.base k c n G) (hr:RoomN (k+1) X.A) (hh:HdC X) (ha:Km false X (e::es) fs) (hn:X.A.handled≠none) (hpl0:X.pl=false:=by rfl) (hstk:X.stack=X.env::X.outer:=by rfl) (hg:Gl X c:=by rfl) (hdb:(c==("__debug__" : Str))=false:=by decide)
  (he:starEach (e::es) X.env=(false,eval e X.env)::starEach es X.env:=by rfl) (hpl:(backTo cpos (starEach es X.env)).any (·.1)=false:=by rfl) {kn:Nat}:Sb fr X (.Raise (some (.Call (.Name c p) (e::es) [] cpos)) (some (.Constant .none kn npos)) pos) (Vv c G fs):=by
 intro pins s σ H D I ⟨env,B,A,kk,hst,q⟩;obtain ⟨C,fI,D',fd,ps,hcl,hm,hkp,hx,xc,hfn,F,hb⟩:=M.ex;unfold Vv at q;split at q
 ·exact q.elim
 rename_i fl hfl;obtain ⟨ds,e1,hG⟩:=bind_some hfl;obtain ⟨nm,qn,N,bs,sn,sub,ab,col,dd,k0,k1,k2,k3,k5,mN,hC,hN,hi,T⟩:=Hz I.kIn hx;obtain ⟨h,hhd⟩:∃ h,X.A.handled=some (.ref h):=by
  rcases hh _ _ _ _ I with z | ⟨h,_,_,z,_⟩
  ·exact absurd z hn
  ·exact ⟨h,z⟩
 have key:wpAny (model X.prog X.w) X.A (eval (.Call (.Name c p) (e::es) [] cpos) X.env) (fun v s'=>∃ ex t dct H',v=.ref ex/\s'.heap.get? ex=some { cls:=.ref C,dict:=dct,data:=.fields #[.ref t,.none,.none,.none,.bool false,.none] }/\Inv X pins σ H' s'/\Zp H H'/\X.s₀.heap.objs.size<=ex/\H' ex=none/\(∀ p∈X.pn++pins,p.1≠ex)/\O8 X.K (av H' A) dct fl/\h≠ex/\N3 B.H₀ H' dct) X.xe s:=by
  refine wpAny_Call_Name_kw (Uc I hg hm ?_ hdb);refine callWith_K (h₀:=X.base) I.ok.mod.kin hkp (Wh (ha cpos pins s σ H (fun vs H1=>Zp H H1/\W8 X.K (av H1 A) ds vs) I ⟨env,B,A,ds,kk,e1,fun vs H1 s1 rs=>⟨s1,rs.rps⟩⟩) fun us s1 ⟨vs,H1,I1,r,sm,rs⟩=>⟨I1.kIn,?_⟩) he hpl;refine wpAny_mono (Z0a (E:=X.xe) M hr hh I1 (kk.mono sm) r rs hG hcl hx hfn F hb) (fun v s' ⟨ex,t,dct,H',z1,z2,z3,z4,z5,z6,z7,z8,z9,z10⟩=>⟨ex,t,dct,H',z1,z2,z3,sm.trans z4,z5,z6,z7,z8,fun z=>?_,z10⟩) fun _ _ z=>z
  rcases hh _ _ _ _ I1 with y | ⟨h',_,_,y,y1,_⟩
  ·exact hn y
  ·rw [hhd] at y
   cases y;have:=lt_size y1;rw [z] at this;exact absurd this (not_lt.mpr z9)
 obtain ⟨o,lk⟩:∃ o,X.K.lookup C=some o:=by
  unfold Qx at hx;split at hx
  ·rename_i ho;exact ⟨_,ho⟩
  ·cases hx
 have e2:=(I.kIn _ _ lk).symm.trans hC;cases e2;rw [arm_exec_Raise];refine wpAny_bind (wpAny_standAt (Pb (C:=C) (nm:=nm) (q:=qn) (N:=N) (bs:=bs) (bm:=.ref D'::Qn) (hdct:=true) (sn:=sn) (sub:=sub) (ab:=ab) (col:=col) (dd:=dd) (k0:=k0) (k1:=k1) (k2:=k2) (k3:=k3) (k5:=k5) (newId:="ValueError.__new__") (by simp [Qn]) hhd (wpAny_bind (wpAny_mono key (fun v s₃ h₃=>wpAny_bind (wpAny_standAt (wpAny_pure ?_))) fun _ _ x=>x))));obtain ⟨ex,t,dct,H',rfl,hex,I3,sm,lo,un,pe,hf,hne,hnw⟩:=h₃;obtain ⟨oh,vh,hg1,hg2,hg3⟩:∃ oh vh,s₃.heap.get? h=some oh/\oh.data=.fields vh/\vh[2]?=some .none:=by
  rcases hh _ _ _ _ I3 with y | ⟨h',oh,vh,y,y1,y2,y3,_⟩
  ·exact absurd y hn
  ·rw [hhd] at y
   cases y;exact ⟨oh,vh,y1,y2,y3⟩
 have nloc:ex≠X.env.locals/\∀ y c,X.env.cells.lookup y=some c->c≠ex:=by
  refine ⟨fun z=>?_,fun y c hc z=>?_⟩
  ·obtain ⟨m,⟨o',es,ep,ho',hd',_⟩,_⟩:=I3.loc
   rw [z,ho'] at hex;cases hex;cases hd'
  ·obtain ⟨v,o',ho',hd'⟩:=I3.cell y c hc
   rw [z,hex] at ho';cases ho';cases hd'
 refine ⟨ex,.ref t,dct,rfl,I3.kIn _ _ lk,hex,hne,⟨oh,vh,hg1,hg2,hg3⟩,wpAny_bind (wpAny_Constant_none (wpAny_bind (wpAny_standAt (wpAny_pure ⟨rfl,rfl,fun h' hk hx' hz=>?_⟩))))⟩;have hfree:∀ b∈Rk (X.env::X.outer),H' b=none:=by rw [← hstk];exact I3.stkFree
 have kp:Iu (X.env::X.outer) [ex] s₃.heap h':=Iu.of fun b o hb hc=>(hk b (by simpa using hc)).trans hb
 have hch:∀ b∈[ex],b=ex:=fun b hb=>mem_singleton.mp hb
 have I4:Inv X pins σ H' { s₃ with heap:=h' }:=I3.call' (s':={ s₃ with heap:=h' }) (ch:=[ex]) rfl (by rw [hstk];exact E2 kp fun b hb=>by rw [hch b hb];exact un) (Qt I3.hok kp (fun b hb=>by rw [hch b hb];exact un) hfree) I3.bare fun b hb=>by rw [hch b hb];exact ⟨.inr lo,nloc.1,nloc.2,pe⟩
 exact q A H' σ (Step.same sm) (kk.mono sm) pins { s₃ with heap:=h' } ex C dct I4 hcl ⟨lo,un,.inl ⟨_,_,hx',rfl,rfl,rfl,rfl,fun z=>by rw [hpl0] at z;cases z⟩,pe⟩ hf hnw
end
def Z1g (K:Frag) (mg:Str->Option Value) (T:Str) (known:List Str):Prop:=∃ D,mg T=some (.ref D)/\∀ c C,c∈known->U1 K c C->exmOne K (.ref C) (.ref D)=some (decide (c=T))
def Z89:Fl->Fl
 | .exc e c f=>.exc e c f
 | _=>.no
def O9 (known:List Str) (T1 T2:Str) (g k1 k2:Ev->Fl):Ev->Fl:=fun env=>match g env with
 | .exc env' c fl=>if c∈known then (if c=T1 then Z89 (k1 env') else if c=T2 then Z89 (k2 env') else .no) else .no
 | r=>r
theorem Inv.ofR {X:Cx} {pins pins' pn:List (Addr×Obj)} {σ:St} {H:Hp} {s:Shared} {e:Addr} (ok:X.Ok) (hs:∀ p∈X.pn++pins,p∈pn) (I:Inv (X.inR pn e) pins' σ H s):Inv X pins σ H s :=
 ⟨ok,I.os,I.bare,I.base,I.loc,I.cell,I.free,I.freeC,fun p hp=>I.pin p (mem_append_left _ (hs p hp)),I.hok,I.len⟩
theorem SP.ofR {X:Cx} {pins pn:List (Addr×Obj)} {D:Ends} {f:Flow} {s:Shared} {e:Addr} (ok:X.Ok) (hs:∀ p∈X.pn++pins,p∈pn) (h:SP (X.inR pn e) [] D f s):SP X pins D f s:=by
 cases f with
 | next=>obtain ⟨σ',H',I,q⟩:=h;exact ⟨σ',H',I.ofR ok hs,q⟩
 | brk=>obtain ⟨σ',H',I,q⟩:=h;exact ⟨σ',H',I.ofR ok hs,q⟩
 | cont=>obtain ⟨σ',H',I,q⟩:=h;exact ⟨σ',H',I.ofR ok hs,q⟩
 | ret u=>obtain ⟨v,σ',H',I,r,q⟩:=h;exact ⟨v,σ',H',I.ofR ok hs,r,q⟩
section
variable {X:Cx} {fr:Bool} {g k1 k2:Ev->Fl} {body:List Stmt} {b1 b2:Stmt} {su1 su2:List Stmt} {T1 T2:Str} {np1 np2 hp1 hp2 pos:Pos} {known:List Str}
theorem Z5k (hp:∀ e,PassesOwnAt (model X.prog X.w) (X.A.mark (some (.ref e))) X.A X.env X.xe) (hb:∀ pn E,Kv fr ((X.inTry pn E).pls true) body g)
  (h1:∀ pn e,HdC (X.inR pn e)->Kv fr (X.inR pn e) (b1::su1) k1) (h2':∀ pn e,HdC (X.inR pn e)->Kv fr (X.inR pn e) (b2::su2) k2) (c1:Z1g X.K X.mg T1 known) (c2:Z1g X.K X.mg T2 known)
  (hg1:Gl X T1:=by rfl) (hdb1:(T1==("__debug__" : Str))=false:=by decide) (hg2:Gl X T2:=by rfl) (hdb2:(T2==("__debug__" : Str))=false:=by decide)
  (hstk:X.stack=X.env::X.outer/\X.env.frame=some X.env.locals:=by exact ⟨rfl,rfl⟩) :
  Sb fr X (.Try body [.ExceptHandler (some (.Name T1 np1)) none (b1::su1) hp1,.ExceptHandler (some (.Name T2 np2)) none (b2::su2) hp2] [] [] pos) (O9 known T1 T2 g k1 k2):=by
 obtain ⟨D1,m1,x1⟩:=c1;obtain ⟨D2,m2,x2⟩:=c2;intro pins s σ H D I ⟨env,B,A,kk,hst,q⟩;let HS:List ExceptHandler:=[.ExceptHandler (some (.Name T1 np1)) none (b1::su1) hp1,.ExceptHandler (some (.Name T2 np2)) none (b2::su2) hp2]
 let EX:Value->Shared->Prop:=fun ev s₁=>wpAny (model X.prog X.w) X.A (noteFrame ev X.env) (fun _ s₂=>wpAny (model X.prog X.w) X.A (setFlight ev none) (fun _ s₃=>wpAny (model X.prog X.w) X.A (handleBy ev X.env HS) (SP X pins D) X.xe s₃) X.xe s₂) X.xe s₁
 have flok:Dj fr ((X.inTry (X.pn++pins) EX).pls true) B A H D (g env):=by
  unfold O9 at q;cases eg:g env with
  | next e'=>rw [eg] at q;exact q
  | brk e'=>rw [eg] at q;exact q
  | cont e'=>rw [eg] at q;exact q
  | ret d=>rw [eg] at q;exact q
  | no=>rw [eg] at q;exact q
  | exc env' c fl =>
   rw [eg] at q;dsimp only at q;split at q
   case isFalse=>exact q.elim
   rename_i hkn;intro A1 H1 σ1 st1 kv1 pins' s1 e C dct I1 hcl x hf1 hnw1;have J1:Inv X pins σ1 H1 s1:=I1.unpls.ofTry I.ok;have hfr:X.A.frames=some (X.env::X.outer):=by rw [← hstk.1];exact J1.ok.frames
   have hl:s1.heap.FunFrames X.base (X.env::X.outer):=by rw [← hstk.1];exact J1.stack
   have hkb:X.base.StaysIn s1.heap:=J1.bk;have hen:X.base.get? e=none:=J1.noBase x.lo;have hfree:∀ b∈Rk (X.env::X.outer),H1 b=none:=by rw [← hstk.1];exact J1.stkFree
   have hpn:∀ {a:Addr},(∀ p∈(X.inTry (X.pn++pins) EX).pn++pins',p.1≠a)->∀ p∈X.pn++pins,p.1≠a:=fun {a} z p hp=>z p (mem_append_left _ hp)
   have nloc:∀ {s1:Shared} (J1:Inv X pins σ1 H1 s1) {a:Addr} {o:Obj} {vs:Array Value},s1.heap.get? a=some o->o.data=.fields vs->a≠X.env.locals/\∀ y c,X.env.cells.lookup y=some c->c≠a:=fun {s1} J1 {a o vs} ho hd=>by
    refine ⟨fun z=>?_,fun y c hc z=>?_⟩
    ·obtain ⟨m,⟨o',es,ep,ho',hd',_⟩,_⟩:=J1.loc
     rw [z,ho'] at ho;cases ho;rw [hd] at hd';cases hd'
    ·obtain ⟨v,o',ho',hd'⟩:=J1.cell y c hc
     rw [z,ho] at ho';cases ho';rw [hd] at hd';cases hd'
   -- a suite
   have suite:∀ (b₀:Stmt) (su:List Stmt) (hp':Pos) (kf:Ev->Fl) (hh:∀ pn e,HdC (X.inR pn e)->Kv fr (X.inR pn e) (b₀::su) kf) (qf:Dj fr X B A H D (Z89 (kf env'))) (h2:Heap) (T':Addr),s1.heap.objs.size<=T'->X.base.StaysIn h2->h2.FunFrames X.base (X.env::X.outer)->Do h2 X.base e T' (.ref C,some .none) dct .none->Inv X pins σ1 H1 { s1 with heap:=h2 } ->
     codeAny (model X.prog X.w) (X.A.mark (some (.ref e))) (.handlers (.ref e) [.ExceptHandler none none (b₀::su) hp'] X.env) (fun r s₂=>match r with
      | .ok f=>SP X pins D f s₂
      | .error x=>cameBackBy (model X.prog X.w) X.A X.env X.xe x s₂) { s1 with heap:=h2 }:=by
    intro b₀ su hp' kf hh qf h2 T' hT' sb2 ff2 tr2 J2;obtain ⟨oe,ve,oT,ts,g1,g2,g3,g4,g5,g6,g7,g8,g9,g10⟩:=id tr2;refine codeAny_handlers_suite ?_;refine Er (s:={ s1 with heap:=h2 }) sb2 ff2 tr2 fun h3 y1 y2 tr3 y4 y5=>?_
    have kp3:Iu (X.env::X.outer) [T'] h2 h3:=.of fun b o hb hc=>y4 b o hb hc
    have hTn:H1 T'=none:=J1.hok.fresh hT';have hTl:=nloc J2 g8 g9;have hTp:∀ p∈X.pn++pins,p.1≠T':=fun p hp z=>by
     have:=(J1.pin p hp).1;rw [z] at this;exact absurd (lt_size this) (not_lt.mpr hT')
    have hTs:∀ b∈[T'],b=T':=fun b hb=>mem_singleton.mp hb
    have J3:Inv X pins σ1 H1 { s1 with heap:=h3 }:=J2.call' (s':={ s1 with heap:=h3 }) (ch:=[T']) rfl (by rw [hstk.1];exact E2 kp3 fun b hb=>by rw [hTs b hb];exact hTn) (Qt J2.hok kp3 (fun b hb=>by rw [hTs b hb];exact hTn) hfree) J2.bare fun b hb=>by rw [hTs b hb];exact ⟨.inr (le_trans J1.sz hT'),hTl.1,hTl.2,hTp⟩
    obtain ⟨oe',ve',_,_,e1,e2,e3,e4,_⟩:=id tr3;have el:=nloc J3 e1 e4;have hv2:ve'[2]?=some .none:=(Prod.mk.inj e2).2;have efs:e∉X.fs:=fun z=>by
     obtain ⟨_,o,ho,hnf⟩:=y2.mem (show e∈(X.env::X.outer).filterMap (·.frame) from by
      rw [filterMap_cons,hstk.2];exact mem_cons_of_mem _ z)
     have ho:h3.get? e=some o:=ho;rw [e1] at ho;cases ho;exact hnf ve' e4
    have hs:∀ p∈X.pn++pins,p∈X.pn++pins++[(e,oe')]:=fun p hp=>mem_append_left _ hp
    have hm:(e,oe')∈X.pn++pins++[(e,oe')]:=mem_append_right _ (mem_singleton.mpr rfl);have J4:Inv (X.inR (X.pn++pins++[(e,oe')]) e) [] σ1 H1 { s1 with heap:=h3 } :=
     ⟨⟨J3.ok.mod,J3.ok.kind,J3.ok.glob,J3.ok.blt,J3.ok.above,J3.ok.inj,J3.ok.has,J3.ok.cab,(fun z=>nomatch z),J3.ok.frames,J3.ok.stk,J3.ok.exf,J3.ok.bs,J3.ok.bsz,J3.ok.noex,J3.ok.exfs,J3.ok.funs,J3.ok.frf⟩,J3.os,J3.bare,J3.base,J3.loc,J3.cell,J3.free,J3.freeC,fun p hp=>by
      rw [append_nil] at hp;rcases mem_append.mp hp with hp | hp
      ·exact J3.pin p hp
      ·rw [mem_singleton.mp hp]
       exact ⟨e1,x.un,el.1,efs,fun v z=>by rw [e4] at z;cases z⟩,J3.hok,J3.len⟩
    have fl2:Dj fr (X.inR (X.pn++pins++[(e,oe')]) e) B A1 H1 D (kf env'):=by
     have q2:=qf.step st1;cases ek:kf env' with
     | exc e' c' f' =>
      rw [ek] at q2;exact fun A' H' σ' s' k' pins2 s5 e5 C5 d5 I5 hc5 x5 hf5 hn5=>q2 A' H' σ' s' k' pins s5 e5 C5 d5 (I5.ofR I.ok hs) hc5 ⟨x5.lo,x5.un,x5.ob.imp id fun ⟨T,c2,a1,a2,a3,a4⟩=>⟨T,c2,a1,a2,fun p hp=>a3 p (mem_append_left _ (hs p hp)),a4⟩,fun p hp=>x5.pe p (mem_append_left _ (hs p hp))⟩ hf5 hn5
     | next e'=>rw [ek] at q2;exact q2.elim
     | brk e'=>rw [ek] at q2;exact q2.elim
     | cont e'=>rw [ek] at q2;exact q2.elim
     | ret d=>rw [ek] at q2;exact q2.elim
     | no=>rw [ek] at q2;exact q2.elim
    exact wpAny_mono (hh (X.pn++pins++[(e,oe')]) e (Z4f hstk hm e4 hv2) [] _ _ _ _ J4 ⟨_,B,A1,kv1,hst,fl2⟩) (fun f s6 hs6=>hs6.ofR I.ok hs) (fun ev s6 z=>hp e ev s6 z)
   -- behind the landing
   have after:∀ (h2:Heap) (T':Addr) (ch:List Addr),s1.heap.objs.size<=T'->X.base.StaysIn h2->h2.FunFrames X.base (X.env::X.outer)->Do h2 X.base e T' (.ref C,some .none) dct .none->Iu (X.env::X.outer) ch s1.heap h2->(∀ b∈ch,H1 b=none/\X.s₀.heap.objs.size<=b/\b≠X.env.locals/\(∀ y c,X.env.cells.lookup y=some c->c≠b)/\∀ p∈X.pn++pins,p.1≠b) ->
     wpAny (model X.prog X.w) X.A (handleBy (.ref e) X.env HS) (SP X pins D) X.xe { s1 with heap:=h2 }:=by
    intro h2 T' ch hT' sb2 ff2 tr2 kp hch;have J2:Inv X pins σ1 H1 { s1 with heap:=h2 }:=J1.call' (s':={ s1 with heap:=h2 }) (ch:=ch) rfl (by rw [hstk.1];exact E2 kp fun b hb=>(hch b hb).1) (Qt J1.hok kp (fun b hb=>(hch b hb).1) hfree) J1.bare fun b hb=>⟨.inr (hch b hb).2.1,(hch b hb).2.2.1,(hch b hb).2.2.2.1,(hch b hb).2.2.2.2⟩
    obtain ⟨oe,ve,oT,ts,g1,g2,g3,g4,g5,g6,g7,g8,g9,g10⟩:=id tr2;have g2:=(Prod.mk.inj g2).1;have LT:Looks (model X.prog X.w) h2 (typeOf (.ref e)) (.ref C):=g2▸(Looks.ld g1).andThen .now;have e1:=x1 c C hkn hcl;have e2:=x2 c C hkn hcl;refine wpAny_handleBy_cons (codeAny_handlers_test (Uc (J2.toH (e:=e)) hg1 m1 ?_ hdb1)) (by intro z;cases z);by_cases z1:c=T1
    ·rw [decide_eq_true z1] at e1
     rw [if_pos z1] at q;exact (exm_one (M:=model X.prog X.w) J2.kIn LT e1).here (suite b1 su1 hp1 k1 h1 q h2 T' hT' sb2 ff2 tr2 J2)
    ·rw [decide_eq_false z1] at e1
     rw [if_neg z1] at q;refine (exm_one (M:=model X.prog X.w) J2.kIn LT e1).here ?_;show wpAny _ _ _ _ _ _;refine wpAny_handleBy_cons (codeAny_handlers_test (Uc (J2.toH (e:=e)) hg2 m2 ?_ hdb2)) (by intro z;cases z);by_cases z2:c=T2
     ·rw [decide_eq_true z2] at e2
      rw [if_pos z2] at q;exact (exm_one (M:=model X.prog X.w) J2.kIn LT e2).here (suite b2 su2 hp2 k2 h2' q h2 T' hT' sb2 ff2 tr2 J2)
     ·rw [if_neg z2] at q
      exact q.elim
   show wpAny _ _ _ _ _ _;rcases x.ob with ⟨o,vs,he,hc,hd,hda,hv1,hpl⟩ | ⟨T0,c2,hT,hTn,hTp,ht,hpl⟩
   ·have hv2:=hpl rfl
    refine Qp hfr hl hstk.2 he hkb hen hda hv1 fun h' T' x0 x1 x2 x3 x4 x5=>?_
    refine Er (s:={ s1 with heap:=h' }) x1 x2 x3 fun h2 y1 y2 y3 y4 y5=>?_
    rw [hc,hd,hv2] at y3;refine after h2 T' [e] x0 y1 y2 y3 (Jg x4 x0 y4) fun b hb=>?_
    rw [mem_singleton.mp hb];have z:=nloc J1 he hda;exact ⟨x.un,x.lo,z.1,z.2,hpn x.pe⟩
   ·have hv2:=hpl rfl
    subst hv2;refine Fu hfr hl hstk.2 ht hkb hen fun h' T' x0 x1 x2 x3 x4 x5=>?_
    refine Er (s:={ s1 with heap:=h' }) x1 x2 x3 fun h2 y1 y2 y3 y4 y5=>?_
    refine after h2 T' [e,T0] x0 y1 y2 y3 (Jg x4 x0 y4) fun b hb=>?_
    obtain ⟨oe,ve,oT,ts,g1,g2,g3,g4,g5,g6,g7,g8,g9,g10⟩:=id ht;rcases mem_cons.mp hb with z | z
    ·rw [z];have w:=nloc J1 g1 g4;exact ⟨x.un,x.lo,w.1,w.2,hpn x.pe⟩
    ·rw [mem_singleton.mp z];have w:=nloc J1 g8 g9;exact ⟨hTn,hT,w.1,w.2,hpn hTp⟩
 refine wpAny_Try_except (wpAny_mono (hb (X.pn++pins) EX [] s σ H D I.toTry.pls ⟨env,B,A,kk,hst,flok⟩) (fun f s₁ hs=>?_) (fun e s₁ hx=>hx));cases f with
 | next=>obtain ⟨σ',H',I',q'⟩:=hs;exact wpAny_pure ⟨σ',H',I'.unpls.ofTry I.ok,q'⟩
 | brk=>obtain ⟨σ',H',I',q'⟩:=hs;exact ⟨σ',H',I'.unpls.ofTry I.ok,q'⟩
 | cont=>obtain ⟨σ',H',I',q'⟩:=hs;exact ⟨σ',H',I'.unpls.ofTry I.ok,q'⟩
 | ret u=>obtain ⟨v,σ',H',I',r',q'⟩:=hs;exact ⟨v,σ',H',I'.unpls.ofTry I.ok,r',q'⟩
end
theorem Z49 {P:Program} {w:World} {K:Frag} {mg:Str->Option Value} {base:Heap} {N:List Str} {qual:Str} {scope:Scope} {f:Addr} {cd:Value} {A:Around} {outer:List Env} {s:Shared} {H:Hp} {E:XK} (e:Addr) :
  PassesOwnAt (model P w) ((cxL P w K mg base N qual scope f cd A outer s H E).A.mark (some (.ref e))) (cxL P w K mg base N qual scope f cd A outer s H E).A (cxL P w K mg base N qual scope f cd A outer s H E).env (cxL P w K mg base N qual scope f cd A outer s H E).xe :=
 Z17 (X:=Ts (Ab P w base) P w K mg base N qual scope f cd A outer s H E) rfl ⟨rfl,rfl⟩
theorem Al {K:Frag} {mg:Str->Option Value} {raised:List Str} {T:Str} {D:Addr} (hm:mg T=some (.ref D)) (h:∀ c∈raised,∃ C,U1 K c C/\exmOne K (.ref C) (.ref D)=some (decide (c=T))):Z1g K mg T raised:=by
 refine ⟨D,hm,fun c C hc hb=>?_⟩;obtain ⟨C',h1,h2⟩:=h c hc;unfold U1 at hb h1;rw [hb] at h1;cases h1;exact h2
theorem RoomN.mark {k:Nat} {A:Around} {v:Option Value} (r:RoomN k A):RoomN k (A.mark v):=⟨r.dp,r.un,r.gd⟩
def Z8q (K:Frag) (mg:Str->Option Value) (T:Str) (known:List Str) (b:Str->Bool):Prop:=∃ D,mg T=some (.ref D)/\∀ c C,c∈known->U1 K c C->exmOne K (.ref C) (.ref D)=some (b c)
def Ou (known:List Str) (b1:Str->Bool) (g k1:Ev->Fl):Ev->Fl:=fun env=>match g env with
 | .exc env' c fl=>if c∈known then (if b1 c=true then k1 env' else .no) else .no
 | r=>r
section
variable {X:Cx} {fr:Bool} {g k1 k2:Ev->Fl} {body:List Stmt} {b1 b2:Stmt} {su1 su2:List Stmt} {T1 T2:Str} {np1 np2 hp1 hp2 pos:Pos} {known:List Str} {b1' b2':Str->Bool}
theorem Z61 (hp:∀ e,PassesOwnAt (model X.prog X.w) (X.A.mark (some (.ref e))) X.A X.env X.xe) (hb:∀ pn E,Kv fr (X.inTry pn E) body g)
  (h1:∀ pn e,Kv fr (X.inR pn e) (b1::su1) k1) (c1:Z8q X.K X.mg T1 known b1')
  (hg1:Gl X T1:=by rfl) (hdb1:(T1==("__debug__" : Str))=false:=by decide)
  (hstk:X.stack=X.env::X.outer/\X.env.frame=some X.env.locals:=by exact ⟨rfl,rfl⟩) :
  Sb fr X (.Try body [.ExceptHandler (some (.Name T1 np1)) none (b1::su1) hp1] [] [] pos) (Ou known b1' g k1):=by
 obtain ⟨D1,m1,x1⟩:=c1;intro pins s σ H D I ⟨env,B,A,kk,hst,q⟩;let HS:List ExceptHandler:=[.ExceptHandler (some (.Name T1 np1)) none (b1::su1) hp1]
 let EX:Value->Shared->Prop:=fun ev s₁=>wpAny (model X.prog X.w) X.A (noteFrame ev X.env) (fun _ s₂=>wpAny (model X.prog X.w) X.A (setFlight ev none) (fun _ s₃=>wpAny (model X.prog X.w) X.A (handleBy ev X.env HS) (SP X pins D) X.xe s₃) X.xe s₂) X.xe s₁
 have flok:Dj fr (X.inTry (X.pn++pins) EX) B A H D (g env):=by
  unfold Ou at q;cases eg:g env with
  | next e'=>rw [eg] at q;exact q
  | brk e'=>rw [eg] at q;exact q
  | cont e'=>rw [eg] at q;exact q
  | ret d=>rw [eg] at q;exact q
  | no=>rw [eg] at q;exact q
  | exc env' c fl =>
   rw [eg] at q;dsimp only at q;split at q
   case isFalse=>exact q.elim
   rename_i hkn;intro A1 H1 σ1 st1 kv1 pins' s1 e C dct I1 hcl x hf1 hnw1;have J1:Inv X pins σ1 H1 s1:=I1.ofTry I.ok;have hfr:X.A.frames=some (X.env::X.outer):=by rw [← hstk.1];exact J1.ok.frames
   have hl:s1.heap.FunFrames X.base (X.env::X.outer):=by rw [← hstk.1];exact J1.stack
   have hkb:X.base.StaysIn s1.heap:=J1.bk;have hen:X.base.get? e=none:=J1.noBase x.lo;have hfree:∀ b∈Rk (X.env::X.outer),H1 b=none:=by rw [← hstk.1];exact J1.stkFree
   have hpn:∀ {a:Addr},(∀ p∈(X.inTry (X.pn++pins) EX).pn++pins',p.1≠a)->∀ p∈X.pn++pins,p.1≠a:=fun {a} z p hp=>z p (mem_append_left _ hp)
   have nloc:∀ {s1:Shared} (J1:Inv X pins σ1 H1 s1) {a:Addr} {o:Obj} {vs:Array Value},s1.heap.get? a=some o->o.data=.fields vs->a≠X.env.locals/\∀ y c,X.env.cells.lookup y=some c->c≠a:=fun {s1} J1 {a o vs} ho hd=>by
    refine ⟨fun z=>?_,fun y c hc z=>?_⟩
    ·obtain ⟨m,⟨o',es,ep,ho',hd',_⟩,_⟩:=J1.loc
     rw [z,ho'] at ho;cases ho;rw [hd] at hd';cases hd'
    ·obtain ⟨v,o',ho',hd'⟩:=J1.cell y c hc
     rw [z,ho] at ho';cases ho';rw [hd] at hd';cases hd'
   -- a suite
   have suite:∀ (b₀:Stmt) (su:List Stmt) (hp':Pos) (kf:Ev->Fl) (hh:∀ pn e,Kv fr (X.inR pn e) (b₀::su) kf) (qf:Dj fr X B A H D (kf env')) (h2:Heap) (T':Addr) (c2:Option Value),s1.heap.objs.size<=T'->X.base.StaysIn h2->h2.FunFrames X.base (X.env::X.outer)->Do h2 X.base e T' (.ref C,c2) dct .none->Inv X pins σ1 H1 { s1 with heap:=h2 } ->
     codeAny (model X.prog X.w) (X.A.mark (some (.ref e))) (.handlers (.ref e) [.ExceptHandler none none (b₀::su) hp'] X.env) (fun r s₂=>match r with
      | .ok f=>SP X pins D f s₂
      | .error x=>cameBackBy (model X.prog X.w) X.A X.env X.xe x s₂) { s1 with heap:=h2 }:=by
    intro b₀ su hp' kf hh qf h2 T' c2 hT' sb2 ff2 tr2 J2;obtain ⟨oe,ve,oT,ts,g1,g2,g3,g4,g5,g6,g7,g8,g9,g10⟩:=id tr2;refine codeAny_handlers_suite ?_;refine Er (s:={ s1 with heap:=h2 }) sb2 ff2 tr2 fun h3 y1 y2 tr3 y4 y5=>?_
    have kp3:Iu (X.env::X.outer) [T'] h2 h3:=.of fun b o hb hc=>y4 b o hb hc
    have hTn:H1 T'=none:=J1.hok.fresh hT';have hTl:=nloc J2 g8 g9;have hTp:∀ p∈X.pn++pins,p.1≠T':=fun p hp z=>by
     have:=(J1.pin p hp).1;rw [z] at this;exact absurd (lt_size this) (not_lt.mpr hT')
    have hTs:∀ b∈[T'],b=T':=fun b hb=>mem_singleton.mp hb
    have J3:Inv X pins σ1 H1 { s1 with heap:=h3 }:=J2.call' (s':={ s1 with heap:=h3 }) (ch:=[T']) rfl (by rw [hstk.1];exact E2 kp3 fun b hb=>by rw [hTs b hb];exact hTn) (Qt J2.hok kp3 (fun b hb=>by rw [hTs b hb];exact hTn) hfree) J2.bare fun b hb=>by rw [hTs b hb];exact ⟨.inr (le_trans J1.sz hT'),hTl.1,hTl.2,hTp⟩
    obtain ⟨oe',ve',_,_,e1,e2,e3,e4,_⟩:=id tr3;have el:=nloc J3 e1 e4;have efs:e∉X.fs:=fun z=>by
     obtain ⟨_,o,ho,hnf⟩:=y2.mem (show e∈(X.env::X.outer).filterMap (·.frame) from by
      rw [filterMap_cons,hstk.2];exact mem_cons_of_mem _ z)
     have ho:h3.get? e=some o:=ho;rw [e1] at ho;cases ho;exact hnf ve' e4
    have hs:∀ p∈X.pn++pins,p∈X.pn++pins++[(e,oe')]:=fun p hp=>mem_append_left _ hp
    have J4:Inv (X.inR (X.pn++pins++[(e,oe')]) e) [] σ1 H1 { s1 with heap:=h3 } :=
     ⟨⟨J3.ok.mod,J3.ok.kind,J3.ok.glob,J3.ok.blt,J3.ok.above,J3.ok.inj,J3.ok.has,J3.ok.cab,(fun z=>nomatch z),J3.ok.frames,J3.ok.stk,J3.ok.exf,J3.ok.bs,J3.ok.bsz,J3.ok.noex,J3.ok.exfs,J3.ok.funs,J3.ok.frf⟩,J3.os,J3.bare,J3.base,J3.loc,J3.cell,J3.free,J3.freeC,fun p hp=>by
      rw [append_nil] at hp;rcases mem_append.mp hp with hp | hp
      ·exact J3.pin p hp
      ·rw [mem_singleton.mp hp]
       exact ⟨e1,x.un,el.1,efs,fun v z=>by rw [e4] at z;cases z⟩,J3.hok,J3.len⟩
    have fl2:Dj fr (X.inR (X.pn++pins++[(e,oe')]) e) B A1 H1 D (kf env'):=by
     have q2:=qf.step st1;cases ek:kf env' with
     | exc e' c' f' =>
      rw [ek] at q2;exact fun A' H' σ' s' k' pins2 s5 e5 C5 d5 I5 hc5 x5 hf5 hn5=>q2 A' H' σ' s' k' pins s5 e5 C5 d5 (I5.ofR I.ok hs) hc5 ⟨x5.lo,x5.un,x5.ob.imp id fun ⟨T,c2,a1,a2,a3,a4⟩=>⟨T,c2,a1,a2,fun p hp=>a3 p (mem_append_left _ (hs p hp)),a4⟩,fun p hp=>x5.pe p (mem_append_left _ (hs p hp))⟩ hf5 hn5
     | next e'=>rw [ek] at q2;exact q2
     | brk e'=>rw [ek] at q2;exact q2
     | cont e'=>rw [ek] at q2;exact q2
     | ret d=>rw [ek] at q2;exact q2
     | no=>rw [ek] at q2;exact q2
    exact wpAny_mono (hh (X.pn++pins++[(e,oe')]) e [] _ _ _ _ J4 ⟨_,B,A1,kv1,hst,fl2⟩) (fun f s6 hs6=>hs6.ofR I.ok hs) (fun ev s6 z=>hp e ev s6 z)
   -- behind the landing
   have after:∀ (h2:Heap) (T':Addr) (c2:Option Value) (ch:List Addr),s1.heap.objs.size<=T'->X.base.StaysIn h2->h2.FunFrames X.base (X.env::X.outer)->Do h2 X.base e T' (.ref C,c2) dct .none->Iu (X.env::X.outer) ch s1.heap h2->(∀ b∈ch,H1 b=none/\X.s₀.heap.objs.size<=b/\b≠X.env.locals/\(∀ y c,X.env.cells.lookup y=some c->c≠b)/\∀ p∈X.pn++pins,p.1≠b) ->
     wpAny (model X.prog X.w) X.A (handleBy (.ref e) X.env HS) (SP X pins D) X.xe { s1 with heap:=h2 }:=by
    intro h2 T' c2 ch hT' sb2 ff2 tr2 kp hch;have J2:Inv X pins σ1 H1 { s1 with heap:=h2 }:=J1.call' (s':={ s1 with heap:=h2 }) (ch:=ch) rfl (by rw [hstk.1];exact E2 kp fun b hb=>(hch b hb).1) (Qt J1.hok kp (fun b hb=>(hch b hb).1) hfree) J1.bare fun b hb=>⟨.inr (hch b hb).2.1,(hch b hb).2.2.1,(hch b hb).2.2.2.1,(hch b hb).2.2.2.2⟩
    obtain ⟨oe,ve,oT,ts,g1,g2,g3,g4,g5,g6,g7,g8,g9,g10⟩:=id tr2;have g2:=(Prod.mk.inj g2).1;have LT:Looks (model X.prog X.w) h2 (typeOf (.ref e)) (.ref C):=g2▸(Looks.ld g1).andThen .now;have e1:=x1 c C hkn hcl;refine wpAny_handleBy_cons (codeAny_handlers_test (Uc (J2.toH (e:=e)) hg1 m1 ?_ hdb1)) (by intro z;cases z);cases z1:b1' c with
    | true =>
     rw [z1] at e1;rw [if_pos z1] at q;exact (exm_one (M:=model X.prog X.w) J2.kIn LT e1).here (suite b1 su1 hp1 k1 h1 q h2 T' c2 hT' sb2 ff2 tr2 J2)
    | false =>
     rw [if_neg (by rw [z1];exact Bool.false_ne_true)] at q;exact q.elim
   show wpAny _ _ _ _ _ _;rcases x.ob with ⟨o,vs,he,hc,hd,hda,hv1,hpl⟩ | ⟨T0,c2,hT,hTn,hTp,ht,hpl⟩
   ·refine Qp hfr hl hstk.2 he hkb hen hda hv1 fun h' T' x0 x1 x2 x3 x4 x5=>?_
    refine Er (s:={ s1 with heap:=h' }) x1 x2 x3 fun h2 y1 y2 y3 y4 y5=>?_
    rw [hc,hd] at y3;refine after h2 T' _ [e] x0 y1 y2 y3 (Jg x4 x0 y4) fun b hb=>?_
    rw [mem_singleton.mp hb];have z:=nloc J1 he hda;exact ⟨x.un,x.lo,z.1,z.2,hpn x.pe⟩
   ·refine Fu hfr hl hstk.2 ht hkb hen fun h' T' x0 x1 x2 x3 x4 x5=>?_
    refine Er (s:={ s1 with heap:=h' }) x1 x2 x3 fun h2 y1 y2 y3 y4 y5=>?_
    refine after h2 T' _ [e,T0] x0 y1 y2 y3 (Jg x4 x0 y4) fun b hb=>?_
    obtain ⟨oe,ve,oT,ts,g1,g2,g3,g4,g5,g6,g7,g8,g9,g10⟩:=id ht;rcases mem_cons.mp hb with z | z
    ·rw [z];have w:=nloc J1 g1 g4;exact ⟨x.un,x.lo,w.1,w.2,hpn x.pe⟩
    ·rw [mem_singleton.mp z];have w:=nloc J1 g8 g9;exact ⟨hTn,hT,w.1,w.2,hpn hTp⟩
 refine wpAny_Try_except (wpAny_mono (hb (X.pn++pins) EX [] s σ H D I.toTry ⟨env,B,A,kk,hst,flok⟩) (fun f s₁ hs=>?_) (fun e s₁ hx=>hx));cases f with
 | next=>obtain ⟨σ',H',I',q'⟩:=hs;exact wpAny_pure ⟨σ',H',I'.ofTry I.ok,q'⟩
 | brk=>obtain ⟨σ',H',I',q'⟩:=hs;exact ⟨σ',H',I'.ofTry I.ok,q'⟩
 | cont=>obtain ⟨σ',H',I',q'⟩:=hs;exact ⟨σ',H',I'.ofTry I.ok,q'⟩
 | ret u=>obtain ⟨v,σ',H',I',r',q'⟩:=hs;exact ⟨v,σ',H',I'.ofTry I.ok,r',q'⟩
end
theorem Z3z {K:Frag} {mg:Str->Option Value} {raised:List Str} {T:Str} {D:Addr} {b:Str->Bool} (hm:mg T=some (.ref D)) (h:∀ c∈raised,∃ C,U1 K c C/\exmOne K (.ref C) (.ref D)=some (b c)):Z8q K mg T raised b:=by
 refine ⟨D,hm,fun c C hc hb=>?_⟩;obtain ⟨C',h1,h2⟩:=h c hc;unfold U1 at hb h1;rw [hb] at h1;cases h1;exact h2
def Ah (i j:Int):Prop:=0<j/\j<18446744073709551616
instance (i j:Int):Decidable (Ah i j):=by unfold Ah;infer_instance
theorem Z29 {X:Cx}:Ma X (binaryOp .FloorDiv) (rI Ah fun i j=>.int (i / j)):=opI fun i j _ _ _ _ _ hc q=>by
 have h1:(0:Int)<j:=hc.1;have h2:j<18446744073709551616:=hc.2;refine floordiv_int (by lia) (by rw [Int.fdiv_eq_ediv_of_nonneg i (by lia)];exact q) (.inl (PyProof.noPylong_of_log2 ?_));have h0:j.natAbs≠0:=by lia
 have:j.natAbs.log2<64:=(Nat.log2_lt h0).mpr (by lia);lia
def Fz:=Gm Ah fun i j=>.int (i / j)
theorem Z43 {X:Cx}:Ji X (binaryOp .FloorDiv) Fz:=F9 Z29 fun _ _ _ _=>Yk
section
variable {X:Cx} {m fr:Bool} {e:Expr} {es:List Expr} {f:Ev->Option Dat} {fs:Ev->Option (List Dat)} {p p2 pos:Pos}
end
section
variable {X:Cx} {fr:Bool} {g h:Ev->Fl} {body:List Stmt} {b₀:Stmt} {suite:List Stmt} {T n:Str} {np hpos pos:Pos} {i:Nat} {sub:Str->Bool} {DT:Addr}
end
section
variable {X:Cx}
end
end L2
namespace HT
open PySem PyProof.Rows
def lexGt:List Int->List Int->Bool
 | [],[]=>false
 | [],_::_=>false
 | _::_,[]=>true
 | x::xs,y::ys=>if x=y then lexGt xs ys else decide (y<x)
theorem Xc (x y:Int) (xs ys:List Int):lexGt (x::xs) (y::ys)=if x=y then lexGt xs ys else decide (y<x):=rfl
theorem Kg:lexGt [] []=false:=rfl
theorem Hf (y:Int) (ys:List Int):lexGt [] (y::ys)=false:=rfl
theorem Gs (x:Int) (xs:List Int):lexGt (x::xs) []=true:=rfl
theorem Z37 (A:Around) (s:Shared) (a:Int) (t:Tok) (c:Int) (u:Tok) (prog:Program) (w:World) (E:Value->Shared->Prop) (Q:Value->Shared->Prop) (h:Q (.bool (decide (c<a))) s) :
  wpAny (model prog w) A (richCompare .Gt (.int a t) (.int c u)) Q E s :=
 (PyProof.Rows.gt_int h:wpAny (model prog w) A (compareOp .Gt (.int a t) (.int c u)) Q E s)
section
open PySem.SeqAt
open PySem.AutoSeq1 (wpAny_loadPart')
open PySem.MeetsSeq PySem.MeetsSeq2 PySem.MeetsSeq3
theorem Kj (l b:Addr) (items items2:Array Value) (n n2:Nat) (dd dd2:Option Addr) (sl sl2:Array (Option Value)) (ns ms:List Int) (hi:IntsAre items.toList ns) (hj:IntsAre items2.toList ms) :
  Meets (Builtin.«tuple.__gt__» ⟨[.ref l,.ref b],[]⟩)
   (fun _ R s=>s.heap.get? l=some { cls:=.type "tuple",dict:=dd,data:=.seq items n,slots:=sl }/\s.heap.get? b=some { cls:=.type "tuple",dict:=dd2,data:=.seq items2 n2,slots:=sl2 } /\
    R (.ok (.ret (.bool (lexGt ns ms)))) s) :=
 .of_wp fun prog w A R s h=>by
  obtain ⟨hp,g,d,tk,os⟩:=s;obtain ⟨hl,hb,h⟩:=h;have f2:=AutoSeq1.sub_tuple_tuple;have z1:items.size=ns.length:=by rw [← hi.length];simp
  have z2:items2.size=ms.length:=by rw [← hj.length];simp
  wp_walk using wpAny_loadPart' hl,wpAny_loadPart' hb,wpAny_forIn_list _ (fun rest b s'=>b.1=none/\s'=⟨hp,g,d,tk,os⟩/\∃ (vs ws:List Value) (ns' ms':List Int),rest=vs.zip ws /\
   IntsAre vs ns'/\IntsAre ws ms'/\ns'.length+items2.size=ms'.length+items.size/\R (.ok (.ret (.bool (lexGt ns' ms')))) ⟨hp,g,d,tk,os⟩) _
  case turn =>
   rintro ⟨y,x⟩ rest b s' ⟨hb',rfl,vs,ws,ns',ms',hz,hvi,hwi,hlen,hR⟩;cases hvi with
   | nil=>rw [List.zip_nil_left] at hz;cases hz
   | cons a t hvi' =>
    cases hwi with
    | nil=>rw [List.zip_nil_right] at hz;cases hz
    | cons c u hwi' =>
     rw [List.zip_cons_cons] at hz;injection hz with hyx hrest
     injection hyx with hy hx
     subst hy hx;rw [Xc] at hR;simp only [length_cons] at hlen;obtain ⟨e,he,hiff⟩:=Z1e A.in1 ⟨hp,g,d,tk,os⟩ a t c u;refine wpAny_bind (he prog w _ _ ?_);cases e with
     | true =>
      rw [if_pos (hiff.mp rfl)] at hR
      wp_walk
      exact ⟨rfl,rfl,_,_,_,_,hrest,hvi',hwi',by lia,hR⟩
     | false =>
      rw [if_neg (fun q=>absurd (hiff.mpr q) Bool.false_ne_true)] at hR;have hri:=Z37 A.in1 ⟨hp,g,d,tk,os⟩ a t c u prog w
      wp_walk using hri
      exact ⟨_,rfl,by simpa using hR⟩
  case fin =>
   rintro ⟨b1,b2⟩ s' ⟨hb',rfl,vs,ws,ns',ms',hz,hvi,hwi,hlen,hR⟩;simp only at hb';subst hb';have hv:lexGt ns' ms'=decide (items2.size<items.size):=by
    cases hvi with
    | nil =>
     cases hwi with
     | nil =>
      simp only [length_nil] at hlen;rw [Kg];exact (decide_eq_false (by lia)).symm
     | cons c u hw =>
      simp only [length_nil,length_cons] at hlen;rw [Hf];exact (decide_eq_false (by lia)).symm
    | cons a t hv =>
     cases hwi with
     | nil =>
      simp only [length_nil,length_cons] at hlen;rw [Gs];exact (decide_eq_true (by lia)).symm
     | cons c u hw =>
      rw [List.zip_cons_cons] at hz;cases hz
   rw [hv] at hR
   wp_walk
   exact ⟨_,rfl,by simpa [Builtin.Tuple.tupleCompareSizes] using hR⟩
  case h =>
   exact ⟨rfl,rfl,items.toList,items2.toList,ns,ms,rfl,hi,hj,by lia,h⟩
end
section
variable {prog:Program} {w:World} {A:Around} {E:Value->Shared->Prop} {s:Shared}
theorem gt_tupInts {l b:Addr} {items items2:Array Value} {ns ms:List Int} {Q:Value->Shared->Prop} (hl:IsTup s.heap l items) (hb:IsTup s.heap b items2) (hi:IntsAre items.toList ns) (hj:IntsAre items2.toList ms)
  (hu:A.units<cLine) (h:Q (.bool (lexGt ns ms)) s):wpAny (model prog w) A (compareOp .Gt (.ref l) (.ref b)) Q E s:=by
 obtain ⟨⟨cls,dd,data,sl⟩,ho,hc,n,hd⟩:=id hl;obtain ⟨⟨cls2,dd2,data2,sl2⟩,ho2,hc2,n2,hd2⟩:=id hb;simp only at hc hd hc2 hd2;subst hc hd hc2 hd2;exact richCompare_meets_room (op:=.Gt) ⟨_,ho,rfl⟩ ⟨_,ho2,rfl⟩ PySem.F.slot_tuple_gt PySem.F.entry_tuple_gt (PySem.F.args_tuple_gt_2 _ _) (Kj l b items items2 n n2 dd dd2 sl sl2 ns ms hi hj)
  ⟨ho,ho2,show Value.bool (lexGt ns ms)≠Value.notImplemented/\Q (.bool (lexGt ns ms)) s from ⟨(fun x=>nomatch x),h⟩⟩ hu
end
end HT
namespace L2
open PySem PySem.Spec PyProof.Rows
section
variable {X:Cx} {e:Expr} {te:TE} {lo hi:Option Expr} {tl th:TO} {pos p2:Pos}
def Zd8 (K:PySem.W.Frag):R2:=fun x y H Q=>∃ a b ns ms,x=.ref a/\y=.ref b/\Mv K H a (ns.map V.int)/\Mv K H b (ms.map V.int)/\Q (.bl (HT.lexGt ns ms)) H
theorem Z8n (hu:X.A.units<cLine):Ma X (compareOp .Gt) (Zd8 X.K):=by
 intro pins s σ H x y v u Q I rx ry h;obtain ⟨a,b,ns,ms,rfl,rfl,ha,hb,q⟩:=h;cases rx;cases ry;obtain ⟨its,r1,p1,_⟩:=I.tuple ha;obtain ⟨its2,r2,p2,_⟩:=I.tuple hb;have i1:IntsAre its.toArray.toList ns:=Jk r1;have i2:IntsAre its2.toArray.toList ms:=Jk r2;exact HT.gt_tupInts p1 p2 i1 i2 hu ⟨.bl (HT.lexGt ns ms),H,I,rfl,q⟩
end
end L2
namespace L2
open PySem PySem.Spec PyProof.Rows PySem.W
section
variable {X:Cx} {m fr:Bool} {e o:Expr} {f g:Ev->Option Dat} {pos:Pos}
def gtT:Dat->Dat->Option Dat
 | .tup xs,.tup ys=>(Tl xs).bind fun ns=>(Tl ys).map fun ms=>.bl (HT.lexGt ns ms)
 | _,_=>none
theorem Zaz (hu:X.A.units+64<cLine):Ji X (compareOp .Gt) gtT:=Ma.weak (Z8n (by lia)) fun v u H Q zz=>by
 obtain ⟨A,x,y,d,mu,e,p1,p2,q⟩:=zz;unfold gtT at e;split at e
 ·obtain ⟨ns,e1,e⟩:=bind_some e
  obtain ⟨ms,e2,e⟩:=map_some e;subst e;obtain ⟨a,vs,z1,z2,z3⟩:=p1.tup;obtain ⟨b,us,w1,w2,w3⟩:=p2.tup;rw [Td e1] at z3;rw [Td e2] at w3;rw [Wf z3] at z2;rw [Wf w3] at w2;exact ⟨a,b,ns,ms,z1,w1,z2,w2,q.here Vd⟩
 ·cases e
theorem Z9s {x:Str} {bp:Bool} {F:List Dat->Rs} {k:Nat} {ps:List Str} {es:List Expr} {fs:Ev->Option (List Dat)} {p:Pos} (C:CalX X.prog X.w X.K X.mg X.base k x ps fr F bp) (hr:Room k X.A) (ha:Km false X (e::es) fs) (hg:Gl X x:=by rfl)
  (hdb:(x==("__debug__" : Str))=false:=by decide) (he:starEach (e::es) X.env=(false,eval e X.env)::starEach es X.env:=by rfl) (hpl:(backTo pos (starEach es X.env)).any (·.1)=false:=by rfl) (hp:X.pl=false:=by rfl) :
  W4 m X (.Call (.Name x p) (e::es) [] pos) (Yu F fs):=W4.any ((Z39 C hr ha hg hdb he hpl (fun z=>by rw [hp] at z;cases z)).weak fun σ H Q zz=>by
 obtain ⟨env,B,A,d,kk,q1,q2⟩:=zz;obtain ⟨ds,e1,e2⟩:=bind_some q1;have e3:=Gp e2;refine ⟨env,B,A,ds,kk,e1,?_⟩;rw [e3];exact fun v H' s r=>q2 v H' s r)
def J9 (kvs:List (List Wg×Int)) (ks:List Wg):Option Int:=(kvs.find? fun kv=>decide (kv.1=ks)).map (·.2)
theorem Ip:∀ {kvs:List (List Wg×Int)} {ks:List Wg},Jb (Di kvs) ks=(J9 kvs ks).map V.int
 | [],ks=>rfl
 | (k,n)::r,ks=>by
   have ih:=Ip (kvs:=r) (ks:=ks);unfold Jb J9 Di at ih ⊢;rw [map_cons,find?_cons,find?_cons];by_cases h:k=ks
   · simp [h]
   · simp only [decide_eq_false h];exact ih
theorem Pk.dct {K:Frag} {A:AS} {H:Hp} {kvs:List (List Wg×Int)} {v:V} (p:Pk K A H (.dct kvs) v):kvs.length<=sizeLine/\∃ a,v=.ref a/\H a=some (.dT (Di kvs)):=Z32 p.rp
def dIn (neg:Bool) (f g:Ev->Option Dat):Ev->Option Dat:=fun env=>match f env,g env with
 | some d,some (.dct kvs)=>(Ot d).map fun ks=>.bl (if neg then !(J9 kvs ks).isSome else (J9 kvs ks).isSome)
 | _,_=>none
theorem Z0w {kvs:List (List Wg×Int)} {ks:List Wg}:(Jb (Di kvs) ks).isSome=(J9 kvs ks).isSome:=by rw [Ip,Option.isSome_map]
theorem Zda (hu:X.A.units+1<cLine) (he:W4 true X e f) (ho:W4 true X o g) (hm:behindInMarks .In o=false:=by rfl):W4 m X (.Compare e [.In] [o] pos) (dIn false f g):=W4.any (PE.weak (Z8b (Z0h hu he ho) hm) fun σ H Q zz=>by
 obtain ⟨env,R,A,d,k,e1,q⟩:=zz;unfold dIn at e1;split at e1
 ·rename_i d0 kvs h1 h2
  obtain ⟨ks,hk,e3⟩:=map_some e1;subst e3;refine ⟨env,R,A,d0,k,h1,fun y H1 s1 r1=>⟨env,R,A,_,k.mono s1,h2,fun v H2 s2 r2=>?_⟩⟩;obtain ⟨_,a,e2,e3⟩:=Pk.dct (Rm.pk r2);obtain ⟨b,e4,e5⟩:=Ra hk (r1.pk.mono s2);subst e4;refine ⟨a,_,e2,Du.t e3 e5,?_⟩;rw [Z0w];exact (q.mono (s1.trans s2)).here Vd
 ·cases e1)
theorem Z6q (hu:X.A.units+1<cLine) (he:W4 true X e f) (ho:W4 true X o g) (hm:behindInMarks .NotIn o=false:=by rfl):Aw X (.Compare e [.NotIn] [o] pos) (dB (dIn true f g)):=(Z2v (C9 hu he ho) hm).weak fun σ H Q zz=>by
 obtain ⟨env,R,A,d,k,e1,q⟩:=zz;have e1:=Sn e1;unfold dIn at e1;split at e1
 ·rename_i d0 kvs h1 h2
  obtain ⟨ks,hk,e3⟩:=map_some e1;have e3:=Dat.bl.inj e3;subst e3;refine ⟨env,R,A,d0,k,h1,fun y H1 s1 r1=>⟨env,R,A,_,k.mono s1,h2,fun v H2 s2 r2=>?_⟩⟩;obtain ⟨_,a,e2,e3⟩:=Pk.dct (Rm.pk r2);obtain ⟨b,e4,e5⟩:=Ra hk (r1.pk.mono s2);subst e4;refine ⟨a,_,e2,Du.t e3 e5,_,rfl,?_⟩;rw [Z0w];exact q H2 (s1.trans s2)
 ·cases e1
def X4 (f g:Ev->Option Dat):Ev->Option Dat:=fun env=>match f env,g env with
 | some (.dct kvs),some d=>(Ot d).bind fun ks=>(J9 kvs ks).map .int
 | _,_=>none
theorem Z20 (hu:X.A.units+1<cLine) (ho:W4 true X o f) (he:W4 true X e g) (hs:Z83 e):W4 m X (.Subscript o e pos) (X4 f g):=W4.any (PE.weak (Z4w hu ho he hs) fun σ H Q zz=>by
 obtain ⟨env,R,A,d,k,e1,q⟩:=zz;unfold X4 at e1;split at e1
 ·rename_i kvs d0 h1 h2
  obtain ⟨ks,hk,e3⟩:=bind_some e1;obtain ⟨n,hn,e3⟩:=map_some e3;subst e3;refine ⟨env,R,A,_,k,h1,fun v H1 s1 r1=>⟨env,R,A,d0,k.mono s1,h2,fun y H2 s2 r2=>?_⟩⟩;obtain ⟨_,a,e2,e3⟩:=Pk.dct ((Rm.pk r1).mono s2);obtain ⟨b,e4,e5⟩:=Ra hk (Rm.pk r2);subst e4;have hv:Jb (Di kvs) ks=some (V.int n):=by rw [Ip,hn];rfl
  exact ⟨a,.int n,e2,hv▸Du.t e3 e5,(q.mono (s1.trans s2)).here Yk⟩
 ·cases e1)
def Fk (f:Ev->Option Dat):Ev->Option Dat:=fun env=>match f env with
 | some (.dct kvs)=>some (.int (kvs.length:Int))
 | _=>none
theorem Z66 {y:Str} {p:Pos} (hg:Gl X y) (hm:X.mg y=none) (hb:bootBuiltins y=some (.builtin "len")) (he:W4 true X e f) (hn:y≠"__name__" := by decide) (hdb:(y==("__debug__" : Str))=false:=by decide)
  (hs:starEach [e] X.env=(false,eval e X.env)::starEach [] X.env:=by rfl):W4 m X (.Call (.Name y p) [e] [] pos) (Fk f) :=
 W4.any ((Db Bu hg hm hb (V7 he Q8 hs) hn hdb hs rfl).weak fun σ H Q zz=>by
  obtain ⟨env,R,A,d,k,e1,q⟩:=zz;unfold Fk at e1;split at e1
  ·rename_i kvs h1
   cases e1;refine ⟨env,R,A,_,k,h1,fun v H1 s1 r1=>?_⟩;obtain ⟨_,a,e2,e3⟩:=Pk.dct (Rm.pk r1);subst e2;refine ⟨a,Di kvs,rfl,e3,?_⟩;have hl:(Di kvs).length=kvs.length:=by unfold Di;rw [length_map]
   rw [hl];exact (q.mono s1).here Yk
  ·cases e1)
def Z6o (i:Nat):Ev->Fl:=fun env=>.next (env.set i (.gx (.dict [])))
theorem Z8w (i:Nat) {x:Str} {pos' dpos:Pos} (hN:X.N.Nodup) (hi:X.N[i]?=some x) (hx:Fj X.env.scope x) (hs:swapsWith (.Dict [] [] dpos) (some (.Name x pos')) pos.line X.env=pure false:=by rfl)
  (hf:X.fn x=true\/X.env.scope.names.lookup x=some .local:=by first | exact .inl rfl | exact .inr rfl | assumption):Sb fr X (.Assign [.Name x pos'] (.Dict [] [] dpos) pos) (Z6o i):=(K0 hN hi hx Z19 hs hf).weak fun D σ H zz=>by
 obtain ⟨env,B,A,k,hst,q⟩:=zz;intro p hp;have hS:GOk X.K (Im A (fun b=>b==p)) (W6 H p (.dT [])) (fun b=>(b==p)=true) (.dict []) (.ref p):=⟨p,[],rfl,by simp,zero_le _,Zt,rfl,Vl⟩;obtain ⟨h1,h2⟩:=k.putG hst i (Zp.new hp) (fun b hb=>by rw [eq_of_beq hb];exact hp) (fun b hb=>by rw [eq_of_beq hb,Zt];trivial) hS;exact q _ _ _ h1 h2
end
end L2
namespace L2
open PySem PySem.Spec PyProof.Rows
def Yd:=@xix false
def Zz:=@xix true
def Z3:=@xv true
def Z1:=@Zc8 true
def Wy:=@Zc8 false
def Zb:=@xv false
def Zf:=@xop false
def Z8:=@xop true
def Wz:=@Zc7 false
def Zw {X:Cx}:=@Zaj X false
def U8 {X:Cx}:=@Zaj X true
def Mt:=@PNd.x false
def Zo:=@Zb2 false
def Ya:=@Z2m true
def Y7:=@PNd.x true
def T9:=@Z40 false
def Qb:=@Zb2 true
def Yt:=@Zbx false
def Wt:=@Xk true
def Us:=@Z2m false
end L2
namespace K25
open PySem PySem.Spec PyProof.Rows L2
abbrev N0_:List Str:=["_law_script","_law_first","_law_n","_law_many","_law_order_here","_law_size","_law_cell","_law_pairs","_law_w","_law_one","_law_two","_law_takes","_law_fills","_law_marks","_law_spots","_law_i","_law_j","_law_code","_law_seen","_law_steps","_law_d","_law_turn","_law_word_here","_law_wires"]
abbrev N1_:List Str:=["_law_cell","_law_n","_law_kinds","_law_code","_law_size","_law_low","_law_marks","_law_many","_law_word_here","_law_steps","_law_k","_law_takes","_law_fills","_law_some","_law_more","_law_wires"]
abbrev N2_:List Str:=["_law_graph_here","_law_cell","_law_wires","_law_steps","_law_marks","_law_code","_law_there","_law_step","_law_spot","_law_some","_law_k","_law_wire","_law_up","_law_takes","_law_fills"]
abbrev N3_:List Str:=["_law_script","_law_first","_law_cell","_law_base","_law_code","_law_steps","_law_wires","_law_k","_law_more","_law_x","_law_up","_law_spot","_law_turn"]
abbrev N4_:List Str:=["_law_script","_law_cell","_law_free","_law_graph_here","_law_rows","_law_numbers","_law_n","_law_row","_law_stand","_law_turn","_law_some"]
abbrev N5_:List Str:=["_law_script","_law_first","_law_many","_law_size","_law_pairs","_law_k","_law_cell","_law_i","_law_j"]
abbrev N6_:List Str:=["_law_graph_here","_law_rows","_law_numbers","_law_stand","_law_some","_law_k","_law_step","_law_new"]
abbrev N7_:List Str:=["_law_cell","_law_k","_law_letters","_law_size","_law_at","_law_word_here","_law_j","_law_shift"]
abbrev N8_:List Str:=["_law_script","_law_first","_law_n","_law_order_here","_law_w","_law_cell","_law_at","_law_far"]
abbrev N9_:List Str:=["_law_step","_law_stand","_law_marks","_law_code","_law_spot"]
abbrev N10_:List Str:=["_law_graph_here","_law_rows","_law_numbers","_law_stand"]
abbrev N11_:List Str:=["graph","most","found","seen","at","here","step","stand"]
abbrev N12_:List Str:=["_law_w","_law_word_here","_law_script","_law_first"]
abbrev N13_:List Str:=["_law_script","_law_first","_law_many","_law_size"]
abbrev N14_:List Str:=["_law_script","_law_first","_law_n","_law_many"]
abbrev N15_:List Str:=["graph","stand","step","wire","left","fills"]
abbrev N16_:List Str:=["_law_graph_here","_law_most","_law_rows"]
abbrev N17_:List Str:=["_law_w","_law_word_here","_law_kinds"]
abbrev N18_:List Str:=["_law_script","_law_first","_law_n"]
abbrev N19_:List Str:=["_law_pair","_law_one","_law_two"]
abbrev N20_:List Str:=["_law_p","_law_low","_law_takes"]
abbrev N21_:List Str:=["_law_p","_law_low","_law_fills"]
abbrev N22_:List Str:=["_law_graph_here","_law_cell"]
abbrev N23_:List Str:=["_law_graph_here","_law_most"]
abbrev N24_:List Str:=["Broken","Crowded","TooMany"]
abbrev N25_:List Str:=["graph","found","at","step"]
abbrev N26_:List Str:=["_law_script","_law_first"]
abbrev N27_:List Str:=["_law_step","_law_marks"]
abbrev N28_:List Str:=["_law_step","_law_stand"]
abbrev N29_:List Str:=["_law_spot","_law_marks"]
abbrev N30_:List Str:=["graph","stand","step"]
abbrev N31_:List Str:=["_law_script","_law_k"]
abbrev N32_:List Str:=["step","graph","stand"]
abbrev N33_:List Str:=["_law_k","_law_pairs"]
abbrev N34_:List Str:=["_law_p","_law_there"]
abbrev N35_:List Str:=["_law_cell","_law_k"]
abbrev N36_:List Str:=["number","place"]
abbrev N37_:List Str:=["graph","stand"]
abbrev N38_:List Str:=["graph","step"]
abbrev N39_:List Str:=["_law_script"]
abbrev N40_:List Str:=["self","way"]
def Q4:Ev->Fl:=(Vn (dO V1 (dO V1 (dO V1 (dV 0) (dC (.int 1))) (dV 1)) (dC (.int 0))))
def R3:List Dat->Rs:=We 2 2 Q4
def Q2:Ev->Fl:=(Vn (dO V1 (dO V1 (dO V1 (dV 0) (dC (.int 1))) (dV 1)) (dC (.int 1))))
def Rg:List Dat->Rs:=We 2 2 Q2
def Uj:Ev->Fl:=(Vn (dO V1 (dO V1 (dO V1 (dV 0) (dC (.int 1))) (dV 1)) (dC (.int 2))))
def Uk:List Dat->Rs:=We 2 2 Uj
def Ui:Ev->Fl:=(Vn (dO V1 (dO V1 (dO V1 (dV 0) (dC (.int 1))) (dV 1)) (dC (.int 3))))
def Jz:List Dat->Rs:=We 2 2 Ui
def Ds:Ev->Fl:=(Ze (Zr 1 (dC (.int 0)))
 (Ze (Tz (Qi (dV 0)) (Yj 2) (Zr 1 (dO orD (dV 1) (dO Q6 (dC (.int 1)) (dV 2)))))
 (Vn (dV 1))))
def S9:List Dat->Rs:=We 3 1 Ds
def Q3:Ev->Fl:=(Vn (dO Jj (dO Tf (dO J6 (dV 0) (dV 1)) (dC (.int 1))) (dC (.int 1))))
def R4:List Dat->Rs:=We 2 2 Q3
def Ks:Ev->Fl:=(Ze (Zr 3 (Yu S9 (Z2 (Yu Uk (Z2 (dV 0) (Z2 (dV 2) Zc))) Zc)))
 (Vn (dO Jj (dO Tf (dO V1 (dV 1) (dC (.int 0))) (dV 3)) (dV 3))))
def Hg:List Dat->Rs:=We 4 3 Ks
def U6:Ev->Fl:=(Ze (Zr 3 (Yu R3 (Z2 (dV 0) (Z2 (dV 2) Zc))))
 (Ze (Mx (dB (dO Jj (Yu R4 (Z2 (dO V1 (dV 1) (dC (.int 1))) (Z2 (dV 3) Zc))) (Yu Rg (Z2 (dV 0) (Z2 (dV 2) Zc))))) (Vv "Broken" (gW "way") (Z2 (dL (Vu (Z2 (dV 2) Zc))) Zc)) Tp)
 (Ze (Zr 4 (dO Tf (dO V1 (dV 1) (dC (.int 0))) (dU Z8l (Yu S9 (Z2 (Yu Uk (Z2 (dV 0) (Z2 (dV 2) Zc))) Zc)))))
 (Ze (Zr 5 (Yu S9 (Z2 (Yu Jz (Z2 (dV 0) (Z2 (dV 2) Zc))) Zc)))
 (Ze (Mx (dB (dO Ax (dO Tf (dV 4) (dV 5)) (dC (.int 0)))) (Vv "Crowded" (gW "way") (Z2 (dL (Vu (Z2 (dV 2) Zc))) Zc)) Tp)
 (Vn (Yi (Z2 (dO orD (dV 4) (dV 5)) (Z2 (dO Z5z (dO V1 (dV 1) (dC (.int 1))) (dO Q6 (dC (.int 1)) (dV 3))) Zc)))))))))
def Q5:List Dat->Rs:=We 6 3 U6
def Up:Ev->Fl:=(Vn (dL (Qk (Te (Z2 (dF Qh (Z2 (dO V1 (dV 0) (dC (.int 1))) Zc)) Zc)) [none,some 0,some 1] (Yj 0) (dT (Yu Hg (Z2 (dV 1) (Z2 (dV 2) (Z2 (dV 0) Zc))))) (dV 0))))
def Jo:List Dat->Rs:=We 2 2 Up
def Kx:Ev->Fl:=(Ze (Sg 2 (Vu Zc))
 (Ze (Zr 3 (dV 1))
 (Ze (Mn (dB (dO Z93 (dO V1 (dO V1 (dV 0) (dV 3)) (dC (.int 2))) (dC .non))) (Ze (Qd 2 Wj (Z2 (dO V1 (dO V1 (dV 0) (dV 3)) (dC (.int 3))) Zc))
 (Zr 3 (dO V1 (dO V1 (dV 0) (dV 3)) (dC (.int 2))))))
 (Vn (dL (dLR (Z2 (dP 2) Zc)))))))
def Ig:List Dat->Rs:=We 4 2 Kx
def Uq:Ev->Fl:=(O9 N24_ "Broken" "Crowded" (Oz Q5 (Z2 (dV 0) (Z2 (dS Kh (dO V1 (dV 1) (dV 2)) Ja (Va (dC (.int 2)))) (Z2 (dV 3) Zc)))) (Vv "Broken" (gW "way") (Z2 (dL (dO K2 (Yu Ig (Z2 (dV 1) (Z2 (dV 2) Zc))) (dL (Vu (Z2 (dV 3) Zc))))) Zc)) (Vv "Crowded" (gW "way") (Z2 (dL (dO K2 (Yu Ig (Z2 (dV 1) (Z2 (dV 2) Zc))) (dL (Vu (Z2 (dV 3) Zc))))) Zc)))
def Jd:List Dat->Rs:=We 4 4 Uq
def Jf:Ev->Fl:=(Ze (Sg 2 (Vu (Z2 (Yi (Z2 (dO V1 (dV 0) (dC (.int 2))) (Z2 (dO V1 (dV 0) (dC (.int 3))) (Z2 (dC .non) (Z2 (dC .non) Zc))))) Zc)))
 (Ze (Oe 3 (Yi (Z2 (dO V1 (dV 0) (dC (.int 2))) (Z2 (dO V1 (dV 0) (dC (.int 3))) Zc))) (dC (.bl true)))
 (Ze (Zr 4 (dC (.int 0)))
 (Ze (Mn (dB (dO ltD (dV 4) (dF Qh (Z2 (dP 2) Zc)))) (Ze (Zr 5 (Yu Jo (Z2 (dV 0) (Z2 (dS Kh (dO V1 (dP 2) (dV 4)) Ja (Va (dC (.int 2)))) Zc))))
 (Ze (Tz (Qi (dV 5)) (Yj 6) (Ze (Ed 7 (Dg Jd) (Z2 (dV 0) (Z2 (dP 2) (Z2 (dV 4) (Z2 (dV 6) Zc)))))
 (Ze (Mx (dB (Z22 false 3 (dV 7))) (fun env=>.cont env) Tp)
 (Ze (Mx (dB (dO geD (dF Qh (Z2 (dP 2) Zc)) (dV 1))) (Vv "TooMany" gZ Zc) Tp)
 (Ze (S4 3 (dV 7) (dC (.bl true)))
 (Qd 2 Wj (Z2 (Yi (Z2 (dO V1 (dV 7) (dC (.int 0))) (Z2 (dO V1 (dV 7) (dC (.int 1))) (Z2 (dV 4) (Z2 (dV 6) Zc))))) Zc)))))))
 (Z3l 4 (dC (.int 1))))))
 (G0 2)))))
def Qa:List Dat->Rs:=We 8 2 Jf
def Uw:Ev->Fl:=(Ze (Zr 2 (dO Y8 (dO Md (dC (.int 7919)) (dV 1)) (dC (.int 12345))))
 (Ze (Mx (dB (dO ltD (dV 1) (dF Qh (Z2 (dV 0) Zc)))) (Zr 2 (dO Y8 (dV 2) (dO Md (dO V1 (dV 0) (dV 1)) (dC (.int 6364136223846793005))))) Tp)
 (Vn (dO W5 (dO Md (dV 2) (dC (.int 48271))) (dC (.int 1000000000039))))))
def Yb:List Dat->Rs:=We 3 2 Uw
def U0:Ev->Fl:=(Ze (Zr 2 (dC (.str "abcdefghijklmnopqrstuvwxyz")))
 (Ze (Zr 3 (dO Y8 (dC (.int 2)) (dO W5 (dV 0) (dC (.int 7)))))
 (Ze (Zr 4 (dO W5 (dO Yh (dV 0) (dC (.int 7))) (dV 3)))
 (Ze (Zr 5 (dC (.str "")))
 (Ze (Tz (Te (Z2 (dV 3) Zc)) (Yj 6) (Ze (Zr 7 (dC (.int 0)))
 (Ze (Mx (dB (dO Jj (dV 6) (dV 4))) (Zr 7 (dV 1)) Tp)
 (Zr 5 (dO Y8 (dV 5) (dO V1 (dV 2) (dO W5 (dO Y8 (dO Y8 (dO Yh (dV 0) (dC (.int 49))) (dO Md (dC (.int 5)) (dV 6))) (dO Md (dC (.int 7)) (dV 7))) (dC (.int 26)))))))))
 (Ze (Mx (dB (dO inF (dV 5) (dL (Vu (Z2 (dC (.str "given")) (Z2 (dC (.str "made")) (Z2 (dC (.str "up")) (Z2 (dC (.str "down")) (Z2 (dC (.str "start")) Zc))))))))) (Zr 5 (dO Y8 (dS Kh (dV 5) (Va (dC (.int 1))) Ja) (dC (.str "q")))) Tp)
 (Vn (dV 5))))))))
def Yr:List Dat->Rs:=We 8 2 U0
def Vi:Ev->Fl:=(Ze (Sg 3 (Vu Zc))
 (Ze (Tz (Te (Z2 (dV 2) Zc)) (Yj 4) (Ze (Zr 5 (Yu Yb (Z2 (dV 0) (Z2 (dO Y8 (dV 1) (dV 4)) Zc))))
 (Ze (Zr 6 (dO W5 (dV 5) (dO Y8 (dF Qh (Z2 (dP 3) Zc)) (dC (.int 1)))))
 (Ze (Qd 3 Sx (Z2 (dV 6) (Z2 (dV 4) Zc)))
 (Ze (Zr 7 (dO W5 (dO Yh (dV 5) (dC (.int 64))) (dO Ke (dF Qh (Z2 (dP 3) Zc)) (dV 6))))
 (Qd 3 Sx (Z2 (dO Y8 (dO Y8 (dV 6) (dC (.int 1))) (dV 7)) (Z2 (dV 4) Zc))))))))
 (G0 3)))
def Tu:List Dat->Rs:=We 8 3 Vi
def V2:Ev->Fl:=(Ze (Sg 4 (Vu Zc))
 (Ze (Tz (Te (Z2 (dV 2) Zc)) (Yj 5) (Ze (Zr 6 (Yu Yb (Z2 (dV 0) (Z2 (dO Y8 (dV 1) (dV 5)) Zc))))
 (Ze (Zr 7 (dO W5 (dV 6) (dV 3)))
 (Ze (Zr 8 (dO W5 (dO Yh (dV 6) (dC (.int 64))) (dV 3)))
 (Mx (Hi (dB (dO Ax (dV 7) (dV 8))) (dB (dO F0 (Yi (Z2 (dF N9 (Z2 (dV 7) (Z2 (dV 8) Zc))) (Z2 (dF Pj (Z2 (dV 7) (Z2 (dV 8) Zc))) Zc))) (dP 4)))) (Qd 4 Wj (Z2 (Yi (Z2 (dF N9 (Z2 (dV 7) (Z2 (dV 8) Zc))) (Z2 (dF Pj (Z2 (dV 7) (Z2 (dV 8) Zc))) Zc))) Zc)) Tp)))))
 (G0 4)))
def T4:List Dat->Rs:=We 9 4 V2
def Vj:Ev->Fl:=(Ze (Zr 4 (Yu Tu (Z2 (dV 0) (Z2 (dV 1) (Z2 (dV 2) Zc)))))
 (Ze (Zr 5 (dO Md (dC (.int 2)) (dV 2)))
 (Ze (Zr 6 (Yu Yb (Z2 (dV 0) (Z2 (dO Y8 (dV 1) (dV 2)) Zc))))
 (Ze (Zr 7 (Yu T4 (Z2 (dV 0) (Z2 (dO Y8 (dO Y8 (dV 1) (dV 2)) (dC (.int 1))) (Z2 (dV 3) (Z2 (dV 5) Zc))))))
 (Ze (Mx (dB (dO Jj (dO W5 (dV 6) (dC (.int 3))) (dC (.int 0)))) (Zr 7 (dO Y8 (dV 7) (dL (Qk (Te (Z2 (dO Ke (dV 5) (dC (.int 1))) Zc)) [none,some 7] (Yj 0) (dB (dO F0 (Yi (Z2 (dV 0) (Z2 (dO Y8 (dV 0) (dC (.int 1))) Zc))) (dV 1))) (Yi (Z2 (dV 0) (Z2 (dO Y8 (dV 0) (dC (.int 1))) Zc))))))) Tp)
 (Ze (Tz (Te (Z2 (dV 2) Zc)) (Yj 8) (Ze (Zr 9 (dM "list" K5 (dV 4) (Z2 (dV 8) Zc)))
 (Ze (Zr 10 (dO Y8 (dO Y8 (dV 9) (dC (.int 1))) (dM "list" K5 (dS Kh (dV 4) (Va (dO Y8 (dV 9) (dC (.int 1)))) Ja) (Z2 (dV 8) Zc))))
 (Zr 7 (dO Y8 (dL (Qk (Qi (dV 7)) [none,some 9,some 10] (Yj 0) (dB (dO Ax (dV 0) (Yi (Z2 (dV 1) (Z2 (dV 2) Zc))))) (dV 0))) (dL (Vu (Z2 (Yi (Z2 (dV 9) (Z2 (dV 10) Zc))) Zc))))))))
 (Ze (Lb 11 (Qi (dV 4)) [none] (Yj 0))
 (Ze (Lb 12 (Qi (dV 4)) [none] (Yj 0))
 (Ze (Zr 13 (dC (.int 0)))
 (Ze (Zr 14 (dO W5 (dO Yh (dV 6) (dC (.int 3))) (dC (.int 20))))
 (Ze (Tz (Qi (dV 7)) (Ki 2 (Wb (Yj 15) (Wb (Yj 16) Ru))) (Ze (Ee 12 (dV 15) (Z2 (dV 14) Zc))
 (Ze (Ee 11 (dV 16) (Z2 (dV 14) Zc))
 (Ze (Ee 12 (dV 16) (Z2 (dO Y8 (dV 14) (dC (.int 1))) Zc))
 (Ze (Ee 11 (dV 15) (Z2 (dO Y8 (dV 14) (dC (.int 1))) Zc))
 (Ze (Zr 13 (dO orD (dV 13) (dO Q6 (dC (.int 1)) (dO Y8 (dV 14) (dC (.int 1))))))
 (Zr 14 (dO Y8 (dV 14) (dC (.int 2))))))))))
 (Ze (Zr 17 (dO W5 (dO Yh (dV 6) (dC (.int 60))) (dO Q6 (dC (.int 1)) (dV 2))))
 (Ze (Zr 18 (dV 17))
 (Ze (Sg 19 (Vu Zc))
 (Ze (Tz (Lp (dV 4)) (Ki 2 (Wb (Yj 20) (Wb (Yj 8) Ru))) (Ze (Qd 19 Wj (Z2 (Yi (Z2 (dV 8) (Z2 (dO Jj (dO Tf (dO J6 (dV 18) (dV 8)) (dC (.int 1))) (dC (.int 0))) (Z2 (dF tupleD (Z2 (dL (dF Qv (Z2 (Ck 11 (dV 20)) Zc))) Zc)) (Z2 (dF tupleD (Z2 (dL (dF Qv (Z2 (Ck 12 (dV 20)) Zc))) Zc)) Zc))))) Zc))
 (Zr 18 (dO Z5z (dV 18) (dO Q6 (dC (.int 1)) (dV 8))))))
 (Ze (Zr 21 (dO W5 (dO Yh (dV 6) (dC (.int 2000))) (dV 5)))
 (Ze (Sg 19 (dO K2 (dS Kh (dP 19) (Va (dV 21)) Ja) (dS Kh (dP 19) Ja (Va (dV 21)))))
 (Ze (Zr 22 (dO Yh (dV 6) (dC (.int 40000))))
 (Ze (Zr 23 (dL (Qk (Te (Z2 (dV 2) Zc)) [none,some 22,some 0,some 1] (Yj 0) M6 (Yi (Z2 (Yu Yr (Z2 (dV 1) (Z2 (dV 0) Zc))) (Z2 (dO V1 (dL (Vu (Z2 (dC (.str "given")) (Z2 (dC (.str "made")) Zc)))) (dO W5 (dO Yh (Yu Yb (Z2 (dV 2) (Z2 (dO Y8 (dV 3) (dV 0)) Zc))) (dC (.int 4096))) (dC (.int 2)))) Zc))))))
 (Vn (Yi (Z2 (dF tupleD (Z2 (dV 23) Zc)) (Z2 (dF tupleD (Z2 (dP 19) Zc)) (Z2 (dV 13) (Z2 (dV 17) Zc)))))))))))))))))))))))))
def Tt:List Dat->Rs:=We 24 4 Vj
def V3:Ev->Fl:=(Ze (Zr 2 (Yu Yb (Z2 (dV 0) (Z2 (dV 1) Zc))))
 (Ze (Zr 3 (dO W5 (dO Yh (dV 2) (dC (.int 4))) (dC (.int 20))))
 (Ze (Zr 4 (dO W5 (dO Yh (dV 2) (dC (.int 80))) (dC (.int 32))))
 (Ze (Zr 5 (dL (Vu Zc)))
 (Ze (Sg 6 (Vu (Z2 (Yi (Z2 (Yu Yr (Z2 (dO Yh (dV 2) (dC (.int 2560))) (Z2 (dC (.int 0)) Zc))) (Z2 (dC (.str "made")) Zc))) Zc)))
 (Ze (Tz (Te (Z2 (dO Y8 (dC (.int 1)) (dO W5 (dV 2) (dC (.int 4)))) Zc)) (Yj 7) (Ze (Zr 8 (Yu Yb (Z2 (dV 0) (Z2 (dO Y8 (dO Y8 (dV 1) (dC (.int 1))) (dV 7)) Zc))))
 (Ze (Zr 9 (dO Y8 (dC (.int 1)) (dO Md (dV 7) (dO W5 (dO Yh (dV 2) (dC (.int 40))) (dC (.int 2))))))
 (Ze (Zr 10 (dO Jj (dO Tf (dO J6 (dV 4) (dV 9)) (dC (.int 1))) (dC (.int 0))))
 (Ze (Zr 11 (dO Y8 (dO Y8 (dV 3) (dC (.int 1))) (dO Md (dC (.int 3)) (dV 7))))
 (Ze (Qd 6 Wj (Z2 (Yi (Z2 (Yu Yr (Z2 (dO Yh (dV 2) (dC (.int 2560))) (Z2 (dO Y8 (dV 7) (dC (.int 1))) Zc))) (Z2 (dO V1 (dL (Vu (Z2 (dC (.str "given")) (Z2 (dC (.str "given")) (Z2 (dC (.str "made")) Zc))))) (dO Md (dO W5 (dV 8) (dC (.int 3))) (dO W5 (dO Yh (dV 2) (dC (.int 20))) (dC (.int 2))))) Zc))) Zc))
 (Mx (dB (dO Jj (dO W5 (dO Yh (dV 8) (dC (.int 3))) (dC (.int 3))) (dC (.int 0)))) (Zr 5 (dO Y8 (dV 5) (dL (Vu (Z2 (Yi (Z2 (dV 9) (Z2 (dV 10) (Z2 (Yi (Z2 (dV 3) Zc)) (Z2 (Yi (Z2 (dV 11) Zc)) Zc))))) (Z2 (Yi (Z2 (dV 9) (Z2 (Z48 (dV 10)) (Z2 (Yi (Z2 (dV 11) Zc)) (Z2 (Yi (Z2 (dV 3) Zc)) Zc))))) Zc)))))) (Ze (Zr 5 (dO Y8 (dV 5) (dL (Vu (Z2 (Yi (Z2 (dV 9) (Z2 (dV 10) (Z2 (Yi (Z2 (dV 3) Zc)) (Z2 (Yi (Z2 (dV 11) Zc)) Zc))))) (Z2 (Yi (Z2 (dC (.int 0)) (Z2 (dO Jj (dO Tf (dV 4) (dC (.int 1))) (dC (.int 0))) (Z2 (Yi (Z2 (dV 11) Zc)) (Z2 (Yi (Z2 (dO Y8 (dV 11) (dC (.int 1))) Zc)) Zc))))) Zc))))))
 (Zr 5 (dO Y8 (dV 5) (dL (Vu (Z2 (Yi (Z2 (dV 9) (Z2 (Z48 (dV 10)) (Z2 (Yi (Z2 (dO Y8 (dV 11) (dC (.int 1))) Zc)) (Z2 (Yi (Z2 (dO Y8 (dV 11) (dC (.int 2))) Zc)) Zc))))) (Z2 (Yi (Z2 (dC (.int 0)) (Z2 (dO Jj (dO Tf (dV 4) (dC (.int 1))) (dC (.int 1))) (Z2 (Yi (Z2 (dO Y8 (dV 11) (dC (.int 2))) Zc)) (Z2 (Yi (Z2 (dV 3) Zc)) Zc))))) Zc))))))))))))))
 (Ze (Zr 12 (dO W5 (dO Yh (dV 2) (dC (.int 7))) (dF Qh (Z2 (dV 5) Zc))))
 (Vn (Yi (Z2 (dF tupleD (Z2 (dP 6) Zc)) (Z2 (dF tupleD (Z2 (dO Y8 (dS Kh (dV 5) (Va (dV 12)) Ja) (dS Kh (dV 5) Ja (Va (dV 12)))) Zc)) (Z2 (dO Q6 (dC (.int 1)) (dV 3)) (Z2 (dO W5 (dV 4) (dO Q6 (dC (.int 1)) (dF Qh (Z2 (dP 6) Zc)))) Zc)))))))))))))
def T3:List Dat->Rs:=We 13 2 V3
def Wp:Ev->Fl:=(Ze (Co (dV 0) (Ki 4 (Wb (Yj 2) (Wb (Yj 3) (Wb (Yj 4) (Wb (Yj 5) Ru))))))
 (Ze (Zr 6 (dV 4))
 (Ze (Tz (Qi (dV 3)) (Yj 7) (Tz (Qi (dO O0 (dO V1 (dV 7) (dC (.int 2))) (dO V1 (dV 7) (dC (.int 3))))) (Yj 8) (Zr 6 (dO orD (dV 6) (dO Q6 (dC (.int 1)) (dV 8))))))
 (Ze (Zr 8 (dO V1 (dL (Qk (Te (Z2 (dC (.int 64)) Zc)) [none,some 6] (Yj 0) (dB (dO Jj (dO Tf (dO J6 (dV 1) (dV 0)) (dC (.int 1))) (dC (.int 0)))) (dV 0))) (dO W5 (dV 1) (dC (.int 3)))))
 (Ze (Sg 9 (Vu Zc))
 (Ze (Tz (Lp (dV 3)) (Ki 2 (Wb (Yj 10) (Wb (Ki 4 (Wb (Yj 11) (Wb (Yj 12) (Wb (Yj 13) (Wb (Yj 14) Ru))))) Ru))) (Ze (Mx (dB (dO Jj (dO Tf (dO J6 (dO Yh (dV 1) (dC (.int 3))) (dV 10)) (dC (.int 1))) (dC (.int 1)))) (Ze (Zr 13 (dF tupleD (Z2 (dL (dF Qv (Z2 (dO O0 (dV 13) (Yi (Z2 (dV 8) Zc))) Zc))) Zc)))
 (Zr 14 (dF tupleD (Z2 (dL (dF Qv (Z2 (dO O0 (dV 14) (Yi (Z2 (dV 8) Zc))) Zc))) Zc)))) Tp)
 (Qd 9 Wj (Z2 (Yi (Z2 (dV 11) (Z2 (dV 12) (Z2 (dV 13) (Z2 (dV 14) Zc))))) Zc))))
 (Vn (Yi (Z2 (dV 2) (Z2 (dF tupleD (Z2 (dP 9) Zc)) (Z2 (dO orD (dV 4) (dO Q6 (dC (.int 1)) (dV 8))) (Z2 (dV 5) Zc))))))))))))
def U9:List Dat->Rs:=We 15 2 Wp
def Um:Ev->Fl:=(Vn (dF Z1j (Z2 (dL (Qk (Qi (dO V1 (dV 0) (dC (.int 2)))) [none,some 1] (Yj 0) M6 (dO Jj (dO Tf (dO J6 (dV 1) (dV 0)) (dC (.int 1))) (dC (.int 1))))) Zc)))
def Ul:List Dat->Rs:=We 2 2 Um
def Vw:Ev->Fl:=(Ze (Co (dV 1) (Ki 2 (Wb (Yj 2) (Wb (Yj 3) Ru))))
 (Ze (Mx (dB (dO Jj (dO Jj (dO Tf (dO J6 (dV 3) (dO V1 (dV 0) (dC (.int 0)))) (dC (.int 1))) (dC (.int 1))) (dO V1 (dV 0) (dC (.int 1))))) (Vn (dC (.str "broken"))) Tp)
 (Ze (Tz (Qi (dO V1 (dV 0) (dC (.int 2)))) (Yj 4) (Zr 2 (dO Ke (dV 2) (dO Q6 (dC (.int 1)) (dV 4)))))
 (Ze (Mx (dT (dF Z1i (Z2 (dL (Qk (Qi (dO V1 (dV 0) (dC (.int 3)))) [none,some 2] (Yj 0) M6 (dO Jj (dO Tf (dO J6 (dV 1) (dV 0)) (dC (.int 1))) (dC (.int 1))))) Zc))) (Vn (dC (.str "crowded"))) Tp)
 (Ze (Tz (Qi (dO V1 (dV 0) (dC (.int 3)))) (Yj 4) (Zr 2 (dO Y8 (dV 2) (dO Q6 (dC (.int 1)) (dV 4)))))
 (Ze (Mx (dT (dO V1 (dV 0) (dC (.int 1)))) (Vn (Yi (Z2 (dV 2) (Z2 (dO Y8 (dV 3) (dO Q6 (dC (.int 1)) (dO V1 (dV 0) (dC (.int 0))))) Zc)))) Tp)
 (Vn (Yi (Z2 (dV 2) (Z2 (dO Ke (dV 3) (dO Q6 (dC (.int 1)) (dO V1 (dV 0) (dC (.int 0))))) Zc))))))))))
def U2:List Dat->Rs:=We 5 2 Vw
def W0:Ev->Fl:=(Ze (Zr 1 (dO Y8 (dC (.int 1)) (dO W5 (dV 0) (dC (.int 4)))))
 (Ze (Zr 2 (dO W5 (dO Yh (dV 0) (dC (.int 4))) (dC (.int 16))))
 (Ze (Zr 3 (dO W5 (dO Yh (dV 0) (dC (.int 64))) (dO Q6 (dC (.int 1)) (dV 1))))
 (Ze (Zr 4 (dO Y8 (dC (.int 1)) (dO W5 (dO Yh (dV 0) (dC (.int 1024))) (dC (.int 6)))))
 (Ze (Zr 5 (dO W5 (dO Yh (dV 0) (dC (.int 6144))) (dO Ke (dC (.int 65)) (dV 4))))
 (Ze (Zr 6 (dO W5 (dO Yh (dV 0) (dC (.int 614400))) (dO Q6 (dC (.int 1)) (dV 4))))
 (Ze (Zr 7 (dO Y8 (dC (.int 1)) (dO W5 (dO Yh (dV 0) (dC (.int 39321600))) (dC (.int 8)))))
 (Ze (Zr 8 (dO W5 (dO Yh (dV 0) (dC (.int 314572800))) (dO Z3a (dC (.int 10)) (dC (.int 6)))))
 (Ze (Zr 0 (dO Fz (dV 0) (dO Md (dC (.int 314572800)) (dO Z3a (dC (.int 10)) (dC (.int 6))))))
 (Ze (Sg 9 (Vu Zc))
 (Ze (Tz (Te (Z2 (dV 7) Zc)) (Yj 10) (Ze (Zr 11 (dO Y8 (dC (.int 1)) (dO W5 (dO Yh (dV 0) (dC (.int 8))) (dO Ke (dO Q6 (dC (.int 1)) (dV 4)) (dC (.int 1))))))
 (Ze (Zr 12 (dO Y8 (dC (.int 1)) (dO W5 (dO Yh (dV 0) (dC (.int 512))) (dO Ke (dO Q6 (dC (.int 1)) (dV 4)) (dC (.int 1))))))
 (Ze (Zr 13 (dF tupleD (Z2 (dL (Qk (Te (Z2 (dV 4) Zc)) [none,some 5,some 11] (Yj 0) (dB (dO Jj (dO Tf (dO J6 (dV 2) (dV 0)) (dC (.int 1))) (dC (.int 1)))) (dO Y8 (dV 1) (dV 0)))) Zc)))
 (Ze (Zr 14 (dF tupleD (Z2 (dL (Qk (Te (Z2 (dV 4) Zc)) [none,some 5,some 12] (Yj 0) (dB (dO Jj (dO Tf (dO J6 (dV 2) (dV 0)) (dC (.int 1))) (dC (.int 1)))) (dO Y8 (dV 1) (dV 0)))) Zc)))
 (Ze (Qd 9 Wj (Z2 (Yi (Z2 (dO W5 (dO W5 (dV 0) (dC (.int 4))) (dV 1)) (Z2 (dO Jj (dO W5 (dO Yh (dV 0) (dC (.int 4))) (dC (.int 2))) (dC (.int 1))) (Z2 (dV 13) (Z2 (dV 14) Zc))))) Zc))
 (Zr 0 (dO Yh (dV 0) (dC (.int 32768))))))))))
 (Ze (Zr 15 (dL (Qk (Te (Z2 (dV 1) Zc)) [none,some 8,some 2] (Yj 0) M6 (Yi (Z2 (Yu Yr (Z2 (dV 1) (Z2 (dV 0) Zc))) (Z2 (dO V1 (dL (Vu (Z2 (dC (.str "given")) (Z2 (dC (.str "made")) Zc)))) (dO Tf (dO J6 (dV 2) (dV 0)) (dC (.int 1)))) Zc))))))
 (Vn (Yi (Z2 (dF tupleD (Z2 (dV 15) Zc)) (Z2 (dF tupleD (Z2 (dP 9) Zc)) (Z2 (dO Q6 (dV 6) (dV 5)) (Z2 (dV 3) Zc))))))))))))))))))
def V9:List Dat->Rs:=We 16 1 W0
def Vh:Ev->Fl:=(Ze (Mx (dB (dIn true (dV 3) (dP 2))) (L3 (dC .non)) Tp)
 (Ze (Sg 4 (Vu Zc))
 (Ze (Tz (Lp (dO V1 (dV 0) (dC (.int 1)))) (Ki 2 (Wb (Yj 5) (Wb (Yj 6) Ru))) (Ze (Mx (dB (dO Ax (Yu Hg (Z2 (dV 0) (Z2 (dV 3) (Z2 (dV 5) Zc)))) (Yu Ul (Z2 (dV 6) (Z2 (dO V1 (dV 3) (dC (.int 0))) Zc))))) (L3 (dC .non)) Tp)
 (Mx (dT (Yu Ul (Z2 (dV 6) (Z2 (dO V1 (dV 3) (dC (.int 0))) Zc)))) (Ze (Qd 4 Wj (Z2 (dV 5) Zc))
 (Ze (Zr 7 (Yu U2 (Z2 (dV 6) (Z2 (dV 3) Zc))))
 (Ze (Mx (Cd (dT (dI "str" (dV 7))) (Cd (dB (dO Ax (Yu Q5 (Z2 (dV 0) (Z2 (dV 3) (Z2 (dV 5) Zc)))) (dV 7))) (dB (dIn true (dV 7) (dP 2))))) (L3 (dC .non)) Tp)
 (Mx (Hi (dB (dO gtD (X4 (dP 2) (dV 7)) (dC (.int 0)))) (dB (dO gtT (dS Kh (dO V1 (dV 1) (X4 (dP 2) (dV 7))) (Va (dC (.int 2))) Ja) (Yi (Z2 (X4 (dP 2) (dV 3)) (Z2 (dV 5) Zc)))))) (L3 (dC .non)) Tp)))) Tp)))
 (G0 4))))
def Ub:List Dat->Rs:=We 8 4 Vh
def Wc:Ev->Fl:=(Ze (Zr 2 (dC .non))
 (Ze (Ou N24_ (fun _=>true) (Ed 2 Qa (Z2 (dV 0) (Z2 (dV 1) Zc))) (Zr 2 (dC .non)))
 (Vn (dV 2))))
def Tb:List Dat->Rs:=We 3 2 Wc
def Li:Ev->Fl:=(Ze (Zr 1 (Yu Yb (Z2 (dV 0) (Z2 (dC (.int 0)) Zc))))
 (Ze (Zr 2 (dO Jj (dO W5 (dO Yh (dV 1) (dC (.int 3))) (dC (.int 2))) (dC (.int 0))))
 (Ze (Mx (dT (dV 2)) (Zr 3 (Yu V9 (Z2 (dF Z47 (Z2 (dF Xb (Z2 (dS Kh (dV 0) (Va (dC (.int 1))) (Va (dC (.int 2)))) Zc)) Zc)) Zc))) (Mx (dB (dO Jj (dO W5 (dV 1) (dC (.int 3))) (dC (.int 0)))) (Zr 3 (Yu T3 (Z2 (dV 0) (Z2 (dC (.int 1)) Zc)))) (Zr 3 (Yu Tt (Z2 (dV 0) (Z2 (dC (.int 1)) (Z2 (dO Y8 (dC (.int 1)) (dO W5 (dO Yh (dV 1) (dC (.int 6))) (dC (.int 4)))) (Z2 (dO W5 (dO Yh (dV 1) (dC (.int 24))) (dC (.int 5))) Zc))))))))
 (Ze (Mx (Hi (L8 (dT (dV 2))) (dB (dO Jj (dO W5 (dO Yh (dV 1) (dC (.int 4096))) (dC (.int 3))) (dC (.int 0))))) (Zr 3 (Yu U9 (Z2 (dV 3) (Z2 (dO Yh (dV 1) (dC (.int 12288))) Zc)))) Tp)
 (Ze (Zr 4 (Yu Tb (Z2 (dV 3) (Z2 (dC (.int 400)) Zc))))
 (Ze (Mx (dB (dO isF (dV 4) (dC .non))) (Vn (dV 2)) Tp)
 (Ze (Z6o 5)
 (Ze (Tz (Lp (dV 4)) (Ki 2 (Wb (Yj 6) (Wb (Yj 7) Ru))) (S4 5 (dS Kh (dV 7) Ja (Va (dC (.int 2)))) (dV 6)))
 (Ze (Zr 8 (Yi (Z2 (dO V1 (dV 3) (dC (.int 2))) (Z2 (dO V1 (dV 3) (dC (.int 3))) Zc))))
 (Ze (Tz (Pi (Z2 (dC (.int 1)) (Z2 (dF Pj (Z2 (dC (.int 2)) (Z2 (dF N9 (Z2 (dC (.int 63)) (Z2 (dF Qh (Z2 (dV 0) Zc)) Zc))) Zc))) Zc))) (Yj 9) (Ze (Z8k 5 (Zr 10 (Yu Ub (Z2 (dV 3) (Z2 (dV 4) (Z2 (dV 5) (Z2 (dV 8) Zc)))))))
 (Ze (Mx (Cd (dB (dO isF (dV 10) (dC .non))) (Hi (dB (dO Jj (dV 10) (dL (Vu Zc)))) (L8 (dT (dV 2))))) (Vn (dC (.bl false))) Tp)
 (Ze (Mx (dB (dO Jj (dV 10) (dL (Vu Zc)))) (Vn (dO Jj (Fk (dP 5)) (dF Qh (Z2 (dV 4) Zc)))) Tp)
 (Zr 8 (Yu U2 (Z2 (dO V1 (dO V1 (dV 3) (dC (.int 1))) (dO V1 (dV 10) (dO W5 (Yu Yb (Z2 (dV 0) (Z2 (dV 9) Zc))) (dF Qh (Z2 (dV 10) Zc))))) (Z2 (dV 8) Zc))))))))
 (Vn (Z56 (dIn false (dV 8) (dP 5)) (dO Jj (Fk (dP 5)) (dF Qh (Z2 (dV 4) Zc)))))))))))))))
def Z6f:List Dat->Rs:=We 11 1 Li
def Dp (i:Nat):Stmt:=PySem.Challenge.pw_calmwires_k25_whole_any_walk_is_there.main.body.getD i (.Pass ⟨0,0,0,0⟩)
abbrev Rc:Stmt:=Dp 6
theorem Fa:FnScope N38_ N38_ (Z7 Rc):=⟨rfl,rfl,rfl,by decide +kernel,rfl,by decide +kernel,by decide +kernel⟩
abbrev My:Stmt:=Dp 7
theorem Xt:FnScope N38_ N38_ (Z7 My):=⟨rfl,rfl,rfl,by decide +kernel,rfl,by decide +kernel,by decide +kernel⟩
abbrev Jq:Stmt:=Dp 8
theorem Ox:FnScope N38_ N38_ (Z7 Jq):=⟨rfl,rfl,rfl,by decide +kernel,rfl,by decide +kernel,by decide +kernel⟩
abbrev M0:Stmt:=Dp 9
theorem Ol:FnScope N38_ N38_ (Z7 M0):=⟨rfl,rfl,rfl,by decide +kernel,rfl,by decide +kernel,by decide +kernel⟩
abbrev Nw:Stmt:=Dp 10
theorem G9:FnScope ["some","number","place"] ["some"] (Z7 Nw):=⟨rfl,rfl,rfl,by decide +kernel,rfl,by decide +kernel,by decide +kernel⟩
abbrev R7:Stmt:=Dp 11
theorem F4:FnScope N36_ N36_ (Z7 R7):=⟨rfl,rfl,rfl,by decide +kernel,rfl,by decide +kernel,by decide +kernel⟩
abbrev Af:Stmt:=Dp 13
theorem Z34:FnScope ["graph","stand","step","takes"] N30_ (Z7 Af):=⟨rfl,rfl,rfl,by decide +kernel,rfl,by decide +kernel,by decide +kernel⟩
abbrev Da:Stmt:=Dp 14
theorem Rj:FnScope N15_ N30_ (Z7 Da):=⟨rfl,rfl,rfl,by decide +kernel,rfl,by decide +kernel,by decide +kernel⟩
abbrev Uo:Stmt:=Dp 16
theorem Pl:FnScope N37_ N37_ (Z7 Uo):=⟨rfl,rfl,rfl,by decide +kernel,rfl,by decide +kernel,by decide +kernel⟩
abbrev B0:Stmt:=Dp 18
theorem Nd:FnScope ["found","n","steps","at"] ["found","n"] (Z7 B0):=⟨rfl,rfl,rfl,by decide +kernel,rfl,by decide +kernel,by decide +kernel⟩
abbrev R9:Stmt:=Dp 17
theorem X8:FnScope N25_ N25_ (Z7 R9):=⟨rfl,rfl,rfl,by decide +kernel,rfl,by decide +kernel,by decide +kernel⟩
abbrev Sh:Stmt:=Dp 15
theorem Vz:FnScope N11_ ["graph","most"] (Z7 Sh):=⟨rfl,rfl,rfl,by decide +kernel,rfl,by decide +kernel,by decide +kernel⟩
abbrev Jp:Stmt:=Dp 20
theorem Mu:FnScope ["_law_script","_law_k","_law_number"] N31_ (Z7 Jp):=⟨rfl,rfl,rfl,by decide +kernel,rfl,by decide +kernel,by decide +kernel⟩
abbrev Qo:Stmt:=Dp 21
theorem Yq:FnScope N7_ N35_ (Z7 Qo):=⟨rfl,rfl,rfl,by decide +kernel,rfl,by decide +kernel,by decide +kernel⟩
abbrev Tx:Stmt:=Dp 22
theorem V4:FnScope N8_ N18_ (Z7 Tx):=⟨rfl,rfl,rfl,by decide +kernel,rfl,by decide +kernel,by decide +kernel⟩
abbrev T7:Stmt:=Dp 23
theorem Wo:FnScope N5_ N13_ (Z7 T7):=⟨rfl,rfl,rfl,by decide +kernel,rfl,by decide +kernel,by decide +kernel⟩
abbrev Y4:Stmt:=Dp 24
theorem Zh:FnScope N0_ N14_ (Z7 Y4):=⟨rfl,rfl,rfl,by decide +kernel,rfl,by decide +kernel,by decide +kernel⟩
abbrev T6:Stmt:=Dp 25
theorem Zs:FnScope N3_ N26_ (Z7 T6):=⟨rfl,rfl,rfl,by decide +kernel,rfl,by decide +kernel,by decide +kernel⟩
abbrev Wk:Stmt:=Dp 26
theorem Zm:FnScope N2_ N22_ (Z7 Wk):=⟨rfl,rfl,rfl,by decide +kernel,rfl,by decide +kernel,by decide +kernel⟩
abbrev Uh:Stmt:=Dp 27
theorem Ps:FnScope N27_ N27_ (Z7 Uh):=⟨rfl,rfl,rfl,by decide +kernel,rfl,by decide +kernel,by decide +kernel⟩
abbrev U3:Stmt:=Dp 28
theorem Wv:FnScope N9_ N28_ (Z7 U3):=⟨rfl,rfl,rfl,by decide +kernel,rfl,by decide +kernel,by decide +kernel⟩
abbrev Zy:Stmt:=Dp 29
theorem Zi:FnScope N1_ ["_law_cell"] (Z7 Zy):=⟨rfl,rfl,rfl,by decide +kernel,rfl,by decide +kernel,by decide +kernel⟩
abbrev Tw:Stmt:=Dp 30
theorem Vs:FnScope N6_ N10_ (Z7 Tw):=⟨rfl,rfl,rfl,by decide +kernel,rfl,by decide +kernel,by decide +kernel⟩
abbrev Qj:Stmt:=Dp 31
theorem To:FnScope N16_ N23_ (Z7 Qj):=⟨rfl,rfl,rfl,by decide +kernel,rfl,by decide +kernel,by decide +kernel⟩
abbrev El:Stmt:=Dp 32
theorem Vt:FnScope N4_ N39_ (Z7 El):=⟨rfl,rfl,rfl,by decide +kernel,rfl,by decide +kernel,by decide +kernel⟩
structure Txt (K:PySem.W.Frag) (mg:Str->Option Value):Prop where
 b_abs:mg "abs" = none
 b_all:mg "all" = none
 b_any:mg "any" = none
 b_enumerate:mg "enumerate" = none
 b_isinstance:mg "isinstance" = none
 b_len:mg "len" = none
 b_list:mg "list" = none
 b_max:mg "max" = none
 b_min:mg "min" = none
 b_range:mg "range" = none
 b_reversed:mg "reversed" = none
 b_sorted:mg "sorted" = none
 b_str:mg "str" = none
 b_sum:mg "sum" = none
 b_tuple:mg "tuple" = none
 q_0:Z1g K mg "Broken" N24_
 q_1:Z1g K mg "Crowded" N24_
 u_8:Z8q K mg "CalmError" N24_ (fun _=>true)
section
variable {P:Program} {w:World} {K:PySem.W.Frag} {mg:Str->Option Value} {base:Heap}
end
abbrev i_0:Stmt:=N7 (Dp 2) 0
theorem Ze3:FnScope N40_ N40_ (Z7 i_0):=⟨rfl,rfl,rfl,by decide +kernel,rfl,by decide +kernel,by decide +kernel⟩
abbrev i_1:Stmt:=N7 (Dp 3) 0
theorem Ze0:FnScope N40_ N40_ (Z7 i_1):=⟨rfl,rfl,rfl,by decide +kernel,rfl,by decide +kernel,by decide +kernel⟩
abbrev i_2:Stmt:=N7 (Dp 4) 0
theorem Zdw:FnScope ["self"] ["self"] (Z7 i_2):=⟨rfl,rfl,rfl,by decide +kernel,rfl,by decide +kernel,by decide +kernel⟩
section
variable {P:Program} {w:World} {K:PySem.W.Frag} {mg:Str->Option Value} {base:Heap}
theorem m_0 {C fI D:Addr} {fd:FuncData} (B:BaseC K mg D) (F:Fun K "__init__" "Broken.__init__" i_0 fI fd) (hc:U1 K "Broken" C) (hm:mg "Broken" = some (.ref C)) (hk:PySem.W.keepIn K (.ref C)=true) (hx:Qx K C fI D=true) (xc:XCls K C) (hf0:PySem.W.findIn K (.ref C) "way" = some none) (isf:PySem.W.isFn K (.ref fI)=true) (bl:mg "list" = none):XMakeN P w K mg base 1 "Broken" 1 (gW "way") where
 ex:=⟨C,fI,D,fd,N40_,hc,hm,hk,hx,xc,isf,A8 (k:=0) F Ze3 hx xc hf0 (fun cdv A outer s H E hr=>(Ih (Sv (Np B (V7 (pv 0) (V7 (L7 (Z3d (A9 hr (pv 1) Z0u))) Q8)))) (Gi (Ba (pv 0) (Dv (Ho K) rfl bl (by decide +kernel) (V7 (pv 1) Q8)))))) (fun H e a0 n0 l0 m0=>(A5 (An Az (by decide +kernel) rfl (.inr ⟨a0,n0,rfl,l0,m0⟩)) (by decide +kernel))),
  F.binds fun _ _ _ _ _ _ us hl=>ar2 us hl fun _ _=>rfl⟩
 len:=Z0r
 few:=by lia
theorem m_1 {C fI D:Addr} {fd:FuncData} (B:BaseC K mg D) (F:Fun K "__init__" "Crowded.__init__" i_1 fI fd) (hc:U1 K "Crowded" C) (hm:mg "Crowded" = some (.ref C)) (hk:PySem.W.keepIn K (.ref C)=true) (hx:Qx K C fI D=true) (xc:XCls K C) (hf0:PySem.W.findIn K (.ref C) "way" = some none) (isf:PySem.W.isFn K (.ref fI)=true) (bl:mg "list" = none):XMakeN P w K mg base 1 "Crowded" 1 (gW "way") where
 ex:=⟨C,fI,D,fd,N40_,hc,hm,hk,hx,xc,isf,A8 (k:=0) F Ze0 hx xc hf0 (fun cdv A outer s H E hr=>(Ih (Sv (Np B (V7 (pv 0) (V7 (L7 (Z3d (A9 hr (pv 1) Z0u))) Q8)))) (Gi (Ba (pv 0) (Dv (Ho K) rfl bl (by decide +kernel) (V7 (pv 1) Q8)))))) (fun H e a0 n0 l0 m0=>(A5 (An Az (by decide +kernel) rfl (.inr ⟨a0,n0,rfl,l0,m0⟩)) (by decide +kernel))),
  F.binds fun _ _ _ _ _ _ us hl=>ar2 us hl fun _ _=>rfl⟩
 len:=Z0r
 few:=by lia
theorem m_2 {C fI D:Addr} {fd:FuncData} (B:BaseC K mg D) (F:Fun K "__init__" "TooMany.__init__" i_2 fI fd) (hc:U1 K "TooMany" C) (hm:mg "TooMany" = some (.ref C)) (hk:PySem.W.keepIn K (.ref C)=true) (hx:Qx K C fI D=true) (xc:XCls K C)  (isf:PySem.W.isFn K (.ref fI)=true) (bl:mg "list" = none):XMake P w K mg base 1 "TooMany" 0 gZ where
 ex:=⟨C,fI,D,fd,["self"],hc,hm,hk,hx,xc,isf,Z7w (k:=0) F Zdw hx (fun cdv A outer s H E hr=>(Gi (Sv (Np B (V7 (pv 0) (V7 Z18 Q8)))))),
  F.binds fun _ _ _ _ _ _ us hl=>ar1 us hl fun _=>rfl⟩
 len:=Z2c
 few:=by lia
theorem C2 (Df:Def K mg "wire_of" Rc) (T:Txt K mg)   : CalD P w K mg base 1 "wire_of" N38_ false R3 :=
 Vy (N:=N38_) (ps:=N38_) (st:=Rc) (k:=0) (g:=Q4) Df Fa (fun _ _ _ _ _ _ us hl=>ar2 us hl fun _ _=>rfl) (fun f cdv A outer s H E hr=>(by
  unfold Q4;exact (Zn (V8 (Yd Yl (Zz Yl (Zz Yl (Z3 0) (Z1) (fun _ _=>rfl)) (Z3 1) (fun _ _=>rfl)) (Z1) (fun _ _=>rfl))))))
theorem Cv (Df:Def K mg "is_rise" My) (T:Txt K mg)   : CalD P w K mg base 1 "is_rise" N38_ false Rg :=
 Vy (N:=N38_) (ps:=N38_) (st:=My) (k:=0) (g:=Q2) Df Xt (fun _ _ _ _ _ _ us hl=>ar2 us hl fun _ _=>rfl) (fun f cdv A outer s H E hr=>(by
  unfold Q2;exact (Zn (V8 (Yd Yl (Zz Yl (Zz Yl (Z3 0) (Z1) (fun _ _=>rfl)) (Z3 1) (fun _ _=>rfl)) (Z1) (fun _ _=>rfl))))))
theorem Xy (Df:Def K mg "takes_of" Jq) (T:Txt K mg)   : CalD P w K mg base 1 "takes_of" N38_ false Uk :=
 Vy (N:=N38_) (ps:=N38_) (st:=Jq) (k:=0) (g:=Uj) Df Ox (fun _ _ _ _ _ _ us hl=>ar2 us hl fun _ _=>rfl) (fun f cdv A outer s H E hr=>(by
  unfold Uj;exact (Zn (V8 (Yd Yl (Zz Yl (Zz Yl (Z3 0) (Z1) (fun _ _=>rfl)) (Z3 1) (fun _ _=>rfl)) (Z1) (fun _ _=>rfl))))))
theorem X7 (Df:Def K mg "fills_of" M0) (T:Txt K mg)   : CalD P w K mg base 1 "fills_of" N38_ false Jz :=
 Vy (N:=N38_) (ps:=N38_) (st:=M0) (k:=0) (g:=Ui) Df Ol (fun _ _ _ _ _ _ us hl=>ar2 us hl fun _ _=>rfl) (fun f cdv A outer s H E hr=>(by
  unfold Ui;exact (Zn (V8 (Yd Yl (Zz Yl (Zz Yl (Z3 0) (Z1) (fun _ _=>rfl)) (Z3 1) (fun _ _=>rfl)) (Z1) (fun _ _=>rfl))))))
theorem Z9e (Df:Def K mg "bits" Nw) (T:Txt K mg)   : CalD P w K mg base 1 "bits" ["some"] false S9 :=
 Vy (N:=["some","number","place"]) (ps:=["some"]) (st:=Nw) (k:=0) (g:=Ds) Df G9 (fun _ _ _ _ _ _ us hl=>ar1 us hl fun _=>rfl) (fun f cdv A outer s H E hr=>(by
  unfold Ds;exact (Za (Zk 1 G9.nd rfl (Or.inl rfl) (Wy))
  (Za (Ug PassesOwn.never rfl (Ij (Zb 0)) (Zu 2 G9.nd rfl (Or.inl rfl)) (Zn (Zk 1 G9.nd rfl (Or.inl rfl) (Zf Z0n (Z3 1) (Z8 Uf (Z1) (Z3 2))))))
  (Zn (V8 (Zb 1)))))))
theorem Bt (Df:Def K mg "has_one" R7) (T:Txt K mg)   : CalD P w K mg base 1 "has_one" N36_ false R4 :=
 Vy (N:=N36_) (ps:=N36_) (st:=R7) (k:=0) (g:=Q3) Df F4 (fun _ _ _ _ _ _ us hl=>ar2 us hl fun _ _=>rfl) (fun f cdv A outer s H E hr=>(by
  unfold Q3;exact (Zn (V8 (Wz (Ta hr.units) (Z8 Tk (Z8 Ml (Z3 0) (Z3 1)) (Z1)) (Z1) (Y1 _))))))
theorem Zbg (Df:Def K mg "can" Af) (T:Txt K mg)  (C_bits:CalD P w K mg base 1 "bits" ["some"] false S9) (C_takes_of:CalD P w K mg base 1 "takes_of" N38_ false Uk):CalD P w K mg base 2 "can" N30_ false Hg :=
 Vy (N:=["graph","stand","step","takes"]) (ps:=N30_) (st:=Af) (k:=1) (g:=Ks) Df Z34 (fun _ _ _ _ _ _ us hl=>ar3 us hl fun _ _ _=>rfl) (fun f cdv A outer s H E hr=>(by
  unfold Ks;exact (Za (Zk 3 Z34.nd rfl (Or.inl rfl) (Zw C_bits (hr.mono (by lia)) (Z0 (Zw C_takes_of (hr.mono (by lia)) (Z0 (Zb 0) (Z0 (Zb 2) Z9))) Z9)))
  (Zn (V8 (Wz (Ta hr.units) (Z8 Tk (Zz Yl (Z3 1) (Z1) (fun _ _=>rfl)) (Z3 3)) (Z3 3) (Y1 _)))))))
theorem Z0f (Df:Def K mg "behind" Da) (T:Txt K mg) (M_0:XMake P w K mg base 1 "Broken" 1 (gW "way")) (M_1:XMake P w K mg base 1 "Crowded" 1 (gW "way")) (C_wire_of:CalD P w K mg base 1 "wire_of" N38_ false R3) (C_bits:CalD P w K mg base 1 "bits" ["some"] false S9) (C_has_one:CalD P w K mg base 1 "has_one" N36_ false R4) (C_is_rise:CalD P w K mg base 1 "is_rise" N38_ false Rg) (C_fills_of:CalD P w K mg base 1 "fills_of" N38_ false Jz) (C_takes_of:CalD P w K mg base 1 "takes_of" N38_ false Uk):CalX P w K mg base 3 "behind" N30_ false Q5 true :=
 Z4q (N:=N15_) (ps:=N30_) (st:=Da) (k:=2) (g:=U6) Df Rj (fun _ _ _ _ _ _ us hl=>ar3 us hl fun _ _ _=>rfl) (fun f cdv A outer s H E hr=>(by
  unfold U6;exact (Za (Zk 3 Rj.nd rfl (Or.inl rfl) (Zw C_wire_of (hr.mono (by lia)) (Z0 (Zb 0) (Z0 (Zb 2) Z9))))
  (Za (Tj (U7 (Ta hr.units) (U8 C_has_one (hr.mono (by lia)) (Z0 (Yd Yl (Z3 1) (Z1) (fun _ _=>rfl)) (Z0 (Zb 3) Z9))) (U8 C_is_rise (hr.mono (by lia)) (Z0 (Zb 0) (Z0 (Zb 2) Z9))) (Y1 _)) (Zn (Ag M_0 (hr.mono (by lia)) rfl (Z0 (Mt (Tq (Z0 (Zb 2) Z9))) Z9))) Vm)
  (Za (Zk 4 Rj.nd rfl (Or.inl rfl) (Zf Tk (Zz Yl (Z3 1) (Z1) (fun _ _=>rfl)) (xun (m:=true) Zc6 (U8 C_bits (hr.mono (by lia)) (Z0 (Zw C_takes_of (hr.mono (by lia)) (Z0 (Zb 0) (Z0 (Zb 2) Z9))) Z9)))))
  (Za (Zk 5 Rj.nd rfl (Or.inl rfl) (Zw C_bits (hr.mono (by lia)) (Z0 (Zw C_fills_of (hr.mono (by lia)) (Z0 (Zb 0) (Z0 (Zb 2) Z9))) Z9)))
  (Za (Tj (U7 (Z1b hr.units) (Z8 Tk (Z3 4) (Z3 5)) (Z1) (Y1 _)) (Zn (Ag M_1 (hr.mono (by lia)) rfl (Z0 (Mt (Tq (Z0 (Zb 2) Z9))) Z9))) Vm)
  (Zn (V8 (Zo (Z0 (Zf Z0n (Z3 4) (Z3 5)) (Z0 (Zf Z6v (Zz Yl (Z3 1) (Z1) (fun _ _=>rfl)) (Z8 Uf (Z1) (Z3 3))) Z9))))))))))))
theorem Xp (Df:Def K mg "steps_at" Uo) (T:Txt K mg)  (C_can:CalD P w K mg base 2 "can" N30_ false Hg):CalD P w K mg base 3 "steps_at" N37_ true Jo :=
 Vy (N:=N37_) (ps:=N37_) (st:=Uo) (k:=2) (g:=Up) Df Pl (fun _ _ _ _ _ _ us hl=>ar2 us hl fun _ _=>rfl) (fun f cdv A outer s H E hr=>(by
  unfold Up;refine (Zn (Z1d ?c0))
  case c0=>exact Ms (Z7 Uo) [none,some 0,some 1] N32_ rfl (show CompOk (Z7 Uo) _ N37_ N32_ [none,some 0,some 1] from CompOk.of (by decide +kernel)) rfl (Wl (by rfl) T.b_range (Z0 (Ya M5 (by rfl) T.b_len (by decide +kernel) (Z0 (Zz Yl (Z3 0) (Z1) (fun _ _=>rfl)) Z9)) Z9)) (fun _ _ _ _=>⟨(Zu 0 (show (N32_:List Str).Nodup from by decide +kernel) rfl (Or.inl rfl)),(Ln (Px (U8 C_can (hr.mono (by lia)) (Z0 (Zb 1) (Z0 (Zb 2) (Z0 (Zb 0) Z9)))))),(Zb 0)⟩) (by decide)))
theorem Zb5 (Df:Def K mg "way" B0) (T:Txt K mg)   : CalN P w K mg base 1 "way" ["found","n"] true Ig :=
 Z96 (N:=["found","n","steps","at"]) (ps:=["found","n"]) (st:=B0) (k:=0) (g:=Kx) Df Nd (fun _ _ _ _ _ _ us hl=>ar2 us hl fun _ _=>rfl) (fun f cdv A outer s H E hr hd=>(by
  unfold Kx;exact (Za (Ry 2 Nd.nd rfl (Or.inl rfl) (Tq Z9))
  (Za (Zk 3 Nd.nd rfl (Or.inl rfl) (Zb 1))
  (Za (Aj PassesOwn.never (U7 Zbb (Zz Yl (Zz Yl (Z3 0) (Z3 3) (fun _ _=>rfl)) (Z1) (fun _ _=>rfl)) (Z40 (m:=true)) (Y1 _)) (Za (Qy 2 PySem.F.slot_list_append PySem.F.type_list_append T8 (Z0 (Yd Yl (Zz Yl (Z3 0) (Z3 3) (fun _ _=>rfl)) (Z1) (fun _ _=>rfl)) Z9))
  (Zn (Zk 3 Nd.nd rfl (Or.inl rfl) (Yd Yl (Zz Yl (Z3 0) (Z3 3) (fun _ _=>rfl)) (Z1) (fun _ _=>rfl))))))
  (Zn (Z1d (Z0d (by rfl) T.b_list (by rfl) T.b_reversed (Z0 (xo 2) Z9)))))))))
theorem Bi (Df:Def K mg "come_to" R9) (T:Txt K mg) (M_0:XMakeN P w K mg base 1 "Broken" 1 (gW "way")) (M_1:XMakeN P w K mg base 1 "Crowded" 1 (gW "way")) (C_behind:CalX P w K mg base 3 "behind" N30_ false Q5 true) (C_way:CalN P w K mg base 1 "way" ["found","n"] true Ig):CalX P w K mg base 4 "come_to" N25_ false Jd :=
 Z26 (N:=N25_) (ps:=N25_) (st:=R9) (k:=3) (g:=Uq) Df X8 (fun _ _ _ _ _ _ us hl=>ar4 us hl fun _ _ _ _=>rfl) (fun f cdv A outer s H E hr=>(by
  unfold Uq;exact (Zn (Z5k (known:=N24_) Z49 (fun _ _=>(Zn (Z7l (Z39 C_behind (hr.mono (by lia)) (Z0 (Zb 0) (Z0 (Xk (m:=false) Mi (Zz Yl (Z3 1) (Z3 2) (fun _ _=>rfl)) J5 (Tg (Z1))) (Z0 (Zb 3) Z9))))))) (fun _ _ hd=>(Zn (Pm M_0 (hr.n.mono (by lia)).mark hd (Z0 (Mt (nop Ad (Z6b (m:=true) C_way (hr.n.mono (by lia)).mark hd (Z0 (Zb 1) (Z0 (Zb 2) Z9))) (Y7 (Tq (Z0 (Zb 3) Z9))))) Z9) (by intro z;cases z)))) (fun _ _ hd=>(Zn (Pm M_1 (hr.n.mono (by lia)).mark hd (Z0 (Mt (nop Ad (Z6b (m:=true) C_way (hr.n.mono (by lia)).mark hd (Z0 (Zb 1) (Z0 (Zb 2) Z9))) (Y7 (Tq (Z0 (Zb 3) Z9))))) Z9) (by intro z;cases z)))) T.q_0 T.q_1))))
theorem Z2z (Df:Def K mg "stands" Sh) (T:Txt K mg) (M_2:XMake P w K mg base 1 "TooMany" 0 gZ) (C_steps_at:CalD P w K mg base 3 "steps_at" N37_ true Jo) (C_come_to:CalX P w K mg base 4 "come_to" N25_ false Jd):CalX P w K mg base 5 "stands" ["graph","most"] true Qa :=
 Z26 (N:=N11_) (ps:=["graph","most"]) (st:=Sh) (k:=4) (g:=Jf) Df Vz (fun _ _ _ _ _ _ us hl=>ar2 us hl fun _ _=>rfl) (fun f cdv A outer s H E hr=>(by
  unfold Jf;exact (Za (Ry 2 Vz.nd rfl (Or.inl rfl) (Tq (Z0 (Zo (Z0 (Yd Yl (Z3 0) (Z1) (fun _ _=>rfl)) (Z0 (Yd Yl (Z3 0) (Z1) (fun _ _=>rfl)) (Z0 (T9) (Z0 (T9) Z9))))) Z9)))
  (Za (Za0 3 Vz.nd rfl (Or.inl rfl) (Rq hr) (Qb (Z0 (Yd Yl (Z3 0) (Z1) (fun _ _=>rfl)) (Z0 (Yd Yl (Z3 0) (Z1) (fun _ _=>rfl)) Z9))) (xbl (m:=false)))
  (Za (Zk 4 Vz.nd rfl (Or.inl rfl) (Wy))
  (Za (Aj Z1o (U7 Zby (Z3 4) (Ya M5 (by rfl) T.b_len (by decide +kernel) (Z0 (xo 2) Z9)) (Y1 _)) (Za (Zk 5 Vz.nd rfl (Or.inl rfl) (Zw C_steps_at (hr.mono (by lia)) (Z0 (Zb 0) (Z0 (Xk (m:=false) Mi (Zz Yl (xo 2) (Z3 4) (fun _ _=>rfl)) J5 (Tg (Z1))) Z9))))
  (Za (Ug Z1o rfl (Ij (Zb 5)) (Zu 6 Vz.nd rfl (Or.inl rfl)) (Za (Z0j 7 Vz.nd rfl (Or.inl rfl) (Z8r C_come_to (hr.mono (by lia)) (Z0 (Z3 0) (Z0 (xo 2) (Z0 (Z3 4) (Z0 (Z3 6) Z9))))))
  (Za (Tj (Zd2 3 (Rq hr) (Z3 7)) (Zn Z7q) Vm)
  (Za (Tj (U7 Zd4 (Ya M5 (by rfl) T.b_len (by decide +kernel) (Z0 (xo 2) Z9)) (Z3 1) (Y1 _)) (Zn (Z1f M_2 (hr.mono (by lia)) rfl)) Vm)
  (Za (Z2o 3 (Rq hr) (Z3 7) (xbl (m:=false)))
  (Zn (Qy 2 PySem.F.slot_list_append PySem.F.type_list_append T8 (Z0 (Zo (Z0 (Yd Yl (Z3 7) (Z1) (fun _ _=>rfl)) (Z0 (Yd Yl (Z3 7) (Z1) (fun _ _=>rfl)) (Z0 (Zb 4) (Z0 (Zb 6) Z9))))) Z9))))))))
  (Zn (Zau 4 Vz.nd rfl (Or.inl rfl) (Wy))))))
  (Zn (Nc 2))))))))
theorem F3 (Df:Def K mg "_law_mix" Jp) (T:Txt K mg)   : CalD P w K mg base 1 "_law_mix" N31_ false Yb :=
 Vy (N:=["_law_script","_law_k","_law_number"]) (ps:=N31_) (st:=Jp) (k:=0) (g:=Uw) Df Mu (fun _ _ _ _ _ _ us hl=>ar2 us hl fun _ _=>rfl) (fun f cdv A outer s H E hr=>(by
  unfold Uw;exact (Za (Zk 2 Mu.nd rfl (Or.inl rfl) (Zf Y2 (Z8 J7 (Z1) (Z3 1)) (Z1)))
  (Za (Tj (U7 Zby (Z3 1) (Ya M5 (by rfl) T.b_len (by decide +kernel) (Z0 (Z3 0) Z9)) (Y1 _)) (Zn (Zk 2 Mu.nd rfl (Or.inl rfl) (Zf Y2 (Z3 2) (Z8 J7 (Zz Yl (Z3 0) (Z3 1) (fun _ _=>rfl)) (Z1))))) Vm)
  (Zn (V8 (Zf Yf (Z8 J7 (Z3 2) (Z1)) (Z1))))))))
theorem Pw (Df:Def K mg "_law_word" Qo) (T:Txt K mg)   : CalD P w K mg base 1 "_law_word" N35_ false Yr :=
 Vy (N:=N7_) (ps:=N35_) (st:=Qo) (k:=0) (g:=U0) Df Yq (fun _ _ _ _ _ _ us hl=>ar2 us hl fun _ _=>rfl) (fun f cdv A outer s H E hr=>(by
  unfold U0;exact (Za (Zk 2 Yq.nd rfl (Or.inl rfl) (Yt))
  (Za (Zk 3 Yq.nd rfl (Or.inl rfl) (Zf Y2 (Z1) (Z8 Yf (Z3 0) (Z1))))
  (Za (Zk 4 Yq.nd rfl (Or.inl rfl) (Zf Yf (Z8 Y9 (Z3 0) (Z1)) (Z3 3)))
  (Za (Zk 5 Yq.nd rfl (Or.inl rfl) (Yt))
  (Za (Ug PassesOwn.never rfl (Wl (by rfl) T.b_range (Z0 (Z3 3) Z9)) (Zu 6 Yq.nd rfl (Or.inl rfl)) (Za (Zk 7 Yq.nd rfl (Or.inl rfl) (Wy))
  (Za (Tj (U7 (Ta hr.units) (Z3 6) (Z3 4) (Y1 _)) (Zn (Zk 7 Yq.nd rfl (Or.inl rfl) (Zb 1))) Vm)
  (Zn (Zk 5 Yq.nd rfl (Or.inl rfl) (Zf Y2 (Z3 5) (Zz Yl (Z3 2) (Z8 Yf (Z8 Y2 (Z8 Y2 (Z8 Y9 (Z3 0) (Z1)) (Z8 J7 (Z1) (Z3 6))) (Z8 J7 (Z1) (Z3 7))) (Z1)) (fun _ _=>rfl))))))))
  (Za (Tj (U7 (Zee hr.units) (Z3 5) (Y7 (Tq (Z0 (Yt) (Z0 (Yt) (Z0 (Yt) (Z0 (Yt) (Z0 (Yt) Z9))))))) (by rfl)) (Zn (Zk 5 Yq.nd rfl (Or.inl rfl) (Zf Y2 (Wt Mi (Z3 5) (Tg (Z1)) J5) (Zbx (m:=true))))) Vm)
  (Zn (V8 (Zb 5)))))))))))
theorem Nu (Df:Def K mg "_law_order" Tx) (T:Txt K mg)  (C__law_mix:CalD P w K mg base 1 "_law_mix" N31_ false Yb):CalD P w K mg base 2 "_law_order" N18_ true Tu :=
 Vy (N:=N8_) (ps:=N18_) (st:=Tx) (k:=1) (g:=Vi) Df V4 (fun _ _ _ _ _ _ us hl=>ar3 us hl fun _ _ _=>rfl) (fun f cdv A outer s H E hr=>(by
  unfold Vi;exact (Za (Ry 3 V4.nd rfl (Or.inl rfl) (Tq Z9))
  (Za (Ug PassesOwn.never rfl (Wl (by rfl) T.b_range (Z0 (Z3 2) Z9)) (Zu 4 V4.nd rfl (Or.inl rfl)) (Za (Zk 5 V4.nd rfl (Or.inl rfl) (Zw C__law_mix (hr.mono (by lia)) (Z0 (Zb 0) (Z0 (Zf Y2 (Z3 1) (Z3 4)) Z9))))
  (Za (Zk 6 V4.nd rfl (Or.inl rfl) (Zf Yf (Z3 5) (Z8 Y2 (Ya M5 (by rfl) T.b_len (by decide +kernel) (Z0 (xo 3) Z9)) (Z1))))
  (Za (Qy 3 PySem.F.slot_list_insert PySem.F.type_list_insert Pq (Z0 (Zb 6) (Z0 (Zb 4) Z9)))
  (Za (Zk 7 V4.nd rfl (Or.inl rfl) (Zf Yf (Z8 Y9 (Z3 5) (Z1)) (Z8 Ik (Ya M5 (by rfl) T.b_len (by decide +kernel) (Z0 (xo 3) Z9)) (Z3 6))))
  (Zn (Qy 3 PySem.F.slot_list_insert PySem.F.type_list_insert Pq (Z0 (Zf Y2 (Z8 Y2 (Z3 6) (Z1)) (Z3 7)) (Z0 (Zb 4) Z9)))))))))
  (Zn (Nc 3))))))
theorem Kn (Df:Def K mg "_law_arrows" T7) (T:Txt K mg)  (C__law_mix:CalD P w K mg base 1 "_law_mix" N31_ false Yb):CalD P w K mg base 2 "_law_arrows" N13_ true T4 :=
 Vy (N:=N5_) (ps:=N13_) (st:=T7) (k:=1) (g:=V2) Df Wo (fun _ _ _ _ _ _ us hl=>ar4 us hl fun _ _ _ _=>rfl) (fun f cdv A outer s H E hr=>(by
  unfold V2;exact (Za (Ry 4 Wo.nd rfl (Or.inl rfl) (Tq Z9))
  (Za (Ug PassesOwn.never rfl (Wl (by rfl) T.b_range (Z0 (Z3 2) Z9)) (Zu 5 Wo.nd rfl (Or.inl rfl)) (Za (Zk 6 Wo.nd rfl (Or.inl rfl) (Zw C__law_mix (hr.mono (by lia)) (Z0 (Zb 0) (Z0 (Zf Y2 (Z3 1) (Z3 5)) Z9))))
  (Za (Zk 7 Wo.nd rfl (Or.inl rfl) (Zf Yf (Z3 6) (Z3 3)))
  (Za (Zk 8 Wo.nd rfl (Or.inl rfl) (Zf Yf (Z8 Y9 (Z3 6) (Z1)) (Z3 3)))
  (Zn (Tj (B3.pt (Bc (U7 (Z1b hr.units) (Z3 7) (Z3 8) (Y1 _)) (Nb (U7 (Z6t hr.units) (Qb (Z0 (Us (Z3f rfl) (by rfl) T.b_min (by decide +kernel) (Z0 (Z3 7) (Z0 (Z3 8) Z9))) (Z0 (Us (Z3k rfl) (by rfl) T.b_max (by decide +kernel) (Z0 (Z3 7) (Z0 (Z3 8) Z9))) Z9))) (xo 4) (by rfl))))) (Zn (Qy 4 PySem.F.slot_list_append PySem.F.type_list_append T8 (Z0 (Zo (Z0 (Us (Z3f rfl) (by rfl) T.b_min (by decide +kernel) (Z0 (Z3 7) (Z0 (Z3 8) Z9))) (Z0 (Us (Z3k rfl) (by rfl) T.b_max (by decide +kernel) (Z0 (Z3 7) (Z0 (Z3 8) Z9))) Z9))) Z9))) Vm))))))
  (Zn (Nc 4))))))
theorem Nm (Df:Def K mg "_law_graph" Y4) (T:Txt K mg)  (C__law_order:CalD P w K mg base 2 "_law_order" N18_ true Tu) (C__law_mix:CalD P w K mg base 1 "_law_mix" N31_ false Yb) (C__law_arrows:CalD P w K mg base 2 "_law_arrows" N13_ true T4) (C__law_word:CalD P w K mg base 1 "_law_word" N35_ false Yr):CalD P w K mg base 3 "_law_graph" N14_ false Tt :=
 Vy (N:=N0_) (ps:=N14_) (st:=Y4) (k:=2) (g:=Vj) Df Zh (fun _ _ _ _ _ _ us hl=>ar4 us hl fun _ _ _ _=>rfl) (fun f cdv A outer s H E hr=>(by
  unfold Vj;refine (Za (Zk 4 Zh.nd rfl (Or.inl rfl) (Zw C__law_order (hr.mono (by lia)) (Z0 (Zb 0) (Z0 (Zb 1) (Z0 (Zb 2) Z9)))))
  (Za (Zk 5 Zh.nd rfl (Or.inl rfl) (Zf J7 (Z1) (Z3 2)))
  (Za (Zk 6 Zh.nd rfl (Or.inl rfl) (Zw C__law_mix (hr.mono (by lia)) (Z0 (Zb 0) (Z0 (Zf Y2 (Z3 1) (Z3 2)) Z9))))
  (Za (Zk 7 Zh.nd rfl (Or.inr rfl) (Zw C__law_arrows (hr.mono (by lia)) (Z0 (Zb 0) (Z0 (Zf Y2 (Z8 Y2 (Z3 1) (Z3 2)) (Z1)) (Z0 (Zb 3) (Z0 (Zb 5) Z9))))))
  (Za (Tj (U7 (Ta hr.units) (Z8 Yf (Z3 6) (Z1)) (Z1) (Y1 _)) (Zn (Zk 7 Zh.nd rfl (Or.inr rfl) (Zf Y2 (Z3 7) (Y7 ?c0)))) Vm)
  (Za (Ug PassesOwn.never rfl (Wl (by rfl) T.b_range (Z0 (Z3 2) Z9)) (Zu 8 Zh.nd rfl (Or.inl rfl)) (Za (Zk 9 Zh.nd rfl (Or.inr rfl) (xbm (m:=false) PySem.F.plainAttrs_list PySem.F.slot_list_index PySem.F.type_list_index Od (Z3 4) (Z0 (Z3 8) Z9)))
  (Za (Zk 10 Zh.nd rfl (Or.inr rfl) (Zf Y2 (Z8 Y2 (Z3 9) (Z1)) (xbm (m:=true) PySem.F.plainAttrs_list PySem.F.slot_list_index PySem.F.type_list_index Od (Wt Mi (Z3 4) (Tg (Z8 Y2 (Z3 9) (Z1))) J5) (Z0 (Z3 8) Z9))))
  (Zn (Zk 7 Zh.nd rfl (Or.inr rfl) (Zf Y2 (Y7 ?c1) (Y7 (Tq (Z0 (Zo (Z0 (Zb 9) (Z0 (Zb 10) Z9))) Z9)))))))))
  (Za (Z2d 11 Zh.nd rfl (Or.inl rfl) (Z7 Y4) [none] ["_law_d"] rfl (show CompOk (Z7 Y4) _ N0_ ["_law_d"] [none] from CompOk.of (by decide +kernel)) rfl (Iq (Z3 4)) (fun _ _ _ _=>⟨(Zu 0 (show (["_law_d"]:List Str).Nodup from by decide +kernel) rfl (Or.inl rfl)),Lm⟩) (by decide))
  (Za (Z2d 12 Zh.nd rfl (Or.inl rfl) (Z7 Y4) [none] ["_law_d"] rfl (show CompOk (Z7 Y4) _ N0_ ["_law_d"] [none] from CompOk.of (by decide +kernel)) rfl (Iq (Z3 4)) (fun _ _ _ _=>⟨(Zu 0 (show (["_law_d"]:List Str).Nodup from by decide +kernel) rfl (Or.inl rfl)),Lm⟩) (by decide))
  (Za (Zk 13 Zh.nd rfl (Or.inl rfl) (Wy))
  (Za (Zk 14 Zh.nd rfl (Or.inl rfl) (Zf Yf (Z8 Y9 (Z3 6) (Z1)) (Z1)))
  (Za (Ug PassesOwn.never rfl (Ij (Zb 7)) (Ei (n:=2) rfl (Yz (Zu 15 Zh.nd rfl (Or.inl rfl)) (Yz (Zu 16 Zh.nd rfl (Or.inl rfl)) Mp))) (Za (Nk 12 (Z3 15) (fun _ _=>rfl) (Z0 (Zb 14) Z9))
  (Za (Nk 11 (Z3 16) (fun _ _=>rfl) (Z0 (Zb 14) Z9))
  (Za (Nk 12 (Z3 16) (fun _ _=>rfl) (Z0 (Zf Y2 (Z3 14) (Z1)) Z9))
  (Za (Nk 11 (Z3 15) (fun _ _=>rfl) (Z0 (Zf Y2 (Z3 14) (Z1)) Z9))
  (Za (Zk 13 Zh.nd rfl (Or.inl rfl) (Zf Z0n (Z3 13) (Z8 Uf (Z1) (Z8 Y2 (Z3 14) (Z1)))))
  (Zn (Zk 14 Zh.nd rfl (Or.inl rfl) (Zf Y2 (Z3 14) (Z1))))))))))
  (Za (Zk 17 Zh.nd rfl (Or.inl rfl) (Zf Yf (Z8 Y9 (Z3 6) (Z1)) (Z8 Uf (Z1) (Z3 2))))
  (Za (Zk 18 Zh.nd rfl (Or.inl rfl) (Zb 17))
  (Za (Ry 19 Zh.nd rfl (Or.inl rfl) (Tq Z9))
  (Za (Ug PassesOwn.never rfl (No (by rfl) T.b_enumerate (Zb 4)) (Ei (n:=2) rfl (Yz (Zu 20 Zh.nd rfl (Or.inl rfl)) (Yz (Zu 8 Zh.nd rfl (Or.inl rfl)) Mp))) (Za (Qy 19 PySem.F.slot_list_append PySem.F.type_list_append T8 (Z0 (Zo (Z0 (Zb 8) (Z0 (Wz (Ta hr.units) (Z8 Tk (Z8 Ml (Z3 18) (Z3 8)) (Z1)) (Z1) (Y1 _)) (Z0 (Uu (m:=false) Vg (by rfl) T.b_tuple (by decide +kernel) (Z0 (Y7 (Nn R5 (by rfl) T.b_sorted (by decide +kernel) (Z0 (Zbc 11 (Z3 20) (fun _ _=>rfl)) Z9))) Z9)) (Z0 (Uu (m:=false) Vg (by rfl) T.b_tuple (by decide +kernel) (Z0 (Y7 (Nn R5 (by rfl) T.b_sorted (by decide +kernel) (Z0 (Zbc 12 (Z3 20) (fun _ _=>rfl)) Z9))) Z9)) Z9))))) Z9))
  (Zn (Zk 18 Zh.nd rfl (Or.inl rfl) (Zf Z6v (Z3 18) (Z8 Uf (Z1) (Z3 8)))))))
  (Za (Zk 21 Zh.nd rfl (Or.inl rfl) (Zf Yf (Z8 Y9 (Z3 6) (Z1)) (Z3 5)))
  (Za (Ry 19 Zh.nd rfl (Or.inl rfl) (nop Ad (Wt Mi (xo 19) (Tg (Z3 21)) J5) (Wt Mi (xo 19) J5 (Tg (Z3 21)))))
  (Za (Zk 22 Zh.nd rfl (Or.inr rfl) (Zf Y9 (Z3 6) (Z1)))
  (Za (Z2y 23 Zh.nd rfl (Or.inl rfl) (Z7 Y4) [none,some 22,some 0,some 1] N12_ rfl (show CompOk (Z7 Y4) _ N0_ N12_ [none,some 22,some 0,some 1] from CompOk.of (by decide +kernel)) rfl (Wl (by rfl) T.b_range (Z0 (Z3 2) Z9)) (fun _ _ _ _=>⟨(Zu 0 (show (N12_:List Str).Nodup from by decide +kernel) rfl (Or.inl rfl)),Lm,(Zo (Z0 (Zw C__law_word (hr.mono (by lia)) (Z0 (Zb 1) (Z0 (Zb 0) Z9))) (Z0 (Yd Yl (Y7 (Tq (Z0 (Yt) (Z0 (Yt) Z9)))) (Z8 Yf (Z8 Y9 (U8 C__law_mix (hr.mono (by lia)) (Z0 (Zb 2) (Z0 (Zf Y2 (Z3 3) (Z3 0)) Z9))) (Z1)) (Z1)) (fun _ _=>rfl)) Z9)))⟩) (by decide))
  (Zn (V8 (Zo (Z0 (Uu (m:=false) Vg (by rfl) T.b_tuple (by decide +kernel) (Z0 (Z3 23) Z9)) (Z0 (Uu (m:=false) Vg (by rfl) T.b_tuple (by decide +kernel) (Z0 (xo 19) Z9)) (Z0 (Zb 13) (Z0 (Zb 17) Z9))))))))))))))))))))))))))
  case c0=>exact Ms (Z7 Y4) [none,some 7] N33_ rfl (show CompOk (Z7 Y4) _ N0_ N33_ [none,some 7] from CompOk.of (by decide +kernel)) rfl (Wl (by rfl) T.b_range (Z0 (Z8 Ik (Z3 5) (Z1)) Z9)) (fun _ _ _ _=>⟨(Zu 0 (show (N33_:List Str).Nodup from by decide +kernel) rfl (Or.inl rfl)),(Ln (U7 (Z6t hr.units) (Qb (Z0 (Zb 0) (Z0 (Zf Y2 (Z3 0) (Z1)) Z9))) (Z3 1) (by rfl))),(Zo (Z0 (Zb 0) (Z0 (Zf Y2 (Z3 0) (Z1)) Z9)))⟩) (by decide)
  case c1=>exact Ms (Z7 Y4) [none,some 9,some 10] N19_ rfl (show CompOk (Z7 Y4) _ N0_ N19_ [none,some 9,some 10] from CompOk.of (by decide +kernel)) rfl (Iq (Z3 7)) (fun _ _ _ _=>⟨(Zu 0 (show (N19_:List Str).Nodup from by decide +kernel) rfl (Or.inl rfl)),(Ln (U7 (Z1b hr.units) (Z3 0) (Qb (Z0 (Zb 1) (Z0 (Zb 2) Z9))) (Y1 _))),(Zb 0)⟩) (by decide)))
theorem Kk (Df:Def K mg "_law_choice" T6) (T:Txt K mg)  (C__law_mix:CalD P w K mg base 1 "_law_mix" N31_ false Yb) (C__law_word:CalD P w K mg base 1 "_law_word" N35_ false Yr):CalD P w K mg base 2 "_law_choice" N26_ false T3 :=
 Vy (N:=N3_) (ps:=N26_) (st:=T6) (k:=1) (g:=V3) Df Zs (fun _ _ _ _ _ _ us hl=>ar2 us hl fun _ _=>rfl) (fun f cdv A outer s H E hr=>(by
  unfold V3;exact (Za (Zk 2 Zs.nd rfl (Or.inl rfl) (Zw C__law_mix (hr.mono (by lia)) (Z0 (Zb 0) (Z0 (Zb 1) Z9))))
  (Za (Zk 3 Zs.nd rfl (Or.inl rfl) (Zf Yf (Z8 Y9 (Z3 2) (Z1)) (Z1)))
  (Za (Zk 4 Zs.nd rfl (Or.inl rfl) (Zf Yf (Z8 Y9 (Z3 2) (Z1)) (Z1)))
  (Za (Zk 5 Zs.nd rfl (Or.inl rfl) (Mt (Tq Z9)))
  (Za (Ry 6 Zs.nd rfl (Or.inl rfl) (Tq (Z0 (Zo (Z0 (Zw C__law_word (hr.mono (by lia)) (Z0 (Zf Y9 (Z3 2) (Z1)) (Z0 (Wy) Z9))) (Z0 (Yt) Z9))) Z9)))
  (Za (Ug PassesOwn.never rfl (Wl (by rfl) T.b_range (Z0 (Z8 Y2 (Z1) (Z8 Yf (Z3 2) (Z1))) Z9)) (Zu 7 Zs.nd rfl (Or.inl rfl)) (Za (Zk 8 Zs.nd rfl (Or.inl rfl) (Zw C__law_mix (hr.mono (by lia)) (Z0 (Zb 0) (Z0 (Zf Y2 (Z8 Y2 (Z3 1) (Z1)) (Z3 7)) Z9))))
  (Za (Zk 9 Zs.nd rfl (Or.inl rfl) (Zf Y2 (Z1) (Z8 J7 (Z3 7) (Z8 Yf (Z8 Y9 (Z3 2) (Z1)) (Z1)))))
  (Za (Zk 10 Zs.nd rfl (Or.inl rfl) (Wz (Ta hr.units) (Z8 Tk (Z8 Ml (Z3 4) (Z3 9)) (Z1)) (Z1) (Y1 _)))
  (Za (Zk 11 Zs.nd rfl (Or.inl rfl) (Zf Y2 (Z8 Y2 (Z3 3) (Z1)) (Z8 J7 (Z1) (Z3 7))))
  (Za (Qy 6 PySem.F.slot_list_append PySem.F.type_list_append T8 (Z0 (Zo (Z0 (Zw C__law_word (hr.mono (by lia)) (Z0 (Zf Y9 (Z3 2) (Z1)) (Z0 (Zf Y2 (Z3 7) (Z1)) Z9))) (Z0 (Yd Yl (Y7 (Tq (Z0 (Yt) (Z0 (Yt) (Z0 (Yt) Z9))))) (Z8 J7 (Z8 Yf (Z3 8) (Z1)) (Z8 Yf (Z8 Y9 (Z3 2) (Z1)) (Z1))) (fun _ _=>rfl)) Z9))) Z9))
  (Zn (Tj (U7 (Ta hr.units) (Z8 Yf (Z8 Y9 (Z3 8) (Z1)) (Z1)) (Z1) (Y1 _)) (Zn (Zk 5 Zs.nd rfl (Or.inl rfl) (Zf Y2 (Z3 5) (Y7 (Tq (Z0 (Zo (Z0 (Zb 9) (Z0 (Zb 10) (Z0 (Zo (Z0 (Zb 3) Z9)) (Z0 (Zo (Z0 (Zb 11) Z9)) Z9))))) (Z0 (Zo (Z0 (Zb 9) (Z0 (Zbd (m:=false) (Z3 10)) (Z0 (Zo (Z0 (Zb 11) Z9)) (Z0 (Zo (Z0 (Zb 3) Z9)) Z9))))) Z9))))))) (Za (Zk 5 Zs.nd rfl (Or.inl rfl) (Zf Y2 (Z3 5) (Y7 (Tq (Z0 (Zo (Z0 (Zb 9) (Z0 (Zb 10) (Z0 (Zo (Z0 (Zb 3) Z9)) (Z0 (Zo (Z0 (Zb 11) Z9)) Z9))))) (Z0 (Zo (Z0 (Wy) (Z0 (Wz (Ta hr.units) (Z8 Tk (Z3 4) (Z1)) (Z1) (Y1 _)) (Z0 (Zo (Z0 (Zb 11) Z9)) (Z0 (Zo (Z0 (Zf Y2 (Z3 11) (Z1)) Z9)) Z9))))) Z9))))))
  (Zn (Zk 5 Zs.nd rfl (Or.inl rfl) (Zf Y2 (Z3 5) (Y7 (Tq (Z0 (Zo (Z0 (Zb 9) (Z0 (Zbd (m:=false) (Z3 10)) (Z0 (Zo (Z0 (Zf Y2 (Z3 11) (Z1)) Z9)) (Z0 (Zo (Z0 (Zf Y2 (Z3 11) (Z1)) Z9)) Z9))))) (Z0 (Zo (Z0 (Wy) (Z0 (Wz (Ta hr.units) (Z8 Tk (Z3 4) (Z1)) (Z1) (Y1 _)) (Z0 (Zo (Z0 (Zf Y2 (Z3 11) (Z1)) Z9)) (Z0 (Zo (Z0 (Zb 3) Z9)) Z9))))) Z9))))))))))))))))
  (Za (Zk 12 Zs.nd rfl (Or.inl rfl) (Zf Yf (Z8 Y9 (Z3 2) (Z1)) (Ya M5 (by rfl) T.b_len (by decide +kernel) (Z0 (Z3 5) Z9))))
  (Zn (V8 (Zo (Z0 (Uu (m:=false) Vg (by rfl) T.b_tuple (by decide +kernel) (Z0 (xo 6) Z9)) (Z0 (Uu (m:=false) Vg (by rfl) T.b_tuple (by decide +kernel) (Z0 (Z8 Y2 (Wt Mi (Z3 5) (Tg (Z3 12)) J5) (Wt Mi (Z3 5) J5 (Tg (Z3 12)))) Z9)) (Z0 (Zf Uf (Z1) (Z3 3)) (Z0 (Zf Yf (Z3 4) (Z8 Uf (Z1) (Ya M5 (by rfl) T.b_len (by decide +kernel) (Z0 (xo 6) Z9)))) Z9))))))))))))))))
theorem Gv (Df:Def K mg "_law_lookers" Wk) (T:Txt K mg)   : CalD P w K mg base 1 "_law_lookers" N22_ false U9 :=
 Vy (N:=N2_) (ps:=N22_) (st:=Wk) (k:=0) (g:=Wp) Df Zm (fun _ _ _ _ _ _ us hl=>ar2 us hl fun _ _=>rfl) (fun f cdv A outer s H E hr=>(by
  unfold Wp;refine (Za (Z6l (Zb 0) (Ei (n:=4) rfl (Yz (Zu 2 Zm.nd rfl (Or.inl rfl)) (Yz (Zu 3 Zm.nd rfl (Or.inl rfl)) (Yz (Zu 4 Zm.nd rfl (Or.inl rfl)) (Yz (Zu 5 Zm.nd rfl (Or.inl rfl)) Mp))))))
  (Za (Zk 6 Zm.nd rfl (Or.inr rfl) (Zb 4))
  (Za (Ug PassesOwn.never rfl (Ij (Zb 3)) (Zu 7 Zm.nd rfl (Or.inl rfl)) (Zn (Ug PassesOwn.never rfl (Ij (Zf Xr (Zz Yl (Z3 7) (Z1) (fun _ _=>rfl)) (Zz Yl (Z3 7) (Z1) (fun _ _=>rfl)))) (Zu 8 Zm.nd rfl (Or.inl rfl)) (Zn (Zk 6 Zm.nd rfl (Or.inr rfl) (Zf Z0n (Z3 6) (Z8 Uf (Z1) (Z3 8))))))))
  (Za (Zk 8 Zm.nd rfl (Or.inl rfl) (Yd Yl (Y7 ?c0) (Z8 Yf (Z3 1) (Z1)) (fun _ _=>rfl)))
  (Za (Ry 9 Zm.nd rfl (Or.inl rfl) (Tq Z9))
  (Za (Ug PassesOwn.never rfl (No (by rfl) T.b_enumerate (Zb 3)) (Ei (n:=2) rfl (Yz (Zu 10 Zm.nd rfl (Or.inl rfl)) (Yz (Ei (n:=4) rfl (Yz (Zu 11 Zm.nd rfl (Or.inl rfl)) (Yz (Zu 12 Zm.nd rfl (Or.inl rfl)) (Yz (Zu 13 Zm.nd rfl (Or.inl rfl)) (Yz (Zu 14 Zm.nd rfl (Or.inl rfl)) Mp))))) Mp))) (Za (Tj (U7 (Ta hr.units) (Z8 Tk (Z8 Ml (Z8 Y9 (Z3 1) (Z1)) (Z3 10)) (Z1)) (Z1) (Y1 _)) (Za (Zk 13 Zm.nd rfl (Or.inl rfl) (Uu (m:=false) Vg (by rfl) T.b_tuple (by decide +kernel) (Z0 (Y7 (Nn R5 (by rfl) T.b_sorted (by decide +kernel) (Z0 (Z8 Xr (Z3 13) (Qb (Z0 (Zb 8) Z9))) Z9))) Z9)))
  (Zn (Zk 14 Zm.nd rfl (Or.inl rfl) (Uu (m:=false) Vg (by rfl) T.b_tuple (by decide +kernel) (Z0 (Y7 (Nn R5 (by rfl) T.b_sorted (by decide +kernel) (Z0 (Z8 Xr (Z3 14) (Qb (Z0 (Zb 8) Z9))) Z9))) Z9))))) Vm)
  (Zn (Qy 9 PySem.F.slot_list_append PySem.F.type_list_append T8 (Z0 (Zo (Z0 (Zb 11) (Z0 (Zb 12) (Z0 (Zb 13) (Z0 (Zb 14) Z9))))) Z9)))))
  (Zn (V8 (Zo (Z0 (Zb 2) (Z0 (Uu (m:=false) Vg (by rfl) T.b_tuple (by decide +kernel) (Z0 (xo 9) Z9)) (Z0 (Zf Z0n (Z3 4) (Z8 Uf (Z1) (Z3 8))) (Z0 (Zb 5) Z9)))))))))))))
  case c0=>exact Ms (Z7 Wk) [none,some 6] N34_ rfl (show CompOk (Z7 Wk) _ N2_ N34_ [none,some 6] from CompOk.of (by decide +kernel)) rfl (Wl (by rfl) T.b_range (Z0 (Z1) Z9)) (fun _ _ _ _=>⟨(Zu 0 (show (N34_:List Str).Nodup from by decide +kernel) rfl (Or.inl rfl)),(Ln (U7 (Ta hr.units) (Z8 Tk (Z8 Ml (Z3 1) (Z3 0)) (Z1)) (Z1) (Y1 _))),(Zb 0)⟩) (by decide)))
theorem Fg (Df:Def K mg "_law_can" Uh) (T:Txt K mg)   : CalD P w K mg base 1 "_law_can" N27_ false Ul :=
 Vy (N:=N27_) (ps:=N27_) (st:=Uh) (k:=0) (g:=Um) Df Ps (fun _ _ _ _ _ _ us hl=>ar2 us hl fun _ _=>rfl) (fun f cdv A outer s H E hr=>(by
  unfold Um;refine (Zn (V8 (Us (Zcb rfl) (by rfl) T.b_all (by decide +kernel) (Z0 (Y7 ?c0) Z9))))
  case c0=>exact Ms (Z7 Uh) [none,some 1] N29_ rfl (show CompOk (Z7 Uh) _ N27_ N29_ [none,some 1] from CompOk.of (by decide +kernel)) rfl (Iq (Zz Yl (Z3 0) (Z1) (fun _ _=>rfl))) (fun _ _ _ _=>⟨(Zu 0 (show (N29_:List Str).Nodup from by decide +kernel) rfl (Or.inl rfl)),Lm,(Wz (Ta hr.units) (Z8 Tk (Z8 Ml (Z3 1) (Z3 0)) (Z1)) (Z1) (Y1 _))⟩) (by decide)))
theorem Pa (Df:Def K mg "_law_done" U3) (T:Txt K mg)   : CalD P w K mg base 1 "_law_done" N28_ false U2 :=
 Vy (N:=N9_) (ps:=N28_) (st:=U3) (k:=0) (g:=Vw) Df Wv (fun _ _ _ _ _ _ us hl=>ar2 us hl fun _ _=>rfl) (fun f cdv A outer s H E hr=>(by
  unfold Vw;refine (Za (Z6l (Zb 1) (Ei (n:=2) rfl (Yz (Zu 2 Wv.nd rfl (Or.inr rfl)) (Yz (Zu 3 Wv.nd rfl (Or.inl rfl)) Mp))))
  (Za (Tj (U7 (Ta hr.units) (Zc7 (m:=true) (Ta hr.units) (Z8 Tk (Z8 Ml (Z3 3) (Zz Yl (Z3 0) (Z1) (fun _ _=>rfl))) (Z1)) (Z1) (Y1 _)) (Zz Yl (Z3 0) (Z1) (fun _ _=>rfl)) (Y1 _)) (Zn (V8 (Yt))) Vm)
  (Za (Ug PassesOwn.never rfl (Ij (Yd Yl (Z3 0) (Z1) (fun _ _=>rfl))) (Zu 4 Wv.nd rfl (Or.inl rfl)) (Zn (Zk 2 Wv.nd rfl (Or.inr rfl) (Zf Ik (Z3 2) (Z8 Uf (Z1) (Z3 4))))))
  (Za (Tj (Px (Ya (Zce rfl) (by rfl) T.b_any (by decide +kernel) (Z0 (Y7 ?c0) Z9))) (Zn (V8 (Yt))) Vm)
  (Za (Ug PassesOwn.never rfl (Ij (Yd Yl (Z3 0) (Z1) (fun _ _=>rfl))) (Zu 4 Wv.nd rfl (Or.inl rfl)) (Zn (Zk 2 Wv.nd rfl (Or.inr rfl) (Zf Y2 (Z3 2) (Z8 Uf (Z1) (Z3 4))))))
  (Za (Tj (Px (Zz Yl (Z3 0) (Z1) (fun _ _=>rfl))) (Zn (V8 (Zo (Z0 (Zb 2) (Z0 (Zf Y2 (Z3 3) (Z8 Uf (Z1) (Zz Yl (Z3 0) (Z1) (fun _ _=>rfl)))) Z9))))) Vm)
  (Zn (V8 (Zo (Z0 (Zb 2) (Z0 (Zf Ik (Z3 3) (Z8 Uf (Z1) (Zz Yl (Z3 0) (Z1) (fun _ _=>rfl)))) Z9)))))))))))
  case c0=>exact Ms (Z7 U3) [none,some 2] N29_ rfl (show CompOk (Z7 U3) _ N9_ N29_ [none,some 2] from CompOk.of (by decide +kernel)) rfl (Iq (Zz Yl (Z3 0) (Z1) (fun _ _=>rfl))) (fun _ _ _ _=>⟨(Zu 0 (show (N29_:List Str).Nodup from by decide +kernel) rfl (Or.inl rfl)),Lm,(Wz (Ta hr.units) (Z8 Tk (Z8 Ml (Z3 1) (Z3 0)) (Z1)) (Z1) (Y1 _))⟩) (by decide)))
theorem Se (Df:Def K mg "_law_free_graph" Zy) (T:Txt K mg)  (C__law_word:CalD P w K mg base 1 "_law_word" N35_ false Yr):CalD P w K mg base 2 "_law_free_graph" ["_law_cell"] false V9 :=
 Vy (N:=N1_) (ps:=["_law_cell"]) (st:=Zy) (k:=1) (g:=W0) Df Zi (fun _ _ _ _ _ _ us hl=>ar1 us hl fun _=>rfl) (fun f cdv A outer s H E hr=>(by
  unfold W0;refine (Za (Zk 1 Zi.nd rfl (Or.inl rfl) (Zf Y2 (Z1) (Z8 Yf (Z3 0) (Z1))))
  (Za (Zk 2 Zi.nd rfl (Or.inr rfl) (Zf Yf (Z8 Y9 (Z3 0) (Z1)) (Z1)))
  (Za (Zk 3 Zi.nd rfl (Or.inl rfl) (Zf Yf (Z8 Y9 (Z3 0) (Z1)) (Z8 Uf (Z1) (Z3 1))))
  (Za (Zk 4 Zi.nd rfl (Or.inl rfl) (Zf Y2 (Z1) (Z8 Yf (Z8 Y9 (Z3 0) (Z1)) (Z1))))
  (Za (Zk 5 Zi.nd rfl (Or.inr rfl) (Zf Yf (Z8 Y9 (Z3 0) (Z1)) (Z8 Ik (Z1) (Z3 4))))
  (Za (Zk 6 Zi.nd rfl (Or.inl rfl) (Zf Yf (Z8 Y9 (Z3 0) (Z1)) (Z8 Uf (Z1) (Z3 4))))
  (Za (Zk 7 Zi.nd rfl (Or.inl rfl) (Zf Y2 (Z1) (Z8 Yf (Z8 Y9 (Z3 0) (Z1)) (Z1))))
  (Za (Zk 8 Zi.nd rfl (Or.inr rfl) (Zf Yf (Z8 Y9 (Z3 0) (Z1)) (Z8 Z71 (Z1) (Z1))))
  (Za (Zk 0 Zi.nd rfl (Or.inl rfl) (Zf Z43 (Z3 0) (Z8 J7 (Z1) (Z8 Z71 (Z1) (Z1)))))
  (Za (Ry 9 Zi.nd rfl (Or.inl rfl) (Tq Z9))
  (Za (Ug PassesOwn.never rfl (Wl (by rfl) T.b_range (Z0 (Z3 7) Z9)) (Zu 10 Zi.nd rfl (Or.inl rfl)) (Za (Zk 11 Zi.nd rfl (Or.inr rfl) (Zf Y2 (Z1) (Z8 Yf (Z8 Y9 (Z3 0) (Z1)) (Z8 Ik (Z8 Uf (Z1) (Z3 4)) (Z1)))))
  (Za (Zk 12 Zi.nd rfl (Or.inr rfl) (Zf Y2 (Z1) (Z8 Yf (Z8 Y9 (Z3 0) (Z1)) (Z8 Ik (Z8 Uf (Z1) (Z3 4)) (Z1)))))
  (Za (Zk 13 Zi.nd rfl (Or.inl rfl) (Uu (m:=false) Vg (by rfl) T.b_tuple (by decide +kernel) (Z0 (Y7 ?c0) Z9)))
  (Za (Zk 14 Zi.nd rfl (Or.inl rfl) (Uu (m:=false) Vg (by rfl) T.b_tuple (by decide +kernel) (Z0 (Y7 ?c1) Z9)))
  (Za (Qy 9 PySem.F.slot_list_append PySem.F.type_list_append T8 (Z0 (Zo (Z0 (Zf Yf (Z8 Yf (Z3 0) (Z1)) (Z3 1)) (Z0 (Wz (Ta hr.units) (Z8 Yf (Z8 Y9 (Z3 0) (Z1)) (Z1)) (Z1) (Y1 _)) (Z0 (Zb 13) (Z0 (Zb 14) Z9))))) Z9))
  (Zn (Zk 0 Zi.nd rfl (Or.inl rfl) (Zf Y9 (Z3 0) (Z1))))))))))
  (Za (Z2y 15 Zi.nd rfl (Or.inl rfl) (Z7 Zy) [none,some 8,some 2] N17_ rfl (show CompOk (Z7 Zy) _ N1_ N17_ [none,some 8,some 2] from CompOk.of (by decide +kernel)) rfl (Wl (by rfl) T.b_range (Z0 (Z3 1) Z9)) (fun _ _ _ _=>⟨(Zu 0 (show (N17_:List Str).Nodup from by decide +kernel) rfl (Or.inl rfl)),Lm,(Zo (Z0 (Zw C__law_word (hr.mono (by lia)) (Z0 (Zb 1) (Z0 (Zb 0) Z9))) (Z0 (Yd Yl (Y7 (Tq (Z0 (Yt) (Z0 (Yt) Z9)))) (Z8 Tk (Z8 Ml (Z3 2) (Z3 0)) (Z1)) (fun _ _=>rfl)) Z9)))⟩) (by decide))
  (Zn (V8 (Zo (Z0 (Uu (m:=false) Vg (by rfl) T.b_tuple (by decide +kernel) (Z0 (Z3 15) Z9)) (Z0 (Uu (m:=false) Vg (by rfl) T.b_tuple (by decide +kernel) (Z0 (xo 9) Z9)) (Z0 (Zf Uf (Z3 6) (Z3 5)) (Z0 (Zb 3) Z9)))))))))))))))))))
  case c0=>exact Ms (Z7 Zy) [none,some 5,some 11] N20_ rfl (show CompOk (Z7 Zy) _ N1_ N20_ [none,some 5,some 11] from CompOk.of (by decide +kernel)) rfl (Wl (by rfl) T.b_range (Z0 (Z3 4) Z9)) (fun _ _ _ _=>⟨(Zu 0 (show (N20_:List Str).Nodup from by decide +kernel) rfl (Or.inl rfl)),(Ln (U7 (Ta hr.units) (Z8 Tk (Z8 Ml (Z3 2) (Z3 0)) (Z1)) (Z1) (Y1 _))),(Zf Y2 (Z3 1) (Z3 0))⟩) (by decide)
  case c1=>exact Ms (Z7 Zy) [none,some 5,some 12] N21_ rfl (show CompOk (Z7 Zy) _ N1_ N21_ [none,some 5,some 12] from CompOk.of (by decide +kernel)) rfl (Wl (by rfl) T.b_range (Z0 (Z3 4) Z9)) (fun _ _ _ _=>⟨(Zu 0 (show (N21_:List Str).Nodup from by decide +kernel) rfl (Or.inl rfl)),(Ln (U7 (Ta hr.units) (Z8 Tk (Z8 Ml (Z3 2) (Z3 0)) (Z1)) (Z1) (Y1 _))),(Zf Y2 (Z3 1) (Z3 0))⟩) (by decide)))
theorem Ly (Df:Def K mg "_law_ahead" Tw) (T:Txt K mg)  (C__law_can:CalD P w K mg base 1 "_law_can" N27_ false Ul) (C_can:CalD P w K mg base 2 "can" N30_ false Hg) (C__law_done:CalD P w K mg base 1 "_law_done" N28_ false U2) (C_behind:CalX P w K mg base 3 "behind" N30_ false Q5 true):CalD P w K mg base 4 "_law_ahead" N10_ true Ub :=
 Vy (N:=N6_) (ps:=N10_) (st:=Tw) (k:=3) (g:=Vh) Df Vs (fun _ _ _ _ _ _ us hl=>ar4 us hl fun _ _ _ _=>rfl) (fun f cdv A outer s H E hr=>(by
  unfold Vh;exact (Za (Tj (Z6q (Rq hr) (Z3 3) (xo 2)) (Zn (Ny (T9))) Vm)
  (Za (Ry 4 Vs.nd rfl (Or.inl rfl) (Tq Z9))
  (Za (Ug PassesOwn.never rfl (No (by rfl) T.b_enumerate (Yd Yl (Z3 0) (Z1) (fun _ _=>rfl))) (Ei (n:=2) rfl (Yz (Zu 5 Vs.nd rfl (Or.inl rfl)) (Yz (Zu 6 Vs.nd rfl (Or.inl rfl)) Mp))) (Za (Tj (U7 (Z1b hr.units) (U8 C_can (hr.mono (by lia)) (Z0 (Zb 0) (Z0 (Zb 3) (Z0 (Zb 5) Z9)))) (U8 C__law_can (hr.mono (by lia)) (Z0 (Zb 6) (Z0 (Yd Yl (Z3 3) (Z1) (fun _ _=>rfl)) Z9))) (Y1 _)) (Zn (Ny (T9))) Vm)
  (Zn (Tj (Px (U8 C__law_can (hr.mono (by lia)) (Z0 (Zb 6) (Z0 (Yd Yl (Z3 3) (Z1) (fun _ _=>rfl)) Z9)))) (Za (Qy 4 PySem.F.slot_list_append PySem.F.type_list_append T8 (Z0 (Zb 5) Z9))
  (Za (Zk 7 Vs.nd rfl (Or.inl rfl) (Zw C__law_done (hr.mono (by lia)) (Z0 (Zb 6) (Z0 (Zb 3) Z9))))
  (Za (Tj (B3.pt (Z8c (Px (Zcu (m:=true) (T:="str") (Z3 7) (by rfl) T.b_isinstance (by decide +kernel) (by rfl) T.b_str (by decide +kernel))) (Z8c (U7 (Z1b hr.units) (Z9s (m:=true) C_behind (hr.mono (by lia)) (Z0 (Zb 0) (Z0 (Zb 3) (Z0 (Zb 5) Z9)))) (Z3 7) (Y1 _)) (Z6h (Z6q (Rq hr) (Z3 7) (xo 2)))))) (Zn (Ny (T9))) Vm)
  (Zn (Tj (B3.pt (Bc (U7 Zds (Z20 (m:=true) (Rq hr) (xo 2) (Z3 7) (fun _ _=>rfl)) (Z1) (Y1 _)) (Nb (U7 (Zaz hr.units) (Wt Mi (Zz Yl (Z3 1) (Z20 (m:=true) (Rq hr) (xo 2) (Z3 7) (fun _ _=>rfl)) (fun _ _=>rfl)) (Tg (Z1)) J5) (Qb (Z0 (Z20 (m:=false) (Rq hr) (xo 2) (Z3 3) (fun _ _=>rfl)) (Z0 (Zb 5) Z9))) (Y1 _))))) (Zn (Ny (T9))) Vm))))) Vm))))
  (Zn (Nc 4)))))))
theorem Ov (Df:Def K mg "_law_told" Qj) (T:Txt K mg)  (C_stands:CalX P w K mg base 5 "stands" ["graph","most"] true Qa):CalD P w K mg base 6 "_law_told" N23_ false Tb :=
 Vy (N:=N16_) (ps:=N23_) (st:=Qj) (k:=5) (g:=Wc) Df To (fun _ _ _ _ _ _ us hl=>ar2 us hl fun _ _=>rfl) (fun f cdv A outer s H E hr=>(by
  unfold Wc;exact (Za (Zk 2 To.nd rfl (Or.inl rfl) (T9))
  (Za (Z61 (known:=N24_) (b1':=(fun _=>true)) (fun _=>PassesOwnAt.never) (fun _ _=>(Zn (Z0j 2 To.nd rfl (Or.inl rfl) (Z39 C_stands (hr.mono (by lia)) (Z0 (Zb 0) (Z0 (Zb 1) Z9)))))) (fun _ _=>(Zn (Zk 2 To.nd rfl (Or.inl rfl) (T9)))) T.u_8)
  (Zn (V8 (Zb 2)))))))
theorem Zai {f:Addr} {fd:FuncData} (Df:Fun K "law" "law" El f fd) (T:Txt K mg)  (C__law_mix:CalD P w K mg base 1 "_law_mix" N31_ false Yb) (C__law_told:CalD P w K mg base 6 "_law_told" N23_ false Tb) (C__law_free_graph:CalD P w K mg base 2 "_law_free_graph" ["_law_cell"] false V9) (C__law_lookers:CalD P w K mg base 1 "_law_lookers" N22_ false U9) (C__law_ahead:CalD P w K mg base 4 "_law_ahead" N10_ true Ub) (C__law_done:CalD P w K mg base 1 "_law_done" N28_ false U2) (C__law_choice:CalD P w K mg base 2 "_law_choice" N26_ false T3) (C__law_graph:CalD P w K mg base 3 "_law_graph" N14_ false Tt) (hl:∀ ns:List Int,ns.length<=63->Z6f [.lst (ns.map .int)]=.ok (.bl true)):FnOk P w K mg base Sc 7 f fd N39_ (Po K) :=
 Zav (N:=N4_) (ps:=N39_) (st:=El) (g:=Li) Df Vt rfl (fun cdv A outer s H E hr=>(by
  unfold Li;exact (Za (Zk 1 Vt.nd rfl (Or.inl rfl) (Zw C__law_mix (hr.mono (by lia)) (Z0 (Zb 0) (Z0 (Wy) Z9))))
  (Za (Zk 2 Vt.nd rfl (Or.inl rfl) (Wz (Ta hr.units) (Z8 Yf (Z8 Y9 (Z3 1) (Z1)) (Z1)) (Z1) (Y1 _)))
  (Za (Tj (Px (Z3 2)) (Zn (Zk 3 Vt.nd rfl (Or.inl rfl) (Zw C__law_free_graph (hr.mono (by lia)) (Z0 (Us Zc0 (by rfl) T.b_abs (by decide +kernel) (Z0 (Ya (Zc2 rfl) (by rfl) T.b_sum (by decide +kernel) (Z0 (Wt Mi (Z3 0) (Tg (Z1)) (Tg (Z1))) Z9)) Z9)) Z9)))) (Zn (Tj (U7 (Ta hr.units) (Z8 Yf (Z3 1) (Z1)) (Z1) (Y1 _)) (Zn (Zk 3 Vt.nd rfl (Or.inl rfl) (Zw C__law_choice (hr.mono (by lia)) (Z0 (Zb 0) (Z0 (Wy) Z9))))) (Zn (Zk 3 Vt.nd rfl (Or.inl rfl) (Zw C__law_graph (hr.mono (by lia)) (Z0 (Zb 0) (Z0 (Wy) (Z0 (Zf Y2 (Z1) (Z8 Yf (Z8 Y9 (Z3 1) (Z1)) (Z1))) (Z0 (Zf Yf (Z8 Y9 (Z3 1) (Z1)) (Z1)) Z9))))))))))
  (Za (Tj (B3.pt (Bc (Zc3 (Px (Z3 2))) (Nb (U7 (Ta hr.units) (Z8 Yf (Z8 Y9 (Z3 1) (Z1)) (Z1)) (Z1) (Y1 _))))) (Zn (Zk 3 Vt.nd rfl (Or.inl rfl) (Zw C__law_lookers (hr.mono (by lia)) (Z0 (Zb 3) (Z0 (Zf Y9 (Z3 1) (Z1)) Z9))))) Vm)
  (Za (Zk 4 Vt.nd rfl (Or.inl rfl) (Zw C__law_told (hr.mono (by lia)) (Z0 (Zb 3) (Z0 (Wy) Z9))))
  (Za (Tj (U7 Zb3 (Z3 4) (Z40 (m:=true)) (Y1 _)) (Zn (V8 (Zb 2))) Vm)
  (Za (Z8w 5 Vt.nd rfl (Or.inl rfl))
  (Za (Ug PassesOwn.never rfl (No (by rfl) T.b_enumerate (Zb 4)) (Ei (n:=2) rfl (Yz (Zu 6 Vt.nd rfl (Or.inl rfl)) (Yz (Zu 7 Vt.nd rfl (Or.inl rfl)) Mp))) (Zn (Z2o 5 (Rq hr) (Wt Mi (Z3 7) J5 (Tg (Z1))) (Zb 6))))
  (Za (Zk 8 Vt.nd rfl (Or.inl rfl) (Zo (Z0 (Yd Yl (Z3 3) (Z1) (fun _ _=>rfl)) (Z0 (Yd Yl (Z3 3) (Z1) (fun _ _=>rfl)) Z9))))
  (Za (Ug PassesOwn.never rfl (Z35 (by rfl) T.b_range (Z0 (Z1) (Z0 (Ya (Z3k rfl) (by rfl) T.b_max (by decide +kernel) (Z0 (Z1) (Z0 (Ya (Z3f rfl) (by rfl) T.b_min (by decide +kernel) (Z0 (Z1) (Z0 (Ya M5 (by rfl) T.b_len (by decide +kernel) (Z0 (Z3 0) Z9)) Z9))) Z9))) Z9))) (Zu 9 Vt.nd rfl (Or.inl rfl)) (Za (Zbm 5 (Zk 10 Vt.nd rfl (Or.inl rfl) (Zw C__law_ahead (hr.mono (by lia)) (Z0 (Zb 3) (Z0 (Zb 4) (Z0 (Zb 5) (Z0 (Zb 8) Z9)))))))
  (Za (Tj (B3.pt (Z8c (U7 Zb3 (Z3 10) (Z40 (m:=true)) (Y1 _)) (Z6h (B3.pt (Bc (U7 (Ta hr.units) (Z3 10) (Y7 (Tq Z9)) (Y1 _)) (Nb (Zc3 (Px (Z3 2))))))))) (Zn (V8 (xbl (m:=false)))) Vm)
  (Za (Tj (U7 (Ta hr.units) (Z3 10) (Y7 (Tq Z9)) (Y1 _)) (Zn (V8 (Wz (Ta hr.units) (Z66 (m:=true) (by rfl) T.b_len (by decide +kernel) (xo 5)) (Ya M5 (by rfl) T.b_len (by decide +kernel) (Z0 (Z3 4) Z9)) (Y1 _)))) Vm)
  (Zn (Zk 8 Vt.nd rfl (Or.inl rfl) (Zw C__law_done (hr.mono (by lia)) (Z0 (Yd Yl (Zz Yl (Z3 3) (Z1) (fun _ _=>rfl)) (Zz Yl (Z3 10) (Z8 Yf (U8 C__law_mix (hr.mono (by lia)) (Z0 (Zb 0) (Z0 (Zb 9) Z9))) (Ya M5 (by rfl) T.b_len (by decide +kernel) (Z0 (Z3 10) Z9))) (fun _ _=>rfl)) (fun _ _=>rfl)) (Z0 (Zb 8) Z9)))))))))
  (Zn (V8 (Zd3 (m:=false) (Zda (m:=true) (Rq hr) (Z3 8) (xo 5)) (Zeg (Wz (Ta hr.units) (Z66 (m:=true) (by rfl) T.b_len (by decide +kernel) (xo 5)) (Ya M5 (by rfl) T.b_len (by decide +kernel) (Z0 (Z3 4) Z9)) (Y1 _)))))))))))))))))) hl
end
end K25
namespace L2
open PySem PySem.Spec PyProof.Rows
def Gd (r:Fl) (N:Ev->Prop) (R:Dat->Prop):Prop:=match r with
 | .next e=>N e
 | .ret d=>R d
 | _=>False
structure Go (r:Fl) (N:Ev->Prop) (R:Dat->Prop):Prop where
 of:Gd r N R
section
variable {N:Ev->Prop} {R:Dat->Prop} {g h:Ev->Fl} {f:Ev->Option Dat} {fs:Ev->Option (List Dat)} {t:Ev->Option Bool} {env:Ev} {d:Dat} {ds:List Dat} {i:Nat}
theorem Go.next {e:Ev} (q:N e):Go (.next e) N R:=⟨q⟩
theorem Go.mono {N':Ev->Prop} {R':Dat->Prop} {r:Fl} (q:Go r N R) (hN:∀ e,N e->N' e) (hR:∀ d,R d->R' d):Go r N' R':=by
 cases r with
 | next e=>exact ⟨hN e q.of⟩
 | ret d=>exact ⟨hR d q.of⟩
 | _=>exact q.of.elim
theorem Wa (q:N env):Go (Tp env) N R:=⟨q⟩
theorem Z6 (q:Go (g env) (fun e=>Go (h e) N R) R):Go (Ze g h env) N R:=by
 unfold Ze;cases e:g env with
 | next e'=>rw [e] at q;exact q.of
 | ret d=>rw [e] at q;exact ⟨q.of⟩
 | _=>rw [e] at q;exact q.of.elim
theorem Zg (e:f env=some d) (q:N (env.set i (.fz d))):Go (Zr i f env) N R:=by unfold Zr;rw [e];exact ⟨q⟩
theorem Qz (e:fs env=some ds) (q:N (env.set i (.ow ds))):Go (Sg i fs env) N R:=by unfold Sg;rw [e];exact ⟨q⟩
theorem Ym (e:f env=some d) (q:R d):Go (Vn f env) N R:=by unfold Vn;rw [e];exact ⟨q⟩
theorem Gj (e:env[i]?=some (.ow ds)) (q:R (.lst ds)):Go (G0 i env) N R:=by unfold G0;rw [e];exact ⟨q⟩
theorem Z33 (e:t env=some true) (q:Go (g env) N R):Go (Mx t g h env) N R:=by unfold Mx;rw [e];exact q
theorem Jn (e:t env=some false) (q:Go (h env) N R):Go (Mx t g h env) N R:=by unfold Mx;rw [e];exact q
theorem Qe {b:Bool} (e:t env=some b) (q1:b=true->Go (g env) N R) (q2:b=false->Go (h env) N R):Go (Mx t g h env) N R:=by
 cases b with
 | true=>exact Z33 e (q1 rfl)
 | false=>exact Jn e (q2 rfl)
theorem Z21 {gg:Dat->Ev->Option Ev} {env':Ev} (e:f env=some d) (e2:gg d env=some env') (q:N env'):Go (Co f gg env) N R:=by
 unfold Co;rw [e];dsimp only [Option.bind];rw [e2];exact ⟨q⟩
theorem T5 {F:List Dat->List Dat->Option (List Dat)} {ds' as:List Dat} (e:env[i]?=some (.ow ds)) (e2:fs env=some as) (e3:F ds as=some ds') (q:N (env.set i (.ow ds'))):Go (Qd i F fs env) N R:=by
 unfold Qd;rw [e];dsimp only;rw [e2];dsimp only [Option.bind];rw [e3];exact ⟨q⟩
theorem At {gg:Dat->Ev->Option Ev} (P:Nat->Ev->Prop):∀ (ds:List Dat) (k:Nat) (env:Ev),P k env->(∀ i d e,ds[i]?=some d->P (k+i) e->∃ e1,gg d e=some e1/\Go (g e1) (P (k+i+1)) R)->(∀ e,P (k+ds.length) e->N e)->Go (G5 gg g ds env) N R
 | [],k,env,h0,_,hN=>⟨hN env h0⟩
 | d::ds,k,env,h0,hs,hN=>by
  obtain ⟨e1,a1,a2⟩:=hs 0 d env rfl h0;rw [G5,a1];dsimp only;cases e:g e1 with
  | next e' =>
   rw [e] at a2;exact At P ds (k+1) e' a2.of (fun i d e hi hp=>by
    have:=hs (i+1) d e (by simpa using hi) (by rw [show k+(i+1)=k+1+i by lia];exact hp);rw [show k+1+i+1=k+(i+1)+1 by lia];exact this) (fun e hp=>hN e (by rw [length_cons,show k+(ds.length+1)=k+1+ds.length by lia];exact hp))
  | ret d'=>rw [e] at a2;exact ⟨a2.of⟩
  | _=>rw [e] at a2;exact a2.of.elim
theorem Vb {src:Ev->Option (List Dat)} {gg:Dat->Ev->Option Ev} (P:Nat->Ev->Prop) (e:src env=some ds) (h0:P 0 env) (hs:∀ i d e,ds[i]?=some d->P i e->∃ e1,gg d e=some e1/\Go (g e1) (P (i+1)) R) (hN:∀ e,P ds.length e->N e):Go (Tz src gg g env) N R:=by
 unfold Tz;rw [e];exact At P ds 0 env h0 (fun i d e hi hp=>by simpa using hs i d e hi (by simpa using hp)) (fun e hp=>hN e (by simpa using hp))
theorem Go.ne {r:Fl} (q:Go r N R):r≠.no:=fun z=>by rw [z] at q;exact q.of
theorem Z15 (W:Nat->Ev->Prop) {n:Nat} (h0:W n env) (hs:∀ n e,W n e->(t e=some false/\N e)\/(t e=some true/\Go (g e) (fun e'=>∃ m,m<n/\W m e') R)):Go (Mn t g env) N R:=by
 have key:∀ n e,W n e->Go (Wm t g (n+1) e) N R:=by
  intro n;induction n using strongRecOn with
  | _ n ih =>
   intro e hw;rcases hs n e hw with ⟨a,b⟩ | ⟨a,b⟩
   ·rw [Wm,a];exact ⟨b⟩
   ·rw [Wm,a]
    dsimp only;cases eg:g e with
    | next e' =>
     rw [eg] at b;obtain ⟨m,hm,hw'⟩:=b.of;have q:=ih m hm e' hw';dsimp only;have:=Vx (n - (m+1)) q.ne;rw [show m+1+(n - (m+1))=n by lia] at this;rw [this];exact q
    | ret d=>rw [eg] at b;exact ⟨b.of⟩
    | _=>rw [eg] at b;exact b.of.elim
 have q:=key n env h0;rw [Kw q.ne];exact q
theorem W3 {n p:Nat} (hp:ds.length=p) (q:Go (g (Th n ds)) (fun _=>R .non) R):∃ d,We n p g ds=.ok d/\R d:=by
 unfold We;rw [if_pos hp];cases e:g (Th n ds) with
 | next e'=>rw [e] at q;exact ⟨_,rfl,q.of⟩
 | ret d=>rw [e] at q;exact ⟨_,rfl,q.of⟩
 | _=>rw [e] at q;exact q.of.elim
end
theorem Jr {lo:Int} {n i:Nat} {d:Dat} (h:(rng lo n)[i]?=some d):i<n/\d=.int (lo+i):=by
 unfold rng at h;rw [getElem?_map] at h;by_cases hi:i<n
 ·rw [getElem?_range hi] at h
  exact ⟨hi,(Option.some.inj h).symm⟩
 ·rw [List.getElem?_eq_none (by simpa using hi)] at h
  cases h
theorem Ws {fs:Ev->Option (List Dat)} {env:Ev} {n:Nat} (h:fs env=some [.int n]) (hn:n<=100000):Te fs env=some (rng 0 n):=by
 unfold Te;rw [h];dsimp only;rw [if_pos ⟨by lia,by lia,by rw [sizeLine_eq];simp;lia⟩,Int.toNat_natCast]
theorem Su {i j:Int} (h:Fc i j):Md (.int i) (.int j)=some (.int (i*j)):=if_pos h
theorem Ap {i j:Int} (h:0<j):W5 (.int i) (.int j)=some (.int (i % j)):=if_pos h
theorem Z12 {i j:Int} (h:Z0g i j):Yh (.int i) (.int j)=some (.int (i / j)):=if_pos h
theorem Z5 {α:Type} {F:Dat->Dat->Option α} {f g:Ev->Option Dat} {env:Ev} {x y:Dat} {z:α} (h1:f env=some x) (h2:g env=some y) (h3:F x y=some z):dO F f g env=some z:=by unfold dO;rw [h1,h2];exact h3
theorem Ys {α:Type} {F:List Dat->Option α} {fs:Ev->Option (List Dat)} {env:Ev} {xs:List Dat} {z:α} (h1:fs env=some xs) (h3:F xs=some z):dF F fs env=some z:=by unfold dF;rw [h1];exact h3
theorem Z4 {f:Ev->Option Dat} {fs:Ev->Option (List Dat)} {env:Ev} {x:Dat} {xs:List Dat} (h1:f env=some x) (h2:fs env=some xs):Z2 f fs env=some (x::xs):=by unfold Z2;rw [h1,h2];rfl
theorem Zq {F:List Dat->Rs} {fs:Ev->Option (List Dat)} {env:Ev} {xs:List Dat} {d:Dat} (h1:fs env=some xs) (h2:F xs=.ok d):Yu F fs env=some d:=by unfold Yu;rw [h1];show okR (F xs)=_;rw [h2];rfl
theorem Yo {f:Ev->Option Dat} {env:Ev} {b:Bool} (h:f env=some (.bl b)):dB f env=some b:=by unfold dB;rw [h]
theorem Z4r (z:Str) (ws:List Str):(ws.map Dat.str).any (fun y=>Et y (.str z))=decide (z∈ws):=by
 induction ws with
 | nil=>simp
 | cons w ws ih =>
  rw [map_cons,any_cons,ih];have:Et (.str w) (.str z)=(w==z):=by unfold Et;rfl
  rw [this];by_cases e:w=z
  ·subst e;simp
  ·have e':(w==z)=false:=by simpa using e
   have e2:¬ z=w:=fun q=>e q.symm
   rw [e'];simp [e2]
theorem Z1u (n:Nat) (z:Str):pd n (.str z)=true:=by cases n<;>rfl
theorem Z5y (ws:List Str):(ws.map Dat.str).all (pd 20)=true:=by
 induction ws with
 | nil=>rfl
 | cons w ws ih=>rw [map_cons,all_cons,ih,Z1u];rfl
theorem Z4o (z:Str) (ws:List Str):inB (.str z) (.lst (ws.map .str))=some (decide (z∈ws)):=by
 unfold inB;dsimp only;rw [Z5y,Z1u,Bool.and_self,if_pos rfl,Z4r]
theorem Z3t (z:Str) (ws:List Str):inF (.str z) (.lst (ws.map .str))=some (.bl (decide (z∈ws))):=by unfold inF;rw [Z4o];rfl
theorem Xu {t u:Ev->Option Bool} {env:Ev} {a b:Bool} (h1:t env=some a) (h2:a=false->u env=some b):Cd t u env=some (a||b):=by
 unfold Cd;rw [h1];cases a with
 | true=>rfl
 | false=>exact h2 rfl
theorem Sj {t u:Ev->Option Bool} {env:Ev} {a b:Bool} (h1:t env=some a) (h2:a=true->u env=some b):Hi t u env=some (a&&b):=by
 unfold Hi;rw [h1];cases a with
 | false=>rfl
 | true=>exact h2 rfl
theorem Mr {F:Dat->Option Int->Option Int->Option Dat} {f:Ev->Option Dat} {l h:Ev->Option (Option Int)} {env:Ev} {x z:Dat} {a b:Option Int} (h1:f env=some x) (h2:l env=some a) (h3:h env=some b) (h4:F x a b=some z):dS F f l h env=some z:=by
 unfold dS;rw [h1,h2,h3];exact h4
theorem V0 {f:Ev->Option Dat} {env:Ev} {i:Int} (h:f env=some (.int i)):Va f env=some (some i):=by unfold Va;rw [h]
theorem Jx {xs:List Dat} {j:Nat} {x:Dat} (h:xs[j]?=some x):V1 (.lst xs) (.int j)=some x:=Ss h
theorem Dd {xs:List Dat} {j:Nat} {x:Dat} (h:xs[j]?=some x):V1 (.tup xs) (.int j)=some x:=Ss h
theorem Zb1 (x y:Dat) {j:Int} (h0:0<=j) (h1:j<2):V1 (.lst [x,y]) (.int j)=some (if j=1 then y else x):=by
 rcases (show j=0\/j=1 by lia) with rfl | rfl<;>rfl
theorem Y5 {fs:Ev->Option (List Dat)} {env:Ev} {xs:List Dat} (h:fs env=some xs) (hl:xs.length<=1000):Yi fs env=some (.tup xs):=by unfold Yi;rw [h];exact if_pos hl
theorem Vk {ds:List Dat} {d:Dat} (h:ds.length<=1000):Wj ds [d]=some (ds++[d]):=if_pos (lt_of_le_of_lt h (by decide))
abbrev Uy (ns:List Int):Dat:=.lst (ns.map .int)
abbrev Qs:Str:="abcdefghijklmnopqrstuvwxyz"
theorem O2:cl Qs=List.range' 97 26:=by decide +kernel
theorem Fd {j:Int} (h0:0<=j) (h1:j<26):Kp (cl Qs) j=some (97+j.toNat):=by
 obtain ⟨n,rfl⟩:∃ n:Nat,j=n:=⟨j.toNat,(Int.toNat_of_nonneg h0).symm⟩;refine Ss ?_;rw [O2,List.getElem?_range' (by lia)];simp
theorem Xs {j:Int} (h0:0<=j) (h1:j<26):V1 (.str Qs) (.int j)=some (.str ⟨#[97+j.toNat]⟩):=by
 show (Kp (cl Qs) j).map _=_;rw [Fd h0 h1];rfl
theorem Fv {x y:Str} (h:x.length+y.length<=1000):Y8 (.str x) (.str y)=some (.str (x++y)):=if_pos (le_trans h (by decide))
theorem Zbw {f:Ev->Option Dat} {env:Ev} {d:Dat} {t T:String} {b:Bool} (h:f env=some d) (ht:tyN d=some t) (hk:Z5g t T=some b):dI T f env=some (.bl b):=by
 unfold dI;rw [h];show (Z3r T d).map _=_;unfold Z3r;rw [ht];show Option.map _ (Z5g t T)=_;rw [hk];rfl
theorem Ek {f:Ev->Option Dat} {env:Ev} {b:Bool} (h:f env=some (.bl b)):dT f env=some b:=by unfold dT;rw [h];rfl
theorem B8 {t:Ev->Option Bool} {env:Ev} {b:Bool} (h:t env=some b):L8 t env=some (!b):=by unfold L8;rw [h];rfl
theorem Qf {r:Rs} {d0:Dat} (h:∃ d,r=.ok d/\d=d0):r=.ok d0:=by obtain ⟨d,e,rfl⟩:=h;exact e
theorem Ve {g:Ev->Option (List Dat)} {env:Ev} {ds:List Dat} (h:g env=some ds):dL g env=some (.lst ds):=by unfold dL;rw [h];rfl
theorem Vr {src:Ev->Option (List Dat)} {fs:List (Option Nat)} {g:Dat->Ev->Option Ev} {t:Ev->Option Bool} {f:Ev->Option Dat} {env env':Ev} {xs ys:List Dat} (h1:src env=some xs) (h2:Uv fs env=env') (h3:Vc g t f env' xs=some ys):Qk src fs g t f env=some ys:=by
 unfold Qk;rw [h1,h2];exact h3
theorem Qu {f:Ev->Option Dat} {env:Ev} {xs:List Dat} (h:f env=some (.tup xs)):Qi f env=some xs:=by unfold Qi;rw [h]
theorem Dt {g:Dat->Ev->Option Ev} {t:Ev->Option Bool} {f:Ev->Option Dat} {env:Ev} {α:Type} (D:α->Dat) (y:α->Dat):∀ (xs:List α),(∀ x∈xs,∃ e1,g (D x) env=some e1/\t e1=some true/\f e1=some (y x))->Vc g t f env (xs.map D)=some (xs.map y)
 | [],_=>rfl
 | x::xs,h=>by
  obtain ⟨e1,a1,a2,a3⟩:=h x mem_cons_self;have ih:=Dt D y xs fun z hz=>h z (mem_cons_of_mem _ hz)
  rw [map_cons,Vc,a1];dsimp only [Option.bind];rw [a2];dsimp only;rw [if_pos rfl,a3];dsimp only;rw [ih];rfl
theorem Z7d (i j:Bool):Jj (.bl i) (.bl j)=some (.bl (i==j)):=rfl
theorem Dr (a b:Nat):Builtin.bitOr (a:Int) (b:Int)=((a ||| b:Nat):Int):=by
 unfold Builtin.bitOr Builtin.bitAnd Builtin.bitNot;have h1:decide (0<=-(a:Int) - 1)=false:=by simp;lia
 have h2:decide (0<=-(b:Int) - 1)=false:=by simp;lia
 rw [h1,h2];dsimp only;rw [show (-(-(a:Int) - 1) - 1).toNat=a by lia,show (-(-(b:Int) - 1) - 1).toNat=b by lia];lia
theorem Jt (a b:Nat):Builtin.bitAnd (a:Int) (b:Int)=((a &&& b:Nat):Int):=by
 unfold Builtin.bitAnd;rw [show decide (0<=(a:Int))=true by simp,show decide (0<=(b:Int))=true by simp];simp
def bitsN (ps:List Nat):Nat:=ps.foldl (fun a p=>a ||| 2^p) 0
theorem Bh (ps:List Nat):∀ (a j:Nat),(ps.foldl (fun a p=>a ||| 2^p) a).testBit j=(a.testBit j||decide (j∈ps)):=by
 induction ps with
 | nil=>intro a j;simp
 | cons p ps ih =>
  intro a j;rw [List.foldl_cons,ih,testBit_or,testBit_two_pow];by_cases h:j=p
  ·subst h;simp
  ·have h':¬ p=j:=fun e=>h e.symm
   simp [h,h']
theorem Ua (ps:List Nat) (j:Nat):(bitsN ps).testBit j=decide (j∈ps):=by unfold bitsN;rw [Bh];simp
theorem L0 {a p:Nat} (h:a.testBit p=false):a+2^p=a ||| 2^p:=by
 apply eq_of_testBit_eq;intro j;have e1:a=2^p*(a / 2^p)+a % 2^p:=(Nat.div_add_mod a (2^p)).symm;have hm:a % 2^p<2^p:=mod_lt _ (two_pow_pos p);have ev:a / 2^p % 2=0:=by
  rw [Nat.testBit_eq_decide_div_mod_eq] at h;have:=of_decide_eq_false h;lia
 have e2:a+2^p=2^p*(a / 2^p+1)+a % 2^p:=by rw [Nat.mul_add,Nat.mul_one];lia
 rw [e2,Nat.testBit_two_pow_mul_add _ hm,testBit_or,testBit_two_pow];rw [show a.testBit j=(2^p*(a / 2^p)+a % 2^p).testBit j by rw [← e1],Nat.testBit_two_pow_mul_add _ hm];by_cases hj:j<p
 ·simp [hj];lia
 ·rw [if_neg hj,if_neg hj]
  rcases Nat.lt_or_eq_of_le (Nat.le_of_not_lt hj) with h1 | h1
  ·obtain ⟨i,hi⟩:∃ i,j - p=i+1:=⟨j - p - 1,by lia⟩
   rw [hi,Nat.testBit_succ,Nat.testBit_succ];rw [show (a / 2^p+1) / 2=a / 2^p / 2 by lia];have:¬ p=j:=by lia
   simp [this]
  ·subst h1
   simp;lia
theorem toI (ps:List Nat):(ps.map fun p:Nat=>(p:Int)).map Dat.int=ps.map fun p:Nat=>Dat.int (p:Int):=by rw [map_map];rfl
abbrev Zd (ps:List Nat):List Dat:=(ps.map fun p:Nat=>(p:Int)).map Dat.int
theorem Mm (p:Nat) (hp:p<=1000):Q6 (.int 1) (.int (p:Int))=some (.int ((2^p:Nat):Int)):=by
 have:Q6 (.int 1) (.int (p:Int))=some (.int (1*2^((p:Int)).toNat)):=if_pos ⟨by lia,by lia,by decide⟩;rw [this,Int.toNat_natCast,Int.one_mul];congr 2
theorem Z5r (bs:List Bool):Z1j [.lst (bs.map .bl)]=some (.bl (bs.all id)):=by unfold Z1j;dsimp only;rw [P9];rfl
theorem Iz (a b:Nat):Builtin.bitXor (a:Int) (b:Int)=((a ^^^ b:Nat):Int):=by
 unfold Builtin.bitXor;rw [Dr,Jt];have key:∀ (x y:Nat),x ||| y=(x ^^^ y)+(x &&& y):=by
  intro x;induction x using strongRecOn with
  | _ x ih =>
   intro y;by_cases hx:x=0
   ·subst hx;simp
   ·have h:=ih (x / 2) (by lia) (y / 2)
    have e1:x ||| y=2*(x / 2 ||| y / 2)+(x ||| y) % 2:=by rw [← Nat.or_div_two];lia
    have e2:x ^^^ y=2*(x / 2 ^^^ y / 2)+(x ^^^ y) % 2:=by rw [← Nat.xor_div_two];lia
    have e3:x &&& y=2*(x / 2 &&& y / 2)+(x &&& y) % 2:=by rw [← Nat.and_div_two];lia
    have e4:(x ||| y) % 2=(x ^^^ y) % 2+(x &&& y) % 2:=by
     have t1:∀ z:Nat,z % 2=(z.testBit 0).toNat:=fun z=>by rw [Nat.testBit_zero];by_cases q:z % 2=1<;>simp [q];lia
     rw [t1,t1,t1,testBit_or,testBit_xor,testBit_and];cases x.testBit 0<;>cases y.testBit 0<;>rfl
    lia
 have:=key a b;lia
theorem I0 (a b:Nat):∃ c:Nat,Builtin.bitAnd (a:Int) (-(b:Int) - 1)=(c:Int)/\∀ j,c.testBit j=(a.testBit j&&!b.testBit j):=by
 refine ⟨a ^^^ (a &&& b),?_,fun j=>by rw [testBit_xor,testBit_and];cases a.testBit j<;>cases b.testBit j<;>rfl⟩;have hx:=Iz a (a &&& b);unfold Builtin.bitXor at hx;rw [Dr,Jt] at hx;have e1:a ||| (a &&& b)=a:=eq_of_testBit_eq fun j=>by rw [testBit_or,testBit_and];cases a.testBit j<;>cases b.testBit j<;>rfl
 have e2:a &&& (a &&& b)=a &&& b:=eq_of_testBit_eq fun j=>by rw [testBit_and,testBit_and];cases a.testBit j<;>cases b.testBit j<;>rfl
 rw [e1,e2] at hx;rw [← hx];unfold Builtin.bitAnd Builtin.bitNot;have h1:decide (0<=(a:Int))=true:=by simp
 have h2:decide (0<=-(b:Int) - 1)=false:=by simp;lia
 rw [h1,h2];dsimp only;rw [show (-(-(b:Int) - 1) - 1).toNat=b by lia,Int.toNat_natCast]
theorem Bv {a p:Nat} (h:a.testBit p=true):∃ c:Nat,(a:Int) - ((2^p:Nat):Int)=(c:Int)/\∀ j,c.testBit j=(a.testBit j&&decide (j≠p)):=by
 obtain ⟨c,hc⟩:∃ c,c=a ^^^ 2^p:=⟨_,rfl⟩;have ht:∀ j,c.testBit j=(a.testBit j&&decide (j≠p)):=fun j=>by
  rw [hc,testBit_xor,testBit_two_pow];by_cases e:j=p
  ·subst e;simp [h]
  ·have:¬ p=j:=fun q=>e q.symm
   simp [e,this]
 have hp:c.testBit p=false:=by rw [ht];simp
 have:=L0 hp;have e:c ||| 2^p=a:=eq_of_testBit_eq fun j=>by
  rw [testBit_or,ht,testBit_two_pow];by_cases e:j=p
  ·subst e;simp [h]
  ·have:¬ p=j:=fun q=>e q.symm
   simp [e,this]
 rw [e] at this;exact ⟨c,by lia,ht⟩
theorem Kd (n j:Nat):J6 (.int (n:Int)) (.int (j:Int))=some (.int ((n / 2^j:Nat):Int)):=by
 have:J6 (.int (n:Int)) (.int (j:Int))=some (.int ((n:Int) / 2^((j:Int)).toNat)):=by unfold J6 Gm;dsimp only;rw [if_pos (by lia)]
 rw [this,Int.toNat_natCast];congr 2
theorem Mk (n j:Nat):Tf (.int ((n / 2^j:Nat):Int)) (.int 1)=some (.int (if n.testBit j then 1 else 0)):=by
 show some (Dat.int (Builtin.bitAnd ((n / 2^j:Nat):Int) ((1:Nat):Int)))=_;rw [Jt,Nat.and_one_is_mod,Nat.testBit_eq_decide_div_mod_eq];generalize n / 2^j=q;congr 2
 rcases (show q % 2=0\/q % 2=1 by lia) with h | h<;>simp [h]
theorem Z8x (a b:Nat):Tf (.int (a:Int)) (.int (b:Int))=some (.int ((a &&& b:Nat):Int)):=by
 show some (Dat.int (Builtin.bitAnd _ _))=_;rw [Jt]
theorem orN (a b:Nat):orD (.int (a:Int)) (.int (b:Int))=some (.int ((a ||| b:Nat):Int)):=by
 show some (Dat.int (Builtin.bitOr _ _))=_;rw [Dr]
theorem Zbs (a b:Nat):Z5z (.int (a:Int)) (.int (b:Int))=some (.int ((a ^^^ b:Nat):Int)):=by
 show some (Dat.int (Builtin.bitXor _ _))=_;rw [Iz]
theorem Js (b:Bool):Jj (.int (if b then 1 else 0)) (.int 1)=some (.bl b):=by cases b<;>rfl
theorem eqN (a b:Nat):Jj (.int (a:Int)) (.int (b:Int))=some (.bl (a==b)):=by
 show some (Dat.bl ((a:Int)==(b:Int)))=_;congr 2
 rw [Bool.eq_iff_iff,beq_iff_eq,beq_iff_eq];lia
theorem Zar (i j:Int):Ax (.int i) (.int j)=some (.bl (!(i==j))):=rfl
theorem Zdo (i j:Bool):Ax (.bl i) (.bl j)=some (.bl (!(i==j))):=rfl
theorem Z5v (bs:List Bool):Z1i [.lst (bs.map .bl)]=some (.bl (bs.any id)):=by unfold Z1i;dsimp only;rw [P9];rfl
theorem Bj (ns:List Int):Xb [.lst (ns.map .int)]=some (.int ns.sum):=by unfold Xb;dsimp only;rw [R6];rfl
theorem Tv {fs:Ev->Option (List Dat)} {env:Ev} {xs:List Dat} (h:fs env=some xs) (hl:xs.length<=1000):Vu fs env=some xs:=by unfold Vu;rw [h];exact if_pos (le_trans hl (by decide))
theorem Rb (ps:List Nat):Zd ps=ps.map fun p:Nat=>Dat.int (p:Int):=toI ps
theorem Ii {α:Type} {xs:List α} {i:Nat} {p:α} (h:xs.Nodup) (hp:xs[i]?=some p):p∉xs.take i:=by
 obtain ⟨hi,e⟩:=List.getElem?_eq_some_iff.mp hp;have e1:xs=xs.take i++p::xs.drop (i+1):=by
  conv=>lhs;rw [← take_append_drop i xs,List.drop_eq_getElem_cons hi,e]
 rw [e1] at h;intro hm;exact (nodup_append.mp h).2.2 p hm p mem_cons_self rfl
theorem Z6e {F:Dat->Option Dat} {f:Ev->Option Dat} {env:Ev} {x z:Dat} (h1:f env=some x) (h2:F x=some z):dU F f env=some z:=by unfold dU;rw [h1];exact h2
theorem Iy {g:Dat->Ev->Option Ev} {f:Ev->Option Dat} {env:Ev} {α:Type} (D:α->Dat) (P:α->Prop):∀ (xs:List Dat),(∀ x∈xs,∃ (e1:Ev) (y:α),g x env=some e1/\f e1=some (D y)/\P y)->∃ ys:List α,Vc g M6 f env xs=some (ys.map D)/\ys.length=xs.length/\∀ y∈ys,P y
 | [],_=>⟨[],rfl,rfl,fun _ h=>nomatch h⟩
 | x::xs,h=>by
  obtain ⟨e1,y,a1,a2,a3⟩:=h x mem_cons_self;obtain ⟨ys,b1,b2,b3⟩:=Iy D P xs fun z hz=>h z (mem_cons_of_mem _ hz)
  refine ⟨y::ys,?_,by rw [length_cons,length_cons,b2],fun z hz=>?_⟩
  ·rw [Vc,a1]
   dsimp only [Option.bind,M6];rw [if_pos rfl,a2];dsimp only;rw [b1];rfl
  ·rcases mem_cons.mp hz with e | e
   ·exact e▸a3
   ·exact b3 z e
theorem Bd {lo:Int} {n:Nat} {d:Dat} (h:d∈rng lo n):∃ i:Nat,i<n/\d=.int (lo+i):=by
 obtain ⟨i,hi,e⟩:=List.getElem_of_mem h;have:=Jr (lo:=lo) (n:=n) (i:=i) (d:=d) (by rw [getElem?_eq_getElem hi,e]);exact ⟨i,this.1,this.2⟩
theorem J8 {ps:List Nat} {i:Nat} {d:Dat} (h:(Zd ps)[i]?=some d):∃ p:Nat,ps[i]?=some p/\d=.int (p:Int):=by
 rw [getElem?_map,getElem?_map] at h;obtain ⟨y,hy,rfl⟩:=map_some h;obtain ⟨p,hq,rfl⟩:=map_some hy;exact ⟨p,hq,rfl⟩
theorem Z2u {m:Nat} {ps:List Nat}:(m &&& bitsN ps)=bitsN ps↔∀ p∈ps,m.testBit p=true:=by
 constructor
 ·intro h p hp
  have:(m &&& bitsN ps).testBit p=true:=by rw [h,Ua];simpa using hp
  rw [testBit_and] at this;exact (Bool.and_eq_true_iff.mp this).1
 ·intro h
  apply eq_of_testBit_eq;intro j;rw [testBit_and,Ua];by_cases hj:j∈ps
  ·simp [hj,h j hj]
  ·simp [hj]
structure St3 where
 w:Nat
 up:Bool
 takes:List Nat
 fills:List Nat
def St3.d (s:St3):Dat:=.tup [.int (s.w:Int),.bl s.up,.tup (Zd s.takes),.tup (Zd s.fills)]
structure G3 where
 wires:List (Str×Bool)
 steps:List St3
 marks:Nat
 code:Nat
def M9 (w:Str×Bool):Dat:=.tup [.str w.1,.str (if w.2 then "made" else "given")]
def G3.d (G:G3):Dat:=.tup [.tup (G.wires.map M9),.tup (G.steps.map St3.d),.int (G.marks:Int),.int (G.code:Int)]
theorem Wq (r m:Nat) (h:0<m):W5 (.int (r:Int)) (.int (m:Int))=some (.int ((r % m:Nat):Int)):=by
 rw [Ap (by lia)];rfl
theorem Yv (r m:Nat) (h:0<m) (h2:m<1073741824):Yh (.int (r:Int)) (.int (m:Int))=some (.int ((r / m:Nat):Int)):=by
 rw [Z12 ⟨by lia,by lia⟩];rfl
theorem Z7y (r m:Nat) (h:m<18446744073709551616):Md (.int (r:Int)) (.int (m:Int))=some (.int ((r*m:Nat):Int)):=by
 rw [Su (.inr ⟨by lia,by lia⟩)];rfl
theorem Ft (r m:Nat) (h:r<18446744073709551616):Md (.int (r:Int)) (.int (m:Int))=some (.int ((r*m:Nat):Int)):=by
 rw [Su (.inl ⟨by lia,by lia⟩)];rfl
theorem V5 (r m:Nat):Y8 (.int (r:Int)) (.int (m:Int))=some (.int ((r+m:Nat):Int)):=rfl
def Vp (s:St3) (m:Nat):Bool:=(m &&& bitsN s.takes)==bitsN s.takes
theorem W7 {s:St3} {m:Nat}:Vp s m=true↔∀ p∈s.takes,m.testBit p=true:=by
 unfold Vp;rw [beq_iff_eq];exact Z2u
theorem C4 (ps:List Nat):∃ qs:List Nat,(Dm (ps.map fun p:Nat=>(p:Int))).map Dat.int=Zd qs/\qs.Perm ps:=by
 refine ⟨(Dm (ps.map fun p:Nat=>(p:Int))).map Int.toNat,?_,?_⟩
 ·show _=(((Dm (ps.map fun p:Nat=>(p:Int))).map Int.toNat).map fun p:Nat=>(p:Int)).map Dat.int
  congr 1
  rw [map_map];conv=>lhs;rw [← List.map_id (Dm _)]
  apply List.map_congr_left;intro x hx;have:=(Ut _).mem_iff.mp hx;obtain ⟨p,_,rfl⟩:=mem_map.mp this;simp
 ·have h:=(Ut (ps.map fun p:Nat=>(p:Int))).map Int.toNat
  rw [map_map] at h;have e:(Int.toNat ∘ fun p:Nat=>(p:Int))=id:=by funext p;simp
  rw [e,List.map_id] at h;exact h
theorem Es (ps:List Nat) (h:ps.length<64):∃ qs:List Nat,B9 [.lst (Zd ps)]=some (Zd qs)/\qs.Perm ps:=by
 obtain ⟨qs,e,hp⟩:=C4 ps;refine ⟨qs,?_,hp⟩;unfold B9;dsimp only;rw [R6];show (if (ps.map fun p:Nat=>(p:Int)).length<64 then _ else _)=_;rw [if_pos (by rw [length_map];exact h),e]
theorem Ic (x y:Str):(x++y).length=x.length+y.length:=Ak x y
section
variable {env:Ev} {N:Ev->Prop} {R:Dat->Prop}
theorem B7 {i:Nat} {src:Ev->Option (List Dat)} {fs:List (Option Nat)} {ds:List Dat} {h:Nat} (e:src env=some ds) (q:N (env.set i (.gx (.nest (List.replicate ds.length []))))):Go (Lb i src fs (Yj h) env) N R:=by
 unfold Lb;rw [e];dsimp only;rw [if_pos (show (ds.all fun d=>(Yj h d (Uv fs env)).isSome)=true from all_eq_true.mpr fun d _=>rfl)];exact ⟨q⟩
def G1 (tk:List (List Nat)) (k x:Nat):List (List Nat):=tk.set k (tk.getD k []++[x])
theorem Qc (tk:List (List Nat)) (k x:Nat):(G1 tk k x).length=tk.length:=by unfold G1;rw [length_set]
structure Nst (L B:Nat) (tk:List (List Nat)):Prop where
 len:∀ l∈tk,l.length<=L
 lt:∀ l∈tk,∀ p∈l,p<B
theorem Nst.mono {L L' B B':Nat} {tk:List (List Nat)} (h:Nst L B tk) (h1:L<=L') (h2:B<=B'):Nst L' B' tk:=⟨fun l q=>le_trans (h.len l q) h1,fun l q p z=>lt_of_lt_of_le (h.lt l q p z) h2⟩
theorem Nst.app {L B:Nat} {tk:List (List Nat)} (h:Nst L B tk) (k x:Nat) (hx:x<B):Nst (L+1) B (G1 tk k x):=by
 have hg:(tk.getD k []).length<=L/\∀ p∈tk.getD k [],p<B:=by
  cases e:tk[k]? with
  | none=>simp [List.getD,e]
  | some l=>have hm:=mem_of_getElem? e;simp only [List.getD,e,Option.getD_some];exact ⟨h.len l hm,h.lt l hm⟩
 constructor
 ·intro l hl
  rcases List.mem_or_eq_of_mem_set hl with q | q
  ·exact Nat.le_succ_of_le (h.len l q)
  ·rw [q,length_append];show _+1<=_;lia
 ·intro l hl p hp
  rcases List.mem_or_eq_of_mem_set hl with q | q
  ·exact h.lt l q p hp
  ·rw [q] at hp
   rcases mem_append.mp hp with z | z
   ·exact hg.2 p z
   ·rw [mem_singleton.mp z];exact hx
theorem Nst.nil (n:Nat):Nst 0 0 (List.replicate n []):=⟨fun l h=>by rw [(mem_replicate.mp h).2];exact le_refl _,fun l h p hp=>by rw [(mem_replicate.mp h).2] at hp;cases hp⟩
theorem Z1n (n:Nat):(List.replicate n ([]:List Dat))=(List.replicate n ([]:List Nat)).map Zd:=by rw [List.map_replicate];rfl
theorem Ge {i:Nat} {fa:Ev->Option Dat} {fs:Ev->Option (List Dat)} {tk:List (List Nat)} {k x L B:Nat} (e:env[i]?=some (.gx (.nest (tk.map Zd)))) (h:Nst L B tk) (hL:L<=1000) (hk:k<tk.length) (e1:fa env=some (.int (k:Int))) (e2:fs env=some [.int (x:Int)]) (q:N (env.set i (.gx (.nest ((G1 tk k x).map Zd))))):Go (Ee i fa fs env) N R:=by
 unfold Ee;rw [e,e1];dsimp only;have hat:Sa (tk.map Zd) (k:Int)=some (Zd tk[k]):=by
  unfold Sa;rw [if_pos (by lia),Int.toNat_natCast];simp [hk]
 rw [hat,e2];dsimp only;have hl:=h.len _ (getElem_mem hk);rw [show (some [Dat.int (x:Int)]).bind (fun as=>Wj (Zd tk[k]) as)=some (Zd (tk[k]++[x])) by
  show Wj (Zd tk[k]) [Dat.int (x:Int)]=_;rw [Vk (by rw [length_map,length_map];lia)];simp [Zd]]
 dsimp only;have:(tk.map Zd).set ((k:Int)).toNat (Zd (tk[k]++[x]))=(G1 tk k x).map Zd:=by
  unfold G1;rw [Int.toNat_natCast,List.map_set];congr 2
  simp [List.getD,hk]
 rw [this];exact ⟨q⟩
theorem Bg {i:Nat} {fa:Ev->Option Dat} {tk:List (List Nat)} {k:Nat} {l:List Nat} (e:env[i]?=some (.gx (.nest (tk.map Zd)))) (e1:fa env=some (.int (k:Int))) (hk:tk[k]?=some l):Ck i fa env=some (.lst (Zd l)):=by
 unfold Ck;rw [e,e1];dsimp only;unfold Sa;rw [if_pos (by lia),Int.toNat_natCast,getElem?_map,hk];rfl
end
theorem L5 {g:Dat->Ev->Option Ev} {t:Ev->Option Bool} {f:Ev->Option Dat} {env:Ev} {α:Type} (D E:α->Dat):∀ (xs:List α),(∀ x∈xs,∃ e1 b,g (D x) env=some e1/\t e1=some b/\f e1=some (E x))->∃ ys:List α,ys.Sublist xs/\Vc g t f env (xs.map D)=some (ys.map E)
 | [],_=>⟨[],.slnil,rfl⟩
 | x::xs,h=>by
  obtain ⟨ys,h1,h2⟩:=L5 D E xs fun z hz=>h z (mem_cons_of_mem _ hz)
  obtain ⟨e1,b,a1,a2,a3⟩:=h x mem_cons_self;cases b with
  | true=>exact ⟨x::ys,h1.cons₂ x,by rw [map_cons,Vc,a1];show (t e1).bind _=_;rw [a2];show (f e1).bind _=_;rw [a3,h2];rfl⟩
  | false=>exact ⟨ys,h1.cons x,by rw [map_cons,Vc,a1];show (t e1).bind _=_;rw [a2];exact h2⟩
theorem Z16 (r m:Nat) (h:m<=r):Ke (.int (r:Int)) (.int (m:Int))=some (.int ((r - m:Nat):Int)):=by
 show some (Dat.int ((r:Int) - (m:Int)))=_;rw [Int.ofNat_sub h]
theorem Lo (ps:List Nat):Qh [.lst (Zd ps)]=some (.int ((ps.length:Nat):Int)):=by
 show some (Dat.int ((Zd ps).length:Int))=_;rw [length_map,length_map]
theorem Eu (ps:List Nat) (a w:Nat) (h:a<=ps.length) (hl:ps.length<=1000):Sx (Zd ps) [.int (a:Int),.int (w:Int)]=some (Zd (ps.take a++w::ps.drop a)):=by
 show (if _ then some _ else none)=_;rw [if_pos ⟨by lia,by rw [length_map,length_map];lia,by rw [length_map,length_map];exact lt_of_le_of_lt hl (by decide)⟩,Int.toNat_natCast];simp [Zd,List.map_take,List.map_drop]
theorem Hv {α:Type} (ps:List α) (a:Nat) (w:α):(ps.take a++w::ps.drop a).length=ps.length+1:=by
 rw [length_append,length_cons,length_take,length_drop];lia
theorem Ob {α:Type} (ps:List α) (a:Nat) (w:α):(ps.take a++w::ps.drop a).Perm (w::ps):=by
 have h:(ps.take a++w::ps.drop a).Perm (w::(ps.take a++ps.drop a)):=List.perm_middle;rw [take_append_drop] at h;exact h
theorem D5 (ps:List Nat) (a w v:Nat):(ps.take a++w::ps.drop a).count v=ps.count v+(if w=v then 1 else 0):=by
 rw [(Ob ps a w).count_eq,List.count_cons];by_cases h:w=v<;>simp [h]
theorem Hs {α:Type} (xs:List α) (t:Nat) (h:t<=xs.length):Ue xs (some (t:Int)) none=xs.drop t:=by
 unfold Ue;rw [HT.sIx_nat,HT.sIx_none,Nat.min_eq_left h,take_of_length_le (by rw [length_drop];exact le_refl _)]
theorem Oi {α:Type} (xs:List α) (t:Nat) (h:t<=xs.length):Ue xs none (some (t:Int))=xs.take t:=by
 unfold Ue;rw [HT.sIx_nat,HT.sIx_none,Nat.min_eq_left h,drop_zero,Nat.sub_zero]
theorem M3 {α β:Type} (f:α->β) (xs:List α) (a b:Option Int):Ue (xs.map f) a b=(Ue xs a b).map f:=by
 unfold Ue;rw [length_map,List.map_take,List.map_drop]
theorem Z4t (ps:List Nat) (c:Nat):(ps.map fun p:Nat=>(p:Int)).idxOf (c:Int)=ps.idxOf c:=by
 induction ps with
 | nil=>rfl
 | cons p ps ih =>
  rw [map_cons,idxOf_cons,idxOf_cons,ih];by_cases h:p=c
  ·subst h;rw [show ((p:Int)==(p:Int))=true from beq_self_eq_true _,show (p==p)=true from beq_self_eq_true _]
  ·rw [show ((p:Int)==(c:Int))=false from beq_eq_false_iff_ne.mpr (by lia),show (p==c)=false from beq_eq_false_iff_ne.mpr h]
theorem Iv (ps:List Nat) (c:Nat) (h:c∈ps):K5 (.lst (Zd ps)) [.int (c:Int)]=some (.int ((ps.idxOf c:Nat):Int)):=by
 show ((Tl (Zd ps)).bind fun zs=>if (c:Int)∈zs then some (Dat.int ((zs.idxOf (c:Int):Nat):Int)) else none)=_;rw [R6];show (if _ then some _ else none)=_;rw [if_pos (List.mem_map_of_mem h),Z4t]
theorem Sd {xs ys:List Dat} (h:xs.length+ys.length<=1000):Y8 (.lst xs) (.lst ys)=some (.lst (xs++ys)):=if_pos (le_trans h (by decide))
theorem Z5t {xs ys:List Dat} (h:xs.length+ys.length<=1000):K2 (.lst xs) (.lst ys)=some (xs++ys):=if_pos (le_trans h (by decide))
theorem Lr {xs ys:List Dat} (h:xs.length+ys.length<=1000):O0 (.tup xs) (.tup ys)=some (.tup (xs++ys)):=if_pos (le_trans h (by decide))
def Zl (p:Nat×Nat):Dat:=.tup [.int (p.1:Int),.int (p.2:Int)]
theorem Gc (p:Nat×Nat):pd 20 (Zl p)=true:=rfl
theorem Lf (p:Nat×Nat) (qs:List (Nat×Nat)):∃ b,F0 (Zl p) (.lst (qs.map Zl))=some (.bl b):=by
 refine ⟨!((qs.map Zl).any fun y=>Et y (Zl p)),?_⟩;unfold F0 inB;dsimp only;rw [if_pos]
 ·rfl
 ·rw [Gc,Bool.true_and]
  exact all_eq_true.mpr fun x hx=>by obtain ⟨q,_,rfl⟩:=mem_map.mp hx;exact Gc q
theorem Zcv (a b:Nat):N9 [.int (a:Int),.int (b:Int)]=some (.int ((min a b:Nat):Int)):=by
 show some (Dat.int (if (b:Int)<(a:Int) then (b:Int) else (a:Int)))=_;congr 2
 split<;>lia
theorem Zef (a b:Nat):Pj [.int (a:Int),.int (b:Int)]=some (.int ((max a b:Nat):Int)):=by
 show some (Dat.int (if (b:Int) > (a:Int) then (b:Int) else (a:Int)))=_;congr 2
 split<;>lia
theorem neN (a b:Nat):Ax (.int (a:Int)) (.int (b:Int))=some (.bl (!(a==b))):=by
 rw [Zar];congr 3
 rw [Bool.eq_iff_iff];simp;lia
theorem D0 (ps:List Nat) (h:ps.length<64):∃ qs:List Nat,Qv [.lst (Zd ps)]=some (Zd qs)/\qs.Perm ps:=Es ps h
theorem Ep (ps:List Nat) (h:ps.length<64):∃ qs:List Nat,Qv [.tup (Zd ps)]=some (Zd qs)/\qs.Perm ps:=Es ps h
theorem G8 (n:Nat):rng 0 n=(List.range n).map fun k:Nat=>Dat.int (k:Int):=by
 unfold rng;congr 1
 funext k
 rw [Int.zero_add]
theorem Rf {xs:List Dat} {i:Nat} {d:Dat} (h:(Rn 0 xs)[i]?=some d):∃ x,xs[i]?=some x/\d=.tup [.int (i:Int),x]:=by
 rw [Gw] at h;cases e:xs[i]? with
 | none=>rw [e] at h;cases h
 | some x=>rw [e] at h;cases h;exact ⟨x,rfl,by rw [Nat.zero_add]⟩
theorem Z6w {α:Type} {T:String} {F:Dat->List Dat->Option α} {f:Ev->Option Dat} {fs:Ev->Option (List Dat)} {env:Ev} {x:Dat} {as:List Dat} {z:α} (h1:f env=some x) (ht:Xg T x=true) (h2:fs env=some as) (h3:F x as=some z):dM T F f fs env=some z:=by
 unfold dM;rw [h1];show (if _ then _ else _)=_;rw [if_pos ht,h2];exact h3
theorem Z3p {f:Ev->Option Dat} {env:Ev} {xs:List Dat} (h:f env=some (.lst xs)):Qi f env=some xs:=by unfold Qi;rw [h]
theorem Z1y {f:Ev->Option Dat} {env:Ev} {xs:List Dat} (h:f env=some (.lst xs)):Lp f env=some (Rn 0 xs):=by unfold Lp;rw [Z3p h];rfl
theorem Q9 {g:Dat->Ev->Option Ev} {t:Ev->Option Bool} {f:Ev->Option Dat} {env:Ev} {α:Type} (D E:α->Dat) (p:α->Bool):∀ (xs:List α),(∀ x∈xs,∃ e1,g (D x) env=some e1/\t e1=some (p x)/\f e1=some (E x))->Vc g t f env (xs.map D)=some ((xs.filter p).map E)
 | [],_=>rfl
 | x::xs,h=>by
  have ih:=Q9 D E p xs fun z hz=>h z (mem_cons_of_mem _ hz)
  obtain ⟨e1,a1,a2,a3⟩:=h x mem_cons_self;rw [map_cons,Vc,a1];show (t e1).bind _=_;rw [a2];cases hp:p x with
  | true=>show (f e1).bind _=_;rw [a3,ih,List.filter_cons_of_pos hp];rfl
  | false=>rw [List.filter_cons_of_neg (by rw [hp];decide)];exact ih
theorem D9 (xs:List Dat) (a b:Option Int):Kh (.lst xs) a b=some (.lst (Ue xs a b)):=rfl
theorem Z5d (z:Str) (a b:Option Int):Kh (.str z) a b=some (.str (Txt.slice z a b)):=rfl
def W1 (s:St3) (p:Nat×Nat):Nat×Nat:=((p.1 ^^^ (p.1 &&& bitsN s.takes)) ||| bitsN s.fills,p.2 ^^^ 2^s.w)
theorem M8 (s:St3) (p:Nat×Nat) (j:Nat):(W1 s p).1.testBit j=((p.1.testBit j&&!decide (j∈s.takes))||decide (j∈s.fills)):=by
 unfold W1;dsimp only;rw [testBit_or,testBit_xor,testBit_and,Ua,Ua];cases p.1.testBit j<;>cases decide (j∈s.takes)<;>rfl
theorem Z6r (s:St3) (p:Nat×Nat) (j:Nat):(W1 s p).2.testBit j=(p.2.testBit j ^^ decide (s.w=j)):=by
 unfold W1;dsimp only;rw [testBit_xor,testBit_two_pow]
structure Calm (G:G3) (I:Nat×Nat->Prop):Prop where
 ini:I (G.marks,G.code)
 lev:∀ p s,I p->s∈G.steps->Vp s p.1=true->p.2.testBit s.w≠s.up
 room:∀ p s,I p->s∈G.steps->Vp s p.1=true->∀ q∈s.fills,p.1.testBit q=true->q∈s.takes
 nxt:∀ p s,I p->s∈G.steps->Vp s p.1=true->I (W1 s p)
 few:∀ l:List (Nat×Nat),l.Nodup->(∀ p∈l,I p)->l.length<=400
structure Rw where
 m:Nat
 c:Nat
 src:Option (Nat×Nat)
def Rw.st (r:Rw):Nat×Nat:=(r.m,r.c)
def Rw.d (r:Rw):Dat:=.tup [.int (r.m:Int),.int (r.c:Int),match r.src with | none=>.non | some p=>.int (p.1:Int),match r.src with | none=>.non | some p=>.int (p.2:Int)]
structure Told (G:G3) (I:Nat×Nat->Prop) (rows:List Rw):Prop where
 zero:rows[0]?=some ⟨G.marks,G.code,none⟩
 inv:∀ r∈rows,I r.st
 nd:(rows.map Rw.st).Nodup
 src:∀ i r,rows[i]?=some r->0<i->∃ f k s rf,r.src=some (f,k)/\f<i/\G.steps[k]?=some s/\rows[f]?=some rf/\Vp s rf.m=true/\r.st=W1 s rf.st
def D6 (rows:List Rw):Nat->Nat->List Nat
 | 0,_=>[]
 | fu+1,n=>match (rows[n]?).bind Rw.src with
  | none=>[]
  | some p=>D6 rows fu p.1++[p.2]
theorem Ea {G:G3} {I:Nat×Nat->Prop} {rows:List Rw} (t:Told G I rows):∀ (fu n:Nat),n<rows.length->n<=fu->D6 rows fu n=D6 rows n n
 | 0,n,_,h=>by rw [show n=0 by lia]
 | fu+1,n,hl,h=>by
  obtain ⟨r,hr⟩:∃ r,rows[n]?=some r:=⟨_,getElem?_eq_getElem hl⟩;rcases eq_zero_or_pos n with z | z
  ·subst z
   show (match (rows[0]?).bind Rw.src with | none=>[] | some p=>D6 rows fu p.1++[p.2])=[];rw [t.zero];rfl
  ·obtain ⟨f,k,s,rf,a1,a2,_,a4,_,_⟩:=t.src n r hr z
   have hfl:=(List.getElem?_eq_some_iff.mp a4).1;obtain ⟨n',rfl⟩:∃ n',n=n'+1:=⟨n - 1,by lia⟩;rw [D6,D6,hr];show (match r.src with | none=>[] | some p=>D6 rows fu p.1++[p.2])=(match r.src with | none=>[] | some p=>D6 rows n' p.1++[p.2]);rw [a1];show D6 rows fu f++[k]=D6 rows n' f++[k];rw [Ea t fu f hfl (by lia),Ea t n' f hfl (by lia)]
def Jv (rows:List Rw) (n:Nat):List Nat:=D6 rows n n
theorem X3 (rows:List Rw):Jv rows 0=[]:=rfl
theorem Oh {G:G3} {I:Nat×Nat->Prop} {rows:List Rw} (t:Told G I rows) {n:Nat} {r:Rw} {f k:Nat} (hr:rows[n]?=some r) (hs:r.src=some (f,k)) (h0:0<n):Jv rows n=Jv rows f++[k]:=by
 obtain ⟨f',k',s,rf,a1,a2,_,a4,_,_⟩:=t.src n r hr h0;rw [hs] at a1;cases a1;have hfl:=(List.getElem?_eq_some_iff.mp a4).1;obtain ⟨n',rfl⟩:∃ n',n=n'+1:=⟨n - 1,by lia⟩;unfold Jv;rw [D6,hr];show (match r.src with | none=>[] | some p=>D6 rows n' p.1++[p.2])=_;rw [hs];show D6 rows n' f++[k]=_;rw [Ea t n' f hfl (by lia)]
theorem Z1m {G:G3} {I:Nat×Nat->Prop} {rows:List Rw} (t:Told G I rows) {n:Nat} {r:Rw} (hr:rows[n]?=some r):r.src=none↔n=0:=by
 constructor
 ·intro h
  rcases eq_zero_or_pos n with z | z
  ·exact z
  ·obtain ⟨f,k,s,rf,a1,_⟩:=t.src n r hr z
   rw [h] at a1;cases a1
 ·rintro rfl
  rw [t.zero] at hr;cases hr;rfl
end L2
namespace L2
theorem D3 {α:Type} [BEq α] [LawfulBEq α]:∀ (l m:List α),l.Nodup->(∀ x∈l,x∈m)->l.length<=m.length
 | [],_,_,_=>zero_le _
 | x::l,m,hn,hs=>by
  obtain ⟨h1,h2⟩:=nodup_cons.mp hn;have hx:=hs x mem_cons_self;have:=D3 l (m.erase x) h2 fun y hy=>by
   refine (List.mem_erase_of_ne ?_).mpr (hs y (mem_cons_of_mem _ hy));rintro rfl;exact h1 hy
  rw [List.length_erase_of_mem hx] at this;have:=List.length_pos_of_mem hx;show l.length+1<=_;lia
theorem Z2h {α:Type} (R:Nat->α->Prop) (hR:∀ k a b,R k a->R k b->a=b) (N:Nat):∀ l:List α,l.Nodup->(∀ p∈l,∃ k,k<N/\R k p)->l.length<=N:=by
 intro l hn hl;have:∃ ks:List Nat,ks.length=l.length/\ks.Nodup/\∀ k∈ks,k<N/\∃ p∈l,R k p:=by
  revert hn hl;induction l with
  | nil=>intro _ _;exact ⟨[],rfl,nodup_nil,by simp⟩
  | cons p l ih =>
   intro hn hl;obtain ⟨h1,h2⟩:=nodup_cons.mp hn;obtain ⟨ks,a1,a2,a3⟩:=ih h2 fun q hq=>hl q (mem_cons_of_mem _ hq)
   obtain ⟨k,hk,hr⟩:=hl p mem_cons_self;refine ⟨k::ks,by simp [a1],nodup_cons.mpr ⟨fun hm=>?_,a2⟩,fun k' hk'=>?_⟩
   ·obtain ⟨_,p',hp',hr'⟩:=a3 k hm
    exact h1 (hR k p p' hr hr'▸hp')
   ·rcases mem_cons.mp hk' with rfl | h
    ·exact ⟨hk,p,mem_cons_self,hr⟩
    ·obtain ⟨b1,p',b2,b3⟩:=a3 k' h
     exact ⟨b1,p',mem_cons_of_mem _ b2,b3⟩
 obtain ⟨ks,a1,a2,a3⟩:=this;have:=D3 ks (List.range N) a2 fun k hk=>mem_range.mpr (a3 k hk).1
 rw [length_range] at this;lia
def D4 (s0:Nat) (rs:List (Nat×Nat)) (f g:Nat×Nat->Nat) (d:Nat) (l:List Nat):Prop:=∀ q,q∈l↔∃ t p,rs[t]?=some p/\((q=s0+2*t/\f p=d)\/(q=s0+2*t+1/\g p=d))
structure Deed (G:G3) (s0:Nat) (one two:Nat->Nat) (rs:List (Nat×Nat)) (n d:Nat) (s:St3):Prop where
 w:s.w<n
 dl:d<2*n
 tk:D4 s0 rs (·.2) (·.1) d s.takes
 fl:D4 s0 rs (·.1) (·.2) d s.fills
 lev:(d=one s.w/\s.up=!G.code.testBit s.w)\/(d=two s.w/\s.up=G.code.testBit s.w)
structure RG (G:G3) (n s0:Nat) (one two:Nat->Nat) (rs:List (Nat×Nat)):Prop where
 ne:∀ q∈rs,q.1≠q.2
 ring:∀ w,w<n->(one w,two w)∈rs
 inj:∀ w v,w<n->v<n->(one w=one v\/two w=two v\/one w=two v)->w=v/\one w≠two v
 mks:∀ q,G.marks.testBit q=true↔∃ t,t<rs.length/\q=s0+2*t+1
 st:∀ s∈G.steps,∃ d,Deed G s0 one two rs n d s
structure RI (G:G3) (n s0:Nat) (one two:Nat->Nat) (rs:List (Nat×Nat)) (k:Nat) (p:Nat×Nat):Prop where
 a:∀ t q,rs[t]?=some q->p.1.testBit (s0+2*t)=(k.testBit q.1 ^^ k.testBit q.2)
 b:∀ t q,rs[t]?=some q->p.1.testBit (s0+2*t+1)=!(k.testBit q.1 ^^ k.testBit q.2)
 o:∀ j,(∀ t,t<rs.length->j≠s0+2*t/\j≠s0+2*t+1)->p.1.testBit j=false
 c:∀ w,p.2.testBit w=(G.code.testBit w ^^ (decide (w<n)&&(k.testBit (one w) ^^ k.testBit (two w))))
theorem D4.a {s0:Nat} {rs:List (Nat×Nat)} {f g:Nat×Nat->Nat} {d:Nat} {l:List Nat} (h:D4 s0 rs f g d l) {t:Nat} {q:Nat×Nat} (e:rs[t]?=some q):s0+2*t∈l↔f q=d:=by
 rw [h];constructor
 ·rintro ⟨t',p,e',⟨h1,h2⟩ | ⟨h1,_⟩⟩
  ·have:t'=t:=by lia
   subst this;rw [e] at e';cases e';exact h2
  ·lia
 ·exact fun h2=>⟨t,q,e,.inl ⟨rfl,h2⟩⟩
theorem D4.b {s0:Nat} {rs:List (Nat×Nat)} {f g:Nat×Nat->Nat} {d:Nat} {l:List Nat} (h:D4 s0 rs f g d l) {t:Nat} {q:Nat×Nat} (e:rs[t]?=some q):s0+2*t+1∈l↔g q=d:=by
 rw [h];constructor
 ·rintro ⟨t',p,e',⟨h1,_⟩ | ⟨h1,h2⟩⟩
  ·lia
  ·have:t'=t:=by lia
   subst this;rw [e] at e';cases e';exact h2
 ·exact fun h2=>⟨t,q,e,.inr ⟨rfl,h2⟩⟩
theorem D4.o {s0:Nat} {rs:List (Nat×Nat)} {f g:Nat×Nat->Nat} {d:Nat} {l:List Nat} (h:D4 s0 rs f g d l) {j:Nat} (e:∀ t,t<rs.length->j≠s0+2*t/\j≠s0+2*t+1):j∉l:=by
 intro hj;obtain ⟨t,p,et,h1⟩:=(h j).mp hj;have:=e t (List.getElem?_eq_some_iff.mp et).1;rcases h1 with h1 | h1
 ·exact this.1 h1.1
 ·exact this.2 h1.1
theorem W9 (k d j:Nat):(k ^^^ 2^d).testBit j=(k.testBit j ^^ decide (d=j)):=by
 rw [testBit_xor,testBit_two_pow]
theorem Cu {G:G3} {n s0:Nat} {one two:Nat->Nat} {rs:List (Nat×Nat)} (h:RG G n s0 one two rs) (hn:n<=4):Calm G fun p=>∃ k,k<2^(2*n)/\RI G n s0 one two rs k p where
 ini:=by
  refine ⟨0,two_pow_pos _,?_,?_,?_,?_⟩
  ·intro t q e
   simp only [Nat.zero_testBit,Bool.xor_false];rw [Bool.eq_false_iff];intro hh;obtain ⟨t',_,e'⟩:=(h.mks _).mp hh;lia
  ·intro t q e
   simp only [Nat.zero_testBit,Bool.xor_false,Bool.not_false];exact (h.mks _).mpr ⟨t,(List.getElem?_eq_some_iff.mp e).1,rfl⟩
  ·intro j hj
   rw [Bool.eq_false_iff];intro hh;obtain ⟨t',ht',e'⟩:=(h.mks _).mp hh;exact (hj t' ht').2 e'
  ·intro w;simp
 lev:=by
  rintro p s ⟨k,hk,hi⟩ hs hc;obtain ⟨d,hd⟩:=h.st s hs;obtain ⟨t,ht⟩:=getElem?_of_mem (h.ring s.w hd.w);rw [hi.c,decide_eq_true hd.w,Bool.true_and];have hc:=W7.mp hc;rcases hd.lev with ⟨e1,e2⟩ | ⟨e1,e2⟩
  ·have:=hc _ ((hd.tk.b ht).mpr e1.symm)
   rw [hi.b t _ ht] at this;have hx:(k.testBit (one s.w) ^^ k.testBit (two s.w))=false:=by simpa using this
   rw [hx,e2];cases G.code.testBit s.w<;>simp
  ·have:=hc _ ((hd.tk.a ht).mpr e1.symm)
   rw [hi.a t _ ht] at this;have hx:(k.testBit (one s.w) ^^ k.testBit (two s.w))=true:=this;rw [hx,e2];cases G.code.testBit s.w<;>simp
 room:=by
  rintro p s ⟨k,hk,hi⟩ hs hc q hq hb;obtain ⟨d,hd⟩:=h.st s hs;have hc:=W7.mp hc;obtain ⟨t,r,et,hh⟩:=(hd.fl q).mp hq;exfalso;rcases hh with ⟨rfl,e1⟩ | ⟨rfl,e1⟩
  ·have:=hc _ ((hd.tk.b et).mpr e1)
   rw [hi.b t _ et] at this;rw [hi.a t _ et] at hb;rw [hb] at this;cases this
  ·have:=hc _ ((hd.tk.a et).mpr e1)
   rw [hi.a t _ et] at this;rw [hi.b t _ et,this] at hb;cases hb
 nxt:=by
  rintro p s ⟨k,hk,hi⟩ hs hc;obtain ⟨d,hd⟩:=h.st s hs;have hc:=W7.mp hc;have hlt:k ^^^ 2^d<2^(2*n):=Nat.xor_lt_two_pow hk (Nat.pow_lt_pow_right (by lia) hd.dl);refine ⟨k ^^^ 2^d,hlt,?_,?_,?_,?_⟩
  ·intro t q e
   have hne:=h.ne q (mem_of_getElem? e);have ha:=hi.a t q e;have hb:=hi.b t q e;have h1:=hd.tk.a e;have h2:=hd.fl.a e;have h3:=hd.tk.b e;rw [M8,W9,W9];by_cases e1:q.2=d
   ·have:=hc _ (h1.mpr e1)
    have e2:¬ q.1=d:=fun e2=>hne (e2.trans e1.symm)
    rw [decide_eq_true (h1.mpr e1),decide_eq_false (mt h2.mp e2),decide_eq_true e1.symm,decide_eq_false (Ne.symm e2)];rw [ha] at this;revert this;cases k.testBit q.1<;>cases k.testBit q.2<;>simp
   ·by_cases e2:q.1=d
    ·have:=hc _ (h3.mpr e2)
     rw [decide_eq_false (mt h1.mp e1),decide_eq_true (h2.mpr e2),decide_eq_false (Ne.symm e1),decide_eq_true e2.symm];rw [hb] at this;revert this;cases k.testBit q.1<;>cases k.testBit q.2<;>simp
    ·rw [decide_eq_false (mt h1.mp e1),decide_eq_false (mt h2.mp e2),decide_eq_false (Ne.symm e1),decide_eq_false (Ne.symm e2),ha]
     simp
  ·intro t q e
   have hne:=h.ne q (mem_of_getElem? e);have ha:=hi.a t q e;have hb:=hi.b t q e;have h1:=hd.tk.b e;have h2:=hd.fl.b e;have h3:=hd.tk.a e;rw [M8,W9,W9];by_cases e1:q.1=d
   ·have:=hc _ (h1.mpr e1)
    have e2:¬ q.2=d:=fun e2=>hne (e1.trans e2.symm)
    rw [decide_eq_true (h1.mpr e1),decide_eq_false (mt h2.mp e2),decide_eq_true e1.symm,decide_eq_false (Ne.symm e2)];rw [hb] at this;revert this;cases k.testBit q.1<;>cases k.testBit q.2<;>simp
   ·by_cases e2:q.2=d
    ·have:=hc _ (h3.mpr e2)
     rw [decide_eq_false (mt h1.mp e1),decide_eq_true (h2.mpr e2),decide_eq_false (Ne.symm e1),decide_eq_true e2.symm];rw [ha] at this;revert this;cases k.testBit q.1<;>cases k.testBit q.2<;>simp
    ·rw [decide_eq_false (mt h1.mp e1),decide_eq_false (mt h2.mp e2),decide_eq_false (Ne.symm e1),decide_eq_false (Ne.symm e2),hb]
     simp
  ·intro j hj
   rw [M8,hi.o j hj,decide_eq_false (hd.fl.o hj)];simp
  ·intro w
   rw [Z6r,hi.c,W9,W9];by_cases hw:w<n
   ·rw [decide_eq_true hw,Bool.true_and,Bool.true_and]
    have key:decide (s.w=w)=(decide (d=one w) ^^ decide (d=two w)):=by
     by_cases ew:s.w=w
     ·subst ew
      have hne:=(h.inj s.w s.w hd.w hd.w (.inl rfl)).2;rcases hd.lev with ⟨e1,_⟩ | ⟨e1,_⟩
      ·rw [decide_eq_true rfl,decide_eq_true e1,decide_eq_false (fun e2=>hne (e1.symm.trans e2))];rfl
      ·rw [decide_eq_true rfl,decide_eq_true e1,decide_eq_false (fun e2=>hne (e2.symm.trans e1))];rfl
     ·have n1:¬ d=one w:=by
       intro e0;rcases hd.lev with ⟨e1,_⟩ | ⟨e1,_⟩
       ·exact ew (h.inj s.w w hd.w hw (.inl (e1.symm.trans e0))).1
       ·exact ew (h.inj w s.w hw hd.w (.inr (.inr (e0.symm.trans e1)))).1.symm
      have n2:¬ d=two w:=by
       intro e0;rcases hd.lev with ⟨e1,_⟩ | ⟨e1,_⟩
       ·exact ew (h.inj s.w w hd.w hw (.inr (.inr (e1.symm.trans e0)))).1
       ·exact ew (h.inj s.w w hd.w hw (.inr (.inl (e1.symm.trans e0)))).1
      rw [decide_eq_false ew,decide_eq_false n1,decide_eq_false n2];rfl
    rw [key];cases G.code.testBit w<;>cases k.testBit (one w)<;>cases k.testBit (two w)<;>cases decide (d=one w)<;>cases decide (d=two w)<;>rfl
   ·have:s.w≠w:=fun e=>hw (e▸hd.w)
    rw [decide_eq_false hw,decide_eq_false this];simp
 few:=by
  intro l hl hp;have hle:2^(2*n)<=256:=le_trans (pow_le_pow_right (by lia) (show 2*n<=8 by lia)) (by decide);have:=Z2h (fun k p=>RI G n s0 one two rs k p) (fun k p q h1 h2=>?_) (2^(2*n)) l hl hp
  ·lia
  ·refine Prod.ext (eq_of_testBit_eq fun j=>?_) (eq_of_testBit_eq fun j=>by rw [h1.c,h2.c])
   by_cases hj:∀ t,t<rs.length->j≠s0+2*t/\j≠s0+2*t+1
   ·rw [h1.o j hj,h2.o j hj]
   ·simp only [Classical.not_forall] at hj
    obtain ⟨t,ht,hj⟩:=hj;have e:rs[t]?=some rs[t]:=getElem?_eq_getElem ht;by_cases e1:j=s0+2*t
    ·rw [e1,h1.a t _ e,h2.a t _ e]
    ·have e2:j=s0+2*t+1:=Classical.byContradiction fun e2=>hj ⟨e1,e2⟩
     rw [e2,h1.b t _ e,h2.b t _ e]
structure OneT (G:G3) (b:Nat) (L:Nat->Nat):Prop where
 bl:b<64
 ma:G.marks=2^b
 cd:G.code=L b
 st:∀ s∈G.steps,∃ x y,x<64/\y<64/\x≠y/\s.takes=[x]/\s.fills=[y]/\L y=L x ^^^ 2^s.w/\(L x).testBit s.w≠s.up
theorem Z1z {G:G3} {b:Nat} {L:Nat->Nat} (h:OneT G b L):Calm G fun p=>∃ k,k<64/\p=(2^k,L k):=by
 have key:∀ (p:Nat×Nat) (s:St3),(∃ k,k<64/\p=(2^k,L k))->s∈G.steps->Vp s p.1=true->∃ x y,x<64/\y<64/\x≠y/\s.takes=[x]/\s.fills=[y]/\L y=L x ^^^ 2^s.w/\(L x).testBit s.w≠s.up/\p=(2^x,L x):=by
  rintro p s ⟨k,hk,rfl⟩ hs hc;obtain ⟨x,y,h1,h2,h3,h4,h5,h6,h7⟩:=h.st s hs;have:=W7.mp hc x (by rw [h4];simp);have e:k=x:=by
   have:(2^k).testBit x=true:=this;rw [testBit_two_pow] at this;simpa using this
  subst e;exact ⟨k,y,h1,h2,h3,h4,h5,h6,h7,rfl⟩
 refine ⟨⟨b,h.bl,by rw [h.ma,h.cd]⟩,?_,?_,?_,?_⟩
 ·intro p s hi hs hc
  obtain ⟨x,y,h1,h2,h3,h4,h5,h6,h7,rfl⟩:=key p s hi hs hc;exact h7
 ·intro p s hi hs hc q hq hb
  obtain ⟨x,y,h1,h2,h3,h4,h5,h6,h7,rfl⟩:=key p s hi hs hc;rw [h5] at hq;rw [mem_singleton.mp hq,testBit_two_pow] at hb;exact absurd (by simpa using hb) h3
 ·intro p s hi hs hc
  obtain ⟨x,y,h1,h2,h3,h4,h5,h6,h7,rfl⟩:=key p s hi hs hc;refine ⟨y,h2,Prod.ext (eq_of_testBit_eq fun j=>?_) h6.symm⟩;rw [M8,h4,h5];show ((2^x).testBit j&&!decide (j∈[x])||decide (j∈[y]))=(2^y).testBit j;rw [testBit_two_pow,testBit_two_pow];by_cases e1:x=j
  ·subst e1;simp [eq_comm]
  ·by_cases e2:y=j<;>simp [e1,e2,eq_comm]
 ·intro l hl hp
  have:=Z2h (fun k p=>p=(2^k,L k)) (fun k p q h1 h2=>h1.trans h2.symm) 64 l hl hp;lia
structure LookG (G G':G3) (z:Nat):Prop where
 len:G'.steps.length=G.steps.length
 ma:G'.marks=G.marks ||| 2^z
 mz:G.marks.testBit z=false
 cd:G'.code=G.code
 st:∀ s'∈G'.steps,∃ s∈G.steps,∃ b:Bool,s'.w=s.w/\s'.up=s.up/\z∉s.takes/\z∉s.fills/\(∀ q,q∈s'.takes↔q∈s.takes\/(b=true/\q=z))/\(∀ q,q∈s'.fills↔q∈s.fills\/(b=true/\q=z))
theorem Cg {G G':G3} {z:Nat} {I:Nat×Nat->Prop} (h:LookG G G' z) (hc:Calm G I):Calm G' fun p=>∃ m,m.testBit z=false/\p.1=m ||| 2^z/\I (m,p.2):=by
 have bit:∀ m j:Nat,(m ||| 2^z).testBit j=(m.testBit j||decide (z=j)):=fun m j=>by rw [testBit_or,testBit_two_pow]
 have key:∀ (m:Nat) (s' s:St3) (b:Bool),z∉s.takes->(∀ q,q∈s'.takes↔q∈s.takes\/(b=true/\q=z))->Vp s' (m ||| 2^z)=true->Vp s m=true:=by
  intro m s' s b hz ht hc;refine W7.mpr fun q hq=>?_
  have:=W7.mp hc q ((ht q).mpr (.inl hq));rw [bit] at this;have hne:z≠q:=by rintro rfl;exact hz hq
  rw [decide_eq_false hne,Bool.or_false] at this;exact this
 refine ⟨⟨G.marks,h.mz,h.ma,by rw [h.cd];exact hc.ini⟩,?_,?_,?_,?_⟩
 ·rintro p s' ⟨m,hm,e,hi⟩ hs' hcan
  obtain ⟨s,hs,b,w,u,zt,zf,ht,hf⟩:=h.st s' hs';rw [e] at hcan;have:=hc.lev (m,p.2) s hi hs (key m s' s b zt ht hcan);rw [w,u];exact this
 ·rintro p s' ⟨m,hm,e,hi⟩ hs' hcan q hq hb
  obtain ⟨s,hs,b,w,u,zt,zf,ht,hf⟩:=h.st s' hs';rw [e] at hcan hb;rcases (hf q).mp hq with h1 | ⟨h1,h2⟩
  ·have hne:z≠q:=by rintro rfl;exact zf h1
   rw [bit,decide_eq_false hne,Bool.or_false] at hb;exact (ht q).mpr (.inl (hc.room (m,p.2) s hi hs (key m s' s b zt ht hcan) q h1 hb))
  ·exact (ht q).mpr (.inr ⟨h1,h2⟩)
 ·rintro p s' ⟨m,hm,e,hi⟩ hs' hcan
  obtain ⟨s,hs,b,w,u,zt,zf,ht,hf⟩:=h.st s' hs';rw [e] at hcan;have hn:=hc.nxt (m,p.2) s hi hs (key m s' s b zt ht hcan);refine ⟨(W1 s (m,p.2)).1,?_,eq_of_testBit_eq fun j=>?_,?_⟩
  ·rw [M8,hm,decide_eq_false zf];rfl
  ·rw [bit,M8,M8,e,bit]
   by_cases ej:z=j
   ·subst ej
    rw [decide_eq_true rfl];cases b
    ·have n1:z∉s'.takes:=fun x=>by rcases (ht z).mp x with y | y;exact zt y;exact absurd y.1 (by simp)
     rw [decide_eq_false n1];simp
    ·rw [decide_eq_true ((hf z).mpr (.inr ⟨rfl,rfl⟩))];simp
   ·have t1:decide (j∈s'.takes)=decide (j∈s.takes):=by
     rw [Bool.eq_iff_iff,decide_eq_true_eq,decide_eq_true_eq,ht j];exact ⟨fun x=>x.elim id fun y=>absurd y.2.symm ej,.inl⟩
    have t2:decide (j∈s'.fills)=decide (j∈s.fills):=by
     rw [Bool.eq_iff_iff,decide_eq_true_eq,decide_eq_true_eq,hf j];exact ⟨fun x=>x.elim id fun y=>absurd y.2.symm ej,.inl⟩
    rw [t1,t2,decide_eq_false ej];simp
  ·have:(W1 s' p).2=(W1 s (m,p.2)).2:=by unfold W1;rw [w]
   rw [this];exact hn
 ·intro l hl hp
  have:=hc.few (l.map fun p=>(p.1 ^^^ 2^z,p.2)) ?_ ?_
  ·rwa [length_map] at this
  ·refine List.pairwise_map.mpr (hl.imp ?_)
   intro p q hne e;apply hne;have e1:=congrArg Prod.fst e;have e2:=congrArg Prod.snd e;refine Prod.ext (eq_of_testBit_eq fun j=>?_) e2;have:(p.1 ^^^ 2^z).testBit j=(q.1 ^^^ 2^z).testBit j:=by rw [show p.1 ^^^ 2^z=q.1 ^^^ 2^z from e1]
   rw [W9,W9] at this;simpa using this
  ·intro p hp'
   obtain ⟨q,hq,rfl⟩:=mem_map.mp hp';obtain ⟨m,hm,e,hi⟩:=hp q hq;have:q.1 ^^^ 2^z=m:=eq_of_testBit_eq fun j=>by
    rw [W9,e,bit];by_cases ej:z=j
    ·subst ej;rw [hm];simp
    ·simp [ej]
   show I (q.1 ^^^ 2^z,q.2);rw [this];exact hi
end L2
namespace L2
def Vq (ps:List Nat) (w:Nat):Nat:=ps.idxOf w
def Vo (ps:List Nat) (w:Nat):Nat:=ps.idxOf w+1+(ps.drop (ps.idxOf w+1)).idxOf w
theorem Zc1 {w:Nat}:∀ {ps:List Nat} {d:Nat},ps[d]?=some w->ps.count w=1->(ps.take d).count w=0/\d=ps.idxOf w
 | [],_,h,_=>by cases h
 | p::ps,0,h,_=>by
  cases h;exact ⟨rfl,by rw [idxOf_cons];simp⟩
 | p::ps,d+1,h,hc=>by
  have h':ps[d]?=some w:=h;by_cases e:p=w
  ·subst e
   rw [List.count_cons_self] at hc;have:ps.count p=0:=by lia
   exact absurd (mem_of_getElem? h') (List.count_eq_zero.mp this)
  ·rw [List.count_cons_of_ne e] at hc
   obtain ⟨h1,h2⟩:=Zc1 h' hc;rw [take_succ_cons,List.count_cons_of_ne e,idxOf_cons,show (p==w)=false from beq_eq_false_iff_ne.mpr e];exact ⟨h1,by simp [h2]⟩
theorem Z4u {w:Nat}:∀ {ps:List Nat} {d:Nat},ps[d]?=some w->ps.count w=2->((ps.take d).count w=0/\d=Vq ps w)\/((ps.take d).count w=1/\d=Vo ps w)
 | [],_,h,_=>by cases h
 | p::ps,0,h,_=>by
  cases h;exact .inl ⟨rfl,by unfold Vq;rw [idxOf_cons];simp⟩
 | p::ps,d+1,h,hc=>by
  have h':ps[d]?=some w:=h;by_cases e:p=w
  ·subst e
   rw [List.count_cons_self] at hc;obtain ⟨h1,h2⟩:=Zc1 h' (by lia);refine .inr ⟨by rw [take_succ_cons,List.count_cons_self,h1],?_⟩;unfold Vo;rw [idxOf_cons,beq_self_eq_true];show d+1=0+1+ps.idxOf p;lia
  ·rw [List.count_cons_of_ne e] at hc
   have e1:(p::ps).idxOf w=ps.idxOf w+1:=by rw [idxOf_cons,show (p==w)=false from beq_eq_false_iff_ne.mpr e];rfl
   rw [take_succ_cons,List.count_cons_of_ne e];unfold Vq Vo;rw [e1];rcases Z4u h' hc with ⟨h1,h2⟩ | ⟨h1,h2⟩
   ·exact .inl ⟨h1,by unfold Vq at h2;lia⟩
   ·refine .inr ⟨h1,?_⟩
    unfold Vo at h2;show d+1=ps.idxOf w+1+1+(ps.drop (ps.idxOf w+1)).idxOf w;lia
theorem Xq {v:Nat}:∀ {ps:List Nat},ps.count v=2->v∈ps.drop (ps.idxOf v+1)
 | [],h=>by cases h
 | p::ps,h=>by
  rw [List.count_cons] at h;rw [idxOf_cons];by_cases e:p=v
  ·subst e
   rw [show (p==p)=true from beq_self_eq_true _] at h ⊢;show p∈ps;refine List.count_pos_iff.mp ?_;simp at h;lia
  ·rw [show (p==v)=false from beq_eq_false_iff_ne.mpr e] at h ⊢
   show v∈ps.drop (ps.idxOf v+1);exact Xq (by simpa using h)
theorem Ay {w:Nat} {ps:List Nat} (h:w∈ps):ps[ps.idxOf w]?=some w:=by
 have hl:=List.idxOf_lt_length_of_mem h;rw [getElem?_eq_getElem hl,List.getElem_idxOf hl]
theorem Z10 {w:Nat} {ps:List Nat} (h:ps.count w=2):ps[Vq ps w]?=some w:=Ay (List.count_pos_iff.mp (by lia))
theorem Z2s {w:Nat} {ps:List Nat} (h:ps.count w=2):ps[Vo ps w]?=some w:=by
 have:=Ay (Xq h);rw [List.getElem?_drop] at this;exact this
theorem Xe (ps:List Nat) (w:Nat):Vq ps w<Vo ps w:=by unfold Vq Vo;lia
structure Ord (n:Nat) (ps:List Nat):Prop where
 len:ps.length=2*n
 cnt:∀ v,ps.count v=if v<n then 2 else 0
theorem Ord.mem {n:Nat} {ps:List Nat} (h:Ord n ps) {v:Nat}:v∈ps↔v<n:=by
 rw [← List.count_pos_iff,h.cnt];split<;>lia
theorem Ord.two {n:Nat} {ps:List Nat} (h:Ord n ps) {v:Nat} (hv:v<n):ps.count v=2:=by rw [h.cnt,if_pos hv]
theorem Ord.inj {n:Nat} {ps:List Nat} (h:Ord n ps) (w v:Nat) (hw:w<n) (hv:v<n) (e:Vq ps w=Vq ps v\/Vo ps w=Vo ps v\/Vq ps w=Vo ps v):w=v/\Vq ps w≠Vo ps v:=by
 have a1:=Z10 (h.two hw);have a2:=Z2s (h.two hw);have b1:=Z10 (h.two hv);have b2:=Z2s (h.two hv);have ewv:w=v:=by
  rcases e with e | e | e
  ·rw [e,b1] at a1;exact (Option.some.inj a1).symm
  ·rw [e,b2] at a2;exact (Option.some.inj a2).symm
  ·rw [e,b2] at a1;exact (Option.some.inj a1).symm
 subst ewv;exact ⟨rfl,by have:=Xe ps w;lia⟩
theorem Bl (tk:List (List Nat)) (k x d:Nat) (hk:k<tk.length):(G1 tk k x).getD d []=if d=k then tk.getD d []++[x] else tk.getD d []:=by
 unfold G1;by_cases e:d=k
 ·subst e
  simp [List.getD,getElem?_set,hk]
 ·have e':¬ k=d:=fun z=>e z.symm
  simp [List.getD,getElem?_set,e,e']
theorem Oq (tk:List (List Nat)) (k x d q:Nat) (hk:k<tk.length):q∈(G1 tk k x).getD d []↔q∈tk.getD d []\/(d=k/\q=x):=by
 rw [Bl tk k x d hk];by_cases e:d=k
 ·rw [if_pos e];simp [e]
 ·rw [if_neg e];simp [e]
def NS (s0:Nat) (rs:List (Nat×Nat)) (f g:Nat×Nat->Nat) (tk:List (List Nat)):Prop:=∀ d,D4 s0 rs f g d (tk.getD d [])
theorem NS.nil (s0 m:Nat) (f g:Nat×Nat->Nat):NS s0 [] f g (List.replicate m []):=fun d q=>by
 have:(List.replicate m ([]:List Nat)).getD d []=[]:=by
  simp only [List.getD];cases e:(List.replicate m ([]:List Nat))[d]? with
  | none=>rfl
  | some l=>have:=mem_of_getElem? e;rw [(mem_replicate.mp this).2];rfl
 rw [this];simp
theorem NS.app {s0:Nat} {rs:List (Nat×Nat)} {f g:Nat×Nat->Nat} {tk:List (List Nat)} (h:NS s0 rs f g tk) (p:Nat×Nat) (hf:f p<tk.length) (hg:g p<tk.length):NS s0 (rs++[p]) f g (G1 (G1 tk (f p) (s0+2*rs.length)) (g p) (s0+2*rs.length+1)):=fun d q=>by
 rw [Oq _ _ _ _ _ (by rw [Qc];exact hg),Oq _ _ _ _ _ hf,h d q];constructor
 ·rintro ((⟨t,r,e,h1⟩ | ⟨h1,h2⟩) | ⟨h1,h2⟩)
  ·exact ⟨t,r,by rw [getElem?_append_left (List.getElem?_eq_some_iff.mp e).1];exact e,h1⟩
  ·exact ⟨rs.length,p,by simp,.inl ⟨h2,h1.symm⟩⟩
  ·exact ⟨rs.length,p,by simp,.inr ⟨h2,h1.symm⟩⟩
 ·rintro ⟨t,r,e,h1⟩
  rcases lt_or_ge t rs.length with hl | hl
  ·rw [getElem?_append_left hl] at e
   exact .inl (.inl ⟨t,r,e,h1⟩)
  ·rw [getElem?_append_right hl] at e
   have e0:t - rs.length=0:=by
    rcases eq_zero_or_pos (t - rs.length) with z | z
    ·exact z
    ·rw [getElem?_cons,if_neg (by lia)] at e;cases e
   rw [e0] at e;cases e;have et:t=rs.length:=by lia
   subst et;rcases h1 with ⟨h1,h2⟩ | ⟨h1,h2⟩
   ·exact .inl (.inr ⟨h2.symm,h1⟩)
   ·exact .inr ⟨h2.symm,h1⟩
theorem Ni {L B:Nat} {tk:List (List Nat)} (hb:Nst L B tk) (h:∀ l∈tk,l.Nodup) (k x:Nat) (hx:B<=x):∀ l∈G1 tk k x,l.Nodup:=by
 intro l hl;rcases List.mem_or_eq_of_mem_set hl with q | q
 ·exact h l q
 ·rw [q]
  cases e:tk[k]? with
  | none=>simp [List.getD,e]
  | some l' =>
   have hm:=mem_of_getElem? e;simp only [List.getD,e,Option.getD_some];refine nodup_append.mpr ⟨h l' hm,nodup_cons.mpr ⟨by simp,nodup_nil⟩,fun a ha b hb'=>?_⟩;have:=hb.lt l' hm a ha;rw [mem_singleton.mp hb'];lia
theorem D4.perm {s0:Nat} {rs:List (Nat×Nat)} {f g:Nat×Nat->Nat} {d:Nat} {l l':List Nat} (h:D4 s0 rs f g d l) (e:l'.Perm l):D4 s0 rs f g d l':=fun q=>by rw [e.mem_iff];exact h q
structure SB (B n:Nat) (s:St3):Prop where
 w:s.w<n
 t:∀ p∈s.takes,p<B
 f:∀ p∈s.fills,p<B
 tn:s.takes.Nodup
 fn:s.fills.Nodup
theorem Nq {l:List Nat} {B:Nat} (h:l.Nodup) (hb:∀ p∈l,p<B):l.length<=B:=by
 have:=D3 l (List.range B) h fun x hx=>mem_range.mpr (hb x hx)
 rwa [length_range] at this
structure Gb (B:Nat) (G:G3):Prop where
 w2:G.wires.length<=10
 s1:1<=G.steps.length
 s2:G.steps.length<=24
 st:∀ s∈G.steps,SB B G.wires.length s
 mks:G.marks<2^B
end L2
namespace L2
open PySem PySem.Spec PyProof.Rows
section
variable {N:Ev->Prop} {R:Dat->Prop} {g h:Ev->Fl} {f fk fv:Ev->Option Dat} {t:Ev->Option Bool} {env:Ev} {d:Dat} {ds:List Dat} {i:Nat}
theorem Z8a {x y:Int} (e:env[i]?=some (.fz (.int x))) (e2:f env=some (.int y)) (q:N (env.set i (.fz (.int (x+y))))):Go (Z3l i f env) N R:=by
 unfold Z3l;rw [e,e2];exact ⟨q⟩
def Ur (p:Nat×Nat):List Wg:=[.inl (p.1:Int),.inl (p.2:Int)]
theorem Pn {p q:Nat×Nat}:Ur p=Ur q↔p=q:=by
 constructor
 ·intro h
  unfold Ur at h;simp only [List.cons.injEq,Sum.inl.injEq,and_true] at h;exact Prod.ext (by lia) (by lia)
 ·rintro rfl;rfl
theorem Q0 (p:Nat×Nat):Ot (Zl p)=some (Ur p):=rfl
def S0 (ps:List (Nat×Nat)):List (List Wg×Dat):=ps.map fun p=>(Ur p,.bl true)
theorem S6 (ps:List (Nat×Nat)) (q:Nat×Nat):Rv (S0 ps) (Ur q)=decide (q∈ps):=by
 unfold Rv S0;rw [map_map,Bool.eq_iff_iff,List.any_eq_true,decide_eq_true_eq];constructor
 ·rintro ⟨x,hx,e⟩
  obtain ⟨p,hp,rfl⟩:=mem_map.mp hx;have:Ur p=Ur q:=of_decide_eq_true e;rw [← Pn.mp this];exact hp
 ·intro h
  exact ⟨Ur q,mem_map.mpr ⟨q,h,rfl⟩,decide_eq_true rfl⟩
theorem Z5x {ps:List (Nat×Nat)} {q:Nat×Nat} (e:env[i]?=some (.gx (.dict (S0 ps)))) (e2:f env=some (Zl q)):Z22 false i f env=some (.bl (decide (q∈ps))):=by
 unfold Z22;rw [e,e2];dsimp only;rw [Q0];show some (Dat.bl (Rv (S0 ps) (Ur q)))=_;rw [S6]
theorem Z3w {ps:List (Nat×Nat)} {q:Nat×Nat} (e:env[i]?=some (.gx (.dict (S0 ps)))) (e2:fv env=some (.bl true)) (e3:fk env=some (Zl q)) (hq:q∉ps) (hl:ps.length<=1000) (n:N (env.set i (.gx (.dict (S0 (ps++[q])))))):Go (S4 i fk fv env) N R:=by
 unfold S4;rw [e,e2,e3];dsimp only;rw [Q0];dsimp only;rw [if_pos ⟨by rw [S6,decide_eq_false hq],by unfold S0;rw [length_map];exact lt_of_le_of_lt hl (by decide)⟩];have:S0 ps++[(Ur q,Dat.bl true)]=S0 (ps++[q]):=by unfold S0;rw [map_append];rfl
 rw [this];exact ⟨n⟩
theorem Z5m {q:Nat×Nat} (e:fk env=some (Zl q)) (e2:fv env=some (.bl true)) (n:N (env.set i (.gx (.dict (S0 [q]))))):Go (Oe i fk fv env) N R:=by
 unfold Oe;rw [e,e2];dsimp only;rw [Q0];exact ⟨n⟩
theorem Z77 {fs:Ev->Option (List Dat)} {xs:List Dat} (h1:fs env=some [.lst xs]):dLR fs env=some xs.reverse:=by unfold dLR;rw [h1]
theorem Z59 {f g:Ev->Option Dat} (h1:f env=some (.bl true)) (h2:g env=some d):Z56 f g env=some d:=by unfold Z56 dB;rw [h1];exact h2
end
theorem L9:∀ xs:List Dat,(∀ x∈xs,Et x x=true)->P6 xs xs=true
 | [],_=>by unfold P6;rfl
 | x::xs,h=>by unfold P6;rw [h x mem_cons_self,L9 xs fun y hy=>h y (mem_cons_of_mem _ hy)];rfl
theorem Z3c {xs:List Dat} (h:∀ x∈xs,Et x x=true/\pd 19 x=true):pd 20 (.lst xs)=true/\Et (.lst xs) (.lst xs)=true:=by
 constructor
 ·show xs.all (pd 19)=true
  exact all_eq_true.mpr fun x hx=>(h x hx).2
 ·unfold Et;exact L9 xs fun x hx=>(h x hx).1
theorem Z30 (i:Int):Et (.int i) (.int i)=true:=by unfold Et;exact beq_self_eq_true i
theorem C1 (ps:List Nat):pd 20 (.lst (Zd ps))=true/\Et (.lst (Zd ps)) (.lst (Zd ps))=true:=Z3c fun x hx=>by
 rw [Rb] at hx;obtain ⟨p,_,rfl⟩:=mem_map.mp hx;exact ⟨Z30 _,rfl⟩
def M2 (G:G3) (m k:Nat):Bool:=match G.steps[k]? with
 | some s=>Vp s m
 | none=>false
theorem Kz {G:G3} {m k:Nat} (h:M2 G m k=true):∃ s,G.steps[k]?=some s/\Vp s m=true:=by
 unfold M2 at h;cases e:G.steps[k]? with
 | none=>rw [e] at h;cases h
 | some s=>rw [e] at h;exact ⟨s,rfl,h⟩
def Qg (G:G3) (m:Nat):List Nat:=(List.range G.steps.length).filter (M2 G m)
theorem O5 {rows F:List Rw} (h:rows <+: F) {i:Nat} {r:Rw} (e:rows[i]?=some r):F[i]?=some r:=by
 obtain ⟨t,rfl⟩:=h;rw [getElem?_append_left (List.getElem?_eq_some_iff.mp e).1];exact e
theorem X2 {G:G3} {m k:Nat} (h:k∈Qg G m):M2 G m k=true:=(mem_filter.mp h).2
def GdE (r:Fl) (N C:Ev->Prop) (R:Dat->Prop) (E:Str->List (Str×XD)->Prop):Prop:=match r with
 | .next e=>N e
 | .cont e=>C e
 | .ret d=>R d
 | .exc _ c fl=>E c fl
 | _=>False
structure GoE (r:Fl) (N C:Ev->Prop) (R:Dat->Prop) (E:Str->List (Str×XD)->Prop):Prop where
 of:GdE r N C R E
section
variable {N C:Ev->Prop} {R:Dat->Prop} {E:Str->List (Str×XD)->Prop} {g h:Ev->Fl} {t:Ev->Option Bool} {env:Ev} {d:Dat} {ds:List Dat} {i:Nat}
theorem Go.toE {r:Fl} (q:Go r N R):GoE r N C R E:=by
 cases r with
 | next e=>exact ⟨q.of⟩
 | ret d=>exact ⟨q.of⟩
 | _=>exact q.of.elim
theorem U5 (q:GoE (g env) (fun e=>GoE (h e) N C R E) C R E):GoE (Ze g h env) N C R E:=by
 unfold Ze;cases e:g env with
 | next e'=>rw [e] at q;exact q.of
 | ret d=>rw [e] at q;exact ⟨q.of⟩
 | cont d=>rw [e] at q;exact ⟨q.of⟩
 | exc e' c fl=>rw [e] at q;exact ⟨q.of⟩
 | _=>rw [e] at q;exact q.of.elim
theorem Qq (q:Go (g env) (fun e=>GoE (h e) N C R E) R):GoE (Ze g h env) N C R E:=U5 q.toE
theorem Nz {b:Bool} (e:t env=some b) (q1:b=true->GoE (g env) N C R E) (q2:b=false->GoE (h env) N C R E):GoE (Mx t g h env) N C R E:=by
 unfold Mx;rw [e];cases b with
 | true=>exact q1 rfl
 | false=>exact q2 rfl
theorem E5 {c:Str} {Gf:List Dat->Option (List (Str×XD))} {fs:Ev->Option (List Dat)} {fl:List (Str×XD)} (e:fs env=some ds) (e2:Gf ds=some fl) (q:E c fl):GoE (Vv c Gf fs env) N C R E:=by
 unfold Vv;rw [e];dsimp only [Option.bind];rw [e2];exact ⟨q⟩
theorem P8 {gg:Dat->Ev->Option Ev} (P:Nat->Ev->Prop):∀ (ds:List Dat) (k:Nat) (env:Ev),P k env->(∀ i d e,ds[i]?=some d->P (k+i) e->∃ e1,gg d e=some e1/\GoE (g e1) (P (k+i+1)) (P (k+i+1)) R E)->(∀ e,P (k+ds.length) e->N e)->GoE (G5 gg g ds env) N C R E
 | [],k,env,h0,_,hN=>⟨hN env h0⟩
 | d::ds,k,env,h0,hs,hN=>by
  obtain ⟨e1,a1,a2⟩:=hs 0 d env rfl h0;rw [G5,a1];dsimp only;have more:∀ e',P (k+0+1) e'->GoE (G5 gg g ds e') N C R E:=fun e' h'=>P8 P ds (k+1) e' h' (fun i d e hi hp=>by
   have:=hs (i+1) d e (by simpa using hi) (by rw [show k+(i+1)=k+1+i by lia];exact hp);rw [show k+1+i+1=k+(i+1)+1 by lia];exact this) (fun e hp=>hN e (by rw [length_cons,show k+(ds.length+1)=k+1+ds.length by lia];exact hp))
  cases e:g e1 with
  | next e'=>rw [e] at a2;exact more e' a2.of
  | cont e'=>rw [e] at a2;exact more e' a2.of
  | ret d'=>rw [e] at a2;exact ⟨a2.of⟩
  | exc e' c fl=>rw [e] at a2;exact ⟨a2.of⟩
  | _=>rw [e] at a2;exact a2.of.elim
theorem Z5i {src:Ev->Option (List Dat)} {gg:Dat->Ev->Option Ev} (P:Nat->Ev->Prop) (e:src env=some ds) (h0:P 0 env) (hs:∀ i d e,ds[i]?=some d->P i e->∃ e1,gg d e=some e1/\GoE (g e1) (P (i+1)) (P (i+1)) R E) (hN:∀ e,P ds.length e->N e):GoE (Tz src gg g env) N C R E:=by
 unfold Tz;rw [e];exact P8 P ds 0 env h0 (fun i d e hi hp=>by simpa using hs i d e hi (by simpa using hp)) (fun e hp=>hN e (by simpa using hp))
theorem GoE.ne {r:Fl} (q:GoE r N C R E):r≠.no:=fun z=>by rw [z] at q;exact q.of
theorem Z03 (W:Nat->Ev->Prop) {n:Nat} (h0:W n env) (hs:∀ n e,W n e->(t e=some false/\N e)\/(t e=some true/\GoE (g e) (fun e'=>∃ m,m<n/\W m e') (fun _=>False) R E)):GoE (Mn t g env) N C R E:=by
 have key:∀ n e,W n e->GoE (Wm t g (n+1) e) N C R E:=by
  intro n;induction n using strongRecOn with
  | _ n ih =>
   intro e hw;rcases hs n e hw with ⟨a,b⟩ | ⟨a,b⟩
   ·rw [Wm,a];exact ⟨b⟩
   ·rw [Wm,a]
    dsimp only;cases eg:g e with
    | next e' =>
     rw [eg] at b;obtain ⟨m,hm,hw'⟩:=b.of;have q:=ih m hm e' hw';dsimp only;have:=Vx (n - (m+1)) q.ne;rw [show m+1+(n - (m+1))=n by lia] at this;rw [this];exact q
    | ret d=>rw [eg] at b;exact ⟨b.of⟩
    | exc e' c fl=>rw [eg] at b;exact ⟨b.of⟩
    | _=>rw [eg] at b;exact b.of.elim
 have q:=key n env h0;rw [Kw q.ne];exact q
theorem Ac {n p:Nat} (hp:ds.length=p) (q:GoE (g (Th n ds)) (fun _=>R .non) (fun _=>False) R E):(∃ d,We n p g ds=.ok d/\R d)\/∃ c fl,We n p g ds=.exc c fl/\E c fl:=by
 unfold We;rw [if_pos hp];cases e:g (Th n ds) with
 | next e'=>rw [e] at q;exact .inl ⟨_,rfl,q.of⟩
 | ret d=>rw [e] at q;exact .inl ⟨_,rfl,q.of⟩
 | exc e' c fl=>rw [e] at q;exact .inr ⟨_,_,rfl,q.of⟩
 | _=>rw [e] at q;exact q.of.elim
variable {e' e3:Ev} {sub:Str->Bool} {c:Str} {fl:List (Str×XD)} {F:List Dat->Rs} {fs:Ev->Option (List Dat)}
end
end L2
namespace L2
open PySem
def Z6z (G:G3) (s:St3):Bool:=match G.wires[s.w]? with
 | some u=>u.2
 | none=>false
def Z2x (G:G3):Prop:=∀ (i j:Nat) (si sj:St3),i≠j->G.steps[i]?=some si->G.steps[j]?=some sj->∀ q,q∈si.takes->q∉si.fills->q∈sj.takes->Z6z G si=false/\Z6z G sj=false
theorem Xa {G:G3} {n s0:Nat} {one two:Nat->Nat} {rs:List (Nat×Nat)} (ds:List Nat) (nd:ds.Nodup) (h:∀ (i:Nat) (s:St3),G.steps[i]?=some s->∃ d:Nat,ds[i]?=some d/\Deed G s0 one two rs n d s):Z2x G:=by
 intro i j si sj hij hi hj q hq _ hq2;exfalso;obtain ⟨di,e1,h1⟩:=h i si hi;obtain ⟨dj,e2,h2⟩:=h j sj hj;have hd:di=dj:=by
  obtain ⟨t,p,et,hp⟩:=(h1.tk q).mp hq;obtain ⟨t',p',et',hp'⟩:=(h2.tk q).mp hq2;rcases hp with ⟨a1,a2⟩ | ⟨a1,a2⟩<;>rcases hp' with ⟨b1,b2⟩ | ⟨b1,b2⟩
  ·have:t=t':=by lia
   subst this;rw [et] at et';cases et';rw [← a2,← b2]
  ·lia
  ·lia
  ·have:t=t':=by lia
   subst this;rw [et] at et';cases et';rw [← a2,← b2]
 subst hd;obtain ⟨l1,g1⟩:=List.getElem?_eq_some_iff.mp e1;obtain ⟨l2,g2⟩:=List.getElem?_eq_some_iff.mp e2;have pw:=List.pairwise_iff_getElem.mp nd;rcases Nat.lt_or_gt_of_ne hij with h0 | h0
 ·exact pw i j l1 l2 h0 (g1.trans g2.symm)
 ·exact pw j i l2 l1 h0 (g2.trans g1.symm)
structure LookI (G G':G3) (z:Nat):Prop where
 ws:G'.wires=G.wires
 ma:G'.marks=G.marks ||| 2^z
 mz:G.marks.testBit z=false
 cd:G'.code=G.code
 len:G'.steps.length=G.steps.length
 st:∀ (i:Nat) (s':St3),G'.steps[i]?=some s'->∃ s:St3,G.steps[i]?=some s/\∃ b:Bool,s'.w=s.w/\s'.up=s.up/\z∉s.takes/\z∉s.fills/\(∀ q,q∈s'.takes↔q∈s.takes\/(b=true/\q=z))/\(∀ q,q∈s'.fills↔q∈s.fills\/(b=true/\q=z))
theorem LookI.look {G G':G3} {z:Nat} (h:LookI G G' z):LookG G G' z:=⟨h.len,h.ma,h.mz,h.cd,fun s' hs=>by
 obtain ⟨i,hi⟩:=getElem?_of_mem hs;obtain ⟨s,e,b,q⟩:=h.st i s' hi;exact ⟨s,mem_of_getElem? e,b,q⟩⟩
end L2
namespace K25
open PySem PySem.Spec PyProof.Rows L2
theorem Mf (ns:List Int) (k:Nat) (hk:k<=100000):∃ r:Nat,Yb [Uy ns,.int (k:Int)]=.ok (.int (r:Int))/\r<1000000000039:=by
 have:=W3 (n:=3) (p:=2) (ds:=[Uy ns,.int (k:Int)]) (g:=Uw) (R:=fun d=>∃ r:Nat,d=.int (r:Int)/\r<1000000000039) rfl ?_
 ·obtain ⟨d,e,r,rfl,h⟩:=this
  exact ⟨r,e,h⟩
 show Go (Uw [.fz (Uy ns),.fz (.int (k:Int)),.un]) _ _;unfold Uw;have fin:∀ z:Int,Go (Vn (dO W5 (dO Md (dV 2) (dC (.int 48271))) (dC (.int 1000000000039))) [.fz (Uy ns),.fz (.int (k:Int)),.fz (.int z)]) (fun _=>False) (fun d=>∃ r:Nat,d=.int (r:Int)/\r<1000000000039):=fun z=>by
  refine Ym (d:=.int (z*48271 % 1000000000039)) (Z5 (Z5 rfl rfl (Su (.inr (by lia)))) rfl (Ap (by lia))) ⟨(z*48271 % 1000000000039).toNat,?_,?_⟩
  ·congr 1;lia
  ·lia
 refine Z6 (Zg (d:=.int (7919*(k:Int)+12345)) (Z5 (Z5 rfl rfl (Su (.inl (by lia)))) rfl rfl) ?_);refine Z6 (Qe (b:=decide ((k:Int)<((ns.map Dat.int).length:Int))) rfl (fun hb=>?_) (fun hb=>?_))
 ·have hkl:k<ns.length:=by have:=of_decide_eq_true hb;rw [length_map] at this;lia
  have hix:V1 (Uy ns) (.int (k:Int))=some (.int ns[k]):=Jx (by simp [hkl]);refine Zg (d:=.int (7919*(k:Int)+12345+ns[k]*6364136223846793005)) (Z5 rfl (Z5 (Z5 rfl rfl hix) rfl (Su (.inr (by lia)))) rfl) ?_;exact (fin _).mono (fun _ h=>h.elim) fun _ h=>h
 ·refine Wa ?_
  exact (fin _).mono (fun _ h=>h.elim) fun _ h=>h
theorem Gk (c k:Nat):∃ z:Str,Yr [.int (c:Int),.int (k:Int)]=.ok (.str z):=by
 have:=W3 (n:=8) (p:=2) (ds:=[.int (c:Int),.int (k:Int)]) (g:=U0) (R:=fun d=>∃ z:Str,d=.str z) rfl ?_
 ·obtain ⟨d,e,z,rfl⟩:=this
  exact ⟨z,e⟩
 show Go (U0 [.fz (.int (c:Int)),.fz (.int (k:Int)),.un,.un,.un,.un,.un,.un]) _ _;unfold U0;obtain ⟨n,hn,hn1⟩:∃ n:Nat,2+c % 7=n/\n<=8:=⟨_,rfl,by lia⟩;refine Z6 (Zg (d:=.str Qs) rfl ?_);refine Z6 (Zg (d:=.int (n:Int)) (by rw [← hn];exact Z5 rfl (Z5 rfl rfl (Wq c 7 (by lia))) (V5 2 _)) ?_);refine Z6 (Zg (Z5 (Z5 rfl rfl (Yv c 7 (by lia) (by lia))) rfl (Wq (c / 7) n (by lia))) ?_);refine Z6 (Zg (d:=.str "") rfl ?_);generalize c / 7 % n=at0;refine Z6 (Vb (ds:=rng 0 n) (fun i e=>∃ (z:Str) (v6 v7:Slt),e=[.fz (.int (c:Int)),.fz (.int (k:Int)),.fz (.str Qs),.fz (.int (n:Int)),.fz (.int (at0:Int)),.fz (.str z),v6,v7]/\z.length=i) (Ws (Z4 rfl rfl) (by lia)) ⟨"",.un,.un,rfl,by decide⟩ ?_ ?_)
 ·rintro i d e hi ⟨z,v6,v7,rfl,hz⟩
  obtain ⟨hi1,rfl⟩:=Jr hi;rw [Int.zero_add];refine ⟨_,rfl,?_⟩;refine Z6 (Zg (d:=.int ((0:Nat):Int)) rfl ?_);have fin:∀ q:Nat,Go (Zr 5 (dO Y8 (dV 5) (dO V1 (dV 2) (dO W5 (dO Y8 (dO Y8 (dO Yh (dV 0) (dC (.int 49))) (dO Md (dC (.int 5)) (dV 6))) (dO Md (dC (.int 7)) (dV 7))) (dC (.int 26))))) [.fz (.int (c:Int)),.fz (.int (k:Int)),.fz (.str Qs),.fz (.int (n:Int)),.fz (.int (at0:Int)),.fz (.str z),.fz (.int (i:Int)),.fz (.int (q:Int))]) (fun e=>∃ (z:Str) (v6 v7:Slt),e=[.fz (.int (c:Int)),.fz (.int (k:Int)),.fz (.str Qs),.fz (.int (n:Int)),.fz (.int (at0:Int)),.fz (.str z),v6,v7]/\z.length=i+1) (fun d=>∃ z:Str,d=.str z):=fun q=>by
   have hx:=Xs (j:=(((c / 49+5*i+7*q) % 26:Nat):Int)) (by lia) (by lia);refine Zg (Z5 rfl (Z5 rfl (Z5 (Z5 (Z5 (Z5 rfl rfl (Yv c 49 (by lia) (by lia))) (Z5 rfl rfl (Ft 5 i (by lia))) (V5 _ _)) (Z5 rfl rfl (Ft 7 q (by lia))) (V5 _ _)) rfl (Wq _ 26 (by lia))) hx) (Fv (by show z.length+1<=_;lia))) ?_;exact ⟨_,_,_,rfl,by rw [Ic];show _+1=_;lia⟩
  refine Z6 (Qe (Yo (Z5 rfl rfl (eqN i at0))) (fun hb=>?_) (fun hb=>?_))
  ·exact Zg rfl (fin k)
  ·exact Wa (fin 0)
 ·rintro e ⟨z,v6,v7,rfl,hz⟩
  rw [Uz] at hz;refine Z6 (Qe (b:=decide (z∈(["given","made","up","down","start"]:List Str))) (Yo (Z5 rfl rfl (Z3t z ["given","made","up","down","start"]))) (fun hb=>?_) (fun hb=>?_))
  ·refine Zg (Z5 (Mr rfl (V0 rfl) rfl (Z5d z _ _)) rfl (Fv ?_)) (Ym rfl ⟨_,rfl⟩)
   have:=Txt.slice_le z (some 1) none;show (Txt.slice z (some 1) none).length+1<=_;lia
  ·exact Wa (Ym rfl ⟨_,rfl⟩)
theorem Z0q (ns:List Int) (first n:Nat) (hf:first<=1000) (hn:n<=10):∃ ps:List Nat,Tu [Uy ns,.int (first:Int),.int (n:Int)]=.ok (.lst (Zd ps))/\Ord n ps:=by
 have:=W3 (n:=8) (p:=3) (ds:=[Uy ns,.int (first:Int),.int (n:Int)]) (g:=Vi) (R:=fun d=>∃ ps:List Nat,d=.lst (Zd ps)/\Ord n ps) rfl ?_
 ·obtain ⟨d,e,z,rfl,h⟩:=this
  exact ⟨z,e,h⟩
 show Go (Vi [.fz (Uy ns),.fz (.int (first:Int)),.fz (.int (n:Int)),.un,.un,.un,.un,.un]) _ _;unfold Vi;refine Z6 (Qz (ds:=Zd []) rfl ?_);refine Z6 (Vb (ds:=rng 0 n) (fun i e=>∃ (ps:List Nat) (v4 v5 v6 v7:Slt),e=[.fz (Uy ns),.fz (.int (first:Int)),.fz (.int (n:Int)),.ow (Zd ps),v4,v5,v6,v7]/\Ord i ps) (Ws (Z4 rfl rfl) (by lia)) ⟨[],.un,.un,.un,.un,rfl,rfl,fun v=>by simp⟩ ?_ ?_)
 ·rintro i d e hi ⟨ps,v4,v5,v6,v7,rfl,ho⟩
  obtain ⟨hi1,rfl⟩:=Jr hi;rw [Int.zero_add];refine ⟨_,rfl,?_⟩;obtain ⟨c,ec,lc⟩:=Mf ns (first+i) (by lia);have hl:=ho.len;refine Z6 (Zg (Zq (xs:=[Uy ns,.int ((first+i:Nat):Int)]) (Z4 rfl (Z4 (Z5 rfl rfl (V5 _ _)) rfl)) ec) ?_);refine Z6 (Zg (Z5 rfl (Z5 (Ys (Z4 rfl rfl) (Lo ps)) rfl (V5 _ 1)) (Wq c (ps.length+1) (by lia))) ?_);have ha:c % (ps.length+1)<=ps.length:=by have:=mod_lt c (show 0<ps.length+1 by lia);lia
  generalize c % (ps.length+1)=a at ha;refine Z6 (T5 (ds:=Zd ps) (as:=[.int (a:Int),.int (i:Int)]) rfl rfl (Eu ps a i ha (by lia)) ?_);have hl1:=Hv ps a i;have hc1:=D5 ps a i;generalize ps.take a++i::ps.drop a=qs at hl1 hc1;refine Z6 (Zg (Z5 (Z5 rfl rfl (Yv c 64 (by lia) (by lia))) (Z5 (Ys (Z4 rfl rfl) (Lo qs)) rfl (Z16 _ a (by lia))) (Wq (c / 64) (qs.length - a) (by lia))) ?_);have hb:c / 64 % (qs.length - a)<qs.length - a:=mod_lt _ (by lia);generalize c / 64 % (qs.length - a)=b at hb;refine T5 (ds:=Zd qs) (as:=[.int ((a+1+b:Nat):Int),.int (i:Int)]) rfl (Z4 (Z5 (Z5 rfl rfl (V5 a 1)) rfl (V5 _ b)) (Z4 rfl rfl)) (Eu qs (a+1+b) i (by lia) (by lia)) ?_;have hl2:=Hv qs (a+1+b) i;have hc2:=D5 qs (a+1+b) i;refine ⟨_,_,_,_,_,rfl,by lia,fun v=>?_⟩;rw [hc2,hc1,ho.cnt];by_cases h1:i=v
  ·subst h1;rw [if_neg (by lia),if_pos rfl,if_pos (by lia)]
  ·rw [if_neg h1]
   by_cases h2:v<i
   ·rw [if_pos h2,if_pos (by lia)]
   ·rw [if_neg h2,if_neg (by lia)]
 ·rintro e ⟨ps,v4,v5,v6,v7,rfl,ho⟩
  rw [Uz] at ho;exact Gj rfl ⟨ps,rfl,ho⟩
structure Prs (n m:Nat) (qs:List (Nat×Nat)):Prop where
 len:qs.length<=m
 lt:∀ q∈qs,q.1<q.2/\q.2<n
theorem Prs.app {n m m':Nat} {qs rs:List (Nat×Nat)} (h:Prs n m qs) (h':Prs n m' rs):Prs n (m+m') (qs++rs):=⟨by rw [length_append];have:=h.len;have:=h'.len;lia,fun q hq=>(mem_append.mp hq).elim (h.lt q) (h'.lt q)⟩
theorem Prs.sub {n m:Nat} {qs rs:List (Nat×Nat)} (h:Prs n m qs) (s:rs.Sublist qs):Prs n m rs:=⟨le_trans s.length_le h.len,fun q hq=>h.lt q (s.subset hq)⟩
theorem Prs.one {n:Nat} {q:Nat×Nat} (h1:q.1<q.2) (h2:q.2<n):Prs n 1 [q]:=⟨le_refl _,fun p hp=>by rw [mem_singleton.mp hp];exact ⟨h1,h2⟩⟩
theorem Prs.mono {n m m':Nat} {qs:List (Nat×Nat)} (h:Prs n m qs) (hm:m<=m'):Prs n m' qs:=⟨le_trans h.len hm,h.lt⟩
theorem Prs.nil (n m:Nat):Prs n m []:=⟨zero_le _,fun q hq=>by cases hq⟩
theorem Z01 (ns:List Int) (first many size:Nat) (hf:first<=1000) (hm:many<=100) (hs:0<size):∃ qs:List (Nat×Nat),T4 [Uy ns,.int (first:Int),.int (many:Int),.int (size:Int)]=.ok (.lst (qs.map Zl))/\Prs size many qs:=by
 have:=W3 (n:=9) (p:=4) (ds:=[Uy ns,.int (first:Int),.int (many:Int),.int (size:Int)]) (g:=V2) (R:=fun d=>∃ qs:List (Nat×Nat),d=.lst (qs.map Zl)/\Prs size many qs) rfl ?_
 ·obtain ⟨d,e,z,rfl,h⟩:=this
  exact ⟨z,e,h⟩
 show Go (V2 [.fz (Uy ns),.fz (.int (first:Int)),.fz (.int (many:Int)),.fz (.int (size:Int)),.un,.un,.un,.un,.un]) _ _;unfold V2;refine Z6 (Qz (ds:=([]:List (Nat×Nat)).map Zl) rfl ?_);refine Z6 (Vb (ds:=rng 0 many) (fun i e=>∃ (qs:List (Nat×Nat)) (v5 v6 v7 v8:Slt),e=[.fz (Uy ns),.fz (.int (first:Int)),.fz (.int (many:Int)),.fz (.int (size:Int)),.ow (qs.map Zl),v5,v6,v7,v8]/\Prs size i qs) (Ws (Z4 rfl rfl) (by lia)) ⟨[],.un,.un,.un,.un,rfl,Prs.nil _ _⟩ ?_ ?_)
 ·rintro i d e hi ⟨qs,v5,v6,v7,v8,rfl,hq⟩
  obtain ⟨hi1,rfl⟩:=Jr hi;rw [Int.zero_add];refine ⟨_,rfl,?_⟩;obtain ⟨c,ec,lc⟩:=Mf ns (first+i) (by lia);refine Z6 (Zg (Zq (xs:=[Uy ns,.int ((first+i:Nat):Int)]) (Z4 rfl (Z4 (Z5 rfl rfl (V5 _ _)) rfl)) ec) ?_);refine Z6 (Zg (Z5 rfl rfl (Wq c size hs)) ?_);refine Z6 (Zg (Z5 (Z5 rfl rfl (Yv c 64 (by lia) (by lia))) rfl (Wq _ size hs)) ?_);have ha:c % size<size:=mod_lt _ hs;have hb:c / 64 % size<size:=mod_lt _ hs;generalize c % size=a at ha;generalize c / 64 % size=b at hb;obtain ⟨z,hz⟩:=Lf (min a b,max a b) qs;have et:∀ env:Ev,env[7]?=some (.fz (.int (a:Int)))->env[8]?=some (.fz (.int (b:Int)))->Yi (Z2 (dF N9 (Z2 (dV 7) (Z2 (dV 8) Zc))) (Z2 (dF Pj (Z2 (dV 7) (Z2 (dV 8) Zc))) Zc)) env=some (Zl (min a b,max a b)):=fun env h7 h8=>by
   have e7:dV 7 env=some (.int (a:Int)):=by unfold dV;rw [h7]
   have e8:dV 8 env=some (.int (b:Int)):=by unfold dV;rw [h8]
   exact Y5 (Z4 (Ys (Z4 e7 (Z4 e8 rfl)) (Zcv a b)) (Z4 (Ys (Z4 e7 (Z4 e8 rfl)) (Zef a b)) rfl)) (by simp)
  refine Qe (Sj (Yo (Z5 rfl rfl (neN a b))) fun _=>Yo (Z5 (et _ rfl rfl) rfl hz)) (fun hb=>?_) (fun _=>Wa ⟨qs,_,_,_,_,rfl,hq.mono (by lia)⟩);have hne:a≠b:=by
   have:=(Bool.and_eq_true_iff.mp hb).1;simpa using this
  refine T5 (ds:=qs.map Zl) (as:=[Zl (min a b,max a b)]) (ds':=(qs++[(min a b,max a b)]).map Zl) rfl (Z4 (et _ rfl rfl) rfl) (by rw [Vk (by rw [length_map];have:=hq.len;lia),map_append];rfl) ⟨_,_,_,_,_,rfl,hq.app (Prs.one (by show min a b<max a b;lia) (by show max a b<_;lia))⟩
 ·rintro e ⟨qs,v5,v6,v7,v8,rfl,hq⟩
  rw [Uz] at hq;exact Gj rfl ⟨qs,rfl,hq⟩
end K25
set_option maxHeartbeats 1000000
namespace K25
open PySem PySem.Spec PyProof.Rows L2
theorem Z4g (p q:Nat×Nat):Et (Zl p) (Zl q)=decide (p=q):=by
 show (((p.1:Int)==(q.1:Int))&&(((p.2:Int)==(q.2:Int))&&true))=_;rw [Bool.eq_iff_iff];simp only [Bool.and_eq_true,beq_iff_eq,decide_eq_true_eq,and_true];constructor
 ·rintro ⟨h1,h2⟩;exact Prod.ext (by lia) (by lia)
 ·rintro rfl;exact ⟨rfl,rfl⟩
theorem Fy (p q:Nat×Nat):Ax (Zl p) (Zl q)=some (.bl (!decide (p=q))):=by
 unfold Ax;rw [Gc,Gc,Z4g];rfl
theorem Z2b (ps:List Nat) (t:Nat) (h:t<=ps.length):Ue (Zd ps) (some (t:Int)) none=Zd (ps.drop t):=by
 unfold Zd;rw [M3,M3,Hs ps t h]
theorem Gg (b:Bool):Jj (.int (if b then 1 else 0)) (.int 0)=some (.bl (!b)):=by cases b<;>rfl
theorem Z2i {a b k:Nat} (h1:a<2^k) (h2:b<2^k):a ||| b<2^k:=Nat.or_lt_two_pow h1 h2
structure DS (s0:Nat) (rs:List (Nat×Nat)) (ps:List Nat) (code d:Nat) (s:St3):Prop where
 w:ps[d]?=some s.w
 tk:D4 s0 rs (·.2) (·.1) d s.takes
 fl:D4 s0 rs (·.1) (·.2) d s.fills
 up:s.up=!(code.testBit s.w ^^ decide ((ps.take d).count s.w % 2=1))
def Z8v (G:G3) (n s0:Nat) (ps:List Nat) (rs:List (Nat×Nat)):Prop:=(∀ q∈rs,q.1<q.2/\q.2<2*n)/\∀ d,d<2*n->∃ s∈G.steps,Deed G s0 (Vq ps) (Vo ps) rs n d s
theorem Z2j (ns:List Int) (first n many:Nat) (hf:first<=900) (hn1:1<=n) (hn2:n<=4) (hm:many<=5):∃ (G:G3) (s0:Nat) (ps:List Nat) (rs:List (Nat×Nat)),Tt [Uy ns,.int (first:Int),.int (n:Int),.int (many:Int)]=.ok G.d/\RG G n s0 (Vq ps) (Vo ps) rs/\Gb 54 G/\Z2x G/\Z8v G n s0 ps rs:=by
 have:=W3 (n:=24) (p:=4) (ds:=[Uy ns,.int (first:Int),.int (n:Int),.int (many:Int)]) (g:=Vj) (R:=fun d=>∃ (G:G3) (s0:Nat) (ps:List Nat) (rs:List (Nat×Nat)),d=G.d/\RG G n s0 (Vq ps) (Vo ps) rs/\Gb 54 G/\Z2x G/\Z8v G n s0 ps rs) rfl ?_
 ·obtain ⟨d,e,z,s0,ps,rs,rfl,h⟩:=this
  exact ⟨z,s0,ps,rs,e,h⟩
 show Go (Vj [.fz (Uy ns),.fz (.int (first:Int)),.fz (.int (n:Int)),.fz (.int (many:Int)),.un,.un,.un,.un,.un,.un,.un,.un,.un,.un,.un,.un,.un,.un,.un,.un,.un,.un,.un,.un]) _ _;unfold Vj;obtain ⟨ps,eo,ho⟩:=Z0q ns first n (by lia) (by lia);have hpl:=ho.len;refine Z6 (Zg (Zq (xs:=[Uy ns,.int (first:Int),.int (n:Int)]) rfl eo) ?_);refine Z6 (Zg (Z5 rfl rfl (Ft 2 n (by lia))) ?_);obtain ⟨m,hm0⟩:∃ m:Nat,2*n=m:=⟨_,rfl⟩;rw [hm0] at hpl ⊢;obtain ⟨c,ec,lc⟩:=Mf ns (first+n) (by lia);refine Z6 (Zg (Zq (xs:=[Uy ns,.int ((first+n:Nat):Int)]) (Z4 rfl (Z4 (Z5 rfl rfl (V5 _ _)) rfl)) ec) ?_);obtain ⟨qs,eq,hq⟩:=Z01 ns (first+n+1) many m (by lia) (by lia) (by lia);refine Z6 (Zg (Zq (xs:=[Uy ns,.int ((first+n+1:Nat):Int),.int (many:Int),.int (m:Int)]) (Z4 rfl (Z4 (Z5 (Z5 rfl rfl (V5 _ _)) rfl (V5 _ 1)) rfl)) eq) ?_);refine Z6 (Go.mono (N:=fun e=>∃ rs:List (Nat×Nat),e=[.fz (Uy ns),.fz (.int (first:Int)),.fz (.int (n:Int)),.fz (.int (many:Int)),.fz (.lst (Zd ps)),.fz (.int (m:Int)),.fz (.int (c:Int)),.fz (.lst (rs.map Zl)),.un,.un,.un,.un,.un,.un,.un,.un,.un,.un,.un,.un,.un,.un,.un,.un]/\Prs m 12 rs) ?_ ?_ (fun _ h=>h))
 ·refine Qe (Yo (Z5 (Z5 rfl rfl (Wq c 3 (by lia))) rfl (eqN _ 0))) (fun _=>?_) (fun _=>Wa ⟨qs,rfl,hq.mono (by lia)⟩)
  obtain ⟨ks,hs,hc⟩:=L5 (g:=Yj 0) (t:=dB (dO F0 (Yi (Z2 (dV 0) (Z2 (dO Y8 (dV 0) (dC (.int 1))) Zc))) (dV 1))) (f:=Yi (Z2 (dV 0) (Z2 (dO Y8 (dV 0) (dC (.int 1))) Zc))) (env:=[.un,.fz (.lst (qs.map Zl))]) (fun k:Nat=>Dat.int (k:Int)) (fun k:Nat=>Zl (k,k+1)) (List.range (m - 1)) fun k _=>by
   obtain ⟨b,hb⟩:=Lf (k,k+1) qs;have et:Yi (Z2 (dV 0) (Z2 (dO Y8 (dV 0) (dC (.int 1))) Zc)) [.fz (.int (k:Int)),.fz (.lst (qs.map Zl))]=some (Zl (k,k+1)):=Y5 (Z4 rfl (Z4 (Z5 rfl rfl (V5 k 1)) rfl)) (by simp);exact ⟨_,b,rfl,Yo (Z5 et rfl hb),et⟩
  rw [← G8] at hc;have hp:Prs m 7 (ks.map fun k=>(k,k+1)):=⟨by have:=hs.length_le;rw [length_range] at this;rw [length_map];lia,fun q hq=>by
   obtain ⟨k,hk,rfl⟩:=mem_map.mp hq;have:=mem_range.mp (hs.subset hk);exact ⟨by show k<k+1;lia,by show k+1<m;lia⟩⟩
  have hl1:=hq.len;have hl2:=hp.len;rw [length_map] at hl2;refine Zg (Z5 rfl (Ve (Vr (xs:=rng 0 (m - 1)) (Ws (Z4 (Z5 rfl rfl (Z16 m 1 (by lia))) rfl) (by lia)) rfl hc)) (Sd (by rw [length_map,length_map];lia))) ⟨qs++ks.map fun k=>(k,k+1),by rw [map_append,map_map];rfl,(hq.app hp).mono (by lia)⟩
 rintro e ⟨rs,rfl,hr⟩;clear eq hq qs;refine Z6 (Vb (ds:=rng 0 n) (fun i e=>∃ (rs:List (Nat×Nat)) (v8 v9 v10:Slt),e=[.fz (Uy ns),.fz (.int (first:Int)),.fz (.int (n:Int)),.fz (.int (many:Int)),.fz (.lst (Zd ps)),.fz (.int (m:Int)),.fz (.int (c:Int)),.fz (.lst (rs.map Zl)),v8,v9,v10,.un,.un,.un,.un,.un,.un,.un,.un,.un,.un,.un,.un,.un]/\Prs m (12+i) rs/\∀ w,w<i->(Vq ps w,Vo ps w)∈rs) (Ws (Z4 rfl rfl) (by lia)) ⟨rs,.un,.un,.un,rfl,hr,fun w hw=>absurd hw (by lia)⟩ ?_ ?_)
 ·rintro i d e hi ⟨rs,v8,v9,v10,rfl,hr,hrg⟩
  obtain ⟨hi1,rfl⟩:=Jr hi;rw [Int.zero_add];refine ⟨_,rfl,?_⟩;have hmem:i∈ps:=ho.mem.mpr hi1;have hone:ps.idxOf i<ps.length:=List.idxOf_lt_length_of_mem hmem;have h2:=Xq (ho.two hi1);have htw0:Vo ps i=ps.idxOf i+1+(ps.drop (ps.idxOf i+1)).idxOf i:=rfl;have hon0:Vq ps i=ps.idxOf i:=rfl;refine Z6 (Zg (Z6w rfl rfl rfl (Iv ps i hmem)) ?_);generalize ps.idxOf i=one at hone h2 htw0 hon0;have htwo:(ps.drop (one+1)).idxOf i<(ps.drop (one+1)).length:=List.idxOf_lt_length_of_mem h2;rw [length_drop] at htwo;refine Z6 (Zg (Z5 (Z5 rfl rfl (V5 one 1)) (Z6w (x:=.lst (Zd (ps.drop (one+1)))) (Mr rfl (V0 (Z5 rfl rfl (V5 one 1))) rfl (by rw [D9,Z2b ps _ (by lia)])) rfl rfl (Iv _ i h2)) (V5 _ _)) ?_);generalize (ps.drop (one+1)).idxOf i=x2 at htwo htw0;have hc:=Q9 (g:=Yj 0) (t:=dB (dO Ax (dV 0) (Yi (Z2 (dV 1) (Z2 (dV 2) Zc))))) (f:=dV 0) (env:=[.un,.fz (.int (one:Int)),.fz (.int ((one+1+x2:Nat):Int))]) Zl Zl (fun q=>!decide (q=(one,one+1+x2))) rs fun q _ =>
   ⟨_,rfl,Yo (Z5 rfl (Y5 rfl (by simp)) (Fy q (one,one+1+x2))),rfl⟩
  have hs:(rs.filter fun q=>!decide (q=(one,one+1+x2))).Sublist rs:=List.filter_sublist;have hl:=hs.length_le;have hl2:=hr.len;refine Zg (Z5 (Ve (Vr (xs:=rs.map Zl) rfl rfl hc)) (Ve (Tv (xs:=[Zl (one,one+1+x2)]) (Z4 (Y5 rfl (by simp)) rfl) (by simp))) (Sd (by rw [length_map];show _+1<=_;lia))) ⟨(rs.filter fun q=>!decide (q=(one,one+1+x2)))++[(one,one+1+x2)],_,_,_,by rw [map_append];rfl,?_,?_⟩
  ·exact ((hr.sub hs).app (Prs.one (by show one<one+1+x2;lia) (by show one+1+x2<m;lia))).mono (by lia)
  ·intro w hw
   by_cases e:(Vq ps w,Vo ps w)=(one,one+1+x2)
   ·rw [e];exact mem_append_right _ (mem_singleton.mpr rfl)
   ·have hwi:w<i:=by
     rcases lt_or_ge w i with h | h
     ·exact h
     ·have:w=i:=by lia
      subst this;exact absurd (Prod.ext hon0 htw0) e
    exact mem_append_left _ (mem_filter.mpr ⟨hrg w hwi,by rw [decide_eq_false e];rfl⟩)
 rintro e ⟨rs,v8,v9,v10,rfl,hr,hrg⟩;rw [Uz] at hr hrg;refine Z6 (B7 (ds:=Zd ps) rfl ?_);refine Z6 (B7 (ds:=Zd ps) rfl ?_);rw [length_map,length_map,hpl,Z1n];refine Z6 (Zg (d:=.int ((0:Nat):Int)) rfl ?_);refine Z6 (Zg (Z5 (Z5 rfl rfl (Yv c 3 (by lia) (by lia))) rfl (Wq _ 20 (by lia))) ?_);have hs0:c / 3 % 20<20:=mod_lt _ (by lia);generalize c / 3 % 20=s0 at hs0;refine Z6 (Vb (ds:=rs.map Zl) (fun i e=>∃ (tk fl:List (List Nat)) (mk:Nat) (v15 v16:Slt),e=[.fz (Uy ns),.fz (.int (first:Int)),.fz (.int (n:Int)),.fz (.int (many:Int)),.fz (.lst (Zd ps)),.fz (.int (m:Int)),.fz (.int (c:Int)),.fz (.lst (rs.map Zl)),v8,v9,v10,.gx (.nest (tk.map Zd)),.gx (.nest (fl.map Zd)),.fz (.int (mk:Int)),.fz (.int ((s0+2*i:Nat):Int)),v15,v16,.un,.un,.un,.un,.un,.un,.un]/\tk.length=m/\fl.length=m/\Nst (2*i) (s0+2*i) tk/\Nst (2*i) (s0+2*i) fl/\mk<2^(s0+2*i)/\(∀ l∈tk,l.Nodup)/\(∀ l∈fl,l.Nodup)/\NS s0 (rs.take i) (·.2) (·.1) tk/\NS s0 (rs.take i) (·.1) (·.2) fl/\∀ q,mk.testBit q=true↔∃ t,t<i/\q=s0+2*t+1) rfl ⟨_,_,0,.un,.un,rfl,length_replicate,length_replicate,(Nst.nil m).mono (by lia) (by lia),(Nst.nil m).mono (by lia) (by lia),two_pow_pos _,fun l h=>by rw [(mem_replicate.mp h).2];exact nodup_nil,fun l h=>by rw [(mem_replicate.mp h).2];exact nodup_nil,by rw [take_zero];exact NS.nil _ _ _ _,by rw [take_zero];exact NS.nil _ _ _ _,fun q=>by simp⟩ ?_ ?_)
 ·rintro i d e hi ⟨tk,fl,mk,v15,v16,rfl,htl,hfl,ht,hfk,hmk,ndt,ndf,nst,nsf,hmb⟩
  rw [getElem?_map] at hi;obtain ⟨q,hq,rfl⟩:=map_some hi;have hil:=(List.getElem?_eq_some_iff.mp hq).1;have hql:=hr.lt q (mem_of_getElem? hq);have hrl:=hr.len;refine ⟨_,rfl,?_⟩;have ht1:=ht.mono (le_refl _) (show s0+2*i<=s0+2*i+2 by lia);have hf1:=hfk.mono (le_refl _) (show s0+2*i<=s0+2*i+2 by lia);refine Z6 (Ge rfl hf1 (by lia) (k:=q.1) (by lia) rfl rfl ?_);refine Z6 (Ge rfl ht1 (by lia) (k:=q.2) (by lia) rfl rfl ?_);have ht2:=ht1.app q.2 (s0+2*i) (by lia);have hf2:=hf1.app q.1 (s0+2*i) (by lia);refine Z6 (Ge (x:=s0+2*i+1) rfl hf2 (by lia) (k:=q.2) (by rw [Qc];lia) rfl rfl ?_);refine Z6 (Ge (x:=s0+2*i+1) rfl ht2 (by lia) (k:=q.1) (by rw [Qc];lia) rfl rfl ?_);have ht3:=ht2.app q.1 (s0+2*i+1) (by lia);have hf3:=hf2.app q.2 (s0+2*i+1) (by lia);have htb:=(ht.mono (le_refl _) (show s0+2*i<=s0+2*i+1 by lia)).app q.2 (s0+2*i) (by lia);have hfb:=(hfk.mono (le_refl _) (show s0+2*i<=s0+2*i+1 by lia)).app q.1 (s0+2*i) (by lia);have hti:(rs.take i).length=i:=by rw [length_take];lia
  have htk1:rs.take (i+1)=rs.take i++[q]:=by rw [take_succ,hq];rfl
  refine Z6 (Zg (Z5 rfl (Z5 rfl (Z5 rfl rfl (V5 _ 1)) (Mm (s0+2*i+1) (by lia))) (orN mk _)) ?_);refine Zg (Z5 rfl rfl (V5 _ 2)) ⟨_,_,_,_,_,rfl,by rw [Qc,Qc,htl],by rw [Qc,Qc,hfl],ht3.mono (by lia) (by lia),hf3.mono (by lia) (by lia),?_,?_,?_,?_,?_,?_⟩
  ·exact Z2i (lt_of_lt_of_le hmk (pow_le_pow_right (by lia) (by lia))) (Nat.pow_lt_pow_right (by lia) (by lia))
  ·exact Ni htb (Ni ht ndt _ _ (le_refl _)) _ _ (le_refl _)
  ·exact Ni hfb (Ni hfk ndf _ _ (le_refl _)) _ _ (le_refl _)
  ·have:=nst.app q (by show q.2<_;lia) (by show q.1<_;lia)
   rw [hti] at this;rw [htk1];exact this
  ·have:=nsf.app q (by show q.1<_;lia) (by show q.2<_;lia)
   rw [hti] at this;rw [htk1];exact this
  ·intro j
   rw [testBit_or,Bool.or_eq_true,hmb,testBit_two_pow,decide_eq_true_eq];constructor
   ·rintro (⟨t,h1,h2⟩ | h1)
    ·exact ⟨t,by lia,h2⟩
    ·exact ⟨i,by lia,h1.symm⟩
   ·rintro ⟨t,h1,h2⟩
    rcases lt_or_ge t i with h | h
    ·exact .inl ⟨t,h,h2⟩
    ·have:t=i:=by lia
     subst this;exact .inr h2.symm
 rintro e ⟨tk,fl,mk,v15,v16,rfl,htl,hfl,ht,hfk,hmk,ndt,ndf,nst,nsf,hmb⟩;rw [length_map] at ht hfk hmk nst nsf hmb ⊢;rw [take_of_length_le (le_refl _)] at nst nsf;have hrl:=hr.len;have ht:=ht.mono (L':=32) (B':=54) (by lia) (by lia);have hfk:=hfk.mono (L':=32) (B':=54) (by lia) (by lia);have hmk:mk<2^54:=lt_of_lt_of_le hmk (pow_le_pow_right (by lia) (by lia));refine Z6 (Zg (Z5 (Z5 rfl rfl (Yv c 60 (by lia) (by lia))) (Z5 rfl rfl (Mm n (by lia))) (Wq _ (2^n) (two_pow_pos _))) ?_);have hcode:c / 60 % 2^n<2^n:=mod_lt _ (two_pow_pos _);generalize c / 60 % 2^n=code at hcode;refine Z6 (Zg rfl ?_);refine Z6 (Qz (ds:=([]:List St3).map St3.d) rfl ?_);generalize (s0+2*rs.length)=s9;refine Z6 (Vb (ds:=Rn 0 (Zd ps)) (fun i e=>∃ (ss:List St3) (seen:Nat) (v8 v20:Slt),e=[.fz (Uy ns),.fz (.int (first:Int)),.fz (.int (n:Int)),.fz (.int (many:Int)),.fz (.lst (Zd ps)),.fz (.int (m:Int)),.fz (.int (c:Int)),.fz (.lst (rs.map Zl)),v8,v9,v10,.gx (.nest (tk.map Zd)),.gx (.nest (fl.map Zd)),.fz (.int (mk:Int)),.fz (.int (s9:Int)),v15,v16,.fz (.int (code:Int)),.fz (.int (seen:Int)),.ow (ss.map St3.d),v20,.un,.un,.un]/\ss.length=i/\(∀ v,seen.testBit v=(code.testBit v ^^ decide ((ps.take i).count v % 2=1)))/\(∀ j s,ss[j]?=some s->DS s0 rs ps code j s)/\∀ s∈ss,SB 54 n s) rfl ⟨[],code,v8,.un,rfl,rfl,fun v=>by simp,fun j s h=>(by simp at h),by simp⟩ ?_ ?_)
 ·rintro i d e hi ⟨ss,seen,v8,v20,rfl,hsl,hsn,hds,hsk⟩
  obtain ⟨x,hx,rfl⟩:=Rf hi;obtain ⟨w,hw,rfl⟩:=J8 hx;have hil:=(List.getElem?_eq_some_iff.mp hw).1;have hwn:w<n:=ho.mem.mp (mem_of_getElem? hw);refine ⟨_,rfl,?_⟩;have e1:tk[i]?=some tk[i]:=getElem?_eq_getElem (by lia);have e2:fl[i]?=some fl[i]:=getElem?_eq_getElem (by lia);have n1:=nst i;have n2:=nsf i;rw [show tk.getD i []=tk[i] by rw [List.getD,e1];rfl] at n1;rw [show fl.getD i []=fl[i] by rw [List.getD,e2];rfl] at n2;generalize htk:tk[i]=tl at e1 n1;generalize hfl':fl[i]=fl' at e2 n2;have t1:=ht.len _ (mem_of_getElem? e1);have t2:=ht.lt _ (mem_of_getElem? e1);have f1:=hfk.len _ (mem_of_getElem? e2);have f2:=hfk.lt _ (mem_of_getElem? e2);obtain ⟨ta,ea,pa⟩:=D0 tl (by lia);obtain ⟨fa,eb,pb⟩:=D0 fl' (by lia);refine Z6 (T5 (ds:=ss.map St3.d) (as:=[(⟨w,!(seen.testBit w),ta,fa⟩:St3).d]) (ds':=(ss++[(⟨w,!(seen.testBit w),ta,fa⟩:St3)]).map St3.d) rfl (Z4 (Y5 (Z4 rfl (Z4 (Z5 (Z5 (Z5 rfl rfl (Kd seen w)) rfl (Mk seen w)) rfl (Gg _)) (Z4 (Ys (Z4 (Ve (Ys (Z4 (Bg rfl rfl e1) rfl) ea)) rfl) rfl) (Z4 (Ys (Z4 (Ve (Ys (Z4 (Bg rfl rfl e2) rfl) eb)) rfl) rfl) rfl)))) (by simp)) rfl) ?_ ?_)
  ·rw [Vk (by rw [length_map];lia),map_append];rfl
  ·refine Zg (Z5 rfl (Z5 rfl rfl (Mm w (by lia))) (Zbs seen _)) ⟨_,_,_,_,rfl,by rw [length_append,length_singleton,hsl],?_,?_,fun s hs=>?_⟩
   ·intro v
    rw [W9,hsn,take_succ,hw];show (code.testBit v ^^ decide ((ps.take i).count v % 2=1) ^^ decide (w=v))=(code.testBit v ^^ decide ((ps.take i++[w]).count v % 2=1));rw [List.count_append,List.count_singleton];by_cases ew:w=v
    ·subst ew
     rw [show (w==w)=true from beq_self_eq_true _,decide_eq_true rfl,if_pos rfl];by_cases hp:(ps.take i).count w % 2=1
     ·rw [decide_eq_true hp,decide_eq_false (by lia)];cases code.testBit w<;>rfl
     ·rw [decide_eq_false hp,decide_eq_true (by lia)];cases code.testBit w<;>rfl
    ·rw [show (w==v)=false from beq_eq_false_iff_ne.mpr ew,decide_eq_false ew];simp
   ·intro j s hj
    rcases lt_or_ge j ss.length with hl | hl
    ·rw [getElem?_append_left hl] at hj
     exact hds j s hj
    ·rw [getElem?_append_right hl] at hj
     have e0:j - ss.length=0:=by
      rcases eq_zero_or_pos (j - ss.length) with z | z
      ·exact z
      ·rw [getElem?_cons,if_neg (by lia)] at hj;cases hj
     rw [e0] at hj;cases hj;have ej:j=i:=by lia
     subst ej;exact ⟨hw,n1.perm pa,n2.perm pb,by show (!(seen.testBit w))=_;rw [hsn]⟩
   rcases mem_append.mp hs with h | h
   ·exact hsk s h
   ·rw [mem_singleton.mp h]
    exact ⟨hwn,fun p hp=>t2 p (pa.mem_iff.mp hp),fun p hp=>f2 p (pb.mem_iff.mp hp),pa.nodup_iff.mpr (ndt _ (mem_of_getElem? e1)),pb.nodup_iff.mpr (ndf _ (mem_of_getElem? e2))⟩
 rintro e ⟨ss,seen,v8,v20,rfl,hsl,hsn,hds,hsk⟩;rw [Tc,length_map,length_map] at hsl;refine Z6 (Zg (Z5 (Z5 rfl rfl (Yv c 2000 (by lia) (by lia))) rfl (Wq _ m (by lia))) ?_);have htn:c / 2000 % m<m:=mod_lt _ (by lia);generalize c / 2000 % m=t at htn;refine Z6 (Qz (ds:=(ss.drop t++ss.take t).map St3.d) (by
  refine Z5 (Mr rfl (V0 rfl) rfl (D9 _ _ _)) (Mr rfl rfl (V0 rfl) (D9 _ _ _)) ?_;rw [M3,M3,Hs ss t (by lia),Oi ss t (by lia),Z5t (by rw [length_map,length_map,length_drop,length_take];lia),map_append]) ?_)
 refine Z6 (Zg (Z5 rfl rfl (Yv c 40000 (by lia) (by lia))) ?_);obtain ⟨ws,ew,wl,_⟩:=Iy (g:=Yj 0) (f:=Yi (Z2 (Yu Yr (Z2 (dV 1) (Z2 (dV 0) Zc))) (Z2 (dO V1 (dL (Vu (Z2 (dC (.str "given")) (Z2 (dC (.str "made")) Zc)))) (dO W5 (dO Yh (Yu Yb (Z2 (dV 2) (Z2 (dO Y8 (dV 3) (dV 0)) Zc))) (dC (.int 4096))) (dC (.int 2)))) Zc))) (env:=[.un,.fz (.int ((c / 40000:Nat):Int)),.fz (Uy ns),.fz (.int (first:Int))]) M9 (fun _=>True) (rng 0 n) fun x hx=>by
  obtain ⟨i,hi,rfl⟩:=Bd hx;rw [Int.zero_add];obtain ⟨z,ez⟩:=Gk (c / 40000) i;obtain ⟨r,er,_⟩:=Mf ns (first+i) (by lia);have p1:=Zb1 (.str "given") (.str "made") (j:=((r / 4096 % 2:Nat):Int)) (by lia) (by lia);refine ⟨[.fz (.int (i:Int)),.fz (.int ((c / 40000:Nat):Int)),.fz (Uy ns),.fz (.int (first:Int))],(z,decide (((r / 4096 % 2:Nat):Int)=1)),rfl,?_,trivial⟩;refine Eq.trans (Y5 (Z4 (Zq (xs:=[.int ((c / 40000:Nat):Int),.int (i:Int)]) rfl ez) (Z4 (Z5 (x:=.lst [.str "given",.str "made"]) rfl (Z5 (Z5 (Zq (xs:=[Uy ns,.int ((first+i:Nat):Int)]) (Z4 rfl (Z4 (Z5 rfl rfl (V5 _ _)) rfl)) er) rfl (Yv r 4096 (by lia) (by lia))) rfl (Wq _ 2 (by lia))) p1) rfl)) (by simp)) ?_;show some (Dat.tup [.str z,if ((r / 4096 % 2:Nat):Int)=1 then .str "made" else .str "given"])=some (Dat.tup [.str z,.str (if decide (((r / 4096 % 2:Nat):Int)=1)=true then "made" else "given")]);by_cases hb:((r / 4096 % 2:Nat):Int)=1
  ·rw [if_pos hb,decide_eq_true hb];rfl
  ·rw [if_neg hb,decide_eq_false hb];rfl
 rw [Uz] at wl;refine Z6 (Zg (d:=.lst (ws.map M9)) (Ve (Vr (xs:=rng 0 n) (Ws (Z4 rfl rfl) (by lia)) rfl ew)) ?_);have hperm:(ss.drop t++ss.take t).Perm ss:=by
  have:=List.perm_append_comm (l₁:=ss.drop t) (l₂:=ss.take t);rw [take_append_drop] at this;exact this
 have hlen:=hperm.length_eq;refine Ym (Y5 (Z4 (Ys (Z4 rfl rfl) rfl) (Z4 (Ys (Z4 rfl rfl) rfl) rfl)) (by simp)) ⟨⟨ws,ss.drop t++ss.take t,mk,code⟩,s0,ps,rs,rfl,?_,?_,?_,fun q hq=>⟨(hr.lt q hq).1,by have:=(hr.lt q hq).2;lia⟩,fun d hd=>?_⟩
 ·exact {
   ne:=fun q hq=>by have:=(hr.lt q hq).1;lia
   ring:=hrg
   inj:=fun w v hw hv h=>ho.inj w v hw hv h
   mks:=hmb
   st:=fun s hs=>by
    obtain ⟨d,hd⟩:=getElem?_of_mem (hperm.mem_iff.mp hs);have q:=hds d s hd;have hwn:=(hsk s (hperm.mem_iff.mp hs)).w;have hdl:=(List.getElem?_eq_some_iff.mp hd).1;refine ⟨d,hwn,by lia,q.tk,q.fl,?_⟩;have hu:=q.up;rcases Z4u q.w (ho.two hwn) with ⟨h1,h2⟩ | ⟨h1,h2⟩
    ·exact .inl ⟨h2,by rw [hu,h1];show (!(code.testBit s.w ^^ decide (0 % 2=1)))=(!code.testBit s.w);simp⟩
    ·exact .inr ⟨h2,by rw [hu,h1];show (!(code.testBit s.w ^^ decide (1 % 2=1)))=code.testBit s.w;simp⟩ }
 ·exact { w2:=by show ws.length<=10;lia,s1:=by show 1<=(ss.drop t++ss.take t).length;lia,s2:=by show (ss.drop t++ss.take t).length<=24;lia,st:=fun s hs=>by show SB 54 ws.length s;rw [wl];exact hsk s (hperm.mem_iff.mp hs),mks:=hmk }
 ·have hnd:((List.range m).drop t++(List.range m).take t).Nodup:=by
   have hp:((List.range m).drop t++(List.range m).take t).Perm (List.range m):=by
    have:=List.perm_append_comm (l₁:=(List.range m).drop t) (l₂:=(List.range m).take t);rw [take_append_drop] at this;exact this
   exact hp.nodup_iff.mpr List.nodup_range
  refine Xa (n:=n) (s0:=s0) (one:=Vq ps) (two:=Vo ps) (rs:=rs) _ hnd fun i s hi=>?_
  have key:∀ d:Nat,ss[d]?=some s->Deed (⟨ws,ss.drop t++ss.take t,mk,code⟩:G3) s0 (Vq ps) (Vo ps) rs n d s:=fun d hd=>by
   have q:=hds d s hd;have hwn:=(hsk s (mem_of_getElem? hd)).w;have hdl:=(List.getElem?_eq_some_iff.mp hd).1;refine ⟨hwn,by lia,q.tk,q.fl,?_⟩;have hu:=q.up;rcases Z4u q.w (ho.two hwn) with ⟨h1,h2⟩ | ⟨h1,h2⟩
   ·exact .inl ⟨h2,by rw [hu,h1];show (!(code.testBit s.w ^^ decide (0 % 2=1)))=(!code.testBit s.w);simp⟩
   ·exact .inr ⟨h2,by rw [hu,h1];show (!(code.testBit s.w ^^ decide (1 % 2=1)))=code.testBit s.w;simp⟩
  have hi':(ss.drop t++ss.take t)[i]?=some s:=hi;rcases lt_or_ge i (m - t) with h | h
  ·rw [getElem?_append_left (by rw [length_drop];lia),List.getElem?_drop] at hi'
   refine ⟨t+i,?_,key _ hi'⟩;rw [getElem?_append_left (by rw [length_drop,length_range];lia),List.getElem?_drop,getElem?_range (by lia)]
  ·rw [getElem?_append_right (by rw [length_drop];lia),length_drop,List.getElem?_take] at hi'
   split at hi'
   ·rename_i hlt
    refine ⟨i - (ss.length - t),?_,key _ hi'⟩;have e9:i - (m - t)=i - (ss.length - t):=by lia
    rw [getElem?_append_right (by rw [length_drop,length_range];lia),length_drop,length_range,List.getElem?_take,e9,if_pos hlt,getElem?_range (by lia)]
   ·cases hi'
 ·obtain ⟨s,hs⟩:∃ s,ss[d]?=some s:=⟨_,getElem?_eq_getElem (by lia)⟩
  have q:=hds d s hs;have hwn:=(hsk s (mem_of_getElem? hs)).w;refine ⟨s,hperm.mem_iff.mpr (mem_of_getElem? hs),hwn,hd,q.tk,q.fl,?_⟩;have hu:=q.up;rcases Z4u q.w (ho.two hwn) with ⟨h1,h2⟩ | ⟨h1,h2⟩
  ·exact .inl ⟨h2,by rw [hu,h1];show (!(code.testBit s.w ^^ decide (0 % 2=1)))=(!code.testBit s.w);simp⟩
  ·exact .inr ⟨h2,by rw [hu,h1];show (!(code.testBit s.w ^^ decide (1 % 2=1)))=code.testBit s.w;simp⟩
theorem stp {f1 f2 f3 f4:Ev->Option Dat} {env:Ev} {w p q:Nat} {u:Bool} (h1:f1 env=some (.int (w:Int))) (h2:f2 env=some (.bl u)) (h3:f3 env=some (.int (p:Int))) (h4:f4 env=some (.int (q:Int))):Yi (Z2 f1 (Z2 f2 (Z2 (Yi (Z2 f3 Zc)) (Z2 (Yi (Z2 f4 Zc)) Zc)))) env=some (⟨w,u,[p],[q]⟩:St3).d :=
 Y5 (Z4 h1 (Z4 h2 (Z4 (Y5 (Z4 h3 rfl) (by simp)) (Z4 (Y5 (Z4 h4 rfl) (by simp)) rfl)))) (by simp)
theorem Zap {j:Nat} (h:j<3):∃ b:Bool,V1 (.lst [.str "given",.str "given",.str "made"]) (.int (j:Int))=some (.str (if b then "made" else "given")):=by
 rcases (show j=0\/j=1\/j=2 by lia) with rfl | rfl | rfl
 ·exact ⟨false,rfl⟩
 ·exact ⟨false,rfl⟩
 ·exact ⟨true,rfl⟩
theorem Rh {α:Type} (f:α->Dat) (xs:List α):Qh [.lst (xs.map f)]=some (.int ((xs.length:Nat):Int)):=by
 show some (Dat.int ((xs.map f).length:Int))=_;rw [length_map]
def LC (C base f q:Nat):Nat:=if q=base then C else if (q - base - 1) % 3=0 then C ^^^ 2^(1+(q - base - 1) / 3*f) else if (q - base - 1) % 3=1 then C ^^^ 2^(1+(q - base - 1) / 3*f) ^^^ 2^0 else C ^^^ 2^0
theorem LC0 (C base f:Nat):LC C base f base=C:=if_pos rfl
theorem LC1 (C base f k:Nat):LC C base f (base+1+3*k)=C ^^^ 2^(1+k*f):=by
 unfold LC;have e:base+1+3*k - base - 1=3*k:=by lia
 rw [if_neg (by lia),e,if_pos (by lia),show 3*k / 3=k by lia]
theorem LC2 (C base f k:Nat):LC C base f (base+1+3*k+1)=C ^^^ 2^(1+k*f) ^^^ 2^0:=by
 unfold LC;have e:base+1+3*k+1 - base - 1=3*k+1:=by lia
 rw [if_neg (by lia),e,if_neg (by lia),if_pos (by lia),show (3*k+1) / 3=k by lia]
theorem LC3 (C base f k:Nat):LC C base f (base+1+3*k+2)=C ^^^ 2^0:=by
 unfold LC;have e:base+1+3*k+2 - base - 1=3*k+2:=by lia
 rw [if_neg (by lia),e,if_neg (by lia),if_neg (by lia)]
theorem xx (a b:Nat):a ^^^ b ^^^ b=a:=by rw [Nat.xor_assoc,Nat.xor_self,Nat.xor_zero]
theorem xxy (a b c:Nat):a ^^^ b ^^^ c ^^^ b=a ^^^ c:=by rw [Nat.xor_assoc,Nat.xor_comm c b,← Nat.xor_assoc,xx]
def Ix (K:Nat) (L:Nat->Nat) (s:St3):Prop:=(∃ x y,x<64/\y<64/\x≠y/\s.takes=[x]/\s.fills=[y]/\L y=L x ^^^ 2^s.w/\(L x).testBit s.w≠s.up)/\SB 54 (K+1) s
theorem De {K:Nat} {L:Nat->Nat} {w x y:Nat} {u:Bool} (hx:x<54) (hy:y<54) (hn:x≠y) (hw:w<K+1) (h1:L y=L x ^^^ 2^w) (h2:(L x).testBit w≠u):Ix K L ⟨w,u,[x],[y]⟩ :=
 ⟨⟨x,y,by lia,by lia,hn,rfl,rfl,h1,h2⟩,hw,fun p hp=>by rw [mem_singleton.mp hp];exact hx,fun p hp=>by rw [mem_singleton.mp hp];exact hy,nodup_cons.mpr ⟨by simp,nodup_nil⟩,nodup_cons.mpr ⟨by simp,nodup_nil⟩⟩
theorem Z1c (c:Nat):Tf (.int (c:Int)) (.int 1)=some (.int (if c.testBit 0 then 1 else 0)):=by
 have:=Mk c 0;rw [Nat.pow_zero,Nat.div_one] at this;exact this
theorem Ae {c k x:Nat} (h:x<k):(c % 2^k).testBit x=c.testBit x:=by
 rw [Nat.testBit_mod_two_pow,decide_eq_true h,Bool.true_and]
theorem Z9i (b:Bool):b≠!b:=by cases b<;>simp
structure Lv (base:Nat) (ss:List St3) (i:Nat):Prop where
 cl:∀ s∈ss,s.fills=[base]\/∃ s'∈ss,s'.takes=s.fills
 ex:0<i->∃ s∈ss,s.takes=[base]
theorem Lv.app {base:Nat} {ss new:List St3} {i:Nat} (h:Lv base ss i) (h1:∀ s∈new,s.fills=[base]\/∃ s'∈new,s'.takes=s.fills) (h2:∃ s∈new,s.takes=[base]):Lv base (ss++new) (i+1):=by
 refine ⟨fun s hs=>?_,fun _=>?_⟩
 ·rcases mem_append.mp hs with q | q
  ·exact (h.cl s q).imp id fun ⟨s',a,b⟩=>⟨s',mem_append_left _ a,b⟩
  ·exact (h1 s q).imp id fun ⟨s',a,b⟩=>⟨s',mem_append_right _ a,b⟩
 ·obtain ⟨s,a,b⟩:=h2
  exact ⟨s,mem_append_right _ a,b⟩
def Z9n (G:G3) (b:Nat):Prop:=(∃ s∈G.steps,s.takes=[b])/\∀ s∈G.steps,∃ s'∈G.steps,s'.takes=s.fills
theorem Ct (ns:List Int) (first:Nat) (hf:first<=900):∃ (G:G3) (b:Nat) (L:Nat->Nat),T3 [Uy ns,.int (first:Int)]=.ok G.d/\OneT G b L/\Gb 54 G/\Z9n G b:=by
 have:=W3 (n:=13) (p:=2) (ds:=[Uy ns,.int (first:Int)]) (g:=V3) (R:=fun d=>∃ (G:G3) (b:Nat) (L:Nat->Nat),d=G.d/\OneT G b L/\Gb 54 G/\Z9n G b) rfl ?_
 ·obtain ⟨d,e,z,b,L,rfl,h⟩:=this
  exact ⟨z,b,L,e,h⟩
 show Go (V3 [.fz (Uy ns),.fz (.int (first:Int)),.un,.un,.un,.un,.un,.un,.un,.un,.un,.un,.un]) _ _;unfold V3;obtain ⟨c,ec,lc⟩:=Mf ns first (by lia);refine Z6 (Zg (Zq (xs:=[Uy ns,.int (first:Int)]) rfl ec) ?_);refine Z6 (Zg (Z5 (Z5 rfl rfl (Yv c 4 (by lia) (by lia))) rfl (Wq _ 20 (by lia))) ?_);have hb0:c / 4 % 20<20:=mod_lt _ (by lia);generalize c / 4 % 20=base at hb0;refine Z6 (Zg (Z5 (Z5 rfl rfl (Yv c 80 (by lia) (by lia))) rfl (Wq _ 32 (by lia))) ?_);generalize c / 80 % 32=code;refine Z6 (Zg (d:=.lst (([]:List St3).map St3.d)) rfl ?_);obtain ⟨z0,ez0⟩:=Gk (c / 2560) 0;refine Z6 (Qz (ds:=[(z0,true)].map M9) (Tv (Z4 (Y5 (Z4 (Zq (xs:=[.int ((c / 2560:Nat):Int),.int ((0:Nat):Int)]) (Z4 (Z5 rfl rfl (Yv c 2560 (by lia) (by lia))) rfl) ez0) rfl) (by simp)) rfl) (by simp)) ?_);obtain ⟨K,hK⟩:∃ K:Nat,1+c % 4=K:=⟨_,rfl⟩;have hK1:1<=K/\K<=4:=by lia
 obtain ⟨f,hf0⟩:∃ f:Nat,c / 40 % 2=f:=⟨_,rfl⟩;have hf1:f<=1:=by lia
 obtain ⟨C,hC⟩:∃ C:Nat,code % 2^(K+1)=C:=⟨_,rfl⟩;refine Z6 (Vb (ds:=rng 0 K) (fun i e=>∃ (ss:List St3) (ws:List (Str×Bool)) (v7 v8 v9 v10 v11:Slt),e=[.fz (Uy ns),.fz (.int (first:Int)),.fz (.int (c:Int)),.fz (.int (base:Int)),.fz (.int (code:Int)),.fz (.lst (ss.map St3.d)),.ow (ws.map M9),v7,v8,v9,v10,v11,.un]/\ws.length=i+1/\i<=ss.length/\ss.length<=4*i/\(∀ s∈ss,Ix K (LC C base f) s)/\Lv base ss i) (Ws (Z4 (Z5 rfl (Z5 rfl rfl (Wq c 4 (by lia))) (by rw [← hK];exact V5 1 _)) rfl) (by lia)) ⟨[],[(z0,true)],.un,.un,.un,.un,.un,rfl,rfl,le_refl _,le_refl _,by simp,⟨by simp,fun z=>by lia⟩⟩ ?_ ?_)
 ·rintro i d e hi ⟨ss,ws,v7,v8,v9,v10,v11,rfl,hwl,hs1,hs2,hgd,hlv⟩
  obtain ⟨hi1,rfl⟩:=Jr hi;rw [Int.zero_add];refine ⟨_,rfl,?_⟩;obtain ⟨r,er,_⟩:=Mf ns (first+1+i) (by lia);refine Z6 (Zg (Zq (xs:=[Uy ns,.int ((first+1+i:Nat):Int)]) (Z4 rfl (Z4 (Z5 (Z5 rfl rfl (V5 _ 1)) rfl (V5 _ _)) rfl)) er) ?_);refine Z6 (Zg (d:=.int ((1+i*f:Nat):Int)) (Z5 rfl (Z5 rfl (Z5 (Z5 rfl rfl (Yv c 40 (by lia) (by lia))) rfl (Wq _ 2 (by lia))) (by rw [hf0];exact Z7y i f (by lia))) (V5 1 _)) ?_);obtain ⟨x,hx⟩:∃ x:Nat,1+i*f=x:=⟨_,rfl⟩;have hxK:1<=x/\x<K+1:=by
   rcases (show f=0\/f=1 by lia) with rfl | rfl<;>lia
  rw [hx];refine Z6 (Zg (Z5 (Z5 (Z5 rfl rfl (Kd code x)) rfl (Mk code x)) rfl (Gg _)) ?_);refine Z6 (Zg (Z5 (Z5 rfl rfl (V5 base 1)) (Z5 rfl rfl (Ft 3 i (by lia))) (V5 _ _)) ?_);obtain ⟨sp,hsp⟩:∃ sp:Nat,base+1+3*i=sp:=⟨_,rfl⟩;have l0:=LC0 C base f;have l1:=LC1 C base f i;have l2:=LC2 C base f i;have l3:=LC3 C base f i;rw [hsp] at l1 l2 l3 ⊢;rw [hx] at l1 l2;generalize LC C base f=L at *;obtain ⟨z,ez⟩:=Gk (c / 2560) (i+1);obtain ⟨b,hb⟩:=Zap (j:=r % 3*(c / 20 % 2)) (by
   have h1:r % 3<3:=mod_lt _ (by lia);rcases (show c / 20 % 2=0\/c / 20 % 2=1 by lia) with h | h<;>rw [h]<;>lia)
  refine Z6 (T5 (ds:=ws.map M9) (as:=[M9 (z,b)]) (ds':=(ws++[(z,b)]).map M9) rfl (Z4 (Y5 (Z4 (Zq (xs:=[.int ((c / 2560:Nat):Int),.int ((i+1:Nat):Int)]) (Z4 (Z5 rfl rfl (Yv c 2560 (by lia) (by lia))) (Z4 (Z5 rfl rfl (V5 i 1)) rfl)) ez) (Z4 (Z5 (x:=.lst [.str "given",.str "given",.str "made"]) rfl (Z5 (Z5 rfl rfl (Wq r 3 (by lia))) (Z5 (Z5 rfl rfl (Yv c 20 (by lia) (by lia))) rfl (Wq _ 2 (by lia))) (Z7y _ _ (by lia))) hb) rfl)) (by simp)) rfl) (by rw [Vk (by rw [length_map];lia),map_append];rfl) ?_);have hCx:C.testBit x=code.testBit x:=by rw [← hC];exact Ae hxK.2
  have hC0:C.testBit 0=code.testBit 0:=by rw [← hC];exact Ae (by lia)
  have gA:Ix K L ⟨x,!code.testBit x,[base],[sp]⟩:=De (by lia) (by lia) (by lia) hxK.2 (by rw [l1,l0]) (by rw [l0,hCx];exact Z9i _);have hm:∀ (s1 s2:St3),Y8 (.lst (ss.map St3.d)) (.lst [s1.d,s2.d])=some (.lst ((ss++[s1,s2]).map St3.d)):=fun s1 s2=>by
   rw [Sd (by rw [length_map];show _+2<=_;lia),map_append];rfl
  have cl2:∀ s∈([⟨x,!code.testBit x,[base],[sp]⟩,⟨x,!!code.testBit x,[sp],[base]⟩]:List St3),s.fills=[base]\/∃ s'∈([⟨x,!code.testBit x,[base],[sp]⟩,⟨x,!!code.testBit x,[sp],[base]⟩]:List St3),s'.takes=s.fills:=by
   simp
  have cl4:∀ s∈([⟨x,!code.testBit x,[base],[sp]⟩,⟨0,!code.testBit 0,[sp],[sp+1]⟩,⟨x,!!code.testBit x,[sp+1],[sp+2]⟩,⟨0,code.testBit 0,[sp+2],[base]⟩]:List St3),s.fills=[base]\/∃ s'∈([⟨x,!code.testBit x,[base],[sp]⟩,⟨0,!code.testBit 0,[sp],[sp+1]⟩,⟨x,!!code.testBit x,[sp+1],[sp+2]⟩,⟨0,code.testBit 0,[sp+2],[base]⟩]:List St3),s'.takes=s.fills:=by
   simp
  refine Qe (Yo (Z5 (Z5 (Z5 rfl rfl (Yv r 3 (by lia) (by lia))) rfl (Wq _ 3 (by lia))) rfl (eqN _ 0))) (fun _=>?_) (fun _=>?_)
  ·have gB:Ix K L ⟨x,!!code.testBit x,[sp],[base]⟩:=De (by lia) (by lia) (by lia) hxK.2 (by rw [l1,l0,xx]) (by rw [l1,W9,hCx,decide_eq_true rfl];cases code.testBit x<;>simp)
   refine Zg (Z5 rfl (Ve (Tv (Z4 (stp rfl rfl rfl rfl) (Z4 (stp rfl rfl rfl rfl) rfl)) (by simp))) (hm _ _)) ⟨_,_,_,_,_,_,_,rfl,by rw [length_append,length_singleton];lia,by rw [length_append];show _<=_+2;lia,by rw [length_append];show _+2<=_;lia,fun s hs=>?_,hlv.app (cl2) ⟨_,mem_cons_self,rfl⟩⟩;rcases mem_append.mp hs with h | h
   ·exact hgd s h
   ·rcases mem_cons.mp h with rfl | h
    ·exact gA
    ·rw [mem_singleton.mp h];exact gB
  ·have gC:Ix K L ⟨0,!code.testBit 0,[sp],[sp+1]⟩:=De (by lia) (by lia) (by lia) (by lia) (by rw [l2,l1]) (by rw [l1,W9,hC0,decide_eq_false (by lia)];cases code.testBit 0<;>simp)
   have gD:Ix K L ⟨x,!!code.testBit x,[sp+1],[sp+2]⟩:=De (by lia) (by lia) (by lia) hxK.2 (by rw [l3,l2,xxy]) (by rw [l2,W9,W9,hCx,decide_eq_true rfl,decide_eq_false (by lia)];cases code.testBit x<;>simp);have gE:Ix K L ⟨0,code.testBit 0,[sp+2],[base]⟩:=De (by lia) (by lia) (by lia) (by lia) (by rw [l3,l0,xx]) (by rw [l3,W9,hC0,decide_eq_true rfl];cases code.testBit 0<;>simp);refine Z6 (Zg (Z5 rfl (Ve (Tv (Z4 (stp rfl rfl rfl rfl) (Z4 (stp (w:=0) rfl (Z5 (Z5 rfl rfl (Z1c code)) rfl (Gg _)) rfl (Z5 rfl rfl (V5 sp 1))) rfl)) (by simp))) (hm _ _)) ?_);have hm2:∀ (s1 s2 s3 s4:St3),Y8 (.lst ((ss++[s1,s2]).map St3.d)) (.lst [s3.d,s4.d])=some (.lst ((ss++[s1,s2,s3,s4]).map St3.d)):=fun s1 s2 s3 s4=>by
    rw [Sd (by rw [length_map,length_append];show _+2+2<=_;lia),map_append,map_append,List.append_assoc];rfl
   refine Zg (Z5 rfl (Ve (Tv (Z4 (stp rfl rfl (Z5 rfl rfl (V5 sp 1)) (Z5 rfl rfl (V5 sp 2))) (Z4 (stp (w:=0) rfl (Z5 (Z5 rfl rfl (Z1c code)) rfl (Js _)) (Z5 rfl rfl (V5 sp 2)) rfl) rfl)) (by simp))) (hm2 _ _ _ _)) ⟨_,_,_,_,_,_,_,rfl,by rw [length_append,length_singleton];lia,by rw [length_append];show _<=_+4;lia,by rw [length_append];show _+4<=_;lia,fun s hs=>?_,hlv.app cl4 ⟨_,mem_cons_self,rfl⟩⟩;rcases mem_append.mp hs with h | h
   ·exact hgd s h
   ·rcases mem_cons.mp h with rfl | h
    ·exact gA
    rcases mem_cons.mp h with rfl | h
    ·exact gC
    rcases mem_cons.mp h with rfl | h
    ·exact gD
    ·rw [mem_singleton.mp h];exact gE
 rintro e ⟨ss,ws,v7,v8,v9,v10,v11,rfl,hwl,hs1,hs2,hgd,hlv⟩;rw [Uz] at hwl hs1 hs2 hlv;refine Z6 (Zg (Z5 (Z5 rfl rfl (Yv c 7 (by lia) (by lia))) (Ys (Z4 rfl rfl) (Rh St3.d ss)) (Wq _ ss.length (by lia))) ?_);have ht:c / 7 % ss.length<ss.length:=mod_lt _ (by lia);generalize c / 7 % ss.length=t at ht;have hperm:(ss.drop t++ss.take t).Perm ss:=by
  have:=List.perm_append_comm (l₁:=ss.drop t) (l₂:=ss.take t);rw [take_append_drop] at this;exact this
 have hlen:=hperm.length_eq;refine Ym (Y5 (Z4 (Ys (Z4 rfl rfl) rfl) (Z4 (Ys (Z4 (x:=.lst ((ss.drop t++ss.take t).map St3.d)) (Z5 (Mr rfl (V0 rfl) rfl (D9 _ _ _)) (Mr rfl rfl (V0 rfl) (D9 _ _ _)) (by
  rw [M3,M3,Hs ss t (by lia),Oi ss t (by lia),Sd (by rw [length_map,length_map,length_drop,length_take];lia),map_append])) rfl) rfl) (Z4 (Z5 rfl rfl (Mm base (by lia))) (Z4 (Z5 rfl (Z5 rfl (Ys (Z4 rfl rfl) (Rh M9 ws)) (Mm ws.length (by lia))) (Wq _ _ (two_pow_pos _))) rfl)))) (by simp)) ⟨⟨ws,ss.drop t++ss.take t,2^base,code % 2^ws.length⟩,base,LC C base f,rfl,?_,?_,?_⟩
 ·exact { bl:=by lia,ma:=rfl,cd:=by show code % 2^ws.length=_;rw [LC0,hwl,hC],st:=fun s hs=>(hgd s (hperm.mem_iff.mp hs)).1 }
 ·exact { w2:=by show ws.length<=10;lia,s1:=by show 1<=(ss.drop t++ss.take t).length;lia,s2:=by show (ss.drop t++ss.take t).length<=24;lia,st:=fun s hs=>by show SB 54 ws.length s;rw [hwl];exact (hgd s (hperm.mem_iff.mp hs)).2,mks:=Nat.pow_lt_pow_right (by lia) (by lia) }
 ·obtain ⟨s0,m0,t0⟩:=hlv.ex (by lia)
  refine ⟨⟨s0,hperm.mem_iff.mpr m0,t0⟩,fun s hs=>?_⟩;rcases hlv.cl s (hperm.mem_iff.mp hs) with h | ⟨s',a,b⟩
  ·exact ⟨s0,hperm.mem_iff.mpr m0,by rw [t0,h]⟩
  ·exact ⟨s',hperm.mem_iff.mpr a,b⟩
theorem Jh (a b:List Nat):Zd a++Zd b=Zd (a++b):=by unfold Zd;rw [map_append,map_append]
structure LkS (G:G3) (z i:Nat) (s':St3):Prop where
 a:∃ s:St3,G.steps[i]?=some s/\∃ b:Bool,s'.w=s.w/\s'.up=s.up/\z∉s.takes/\z∉s.fills/\(∀ q,q∈s'.takes↔q∈s.takes\/(b=true/\q=z))/\(∀ q,q∈s'.fills↔q∈s.fills\/(b=true/\q=z))
 b:SB 64 G.wires.length s'
theorem Z36 {B:Nat} {l l':List Nat} {z:Nat} (hb:∀ p∈l,p<B) (hB:B<=64) (hz:z<64) (hn:l.Nodup) (hzl:z∉l) (e:l'.Perm (l++[z])):(∀ p∈l',p<64)/\l'.Nodup/\∀ q,q∈l'↔q∈l\/(true=true/\q=z):=by
 refine ⟨fun p hp=>?_,?_,fun q=>?_⟩
 ·rcases mem_append.mp (e.mem_iff.mp hp) with h | h
  ·have:=hb p h;lia
  ·rw [mem_singleton.mp h];exact hz
 ·refine e.nodup_iff.mpr (nodup_append.mpr ⟨hn,nodup_cons.mpr ⟨by simp,nodup_nil⟩,fun a ha b hb'=>?_⟩)
  rw [mem_singleton.mp hb'];rintro rfl;exact hzl ha
 ·rw [e.mem_iff];simp
theorem F8 (G:G3) (hG:Gb 54 G) (c:Nat):∃ (G':G3) (z:Nat),U9 [G.d,.int (c:Int)]=.ok G'.d/\LookI G G' z/\Gb 64 G':=by
 have:=W3 (n:=15) (p:=2) (ds:=[G.d,.int (c:Int)]) (g:=Wp) (R:=fun d=>∃ (G':G3) (z:Nat),d=G'.d/\LookI G G' z/\Gb 64 G') rfl ?_
 ·obtain ⟨d,e,z,b,rfl,h⟩:=this
  exact ⟨z,b,e,h⟩
 show Go (Wp [.fz G.d,.fz (.int (c:Int)),.un,.un,.un,.un,.un,.un,.un,.un,.un,.un,.un,.un,.un]) _ _;unfold Wp;refine Z6 (Z21 (d:=G.d) (env':=[.fz G.d,.fz (.int (c:Int)),.fz (.tup (G.wires.map M9)),.fz (.tup (G.steps.map St3.d)),.fz (.int (G.marks:Int)),.fz (.int (G.code:Int)),.un,.un,.un,.un,.un,.un,.un,.un,.un]) rfl rfl ?_);refine Z6 (Zg rfl ?_);refine Z6 (Vb (ds:=G.steps.map St3.d) (fun i e=>∃ (th:Nat) (v7 v8:Slt),e=[.fz G.d,.fz (.int (c:Int)),.fz (.tup (G.wires.map M9)),.fz (.tup (G.steps.map St3.d)),.fz (.int (G.marks:Int)),.fz (.int (G.code:Int)),.fz (.int (th:Int)),v7,v8,.un,.un,.un,.un,.un,.un]/\th<2^54/\(∀ j,G.marks.testBit j=true->th.testBit j=true)/\∀ s∈G.steps.take i,∀ j,j∈s.takes\/j∈s.fills->th.testBit j=true) (Qu rfl) ⟨G.marks,.un,.un,rfl,hG.mks,fun j h=>h,fun s hs=>by simp at hs⟩ ?_ ?_)
 ·rintro i d e hi ⟨th,v7,v8,rfl,h1,h2,h3⟩
  rw [getElem?_map] at hi;obtain ⟨s,hs,rfl⟩:=map_some hi;have hsb:=hG.st s (mem_of_getElem? hs);refine ⟨_,rfl,?_⟩;have hlt:s.takes.length<=54:=Nq hsb.tn hsb.t;have hlf:s.fills.length<=54:=Nq hsb.fn hsb.f;have hadd:O0 (.tup (Zd s.takes)) (.tup (Zd s.fills))=some (.tup (Zd (s.takes++s.fills))):=by
   rw [Lr (by unfold Zd;rw [length_map,length_map,length_map,length_map];lia),Jh]
  refine Vb (ds:=Zd (s.takes++s.fills)) (fun k e=>∃ (th':Nat) (v8:Slt),e=[.fz G.d,.fz (.int (c:Int)),.fz (.tup (G.wires.map M9)),.fz (.tup (G.steps.map St3.d)),.fz (.int (G.marks:Int)),.fz (.int (G.code:Int)),.fz (.int (th':Int)),.fz s.d,v8,.un,.un,.un,.un,.un,.un]/\th'<2^54/\(∀ j,th.testBit j=true->th'.testBit j=true)/\∀ j∈(s.takes++s.fills).take k,th'.testBit j=true) (Qu (Z5 (Z5 rfl rfl rfl) (Z5 rfl rfl rfl) hadd)) ⟨th,_,rfl,h1,fun j h=>h,fun j hj=>by simp at hj⟩ ?_ ?_
  ·rintro k d e hk ⟨th',v8,rfl,g1,g2,g3⟩
   obtain ⟨p,hp,rfl⟩:=J8 hk;have hp54:p<54:=by
    rcases mem_append.mp (mem_of_getElem? hp) with h | h
    ·exact hsb.t p h
    ·exact hsb.f p h
   refine ⟨_,rfl,?_⟩;refine Zg (Z5 rfl (Z5 rfl rfl (Mm p (by lia))) (orN th' _)) ⟨_,_,rfl,Z2i g1 (Nat.pow_lt_pow_right (by lia) hp54),fun j h=>by rw [testBit_or,g2 j h];rfl,fun j hj=>?_⟩;rw [take_succ,hp] at hj;rcases mem_append.mp hj with h | h
   ·rw [testBit_or,g3 j h];rfl
   ·have:j=p:=mem_singleton.mp h
    rw [this,testBit_or,testBit_two_pow,decide_eq_true rfl,Bool.or_true]
  ·rintro e ⟨th',v8,rfl,g1,g2,g3⟩
   have hl:(Zd (s.takes++s.fills)).length=(s.takes++s.fills).length:=by unfold Zd;rw [length_map,length_map]
   rw [hl,take_of_length_le (le_refl _)] at g3;refine ⟨th',_,_,rfl,g1,fun j h=>g2 j (h2 j h),fun r hr j hj=>?_⟩;rw [take_succ,hs] at hr;rcases mem_append.mp hr with h | h
   ·exact g2 j (h3 r h j hj)
   ·have:r=s:=mem_singleton.mp h
    subst this;exact g3 j (mem_append.mpr hj)
 rintro e ⟨th,v7,v8,rfl,h1,h2,h3⟩;rw [length_map,take_of_length_le (le_refl _)] at h3;have hc:=Q9 (g:=Yj 0) (t:=dB (dO Jj (dO Tf (dO J6 (dV 1) (dV 0)) (dC (.int 1))) (dC (.int 0)))) (f:=dV 0) (env:=[.un,.fz (.int (th:Int))]) (fun k:Nat=>Dat.int (k:Int)) (fun k:Nat=>Dat.int (k:Int)) (fun p=>!th.testBit p) (List.range 64) fun p _=>⟨[.fz (.int (p:Int)),.fz (.int (th:Int))],rfl,Yo (Z5 (Z5 (Z5 rfl rfl (Kd th p)) rfl (Mk th p)) rfl (Gg _)),rfl⟩
 rw [← G8] at hc;have hfl:3<=((List.range 64).filter fun p=>!th.testBit p).length:=by
  refine D3 [54,55,56] _ (by decide) fun p hp=>mem_filter.mpr ⟨mem_range.mpr ?_,?_⟩
  ·have:p=54\/p=55\/p=56:=by simpa using hp
   lia
  ·have:p=54\/p=55\/p=56:=by simpa using hp
   rw [Nat.testBit_lt_two_pow (lt_of_lt_of_le h1 (pow_le_pow_right (by lia) (by lia)))];rfl
 have hc3:c % 3<((List.range 64).filter fun p=>!th.testBit p).length:=by lia
 have hz:=getElem_mem hc3;have ez:((List.range 64).filter fun p=>!th.testBit p)[c % 3]?=some _:=getElem?_eq_getElem hc3;generalize ((List.range 64).filter fun p=>!th.testBit p)[c % 3]=z at hz ez;obtain ⟨hz1,hz2⟩:=mem_filter.mp hz;have hz64:z<64:=mem_range.mp hz1;have hzt:th.testBit z=false:=by simpa using hz2
 have hz3:∀ s∈G.steps,z∉s.takes/\z∉s.fills:=fun s hs=>⟨fun h=>absurd (h3 s hs z (.inl h)) (by rw [hzt];decide),fun h=>absurd (h3 s hs z (.inr h)) (by rw [hzt];decide)⟩
 have hzm:G.marks.testBit z=false:=by
  cases h:G.marks.testBit z with
  | false=>rfl
  | true=>rw [h2 z h] at hzt;cases hzt
 refine Z6 (Zg (d:=.int (z:Int)) (Z5 (Ve (Vr (xs:=rng 0 64) (Ws (Z4 rfl rfl) (by lia)) rfl hc)) (Z5 rfl rfl (Wq c 3 (by lia))) (Jx (by rw [getElem?_map,ez];rfl))) ?_);refine Z6 (Qz (ds:=([]:List St3).map St3.d) rfl ?_);refine Z6 (Vb (ds:=Rn 0 (G.steps.map St3.d)) (fun i e=>∃ (ss:List St3) (v7 v10 v11 v12 v13 v14:Slt),e=[.fz G.d,.fz (.int (c:Int)),.fz (.tup (G.wires.map M9)),.fz (.tup (G.steps.map St3.d)),.fz (.int (G.marks:Int)),.fz (.int (G.code:Int)),.fz (.int (th:Int)),v7,.fz (.int (z:Int)),.ow (ss.map St3.d),v10,v11,v12,v13,v14]/\ss.length=i/\∀ (j:Nat) (s:St3),ss[j]?=some s->LkS G z j s) (by unfold Lp;rw [Qu rfl];rfl) ⟨[],v7,.un,.un,.un,.un,.un,rfl,rfl,fun j s h=>by simp at h⟩ ?_ ?_)
 ·rintro i d e hi ⟨ss,v7,v10,v11,v12,v13,v14,rfl,hsl,hlk⟩
  obtain ⟨x,hx,rfl⟩:=Rf hi;rw [getElem?_map] at hx;obtain ⟨s,hs,rfl⟩:=map_some hx;have hmem:=mem_of_getElem? hs;have hsb:=hG.st s hmem;have hil:=(List.getElem?_eq_some_iff.mp hs).1;have hs24:=hG.s2;obtain ⟨n1,n2⟩:=hz3 s hmem;have hlt:s.takes.length<=54:=Nq hsb.tn hsb.t;have hlf:s.fills.length<=54:=Nq hsb.fn hsb.f;refine ⟨[.fz G.d,.fz (.int (c:Int)),.fz (.tup (G.wires.map M9)),.fz (.tup (G.steps.map St3.d)),.fz (.int (G.marks:Int)),.fz (.int (G.code:Int)),.fz (.int (th:Int)),v7,.fz (.int (z:Int)),.ow (ss.map St3.d),.fz (.int (i:Int)),.fz (.int (s.w:Int)),.fz (.bl s.up),.fz (.tup (Zd s.takes)),.fz (.tup (Zd s.fills))],rfl,?_⟩;have fin:∀ (t f:List Nat),LkS G z i ⟨s.w,s.up,t,f⟩->Go (Qd 9 Wj (Z2 (Yi (Z2 (dV 11) (Z2 (dV 12) (Z2 (dV 13) (Z2 (dV 14) Zc))))) Zc) [.fz G.d,.fz (.int (c:Int)),.fz (.tup (G.wires.map M9)),.fz (.tup (G.steps.map St3.d)),.fz (.int (G.marks:Int)),.fz (.int (G.code:Int)),.fz (.int (th:Int)),v7,.fz (.int (z:Int)),.ow (ss.map St3.d),.fz (.int (i:Int)),.fz (.int (s.w:Int)),.fz (.bl s.up),.fz (.tup (Zd t)),.fz (.tup (Zd f))]) (fun e=>∃ (ss:List St3) (v7 v10 v11 v12 v13 v14:Slt),e=[.fz G.d,.fz (.int (c:Int)),.fz (.tup (G.wires.map M9)),.fz (.tup (G.steps.map St3.d)),.fz (.int (G.marks:Int)),.fz (.int (G.code:Int)),.fz (.int (th:Int)),v7,.fz (.int (z:Int)),.ow (ss.map St3.d),v10,v11,v12,v13,v14]/\ss.length=i+1/\∀ (j:Nat) (s:St3),ss[j]?=some s->LkS G z j s) (fun d=>∃ (G':G3) (z:Nat),d=G'.d/\LookI G G' z/\Gb 64 G'):=fun t f hl=>by
   refine T5 (ds:=ss.map St3.d) (as:=[(⟨s.w,s.up,t,f⟩:St3).d]) (ds':=(ss++[(⟨s.w,s.up,t,f⟩:St3)]).map St3.d) rfl (Z4 (Y5 rfl (by simp)) rfl) (by rw [Vk (by rw [length_map];lia),map_append];rfl) ⟨_,_,_,_,_,_,_,rfl,by rw [length_append,length_singleton,hsl],fun j r hr=>?_⟩;rcases lt_or_ge j ss.length with h | h
   ·rw [getElem?_append_left h] at hr
    exact hlk j r hr
   ·rw [getElem?_append_right h] at hr
    have e0:j - ss.length=0:=by
     rcases eq_zero_or_pos (j - ss.length) with z | z
     ·exact z
     ·rw [getElem?_cons,if_neg (by lia)] at hr;cases hr
    rw [e0] at hr;cases hr;have ej:j=i:=by lia
    rw [ej];exact hl
  refine Z6 (Qe (Yo (Z5 (Z5 (Z5 (Z5 rfl rfl (Yv c 3 (by lia) (by lia))) rfl (Kd _ i)) rfl (Mk _ i)) rfl (Js _))) (fun _=>?_) (fun _=>Wa ?_))
  ·obtain ⟨t,et,pt⟩:=Ep (s.takes++[z]) (by rw [length_append,length_singleton];lia)
   obtain ⟨f,ef,pf⟩:=Ep (s.fills++[z]) (by rw [length_append,length_singleton];lia);have a1:O0 (.tup (Zd s.takes)) (.tup [.int (z:Int)])=some (.tup (Zd (s.takes++[z]))):=by
    rw [Lr (by unfold Zd;rw [length_map,length_map];show _+1<=_;lia),← Jh];rfl
   have a2:O0 (.tup (Zd s.fills)) (.tup [.int (z:Int)])=some (.tup (Zd (s.fills++[z]))):=by
    rw [Lr (by unfold Zd;rw [length_map,length_map];show _+1<=_;lia),← Jh];rfl
   refine Z6 (Zg (d:=.tup (Zd t)) (Ys (Z4 (Ve (Ys (Z4 (Z5 rfl (Y5 (Z4 rfl rfl) (by simp)) a1) rfl) et)) rfl) rfl) ?_);refine Zg (d:=.tup (Zd f)) (Ys (Z4 (Ve (Ys (Z4 (Z5 rfl (Y5 (Z4 rfl rfl) (by simp)) a2) rfl) ef)) rfl) rfl) ?_;obtain ⟨t1,t2,t3⟩:=Z36 hsb.t (by lia) hz64 hsb.tn n1 pt;obtain ⟨f1,f2,f3⟩:=Z36 hsb.f (by lia) hz64 hsb.fn n2 pf;exact fin t f ⟨⟨s,hs,true,rfl,rfl,n1,n2,t3,f3⟩,⟨hsb.w,t1,f1,t2,f2⟩⟩
  ·exact fin s.takes s.fills ⟨⟨s,hs,false,rfl,rfl,n1,n2,fun q=>by simp,fun q=>by simp⟩,⟨hsb.w,fun p hp=>by have:=hsb.t p hp;lia,fun p hp=>by have:=hsb.f p hp;lia,hsb.tn,hsb.fn⟩⟩
 rintro e ⟨ss,v7,v10,v11,v12,v13,v14,rfl,hsl,hlk⟩;rw [Tc,length_map] at hsl;have:=hG.s1;have:=hG.s2;have:=hG.w2;refine Ym (Y5 (Z4 rfl (Z4 (Ys (Z4 rfl rfl) rfl) (Z4 (Z5 rfl (Z5 rfl rfl (Mm z (by lia))) (orN G.marks _)) rfl))) (by simp)) ⟨⟨G.wires,ss,G.marks ||| 2^z,G.code⟩,z,rfl,?_,?_⟩
 ·exact { ws:=rfl,len:=hsl,ma:=rfl,mz:=hzm,cd:=rfl,st:=fun i s hs=>(hlk i s hs).a }
 ·exact { w2:=hG.w2,s1:=by show 1<=ss.length;lia,s2:=by show ss.length<=24;lia,st:=fun s hs=>by obtain ⟨i,hi⟩:=getElem?_of_mem hs;exact (hlk i s hi).b,mks:=Z2i (lt_of_lt_of_le hG.mks (pow_le_pow_right (by lia) (by lia))) (Nat.pow_lt_pow_right (by lia) hz64) }
theorem Hk (G:G3) (k:Nat) (s:St3) (h:G.steps[k]?=some s):Uk [G.d,.int (k:Int)]=.ok (.tup (Zd s.takes)):=by
 refine Qf (W3 (n:=2) (p:=2) (ds:=[G.d,.int (k:Int)]) (g:=Uj) (R:=fun d=>d=.tup (Zd s.takes)) rfl ?_);show Go (Uj [.fz G.d,.fz (.int (k:Int))]) _ _;unfold Uj;exact Ym (Z5 (Z5 (Z5 rfl rfl rfl) rfl (Dd (x:=s.d) (by rw [getElem?_map,h];rfl))) rfl rfl) rfl
theorem So (ps:List Nat) (hp:∀ p∈ps,p<=1000):S9 [.tup (Zd ps)]=.ok (.int (bitsN ps:Int)):=by
 refine Qf (W3 (n:=3) (p:=1) (ds:=[.tup (Zd ps)]) (g:=Ds) (R:=fun d=>d=.int (bitsN ps:Int)) rfl ?_);show Go (Ds [.fz (.tup (Zd ps)),.un,.un]) _ _;unfold Ds;refine Z6 (Zg (d:=.int 0) rfl ?_);refine Z6 (Vb (ds:=Zd ps) (fun i e=>∃ (z:Int) (v:Slt),e=[.fz (.tup (Zd ps)),.fz (.int z),v]/\z=(((ps.take i).foldl (fun a p=>a ||| 2^p) 0:Nat):Int)) rfl ⟨0,.un,rfl,rfl⟩ ?_ ?_)
 ·rintro i x e hi ⟨z,v,rfl,rfl⟩
  obtain ⟨p,hq,rfl⟩:=J8 hi;have hpp:=hp p (mem_of_getElem? hq);refine ⟨_,rfl,?_⟩;refine Zg (d:=.int ((((ps.take (i+1)).foldl (fun a p=>a ||| 2^p) 0:Nat)):Int)) (Z5 rfl (Z5 rfl rfl (Mm p hpp)) ?_) ⟨_,_,rfl,rfl⟩;rw [orN,take_succ,hq,List.foldl_append];rfl
 ·rintro e ⟨z,v,rfl,rfl⟩
  refine Ym rfl ?_;rw [length_map,length_map,take_of_length_le (le_refl _)];rfl
theorem Am (G:G3) (k:Nat) (s:St3) (h:G.steps[k]?=some s):R3 [G.d,.int (k:Int)]=.ok (.int (s.w:Int)):=by
 refine Qf (W3 (n:=2) (p:=2) (ds:=[G.d,.int (k:Int)]) (g:=Q4) (R:=fun d=>d=.int (s.w:Int)) rfl ?_);show Go (Q4 [.fz G.d,.fz (.int (k:Int))]) _ _;unfold Q4;exact Ym (Z5 (Z5 (Z5 rfl rfl rfl) rfl (Dd (x:=s.d) (by rw [getElem?_map,h];rfl))) rfl rfl) rfl
theorem B4 (G:G3) (k:Nat) (s:St3) (h:G.steps[k]?=some s):Rg [G.d,.int (k:Int)]=.ok (.bl s.up):=by
 refine Qf (W3 (n:=2) (p:=2) (ds:=[G.d,.int (k:Int)]) (g:=Q2) (R:=fun d=>d=.bl s.up) rfl ?_);show Go (Q2 [.fz G.d,.fz (.int (k:Int))]) _ _;unfold Q2;exact Ym (Z5 (Z5 (Z5 rfl rfl rfl) rfl (Dd (x:=s.d) (by rw [getElem?_map,h];rfl))) rfl rfl) rfl
theorem Pr (G:G3) (k:Nat) (s:St3) (h:G.steps[k]?=some s):Jz [G.d,.int (k:Int)]=.ok (.tup (Zd s.fills)):=by
 refine Qf (W3 (n:=2) (p:=2) (ds:=[G.d,.int (k:Int)]) (g:=Ui) (R:=fun d=>d=.tup (Zd s.fills)) rfl ?_);show Go (Ui [.fz G.d,.fz (.int (k:Int))]) _ _;unfold Ui;exact Ym (Z5 (Z5 (Z5 rfl rfl rfl) rfl (Dd (x:=s.d) (by rw [getElem?_map,h];rfl))) rfl rfl) rfl
theorem Z0l (n p:Nat):R4 [.int (n:Int),.int (p:Int)]=.ok (.bl (n.testBit p)):=by
 refine Qf (W3 (n:=2) (p:=2) (ds:=[.int (n:Int),.int (p:Int)]) (g:=Q3) (R:=fun d=>d=.bl (n.testBit p)) rfl ?_);show Go (Q3 [.fz (.int (n:Int)),.fz (.int (p:Int))]) _ _;unfold Q3;exact Ym (Z5 (Z5 (Z5 rfl rfl (Kd n p)) rfl (Mk n p)) rfl (Js _)) rfl
theorem ne0 (a:Nat):Ax (.int (a:Int)) (.int 0)=some (.bl (!(a==0))):=by
 rw [Zar];congr 3
 rw [Bool.eq_iff_iff,beq_iff_eq,beq_iff_eq];lia
theorem Xo (s:St3) (m:Nat):Ul [s.d,.int (m:Int)]=.ok (.bl (Vp s m)):=by
 refine Qf (W3 (n:=2) (p:=2) (ds:=[s.d,.int (m:Int)]) (g:=Um) (R:=fun d=>d=.bl (Vp s m)) rfl ?_);show Go (Um [.fz s.d,.fz (.int (m:Int))]) _ _;unfold Um;have hc:Vc (Yj 0) M6 (dO Jj (dO Tf (dO J6 (dV 1) (dV 0)) (dC (.int 1))) (dC (.int 1))) [.un,.fz (.int (m:Int))] (Zd s.takes)=some ((s.takes.map fun p=>m.testBit p).map Dat.bl):=by
  rw [Rb,Dt (fun p:Nat=>Dat.int (p:Int)) (fun p:Nat=>.bl (m.testBit p)) s.takes fun p _=>⟨[.fz (.int (p:Int)),.fz (.int (m:Int))],rfl,rfl,Z5 (Z5 (Z5 rfl rfl (Kd m p)) rfl (Mk m p)) rfl (Js _)⟩,map_map];rfl
 refine Ym (Ys (Z4 (Ve (Vr (xs:=Zd s.takes) (env':=[.un,.fz (.int (m:Int))]) (Qu (Z5 rfl rfl rfl)) rfl hc)) rfl) (Z5r _)) ?_;congr 1
 rw [Bool.eq_iff_iff,W7,all_eq_true];constructor
 ·intro h p hp
  exact h _ (List.mem_map_of_mem hp)
 ·intro h b hb
  obtain ⟨p,hp,rfl⟩:=mem_map.mp hb;exact h p hp
inductive Dn where
 | broken | crowded | at (m c:Nat)
def Dn.d:Dn->Dat
 | .broken=>.str "broken"
 | .crowded=>.str "crowded"
 | .at m c=>.tup [.int (m:Int),.int (c:Int)]
structure DnOk (s:St3) (m c:Nat) (r:Dn):Prop where
 b:r=.broken↔c.testBit s.w=s.up
 k:c.testBit s.w≠s.up->(r=.crowded↔∃ p∈s.fills,m.testBit p=true/\p∉s.takes)
 a:∀ m' c',r=.at m' c'->(∀ j,m'.testBit j=((m.testBit j&&!decide (j∈s.takes))||decide (j∈s.fills)))/\∀ j,c'.testBit j=if j=s.w then s.up else c.testBit j
theorem Gq {a p:Nat} (hp:p<=1000) (h:a.testBit p=true):∃ c:Nat,Ke (.int (a:Int)) (.int ((2^p:Nat):Int))=some (.int (c:Int))/\∀ j,c.testBit j=(a.testBit j&&decide (j≠p)):=by
 obtain ⟨c,e,ht⟩:=Bv h;exact ⟨c,by show some (Dat.int _)=_;rw [e],ht⟩
theorem Hq {a p:Nat} (h:a.testBit p=false):Y8 (.int (a:Int)) (.int ((2^p:Nat):Int))=some (.int ((a ||| 2^p:Nat):Int)):=by
 rw [V5,L0 h]
theorem Av {wires:Nat} (s:St3) (hs:SB 64 wires s) (hw:wires<=10) (m c:Nat) (ht:∀ p∈s.takes,m.testBit p=true):∃ r:Dn,U2 [s.d,.tup [.int (m:Int),.int (c:Int)]]=.ok r.d/\DnOk s m c r:=by
 have:=W3 (n:=5) (p:=2) (ds:=[s.d,.tup [.int (m:Int),.int (c:Int)]]) (g:=Vw) (R:=fun d=>∃ r:Dn,d=r.d/\DnOk s m c r) rfl ?_
 ·obtain ⟨d,e,z,rfl,h⟩:=this
  exact ⟨z,e,h⟩
 show Go (Vw [.fz s.d,.fz (.tup [.int (m:Int),.int (c:Int)]),.un,.un,.un]) _ _;unfold Vw;have hw1:=hs.w;refine Z6 (Z21 (d:=.tup [.int (m:Int),.int (c:Int)]) (env':=[.fz s.d,.fz (.tup [.int (m:Int),.int (c:Int)]),.fz (.int (m:Int)),.fz (.int (c:Int)),.un]) rfl rfl ?_);refine Z6 (Qe (b:=c.testBit s.w==s.up) (Yo (Z5 (Z5 (Z5 (Z5 rfl (Z5 rfl rfl rfl) (Kd c s.w)) rfl (Mk c s.w)) rfl (Js _)) (Z5 rfl rfl rfl) (Z7d _ _))) (fun hb=>?_) (fun hb=>Wa ?_))
 ·have hb':c.testBit s.w=s.up:=by simpa using hb
  exact Ym rfl ⟨.broken,rfl,⟨⟨fun _=>hb',fun _=>rfl⟩,fun h=>absurd hb' h,(fun _ _ h=>nomatch h)⟩⟩
 have hnb:c.testBit s.w≠s.up:=by simpa using hb
 refine Z6 (Vb (ds:=Zd s.takes) (fun i e=>∃ (q:Nat) (v:Slt),e=[.fz s.d,.fz (.tup [.int (m:Int),.int (c:Int)]),.fz (.int (q:Int)),.fz (.int (c:Int)),v]/\∀ j,q.testBit j=(m.testBit j&&!decide (j∈s.takes.take i))) (Qu (Z5 rfl rfl rfl)) ⟨m,.un,rfl,by simp⟩ ?_ ?_)
 ·rintro i x e hi ⟨q,v,rfl,hq⟩
  obtain ⟨p,hp,rfl⟩:=J8 hi;have hpm:=mem_of_getElem? hp;have hil:i<s.takes.length:=(List.getElem?_eq_some_iff.mp hp).1;have hpn:p∉s.takes.take i:=Ii hs.tn hp;have htk:s.takes.take (i+1)=s.takes.take i++[p]:=by rw [take_succ,hp];rfl
  have hb1:q.testBit p=true:=by rw [hq,ht p hpm];simp [hpn]
  have hlt:=hs.t p hpm;obtain ⟨r,er,hr⟩:=Gq (p:=p) (by lia) hb1;refine ⟨_,rfl,?_⟩;refine Zg (Z5 rfl (Z5 rfl rfl (Mm p (by lia))) er) ⟨r,_,rfl,fun j=>?_⟩;rw [hr,hq,htk];by_cases e1:j=p
  ·subst e1;simp
  ·by_cases e2:j∈s.takes.take i<;>simp [e1,e2]
 rintro e ⟨q,v,rfl,hq⟩;rw [length_map,length_map,take_of_length_le (le_refl _)] at hq;have hc:Vc (Yj 0) M6 (dO Jj (dO Tf (dO J6 (dV 1) (dV 0)) (dC (.int 1))) (dC (.int 1))) [.un,.fz (.int (q:Int))] (Zd s.fills)=some ((s.fills.map fun p=>q.testBit p).map Dat.bl):=by
  rw [Rb,Dt (fun p:Nat=>Dat.int (p:Int)) (fun p:Nat=>.bl (q.testBit p)) s.fills fun p _=>⟨[.fz (.int (p:Int)),.fz (.int (q:Int))],rfl,rfl,Z5 (Z5 (Z5 rfl rfl (Kd q p)) rfl (Mk q p)) rfl (Js _)⟩,map_map];rfl
 refine Z6 (Qe (Ek (Ys (Z4 (Ve (Vr (xs:=Zd s.fills) (env':=[.un,.fz (.int (q:Int))]) (Qu (Z5 rfl rfl rfl)) rfl hc)) rfl) (Z5v _))) (fun hb=>?_) (fun hb=>Wa ?_))
 ·rw [any_map,List.any_eq_true] at hb
  obtain ⟨p,hp,hpq⟩:=hb;have hpq':q.testBit p=true:=hpq;rw [hq,Bool.and_eq_true] at hpq';refine Ym rfl ⟨.crowded,rfl,⟨⟨(fun h=>nomatch h),fun h=>absurd h hnb⟩,fun _=>⟨fun _=>⟨p,hp,hpq'.1,by simpa using hpq'.2⟩,fun _=>rfl⟩,(fun _ _ h=>nomatch h)⟩⟩
 have hnc:∀ p∈s.fills,q.testBit p=false:=fun p hp=>by
  cases h:q.testBit p with
  | false=>rfl
  | true =>
   have:(List.map (fun p=>q.testBit p) s.fills).any id=true:=by rw [any_map,List.any_eq_true];exact ⟨p,hp,h⟩
   rw [this] at hb;cases hb
 refine Z6 (Vb (ds:=Zd s.fills) (fun i e=>∃ (r:Nat) (v:Slt),e=[.fz s.d,.fz (.tup [.int (m:Int),.int (c:Int)]),.fz (.int (r:Int)),.fz (.int (c:Int)),v]/\∀ j,r.testBit j=(q.testBit j||decide (j∈s.fills.take i))) (Qu (Z5 rfl rfl rfl)) ⟨q,_,rfl,by simp⟩ ?_ ?_)
 ·rintro i x e hi ⟨r,v,rfl,hr⟩
  obtain ⟨p,hp,rfl⟩:=J8 hi;have hpm:=mem_of_getElem? hp;have hil:i<s.fills.length:=(List.getElem?_eq_some_iff.mp hp).1;have hpn:p∉s.fills.take i:=Ii hs.fn hp;have htk:s.fills.take (i+1)=s.fills.take i++[p]:=by rw [take_succ,hp];rfl
  have hb1:r.testBit p=false:=by rw [hr,hnc p hpm];simp [hpn]
  have hlt:=hs.f p hpm;refine ⟨_,rfl,?_⟩;refine Zg (Z5 rfl (Z5 rfl rfl (Mm p (by lia))) (Hq hb1)) ⟨_,_,rfl,fun j=>?_⟩;rw [testBit_or,hr,htk,testBit_two_pow];by_cases e1:j=p
  ·subst e1;simp
  ·have e3:¬ p=j:=fun h=>e1 h.symm
   by_cases e2:j∈s.fills.take i<;>simp [e1,e2,e3]
 rintro e ⟨r,v',rfl,hr⟩;rw [length_map,length_map,take_of_length_le (le_refl _)] at hr;have hfin:∀ j,r.testBit j=((m.testBit j&&!decide (j∈s.takes))||decide (j∈s.fills)):=fun j=>by rw [hr,hq]
 have hnk:¬ ∃ p∈s.fills,m.testBit p=true/\p∉s.takes:=by
  rintro ⟨p,hp,h1,h2⟩;have:=hnc p hp;rw [hq,h1] at this;simp [h2] at this
 refine Z6 (Qe (Ek (b:=s.up) (Z5 rfl rfl rfl)) (fun hu=>?_) (fun hu=>Wa ?_))
 ·have hf:c.testBit s.w=false:=by cases h:c.testBit s.w with | false=>rfl | true=>exact absurd (h.trans hu.symm) hnb
  refine Ym (Y5 (Z4 rfl (Z4 (Z5 rfl (Z5 rfl (Z5 rfl rfl rfl) (Mm s.w (by lia))) (Hq hf)) rfl)) (by simp)) ⟨.at r (c ||| 2^s.w),rfl,⟨⟨(fun h=>nomatch h),fun h=>absurd h hnb⟩,fun _=>⟨(fun h=>nomatch h),fun h=>absurd h hnk⟩,fun m' c' h=>?_⟩⟩;cases h;refine ⟨hfin,fun j=>?_⟩;rw [testBit_or,testBit_two_pow,hu];by_cases e1:j=s.w
  ·subst e1;simp
  ·have e3:¬ s.w=j:=fun h=>e1 h.symm
   simp [e1,e3]
 ·have hf:c.testBit s.w=true:=by cases h:c.testBit s.w with | true=>rfl | false=>exact absurd (h.trans hu.symm) hnb
  obtain ⟨c2,e2,hc2⟩:=Gq (p:=s.w) (by lia) hf;refine Ym (Y5 (Z4 rfl (Z4 (Z5 rfl (Z5 rfl (Z5 rfl rfl rfl) (Mm s.w (by lia))) e2) rfl)) (by simp)) ⟨.at r c2,rfl,⟨⟨(fun h=>nomatch h),fun h=>absurd h hnb⟩,fun _=>⟨(fun h=>nomatch h),fun h=>absurd h hnk⟩,fun m' c' h=>?_⟩⟩;cases h;refine ⟨hfin,fun j=>?_⟩;rw [hc2,hu];by_cases e1:j=s.w
  ·subst e1;simp
  ·simp [e1]
theorem Z2k (G:G3) (hG:Gb 64 G) (m:Nat) (cd:Dat) (k:Nat) (s:St3) (h:G.steps[k]?=some s):Hg [G.d,.tup [.int (m:Int),cd],.int (k:Int)]=.ok (.bl (Vp s m)):=by
 refine Qf (W3 (n:=4) (p:=3) (ds:=[G.d,.tup [.int (m:Int),cd],.int (k:Int)]) (g:=Ks) (R:=fun d=>d=.bl (Vp s m)) rfl ?_);show Go (Ks [.fz G.d,.fz (.tup [.int (m:Int),cd]),.fz (.int (k:Int)),.un]) _ _;unfold Ks;have hs:=hG.st s (mem_of_getElem? h);refine Z6 (Zg (Zq (xs:=[.tup (Zd s.takes)]) (Z4 (Zq (xs:=[G.d,.int (k:Int)]) rfl (Hk G k s h)) rfl) (So s.takes fun p hp=>by have:=hs.t p hp;lia)) ?_);exact Ym (Z5 (Z5 (Z5 rfl rfl rfl) rfl (Z8x m _)) rfl (eqN _ _)) rfl
structure Fine (s:St3) (p:Nat×Nat):Prop where
 can:Vp s p.1=true
 lev:p.2.testBit s.w≠s.up
 room:∀ q∈s.fills,p.1.testBit q=true->q∈s.takes
theorem La (G:G3) (hG:Gb 64 G) (p:Nat×Nat) (k:Nat) (s:St3) (h:G.steps[k]?=some s) (hf:Fine s p):Q5 [G.d,Zl p,.int (k:Int)]=.ok (Zl (W1 s p)):=by
 have hs:=hG.st s (mem_of_getElem? h);have hw2:=hG.w2;have hw1:=hs.w;refine Qf (W3 (n:=6) (p:=3) (ds:=[G.d,Zl p,.int (k:Int)]) (g:=U6) (R:=fun d=>d=Zl (W1 s p)) rfl ?_);show Go (U6 [.fz G.d,.fz (Zl p),.fz (.int (k:Int)),.un,.un,.un]) _ _;unfold U6;refine Z6 (Zg (Zq (xs:=[G.d,.int (k:Int)]) rfl (Am G k s h)) ?_);refine Z6 (Jn (Yo (Z5 (Zq (xs:=[.int (p.2:Int),.int (s.w:Int)]) (Z4 (Z5 rfl rfl rfl) rfl) (Z0l p.2 s.w)) (Zq (xs:=[G.d,.int (k:Int)]) rfl (B4 G k s h)) (by rw [Z7d,show (p.2.testBit s.w==s.up)=false by simpa using hf.lev]))) (Wa ?_));obtain ⟨lf,ek,hlf⟩:=I0 p.1 (bitsN s.takes);refine Z6 (Zg (d:=.int (lf:Int)) (Z5 (Z5 rfl rfl rfl) (Z6e (Zq (xs:=[.tup (Zd s.takes)]) (Z4 (Zq (xs:=[G.d,.int (k:Int)]) rfl (Hk G k s h)) rfl) (So s.takes fun p hp=>by have:=hs.t p hp;lia)) (z:=.int (-(bitsN s.takes:Int) - 1)) rfl) (by show some (Dat.int (Builtin.bitAnd _ _))=_;rw [ek])) ?_);refine Z6 (Zg (d:=.int (bitsN s.fills:Int)) (Zq (xs:=[.tup (Zd s.fills)]) (Z4 (Zq (xs:=[G.d,.int (k:Int)]) rfl (Pr G k s h)) rfl) (So s.fills fun p hp=>by have:=hs.f p hp;lia)) ?_);have hz:lf &&& bitsN s.fills=0:=eq_of_testBit_eq fun j=>by
  rw [testBit_and,hlf,Ua,Ua,Nat.zero_testBit];by_cases h1:j∈s.fills
  ·by_cases h2:p.1.testBit j=true
   ·rw [decide_eq_true (hf.room j h1 h2)];simp
   ·have:p.1.testBit j=false:=by simpa using h2
    rw [this];rfl
  ·rw [decide_eq_false h1,Bool.and_false]
 refine Z6 (Jn (Yo (Z5 (Z5 rfl rfl (Z8x lf _)) rfl (by rw [hz];exact ne0 0))) (Wa ?_));have em:lf ||| bitsN s.fills=(W1 s p).1:=eq_of_testBit_eq fun j=>by rw [testBit_or,hlf,Ua,Ua,M8]
 refine Ym (Y5 (xs:=[.int ((W1 s p).1:Int),.int ((W1 s p).2:Int)]) (Z4 (Z5 rfl rfl (by rw [orN,em])) (Z4 (Z5 (Z5 rfl rfl rfl) (Z5 rfl rfl (Mm s.w (by lia))) (Zbs p.2 _)) rfl)) (by simp)) rfl
theorem Fo (r:Rw):Kh r.d none (some 2)=some (Zl r.st):=rfl
theorem P7 (G:G3) (hG:Gb 64 G) (p:Nat×Nat):Jo [G.d,Zl p]=.ok (.lst (Zd (Qg G p.1))):=by
 refine Qf (W3 (n:=2) (p:=2) (ds:=[G.d,Zl p]) (g:=Up) (R:=fun d=>d=.lst (Zd (Qg G p.1))) rfl ?_);show Go (Up [.fz G.d,.fz (Zl p)]) _ _;unfold Up;have hs2:=hG.s2;have hc:=Q9 (g:=Yj 0) (t:=dT (Yu Hg (Z2 (dV 1) (Z2 (dV 2) (Z2 (dV 0) Zc))))) (f:=dV 0) (env:=[.un,.fz G.d,.fz (Zl p)]) (fun k:Nat=>Dat.int (k:Int)) (fun k:Nat=>Dat.int (k:Int)) (M2 G p.1) (List.range G.steps.length) fun k hk=>by
  have hkl:=mem_range.mp hk;have e:G.steps[k]?=some G.steps[k]:=getElem?_eq_getElem hkl;refine ⟨[.fz (.int (k:Int)),.fz G.d,.fz (Zl p)],rfl,?_,rfl⟩;have:M2 G p.1 k=Vp G.steps[k] p.1:=by unfold M2;rw [e]
  rw [this];exact Ek (Zq (xs:=[G.d,.tup [.int (p.1:Int),.int (p.2:Int)],.int (k:Int)]) rfl (Z2k G hG p.1 _ k _ e))
 rw [← G8] at hc;refine Ym (Ve (Vr (xs:=rng 0 G.steps.length) (Ws (Z4 (Ys (Z4 (x:=.tup (G.steps.map St3.d)) (Z5 rfl rfl rfl) rfl) (by show some (Dat.int ((G.steps.map St3.d).length:Int))=_;rw [length_map])) rfl) (by lia)) rfl hc)) ?_;rw [Rb];rfl
theorem Ar {s:St3} {p:Nat×Nat} {r:Dn} (hf:Fine s p) (h:DnOk s p.1 p.2 r):r.d=Zl (W1 s p):=by
 cases r with
 | broken=>exact absurd (h.b.mp rfl) hf.lev
 | crowded =>
  obtain ⟨q,h1,h2,h3⟩:=(h.k hf.lev).mp rfl;exact absurd (hf.room q h1 h2) h3
 | «at» m c =>
  obtain ⟨h1,h2⟩:=h.a m c rfl;have e1:m=(W1 s p).1:=eq_of_testBit_eq fun j=>by rw [h1,M8]
  have e2:c=(W1 s p).2:=eq_of_testBit_eq fun j=>by
   rw [h2,Z6r];by_cases e:j=s.w
   ·subst e
    rw [if_pos rfl,decide_eq_true rfl];have:=hf.lev;revert this;cases p.2.testBit s.w<;>cases s.up<;>simp
   ·rw [if_neg e,decide_eq_false (Ne.symm e)];simp
  show Dat.tup [.int (m:Int),.int (c:Int)]=Dat.tup [.int ((W1 s p).1:Int),.int ((W1 s p).2:Int)];rw [e1,e2]
theorem Gb.up {G:G3} (h:Gb 54 G):Gb 64 G:=⟨h.w2,h.s1,h.s2,fun s hs=>⟨(h.st s hs).w,fun p hp=>by have:=(h.st s hs).t p hp;lia,fun p hp=>by have:=(h.st s hs).f p hp;lia,(h.st s hs).tn,(h.st s hs).fn⟩,lt_of_lt_of_le h.mks (pow_le_pow_right (by lia) (by lia))⟩
def rw0 (G:G3):Rw:=⟨G.marks,G.code,none⟩
theorem Z9a {G:G3} {I:Nat×Nat->Prop} {rows:List Rw} (hle:rows.length<=400) (t:Told G I rows) (n:Nat) (hn:n<rows.length):Ig [.lst (rows.map Rw.d),.int (n:Int)]=.ok (.lst (Zd (Jv rows n))):=by
 refine Qf (W3 (n:=4) (p:=2) (ds:=[.lst (rows.map Rw.d),.int (n:Int)]) (g:=Kx) (R:=fun d=>d=.lst (Zd (Jv rows n))) rfl ?_);show Go (Kx [.fz (.lst (rows.map Rw.d)),.fz (.int (n:Int)),.un,.un]) _ _;unfold Kx;refine Z6 (Qz (ds:=Zd []) rfl ?_);refine Z6 (Zg rfl ?_);refine Z6 (Z15 (fun m e=>∃ (at0:Nat) (ks:List Nat),e=[.fz (.lst (rows.map Rw.d)),.fz (.int (n:Int)),.ow (Zd ks),.fz (.int (at0:Int))]/\m=at0/\at0<rows.length/\Jv rows n=Jv rows at0++ks.reverse/\ks.length+at0<=n) (n:=n) ⟨n,[],rfl,rfl,hn,by simp,by simp⟩ ?_);rintro m e ⟨at0,ks,rfl,rfl,hl,hw,hk⟩;obtain ⟨r,hr⟩:∃ r,rows[m]?=some r:=⟨_,getElem?_eq_getElem hl⟩;have hix:V1 (.lst (rows.map Rw.d)) (.int (m:Int))=some r.d:=Jx (by rw [getElem?_map,hr];rfl);rcases eq_zero_or_pos m with z | z
 ·left
  have hs:=(Z1m t hr).mpr z;subst z;refine ⟨Yo (Z5 (x:=.non) (Z5 (Z5 rfl rfl hix) rfl (by show some (match r.src with | none=>Dat.non | some p=>.int (p.1:Int))=_;rw [hs])) rfl rfl),?_⟩;rw [X3,List.nil_append] at hw;refine Ym (Ve (Z77 (xs:=Zd ks) (Z4 rfl rfl))) ?_;rw [hw];unfold Zd;rw [List.map_reverse,List.map_reverse]
 ·right
  obtain ⟨f,k,s,rf,a1,a2,a3,a4,a5,a6⟩:=t.src m r hr z;have hd2:V1 r.d (.int 2)=some (.int (f:Int)):=by show some (match r.src with | none=>Dat.non | some p=>.int (p.1:Int))=_;rw [a1]
  have hd3:V1 r.d (.int 3)=some (.int (k:Int)):=by show some (match r.src with | none=>Dat.non | some p=>.int (p.2:Int))=_;rw [a1]
  refine ⟨Yo (Z5 (x:=.int (f:Int)) (Z5 (Z5 rfl rfl hix) rfl hd2) rfl rfl),?_⟩;refine Z6 (T5 (ds:=Zd ks) (as:=[.int (k:Int)]) (ds':=Zd (ks++[k])) rfl (Z4 (Z5 (Z5 rfl rfl hix) rfl hd3) rfl) (by rw [Vk (by unfold Zd;rw [length_map,length_map];lia),← Jh];rfl) ?_);refine Zg (Z5 (Z5 rfl rfl hix) rfl hd2) ⟨f,a2,f,ks++[k],rfl,rfl,by lia,?_,by rw [length_append,length_singleton];lia⟩;rw [hw,Oh t hr a1 z,List.reverse_append];simp
theorem Ch {G:G3} {I:Nat×Nat->Prop} {rows:List Rw} (t:Told G I rows):∀ n,n<rows.length->(Jv rows n).length<=n/\∀ k∈Jv rows n,k<G.steps.length:=by
 intro m;induction m using strongRecOn with
 | _ m ih =>
  intro hm;rcases eq_zero_or_pos m with z | z
  ·subst z;rw [X3];exact ⟨le_refl _,by simp⟩
  ·obtain ⟨r',hr'⟩:∃ r,rows[m]?=some r:=⟨_,getElem?_eq_getElem hm⟩
   obtain ⟨f,k,s,rf,a1,a2,a3,_,_,_⟩:=t.src m r' hr' z;obtain ⟨h1,h2⟩:=ih f a2 (by lia);rw [Oh t hr' a1 z,length_append,length_singleton];refine ⟨by lia,fun x hx=>?_⟩;rcases mem_append.mp hx with q | q
   ·exact h2 x q
   ·rw [mem_singleton.mp q];exact (List.getElem?_eq_some_iff.mp a3).1
def Pf (ks:List Nat):List Int:=ks.map fun k:Nat=>(k:Int)
theorem Xx {ks:List Nat} (h1:ks.length<=500) (h2:∀ k∈ks,k<1000):Sr (Pf ks)=true:=by
 unfold Sr Pf;rw [length_map,decide_eq_true h1,Bool.true_and,all_eq_true];intro n hn;obtain ⟨k,hk,rfl⟩:=mem_map.mp hn;have:=h2 k hk;rw [decide_eq_true (by lia),decide_eq_true (by lia)];rfl
theorem Ce (l:List Nat):Tl (Zd l)=some (Pf l):=R6 (Pf l)
def F5 (ks:List Nat):List (Str×XD):=[("way",.nums (Pf ks))]
theorem Z70 {ks:List Nat} (h1:ks.length<=500) (h2:∀ k∈ks,k<1000):gW "way" [.lst (Zd ks)]=some (F5 ks):=by
 unfold gW;dsimp only;rw [Ce];dsimp only [Option.bind];rw [if_pos (Xx h1 h2)];rfl
def Z4v (c:Str):Prop:=c="Broken" \/ c="Crowded"
theorem Fe (G:G3) (hG:Gb 64 G) (p:Nat×Nat) (k:Nat) (s:St3) (h:G.steps[k]?=some s) (hc:Vp s p.1=true) (hf:¬ Fine s p):∃ c,Z4v c/\Q5 [G.d,Zl p,.int (k:Int)]=.exc c (F5 [k]):=by
 have hs:=hG.st s (mem_of_getElem? h);have hw2:=hG.w2;have hw1:=hs.w;have hk:=(List.getElem?_eq_some_iff.mp h).1;have hs2:=hG.s2;have hgw:gW "way" [.lst (Zd [k])]=some (F5 [k]):=Z70 (by simp) fun q hq=>by rw [mem_singleton.mp hq];lia
 have:=Ac (n:=6) (p:=3) (ds:=[G.d,Zl p,.int (k:Int)]) (g:=U6) (R:=fun _=>False) (E:=fun c fl=>Z4v c/\fl=F5 [k]) rfl ?_
 ·rcases this with ⟨d,_,z⟩ | ⟨c,fl,e,h1,h2⟩
  ·exact z.elim
  ·exact ⟨c,h1,by rw [← h2];exact e⟩
 show GoE (U6 [.fz G.d,.fz (Zl p),.fz (.int (k:Int)),.un,.un,.un]) _ _ _ _;unfold U6;refine Qq (Zg (Zq (xs:=[G.d,.int (k:Int)]) rfl (Am G k s h)) ?_);refine U5 (Nz (Yo (Z5 (Zq (xs:=[.int (p.2:Int),.int (s.w:Int)]) (Z4 (Z5 rfl rfl rfl) rfl) (Z0l p.2 s.w)) (Zq (xs:=[G.d,.int (k:Int)]) rfl (B4 G k s h)) (Z7d _ _))) (fun _=>E5 (ds:=[.lst (Zd [k])]) (Z4 (Ve (Tv (Z4 rfl rfl) (by simp))) rfl) hgw ⟨.inl rfl,rfl⟩) (fun hb=>(Wa ?_:Go _ _ _).toE));have hlev:p.2.testBit s.w≠s.up:=by simpa using hb
 obtain ⟨lf,ek,hlf⟩:=I0 p.1 (bitsN s.takes);refine Qq (Zg (d:=.int (lf:Int)) (Z5 (Z5 rfl rfl rfl) (Z6e (Zq (xs:=[.tup (Zd s.takes)]) (Z4 (Zq (xs:=[G.d,.int (k:Int)]) rfl (Hk G k s h)) rfl) (So s.takes fun p hp=>by have:=hs.t p hp;lia)) (z:=.int (-(bitsN s.takes:Int) - 1)) rfl) (by show some (Dat.int (Builtin.bitAnd _ _))=_;rw [ek])) ?_);refine Qq (Zg (d:=.int (bitsN s.fills:Int)) (Zq (xs:=[.tup (Zd s.fills)]) (Z4 (Zq (xs:=[G.d,.int (k:Int)]) rfl (Pr G k s h)) rfl) (So s.fills fun p hp=>by have:=hs.f p hp;lia)) ?_);refine U5 (Nz (Yo (Z5 (Z5 rfl rfl (Z8x lf _)) rfl (ne0 _))) (fun _=>E5 (ds:=[.lst (Zd [k])]) (Z4 (Ve (Tv (Z4 rfl rfl) (by simp))) rfl) hgw ⟨.inr rfl,rfl⟩) (fun hb2=>?_));exfalso;refine hf ⟨hc,hlev,fun q h1 h2=>?_⟩;have hz:lf &&& bitsN s.fills=0:=by simpa using hb2
 have:=congrArg (Nat.testBit · q) hz;simp only [testBit_and,hlf,Ua,Nat.zero_testBit,h2,Bool.true_and,decide_eq_true h1,Bool.and_true] at this;simpa using this
theorem Au {G:G3} {rows:List Rw} {n k:Nat} {r:Rw} (hr:rows[n]?=some r):(Z2 (dV 0) (Z2 (dS Kh (dO V1 (dV 1) (dV 2)) Ja (Va (dC (.int 2)))) (Z2 (dV 3) Zc))) [.fz G.d,.fz (.lst (rows.map Rw.d)),.fz (.int (n:Int)),.fz (.int (k:Int))]=some [G.d,Zl r.st,.int (k:Int)] :=
 Z4 rfl (Z4 (Mr (Z5 rfl rfl (Jx (x:=r.d) (by rw [getElem?_map,hr];rfl))) rfl (V0 rfl) (Fo r)) rfl)
theorem Z4b (G:G3) (hG:Gb 64 G) (rows:List Rw) (n k:Nat) (r:Rw) (s:St3) (hr:rows[n]?=some r) (h:G.steps[k]?=some s) (hf:Fine s r.st):Jd [G.d,.lst (rows.map Rw.d),.int (n:Int),.int (k:Int)]=.ok (Zl (W1 s r.st)):=by
 show (match Uq [.fz G.d,.fz (.lst (rows.map Rw.d)),.fz (.int (n:Int)),.fz (.int (k:Int))] with | .ret d=>Rs.ok d | .next _=>.ok .non | .exc _ c fs=>.exc c fs | _=>.no)=_;unfold Uq O9 Oz;rw [Au hr];dsimp only;rw [La G hG r.st k s h hf]
theorem Z0v {G:G3} {I:Nat×Nat->Prop} (hG:Gb 64 G) {rows:List Rw} (t:Told G I rows) (hle:rows.length<=400) {n k:Nat} {r:Rw} {s:St3} (hr:rows[n]?=some r) (h:G.steps[k]?=some s) (hc:Vp s r.m=true) (hf:¬ Fine s r.st):∃ c,Z4v c/\Jd [G.d,.lst (rows.map Rw.d),.int (n:Int),.int (k:Int)]=.exc c (F5 (Jv rows n++[k])):=by
 obtain ⟨c,hcB,eb⟩:=Fe G hG r.st k s h hc hf;have hk:=(List.getElem?_eq_some_iff.mp h).1;have hn:=(List.getElem?_eq_some_iff.mp hr).1;have hs2:=hG.s2;obtain ⟨w1,w2⟩:=Ch t n hn;have hgw:gW "way" [.lst (Zd (Jv rows n++[k]))]=some (F5 (Jv rows n++[k])):=Z70 (by rw [length_append,length_singleton];lia) fun q hq=>by
  rcases mem_append.mp hq with z | z
  ·have:=w2 q z;lia
  ·rw [mem_singleton.mp z];lia
 have ha:(Z2 (dL (dO K2 (Yu Ig (Z2 (dV 1) (Z2 (dV 2) Zc))) (dL (Vu (Z2 (dV 3) Zc))))) Zc) [.fz G.d,.fz (.lst (rows.map Rw.d)),.fz (.int (n:Int)),.fz (.int (k:Int))]=some [.lst (Zd (Jv rows n++[k]))]:=by
  refine Z4 (Ve (ds:=Zd (Jv rows n++[k])) ?_) rfl;unfold dO;rw [Zq (xs:=[.lst (rows.map Rw.d),.int (n:Int)]) rfl (Z9a hle t n hn),Ve (Tv (xs:=[.int (k:Int)]) (Z4 rfl rfl) (by simp))];have hl:(Zd (Jv rows n)).length=(Jv rows n).length:=by unfold Zd;rw [length_map,length_map]
  show K2 (.lst (Zd (Jv rows n))) (.lst (Zd [k]))=_;rw [← Jh];unfold K2;exact if_pos (by rw [hl];have:(Zd [k]).length=1:=rfl;rw [sizeLine_eq];lia)
 refine ⟨c,hcB,?_⟩;show (match Uq [.fz G.d,.fz (.lst (rows.map Rw.d)),.fz (.int (n:Int)),.fz (.int (k:Int))] with | .ret d=>Rs.ok d | .next _=>.ok .non | .exc _ c fs=>.exc c fs | _=>.no)=_;unfold Uq O9 Oz;rw [Au hr];dsimp only;rw [eb];dsimp only;have hr:∀ c,Vv c (gW "way") (Z2 (dL (dO K2 (Yu Ig (Z2 (dV 1) (Z2 (dV 2) Zc))) (dL (Vu (Z2 (dV 3) Zc))))) Zc) [.fz G.d,.fz (.lst (rows.map Rw.d)),.fz (.int (n:Int)),.fz (.int (k:Int))]=.exc [.fz G.d,.fz (.lst (rows.map Rw.d)),.fz (.int (n:Int)),.fz (.int (k:Int))] c (F5 (Jv rows n++[k])):=fun c=>by
  unfold Vv;rw [ha];dsimp only [Option.bind];rw [hgw]
 rcases hcB with rfl | rfl
 ·rw [if_pos (by decide),if_pos rfl,hr]
  rfl
 ·rw [if_pos (by decide),if_neg (by decide),if_pos rfl,hr]
  rfl
abbrev TT (G:G3) (rows:List Rw):Prop:=Told G (fun _=>True) rows
theorem Z1q (G:G3):TT G [rw0 G] where
 zero:=rfl
 inv:=fun _ _=>trivial
 nd:=nodup_cons.mpr ⟨by simp,nodup_nil⟩
 src:=fun i r e h0=>by
  rw [getElem?_cons,if_neg (by lia)] at e;cases e
theorem Z2q {G:G3} {rows:List Rw} (t:TT G rows) {f k:Nat} {s:St3} {rf:Rw} (hf:rows[f]?=some rf) (hs:G.steps[k]?=some s) (hc:Vp s rf.m=true) (hn:W1 s rf.st∉rows.map Rw.st):TT G (rows++[⟨(W1 s rf.st).1,(W1 s rf.st).2,some (f,k)⟩]) where
 zero:=by
  have:=t.zero;have hl:=(List.getElem?_eq_some_iff.mp this).1;rw [getElem?_append_left hl];exact this
 inv:=fun _ _=>trivial
 nd:=by
  rw [map_append];refine nodup_append.mpr ⟨t.nd,nodup_cons.mpr ⟨by simp,nodup_nil⟩,fun a ha b hb=>?_⟩;have eb:b=W1 s rf.st:=mem_singleton.mp hb;rw [eb];intro e;exact hn (e▸ha)
 src:=fun i r e h0=>by
  rcases lt_or_ge i rows.length with hl | hl
  ·rw [getElem?_append_left hl] at e
   obtain ⟨f',k',s',rf',a1,a2,a3,a4,a5,a6⟩:=t.src i r e h0;exact ⟨f',k',s',rf',a1,a2,a3,by rw [getElem?_append_left (by lia)];exact a4,a5,a6⟩
  ·rw [getElem?_append_right hl] at e
   have hfl:=(List.getElem?_eq_some_iff.mp hf).1;have e0:i - rows.length=0:=by
    rcases eq_zero_or_pos (i - rows.length) with z | z
    ·exact z
    ·rw [getElem?_cons,if_neg (by lia)] at e;cases e
   rw [e0] at e;cases e;exact ⟨f,k,s,rf,rfl,by lia,hs,by rw [getElem?_append_left hfl];exact hf,hc,rfl⟩
def Okr (G:G3) (r:Rw):Prop:=∀ (k:Nat) (s:St3),G.steps[k]?=some s->Vp s r.m=true->Fine s r.st
def Leq (n k:Nat) (r:Rw):Prop:=∀ f k',r.src=some (f,k')->f<n\/(f=n/\k'<=k)
def Clo (G:G3) (rows:List Rw) (n:Nat) (r:Rw):Prop:=∀ (k:Nat) (s:St3),G.steps[k]?=some s->Vp s r.m=true->∃ r'∈rows,r'.st=W1 s r.st/\Leq n k r'
theorem Z5p {G:G3} {m i k k':Nat} (h:(Qg G m)[i]?=some k) (h':k'∈(Qg G m).take i):k'<k:=by
 have hp:(Qg G m).Pairwise (· < ·):=List.Pairwise.filter _ List.pairwise_lt_range;obtain ⟨h1,h2⟩:=List.getElem?_eq_some_iff.mp h;obtain ⟨j,hj,rfl⟩:=List.getElem_of_mem h';rw [length_take] at hj;rw [List.getElem_take,← h2];exact List.pairwise_iff_getElem.mp hp j i (by lia) h1 (by lia)
structure Whole (G:G3) (most:Nat) (rows:List Rw):Prop where
 t:TT G rows
 le:rows.length<=most
 ok:∀ r∈rows,Okr G r
 cl:∀ n r,rows[n]?=some r->Clo G rows n r
def Nf (G:G3) (most:Nat) (c:Str):Prop:=(c="TooMany" /\ ∃ rows,TT G rows/\most<rows.length)\/(Z4v c/\∃ (rows:List Rw) (r:Rw) (k:Nat) (s:St3),TT G rows/\r∈rows/\G.steps[k]?=some s/\Vp s r.m=true/\¬ Fine s r.st)
theorem Bb {i:Nat} {F:List Dat->Rs} {fs:Ev->Option (List Dat)} {env:Ev} {ds:List Dat} {d:Dat} (e:fs env=some ds) (h:F ds=.ok d):Ed i F fs env=.next (env.set i (.fz d)):=by unfold Ed;rw [e];dsimp only;rw [h]
theorem Os {i:Nat} {F:List Dat->Rs} {fs:Ev->Option (List Dat)} {env:Ev} {ds:List Dat} {c:Str} {fl:List (Str×XD)} (e:fs env=some ds) (h:F ds=.exc c fl):Ed i F fs env=.exc env c fl:=by unfold Ed;rw [e];dsimp only;rw [h]
theorem Z3i {F:List Dat->Rs} {ds:List Dat} {d:Dat} (h:F ds=.ok d) (hp:P5 d=true):Dg F ds=.ok d:=by unfold Dg;rw [h];exact if_pos hp
theorem C7 {F:List Dat->Rs} {ds:List Dat} {c:Str} {fl:List (Str×XD)} (h:F ds=.exc c fl):Dg F ds=.exc c fl:=by unfold Dg;rw [h]
theorem Fm {G:G3} (hG:Gb 64 G) (most:Nat) (hm1:1<=most) (hm2:most<=400):(∃ d,Qa [G.d,.int (most:Int)]=.ok d/\∃ rows,d=.lst (rows.map Rw.d)/\Whole G most rows)\/∃ c fl,Qa [G.d,.int (most:Int)]=.exc c fl/\Nf G most c:=by
 refine Ac (n:=8) (p:=2) (ds:=[G.d,.int (most:Int)]) (g:=Jf) (R:=fun d=>∃ rows,d=.lst (rows.map Rw.d)/\Whole G most rows) (E:=fun c _=>Nf G most c) rfl ?_;show GoE (Jf [.fz G.d,.fz (.int (most:Int)),.un,.un,.un,.un,.un,.un]) _ _ _ _;unfold Jf;refine Qq (Qz (ds:=[rw0 G].map Rw.d) (Tv (Z4 (Y5 (Z4 (Z5 rfl rfl rfl) (Z4 (Z5 rfl rfl rfl) rfl)) (by simp)) rfl) (by simp)) ?_);refine Qq (Z5m (q:=(G.marks,G.code)) (Y5 (Z4 (Z5 rfl rfl rfl) (Z4 (Z5 rfl rfl rfl) rfl)) (by simp)) rfl ?_);refine Qq (Zg (d:=.int ((0:Nat):Int)) rfl ?_);refine U5 (Z03 (fun m e=>∃ (rows:List Rw) (at0:Nat) (v5 v6 v7:Slt),e=[.fz G.d,.fz (.int (most:Int)),.ow (rows.map Rw.d),.gx (.dict (S0 (rows.map Rw.st))),.fz (.int (at0:Int)),v5,v6,v7]/\TT G rows/\at0<=rows.length/\m+at0=400/\rows.length<=most/\(∀ i r,i<at0->rows[i]?=some r->Okr G r/\Clo G rows i r)/\∀ r∈rows,∀ f k,r.src=some (f,k)->f<at0) (n:=400) ⟨_,0,.un,.un,.un,rfl,Z1q G,by lia,rfl,hm1,fun i r h=>by lia,fun r hr f k e=>by rw [mem_singleton.mp hr] at e;cases e⟩ ?_);rintro m e ⟨rows,at0,v5,v6,v7,rfl,t,hal,hm,hmost,hok,hsr⟩;have hlen:dF Qh (Z2 (dP 2) Zc) [.fz G.d,.fz (.int (most:Int)),.ow (rows.map Rw.d),.gx (.dict (S0 (rows.map Rw.st))),.fz (.int (at0:Int)),v5,v6,v7]=some (.int (rows.length:Int)):=Ys (Z4 rfl rfl) (Rh Rw.d rows);rcases lt_or_ge at0 rows.length with hl | hl
 ·right
  obtain ⟨r,hr⟩:∃ r,rows[at0]?=some r:=⟨_,getElem?_eq_getElem hl⟩;have hix:V1 (.lst (rows.map Rw.d)) (.int (at0:Int))=some r.d:=Jx (by rw [getElem?_map,hr];rfl);refine ⟨Yo (Z5 rfl hlen (by show some (Dat.bl (decide ((at0:Int)<(rows.length:Int))))=_;rw [decide_eq_true (by lia)])),?_⟩;refine Qq (Zg (Zq (xs:=[G.d,Zl r.st]) (Z4 rfl (Z4 (Mr (Z5 rfl rfl hix) rfl (V0 rfl) (Fo r)) rfl)) (P7 G hG r.st)) ?_);obtain ⟨ks,hks⟩:∃ ks:List Nat,Qg G r.st.1=ks:=⟨_,rfl⟩;have hks':Qg G r.m=ks:=hks;have hkm:∀ k∈ks,M2 G r.m k=true:=fun k hk=>by rw [← hks'] at hk;exact X2 hk
  rw [hks];refine U5 (Z5i (ds:=Zd ks) (fun i e=>∃ (rw1:List Rw) (v6 v7:Slt),e=[.fz G.d,.fz (.int (most:Int)),.ow (rw1.map Rw.d),.gx (.dict (S0 (rw1.map Rw.st))),.fz (.int (at0:Int)),.fz (.lst (Zd ks)),v6,v7]/\TT G rw1/\rows <+: rw1/\rw1.length<=most/\(∀ k∈ks.take i,∀ s,G.steps[k]?=some s->Fine s r.st/\∃ r'∈rw1,r'.st=W1 s r.st/\Leq at0 k r')/\∀ r'∈rw1,∀ f k',r'.src=some (f,k')->f<at0\/(f=at0/\k'∈ks.take i)) rfl ⟨rows,v6,v7,rfl,t,List.prefix_rfl,hmost,fun k hk=>by simp at hk,fun r' hr' f k' e=>.inl (hsr r' hr' f k' e)⟩ ?_ ?_)
  ·rintro i d e hi ⟨rw1,v6,v7,rfl,tr,hpre,hmo,hfn,hsrc⟩
   obtain ⟨k,hk,rfl⟩:=J8 hi;have hcanK:=hkm k (mem_of_getElem? hk);obtain ⟨s,hs,hcan⟩:=Kz hcanK;have htk:ks.take (i+1)=ks.take i++[k]:=by rw [take_succ,hk];rfl
   have hr':=O5 hpre hr;have hle:rw1.length<=400:=by lia
   refine ⟨_,rfl,?_⟩;by_cases hf:Fine s r.st
   case neg =>
    obtain ⟨c,hcB,ec⟩:=Z0v hG tr hle hr' hs hcan hf;refine U5 ⟨?_⟩;rw [Os (ds:=[G.d,.lst (rw1.map Rw.d),.int (at0:Int),.int (k:Int)]) rfl (C7 ec)];exact .inr ⟨hcB,rw1,r,k,s,tr,mem_of_getElem? hr',hs,hcan,hf⟩
   have hkl:∀ k'∈ks.take i,k'<k:=fun k' hk'=>Z5p (G:=G) (m:=r.m) (by rw [hks'];exact hk) (by rw [hks'];exact hk')
   have hsrc':∀ r'∈rw1,∀ f k',r'.src=some (f,k')->f<at0\/(f=at0/\k'∈ks.take (i+1)):=fun r' hr' f k' e=>(hsrc r' hr' f k' e).imp id fun z=>⟨z.1,by rw [htk];exact mem_append_left _ z.2⟩
   have hfn':∀ rw2:List Rw,rw1 <+: rw2->(∃ r'∈rw2,r'.st=W1 s r.st/\Leq at0 k r')->∀ k'∈ks.take (i+1),∀ s,G.steps[k']?=some s->Fine s r.st/\∃ r'∈rw2,r'.st=W1 s r.st/\Leq at0 k' r':=fun rw2 hp2 hin k' hk' s' hs'=>by
    rw [htk] at hk';rcases mem_append.mp hk' with z | z
    ·obtain ⟨a1,a2⟩:=hfn k' z s' hs'
     obtain ⟨r',b1,b2⟩:=a2;exact ⟨a1,r',hp2.subset b1,b2⟩
    ·have hz:=mem_singleton.mp z
     subst hz;rw [hs] at hs';cases hs';exact ⟨hf,hin⟩
   refine U5 ⟨?_⟩;rw [Bb (d:=Zl (W1 s r.st)) (ds:=[G.d,.lst (rw1.map Rw.d),.int (at0:Int),.int (k:Int)]) rfl (Z3i (Z4b G hG rw1 at0 k r s hr' hs hf) rfl)];refine U5 (Nz (Yo (Z5x (ps:=rw1.map Rw.st) (q:=W1 s r.st) rfl rfl)) (fun hb=>?_) (fun hb=>?_))
   ·exact ⟨⟨rw1,.fz (.int (k:Int)),.fz (Zl (W1 s r.st)),rfl,tr,hpre,hmo,hfn' rw1 List.prefix_rfl (by
     obtain ⟨r',b1,b2⟩:=mem_map.mp (of_decide_eq_true hb);exact ⟨r',b1,b2,fun f k' e=>(hsrc r' b1 f k' e).imp id fun z=>⟨z.1,le_of_lt (hkl k' z.2)⟩⟩),hsrc'⟩⟩
   have hnin:W1 s r.st∉rw1.map Rw.st:=of_decide_eq_false hb;refine (Wa ?_:Go _ _ _).toE;refine U5 (Nz (b:=decide ((most:Int)<=(rw1.length:Int))) (Yo (Z5 (Ys (Z4 rfl rfl) (Rh Rw.d rw1)) rfl rfl)) (fun hb2=>?_) (fun hb2=>(Wa ?_:Go _ _ _).toE))
   ·have:=of_decide_eq_true hb2
    exact E5 (ds:=[]) rfl rfl (.inl ⟨rfl,_,Z2q tr hr' hs hcan hnin,by rw [length_append,length_singleton];lia⟩)
   have hlt:=of_decide_eq_false hb2;refine Qq (Z3w (ps:=rw1.map Rw.st) (q:=W1 s r.st) rfl rfl rfl hnin (by rw [length_map];lia) ?_);refine (T5 (ds:=rw1.map Rw.d) (as:=[(⟨(W1 s r.st).1,(W1 s r.st).2,some (at0,k)⟩:Rw).d]) (ds':=(rw1++[(⟨(W1 s r.st).1,(W1 s r.st).2,some (at0,k)⟩:Rw)]).map Rw.d) rfl (Z4 (Y5 (Z4 (Z5 rfl rfl rfl) (Z4 (Z5 rfl rfl rfl) rfl)) (by simp)) rfl) (by rw [Vk (by rw [length_map];lia),map_append];rfl) ?_).toE;refine ⟨rw1++[⟨(W1 s r.st).1,(W1 s r.st).2,some (at0,k)⟩],.fz (.int (k:Int)),.fz (Zl (W1 s r.st)),?_,Z2q tr hr' hs hcan hnin,hpre.trans (List.prefix_append _ _),by rw [length_append,length_singleton];lia,hfn' _ (List.prefix_append _ _) ⟨_,mem_append_right _ (mem_singleton.mpr rfl),rfl,fun f k' e=>by cases e;exact .inr ⟨rfl,le_refl _⟩⟩,fun r' hr' f k' e=>by
    rcases mem_append.mp hr' with z | z
    ·exact hsrc' r' z f k' e
    ·rw [mem_singleton.mp z] at e;cases e;exact .inr ⟨rfl,by rw [htk];exact mem_append_right _ (mem_singleton.mpr rfl)⟩⟩
   rw [map_append (f:=Rw.st)];rfl
  ·rintro e ⟨rw1,v6,v7,rfl,tr,hpre,hmo,hfn,hsrc⟩
   have hlk:(Zd ks).length=ks.length:=by unfold Zd;rw [length_map,length_map]
   rw [hlk,take_of_length_le (le_refl _)] at hfn;have hpl:=hpre.length_le;refine (Z8a rfl rfl ⟨m - 1,by lia,rw1,at0+1,_,_,_,rfl,tr,by lia,by lia,hmo,fun i r' hi hr2=>?_,fun r' hr' f k' e=>by rcases hsrc r' hr' f k' e with z | z<;>lia⟩:Go _ _ _).toE;rcases lt_or_ge i at0 with hlt | hge
   ·obtain ⟨r3,hr3⟩:∃ r3,rows[i]?=some r3:=⟨_,getElem?_eq_getElem (by lia)⟩
    have:=O5 hpre hr3;rw [hr2] at this;cases this;obtain ⟨b1,b2⟩:=hok i _ hlt hr3;exact ⟨b1,fun k s a b=>let ⟨r4,c1,c2⟩:=b2 k s a b;⟨r4,hpre.subset c1,c2⟩⟩
   ·have:i=at0:=by lia
    subst this;have:=O5 hpre hr;rw [hr2] at this;cases this;have hk:∀ (k:Nat) (s:St3),G.steps[k]?=some s->Vp s r.m=true->k∈ks:=fun k s hs hc=>by
     rw [← hks'];unfold Qg;refine mem_filter.mpr ⟨mem_range.mpr (List.getElem?_eq_some_iff.mp hs).1,?_⟩;unfold M2;rw [hs];exact hc
    exact ⟨fun k s hs hc=>(hfn k (hk k s hs hc) s hs).1,fun k s hs hc=>(hfn k (hk k s hs hc) s hs).2⟩
 ·left
  refine ⟨Yo (Z5 rfl hlen (by show some (Dat.bl (decide ((at0:Int)<(rows.length:Int))))=_;rw [decide_eq_false (by lia)])),?_⟩;have key:∀ n r,rows[n]?=some r->Okr G r/\Clo G rows n r:=fun n r hr=>hok n r (by have:=(List.getElem?_eq_some_iff.mp hr).1;lia) hr
  exact (Gj rfl ⟨rows,rfl,t,hmost,fun r hr=>let ⟨n,hn⟩:=getElem?_of_mem hr;(key n r hn).1,fun n r hr=>(key n r hr).2⟩:Go _ _ _).toE
def Mb (ps:List (Nat×Nat)):List (List Wg×Dat):=ps.zipIdx.map fun q=>(Ur q.1,.int ((q.2:Nat):Int))
def Tr (ps:List (Nat×Nat)):List (List Wg×Int):=ps.zipIdx.map fun q=>(Ur q.1,((q.2:Nat):Int))
theorem Pt {α:Type} (k:α->List Wg) (n:α->Int):∀ l:List α,Dc (l.map fun q=>(k q,.int (n q)))=some (l.map fun q=>(k q,n q))
 | []=>rfl
 | q::l=>by rw [map_cons,Dc,Pt k n l];rfl
theorem As (ps:List (Nat×Nat)):Dc (Mb ps)=some (Tr ps):=Pt (fun q:(Nat×Nat)×Nat=>Ur q.1) (fun q=>((q.2:Nat):Int)) _
theorem Z5s (ps:List (Nat×Nat)) (p:Nat×Nat):Mb (ps++[p])=Mb ps++[(Ur p,.int ((ps.length:Nat):Int))]:=by
 unfold Mb;rw [List.zipIdx_append,map_append];simp
theorem Z1x (ps:List (Nat×Nat)) (q:Nat×Nat):Rv (Mb ps) (Ur q)=decide (q∈ps):=by
 rw [← S6 ps q];unfold Rv Mb S0;congr 1
 rw [map_map,map_map,show (ps.zipIdx.map ((fun x:List Wg×Dat=>x.1) ∘ fun q=>(Ur q.1,Dat.int ((q.2:Nat):Int))))=(ps.zipIdx.map Prod.fst).map Ur from by rw [map_map];rfl,List.zipIdx_map_fst];rfl
theorem Le:∀ (ps:List (Nat×Nat)) (s j:Nat) (p:Nat×Nat),ps.Nodup->ps[j]?=some p->J9 ((ps.zipIdx s).map fun q=>(Ur q.1,((q.2:Nat):Int))) (Ur p)=some (((s+j:Nat)):Int)
 | [],s,j,p,_,h=>by simp at h
 | q::ps,s,0,p,hn,h=>by
  simp at h;subst h;unfold J9;rw [List.zipIdx_cons,map_cons,find?_cons];simp
 | q::ps,s,j+1,p,hn,h=>by
  have hp:ps[j]?=some p:=by simpa using h
  have hq:q≠p:=fun e=>(nodup_cons.mp hn).1 (by rw [e];exact mem_of_getElem? hp)
  have ih:=Le ps (s+1) j p (nodup_cons.mp hn).2 hp;unfold J9 at ih ⊢;rw [List.zipIdx_cons,map_cons,find?_cons];have:decide (Ur q=Ur p)=false:=decide_eq_false fun e=>hq (Pn.mp e)
  simp only [this];rw [ih];congr 2
  lia
theorem P4 {ps:List (Nat×Nat)} {j:Nat} {p:Nat×Nat} (hn:ps.Nodup) (h:ps[j]?=some p):J9 (Tr ps) (Ur p)=some ((j:Nat):Int):=by
 have:=Le ps 0 j p hn h;rw [Nat.zero_add] at this;exact this
theorem Z4l (ps:List (Nat×Nat)):(Tr ps).length=ps.length:=by unfold Tr;rw [length_map,List.length_zipIdx]
section
variable {f g:Ev->Option Dat} {env:Ev} {ps:List (Nat×Nat)} {j:Nat} {p:Nat×Nat} {neg:Bool}
theorem Fp (hn:ps.Nodup) (h:ps[j]?=some p) (h1:f env=some (Zl p)) (h2:g env=some (.dct (Tr ps))):dIn neg f g env=some (.bl (!neg)):=by
 unfold dIn;rw [h1,h2];dsimp only;rw [Q0];show some (Dat.bl (if neg=true then !(J9 (Tr ps) (Ur p)).isSome else (J9 (Tr ps) (Ur p)).isSome))=_;rw [P4 hn h];cases neg<;>rfl
theorem A0 (hn:ps.Nodup) (h:ps[j]?=some p) (h1:f env=some (.dct (Tr ps))) (h2:g env=some (Zl p)):X4 f g env=some (.int ((j:Nat):Int)):=by
 unfold X4;rw [h1,h2];dsimp only;rw [Q0];show (J9 (Tr ps) (Ur p)).map Dat.int=_;rw [P4 hn h];rfl
end
theorem gtN (a:Nat):gtD (.int ((a:Nat):Int)) (.int 0)=some (.bl (decide (0<a))):=by
 show some (Dat.bl (decide ((0:Int)<(a:Int))))=_;congr 2
 simp
theorem Z90 {n k f k':Nat} (h:f<n\/(f=n/\k'<=k)):gtT (.tup [.int (f:Int),.int (k':Int)]) (.tup [.int (n:Int),.int (k:Int)])=some (.bl false):=by
 show some (Dat.bl (HT.lexGt [(f:Int),(k':Int)] [(n:Int),(k:Int)]))=_;congr 2
 show (if (f:Int)=(n:Int) then (if (k':Int)=(k:Int) then false else decide ((k:Int)<(k':Int))) else decide ((n:Int)<(f:Int)))=false;split
 ·split
  ·rfl
  ·exact decide_eq_false (by lia)
 ·exact decide_eq_false (by lia)
theorem Z27 {G:G3} (hG:Gb 64 G) {rows:List Rw} (W:Whole G 400 rows) {n:Nat} {r:Rw} (hr:rows[n]?=some r):Ub [G.d,.lst (rows.map Rw.d),.dct (Tr (rows.map Rw.st)),Zl r.st]=.ok (.lst (Zd (Qg G r.m))):=by
 have hnd:=W.t.nd;have hat:∀ {j:Nat} {r':Rw},rows[j]?=some r'->(rows.map Rw.st)[j]?=some r'.st:=fun h=>by rw [getElem?_map,h];rfl
 have hs2:=hG.s2;refine Qf (W3 (n:=8) (p:=4) (ds:=[G.d,.lst (rows.map Rw.d),.dct (Tr (rows.map Rw.st)),Zl r.st]) (g:=Vh) (R:=fun d=>d=.lst (Zd (Qg G r.m))) rfl ?_);show Go (Vh [.fz G.d,.fz (.lst (rows.map Rw.d)),.fz (.dct (Tr (rows.map Rw.st))),.fz (Zl r.st),.un,.un,.un,.un]) _ _;unfold Vh;refine Z6 (Jn (Yo (Fp (neg:=true) hnd (hat hr) rfl rfl)) (Wa ?_));refine Z6 (Qz (ds:=Zd []) rfl ?_);refine Z6 (Vb (ds:=Rn 0 (G.steps.map St3.d)) (fun i e=>∃ (v5 v6 v7:Slt),e=[.fz G.d,.fz (.lst (rows.map Rw.d)),.fz (.dct (Tr (rows.map Rw.st))),.fz (Zl r.st),.ow (Zd ((List.range i).filter (M2 G r.m))),v5,v6,v7]) (by unfold Lp;rw [Qu (xs:=G.steps.map St3.d) (Z5 rfl rfl rfl)];rfl) ⟨.un,.un,.un,rfl⟩ ?_ ?_)
 ·rintro k d e hk ⟨v5,v6,v7,rfl⟩
  obtain ⟨x,hx,rfl⟩:=Rf hk;rw [getElem?_map] at hx;obtain ⟨s,hs,rfl⟩:=map_some hx;have hsm:=mem_of_getElem? hs;have hkl:=(List.getElem?_eq_some_iff.mp hs).1;have hcK:M2 G r.m k=Vp s r.m:=by unfold M2;rw [hs]
  have hrange:(List.range (k+1)).filter (M2 G r.m)=(List.range k).filter (M2 G r.m)++(if Vp s r.m=true then [k] else []):=by
   rw [List.range_succ,List.filter_append,List.filter_cons,hcK];cases Vp s r.m<;>rfl
  have hll:(Zd ((List.range k).filter (M2 G r.m))).length<=1000:=by
   unfold Zd;rw [length_map,length_map];have:=List.length_filter_le (M2 G r.m) (List.range k);rw [length_range] at this;lia
  refine ⟨[.fz G.d,.fz (.lst (rows.map Rw.d)),.fz (.dct (Tr (rows.map Rw.st))),.fz (Zl r.st),.ow (Zd ((List.range k).filter (M2 G r.m))),.fz (.int (k:Int)),.fz s.d,v7],rfl,?_⟩;have hlc:∀ v4 v7:Slt,Yu Ul (Z2 (dV 6) (Z2 (dO V1 (dV 3) (dC (.int 0))) Zc)) [.fz G.d,.fz (.lst (rows.map Rw.d)),.fz (.dct (Tr (rows.map Rw.st))),.fz (Zl r.st),v4,.fz (.int (k:Int)),.fz s.d,v7]=some (.bl (Vp s r.m)):=fun _ _=>Zq (xs:=[s.d,.int (r.m:Int)]) (Z4 rfl (Z4 (Z5 rfl rfl rfl) rfl)) (Xo s r.m)
  refine Z6 (Jn (Yo ((Z5 (Zq (xs:=[G.d,Zl r.st,.int (k:Int)]) rfl (Z2k G hG r.m _ k s hs)) (hlc _ _) (Zdo _ _)).trans (by simp))) (Wa ?_));refine Qe (Ek (hlc _ _)) (fun hcan=>?_) (fun hcan=>Wa (by rw [hrange,hcan,if_neg (by decide),append_nil];exact ⟨_,_,_,rfl⟩));rw [hrange,hcan,if_pos rfl];have hf:=W.ok r (mem_of_getElem? hr) k s hs hcan;obtain ⟨q,eq,hq⟩:=Av s (hG.st s hsm) hG.w2 r.m r.c (W7.mp hcan);rw [Ar (p:=r.st) hf hq] at eq;obtain ⟨r',hr'm,hr's,hleq⟩:=W.cl n r hr k s hs hcan;obtain ⟨j,hj⟩:=getElem?_of_mem hr'm;have hjs:(rows.map Rw.st)[j]?=some (W1 s r.st):=by rw [hat hj,hr's]
  generalize (List.range k).filter (M2 G r.m)=l at *;refine Z6 (T5 (ds:=Zd l) (as:=[.int (k:Int)]) (ds':=Zd (l++[k])) rfl rfl (by rw [Vk hll,← Jh];rfl) ?_);refine Z6 (Zg (d:=Zl (W1 s r.st)) (Zq (xs:=[s.d,Zl r.st]) rfl eq) ?_);refine Z6 (Jn (Xu (a:=false) (b:=false) (Ek (Zbw (t:="tuple") rfl rfl rfl)) fun _=>Xu (a:=false) (b:=false) (Yo ((Z5 (Zq (xs:=[G.d,Zl r.st,.int (k:Int)]) rfl (La G hG r.st k s hs hf)) rfl (Fy _ _)).trans (by simp))) fun _=>Yo (Fp (neg:=true) hnd hjs rfl rfl)) (Wa ?_));refine Jn ?_ (Wa ⟨.fz (.int (k:Int)),.fz s.d,.fz (Zl (W1 s r.st)),rfl⟩);have hg1:=A0 (f:=dP 2) (g:=dV 7) (env:=[.fz G.d,.fz (.lst (rows.map Rw.d)),.fz (.dct (Tr (rows.map Rw.st))),.fz (Zl r.st),.ow (Zd (l++[k])),.fz (.int (k:Int)),.fz s.d,.fz (Zl (W1 s r.st))]) hnd hjs rfl rfl;have hg2:=A0 (f:=dP 2) (g:=dV 3) (env:=[.fz G.d,.fz (.lst (rows.map Rw.d)),.fz (.dct (Tr (rows.map Rw.st))),.fz (Zl r.st),.ow (Zd (l++[k])),.fz (.int (k:Int)),.fz s.d,.fz (Zl (W1 s r.st))]) hnd (hat hr) rfl rfl;rcases eq_zero_or_pos j with z | z
  ·exact Sj (a:=false) (b:=false) (Yo ((Z5 hg1 rfl (gtN j)).trans (by rw [z];rfl))) fun y=>by cases y
  ·obtain ⟨f,k',s',rf,a1,_⟩:=W.t.src j r' hj z
   have hd:r'.d=.tup [.int (r'.m:Int),.int (r'.c:Int),.int (f:Int),.int (k':Int)]:=by unfold Rw.d;rw [a1]
   have hix:V1 (.lst (rows.map Rw.d)) (.int (j:Int))=some r'.d:=Jx (by rw [getElem?_map,hj];rfl);refine Sj (a:=true) (b:=false) (Yo ((Z5 hg1 rfl (gtN j)).trans (by rw [decide_eq_true z]))) fun _=>Yo (Z5 (Mr (z:=.tup [.int (f:Int),.int (k':Int)]) (Z5 rfl hg1 hix) (V0 rfl) rfl (by rw [hd];rfl)) (Y5 (Z4 hg2 (Z4 rfl rfl)) (by simp)) (Z90 (hleq f k' a1)))
 ·rintro e ⟨v5,v6,v7,rfl⟩
  rw [Tc,length_map];exact Gj rfl rfl
theorem Z5e {G:G3} {c:Str} {fl:List (Str×XD)} (h:Qa [G.d,.int 400]=.exc c fl) (hc:c∈(N24_:List Str)):Tb [G.d,.int 400]=.ok .non:=by
 refine Qf (W3 (n:=3) (p:=2) (ds:=[G.d,.int 400]) (g:=Wc) (R:=fun d=>d=.non) rfl ?_);show Go (Wc [.fz G.d,.fz (.int 400),.un]) _ _;unfold Wc;refine Z6 (Zg (d:=.non) rfl ?_);refine Z6 ⟨?_⟩;unfold Ou;rw [Os (ds:=[G.d,.int 400]) rfl h];dsimp only;rw [if_pos hc,if_pos rfl];exact Ym rfl rfl
theorem Z2r {G:G3} {d:Dat} (h:Qa [G.d,.int 400]=.ok d):Tb [G.d,.int 400]=.ok d:=by
 refine Qf (W3 (n:=3) (p:=2) (ds:=[G.d,.int 400]) (g:=Wc) (R:=fun d'=>d'=d) rfl ?_);show Go (Wc [.fz G.d,.fz (.int 400),.un]) _ _;unfold Wc;refine Z6 (Zg (d:=.non) rfl ?_);refine Z6 ⟨?_⟩;unfold Ou;rw [Bb (ds:=[G.d,.int 400]) rfl h];exact Ym rfl rfl
structure CalmL (G:G3) (I:Nat×Nat->Prop):Prop where
 calm:Calm G I
 live:∀ p,I p->∃ s∈G.steps,Vp s p.1=true
theorem Gr (f:Nat->Nat):∀ n,0<n->∃ d,d<n/\∀ e,e<n->f d<=f e
 | 0,h=>by lia
 | 1,_=>⟨0,by lia,fun e he=>by rw [show e=0 by lia];exact le_refl _⟩
 | n+2,_=>by
  obtain ⟨d,h1,h2⟩:=Gr f (n+1) (by lia);by_cases h:f d<=f (n+1)
  ·refine ⟨d,by lia,fun e he=>?_⟩
   rcases lt_or_ge e (n+1) with z | z
   ·exact h2 e z
   ·rw [show e=n+1 by lia];exact h
  ·refine ⟨n+1,by lia,fun e he=>?_⟩
   rcases lt_or_ge e (n+1) with z | z
   ·have:=h2 e z;lia
   ·rw [show e=n+1 by lia];exact le_refl _
def RC (s0:Nat) (rs:List (Nat×Nat)) (p:Nat×Nat):Prop:=∃ c:Nat->Nat,∀ (t:Nat) (q:Nat×Nat),rs[t]?=some q->c q.2<=c q.1/\c q.1<=c q.2+1/\(p.1.testBit (s0+2*t)=true↔c q.1=c q.2+1)/\(p.1.testBit (s0+2*t+1)=true↔c q.1=c q.2)
theorem Cs {G:G3} {n s0:Nat} {ps:List Nat} {rs:List (Nat×Nat)} (h:RG G n s0 (Vq ps) (Vo ps) rs) (hn1:1<=n) (hn:n<=4) (hl:Z8v G n s0 ps rs):CalmL G fun p=>(∃ k,k<2^(2*n)/\RI G n s0 (Vq ps) (Vo ps) rs k p)/\RC s0 rs p:=by
 have hc:=Cu h hn;refine ⟨⟨⟨hc.ini,fun _=>0,fun t q e=>⟨le_refl _,le_succ _,?_,?_⟩⟩,fun p s hi=>hc.lev p s hi.1,fun p s hi=>hc.room p s hi.1,fun p s hi hs hcan=>⟨hc.nxt p s hi.1 hs hcan,?_⟩,fun l hnd hI=>hc.few l hnd fun p hp=>(hI p hp).1⟩,fun p hi=>?_⟩
 ·refine ⟨fun hh=>?_,fun hh=>by simp at hh⟩
  obtain ⟨t',_,e'⟩:=(h.mks _).mp hh;lia
 ·exact ⟨fun _=>rfl,fun _=>(h.mks _).mpr ⟨t,(List.getElem?_eq_some_iff.mp e).1,rfl⟩⟩
 ·obtain ⟨c,hcq⟩:=hi.2
  obtain ⟨d,hd⟩:=h.st s hs;have hcan:=W7.mp hcan;refine ⟨fun x=>if x=d then c x+1 else c x,fun t q e=>?_⟩;obtain ⟨a1,a2,a3,a4⟩:=hcq t q e;have hlt:=(hl.1 q (mem_of_getElem? e)).1;have ta:=hd.tk.a e;have tb:=hd.tk.b e;have fa:=hd.fl.a e;have fb:=hd.fl.b e;have m1:=M8 s p (s0+2*t);have m2:=M8 s p (s0+2*t+1);show (if q.2=d then c q.2+1 else c q.2)<=(if q.1=d then c q.1+1 else c q.1)/\(if q.1=d then c q.1+1 else c q.1)<=(if q.2=d then c q.2+1 else c q.2)+1/\((W1 s p).1.testBit (s0+2*t)=true↔(if q.1=d then c q.1+1 else c q.1)=(if q.2=d then c q.2+1 else c q.2)+1)/\((W1 s p).1.testBit (s0+2*t+1)=true↔(if q.1=d then c q.1+1 else c q.1)=(if q.2=d then c q.2+1 else c q.2));by_cases e1:q.1=d
  ·have e2:q.2≠d:=by lia
   have hb:=a4.mp (hcan _ (tb.mpr e1));rw [decide_eq_true (fa.mpr e1),Bool.or_true] at m1;rw [decide_eq_true (tb.mpr e1),decide_eq_false (fun z=>e2 (fb.mp z))] at m2;rw [if_pos e1,if_neg e2,m1,m2];refine ⟨by lia,by lia,⟨fun _=>by lia,fun _=>rfl⟩,⟨fun z=>by simp at z,fun z=>by lia⟩⟩
  ·by_cases e2:q.2=d
   ·have hb:=a3.mp (hcan _ (ta.mpr e2))
    rw [decide_eq_true (ta.mpr e2),decide_eq_false (fun z=>e1 (fa.mp z))] at m1;rw [decide_eq_true (fb.mpr e2),Bool.or_true] at m2;rw [if_neg e1,if_pos e2,m1,m2];refine ⟨by lia,by lia,⟨fun z=>by simp at z,fun z=>by lia⟩,⟨fun _=>by lia,fun _=>rfl⟩⟩
   ·rw [decide_eq_false (fun z=>e2 (ta.mp z)),decide_eq_false (fun z=>e1 (fa.mp z))] at m1
    rw [decide_eq_false (fun z=>e1 (tb.mp z)),decide_eq_false (fun z=>e2 (fb.mp z))] at m2;rw [if_neg e1,if_neg e2,m1,m2];refine ⟨a1,a2,?_,?_⟩
    ·simpa using a3
    ·simpa using a4
 ·obtain ⟨c,hcq⟩:=hi.2
  obtain ⟨d,hd1,hd2⟩:=Gr (fun x=>c x*(2*n)+x) (2*n) (by lia);obtain ⟨s,hs,hd⟩:=hl.2 d hd1;refine ⟨s,hs,W7.mpr fun x hx=>?_⟩;obtain ⟨t,q,e,hq⟩:=(hd.tk x).mp hx;obtain ⟨a1,a2,a3,a4⟩:=hcq t q e;obtain ⟨b1,b2⟩:=hl.1 q (mem_of_getElem? e);rcases hq with ⟨rfl,z⟩ | ⟨rfl,z⟩
  ·have z:q.2=d:=z
   have:=hd2 q.1 (by lia);refine a3.mpr ?_;rcases lt_or_ge (c q.2) (c q.1) with y | y
   ·lia
   ·have e3:c q.1=c d:=by rw [← z];lia
    have:c d*(2*n)+d<=c q.1*(2*n)+q.1:=this;rw [e3] at this;lia
  ·have z:q.1=d:=z
   have:=hd2 q.2 b2;refine a4.mpr ?_;rcases lt_or_ge (c q.2) (c q.1) with y | y
   ·exfalso
    have:c d*(2*n)+d<=c q.2*(2*n)+q.2:=this;rw [← z] at this;have h3:(c q.2+1)*(2*n)<=c q.1*(2*n):=Nat.mul_le_mul_right _ y;rw [Nat.succ_mul] at h3;lia
   ·lia
theorem Z11 {G:G3} {b:Nat} {L:Nat->Nat} (h:OneT G b L) (hl:Z9n G b):CalmL G fun p=>(∃ k,k<64/\p=(2^k,L k))/\∃ s∈G.steps,Vp s p.1=true:=by
 have hc:=Z1z h;have can1:∀ (s:St3) (x:Nat),s.takes=[x]->Vp s (2^x)=true:=fun s x e=>W7.mpr fun q hq=>by
  rw [e] at hq;rw [mem_singleton.mp hq,testBit_two_pow,decide_eq_true rfl]
 refine ⟨⟨⟨hc.ini,?_⟩,fun p s hi=>hc.lev p s hi.1,fun p s hi=>hc.room p s hi.1,fun p s hi hs hcan=>⟨hc.nxt p s hi.1 hs hcan,?_⟩,fun l hnd hI=>hc.few l hnd fun p hp=>(hI p hp).1⟩,fun p hi=>hi.2⟩
 ·obtain ⟨s,hs,e⟩:=hl.1
  exact ⟨s,hs,by show Vp s G.marks=true;rw [h.ma];exact can1 s b e⟩
 ·obtain ⟨k,hk,e⟩:=hc.nxt p s hi.1 hs hcan
  obtain ⟨s',hs',e'⟩:=hl.2 s hs;refine ⟨s',hs',?_⟩;obtain ⟨x,y,_,_,_,h4,h5,_⟩:=h.st s hs;have hy:(W1 s p).1.testBit y=true:=by rw [M8,decide_eq_true (show y∈s.fills by rw [h5];simp)];simp
  refine W7.mpr fun q hq=>?_
  rw [e',h5] at hq;rw [mem_singleton.mp hq];exact hy
theorem Bp {G G':G3} {z:Nat} {I:Nat×Nat->Prop} (h:LookI G G' z) (hc:CalmL G I):CalmL G' fun p=>∃ m,m.testBit z=false/\p.1=m ||| 2^z/\I (m,p.2):=by
 refine ⟨Cg h.look hc.calm,?_⟩;rintro p ⟨m,h1,h2,h3⟩;obtain ⟨s,hs,hcan⟩:=hc.live _ h3;obtain ⟨i,hi⟩:=getElem?_of_mem hs;have hil:=(List.getElem?_eq_some_iff.mp hi).1;obtain ⟨s',hs'⟩:∃ s',G'.steps[i]?=some s':=⟨_,getElem?_eq_getElem (by rw [h.len];exact hil)⟩;obtain ⟨s2,e2,b,_,_,_,_,ht,_⟩:=h.st i s' hs';rw [hi] at e2;cases e2;refine ⟨s',mem_of_getElem? hs',W7.mpr fun q hq=>?_⟩;rw [h2,testBit_or,testBit_two_pow];rcases (ht q).mp hq with k | ⟨_,k⟩
 ·rw [W7.mp hcan q k];rfl
 ·rw [k,decide_eq_true rfl,Bool.or_true]
theorem Fs {G:G3} {I:Nat×Nat->Prop} (hc:Calm G I) {rows:List Rw} (t:TT G rows):∀ r∈rows,I r.st:=by
 have key:∀ (n:Nat) (r:Rw),rows[n]?=some r->I r.st:=by
  intro n;induction n using strongRecOn with
  | _ n ih =>
   intro r hr;rcases eq_zero_or_pos n with z | z
   ·subst z
    rw [t.zero] at hr;cases hr;exact hc.ini
   ·obtain ⟨f,k,s,rf,_,a2,a3,a4,a5,a6⟩:=t.src n r hr z
    rw [a6];exact hc.nxt rf.st s (ih f a2 rf a4) (mem_of_getElem? a3) a5
 intro r hr;obtain ⟨n,hn⟩:=getElem?_of_mem hr;exact key n r hn
theorem Z5b {G:G3} {I:Nat×Nat->Prop} (hc:Calm G I) {c:Str} (h:Nf G 400 c):False:=by
 rcases h with ⟨_,rows,t,hl⟩ | ⟨_,rows,r,k,s,t,hr,hs,hcan,hf⟩
 ·have:=hc.few (rows.map Rw.st) t.nd fun p hp=>by obtain ⟨r,hr,rfl⟩:=mem_map.mp hp;exact Fs hc t r hr
  rw [length_map] at this;lia
 ·have hI:=Fs hc t r hr
  have hm:=mem_of_getElem? hs;exact hf ⟨hcan,hc.lev _ s hI hm hcan,hc.room _ s hI hm hcan⟩
theorem Zdn (a p:Nat) (ha:a<18446744073709551616) (hp:p<=1000):Q6 (.int (a:Int)) (.int (p:Int))=some (.int ((a*2^p:Nat):Int)):=by
 unfold Q6 Gm;dsimp only;rw [if_pos ⟨by lia,by lia,by lia⟩,Int.toNat_natCast];first | rfl | (congr 2;rw [Int.natCast_mul,Int.natCast_pow];rfl) | congr 2
theorem Z7s (r m:Nat) (h:0<m) (h2:m<18446744073709551616):Fz (.int (r:Int)) (.int (m:Int))=some (.int ((r / m:Nat):Int)):=by
 unfold Fz Gm;dsimp only;rw [if_pos ⟨by lia,by lia⟩];rfl
theorem L6 (low size b:Nat):∃ l:List Nat,Vc (Yj 0) (dB (dO Jj (dO Tf (dO J6 (dV 2) (dV 0)) (dC (.int 1))) (dC (.int 1)))) (dO Y8 (dV 1) (dV 0)) [.un,.fz (.int (low:Int)),.fz (.int (b:Int))] (rng 0 size)=some (Zd l)/\(∀ p∈l,p<low+size)/\l.Nodup:=by
 have hc:=Q9 (g:=Yj 0) (t:=dB (dO Jj (dO Tf (dO J6 (dV 2) (dV 0)) (dC (.int 1))) (dC (.int 1)))) (f:=dO Y8 (dV 1) (dV 0)) (env:=[.un,.fz (.int (low:Int)),.fz (.int (b:Int))]) (fun k:Nat=>Dat.int (k:Int)) (fun k:Nat=>Dat.int ((low+k:Nat):Int)) (fun p=>b.testBit p) (List.range size) fun p _=>⟨[.fz (.int (p:Int)),.fz (.int (low:Int)),.fz (.int (b:Int))],rfl,Yo (Z5 (Z5 (Z5 rfl rfl (Kd b p)) rfl (Mk b p)) rfl (Js _)),Z5 rfl rfl (V5 low p)⟩
 rw [← G8] at hc;refine ⟨((List.range size).filter fun p=>b.testBit p).map (low+·),by rw [hc];unfold Zd;rw [map_map,map_map];rfl,fun p hp=>?_,?_⟩
 ·obtain ⟨q,hq,rfl⟩:=mem_map.mp hp
  have:=mem_range.mp (mem_filter.mp hq).1;lia
 ·have h:((List.range size).filter fun p=>b.testBit p).Nodup:=List.nodup_range.sublist List.filter_sublist
  exact List.Pairwise.map _ (fun a b (h:a≠b)=>by lia) h
theorem Z65 (c:Nat):∃ G:G3,V9 [.int (c:Int)]=.ok G.d/\Gb 64 G:=by
 have:=W3 (n:=16) (p:=1) (ds:=[.int (c:Int)]) (g:=W0) (R:=fun d=>∃ G:G3,d=G.d/\Gb 64 G) rfl ?_
 ·obtain ⟨d,e,z,rfl,h⟩:=this
  exact ⟨z,e,h⟩
 show Go (W0 [.fz (.int (c:Int)),.un,.un,.un,.un,.un,.un,.un,.un,.un,.un,.un,.un,.un,.un,.un]) _ _;unfold W0;obtain ⟨n,hn,hn1,hn2⟩:∃ n:Nat,1+c % 4=n/\1<=n/\n<=4:=⟨_,rfl,by lia,by lia⟩;refine Z6 (Zg (d:=.int (n:Int)) (by rw [← hn];exact Z5 rfl (Z5 rfl rfl (Wq c 4 (by lia))) (V5 1 _)) ?_);refine Z6 (Zg (Z5 (Z5 rfl rfl (Yv c 4 (by lia) (by lia))) rfl (Wq _ 16 (by lia))) ?_);generalize c / 4 % 16=kinds;refine Z6 (Zg (Z5 (Z5 rfl rfl (Yv c 64 (by lia) (by lia))) (Z5 rfl rfl (Mm n (by lia))) (Wq _ (2^n) (two_pow_pos _))) ?_);generalize c / 64 % 2^n=code;obtain ⟨size,hz,hz1,hz2⟩:∃ z:Nat,1+c / 1024 % 6=z/\1<=z/\z<=6:=⟨_,rfl,by lia,by lia⟩;refine Z6 (Zg (d:=.int (size:Int)) (by rw [← hz];exact Z5 rfl (Z5 (Z5 rfl rfl (Yv c 1024 (by lia) (by lia))) rfl (Wq _ 6 (by lia))) (V5 1 _)) ?_);refine Z6 (Zg (Z5 (Z5 rfl rfl (Yv c 6144 (by lia) (by lia))) (Z5 rfl rfl (Z16 65 size (by lia))) (Wq _ (65 - size) (by lia))) ?_);have hlow:c / 6144 % (65 - size)<65 - size:=mod_lt _ (by lia);generalize c / 6144 % (65 - size)=low at hlow;refine Z6 (Zg (Z5 (Z5 rfl rfl (Yv c 614400 (by lia) (by lia))) (Z5 rfl rfl (Mm size (by lia))) (Wq _ (2^size) (two_pow_pos _))) ?_);have hmk:c / 614400 % 2^size<2^size:=mod_lt _ (two_pow_pos _);generalize c / 614400 % 2^size=mk at hmk;obtain ⟨many,hm,hm1,hm2⟩:∃ z:Nat,1+c / 39321600 % 8=z/\1<=z/\z<=8:=⟨_,rfl,by lia,by lia⟩;refine Z6 (Zg (d:=.int (many:Int)) (by rw [← hm];exact Z5 rfl (Z5 (Z5 rfl rfl (Yv c 39321600 (by lia) (by lia))) rfl (Wq _ 8 (by lia))) (V5 1 _)) ?_);have hp6:Z3a (.int 10) (.int 6)=some (.int ((1000000:Nat):Int)):=by
  unfold Z3a Gm;dsimp only;rw [if_pos ⟨by lia,by lia,by lia⟩];rfl
 refine Z6 (Zg (Z5 (Z5 rfl rfl (Yv c 314572800 (by lia) (by lia))) (Z5 rfl rfl hp6) (Wq _ 1000000 (by lia))) ?_);generalize c / 314572800 % 1000000=word;refine Z6 (Zg (Z5 rfl (Z5 rfl (Z5 rfl rfl hp6) (Z7y 314572800 1000000 (by lia))) (Z7s c _ (by lia) (by lia))) ?_);generalize c / (314572800*1000000)=c1;refine Z6 (Qz (ds:=([]:List St3).map St3.d) rfl ?_);have hpow:1<2^size:=Nat.one_lt_two_pow (by lia);refine Z6 (Vb (ds:=rng 0 many) (fun i e=>∃ (ss:List St3) (c':Nat) (v10 v11 v12 v13 v14:Slt),e=[.fz (.int (c':Int)),.fz (.int (n:Int)),.fz (.int (kinds:Int)),.fz (.int (code:Int)),.fz (.int (size:Int)),.fz (.int (low:Int)),.fz (.int (mk:Int)),.fz (.int (many:Int)),.fz (.int (word:Int)),.ow (ss.map St3.d),v10,v11,v12,v13,v14,.un]/\ss.length=i/\∀ s∈ss,SB 64 n s) (Ws (Z4 rfl rfl) (by lia)) ⟨[],c1,.un,.un,.un,.un,.un,rfl,rfl,by simp⟩ ?_ ?_)
 ·rintro i d e hi ⟨ss,c',v10,v11,v12,v13,v14,rfl,hsl,hsk⟩
  obtain ⟨hi1,rfl⟩:=Jr hi;rw [Int.zero_add];refine ⟨_,rfl,?_⟩;refine Z6 (Zg (Z5 rfl (Z5 (Z5 rfl rfl (Yv c' 8 (by lia) (by lia))) (Z5 (Z5 rfl rfl (Mm size (by lia))) rfl (Z16 (2^size) 1 (by lia))) (Wq _ (2^size - 1) (by lia))) (V5 1 _)) ?_);refine Z6 (Zg (Z5 rfl (Z5 (Z5 rfl rfl (Yv c' 512 (by lia) (by lia))) (Z5 (Z5 rfl rfl (Mm size (by lia))) rfl (Z16 (2^size) 1 (by lia))) (Wq _ (2^size - 1) (by lia))) (V5 1 _)) ?_);generalize 1+c' / 8 % (2^size - 1)=b1;generalize 1+c' / 512 % (2^size - 1)=b2;obtain ⟨t,et,t1,t2⟩:=L6 low size b1;obtain ⟨f,ef,f1,f2⟩:=L6 low size b2;refine Z6 (Zg (d:=.tup (Zd t)) (Ys (Z4 (Ve (Vr (xs:=rng 0 size) (Ws (Z4 rfl rfl) (by lia)) rfl et)) rfl) rfl) ?_);refine Z6 (Zg (d:=.tup (Zd f)) (Ys (Z4 (Ve (Vr (xs:=rng 0 size) (Ws (Z4 rfl rfl) (by lia)) rfl ef)) rfl) rfl) ?_);have hw:c' % 4 % n<n:=mod_lt _ (by lia);refine Z6 (T5 (ds:=ss.map St3.d) (as:=[(⟨c' % 4 % n,c' / 4 % 2==1,t,f⟩:St3).d]) (ds':=(ss++[(⟨c' % 4 % n,c' / 4 % 2==1,t,f⟩:St3)]).map St3.d) rfl (Z4 (Y5 (Z4 (Z5 (Z5 rfl rfl (Wq c' 4 (by lia))) rfl (Wq _ n (by lia))) (Z4 (Z5 (Z5 (Z5 rfl rfl (Yv c' 4 (by lia) (by lia))) rfl (Wq _ 2 (by lia))) rfl (eqN _ 1)) (Z4 rfl (Z4 rfl rfl)))) (by simp)) rfl) (by rw [Vk (by rw [length_map];lia),map_append];rfl) ?_);refine Zg (Z5 rfl rfl (Yv c' 32768 (by lia) (by lia))) ⟨_,_,_,_,_,_,_,rfl,by rw [length_append,length_singleton,hsl],fun s hs=>?_⟩;rcases mem_append.mp hs with h | h
  ·exact hsk s h
  ·rw [mem_singleton.mp h]
   exact ⟨hw,fun p hp=>by have:=t1 p hp;lia,fun p hp=>by have:=f1 p hp;lia,t2,f2⟩
 ·rintro e ⟨ss,c',v10,v11,v12,v13,v14,rfl,hsl,hsk⟩
  rw [Uz] at hsl;obtain ⟨ws,ew,wl,_⟩:=Iy (g:=Yj 0) (f:=Yi (Z2 (Yu Yr (Z2 (dV 1) (Z2 (dV 0) Zc))) (Z2 (dO V1 (dL (Vu (Z2 (dC (.str "given")) (Z2 (dC (.str "made")) Zc)))) (dO Tf (dO J6 (dV 2) (dV 0)) (dC (.int 1)))) Zc))) (env:=[.un,.fz (.int (word:Int)),.fz (.int (kinds:Int))]) M9 (fun _=>True) (rng 0 n) fun x hx=>by
   obtain ⟨i,hi,rfl⟩:=Bd hx;rw [Int.zero_add];obtain ⟨z,ez⟩:=Gk word i;have e1:V1 (.lst [.str "given",.str "made"]) (.int (if kinds.testBit i then 1 else 0))=some (.str (if kinds.testBit i then "made" else "given")):=by cases kinds.testBit i<;>rfl
   exact ⟨[.fz (.int (i:Int)),.fz (.int (word:Int)),.fz (.int (kinds:Int))],(z,kinds.testBit i),rfl,Y5 (Z4 (Zq (xs:=[.int (word:Int),.int (i:Int)]) rfl ez) (Z4 (Z5 (x:=.lst [.str "given",.str "made"]) rfl (Z5 (Z5 rfl rfl (Kd kinds i)) rfl (Mk kinds i)) e1) rfl)) (by simp),trivial⟩
  rw [Uz] at wl;refine Z6 (Zg (d:=.lst (ws.map M9)) (Ve (Vr (xs:=rng 0 n) (Ws (Z4 rfl rfl) (by lia)) rfl ew)) ?_);have h64:mk<18446744073709551616:=lt_of_lt_of_le hmk (le_trans (pow_le_pow_right (by lia) (show size<=6 from hz2)) (by decide));refine Ym (Y5 (Z4 (Ys (Z4 rfl rfl) rfl) (Z4 (Ys (Z4 rfl rfl) rfl) (Z4 (Z5 rfl rfl (Zdn mk low h64 (by lia))) rfl))) (by simp)) ⟨⟨ws,ss,mk*2^low,code⟩,rfl,by show ws.length<=10;lia,by show 1<=ss.length;lia,by show ss.length<=24;lia,fun s hs=>by show SB 64 ws.length s;rw [wl];exact hsk s hs,?_⟩;show mk*2^low<2^64;refine lt_of_lt_of_le (Nat.mul_lt_mul_of_pos_right hmk (two_pow_pos _)) ?_;rw [← Nat.pow_add];exact pow_le_pow_right (by lia) (by lia)
theorem Z5h {G:G3} {k:Nat} {s:St3} (h:G.steps[k]?=some s):V1 (.tup (G.steps.map St3.d)) (.int (k:Int))=some s.d:=Dd (by rw [getElem?_map,h];rfl)
theorem Z6y (ks:List Nat):Jj (.lst (Zd ks)) (.lst [])=some (.bl ks.isEmpty):=by
 unfold Jj;rw [(C1 ks).1];cases ks<;>rfl
theorem Z1w {e:Ev} {f:Ev->Option (List Dat)} {b:Nat} (h:f e=some [.int 1,.int (b:Int)]) (h1:1<=b) (h2:b<=1000):Pi f e=some (rng 1 (b - 1)):=by
 unfold Pi;rw [h];dsimp only;have e1:((b:Int) - 1).toNat=b - 1:=by lia
 rw [e1,if_pos ⟨⟨by lia,by lia,by lia,by lia⟩,by rw [sizeLine_eq];lia⟩]
theorem Z0z {n i:Nat} {d:Dat} (h:(rng 1 n)[i]?=some d):i<n/\d=.int ((1+i:Nat):Int):=by
 unfold rng at h;rw [getElem?_map] at h;obtain ⟨k,hk,rfl⟩:=map_some h;have hl:=(List.getElem?_eq_some_iff.mp hk).1;rw [length_range] at hl;rw [getElem?_range hl] at hk;cases hk;exact ⟨hl,by first | rfl | (congr 1;lia)⟩
theorem Z7k (ns:List Int) (hl:ns.length<=63):Z6f [.lst (ns.map .int)]=.ok (.bl true):=by
 refine Qf (W3 (n:=11) (p:=1) (ds:=[Uy ns]) (g:=Li) (R:=fun d=>d=.bl true) rfl ?_);show Go (Li [.fz (Uy ns),.un,.un,.un,.un,.un,.un,.un,.un,.un,.un]) _ _;unfold Li;obtain ⟨c,ec,lc⟩:=Mf ns 0 (by lia);refine Z6 (Zg (Zq (xs:=[Uy ns,.int ((0:Nat):Int)]) rfl ec) ?_);refine Z6 (Zg (Z5 (Z5 (Z5 rfl rfl (Yv c 3 (by lia) (by lia))) rfl (Wq _ 2 (by lia))) rfl (eqN _ 0)) ?_);obtain ⟨free,hfr⟩:∃ b:Bool,(c / 3 % 2==0)=b:=⟨_,rfl⟩;rw [hfr]
 -- the graph
 refine Z6 (Go.mono (N:=fun e=>∃ G:G3,e=[.fz (Uy ns),.fz (.int (c:Int)),.fz (.bl free),.fz G.d,.un,.un,.un,.un,.un,.un,.un]/\((free=true/\Gb 64 G)\/(free=false/\Gb 54 G/\(∃ I,CalmL G I)))) ?_ ?_ (fun _ h=>h))
 ·refine Qe (Ek rfl) (fun hb=>?_) (fun hb=>?_)
  ·obtain ⟨a,ha⟩:∃ a:Nat,(dF Z47 (Z2 (dF Xb (Z2 (dS Kh (dV 0) (Va (dC (.int 1))) (Va (dC (.int 2)))) Zc)) Zc)) [.fz (Uy ns),.fz (.int (c:Int)),.fz (.bl free),.un,.un,.un,.un,.un,.un,.un,.un]=some (.int (a:Int)):=by
    have e1:dS Kh (dV 0) (Va (dC (.int 1))) (Va (dC (.int 2))) [.fz (Uy ns),.fz (.int (c:Int)),.fz (.bl free),.un,.un,.un,.un,.un,.un,.un,.un]=some (.lst ((Ue ns (some 1) (some 2)).map .int)):=by
     refine Mr rfl (V0 rfl) (V0 rfl) ?_;show some (Dat.lst (Ue (ns.map Dat.int) (some 1) (some 2)))=_;rw [M3]
    have e2:=Ys (F:=Xb) (fs:=Z2 (dS Kh (dV 0) (Va (dC (.int 1))) (Va (dC (.int 2)))) Zc) (Z4 e1 rfl) (Bj _);refine ⟨(Ue ns (some 1) (some 2)).sum.natAbs,Ys (Z4 e2 rfl) ?_⟩;show some (Dat.int (if (Ue ns (some 1) (some 2)).sum<0 then -(Ue ns (some 1) (some 2)).sum else (Ue ns (some 1) (some 2)).sum))=_;congr 2
    split<;>lia
   obtain ⟨G,e,h1⟩:=Z65 a;exact Zg (Zq (xs:=[.int (a:Int)]) (Z4 ha rfl) e) ⟨G,rfl,.inl ⟨hb,h1⟩⟩
  ·refine Qe (Yo (Z5 (Z5 rfl rfl (Wq c 3 (by lia))) rfl (eqN _ 0))) (fun hb2=>?_) (fun hb2=>?_)
   ·obtain ⟨G,b,L,e,h1,h2,h3⟩:=Ct ns 1 (by lia)
    exact Zg (Zq (xs:=[Uy ns,.int ((1:Nat):Int)]) rfl e) ⟨G,rfl,.inr ⟨hb,h2,⟨_,Z11 h1 h3⟩⟩⟩
   ·obtain ⟨G,s0,ps,rs,e,h1,h2,h3,h4⟩:=Z2j ns 1 (1+c / 6 % 4) (c / 24 % 5) (by lia) (by lia) (by lia) (by lia)
    exact Zg (Zq (xs:=[Uy ns,.int ((1:Nat):Int),.int ((1+c / 6 % 4:Nat):Int),.int ((c / 24 % 5:Nat):Int)]) (Z4 rfl (Z4 rfl (Z4 (Z5 rfl (Z5 (Z5 rfl rfl (Yv c 6 (by lia) (by lia))) rfl (Wq _ 4 (by lia))) (V5 1 _)) (Z4 (Z5 (Z5 rfl rfl (Yv c 24 (by lia) (by lia))) rfl (Wq _ 5 (by lia))) rfl)))) e) ⟨G,rfl,.inr ⟨hb,h2,⟨_,Cs h1 (by lia) (by lia) h4⟩⟩⟩
 rintro e ⟨G,rfl,hcase⟩;refine Z6 (Go.mono (N:=fun e=>∃ G:G3,e=[.fz (Uy ns),.fz (.int (c:Int)),.fz (.bl free),.fz G.d,.un,.un,.un,.un,.un,.un,.un]/\Gb 64 G/\(free=false->(∃ I,CalmL G I))) ?_ ?_ (fun _ h=>h))
 ·refine Qe (Sj (B8 (Ek rfl)) fun _=>Yo (Z5 (Z5 (Z5 rfl rfl (Yv c 4096 (by lia) (by lia))) rfl (Wq _ 3 (by lia))) rfl (eqN _ 0))) (fun hb=>?_) (fun hb=>Wa ?_)
  ·have hf:free=false:=by simpa using (Bool.and_eq_true_iff.mp hb).1
   rcases hcase with ⟨z,_⟩ | ⟨_,h1,⟨I,h2⟩⟩
   ·rw [hf] at z;cases z
   obtain ⟨G',z,e,k1,k2⟩:=F8 G h1 (c / 12288);exact Zg (Zq (xs:=[G.d,.int ((c / 12288:Nat):Int)]) (Z4 rfl (Z4 (Z5 rfl rfl (Yv c 12288 (by lia) (by lia))) rfl)) e) ⟨G',rfl,k2,fun _=>⟨_,Bp k1 h2⟩⟩
  ·refine ⟨G,rfl,?_,fun hf=>?_⟩
   ·rcases hcase with ⟨_,h1⟩ | ⟨_,h1,_⟩
    ·exact h1
    ·exact Gb.up h1
   ·rcases hcase with ⟨z,_⟩ | ⟨_,_,h2⟩
    ·rw [hf] at z;cases z
    ·exact h2
 clear hcase G;rintro e ⟨G,rfl,hG,hcalm⟩;rcases Fm hG 400 (by lia) (by lia) with ⟨d,es,rows,rfl,W⟩ | ⟨cc,fl,es,hr⟩
 case inr =>
  have hcc:cc∈(N24_:List Str):=by
   rcases hr with ⟨rfl,_⟩ | ⟨rfl | rfl,_⟩<;>decide
  refine Z6 (Zg (Zq (xs:=[G.d,.int 400]) rfl (Z5e es hcc)) ?_);refine Z6 (Z33 (Yo (Z5 rfl rfl rfl)) (Ym (d:=.bl true) ?_ rfl));cases hf:free with
  | true=>rfl
  | false =>
   obtain ⟨I,hI⟩:=hcalm hf;exact (Z5b hI.calm hr).elim
 have hnd:=W.t.nd;have hle:=W.le;have hat:∀ {j:Nat} {r':Rw},rows[j]?=some r'->(rows.map Rw.st)[j]?=some r'.st:=fun h=>by rw [getElem?_map,h];rfl
 refine Z6 (Zg (Zq (xs:=[G.d,.int 400]) rfl (Z2r es)) ?_);refine Z6 (Jn (Yo (Z5 rfl rfl rfl)) (Wa ?_));refine Z6 (Go.next ?_);refine Z6 (Vb (ds:=Rn 0 (rows.map Rw.d)) (fun i e=>∃ v6 v7:Slt,e=[.fz (Uy ns),.fz (.int (c:Int)),.fz (.bl free),.fz G.d,.fz (.lst (rows.map Rw.d)),.gx (.dict (Mb ((rows.take i).map Rw.st))),v6,v7,.un,.un,.un]) (Z1y rfl) ⟨.un,.un,rfl⟩ ?_ ?_)
 ·rintro i d e hi ⟨v6,v7,rfl⟩
  obtain ⟨x,hx,rfl⟩:=Rf hi;rw [getElem?_map] at hx;obtain ⟨r,hr,rfl⟩:=map_some hx;have hil:=(List.getElem?_eq_some_iff.mp hr).1;refine ⟨[.fz (Uy ns),.fz (.int (c:Int)),.fz (.bl free),.fz G.d,.fz (.lst (rows.map Rw.d)),.gx (.dict (Mb ((rows.take i).map Rw.st))),.fz (.int (i:Int)),.fz r.d,.un,.un,.un],rfl,⟨?_⟩⟩;have htk:rows.take (i+1)=rows.take i++[r]:=by rw [take_succ,hr];rfl
  have hnin:r.st∉(rows.take i).map Rw.st:=by
   have h1:((rows.take (i+1)).map Rw.st).Nodup:=hnd.sublist ((List.take_sublist _ _).map _);rw [htk,map_append] at h1;exact fun z=>(nodup_append.mp h1).2.2 _ z _ (mem_singleton.mpr rfl) rfl
  have hlt:((rows.take i).map Rw.st).length=i:=by rw [length_map,length_take];lia
  unfold S4;have hk:dS Kh (dV 7) Ja (Va (dC (.int 2))) [.fz (Uy ns),.fz (.int (c:Int)),.fz (.bl free),.fz G.d,.fz (.lst (rows.map Rw.d)),.gx (.dict (Mb ((rows.take i).map Rw.st))),.fz (.int (i:Int)),.fz r.d,.un,.un,.un]=some (Zl r.st):=Mr rfl rfl (V0 rfl) (Fo r);rw [hk];dsimp only [List.getElem?_cons_succ,List.getElem?_cons_zero,dV];rw [Q0];dsimp only;rw [if_pos ⟨by rw [Z1x,decide_eq_false hnin],by unfold Mb;rw [length_map,List.length_zipIdx,hlt,sizeLine_eq];lia⟩];refine ⟨.fz (.int (i:Int)),.fz r.d,?_⟩;have e1:Mb ((rows.take (i+1)).map Rw.st)=Mb ((rows.take i).map Rw.st)++[(Ur r.st,.int (i:Int))]:=by rw [htk,map_append,List.map_singleton,Z5s,hlt]
  rw [e1];rfl
 rintro e ⟨v6,v7,rfl⟩;have hall:rows.take (Rn 0 (rows.map Rw.d)).length=rows:=take_of_length_le (by rw [Tc,length_map];exact le_refl _);rw [hall];refine Z6 (Zg (d:=Zl (G.marks,G.code)) (Y5 (Z4 (Z5 rfl rfl rfl) (Z4 (Z5 rfl rfl rfl) rfl)) (by simp)) ?_);obtain ⟨M,hM,hM1,hM2⟩:∃ M:Nat,(Z2 (dC (.int 1)) (Z2 (dF Pj (Z2 (dC (.int 2)) (Z2 (dF N9 (Z2 (dC (.int 63)) (Z2 (dF Qh (Z2 (dV 0) Zc)) Zc))) Zc))) Zc)) [.fz (Uy ns),.fz (.int (c:Int)),.fz (.bl free),.fz G.d,.fz (.lst (rows.map Rw.d)),.gx (.dict (Mb (rows.map Rw.st))),v6,v7,.fz (Zl (G.marks,G.code)),.un,.un]=some [.int 1,.int (M:Int)]/\1<=M/\M<=1000:=by
  have e1:dF Qh (Z2 (dV 0) Zc) [.fz (Uy ns),.fz (.int (c:Int)),.fz (.bl free),.fz G.d,.fz (.lst (rows.map Rw.d)),.gx (.dict (Mb (rows.map Rw.st))),v6,v7,.fz (Zl (G.marks,G.code)),.un,.un]=some (.int ((ns.length:Nat):Int)):=Ys (Z4 rfl rfl) (Rh Dat.int ns);have e2:dF N9 (Z2 (dC (.int 63)) (Z2 (dF Qh (Z2 (dV 0) Zc)) Zc)) [.fz (Uy ns),.fz (.int (c:Int)),.fz (.bl free),.fz G.d,.fz (.lst (rows.map Rw.d)),.gx (.dict (Mb (rows.map Rw.st))),v6,v7,.fz (Zl (G.marks,G.code)),.un,.un]=some (.int (if (ns.length:Int)<63 then (ns.length:Int) else 63)):=Ys (Z4 rfl (Z4 e1 rfl)) rfl;have e3:(if (ns.length:Int)<63 then (ns.length:Int) else 63)=(ns.length:Int):=by split<;>lia
  rw [e3] at e2;refine ⟨if 2<ns.length then ns.length else 2,Z4 rfl (Z4 (Ys (Z4 rfl (Z4 e2 rfl)) ?_) rfl),by split<;>lia,by split<;>lia⟩;show some (Dat.int (if (ns.length:Int) > 2 then (ns.length:Int) else 2))=_;congr 2
  split<;>split<;>lia
 have hend:∀ (env:Ev) (v5:Slt),env[5]?=some v5->(v5=.gx (.dict (Mb (rows.map Rw.st)))\/v5=.fz (.dct (Tr (rows.map Rw.st))))->dP 5 env=some (.dct (Tr (rows.map Rw.st))):=fun env v5 h5 hv=>by
  unfold dP;rw [h5];rcases hv with rfl | rfl
  ·dsimp only;rw [As];rfl
  ·rfl
 have hlens:∀ (env:Ev) (v5:Slt),env[5]?=some v5->env[4]?=some (.fz (.lst (rows.map Rw.d)))->(v5=.gx (.dict (Mb (rows.map Rw.st)))\/v5=.fz (.dct (Tr (rows.map Rw.st))))->dO Jj (Fk (dP 5)) (dF Qh (Z2 (dV 4) Zc)) env=some (.bl true):=fun env v5 h5 h4 hv=>by
  have e1:Fk (dP 5) env=some (.int ((rows.length:Nat):Int)):=by
   unfold Fk;rw [hend env v5 h5 hv];dsimp only;rw [Z4l,length_map]
  exact (Z5 e1 (Ys (Z4 (x:=.lst (rows.map Rw.d)) (by unfold dV;rw [h4]) rfl) (Rh Rw.d rows)) (eqN _ _)).trans (by simp)
 refine Z6 (Vb (ds:=rng 1 (M - 1)) (fun _ e=>∃ (n:Nat) (r:Rw) (v5 v6 v7 v9 v10:Slt),e=[.fz (Uy ns),.fz (.int (c:Int)),.fz (.bl free),.fz G.d,.fz (.lst (rows.map Rw.d)),v5,v6,v7,.fz (Zl r.st),v9,v10]/\rows[n]?=some r/\(v5=.gx (.dict (Mb (rows.map Rw.st)))\/v5=.fz (.dct (Tr (rows.map Rw.st))))) (Z1w hM hM1 hM2) ⟨0,rw0 G,_,v6,v7,.un,.un,rfl,W.t.zero,.inl rfl⟩ ?_ ?_)
 ·rintro i d e hi ⟨n,r,v5,v6,v7,v9,v10,rfl,hr,hv5⟩
  obtain ⟨hi1,rfl⟩:=Z0z hi;refine ⟨_,rfl,?_⟩;have hfrz:frz 5 [.fz (Uy ns),.fz (.int (c:Int)),.fz (.bl free),.fz G.d,.fz (.lst (rows.map Rw.d)),v5,v6,v7,.fz (Zl r.st),.fz (.int ((1+i:Nat):Int)),v10]=[.fz (Uy ns),.fz (.int (c:Int)),.fz (.bl free),.fz G.d,.fz (.lst (rows.map Rw.d)),.fz (.dct (Tr (rows.map Rw.st))),v6,v7,.fz (Zl r.st),.fz (.int ((1+i:Nat):Int)),v10]:=by
   rcases hv5 with rfl | rfl
   ·unfold frz
    dsimp only [List.getElem?_cons_succ,List.getElem?_cons_zero];rw [As];rfl
   ·rfl
  refine Z6 ?_;show Go (Zr 10 (Yu Ub (Z2 (dV 3) (Z2 (dV 4) (Z2 (dV 5) (Z2 (dV 8) Zc))))) (frz 5 [.fz (Uy ns),.fz (.int (c:Int)),.fz (.bl free),.fz G.d,.fz (.lst (rows.map Rw.d)),v5,v6,v7,.fz (Zl r.st),.fz (.int ((1+i:Nat):Int)),v10])) _ _;rw [hfrz];refine Zg (Zq (xs:=[G.d,.lst (rows.map Rw.d),.dct (Tr (rows.map Rw.st)),Zl r.st]) rfl (Z27 hG W hr)) ?_;have hrm:=mem_of_getElem? hr;have hdead:((Qg G r.m).isEmpty&&!free)=false:=by
   cases hf:free with
   | true=>simp
   | false =>
    obtain ⟨I,hI⟩:=hcalm hf;obtain ⟨s,hs,hc⟩:=hI.live r.st (Fs hI.calm W.t r hrm);obtain ⟨k,hk⟩:=getElem?_of_mem hs;have:k∈Qg G r.m:=by
     unfold Qg;refine mem_filter.mpr ⟨mem_range.mpr (List.getElem?_eq_some_iff.mp hk).1,?_⟩;unfold M2;rw [hk];exact hc
    cases e:Qg G r.m with
    | nil=>rw [e] at this;cases this
    | cons a l=>rfl
  refine Z6 (Jn ((Xu (a:=false) (Yo (Z5 rfl rfl rfl)) fun _=>Sj (Yo (Z5 rfl rfl (Z6y _))) fun _=>B8 (Ek rfl)).trans (by rw [hdead];rfl)) (Wa ?_));refine Z6 (Qe (Yo (Z5 rfl rfl (Z6y _))) (fun _=>Ym (hlens _ _ rfl rfl (.inr rfl)) rfl) (fun hne=>Wa ?_));obtain ⟨x,ex,_⟩:=Mf ns (1+i) (by lia);have hpos:0<(Qg G r.m).length:=by
   cases e:Qg G r.m with
   | nil=>rw [e] at hne;cases hne
   | cons a l=>simp
  obtain ⟨k,hk⟩:∃ k,(Qg G r.m)[x % (Qg G r.m).length]?=some k:=⟨_,getElem?_eq_getElem (mod_lt _ hpos)⟩;obtain ⟨s,hs,hcan⟩:=Kz (X2 (mem_of_getElem? hk));have hm:=mem_of_getElem? hs;have hlen:Qh [.lst (Zd (Qg G r.m))]=some (.int ((Qg G r.m).length:Int)):=by
   show some (Dat.int ((Zd (Qg G r.m)).length:Int))=_;unfold Zd;rw [length_map,length_map]
  obtain ⟨q,eq,hq⟩:=Av s (hG.st s hm) hG.w2 r.m r.c (W7.mp hcan);rw [Ar (p:=r.st) (W.ok r hrm k s hs hcan) hq] at eq;obtain ⟨r',hr'm,hr's,_⟩:=W.cl n r hr k s hs hcan;obtain ⟨j,hj⟩:=getElem?_of_mem hr'm;refine Zg (d:=Zl (W1 s r.st)) (Zq (xs:=[s.d,Zl r.st]) (Z4 (Z5 (Z5 rfl rfl rfl) (Z5 rfl (Z5 (Zq (xs:=[Uy ns,.int ((1+i:Nat):Int)]) rfl ex) (Ys (Z4 rfl rfl) hlen) (Wq x _ hpos)) (Jx (x:=.int (k:Int)) (by unfold Zd;rw [getElem?_map,getElem?_map,hk];rfl))) (Z5h hs)) (Z4 rfl rfl)) eq) ⟨j,r',.fz (.dct (Tr (rows.map Rw.st))),v6,v7,_,_,by rw [hr's];rfl,hj,.inr rfl⟩
 ·rintro e ⟨n,r,v5,v6,v7,v9,v10,rfl,hr,hv5⟩
  exact Ym (Z59 (Fp (neg:=false) hnd (hat hr) rfl (hend _ _ rfl hv5)) (hlens _ _ rfl rfl hv5)) rfl
end K25
set_option maxHeartbeats 4000000
namespace K25
open PySem PySem.Spec PyProof.Rows L2
def DD (K:PySem.W.Frag) (n:Str) (st:Stmt):Prop:=∃ f oc od kV dc pm an cd ct sl,PySem.W.nsIn K mainGlobals n=some (some (.ref f))/\K.lookup f=some ⟨oc,od,.func (fnOf n n (Wi st) (Y6 st) (Z7 st) .none kV dc pm an cd ct),sl⟩/\codeIn K cd n=true/\PySem.W.keepIn K (.ref f)=true
theorem ddI {K:PySem.W.Frag} {n:Str} {st:Stmt} {f:Addr} {oc kV dc pm cd ct:Value} {od an:Option Addr} {sl:Array (Option Value)} (h1:PySem.W.nsIn K mainGlobals n=some (some (.ref f))) (h2:K.lookup f=some ⟨oc,od,.func (fnOf n n (Wi st) (Y6 st) (Z7 st) .none kV dc pm an cd ct),sl⟩) (h3:codeIn K cd n=true) (h4:PySem.W.keepIn K (.ref f)=true):DD K n st:=⟨f,oc,od,kV,dc,pm,an,cd,ct,sl,h1,h2,h3,h4⟩
theorem Ga {K:PySem.W.Frag} {h:Heap} {mg:Str->Option Value} (X:K.In h) (G:h.Ns mainGlobals mg) {n:Str} {st:Stmt} (d:DD K n st):Def K mg n st:=by
 obtain ⟨f,oc,od,kV,dc,pm,an,cd,ct,sl,h1,h2,h3,h4⟩:=d;exact ⟨_,_,Ha (st:=st) h2 h3 h4,mg_of X G h1⟩
abbrev DA (K:PySem.W.Frag) (n:Str) (f:Addr):Prop:=PySem.W.nsIn K mainGlobals n=some (some (.ref f))
abbrev DL (K:PySem.W.Frag) (n:Str) (st:Stmt) (f:Addr) (oc:Value) (od:Option Addr) (kV dc pm:Value) (an:Option Addr) (cd ct:Value) (sl:Array (Option Value)):Prop:=K.lookup f=some ⟨oc,od,.func (fnOf n n (Wi st) (Y6 st) (Z7 st) .none kV dc pm an cd ct),sl⟩
theorem Zdq {l:PySem.W.OpenLaw} {w:World} {K:PySem.W.Frag} {h:Heap} {mg:Str->Option Value} {fa:Addr} (X:K.In h) (G:h.Ns mainGlobals mg) (hfa:mg "law" = some (.ref fa))
  {f24:Addr} {od24 an24:Option Addr} {sl24:Array (Option Value)} {oc24 kV24 dc24 pm24 cd24 ct24:Value}
  {C_0:Addr}
  {C_1:Addr}
  {C_2:Addr}
  {C_8:Addr}
  {J_0:Addr} {qd_0 qa_0 qo_0:Option Addr} {qs_0 qt_0:Array (Option Value)} {qk_0 qc_0 kV_0 dc_0 pm_0 cv_0 ct_0:Value} {cd_0:ClassData}
  {J_1:Addr} {qd_1 qa_1 qo_1:Option Addr} {qs_1 qt_1:Array (Option Value)} {qk_1 qc_1 kV_1 dc_1 pm_1 cv_1 ct_1:Value} {cd_1:ClassData}
  {J_2:Addr} {qd_2 qa_2 qo_2:Option Addr} {qs_2 qt_2:Array (Option Value)} {qk_2 qc_2 kV_2 dc_2 pm_2 cv_2 ct_2:Value} {cd_2:ClassData}
  (a0:DD K "wire_of" Rc)
  (a1:DD K "is_rise" My)
  (a2:DD K "takes_of" Jq)
  (a3:DD K "fills_of" M0)
  (a4:DD K "bits" Nw)
  (a5:DD K "has_one" R7)
  (a6:DD K "can" Af)
  (a7:DD K "behind" Da)
  (a8:DD K "steps_at" Uo)
  (a9:DD K "way" B0)
  (a10:DD K "come_to" R9)
  (a11:DD K "stands" Sh)
  (a12:DD K "_law_mix" Jp)
  (a13:DD K "_law_word" Qo)
  (a14:DD K "_law_order" Tx)
  (a15:DD K "_law_arrows" T7)
  (a16:DD K "_law_graph" Y4)
  (a17:DD K "_law_choice" T6)
  (a18:DD K "_law_lookers" Wk)
  (a19:DD K "_law_can" Uh)
  (a20:DD K "_law_done" U3)
  (a21:DD K "_law_free_graph" Zy)
  (a22:DD K "_law_ahead" Tw)
  (a23:DD K "_law_told" Qj)
  (a24:DA K "law" f24) (l24:DL K "law" El f24 oc24 od24 kV24 dc24 pm24 an24 cd24 ct24 sl24) (c24:codeIn K cd24 "law" = true) (k24:PySem.W.keepIn K (.ref f24)=true)
  (z_abs:PySem.W.nsIn K mainGlobals "abs" = some none)
  (z_all:PySem.W.nsIn K mainGlobals "all" = some none)
  (z_any:PySem.W.nsIn K mainGlobals "any" = some none)
  (z_enumerate:PySem.W.nsIn K mainGlobals "enumerate" = some none)
  (z_isinstance:PySem.W.nsIn K mainGlobals "isinstance" = some none)
  (z_len:PySem.W.nsIn K mainGlobals "len" = some none)
  (z_list:PySem.W.nsIn K mainGlobals "list" = some none)
  (z_max:PySem.W.nsIn K mainGlobals "max" = some none)
  (z_min:PySem.W.nsIn K mainGlobals "min" = some none)
  (z_range:PySem.W.nsIn K mainGlobals "range" = some none)
  (z_reversed:PySem.W.nsIn K mainGlobals "reversed" = some none)
  (z_sorted:PySem.W.nsIn K mainGlobals "sorted" = some none)
  (z_str:PySem.W.nsIn K mainGlobals "str" = some none)
  (z_sum:PySem.W.nsIn K mainGlobals "sum" = some none)
  (z_tuple:PySem.W.nsIn K mainGlobals "tuple" = some none)
  (y_0:PySem.W.nsIn K mainGlobals "Broken" = some (some (.ref C_0)))
  (y_1:PySem.W.nsIn K mainGlobals "Crowded" = some (some (.ref C_1)))
  (y_2:PySem.W.nsIn K mainGlobals "TooMany" = some (some (.ref C_2)))
  (y_8:PySem.W.nsIn K mainGlobals "CalmError" = some (some (.ref C_8)))
  (b0:PySem.W.specialIn K (.ref C_8) "__getattribute__" = some (some (.builtin "type.__getattribute__"))) (b1:PySem.W.readsIn K C_8 (.type "type")=true) (b2:PySem.W.findCls K (.ref C_8) (.type "type") "__init__" = some (.val (.builtin "ValueError.__init__")))
  (o_0:K.lookup C_0=some ⟨qk_0,qd_0,.cls cd_0,qs_0⟩) (n_0:PySem.W.nsIn K cd_0.ns "__init__" = some (some (.ref J_0))) (jl_0:K.lookup J_0=some ⟨qc_0,qo_0,.func (fnOf "__init__" "Broken.__init__" (Wi i_0) (Y6 i_0) (Z7 i_0) .none kV_0 dc_0 pm_0 qa_0 cv_0 ct_0),qt_0⟩) (w_0:codeIn K cv_0 "Broken.__init__" = true) (p_0:PySem.W.keepIn K (.ref J_0)=true) (g_0:PySem.W.isFn K (.ref J_0)=true) (h_0:PySem.W.keepIn K (.ref C_0)=true)
  (x_0:Qx K C_0 J_0 C_8=true)
  (ra_0:PySem.W.findIn K (.ref C_0) "__class__" = some (some (.builtin "object.__class__"))) (rb_0:PySem.W.findIn K (.ref C_0) "__getattribute__" = some (some (.builtin "BaseException.__getattribute__"))) (rc_0:PySem.W.findIn K (.ref C_0) "__getattr__" = some none) (rd_0:PySem.W.findIn K (.ref C_0) "__setattr__" = some (some (.builtin "object.__setattr__"))) (re_0_way:PySem.W.findIn K (.ref C_0) "way" = some none)
  (s_0:PySem.W.exmOne K (.ref C_0) (.ref C_8)=some true)
  (e_0_0:PySem.W.exmOne K (.ref C_0) (.ref C_0)=some true)
  (e_0_1:PySem.W.exmOne K (.ref C_0) (.ref C_1)=some false)
  (o_1:K.lookup C_1=some ⟨qk_1,qd_1,.cls cd_1,qs_1⟩) (n_1:PySem.W.nsIn K cd_1.ns "__init__" = some (some (.ref J_1))) (jl_1:K.lookup J_1=some ⟨qc_1,qo_1,.func (fnOf "__init__" "Crowded.__init__" (Wi i_1) (Y6 i_1) (Z7 i_1) .none kV_1 dc_1 pm_1 qa_1 cv_1 ct_1),qt_1⟩) (w_1:codeIn K cv_1 "Crowded.__init__" = true) (p_1:PySem.W.keepIn K (.ref J_1)=true) (g_1:PySem.W.isFn K (.ref J_1)=true) (h_1:PySem.W.keepIn K (.ref C_1)=true)
  (x_1:Qx K C_1 J_1 C_8=true)
  (ra_1:PySem.W.findIn K (.ref C_1) "__class__" = some (some (.builtin "object.__class__"))) (rb_1:PySem.W.findIn K (.ref C_1) "__getattribute__" = some (some (.builtin "BaseException.__getattribute__"))) (rc_1:PySem.W.findIn K (.ref C_1) "__getattr__" = some none) (rd_1:PySem.W.findIn K (.ref C_1) "__setattr__" = some (some (.builtin "object.__setattr__"))) (re_1_way:PySem.W.findIn K (.ref C_1) "way" = some none)
  (s_1:PySem.W.exmOne K (.ref C_1) (.ref C_8)=some true)
  (e_1_0:PySem.W.exmOne K (.ref C_1) (.ref C_0)=some false)
  (e_1_1:PySem.W.exmOne K (.ref C_1) (.ref C_1)=some true)
  (o_2:K.lookup C_2=some ⟨qk_2,qd_2,.cls cd_2,qs_2⟩) (n_2:PySem.W.nsIn K cd_2.ns "__init__" = some (some (.ref J_2))) (jl_2:K.lookup J_2=some ⟨qc_2,qo_2,.func (fnOf "__init__" "TooMany.__init__" (Wi i_2) (Y6 i_2) (Z7 i_2) .none kV_2 dc_2 pm_2 qa_2 cv_2 ct_2),qt_2⟩) (w_2:codeIn K cv_2 "TooMany.__init__" = true) (p_2:PySem.W.keepIn K (.ref J_2)=true) (g_2:PySem.W.isFn K (.ref J_2)=true) (h_2:PySem.W.keepIn K (.ref C_2)=true)
  (x_2:Qx K C_2 J_2 C_8=true)
  (ra_2:PySem.W.findIn K (.ref C_2) "__class__" = some (some (.builtin "object.__class__"))) (rb_2:PySem.W.findIn K (.ref C_2) "__getattribute__" = some (some (.builtin "BaseException.__getattribute__"))) (rc_2:PySem.W.findIn K (.ref C_2) "__getattr__" = some none) (rd_2:PySem.W.findIn K (.ref C_2) "__setattr__" = some (some (.builtin "object.__setattr__"))) (re_2_way:PySem.W.findIn K (.ref C_2) "way" = some none)
  (s_2:PySem.W.exmOne K (.ref C_2) (.ref C_8)=some true)
  (e_2_0:PySem.W.exmOne K (.ref C_2) (.ref C_0)=some false)
  (e_2_1:PySem.W.exmOne K (.ref C_2) (.ref C_1)=some false) :
  ∃ fd:FuncData,(∀ (s:Shared) (v:Value),BindsTo s fd ⟨[v],[]⟩ [("_law_script",v)])/\∀ base:Heap,K.In base->base.Ns mainGlobals mg->FnOk l.prog w K mg base Sc 7 fa fd N39_ (Po K):=by
 have e:=hfa.symm.trans (mg_of X G a24);cases e;have xc_0:XCls K C_0:=O7 x_0 ra_0 rb_0 rc_0 rd_0;have xc_1:XCls K C_1:=O7 x_1 ra_1 rb_1 rc_1 rd_1;have xc_2:XCls K C_2:=O7 x_2 ra_2 rb_2 rc_2 rd_2;have B:BaseC K mg C_8:=⟨mg_of X G y_8,b0,b1,b2⟩;have T:Txt K mg:={ b_abs:=mg_none_of X G z_abs,b_all:=mg_none_of X G z_all,b_any:=mg_none_of X G z_any,b_enumerate:=mg_none_of X G z_enumerate,b_isinstance:=mg_none_of X G z_isinstance,b_len:=mg_none_of X G z_len,b_list:=mg_none_of X G z_list,b_max:=mg_none_of X G z_max,b_min:=mg_none_of X G z_min,b_range:=mg_none_of X G z_range,b_reversed:=mg_none_of X G z_reversed,b_sorted:=mg_none_of X G z_sorted,b_str:=mg_none_of X G z_str,b_sum:=mg_none_of X G z_sum,b_tuple:=mg_none_of X G z_tuple,q_0:=Al (mg_of X G y_0) (forall_mem_cons.mpr ⟨⟨C_0,y_0,e_0_0.trans (by decide +kernel)⟩,(forall_mem_cons.mpr ⟨⟨C_1,y_1,e_1_0.trans (by decide +kernel)⟩,(forall_mem_cons.mpr ⟨⟨C_2,y_2,e_2_0.trans (by decide +kernel)⟩,(fun _ h=>nomatch h)⟩)⟩)⟩),q_1:=Al (mg_of X G y_1) (forall_mem_cons.mpr ⟨⟨C_0,y_0,e_0_1.trans (by decide +kernel)⟩,(forall_mem_cons.mpr ⟨⟨C_1,y_1,e_1_1.trans (by decide +kernel)⟩,(forall_mem_cons.mpr ⟨⟨C_2,y_2,e_2_1.trans (by decide +kernel)⟩,(fun _ h=>nomatch h)⟩)⟩)⟩),u_8:=Z3z (mg_of X G y_8) (forall_mem_cons.mpr ⟨⟨C_0,y_0,s_0⟩,(forall_mem_cons.mpr ⟨⟨C_1,y_1,s_1⟩,(forall_mem_cons.mpr ⟨⟨C_2,y_2,s_2⟩,(fun _ h=>nomatch h)⟩)⟩)⟩) };have D_wire_of:=Ga X G a0;have D_is_rise:=Ga X G a1;have D_takes_of:=Ga X G a2;have D_fills_of:=Ga X G a3;have D_bits:=Ga X G a4;have D_has_one:=Ga X G a5;have D_can:=Ga X G a6;have D_behind:=Ga X G a7;have D_steps_at:=Ga X G a8;have D_way:=Ga X G a9;have D_come_to:=Ga X G a10;have D_stands:=Ga X G a11;have D__law_mix:=Ga X G a12;have D__law_word:=Ga X G a13;have D__law_order:=Ga X G a14;have D__law_arrows:=Ga X G a15;have D__law_graph:=Ga X G a16;have D__law_choice:=Ga X G a17;have D__law_lookers:=Ga X G a18;have D__law_can:=Ga X G a19;have D__law_done:=Ga X G a20;have D__law_free_graph:=Ga X G a21;have D__law_ahead:=Ga X G a22;have D__law_told:=Ga X G a23;have F24:=Ha (st:=El) l24 c24 k24;refine ⟨fnOf "law" "law" (Wi El) (Y6 El) (Z7 El) .none kV24 dc24 pm24 an24 cd24 ct24,fun s v=>.of_eq rfl,fun base _ _=>?_⟩;have M_0:=m_0 (P:=l.prog) (w:=w) (base:=base) B (Ha (st:=i_0) jl_0 w_0 p_0) y_0 (mg_of X G y_0) h_0 x_0 xc_0 re_0_way g_0 (mg_none_of X G z_list);have M_1:=m_1 (P:=l.prog) (w:=w) (base:=base) B (Ha (st:=i_1) jl_1 w_1 p_1) y_1 (mg_of X G y_1) h_1 x_1 xc_1 re_1_way g_1 (mg_none_of X G z_list);have M_2:=m_2 (P:=l.prog) (w:=w) (base:=base) B (Ha (st:=i_2) jl_2 w_2 p_2) y_2 (mg_of X G y_2) h_2 x_2 xc_2  g_2 (mg_none_of X G z_list);have C_wire_of:=C2 (P:=l.prog) (w:=w) (base:=base) D_wire_of T;have C_is_rise:=Cv (P:=l.prog) (w:=w) (base:=base) D_is_rise T;have C_takes_of:=Xy (P:=l.prog) (w:=w) (base:=base) D_takes_of T;have C_fills_of:=X7 (P:=l.prog) (w:=w) (base:=base) D_fills_of T;have C_bits:=Z9e (P:=l.prog) (w:=w) (base:=base) D_bits T;have C_has_one:=Bt (P:=l.prog) (w:=w) (base:=base) D_has_one T;have C_can:=Zbg (P:=l.prog) (w:=w) (base:=base) D_can T C_bits C_takes_of;have C_behind:=Z0f (P:=l.prog) (w:=w) (base:=base) D_behind T M_0.x M_1.x C_wire_of C_bits C_has_one C_is_rise C_fills_of C_takes_of;have C_steps_at:=Xp (P:=l.prog) (w:=w) (base:=base) D_steps_at T C_can;have C_way:=Zb5 (P:=l.prog) (w:=w) (base:=base) D_way T;have C_come_to:=Bi (P:=l.prog) (w:=w) (base:=base) D_come_to T M_0 M_1 C_behind C_way;have C_stands:=Z2z (P:=l.prog) (w:=w) (base:=base) D_stands T M_2 C_steps_at C_come_to;have C__law_mix:=F3 (P:=l.prog) (w:=w) (base:=base) D__law_mix T;have C__law_word:=Pw (P:=l.prog) (w:=w) (base:=base) D__law_word T;have C__law_order:=Nu (P:=l.prog) (w:=w) (base:=base) D__law_order T C__law_mix;have C__law_arrows:=Kn (P:=l.prog) (w:=w) (base:=base) D__law_arrows T C__law_mix;have C__law_graph:=Nm (P:=l.prog) (w:=w) (base:=base) D__law_graph T C__law_order C__law_mix C__law_arrows C__law_word;have C__law_choice:=Kk (P:=l.prog) (w:=w) (base:=base) D__law_choice T C__law_mix C__law_word;have C__law_lookers:=Gv (P:=l.prog) (w:=w) (base:=base) D__law_lookers T;have C__law_can:=Fg (P:=l.prog) (w:=w) (base:=base) D__law_can T;have C__law_done:=Pa (P:=l.prog) (w:=w) (base:=base) D__law_done T;have C__law_free_graph:=Se (P:=l.prog) (w:=w) (base:=base) D__law_free_graph T C__law_word;have C__law_ahead:=Ly (P:=l.prog) (w:=w) (base:=base) D__law_ahead T C__law_can C_can C__law_done C_behind;have C__law_told:=Ov (P:=l.prog) (w:=w) (base:=base) D__law_told T C_stands;exact Zai F24 T C__law_mix C__law_told C__law_free_graph C__law_lookers C__law_ahead C__law_done C__law_choice C__law_graph Z7k
theorem Zfi {l:PySem.W.OpenLaw} {q:Program} {loose:List Str} {XP:(Str->Option Value)->Heap->Prop} {YP:World->Heap->Prop} {d:DefRec} {K:Params->PySem.W.Frag} (hn:l.most=some 63) (hdf:d.params.defaults=[])
  (hY:∀ (w:World) (h:Heap),YP w h->(K w.params).In h)
  (F:∀ (w:World) (mg:Str->Option Value) (fa:Addr) (h:Heap),(K w.params).In h->h.Ns mainGlobals mg->mg d.name=some (.ref fa) ->
   ∃ fd:FuncData,(∀ (s:Shared) (u:Value),BindsTo s fd ⟨[u],[]⟩ [("_law_script",u)])/\∀ base:Heap,(K w.params).In base->base.Ns mainGlobals mg->FnOk l.prog w (K w.params) mg base Sc 7 fa fd N39_ (Po (K w.params))) :
  PySem.W.WalkO q loose XP YP l.row.toRowW d [] (fun f vs=>PySem.call f vs) :=
 L2.Zci (n:=63) (k:=7) (x:="_law_script") (CX:=fun _=>Sc) (sp:=fun w=>Po (K w.params)) hn (by decide) hdf ⟨rfl,by decide,by decide,rfl⟩ hY F (fun _ _ a ns hl _ hS=>⟨a,ns,rfl,hS,hl,fun _=>rfl⟩) fun _ _ _ _ _ z=>z
end K25
open PySem PySem.W PyProof.Rows
set_option maxRecDepth 100000 in
set_option maxHeartbeats 0 in
theorem PySem.Challenge.cw_calmwires_k25_whole_any_walk_is_there_holds : PySem.Challenge.rw_calmwires_k25_whole_any_walk_is_there.Holds := by
 refine theTop ?_
 k_fill;refine K25.Zfi (l:=PySem.Challenge.rw_calmwires_k25_whole_any_walk_is_there) rfl rfl (fun w h Y=>PySem.W.kIn_of Y) ?F
 case F =>
   intro w mg fa h KX G hmg;refine' K25.Zdq KX G hmg ?a0 ?a1 ?a2 ?a3 ?a4 ?a5 ?a6 ?a7 ?a8 ?a9 ?a10 ?a11 ?a12 ?a13 ?a14 ?a15 ?a16 ?a17 ?a18 ?a19 ?a20 ?a21 ?a22 ?a23 ?a24 ?l24 ?c24 ?k24 ?z_abs ?z_all ?z_any ?z_enumerate ?z_isinstance ?z_len ?z_list ?z_max ?z_min ?z_range ?z_reversed ?z_sorted ?z_str ?z_sum ?z_tuple ?y_0 ?y_1 ?y_2 ?y_8 ?b0 ?b1 ?b2 ?o_0 ?n_0 ?jl_0 ?w_0 ?p_0 ?g_0 ?h_0 ?x_0 ?ra_0 ?rb_0 ?rc_0 ?rd_0 ?re_0_way ?s_0 ?e_0_0 ?e_0_1 ?o_1 ?n_1 ?jl_1 ?w_1 ?p_1 ?g_1 ?h_1 ?x_1 ?ra_1 ?rb_1 ?rc_1 ?rd_1 ?re_1_way ?s_1 ?e_1_0 ?e_1_1 ?o_2 ?n_2 ?jl_2 ?w_2 ?p_2 ?g_2 ?h_2 ?x_2 ?ra_2 ?rb_2 ?rc_2 ?rd_2 ?re_2_way ?s_2 ?e_2_0 ?e_2_1
   case a24 | l24 | c24 | k24 | z_abs | z_all | z_any | z_enumerate | z_isinstance | z_len | z_list | z_max | z_min | z_range | z_reversed | z_sorted | z_str | z_sum | z_tuple | y_0 | y_1 | y_2 | y_8 | b0 | b1 | b2 | o_0 | n_0 | jl_0 | w_0 | p_0 | g_0 | h_0 | ra_0 | rb_0 | rc_0 | rd_0 | re_0_way | o_1 | n_1 | jl_1 | w_1 | p_1 | g_1 | h_1 | ra_1 | rb_1 | rc_1 | rd_1 | re_1_way | o_2 | n_2 | jl_2 | w_2 | p_2 | g_2 | h_2 | ra_2 | rb_2 | rc_2 | rd_2 | re_2_way=>first | k_is | (unfold K25.DA;k_is) | (unfold K25.DL;k_is)
   case a0 | a1 | a2 | a3 | a4 | a5 | a6 | a7 | a8 | a9 | a10 | a11 | a12 | a13 | a14 | a15 | a16 | a17 | a18 | a19 | a20 | a21 | a22 | a23=>refine' K25.ddI ?h1 ?h2 ?h3 ?h4;case h1 | h2 | h3 | h4=>k_is
   case x_0 | x_1 | x_2=>kernel_rfl!
   case s_0 | e_0_0 | e_0_1 | s_1 | e_1_0 | e_1_1 | s_2 | e_2_0 | e_2_1=>kts_exm
